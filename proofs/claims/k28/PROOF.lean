import PyProof.Rows.All
import Wide.All
import OpenK.AllK
import Wide.FinOn
import Lean
import PyProof.EqAt
import PyProof.EqKinds
import PyProof.TupleCall
import KE.IntBitsLaws
import PyProof.ZipIter
import PyProof.ListMulRoad
import PyProof.AutoListH
import PyProof.Rows.SeqMore
import PyProof.Rows.SumAny
import PyProof.SliceStr2
import PyProof.WalksMore
import KE.KSortTup
import PyProof.AttrMissHeap
import PyProof.TupleIter
import KE.KDictOf
import PyProof.DictWalks
import PyProof.DictValues
import KE.KDictList
import PyProof.Rows.MinMaxN
import PyProof.Rows.TupDisplay
import PyProof.DictTruth
import PyProof.Rows.SortRev
import PyProof.Rows.CallKwBuiltin
import PyProof.EnumMake
import PyProof.Rows.StrJoin2
import PyProof.StrBlockG
import PyProof.Rows.Digits
import PyProof.Rows.StrOr
import PyProof.StrCalls2
import PyProof.StrBlock2
import KE.KIntText
import KE.KRevIter
import KE.LcSums
import PyProof.StationsW
import PyProof.Rows.CatchBare
import OpenK.KRaise
import KE.KIsAll
import OpenK.KOwn
import PyProof.ExcInit
import KE.KLam
import PyProof.ListRange
import KE.KEqDict
import PySem.Challenge.RW_earlystop_k28_whole_turned_shares
set_option Elab.async false
set_option linter.all false
set_option maxHeartbeats 0
set_option maxRecDepth 100000
theorem Oo{p:Prop}(h:p:=by omega):p:=h
theorem Dd{p:Prop}(h:p:=by decide):p:=h
theorem Kk{p:Prop}(h:p:=by decide +kernel):p:=h
namespace PySem
abbrev aA:=@List.length_map
abbrev aB:=@Heap.get?_push_of_some
abbrev aC:=@List.getElem?_map
abbrev aD:=@List.getElem?_eq_getElem
abbrev aF:=@List.getD_eq_getElem?_getD
abbrev aG:=@List.mem_cons_self
abbrev aH:=@List.mem_cons_of_mem
abbrev aK:=@List.mem_map
abbrev aL:=@List.mem_append_right
abbrev aM:=@Nat.le_refl
abbrev aP:=@Heap.get?_push_size
abbrev aQ:=@List.size_toArray
abbrev aT:=@Heap.lt_size
abbrev aV:=@List.mem_cons
abbrev aY:=@List.getElem?_eq_some_iff
abbrev aZ:=@List.map_cons
abbrev bA:=@Nat.lt_of_lt_of_le
abbrev bC:=@Nat.lt_of_le_of_lt
abbrev bD:=@List.mem_of_getElem?
abbrev bF:=@List.map_append
abbrev bG:=@Nat.le_trans
abbrev bH:=@List.getElem?_eq_none
abbrev bI:=@List.length_append
abbrev bL:=@List.length_cons
abbrev bM:=@List.mem_singleton
abbrev bN:=@Bool.false_ne_true
abbrev bO:=@List.length_range
abbrev bS:=@Nat.ne_of_lt
abbrev bT:=@Nat.lt_irrefl
abbrev bU:=@List.length_replicate
abbrev bX:=@List.mem_range
abbrev bZ:=@List.map_congr_left
abbrev cE:=@decide_eq_true
abbrev cK:=@Nat.zero_le
abbrev cL:=@Bool.and_eq_true
abbrev cM:=@List.mem_append
abbrev cO:=@List.getElem?_range
abbrev cQ:=@List.mem_append_left
abbrev cS:=@List.mem_iff_getElem?
abbrev cU:=@Heap.get?_update_ne
abbrev dC:=@decide_eq_false
abbrev dE:=@List.length_take
abbrev dH:=@Option.map_eq_some_iff
abbrev dI:=@List.mem_filter
abbrev eC:=@Heap.size_push
abbrev eQ:=@List.take_add_one
abbrev eS:=@Option.some.inj
abbrev fB:=@Nat.pow_le_pow_right
abbrev fC:=@Int.natAbs_mul
abbrev hV:=@List.take_length
end PySem
open PySem
namespace L2
open PySem PySem.Spec PyProof.Rows
abbrev eA:=Sum Int Str
def yQ:eA->Value->Bool
 | .inl k,v=>Value.isInt k v
 | .inr x,v=>Value.isStrOf x v
def aEf(w:World):eA->Int
 | .inl k=>hashInt k
 | .inr x=>hashStr w x
theorem fD:∀{k:eA}{v:Value},yQ k v=true->(∃i t,k=Sum.inl i/\v=Value.int i t)\/(∃x t,k=Sum.inr x/\v=Value.str x t)
 | .inl i,v,h=>by
  obtain ⟨t,e⟩:=Value.isInt_shape (k:=i) (v:=v) h;exact .inl ⟨i,t,rfl,e⟩
 | .inr x,v,h=>by
  obtain ⟨t,e⟩:=Value.isStrOf_shape (x:=x) (v:=v) h;exact .inr ⟨x,t,rfl,e⟩
theorem KP(i:Int)(t:Tok):yQ (.inl i) (.int i t)=true:=by simp [yQ,Value.isInt]
theorem KO(x:Str)(t:Tok):yQ (.inr x) (.str x t)=true:=by simp [yQ,Value.isStrOf]
theorem aA0(a b:Int):decide ((Sum.inl a:eA)=Sum.inl b)=(a == b):=by
 by_cases e:a=b
 ·subst e;simp
 ·have h:¬(Sum.inl a:eA)=Sum.inl b:=λq=>e (Sum.inl.inj q);rw [dC h];exact (beq_eq_false_iff_ne.mpr e).symm
theorem aAX(a b:Str):decide ((Sum.inr a:eA)=Sum.inr b)=decide (a=b):=by
 by_cases e:a=b
 ·subst e;simp
 ·have h:¬(Sum.inr a:eA)=Sum.inr b:=λq=>e (Sum.inr.inj q);rw [dC h,dC e]
theorem aAZ(a:Int)(b:Str):decide ((Sum.inl a:eA)=Sum.inr b)=false:=dC (λq=>nomatch q)
theorem aAY(a:Str)(b:Int):decide ((Sum.inr a:eA)=Sum.inl b)=false:=dC (λq=>nomatch q)
def dQ(prog:Program)(w:World):PySem.KeyKind prog w eA where
 is:=yQ
 hash:=aEf w
 inj:=λv a b ha hb=>by
  rcases fD ha with ⟨i,t,rfl,rfl⟩ | ⟨x,t,rfl,rfl⟩
  ·rcases fD hb with ⟨j,u,rfl,e⟩ | ⟨y,u,rfl,e⟩
   ·injection e with e1 _;rw [e1]
   ·exact nomatch e
  ·rcases fD hb with ⟨j,u,rfl,e⟩ | ⟨y,u,rfl,e⟩
   ·exact nomatch e
   ·injection e with e1 _;rw [e1]
 byValue:=λk v h=>by
  rcases fD h with ⟨i,t,rfl,rfl⟩ | ⟨x,t,rfl,rfl⟩ <;> rfl
 pyHash:=λhv h=>by
  rcases fD hv with ⟨i,t,rfl,rfl⟩ | ⟨x,t,rfl,rfl⟩
  ·exact wpAny_pyHash_int h
  ·exact wpAny_pyHash_str h
 eqBool:=λhu hv h=>by
  rcases fD hu with ⟨i,t,rfl,rfl⟩ | ⟨x,t,rfl,rfl⟩
  ·rcases fD hv with ⟨j,u,rfl,rfl⟩ | ⟨y,u,rfl,rfl⟩
   ·rw [aA0] at h;exact wpAny_eqBool_int h
   ·rw [aAZ] at h;exact SeqAt.EqAt.int_str i t y u _ _ _ _ h
  ·rcases fD hv with ⟨j,u,rfl,rfl⟩ | ⟨y,u,rfl,rfl⟩
   ·rw [aAY] at h;exact SeqAt.EqAt.str_int x t j u _ _ _ _ h
   ·rw [aAX] at h;exact wpAny_eqBool_str h
 «strs» := λk x t v h=>by
  rcases fD h with ⟨i,u,rfl,e⟩ | ⟨y,u,rfl,e⟩
  ·exact nomatch e
  ·injection e with e1 _;subst e1;cases v <;> rfl
theorem DA(prog:Program)(w:World)(i:Int)(t:Tok):(dQ prog w).is (.inl i) (.int i t)=true:=KP i t
theorem CZ(prog:Program)(w:World)(x:Str)(t:Tok):(dQ prog w).is (.inr x) (.str x t)=true:=KO x t
inductive V where
 | non | bl (b:Bool) | int (i:Int) | str (x:Str) | byt (b:Array UInt8) | flt (b:UInt64) | ref (a:Addr) | ty (n:String)
 deriving DecidableEq
def dF:V->Value->Prop
 | .non,u=>u=Value.none
 | .bl b,u=>u=Value.bool b
 | .int i,u=>∃t,u=Value.int i t
 | .str x,u=>∃t,u=Value.str x t
 | .byt b,u=>∃t,u=Value.bytes b t
 | .flt b,u=>∃t,u=Value.float b t
 | .ref a,u=>u=Value.ref a
 | .ty n,u=>u=Value.type n
abbrev cV:List V->List Value->Prop:=Paired dF
theorem cV.length{xs:List V}{us:List Value}(r:cV xs us):xs.length=us.length:=Paired.length r
theorem cV.get:∀{xs:List V}{us:List Value}{i:Nat}{x:V},cV xs us->xs[i]?=some x->∃u,us[i]?=some u/\dF x u
 | _,_,_,_,.nil,e=>by simp at e
 | _,_,0,_,.cons r _,e=>by simp at e;subst e;exact ⟨_,rfl,r⟩
 | _,_,i+1,x,.cons _ t,e=>by
  obtain ⟨u,h1,h2⟩:=cV.get (i:=i) (x:=x) t (by simpa using e);exact ⟨u,by simpa using h1,h2⟩
theorem cV.set{x:V}{u:Value}(r:dF x u):∀{xs:List V}{us:List Value}(i:Nat),cV xs us->cV (xs.set i x) (us.set i u)
 | _,_,_,.nil=>.nil
 | _,_,0,.cons _ t=>.cons r t
 | _,_,i+1,.cons q t=>.cons q (cV.set r i t)
theorem cV.append:∀{xs ys:List V}{us ws:List Value},cV xs us->cV ys ws->cV (xs++ys) (us++ws)
 | _,_,_,_,.nil,s=>s
 | _,_,_,_,.cons r t,s=>.cons r (cV.append t s)
theorem cV.take:∀{xs:List V}{us:List Value}(n:Nat),cV xs us->cV (xs.take n) (us.take n)
 | _,_,0,_=>.nil
 | _,_,_+1,.nil=>.nil
 | _,_,n+1,.cons r t=>.cons r (cV.take n t)
theorem cV.drop:∀{xs:List V}{us:List Value}(n:Nat),cV xs us->cV (xs.drop n) (us.drop n)
 | _,_,0,r=>r
 | _,_,_+1,.nil=>.nil
 | _,_,n+1,.cons _ t=>cV.drop n t
def uI:Option V->Option Value->Prop
 | some v,some u=>dF v u
 | none,none=>True
 | _,_=>False
def KV{κ:Type}:List (κ × V)->List (κ × Value)->Prop:=Paired λ(p:κ × V) (q:κ × Value)=>p.1=q.1/\dF p.2 q.2
def kV:eA->V
 | .inl i=>.int i
 | .inr x=>.str x
inductive HO where
 /-- a list -/
 | lst (xs:List V)
 /-- a tuple (never changes) -/
 | tup (xs:List V)
 /-- a dict whose keys are ints and texts;one whose keys are tuples of ints and texts (the empty one is both) -/
 | dK (kvs:List (eA × V)) | dT (kvs:List (List eA × V))
 /-- a set of ints: its members,its size -/
 | set (S:Int->Bool) (n:Nat)
 /-- an instance of the class at C,its dict at dx,its attributes -/
 | ins (C dx:Addr) (fs:List (Str × V))
 /-- the dict of the instance at x -/
 | own (x:Addr)
 /-- the dict of an exception -/
 | xd (fs:List (Str × V))
 /-- a bound method,f of x -/
 | met (f x:Addr)
 /-- a range object lo,lo+1,.. below hi -/
 | rng (lo hi:Int)
 /-- a thing that is known to the object (the script;a dict while a loop walks it): read,never written while it is so -/
 | frz (o:Obj) (u:HO)
 /-- a code object's table -/
 | tbl (ps:Array Value)
 /-- any other thing,by what is true of its one object (a def of one's own: SetO a S n:=HO.ext λh=>..) -/
 | ext (φ:Heap->Prop)
abbrev Hp:=Addr->Option HO
def upd(H:Hp)(a:Addr)(o:HO):Hp:=λb=>if b=a then some o else H b
theorem bE{H:Hp}{a:Addr}{o:HO}:upd H a o a=some o:=by unfold upd;rw [if_pos rfl]
theorem bP{H:Hp}{a b:Addr}{o:HO}(h:b≠a):upd H a o b=H b:=by unfold upd;rw [if_neg h]
theorem AB{H:Hp}{a:Addr}{o u:HO}:upd (upd H a o) a u=upd H a u:=by
 funext b;unfold upd;split <;> rfl
theorem mE{H:Hp}{a b:Addr}{o u:HO}(h:H a=some o)(h':H b=some u)(d:o≠u):a≠b:=by
 intro e;subst e;rw [h] at h';exact d (eS h')
theorem cW{H:Hp}{a b:Addr}{o:HO}(h:H a=some o)(h':H b=none):a≠b:=by
 intro e;subst e;rw [h] at h';cases h'
section
variable(P:Program)(w:World)
def dM(H:Hp)(h:Heap)(a:Addr):HO->Prop
 | .lst xs=>xs.length<=sizeLine/\∃(its:List Value) (n:Nat),cV xs its/\h.get? a=some { cls:=.type "list",data:=.seq its.toArray n }
 | .tup xs=>(xs.length<=sizeLine/\∃o,h.get? a=some o/\o.dict=none)/\∃its:List Value,cV xs its/\IsTup h a its.toArray
 | .dK kvs=>kvs.length<=sizeLine/\(a == sysModules)=false/\∃vs,KV kvs vs/\h.DictOf (dQ P w) a vs
 | .dT kvs=>kvs.length<=sizeLine/\(a == sysModules)=false/\∃xs:List (List eA × Addr × Value),
   Paired (λ(p:List eA × V) (q:List eA × Addr × Value)=>p.1=q.1/\H q.2.1=some (.tup (p.1.map kV))/\dF p.2 q.2.2) kvs xs /\
   ∃o es ep,h.get? a=some o/\o.ExactDict/\o.data=.dict es ep/\es.toList=xs.map (entryOfKey (tupleKind (dQ P w)))/\(xs.map (·.1)).Nodup
 | .set S n=>h.SetOf (intKind P w) a S n
 | .ins C dx fs=>H dx=some (.own a)/\fs.length<=1000/\dx≠a/\h.get? a=some (PySem.W.instObj C dx) /\
   ∃mA,h.Ns1 dx mA/\(∀f,uI (fs.lookup f) (mA f))/\PySem.Within mA (fs.map (·.1))
 | .own _=>∃o,h.get? a=some o
 | .xd fs=>∃mA,h.Ns1 a mA/\∀f,uI (fs.lookup f) (mA f)
 | .rng lo hi=>∃t u v,h.get? a=some { cls:=.type "range",data:=.fields #[.int lo t,.int hi u,.int 1 v] }
 | .frz o u=>h.get? a=some o/\dM H h a u
 | .tbl ps=>h.get? a=some { cls:=.none,data:=.fields ps }
 | .met f x=>h.get? a=some (PySem.W.methodObj (.ref f) (.ref x))
 | .ext φ=>φ h/\(∃o,h.get? a=some o)/\∀h1 h2:Heap,φ h1->(∀o,h1.get? a=some o->h2.get? a=some o)->φ h2
def nU(H:Hp)(h:Heap):Prop:=∀a o,H a=some o->dM P w H h a o
end
section
variable{P:Program}{w:World}{H H':Hp}{h h':Heap}{a:Addr}{o:HO}
theorem dM.lt(x:dM P w H h a o):a<h.objs.size:=by
 cases o with
 | lst xs=>obtain ⟨_,_,_,_,e⟩:=x;exact aT e
 | tup xs=>obtain ⟨_,_,_,p⟩:=x;exact p.lt
 | dK kvs=>obtain ⟨_,_,_,_,o,_,_,e,_⟩:=x;exact aT e
 | dT kvs=>obtain ⟨_,_,_,_,o,_,_,e,_⟩:=x;exact aT e
 | set S n=>obtain ⟨o,_,_,_,e,_⟩:=x;exact aT e
 | ins C dx fs=>obtain ⟨_,_,_,e,_⟩:=x;exact aT e
 | own y=>obtain ⟨_,e⟩:=x;exact aT e
 | xd fs=>obtain ⟨_,⟨_,_,_,e,_⟩,_⟩:=x;exact aT e
 | rng lo hi=>obtain ⟨_,_,_,e⟩:=x;exact aT e
 | frz ob u=>obtain ⟨e,_⟩:=x;exact aT e
 | tbl ps=>exact aT (show h.get? a=some _ from x)
 | met f y=>exact aT (show h.get? a=some _ from x)
 | ext φ=>obtain ⟨_,⟨_,e⟩,_⟩:=x;exact aT e
theorem Paired.mapP{α β:Type}{F G:α->β->Prop}:∀{l₁:List α}{l₂:List β},Paired F l₁ l₂->(∀a b,F a b->G a b)->Paired G l₁ l₂
 | _,_,.nil,_=>.nil
 | _,_,.cons r t,f=>.cons (f _ _ r) (Paired.mapP t f)
theorem Paired.imp'{α β:Type}{F G:α->β->Prop}(f:∀a b,F a b->G a b){l₁:List α}{l₂:List β}(r:Paired F l₁ l₂):Paired G l₁ l₂:=Paired.mapP r f
theorem dM.stay(x:dM P w H h a o)(k:∀b u,(b=a\/H b=some (.own a))->h.get? b=some u->h'.get? b=some u)
  (ho:∀b,H b=some (.own a)->H' b=some (.own a)) (ht:∀b xs,H b=some (.tup xs)->H' b=some (.tup xs)):dM P w H' h' a o:=by
 induction o with
 | lst xs=>obtain ⟨z,its,n,r,e⟩:=x;exact ⟨z,its,n,r,k _ _ (.inl rfl) e⟩
 | tup xs=>obtain ⟨⟨z,on,en,dn⟩,its,r,ob,e,c⟩:=x;exact ⟨⟨z,on,k _ _ (.inl rfl) en,dn⟩,its,r,ob,k _ _ (.inl rfl) e,c⟩
 | dK kvs=>obtain ⟨z,y,vs,r,ob,es,ep,e,c⟩:=x;exact ⟨z,y,vs,r,ob,es,ep,k _ _ (.inl rfl) e,c⟩
 | dT kvs =>
  obtain ⟨z,y,xs,r,ob,es,ep,e,c⟩:=x;exact ⟨z,y,xs,Paired.mapP r λp q z=>⟨z.1,ht _ _ z.2.1,z.2.2⟩,ob,es,ep,k _ _ (.inl rfl) e,c⟩
 | set S n=>obtain ⟨ob,es,ep,t,e,c⟩:=x;exact ⟨ob,es,ep,t,k _ _ (.inl rfl) e,c⟩
 | ins C dx fs =>
  obtain ⟨d,z,ne,e,mA,⟨od,es,ep,e2,c⟩,r⟩:=x;exact ⟨ho _ d,z,ne,k _ _ (.inl rfl) e,mA,⟨od,es,ep,k _ _ (.inr d) e2,c⟩,r⟩
 | own y=>obtain ⟨ob,e⟩:=x;exact ⟨ob,k _ _ (.inl rfl) e⟩
 | xd fs=>obtain ⟨mA,⟨od,es,ep,e,c⟩,r⟩:=x;exact ⟨mA,⟨od,es,ep,k _ _ (.inl rfl) e,c⟩,r⟩
 | rng lo hi=>obtain ⟨t,u,v,e⟩:=x;exact ⟨t,u,v,k _ _ (.inl rfl) e⟩
 | frz ob u ih=>obtain ⟨e,q⟩:=x;exact ⟨k _ _ (.inl rfl) e,ih q⟩
 | tbl ps =>
  have e:h.get? a=some { cls:=.none,data:=.fields ps }:=x;show h'.get? a=some { cls:=.none,data:=.fields ps };exact k a _ (.inl rfl) e
 | met f y =>
  have e:h.get? a=some (PySem.W.methodObj (.ref f) (.ref y)):=x;show h'.get? a=some (PySem.W.methodObj (.ref f) (.ref y));exact k a _ (.inl rfl) e
 | ext φ=>obtain ⟨p,⟨o,e⟩,st⟩:=x;exact ⟨st _ _ p λo q=>k _ _ (.inl rfl) q,⟨o,k _ _ (.inl rfl) e⟩,st⟩
theorem nU.lt(x:nU P w H h)(e:H a=some o):a<h.objs.size:=(x a o e).lt
theorem nU.fresh(x:nU P w H h)(e:h.objs.size<=a):H a=none:=by
 cases q:H a with
 | none=>rfl
 | some u=>exact absurd (bA (x.lt q) e) (bT _)
theorem nU.kept(x:nU P w H h)(k:∀b u,h.get? b=some u->h'.get? b=some u):nU P w H h':=λa o e =>
 (x a o e).stay (λb u _ q=>k b u q) (λ_ q=>q) λ_ _ q=>q
theorem nU.laid(x:nU P w H h)(k:∀b u,h.get? b=some u->h'.get? b=some u)(hp:h.objs.size<=a)(new:dM P w (upd H a o) h' a o):nU P w (upd H a o) h':=λb u e=>by
 have hn:=x.fresh hp;by_cases hb:b=a
 ·subst hb;rw [bE] at e;cases e;exact new
 ·rw [bP hb] at e;exact (x b u e).stay (λc v _ q=>k c v q) (λc q=>by rw [bP (cW q hn)];exact q) λc xs q=>by rw [bP (cW q hn)];exact q
end
def Rd(H:Hp)(a:Addr)(u:HO):Prop:=H a=some u\/∃o,H a=some (.frz o u)
theorem Rd.ok{P:Program}{w:World}{H:Hp}{h:Heap}{a:Addr}{u:HO}(r:Rd H a u)(x:nU P w H h):dM P w H h a u:=by
 rcases r with r | ⟨o,r⟩
 ·exact x a u r
 ·obtain ⟨_,q⟩:=x a _ r;exact q
def Mut:Option HO->Prop
 | some (.lst _)=>True
 | some (.dK _)=>True
 | some (.dT _)=>True
 | some (.set _ _)=>True
 | some (.ins _ _ _)=>True
 | some (.ext _)=>True
 | _=>False
section
variable{P:Program}{w:World}{H:Hp}{h h':Heap}{x e:Addr}{o':HO}
theorem nU.write(ok:nU P w H h)(mu:Mut (H x))(he:e=x\/H e=some (.own x))(k:∀b u,b≠e->h.get? b=some u->h'.get? b=some u)(heo:∃u,h'.get? e=some u)
  (new:dM P w (upd H x o') h' x o'):nU P w (upd H x o') h':=λb u q=>by
 have nown:∀c y,H c=some (.own y)->c≠x:=λc y r z=>by subst z;rw [r] at mu;exact mu
 have ntup:∀c xs,H c=some (.tup xs)->c≠x:=λc xs r z=>by subst z;rw [r] at mu;exact mu
 by_cases hb:b=x
 ·subst hb;rw [bE] at q;cases q;exact new
 ·rw [bP hb] at q;by_cases hbe:b=e
  ·have q':H b=some (.own x):=by
    rcases he with z | z
    ·exact absurd (hbe.trans z) hb
    ·rw [hbe];exact z
   rw [q] at q';cases q';obtain ⟨v,hv⟩:=heo;exact ⟨v,by rw [hbe];exact hv⟩
  ·refine (ok b u q).stay (λc v hc r=>k c v ?_ r) (λc r=>by rw [bP (nown c b r)];exact r) λc xs r=>by rw [bP (ntup c xs r)];exact r
   rcases hc with rfl | hc
   ·exact hbe
   ·rintro rfl;rcases he with z | z
    ·exact nown c b hc z
    ·rw [hc] at z;cases z;exact hb rfl
end
structure Un(fs ex:List Addr)(H H':Hp)(h h':Heap):Prop where
 keep:∀b o,h.get? b=some o->H b=none->b ∉ fs->b ∉ ex->h'.get? b=some o
 slot:∀b o,h.get? b=some o->H b=none->b∈fs->b ∉ ex->∃sl,h'.get? b=some { o with slots:=sl }
 free:∀b o,h.get? b=some o->H b=none->b ∉ ex->H' b=none
 there:∀b o,h.get? b=some o->b ∉ ex->∃o',h'.get? b=some o'
 tups:∀b xs,H b=some (.tup xs)->H' b=some (.tup xs)
 frzs:∀b o u,H b=some (.frz o u)->H' b=some (.frz o u)
 tbls:∀b ps,H b=some (.tbl ps)->∃more,H' b=some (.tbl (ps++more))
section
variable{fs fs' ex ex':List Addr}{H H1 H2:Hp}{h h1 h2 h':Heap}{a x e:Addr}{o:HO}
theorem Un.any(u:Un fs ex H H1 h h1){b:Addr}{ob:Obj}(q:h.get? b=some ob)(n:H b=none)(hx:b ∉ ex):∃sl,h1.get? b=some { ob with slots:=sl }:=by
 by_cases hb:b∈fs
 ·exact u.slot b ob q n hb hx
 ·exact ⟨ob.slots,u.keep b ob q n hb hx⟩
theorem Un.kept(k:∀b u,h.get? b=some u->h'.get? b=some u):Un fs ex H H h h' :=
 ⟨λb ob q _ _ _=>k b ob q,λb ob q _ _ _=>⟨ob.slots,k b ob q⟩,λ_ _ _ n _=>n,λb ob q _=>⟨ob,k b ob q⟩,λ_ _ q=>q,λ_ _ _ q=>q,λ_ ps q=>⟨#[],by rw [q];simp⟩⟩
theorem Un.refl:Un fs ex H H h h:=Un.kept λ_ _ q=>q
theorem Un.laid(k:∀b u,h.get? b=some u->h'.get? b=some u)(hp:h.objs.size<=a)(hn:H a=none):Un fs ex H (upd H a o) h h' where
 keep:=λb u q _ _ _=>k b u q
 slot:=λb u q _ _ _=>⟨u.slots,k b u q⟩
 free:=λb u q n _=>by rw [bP (bS (bA (aT q) hp))];exact n
 there:=λb u q _=>⟨u,k b u q⟩
 tups:=λb xs q=>by rw [bP (cW q hn)];exact q
 frzs:=λb u xs q=>by rw [bP (cW q hn)];exact q
 tbls:=λb ps q=>⟨#[],by rw [bP (cW q hn),q];simp⟩
theorem Un.write(mu:Mut (H x))(he:e=x\/H e=some (.own x))(k:∀b u,b≠e->h.get? b=some u->h'.get? b=some u)(heo:∃u,h'.get? e=some u):Un fs ex H (upd H x o) h h':=by
 have hx:∀b,H b=none->b≠x:=λb n z=>by subst z;rw [n] at mu;exact mu
 have hb:∀b,H b=none->b≠e:=λb n z=>by
  subst z;rcases he with r | r
  ·exact hx b n r
  ·rw [n] at r;cases r
 have hm:∀b u,H b=some u->¬Mut (some u)->b≠x:=λb u q nm z=>by subst z;rw [q] at mu;exact nm mu
 refine ⟨λb u q n _ _=>k b u (hb b n) q,λb u q n _ _=>⟨u.slots,k b u (hb b n) q⟩,λb u q n _=>by rw [bP (hx b n)];exact n,λb u q _=>?_,
  λb xs q=>by rw [bP (hm b _ q λz=>z)];exact q,λb u xs q=>by rw [bP (hm b _ q λz=>z)];exact q,λb ps q=>⟨#[],by rw [bP (hm b _ q λz=>z),q];simp⟩⟩
 by_cases hbe:b=e
 ·subst hbe;exact heo
 ·exact ⟨u,k b u hbe q⟩
end
def trk(h:Heap)(H:Hp):List Addr:=(List.range h.objs.size).filter λa=>(H a).isSome
def wU(h:Heap)(H:Hp):Heap:=PySem.W.hideAll h (trk h H)
theorem yV(h:Heap)(H:Hp):(wU h H).objs.size=h.objs.size:=PySem.W.hideAll_size _ _
theorem wT{h:Heap}{H:Hp}{b:Addr}{o:Obj}(e:h.get? b=some o)(n:H b=none):(wU h H).get? b=some o :=
 PySem.W.hideAll_get _ e λhm=>by
  have q:(H b).isSome=true:=(dI.mp hm).2;rw [n] at q;simp at q
theorem HS{h:Heap}{H:Hp}{b:Addr}{o:Obj}(e:(wU h H).get? b=some o):h.get? b=some o/\H b=none:=by
 have e':h.get? b=some o:=PySem.W.of_hideAll (trk h H) e;refine ⟨e',?_⟩;cases q:H b with
 | none=>rfl
 | some x =>
  have hm:b∈trk h H:=dI.mpr ⟨bX.mpr (aT e'),by simp [q]⟩;have z:(wU h H).get? b=none:=PySem.W.hideAll_none (trk h H) hm;rw [z] at e;cases e
structure RK(K:PySem.W.Frag)(mg:Str->Option Value)(base:Heap):Prop where
 kin:K.In base
 glob:base.Ns mainGlobals mg
 blt:∃mb,base.Ns builtinsNs mb/\∀x:Str,x ≠ "__name__" -> mb x=bootBuiltins x
 nolimit:base.NoLimit
/-- the context: a def's body (or a comprehension's block) running. base: fixed through the whole law;s₀,H₀: the entry;outer: the frames whose slots others may change (a def's callers);stack: all frames that run;
   ex: iterators that were made ahead of the entry and are walked here (a comprehension's);fn: the names whose cells were made at the entry (a def: all;a comprehension's block: its own);calm: not within an except suite;pn: pins that every state bears;xe: what is wanted of an exception that leaves the code -/
structure Cx where
 prog:Program
 w:World
 K:PySem.W.Frag
 mg:Str->Option Value
 base:Heap
 A:Around
 N:List Str
 s₀:Shared
 H₀:Hp
 env:Env
 outer:List Env
 stack:List Env
 ex:List Addr
 fn:Str->Bool
 calm:Bool
 pn:List (Addr × Obj)
 xe:Value->Shared->Prop
def frs(l:List Env):List Addr:=l.filterMap (·.frame)
abbrev Cx.fs(X:Cx):List Addr:=frs X.outer
def Vis(sc:Scope)(x:Str):Prop:=sc.names.lookup x=some .local\/sc.names.lookup x=some .cell\/sc.names.lookup x=some .free
def Loc(sc:Scope)(x:Str):Prop:=sc.names.lookup x=some .local\/sc.names.lookup x=some .cell
def aEV(env:Env)(h:Heap)(m:Str->Option Value)(x:Str)(u:Value):Prop :=
 (env.kindOf x=some .local/\m x=some u)\/((env.kindOf x=some .cell\/env.kindOf x=some .free)/\∃c,env.cells.lookup x=some c/\h.IsCell c (some u))
structure Cx.Ok(X:Cx):Prop where
 mod:RK X.K X.mg X.base
 kind:X.env.scope.kind=.function
 glob:X.env.globals=mainGlobals
 blt:X.env.builtins=builtinsNs
 above:X.s₀.heap.objs.size<=X.env.locals
 inj:∀x y c,X.env.cells.lookup x=some c->X.env.cells.lookup y=some c->x=y
 has:∀x,(X.env.kindOf x=some .cell\/X.env.kindOf x=some .free)->∃c,X.env.cells.lookup x=some c
 cab:∀x c,X.fn x=true->X.env.cells.lookup x=some c->X.s₀.heap.objs.size<=c
 hd:X.calm=true->X.A.handled=none
 frames:X.A.frames=some X.stack
 stk:X.stack=X.outer\/(X.stack=X.env::X.outer/\X.env.frame=some X.env.locals)
 exf:∀b∈X.ex,b≠X.env.locals/\∀x c,X.env.cells.lookup x=some c->c≠b
 bs:∀b o,X.base.get? b=some o->X.s₀.heap.get? b=some o/\X.H₀ b=none
 bsz:X.base.objs.size<=X.s₀.heap.objs.size
 noex:∀b o,X.base.get? b=some o->b ∉ X.ex
 exfs:∀b∈X.ex,b ∉ X.fs
 funs:X.s₀.heap.FunFrames X.base X.outer
 frf:∀b∈X.fs,X.H₀ b=none
structure bW(X:Cx)(pins:List (Addr × Obj))(σ:List (Option V))(H:Hp)(s:Shared):Prop where
 ok:X.Ok
 os:s.os=X.s₀.os
 bare:AllBare s.gens
 base:Un X.fs X.ex X.H₀ H X.s₀.heap s.heap
 loc:∃m,s.heap.Ns X.env.locals m/\∀(i:Nat) (x:Str) (v:V),X.N[i]?=some x->σ[i]?=some (some v)->Vis X.env.scope x->∃u,dF v u/\aEV X.env s.heap m x u
 cell:∀x c,X.env.cells.lookup x=some c->∃v,s.heap.IsCell c v
 free:H X.env.locals=none
 freeC:∀x c,X.env.cells.lookup x=some c->H c=none
 pin:∀p∈X.pn++pins,s.heap.get? p.1=some p.2/\H p.1=none/\p.1≠X.env.locals/\p.1 ∉ X.fs/\∀v,p.2.data ≠ .cell v
 hok:nU X.prog X.w H s.heap
 len:σ.length=X.N.length
section
variable{X:Cx}{pins:List (Addr × Obj)}{σ:List (Option V)}{H H':Hp}{s:Shared}{h':Heap}
theorem Cx.Ok.nofr(ok:X.Ok){b:Addr}{o:Obj}(e:X.base.get? b=some o):b ∉ X.fs:=λhb=>by
 have:=(ok.funs.mem hb).1;rw [e] at this;cases this
theorem bW.bs(I:bW X pins σ H s):∀b o,X.base.get? b=some o->s.heap.get? b=some o/\H b=none:=λb o e =>
 ⟨I.base.keep b o (I.ok.bs b o e).1 (I.ok.bs b o e).2 (I.ok.nofr e) (I.ok.noex b o e),I.base.free b o (I.ok.bs b o e).1 (I.ok.bs b o e).2 (I.ok.noex b o e)⟩
theorem bW.bk(I:bW X pins σ H s):∀b o,X.base.get? b=some o->s.heap.get? b=some o:=λb o e=>(I.bs b o e).1
theorem bW.mod(I:bW X pins σ H s):RK X.K X.mg X.base:=I.ok.mod
theorem bW.kIn(I:bW X pins σ H s):X.K.In s.heap:=I.ok.mod.kin.keeps I.bk
theorem bW.lt(I:bW X pins σ H s):X.env.locals<s.heap.objs.size:=let ⟨_,hn,_⟩:=I.loc;hn.lt
theorem bW.sz(I:bW X pins σ H s):X.s₀.heap.objs.size<=s.heap.objs.size:=bG I.ok.above (Nat.le_of_lt I.lt)
theorem bW.nofs(I:bW X pins σ H s){a:Addr}(h:s.heap.objs.size<=a):a ∉ X.fs:=λhb=>by
 obtain ⟨_,o,ho,_⟩:=I.ok.funs.mem hb;exact absurd (bA (aT ho) (bG I.sz h)) (bT _)
theorem bW.cne(I:bW X pins σ H s):∀x c,X.env.cells.lookup x=some c->c≠X.env.locals:=λx c e z=>by
 obtain ⟨v,o,ho,hd⟩:=I.cell x c e;obtain ⟨m,⟨o',es,ep,ho',hd',_⟩,_⟩:=I.loc;rw [z,ho'] at ho;cases ho;rw [hd'] at hd;cases hd
theorem bW.funs(I:bW X pins σ H s):s.heap.FunFrames X.base X.outer:=by
 have all:∀(l:List Env),(∀b∈frs l,b∈X.fs)->X.s₀.heap.FunFrames X.base l->s.heap.FunFrames X.base l:=by
  intro l
  induction l with
  | nil=>intro _ _;trivial
  | cons env r ih =>
   intro hs hl;obtain ⟨hk,⟨L,o,hf,hn,ho,hd⟩,hr⟩:=hl;have hL:L∈X.fs:=hs L (by unfold frs;rw [List.filterMap_cons,hf];exact aG);obtain ⟨sl,e⟩:=I.base.slot L o ho (I.ok.frf L hL) hL λz=>I.ok.exfs L z hL;exact ⟨hk,⟨L,_,hf,hn,e,hd⟩,ih (λb hb=>hs b (by unfold frs;rw [List.filterMap_cons,hf];exact aH _ hb)) hr⟩
 exact all X.outer (λ_ hb=>hb) I.ok.funs
theorem bW.stack(I:bW X pins σ H s):s.heap.FunFrames X.base X.stack:=by
 rcases I.ok.stk with e | ⟨e,hf⟩
 ·rw [e];exact I.funs
 ·rw [e];obtain ⟨m,hn,_⟩:=I.loc;refine .cons (by rw [I.ok.kind];decide) hf hn ?_ I.funs;exact Heap.get?_none_of_le (bG I.ok.bsz I.ok.above)
theorem bW.stkSub(I:bW X pins σ H s):∀b∈frs X.stack,b∈X.env.locals::X.fs:=λb hb=>by
 rcases I.ok.stk with e | ⟨e,hf⟩
 ·rw [e] at hb;exact aH _ hb
 ·rw [e] at hb;unfold frs at hb;rw [List.filterMap_cons,hf] at hb;exact hb
theorem bW.stkFree(I:bW X pins σ H s):∀b∈frs X.stack,H b=none:=λb hb=>by
 rcases aV.mp (I.stkSub b hb) with e | hb
 ·rw [e];exact I.free
 ·obtain ⟨_,o,ho,_⟩:=I.ok.funs.mem hb;exact I.base.free b o ho (I.ok.frf b hb) λz=>I.ok.exfs b z hb
theorem bW.step{g':Array GenState}{t':Nat}{d':Drawn}{ch:List Addr}(I:bW X pins σ H s)
  (hch:∀b∈ch,(b∈X.ex\/X.s₀.heap.objs.size<=b)/\b≠X.env.locals/\(∀x c,X.env.cells.lookup x=some c->c≠b)/\∀p∈X.pn++pins,p.1≠b)
  (keep:∀b o,b≠X.env.locals->b ∉ X.fs->b ∉ ch->s.heap.get? b=some o->H b=none->h'.get? b=some o)
  (slot:∀b o,b≠X.env.locals->b∈X.fs->b ∉ ch->s.heap.get? b=some o->H b=none->∃sl,h'.get? b=some { o with slots:=sl }) (free:∀b o,b ∉ ch->s.heap.get? b=some o->H b=none->H' b=none)
  (there:∀b o,b ∉ ch->s.heap.get? b=some o->∃o',h'.get? b=some o')
  (tups:∀b xs,H b=some (.tup xs)->H' b=some (.tup xs)) (frzs:∀b o u,H b=some (.frz o u)->H' b=some (.frz o u)) (tbls:∀b ps,H b=some (.tbl ps)->∃more,H' b=some (.tbl (ps++more)))
  (ns:∀m,s.heap.Ns X.env.locals m->h'.Ns X.env.locals m) (hok:nU X.prog X.w H' h') (hg:AllBare g') :
  bW X pins σ H' { s with heap:=h',gens:=g',drawn:=d',toks:=t' }:=by
 have neL:∀b o,X.s₀.heap.get? b=some o->b≠X.env.locals:=λb o e=>bS (bA (aT e) I.ok.above);have neC:∀b o,X.s₀.heap.get? b=some o->b ∉ X.ex->b ∉ ch:=λb o e hx hb=>by
  rcases (hch b hb).1 with z | z
  ·exact hx z
  ·exact absurd (bA (aT e) z) (bT _)
 have cellK:∀x c,X.env.cells.lookup x=some c->∀v,s.heap.IsCell c v->h'.IsCell c v:=λx c e v ⟨o,ho,hd⟩=>by
  have nch:c ∉ ch:=λz=>(hch c z).2.2.1 x c e rfl;by_cases hc:c∈X.fs
  ·obtain ⟨sl,q⟩:=slot c o (I.cne x c e) hc nch ho (I.freeC x c e);exact ⟨_,q,hd⟩
  ·exact ⟨o,keep c o (I.cne x c e) hc nch ho (I.freeC x c e),hd⟩
 refine ⟨I.ok,I.os,hg,⟨λb o e n hb hx=>?_,λb o e n hb hx=>?_,λb o e n hx=>?_,λb o e hx=>?_,λb xs e=>tups b xs (I.base.tups b xs e),λb o xs e=>frzs b o xs (I.base.frzs b o xs e),λb ps e=>?_⟩,?_,λx c e=>?_,?_,λx c e=>?_,λp hp=>?_,hok,I.len⟩
 ·exact keep b o (neL b o e) hb (neC b o e hx) (I.base.keep b o e n hb hx) (I.base.free b o e n hx)
 ·obtain ⟨sl,e1⟩:=I.base.slot b o e n hb hx;obtain ⟨sl',e2⟩:=slot b _ (neL b o e) hb (neC b o e hx) e1 (I.base.free b o e n hx);exact ⟨sl',e2⟩
 ·obtain ⟨o',e1⟩:=I.base.there b o e hx;exact free b o' (neC b o e hx) e1 (I.base.free b o e n hx)
 ·obtain ⟨o',e1⟩:=I.base.there b o e hx;exact there b o' (neC b o e hx) e1
 ·obtain ⟨m1,e1⟩:=I.base.tbls b ps e;obtain ⟨m2,e2⟩:=tbls b _ e1;exact ⟨m1++m2,by rw [e2,Array.append_assoc]⟩
 ·obtain ⟨m,hn,hl⟩:=I.loc;refine ⟨m,ns m hn,λi x v e1 e2 e3=>?_⟩;obtain ⟨u,r,l⟩:=hl i x v e1 e2 e3;refine ⟨u,r,?_⟩;rcases l with l | ⟨k,c,e,z⟩
  ·exact .inl l
  ·exact .inr ⟨k,c,e,cellK x c e _ z⟩
 ·obtain ⟨v,z⟩:=I.cell x c e;exact ⟨v,cellK x c e v z⟩
 ·obtain ⟨m,⟨o,_,_,ho,_⟩,_⟩:=I.loc;exact free _ o (λz=>(hch _ z).2.1 rfl) ho I.free
 ·obtain ⟨v,o,ho,hd⟩:=I.cell x c e;exact free c o (λz=>(hch c z).2.2.1 x c e rfl) ho (I.freeC x c e)
 ·obtain ⟨e,n,ne,nf,d⟩:=I.pin p hp;have nch:p.1 ∉ ch:=λz=>(hch p.1 z).2.2.2 p hp rfl;exact ⟨keep p.1 p.2 ne nf nch e n,free p.1 p.2 nch e n,ne,nf,d⟩
theorem bW.un{t':Nat}(I:bW X pins σ H s)(u:Un X.fs [] H H' s.heap h')(hok:nU X.prog X.w H' h'):bW X pins σ H' { s with heap:=h',toks:=t' }:=by
 obtain ⟨m,⟨o,es,ep,ho,r⟩,_⟩:=id I.loc;obtain ⟨sl,hL⟩:=u.any ho I.free (by simp);exact I.step (g':=s.gens) (d':=s.drawn) (ch:=[]) (λ_ z=>nomatch z) (λb o _ hb _ e n=>u.keep b o e n hb (by simp)) (λb o _ hb _ e n=>u.slot b o e n hb (by simp)) (λb o _ e n=>u.free b o e n (by simp)) (λb o _ e=>u.there b o e (by simp)) u.tups u.frzs u.tbls (λm' hm=>by
  obtain ⟨o',es',ep',ho',r'⟩:=hm;rw [ho] at ho';cases ho';exact ⟨_,es',ep',hL,r'⟩) hok I.bare
theorem bW.call{g':Array GenState}{t':Nat}{d':Drawn}{ch:List Addr}(I:bW X pins σ H s)(u:Un (frs X.stack) ch H H' s.heap h')(hok:nU X.prog X.w H' h')(hg:AllBare g')
  (hch:∀b∈ch,(b∈X.ex\/X.s₀.heap.objs.size<=b)/\b≠X.env.locals/\(∀x c,X.env.cells.lookup x=some c->c≠b)/\∀p∈X.pn++pins,p.1≠b) :
  bW X pins σ H' { s with heap:=h',gens:=g',drawn:=d',toks:=t' }:=by
 obtain ⟨m,⟨o,es,ep,ho,r⟩,_⟩:=id I.loc;obtain ⟨sl,hL⟩:=u.any ho I.free λz=>(hch _ z).2.1 rfl;exact I.step (ch:=ch) hch (λb o hL hb hc e n=>u.keep b o e n (λz=>(aV.mp (I.stkSub b z)).elim hL hb) hc) (λb o _ _ hc e n=>u.any e n hc) (λb o hc e n=>u.free b o e n hc) (λb o hc e=>u.there b o e hc) u.tups u.frzs u.tbls (λm' hm=>by
  obtain ⟨o',es',ep',ho',r'⟩:=hm;rw [ho] at ho';cases ho';exact ⟨_,es',ep',hL,r'⟩) hok hg
theorem bW.turned{t':Nat}{it:Addr}(I:bW X pins σ H s)(k:∀b o,b≠it->s.heap.get? b=some o->h'.get? b=some o)(hn:H it=none)(hL:it≠X.env.locals)
  (h1:it∈X.ex\/X.s₀.heap.objs.size<=it) (h2:∀x c,X.env.cells.lookup x=some c->c≠it) (h3:∀p∈X.pn++pins,p.1≠it):bW X pins σ H { s with heap:=h',toks:=t' }:=by
 have nit:∀b u,H b=some u->b≠it:=λb u e z=>by rw [z,hn] at e;cases e
 refine I.step (g':=s.gens) (d':=s.drawn) (ch:=[it]) (λb hb=>?_) (λb o _ _ hc e _=>k b o (λz=>hc (by simp [z])) e) (λb o _ _ hc e _=>⟨o.slots,k b o (λz=>hc (by simp [z])) e⟩) (λ_ _ _ _ n=>n)
  (λb o hc e=>⟨o,k b o (λz=>hc (by simp [z])) e⟩) (λ_ _ e=>e) (λ_ _ _ e=>e) (λb ps e=>⟨#[],by rw [e];simp⟩) (λm hm=>?_) (λb u e=>?_) I.bare
 ·have e:b=it:=by simpa using hb
  subst e;exact ⟨h1,hL,h2,h3⟩
 ·obtain ⟨o,es,ep,ho,r⟩:=hm;exact ⟨o,es,ep,k _ o (Ne.symm hL) ho,r⟩
 ·refine (I.hok b u e).stay (λc v hc q=>k c v ?_ q) (λ_ q=>q) λ_ _ q=>q;rcases hc with z | z
  ·rw [z];exact nit b u e
  ·exact nit c _ z
theorem bW.tok(I:bW X pins σ H s)(t:Nat):bW X pins σ H { s with toks:=t }:=I.un (h':=s.heap) (t':=t) Un.refl I.hok
theorem bW.kept{t':Nat}(I:bW X pins σ H s)(k:∀b u,s.heap.get? b=some u->h'.get? b=some u):bW X pins σ H { s with heap:=h',toks:=t' }:=I.un (Un.kept k) (I.hok.kept k)
theorem bW.laid{a:Addr}{o:HO}{t':Nat}(I:bW X pins σ H s)(k:∀b u,s.heap.get? b=some u->h'.get? b=some u)(hp:s.heap.objs.size<=a)(new:dM X.prog X.w (upd H a o) h' a o) :
  bW X pins σ (upd H a o) { s with heap:=h',toks:=t' }:=I.un (Un.laid k hp (I.hok.fresh hp)) (I.hok.laid k hp new)
theorem bW.write{x e:Addr}{o:HO}{t':Nat}(I:bW X pins σ H s)(mu:Mut (H x))(he:e=x\/H e=some (.own x))(k:∀b u,b≠e->s.heap.get? b=some u->h'.get? b=some u)(heo:∃u,h'.get? e=some u)
  (new:dM X.prog X.w (upd H x o) h' x o):bW X pins σ (upd H x o) { s with heap:=h',toks:=t' }:=I.un (Un.write mu he k heo) (I.hok.write mu he k heo new)
theorem bW.pins_of{pins':List (Addr × Obj)}(I:bW X pins σ H s)(h:∀p∈pins',s.heap.get? p.1=some p.2/\H p.1=none/\p.1≠X.env.locals/\p.1 ∉ X.fs/\∀v,p.2.data ≠ .cell v):bW X pins' σ H s :=
 ⟨I.ok,I.os,I.bare,I.base,I.loc,I.cell,I.free,I.freeC,λp hp=>(cM.mp hp).elim (λz=>I.pin p (cQ _ z)) (h p),I.hok,I.len⟩
theorem CU{N:List Str}(hN:N.Nodup){i j:Nat}{x:Str}(a:N[i]?=some x)(b:N[j]?=some x):i=j:=by
 obtain ⟨h1,e1⟩:=aY.mp a;obtain ⟨h2,e2⟩:=aY.mp b;exact (List.getElem_inj hN).mp (e1.trans e2.symm)
theorem yE{M:Model}{A:Around}{E:Value->Shared->Prop}{i:Nat}{x:Str}{v:V}{u:Value}{Q:Unit->Shared->Prop}(I:bW X pins σ H s)(hN:X.N.Nodup)(hi:X.N[i]?=some x)(hx:Loc X.env.scope x)(r:dF v u)
  (h:∀s',bW X pins (σ.set i (some v)) H s'->(∃a,Heap.SameBut a s.heap s'.heap/\(a=X.env.locals\/X.env.cells.lookup x=some a))->Q () s') (hf:X.fn x=true\/X.env.scope.names.lookup x=some .local:=by first | exact .inl rfl | exact .inr rfl | assumption):wpAny M A (storeName X.env x u) Q E s:=by
 obtain ⟨m,hn,hl⟩:=id I.loc;have hcls:(X.env.scope.kind == .class || (X.env.scope.kind == .module&&X.env.locals != X.env.globals))=false:=by rw [I.ok.kind];rfl
 have hiσ:i<σ.length:=by rw [I.len];exact (aY.mp hi).1
 have cne:=I.cne;have tracked:∀{a:Addr} {h':Heap},(∃o,s.heap.get? a=some o/\H a=none)->Heap.SameBut a s.heap h'->nU X.prog X.w H h':=λ{a h'} ha hs b ob e=>by
  obtain ⟨_,_,hfree⟩:=ha;refine (I.hok b ob e).stay (λc w' hc q=>(hs.2 c ?_).trans q) (λ_ q=>q) λ_ _ q=>q;rintro rfl;rcases hc with rfl | hc
  ·rw [hfree] at e;cases e
  ·rw [hfree] at hc;cases hc
 rcases hx with hk | hk
 ·refine wpAny_storeName_local hk hn (λh' hn' hs=>?_) hcls;obtain ⟨oL,_,_,hoL,_⟩:=id hn;refine h _ ⟨I.ok,I.os,I.bare,⟨λb o e n hb hx=>?_,λb o e n hb hx=>?_,I.base.free,λb o e hx=>?_,I.base.tups,I.base.frzs,I.base.tbls⟩,⟨_,hn',λj y v' e1 e2 e3=>?_⟩,λy c e=>?_,I.free,I.freeC,λp hp=>?_,tracked ⟨oL,hoL,I.free⟩ hs,by simpa using I.len⟩ ⟨_,hs,.inl rfl⟩
  ·exact (hs.2 b (bS (bA (aT e) I.ok.above))).trans (I.base.keep b o e n hb hx)
  ·obtain ⟨sl,e1⟩:=I.base.slot b o e n hb hx;exact ⟨sl,(hs.2 b (bS (bA (aT e) I.ok.above))).trans e1⟩
  ·obtain ⟨o',e1⟩:=I.base.there b o e hx;exact ⟨o',(hs.2 b (bS (bA (aT e) I.ok.above))).trans e1⟩
  ·by_cases hj:j=i
   ·subst hj;rw [hi] at e1;cases e1;rw [List.getElem?_set_self hiσ] at e2;cases e2;exact ⟨u,r,.inl ⟨hk,by simp⟩⟩
   ·rw [List.getElem?_set_ne (Ne.symm hj)] at e2;obtain ⟨u',r',q⟩:=hl j y v' e1 e2 e3;refine ⟨u',r',?_⟩;rcases q with ⟨k,e⟩ | ⟨k,c,e,z⟩
    ·refine .inl ⟨k,?_⟩;have:y≠x:=λe=>hj (CU hN e1 (e ▸ hi));simp [this,e]
    ·exact .inr ⟨k,c,e,z.sameBut hs (cne y c e)⟩
  ·obtain ⟨w',z⟩:=I.cell y c e;exact ⟨w',z.sameBut hs (cne y c e)⟩
  ·obtain ⟨e,n,ne,nf,d⟩:=I.pin p hp;exact ⟨(hs.2 p.1 ne).trans e,n,ne,nf,d⟩
 ·have hfn:X.fn x=true:=by
   rcases hf with z | z
   ·exact z
   ·rw [z] at hk;cases hk
  obtain ⟨c,hc⟩:=I.ok.has x (.inl hk);obtain ⟨w',z⟩:=I.cell x c hc;refine wpAny_storeName_cell I.ok.kind hk hc z (λh' hc' hs=>?_);obtain ⟨oc,hoc,hocd⟩:=id z;refine h { s with heap:=h' } ⟨I.ok,I.os,I.bare,⟨λb o e n hb hx=>?_,λb o e n hb hx=>?_,I.base.free,λb o e hx=>?_,I.base.tups,I.base.frzs,I.base.tbls⟩,⟨m,hn.sameBut hs (Ne.symm (cne x c hc)),λj y v' e1 e2 e3=>?_⟩,λy c' e=>?_,I.free,I.freeC,λp hp=>?_,tracked ⟨oc,hoc,I.freeC x c hc⟩ hs,by simpa using I.len⟩ ⟨c,hs,.inr hc⟩
  ·exact (hs.2 b (bS (bA (aT e) (I.ok.cab x c hfn hc)))).trans (I.base.keep b o e n hb hx)
  ·obtain ⟨sl,e1⟩:=I.base.slot b o e n hb hx;exact ⟨sl,(hs.2 b (bS (bA (aT e) (I.ok.cab x c hfn hc)))).trans e1⟩
  ·obtain ⟨o',e1⟩:=I.base.there b o e hx;exact ⟨o',(hs.2 b (bS (bA (aT e) (I.ok.cab x c hfn hc)))).trans e1⟩
  ·by_cases hj:j=i
   ·subst hj;rw [hi] at e1;cases e1;rw [List.getElem?_set_self hiσ] at e2;cases e2;exact ⟨u,r,.inr ⟨.inl hk,c,hc,hc'⟩⟩
   ·rw [List.getElem?_set_ne (Ne.symm hj)] at e2;obtain ⟨u',r',q⟩:=hl j y v' e1 e2 e3;refine ⟨u',r',?_⟩;rcases q with q | ⟨k,c',e,z'⟩
    ·exact .inl q
    ·refine .inr ⟨k,c',e,z'.sameBut hs ?_⟩;rintro rfl;exact hj (CU hN e1 (I.ok.inj _ _ _ e hc ▸ hi))
  ·by_cases hcc:c'=c
   ·subst hcc;exact ⟨_,hc'⟩
   ·obtain ⟨w2,z2⟩:=I.cell y c' e;exact ⟨w2,z2.sameBut hs hcc⟩
  ·obtain ⟨e,n,ne,nf,d⟩:=I.pin p hp;refine ⟨(hs.2 p.1 ?_).trans e,n,ne,nf,d⟩;intro q;rw [q,hoc] at e;have q':oc=p.2:=eS e;exact d w' (by rw [<-q'];exact hocd)
theorem oD{M:Model}{A:Around}{E:Value->Shared->Prop}{i:Nat}{x:Str}{v:V}{u:Value}{Q:Unit->Shared->Prop}(I:bW X pins σ H s)(hN:X.N.Nodup)(hi:X.N[i]?=some x)(hx:Loc X.env.scope x)(r:dF v u)
  (h:∀s',bW X pins (σ.set i (some v)) H s'->Q () s') (hf:X.fn x=true\/X.env.scope.names.lookup x=some .local:=by first | exact .inl rfl | exact .inr rfl | assumption):wpAny M A (storeName X.env x u) Q E s :=
 yE I hN hi hx r (λs' I' _=>h s' I') hf
theorem bW.call'{s':Shared}{ch:List Addr}(I:bW X pins σ H s)(ho:s'.os=s.os)(u:Un (frs X.stack) ch H H' s.heap s'.heap)(hok:nU X.prog X.w H' s'.heap)(hg:AllBare s'.gens)
  (hch:∀b∈ch,(b∈X.ex\/X.s₀.heap.objs.size<=b)/\b≠X.env.locals/\(∀x c,X.env.cells.lookup x=some c->c≠b)/\∀p∈X.pn++pins,p.1≠b):bW X pins σ H' s':=by
 obtain ⟨h',g',d',t',o'⟩:=s';have e:o'=s.os:=ho;subst e;exact I.call (g':=g') (t':=t') (d':=d') u hok hg hch
end
abbrev XK:=Value->Option Addr->Hp->Prop
abbrev St:=List (Option V)
abbrev VK:=V->Hp->Prop
abbrev TE:=St->Hp->VK->Prop
abbrev TT:=St->Hp->(Bool->Hp->Prop)->Prop
abbrev TA:=St->Hp->(List V->Hp->Prop)->Prop
structure uM where
 nx:St->Hp->Prop
 rt:VK
 bk:St->Hp->Prop:=λ_ _=>False
 ct:St->Hp->Prop:=λ_ _=>False
abbrev TS:=uM->St->Hp->Prop
def EP(X:Cx)(pins:List (Addr × Obj))(σ:St)(Q:VK)(u:Value)(s':Shared):Prop:=∃v H',bW X pins σ H' s'/\dF v u/\Q v H'
def TP(X:Cx)(pins:List (Addr × Obj))(σ:St)(Q:Bool->Hp->Prop)(b:Bool)(s':Shared):Prop:=∃H',bW X pins σ H' s'/\Q b H'
def AP(X:Cx)(pins:List (Addr × Obj))(σ:St)(Q:List V->Hp->Prop)(us:List Value)(s':Shared):Prop:=∃vs H',bW X pins σ H' s'/\cV vs us/\Q vs H'
def SP(X:Cx)(pins:List (Addr × Obj))(D:uM)(f:Flow)(s':Shared):Prop :=
 match f with
 | .next=>∃σ' H',bW X pins σ' H' s'/\D.nx σ' H'
 | .brk=>∃σ' H',bW X pins σ' H' s'/\D.bk σ' H'
 | .cont=>∃σ' H',bW X pins σ' H' s'/\D.ct σ' H'
 | .ret u=>∃v σ' H',bW X pins σ' H' s'/\dF v u/\D.rt v H'
def PE(X:Cx)(e:Expr)(t:TE):Prop :=
 ∀(pins:List (Addr × Obj)) (s:Shared) (σ:St) (H:Hp) (Q:VK),bW X pins σ H s->t σ H Q->wpAny (model X.prog X.w) X.A (eval e X.env) (EP X pins σ Q) X.xe s
def PT(X:Cx)(e:Expr)(t:TT):Prop :=
 ∀(pins:List (Addr × Obj)) (s:Shared) (σ:St) (H:Hp) (Q:Bool->Hp->Prop),bW X pins σ H s->t σ H Q->wpAny (model X.prog X.w) X.A (isTrue e X.env (eval e X.env)) (TP X pins σ Q) X.xe s
def PW(X:Cx)(e:Expr)(t:TT):Prop :=
 ∀(whole:Sem Value) (pins:List (Addr × Obj)) (s:Shared) (σ:St) (H:Hp) (Q:Bool->Hp->Prop),bW X pins σ H s->t σ H Q->wpAny (model X.prog X.w) X.A (isTrue e X.env whole) (TP X pins σ Q) X.xe s
theorem PW.pt{X:Cx}{e:Expr}{t:TT}(h:PW X e t):PT X e t:=h _
def PA(X:Cx)(es:List Expr)(t:TA):Prop :=
 ∀(pos:Pos) (pins:List (Addr × Obj)) (s:Shared) (σ:St) (H:Hp) (Q:List V->Hp->Prop),bW X pins σ H s->t σ H Q->wpAny (model X.prog X.w) X.A (spliced (backTo pos (starEach es X.env))) (AP X pins σ Q) X.xe s
def PS(X:Cx)(st:Stmt)(t:TS):Prop :=
 ∀(pins:List (Addr × Obj)) (s:Shared) (σ:St) (H:Hp) (D:uM),bW X pins σ H s->t D σ H->wpAny (model X.prog X.w) X.A (exec st X.env) (SP X pins D) X.xe s
def GP(X:Cx)(st:List Stmt)(t:TS):Prop :=
 ∀(pins:List (Addr × Obj)) (s:Shared) (σ:St) (H:Hp) (D:uM),bW X pins σ H s->t D σ H->wpAny (model X.prog X.w) X.A (execs st X.env) (SP X pins D) X.xe s
theorem thn{α:Type}{t:Sem α}{Q Q':α->Shared->Prop}{M:Model}{A:Around}{E:Value->Shared->Prop}{s:Shared}(h:wpAny M A t Q E s)(hQ:∀a s,Q a s->Q' a s):wpAny M A t Q' E s:=wpAny_mono h hQ λ_ _ x=>x
section
variable{X:Cx}
def YX(i:Nat):TE:=λσ H Q=>∃v,σ[i]?=some (some v)/\Q v H
def tC(v:V):TE:=λ_ H Q=>Q v H
theorem aAD{i:Nat}{x:Str}{pos:Pos}(hN:X.N[i]?=some x)(hv:Vis X.env.scope x)(hd:(x == ("__debug__" : Str))=false:=by decide)(hcd:(x == ("__classdict__" : Str))=false:=by decide):PE X (.Name x pos) (YX i):=by
 intro pins s σ H Q I h;obtain ⟨v,e,h⟩:=h;obtain ⟨m,hn,hl⟩:=I.loc;obtain ⟨u,r,l⟩:=hl i x v hN e hv;have fin:EP X pins σ Q u s:=⟨v,H,I,r,h⟩;rcases l with ⟨hk,hm⟩ | ⟨hk,c,hc,hcell⟩
 ·exact wpAny_Name (wpAny_loadName_local I.ok.kind hk hn hm fin) hd
 ·rcases hk with hk | hk
  ·exact wpAny_Name (wpAny_loadName_cell I.ok.kind hk hc hcell fin) hd
  ·exact wpAny_Name (wpAny_loadName_free I.ok.kind hk hc hcell fin hcd) hd
theorem pe_int{i j pos}:PE X (.Constant (.int i) j pos) (tC (.int i)):=λ_ _ _ H _ I h=>wpAny_Constant_int ⟨.int i,H,I.tok _,⟨_,rfl⟩,h⟩
theorem pe_bl{b j pos}:PE X (.Constant (.bool b) j pos) (tC (.bl b)):=λ_ _ _ H _ I h=>Constant_bool ⟨.bl b,H,I,rfl,h⟩
theorem pe_str{x j pos}:PE X (.Constant (.str x) j pos) (tC (.str x)):=λ_ _ _ H _ I h=>Calls.Constant_str ⟨.str x,H,I.tok _,⟨_,rfl⟩,h⟩
def Gl(X:Cx)(x:Str):Prop:=X.env.kindOf x=some .globalImplicit
theorem HX{E:Value->Shared->Prop}{pins:List (Addr × Obj)}{s:Shared}{σ:St}{H:Hp}{x:Str}{u:Value}{pos:Pos}{Q:Value->Shared->Prop}(I:bW X pins σ H s)(hg:Gl X x)(hm:X.mg x=some u)(h:Q u s)
  (hd:(x == ("__debug__" : Str))=false:=by decide):wpAny (model X.prog X.w) X.A (eval (.Name x pos) X.env) Q E s :=
 Calls.Name_function_global I.ok.kind hg (Calls.loadGlobal_global (by rw [I.ok.glob];exact I.mod.glob.keeps I.bk) hm h) hd
theorem oY{E:Value->Shared->Prop}{pins:List (Addr × Obj)}{s:Shared}{σ:St}{H:Hp}{x:Str}{u:Value}{pos:Pos}{Q:Value->Shared->Prop}(I:bW X pins σ H s)(hg:Gl X x)(hm:X.mg x=none)(hv:bootBuiltins x=some u)(h:Q u s)
  (hn:x ≠ "__name__" := by decide) (hd:(x == ("__debug__" : Str))=false:=by decide):wpAny (model X.prog X.w) X.A (eval (.Name x pos) X.env) Q E s:=by
 obtain ⟨mb,h1,h2⟩:=I.mod.blt;exact Calls.Name_function_global I.ok.kind hg (Calls.loadGlobal_builtin (by rw [I.ok.glob];exact I.mod.glob.keeps I.bk) hm (by rw [I.ok.blt];exact h1.keeps I.bk) ((h2 x hn).trans hv) h) hd
theorem UY{x:Str}{v:V}{u:Value}{pos:Pos}(hg:Gl X x)(hm:X.mg x=some u)(r:dF v u)(hd:(x == ("__debug__" : Str))=false:=by decide):PE X (.Name x pos) (tC v) :=
 λ_ _ _ H _ I h=>HX I hg hm ⟨v,H,I,r,h⟩ hd
theorem VE{x:Str}{v:V}{u:Value}{pos:Pos}(hg:Gl X x)(hm:X.mg x=none)(hv:bootBuiltins x=some u)(r:dF v u)(hn:x ≠ "__name__" := by decide)(hd:(x == ("__debug__" : Str))=false:=by decide):PE X (.Name x pos) (tC v) :=
 λ_ _ _ H _ I h=>oY I hg hm hv ⟨v,H,I,r,h⟩ hn hd
variable{a b:Expr}{ta tb:TE}{pos:Pos}
def tB(t:TE):TT:=λσ H Q=>t σ H λx H1=>∃c,x=.bl c/\Q c H1
theorem aAp{e:Expr}{t:TE}(h:PE X e t)(he:∀whole,isTrue e X.env whole=(do let v <-whole;standAt e.pos;holding [v] (truthy v)):=by intro _;rfl):PT X e (tB t):=by
 intro pins s σ H Q I hw;refine isTrue_plain (thn (h pins s σ H _ I hw) λv s1 ⟨x,H1,I1,r1,q1⟩=>?_) (he _);obtain ⟨d,rfl,q⟩:=q1;cases r1;exact wpAny_truthy_bool ⟨H1,I1,q⟩
variable{tA tB':TT}{rest:List Expr}
def aBT(t u:TT):TT:=λσ H Q=>t σ H λc H1=>if c=true then u σ H1 Q else Q false H1
def tOr(t u:TT):TT:=λσ H Q=>t σ H λc H1=>if c=true then Q true H1 else u σ H1 Q
def aBL(t:TT):TT:=λσ H Q=>t σ H λc H1=>Q (!c) H1
theorem UN(ha:PT X a tA):PW X (.BoolOp .And [a] pos) tA:=by
 intro wh pins s σ H Q I h;refine isTrue_and (thn (ha pins s σ H Q I h) λc s1 e=>?_);cases c with
 | true=>exact isTrue_and_nil e
 | false=>exact e
theorem aAn(ha:PT X a tA):PW X (.BoolOp .Or [a] pos) tA:=by
 intro wh pins s σ H Q I h;refine isTrue_or (thn (ha pins s σ H Q I h) λc s1 e=>?_);cases c with
 | false=>exact isTrue_or_nil e
 | true=>exact e
theorem aAo(ha:PT X a tA)(hb:PW X (.BoolOp .And (b::rest) pos) tB'):PW X (.BoolOp .And (a::b::rest) pos) (aBT tA tB'):=by
 intro wh pins s σ H Q I h;refine isTrue_and (thn (ha pins s σ H _ I h) λc s1 ⟨H1,I1,q1⟩=>?_);cases c with
 | true=>exact hb wh pins s1 σ H1 Q I1 q1
 | false=>exact ⟨H1,I1,q1⟩
theorem aB8(ha:PT X a tA)(hb:PW X (.BoolOp .Or (b::rest) pos) tB'):PW X (.BoolOp .Or (a::b::rest) pos) (tOr tA tB'):=by
 intro wh pins s σ H Q I h;refine isTrue_or (thn (ha pins s σ H _ I h) λc s1 ⟨H1,I1,q1⟩=>?_);cases c with
 | true=>exact ⟨H1,I1,q1⟩
 | false=>exact hb wh pins s1 σ H1 Q I1 q1
theorem aAq(ha:PT X a tA):PT X (.UnaryOp .Not a pos) (aBL tA):=by
 intro pins s σ H Q I h;exact isTrue_not (ha pins s σ H (λc H1=>Q (!c) H1) I h)
def XT(ta tb:TE):TE:=λσ H Q=>ta σ H λx H1=>∃c,x=.bl c/\if c=true then tb σ H1 Q else Q (.bl false) H1
def XM(ta:TE):TE:=λσ H Q=>ta σ H λx H1=>∃c,x=.bl c/\Q (.bl (!c)) H1
theorem aAF{op}{t:TE}(h:PE X a t):PE X (.BoolOp op [a] pos) t:=λpins s σ H Q I hw=>BoolOp_one (h pins s σ H Q I hw)
theorem aAI(ha:PE X a ta)(hb:PE X (.BoolOp .And (b::rest) pos) tb):PE X (.BoolOp .And (a::b::rest) pos) (XT ta tb):=by
 intro pins s σ H Q I h;refine BoolOp_and (thn (ha pins s σ H _ I h) λv s1 ⟨x,H1,I1,r1,q1⟩=>?_);obtain ⟨c,rfl,q1⟩:=q1;cases r1;refine wpAny_truthy_bool ?_;cases c with
 | true=>exact hb pins s1 σ H1 Q I1 q1
 | false=>exact ⟨.bl false,H1,I1,rfl,q1⟩
theorem aAG(ha:PE X a ta):PE X (.UnaryOp .Not a pos) (XM ta):=by
 intro pins s σ H Q I h;refine UnaryOp_ (thn (ha pins s σ H _ I h) λv s1 ⟨x,H1,I1,r1,q1⟩=>?_);obtain ⟨c,rfl,q1⟩:=q1;cases r1;exact not_of (wpAny_truthy_bool ⟨.bl (!c),H1,I1,rfl,q1⟩)
end
def eZ(K:PySem.W.Frag)(H:Hp)(a:Addr)(xs:List V):Prop :=
 Rd H a (.lst xs) \/
  ∃(o:Obj) (its:Array Value) (n:Nat),K.lookup a=some o/\o.cls=.type "list" /\ o.dict=none/\o.data=.seq its n/\its.size<=sizeLine/\cV xs its.toList
def dO(K:PySem.W.Frag)(H:Hp)(a:Addr)(xs:List V):Prop :=
 Rd H a (.tup xs) \/
  ∃(o:Obj) (its:Array Value) (n:Nat),K.lookup a=some o/\o.cls=.type "tuple" /\ o.data=.seq its n/\its.size<=sizeLine/\cV xs its.toList
def aET:Value->Option V
 | .none=>some .non
 | .bool b=>some (.bl b)
 | .int i _=>some (.int i)
 | .str x _=>some (.str x)
 | .bytes b _=>some (.byt b)
 | .float b _=>some (.flt b)
 | .ref a=>some (.ref a)
 | .type n=>some (.ty n)
 | _=>none
theorem dF.abs{x:V}{u:Value}(r:dF x u):aET u=some x:=by
 cases x with
 | non=>cases r;rfl
 | bl _=>cases r;rfl
 | int _=>obtain ⟨t,rfl⟩:=r;rfl
 | str _=>obtain ⟨t,rfl⟩:=r;rfl
 | byt _=>obtain ⟨t,rfl⟩:=r;rfl
 | flt _=>obtain ⟨t,rfl⟩:=r;rfl
 | ref _=>cases r;rfl
 | ty _=>cases r;rfl
theorem dF.inj{x y:V}{u:Value}(r:dF x u)(q:dF y u):x=y:=eS (r.abs.symm.trans q.abs)
theorem cV.inj:∀{xs ys:List V}{us:List Value},cV xs us->cV ys us->xs=ys
 | _,_,_,.nil,.nil=>rfl
 | _,_,_,.cons r t,.cons r' t'=>by rw [r.inj r',cV.inj t t']
section
variable{X:Cx}{pins:List (Addr × Obj)}{σ:St}{H:Hp}{s:Shared}{a:Addr}{xs ys:List V}
theorem eZ.of{K:PySem.W.Frag}(h:H a=some (.lst xs)):eZ K H a xs:=.inl (.inl h)
theorem dO.of{K:PySem.W.Frag}(h:H a=some (.tup xs)):dO K H a xs:=.inl (.inl h)
theorem bW.list(I:bW X pins σ H s)(h:eZ X.K H a xs):∃its:List Value,cV xs its/\PlainL s.heap a its.toArray/\xs.length<=sizeLine:=by
 rcases h with h | ⟨o,its,n,hk,hc,hd,hs,hz,r⟩
 ·obtain ⟨z,its,n,r,e⟩:=h.ok I.hok;exact ⟨its,r,⟨_,n,e,rfl,rfl,rfl⟩,z⟩
 ·refine ⟨its.toList,r,⟨o,n,I.kIn a o hk,hc,hd,by simpa using hs⟩,?_⟩;have e:=r.length;simp only [Array.length_toList] at e;omega
theorem bW.tuple(I:bW X pins σ H s)(h:dO X.K H a xs):∃its:List Value,cV xs its/\IsTup s.heap a its.toArray/\xs.length<=sizeLine:=by
 rcases h with h | ⟨o,its,n,hk,hc,hs,hz,r⟩
 ·obtain ⟨⟨z,_⟩,its,r,p⟩:=h.ok I.hok;exact ⟨its,r,p,z⟩
 ·refine ⟨its.toList,r,⟨o,I.kIn a o hk,hc,n,by simpa using hs⟩,?_⟩;have e:=r.length;simp only [Array.length_toList] at e;omega
theorem bW.list_inj(I:bW X pins σ H s)(h:eZ X.K H a xs)(h':eZ X.K H a ys):xs=ys:=by
 obtain ⟨its,r,⟨o,n,e,_,_,d⟩,_⟩:=I.list h;obtain ⟨its',r',⟨o',n',e',_,_,d'⟩,_⟩:=I.list h';rw [e] at e';cases e';rw [d] at d';injection d' with d1 _;have:its=its':=by simpa using congrArg Array.toList d1
 subst this;exact r.inj r'
theorem bW.tuple_inj(I:bW X pins σ H s)(h:dO X.K H a xs)(h':dO X.K H a ys):xs=ys:=by
 obtain ⟨its,r,⟨o,e,_,n,d⟩,_⟩:=I.tuple h;obtain ⟨its',r',⟨o',e',_,n',d'⟩,_⟩:=I.tuple h';rw [e] at e';cases e';rw [d] at d';injection d' with d1 _;have:its=its':=by simpa using congrArg Array.toList d1
 subst this;exact r.inj r'
end
abbrev Cx.wish(X:Cx)(E:Value->Shared->Prop):Cx:={ X with xe:=E }
abbrev Cx.nox(X:Cx):Cx:=X.wish λ_ _=>False
theorem Cx.Ok.wish{X:Cx}(ok:X.Ok)(E:Value->Shared->Prop):(X.wish E).Ok :=
 ⟨ok.mod,ok.kind,ok.glob,ok.blt,ok.above,ok.inj,ok.has,ok.cab,ok.hd,ok.frames,ok.stk,ok.exf,ok.bs,ok.bsz,ok.noex,ok.exfs,ok.funs,ok.frf⟩
theorem Cx.Ok.unwish{X:Cx}{E:Value->Shared->Prop}(ok:(X.wish E).Ok):X.Ok :=
 ⟨ok.mod,ok.kind,ok.glob,ok.blt,ok.above,ok.inj,ok.has,ok.cab,ok.hd,ok.frames,ok.stk,ok.exf,ok.bs,ok.bsz,ok.noex,ok.exfs,ok.funs,ok.frf⟩
section
variable{X:Cx}{pins:List (Addr × Obj)}{σ:St}{H:Hp}{s:Shared}{E:Value->Shared->Prop}
theorem bW.wish(I:bW X pins σ H s)(E:Value->Shared->Prop):bW (X.wish E) pins σ H s:=⟨I.ok.wish E,I.os,I.bare,I.base,I.loc,I.cell,I.free,I.freeC,I.pin,I.hok,I.len⟩
theorem bW.unwish(I:bW (X.wish E) pins σ H s):bW X pins σ H s:=⟨I.ok.unwish,I.os,I.bare,I.base,I.loc,I.cell,I.free,I.freeC,I.pin,I.hok,I.len⟩
theorem SP.unwish{D:uM}{f:Flow}{s':Shared}(h:SP (X.wish E) pins D f s'):SP X pins D f s':=by
 cases f with
 | next=>obtain ⟨σ',H',I,q⟩:=h;exact ⟨σ',H',I.unwish,q⟩
 | brk=>obtain ⟨σ',H',I,q⟩:=h;exact ⟨σ',H',I.unwish,q⟩
 | cont=>obtain ⟨σ',H',I,q⟩:=h;exact ⟨σ',H',I.unwish,q⟩
 | ret u=>obtain ⟨v,σ',H',I,r,q⟩:=h;exact ⟨v,σ',H',I.unwish,r,q⟩
theorem PE.nox{e:Expr}{t:TE}(h:PE X.nox e t):PE X e t:=λpins s σ H Q I hw =>
 wpAny_mono (h pins s σ H Q (I.wish _) hw) (λ_ _ ⟨v,H',I',r,q⟩=>⟨v,H',I'.unwish,r,q⟩) λ_ _ z=>False.elim z
theorem GP.nox{st:List Stmt}{t:TS}(h:GP X.nox st t):GP X st t:=λpins s σ H D I hw =>
 wpAny_mono (h pins s σ H D (I.wish _) hw) (λ_ _ q=>q.unwish) λ_ _ z=>False.elim z
end
section
variable{X:Cx}{st:Stmt}{rest:List Stmt}{t u:TS}{e:Expr}{te:TE}{pos:Pos}
def XN:TS:=λD σ H=>D.nx σ H
def aBI(t u:TS):TS:=λD σ H=>t { D with nx:=u D } σ H
theorem pss_nil:GP X [] XN:=λ_ _ σ H _ I h=>wpAny_execs_nil ⟨σ,H,I,h⟩
theorem OE(h1:PS X st t)(h2:GP X rest u):GP X (st::rest) (aBI t u):=by
 intro pins s σ H D I h;refine wpAny_execs_cons (thn (h1 pins s σ H { D with nx:=u D } I h) λf s1 q=>?_);cases f with
 | next =>
  obtain ⟨σ',H',I',q⟩:=q;exact h2 pins s1 σ' H' D I' q
 | ret v=>exact q
 | brk=>exact q
 | cont=>exact q
theorem UR(h1:PS X st t):GP X [st] t:=by
 intro pins s σ H D I h;refine wpAny_execs_cons (thn (h1 pins s σ H D I h) λf s1 q=>?_);cases f with
 | next=>exact wpAny_execs_nil q
 | ret v=>exact q
 | brk=>exact q
 | cont=>exact q
theorem bW.quiet{pins:List (Addr × Obj)}{σ:St}{H:Hp}{s:Shared}(I:bW X pins σ H s):interactive X.env=false:=by simp [interactive,I.ok.kind]
def XO(te:TE):TS:=λD σ H=>te σ H λ_ H1=>D.nx σ H1
theorem US(he:PE X e te)(hs:swapsWith e none pos.line X.env=pure false:=by rfl):PS X (.Expr e pos) (XO te):=by
 intro pins s σ H D I h;exact wpAny_Expr_any (thn (he pins s σ H _ I h) λv s1 ⟨x,H1,I1,r1,q1⟩=>⟨σ,H1,I1,q1⟩) I.quiet hs
def aBJ(te:TE):TS:=λD σ H=>te σ H D.rt
theorem aAs(he:PE X e te):PS X (.Return (some e) pos) (aBJ te):=by
 intro pins s σ H D I h;exact wpAny_Return_some (thn (he pins s σ H _ I h) λv s1 ⟨x,H1,I1,r1,q1⟩=>⟨x,σ,H1,I1,r1,q1⟩)
def aBN(c:TT)(t u:TS):TS:=λD σ H=>c σ H λb H1=>if b=true then t D σ H1 else u D σ H1
theorem aB9{c:Expr}{a b:List Stmt}{tc:TT}(hc:PT X c tc)(ha:GP X a t)(hb:GP X b u):PS X (.If c a b pos) (aBN tc t u):=by
 intro pins s σ H D I h;refine wpAny_If (thn (hc pins s σ H _ I h) λd s1 ⟨H1,I1,q1⟩=>?_);cases d with
 | true=>exact ha pins s1 σ H1 D I1 q1
 | false=>exact hb pins s1 σ H1 D I1 q1
end
abbrev TG:=V->St->Hp->(St->Hp->Prop)->Prop
abbrev RF:=List V->St->Hp->(St->Hp->Prop)->Prop
def PG(X:Cx)(target:Expr)(t:TG):Prop :=
 ∀(pins:List (Addr × Obj)) (s:Shared) (σ:St) (H:Hp) (v:V) (u:Value) (Q:St->Hp->Prop),bW X pins σ H s->dF v u->t v σ H Q ->
  wpAny (model X.prog X.w) X.A (assign target X.env u) (λ_ s'=>∃σ' H',bW X pins σ' H' s'/\Q σ' H') X.xe s
def PGs(X:Cx)(ts:List Expr)(t:RF):Prop :=
 ∀(pins:List (Addr × Obj)) (s:Shared) (σ:St) (H:Hp) (vs:List V) (us:List Value) (Q:St->Hp->Prop),bW X pins σ H s->cV vs us->t vs σ H Q ->
  wpAny (model X.prog X.w) X.A (assignInOrder ((assignEach ts X.env).map (·.2)) us) (λ_ s'=>∃σ' H',bW X pins σ' H' s'/\Q σ' H') X.xe s
abbrev XB:=V->V->V->Hp->(Hp->Prop)->Prop
def aBt(X:Cx)(t:XB):Prop :=
 ∀(pins:List (Addr × Obj)) (s:Shared) (σ:St) (H:Hp) (o i v:V) (ov iv u:Value) (Q:Hp->Prop),bW X pins σ H s->dF o ov->dF i iv->dF v u->t o i v H Q ->
  wpAny (model X.prog X.w) X.A (setItem ov iv u) (λ_ s'=>∃H',bW X pins σ H' s'/\Q H') X.xe s
section
variable{X:Cx}{pos:Pos}
def rW(i:Nat):TG:=λv σ H Q=>Q (σ.set i (some v)) H
theorem UX{i:Nat}{x:Str}(hN:X.N.Nodup)(hi:X.N[i]?=some x)(hx:Loc X.env.scope x)(hf:X.fn x=true\/X.env.scope.names.lookup x=some .local:=by first | exact .inl rfl | exact .inr rfl | assumption):PG X (.Name x pos) (rW i):=by
 intro pins s σ H v u Q I r h;exact wpAny_assign_Name (oD I hN hi hx r (λs' I'=>⟨_,H,I',h⟩) hf)
def aBa:RF:=λvs σ H Q=>vs=[]/\Q σ H
def PU(t:TG)(u:RF):RF:=λvs σ H Q=>∃v r,vs=v::r/\t v σ H λσ' H'=>u r σ' H' Q
theorem pgs_nil:PGs X [] aBa:=by
 intro pins s σ H vs us Q I r h;obtain ⟨e,h⟩:=h;subst e;cases r;exact assignInOrder_nil ⟨σ,H,I,h⟩
theorem OJ{e:Expr}{es:List Expr}{t:TG}{u:RF}(h1:PG X e t)(h2:PGs X es u)
  (hs:(assignEach (e::es) X.env).map (·.2)=assign e X.env::(assignEach es X.env).map (·.2):=by rfl):PGs X (e::es) (PU t u):=by
 intro pins s σ H vs us Q I r h;obtain ⟨v,vr,e1,h⟩:=h;subst e1;cases r with
 | cons r rr =>
  rw [hs];refine assignInOrder_cons (thn (h1 pins s σ H _ _ _ I r h) λ_ s1 ⟨σ1,H1,I1,q1⟩=>?_);exact h2 pins s1 σ1 H1 _ _ Q I1 rr q1
def aA9(K:PySem.W.Frag)(n:Nat)(t:RF):TG:=λv σ H Q=>∃a xs,v=.ref a/\dO K H a xs/\xs.length=n/\t xs σ H Q
theorem aAB{es:List Expr}{k:Nat}{t:RF}{n:Nat}(hc:X.calm=true)(h:PGs X es t)
  (hn:(assignEach es X.env).length=n:=by rfl) (hst:(assignEach es X.env).findIdx? (·.1)=none:=by rfl):PG X (.Tuple es k pos) (aA9 X.K n t):=by
 intro pins s σ H v u Q I r hw;obtain ⟨a,xs,e1,hq,hl,hw⟩:=hw;subst e1;cases r;obtain ⟨its,rv,ht,hz⟩:=I.tuple hq;refine assign_Tuple_tuple (I.ok.hd hc) ht (by simp [hn,<-hl,rv.length]) hst λh' hx=>?_;have I1:bW X pins σ H { s with heap:=h' }:=I.kept (t':=s.toks) λb o e=>hx b o (bS (aT e)) e;exact h pins _ σ H xs _ Q I1 (by simpa using rv) hw
def aCr(to ti:TE)(t:XB):TG:=λv σ H Q=>to σ H λo H1=>ti σ H1 λi H2=>t o i v H2 λH3=>Q σ H3
theorem aAC{o i:Expr}{to ti:TE}{t:XB}(ho:PE X o to)(hi:PE X i ti)(hs:aBt X t)
  (ha:∀v,assign (.Subscript o i pos) X.env v=(do
   let ov <-holding [v] (eval o X.env)
   let iv <-holding [v,ov] (eval i X.env)
   standAt pos
   holding [v,ov,iv] (setItem ov iv v)
   release [v,ov,iv] []):=by intro _;rfl):PG X (.Subscript o i pos) (aCr to ti t):=by
 intro pins s σ H v u Q I r h;rw [ha];refine wpAny_bind (wpAny_holding (thn (ho pins s σ H _ I h) λov s1 ⟨x,H1,I1,r1,q1⟩=>?_));refine wpAny_bind (wpAny_holding (thn (hi pins s1 σ H1 _ I1 q1) λiv s2 ⟨y,H2,I2,r2,q2⟩=>?_));refine wpAny_bind (wpAny_standAt (wpAny_bind (wpAny_holding (thn (hs pins s2 σ H2 x y v ov iv u _ I2 r1 r2 r q2) λ_ s3 ⟨H3,I3,q3⟩=>?_))));exact wpAny_release ⟨σ,H3,I3,q3⟩
def JF(te:TE)(g:TG):TS:=λD σ H=>te σ H λx H1=>g x σ H1 D.nx
theorem aAw{tg e:Expr}{te:TE}{g:TG}(he:PE X e te)(hg:PG X tg g)(hs:swapsWithSole [tg] e pos.line X.env=pure false:=by rfl)(hw:swappedStores [tg] e X.env=pure none:=by rfl)
  (h1:(assignEach [tg] X.env).map (·.2)=[assign tg X.env]:=by rfl):PS X (.Assign [tg] e pos) (JF te g):=by
 intro pins s σ H D I h;refine wpAny_Assign_stores (thn (he pins s σ H _ I h) λv s1 ⟨x,H1,I1,r1,q1⟩=>?_) hs hw;rw [h1];exact thn (hg pins s1 σ H1 x v _ I1 r1 q1) λ_ s2 q=>q
theorem aAr{i:Nat}{x:Str}{e:Expr}{te:TE}{pos':Pos}(hN:X.N.Nodup)(hi:X.N[i]?=some x)(hx:Loc X.env.scope x)(he:PE X e te)(hs:swapsWith e (some (.Name x pos')) pos.line X.env=pure false:=by rfl)(hf:X.fn x=true\/X.env.scope.names.lookup x=some .local:=by first | exact .inl rfl | exact .inr rfl | assumption) :
  PS X (.Assign [.Name x pos'] e pos) (JF te (rW i)):=by
 intro pins s σ H D I h;refine wpAny_Assign_Name (thn (he pins s σ H _ I h) λv s1 ⟨y,H1,I1,r1,q1⟩=>?_) hs;exact oD I1 hN hi hx r1 (λs2 I2=>⟨_,H1,I2,q1⟩) hf
def aBK(i j:Nat)(ta:TA):TS:=λD σ H=>ta σ H λvs H1=>∃v w,vs=[v,w]/\D.nx ((σ.set i (some v)).set j (some w)) H1
theorem aAt{i j:Nat}{x y:Str}{a b:Expr}{ta:TA}{px py pt:Pos}{kt k2 pt2}(hc:X.calm=true)(hN:X.N.Nodup)(hi:X.N[i]?=some x)(hj:X.N[j]?=some y)(hij:i≠j)
  (hx:X.env.scope.names.lookup x=some .local) (hy:X.env.scope.names.lookup y=some .local) (ha:PA X [a,b] ta)
  (hw:swappedStores [.Tuple [.Name x px,.Name y py] kt pt] (.Tuple [a,b] k2 pt2) X.env=pure (some [x,y]))
  (hs:swapsWithSole [.Tuple [.Name x px,.Name y py] kt pt] (.Tuple [a,b] k2 pt2) pos.line X.env=pure false:=by rfl) :
  PS X (.Assign [.Tuple [.Name x px,.Name y py] kt pt] (.Tuple [a,b] k2 pt2) pos) (aBK i j ta):=by
 intro pins s σ H D I h;rw [exec_Assign_arm];refine wpAny_bind (wpAny_standAt ?_);rw [hs];refine wpAny_bind (wpAny_pure ?_);rw [if_neg Dd];refine wpAny_bind (Tuple_ (thn (ha _ pins s σ H _ I h) λus s1 ⟨vs,H1,I1,r1,q1⟩=>?_));obtain ⟨v,w,e1,q1⟩:=q1;subst e1;obtain ⟨u1,u2,rfl,rv,rw'⟩:∃u1 u2,us=[u1,u2]/\dF v u1/\dF w u2:=by
  cases r1 with
  | cons p q =>
   cases q with
   | cons p' q' =>
    cases q';exact ⟨_,_,rfl,p,p'⟩
 refine wpAny_newObj_type ?_ (by show 2<=sizeLine;decide);have I2:bW X pins σ H1 { s1 with heap:=s1.heap.push { cls:=.type "tuple",data:=.seq [u1,u2].toArray } }:=I1.kept (t':=s1.toks) λb o e=>aB _ e;rw [hw];refine wpAny_bind (wpAny_pure ?_);show wpAny (model X.prog X.w) X.A (do rule "assign.swapped-stores";let items <-unpackItems (.ref s1.heap.objs.size) 2 none;assignInOrder [λv=>bindName X.env y v,λv=>bindName X.env x v] items.reverse;pure Flow.next) _ _ _;refine wpAny_bind (wpAny_rule (wpAny_bind (unpackItems_tuple (items:=#[u1,u2]) (I.ok.hd hc) (IsTup.new s1.heap _) λh' hx'=>?_)));have I3:=I2.kept (h':=h') (t':=s1.toks) λb o e=>hx' b o (bS (aT e)) e;show wpAny _ _ (assignInOrder [λv=>bindName X.env y v,λv=>bindName X.env x v] [u2,u1] >>= λ_=>pure Flow.next) _ _ _;refine wpAny_bind (assignInOrder_cons (wpAny_bindName (oD I3 hN hj (.inl hy) rw' (λs2 I4=>?_) (.inr hy))));refine assignInOrder_cons (wpAny_bindName (oD I4 hN hi (.inl hx) rv (λs3 I5=>assignInOrder_nil (wpAny_pure ?_)) (.inr hx)));rw [List.set_comm _ _ (Ne.symm hij)] at I5;exact ⟨_,H1,I5,q1⟩
end
section
variable{X:Cx}{pos:Pos}
def AE(c:TT)(tb:TS):TS:=λD σ H=>∃W:Nat->St->Hp->Prop,(∃m,W m σ H)/\∀m σ H,W m σ H ->
 c σ H λb H1=>if b=true then ∃N:St->Hp->Prop,(∀σ' H',N σ' H'->∃m',m' < m/\W m' σ' H')/\tb { D with nx:=N,ct:=N,bk:=D.nx } σ H1 else D.nx σ H1
theorem OF{c:Expr}{body:List Stmt}{tc:TT}{tb:TS}(hp:PassesOwn (model X.prog X.w) X.A X.env X.xe)(hc:PT X c tc)(hb:GP X body tb):PS X (.While c body [] pos) (AE tc tb):=by
 intro pins s σ H D I h;obtain ⟨W,⟨m0,w0⟩,turn⟩:=h;refine wpAny_While (codeAny_whileLoop (λn s'=>∃σ' H',bW X pins σ' H' s'/\W n σ' H') ?_ m0 ⟨σ,H,I,w0⟩);rintro n s1 ⟨σ1,H1,I1,w1⟩;refine wpAny_passesOwn hp (thn (hc pins s1 σ1 H1 _ I1 (turn n σ1 H1 w1)) λb s2 ⟨H2,I2,q2⟩=>?_);cases b with
 | true =>
  obtain ⟨N,hN,q2⟩:=q2;rw [if_pos rfl];refine wpAny_passesOwn hp (thn (hb pins s2 σ1 H2 _ I2 q2) λf s3 q3=>?_);cases f with
  | next =>
   obtain ⟨σ3,H3,I3,n3⟩:=q3;obtain ⟨m',hm,w3⟩:=hN σ3 H3 n3;exact ⟨m',hm,σ3,H3,I3,w3⟩
  | cont =>
   obtain ⟨σ3,H3,I3,n3⟩:=q3;obtain ⟨m',hm,w3⟩:=hN σ3 H3 n3;exact ⟨m',hm,σ3,H3,I3,w3⟩
  | brk=>exact q3
  | ret v=>exact q3
 | false =>
  rw [if_neg bN];exact wpAny_execs_nil ⟨σ1,H2,I2,q2⟩
end
structure It where
 go:Nat->Hp->Prop
 yld:Nat->Hp->V->Hp->Prop
 stop:Nat->Hp->Prop
def gU(X:Cx)(pins:List (Addr × Obj))(H:Hp)(b:Addr):Prop :=
 H b=none/\b≠X.env.locals/\b ∉ X.fs/\(b∈X.ex\/X.s₀.heap.objs.size<=b)/\(∀x c,X.env.cells.lookup x=some c->c≠b)/\∀p∈X.pn++pins,p.1≠b
theorem bW.fpOk{X:Cx}{pins:List (Addr × Obj)}{σ:St}{H H':Hp}{s:Shared}{b:Addr}(I:bW X pins σ H s)(hb:s.heap.objs.size<=b)(hn:H' b=none):gU X pins H' b:=by
 refine ⟨hn,Nat.ne_of_gt (bA I.lt hb),I.nofs hb,.inr (bG I.sz hb),λx c e z=>?_,λp hp z=>?_⟩
 ·obtain ⟨v,q⟩:=I.cell x c e;exact absurd (bA q.lt (by rw [z];exact hb)) (bT _)
 ·exact absurd (bA (aT (I.pin p hp).1) (by rw [z];exact hb)) (bT _)
structure EI(P:Program)(w:World)(K:PySem.W.Frag)(tg:Expr)(J:It)(fp:List Addr)(it:Addr)(tn:Nat->Heap->Prop):Prop where
 mem:it∈fp
 obj:∀i h,tn i h->∀b∈fp,∃o,h.get? b=some o/\∀v,o.data ≠ .cell v
 keep:∀i h h',tn i h->(∀b∈fp,∀o,h.get? b=some o->h'.get? b=some o)->tn i h'
 item:∀(X:Cx),X.prog=P->X.w=w->X.K=K->X.calm=true->∀(i:Nat) (pins:List (Addr × Obj)) (s:Shared) (σ:St) (H:Hp) (E:Value->Shared->Prop),bW X pins σ H s->(∀b∈fp,gU X pins H b)->tn i s.heap->J.go i H ->
  wpAny (model P w) X.A (pyNext (.ref it)) (λr s1=>∃u,r=some u /\
   wpAny (model P w) X.A (letOwnedTupleGo tg (.ref it) u) (λ_ s2=>∃x H',bW X pins σ H' s2/\dF x u/\J.yld i H x H'/\tn (i+1) s2.heap/\∀b∈fp,H' b=none) E s1) E s
 done:∀(X:Cx),X.prog=P->X.w=w->X.K=K->X.calm=true->∀(i:Nat) (pins:List (Addr × Obj)) (s:Shared) (σ:St) (H:Hp) (E:Value->Shared->Prop),bW X pins σ H s->(∀b∈fp,gU X pins H b)->tn i s.heap->J.stop i H ->
  wpAny (model P w) X.A (pyNext (.ref it)) (λr s1=>r=none/\bW X pins σ H s1) E s
 self:∀(A:Around) (i:Nat) (s:Shared) (Q:Value->Shared->Prop) (E:Value->Shared->Prop),tn i s.heap->Q (.ref it) s->wpAny (model P w) A (pyIter (.ref it)) Q E s
abbrev TI:=St->Hp->(It->Hp->Prop)->Prop
def PIE(X:Cx)(pins:List (Addr × Obj))(σ:St)(tg:Expr)(R:It->Hp->Prop)(itv:Value)(s2:Shared):Prop :=
 ∃(it:Addr) (fp:List Addr) (tn:Nat->Heap->Prop) (J:It) (H':Hp),itv=.ref it/\bW X pins σ H' s2/\EI X.prog X.w X.K tg J fp it tn/\tn 0 s2.heap/\(∀b∈fp,gU X pins H' b)/\R J H'
def PI(X:Cx)(tg iter:Expr)(wi:TI):Prop :=
 ∀(pins:List (Addr × Obj)) (s:Shared) (σ:St) (H:Hp) (R:It->Hp->Prop),bW X pins σ H s->wi σ H R ->
  wpAny (model X.prog X.w) X.A (eval iter X.env) (λv s1=>wpAny (model X.prog X.w) X.A (pyIter v) (PIE X pins σ tg R) X.xe s1) X.xe s
theorem PQ{M:Model}{A:Around}{E:Value->Shared->Prop}{s:Shared}{tg:Expr}{it:Addr}{u:Value}{o:Obj}{n:String}{vs:Array Value}{Q:Unit->Shared->Prop}(ho:s.heap.get? it=some o)(hc:o.cls=.type n)(hd:o.data=.fields vs)
    (hn:["enumerate","zip","dict_itemiterator","dict_reverseitemiterator","odict_iterator","itertools.zip_longest","itertools.pairwise"].contains n=false) (hQ:Q () s):wpAny M A (letOwnedTupleGo tg (.ref it) u) Q E s:=by
  unfold letOwnedTupleGo;cases tg <;> first
    | exact wpAny_pure hQ
    | (cases u <;> first
        | exact wpAny_pure hQ
        | (refine wpAny_bind (wpAny_load ho ?_)
           rw [hc,hd];show wpAny M A (if (["enumerate","zip","dict_itemiterator","dict_reverseitemiterator","odict_iterator","itertools.zip_longest","itertools.pairwise"].contains n&&vs[0]? == some (rawInt _))=true then _ else _) Q E s;rw [if_neg (by intro h;rw [hn,Bool.false_and] at h;cases h)];exact wpAny_pure hQ))
def YQ(K:PySem.W.Frag)(a:Addr):It :=
 ⟨λi H=>∃xs x,eZ K H a xs/\xs[i]?=some x,λi H x H'=>H'=H/\∀xs,eZ K H a xs->xs[i]?=some x,λi H=>∃xs,eZ K H a xs/\xs.length<=i⟩
def Itt(K:PySem.W.Frag)(a:Addr):It :=
 ⟨λi H=>∃xs x,dO K H a xs/\xs[i]?=some x,λi H x H'=>H'=H/\∀xs,dO K H a xs->xs[i]?=some x,λi H=>∃xs,dO K H a xs/\xs.length<=i⟩
def RX(lo:Int)(n:Nat):It:=⟨λi _=>i<n,λi H x H'=>H'=H/\x=.int (lo+i),λi _=>n<=i⟩
theorem JE{P:Program}{w:World}{K:PySem.W.Frag}{tg:Expr}(a it:Addr):EI P w K tg (YQ K a) [it] it (λi h=>h.IsListIter it a i) where
 mem:=by simp
 obj:=λi h st b hb=>by
  have e:b=it:=by simpa using hb
  subst e;obtain ⟨o,e,c,d⟩:=st;exact ⟨o,e,λv z=>by rw [d] at z;cases z⟩
 keep:=λi h h' st k=>st.at λo e=>k it (by simp) o e
 item:=by
  intro X hP hw hK hc i pins s σ H E I hf st hg;subst hP hw hK;obtain ⟨xs,x,hq,hx⟩:=hg;obtain ⟨its,rv,p,hz⟩:=I.list hq;obtain ⟨u,hu,ru⟩:=rv.get hx;obtain ⟨f0,f1,f2,f3,f4,f5⟩:=hf it (by simp);refine wpAny_pyNext_list_item st p.isList (x:=u) (by simpa using hu) λh' st' sb=>?_;have I1:bW X pins σ H { s with heap:=h' }:=I.turned (t':=s.toks) (λb o hb e=>(sb.2 b hb).trans e) f0 f1 f3 f4 f5;obtain ⟨o,e,c,d⟩:=id st';exact ⟨u,rfl,PQ (s:={ s with heap:=h' }) e c d Dd ⟨x,H,I1,ru,⟨rfl,λys hy=>by rw [I.list_inj hy hq];exact hx⟩,st',λb hb=>(hf b hb).1⟩⟩
 done:=by
  intro X hP hw hK hc i pins s σ H E I hf st hg;subst hP hw hK;obtain ⟨xs,hq,hx⟩:=hg;obtain ⟨its,rv,p,hz⟩:=I.list hq;obtain ⟨f0,f1,f2,f3,f4,f5⟩:=hf it (by simp);have hl:=rv.length;exact wpAny_pyNext_list_end (I.ok.hd hc) st p.isList (by simp;omega) λh' eb=>⟨rfl,I.turned (t':=s.toks) (λb o hb e=>eb b o hb e) f0 f1 f3 f4 f5⟩
 self:=λ_ _ _ _ _ st h=>wpAny_pyIter_listiter st h
theorem ET{P:Program}{w:World}{K:PySem.W.Frag}{tg:Expr}(a it:Addr):EI P w K tg (Itt K a) [it] it (λi h=>h.IsTupleIter it a i) where
 mem:=by simp
 obj:=λi h st b hb=>by
  have e:b=it:=by simpa using hb
  subst e;obtain ⟨o,e,c,d⟩:=st;exact ⟨o,e,λv z=>by rw [d] at z;cases z⟩
 keep:=λi h h' st k=>st.at λo e=>k it (by simp) o e
 item:=by
  intro X hP hw hK hc i pins s σ H E I hf st hg;subst hP hw hK;obtain ⟨xs,x,hq,hx⟩:=hg;obtain ⟨its,rv,p,hz⟩:=I.tuple hq;obtain ⟨u,hu,ru⟩:=rv.get hx;obtain ⟨f0,f1,f2,f3,f4,f5⟩:=hf it (by simp);refine wpAny_pyNext_tuple_item st (show s.heap.IsTuple a its.toArray from p) (x:=u) (by simpa using hu) λh' st' sb=>?_;have I1:bW X pins σ H { s with heap:=h' }:=I.turned (t':=s.toks) (λb o hb e=>(sb.2 b hb).trans e) f0 f1 f3 f4 f5;obtain ⟨o,e,c,d⟩:=id st';exact ⟨u,rfl,PQ (s:={ s with heap:=h' }) e c d Dd ⟨x,H,I1,ru,⟨rfl,λys hy=>by rw [I.tuple_inj hy hq];exact hx⟩,st',λb hb=>(hf b hb).1⟩⟩
 done:=by
  intro X hP hw hK hc i pins s σ H E I hf st hg;subst hP hw hK;obtain ⟨xs,hq,hx⟩:=hg;obtain ⟨its,rv,p,hz⟩:=I.tuple hq;obtain ⟨f0,f1,f2,f3,f4,f5⟩:=hf it (by simp);have hl:=rv.length;exact wpAny_pyNext_tuple_end (I.ok.hd hc) st (show s.heap.IsTuple a its.toArray from p) (by simp;omega) λh' eb=>⟨rfl,I.turned (t':=s.toks) (λb o hb e=>eb b o hb e) f0 f1 f3 f4 f5⟩
 self:=λ_ _ _ _ _ st h=>wpAny_pyIter_tupleiter st h
theorem EU{P:Program}{w:World}{K:PySem.W.Frag}{tg:Expr}(it:Addr)(lo:Int)(n:Nat):EI P w K tg (RX lo n) [it] it (λi h=>IsRangeIter h it (lo+(i:Nat)*1) ((n:Int)-(i:Nat)) 1) where
 mem:=by simp
 obj:=λi h st b hb=>by
  have e:b=it:=by simpa using hb
  subst e;exact ⟨_,st,λv z=>by
   have z':Data.fields _=Data.cell v:=z;cases z'⟩
 keep:=λi h h' st k=>k it (by simp) _ st
 item:=by
  intro X hP hw hK hc i pins s σ H E I hf st hg;subst hP hw hK;obtain ⟨f0,f1,f2,f3,f4,f5⟩:=hf it (by simp);have W:=Walks.range (prog:=X.prog) (w:=X.w) (I.ok.hd hc) it lo 1 n;refine W.item i s _ _ hg st λv h' tk hv st' kk=>?_;obtain ⟨t,rfl⟩:=hv;have I1:bW X pins σ H { s with heap:=h',toks:=tk }:=I.turned (λb o hb e=>kk b o (by simpa using hb) e) f0 f1 f3 f4 f5;refine ⟨_,rfl,PQ (s:={ s with heap:=h',toks:=tk }) (n := "range_iterator") st' rfl rfl Dd ⟨.int (lo+i),H,I1,⟨t,?_⟩,⟨rfl,rfl⟩,st',λb hb=>(hf b hb).1⟩⟩;rw [Int.mul_one]
 done:=by
  intro X hP hw hK hc i pins s σ H E I hf st hg;subst hP hw hK;obtain ⟨f0,f1,f2,f3,f4,f5⟩:=hf it (by simp);exact wpAny_pyNext_range_end (I.ok.hd hc) st (by have:n<=i:=hg;omega) λh' eb=>⟨rfl,I.turned (t':=s.toks) (λb o hb e=>eb b o hb e) f0 f1 f3 f4 f5⟩
 self:=λ_ _ _ _ _ st h=>wpAny_pyIter_rangeiter st h
section
variable{X:Cx}{tg:Expr}
def YG(K:PySem.W.Frag)(tl:TE):TI:=λσ H R=>tl σ H λx H1=>∃a,x=.ref a/\(∃xs,eZ K H1 a xs)/\R (YQ K a) H1
def aA7(K:PySem.W.Frag)(tl:TE):TI:=λσ H R=>tl σ H λx H1=>∃a,x=.ref a/\(∃xs,dO K H1 a xs)/\R (Itt K a) H1
theorem UW{l:Expr}{tl:TE}(hl:PE X l tl):PI X tg l (YG X.K tl):=by
 intro pins s σ H R I h;refine thn (hl pins s σ H _ I h) λv s1 ⟨x,H1,I1,r1,q1⟩=>?_;obtain ⟨a,e,⟨xs,hq⟩,q⟩:=q1;subst e;cases r1;obtain ⟨its,rv,p,hz⟩:=I1.list hq;refine wpAny_pyIter_list p.isList ?_;refine ⟨s1.heap.objs.size,[s1.heap.objs.size],_,_,H1,rfl,I1.kept (t':=s1.toks) λb o e=>aB _ e,JE a _,⟨_,aP _ rfl,rfl,rfl⟩,λb hb=>?_,q⟩;have e:b=s1.heap.objs.size:=by simpa using hb
 subst e;exact I1.fpOk (aM _) (I1.hok.fresh (aM _))
theorem aAA{l:Expr}{tl:TE}(hl:PE X l tl):PI X tg l (aA7 X.K tl):=by
 intro pins s σ H R I h;refine thn (hl pins s σ H _ I h) λv s1 ⟨x,H1,I1,r1,q1⟩=>?_;obtain ⟨a,e,⟨xs,hq⟩,q⟩:=q1;subst e;cases r1;obtain ⟨its,rv,p,hz⟩:=I1.tuple hq;refine wpAny_pyIter_tuple (show s1.heap.IsTuple a its.toArray from p) ?_;refine ⟨s1.heap.objs.size,[s1.heap.objs.size],_,_,H1,rfl,I1.kept (t':=s1.toks) λb o e=>aB _ e,ET a _,⟨_,aP _ rfl,rfl,rfl⟩,λb hb=>?_,q⟩;have e:b=s1.heap.objs.size:=by simpa using hb
 subst e;exact I1.fpOk (aM _) (I1.hok.fresh (aM _))
theorem OA{pins:List (Addr × Obj)}{σ:St}{H:Hp}{s:Shared}{R:It->Hp->Prop}{E:Value->Shared->Prop}{lo hi:Int}{t u v:Tok}{tk:Nat}(I:bW X pins σ H s)(h1:-(2^62)<=lo)(h2:lo<2^62)(h3:-(2^62)<=hi)(h4:hi<2^62)
  (q:R (RX lo (hi-lo).toNat) H):wpAny (model X.prog X.w) X.A (pyIter (.ref s.heap.objs.size)) (PIE X pins σ tg R) E { s with heap:=s.heap.push { cls:=.type "range",data:=.fields #[.int lo t,.int hi u,.int 1 v] },toks:=tk }:=by
 refine wpAny_pyIter_range (IsRange.new ..) (small_one h1 h2 h3 h4) ?_;have I1:bW X pins σ H { s with heap:=s.heap.push { cls:=.type "range",data:=.fields #[.int lo t,.int hi u,.int 1 v] },toks:=tk }:=I.kept λb o e=>aB _ e;refine ⟨(s.heap.push { cls:=.type "range",data:=.fields #[.int lo t,.int hi u,.int 1 v] }).objs.size,[(s.heap.push { cls:=.type "range",data:=.fields #[.int lo t,.int hi u,.int 1 v] }).objs.size],_,_,H,rfl,
  I1.kept (t':=tk) λb o e=>aB _ e,EU _ lo (hi-lo).toNat,?_,λb hb=>?_,q⟩
 ·have e1:lo+((0:Nat):Int)*1=lo:=by simp
  have e2:(((hi-lo).toNat:Nat):Int)-((0:Nat):Int)=Builtin.Range.rangeSize lo hi 1:=by rw [rangeSize_one];split <;> omega
  show IsRangeIter _ _ (lo+((0:Nat):Int)*1) ((((hi-lo).toNat:Nat):Int)-((0:Nat):Int)) 1;rw [e1,e2];exact aP _ rfl
 ·have e:b=(s.heap.push { cls:=.type "range",data:=.fields #[.int lo t,.int hi u,.int 1 v] }).objs.size:=by simpa using hb
  subst e;exact I1.fpOk (aM _) (I1.hok.fresh (aM _))
def YF(ta:TA):TI:=λσ H R=>ta σ H λvs H1=>∃j:Int,vs=[.int j]/\-(2^62)<=j/\j<2^62/\R (RX 0 j.toNat) H1
theorem KB{a:Expr}{ta:TA}{p pos:Pos}(hg:Gl X "range")(hm:X.mg "range" = none)(ha:PA X [a] ta)(hs:starEach [a] X.env=[(false,eval a X.env)]:=by rfl):PI X tg (.Call (.Name "range" p) [a] [] pos) (YF ta):=by
 intro pins s σ H R I h;refine Call_ (oY I hg hm boot_range (PyProof.Rows.callWith_type1 (thn (ha pos pins s σ H _ I h) λus s1 ⟨vs,H1,I1,r1,q1⟩=>?_) hs rfl));obtain ⟨j,e,q1,q2,q⟩:=q1;subst e;cases r1 with
 | cons r rr =>
  cases rr;obtain ⟨t,rfl⟩:=r;exact call_range_1 (OA I1 Oo Oo q1 q2 (by simpa using q))
def aBO(wi:TI)(g:TG)(tb:TS):TS:=λD σ H=>wi σ H λJ H1=>∃W:Nat->Nat->St->Hp->Prop,(∃m,W 0 m σ H1)/\∀i m σ H,W i m σ H ->
 (J.stop i H/\D.nx σ H)\/(J.go i H/\∃N:St->Hp->Prop,(∀σ' H',N σ' H'->∃m',m' < m/\W (i+1) m' σ' H')/\∀x H',J.yld i H x H'->g x σ H' λσ2 H2=>tb { D with nx:=N,ct:=N,bk:=D.nx } σ2 H2)
def qN(fp:List Addr)(h:Heap):List (Addr × Obj):=fp.filterMap λb=>(h.get? b).map λo=>(b,o)
theorem gQ{fp:List Addr}{h:Heap}{b:Addr}{o:Obj}(hb:b∈fp)(e:h.get? b=some o):(b,o)∈qN fp h:=List.mem_filterMap.mpr ⟨b,hb,by rw [e];rfl⟩
theorem KF{fp:List Addr}{h:Heap}{p:Addr × Obj}(hp:p∈qN fp h):p.1∈fp/\h.get? p.1=some p.2:=by
 obtain ⟨b,hb,e⟩:=List.mem_filterMap.mp hp;cases q:h.get? b with
 | none=>rw [q] at e;cases e
 | some o =>
  rw [q] at e;have e':(b,o)=p:=eS e;subst e';exact ⟨hb,q⟩
theorem bW.pinned{pins:List (Addr × Obj)}{σ:St}{H:Hp}{s:Shared}{fp:List Addr}(I:bW X pins σ H s)(hf:∀b∈fp,gU X pins H b)(ho:∀b∈fp,∃o,s.heap.get? b=some o/\∀v,o.data ≠ .cell v):bW X (pins++qN fp s.heap) σ H s :=
 I.pins_of λp hp=>(cM.mp hp).elim (λz=>I.pin p (aL _ z)) λz=>by
  obtain ⟨hb,e⟩:=KF z;obtain ⟨f0,f1,f2,_⟩:=hf p.1 hb;obtain ⟨o,e',d⟩:=ho p.1 hb;rw [e] at e';cases e';exact ⟨e,f0,f1,f2,d⟩
theorem bW.unpinned{pins pl:List (Addr × Obj)}{σ:St}{H:Hp}{s:Shared}(I:bW X (pins++pl) σ H s):bW X pins σ H s:=I.pins_of λp hp=>I.pin p (aL _ (cQ _ hp))
theorem aAu{iter:Expr}{body:List Stmt}{wi:TI}{g:TG}{tb:TS}{pos:Pos}(hp:PassesOwn (model X.prog X.w) X.A X.env X.xe)(hc:X.calm=true)(hi:PI X tg iter wi)(hg:PG X tg g)(hb:GP X body tb)
  (hs:∀x,foldedSetIterable iter X.env x=pure x:=by intro _;rfl):PS X (.For tg iter body [] pos) (aBO wi g tb):=by
 intro pins s σ H D I h;refine wpAny_For (thn (hi pins s σ H _ I h) λv s1 h1=>thn h1 λitv s2 h2=>?_) hs;obtain ⟨it,fp,tn,J,H2,e,I2,T,st2,f2,W,⟨m0,w0⟩,turn⟩:=h2;subst e;have stat:∀{H':Hp},(∀b∈fp,H' b=none)->∀b∈fp,gU X pins H' b:=λhn b hb=>⟨hn b hb,(f2 b hb).2⟩;refine codeAny_forLoop_any (λn s'=>∃i σ' H',bW X pins σ' H' s'/\tn i s'.heap/\(∀b∈fp,H' b=none)/\W i n σ' H') ?_ m0 ⟨0,σ,H2,I2,st2,λb hb=>(f2 b hb).1,w0⟩;rintro n s3 ⟨i,σ3,H3,I3,st3,fr3,w3⟩;rcases turn i n σ3 H3 w3 with ⟨stop,qn⟩ | ⟨go,N,hN,step⟩
 ·refine wpAny_passesOwn hp (thn (T.done X rfl rfl rfl hc i pins s3 σ3 H3 X.xe I3 (stat fr3) st3 stop) λr s4 ⟨hr,I4⟩=>?_);subst hr;exact wpAny_execs_nil ⟨σ3,H3,I4,qn⟩
 ·refine wpAny_passesOwn hp (thn (T.item X rfl rfl rfl hc i pins s3 σ3 H3 X.xe I3 (stat fr3) st3 go) λr s4 ⟨u,hr,h4⟩=>?_);subst hr;refine wpAny_passesOwn hp (thn h4 λ_ s5 ⟨x,H5,I5,r5,y5,st5,fr5⟩=>?_);have I5':=I5.pinned (stat fr5) (T.obj _ _ st5);refine wpAny_passesOwn hp (thn (hg _ s5 σ3 H5 x u _ I5' r5 (step x H5 y5)) λ_ s6 ⟨σ6,H6,I6,q6⟩=>?_);refine wpAny_passesOwn hp (thn (hb _ s6 σ6 H6 _ I6 q6) λf s7 q7=>?_);have again:∀{σ7:St} {H7:Hp},bW X (pins++qN fp s5.heap) σ7 H7 s7->N σ7 H7->∃m,m<n/\∃i σ' H',bW X pins σ' H' s7/\tn i s7.heap/\(∀b∈fp,H' b=none)/\W i m σ' H':=λ{σ7 H7} I7 n7=>by
   obtain ⟨m',hm,w7⟩:=hN σ7 H7 n7;refine ⟨m',hm,i+1,σ7,H7,I7.unpinned,T.keep _ _ _ st5 λb hb o e=>(I7.pin (b,o) (aL _ (aL _ (gQ hb e)))).1,λb hb=>?_,w7⟩;obtain ⟨o,e,d⟩:=T.obj _ _ st5 b hb;exact (I7.pin (b,o) (aL _ (aL _ (gQ hb e)))).2.1
  cases f with
  | next=>obtain ⟨σ7,H7,I7,n7⟩:=q7;exact again I7 n7
  | cont=>obtain ⟨σ7,H7,I7,n7⟩:=q7;exact again I7 n7
  | brk=>obtain ⟨σ7,H7,I7,q7⟩:=q7;exact ⟨σ7,H7,I7.unpinned,q7⟩
  | ret v=>obtain ⟨x7,σ7,H7,I7,r7,q7⟩:=q7;exact ⟨x7,σ7,H7,I7.unpinned,r7,q7⟩
end
theorem oZ{K:PySem.W.Frag}{a:Addr}{xs:List V}{g:TG}{tb:TS}{D:uM}{σ:St}{H:Hp}(Pv:Nat->St->Hp->Prop)(h0:Pv 0 σ H)(hl:∀i σ H,i<=xs.length->Pv i σ H->eZ K H a xs)
  (hs:∀i x σ H,xs[i]?=some x->Pv i σ H->g x σ H λσ2 H2=>tb { D with nx:=Pv (i+1),ct:=Pv (i+1),bk:=D.nx } σ2 H2) (hd:∀σ H,Pv xs.length σ H->D.nx σ H) :
  ∃W:Nat->Nat->St->Hp->Prop,(∃m,W 0 m σ H)/\∀i m σ H,W i m σ H ->
   ((YQ K a).stop i H/\D.nx σ H)\/((YQ K a).go i H/\∃N:St->Hp->Prop,(∀σ' H',N σ' H'->∃m',m' < m/\W (i+1) m' σ' H')/\∀x H',(YQ K a).yld i H x H'->g x σ H' λσ2 H2=>tb { D with nx:=N,ct:=N,bk:=D.nx } σ2 H2):=by
 refine ⟨λi m σ H=>m=xs.length-i/\i<=xs.length/\Pv i σ H,⟨xs.length,by simp,cK _,h0⟩,?_⟩;rintro i m σ H ⟨rfl,hi,p⟩;have q:=hl i σ H hi p;by_cases hlt:i<xs.length
 ·refine .inr ⟨⟨xs,xs[i],q,by simp [hlt]⟩,Pv (i+1),λσ' H' p'=>⟨xs.length-(i+1),Oo,rfl,hlt,p'⟩,λx H' y=>?_⟩;obtain ⟨e,y⟩:=y;subst e;exact hs i x σ _ (y xs q) p
 ·have e:i=xs.length:=Oo;subst e;exact .inl ⟨⟨xs,q,aM _⟩,hd σ H p⟩
theorem ID{K:PySem.W.Frag}{a:Addr}{xs:List V}{g:TG}{tb:TS}{D:uM}{σ:St}{H:Hp}(Pv:Nat->St->Hp->Prop)(h0:Pv 0 σ H)(hl:∀i σ H,i<=xs.length->Pv i σ H->dO K H a xs)
  (hs:∀i x σ H,xs[i]?=some x->Pv i σ H->g x σ H λσ2 H2=>tb { D with nx:=Pv (i+1),ct:=Pv (i+1),bk:=D.nx } σ2 H2) (hd:∀σ H,Pv xs.length σ H->D.nx σ H) :
  ∃W:Nat->Nat->St->Hp->Prop,(∃m,W 0 m σ H)/\∀i m σ H,W i m σ H ->
   ((Itt K a).stop i H/\D.nx σ H)\/((Itt K a).go i H/\∃N:St->Hp->Prop,(∀σ' H',N σ' H'->∃m',m' < m/\W (i+1) m' σ' H')/\∀x H',(Itt K a).yld i H x H'->g x σ H' λσ2 H2=>tb { D with nx:=N,ct:=N,bk:=D.nx } σ2 H2):=by
 refine ⟨λi m σ H=>m=xs.length-i/\i<=xs.length/\Pv i σ H,⟨xs.length,by simp,cK _,h0⟩,?_⟩;rintro i m σ H ⟨rfl,hi,p⟩;have q:=hl i σ H hi p;by_cases hlt:i<xs.length
 ·refine .inr ⟨⟨xs,xs[i],q,by simp [hlt]⟩,Pv (i+1),λσ' H' p'=>⟨xs.length-(i+1),Oo,rfl,hlt,p'⟩,λx H' y=>?_⟩;obtain ⟨e,y⟩:=y;subst e;exact hs i x σ _ (y xs q) p
 ·have e:i=xs.length:=Oo;subst e;exact .inl ⟨⟨xs,q,aM _⟩,hd σ H p⟩
theorem kI{lo:Int}{n:Nat}{g:TG}{tb:TS}{D:uM}{σ:St}{H:Hp}(Pv:Nat->St->Hp->Prop)(h0:Pv 0 σ H)
  (hs:∀i σ H,i<n->Pv i σ H->g (.int (lo+i)) σ H λσ2 H2=>tb { D with nx:=Pv (i+1),ct:=Pv (i+1),bk:=D.nx } σ2 H2) (hd:∀σ H,Pv n σ H->D.nx σ H) :
  ∃W:Nat->Nat->St->Hp->Prop,(∃m,W 0 m σ H)/\∀i m σ H,W i m σ H ->
   ((RX lo n).stop i H/\D.nx σ H)\/((RX lo n).go i H/\∃N:St->Hp->Prop,(∀σ' H',N σ' H'->∃m',m' < m/\W (i+1) m' σ' H')/\∀x H',(RX lo n).yld i H x H'->g x σ H' λσ2 H2=>tb { D with nx:=N,ct:=N,bk:=D.nx } σ2 H2):=by
 refine ⟨λi m σ H=>m=n-i/\i<=n/\Pv i σ H,⟨n,by simp,cK _,h0⟩,?_⟩;rintro i m σ H ⟨rfl,hi,p⟩;by_cases hlt:i<n
 ·refine .inr ⟨hlt,Pv (i+1),λσ' H' p'=>⟨n-(i+1),Oo,rfl,hlt,p'⟩,λx H' y=>?_⟩;obtain ⟨e,y⟩:=y;subst e y;exact hs i σ _ hlt p
 ·have e:i=n:=Oo;subst e;exact .inl ⟨aM _,hd σ H p⟩
abbrev R2:=V->V->Hp->VK->Prop
def nZ(X:Cx)(f:Value->Value->Sem Value)(r:R2):Prop :=
 ∀(pins:List (Addr × Obj)) (s:Shared) (σ:St) (H:Hp) (x y:V) (v u:Value) (Q:VK),bW X pins σ H s->dF x v->dF y u->r x y H Q ->
  wpAny (model X.prog X.w) X.A (f v u) (EP X pins σ Q) X.xe s
def UnR(X:Cx)(f:Value->Sem Value)(r:V->Hp->VK->Prop):Prop :=
 ∀(pins:List (Addr × Obj)) (s:Shared) (σ:St) (H:Hp) (x:V) (v:Value) (Q:VK),bW X pins σ H s->dF x v->r x H Q ->
  wpAny (model X.prog X.w) X.A (f v) (EP X pins σ Q) X.xe s
def fO(X:Cx)(f:Value)(r:List V->Hp->VK->Prop):Prop :=
 ∀(pins:List (Addr × Obj)) (s:Shared) (σ:St) (H:Hp) (xs:List V) (us:List Value) (Q:VK),bW X pins σ H s->cV xs us->r xs H Q ->
  wpAny (model X.prog X.w) X.A (call f us) (EP X pins σ Q) X.xe s
def SQ(r:R2)(ta tb:TE):TE:=λσ H Q=>ta σ H λx H1=>tb σ H1 λy H2=>r x y H2 Q
def tUn(r:V->Hp->VK->Prop)(ta:TE):TE:=λσ H Q=>ta σ H λx H1=>r x H1 Q
def rI(C:Int->Int->Prop)(g:Int->Int->V):R2:=λx y H Q=>∃i j,x=.int i/\y=.int j/\C i j/\Q (g i j) H
def rI0(g:Int->Int->V):R2:=λx y H Q=>∃i j,x=.int i/\y=.int j/\Q (g i j) H
def rU(g:Int->V):V->Hp->VK->Prop:=λx H Q=>∃i,x=.int i/\Q (g i) H
section
variable{X:Cx}{a b c:Expr}{ta tb tc:TE}{pos:Pos}
theorem aBp(ha:PE X a ta)(hb:PE X b tb){pins:List (Addr × Obj)}{s:Shared}{σ:St}{H:Hp}{R:V->V->Hp->Prop}(I:bW X pins σ H s)
  (h:ta σ H λx H1=>tb σ H1 λy H2=>R x y H2) {Q:Value->Shared->Prop} {f:Value->Value->Sem Value}
  (hf:∀v u s2 x y H2,bW X pins σ H2 s2->dF x v->dF y u->R x y H2->wpAny (model X.prog X.w) X.A (f v u) Q X.xe s2) :
  wpAny (model X.prog X.w) X.A (eval a X.env) (λv s₁=>wpAny (model X.prog X.w) X.A (eval b X.env) (λu s₂=>wpAny (model X.prog X.w) X.A (f v u) Q X.xe s₂) X.xe s₁) X.xe s:=by
 refine thn (ha pins s σ H _ I h) λv s1 ⟨x,H1,I1,r1,q1⟩=>?_;refine thn (hb pins s1 σ H1 _ I1 q1) λu s2 ⟨y,H2,I2,r2,q2⟩=>?_;exact hf v u s2 x y H2 I2 r1 r2 q2
theorem aCb{op:Operator}{r:R2}(ho:nZ X (binaryOp op) r)(ha:PE X a ta)(hb:PE X b tb):PE X (.BinOp a op b pos) (SQ r ta tb):=by
 intro pins s σ H Q I h;exact wpAny_BinOp (aBp ha hb I h λv u s2 x y H2 I2 rx ry q=>ho pins s2 σ H2 x y v u Q I2 rx ry q)
theorem aCa{op:UnaryOp}{r:V->Hp->VK->Prop}(ho:UnR X (unaryOp op) r)(ha:PE X a ta):PE X (.UnaryOp op a pos) (tUn r ta):=by
 intro pins s σ H Q I h;exact UnaryOp_ (thn (ha pins s σ H _ I h) λv s1 ⟨x,H1,I1,r1,q1⟩=>ho pins s1 σ H1 x v Q I1 r1 q1)
theorem opI{f:Value->Value->Sem Value}{C:Int->Int->Prop}{g:Int->Int->Int}
  (rule:∀(i j:Int) (t u:Tok) (s:Shared) (Q:Value->Shared->Prop) (E:Value->Shared->Prop),C i j->Q (.int (g i j) s.toks) { s with toks:=s.toks+1 }->wpAny (model X.prog X.w) X.A (f (.int i t) (.int j u)) Q E s) :
  nZ X f (rI C λi j=>.int (g i j)):=by
 intro pins s σ H x y v u Q I rx ry h;obtain ⟨i,j,rfl,rfl,hc,q⟩:=h;obtain ⟨t,rfl⟩:=rx;obtain ⟨t',rfl⟩:=ry;exact rule i j t t' s _ _ hc ⟨.int (g i j),H,I.tok _,⟨_,rfl⟩,q⟩
theorem aCf{f:Value->Value->Sem Value}{g:Int->Int->Int}
  (rule:∀(i j:Int) (t u:Tok) (s:Shared) (Q:Value->Shared->Prop) (E:Value->Shared->Prop),Q (.int (g i j) s.toks) { s with toks:=s.toks+1 }->wpAny (model X.prog X.w) X.A (f (.int i t) (.int j u)) Q E s) :
  nZ X f (rI0 λi j=>.int (g i j)):=by
 intro pins s σ H x y v u Q I rx ry h;obtain ⟨i,j,rfl,rfl,q⟩:=h;obtain ⟨t,rfl⟩:=rx;obtain ⟨t',rfl⟩:=ry;exact rule i j t t' s _ _ ⟨.int (g i j),H,I.tok _,⟨_,rfl⟩,q⟩
theorem aAQ{f:Value->Value->Sem Value}{g:Int->Int->Bool}
  (rule:∀(i j:Int) (t u:Tok) (s:Shared) (Q:Value->Shared->Prop) (E:Value->Shared->Prop),Q (.bool (g i j)) s->wpAny (model X.prog X.w) X.A (f (.int i t) (.int j u)) Q E s) :
  nZ X f (rI0 λi j=>.bl (g i j)):=by
 intro pins s σ H x y v u Q I rx ry h;obtain ⟨i,j,rfl,rfl,q⟩:=h;obtain ⟨t,rfl⟩:=rx;obtain ⟨t',rfl⟩:=ry;exact rule i j t t' s _ _ ⟨.bl (g i j),H,I,rfl,q⟩
def aEX(i j:Int):Prop:=0<=j/\j<=1000000/\i.natAbs<2^64
theorem gP:nZ X (binaryOp .Add) (rI0 λi j=>.int (i+j)):=aCf λ_ _ _ _ _ _ _ q=>add_int q
theorem FU:nZ X (binaryOp .Sub) (rI0 λi j=>.int (i-j)):=aCf λ_ _ _ _ _ _ _ q=>sub_int q
theorem oX:nZ X (binaryOp .Mod) (rI (λ_ j=>0<j) λi j=>.int (i % j)):=opI λi j _ _ _ _ _ hc q=>by
 have h1:(0:Int)<j:=hc;exact mod_int' Oo (by rw [Int.fmod_eq_emod_of_nonneg i Oo];exact q)
theorem aAK:nZ X (binaryOp .Pow) (rI aEX λi j=>.int (i^j.toNat)):=opI λ_ _ _ _ _ _ _ hc q=>pow_int_small hc.1 hc.2.1 hc.2.2 q
theorem unI{f:Value->Sem Value}{g:Int->Int}
  (rule:∀(i:Int) (t:Tok) (s:Shared) (Q:Value->Shared->Prop) (E:Value->Shared->Prop),Q (.int (g i) s.toks) { s with toks:=s.toks+1 }->wpAny (model X.prog X.w) X.A (f (.int i t)) Q E s) :
  UnR X f (rU λi=>.int (g i)):=by
 intro pins s σ H x v Q I rx h;obtain ⟨i,rfl,q⟩:=h;obtain ⟨t,rfl⟩:=rx;exact rule i t s _ _ ⟨.int (g i),H,I.tok _,⟨_,rfl⟩,q⟩
theorem MV:UnR X (unaryOp .USub) (rU λi=>.int (-i)):=unI λ_ _ _ _ _ q=>neg_int q
end
def scal:V->V->Bool
 | .non,.non=>true | .non,.int _=>true | .int _,.non=>true | .non,.bl _=>true | .bl _,.non=>true | .non,.str _=>true | .str _,.non=>true
 | .int _,.int _=>true | .bl _,.bl _=>true | .str _,.str _=>true | .byt _,.byt _=>true
 | .int _,.str _=>true | .str _,.int _=>true | .bl _,.str _=>true | .str _,.bl _=>true
 | _,_=>false
def rEq:R2:=λx y H Q=>scal x y=true/\Q (.bl (decide (x=y))) H
def rNe:R2:=λx y H Q=>scal x y=true/\Q (.bl (!decide (x=y))) H
theorem II{i j:Int}:decide (V.int i=V.int j)=(i == j):=by
 rw [Bool.eq_iff_iff];simp
theorem QE{i j:Bool}:decide (V.bl i=V.bl j)=(i == j):=by
 rw [Bool.eq_iff_iff];simp
theorem IH{i j:Str}:decide (V.str i=V.str j)=(i == j):=by
 rw [Bool.eq_iff_iff];simp
theorem IJ{i j:Array UInt8}:decide (V.byt i=V.byt j)=(i.toList == j.toList):=by
 rw [Bool.eq_iff_iff];cases i;cases j;simp
section
variable{X:Cx}{a b c:Expr}{ta tb tc:TE}{pos:Pos}
theorem dS{pins:List (Addr × Obj)}{σ:St}{H:Hp}{s:Shared}{Q:VK}{k k':Bool}(I:bW X pins σ H s)(q:Q (.bl k) H)(e:k=k'):EP X pins σ Q (.bool k') s:=by
 subst e;exact ⟨.bl k,H,I,rfl,q⟩
theorem qH:nZ X (compareOp .Eq) rEq:=by
 intro pins s σ H x y v u Q I rx ry h;obtain ⟨hs,q⟩:=h;cases x with
 | non =>
  cases rx;cases y with
  | non=>cases ry;exact PySem.EqNone.eq_none_none (dS I q (by simp))
  | bl j=>cases ry;exact PySem.EqNone.eq_none_bool (dS I q (by simp))
  | int j=>obtain ⟨t',rfl⟩:=ry;exact PySem.EqNone.eq_none_int (dS I q (by simp))
  | str j=>obtain ⟨t',rfl⟩:=ry;exact PySem.EqNone.eq_none_str (dS I q (by simp))
  | _=>exact absurd (show false=true from hs) bN
 | bl i =>
  cases rx;cases y with
  | non=>cases ry;exact PySem.EqNone.eq_bool_none (dS I q (by simp))
  | bl j=>cases ry;exact eq_bool (dS I q QE)
  | str j=>obtain ⟨t',rfl⟩:=ry;exact PySem.EqMixed.eq_bool_str (dS I q (by simp))
  | _=>exact absurd (show false=true from hs) bN
 | int i =>
  obtain ⟨t,rfl⟩:=rx;cases y with
  | non=>cases ry;exact PySem.EqNone.eq_int_none (dS I q (by simp))
  | int j=>obtain ⟨t',rfl⟩:=ry;exact eq_int (dS I q II)
  | str j=>obtain ⟨t',rfl⟩:=ry;exact PySem.EqMixed.eq_int_str (dS I q (by simp))
  | _=>exact absurd (show false=true from hs) bN
 | str i =>
  obtain ⟨t,rfl⟩:=rx;cases y with
  | non=>cases ry;exact PySem.EqNone.eq_str_none (dS I q (by simp))
  | bl j=>cases ry;exact PySem.EqMixed.eq_str_bool (dS I q (by simp))
  | int j=>obtain ⟨t',rfl⟩:=ry;exact PySem.EqMixed.eq_str_int (dS I q (by simp))
  | str j=>obtain ⟨t',rfl⟩:=ry;exact eq_str (dS I q IH)
  | _=>exact absurd (show false=true from hs) bN
 | byt i =>
  obtain ⟨t,rfl⟩:=rx;cases y with
  | byt j=>obtain ⟨t',rfl⟩:=ry;exact PySem.W.eq_bytes (dS I q IJ)
  | _=>exact absurd (show false=true from hs) bN
 | _=>cases y <;> exact absurd (show false=true from hs) bN
theorem OR:nZ X (compareOp .NotEq) rNe:=by
 intro pins s σ H x y v u Q I rx ry h;obtain ⟨hs,q⟩:=h;cases x with
 | non =>
  cases rx;cases y with
  | non=>cases ry;exact PySem.EqNone.ne_none_none (dS I q (by simp))
  | bl j=>cases ry;exact PySem.EqNone.ne_none_bool (dS I q (by simp))
  | int j=>obtain ⟨t',rfl⟩:=ry;exact PySem.EqNone.ne_none_int (dS I q (by simp))
  | str j=>obtain ⟨t',rfl⟩:=ry;exact PySem.EqNone.ne_none_str (dS I q (by simp))
  | _=>exact absurd (show false=true from hs) bN
 | bl i =>
  cases rx;cases y with
  | non=>cases ry;exact PySem.EqNone.ne_bool_none (dS I q (by simp))
  | bl j=>cases ry;exact ne_bool (dS I q (congrArg not QE))
  | str j=>obtain ⟨t',rfl⟩:=ry;exact PySem.EqMixed.ne_bool_str (dS I q (by simp))
  | _=>exact absurd (show false=true from hs) bN
 | int i =>
  obtain ⟨t,rfl⟩:=rx;cases y with
  | non=>cases ry;exact PySem.EqNone.ne_int_none (dS I q (by simp))
  | int j=>obtain ⟨t',rfl⟩:=ry;exact ne_int (dS I q (congrArg not II))
  | str j=>obtain ⟨t',rfl⟩:=ry;exact PySem.EqMixed.ne_int_str (dS I q (by simp))
  | _=>exact absurd (show false=true from hs) bN
 | str i =>
  obtain ⟨t,rfl⟩:=rx;cases y with
  | non=>cases ry;exact PySem.EqNone.ne_str_none (dS I q (by simp))
  | bl j=>cases ry;exact PySem.EqMixed.ne_str_bool (dS I q (by simp))
  | int j=>obtain ⟨t',rfl⟩:=ry;exact PySem.EqMixed.ne_str_int (dS I q (by simp))
  | str j=>obtain ⟨t',rfl⟩:=ry;exact ne_str (dS I q (congrArg not IH))
  | _=>exact absurd (show false=true from hs) bN
 | byt i =>
  obtain ⟨t,rfl⟩:=rx;cases y with
  | byt j=>obtain ⟨t',rfl⟩:=ry;exact PySem.W.ne_bytes (dS I q (congrArg not IJ))
  | _=>exact absurd (show false=true from hs) bN
 | _=>cases y <;> exact absurd (show false=true from hs) bN
theorem YA:nZ X (compareOp .LtE) (rI0 λi j=>.bl (decide (i<=j))):=aAQ λ_ _ _ _ _ _ _ q=>le_int q
theorem yL:nZ X (compareOp .Gt) (rI0 λi j=>.bl (decide (j<i))):=aAQ λ_ _ _ _ _ _ _ q=>gt_int q
theorem YB:nZ X (compareOp .GtE) (rI0 λi j=>.bl (decide (j<=i))):=aAQ λ_ _ _ _ _ _ _ q=>ge_int q
theorem nomark(b:Expr){op:CmpOp}(h:op ≠ .In:=by decide)(h2:op ≠ .NotIn:=by decide):behindInMarks op b=false:=by
 have e1:(op == CmpOp.In)=false:=by cases op <;> first | rfl | exact absurd rfl h
 have e2:(op == CmpOp.NotIn)=false:=by cases op <;> first | rfl | exact absurd rfl h2
 cases b <;> simp [behindInMarks,e1,e2]
theorem VC{op:CmpOp}{r:R2}(ho:nZ X (compareOp op) r)(ha:PE X a ta)(hb:PE X b tb)(hm:behindInMarks op b=false):PE X (.Compare a [op] [b] pos) (SQ r ta tb):=by
 intro pins s σ H Q I h;exact wpAny_Compare1 (aBp ha hb I h λv u s2 x y H2 I2 rx ry q=>ho pins s2 σ H2 x y v u Q I2 rx ry q) hm
def XJ(t:TE):TT:=λσ H Q=>t σ H λx H'=>∃k,x=.bl k/\Q k H'
theorem UQ{op:CmpOp}{r:R2}(ho:nZ X (compareOp op) r)(ha:PE X a ta)(hb:PE X b tb)(hm:behindInMarks op b=false):PT X (.Compare a [op] [b] pos) (XJ (SQ r ta tb)):=by
 intro pins s σ H Q I h;refine wpAny_isTrue_Compare1 (thn (ha pins s σ H _ I h) λv s1 ⟨x,H1,I1,r1,q1⟩=>thn (hb pins s1 σ H1 _ I1 q1) λu s2 ⟨y,H2,I2,r2,q2⟩ =>
  thn (ho pins s2 σ H2 x y v u _ I2 r1 r2 q2) λc s3 ⟨z,H3,I3,r3,k,e,q3⟩=>?_) hm
 subst e;cases r3;exact wpAny_truthy_bool ⟨H3,I3,q3⟩
def NC(r r':R2)(ta tb tc:TE):TE:=λσ H Q=>ta σ H λx H1=>tb σ H1 λy H2=>r x y H2 λz H3=>∃k,z=.bl k /\
 (if k=true then tc σ H3 λw' H4=>r' y w' H4 Q else Q (.bl false) H3)
theorem OO{op op':CmpOp}{r r':R2}(ho:nZ X (compareOp op) r)(ho':nZ X (compareOp op') r')(ha:PE X a ta)(hb:PE X b tb)(hc:PE X c tc)
  (hm:lastMarks [op,op'] [b,c]=false:=by with_unfolding_all rfl):PE X (.Compare a [op,op'] [b,c] pos) (NC r r' ta tb tc):=by
 intro pins s σ H Q I h;refine Compare_chain (thn (ha pins s σ H _ I h) λv s1 ⟨x,H1,I1,r1,q1⟩=>chain_link (thn (hb pins s1 σ H1 _ I1 q1) λu s2 ⟨y,H2,I2,r2,q2⟩ =>
  thn (ho pins s2 σ H2 x y v u _ I2 r1 r2 q2) λd s3 ⟨z,H3,I3,r3,k,e,q3⟩=>?_)) hm
 subst e;cases r3;refine wpAny_truthy_bool ?_;cases k with
 | false=>exact ite_ff ⟨.bl false,H3,I3,rfl,q3⟩
 | true=>exact ite_tt (chain_last (thn (hc pins s3 σ H3 _ I3 q3) λw' s4 ⟨z',H4,I4,r4,q4⟩=>ho' pins s4 σ H4 y z' u w' Q I4 r2 r4 q4))
theorem wN:(sizeLine:Nat)<2^63:=by rw [sizeLine_eq];decide
theorem kM{x:V}{us:List Value}(r:cV [x] us):∃u,us=[u]/\dF x u:=by
 cases r with
 | cons r1 r2=>cases r2;exact ⟨_,rfl,r1⟩
theorem BT{x y:V}{us:List Value}(r:cV [x,y] us):∃u w',us=[u,w']/\dF x u/\dF y w':=by
 cases r with
 | cons r1 r2 =>
  cases r2 with
  | cons r3 r4=>cases r4;exact ⟨_,_,rfl,r1,r3⟩
theorem QO:fO X (.builtin "abs") (λxs H Q=>∃i,xs=[.int i]/\Q (.int (if i<0 then -i else i)) H):=by
 intro pins s σ H xs us Q I r h;obtain ⟨i,rfl,q⟩:=h;obtain ⟨u,rfl,t,rfl⟩:=kM r;exact call_abs_int λu tk=>⟨.int (if i<0 then -i else i),H,I.tok _,⟨_,rfl⟩,q⟩
theorem LJ(hc:X.calm=true):fO X (.builtin "max") (λxs H Q=>∃i j,xs=[.int i,.int j]/\Q (.int (if j > i then j else i)) H):=by
 intro pins s σ H xs us Q I r h;obtain ⟨i,j,rfl,q⟩:=h;obtain ⟨u,w',rfl,⟨t,rfl⟩,⟨t',rfl⟩⟩:=BT r;refine max_two_ints (I.ok.hd hc) λh' tk k=>⟨_,H,I.kept k,?_,q⟩;by_cases hj:j > i
 ·rw [if_pos hj,if_pos hj];exact ⟨_,rfl⟩
 ·rw [if_neg hj,if_neg hj];exact ⟨_,rfl⟩
theorem LK:fO X (.type "int") (λxs H Q=>(∃i,xs=[.int i]/\Q (.int i) H)\/∃k,xs=[.bl k]/\Q (.int (if k then 1 else 0)) H):=by
 intro pins s σ H xs us Q I r h;rcases h with ⟨i,rfl,q⟩ | ⟨k,rfl,q⟩
 ·obtain ⟨u,rfl,t,rfl⟩:=kM r;exact call_int_int ⟨.int i,H,I,⟨_,rfl⟩,q⟩
 ·obtain ⟨u,rfl,r1⟩:=kM r;cases r1;exact call_int_bool ⟨.int (if k then 1 else 0),H,I.tok _,⟨_,rfl⟩,q⟩
def aCL(K:PySem.W.Frag)(x:V)(H:Hp)(n:Nat):Prop :=
 match x with
 | .str y=>y.length<=sizeLine/\n=y.length
 | .byt y=>y.size<=sizeLine/\n=y.size
 | .ref p=>(∃xs,eZ K H p xs/\n=xs.length)\/∃xs,dO K H p xs/\n=xs.length
 | _=>False
theorem QN:fO X (.builtin "len") (λxs H Q=>∃x n,xs=[x]/\aCL X.K x H n/\Q (.int n) H):=by
 intro pins s σ H xs us Q I r h;obtain ⟨x,n,rfl,e,q⟩:=h;obtain ⟨u,rfl,rx⟩:=kM r;have hl:=wN;have hs:sizeLine=16777216:=sizeLine_eq;cases x with
 | str y =>
  obtain ⟨t,rfl⟩:=rx;obtain ⟨hy,e'⟩:y.length<=sizeLine/\n=y.length:=e;subst e';exact len_str Oo ⟨.int _,H,I.tok _,⟨_,rfl⟩,q⟩
 | byt y =>
  obtain ⟨t,rfl⟩:=rx;obtain ⟨hy,e'⟩:y.size<=sizeLine/\n=y.size:=e;subst e';exact PySem.W.len_bytes Oo ⟨.int _,H,I.tok _,⟨_,rfl⟩,q⟩
 | ref p =>
  cases rx;have e':(∃xs,eZ X.K H p xs/\n=xs.length)\/∃xs,dO X.K H p xs/\n=xs.length:=e;rcases e' with ⟨xs,hx,e'⟩ | ⟨xs,hx,e'⟩
  ·subst e';obtain ⟨its,r',pl,hz⟩:=I.list hx;have hlen:=r'.length;exact Calls.call_len_list pl.isList (by simp only [aQ];omega) ⟨.int xs.length,H,I.tok _,⟨_,by simp only [aQ];rw [hlen]⟩,q⟩
  ·subst e';obtain ⟨its,r',pl,hz⟩:=I.tuple hx;have hlen:=r'.length;exact len_tuple pl (by simp only [aQ];omega) ⟨.int xs.length,H,I.tok _,⟨_,by simp only [aQ];rw [hlen]⟩,q⟩
 | _=>exact (show False from e).elim
end
structure aBu(h:Heap)(x dx C:Addr)(mA:Str->Option Value):Prop where
 obj:h.get? x=some (PySem.W.instObj C dx)
 ns:h.Ns1 dx mA
 ne:dx≠x
theorem KI{h:Heap}{dx:Addr}{mA:Str->Option Value}(n:h.Ns1 dx mA):∃od,h.get? dx=some od/\∀name,PySem.W.lookIn name od=some (mA name):=by
 obtain ⟨o,es,ep,ho,hd,hk,_,hm⟩:=n;refine ⟨o,ho,λname=>?_⟩;have e:=hm name;unfold nsFind findBy at e;rw [<-Array.find?_toList] at e;unfold PySem.W.lookIn;rw [hd];dsimp only;split
 ·rename_i y q
  rw [q] at e;exact congrArg some e
 ·rename_i q
  rw [q] at e;have a:es.toList.any (·.refKey)=false:=by
   rw [List.any_eq_false];intro y hy;obtain ⟨z,t,hkey⟩:=hk y (Array.mem_toList_iff.mp hy);simp [DictEntry.refKey,hkey]
  have a':¬es.toList.any (·.refKey)=true:=by rw [a];exact bN
  rw [if_neg a'];exact congrArg some e
theorem aBu.look{h:Heap}{x dx C:Addr}{mA:Str->Option Value}(I:aBu h x dx C mA):∃od,PySem.W.InstAt h x (PySem.W.instObj C dx) C (some od)/\∀name,PySem.W.lookIn name od=some (mA name) :=
 let ⟨od,ho,hl⟩:=KI I.ns
 ⟨od,⟨I.obj,rfl,rfl,ho⟩,hl⟩
section
variable{prog:Program}{w:World}{A:Around}{E:Value->Shared->Prop}{s:Shared}{K:PySem.W.Frag}{x dx C f:Addr}{mA:Str->Option Value}{name:Str}{v:Value}
end
theorem uI.some_of{v:V}{o:Option Value}(r:uI (some v) o):∃u,o=some u/\dF v u:=by
 cases o with
 | none=>exact (show False from r).elim
 | some u=>exact ⟨u,rfl,r⟩
section
variable{P:Program}{w:World}{H H':Hp}{h h':Heap}{a C dx:Addr}{fs fs':List (Str × V)}
theorem VX(hok:nU P w H h)(e:H a=some (.ins C dx fs)):∃mA,aBu h a dx C mA/\(∀f,uI (fs.lookup f) (mA f))/\PySem.Within mA (fs.map (·.1))/\fs.length<=1000/\H dx=some (.own a):=by
 obtain ⟨d,z,ne,ob,mA,n,r,q⟩:=(show dM P w H h a (.ins C dx fs) from hok a _ e);exact ⟨mA,⟨ob,n,ne⟩,r,q,z,d⟩
end
structure Cls(K:PySem.W.Frag)(C:Addr):Prop where
 pg:PySem.W.plainGet K C Str.empty=true
 hd:PySem.W.hasDictIn K C=true
 po:PySem.W.plainOver K C=true
 sa:PySem.W.findIn K (.ref C) "__setattr__" = some (some (.builtin "object.__setattr__"))
theorem Cls.get{K:PySem.W.Frag}{C:Addr}(c:Cls K C)(f:Str):PySem.W.plainGet K C f=true:=c.pg
section
variable{X:Cx}{pins:List (Addr × Obj)}{σ:St}{H:Hp}{s:Shared}{a C dx:Addr}{fs:List (Str × V)}{f:Str}{v:V}{A:Around}{E:Value->Shared->Prop}
end
section
variable{X:Cx}{o e value:Expr}{f:Str}{pos pos' tpos:Pos}{ta tv:TE}
end
section
variable{X:Cx}{pins:List (Addr × Obj)}{σ:St}{H:Hp}{s:Shared}{A:Around}{E:Value->Shared->Prop}{Q:Value->Shared->Prop}{c:Value}{b:Bool}
inductive uH (K:PySem.W.Frag) (H:Hp):V->Value->Prop where
 | non:uH K H .non (.type "NoneType")
 | bl (x:Bool):uH K H (.bl x) (.type "bool")
 | int (i:Int):uH K H (.int i) (.type "int")
 | str (x:Str):uH K H (.str x) (.type "str")
 | flt (x:UInt64):uH K H (.flt x) (.type "float")
 | lst {a:Addr} {xs:List V} (e:H a=some (.lst xs)):uH K H (.ref a) (.type "list")
 | frz {a:Addr} {o:Obj} {xs:List V} (e:H a=some (.frz o (.lst xs))):uH K H (.ref a) (.type "list")
 | tup {a:Addr} {xs:List V} (e:H a=some (.tup xs)):uH K H (.ref a) (.type "tuple")
 | dK {a:Addr} {kvs:List (eA × V)} (e:H a=some (.dK kvs)):uH K H (.ref a) (.type "dict")
 | dT {a:Addr} {kvs:List (List eA × V)} (e:H a=some (.dT kvs)):uH K H (.ref a) (.type "dict")
 | ins {a C dx:Addr} {fs:List (Str × V)} (e:H a=some (.ins C dx fs)) (cl:Cls K C) (ha:PySem.W.findIn K (.ref C) "__class__" = some (some (.builtin "object.__class__")))
   (hn:PySem.W.specialIn K (.builtin "object.__class__") "__get__" = some (some (.builtin "getset_descriptor.__get__"))) (htk:PySem.W.takesIn K (.builtin "object.__class__")=some true)
   (hm:PySem.W.mroIn K C (.type "object")=some true):uH K H (.ref a) (.ref C)
theorem KQ{x:V}{u t:Value}(I:bW X pins σ H s)(rx:dF x u)(ty:uH X.K H x t)(e:PySem.W.kitOne X.K t c=some b)(h:∀tk,Q (.bool b) { s with toks:=tk }) :
  wpAny (model X.prog X.w) A (call (.builtin "isinstance") [u,c]) Q E s:=by
 cases ty with
 | non=>cases (show u=Value.none from rx);exact PySem.W.kia_one PySem.W.kitx_none I.kIn True.intro e (λz=>nomatch z) h
 | bl y=>cases (show u=Value.bool y from rx);exact PySem.W.kia_one PySem.W.kitx_bool I.kIn True.intro e (λz=>nomatch z) h
 | int i=>obtain ⟨t,q⟩:=(show ∃t,u=Value.int i t from rx);cases q;exact PySem.W.kia_one PySem.W.kitx_int I.kIn True.intro e (λz=>nomatch z) h
 | str y=>obtain ⟨t,q⟩:=(show ∃t,u=Value.str y t from rx);cases q;exact PySem.W.kia_one PySem.W.kitx_str I.kIn True.intro e (λz=>nomatch z) h
 | flt y=>obtain ⟨t,q⟩:=(show ∃t,u=Value.float y t from rx);cases q;exact PySem.W.kia_one PySem.W.kitx_float I.kIn True.intro e (λz=>nomatch z) h
 | @lst a xs ea =>
  cases (show u=Value.ref a from rx);obtain ⟨_,_,n,_,h1⟩:=(show dM X.prog X.w H s.heap a (.lst xs) from I.hok a _ ea);exact PySem.W.kia_one PySem.W.kitx_list I.kIn ⟨_,h1,rfl⟩ e (λz=>nomatch z) h
 | @frz a ob xs ea =>
  cases (show u=Value.ref a from rx);obtain ⟨_,_,_,n,_,h1⟩:=(show dM X.prog X.w H s.heap a (.frz ob (.lst xs)) from I.hok a _ ea);exact PySem.W.kia_one PySem.W.kitx_list I.kIn ⟨_,h1,rfl⟩ e (λz=>nomatch z) h
 | @tup a xs ea =>
  cases (show u=Value.ref a from rx);obtain ⟨_,_,_,p⟩:=(show dM X.prog X.w H s.heap a (.tup xs) from I.hok a _ ea);obtain ⟨o,h1,h2,_⟩:=p;exact PySem.W.kia_one PySem.W.kitx_tuple I.kIn ⟨o,h1,h2⟩ e (λz=>nomatch z) h
 | @dK a kvs ea =>
  cases (show u=Value.ref a from rx);obtain ⟨_,_,vs,_,p⟩:=(show dM X.prog X.w H s.heap a (.dK kvs) from I.hok a _ ea);obtain ⟨o,es,ep,h1,h2,_⟩:=p;exact PySem.W.kia_one PySem.W.kitx_dict I.kIn ⟨o,h1,h2.1⟩ e (λz=>nomatch z) h
 | @dT a kvs ea =>
  cases (show u=Value.ref a from rx);obtain ⟨_,_,xs,_,o,es,ep,h1,h2,_⟩:=(show dM X.prog X.w H s.heap a (.dT kvs) from I.hok a _ ea);exact PySem.W.kia_one PySem.W.kitx_dict I.kIn ⟨o,h1,h2.1⟩ e (λz=>nomatch z) h
 | @ins a C dx fs ea cl ha hn htk hm =>
  cases (show u=Value.ref a from rx);obtain ⟨mA,O,_⟩:=VX I.hok ea;obtain ⟨od,J,_⟩:=O.look;exact PySem.W.kia_one (PySem.W.kitx_own (cl.get _) cl.hd ha hn htk hm) I.kIn J e (λz=>nomatch z) h
end
structure iF(k:Nat)(A:Around):Prop where
 hd:A.handled=none
 dp:A.depth+3*k+5<recursionLimit
 un:A.units+16*k+200<cLine
 gd:A.guards=some []
theorem iF.mono{j k:Nat}{A:Around}(r:iF k A)(h:j<=k):iF j A:=⟨r.hd,by have:=r.dp;omega,by have:=r.un;omega,r.gd⟩
theorem iF.deeper{k:Nat}{A:Around}(r:iF (k+1) A)(env:Env):iF k (A.deeper env) :=
 ⟨r.hd,by have:=r.dp;show A.depth+1+3*k+5<_;omega,by have:=r.un;show A.units+3+16*k+200<_;omega,r.gd⟩
theorem iF.in1{k:Nat}{A:Around}(r:iF (k+1) A):iF k A.in1 :=
 ⟨r.hd,by have:=r.dp;show A.depth+3*k+5<_;omega,by have:=r.un;show A.units+1+16*k+200<_;omega,r.gd⟩
theorem iF.depth{k:Nat}{A:Around}(r:iF k A):A.depth<recursionLimit:=by have:=r.dp;omega
theorem iF.units{k:Nat}{A:Around}(r:iF k A):A.units+64<cLine:=by have:=r.un;omega
def aBM:TA:=λ_ H Q=>Q [] H
def XS(ta:TE)(tr:TA):TA:=λσ H Q=>ta σ H λx H1=>tr σ H1 λxs H2=>Q (x::xs) H2
section
variable{X:Cx}{e:Expr}{es:List Expr}{te:TE}{t:TA}{pos:Pos}
theorem pa_nil:PA X [] aBM:=λ_ _ _ _ H Q I h=>Calls.spliced_nil ⟨[],H,I,.nil,h⟩
theorem VF(ha:PE X e te)(hr:PA X es t)(hs:starEach (e::es) X.env=(false,eval e X.env)::starEach es X.env:=by rfl):PA X (e::es) (XS te t):=by
 intro pos pins s σ H Q I h;rw [hs];show wpAny _ _ (spliced ((false,eval e X.env)::backTo pos (starEach es X.env))) _ _ s;refine Calls.spliced_cons (thn (ha pins s σ H _ I h) λu s1 ⟨x,H1,I1,r1,q1⟩=>?_);exact thn (hr pos pins s1 σ H1 _ I1 q1) λus s2 ⟨xs,H2,I2,r2,q2⟩=>⟨x::xs,H2,I2,.cons r1 r2,q2⟩
def aC6(t:TA):TE:=λσ H Q=>t σ H λxs H1=>xs.length<=sizeLine/\∀p,H1 p=none->Q (.ref p) (upd H1 p (.tup xs))
def aC7(t:TA):TE:=λσ H Q=>t σ H λxs H1=>xs.length<=sizeLine/\∀p,H1 p=none->Q (.ref p) (upd H1 p (.lst xs))
theorem aAE{x1}(h:PA X es t):PE X (.Tuple es x1 pos) (aC6 t):=by
 intro pins s σ H Q I hq;refine wpAny_Tuple_spliced (thn (h pos pins s σ H _ I hq) λus s1 ⟨xs,H1,I1,r,z,q⟩=>⟨by rw [<-r.length];exact z,?_⟩);have hf:H1 s1.heap.objs.size=none:=I1.hok.fresh (aM _);refine ⟨.ref s1.heap.objs.size,upd H1 s1.heap.objs.size (.tup xs),I1.laid (t':=s1.toks) (λb u e=>aB _ e) (aM _) ?_,rfl,q _ hf⟩;exact ⟨⟨z,_,aP _ rfl,rfl⟩,us,r,⟨_,aP _ rfl,rfl,_,rfl⟩⟩
theorem aAH(h:PA X es t):PE X (.List es pos) (aC7 t):=by
 intro pins s σ H Q I hq;refine wpAny_List_spliced (thn (h pos pins s σ H _ I hq) λus s1 ⟨xs,H1,I1,r,z,q⟩=>⟨by rw [<-r.length];exact z,?_⟩);have hf:H1 s1.heap.objs.size=none:=I1.hok.fresh (aM _);refine ⟨.ref s1.heap.objs.size,upd H1 s1.heap.objs.size (.lst xs),I1.laid (t':=s1.toks) (λb u e=>aB _ e) (aM _) ?_,rfl,q _ hf⟩;exact ⟨z,us,0,r,aP _ rfl⟩
end
abbrev Sp:=List V->Hp->VK->XK->Prop
abbrev MB:=List Env->Hp->Shared->XK->Value->Shared->Prop
structure EL(P:Program)(w:World)(K:PySem.W.Frag)(mg:Str->Option Value)(base:Heap)(A:Around)(outer:List Env)(s:Shared)(H:Hp):Prop where
 frames:A.frames=some outer
 mod:RK K mg base
 bs:∀b o,base.get? b=some o->s.heap.get? b=some o/\H b=none
 bsz:base.objs.size<=s.heap.objs.size
 funs:s.heap.FunFrames base outer
 frf:∀b∈frs outer,H b=none
 hok:nU P w H s.heap
 bare:AllBare s.gens
def CE(outer:List Env)(P:Program)(w:World)(H:Hp)(s:Shared)(Q:VK)(u:Value)(s':Shared):Prop :=
 ∃v H',s'.os=s.os/\AllBare s'.gens/\Un (frs outer) [] H H' s.heap s'.heap/\nU P w H' s'.heap/\dF v u/\Q v H'
def CR(CX:MB)(outer:List Env)(P:Program)(w:World)(H:Hp)(s:Shared)(Q:VK)(E:XK)(r:Result)(s':Shared):Prop :=
 match r with
 | .ok (.ret u)=>CE outer P w H s Q u s'
 | .ok _=>False
 | .error e=>CX outer H s E e s'
structure dA(P:Program)(w:World)(K:PySem.W.Frag)(mg:Str->Option Value)(base:Heap)(CX:MB)(k:Nat)(f:Addr)(fd:FuncData)(ps:List Str)(sp:Sp):Prop where
 len:∀vs H Q E,sp vs H Q E->vs.length=ps.length
 run:∀(A:Around) (outer:List Env) (s:Shared) (H:Hp) (args:Args) (us:List Value) (vs:List V) (Q:VK) (E:XK),iF k A->EL P w K mg base A outer s H->BindsTo s fd args (ps.zip us)->cV vs us->sp vs H Q E ->
  codeAny (model P w) A (.call (.ref f) args) (CR CX outer P w H s Q E) s
theorem EL.in1{P:Program}{w:World}{K:PySem.W.Frag}{mg:Str->Option Value}{base:Heap}{A:Around}{outer:List Env}{s:Shared}{H:Hp}(e:EL P w K mg base A outer s H) :
  EL P w K mg base A.in1 outer s H:=⟨e.frames,e.mod,e.bs,e.bsz,e.funs,e.frf,e.hok,e.bare⟩
section
variable{X:Cx}{pins:List (Addr × Obj)}{σ:St}{H:Hp}{s s':Shared}
theorem bW.env0(I:bW X pins σ H s):EL X.prog X.w X.K X.mg X.base X.A X.stack s H :=
 ⟨I.ok.frames,I.ok.mod,I.bs,bG I.ok.bsz I.sz,I.stack,I.stkFree,I.hok,I.bare⟩
theorem bW.after{Q:VK}{u:Value}(I:bW X pins σ H s)(h:CE X.stack X.prog X.w H s Q u s'):EP X pins σ Q u s':=by
 obtain ⟨v,H',os,bare,un,hok,r,q⟩:=h;obtain ⟨hh,g,d,t,os'⟩:=s';obtain rfl:os'=s.os:=os;exact ⟨v,H',I.call (h':=hh) (g':=g) (d':=d) (t':=t) (ch:=[]) un hok bare (λb z=>absurd z (by simp)),r,q⟩
end
def ND(sp:Sp)(dvs:List V)(E:XK)(t:TA):TE:=λσ H Q=>t σ H λvs H1=>sp (vs++dvs) H1 Q E
def sN(K:PySem.W.Frag)(fd:FuncData)(ps:List Str)(ds:List Value):Prop :=
 ∀(s:Shared) (us:List Value),K.In s.heap->(us++ds).length=ps.length->BindsTo s fd ⟨us,[]⟩ (ps.zip (us++ds))
theorem sN.all{K:PySem.W.Frag}{fd:FuncData}{ps:List Str}(h:∀us:List Value,us.length=ps.length->bindArgs fd ⟨us,[]⟩=pure (ps.zip us)):sN K fd ps []:=λs us _ hl=>by
 rw [List.append_nil] at hl ⊢;exact .of_eq (h us hl)
def GM(CX:MB)(X:Cx)(E:XK):Prop:=∀(pins:List (Addr × Obj)) (σ:St) (H:Hp) (s:Shared) (e:Value) (s':Shared),bW X pins σ H s->CX X.stack H s E e s'->X.xe e s'
section
variable{X:Cx}{CX:MB}{k:Nat}{f C:Addr}{fd:FuncData}{ps:List Str}{sp:Sp}{dvs:List V}{ds:List Value}{E:XK}{x m:Str}{p pos apos:Pos}{e o:Expr}{es:List Expr}{ta:TE}{t:TA}
theorem aAl{pins:List (Addr × Obj)}{σ:St}{H:Hp}{s:Shared}{Q:VK}{us:List Value}{vs:List V}(F:dA X.prog X.w X.K X.mg X.base CX k f fd ps sp)(hr:iF k X.A)(hb:sN X.K fd ps ds)(hd:cV dvs ds)(hx:GM CX X E)
  (I:bW X pins σ H s) (r:cV vs us) (h:sp (vs++dvs) H Q E):wpAny (model X.prog X.w) X.A (call (.ref f) us) (EP X pins σ Q) X.xe s:=by
 have r2:cV (vs++dvs) (us++ds):=r.append hd;have hl:(us++ds).length=ps.length:=by rw [<-r2.length];exact F.len _ _ _ _ h
 refine wpAny_call (codeAny_mono (F.run X.A X.stack s H ⟨us,[]⟩ (us++ds) (vs++dvs) Q E hr I.env0 (hb s us I.kIn hl) r2 h) λr s' hq=>?_);cases r with
 | error e=>exact hx pins σ H s e s' I hq
 | ok fl =>
  cases fl with
  | ret u=>exact I.after hq
  | next=>exact False.elim hq
  | brk=>exact False.elim hq
  | cont=>exact False.elim hq
theorem VD(F:dA X.prog X.w X.K X.mg X.base CX k f fd ps sp)(hr:iF k X.A)(hg:Gl X x)(hm:X.mg x=some (.ref f))(hk:PySem.W.keepIn X.K (.ref f)=true)(hb:sN X.K fd ps ds)(hd:cV dvs ds)(hx:GM CX X E)
  (ha:PA X (e::es) t) (hdb:(x == ("__debug__" : Str))=false:=by decide) (he:starEach (e::es) X.env=(false,eval e X.env)::starEach es X.env:=by rfl) (hpl:(backTo pos (starEach es X.env)).any (·.1)=false:=by rfl) :
  PE X (.Call (.Name x p) (e::es) [] pos) (ND sp dvs E t):=by
 intro pins s σ H Q I h;refine wpAny_Call_Name_kw (HX I hg hm ?_ hdb);refine PySem.W.callWith_K (h₀:=X.base) I.ok.mod.kin hk (thn (ha pos pins s σ H _ I h) λus s1 ⟨vs,H1,I1,r,q⟩=>⟨I1.kIn,?_⟩) he hpl;exact aAl F hr hb hd hx I1 r q
end
section
variable{X:Cx}{CX:MB}{k:Nat}{f C:Addr}{fd:FuncData}{ps ks:List Str}{sp:Sp}{E:XK}{x m:Str}{p pos apos kpos:Pos}{e o:Expr}{es:List Expr}{kws:List Keyword}{te ta:TE}{t tk:TA}{nm:Option Str}
variable{g:List Value->List Value->List Value}{gV:List V->List V->List V}
end
structure bK(N P:List Str)(sc:Scope):Prop where
 kind:sc.kind=.function
 co:sc.isCoroutine=false
 gen:sc.isGenerator=false
 nd:N.Nodup
 pre:N.take P.length=P
 par:∀x∈P,sc.names.lookup x=some .local\/sc.names.lookup x=some .cell
 nofree:∀y∈sc.names,y.2 ≠ .free
theorem zM{kindOf:Str->Option NameKind}{x:Str}:∀{binds:List (Str × Value)}{m:Str->Option Value},(∀v,(x,v) ∉ binds)->bindL kindOf binds m x=m x
 | [],_,_=>rfl
 | (n,v)::r,m,h=>by
  unfold bindL;rw [zM λw hw=>h w (aH _ hw)];split
  ·have:x≠n:=by rintro rfl;exact h v aG
   simp [this]
  ·rfl
theorem zO{kindOf:Str->Option NameKind}{x:Str}:∀{binds:List (Str × Value)}{m:Str->Option Value},(∀v,(x,v) ∉ binds)->bindC kindOf binds m x=m x
 | [],_,_=>rfl
 | (n,v)::r,m,h=>by
  unfold bindC;rw [zO λw hw=>h w (aH _ hw)];split
  ·rfl
  ·have:x≠n:=by rintro rfl;exact h v aG
   simp [this]
theorem zN{kindOf:Str->Option NameKind}{x:Str}{v:Value}:∀{P:List Str}{vs:List Value}{i:Nat}{m:Str->Option Value},P.Nodup->P[i]?=some x->vs[i]?=some v->kindOf x=some .local ->
  bindL kindOf (P.zip vs) m x=some v
 | [],_,_,_,_,h,_,_=>by simp at h
 | _::_,[],_,_,_,_,h,_=>by simp at h
 | p::P,w::vs,0,m,nd,h1,h2,hk=>by
  simp at h1 h2;subst h1;subst h2;show bindL kindOf ((p,w)::P.zip vs) m p=_;unfold bindL;rw [zM λv hv=>(List.nodup_cons.mp nd).1 (List.of_mem_zip hv).1,if_pos hk];simp
 | p::P,w::vs,i+1,m,nd,h1,h2,hk=>by
  show bindL kindOf ((p,w)::P.zip vs) m x=_;unfold bindL;exact zN (i:=i) (List.nodup_cons.mp nd).2 (by simpa using h1) (by simpa using h2) hk
theorem zP{kindOf:Str->Option NameKind}{x:Str}{v:Value}:∀{P:List Str}{vs:List Value}{i:Nat}{m:Str->Option Value},P.Nodup->P[i]?=some x->vs[i]?=some v->kindOf x≠some .local ->
  bindC kindOf (P.zip vs) m x=some v
 | [],_,_,_,_,h,_,_=>by simp at h
 | _::_,[],_,_,_,_,h,_=>by simp at h
 | p::P,w::vs,0,m,nd,h1,h2,hk=>by
  simp at h1 h2;subst h1;subst h2;show bindC kindOf ((p,w)::P.zip vs) m p=_;unfold bindC;rw [zO λv hv=>(List.nodup_cons.mp nd).1 (List.of_mem_zip hv).1,if_neg hk];simp
 | p::P,w::vs,i+1,m,nd,h1,h2,hk=>by
  show bindC kindOf ((p,w)::P.zip vs) m x=_;unfold bindC;exact zP (i:=i) (List.nodup_cons.mp nd).2 (by simpa using h1) (by simpa using h2) hk
def start(N:List Str)(vs:List V):St:=vs.map some++List.replicate (N.length-vs.length) none
def uZ(CX:MB)(P:Program)(w:World)(K:PySem.W.Frag)(mg:Str->Option Value)(base:Heap)(N:List Str)(qual:Str)(scope:Scope)(f:Addr)(cd:Value)(A:Around)(outer:List Env)(s:Shared)(H:Hp)(E:XK):Cx where
 prog:=P
 w:=w
 K:=K
 mg:=mg
 base:=base
 A:=A.deeper (envOfC qual scope s.heap.objs.size f cd)
 N:=N
 s₀:=s
 H₀:=H
 env:=envOfC qual scope s.heap.objs.size f cd
 outer:=outer
 stack:=envOfC qual scope s.heap.objs.size f cd::outer
 ex:=[]
 calm:=true
 fn:=λ_=>true
 pn:=[]
 xe:=λe s'=>wpAny (model P w) (A.deeper (envOfC qual scope s.heap.objs.size f cd)) (leaving (envOfC qual scope s.heap.objs.size f cd) e) (λ_ s''=>CX outer H s E e s'') (λe' s''=>CX outer H s E e' s'') s'
theorem DZ{sc:Scope}{n:Nat}{x:Str}(h:sc.names.lookup x=some .cell):∃c,(cellsFrom n sc.names []).lookup x=some c:=by
 have q:=PySem.W.cellsFrom_some sc.names n [] (.inl h);exact Option.isSome_iff_exists.mp q
theorem yT{CX:MB}{P:Program}{w:World}{K:PySem.W.Frag}{mg:Str->Option Value}{base:Heap}{N ps:List Str}{qual:Str}{scope:Scope}{f:Addr}{cd:Value}{A:Around}{outer:List Env}{s s1:Shared}{H:Hp}{E:XK}{us:List Value}{vs:List V}
  (S:bK N ps scope) (hd:A.handled=none) (e0:EL P w K mg base A outer s H) (hl:vs.length=ps.length) (r:cV vs us)
  (x:InCallC s s.heap.objs.size (bindL (envOfC qual scope s.heap.objs.size f cd).kindOf (ps.zip us) λ_=>none) (cellsFrom (s.heap.objs.size+1) scope.names []) (bindC (envOfC qual scope s.heap.objs.size f cd).kindOf (ps.zip us) λ_=>none) s1) :
  bW (uZ CX P w K mg base N qual scope f cd A outer s H E) [] (start N vs) H s1:=by
 have hpl:ps.length<=N.length:=by have:=congrArg List.length S.pre;rw [dE] at this;omega
 obtain ⟨h1,tk,rfl,hk⟩:=x.done;have noA:∀b:Addr,b ∉ (uZ CX P w K mg base N qual scope f cd A outer s H E).ex:=λb z=>absurd (show b∈([]:List Addr) from z) (by simp);refine ⟨⟨e0.mod,S.kind,rfl,rfl,aM _,λy z c h1 h2=>?_,λy hy=>?_,λy c _ h=>?_,λ_=>hd,Around.frames_deeper e0.frames,.inr ⟨rfl,rfl⟩,λb z=>absurd z (noA b),e0.bs,e0.bsz,λb _ _=>noA b,λb z=>absurd z (noA b),e0.funs,e0.frf⟩,
  rfl,e0.bare,Un.kept hk,⟨_,x.toInCall.ns,λi y v h1 h2 h3=>?_⟩,λy c h=>⟨_,x.cell y c h⟩,e0.hok.fresh (aM _),λy c h=>?_,λp hp=>absurd (show p∈([]:List (Addr × Obj)) from hp) (by simp),e0.hok.kept hk,?_⟩
 ·exact name_of_addr x.apart (PySem.mem_of_lookup h1) (PySem.mem_of_lookup h2)
 ·have hy:scope.names.lookup y=some .cell\/scope.names.lookup y=some .free:=hy;rcases hy with hy | hy
  ·exact DZ hy
  ·exact absurd rfl (S.nofree _ (PySem.mem_of_lookup hy))
 ·exact Nat.le_of_lt (x.above y c (PySem.mem_of_lookup h))
 ·have hi:i<vs.length:=by
   unfold start at h2;by_cases hi:i<vs.length
   ·exact hi
   ·rw [List.getElem?_append_right (by simpa using hi)] at h2;rw [List.getElem?_replicate] at h2;split at h2 <;> cases h2
  have ha:vs[i]?=some v:=by
   unfold start at h2;rw [List.getElem?_append_left (by simpa using hi),aC] at h2;cases e:vs[i]? with
   | none=>rw [e] at h2;cases h2
   | some a=>rw [e] at h2;cases h2;rfl
  obtain ⟨u,hu,rv⟩:=r.get ha;have hp:ps[i]?=some y:=by
   rw [<-S.pre,List.getElem?_take_of_lt Oo];exact h1
  have ndP:ps.Nodup:=by rw [<-S.pre];exact S.nd.sublist (List.take_sublist _ _)
  refine ⟨u,rv,?_⟩;rcases S.par y (bD hp) with k | k
  ·exact .inl ⟨k,zN ndP hp hu k⟩
  ·obtain ⟨c,e⟩:=DZ (n:=s.heap.objs.size+1) k;refine .inr ⟨.inl k,c,e,?_⟩;have q:=x.cell y c e;rw [zP ndP hp hu (by show scope.names.lookup y≠_;rw [k];decide)] at q;exact q
 ·exact e0.hok.fresh (Nat.le_of_lt (x.above y c (PySem.mem_of_lookup h)))
 ·unfold start;show _=N.length;rw [bI,aA,bU];omega
theorem YI{CX:MB}{P:Program}{w:World}{K:PySem.W.Frag}{mg:Str->Option Value}{base:Heap}{k:Nat}{f:Addr}{name qual:Str}{params:Arguments}{body:List Stmt}{scope:Scope}{dV kV doc pm cdv ct oc:Value}{an od:Option Addr}
  {osl:Array (Option Value)} {N ps:List Str} {sp:Sp} (lk:K.lookup f=some ⟨oc,od,.func (PySem.W.fnOf name qual params body scope dV kV doc pm an cdv ct),osl⟩) (hcd:PySem.W.codeIn K cdv qual=true) (S:bK N ps scope)
  (len:∀vs H Q E,sp vs H Q E->vs.length=ps.length)
  (hbody:∀(A:Around) (outer:List Env) (s:Shared) (H:Hp) (vs:List V) (Q:VK) (E:XK),iF k (A.deeper (envOfC qual scope s.heap.objs.size f cdv))->sp vs H Q E ->
   ∃t,GP (uZ CX P w K mg base N qual scope f cdv A outer s H E) body t/\t { nx:=λ_ H'=>Q .non H',rt:=Q } (start N vs) H) :
  dA P w K mg base CX (k+1) f (PySem.W.fnOf name qual params body scope dV kV doc pm an cdv ct) ps sp:=by
 refine ⟨len,λA outer s H args us vs Q E hr e0 hb r hsp=>?_⟩;have hl:=len _ _ _ _ hsp;have KX:K.In s.heap:=e0.mod.kin.keeps λb o e=>(e0.bs b o e).1;have lim:s.heap.NoLimit:=e0.mod.nolimit.keeps λb o e=>(e0.bs b o e).1;have hkind:∀y∈ps.zip us,scope.names.lookup y.1=some .local\/(scope.names.lookup y.1=some .cell/\((cellsFrom (s.heap.objs.size+1) scope.names []).lookup y.1).isSome=true):=λ⟨n,v⟩ hy=>by
  rcases S.par n (List.of_mem_zip hy).1 with q | q
  ·exact .inl q
  ·exact .inr ⟨q,PySem.W.cellsFrom_some _ _ _ (.inl q)⟩
 refine codeAny_call_function hr.depth (KX _ _ lk) rfl S.co S.gen rfl (PySem.W.codeRec_of KX hcd) (hb _ _ _ _ ?_);refine wpAny_newFunctionEnv_cells S.kind hkind λenv he s1 x=>?_;subst he;refine ⟨lim.keeps x.toInCall.keep,codeAny_func ?_⟩;obtain ⟨t,ht,hq⟩:=hbody A outer s H vs Q E (hr.deeper _) hsp;have I:bW (uZ CX P w K mg base N qual scope f cdv A outer s H E) [] (start N vs) H s1:=yT S hr.hd e0 hl r x;refine wpAny_mono (ht [] s1 (start N vs) H _ I hq) (λfl s' hs=>?_) λe s' hs=>hs;have fin:∀{σ':St} {H':Hp} {v:V} {u:Value},bW (uZ CX P w K mg base N qual scope f cdv A outer s H E) [] σ' H' s'->dF v u->Q v H'->CE outer P w H s Q u s' :=
  λ{σ' H' v u} J rv q=>⟨v,H',J.os,J.bare,J.base,J.hok,rv,q⟩
 cases fl with
 | ret u =>
  obtain ⟨v,σ',H',J,rv,q⟩:=hs;exact fin J rv q
 | next =>
  obtain ⟨σ',H',J,q⟩:=hs;exact fin (v:=V.non) (u:=Value.none) J rfl q
 | brk =>
  obtain ⟨_,_,_,q⟩:=hs;exact False.elim q
 | cont =>
  obtain ⟨_,_,_,q⟩:=hs;exact False.elim q
section
variable{X:Cx}{x:Str}{p pos:Pos}{e:Expr}{es:List Expr}{t:TA}{id T:String}{r:List V->Hp->VK->Prop}
def tCB(r:List V->Hp->VK->Prop)(t:TA):TE:=λσ H Q=>t σ H λvs H1=>r vs H1 Q
theorem OP(hc:fO X (.builtin id) r)(hg:Gl X x)(hm:X.mg x=none)(hv:bootBuiltins x=some (.builtin id))(ha:PA X (e::es) t)(hn:x ≠ "__name__" := by decide)(hdb:(x == ("__debug__" : Str))=false:=by decide)
  (he:starEach (e::es) X.env=(false,eval e X.env)::starEach es X.env:=by rfl) (hpl:(backTo pos (starEach es X.env)).any (·.1)=false:=by rfl):PE X (.Call (.Name x p) (e::es) [] pos) (tCB r t):=by
 intro pins s σ H Q I h;refine wpAny_Call_Name_kw (oY I hg hm hv ?_ hn hdb);exact PyProof.Rows.callWith_builtin1 (thn (ha pos pins s σ H _ I h) λus s1 ⟨vs,H1,I1,r1,q1⟩=>hc pins s1 σ H1 vs us Q I1 r1 q1) he hpl
theorem KC(hc:fO X (.type T) r)(hg:Gl X x)(hm:X.mg x=none)(hv:bootBuiltins x=some (.type T))(ha:PA X (e::es) t)(hn:x ≠ "__name__" := by decide)(hdb:(x == ("__debug__" : Str))=false:=by decide)
  (he:starEach (e::es) X.env=(false,eval e X.env)::starEach es X.env:=by rfl) (hpl:(backTo pos (starEach es X.env)).any (·.1)=false:=by rfl):PE X (.Call (.Name x p) (e::es) [] pos) (tCB r t):=by
 intro pins s σ H Q I h;refine wpAny_Call_Name_kw (oY I hg hm hv ?_ hn hdb);exact PyProof.Rows.callWith_type1 (thn (ha pos pins s σ H _ I h) λus s1 ⟨vs,H1,I1,r1,q1⟩=>hc pins s1 σ H1 vs us Q I1 r1 q1) he hpl
end
end L2
namespace HT
open PySem PyProof.Rows
def mF:List Int->List Int->Bool
 | [],[]=>false
 | [],_::_=>true
 | _::_,[]=>false
 | x::xs,y::ys=>if x=y then mF xs ys else decide (x<y)
theorem wQ(x y:Int)(xs ys:List Int):mF (x::xs) (y::ys)=if x=y then mF xs ys else decide (x<y):=rfl
theorem xS:mF [] []=false:=rfl
theorem wO(y:Int)(ys:List Int):mF [] (y::ys)=true:=rfl
theorem wP(x:Int)(xs:List Int):mF (x::xs) []=false:=rfl
theorem PY(A:Around)(s:Shared)(a:Int)(t:Tok)(c:Int)(u:Tok):∃e,SeqAt.EqAt A s (.int a t) (.int c u) e/\(e=true↔a=c) :=
 ⟨(a == c),SeqAt.EqAt.int_int a t c u,by simp⟩
theorem NZ(A:Around)(s:Shared)(a:Int)(t:Tok)(c:Int)(u:Tok)(prog:Program)(w:World)(E:Value->Shared->Prop)(Q:Value->Shared->Prop)(h:Q (.bool (decide (a<c))) s) :
  wpAny (model prog w) A (richCompare .Lt (.int a t) (.int c u)) Q E s :=
 (PyProof.Rows.lt_int h:wpAny (model prog w) A (compareOp .Lt (.int a t) (.int c u)) Q E s)
section
open PySem.SeqAt
open PySem.AutoSeq1 (wpAny_loadPart')
open PySem.MeetsSeq PySem.MeetsSeq2 PySem.MeetsSeq3
theorem xM(l b:Addr)(items items2:Array Value)(n n2:Nat)(dd dd2:Option Addr)(sl sl2:Array (Option Value))(ns ms:List Int)(hi:IntsAre items.toList ns)(hj:IntsAre items2.toList ms) :
  Meets (Builtin.«tuple.__lt__» ⟨[.ref l,.ref b],[]⟩)
   (λ_ R s=>s.heap.get? l=some { cls:=.type "tuple",dict:=dd,data:=.seq items n,slots:=sl }/\s.heap.get? b=some { cls:=.type "tuple",dict:=dd2,data:=.seq items2 n2,slots:=sl2 } /\
    R (.ok (.ret (.bool (mF ns ms)))) s) :=
 .of_wp λprog w A R s h=>by
  obtain ⟨hp,g,d,tk,os⟩:=s;obtain ⟨hl,hb,h⟩:=h;have f2:=AutoSeq1.sub_tuple_tuple;have z1:items.size=ns.length:=by rw [<-hi.length];simp
  have z2:items2.size=ms.length:=by rw [<-hj.length];simp
  wp_walk using wpAny_loadPart' hl,wpAny_loadPart' hb,wpAny_forIn_list _ (λrest b s'=>b.1=none/\s'=⟨hp,g,d,tk,os⟩/\∃(vs ws:List Value) (ns' ms':List Int),rest=vs.zip ws /\
   IntsAre vs ns'/\IntsAre ws ms'/\ns'.length+items2.size=ms'.length+items.size/\R (.ok (.ret (.bool (mF ns' ms')))) ⟨hp,g,d,tk,os⟩) _
  case turn =>
   rintro ⟨y,x⟩ rest b s' ⟨hb',rfl,vs,ws,ns',ms',hz,hvi,hwi,hlen,hR⟩;cases hvi with
   | nil=>rw [List.zip_nil_left] at hz;cases hz
   | cons a t hvi' =>
    cases hwi with
    | nil=>rw [List.zip_nil_right] at hz;cases hz
    | cons c u hwi' =>
     rw [List.zip_cons_cons] at hz;injection hz with hyx hrest;injection hyx with hy hx;subst hy hx;rw [wQ] at hR;simp only [bL] at hlen;obtain ⟨e,he,hiff⟩:=PY A.in1 ⟨hp,g,d,tk,os⟩ a t c u;refine wpAny_bind (he prog w _ _ ?_);cases e with
     | true =>
      rw [if_pos (hiff.mp rfl)] at hR
      wp_walk
      exact ⟨rfl,rfl,_,_,_,_,hrest,hvi',hwi',Oo,hR⟩
     | false =>
      rw [if_neg (λq=>absurd (hiff.mpr q) bN)] at hR;have hri:=NZ A.in1 ⟨hp,g,d,tk,os⟩ a t c u prog w
      wp_walk using hri
      exact ⟨_,rfl,by simpa using hR⟩
  case fin =>
   rintro ⟨b1,b2⟩ s' ⟨hb',rfl,vs,ws,ns',ms',hz,hvi,hwi,hlen,hR⟩;simp only at hb';subst hb';have hv:mF ns' ms'=decide (items.size<items2.size):=by
    cases hvi with
    | nil =>
     cases hwi with
     | nil =>
      simp only [List.length_nil] at hlen;rw [xS];exact (dC Oo).symm
     | cons c u hw =>
      simp only [List.length_nil,bL] at hlen;rw [wO];exact (cE Oo).symm
    | cons a t hv =>
     cases hwi with
     | nil =>
      simp only [List.length_nil,bL] at hlen;rw [wP];exact (dC Oo).symm
     | cons c u hw =>
      rw [List.zip_cons_cons] at hz;cases hz
   rw [hv] at hR
   wp_walk
   exact ⟨_,rfl,by simpa [Builtin.Tuple.tupleCompareSizes] using hR⟩
  case h =>
   exact ⟨rfl,rfl,items.toList,items2.toList,ns,ms,rfl,hi,hj,Oo,h⟩
end
section
variable{prog:Program}{w:World}{A:Around}{E:Value->Shared->Prop}{s:Shared}
theorem GA{l b:Addr}{items items2:Array Value}{ns ms:List Int}{Q:Value->Shared->Prop}(hl:IsTup s.heap l items)(hb:IsTup s.heap b items2)(hi:IntsAre items.toList ns)(hj:IntsAre items2.toList ms)
  (hu:A.units<cLine) (h:Q (.bool (mF ns ms)) s):wpAny (model prog w) A (compareOp .Lt (.ref l) (.ref b)) Q E s:=by
 obtain ⟨⟨cls,dd,data,sl⟩,ho,hc,n,hd⟩:=id hl;obtain ⟨⟨cls2,dd2,data2,sl2⟩,ho2,hc2,n2,hd2⟩:=id hb;simp only at hc hd hc2 hd2;subst hc hd hc2 hd2;exact richCompare_meets_room (op:=.Lt) ⟨_,ho,rfl⟩ ⟨_,ho2,rfl⟩ PySem.F.slot_tuple_lt PySem.F.entry_tuple_lt (PySem.F.args_tuple_lt_2 _ _) (xM l b items items2 n n2 dd dd2 sl sl2 ns ms hi hj)
  ⟨ho,ho2,show Value.bool (mF ns ms)≠Value.notImplemented/\Q (.bool (mF ns ms)) s from ⟨(λx=>nomatch x),h⟩⟩ hu
theorem WQ{t b:Addr}{vs ws:List Value}{Q:Value->Shared->Prop}(ht:IsTup s.heap t vs.toArray)(hb:IsTup s.heap b ws.toArray)(hv:vs≠[])
  (h1:ws=[]->Q (.ref t) s) (h2:ws≠[]->Q (.ref s.heap.objs.size) { s with heap:=s.heap.push { cls:=.type "tuple",data:=.seq (vs++ws).toArray } })
  (hsz:vs.length+ws.length<=sizeLine):wpAny (model prog w) A (binaryOp .Add (.ref t) (.ref b)) Q E s:=by
 obtain ⟨⟨cls,dd,data,sl⟩,ho,hc,n,hd⟩:=id ht;obtain ⟨⟨cls2,dd2,data2,sl2⟩,ho2,hc2,n2,hd2⟩:=id hb;simp only at hc hd hc2 hd2;subst hc hd hc2 hd2;have e:vs.toArray++ws.toArray=(vs++ws).toArray:=by simp
 by_cases hw:ws=[]
 ·exact concat_meets ⟨_,ho,rfl⟩ ⟨_,ho2,rfl⟩ noFill_tuple_add seq_tuple_add PySem.F.slot_tuple_add PySem.F.entry_tuple_add (PySem.F.args_tuple_add_2 _ _)
   (tuple_addW1 t b vs.toArray ws.toArray n n2 dd dd2 sl sl2 (by simpa using hv) (by simp [hw])) ⟨ho,ho2,h1 hw⟩
 ·refine concat_meets ⟨_,ho,rfl⟩ ⟨_,ho2,rfl⟩ noFill_tuple_add seq_tuple_add PySem.F.slot_tuple_add PySem.F.entry_tuple_add (PySem.F.args_tuple_add_2 _ _)
   (tuple_addW2 t b vs.toArray ws.toArray n n2 dd dd2 sl sl2 (by simpa using hv) (by simpa using hw) (by rw [aQ,aQ];exact hsz)) ⟨ho,ho2,?_⟩
  rw [e];exact h2 hw
def iA(n d:Nat):Option Int->Nat
 | none=>d
 | some v=>if v<0 then (v+(n:Int)).toNat else min v.toNat n
theorem CN(n d:Nat):iA n d none=d:=rfl
theorem HB(n d k:Nat):iA n d (some (k:Int))=min k n:=by
 show (if (k:Int)<0 then ((k:Int)+(n:Int)).toNat else min (k:Int).toNat n)=min k n;rw [if_neg Oo,Int.toNat_natCast]
theorem aAi(n d:Nat)(hd:d<=n)(o:Option Int):iA n d o<=n:=by
 cases o with
 | none=>exact hd
 | some v =>
  show (if v<0 then (v+(n:Int)).toNat else min v.toNat n)<=n;by_cases hv:v<0
  ·rw [if_pos hv];omega
  ·rw [if_neg hv];exact Nat.min_le_right _ _
theorem IM(v:Int)(n d:Nat):(if v<0 then max (v+(n:Int)) 0 else min v (n:Int))=((iA n d (some v):Nat):Int):=by
 show (if v<0 then max (v+(n:Int)) 0 else min v (n:Int))=(((if v<0 then (v+(n:Int)).toNat else min v.toNat n):Nat):Int);by_cases hv:v<0
 ·simp only [if_pos hv];omega
 ·simp only [if_neg hv];omega
theorem GL(lo hi:Option Int)(n:Nat):Builtin.Slice.sliceAdjust lo hi 1 (n:Int)=(((iA n 0 lo:Nat):Int),((iA n n hi:Nat):Int)):=by
 have h1:¬((1:Int)<0):=Oo;unfold Builtin.Slice.sliceAdjust;simp only [h1,if_false];refine Prod.ext ?_ ?_
 ·cases lo with
  | none=>rfl
  | some v=>exact IM v n 0
 ·cases hi with
  | none=>rfl
  | some v=>exact IM v n n
theorem FS(i j:Nat):Builtin.Slice.slicePlaces (i:Int) (j:Int) 1=j-i:=by
 unfold Builtin.Slice.slicePlaces;have h1:(1:Int) > 0:=Oo;simp only [h1,if_true,Int.ediv_one];split <;> omega
theorem wE{v:Value}{o:Option Int}{Q:Option Int->Shared->Prop}(p:IsPart v o)(h:Q o s):wpAny (model prog w) A (Builtin.Slice.slicePartIndex v) Q E s:=by
 cases p with
 | none=>exact slicePart_none h
 | int i t=>exact slicePart_int h
theorem lY{sl:Addr}{vl vu:Value}{lo hi:Option Int}{n:Nat}{Q:Int × Int × Nat->Shared->Prop}(hs:s.heap.IsSliceOf sl vl vu .none)(pl:IsPart vl lo)(pu:IsPart vu hi)
  (h:Q (((iA n 0 lo:Nat):Int),1,iA n n hi-iA n 0 lo) s):wpAny (model prog w) A (Builtin.Slice.sliceApplied (.ref sl) (pure (n:Int))) Q E s:=by
 obtain ⟨os,hos,hcs,hds⟩:=id hs;unfold Builtin.Slice.sliceApplied Builtin.Slice.sliceFields;refine wpAny_bind (wpAny_bind (wpAny_field hos hds (x:=vl) rfl (wpAny_bind (wpAny_field hos hds (x:=vu) rfl (wpAny_bind (wpAny_field hos hds (x:=.none) rfl (wpAny_pure ?_)))))));refine wpAny_bind (slicePart_none ?_);show wpAny _ _ (if ((1:Int) == 0)=true then _ else _) _ _ s;rw [if_neg Dd];refine wpAny_bind (wE pl (wpAny_bind (wE pu (wpAny_bind (wpAny_pure ?_)))));show wpAny _ _ (match Builtin.Slice.sliceAdjust lo hi 1 (n:Int) with | (lo,hi)=>pure (lo,(1:Int),Builtin.Slice.slicePlaces lo hi 1)) _ _ s;rw [GL lo hi n];show wpAny _ _ (pure (((iA n 0 lo:Nat):Int),(1:Int),Builtin.Slice.slicePlaces ((iA n 0 lo:Nat):Int) ((iA n n hi:Nat):Int) 1)) _ _ s;rw [FS];exact wpAny_pure h
theorem OI(xs:Array Value)(i k:Nat):((List.range k).filterMap λ(m:Nat)=>xs[((i:Int)+(m:Int)*1).toNat]?).toArray=((xs.toList.drop i).take k).toArray:=by
 have e:(λ(m:Nat)=>xs[((i:Int)+(m:Int)*1).toNat]?)=λm=>xs[i+m]?:=by
  funext m
  have:((i:Int)+(m:Int)*1).toNat=i+m:=Oo;rw [this]
 rw [e];have:=pick_run xs i k;rw [List.filterMap_map] at this;have e2:((λx=>xs[x]?) ∘ λx=>i+x)=λm=>xs[i+m]?:=rfl;rw [e2] at this;rw [this]
theorem rV{t sl:Addr}{items:Array Value}{vl vu:Value}{lo hi:Option Int}{Q:Value->Shared->Prop}(ht:IsTup s.heap t items)(hs:s.heap.IsSliceOf sl vl vu .none)(pl:IsPart vl lo)(pu:IsPart vu hi)
  (hw:¬(iA items.size 0 lo=0/\iA items.size items.size hi=items.size))
  (h:Q (.ref s.heap.objs.size) { s with heap:=s.heap.push { cls:=.type "tuple",data:=.seq ((items.toList.drop (iA items.size 0 lo)).take (iA items.size items.size hi-iA items.size 0 lo)).toArray } })
  (hsz:items.size<=sizeLine):wpAny (model prog w) A (getItem (.ref t) (.ref sl)) Q E s:=by
 have htake:sizeOk (.seq ((items.toList.drop (iA items.size 0 lo)).take (iA items.size items.size hi-iA items.size 0 lo)).toArray):=by
  show ((items.toList.drop (iA items.size 0 lo)).take (iA items.size items.size hi-iA items.size 0 lo)).toArray.size<=sizeLine;rw [aQ,dE,List.length_drop,Array.length_toList];omega
 have hj:iA items.size items.size hi<=items.size:=aAi _ _ (aM _) hi;obtain ⟨os,hos,hcs,hds⟩:=id hs;have hTs:s.TypeIs (.ref sl) "slice" := ⟨os,hos,hcs⟩;unfold getItem
 try with_reducible refine wpAny_holding ?_
 first | refine wpAny_bind (wpAny_pure ?_) | skip
 refine wpAny_bind (wpAny_sequenceKey ht.typeIs Dd ?_);refine wpAny_bind (wpAny_callSpecial?_slot (name:=Str.ofString "__getitem__") ht.typeIs PyProof.Rows.slot_tuple_getitem
  (wpAny_call_entry PyProof.Rows.slot_tuple_getitem ht.typeIs entry_tuple_getitem ?_ (args_tuple_getitem _ _)))
 show wpAny _ _ (Builtin.Tuple.tupleItemsOf (.ref t) >>= _) _ _ s;refine wpAny_bind (tupleItemsOf_ ht ?_);refine wpAny_bind (wpAny_typeOf hTs ?_);rw [if_pos Dd];refine wpAny_bind (lY hs pl pu ?_);have hno:¬((((iA items.size 0 lo:Nat):Int) == 0&&(1:Int) == 1&&(iA items.size items.size hi-iA items.size 0 lo) == items.size)=true):=by
  intro q;rw [cL,cL] at q;have q1:((iA items.size 0 lo:Nat):Int)=0:=eq_of_beq q.1.1;have q2:iA items.size items.size hi-iA items.size 0 lo=items.size:=eq_of_beq q.2;exact hw ⟨Oo,Oo⟩
 show wpAny _ _ (if (((iA items.size 0 lo:Nat):Int) == 0&&(1:Int) == 1&&(iA items.size items.size hi-iA items.size 0 lo) == items.size)=true then _ else _) _ _ s;rw [if_neg hno,OI]
 first
  | exact wpAny_bind (m:=Builtin.Tuple.tupleExact _) (wpAny_newObj_type (wpAny_pure ⟨_,rfl,wpAny_pure h⟩) htake)
  | exact wpAny_bind (m:=Builtin.Tuple.tupleExact _) (wpAny_newObj_type (wpAny_bind (wpAny_pure (wpAny_pure ⟨_,rfl,wpAny_pure h⟩))) htake)
  | exact wpAny_bind (wpAny_bind (m:=Builtin.Tuple.tupleExact _) (wpAny_newObj_type (wpAny_pure (wpAny_pure ⟨_,rfl,wpAny_pure h⟩)) htake))
  | exact wpAny_bind (wpAny_bind (m:=Builtin.Tuple.tupleExact _) (wpAny_newObj_type (wpAny_pure ⟨_,rfl,wpAny_pure h⟩) htake))
end
end HT
namespace L2
open PySem PySem.Spec PyProof.Rows
abbrev TO:=St->Hp->(Option Int->Hp->Prop)->Prop
def PO(X:Cx)(e:Option Expr)(t:TO):Prop :=
 ∀(pins:List (Addr × Obj)) (s:Shared) (σ:St) (H:Hp) (Q:Option Int->Hp->Prop),bW X pins σ H s->t σ H Q ->
  wpAny (model X.prog X.w) X.A (evalPart e X.env) (λu s'=>∃o H',bW X pins σ H' s'/\IsPart u o/\Q o H') X.xe s
def GV:TO:=λ_ H Q=>Q none H
def XL(t:TE):TO:=λσ H Q=>t σ H λx H1=>∃i,x=.int i/\Q (some i) H1
theorem nK{ns:List Int}:∀{us:List Value},cV (ns.map V.int) us->IntsAre us ns:=by
 induction ns with
 | nil=>intro us r;rw [List.map_nil] at r;cases r;exact .nil
 | cons n ns ih =>
  intro us r;rw [aZ] at r;cases r with
  | cons r1 r2 =>
   obtain ⟨t,e⟩:=r1;subst e;exact .cons n t (ih r2)
section
variable{X:Cx}{e:Expr}{te:TE}{lo hi:Option Expr}{tl th:TO}{pos p2:Pos}
theorem po_none:PO X none GV:=by
 intro pins s σ H Q I h;rw [evalPart_none];exact wpAny_pure ⟨none,H,I,.none,h⟩
theorem UU(h:PE X e te):PO X (some e) (XL te):=by
 intro pins s σ H Q I hw;rw [evalPart_some];refine thn (h pins s σ H _ I hw) λu s1 ⟨x,H1,I1,r1,q1⟩=>?_;obtain ⟨i,rfl,q⟩:=q1;obtain ⟨t,rfl⟩:=r1;exact ⟨some i,H1,I1,.int i t,q⟩
def SlR(X:Cx)(r:V->Option Int->Option Int->Hp->VK->Prop):Prop :=
 ∀(pins:List (Addr × Obj)) (s:Shared) (σ:St) (H:Hp) (x:V) (v vl vu:Value) (lo hi:Option Int) (sl:Addr) (Q:VK),bW X pins σ H s->dF x v->s.heap.IsSliceOf sl vl vu .none->IsPart vl lo->IsPart vu hi->r x lo hi H Q ->
  ∃T id,typeLookup (.type T) "__getitem__" = pure (some (.builtin id))/\s.TypeIs v T/\wpAny (model X.prog X.w) X.A (getItem v (.ref sl)) (EP X pins σ Q) X.xe s
def tSl(r:V->Option Int->Option Int->Hp->VK->Prop)(te:TE)(tl th:TO):TE:=λσ H Q=>te σ H λx H1=>tl σ H1 λl H2=>th σ H2 λu H3=>r x l u H3 Q
theorem OL{r:V->Option Int->Option Int->Hp->VK->Prop}(hr:SlR X r)(he:PE X e te)(hl:PO X lo tl)(hu:PO X hi th):PE X (.Subscript e (.Slice lo hi none p2) pos) (tSl r te tl th):=by
 intro pins s σ H Q I h;refine Subscript_ (thn (he pins s σ H _ I h) λv s1 ⟨x,H1,I1,r1,q1⟩=>?_);refine wpAny_Slice (thn (hl pins s1 σ H1 _ I1 q1) λvl s2 ⟨l,H2,I2,pl,q2⟩=>thn (hu pins s2 σ H2 _ I2 q2) λvu s3 ⟨u,H3,I3,pu,q3⟩=>?_);rw [evalPart_none];refine wpAny_pure ?_;have I4:bW X pins σ H3 { s3 with heap:=s3.heap.push { cls:=.type "slice",data:=.fields #[vl,vu,.none] } }:=I3.kept (t':=s3.toks) λb ob q=>aB _ q;obtain ⟨T,id,hT,ht,hg⟩:=hr pins { s3 with heap:=s3.heap.push { cls:=.type "slice",data:=.fields #[vl,vu,.none] } } σ H3 x v vl vu l u s3.heap.objs.size Q I4 r1 (Heap.IsSliceOf.new ..) pl pu q3;show wpAny (model X.prog X.w) X.A (subscriptTail e (.Slice lo hi none p2) v (.ref s3.heap.objs.size)) (EP X pins σ Q) X.xe { s3 with heap:=s3.heap.push { cls:=.type "slice",data:=.fields #[vl,vu,.none] } };exact tail_any (ops:=[.ref s3.heap.objs.size,v]) ht hT hg (by with_unfolding_all rfl)
def pB(xs:List V)(lo hi:Option Int):List V:=(xs.drop (HT.iA xs.length 0 lo)).take (HT.iA xs.length xs.length hi-HT.iA xs.length 0 lo)
theorem uV(xs:List V)(lo hi:Option Int):(pB xs lo hi).length<=xs.length:=by
 unfold pB;rw [dE,List.length_drop];omega
def aDi(K:PySem.W.Frag):V->Option Int->Option Int->Hp->VK->Prop:=λx lo hi H Q=>∃a xs,x=.ref a/\dO K H a xs /\
 ¬(HT.iA xs.length 0 lo=0/\HT.iA xs.length xs.length hi=xs.length)/\∀p,H p=none->Q (.ref p) (upd H p (.tup (pB xs lo hi)))
theorem ZB:SlR X (aDi X.K):=by
 intro pins s σ H x v vl vu lo hi sl Q I rx hs pl pu h;obtain ⟨a,xs,rfl,hx,hw,q⟩:=h;cases rx;obtain ⟨its,r,ht,hz⟩:=I.tuple hx;have hlen:its.toArray.size=xs.length:=by rw [aQ];exact r.length.symm
 refine ⟨"tuple",_,PyProof.Rows.slot_tuple_getitem.lookup,ht.typeIs,?_⟩;refine HT.rV ht hs pl pu (by rw [hlen];exact hw) ?_ (by rw [hlen];exact hz);rw [hlen];refine ⟨.ref s.heap.objs.size,_,I.laid (t':=s.toks) (o:=.tup (pB xs lo hi)) (λb ob q=>aB _ q) (aM _) ?_,rfl,q _ (I.hok.fresh (aM _))⟩;exact ⟨⟨bG (uV xs lo hi) hz,_,aP _ rfl,rfl⟩,_,(r.drop (HT.iA xs.length 0 lo)).take (HT.iA xs.length xs.length hi-HT.iA xs.length 0 lo),IsTup.new _ _⟩
def aB6(K:PySem.W.Frag):R2:=λx y H Q=>∃a b xs ys,x=.ref a/\y=.ref b/\dO K H a xs/\dO K H b ys/\xs≠[]/\xs.length+ys.length<=sizeLine /\
 (ys=[]->Q (.ref a) H)/\(ys≠[]->∀p,H p=none->Q (.ref p) (upd H p (.tup (xs++ys))))
theorem cV.nil_iff{xs:List V}{us:List Value}(r:cV xs us):us=[]↔xs=[]:=by
 cases r with
 | nil=>simp
 | cons _ _=>simp
theorem VH:nZ X (binaryOp .Add) (aB6 X.K):=by
 intro pins s σ H x y v u Q I rx ry h;obtain ⟨a,b,xs,ys,rfl,rfl,ha,hb,hx,hz,q1,q2⟩:=h;cases rx;cases ry;obtain ⟨its,r1,p1,_⟩:=I.tuple ha;obtain ⟨its2,r2,p2,_⟩:=I.tuple hb;refine HT.WQ p1 p2 (λz=>hx (r1.nil_iff.mp z)) (λz=>⟨.ref a,H,I,rfl,q1 (r2.nil_iff.mp z)⟩) (λz=>?_) (by rw [<-r1.length,<-r2.length];exact hz);refine ⟨.ref s.heap.objs.size,_,I.laid (t':=s.toks) (o:=.tup (xs++ys)) (λb ob q=>aB _ q) (aM _) ?_,rfl,q2 (λw=>z (r2.nil_iff.mpr w)) _ (I.hok.fresh (aM _))⟩;exact ⟨⟨by rw [bI];exact hz,_,aP _ rfl,rfl⟩,_,r1.append r2,IsTup.new _ _⟩
end
def GD(n:Nat)(i:Int):Option Nat:=if 0<=i then (if i<n then some i.toNat else none) else if -(n:Int)<=i then some (i+n).toNat else none
def EE{α:Type}(xs:List α)(i:Int):Option α:=(GD xs.length i).bind λj=>xs[j]?
theorem HY{n:Nat}{i:Int}{j:Nat}(h:GD n i=some j):seqIndex? i n=some j/\j<n/\-(n:Int)<=i/\i<n:=by
 unfold GD at h;by_cases h0:0<=i
 ·rw [if_pos h0] at h;by_cases h1:i<n
  ·rw [if_pos h1] at h;have e:i.toNat=j:=eS h;exact ⟨by rw [seqIndex_of h0 h1,e],Oo,Oo,h1⟩
  ·rw [if_neg h1] at h;cases h
 ·rw [if_neg h0] at h;by_cases h1:-(n:Int)<=i
  ·rw [if_pos h1] at h;have e:(i+n).toNat=j:=eS h;exact ⟨by rw [seqIndex_neg Oo h1,e],Oo,h1,Oo⟩
  ·rw [if_neg h1] at h;cases h
theorem BJ{α:Type}{xs:List α}{i:Int}{v:α}(h:EE xs i=some v):∃j,seqIndex? i xs.length=some j/\xs[j]?=some v/\j<xs.length/\-(xs.length:Int)<=i/\i<xs.length:=by
 unfold EE at h;cases e:GD xs.length i with
 | none=>rw [e] at h;cases h
 | some j =>
  rw [e] at h;obtain ⟨h1,h2,h3,h4⟩:=HY e;exact ⟨j,h1,h,h2,h3,h4⟩
theorem eE{α:Type}{xs:List α}{j:Nat}{v:α}(h:xs[j]?=some v):EE xs (j:Int)=some v:=by
 have hj:j<xs.length:=(aY.mp h).1;have e:GD xs.length (j:Int)=some j:=by
  unfold GD;rw [if_pos Oo,if_pos Oo];simp
 unfold EE;rw [e];exact h
def IS(b:Expr):Prop:=∀o i,subscripted b false o i=operate [o,i] (getItem o i)
def RN(X:Cx)(r:R2):Prop :=
 ∀(value slice:Expr) (pins:List (Addr × Obj)) (s:Shared) (σ:St) (H:Hp) (x y:V) (v u:Value) (Q:VK),bW X pins σ H s->dF x v->dF y u->r x y H Q ->
  subscripted slice false v u=operate [v,u] (getItem v u)->wpAny (model X.prog X.w) X.A (subscriptTail value slice v u) (EP X pins σ Q) X.xe s
def MtR(X:Cx)(id:String)(r:V->List V->Hp->VK->Prop):Prop :=
 ∀(pins:List (Addr × Obj)) (s:Shared) (σ:St) (H:Hp) (x:V) (xs:List V) (v:Value) (us:List Value) (Q:VK),bW X pins σ H s->dF x v->cV xs us->r x xs H Q ->
  wpAny (model X.prog X.w) X.A (call (.builtin id) (v::us)) (EP X pins σ Q) X.xe s
section
variable{X:Cx}{a b:Expr}{ta tb:TE}{pos:Pos}
theorem RN.or{r r':R2}(h:RN X r)(h':RN X r'):RN X (λx y H Q=>r x y H Q\/r' x y H Q):=by
 intro value slice pins s σ H x y v u Q I rx ry q hs;rcases q with q | q
 ·exact h value slice pins s σ H x y v u Q I rx ry q hs
 ·exact h' value slice pins s σ H x y v u Q I rx ry q hs
theorem aCc{r:R2}(hr:RN X r)(ha:PE X a ta)(hb:PE X b tb)(hs:IS b):PE X (.Subscript a b pos) (SQ r ta tb):=by
 intro pins s σ H Q I h;exact Subscript_ (aBp ha hb I h λv u s2 x y H2 I2 rx ry q=>hr a b pins s2 σ H2 x y v u Q I2 rx ry q (hs _ _))
def aB4(K:PySem.W.Frag):R2:=λx y H Q=>∃p xs i v,x=.ref p/\y=.int i/\eZ K H p xs/\EE xs i=some v/\Q v H
def aB2(K:PySem.W.Frag):R2:=λx y H Q=>∃p xs i v,x=.ref p/\y=.int i/\dO K H p xs/\EE xs i=some v/\Q v H
def aB3:R2:=λx y H Q=>∃z i c,x=.str z/\y=.int i/\z.length<=sizeLine/\EE z.cps.toList i=some c/\Q (.str ⟨#[c]⟩) H
theorem VU:RN X (aB4 X.K):=by
 intro value slice pins s σ H x y v u Q I rx ry h hs;obtain ⟨p,xs,i,z,rfl,rfl,hq,he,q⟩:=h;cases rx;obtain ⟨t,rfl⟩:=ry;obtain ⟨its,r,pl,hz⟩:=I.list hq;obtain ⟨j,h1,h2,h3,h4,h5⟩:=BJ he;obtain ⟨w,ew,rw'⟩:=r.get h2;have hl:=r.length;have hn:=wN;have fin:EP X pins σ Q w s:=⟨z,H,I,rw',q⟩;by_cases h0:0<=i
 ·have hj:i.toNat=j:=by
   rw [seqIndex_of h0 h5] at h1;exact eS h1
  exact item_listR pl.isList h0 Oo (by rw [hj];simpa using ew) fin hs
 ·have hj:(i+(its.toArray.size:Int)).toNat=j:=by
   rw [seqIndex_neg Oo h4] at h1;rw [aQ,<-hl];exact eS h1
  exact subscriptTail_builtinR (x:=w) pl.isList.typeIs slot_list_getitem.lookup
   (wpAny_getItem_list_neg (Q:=λr s'=>r=w/\EP X pins σ Q r s') pl.isList Oo (by rw [aQ] <;> omega) Oo (by rw [hj];simpa using ew) ⟨rfl,fin⟩) hs
theorem aA1:RN X (aB2 X.K):=by
 intro value slice pins s σ H x y v u Q I rx ry h hs;obtain ⟨p,xs,i,z,rfl,rfl,hq,he,q⟩:=h;cases rx;obtain ⟨t,rfl⟩:=ry;obtain ⟨its,r,pl,hz⟩:=I.tuple hq;obtain ⟨j,h1,h2,h3,h4,h5⟩:=BJ he;obtain ⟨w,ew,rw'⟩:=r.get h2;have hl:=r.length;have hn:=wN;have fin:EP X pins σ Q w s:=⟨z,H,I,rw',q⟩;exact subscriptTail_builtinR (x:=w) pl.typeIs slot_tuple_getitem.lookup
  (getItem_tuple (j:=j) (Q:=λr s'=>r=w/\EP X pins σ Q r s') pl Oo Oo (by rw [aQ,<-hl];exact h1) (by simpa using ew) ⟨rfl,fin⟩) hs
theorem aA2:RN X aB3:=by
 intro value slice pins s σ H x y v u Q I rx ry h hs;obtain ⟨z,i,c,rfl,rfl,hz,he,q⟩:=h;obtain ⟨t,rfl⟩:=rx;obtain ⟨t',rfl⟩:=ry;obtain ⟨j,h1,h2,h3,h4,h5⟩:=BJ he;have hl:z.cps.toList.length=z.length:=by simp [Str.length]
 rw [hl] at h1 h4 h5;have hn:=wN;exact tail_any (typeIs_str s z t) slot_str_getitem.lookup (getItem_str (c:=c) (by
  have e1:decide (i < -(2^63:Int))=false:=dC Oo;have e2:decide (i ≥ 2^63)=false:=dC Oo;rw [e1,e2,Bool.or_false]) (by rw [h1];simpa using h2) ⟨.str ⟨#[c]⟩,H,I.tok _,⟨_,rfl⟩,q⟩) hs
def rIx(K:PySem.W.Frag):R2:=λx y H Q=>aB4 K x y H Q\/aB2 K x y H Q\/aB3 x y H Q
theorem bY:RN X (rIx X.K):=VU.or (aA1.or aA2)
theorem FZ(its:List Value)(n j:Nat)(u:Value):Obj.mapSeq (·.setIfInBounds j u) { cls:=.type "list",data:=.seq its.toArray n }={ cls:=.type "list",data:=.seq (its.set j u).toArray n }:=by
 simp [Obj.mapSeq]
theorem bW.lst{pins:List (Addr × Obj)}{σ:St}{H:Hp}{s:Shared}{p:Addr}{xs:List V}(I:bW X pins σ H s)(h:H p=some (.lst xs)) :
  ∃(its:List Value) (n:Nat),cV xs its/\s.heap.get? p=some { cls:=.type "list",data:=.seq its.toArray n }/\xs.length<=sizeLine:=by
 obtain ⟨z,its,n,r,e⟩:=I.hok p _ h;exact ⟨its,n,r,e,z⟩
theorem bW.lstUpd{pins:List (Addr × Obj)}{σ:St}{H:Hp}{s:Shared}{p:Addr}{xs ys:List V}{its its':List Value}{n n':Nat}{f:Obj->Obj}(I:bW X pins σ H s)(h:H p=some (.lst xs))
  (ho:s.heap.get? p=some { cls:=.type "list",data:=.seq its.toArray n }) (hf:f { cls:=.type "list",data:=.seq its.toArray n }={ cls:=.type "list",data:=.seq its'.toArray n' }) (r:cV ys its') (hz:ys.length<=sizeLine) (t:Nat) :
  bW X pins σ (upd H p (.lst ys)) { s with heap:=s.heap.update p f,toks:=t }:=by
 have e:(s.heap.update p f).get? p=some { cls:=.type "list",data:=.seq its'.toArray n' }:=by
  rw [Heap.get?_update_self f ho (by rw [hf] <;> rfl),hf]
 refine I.write (x:=p) (e:=p) (by rw [h];trivial) (.inl rfl) (λb u hb q=>(Heap.get?_update_other _ _ (Ne.symm hb)).trans q) ⟨_,e⟩ ?_;exact ⟨hz,its',n',r,e⟩
def OD:V->V->V->Hp->(Hp->Prop)->Prop:=λo i v H Q=>∃p xs k j,o=.ref p/\i=.int k/\H p=some (.lst xs)/\GD xs.length k=some j/\Q (upd H p (.lst (xs.set j v)))
theorem CM:aBt X OD:=by
 intro pins s σ H o i v ov iv u Q I ro ri rv h;obtain ⟨p,xs,k,j,rfl,rfl,hp,hj,q⟩:=h;cases ro;obtain ⟨t,rfl⟩:=ri;obtain ⟨its,n,r,ho,hz⟩:=I.lst hp;obtain ⟨h1,h2,h3,h4⟩:=HY hj;have hl:=r.length;have hn:=wN;have I':bW X pins σ (upd H p (.lst (xs.set j v))) { s with heap:=s.heap.update p (Obj.mapSeq (·.setIfInBounds j u)) } :=
  I.lstUpd hp ho (FZ its n j u) (r.set rv j) (by rw [List.length_set];exact hz) s.toks
 by_cases h0:0<=k
 ·have hk:k.toNat=j:=by
   rw [seqIndex_of h0 h4] at h1;exact eS h1
  exact PySem.W.ki_setAt ho h0 Oo (by rw [aQ,<-hl];exact h4) (by rw [hk];exact ⟨_,I',q⟩)
 ·have hk:(k+(its.toArray.size:Int)).toNat=j:=by
   rw [seqIndex_neg Oo h3] at h1;rw [aQ,<-hl];exact eS h1
  exact PySem.W.ki_setBack ho Oo (by rw [aQ,<-hl];exact h3) Oo (by rw [hk];exact ⟨_,I',q⟩)
theorem AM(lo hi:Option Int)(n:Nat):(sliceBounds lo hi none n).1=((HT.iA n 0 lo:Nat):Int)/\(sliceBounds lo hi none n).2.1=((HT.iA n n hi:Nat):Int)/\(sliceBounds lo hi none n).2.2=1:=by
 refine ⟨?_,?_,rfl⟩
 ·cases lo with
  | none=>simp [sliceBounds,HT.iA]
  | some i =>
   simp only [sliceBounds,HT.iA,Option.getD_none,show (1:Int) > 0 by decide,if_true];by_cases h:i<0
   ·simp only [h,if_true] <;> omega
   ·simp only [h,if_false] <;> omega
 ·cases hi with
  | none=>simp [sliceBounds,HT.iA]
  | some i =>
   simp only [sliceBounds,HT.iA,Option.getD_none,show (1:Int) > 0 by decide,if_true];by_cases h:i<0
   ·simp only [h,if_true] <;> omega
   ·simp only [h,if_false] <;> omega
theorem xQ(its:List Value)(lo hi:Option Int):slicePick its.toArray lo hi none=((its.drop (HT.iA its.length 0 lo)).take (HT.iA its.length its.length hi-HT.iA its.length 0 lo)).toArray:=by
 obtain ⟨h1,h2,h3⟩:=AM lo hi its.toArray.size;unfold slicePick;rw [h1,h2,h3];simp only [sliceRange_one,pick_run,aQ] <;> rfl
def aDj(K:PySem.W.Frag):V->Option Int->Option Int->Hp->VK->Prop:=λx lo hi H Q=>∃a xs,x=.ref a/\eZ K H a xs/\∀p,H p=none->Q (.ref p) (upd H p (.lst (pB xs lo hi)))
theorem SZ:SlR X (aDj X.K):=by
 intro pins s σ H x v vl vu lo hi sl Q I rx hs pl pu h;obtain ⟨a,xs,rfl,hx,q⟩:=h;cases rx;obtain ⟨its,r,ht,hz⟩:=I.list hx;have hlen:=r.length;refine ⟨"list",_,slot_list_getitem.lookup,ht.isList.typeIs,?_⟩;refine wpAny_getItem_list_slice ht.isList hs pl pu .none (by simp) ?_ (by rw [aQ] <;> omega);rw [xQ,<-hlen];refine ⟨.ref s.heap.objs.size,_,I.laid (t':=s.toks) (o:=.lst (pB xs lo hi)) (λb ob q=>aB _ q) (aM _) ?_,rfl,q _ (I.hok.fresh (aM _))⟩;exact ⟨bG (uV xs lo hi) hz,_,0,(r.drop (HT.iA xs.length 0 lo)).take (HT.iA xs.length xs.length hi-HT.iA xs.length 0 lo),aP _ rfl⟩
theorem cJ:fO X (.type "tuple") (λxs H Q=>∃p ys,xs=[.ref p]/\((eZ X.K H p ys/\∀l,H l=none->Q (.ref l) (upd H l (.tup ys)))\/(dO X.K H p ys/\Q (.ref p) H))):=by
 intro pins s σ H xs us Q I r h;obtain ⟨p,ys,rfl,h⟩:=h;obtain ⟨u,rfl,rx⟩:=kM r;cases rx;rcases h with ⟨hq,q⟩ | ⟨hq,q⟩
 ·obtain ⟨its,r',pl,hz⟩:=I.list hq;have hlen:=r'.length;refine call_tuple_list pl.isList (λh' kp=>?_) (by simp only [aQ] <;> omega);have I1:bW X pins σ H { s with heap:=h' }:=I.kept (t':=s.toks) kp;have I2:bW X pins σ (upd H h'.objs.size (.tup ys)) { s with heap:=h'.push { cls:=.type "tuple",data:=.seq its.toArray } } :=
   I1.laid (t':=s.toks) (λb o e=>aB _ e) (aM _) (show dM X.prog X.w _ _ _ (.tup ys) from ⟨⟨hz,_,aP _ rfl,rfl⟩,its,r',IsTup.new _ _⟩)
  exact ⟨.ref h'.objs.size,_,I2,rfl,q _ (I1.hok.fresh (aM _))⟩
 ·obtain ⟨its,r',pl,hz⟩:=I.tuple hq;exact call_tuple_same pl ⟨.ref p,H,I,rfl,q⟩
def tyV(K:PySem.W.Frag)(T:String)(x:V)(H:Hp):Prop:=match x with
 | .str _=>T = "str"
 | .int _=>T = "int"
 | .ref p=>(T = "list" /\ ∃xs,eZ K H p xs)\/(T = "tuple" /\ ((∃o,K.lookup p=some o/\o.cls=.type "tuple" /\ o.dict=none)\/∃xs,H p=some (.tup xs))) \/
   (T = "dict" /\ ((∃kvs,H p=some (.dK kvs))\/∃kvs,H p=some (.dT kvs)))\/(T = "set" /\ ∃S n,H p=some (.set S n))
 | _=>False
theorem YW{pins:List (Addr × Obj)}{σ:St}{H:Hp}{s:Shared}{T:String}{x:V}{v:Value}(I:bW X pins σ H s)(r:dF x v)(ty:tyV X.K T x H) :
  s.TypeIs v T/\∀a,v=.ref a->∃ob,s.heap.get? a=some ob/\ob.dict=none:=by
 cases x with
 | str z =>
  obtain ⟨t,rfl⟩:=r;cases (show T = "str" from ty);exact ⟨typeIs_str s z t,λ_ e=>nomatch e⟩
 | int i =>
  obtain ⟨t,rfl⟩:=r;cases (show T = "int" from ty);exact ⟨typeIs_int s i t,λ_ e=>nomatch e⟩
 | ref p =>
  cases r;rcases ty with ⟨rfl,xs,hq⟩ | ⟨rfl,⟨o,hk,hc,hd⟩ | ⟨xs,hq⟩⟩ | ⟨rfl,hk⟩ | ⟨rfl,S,n,hk⟩
  ·obtain ⟨its,_,pl,_⟩:=I.list hq;refine ⟨pl.isList.typeIs,λa e=>?_⟩;cases e;obtain ⟨o,n,e,c,hd,_⟩:=pl;exact ⟨o,e,hd⟩
  ·refine ⟨⟨o,I.kIn p o hk,hc⟩,λa e=>?_⟩;cases e;exact ⟨o,I.kIn _ o hk,hd⟩
  ·obtain ⟨⟨_,on,en,dn⟩,_,_,o,e1,e2,_⟩:=(show dM X.prog X.w H s.heap p (.tup xs) from I.hok p _ hq);refine ⟨⟨o,e1,e2⟩,λa e=>?_⟩;cases e;exact ⟨on,en,dn⟩
  ·have z:∃o,s.heap.get? p=some o/\o.ExactDict:=by
    rcases hk with ⟨kvs,hk⟩ | ⟨kvs,hk⟩
    ·obtain ⟨_,_,_,_,o,_,_,e,ex,_⟩:=I.hok p _ hk;exact ⟨o,e,ex⟩
    ·obtain ⟨_,_,_,_,o,_,_,e,ex,_⟩:=I.hok p _ hk;exact ⟨o,e,ex⟩
   obtain ⟨o,e,ex⟩:=z;refine ⟨⟨o,e,ex.1⟩,λa e2=>?_⟩;cases e2;exact ⟨o,e,ex.2.1⟩
  ·obtain ⟨o,_,_,_,e,ex,_⟩:=I.hok p _ hk;refine ⟨⟨o,e,ex.1⟩,λa e2=>?_⟩;cases e2;exact ⟨o,e,ex.2.1⟩
 | _=>exact False.elim ty
def tBM(K:PySem.W.Frag)(T:String)(r:V->List V->Hp->VK->Prop)(to:TE)(t:TA):TE:=λσ H Q=>to σ H λx H1=>tyV K T x H1/\t σ H1 λxs H2=>r x xs H2 Q
variable{o e:Expr}{es:List Expr}{to:TE}{t:TA}{name:Str}{apos cpos:Pos}{T id:String}{r:V->List V->Hp->VK->Prop}
theorem XZ(pa:PlainAttrs T)(slot:Slot T name id)(hty:typeOf (.builtin id)=pure (.type "method_descriptor"))(hm:MtR X id r)(ho:PE X o to)(ha:PA X (e::es) t)
  (hbase:attributeBase o name X.env (eval o X.env)=eval o X.env:=by rfl)
  (hfew:((backTo cpos (starEach (e::es) X.env)).all (λx=>!x.1)&&(backToKw cpos (keywordEach [] X.env)).all (λx=>x.1.isSome)
   && decide ((e::es).length+([]:List Keyword).length+(if ([]:List Keyword).isEmpty then 0 else 1)<30))=true:=by rfl)
  (hline:(apos.endLine == cpos.line)=true:=by rfl) (hs:starEach (e::es) X.env=(false,eval e X.env)::starEach es X.env:=by rfl) (hplain:(backTo cpos (starEach es X.env)).any (·.1)=false:=by rfl) :
  PE X (.Call (.Attribute o name apos) (e::es) [] cpos) (tBM X.K T r to t):=by
 intro pins s σ H Q I h;refine wpAny_Call_method_late hbase hfew hline rfl (thn (ho pins s σ H _ I h) λv s1 ⟨x,H1,I1,r1,ty,q1⟩=>?_);obtain ⟨h1,h2⟩:=YW I1 r1 ty;refine ⟨T,id,pa,slot,hty,h1,h2,?_⟩;have hA:=ha cpos pins s1 σ H1 _ I1 q1;rw [hs] at hA ⊢;refine Calls.callWith_builtin (by show (false || (backTo cpos (starEach es X.env)).any (·.1))=false;rw [hplain] <;> rfl) (Calls.evalArgs_plain ?_);exact thn hA λus s2 ⟨vs,H2,I2,r2,q2⟩=>hm pins s2 σ H2 x vs v us Q I2 r1 r2 q2
/- xs.append(e),list.index on a module's tuple .. are MtR facts of 06m -/
end
def MtM(X:Cx)(id:String)(r:V->List V->Hp->VK->Prop):Prop :=
 ∀(pins:List (Addr × Obj)) (s:Shared) (σ:St) (H:Hp) (x:V) (xs:List V) (v:Value) (us:List Value) (Q:VK),bW X pins σ H s->dF x v->cV xs us->r x xs H Q ->
  wpAny (model X.prog X.w) X.A (call (.builtin id) (v::us)) (EP X pins σ Q) X.xe s
theorem cV.one:∀{x:V}{us:List Value},cV [x] us->∃u,us=[u]/\dF x u
 | _,_,.cons r .nil=>⟨_,rfl,r⟩
theorem cV.eraseIdx:∀{xs:List V}{us:List Value}(i:Nat),cV xs us->cV (xs.eraseIdx i) (us.eraseIdx i)
 | _,_,_,.nil=>.nil
 | _,_,0,.cons _ t=>t
 | _,_,i+1,.cons r t=>.cons r (cV.eraseIdx i t)
theorem cV.rep{xs:List V}{us:List Value}(h:cV xs us):∀k:Nat,cV (List.replicate k xs).flatten (List.replicate k us).flatten
 | 0=>.nil
 | k+1=>by
  rw [List.replicate_succ,List.replicate_succ,List.flatten_cons,List.flatten_cons];exact cV.append h (cV.rep h k)
theorem yN{α:Type}:∀(l:List α) (i:Nat),(l.eraseIdx i).length<=l.length
 | [],_=>aM _
 | _::_,0=>Nat.le_succ _
 | _::r,i+1=>Nat.succ_le_succ (yN r i)
theorem tS(its:List Value):∀(k:Nat) (acc:List Value),
  List.foldl (λx1 x2=>x1++x2) acc.toArray (List.replicate k its.toArray)=(acc++(List.replicate k its).flatten).toArray
 | 0,acc=>by simp
 | k+1,acc=>by
  have e:acc.toArray++its.toArray=(acc++its).toArray:=by simp
  have e2:(acc++its)++(List.replicate k its).flatten=acc++(List.replicate (k+1) its).flatten:=by
   rw [List.replicate_succ,List.flatten_cons,List.append_assoc]
  rw [<-e2,<-tS its k (acc++its),<-e,List.replicate_succ,List.foldl_cons]
section
variable{X:Cx}{pins:List (Addr × Obj)}{σ:St}{H:Hp}{s:Shared}{l b:Addr}{xs ys zs:List V}
theorem bW.lset{its its':List Value}{n:Nat}{f:Array Value->Array Value}{t':Nat}(I:bW X pins σ H s)(hH:H l=some (.lst xs))
  (e:s.heap.get? l=some { cls:=.type "list",data:=.seq its.toArray n }) (hf:f its.toArray=its'.toArray) (hv:cV ys its') (hz:ys.length<=sizeLine) :
  bW X pins σ (upd H l (.lst ys)) { s with heap:=s.heap.update l (Obj.mapSeq f),toks:=t' }:=by
 have q:=PySem.IsL.update e f;rw [hf] at q;refine I.write (x:=l) (e:=l) (by rw [hH];exact trivial) (.inl rfl) (λb' u hb hu=>(Heap.get?_update_other s.heap (Obj.mapSeq f) (Ne.symm hb)).trans hu) ⟨_,q⟩ ?_;exact ⟨hz,its',_,hv,q⟩
theorem bW.lnew{its:List Value}{t':Nat}(I:bW X pins σ H s)(hv:cV ys its)(hz:ys.length<=sizeLine) :
  bW X pins σ (upd H s.heap.objs.size (.lst ys)) { s with heap:=s.heap.push { cls:=.type "list",data:=.seq its.toArray },toks:=t' } :=
 I.laid (λ_ _ q=>aB _ q) (aM _) ⟨hz,its,0,hv,aP _ rfl⟩
theorem bW.fresh(I:bW X pins σ H s):H s.heap.objs.size=none:=I.hok.fresh (aM _)
theorem bW.lstM(I:bW X pins σ H s)(hH:H l=some (.lst xs)):xs.length<=sizeLine/\∃(its:List Value) (n:Nat),cV xs its/\xs.length=its.length/\s.heap.get? l=some { cls:=.type "list",data:=.seq its.toArray n }:=by
 obtain ⟨z,its,n,r,e⟩:=I.hok l _ hH;exact ⟨z,its,n,r,r.length,e⟩
theorem CT{n:Nat}(h:n<=sizeLine):Builtin.List.listTooLong n=false:=by
 unfold Builtin.List.listTooLong;exact dC Oo
end
section
variable{X:Cx}
def HN:V->List V->Hp->VK->Prop:=λx vs H Q=>∃l xs y,x=.ref l/\vs=[y]/\H l=some (.lst xs)/\xs.length<sizeLine/\Q .non (upd H l (.lst (xs++[y])))
theorem pU:MtM X "list.append" HN:=by
 intro pins s σ H x vs v us Q I rx rv h;obtain ⟨l,xs,y,rfl,rfl,hH,hz,q⟩:=h;cases rx;obtain ⟨u,rfl,ru⟩:=rv.one;obtain ⟨z,its,n,r,hl,e⟩:=I.lstM hH;refine call_meets F.slot_list_append ⟨_,e,rfl⟩ F.entry_list_append (F.args_list_append_2 _ _) (PySem.list_append l its.toArray n u (by rw [aQ];omega)) ⟨e,?_⟩;refine ⟨.non,_,I.lset (its':=its++[u]) hH e (by simp) (r.append (.cons ru .nil)) ?_,rfl,q⟩;rw [bI,List.length_singleton];omega
def HL:V->List V->Hp->VK->Prop:=λx vs H Q=>∃l b xs zs,x=.ref l/\vs=[.ref b]/\H l=some (.lst xs)/\H b=some (.lst zs)/\xs.length+zs.length<=sizeLine/\Q .non (upd H l (.lst (xs++zs)))
theorem KH:MtM X "list.extend" HL:=by
 intro pins s σ H x vs v us Q I rx rv h;obtain ⟨l,b,xs,zs,rfl,rfl,hH,hB,hz,q⟩:=h;cases rx;obtain ⟨u,rfl,ru⟩:=rv.one;cases ru;obtain ⟨z,its,n,r,hl,e⟩:=I.lstM hH;obtain ⟨z2,its2,n2,r2,hl2,e2⟩:=I.lstM hB;have hsz:its.toArray.size+its2.toArray.size<=sizeLine:=by rw [aQ,aQ];omega
 have hlong:¬(!its.toArray.isEmpty&&Builtin.List.listTooLong (its.toArray.size+its2.toArray.size))=true:=by
  rw [CT hsz,Bool.and_false];exact bN
 refine call_meets F.slot_list_extend ⟨_,e,rfl⟩ F.entry_list_extend (F.args_list_extend_2 _ _)
  (AutoSeq1.list_extend_list_list_0 l its.toArray n b its2.toArray n2 hlong (by rw [aQ];omega) Oo) ⟨e,e2,?_⟩
 refine ⟨.non,_,I.lset (its':=its++its2) hH e (by simp) (r.append r2) ?_,rfl,q⟩;rw [bI];omega
def FQ:V->List V->Hp->VK->Prop:=λx vs H Q=>∃l xs i k y,x=.ref l/\vs=[.int i]/\H l=some (.lst xs)/\-(2^63)<=i/\i<2^63/\seqIndex? i xs.length=some k/\xs[k]?=some y/\Q y (upd H l (.lst (xs.eraseIdx k)))
theorem OV:MtM X "list.pop" FQ:=by
 intro pins s σ H x vs v us Q I rx rv h;obtain ⟨l,xs,i,k,y,rfl,rfl,hH,h1,h2,hk,hy,q⟩:=h;cases rx;obtain ⟨u,rfl,ru⟩:=rv.one;obtain ⟨t,rfl⟩:=ru;obtain ⟨z,its,n,r,hl,e⟩:=I.lstM hH;obtain ⟨w,hw,rw'⟩:=r.get hy;refine call_meets F.slot_list_pop ⟨_,e,rfl⟩ F.entry_list_pop (F.args_list_pop_2 _ _)
  (MeetsSeq.list_pop_at l its.toArray n i t k w (fitsIndex_both h1 h2) (by rw [aQ,<-hl];exact hk) (by rw [<-Array.getElem?_toList];exact hw) (by rw [aQ];omega)) ⟨e,?_⟩
 refine ⟨y,_,I.lset (its':=its.eraseIdx k) hH e ?_ (r.eraseIdx k) ?_,rw',q⟩
 ·show its.toArray.eraseIdxIfInBounds k=(its.eraseIdx k).toArray;rw [List.eraseIdxIfInBounds_toArray]
 ·have:=yN xs k;omega
def aB7:R2:=λx y H Q=>∃l b xs zs,x=.ref l/\y=.ref b/\H l=some (.lst xs)/\H b=some (.lst zs)/\xs.length+zs.length<=sizeLine/\∀p,H p=none->Q (.ref p) (upd H p (.lst (xs++zs)))
theorem aAP:nZ X (binaryOp .Add) aB7:=by
 intro pins s σ H x y v u Q I rx ry h;obtain ⟨l,b,xs,zs,rfl,rfl,hH,hB,hz,q⟩:=h;cases rx;cases ry;obtain ⟨z,its,n,r,hl,e⟩:=I.lstM hH;obtain ⟨z2,its2,n2,r2,hl2,e2⟩:=I.lstM hB;refine PySem.P.add_list e e2 ?_ (by rw [aQ,aQ];omega);have ea:its.toArray++its2.toArray=(its++its2).toArray:=by simp
 rw [ea];exact ⟨.ref _,_,I.lnew (t':=s.toks) (r.append r2) (by rw [bI];omega),rfl,q _ I.fresh⟩
def aB1:R2:=λx y H Q=>∃l k xs,x=.ref l/\y=.int k/\H l=some (.lst xs)/\-(2^63)<=k/\k<2^63/\xs.length*k.toNat<=sizeLine /\
 ∀p,H p=none->Q (.ref p) (upd H p (.lst (List.replicate k.toNat xs).flatten))
theorem VN{α:Type}(xs:List α)(k:Nat):(List.replicate k xs).flatten.length=k*xs.length:=by
 induction k with
 | zero=>simp
 | succ k ih=>rw [List.replicate_succ,List.flatten_cons,bI,ih,Nat.succ_mul,Nat.add_comm]
theorem aAJ:nZ X (binaryOp .Mult) aB1:=by
 intro pins s σ H x y v u Q I rx ry h;obtain ⟨l,k,xs,rfl,rfl,hH,h1,h2,hz,q⟩:=h;cases rx;obtain ⟨t,rfl⟩:=ry;obtain ⟨z,its,n,r,hl,e⟩:=I.lstM hH;have hlen:its.toArray.size*k.toNat<=sizeLine:=by rw [aQ,<-hl];exact hz
 have hcap:¬its.toArray.size*k.toNat > (2^63-1)/8:=by
  have:(sizeLine:Nat)<=(2^63-1)/8:=Dd;omega
 have hfit:¬(!Builtin.List.listFitsIndex k)=true:=by
  rw [fitsIndex_both h1 h2];exact bN
 have hlong:¬Builtin.List.listTooLong (its.toArray.size*k.toNat)=true:=by
  rw [CT hlen];exact bN
 have hnew:List.foldl (λx1 x2=>x1++x2) #[] (List.replicate (if its.toArray.isEmpty=true then 0 else k.toNat) its.toArray)=(List.replicate k.toNat its).flatten.toArray:=by
  have f0:∀m:Nat,List.foldl (λx1 x2=>x1++x2) #[] (List.replicate m its.toArray)=(List.replicate m its).flatten.toArray:=λm=>by
   have:=tS its m [];rw [List.nil_append] at this;exact this
  rw [f0];cases its with
  | nil=>simp
  | cons a r'=>rw [if_neg (by simp)]
 refine wpAny_binaryOp_repeat_ref (T := "list") (U := "int") Dd ⟨_,e,rfl⟩ (λs'=>typeIs_int s' k t) noFill_list_mul F.fills_int_mul F.slot_int_rmul repeat_list F.slot_int_index.lookup
  (call_meets F.slot_int_rmul (typeIs_int s k t) F.entry_int_rmul (F.args_int_rmul_2 _ _) (int___rmul___int_list k t l its.toArray n)
   ⟨e,rfl,⟨_,e,rfl⟩,call_meets F.slot_list_mul ⟨_,e,rfl⟩ F.entry_list_mul (F.args_list_mul_2 _ _) (AutoListH.list___mul___list_int_3 l its.toArray n k t hfit hcap hlong) ⟨e,?_⟩⟩)
 rw [hnew];exact ⟨.ref _,_,I.lnew (t':=s.toks) (r.rep k.toNat) (by rw [VN,Nat.mul_comm];exact hz),rfl,q _ I.fresh⟩
end
section
variable{prog:Program}{w:World}{A:Around}{E:Value->Shared->Prop}{s:Shared}
end
section
variable{X:Cx}
end
end L2
namespace Att
open PySem PySem.W PySem.Calls PyProof.Rows
theorem uY{P:Params}{h:Heap}:∀(ns:List Int) (vs:List Value),WellAll P h vs (ns.map WData.int)->IntsAre vs ns:=by
 intro ns
 induction ns with
 | nil =>
  intro vs w;rw [List.map_nil] at w;cases w;exact .nil
 | cons n ns ih =>
  intro vs w;rw [aZ] at w;cases w with
  | cons a b =>
   cases a;exact .cons _ _ (ih _ b)
theorem JR{l:OpenLaw}{n:Nat}(hn:l.most=some n){P:Params}{h:Heap}{args:List WData}{vals:List Value}
  (hpre:l.row.toRowW.claim.pre args=true) (hwl:WellAll P h vals args) :
  ∃a vs ns,vals=[Value.ref a]/\args=[WData.list (ns.map WData.int)]/\h.get? a=some { cls:=.type "list",data:=.seq vs.toArray }/\IntsAre vs ns/\ns.length<=n:=by
 have hsh:WShape.hasAll [] args [.list .int]=true:=(pre_splitW hpre).1;have hc:l.pre.holds [] { args:=args }=true:=(pre_splitW hpre).2;obtain ⟨d,r,rfl,h1,h2⟩:=hasAllW_cons hsh;obtain rfl:=hasAllW_nil h2;obtain ⟨xs,rfl,h3⟩:=hasW_list h1;obtain ⟨ns,rfl⟩:=items_int h3;have hlen:ns.length<=n:=by
  unfold OpenLaw.pre at hc;have h4:(WTm.not (.lt (.lit (.int (n:Int))) (.len (.arg 0)))).holds [] { args:=[.list (ns.map .int)] }=true:=by
   have h4:=(holds_andW hc).1;rw [hn] at h4;exact h4
  have h5:=condW_of h4 (w_not (w_lt w_lit (w_len_list (w_arg rfl))));rw [aA] at h5;refine Nat.le_of_not_lt λq=>?_;have q':(n:Int)<((ns.length:Nat):Int):=Oo
  first
   | (rw [cE q'] at h5;exact absurd h5 Dd)
   | (simp at h5;omega)
 cases hwl with
 | cons w1 w2 =>
  cases w2;cases w1 with
  | list ho hall=>exact ⟨_,_,ns,rfl,rfl,ho,uY ns _ hall,hlen⟩
theorem KA(l:OpenLaw)(args:List WData):l.row.toRowW.claim.post args (.bool true) args=true :=
 postW_of (r:=l.row.toRowW) (X:=(true == true))
  (show WShape.has [] (.bool true) .bool=true by first | rfl | decide | simp [WShape.has,WShape.arms,WShape.armsAll])
  (show (WTm.eq .res (.lit (.bool true))).value [] { args:=args,res:=some (.bool true),after:=args }=some (.bool (true == true)) from w_eq_bool (w_res rfl) w_lit) rfl
theorem ED{l:OpenLaw}{n:Nat}{q:Program}{loose:List Str}{XP:(Str->Option Value)->Heap->Prop}{YP:World->Heap->Prop}{d:DefRec}
  (hn:l.most=some n) (hdf:d.params.defaults=[])
  (call:∀(w:World) (s₀ s₁:Shared) (mg mb:Str->Option Value) (fa:Addr) (o:Obj) (pm cd doc:Value) (a:Addr) (vs:List Value) (ns:List Int),
   Ground q loose [] XP w s₀ mg mb s₁.heap->YP w s₁.heap ->
   s₁.heap.get? fa=some o->o.data=.func (docDef d.name d.params d.body d.scope pm cd doc)->s₁.heap.CodeRec cd d.name->mg d.name=some (.ref fa) ->
   s₁.heap.get? a=some { cls:=.type "list",data:=.seq vs.toArray }->IntsAre vs ns->ns.length<=n->s₁.gens=#[] ->
   codeAny (model l.prog w) callerA (.call (.ref fa) ⟨[.ref a],[]⟩) (λr s'=>r=.ok (.ret (.bool true))/\OldK s₁.heap s'.heap/\s'.os=s₁.os/\AllBare s'.gens) s₁) :
  WalkO q loose XP YP l.row.toRowW d [] (λf vs=>PySem.call f vs):=by
 intro w s₀ s₁ mg mb G Y fa o pm cd doc dV kV ho hd hcd hD hmg hg args vals as hpre hlay hrd hwl hlo;obtain rfl:dV=.none:=Dflts.none hD hdf;obtain rfl:kV=.none:=Dflts.noKw hD;obtain ⟨a,vs,ns,rfl,rfl,hobj,hints,hlen⟩:=JR hn hpre hwl;refine enter_call (codeAny_mono (call w s₀ s₁ mg mb fa o pm cd doc a vs ns G Y ho (fd_plain hd) hcd hmg hobj hints hlen hg) λr s' hq=>?_);obtain ⟨rfl,h2,h3,h4⟩:=hq;exact ⟨.inl ⟨.bool true,.bool true,[],rfl,λ_=>rfl,.bool true,KA l _,λ_=>⟨List.Pairwise.nil,λ_ hm=>(nomatch hm)⟩⟩,h2,h3,h4⟩
section
variable{prog:Program}{w:World}{A:Around}{E:Value->Shared->Prop}{s:Shared}{K:Frag}
end
end Att
namespace L2
open PySem PySem.Spec PyProof.Rows
theorem xZ:∀{vs:List Value}{ns:List Int},IntsAre vs ns->cV (ns.map V.int) vs
 | _,_,.nil=>.nil
 | _,_,.cons n t h=>.cons ⟨t,rfl⟩ (xZ h)
end L2
/- THE LAST THEOREM (shape;LID,My.* are yours):
   My.Adr: a structure of the addresses that your layer names (classes,functions);My.Txt K t: a structure (Prop) of the equations over K;
   My.txt_mk:{K} {implicit addresses ..} (e1:nsIn K mainGlobals "law" = some (some (.ref f))) (e2:K.lookup f=some ⟨oc,od,.func (fnOf "law" "law" params body scope dV kV doc pm an cdv ct),sl⟩) (e3:codeIn K cdv "law" = true) .. : ∃t,My.Txt K t
set_option maxRecDepth 100000 in
set_option maxHeartbeats 0 in
theorem PySem.Challenge.cw_LID_holds : PySem.Challenge.rw_LID.Holds := by
  w_on;o_law;k_head;(case hw=>w_witness2)
  k_fill
  refine L2.walk_of (l:=PySem.Challenge.rw_LID) (n:=63) (k:=40) (x := "script") (CX:=λw=>..) (sp:=λ_=>My.sp_law) rfl Dd rfl ⟨rfl,Dd,Dd⟩ (λw h Y=>PySem.W.kIn_of Y) ?F ?S ?C
  case F =>
    intro w mg fa h KX G hmg;have T:∃t,My.Txt (L2.KOf KX) t:=by
      dsimp only [L2.KOf]                          -- K must stand as «<heap const> w.params» for k_is
      refine' My.txt_mk ?e1 ?e2 ?e3 ..
      (case e1=>PySem.W.k_is)                    -- in the order: a name -> its address -> its object -> its parts
      (case e2=>PySem.W.k_is)
      ..
    obtain ⟨t,T⟩:=T;have e0:=hmg.symm.trans (PySem.W.mg_of KX G T.law);cases e0                                       -- fa is the law's own address;exact ⟨_,λs u=>.of_eq rfl,λbase kb nb=>My.law_fn T kb nb⟩     -- if «.of_eq rfl» comes too early: refine' ⟨_,?b,λbase kb nb=>My.law_fn T kb nb⟩;exact λs u=>.of_eq rfl
  case S=>exact λw H a ns hl hO hS=>..
  case C=>exact ..
(the tactic k_is has no namespace: write k_is) -/
namespace L2
open PySem PySem.Spec PyProof.Rows
def nO(s:Stmt):Arguments:=match s with
 | .FunctionDef _ a _ _ _ _ _ _ _ _=>a
 | _=>{ posonlyargs:=[],args:=[],vararg:=none,kwonlyargs:=[],kw_defaults:=[],kwarg:=none,defaults:=[] }
def jB(s:Stmt):List Stmt:=match s with
 | .FunctionDef _ _ b _ _ _ _ _ _ _=>b
 | _=>[]
def aO(s:Stmt):Scope:=match s with
 | .FunctionDef _ _ _ _ _ _ sc _ _ _=>sc
 | _=>{ kind:=.function,names:=[],isGenerator:=false,isCoroutine:=false }
abbrev cR:MB:=λ_ _ _ _ _ _=>False
abbrev E0:XK:=λ_ _ _=>False
theorem aCe{X:Cx}:GM cR X E0:=λ_ _ _ _ _ _ _ h=>h.elim
structure gH(K:PySem.W.Frag)(x qual:Str)(st:Stmt)(f:Addr)(fd:FuncData):Prop where
 ex:∃(oc:Value) (od:Option Addr) (kV doc pm:Value) (an:Option Addr) (cdv ct:Value) (osl:Array (Option Value)),
  fd=PySem.W.fnOf x qual (nO st) (jB st) (aO st) .none kV doc pm an cdv ct/\K.lookup f=some ⟨oc,od,.func fd,osl⟩/\PySem.W.codeIn K cdv qual=true
 kp:PySem.W.keepIn K (.ref f)=true
section
variable{P:Program}{w:World}{K:PySem.W.Frag}{mg:Str->Option Value}{base:Heap}
theorem gH.ok{x qual:Str}{st:Stmt}{f:Addr}{fd:FuncData}{N ps:List Str}{k:Nat}{sp:Sp}(F:gH K x qual st f fd)(S:bK N ps (aO st))(len:∀vs H Q E,sp vs H Q E->vs.length=ps.length)
  (hbody:∀(cdv:Value) (A:Around) (outer:List Env) (s:Shared) (H:Hp) (vs:List V) (Q:VK) (E:XK),iF k (A.deeper (envOfC qual (aO st) s.heap.objs.size f cdv))->sp vs H Q E ->
   ∃t,GP (uZ cR P w K mg base N qual (aO st) f cdv A outer s H E).nox (jB st) t/\t { nx:=λ_ H'=>Q .non H',rt:=Q } (start N vs) H):dA P w K mg base cR (k+1) f fd ps sp:=by
 obtain ⟨oc,od,kV,doc,pm,an,cdv,ct,osl,rfl,lk,hcd⟩:=F.ex;refine YI lk hcd S len λA outer s H vs Q E hr hsp=>?_;obtain ⟨t,h,q⟩:=hbody cdv A outer s H vs Q E hr hsp;exact ⟨t,h.nox,q⟩
theorem gH.binds{x qual:Str}{st:Stmt}{f:Addr}{fd:FuncData}{ps:List Str}(F:gH K x qual st f fd)
  (h:∀(kV doc pm:Value) (an:Option Addr) (cdv ct:Value) (us:List Value),us.length=ps.length->bindArgs (PySem.W.fnOf x qual (nO st) (jB st) (aO st) .none kV doc pm an cdv ct) ⟨us,[]⟩=pure (ps.zip us)):sN K fd ps []:=by
 obtain ⟨oc,od,kV,doc,pm,an,cdv,ct,osl,rfl,lk,hcd⟩:=F.ex;exact .all (h kV doc pm an cdv ct)
theorem BD{x qual:Str}{st:Stmt}{f:Addr}{oc:Value}{od an:Option Addr}{osl:Array (Option Value)}{kV doc pm cdv ct:Value}(l:K.lookup f=some ⟨oc,od,.func (PySem.W.fnOf x qual (nO st) (jB st) (aO st) .none kV doc pm an cdv ct),osl⟩)
  (c:PySem.W.codeIn K cdv qual=true) (k:PySem.W.keepIn K (.ref f)=true):gH K x qual st f (PySem.W.fnOf x qual (nO st) (jB st) (aO st) .none kV doc pm an cdv ct):=⟨⟨oc,od,kV,doc,pm,an,cdv,ct,osl,rfl,l,c⟩,k⟩
end
theorem tE{n:Nat}(h:n<=1000):n<sizeLine:=bC h Dd
section
variable{X:Cx}
theorem pv(i:Nat){x:Str}{pos:Pos}(hN:X.N[i]?=some x:=by rfl)(hv:Vis X.env.scope x:=by first | exact Or.inl rfl | exact Or.inr (Or.inl rfl) | exact Or.inr (Or.inr rfl))(hd:(x == ("__debug__" : Str))=false:=by decide)
  (hcd:(x == ("__classdict__" : Str))=false:=by decide):PE X (.Name x pos) (YX i):=aAD hN hv hd hcd
end
theorem mH{A B:Prop}(h:B):if false=true then A else B:=by
 rw [if_neg bN];exact h
theorem mG{A B:Prop}(h:A):if true=true then A else B:=by
 rw [if_pos rfl];exact h
theorem aCo{c A B:Prop}[Decidable c](h1:c->A)(h2:¬c->B):if c then A else B:=by
 by_cases h:c
 ·rw [if_pos h];exact h1 h
 ·rw [if_neg h];exact h2 h
def aW(H H':Hp):Prop:=∀b o,H b=some o->H' b=some o
theorem aW.refl(H:Hp):aW H H:=λ_ _ h=>h
theorem aW.trans{H H1 H2:Hp}(a:aW H H1)(b:aW H1 H2):aW H H2:=λc o h=>b c o (a c o h)
theorem aW.free{H H':Hp}(e:aW H H'){l:Addr}(h:H' l=Option.none):H l=Option.none:=by
 cases q:H l with
 | none=>rfl
 | some o =>
  rw [e l o q] at h;cases h
section
variable{κ:Type}[DecidableEq κ]
def eJ(kvs:List (κ × V))(k:κ):Option V:=(kvs.find? λkv=>decide (kv.1=k)).map (·.2)
def iC(kvs:List (κ × V))(k:κ)(v:V):List (κ × V) :=
 if (kvs.any λkv=>decide (kv.1=k))=true then kvs.map (λkv=>if kv.1=k then (kv.1,v) else kv) else kvs++[(k,v)]
theorem fV{p:κ × V}{r:List (κ × V)}{k:κ}(e:p.1=k):eJ (p::r) k=some p.2:=by simp [eJ,List.find?_cons,e]
theorem fW{p:κ × V}{r:List (κ × V)}{k:κ}(e:¬p.1=k):eJ (p::r) k=eJ r k:=by simp [eJ,List.find?_cons,e]
theorem jY(k:κ):∀kvs:List (κ × V),(kvs.any λkv=>decide (kv.1=k))=(eJ kvs k).isSome
 | []=>rfl
 | p::r=>by
  rw [List.any_cons];by_cases e:p.1=k
  ·simp only [fV e,cE e,Bool.true_or,Option.isSome_some]
  ·rw [fW e,dC e,Bool.false_or];exact jY k r
theorem BV(k j:κ)(y:V):∀kvs:List (κ × V),eJ (kvs.map λkv=>if kv.1=k then (kv.1,y) else kv) j=(eJ kvs j).map λx=>if j=k then y else x
 | []=>rfl
 | p::r=>by
  have ih:=BV k j y r;rw [aZ];by_cases h:p.1=k
  ·rw [if_pos h];by_cases e:p.1=j
   ·rw [fV (p:=(p.1,y)) e,fV e,Option.map_some,if_pos (e.symm.trans h)]
   ·rw [fW (p:=(p.1,y)) e,fW e,ih]
  ·rw [if_neg h];by_cases e:p.1=j
   ·rw [fV (p:=p) e,fV e,Option.map_some,if_neg (λz=>h (e.trans z))]
   ·rw [fW (p:=p) e,fW e,ih]
theorem yA(k j:κ)(y:V):∀kvs:List (κ × V),eJ kvs k=none->eJ (kvs++[(k,y)]) j=if j=k then some y else eJ kvs j
 | [],_=>by
  by_cases e:k=j
  ·rw [if_pos e.symm];exact fV (p:=(k,y)) e
  ·rw [if_neg (λz=>e z.symm)];exact fW (p:=(k,y)) e
 | p::r,hn=>by
  rw [List.cons_append];have hk:¬p.1=k:=λz=>by rw [fV z] at hn;cases hn
  rw [fW hk] at hn;have ih:=yA k j y r hn;by_cases e:p.1=j
  ·rw [fV e,fV e,if_neg (λz=>hk (e.trans z))]
  ·rw [fW e,fW e,ih]
theorem MS(kvs:List (κ × V))(k j:κ)(y:V):eJ (iC kvs k y) j=if j=k then some y else eJ kvs j:=by
 unfold iC;by_cases a:(kvs.any λkv=>decide (kv.1=k))=true
 ·rw [if_pos a,BV];rw [jY] at a;by_cases e:j=k
  ·obtain ⟨x,hx⟩:=Option.isSome_iff_exists.mp a;rw [if_pos e,e,hx,Option.map_some,if_pos rfl]
  ·rw [if_neg e];cases eJ kvs j with
   | none=>rfl
   | some x=>rw [Option.map_some,if_neg e]
 ·rw [if_neg a];refine yA k j y kvs ?_;rw [jY] at a;cases q:eJ kvs k with
  | none=>rfl
  | some x=>rw [q] at a;exact (a rfl).elim
theorem iU(kvs:List (κ × V))(k:κ)(v:V):(iC kvs k v).length<=kvs.length+1:=by
 unfold iC;split
 ·rw [aA];omega
 ·rw [bI,bL,List.length_nil];omega
theorem oV{kvs:List (κ × V)}{k:κ}(v:V)(h:eJ kvs k=none):iC kvs k v=kvs++[(k,v)]:=by
 unfold iC;rw [jY,h];exact if_neg Dd
theorem uI.isSome_eq{o:Option V}{u:Option Value}(r:uI o u):o.isSome=u.isSome:=by
 cases o with
 | none=>cases u with
  | none=>rfl
  | some _=>exact (show False from r).elim
 | some _=>cases u with
  | none=>exact (show False from r).elim
  | some _=>rfl
theorem uI.getD{o:Option V}{u:Option Value}{d:V}{d':Value}(r:uI o u)(rd:dF d d'):dF (o.getD d) (u.getD d'):=by
 cases o with
 | none=>cases u with
  | none=>exact rd
  | some _=>exact (show False from r).elim
 | some _=>cases u with
  | none=>exact (show False from r).elim
  | some _=>exact r
theorem KV.val{kvs:List (κ × V)}{vs:List (κ × Value)}(r:KV kvs vs)(k:κ):uI (eJ kvs k) (valueAt vs k):=by
 unfold KV at r
 induction r with
 | nil=>exact True.intro
 | @cons p q ps qs h t ih =>
  obtain ⟨h1,h2⟩:=h;by_cases e:p.1=k
  ·have e':q.1=k:=h1.symm.trans e;have b:valueAt (q::qs) k=some q.2:=by simp [valueAt,List.find?_cons,e']
   rw [fV e,b];exact h2
  ·have e':¬q.1=k:=λz=>e (h1.trans z);have b:valueAt (q::qs) k=valueAt qs k:=by simp [valueAt,List.find?_cons,e']
   rw [fW e,b];exact ih
theorem KV.any{kvs:List (κ × V)}{vs:List (κ × Value)}(r:KV kvs vs)(k:κ):(kvs.any λkv=>decide (kv.1=k))=vs.any λkv=>decide (kv.1=k):=by
 unfold KV at r
 induction r with
 | nil=>rfl
 | cons h t ih=>rw [List.any_cons,List.any_cons,ih,h.1]
theorem KV.repl{kvs:List (κ × V)}{vs:List (κ × Value)}(r:KV kvs vs)(k:κ){y:V}{u:Value}(ry:dF y u) :
  KV (kvs.map λkv=>if kv.1=k then (kv.1,y) else kv) (vs.map λkv=>if kv.1=k then (kv.1,u) else kv):=by
 unfold KV at r ⊢
 induction r with
 | nil=>exact .nil
 | @cons p q ps qs h t ih =>
  rw [aZ,aZ];refine .cons ?_ ih;obtain ⟨h1,h2⟩:=h;by_cases e:p.1=k
  ·rw [if_pos e,if_pos (h1.symm.trans e)];exact ⟨h1,ry⟩
  ·rw [if_neg e,if_neg (λz=>e (h1.trans z))];exact ⟨h1,h2⟩
theorem KV.put{kvs:List (κ × V)}{vs:List (κ × Value)}(r:KV kvs vs)(k:κ){y:V}{u:Value}(ry:dF y u):KV (iC kvs k y) (stored vs k u):=by
 unfold iC stored;rw [r.any k];by_cases e:(vs.any λkv=>decide (kv.1=k))=true
 ·rw [if_pos e,if_pos e];exact r.repl k ry
 ·rw [if_neg e,if_neg e];exact Paired.snoc r ⟨rfl,ry⟩
theorem KV.length{kvs:List (κ × V)}{vs:List (κ × Value)}(r:KV kvs vs):kvs.length=vs.length:=Paired.length r
end
theorem yR{P:Program}{w:World}{k:eA}{u:Value}(r:dF (kV k) u):(dQ P w).is k u=true:=by
 cases k with
 | inl i=>obtain ⟨t,e⟩:=(show ∃t,u=Value.int i t from r);subst e;exact DA P w i t
 | inr x=>obtain ⟨t,e⟩:=(show ∃t,u=Value.str x t from r);subst e;exact CZ P w x t
theorem yS{P:Program}{w:World}:∀{ks:List eA}{us:List Value},cV (ks.map kV) us->ItemsAre (dQ P w) ks us
 | [],_,r=>by rw [List.map_nil] at r;cases r;exact .nil
 | k::ks,_,r=>by
  rw [aZ] at r;cases r with
  | cons h t=>exact .cons (yR h) (yS t)
abbrev KT(H:Hp):List (List eA × V)->List (List eA × Addr × Value)->Prop:=Paired λp q=>p.1=q.1/\H q.2.1=some (.tup (p.1.map kV))/\dF p.2 q.2.2
theorem KT.val{H:Hp}{kvs:List (List eA × V)}{xs:List (List eA × Addr × Value)}(r:KT H kvs xs)(k:List eA):uI (eJ kvs k) ((atKey xs k).map (·.2)):=by
 induction r with
 | nil=>exact True.intro
 | @cons p q ps qs h t ih =>
  obtain ⟨h1,_,h2⟩:=h;by_cases e:p.1=k
  ·have e':q.1=k:=h1.symm.trans e;have b:atKey (q::qs) k=some q.2:=by simp [atKey,List.find?_cons,e']
   rw [fV e,b];exact h2
  ·have e':¬q.1=k:=λz=>e (h1.trans z);have b:atKey (q::qs) k=atKey qs k:=by simp [atKey,List.find?_cons,e']
   rw [fW e,b];exact ih
theorem KT.repl{H:Hp}{kvs:List (List eA × V)}{xs:List (List eA × Addr × Value)}(r:KT H kvs xs)(k:List eA){y:V}{u:Value}(ry:dF y u) :
  KT H (kvs.map λkv=>if kv.1=k then (kv.1,y) else kv) (xs.map (putAt k u)):=by
 induction r with
 | nil=>exact .nil
 | @cons p q ps qs h t ih =>
  rw [aZ,aZ];refine .cons ?_ ih;obtain ⟨h1,h2,h3⟩:=h;unfold putAt;by_cases e:p.1=k
  ·rw [if_pos e,if_pos (h1.symm.trans e)];exact ⟨h1,h2,ry⟩
  ·rw [if_neg e,if_neg (λz=>e (h1.trans z))];exact ⟨h1,h2,h3⟩
theorem KT.put{H:Hp}{kvs:List (List eA × V)}{xs:List (List eA × Addr × Value)}(r:KT H kvs xs)(k:List eA){b:Addr}{y:V}{u:Value}(hb:H b=some (.tup (k.map kV)))(ry:dF y u) :
  KT H (iC kvs k y) (storedH xs k b u):=by
 have e:(kvs.any λkv=>decide (kv.1=k))=(atKey xs k).isSome:=by
  rw [jY,(r.val k).isSome_eq,Option.isSome_map]
 unfold iC storedH;rw [e];by_cases q:(atKey xs k).isSome=true
 ·rw [if_pos q,if_pos q];exact r.repl k ry
 ·rw [if_neg q,if_neg q];exact Paired.snoc r ⟨rfl,hb,ry⟩
theorem KT.keeps{H H':Hp}{kvs:List (List eA × V)}{xs:List (List eA × Addr × Value)}(r:KT H kvs xs)(ht:∀b ys,H b=some (.tup ys)->H' b=some (.tup ys)):KT H' kvs xs :=
 Paired.mapP r λ_ _ z=>⟨z.1,ht _ _ z.2.1,z.2.2⟩
section
variable{P:Program}{w:World}{H:Hp}{h:Heap}{a:Addr}
theorem XX{u:HO}(ok:nU P w H h)(e:Rd H a u):dM P w H h a u:=e.ok ok
theorem zD{kvs:List (eA × V)}(ok:nU P w H h)(e:Rd H a (.dK kvs)):kvs.length<=sizeLine/\(a == sysModules)=false/\∃vs,KV kvs vs/\h.DictOf (dQ P w) a vs :=
 show dM P w H h a (.dK kvs) from XX ok e
theorem YK{kvs:List (eA × V)}(ok:nU P w H h)(e:H a=some (.dK kvs)):kvs.length<=sizeLine/\(a == sysModules)=false/\∃vs,KV kvs vs/\h.DictOf (dQ P w) a vs:=zD ok (.inl e)
theorem nJ{ks:List eA}(ok:nU P w H h)(e:H a=some (.tup (ks.map kV))):(tupleKind (dQ P w)).is h ks a:=by
 obtain ⟨_,its,r,o,h1,h2,n,h3⟩:=(show dM P w H h a (.tup (ks.map kV)) from ok a _ e);exact ⟨o,its.toArray,n,h1,h2,h3,by simpa using yS r⟩
theorem yZ{kvs:List (List eA × V)}(ok:nU P w H h)(e:Rd H a (.dT kvs)):kvs.length<=sizeLine/\(a == sysModules)=false /\
  ∃xs,KT H kvs xs/\h.DictOfH (tupleKind (dQ P w)) a xs:=by
 obtain ⟨z,y,xs,r,o,es,ep,h1,h2,h3,h4,h5⟩:=(show dM P w H h a (.dT kvs) from XX ok e);refine ⟨z,y,xs,r,o,es,ep,h1,h2,h3,h4,λx hx=>?_,h5⟩;have all:∀{l:List (List eA × V)} {m:List (List eA × Addr × Value)},KT H l m->∀x∈m,(tupleKind (dQ P w)).is h x.1 x.2.1:=by
  intro l m q
  induction q with
  | nil=>intro x hx;exact nomatch hx
  | @cons p q ps qs hq t ih =>
   intro x hx;rcases aV.mp hx with e | hx
   ·subst e;exact nJ ok (by rw [<-hq.1];exact hq.2.1)
   ·exact ih x hx
 exact all r x hx
theorem IF{kvs:List (List eA × V)}(ok:nU P w H h)(e:H a=some (.dT kvs)):kvs.length<=sizeLine/\(a == sysModules)=false /\
  ∃xs,KT H kvs xs/\h.DictOfH (tupleKind (dQ P w)) a xs:=yZ ok (.inl e)
end
def lE(H:Hp)(a:Addr)(y:V)(r:Option V):Prop :=
 (∃kvs k,Rd H a (.dK kvs)/\y=kV k/\r=eJ kvs k)\/∃kvs k b,Rd H a (.dT kvs)/\y=.ref b/\H b=some (.tup (k.map kV))/\r=eJ kvs k
def BQ(H:Hp)(a:Addr)(y v:V)(H':Hp):Prop :=
 (∃kvs k,H a=some (.dK kvs)/\y=kV k/\kvs.length<sizeLine/\H'=upd H a (.dK (iC kvs k v))) \/
 ∃kvs k b,H a=some (.dT kvs)/\y=.ref b/\H b=some (.tup (k.map kV))/\kvs.length<sizeLine/\H'=upd H a (.dT (iC kvs k v))
theorem lE.k{H:Hp}{a:Addr}{kvs:List (eA × V)}{k:eA}(e:H a=some (.dK kvs)):lE H a (kV k) (eJ kvs k):=.inl ⟨kvs,k,.inl e,rfl,rfl⟩
theorem lE.t{H:Hp}{a b:Addr}{kvs:List (List eA × V)}{k:List eA}(e:H a=some (.dT kvs))(eb:H b=some (.tup (k.map kV))):lE H a (.ref b) (eJ kvs k):=.inr ⟨kvs,k,b,.inl e,rfl,eb,rfl⟩
theorem BQ.k{H:Hp}{a:Addr}{kvs:List (eA × V)}{k:eA}{v:V}(e:H a=some (.dK kvs))(hl:kvs.length<sizeLine):BQ H a (kV k) v (upd H a (.dK (iC kvs k v))):=.inl ⟨kvs,k,e,rfl,hl,rfl⟩
theorem BQ.t{H:Hp}{a b:Addr}{kvs:List (List eA × V)}{k:List eA}{v:V}(e:H a=some (.dT kvs))(eb:H b=some (.tup (k.map kV)))(hl:kvs.length<sizeLine) :
  BQ H a (.ref b) v (upd H a (.dT (iC kvs k v))):=.inr ⟨kvs,k,b,e,rfl,eb,hl,rfl⟩
section
variable{X:Cx}{pins:List (Addr × Obj)}{σ:St}{H:Hp}{s:Shared}{a:Addr}{y v:V}{u r:Value}{o:Option V}{A:Around}{E:Value->Shared->Prop}
theorem bW.big(I:bW X pins σ H s):sysModules<s.heap.objs.size:=by
 have h:mainGlobals<s.heap.objs.size:=(I.mod.glob.keeps I.bk).lt;exact Nat.lt_trans Dd h
theorem LA{Q:Value->Shared->Prop}(hu:A.units+1<cLine)(I:bW X pins σ H s)(g:lE H a y (some v))(ry:dF y u)(h:∀w' s',bW X pins σ H s'->dF v w'->Q w' s') :
  wpAny (model X.prog X.w) A (getItem (.ref a) u) Q E s:=by
 rcases g with ⟨kvs,k,e,ey,l⟩ | ⟨kvs,k,b,e,ey,eb,l⟩
 ·subst ey;obtain ⟨z,hd,vs,rel,dd⟩:=zD I.hok e;obtain ⟨w',hw,rw'⟩:=uI.some_of (v:=v) (o:=valueAt vs k) (by rw [l];exact rel.val k);exact wpAny_getItem_of (yR ry) dd.mapOf hw (h w' _ (I.tok _) rw')
 ·subst ey;cases (show u=Value.ref b from ry);obtain ⟨z,hd,xs,rel,dd⟩:=yZ I.hok e;obtain ⟨w',hw,rw'⟩:=uI.some_of (v:=v) (o:=(atKey xs k).map (·.2)) (by rw [l];exact rel.val k);obtain ⟨p,hp,hp2⟩:=dH.mp hw;refine wpAny_getItem_heap (tupleKind_room_in1 hu) (nJ I.hok eb) dd hp ?_;rw [hp2];exact h w' _ (I.tok _) rw'
theorem aEh{Q:Value->Shared->Prop}(hu:A.units+1<cLine)(I:bW X pins σ H s)(g:lE H a y o)(ry:dF y u)(h:∀s',bW X pins σ H s'->Q (.bool o.isSome) s') :
  wpAny (model X.prog X.w) A (compareOp .In u (.ref a)) Q E s:=by
 rcases g with ⟨kvs,k,e,ey,l⟩ | ⟨kvs,k,b,e,ey,eb,l⟩
 ·subst ey;obtain ⟨z,hd,vs,rel,dd⟩:=zD I.hok e;refine wpAny_in_of (yR ry) hd dd.mapOf ?_;rw [<-(rel.val k).isSome_eq,<-l];exact h _ (I.tok _)
 ·subst ey;cases (show u=Value.ref b from ry);obtain ⟨z,hd,xs,rel,dd⟩:=yZ I.hok e;refine wpAny_in_heap (tupleKind_room_in1 hu) (nJ I.hok eb) hd dd ?_;have q:=(rel.val k).isSome_eq;rw [Option.isSome_map] at q;rw [<-q,<-l];exact h _ (I.tok _)
theorem pW{h':Heap}{t':Nat}{ob:HO}(I:bW X pins σ H s)(mu:Mut (H a))(hs:Heap.SameBut a s.heap h')(he:∃q,h'.get? a=some q)(new:dM X.prog X.w (upd H a ob) h' a ob) :
  bW X pins σ (upd H a ob) { s with heap:=h',toks:=t' } :=
 I.write (x:=a) (e:=a) mu (.inl rfl) (λb q hb z=>(hs.2 b hb).trans z) he new
theorem QC{P:Program}{w:World}{H':Hp}{h':Heap}{kvs:List (eA × V)}{vs:List (eA × Value)}(z:kvs.length<=sizeLine)(hd:(a == sysModules)=false)(rel:KV kvs vs)(dd:h'.DictOf (dQ P w) a vs) :
  dM P w H' h' a (.dK kvs):=⟨z,hd,vs,rel,dd⟩
theorem KZ{H':Hp}{Q:Unit->Shared->Prop}(hu:A.units+1<cLine)(I:bW X pins σ H s)(g:BQ H a y v H')(ry:dF y u)(rv:dF v r)(h:∀s',bW X pins σ H' s'->Q () s') :
  wpAny (model X.prog X.w) A (setItem (.ref a) u r) Q E s:=by
 rcases g with ⟨kvs,k,e,ey,l,eH⟩ | ⟨kvs,k,b,e,ey,eb,l,eH⟩
 ·subst ey eH;obtain ⟨z,hd,vs,rel,dd⟩:=YK I.hok e;have hz:vs.length<=sizeLine:=by rw [<-rel.length];exact z
  have hl:(iC kvs k v).length<=sizeLine:=by have:=iU kvs k v;omega
  refine wpAny_setItem_pairs (hsz:=hz) (yR ry) dd λh' dd' hs=>h _ ?_;have he:∃q,h'.get? a=some q:=let ⟨q,_,_,hq,_⟩:=dd';⟨q,hq⟩;exact pW I (by rw [e];exact True.intro) hs he (QC hl hd (rel.put k rv) dd')
 ·subst ey eH;cases (show u=Value.ref b from ry);obtain ⟨z,hd,xs,rel,dd⟩:=IF I.hok e;have hz:xs.length<=sizeLine:=by rw [<-Paired.length rel];exact z
  have hl:(iC kvs k v).length<=sizeLine:=by have:=iU kvs k v;omega
  refine wpAny_setItem_heap (hsz:=hz) (tupleKind_room_in1 hu) (nJ I.hok eb) dd λh' dd' hs=>h _ ?_;obtain ⟨q,es,ep,hq,h2,h3,h4,_,h5⟩:=dd';refine pW I (by rw [e];exact True.intro) hs ⟨q,hq⟩ ⟨hl,hd,_,(rel.put k eb rv).keeps λc ys ec=>?_,q,es,ep,hq,h2,h3,h4,h5⟩;rw [bP (mE ec e (λz=>nomatch z))];exact ec
end
section
variable{X:Cx}{pins:List (Addr × Obj)}{σ:St}{H:Hp}{s:Shared}{a:Addr}{kvs:List (eA × V)}{k:eA}{u:Value}{A:Around}{E:Value->Shared->Prop}
end
def aBv(i:Expr):Prop:=∀ov iv,subscripted i false ov iv=operate [ov,iv] (getItem ov iv)
theorem ST{prog:Program}{w:World}{A:Around}{E:Value->Shared->Prop}{s:Shared}{env:Env}{value slice:Expr}{pos:Pos}{T id:String}{Q:Value->Shared->Prop}
  (hl:typeLookup (.type T) "__getitem__" = pure (some (.builtin id))) (hs:aBv slice)
  (h:wpAny (model prog w) A (eval value env) (λo s₁=>wpAny (model prog w) A (eval slice env) (λi s₂=>s₂.TypeIs o T/\wpAny (model prog w) A (getItem o i) Q E s₂) E s₁) E s) :
  wpAny (model prog w) A (eval (.Subscript value slice pos) env) Q E s:=by
 refine Subscript_ (wpAny_mono h (λo s₁ h₁=>wpAny_mono h₁ (λi s₂ h₂=>?_) λ_ _ x=>x) λ_ _ x=>x);obtain ⟨hT,h₂⟩:=h₂;unfold subscriptTail;refine wpAny_bind ?_;rw [getitemInPython_of_ne hT.not_modules];refine wpAny_bind (wpAny_specialOf hT hl ?_);have fin:wpAny (model prog w) A (subscripted slice false o i) (λr s₃=>wpAny (model prog w) A (letTemporaryGo value o r >>= λ_=>pure r) Q E s₃) E s₂:=by
  rw [hs o i];exact wpAny_operating (wpAny_mono h₂ (λr s₃ h₃=>wpAny_bind (wpAny_letTemporaryGo (wpAny_pure h₃))) λ_ _ x=>x)
 first
  | exact wpAny_pure (wpAny_bind fin)
  | exact wpAny_bind (wpAny_pure (wpAny_bind fin))
  | exact wpAny_bind fin
theorem DQ{X:Cx}{pins:List (Addr × Obj)}{σ:St}{H:Hp}{s:Shared}{a:Addr}{y:V}{o:Option V}(I:bW X pins σ H s)(g:lE H a y o):s.TypeIs (.ref a) "dict" := by
 rcases g with ⟨kvs,k,e,_,_⟩ | ⟨kvs,k,b,e,_,_,_⟩
 ·obtain ⟨_,_,vs,_,dd⟩:=zD I.hok e;exact dd.typeIs
 ·obtain ⟨_,_,xs,_,dd⟩:=yZ I.hok e;exact dd.typeIs
def aBQ(td ty:TE):TE:=λσ H Q=>td σ H λx H1=>ty σ H1 λy H2=>∃a v,x=.ref a/\lE H2 a y (some v)/\Q v H2
def aBW(td ty tv:TE):TS:=λD σ H=>tv σ H λv H1=>td σ H1 λx H2=>ty σ H2 λy H3=>∃a H4,x=.ref a/\BQ H3 a y v H4/\D.nx σ H4
section
variable{X:Cx}{o i e value:Expr}{pos pos' tpos:Pos}{td ty tv:TE}
theorem VA(hu:X.A.units+1<cLine)(ho:PE X o td)(hi:PE X i ty)(hs:aBv i):PE X (.Subscript o i pos) (aBQ td ty):=by
 intro pins s σ H Q I h;refine ST PySem.F.slot_dict_getitem.lookup hs (thn (ho pins s σ H _ I h) λu s1 ⟨x,H1,I1,rx,q1⟩=>thn (hi pins s1 σ H1 _ I1 q1) λiv s2 ⟨y,H2,I2,ry,a,v,ex,g,q2⟩=>?_);subst ex;obtain rfl:u=Value.ref a:=rx;exact ⟨DQ I2 g,LA hu I2 g ry λw' s3 I3 rw'=>⟨v,H2,I3,rw',q2⟩⟩
theorem UT(hu:X.A.units+1<cLine)(ho:PE X o td)(hi:PE X i ty)(hv:PE X value tv)(hs:swapsWith value (some (.Subscript o i pos')) pos.line X.env=pure false) :
  PS X (.Assign [.Subscript o i pos'] value pos) (aBW td ty tv):=by
 intro pins s σ H D I h;refine wpAny_Assign_Subscript (thn (hv pins s σ H _ I h) λr s1 ⟨v,H1,I1,rv,q1⟩=>thn (ho pins s1 σ H1 _ I1 q1) λu s2 ⟨x,H2,I2,rx,q2⟩=>thn (hi pins s2 σ H2 _ I2 q2) λiv s3 ⟨y,H3,I3,ry,a,H4,ex,g,q3⟩=>?_) hs;subst ex;obtain rfl:u=Value.ref a:=rx;exact KZ hu I3 g ry rv λs4 I4=>⟨σ,H4,I4,q3⟩
end
theorem QD{P:Program}{w:World}{H:Hp}(h:Heap)(hb:sysModules<h.objs.size):dM P w H (h.push { cls:=.type "dict",data:=.dict #[] }) h.objs.size (.dK []) :=
 ⟨cK _,beq_eq_false_iff_ne.mpr (Ne.symm (bS hb)),[],.nil,Heap.DictOf.new h⟩
theorem sB{P:Program}{w:World}{H:Hp}(h:Heap)(hb:sysModules<h.objs.size):dM P w H (h.push { cls:=.type "dict",data:=.dict #[] }) h.objs.size (.dT []) :=
 ⟨cK _,beq_eq_false_iff_ne.mpr (Ne.symm (bS hb)),[],.nil,_,#[],0,aP _ rfl,⟨rfl,rfl,rfl⟩,rfl,rfl,List.nodup_nil⟩
def MZ:TE:=λ_ H Q=>∀p,H p=none->Q (.ref p) (upd H p (.dT []))
section
variable{X:Cx}{pos:Pos}
theorem pe_dnewT:PE X (.Dict [] [] pos) MZ:=λpins s σ H Q I h =>
 wpAny_Dict_empty ⟨.ref s.heap.objs.size,_,I.laid (a:=s.heap.objs.size) (o:=.dT []) (t':=s.toks) (λ_ _ q=>aB _ q) (aM _) (sB s.heap I.big),rfl,h _ (I.hok.fresh (aM _))⟩
end
def EW:List (TE × TE)->St->Hp->(List (V × V)->Hp->Prop)->Prop
 | [],_,H,Q=>Q [] H
 | (tk,tv)::r,σ,H,Q=>tk σ H λx H1=>tv σ H1 λy H2=>EW r σ H2 λps H3=>Q ((x,y)::ps) H3
abbrev VV:List (V × V)->List (Value × Value)->Prop:=Paired λp q=>dF p.1 q.1/\dF p.2 q.2
def PPs(X:Cx)(pos:Pos)(keys:List (Option Expr))(values:List Expr)(trs:List (TE × TE)):Prop :=
 ∀(pins:List (Addr × Obj)) (s:Shared) (σ:St) (H:Hp) (Q:List (V × V)->Hp->Prop),bW X pins σ H s->EW trs σ H Q ->
  wpAny (model X.prog X.w) X.A (evalPairs (pairTrees keys values X.env pos)) (λvs s'=>∃ps H',bW X pins σ H' s'/\VV ps vs/\Q ps H') X.xe s
theorem pps_nil{X:Cx}{pos:Pos}:PPs X pos [] [] []:=λpins s σ H Q I h=>pairTrees_nil_walk ⟨[],H,I,.nil,h⟩
theorem OH{X:Cx}{pos:Pos}{k v:Expr}{ks:List (Option Expr)}{vs:List Expr}{tk tv:TE}{trs:List (TE × TE)}(hk:PE X k tk)(hv:PE X v tv)(hr:PPs X pos ks vs trs) :
  PPs X pos (some k::ks) (v::vs) ((tk,tv)::trs):=λpins s σ H Q I h =>
 pairTrees_cons_walk (thn (hk pins s σ H _ I h) λu s1 ⟨x,H1,I1,rx,q1⟩=>thn (hv pins s1 σ H1 _ I1 q1) λw2 s2 ⟨y,H2,I2,ry,q2⟩ =>
  thn (hr pins s2 σ H2 _ I2 q2) λws s3 ⟨ps,H3,I3,rel,q3⟩=>⟨(x,y)::ps,H3,I3,.cons ⟨rx,ry⟩ rel,q3⟩)
def wL(kvs more:List (eA × V)):List (eA × V):=more.foldl (λacc kv=>iC acc kv.1 kv.2) kvs
theorem KV.merge:∀{more:List (eA × V)}{rs:List (eA × Value)}{kvs:List (eA × V)}{vs:List (eA × Value)},KV more rs->KV kvs vs->KV (wL kvs more) (merged vs rs):=by
 intro more rs kvs vs r;unfold KV at r
 induction r generalizing kvs vs with
 | nil=>intro q;exact q
 | @cons p q ps qs h t ih =>
  intro r0;have e:KV (iC kvs p.1 p.2) (stored vs q.1 q.2):=by
   have:=r0.put p.1 h.2;rw [<-h.1];exact this
  exact ih e
theorem qI:∀(more kvs:List (eA × V)),(wL kvs more).length<=kvs.length+more.length
 | [],kvs=>by show kvs.length<=kvs.length+0;omega
 | p::r,kvs=>by
  have h1:=qI r (iC kvs p.1 p.2);have h2:=iU kvs p.1 p.2;show (wL (iC kvs p.1 p.2) r).length<=_;rw [bL];omega
theorem xA{P:Program}{w:World}:∀{kvs:List (eA × V)}{ws:List (Value × Value)},VV (kvs.map λkv=>(kV kv.1,kv.2)) ws->∃rs,Carries (dQ P w) ws rs/\KV kvs rs
 | [],_,r=>by rw [List.map_nil] at r;cases r;exact ⟨[],True.intro,.nil⟩
 | p::kvs,_,r=>by
  rw [aZ] at r;cases r with
  | @cons a b as bs h t =>
   obtain ⟨rs,c,q⟩:=xA (P:=P) (w:=w) t;obtain ⟨b1,b2⟩:=b;exact ⟨(p.1,b2)::rs,⟨yR h.1,rfl,c⟩,.cons ⟨rfl,h.2⟩ q⟩
def XQ(trs:List (TE × TE)):TE:=λσ H Q=>∀p,H p=none->EW trs σ (upd H p (.dK [])) λps H2=>H2 p=some (.dK [])/\∃kvs:List (eA × V),ps=kvs.map (λkv=>(kV kv.1,kv.2))/\kvs.length<=15/\Q (.ref p) (upd H2 p (.dK (wL [] kvs)))
theorem UZ{X:Cx}{pos:Pos}{keys:List (Option Expr)}{values:List Expr}{trs:List (TE × TE)}(h:PPs X pos keys values trs)(hall:keys.all (·.isSome)=true)(hl:keys.length=values.length)(h0:keys≠[])
  (h15:keys.length<=15):PE X (.Dict keys values pos) (XQ trs):=by
 intro pins s σ H Q I q;have hn:=I.hok.fresh (aM s.heap.objs.size);have I1:=I.laid (a:=s.heap.objs.size) (o:=.dK []) (h':=s.heap.push { cls:=.type "dict",data:=.dict #[] }) (t':=s.toks) (λ_ _ q=>aB _ q) (aM _) (QD s.heap I.big);refine wpAny_Dict_walk (knd:=dQ X.prog X.w) hall hl h0 h15 (thn (h pins _ σ _ _ I1 (q _ hn)) λws s2 ⟨ps,H2,I2,rel,e,kvs,ep,lk,q2⟩=>?_);subst ep;obtain ⟨rs,c,rk⟩:=xA (P:=X.prog) (w:=X.w) rel;obtain ⟨z,hd,vs0,r0,dd⟩:=YK I2.hok e;cases r0;refine ⟨rs,c,dd,λh' dd' hs=>⟨.ref s.heap.objs.size,_,?_,rfl,q2⟩⟩;have hz:(wL [] kvs).length<=sizeLine:=by
  have h1:=qI kvs [];rw [List.length_nil] at h1;rw [sizeLine_eq];omega
 have he:∃q,h'.get? s.heap.objs.size=some q:=let ⟨q,_,_,hq,_⟩:=dd';⟨q,hq⟩;exact pW I2 (by rw [e];exact True.intro) hs he (QC hz hd (rk.merge .nil) dd')
structure M2(X:Cx)(o:Expr)(m:Str)(apos:Pos)(e f:Expr)(cpos:Pos):Prop where
 base:attributeBase o m X.env (eval o X.env)=eval o X.env
 few:((backTo cpos (starEach [e,f] X.env)).all (λx=>!x.1)&&(backToKw cpos (keywordEach [] X.env)).all (λx=>x.1.isSome)
  && decide (([e,f]:List Expr).length+([]:List Keyword).length+(if ([]:List Keyword).isEmpty then 0 else 1)<30))=true
 line:(apos.endLine == cpos.line)=true
 trees:backTo cpos (starEach [e,f] X.env)=[(false,eval e X.env),(false,eval f X.env)]
def IsD(H:Hp)(a:Addr):Prop:=(∃kvs,Rd H a (.dK kvs))\/∃kvs,Rd H a (.dT kvs)
theorem aA4{X:Cx}{pins:List (Addr × Obj)}{σ:St}{H:Hp}{s:Shared}{a:Addr}(I:bW X pins σ H s)(d:IsD H a) :
  s.TypeIs (.ref a) "dict" /\ (∀b,Value.ref a=.ref b->∃ob,s.heap.get? b=some ob/\ob.dict=none)/\(a == sysModules)=false:=by
 rcases d with ⟨kvs,e⟩ | ⟨kvs,e⟩
 ·obtain ⟨_,hd,vs,_,dd⟩:=zD I.hok e;refine ⟨dd.typeIs,λb q=>?_,hd⟩;cases q;obtain ⟨ob,_,_,h1,h2,_⟩:=dd;exact ⟨ob,h1,h2.2.1⟩
 ·obtain ⟨_,hd,xs,_,dd⟩:=yZ I.hok e;refine ⟨dd.typeIs,λb q=>?_,hd⟩;cases q;obtain ⟨ob,_,_,h1,h2,_⟩:=dd;exact ⟨ob,h1,h2.2.1⟩
section
variable{X:Cx}{pins:List (Addr × Obj)}{σ:St}{H:Hp}{s:Shared}{a:Addr}{y d:V}{u r:Value}{o:Option V}{A:Around}{E:Value->Shared->Prop}
theorem aBg{Q:Value->Shared->Prop}(hu:A.units+1<cLine)(I:bW X pins σ H s)(g:lE H a y o)(ry:dF y u)(rd:dF d r)(h:∀w' s',bW X pins σ H s'->dF (o.getD d) w'->Q w' s') :
  wpAny (model X.prog X.w) A (call (.builtin "dict.get") [.ref a,u,r]) Q E s:=by
 rcases g with ⟨kvs,k,e,ey,l⟩ | ⟨kvs,k,b,e,ey,eb,l⟩
 ·subst ey;obtain ⟨z,hd,vs,rel,dd⟩:=zD I.hok e;refine call_meetsIn PySem.F.slot_dict_get dd.typeIs PySem.F.entry_dict_get (PySem.F.args_dict_get_3 _ _ _) (meets_dict_get_default (dQ X.prog X.w) a (yR ry) hd r) ⟨_,dd.mapOf,h _ _ (I.tok _) ?_⟩;rw [l];exact (rel.val k).getD rd
 ·subst ey;cases (show u=Value.ref b from ry);obtain ⟨z,hd,xs,rel,dd⟩:=yZ I.hok e;refine call_meetsIn PySem.F.slot_dict_get dd.typeIs PySem.F.entry_dict_get (PySem.F.args_dict_get_3 _ _ _) (meetsH_dict_get_default (tupleKind (dQ X.prog X.w)) a b hd r) ⟨tupleKind_room_in1 hu,k,xs,nJ I.hok eb,dd,h _ _ (I.tok _) ?_⟩;rw [l];exact (rel.val k).getD rd
end
def NA(td ty tx:TE):TE:=λσ H Q=>td σ H λx H1=>∃a,x=.ref a/\IsD H1 a/\ty σ H1 λy H2=>tx σ H2 λz H3=>∃o,lE H3 a y o/\Q (o.getD z) H3
section
variable{X:Cx}{o e f:Expr}{apos cpos:Pos}{td ty tx:TE}
theorem OM(hu:X.A.units+1<cLine)(ho:PE X o td)(he:PE X e ty)(hf:PE X f tx)(m:M2 X o "get" apos e f cpos):PE X (.Call (.Attribute o "get" apos) [e,f] [] cpos) (NA td ty tx):=by
 intro pins s σ H Q I h;refine wpAny_Call_method m.base m.few m.line PySem.F.plainAttrs_dict PySem.F.slot_dict_get PySem.F.type_dict_get (thn (ho pins s σ H _ I h) λu s1 ⟨x,H1,I1,rx,a,ex,d,q1⟩=>?_);subst ex;obtain rfl:u=Value.ref a:=rx;obtain ⟨t1,t2,_⟩:=aA4 I1 d;refine ⟨t1,t2,?_⟩;rw [m.trees];refine Calls.callWith_builtin rfl (Calls.evalArgs_plain (Calls.spliced_cons (thn (he pins s1 σ H1 _ I1 q1) λiv s2 ⟨y,H2,I2,ry,q2⟩ =>
  Calls.spliced_cons (thn (hf pins s2 σ H2 _ I2 q2) λfv s3 ⟨z,H3,I3,rz,ov,g,q3⟩=>Calls.spliced_nil ?_))))
 exact aBg hu I3 g ry rz λw' s4 I4 rw'=>⟨_,H3,I4,rw',q3⟩
end
section
variable{X:Cx}{pins:List (Addr × Obj)}{σ:St}{H:Hp}{s:Shared}{a:Addr}{kvs:List (eA × V)}{A:Around}{E:Value->Shared->Prop}
end
section
variable{X:Cx}{pins:List (Addr × Obj)}{σ:St}{H:Hp}{s:Shared}{a:Addr}{y:V}{u:Value}{A:Around}{E:Value->Shared->Prop}
end
section
variable{κ:Type}[DecidableEq κ]
theorem BU{kvs:List (κ × V)}{k:κ}(h:eJ kvs k=none):¬k∈kvs.map (·.1):=by
 intro m;obtain ⟨p,hp,e⟩:=aK.mp m;have q:(kvs.any λkv=>decide (kv.1=k))=true:=List.any_eq_true.mpr ⟨p,hp,cE e⟩;rw [jY,h] at q;exact absurd q (by simp)
theorem AA{kvs:List (κ × V)}{k:κ}{v:V}(h:eJ kvs k=some v):k∈kvs.map (·.1):=by
 have q:(kvs.any λkv=>decide (kv.1=k))=true:=by
  rw [jY,h]
  all_goals rfl
 obtain ⟨p,hp,e⟩:=List.any_eq_true.mp q;exact aK.mpr ⟨p,hp,of_decide_eq_true e⟩
theorem HU:∀{l:List κ}{k:κ},l.Nodup->¬k∈l->(l++[k]).Nodup
 | [],k,_,_=>by simp
 | a::r,k,h,hk=>by
  obtain ⟨h1,h2⟩:=List.nodup_cons.mp h;show (a::(r++[k])).Nodup;refine List.nodup_cons.mpr ⟨λm=>?_,HU h2 λm=>hk (aV.mpr (Or.inr m))⟩;rcases cM.mp m with q | q
  ·exact h1 q
  ·exact hk (aV.mpr (Or.inl (bM.mp q).symm))
theorem VI{kvs:List (κ × V)}{k:κ}(v:V)(hn:(kvs.map (·.1)).Nodup)(h:eJ kvs k=none):((iC kvs k v).map (·.1)).Nodup:=by
 rw [oV v h,bF];exact HU hn (BU h)
end
abbrev bits(i:Int):Nat:=Builtin.Int.intBits i
def RP(i j:Int):Prop:=0<j/\bits j<=9000
theorem DE{j:Int}{n:Nat}(h:bits j<=n)(hn:0<n):j.natAbs.log2<n:=by
 unfold bits Builtin.Int.intBits at h;by_cases hj:(j == 0)=true
 ·have:j=0:=by simpa using hj
  subst this;exact bC (by decide +kernel:(0:Int).natAbs.log2<=0) hn
 ·rw [if_neg hj] at h;omega
section
variable{X:Cx}
theorem fK:nZ X (binaryOp .FloorDiv) (rI RP λi j=>.int (i/j)):=opI λi j _ _ _ _ _ hc q=>by
 refine floordiv_int (by have:=hc.1;omega) ?_ (.inl (PyProof.noPylong_of_log2 (DE hc.2 Dd)));rw [Int.fdiv_eq_ediv_of_nonneg i (by have:=hc.1;omega)];exact q
theorem iH:nZ X (binaryOp .Mult) (rI IntMulOk λi j=>.int (i*j)):=opI λ_ _ _ _ _ _ _ hc q=>mul_int q hc
end
mutual
def bQ(H:Hp):PyData->V->Prop
 | .none,v=>v=.non
 | .bool b,v=>v=.bl b
 | .int i,v=>v=.int i
 | .str x,v=>v=.str x
 | .list ds,v=>∃a xs,v=.ref a/\H a=some (.lst xs)/\aX H ds xs
 | .tuple ds,v=>∃a xs,v=.ref a/\H a=some (.tup xs)/\aX H ds xs
 | .dict kvs,v=>kvs=[]/\∃a,v=.ref a/\H a=some (.dK [])
def aX(H:Hp):List PyData->List V->Prop
 | [],vs=>vs=[]
 | d::ds,vs=>∃x xs,vs=x::xs/\bQ H d x/\aX H ds xs
end
mutual
theorem bQ.same{H H':Hp}(e:aW H H'):∀{d:PyData}{v:V},bQ H d v->bQ H' d v
 | .none,_,h=>h
 | .bool _,_,h=>h
 | .int _,_,h=>h
 | .str _,_,h=>h
 | .list ds,_,h=>by
  unfold bQ at h ⊢;obtain ⟨a,xs,rfl,h1,h2⟩:=h;exact ⟨a,xs,rfl,e _ _ h1,aX.same e h2⟩
 | .tuple ds,_,h=>by
  unfold bQ at h ⊢;obtain ⟨a,xs,rfl,h1,h2⟩:=h;exact ⟨a,xs,rfl,e _ _ h1,aX.same e h2⟩
 | .dict kvs,_,h=>by
  unfold bQ at h ⊢;obtain ⟨h0,a,rfl,h1⟩:=h;exact ⟨h0,a,rfl,e _ _ h1⟩
theorem aX.same{H H':Hp}(e:aW H H'):∀{ds:List PyData}{vs:List V},aX H ds vs->aX H' ds vs
 | [],_,h=>h
 | d::ds,_,h=>by
  unfold aX at h ⊢;obtain ⟨x,xs,rfl,h1,h2⟩:=h;exact ⟨x,xs,rfl,bQ.same e h1,aX.same e h2⟩
end
theorem bQ.tup{H:Hp}{a:Addr}{xs:List V}{ds:List PyData}(h:H a=some (.tup xs))(r:aX H ds xs):bQ H (.tuple ds) (.ref a):=by
 unfold bQ;exact ⟨a,xs,rfl,h,r⟩
theorem bQ.lst{H:Hp}{a:Addr}{xs:List V}{ds:List PyData}(h:H a=some (.lst xs))(r:aX H ds xs):bQ H (.list ds) (.ref a):=by
 unfold bQ;exact ⟨a,xs,rfl,h,r⟩
theorem bQ.int{H:Hp}(i:Int):bQ H (.int i) (.int i):=by unfold bQ;rfl
theorem bQ.str{H:Hp}(i:Str):bQ H (.str i) (.str i):=by unfold bQ;rfl
theorem aX.nil{H:Hp}:aX H [] []:=by unfold aX;rfl
theorem aX.cons{H:Hp}{d:PyData}{ds:List PyData}{x:V}{xs:List V}(h:bQ H d x)(hs:aX H ds xs):aX H (d::ds) (x::xs):=by
 unfold aX;exact ⟨x,xs,rfl,h,hs⟩
section
variable{X:Cx}{pins:List (Addr × Obj)}{σ:St}{H:Hp}{s:Shared}
mutual
theorem bQ.reads(I:bW X pins σ H s):∀{d:PyData}{v:V}{u:Value},bQ H d v->dF v u->∃as,Reads s.heap u d as
 | .none,_,u,h,r=>by
  cases (show _=V.non from h);cases (show u=Value.none from r);exact ⟨_,.none⟩
 | .bool b,_,u,h,r=>by
  cases (show _=V.bl b from h);cases (show u=Value.bool b from r);exact ⟨_,.bool b⟩
 | .int b,_,u,h,r=>by
  cases (show _=V.int b from h);obtain ⟨t,q⟩:=(show ∃t,u=Value.int b t from r);cases q;exact ⟨_,.int b t⟩
 | .str b,_,u,h,r=>by
  cases (show _=V.str b from h);obtain ⟨t,q⟩:=(show ∃t,u=Value.str b t from r);cases q;exact ⟨_,.str b t⟩
 | .list ds,v,u,h,r=>by
  unfold bQ at h;obtain ⟨a,xs,rfl,h1,h2⟩:=h;cases (show u=Value.ref a from r);obtain ⟨_,its,n,r',e⟩:=(show dM X.prog X.w H s.heap a (.lst xs) from I.hok a _ h1);obtain ⟨as,q⟩:=aX.reads I h2 r';exact ⟨_,.list e rfl rfl (by simpa using q)⟩
 | .tuple ds,v,u,h,r=>by
  unfold bQ at h;obtain ⟨a,xs,rfl,h1,h2⟩:=h;cases (show u=Value.ref a from r);obtain ⟨_,its,r',o,e,hc,n,hd⟩:=(show dM X.prog X.w H s.heap a (.tup xs) from I.hok a _ h1);obtain ⟨as,q⟩:=aX.reads I h2 r';exact ⟨_,.tuple e hc hd (by simpa using q)⟩
 | .dict kvs,v,u,h,r=>by
  unfold bQ at h;obtain ⟨rfl,a,rfl,h1⟩:=h;cases (show u=Value.ref a from r);obtain ⟨_,_,vs,kv,o,es,ep,e,hx,hd,_,hes,_⟩:=(show dM X.prog X.w H s.heap a (.dK []) from I.hok a _ h1);cases kv;have he:es.toList=[]:=by
   cases q:es.toList with
   | nil=>rfl
   | cons y ys=>rw [q] at hes;cases hes
  exact ⟨_,.dict e hx.1 hd (by rw [he];exact .nil) (by rw [he];exact .nil)⟩
theorem aX.reads(I:bW X pins σ H s):∀{ds:List PyData}{vs:List V}{us:List Value},aX H ds vs->cV vs us->∃as,ReadsAll s.heap us ds as
 | [],_,us,h,r=>by
  cases (show _=[] from h);cases r;exact ⟨_,.nil⟩
 | d::ds,_,us,h,r=>by
  unfold aX at h;obtain ⟨x,xs,rfl,h1,h2⟩:=h;cases r with
  | cons r1 r2 =>
   obtain ⟨as,q1⟩:=bQ.reads I h1 r1;obtain ⟨bs,q2⟩:=aX.reads I h2 r2;exact ⟨_,.cons q1 q2⟩
end
end
section
variable{X:Cx}
end
def tyD:PyData->String
 | .none => "NoneType"
 | .bool _ => "bool"
 | .int _ => "int"
 | .str _ => "str"
 | .list _ => "list"
 | .tuple _ => "tuple"
 | .dict _ => "dict"
theorem bQ.ty{K:PySem.W.Frag}{H:Hp}{d:PyData}{v:V}(h:bQ H d v):uH K H v (.type (tyD d)):=by
 cases d with
 | none=>cases (show v=V.non from h);exact .non
 | bool b=>cases (show v=V.bl b from h);exact .bl b
 | int b=>cases (show v=V.int b from h);exact .int b
 | str b=>cases (show v=V.str b from h);exact .str b
 | list ds=>unfold bQ at h;obtain ⟨a,xs,rfl,h1,h2⟩:=h;exact .lst h1
 | tuple ds=>unfold bQ at h;obtain ⟨a,xs,rfl,h1,h2⟩:=h;exact .tup h1
 | dict ds=>unfold bQ at h;obtain ⟨_,a,rfl,h1⟩:=h;exact .dK h1
def isD(T:String)(d:PyData):Bool:=tyD d == T || (T == "int" && tyD d == "bool")
theorem aAW : ∀ T ∈ ["int", "bool", "tuple", "str", "list", "dict"], ∀ S ∈ ["NoneType", "bool", "int", "str", "list", "tuple", "dict"],
      PySem.W.kitOne [] (.type S) (.type T)=some (S == T || (T == "int" && S == "bool")):=Kk
theorem VR(K:PySem.W.Frag)(S T:String):PySem.W.kitOne K (.type S) (.type T)=PySem.W.kitOne [] (.type S) (.type T):=rfl
theorem YC(K:PySem.W.Frag)(d:PyData)(T:String)(hT:T = "int" \/ T = "bool" \/ T = "tuple" \/ T = "str" \/ T = "list" \/ T = "dict"):PySem.W.kitOne K (.type (tyD d)) (.type T)=some (isD T d):=by
 rw [VR];refine aAW T ?_ (tyD d) ?_
 ·rcases hT with rfl | rfl | rfl | rfl | rfl | rfl <;> decide
 ·cases d <;> simp [tyD]
section
variable{X:Cx}
theorem EA:fO X (.builtin "isinstance") (λxs H Q=>∃x d T,xs=[x,.ty T]/\bQ H d x/\(T = "int" \/ T = "bool" \/ T = "tuple" \/ T = "str" \/ T = "list" \/ T = "dict")/\Q (.bl (isD T d)) H):=by
 intro pins s σ H xs us Q I r h;obtain ⟨x,d,T,rfl,hr,hT,q⟩:=h;obtain ⟨u,w',rfl,r1,r2⟩:=BT r;cases (show w'=Value.type T from r2);exact KQ I r1 hr.ty (YC _ d T hT) λtk=>⟨.bl _,H,I.tok _,rfl,q⟩
end
structure eF(CX:MB)(P:Program)(w:World)(K:PySem.W.Frag)(mg:Str->Option Value)(base:Heap)(k:Nat)(x:Str)(ps:List Str)(sp:Sp):Prop where
 ex:∃(f:Addr) (fd:FuncData),dA P w K mg base CX k f fd ps sp/\mg x=some (.ref f)/\PySem.W.keepIn K (.ref f)=true/\sN K fd ps []
section
variable{X:Cx}{k:Nat}{ps:List Str}{sp:Sp}{x:Str}{p pos:Pos}{e:Expr}{es:List Expr}{t:TA}
theorem aCd(F:eF cR X.prog X.w X.K X.mg X.base k x ps sp)(hr:iF k X.A)(ha:PA X (e::es) t)(hg:Gl X x:=by rfl)
  (hdb:(x == ("__debug__" : Str))=false:=by decide) (he:starEach (e::es) X.env=(false,eval e X.env)::starEach es X.env:=by rfl) (hpl:(backTo pos (starEach es X.env)).any (·.1)=false:=by rfl) :
  PE X (.Call (.Name x p) (e::es) [] pos) (ND sp [] E0 t):=by
 obtain ⟨f,fd,h1,h2,h3,h4⟩:=F.ex;exact VD h1 hr hg h2 h3 h4 .nil aCe ha hdb he hpl
end
section
variable{K:PySem.W.Frag}{H:Hp}{p:Addr}{xs:List V}{i:Int}{v:V}{Q:VK}
theorem ixL(h:H p=some (.lst xs))(e:EE xs i=some v)(q:Q v H):rIx K (.ref p) (.int i) H Q:=.inl ⟨p,xs,i,v,rfl,rfl,eZ.of h,e,q⟩
theorem lK(h:H p=some (.tup xs))(e:EE xs i=some v)(q:Q v H):rIx K (.ref p) (.int i) H Q:=.inr (.inl ⟨p,xs,i,v,rfl,rfl,dO.of h,e,q⟩)
theorem stL{u:V}{Q:Hp->Prop}{j:Nat}(h:H p=some (.lst xs))(e:GD xs.length i=some j)(q:Q (upd H p (.lst (xs.set j u)))):OD (.ref p) (.int i) u H Q:=⟨p,xs,i,j,rfl,rfl,h,e,q⟩
end
def eM(p:Addr)(H:Hp):Hp:=λb=>if b=p then none else H b
theorem eM.at{p b:Addr}{H:Hp}(h:b≠p):eM p H b=H b:=by unfold eM;rw [if_neg h]
theorem eM.self{p:Addr}{H:Hp}:eM p H p=none:=by unfold eM;rw [if_pos rfl]
theorem eM.same{p:Addr}{H:Hp}:aW (eM p H) H:=λb o h=>by
 unfold eM at h;by_cases e:b=p
 ·rw [if_pos e] at h;cases h
 ·rw [if_neg e] at h;exact h
theorem eM.ne{p b:Addr}{H:Hp}{o:HO}(h:eM p H b=some o):b≠p:=λe=>by
 subst e;rw [eM.self] at h;cases h
theorem eM.of{p b:Addr}{H:Hp}{o:HO}(n:b≠p)(h:H b=some o):eM p H b=some o:=by rw [eM.at n];exact h
theorem eM.upd_self{p:Addr}{H:Hp}{o:HO}:eM p (upd H p o)=eM p H:=by
 funext b
 by_cases e:b=p
 ·subst e;rw [eM.self,eM.self]
 ·rw [eM.at e,eM.at e,L2.bP e]
abbrev aS(p:Addr)(H H':Hp):Prop:=aW (eM p H) (eM p H')
theorem aW.but{p:Addr}{H H':Hp}(h:aW H H'):aS p H H':=λb o e=>by
 have n:=eM.ne e;exact eM.of n (h _ _ (eM.same _ _ e))
theorem aW.upd{H:Hp}{q:Addr}{o:HO}(h:H q=none):aW H (upd H q o):=λb u e=>by
 rw [L2.bP (cW e h)];exact e
theorem aS.self{p:Addr}{H:Hp}{o:HO}:aS p H (upd H p o):=by unfold aS;rw [eM.upd_self];exact aW.refl _
theorem aS.free{p q:Addr}{H H':Hp}(e:aS p H H')(hp:∃o,H' p=some o)(h:H' q=none):H q=none:=by
 cases k:H q with
 | none=>rfl
 | some o =>
  by_cases n:q=p
  ·subst n;obtain ⟨o',h'⟩:=hp;rw [h'] at h;cases h
  ·have:=eM.same _ _ (e q o (eM.of n k));rw [this] at h;cases h
section
variable{K:PySem.W.Frag}{H:Hp}{p:Addr}{xs:List V}{i:Int}{v:V}{Q:VK}
theorem stG{u:V}{Q:Hp->Prop}{j:Nat}(h:H p=some (.lst xs))(e:GD xs.length i=some j)(k:∀H',H' p=some (.lst (xs.set j u))->aS p H H'->Q H'):OD (.ref p) (.int i) u H Q :=
 stL h e (k _ bE aS.self)
theorem alT{Q:V->Hp->Prop}(hz:xs.length<=sizeLine)(k:∀q H',H q=none->H' q=some (.tup xs)->aW H H'->Q (.ref q) H'):xs.length<=sizeLine/\∀p,H p=none->Q (.ref p) (upd H p (.tup xs)) :=
 ⟨hz,λq hq=>k q _ hq bE (aW.upd hq)⟩
theorem alL{Q:V->Hp->Prop}(hz:xs.length<=sizeLine)(k:∀q H',H q=none->H' q=some (.lst xs)->aW H H'->Q (.ref q) H'):xs.length<=sizeLine/\∀p,H p=none->Q (.ref p) (upd H p (.lst xs)) :=
 ⟨hz,λq hq=>k q _ hq bE (aW.upd hq)⟩
theorem aS.at{p b:Addr}{H H':Hp}{o:HO}(s:aS p H H')(n:b≠p)(h:H b=some o):H' b=some o:=eM.same _ _ (s _ _ (eM.of n h))
end
theorem pO{n:Nat}(h:n<=64):n<=sizeLine:=bG h Dd
theorem GE{c A B:Prop}[Decidable c](h1:c->A)(h2:¬c->B):if decide c=true then A else B :=
 aCo (λh=>h1 (of_decide_eq_true h)) (λh=>h2 (λk=>h (cE k)))
theorem aCn{c A B:Prop}[Decidable c](h1:¬c->A)(h2:c->B):if (!decide c)=true then A else B :=
 aCo (λh=>h1 (λk=>by rw [cE k] at h;exact absurd h Dd)) (λh=>h2 (Decidable.of_not_not λk=>h (by rw [dC k];rfl)))
def oC(c:TT):TT:=λσ H Q=>∃Q':Bool->Hp->Prop,c σ H Q'/\∀b H1,Q' b H1->Q b H1
theorem PT.mono{X:Cx}{e:Expr}{c:TT}(h:PT X e c):PT X e (oC c):=λpins s σ H Q I ⟨Q',h1,h2⟩ =>
 thn (h pins s σ H Q' I h1) λb s' ⟨H',I',q⟩=>⟨H',I',h2 _ _ q⟩
theorem JZ{X:Cx}{pos:Pos}{c:Expr}{body:List Stmt}{tc:TT}{tb:TS}(hp:PassesOwn (model X.prog X.w) X.A X.env X.xe)(hc:PT X c tc)(hb:GP X body tb):PS X (.While c body [] pos) (AE (oC tc) tb) :=
 OF hp hc.mono hb
@[irreducible] def wG(K:PySem.W.Frag):List V->Hp->VK->Prop:=λxs H Q=>∃x n,xs=[x]/\aCL K x H n/\Q (.int n) H
@[irreducible] def UM:List V->Hp->VK->Prop:=λxs H Q=>∃i,xs=[.int i]/\Q (.int (i.natAbs:Int)) H
@[irreducible] def UF:List V->Hp->VK->Prop:=λxs H Q=>∃x d T,xs=[x,.ty T]/\bQ H d x/\(T = "int" \/ T = "bool" \/ T = "tuple" \/ T = "str" \/ T = "list" \/ T = "dict")/\Q (.bl (isD T d)) H
section
variable{X:Cx}{K:PySem.W.Frag}{H:Hp}{p:Addr}{xs:List V}{Q:VK}
theorem fT:fO X (.builtin "len") (wG X.K):=by unfold wG;exact QN
theorem aBj:fO X (.builtin "abs") UM:=by
 unfold UM;exact λpins s σ H xs us Q I r ⟨i,e,q⟩=>QO pins s σ H xs us Q I r ⟨i,e,by
 have:(if i<0 then -i else i)=(i.natAbs:Int):=by split <;> omega
 rw [this];exact q⟩
theorem QL:fO X (.builtin "isinstance") UF:=by unfold UF;exact EA
theorem rlL(h:H p=some (.lst xs))(q:Q (.int xs.length) H):wG K [V.ref p] H Q:=by unfold wG;exact ⟨_,_,rfl,.inl ⟨xs,eZ.of h,rfl⟩,q⟩
theorem RQ(h:H p=some (.tup xs))(q:Q (.int xs.length) H):wG K [V.ref p] H Q:=by unfold wG;exact ⟨_,_,rfl,.inr ⟨xs,dO.of h,rfl⟩,q⟩
theorem raI{i:Int}(q:Q (.int (i.natAbs:Int)) H):UM [V.int i] H Q:=by unfold UM;exact ⟨i,rfl,q⟩
theorem riI{x:V}{d:PyData}{T:String}(r:bQ H d x)(q:Q (.bl (isD T d)) H)(hT:(T = "int" \/ T = "bool" \/ T = "tuple" \/ T = "str" \/ T = "list" \/ T = "dict"):=by decide):UF [x,.ty T] H Q:=by unfold UF;exact ⟨x,d,T,rfl,r,hT,q⟩
end
theorem vF{c:TT}{tb:TS}{D:uM}{σ:St}{H:Hp}(W:Nat->St->Hp->Prop)(R:St->Hp->Prop)(m:Nat)(h0:W m σ H)
  (hs:∀m σ H,W m σ H->c σ H λb H1=>if b=true then tb { D with nx:=λσ' H'=>∃m',m' < m/\W m' σ' H',ct:=λσ' H'=>∃m',m' < m/\W m' σ' H',bk:=D.nx } σ H1 else R σ H1)
  (hd:∀σ H,R σ H->D.nx σ H):AE (oC c) tb D σ H :=
 ⟨W,⟨m,h0⟩,λm σ H hw=>⟨_,hs m σ H hw,λb H1 q=>by
  by_cases hb:b=true
  ·rw [if_pos hb] at q ⊢;exact ⟨_,λ_ _ h=>h,q⟩
  ·rw [if_neg hb] at q ⊢;exact hd _ _ q⟩⟩
def aBR(t:TS):TS:=λD σ H=>∃R:St->Hp->Prop,(∀σ' H',R σ' H'->D.nx σ' H')/\t { D with nx:=R } σ H
theorem aAv{X:Cx}{st:Stmt}{t:TS}(h:PS X st t):PS X st (aBR t):=λpins s σ H D I ⟨R,hR,q⟩ =>
 thn (h pins s σ H _ I q) λf s' z=>by
  cases f with
  | next=>obtain ⟨σ',H',I',r⟩:=z;exact ⟨σ',H',I',hR _ _ r⟩
  | brk=>exact z
  | cont=>exact z
  | ret u=>exact z
section
variable{es:List Expr}{env:Env}
theorem gA{a b c d}:starEach (.BinOp a b c d::es) env=(false,eval (.BinOp a b c d) env)::starEach es env:=by rw [starEach] <;> (intros;contradiction)
theorem eO{a b c}:starEach (.UnaryOp a b c::es) env=(false,eval (.UnaryOp a b c) env)::starEach es env:=by rw [starEach] <;> (intros;contradiction)
theorem dY{a b c d}:starEach (.ListComp a b c d::es) env=(false,eval (.ListComp a b c d) env)::starEach es env:=by rw [starEach] <;> (intros;contradiction)
theorem eP{a b c d}:starEach (.Compare a b c d::es) env=(false,eval (.Compare a b c d) env)::starEach es env:=by rw [starEach] <;> (intros;contradiction)
theorem fI{a b c d}:starEach (.Call a b c d::es) env=(false,eval (.Call a b c d) env)::starEach es env:=by rw [starEach] <;> (intros;contradiction)
theorem dZ{a b c}:starEach (.Constant a b c::es) env=(false,eval (.Constant a b c) env)::starEach es env:=by rw [starEach] <;> (intros;contradiction)
theorem cY{a b c}:starEach (.Subscript a b c::es) env=(false,eval (.Subscript a b c) env)::starEach es env:=by rw [starEach] <;> (intros;contradiction)
theorem fR{a b}:starEach (.Name a b::es) env=(false,eval (.Name a b) env)::starEach es env:=by rw [starEach] <;> (intros;contradiction)
theorem iG{a b}:starEach (.List a b::es) env=(false,eval (.List a b) env)::starEach es env:=by rw [starEach] <;> (intros;contradiction)
theorem fZ{a b c}:starEach (.Tuple a b c::es) env=(false,eval (.Tuple a b c) env)::starEach es env:=by rw [starEach] <;> (intros;contradiction)
end
section
variable{X:Cx}{k:Nat}{ps:List Str}{sp:Sp}{x:Str}{p pos:Pos}{e:Expr}{es:List Expr}{te:TE}{t:TA}{id T:String}{r:List V->Hp->VK->Prop}
theorem xC{env:Env}:(backTo pos (starEach [] env)).any (·.1)=false:=rfl
theorem sI{env:Env}(hs:starEach (e::es) env=(false,eval e env)::starEach es env)(h:(backTo pos (starEach es env)).any (·.1)=false):(backTo pos (starEach (e::es) env)).any (·.1)=false:=by
 rw [hs];show (false || (backTo pos (starEach es env)).any (·.1))=false;rw [h];rfl
end
structure fJ(X:Cx)(e:Expr)(t:TE):Prop where p:PE X e t
structure IT(X:Cx)(e:Expr)(t:TT):Prop where p:PT X e t
structure PWw(X:Cx)(e:Expr)(t:TT):Prop where p:PW X e t
structure IV(X:Cx)(es:List Expr)(t:TA):Prop where p:PA X es t
structure GO(X:Cx)(st:Stmt)(t:TS):Prop where p:PS X st t
structure xH(X:Cx)(st:List Stmt)(t:TS):Prop where p:GP X st t
structure RV(X:Cx)(e:Expr)(t:TG):Prop where p:PG X e t
structure XD(X:Cx)(es:List Expr)(t:RF):Prop where p:PGs X es t
structure IU(X:Cx)(tg iter:Expr)(t:TI):Prop where p:PI X tg iter t
structure POw(X:Cx)(e:Option Expr)(t:TO):Prop where p:PO X e t
@[irreducible] def HH(xs:List V)(H:Hp)(Q:VK):Prop:=xs.length<=sizeLine/\∀p,H p=none->Q (.ref p) (upd H p (.tup xs))
@[irreducible] def HI(xs:List V)(H:Hp)(Q:VK):Prop:=xs.length<=sizeLine/\∀p,H p=none->Q (.ref p) (upd H p (.lst xs))
theorem qO{xs:List V}{H:Hp}{Q:VK}(hz:xs.length<=64)(k:∀q H',H q=none->H' q=some (.tup xs)->aW H H'->Q (.ref q) H'):HH xs H Q:=by unfold HH;exact alT (pO hz) k
theorem wJ{xs:List V}{H:Hp}{Q:VK}(hz:xs.length<=64)(k:∀q H',H q=none->H' q=some (.lst xs)->aW H H'->Q (.ref q) H'):HI xs H Q:=by unfold HI;exact alL (pO hz) k
def tTu(t:TA):TE:=λσ H Q=>t σ H λxs H1=>HH xs H1 Q
def tLs(t:TA):TE:=λσ H Q=>t σ H λxs H1=>HI xs H1 Q
section
variable{X:Cx}{a b c e o tg:Expr}{es rest:List Expr}{ta tb tc te to:TE}{tA tB':TT}{t:TA}{pos p p2:Pos}{st:Stmt}{sts body orelse:List Stmt}{ts us:TS}{x:Str}{r r':R2}{id T:String}{rl:List V->Hp->VK->Prop}{k i j:Nat}{ps:List Str}{sp:Sp}{n:Nat}
theorem aJ(i:Nat){x:Str}{pos:Pos}(hN:X.N[i]?=some x:=by rfl)(hv:Vis X.env.scope x:=by first | exact Or.inl rfl | exact Or.inr (Or.inl rfl) | exact Or.inr (Or.inr rfl))(hd:(x == ("__debug__" : Str))=false:=by decide)
  (hcd:(x == ("__classdict__" : Str))=false:=by decide):fJ X (.Name x pos) (YX i):=⟨pv i hN hv hd hcd⟩
theorem aN{i j pos}:fJ X (.Constant (.int i) j pos) (tC (.int i)):=⟨pe_int⟩
theorem oA{b j pos}:fJ X (.Constant (.bool b) j pos) (tC (.bl b)):=⟨pe_bl⟩
theorem eT{x j pos}:fJ X (.Constant (.str x) j pos) (tC (.str x)):=⟨pe_str⟩
theorem lG{v:V}{u:Value}(hg:Gl X x)(hm:X.mg x=some u)(r:dF v u)(hd:(x == ("__debug__" : Str))=false:=by decide):fJ X (.Name x pos) (tC v):=⟨UY hg hm r hd⟩
theorem qU{v:V}{u:Value}(hg:Gl X x)(hm:X.mg x=none)(hv:bootBuiltins x=some u)(r:dF v u)(hn:x ≠ "__name__" := by decide)(hd:(x == ("__debug__" : Str))=false:=by decide):fJ X (.Name x pos) (tC v):=⟨VE hg hm hv r hn hd⟩
theorem cT{op:Operator}(ho:nZ X (binaryOp op) r)(ha:fJ X a ta)(hb:fJ X b tb):fJ X (.BinOp a op b pos) (SQ r ta tb):=⟨aCb ho ha.p hb.p⟩
theorem XH{op:UnaryOp}{r:V->Hp->VK->Prop}(ho:UnR X (unaryOp op) r)(ha:fJ X a ta):fJ X (.UnaryOp op a pos) (tUn r ta):=⟨aCa ho ha.p⟩
theorem iK{op:CmpOp}(ho:nZ X (compareOp op) r)(ha:fJ X a ta)(hb:fJ X b tb)(hm:behindInMarks op b=false):fJ X (.Compare a [op] [b] pos) (SQ r ta tb):=⟨VC ho ha.p hb.p hm⟩
theorem fP{op:CmpOp}(ho:nZ X (compareOp op) r)(ha:fJ X a ta)(hb:fJ X b tb)(hm:behindInMarks op b=false):IT X (.Compare a [op] [b] pos) (XJ (SQ r ta tb)):=⟨UQ ho ha.p hb.p hm⟩
theorem MO{op op':CmpOp}(ho:nZ X (compareOp op) r)(ho':nZ X (compareOp op') r')(ha:fJ X a ta)(hb:fJ X b tb)(hc:fJ X c tc)
  (hm:lastMarks [op,op'] [b,c]=false:=by with_unfolding_all rfl):fJ X (.Compare a [op,op'] [b,c] pos) (NC r r' ta tb tc):=⟨OO ho ho' ha.p hb.p hc.p hm⟩
theorem iX(h:fJ X e te)(he:∀whole,isTrue e X.env whole=(do let v <-whole;standAt e.pos;holding [v] (truthy v)):=by intro _;rfl):IT X e (tB te):=⟨aAp h.p he⟩
theorem GR(ha:IT X a tA):PWw X (.BoolOp .And [a] pos) tA:=⟨UN ha.p⟩
theorem sR(ha:IT X a tA):PWw X (.BoolOp .Or [a] pos) tA:=⟨aAn ha.p⟩
theorem ME(ha:IT X a tA)(hb:PWw X (.BoolOp .And (b::rest) pos) tB'):PWw X (.BoolOp .And (a::b::rest) pos) (aBT tA tB'):=⟨aAo ha.p hb.p⟩
theorem xY(ha:IT X a tA)(hb:PWw X (.BoolOp .Or (b::rest) pos) tB'):PWw X (.BoolOp .Or (a::b::rest) pos) (tOr tA tB'):=⟨aB8 ha.p hb.p⟩
theorem BR(h:PWw X e tA):IT X e tA:=⟨h.p.pt⟩
theorem mO(ha:IT X a tA):IT X (.UnaryOp .Not a pos) (aBL tA):=⟨aAq ha.p⟩
theorem kL{op}(h:fJ X a ta):fJ X (.BoolOp op [a] pos) ta:=⟨aAF h.p⟩
theorem jI(ha:fJ X a ta)(hb:fJ X (.BoolOp .And (b::rest) pos) tb):fJ X (.BoolOp .And (a::b::rest) pos) (XT ta tb):=⟨aAI ha.p hb.p⟩
theorem YV(ha:fJ X a ta):fJ X (.UnaryOp .Not a pos) (XM ta):=⟨aAG ha.p⟩
theorem aE:IV X [] aBM:=⟨pa_nil⟩
theorem aI(ha:fJ X e te)(hr:IV X es t)(hs:starEach (e::es) X.env=(false,eval e X.env)::starEach es X.env:=by first | exact fR | exact dZ | exact se_BoolOp | exact gA | exact eO | exact se_IfExp | exact se_Dict | exact dY | exact eP | exact fI | exact se_Attribute | exact cY | exact iG | exact fZ | exact se_JoinedStr | exact se_GeneratorExp):IV X (e::es) (XS te t):=⟨VF ha.p hr.p hs⟩
theorem dN{x1}(h:IV X es t):fJ X (.Tuple es x1 pos) (tTu t):=⟨by unfold tTu HH;exact aAE h.p⟩
theorem eW(h:IV X es t):fJ X (.List es pos) (tLs t):=⟨by unfold tLs HI;exact aAH h.p⟩
theorem MM:fJ X (.Dict [] [] pos) MZ:=⟨pe_dnewT⟩
theorem cC(hr:RN X r)(ha:fJ X a ta)(hb:fJ X b tb)(hs:IS b):fJ X (.Subscript a b pos) (SQ r ta tb):=⟨aCc hr ha.p hb.p hs⟩
theorem mQ:POw X none GV:=⟨po_none⟩
theorem mP(h:fJ X e te):POw X (some e) (XL te):=⟨UU h.p⟩
theorem kK{lo hi:Option Expr}{tl th:TO}{r:V->Option Int->Option Int->Hp->VK->Prop}(hr:SlR X r)(he:fJ X e te)(hl:POw X lo tl)(hu:POw X hi th):fJ X (.Subscript e (.Slice lo hi none p2) pos) (tSl r te tl th):=⟨OL hr he.p hl.p hu.p⟩
theorem bJ(F:eF cR X.prog X.w X.K X.mg X.base k x ps sp)(hr:iF k X.A)(ha:IV X (e::es) t)(hg:Gl X x:=by rfl)
  (hdb:(x == ("__debug__" : Str))=false:=by decide) (he:starEach (e::es) X.env=(false,eval e X.env)::starEach es X.env:=by first | exact fR | exact dZ | exact se_BoolOp | exact gA | exact eO | exact se_IfExp | exact se_Dict | exact dY | exact eP | exact fI | exact se_Attribute | exact cY | exact iG | exact fZ | exact se_JoinedStr | exact se_GeneratorExp)
  (hpl:(backTo pos (starEach es X.env)).any (·.1)=false:=by repeat (first | exact xC | refine sI (by first | exact fR | exact dZ | exact se_BoolOp | exact gA | exact eO | exact se_IfExp | exact se_Dict | exact dY | exact eP | exact fI | exact se_Attribute | exact cY | exact iG | exact fZ | exact se_JoinedStr | exact se_GeneratorExp) ?_)) :
  fJ X (.Call (.Name x p) (e::es) [] pos) (ND sp [] E0 t):=⟨aCd F hr ha.p hg hdb he hpl⟩
theorem dL(hc:fO X (.builtin id) rl)(hg:Gl X x)(hm:X.mg x=none)(hv:bootBuiltins x=some (.builtin id))(ha:IV X (e::es) t)(hn:x ≠ "__name__" := by decide)(hdb:(x == ("__debug__" : Str))=false:=by decide)
  (he:starEach (e::es) X.env=(false,eval e X.env)::starEach es X.env:=by first | exact fR | exact dZ | exact se_BoolOp | exact gA | exact eO | exact se_IfExp | exact se_Dict | exact dY | exact eP | exact fI | exact se_Attribute | exact cY | exact iG | exact fZ | exact se_JoinedStr | exact se_GeneratorExp) (hpl:(backTo pos (starEach es X.env)).any (·.1)=false:=by repeat (first | exact xC | refine sI (by first | exact fR | exact dZ | exact se_BoolOp | exact gA | exact eO | exact se_IfExp | exact se_Dict | exact dY | exact eP | exact fI | exact se_Attribute | exact cY | exact iG | exact fZ | exact se_JoinedStr | exact se_GeneratorExp) ?_)):fJ X (.Call (.Name x p) (e::es) [] pos) (tCB rl t) :=
 ⟨OP hc hg hm hv ha.p hn hdb he hpl⟩
theorem hJ(hc:fO X (.type T) rl)(hg:Gl X x)(hm:X.mg x=none)(hv:bootBuiltins x=some (.type T))(ha:IV X (e::es) t)(hn:x ≠ "__name__" := by decide)(hdb:(x == ("__debug__" : Str))=false:=by decide)
  (he:starEach (e::es) X.env=(false,eval e X.env)::starEach es X.env:=by first | exact fR | exact dZ | exact se_BoolOp | exact gA | exact eO | exact se_IfExp | exact se_Dict | exact dY | exact eP | exact fI | exact se_Attribute | exact cY | exact iG | exact fZ | exact se_JoinedStr | exact se_GeneratorExp) (hpl:(backTo pos (starEach es X.env)).any (·.1)=false:=by repeat (first | exact xC | refine sI (by first | exact fR | exact dZ | exact se_BoolOp | exact gA | exact eO | exact se_IfExp | exact se_Dict | exact dY | exact eP | exact fI | exact se_Attribute | exact cY | exact iG | exact fZ | exact se_JoinedStr | exact se_GeneratorExp) ?_)):fJ X (.Call (.Name x p) (e::es) [] pos) (tCB rl t) :=
 ⟨KC hc hg hm hv ha.p hn hdb he hpl⟩
theorem vT{name:Str}{apos cpos:Pos}{r:V->List V->Hp->VK->Prop}(pa:PlainAttrs T)(slot:Slot T name id)(hty:typeOf (.builtin id)=pure (.type "method_descriptor"))(hm:MtR X id r)(ho:fJ X o to)(ha:IV X (e::es) t)
  (hbase:attributeBase o name X.env (eval o X.env)=eval o X.env:=by rfl)
  (hfew:((backTo cpos (starEach (e::es) X.env)).all (λx=>!x.1)&&(backToKw cpos (keywordEach [] X.env)).all (λx=>x.1.isSome)
   && decide ((e::es).length+([]:List Keyword).length+(if ([]:List Keyword).isEmpty then 0 else 1)<30))=true:=by rfl)
  (hline:(apos.endLine == cpos.line)=true:=by rfl) (hs:starEach (e::es) X.env=(false,eval e X.env)::starEach es X.env:=by first | exact fR | exact dZ | exact se_BoolOp | exact gA | exact eO | exact se_IfExp | exact se_Dict | exact dY | exact eP | exact fI | exact se_Attribute | exact cY | exact iG | exact fZ | exact se_JoinedStr | exact se_GeneratorExp) (hplain:(backTo cpos (starEach es X.env)).any (·.1)=false:=by repeat (first | exact xC | refine sI (by first | exact fR | exact dZ | exact se_BoolOp | exact gA | exact eO | exact se_IfExp | exact se_Dict | exact dY | exact eP | exact fI | exact se_Attribute | exact cY | exact iG | exact fZ | exact se_JoinedStr | exact se_GeneratorExp) ?_)) :
  fJ X (.Call (.Attribute o name apos) (e::es) [] cpos) (tBM X.K T r to t):=⟨XZ pa slot hty hm ho.p ha.p hbase hfew hline hs hplain⟩
theorem eY:xH X [] XN:=⟨pss_nil⟩
theorem aU(h1:GO X st ts)(h2:xH X sts us):xH X (st::sts) (aBI ts us):=⟨OE h1.p h2.p⟩
theorem bB(h1:GO X st ts):xH X [st] ts:=⟨UR h1.p⟩
theorem jR(he:fJ X e te)(hs:swapsWith e none pos.line X.env=pure false:=by rfl):GO X (.Expr e pos) (XO te):=⟨US he.p hs⟩
theorem bR(he:fJ X e te):GO X (.Return (some e) pos) (aBJ te):=⟨aAs he.p⟩
theorem jH{c:Expr}{a b:List Stmt}(hc:IT X c tA)(ha:xH X a ts)(hb:xH X b us):GO X (.If c a b pos) (aBN tA ts us):=⟨aB9 hc.p ha.p hb.p⟩
theorem EQ(h:GO X st ts):GO X st (aBR ts):=⟨aAv h.p⟩
theorem dP{i:Nat}{x:Str}(hN:X.N.Nodup)(hi:X.N[i]?=some x)(hx:Loc X.env.scope x)(hf:X.fn x=true\/X.env.scope.names.lookup x=some .local:=by first | exact .inl rfl | exact .inr rfl | assumption):RV X (.Name x pos) (rW i):=⟨UX hN hi hx hf⟩
theorem mR:XD X [] aBa:=⟨pgs_nil⟩
theorem eR{t:TG}{u:RF}(h1:RV X e t)(h2:XD X es u)
  (hs:(assignEach (e::es) X.env).map (·.2)=assign e X.env::(assignEach es X.env).map (·.2):=by rfl):XD X (e::es) (PU t u):=⟨OJ h1.p h2.p hs⟩
theorem qK{k:Nat}{t:RF}{n:Nat}(hc:X.calm=true)(h:XD X es t)
  (hn:(assignEach es X.env).length=n:=by rfl) (hst:(assignEach es X.env).findIdx? (·.1)=none:=by rfl):RV X (.Tuple es k pos) (aA9 X.K n t):=⟨aAB hc h.p hn hst⟩
theorem ML{i:Expr}{ti:TE}{t:XB}(ho:fJ X o to)(hi:fJ X i ti)(hs:aBt X t)
  (ha:∀v,assign (.Subscript o i pos) X.env v=(do
   let ov <-holding [v] (eval o X.env)
   let iv <-holding [v,ov] (eval i X.env)
   standAt pos
   holding [v,ov,iv] (setItem ov iv v)
   release [v,ov,iv] []):=by intro _;rfl):RV X (.Subscript o i pos) (aCr to ti t):=⟨aAC ho.p hi.p hs ha⟩
theorem ER{g:TG}(he:fJ X e te)(hg:RV X tg g)(hs:swapsWithSole [tg] e pos.line X.env=pure false:=by rfl)(hw:swappedStores [tg] e X.env=pure none:=by rfl)(h1:(assignEach [tg] X.env).map (·.2)=[assign tg X.env]:=by rfl):GO X (.Assign [tg] e pos) (JF te g):=⟨aAw he.p hg.p hs hw h1⟩
theorem bV{i:Nat}{pos':Pos}(hN:X.N.Nodup)(hi:X.N[i]?=some x)(hx:Loc X.env.scope x)(he:fJ X e te)(hs:swapsWith e (some (.Name x pos')) pos.line X.env=pure false:=by rfl)(hf:X.fn x=true\/X.env.scope.names.lookup x=some .local:=by first | exact .inl rfl | exact .inr rfl | assumption) :
  GO X (.Assign [.Name x pos'] e pos) (JF te (rW i)):=⟨aAr hN hi hx he.p hs hf⟩
theorem YU{i j:Nat}{x y:Str}{ta:TA}{px py pt:Pos}{kt k2 pt2}(hc:X.calm=true)(hN:X.N.Nodup)(hi:X.N[i]?=some x)(hj:X.N[j]?=some y)(hij:i≠j)
  (hx:X.env.scope.names.lookup x=some .local) (hy:X.env.scope.names.lookup y=some .local) (ha:IV X [a,b] ta)
  (hw:swappedStores [.Tuple [.Name x px,.Name y py] kt pt] (.Tuple [a,b] k2 pt2) X.env=pure (some [x,y]))
  (hs:swapsWithSole [.Tuple [.Name x px,.Name y py] kt pt] (.Tuple [a,b] k2 pt2) pos.line X.env=pure false:=by rfl) :
  GO X (.Assign [.Tuple [.Name x px,.Name y py] kt pt] (.Tuple [a,b] k2 pt2) pos) (aBK i j ta):=⟨aAt hc hN hi hj hij hx hy ha.p hw hs⟩
theorem qS{c:Expr}{tc:TT}{tb:TS}(hp:PassesOwn (model X.prog X.w) X.A X.env X.xe)(hc:IT X c tc)(hb:xH X body tb):GO X (.While c body [] pos) (AE (oC tc) tb):=⟨JZ hp hc.p hb.p⟩
theorem gW{l:Expr}{tl:TE}(hl:fJ X l tl):IU X tg l (YG X.K tl):=⟨UW hl.p⟩
theorem gK{l:Expr}{tl:TE}(hl:fJ X l tl):IU X tg l (aA7 X.K tl):=⟨aAA hl.p⟩
theorem dW{a:Expr}{ta:TA}{p pos:Pos}(hg:Gl X "range")(hm:X.mg "range" = none)(ha:IV X [a] ta)(hs:starEach [a] X.env=[(false,eval a X.env)]:=by first | exact fR | exact dZ | exact se_BoolOp | exact gA | exact eO | exact se_IfExp | exact se_Dict | exact dY | exact eP | exact fI | exact se_Attribute | exact cY | exact iG | exact fZ | exact se_JoinedStr | exact se_GeneratorExp):IU X tg (.Call (.Name "range" p) [a] [] pos) (YF ta):=⟨KB hg hm ha.p hs⟩
theorem iJ{iter:Expr}{wi:TI}{g:TG}{tb:TS}{pos:Pos}(hp:PassesOwn (model X.prog X.w) X.A X.env X.xe)(hc:X.calm=true)(hi:IU X tg iter wi)(hg:RV X tg g)(hb:xH X body tb)
  (hs:∀x,foldedSetIterable iter X.env x=pure x:=by intro _;rfl):GO X (.For tg iter body [] pos) (aBO wi g tb):=⟨aAu hp hc hi.p hg.p hb.p hs⟩
end
theorem gH.okw{P:Program}{w:World}{K:PySem.W.Frag}{mg:Str->Option Value}{base:Heap}{x qual:Str}{st:Stmt}{f:Addr}{fd:FuncData}{N ps:List Str}{k:Nat}{sp:Sp}(F:gH K x qual st f fd)(S:bK N ps (aO st))(len:∀vs H Q E,sp vs H Q E->vs.length=ps.length)
  (hbody:∀(cdv:Value) (A:Around) (outer:List Env) (s:Shared) (H:Hp) (vs:List V) (Q:VK) (E:XK),iF k (A.deeper (envOfC qual (aO st) s.heap.objs.size f cdv))->sp vs H Q E ->
   ∃t,xH (uZ cR P w K mg base N qual (aO st) f cdv A outer s H E).nox (jB st) t/\t { nx:=λ_ H'=>Q .non H',rt:=Q } (start N vs) H):dA P w K mg base cR (k+1) f fd ps sp :=
 F.ok S len λcdv A outer s H vs Q E hr h=>by
  obtain ⟨t,h1,h2⟩:=hbody cdv A outer s H vs Q E hr h;exact ⟨t,h1.p,h2⟩
theorem gH.oky{P:Program}{w:World}{K:PySem.W.Frag}{mg:Str->Option Value}{base:Heap}{x qual:Str}{st:Stmt}{f:Addr}{fd:FuncData}{N ps:List Str}{k:Nat}{sp:Sp}(F:gH K x qual st f fd)(S:bK N ps (aO st))
  (h:∀(vs:List V) (H:Hp) (Q:VK) (E:XK),sp vs H Q E->vs.length=ps.length/\∀(cdv:Value) (A:Around) (outer:List Env) (s:Shared),iF k (A.deeper (envOfC qual (aO st) s.heap.objs.size f cdv)) ->
   ∃t,xH (uZ cR P w K mg base N qual (aO st) f cdv A outer s H E).nox (jB st) t/\t { nx:=λ_ H'=>Q .non H',rt:=Q } (start N vs) H):dA P w K mg base cR (k+1) f fd ps sp :=
 F.okw S (λvs H Q E q=>(h vs H Q E q).1) λcdv A outer s H vs Q E hr q=>(h vs H Q E q).2 cdv A outer s hr
theorem DO(a b:Int):Int.gcd b (a % b)=Int.gcd a b:=by
 have h:=Int.gcd_add_mul_right_right b (a % b) (a/b);rw [show a % b+a/b*b=a from by have:=Int.emod_add_mul_ediv a b;rw [Int.mul_comm];exact this] at h;rw [<-h,Int.gcd_comm]
theorem IB{a:Int}(h:0<a):(Int.gcd a 0:Int)=a:=by rw [Int.gcd_zero_right];omega
section
variable{H:Hp}{x:V}{d:PyData}{Q:VK}
end
theorem aX.len{H:Hp}:∀{ds:List PyData}{vs:List V},aX H ds vs->vs.length=ds.length
 | [],_,h=>by cases (show _=[] from h);rfl
 | d::ds,_,h=>by
  unfold aX at h;obtain ⟨x,xs,rfl,_,h2⟩:=h;simp [aX.len h2]
section
variable{p:Addr}{σ:St}{t:TE}{ta:TA}{d:PyData}{ds:List PyData}
end
theorem BI{α:Type}{xs:List α}{x:Int}(h0:0<=x)(h1:x<xs.length):∃v,EE xs x=some v/\v∈xs/\xs[x.toNat]?=some v:=by
 have h:x.toNat<xs.length:=Oo;have e:=aD h;have:=eE e;rw [Int.toNat_of_nonneg h0] at this;exact ⟨_,this,List.getElem_mem h,e⟩
theorem aX.append{H:Hp}{es:List PyData}{ws:List V}(h':aX H es ws):∀{ds:List PyData}{vs:List V},aX H ds vs->aX H (ds++es) (vs++ws)
 | [],_,h=>by cases (show _=[] from h);exact h'
 | d::ds,_,h=>by
  unfold aX at h;obtain ⟨x,xs,rfl,h1,h2⟩:=h;exact aX.cons h1 (aX.append h' h2)
end L2
namespace L2
end L2
namespace L2
open PySem PySem.Spec PyProof.Rows
theorem aW.thru{l:Addr}{H0 H1 H2:Hp}(hl:H0 l=none)(s:aW H0 H1)(b:aS l H1 H2):aW H0 H2:=λc o e=>by
 have n:c≠l:=cW e hl;exact b.at n (s _ _ e)
theorem aEj{H:Hp}{l b:Addr}{xs zs:List V}{Q:VK}(h1:H l=some (.lst xs))(h2:H b=some (.lst zs))(hz:xs.length+zs.length<=1000)(k:∀q H',H q=none->H' q=some (.lst (xs++zs))->aW H H'->Q (.ref q) H'):aB7 (.ref l) (.ref b) H Q :=
 ⟨l,b,xs,zs,rfl,rfl,h1,h2,Nat.le_of_lt (tE hz),λq hq=>k q _ hq bE (aW.upd hq)⟩
@[irreducible] def UK:V->List V->Hp->VK->Prop:=HN
theorem AW{X:Cx}:MtR X "list.append" UK:=by unfold UK;exact pU
theorem WY{H:Hp}{l:Addr}{xs:List V}{y:V}{Q:VK}(h:H l=some (.lst xs))(hz:xs.length<=1000)(k:∀H',H' l=some (.lst (xs++[y]))->aS l H H'->Q .non H'):UK (.ref l) [y] H Q:=by
 unfold UK;exact ⟨l,xs,y,rfl,rfl,h,tE hz,k _ bE aS.self⟩
theorem SO{K:PySem.W.Frag}{H:Hp}{l:Addr}{xs:List V}(h:H l=some (.lst xs)):tyV K "list" (.ref l) H:=.inl ⟨rfl,xs,eZ.of h⟩
def mL(env:Env):List (Str × NameKind)->List (Str × Addr)->List (Str × Addr)
 | [],cs=>cs
 | (n,k)::r,cs=>if k == .free then mL env r ((n,(env.cells.lookup n).getD 0)::cs) else mL env r cs
theorem IL(env:Env):∀(l:List (Str × NameKind)) (cs:List (Str × Addr)),(∀y∈l,y.2=.free->∃c,env.cells.lookup y.1=some c) ->
  (forIn l cs λ(x:Str × NameKind) r=>if x.2 == .free then (do let c <-cellOf env x.1;pure (ForInStep.yield ((x.1,c)::r)):Sem _) else pure (ForInStep.yield r))=pure (mL env l cs)
 | [],cs,_=>rfl
 | (n,k)::r,cs,h=>by
  rw [List.forIn_cons];have ih:=λcs=>IL env r cs λy hy=>h y (aH _ hy);by_cases hk:(k == NameKind.free)=true
  ·obtain ⟨c,hc⟩:=h (n,k) aG (by simpa using hk);dsimp only at hc;simp only [hk,if_true,mL,hc,Option.getD_some,cellOf,pure_bind];exact ih _
  ·simp only [hk,mL,pure_bind];exact ih _
theorem jW{env:Env}{scope:Scope}(h:∀y∈scope.names,y.2=.free->∃c,env.cells.lookup y.1=some c):closureFor scope env=pure (mL env scope.names []):=by
 have e:=IL env scope.names [] h;unfold closureFor;simp only [bind_pure];exact e
theorem tZ{env:Env}:∀(l:List (Str × NameKind)) (cs:List (Str × Addr)),(∀y∈l,y.2=.free->∃c,env.cells.lookup y.1=some c)->∀p∈mL env l cs,p∈cs\/env.cells.lookup p.1=some p.2
 | [],cs,_,p,hp=>.inl hp
 | (n,k)::r,cs,h,p,hp=>by
  have h':∀y∈r,y.2=.free->∃c,env.cells.lookup y.1=some c:=λy hy=>h y (aH _ hy);unfold mL at hp;by_cases hk:(k == NameKind.free)=true
  ·rw [if_pos hk] at hp;obtain ⟨c,hc⟩:=h (n,k) aG (by simpa using hk);rcases tZ r _ h' p hp with hm | hm
   ·rcases aV.mp hm with rfl | hm
    ·exact .inr (by dsimp only at hc ⊢;rw [hc];rfl)
    ·exact .inl hm
   ·exact .inr hm
  ·rw [if_neg hk] at hp;exact tZ r cs h' p hp
theorem uB{env:Env}:∀(l:List (Str × NameKind)) (cs:List (Str × Addr)),∀p∈cs,p∈mL env l cs
 | [],_,_,hp=>hp
 | (n,k)::r,cs,p,hp=>by
  unfold mL;by_cases hk:(k == NameKind.free)=true
  ·rw [if_pos hk];exact uB r _ p (aH _ hp)
  ·rw [if_neg hk];exact uB r _ p hp
theorem uA{env:Env}:∀(l:List (Str × NameKind)) (cs:List (Str × Addr)) (y:Str),(y,NameKind.free)∈l->∃a,(y,a)∈mL env l cs
 | (n,k)::r,cs,y,hy=>by
  unfold mL;rcases aV.mp hy with e | hm
  ·cases e;rw [if_pos (by rfl)];exact ⟨_,uB r _ _ aG⟩
  ·by_cases hk:(k == NameKind.free)=true
   ·rw [if_pos hk];exact uA r _ y hm
   ·rw [if_neg hk];exact uA r _ y hm
theorem lA{α β:Type}[BEq α][LawfulBEq α]{x:α}{c:β}:∀{l:List (α × β)},l.lookup x=some c->(x,c)∈l
 | [],h=>by cases h
 | (a,b)::r,h=>by
  rw [List.lookup_cons] at h;by_cases e:(x == a)=true
  ·rw [e] at h;have:x=a:=by simpa using e
   subst this;cases h;exact aG
  ·have e':(x == a)=false:=by simpa using e
   rw [e'] at h;exact aH _ (lA h)
theorem kZ{α β:Type}[BEq α][LawfulBEq α]{x:α}{c:β}:∀{l:List (α × β)},(x,c)∈l->∃c',l.lookup x=some c'
 | (a,b)::r,h=>by
  rw [List.lookup_cons];by_cases e:(x == a)=true
  ·rw [e];exact ⟨_,rfl⟩
  ·have e':(x == a)=false:=by simpa using e
   rw [e'];rcases aV.mp h with q | q
   ·cases q;simp at e
   ·exact kZ q
def vA(X:Cx)(scope:Scope):List (Str × Addr):=mL X.env scope.names []
theorem eL{X:Cx}{scope:Scope}(h:∀y∈scope.names,y.2=.free->∃c,X.env.cells.lookup y.1=some c){x:Str}{c:Addr}(e:(vA X scope).lookup x=some c):X.env.cells.lookup x=some c:=by
 rcases tZ scope.names [] h _ (lA e) with hm | hm
 ·cases hm
 ·exact hm
theorem jD{X:Cx}{scope:Scope}(h:∀y∈scope.names,y.2=.free->∃c,X.env.cells.lookup y.1=some c){x:Str}(hx:(x,NameKind.free)∈scope.names){c:Addr}(e:X.env.cells.lookup x=some c):(vA X scope).lookup x=some c:=by
 obtain ⟨a,ha⟩:=uA (env:=X.env) scope.names [] x hx;obtain ⟨c',hc'⟩:=kZ ha;have:=eL h hc';rw [e] at this;cases this;exact hc'
def lC(X:Cx)(scope:Scope)(C:Addr)(fp:List Addr)(s₀:Shared)(H₀:Hp)(N':List Str):Cx where
 prog:=X.prog
 w:=X.w
 K:=X.K
 mg:=X.mg
 base:=X.base
 A:=X.A
 N:=N'
 s₀:=s₀
 H₀:=H₀
 env:=compEnvC scope (vA X scope) C X.env
 outer:=X.stack
 stack:=X.stack
 ex:=fp
 fn:=λ_=>false
 calm:=true
 pn:=[]
 xe:=λ_ _=>False
def slots(σ:St)(js:List Nat):St:=js.map λj=>(σ[j]?).getD none
def LX(X:Cx)(ifs:List Expr)(t:TT):Prop :=
 ∀(pins:List (Addr × Obj)) (s:Shared) (σ:St) (H:Hp) (Q:Bool->Hp->Prop),bW X pins σ H s->t σ H Q ->
  wpAny (model X.prog X.w) X.A (forIn ifs true λc r=>if r=true then do let ok <-isTrue c X.env (eval c X.env);pure (ForInStep.yield ok) else pure (ForInStep.yield r)) (TP X pins σ Q) X.xe s
def AD:TT:=λ_ H Q=>Q true H
theorem pts_nil{X:Cx}:LX X [] AD:=λpins s σ H Q I h=>wpAny_tests_nil ⟨H,I,h⟩
theorem UO{X:Cx}{c:Expr}{t:TT}(h:PT X c t):LX X [c] t:=λpins s σ H Q I q=>wpAny_tests_one (h pins s σ H Q I q)
def aBS(wi:TI)(js:List Nat)(tc:TT)(te:TE):TE:=λσ H Q=>wi σ H λJ H1=>∀D,H1 D=none->∃W:Nat->Nat->List V->Hp->Prop,(∃m,W 0 m [] (upd H1 D (.lst []))) /\
 ∀i m ys H2,W i m ys H2->H2 D=some (.lst ys)/\((J.stop i H2/\Q (.ref D) H2)\/(J.go i H2/\ys.length<sizeLine/\∀x H3,J.yld i H2 x H3 ->
  tc (some x::slots σ js) H3 λb H4=>if b=true then te (some x::slots σ js) H4 λy H5=>H5 D=some (.lst ys)/\∃m',m' < m/\W (i+1) m' (ys++[y]) (upd H5 D (.lst (ys++[y])))
   else H4 D=some (.lst ys)/\∃m',m' < m/\W (i+1) m' ys H4))
structure dJ(X:Cx)(scope:Scope)(x:Str)(N':List Str)(js:List Nat):Prop where
 calm:X.calm=true
 free:∀y∈scope.names,y.2=.free->X.env.kindOf y.1=some .cell
 cell:∀y∈scope.names,y.2 ≠ .cell
 kind:scope.kind=.function
 names:∀y∈scope.names,y.2=.local->scope.names.lookup y.1=some .local
 own:scope.names.lookup x=some .local
 nofl:∀y,(y,NameKind.free)∈scope.names->scope.names.lookup y=some .local->False
 len:N'.length=js.length+1
 zero:N'[0]?=some x
 nd:N'.Nodup
 slot:∀(i:Nat) (j:Nat),js[i]?=some j->∃y,N'[i+1]?=some y/\X.N[j]?=some y/\(y,NameKind.free)∈scope.names
section
variable{X:Cx}{pins:List (Addr × Obj)}{σ:St}{H:Hp}{s:Shared}{scope:Scope}{x:Str}{N':List Str}{js:List Nat}{fp:List Addr}
theorem dJ.cells(S:dJ X scope x N' js)(ok:X.Ok):∀y∈scope.names,y.2=.free->∃c,X.env.cells.lookup y.1=some c:=λy hy hf=>ok.has _ (.inl (S.free y hy hf))
theorem iB{env:Env}:∀{names:List (Str × NameKind)}{y:Str}{k:NameKind},(names.map λ(n,k)=>if (k == NameKind.free&&env.scope.kind == .function&&env.kindOf n == some .cell) then (n,NameKind.cell) else (n,k)).lookup y=some k ->
  (k=.cell\/k=.free)->(∀z∈names,z.2 ≠ .cell)->(y,NameKind.free)∈names
 | [],_,_,h,_,_=>by cases h
 | (n,q)::r,y,k,h,hk,hc=>by
  rw [aZ,List.lookup_cons] at h;have ih:=λh=>@iB env r y k h hk λz hz=>hc z (aH _ hz);by_cases hq:(q == NameKind.free&&env.scope.kind == .function&&env.kindOf n == some .cell)=true
  ·dsimp only at h;rw [if_pos hq] at h;have qf:q=.free:=by
    rw [cL,cL] at hq;simpa using hq.1.1
   subst qf;by_cases e:(y == n)=true
   ·have:y=n:=by simpa using e
    subst this;exact aG
   ·have e':(y == n)=false:=by simpa using e
    dsimp only at h;rw [e'] at h;exact aH _ (ih h)
  ·dsimp only at h;rw [if_neg hq] at h;by_cases e:(y == n)=true
   ·have:y=n:=by simpa using e
    subst this;dsimp only at h;rw [e] at h;have hkq:k=q:=by injection h with h;exact h.symm
    subst hkq;rcases hk with rfl | rfl
    ·exact absurd rfl (hc _ aG)
    ·exact aG
   ·have e':(y == n)=false:=by simpa using e
    dsimp only at h;rw [e'] at h;exact aH _ (ih h)
theorem aBh(S:dJ X scope x N' js)(I:bW X pins σ H s)(hf:∀b∈fp,gU X pins H b)(hb:∀b∈fp,b<s.heap.objs.size):(lC X scope s.heap.objs.size fp s H N').Ok where
 mod:=I.ok.mod
 kind:=S.kind
 glob:=I.ok.glob
 blt:=I.ok.blt
 above:=aM _
 inj:=λy z c h1 h2=>I.ok.inj y z c (eL (S.cells I.ok) h1) (eL (S.cells I.ok) h2)
 has:=λy hy=>by
  have hm:(y,NameKind.free)∈scope.names:=by
   rcases hy with hy | hy
   ·exact iB (env:=X.env) hy (.inl rfl) S.cell
   ·exact iB (env:=X.env) hy (.inr rfl) S.cell
  obtain ⟨c,hc⟩:=S.cells I.ok _ hm rfl;exact ⟨c,jD (S.cells I.ok) hm hc⟩
 cab:=λ_ _ h=>by cases h
 hd:=λ_=>I.ok.hd S.calm
 frames:=I.ok.frames
 stk:=.inl rfl
 exf:=λb hb'=>⟨λe=>by have:=hb b hb';rw [e] at this;exact bT _ this,λy c h=>(hf b hb').2.2.2.2.1 y c (eL (S.cells I.ok) h)⟩
 bs:=I.bs
 bsz:=bG I.ok.bsz I.sz
 noex:=λb o e hb'=>by
  rcases (hf b hb').2.2.2.1 with h | h
  ·exact I.ok.noex b o e h
  ·exact absurd (bA (aT e) (bG I.ok.bsz h)) (bT _)
 exfs:=λb hb' hs=>by
  have h2:=I.stkSub b hs;rcases aV.mp h2 with h2 | h2
  ·exact (hf b hb').2.1 h2
  ·exact (hf b hb').2.2.1 h2
 funs:=I.stack
 frf:=I.stkFree
theorem tF{i j:Nat}(h:js[i]?=some j):(slots σ js)[i]?=some ((σ[j]?).getD none):=by
 unfold slots;rw [aC,h];rfl
theorem WG{h':Heap}{tk:Nat}(S:dJ X scope x N' js)(I:bW X pins σ H s)(hf:∀b∈fp,gU X pins H b)(hb:∀b∈fp,b<s.heap.objs.size)
  (hn:h'.Ns s.heap.objs.size (λ_=>none)) (hk:∀b o,s.heap.get? b=some o->h'.get? b=some o):bW (lC X scope s.heap.objs.size fp s H N') [] (none::slots σ js) H { s with heap:=h',toks:=tk } where
 ok:=aBh S I hf hb
 os:=rfl
 bare:=I.bare
 base:=Un.kept hk
 loc:=by
  refine ⟨_,hn,λi y v hi hv hvis=>?_⟩;cases i with
  | zero=>cases hv
  | succ i =>
   have hv':(slots σ js)[i]?=some (some v):=hv;have hlt:i<js.length:=by
    have:=(aY.mp hv').1;unfold slots at this
    rwa [aA] at this
   have hj:js[i]?=some js[i]:=aD hlt;obtain ⟨z,h1,h2,h3⟩:=S.slot i _ hj;have hzy:z=y:=by
    have:N'[i+1]?=some y:=hi;rw [h1] at this;cases this;rfl
   subst hzy;rw [tF hj] at hv';have hσ:σ[js[i]]?=some (some v):=by
    cases q:σ[js[i]]? with
    | none=>rw [q] at hv';cases hv'
    | some o=>rw [q] at hv';cases hv';rfl
   have hkc:X.env.kindOf z=some .cell:=S.free _ h3 rfl;obtain ⟨m,hm,hl⟩:=I.loc;obtain ⟨u,ru,lk⟩:=hl _ z v h2 hσ (.inr (.inl hkc));rcases lk with ⟨hk1,_⟩ | ⟨_,c,hc,hcell⟩
   ·rw [hkc] at hk1;cases hk1
   ·refine ⟨u,ru,.inr ⟨?_,c,jD (S.cells I.ok) h3 hc,?_⟩⟩
    ·rcases hvis with hvis | hvis | hvis
     ·exfalso;have hcl:=jD (S.cells I.ok) h3 hc;have hm2:=lA (l:=(relabel scope X.env).names) hvis;unfold relabel at hm2;obtain ⟨⟨n,k⟩,hmem,he⟩:=aK.mp hm2;dsimp only at he;by_cases hq:(k == NameKind.free&&X.env.scope.kind == .function&&X.env.kindOf n == some .cell)=true
      ·rw [if_pos hq] at he;cases he
      ·rw [if_neg hq] at he;cases he;have:=S.names _ hmem rfl;have l2:=kZ h3;obtain ⟨c',l2⟩:=l2;dsimp only at this;rw [this] at l2;have key:(relabel scope X.env).names.lookup z=some .local:=lookup_relabel_local this;have hck:scope.names.lookup z=some .local:=this;exact S.nofl z h3 hck
     ·exact .inl hvis
     ·exact .inr hvis
    ·obtain ⟨o,e,r⟩:=hcell;exact ⟨o,hk _ _ e,r⟩
 cell:=λy c h=>by
  obtain ⟨v,o,e,r⟩:=I.cell y c (eL (S.cells I.ok) h);exact ⟨v,o,hk _ _ e,r⟩
 free:=I.hok.fresh (aM _)
 freeC:=λy c h=>I.freeC y c (eL (S.cells I.ok) h)
 pin:=λp hp=>by cases hp
 hok:=I.hok.kept hk
 len:=by
  show (slots σ js).length+1=N'.length;unfold slots;rw [aA,S.len]
theorem nU.but{P:Program}{w:World}{H:Hp}{h h':Heap}{C:Addr}(x:nU P w H h)(hC:H C=none)(k:∀b u,b≠C->h.get? b=some u->h'.get? b=some u):nU P w H h':=λa o e =>
 (x a o e).stay (λb u hb q=>k b u (by
  rcases hb with rfl | hb
  ·exact cW e hC
  ·exact cW hb hC) q) (λ_ q=>q) λ_ _ q=>q
theorem QH{H2:Hp}{σ':St}{s2:Shared}{h'':Heap}(S:dJ X scope x N' js)(I:bW X pins σ H s)(hf:∀b∈fp,gU X pins H b)
  (J:bW (lC X scope s.heap.objs.size fp s H N') [] σ' H2 s2) (hs:Heap.SameBut s.heap.objs.size s2.heap h''):bW X pins σ H2 { s2 with heap:=h'' }:=by
 have hC:H2 s.heap.objs.size=none:=J.free;have ne:∀{b:Addr} {o:Obj},s.heap.get? b=some o->b≠s.heap.objs.size:=λe q=>by
  have:=aT e;rw [q] at this;exact bT _ this
 refine I.call' (s':={ s2 with heap:=h'' }) (ch:=fp) (by rw [show ({ s2 with heap:=h'' }:Shared).os=s2.os from rfl];exact J.os) ?_ (J.hok.but hC λb u hb q=>hs.extBut b u hb q) J.bare λb hb=>⟨(hf b hb).2.2.2.1,(hf b hb).2.1,(hf b hb).2.2.2.2.1,(hf b hb).2.2.2.2.2⟩;have U:=J.base;exact {
  keep:=λb o e n h1 h2=>hs.extBut b o (ne e) (U.keep b o e n h1 h2)
  slot:=λb o e n h1 h2=>by
   obtain ⟨sl,q⟩:=U.slot b o e n h1 h2;exact ⟨sl,hs.extBut b _ (ne e) q⟩
  free:=U.free
  there:=λb o e h2=>by
   obtain ⟨o',q⟩:=U.there b o e h2;exact ⟨o',hs.extBut b _ (ne e) q⟩
  tups:=U.tups
  frzs:=U.frzs
  tbls:=U.tbls }
end
abbrev MA:Value->Shared->Prop:=λ_ _=>False
theorem nS{prog:Program}{w:World}{A:Around}{R:Result->Shared->Prop}{s:Shared}{elt target iter:Expr}{ifs:List Expr}{scope:Scope}{pos:Pos}{it acc:Value}{env:Env}(I:Nat->Shared->Prop)
  (turn:∀n s,I n s->wpAny (model prog w) A (pyNext it) (λr s₁=>match r with
   | none=>R (.ok .next) s₁
   | some v=>wpAny (model prog w) A (letOwnedTupleGo target it v) (λ_ s₁'=>wpAny (model prog w) A (assign target env v) (λ_ s₂ =>
     wpAny (model prog w) A (forIn ifs true λc r=>if r=true then do let ok <-isTrue c env (eval c env);pure (ForInStep.yield ok) else pure (ForInStep.yield r)) (λok s₃ =>
      if ok=true then wpAny (model prog w) A (eval elt env) (λx s₄=>wpAny (model prog w) A (call (.builtin "list.append") [acc,x]) (λ_ s₅=>∃m,m<n/\I m s₅) MA s₄) MA s₃
      else ∃m,m<n/\I m s₃) MA s₂) MA s₁') MA s₁) MA s)
  (n:Nat) (h:I n s):codeAny (model prog w) A (.compLoop (.ListComp elt [⟨target,iter,ifs,0⟩] scope pos) 0 it acc env) R s:=by
 refine codeAny_loop rfl I (λn s hI=>?_) n h;show wpAny _ A ((compTurn (.ListComp elt [⟨target,iter,ifs,0⟩] scope pos) 0 it acc env).onRaise (λx=>do noteFrame x env;theTreesLotGoes x)) _ _ s;refine wpAny_noted ?_;rw [compTurn_list];refine wpAny_bind (wpAny_standAt (wpAny_bind (wpAny_mono (turn n s hI) (λr s₁ h₁=>?_) λ_ _ h'=>h'.elim)));cases r with
 | none=>exact wpAny_pure h₁
 | some v =>
  refine wpAny_bind (wpAny_mono h₁ (λ_ s₁' h₁'=>?_) λ_ _ h'=>h'.elim);refine wpAny_bind (wpAny_mono h₁' (λ_ s₂ h₂=>wpAny_bind (wpAny_mono h₂ (λok s₃ h₃=>?_) λ_ _ h'=>h'.elim)) λ_ _ h'=>h'.elim);cases ok with
  | false=>exact wpAny_pure ⟨rfl,h₃⟩
  | true =>
   exact wpAny_bind (wpAny_bind (wpAny_mono h₃ (λx s₄ h₄=>wpAny_bind (wpAny_mono h₄ (λ_ s₅ h₅=>wpAny_pure (wpAny_pure ⟨rfl,h₅⟩)) λ_ _ h'=>h'.elim)) λ_ _ h'=>h'.elim))
section
variable{X:Cx}{pins:List (Addr × Obj)}{σ:St}{H:Hp}{s:Shared}{scope:Scope}{x:Str}{N':List Str}{js:List Nat}{fp:List Addr}{elt iter:Expr}{px pos:Pos}{ifs:List Expr}{tc:TT}{te:TE}
theorem GH{J:It}{it:Addr}{tn:Nat->Heap->Prop}{RR:Value->Addr->Result->Shared->Prop}{E:Value->Shared->Prop}{Q:VK}
  (S:dJ X scope x N' js) (I:bW X pins σ H s) (T:EI X.prog X.w X.K (.Name x px) J fp it tn) (h0:tn 0 s.heap) (hf:∀b∈fp,gU X pins H b)
  (ht:∀C fp s₀ H₀,LX (lC X scope C fp s₀ H₀ N') ifs tc) (he:∀C fp s₀ H₀,PE (lC X scope C fp s₀ H₀ N') elt te)
  (R:∀D,H D=none->∃W:Nat->Nat->List V->Hp->Prop,(∃m,W 0 m [] (upd H D (.lst []))) /\
   ∀i m ys H2,W i m ys H2->H2 D=some (.lst ys)/\((J.stop i H2/\Q (.ref D) H2)\/(J.go i H2/\ys.length<sizeLine/\∀x H3,J.yld i H2 x H3 ->
    tc (some x::slots σ js) H3 λb H4=>if b=true then te (some x::slots σ js) H4 λy H5=>H5 D=some (.lst ys)/\∃m',m' < m/\W (i+1) m' (ys++[y]) (upd H5 D (.lst (ys++[y])))
     else H4 D=some (.lst ys)/\∃m',m' < m/\W (i+1) m' ys H4)))
  (hRR:∀(D:Addr) (H3:Hp) (s3:Shared) (σ':St) (H':Hp) (s':Shared),bW X pins σ H3 s3->(∀b∈fp,gU X pins H3 b)->bW (lC X scope s3.heap.objs.size fp s3 H3 N') [] σ' H' s'->Q (.ref D) H'->RR (.ref D) s3.heap.objs.size (.ok .next) s') :
  wpAny (model X.prog X.w) X.A (newList []) (λacc s₃=>wpAny (model X.prog X.w) X.A (newFunctionEnv scope X.env.globals (vA X scope) [] X.env.qual none .none (some X.env)) (λcenv s₄ =>
   codeAny (model X.prog X.w) X.A (.compStart (.ListComp elt [⟨.Name x px,iter,ifs,0⟩] scope pos) 0 (.ref it) acc { cenv with scope:=relabel scope X.env }) (RR acc cenv.locals) s₄) E s₃) E s:=by
 have hb:∀b∈fp,b<s.heap.objs.size:=λb hb=>by
  obtain ⟨o,e,_⟩:=T.obj 0 _ h0 b hb;exact aT e
 refine wpAny_newObj_type (wpAny_newFunctionEnv S.cell (by intro y hy;simp at hy) (λh₁ hns₁ hsb₁=>?_) S.kind);have hDn:H s.heap.objs.size=none:=I.hok.fresh (aM _);obtain ⟨W,⟨m0,hw0⟩,hW⟩:=R _ hDn;have I3:bW X pins σ (upd H s.heap.objs.size (.lst [])) { s with heap:=s.heap.push { cls:=.type "list",dict:=none,data:=.seq ([]:List Value).toArray } }:=I.lnew (its:=[]) (ys:=[]) (t':=s.toks) .nil (cK _);have hf3:∀b∈fp,gU X pins (upd H s.heap.objs.size (.lst [])) b:=λb hb' =>
  ⟨by rw [bP (λe=>by have:=hb b hb';rw [e] at this;exact bT _ this)];exact (hf b hb').1,(hf b hb').2⟩
 have hb3:∀b∈fp,b<(s.heap.push { cls:=.type "list",dict:=none,data:=.seq ([]:List Value).toArray }).objs.size:=λb hb'=>by
  rw [eC];exact Nat.lt_succ_of_lt (hb b hb')
 have hkeep:∀b o,(s.heap.push { cls:=.type "list",dict:=none,data:=.seq ([]:List Value).toArray }).get? b=some o->h₁.get? b=some o:=λb o e =>
  hsb₁.extBut b o (λq=>by have:=aT e;rw [q] at this;exact bT _ this) (aB _ e)
 have J4:=WG (h':=h₁) (tk:=s.toks+([]:List (Str × Value)).length) S I3 hf3 hb3 hns₁ hkeep;have t4:tn 0 h₁:=T.keep 0 _ _ h0 λb hb' o e=>hkeep b o (aB _ e);have loop:codeAny (model X.prog X.w) X.A (.compLoop (.ListComp elt [⟨.Name x px,iter,ifs,0⟩] scope pos) 0 (.ref it) (.ref s.heap.objs.size) (compEnvC scope (vA X scope) (s.heap.push { cls:=.type "list",dict:=none,data:=.seq ([]:List Value).toArray }).objs.size X.env))
   (RR (.ref s.heap.objs.size) (s.heap.push { cls:=.type "list",dict:=none,data:=.seq ([]:List Value).toArray }).objs.size) { s with heap:=h₁,toks:=s.toks+([]:List (Str × Value)).length }:=by
  refine nS (λn s'=>∃(i:Nat) (ys:List V) (H2:Hp) (o:Option V),bW (lC X scope _ fp _ _ N') [] (o::slots σ js) H2 s'/\tn i s'.heap/\(∀b∈fp,H2 b=none)/\W i n ys H2) ?_ m0 ⟨0,[],_,none,J4,t4,λb hb'=>(hf3 b hb').1,hw0⟩;rintro n s' ⟨i,ys,H2,o,J2,t2,f2,w2⟩;obtain ⟨hD,hcase⟩:=hW i n ys H2 w2;have Fp:∀b∈fp,gU (lC X scope (s.heap.push { cls:=.type "list",dict:=none,data:=.seq ([]:List Value).toArray }).objs.size fp { s with heap:=s.heap.push { cls:=.type "list",dict:=none,data:=.seq ([]:List Value).toArray } } (upd H s.heap.objs.size (.lst [])) N') [] H2 b:=λb hb' =>
   ⟨f2 b hb',(J2.ok.exf b hb').1,J2.ok.exfs b hb',.inl hb',(J2.ok.exf b hb').2,λp hp=>by cases hp⟩
  rcases hcase with ⟨hstop,hq⟩ | ⟨hgo,hz,hturn⟩
  ·refine wpAny_mono (T.done (lC X scope _ fp _ _ N') rfl rfl rfl rfl i [] s' _ H2 MA J2 Fp t2 hstop) (λr s1 ⟨hr,J5⟩=>?_) λ_ _ f=>f;subst hr;exact hRR _ _ _ _ _ _ I3 hf3 J5 hq
  ·refine wpAny_mono (T.item (lC X scope _ fp _ _ N') rfl rfl rfl rfl i [] s' _ H2 MA J2 Fp t2 hgo) (λr s1 ⟨u,hr,hx⟩=>?_) λ_ _ f=>f;subst hr;refine wpAny_mono hx (λ_ s2 ⟨v,H3,J3,rv,hy,t3,f3⟩=>?_) λ_ _ f=>f;have Fp3:∀b∈fp,gU (lC X scope (s.heap.push { cls:=.type "list",dict:=none,data:=.seq ([]:List Value).toArray }).objs.size fp { s with heap:=s.heap.push { cls:=.type "list",dict:=none,data:=.seq ([]:List Value).toArray } } (upd H s.heap.objs.size (.lst [])) N') [] H3 b:=λb hb' =>
    ⟨f3 b hb',(J3.ok.exf b hb').1,J3.ok.exfs b hb',.inl hb',(J3.ok.exf b hb').2,λp hp=>by cases hp⟩
   have P3:=J3.pinned Fp3 (T.obj (i+1) _ t3);have keepT:∀{σ':St} {Hx:Hp} {sx:Shared},bW (lC X scope (s.heap.push { cls:=.type "list",dict:=none,data:=.seq ([]:List Value).toArray }).objs.size fp { s with heap:=s.heap.push { cls:=.type "list",dict:=none,data:=.seq ([]:List Value).toArray } } (upd H s.heap.objs.size (.lst [])) N') ([]++qN fp s2.heap) σ' Hx sx->tn (i+1) sx.heap/\∀b∈fp,Hx b=none:=λJx =>
    ⟨T.keep (i+1) _ _ t3 λb hb' ob e=>(Jx.pin (b,ob) (aL _ (aL _ (gQ hb' e)))).1,λb hb'=>by
     obtain ⟨ob,e,_⟩:=T.obj (i+1) _ t3 b hb';exact (Jx.pin (b,ob) (aL _ (aL _ (gQ hb' e)))).2.1⟩
   refine wpAny_assign_Name (oD P3 (i:=0) (x:=x) (v:=v) ?nd ?hi ?hx rv (λs5 J5=>?_) ?hfn)
   case nd=>exact S.nd
   case hi=>exact S.zero
   case hx=>exact .inl (lookup_relabel_local S.own)
   case hfn=>exact .inr (lookup_relabel_local S.own)
   have J5':bW _ _ (some v::slots σ js) H3 s5:=J5;refine wpAny_mono (ht _ _ _ _ _ _ _ _ _ J5' (hturn v H3 hy)) (λok s6 ⟨H6,J6,q6⟩=>?_) λ_ _ f=>f;dsimp only at q6;by_cases hok:ok=true
   ·rw [if_pos hok] at q6 ⊢;refine wpAny_mono (he _ _ _ _ _ _ _ _ _ J6 q6) (λy s7 ⟨w',H7,J7,r7,hD7,m',hm',w7⟩=>?_) λ_ _ f=>f;refine wpAny_mono (pU (X:=lC X scope _ fp _ _ N') _ _ _ _ (.ref s.heap.objs.size) [w'] (.ref s.heap.objs.size) [y] (λ_ H8=>H8=upd H7 s.heap.objs.size (.lst (ys++[w']))) J7 rfl (.cons r7 .nil) ⟨_,_,_,rfl,rfl,hD7,hz,rfl⟩) (λ_ s8 ⟨_,H8,J8,_,e8⟩=>?_) λ_ _ f=>f;subst e8;obtain ⟨k1,k2⟩:=keepT J8;exact ⟨m',hm',i+1,ys++[w'],_,some v,J8.unpinned,k1,k2,w7⟩
   ·rw [if_neg hok] at q6 ⊢;obtain ⟨_,m',hm',w7⟩:=q6;obtain ⟨k1,k2⟩:=keepT J6;exact ⟨m',hm',i+1,ys,_,some v,J6.unpinned,k1,k2,w7⟩
 refine codeAny_compStart_list loop (T.self X.A 0 _ _ _ t4 loop)
theorem VB{wi:TI}(S:dJ X scope x N' js)(hi:PI X (.Name x px) iter wi)(ht:∀C fp s₀ H₀,LX (lC X scope C fp s₀ H₀ N') ifs tc)(he:∀C fp s₀ H₀,PE (lC X scope C fp s₀ H₀ N') elt te)
  (hs:∀x,foldedSetIterable iter X.env x=pure x:=by intro _;rfl):PE X (.ListComp elt [⟨.Name x px,iter,ifs,0⟩] scope pos) (aBS wi js tc te):=by
 intro pins s σ H Q I h;rw [eval_ListComp];refine wpAny_comprehension_free (use:=none) rfl hs (jW (S.cells I.ok)) S.kind S.names (wpAny_mono (hi pins s σ H _ I h) (λv s1 h1=>?_) λ_ _ e=>e);refine wpAny_mono h1 (λitv s2 ⟨it,fp,tn,J,H2,e,I2,T,t0,hf,R⟩=>?_) λ_ _ e=>e;subst e;refine GH S I2 T t0 hf ht he R ?_;intro D H3 s3 σ' H' s' I3 hf3 J3 q;obtain ⟨m,hm,_⟩:=J3.loc;exact ⟨m,hm,λh' hs'=>⟨.ref D,H',QH S I3 hf3 J3 hs',rfl,q⟩⟩
end
structure GN(X:Cx)(ifs:List Expr)(t:TT):Prop where p:LX X ifs t
def sX(t:TE):TE:=λσ H Q=>∃Q':VK,t σ H Q'/\∀v H1,Q' v H1->Q v H1
theorem PE.mono{X:Cx}{e:Expr}{t:TE}(h:PE X e t):PE X e (sX t):=λpins s σ H Q I ⟨Q',h1,h2⟩ =>
 thn (h pins s σ H Q' I h1) λb s' ⟨v,H',I',r,q⟩=>⟨v,H',I',r,h2 _ _ q⟩
theorem LX.mono{X:Cx}{es:List Expr}{t:TT}(h:LX X es t):LX X es (oC t):=λpins s σ H Q I ⟨Q',h1,h2⟩ =>
 thn (h pins s σ H Q' I h1) λb s' ⟨H',I',q⟩=>⟨H',I',h2 _ _ q⟩
@[irreducible] def nV(J:It)(σ:St)(js:List Nat)(tc:TT)(te:TE)(H1:Hp)(Q:VK):Prop:=∀D,H1 D=none->∃W:Nat->Nat->List V->Hp->Prop,(∃m,W 0 m [] (upd H1 D (.lst []))) /\
 ∀i m ys H2,W i m ys H2->H2 D=some (.lst ys)/\((J.stop i H2/\Q (.ref D) H2)\/(J.go i H2/\ys.length<sizeLine/\∀x H3,J.yld i H2 x H3 ->
  oC tc (some x::slots σ js) H3 λb H4=>if b=true then sX te (some x::slots σ js) H4 λy H5=>H5 D=some (.lst ys)/\∃m',m' < m/\W (i+1) m' (ys++[y]) (upd H5 D (.lst (ys++[y])))
   else H4 D=some (.lst ys)/\∃m',m' < m/\W (i+1) m' ys H4))
def NB(wi:TI)(js:List Nat)(tc:TT)(te:TE):TE:=λσ H Q=>wi σ H λJ H1=>nV J σ js tc te H1 Q
section
variable{X:Cx}{scope:Scope}{x y:Str}{N':List Str}{js:List Nat}{elt iter c:Expr}{px py pos spos:Pos}{ifs:List Expr}{tc:TT}{te:TE}{wi:TI}{i:Nat}
theorem dG:GN X [] AD:=⟨pts_nil⟩
theorem zV{t:TT}(h:IT X c t):GN X [c] t:=⟨UO h.p⟩
theorem eD(S:dJ X scope x N' js)(hi:IU X (.Name x px) iter wi)(ht:∀C fp s₀ H₀,GN (lC X scope C fp s₀ H₀ N') ifs tc)(he:∀C fp s₀ H₀,fJ (lC X scope C fp s₀ H₀ N') elt te)
  (hs:∀x,foldedSetIterable iter X.env x=pure x:=by intro _;rfl):fJ X (.ListComp elt [⟨.Name x px,iter,ifs,0⟩] scope pos) (NB wi js tc te) :=
 ⟨by unfold NB nV;exact VB S hi.p (λC fp s₀ H₀=>(ht C fp s₀ H₀).p.mono) (λC fp s₀ H₀=>(he C fp s₀ H₀).p.mono) hs⟩
end
def YM(psc scope:Scope)(N:List Str)(x:Str)(N':List Str)(js:List Nat):Bool :=
 (scope.names.all λy=>!(y.2 == .free) || psc.names.lookup y.1 == some .cell)&&(scope.names.all λy=>!(y.2 == .cell))&&scope.kind == .function &&
 (scope.names.all λy=>!(y.2 == .local) || scope.names.lookup y.1 == some .local)&&scope.names.lookup x == some .local &&
 (scope.names.all λy=>!(y.2 == .free) || !(scope.names.lookup y.1 == some .local))&&N'.length == js.length+1&&N'[0]? == some x&&decide N'.Nodup &&
 ((List.range js.length).all λi=>match js[i]?,N'[i+1]? with
  | some j,some y=>N[j]? == some y&&scope.names.contains (y,NameKind.free)
  | _,_=>false)
theorem dJ.of{X:Cx}{psc scope:Scope}{N:List Str}{x:Str}{N':List Str}{js:List Nat}(h:YM psc scope N x N' js=true)(hX:X.env.scope=psc)(hN:X.N=N)(hc:X.calm=true):dJ X scope x N' js:=by
 unfold YM at h;simp only [cL] at h;obtain ⟨⟨⟨⟨⟨⟨⟨⟨⟨h1,h2⟩,h3⟩,h4⟩,h5⟩,h6⟩,h7⟩,h8⟩,h9⟩,h10⟩:=h;rw [List.all_eq_true] at h1 h2 h4 h6 h10;refine ⟨hc,λy hy e=>?_,λy hy e=>?_,by simpa using h3,λy hy e=>?_,by simpa using h5,λy hy e=>?_,by simpa using h7,by simpa using h8,of_decide_eq_true h9,λi j hj=>?_⟩
 ·have:=h1 y hy;rw [e] at this;show X.env.scope.names.lookup y.1=_;rw [hX];simpa using this
 ·have:=h2 y hy;rw [e] at this;simp at this
 ·have:=h4 y hy;rw [e] at this;simpa using this
 ·have:=h6 _ hy;rw [e] at this;simp at this
 ·have hi:i<js.length:=(aY.mp hj).1;have:=h10 i (bX.mpr hi);rw [hj] at this;cases q:N'[i+1]? with
  | none=>rw [q] at this;simp at this
  | some y =>
   rw [q] at this;simp only [cL] at this;exact ⟨y,rfl,by rw [hN];simpa using this.1,List.contains_iff_mem.mp this.2⟩
section
variable{js:List Nat}{te:TE}{tc:TT}{σ:St}{H:Hp}{Q:VK}
theorem sD{J:It}{n:Nat}(src:Nat->V->Prop)(hz:n<=100000)(Pv:Addr->Nat->List V->Hp->Prop)
  (h0:∀D H1,H D=none->H1 D=some (.lst [])->aW H H1->Pv D 0 [] H1)
  (hg:∀D i ys H',i<n->H' D=some (.lst ys)->Pv D i ys H'->J.go i H'/\∀x H3,J.yld i H' x H3->H3=H'/\src i x)
  (hst:∀D ys H',H' D=some (.lst ys)->Pv D n ys H'->J.stop n H')
  (hs:∀D i x ys H',src i x->i<n->ys.length=i->H' D=some (.lst ys)->Pv D i ys H'->te (some x::slots σ js) H' λy H5=>H5 D=some (.lst ys)/\∀H6,H6 D=some (.lst (ys++[y]))->aS D H5 H6->Pv D (i+1) (ys++[y]) H6)
  (hd:∀D ys H',ys.length=n->H D=none->H' D=some (.lst ys)->Pv D n ys H'->Q (.ref D) H') :
  nV J σ js AD te H Q:=by
 unfold nV;intro D hD;refine ⟨λi m ys H'=>m=n-i/\i<=n/\ys.length=i/\H' D=some (.lst ys)/\Pv D i ys H',⟨n,by simp,cK _,rfl,bE,h0 D _ hD bE (aW.upd hD)⟩,?_⟩;rintro i m ys H2 ⟨rfl,hi,hy,hD2,p⟩;refine ⟨hD2,?_⟩;by_cases hlt:i<n
 ·obtain ⟨g1,g2⟩:=hg D i ys H2 hlt hD2 p;refine .inr ⟨g1,bC (m:=100000) Oo Dd,λx H3 hy3=>?_⟩;obtain ⟨rfl,hx⟩:=g2 x H3 hy3;refine ⟨λb H4=>b=true/\H4=H3,⟨rfl,rfl⟩,?_⟩;rintro b H4 ⟨rfl,rfl⟩;rw [if_pos rfl];refine ⟨_,hs D i x ys H4 hx hlt hy hD2 p,?_⟩;rintro v H5 ⟨hD5,k⟩;exact ⟨hD5,n-(i+1),Oo,rfl,hlt,by rw [bI,hy];rfl,bE,k _ bE aS.self⟩
 ·have e:i=n:=Oo;subst e;exact .inl ⟨hst D ys H2 hD2 p,hd D ys H2 hy hD hD2 p⟩
end
@[irreducible] def OB(K:PySem.W.Frag):List V->Hp->VK->Prop:=λxs H Q=>∃(p:Addr) (ns:List Int),xs=[.ref p]/\eZ K H p (ns.map V.int)/\Q (.int ns.sum) H
@[irreducible] def JY(b:Bool):R2:=λx y H Q=>∃d d',bQ H d x/\bQ H d' y/\SeqAt.shaped d=true/\SeqAt.shaped d'=true/\Q (.bl (b == PyData.eqv d d')) H
section
variable{X:Cx}
theorem QK(hc:X.calm=true):fO X (.builtin "sum") (OB X.K):=by
 unfold OB;intro pins s σ H xs us Q I r h;obtain ⟨p,ns,rfl,hq,q⟩:=h;obtain ⟨u,rfl,rx⟩:=kM r;cases rx;obtain ⟨its,r',pl,hz⟩:=I.list hq;have hi:=nK r';obtain ⟨xs',e⟩:=hi.allInts.items;rw [e] at pl;refine sum_intListG (I.ok.hd hc) pl.isList λh' tk t' hk=>⟨.int ns.sum,H,I.kept hk,⟨t',?_⟩,q⟩;rw [preSum_eq,List.take_of_length_le (by simp)];rw [<-hi.numsOf];have e2:its=(intItems xs').toList:=by rw [<-e]
 rw [e2,nums_intItems]
theorem rsI{K:PySem.W.Frag}{H:Hp}{p:Addr}{ns:List Int}{Q:VK}(h:eZ K H p (ns.map V.int))(q:Q (.int ns.sum) H):OB K [.ref p] H Q:=by unfold OB;exact ⟨p,ns,rfl,h,q⟩
theorem FW(hu:X.A.units+64<cLine):nZ X (compareOp .Eq) (JY true):=by
 unfold JY;intro pins s σ H x y v u Q I rx ry h;obtain ⟨d,d',h1,h2,s1,s2,q⟩:=h;obtain ⟨as,ra⟩:=h1.reads I rx;obtain ⟨bs,rb⟩:=h2.reads I ry;exact SeqAt.compareEq_shaped ra rb s1 s2 hu ⟨.bl _,H,I,by show _=_;simp,q⟩
theorem FV(hu:X.A.units+64<cLine):nZ X (compareOp .NotEq) (JY false):=by
 unfold JY;intro pins s σ H x y v u Q I rx ry h;obtain ⟨d,d',h1,h2,s1,s2,q⟩:=h;obtain ⟨as,ra⟩:=h1.reads I rx;obtain ⟨bs,rb⟩:=h2.reads I ry;exact SeqAt.compareNe_shaped ra rb s1 s2 hu ⟨.bl _,H,I,by show _=_;simp,q⟩
theorem reD{b:Bool}{x y:V}{d d':PyData}{H:Hp}{Q:VK}(h1:bQ H d x)(h2:bQ H d' y)(s1:SeqAt.shaped d=true)(s2:SeqAt.shaped d'=true)(q:Q (.bl (b == PyData.eqv d d')) H):JY b x y H Q:=by
 unfold JY;exact ⟨d,d',h1,h2,s1,s2,q⟩
end
mutual
theorem mI:∀d:PyData,d.hasDict=false->PyData.eqv d d=true
 | .none,_=>by simp [PyData.eqv]
 | .bool _,_=>by simp [PyData.eqv]
 | .int _,_=>by simp [PyData.eqv]
 | .str _,_=>by simp [PyData.eqv]
 | .list xs,h=>by simp only [PyData.eqv];exact pA xs (by simpa [PyData.hasDict] using h)
 | .tuple xs,h=>by simp only [PyData.eqv];exact pA xs (by simpa [PyData.hasDict] using h)
 | .dict _,h=>by simp [PyData.hasDict] at h
theorem pA:∀ds:List PyData,PyData.hasDictAll ds=false->PyData.eqvAll ds ds=true
 | [],_=>by simp [PyData.eqvAll]
 | d::ds,h=>by
  simp only [PyData.hasDictAll,Bool.or_eq_false_iff] at h;simp only [PyData.eqvAll,mI d h.1,pA ds h.2,Bool.and_self]
end
mutual
def eI:PyData->Bool
 | .list _=>false
 | .dict _=>false
 | .tuple ds=>fA ds
 | _=>true
def fA:List PyData->Bool
 | []=>true
 | d::ds=>eI d&&fA ds
end
def fN(H H':Hp):Prop:=∀b xs,H b=some (.tup xs)->H' b=some (.tup xs)
theorem fN.trans{H H1 H2:Hp}(a:fN H H1)(b:fN H1 H2):fN H H2:=λc o h=>b c o (a c o h)
theorem aW.t{H H':Hp}(s:aW H H'):fN H H':=λb xs h=>s _ _ h
theorem aS.t{H H':Hp}{p:Addr}(s:aS p H H'){xs:List V}(hp:H p=some (.lst xs)):fN H H':=λb ys h=>s.at (mE h hp (by intro z;cases z)) h
mutual
theorem bQ.flat{H H':Hp}(s:fN H H'):∀{d:PyData}{v:V},eI d=true->bQ H d v->bQ H' d v
 | .none,_,_,h=>h
 | .bool _,_,_,h=>h
 | .int _,_,_,h=>h
 | .str _,_,_,h=>h
 | .list _,_,f,_=>by simp [eI] at f
 | .dict _,_,f,_=>by simp [eI] at f
 | .tuple ds,_,f,h=>by
  unfold bQ at h ⊢;obtain ⟨a,ys,rfl,h1,h2⟩:=h;exact ⟨a,ys,rfl,s _ _ h1,aX.flat s (by simpa [eI] using f) h2⟩
theorem aX.flat{H H':Hp}(s:fN H H'):∀{ds:List PyData}{vs:List V},fA ds=true->aX H ds vs->aX H' ds vs
 | [],_,_,h=>h
 | d::ds,_,f,h=>by
  unfold aX at h ⊢;obtain ⟨x,ys,rfl,h1,h2⟩:=h;simp only [fA,cL] at f;exact ⟨x,ys,rfl,bQ.flat s f.1 h1,aX.flat s f.2 h2⟩
end
theorem aX.get{H:Hp}:∀{ds:List PyData}{vs:List V}{i:Nat}{v:V},aX H ds vs->vs[i]?=some v->∃d,ds[i]?=some d/\bQ H d v
 | [],_,i,v,h,e=>by cases (show _=[] from h);simp at e
 | d::ds,_,i,v,h,e=>by
  unfold aX at h;obtain ⟨x,ys,rfl,h1,h2⟩:=h;cases i with
  | zero=>simp at e;subst e;exact ⟨d,rfl,h1⟩
  | succ i =>
   rw [List.getElem?_cons_succ] at e ⊢;exact aX.get h2 e
theorem aX.get'{H:Hp}:∀{ds:List PyData}{vs:List V}{i:Nat}{d:PyData},aX H ds vs->ds[i]?=some d->∃v,vs[i]?=some v/\bQ H d v
 | [],_,i,d,h,e=>by simp at e
 | d' :: ds,_,i,d,h,e=>by
  unfold aX at h;obtain ⟨x,ys,rfl,h1,h2⟩:=h;cases i with
  | zero=>simp at e;subst e;exact ⟨x,rfl,h1⟩
  | succ i =>
   rw [List.getElem?_cons_succ] at e ⊢;exact aX.get' h2 e
theorem aX.snoc{H:Hp}{ds:List PyData}{vs:List V}{d:PyData}{v:V}(h:aX H ds vs)(r:bQ H d v):aX H (ds++[d]) (vs++[v]):=aX.append (aX.cons r aX.nil) h
theorem GK{i:Int}{n:Nat}(h:i.natAbs<2^n):bits i<=n:=PySem.intBits_le_iff.mpr h
theorem FY{i j:Int}{n m:Nat}(h1:i.natAbs<2^n)(h2:j.natAbs<2^m)(hn:n<=1048576:=by decide)(hm:m<=1048576:=by decide):IntMulOk i j:=by
 refine IntMulOk.of_bits ?_ ?_
 ·exact bG (GK h1) hn
 ·exact bG (GK h2) hm
section
variable{X:Cx}(K:PySem.W.Frag)
theorem fE(h:X.K=K:=by rfl):RN X (rIx K):=by subst h;exact bY
theorem IN(h:X.K=K:=by rfl):fO X (.builtin "len") (wG K):=by subst h;exact fT
theorem WN(hc:X.calm=true)(h:X.K=K:=by rfl):fO X (.builtin "sum") (OB K):=by subst h;exact QK hc
end
end L2
namespace L2
open PySem
def xX(b:Bool)(h:Heap)(i l:Addr)(k:Nat):Prop:=∃o,h.get? i=some o/\o.cls=.type (bif b then "tuple_iterator" else "list_iterator")/\o.data=.fields #[.ref l,.int k 0]
def lM(b:Bool)(h:Heap)(l:Addr)(xs:Array Value):Prop:=∃o,h.get? l=some o/\o.cls=.type (bif b then "tuple" else "list")/\∃n,o.data=.seq xs n
theorem xX.at{b:Bool}{h h':Heap}{i l:Addr}{k:Nat}(x:xX b h i l k)(f:∀o,h.get? i=some o->h'.get? i=some o):xX b h' i l k:=let ⟨o,ho,r⟩:=x;⟨o,f o ho,r⟩
theorem lM.at{b:Bool}{h h':Heap}{l:Addr}{xs:Array Value}(x:lM b h l xs)(f:∀o,h.get? l=some o->h'.get? l=some o):lM b h' l xs:=let ⟨o,ho,r⟩:=x;⟨o,f o ho,r⟩
section
variable{prog:Program}{w:World}{A:Around}{E:Value->Shared->Prop}{s:Shared}
theorem AU{b:Bool}{it l:Addr}{i:Nat}{items:Array Value}{x:Value}{Q:Value->Shared->Prop}(hit:xX b s.heap it l i)(hl:lM b s.heap l items)(hx:items[i]?=some x)
  (hQ:∀h',xX b h' it l (i+1)->Heap.SameBut it s.heap h'->Q x { s with heap:=h' }):wpAny (model prog w) A (Builtin.SmallTypes.nextOf (.ref it)) Q E s:=by
 cases b with
 | false=>exact wpAny_nextOf_list_item hit hl hx hQ
 | true =>
  have ty:s.heap.IsTupleIter it l i:=hit;obtain ⟨o,ho,hc,hd⟩:=id ty;obtain ⟨ol,hol,_,nl,hdl⟩:=hl;unfold Builtin.SmallTypes.nextOf;refine wpAny_bind (wpAny_callSpecial?_slot (name:=Str.ofString "__next__") ty.typeIs F.slot_tuple_iterator_next (wpAny_call_entry F.slot_tuple_iterator_next ty.typeIs F.entry_tuple_iterator_next ?_ (F.args_tuple_iterator_next_1 _)));show wpAny _ _ (field (.ref it) 0 >>= _) _ _ s;refine wpAny_bind (wpAny_field ho hd (x:=.ref l) rfl ?_);show wpAny _ _ (if (Value.ref l == Value.none)=true then _ else _) _ _ s;rw [if_neg (show ¬((Value.ref l == Value.none)=true) from bN)];show wpAny _ _ (field (.ref it) 1 >>= _) _ _ s;refine wpAny_bind (wpAny_field ho hd (x:=.int i 0) rfl ?_);show wpAny _ _ (seqItems? (.ref l) >>= _) _ _ s;refine wpAny_bind (wpAny_seqItems hol hdl ?_);simp only [Int.toNat_natCast,hx];refine wpAny_bind (wpAny_setField ho hd (by simp) (wpAny_pure ⟨x,rfl,wpAny_pure (hQ _ ?_ (Heap.SameBut.update ..))⟩));refine ⟨_,Heap.get?_update_self _ ho (Obj.isFreed_of_fields (Obj.data_mapFields hd _)),(Obj.cls_mapFields ..).trans hc,?_⟩;rw [Obj.data_mapFields hd];simp [rawInt]
theorem OU{b:Bool}{it l:Addr}{i:Nat}{items:Array Value}{Q:Value->Shared->Prop}(hh:A.handled=none)(hit:xX b s.heap it l i)(hl:lM b s.heap l items)(hx:items[i]?=none)
  (hE:∀h' e,Heap.ExtBut it s.heap h'->(∃o,h'.get? e=some o/\o.cls=.type "StopIteration")->E (.ref e) { s with heap:=h' }):wpAny (model prog w) A (Builtin.SmallTypes.nextOf (.ref it)) Q E s:=by
 cases b with
 | false=>exact wpAny_nextOf_list_end hh hit hl hx hE
 | true =>
  have ty:s.heap.IsTupleIter it l i:=hit;obtain ⟨o,ho,hc,hd⟩:=id ty;obtain ⟨ol,hol,_,nl,hdl⟩:=hl;unfold Builtin.SmallTypes.nextOf;refine wpAny_bind (wpAny_callSpecial?_slot (name:=Str.ofString "__next__") ty.typeIs F.slot_tuple_iterator_next (wpAny_call_entry F.slot_tuple_iterator_next ty.typeIs F.entry_tuple_iterator_next ?_ (F.args_tuple_iterator_next_1 _)));show wpAny _ _ (field (.ref it) 0 >>= _) _ _ s;refine wpAny_bind (wpAny_field ho hd (x:=.ref l) rfl ?_);show wpAny _ _ (if (Value.ref l == Value.none)=true then _ else _) _ _ s;rw [if_neg (show ¬((Value.ref l == Value.none)=true) from bN)];show wpAny _ _ (field (.ref it) 1 >>= _) _ _ s;refine wpAny_bind (wpAny_field ho hd (x:=.int i 0) rfl ?_);show wpAny _ _ (seqItems? (.ref l) >>= _) _ _ s;refine wpAny_bind (wpAny_seqItems hol hdl ?_);simp only [Int.toNat_natCast,hx];refine wpAny_bind (wpAny_rule (wpAny_bind (wpAny_setField ho hd (by simp) ?_)));show wpAny _ _ (newExc (.type "StopIteration") [] >>= _) _ _ _;refine wpAny_bind ?_;simp only [newExc,newTuple];refine wpAny_bind (wpAny_newObj_type ?_ (by size_fits));refine wpAny_bind (m:=firstArgMember _ _) (wpAny_of_eq (a:=Value.none) (by first | rfl | (simp only [firstArgMember];rfl)) ?_);refine wpAny_newObj_type ?_ (by size_fits);simp only [raiseNew];refine wpAny_bind (wpAny_handled ?_)
  first | rw [show A.in1.handled=none from hh] | rw [hh]
  refine wpAny_bind (wpAny_pure (wpAny_throw ?_));exact hE _ _ (((Heap.SameBut.update ..).extBut.push _).push _) ⟨_,aP _ rfl,rfl⟩
structure YN(b1 b2:Bool)(z TI TO i1 i2 l1 l2:Addr)(f:Value)(k:Nat)(h:Heap):Prop where
 z:IsZip h z TI TO f
 ti:IsPair h TI (.ref i1) (.ref i2)
 to:∃a b,IsPair h TO a b
 i1:xX b1 h i1 l1 k
 i2:xX b2 h i2 l2 k
theorem JA{b1 b2:Bool}{z TI TO i1 i2 l1 l2:Addr}{k:Nat}{xs ys:Array Value}{x y:Value}{Q:Value->Shared->Prop}(D:ZipApart z TI TO i1 i2 l1 l2)(Z:YN b1 b2 z TI TO i1 i2 l1 l2 .none k s.heap)
  (hl1:lM b1 s.heap l1 xs) (hl2:lM b2 s.heap l2 ys) (hx:xs[k]?=some x) (hy:ys[k]?=some y)
  (hQ:∀h',YN b1 b2 z TI TO i1 i2 l1 l2 (rawInt s.heap.objs.size) (k+1) h'->IsPair h' s.heap.objs.size x y->(∀c o,c≠z->c≠TO->c≠i1->c≠i2->s.heap.get? c=some o->h'.get? c=some o)->Q (.ref s.heap.objs.size) { s with heap:=h' }) :
  wpAny (model prog w) A (Builtin.«zip.__next__» ⟨[.ref z],[]⟩) (λfin s'=>∃v,fin=.done (.ret v)/\Q v s') E s:=by
 obtain ⟨hz,hTI,⟨a,b,hTO⟩,h1,h2⟩:=Z;show wpAny _ _ (field (.ref z) 2 >>= _) _ _ _;refine wpAny_bind (wpAny_field hz rfl (x:=.bool false) rfl ?_);show wpAny _ _ (field (.ref z) 3 >>= _) _ _ _;refine wpAny_bind (wpAny_field hz rfl (x:=.ref TI) rfl ?_);refine wpAny_bind (wpAny_seqItems hTI rfl ?_);show wpAny _ _ (Builtin.SmallTypes.ownedTupleIsFree (.ref z) >>= _) _ _ _;refine wpAny_bind ?_;unfold Builtin.SmallTypes.ownedTupleIsFree;refine wpAny_bind (wpAny_field hz rfl (x:=.none) rfl (wpAny_pure ?_));simp only [if_true];refine wpAny_bind (wpAny_rule ?_);refine wpAny_bind (wpAny_field hz rfl (x:=.ref TO) rfl ?_);refine wpAny_bind (wpAny_setField_rec hz (by simp) λh₁ hz₁ hs₁=>?_);have g₁:=hs₁.extBut;replace hz₁:IsZip h₁ z TI TO .ellipsis:=hz₁;refine wpAny_bind ?_;simp only [List.zipIdx_cons,List.zipIdx_nil,List.forIn_cons,List.forIn_nil];refine wpAny_bind (wpAny_bind (wpAny_onRaise ?_));show wpAny _ _ (Builtin.SmallTypes.nextOf (.ref i1) >>= _) _ _ _;refine wpAny_bind (AU (h1.at λo e=>g₁ _ o D.i1z e) (hl1.at λo e=>g₁ _ o D.l1z e) hx λh₂ h1₂ hs₂=>wpAny_pure ?_);have g₂:=hs₂.extBut;have hTO₂:IsPair h₂ TO a b:=g₂ _ _ D.TOi1 (g₁ _ _ D.TOz hTO);refine wpAny_bind (wpAny_seqItems hTO₂ rfl ?_);refine wpAny_bind (wpAny_updateSeq_pair hTO₂ λh₃ hTO₃ hs₃=>?_);have g₃:=hs₃.extBut;replace hTO₃:IsPair h₃ TO x b:=hTO₃;refine wpAny_bind (wpAny_letGo (wpAny_pure ?_));refine wpAny_bind (wpAny_bind (wpAny_onRaise ?_));show wpAny _ _ (Builtin.SmallTypes.nextOf (.ref i2) >>= _) _ _ _
 refine wpAny_bind (AU (h2.at λo e=>g₃ _ o D.TOi2.symm (g₂ _ o D.i12.symm (g₁ _ o D.i2z e))) (hl2.at λo e=>g₃ _ o D.l2TO (g₂ _ o D.l2i1 (g₁ _ o D.l2z e))) hy λh₄ h2₄ hs₄=>wpAny_pure ?_);have g₄:=hs₄.extBut;have hTO₄:IsPair h₄ TO x b:=g₄ _ _ D.TOi2 hTO₃;refine wpAny_bind (wpAny_seqItems hTO₄ rfl ?_);refine wpAny_bind (wpAny_updateSeq_pair hTO₄ λh₅ hTO₅ hs₅=>?_);have g₅:=hs₅.extBut;replace hTO₅:IsPair h₅ TO x y:=hTO₅;refine wpAny_bind (wpAny_letGo (wpAny_pure (wpAny_pure ?_)));refine wpAny_bind (wpAny_seqItems hTO₅ rfl ?_);refine wpAny_bind (wpAny_newTuple ?_);have hsz:h₅.objs.size=s.heap.objs.size:=by rw [hs₅.1,hs₄.1,hs₃.1,hs₂.1,hs₁.1]
 have hz₅:IsZip h₅ z TI TO .ellipsis:=g₅ _ _ D.TOz.symm (g₄ _ _ D.i2z.symm (g₃ _ _ D.TOz.symm (g₂ _ _ D.i1z.symm hz₁)));have hk₅:∀c o,c≠z->c≠TO->c≠i1->c≠i2->s.heap.get? c=some o->h₅.get? c=some o:=λc o c1 c2 c3 c4 e=>g₅ _ _ c2 (g₄ _ _ c4 (g₃ _ _ c2 (g₂ _ _ c3 (g₁ _ _ c1 e))));have h1₅:xX b1 h₅ i1 l1 (k+1):=h1₂.at λo e=>g₅ _ o D.TOi1.symm (g₄ _ o D.i12 (g₃ _ o D.TOi1.symm e));have h2₅:xX b2 h₅ i2 l2 (k+1):=h2₄.at λo e=>g₅ _ o D.TOi2.symm e;have hzlt:=aT hz₅;show wpAny _ _ (Builtin.SmallTypes.ownedTupleHandOut (.ref z) (.ref h₅.objs.size) >>= _) _ _ _;refine wpAny_bind ?_;unfold Builtin.SmallTypes.ownedTupleHandOut;have hz₆:IsZip (h₅.push { cls:=.type "tuple",data:=.seq #[x,y] }) z TI TO .ellipsis:=aB _ hz₅;refine wpAny_bind (wpAny_setField_rec hz₆ (by simp) λh₇ hz₇ hs₇=>?_);replace hz₇:IsZip h₇ z TI TO (rawInt h₅.objs.size):=hz₇;refine wpAny_setField_rec hz₇ (by simp) λh₈ hz₈ hs₈=>?_;replace hz₈:IsZip h₈ z TI TO (rawInt h₅.objs.size):=hz₈;have up:∀c o,c≠z->h₅.get? c=some o->h₈.get? c=some o:=λc o c1 e=>hs₈.extBut _ _ c1 (hs₇.extBut _ _ c1 (aB _ e));have hT₈:IsPair h₈ h₅.objs.size x y:=hs₈.extBut _ _ (Nat.ne_of_gt hzlt) (hs₇.extBut _ _ (Nat.ne_of_gt hzlt) (aP _ rfl));rw [hsz] at hz₈ hT₈;refine wpAny_pure ⟨_,rfl,?_⟩;show Q (.ref h₅.objs.size) _;rw [hsz]
 exact hQ h₈ ⟨hz₈,up _ _ D.TIz (hk₅ _ _ D.TIz D.TITO D.TIi1 D.TIi2 hTI),⟨_,_,up _ _ D.TOz hTO₅⟩,h1₅.at λo e=>up _ o D.i1z e,h2₅.at λo e=>up _ o D.i2z e⟩ hT₈ λc o c1 c2 c3 c4 e=>up c o c1 (hk₅ c o c1 c2 c3 c4 e)
theorem MD{b1 b2:Bool}{z TI TO i1 i2 l1 l2:Addr}{k:Nat}{xs ys:Array Value}{Q:Fin->Shared->Prop}(hh:A.handled=none)(D:ZipApart z TI TO i1 i2 l1 l2)(Z:YN b1 b2 z TI TO i1 i2 l1 l2 .none k s.heap)
  (hl1:lM b1 s.heap l1 xs) (hl2:lM b2 s.heap l2 ys) (hend:xs[k]?=none\/ys[k]?=none)
  (hE:∀h' e,(∀c o,c≠z->c≠TO->c≠i1->c≠i2->s.heap.get? c=some o->h'.get? c=some o)->(∃o,h'.get? e=some o/\o.cls=.type "StopIteration")->E (.ref e) { s with heap:=h' }) :
  wpAny (model prog w) A (Builtin.«zip.__next__» ⟨[.ref z],[]⟩) Q E s:=by
 obtain ⟨hz,hTI,⟨a,b,hTO⟩,h1,h2⟩:=Z;show wpAny _ _ (field (.ref z) 2 >>= _) _ _ _;refine wpAny_bind (wpAny_field hz rfl (x:=.bool false) rfl ?_);show wpAny _ _ (field (.ref z) 3 >>= _) _ _ _;refine wpAny_bind (wpAny_field hz rfl (x:=.ref TI) rfl ?_);refine wpAny_bind (wpAny_seqItems hTI rfl ?_);show wpAny _ _ (Builtin.SmallTypes.ownedTupleIsFree (.ref z) >>= _) _ _ _;refine wpAny_bind ?_;unfold Builtin.SmallTypes.ownedTupleIsFree;refine wpAny_bind (wpAny_field hz rfl (x:=.none) rfl (wpAny_pure ?_));simp only [if_true];refine wpAny_bind (wpAny_rule ?_);refine wpAny_bind (wpAny_field hz rfl (x:=.ref TO) rfl ?_);refine wpAny_bind (wpAny_setField_rec hz (by simp) λh₁ hz₁ hs₁=>?_);have g₁:=hs₁.extBut;replace hz₁:IsZip h₁ z TI TO .ellipsis:=hz₁;refine wpAny_bind ?_;simp only [List.zipIdx_cons,List.zipIdx_nil,List.forIn_cons,List.forIn_nil];refine wpAny_bind (wpAny_bind (wpAny_onRaise ?_));show wpAny _ _ (Builtin.SmallTypes.nextOf (.ref i1) >>= _) _ _ _;cases hx:xs[k]? with
 | none =>
  refine wpAny_bind (OU hh (h1.at λo e=>g₁ _ o D.i1z e) (hl1.at λo e=>g₁ _ o D.l1z e) hx λh₂ e hs₂ he=>?_);obtain ⟨oe,hoe,hce⟩:=he;have hz₂:IsZip h₂ z TI TO .ellipsis:=hs₂ _ _ D.i1z.symm hz₁;have hez:e≠z:=λx=>by subst x;rw [hz₂] at hoe;cases hoe;simp at hce
  exact wpAny_setField_rec hz₂ (by simp) λh₃ _ hs₃=>hE h₃ e (λc o c1 _ c3 _ x=>hs₃.extBut _ _ c1 (hs₂ _ _ c3 (g₁ _ _ c1 x))) ⟨oe,hs₃.extBut _ _ hez hoe,hce⟩
 | some x =>
  have hy:ys[k]?=none:=by
   rcases hend with h | h
   ·rw [hx] at h;cases h
   ·exact h
  refine wpAny_bind (AU (h1.at λo e=>g₁ _ o D.i1z e) (hl1.at λo e=>g₁ _ o D.l1z e) hx λh₂ h1₂ hs₂=>wpAny_pure ?_);have g₂:=hs₂.extBut;have hTO₂:IsPair h₂ TO a b:=g₂ _ _ D.TOi1 (g₁ _ _ D.TOz hTO);refine wpAny_bind (wpAny_seqItems hTO₂ rfl ?_);refine wpAny_bind (wpAny_updateSeq_pair hTO₂ λh₃ hTO₃ hs₃=>?_);have g₃:=hs₃.extBut;refine wpAny_bind (wpAny_letGo (wpAny_pure ?_));refine wpAny_bind (wpAny_bind (wpAny_onRaise ?_));show wpAny _ _ (Builtin.SmallTypes.nextOf (.ref i2) >>= _) _ _ _;refine wpAny_bind (OU hh (h2.at λo e=>g₃ _ o D.TOi2.symm (g₂ _ o D.i12.symm (g₁ _ o D.i2z e))) (hl2.at λo e=>g₃ _ o D.l2TO (g₂ _ o D.l2i1 (g₁ _ o D.l2z e))) hy λh₄ e hs₄ he=>?_);obtain ⟨oe,hoe,hce⟩:=he;have hz₄:IsZip h₄ z TI TO .ellipsis:=hs₄ _ _ D.i2z.symm (g₃ _ _ D.TOz.symm (g₂ _ _ D.i1z.symm hz₁));have hez:e≠z:=λx=>by subst x;rw [hz₄] at hoe;cases hoe;simp at hce
  exact wpAny_setField_rec hz₄ (by simp) λh₅ _ hs₅=>hE h₅ e (λc o c1 c2 c3 c4 x=>hs₅.extBut _ _ c1 (hs₄ _ _ c4 (g₃ _ _ c2 (g₂ _ _ c3 (g₁ _ _ c1 x))))) ⟨oe,hs₅.extBut _ _ hez hoe,hce⟩
theorem IZ{b1 b2:Bool}{z TI TO i1 i2 l1 l2:Addr}{k:Nat}{xs ys:Array Value}{x y:Value}{Q:Option Value->Shared->Prop}(D:ZipApart z TI TO i1 i2 l1 l2)(Z:YN b1 b2 z TI TO i1 i2 l1 l2 .none k s.heap)
  (hl1:lM b1 s.heap l1 xs) (hl2:lM b2 s.heap l2 ys) (hx:xs[k]?=some x) (hy:ys[k]?=some y)
  (hQ:∀h',YN b1 b2 z TI TO i1 i2 l1 l2 (rawInt s.heap.objs.size) (k+1) h'->IsPair h' s.heap.objs.size x y->(∀c o,c≠z->c≠TO->c≠i1->c≠i2->s.heap.get? c=some o->h'.get? c=some o)->Q (some (.ref s.heap.objs.size)) { s with heap:=h' }) :
  wpAny (model prog w) A (pyNext (.ref z)) Q E s:=by
 have hT:s.TypeIs (.ref z) "zip" := ⟨_,Z.z,rfl⟩;unfold pyNext;refine wpAny_bind (wpAny_attempt (wpAny_callSpecial?_slot (name:=Str.ofString "__next__") hT F.slot_zip_next (wpAny_call_entry F.slot_zip_next hT F.entry_zip_next ?_ (F.args_zip_next_1 _))));exact JA D Z hl1 hl2 hx hy λh' a1 a2 a3=>wpAny_pure (hQ h' a1 a2 a3)
theorem IY{b1 b2:Bool}{z TI TO i1 i2 l1 l2:Addr}{k:Nat}{xs ys:Array Value}{Q:Option Value->Shared->Prop}(hh:A.handled=none)(D:ZipApart z TI TO i1 i2 l1 l2)(Z:YN b1 b2 z TI TO i1 i2 l1 l2 .none k s.heap)
  (hl1:lM b1 s.heap l1 xs) (hl2:lM b2 s.heap l2 ys) (hend:xs[k]?=none\/ys[k]?=none)
  (hQ:∀h',(∀c o,c≠z->c≠TO->c≠i1->c≠i2->s.heap.get? c=some o->h'.get? c=some o)->Q none { s with heap:=h' }):wpAny (model prog w) A (pyNext (.ref z)) Q E s:=by
 have hT:s.TypeIs (.ref z) "zip" := ⟨_,Z.z,rfl⟩;unfold pyNext;refine wpAny_bind (wpAny_attempt (wpAny_callSpecial?_slot (name:=Str.ofString "__next__") hT F.slot_zip_next (wpAny_call_entry F.slot_zip_next hT F.entry_zip_next ?_ (F.args_zip_next_1 _))));refine MD hh D Z hl1 hl2 hend λh' e hk he=>?_;obtain ⟨o,ho,hc⟩:=he;refine wpAny_bind (wpAny_isInstance (T := "StopIteration") (b:=true) ⟨o,ho,hc⟩ isSubtype_stop ?_);exact wpAny_pure (hQ _ hk)
abbrev itO(b:Bool)(l:Addr):Obj:={ cls:=.type (bif b then "tuple_iterator" else "list_iterator"),data:=.fields #[.ref l,.int 0 0] }
theorem YE{b:Bool}{l:Addr}{xs:Array Value}{Q:Value->Shared->Prop}(h:lM b s.heap l xs)(q:Q (.ref s.heap.objs.size) { s with heap:=s.heap.push (itO b l) }):wpAny (model prog w) A (pyIter (.ref l)) Q E s:=by
 cases b with
 | false=>exact wpAny_pyIter_list h q
 | true=>exact wpAny_pyIter_tuple h q
end
end L2
namespace L2
open PySem PySem.Spec PyProof.Rows
section
variable{X:Cx}{pins:List (Addr × Obj)}{σ:St}{H:Hp}{s:Shared}{h':Heap}
theorem bW.turnedL{t':Nat}{fp:List Addr}(I:bW X pins σ H s)(k:∀b o,b ∉ fp->s.heap.get? b=some o->h'.get? b=some o)(hf:∀b∈fp,gU X pins H b):bW X pins σ H { s with heap:=h',toks:=t' }:=by
 have nit:∀b u,H b=some u->b ∉ fp:=λb u e z=>by rw [(hf b z).1] at e;cases e
 refine I.step (g':=s.gens) (d':=s.drawn) (ch:=fp) (λb hb=>?_) (λb o _ _ hc e _=>k b o hc e) (λb o _ _ hc e _=>⟨o.slots,k b o hc e⟩) (λ_ _ _ _ n=>n)
  (λb o hc e=>⟨o,k b o hc e⟩) (λ_ _ e=>e) (λ_ _ _ e=>e) (λb ps e=>⟨#[],by rw [e];simp⟩) (λm hm=>?_) (λb u e=>?_) I.bare
 ·obtain ⟨f0,f1,f2,f3,f4,f5⟩:=hf b hb;exact ⟨f3,f1,f4,f5⟩
 ·obtain ⟨o,es,ep,ho,r⟩:=hm;exact ⟨o,es,ep,k _ o (λz=>(hf _ z).2.1 rfl) ho,r⟩
 ·refine (I.hok b u e).stay (λc v hc q=>k c v ?_ q) (λ_ q=>q) λ_ _ q=>q;rcases hc with z | z
  ·rw [z];exact nit b u e
  ·exact nit c _ z
theorem Un.putE{fs ex:List Addr}{H H1:Hp}{h h1:Heap}{a:Addr}{u:HO}(x:Un fs ex H H1 h h1)(ha:h.get? a=none)(hn:H1 a=none):Un fs ex H (upd H1 a u) h h1 where
 keep:=x.keep
 slot:=x.slot
 free:=λb ob e n m=>by rw [bP (λz=>by subst z;rw [ha] at e;cases e)];exact x.free b ob e n m
 there:=x.there
 tups:=λb xs e=>by rw [bP (cW (x.tups b xs e) hn)];exact x.tups b xs e
 frzs:=λb ob xs e=>by rw [bP (cW (x.frzs b ob xs e) hn)];exact x.frzs b ob xs e
 tbls:=λb ps e=>by
  obtain ⟨m,q⟩:=x.tbls b ps e;exact ⟨m,by rw [bP (cW q hn)];exact q⟩
theorem nU.putE{P:Program}{w:World}{h:Heap}{a:Addr}{u:HO}(x:nU P w H h)(hn:H a=none)(new:dM P w (upd H a u) h a u):nU P w (upd H a u) h:=λb v e=>by
 by_cases hb:b=a
 ·subst hb;rw [bE] at e;cases e;exact new
 ·rw [bP hb] at e;exact (x b v e).stay (λc q _ r=>r) (λc q=>by rw [bP (cW q hn)];exact q) λc xs q=>by rw [bP (cW q hn)];exact q
theorem bW.put{a:Addr}{o:HO}(I:bW X pins σ H s)(f:gU X pins H a)(hs:X.s₀.heap.get? a=none)(new:dM X.prog X.w (upd H a o) s.heap a o):bW X pins σ (upd H a o) s :=
 ⟨I.ok,I.os,I.bare,I.base.putE hs f.1,I.loc,I.cell,by rw [bP (Ne.symm f.2.1)];exact I.free,λx c e=>by rw [bP (f.2.2.2.2.1 x c e)];exact I.freeC x c e,λp hp=>by
  obtain ⟨q1,q2,q3⟩:=I.pin p hp;exact ⟨q1,by rw [bP (f.2.2.2.2.2 p hp)];exact q2,q3⟩,nU.putE I.hok f.1 new,I.len⟩
def EM(b:Bool)(xs:List V):HO:=bif b then .tup xs else .lst xs
theorem EM.inj{b:Bool}{xs ys:List V}(h:some (EM b xs)=some (EM b ys)):xs=ys:=by
 cases b <;> (injection h with h;injection h)
theorem bW.sq{b:Bool}{a:Addr}{xs:List V}(I:bW X pins σ H s)(h:H a=some (EM b xs)):∃its:List Value,cV xs its/\lM b s.heap a its.toArray:=by
 cases b with
 | false=>obtain ⟨its,r,p,_⟩:=I.list (eZ.of h);exact ⟨its,r,p.isList⟩
 | true=>obtain ⟨its,r,p,_⟩:=I.tuple (dO.of h);exact ⟨its,r,p⟩
end
def Itz(b1 b2:Bool)(l1 l2:Addr):It :=
  ⟨λi H=>∃xs ys x y,H l1=some (EM b1 xs)/\H l2=some (EM b2 ys)/\xs[i]?=some x/\ys[i]?=some y,
   λi H v H'=>∃q x y,v=.ref q/\H q=none/\H'=upd H q (.tup [x,y])/\∀xs ys,H l1=some (EM b1 xs)->H l2=some (EM b2 ys)->xs[i]?=some x/\ys[i]?=some y,
   λi H=>∃xs ys,H l1=some (EM b1 xs)/\H l2=some (EM b2 ys)/\(xs.length<=i\/ys.length<=i)⟩
structure ZD(z TI TO i1 i2:Addr):Prop where
 TIz:TI≠z
 TOz:TO≠z
 i1z:i1≠z
 i2z:i2≠z
 TITO:TI≠TO
 TIi1:TI≠i1
 TIi2:TI≠i2
 TOi1:TO≠i1
 TOi2:TO≠i2
 i12:i1≠i2
theorem ZD.seq(n:Nat):ZD (n+4) (n+2) (n+3) n (n+1) where
 TIz:=λh=>absurd (show (n+2:Nat)=n+4 from h) Oo
 TOz:=λh=>absurd (show (n+3:Nat)=n+4 from h) Oo
 i1z:=λh=>absurd (show (n:Nat)=n+4 from h) Oo
 i2z:=λh=>absurd (show (n+1:Nat)=n+4 from h) Oo
 TITO:=λh=>absurd (show (n+2:Nat)=n+3 from h) Oo
 TIi1:=λh=>absurd (show (n+2:Nat)=n from h) Oo
 TIi2:=λh=>absurd (show (n+2:Nat)=n+1 from h) Oo
 TOi1:=λh=>absurd (show (n+3:Nat)=n from h) Oo
 TOi2:=λh=>absurd (show (n+3:Nat)=n+1 from h) Oo
 i12:=λh=>absurd (show (n:Nat)=n+1 from h) Oo
theorem ZD.all{z TI TO i1 i2 l1 l2:Addr}(d:ZD z TI TO i1 i2){H:Hp}{o1 o2:HO}(e1:H l1=some o1)(e2:H l2=some o2)(h:∀b∈[z,TI,TO,i1,i2],H b=none):ZipApart z TI TO i1 i2 l1 l2 :=
 ⟨d.TIz,d.TOz,d.i1z,d.i2z,d.TITO,d.TIi1,d.TIi2,d.TOi1,d.TOi2,d.i12,cW e1 (h _ (by simp)),cW e1 (h _ (by simp)),cW e1 (h _ (by simp)),cW e1 (h _ (by simp)),cW e2 (h _ (by simp)),cW e2 (h _ (by simp)),cW e2 (h _ (by simp)),cW e2 (h _ (by simp))⟩
theorem MW{P:Program}{w:World}{K:PySem.W.Frag}{elts:List Expr}{x1}{tp:Pos}{b1 b2:Bool}{z TI TO i1 i2 l1 l2:Addr}(d:ZD z TI TO i1 i2):EI P w K (.Tuple elts x1 tp) (Itz b1 b2 l1 l2) [z,TI,TO,i1,i2] z (λi h=>YN b1 b2 z TI TO i1 i2 l1 l2 .none i h) where
 mem:=by simp
 obj:=λi h st b hb=>by
  obtain ⟨a,b',ht⟩:=st.to;obtain ⟨o1,e1,_,d1⟩:=st.i1;obtain ⟨o2,e2,_,d2⟩:=st.i2;simp only [aV,List.not_mem_nil,or_false] at hb;rcases hb with rfl | rfl | rfl | rfl | rfl
  ·exact ⟨_,st.z,λv q=>by cases q⟩
  ·exact ⟨_,st.ti,λv q=>by cases q⟩
  ·exact ⟨_,ht,λv q=>by cases q⟩
  ·exact ⟨_,e1,λv q=>by rw [d1] at q;cases q⟩
  ·exact ⟨_,e2,λv q=>by rw [d2] at q;cases q⟩
 keep:=λi h h' st k=>by
  obtain ⟨a,b,ht⟩:=st.to;exact ⟨k _ (by simp) _ st.z,k _ (by simp) _ st.ti,⟨a,b,k _ (by simp) _ ht⟩,st.i1.at λo e=>k _ (by simp) o e,st.i2.at λo e=>k _ (by simp) o e⟩
 item:=by
  intro X hP hw hK hc i pins s σ H E I hf st hg;subst hP hw hK;obtain ⟨xs,ys,x,y,e1,e2,hx,hy⟩:=hg;obtain ⟨u1,r1,p1⟩:=I.sq e1;obtain ⟨u2,r2,p2⟩:=I.sq e2;obtain ⟨ux,hux,rx⟩:=r1.get hx;obtain ⟨uy,huy,ry⟩:=r2.get hy;have D:=d.all e1 e2 λb hb=>(hf b hb).1;refine IZ D st p1 p2 (x:=ux) (y:=uy) (by simpa using hux) (by simpa using huy) λh' Z' hp hk=>?_;refine ⟨_,rfl,wpAny_letOwnedTupleGo_zip Z'.z λh2 hz2 hs2=>?_⟩;have kk:∀b o,b ∉ [z,TI,TO,i1,i2]->s.heap.get? b=some o->h2.get? b=some o:=λb o hb e=>by
   simp only [aV,List.not_mem_nil,or_false,not_or] at hb;exact hs2.extBut b o hb.1 (hk b o hb.1 hb.2.2.1 hb.2.2.2.1 hb.2.2.2.2 e)
  have I1:bW X pins σ H { s with heap:=h2 }:=I.turnedL (t':=s.toks) kk hf;have fq:gU X pins H s.heap.objs.size:=I.fpOk (aM _) (I.hok.fresh (aM _));have e0:X.s₀.heap.get? s.heap.objs.size=none:=by
   cases q:X.s₀.heap.get? s.heap.objs.size with
   | none=>rfl
   | some o=>exact absurd (bA (aT q) I.sz) (bT _)
  have nz:s.heap.objs.size≠z:=λq=>absurd (aT st.z) (by rw [<-q];exact bT _);obtain ⟨a,b,ht⟩:=Z'.to;refine ⟨.ref s.heap.objs.size,upd H s.heap.objs.size (.tup [x,y]),I1.put fq e0 ⟨⟨pO (by show 2<=64;decide),_,hs2.extBut _ _ nz hp,rfl⟩,[ux,uy],.cons rx (.cons ry .nil),⟨_,hs2.extBut _ _ nz hp,rfl,_,rfl⟩⟩,rfl,⟨_,x,y,rfl,fq.1,rfl,λxs' ys' q1 q2=>?_⟩,
   ⟨hz2,hs2.extBut _ _ d.TIz Z'.ti,⟨a,b,hs2.extBut _ _ d.TOz ht⟩,Z'.i1.at λo e=>hs2.extBut _ o d.i1z e,Z'.i2.at λo e=>hs2.extBut _ o d.i2z e⟩,λb hb=>?_⟩
  ·rw [e1] at q1;rw [e2] at q2;rw [<-EM.inj q1,<-EM.inj q2];exact ⟨hx,hy⟩
  ·have nb:b≠s.heap.objs.size:=λq=>by
    obtain ⟨a',b',ht'⟩:=st.to;obtain ⟨o1,e1',_⟩:=st.i1;obtain ⟨o2,e2',_⟩:=st.i2;have lt:∀{c o},s.heap.get? c=some o->c≠s.heap.objs.size:=λe=>bS (aT e);simp only [aV,List.not_mem_nil,or_false] at hb;rcases hb with rfl | rfl | rfl | rfl | rfl
    ·exact lt st.z q
    ·exact lt st.ti q
    ·exact lt ht' q
    ·exact lt e1' q
    ·exact lt e2' q
   rw [bP nb];exact (hf b hb).1
 done:=by
  intro X hP hw hK hc i pins s σ H E I hf st hg;subst hP hw hK;obtain ⟨xs,ys,e1,e2,hl⟩:=hg;obtain ⟨u1,r1,p1⟩:=I.sq e1;obtain ⟨u2,r2,p2⟩:=I.sq e2;have D:=d.all e1 e2 λb hb=>(hf b hb).1;have l1:=r1.length;have l2:=r2.length;have hend:u1.toArray[i]?=none\/u2.toArray[i]?=none:=by
   rcases hl with h | h
   ·left;simp;omega
   ·right;simp;omega
  refine IY (I.ok.hd hc) D st p1 p2 hend λh' hk=>⟨rfl,I.turnedL (t':=s.toks) (λb o hb e=>?_) hf⟩;simp only [aV,List.not_mem_nil,or_false,not_or] at hb;exact hk b o hb.1 hb.2.2.1 hb.2.2.2.1 hb.2.2.2.2 e
 self:=λ_ _ _ _ _ st h=>wpAny_pyIter_zip st.z h
abbrev zA(b:Bool)(h:Heap)(l:Addr):Heap:=h.push (itO b l)
abbrev zB(b1 b2:Bool)(h:Heap)(l1 l2:Addr):Heap:=(zA b1 h l1).push (itO b2 l2)
abbrev zC(b1 b2:Bool)(h:Heap)(l1 l2:Addr):Heap:=(zB b1 b2 h l1 l2).push { cls:=.type "tuple",data:=.seq #[.ref h.objs.size,.ref (zA b1 h l1).objs.size] }
abbrev zE(b1 b2:Bool)(h:Heap)(l1 l2:Addr):Heap:=(zC b1 b2 h l1 l2).push { cls:=.type "tuple",data:=.seq #[.none,.none] }
abbrev zF(b1 b2:Bool)(h:Heap)(l1 l2:Addr):Heap:=(zE b1 b2 h l1 l2).push { cls:=.type "zip",data:=.fields #[.none,.bool false,.bool false,.ref (zB b1 b2 h l1 l2).objs.size,.ref (zC b1 b2 h l1 l2).objs.size] }
theorem aAS(b1 b2:Bool)(l1 l2:Addr)(xs ys:Array Value):Meets (Builtin.«zip.__new__» ⟨[.type "zip",.ref l1,.ref l2],[]⟩) (λ_ R s=>lM b1 s.heap l1 xs/\lM b2 s.heap l2 ys/\R (.ok (.ret (.ref (zE b1 b2 s.heap l1 l2).objs.size))) { s with heap:=zF b1 b2 s.heap l1 l2 }) :=
 .of_wp λprog w A R s h=>by
  obtain ⟨hp,g,d,tk,os⟩:=s;obtain ⟨hl1,hl2,h⟩:=h;have hsub:=sub_zip;have hL1:lM b1 (Shared.heap ⟨hp,g,d,tk,os⟩) l1 xs:=hl1;have hL2:lM b2 (Shared.heap ⟨hp.push (itO b1 l1),g,d,tk,os⟩) l2 ys:=hl2.at λo e=>aB _ e
  wp_walk using YE hL1,YE hL2
  exact ⟨_,rfl,h⟩
section
variable{prog:Program}{w:World}{A:Around}{E:Value->Shared->Prop}{s:Shared}
theorem aCy{b1 b2:Bool}{l1 l2:Addr}{xs ys:Array Value}{Q:Value->Shared->Prop}(hl1:lM b1 s.heap l1 xs)(hl2:lM b2 s.heap l2 ys)
  (h:∀h',YN b1 b2 (s.heap.objs.size+4) (s.heap.objs.size+2) (s.heap.objs.size+3) s.heap.objs.size (s.heap.objs.size+1) l1 l2 .none 0 h'->(∀c o,s.heap.get? c=some o->h'.get? c=some o)->Q (.ref (s.heap.objs.size+4)) { s with heap:=h' }) :
  wpAny (model prog w) A (call (.type "zip") [.ref l1,.ref l2]) Q E s:=by
 refine callType_new F.called_zip Dd (F.typeCall_zip_2 _ _) (F.newCall_zip_2 _ _) (λobj=>F.args_object_init_3 obj _ _) F.entry_zip_new (aAS b1 b2 l1 l2 xs ys) ⟨hl1,hl2,?_⟩;have z1:(zA b1 s.heap l1).objs.size=s.heap.objs.size+1:=eC ..;have z2:(zB b1 b2 s.heap l1 l2).objs.size=s.heap.objs.size+2:=by rw [eC,z1]
 have z3:(zC b1 b2 s.heap l1 l2).objs.size=s.heap.objs.size+3:=by rw [eC,z2]
 have z4:(zE b1 b2 s.heap l1 l2).objs.size=s.heap.objs.size+4:=by rw [eC,z3]
 have g5:(zF b1 b2 s.heap l1 l2).get? (zE b1 b2 s.heap l1 l2).objs.size=some _:=aP _ rfl;have g4:(zF b1 b2 s.heap l1 l2).get? (zC b1 b2 s.heap l1 l2).objs.size=some _:=aB _ (aP _ rfl);have g3:(zF b1 b2 s.heap l1 l2).get? (zB b1 b2 s.heap l1 l2).objs.size=some _:=aB _ (aB _ (aP _ rfl));have g2:(zF b1 b2 s.heap l1 l2).get? (zA b1 s.heap l1).objs.size=some _:=aB _ (aB _ (aB _ (aP _ rfl)));have g1:(zF b1 b2 s.heap l1 l2).get? s.heap.objs.size=some _:=aB _ (aB _ (aB _ (aB _ (aP _ rfl))));show _/\_;rw [z2,z3,z4] at g5;rw [z1,z2] at g3;rw [z3] at g4;rw [z1] at g2;rw [z4];exact ⟨⟨_,g5,rfl⟩,h _ ⟨g5,g3,⟨_,_,g4⟩,⟨_,g1,rfl,rfl⟩,⟨_,g2,rfl,rfl⟩⟩ λc o x=>aB _ (aB _ (aB _ (aB _ (aB _ x))))⟩
end
def aCp(b1 b2:Bool)(ta:TA):TI:=λσ H R=>ta σ H λvs H1=>∃l1 l2 xs ys,vs=[.ref l1,.ref l2]/\H1 l1=some (EM b1 xs)/\H1 l2=some (EM b2 ys)/\R (Itz b1 b2 l1 l2) H1
theorem QV:bootBuiltins (Str.ofString "zip")=some (Value.type "zip"):=Kk
section
variable{X:Cx}
theorem aAz{a b:Expr}{ta:TA}{p pos tp:Pos}{elts:List Expr}{x1}{b1 b2:Bool}(hg:Gl X "zip")(hm:X.mg "zip" = none)(ha:PA X [a,b] ta)(hs:starEach [a,b] X.env=[(false,eval a X.env),(false,eval b X.env)])(hs2:starEach [b] X.env=[(false,eval b X.env)]) :
  PI X (.Tuple elts x1 tp) (.Call (.Name "zip" p) [a,b] [] pos) (aCp b1 b2 ta):=by
 intro pins s σ H R I h;refine Call_ (oY I hg hm QV (PyProof.Rows.callWith_type1 (thn (ha pos pins s σ H _ I h) λus s1 ⟨vs,H1,I1,r1,q1⟩=>?_) (by rw [hs,hs2]) (by rw [hs2];rfl)));obtain ⟨l1,l2,xs,ys,e,e1,e2,q⟩:=q1;subst e;cases r1 with
 | cons r rr =>
  cases rr with
  | cons r' rr =>
   cases rr;cases r;cases r';obtain ⟨u1,_,p1⟩:=I1.sq e1;obtain ⟨u2,_,p2⟩:=I1.sq e2;refine aCy p1 p2 λh' Z kk=>wpAny_pyIter_zip Z.z ?_;refine ⟨_,[s1.heap.objs.size+4,s1.heap.objs.size+2,s1.heap.objs.size+3,s1.heap.objs.size,s1.heap.objs.size+1],_,_,H1,rfl,I1.kept (t':=s1.toks) kk,MW (ZD.seq _),Z,λb hb=>?_,q⟩;have hle:s1.heap.objs.size<=b:=by
    simp only [aV,List.not_mem_nil,or_false] at hb;rcases hb with rfl | rfl | rfl | rfl | rfl
    ·exact Nat.le_add_right _ _
    ·exact Nat.le_add_right _ _
    ·exact Nat.le_add_right _ _
    ·exact aM _
    ·exact Nat.le_add_right _ _
   exact I1.fpOk hle (I1.hok.fresh hle)
theorem MH(b1 b2:Bool){a b:Expr}{ta:TA}{p pos tp:Pos}{elts:List Expr}{x1}(hg:Gl X "zip")(hm:X.mg "zip" = none)(ha:IV X [a,b] ta)(hs:starEach [a,b] X.env=[(false,eval a X.env),(false,eval b X.env)]:=by rfl)(hs2:starEach [b] X.env=[(false,eval b X.env)]:=by first | exact fR | exact fI | exact cY | rfl) :
  IU X (.Tuple elts x1 tp) (.Call (.Name "zip" p) [a,b] [] pos) (aCp b1 b2 ta):=⟨aAz hg hm ha.p hs hs2⟩
end
theorem IC{b1 b2:Bool}{l1 l2:Addr}{xs ys:List V}{g:TG}{tb:TS}{D:uM}{σ:St}{H:Hp}(Pv:Nat->St->Hp->Prop)(h0:Pv 0 σ H)(hl:∀i σ H,Pv i σ H->H l1=some (EM b1 xs)/\H l2=some (EM b2 ys))
  (hs:∀i x y q σ H H',xs[i]?=some x->ys[i]?=some y->Pv i σ H->H q=none->H' q=some (.tup [x,y])->aW H H'->g (.ref q) σ H' λσ2 H2=>tb { D with nx:=Pv (i+1),ct:=Pv (i+1),bk:=D.nx } σ2 H2) (hd:∀σ H,Pv (min xs.length ys.length) σ H->D.nx σ H) :
  ∃W:Nat->Nat->St->Hp->Prop,(∃m,W 0 m σ H)/\∀i m σ H,W i m σ H ->
   ((Itz b1 b2 l1 l2).stop i H/\D.nx σ H)\/((Itz b1 b2 l1 l2).go i H/\∃N:St->Hp->Prop,(∀σ' H',N σ' H'->∃m',m' < m/\W (i+1) m' σ' H')/\∀x H',(Itz b1 b2 l1 l2).yld i H x H'->g x σ H' λσ2 H2=>tb { D with nx:=N,ct:=N,bk:=D.nx } σ2 H2):=by
 refine ⟨λi m σ H=>m=min xs.length ys.length-i/\i<=min xs.length ys.length/\Pv i σ H,⟨_,rfl,cK _,h0⟩,?_⟩;rintro i m σ H ⟨rfl,hi,p⟩;obtain ⟨q1,q2⟩:=hl i σ H p;by_cases hlt:i<min xs.length ys.length
 ·have hx:xs[i]?=some xs[i]:=aD Oo;have hy:ys[i]?=some ys[i]:=aD Oo;refine .inr ⟨⟨xs,ys,_,_,q1,q2,hx,hy⟩,Pv (i+1),λσ' H' p'=>⟨_,Oo,rfl,hlt,p'⟩,λv H' y=>?_⟩;obtain ⟨q,x,y,rfl,hq,rfl,hh⟩:=y;obtain ⟨h1,h2⟩:=hh xs ys q1 q2;exact hs i x y q σ H _ h1 h2 p hq bE (aW.upd hq)
 ·have e:i=min xs.length ys.length:=Oo;subst e;refine .inl ⟨⟨xs,ys,q1,q2,?_⟩,hd σ H p⟩;omega
end L2
namespace L2
open PySem
def nN:List Value->List Int->Bool
 | [],[]=>true
 | .int i _::vs,n::ns=>decide (i=n)&&nN vs ns
 | _,_=>false
def qP(K:PySem.W.Frag)(a:Addr)(ns:List Int):Bool :=
 match K.lookup a with
 | some o=>(match o.cls with | .type n=>n == "tuple" | _=>false)&&(match o.data with | .seq xs _=>decide (xs.size<=64)&&nN xs.toList ns | _=>false)
 | none=>false
theorem nN.vals:∀{vs:List Value}{ns:List Int},nN vs ns=true->cV (ns.map V.int) vs
 | [],[],_=>.nil
 | v::vs,n::ns,h=>by
  cases v with
  | int i t =>
   have h':(decide (i=n)&&nN vs ns)=true:=h;rw [cL] at h';have e:=of_decide_eq_true h'.1;subst e;exact .cons ⟨t,rfl⟩ (nN.vals h'.2)
  | _=>cases h
 | [],_::_,h=>by cases h
 | v::_,[],h=>by cases v <;> cases h
theorem kO{K:PySem.W.Frag}{H:Hp}{a:Addr}{ns:List Int}(h:qP K a ns=true):dO K H a (ns.map V.int):=by
 unfold qP at h;split at h
 ·rename_i o ho
  rw [cL] at h;obtain ⟨h1,h2⟩:=h;split at h1
  ·rename_i n hn
   split at h2
   ·rename_i xs m hx
    rw [cL] at h2;have e:n = "tuple" := by simpa using h1
    subst e;exact .inr ⟨o,xs,m,ho,hn,hx,pO (of_decide_eq_true h2.1),nN.vals h2.2⟩
   ·cases h2
  ·cases h1
 ·cases h
theorem dO.keep{K:PySem.W.Frag}{H H':Hp}{a:Addr}{xs:List V}(s:aW H H')(h:dO K H a xs):dO K H' a xs:=by
 rcases h with (h | ⟨o,h⟩) | h
 ·exact .inl (.inl (s _ _ h))
 ·exact .inl (.inr ⟨o,s _ _ h⟩)
 ·exact .inr h
mutual
def dU(K:PySem.W.Frag)(H:Hp):PyData->V->Prop
 | .none,v=>v=.non
 | .bool b,v=>v=.bl b
 | .int i,v=>v=.int i
 | .str x,v=>v=.str x
 | .list ds,v=>∃a xs,v=.ref a/\H a=some (.lst xs)/\cX K H ds xs
 | .tuple ds,v=>∃a xs,v=.ref a/\dO K H a xs/\cX K H ds xs
 | .dict kvs,v=>kvs=[]/\∃a,v=.ref a/\H a=some (.dK [])
def cX(K:PySem.W.Frag)(H:Hp):List PyData->List V->Prop
 | [],vs=>vs=[]
 | d::ds,vs=>∃x xs,vs=x::xs/\dU K H d x/\cX K H ds xs
end
mutual
theorem bQ.k{K:PySem.W.Frag}{H:Hp}:∀{d:PyData}{v:V},bQ H d v->dU K H d v
 | .none,_,h=>h
 | .bool _,_,h=>h
 | .int _,_,h=>h
 | .str _,_,h=>h
 | .list ds,_,h=>by
  unfold bQ at h;unfold dU;obtain ⟨a,xs,rfl,h1,h2⟩:=h;exact ⟨a,xs,rfl,h1,aX.k h2⟩
 | .tuple ds,_,h=>by
  unfold bQ at h;unfold dU;obtain ⟨a,xs,rfl,h1,h2⟩:=h;exact ⟨a,xs,rfl,dO.of h1,aX.k h2⟩
 | .dict kvs,_,h=>by unfold bQ at h;unfold dU;exact h
theorem aX.k{K:PySem.W.Frag}{H:Hp}:∀{ds:List PyData}{vs:List V},aX H ds vs->cX K H ds vs
 | [],_,h=>h
 | d::ds,_,h=>by
  unfold aX at h;unfold cX;obtain ⟨x,xs,rfl,h1,h2⟩:=h;exact ⟨x,xs,rfl,bQ.k h1,aX.k h2⟩
end
theorem dU.tup{K:PySem.W.Frag}{H:Hp}{a:Addr}{xs:List V}{ds:List PyData}(h:dO K H a xs)(r:cX K H ds xs):dU K H (.tuple ds) (.ref a):=by
 unfold dU;exact ⟨a,xs,rfl,h,r⟩
theorem cX.ints{K:PySem.W.Frag}{H:Hp}:∀ns:List Int,cX K H (ns.map PyData.int) (ns.map V.int)
 | []=>by unfold cX;rfl
 | n::ns=>by unfold cX;exact ⟨_,_,rfl,by unfold dU;rfl,cX.ints ns⟩
section
variable{X:Cx}{pins:List (Addr × Obj)}{σ:St}{H:Hp}{s:Shared}
mutual
theorem dU.reads(I:bW X pins σ H s):∀{d:PyData}{v:V}{u:Value},dU X.K H d v->dF v u->∃as,Reads s.heap u d as
 | .none,_,u,h,r=>by
  cases (show _=V.non from h);cases (show u=Value.none from r);exact ⟨_,.none⟩
 | .bool b,_,u,h,r=>by
  cases (show _=V.bl b from h);cases (show u=Value.bool b from r);exact ⟨_,.bool b⟩
 | .int b,_,u,h,r=>by
  cases (show _=V.int b from h);obtain ⟨t,q⟩:=(show ∃t,u=Value.int b t from r);cases q;exact ⟨_,.int b t⟩
 | .str b,_,u,h,r=>by
  cases (show _=V.str b from h);obtain ⟨t,q⟩:=(show ∃t,u=Value.str b t from r);cases q;exact ⟨_,.str b t⟩
 | .list ds,v,u,h,r=>by
  unfold dU at h;obtain ⟨a,xs,rfl,h1,h2⟩:=h;cases (show u=Value.ref a from r);obtain ⟨_,its,n,r',e⟩:=(show dM X.prog X.w H s.heap a (.lst xs) from I.hok a _ h1);obtain ⟨as,q⟩:=cX.reads I h2 r';exact ⟨_,.list e rfl rfl (by simpa using q)⟩
 | .tuple ds,v,u,h,r=>by
  unfold dU at h;obtain ⟨a,xs,rfl,h1,h2⟩:=h;cases (show u=Value.ref a from r);obtain ⟨its,r',⟨o,e,hc,n,hd⟩,_⟩:=I.tuple h1;obtain ⟨as,q⟩:=cX.reads I h2 r';exact ⟨_,.tuple e hc hd (by simpa using q)⟩
 | .dict kvs,v,u,h,r=>bQ.reads I (d:=.dict kvs) (by unfold bQ;unfold dU at h;exact h) r
theorem cX.reads(I:bW X pins σ H s):∀{ds:List PyData}{vs:List V}{us:List Value},cX X.K H ds vs->cV vs us->∃as,ReadsAll s.heap us ds as
 | [],_,us,h,r=>by
  cases (show _=[] from h);cases r;exact ⟨_,.nil⟩
 | d::ds,_,us,h,r=>by
  unfold cX at h;obtain ⟨x,xs,rfl,h1,h2⟩:=h;cases r with
  | cons r1 r2 =>
   obtain ⟨as,q1⟩:=dU.reads I h1 r1;obtain ⟨bs,q2⟩:=cX.reads I h2 r2;exact ⟨_,.cons q1 q2⟩
end
end
@[irreducible] def UI(K:PySem.W.Frag)(b:Bool):R2:=λx y H Q=>∃d d',dU K H d x/\dU K H d' y/\SeqAt.shaped d=true/\SeqAt.shaped d'=true/\Q (.bl (b == PyData.eqv d d')) H
section
variable{X:Cx}
theorem OS(K:PySem.W.Frag)(hu:X.A.units+64<cLine)(hK:X.K=K:=by rfl):nZ X (compareOp .Eq) (UI K true):=by
 subst hK;unfold UI;intro pins s σ H x y v u Q I rx ry h;obtain ⟨d,d',h1,h2,s1,s2,q⟩:=h;obtain ⟨as,ra⟩:=h1.reads I rx;obtain ⟨bs,rb⟩:=h2.reads I ry;exact SeqAt.compareEq_shaped ra rb s1 s2 hu ⟨.bl _,H,I,by show _=_;simp,q⟩
end
section
variable{K:PySem.W.Frag}{H:Hp}{p:Addr}{xs:List V}{i:Int}{v:V}{Q:VK}
theorem reK{b:Bool}{x y:V}{d d':PyData}(h1:dU K H d x)(h2:dU K H d' y)(s1:SeqAt.shaped d=true)(s2:SeqAt.shaped d'=true)(q:Q (.bl (b == PyData.eqv d d')) H):UI K b x y H Q:=by
 unfold UI;exact ⟨d,d',h1,h2,s1,s2,q⟩
theorem sP(h:dO K H p xs)(e:EE xs i=some v)(q:Q v H):rIx K (.ref p) (.int i) H Q:=.inr (.inl ⟨p,xs,i,v,rfl,rfl,h,e,q⟩)
theorem rlK(h:dO K H p xs)(q:Q (.int xs.length) H):wG K [V.ref p] H Q:=by unfold wG;exact ⟨_,_,rfl,.inr ⟨xs,h,rfl⟩,q⟩
end
theorem WH(xs:List V)(k:Nat):pB xs (some (k:Int)) none=xs.drop k:=by
 unfold pB;rw [HT.HB,HT.CN];by_cases h:k<=xs.length
 ·rw [Nat.min_eq_left h];exact List.take_of_length_le (by rw [List.length_drop];exact aM _)
 ·rw [Nat.min_eq_right Oo,List.drop_of_length_le (aM _),List.drop_of_length_le Oo,List.take_nil]
theorem IK(xs:List V)(k:Nat):pB xs none (some (k:Int))=xs.take k:=by
 unfold pB;rw [HT.HB,HT.CN,List.drop_zero,Nat.sub_zero];by_cases h:k<=xs.length
 ·rw [Nat.min_eq_left h]
 ·rw [Nat.min_eq_right Oo,List.take_of_length_le (aM _),List.take_of_length_le Oo]
section
variable{σ:St}{js:List Nat}{te:TE}{H:Hp}{Q:VK}
theorem CJ{R:Nat->V->Prop}{ys:List V}{y:V}(h:∀(j:Nat) z,ys[j]?=some z->R j z)(r:R ys.length y):∀(j:Nat) z,(ys++[y])[j]?=some z->R j z:=λj z hj=>by
 by_cases hji:j<ys.length
 ·rw [List.getElem?_append_left hji] at hj;exact h j z hj
 ·rw [List.getElem?_append_right Oo] at hj;have:j-ys.length=0:=by
   by_cases q:j-ys.length=0
   ·exact q
   ·rw [bH (by simp;omega)] at hj;cases hj
  rw [this] at hj;have hj':y=z:=by simpa using hj
  have:j=ys.length:=Oo;subst this hj';exact r
theorem tX{J:It}{n:Nat}(src:Nat->V->Prop)(R:Nat->V->Hp->Prop)(hR:∀i y H1 H2,fN H1 H2->R i y H1->R i y H2)(hz:n<=100000)
  (hg:∀i H',aW H H'->i<n->J.go i H'/\∀x H3,J.yld i H' x H3->H3=H'/\src i x) (hst:∀H',aW H H'->J.stop n H')
  (hs:∀i x H' (Q':VK),src i x->i<n->aW H H'->(∀y H5,aW H' H5->R i y H5->Q' y H5)->te (some x::slots σ js) H' Q')
  (hd:∀D ys H',H D=none->H' D=some (.lst ys)->aW H H'->ys.length=n->(∀(i:Nat) (y:V),ys[i]?=some y->R i y H')->Q (.ref D) H'):nV J σ js AD te H Q:=by
 refine sD (J:=J) (n:=n) src hz (λD i ys H'=>H D=none/\aW H H'/\∀(i:Nat) (y:V),ys[i]?=some y->R i y H') (λD H1 hD _ s=>⟨hD,s,λi y h=>by simp at h⟩)
  (λD i ys H' hi _ p=>hg i H' p.2.1 hi) (λD ys H' _ p=>hst H' p.2.1) (λD i x ys H' hx hi hy hD p=>?_) (λD ys H' hy hD hD' p=>hd D ys H' hD hD' p.2.1 hy p.2.2)
 refine hs i x H' _ hx hi p.2.1 λy H5 s5 r=>?_;refine ⟨s5 _ _ hD,λH6 hD6 s6=>⟨p.1,aW.thru p.1 (p.2.1.trans s5) s6,?_⟩⟩;have t6:=s6.t (s5 _ _ hD);exact CJ (R:=λj z=>R j z H6) (λj z hj=>hR j z _ _ (s5.t.trans t6) (p.2.2 j z hj)) (by rw [hy];exact hR i y _ _ t6 r)
theorem LD{K:PySem.W.Frag}{a:Addr}{xs:List V}(R:Nat->V->Hp->Prop)(hR:∀i y H1 H2,fN H1 H2->R i y H1->R i y H2)(hz:xs.length<=100000)(hl:H a=some (.lst xs))
  (hs:∀i x H' (Q':VK),xs[i]?=some x->aW H H'->(∀y H5,aW H' H5->R i y H5->Q' y H5)->te (some x::slots σ js) H' Q')
  (hd:∀D ys H',H D=none->H' D=some (.lst ys)->aW H H'->ys.length=xs.length->(∀(i:Nat) (y:V),ys[i]?=some y->R i y H')->Q (.ref D) H'):nV (YQ K a) σ js AD te H Q :=
 tX (λi x=>xs[i]?=some x) R hR hz (λi H' s hi=>⟨⟨xs,xs[i],eZ.of (s _ _ hl),by simp [hi]⟩,λx H3 y=>⟨y.1,y.2 xs (eZ.of (s _ _ hl))⟩⟩) (λH' s=>⟨xs,eZ.of (s _ _ hl),aM _⟩)
  (λi x H' Q' hx _ s k=>hs i x H' Q' hx s k) hd
theorem gE{K:PySem.W.Frag}{a:Addr}{xs:List V}(R:Nat->V->Hp->Prop)(hR:∀i y H1 H2,fN H1 H2->R i y H1->R i y H2)(hz:xs.length<=100000)(hl:H a=some (.tup xs))
  (hs:∀i x H' (Q':VK),xs[i]?=some x->aW H H'->(∀y H5,aW H' H5->R i y H5->Q' y H5)->te (some x::slots σ js) H' Q')
  (hd:∀D ys H',H D=none->H' D=some (.lst ys)->aW H H'->ys.length=xs.length->(∀(i:Nat) (y:V),ys[i]?=some y->R i y H')->Q (.ref D) H'):nV (Itt K a) σ js AD te H Q :=
 tX (λi x=>xs[i]?=some x) R hR hz (λi H' s hi=>⟨⟨xs,xs[i],dO.of (s _ _ hl),by simp [hi]⟩,λx H3 y=>⟨y.1,y.2 xs (dO.of (s _ _ hl))⟩⟩) (λH' s=>⟨xs,dO.of (s _ _ hl),aM _⟩)
  (λi x H' Q' hx _ s k=>hs i x H' Q' hx s k) hd
theorem kJ{lo:Int}{n:Nat}(R:Nat->V->Hp->Prop)(hR:∀i y H1 H2,fN H1 H2->R i y H1->R i y H2)(hz:n<=100000)
  (hs:∀i H' (Q':VK),i<n->aW H H'->(∀y H5,aW H' H5->R i y H5->Q' y H5)->te (some (.int (lo+(i:Nat)))::slots σ js) H' Q')
  (hd:∀D ys H',H D=none->H' D=some (.lst ys)->aW H H'->ys.length=n->(∀(i:Nat) (y:V),ys[i]?=some y->R i y H')->Q (.ref D) H'):nV (RX lo n) σ js AD te H Q :=
 tX (λi x=>x=.int (lo+(i:Nat))) R hR hz (λi H' s hi=>⟨hi,λx H3 y=>y⟩) (λH' s=>aM _)
  (λi x H' Q' hx hi s k=>by subst hx;exact hs i H' Q' hi s k) hd
theorem aS.thru{p l:Addr}{H0 H1 H2:Hp}(hl:H0 l=none)(s:aS p H0 H1)(b:aS l H1 H2):aS p H0 H2:=λc o e=>by
 have n:=eM.ne e;have e0:H0 c=some o:=by rw [eM.at n] at e;exact e
 have nl:c≠l:=λz=>by subst z;rw [hl] at e0;cases e0
 exact eM.of n (b.at nl (s.at n e0))
end
theorem aX.ofIdx{H:Hp}:∀{ds:List PyData}{ys:List V},ys.length=ds.length->(∀(i:Nat) (y:V),ys[i]?=some y->∃d,ds[i]?=some d/\bQ H d y)->aX H ds ys
 | [],[],_,_=>aX.nil
 | d::ds,y::ys,hl,h=>by
  obtain ⟨d',e,r⟩:=h 0 y rfl;cases (show d=d' by simpa using e);exact aX.cons r (aX.ofIdx (by simpa using hl) λi z hz=>by simpa using h (i+1) z (by simpa using hz))
 | [],_::_,hl,_=>by simp at hl
 | _::_,[],hl,_=>by simp at hl
theorem BB{P:Nat->Int->Prop}:∀{ys:List V},(∀(i:Nat) (y:V),ys[i]?=some y->∃n,y=.int n/\P i n)->∃ns:List Int,ys=ns.map V.int/\∀(i:Nat) n,ns[i]?=some n->P i n
 | [],_=>⟨[],rfl,λi n h=>by simp at h⟩
 | y::ys,h=>by
  obtain ⟨n,rfl,hn⟩:=h 0 y rfl;obtain ⟨ns,rfl,hs⟩:=BB (P:=λi=>P (i+1)) (ys:=ys) λi z hz=>h (i+1) z (by simpa using hz);refine ⟨n::ns,rfl,λi m hm=>?_⟩;cases i with
  | zero=>cases (show n=m by simpa using hm);exact hn
  | succ i=>exact hs i m (by simpa using hm)
end L2
namespace L2
open PySem PySem.Spec PyProof.Rows
theorem iF.u1{k:Nat}{A:Around}(r:iF k A):A.units+1<cLine:=by have:=r.units;omega
@[irreducible] def XY:R2:=λx y H Q=>∃a v,x=.ref a/\lE H a y (some v)/\Q v H
@[irreducible] def rDP(D:uM)(σ:St)(x y v:V)(H:Hp):Prop:=∃a H4,x=.ref a/\BQ H a y v H4/\D.nx σ H4
def XR(td ty tv:TE):TS:=λD σ H=>tv σ H λv H1=>td σ H1 λx H2=>ty σ H2 λy H3=>rDP D σ x y v H3
structure XC(X:Cx)(pos:Pos)(keys:List (Option Expr))(values:List Expr)(trs:List (TE × TE)):Prop where p:PPs X pos keys values trs
section
variable{X:Cx}{o i value k v:Expr}{td ty tv tk:TE}{pos pos':Pos}{ks:List (Option Expr)}{vs:List Expr}{trs:List (TE × TE)}
theorem lH(hu:X.A.units+1<cLine)(ho:fJ X o td)(hi:fJ X i ty)(hs:aBv i:=by intro _ _;rfl):fJ X (.Subscript o i pos) (SQ XY td ty):=⟨by unfold XY;exact VA hu ho.p hi.p hs⟩
theorem vE(hu:X.A.units+1<cLine)(ho:fJ X o td)(hi:fJ X i ty)(hv:fJ X value tv)(hs:swapsWith value (some (.Subscript o i pos')) pos.line X.env=pure false:=by rfl) :
  GO X (.Assign [.Subscript o i pos'] value pos) (XR td ty tv):=⟨by unfold XR rDP;exact UT hu ho.p hi.p hv.p hs⟩
theorem SD:XC X pos [] [] []:=⟨pps_nil⟩
theorem vR(hk:fJ X k tk)(hv:fJ X v tv)(hr:XC X pos ks vs trs):XC X pos (some k::ks) (v::vs) ((tk,tv)::trs):=⟨OH hk.p hv.p hr.p⟩
theorem SL(h:XC X pos ks vs trs)(hall:ks.all (·.isSome)=true:=by rfl)(hl:ks.length=vs.length:=by rfl)(h0:ks≠[]:=by intro h;cases h)(h15:ks.length<=15:=by decide):fJ X (.Dict ks vs pos) (XQ trs):=⟨UZ h.p hall hl h0 h15⟩
end
theorem dgS{H:Hp}{p:Addr}{kvs:List (eA × V)}{x:Str}{v:V}{Q:VK}(e:H p=some (.dK kvs))(hv:eJ kvs (.inr x)=some v)(q:Q v H):XY (.ref p) (.str x) H Q:=by
 unfold XY;exact ⟨p,v,rfl,hv ▸ lE.k (k:=.inr x) e,q⟩
theorem dpS{H:Hp}{p:Addr}{kvs kvs2:List (eA × V)}{x:Str}{v:V}{D:uM}{σ:St}(e:H p=some (.dK kvs))(hl:kvs.length<=64)(hk:iC kvs (.inr x) v=kvs2)(q:∀H',H' p=some (.dK kvs2)->aS p H H'->D.nx σ H') :
  rDP D σ (.ref p) (.str x) v H:=by
 unfold rDP;exact ⟨p,_,rfl,BQ.k (k:=.inr x) e (bC hl Dd),q _ (by rw [hk];exact bE) aS.self⟩
theorem aS.tD{H H':Hp}{p:Addr}(s:aS p H H'){xs:List (eA × V)}(hp:H p=some (.dK xs)):fN H H':=λb ys h=>s.at (mE h hp (by intro z;cases z)) h
structure pC(p:Addr)(Fd:Nat->Hp->Prop):Prop where
 but:∀n D H1 H2,D≠p->aS D H1 H2->Fd n H1->Fd n H2
 same:∀n H1 H2,aW H1 H2->Fd n H1->Fd n H2
 dic:∀n H',Fd n H'->∃xs,H' p=some (.dK xs)
section
variable{σ:St}{js:List Nat}{te:TE}{H:Hp}{Q:VK}
theorem pC.np{p:Addr}{Fd:Nat->Hp->Prop}(fl:pC p Fd){n:Nat}{H':Hp}{D:Addr}(F:Fd n H')(h:H' D=none):D≠p:=λe=>by
 obtain ⟨xs,hp⟩:=fl.dic n H' F;subst e;rw [hp] at h;cases h
theorem WJ{J:It}{n:Nat}{p:Addr}{Fd:Nat->Hp->Prop}(fl:pC p Fd)(F0:Fd 0 H)(src:Nat->V->Prop)(R:Nat->V->Hp->Prop)(hR:∀i y H1 H2,fN H1 H2->R i y H1->R i y H2)(hz:n<=100000)
  (hg:∀i H',aS p H H'->i<n->J.go i H'/\∀x H3,J.yld i H' x H3->H3=H'/\src i x) (hst:∀H',aS p H H'->J.stop n H')
  (hs:∀i x H' (Q':VK),src i x->i<n->Fd i H'->aS p H H'->(∀y H5,Fd (i+1) H5->aS p H' H5->R i y H5->Q' y H5)->te (some x::slots σ js) H' Q')
  (hd:∀D ys H',H D=none->H' D=some (.lst ys)->Fd n H'->aS p H H'->ys.length=n->(∀(i:Nat) (y:V),ys[i]?=some y->R i y H')->Q (.ref D) H'):nV J σ js AD te H Q:=by
 refine sD (J:=J) (n:=n) src hz (λD i ys H'=>H D=none/\Fd i H'/\aS p H H'/\∀(i:Nat) (y:V),ys[i]?=some y->R i y H') (λD H1 hD _ s=>⟨hD,fl.same _ _ _ s F0,s.but,λi y h=>by simp at h⟩)
  (λD i ys H' hi _ q=>hg i H' q.2.2.1 hi) (λD ys H' _ q=>hst H' q.2.2.1) (λD i x ys H' hx hi hy hD q=>?_) (λD ys H' hy hD hD' q=>hd D ys H' hD hD' q.2.1 q.2.2.1 hy q.2.2.2)
 have np:=fl.np F0 q.1;refine hs i x H' _ hx hi q.2.1 q.2.2.1 λy H5 F5 s5 r=>?_;obtain ⟨xs,hp⟩:=fl.dic _ H' q.2.1;have hD5:=s5.at np hD;refine ⟨hD5,λH6 hD6 s6=>⟨q.1,fl.but _ D _ _ np s6 F5,aS.thru q.1 (q.2.2.1.trans s5) s6,?_⟩⟩;have t6:=s6.t hD5;exact CJ (R:=λj z=>R j z H6) (λj z hj=>hR j z _ _ ((s5.tD hp).trans t6) (q.2.2.2 j z hj)) (by rw [hy];exact hR i y _ _ t6 r)
theorem DS{lo:Int}{n:Nat}{p:Addr}{Fd:Nat->Hp->Prop}(fl:pC p Fd)(F0:Fd 0 H)(R:Nat->V->Hp->Prop)(hR:∀i y H1 H2,fN H1 H2->R i y H1->R i y H2)(hz:n<=100000)
  (hs:∀i H' (Q':VK),i<n->Fd i H'->aS p H H'->(∀y H5,Fd (i+1) H5->aS p H' H5->R i y H5->Q' y H5)->te (some (.int (lo+(i:Nat)))::slots σ js) H' Q')
  (hd:∀D ys H',H D=none->H' D=some (.lst ys)->Fd n H'->aS p H H'->ys.length=n->(∀(i:Nat) (y:V),ys[i]?=some y->R i y H')->Q (.ref D) H'):nV (RX lo n) σ js AD te H Q :=
 WJ fl F0 (λi x=>x=.int (lo+(i:Nat))) R hR hz (λi H' s hi=>⟨hi,λx H3 y=>y⟩) (λH' s=>aM _)
  (λi x H' Q' hx hi f s k=>by subst hx;exact hs i H' Q' hi f s k) hd
end
section
variable{X:Cx}
@[irreducible] def HM(K:PySem.W.Frag):R2:=λx y H Q=>∃a b xs ys,x=.ref a/\y=.ref b/\H a=some (.tup xs)/\H b=some (.tup ys)/\xs.length+ys.length<=1000/\∀c H',aW H H'->H' c=some (.tup (xs++ys))->Q (.ref c) H'
theorem LI{K:PySem.W.Frag}{H:Hp}{Q:VK}{a b:Addr}{xs ys:List V}(h1:H a=some (.tup xs))(h2:H b=some (.tup ys))(hz:xs.length+ys.length<=1000)(k:∀c H',aW H H'->H' c=some (.tup (xs++ys))->Q (.ref c) H'):HM K (.ref a) (.ref b) H Q:=by
 unfold HM;exact ⟨a,b,xs,ys,rfl,rfl,h1,h2,hz,k⟩
theorem pS(K:PySem.W.Frag)(hK:X.K=K:=by rfl):nZ X (binaryOp .Add) (HM K):=by
 subst hK;unfold HM;intro pins s σ H x y v u Q I rx ry h;obtain ⟨a,b,xs,ys,rfl,rfl,ha,hb,hz,q⟩:=h;by_cases hx:xs=[]
 ·cases rx;cases ry;subst hx;obtain ⟨its,r1,p1,_⟩:=I.tuple (dO.of ha);obtain ⟨its2,r2,p2,_⟩:=I.tuple (dO.of hb);cases r1;obtain ⟨⟨cls,dd,data,sl⟩,ho,hc,n,hd⟩:=id p1;obtain ⟨⟨cls2,dd2,data2,sl2⟩,ho2,hc2,n2,hd2⟩:=id p2;simp only at hc hd hc2 hd2;subst hc hd hc2 hd2;exact concat_meets ⟨_,ho,rfl⟩ ⟨_,ho2,rfl⟩ noFill_tuple_add seq_tuple_add PySem.F.slot_tuple_add PySem.F.entry_tuple_add (PySem.F.args_tuple_add_2 _ _)
   (tuple_addW0 a b _ _ n n2 dd dd2 sl sl2 rfl) ⟨ho,ho2,⟨.ref b,H,I,rfl,q b H (aW.refl _) hb⟩⟩
 ·refine VH pins s σ H _ _ v u Q I rx ry ⟨a,b,xs,ys,rfl,rfl,dO.of ha,dO.of hb,hx,bG hz Dd,λe=>?_,λ_ p hp=>q p _ (aW.upd hp) bE⟩;subst e;exact q a H (aW.refl _) (by rw [List.append_nil];exact ha)
end
theorem wR(a:Int)(t:Tok)(l:Addr)(items:Array Value)(n:Nat)(dd:Option Addr)(sl:Array (Option Value)) :
  Meets (Builtin.«int.__rmul__» ⟨[.int a t,.ref l],[]⟩) (λ_ R s=>s.heap.get? l=some { cls:=.type "tuple",dict:=dd,data:=.seq items n,slots:=sl }/\R (.ok (.ret Value.notImplemented)) s) :=
 .of_wp λprog w A R s h=>by
  obtain ⟨hp,g,d,tk,os⟩:=s;obtain ⟨hl,h⟩:=h
  wp_walk
  exact ⟨_,rfl,h⟩
theorem EV(l:Addr)(items:Array Value)(n:Nat)(dd:Option Addr)(sl:Array (Option Value))(k:Int)(u:Tok)(h0:2<=k)(h1:k<=64)(he:items.isEmpty=false)(hz:items.size<=64)(hsz:((List.replicate k.toNat items).foldl (· ++ ·) #[]).size<=sizeLine) :
  Meets (Builtin.«tuple.__mul__» ⟨[.ref l,.int k u],[]⟩) (λ_ R s=>s.heap.get? l=some { cls:=.type "tuple",dict:=dd,data:=.seq items n,slots:=sl }/\R (.ok (.ret (.ref s.heap.objs.size))) { s with heap:=s.heap.push { cls:=.type "tuple",data:=.seq ((List.replicate k.toNat items).foldl (· ++ ·) #[]) } }) :=
 .of_wp λprog w A R s h=>by
  obtain ⟨hp,g,d,tk,os⟩:=s;obtain ⟨hl,h⟩:=h;have f1:=AutoSeq1.idx_int
  wp_walk using wpAny_loadPart' hl
  rw [if_neg (by simp;omega)]
  wp_walk using wpAny_loadPart' hl
  have he':¬items=#[]:=λz=>by simp [z] at he
  have hm:(items.size:Int)*k<=4096:=by
   have h2:(items.size:Int)*k<=64*64:=Int.mul_le_mul Oo h1 Oo Oo;omega
  rw [if_neg (by simp;exact ⟨he',Oo⟩)];rw [if_neg (by simp;exact ⟨Oo,he'⟩)];show wpAny _ _ (if (items.size:Int)*k > (2^63-1)/8 then _ else _) _ _ _;rw [if_neg Oo];show wpAny _ _ (if Builtin.Tuple.tupleTooMany (items.size*k)=true then _ else _) _ _ _;rw [if_neg (by unfold Builtin.Tuple.tupleTooMany;simp;exact Int.le_trans hm Dd)]
  wp_walk
  exact ⟨_,rfl,h⟩
theorem tM:fillsNumberSlot (.type "tuple") "mul" = pure false:=PySem.fillsNumberSlot_seq (id := "tuple.__mul__") (r:=some (.builtin "tuple.__rmul__")) F.slot_tuple_mul.lookup Kk F.slot_tuple_rmul.lookup Kk
theorem AQ:seqRepeat? (.type "tuple")=pure (some (.builtin "tuple.__mul__")):=by
 unfold seqRepeat?;rw [PySem.seqSlot_of (T := "tuple") (name := "__mul__") (id := "tuple.__mul__") F.slot_tuple_mul.lookup Kk,PySem.seqSlot_of (T := "tuple") (name := "__rmul__") (id := "tuple.__rmul__") F.slot_tuple_rmul.lookup Kk];rfl
@[irreducible] def HJ:R2:=λx y H Q=>∃a z,∃k:Nat,x=.ref a/\y=.int (k:Int)/\H a=some (.tup [z])/\2<=k/\k<=64/\∀c H',aW H H'->H' c=some (.tup (List.replicate k z))->Q (.ref c) H'
theorem aD9{H:Hp}{Q:VK}{a:Addr}{z:V}{k:Nat}(h:H a=some (.tup [z]))(h2:2<=k)(hk:k<=64)(q:∀c H',aW H H'->H' c=some (.tup (List.replicate k z))->Q (.ref c) H'):HJ (.ref a) (.int (k:Int)) H Q:=by
 unfold HJ;exact ⟨a,z,k,rfl,rfl,h,h2,hk,q⟩
section
variable{X:Cx}
theorem VG:nZ X (binaryOp .Mult) HJ:=by
 unfold HJ;intro pins s σ H x y v u Q I rx ry h;obtain ⟨a,z,k,rfl,rfl,hH,h2,hk,q⟩:=h;cases rx;obtain ⟨t,rfl⟩:=(show ∃t,u=Value.int (k:Int) t from ry);obtain ⟨its,r,p,_⟩:=I.tuple (dO.of hH);obtain ⟨w1,rfl,rw1⟩:=kM r;obtain ⟨⟨cls,dd,data,sl⟩,ho,hc,n,hd⟩:=id p;simp only at hc hd;subst hc hd;have flat1:∀k:Nat,(List.replicate k [w1]).flatten=List.replicate k w1:=λk=>by
  induction k with
  | zero=>rfl
  | succ k ih=>rw [List.replicate_succ,List.flatten_cons,ih,List.replicate_succ];rfl
 have f0:List.foldl (λx1 x2=>x1++x2) #[] (List.replicate k [w1].toArray)=(List.replicate k w1).toArray:=by
  have:=tS [w1] k [];rw [List.nil_append,flat1] at this;exact this
 have vr:∀k:Nat,cV (List.replicate k z) (List.replicate k w1):=λk=>by
  induction k with
  | zero=>exact .nil
  | succ k ih=>exact .cons rw1 ih
 generalize hk':(k:Int)=kk;have hkk:kk.toNat=k:=Oo;refine wpAny_binaryOp_repeat_ref (T := "tuple") (U := "int") Dd ⟨_,ho,rfl⟩ (λs'=>typeIs_int s' kk t) tM F.fills_int_mul F.slot_int_rmul AQ F.slot_int_index.lookup
  (call_meets F.slot_int_rmul (typeIs_int s kk t) F.entry_int_rmul (F.args_int_rmul_2 _ _) (wR kk t a [w1].toArray n dd sl) ⟨ho,rfl,⟨_,ho,rfl⟩,?_⟩)
 refine call_meets F.slot_tuple_mul ⟨_,ho,rfl⟩ F.entry_tuple_mul (F.args_tuple_mul_2 _ _) (EV a [w1].toArray n dd sl kk t Oo Oo rfl (by show 1<=64;decide) (by rw [hkk,f0,aQ,bU];exact bG hk Dd)) ⟨ho,?_⟩;rw [hkk,f0];refine ⟨.ref _,_,I.laid (t':=s.toks) (o:=.tup (List.replicate k z)) (λb ob q=>aB _ q) (aM _) ?_,rfl,q _ _ (aW.upd (I.hok.fresh (aM _))) bE⟩;exact ⟨⟨by rw [bU];exact pO hk,_,aP _ rfl,rfl⟩,_,vr k,IsTup.new _ _⟩
end
@[irreducible] def UH:V->List V->Hp->VK->Prop:=HL
theorem OX{X:Cx}:MtR X "list.extend" UH:=by unfold UH;exact KH
theorem aCu{H:Hp}{l b:Addr}{xs zs:List V}{Q:VK}(h:H l=some (.lst xs))(h2:H b=some (.lst zs))(hz:xs.length+zs.length<=1000)(k:∀H',H' l=some (.lst (xs++zs))->aS l H H'->Q .non H'):UH (.ref l) [.ref b] H Q:=by
 unfold UH;exact ⟨l,b,xs,zs,rfl,rfl,h,h2,Nat.le_of_lt (tE hz),k _ bE aS.self⟩
section
variable{prog:Program}{w:World}{A:Around}{E:Value->Shared->Prop}{s:Shared}{l:Addr}{xs:Array (Int × Tok)}
theorem NF{Q:Value->Shared->Prop}(hh:A.handled=none)(hl:s.heap.IsTuple l (intItems xs))
  (h:∀h' tk t',(∀b o,s.heap.get? b=some o->h'.get? b=some o)->Q (.int (preSum (numAt xs) xs.size) t') { s with heap:=h',toks:=tk }) :
  wpAny (model prog w) A (call (.builtin "sum") [.ref l]) Q E s:=by
 have hlt:l<s.heap.objs.size:=by obtain ⟨_,e,_⟩:=hl;exact aT e
 refine call_sum_walkG (wpAny_pyIter_tuple hl ?_);refine ⟨_,[_,l],[_],_,_,_,numAt xs,rfl,Walks.tuple (A:=A.in1) hh _ l (bS hlt) (intItems xs),⟨⟨_,aP _ rfl,rfl,rfl⟩,hl.push _⟩,λc hc=>?_,(λ_ _=>intItems_at),λh' tk t' hk=>?_⟩
 ·show c<(s.heap.push _).objs.size;rw [eC];rcases aV.mp hc with rfl | hc
  ·exact Nat.lt_succ_self _
  ·rcases aV.mp hc with rfl | hc
   ·exact Nat.lt_succ_of_lt hlt
   ·cases hc
 ·have:=h h' tk t' λc o e=>by
   refine hk c o (λhm=>?_) (aB _ e);rcases aV.mp hm with e1 | hm
   ·exact absurd (e1 ▸ aT e) (bT _)
   ·cases hm
  simpa [intItems] using this
end
@[irreducible] def HE(K:PySem.W.Frag):List V->Hp->VK->Prop:=λxs H Q=>∃(p:Addr) (ns:List Int),xs=[.ref p]/\dO K H p (ns.map V.int)/\Q (.int ns.sum) H
theorem rsT{K:PySem.W.Frag}{H:Hp}{p:Addr}{ns:List Int}{Q:VK}(h:dO K H p (ns.map V.int))(q:Q (.int ns.sum) H):HE K [.ref p] H Q:=by unfold HE;exact ⟨p,ns,rfl,h,q⟩
theorem sF{X:Cx}(K:PySem.W.Frag)(hc:X.calm=true)(hK:X.K=K:=by rfl):fO X (.builtin "sum") (HE K):=by
 subst hK;unfold HE;intro pins s σ H xs us Q I r h;obtain ⟨p,ns,rfl,hq,q⟩:=h;obtain ⟨u,rfl,rx⟩:=kM r;cases rx;obtain ⟨its,r',pl,hz⟩:=I.tuple hq;have hi:=nK r';obtain ⟨xs',e⟩:=hi.allInts.items;rw [e] at pl;refine NF (I.ok.hd hc) pl λh' tk t' hk=>⟨.int ns.sum,H,I.kept hk,⟨t',?_⟩,q⟩;rw [preSum_eq,List.take_of_length_le (by simp)];rw [<-hi.numsOf];have e2:its=(intItems xs').toList:=by rw [<-e]
 rw [e2,nums_intItems]
section
variable{js:List Nat}{te:TE}{tc:TT}{σ:St}{H:Hp}{Q:VK}
theorem aX.atI{α:Type}{g:α->PyData}:∀{as:List α}{xs:List V},aX H (as.map g) xs->∀{i:Nat}{x:V},xs[i]?=some x->∃a,as[i]?=some a/\bQ H (g a) x:=by
 intro as xs r i x e;obtain ⟨d,h1,h2⟩:=r.get e;rw [aC] at h1;cases q:as[i]? with
 | none=>rw [q] at h1;cases h1
 | some a=>rw [q] at h1;cases h1;exact ⟨a,rfl,h2⟩
theorem LE{K:PySem.W.Frag}{a:Addr}{xs:List V}{α:Type}{g:α->PyData}{as:List α}(r:aX H (as.map g) xs)(p:α->Bool)(hz:xs.length<=100000)(hl:H a=some (.lst xs))
  (ht:∀x c H' (Q':Bool->Hp->Prop),c∈as->bQ H' (g c) x->aW H H'->(∀H5,aW H' H5->Q' (p c) H5)->tc (some x::slots σ js) H' Q')
  (he:∀x H' (Q':VK),Q' x H'->te (some x::slots σ js) H' Q')
  (hd:∀D ys H',H D=none->H' D=some (.lst ys)->aW H H'->aX H' ((as.filter p).map g) ys->Q (.ref D) H'):nV (YQ K a) σ js tc te H Q:=by
 unfold nV;intro D hD;have hlen:xs.length=as.length:=by rw [r.len,aA]
 refine ⟨λi m ys H'=>m=xs.length-i/\i<=xs.length/\H' D=some (.lst ys)/\aW H H'/\aX H (((as.take i).filter p).map g) ys/\ys.length<=i,⟨xs.length,by simp,cK _,bE,aW.upd hD,aX.nil,aM _⟩,?_⟩;rintro i m ys H2 ⟨rfl,hi,hD2,s2,ry,hy⟩;refine ⟨hD2,?_⟩;by_cases hlt:i<xs.length
 ·have hx:xs[i]?=some xs[i]:=aD hlt;refine .inr ⟨⟨xs,_,eZ.of (s2 _ _ hl),hx⟩,bC (m:=100000) Oo Dd,λx H3 hy3=>?_⟩;obtain ⟨rfl,hx3⟩:=hy3;have hx3:=hx3 xs (eZ.of (s2 _ _ hl));obtain ⟨c,hc,rc⟩:=r.atI hx3;have hti:as.take (i+1)=as.take i++[c]:=by rw [eQ,hc];rfl
  refine ⟨λb H4=>b=p c/\aW H3 H4,ht x c H3 _ (bD hc) (rc.same s2) s2 λH5 s5=>⟨rfl,s5⟩,?_⟩;rintro b H4 ⟨rfl,s4⟩;by_cases hp:p c=true
  ·rw [if_pos hp];refine ⟨λy H5=>y=x/\H5=H4,he x H4 _ ⟨rfl,rfl⟩,?_⟩;rintro y H5 ⟨rfl,rfl⟩;refine ⟨s4 _ _ hD2,_,?_,rfl,hlt,bE,aW.thru hD (s2.trans s4) aS.self,?_,?_⟩
   ·omega
   ·rw [hti,List.filter_append,bF];have:List.filter p [c]=[c]:=by simp [hp]
    rw [this];exact aX.snoc ry rc
   ·rw [bI,List.length_singleton];omega
  ·rw [if_neg hp];refine ⟨s4 _ _ hD2,_,?_,rfl,hlt,s4 _ _ hD2,s2.trans s4,?_,?_⟩
   ·omega
   ·rw [hti,List.filter_append];have:List.filter p [c]=[]:=by simp [hp]
    rw [this,List.append_nil];exact ry
   ·omega
 ·have e:i=xs.length:=Oo;subst e;refine .inl ⟨⟨xs,eZ.of (s2 _ _ hl),aM _⟩,hd D ys H2 hD hD2 s2 ?_⟩;rw [hlen,hV] at ry;exact ry.same s2
end
end L2
namespace Mf
def lw(n d:Int):Int × Int:=(n/(Int.gcd n d:Int),d/(Int.gcd n d:Int))
structure RW(n d:Int):Prop where
 pos:0<d
 low:Int.gcd n d=1
theorem gG{n d:Int}(h:0<d):0<(Int.gcd n d:Int):=by
 have:=Int.gcd_pos_of_ne_zero_right n (Int.ne_of_gt h);omega
theorem fL{n d:Int}(h:0<d):RW (lw n d).1 (lw n d).2:=by
 have g:=gG (n:=n) h;refine ⟨?_,?_⟩
 ·exact Int.ediv_pos_of_pos_of_dvd h (Int.le_of_lt g) (Int.gcd_dvd_right n d)
 ·exact Int.gcd_ediv_gcd_ediv_gcd Oo
theorem PB{n d:Int}:(lw n d).1*(Int.gcd n d:Int)=n/\(lw n d).2*(Int.gcd n d:Int)=d :=
 ⟨Int.ediv_mul_cancel (Int.gcd_dvd_left n d),Int.ediv_mul_cancel (Int.gcd_dvd_right n d)⟩
theorem iD{n d:Int}:(lw n d).1*d=n*(lw n d).2:=by
 obtain ⟨e1,e2⟩:=PB (n:=n) (d:=d);generalize (lw n d).1=a at *;generalize (lw n d).2=b at *;generalize (Int.gcd n d:Int)=g at *;rw [<-e1,<-e2];rw [Int.mul_assoc,Int.mul_comm g b]
theorem IE{b a d:Int}(h:b ∣ a*d)(g:Int.gcd b a=1):b ∣ d:=by
 rw [<-Int.natAbs_dvd_natAbs,fC] at h;rw [<-Int.natAbs_dvd_natAbs];rw [Int.gcd_eq_natAbs_gcd_natAbs] at g;exact Nat.Coprime.dvd_of_dvd_mul_left g h
theorem DD{a b c d:Int}(h1:RW a b)(h2:RW c d)(e:a*d=c*b):a=c/\b=d:=by
 have d1:b ∣ d:=by
  have:b ∣ a*d:=by rw [e];exact Int.dvd_mul_left c b
  exact IE this (by rw [Int.gcd_comm];exact h1.low)
 have d2:d ∣ b:=by
  have:d ∣ c*b:=by rw [<-e];exact Int.dvd_mul_left a d
  exact IE this (by rw [Int.gcd_comm];exact h2.low)
 have hb:=h1.pos;have hd:=h2.pos;have e1:b=d:=Int.dvd_antisymm (Int.le_of_lt hb) (Int.le_of_lt hd) d1 d2;subst e1;exact ⟨Int.eq_of_mul_eq_mul_right Oo e,rfl⟩
theorem nI{a b n d:Int}(h:RW a b)(hd:0<d)(e:a*d=n*b):lw n d=(a,b):=by
 have c:=iD (n:=n) (d:=d);have q:=DD (fL (n:=n) hd) h (by
  have hd':d≠0:=Oo;apply Int.eq_of_mul_eq_mul_right hd'
  calc (lw n d).1*b*d=((lw n d).1*d)*b:=by rw [Int.mul_assoc,Int.mul_comm b d,<-Int.mul_assoc]
   _=(n*(lw n d).2)*b:=by rw [c]
   _=(n*b)*(lw n d).2:=by rw [Int.mul_assoc,Int.mul_comm (lw n d).2 b,<-Int.mul_assoc]
   _=(a*d)*(lw n d).2:=by rw [e]
   _=a*(lw n d).2*d:=by rw [Int.mul_assoc,Int.mul_comm d,<-Int.mul_assoc])
 exact Prod.ext q.1 q.2
theorem VJ{a b:Int}(h:RW a b):lw a b=(a,b):=nI h h.pos rfl
theorem nR{u a b:Int}(h1:Int.gcd u a=1)(h2:Int.gcd u b=1):Int.gcd u (a*b)=1:=by
 rw [Int.gcd_eq_natAbs_gcd_natAbs] at *;rw [fC];exact Nat.Coprime.mul_right h1 h2
theorem lD{a b c:Int}(h:Int.gcd a b=1)(d:c ∣ b):Int.gcd a c=1:=by
 have:=Int.gcd_dvd_gcd_of_dvd_right a d;rw [h] at this;exact Nat.eq_one_of_dvd_one this
theorem iI{a b c:Int}(h:Int.gcd a b=1)(d:c ∣ a):Int.gcd c b=1:=by
 rw [Int.gcd_comm] at *;exact lD h d
theorem UV{a b c d:Int}(h1:RW a b)(h2:RW c d) :
  let g:Int:=Int.gcd b d
  let u:=a*(d/g)+c*(b/g)
  let l:Int:=Int.gcd u g
  lw (a*d+c*b) (b*d)=(u/l,(b/g)*(d/l)):=by
 intro g u l;have hg:0<g:=gG h2.pos;have hl:0<l:=gG hg;obtain ⟨b',eb⟩:=Int.gcd_dvd_left b d;obtain ⟨d',ed⟩:=Int.gcd_dvd_right b d;have eb:b=g*b':=eb;have ed:d=g*d':=ed;have qb:b/g=b':=by rw [eb];exact Int.mul_ediv_cancel_left _ Oo
 have qd:d/g=d':=by rw [ed];exact Int.mul_ediv_cancel_left _ Oo
 have eu:u=a*d' + c*b':=by show a*(d/g)+c*(b/g)=_;rw [qb,qd]
 have cbd:Int.gcd b' d'=1:=by
  have:=Int.gcd_ediv_gcd_ediv_gcd (i:=b) (j:=d) (by have:0<(Int.gcd b d:Int):=hg;omega);have h:Int.gcd (b/g) (d/g)=1:=this
  rwa [qb,qd] at h
 have cab:Int.gcd a b'=1:=lD h1.low ⟨g,by rw [eb,Int.mul_comm]⟩;have ccd:Int.gcd c d'=1:=lD h2.low ⟨g,by rw [ed,Int.mul_comm]⟩;have ub:Int.gcd u b'=1:=by
  rw [eu,Int.add_comm,Int.gcd_mul_right_add_left,Int.gcd_mul_right_left_of_gcd_eq_one cab,Int.gcd_comm];exact cbd
 have ud:Int.gcd u d'=1:=by
  rw [eu,Int.gcd_mul_right_add_left,Int.gcd_mul_right_left_of_gcd_eq_one ccd];exact cbd
 obtain ⟨u',eu'⟩:=Int.gcd_dvd_left u g;obtain ⟨g',eg'⟩:=Int.gcd_dvd_right u g;have eu':u=l*u':=eu';have eg':g=l*g':=eg';have qu:u/l=u':=by rw [eu'];exact Int.mul_ediv_cancel_left _ Oo
 have qdl:d/l=g' * d':=by rw [ed,eg',Int.mul_assoc];exact Int.mul_ediv_cancel_left _ Oo
 have cug:Int.gcd u' g'=1:=by
  have:=Int.gcd_ediv_gcd_ediv_gcd (i:=u) (j:=g) (by have:0<(Int.gcd u g:Int):=hl;omega);have h:Int.gcd (u/l) (g/l)=1:=this;rw [qu] at h
  rwa [show g/l=g' from by rw [eg'];exact Int.mul_ediv_cancel_left _ Oo] at h
 rw [qu,qb,qdl];have hu':u' ∣ u:=⟨l,by rw [eu',Int.mul_comm]⟩;have hb':0<b':=by
  have:=h1.pos;rw [eb] at this;exact Int.pos_of_mul_pos_right this Oo
 have hd':0<d':=by
  have:=h2.pos;rw [ed] at this;exact Int.pos_of_mul_pos_right this Oo
 have hg':0<g':=by
  have:=hg;rw [eg'] at this;exact Int.pos_of_mul_pos_right this Oo
 refine nI ⟨Int.mul_pos hb' (Int.mul_pos hg' hd'),?_⟩ (Int.mul_pos h1.pos h2.pos) ?_
 ·exact nR (iI ub hu') (nR cug (iI ud hu'))
 ·have e1:a*d+c*b=g*(l*u'):=by
   rw [<-eu',eu,eb,ed];rw [Int.mul_add,Int.mul_left_comm a,Int.mul_left_comm c]
  rw [e1,eb,ed];generalize hG:g=G at *;rw [eg'];simp only [Int.mul_assoc,Int.mul_left_comm,Int.mul_comm]
theorem MY{a b c d:Int}(h1:RW a b)(h2:RW c d) :
  let f:Int:=Int.gcd a d
  let s:Int:=Int.gcd c b
  lw (a*c) (b*d)=((a/f)*(c/s),(b/s)*(d/f)):=by
 intro f s;have hf:0<f:=gG h2.pos;have hs:0<s:=gG h1.pos;obtain ⟨a',ea⟩:=Int.gcd_dvd_left a d;obtain ⟨d',ed⟩:=Int.gcd_dvd_right a d;obtain ⟨c',ec⟩:=Int.gcd_dvd_left c b;obtain ⟨b',eb⟩:=Int.gcd_dvd_right c b;have ea:a=f*a':=ea;have ed:d=f*d':=ed;have ec:c=s*c':=ec;have eb:b=s*b':=eb;have qa:a/f=a':=by rw [ea];exact Int.mul_ediv_cancel_left _ Oo
 have qd:d/f=d':=by rw [ed];exact Int.mul_ediv_cancel_left _ Oo
 have qc:c/s=c':=by rw [ec];exact Int.mul_ediv_cancel_left _ Oo
 have qb:b/s=b':=by rw [eb];exact Int.mul_ediv_cancel_left _ Oo
 have cad:Int.gcd a' d'=1:=by
  have:=Int.gcd_ediv_gcd_ediv_gcd (i:=a) (j:=d) (by have:0<(Int.gcd a d:Int):=hf;omega);have h:Int.gcd (a/f) (d/f)=1:=this
  rwa [qa,qd] at h
 have ccb:Int.gcd c' b'=1:=by
  have:=Int.gcd_ediv_gcd_ediv_gcd (i:=c) (j:=b) (by have:0<(Int.gcd c b:Int):=hs;omega);have h:Int.gcd (c/s) (b/s)=1:=this
  rwa [qc,qb] at h
 have cab:Int.gcd a' b'=1:=iI (lD h1.low ⟨s,by rw [eb,Int.mul_comm]⟩) ⟨f,by rw [ea,Int.mul_comm]⟩;have ccd:Int.gcd c' d'=1:=iI (lD h2.low ⟨f,by rw [ed,Int.mul_comm]⟩) ⟨s,by rw [ec,Int.mul_comm]⟩;have hb':0<b':=by
  have:=h1.pos;rw [eb] at this;exact Int.pos_of_mul_pos_right this Oo
 have hd':0<d':=by
  have:=h2.pos;rw [ed] at this;exact Int.pos_of_mul_pos_right this Oo
 rw [qa,qb,qc,qd];refine nI ⟨Int.mul_pos hb' hd',?_⟩ (Int.mul_pos h1.pos h2.pos) ?_
 ·have x1:Int.gcd a' (b' * d')=1:=nR cab cad;have x2:Int.gcd c' (b' * d')=1:=nR ccb ccd;rw [Int.gcd_comm] at x1 x2 ⊢;exact nR x1 x2
 ·rw [ea,eb,ec,ed];simp only [Int.mul_assoc,Int.mul_left_comm,Int.mul_comm]
end Mf
namespace Mf
abbrev Fr:=Int × Int
def nY(x y:Fr):Fr:=lw (x.1*y.2+y.1*x.2) (x.2*y.2)
def nX(fs:List Fr):Fr:=fs.foldl nY (0,1)
def fF(f:Fr):Prop:=RW f.1 f.2
theorem jT{α:Type}{P:List α->Prop}(h0:P [])(hs:∀l a,P l->P (l++[a]))(l:List α):P l:=by
 have:∀r:List α,P r.reverse:=by
  intro r
  induction r with
  | nil=>exact h0
  | cons a r ih=>rw [List.reverse_cons];exact hs _ _ ih
 have:=this l.reverse
 rwa [List.reverse_reverse] at this
theorem pH(l:List Fr)(a:Fr):nX (l++[a])=nY (nX l) a:=by unfold nX;rw [List.foldl_append];rfl
theorem vU(l:List Fr):(∀f∈l,fF f)->fF (nX l):=by
 refine jT (P:=λl=>(∀f∈l,fF f)->fF (nX l)) (λ_=>⟨Dd,Dd⟩) (λl a ih h=>?_) l;rw [pH];have h1:=ih λf hf=>h f (cQ _ hf);have h2:=h a (aL _ aG);exact fL (Int.mul_pos h1.pos h2.pos)
theorem HV{n d:Int}(h:0<d):(lw n d).2<=d/\(lw n d).1.natAbs<=n.natAbs:=by
 obtain ⟨e1,e2⟩:=PB (n:=n) (d:=d);have g:=gG (n:=n) h;have p:=(fL (n:=n) h).pos;generalize (lw n d).1=a at *;generalize (lw n d).2=b at *;generalize (Int.gcd n d:Int)=G at *;refine ⟨?_,?_⟩
 ·rw [<-e2];have:=Int.mul_le_mul_of_nonneg_left (show (1:Int)<=G by omega) (Int.le_of_lt p);simpa using this
 ·rw [<-e1,fC];exact Nat.le_mul_of_pos_right _ Oo
end Mf
namespace Mf
theorem rR{n d n' d':Int}(hd:0<d)(hd':0<d')(e:n*d'=n' * d):lw n d=lw n' d':=by
 have h:=fL (n:=n') hd';have c:=iD (n:=n') (d:=d');generalize lw n' d'=L at c h;refine nI (a:=L.1) (b:=L.2) h hd ?_;refine Int.eq_of_mul_eq_mul_right (a:=d') Oo ?_
 calc L.1*d*d'=(L.1*d')*d:=by ac_rfl
  _=n' * L.2*d:=by rw [c]
  _=(n' * d)*L.2:=by ac_rfl
  _=n*d' * L.2:=by rw [e]
  _=n*L.2*d':=by ac_rfl
def gJ(f g:Fr):Fr:=lw (f.1*g.1) (f.2*g.2)
theorem AV{a b c d:Int}(hb:0<b)(hd:0<d):gJ (lw a b) (lw c d)=lw (a*c) (b*d):=by
 have h1:=(fL (n:=a) hb).pos;have h2:=(fL (n:=c) hd).pos;refine rR (Int.mul_pos h1 h2) (Int.mul_pos hb hd) ?_;have e1:=iD (n:=a) (d:=b);have e2:=iD (n:=c) (d:=d);generalize lw a b=L at *;generalize lw c d=M at *
 calc L.1*M.1*(b*d)=(L.1*b)*(M.1*d):=by ac_rfl
  _=(a*L.2)*(c*M.2):=by rw [e1,e2]
  _=a*c*(L.2*M.2):=by ac_rfl
theorem aBr{a b c d:Int}(hb:0<b)(hd:0<d):nY (lw a b) (lw c d)=lw (a*d+c*b) (b*d):=by
 have h1:=(fL (n:=a) hb).pos;have h2:=(fL (n:=c) hd).pos;refine rR (Int.mul_pos h1 h2) (Int.mul_pos hb hd) ?_;have e1:=iD (n:=a) (d:=b);have e2:=iD (n:=c) (d:=d);generalize lw a b=L at *;generalize lw c d=M at *;rw [Int.add_mul,Int.add_mul];congr 1
 ·calc L.1*M.2*(b*d)=(L.1*b)*(M.2*d):=by ac_rfl
   _=(a*L.2)*(M.2*d):=by rw [e1]
   _=a*d*(L.2*M.2):=by ac_rfl
 ·calc M.1*L.2*(b*d)=(M.1*d)*(L.2*b):=by ac_rfl
   _=(c*M.2)*(L.2*b):=by rw [e2]
   _=c*b*(L.2*M.2):=by ac_rfl
theorem vL{d:Int}(h:0<d):lw 0 d=(0,1):=nI (a:=0) (b:=1) ⟨Dd,Dd⟩ h Oo
theorem AX{d:Int}(h:0<d):lw d d=(1,1):=nI (a:=1) (b:=1) ⟨Dd,Dd⟩ h Oo
def wI(f:Fr)(c:Nat):Fr:=(f.1^c,f.2^c)
theorem oW{f:Fr}(h:fF f):∀c:Nat,fF (wI f c)
 | 0=>⟨by show 0<f.2^0;rw [Int.pow_zero];decide,by show Int.gcd (f.1^0) (f.2^0)=1;rw [Int.pow_zero,Int.pow_zero];decide⟩
 | c+1=>by
  have ih:=oW h c;have k:∀n:Nat,Int.gcd f.1 (f.2^n)=1:=λn=>by
   induction n with
   | zero=>rw [Int.pow_zero];exact Int.gcd_one_right _
   | succ n ih=>rw [Int.pow_succ];exact nR ih h.low
  refine ⟨?_,?_⟩
  ·show 0<f.2^(c+1);rw [Int.pow_succ];exact Int.mul_pos ih.pos h.pos
  ·show Int.gcd (f.1^(c+1)) (f.2^(c+1))=1;have k2:∀n:Nat,Int.gcd (f.2^(c+1)) (f.1^n)=1:=λn=>by
    induction n with
    | zero=>rw [Int.pow_zero];exact Int.gcd_one_right _
    | succ n ih=>rw [show f.1^(n+1)=f.1^n*f.1 from Int.pow_succ ..];exact nR ih (by rw [Int.gcd_comm];exact k (c+1))
   rw [Int.gcd_comm];exact k2 (c+1)
def sT(zs:List (Fr × Nat)):Fr:=zs.foldl (λp q=>(p.1*q.1.1^q.2,p.2*q.1.2^q.2)) (1,1)
def qT(zs:List (Fr × Nat)):Fr:=zs.foldl (λp q=>gJ p (wI q.1 q.2)) (1,1)
theorem sS(l:List (Fr × Nat))(a:Fr × Nat):sT (l++[a])=((sT l).1*a.1.1^a.2,(sT l).2*a.1.2^a.2):=by unfold sT;rw [List.foldl_append];rfl
theorem sU(l:List (Fr × Nat))(a:Fr × Nat):qT (l++[a])=gJ (qT l) (wI a.1 a.2):=by unfold qT;rw [List.foldl_append];rfl
theorem vS(l:List (Fr × Nat)):(∀z∈l,fF z.1)->0<(sT l).2:=by
 induction l using jT with
 | h0=>intro _;decide
 | hs l a ih =>
  intro h;rw [sS];exact Int.mul_pos (ih λf hf=>h f (cQ _ hf)) (oW (h a (by simp)) a.2).pos
theorem GS(l:List (Fr × Nat)):(∀z∈l,fF z.1)->qT l=lw (sT l).1 (sT l).2:=by
 induction l using jT with
 | h0=>intro _;rfl
 | hs l a ih =>
  intro h;have hl:∀f∈l,fF f.1:=λf hf=>h f (cQ _ hf);have ha:=oW (h a (by simp)) a.2;rw [sU,sS,ih hl];have e:wI a.1 a.2=lw (a.1.1^a.2) (a.1.2^a.2):=(VJ ha).symm;rw [e,AV (vS l hl) (show 0<a.1.2^a.2 from ha.pos)]
theorem MI(l:List (Fr × Nat))(h:∀z∈l,fF z.1):fF (qT l):=by rw [GS l h];exact fL (vS l h)
theorem tK{x:Int}{B:Nat}(h:x.natAbs<=2^B)(c:Nat):(x^c).natAbs<=2^(B*c):=by
 rw [Int.natAbs_pow,Nat.pow_mul];exact Nat.pow_le_pow_left h c
theorem SG{B:Nat}(l:List (Fr × Nat)):(∀z∈l,z.1.1.natAbs<=2^B/\z.1.2.natAbs<=2^B)->(sT l).1.natAbs<=2^(B*(l.map (·.2)).sum)/\(sT l).2.natAbs<=2^(B*(l.map (·.2)).sum):=by
 induction l using jT with
 | h0=>intro _;exact ⟨Nat.one_le_two_pow,Nat.one_le_two_pow⟩
 | hs l a ih =>
  intro h;obtain ⟨i1,i2⟩:=ih λf hf=>h f (cQ _ hf);obtain ⟨a1,a2⟩:=h a (by simp);rw [sS,bF,List.sum_append,show ([a].map (·.2)).sum=a.2 by simp,Nat.mul_add,Nat.pow_add];exact ⟨by show ((sT l).1*a.1.1^a.2).natAbs<=_;rw [fC];exact Nat.mul_le_mul i1 (tK a1 _),by show ((sT l).2*a.1.2^a.2).natAbs<=_;rw [fC];exact Nat.mul_le_mul i2 (tK a2 _)⟩
theorem SH{B:Nat}(l:List (Fr × Nat))(hl:∀z∈l,fF z.1)(h:∀z∈l,z.1.1.natAbs<=2^B/\z.1.2.natAbs<=2^B):(qT l).1.natAbs<=2^(B*(l.map (·.2)).sum)/\(qT l).2.natAbs<=2^(B*(l.map (·.2)).sum):=by
 obtain ⟨h1,h2⟩:=SG l h;rw [GS l hl];have hp:=vS l hl;obtain ⟨l1,l2⟩:=HV (n:=(sT l).1) hp;have:=(fL (n:=(sT l).1) hp).pos;exact ⟨bG l2 h1,Oo⟩
end Mf
namespace Mf
def mC(F:Nat):Nat->List (List Nat)
 | 0=>[[]]
 | n+1=>(mC F n).flatMap λr=>(List.range F).map λj=>r++[j]
theorem tH{F:Nat}:∀{n:Nat}{r:List Nat},r∈mC F n->r.length=n/\∀x∈r,x<F
 | 0,r,h=>by
  have:r=[]:=by simpa [mC] using h
  subst this;exact ⟨rfl,λx hx=>by cases hx⟩
 | n+1,r,h=>by
  obtain ⟨q,hq,h⟩:=List.mem_flatMap.mp h;obtain ⟨j,hj,rfl⟩:=aK.mp h;obtain ⟨h1,h2⟩:=tH hq;refine ⟨by simp [h1],λx hx=>?_⟩;rcases cM.mp hx with hx | hx
  ·exact h2 x hx
  ·rw [bM.mp hx];exact bX.mp hj
def cnt(F:Nat)(r:List Nat):List Nat:=(List.range F).map λj=>r.count j
theorem sE(F:Nat)(r:List Nat):(cnt F r).length=F:=by simp [cnt]
theorem pY{F j:Nat}(r:List Nat)(h:j<F):(cnt F r)[j]?=some (r.count j):=by
 simp [cnt,h]
theorem DW(F:Nat)(r:List Nat){j:Nat}(h:j<F):cnt F (r++[j])=(cnt F r).set j (r.count j+1):=by
 apply List.ext_getElem?;intro i;by_cases hi:i<F
 ·rw [pY _ hi,List.getElem?_set];by_cases e:j=i
  ·subst e;rw [if_pos rfl,if_pos (by rw [sE];exact h),List.count_append];simp
  ·rw [if_neg e,pY _ hi,List.count_append];simp [List.count_singleton,e]
 ·rw [bH (by rw [sE];omega),bH (by rw [List.length_set,sE];omega)]
theorem GW:∀(l:List Nat) (j v x:Nat),l[j]?=some x->(l.set j v).sum+x=l.sum+v
 | [],j,v,x,h=>by simp at h
 | a::l,0,v,x,h=>by
  have:a=x:=by simpa using h
  subst this;simp only [List.set_cons_zero,List.sum_cons];omega
 | a::l,j+1,v,x,h=>by
  have:=GW l j v x (by simpa using h);simp only [List.set_cons_succ,List.sum_cons];omega
theorem WK{F:Nat}(r:List Nat):(∀x∈r,x<F)->(cnt F r).sum=r.length:=by
 induction r using jT with
 | h0 =>
  intro _;have:cnt F []=List.replicate F 0:=by
   apply List.ext_getElem?;intro i;by_cases hi:i<F
   ·rw [pY _ hi];simp [hi]
   ·rw [bH (by rw [sE];omega)];simp [hi]
  rw [this];simp
 | hs l a ih =>
  intro h;have ha:=h a (by simp);have h1:=ih λx hx=>h x (cQ _ hx);rw [DW F l ha];have:=GW (cnt F l) a (l.count a+1) _ (pY l ha);rw [bI,List.length_singleton];omega
def sm{α:Type}(l:List α)(f:α->Int):Int:=(l.map f).sum
theorem oU{α:Type}(f:α->Int):sm [] f=0:=rfl
theorem eK{α:Type}(a:α)(l:List α)(f:α->Int):sm (a::l) f=f a+sm l f:=by simp [sm]
theorem AK{α:Type}(a b:List α)(f:α->Int):sm (a++b) f=sm a f+sm b f:=by simp [sm,bF,List.sum_append]
theorem ZA{α:Type}(l:List α)(f g:α->Int):sm l (λa=>f a+g a)=sm l f+sm l g:=by
 induction l with
 | nil=>rfl
 | cons a l ih=>rw [eK,eK,eK,ih];omega
theorem YZ{α:Type}(l:List α)(f:α->Int)(x:Int):sm l (λa=>f a*x)=sm l f*x:=by
 induction l with
 | nil=>simp [sm]
 | cons a l ih=>rw [eK,eK,ih,Int.add_mul]
theorem GY{α:Type}(l:List α)(f:α->Int)(x:Int):sm l (λa=>x*f a)=x*sm l f:=by
 induction l with
 | nil=>simp [sm]
 | cons a l ih=>rw [eK,eK,ih,Int.mul_add]
theorem iZ{α:Type}{l:List α}{f g:α->Int}(h:∀a∈l,f a=g a):sm l f=sm l g:=by
 unfold sm;rw [bZ h]
theorem SX{α β:Type}(l:List α)(m:List β)(f:α->β->Int):sm l (λa=>sm m λb=>f a b)=sm m λb=>sm l λa=>f a b:=by
 induction l with
 | nil =>
  rw [oU]
  induction m with
  | nil=>rfl
  | cons b m ih=>rw [eK,<-ih];rfl
 | cons a l ih =>
  rw [eK,ih,<-ZA];exact iZ λb _=>(eK a l λa=>f a b).symm
theorem SY{α β:Type}(l:List α)(g:α->List β)(f:β->Int):sm (l.flatMap g) f=sm l λa=>sm (g a) f:=by
 induction l with
 | nil=>rfl
 | cons a l ih=>rw [List.flatMap_cons,AK,eK,ih]
theorem FK{α β:Type}(l:List α)(g:α->β)(f:β->Int):sm (l.map g) f=sm l λa=>f (g a):=by
 unfold sm;rw [List.map_map];rfl
theorem SW{α:Type}(l:List α):sm l (λ_=>0)=0:=by
 induction l with
 | nil=>rfl
 | cons a l ih=>rw [eK,ih];rfl
theorem WL(F:Nat):cnt F []=List.replicate F 0:=by
 apply List.ext_getElem?;intro i;by_cases hi:i<F
 ·rw [pY _ hi];simp [hi]
 ·rw [bH (by rw [sE];omega)];simp [hi]
end Mf
namespace Mf
theorem VL{f:Fr}{D:Int}(h:fF f)(hD:0<D)(hd:f.2 ∣ D):lw (f.1*(D/f.2)) D=f:=by
 obtain ⟨a,b⟩:=f;refine nI h hD ?_;obtain ⟨k,rfl⟩:=hd;have hb:b≠0:=by have:0<b:=h.pos;omega
 show a*(b*k)=a*(b*k/b)*b;rw [Int.mul_ediv_cancel_left _ hb,Int.mul_assoc,Int.mul_comm k b]
def gX(xs:List Int)(c:List Nat):Int:=(xs.zip c).foldr (λq p=>q.1^q.2*p) 1
theorem WB(x:Int)(xs:List Int)(k:Nat)(c:List Nat):gX (x::xs) (k::c)=x^k*gX xs c:=rfl
theorem aAx{a b:Int}(hb:0<b):∀c:Nat,wI (lw a b) c=lw (a^c) (b^c):=by
 intro c;have hl:fF (lw a b):=fL hb;have h:=oW hl c;refine (nI (a:=(wI (lw a b) c).1) (b:=(wI (lw a b) c).2) h (Int.pow_pos hb) ?_).symm;have e:=iD (n:=a) (d:=b);show (lw a b).1^c*b^c=a^c*(lw a b).2^c;rw [<-Int.mul_pow,<-Int.mul_pow,e]
theorem SF{D:Int}(hD:0<D):∀(xs:List Int) (cs:List Nat),xs.length=cs.length->qT ((xs.map λx=>lw x D).zip cs)=lw (gX xs cs) (D^cs.sum):=by
 have key:∀(zs:List (Int × Nat)),qT (zs.map λz=>(lw z.1 D,z.2))=lw (zs.foldr (λq p=>q.1^q.2*p) 1) (D^(zs.map (·.2)).sum):=by
  intro zs
  induction zs using jT with
  | h0 =>
   show (1,1)=lw 1 (D^0);rw [Int.pow_zero];exact (AX (d:=1) Dd).symm
  | hs zs z ih =>
   rw [bF,bF,List.sum_append];show qT (zs.map (λz=>(lw z.1 D,z.2))++[(lw z.1 D,z.2)])=_;rw [sU,ih];show gJ _ (wI (lw z.1 D) z.2)=_;rw [aAx hD,AV (Int.pow_pos hD) (Int.pow_pos hD),<-Int.pow_add];have e:∀(l:List (Int × Nat)) (y:Int),l.foldr (λq p=>q.1^q.2*p) y=l.foldr (λq p=>q.1^q.2*p) 1*y:=by
    intro l y
    induction l with
    | nil=>show y=1*y;omega
    | cons a l ih=>show a.1^a.2*_=a.1^a.2*_*y;rw [ih,Int.mul_assoc]
   rw [List.foldr_append,e zs ([z].foldr (λq p=>q.1^q.2*p) 1)];show lw _ _=lw (_*(z.1^z.2*1)) (D^(_+([z].map (·.2)).sum));rw [Int.mul_one];simp
 intro xs cs hl;have e1:(xs.map λx=>lw x D).zip cs=(xs.zip cs).map λz=>(lw z.1 D,z.2):=by
  rw [List.zip_map_left];rfl
 have e2:(xs.zip cs).map (·.2)=cs:=List.map_snd_zip Oo;rw [e1,key,e2];rfl
end Mf
namespace L2
open PySem PySem.Spec PyProof.Rows
theorem MP(K:PySem.W.Frag){X:Cx}{T id:String}{o e:Expr}{es:List Expr}{to:TE}{t:TA}{name:Str}{apos cpos:Pos}{r:V->List V->Hp->VK->Prop}(pa:PlainAttrs T)(slot:Slot T name id)(hty:typeOf (.builtin id)=pure (.type "method_descriptor"))(hm:MtR X id r)(ho:fJ X o to)(ha:IV X (e::es) t)(hK:X.K=K:=by rfl)
  (hbase:attributeBase o name X.env (eval o X.env)=eval o X.env:=by rfl)
  (hfew:((backTo cpos (starEach (e::es) X.env)).all (λx=>!x.1)&&(backToKw cpos (keywordEach [] X.env)).all (λx=>x.1.isSome)
   && decide ((e::es).length+([]:List Keyword).length+(if ([]:List Keyword).isEmpty then 0 else 1)<30))=true:=by rfl)
  (hline:(apos.endLine == cpos.line)=true:=by rfl) (hs:starEach (e::es) X.env=(false,eval e X.env)::starEach es X.env:=by first | exact fR | exact dZ | exact se_BoolOp | exact gA | exact eO | exact se_IfExp | exact se_Dict | exact dY | exact eP | exact fI | exact se_Attribute | exact cY | exact iG | exact fZ | exact se_JoinedStr | exact se_GeneratorExp) (hplain:(backTo cpos (starEach es X.env)).any (·.1)=false:=by repeat (first | exact xC | refine sI (by first | exact fR | exact dZ | exact se_BoolOp | exact gA | exact eO | exact se_IfExp | exact se_Dict | exact dY | exact eP | exact fI | exact se_Attribute | exact cY | exact iG | exact fZ | exact se_JoinedStr | exact se_GeneratorExp) ?_)) :
  fJ X (.Call (.Attribute o name apos) (e::es) [] cpos) (tBM K T r to t):=by subst hK;exact ⟨XZ pa slot hty hm ho.p ha.p hbase hfew hline hs hplain⟩
theorem zW{X:Cx}{e:Expr}{t:TT}(h:IT X e t):IT X e (oC t):=⟨h.p.mono⟩
end L2
namespace HT
open PySem PyProof.Rows
section
variable{prog:Program}{w:World}{A:Around}{E:Value->Shared->Prop}{s:Shared}
theorem qB{t sl:Addr}{items:Array Value}{vl vu:Value}{lo hi:Option Int}{Q:Value->Shared->Prop}(ht:IsTup s.heap t items)(hs:s.heap.IsSliceOf sl vl vu .none)(pl:IsPart vl lo)(pu:IsPart vu hi)
  (h0:iA items.size 0 lo=0) (h1:iA items.size items.size hi=items.size) (h:Q (.ref t) s):wpAny (model prog w) A (getItem (.ref t) (.ref sl)) Q E s:=by
 obtain ⟨os,hos,hcs,hds⟩:=id hs;have hTs:s.TypeIs (.ref sl) "slice" := ⟨os,hos,hcs⟩;have hTt:s.TypeIs (.ref t) "tuple" := ht.typeIs;unfold getItem
 try with_reducible refine wpAny_holding ?_
 first | refine wpAny_bind (wpAny_pure ?_) | skip
 refine wpAny_bind (wpAny_sequenceKey ht.typeIs Dd ?_);refine wpAny_bind (wpAny_callSpecial?_slot (name:=Str.ofString "__getitem__") ht.typeIs PyProof.Rows.slot_tuple_getitem
  (wpAny_call_entry PyProof.Rows.slot_tuple_getitem ht.typeIs entry_tuple_getitem ?_ (args_tuple_getitem _ _)))
 show wpAny _ _ (Builtin.Tuple.tupleItemsOf (.ref t) >>= _) _ _ s;refine wpAny_bind (tupleItemsOf_ ht ?_);refine wpAny_bind (wpAny_typeOf hTs ?_);rw [if_pos Dd];refine wpAny_bind (lY hs pl pu ?_);have hyes:(((iA items.size 0 lo:Nat):Int) == 0&&(1:Int) == 1&&(iA items.size items.size hi-iA items.size 0 lo) == items.size)=true:=by
  rw [h0,h1];simp
 show wpAny _ _ (if (((iA items.size 0 lo:Nat):Int) == 0&&(1:Int) == 1&&(iA items.size items.size hi-iA items.size 0 lo) == items.size)=true then _ else _) _ _ s;rw [if_pos hyes];unfold Builtin.Tuple.tupleIsExact;refine wpAny_bind (wpAny_bind (wpAny_typeOf hTt (wpAny_pure ?_)));rw [if_pos Dd];refine wpAny_bind (wpAny_rule ?_)
 first
  | exact wpAny_pure ⟨_,rfl,wpAny_pure h⟩
  | exact wpAny_bind (wpAny_pure (wpAny_pure ⟨_,rfl,wpAny_pure h⟩))
end
end HT
namespace L2
open PySem PySem.W PySem.Spec PySem.Calls PyProof.Rows
theorem GG{xs:List V}{lo hi:Option Int}(h0:HT.iA xs.length 0 lo=0)(h1:HT.iA xs.length xs.length hi=xs.length):pB xs lo hi=xs:=by
 unfold pB;rw [h0,h1];simp
section
variable{X:Cx}
@[irreducible] def FP(K:PySem.W.Frag):V->Option Int->Option Int->Hp->VK->Prop:=λx lo hi H Q=>∃a xs,x=.ref a/\H a=some (.tup xs)/\∀c H',aW H H'->H' c=some (.tup (pB xs lo hi))->Q (.ref c) H'
theorem pP(K:PySem.W.Frag)(hK:X.K=K:=by rfl):SlR X (FP K):=by
 unfold FP;subst hK;intro pins s σ H x v vl vu lo hi sl Q I rx hs pl pu h;obtain ⟨a,xs,rfl,hx,q⟩:=h;by_cases hw:HT.iA xs.length 0 lo=0/\HT.iA xs.length xs.length hi=xs.length
 ·cases rx;obtain ⟨its,r,ht,hz⟩:=I.tuple (dO.of hx);have hlen:its.toArray.size=xs.length:=by rw [aQ];exact r.length.symm
  refine ⟨"tuple",_,PyProof.Rows.slot_tuple_getitem.lookup,ht.typeIs,?_⟩;refine HT.qB ht hs pl pu (by rw [hlen];exact hw.1) (by rw [hlen];exact hw.2) ?_;exact ⟨.ref a,H,I,rfl,q a H (aW.refl _) (by rw [GG hw.1 hw.2];exact hx)⟩
 ·exact ZB pins s σ H (.ref a) v vl vu lo hi sl Q I rx hs pl pu ⟨a,xs,rfl,dO.of hx,hw,λp hp=>q p _ (aW.upd hp) bE⟩
theorem FM{K:PySem.W.Frag}{H:Hp}{a:Addr}{xs:List V}{k:Nat}{Q:VK}(h:H a=some (.tup xs))(q:∀c H',aW H H'->H' c=some (.tup (xs.take k))->Q (.ref c) H'):FP K (.ref a) none (some (k:Int)) H Q:=by
 unfold FP;exact ⟨a,xs,rfl,h,λc H' s e=>q c H' s (by rw [e,IK])⟩
theorem ZC{K:PySem.W.Frag}{H:Hp}{a:Addr}{xs:List V}{k:Nat}{Q:VK}(h:H a=some (.tup xs))(q:∀c H',aW H H'->H' c=some (.tup (xs.drop k))->Q (.ref c) H'):FP K (.ref a) (some (k:Int)) none H Q:=by
 unfold FP;exact ⟨a,xs,rfl,h,λc H' s e=>q c H' s (by rw [e,WH])⟩
end
end L2
namespace HT
open PySem PySem.W PyProof.Rows
def cZ{α:Type}(n:Nat)(lt:Nat->Nat->Bool)(R:α->Prop):KasT α->Prop
 | .ret a=>R a
 | .ask i j k=>i<n/\j<n/\cZ n lt R (k (lt i j))
section
variable{n:Nat}{lt:Nat->Nat->Bool}
theorem cZ.bind{α β:Type}{R:α->Prop}{S:β->Prop}{f:α->KasT β}:∀{t:KasT α},cZ n lt R t->(∀a,R a->cZ n lt S (f a))->cZ n lt S (t.bind f)
 | .ret a,h,k=>k a h
 | .ask i j t,⟨h1,h2,h3⟩,k=>⟨h1,h2,cZ.bind (t:=t (lt i j)) h3 k⟩
theorem cZ.wp{α:Type}{R:α->Prop}{cmp:Nat->Nat->(Bool->Shared->Prop)->Shared->Prop}{Q:α->Shared->Prop}{s:Shared}(hc:∀i j C,i<n->j<n->C (lt i j) s->cmp i j C s)(q:∀a,R a->Q a s) :
  ∀{t:KasT α},cZ n lt R t->t.kasWp cmp Q s
 | .ret a,h=>q a h
 | .ask i j t,⟨h1,h2,h3⟩=>hc i j _ h1 h2 (cZ.wp (t:=t (lt i j)) hc q h3)
def eV(n:Nat)(p:Array Nat):Prop:=p.Perm (List.toArray (List.range n))
theorem eV.bd{p:Array Nat}(g:eV n p)(hn:0<n)(i:Nat):p.getD i 0<n:=by
 by_cases hi:i<p.size
 ·have e:p.getD i 0=p[i]:=by simp [Array.getD,hi]
  rw [e];have m:p[i]∈List.toArray (List.range n):=(Array.Perm.mem_iff g).mp (Array.getElem_mem hi);simpa using m
 ·have e:p.getD i 0=0:=by simp [Array.getD,hi]
  rw [e];exact hn
theorem eV.rev{p:Array Nat}(g:eV n p)(i j:Nat):eV n (kas_rev p i j):=(mirror_perm p i j _).trans g
theorem eV.bub{p:Array Nat}(g:eV n p)(i j:Nat):eV n (bubble p i j):=(bubble_perm p i j).trans g
theorem BL{p:Array Nat}(g:eV n p)(hn:0<n):∀(f m:Nat),cZ n lt (λ_=>True) (kas_asc p f m)
 | 0,m=>True.intro
 | f+1,m=>⟨g.bd hn _,g.bd hn _,by
  cases lt (p.getD m 0) (p.getD (m-1) 0) with
  | true=>exact True.intro
  | false=>exact BL g hn f (m+1)⟩
theorem sK(hn:0<n):∀(f:Nat) {p:Array Nat}(g:eV n p) (m q:Nat),cZ n lt (λr=>eV n r.1) (kas_desc f p m q)
 | 0,p,g,m,q=>g
 | f+1,p,g,m,q=>by
  refine ⟨g.bd hn _,g.bd hn _,?_⟩;cases lt (p.getD m 0) (p.getD (m-1) 0) with
  | true =>
   show cZ n lt _ (if q > 0 then _ else _);split
   ·exact sK hn f (g.rev _ _) _ _
   ·exact sK hn f g _ _
  | false =>
   refine ⟨g.bd hn _,g.bd hn _,?_⟩;cases lt (p.getD (m-1) 0) (p.getD m 0) with
   | true=>exact g
   | false=>exact sK hn f g _ _
theorem zR{p:Array Nat}(g:eV n p)(hn:0<n)(m r:Nat):cZ n lt (λr=>eV n r.2) (kas_tail3 m r p):=by
 unfold kas_tail3;exact (BL (g.rev 0 m) hn _ _).bind λ_ _=>g.rev 0 m
theorem sJ{p:Array Nat}(g:eV n p)(hn:0<n)(m r:Nat):cZ n lt (λr=>eV n r.2) (kas_descPart m r p):=by
 unfold kas_descPart;refine (sK hn _ g _ _).bind λr hr=>?_;split
 ·exact zR (eV.rev hr _ _) hn _ _
 ·exact zR hr hn _ _
theorem LT{p:Array Nat}(g:eV n p)(hn:0<n)(m:Nat):cZ n lt (λr=>eV n r.2) (kas_count m p):=by
 unfold kas_count;refine (BL g hn _ _).bind λk _=>?_;split
 ·exact g
 ·split
  ·refine ⟨g.bd hn _,g.bd hn _,?_⟩;cases lt (p.getD 0 0) (p.getD (k-1) 0) with
   | true=>exact g
   | false=>exact sJ (g.rev _ _) hn _ _
  ·exact sJ g hn _ _
theorem uG{p:Array Nat}(g:eV n p)(hn:0<n)(k:Nat):∀(f l r:Nat),cZ n lt (λ_=>True) (kas_place p k f l r)
 | 0,l,r=>True.intro
 | f+1,l,r=>by
  unfold kas_place;split
  ·exact True.intro
  ·refine ⟨g.bd hn _,g.bd hn _,?_⟩;cases lt (p.getD k 0) (p.getD ((l+r)/2) 0) with
   | true=>exact uG g hn k f _ _
   | false=>exact uG g hn k f _ _
theorem IP(hn:0<n):∀(f:Nat) {p:Array Nat}(g:eV n p) (k:Nat),cZ n lt (eV n) (kas_bin f p k)
 | 0,p,g,k=>g
 | f+1,p,g,k=>by
  unfold kas_bin;exact (uG g hn k _ _ _).bind λl _=>IP hn f (g.bub _ _) _
theorem RB(hn:0<n):cZ n lt (eV n) (kas_sort n):=by
 unfold kas_sort;refine (LT (Array.Perm.refl _) hn n).bind λr hr=>?_;split
 ·exact IP hn _ hr _
 ·exact hr
end
structure xI(n:Nat)(lt:Nat->Nat->Bool):Prop where
 tot:∀i j,i<n->j<n->i≠j->lt i j=false->lt j i=true
 tra:∀i j k,lt i j=true->lt j k=true->lt i k=true
def sQ(lt:Nat->Nat->Bool)(p:Array Nat)(m:Nat):Prop:=∀a b,a<b->b<m->lt (p.getD a 0) (p.getD b 0)=true
def YR(lt:Nat->Nat->Bool)(p:Array Nat)(m:Nat):Prop:=∀a b,a<b->b<m->lt (p.getD b 0) (p.getD a 0)=true
section
variable{n:Nat}{lt:Nat->Nat->Bool}
theorem cZ.mono{α:Type}{R S:α->Prop}(k:∀a,R a->S a):∀{t:KasT α},cZ n lt R t->cZ n lt S t
 | .ret a,h=>k a h
 | .ask i j t,⟨h1,h2,h3⟩=>⟨h1,h2,cZ.mono k (t:=t (lt i j)) h3⟩
theorem eV.size{p:Array Nat}(g:eV n p):p.size=n:=by
 have:=(Array.perm_iff_toList_perm.mp g).length_eq;simpa using this
theorem eV.ne{p:Array Nat}(g:eV n p){i j:Nat}(hi:i<n)(hj:j<n)(h:i≠j):p.getD i 0≠p.getD j 0:=by
 have hn:p.toList.Nodup:=(Array.perm_iff_toList_perm.mp g).nodup_iff.mpr (by simpa using List.nodup_range);have hs:=g.size;have e1:p.getD i 0=p.toList[i]'(by simpa [hs] using hi):=by simp [Array.getD,hs,hi]
 have e2:p.getD j 0=p.toList[j]'(by simpa [hs] using hj):=by simp [Array.getD,hs,hj]
 rw [e1,e2];intro e;exact h ((List.getElem_inj hn).mp e)
theorem sQ.one{p:Array Nat}:sQ lt p 1:=λa b h1 h2=>Oo
theorem sQ.more(O:xI n lt){p:Array Nat}(g:eV n p){m:Nat}(h:sQ lt p m)(h1:1<=m)(hm:m<n)(e:lt (p.getD m 0) (p.getD (m-1) 0)=false):sQ lt p (m+1):=λa b hab hb=>by
 by_cases q:b<m
 ·exact h a b hab q
 ·have e':b=m:=Oo;subst e';have l1:lt (p.getD (b-1) 0) (p.getD b 0)=true:=O.tot _ _ (g.bd Oo _) (g.bd Oo _) (g.ne Oo Oo Oo) e;by_cases r:a=b-1
  ·rw [r];exact l1
  ·exact O.tra _ _ _ (h a (b-1) Oo Oo) l1
theorem BK(O:xI n lt){p:Array Nat}(g:eV n p):∀(f m:Nat),1<=m->m+f<=n->sQ lt p m->cZ n lt (λk=>m<=k/\k<=m+f/\sQ lt p k/\(k<m+f->lt (p.getD k 0) (p.getD (k-1) 0)=true)) (kas_asc p f m)
 | 0,m,_,_,h=>⟨aM _,aM _,h,λq=>Oo⟩
 | f+1,m,h1,hm,h=>by
  refine ⟨g.bd Oo _,g.bd Oo _,?_⟩;cases e:lt (p.getD m 0) (p.getD (m-1) 0) with
  | true=>exact ⟨aM _,Oo,h,λ_=>e⟩
  | false =>
   refine (show cZ n lt _ (kas_asc p f (m+1)) from ?_);have ih:=BK O g f (m+1) Oo Oo (h.more O g h1 Oo e);exact cZ.mono (λk ⟨a1,a2,a3,a4⟩=>⟨Oo,Oo,a3,λq=>a4 Oo⟩) ih
theorem YR.more(O:xI n lt){p:Array Nat}{m:Nat}(h:YR lt p m)(h1:1<=m)(e:lt (p.getD m 0) (p.getD (m-1) 0)=true):YR lt p (m+1):=λa b hab hb=>by
 by_cases q:b<m
 ·exact h a b hab q
 ·have e':b=m:=Oo;subst e';by_cases r:a=b-1
  ·rw [r];exact e
  ·exact O.tra _ _ _ e (h a (b-1) Oo Oo)
theorem DR(O:xI n lt){p:Array Nat}(g:eV n p):∀(f m:Nat),1<=m->m+f<=n->YR lt p m->cZ n lt (λr=>r.1=p/\r.2.2=0/\m<=r.2.1/\r.2.1<=m+f/\YR lt p r.2.1) (kas_desc f p m 0)
 | 0,m,_,_,h=>⟨rfl,rfl,aM _,aM _,h⟩
 | f+1,m,h1,hm,h=>by
  refine ⟨g.bd Oo _,g.bd Oo _,?_⟩;cases e:lt (p.getD m 0) (p.getD (m-1) 0) with
  | true =>
   refine (show cZ n lt _ (kas_desc f p (m+1) 0) from ?_);exact cZ.mono (λr ⟨a1,a2,a3,a4,a5⟩=>⟨a1,a2,Oo,Oo,a5⟩) (DR O g f (m+1) Oo Oo (h.more O h1 e))
  | false =>
   refine ⟨g.bd Oo _,g.bd Oo _,?_⟩;rw [O.tot _ _ (g.bd Oo _) (g.bd Oo _) (g.ne Oo Oo Oo) e];exact ⟨rfl,rfl,aM _,(show m<=m+(f+1) by omega),h⟩
theorem NY{p:Array Nat}{m i:Nat}(hm:m<=p.size):(kas_rev p 0 m).getD i 0=if i<m then p.getD (m-1-i) 0 else p.getD i 0:=by
 have e:=getElem?_mirror (xs:=p) (i:=0) (j:=m) hm (m/2) Oo i;have e':(kas_rev p 0 m)[i]?=if (0<=i/\i<0+m/2)\/(m-m/2<=i/\i<m) then p[0+m-1-i]? else p[i]?:=e
 have g:∀(q:Array Nat) (k:Nat),q.getD k 0=q[k]?.getD 0:=λq k=>by simp [Array.getD_eq_getD_getElem?]
 rw [g,e',g,g];by_cases h:i<m
 ·rw [if_pos h];by_cases h2:(0<=i/\i<0+m/2)\/(m-m/2<=i/\i<m)
  ·rw [if_pos h2,show 0+m-1-i=m-1-i by omega]
  ·rw [if_neg h2,show m-1-i=i by omega]
 ·rw [if_neg h,if_neg Oo]
theorem YR.rev{p:Array Nat}{m:Nat}(h:YR lt p m)(hm:m<=p.size):sQ lt (kas_rev p 0 m) m:=λa b hab hb=>by
 rw [NY hm,NY hm,if_pos Oo,if_pos hb];exact h _ _ Oo Oo
theorem LC(O:xI n lt){p:Array Nat}(g:eV n p)(hn:2<=n):cZ n lt (λr=>eV n r.2/\1<=r.1/\r.1<=n/\sQ lt r.2 r.1) (kas_count n p):=by
 unfold kas_count;refine (BK O g (n-1) 1 (aM _) Oo sQ.one).bind λk ⟨k1,k2,k3,k4⟩=>?_;split
 ·exact ⟨g,k1,by show k<=n;omega,k3⟩
 ·rename_i hk
  have hkn:k≠n:=λe=>hk (by simp [e]);split
  ·refine ⟨g.bd Oo _,g.bd Oo _,?_⟩;rw [k3 0 (k-1) Oo Oo];exact ⟨g,k1,by show k<=n;omega,k3⟩
  ·have e1:k=1:=Oo;subst e1;unfold kas_descPart;have d2:YR lt p 2:=λa b hab hb=>by
    have e:a=0/\b=1:=Oo;rw [e.1,e.2];exact k4 Oo
   refine (DR O g (n-2) 2 Oo Oo d2).bind λr ⟨r1,r2,r3,r4,r5⟩=>?_;obtain ⟨p',m,q⟩:=r;dsimp only at r1 r2 r3 r4 r5 ⊢;subst r1 r2;rw [if_neg Dd];unfold kas_tail3;have hs:=g.size;refine (BK O (g.rev 0 m) (n-m) m Oo Oo (r5.rev Oo)).bind λk' ⟨a1,a2,a3,_⟩=>?_;exact ⟨g.rev 0 m,(show 1<=k' by omega),(show k'<=n by omega),a3⟩
theorem tL(O:xI n lt){p:Array Nat}(g:eV n p){k:Nat}(hk:k<n)(h:sQ lt p k):∀(f l r:Nat),l<=r->r<=k->r-l<=f->(∀a,a<l->lt (p.getD a 0) (p.getD k 0)=true)->(∀a,r<=a->a<k->lt (p.getD k 0) (p.getD a 0)=true) ->
  cZ n lt (λm=>m<=k/\(∀a,a<m->lt (p.getD a 0) (p.getD k 0)=true)/\∀a,m<=a->a<k->lt (p.getD k 0) (p.getD a 0)=true) (kas_place p k f l r)
 | 0,l,r,h1,h2,h3,h4,h5=>⟨Oo,h4,λa q1 q2=>h5 a Oo q2⟩
 | f+1,l,r,h1,h2,h3,h4,h5=>by
  unfold kas_place;split
  ·exact ⟨Oo,h4,λa q1 q2=>h5 a Oo q2⟩
  ·refine ⟨g.bd Oo _,g.bd Oo _,?_⟩;cases e:lt (p.getD k 0) (p.getD ((l+r)/2) 0) with
   | true =>
    refine (show cZ n lt _ (kas_place p k f l ((l+r)/2)) from ?_);refine tL O g hk h f l ((l+r)/2) Oo Oo Oo h4 λa q1 q2=>?_;by_cases q:a=(l+r)/2
    ·rw [q];exact e
    ·exact O.tra _ _ _ e (h _ _ Oo q2)
   | false =>
    refine (show cZ n lt _ (kas_place p k f ((l+r)/2+1) r) from ?_);have e2:=O.tot _ _ (g.bd Oo _) (g.bd Oo _) (g.ne hk Oo Oo) e;refine tL O g hk h f ((l+r)/2+1) r Oo Oo Oo (λa q1=>?_) h5;by_cases q:a=(l+r)/2
    ·rw [q];exact e2
    ·exact O.tra _ _ _ (h a ((l+r)/2) Oo Oo) e2
theorem QU{p:Array Nat}{k m i:Nat}(hk:k<p.size)(hm:m<=k):(bubble p k (k-m)).getD i 0=if i=m then p.getD k 0 else if m<i/\i<=k then p.getD (i-1) 0 else p.getD i 0:=by
 have e:=getElem?_bubble (xs:=p) hk (k-m) Oo i;have g:∀(q:Array Nat) (k:Nat),q.getD k 0=q[k]?.getD 0:=λq k=>by simp [Array.getD_eq_getD_getElem?]
 rw [g,e,g,g,g,show k-(k-m)=m by omega];by_cases h:i=m
 ·rw [if_pos h,if_pos h]
 ·rw [if_neg h,if_neg h];by_cases h2:m<i/\i<=k
  ·rw [if_pos h2,if_pos h2]
  ·rw [if_neg h2,if_neg h2]
theorem IO(O:xI n lt):∀(f:Nat) {p:Array Nat}(g:eV n p) (k:Nat),k+f=n->sQ lt p k->cZ n lt (λp=>eV n p/\sQ lt p n) (kas_bin f p k)
 | 0,p,g,k,hk,h=>⟨g,by rw [<-hk];exact h⟩
 | f+1,p,g,k,hk,h=>by
  unfold kas_bin;refine (tL O g Oo h k 0 k Oo Oo Oo (λa q=>Oo) (λa q1 q2=>Oo)).bind λm ⟨m1,m2,m3⟩=>?_;have hs:=g.size;refine IO O f (g.bub _ _) (k+1) Oo λa b hab hb=>?_;rw [QU Oo m1,QU Oo m1];by_cases ha:a=m
  ·rw [if_pos ha,if_neg Oo,if_pos Oo];exact m3 _ Oo Oo
  ·rw [if_neg ha];by_cases hb':b=m
   ·rw [if_pos hb',if_neg Oo];exact m2 a Oo
   ·rw [if_neg hb'];by_cases q1:m<a/\a<=k
    ·rw [if_pos q1,if_pos Oo];exact h _ _ Oo Oo
    ·rw [if_neg q1];by_cases q2:m<b/\b<=k
     ·rw [if_pos q2];exact h _ _ Oo Oo
     ·rw [if_neg q2];exact h _ _ hab Oo
theorem NL(O:xI n lt)(hn:2<=n):cZ n lt (λp=>eV n p/\sQ lt p n) (kas_sort n):=by
 unfold kas_sort;refine (LC O (Array.Perm.refl _) hn).bind λr ⟨h1,h2,h3,h4⟩=>?_;split
 ·rename_i q
  rw [Nat.max_eq_left h2];exact IO O _ h1 _ Oo h4
 ·rename_i q
  have e:r.1=n:=Oo;exact ⟨h1,e ▸ h4⟩
end
end HT
namespace L2
open PySem PySem.Spec PySem.W PyProof.Rows HT
theorem qV{x:V}{xs:List V}{us:List Value}(r:cV (x::xs) us):∃u us',us=u::us'/\dF x u/\cV xs us':=by
 cases r with
 | cons h t=>exact ⟨_,_,rfl,h,t⟩
def DH(fin:Bool):List Int->List Int->Bool
 | x::a,y::b=>if x=y then DH fin a b else decide (x<y)
 | _,_=>fin
def jG(a b:List Int):Bool:=DH (decide (a.length<b.length)) a b
theorem rT(a:List Int):jG a []=false:=by
 unfold jG;cases a <;> rfl
theorem vM(y:Int)(b:List Int):jG [] (y::b)=true:=by unfold jG;rfl
theorem pV(x y:Int)(a b:List Int):jG (x::a) (y::b)=if x=y then jG a b else decide (x<y):=by
 show (if x=y then DH (decide ((x::a).length<(y::b).length)) a b else decide (x<y))=_;rw [bL,bL,show decide (a.length+1<b.length+1)=decide (a.length<b.length) by simp]
 rfl
theorem HW:∀{a b:List Int},a≠b->jG a b=false->jG b a=true
 | [],[],h,_=>absurd rfl h
 | [],y::b,_,e=>by rw [vM] at e;cases e
 | x::a,[],_,_=>vM _ _
 | x::a,y::b,h,e=>by
  rw [pV] at e ⊢;by_cases q:x=y
  ·subst q;rw [if_pos rfl] at e ⊢;exact HW (λz=>h (by rw [z])) e
  ·rw [if_neg q] at e;rw [if_neg (Ne.symm q)];have:=of_decide_eq_false e;exact cE Oo
theorem BA:∀{a b c:List Int},jG a b=true->jG b c=true->jG a c=true
 | a,b,[],_,h=>by rw [rT] at h;cases h
 | [],b,z::c,_,_=>vM _ _
 | x::a,[],z::c,h,_=>by rw [rT] at h;cases h
 | x::a,y::b,z::c,h1,h2=>by
  rw [pV] at h1 h2 ⊢;by_cases q1:x=y
  ·subst q1;rw [if_pos rfl] at h1;by_cases q2:x=z
   ·subst q2;rw [if_pos rfl] at h2 ⊢;exact BA h1 h2
   ·rw [if_neg q2] at h2 ⊢;exact h2
  ·rw [if_neg q1] at h1;have h1:=of_decide_eq_true h1;by_cases q2:y=z
   ·subst q2;rw [if_neg q1];exact cE h1
   ·rw [if_neg q2] at h2;have h2:=of_decide_eq_true h2;rw [if_neg Oo];exact cE Oo
theorem rS{a:List Int}:jG a a=false:=by
 induction a with
 | nil=>exact rT _
 | cons x a ih=>rw [pV,if_pos rfl];exact ih
theorem DF:∀{l m:List (List Int)},l.Pairwise (λa b=>jG a b=true)->m.Pairwise (λa b=>jG a b=true)->(∀x,x∈l↔x∈m)->l=m
 | [],[],_,_,_=>rfl
 | [],y::m,_,_,h=>by have:=(h y).mpr (aG ..);cases this
 | x::l,[],_,_,h=>by have:=(h x).mp (aG ..);cases this
 | x::l,y::m,h1,h2,h=>by
  obtain ⟨a1,a2⟩:=List.pairwise_cons.mp h1;obtain ⟨b1,b2⟩:=List.pairwise_cons.mp h2;have e:x=y:=by
   rcases aV.mp ((h x).mp (aG ..)) with q | q
   ·exact q
   ·rcases aV.mp ((h y).mpr (aG ..)) with r | r
    ·exact r.symm
    ·have:=BA (b1 x q) (a1 y r);rw [rS] at this;cases this
  subst e;rw [DF a2 b2 λz=>?_];constructor
  ·intro q;rcases aV.mp ((h z).mp (aH _ q)) with r | r
   ·subst r;have:=a1 z q;rw [rS] at this;cases this
   ·exact r
  ·intro q;rcases aV.mp ((h z).mpr (aH _ q)) with r | r
   ·subst r;have:=b1 z q;rw [rS] at this;cases this
   ·exact r
abbrev sO(cs:List (List Int)):Nat->Nat->Bool:=λi j=>jG (cs.getD i []) (cs.getD j [])
theorem FT{cs:List (List Int)}(h:cs.Nodup):xI cs.length (sO cs):=⟨λi j hi hj ne e=>HW (λz=>by
  have e1:cs.getD i []=cs[i]:=by simp [hi]
  have e2:cs.getD j []=cs[j]:=by simp [hj]
  rw [e1,e2] at z;exact ne ((List.getElem_inj h).mp z)) e,λi j k h1 h2=>BA h1 h2⟩
section
variable{prog:Program}{w:World}{A:Around}{E:Value->Shared->Prop}{s:Shared}{Q:Bool->Shared->Prop}
theorem uQ{fin:Bool}:∀{a b:List Int}{us vs:List Value}{i:Nat},cV (a.map V.int) us->cV (b.map V.int) vs->Q (DH fin a b) s->KatLex prog w A true fin Q (us.zip vs) i s
 | [],b,us,vs,i,ha,hb,q=>by cases ha;exact kat_nil (by unfold DH at q;exact q)
 | x::a,[],us,vs,i,ha,hb,q=>by
  cases hb;cases us with
  | nil=>exact kat_nil (by unfold DH at q;exact q)
  | cons u us=>exact kat_nil (by unfold DH at q;exact q)
 | x::a,y::b,us,vs,i,ha,hb,q=>by
  rw [aZ] at ha hb;obtain ⟨u,us',rfl,⟨t,rfl⟩,ra⟩:=qV ha;obtain ⟨v,vs',rfl,⟨t',rfl⟩,rb⟩:=qV hb;rw [List.zip_cons_cons];refine kat_cons (wpAny_eqBool_int ?_);unfold DH at q;by_cases h:x=y
  ·rw [if_pos h] at q;rw [show (x == y)=true by simp [h]];exact kat_yes (uQ ra rb q)
  ·rw [if_neg h] at q;rw [show (x == y)=false by simp [h]];refine kat_no ?_;cases (true&&i == 0) with
   | true=>exact oneLt_int q
   | false=>exact kat_one _ _ (lt_int q)
def YO(h:Heap)(v:Value)(c:List Int):Prop:=∃b its,v=.ref b/\IsTup h b (List.toArray its)/\cV (c.map V.int) its/\c≠[]
abbrev iP(h:Heap):List Value->List (List Int)->Prop:=Paired (YO h)
theorem iP.get{h:Heap}:∀{vs:List Value}{cs:List (List Int)}{i:Nat},iP h vs cs->i<vs.length->YO h (vs.getD i Value.none) (cs.getD i [])
 | _,_,_,.nil,hi=>by simp at hi
 | _,_,0,.cons t r,hi=>t
 | v::vs,c::cs,i+1,.cons t r,hi=>by
  have:=iP.get (i:=i) r (by simpa using hi);simpa using this
theorem iP.firsts{h:Heap}:∀{vs:List Value}{cs:List (List Int)},iP h vs cs->∃fs,KatTups h vs fs/\fs.length=vs.length/\∀v∈fs,∃i t,v=Value.int i t
 | _,_,.nil=>⟨[],KatTups.nil,rfl,λv hv=>by cases hv⟩
 | v::vs,c::cs,.cons t r=>by
  obtain ⟨fs,h1,h2,h3⟩:=iP.firsts r;obtain ⟨b,its,rfl,⟨o,ho,hc,n,hd⟩,hv,hne⟩:=t;cases c with
  | nil=>exact absurd rfl hne
  | cons x c =>
   rw [aZ] at hv;obtain ⟨u,us,rfl,⟨t,rfl⟩,_⟩:=qV hv;exact ⟨.int x t::fs,KatTups.cons ho hc hd (by simp) h1,by simp [h2],λv hv=>by
    rcases aV.mp hv with rfl | hv
    ·exact ⟨_,_,rfl⟩
    ·exact h3 v hv⟩
theorem iP.keep{h h':Heap}(k:∀b o,h.get? b=some o->o.cls=.type "tuple" -> h'.get? b=some o):∀{vs:List Value}{cs:List (List Int)},iP h vs cs->iP h' vs cs
 | _,_,.nil=>.nil
 | _,_,.cons ⟨b,its,e,⟨o,ho,hc,hd⟩,hv,hne⟩ r=>.cons ⟨b,its,e,⟨o,k b o ho hc,hc,hd⟩,hv,hne⟩ (iP.keep k r)
theorem CI{n:Nat}{lt:Nat->Nat->Bool}(hn:2<=n):cZ n lt (λp=>eV n p/\(xI n lt->sQ lt p n)) (kas_sort n):=by
 by_cases O:xI n lt
 ·exact cZ.mono (λp h=>⟨h.1,λ_=>h.2⟩) (NL O hn)
 ·exact cZ.mono (λp h=>⟨h,λz=>absurd z O⟩) (RB Oo)
theorem yG{a:Addr}{vs:List Value}{cs:List (List Int)}{n:Nat}{P:PySem.Fin->Shared->Prop}(ho:s.heap.get? a=some (seqObj "list" vs.toArray n))(ht:iP s.heap vs cs)(h64:vs.length<64)
  (h:∀p:Array Nat,eV vs.length p->(xI vs.length (sO cs)->sQ (sO cs) p vs.length)->P (.done (.ret .none)) { s with heap:=sortedHeap s.heap a vs (List.toArray (p.toList.map λi=>vs.getD i Value.none)) }) :
  wpAny (model prog w) A (Builtin.«list.sort» ⟨[.ref a],[]⟩) P E s:=by
 rw [list_sort_plain];have ha:a<s.heap.objs.size:=aT ho;refine wpAny_bind (listItems_at ho rfl ?_);refine wpAny_bind (listUpdate_at ho rfl ?_ (by rw [aQ,sizeLine_eq];omega) (cK _));obtain ⟨e1,ho1⟩:∃e1,(s.heap.update a (Obj.mapSeq λ_=>#[])).get? a=some (seqObj "list" #[] e1):=⟨_,get?_update_seq ho (λ_=>#[])⟩;refine wpAny_bind (seqEpoch_at ho1 rfl ?_);refine wpAny_bind (wpAny_newTuple ?_ (by show vs.length<=_;rw [sizeLine_eq];omega));refine wpAny_bind (wpAny_newList ?_ (cK _));refine wpAny_holding ?_;have ho6:(((s.heap.update a (Obj.mapSeq λ_=>#[])).push (seqObj "tuple" vs.toArray 0)).push (seqObj "list" #[] 0)).get? a=some (seqObj "list" #[] e1):=by
  rw [Heap.get?_push_ne _ _ _ (by rw [size_push',Heap.size_update];exact bS (Nat.lt_succ_of_lt ha)),Heap.get?_push_ne _ _ _ (by rw [Heap.size_update];exact bS ha)];exact ho1
 show wpAny (model prog w) A _ P E { s with heap:=((s.heap.update a (Obj.mapSeq λ_=>#[])).push (seqObj "tuple" vs.toArray 0)).push (seqObj "list" #[] 0) };dsimp only;have fin:∀st':SortSt,∀p:Array Nat,eV vs.length p->(xI vs.length (sO cs)->sQ (sO cs) p vs.length)->(arrOf st').map (·.2)=List.toArray (p.toList.map λi=>vs.getD i Value.none) ->
   P (.done (.ret .none)) { s with heap:=sortedHeap s.heap a vs ((arrOf st').map (·.2)) }:=by
  intro st' p hp ho hs;rw [hs];exact h p hp ho
 have ht6:iP (((s.heap.update a (Obj.mapSeq λ_=>#[])).push (seqObj "tuple" vs.toArray 0)).push (seqObj "list" #[] 0)) vs cs:=ht.keep λb o hb hc=>by
  have hne:b≠a:=λe=>by
   subst e;rw [ho] at hb;cases hb;exact absurd (show Value.type "list" = Value.type "tuple" from hc) Dd
  exact aB _ (aB _ (by rw [cU _ _ _ _ hne];exact hb))
 by_cases h2:vs.toArray.size<2
 ·rw [if_pos h2,if_pos h2];refine wpAny_bind (wpAny_pure ?_);rw [StateT.run_pure];refine wpAny_bind (wpAny_pure ?_);dsimp only;refine wpAny_bind (seqEpoch_at ho6 rfl ?_);refine wpAny_bind (listUpdate_at ho6 rfl ?_ (hsz2:=by rw [Array.size_map];show (pairsOf vs).size<=_;rw [pairsOf_size,sizeLine_eq];omega));simp only [bne_self_eq_false,Bool.false_eq_true,if_false];refine wpAny_pure (fin (SortSt.mk' general' (vs.toArray.zip vs.toArray) #[] 7 none) (List.toArray (List.range vs.length)) (Array.Perm.refl _) (λ_ a b h1 h3=>by rw [aQ] at h2;omega) ?_);have e:=kat_snds (ks:=vs) (vs:=vs) (st:=SortSt.mk' general' (vs.toArray.zip vs.toArray) #[] 7 none) (p:=List.toArray (List.range vs.length)) rfl (by
   have e:=kas_range (vs.toArray.zip vs.toArray);rw [show (vs.toArray.zip vs.toArray).size=vs.length by simp] at e;exact e.symm)
  exact e
 ·rw [if_neg h2,if_neg h2];have hl2:2<=vs.length:=by rw [aQ] at h2;omega
  obtain ⟨fs,k1,k2,k3⟩:=ht6.firsts;refine wpAny_bind (kat_kind (T:=.type "int") k1 Oo (λv hv=>?_) rfl ?_)
  ·obtain ⟨i,t,rfl⟩:=k3 v hv;exact .now
  refine wpAny_bind (wpAny_mono (kat_run (ks:=vs) (vs:=vs) (G:=λp s'=>s'={ s with heap:=((s.heap.update a (Obj.mapSeq λ_=>#[])).push (seqObj "tuple" vs.toArray 0)).push (seqObj "list" #[] 0) }/\eV vs.length p/\(xI vs.length (sO cs)->sQ (sO cs) p vs.length))
   (Q:=λst' s'=>s'={ s with heap:=((s.heap.update a (Obj.mapSeq λ_=>#[])).push (seqObj "tuple" vs.toArray 0)).push (seqObj "list" #[] 0) }/\failedOf st'=none/\∃p:Array Nat,p.size=vs.length/\(eV vs.length p/\(xI vs.length (sO cs)->sQ (sO cs) p vs.length))/\arrOf st'=p.map (kas_item (vs.toArray.zip vs.toArray)))
   rfl hl2 h64 (λp' st' s' a1 a2 a3 a4=>⟨a4.1,a3,p',a1,a4.2,a2⟩)
   (cZ.wp (n:=vs.length) (lt:=sO cs) (R:=λp=>eV vs.length p/\(xI vs.length (sO cs)->sQ (sO cs) p vs.length)) (λi j C hi hj hC=>?_) (λp hp=>⟨rfl,hp⟩) (CI hl2))) ?_ λ_ _ e=>e)
  ·obtain ⟨b,its,e1',⟨o,hb,hc,n',hd⟩,hv,_⟩:=ht6.get hi;obtain ⟨b2,its2,e2',⟨o2,hb2,hc2,n2,hd2⟩,hv2,_⟩:=ht6.get hj;unfold kas_ask;rw [e1',e2'];refine kat_lt hb hd hb2 hd2 ?_;refine uQ hv hv2 ?_;have l1:=hv.length;have l2:=hv2.length;rw [aA] at l1 l2;rw [aQ,aQ,<-l1,<-l2];exact hC
  rintro ⟨⟨⟩,st'⟩ s' ⟨rfl,hf,p,hp,hg,har⟩;dsimp only;have hout:=kat_snds rfl har;refine wpAny_bind (seqEpoch_at ho6 rfl ?_);refine wpAny_bind (listUpdate_at ho6 rfl ?_ (hsz2:=by rw [hout,aQ,aA,Array.length_toList,hp,sizeLine_eq];omega));rw [hf];simp only [bne_self_eq_false,Bool.false_eq_true,if_false];exact wpAny_pure (fin st' p hg.1 hg.2 hout)
theorem CH{l:Addr}{vs:List Value}{cs:List (List Int)}{Q:Value->Shared->Prop}(hl:s.heap.IsList l vs.toArray)(ht:iP s.heap vs cs)(h64:vs.length<64)
  (h:∀(p:Array Nat) (h':Heap) (D:Addr) (c:Nat),eV vs.length p->(xI vs.length (sO cs)->sQ (sO cs) p vs.length)->(∀b o,s.heap.get? b=some o->h'.get? b=some o)->s.heap.objs.size<=D->h'.get? D=some (seqObj "list" (List.toArray (p.toList.map λi=>vs.getD i Value.none)) c)->Q (.ref D) { s with heap:=h' }) :
  wpAny (model prog w) A (call (.builtin "sorted") [.ref l]) Q E s:=by
 refine Calls.call_function_entry kind_sorted plain_sorted entry_sorted (args_sorted1 _) ?_;unfold Builtin.«sorted»;refine wpAny_bind (m:=checkCount "sorted" 1 1 _) (wpAny_pure ?_);refine wpAny_bind (collect_list hl ?_ (by rw [sizeLine_eq];omega));refine wpAny_bind (wpAny_newList ?_ (by rw [sizeLine_eq];omega));have hsz:((s.heap.push (seqObj "list" #[] 0)).update s.heap.objs.size (Obj.mapSeq (· ++ vs.toArray))).objs.size=s.heap.objs.size+1:=by
  rw [Heap.size_update,size_push']
 have hoL:(((s.heap.push (seqObj "list" #[] 0)).update s.heap.objs.size (Obj.mapSeq (· ++ vs.toArray))).push (seqObj "list" vs.toArray 0)).get? (s.heap.objs.size+1)=some (seqObj "list" vs.toArray 0):=by
  rw [<-hsz];exact aP _ rfl
 have keep:∀b o,s.heap.get? b=some o->(((s.heap.push (seqObj "list" #[] 0)).update s.heap.objs.size (Obj.mapSeq (· ++ vs.toArray))).push (seqObj "list" vs.toArray 0)).get? b=some o:=λb o q=>by
  have hlt:b<s.heap.objs.size:=aT q;rw [Heap.get?_push_ne _ _ _ (by rw [hsz];exact bS (Nat.lt_succ_of_lt hlt)),cU _ _ _ _ (bS hlt),Heap.get?_push_ne _ _ _ (bS hlt)];exact q
 show wpAny _ _ _ _ _ { s with heap:=((s.heap.push (seqObj "list" #[] 0)).update s.heap.objs.size (Obj.mapSeq (· ++ vs.toArray))).push (seqObj "list" vs.toArray 0) };rw [hsz];refine wpAny_bind (wpAny_holding (wpAny_call_entry slot_list_sort ⟨_,hoL,rfl⟩ entry_list_sort ?body (args_list_sort _)));generalize hH:((s.heap.push (seqObj "list" #[] 0)).update s.heap.objs.size (Obj.mapSeq (· ++ vs.toArray))).push (seqObj "list" vs.toArray 0)=h1 at *;refine yG (s:={ s with heap:=h1 }) hoL (ht.keep λb o hb _=>keep b o hb) h64 λp hp ho=>⟨_,rfl,wpAny_pure ⟨_,rfl,?_⟩⟩;have hD:s.heap.objs.size+1<h1.objs.size:=aT hoL;unfold sortedHeap;have o1:(h1.update (s.heap.objs.size+1) (Obj.mapSeq λ_=>#[])).get? (s.heap.objs.size+1)=some (seqObj "list" #[] _):=get?_update_seq hoL (λ_=>#[]);have o2:=aB (seqObj "list" #[] 0) (aB (seqObj "tuple" vs.toArray 0) o1);refine h p _ (s.heap.objs.size+1) _ hp ho (λb o q=>?_) (Nat.le_succ _) (get?_update_seq o2 λ_=>List.toArray (p.toList.map λi=>vs.getD i Value.none));have hlt:b<s.heap.objs.size:=aT q;have hne:b≠s.heap.objs.size+1:=bS (Nat.lt_succ_of_lt hlt);rw [cU _ _ _ _ hne];exact aB _ (aB _ (by rw [cU _ _ _ _ hne];exact keep b o q))
end
@[irreducible] def vJ(K:PySem.W.Frag):List V->Hp->VK->Prop:=λxs H Q=>∃(p:Addr) (ys:List V) (cs:List (List Int)),xs=[.ref p]/\eZ K H p ys/\aX H (cs.map λc=>PyData.tuple (c.map .int)) ys/\(∀c∈cs,c≠[])/\ys.length<64 /\
 ∀q (ix:List Nat) H',ix.Perm (List.range ys.length)->(cs.Nodup->(ix.map λi=>cs.getD i []).Pairwise λa b=>jG a b=true)->H q=none->H' q=some (.lst (ix.map λi=>ys.getD i .non))->aW H H'->Q (.ref q) H'
theorem rsrt{K:PySem.W.Frag}{H:Hp}{Q:VK}{p:Addr}{ys:List V}{cs:List (List Int)}(h:eZ K H p ys)(r:aX H (cs.map λc=>PyData.tuple (c.map .int)) ys)(hc:∀c∈cs,c≠[])(hz:ys.length<64)
  (q:∀q (ix:List Nat) H',ix.Perm (List.range ys.length)->(cs.Nodup->(ix.map λi=>cs.getD i []).Pairwise λa b=>jG a b=true)->H q=none->H' q=some (.lst (ix.map λi=>ys.getD i .non))->aW H H'->Q (.ref q) H'):vJ K [.ref p] H Q:=by
 unfold vJ;exact ⟨p,ys,cs,rfl,h,r,hc,hz,q⟩
theorem AC{X:Cx}{pins:List (Addr × Obj)}{σ:St}{H:Hp}{s:Shared}(I:bW X pins σ H s):∀{cs:List (List Int)}{ys:List V}{us:List Value},aX H (cs.map λc=>PyData.tuple (c.map .int)) ys->(∀c∈cs,c≠[])->cV ys us->iP s.heap us cs
 | [],ys,us,r,hc,v=>by
  unfold aX at r;cases (show ys=[] from r);cases v;exact .nil
 | c::cs,ys,us,r,hc,v=>by
  rw [aZ] at r;unfold aX at r;obtain ⟨y,ys',rfl,r1,r2⟩:=r;obtain ⟨u,us',rfl,rv,v'⟩:=qV v;refine .cons ?_ (AC I r2 (λc h=>hc c (aH _ h)) v');unfold bQ at r1;obtain ⟨a,xs,rfl,h1,h2⟩:=r1;cases rv;obtain ⟨its,rr,pl,hzz⟩:=I.tuple (dO.of h1);have hx:xs=c.map V.int:=by
   clear rr h1 hc hzz
   induction c generalizing xs with
   | nil=>unfold aX at h2;exact h2
   | cons z c ih =>
    rw [aZ] at h2;unfold aX at h2;obtain ⟨x,xs',rfl,h3,h4⟩:=h2;cases (show x=V.int z from h3);rw [ih _ h4];rfl
  subst hx;exact ⟨a,its,rfl,pl,rr,hc c (aG ..)⟩
theorem vG{ys:List V}{us:List Value}(v:cV ys us):∀ix:List Nat,(∀i∈ix,i<ys.length)->cV (ix.map λi=>ys.getD i .non) (ix.map λi=>us.getD i Value.none)
 | [],_=>.nil
 | i::ix,h=>by
  have hi:=h i (aG ..);obtain ⟨u,hu,ru⟩:=v.get (i:=i) (x:=ys[i]) (by simp [hi]);refine .cons ?_ (vG v ix λj hj=>h j (aH _ hj));have e1:ys.getD i .non=ys[i]:=by simp [hi]
  have e2:us.getD i Value.none=u:=by rw [aF,hu];rfl
  show dF (ys.getD i .non) (us.getD i Value.none);rw [e1,e2];exact ru
theorem aBi{X:Cx}(K:PySem.W.Frag)(hK:X.K=K:=by rfl):fO X (.builtin "sorted") (vJ K):=by
 subst hK;unfold vJ;intro pins s σ H xs us Q I r h;obtain ⟨p,ys,cs,rfl,hq,rep,hc,hz,q⟩:=h;obtain ⟨u,rfl,rx⟩:=kM r;cases rx;obtain ⟨its,r',pl,hz'⟩:=I.list hq;have hlen:=r'.length;obtain ⟨o,n,ho,hcl,hdd,hd⟩:=pl;refine CH ⟨o,ho,hcl,n,hd⟩ (AC I rep hc r') Oo λpm h' D c hg ho keep hD hget=>?_;have hperm:pm.toList.Perm (List.range ys.length):=by
  have:=(Array.perm_iff_toList_perm.mp hg);rw [hlen];simpa using this
 have hlt:∀i∈pm.toList,i<ys.length:=λi hi=>by
  have:=hperm.mem_iff.mp hi;simpa using this
 have hl2:(pm.toList.map λi=>ys.getD i .non).length=ys.length:=by rw [aA,hperm.length_eq,bO]
 refine ⟨.ref D,upd H D (.lst (pm.toList.map λi=>ys.getD i .non)),I.laid (t':=s.toks) keep hD ⟨by rw [hl2];exact hz',_,c,vG r' _ hlt,hget⟩,rfl,?_⟩;have hn:=I.hok.fresh hD;refine q D pm.toList _ hperm (λhnd=>?_) hn bE (aW.upd hn);have lcs:cs.length=its.length:=by rw [<-hlen,rep.len,aA]
 have ha:=ho (lcs ▸ FT hnd);have hsz:=hg.size;rw [List.pairwise_map,List.pairwise_iff_getElem];intro i j hi hj hij;have hi':i<pm.size:=by simpa using hi
 have hj':j<pm.size:=by simpa using hj
 have e1:pm.toList[i]=pm.getD i 0:=by rw [Array.getElem_toList];exact (by simp [Array.getD,hi']:pm.getD i 0=pm[i]).symm
 have e2:pm.toList[j]=pm.getD j 0:=by rw [Array.getElem_toList];exact (by simp [Array.getD,hj']:pm.getD j 0=pm[j]).symm
 rw [e1,e2];exact ha i j hij (by rw [<-hsz];simpa using hj)
abbrev cD(c:List Int):PyData:=.tuple (c.map .int)
theorem aEg(x y:Int):PyData.eqv (.int x) (.int y)=decide (x=y):=by
 show (x == y)=_;rw [Bool.beq_eq_decide_eq]
theorem YJ:∀a b:List Int,PyData.eqvAll (a.map PyData.int) (b.map PyData.int)=decide (a=b)
 | [],[]=>by simp [PyData.eqvAll]
 | [],_::_=>by simp [PyData.eqvAll]
 | _::_,[]=>by simp [PyData.eqvAll]
 | x::a,y::b=>by
  have ih:=YJ a b;rw [aZ,aZ];show (PyData.eqv (.int x) (.int y)&&PyData.eqvAll _ _)=_;rw [ih,aEg];by_cases h:x=y <;> by_cases h':a=b <;> simp [h,h']
theorem aCv(a b:List Int):PyData.eqv (cD a) (cD b)=decide (a=b):=YJ a b
theorem yO:∀a:List Int,PyData.canLayAll0 (a.map PyData.int)=true
 | []=>rfl
 | x::a=>by
  show (PyData.canLay0 (.int x)&&PyData.canLayAll0 (a.map PyData.int))=true;rw [yO a];rfl
theorem IG:∀a:List Int,PyData.depthAll (a.map PyData.int)<=1
 | []=>by show 0<=1;omega
 | x::a=>by
  have:=IG a;show max (PyData.depth (.int x)) (PyData.depthAll (a.map PyData.int))<=1;have:PyData.depth (.int x)<=1:=by simp [PyData.depth]
  omega
theorem QS{H:Hp}{c:List Int}{v:V}(h:bQ H (cD c) v):∃a,v=.ref a/\H a=some (.tup (c.map V.int)):=by
 unfold bQ at h;obtain ⟨a,xs,rfl,h1,h2⟩:=h;have hx:xs=c.map V.int:=by
  clear h1
  induction c generalizing xs with
  | nil=>unfold aX at h2;exact h2
  | cons z c ih =>
   rw [aZ] at h2;unfold aX at h2;obtain ⟨x,xs',rfl,h3,h4⟩:=h2;cases (show x=V.int z from h3);rw [ih _ h4];rfl
 subst hx;exact ⟨a,rfl,h1⟩
theorem DB{a b:List Int}(h:a.map V.int=b.map V.int):a=b:=by
 induction a generalizing b with
 | nil=>cases b with
  | nil=>rfl
  | cons _ _=>cases h
 | cons x a ih=>cases b with
  | nil=>cases h
  | cons y b =>
   rw [aZ,aZ] at h;injection h with h1 h2;injection h1 with h1;rw [h1,ih h2]
open Classical in
noncomputable def EN (H:Hp) (c:List Int) (u:Value):Bool:=decide (∃b,u=.ref b/\H b=some (.tup (c.map V.int)))
section
variable{X:Cx}{pins:List (Addr × Obj)}{σ:St}{H:Hp}{s:Shared}
theorem PX{c c':List Int}{y:V}{u:Value}(h:bQ H (cD c') y)(r:dF y u):EN H c u=decide (c'=c):=by
 obtain ⟨a,rfl,ha⟩:=QS h;cases r;unfold EN;rw [Bool.eq_iff_iff];simp only [decide_eq_true_eq];constructor
 ·rintro ⟨b,e2,hb⟩;cases e2;rw [ha] at hb;injection hb with hb;injection hb with hb;exact DB hb
 ·rintro rfl;exact ⟨a,rfl,ha⟩
theorem rZ{c:List Int}:∀{cs:List (List Int)}{ys:List V}{us:List Value},aX H (cs.map cD) ys->cV ys us->us.any (EN H c)=decide (c∈cs)
 | [],ys,us,r,v=>by
  unfold aX at r;cases (show ys=[] from r);cases v
  rfl
 | c' :: cs,ys,us,r,v=>by
  rw [aZ] at r;unfold aX at r;obtain ⟨y,ys',rfl,r1,r2⟩:=r;obtain ⟨u,us',rfl,rv,v'⟩:=qV v;rw [List.any_cons,PX r1 rv,rZ r2 v'];by_cases h:c'=c
  ·subst h;simp
  ·have h':¬c=c':=λe=>h e.symm;simp [h,h']
theorem rY(I:bW X pins σ H s)(hu:X.A.units+64<cLine){c:List Int}{v:Value}{as:List Addr}(rc:Reads s.heap v (cD c) as):∀{cs:List (List Int)}{ys:List V}{us:List Value},aX H (cs.map cD) ys->cV ys us ->
  ∀u∈us,SeqAt.EqAt X.A.in1 s u v (EN H c u)
 | [],ys,us,r,vv=>by
  unfold aX at r;cases (show ys=[] from r);cases vv;exact λu hu=>by cases hu
 | c' :: cs,ys,us,r,vv=>by
  rw [aZ] at r;unfold aX at r;obtain ⟨y,ys',rfl,r1,r2⟩:=r;obtain ⟨u,us',rfl,rv,v'⟩:=qV vv;intro u' hu';rcases aV.mp hu' with rfl | hu'
  ·obtain ⟨bs,rb⟩:=r1.reads I rv;rw [PX r1 rv,<-aCv];refine SeqAt.eqAt_reads (cD c') (cD c) _ s _ _ bs as rb rc (yO c') (yO c) ?_;have h1:(cD c').depth<=2:=by
    have:=IG c';simp only [PyData.depth];omega
   have:X.A.in1.units<=X.A.units+1:=by
    first
     | exact aM _
     | (unfold Around.in1;simp)
   omega
  ·exact rY I hu rc r2 v' u' hu'
end
@[irreducible] def JX(K:PySem.W.Frag)(neg:Bool):R2:=λx y H Q=>∃(p:Addr) (ys:List V) (cs:List (List Int)) (c:List Int),y=.ref p/\(eZ K H p ys\/dO K H p ys)/\aX H (cs.map cD) ys/\dU K H (cD c) x/\Q (.bl (if neg then !decide (c∈cs) else decide (c∈cs))) H
theorem riT{K:PySem.W.Frag}{neg:Bool}{x:V}{p:Addr}{ys:List V}{cs:List (List Int)}{c:List Int}{H:Hp}{Q:VK}(h:eZ K H p ys\/dO K H p ys)(r:aX H (cs.map cD) ys)(rx:dU K H (cD c) x)(q:Q (.bl (if neg then !decide (c∈cs) else decide (c∈cs))) H):JX K neg x (.ref p) H Q:=by
 unfold JX;exact ⟨p,ys,cs,c,rfl,h,r,rx,q⟩
section
variable{X:Cx}
theorem aAN(K:PySem.W.Frag)(hu:X.A.units+64<cLine)(hK:X.K=K:=by rfl):nZ X (compareOp .In) (JX K false):=by
 subst hK;unfold JX;intro pins s σ H x y v u Q I rx ry h;obtain ⟨p,ys,cs,c,rfl,hq,r,rc,q⟩:=h;cases ry;obtain ⟨as,ra⟩:=rc.reads I rx;rcases hq with hq | hq
 ·obtain ⟨its,r',pl,hz⟩:=I.list hq;refine SeqAt.in_listAt (EN H c) pl.isList (λw hw=>rY I hu ra r r' w (by simpa using hw)) ⟨.bl _,H,I,rfl,?_⟩;rw [show its.toArray.any (EN H c)=its.any (EN H c) by simp,rZ r r'];exact q
 ·obtain ⟨its,r',pl,hz⟩:=I.tuple hq;refine SeqAt.in_tupleAt (EN H c) pl (λw hw=>rY I hu ra r r' w (by simpa using hw)) ⟨.bl _,H,I,rfl,?_⟩;rw [show its.toArray.any (EN H c)=its.any (EN H c) by simp,rZ r r'];exact q
theorem KD(K:PySem.W.Frag)(hu:X.A.units+64<cLine)(hK:X.K=K:=by rfl):nZ X (compareOp .NotIn) (JX K true):=by
 subst hK;unfold JX;intro pins s σ H x y v u Q I rx ry h;obtain ⟨p,ys,cs,c,rfl,hq,r,rc,q⟩:=h;cases ry;obtain ⟨as,ra⟩:=rc.reads I rx;rcases hq with hq | hq
 ·obtain ⟨its,r',pl,hz⟩:=I.list hq;refine SeqAt.notIn_listAt (EN H c) pl.isList (λw hw=>rY I hu ra r r' w (by simpa using hw)) ⟨.bl _,H,I,rfl,?_⟩;rw [show its.toArray.any (EN H c)=its.any (EN H c) by simp,rZ r r'];exact q
 ·obtain ⟨its,r',pl,hz⟩:=I.tuple hq;refine SeqAt.notIn_tupleAt (EN H c) pl (λw hw=>rY I hu ra r r' w (by simpa using hw)) ⟨.bl _,H,I,rfl,?_⟩;rw [show its.toArray.any (EN H c)=its.any (EN H c) by simp,rZ r r'];exact q
end
end L2
namespace HT
open PySem PySem.Spec PyProof.Rows PySem.Builtin
theorem xL:typeLookup (.type "tuple") "keys" = pure none:=am_miss_of_fast Kk
section
variable{prog:Program}{w:World}{A:Around}{E:Value->Shared->Prop}{s:Shared}
theorem KN{a:Addr}{o:Obj}{xs:Array Value}{k:Nat}{Q:Option Value->Shared->Prop}(hx:s.heap.get? a=some o)(hc:o.cls=.type "tuple")(hdat:o.data=.seq xs k)(hd:o.dict=none)(hA:A.handled=none)
  (h:∀h' tk,(∀b u,s.heap.get? b=some u->h'.get? b=some u)->Q none { s with heap:=h',toks:=tk }):wpAny (model prog w) A (getAttr? (.ref a) "keys") Q E s:=by
 obtain ⟨c,dct,dat,sl⟩:=o;simp only at hc hdat hd;subst hc hdat hd;obtain ⟨hp,g,d,tk,os⟩:=s;have hT:∀tk',(⟨hp,g,d,tk',os⟩:Shared).TypeIs (.ref a) "tuple" := λ_=>⟨_,hx,rfl⟩;have f1:=sub_AttributeError;have f3:=F.slot_tuple_getattribute.lookup;have f4:=F.slot_tuple_getattribute.bind (.ref a);have f5:=am_tuple_getattr_none;unfold getAttr? getAttrBy? getAttrBy
 repeat (any_goals (first | assumption | exact hT _ | ((with_reducible show wpAny _ _ (call (Value.builtin "tuple.__getattribute__") _ _) _ _ _);refine call_meets F.slot_tuple_getattribute (hT _) am_entry_tuple_getattribute (F.args_tuple_getattribute_2 _ _) (meets_getattribute_miss_tuple a xs k sl "keys" _ xL Dd) ⟨hx,hA,λh' tk' e hx'=>?_⟩) | wp_step))
 obtain ⟨t',u',he⟩:=hx'.there;show wpAny _ _ (getattributeRaised _ _ _ _ _ _ _) _ _ _;unfold getattributeRaised
 repeat (any_goals (first | assumption | wp_step))
 exact h _ _ hx'.keeps
end
theorem jV:entryFor table "dict.update.loop" = some Builtin.«dict.update.loop» := entryFor_of_tree (by kernel_rfl)
theorem jU:plainId "dict.update.loop" = true:=Kk
section
variable{prog:Program}{w:World}{A:Around}{E:Value->Shared->Prop}{s:Shared}{K:Type}[DecidableEq K]{knd:HeapKind prog w K}
theorem SN{d it t:Addr}{i:Nat}{items:Array Value}{R:Result->Shared->Prop}(hA:A.handled=none)(hit:s.heap.IsTupleIter it t i)(ht:s.heap.IsTuple t items)(hx:items[i]?=none)
  (h:∀h',Heap.ExtBut it s.heap h'->R (.ok (.ret .none)) { s with heap:=h' }) :
  codeAny (model prog w) A (.builtin "dict.update.loop" ⟨[.ref d,.ref it,rawInt i,.none],[]⟩) R s:=by
 refine codeAny_builtin jV ?_;rw [Around.under_plainId jU _];unfold Builtin.«dict.update.loop»;refine wpAny_bind (wpAny_pyNext_tuple_end hA hit ht hx λh' e=>?_);show wpAny _ _ (Dict.addKeywords d [] >>= λ_=>ret Value.none) _ _ _;exact wpAny_bind (wpAny_pure (wpAny_pure (h h' e)))
theorem qG{b:Addr}{its:Array Value}{Q:List Value->Shared->Prop}(hb:s.heap.IsTuple b its)(h:Q its.toList s):wpAny (model prog w) A (Dict.pairItems (.ref b)) Q E s:=by
 obtain ⟨o,ho,hc,n,hd⟩:=id hb;unfold Dict.pairItems;refine wpAny_bind (wpAny_typeOf hb.typeIs ?_);rw [if_pos Dd];exact wpAny_bind (wpAny_seqItems ho hd (wpAny_pure h))
theorem MT{d it t b a:Addr}{i:Nat}{items:Array Value}{xs:List (K × Addr × Value)}{k:K}{v:Value}{R:Result->Shared->Prop}(hu:knd.room A.in1)(hit:s.heap.IsTupleIter it t i)(ht:s.heap.IsTuple t items)(hx:items[i]?=some (.ref b))
  (hb:s.heap.IsTuple b #[.ref a,v]) (nb:b≠it) (hk:∀h',(∀c o,c≠it->s.heap.get? c=some o->h'.get? c=some o)->knd.is h' k a/\h'.DictOfH knd d xs) (nd:d≠it) (hz:xs.length<=sizeLine)
  (h:∀h1 h' tk,(∀c o,c≠it->s.heap.get? c=some o->h1.get? c=some o)->Heap.SameBut d h1 h'->h'.DictOfH knd d (storedH xs k a v)->h'.IsTupleIter it t (i+1) ->
   codeAny (model prog w) A (.builtin "dict.update.loop" ⟨[.ref d,.ref it,rawInt ((i+1:Nat):Int),.none],[]⟩) R { s with heap:=h',toks:=tk }) :
  codeAny (model prog w) A (.builtin "dict.update.loop" ⟨[.ref d,.ref it,rawInt i,.none],[]⟩) R s:=by
 refine codeAny_builtin jV ?_;rw [Around.under_plainId jU _];unfold Builtin.«dict.update.loop»;refine wpAny_bind (wpAny_pyNext_tuple_item hit ht hx λh' it' hs=>?_);have hk':∀c o,c≠it->s.heap.get? c=some o->h'.get? c=some o:=λc o hc e=>(hs.2 c hc).trans e;refine wpAny_bind (wpAny_holding ?_);refine wpAny_bind (wpAny_tryCatch ?_);have hb':h'.IsTuple b #[.ref a,v]:=by
  obtain ⟨o,ho,r⟩:=hb;exact ⟨o,hk' b o nb ho,r⟩
 refine qG (s:={ s with heap:=h' }) hb' ?_;show wpAny _ _ (holding [Value.ref a,v] (dictSet d (.ref a) v)) _ _ _;have hm':=(hk h' hk').2;refine wpAny_holding (wpAny_dictSet_heap (s:={ s with heap:=h' }) hu (hk h' hk').1 hm' (λh2 hm2 hs2=>?_) hz);refine wpAny_pure ⟨Code.quiet_builtin _ Kk,?_⟩;have hn:=h h' h2 (s.toks+knd.draws k) hk' hs2 hm2 (by
  obtain ⟨o,ho,r⟩:=it';exact ⟨o,(hs2.2 it (Ne.symm nd)).trans ho,r⟩)
 rw [show ((i+1:Nat):Int)=(i:Int)+1 from Oo] at hn;exact hn
end
end HT
namespace L2
open PySem PySem.Spec PySem.W PyProof.Rows HT
def qJ(H:Hp)(y:V)(p:List eA × V):Prop:=∃b a,y=.ref b/\H b=some (.tup [.ref a,p.2])/\H a=some (.tup (p.1.map kV))
section
variable{X:Cx}{pins:List (Addr × Obj)}{σ:St}{H:Hp}
theorem KT.isAll{P:Program}{w:World}{H:Hp}{h:Heap}(ok:nU P w H h){l:List (List eA × V)}{m:List (List eA × Addr × Value)}(q:KT H l m):∀x∈m,(tupleKind (dQ P w)).is h x.1 x.2.1:=by
 unfold KT at q
 induction q with
 | nil=>intro x hx;exact nomatch hx
 | @cons p q ps qs hq t ih =>
  intro x hx;rcases aV.mp hx with e | hx
  ·subst e;exact nJ ok (by rw [<-hq.1];exact hq.2.1)
  ·exact ih x hx
theorem zH{D it t:Addr}{ys:List V}{R:Result->Shared->Prop}(hu:X.A.units+8<cLine)(hA:X.A.handled=none)(hD:H D=none)(ht:H t=some (.tup ys))(nit:it≠D) :
  ∀(rest:List (List eA × V)) (i:Nat) (kvs:List (List eA × V)) (s:Shared),bW X pins σ (upd H D (.dT kvs)) s->gU X pins (upd H D (.dT kvs)) it->s.heap.IsTupleIter it t i->Paired (qJ H) (ys.drop i) rest->((kvs++rest).map (·.1)).Nodup->(kvs++rest).length<=1000 ->
   (∀s',bW X pins σ (upd H D (.dT (kvs++rest))) s'->R (.ok (.ret .none)) s')->codeAny (model X.prog X.w) X.A.in1 (.builtin "dict.update.loop" ⟨[.ref D,.ref it,rawInt i,.none],[]⟩) R s
 | [],i,kvs,s,I,fp,hit,pr,nd,hz,k=>by
  have ntD:t≠D:=λe=>by subst e;rw [hD] at ht;cases ht
  obtain ⟨its,r,pl,_⟩:=I.tuple (dO.of (show upd H D (.dT kvs) t=some (.tup ys) by rw [bP ntD];exact ht));have hl:ys.length<=i:=by
   generalize hq:ys.drop i=l at pr;cases pr;exact List.drop_eq_nil_iff.mp hq
  have hl2:=r.length;rw [List.append_nil] at k;refine SN hA hit pl (by rw [Array.getElem?_eq_none];simp;omega) λh' e=>k _ ?_;exact I.turnedL (t':=s.toks) (fp:=[it]) (λb o hb x=>e b o (by simpa using hb) x) (λb hb=>by
   cases (show b=it by simpa using hb);exact fp)
 | p::rest,i,kvs,s,I,fp,hit,pr,nd,hz,k=>by
  have ntD:t≠D:=λe=>by subst e;rw [hD] at ht;cases ht
  obtain ⟨its,r,pl,_⟩:=I.tuple (dO.of (show upd H D (.dT kvs) t=some (.tup ys) by rw [bP ntD];exact ht));generalize hq:ys.drop i=l at pr;cases pr with
  | @cons y _ ys' _ hy pr' =>
   obtain ⟨b,a,rfl,hb,ha⟩:=hy;have hi:i<ys.length:=by
    by_cases h:i<ys.length
    ·exact h
    ·rw [List.drop_eq_nil_iff.mpr Oo] at hq;cases hq
   have hyi:ys[i]?=some (.ref b):=by
    have:=List.drop_eq_getElem_cons hi;rw [hq] at this;injection this with h1 h2;rw [aD hi,<-h1]
   have hys':ys.drop (i+1)=ys':=by
    have:=List.drop_eq_getElem_cons hi;rw [hq] at this;injection this with h1 h2;exact h2.symm
   obtain ⟨u,hu',ru⟩:=r.get hyi;cases ru;have nbD:b≠D:=λe=>by subst e;rw [hD] at hb;cases hb
   have naD:a≠D:=λe=>by subst e;rw [hD] at ha;cases ha
   have hb2:upd H D (.dT kvs) b=some (.tup [.ref a,p.2]):=by rw [bP nbD];exact hb
   have ha2:upd H D (.dT kvs) a=some (.tup (p.1.map kV)):=by rw [bP naD];exact ha
   obtain ⟨itb,rb,plb,_⟩:=I.tuple (dO.of hb2);obtain ⟨ua,uv,rfl,ra,rv⟩:=BT rb;cases ra;have nb:b≠it:=λe=>by have:=fp.1;rw [<-e,hb2] at this;cases this
   obtain ⟨z,hdm,xs,rel,o,es,ep,h1,h2,h3,h4,h5⟩:=(show dM X.prog X.w (upd H D (.dT kvs)) s.heap D (.dT kvs) from I.hok D _ bE);have hturn:∀h' tk,(∀c o,c≠it->s.heap.get? c=some o->h'.get? c=some o)->bW X pins σ (upd H D (.dT kvs)) { s with heap:=h',toks:=tk }:=λh' tk kp =>
    I.turnedL (t':=tk) (fp:=[it]) (λb o hb x=>kp b o (by simpa using hb) x) (λb hb=>by
     cases (show b=it by simpa using hb);exact fp)
   have lxs:xs.length=kvs.length:=(Paired.length rel).symm;refine MT (knd:=tupleKind (dQ X.prog X.w)) (xs:=xs) (k:=p.1) (v:=uv) (b:=b) (a:=a) (show _<_ by show X.A.in1.in1.units<cLine;exact bC (show X.A.in1.in1.units<=X.A.units+2 from aM _) Oo) hit pl (by simpa using hu') plb nb (λh' kp=>⟨nJ (hturn h' s.toks kp).hok ha2,o,es,ep,kp D o (Ne.symm nit) h1,h2,h3,h4,KT.isAll (hturn h' s.toks kp).hok rel,h5⟩) (Ne.symm nit) Oo λhh1 hh2 tk kp hs2 hm2 hit2=>?_;have I1:=hturn hh1 s.toks kp;obtain ⟨q,es2,ep2,hq2,g2,g3,g4,_,g5⟩:=hm2;have hkn:eJ kvs p.1=none:=by
    rw [bF,aZ] at nd;have hnot:=(List.nodup_append.mp nd).2.2;cases hv:eJ kvs p.1 with
    | none=>rfl
    | some v=>exact absurd rfl (hnot _ (AA hv) p.1 (aG ..))
   have hlp:(iC kvs p.1 p.2).length<=sizeLine:=by
    have h6:=iU kvs p.1 p.2;rw [bI,bL] at hz;have h7:(1000:Nat)<=sizeLine:=Dd;omega
   have I2:=pW (t':=tk) (ob:=.dT (iC kvs p.1 p.2)) I1 (by rw [bE];exact True.intro) hs2 ⟨q,hq2⟩ ⟨hlp,hdm,_,(KT.put (show KT (upd H D (.dT kvs)) kvs xs from rel) p.1 ha2 rv).keeps λc ys ec=>(by rw [bP (mE ec bE (λz=>nomatch z))];exact ec),q,es2,ep2,hq2,g2,g3,g4,g5⟩;rw [AB,oV p.2 hkn] at I2;refine zH hu hA hD ht nit rest (i+1) (kvs++[p]) _ I2 ?_ hit2 (by rw [hys'];exact pr') (by rw [List.append_assoc];exact nd) (by rw [List.append_assoc];exact hz) (by rw [List.append_assoc];exact k);refine ⟨?_,fp.2⟩;rw [bP nit];have:=fp.1;rw [bP nit] at this;exact this
@[irreducible] def wH:List V->Hp->VK->Prop:=λxs H Q=>∃(t:Addr) (ys:List V) (kvs:List (List eA × V)),xs=[.ref t]/\H t=some (.tup ys)/\Paired (qJ H) ys kvs/\(kvs.map (·.1)).Nodup/\kvs.length<=1000/\∀D,H D=none->Q (.ref D) (upd H D (.dT kvs))
theorem rdcp{H:Hp}{Q:VK}{t:Addr}{ys:List V}{kvs:List (List eA × V)}(ht:H t=some (.tup ys))(pr:Paired (qJ H) ys kvs)(nd:(kvs.map (·.1)).Nodup)(hz:kvs.length<=1000)(q:∀D H',H D=none->H' D=some (.dT kvs)->aW H H'->Q (.ref D) H'):wH [.ref t] H Q:=by
 unfold wH;exact ⟨t,ys,kvs,rfl,ht,pr,nd,hz,λD hD=>q D _ hD bE (aW.upd hD)⟩
theorem DX(hu:X.A.units+64<cLine)(hc:X.calm=true):fO X (.type "dict") wH:=by
 unfold wH;intro pins s σ H xs us Q I r h;obtain ⟨t,ys,kvs,rfl,ht,pr,nd,hz,q⟩:=h;obtain ⟨u,rfl,rx⟩:=kM r;cases rx;have hA:=I.ok.hd hc;refine callType_codes (Q₁:=λobj s₁=>obj=.ref s.heap.objs.size/\s₁={ s with heap:=s.heap.push { cls:=.type "dict",data:=.dict #[] } }) F.kt_called_dict (F.kt_typeCall_dict_1 _) F.entry_dict_init (kt_code_dict_new _ ⟨rfl,rfl⟩) ?_;rintro obj s₁ ⟨rfl,rfl⟩;have hD:=I.hok.fresh (aM s.heap.objs.size);have I1:bW X pins σ (upd H s.heap.objs.size (.dT [])) { s with heap:=s.heap.push { cls:=.type "dict",data:=.dict #[] } }:=I.laid (a:=s.heap.objs.size) (o:=.dT []) (t':=s.toks) (λ_ _ q=>aB _ q) (aM _) (sB s.heap I.big);have htD:t≠s.heap.objs.size:=λe=>by subst e;rw [hD] at ht;cases ht
 have ht1:upd H s.heap.objs.size (.dT []) t=some (.tup ys):=by rw [bP htD];exact ht
 obtain ⟨⟨zt,ot,hot,hdt⟩,itt,rt,ot',hot',hct,nt,hdd⟩:=(show dM X.prog X.w (upd H s.heap.objs.size (.dT [])) (s.heap.push { cls:=.type "dict",data:=.dict #[] }) t (.tup ys) from I1.hok t _ ht1);rw [hot] at hot';cases hot';have hnew:(s.heap.push { cls:=.type "dict",data:=.dict #[] }).DictOf (dQ X.prog X.w) s.heap.objs.size []:=Heap.DictOf.new s.heap;refine ⟨hnew.typeIs,F.args_dict_init_2 _ _,?_⟩;unfold Builtin.«dict.__init__»;refine wpAny_bind ?_;unfold Builtin.Dict.selfAndRest;refine wpAny_bind (wpAny_notOrdered_dict hnew.typeIs ?_);show wpAny _ _ (pure (s.heap.objs.size,[Value.ref t])) _ _ _;refine wpAny_pure ?_;show wpAny _ _ (Builtin.Dict.updateFrom "dict.__init__" s.heap.objs.size (.ref t) [] .none) _ _ _;unfold Builtin.Dict.updateFrom;refine wpAny_bind (wpAny_typeOf (T := "tuple") ⟨_,hot,hct⟩ ?_);rw [if_pos Dd];refine wpAny_bind (KN (s:={ s with heap:=s.heap.push { cls:=.type "dict",data:=.dict #[] } }) hot hct hdd hdt hA λh' tk kp=>?_);rw [if_pos (by rfl)];refine wpAny_bind (wpAny_rule ?_);refine wpAny_bind (wpAny_pyIter_tuple (s:={ s with heap:=h',toks:=tk }) (items:=itt.toArray) ⟨ot,kp t ot hot,hct,nt,hdd⟩ ?_);refine wpAny_pure ⟨Code.quiet_builtin _ Kk,?_⟩;have I2:bW X pins σ (upd H s.heap.objs.size (.dT [])) { s with heap:=h',toks:=tk }:=I1.kept (t':=tk) kp;have I3:bW X pins σ (upd H s.heap.objs.size (.dT [])) { s with heap:=h'.push { cls:=.type "tuple_iterator",data:=.fields #[.ref t,.int 0 0] },toks:=tk }:=I2.kept (t':=tk) λb o e=>aB _ e
 have hlt:s.heap.objs.size<h'.objs.size:=by
  obtain ⟨_,_,_,hg,_⟩:=hnew;exact aT (kp _ _ hg)
 have hfr:upd H s.heap.objs.size (.dT []) h'.objs.size=none:=I2.hok.fresh (aM _);refine zH (D:=s.heap.objs.size) (it:=h'.objs.size) (t:=t) (ys:=ys) Oo hA hD ht (Nat.ne_of_gt hlt) kvs 0 [] _ I3 (I2.fpOk (aM _) hfr) ⟨_,aP _ rfl,rfl,rfl⟩ (by simpa using pr) (by simpa using nd) (by simpa using hz) λs' I'=>⟨rfl,.ref _,_,I',rfl,?_⟩;rw [List.nil_append];exact q _ hD
end
end L2
namespace HT
open PySem PySem.Spec PyProof.Rows
section
variable{prog:Program}{w:World}{A:Around}{E:Value->Shared->Prop}{s:Shared}{it d:Addr}{es:Array DictEntry}{ep i:Nat}{od:Obj}
theorem VQ{Q:Option Value->Shared->Prop}(hit:s.heap.IsKeyIter it d i es.size ep)(hod:s.heap.get? d=some od)(hdd:od.data=.dict es ep)(hi:i<es.size)
  (h:∀h',h'.IsKeyIter it d (i+1) es.size ep->Heap.SameBut it s.heap h'->Q (some es[i].key) { s with heap:=h' }):wpAny (model prog w) A (pyNext (.ref it)) Q E s:=by
 obtain ⟨⟨c0,dd0,data0,sl0⟩,ho,hc,hd⟩:=id hit;simp only at hc hd;subst hc hd;have hT:=hit.typeIs;unfold pyNext;refine wpAny_bind (wpAny_attempt (wpAny_callSpecial?_slot (name:=Str.ofString "__next__") hT F.slot_dict_keyiterator_next (wpAny_call_entry F.slot_dict_keyiterator_next hT F.entry_dict_keyiterator_next ?_ (F.args_dict_keyiterator_next_1 _))));have hn:(Value.ref d == Value.none)=false:=rfl;have hown:Builtin.Dict_items.ownsTuple "dict_keyiterator" = false:=Dd
 repeat (any_goals (first | assumption | (with_reducible refine wpAny_typeNameOfWhole_keyiter hT ?_) | (with_reducible refine wpAny_isOneOf_keyiter hT ?_) | (with_reducible refine wpAny_fieldsOf ho rfl ?_) | (with_reducible refine wpAny_dictEntries hod hdd ?_) | (with_reducible refine wpAny_dictEpoch hod hdd ?_) | wp_step))
 rw [if_neg (show ¬((i:Int)<0) by omega),Int.toNat_natCast,Array.getElem?_eq_getElem hi];have hit':(s.heap.update it (Obj.mapFields (·.setIfInBounds 1 (rawInt ((i:Int)+1))))).IsKeyIter it d (i+1) es.size ep :=
  ⟨_,Heap.get?_update_self _ ho (Obj.isFreed_of_fields (Obj.data_mapFields rfl _)),(Obj.cls_mapFields ..).trans rfl,by rw [Obj.data_mapFields rfl];simp [rawInt]⟩
 have hT':({ s with heap:=s.heap.update it (Obj.mapFields (·.setIfInBounds 1 (rawInt ((i:Int)+1)))) }:Shared).TypeIs (.ref it) "dict_keyiterator" := hit'.typeIs;have hfin:=h _ hit' (Heap.SameBut.update ..)
 repeat (any_goals (first | assumption | (with_reducible refine wpAny_typeNameOfWhole_keyiter hT ?_) | (with_reducible refine wpAny_isOneOf_keyiter hT ?_) | (with_reducible refine wpAny_isOneOf_keyiter hT' ?_) | (with_reducible refine wpAny_setField ho rfl (by rw [hown];simp) ?_) | wp_step))
 exact ⟨_,rfl,wpAny_pure hfin⟩
theorem aAV{Q:Option Value->Shared->Prop}(hh:A.handled=none)(hit:s.heap.IsKeyIter it d i es.size ep)(hod:s.heap.get? d=some od)(hdd:od.data=.dict es ep)(hi:es.size<=i)
  (h:∀h',Heap.ExtBut it s.heap h'->Q none { s with heap:=h' }):wpAny (model prog w) A (pyNext (.ref it)) Q E s:=by
 obtain ⟨⟨c0,dd0,data0,sl0⟩,ho,hc,hd⟩:=id hit;simp only at hc hd;subst hc hd;have hT:=hit.typeIs;have hn:(Value.ref d == Value.none)=false:=rfl;have hown:Builtin.Dict_items.ownsTuple "dict_keyiterator" = false:=Dd;unfold pyNext;refine wpAny_bind (wpAny_attempt (wpAny_callSpecial?_slot (name:=Str.ofString "__next__") hT F.slot_dict_keyiterator_next (wpAny_call_entry F.slot_dict_keyiterator_next hT F.entry_dict_keyiterator_next ?_ (F.args_dict_keyiterator_next_1 _))))
 repeat (any_goals (first | assumption | (with_reducible refine wpAny_typeNameOfWhole_keyiter hT ?_) | (with_reducible refine wpAny_isOneOf_keyiter hT ?_) | (with_reducible refine wpAny_fieldsOf ho rfl ?_) | (with_reducible refine wpAny_dictEntries hod hdd ?_) | (with_reducible refine wpAny_dictEpoch hod hdd ?_) | wp_step))
 rw [if_neg (show ¬((i:Int)<0) by omega),Int.toNat_natCast,Array.getElem?_eq_none hi]
 repeat (any_goals (first | assumption | (with_reducible refine wpAny_typeNameOfWhole_keyiter hT ?_) | (with_reducible refine wpAny_setField ho rfl (by rw [hown];simp) ?_) | wp_step))
 simp only [raiseNew];refine wpAny_bind (wpAny_handled ?_);rw [show A.in1.handled=none from hh];refine wpAny_bind (wpAny_pure (wpAny_throw ?_));refine wpAny_bind (wpAny_isInstance (T := "StopIteration") (b:=true) ⟨_,aP _ rfl,rfl⟩ isSubtype_stop ?_);exact wpAny_pure (h _ (((Heap.SameBut.update ..).extBut.push _).push _))
theorem VS{Q:Value->Shared->Prop}(hd:(d == sysModules)=false)(hod:s.heap.get? d=some od)(hex:od.ExactDict)(hdd:od.data=.dict es ep)
  (hQ:Q (.ref s.heap.objs.size) { s with heap:=s.heap.push { cls:=.type "dict_keyiterator",data:=.fields #[.ref d,.int 0 0,.int es.size 0,.int ep 0] } }):wpAny (model prog w) A (pyIter (.ref d)) Q E s:=by
 have hT:s.TypeIs (.ref d) "dict" := ⟨od,hod,hex.1⟩;refine wpAny_pyIter_slot hT F.slot_dict_iter (wpAny_call_entry F.slot_dict_iter hT F.entry_dict_iter ?_ (F.args_dict_iter_1 _));unfold Builtin.«dict.__iter__»;refine wpAny_bind ?_;unfold Builtin.Dict.dictSlotNone;refine wpAny_bind (wpAny_notOrdered_dict hT ?_);show wpAny _ _ (pure (Value.ref d)) _ _ s;refine wpAny_pure ?_;have hm:(d == sysModules)=false:=hd
 repeat (any_goals (first | assumption | (with_reducible refine wpAny_dictEntries hod hdd ?_) | (with_reducible refine wpAny_dictEpoch hod hdd ?_) | wp_step))
 exact ⟨_,rfl, "dict_keyiterator",_,⟨_,aP _ rfl,rfl⟩,F.slot_dict_keyiterator_next.lookup,hQ⟩
end
end HT
namespace L2
open PySem PySem.Spec PySem.W PyProof.Rows HT
section
variable{X:Cx}{pins:List (Addr × Obj)}{σ:St}{H:Hp}{s:Shared}
theorem bW.freeze{D:Addr}{kvs:List (List eA × V)}(I:bW X pins σ H s)(e:H D=some (.dT kvs)):∃o,bW X pins σ (upd H D (.frz o (.dT kvs))) s:=by
 obtain ⟨z,hd,xs,rel,o,es,ep,h1,h2,h3,h4,h5⟩:=(show dM X.prog X.w H s.heap D (.dT kvs) from I.hok D _ e);refine ⟨o,?_⟩;have I2:=I.write (x:=D) (e:=D) (o:=.frz o (.dT kvs)) (h':=s.heap) (t':=s.toks) (by rw [e];exact True.intro) (.inl rfl) (λb u _ q=>q) ⟨o,h1⟩ ⟨h1,z,hd,xs,KT.keeps (show KT H kvs xs from rel) λc ys ec=>(by rw [bP (mE ec e (λz=>nomatch z))];exact ec),o,es,ep,h1,h2,h3,h4,h5⟩;exact I2
def FzT(H:Hp)(D:Addr)(kvs:List (List eA × V)):Prop:=∃o,H D=some (.frz o (.dT kvs))
@[irreducible] def AS:List V->Hp->VK->Prop:=λxs H Q=>∃(t:Addr) (ys:List V) (kvs:List (List eA × V)),xs=[.ref t]/\H t=some (.tup ys)/\Paired (qJ H) ys kvs/\(kvs.map (·.1)).Nodup/\kvs.length<=1000/\∀D o,H D=none->Q (.ref D) (upd H D (.frz o (.dT kvs)))
theorem rdcz{Q:VK}{t:Addr}{ys:List V}{kvs:List (List eA × V)}(ht:H t=some (.tup ys))(pr:Paired (qJ H) ys kvs)(nd:(kvs.map (·.1)).Nodup)(hz:kvs.length<=1000)(q:∀D H',H D=none->FzT H' D kvs->aW H H'->Q (.ref D) H'):AS [.ref t] H Q:=by
 unfold AS;exact ⟨t,ys,kvs,rfl,ht,pr,nd,hz,λD o hD=>q D _ hD ⟨o,bE⟩ (aW.upd hD)⟩
theorem QM(hu:X.A.units+64<cLine)(hc:X.calm=true):fO X (.type "dict") AS:=by
 unfold AS;intro pins s σ H xs us Q I r h;obtain ⟨t,ys,kvs,rfl,ht,pr,nd,hz,q⟩:=h;refine wpAny_mono (DX hu hc pins s σ H _ us (λv H'=>∃D,v=.ref D/\H D=none/\H'=upd H D (.dT kvs)) I r (by unfold wH;exact ⟨t,ys,kvs,rfl,ht,pr,nd,hz,λD hD=>⟨D,rfl,hD,rfl⟩⟩)) (λv s' ⟨x,H',I',rx,D,e,hD,eH⟩=>?_) λ_ _ e=>e;subst e eH;cases rx;obtain ⟨o,I2⟩:=I'.freeze bE;rw [AB] at I2;exact ⟨.ref D,_,I2,rfl,q D o hD⟩
theorem eX{α β:Type}{R:α->β->Prop}:∀{l:List α}{m:List β}{i:Nat}{a:α},Paired R l m->l[i]?=some a->∃b,m[i]?=some b/\R a b
 | _,_,i,a,.nil,h=>by simp at h
 | _,_,0,a,.cons r t,h=>by
  cases (show _=a by simpa using h);exact ⟨_,rfl,r⟩
 | _,_,i+1,a,.cons r t,h=>by
  obtain ⟨b,h1,h2⟩:=eX t (by simpa using h);exact ⟨b,by simpa using h1,h2⟩
end
section
variable{X:Cx}{tg:Expr}
end
end L2
namespace HT
open PySem PySem.Spec PyProof.Rows PySem.W
section
variable{prog:Program}{w:World}{A:Around}{d:Addr}{o:Obj}{es:Array DictEntry}{ep:Nat}
theorem JC(hh:A.handled=none)(I:Addr)(hne:d≠I)(hdat:o.data=.dict es ep) :
  Walks prog w A I [I,d] [I] es.size (λi v=>∃hi:i<es.size,v=es[i].key) (λi h=>h.IsKeyIter I d i es.size ep/\h.get? d=some o) where
 sub:=λb hb=>by simp at hb;simp [hb]
 frame:=λ_ _ _ st hk=>⟨st.1.at λo e=>hk I (by simp) o e,hk d (by simp) o st.2⟩
 item:=λi s Q E hi st hQ=>VQ st.1 st.2 hdat hi λh' hit' hs' =>
  hQ _ h' s.toks ⟨hi,rfl⟩ ⟨hit',(hs'.2 d hne).trans st.2⟩ λb o hb e=>(hs'.2 b (λh=>hb (by simp [h]))).trans e
 done:=λs Q E st hQ=>aAV hh st.1 st.2 hdat (aM _) λh' he'=>hQ h' s.toks λb o hb e=>he' b o (λh=>hb (by simp [h])) e
 self:=λ_ _ _ _ st hQ=>wpAny_pyIter_keyiter st.1 hQ
theorem VT(lo:(d == sysModules)=false)(hex:o.ExactDict)(hdat:o.data=.dict es ep):KdlSrc prog w "dict" d d es.size (λi v=>∃hi:i<es.size,v=es[i].key) (λh=>h.get? d=some o) where
 type:=λ_ hm=>⟨o,hm,hex.1⟩
 there:=λ_ hm=>⟨aT hm,aT hm⟩
 keep:=λ_ _ hm hk=>hk d (.inl rfl) o hm
 notList:=Dd
 notTuple:=Dd
 hint:=λ_ _ _ _ hm hq=>kdl_hint_dict ⟨o,hm,hex.1⟩ hq
 iter:=λA s hh hm=>⟨_,_,λE Q hQ=>VS lo hm hex hdat hQ,JC hh _ (bS (aT hm)) hdat,⟨_,aP _ rfl,rfl,rfl⟩,aB _ hm⟩
end
end HT
namespace L2
open PySem PySem.Spec PySem.W PyProof.Rows HT
section
variable{prog:Program}{w:World}{A:Around}{E:Value->Shared->Prop}{s:Shared}
theorem DV{T:String}{r d:Addr}{n:Nat}{P:Nat->Value->Prop}{OK:Heap->Prop}{Q:List Value->Shared->Prop}(K:KdlSrc prog w T r d n P OK)(hh:A.handled=none)(hok:OK s.heap)(hn:n<=sizeLine)
  (hQ:∀h' tk (acc':Array Value),(∀b o,s.heap.get? b=some o->h'.get? b=some o)->ItemsOf P acc' n->Q acc'.toList { s with heap:=h',toks:=tk }) :
  wpAny (model prog w) A (collect (.ref r)) Q E s:=by
 have lt:=K.there _ hok;have at0:(s.heap.push (seqObj "list" #[] 0)).get? s.heap.objs.size=some { cls:=.type "list",data:=.seq #[] 0 }:=aP _ rfl
 let G:Result->Shared->Prop:=λa z=>∃g m l e,a=.ok (.ret (.ref s.heap.objs.size))/\z={ s with heap:=g,toks:=m }/\(∀b o,s.heap.get? b=some o->g.get? b=some o)/\g.get? s.heap.objs.size=some { cls:=.type "list",dict:=none,data:=.seq l e,slots:=#[] }/\ItemsOf P l n
 have ext:=kdl_extend (A:=A) (s:={ s with heap:=s.heap.push (seqObj "list" #[] 0) }) (R:=G) K hh (K.keep _ _ hok λb _ o e=>aB _ e) s.heap.objs.size (Nat.ne_of_gt lt.1) (Nat.ne_of_gt lt.2) (.ref s.heap.objs.size) 0 at0
  (λg m l e kp at1 it=>⟨g,m,l,e,rfl,rfl,λb o z=>kp b o (bS (aT z)) (aB _ z),at1,it⟩) hn
 unfold collect;refine wpAny_bind (wpAny_runValue (codeAny_builtin entry_proto_collect' ?_));rw [Around.under_plainId PySem.F.plain_proto_collect _];refine wpAny_bind (m:=newList []) (wpAny_newList (wpAny_pure ⟨plainId_quiet PySem.F.plain_list_iadd _,codeAny_builtin entry_list_iadd' ?_⟩));rw [Around.under_plainId PySem.F.plain_list_iadd _];refine wpAny_mono ext (λfin z y=>?_) λe z ⟨_,_,_,_,q,_⟩=>by cases q
 cases fin with
 | done f=>obtain ⟨g,m,l,e,q,rfl,kp,at1,it⟩:=y;cases q;exact wpAny_bind (wpAny_load at1 (wpAny_pure (hQ g m l kp it)))
 | again c=>exact ⟨y.1,codeAny_mono y.2 λq z ⟨g,m,l,e,eq,ez,kp,at1,it⟩=>by subst eq ez;exact wpAny_bind (wpAny_load at1 (wpAny_pure (hQ g m l kp it)))⟩
theorem FJ{x:Value}{Q:Value->Shared->Prop}
  (h:wpAny (model prog w) A.in1 (collect x) (λvs s1=>∃h1 tk cs,s1={ s with heap:=h1,toks:=tk }/\(∀b o,s.heap.get? b=some o->h1.get? b=some o)/\iP h1 vs cs/\vs.length<64 /\
   ∀(p:Array Nat) (h':Heap) (D:Addr) (c:Nat),eV vs.length p->(xI vs.length (sO cs)->sQ (sO cs) p vs.length)->(∀b o,h1.get? b=some o->h'.get? b=some o)->h1.objs.size<=D->h'.get? D=some (seqObj "list" (List.toArray (p.toList.map λi=>vs.getD i Value.none)) c)->Q (.ref D) { s with heap:=h',toks:=tk }) E s) :
  wpAny (model prog w) A (call (.builtin "sorted") [x]) Q E s:=by
 refine Calls.call_function_entry kind_sorted plain_sorted entry_sorted (args_sorted1 _) ?_;unfold Builtin.«sorted»;refine wpAny_bind (m:=checkCount "sorted" 1 1 _) (wpAny_pure ?_);refine wpAny_bind (wpAny_mono h (λvs s1 ⟨h1,tk,cs,e,keep1,ht,h64,q⟩=>?_) λ_ _ e=>e);subst e;refine wpAny_bind (wpAny_newList ?_ (by rw [sizeLine_eq];omega));have hoL:(h1.push (seqObj "list" vs.toArray 0)).get? h1.objs.size=some (seqObj "list" vs.toArray 0):=aP _ rfl;have keep:∀b o,h1.get? b=some o->(h1.push (seqObj "list" vs.toArray 0)).get? b=some o:=λb o q=>aB _ q;show wpAny _ _ _ _ _ { s with heap:=h1.push (seqObj "list" vs.toArray 0),toks:=tk };refine wpAny_bind (wpAny_holding (wpAny_call_entry slot_list_sort ⟨_,hoL,rfl⟩ entry_list_sort ?body (args_list_sort _)));refine yG (s:={ s with heap:=h1.push (seqObj "list" vs.toArray 0),toks:=tk }) hoL (ht.keep λb o hb _=>keep b o hb) h64 λp hp ho=>⟨_,rfl,wpAny_pure ⟨_,rfl,?_⟩⟩;unfold sortedHeap;have o1:((h1.push (seqObj "list" vs.toArray 0)).update h1.objs.size (Obj.mapSeq λ_=>#[])).get? h1.objs.size=some (seqObj "list" #[] _):=get?_update_seq hoL (λ_=>#[]);have o2:=aB (seqObj "list" #[] 0) (aB (seqObj "tuple" vs.toArray 0) o1);refine q p _ h1.objs.size _ hp ho (λb o e=>?_) (aM _) (get?_update_seq o2 λ_=>List.toArray (p.toList.map λi=>vs.getD i Value.none));have hlt:b<h1.objs.size:=aT e;have hne:b≠h1.objs.size:=bS hlt;rw [cU _ _ _ _ hne];exact aB _ (aB _ (by rw [cU _ _ _ _ hne];exact keep b o e))
end
theorem aCx{X:Cx}{pins:List (Addr × Obj)}{σ:St}{H:Hp}{s:Shared}(I:bW X pins σ H s){d:Addr}{kvs:List (List eA × V)}(e:H d=some (.dT kvs)):(d == sysModules)=false/\(kvs.map (·.1)).Nodup/\∃o,s.heap.get? d=some o/\o.ExactDict/\∃es ep,o.data=.dict es ep/\es.size=kvs.length /\
  ∀(i:Nat) (hi:i<es.size) p,kvs[i]?=some p->∃b,es[i].key=.ref b/\H b=some (.tup (p.1.map kV)):=by
 obtain ⟨z,hd,xs,rel,o,es,ep,h1,h2,h3,h4,h5⟩:=(show dM X.prog X.w H s.heap d (.dT kvs) from I.hok d _ e);have hl:es.size=kvs.length:=by
  have:=congrArg List.length h4;rw [aA,<-Paired.length rel] at this;simpa using this
 have hk:kvs.map (·.1)=xs.map (·.1):=by
  clear h4 h5 hl e z
  induction rel with
  | nil=>rfl
  | cons r t ih=>rw [aZ,aZ,r.1,ih]
 refine ⟨hd,hk ▸ h5,o,h1,h2,es,ep,h3,hl,λi hi p hp=>?_⟩;obtain ⟨x,hx,r1,r2,r3⟩:=eX rel hp;have he:es.toList[i]?=some (entryOfKey (tupleKind (dQ X.prog X.w)) x):=by rw [h4,aC,hx];rfl
 have he2:es[i]=entryOfKey (tupleKind (dQ X.prog X.w)) x:=by
  have:es.toList[i]?=some es[i]:=by simp [hi]
  rw [this] at he;injection he
 rw [he2];exact ⟨x.2.1,rfl,r2⟩
abbrev kyI(c:List Int):List eA:=c.map Sum.inl
theorem kyV(c:List Int):(kyI c).map kV=c.map V.int:=by rw [List.map_map];rfl
@[irreducible] def AR:List V->Hp->VK->Prop:=λxs H Q=>∃(d:Addr) (kvs:List (List eA × V)) (cs:List (List Int)),xs=[.ref d]/\H d=some (.dT kvs)/\kvs.map (·.1)=cs.map kyI/\(∀c∈cs,c≠[])/\cs.length<64 /\
 ∀q (ys:List V) (ds:List (List Int)) H',ds.Perm cs->ds.Pairwise (λa b=>jG a b=true)->H q=none->H' q=some (.lst ys)->aX H' (ds.map λc=>PyData.tuple (c.map .int)) ys->aW H H'->Q (.ref q) H'
theorem rsrd{H:Hp}{Q:VK}{d:Addr}{kvs:List (List eA × V)}{cs:List (List Int)}(h:H d=some (.dT kvs))(hk:kvs.map (·.1)=cs.map kyI)(hc:∀c∈cs,c≠[])(hz:cs.length<64)
  (q:∀q (ys:List V) (ds:List (List Int)) H',ds.Perm cs->ds.Pairwise (λa b=>jG a b=true)->H q=none->H' q=some (.lst ys)->aX H' (ds.map λc=>PyData.tuple (c.map .int)) ys->aW H H'->Q (.ref q) H'):AR [.ref d] H Q:=by
 unfold AR;exact ⟨d,kvs,cs,rfl,h,hk,hc,hz,q⟩
theorem WP{X:Cx}(hc:X.calm=true):fO X (.builtin "sorted") AR:=by
 unfold AR;intro pins s σ H xs us Q I r h;obtain ⟨d,kvs,cs,rfl,hq,hk,hne,hz,q⟩:=h;obtain ⟨u,rfl,rx⟩:=kM r;cases rx;obtain ⟨hm,hnd,o,hod,hex,es,ep,hdd,hsz,hat⟩:=aCx I hq;have lk:kvs.length=cs.length:=by have:=congrArg List.length hk;simpa using this
 refine FJ (DV (VT hm hex hdd) (show X.A.in1.handled=none from I.ok.hd hc) hod (by rw [sizeLine_eq];omega) λh1 tk acc kp hacc=>?_);obtain ⟨la,hacc⟩:=hacc;have I1:bW X pins σ H { s with heap:=h1,toks:=tk }:=I.kept kp;have key:∀(n:Nat) (l:List Value),l.length=n->∀(m:List (List Int)),m.length=n->(∀(i:Nat) v c,l[i]?=some v->m[i]?=some c->∃b,v=.ref b/\H b=some (.tup (c.map V.int)))->∃ys:List V,cV ys l/\aX H (m.map λc=>PyData.tuple (c.map .int)) ys:=by
  intro n
  induction n with
  | zero =>
   intro l hl m hm _;cases l with
   | nil=>cases m with
    | nil=>exact ⟨[],.nil,aX.nil⟩
    | cons _ _=>simp at hm
   | cons _ _=>simp at hl
  | succ n ih =>
   intro l hl m hm hk;cases l with
   | nil=>simp at hl
   | cons v l=>cases m with
    | nil=>simp at hm
    | cons c m =>
     obtain ⟨b,rfl,hb⟩:=hk 0 v c rfl rfl;obtain ⟨ys,hv,hy⟩:=ih l (by simpa using hl) m (by simpa using hm) λi v p h1 h2=>hk (i+1) v p (by simpa using h1) (by simpa using h2);have rb:∀c:List Int,aX H (c.map PyData.int) (c.map V.int):=λc=>by
      induction c with
      | nil=>exact aX.nil
      | cons x c ih=>exact aX.cons (bQ.int _) ih
     exact ⟨.ref b::ys,.cons rfl hv,aX.cons (bQ.tup hb (rb c)) hy⟩
 have lacc:acc.toList.length=cs.length:=by rw [Array.length_toList,la,hsz,lk]
 obtain ⟨ys,hv,hy⟩:=key cs.length acc.toList lacc cs rfl λi v c e1 e2=>by
  obtain ⟨hi,e⟩:=hacc i v (by rw [<-Array.getElem?_toList];exact e1);have hp:∃p,kvs[i]?=some p/\p.1=kyI c:=by
   have:(kvs.map (·.1))[i]?=some (kyI c):=by rw [hk,aC,e2];rfl
   rw [aC] at this;obtain ⟨p,h1,h2⟩:=dH.mp this;exact ⟨p,h1,h2⟩
  obtain ⟨p,hp1,hp2⟩:=hp;obtain ⟨b,k1,k2⟩:=hat i hi p hp1;rw [hp2,kyV] at k2;exact ⟨b,by rw [e,k1],k2⟩
 have hnd2:cs.Nodup:=by
  rw [hk] at hnd;exact List.Pairwise.of_map _ (λa b h e=>h (by rw [e])) hnd
 have lys:ys.length=cs.length:=by rw [hy.len,aA]
 refine ⟨h1,tk,cs,rfl,kp,AC I1 hy hne hv,Oo,λpm h' D c hg ho keep hD hget=>?_⟩;have hperm:pm.toList.Perm (List.range cs.length):=by
  have:=(Array.perm_iff_toList_perm.mp hg);rw [<-lacc];simpa using this
 have hlt:∀i∈pm.toList,i<ys.length:=λi hi=>by
  have:=hperm.mem_iff.mp hi;rw [lys];simpa using this
 have hl2:(pm.toList.map λi=>ys.getD i .non).length=cs.length:=by rw [aA,hperm.length_eq,bO]
 have hn:=I1.hok.fresh hD;have sm:aW H (upd H D (.lst (pm.toList.map λi=>ys.getD i .non))):=aW.upd hn;refine ⟨.ref D,upd H D (.lst (pm.toList.map λi=>ys.getD i .non)),I1.laid (t':=tk) keep hD ⟨by rw [hl2,sizeLine_eq];omega,_,c,vG hv _ hlt,hget⟩,rfl,?_⟩;have ha:=ho (lacc ▸ FT hnd2);have hsz2:=hg.size;have hpm:(pm.toList.map λi=>cs.getD i []).Perm cs:=by
  have h1:=hperm.map λi=>cs.getD i [];have e:(List.range cs.length).map (λi=>cs.getD i [])=cs:=by
   apply List.ext_getElem?;intro i;rw [aC];by_cases hi:i<cs.length
   ·rw [cO hi,aD hi,Option.map_some,aF,aD hi];rfl
   ·rw [bH (by simpa using hi),bH Oo];rfl
  rwa [e] at h1
 refine q D _ (pm.toList.map λi=>cs.getD i []) _ hpm ?_ hn bE ?_ sm
 ·rw [List.pairwise_map,List.pairwise_iff_getElem];intro i j hi hj hij;have hi':i<pm.size:=by simpa using hi
  have hj':j<pm.size:=by simpa using hj
  have e1:pm.toList[i]=pm.getD i 0:=by rw [Array.getElem_toList];exact (by simp [Array.getD,hi']:pm.getD i 0=pm[i]).symm
  have e2:pm.toList[j]=pm.getD j 0:=by rw [Array.getElem_toList];exact (by simp [Array.getD,hj']:pm.getD j 0=pm[j]).symm
  rw [e1,e2];exact ha i j hij (by rw [<-hsz2];exact hj')
 ·have rep:∀ix:List Nat,(∀i∈ix,i<cs.length)->aX H ((ix.map λi=>cs.getD i []).map λc=>PyData.tuple (c.map .int)) (ix.map λi=>ys.getD i .non):=λix=>by
   induction ix with
   | nil=>exact λ_=>aX.nil
   | cons i ix ih =>
    intro h;have hi:=h i (aG ..);have hd:(cs.map λc=>PyData.tuple (c.map .int))[i]?=some (PyData.tuple ((cs.getD i []).map .int)):=by
     rw [aC,aF,aD hi];rfl
    obtain ⟨x,hx,rx⟩:=hy.get' hd;have e2:ys.getD i .non=x:=by rw [aF,hx];rfl
    refine aX.cons ?_ (ih λj hj=>h j (aH _ hj));show bQ H _ (ys.getD i .non);rw [e2];exact rx
  exact (rep pm.toList λi hi=>by rw [<-lys];exact hlt i hi).same sm
end L2
namespace HT
open PySem PySem.Spec PyProof.Rows PySem.W
section
variable{prog:Program}{w:World}{A:Around}{E:Value->Shared->Prop}{s:Shared}{it d:Addr}{es:Array DictEntry}{ep i:Nat}{od:Obj}
end
end HT
namespace L2
open PySem PySem.Spec PySem.W PyProof.Rows HT
section
variable{X:Cx}{tg:Expr}
end
section
variable{X:Cx}{o e:Expr}{apos cpos:Pos}{td ty:TE}
end
end L2
namespace L2
open PySem
theorem WM{X:Cx}(K:PySem.W.Frag)(hK:X.K=K:=by rfl):fO X (.type "tuple") (λxs H Q=>∃p ys,xs=[.ref p]/\((eZ K H p ys/\∀l,H l=none->Q (.ref l) (upd H l (.tup ys)))\/(dO K H p ys/\Q (.ref p) H))):=by
 subst hK;exact cJ
section
variable{js:List Nat}{te:TE}{tc:TT}{σ:St}{H:Hp}{Q:VK}
end
end L2
namespace L2
open PySem PySem.Spec PyProof.Rows
section
variable{X:Cx}{pins:List (Addr × Obj)}{σ:St}{H:Hp}{s:Shared}{scope:Scope}{x x2:Str}{N':List Str}{js:List Nat}{fp:List Addr}
end
section
variable{X:Cx}{pins:List (Addr × Obj)}{σ:St}{H:Hp}{s:Shared}{scope:Scope}{x:Str}{N':List Str}{js:List Nat}{fp:List Addr}{elt iter:Expr}{px pos:Pos}{tg:Expr}{x2:Str}{te:TE}
end
section
variable{X:Cx}{scope:Scope}{x x2 y:Str}{N':List Str}{js:List Nat}{elt iter tg:Expr}{py pos spos:Pos}{te:TE}{wi:TI}{i:Nat}
end
end L2
namespace HT
open PySem PySem.Spec PyProof.Rows
section
variable{prog:Program}{w:World}{A:Around}{E:Value->Shared->Prop}{s:Shared}{d:Addr}{o:Obj}{es:Array DictEntry}{ep:Nat}
end
end HT
namespace L2
open PySem PySem.Spec PySem.W PyProof.Rows HT
theorem tN(c:List Int):(c.map (Sum.inl:Int->eA)).map kV=c.map V.int:=by rw [List.map_map];rfl
abbrev kT(c:List Int):List eA:=c.map Sum.inl
theorem tO{a b:List Int}(h:kT a=kT b):a=b:=by
 have:∀{a b:List Int},kT a=kT b->a=b:=by
  intro a
  induction a with
  | nil=>intro b h;cases b with
   | nil=>rfl
   | cons _ _=>cases h
  | cons x a ih=>intro b h;cases b with
   | nil=>cases h
   | cons y b =>
    injection h with h1 h2;injection h1 with h1;rw [h1,ih h2]
 exact this h
section
variable{X:Cx}{o e f k v:Expr}{apos cpos pos:Pos}{td ty tx tk tv:TE}
@[irreducible] def UJ(p:Addr)(x y:V)(H2:Hp)(Q:VK):Prop:=∃b k,x=.ref b/\H2 b=some (.tup (k.map kV))/\H2 p=some (.dT [])/\Q (.ref p) (upd H2 p (.dT [(k,y)]))
def YY(tk tv:TE):TE:=λσ H Q=>∀p,H p=none->tk σ (upd H p (.dT [])) λx H1=>tv σ H1 λy H2=>UJ p x y H2 Q
theorem aDh{p b:Addr}{y:V}{H:Hp}{Q:VK}{c:List Int}(hb:H b=some (.tup (c.map V.int)))(hp:H p=some (.dT []))(q:∀H',H' p=some (.dT [(kT c,y)])->aS p H H'->Q (.ref p) H'):UJ p (.ref b) y H Q:=by
 unfold UJ;exact ⟨b,kT c,rfl,by rw [tN];exact hb,hp,q _ bE aS.self⟩
theorem MN(hu:X.A.units+1<cLine)(hk:fJ X k tk)(hv:fJ X v tv):fJ X (.Dict [some k] [v] pos) (YY tk tv):=⟨by
 intro pins s σ H Q I q;have hn:=I.hok.fresh (aM s.heap.objs.size);have I1:=I.laid (a:=s.heap.objs.size) (o:=.dT []) (h':=s.heap.push { cls:=.type "dict",data:=.dict #[] }) (t':=s.toks) (λ_ _ q=>aB _ q) (aM _) (sB s.heap I.big);refine wpAny_Dict_any rfl rfl (by simp) (show 1<=15 by decide) (pairTrees_cons_walk (thn (hk.p pins _ σ _ _ I1 (q _ hn)) λu s1 ⟨x,H1,I1,rx,q1⟩=>thn (hv.p pins s1 σ H1 _ I1 q1) λw2 s2 ⟨y,H2,I2,ry,q2⟩=>pairTrees_nil_walk ?_));unfold UJ at q2;obtain ⟨b,kk,rfl,eb,e,q3⟩:=q2;cases (show u=Value.ref b from rx);obtain ⟨z,hd,xs,rel,dd⟩:=IF I2.hok e;unfold storeAll;rw [List.forIn_cons];refine wpAny_bind (wpAny_bind (wpAny_dictSet_heap (show X.A.units<cLine by omega) (nJ I2.hok eb) dd (λh' dd' hs=>wpAny_pure ?_) (by rw [<-Paired.length rel];exact z)));dsimp only;rw [List.forIn_nil];refine wpAny_pure ?_;obtain ⟨q,es,ep,hq,h2,h3,h4,_,h5⟩:=dd';refine ⟨.ref _,_,?_,rfl,q3⟩;have hl:([(kk,y)]:List (List eA × V)).length<=sizeLine:=by show 1<=sizeLine;decide
 refine pW I2 (by rw [e];exact True.intro) hs ⟨q,hq⟩ ⟨hl,hd,_,(rel.put kk eb ry).keeps λc ys ec=>?_,q,es,ep,hq,h2,h3,h4,h5⟩;rw [bP (mE ec e (λz=>nomatch z))];exact ec⟩
theorem SK(hu:X.A.units+1<cLine)(ho:fJ X o td)(he:fJ X e ty)(hf:fJ X f tx)(base:attributeBase o "get" X.env (eval o X.env)=eval o X.env:=by rfl)
  (few:((backTo cpos (starEach [e,f] X.env)).all (λx=>!x.1)&&(backToKw cpos (keywordEach [] X.env)).all (λx=>x.1.isSome)&&decide (([e,f]:List Expr).length+([]:List Keyword).length+(if ([]:List Keyword).isEmpty then 0 else 1)<30))=true:=by rfl)
  (line:(apos.endLine == cpos.line)=true:=by rfl) (trees:backTo cpos (starEach [e,f] X.env)=[(false,eval e X.env),(false,eval f X.env)]:=by rfl):fJ X (.Call (.Attribute o "get" apos) [e,f] [] cpos) (NA td ty tx):=⟨OM hu ho.p he.p hf.p ⟨base,few,line,trees⟩⟩
@[irreducible] def UG(b:Bool):R2:=λx y H Q=>∃a o,y=.ref a/\lE H a x o/\Q (.bl (xor b o.isSome)) H
theorem rind{b:Bool}{x:V}{a:Addr}{o:Option V}{H:Hp}{Q:VK}(g:lE H a x o)(q:Q (.bl (xor b o.isSome)) H):UG b x (.ref a) H Q:=by unfold UG;exact ⟨a,o,rfl,g,q⟩
theorem aAO(hu:X.A.units+1<cLine):nZ X (compareOp .In) (UG false):=by
 intro pins s σ H x y v u Q I rx ry h;unfold UG at h;obtain ⟨a,o,rfl,g,q⟩:=h;cases (show u=Value.ref a from ry);exact aEh hu I g rx λs3 I3=>⟨.bl _,H,I3,rfl,by simpa using q⟩
end
theorem dpT{H:Hp}{p b:Addr}{kvs:List (List eA × V)}{c:List Int}{v:V}{D:uM}{σ:St}(e:H p=some (.dT kvs))(eb:H b=some (.tup (c.map V.int)))(hl:kvs.length<=100000)(q:∀H',H' p=some (.dT (iC kvs (kT c) v))->aS p H H'->D.nx σ H') :
  rDP D σ (.ref p) (.ref b) v H:=by
 unfold rDP;exact ⟨p,_,rfl,BQ.t (k:=kT c) e (by rw [tN];exact eb) (bC hl Dd),q _ bE aS.self⟩
theorem lE.ct{H:Hp}{p b:Addr}{kvs:List (List eA × V)}{c:List Int}(e:H p=some (.dT kvs))(eb:H b=some (.tup (c.map V.int))):lE H p (.ref b) (eJ kvs (kT c)):=lE.t e (by rw [tN];exact eb)
theorem dgT{H:Hp}{p b:Addr}{kvs:List (List eA × V)}{c:List Int}{v:V}{Q:VK}(e:H p=some (.dT kvs))(eb:H b=some (.tup (c.map V.int)))(hv:eJ kvs (kT c)=some v)(q:Q v H):XY (.ref p) (.ref b) H Q:=by
 unfold XY;exact ⟨p,v,rfl,hv ▸ lE.ct e eb,q⟩
theorem aS.tT{H H':Hp}{p:Addr}(s:aS p H H'){xs:List (List eA × V)}(hp:H p=some (.dT xs)):fN H H':=λb ys h=>s.at (mE h hp (by intro z;cases z)) h
theorem cX.ofIdx{K:PySem.W.Frag}{H:Hp}:∀{ds:List PyData}{ys:List V},ys.length=ds.length->(∀(i:Nat) (y:V),ys[i]?=some y->∃d,ds[i]?=some d/\dU K H d y)->cX K H ds ys
 | [],[],_,_=>by unfold cX;rfl
 | d::ds,y::ys,hl,h=>by
  obtain ⟨d',e,r⟩:=h 0 y rfl;cases (show d=d' by simpa using e);unfold cX;exact ⟨y,ys,rfl,r,cX.ofIdx (by simpa using hl) λi z hz=>by simpa using h (i+1) z (by simpa using hz)⟩
 | [],_::_,hl,_=>by simp at hl
 | _::_,[],hl,_=>by simp at hl
theorem dU.pair{K:PySem.W.Frag}{H:Hp}{a:Addr}{x y:V}{d e:PyData}(h:H a=some (.tup [x,y]))(r1:dU K H d x)(r2:dU K H e y):dU K H (.tuple [d,e]) (.ref a):=by
 refine dU.tup (dO.of h) ?_;unfold cX;exact ⟨x,[y],rfl,r1,by unfold cX;exact ⟨y,[],rfl,r2,by unfold cX;rfl⟩⟩
theorem lJ{kvs:List (List eA × V)}{k:List eA}{v:V}(h:(eJ kvs k).isSome=true):(iC kvs k v).map (·.1)=kvs.map (·.1):=by
 unfold iC;rw [jY,if_pos h,List.map_map];refine bZ λp _=>?_;show (if p.1=k then (p.1,v) else p).1=p.1;split <;> rfl
theorem dO.but{K:PySem.W.Frag}{H H':Hp}{a p:Addr}{xs:List V}(s:aS p H H'){kvs:List (List eA × V)}(hp:H p=some (.dT kvs))(h:dO K H a xs):dO K H' a xs:=by
 rcases h with (h | ⟨o,h⟩) | h
 ·exact .inl (.inl (s.at (mE h hp (by intro z;cases z)) h))
 ·exact .inl (.inr ⟨o,s.at (mE h hp (by intro z;cases z)) h⟩)
 ·exact .inr h
end L2
namespace L2
open PySem PySem.Spec PyProof.Rows
structure dR(X:Cx)(scope:Scope)(xs:List Str)(N':List Str)(js:List Nat):Prop where
 calm:X.calm=true
 free:∀y∈scope.names,y.2=.free->X.env.kindOf y.1=some .cell
 cell:∀y∈scope.names,y.2 ≠ .cell
 kind:scope.kind=.function
 names:∀y∈scope.names,y.2=.local->scope.names.lookup y.1=some .local
 own:∀x∈xs,scope.names.lookup x=some .local
 nofl:∀y,(y,NameKind.free)∈scope.names->scope.names.lookup y=some .local->False
 len:N'.length=xs.length+js.length
 pre:∀(i:Nat) x,xs[i]?=some x->N'[i]?=some x
 nd:N'.Nodup
 slot:∀(i:Nat) (j:Nat),js[i]?=some j->∃y,N'[xs.length+i]?=some y/\X.N[j]?=some y/\(y,NameKind.free)∈scope.names
def BC:Nat->Nat->RF
 | _,0=>aBa
 | i,n+1=>PU (rW i) (BC (i+1) n)
def gN(K:PySem.W.Frag)(n:Nat):TG:=aA9 K n (BC 0 n)
theorem qQ{H:Hp}{r:St}{Q:St->Hp->Prop}:∀(vs:List V) (pre os:St),os.length=vs.length->Q (pre++(vs.map some++r)) H->BC pre.length vs.length vs (pre++(os++r)) H Q
 | [],pre,[],_,q=>⟨rfl,q⟩
 | v::vs,pre,o::os,hl,q=>by
  refine ⟨v,vs,rfl,?_⟩;show BC (pre.length+1) vs.length vs ((pre++(o::os++r)).set pre.length (some v)) H Q;have e1:(pre++(o::os++r)).set pre.length (some v)=(pre++[some v])++(os++r):=by
   rw [List.set_append_right _ _ (aM _),Nat.sub_self,List.append_assoc];rfl
  have e2:pre.length+1=(pre++[some v]).length:=by rw [bI];rfl
  rw [e1,e2];refine qQ vs (pre++[some v]) os (by simpa using hl) ?_;rw [List.append_assoc];exact q
@[irreducible] def uX(K:PySem.W.Frag)(n:Nat)(J:It)(σ:St)(js:List Nat)(tc:TT)(te:TE)(H1:Hp)(Q:VK):Prop:=∀D,H1 D=none->∃W:Nat->Nat->List V->Hp->Prop,(∃m,W 0 m [] (upd H1 D (.lst []))) /\
 ∀i m ys H2,W i m ys H2->H2 D=some (.lst ys)/\((J.stop i H2/\Q (.ref D) H2)\/(J.go i H2/\ys.length<sizeLine/\∀x H3,J.yld i H2 x H3->∃a vs,x=.ref a/\dO K H3 a vs/\vs.length=n /\
  oC tc (vs.map some++slots σ js) H3 λb H4=>if b=true then sX te (vs.map some++slots σ js) H4 λy H5=>H5 D=some (.lst ys)/\∃m',m' < m/\W (i+1) m' (ys++[y]) (upd H5 D (.lst (ys++[y])))
   else H4 D=some (.lst ys)/\∃m',m' < m/\W (i+1) m' ys H4))
def qL(K:PySem.W.Frag)(n:Nat)(wi:TI)(js:List Nat)(tc:TT)(te:TE):TE:=λσ H Q=>wi σ H λJ H1=>uX K n J σ js tc te H1 Q
section
variable{X:Cx}{pins:List (Addr × Obj)}{σ:St}{H:Hp}{s:Shared}{scope:Scope}{xs:List Str}{N':List Str}{js:List Nat}{fp:List Addr}
theorem dR.cells(S:dR X scope xs N' js)(ok:X.Ok):∀y∈scope.names,y.2=.free->∃c,X.env.cells.lookup y.1=some c:=λy hy hf=>ok.has _ (.inl (S.free y hy hf))
theorem WF(S:dR X scope xs N' js)(I:bW X pins σ H s)(hf:∀b∈fp,gU X pins H b)(hb:∀b∈fp,b<s.heap.objs.size):(lC X scope s.heap.objs.size fp s H N').Ok where
 mod:=I.ok.mod
 kind:=S.kind
 glob:=I.ok.glob
 blt:=I.ok.blt
 above:=aM _
 inj:=λy z c h1 h2=>I.ok.inj y z c (eL (S.cells I.ok) h1) (eL (S.cells I.ok) h2)
 has:=λy hy=>by
  have hm:(y,NameKind.free)∈scope.names:=by
   rcases hy with hy | hy
   ·exact iB (env:=X.env) hy (.inl rfl) S.cell
   ·exact iB (env:=X.env) hy (.inr rfl) S.cell
  obtain ⟨c,hc⟩:=S.cells I.ok _ hm rfl;exact ⟨c,jD (S.cells I.ok) hm hc⟩
 cab:=λ_ _ h=>by cases h
 hd:=λ_=>I.ok.hd S.calm
 frames:=I.ok.frames
 stk:=.inl rfl
 exf:=λb hb'=>⟨λe=>by have:=hb b hb';rw [e] at this;exact bT _ this,λy c h=>(hf b hb').2.2.2.2.1 y c (eL (S.cells I.ok) h)⟩
 bs:=I.bs
 bsz:=bG I.ok.bsz I.sz
 noex:=λb o e hb'=>by
  rcases (hf b hb').2.2.2.1 with h | h
  ·exact I.ok.noex b o e h
  ·exact absurd (bA (aT e) (bG I.ok.bsz h)) (bT _)
 exfs:=λb hb' hs=>by
  have h2:=I.stkSub b hs;rcases aV.mp h2 with h2 | h2
  ·exact (hf b hb').2.1 h2
  ·exact (hf b hb').2.2.1 h2
 funs:=I.stack
 frf:=I.stkFree
theorem QG{h':Heap}{tk:Nat}(S:dR X scope xs N' js)(I:bW X pins σ H s)(hf:∀b∈fp,gU X pins H b)(hb:∀b∈fp,b<s.heap.objs.size)
  (hn:h'.Ns s.heap.objs.size (λ_=>none)) (hk:∀b o,s.heap.get? b=some o->h'.get? b=some o):bW (lC X scope s.heap.objs.size fp s H N') [] (List.replicate xs.length none++slots σ js) H { s with heap:=h',toks:=tk } where
 ok:=WF S I hf hb
 os:=rfl
 bare:=I.bare
 base:=Un.kept hk
 loc:=by
  refine ⟨_,hn,λi y v hi hv hvis=>?_⟩;by_cases hlt0:i<xs.length
  ·rw [List.getElem?_append_left (by rw [bU];exact hlt0),List.getElem?_replicate,if_pos hlt0] at hv;cases hv
  ·obtain ⟨i,rfl⟩:∃k,i=xs.length+k:=⟨i-xs.length,Oo⟩;rw [List.getElem?_append_right (by rw [bU];omega),bU,Nat.add_sub_cancel_left] at hv;have hv':(slots σ js)[i]?=some (some v):=hv;have hlt:i<js.length:=by
    have:=(aY.mp hv').1;unfold slots at this
    rwa [aA] at this
   have hj:js[i]?=some js[i]:=aD hlt;obtain ⟨z,h1,h2,h3⟩:=S.slot i _ hj;have hzy:z=y:=by
    have:N'[xs.length+i]?=some y:=hi;rw [h1] at this;cases this;rfl
   subst hzy;rw [tF hj] at hv';have hσ:σ[js[i]]?=some (some v):=by
    cases q:σ[js[i]]? with
    | none=>rw [q] at hv';cases hv'
    | some o=>rw [q] at hv';cases hv';rfl
   have hkc:X.env.kindOf z=some .cell:=S.free _ h3 rfl;obtain ⟨m,hm,hl⟩:=I.loc;obtain ⟨u,ru,lk⟩:=hl _ z v h2 hσ (.inr (.inl hkc));rcases lk with ⟨hk1,_⟩ | ⟨_,c,hc,hcell⟩
   ·rw [hkc] at hk1;cases hk1
   ·refine ⟨u,ru,.inr ⟨?_,c,jD (S.cells I.ok) h3 hc,?_⟩⟩
    ·rcases hvis with hvis | hvis | hvis
     ·exfalso;have hcl:=jD (S.cells I.ok) h3 hc;have hm2:=lA (l:=(relabel scope X.env).names) hvis;unfold relabel at hm2;obtain ⟨⟨n,k⟩,hmem,he⟩:=aK.mp hm2;dsimp only at he;by_cases hq:(k == NameKind.free&&X.env.scope.kind == .function&&X.env.kindOf n == some .cell)=true
      ·rw [if_pos hq] at he;cases he
      ·rw [if_neg hq] at he;cases he;have:=S.names _ hmem rfl;have l2:=kZ h3;obtain ⟨c',l2⟩:=l2;dsimp only at this;rw [this] at l2;have key:(relabel scope X.env).names.lookup z=some .local:=lookup_relabel_local this;have hck:scope.names.lookup z=some .local:=this;exact S.nofl z h3 hck
     ·exact .inl hvis
     ·exact .inr hvis
    ·obtain ⟨o,e,r⟩:=hcell;exact ⟨o,hk _ _ e,r⟩
 cell:=λy c h=>by
  obtain ⟨v,o,e,r⟩:=I.cell y c (eL (S.cells I.ok) h);exact ⟨v,o,hk _ _ e,r⟩
 free:=I.hok.fresh (aM _)
 freeC:=λy c h=>I.freeC y c (eL (S.cells I.ok) h)
 pin:=λp hp=>by cases hp
 hok:=I.hok.kept hk
 len:=by
  rw [bI,bU];unfold slots;rw [aA];exact S.len.symm
theorem zI{H2:Hp}{σ':St}{s2:Shared}{h'':Heap}(S:dR X scope xs N' js)(I:bW X pins σ H s)(hf:∀b∈fp,gU X pins H b)
  (J:bW (lC X scope s.heap.objs.size fp s H N') [] σ' H2 s2) (hs:Heap.SameBut s.heap.objs.size s2.heap h''):bW X pins σ H2 { s2 with heap:=h'' }:=by
 have hC:H2 s.heap.objs.size=none:=J.free;have ne:∀{b:Addr} {o:Obj},s.heap.get? b=some o->b≠s.heap.objs.size:=λe q=>by
  have:=aT e;rw [q] at this;exact bT _ this
 refine I.call' (s':={ s2 with heap:=h'' }) (ch:=fp) (by rw [show ({ s2 with heap:=h'' }:Shared).os=s2.os from rfl];exact J.os) ?_ (J.hok.but hC λb u hb q=>hs.extBut b u hb q) J.bare λb hb=>⟨(hf b hb).2.2.2.1,(hf b hb).2.1,(hf b hb).2.2.2.2.1,(hf b hb).2.2.2.2.2⟩;have U:=J.base;exact {
  keep:=λb o e n h1 h2=>hs.extBut b o (ne e) (U.keep b o e n h1 h2)
  slot:=λb o e n h1 h2=>by
   obtain ⟨sl,q⟩:=U.slot b o e n h1 h2;exact ⟨sl,hs.extBut b _ (ne e) q⟩
  free:=U.free
  there:=λb o e h2=>by
   obtain ⟨o',q⟩:=U.there b o e h2;exact ⟨o',hs.extBut b _ (ne e) q⟩
  tups:=U.tups
  frzs:=U.frzs
  tbls:=U.tbls }
end
section
variable{X:Cx}{pins:List (Addr × Obj)}{σ:St}{H:Hp}{s:Shared}{scope:Scope}{xs:List Str}{N':List Str}{js:List Nat}{fp:List Addr}{elt iter:Expr}{px pos:Pos}{tg:Expr}{ifs:List Expr}{tc:TT}{te:TE}
theorem uW{J:It}{it:Addr}{tn:Nat->Heap->Prop}{RR:Value->Addr->Result->Shared->Prop}{E:Value->Shared->Prop}{Q:VK}
  (S:dR X scope xs N' js) (I:bW X pins σ H s) (T:EI X.prog X.w X.K tg J fp it tn) (h0:tn 0 s.heap) (hf:∀b∈fp,gU X pins H b)
  (hg:∀C fp s₀ H₀,PG (lC X scope C fp s₀ H₀ N') tg (gN X.K xs.length)) (ht:∀C fp s₀ H₀,LX (lC X scope C fp s₀ H₀ N') ifs tc) (he:∀C fp s₀ H₀,PE (lC X scope C fp s₀ H₀ N') elt te)
  (R:∀D,H D=none->∃W:Nat->Nat->List V->Hp->Prop,(∃m,W 0 m [] (upd H D (.lst []))) /\
   ∀i m ys H2,W i m ys H2->H2 D=some (.lst ys)/\((J.stop i H2/\Q (.ref D) H2)\/(J.go i H2/\ys.length<sizeLine/\∀x H3,J.yld i H2 x H3->∃a vs,x=.ref a/\dO X.K H3 a vs/\vs.length=xs.length /\
    tc (vs.map some++slots σ js) H3 λb H4=>if b=true then te (vs.map some++slots σ js) H4 λy H5=>H5 D=some (.lst ys)/\∃m',m' < m/\W (i+1) m' (ys++[y]) (upd H5 D (.lst (ys++[y])))
     else H4 D=some (.lst ys)/\∃m',m' < m/\W (i+1) m' ys H4)))
  (hRR:∀(D:Addr) (H3:Hp) (s3:Shared) (σ':St) (H':Hp) (s':Shared),bW X pins σ H3 s3->(∀b∈fp,gU X pins H3 b)->bW (lC X scope s3.heap.objs.size fp s3 H3 N') [] σ' H' s'->Q (.ref D) H'->RR (.ref D) s3.heap.objs.size (.ok .next) s') :
  wpAny (model X.prog X.w) X.A (newList []) (λacc s₃=>wpAny (model X.prog X.w) X.A (newFunctionEnv scope X.env.globals (vA X scope) [] X.env.qual none .none (some X.env)) (λcenv s₄ =>
   codeAny (model X.prog X.w) X.A (.compStart (.ListComp elt [⟨tg,iter,ifs,0⟩] scope pos) 0 (.ref it) acc { cenv with scope:=relabel scope X.env }) (RR acc cenv.locals) s₄) E s₃) E s:=by
 have hb:∀b∈fp,b<s.heap.objs.size:=λb hb=>by
  obtain ⟨o,e,_⟩:=T.obj 0 _ h0 b hb;exact aT e
 refine wpAny_newObj_type (wpAny_newFunctionEnv S.cell (by intro y hy;simp at hy) (λh₁ hns₁ hsb₁=>?_) S.kind);have hDn:H s.heap.objs.size=none:=I.hok.fresh (aM _);obtain ⟨W,⟨m0,hw0⟩,hW⟩:=R _ hDn;have I3:bW X pins σ (upd H s.heap.objs.size (.lst [])) { s with heap:=s.heap.push { cls:=.type "list",dict:=none,data:=.seq ([]:List Value).toArray } }:=I.lnew (its:=[]) (ys:=[]) (t':=s.toks) .nil (cK _);have hf3:∀b∈fp,gU X pins (upd H s.heap.objs.size (.lst [])) b:=λb hb' =>
  ⟨by rw [bP (λe=>by have:=hb b hb';rw [e] at this;exact bT _ this)];exact (hf b hb').1,(hf b hb').2⟩
 have hb3:∀b∈fp,b<(s.heap.push { cls:=.type "list",dict:=none,data:=.seq ([]:List Value).toArray }).objs.size:=λb hb'=>by
  rw [eC];exact Nat.lt_succ_of_lt (hb b hb')
 have hkeep:∀b o,(s.heap.push { cls:=.type "list",dict:=none,data:=.seq ([]:List Value).toArray }).get? b=some o->h₁.get? b=some o:=λb o e =>
  hsb₁.extBut b o (λq=>by have:=aT e;rw [q] at this;exact bT _ this) (aB _ e)
 have J4:=QG (h':=h₁) (tk:=s.toks+([]:List (Str × Value)).length) S I3 hf3 hb3 hns₁ hkeep;have t4:tn 0 h₁:=T.keep 0 _ _ h0 λb hb' o e=>hkeep b o (aB _ e);have loop:codeAny (model X.prog X.w) X.A (.compLoop (.ListComp elt [⟨tg,iter,ifs,0⟩] scope pos) 0 (.ref it) (.ref s.heap.objs.size) (compEnvC scope (vA X scope) (s.heap.push { cls:=.type "list",dict:=none,data:=.seq ([]:List Value).toArray }).objs.size X.env))
   (RR (.ref s.heap.objs.size) (s.heap.push { cls:=.type "list",dict:=none,data:=.seq ([]:List Value).toArray }).objs.size) { s with heap:=h₁,toks:=s.toks+([]:List (Str × Value)).length }:=by
  refine nS (λn s'=>∃(i:Nat) (ys:List V) (H2:Hp) (os:St),os.length=xs.length/\bW (lC X scope _ fp _ _ N') [] (os++slots σ js) H2 s'/\tn i s'.heap/\(∀b∈fp,H2 b=none)/\W i n ys H2) ?_ m0 ⟨0,[],_,_,bU,J4,t4,λb hb'=>(hf3 b hb').1,hw0⟩;rintro n s' ⟨i,ys,H2,os,hos,J2,t2,f2,w2⟩;obtain ⟨hD,hcase⟩:=hW i n ys H2 w2;have Fp:∀b∈fp,gU (lC X scope (s.heap.push { cls:=.type "list",dict:=none,data:=.seq ([]:List Value).toArray }).objs.size fp { s with heap:=s.heap.push { cls:=.type "list",dict:=none,data:=.seq ([]:List Value).toArray } } (upd H s.heap.objs.size (.lst [])) N') [] H2 b:=λb hb' =>
   ⟨f2 b hb',(J2.ok.exf b hb').1,J2.ok.exfs b hb',.inl hb',(J2.ok.exf b hb').2,λp hp=>by cases hp⟩
  rcases hcase with ⟨hstop,hq⟩ | ⟨hgo,hz,hturn⟩
  ·refine wpAny_mono (T.done (lC X scope _ fp _ _ N') rfl rfl rfl rfl i [] s' _ H2 MA J2 Fp t2 hstop) (λr s1 ⟨hr,J5⟩=>?_) λ_ _ f=>f;subst hr;exact hRR _ _ _ _ _ _ I3 hf3 J5 hq
  ·refine wpAny_mono (T.item (lC X scope _ fp _ _ N') rfl rfl rfl rfl i [] s' _ H2 MA J2 Fp t2 hgo) (λr s1 ⟨u,hr,hx⟩=>?_) λ_ _ f=>f;subst hr;refine wpAny_mono hx (λ_ s2 ⟨v,H3,J3,rv,hy,t3,f3⟩=>?_) λ_ _ f=>f;have Fp3:∀b∈fp,gU (lC X scope (s.heap.push { cls:=.type "list",dict:=none,data:=.seq ([]:List Value).toArray }).objs.size fp { s with heap:=s.heap.push { cls:=.type "list",dict:=none,data:=.seq ([]:List Value).toArray } } (upd H s.heap.objs.size (.lst [])) N') [] H3 b:=λb hb' =>
    ⟨f3 b hb',(J3.ok.exf b hb').1,J3.ok.exfs b hb',.inl hb',(J3.ok.exf b hb').2,λp hp=>by cases hp⟩
   have P3:=J3.pinned Fp3 (T.obj (i+1) _ t3);have keepT:∀{σ':St} {Hx:Hp} {sx:Shared},bW (lC X scope (s.heap.push { cls:=.type "list",dict:=none,data:=.seq ([]:List Value).toArray }).objs.size fp { s with heap:=s.heap.push { cls:=.type "list",dict:=none,data:=.seq ([]:List Value).toArray } } (upd H s.heap.objs.size (.lst [])) N') ([]++qN fp s2.heap) σ' Hx sx->tn (i+1) sx.heap/\∀b∈fp,Hx b=none:=λJx =>
    ⟨T.keep (i+1) _ _ t3 λb hb' ob e=>(Jx.pin (b,ob) (aL _ (aL _ (gQ hb' e)))).1,λb hb'=>by
     obtain ⟨ob,e,_⟩:=T.obj (i+1) _ t3 b hb';exact (Jx.pin (b,ob) (aL _ (aL _ (gQ hb' e)))).2.1⟩
   obtain ⟨a,vs,ev,hq,hl,qe⟩:=hturn v H3 hy;subst ev;refine wpAny_mono (hg _ _ _ _ _ _ (os++slots σ js) H3 (.ref a) u (λσ' H'=>σ'=vs.map some++slots σ js/\H'=H3) P3 rv ⟨a,vs,rfl,hq,hl,?_⟩) (λ_ s5 ⟨σ5,H5,J5,e5,e6⟩=>?_) λ_ _ f=>f
   ·have:=qQ (H:=H3) (r:=slots σ js) (Q:=λσ' H'=>σ'=vs.map some++slots σ js/\H'=H3) vs [] os (by rw [hos,hl]) ⟨rfl,rfl⟩;rw [hl] at this;exact this
   subst e5 e6;refine wpAny_mono (ht _ _ _ _ _ _ _ _ _ J5 qe) (λok s6 ⟨H6,J6,q6⟩=>?_) λ_ _ f=>f;dsimp only at q6;by_cases hok:ok=true
   ·rw [if_pos hok] at q6 ⊢;refine wpAny_mono (he _ _ _ _ _ _ _ _ _ J6 q6) (λy s7 ⟨w',H7,J7,r7,hD7,m',hm',w7⟩=>?_) λ_ _ f=>f;refine wpAny_mono (pU (X:=lC X scope _ fp _ _ N') _ _ _ _ (.ref s.heap.objs.size) [w'] (.ref s.heap.objs.size) [y] (λ_ H8=>H8=upd H7 s.heap.objs.size (.lst (ys++[w']))) J7 rfl (.cons r7 .nil) ⟨_,_,_,rfl,rfl,hD7,hz,rfl⟩) (λ_ s8 ⟨_,H8,J8,_,e8⟩=>?_) λ_ _ f=>f;subst e8;obtain ⟨k1,k2⟩:=keepT J8;exact ⟨m',hm',i+1,ys++[w'],_,vs.map some,by rw [aA,hl],J8.unpinned,k1,k2,w7⟩
   ·rw [if_neg hok] at q6 ⊢;obtain ⟨_,m',hm',w7⟩:=q6;obtain ⟨k1,k2⟩:=keepT J6;exact ⟨m',hm',i+1,ys,_,vs.map some,by rw [aA,hl],J6.unpinned,k1,k2,w7⟩
 refine codeAny_compStart_list loop (T.self X.A 0 _ _ _ t4 loop)
theorem CQ{wi:TI}(S:dR X scope xs N' js)(hi:PI X tg iter wi)(hg:∀C fp s₀ H₀,PG (lC X scope C fp s₀ H₀ N') tg (gN X.K xs.length))(ht:∀C fp s₀ H₀,LX (lC X scope C fp s₀ H₀ N') ifs tc)(he:∀C fp s₀ H₀,PE (lC X scope C fp s₀ H₀ N') elt te)
  (hs:∀x,foldedSetIterable iter X.env x=pure x:=by intro _;rfl):PE X (.ListComp elt [⟨tg,iter,ifs,0⟩] scope pos) (qL X.K xs.length wi js tc te):=by
 intro pins s σ H Q I h;rw [eval_ListComp];refine wpAny_comprehension_free (use:=none) rfl hs (jW (S.cells I.ok)) S.kind S.names (wpAny_mono (hi pins s σ H _ I h) (λv s1 h1=>?_) λ_ _ e=>e);refine wpAny_mono h1 (λitv s2 ⟨it,fp,tn,J,H2,e,I2,T,t0,hf,R⟩=>?_) λ_ _ e=>e;subst e;refine uW (te:=sX te) (tc:=oC tc) S I2 T t0 hf hg (λC fp s₀ H₀=>(ht C fp s₀ H₀).mono) (λC fp s₀ H₀=>(he C fp s₀ H₀).mono) (by unfold uX at R;exact R) ?_;intro D H3 s3 σ' H' s' I3 hf3 J3 q;obtain ⟨m,hm,_⟩:=J3.loc;exact ⟨m,hm,λh' hs'=>⟨.ref D,H',zI S I3 hf3 J3 hs',rfl,q⟩⟩
theorem CP{wi:TI}{y:Str}{py spos:Pos}{i:Nat}(S:dR X scope xs N' js)(hN:X.N.Nodup)(hiN:X.N[i]?=some y)(hy:X.env.kindOf y=some .local)(hi:PI X tg iter wi)(hg:∀C fp s₀ H₀,PG (lC X scope C fp s₀ H₀ N') tg (gN X.K xs.length))(ht:∀C fp s₀ H₀,LX (lC X scope C fp s₀ H₀ N') ifs tc)(he:∀C fp s₀ H₀,PE (lC X scope C fp s₀ H₀ N') elt te)
  (hsw:swapsWith (.ListComp elt [⟨tg,iter,ifs,0⟩] scope pos) (some (.Name y py)) spos.line X.env=pure true) (hs:∀x,foldedSetIterable iter X.env x=pure x:=by intro _;rfl) :
  PS X (.Assign [.Name y py] (.ListComp elt [⟨tg,iter,ifs,0⟩] scope pos) spos) (JF (qL X.K xs.length wi js tc te) (rW i)):=by
 intro pins s σ H D0 I h;rw [exec_Assign_Name_used _ _ _ _ hsw];refine wpAny_bind (wpAny_standAt (wpAny_bind ?_));show wpAny _ X.A (do let _ <-comprehension (.ListComp elt [⟨tg,iter,ifs,0⟩] scope pos) scope X.env _ (newList []) false (eval iter X.env) (some (assign (.Name y py) X.env))) _ _ s;refine wpAny_bind (wpAny_mono (wpAny_comprehension_free (use:=some (assign (.Name y py) X.env)) (Q:=λ_ s'=>SP X pins D0 .next s') rfl hs (jW (S.cells I.ok)) S.kind S.names (wpAny_mono (hi pins s σ H _ I h) (λv s1 h1=>?_) λ_ _ e=>e)) (λ_ s' hq=>wpAny_pure (wpAny_pure hq)) λ_ _ e=>e);refine wpAny_mono h1 (λitv s2 ⟨it,fp,tn,J,H2,e,I2,T,t0,hf,R⟩=>?_) λ_ _ e=>e;subst e;refine uW (te:=sX te) (tc:=oC tc) (Q:=λv H'=>rW i v σ H' D0.nx) S I2 T t0 hf hg (λC fp s₀ H₀=>(ht C fp s₀ H₀).mono) (λC fp s₀ H₀=>(he C fp s₀ H₀).mono) (by unfold uX at R;exact R) ?_;intro D H3 s3 σ' H' s' I3 hf3 J3 q;obtain ⟨m,hm,_⟩:=J3.loc;have IX:bW X pins σ H' s':=zI S I3 hf3 J3 (Heap.SameBut.refl ..);have hCL:s3.heap.objs.size≠X.env.locals:=λe=>by have:=I3.lt;rw [e] at this;exact bT _ this
 show wpAny _ X.A (assign (.Name y py) X.env (.ref D)) _ _ _;refine wpAny_assign_Name (yE IX hN hiN (.inl hy) (v:=.ref D) rfl (λs5 I5 hsb=>?_) (.inr hy));obtain ⟨a,hsb,ha⟩:=hsb;have hCa:s3.heap.objs.size≠a:=by
  rcases ha with rfl | ha
  ·exact hCL
  ·intro e;obtain ⟨v,o,eo,_⟩:=I3.cell y a ha;have:=aT eo;rw [<-e] at this;exact bT _ this
 refine ⟨m,hm.sameBut hsb hCa,λh' hs'=>⟨_,H',?_,q⟩⟩;exact I5.turned (it:=s3.heap.objs.size) (t':=s5.toks) (λb o n e=>hs'.extBut b o n e) J3.free hCL (.inr I3.sz)
  (λz c hz e=>by
   obtain ⟨v,o,eo,_⟩:=I3.cell z c hz;have:=aT eo;rw [e] at this;exact bT _ this)
  (λp hp e=>by
   have:=aT (I3.pin p hp).1;rw [e] at this;exact bT _ this)
end
section
variable{X:Cx}{scope:Scope}{x1 x2 x3 y:Str}{N':List Str}{js:List Nat}{elt iter tg:Expr}{ifs:List Expr}{py pos spos:Pos}{tc:TT}{te:TE}{wi:TI}{i:Nat}
theorem BS{xs:List Str}{k:Nat}{x:Str}{p:Pos}(S:dR X scope xs N' js)(h:xs[k]?=some x)(C:Addr)(fp:List Addr)(s₀:Shared)(H₀:Hp):RV (lC X scope C fp s₀ H₀ N') (.Name x p) (rW k) :=
 have l:=S.own x (bD h)
 dP S.nd (S.pre k x h) (.inl (lookup_relabel_local l)) (.inr (lookup_relabel_local l))
theorem MJ{p1 p2 pt:Pos}{kk:Nat}(S:dR X scope [x1,x2] N' js)(C:Addr)(fp:List Addr)(s₀:Shared)(H₀:Hp):RV (lC X scope C fp s₀ H₀ N') (.Tuple [.Name x1 p1,.Name x2 p2] kk pt) (gN X.K 2) :=
 qK rfl (eR (BS S rfl C fp s₀ H₀) (eR (BS S rfl C fp s₀ H₀) mR))
theorem MK{p1 p2 p3 pt:Pos}{kk:Nat}(S:dR X scope [x1,x2,x3] N' js)(C:Addr)(fp:List Addr)(s₀:Shared)(H₀:Hp):RV (lC X scope C fp s₀ H₀ N') (.Tuple [.Name x1 p1,.Name x2 p2,.Name x3 p3] kk pt) (gN X.K 3) :=
 qK rfl (eR (BS S rfl C fp s₀ H₀) (eR (BS S rfl C fp s₀ H₀) (eR (BS S rfl C fp s₀ H₀) mR)))
theorem pE{p1 p2 pt:Pos}{kk:Nat}(S:dR X scope [x1,x2] N' js)(hi:IU X (.Tuple [.Name x1 p1,.Name x2 p2] kk pt) iter wi)(ht:∀C fp s₀ H₀,GN (lC X scope C fp s₀ H₀ N') ifs tc)(he:∀C fp s₀ H₀,fJ (lC X scope C fp s₀ H₀ N') elt te)
  (hs:∀x,foldedSetIterable iter X.env x=pure x:=by intro _;rfl):fJ X (.ListComp elt [⟨.Tuple [.Name x1 p1,.Name x2 p2] kk pt,iter,ifs,0⟩] scope pos) (qL X.K 2 wi js tc te) :=
 ⟨CQ S hi.p (λC fp s₀ H₀=>(MJ S C fp s₀ H₀).p) (λC fp s₀ H₀=>(ht C fp s₀ H₀).p) (λC fp s₀ H₀=>(he C fp s₀ H₀).p) hs⟩
theorem sV{p1 p2 p3 pt:Pos}{kk:Nat}(S:dR X scope [x1,x2,x3] N' js)(hi:IU X (.Tuple [.Name x1 p1,.Name x2 p2,.Name x3 p3] kk pt) iter wi)(ht:∀C fp s₀ H₀,GN (lC X scope C fp s₀ H₀ N') ifs tc)(he:∀C fp s₀ H₀,fJ (lC X scope C fp s₀ H₀ N') elt te)
  (hs:∀x,foldedSetIterable iter X.env x=pure x:=by intro _;rfl):fJ X (.ListComp elt [⟨.Tuple [.Name x1 p1,.Name x2 p2,.Name x3 p3] kk pt,iter,ifs,0⟩] scope pos) (qL X.K 3 wi js tc te) :=
 ⟨CQ S hi.p (λC fp s₀ H₀=>(MK S C fp s₀ H₀).p) (λC fp s₀ H₀=>(ht C fp s₀ H₀).p) (λC fp s₀ H₀=>(he C fp s₀ H₀).p) hs⟩
theorem zX{p1 p2 pt:Pos}{kk:Nat}(S:dR X scope [x1,x2] N' js)(hN:X.N.Nodup)(hiN:X.N[i]?=some y)(hy:X.env.kindOf y=some .local)(hi:IU X (.Tuple [.Name x1 p1,.Name x2 p2] kk pt) iter wi)(ht:∀C fp s₀ H₀,GN (lC X scope C fp s₀ H₀ N') ifs tc)(he:∀C fp s₀ H₀,fJ (lC X scope C fp s₀ H₀ N') elt te)
  (hsw:swapsWith (.ListComp elt [⟨.Tuple [.Name x1 p1,.Name x2 p2] kk pt,iter,ifs,0⟩] scope pos) (some (.Name y py)) spos.line X.env=pure true:=by rfl) (hs:∀x,foldedSetIterable iter X.env x=pure x:=by intro _;rfl) :
  GO X (.Assign [.Name y py] (.ListComp elt [⟨.Tuple [.Name x1 p1,.Name x2 p2] kk pt,iter,ifs,0⟩] scope pos) spos) (JF (qL X.K 2 wi js tc te) (rW i)) :=
 ⟨CP S hN hiN hy hi.p (λC fp s₀ H₀=>(MJ S C fp s₀ H₀).p) (λC fp s₀ H₀=>(ht C fp s₀ H₀).p) (λC fp s₀ H₀=>(he C fp s₀ H₀).p) hsw hs⟩
end
def QI(psc scope:Scope)(N:List Str)(xs N':List Str)(js:List Nat):Bool :=
 (scope.names.all λy=>!(y.2 == .free) || psc.names.lookup y.1 == some .cell)&&(scope.names.all λy=>!(y.2 == .cell))&&scope.kind == .function &&
 (scope.names.all λy=>!(y.2 == .local) || scope.names.lookup y.1 == some .local)&&(xs.all λx=>scope.names.lookup x == some .local) &&
 (scope.names.all λy=>!(y.2 == .free) || !(scope.names.lookup y.1 == some .local))&&N'.length == xs.length+js.length&&N'.take xs.length == xs&&decide N'.Nodup &&
 ((List.range js.length).all λi=>match js[i]?,N'[xs.length+i]? with
  | some j,some y=>N[j]? == some y&&scope.names.contains (y,NameKind.free)
  | _,_=>false)
theorem dR.of{X:Cx}{psc scope:Scope}{N:List Str}{xs N':List Str}{js:List Nat}(h:QI psc scope N xs N' js=true)(hX:X.env.scope=psc)(hN:X.N=N)(hc:X.calm=true):dR X scope xs N' js:=by
 unfold QI at h;simp only [cL] at h;obtain ⟨⟨⟨⟨⟨⟨⟨⟨⟨h1,h2⟩,h3⟩,h4⟩,h5⟩,h6⟩,h7⟩,h8⟩,h9⟩,h10⟩:=h;rw [List.all_eq_true] at h1 h2 h4 h5 h6 h10;refine ⟨hc,λy hy e=>?_,λy hy e=>?_,by simpa using h3,λy hy e=>?_,λx hx=>by simpa using h5 x hx,λy hy e=>?_,by simpa using h7,λi x hx=>?_,of_decide_eq_true h9,λi j hj=>?_⟩
 ·have:=h1 y hy;rw [e] at this;show X.env.scope.names.lookup y.1=_;rw [hX];simpa using this
 ·have:=h2 y hy;rw [e] at this;simp at this
 ·have:=h4 y hy;rw [e] at this;simpa using this
 ·have:=h6 _ hy;rw [e] at this;simp at this
 ·have e8:N'.take xs.length=xs:=by simpa using h8
  have hi:i<xs.length:=(aY.mp hx).1;rw [<-hx]
  conv=>rhs;rw [<-e8]
  rw [List.getElem?_take,if_pos hi]
 ·have hi:i<js.length:=(aY.mp hj).1;have:=h10 i (bX.mpr hi);rw [hj] at this;cases q:N'[xs.length+i]? with
  | none=>rw [q] at this;simp at this
  | some y =>
   rw [q] at this;simp only [cL] at this;exact ⟨y,rfl,by rw [hN];simpa using this.1,List.contains_iff_mem.mp this.2⟩
theorem eG{α β:Type}{R:α->β->Prop}:∀{l:List α}{m:List β}{i:Nat}{b:β},Paired R l m->m[i]?=some b->∃a,l[i]?=some a/\R a b
 | _,_,_,_,.nil,h=>by simp at h
 | _,_,0,b,.cons h t,e=>⟨_,rfl,by cases (show _=b by simpa using e);exact h⟩
 | _,_,i+1,b,.cons h t,e=>by
  obtain ⟨a,h1,h2⟩:=eG t (i:=i) (by simpa using e);exact ⟨a,by simpa using h1,h2⟩
section
variable{js:List Nat}{te:TE}{tc:TT}{σ:St}{H:Hp}{Q:VK}
theorem zJ{K:PySem.W.Frag}{n:Nat}{J:It}{α:Type}{as:List α}(p:α->Bool)(Src:α->V->Prop)(R:α->V->Hp->Prop)(hR:∀c y H1 H2,fN H1 H2->R c y H1->R c y H2)(hz:as.length<=100000)
  (hg:∀i H',aW H H'->i<as.length->J.go i H'/\∀x H3,J.yld i H' x H3->H3=H'/\∃c,as[i]?=some c/\Src c x) (hst:∀H',aW H H'->J.stop as.length H')
  (hs:∀x c H',c∈as->Src c x->aW H H'->∃a vs,x=.ref a/\dO K H' a vs/\vs.length=n/\(∀Q':Bool->Hp->Prop,(∀H5,aW H' H5->Q' (p c) H5)->tc (vs.map some++slots σ js) H' Q') /\
   ∀H5 (Q':VK),aW H' H5->p c=true->(∀y H6,aW H5 H6->R c y H6->Q' y H6)->te (vs.map some++slots σ js) H5 Q')
  (hd:∀D ys H',H D=none->H' D=some (.lst ys)->aW H H'->Paired (λc y=>R c y H') (as.filter p) ys->Q (.ref D) H'):uX K n J σ js tc te H Q:=by
 unfold uX;intro D hD;have mono:∀{H1 H2:Hp} {l:List α} {ys:List V},fN H1 H2->Paired (λc y=>R c y H1) l ys->Paired (λc y=>R c y H2) l ys:=by
  intro H1 H2 l ys s h
  induction h with
  | nil=>exact .nil
  | cons h t ih=>exact .cons (hR _ _ _ _ s h) ih
 have snoc:∀{H1:Hp} {l:List α} {ys:List V} {c:α} {y:V},Paired (λc y=>R c y H1) l ys->R c y H1->Paired (λc y=>R c y H1) (l++[c]) (ys++[y]):=by
  intro H1 l ys c y h r
  induction h with
  | nil=>exact .cons r .nil
  | cons h t ih=>exact .cons h ih
 refine ⟨λi m ys H'=>m=as.length-i/\i<=as.length/\H' D=some (.lst ys)/\aW H H'/\ys.length<=i/\Paired (λc y=>R c y H') ((as.take i).filter p) ys,⟨as.length,by simp,cK _,bE,aW.upd hD,aM _,.nil⟩,?_⟩;rintro i m ys H2 ⟨rfl,hi,hD2,s2,hy,pr⟩;refine ⟨hD2,?_⟩;by_cases hlt:i<as.length
 ·obtain ⟨hgo,hyl⟩:=hg i H2 s2 hlt;refine .inr ⟨hgo,bC (m:=100000) Oo Dd,λx H3 hy3=>?_⟩;obtain ⟨rfl,c,hc,rc⟩:=hyl x H3 hy3;have hti:as.take (i+1)=as.take i++[c]:=by rw [eQ,hc];rfl
  obtain ⟨a,vs,e,hq,hl,ht,he⟩:=hs x c H3 (bD hc) rc s2;refine ⟨a,vs,e,hq,hl,λb H4=>b=p c/\aW H3 H4,ht _ λH5 s5=>⟨rfl,s5⟩,?_⟩;rintro b H4 ⟨rfl,s4⟩;by_cases hp:p c=true
  ·rw [if_pos hp];refine ⟨λy H5=>aW H4 H5/\R c y H5,he H4 _ s4 hp λy H6 s6 r=>⟨s6,r⟩,?_⟩;rintro y H5 ⟨s5,r⟩;have e5:=s5 _ _ (s4 _ _ hD2);refine ⟨e5,_,?_,rfl,hlt,bE,aW.thru hD ((s2.trans s4).trans s5) aS.self,?_,?_⟩
   ·omega
   ·rw [bI,List.length_singleton];omega
   ·rw [hti,List.filter_append,show List.filter p [c]=[c] by simp [hp]];have t6:fN H5 (upd H5 D (.lst (ys++[y]))):=aS.t aS.self e5;exact mono t6 (snoc (mono (s4.trans s5).t pr) r)
  ·rw [if_neg hp];refine ⟨s4 _ _ hD2,_,?_,rfl,hlt,s4 _ _ hD2,s2.trans s4,Oo,?_⟩
   ·omega
   ·rw [hti,List.filter_append,show List.filter p [c]=[] by simp [hp],List.append_nil];exact mono s4.t pr
 ·have e:i=as.length:=Oo;subst e;refine .inl ⟨hst H2 s2,hd D ys H2 hD hD2 s2 ?_⟩;rw [hV] at pr;exact pr
theorem pX{K:PySem.W.Frag}{n:Nat}{a0:Addr}{xs:List V}{α:Type}{as:List α}(p:α->Bool)(Src:α->V->Prop)(R:α->V->Hp->Prop)(hR:∀c y H1 H2,fN H1 H2->R c y H1->R c y H2)(hz:as.length<=100000)(ha:H a0=some (.tup xs))(pr:Paired Src as xs)
  (hs:∀x c H',c∈as->Src c x->aW H H'->∃a vs,x=.ref a/\dO K H' a vs/\vs.length=n/\(∀Q':Bool->Hp->Prop,(∀H5,aW H' H5->Q' (p c) H5)->tc (vs.map some++slots σ js) H' Q') /\
   ∀H5 (Q':VK),aW H' H5->p c=true->(∀y H6,aW H5 H6->R c y H6->Q' y H6)->te (vs.map some++slots σ js) H5 Q')
  (hd:∀D ys H',H D=none->H' D=some (.lst ys)->aW H H'->Paired (λc y=>R c y H') (as.filter p) ys->Q (.ref D) H'):uX K n (Itt K a0) σ js tc te H Q:=by
 have hl:xs.length=as.length:=pr.length.symm;refine zJ p Src R hR hz (λi H' s hi=>⟨⟨xs,xs[i]'Oo,dO.of (s _ _ ha),by simp⟩,λx H3 y=>⟨y.1,?_⟩⟩) (λH' s=>⟨xs,dO.of (s _ _ ha),Oo⟩) hs hd;have hx:=y.2 xs (dO.of (s _ _ ha));obtain ⟨c,h1,h2⟩:=eG pr hx;exact ⟨c,h1,h2⟩
theorem mK{K:PySem.W.Frag}{n:Nat}{a0:Addr}{xs:List V}{α:Type}{as:List α}(p:α->Bool)(Src:α->V->Prop)(R:α->V->Hp->Prop)(hR:∀c y H1 H2,fN H1 H2->R c y H1->R c y H2)(hz:as.length<=100000)(ha:H a0=some (.lst xs))(pr:Paired Src as xs)
  (hs:∀x c H',c∈as->Src c x->aW H H'->∃a vs,x=.ref a/\dO K H' a vs/\vs.length=n/\(∀Q':Bool->Hp->Prop,(∀H5,aW H' H5->Q' (p c) H5)->tc (vs.map some++slots σ js) H' Q') /\
   ∀H5 (Q':VK),aW H' H5->p c=true->(∀y H6,aW H5 H6->R c y H6->Q' y H6)->te (vs.map some++slots σ js) H5 Q')
  (hd:∀D ys H',H D=none->H' D=some (.lst ys)->aW H H'->Paired (λc y=>R c y H') (as.filter p) ys->Q (.ref D) H'):uX K n (YQ K a0) σ js tc te H Q:=by
 have hl:xs.length=as.length:=pr.length.symm;refine zJ p Src R hR hz (λi H' s hi=>⟨⟨xs,xs[i]'Oo,eZ.of (s _ _ ha),by simp⟩,λx H3 y=>⟨y.1,?_⟩⟩) (λH' s=>⟨xs,eZ.of (s _ _ ha),Oo⟩) hs hd;have hx:=y.2 xs (eZ.of (s _ _ ha));obtain ⟨c,h1,h2⟩:=eG pr hx;exact ⟨c,h1,h2⟩
end
end L2
namespace L2
open PySem
section
variable{js:List Nat}{te:TE}{σ:St}{H:Hp}{Q:VK}
end
theorem Paired.ofRepL{H:Hp}{α:Type}{g:α->PyData}:∀{as:List α}{xs:List V},aX H (as.map g) xs->Paired (λa x=>bQ H (g a) x) as xs
 | [],xs,r=>by
  unfold aX at r;cases (show xs=[] from r);exact .nil
 | a::as,xs,r=>by
  rw [aZ] at r;unfold aX at r;obtain ⟨x,xs',rfl,r1,r2⟩:=r;exact .cons r1 (Paired.ofRepL r2)
theorem Paired.toRepL{H:Hp}{α:Type}{g:α->PyData}:∀{as:List α}{xs:List V},Paired (λa x=>bQ H (g a) x) as xs->aX H (as.map g) xs
 | _,_,.nil=>aX.nil
 | _,_,.cons h t=>aX.cons h (Paired.toRepL t)
section
variable{X:Cx}{scope:Scope}{x1 x2 x3 y:Str}{N':List Str}{js:List Nat}{elt iter tg:Expr}{ifs:List Expr}{py pos spos:Pos}{tc:TT}{te:TE}{wi wj:TI}{i:Nat}
def iOr(wi wj:TI):TI:=λσ H R=>wi σ H R\/wj σ H R
theorem XG(h1:IU X tg iter wi)(h2:IU X tg iter wj):IU X tg iter (iOr wi wj):=⟨λpins s σ H R I h=>h.elim (h1.p pins s σ H R I) (h2.p pins s σ H R I)⟩
end
end L2
namespace L2
open PySem PySem.Spec PyProof.Rows
@[irreducible] def rPA:V->List V->Hp->VK->Prop:=FQ
section
variable{X:Cx}
theorem OW:MtR X "list.pop" rPA:=by unfold rPA;exact OV
end
theorem aAy{H:Hp}{l:Addr}{xs:List V}{i:Nat}{Q:VK}(h:H l=some (.lst xs))(hi:i<xs.length)(hz:xs.length<=1000)(q:∀H',H' l=some (.lst (xs.eraseIdx i))->aS l H H'->Q xs[i] H'):rPA (.ref l) [.int (i:Int)] H Q:=by
 unfold rPA FQ;refine ⟨l,xs,(i:Int),i,xs[i],rfl,rfl,h,Oo,Oo,?_,by simp [hi],q _ bE aS.self⟩;have h1:¬(i:Int)<0:=Oo;have h2:(decide (0<=(i:Int))&&decide ((i:Int)<(xs.length:Int)))=true:=by simp;omega
 simp only [seqIndex?,if_neg h1,h2,if_true]
 rfl
theorem EB:bootBuiltins (Str.ofString "sorted")=some (Value.builtin "sorted"):=Kk
section
variable{X:Cx}
theorem MR:∀{vs:List Value}{ns:List Int},IntsAre vs ns->cV (ns.map V.int) vs:=by
 intro vs ns h
 induction h with
 | nil=>exact .nil
 | cons=>rename_i ih;exact .cons ⟨_,rfl⟩ ih
end
end L2
namespace L2
open PySem PySem.Spec PySem.W PyProof.Rows HT
end L2
namespace L2
open PySem PySem.Spec PyProof.Rows
def aBP:TS:=λ_ _ _=>False
theorem SB{X:Cx}{st:Stmt}:GO X st aBP:=⟨λ_ _ _ _ _ _ h=>h.elim⟩
section
variable{prog:Program}{w:World}{A:Around}{E:Value->Shared->Prop}{s:Shared}
end
end L2
namespace Mf
def cI(F:Nat)(r:List Nat):List Int:=(cnt F r).map λn:Nat=>(n:Int)
def bp(c:List Int)(j:Nat):List Int:=c.set j (c.getD j 0+1)
theorem WU{F:Nat}(r:List Nat){j:Nat}(h:j<F):cI F (r++[j])=bp (cI F r) j:=by
 unfold cI bp;rw [DW F r h,List.map_set,aF,aC,pY r h];simp
theorem QR(F:Nat):cI F []=List.replicate F 0:=by
 unfold cI;rw [WL,List.map_replicate];rfl
theorem yC:∀l:List Nat,(l.map λn:Nat=>(n:Int)).sum=(l.sum:Nat)
 | []=>rfl
 | a::l=>by rw [aZ,List.sum_cons,List.sum_cons,yC l];omega
theorem aBo{F:Nat}{r:List Nat}(h:∀x∈r,x<F):(cI F r).sum=(r.length:Int):=by
 unfold cI;rw [yC,WK r h]
theorem BX:∀(l:List Int) (j:Nat) (v:Int),j<l.length->(l.set j v).sum=l.sum+v-l.getD j 0
 | [],j,v,h=>by simp at h
 | a::l,0,v,h=>by simp only [List.set_cons_zero,List.sum_cons,List.getD_cons_zero];omega
 | a::l,j+1,v,h=>by
  have:=BX l j v (by simpa using h);simp only [List.set_cons_succ,List.sum_cons,List.getD_cons_succ,this];omega
theorem xB{c:List Int}{j:Nat}(h:j<c.length):(bp c j).sum=c.sum+1:=by
 unfold bp;rw [BX c j _ h];omega
theorem rQ:∀{c:List Int},(∀x∈c,0<=x)->0<=c.sum
 | [],_=>by simp
 | a::c,h=>by
  have:=rQ λx hx=>h x (aH a hx);have:=h a (aG ..);rw [List.sum_cons];omega
theorem mN:∀{c:List Int},(∀x∈c,0<=x)->c.sum=0->c=List.replicate c.length 0
 | [],_,_=>rfl
 | a::c,h,e=>by
  have h1:=rQ λx hx=>h x (aH a hx);have h2:=h a (aG ..);rw [List.sum_cons] at e;have e1:a=0:=Oo;have e2:=mN (λx hx=>h x (aH a hx)) (show c.sum=0 by omega);rw [bL,List.replicate_succ,<-e2,e1]
theorem pJ(n:Nat):(List.replicate n (0:Int)).sum=0:=by
 induction n with
 | zero=>rfl
 | succ n ih=>rw [List.replicate_succ,List.sum_cons,ih];rfl
theorem CK{α:Type}[DecidableEq α](a:α)(g:α->Int):∀{l:List α},l.Nodup->sm l (λd=>if a=d then g d else 0)=if a∈l then g a else 0
 | [],_=>by simp [sm]
 | b::l,h=>by
  obtain ⟨h1,h2⟩:=List.nodup_cons.mp h;rw [eK,CK a g h2];by_cases e:a=b
  ·subst e;rw [if_pos rfl,if_neg h1,if_pos (aG ..)];omega
  ·rw [if_neg e];by_cases m:a∈l
   ·rw [if_pos m,if_pos (aH _ m)];omega
   ·rw [if_neg m,if_neg (λq=>by rcases aV.mp q with q | q;exact e q;exact m q)];rfl
theorem iT{α:Type}{f:α->Int}:∀{l:List α},(∀a∈l,0<=f a)->0<=sm l f
 | [],_=>by simp [sm]
 | a::l,h=>by
  rw [eK];have:=h a (aG ..);have:=iT (f:=f) (l:=l) λb hb=>h b (aH _ hb);omega
theorem NM{α:Type}{f:α->Int}:∀{l:List α},(∀a∈l,0<=f a)->∀a∈l,f a<=sm l f
 | [],_,a,h=>by cases h
 | b::l,h,a,m=>by
  rw [eK];have h1:=iT (f:=f) (l:=l) λb hb=>h b (aH _ hb);rcases aV.mp m with rfl | m
  ·omega
  ·have:=NM (f:=f) (l:=l) (λb hb=>h b (aH _ hb)) a m;have:=h b (aG ..);omega
theorem XV{α:Type}{f:α->Int}{B:Int}:∀{l:List α},(∀a∈l,f a<=B)->sm l f<=l.length*B
 | [],_=>by simp [sm]
 | a::l,h=>by
  rw [eK];have:=h a (aG ..);have:=XV (f:=f) (B:=B) (l:=l) λb hb=>h b (aH _ hb);rw [bL,Int.natCast_add,Int.add_mul];omega
theorem AL{α:Type}{f:α->Int}{l:List α}(h:∀a∈l,f a=0):sm l f=0:=by
 rw [iZ (g:=λ_=>0) h,SW]
section
variable(F:Nat)(G:List Int->Int)
def aR(r:List Nat):Int:=(List.range r.length).foldl (λp k=>p*G (cI F (r.take k))) 1
theorem uT{α β:Type}{f g:β->α->β}:∀{l:List α}{b:β},(∀a∈l,∀b,f b a=g b a)->l.foldl f b=l.foldl g b
 | [],_,_=>rfl
 | a::l,b,h=>by
  rw [List.foldl_cons,List.foldl_cons,h a (aG ..),uT λx hx=>h x (aH _ hx)]
theorem BN(r:List Nat)(j:Nat):aR F G (r++[j])=aR F G r*G (cI F r):=by
 unfold aR;rw [bI,List.length_singleton,List.range_succ,List.foldl_append];show _*G (cI F ((r++[j]).take r.length))=_;rw [List.take_left];congr 1;refine uT λk hk b=>?_;rw [List.take_append_of_le_length (Nat.le_of_lt (bX.mp hk))]
theorem RD:aR F G []=1:=rfl
theorem LU(hG:∀c,0<=G c)(r:List Nat):0<=aR F G r:=by
 induction r using jT with
 | h0=>exact Int.one_nonneg
 | hs l a ih=>rw [BN];exact Int.mul_nonneg ih (hG _)
theorem aCF{N:Int}(hG:∀c,0<=G c)(hN:∀c,G c<=N)(r:List Nat):aR F G r<=N^r.length:=by
 have N0:0<=N:=Int.le_trans (hG []) (hN [])
 induction r using jT with
 | h0=>rw [RD,List.length_nil,Int.pow_zero];exact Int.le_refl _
 | hs l a ih =>
  rw [BN,bI,List.length_singleton,Int.pow_succ];exact Int.mul_le_mul ih (hN _) (hG _) (Int.pow_nonneg N0)
def Dn(L:List (List Nat))(c:List Int):Int:=sm L λr=>if cI F r=c then aR F G r else 0
def Wn(n:Nat)(c:List Int):Int:=Dn F G (mC F n) c
def Wc(c:List Int):Int:=Wn F G c.sum.toNat c
def hits(d c:List Int):Int:=sm (List.range F) λj=>if bp d j=c then 1 else 0
theorem DL(d c:List Int):0<=hits F d c:=iT λj _=>by split <;> omega
theorem tP{d c:List Int}(hd:d.length=F)(h:c.sum≠d.sum+1):hits F d c=0:=AL λj hj=>by
 rw [if_neg];intro e;rw [<-e,xB (by rw [hd];exact bX.mp hj)] at h;exact h rfl
theorem PP{d c:List Int}{j:Nat}(hj:j<F)(e:bp d j=c):1<=hits F d c:=by
 have:=NM (l:=List.range F) (f:=λj=>if bp d j=c then (1:Int) else 0) (λj _=>by split <;> omega) j (bX.mpr hj);rw [if_pos e] at this;exact this
theorem zU(hG:∀c,0<=G c)(L:List (List Nat))(c:List Int):0<=Dn F G L c:=iT λr _=>by
 split
 ·exact LU F G hG r
 ·exact Int.le_refl _
theorem YS{N:Int}(hG:∀c,0<=G c)(hN:∀c,G c<=N){L:List (List Nat)}(hL:∀r∈L,∀x∈r,x<F)(c:List Int):Dn F G L c<=L.length*N^c.sum.toNat:=by
 have N0:0<=N:=Int.le_trans (hG []) (hN []);refine XV λr hr=>?_;split
 ·next e =>
  have:=aCF F G hG hN r;rw [<-e,aBo (hL r hr),Int.toNat_natCast];exact this
 ·exact Int.pow_nonneg N0
end
structure Rl(F:Nat)(G:List Int->Int)(ks:List (List Int)):Prop where
 nd:ks.Nodup
 len:∀c∈ks,c.length=F
 nn:∀c∈ks,∀x∈c,0<=x
 asc:(ks.map List.sum).Pairwise (· <= ·)
 off:∀c,c ∉ ks->G c=0
 pos:∀c,0<=G c
 zero:List.replicate F 0∈ks
 fwd:∀c∈ks,G c≠0->∀j,j<F->bp c j∈ks
 bwd:∀c∈ks,c=List.replicate F 0\/∃d∈ks,G d≠0/\∃j,j<F/\c=bp d j
section
variable{F:Nat}{G:List Int->Int}{ks:List (List Int)}
theorem Rl.succ(R:Rl F G ks)(n:Nat)(c:List Int):Wn F G (n+1) c=sm ks λd=>Wn F G n d*(G d*hits F d c):=by
 unfold Wn Dn;show sm ((mC F n).flatMap λr=>(List.range F).map λj=>r++[j]) _=_;rw [SY];have e1:∀r∈mC F n,sm ((List.range F).map λj=>r++[j]) (λr=>if cI F r=c then aR F G r else 0)=sm ks λd=>if cI F r=d then aR F G r*(G d*hits F d c) else 0:=λr hr=>by
  rw [FK,CK (cI F r) (λd=>aR F G r*(G d*hits F d c)) R.nd];have e2:sm (List.range F) (λj=>if cI F (r++[j])=c then aR F G (r++[j]) else 0)=aR F G r*(G (cI F r)*hits F (cI F r) c):=by
   unfold hits;rw [<-GY,<-GY];refine iZ λj hj=>?_;rw [WU r (bX.mp hj),BN];split
   ·rw [Int.mul_one]
   ·rw [Int.mul_zero,Int.mul_zero]
  rw [e2];split
  ·rfl
  ·next h=>rw [R.off _ h,Int.zero_mul,Int.mul_zero]
 rw [iZ e1,SX];refine iZ λd _=>?_;rw [<-YZ];refine iZ λr _=>?_;split
 ·rfl
 ·rw [Int.zero_mul]
theorem Rl.sumnn(R:Rl F G ks){c:List Int}(h:c∈ks):0<=c.sum:=rQ (R.nn c h)
def Pc(F:Nat)(G:List Int->Int)(ks:List (List Int))(c:List Int):Int:=(if c=List.replicate F 0 then 1 else 0)+sm ks λd=>Wc F G d*(G d*hits F d c)
theorem IR:Wc F G (List.replicate F 0)=1:=by
 unfold Wc;rw [pJ,Int.toNat_zero];unfold Wn Dn mC;rw [eK,oU,QR,if_pos rfl,RD];rfl
theorem Rl.all(R:Rl F G ks){c:List Int}(h:c∈ks):Pc F G ks c=Wc F G c:=by
 unfold Pc;have c0:=R.sumnn h;by_cases e:c=List.replicate F 0
 ·rw [if_pos e,e,IR,AL (λd hd=>?_)]
  ·rfl
  ·have:=R.sumnn hd;rw [tP F (R.len d hd) (by rw [pJ];omega),Int.mul_zero,Int.mul_zero]
 ·rw [if_neg e,Int.zero_add];have cp:c.sum≠0:=λq=>e (by rw [mN (R.nn c h) q,R.len c h]);obtain ⟨n,hn⟩:∃n:Nat,c.sum=(n:Int)+1:=⟨c.sum.toNat-1,Oo⟩;show _=Wn F G c.sum.toNat c;rw [hn,show ((n:Int)+1).toNat=n+1 by omega,R.succ];refine iZ λd hd=>?_;by_cases q:d.sum=(n:Int)
  ·unfold Wc;rw [q,Int.toNat_natCast]
  ·rw [tP F (R.len d hd) Oo,Int.mul_zero,Int.mul_zero,Int.mul_zero]
theorem Rl.wnn(R:Rl F G ks)(c:List Int):0<=Wc F G c:=zU F G R.pos _ c
theorem Rl.term(R:Rl F G ks)(d c:List Int):0<=Wc F G d*(G d*hits F d c):=Int.mul_nonneg (R.wnn d) (Int.mul_nonneg (R.pos d) (DL F d c))
theorem Rl.wpos(R:Rl F G ks):∀(n:Nat) {c:List Int},c∈ks->c.sum=(n:Int)->0<Wc F G c
 | 0,c,h,e=>by
  have:c=List.replicate F 0:=by rw [mN (R.nn c h) e,R.len c h]
  rw [this,IR];decide
 | n+1,c,h,e=>by
  rcases R.bwd c h with q | ⟨d,hd,hg,j,hj,q⟩
  ·rw [q,pJ] at e;omega
  ·have ds:d.sum=(n:Int):=by
    have:=xB (c:=d) (j:=j) (by rw [R.len d hd];exact hj);rw [<-q] at this;omega
   have ih:=R.wpos n hd ds;rw [<-R.all h];have t:=NM (l:=ks) (f:=λd=>Wc F G d*(G d*hits F d c)) (λd _=>R.term d c) d hd;have gp:=R.pos d;have p1:0<Wc F G d*(G d*hits F d c):=Int.mul_pos ih (Int.mul_pos Oo (by have:=PP F hj q.symm;omega));unfold Pc;split <;> omega
theorem Rl.wpos'(R:Rl F G ks){c:List Int}(h:c∈ks):0<Wc F G c:=R.wpos c.sum.toNat h (by have:=R.sumnn h;omega)
theorem wC{α:Type}(l:List α)(f:α->Int)(i:Nat):sm l f=sm (l.take i) f+sm (l.drop i) f:=by rw [<-AK,List.take_append_drop]
theorem Rl.upto(R:Rl F G ks){i:Nat}{c:List Int}(h:ks[i]?=some c):Pc F G (ks.take i) c=Wc F G c:=by
 have hc:=bD h;rw [<-R.all hc];unfold Pc;rw [wC ks _ i,AL (l:=ks.drop i),Int.add_zero];intro d hd;obtain ⟨k,hk⟩:=cS.mp hd;rw [List.getElem?_drop] at hk;have hle:c.sum<=d.sum:=by
  by_cases k0:k=0
  ·subst k0;rw [Nat.add_zero,h] at hk;cases hk;exact Int.le_refl _
  ·have:=List.pairwise_iff_getElem.mp R.asc i (i+k) (by rw [aA];exact (aY.mp h).1) (by rw [aA];exact (aY.mp hk).1) Oo;rw [List.getElem_map,List.getElem_map,(aY.mp h).2,(aY.mp hk).2] at this;exact this
 rw [tP F (R.len d (List.mem_of_mem_drop hd)) Oo,Int.mul_zero,Int.mul_zero]
end
end Mf
namespace Mf
section
variable{F:Nat}{G:List Int->Int}{ks:List (List Int)}
end
end Mf
namespace L2
open PySem PySem.W PySem.Spec PySem.Calls PyProof.Rows
section
variable{X:Cx}
@[irreducible] def UL:List V->Hp->VK->Prop:=λxs H Q=>∃(p:Addr) (bs:List Bool),xs=[.ref p]/\H p=some (.lst (bs.map V.bl))/\Q (.bl (bs.all id)) H
theorem rall{p:Addr}{bs:List Bool}{H:Hp}{Q:VK}(e:H p=some (.lst (bs.map V.bl)))(q:Q (.bl (bs.all id)) H):UL [.ref p] H Q:=by unfold UL;exact ⟨p,bs,rfl,e,q⟩
theorem QW{bs:List Bool}:∀{us:List Value},cV (bs.map V.bl) us->LSm.BoolsAre us bs:=by
 induction bs with
 | nil=>intro us r;cases r;exact .nil
 | cons b bs ih =>
  intro us r;cases r with
  | cons r t=>cases (show _=Value.bool b from r);exact .cons b (ih t)
theorem wY(hc:X.calm=true):fO X (.builtin "all") UL:=by
 unfold UL;intro pins s σ H xs us Q I r h;obtain ⟨p,bs,rfl,e,q⟩:=h;obtain ⟨_,rfl,r1⟩:=kM r;cases r1;obtain ⟨z,its,n,rv,hl,eo⟩:=I.lstM e;have hL:s.heap.IsList p its.toArray:=⟨_,eo,rfl,n,rfl⟩;have hb:=QW rv;have hlt:p<s.heap.objs.size:=aT eo;refine call_all_walk (wpAny_pyIter_list hL ?_);refine ⟨s.heap.objs.size,[s.heap.objs.size,p],[s.heap.objs.size],its.toArray.size,_,_,λi=>(bs[i]?).getD true,rfl,Walks.list (A:=X.A.in1) (I.ok.hd hc) _ p (bS hlt) its.toArray,
  ⟨⟨_,aP _ rfl,rfl,rfl⟩,hL.push _⟩,λi v s' Q' E' hP hQ=>?_,λh' tk hk=>?_⟩
 ·obtain ⟨b,e,rfl⟩:=hb.get i v (by simpa using hP);simp only [e,Option.getD_some] at hQ;exact wpAny_truthy_bool hQ
 ·have e:((List.range its.toArray.size).all λi=>(bs[i]?).getD true)=bs.all id:=by
   rw [aQ,hb.length];exact LSm.range_all bs
  rw [e];exact ⟨.bl _,H,I.kept (LSm.kept_iter hk),rfl,q⟩
end
end L2
namespace Mf
def rv(f:Fr):Rat:=(f.1:Rat)/(f.2:Rat)
theorem aA6{d:Int}(h:0<d):(0:Rat)<(d:Rat):=by exact_mod_cast h
theorem wS{d:Int}(h:0<d):(d:Rat)≠0:=by have:=aA6 h;grind
theorem XW{f:Fr}(h:0<f.2):rv f*(f.2:Rat)=(f.1:Rat):=by
 have:=wS h;unfold rv;grind
theorem aBX{n d:Int}(h:0<d):rv (lw n d)=(n:Rat)/(d:Rat):=by
 have e:=iD (n:=n) (d:=d);have p:=(fL (n:=n) h).pos;have h1:=wS h;have h2:=wS p;have e':((lw n d).1:Rat)*(d:Rat)=(n:Rat)*((lw n d).2:Rat):=by exact_mod_cast e
 unfold rv;generalize ((lw n d).1:Rat)=a at *;generalize ((lw n d).2:Rat)=b at *;grind
theorem aAk{f g:Fr}(hf:0<f.2)(hg:0<g.2):rv (nY f g)=rv f+rv g:=by
 unfold nY;rw [aBX (Int.mul_pos hf hg)];have h1:=wS hf;have h2:=wS hg;unfold rv;rw [Rat.intCast_add,Rat.intCast_mul,Rat.intCast_mul,Rat.intCast_mul];grind
theorem aAj{f g:Fr}(hf:fF f)(hg:fF g)(e:rv f=rv g):f=g:=by
 have h1:=wS hf.pos;have h2:=wS hg.pos;have e':(f.1:Rat)*(g.2:Rat)=(g.1:Rat)*(f.2:Rat):=by
  have a:=XW hf.pos;have b:=XW hg.pos;rw [<-a,<-b,e];grind
 have q:=DD hf hg (by exact_mod_cast e');exact Prod.ext q.1 q.2
theorem UD:rv (0,1)=0:=by unfold rv;grind
def sZ(l:List Rat):Rat:=l.foldr (· + ·) 0
theorem BY:sZ []=0:=rfl
theorem sY(x:Rat)(l:List Rat):sZ (x::l)=x+sZ l:=rfl
theorem BZ:∀(a b:List Rat),sZ (a++b)=sZ a+sZ b
 | [],b=>by rw [BY,List.nil_append];grind
 | x::a,b=>by rw [List.cons_append,sY,sY,BZ a b];grind
theorem NU(l:List Fr):(∀f∈l,fF f)->rv (nX l)=sZ (l.map rv):=by
 induction l using jT with
 | h0=>intro _;exact UD
 | hs l a ih =>
  intro h;have hl:∀f∈l,fF f:=λf hf=>h f (cQ _ hf);rw [pH,aAk (vU l hl).pos (h a (by simp)).pos,ih hl,bF,BZ,aZ,List.map_nil,sY,BY];grind
end Mf
namespace Mf
section
variable{W F:Nat}{q:Nat->List Nat->Rat}{mix ps ps' cs:Nat->Rat}
end
end Mf
namespace Mf
section
variable{F W M:Nat}{ss:List (List Fr)}{mix ps cs:List Fr}{Ns Nm Np Nc B:Nat}
end
end Mf
namespace Mf
end Mf
namespace Mf
section
variable{F:Nat}{es:List EntC}
end
section
variable{F W M:Nat}{es:List EntC}{q:Nat->List Nat->Rat}{mix ps cs:Nat->Rat}
end
end Mf
namespace Mf
section
variable{F W:Nat}{es:List EntC}{q:Nat->List Nat->Rat}{mix ps cs:Nat->Rat}
end
end Mf
namespace L2
open PySem
section
variable{M:Model}{A:Around}{E:Value->Shared->Prop}{s:Shared}{env:Env}{outer:List Env}{base:Heap}{L a:Addr}{cls:Value}{od:Option Addr}
end
end L2
namespace L2
open PySem PySem.Spec PyProof.Rows
section
variable{P:Program}{w:World}{H H1 H2:Hp}{h h1 h2 base:Heap}{fs fs2 ex:List Addr}{a:Addr}{o:HO}
end
section
variable{P:Program}{w:World}{K:PySem.W.Frag}{mg:Str->Option Value}{base:Heap}{N:List Str}{qual:Str}{scope:Scope}{f:Addr}{cd:Value}{A:Around}{outer:List Env}{s:Shared}{H:Hp}{E:XK}
end
section
variable{X:Cx}{k:Nat}{f C:Addr}{fd:FuncData}{ps:List Str}{sp:Sp}{Ex:St->XK}{x:Str}{p pos np cpos:Pos}{e:Expr}{es:List Expr}{t:TA}
end
section
variable{X:Cx}{C:Addr}{Ex:St->XK}{x:Str}{pos np cpos:Pos}{e:Expr}{es:List Expr}{t:TA}
end
end L2
namespace L2
open PySem PySem.W PySem.Spec PySem.Calls PyProof.Rows
section
variable{prog:Program}{w:World}{A:Around}{E:Value->Shared->Prop}{s:Shared}{K:Frag}{x C:Addr}{ox:Obj}{od:Option Obj}{name:Str}
end
end L2
namespace L2
open PySem PySem.Spec PyProof.Rows
section
variable{X:Cx}{pins:List (Addr × Obj)}{σ:St}{H:Hp}{s:Shared}
end
section
variable{M:Model}{A:Around}{E:Value->Shared->Prop}{K:PySem.W.Frag}{s:Shared}{a C C2:Addr}{ox:Obj}{od:Option Obj}
end
section
variable{X:Cx}{x n:Str}{np hpos pos:Pos}{b₀:Stmt}{body suite:List Stmt}{i:Nat}{C2:Addr}{tb:(St->XK)->TS}{th:TS}
end
end L2
namespace L2
open PySem PySem.W PySem.Spec PySem.Calls PyProof.Rows
section
variable{prog:Program}{w:World}{A:Around}{E:Value->Shared->Prop}{h:Heap}{g:Array GenState}{d:Drawn}{t:Nat}{os:OsState}
variable{nm q:Str}{C N:Addr}{bs bm bmB:List Value}{hdct:Bool}{sn:List Str}{sub:List Value}{ab:Bool}{col:Option Bool}{dd:Option Addr}{k0 k1 k2 k3 k5:Option Value}{B newId initId:String}
end
section
variable{prog:Program}{w:World}{A:Around}{E:Value->Shared->Prop}{s:Shared}{K:Frag}{C f:Addr}{rest:List Value}
end
end L2
namespace L2
open PySem PySem.W PySem.Spec PySem.Calls PyProof.Rows Builtin Builtin.ObjectAttr
section
variable{prog:Program}{w:World}{A:Around}{E:Value->Shared->Prop}{s:Shared}{K:Frag}{x C:Addr}{R:Result->Shared->Prop}
end
section
variable{X:Cx}{pins:List (Addr × Obj)}{σ:St}{H:Hp}{s:Shared}{a C d:Addr}{fs:List (Str × V)}{f:Str}{v:V}{A:Around}{E:Value->Shared->Prop}
end
section
variable{X:Cx}{k:Nat}{f C:Addr}{fd:FuncData}{ps:List Str}{sp:Sp}{x g:Str}{p pos np apos pos':Pos}{e o value:Expr}{es:List Expr}{t:TA}{ta tv:TE}
end
end L2
namespace L2
open PySem PySem.W PySem.Spec PySem.Calls PyProof.Rows
end L2
namespace L2
open PySem PySem.W PySem.Spec PySem.Calls PyProof.Rows Builtin Builtin.ObjectAttr
section
variable{P:Program}{w:World}{H:Hp}{h:Heap}{a C:Addr}{od:Option Addr}
end
section
variable{prog:Program}{w:World}{A:Around}{E:Value->Shared->Prop}{s:Shared}{K:Frag}{x C:Addr}
end
section
variable{X:Cx}{pins:List (Addr × Obj)}{σ:St}{H:Hp}{s:Shared}{a C d:Addr}{fs:List (Str × V)}{f:Str}{v:V}{A:Around}{E:Value->Shared->Prop}
end
section
variable{X:Cx}{k:Nat}{f C:Addr}{fd:FuncData}{ps:List Str}{sp:Sp}{x g:Str}{p pos np apos pos':Pos}{e o value:Expr}{es:List Expr}{t:TA}{ta tv:TE}
end
section
variable{M:Model}{A:Around}{E:Value->Shared->Prop}{env:Env}{K:Frag}{C:Addr}
end
section
variable{X:Cx}{k:Nat}{f C:Addr}{fd:FuncData}{ps:List Str}{sp:Sp}{Ex:St->XK}{x:Str}{pos np cpos:Pos}{e:Expr}{es:List Expr}{t:TA}
end
end L2
namespace L2
open PySem PySem.Spec PySem.W PyProof.Rows HT
@[irreducible] def HK(K:PySem.W.Frag):List V->Hp->VK->Prop:=λxs H Q=>∃a ys,xs=[.ref a,.ty "tuple"]/\dO K H a ys/\Q (.bl true) H
theorem NW{K:PySem.W.Frag}{H:Hp}{Q:VK}{a:Addr}{ys:List V}(h:dO K H a ys)(q:Q (.bl true) H):HK K [.ref a,.ty "tuple"] H Q:=by unfold HK;exact ⟨a,ys,rfl,h,q⟩
theorem BF{X:Cx}(K:PySem.W.Frag)(hK:X.K=K:=by rfl):fO X (.builtin "isinstance") (HK K):=by
 subst hK;unfold HK;intro pins s σ H xs us Q I r h;obtain ⟨a,ys,rfl,ha,q⟩:=h;obtain ⟨u,w',rfl,r1,r2⟩:=BT r;cases (show w'=Value.type "tuple" from r2);cases (show u=Value.ref a from r1);obtain ⟨its,_,⟨o,h1,h2,_⟩,_⟩:=I.tuple ha;exact kia_one kitx_tuple I.kIn ⟨o,h1,h2⟩ (YC _ (.tuple []) "tuple" Dd) (λz=>nomatch z) λtk=>⟨.bl _,H,I.tok _,rfl,q⟩
abbrev VP(k:List Int):PyData:=.tuple [.int (k.headD 0),cD k.tail]
theorem aCk{H:Hp}{k:List Int}{v:V}(h:bQ H (VP k) v):∃a d,v=.ref a/\H a=some (.tup [.int (k.headD 0),.ref d])/\H d=some (.tup (k.tail.map V.int))/\bQ H (cD k.tail) (.ref d):=by
 unfold bQ at h;obtain ⟨a,xs,rfl,h1,h2⟩:=h;unfold aX at h2;obtain ⟨x,xs',rfl,h3,h4⟩:=h2;unfold aX at h4;obtain ⟨y,ys',rfl,h5,h6⟩:=h4;unfold aX at h6;cases (show ys'=[] from h6);cases (show x=V.int (k.headD 0) from h3);obtain ⟨d,rfl,hd⟩:=QS h5;exact ⟨a,d,rfl,h1,hd,h5⟩
def GQ(h:Heap)(v:Value)(k:List Int):Prop:=∃b d t its,v=.ref b/\IsTup h b #[.int (k.headD 0) t,.ref d]/\IsTup h d (List.toArray its)/\IntsAre its k.tail/\(∃as,Reads h (.ref d) (cD k.tail) as)/\k≠[]
theorem GB{h:Heap}:∀{vs:List Value}{kz:List (List Int)}{i:Nat},Paired (GQ h) vs kz->i<vs.length->GQ h (vs.getD i Value.none) (kz.getD i [])
 | _,_,_,.nil,hi=>by simp at hi
 | _,_,0,.cons t r,hi=>t
 | v::vs,c::cs,i+1,.cons t r,hi=>by
  have:=GB (i:=i) r (by simpa using hi);simpa using this
theorem yP{h:Heap}:∀{vs:List Value}{kz:List (List Int)},Paired (GQ h) vs kz->∃fs,KatTups h vs fs/\fs.length=vs.length/\∀v∈fs,∃i t,v=Value.int i t
 | _,_,.nil=>⟨[],KatTups.nil,rfl,λv hv=>by cases hv⟩
 | v::vs,k::kz,.cons t r=>by
  obtain ⟨fs,h1,h2,h3⟩:=yP r;obtain ⟨b,d,t,its,rfl,⟨o,ho,hc,n,hd⟩,_⟩:=t;exact ⟨.int (k.headD 0) t::fs,KatTups.cons ho hc hd (by simp) h1,by simp [h2],λv hv=>by
   rcases aV.mp hv with rfl | hv
   ·exact ⟨_,_,rfl⟩
   ·exact h3 v hv⟩
theorem DG:∀a b:List Int,mF a b=jG a b
 | [],[]=>rfl
 | [],y::b=>(vM y b).symm
 | x::a,[]=>(rT _).symm
 | x::a,y::b=>by rw [wQ,pV,DG a b]
section
variable{prog:Program}{w:World}{A:Around}{E:Value->Shared->Prop}{s:Shared}
theorem aCj{x y:Value}{k l:List Int}{Q:Bool->Shared->Prop}(hu:A.units+64<cLine)(hx:GQ s.heap x k)(hy:GQ s.heap y l)(q:Q (jG k l) s):wpAny (model prog w) A (keyLt' (tuples' true) x y) Q E s:=by
 obtain ⟨b,d,t,its,rfl,⟨o,ho,hc,n,hd⟩,td,ti,⟨as,ra⟩,kn⟩:=hx;obtain ⟨b2,d2,t2,its2,rfl,⟨o2,ho2,hc2,n2,hd2⟩,td2,ti2,⟨bs,rb⟩,ln⟩:=hy;refine kat_lt ho hd ho2 hd2 ?_;have ek:k=k.headD 0::k.tail:=by
  cases k with
  | nil=>exact absurd rfl kn
  | cons _ _=>rfl
 have el:l=l.headD 0::l.tail:=by
  cases l with
  | nil=>exact absurd rfl ln
  | cons _ _=>rfl
 rw [ek,el,pV] at q;generalize k.headD 0=m at *;generalize l.headD 0=m2 at *;show KatLex prog w A true _ Q [(.int m t,.int m2 t2),(.ref d,.ref d2)] 0 s;refine kat_cons (wpAny_eqBool_int ?_);by_cases e:m=m2
 ·rw [if_pos e] at q;rw [show (m == m2)=true by simp [e]];refine kat_yes (kat_cons ?_);have eqv:=SeqAt.eqAt_reads (cD k.tail) (cD l.tail) A s _ _ as bs ra rb (yO _) (yO _) (by
   have h1:(cD k.tail).depth<=2:=by
    have:=IG k.tail;simp only [PyData.depth];omega
   omega)
  refine eqv prog w _ _ ?_;rw [aCv];by_cases e2:k.tail=l.tail
  ·rw [cE e2];refine kat_yes (kat_nil ?_);rw [e2,rS] at q;simpa using q
  ·rw [dC e2];refine kat_no (kat_one _ _ ?_);refine GA td td2 (by simpa using ti) (by simpa using ti2) Oo ?_;rw [DG];exact q
 ·rw [if_neg e] at q;rw [show (m == m2)=false by simp [e]];refine kat_no ?_;exact oneLt_int q
theorem GZ{a kS:Addr}{st:SortSt}{ks out:List Value}{e e1:Nat}{P:PySem.Fin->Shared->Prop}(hout:(arrOf st).map (·.2)=List.toArray out)(hz:out.length<64)(hkz:ks.length<64)(hf:failedOf st=none)
  (hk:s.heap.get? kS=some (seqObj "list" (List.toArray ks) e)) (ha:s.heap.get? a=some (seqObj "list" #[] e1)) (ne:a≠kS)
  (h:P (.done (.ret .none)) { s with heap:=(s.heap.update kS (Obj.mapSeq λ_=>#[])).update a (Obj.mapSeq λ_=>List.toArray out) }):wpAny (model prog w) A (ksk_tail a false e1 (.ref kS) st) P E s:=by
 unfold ksk_tail;dsimp only;rw [hout];refine wpAny_bind (listUpdate_at hk rfl ?_ (by rw [aQ,sizeLine_eq];omega) (cK _));refine wpAny_bind (wpAny_letGo ?_);have ha2:(s.heap.update kS (Obj.mapSeq λ_=>(#[]:Array Value))).get? a=some (seqObj "list" #[] e1):=by rw [cU _ _ _ _ ne];exact ha
 refine wpAny_bind (seqEpoch_at ha2 rfl ?_);refine wpAny_bind (listUpdate_at ha2 rfl ?_ (cK _) (by
  simp only [Bool.false_eq_true,if_false];rw [aQ,sizeLine_eq];omega))
 rw [hf];simp only [bne_self_eq_false,Bool.false_eq_true,if_false];exact wpAny_pure h
theorem ZE{a kS:Addr}{vs ks:List Value}{kz:List (List Int)}{e e1:Nat}{P:PySem.Fin->Shared->Prop}(hl:ks.length=vs.length)(h64:vs.length<64)(hu:A.units+64<cLine)(hp:Paired (GQ s.heap) ks kz)
  (hk:s.heap.get? kS=some (seqObj "list" (List.toArray ks) e)) (ha:s.heap.get? a=some (seqObj "list" #[] e1)) (ne:a≠kS)
  (h:∀p:Array Nat,eV vs.length p->(xI vs.length (sO kz)->sQ (sO kz) p vs.length)->P (.done (.ret .none)) { s with heap:=(s.heap.update kS (Obj.mapSeq λ_=>#[])).update a (Obj.mapSeq λ_=>List.toArray (p.toList.map λi=>vs.getD i Value.none)) }) :
  wpAny (model prog w) A (ksk_end a false vs.toArray e1 (.ref kS) (List.toArray ks)) P E s:=by
 unfold ksk_end;dsimp only;by_cases h2:vs.toArray.size<2
 ·simp only [Bool.false_eq_true,if_false,if_pos h2];refine wpAny_bind (wpAny_pure ?_);rw [StateT.run_pure];refine wpAny_bind (wpAny_pure ?_);dsimp only;have ea:=kat_snds (ks:=ks) (vs:=vs) (st:=SortSt.mk' general' ((List.toArray ks).zip vs.toArray) #[] 7 none) (p:=List.toArray (List.range vs.length)) hl (by
   have e:=kas_range ((List.toArray ks).zip vs.toArray);rw [show ((List.toArray ks).zip vs.toArray).size=vs.length by simp [hl]] at e;exact e.symm)
  exact GZ ea (by rw [aA,bO];exact h64) Oo rfl hk ha ne (h _ (Array.Perm.refl _) λ_ a b h1 h3=>by rw [aQ] at h2;omega)
 ·simp only [Bool.false_eq_true,if_false,if_neg h2];have hl2:2<=vs.length:=by rw [aQ] at h2;omega
  obtain ⟨fs,k1,k2,k3⟩:=yP hp;refine wpAny_bind (kat_kind (T:=.type "int") k1 Oo (λv hv=>?_) rfl ?_)
  ·obtain ⟨i,t,rfl⟩:=k3 v hv;exact .now
  refine wpAny_bind (wpAny_mono (kat_run (ks:=ks) (vs:=vs) (G:=λp s'=>s'=s/\eV vs.length p/\(xI vs.length (sO kz)->sQ (sO kz) p vs.length))
   (Q:=λst' s'=>s'=s/\failedOf st'=none/\∃p:Array Nat,p.size=vs.length/\(eV vs.length p/\(xI vs.length (sO kz)->sQ (sO kz) p vs.length))/\arrOf st'=p.map (kas_item ((List.toArray ks).zip vs.toArray)))
   hl hl2 h64 (λp' st' s' a1 a2 a3 a4=>⟨a4.1,a3,p',a1,a4.2,a2⟩)
   (cZ.wp (n:=vs.length) (lt:=sO kz) (R:=λp=>eV vs.length p/\(xI vs.length (sO kz)->sQ (sO kz) p vs.length)) (λi j C hi hj hC=>?_) (λp hp=>⟨rfl,hp⟩) (CI hl2))) ?_ λ_ _ e=>e)
  ·unfold kas_ask;exact aCj hu (GB hp Oo) (GB hp Oo) hC
  rintro ⟨⟨⟩,st'⟩ s' ⟨rfl,hf,p,hps,hg,har⟩;dsimp only;exact GZ (kat_snds hl har) (by rw [aA,Array.length_toList,hps];exact h64) Oo hf hk ha ne (h p hg.1 hg.2)
end
section
variable{X:Cx}{pins:List (Addr × Obj)}{σ:St}{H:Hp}{s:Shared}
theorem PF(I:bW X pins σ H s):∀{kz:List (List Int)}{ys:List V}{us:List Value},aX H (kz.map VP) ys->(∀k∈kz,k≠[])->cV ys us->Paired (GQ s.heap) us kz
 | [],ys,us,r,hc,v=>by
  unfold aX at r;cases (show ys=[] from r);cases v;exact .nil
 | c::cs,ys,us,r,hc,v=>by
  rw [aZ] at r;unfold aX at r;obtain ⟨y,ys',rfl,r1,r2⟩:=r;obtain ⟨u,us',rfl,rv,v'⟩:=qV v;refine .cons ?_ (PF I r2 (λc h=>hc c (aH _ h)) v');obtain ⟨a,d,rfl,h1,h2,h3⟩:=aCk r1;cases rv;obtain ⟨its,rr,pl,_⟩:=I.tuple (dO.of h1);obtain ⟨u1,us1,rfl,⟨t,rfl⟩,ra⟩:=qV rr;obtain ⟨u2,us2,rfl,ru2,rb⟩:=qV ra;cases rb;cases ru2;obtain ⟨jts,r2,pl2,_⟩:=I.tuple (dO.of h2);exact ⟨a,d,t,jts,rfl,pl,pl2,nK r2,h3.reads I rfl,hc c (aG ..)⟩
def RM(sp:Sp)(H:Hp)(ys:List V)(kz:List (List Int)):Prop:=kz.length=ys.length/\(∀k∈kz,k≠[])/\∀(i:Nat) (y:V) (k:List Int) (H':Hp),ys[i]?=some y->kz[i]?=some k->aW H H'->sp [y] H' (λv H''=>aW H' H''/\bQ H'' (VP k) v) E0
theorem PH(k:List Int):eI (VP k)=true:=by
 have:∀c:List Int,fA (c.map PyData.int)=true:=λc=>by
  induction c with
  | nil=>rfl
  | cons x c ih=>show (eI (.int x)&&fA (c.map PyData.int))=true;rw [ih];rfl
 show (eI (.int (k.headD 0))&&(eI (cD k.tail)&&true))=true;rw [show eI (cD k.tail)=true from this _];rfl
theorem DK:∀kz:List (List Int),fA (kz.map VP)=true
 | []=>rfl
 | k::kz=>by show (eI (VP k)&&fA (kz.map VP))=true;rw [DK kz,PH];rfl
theorem cV.snoc'{xs:List V}{us:List Value}{x:V}{u:Value}(h:cV xs us)(r:dF x u):cV (xs++[x]) (us++[u]):=h.append (.cons r .nil)
end
@[irreducible] def HG(K:PySem.W.Frag)(sp:Sp)(x:V)(H:Hp)(Q:VK):Prop:=∃(p:Addr) (ys:List V) (kz:List (List Int)),x=.ref p/\eZ K H p ys/\ys.length<64/\RM sp H ys kz /\
 ∀(D:Addr) (ix:List Nat) (H':Hp),ix.Perm (List.range ys.length)->(kz.Nodup->(ix.map λi=>kz.getD i []).Pairwise λa b=>jG a b=true)->H D=none->H' D=some (.lst (ix.map λi=>ys.getD i .non))->aW H H'->Q (.ref D) H'
theorem QY{kz:List (List Int)}{n:Nat}{pm:Array Nat}(hg:eV n pm)(ha:sQ (sO kz) pm n):(pm.toList.map λi=>kz.getD i []).Pairwise λa b=>jG a b=true:=by
 have hsz:=hg.size;rw [List.pairwise_map,List.pairwise_iff_getElem];intro i j hi hj hij;have hi':i<pm.size:=by simpa using hi
 have hj':j<pm.size:=by simpa using hj
 have e1:pm.toList[i]=pm.getD i 0:=by rw [Array.getElem_toList];exact (by simp [Array.getD,hi']:pm.getD i 0=pm[i]).symm
 have e2:pm.toList[j]=pm.getD j 0:=by rw [Array.getElem_toList];exact (by simp [Array.getD,hj']:pm.getD j 0=pm[j]).symm
 rw [e1,e2];exact ha i j hij Oo
section
variable{X:Cx}{pins:List (Addr × Obj)}{σ:St}{H:Hp}{s:Shared}
end
def tY(c:Addr)(q:Str):HO:=.ext λh=>h.CodeRec (.ref c) q
theorem LG{P:Program}{w:World}{H:Hp}{h:Heap}{c:Addr}{q:Str}(hr:h.CodeRec (.ref c) q):dM P w H h c (tY c q):=by
 obtain ⟨c₂,oc,vs,t,e2,hoc,hd,hv⟩:=id hr;cases e2;refine ⟨hr,⟨oc,hoc⟩,λh1 h2 ⟨c3,o3,v3,t3,e3,ho3,hd3,hv3⟩ k=>?_⟩;cases e3;exact ⟨c,o3,v3,t3,rfl,k _ ho3,hd3,hv3⟩
structure jE(H:Hp)(P:Addr)(q:Str)(pos:Pos):Prop where
 ex:H P=some (.tbl #[])\/∃c',H P=some (.tbl #[rawInt pos.line,rawInt pos.col,.ref c'])/\H c'=some (tY c' q)
def KW(K:Frag)(c P:Addr):Bool:=match K.lookup c with
 | some ⟨.type t,_,.fields vs,_⟩=>(match (vs[11]?:Option Value),vs.getD 11 .none,vs.getD 18 .none,vs.getD 7 .none,vs.getD 9 .none,vs.getD 10 .none with
   | some (.ref p),.ref p',.str _ _,.int _ _,.bool _,.int _ _=>t == "code" && p == P&&p' == P && !(c == P)
   | _,_,_,_,_,_=>false)
 | _=>false
theorem aCq{K:Frag}{h:Heap}{c P:Addr}(X:K.In h)(e:KW K c P=true):CodeHd h c P:=by
 unfold KW at e;split at e
 ·rename_i t od vs sl ho
  split at e
  ·rename_i p p' f1 f2 i1 i2 b1 j1 j2 q1 q2 q3 q4 q5 q6
   simp only [cL,Bool.not_eq_true',beq_iff_eq,beq_eq_false_iff_ne] at e;obtain ⟨⟨⟨e1,e2⟩,e3⟩,e4⟩:=e;subst e1 e2 e3;exact ⟨_,vs,_,_,_,_,_,_,_,X _ _ ho,rfl,rfl,q1,q2,q3,q4,q5,q6,e4⟩
  ·cases e
 ·cases e
def BM(mg:Str->Option Value)(h:Heap):Prop:=∃bm ob,mg "__builtins__" = some (.ref bm)/\bm≠builtinsNs/\h.get? bm=some ob/\ob.cls=.type "module" /\ ob.dict=some builtinsNs/\ob.data=.plain
section
variable{X:Cx}{pins:List (Addr × Obj)}{σ:St}{H:Hp}{s:Shared}
theorem aAR{P c:Addr}{params:Arguments}{body:Expr}{scope:Scope}{pos:Pos}{Q':Value->Shared->Prop}(I:bW X pins σ H s)(hcode:X.env.code=.ref c)(hh:KW X.K c P=true)(hbm:BM X.mg X.base)(hcl:closureFor scope X.env=pure [])
  (hdef:defaultsOf params X.env=([],[])) (TO:jE H P (X.env.qual ++ "<lambda>") pos)
  (h:∀(f c':Addr) (pm ctv:Value) (H':Hp) (s':Shared),jE H' P (X.env.qual ++ "<lambda>") pos->H' c'=some (tY c' (X.env.qual ++ "<lambda>"))->aS P H H'->s'.heap.objs.size=f+1 ->
   bW X ((f,kla_obj "<lambda>" (X.env.qual ++ "<lambda>") params body scope [] pm c' ctv)::pins) σ H' s'->Q' (.ref f) s') :
  wpAny (model X.prog X.w) X.A (eval (.Lambda params body scope pos) X.env) Q' X.xe s:=by
 refine kla_eval hdef ?_;have hg:=I.mod.glob.keeps I.bk;have C:=aCq I.kIn hh;obtain ⟨bm,ob,b1,b2,b3,b4,b5,b6⟩:=hbm;have nP:∀b o,X.base.get? b=some o->∀u,H P=some u->b≠P:=λb o e u hu z=>by
  have:=(I.bs b o e).2;rw [z,hu] at this;cases this
 obtain ⟨og,eg⟩:∃o,X.base.get? mainGlobals=some o:=let ⟨o,_,_,e,_⟩:=I.mod.glob;⟨o,e⟩;have hbG:bm≠mainGlobals:=λq=>by
  obtain ⟨o,es,ep,e,hd,_⟩:=I.mod.glob;rw [q,e] at b3;cases b3;rw [hd] at b6;cases b6
 rcases TO.ex with hP | ⟨c',hP,hc'⟩
 ·have hPt:s.heap.get? P=some (tabObj #[]):=I.hok P _ hP;refine kla_makeFunction (mg:=X.mg) hcl I.ok.glob hg hcode C hPt trivial rfl (nP _ _ eg _ hP) ⟨bm,ob,b1,b2,hbG,nP _ _ b3 _ hP,I.bk _ _ b3,b4,b5,b6⟩ λc' ctv h' tk hx hge hlt hrec htb=>?_;generalize hq:X.env.qual++Str.ofString "<lambda>" = q at *;have hf:H c'=none:=I.hok.fresh hge;have Pc:P≠c':=λz=>by rw [z,hf] at hP;cases hP
  have kp:∀(x:Obj) b o,b≠P->s.heap.get? b=some o->(h'.push x).get? b=some o:=λx b o n e=>aB _ (hx b o n e);have szh:s.heap.objs.size<=h'.objs.size:=bG hge (Nat.le_of_lt hlt);have nc:∀b u,H b=some u->b≠c':=λb u e z=>by rw [z,hf] at e;cases e
  have I1:bW X pins σ (upd (upd H P (.tbl #[rawInt pos.line,rawInt pos.col,.ref c'])) c' (tY c' q)) { s with heap:=h'.push (kla_obj "<lambda>" q params body scope [] ((X.mg "__name__").getD .none) c' ctv),toks:=tk }:=by
   refine I.un ⟨λb o e n _ _=>kp _ b o (λz=>by rw [z,hP] at n;cases n) e,λb o e n _ _=>⟨o.slots,kp _ b o (λz=>by rw [z,hP] at n;cases n) e⟩,λb o e n _=>?_,λb o e _=>?_,λb xs e=>?_,λb o u e=>?_,λb ps e=>?_⟩ λb u e=>?_
   ·rw [bP (bS (bA (aT e) hge)),bP (λz=>by rw [z,hP] at n;cases n)];exact n
   ·by_cases z:b=P
    ·exact ⟨_,by rw [z];exact aB _ htb⟩
    ·exact ⟨o,kp _ b o z e⟩
   ·rw [bP (nc b _ e),bP (λz=>by rw [z,hP] at e;cases e)];exact e
   ·rw [bP (nc b _ e),bP (λz=>by rw [z,hP] at e;cases e)];exact e
   ·by_cases z:b=P
    ·subst z;rw [hP] at e;cases e;exact ⟨#[rawInt pos.line,rawInt pos.col,.ref c'],by rw [bP Pc,bE];rfl⟩
    ·exact ⟨#[],by rw [bP (nc b _ e),bP z,e];simp⟩
   ·by_cases z:b=c'
    ·subst z;rw [bE] at e;cases e;exact LG (hrec.keeps λb o e=>aB _ e)
    ·rw [bP z] at e;by_cases z2:b=P
     ·subst z2;rw [bE] at e;cases e;exact aB _ htb
     ·rw [bP z2] at e;refine (I.hok b u e).stay (λd v hd' r=>kp _ d v ?_ r) (λd r=>?_) λd xs r=>?_
      ·rcases hd' with rfl | hd'
       ·exact z2
       ·intro z3;rw [z3,hP] at hd';cases hd'
      ·rw [bP (nc d _ r),bP (λz=>by rw [z,hP] at r;cases r)];exact r
      ·rw [bP (nc d _ r),bP (λz=>by rw [z,hP] at r;cases r)];exact r
  refine h h'.objs.size c' ((X.mg "__name__").getD .none) ctv _ _ ⟨.inr ⟨c',by rw [bP Pc,bE],bE⟩⟩ bE (λb o e=>?_) (eC ..) (I1.pins_of λp hp=>?_)
  ·have n:=eM.ne e;rw [eM.at n] at e;refine eM.of n ?_;rw [bP (nc b _ e),bP n];exact e
  ·rcases aV.mp hp with rfl | hp
   ·exact ⟨aP _ rfl,by
     rw [bP (Nat.ne_of_gt hlt),bP (Nat.ne_of_gt (bA (I.hok.lt hP) szh))];exact I.hok.fresh szh,Nat.ne_of_gt (bA I.lt szh),I.nofs szh,λv z=>by cases z⟩
   ·exact I1.pin p (aL _ hp)
 ·have hPt:s.heap.get? P=some (tabObj #[rawInt pos.line,rawInt pos.col,.ref c']):=I.hok P _ hP;refine kla_makeFunctionHit (mg:=X.mg) (cv:=.ref c') hcl I.ok.glob hg hcode C hPt trivial (codeAmong_snoc [] trivial rfl) ⟨bm,ob,b1,b2,hbG,nP _ _ b3 _ hP,I.bk _ _ b3,b4,b5,b6⟩ λctv h' tk hx szh=>?_;generalize hq:X.env.qual++Str.ofString "<lambda>" = q at *;have I1:bW X pins σ H { s with heap:=h'.push (kla_obj "<lambda>" q params body scope [] ((X.mg "__name__").getD .none) c' ctv),toks:=tk }:=I.kept λb o e=>aB _ (hx b o e);refine h h'.objs.size c' ((X.mg "__name__").getD .none) ctv H _ TO hc' (λb o e=>e) (eC ..) (I1.pins_of λp hp=>?_);rcases aV.mp hp with rfl | hp
  ·exact ⟨aP _ rfl,I.hok.fresh szh,Nat.ne_of_gt (bA I.lt szh),I.nofs szh,λv z=>by cases z⟩
  ·exact I1.pin p (aL _ hp)
end
def KM(base h:Heap)(f:Addr):Heap:=wU h λb=>if base.get? b=none/\b≠f then some (.own 0) else none
theorem PD{base h:Heap}{f:Addr}(k:∀b o,base.get? b=some o->h.get? b=some o){b:Addr}{o:Obj}(e:base.get? b=some o):(KM base h f).get? b=some o :=
 wT (k b o e) (if_neg λz=>by rw [e] at z;cases z.1)
theorem KL{base h:Heap}{f:Addr}{o:Obj}(e:h.get? f=some o):(KM base h f).get? f=some o:=wT e (if_neg λz=>z.2 rfl)
theorem VO{base h:Heap}{f:Addr}(k:∀b o,base.get? b=some o->h.get? b=some o){b:Addr}{o:Obj}(e:(KM base h f).get? b=some o):base.get? b=some o\/b=f:=by
 obtain ⟨e1,n⟩:=HS e;by_cases z:b=f
 ·exact .inr z
 ·cases q:base.get? b with
  | none =>
   rw [if_pos ⟨q,z⟩] at n;cases n
  | some o' =>
   rw [k b o' q] at e1;cases e1;exact .inl rfl
theorem RK.more{K:Frag}{mg:Str->Option Value}{b b':Heap}(m:RK K mg b)(k:∀c o,b.get? c=some o->b'.get? c=some o):RK K mg b' :=
 ⟨m.kin.keeps k,m.glob.keeps k,let ⟨mb,h1,h2⟩:=m.blt;⟨mb,h1.keeps k,h2⟩,m.nolimit.keeps k⟩
theorem uS{h base B:Heap}:∀{l:List Env},h.FunFrames base l->(∀b∈frs l,B.get? b=none)->h.FunFrames B l
 | [],_,_=>trivial
 | env::rest,⟨hk,⟨L,o,hf,hn,ho,hd⟩,hr⟩,k=>⟨hk,⟨L,o,hf,k L (by unfold frs;rw [List.filterMap_cons,hf];exact aG ..),ho,hd⟩,uS hr λb hb=>k b (by unfold frs;rw [List.filterMap_cons,hf];exact aH _ hb)⟩
section
variable{X:Cx}{pins:List (Addr × Obj)}{σ:St}{H:Hp}{s:Shared}
theorem bW.envB(I:bW X pins σ H s){B:Heap}{f:Addr}{of:Obj}(hp:(f,of)∈pins)(hm:RK X.K X.mg B)(hB:∀b o,B.get? b=some o->X.base.get? b=some o\/b=f)(hf:B.get? f=some of)(hz:B.objs.size<=s.heap.objs.size):EL X.prog X.w X.K X.mg B X.A X.stack s H:=by
 have e:=I.env0;obtain ⟨p1,p2,p3,p4,_⟩:=I.pin (f,of) (aL _ hp);refine ⟨e.frames,hm,λb o q=>?_,hz,uS e.funs λb hb=>?_,e.frf,e.hok,e.bare⟩
 ·rcases hB b o q with z | rfl
  ·exact I.bs b o z
  ·rw [hf] at q;cases q;exact ⟨p1,p2⟩
 ·cases q:B.get? b with
  | none=>rfl
  | some o =>
   exfalso;rcases hB b o q with z | rfl
   ·have:=(e.funs.mem hb).1;rw [z] at this;cases this
   ·rcases aV.mp (I.stkSub b hb) with z | z
    ·exact p3 z
    ·exact p4 z
end
theorem aAT{P:Program}{w:World}{K:Frag}{mg:Str->Option Value}{B:Heap}{k:Nat}{f c':Addr}{qual:Str}{params:Arguments}{body:Expr}{scope:Scope}{pm ctv:Value}{N ps:List Str}{sp:Sp}
  (hfb:B.get? f=some (kla_obj "<lambda>" qual params body scope [] pm c' ctv)) (S:bK N ps scope) (len:∀vs H Q E,sp vs H Q E->vs.length=ps.length) (hc:∀vs H Q E,sp vs H Q E->H c'=some (tY c' qual))
  (hbody:∀(A:Around) (outer:List Env) (s:Shared) (H:Hp) (vs:List V) (Q:VK) (E:XK),iF k (A.deeper (envOfC qual scope s.heap.objs.size f (.ref c')))->sp vs H Q E ->
   ∃t:TE,fJ (uZ cR P w K mg B N qual scope f (.ref c') A outer s H E).nox body t/\t (start N vs) H Q) :
  dA P w K mg B cR (k+1) f (kla_fn "<lambda>" qual params body scope [] pm (.ref c') ctv) ps sp:=by
 refine ⟨len,λA outer s H args us vs Q E hr e0 hb r hsp=>?_⟩;have hl:=len _ _ _ _ hsp;have lim:s.heap.NoLimit:=e0.mod.nolimit.keeps λb o e=>(e0.bs b o e).1;have hcd:s.heap.CodeRec (.ref c') qual:=(e0.hok c' _ (hc _ _ _ _ hsp)).1;have hkind:∀y∈ps.zip us,scope.names.lookup y.1=some .local\/(scope.names.lookup y.1=some .cell/\((cellsFrom (s.heap.objs.size+1) scope.names []).lookup y.1).isSome=true):=λ⟨n,v⟩ hy=>by
  rcases S.par n (List.of_mem_zip hy).1 with q | q
  ·exact .inl q
  ·exact .inr ⟨q,PySem.W.cellsFrom_some _ _ _ (.inl q)⟩
 refine kla_callFunE hr.depth (e0.bs _ _ hfb).1 rfl S.co S.gen rfl hcd (hb _ _ _ _ ?_);refine wpAny_newFunctionEnv_cells S.kind hkind λenv he s1 x=>?_;subst he;refine ⟨lim.keeps x.toInCall.keep,kla_codeExpr ?_⟩;obtain ⟨t,ht,hq⟩:=hbody A outer s H vs Q E (hr.deeper _) hsp;have I:bW (uZ cR P w K mg B N qual scope f (.ref c') A outer s H E) [] (start N vs) H s1:=yT S hr.hd e0 hl r x;refine wpAny_mono (ht.p.nox [] s1 (start N vs) H _ I hq) (λu s' hs=>?_) λe s' hs=>hs;obtain ⟨v,H',J,rv,q⟩:=hs;exact ⟨v,H',J.os,J.bare,J.base,J.hok,rv,q⟩
section
variable{X:Cx}{pins:List (Addr × Obj)}{σ:St}{H:Hp}{s:Shared}
theorem NO{k:Nat}{f:Addr}{fd:FuncData}{ps:List Str}{sp:Sp}{B:Heap}{of:Obj}(hpf:(f,of)∈pins)(hm:RK X.K X.mg B)(hB:∀b o,B.get? b=some o->X.base.get? b=some o\/b=f)(hfB:B.get? f=some of)(hz':B.objs.size<=f+1)(F:dA X.prog X.w X.K X.mg B cR k f fd ps sp)(hb:sN X.K fd ps [])(hr:iF (k+2) X.A){a kS:Addr}{ys:List V}{vs:List Value}{kz:List (List Int)}{e1:Nat}
  {P:PySem.Fin->Shared->Prop} {E:Value->Shared->Prop} (I:bW X ((kS,seqObj "list" #[] 0)::(a,seqObj "list" #[] e1)::pins) σ H s) (nk:X.s₀.heap.objs.size<=kS) (np:∀p∈X.pn++((a,seqObj "list" #[] e1)::pins),p.1≠kS)
  (rv:cV ys vs) (h64:vs.length<64) (kb:RM sp H ys kz)
  (h:∀(p:Array Nat) (ks:List Value) (e:Nat) (H':Hp) (s':Shared),aW H H'->bW X ((kS,seqObj "list" (List.toArray ks) e)::(a,seqObj "list" #[] e1)::pins) σ H' s'->eV vs.length p->(xI vs.length (sO kz)->sQ (sO kz) p vs.length) ->
   P (.done (.ret .none)) { s' with heap:=(s'.heap.update kS (Obj.mapSeq λ_=>#[])).update a (Obj.mapSeq λ_=>List.toArray (p.toList.map λi=>vs.getD i Value.none)) }) :
  wpAny (model X.prog X.w) X.A.in1.in1 (ksk_rest a (.ref f) false vs.toArray e1 (.ref kS)) P E s:=by
 obtain ⟨kl,kn,kc⟩:=kb;have lv:=rv.length;have ne:a≠kS:=np (a,seqObj "list" #[] e1) (aL _ (aG ..));unfold ksk_rest;refine wpAny_bind (wpAny_rule ?_);rw [List.forIn_toArray];refine wpAny_bind (ksk_fold (λi s'=>∃(H':Hp) (ks:List Value) (kv:List V) (e:Nat),bW X ((kS,seqObj "list" (List.toArray ks) e)::(a,seqObj "list" #[] e1)::pins) σ H' s'/\aW H H'/\cV kv ks/\aX H' ((kz.take i).map VP) kv) vs 0 s
  ⟨H,[],[],0,I,aW.refl _,.nil,aX.nil⟩ (λj x s' hx hI=>?_) λs' hI=>?_)
 ·obtain ⟨H',ks,kv,e,I',sH,rk,rr⟩:=hI;rw [Nat.zero_add] at rr ⊢;have hj:j<vs.length:=(aY.mp hx).1;obtain ⟨y,hy,ry⟩:∃y,ys[j]?=some y/\dF y x:=by
   obtain ⟨u,hu,ru⟩:=rv.get (i:=j) (x:=ys[j]'Oo) (by simp [show j<ys.length by omega]);rw [hx] at hu;cases hu;exact ⟨_,aD Oo,ru⟩
  obtain ⟨kk,hkk⟩:∃kk,kz[j]?=some kk:=⟨_,aD Oo⟩;have lk:ks.length=min j kz.length:=by rw [<-rk.length,rr.len,aA,dE]
  have spec:=kc j y kk H' hy hkk sH;have hl:([x]++([]:List Value)).length=ps.length:=by rw [<-F.len _ _ _ _ spec];rfl
  have run:=F.run X.A.in1.in1 X.stack s' H' ⟨[x],[]⟩ [x] [y] _ E0 hr.in1.in1 (I'.envB (aH _ (aH _ hpf)) hm hB hfB (bG hz' (aT (I'.pin (f,of) (aL _ (aH _ (aH _ hpf)))).1))).in1.in1 (hb s' [x] I'.kIn hl) (.cons ry .nil) spec;refine wpAny_bind (wpAny_attempt (wpAny_call (codeAny_mono run λr s2 hq=>?_)));cases r with
  | error e=>exact False.elim hq
  | ok fl =>
   cases fl with
   | next=>exact False.elim hq
   | brk=>exact False.elim hq
   | cont=>exact False.elim hq
   | ret u =>
    obtain ⟨v,H2,I2,rvu,s2',rkey⟩:=I'.after hq;dsimp only;have pk:=I2.pin (kS,seqObj "list" (List.toArray ks) e) (aL _ (aG ..));have ea:(List.toArray ks).push u=List.toArray (ks++[u]):=by simp
    obtain ⟨c2,hc2⟩:∃c2,(s2.heap.update kS (Obj.mapSeq (·.push u))).get? kS=some (seqObj "list" (List.toArray (ks++[u])) c2):=⟨_,by rw [<-ea];exact get?_update_seq pk.1 (·.push u)⟩;refine wpAny_bind (listUpdate_at pk.1 rfl ?_ (by rw [aQ,sizeLine_eq];omega) (bG (Nat.le_of_eq (Array.size_push ..)) (by rw [aQ,sizeLine_eq];omega)));have I3:bW X ((a,seqObj "list" #[] e1)::pins) σ H2 s2:=I2.pins_of λp hp=>I2.pin p (aL _ (aH _ hp));have I4:=I3.turned (it:=kS) (h':=s2.heap.update kS (Obj.mapSeq (·.push u))) (t':=s2.toks) (λb o nb hb=>by rw [cU _ _ _ _ nb];exact hb) pk.2.1 pk.2.2.1 (.inr nk) (λx c hc z=>by
     obtain ⟨v,o,ho,hd⟩:=I3.cell x c hc;rw [z,pk.1] at ho;cases ho;exact pk.2.2.2.2 v hd) np
    refine wpAny_pure ⟨rfl,H2,ks++[u],kv++[v],c2,?_,sH.trans s2',rk.snoc' rvu,?_⟩
    ·refine I4.pins_of λp hp=>?_;rcases aV.mp hp with rfl | hp
     ·exact ⟨hc2,pk.2.1,pk.2.2.1,pk.2.2.2.1,λv=>by intro z;cases z⟩
     ·exact I4.pin p (aL _ hp)
    ·rw [eQ,hkk,bF];exact aX.snoc (rr.flat s2'.t (DK _)) rkey
 ·obtain ⟨H',ks,kv,e,I',sH,rk,rr⟩:=hI;rw [Nat.zero_add,List.take_of_length_le Oo] at rr;have pk:=I'.pin (kS,seqObj "list" (List.toArray ks) e) (aL _ (aG ..));have pa:=I'.pin (a,seqObj "list" #[] e1) (aL _ (aH _ (aG ..)));refine wpAny_bind (listItems_at pk.1 rfl ?_);have lk:ks.length=vs.length:=by rw [<-rk.length,rr.len,aA];omega
  refine ZE (kz:=kz) lk h64 hr.in1.in1.units (PF I' rr kn rk) pk.1 pa.1 ne λp g1 g2=>?_;exact h p ks e H' s' sH I' g1 g2
end
section
variable{X:Cx}{pins:List (Addr × Obj)}{σ:St}{H:Hp}{s:Shared}
theorem FN{K:PySem.W.Frag}(hK:X.K=K){k:Nat}{f:Addr}{fd:FuncData}{ps:List Str}{sp:Sp}{B:Heap}{of:Obj}(hpf:(f,of)∈pins)(hm:RK X.K X.mg B)(hB:∀b o,B.get? b=some o->X.base.get? b=some o\/b=f)(hfB:B.get? f=some of)(hz':B.objs.size<=f+1)(F:dA X.prog X.w X.K X.mg B cR k f fd ps sp)(hb:sN X.K fd ps [])(hr:iF (k+2) X.A){x:V}{u:Value}{Q:VK}(I:bW X pins σ H s)(rx:dF x u)(q:HG K sp x H Q) :
  wpAny (model X.prog X.w) X.A (call (.builtin "sorted") [u] [(Str.ofString "key",.ref f)]) (EP X pins σ Q) X.xe s:=by
 subst hK;unfold HG at q;obtain ⟨l,ys,kz,rfl,hq,hz,kb,q⟩:=q;cases (show u=Value.ref l from rx);obtain ⟨vs,rv,pl,hzz⟩:=I.list hq;have lv:=rv.length;obtain ⟨o,n,ho,hcl,hdd,hd⟩:=pl;have hl:s.heap.IsList l vs.toArray:=⟨o,ho,hcl,n,hd⟩;have h64:vs.length<64:=Oo;refine call_function_entry_kw kind_sorted plain_sorted entry_sorted (ksk_s1 _ _) ?_;unfold Builtin.«sorted»;refine wpAny_bind (m:=checkCount _ _ _ _) (wpAny_pure ?_);refine wpAny_bind (collect_list hl ?_ (by rw [sizeLine_eq];omega));have sz0:s.heap.objs.size<=((s.heap.push (seqObj "list" #[] 0)).update s.heap.objs.size (Obj.mapSeq (· ++ vs.toArray))).objs.size:=by rw [Heap.size_update,size_push'];omega
 have kp0:∀b o,s.heap.get? b=some o->((s.heap.push (seqObj "list" #[] 0)).update s.heap.objs.size (Obj.mapSeq (· ++ vs.toArray))).get? b=some o:=λb o hb=>by
  have lt:b<s.heap.objs.size:=aT hb;rw [cU _ _ _ _ (bS lt)];exact aB _ hb
 generalize (s.heap.push (seqObj "list" #[] 0)).update s.heap.objs.size (Obj.mapSeq (· ++ vs.toArray))=h1 at sz0 kp0 ⊢;refine wpAny_bind (wpAny_newList ?_ (by rw [sizeLine_eq];omega));have gD:(h1.push (seqObj "list" vs.toArray 0)).get? h1.objs.size=some (seqObj "list" vs.toArray 0):=aP _ rfl;have sz1:(h1.push (seqObj "list" vs.toArray 0)).objs.size=h1.objs.size+1:=size_push' ..;have kp1:∀b o,s.heap.get? b=some o->(h1.push (seqObj "list" vs.toArray 0)).get? b=some o:=λb o hb=>aB _ (kp0 b o hb);show wpAny _ _ _ _ _ { s with heap:=h1.push (seqObj "list" vs.toArray 0) };generalize hD:h1.objs.size=D at *;generalize h1.push (seqObj "list" vs.toArray 0)=h2 at gD sz1 kp1 ⊢;refine wpAny_bind (wpAny_holding (wpAny_call_entry_kw slot_list_sort ⟨_,gD,rfl⟩ entry_list_sort ?_ (ksk_l1 _ _)));show wpAny (model X.prog X.w) X.A.in1.in1 (Builtin.«list.sort» ⟨[.ref D],[(Str.ofString "key",.ref f)]⟩) _ _ _;rw [ksk_t1];unfold ksk_tree;refine wpAny_bind (listItems_at gD rfl ?_);refine wpAny_bind (listUpdate_at gD rfl ?_ (by rw [aQ,sizeLine_eq];omega) (cK _));obtain ⟨e1,g1⟩:∃e1,(h2.update D (Obj.mapSeq λ_=>(#[]:Array Value))).get? D=some (seqObj "list" #[] e1):=⟨_,get?_update_seq gD λ_=>#[]⟩;have sz2:(h2.update D (Obj.mapSeq λ_=>(#[]:Array Value))).objs.size=D+1:=by rw [Heap.size_update];exact sz1
 have kp2:∀b o,s.heap.get? b=some o->(h2.update D (Obj.mapSeq λ_=>(#[]:Array Value))).get? b=some o:=λb o hb=>by
  have lt:b<s.heap.objs.size:=aT hb;rw [cU _ _ _ _ (bS (bA lt sz0))];exact kp1 b o hb
 show wpAny _ _ _ _ _ { s with heap:=h2.update D (Obj.mapSeq λ_=>(#[]:Array Value)) };generalize h2.update D (Obj.mapSeq λ_=>(#[]:Array Value))=h3 at g1 sz2 kp2 ⊢;refine wpAny_bind (seqEpoch_at g1 rfl ?_);refine wpAny_bind (wpAny_newTuple ?_ (by show vs.length<=_;rw [sizeLine_eq];omega));refine wpAny_bind (wpAny_newList ?_ (cK _));refine wpAny_holding ?_;have g2:((h3.push (seqObj "tuple" vs.toArray 0)).push (seqObj "list" #[] 0)).get? D=some (seqObj "list" #[] e1):=aB _ (aB _ g1);have g3:((h3.push (seqObj "tuple" vs.toArray 0)).push (seqObj "list" #[] 0)).get? (h3.push (seqObj "tuple" vs.toArray 0)).objs.size=some (seqObj "list" #[] 0):=aP _ rfl;have sz3:(h3.push (seqObj "tuple" vs.toArray 0)).objs.size=D+2:=by rw [size_push',sz2]
 have kp3:∀b o,s.heap.get? b=some o->((h3.push (seqObj "tuple" vs.toArray 0)).push (seqObj "list" #[] 0)).get? b=some o:=λb o hb=>aB _ (aB _ (kp2 b o hb));show wpAny _ _ (ksk_rest D (.ref f) false vs.toArray e1 (.ref (h3.push (seqObj "tuple" vs.toArray 0)).objs.size)) _ _ { s with heap:=(h3.push (seqObj "tuple" vs.toArray 0)).push (seqObj "list" #[] 0) };rw [sz3] at g3 ⊢;generalize (h3.push (seqObj "tuple" vs.toArray 0)).push (seqObj "list" #[] 0)=h4 at g2 g3 kp3 ⊢;have I0:bW X pins σ H { s with heap:=h4 }:=I.kept (t':=s.toks) kp3;have dD:s.heap.objs.size<=D:=sz0;have dD2:s.heap.objs.size<=D+2:=bG sz0 (Nat.le_add_right _ _);have nDD:D≠D+2:=bS (Nat.lt_add_of_pos_right Dd);have lL:=I.lt;have hpin:∀p∈X.pn++pins,p.1<s.heap.objs.size:=λp hp=>aT (I.pin p hp).1;have I1:bW X ((D+2,seqObj "list" #[] 0)::(D,seqObj "list" #[] e1)::pins) σ H { s with heap:=h4 }:=I0.pins_of λp hp=>by
  rcases aV.mp hp with rfl | hp
  ·exact ⟨g3,I.hok.fresh dD2,Nat.ne_of_gt (bA lL dD2),I.nofs dD2,λv z=>by cases z⟩
  rcases aV.mp hp with rfl | hp
  ·exact ⟨g2,I.hok.fresh dD,Nat.ne_of_gt (bA lL dD),I.nofs dD,λv z=>by cases z⟩
  exact I0.pin p (aL _ hp)
 have sz00:=I.sz;refine NO hpf hm hB hfB hz' F hb hr I1 (bG sz00 dD2) (λp hp=>?_) rv h64 kb λp ks e H' s' sH I' hg ha=>?_
 ·rcases cM.mp hp with hp | hp
  ·exact bS (bA (hpin p (cQ _ hp)) dD2)
  rcases aV.mp hp with rfl | hp
  ·exact nDD
  ·exact bS (bA (hpin p (aL _ hp)) dD2)
 have pk:=I'.pin (D+2,seqObj "list" (List.toArray ks) e) (aL _ (aG ..));have pa:=I'.pin (D,seqObj "list" #[] e1) (aL _ (aH _ (aG ..)));have Ip:bW X pins σ H' s':=I'.pins_of λp hp=>I'.pin p (aL _ (aH _ (aH _ hp)));have hperm:p.toList.Perm (List.range ys.length):=by
  have:=(Array.perm_iff_toList_perm.mp hg);rw [lv];simpa using this
 have hlt:∀i∈p.toList,i<ys.length:=λi hi=>by
  have:=hperm.mem_iff.mp hi;simpa using this
 have hl2:(p.toList.map λi=>ys.getD i .non).length=ys.length:=by rw [aA,hperm.length_eq,bO]
 have hDn:H' D=none:=pa.2.1;have gfin:((s'.heap.update (D+2) (Obj.mapSeq λ_=>(#[]:Array Value))).update D (Obj.mapSeq λ_=>List.toArray (p.toList.map λi=>vs.getD i Value.none))).get? D=some (seqObj "list" (List.toArray (p.toList.map λi=>vs.getD i Value.none)) _) :=
  get?_update_seq (show (s'.heap.update (D+2) (Obj.mapSeq λ_=>(#[]:Array Value))).get? D=some (seqObj "list" #[] e1) by rw [cU _ _ _ _ nDD];exact pa.1) λ_=>List.toArray (p.toList.map λi=>vs.getD i Value.none)
 have kfin:∀b o,b≠D->b≠D+2->s'.heap.get? b=some o->((s'.heap.update (D+2) (Obj.mapSeq λ_=>(#[]:Array Value))).update D (Obj.mapSeq λ_=>List.toArray (p.toList.map λi=>vs.getD i Value.none))).get? b=some o:=λb o n1 n2 hb=>by
  rw [cU _ _ _ _ n1,cU _ _ _ _ n2];exact hb
 generalize (s'.heap.update (D+2) (Obj.mapSeq λ_=>(#[]:Array Value))).update D (Obj.mapSeq λ_=>List.toArray (p.toList.map λi=>vs.getD i Value.none))=h5 at gfin kfin ⊢;refine ⟨_,rfl,wpAny_pure ⟨_,rfl,?_⟩⟩;have nn:∀b u,H' b=some u->b≠D/\b≠D+2:=λb u hb=>⟨(λz=>by rw [z,hDn] at hb;exact nomatch hb),(λz=>by rw [z,pk.2.1] at hb;exact nomatch hb)⟩;have ncell:∀x c,X.env.cells.lookup x=some c->c≠D/\c≠D+2:=λx c hc=>by
  obtain ⟨v,o,ho,hd⟩:=Ip.cell x c hc;refine ⟨λz=>?_,λz=>?_⟩
  ·rw [z,pa.1] at ho;cases ho;exact pa.2.2.2.2 v hd
  ·rw [z,pk.1] at ho;cases ho;exact pk.2.2.2.2 v hd
 have mem2:∀b,b ∉ [D,D+2]->b≠D/\b≠D+2:=λb hb=>⟨λz=>hb (by simp [z]),λz=>hb (by simp [z])⟩;refine ⟨.ref D,upd H' D (.lst (p.toList.map λi=>ys.getD i .non)),Ip.step (g':=s'.gens) (d':=s'.drawn) (t':=s'.toks) (ch:=[D,D+2]) (λb hb=>?_) (λb o _ _ hc g _=>kfin b o (mem2 b hc).1 (mem2 b hc).2 g) (λb o _ _ hc g _=>⟨o.slots,kfin b o (mem2 b hc).1 (mem2 b hc).2 g⟩)
  (λb o hc g n=>by rw [bP (mem2 b hc).1];exact n) (λb o hc g=>⟨o,kfin b o (mem2 b hc).1 (mem2 b hc).2 g⟩) (λb xs g=>by rw [bP (nn b _ g).1];exact g) (λb o u g=>by rw [bP (nn b _ g).1];exact g) (λb ps g=>⟨#[],by rw [bP (nn b _ g).1,g];simp⟩)
  (λm hm=>?_) (λb u g=>?_) Ip.bare,rfl,?_⟩
 ·rcases aV.mp hb with rfl | hb
  ·exact ⟨.inr (bG sz00 dD),pa.2.2.1,λx c hc=>(ncell x c hc).1,λp hp=>bS (bA (hpin p hp) dD)⟩
  ·rw [bM.mp hb];exact ⟨.inr (bG sz00 dD2),pk.2.2.1,λx c hc=>(ncell x c hc).2,λp hp=>bS (bA (hpin p hp) dD2)⟩
 ·obtain ⟨o,es,ep,ho,r⟩:=hm;exact ⟨o,es,ep,kfin _ o (Ne.symm pa.2.2.1) (Ne.symm pk.2.2.1) ho,r⟩
 ·by_cases hbD:b=D
  ·subst hbD;rw [bE] at g;cases g;exact ⟨by rw [hl2];exact hzz,_,_,vG rv _ hlt,gfin⟩
  ·rw [bP hbD] at g;refine (Ip.hok b u g).stay (λc v hc r=>?_) (λc r=>by rw [bP (nn c _ r).1];exact r) λc xs r=>by rw [bP (nn c _ r).1];exact r
   have nc:c≠D/\c≠D+2:=by
    rcases hc with rfl | hc
    ·exact nn c u g
    ·exact nn c _ hc
   exact kfin c v nc.1 nc.2 r
 ·refine q D p.toList _ hperm (λnd=>?_) (I.hok.fresh dD) bE (λb o g=>?_)
  ·have:=kb.1;exact QY hg (ha (by have:=FT nd;rwa [kb.1,lv] at this))
  ·have g':=sH b o g;rw [bP (nn b o g').1];exact g'
end
def spL(N:List Str)(c':Addr)(q:Str)(te:TE):Sp:=λvs H Q _=>vs.length=1/\H c'=some (tY c' q)/\te (start N vs) H Q
@[irreducible] def OC(K:PySem.W.Frag)(P:Addr)(qn:Str)(pos:Pos)(N:List Str)(te:TE)(x:V)(H:Hp)(Q:VK):Prop:=∃(p:Addr) (ys:List V) (kz:List (List Int)),x=.ref p/\eZ K H p ys/\ys.length<64/\jE H P qn pos/\kz.length=ys.length/\(∀k∈kz,k≠[]) /\
 (∀(i:Nat) (y:V) (k:List Int) (H':Hp),ys[i]?=some y->kz[i]?=some k->aS P H H'->te (start N [y]) H' λv H''=>aW H' H''/\bQ H'' (VP k) v) /\
 ∀(D:Addr) (ix:List Nat) (H':Hp),ix.Perm (List.range ys.length)->(kz.Nodup->(ix.map λi=>kz.getD i []).Pairwise λa b=>jG a b=true)->H D=none->H' D=some (.lst (ix.map λi=>ys.getD i .non))->aS P H H'->jE H' P qn pos->Q (.ref D) H'
def aBH(K:PySem.W.Frag)(P:Addr)(qn:Str)(pos:Pos)(N:List Str)(te ta:TE):TE:=λσ H Q=>ta σ H λx H1=>OC K P qn pos N te x H1 Q
theorem jE.same{H H':Hp}{P:Addr}{q:Str}{pos:Pos}(t:jE H P q pos)(s:aW H H'):jE H' P q pos:=⟨t.ex.elim (λh=>.inl (s _ _ h)) λ⟨c',h1,h2⟩=>.inr ⟨c',s _ _ h1,s _ _ h2⟩⟩
theorem jE.at_{H:Hp}{P:Addr}{q:Str}{pos:Pos}(t:jE H P q pos):∃ps,H P=some (.tbl ps):=t.ex.elim (λh=>⟨_,h⟩) λ⟨c',h1,_⟩=>⟨_,h1⟩
theorem eZ.butT{K:Frag}{H H':Hp}{P p:Addr}{xs:List V}{ps:Array Value}(b:aS P H H')(hP:H P=some (.tbl ps))(h:eZ K H p xs):eZ K H' p xs:=by
 rcases h with (h | ⟨o,h⟩) | h
 ·exact .inl (.inl (b.at (λz=>by rw [z,hP] at h;cases h) h))
 ·exact .inl (.inr ⟨o,b.at (λz=>by rw [z,hP] at h;cases h) h⟩)
 ·exact .inr h
theorem aS.same{P:Addr}{H H1 H2:Hp}(b:aS P H H1)(s:aW H1 H2):aS P H H2:=λc o e=>by
 have n:=eM.ne e;rw [eM.at n] at e;exact eM.of n (s _ _ (b.at n e))
section
variable{X:Cx}
theorem SJ(K:PySem.W.Frag){P c:Addr}{N:List Str}{z:Str}{params:Arguments}{body:Expr}{scope:Scope}{lpos:Pos}{te:TE}{k:Nat}{a:Expr}{ta:TE}{p pos kp:Pos}{qn:Str}(hcode:X.env.code=.ref c)(hh:KW X.K c P=true)(hbm:BM X.mg X.base)
  (S:bK N [z] scope) (hbi:∀(pm ctv:Value) (c':Addr) (u:Value),bindArgs (kla_fn "<lambda>" (X.env.qual ++ "<lambda>") params body scope [] pm (.ref c') ctv) ⟨[u],[]⟩=pure [(z,u)])
  (hbody:∀(B:Heap) (f c':Addr) (A:Around) (outer:List Env) (s:Shared) (H:Hp) (E:XK),iF k (A.deeper (envOfC (X.env.qual ++ "<lambda>") scope s.heap.objs.size f (.ref c'))) ->
   fJ (uZ cR X.prog X.w X.K X.mg B N (X.env.qual ++ "<lambda>") scope f (.ref c') A outer s H E).nox body te)
  (hr:iF (k+1+2) X.A) (hg:Gl X "sorted") (hmg:X.mg "sorted" = none) (ha:fJ X a ta) (hqn:X.env.qual ++ "<lambda>" = qn) (hcl:closureFor scope X.env=pure []:=by rfl) (hdef:defaultsOf params X.env=([],[]):=by rfl) (hK:X.K=K:=by rfl)
  (he:eval (.Call (.Name "sorted" p) [a] [⟨some "key",.Lambda params body scope lpos,kp⟩] pos) X.env=(do callWith pos (<-eval (.Name "sorted" p) X.env) [] (backTo pos (starEach [a] X.env)) (backToKw pos (keywordEach [⟨some "key",.Lambda params body scope lpos,kp⟩] X.env))):=by rfl)
  (hs:starEach [a] X.env=[(false,eval a X.env)]:=by first | exact fR | exact fI | exact cY | rfl) :
  fJ X (.Call (.Name "sorted" p) [a] [⟨some "key",.Lambda params body scope lpos,kp⟩] pos) (aBH K P qn lpos N te ta):=⟨by
 intro pins s σ H Q I h;rw [he];refine wpAny_bind (oY I hg hmg EB ?_);have hbk:backTo pos (starEach [a] X.env)=[(false,eval a X.env)]:=by rw [hs];rfl
 refine PyProof.Rows.callWith_kw ?_ (by rw [hbk];rfl) (by rw [hbk];rfl) rfl rfl;rw [hbk];refine Calls.spliced_cons (thn (ha.p pins s σ H _ I h) λu s1 ⟨x,H1,I1,rx,q1⟩=>Calls.spliced_nil ?_);unfold OC at q1;obtain ⟨l,ys,kz,rfl,hq,hz,TO,kl,kn,kc,q⟩:=q1;subst hqn;obtain ⟨ps0,hP⟩:=TO.at_;refine kws_cons (aAR I1 hcode hh hbm hcl hdef TO λf c' pm ctv H2 s2 T2 hc2 b2 sz I2=>?_);refine kws_nil ?_;have k2:∀b o,X.base.get? b=some o->s2.heap.get? b=some o:=I2.bk;have pf:=I2.pin (f,kla_obj "<lambda>" (X.env.qual ++ "<lambda>") params body scope [] pm c' ctv) (aL _ (aG ..));have hfB:=KL (base:=X.base) pf.1;have mB:RK X.K X.mg (KM X.base s2.heap f):=I2.mod.more λb o e=>PD k2 e;have FL:dA X.prog X.w X.K X.mg (KM X.base s2.heap f) cR (k+1) f (kla_fn "<lambda>" (X.env.qual ++ "<lambda>") params body scope [] pm (.ref c') ctv) [z] (spL N c' (X.env.qual ++ "<lambda>") te) :=
  aAT hfB S (λvs H Q E h=>h.1) (λvs H Q E h=>h.2.1) λA outer s H vs Q E hr h=>⟨te,hbody _ f c' A outer s H E hr,h.2.2⟩
 have q2:HG X.K (spL N c' (X.env.qual ++ "<lambda>") te) (.ref l) H2 Q:=by
  unfold HG;refine ⟨l,ys,kz,rfl,eZ.butT b2 hP (by rw [hK];exact hq),hz,⟨kl,kn,λi y kk H' h1 h2 s'=>⟨rfl,s' _ _ hc2,kc i y kk H' h1 h2 (b2.same s')⟩⟩,λD ix H' p1 p2 p3 p4 p5=>q D ix H' p1 p2 ?_ p4 (b2.same p5) (T2.same p5)⟩;cases e:H1 D with
  | none=>rfl
  | some o =>
   by_cases zz:D=P
   ·obtain ⟨ps2,hP2⟩:=T2.at_;rw [zz,hP2] at p3;cases p3
   ·rw [b2.at zz e] at p3;cases p3
 refine wpAny_mono (FN rfl (aG ..) mB (λb o e=>VO k2 e) hfB (Nat.le_of_eq (by unfold KM;rw [yV];exact sz)) FL (.all λus hl=>?_) hr I2 rx q2) (λv s' ⟨y,H',J,r1,r2⟩=>⟨y,H',J.pins_of λp hp=>J.pin p (aL _ (aH _ hp)),r1,r2⟩) λ_ _ e=>e;obtain ⟨u',rfl⟩:∃u',us=[u']:=by
  cases us with
  | nil=>simp at hl
  | cons u' r =>
   cases r with
   | nil=>exact ⟨u',rfl⟩
   | cons _ _=>simp at hl
 exact hbi pm ctv c' u'⟩
end
end L2
namespace L2
open PySem PySem.Spec PySem.W PyProof.Rows
structure IW(tabs:List (Addr × Addr))(H:Hp):Prop where
 all:∀b,H b=none\/(∃o xs,H b=some (.frz o (.lst xs)))\/(H b=some (.tbl #[])/\b∈tabs.map (·.2))
 tab:∀q∈tabs,H q.2=some (.tbl #[])
theorem KJ{P:Program}{w:World}{K:PySem.W.Frag}{mg mb:Str->Option Value}{CX:MB}{k:Nat}{fa a:Addr}{fd:FuncData}{x:Str}{sp:Sp}{s₁:Shared}{vs:List Value}{ns:List Int}{tabs:List (Addr × Addr)}
  (KX:K.In s₁.heap) (hns:s₁.heap.Ns mainGlobals mg) (hb:s₁.heap.Ns builtinsNs mb) (hbb:∀x:Str,x ≠ "__name__" -> mb x=bootBuiltins x) (hlim:s₁.heap.NoLimit) (hg:s₁.gens=#[])
  (ha:s₁.heap.get? a=some { cls:=.type "list",data:=.seq vs.toArray }) (hi:IntsAre vs ns) (hl:ns.length<=sizeLine) (hr:iF k callerA) (hT:∀q∈tabs,CodeHd s₁.heap q.1 q.2/\s₁.heap.get? q.2=some (tabObj #[])) (hTK:∀q∈tabs,K.lookup q.2=none) (hbm:BM mg s₁.heap)
  (F:∀base:Heap,K.In base->base.Ns mainGlobals mg->BM mg base->dA P w K mg base CX k fa fd [x] sp) (hbind:∀(s:Shared) (u:Value),BindsTo s fd ⟨[u],[]⟩ [(x,u)])
  (hsp:∀H:Hp,IW tabs H->eZ K H a (ns.map V.int)->sp [.ref a] H (λv _=>v=.bl true) λ_ _ _=>False)
  (hCX:∀H e s',CX [] H s₁ (λ_ _ _=>False) e s'->False) :
  codeAny (model P w) callerA (.call (.ref fa) ⟨[.ref a],[]⟩) (λr s'=>r=.ok (.ret (.bool true))/\OldK s₁.heap s'.heap/\s'.os=s₁.os/\AllBare s'.gens) s₁:=by
 have rv:=xZ hi;have lenV:=hi.length;have tabAt:∀b∈tabs.map (·.2),s₁.heap.get? b=some (tabObj #[])/\K.lookup b=none/\isCodeTable s₁.heap b:=λb hb=>by
  obtain ⟨q,hq,rfl⟩:=aK.mp hb;exact ⟨(hT q hq).2,hTK q hq,((hT q hq).1.tab (hT q hq).2).isCodeTable⟩
 have naT:a ∉ tabs.map (·.2):=λz=>by
  have:=(tabAt a z).1;rw [ha] at this;cases this
 have core:∀H:Hp,IW tabs H->eZ K H a (ns.map V.int)->nU P w H s₁.heap->(∀b,H b≠none->b=a\/b∈tabs.map (·.2))->(H a≠none->K.lookup a=none) ->
   codeAny (model P w) callerA (.call (.ref fa) ⟨[.ref a],[]⟩) (λr s'=>r=.ok (.ret (.bool true))/\OldK s₁.heap s'.heap/\s'.os=s₁.os/\AllBare s'.gens) s₁:=by
  intro H hO hS hok hA hK;have base_of:∀{b:Addr} {o:Obj},s₁.heap.get? b=some o->H b=none->(wU s₁.heap H).get? b=some o:=λe n=>wT e n;have untr:∀{b:Addr} {o:Obj},s₁.heap.get? b=some o->o ≠ { cls:=.type "list",data:=.seq vs.toArray }->o≠tabObj #[]->H b=none:=λ{b o} e n1 n2=>by
   cases q:H b with
   | none=>rfl
   | some u =>
    exfalso;rcases hA b (by rw [q];simp) with rfl | z
    ·rw [ha] at e;cases e;exact n1 rfl
    ·rw [(tabAt b z).1] at e;cases e;exact n2 rfl
  have noA:∀{b:Addr} {o:Obj} {es:Array DictEntry} {ep:Nat},s₁.heap.get? b=some o->o.data=.dict es ep->H b=none:=λ{b o es ep} e d =>
   untr e (λz=>by rw [z] at d;cases d) (λz=>by rw [z] at d;cases d)
  have nsK:∀{b:Addr} {m:Str->Option Value},s₁.heap.Ns b m->(wU s₁.heap H).Ns b m:=λ{b m} ⟨o,es,ep,e,d,r⟩=>⟨o,es,ep,base_of e (noA e d),d,r⟩;have hKb:K.In (wU s₁.heap H):=λb o e=>base_of (KX b o e) (by
   cases q:H b with
   | none=>rfl
   | some u =>
    exfalso;rcases hA b (by rw [q];simp) with rfl | z
    ·rw [hK (by rw [q];simp)] at e;cases e
    ·rw [(tabAt b z).2.1] at e;cases e)
  have hbmB:BM mg (wU s₁.heap H):=by
   obtain ⟨bm,ob,h1,h2,h3,h4,h5,h6⟩:=hbm;exact ⟨bm,ob,h1,h2,base_of h3 (untr h3 (λz=>by rw [z] at h6;cases h6) (λz=>by rw [z] at h6;cases h6)),h4,h5,h6⟩
  have hM:RK K mg (wU s₁.heap H):=⟨hKb,nsK hns,⟨mb,nsK hb,hbb⟩,let ⟨mc,h1,h2⟩:=hlim;⟨mc,nsK h1,h2⟩⟩;have e0:EL P w K mg (wU s₁.heap H) callerA [] s₁ H:=⟨rfl,hM,λb o e=>HS e,Nat.le_of_eq (yV _ _),trivial,λb hb=>absurd (show b∈([]:List Addr) from hb) (by simp),hok,.of_eq hg⟩;refine codeAny_mono ((F _ hKb (nsK hns) hbmB).run callerA [] s₁ H ⟨[.ref a],[]⟩ [.ref a] [.ref a] _ _ hr e0 (hbind s₁ (.ref a)) (.cons rfl .nil) (hsp H hO hS)) λr s' h=>?_;cases r with
  | error e=>exact (hCX H e s' h).elim
  | ok fl =>
   cases fl with
   | next=>exact False.elim h
   | brk=>exact False.elim h
   | cont=>exact False.elim h
   | ret u =>
    obtain ⟨v,H',os,bare,un,hok',r',q⟩:=h;have q':v=.bl true:=q;subst q';obtain rfl:u=Value.bool true:=r';have key:∀b o,s₁.heap.get? b=some o->s'.heap.get? b=some o\/(isCodeTable s₁.heap b/\o=tabObj #[]/\∃ps,s'.heap.get? b=some (tabObj ps)):=λb o e=>by
     rcases hO.all b with z | ⟨ob,xs,z⟩ | ⟨z,hm⟩
     ·exact .inl (un.keep b o e z (by intro z;exact absurd (show b∈([]:List Addr) from z) (by simp)) (by simp))
     ·have z2:=un.frzs b ob _ z;obtain ⟨e1,_⟩:=hok b _ z;obtain ⟨e2,_⟩:=hok' b _ z2;rw [e] at e1;cases e1;exact .inl e2
     ·obtain ⟨more,z2⟩:=un.tbls b _ z;have e1:=(tabAt b hm).1;rw [e] at e1;cases e1;exact .inr ⟨(tabAt b hm).2.2,rfl,_,hok' b _ z2⟩
    refine ⟨rfl,⟨λb o e=>?_,λb o e=>?_⟩,os,bare⟩
    ·rcases key b o e with z | ⟨ht,rfl,ps,z⟩
     ·exact .inl z
     ·exact .inr (.inl ⟨ht,rfl,#[],ps,rfl,by rw [Array.empty_append];exact z⟩)
    ·rcases key b o e with z | ⟨_,_,ps,z⟩
     ·exact ⟨o,z⟩
     ·exact ⟨_,z⟩
 cases hk:K.lookup a with
 | some o =>
  have e:=KX a o hk;rw [ha] at e;cases e;refine core (λb=>if b∈tabs.map (·.2) then some (.tbl #[]) else none) ⟨λb=>?_,λq hq=>if_pos (List.mem_map_of_mem hq)⟩ (.inr ⟨_,vs.toArray,_,hk,rfl,rfl,rfl,by rw [aQ,lenV];exact hl,by simpa using rv⟩) (λb u z=>?_) (λb z=>?_) λz=>absurd (if_neg naT) z
  ·by_cases hb:b∈tabs.map (·.2)
   ·exact .inr (.inr ⟨if_pos hb,hb⟩)
   ·exact .inl (if_neg hb)
  ·by_cases hb:b∈tabs.map (·.2)
   ·have z':=(if_pos hb).symm.trans z;cases z';exact (tabAt b hb).1
   ·have z':=(if_neg hb).symm.trans z;cases z'
  ·by_cases hb:b∈tabs.map (·.2)
   ·exact .inr hb
   ·exact absurd (if_neg hb) z
 | none =>
  refine core (λb=>if b=a then some (.frz { cls:=.type "list",data:=.seq vs.toArray } (.lst (ns.map V.int))) else if b∈tabs.map (·.2) then some (.tbl #[]) else none) ⟨λb=>?_,λq hq=>?_⟩ (.inl (.inr ⟨{ cls:=.type "list",data:=.seq vs.toArray },if_pos rfl⟩)) (λb u z=>?_) (λb z=>?_) λ_=>hk
  ·by_cases hb:b=a
   ·exact .inr (.inl ⟨_,_,if_pos hb⟩)
   ·by_cases hb2:b∈tabs.map (·.2)
    ·exact .inr (.inr ⟨(if_neg hb).trans (if_pos hb2),hb2⟩)
    ·exact .inl ((if_neg hb).trans (if_neg hb2))
  ·have hm:q.2∈tabs.map (·.2):=List.mem_map_of_mem hq;exact (if_neg (show ¬q.2=a from λz=>naT (z ▸ hm))).trans (if_pos hm)
  ·by_cases hb:b=a
   ·have z':=(if_pos hb).symm.trans z;cases z';subst hb;exact ⟨ha,by rw [aA];exact hl,vs,_,rv,ha⟩
   ·have z1:=(if_neg hb).symm.trans z;by_cases hb2:b∈tabs.map (·.2)
    ·have z':=(if_pos hb2).symm.trans z1;cases z';exact (tabAt b hb2).1
    ·have z':=(if_neg hb2).symm.trans z1;cases z'
  ·by_cases hb:b=a
   ·exact .inl hb
   ·by_cases hb2:b∈tabs.map (·.2)
    ·exact .inr hb2
    ·exact absurd ((if_neg hb).trans (if_neg hb2)) z
theorem MQ{l:PySem.W.OpenLaw}{n k:Nat}{q:Program}{loose:List Str}{XP:(Str->Option Value)->Heap->Prop}{YP:World->Heap->Prop}{d:DefRec}{K:Params->PySem.W.Frag}{CX:MB}{tabs:Params->List (Addr × Addr)}{sp:PySem.W.Frag->List (Addr × Addr)->Sp}{x:Str}(nms:List Str)
  (hn:l.most=some n) (hn2:n<=sizeLine) (hdf:d.params.defaults=[]) (hr:iF k callerA)
  (hY:∀(w:World) (h:Heap),YP w h->(K w.params).In h)
  (hrec:∀y∈nms,∃e,(recsOf q).find? (λe=>e.name == y)=some e) (htab:∀w:World,nms.map (tabIn (K w.params))=(tabs w.params).map some) (hTK:∀(w:World),∀t∈tabs w.params,(K w.params).lookup t.2=none)
  (F:∀(w:World) (mg:Str->Option Value) (fa:Addr) (h:Heap),(K w.params).In h->h.Ns mainGlobals mg->mg d.name=some (.ref fa) ->
   ∃fd:FuncData,(∀(s:Shared) (u:Value),BindsTo s fd ⟨[u],[]⟩ [(x,u)]) /\
    ∀base:Heap,(K w.params).In base->base.Ns mainGlobals mg->BM mg base->dA l.prog w (K w.params) mg base CX k fa fd [x] (sp (K w.params) (tabs w.params)))
  (hsp:∀(K:PySem.W.Frag) (tabs:List (Addr × Addr)) (H:Hp) (a:Addr) (ns:List Int),ns.length<=n->IW tabs H->eZ K H a (ns.map V.int)->sp K tabs [.ref a] H (λv _=>v=.bl true) λ_ _ _=>False)
  (hCX:∀(H:Hp) (s:Shared) (e:Value) (s':Shared),CX [] H s (λ_ _ _=>False) e s'->False) :
  PySem.W.WalkO q loose XP YP l.row.toRowW d [] (λf vs=>PySem.call f vs):=by
 refine Att.ED hn hdf λw s₀ s₁ mg mb fa o pm cd doc a vs ns G Y ho hd hcd hmg hobj hints hlen hg=>?_;have KX:=hY w _ Y;obtain ⟨fd,hb,hF⟩:=F w mg fa _ KX G.T.g hmg;have hT:∀t∈tabs w.params,CodeHd s₁.heap t.1 t.2/\s₁.heap.get? t.2=some (tabObj #[]):=λt ht=>by
  have hm:some t∈nms.map (tabIn (K w.params)):=by rw [htab w];exact List.mem_map_of_mem ht
  obtain ⟨y,hy,e⟩:=aK.mp hm;obtain ⟨dr,hdr⟩:=hrec y hy;exact tab_of G.T KX hdr e
 exact KJ KX G.T.g G.T.b G.T.builtins G.T.nolimit hg hobj hints (bG hlen hn2) hr hT (hTK w) G.T.bmain hF hb (λH hO hS=>hsp _ _ H a ns hlen hO hS) λH e s'=>hCX H s₁ e s'
theorem gH.okwL{P:Program}{w:World}{K:PySem.W.Frag}{mg:Str->Option Value}{base:Heap}{x qual:Str}{st:Stmt}{f cA:Addr}{fd:FuncData}{N ps:List Str}{k:Nat}{sp:Sp}(F:gH K x qual st f fd)(hc:fd.code=.ref cA)(S:bK N ps (aO st))(len:∀vs H Q E,sp vs H Q E->vs.length=ps.length)
  (hbody:∀(A:Around) (outer:List Env) (s:Shared) (H:Hp) (vs:List V) (Q:VK) (E:XK),iF k (A.deeper (envOfC qual (aO st) s.heap.objs.size f (.ref cA)))->sp vs H Q E ->
   ∃t,xH (uZ cR P w K mg base N qual (aO st) f (.ref cA) A outer s H E).nox (jB st) t/\t { nx:=λ_ H'=>Q .non H',rt:=Q } (start N vs) H):dA P w K mg base cR (k+1) f fd ps sp:=by
 obtain ⟨oc,od,kV,doc,pm,an,cdv,ct,osl,rfl,lk,hcd⟩:=F.ex;obtain rfl:cdv=.ref cA:=hc;refine YI lk hcd S len λA outer s H vs Q E hr hsp=>?_;obtain ⟨t,h,q⟩:=hbody A outer s H vs Q E hr hsp;exact ⟨t,h.p.nox,q⟩
end L2
namespace Kw
open PySem L2 Mf
def top(i:Nat):Stmt:=PySem.Challenge.pw_earlystop_k28_whole_turned_shares.main.body.getD i (.Pass ⟨0,0,0,0⟩)
structure Cl where
 ONE:Addr
 NOUGHT:Addr
 tok_LOOKS_ON:Tok
structure iV(K:PySem.W.Frag)(mg:Str->Option Value)(c:Cl):Prop where
 b_list:mg "list" = none
 b_len:mg "len" = none
 b_abs:mg "abs" = none
 b_range:mg "range" = none
 b_sum:mg "sum" = none
 b_max:mg "max" = none
 b_int:mg "int" = none
 b_bool:mg "bool" = none
 b_sorted:mg "sorted" = none
 b_dict:mg "dict" = none
 b_isinstance:mg "isinstance" = none
 b_all:mg "all" = none
 b_tuple:mg "tuple" = none
 b_zip:mg "zip" = none
 g_ONE:mg "ONE" = some (.ref c.ONE)
 g_NOUGHT:mg "NOUGHT" = some (.ref c.NOUGHT)
 g_LOOKS_ON:mg "LOOKS_ON" = some (.int 0 c.tok_LOOKS_ON)
 o_ONE:qP K c.ONE [1,1]=true
 o_NOUGHT:qP K c.NOUGHT [0,1]=true
abbrev aAh:Stmt:=(top 63)
theorem aBn:bK ["_law_script","_law_at","_law_cell"] ["_law_script","_law_at"] (aO aAh):=⟨rfl,rfl,rfl,Kk,rfl,Kk,Kk⟩
abbrev sQ5:Stmt:=(top 64)
theorem cQ5:bK ["_law_tape_here","_law_many","_law_turn","_law_found","_law_stirred"] ["_law_tape_here","_law_many"] (aO sQ5):=⟨rfl,rfl,rfl,Kk,rfl,Kk,Kk⟩
abbrev sQ2:Stmt:=(top 65)
theorem cQ2:bK ["_law_n","_law_d","_law_one","_law_other"] ["_law_n","_law_d"] (aO sQ2):=⟨rfl,rfl,rfl,Kk,rfl,Kk,Kk⟩
abbrev sQ8:Stmt:=(top 66)
theorem cQ8:bK ["_law_tape_here","_law_many","_law_parts"] ["_law_tape_here","_law_many"] (aO sQ8):=⟨rfl,rfl,rfl,Kk,rfl,Kk,Kk⟩
abbrev sQ7:Stmt:=(top 68)
theorem cQ7:bK ["_law_tape_here","_law_ways","_law_stops","_law_plain","_law_place"] ["_law_tape_here","_law_ways","_law_stops","_law_plain"] (aO sQ7):=⟨rfl,rfl,rfl,Kk,rfl,Kk,Kk⟩
abbrev sQ3:Stmt:=(top 69)
theorem cQ3:bK ["_law_counts","_law_says_here"] ["_law_counts","_law_says_here"] (aO sQ3):=⟨rfl,rfl,rfl,Kk,rfl,Kk,Kk⟩
abbrev sQ6:Stmt:=(top 70)
theorem cQ6:bK ["_law_tape_here","_law_faces","_law_ways","_law_most","_law_plain","_law_found","_law_level","_law_later","_law_counts","_law_says_here"] ["_law_tape_here","_law_faces","_law_ways","_law_most","_law_plain"] (aO sQ6):=⟨rfl,rfl,rfl,Kk,rfl,Kk,Kk⟩
abbrev sQ9:Stmt:=(top 71)
theorem cQ9:bK ["_law_tape_here","_law_faces","_law_most"] ["_law_tape_here"] (aO sQ9):=⟨rfl,rfl,rfl,Kk,rfl,Kk,Kk⟩
abbrev tpD(c l t:Int):List (eA × V):=[(.inr "cell",.int c),(.inr "left",.int l),(.inr "turn",.int t)]
structure cB(H:Hp)(p:Addr)(n:Nat):Prop where
 ex:∃c l t:Int,H p=some (.dK (tpD c l t))/\0<=l/\0<=t/\t+n<=1000000000000
theorem cB.ne{H:Hp}{p q:Addr}{n:Nat}(F:cB H p n)(hq:H q=none):q≠p:=λe=>by
 subst e;obtain ⟨c,l,t,h,_⟩:=F.ex;rw [h] at hq;cases hq
theorem cB.there{H:Hp}{p:Addr}{n:Nat}(F:cB H p n):∃o,H p=some o:=by obtain ⟨c,l,t,h,_⟩:=F.ex;exact ⟨_,h⟩
theorem cB.neL{H:Hp}{p q:Addr}{n:Nat}{xs:List V}(F:cB H p n)(hq:H q=some (.lst xs)):q≠p:=λe=>by
 subst e;obtain ⟨c,l,t,h,_⟩:=F.ex;rw [h] at hq;cases hq
theorem cB.same{H H':Hp}{p:Addr}{n:Nat}(F:cB H p n)(s:aW H H'):cB H' p n:=by
 obtain ⟨c,l,t,h,r⟩:=F.ex;exact ⟨c,l,t,s _ _ h,r⟩
theorem cB.but{H H':Hp}{p D:Addr}{n:Nat}(F:cB H p n)(s:aS D H H')(n1:D≠p):cB H' p n:=by
 obtain ⟨c,l,t,h,r⟩:=F.ex;exact ⟨c,l,t,s.at (Ne.symm n1) h,r⟩
theorem cB.less{H:Hp}{p:Addr}{n m:Nat}(F:cB H p n)(h:m<=n):cB H p m:=by
 obtain ⟨c,l,t,e,l0,t0,r⟩:=F.ex;exact ⟨c,l,t,e,l0,t0,Oo⟩
theorem cB.t{H H':Hp}{p:Addr}{n:Nat}(F:cB H p n)(s:aS p H H'):fN H H':=by
 obtain ⟨c,l,t,h,_⟩:=F.ex;exact s.tD h
theorem cB.like{p:Addr}{n:Nat}(f:Nat->Nat):pC p (λi H=>cB H p (f i)) :=
 ⟨λ_ D H1 H2 n1 s F=>F.but s n1,λ_ H1 H2 s F=>F.same s,λ_ H' F=>by obtain ⟨c,l,t,h,_⟩:=F.ex;exact ⟨_,h⟩⟩
@[irreducible] def qY(K:PySem.W.Frag):Sp:=λvs H Q _=>∃(a:Addr) (ns:List Int) (k:Int),vs=[.ref a,.int k]/\eZ K H a (ns.map V.int)/\ns.length<=63/\0<=k/\∀p H',cB H' p 1000000000000->aW H H'->H p=none->Q (.ref p) H'
theorem JH{K:PySem.W.Frag}{H:Hp}{Q:VK}{E:XK}{a:Addr}{ns:List Int}{k:Int}(h:eZ K H a (ns.map V.int))(hl:ns.length<=63)(hk:0<=k)(q:∀p H',cB H' p 1000000000000->aW H H'->H p=none->Q (.ref p) H'):qY K [.ref a,.int k] H Q E:=by
 unfold qY;exact ⟨a,ns,k,rfl,h,hl,hk,q⟩
@[irreducible] def jS:Sp:=λvs H Q _=>∃(p:Addr) (n:Nat) (m:Int),vs=[.ref p,.int m]/\cB H p (n+1)/\0<m/\bits m<=64/\∀x H',0<=x->x<m->cB H' p n->aS p H H'->Q (.int x) H'
theorem eN{H:Hp}{Q:VK}{E:XK}{p:Addr}{n:Nat}{m:Int}(F:cB H p (n+1))(h:0<m)(hb:bits m<=64)(k:∀x H',0<=x->x<m->cB H' p n->aS p H H'->Q (.int x) H'):jS [.ref p,.int m] H Q E:=by
 unfold jS;exact ⟨p,n,m,rfl,F,h,hb,k⟩
theorem bitsle{i:Int}{n:Nat}(h:i.natAbs<2^n):bits i<=n:=PySem.intBits_le_iff.mpr h
theorem rlQ{K:PySem.W.Frag}{H:Hp}{p:Addr}{xs:List V}{Q:VK}(h:eZ K H p xs)(q:Q (.int xs.length) H):wG K [V.ref p] H Q:=by unfold wG;exact ⟨_,_,rfl,.inl ⟨xs,h,rfl⟩,q⟩
section
theorem aD8(F:gH K "_law_tape" "_law_tape" aAh f fd)(T:iV K mg c):dA P w K mg base cR 1 f fd ["_law_script","_law_at"] (qY K):=by
 refine F.oky aBn λvs H Q E h=>?_;unfold qY at h;obtain ⟨a,ns,i,rfl,hS,hl,hi,k⟩:=h;refine ⟨rfl,λcdv A outer s hr=>?_⟩;refine ⟨_,(aU (bV (i:=2) aBn.nd rfl (Or.inl rfl) (aJ 1))
  (aU (EQ (jH (fP yL (dL fT (by rfl) T.b_len Kk (aI (aJ 0) aE)) aN (nomark _)) (bB (bV (i:=2) aBn.nd rfl (Or.inl rfl) (cT gP (cC bY (aJ 0) (cT oX (aJ 1) (dL fT (by rfl) T.b_len Kk (aI (aJ 0) aE))) (λ_ _=>rfl)) (cT fK (aJ 1) (dL fT (by rfl) T.b_len Kk (aI (aJ 0) aE)))))) eY))
  (bB (bR (SL (vR eT (aJ 2) (vR eT (dL (LJ rfl) (by rfl) T.b_max Kk (aI aN (aI (cT FU (aJ 2) (cT aAK aN aN)) aE))) (vR eT aN SD)))))))),?_⟩
 refine ⟨_,rfl,?_⟩;refine ⟨λσ H3=>∃c:Int,σ=[some (.ref a),some (.int i),some (.int c)]/\H3=H,?_,?_⟩
 ·rintro σ H3 ⟨c,rfl,rfl⟩;intro p hp;refine ⟨_,rfl,?_⟩;refine ⟨_,rfl,_,_,rfl,rfl,⟨Dd,Dd,Dd⟩,_,_,rfl,rfl,_,_,rfl,?_⟩;refine ⟨bE,tpD c (if c-10^18 > 0 then c-10^18 else 0) 0,rfl,by show 3<=15;decide,?_⟩;refine k p _ ⟨c,(if c-10^18 > 0 then c-10^18 else 0),0,?_,by split <;> omega,Dd,Dd⟩ ?_ hp
  ·rw [bE];rfl
  ·intro b o h;have nb:b≠p:=λe=>by subst e;rw [hp] at h;cases h
   rw [L2.bP nb,L2.bP nb];exact h
 ·refine ⟨_,rfl,?_⟩;refine rlQ hS ?_;refine ⟨_,_,rfl,rfl,_,rfl,?_⟩;rw [aA];refine GE (λe1=>?_) (λe1=>?_)
  ·refine ⟨_,rfl,_,rfl,_,rfl,?_⟩;refine rlQ hS ?_;rw [aA];refine ⟨_,_,rfl,rfl,e1,?_⟩;have g0:=Int.emod_nonneg i (b:=(ns.length:Int)) Oo;have g1:=Int.emod_lt_of_pos i e1;have hj:∃z,ns[(i % (ns.length:Int)).toNat]?=some z:=⟨_,aD Oo⟩;obtain ⟨z,hz⟩:=hj;have hat:EE (ns.map V.int) (i % (ns.length:Int))=some (.int z):=by
    have:=eE (xs:=ns.map V.int) (j:=(i % (ns.length:Int)).toNat) (v:=V.int z) (by rw [aC,hz];rfl)
    rwa [Int.toNat_of_nonneg g0] at this
   refine .inl ⟨a,_,_,_,rfl,rfl,hS,hat,?_⟩;refine ⟨_,rfl,_,rfl,?_⟩;refine rlQ hS ?_;rw [aA];refine ⟨_,_,rfl,rfl,⟨e1,bitsle (by have:((ns.length:Int)).natAbs<=63:=Oo;exact bC this (bA (show 63<2^6 by decide) (fB Dd Dd)))⟩,?_⟩;refine ⟨_,_,rfl,rfl,?_⟩;exact ⟨_,rfl,rfl⟩
  ·exact ⟨_,rfl,rfl⟩
theorem oQ5(F:gH K "_law_pick" "_law_pick" sQ5 f fd)(T:iV K mg c):dA P w K mg base cR 1 f fd ["_law_tape_here","_law_many"] jS:=by
 refine F.oky cQ5 λvs H Q E h=>?_;unfold jS at h;obtain ⟨p,n,m,rfl,F,hm,hb,k⟩:=h;refine ⟨rfl,λcdv A outer s hr=>?_⟩;obtain ⟨c,l,t,hp,h0,h1,h2⟩:=F.ex;refine ⟨_,(aU (bV (i:=2) cQ5.nd rfl (Or.inl rfl) (cT gP (lH hr.u1 (aJ 0) eT) aN))
  (aU (vE hr.u1 (aJ 0) eT (aJ 2))
  (aU (jH (fP yL (lH hr.u1 (aJ 0) eT) aN (nomark _)) (aU (bV (i:=3) cQ5.nd rfl (Or.inl rfl) (cT oX (lH hr.u1 (aJ 0) eT) (aJ 1)))
  (aU (vE hr.u1 (aJ 0) eT (cT fK (lH hr.u1 (aJ 0) eT) (aJ 1)))
  (bB (bR (aJ 3))))) eY)
  (aU (bV (i:=4) cQ5.nd rfl (Or.inl rfl) (cT iH (cT gP (cT gP (cT oX (lH hr.u1 (aJ 0) eT) aN) (cT iH (cT iH aN (aJ 2)) (aJ 2))) aN) aN))
  (aU (bV (i:=4) cQ5.nd rfl (Or.inl rfl) (cT iH (cT gP (cT oX (aJ 4) aN) (cT iH aN (aJ 2))) aN))
  (bB (bR (cT oX (cT fK (cT oX (aJ 4) aN) aN) (aJ 1))))))))),?_⟩
 refine ⟨_,rfl,?_⟩;refine dgS hp rfl ?_;refine ⟨_,_,rfl,rfl,?_⟩;refine ⟨_,rfl,_,rfl,?_⟩;refine dpS (kvs2:=tpD c l (t+1)) hp (by show 3<=64;decide) rfl λH1 hp1 s1=>?_;refine ⟨_,rfl,?_⟩;refine dgS hp1 rfl ?_;refine ⟨_,_,rfl,rfl,_,rfl,?_⟩;refine GE (λe0=>?_) (λe0=>?_)
 ·refine ⟨_,rfl,?_⟩;refine dgS hp1 rfl ?_;refine ⟨_,rfl,_,_,rfl,rfl,hm,?_⟩;refine ⟨_,rfl,?_⟩;refine dgS hp1 rfl ?_;refine ⟨_,rfl,_,_,rfl,rfl,⟨hm,bG hb Dd⟩,?_⟩;refine ⟨_,rfl,?_⟩;refine dpS (kvs2:=tpD c (l/m) (t+1)) hp1 (by show 3<=64;decide) rfl λH2 hp2 s2=>?_;refine ⟨_,rfl,?_⟩;exact k _ H2 (Int.emod_nonneg _ Oo) (Int.emod_lt_of_pos _ hm) ⟨c,l/m,t+1,hp2,Int.ediv_nonneg h0 Oo,Oo,Oo⟩ (s1.trans s2)
 ·have bt:bits (t+1)<=64:=PySem.intBits_le_64 Oo Oo;refine ⟨_,rfl,?_⟩;refine dgS hp1 rfl ?_;have c0:=Int.emod_nonneg c (b:=2147483647) Dd;have c1:=Int.emod_lt_of_pos c (b:=2147483647) Dd;refine ⟨_,_,rfl,rfl,(by show (0:Int)<2147483647;decide),?_⟩;refine ⟨_,rfl,_,_,rfl,rfl,IntMulOk.of_left Kk,_,rfl,_,_,rfl,rfl,IntMulOk.of_right bt,_,_,rfl,rfl,_,_,rfl,rfl,_,_,rfl,rfl,IntMulOk.of_right Kk,?_⟩;generalize hz:(c % 2147483647+31*(t+1)*(t+1)+1)*48271=z;refine ⟨_,rfl,_,_,rfl,rfl,(by show (0:Int)<2147483629;decide),_,rfl,_,_,rfl,rfl,IntMulOk.of_left Kk,_,_,rfl,rfl,_,_,rfl,rfl,IntMulOk.of_right Kk,?_⟩;generalize hy:(z % 2147483629+7*(t+1))*69621=y;refine ⟨_,rfl,_,_,rfl,rfl,(by show (0:Int)<2147483587;decide),_,_,rfl,rfl,⟨Dd,Kk⟩,_,rfl,_,_,rfl,rfl,hm,?_⟩;exact k _ H1 (Int.emod_nonneg _ Oo) (Int.emod_lt_of_pos _ hm) ⟨c,l,t+1,hp1,h0,Oo,Oo⟩ s1
end
abbrev fM(f:Fr):PyData:=.tuple [.int f.1,.int f.2]
theorem aBc{H:Hp}{f:Fr}{v:V}(h:bQ H (fM f) v):∃a,v=.ref a/\H a=some (.tup [.int f.1,.int f.2]):=by
 unfold bQ aX aX aX at h;obtain ⟨a,_,rfl,h1,x,_,rfl,r1,y,_,rfl,r2,rfl⟩:=h;cases (show x=V.int f.1 from r1);cases (show y=V.int f.2 from r2);exact ⟨a,rfl,h1⟩
theorem gR{H:Hp}{f:Fr}{a:Addr}(h:H a=some (.tup [.int f.1,.int f.2])):bQ H (fM f) (.ref a):=bQ.tup h (aX.cons (bQ.int _) (aX.cons (bQ.int _) aX.nil))
theorem gS(f:Fr):eI (fM f)=true:=rfl
def fU(K:PySem.W.Frag)(H:Hp)(f:Fr)(x:V):Prop:=∃a,x=.ref a/\dO K H a [.int f.1,.int f.2]
theorem fU.of{K:PySem.W.Frag}{H:Hp}{f:Fr}{x:V}(h:bQ H (fM f) x):fU K H f x:=by
 obtain ⟨a,e,h⟩:=aBc h;exact ⟨a,e,dO.of h⟩
theorem fU.new{K:PySem.W.Frag}{H:Hp}{f:Fr}{a:Addr}(h:H a=some (.tup [.int f.1,.int f.2])):fU K H f (.ref a):=⟨a,rfl,dO.of h⟩
theorem fU.same{K:PySem.W.Frag}{H H':Hp}{f:Fr}{x:V}(s:aW H H')(h:fU K H f x):fU K H' f x:=by
 obtain ⟨a,e,h⟩:=h;exact ⟨a,e,h.keep s⟩
theorem fU.k{K:PySem.W.Frag}{H:Hp}{f:Fr}{x:V}(h:fU K H f x):dU K H (fM f) x:=by
 obtain ⟨a,rfl,h⟩:=h;exact dU.tup h (cX.ints [f.1,f.2])
def xG(k:Nat)(f:Fr):Prop:=f.1.natAbs<2^k/\f.2.natAbs<2^k
@[irreducible] def wB:Sp:=λvs H Q _=>∃n d:Int,vs=[.int n,.int d]/\0<d/\Q (.int (Int.gcd n d)) H
theorem rM{H:Hp}{Q:VK}{E:XK}{n d:Int}(h:0<d)(q:Q (.int (Int.gcd n d)) H):wB [.int n,.int d] H Q E:=by unfold wB;exact ⟨n,d,rfl,h,q⟩
def uK(H:Hp)(Q:VK)(f:Fr):Prop:=∀q H',H q=none->H' q=some (.tup [.int f.1,.int f.2])->aW H H'->Q (.ref q) H'
@[irreducible] def mX(K:PySem.W.Frag):Sp:=λvs H Q _=>∃x y f g,vs=[x,y]/\fU K H f x/\fU K H g y/\fF f/\fF g/\xG 4000 f/\xG 4000 g/\uK H Q (nY f g)
theorem pK{K:PySem.W.Frag}{H:Hp}{Q:VK}{E:XK}{x y:V}{f g:Fr}(h1:fU K H f x)(h2:fU K H g y)(l1:fF f)(l2:fF g)(z1:xG 4000 f)(z2:xG 4000 g)(q:uK H Q (nY f g)):mX K [x,y] H Q E:=by unfold mX;exact ⟨x,y,f,g,rfl,h1,h2,l1,l2,z1,z2,q⟩
theorem aA8{n d:Int}(h:0<d):(Int.gcd n d:Int)<=d:=Int.le_of_dvd h (Int.gcd_dvd_right n d)
theorem wV{n d:Int}{k:Nat}(h:0<d)(z:d.natAbs<2^k):(Int.gcd n d:Int).natAbs<2^k:=by
 have:=aA8 (n:=n) h;have:=gG (n:=n) h;omega
theorem sC{n d:Int}(h:0<d)(z:d.natAbs<2^9000):RP n d:=⟨h,GK z⟩
theorem fH{i:Int}{n m:Nat}(h:i.natAbs<2^n)(k:n<=m:=by decide):i.natAbs<2^m:=bA h (fB Dd k)
theorem mS{i j:Int}{n:Nat}(h:i.natAbs<2^n)(hj:0<j):(i/j).natAbs<2^n:=bC (by
 have:=Int.natAbs_ediv_le_natAbs i j;exact this) h
theorem EX{i j:Int}{n m:Nat}(h1:i.natAbs<2^n)(h2:j.natAbs<2^m):(i*j).natAbs<2^(n+m):=by
 rw [fC,Nat.pow_add];exact Nat.mul_lt_mul'' h1 h2
abbrev lO(fs:List Fr):PyData:=.tuple (fs.map fM)
theorem rX:∀fs:List Fr,fA (fs.map fM)=true
 | []=>rfl
 | f::fs=>by show (eI (fM f)&&fA (fs.map fM))=true;rw [rX fs];rfl
theorem kX(fs:List Fr):eI (lO fs)=true:=rX fs
structure dX(n:Nat)(fs:List Fr):Prop where
 ex:∃ns:List Int,ns.length=n/\(∀x∈ns,0<=x/\x<=7)/\0<ns.sum/\fs=ns.map λx=>lw x ns.sum
theorem mT:∀{ns:List Int},(∀x∈ns,0<=x/\x<=7)->0<=ns.sum/\ns.sum<=7*(ns.length:Int)
 | [],_=>by simp
 | n::ns,h=>by
  have h1:=mT (ns:=ns) λx hx=>h x (aH _ hx);have h2:=h n (aG ..);rw [List.sum_cons,bL];omega
theorem SR{ns:List Int}(h:∀x∈ns,0<=x/\x<=7){n:Int}(hn:n∈ns)(p:0<n):0<ns.sum:=by
 induction ns with
 | nil=>cases hn
 | cons a r ih =>
  have h1:=mT (ns:=r) λx hx=>h x (aH _ hx);have h2:=h a (aG ..);rw [List.sum_cons];rcases aV.mp hn with rfl | hr
  ·omega
  ·have:=ih (λx hx=>h x (aH _ hx)) hr;omega
theorem dX.len{n:Nat}{fs:List Fr}(h:dX n fs):fs.length=n:=by
 obtain ⟨ns,h1,_,_,rfl⟩:=h.ex;rw [aA,h1]
theorem dX.zero{n:Nat}{fs:List Fr}(h:dX n fs):dX (1+n) ((0,1)::fs):=by
 obtain ⟨ns,h1,h2,h3,rfl⟩:=h.ex;refine ⟨0::ns,by rw [bL];omega,λx hx=>?_,by rw [List.sum_cons];omega,?_⟩
 ·rcases aV.mp hx with rfl | hx
  ·omega
  ·exact h2 x hx
 ·rw [List.sum_cons,aZ,Int.zero_add];have:lw 0 ns.sum=(0,1):=by
   unfold lw;rw [Int.gcd_zero_left];have hn:((ns.sum.natAbs:Nat):Int)=ns.sum:=Oo;rw [hn,Int.zero_ediv,Int.ediv_self Oo]
  rw [this]
def ind(p:Nat)(n:Nat):List Int:=(List.range n).map λk:Nat=>if (k:Int)=(p:Int) then 1 else 0
theorem IA(p n:Nat):(ind p n).length=n:=by unfold ind;rw [aA,bO]
theorem VY{p n:Nat}:∀x∈ind p n,0<=x/\x<=1:=λx hx=>by
 unfold ind at hx;obtain ⟨k,_,rfl⟩:=aK.mp hx;split <;> omega
theorem HZ(p:Nat):∀n:Nat,(ind p n).sum=if p<n then 1 else 0
 | 0=>by simp [ind]
 | n+1=>by
  have ih:=HZ p n;have e:ind p (n+1)=ind p n++[if (n:Int)=(p:Int) then 1 else 0]:=by
   unfold ind;rw [List.range_succ,bF];rfl
  rw [e,List.sum_append,ih,List.sum_singleton];by_cases h:p<n
  ·rw [if_pos h,if_neg Oo,if_pos Oo];rfl
  ·rw [if_neg h];by_cases h2:p=n
   ·subst h2;rw [if_pos rfl,if_pos Oo];rfl
   ·rw [if_neg Oo,if_neg Oo];rfl
theorem aEa(x:Int):lw x 1=(x,1):=by
 unfold lw;rw [Int.gcd_one_right];simp
theorem dX.one{p n:Nat}(h:p<n):dX n ((ind p n).map λx=>(x,1)):=by
 have e:=HZ p n;rw [if_pos h] at e;refine ⟨ind p n,IA p n,λx hx=>?_,Oo,?_⟩
 ·have:=VY x hx;omega
 ·rw [e];exact bZ λx _=>(aEa x).symm
@[irreducible] def oP:Sp:=λvs H Q _=>∃n d:Int,vs=[.int n,.int d]/\0<d/\d.natAbs<2^9000/\uK H Q (lw n d)
theorem FE{H:Hp}{Q:VK}{E:XK}{n d:Int}(h:0<d)(z:d.natAbs<2^9000)(q:uK H Q (lw n d)):oP [.int n,.int d] H Q E:=by unfold oP;exact ⟨n,d,rfl,h,z,q⟩
@[irreducible] def jL:Sp:=λvs H Q _=>∃(p:Addr) (n m:Nat),vs=[.ref p,.int (m:Int)]/\cB H p (n+8)/\0<m/\m<=5/\∀v fs H',cB H' p n->aS p H H'->bQ H' (lO fs) v->dX m fs->Q v H'
theorem oJ{H:Hp}{Q:VK}{E:XK}{p:Addr}{n m:Nat}(F:cB H p (n+8))(m0:0<m)(m5:m<=5)(k:∀v fs H',cB H' p n->aS p H H'->bQ H' (lO fs) v->dX m fs->Q v H'):jL [.ref p,.int (m:Int)] H Q E:=by
 unfold jL;exact ⟨p,n,m,rfl,F,m0,m5,k⟩
theorem aDg{H:Hp}{Q:VK}{l:Addr}{z:V}{k:Nat}(h:H l=some (.lst [z]))(hk:k<=64)(q:∀c H',H c=none->H' c=some (.lst (List.replicate k z))->aW H H'->Q (.ref c) H'):aB1 (.ref l) (.int (k:Int)) H Q:=by
 refine ⟨l,k,[z],rfl,rfl,h,Oo,Oo,?_,λp hp=>?_⟩
 ·show 1*((k:Int)).toNat<=sizeLine;rw [Nat.one_mul,Int.toNat_natCast];exact pO hk
 ·rw [Int.toNat_natCast];have e:∀k:Nat,(List.replicate k [z]).flatten=List.replicate k z:=λk=>by
   induction k with
   | zero=>rfl
   | succ k ih=>rw [List.replicate_succ,List.flatten_cons,ih,List.replicate_succ];rfl
  rw [e];exact q p _ hp bE (aW.upd hp)
theorem OY{k:Nat}{b:Nat}(hb:b<k):(∀x∈(List.replicate k (0:Int)).set b 1,0<=x/\x<=7)/\0<((List.replicate k (0:Int)).set b 1).sum:=by
 have h1:∀x∈(List.replicate k (0:Int)).set b 1,0<=x/\x<=7:=λx hx=>by
  rcases List.mem_or_eq_of_mem_set hx with h | rfl
  ·have:=List.eq_of_mem_replicate h;omega
  ·omega
 exact ⟨h1,SR h1 (n:=1) (cS.mpr ⟨b,by rw [List.getElem?_set_self (by simpa using hb)]⟩) Dd⟩
section
theorem oQ2(F:gH K "_law_frac" "_law_frac" sQ2 f fd)(T:iV K mg c):dA P w K mg base cR 1 f fd ["_law_n","_law_d"] oP:=by
 refine F.oky cQ2 λvs H Q E h=>?_;unfold oP at h;obtain ⟨n,d,rfl,hd,hz,q⟩:=h;refine ⟨rfl,λcdv A outer s hr=>?_⟩;refine ⟨_,(aU (bV (i:=2) cQ2.nd rfl (Or.inl rfl) (dL aBj (by rfl) T.b_abs Kk (aI (aJ 0) aE)))
  (aU (bV (i:=3) cQ2.nd rfl (Or.inl rfl) (aJ 1))
  (aU (qS PassesOwn.never (fP yL (aJ 3) aN (nomark _)) (bB (YU (i:=2) (j:=3) rfl cQ2.nd rfl rfl Dd rfl rfl (aI (aJ 3) (aI (cT oX (aJ 2) (aJ 3)) aE)) rfl)))
  (bB (bR (dN (aI (cT fK (aJ 0) (aJ 2)) (aI (cT fK (aJ 1) (aJ 2)) aE)))))))),?_⟩
 refine ⟨_,rfl,?_⟩;refine raI ?_;refine ⟨_,rfl,?_⟩;refine vF (λm σ H'=>∃(u v:Int),σ=[some (.int n),some (.int d),some (.int u),some (.int v)]/\0<=v/\Int.gcd u v=Int.gcd n d/\(v=0->0<u)/\H'=H/\m=v.toNat)
  (λσ H'=>σ=[some (.int n),some (.int d),some (.int (Int.gcd n d)),some (.int 0)]/\H'=H)
  _ ⟨(n.natAbs:Int),d,rfl,Oo,by rw [Int.gcd_eq_natAbs_gcd_natAbs,Int.gcd_eq_natAbs_gcd_natAbs,Int.natAbs_natCast],Oo,rfl,rfl⟩ ?_ ?_
 ·rintro m σ H2 ⟨u,v,rfl,hb,hg,h0,rfl,rfl⟩;refine ⟨_,rfl,_,_,rfl,rfl,_,rfl,?_⟩;refine GE (λe=>?_) (λe=>?_)
  ·refine ⟨_,rfl,_,rfl,_,rfl,_,_,rfl,rfl,e,_,_,rfl,?_⟩;have e1:=Int.emod_lt_of_pos u e;have e2:=Int.emod_nonneg u (b:=v) Oo;exact ⟨_,Oo,v,u % v,rfl,e2,by rw [DO,hg],λ_=>e,rfl,rfl⟩
  ·have hb0:v=0:=Oo;subst hb0;have hu:=h0 rfl;have e1:=IB hu;rw [hg] at e1;rw [e1];exact ⟨rfl,rfl⟩
 ·rintro σ H2 ⟨rfl,rfl⟩;have hg:=gG (n:=n) hd;have zg:RP n (Int.gcd n d:Int):=sC hg (wV hd hz);refine ⟨_,rfl,_,rfl,_,_,rfl,rfl,zg,?_⟩;refine ⟨_,rfl,_,rfl,_,_,rfl,rfl,zg,?_⟩;refine qO (by show 2<=64;decide) λp H3 hp e3 s3=>?_;exact q p H3 hp e3 s3
theorem oQ8(F:gH K "_law_shares" "_law_shares" sQ8 f fd)(T:iV K mg c)
  (FQ5:eF cR P w K mg base 1 "_law_pick" ["_law_tape_here","_law_many"] jS) (FQ2:eF cR P w K mg base 1 "_law_frac" ["_law_n","_law_d"] oP):dA P w K mg base cR 2 f fd ["_law_tape_here","_law_many"] jL:=by
 refine F.oky cQ8 λvs H Q E h=>?_;unfold jL at h;obtain ⟨p,n,m,rfl,F,m0,m5,k⟩:=h;refine ⟨rfl,λcdv A outer s hr=>?_⟩;refine ⟨_,(aU (bV (i:=2) cQ8.nd rfl (Or.inr rfl) (eD (dJ.of (psc:=aO sQ8) (N:=["_law_tape_here","_law_many","_law_parts"]) (N':=["_law_k","_law_tape_here"]) (js:=[0]) Kk rfl rfl rfl) (dW rfl T.b_range (aI (aJ 1) aE)) (λ_ _ _ _=>dG) (λ_ _ _ _=>(cC (fE K) (eW (aI aN (aI aN (aI aN (aI aN (aI aN (aI aN aE))))))) (bJ FQ5 (hr.mono Dd) (aI (aJ 1) (aI aN aE))) (λ_ _=>rfl)))))
  (aU (EQ (jH (zW (BR (xY (fP qH (dL (QK rfl) (by rfl) T.b_sum Kk (aI (aJ 2) aE)) aN (nomark _)) (sR (fP qH (bJ FQ5 (hr.mono Dd) (aI (aJ 0) (aI aN aE))) aN (nomark _)))))) (aU (bV (i:=2) cQ8.nd rfl (Or.inr rfl) (cT aAJ (eW (aI aN aE)) (aJ 1)))
  (bB (ER aN (ML (aJ 2) (bJ FQ5 (hr.mono Dd) (aI (aJ 0) (aI (aJ 1) aE))) CM)))) eY))
  (bB (bR (hJ cJ (by rfl) T.b_tuple Kk (aI (eD (dJ.of (psc:=aO sQ8) (N:=["_law_tape_here","_law_many","_law_parts"]) (N':=["_law_part","_law_parts"]) (js:=[2]) Kk rfl rfl rfl) (gW (aJ 2)) (λ_ _ _ _=>dG) (λ_ _ _ _=>(bJ FQ2 (hr.mono Dd) (aI (aJ 0) (aI (dL (WN K rfl) (by rfl) T.b_sum Kk (aI (aJ 1) aE)) aE))))) aE)))))),?_⟩
 refine ⟨_,rfl,_,rfl,Oo,Oo,?_⟩;refine DS (cB.like (n:=n) λi=>n+8-i) F (λ_ y _=>∃x,y=.int x/\0<=x/\x<=7) (λ_ _ _ _ _ h=>h) Oo (λi H' Q' hi F' s' k'=>?_) (λD ys H1 hD hD1 F1 s1 hy hr1=>?_)
 ·refine wJ (by show 6<=64;decide) λq1 H2 hq1 e1 s1=>?_;refine ⟨_,rfl,?_⟩;refine eN (n:=n+8-(i+1)) ((F'.same s1).less Oo) Dd Kk λx H3 x0 x1 F3 s3=>?_;obtain ⟨v,hat,hmem,_⟩:=BI (xs:=[V.int 0,V.int 1,V.int 1,V.int 2,V.int 3,V.int 7]) x0 x1;refine ixL (s3.at (F'.ne hq1) e1) hat ?_;refine k' _ H3 F3 (s1.but.trans s3) ?_;simp only [aV,List.not_mem_nil,or_false] at hmem;rcases hmem with rfl | rfl | rfl | rfl | rfl | rfl <;> exact ⟨_,rfl,Dd,Dd⟩
 ·obtain ⟨ns,rfl,hn⟩:=BB (P:=λ_ x=>0<=x/\x<=7) hr1;rw [aA] at hy;have npD:=F.ne hD;have hn':∀x∈ns,0<=x/\x<=7:=λx hx=>by
   obtain ⟨i,hi⟩:=cS.mp hx;exact hn i x hi
  refine ⟨λσ H3=>∃(D:Addr) (ns:List Int),σ=[some (.ref p),some (.int (m:Int)),some (.ref D)]/\H3 D=some (.lst (ns.map V.int))/\ns.length=m/\(∀x∈ns,0<=x/\x<=7)/\0<ns.sum/\cB H3 p n/\aS p H H3,?_,?_⟩
  ·clear hD hD1 hr1 hn hn' hy npD F1 s1;rintro σ H3 ⟨D,ns,rfl,hD3,hl,hn,hS,F3,s3⟩;refine ⟨_,rfl,D,rfl,⟨_,eZ.of hD3⟩,?_⟩;have h35:=mT hn;refine LD (λi y H'=>∃n,ns[i]?=some n/\bQ H' (fM (lw n ns.sum)) y) (λi y H1 H2 s ⟨n,h1,h2⟩=>⟨n,h1,h2.flat s (gS _)⟩) (by rw [aA];omega) hD3 (λi x H' Q' hx s' k'=>?_) (λD3 ys H8 hD3' hD8 s8 hy8 hr8=>?_)
   ·rw [aC] at hx;obtain ⟨n',hn',rfl⟩:=(show ∃n,ns[i]?=some n/\V.int n=x by
     cases q:ns[i]? with
     | none=>rw [q] at hx;cases hx
     | some n=>rw [q] at hx;cases hx;exact ⟨n,rfl,rfl⟩)
    refine ⟨_,rfl,_,rfl,?_⟩;refine rsI (eZ.of (s' _ _ hD3)) ?_;refine FE hS (bA (show ns.sum.natAbs<2^10 by show ns.sum.natAbs<1024;omega) (fB Dd Dd)) ?_;intro q9 H9 hq9 e9 s9;exact k' _ H9 s9 ⟨n',hn',gR e9⟩
   ·refine ⟨D3,ys,rfl,.inl ⟨eZ.of hD8,λl hl'=>?_⟩⟩;have sl:=aW.upd (o:=.tup ys) hl';have el:(upd H8 l (.tup ys)) l=some (.tup ys):=bE;generalize upd H8 l (.tup ys)=H9 at sl el;refine k _ (ns.map λn=>lw n ns.sum) H9 ((F3.same s8).same sl) (s3.trans (s8.trans sl).but) (bQ.tup el ?_) ⟨ns,hl,hn,hS,rfl⟩;refine aX.ofIdx (by rw [hy8,aA,aA,aA]) λi y hi=>?_;obtain ⟨n,h1,h2⟩:=hr8 i y hi;exact ⟨fM (lw n ns.sum),by rw [aC,aC,h1];rfl,h2.same sl⟩
  ·refine ⟨λb H4=>cB H4 p (n+1)/\aS p H H4/\H4 D=some (.lst (ns.map V.int))/\(b=false->0<ns.sum),?_,?_⟩
   ·refine ⟨_,rfl,?_⟩;refine rsI (eZ.of hD1) ?_;refine ⟨rfl,_,rfl,?_⟩;refine GE (λe0=>?_) (λe0=>?_)
    ·exact ⟨F1.less Oo,s1,hD1,λh=>by cases h⟩
    ·refine ⟨_,rfl,?_⟩;refine eN (n:=n+1) (F1.less Oo) Dd Kk λx H2 x0 x1 F2 s2=>?_;refine ⟨rfl,_,rfl,F2,s1.trans s2,s2.at npD hD1,λ_=>?_⟩;have:=(mT hn').1;have:ns.sum≠0:=λh=>e0 (congrArg V.int h);omega
   ·rintro b H2 ⟨F2,s2,hD2,hS⟩;cases b with
    | false=>exact mH ⟨D,ns,rfl,hD2,Oo,hn',hS rfl,F2.less Oo,s2⟩
    | true =>
     refine mG ?_;refine wJ (by show 1<=64;decide) λq1 H3 hq1 e1 s3=>?_;refine ⟨_,rfl,?_⟩;refine aDg e1 Oo λq2 H4 hq2 e2 s4=>?_;have F4:=(F2.same s3).same s4;have n2:q2≠p:=(F2.same s3).ne hq2;refine ⟨_,rfl,_,rfl,_,rfl,?_⟩;refine eN F4 Oo (bitsle (bC (show ((m:Int)).natAbs<=5 by omega) Dd)) λx H5 x0 x1 F5 s5=>?_;obtain ⟨b,rfl⟩:∃b:Nat,x=(b:Int):=⟨x.toNat,Oo⟩;have hD5:=s5.at n2 e2;have hj:GD (List.replicate m (V.int 0)).length (b:Int)=some b:=by
      unfold GD;rw [if_pos x0,if_pos (by rw [bU];omega)];rfl
     refine stG hD5 hj λH6 e6 s6=>?_;have e7:(List.replicate m (V.int 0)).set b (V.int 1)=(((List.replicate m (0:Int)).set b 1).map V.int):=by
      rw [List.map_set,List.map_replicate]
     have hm:=OY (k:=m) (b:=b) Oo;have h2:H q2=none:=aS.free s2 F2.there (s3.free hq2);exact ⟨q2,(List.replicate m (0:Int)).set b 1,rfl,by rw [e6,e7],by rw [List.length_set,bU],hm.1,hm.2,F5.but s6 n2,
      aS.thru h2 ((s2.trans (s3.trans s4).but).trans s5) s6⟩
end
@[irreducible] def qZ:Sp:=λvs H Q _=>∃(p:Addr) (n W:Nat) (st pl:Bool),vs=[.ref p,.int (W:Int),.bl st,.bl pl]/\cB H p (n+16)/\2<=W/\W<=4/\∀v fs H',cB H' p n->aS p H H'->bQ H' (lO fs) v->dX (1+W) fs->(st=true->fs.head?=some (0,1))->Q v H'
theorem JI{H:Hp}{Q:VK}{E:XK}{p:Addr}{n W:Nat}{st pl:Bool}(F:cB H p (n+16))(h2:2<=W)(h4:W<=4)(k:∀v fs H',cB H' p n->aS p H H'->bQ H' (lO fs) v->dX (1+W) fs->(st=true->fs.head?=some (0,1))->Q v H'):qZ [.ref p,.int (W:Int),.bl st,.bl pl] H Q E:=by
 unfold qZ;exact ⟨p,n,W,st,pl,rfl,F,h2,h4,k⟩
theorem PN{p n:Nat}(hp:0<p):((ind p (1+n)).map λx=>((x,1):Fr)).head?=some (0,1):=by
 unfold ind;rw [Nat.add_comm,List.range_succ_eq_map,aZ,aZ,List.head?_cons,if_neg Oo]
theorem aA5{p n i:Nat}(h:i<n):(ind p n)[i]?=some (if (i:Int)=(p:Int) then 1 else 0):=by
 unfold ind;rw [aC,cO h];rfl
abbrev fG(cs:List Int):PyData:=.tuple (cs.map .int)
theorem yU:∀fs:List Int,fA (fs.map PyData.int)=true
 | []=>rfl
 | f::fs=>by show (eI (.int f)&&fA (fs.map PyData.int))=true;rw [yU fs];rfl
theorem jC(cs:List Int):eI (fG cs)=true:=yU cs
theorem zT{H:Hp}:∀{ns:List Int}{vs:List V},aX H (ns.map PyData.int) vs->vs=ns.map V.int
 | [],vs,h=>by unfold aX at h;exact h
 | n::ns,vs,h=>by
  unfold aX at h;obtain ⟨x,xs,rfl,h1,h2⟩:=h;cases (show x=V.int n from h1);rw [zT h2];rfl
theorem fS{H:Hp}{cs:List Int}{v:V}(h:bQ H (fG cs) v):∃a,v=.ref a/\H a=some (.tup (cs.map V.int)):=by
 unfold bQ at h;obtain ⟨a,xs,rfl,h1,h2⟩:=h;cases zT h2;exact ⟨a,rfl,h1⟩
theorem aX.ofInts{H:Hp}:∀ns:List Int,aX H (ns.map PyData.int) (ns.map V.int)
 | []=>aX.nil
 | n::ns=>aX.cons (bQ.int _) (aX.ofInts ns)
theorem nQ{H:Hp}{cs:List Int}{a:Addr}(h:H a=some (.tup (cs.map V.int))):bQ H (fG cs) (.ref a):=bQ.tup h (aX.ofInts cs)
structure eU(F W M:Nat):Prop where
 w:2<=W/\W<=4
 f:F=2/\M<=4\/F=3/\M<=3\/F=4/\M<=2
@[irreducible] def oI:Sp:=λvs H Q _=>∃(p:Addr) (n:Nat),vs=[.ref p]/\cB H p (n+3)/\∀q F W M H',eU F W M->cB H' p n->aS p H H'->H' q=some (.tup [.int (F:Nat),.int (W:Nat),.int (M:Nat)])->Q (.ref q) H'
theorem FB{H:Hp}{Q:VK}{E:XK}{p:Addr}{n:Nat}(F:cB H p (n+3))(k:∀q F W M H',eU F W M->cB H' p n->aS p H H'->H' q=some (.tup [.int (F:Nat),.int (W:Nat),.int (M:Nat)])->Q (.ref q) H'):oI [.ref p] H Q E:=by
 unfold oI;exact ⟨p,n,rfl,F,k⟩
section
theorem oQ7(F:gH K "_law_says" "_law_says" sQ7 f fd)(T:iV K mg c)
  (FQ5:eF cR P w K mg base 1 "_law_pick" ["_law_tape_here","_law_many"] jS) (FQ8:eF cR P w K mg base 2 "_law_shares" ["_law_tape_here","_law_many"] jL):dA P w K mg base cR 3 f fd ["_law_tape_here","_law_ways","_law_stops","_law_plain"] qZ:=by
 refine F.oky cQ7 λvs H Q E h=>?_;unfold qZ at h;obtain ⟨p,n,W,st,pl,rfl,F,W2,W4,k⟩:=h;refine ⟨rfl,λcdv A outer s hr=>?_⟩;refine ⟨_,(aU (jH (zW (BR (xY (iX (aJ 3)) (sR (fP qH (bJ FQ5 (hr.mono Dd) (aI (aJ 0) (aI aN aE))) aN (nomark _)))))) (aU (bV (i:=4) cQ7.nd rfl (Or.inr rfl) (cT gP aN (bJ FQ5 (hr.mono Dd) (aI (aJ 0) (aI (aJ 1) aE)))))
  (aU (EQ (jH (zW (BR (ME (mO (iX (aJ 2))) (GR (fP yL (bJ FQ5 (hr.mono Dd) (aI (aJ 0) (aI aN aE))) aN (nomark _)))))) (bB (bV (i:=4) cQ7.nd rfl (Or.inr rfl) aN)) eY))
  (bB (bR (hJ cJ (by rfl) T.b_tuple Kk (aI (eD (dJ.of (psc:=aO sQ7) (N:=["_law_tape_here","_law_ways","_law_stops","_law_plain","_law_place"]) (N':=["_law_k","_law_place"]) (js:=[4]) Kk rfl rfl rfl) (dW rfl T.b_range (aI (cT gP aN (aJ 1)) aE)) (λ_ _ _ _=>dG) (λ_ _ _ _=>(dN (aI (hJ LK (by rfl) T.b_int Kk (aI (iK qH (aJ 0) (aJ 1) (nomark _)) aE)) (aI aN aE))))) aE)))))) eY)
  (aU (jH (iX (aJ 2)) (bB (bR (cT (pS K) (dN (aI (dN (aI aN (aI aN aE))) aE)) (bJ FQ8 (hr.mono Dd) (aI (aJ 0) (aI (aJ 1) aE)))))) eY)
  (bB (bR (bJ FQ8 (hr.mono Dd) (aI (aJ 0) (aI (cT gP aN (aJ 1)) aE))))))),?_⟩
 refine ⟨λb H1=>cB H1 p (n+15)/\aS p H H1,?_,?_⟩
 ·refine ⟨_,rfl,_,rfl,?_⟩;cases pl with
  | true=>exact mG ⟨F.less Oo,(aW.refl _).but⟩
  | false =>
   refine mH ?_;refine ⟨_,rfl,?_⟩;refine eN (n:=n+15) F Dd Kk λx H2 x0 x1 F2 s2=>?_;exact ⟨rfl,_,rfl,F2,s2⟩
 ·rintro b H1 ⟨F1,s1⟩;cases b with
  | true =>
   refine mG ?_;refine ⟨_,rfl,_,rfl,?_⟩;refine eN (n:=n+14) F1 Oo (bitsle (bC (show ((W:Int)).natAbs<=5 by omega) Dd)) λx H2 x0 x1 F2 s2=>?_;refine ⟨_,_,rfl,rfl,?_⟩;refine ⟨λσ H3=>∃a:Nat,σ=[some (.ref p),some (.int (W:Int)),some (.bl st),some (.bl pl),some (.int (a:Int))]/\a<1+W/\(st=true->0<a)/\cB H3 p n/\aS p H H3,?_,?_⟩
   ·rintro σ H3 ⟨a,rfl,ha,hs,F3,s3⟩;refine ⟨_,rfl,_,_,rfl,rfl,_,rfl,Oo,Oo,?_⟩;refine kJ (λi y H'=>∃z,(ind a (1+W))[i]?=some z/\bQ H' (fM (z,1)) y) (λi y H1 H2 s ⟨z,h1,h2⟩=>⟨z,h1,h2.flat s (gS _)⟩) Oo (λi H' Q' hi s' k'=>?_) (λD ys H4 hD hD4 s4 hy4 hr4=>?_)
    ·refine ⟨_,rfl,_,rfl,rfl,?_⟩;refine .inr ⟨_,rfl,?_⟩;refine qO (by show 2<=64;decide) λq5 H5 hq5 e5 s5=>?_;refine k' _ H5 s5 ⟨_,aA5 Oo,?_⟩;refine gR (f:=(if (i:Int)=(a:Int) then 1 else 0,1)) ?_;rw [e5,Int.zero_add];by_cases h:(i:Int)=(a:Int)
     ·rw [if_pos h,if_pos (cE (congrArg V.int h))]
     ·rw [if_neg h,if_neg (by rw [decide_eq_true_eq];exact λz=>h (by injection z))]
    ·refine ⟨D,ys,rfl,.inl ⟨eZ.of hD4,λl hl=>?_⟩⟩;have sl:=aW.upd (o:=.tup ys) hl;have el:(upd H4 l (.tup ys)) l=some (.tup ys):=bE;generalize upd H4 l (.tup ys)=H5 at sl el;refine k _ ((ind a (1+W)).map λx=>(x,1)) H5 ((F3.same s4).same sl) (s3.trans (s4.trans sl).but) (bQ.tup el ?_) (dX.one ha) (λh=>PN (hs h));refine aX.ofIdx (by rw [hy4,aA,aA,IA];omega) λi y hi=>?_;obtain ⟨n,h1,h2⟩:=hr4 i y hi;exact ⟨fM (n,1),by rw [aC,aC,h1];rfl,h2.same sl⟩
   ·refine ⟨λb H3=>cB H3 p n/\aS p H H3/\(b=true->st=false),?_,?_⟩
    ·refine ⟨_,rfl,_,rfl,?_⟩;cases st with
     | true=>exact mH ⟨F2.less Oo,s1.trans s2,λh=>by cases h⟩
     | false =>
      refine mG ?_;refine ⟨_,rfl,?_⟩;refine eN (n:=n) (F2.less Oo) Dd Kk λy H3 y0 y1 F3 s3=>?_;exact ⟨_,_,rfl,rfl,_,rfl,F3,(s1.trans s2).trans s3,λ_=>rfl⟩
    ·rintro b H3 ⟨F3,s3,hb⟩;cases b with
     | true =>
      refine mG ?_;exact ⟨0,rfl,Oo,(λh=>by rw [hb rfl] at h;cases h),F3,s3⟩
     | false =>
      refine mH ?_;exact ⟨(1+x).toNat,by rw [show (((1+x).toNat:Nat):Int)=1+x by omega];rfl,Oo,λ_=>Oo,F3,s3⟩
  | false =>
   refine mH ?_;refine ⟨_,rfl,_,rfl,?_⟩;cases st with
   | true =>
    refine mG ?_;refine qO (by show 2<=64;decide) λq2 H2 hq2 e2 s2=>?_;refine qO (by show 1<=64;decide) λq3 H3 hq3 e3 s3=>?_;refine ⟨_,rfl,_,rfl,?_⟩;have n3:q3≠p:=(F1.same s2).ne hq3;have n2:q2≠p:=F1.ne hq2;refine oJ (n:=n) (m:=W) (((F1.same s2).same s3).less Oo) Oo Oo λv fs H4 F4 s4 r4 ok4=>?_;obtain ⟨a,xs,rfl,ha,rxs⟩:=(by unfold bQ at r4;exact r4);have e4:=s4.at n3 e3;have e5:=s4.at n2 (s3 _ _ e2);refine LI e4 ha (by rw [show ([V.ref q2]:List V).length=1 from rfl,rxs.len,aA,ok4.len];omega) λc H5 s5 e6=>?_;refine k _ ((0,1)::fs) H5 (F4.same s5) (((s1.trans (s2.trans s3).but).trans s4).trans s5.but) (bQ.tup e6 (aX.cons (gR (f:=(0,1)) (s5 _ _ e5)) (rxs.same s5))) ok4.zero (λ_=>rfl)
   | false =>
    refine mH ?_;refine ⟨_,rfl,_,rfl,_,_,rfl,rfl,?_⟩;have e1:(1+(W:Int))=((1+W:Nat):Int):=Oo;show jL [.ref p,.int (1+(W:Int))] _ _ _;rw [e1];refine oJ (n:=n) (m:=1+W) (F1.less Oo) Oo Oo λv fs H4 F4 s4 r4 ok4=>?_;exact k v fs H4 F4 (s1.trans s4) r4 ok4 (λh=>by cases h)
theorem oQ9(F:gH K "_law_sizes" "_law_sizes" sQ9 f fd)(T:iV K mg c)
  (FQ5:eF cR P w K mg base 1 "_law_pick" ["_law_tape_here","_law_many"] jS):dA P w K mg base cR 2 f fd ["_law_tape_here"] oI:=by
 refine F.oky cQ9 λvs H Q E h=>?_;unfold oI at h;obtain ⟨p,n,rfl,F,k⟩:=h;refine ⟨rfl,λcdv A outer s hr=>?_⟩;refine ⟨_,(aU (bV (i:=1) cQ9.nd rfl (Or.inl rfl) (cC bY (eW (aI aN (aI aN (aI aN (aI aN (aI aN (aI aN aE))))))) (bJ FQ5 (hr.mono Dd) (aI (aJ 0) (aI aN aE))) (λ_ _=>rfl)))
  (aU (bV (i:=2) cQ9.nd rfl (Or.inl rfl) (cC bY (cC bY (eW (aI (eW (aI aN (aI aN (aI aN (aI aN (aI aN (aI aN aE))))))) (aI (eW (aI aN (aI aN (aI aN (aI aN (aI aN (aI aN aE))))))) (aI (eW (aI aN (aI aN (aI aN (aI aN (aI aN (aI aN aE))))))) aE)))) (cT FU (aJ 1) aN) (λ_ _=>rfl)) (bJ FQ5 (hr.mono Dd) (aI (aJ 0) (aI aN aE))) (λ_ _=>rfl)))
  (bB (bR (dN (aI (aJ 1) (aI (cC bY (eW (aI aN (aI aN (aI aN (aI aN aE))))) (bJ FQ5 (hr.mono Dd) (aI (aJ 0) (aI aN aE))) (λ_ _=>rfl)) (aI (aJ 2) aE)))))))),?_⟩
 refine wJ (by show 6<=64;decide) λq1 H1 hq1 e1 s1=>?_;refine ⟨_,rfl,?_⟩;refine eN (n:=n+2) (F.same s1) Dd Kk λx H2 x0 x1 F2 s2=>?_;obtain ⟨v,hat,hmem,_⟩:=BI (xs:=[V.int 2,V.int 2,V.int 2,V.int 3,V.int 3,V.int 4]) x0 x1;refine ixL (s2.at (F.ne hq1) e1) hat ?_;have S2:aS p H H2:=s1.but.trans s2;have hv:∃nF:Nat,v=.int (nF:Int)/\(nF=2\/nF=3\/nF=4):=by
  simp only [aV,List.not_mem_nil,or_false] at hmem;rcases hmem with rfl | rfl | rfl | rfl | rfl | rfl
  ·exact ⟨2,rfl,Dd⟩
  ·exact ⟨2,rfl,Dd⟩
  ·exact ⟨2,rfl,Dd⟩
  ·exact ⟨3,rfl,Dd⟩
  ·exact ⟨3,rfl,Dd⟩
  ·exact ⟨4,rfl,Dd⟩
 obtain ⟨nF,rfl,hF⟩:=hv;clear hat hmem e1 hq1 s1 s2;refine wJ (by show 6<=64;decide) λq2 H3 hq2 e2 s3=>?_;refine wJ (by show 6<=64;decide) λq3 H4 hq3 e3 s4=>?_;refine wJ (by show 6<=64;decide) λq4 H5 hq4 e4 s5=>?_;refine wJ (by show 3<=64;decide) λq5 H6 hq5 e5 s6=>?_;refine ⟨_,rfl,_,_,rfl,rfl,?_⟩;have F6:=(((F2.same s3).same s4).same s5).same s6;have S6:aS p H H6:=S2.trans (((s3.trans s4).trans s5).trans s6).but;have g2:=s6 _ _ (s5 _ _ (s4 _ _ e2));have g3:=s6 _ _ (s5 _ _ e3);have g4:=s6 _ _ e4;have hrow:∃(qq:Addr) (ms:List Int),EE [V.ref q2,V.ref q3,V.ref q4] ((nF:Int)-2)=some (.ref qq)/\H6 qq=some (.lst (ms.map V.int))/\ms.length=6/\∀m∈ms,∃M:Nat,m=(M:Int)/\(nF=2/\M<=4\/nF=3/\M<=3\/nF=4/\M<=2):=by
  rcases hF with rfl | rfl | rfl
  ·refine ⟨q2,[1,2,3,4,0,3],rfl,g2,rfl,λm hm=>⟨m.toNat,?_⟩⟩;simp only [aV,List.not_mem_nil,or_false] at hm;omega
  ·refine ⟨q3,[1,2,3,2,0,2],rfl,g3,rfl,λm hm=>⟨m.toNat,?_⟩⟩;simp only [aV,List.not_mem_nil,or_false] at hm;omega
  ·refine ⟨q4,[1,2,2,1,0,2],rfl,g4,rfl,λm hm=>⟨m.toNat,?_⟩⟩;simp only [aV,List.not_mem_nil,or_false] at hm;omega
 obtain ⟨qq,ms,hat,hqq,hms,hall⟩:=hrow;refine ixL e5 hat ?_;refine ⟨_,rfl,?_⟩;refine eN (n:=n+1) F6 Dd Kk λy H7 y0 y1 F7 s7=>?_;obtain ⟨m,hm⟩:∃m,ms[y.toNat]?=some m:=⟨_,aD Oo⟩;have hat2:EE (ms.map V.int) y=some (.int m):=by
  have:=eE (xs:=ms.map V.int) (j:=y.toNat) (v:=V.int m) (by rw [aC,hm];rfl)
  rwa [Int.toNat_of_nonneg y0] at this
 obtain ⟨M,rfl,hM⟩:=hall m (cS.mpr ⟨_,hm⟩);refine ixL (s7.at (F6.neL hqq) hqq) hat2 ?_;refine ⟨_,rfl,?_⟩;refine wJ (by show 4<=64;decide) λq8 H8 hq8 e8 s8=>?_;refine ⟨_,rfl,?_⟩;refine eN (n:=n) (F7.same s8) Dd Kk λz H9 z0 z1 F9 s9=>?_;obtain ⟨v,hat3,hmem3,_⟩:=BI (xs:=[V.int 2,V.int 2,V.int 3,V.int 4]) z0 z1;refine ixL (s9.at (F7.ne hq8) e8) hat3 ?_;have hv:∃nW:Nat,v=.int (nW:Int)/\(2<=nW/\nW<=4):=by
  simp only [aV,List.not_mem_nil,or_false] at hmem3;rcases hmem3 with rfl | rfl | rfl | rfl
  ·exact ⟨2,rfl,Dd⟩
  ·exact ⟨2,rfl,Dd⟩
  ·exact ⟨3,rfl,Dd⟩
  ·exact ⟨4,rfl,Dd⟩
 obtain ⟨nW,rfl,hW⟩:=hv;refine ⟨_,rfl,?_⟩;refine qO (by show 3<=64;decide) λq10 H10 hq10 e10 s10=>?_;exact k q10 nF nW M H10 ⟨hW,hM⟩ (F9.same s10) ((((S6.trans s7).trans s8.but).trans s9).trans s10.but) e10
end
def bump(cs:List Int)(i:Nat):List Int:=cs.take i++[cs.getD i 0+1]++cs.drop (i+1)
def nexts(cs:List Int)(f:Fr):List (List Int):=if f=(0,1) then [] else (List.range cs.length).map (bump cs)
theorem aX.atX{H:Hp}{α:Type}{g:α->PyData}{as:List α}{xs:List V}(r:aX H (as.map g) xs){i:Nat}{a:α}(h:as[i]?=some a):∃x,xs[i]?=some x/\bQ H (g a) x:=by
 induction as generalizing xs i with
 | nil=>simp at h
 | cons b as ih =>
  rw [aZ] at r;unfold aX at r;obtain ⟨x,xs',rfl,r1,r2⟩:=r;cases i with
  | zero=>cases (show b=a by simpa using h);exact ⟨x,rfl,r1⟩
  | succ i=>exact ih r2 (by simpa using h)
theorem mZ{H:Hp}{fs:List Fr}{v:V}(h:bQ H (lO fs) v):∃a xs,v=.ref a/\H a=some (.tup xs)/\aX H (fs.map fM) xs:=by
 unfold bQ at h;exact h
theorem AN{K:PySem.W.Frag}{H:Hp}{a:Addr}{xs:List V}{k:Nat}{z:Int}{Q:VK}(hz:z=(k:Int))(h:H a=some (.tup xs))(q:∀c H',aW H H'->H' c=some (.tup (xs.drop k))->Q (.ref c) H'):FP K (.ref a) (some z) none H Q:=by
 subst hz;exact ZC h q
@[irreducible] def rG:Sp:=λvs H Q _=>∃(x y:V) (cs:List Int) (f:Fr) (fs:List Fr),vs=[x,y]/\bQ H (fG cs) x/\bQ H (lO (f::fs)) y/\cs.length<=4/\fs.length<=4 /\
 ∀D ys H',H D=none->H' D=some (.lst ys)->aX H' ((nexts cs f).map fG) ys->aW H H'->Q (.ref D) H'
theorem JL{H:Hp}{Q:VK}{E:XK}{x y:V}{cs:List Int}{f:Fr}{fs:List Fr}(h1:bQ H (fG cs) x)(h2:bQ H (lO (f::fs)) y)(h3:cs.length<=4)(h4:fs.length<=4)
  (k:∀D ys H',H D=none->H' D=some (.lst ys)->aX H' ((nexts cs f).map fG) ys->aW H H'->Q (.ref D) H'):rG [x,y] H Q E:=by
 unfold rG;exact ⟨x,y,cs,f,fs,rfl,h1,h2,h3,h4,k⟩
theorem WD(x y:Int):PyData.eqv (.int x) (.int y)=decide (x=y):=by
 show (x == y)=_;rw [Bool.beq_eq_decide_eq]
theorem DP:∀a b:List Int,PyData.eqvAll (a.map PyData.int) (b.map PyData.int)=decide (a=b)
 | [],[]=>by simp [PyData.eqvAll]
 | [],_::_=>by simp [PyData.eqvAll]
 | _::_,[]=>by simp [PyData.eqvAll]
 | x::a,y::b=>by
  have ih:=DP a b;rw [aZ,aZ];show (PyData.eqv (.int x) (.int y)&&PyData.eqvAll _ _)=_;rw [ih,WD];by_cases h:x=y <;> by_cases h':a=b <;> simp [h,h']
theorem PV(a b:List Int):PyData.eqv (fG a) (fG b)=decide (a=b):=DP a b
theorem aBf(f g:Fr):PyData.eqv (fM f) (fM g)=decide (f=g):=by
 have h:=PV [f.1,f.2] [g.1,g.2];refine (show PyData.eqv (fM f) (fM g)=_ from h).trans ?_;obtain ⟨f1,f2⟩:=f;obtain ⟨g1,g2⟩:=g;simp
section
theorem oQ3(F:gH K "_law_next" "_law_next" sQ3 f fd)(T:iV K mg c):dA P w K mg base cR 1 f fd ["_law_counts","_law_says_here"] rG:=by
 refine F.oky cQ3 λvs H Q E h=>?_;unfold rG at h;obtain ⟨x,y,cs,g,fs,rfl,rx,ry,h4,h5,k⟩:=h;refine ⟨rfl,λcdv A outer s hr=>?_⟩;obtain ⟨a,rfl,ha⟩:=fS rx;obtain ⟨b,xs,rfl,hb,rxs⟩:=mZ ry;obtain ⟨z,hz,rz⟩:=aX.atX (as:=g::fs) rxs (i:=0) (a:=g) rfl;refine ⟨_,(aU (jH (fP (FW hr.units) (cC bY (aJ 1) aN (λ_ _=>rfl)) (dN (aI aN (aI aN aE))) (nomark _)) (bB (bR (eW aE))) eY)
  (bB (bR (eD (dJ.of (psc:=aO sQ3) (N:=["_law_counts","_law_says_here"]) (N':=["_law_face","_law_counts"]) (js:=[0]) Kk rfl rfl rfl) (dW rfl T.b_range (aI (dL fT (by rfl) T.b_len Kk (aI (aJ 0) aE)) aE)) (λ_ _ _ _=>dG) (λ_ _ _ _=>(cT (pS K) (cT (pS K) (kK (pP K) (aJ 1) mQ (mP (aJ 0))) (dN (aI (cT gP (cC (fE K) (aJ 1) (aJ 0) (λ_ _=>rfl)) aN) aE))) (kK (pP K) (aJ 1) (mP (cT gP (aJ 0) aN)) mQ))))))),?_⟩
 refine ⟨_,rfl,?_⟩;refine lK hb (v:=z) (by
  have:=eE (xs:=xs) (j:=0) (v:=z) hz;exact this) ?_
 refine qO (by show 2<=64;decide) λq1 H1 hq1 e1 s1=>?_;have r1:bQ H1 (fM (0,1)) (.ref q1):=gR e1;refine reD (rz.same s1) r1 rfl rfl ?_;rw [aBf];refine ⟨_,rfl,?_⟩;rw [Bool.true_beq];refine GE (λeg=>?_) (λeg=>?_)
 ·refine wJ (by show 0<=64;decide) λq2 H2 hq2 e2 s2=>?_;refine k q2 [] H2 (s1.free hq2) e2 ?_ (s1.trans s2);unfold nexts;rw [if_pos eg];exact aX.nil
 ·refine ⟨_,rfl,?_⟩;refine RQ (s1 _ _ ha) ?_;rw [aA];refine ⟨_,rfl,Oo,Oo,?_⟩;refine kJ (λi y H'=>i<cs.length/\bQ H' (fG (bump cs i)) y) (λi y H1 H2 s ⟨h1,h2⟩=>⟨h1,h2.flat s (jC _)⟩) Oo (λi H' Q' hi s' k'=>?_) (λD ys H4 hD hD4 s4 hy4 hr4=>?_)
  ·rw [Int.zero_add];have hi':i<cs.length:=Oo;have ha':=s' _ _ (s1 _ _ ha);refine ⟨_,rfl,_,rfl,_,rfl,?_⟩;refine FM ha' λc2 H2 s2 e2=>?_;refine ⟨_,rfl,_,rfl,?_⟩;have hat:EE (cs.map V.int) (i:Int)=some (.int (cs.getD i 0)):=eE (by rw [aC,aF,aD hi'];rfl);refine lK (s2 _ _ ha') hat ?_;refine ⟨_,_,rfl,rfl,?_⟩;refine qO (by show 1<=64;decide) λc3 H3 hc3 e3 s3=>?_;refine LI (s3 _ _ e2) e3 (by rw [dE,aA];show min i cs.length+1<=1000;omega) λc4 H4 s4 e4=>?_;refine ⟨_,rfl,_,rfl,_,_,rfl,rfl,?_⟩;refine ⟨_,rfl,?_⟩;refine AN (k:=i+1) Oo (s4 _ _ (s3 _ _ (s2 _ _ ha'))) λc5 H5 s5 e5=>?_;refine LI (s5 _ _ e4) e5 (by rw [bI,dE,List.length_drop,aA];show min i cs.length+1+(cs.length-(i+1))<=1000;omega) λc6 H6 s6 e6=>?_;refine k' _ H6 ((((s2.trans s3).trans s4).trans s5).trans s6) ⟨hi',nQ ?_⟩;rw [e6];unfold bump;rw [bF,bF,List.map_take,List.map_drop]
   rfl
  ·refine k D ys H4 (s1.free hD) hD4 ?_ (s1.trans s4);unfold nexts;rw [if_neg eg];refine aX.ofIdx (by rw [hy4,aA,aA,bO];omega) λi y hi=>?_;obtain ⟨h1,h2⟩:=hr4 i y hi;exact ⟨fG (bump cs i),by rw [aC,aC,cO h1];rfl,h2⟩
end
theorem mD{α:Type}[DecidableEq α]:∀{l m:List α},l.Nodup->(∀x∈l,x∈m)->l.length<=m.length
 | [],m,_,_=>cK _
 | x::l,m,h,hs=>by
  rw [List.nodup_cons] at h;have hx:=hs x (aG ..);have h1:=mD (l:=l) (m:=m.erase x) h.2 λy hy=>(List.mem_erase_of_ne (λe=>by subst e;exact h.1 hy)).mpr (hs y (aH _ hy));rw [List.length_erase_of_mem hx] at h1;have:0<m.length:=List.length_pos_of_mem hx;rw [bL];omega
def xE:Nat->Nat->List (List Int)
 | 0,m=>if m=0 then [[]] else []
 | F+1,m=>(List.range (m+1)).flatMap λk=>(xE F (m-k)).map λc=>((k:Nat):Int)::c
theorem nG:∀{c:List Int},(∀x∈c,0<=x)->0<=c.sum
 | [],_=>by simp
 | x::c,h=>by
  have h1:=nG (c:=c) λy hy=>h y (aH _ hy);have h2:=h x (aG ..);rw [List.sum_cons];omega
theorem xD:∀{F m:Nat}{c:List Int},c.length=F->(∀x∈c,0<=x)->c.sum=(m:Int)->c∈xE F m
 | 0,m,c,hl,_,hs=>by
  cases c with
  | nil =>
   rw [List.sum_nil] at hs;unfold xE;rw [if_pos Oo];exact aG ..
  | cons _ _=>simp at hl
 | F+1,m,c,hl,hn,hs=>by
  cases c with
  | nil=>simp at hl
  | cons x c =>
   have h2:=hn x (aG ..);have hn':∀y∈c,0<=y:=λy hy=>hn y (aH _ hy);have h1:=nG hn';rw [List.sum_cons] at hs;unfold xE;refine List.mem_flatMap.mpr ⟨x.toNat,bX.mpr Oo,aK.mpr ⟨c,xD (by simpa using hl) hn' Oo,?_⟩⟩;rw [show ((x.toNat:Nat):Int)=x by omega]
structure LY(F:Nat)(j:Nat)(c:List Int):Prop where
 len:c.length=F
 nn:∀x∈c,0<=x
 sum:c.sum=(j:Int)
structure qR(F:Nat)(j:Nat)(cs:List (List Int)):Prop where
 nd:cs.Nodup
 each:∀c∈cs,LY F j c
theorem VM:(∀m≤4,(xE 2 m).length<64)/\(∀m≤3,(xE 3 m).length<64)/\(∀m≤2,(xE 4 m).length<64):=Dd
theorem qR.few{F W M j:Nat}{cs:List (List Int)}(h:qR F j cs)(z:eU F W M)(hj:j<=M):cs.length<64:=by
 have h1:=mD h.nd λc hc=>xD (h.each c hc).len (h.each c hc).nn (h.each c hc).sum;obtain ⟨l2,l3,l4⟩:=VM;rcases z.f with ⟨rfl,hM⟩ | ⟨rfl,hM⟩ | ⟨rfl,hM⟩
 ·exact bC h1 (l2 j Oo)
 ·exact bC h1 (l3 j Oo)
 ·exact bC h1 (l4 j Oo)
theorem iE{cs:List Int}{i:Nat}(h:i<cs.length):bump cs i=cs.set i (cs.getD i 0+1):=by
 unfold bump;rw [List.set_eq_take_append_cons_drop,if_pos h,List.append_assoc];rfl
theorem WV{F j:Nat}{c:List Int}(h:LY F j c){i:Nat}(hi:i<c.length):LY F (j+1) (bump c i):=by
 have hg:c.getD i 0∈c:=by
  rw [aF,aD hi];exact List.getElem_mem hi
 refine ⟨by rw [iE hi,List.length_set];exact h.len,λx hx=>?_,?_⟩
 ·rw [iE hi] at hx;rcases List.mem_or_eq_of_mem_set hx with hx | rfl
  ·exact h.nn x hx
  ·have:=h.nn _ hg;omega
 ·have e:c=c.take i++[c.getD i 0]++c.drop (i+1):=by
   have e1:c.getD i 0=c[i]:=by rw [aF,aD hi];rfl
   rw [e1,List.append_assoc,List.singleton_append,<-List.drop_eq_getElem_cons hi,List.take_append_drop]
  have hs:=h.sum;have e2:c.sum=(c.take i).sum+c.getD i 0+(c.drop (i+1)).sum:=by
   conv=>lhs;rw [e]
   rw [List.sum_append,List.sum_append,List.sum_singleton]
  unfold bump;rw [List.sum_append,List.sum_append,List.sum_singleton];omega
theorem QT{c:List Int}{i k:Nat}(hi:i<c.length)(hk:k<c.length)(e:bump c i=bump c k):i=k:=by
 by_cases h:i=k
 ·exact h
 ·rw [iE hi,iE hk] at e;have e1:=congrArg (λl=>l[i]?) e;rw [List.getElem?_set_self (by simpa using hi),List.getElem?_set_ne (Ne.symm h),aD hi,aF,aD hi] at e1;injection e1 with e1;exact absurd e1 (by show ¬(c[i]+1=c[i]);omega)
theorem gZ{α β:Type}{f:α->β}:∀{l:List α},l.Nodup->(∀x∈l,∀y∈l,f x=f y->x=y)->(l.map f).Nodup
 | [],_,_=>List.nodup_nil
 | x::l,h,k=>by
  rw [List.nodup_cons] at h;rw [aZ,List.nodup_cons];refine ⟨λhm=>?_,gZ h.2 λa ha b hb=>k a (aH _ ha) b (aH _ hb)⟩;obtain ⟨y,hy,e⟩:=aK.mp hm;have:=k y (aH _ hy) x (aG ..) e;subst this;exact h.1 hy
theorem CV{F j:Nat}{c:List Int}(h:LY F j c)(f:Fr):qR F (j+1) (nexts c f):=by
 unfold nexts;split
 ·exact ⟨List.nodup_nil,λc hc=>by cases hc⟩
 ·refine ⟨gZ List.nodup_range λx hx y hy e=>QT (by simpa using hx) (by simpa using hy) e,λd hd=>?_⟩;obtain ⟨i,hi,rfl⟩:=aK.mp hd;exact WV h (by simpa using hi)
theorem qR.more{F j:Nat}{ls ms:List (List Int)}(h1:qR F j ls)(h2:qR F j ms):qR F j (ls++ms.filter λc=>!decide (c∈ls)):=by
 refine ⟨List.nodup_append.mpr ⟨h1.nd,h2.nd.filter _,λa ha b hb e=>?_⟩,λc hc=>?_⟩
 ·subst e;have:=(dI.mp hb).2;simp [ha] at this
 ·rcases cM.mp hc with hc | hc
  ·exact h1.each c hc
  ·exact h2.each c (dI.mp hc).1
theorem qR.perm{F j:Nat}{ls ms:List (List Int)}(h:qR F j ls)(p:ms.Perm ls):qR F j ms:=⟨p.nodup_iff.mpr h.nd,λc hc=>h.each c (p.mem_iff.mp hc)⟩
theorem HP{α:Type}(d:α){cs:List α}{ix:List Nat}(h:ix.Perm (List.range cs.length)):(ix.map λi=>cs.getD i d).Perm cs:=by
 have h1:=h.map λi=>cs.getD i d;have e:(List.range cs.length).map (λi=>cs.getD i d)=cs:=by
  apply List.ext_getElem?;intro i;rw [aC];by_cases hi:i<cs.length
  ·rw [cO hi,aD hi,Option.map_some,aF,aD hi];rfl
  ·rw [bH (by simpa using hi),bH Oo];rfl
 rwa [e] at h1
abbrev cG:=List Int × List Fr
abbrev yY(e:cG):PyData:=.tuple [fG e.1,lO e.2]
abbrev wF(es:List cG):PyData:=.tuple (es.map yY)
theorem sA(e:cG):eI (yY e)=true:=by
 show (eI (fG e.1)&&(eI (lO e.2)&&true))=true;rw [jC,kX];rfl
def hd(fs:List Fr):Fr:=fs.headD (0,1)
structure YT(F:Nat)(es:List cG)(cs:List (List Int)):Prop where
 fwd:∀e∈es,∀c∈nexts e.1 (hd e.2),c∈es.map (·.1)\/c∈cs
 bwd:∀c,c∈es.map (·.1)\/c∈cs->c=List.replicate F 0\/∃e∈es,c∈nexts e.1 (hd e.2)
 zero:List.replicate F 0∈es.map (·.1)\/List.replicate F 0∈cs
def uL(ls:List (List Int))(ne:List cG):Prop:=∀c,c∈ls ↔ ∃e∈ne,c∈nexts e.1 (hd e.2)
theorem uL.more{ls:List (List Int)}{ne:List cG}{e:cG}(h:uL ls ne):uL (ls++(nexts e.1 (hd e.2)).filter λc=>!decide (c∈ls)) (ne++[e]):=λc=>by
 rw [cM,dI];constructor
 ·rintro (hl | ⟨hc,_⟩)
  ·obtain ⟨a,ha,hc⟩:=(h c).mp hl;exact ⟨a,cQ _ ha,hc⟩
  ·exact ⟨e,aL _ (bM.mpr rfl),hc⟩
 ·rintro ⟨a,ha,hc⟩;rcases cM.mp ha with ha | ha
  ·exact .inl ((h c).mpr ⟨a,ha,hc⟩)
  ·rw [bM] at ha;subst ha;by_cases hl:c∈ls
   ·exact .inl hl
   ·exact .inr ⟨hc,by simp [hl]⟩
theorem YT.step{F:Nat}{es ne:List cG}{cs cs2 ls:List (List Int)}(h:YT F es cs)(hp:cs2.Perm cs)(hm:ne.map (·.1)=cs2)(hl:uL ls ne):YT F (es++ne) ls:=by
 have hk:∀c,c∈(es++ne).map (·.1)↔c∈es.map (·.1)\/c∈cs:=λc=>by rw [bF,cM,hm,hp.mem_iff]
 refine ⟨λe he c hc=>?_,λc hc=>?_,.inl ((hk _).mpr h.zero)⟩
 ·rcases cM.mp he with he | he
  ·exact .inl ((hk c).mpr (h.fwd e he c hc))
  ·exact .inr ((hl c).mpr ⟨e,he,hc⟩)
 ·rcases hc with hc | hc
  ·rcases h.bwd c ((hk c).mp hc) with h0 | ⟨e,he,h1⟩
   ·exact .inl h0
   ·exact .inr ⟨e,cQ _ he,h1⟩
  ·obtain ⟨e,he,h1⟩:=(hl c).mp hc;exact .inr ⟨e,aL _ he,h1⟩
def rk(a b:List Int):Prop:=a.sum<b.sum\/a.sum=b.sum/\jG a b=true
structure dB(F W M:Nat)(es:List cG):Prop where
 ne:es≠[]
 nd:(es.map (·.1)).Nodup
 each:∀e∈es,e.1.length=F/\(∀x∈e.1,0<=x)/\e.1.sum<=(M:Int)/\dX (1+W) e.2
 asc:(es.map λe=>e.1.sum).Pairwise (· <= ·)
 len:es.length<=320
 clo:YT F es []
 rise:(es.map (·.1)).Pairwise rk
structure RG(F W M j:Nat)(es:List cG):Prop where
 nd:(es.map (·.1)).Nodup
 each:∀e∈es,e.1.length=F/\(∀x∈e.1,0<=x)/\e.1.sum<(j:Int)/\e.1.sum<=(M:Int)/\dX (1+W) e.2
 asc:(es.map λe=>e.1.sum).Pairwise (· <= ·)
 len:es.length<=64*j
 rise:(es.map (·.1)).Pairwise rk
structure EJ(F W M j:Nat)(es0 es:List cG)(cs:List (List Int)):Prop where
 ex:∃ne:List cG,es=es0++ne/\ne.map (·.1)=cs/\∀e∈ne,dX (1+W) e.2
theorem EJ.done{F W M j:Nat}{es0 es:List cG}{cs:List (List Int)}(h0:RG F W M j es0)(h:EJ F W M j es0 es cs)(l:qR F j cs)(hj:j<=M)(hl:cs.length<=64)(hx:cs.Pairwise λa b=>jG a b=true):RG F W M (j+1) es:=by
 obtain ⟨ne,rfl,hm,hs⟩:=h.ex;have hin:∀e∈ne,LY F j e.1:=λe he=>l.each e.1 (hm ▸ List.mem_map_of_mem he);refine ⟨?_,λe he=>?_,?_,?_,?_⟩
 ·rw [bF];refine List.nodup_append.mpr ⟨h0.nd,hm ▸ l.nd,λa ha b hb e=>?_⟩;subst e;obtain ⟨e1,m1,rfl⟩:=aK.mp ha;have:=(h0.each e1 m1).2.2.1;rw [hm] at hb;have:=(l.each _ hb).sum;omega
 ·rcases cM.mp he with he | he
  ·obtain ⟨a1,a2,a3,a4,a5⟩:=h0.each e he;exact ⟨a1,a2,Oo,a4,a5⟩
  ·have c:=hin e he;have:=c.sum;exact ⟨c.len,c.nn,Oo,Oo,hs e he⟩
 ·rw [bF];refine List.pairwise_append.mpr ⟨h0.asc,?_,λa ha b hb=>?_⟩
  ·have:∀x∈ne.map (λe=>e.1.sum),x=(j:Int):=λx hx=>by
    obtain ⟨e,he,rfl⟩:=aK.mp hx;exact (hin e he).sum
   exact List.pairwise_of_forall_mem_list λa ha b hb=>by rw [this a ha,this b hb];exact Int.le_refl _
  ·obtain ⟨e1,m1,rfl⟩:=aK.mp ha;obtain ⟨e2,m2,rfl⟩:=aK.mp hb;have:=(h0.each e1 m1).2.2.1;have:=(hin e2 m2).sum;omega
 ·have hne:ne.length=cs.length:=by rw [<-hm,aA]
  have:=h0.len;rw [bI];omega
 ·rw [bF,hm];refine List.pairwise_append.mpr ⟨h0.rise,hx.imp_of_mem λha hb h=>.inr ⟨((l.each _ ha).sum).trans ((l.each _ hb).sum).symm,h⟩,λa ha b hb=>?_⟩;obtain ⟨e1,m1,rfl⟩:=aK.mp ha;have:=(h0.each e1 m1).2.2.1;have:=(l.each b hb).sum;exact .inl Oo
theorem RG.rule{F W M j:Nat}{es:List cG}(h:RG F W M j es)(hj:j<=5)(hne:es≠[])(cl:YT F es []):dB F W M es :=
 ⟨hne,h.nd,λe he=>⟨(h.each e he).1,(h.each e he).2.1,(h.each e he).2.2.2.1,(h.each e he).2.2.2.2⟩,h.asc,by have:=h.len;omega,cl,h.rise⟩
@[irreducible] def rC:Sp:=λvs H Q _=>∃(p:Addr) (n F W M:Nat) (pl:Bool),vs=[.ref p,.int (F:Int),.int (W:Int),.int (M:Int),.bl pl]/\cB H p (n+8192)/\eU F W M/\∀v es H',cB H' p n->aS p H H'->bQ H' (wF es) v->dB F W M es->Q v H'
theorem JK{H:Hp}{Q:VK}{E:XK}{p:Addr}{n F W M:Nat}{pl:Bool}(T:cB H p (n+8192))(z:eU F W M)(k:∀v es H',cB H' p n->aS p H H'->bQ H' (wF es) v->dB F W M es->Q v H'):rC [.ref p,.int (F:Int),.int (W:Int),.int (M:Int),.bl pl] H Q E:=by
 unfold rC;exact ⟨p,n,F,W,M,pl,rfl,T,z,k⟩
theorem tV(cs:List (List Int)):SeqAt.shaped (.list (cs.map fG))=true:=by
 have hl:∀cs:List (List Int),PyData.canLayAll0 (cs.map fG)=true:=λcs=>by
  induction cs with
  | nil=>rfl
  | cons c cs ih =>
   show (PyData.canLay0 (fG c)&&PyData.canLayAll0 (cs.map fG))=true;rw [ih,show PyData.canLay0 (fG c)=PyData.canLayAll0 (c.map .int) from rfl,yO];rfl
 have hd:∀cs:List (List Int),PyData.depthAll (cs.map fG)<=2:=λcs=>by
  induction cs with
  | nil=>show 0<=2;omega
  | cons c cs ih =>
   show max (PyData.depth (fG c)) (PyData.depthAll (cs.map fG))<=2;have:=IG c;have:PyData.depth (fG c)<=2:=by simp only [PyData.depth];omega
   omega
 unfold SeqAt.shaped;rw [show PyData.canLay0 (.list (cs.map fG))=PyData.canLayAll0 (cs.map fG) from rfl,hl,Bool.true_and,decide_eq_true_eq];have:=hd cs;simp only [PyData.depth];omega
theorem WC(cs:List (List Int)):PyData.eqv (.list (cs.map fG)) (.list [])=decide (cs=[]):=by
 cases cs with
 | nil=>rfl
 | cons c cs=>show PyData.eqvAll (fG c::cs.map fG) []=_;simp [PyData.eqvAll]
theorem gT:∀cs:List (List Int),fA (cs.map fG)=true
 | []=>rfl
 | c::cs=>by show (eI (fG c)&&fA (cs.map fG))=true;rw [jC,gT cs];rfl
theorem mJ:∀es:List cG,fA (es.map yY)=true
 | []=>rfl
 | e::es=>by show (eI (yY e)&&fA (es.map yY))=true;rw [sA,mJ es];rfl
theorem HD{H:Hp}{cs:List (List Int)}{ws:List V}(r:aX H (cs.map fG) ws):∀ix:List Nat,(∀i∈ix,i<cs.length)->aX H ((ix.map λi=>cs.getD i []).map fG) (ix.map λi=>ws.getD i .non)
 | [],_=>aX.nil
 | i::ix,h=>by
  have hi:=h i (aG ..);obtain ⟨x,hx,rx⟩:=aX.atX r (i:=i) (a:=cs[i]) (by simp [hi]);have e1:cs.getD i []=cs[i]:=by simp [hi]
  have e2:ws.getD i .non=x:=by rw [aF,hx];rfl
  refine aX.cons ?_ (HD r ix λj hj=>h j (aH _ hj));show bQ H (fG (cs.getD i [])) (ws.getD i .non);rw [e1,e2];exact rx
theorem EJ.snoc{F W M j:Nat}{es0 es:List cG}{cs:List (List Int)}{c:List Int}{fs:List Fr}(h:EJ F W M j es0 es cs)(ok:dX (1+W) fs):EJ F W M j es0 (es++[(c,fs)]) (cs++[c]):=by
 obtain ⟨ne,rfl,hm,hs⟩:=h.ex;refine ⟨ne++[(c,fs)],by rw [List.append_assoc],by rw [bF,hm];rfl,λe he=>?_⟩;rcases cM.mp he with he | he
 ·exact hs e he
 ·rw [bM] at he;subst he;exact ok
theorem EJ.len{F W M j:Nat}{es0 es:List cG}{cs:List (List Int)}(h:EJ F W M j es0 es cs):es.length=es0.length+cs.length:=by
 obtain ⟨ne,rfl,hm,hs⟩:=h.ex;rw [bI,<-hm,aA]
section
theorem oQ6(F:gH K "_law_rule" "_law_rule" sQ6 f fd)(T:iV K mg c)
  (FQ7:eF cR P w K mg base 3 "_law_says" ["_law_tape_here","_law_ways","_law_stops","_law_plain"] qZ) (FQ3:eF cR P w K mg base 1 "_law_next" ["_law_counts","_law_says_here"] rG):dA P w K mg base cR 4 f fd ["_law_tape_here","_law_faces","_law_ways","_law_most","_law_plain"] rC:=by
 refine F.oky cQ6 λvs H Q E h=>?_;unfold rC at h;obtain ⟨p,n,F,W,M,pl,rfl,TP,Z,k⟩:=h;refine ⟨rfl,λcdv A outer s hr=>?_⟩;refine ⟨_,(aU (bV (i:=5) cQ6.nd rfl (Or.inl rfl) (eW aE))
  (aU (bV (i:=6) cQ6.nd rfl (Or.inl rfl) (eW (aI (cT VG (dN (aI aN aE)) (aJ 1)) aE)))
  (aU (qS PassesOwn.never (fP (FV hr.units) (aJ 6) (eW aE) (nomark _)) (aU (bV (i:=7) cQ6.nd rfl (Or.inr rfl) (eW aE))
  (aU (iJ PassesOwn.never rfl (gW (dL (aBi K) (by rfl) T.b_sorted Kk (aI (aJ 6) aE))) (dP (i:=8) cQ6.nd rfl (Or.inl rfl)) (aU (bV (i:=9) cQ6.nd rfl (Or.inl rfl) (bJ FQ7 (hr.mono Dd) (aI (aJ 0) (aI (aJ 2) (aI (iK qH (dL (sF K rfl) (by rfl) T.b_sum Kk (aI (aJ 8) aE)) (aJ 3) (nomark _)) (aI (aJ 4) aE))))))
  (aU (jR (vT PySem.F.plainAttrs_list PySem.F.slot_list_append PySem.F.type_list_append AW (aJ 5) (aI (dN (aI (aJ 8) (aI (aJ 9) aE))) aE)))
  (bB (jR (vT PySem.F.plainAttrs_list PySem.F.slot_list_extend PySem.F.type_list_extend OX (aJ 7) (aI (eD (dJ.of (psc:=aO sQ6) (N:=["_law_tape_here","_law_faces","_law_ways","_law_most","_law_plain","_law_found","_law_level","_law_later","_law_counts","_law_says_here"]) (N':=["_law_one","_law_later"]) (js:=[7]) Kk rfl rfl rfl) (gW (bJ FQ3 (hr.mono Dd) (aI (aJ 8) (aI (aJ 9) aE)))) (λ_ _ _ _=>zV (fP (KD K hr.units) (aJ 0) (aJ 1) (by with_unfolding_all rfl))) (λ_ _ _ _=>(aJ 0))) aE)))))))
  (bB (bV (i:=6) cQ6.nd rfl (Or.inl rfl) (aJ 7))))))
  (bB (bR (hJ cJ (by rfl) T.b_tuple Kk (aI (aJ 5) aE))))))),?_⟩
 refine wJ (by show 0<=64;decide) λfo H1 hfo e1 s1=>?_;refine qO (by show 1<=64;decide) λq2 H2 hq2 e2 s2=>?_;refine ⟨_,rfl,?_⟩;have hF:2<=F/\F<=4:=by have:=Z.f;omega
 refine aD9 e2 hF.1 Oo λq3 H3 s3 e3=>?_;refine wJ (by show 1<=64;decide) λle H4 hle e4 s4=>?_;have nlf:fo≠p:=TP.ne hfo;have F4:=(((TP.same s1).same s2).same s3).same s4;have S4:aS p H H4:=((((s1.trans s2).trans s3).trans s4)).but;have rz:bQ H4 (fG (List.replicate F 0)) (.ref q3):=nQ (by rw [s4 _ _ e3,List.map_replicate]);have ok0:LY F 0 (List.replicate F 0):=⟨bU,λx hx=>by have:=List.eq_of_mem_replicate hx;omega,by
  have:∀k:Nat,(List.replicate k (0:Int)).sum=0:=λk=>by
   induction k with
   | zero=>rfl
   | succ k ih=>rw [List.replicate_succ,List.sum_cons,ih];rfl
  rw [this];rfl⟩
 have e1':=s4 _ _ (s3 _ _ (s2 _ _ e1));have hle0:H le=none:=((s1.trans s2).trans s3).free hle;have nlp:le≠p:=TP.ne hle0;have nfl:le≠fo:=λe=>by subst e;rw [s3 _ _ (s2 _ _ e1)] at hle;cases hle
 refine vF (λm σ H'=>∃(j:Nat) (le:Addr) (o7 o8 o9:Option V) (vs ws:List V) (es:List cG) (cs:List (List Int)),σ=[some (.ref p),some (.int (F:Int)),some (.int (W:Int)),some (.int (M:Int)),some (.bl pl),some (.ref fo),some (.ref le),o7,o8,o9] /\
   m=6-j/\j<=M+1/\(j<=M\/cs=[])/\(j=0->cs≠[])/\(0<j->es≠[])/\cB H' p (n+1024*(6-j))/\aS p H H'/\H' fo=some (.lst vs)/\aX H' (es.map yY) vs/\H' le=some (.lst ws)/\aX H' (cs.map fG) ws/\H le=none/\le≠fo/\qR F j cs/\RG F W M j es/\YT F es cs)
  (λσ H'=>∃(le:Addr) (o7 o8 o9:Option V) (vs:List V) (es:List cG),σ=[some (.ref p),some (.int (F:Int)),some (.int (W:Int)),some (.int (M:Int)),some (.bl pl),some (.ref fo),some (.ref le),o7,o8,o9]/\cB H' p n/\aS p H H'/\H' fo=some (.lst vs)/\aX H' (es.map yY) vs/\dB F W M es)
  6 ⟨0,le,none,none,none,[],_,[],[List.replicate F 0],rfl,rfl,Oo,.inl Oo,λ_ h=>by (cases h),λh=>Oo,F4.less Oo,S4,e1',aX.nil,e4,aX.cons rz aX.nil,hle0,nfl,⟨by simp,λc hc=>by (rw [bM] at hc;subst hc;exact ok0)⟩,⟨List.nodup_nil,λe he=>by (cases he),List.Pairwise.nil,cK _,List.Pairwise.nil⟩,⟨λe he=>by (cases he),λc hc=>.inl (by simpa using hc),.inr (by simp)⟩⟩ ?_ ?_
 ·clear e1 e2 e3 e4 s1 s2 s3 s4 F4 S4 rz ok0 e1' hle0 nlp nfl hle hq2;rintro m σ H1 ⟨j,le,o7,o8,o9,vs,ws,es,cs,rfl,rfl,hj,hjc,hj0,hes,F1,S1,hfo1,rfo,hle1,rle,hle0,nfl,LV,RT,CL⟩;have nlp:le≠p:=TP.ne hle0;refine ⟨_,rfl,?_⟩;refine wJ (by show 0<=64;decide) λq5 H5 hq5 e5 s5=>?_;refine reD (bQ.lst (s5 _ _ hle1) (rle.same s5)) (bQ.lst e5 aX.nil) (tV cs) rfl ?_;rw [WC];refine ⟨_,rfl,?_⟩;have hM:M<=4:=by have:=Z.f;omega
  by_cases hc:cs=[]
  ·rw [cE hc];refine mH ⟨le,o7,o8,o9,vs,es,rfl,(F1.same s5).less Oo,S1.trans s5.but,s5 _ _ hfo1,rfo.same s5,RT.rule Oo (hes ?_) (hc ▸ CL)⟩;have:j≠0:=λe=>hj0 e hc;omega
  ·rw [dC hc];refine mG ?_;have hjM:j<=M:=by
    rcases hjc with h | h
    ·exact h
    ·exact absurd h hc
   have few:=LV.few Z hjM;have lw':ws.length=cs.length:=by rw [rle.len,aA]
   refine wJ (by show 0<=64;decide) λla H6 hla e6 s6=>?_;refine ⟨_,rfl,?_⟩;have s16:=s5.trans s6;refine rsrt (cs:=cs) (eZ.of (s16 _ _ hle1)) (rle.same s16) (λc hc' h=>by have:=(LV.each c hc').len;rw [h] at this;simp at this;omega) Oo λso ix H7 hix hlx hso e7 s7=>?_;rw [lw'] at hix;have hixl:∀i∈ix,i<cs.length:=λi hi=>by have:=hix.mem_iff.mp hi;simpa using this
   have lix:ix.length=cs.length:=by rw [hix.length_eq,bO]
   have LV2:qR F j (ix.map λi=>cs.getD i []):=LV.perm (HP [] hix);have hpm:=HP [] hix;have hsx:=hlx LV.nd;have s17:=s16.trans s7;have rso:aX H7 ((ix.map λi=>cs.getD i []).map fG) (ix.map λi=>ws.getD i .non):=HD (rle.same s17) ix hixl;have lcs:(ix.map λi=>cs.getD i []).length=cs.length:=by rw [aA,lix]
   generalize hcs2:(ix.map λi=>cs.getD i [])=cs2 at *;generalize hys2:(ix.map λi=>ws.getD i V.non)=ys2 at *;have lys:ys2.length=cs2.length:=by rw [rso.len,aA]
   have hla0:H la=none:=aS.free S1 F1.there (s5.free hla);have hso0:H so=none:=aS.free S1 F1.there (s16.free hso);have nla:la≠p:=TP.ne hla0;have nso:so≠p:=TP.ne hso0;have nlf':la≠fo:=λe=>by subst e;rw [s5 _ _ hfo1] at hla;cases hla
   have nsf:so≠fo:=λe=>by subst e;rw [s16 _ _ hfo1] at hso;cases hso
   have nsl:so≠la:=λe=>by subst e;rw [e6] at hso;cases hso
   refine ⟨so,rfl,⟨_,eZ.of e7⟩,?_⟩;refine oZ (xs:=ys2) (λi σ H'=>∃(o8 o9:Option V) (vs2 us:List V) (es2:List cG) (ls:List (List Int)),σ=[some (.ref p),some (.int (F:Int)),some (.int (W:Int)),some (.int (M:Int)),some (.bl pl),some (.ref fo),some (.ref le),some (.ref la),o8,o9] /\
     cB H' p (n+1024*(6-j)-16*i)/\aS p H H'/\H' so=some (.lst ys2)/\H' fo=some (.lst vs2)/\aX H' (es2.map yY) vs2/\H' la=some (.lst us)/\aX H' (ls.map fG) us/\EJ F W M j es es2 (cs2.take i)/\qR F (j+1) ls/\(j=M->ls=[])/\aX H' (cs2.map fG) ys2/\uL ls (es2.drop es.length))
    ⟨_,_,vs,[],es,[],rfl,(F1.same s17).less Oo,S1.trans s17.but,e7,s17 _ _ hfo1,rfo.same s17,s7 _ _ e6,aX.nil,⟨[],by rw [List.append_nil],rfl,λe he=>by cases he⟩,⟨List.nodup_nil,λc hc=>by cases hc⟩,λ_=>rfl,rso,λc=>⟨(λh=>by cases h),(λ⟨e,he,_⟩=>by rw [List.drop_length] at he;cases he)⟩⟩ (λi σ H' _ q=>?_) ?_ ?_
   ·obtain ⟨_,_,_,_,_,_,_,_,_,h,_⟩:=q;exact eZ.of h
   ·rintro i x σ H' hx ⟨o8,o9,vs2,us,es2,ls,rfl,F',S',hso',hfo',rfo',hla',rla',RI,LS,hjm,rso',LF⟩;obtain ⟨c,hci,rx⟩:=rso'.atI hx;have hi:i<cs2.length:=(aY.mp hci).1;have okc:=LV2.each c (bD hci);obtain ⟨ax,rfl,hax⟩:=fS rx;refine ⟨_,rfl,_,rfl,_,rfl,?_⟩;refine rsT (dO.of hax) ?_;refine ⟨_,rfl,rfl,_,rfl,?_⟩;refine JI (n:=n+1024*(6-j)-16*(i+1)) (F'.less Oo) Z.w.1 Z.w.2 λv fs H8 F8 s8 r8 ok8 st8=>?_;have t8:=F'.t s8;have hso8:=s8.at nso hso';have hfo8:=s8.at nlf hfo';have hla8:=s8.at nla hla';have rfo8:=rfo'.flat t8 (mJ _);have rla8:=rla'.flat t8 (gT _);have rso8:=rso'.flat t8 (gT _);have rx8:=rx.flat t8 (jC _);have hlen:vs2.length<=500:=by
     rw [rfo8.len,aA,RI.len,dE];have:=RT.len;have:64*j<=64*5:=Nat.mul_le_mul_left _ Oo;omega
    refine ⟨_,rfl,SO hfo8,_,rfl,_,rfl,?_⟩;refine qO (by show 2<=64;decide) λq9 H9 hq9 e9 s9=>?_;refine WY (s9 _ _ hfo8) Oo λH10 e10 s10=>?_;have t10:=s10.t (s9 _ _ hfo8);have t910:=s9.t.trans t10;have hso10:=s10.at nsf (s9 _ _ hso8);have hla10:=s10.at nlf' (s9 _ _ hla8);have rx10:=rx8.flat t910 (jC _);have r10:=r8.flat t910 (kX _);have ren:bQ H10 (yY (c,fs)) (.ref q9):=bQ.tup (t10 _ _ e9) (aX.cons rx10 (aX.cons r10 aX.nil));have rfo10:aX H10 ((es2++[(c,fs)]).map yY) (vs2++[.ref q9]):=by
     rw [bF];exact aX.append (aX.cons ren aX.nil) (rfo8.flat t910 (mJ _))
    have F10:=(F8.same s9).but s10 nlf;have S10:aS p H H10:=aS.thru hfo ((S'.trans s8).trans s9.but) s10;obtain ⟨f0,fr,rfl⟩:∃f0 fr,fs=f0::fr:=by
     cases fs with
     | nil=>exact absurd (ok8.len) (by rw [List.length_nil];omega)
     | cons f0 fr=>exact ⟨f0,fr,rfl⟩
    have lfr:fr.length<=4:=by have:=ok8.len;rw [bL] at this;have:=Z.w;omega
    refine ⟨_,rfl,SO hla10,_,rfl,_,rfl,?_⟩;refine JL rx10 r10 (by rw [okc.len];omega) lfr λD ys H11 hD hD11 rD s11=>?_;refine ⟨D,rfl,⟨_,eZ.of hD11⟩,?_⟩;have NX:=CV okc f0;have lnx:(nexts c f0).length<=4:=by
     unfold nexts;split
     ·exact cK _
     ·rw [aA,bO,okc.len];omega
    have rla11:=(rla8.flat t910 (gT _)).same s11;have llen:ls.length<64:=by
     by_cases h:j=M
     ·rw [hjm h];decide
     ·exact LS.few Z Oo
    refine LE rD (λd=>!decide (d∈ls)) (by rw [rD.len,aA];omega) hD11 (λx' d H' Q' hd rx' s' k'=>?_) (λx' H' Q' q=>⟨_,rfl,q⟩) (λD2 ys2 H12 hD2 e12 s12 r12=>?_)
    ·refine ⟨_,rfl,_,rfl,?_⟩;refine riT (.inl (eZ.of (s' _ _ (s11 _ _ hla10)))) (rla11.same s') rx'.k ?_;exact ⟨_,rfl,k' H' (aW.refl _)⟩
    ·have s1112:=s11.trans s12;refine aCu (s1112 _ _ hla10) e12 (by rw [rla8.len,r12.len,aA,aA];have:=List.length_filter_le (λd=>!decide (d∈ls)) (nexts c f0);omega) λH13 e13 s13=>?_;have t13:=s13.t (s1112 _ _ hla10);have tt:=s1112.t.trans t13;refine ⟨_,_,vs2++[.ref q9],us++ys2,es2++[(c,f0::fr)],ls++(nexts c f0).filter (λd=>!decide (d∈ls)),rfl,(F10.same s1112).but s13 nla,aS.thru hla0 (S10.trans s1112.but) s13,s13.at nsl (s1112 _ _ hso10),s13.at (Ne.symm nlf') (s1112 _ _ e10),rfo10.flat tt (mJ _),e13,?_,?_,LS.more NX,λh=>?_,(rso8.flat t910 (gT _)).flat tt (gT _),?_⟩
     ·rw [bF];exact aX.append (r12.flat t13 (gT _)) ((rla11.same s12).flat t13 (gT _))
     ·rw [List.take_succ,hci];exact RI.snoc ok8
     ·have hsum:=okc.sum;have:=st8 (cE (by rw [hsum,h]));cases (show f0=(0,1) by simpa using this);rw [hjm h]
      rfl
     ·have hle2:es.length<=es2.length:=by rw [RI.len];omega
      rw [List.drop_append_of_le_length hle2];exact uL.more (e:=(c,f0::fr)) LF
   ·rintro σ H8 ⟨o8,o9,vs2,us,es2,ls,rfl,F8,S8,hso8,hfo8,rfo8,hla8,rla8,RI,LS,hjm,_,LF⟩;rw [lys,hV] at RI;have RT2:=RI.done RT LV2 hjM Oo hsx;have CL2:YT F es2 ls:=by
     obtain ⟨ne,e1,e2,_⟩:=RI.ex;subst e1;rw [List.drop_left] at LF;exact CL.step hpm e2 LF
    refine ⟨_,rfl,6-(j+1),Oo,j+1,la,_,_,_,vs2,us,es2,ls,rfl,rfl,Oo,?_,λh=>Oo,λ_ h=>?_,F8.less (by rw [lys];omega),S8,hfo8,rfo8,hla8,rla8,hla0,nlf',LS,RT2,CL2⟩
    ·by_cases h:j=M
     ·exact .inr (hjm h)
     ·exact .inl Oo
    ·have:=RI.len;rw [h] at this;have h0:cs.length≠0:=λe=>hc (List.length_eq_zero_iff.mp e);simp at this;omega
 ·rintro σ H1 ⟨le,o7,o8,o9,vs,es,rfl,F1,S1,hfo1,rfo,RO⟩;refine ⟨_,rfl,fo,vs,rfl,.inl ⟨eZ.of hfo1,λl hl=>?_⟩⟩;have sl:=aW.upd (o:=.tup vs) hl;have el:(upd H1 l (.tup vs)) l=some (.tup vs):=bE;generalize upd H1 l (.tup vs)=H2 at sl el;exact k _ es H2 (F1.same sl) (S1.trans sl.but) (bQ.tup el (rfo.same sl)) RO
end
abbrev ZU:Stmt:=(top 4)
theorem aEC:bK ["thing"] ["thing"] (aO ZU):=⟨rfl,rfl,rfl,Kk,rfl,Kk,Kk⟩
abbrev aAc:Stmt:=(top 5)
theorem LO:bK ["number","above_nought","divided","divisor","rest"] ["number","above_nought"] (aO aAc):=⟨rfl,rfl,rfl,Kk,rfl,Kk,Kk⟩
abbrev ZX:Stmt:=(top 7)
theorem aEI:bK ["thing"] ["thing"] (aO ZX):=⟨rfl,rfl,rfl,Kk,rfl,Kk,Kk⟩
abbrev ZW:Stmt:=(top 8)
theorem aEE:bK ["thing"] ["thing"] (aO ZW):=⟨rfl,rfl,rfl,Kk,rfl,Kk,Kk⟩
abbrev ZP:Stmt:=(top 9)
theorem LN:bK ["one","other","common","one_part","other_part","upper","left"] ["one","other"] (aO ZP):=⟨rfl,rfl,rfl,Kk,rfl,Kk,Kk⟩
abbrev ZK:Stmt:=(top 12)
theorem GI:bK ["some","whole","one"] ["some"] (aO ZK):=⟨rfl,rfl,rfl,Kk,rfl,Kk,Kk⟩
abbrev ZV:Stmt:=(top 16)
theorem aED:bK ["thing","many"] ["thing","many"] (aO ZV):=⟨rfl,rfl,rfl,Kk,rfl,Kk,Kk⟩
abbrev TZ:Stmt:=(top 17)
theorem aEQ:bK ["thing","many"] ["thing","many"] (aO TZ):=⟨rfl,rfl,rfl,Kk,rfl,Kk,Kk⟩
abbrev aAg:Stmt:=(top 18)
theorem aES:bK ["thing","many"] ["thing","many"] (aO aAg):=⟨rfl,rfl,rfl,Kk,rfl,Kk,Kk⟩
abbrev TU:Stmt:=(top 24)
theorem aEK:bK ["faces","thing"] ["faces","thing"] (aO TU):=⟨rfl,rfl,rfl,Kk,rfl,Kk,Kk⟩
abbrev aAf:Stmt:=(top 32)
theorem aER:bK ["ways","thing"] ["ways","thing"] (aO aAf):=⟨rfl,rfl,rfl,Kk,rfl,Kk,Kk⟩
abbrev ZY:Stmt:=(top 35)
theorem aEJ:bK ["faces","ways","thing"] ["faces","ways","thing"] (aO ZY):=⟨rfl,rfl,rfl,Kk,rfl,Kk,Kk⟩
def eB(es:List cG)(c:List Int):Option (List Fr):=(es.find? λe=>decide (e.1=c)).map (·.2)
theorem tG{H:Hp}{es:List cG}{v:V}(h:bQ H (wF es) v):∃a xs,v=.ref a/\H a=some (.tup xs)/\aX H (es.map yY) xs:=by
 unfold bQ at h;exact h
theorem tU{H:Hp}{e:cG}{v:V}(h:bQ H (yY e) v):∃a x y,v=.ref a/\H a=some (.tup [x,y])/\bQ H (fG e.1) x/\bQ H (lO e.2) y:=by
 unfold bQ aX aX aX at h;obtain ⟨a,_,rfl,h1,x,_,rfl,r1,y,_,rfl,r2,rfl⟩:=h;exact ⟨a,x,y,rfl,h1,r1,r2⟩
structure uJ(n:Nat)(fs:List Fr):Prop where
 ex:∃ns:List Int,ns.length=n/\(∀x∈ns,0<=x/\x<=14)/\0<ns.sum/\fs=ns.map λx=>lw x ns.sum
theorem dX.pt{n:Nat}{fs:List Fr}(h:dX n fs):uJ n fs:=by
 obtain ⟨ns,h1,h2,h3,h4⟩:=h.ex;exact ⟨ns,h1,λx hx=>⟨(h2 x hx).1,by have:=(h2 x hx).2;omega⟩,h3,h4⟩
theorem uJ.len{n:Nat}{fs:List Fr}(h:uJ n fs):fs.length=n:=by
 obtain ⟨ns,h1,_,_,rfl⟩:=h.ex;rw [aA,h1]
theorem CA:∀{ns:List Int},(∀x∈ns,0<=x/\x<=14)->0<=ns.sum/\ns.sum<=14*(ns.length:Int)
 | [],_=>by simp
 | n::ns,h=>by
  have h1:=CA (ns:=ns) λx hx=>h x (aH _ hx);have h2:=h n (aG ..);rw [List.sum_cons,bL];omega
theorem DJ:∀{ns:List Int},(∀x∈ns,0<=x/\x<=14)->∀x∈ns,x<=ns.sum
 | n::ns,h,x,hx=>by
  have h1:=CA (ns:=ns) λx hx=>h x (aH _ hx);have h2:=h n (aG ..);rw [List.sum_cons];rcases aV.mp hx with rfl | hx
  ·omega
  ·have:=DJ (λx hx=>h x (aH _ hx)) x hx;omega
structure RU(f:Fr):Prop where
 low:fF f
 nn:0<=f.1
 le:f.1<=f.2
 sz:f.2<=100
theorem OZ{x s:Int}(h0:0<=x)(hs:x<=s)(hp:0<s)(h100:s<=100):RU (lw x s):=by
 have hc:=iD (n:=x) (d:=s);have hl:=fL (n:=x) hp;have h2:0<(lw x s).2:=hl.1;have h3:=(HV (n:=x) hp).1;refine ⟨hl,?_,?_,Oo⟩
 ·by_cases q:0<=(lw x s).1
  ·exact q
  ·exfalso;have h5:(lw x s).1*s<0:=Int.mul_neg_of_neg_of_pos Oo hp;have h6:0<=x*(lw x s).2:=Int.mul_nonneg h0 Oo;omega
 ·by_cases q:(lw x s).1<=(lw x s).2
  ·exact q
  ·exfalso;have h5:(lw x s).2*s<(lw x s).1*s:=Int.mul_lt_mul_of_pos_right Oo hp;have h6:x*(lw x s).2<=s*(lw x s).2:=Int.mul_le_mul_of_nonneg_right hs Oo;rw [Int.mul_comm s] at h6;omega
theorem uJ.sh{n:Nat}{fs:List Fr}(h:uJ n fs)(hn:n<=5):∀f∈fs,RU f:=λf hf=>by
 obtain ⟨ns,h1,h2,h3,rfl⟩:=h.ex;obtain ⟨x,hx,rfl⟩:=aK.mp hf;have:=CA h2;exact OZ (h2 x hx).1 (DJ h2 x hx) h3 Oo
theorem RU.szf{f:Fr}(h:RU f):xG 1000 f:=by
 have:=h.nn;have:=h.le;have:=h.sz;exact ⟨bC (show f.1.natAbs<=100 by omega) Kk,bC (show f.2.natAbs<=100 by omega) Kk⟩
theorem RU.szf4{f:Fr}(h:RU f):xG 4000 f:=⟨bA h.szf.1 (fB Dd Dd),bA h.szf.2 (fB Dd Dd)⟩
def vC(K:PySem.W.Frag)(H:Hp)(fs:List Fr)(v:V):Prop:=∃a xs,v=.ref a/\H a=some (.tup xs)/\Paired (fU K H) fs xs
theorem vC.same{K:PySem.W.Frag}{H H':Hp}{fs:List Fr}{v:V}(s:aW H H')(h:vC K H fs v):vC K H' fs v:=by
 obtain ⟨a,xs,rfl,e,p⟩:=h;exact ⟨a,xs,rfl,s _ _ e,Paired.imp' (λ_ _ r=>fU.same s r) p⟩
theorem vC.of{K:PySem.W.Frag}{H:Hp}{fs:List Fr}{v:V}(h:bQ H (lO fs) v):vC K H fs v:=by
 obtain ⟨a,xs,rfl,e,r⟩:=mZ h;exact ⟨a,xs,rfl,e,Paired.imp' (λ_ _ r=>fU.of r) (Paired.ofRepL r)⟩
theorem eG{α β:Type}{R:α->β->Prop}:∀{l:List α}{m:List β}{i:Nat}{b:β},Paired R l m->m[i]?=some b->∃a,l[i]?=some a/\R a b
 | _,_,i,b,.nil,h=>by simp at h
 | _,_,0,b,.cons r t,h=>by
  cases (show _=b by simpa using h);exact ⟨_,rfl,r⟩
 | _,_,i+1,b,.cons r t,h=>by
  obtain ⟨a,h1,h2⟩:=eG t (by simpa using h);exact ⟨a,by simpa using h1,h2⟩
theorem oB:∀{ys:List V},(∀(i:Nat) (y:V),ys[i]?=some y->y=.bl true)->ys=(List.replicate ys.length true).map V.bl
 | [],_=>rfl
 | y::ys,h=>by
  rw [h 0 y rfl];have:=oB (ys:=ys) λi z hz=>h (i+1) z (by simpa using hz);rw [bL,List.replicate_succ,aZ,<-this]
theorem pZ(n:Nat):(List.replicate n true).all id=true:=by rw [List.all_eq_true];intro x hx;exact List.eq_of_mem_replicate hx
theorem PL{b:Bool}{A B:Prop}(h:b=true)(k:A):if b=true then A else B:=by rw [h,if_pos rfl];exact k
theorem aCm{b:Bool}{A B:Prop}(h:b=false)(k:B):if b=true then A else B:=by rw [h,if_neg Dd];exact k
theorem xF{x y D:Int}(h:0<D):nY (lw x D) (lw y D)=lw (x+y) D:=by
 rw [aBr h h];refine rR (Int.mul_pos h h) h ?_;rw [<-Int.add_mul,Int.mul_assoc]
theorem BW:∀{ns:List Int},(∀x∈ns,0<=x/\x<=14)->∀i,0<=(ns.take i).sum/\(ns.take i).sum<=ns.sum
 | [],_,i=>by simp
 | n::ns,h,0=>by
  have:=CA h;simpa using this.1
 | n::ns,h,i+1=>by
  have h1:=BW (ns:=ns) (λx hx=>h x (aH _ hx)) i;have h2:=h n (aG ..);rw [List.take_succ_cons,List.sum_cons,List.sum_cons];omega
@[irreducible] def kP:Sp:=λvs H Q _=>∃n:Int,vs=[.int n]/\Q (.bl true) H
theorem mU{H:Hp}{Q:VK}{E:XK}{n:Int}(q:Q (.bl true) H):kP [.int n] H Q E:=by unfold kP;exact ⟨n,rfl,q⟩
@[irreducible] def rJ(K:PySem.W.Frag):Sp:=λvs H Q _=>∃(x:V) (f:Fr),vs=[x]/\fU K H f x/\fF f/\Q (.bl true) H
theorem JO{K:PySem.W.Frag}{H:Hp}{Q:VK}{E:XK}{x:V}{f:Fr}(h1:fU K H f x)(h2:fF f)(q:Q (.bl true) H):rJ K [x] H Q E:=by unfold rJ;exact ⟨x,f,rfl,h1,h2,q⟩
@[irreducible] def rH(K:PySem.W.Frag):Sp:=λvs H Q _=>∃(x:V) (f:Fr),vs=[x]/\fU K H f x/\RU f/\Q (.bl true) H
theorem JN{K:PySem.W.Frag}{H:Hp}{Q:VK}{E:XK}{x:V}{f:Fr}(h1:fU K H f x)(h2:RU f)(q:Q (.bl true) H):rH K [x] H Q E:=by unfold rH;exact ⟨x,f,rfl,h1,h2,q⟩
@[irreducible] def kA(K:PySem.W.Frag):Sp:=λvs H Q _=>∃(a:Addr) (xs:List V) (n:Int),vs=[.ref a,.int n]/\dO K H a xs/\(xs.length:Int)=n/\Q (.bl true) H
theorem mV{K:PySem.W.Frag}{H:Hp}{Q:VK}{E:XK}{a:Addr}{xs:List V}{n:Int}(h1:dO K H a xs)(h2:(xs.length:Int)=n)(q:Q (.bl true) H):kA K [.ref a,.int n] H Q E:=by unfold kA;exact ⟨a,xs,n,rfl,h1,h2,q⟩
@[irreducible] def oT(K:PySem.W.Frag):Sp:=λvs H Q _=>∃(v:V) (fs:List Fr) (n:Int),vs=[v,.int n]/\vC K H fs v/\(fs.length:Int)=n/\fs.length<=64/\(∀f∈fs,RU f)/\∀H',aW H H'->Q (.bl true) H'
theorem FI{K:PySem.W.Frag}{H:Hp}{Q:VK}{E:XK}{v:V}{fs:List Fr}{n:Int}(h1:vC K H fs v)(h2:(fs.length:Int)=n)(h3:fs.length<=64)(h4:∀f∈fs,RU f)(q:∀H',aW H H'->Q (.bl true) H'):oT K [v,.int n] H Q E:=by unfold oT;exact ⟨v,fs,n,rfl,h1,h2,h3,h4,q⟩
@[irreducible] def qW(K:PySem.W.Frag):Sp:=λvs H Q _=>∃(v:V) (fs:List Fr) (n:Nat),vs=[v]/\vC K H fs v/\uJ n fs/\n<=5/\∀y H',aW H H'->bQ H' (fM (1,1)) y->Q y H'
structure RE(fs:List Fr):Prop where
 low:∀f∈fs,fF f
 sz:∀f∈fs,xG 4000 f
 part:∀i,fF (nX (fs.take i))/\xG 4000 (nX (fs.take i))
structure EK(K:PySem.W.Frag)(H:Hp)(fs:List Fr)(xs:List V):Prop where
 len:xs.length=fs.length
 at_:∀(i:Nat) (x:V),xs[i]?=some x->∃f,fs[i]?=some f/\fU K H f x
@[irreducible] def qX(K:PySem.W.Frag):Sp:=λvs H Q _=>∃a xs fs,vs=[.ref a]/\H a=some (.lst xs)/\EK K H fs xs/\RE fs/\∀v H',aW H H'->bQ H' (fM (nX fs)) v->Q v H'
@[irreducible] def fX(K:PySem.W.Frag):Sp:=λvs H Q E=>qW K vs H Q E\/qX K vs H Q E
theorem xN{K:PySem.W.Frag}{H:Hp}{Q:VK}{E:XK}{v:V}{fs:List Fr}{n:Nat}(h1:vC K H fs v)(h2:uJ n fs)(h3:n<=5)(q:∀y H',aW H H'->bQ H' (fM (1,1)) y->Q y H'):fX K [v] H Q E:=by unfold fX qW;exact .inl ⟨v,fs,n,rfl,h1,h2,h3,q⟩
@[irreducible] def oM(K:PySem.W.Frag):Sp:=λvs H Q _=>∃(v:V) (fs:List Fr) (n:Nat) (z:Int),vs=[v,.int z]/\vC K H fs v/\uJ n fs/\n<=5/\z=(n:Int)/\∀H',aW H H'->Q (.bl true) H'
theorem FD{K:PySem.W.Frag}{H:Hp}{Q:VK}{E:XK}{v:V}{fs:List Fr}{n:Nat}{z:Int}(h1:vC K H fs v)(h2:uJ n fs)(h3:n<=5)(h4:z=(n:Int))(q:∀H',aW H H'->Q (.bl true) H'):oM K [v,.int z] H Q E:=by unfold oM;exact ⟨v,fs,n,z,rfl,h1,h2,h3,h4,q⟩
@[irreducible] def kW(K:PySem.W.Frag):Sp:=λvs H Q _=>∃(v:V) (fs:List Fr) (W:Nat),vs=[.int (W:Int),v]/\vC K H fs v/\uJ (1+W) fs/\W<=4/\∀H',aW H H'->Q (.bl true) H'
theorem AI{K:PySem.W.Frag}{H:Hp}{Q:VK}{E:XK}{v:V}{fs:List Fr}{W:Nat}(h1:vC K H fs v)(h2:uJ (1+W) fs)(h3:W<=4)(q:∀H',aW H H'->Q (.bl true) H'):kW K [.int (W:Int),v] H Q E:=by unfold kW;exact ⟨v,fs,W,rfl,h1,h2,h3,q⟩
@[irreducible] def kC:Sp:=λvs H Q _=>∃(v:V) (c:List Int) (F:Nat),vs=[.int (F:Int),v]/\bQ H (fG c) v/\c.length=F/\F<=64/\(∀x∈c,0<=x)/\∀H',aW H H'->Q (.bl true) H'
theorem xP{H:Hp}{Q:VK}{E:XK}{v:V}{c:List Int}{F:Nat}(h1:bQ H (fG c) v)(h2:c.length=F)(h3:F<=64)(h4:∀x∈c,0<=x)(q:∀H',aW H H'->Q (.bl true) H'):kC [.int (F:Int),v] H Q E:=by unfold kC;exact ⟨v,c,F,rfl,h1,h2,h3,h4,q⟩
def xK(K:PySem.W.Frag)(H:Hp)(e:cG)(x:V):Prop:=∃b u v,x=.ref b/\H b=some (.tup [u,v])/\bQ H (fG e.1) u/\vC K H e.2 v
theorem xK.same{K:PySem.W.Frag}{H H':Hp}{e:cG}{x:V}(s:aW H H')(h:xK K H e x):xK K H' e x:=by
 obtain ⟨b,u,v,rfl,h1,h2,h3⟩:=h;exact ⟨b,u,v,rfl,s _ _ h1,h2.same s,h3.same s⟩
theorem xK.of{K:PySem.W.Frag}{H:Hp}{e:cG}{x:V}(h:bQ H (yY e) x):xK K H e x:=by
 obtain ⟨b,u,v,rfl,h1,h2,h3⟩:=tU h;exact ⟨b,u,v,rfl,h1,h2,vC.of h3⟩
structure aBz(F W:Nat)(e:cG):Prop where
 len:e.1.length=F
 nn:∀x∈e.1,0<=x
 sy:uJ (1+W) e.2
@[irreducible] def kQ(K:PySem.W.Frag):Sp:=λvs H Q _=>∃(v:V) (e:cG) (F W:Nat),vs=[.int (F:Int),.int (W:Int),v]/\xK K H e v/\aBz F W e/\F<=64/\W<=4/\∀H',aW H H'->Q (.bl true) H'
theorem AF{K:PySem.W.Frag}{H:Hp}{Q:VK}{E:XK}{v:V}{e:cG}{F W:Nat}(h1:xK K H e v)(h2:aBz F W e)(h3:F<=64)(h4:W<=4)(q:∀H',aW H H'->Q (.bl true) H'):kQ K [.int (F:Int),.int (W:Int),v] H Q E:=by unfold kQ;exact ⟨v,e,F,W,rfl,h1,h2,h3,h4,q⟩
section
theorem aDJ(F:gH K "is_whole" "is_whole" ZU f fd)(T:iV K mg c):dA P w K mg base cR 1 f fd ["thing"] kP:=by
 refine F.oky aEC λvs H Q E h=>?_;unfold kP at h;obtain ⟨n,rfl,q⟩:=h;refine ⟨rfl,λcdv A outer s hr=>?_⟩;refine ⟨_,(bB (bR (jI (dL QL (by rfl) T.b_isinstance Kk (aI (aJ 0) (aI (qU (v:=.ty "int") (u:=.type "int") rfl T.b_int Kk rfl) aE))) (kL (YV (dL QL (by rfl) T.b_isinstance Kk (aI (aJ 0) (aI (qU (v:=.ty "bool") (u:=.type "bool") rfl T.b_bool Kk rfl) aE)))))))),?_⟩;refine ⟨_,rfl,?_⟩;refine riI (bQ.int n) ?_;refine ⟨_,rfl,?_⟩;refine mG ?_;refine ⟨_,rfl,?_⟩;refine riI (bQ.int n) ?_;exact ⟨_,rfl,q⟩
theorem aDP(F:gH K "is_fraction" "is_fraction" ZX f fd)(T:iV K mg c)(FQ35:eF cR P w K mg base 1 "is_whole" ["thing"] kP)(FQ20:eF cR P w K mg base 1 "common_divisor" ["number","above_nought"] wB):dA P w K mg base cR 2 f fd ["thing"] (rJ K):=by
 refine F.oky aEI λvs H Q E h=>?_;unfold rJ at h;obtain ⟨x,f,rfl,⟨a,rfl,ha⟩,low,q⟩:=h;refine ⟨rfl,λcdv A outer s hr=>?_⟩;refine ⟨_,(aU (jH (BR (xY (mO (iX (dL (BF K) (by rfl) T.b_isinstance Kk (aI (aJ 0) (aI (qU (v:=.ty "tuple") (u:=.type "tuple") rfl T.b_tuple Kk rfl) aE))))) (sR (fP OR (dL fT (by rfl) T.b_len Kk (aI (aJ 0) aE)) aN (nomark _))))) (bB (bR oA)) eY)
  (aU (jH (BR (xY (mO (iX (bJ FQ35 (hr.mono Dd) (aI (cC bY (aJ 0) aN (λ_ _=>rfl)) aE)))) (sR (mO (iX (bJ FQ35 (hr.mono Dd) (aI (cC bY (aJ 0) aN (λ_ _=>rfl)) aE))))))) (bB (bR oA)) eY)
  (bB (bR (jI (iK YB (cC bY (aJ 0) aN (λ_ _=>rfl)) aN (nomark _)) (kL (iK qH (bJ FQ20 (hr.mono Dd) (aI (cC bY (aJ 0) aN (λ_ _=>rfl)) (aI (cC bY (aJ 0) aN (λ_ _=>rfl)) aE))) aN (nomark _)))))))),?_⟩
 refine ⟨_,rfl,?_⟩;refine NW ha ?_;refine ⟨_,rfl,?_⟩;refine mH ?_;refine ⟨_,rfl,?_⟩;refine rlK ha ?_;refine ⟨rfl,_,rfl,?_⟩;refine mH ?_;refine ⟨_,rfl,?_⟩;refine sP ha rfl ?_;refine mU ?_;refine ⟨_,rfl,?_⟩;refine mH ?_;refine ⟨_,rfl,?_⟩;refine sP ha rfl ?_;refine mU ?_;refine ⟨_,rfl,?_⟩;refine mH ?_;refine ⟨_,rfl,?_⟩;refine sP ha rfl ?_;refine ⟨_,_,rfl,rfl,_,rfl,?_⟩;have hp:=low.pos;have hg:=low.low;refine PL (cE Oo) ?_;refine ⟨_,rfl,?_⟩;refine sP ha rfl ?_;refine ⟨_,rfl,?_⟩;refine sP ha rfl ?_;refine rM hp ?_;refine ⟨rfl,?_⟩;rw [hg];exact q
theorem aDL(F:gH K "is_share" "is_share" ZW f fd)(T:iV K mg c)(FQ29:eF cR P w K mg base 2 "is_fraction" ["thing"] (rJ K)):dA P w K mg base cR 3 f fd ["thing"] (rH K):=by
 refine F.oky aEE λvs H Q E h=>?_;unfold rH at h;obtain ⟨x,f,rfl,hx,sh,q⟩:=h;refine ⟨rfl,λcdv A outer s hr=>?_⟩;have hx0:=hx;obtain ⟨a,rfl,ha⟩:=hx;refine ⟨_,(bB (bR (jI (bJ FQ29 (hr.mono Dd) (aI (aJ 0) aE)) (kL (MO YA YA aN (cC bY (aJ 0) aN (λ_ _=>rfl)) (cC bY (aJ 0) aN (λ_ _=>rfl))))))),?_⟩;refine ⟨_,rfl,?_⟩;refine JO hx0 sh.low ?_;refine ⟨_,rfl,?_⟩;refine mG ?_;refine ⟨_,rfl,?_⟩;refine sP ha rfl ?_;refine ⟨_,_,rfl,rfl,_,rfl,?_⟩;refine PL (cE sh.nn) ?_;refine ⟨_,rfl,?_⟩;refine sP ha rfl ?_;refine ⟨_,_,rfl,rfl,?_⟩;show Q (.bl (decide (f.1<=f.2))) H;rw [cE sh.le];exact q
theorem aDK(F:gH K "is_tuple_of" "is_tuple_of" ZV f fd)(T:iV K mg c):dA P w K mg base cR 1 f fd ["thing","many"] (kA K):=by
 refine F.oky aED λvs H Q E h=>?_;unfold kA at h;obtain ⟨a,xs,n,rfl,ha,hn,q⟩:=h;refine ⟨rfl,λcdv A outer s hr=>?_⟩;refine ⟨_,(bB (bR (jI (dL (BF K) (by rfl) T.b_isinstance Kk (aI (aJ 0) (aI (qU (v:=.ty "tuple") (u:=.type "tuple") rfl T.b_tuple Kk rfl) aE))) (kL (iK qH (dL fT (by rfl) T.b_len Kk (aI (aJ 0) aE)) (aJ 1) (nomark _)))))),?_⟩;refine ⟨_,rfl,?_⟩;refine NW ha ?_;refine ⟨_,rfl,?_⟩;refine mG ?_;refine ⟨_,rfl,?_⟩;refine rlK ha ?_;refine ⟨_,rfl,rfl,?_⟩;rw [hn,cE rfl];exact q
theorem aD2(F:gH K "are_shares" "are_shares" TZ f fd)(T:iV K mg c)(FQ34:eF cR P w K mg base 1 "is_tuple_of" ["thing","many"] (kA K))(FQ33:eF cR P w K mg base 3 "is_share" ["thing"] (rH K)):dA P w K mg base cR 4 f fd ["thing","many"] (oT K):=by
 refine F.oky aEQ λvs H Q E h=>?_;unfold oT at h;obtain ⟨x,fs,n,rfl,⟨a,xs,rfl,ha,pr⟩,hn,h64,sh,q⟩:=h;refine ⟨rfl,λcdv A outer s hr=>?_⟩;have hl:xs.length=fs.length:=pr.length.symm;refine ⟨_,(bB (bR (jI (bJ FQ34 (hr.mono Dd) (aI (aJ 0) (aI (aJ 1) aE))) (kL (dL (wY rfl) (by rfl) T.b_all Kk (aI (eD (dJ.of (psc:=aO TZ) (N:=["thing","many"]) (N':=["one"]) (js:=[]) Kk rfl rfl rfl) (gK (aJ 0)) (λ_ _ _ _=>dG) (λ_ _ _ _=>(bJ FQ33 (hr.mono Dd) (aI (aJ 0) aE)))) aE)))))),?_⟩;refine ⟨_,rfl,_,rfl,?_⟩;refine mV (dO.of ha) (by rw [hl];exact hn) ?_;refine ⟨_,rfl,?_⟩;refine mG ?_;refine ⟨_,rfl,a,rfl,⟨_,dO.of ha⟩,?_⟩;refine gE (λi y _=>y=.bl true) (λ_ _ _ _ _ h=>h) Oo ha (λi y H' Q' hy s' k'=>?_) (λD ys H1 hD hD1 s1 hy hr1=>?_)
 ·obtain ⟨g,hg,rg⟩:=eG pr hy;refine ⟨_,rfl,?_⟩;refine JN (rg.same s') (sh g (bD hg)) ?_;exact k' _ H' (aW.refl _) rfl
 ·rw [oB hr1] at hD1;refine rall hD1 ?_;rw [pZ];exact q H1 s1
theorem aDq(F:gH K "total" "total" ZK f fd)(T:iV K mg c)(FQ44:eF cR P w K mg base 2 "plus" ["one","other"] (mX K)):dA P w K mg base cR 3 f fd ["some"] (fX K):=by
 refine F.okw GI (λvs H Q E h=>?_) (λcdv A outer s H vs Q E hr h=>?_)
 ·unfold fX qW qX at h;rcases h with ⟨x,fs,n,rfl,_⟩ | ⟨a,xs,fs,rfl,_⟩ <;> rfl
 ·unfold fX qW qX at h;rcases h with ⟨x,fs,n,rfl,⟨a,xs,rfl,ha,pr⟩,pt,hn,q⟩ | ⟨a,vs,fs,rfl,ha,hv,ok,q⟩
  ·skip
   have sh:=pt.sh hn;obtain ⟨ns,h1,h2,h3,rfl⟩:=pt.ex;have hl:xs.length=ns.length:=by rw [<-pr.length,aA]
   have s14:=CA h2;refine ⟨_,(aU (bV (i:=1) GI.nd rfl (Or.inl rfl) (dN (aI aN (aI aN aE))))
   (aU (iJ PassesOwn.never rfl (XG (gW (aJ 0)) (gK (aJ 0))) (dP (i:=2) GI.nd rfl (Or.inl rfl)) (bB (bV (i:=1) GI.nd rfl (Or.inl rfl) (bJ FQ44 (hr.mono Dd) (aI (aJ 1) (aI (aJ 2) aE))))))
   (bB (bR (aJ 1))))),?_⟩
   refine qO (by show 2<=64;decide) λp0 H0 hp0 e0 s0=>?_;refine .inr ⟨_,rfl,a,rfl,⟨_,dO.of (s0 _ _ ha)⟩,?_⟩;refine ID (xs:=xs) (λi σ H'=>∃w o2,σ=[some (.ref a),some w,o2]/\aW H H'/\bQ H' (fM (lw (ns.take i).sum ns.sum)) w) ⟨_,_,rfl,s0,?_⟩ (λi σ H' _ p=>?_) ?_ ?_
   ·rw [List.take_zero,List.sum_nil,vL h3];exact gR (f:=(0,1)) e0
   ·obtain ⟨w,o2,rfl,s1,_⟩:=p;exact dO.of (s1 _ _ ha)
   ·rintro i x σ H1 hx ⟨w,o2,rfl,s1,r1⟩;obtain ⟨g,hg,rg⟩:=eG pr hx;rw [aC] at hg;obtain ⟨z,hz,rfl⟩:=dH.mp hg;have hzm:=bD hz;have t1:=BW h2 i;have sb:=OZ t1.1 t1.2 h3 Oo;have sz:=sh _ (aK.mpr ⟨z,hzm,rfl⟩);refine ⟨_,rfl,_,rfl,?_⟩;refine pK (fU.of r1) (rg.same s1) sb.low sz.low sb.szf4 sz.szf4 ?_;intro p2 H2 hp2 e2 s2;refine ⟨_,_,rfl,s1.trans s2,?_⟩;rw [eQ,hz,List.sum_append,show (some z).toList.sum=z by simp,<-xF h3];exact gR e2
   ·rintro σ H1 ⟨w,o2,rfl,s1,r1⟩;rw [hl,hV,AX h3] at r1;exact ⟨_,rfl,q _ H1 s1 r1⟩
  ·skip
   have hlen:=hv.len;refine ⟨_,(aU (bV (i:=1) GI.nd rfl (Or.inl rfl) (dN (aI aN (aI aN aE))))
   (aU (iJ PassesOwn.never rfl (XG (gW (aJ 0)) (gK (aJ 0))) (dP (i:=2) GI.nd rfl (Or.inl rfl)) (bB (bV (i:=1) GI.nd rfl (Or.inl rfl) (bJ FQ44 (hr.mono Dd) (aI (aJ 1) (aI (aJ 2) aE))))))
   (bB (bR (aJ 1))))),?_⟩
   refine qO (by show 2<=64;decide) λp0 H0 hp0 e0 s0=>?_;refine .inl ⟨_,rfl,a,rfl,⟨_,eZ.of (s0 _ _ ha)⟩,?_⟩;refine oZ (xs:=vs) (λi σ H'=>∃w o2,σ=[some (.ref a),some w,o2]/\aW H H'/\bQ H' (fM (nX (fs.take i))) w) ⟨_,_,rfl,s0,gR e0⟩ (λi σ H' _ p=>?_) ?_ ?_
   ·obtain ⟨w,o2,rfl,s1,_⟩:=p;exact eZ.of (s1 _ _ ha)
   ·rintro i x σ H1 hx ⟨w,o2,rfl,s1,r1⟩;obtain ⟨g,hg,rg⟩:=hv.at_ i x hx;have hm:=bD hg;obtain ⟨t1,t2⟩:=ok.part i;refine ⟨_,rfl,_,rfl,?_⟩;refine pK (fU.of r1) (fU.same s1 rg) t1 (ok.low _ hm) t2 (ok.sz _ hm) ?_;intro p2 H2 hp2 e2 s2;refine ⟨_,_,rfl,s1.trans s2,?_⟩;rw [show fs.take (i+1)=fs.take i++[g] by rw [eQ,hg];rfl,pH];exact gR e2
   ·rintro σ H1 ⟨w,o2,rfl,s1,r1⟩;refine ⟨_,rfl,?_⟩;rw [hlen,hV] at r1;exact q _ H1 s1 r1
theorem aD4(F:gH K "are_parts" "are_parts" aAg f fd)(T:iV K mg c)(FQ16:eF cR P w K mg base 4 "are_shares" ["thing","many"] (oT K))(FQ54:eF cR P w K mg base 3 "total" ["some"] (fX K)):dA P w K mg base cR 5 f fd ["thing","many"] (oM K):=by
 refine F.oky aES λvs H Q E h=>?_;unfold oM at h;obtain ⟨x,fs,n,z,rfl,sy,pt,hn,hz,q⟩:=h;refine ⟨rfl,λcdv A outer s hr=>?_⟩;refine ⟨_,(bB (bR (jI (bJ FQ16 (hr.mono Dd) (aI (aJ 0) (aI (aJ 1) aE))) (kL (iK (OS K hr.units) (bJ FQ54 (hr.mono Dd) (aI (aJ 0) aE)) (lG (v:=.ref c.ONE) rfl T.g_ONE rfl) (nomark _)))))),?_⟩;refine ⟨_,rfl,_,rfl,?_⟩;refine FI sy (by rw [pt.len,hz]) (by rw [pt.len];omega) (pt.sh hn) λH1 s1=>?_;refine ⟨_,rfl,?_⟩;refine mG ?_;refine ⟨_,rfl,?_⟩;refine xN (sy.same s1) pt hn λy H2 s2 r2=>?_;refine reK r2.k (dU.tup (K:=K) (kO (H:=H2) T.o_ONE) (cX.ints [1,1])) rfl rfl ?_;exact q H2 (s1.trans s2)
theorem aD3(F:gH K "are_says" "are_says" aAf f fd)(T:iV K mg c)(FQ14:eF cR P w K mg base 5 "are_parts" ["thing","many"] (oM K)):dA P w K mg base cR 6 f fd ["ways","thing"] (kW K):=by
 refine F.oky aER λvs H Q E h=>?_;unfold kW at h;obtain ⟨x,fs,W,rfl,sy,pt,hW,q⟩:=h;refine ⟨rfl,λcdv A outer s hr=>?_⟩;refine ⟨_,(bB (bR (bJ FQ14 (hr.mono Dd) (aI (aJ 1) (aI (cT gP aN (aJ 0)) aE))))),?_⟩;refine ⟨_,rfl,_,rfl,_,_,rfl,rfl,?_⟩;exact FD sy pt Oo Oo q
theorem aDR(F:gH K "is_counts" "is_counts" TU f fd)(T:iV K mg c)(FQ34:eF cR P w K mg base 1 "is_tuple_of" ["thing","many"] (kA K))(FQ35:eF cR P w K mg base 1 "is_whole" ["thing"] kP):dA P w K mg base cR 2 f fd ["faces","thing"] kC:=by
 refine F.oky aEK λvs H Q E h=>?_;unfold kC at h;obtain ⟨x,d,F,rfl,rx,hl,hF,nn,q⟩:=h;refine ⟨rfl,λcdv A outer s hr=>?_⟩;obtain ⟨a,rfl,ha⟩:=fS rx;refine ⟨_,(bB (bR (jI (bJ FQ34 (hr.mono Dd) (aI (aJ 1) (aI (aJ 0) aE))) (kL (dL (wY rfl) (by rfl) T.b_all Kk (aI (eD (dJ.of (psc:=aO TU) (N:=["faces","thing"]) (N':=["one"]) (js:=[]) Kk rfl rfl rfl) (gK (aJ 1)) (λ_ _ _ _=>dG) (λ_ _ _ _=>(jI (bJ FQ35 (hr.mono Dd) (aI (aJ 0) aE)) (kL (iK YB (aJ 0) aN (nomark _)))))) aE)))))),?_⟩;refine ⟨_,rfl,_,rfl,?_⟩;refine mV (dO.of ha) (by rw [aA,hl]) ?_;refine ⟨_,rfl,?_⟩;refine mG ?_;refine ⟨_,rfl,a,rfl,⟨_,dO.of ha⟩,?_⟩;refine gE (λi y _=>y=.bl true) (λ_ _ _ _ _ h=>h) (by rw [aA];omega) ha (λi y H' Q' hy s' k'=>?_) (λD ys H1 hD hD1 s1 hy hr1=>?_)
 ·rw [aC] at hy;obtain ⟨z,hz,rfl⟩:=dH.mp hy;have:=nn z (bD hz);refine ⟨_,rfl,?_⟩;refine mU ?_;refine ⟨_,rfl,?_⟩;refine mG ?_;refine ⟨_,rfl,_,_,rfl,rfl,?_⟩;refine k' _ H' (aW.refl _) ?_;show V.bl (decide (0<=z))=V.bl true;rw [cE this]
 ·rw [oB hr1] at hD1;refine rall hD1 ?_;rw [pZ];exact q H1 s1
theorem aDQ(F:gH K "is_entry" "is_entry" ZY f fd)(T:iV K mg c)(FQ34:eF cR P w K mg base 1 "is_tuple_of" ["thing","many"] (kA K))(FQ27:eF cR P w K mg base 2 "is_counts" ["faces","thing"] kC)(FQ15:eF cR P w K mg base 6 "are_says" ["ways","thing"] (kW K)):dA P w K mg base cR 7 f fd ["faces","ways","thing"] (kQ K):=by
 refine F.oky aEJ λvs H Q E h=>?_;unfold kQ at h;obtain ⟨x,e,F,W,rfl,⟨b,u,v,rfl,hb,ru,sv⟩,ok,hF,hW,q⟩:=h;refine ⟨rfl,λcdv A outer s hr=>?_⟩;refine ⟨_,(bB (bR (jI (bJ FQ34 (hr.mono Dd) (aI (aJ 2) (aI aN aE))) (jI (bJ FQ27 (hr.mono Dd) (aI (aJ 0) (aI (cC bY (aJ 2) aN (λ_ _=>rfl)) aE))) (kL (bJ FQ15 (hr.mono Dd) (aI (aJ 1) (aI (cC bY (aJ 2) aN (λ_ _=>rfl)) aE)))))))),?_⟩;refine ⟨_,rfl,?_⟩;refine mV (dO.of hb) rfl ?_;refine ⟨_,rfl,?_⟩;refine mG ?_;refine ⟨_,rfl,_,rfl,?_⟩;refine lK hb rfl ?_;refine xP ru ok.len hF ok.nn λH1 s1=>?_;refine ⟨_,rfl,?_⟩;refine mG ?_;refine ⟨_,rfl,_,rfl,?_⟩;refine lK (s1 _ _ hb) rfl ?_;exact AI (sv.same s1) ok.sy hW λH2 s2=>q H2 (s1.trans s2)
end
theorem nA{es:List cG}{c:List Int}{fs:List Fr}(h:eB es c=some fs):(c,fs)∈es:=by
 unfold eB at h;obtain ⟨e,he,rfl⟩:=dH.mp h;have h1:=List.find?_some he;have h2:=List.mem_of_find?_eq_some he;have h3:e.1=c:=by simpa using h1
 rw [<-h3];exact h2
theorem JT{es:List cG}(nd:(es.map (·.1)).Nodup){e:cG}(he:e∈es):eB es e.1=some e.2:=by
 induction es with
 | nil=>cases he
 | cons d es ih =>
  rw [aZ,List.nodup_cons] at nd;unfold eB;rcases aV.mp he with rfl | he
  ·rw [List.find?_cons_of_pos (by simp)];rfl
  ·have hne:¬(d.1=e.1):=λq=>nd.1 (q ▸ List.mem_map_of_mem he);rw [List.find?_cons_of_neg (by simpa using hne)];exact ih nd.2 he
def Nx(es:List cG)(l:List (List Int))(c:List Int):Prop:=∃b∈l,∃fs,eB es b=some fs/\c∈nexts b (hd fs)
structure BP(es:List cG)(l m:List (List Int)):Prop where
 srt:m.Pairwise λa b=>jG a b=true
 mem:∀c,c∈m↔Nx es l c
inductive MC (F:Nat) (es:List cG):List (List Int)->List (List Int)->Prop
 | nil:MC F es [] []
 | cons {l m r:List (List Int)}:l≠[]->l.length<64->(∀c∈l,c.length=F)->BP es l m->MC F es m r->MC F es l (l++r)
theorem MC.few{F:Nat}{es:List cG}{l r:List (List Int)}(h:MC F es l r):l.length<64:=by
 cases h with
 | nil=>decide
 | cons _ h _ _ _=>exact h
structure pD(F:Nat)(es:List cG):Prop where
 len:∀e∈es,e.1.length=F
 nn:∀e∈es,∀x∈e.1,0<=x
 rise:(es.map (·.1)).Pairwise rk
 clo:YT F es []
def lvl(es:List cG)(m:Nat):List (List Int):=(es.map (·.1)).filter λc=>decide (c.sum=(m:Int))
def frm(es:List cG)(m:Nat):List (List Int):=(es.map (·.1)).filter λc=>decide ((m:Int)<=c.sum)
theorem jA{es:List cG}{m:Nat}{c:List Int}:c∈lvl es m↔c∈es.map (·.1)/\c.sum=(m:Int):=by
 unfold lvl;rw [dI,decide_eq_true_eq]
theorem yF{m:Nat}:∀{l:List (List Int)},l.Pairwise rk->l.filter (λc=>decide ((m:Int)<=c.sum))=l.filter (λc=>decide (c.sum=(m:Int)))++l.filter (λc=>decide (((m+1:Nat):Int)<=c.sum))
 | [],_=>rfl
 | x::l,h=>by
  obtain ⟨h1,h2⟩:=List.pairwise_cons.mp h;have ih:=yF (m:=m) h2;by_cases q1:x.sum=(m:Int)
  ·rw [List.filter_cons_of_pos (by simp;omega),List.filter_cons_of_pos (by simp;omega),List.filter_cons_of_neg (by simp;omega),ih];rfl
  ·by_cases q2:((m+1:Nat):Int)<=x.sum
   ·have e0:l.filter (λc=>decide (c.sum=(m:Int)))=[]:=List.filter_eq_nil_iff.mpr λa ha=>by
     have:=h1 a ha;rcases this with z | z
     ·simp;omega
     ·simp;omega
    rw [e0] at ih;rw [List.filter_cons_of_pos (by simp;omega),List.filter_cons_of_neg (by simpa using q1),List.filter_cons_of_pos (by simp;omega),ih,e0];rfl
   ·rw [List.filter_cons_of_neg (by simp;omega),List.filter_cons_of_neg (by simpa using q1),List.filter_cons_of_neg (by simp;omega),ih]
theorem pT{c d:List Int}{f:Fr}(h:d∈nexts c f)(nn:∀x∈c,0<=x):d.length=c.length/\(∀x∈d,0<=x)/\d.sum=c.sum+1:=by
 have h0:=nG nn;obtain ⟨j,hj⟩:∃j:Nat,c.sum=(j:Int):=⟨c.sum.toNat,Oo⟩;have:=(CV (F:=c.length) (j:=j) ⟨rfl,nn,hj⟩ f).each d h;exact ⟨this.len,this.nn,by rw [this.sum,hj];rfl⟩
theorem HC{l:List (List Int)}(h:l.Pairwise rk):l.Nodup:=h.imp λhab e=>by
 subst e;rcases hab with z | z
 ·omega
 ·rw [rS] at z;exact absurd z.2 Dd
theorem vQ:∀{c:List Int},(∀x∈c,0<=x)->c.sum=0->c=List.replicate c.length 0
 | [],_,_=>rfl
 | x::c,h,e=>by
  have h1:=h x (aG ..);have hn:∀y∈c,0<=y:=λy hy=>h y (aH _ hy);have h2:=nG hn;rw [List.sum_cons] at e;have e0:x=0:=Oo;rw [bL,List.replicate_succ,<-vQ hn Oo,e0]
theorem lQ(F:Nat):(List.replicate F (0:Int)).sum=0:=by
 induction F with
 | zero=>rfl
 | succ k ih=>rw [List.replicate_succ,List.sum_cons,ih];rfl
theorem pD.next{F:Nat}{es:List cG}(h:pD F es)(m:Nat):BP es (lvl es m) (lvl es (m+1)):=by
 have nd:=HC h.rise;refine ⟨?_,λc=>⟨λhc=>?_,λhc=>?_⟩⟩
 ·have h1:(lvl es (m+1)).Pairwise rk:=h.rise.filter _;refine h1.imp_of_mem λha hb hab=>?_;rcases hab with z | z
  ·have:=(jA.mp ha).2;have:=(jA.mp hb).2;omega
  ·exact z.2
 ·obtain ⟨hk,hs⟩:=jA.mp hc;rcases h.clo.bwd c (.inl hk) with h0 | ⟨e,he,hn⟩
  ·rw [h0,lQ] at hs;exfalso;omega
  ·have:=(pT hn (h.nn e he)).2.2;exact ⟨e.1,jA.mpr ⟨List.mem_map_of_mem he,Oo⟩,e.2,JT nd he,hn⟩
 ·obtain ⟨b,hb,fs,e,hn⟩:=hc;have hm:=nA e;have hs:=(jA.mp hb).2;have:=(pT hn (h.nn _ hm)).2.2;rcases h.clo.fwd _ hm c hn with z | z
  ·exact jA.mpr ⟨z,Oo⟩
  ·cases z
theorem pD.first{F:Nat}{es:List cG}(h:pD F es):lvl es 0=[List.replicate F 0]:=by
 have hz:List.replicate F 0∈es.map (·.1):=by
  rcases h.clo.zero with z | z
  ·exact z
  ·cases z
 have m0:List.replicate F 0∈lvl es 0:=jA.mpr ⟨hz,by rw [lQ];rfl⟩;have hall:∀c∈lvl es 0,c=List.replicate F 0:=λc hc=>by
  obtain ⟨hk,hs⟩:=jA.mp hc;obtain ⟨e,he,rfl⟩:=aK.mp hk;have:=vQ (h.nn e he) (by rw [hs];rfl);rw [h.len e he] at this;exact this
 have nd:(lvl es 0).Nodup:=(HC h.rise).filter _;cases e:lvl es 0 with
 | nil=>rw [e] at m0;cases m0
 | cons x l =>
  rw [e] at hall nd;have hx:=hall x (aG ..);cases l with
  | nil=>rw [hx]
  | cons y l =>
   have hy:=hall y (aH _ (aG ..));rw [List.nodup_cons] at nd;exact absurd (by rw [hx,hy];exact aG ..) nd.1
theorem pD.ends{F:Nat}{es:List cG}(h:pD F es){m:Nat}(he:lvl es m=[]):∀(k:Nat) (c:List Int),c∈es.map (·.1)->c.sum=((m+k:Nat):Int)->False
 | 0,c,hc,hs=>by
  have:c∈lvl es m:=jA.mpr ⟨hc,by rw [hs];rfl⟩;rw [he] at this;cases this
 | k+1,c,hc,hs=>by
  rcases h.clo.bwd c (.inl hc) with h0 | ⟨e,hm,hn⟩
  ·rw [h0,lQ] at hs;omega
  ·have:=(pT hn (h.nn e hm)).2.2;exact pD.ends h he k e.1 (List.mem_map_of_mem hm) Oo
theorem pD.go{F:Nat}{es:List cG}(h:pD F es)(few:∀m,(lvl es m).length<64){M:Nat}(hM:∀e∈es,e.1.sum<=(M:Int)):∀(k m:Nat),m+k=M+1->MC F es (lvl es m) (frm es m)
 | 0,m,hk=>by
  have e1:lvl es m=[]:=List.filter_eq_nil_iff.mpr λc hc=>by
   obtain ⟨e,he,rfl⟩:=aK.mp hc;have:=hM e he;simp;omega
  have e2:frm es m=[]:=List.filter_eq_nil_iff.mpr λc hc=>by
   obtain ⟨e,he,rfl⟩:=aK.mp hc;have:=hM e he;simp;omega
  rw [e1,e2];exact .nil
 | k+1,m,hk=>by
  by_cases e1:lvl es m=[]
  ·have e2:frm es m=[]:=List.filter_eq_nil_iff.mpr λc hc=>by
    intro z;have z:(m:Int)<=c.sum:=by simpa using z
    exact h.ends e1 (c.sum-m).toNat c hc Oo
   rw [e1,e2];exact .nil
  ·have sp:frm es m=lvl es m++frm es (m+1):=yF h.rise;rw [sp];refine .cons e1 (few m) (λc hc=>?_) (h.next m) (pD.go h few hM k (m+1) Oo);obtain ⟨e,he,rfl⟩:=aK.mp (jA.mp hc).1;exact h.len e he
theorem pD.bfs{F:Nat}{es:List cG}(h:pD F es)(few:∀m,(lvl es m).length<64){M:Nat}(hM:∀e∈es,e.1.sum<=(M:Int)):MC F es [List.replicate F 0] (es.map (·.1)):=by
 have h1:=h.go few hM (M+1) 0 Oo;rw [h.first] at h1;have e:frm es 0=es.map (·.1):=List.filter_eq_self.mpr λc hc=>by
  obtain ⟨e,he,rfl⟩:=aK.mp hc;have:=nG (h.nn e he);simp;omega
 rw [e] at h1;exact h1
theorem pD.few{F W M:Nat}{es:List cG}(h:pD F es)(Z:eU F W M)(hM:∀e∈es,e.1.sum<=(M:Int))(m:Nat):(lvl es m).length<64:=by
 have nd:(lvl es m).Nodup:=(HC h.rise).filter _;by_cases hm:m<=M
 ·refine qR.few (F:=F) (j:=m) ⟨nd,λc hc=>?_⟩ Z hm;obtain ⟨hk,hs⟩:=jA.mp hc;obtain ⟨e,he,rfl⟩:=aK.mp hk;exact ⟨h.len e he,h.nn e he,hs⟩
 ·have:lvl es m=[]:=List.filter_eq_nil_iff.mpr λc hc=>by
   obtain ⟨e,he,rfl⟩:=aK.mp hc;have:=hM e he;simp;omega
  rw [this];decide
theorem dB.rkOk{F W M:Nat}{es:List cG}(h:dB F W M es):pD F es:=⟨λe he=>(h.each e he).1,λe he=>(h.each e he).2.1,h.rise,h.clo⟩
abbrev TN:Stmt:=(top 27)
theorem aEy:bK ["faces"] ["faces"] (aO TN):=⟨rfl,rfl,rfl,Kk,rfl,Kk,Kk⟩
abbrev ZQ:Stmt:=(top 28)
theorem aEx:bK ["counts","face"] ["counts","face"] (aO ZQ):=⟨rfl,rfl,rfl,Kk,rfl,Kk,Kk⟩
abbrev TM:Stmt:=(top 29)
theorem aEw:bK ["counts"] ["counts"] (aO TM):=⟨rfl,rfl,rfl,Kk,rfl,Kk,Kk⟩
abbrev ZS:Stmt:=(top 33)
theorem aEA:bK ["says"] ["says"] (aO ZS):=⟨rfl,rfl,rfl,Kk,rfl,Kk,Kk⟩
abbrev aAb:Stmt:=(top 37)
theorem WS:bK ["level","table","found","counts","more"] ["level","table"] (aO aAb):=⟨rfl,rfl,rfl,Kk,rfl,Kk,Kk⟩
abbrev aAa:Stmt:=(top 36)
theorem WR:bK ["faces","table","found","level"] ["faces","table"] (aO aAa):=⟨rfl,rfl,rfl,Kk,rfl,Kk,Kk⟩
abbrev NT:Stmt:=(top 34)
theorem aEF:bK ["faces","ways","thing"] ["faces","ways","thing"] (aO NT):=⟨rfl,rfl,rfl,Kk,rfl,Kk,Kk⟩
@[irreducible] def jO:Sp:=λvs H Q _=>∃F:Nat,vs=[.int (F:Int)]/\F<=64/\∀v H',aW H H'->bQ H' (fG (List.replicate F 0)) v->Q v H'
theorem rF{H:Hp}{Q:VK}{E:XK}{F:Nat}(h:F<=64)(k:∀v H',aW H H'->bQ H' (fG (List.replicate F 0)) v->Q v H'):jO [.int (F:Int)] H Q E:=by
 unfold jO;exact ⟨F,rfl,h,k⟩
@[irreducible] def kB:Sp:=λvs H Q _=>∃(x:V) (cs:List Int) (i:Nat),vs=[x,.int (i:Int)]/\bQ H (fG cs) x/\i<cs.length/\cs.length<=64/\∀v H',aW H H'->bQ H' (fG (bump cs i)) v->Q v H'
theorem xO{H:Hp}{Q:VK}{E:XK}{x:V}{cs:List Int}{i:Nat}(h1:bQ H (fG cs) x)(h2:i<cs.length)(h3:cs.length<=64)(k:∀v H',aW H H'->bQ H' (fG (bump cs i)) v->Q v H'):kB [x,.int (i:Int)] H Q E:=by
 unfold kB;exact ⟨x,cs,i,rfl,h1,h2,h3,k⟩
@[irreducible] def gY:Sp:=λvs H Q _=>∃(x:V) (cs:List Int),vs=[x]/\bQ H (fG cs) x/\cs.length<=64/\∀D ys H',H D=none->H' D=some (.lst ys)->aX H' (((List.range cs.length).map (bump cs)).map fG) ys->aW H H'->Q (.ref D) H'
theorem oN{H:Hp}{Q:VK}{E:XK}{x:V}{cs:List Int}(h1:bQ H (fG cs) x)(h3:cs.length<=64)(k:∀D ys H',H D=none->H' D=some (.lst ys)->aX H' (((List.range cs.length).map (bump cs)).map fG) ys->aW H H'->Q (.ref D) H'):gY [x] H Q E:=by
 unfold gY;exact ⟨x,cs,rfl,h1,h3,k⟩
section
theorem aDE(F:gH K "noughts" "noughts" TN f fd)(T:iV K mg c):dA P w K mg base cR 1 f fd ["faces"] jO:=by
 refine F.oky aEy λvs H Q E h=>?_;unfold jO at h;obtain ⟨F,rfl,hF,k⟩:=h;refine ⟨rfl,λcdv A outer s hr=>?_⟩;refine ⟨_,(bB (bR (hJ cJ (by rfl) T.b_tuple Kk (aI (eD (dJ.of (psc:=aO TN) (N:=["faces"]) (N':=["face"]) (js:=[]) Kk rfl rfl rfl) (dW rfl T.b_range (aI (aJ 0) aE)) (λ_ _ _ _=>dG) (λ_ _ _ _=>aN)) aE)))),?_⟩;refine ⟨_,rfl,_,rfl,Oo,Oo,?_⟩;refine kJ (λi y H'=>∃n,y=.int n/\n=0) (λ_ _ _ _ _ h=>h) Oo (λi H' Q' hi s' k'=>k' _ H' (aW.refl _) ⟨0,rfl,rfl⟩) (λD ys H1 hD e1 s1 hy hr1=>?_);obtain ⟨zs,rfl,hz⟩:=BB (P:=λ_ n=>n=0) hr1;have ez:zs=List.replicate F 0:=by
  rw [aA] at hy;exact List.eq_replicate_iff.mpr ⟨Oo,λb hb=>by obtain ⟨i,h⟩:=cS.mp hb;exact hz i b h⟩
 subst ez;refine ⟨D,_,rfl,.inl ⟨eZ.of e1,λl hl=>?_⟩⟩;exact k _ _ (s1.trans (aW.upd hl)) (nQ bE)
theorem aDD(F:gH K "one_more" "one_more" ZQ f fd)(T:iV K mg c):dA P w K mg base cR 1 f fd ["counts","face"] kB:=by
 refine F.oky aEx λvs H Q E h=>?_;unfold kB at h;obtain ⟨x,cs,i,rfl,rx,hi,hl,k⟩:=h;refine ⟨rfl,λcdv A outer s hr=>?_⟩;obtain ⟨a,rfl,ha⟩:=fS rx;refine ⟨_,(bB (bR (cT (pS K) (cT (pS K) (kK (pP K) (aJ 0) mQ (mP (aJ 1))) (dN (aI (cT gP (cC bY (aJ 0) (aJ 1) (λ_ _=>rfl)) aN) aE))) (kK (pP K) (aJ 0) (mP (cT gP (aJ 1) aN)) mQ)))),?_⟩;refine ⟨_,rfl,_,rfl,_,rfl,?_⟩;refine FM ha λc2 H2 s2 e2=>?_;refine ⟨_,rfl,_,rfl,?_⟩;have hat:EE (cs.map V.int) (i:Int)=some (.int (cs.getD i 0)):=eE (by rw [aC,aF,aD hi];rfl);refine lK (s2 _ _ ha) hat ?_;refine ⟨_,_,rfl,rfl,?_⟩;refine qO (by show 1<=64;decide) λc3 H3 hc3 e3 s3=>?_;refine LI (s3 _ _ e2) e3 (by rw [dE,aA];show min i cs.length+1<=1000;omega) λc4 H4 s4 e4=>?_;refine ⟨_,rfl,_,rfl,_,_,rfl,rfl,?_⟩;refine ⟨_,rfl,?_⟩;refine AN (k:=i+1) Oo (s4 _ _ (s3 _ _ (s2 _ _ ha))) λc5 H5 s5 e5=>?_;refine LI (s5 _ _ e4) e5 (by rw [bI,dE,List.length_drop,aA];show min i cs.length+1+(cs.length-(i+1))<=1000;omega) λc6 H6 s6 e6=>?_;refine k _ H6 ((((s2.trans s3).trans s4).trans s5).trans s6) (nQ ?_);rw [e6];unfold bump;rw [bF,bF,List.map_take,List.map_drop]
 rfl
theorem aDC(F:gH K "ones_more" "ones_more" TM f fd)(T:iV K mg c)(FQ41:eF cR P w K mg base 1 "one_more" ["counts","face"] kB):dA P w K mg base cR 2 f fd ["counts"] gY:=by
 refine F.oky aEw λvs H Q E h=>?_;unfold gY at h;obtain ⟨x,cs,rfl,rx,hl,k⟩:=h;refine ⟨rfl,λcdv A outer s hr=>?_⟩;obtain ⟨a,rfl,ha⟩:=fS rx;refine ⟨_,(bB (bR (eD (dJ.of (psc:=aO TM) (N:=["counts"]) (N':=["face","counts"]) (js:=[0]) Kk rfl rfl rfl) (dW rfl T.b_range (aI (dL fT (by rfl) T.b_len Kk (aI (aJ 0) aE)) aE)) (λ_ _ _ _=>dG) (λ_ _ _ _=>(bJ FQ41 (hr.mono Dd) (aI (aJ 1) (aI (aJ 0) aE))))))),?_⟩;refine ⟨_,rfl,?_⟩;refine RQ ha ?_;rw [aA];refine ⟨_,rfl,Oo,Oo,?_⟩;refine kJ (λi y H'=>i<cs.length/\bQ H' (fG (bump cs i)) y) (λi y H1 H2 s ⟨h1,h2⟩=>⟨h1,h2.flat s (jC _)⟩) Oo (λi H' Q' hi s' k'=>?_) (λD ys H4 hD hD4 s4 hy4 hr4=>?_)
 ·rw [Int.zero_add];refine ⟨_,rfl,_,rfl,?_⟩;refine xO (rx.same s') Oo hl λv H5 s5 r5=>?_;exact k' _ H5 s5 ⟨Oo,r5⟩
 ·refine k D ys H4 hD hD4 ?_ s4;refine aX.ofIdx (by rw [hy4,aA,aA,bO];omega) λi y hi=>?_;obtain ⟨h1,h2⟩:=hr4 i y hi;exact ⟨fG (bump cs i),by rw [aC,aC,cO h1];rfl,h2⟩
end
section
theorem aDY(F:gH K "common_divisor" "common_divisor" aAc f fd)(T:iV K mg c):dA P w K mg base cR 1 f fd ["number","above_nought"] wB:=by
 refine F.oky LO λvs H Q E h=>?_;unfold wB at h;obtain ⟨n,d,rfl,hd,q⟩:=h;refine ⟨rfl,λcdv A outer s hr=>?_⟩;refine ⟨_,(aU (bV (i:=2) LO.nd rfl (Or.inl rfl) (aJ 0))
  (aU (bV (i:=3) LO.nd rfl (Or.inl rfl) (aJ 1))
  (aU (qS PassesOwn.never (fP OR (aJ 3) aN (nomark _)) (aU (bV (i:=4) LO.nd rfl (Or.inl rfl) (cT oX (aJ 2) (aJ 3)))
  (aU (bV (i:=2) LO.nd rfl (Or.inl rfl) (aJ 3))
  (bB (bV (i:=3) LO.nd rfl (Or.inl rfl) (aJ 4))))))
  (bB (bR (aJ 2)))))),?_⟩
 refine ⟨_,rfl,_,rfl,?_⟩;refine vF (λm σ H'=>∃(a b:Int) (c:Option V),σ=[some (.int n),some (.int d),some (.int a),some (.int b),c]/\0<=b/\Int.gcd a b=Int.gcd n d/\(b=0->0<a)/\H'=H/\m=b.toNat)
  (λσ H'=>∃(c:Option V),σ=[some (.int n),some (.int d),some (.int (Int.gcd n d)),some (.int 0),c]/\H'=H)
  _ ⟨n,d,none,rfl,Oo,rfl,Oo,rfl,rfl⟩ ?_ ?_
 ·rintro m σ H2 ⟨a,b,c,rfl,hb,hg,h0,rfl,rfl⟩;refine ⟨_,rfl,rfl,_,rfl,?_⟩;refine aCn (λe=>?_) (λe=>?_)
  ·have hb':0<b:=by
    rcases Int.lt_or_eq_of_le hb with h | h
    ·exact h
    ·exact absurd (congrArg V.int h.symm) e
   refine ⟨_,rfl,_,rfl,_,_,rfl,rfl,hb',_,rfl,_,rfl,?_⟩;have e1:=Int.emod_lt_of_pos a hb';have e2:=Int.emod_nonneg a (b:=b) Oo;exact ⟨_,Oo,b,a % b,_,rfl,e2,by rw [DO,hg],λ_=>hb',rfl,rfl⟩
  ·have hb0:b=0:=by injection e
   subst hb0;have ha:=h0 rfl;have e1:=IB ha;rw [hg] at e1;rw [e1];exact ⟨c,rfl,rfl⟩
 ·rintro σ H2 ⟨c,rfl,rfl⟩;exact ⟨_,rfl,q⟩
theorem aDA(F:gH K "plus" "plus" ZP f fd)(T:iV K mg c)
  (FQ20:eF cR P w K mg base 1 "common_divisor" ["number","above_nought"] wB):dA P w K mg base cR 2 f fd ["one","other"] (mX K):=by
 refine F.oky LN λvs H Q E h=>?_;unfold mX at h;obtain ⟨x,y,⟨a,b⟩,⟨c,d⟩,rfl,h1,h2,l1,l2,z1,z2,q⟩:=h;refine ⟨rfl,λcdv A outer s hr=>?_⟩;obtain ⟨p1,rfl,e1⟩:=h1;obtain ⟨p2,rfl,e2⟩:=h2;have pb:0<b:=l1.pos;have pd:0<d:=l2.pos;obtain ⟨za,zb⟩:=z1;obtain ⟨zc,zd⟩:=z2;dsimp only at za zb zc zd e1 e2;have hG:=gG (n:=b) pd;have zG:=wV (n:=b) pd zd;have zb':=mS zb hG;have zd':=mS zd hG;have u1:=EX za zd';have u2:=EX zc zb';have hL:=gG (n:=a*(d/(Int.gcd b d:Int))+c*(b/(Int.gcd b d:Int))) hG;have zL:=wV (n:=a*(d/(Int.gcd b d:Int))+c*(b/(Int.gcd b d:Int))) hG zG;have eq:nY (a,b) (c,d)=_:=UV l1 l2;refine ⟨_,(aU (bV (i:=2) LN.nd rfl (Or.inl rfl) (bJ FQ20 (hr.mono Dd) (aI (cC bY (aJ 0) aN (λ_ _=>rfl)) (aI (cC bY (aJ 1) aN (λ_ _=>rfl)) aE))))
  (aU (bV (i:=3) LN.nd rfl (Or.inl rfl) (cT fK (cC bY (aJ 0) aN (λ_ _=>rfl)) (aJ 2)))
  (aU (bV (i:=4) LN.nd rfl (Or.inl rfl) (cT fK (cC bY (aJ 1) aN (λ_ _=>rfl)) (aJ 2)))
  (aU (bV (i:=5) LN.nd rfl (Or.inl rfl) (cT gP (cT iH (cC bY (aJ 0) aN (λ_ _=>rfl)) (aJ 4)) (cT iH (cC bY (aJ 1) aN (λ_ _=>rfl)) (aJ 3))))
  (aU (bV (i:=6) LN.nd rfl (Or.inl rfl) (bJ FQ20 (hr.mono Dd) (aI (aJ 5) (aI (aJ 2) aE))))
  (bB (bR (dN (aI (cT fK (aJ 5) (aJ 6)) (aI (cT iH (aJ 3) (cT fK (cC bY (aJ 1) aN (λ_ _=>rfl)) (aJ 6))) aE)))))))))),?_⟩
 refine ⟨_,rfl,?_⟩;refine sP e1 rfl ?_;refine ⟨_,rfl,?_⟩;refine sP e2 rfl ?_;refine rM pd ?_;refine ⟨_,rfl,?_⟩;refine sP e1 rfl ?_;refine ⟨_,rfl,_,_,rfl,rfl,sC hG (fH zG),?_⟩;refine ⟨_,rfl,?_⟩;refine sP e2 rfl ?_;refine ⟨_,rfl,_,_,rfl,rfl,sC hG (fH zG),?_⟩;refine ⟨_,rfl,?_⟩;refine sP e1 rfl ?_;refine ⟨_,rfl,_,_,rfl,rfl,FY za zd',?_⟩;refine ⟨_,rfl,?_⟩;refine sP e2 rfl ?_;refine ⟨_,rfl,_,_,rfl,rfl,FY zc zb',_,_,rfl,rfl,?_⟩;refine ⟨_,rfl,_,rfl,?_⟩;refine rM hG ?_;refine ⟨_,rfl,_,rfl,_,_,rfl,rfl,sC hL (fH zL),?_⟩;refine ⟨_,rfl,_,rfl,?_⟩;refine sP e2 rfl ?_;refine ⟨_,rfl,_,_,rfl,rfl,sC hL (fH zL),_,_,rfl,rfl,FY zb' (mS zd hL),?_⟩;refine qO (by show 2<=64;decide) λp H3 hp e3 s3=>?_;refine q p H3 hp ?_ s3;rw [eq];exact e3
end
abbrev XE(K:PySem.W.Frag)(H:Hp)(p:List eA × V)(e:cG):Prop:=p.1=kT e.1/\vC K H e.2 p.2
def sL(K:PySem.W.Frag)(H:Hp)(d:Addr)(es:List cG):Prop:=∃kvs,Rd H d (.dT kvs)/\Paired (XE K H) kvs es
theorem sL.same{K:PySem.W.Frag}{H H':Hp}{d:Addr}{es:List cG}(s:aW H H')(h:sL K H d es):sL K H' d es:=by
 obtain ⟨kvs,rd,pr⟩:=h;refine ⟨kvs,?_,Paired.imp' (λ_ _ r=>⟨r.1,r.2.same s⟩) pr⟩;rcases rd with rd | ⟨o,rd⟩
 ·exact .inl (s _ _ rd)
 ·exact .inr ⟨o,s _ _ rd⟩
theorem aBG{K:PySem.W.Frag}{H:Hp}{c:List Int}:∀{kvs:List (List eA × V)}{es:List cG},Paired (XE K H) kvs es->(eB es c=none->eJ kvs (kT c)=none)/\∀fs,eB es c=some fs->∃v,eJ kvs (kT c)=some v/\vC K H fs v
 | _,_,.nil=>⟨λ_=>rfl,λfs h=>by unfold eB at h;cases h⟩
 | p::kvs,e::es,.cons h t=>by
  by_cases he:e.1=c
  ·have e1:eJ (p::kvs) (kT c)=some p.2:=fV (by rw [h.1,he]);have e2:eB (e::es) c=some e.2:=by unfold eB;rw [List.find?_cons_of_pos (by simpa using he)];rfl
   rw [e1,e2];exact ⟨(λh=>by cases h),λfs hf=>by cases hf;exact ⟨_,rfl,h.2⟩⟩
  ·have e1:eJ (p::kvs) (kT c)=eJ kvs (kT c):=fW (by rw [h.1];exact λz=>he (tO z));have e2:eB (e::es) c=eB es c:=by unfold eB;rw [List.find?_cons_of_neg (by simpa using he)]
   rw [e1,e2];exact aBG t
theorem sL.get{K:PySem.W.Frag}{H:Hp}{d b:Addr}{es:List cG}{c:List Int}(h:sL K H d es)(hb:H b=some (.tup (c.map V.int))):(eB es c=none->lE H d (.ref b) none)/\∀fs,eB es c=some fs->∃v,lE H d (.ref b) (some v)/\vC K H fs v:=by
 obtain ⟨kvs,rd,pr⟩:=h;have g:lE H d (.ref b) (eJ kvs (kT c)):=.inr ⟨kvs,kT c,b,rd,rfl,by rw [tN];exact hb,rfl⟩;obtain ⟨v1,v2⟩:=aBG (c:=c) pr;refine ⟨λq=>by rw [v1 q] at g;exact g,λfs q=>?_⟩;obtain ⟨v,e,sy⟩:=v2 fs q;rw [e] at g;exact ⟨v,g,sy⟩
theorem UP{n:Nat}{fs:List Fr}(h:uJ (1+n) fs)(hn:n<=4):∃f r,fs=f::r/\hd fs=f/\(0<f.1↔f≠(0,1)):=by
 have sh:=h.sh Oo;have hl:=h.len;cases fs with
 | nil=>rw [List.length_nil] at hl;omega
 | cons f r =>
  refine ⟨f,r,rfl,rfl,λq e=>?_,λq=>?_⟩
  ·rw [e] at q;exact absurd q Dd
  ·have s:=sh f (aG ..);have h0:=s.nn;by_cases z:f.1=0
   ·exfalso;have hg:=s.low.low;have hp:=s.low.pos;rw [z] at hg;have:Int.gcd 0 f.2=f.2.natAbs:=Int.gcd_zero_left ..;rw [this] at hg;exact q (Prod.ext z (by show f.2=1;omega))
   ·omega
theorem rdg{H:Hp}{p:Addr}{y v:V}{Q:VK}(g:lE H p y (some v))(q:Q v H):XY (.ref p) y H Q:=by unfold XY;exact ⟨p,v,rfl,g,q⟩
@[irreducible] def jQ(K:PySem.W.Frag):Sp:=λvs H Q _=>∃(v:V) (f:Fr) (fs:List Fr),vs=[v]/\vC K H (f::fs) v/\Q (.bl (decide (0<f.1))) H
theorem oO{K:PySem.W.Frag}{H:Hp}{Q:VK}{E:XK}{v:V}{f:Fr}{fs:List Fr}(h:vC K H (f::fs) v)(q:Q (.bl (decide (0<f.1))) H):jQ K [v] H Q E:=by unfold jQ;exact ⟨v,f,fs,rfl,h,q⟩
structure LW(F W:Nat)(es:List cG):Prop where
 f:1<=F/\F<=4
 w:W<=4
 each:∀e∈es,aBz F W e
@[irreducible] def rN(K:PySem.W.Frag):Sp:=λvs H Q _=>∃(L d:Addr) (ys:List V) (es:List cG) (l m:List (List Int)) (F W:Nat),vs=[.ref L,.ref d]/\H L=some (.lst ys)/\aX H (l.map fG) ys/\sL K H d es/\LW F W es/\BP es l m/\l.length<64/\m.length<64/\(∀c∈l,c.length=F) /\
 ∀D zs H',H D=none->H' D=some (.lst zs)->aX H' (m.map fG) zs->aW H H'->Q (.ref D) H'
theorem JQ{K:PySem.W.Frag}{H:Hp}{Q:VK}{E:XK}{L d:Addr}{ys:List V}{es:List cG}{l m:List (List Int)}{F W:Nat}(h1:H L=some (.lst ys))(h2:aX H (l.map fG) ys)(h3:sL K H d es)(h4:LW F W es)(h5:BP es l m)(h6:l.length<64)(h7:m.length<64)(h8:∀c∈l,c.length=F)
  (q:∀D zs H',H D=none->H' D=some (.lst zs)->aX H' (m.map fG) zs->aW H H'->Q (.ref D) H'):rN K [.ref L,.ref d] H Q E:=by
 unfold rN;exact ⟨L,d,ys,es,l,m,F,W,rfl,h1,h2,h3,h4,h5,h6,h7,h8,q⟩
@[irreducible] def rL(K:PySem.W.Frag):Sp:=λvs H Q _=>∃(d:Addr) (es:List cG) (cs:List (List Int)) (F W:Nat),vs=[.int (F:Int),.ref d]/\sL K H d es/\LW F W es/\MC F es [List.replicate F 0] cs/\cs.length<=320 /\
 ∀D zs H',H D=none->H' D=some (.lst zs)->aX H' (cs.map fG) zs->aW H H'->Q (.ref D) H'
theorem JP{K:PySem.W.Frag}{H:Hp}{Q:VK}{E:XK}{d:Addr}{es:List cG}{cs:List (List Int)}{F W:Nat}(h1:sL K H d es)(h2:LW F W es)(h3:MC F es [List.replicate F 0] cs)(h4:cs.length<=320)
  (q:∀D zs H',H D=none->H' D=some (.lst zs)->aX H' (cs.map fG) zs->aW H H'->Q (.ref D) H'):rL K [.int (F:Int),.ref d] H Q E:=by
 unfold rL;exact ⟨d,es,cs,F,W,rfl,h1,h2,h3,h4,q⟩
@[irreducible] def lX(K:PySem.W.Frag):Sp:=λvs H Q _=>∃(a:Addr) (xs:List V) (es:List cG) (F W:Nat),vs=[.int (F:Int),.int (W:Int),.ref a]/\H a=some (.tup xs)/\Paired (xK K H) es xs/\LW F W es/\(es.map (·.1)).Nodup/\MC F es [List.replicate F 0] (es.map (·.1))/\es.length<=320/\∀H',aW H H'->Q (.bl true) H'
theorem CG{K:PySem.W.Frag}{H:Hp}{Q:VK}{E:XK}{a:Addr}{xs:List V}{es:List cG}{F W:Nat}(h1:H a=some (.tup xs))(h2:Paired (xK K H) es xs)(h3:LW F W es)(h4:(es.map (·.1)).Nodup)(h5:MC F es [List.replicate F 0] (es.map (·.1)))(h6:es.length<=320)(q:∀H',aW H H'->Q (.bl true) H'):lX K [.int (F:Int),.int (W:Int),.ref a] H Q E:=by
 unfold lX;exact ⟨a,xs,es,F,W,rfl,h1,h2,h3,h4,h5,h6,q⟩
theorem OQ{K:PySem.W.Frag}{H:Hp}:∀{es:List cG}{xs:List V},Paired (xK K H) es xs->∃kvs,Paired (qJ H) xs kvs/\Paired (XE K H) kvs es
 | _,_,.nil=>⟨[],.nil,.nil⟩
 | e::es,x::xs,.cons ⟨b,u,v,ex,hb,ru,sv⟩ t=>by
  subst ex;obtain ⟨kvs,h1,h2⟩:=OQ t;obtain ⟨cu,rfl,hcu⟩:=fS ru;exact ⟨(kT e.1,v)::kvs,.cons ⟨b,cu,rfl,hb,by rw [tN];exact hcu⟩ h1,.cons ⟨rfl,sv⟩ h2⟩
theorem YD{K:PySem.W.Frag}{H:Hp}:∀{kvs:List (List eA × V)}{es:List cG},Paired (XE K H) kvs es->kvs.map (·.1)=es.map λe=>kT e.1
 | _,_,.nil=>rfl
 | _,_,.cons h t=>by rw [aZ,aZ,h.1,YD t]
theorem aCh{es:List cG}(h:(es.map (·.1)).Nodup):(es.map λe=>kT e.1).Nodup:=by
 have:=gZ (f:=kT) h λx _ y _ e=>tO e
 rwa [List.map_map] at this
theorem KY(l:List (List Int)):PyData.eqv (.list (l.map fG)) (.list (l.map fG))=true:=by
 show PyData.eqvAll (l.map fG) (l.map fG)=true
 induction l with
 | nil=>rfl
 | cons c l ih=>show (PyData.eqv (fG c) (fG c)&&PyData.eqvAll (l.map fG) (l.map fG))=true;rw [ih,PV,cE rfl];rfl
theorem aAU{kvs:List (List eA × V)}{ks:List (List Int)}{v:V}(c:List Int)(hk:kvs.map (·.1)=ks.map kT)(nd:ks.Nodup):∃ks2:List (List Int),(iC kvs (kT c) v).map (·.1)=ks2.map kT/\ks2.Nodup/\∀x,x∈ks2↔x∈ks\/x=c:=by
 cases e:eJ kvs (kT c) with
 | some u =>
  refine ⟨ks,by rw [lJ (by rw [e];rfl),hk],nd,λx=>⟨.inl,λh=>?_⟩⟩;rcases h with h | rfl
  ·exact h
  ·have:kT x∈kvs.map (·.1):=AA e;rw [hk] at this;obtain ⟨y,hy,ey⟩:=aK.mp this;rw [<-tO ey];exact hy
 | none =>
  have hn:c ∉ ks:=λh=>by
   have:kT c∈kvs.map (·.1):=by rw [hk];exact List.mem_map_of_mem h
   exact BU e this
  refine ⟨ks++[c],by rw [oV v e,bF,bF,hk];rfl,List.nodup_append.mpr ⟨nd,by simp,λa ha b hb e=>by cases bM.mp hb;subst e;exact hn ha⟩,λx=>by rw [cM,bM]⟩
section
theorem aDG(F:gH K "looks_on" "looks_on" ZS f fd)(T:iV K mg c):dA P w K mg base cR 1 f fd ["says"] (jQ K):=by
 refine F.oky aEA λvs H Q E h=>?_;unfold jQ at h;obtain ⟨x,f,fs,rfl,⟨a,xs,rfl,ha,pr⟩,k⟩:=h;refine ⟨rfl,λcdv A outer s hr=>?_⟩;cases pr with
 | @cons _ x0 _ xs0 r t =>
  obtain ⟨b,rfl,hb⟩:=r;refine ⟨_,(bB (bR (iK yL (cC bY (cC bY (aJ 0) (lG (v:=.int 0) rfl T.g_LOOKS_ON ⟨_,rfl⟩) (λ_ _=>rfl)) aN (λ_ _=>rfl)) aN (nomark _)))),?_⟩;refine ⟨_,rfl,?_⟩;refine lK ha (eE (j:=0) rfl) ?_;refine sP hb rfl ?_;refine ⟨_,_,rfl,rfl,?_⟩;exact k
theorem aDX(F:gH K "counts_behind" "counts_behind" aAb f fd)(T:iV K mg c)(FQ38:eF cR P w K mg base 1 "looks_on" ["says"] (jQ K))(FQ42:eF cR P w K mg base 2 "ones_more" ["counts"] gY):dA P w K mg base cR 3 f fd ["level","table"] (rN K):=by
 refine F.oky WS λvs H Q E h=>?_;unfold rN at h;obtain ⟨L,d,ys,es,l,m,F,W,rfl,hL,ry,tb,ok,nx,l64,m64,lF,q⟩:=h;refine ⟨rfl,λcdv A outer s hr=>?_⟩;have ly:ys.length=l.length:=by rw [ry.len,aA]
 refine ⟨_,(aU (bV (i:=2) WS.nd rfl (Or.inl rfl) MM)
  (aU (iJ PassesOwn.never rfl (gW (aJ 0)) (dP (i:=3) WS.nd rfl (Or.inl rfl)) (bB (jH (BR (ME (fP (aAO hr.u1) (aJ 3) (aJ 1) (by with_unfolding_all rfl)) (GR (iX (bJ FQ38 (hr.mono Dd) (aI (lH hr.u1 (aJ 1) (aJ 3)) aE)))))) (bB (iJ PassesOwn.never rfl (gW (bJ FQ42 (hr.mono Dd) (aI (aJ 3) aE))) (dP (i:=4) WS.nd rfl (Or.inl rfl)) (bB (vE hr.u1 (aJ 2) (aJ 4) oA)))) eY)))
  (bB (bR (dL (WP rfl) (by rfl) T.b_sorted Kk (aI (aJ 2) aE)))))),?_⟩
 intro D hD;have s0:=aW.upd (o:=.dT []) hD;have e0:(upd H D (.dT [])) D=some (.dT []):=bE;generalize upd H D (.dT [])=H0 at s0 e0 ⊢;refine ⟨_,rfl,L,rfl,⟨_,eZ.of (s0 _ _ hL)⟩,?_⟩;have sub:∀i c,Nx es (l.take i) c->c∈m:=λi c ⟨b,hb,fs,e,z⟩=>(nx.mem c).mpr ⟨b,List.mem_of_mem_take hb,fs,e,z⟩;refine oZ (xs:=ys) (λi σ H'=>∃(o3 o4:Option V) (kvs:List (List eA × V)) (ks:List (List Int)),σ=[some (.ref L),some (.ref d),some (.ref D),o3,o4]/\aW H H'/\H' D=some (.dT kvs)/\kvs.map (·.1)=ks.map kT/\ks.Nodup/\∀c,c∈ks↔Nx es (l.take i) c)
  ⟨_,_,[],[],rfl,s0,e0,rfl,List.nodup_nil,λc=>⟨(λh=>by cases h),λ⟨b,hb,_⟩=>by rw [List.take_zero] at hb;cases hb⟩⟩ (λi σ H' _ p=>?_) ?_ ?_
 ·obtain ⟨_,_,_,_,_,s',_⟩:=p;exact eZ.of (s' _ _ hL)
 ·rintro i x σ H1 hx ⟨o3,o4,kvs,ks,rfl,s1,e1,hk,nd,hm⟩;obtain ⟨cc,hc,rx⟩:=ry.atI hx;obtain ⟨b,rfl,hb⟩:=fS (rx.same s1);have hcm:=bD hc;have ti:l.take (i+1)=l.take i++[cc]:=by rw [eQ,hc];rfl
  have nxs:∀z,Nx es (l.take (i+1)) z↔Nx es (l.take i) z\/∃fs,eB es cc=some fs/\z∈nexts cc (hd fs):=λz=>by
   rw [ti];constructor
   ·rintro ⟨y,hy,fs,e,hz⟩;rcases cM.mp hy with hy | hy
    ·exact .inl ⟨y,hy,fs,e,hz⟩
    ·cases bM.mp hy;exact .inr ⟨fs,e,hz⟩
   ·rintro (⟨y,hy,fs,e,hz⟩ | ⟨fs,e,hz⟩)
    ·exact ⟨y,cQ _ hy,fs,e,hz⟩
    ·exact ⟨cc,aL _ (bM.mpr rfl),fs,e,hz⟩
  obtain ⟨g1,g2⟩:=(tb.same s1).get hb;refine ⟨_,rfl,_,rfl,?_⟩;cases hs:eB es cc with
  | none =>
   refine rind (g1 hs) ?_;refine ⟨_,rfl,?_⟩;refine mH ?_;refine ⟨_,_,kvs,ks,rfl,s1,e1,hk,nd,λz=>?_⟩;rw [nxs,hm];exact ⟨.inl,λh=>by rcases h with h | ⟨fs,e,_⟩;exact h;rw [hs] at e;cases e⟩
  | some fs =>
   obtain ⟨v,gv,sv⟩:=g2 fs hs;refine rind gv ?_;refine ⟨_,rfl,?_⟩;refine mG ?_;have et:=ok.each _ (nA hs);obtain ⟨f0,fr,rfl,hh,hf⟩:=UP et.sy ok.w;refine ⟨_,rfl,_,rfl,?_⟩;refine rdg gv ?_;refine oO sv ?_;refine ⟨_,rfl,?_⟩;have hh:hd (f0::fr)=f0:=rfl;refine GE (λhp=>?_) (λhp=>?_)
   ·have hne:=hf.mp hp;have enx:nexts cc (hd (f0::fr))=(List.range cc.length).map (bump cc):=by unfold nexts;rw [hh,if_neg hne]
    have lcc:=lF cc hcm;have hF4:=ok.f;refine ⟨_,rfl,?_⟩;refine oN (nQ hb) Oo λD2 ys2 H2 hD2 e2 r2 s2=>?_;refine ⟨D2,rfl,⟨_,eZ.of e2⟩,?_⟩;have nDD:D2≠D:=λz=>by subst z;rw [e1] at hD2;cases hD2
    have ly2:ys2.length=cc.length:=by rw [r2.len,aA,aA,bO]
    refine oZ (xs:=ys2) (λj σ H'=>∃(o4:Option V) (kvs:List (List eA × V)) (ks:List (List Int)),σ=[some (.ref L),some (.ref d),some (.ref D),some (.ref b),o4]/\aW H H'/\H' D2=some (.lst ys2)/\aX H' (((List.range cc.length).map (bump cc)).map fG) ys2/\H' D=some (.dT kvs)/\kvs.map (·.1)=ks.map kT/\ks.Nodup/\∀z,z∈ks↔Nx es (l.take i) z\/z∈((List.range cc.length).map (bump cc)).take j)
     ⟨_,kvs,ks,rfl,s1.trans s2,e2,r2,s2 _ _ e1,hk,nd,λz=>by rw [hm,List.take_zero];exact ⟨.inl,λh=>by rcases h with h | h;exact h;cases h⟩⟩ (λj σ H' _ p=>?_) ?_ ?_
    ·obtain ⟨_,_,_,_,_,h,_⟩:=p;exact eZ.of h
    ·rintro j x2 σ H3 hx2 ⟨o4',kvs',ks',rfl,s3,e3,r3,e3D,hk',nd',hm'⟩;obtain ⟨z2,hz2,rz2⟩:=r3.atI hx2;obtain ⟨b2,rfl,hb2⟩:=fS rz2;have hks:ks'.length<=m.length:=mD nd' λz hz=>by
      rcases (hm' z).mp hz with h | h
      ·exact sub i z h
      ·exact sub (i+1) z ((nxs z).mpr (.inr ⟨_,hs,by rw [enx];exact List.mem_of_mem_take h⟩))
     have lkv:kvs'.length=ks'.length:=by have:=congrArg List.length hk';simpa using this
     refine ⟨_,rfl,_,rfl,?_⟩;refine dpT e3D hb2 Oo λH4 e4 b4=>?_;have t4:=b4.tT e3D;obtain ⟨ks2,k1,k2,k3⟩:=aAU (v:=.bl true) z2 hk' nd';refine ⟨_,_,ks2,rfl,aW.thru hD s3 b4,b4.at nDD e3,r3.flat t4 (gT _),e4,k1,k2,λz=>?_⟩;rw [k3,hm',eQ,hz2];simp only [Option.toList_some,cM,bM];constructor
     ·rintro ((h | h) | h)
      ·exact .inl h
      ·exact .inr (.inl h)
      ·exact .inr (.inr h)
     ·rintro (h | h | h)
      ·exact .inl (.inl h)
      ·exact .inl (.inr h)
      ·exact .inr h
    ·rintro σ H3 ⟨o4',kvs',ks',rfl,s3,e3,r3,e3D,hk',nd',hm'⟩;refine ⟨_,_,kvs',ks',rfl,s3,e3D,hk',nd',λz=>?_⟩;have tk:((List.range cc.length).map (bump cc)).take ys2.length=(List.range cc.length).map (bump cc):=List.take_of_length_le (by rw [aA,bO];omega);rw [hm',nxs,tk];constructor
     ·rintro (h | h)
      ·exact .inl h
      ·exact .inr ⟨_,hs,by rw [enx];exact h⟩
     ·rintro (h | ⟨fs,e,h⟩)
      ·exact .inl h
      ·rw [hs] at e;cases e;rw [enx] at h;exact .inr h
   ·have hz:f0=(0,1):=by
     by_cases z:f0=(0,1)
     ·exact z
     ·exact absurd (hf.mpr z) hp
    have enx:nexts cc (hd (f0::fr))=[]:=by unfold nexts;rw [hh,if_pos hz]
    refine ⟨_,_,kvs,ks,rfl,s1,e1,hk,nd,λz=>?_⟩;rw [nxs,hm];refine ⟨.inl,λh=>?_⟩;rcases h with h | ⟨fs,e,h⟩
    ·exact h
    ·rw [hs] at e;cases e;rw [enx] at h;cases h
 ·rintro σ H1 ⟨o3,o4,kvs,ks,rfl,s1,e1,hk,nd,hm⟩;rw [ly,hV] at hm;have hks:ks.length<=m.length:=mD nd λz hz=>(nx.mem z).mpr ((hm z).mp hz);refine ⟨_,rfl,?_⟩;refine rsrd e1 hk (λz hz=>?_) Oo λD3 zs ds H2 hp hsr hD3 e2 r2 s2=>?_
  ·intro z0;obtain ⟨y,hy,fs,e,hn⟩:=(hm z).mp hz;have hl:=(pT hn (ok.each _ (nA e)).nn).1;rw [z0,List.length_nil,lF y hy] at hl;have:=ok.f;omega
  ·have em:ds=m:=DF hsr nx.srt λz=>by rw [hp.mem_iff,hm,nx.mem]
   subst em;exact q D3 zs H2 (s1.free hD3) e2 r2 (s1.trans s2)
theorem aDW(F:gH K "counts_come_to" "counts_come_to" aAa f fd)(T:iV K mg c)(FQ40:eF cR P w K mg base 1 "noughts" ["faces"] jO)(FQ21:eF cR P w K mg base 3 "counts_behind" ["level","table"] (rN K)):dA P w K mg base cR 4 f fd ["faces","table"] (rL K):=by
 refine F.oky WR λvs H Q E h=>?_;unfold rL at h;obtain ⟨d,es,cs,F,W,rfl,tb,ok,bf,c320,q⟩:=h;refine ⟨rfl,λcdv A outer s hr=>?_⟩;have hF:=ok.f;refine ⟨_,(aU (bV (i:=2) WR.nd rfl (Or.inl rfl) (eW aE))
  (aU (bV (i:=3) WR.nd rfl (Or.inl rfl) (eW (aI (bJ FQ40 (hr.mono Dd) (aI (aJ 0) aE)) aE)))
  (aU (qS PassesOwn.never (fP yL (dL fT (by rfl) T.b_len Kk (aI (aJ 3) aE)) aN (nomark _)) (aU (jR (vT PySem.F.plainAttrs_list PySem.F.slot_list_extend PySem.F.type_list_extend OX (aJ 2) (aI (aJ 3) aE)))
  (bB (bV (i:=3) WR.nd rfl (Or.inl rfl) (bJ FQ21 (hr.mono Dd) (aI (aJ 3) (aI (aJ 1) aE)))))))
  (bB (bR (aJ 2)))))),?_⟩
 refine wJ (by show 0<=64;decide) λfo H1 hfo e1 s1=>?_;refine ⟨_,rfl,?_⟩;refine rF Oo λv H2 s2 r2=>?_;refine wJ (by show 1<=64;decide) λle H3 hle e3 s3=>?_;have s13:=(s1.trans s2).trans s3;have nle:le≠fo:=λz=>by subst z;rw [s2 _ _ e1] at hle;cases hle
 refine vF (λm σ H'=>∃(le:Addr) (vs ws:List V) (dn l r:List (List Int)),σ=[some (.int (F:Int)),some (.ref d),some (.ref fo),some (.ref le)]/\aW H H'/\H' fo=some (.lst vs)/\aX H' (dn.map fG) vs/\H' le=some (.lst ws)/\aX H' (l.map fG) ws/\le≠fo/\MC F es l r/\dn++r=cs/\m=r.length)
  (λσ H'=>∃(le:Addr) (vs:List V),σ=[some (.int (F:Int)),some (.ref d),some (.ref fo),some (.ref le)]/\aW H H'/\H' fo=some (.lst vs)/\aX H' (cs.map fG) vs)
  _ ⟨le,[],_,[],[List.replicate F 0],cs,rfl,s13,s3 _ _ (s2 _ _ e1),aX.nil,e3,aX.cons (r2.same s3) aX.nil,nle,bf,rfl,rfl⟩ ?_ ?_
 ·clear e1 s1 s2 s3 s13 e3 hle nle r2;rintro m σ H1 ⟨le,vs,ws,dn,l,r,rfl,s1,e1,r1,e2,r2,nle,bf,hcs,rfl⟩;have lw':ws.length=l.length:=by rw [r2.len,aA]
  have lv:vs.length=dn.length:=by rw [r1.len,aA]
  have lcs:dn.length+r.length<=320:=by rw [<-bI,hcs];exact c320
  refine ⟨_,rfl,?_⟩;refine rlL e2 ?_;refine ⟨_,_,rfl,rfl,_,rfl,?_⟩;cases bf with
  | nil =>
   have e0:ws=[]:=List.eq_nil_of_length_eq_zero (by rw [lw'];rfl);subst e0;refine mH ⟨le,vs,rfl,s1,e1,?_⟩;rw [List.append_nil] at hcs;rw [<-hcs];exact r1
  | @cons _ m' r' h1 h2 h3 h4 h5 =>
   have l0:=List.length_pos_iff.mpr h1;refine PL (cE Oo) ?_;rw [bI] at lcs;refine ⟨_,rfl,SO e1,_,rfl,?_⟩;refine aCu e1 e2 Oo λH2 e3 b3=>?_;have t3:=b3.t e1;have s2:aW H H2:=aW.thru hfo s1 b3;refine ⟨_,rfl,_,rfl,?_⟩;have r2':=r2.flat t3 (gT _);have e2':=b3.at nle e2;refine JQ e2' r2' (tb.same s2) ok h4 h2 h5.few h3 λD zs H3 hD e4 r4 s4=>?_;have nD:D≠fo:=λz=>by subst z;rw [e3] at hD;cases hD
   refine ⟨_,by rw [bI];omega,D,vs++ws,zs,dn++l,m',r',rfl,s2.trans s4,s4 _ _ e3,?_,e4,r4,nD,h5,?_,rfl⟩
   ·rw [bF];exact aX.append (r2'.same s4) ((r1.flat t3 (gT _)).same s4)
   ·rw [List.append_assoc];exact hcs
 ·rintro σ H1 ⟨le,vs,rfl,s1,e1,r1⟩;exact ⟨_,rfl,q fo vs H1 hfo e1 r1 s1⟩
theorem aDM(F:gH K "is_rule" "is_rule" NT f fd)(T:iV K mg c)(FQ28:eF cR P w K mg base 7 "is_entry" ["faces","ways","thing"] (kQ K))(FQ22:eF cR P w K mg base 4 "counts_come_to" ["faces","table"] (rL K)):dA P w K mg base cR 8 f fd ["faces","ways","thing"] (lX K):=by
 refine F.oky aEF λvs H Q E h=>?_;unfold lX at h;obtain ⟨a,xs,es,F,W,rfl,ha,pr,ok,nd,bf,e320,q⟩:=h;refine ⟨rfl,λcdv A outer s hr=>?_⟩;have lx:xs.length=es.length:=pr.length.symm;have hF:=ok.f;refine ⟨_,(aU (jH (BR (xY (mO (iX (dL (BF K) (by rfl) T.b_isinstance Kk (aI (aJ 2) (aI (qU (v:=.ty "tuple") (u:=.type "tuple") rfl T.b_tuple Kk rfl) aE))))) (sR (mO (iX (dL (wY rfl) (by rfl) T.b_all Kk (aI (eD (dJ.of (psc:=aO NT) (N:=["faces","ways","thing"]) (N':=["one","faces","ways"]) (js:=[0,1]) Kk rfl rfl rfl) (gK (aJ 2)) (λ_ _ _ _=>dG) (λ_ _ _ _=>(bJ FQ28 (hr.mono Dd) (aI (aJ 1) (aI (aJ 2) (aI (aJ 0) aE)))))) aE))))))) (bB (bR oA)) eY)
  (bB (bR (iK (FW hr.units) (eD (dJ.of (psc:=aO NT) (N:=["faces","ways","thing"]) (N':=["entry"]) (js:=[]) Kk rfl rfl rfl) (gK (aJ 2)) (λ_ _ _ _=>dG) (λ_ _ _ _=>(cC (fE K) (aJ 0) aN (λ_ _=>rfl)))) (bJ FQ22 (hr.mono Dd) (aI (aJ 0) (aI (hJ (QM hr.units rfl) (by rfl) T.b_dict Kk (aI (aJ 2) aE)) aE))) (nomark _))))),?_⟩
 refine ⟨_,rfl,?_⟩;refine NW (dO.of ha) ?_;refine ⟨_,rfl,?_⟩;refine mH ?_;refine ⟨_,rfl,a,rfl,⟨_,dO.of ha⟩,?_⟩;refine gE (λi y _=>y=.bl true) (λ_ _ _ _ _ h=>h) Oo ha (λi y H' Q' hy s' k'=>?_) (λD ys H1 hD hD1 s1 hy hr1=>?_)
 ·obtain ⟨e,he,re⟩:=eG pr hy;refine ⟨_,rfl,_,rfl,_,rfl,?_⟩;exact AF (re.same s') (ok.each e (bD he)) Oo ok.w λH2 s2=>k' _ H2 s2 rfl
 ·rw [oB hr1] at hD1;refine rall hD1 ?_;rw [pZ];refine ⟨_,rfl,?_⟩;refine mH ?_;have ha1:=s1 _ _ ha;refine ⟨_,rfl,a,rfl,⟨_,dO.of ha1⟩,?_⟩;refine gE (λi y H'=>∃e,es[i]?=some e/\bQ H' (fG e.1) y) (λi y H1 H2 s ⟨e,h1,h2⟩=>⟨e,h1,h2.flat s (jC _)⟩) Oo ha1 (λi y H' Q' hy2 s' k'=>?_) (λD2 ys2 H2 hD2 e2 s2 hy2 hr2=>?_)
  ·obtain ⟨e,he,b,u,v,rfl,hb,ru,sv⟩:=eG pr hy2;refine ⟨_,rfl,?_⟩;refine lK (s' _ _ (s1 _ _ hb)) rfl ?_;exact k' _ H' (aW.refl _) ⟨e,he,(ru.same s1).same s'⟩
  ·have s12:=s1.trans s2;have pr2:=Paired.imp' (λ_ _ r=>xK.same s12 r) pr;obtain ⟨kvs,p1,p2⟩:=OQ pr2;refine ⟨_,rfl,_,rfl,?_⟩;refine rdcz (s12 _ _ ha) p1 (by rw [YD p2];exact aCh nd) (by rw [p2.length];omega) λD3 H3 hD3 e3 s3=>?_;obtain ⟨o3,e3⟩:=e3;refine JP (K:=K) ⟨kvs,.inr ⟨o3,e3⟩,Paired.imp' (λ_ _ r=>⟨r.1,vC.same s3 r.2⟩) p2⟩ ok bf (by rw [aA];exact e320) λD4 zs H4 hD4 e4 r4 s4=>?_;have rl:aX H4 ((es.map (·.1)).map fG) ys2:=aX.ofIdx (by rw [hy2,lx,aA,aA]) λi y hi=>by
    obtain ⟨e,h1,h2⟩:=hr2 i y hi;exact ⟨fG e.1,by rw [aC,aC,h1];rfl,(h2.same s3).same s4⟩
   refine reD (d:=.list ((es.map (·.1)).map fG)) (d':=.list ((es.map (·.1)).map fG)) (bQ.lst (s4 _ _ (s3 _ _ e2)) rl) (bQ.lst e4 r4) (tV _) (tV _) ?_;rw [KY,Bool.true_beq];exact q H4 ((s12.trans s3).trans s4)
end
abbrev ZN:Stmt:=(top 40)
theorem aEv:bK ["rule"] ["rule"] (aO ZN):=⟨rfl,rfl,rfl,Kk,rfl,Kk,Kk⟩
abbrev ZL:Stmt:=(top 11)
theorem aBm:bK ["one","other","first","second"] ["one","other"] (aO ZL):=⟨rfl,rfl,rfl,Kk,rfl,Kk,Kk⟩
abbrev UA:Stmt:=(top 51)
theorem LP:bK ["rule","amount_of","counts","says","onward","more"] ["rule"] (aO UA):=⟨rfl,rfl,rfl,Kk,rfl,Kk,Kk⟩
theorem eX{α β:Type}{R:α->β->Prop}:∀{l:List α}{m:List β}{i:Nat}{a:α},Paired R l m->l[i]?=some a->∃b,m[i]?=some b/\R a b
 | _,_,i,a,.nil,h=>by simp at h
 | _,_,0,a,.cons r t,h=>by
  cases (show _=a by simpa using h);exact ⟨_,rfl,r⟩
 | _,_,i+1,a,.cons r t,h=>by
  obtain ⟨b,h1,h2⟩:=eX t (by simpa using h);exact ⟨b,by simpa using h1,h2⟩
theorem dO.butL{K:PySem.W.Frag}{H H':Hp}{a p:Addr}{xs zs:List V}(s:aS p H H')(hp:H p=some (.lst zs))(h:dO K H a xs):dO K H' a xs:=by
 rcases h with (h | ⟨o,h⟩) | h
 ·exact .inl (.inl (s.at (mE h hp (by intro z;cases z)) h))
 ·exact .inl (.inr ⟨o,s.at (mE h hp (by intro z;cases z)) h⟩)
 ·exact .inr h
theorem fU.butL{K:PySem.W.Frag}{H H':Hp}{p:Addr}{f:Fr}{x:V}{zs:List V}(s:aS p H H')(hp:H p=some (.lst zs))(h:fU K H f x):fU K H' f x:=by
 obtain ⟨a,rfl,e⟩:=h;exact ⟨a,rfl,dO.butL s hp e⟩
theorem vC.but{K:PySem.W.Frag}{H H':Hp}{p:Addr}{fs:List Fr}{v:V}{zs:List V}(s:aS p H H')(hp:H p=some (.lst zs))(h:vC K H fs v):vC K H' fs v:=by
 obtain ⟨a,xs,rfl,e,pr⟩:=h;exact ⟨a,xs,rfl,s.t hp _ _ e,Paired.imp' (λ_ _ r=>fU.butL s hp r) pr⟩
theorem xK.but{K:PySem.W.Frag}{H H':Hp}{p:Addr}{e:cG}{x:V}{zs:List V}(s:aS p H H')(hp:H p=some (.lst zs))(h:xK K H e x):xK K H' e x:=by
 obtain ⟨b,u,v,rfl,h1,h2,h3⟩:=h;exact ⟨b,u,v,rfl,s.t hp _ _ h1,h2.flat (s.t hp) (jC _),h3.but s hp⟩
theorem qF{α β:Type}{R:α->β->Prop}:∀{l1 l2:List α}{m1 m2:List β},Paired R l1 m1->Paired R l2 m2->Paired R (l1++l2) (m1++m2)
 | _,_,_,_,.nil,h=>h
 | _,_,_,_,.cons r t,h=>.cons r (qF t h)
def qA(K:PySem.W.Frag)(H:Hp)(es:List cG)(v:V):Prop:=∃a xs,v=.ref a/\H a=some (.tup xs)/\Paired (xK K H) es xs
theorem qA.same{K:PySem.W.Frag}{H H':Hp}{es:List cG}{v:V}(s:aW H H')(h:qA K H es v):qA K H' es v:=by
 obtain ⟨a,xs,rfl,e,p⟩:=h;exact ⟨a,xs,rfl,s _ _ e,Paired.imp' (λ_ _ r=>r.same s) p⟩
theorem qA.of{K:PySem.W.Frag}{H:Hp}{es:List cG}{v:V}(h:bQ H (wF es) v):qA K H es v:=by
 obtain ⟨a,xs,rfl,e,r⟩:=tG h;exact ⟨a,xs,rfl,e,Paired.imp' (λ_ _ r=>xK.of r) (Paired.ofRepL r)⟩
@[irreducible] def gC(K:PySem.W.Frag):Sp:=λvs H Q _=>∃(x:V) (e:cG) (es:List cG),vs=[x]/\qA K H (e::es) x/\Q (.int (e.1.length:Nat)) H
theorem nT{K:PySem.W.Frag}{H:Hp}{Q:VK}{E:XK}{x:V}{e:cG}{es:List cG}(h1:qA K H (e::es) x)(k:Q (.int (e.1.length:Nat)) H):gC K [x] H Q E:=by
 unfold gC;exact ⟨x,e,es,rfl,h1,k⟩
section
theorem aDy(F:gH K "rule_faces" "rule_faces" ZN f fd)(T:iV K mg c):dA P w K mg base cR 1 f fd ["rule"] (gC K):=by
 refine F.oky aEv λvs H Q E h=>?_;unfold gC at h;obtain ⟨x,e,es,rfl,rx,k⟩:=h;refine ⟨rfl,λcdv A outer s hr=>?_⟩;obtain ⟨a,xs,rfl,ha,rxs⟩:=rx;obtain ⟨y,hy,ry⟩:=eX (i:=0) rxs rfl;obtain ⟨b,u,v,rfl,hb,ru,rv⟩:=ry;obtain ⟨cu,rfl,hcu⟩:=fS ru;refine ⟨_,(bB (bR (dL fT (by rfl) T.b_len Kk (aI (cC bY (cC bY (aJ 0) aN (λ_ _=>rfl)) aN (λ_ _=>rfl)) aE)))),?_⟩;refine ⟨_,rfl,?_⟩;refine lK ha (eE hy) ?_;refine lK hb rfl ?_;refine RQ hcu ?_;rw [aA];exact k
end
theorem dX.sz{n:Nat}{fs:List Fr}(h:dX n fs)(hn:n<=5):∀f∈fs,xG 1062 f:=λf hf=>by
 obtain ⟨ns,h1,h2,h3,rfl⟩:=h.ex;obtain ⟨x,hx,rfl⟩:=aK.mp hf;have b:=h2 x hx;have s7:=mT h2;have hg:=gG (n:=x) h3;have e1:x.natAbs<2^10:=by show x.natAbs<1024;omega
 have e2:ns.sum.natAbs<2^10:=by show ns.sum.natAbs<1024;omega
 exact ⟨fH (mS e1 hg),fH (mS e2 hg)⟩
theorem uK.of{H H1:Hp}{Q:VK}{f:Fr}(s:aW H H1)(q:uK H Q f):uK H1 Q f:=λp H' hp e s'=>q p H' (s.free hp) e (s.trans s')
@[irreducible] def gL(K:PySem.W.Frag):Sp:=λvs H Q _=>∃x y f g,vs=[x,y]/\fU K H f x/\fU K H g y/\fF f/\fF g/\xG 4000 f/\xG 4000 g/\uK H Q (gJ f g)
theorem iL{K:PySem.W.Frag}{H:Hp}{Q:VK}{E:XK}{x y:V}{f g:Fr}(h1:fU K H f x)(h2:fU K H g y)(l1:fF f)(l2:fF g)(z1:xG 4000 f)(z2:xG 4000 g)(q:uK H Q (gJ f g)):gL K [x,y] H Q E:=by unfold gL;exact ⟨x,y,f,g,rfl,h1,h2,l1,l2,z1,z2,q⟩
section
theorem aDr(F:gH K "times" "times" ZL f fd)(T:iV K mg c)
  (FQ20:eF cR P w K mg base 1 "common_divisor" ["number","above_nought"] wB):dA P w K mg base cR 2 f fd ["one","other"] (gL K):=by
 refine F.oky aBm λvs H Q E h=>?_;unfold gL at h;obtain ⟨x,y,⟨a,b⟩,⟨m,d⟩,rfl,h1,h2,l1,l2,⟨za,zb⟩,⟨zc,zd⟩,q⟩:=h;refine ⟨rfl,λcdv A outer s hr=>?_⟩;obtain ⟨p1,rfl,e1⟩:=h1;obtain ⟨p2,rfl,e2⟩:=h2;have pb:0<b:=l1.pos;have pd:0<d:=l2.pos;dsimp only at za zb zc zd e1 e2;have g1:=gG (n:=a) pd;have g2:=gG (n:=m) pb;have y1:=wV (n:=a) pd zd;have y2:=wV (n:=m) pb zb;have eq:gJ (a,b) (m,d)=_:=MY l1 l2;refine ⟨_,(aU (bV (i:=2) aBm.nd rfl (Or.inl rfl) (bJ FQ20 (hr.mono Dd) (aI (cC bY (aJ 0) aN (λ_ _=>rfl)) (aI (cC bY (aJ 1) aN (λ_ _=>rfl)) aE))))
  (aU (bV (i:=3) aBm.nd rfl (Or.inl rfl) (bJ FQ20 (hr.mono Dd) (aI (cC bY (aJ 1) aN (λ_ _=>rfl)) (aI (cC bY (aJ 0) aN (λ_ _=>rfl)) aE))))
  (bB (bR (dN (aI (cT iH (cT fK (cC bY (aJ 0) aN (λ_ _=>rfl)) (aJ 2)) (cT fK (cC bY (aJ 1) aN (λ_ _=>rfl)) (aJ 3))) (aI (cT iH (cT fK (cC bY (aJ 0) aN (λ_ _=>rfl)) (aJ 3)) (cT fK (cC bY (aJ 1) aN (λ_ _=>rfl)) (aJ 2))) aE))))))),?_⟩
 refine ⟨_,rfl,?_⟩;refine sP e1 rfl ?_;refine ⟨_,rfl,?_⟩;refine sP e2 rfl ?_;refine rM pd ?_;refine ⟨_,rfl,?_⟩;refine sP e2 rfl ?_;refine ⟨_,rfl,?_⟩;refine sP e1 rfl ?_;refine rM pb ?_;refine ⟨_,rfl,?_⟩;refine sP e1 rfl ?_;refine ⟨_,rfl,_,_,rfl,rfl,sC g1 (fH y1),?_⟩;refine ⟨_,rfl,?_⟩;refine sP e2 rfl ?_;refine ⟨_,rfl,_,_,rfl,rfl,sC g2 (fH y2),_,_,rfl,rfl,FY (mS za g1) (mS zc g2),?_⟩;refine ⟨_,rfl,?_⟩;refine sP e1 rfl ?_;refine ⟨_,rfl,_,_,rfl,rfl,sC g2 (fH y2),?_⟩;refine ⟨_,rfl,?_⟩;refine sP e2 rfl ?_;refine ⟨_,rfl,_,_,rfl,rfl,sC g1 (fH y1),_,_,rfl,rfl,FY (mS zb g2) (mS zd g1),?_⟩;refine qO (by show 2<=64;decide) λp H3 hp e3 s3=>?_;refine q p H3 hp ?_ s3;rw [eq];exact e3
end
def NN:Int:=144403552893600
theorem aBw{S:Int}(h0:0<S)(h:S<=35):S ∣ NN:=by
 obtain ⟨n,rfl⟩:∃n:Nat,S=(n:Int):=⟨S.toNat,Oo⟩;have:∀k:Fin 36,0<k.val->(NN % (k.val:Int))=0:=Kk;exact Int.dvd_of_emod_eq_zero (this ⟨n,Oo⟩ (by show 0<n;omega))
def gF(f:Fr):Int:=f.1*(NN/f.2)
structure vO(f:Fr):Prop where
 low:fF f
 nn:0<=f.1
 le:f.1<=f.2
 dvd:f.2 ∣ NN
 d35:f.2<=35
theorem wM:∀{ns:List Int},(∀x∈ns,0<=x/\x<=7)->∀x∈ns,x<=ns.sum
 | [],_,x,h=>by cases h
 | a::ns,h,x,m=>by
  have h1:=mT (ns:=ns) λx hx=>h x (aH _ hx);have h2:=h a (aG ..);rw [List.sum_cons];rcases aV.mp m with rfl | m
  ·omega
  ·have:=wM (λx hx=>h x (aH _ hx)) x m;omega
theorem dX.each{n:Nat}{fs:List Fr}(h:dX n fs)(hn:n<=5):∀f∈fs,vO f:=λf hf=>by
 obtain ⟨ns,h1,h2,h3,rfl⟩:=h.ex;obtain ⟨x,hx,rfl⟩:=aK.mp hf;have b:=h2 x hx;have s7:=mT h2;have sx:=wM h2 x hx;have hg:=gG (n:=x) h3;obtain ⟨e1,e2⟩:=PB (n:=x) (d:=ns.sum);have hle:=(HV (n:=x) h3).1;refine ⟨fL h3,?_,?_,Int.dvd_trans ⟨_,e2.symm⟩ (aBw h3 Oo),Oo⟩
 ·exact Int.ediv_nonneg b.1 Oo
 ·refine Int.le_of_mul_le_mul_right (a:=(Int.gcd x ns.sum:Int)) ?_ hg;rw [e1,e2];exact sx
theorem vO.pos{f:Fr}(h:vO f):0<f.2:=h.low.pos
theorem vO.q{f:Fr}(h:vO f):0<NN/f.2:=Int.ediv_pos_of_pos_of_dvd Dd (by have:=h.pos;omega) h.dvd
theorem vO.gnn{f:Fr}(h:vO f):0<=gF f:=Int.mul_nonneg h.nn (by have:=h.q;omega)
theorem vO.gle{f:Fr}(h:vO f):gF f<=NN:=by
 have e:NN/f.2*f.2=NN:=Int.ediv_mul_cancel h.dvd;have hq:0<=NN/f.2:=Int.le_of_lt h.q;have:=Int.mul_le_mul_of_nonneg_right h.le hq;unfold gF;rw [Int.mul_comm f.2,e] at this;exact this
theorem vO.lw{f:Fr}(h:vO f):Mf.lw (gF f) NN=f:=VL h.low Dd h.dvd
theorem vO.zero{f:Fr}(h:vO f):gF f=0↔f=(0,1):=by
 constructor
 ·intro e;have e1:=h.lw;rw [e,vL Dd] at e1;exact e1.symm
 ·rintro rfl;rfl
theorem vO.on{f:Fr}(h:vO f):0<f.1↔gF f≠0:=by
 constructor
 ·intro e;have:=Int.mul_pos e h.q;unfold gF;omega
 ·intro e;have:=h.nn;rcases Int.lt_or_eq_of_le this with q | q
  ·exact q
  ·exact absurd (by unfold gF;rw [<-q,Int.zero_mul]) e
theorem dX.cons{n:Nat}{fs:List Fr}(h:dX (1+n) fs):∃f r,fs=f::r:=by
 have:=h.len;cases fs with
 | nil=>simp at this;omega
 | cons f r=>exact ⟨f,r,rfl⟩
theorem dX.hd{n:Nat}{fs:List Fr}(h:dX (1+n) fs)(hn:n<=4):vO (Kw.hd fs):=by
 obtain ⟨f,r,rfl⟩:=h.cons;exact h.each Oo f (aG ..)
def gO(es:List cG)(c:List Int):Int:=match eB es c with
 | none=>0
 | some fs=>gF (hd fs)
theorem NP{es:List cG}{c:List Int}{fs:List Fr}(h:eB es c=some fs):(c,fs)∈es:=by
 unfold eB at h;obtain ⟨e,h1,h2⟩:=dH.mp h;have:=List.find?_some h1;have e1:e.1=c:=by simpa using this
 have hm:=List.mem_of_find?_eq_some h1;rw [<-e1,<-h2];exact hm
theorem JS{es:List cG}{c:List Int}:eB es c=none↔c ∉ es.map (·.1):=by
 unfold eB;rw [Option.map_eq_none_iff,List.find?_eq_none];constructor
 ·intro h m;obtain ⟨e,he,q⟩:=aK.mp m;exact h e he (by simpa using q)
 ·intro h e he q;exact h (aK.mpr ⟨e,he,by simpa using q⟩)
theorem NQ{es:List cG}(nd:(es.map (·.1)).Nodup):∀{e:cG},e∈es->eB es e.1=some e.2:=by
 induction es with
 | nil=>intro e h;cases h
 | cons a es ih =>
  intro e h;rw [aZ] at nd;obtain ⟨h1,h2⟩:=List.nodup_cons.mp nd;unfold eB;rcases aV.mp h with rfl | h
  ·rw [List.find?_cons_of_pos (by simp)];rfl
  ·have ne:a.1≠e.1:=λq=>h1 (by rw [q];exact aK.mpr ⟨e,h,rfl⟩);rw [List.find?_cons_of_neg (by simpa using ne)];exact ih h2 h
section
variable{F W M:Nat}{es:List cG}
theorem dB.sh(R:dB F W M es)(Z:eU F W M){c:List Int}{fs:List Fr}(h:eB es c=some fs):vO (hd fs):=(R.each _ (NP h)).2.2.2.hd (by have:=Z.w.2;omega)
theorem uR(R:dB F W M es){e:cG}(h:e∈es):gO es e.1=gF (hd e.2):=by unfold gO;rw [NQ R.nd h]
theorem KG{c d:List Int}{f:Fr}(h:c∈nexts d f):f≠(0,1)/\∃j,j<d.length/\c=bp d j:=by
 unfold nexts at h;by_cases q:f=(0,1)
 ·rw [if_pos q] at h;cases h
 ·rw [if_neg q] at h;obtain ⟨j,hj,e⟩:=aK.mp h;have hj:=bX.mp hj;exact ⟨q,j,hj,by rw [<-e,iE hj];rfl⟩
theorem dB.rl(R:dB F W M es)(Z:eU F W M):Rl F (gO es) (es.map (·.1)) where
 nd:=R.nd
 len:=λc hc=>by
  obtain ⟨e,he,rfl⟩:=aK.mp hc;exact (R.each e he).1
 nn:=λc hc=>by
  obtain ⟨e,he,rfl⟩:=aK.mp hc;exact (R.each e he).2.1
 asc:=by rw [List.map_map];exact R.asc
 off:=λc hc=>by unfold gO;rw [JS.mpr hc]
 pos:=λc=>by
  unfold gO;cases q:eB es c with
  | none=>exact Int.le_refl _
  | some fs=>exact (R.sh Z q).gnn
 zero:=by
  rcases R.clo.zero with h | h
  ·exact h
  ·cases h
 fwd:=λc hc hg j hj=>by
  obtain ⟨e,he,rfl⟩:=aK.mp hc;rw [uR R he] at hg;have sh:=(R.each e he).2.2.2.hd (by have:=Z.w.2;omega);have hl:=(R.each e he).1;have hf:Kw.hd e.2≠(0,1):=λq=>hg (sh.zero.mpr q);have:bp e.1 j∈nexts e.1 (Kw.hd e.2):=by
   unfold nexts;rw [if_neg hf];exact aK.mpr ⟨j,bX.mpr Oo,iE Oo⟩
  rcases R.clo.fwd e he _ this with h | h
  ·exact h
  ·cases h
 bwd:=λc hc=>by
  rcases R.clo.bwd c (.inl hc) with h | ⟨e,he,h⟩
  ·exact .inl h
  ·obtain ⟨hf,j,hj,e1⟩:=KG h;have sh:=(R.each e he).2.2.2.hd (by have:=Z.w.2;omega);refine .inr ⟨e.1,aK.mpr ⟨e,he,rfl⟩,?_,j,by rw [<-(R.each e he).1];exact hj,e1⟩;rw [uR R he];exact λq=>hf (sh.zero.mp q)
theorem dB.gle(R:dB F W M es)(Z:eU F W M)(c:List Int):gO es c<=NN:=by
 unfold gO;cases q:eB es c with
 | none=>decide
 | some fs=>exact (R.sh Z q).gle
theorem hU(n:Nat):0<NN^n:=Int.pow_pos Dd
theorem RJ{n:Nat}(h:n<=5):(NN^n).natAbs<2^300:=by
 have:∀k:Fin 6,(NN^k.val).natAbs<2^300:=Kk;exact this ⟨n,Oo⟩
theorem DC{x d:Int}{k:Nat}(hd:0<d)(h1:x.natAbs<2^k)(h2:d.natAbs<2^k):xG k (lw x d):=by
 obtain ⟨a,b⟩:=HV (n:=x) hd;have:=(fL (n:=x) hd).pos;exact ⟨bC b h1,by have:(lw x d).2.natAbs<=d.natAbs:=Oo;exact bC this h2⟩
theorem xG.mono{a b:Nat}{f:Fr}(h:xG a f)(k:a<=b:=by decide):xG b f:=⟨fH h.1 k,fH h.2 k⟩
theorem qM(F:Nat):∀n:Nat,(mC F n).length=F^n
 | 0=>rfl
 | n+1=>by
  show ((mC F n).flatMap λr=>(List.range F).map λj=>r++[j]).length=_;rw [List.length_flatMap];have:(mC F n).map (λr=>((List.range F).map λj=>r++[j]).length)=(mC F n).map λ_=>F:=bZ λr _=>by simp
  rw [this,Nat.pow_succ,<-qM F n];have hs:∀(l:List (List Nat)),(l.map λ_=>F).sum=l.length*F:=λl=>by
   induction l with
   | nil=>simp
   | cons a l ih=>rw [aZ,List.sum_cons,ih,bL,Nat.add_mul,Nat.one_mul];omega
  exact hs _
theorem aCN(R:dB F W M es)(Z:eU F W M){L:List (List Nat)}(hL:∀r∈L,∀x∈r,x<F)(hl:L.length<=4096){c:List Int}(hc:c.sum.toNat<=5):(Dn F (gO es) L c).natAbs<2^400:=by
 have h0:=zU F (gO es) (R.rl Z).pos L c;have h1:=YS F (gO es) (R.rl Z).pos (R.gle Z) hL c;have h2:=RJ hc;have h3:=hU c.sum.toNat;have h4:Dn F (gO es) L c<=4096*NN^c.sum.toNat:=Int.le_trans h1 (Int.mul_le_mul_of_nonneg_right Oo Oo);generalize NN^c.sum.toNat=Y at *;have h5:(2:Nat)^400=2^100*2^300:=by rw [<-Nat.pow_add]
 have h6:(4096:Nat)<=2^100:=Dd;have h7:(Dn F (gO es) L c).natAbs<=4096*Y.natAbs:=Oo;rw [h5];exact bC (bG h7 (Nat.mul_le_mul_right _ h6)) (Nat.mul_lt_mul_of_pos_left h2 Dd)
theorem EH(R:dB F W M es)(Z:eU F W M){c:List Int}(hc:c∈es.map (·.1)):c.sum.toNat<=4/\(Wc F (gO es) c).natAbs<2^400:=by
 obtain ⟨e,he,rfl⟩:=aK.mp hc;have h1:=(R.each e he).2.2.1;have h4:M<=4:=by have:=Z.f;omega
 have hs:e.1.sum.toNat<=4:=Oo;refine ⟨hs,aCN R Z (λr hr=>(tH hr).2) ?_ Oo⟩;rw [qM];have hF:F<=4:=by have:=Z.f;omega
 exact bG (Nat.pow_le_pow_left hF _) (bG (fB Dd hs) Dd)
end
structure DI(K:PySem.W.Frag)(H:Hp)(kvs:List (List eA × V))(X:List Int->Int):Prop where
 no:∀c,X c=0->eJ kvs (kT c)=none
 yes:∀c,X c≠0->∃v,eJ kvs (kT c)=some v/\fU K H (lw (X c) (NN^c.sum.toNat)) v
 nd:(kvs.map (·.1)).Nodup
 kt:∀k∈kvs.map (·.1),∃c,k=kT c
theorem fU.but{K:PySem.W.Frag}{H H':Hp}{p:Addr}{f:Fr}{x:V}(s:aS p H H'){kvs:List (List eA × V)}(hp:H p=some (.dT kvs))(h:fU K H f x):fU K H' f x:=by
 obtain ⟨a,e,h⟩:=h;exact ⟨a,e,h.but s hp⟩
theorem DI.same{K:PySem.W.Frag}{H H':Hp}{kvs:List (List eA × V)}{X:List Int->Int}(s:aW H H')(h:DI K H kvs X):DI K H' kvs X :=
 ⟨h.no,λc hc=>by obtain ⟨v,h1,h2⟩:=h.yes c hc;exact ⟨v,h1,h2.same s⟩,h.nd,h.kt⟩
theorem DI.nil{K:PySem.W.Frag}{H:Hp}:DI K H [] λ_=>0:=⟨λ_ _=>rfl,λc h=>absurd rfl h,List.nodup_nil,λk h=>by cases h⟩
theorem DI.get{K:PySem.W.Frag}{H:Hp}{kvs:List (List eA × V)}{X:List Int->Int}(h:DI K H kvs X)(c:List Int){z:V}(hz:fU K H (0,1) z):fU K H (lw (X c) (NN^c.sum.toNat)) ((eJ kvs (kT c)).getD z):=by
 by_cases e:X c=0
 ·rw [h.no c e,e,vL (hU _)];exact hz
 ·obtain ⟨v,h1,h2⟩:=h.yes c e;rw [h1];exact h2
theorem DI.put{K:PySem.W.Frag}{H H':Hp}{p:Addr}{kvs:List (List eA × V)}{X:List Int->Int}(h:DI K H kvs X)(hp:H p=some (.dT kvs))(s:aS p H H'){c:List Int}{v:V}{y:Int}(hv:fU K H (lw (X c+y) (NN^c.sum.toNat)) v)(hy:X c+y≠0) :
  DI K H' (iC kvs (kT c) v) λd=>X d+if c=d then y else 0:=by
 have hval:∀d,eJ (iC kvs (kT c) v) (kT d)=if d=c then some v else eJ kvs (kT d):=λd=>by
  rw [MS];by_cases e:d=c
  ·rw [if_pos e,if_pos (by rw [e])]
  ·rw [if_neg e,if_neg λq=>e (tO q)]
 refine ⟨λd hd=>?_,λd hd=>?_,?_,?_⟩
 ·rw [hval];by_cases e:d=c
  ·subst e;rw [if_pos rfl] at hd;exact absurd hd hy
  ·rw [if_neg (λq=>e q.symm),Int.add_zero] at hd;rw [if_neg e];exact h.no d hd
 ·rw [hval];by_cases e:d=c
  ·subst e;rw [if_pos rfl,if_pos rfl];exact ⟨v,rfl,hv.but s hp⟩
  ·rw [if_neg (λq=>e q.symm),Int.add_zero] at hd;rw [if_neg e,if_neg (λq=>e q.symm),Int.add_zero];obtain ⟨v,h1,h2⟩:=h.yes d hd;exact ⟨v,h1,h2.but s hp⟩
 ·cases q:eJ kvs (kT c) with
  | none=>exact VI v h.nd q
  | some u=>rw [lJ (by rw [q];rfl)];exact h.nd
 ·cases q:eJ kvs (kT c) with
  | none =>
   rw [oV v q,bF];intro k hk;rcases cM.mp hk with hk | hk
   ·exact h.kt k hk
   ·exact ⟨c,by simpa using hk⟩
  | some u=>rw [lJ (by rw [q];rfl)];exact h.kt
theorem DI.eq{K:PySem.W.Frag}{H:Hp}{kvs:List (List eA × V)}{X Y:List Int->Int}(h:DI K H kvs X)(e:∀c,Y c=X c):DI K H kvs Y:=by
 have:Y=X:=funext e;rw [this];exact h
def uF(F:Nat)(es:List cG):List PyData:=es.map λe=>.tuple [fG e.1,fM (lw (Wc F (gO es) e.1) (NN^e.1.sum.toNat))]
def AmV(K:PySem.W.Frag)(H:Hp)(F:Nat)(es:List cG)(ys:List V):Prop:=∀(i:Nat) (y:V),ys[i]?=some y->∃(e:cG) (b cu:Addr) (va:V),es[i]?=some e/\y=.ref b/\H b=some (.tup [.ref cu,va])/\H cu=some (.tup (e.1.map V.int))/\fU K H (lw (Wc F (gO es) e.1) (NN^e.1.sum.toNat)) va
@[irreducible] def iM(K:PySem.W.Frag):Sp:=λvs H Q _=>∃(x:V) (es:List cG) (F W M:Nat),vs=[x]/\qA K H es x/\dB F W M es/\eU F W M/\∀a ys H',aW H H'->H' a=some (.tup ys)->cX K H' (uF F es) ys->AmV K H' F es ys->Q (.ref a) H'
theorem iY{K:PySem.W.Frag}{H:Hp}{Q:VK}{E:XK}{x:V}{es:List cG}{F W M:Nat}(h1:qA K H es x)(h2:dB F W M es)(h3:eU F W M)(k:∀a ys H',aW H H'->H' a=some (.tup ys)->cX K H' (uF F es) ys->AmV K H' F es ys->Q (.ref a) H'):iM K [x] H Q E:=by
 unfold iM;exact ⟨x,es,F,W,M,rfl,h1,h2,h3,k⟩
def kE(j:Nat)(d c:List Int):Int:=sm (List.range j) λj=>if bp d j=c then 1 else 0
theorem DM(j:Nat)(d c:List Int):kE (j+1) d c=kE j d c+if bp d j=c then 1 else 0:=by
 unfold kE;rw [List.range_succ,AK,eK,oU,Int.add_zero]
theorem KS(j:Nat)(d c:List Int):0<=kE j d c:=iT λj _=>by split <;> omega
theorem KU{j F:Nat}(h:j<=F)(d c:List Int):kE j d c<=hits F d c:=by
 unfold hits;rw [wC (List.range F) _ j,List.take_range,Nat.min_eq_left h];have:0<=sm ((List.range F).drop j) (λj=>if bp d j=c then (1:Int) else 0):=iT λj _=>by split <;> omega
 unfold kE;omega
theorem BO{F:Nat}{G:List Int->Int}{ks:List (List Int)}{i:Nat}{d:List Int}(h:ks[i]?=some d)(c:List Int):Pc F G (ks.take (i+1)) c=Pc F G (ks.take i) c+Wc F G d*(G d*hits F d c):=by
 unfold Pc;have e:ks.take (i+1)=ks.take i++[d]:=by rw [eQ,h];rfl
 rw [e,AK,eK,oU,Int.add_zero,Int.add_assoc]
theorem JV{F:Nat}{G:List Int->Int}{ks:List (List Int)}(R:Rl F G ks){i j:Nat}{d:List Int}(h:ks[i]?=some d)(hj:j<=F){c:List Int}(hc:c∈ks) :
  0<=Pc F G (ks.take i) c+Wc F G d*(G d*kE j d c)/\Pc F G (ks.take i) c+Wc F G d*(G d*kE j d c)<=Wc F G c:=by
 rw [<-R.all hc];have h1:Wc F G d*(G d*kE j d c)<=Wc F G d*(G d*hits F d c):=Int.mul_le_mul_of_nonneg_left (Int.mul_le_mul_of_nonneg_left (KU hj d c) (R.pos d)) (R.wnn d);have h2:0<=Wc F G d*(G d*kE j d c):=Int.mul_nonneg (R.wnn d) (Int.mul_nonneg (R.pos d) (KS j d c));have h3:=BO (F:=F) (G:=G) h c;have h4:Pc F G (ks.take (i+1)) c<=Pc F G ks c:=by
  unfold Pc;rw [wC ks _ (i+1)];have:0<=sm (ks.drop (i+1)) λd=>Wc F G d*(G d*hits F d c):=iT λd _=>R.term d c;omega
 have h5:0<=Pc F G (ks.take i) c:=by
  unfold Pc;have:0<=sm (ks.take i) λd=>Wc F G d*(G d*hits F d c):=iT λd _=>R.term d c;split <;> omega
 omega
theorem vN{c:List Int}{j:Nat}(h:j<c.length):bump c j=bp c j:=iE h
section
theorem aD5(F:gH K "amounts" "amounts" UA f fd)(T:iV K mg c)(FQ40:eF cR P w K mg base 1 "noughts" ["faces"] jO)(FQ46:eF cR P w K mg base 1 "rule_faces" ["rule"] (gC K))
  (FQ38:eF cR P w K mg base 1 "looks_on" ["says"] (jQ K)) (FQ53:eF cR P w K mg base 2 "times" ["one","other"] (gL K)) (FQ42:eF cR P w K mg base 2 "ones_more" ["counts"] gY) (FQ44:eF cR P w K mg base 2 "plus" ["one","other"] (mX K)):dA P w K mg base cR 3 f fd ["rule"] (iM K):=by
 refine F.oky LP λvs H Q E h=>?_;unfold iM at h;obtain ⟨x,es,F,W,M,rfl,rx,RO,Z,k⟩:=h;refine ⟨rfl,λcdv A outer s hr=>?_⟩;have rx0:=rx;obtain ⟨a,xs,rfl,ha,rxs⟩:=rx;have RL:=RO.rl Z;have hF:2<=F/\F<=4:=by have:=Z.f;omega
 have lx:xs.length=es.length:=rxs.length.symm;obtain ⟨e0,er,ees⟩:∃e r,es=e::r:=by
  cases es with
  | nil=>exact absurd rfl RO.ne
  | cons e r=>exact ⟨e,r,rfl⟩
 refine ⟨_,(aU (bV (i:=1) LP.nd rfl (Or.inr rfl) (MN hr.u1 (bJ FQ40 (hr.mono Dd) (aI (bJ FQ46 (hr.mono Dd) (aI (aJ 0) aE)) aE)) (lG (v:=.ref c.ONE) rfl T.g_ONE rfl)))
  (aU (iJ PassesOwn.never rfl (gK (aJ 0)) (qK rfl (eR (dP (i:=2) LP.nd rfl (Or.inl rfl)) (eR (dP (i:=3) LP.nd rfl (Or.inl rfl)) mR))) (bB (jH (iX (bJ FQ38 (hr.mono Dd) (aI (aJ 3) aE))) (aU (bV (i:=4) LP.nd rfl (Or.inl rfl) (bJ FQ53 (hr.mono Dd) (aI (lH hr.u1 (aJ 1) (aJ 2)) (aI (cC bY (aJ 3) aN (λ_ _=>rfl)) aE))))
  (bB (iJ PassesOwn.never rfl (gW (bJ FQ42 (hr.mono Dd) (aI (aJ 2) aE))) (dP (i:=5) LP.nd rfl (Or.inl rfl)) (bB (vE hr.u1 (aJ 1) (aJ 5) (bJ FQ44 (hr.mono Dd) (aI (SK hr.u1 (aJ 1) (aJ 5) (lG (v:=.ref c.NOUGHT) rfl T.g_NOUGHT rfl)) (aI (aJ 4) aE)))))))) eY)))
  (bB (bR (hJ cJ (by rfl) T.b_tuple Kk (aI (eD (dJ.of (psc:=aO UA) (N:=["rule","amount_of","counts","says","onward","more"]) (N':=["entry","amount_of"]) (js:=[1]) Kk rfl rfl rfl) (gK (aJ 0)) (λ_ _ _ _=>dG) (λ_ _ _ _=>(dN (aI (cC (fE K) (aJ 0) aN (λ_ _=>rfl)) (aI (lH hr.u1 (aJ 1) (cC (fE K) (aJ 0) aN (λ_ _=>rfl))) aE))))) aE)))))),?_⟩
 intro p hp;have s0:=aW.upd (o:=.dT []) hp;have e0p:(upd H p (.dT [])) p=some (.dT []):=bE;generalize upd H p (.dT [])=H0 at s0 e0p;refine ⟨_,rfl,?_⟩;have he0:e0∈es:=by rw [ees];exact aG ..
 have hl0:e0.1.length=F:=(RO.each e0 he0).1;refine nT (e:=e0) (es:=er) (by rw [<-ees];exact rx0.same s0) ?_;rw [hl0];refine rF (F:=F) Oo λv1 H1 s1 r1=>?_;obtain ⟨cz,rfl,hcz⟩:=fS r1;have hoc:fU K H1 (1,1) (.ref c.ONE):=⟨c.ONE,rfl,kO T.o_ONE⟩;refine aDh hcz (s1 _ _ e0p) λH2 e2 b2=>?_;have S2:aW H H2:=aW.thru hp (s0.trans s1) b2;have D2:DI K H2 [(kT (List.replicate F 0),V.ref c.ONE)] (Pc F (gO es) ((es.map (·.1)).take 0)):=by
  have d0:DI K H1 [] λ_=>0:=DI.nil;have d1:=d0.put (s1 _ _ e0p) b2 (c:=List.replicate F 0) (v:=.ref c.ONE) (y:=1) (by rw [pJ,Int.toNat_zero,Int.pow_zero,Int.zero_add,AX Dd];exact hoc) Dd;refine DI.eq (show DI K H2 [(kT (List.replicate F 0),V.ref c.ONE)] _ from d1) λd=>?_;unfold Pc;rw [List.take_zero,oU,Int.add_zero,Int.zero_add];by_cases q:d=List.replicate F 0
  ·rw [if_pos q,if_pos q.symm]
  ·rw [if_neg q,if_neg λz=>q z.symm]
 clear b2 s0 e0p r1 hcz s1 hoc;refine ⟨_,rfl,a,rfl,⟨_,dO.of (S2 _ _ ha)⟩,?_⟩;refine ID (xs:=xs) (λi σ H'=>∃(o2 o3 o4 o5:Option V) (kvs:List (List eA × V)),σ=[some (.ref a),some (.ref p),o2,o3,o4,o5]/\aW H H'/\H' p=some (.dT kvs)/\kvs.length<=1+4*i/\DI K H' kvs (Pc F (gO es) ((es.map (·.1)).take i))) ⟨_,_,_,_,_,rfl,S2,e2,by simp,D2⟩ (λi σ H' _ q=>?_) ?_ ?_
 ·obtain ⟨_,_,_,_,_,_,s',_⟩:=q;exact dO.of (s' _ _ ha)
 ·rintro i x σ H3 hx ⟨o2,o3,o4,o5,kvs,rfl,S3,e3,l3,D3⟩;have hi:i<es.length:=by rw [<-lx];exact (aY.mp hx).1
  have hz:=RO.len;obtain ⟨e,he,re⟩:=eG rxs hx;have hee:=bD he;have hks:(es.map (·.1))[i]?=some e.1:=by rw [aC,he];rfl
  obtain ⟨hel,henn,hes,hsy⟩:=RO.each e hee;obtain ⟨f0,fr,ef⟩:=hsy.cons;have sh:vO f0:=by have:=hsy.hd (by have:=Z.w.2;omega);rw [ef] at this;exact this
  have gat:gO es e.1=gF f0:=by rw [uR RO hee,ef];rfl
  obtain ⟨b,u,v,rfl,hb,ru,rv⟩:=xK.same S3 re;obtain ⟨cu,rfl,hcu⟩:=fS ru;refine ⟨b,[.ref cu,v],rfl,dO.of hb,rfl,.ref cu,[v],rfl,v,[],rfl,rfl,?_⟩;refine ⟨_,rfl,?_⟩;refine oO (f:=f0) (fs:=fr) (by rw [<-ef];exact rv) ?_;refine ⟨_,rfl,?_⟩;refine GE (λon=>?_) (λon=>?_)
  ·have gne:gO es e.1≠0:=by rw [gat];exact sh.on.mp on
   have wpos:=RL.wpos' (aK.mpr ⟨e,hee,rfl⟩);obtain ⟨hs4,wsz⟩:=EH RO Z (aK.mpr ⟨e,hee,rfl⟩);have e0nn:=RL.sumnn (aK.mpr ⟨e,hee,rfl⟩);obtain ⟨va,hva,fva⟩:=D3.yes e.1 (by rw [RL.upto hks];omega);rw [RL.upto hks] at fva;refine ⟨_,rfl,_,rfl,?_⟩;refine dgT e3 hcu hva ?_;obtain ⟨av,vs,rfl,hav,rvs⟩:=rv;rw [ef] at rvs;obtain ⟨y0,hy0,ry0⟩:=eX (i:=0) rvs rfl;refine ⟨_,rfl,?_⟩;refine lK hav (eE hy0) ?_;have np:=hU e.1.sum.toNat;refine iL fva ry0 (fL np) sh.low ((DC np wsz (fH (RJ Oo))).mono) ?_ λq4 H4 hq4 e4 s4=>?_
   ·rw [<-sh.lw];exact (DC Dd (k:=100) (bC (show (gF f0).natAbs<=144403552893600 by have:=sh.gnn;have h2:=sh.gle;unfold NN at h2;omega) Dd) Dd).mono
   have em:gJ (lw (Wc F (gO es) e.1) (NN^e.1.sum.toNat)) f0=lw (Wc F (gO es) e.1*gO es e.1) (NN^(e.1.sum.toNat+1)):=by
    have h1:=AV (a:=Wc F (gO es) e.1) (c:=gF f0) np (show 0<NN by decide);rw [sh.lw] at h1;rw [h1,gat,Int.pow_succ]
   rw [em] at e4;have y0:0<Wc F (gO es) e.1*gO es e.1:=by
    have:=RL.pos e.1;exact Int.mul_pos wpos Oo
   have yb:Wc F (gO es) e.1*gO es e.1<=Wc F (gO es) e.1*NN:=Int.mul_le_mul_of_nonneg_left (RO.gle Z e.1) Oo;have ysz:(Wc F (gO es) e.1*gO es e.1).natAbs<2^500:=by
    have:(Wc F (gO es) e.1*NN).natAbs<2^(400+100):=EX wsz Dd;have h5:(Wc F (gO es) e.1*gO es e.1).natAbs<=(Wc F (gO es) e.1*NN).natAbs:=Oo;exact bC h5 this
   clear em yb;refine ⟨_,rfl,?_⟩;refine oN (nQ (s4 _ _ hcu)) Oo λL ys H5 hL e5 ry5 s5=>?_;have S5:=(S3.trans s4).trans s5;have ly:ys.length=F:=by rw [ry5.len,aA,aA,bO,hel]
   have frv5:fU K H5 (lw (Wc F (gO es) e.1*gO es e.1) (NN^(e.1.sum.toNat+1))) (.ref q4):=fU.new (s5 _ _ e4);have e5p:H5 p=some (.dT kvs):=s5 _ _ (s4 _ _ e3);have nLp:L≠p:=λz=>by rw [z,s4 _ _ e3] at hL;cases hL
   refine ⟨L,rfl,⟨_,eZ.of e5⟩,?_⟩;refine oZ (xs:=ys) (λj σ H'=>∃(o5:Option V) (kvs:List (List eA × V)),σ=[some (.ref a),some (.ref p),some (.ref cu),some (.ref av),some (.ref q4),o5]/\aS p H5 H'/\H' p=some (.dT kvs)/\kvs.length<=1+4*i+j/\DI K H' kvs λd=>Pc F (gO es) ((es.map (·.1)).take i) d+Wc F (gO es) e.1*(gO es e.1*kE j e.1 d))
    ⟨_,kvs,rfl,(aW.refl _).but,e5p,Oo,(D3.same (s4.trans s5)).eq λd=>by show Pc _ _ _ _+_*(_*sm [] _)=_;rw [oU,Int.mul_zero,Int.mul_zero,Int.add_zero]⟩ (λj σ H' _ q=>?_) ?_ ?_
   ·obtain ⟨_,_,_,b',_⟩:=q;exact eZ.of (b'.at nLp e5)
   ·rintro j y σ H6 hy ⟨o5,kv6,rfl,b6,e6,l6,D6⟩;have hj:j<F:=by rw [<-ly];exact (aY.mp hy).1
    obtain ⟨m,hm,rm⟩:=ry5.atI hy;have em:m=bp e.1 j:=by
     rw [aC,cO Oo] at hm;rw [<-vN Oo];simpa using hm.symm
    have msum:m.sum.toNat=e.1.sum.toNat+1:=by rw [em,xB Oo];omega
    have mks:m∈es.map (·.1):=by rw [em];exact RL.fwd _ (aK.mpr ⟨e,hee,rfl⟩) gne j hj
    obtain ⟨m4,mwsz⟩:=EH RO Z mks;obtain ⟨xb1,xb2⟩:=JV RL hks (Nat.le_of_lt hj) mks;obtain ⟨cm,rfl,hcm⟩:=fS rm;have hcm6:H6 cm=some (.tup (m.map V.int)):=b6.at (mE hcm e5p (by intro z;cases z)) hcm;have hnz:fU K H6 (0,1) (.ref c.NOUGHT):=⟨c.NOUGHT,rfl,kO T.o_NOUGHT⟩;have hg:=D6.get m hnz;generalize hX:Pc F (gO es) ((es.map (·.1)).take i) m+Wc F (gO es) e.1*(gO es e.1*kE j e.1 m)=Xm at xb1 xb2 hg;have np1:=hU m.sum.toNat;have frv6:fU K H6 (lw (Wc F (gO es) e.1*gO es e.1) (NN^m.sum.toNat)) (.ref q4):=by rw [msum];exact frv5.but b6 e5p
    have nsz:(NN^m.sum.toNat).natAbs<2^500:=fH (RJ Oo);have xsz:Xm.natAbs<2^500:=by
     have:Xm.natAbs<=(Wc F (gO es) m).natAbs:=Oo;exact bC this (fH mwsz)
    refine ⟨_,rfl,p,rfl,.inr ⟨kv6,.inl e6⟩,_,rfl,_,lE.ct e6 hcm6,?_⟩;refine ⟨_,rfl,?_⟩;refine pK hg frv6 (fL np1) (fL np1) (DC np1 xsz nsz).mono (DC np1 ysz nsz).mono λq7 H7 hq7 e7 s7=>?_;rw [xF np1] at e7;refine ⟨_,rfl,_,rfl,?_⟩;have e7p:=s7 _ _ e6;refine dpT e7p (s7 _ _ hcm6) Oo λH8 e8 b8=>?_;refine ⟨_,_,rfl,?_,e8,?_,?_⟩
    ·exact (b6.trans s7.but).trans b8
    ·have:=iU kv6 (kT m) (V.ref q7);omega
    ·refine DI.eq ((D6.same s7).put e7p b8 (c:=m) (v:=.ref q7) (y:=Wc F (gO es) e.1*gO es e.1) (by rw [hX];exact fU.new e7) (by rw [hX];omega)) λd=>?_;rw [DM,<-em];by_cases q:m=d
     ·rw [if_pos q,if_pos q,Int.mul_add,Int.mul_one,Int.mul_add,Int.add_assoc]
     ·rw [if_neg q,if_neg q,Int.add_zero,Int.add_zero]
   ·rintro σ H6 ⟨o5,kv6,rfl,b6,e6,l6,D6⟩;rw [ly] at l6 D6;refine ⟨_,_,_,_,kv6,rfl,aW.thru hp S5 b6,e6,Oo,D6.eq λd=>?_⟩;rw [BO hks];rfl
  ·have g0:gO es e.1=0:=by
    rw [gat];exact Classical.byContradiction λq=>on (sh.on.mpr q)
   refine ⟨_,_,_,_,kvs,rfl,S3,e3,Oo,D3.eq λd=>?_⟩;rw [BO hks,g0,Int.zero_mul,Int.mul_zero,Int.add_zero]
 ·rintro σ H3 ⟨o2,o3,o4,o5,kvs,rfl,S3,e3,l3,D3⟩;rw [lx,<-aA (f:=(·.1)) (as:=es),hV] at D3;refine ⟨_,rfl,a,rfl,⟨_,dO.of (S3 _ _ ha)⟩,?_⟩;refine gE (λi y H'=>∃(e:cG) (b cu:Addr) (va:V),es[i]?=some e/\y=.ref b/\H' b=some (.tup [.ref cu,va])/\H3 cu=some (.tup (e.1.map V.int))/\fU K H3 (lw (Wc F (gO es) e.1) (NN^e.1.sum.toNat)) va) (λi y H1 H2 s ⟨e,b,cu,va,h1,h2,h3,h4⟩=>⟨e,b,cu,va,h1,h2,s _ _ h3,h4⟩) (by rw [lx];have:=RO.len;omega) (S3 _ _ ha) (λi x H' Q' hx s' k'=>?_) (λD ys H8 hD hD8 s8 hy8 hr8=>?_)
  ·obtain ⟨e,he,re⟩:=eG rxs hx;have hee:=bD he;have hks:e.1∈es.map (·.1):=aK.mpr ⟨e,hee,rfl⟩;obtain ⟨b,u,v,rfl,hb,ru,rv⟩:=xK.same S3 re;obtain ⟨cu,rfl,hcu⟩:=fS ru;obtain ⟨va,hva,fva⟩:=D3.yes e.1 (by rw [RL.all hks];have:=RL.wpos' hks;omega);rw [RL.all hks] at fva;refine ⟨_,rfl,?_⟩;refine lK (s' _ _ hb) rfl ?_;refine ⟨_,rfl,_,rfl,?_⟩;refine lK (s' _ _ hb) rfl ?_;refine dgT (s' _ _ e3) (s' _ _ hcu) hva ?_;refine qO (by show 2<=64;decide) λq5 H5 hq5 e5 s5=>?_;exact k' _ H5 s5 ⟨e,q5,cu,va,he,rfl,e5,hcu,fva⟩
  ·refine ⟨D,ys,rfl,.inl ⟨eZ.of hD8,λl hl=>?_⟩⟩;have sl:=aW.upd (o:=.tup ys) hl;have el:(upd H8 l (.tup ys)) l=some (.tup ys):=bE;generalize upd H8 l (.tup ys)=H9 at sl el;refine k l ys H9 ((S3.trans s8).trans sl) el (cX.ofIdx (by unfold uF;rw [hy8,lx,aA]) λi y hi=>?_) λi y hi=>by
    obtain ⟨e,b,cu,va,h1,rfl,h3,h4,h5⟩:=hr8 i y hi;exact ⟨e,b,cu,va,h1,rfl,sl _ _ h3,sl _ _ (s8 _ _ h4),(h5.same s8).same sl⟩
   obtain ⟨e,b,cu,va,h1,rfl,h3,h4,h5⟩:=hr8 i y hi;exact ⟨_,by unfold uF;rw [aC,h1];rfl,dU.pair (sl _ _ h3) (bQ.k (nQ (sl _ _ (s8 _ _ h4)))) ((h5.same s8).same sl).k⟩
end
abbrev UC:Stmt:=(top 67)
theorem LQ:bK ["_law_tape_here","_law_faces","_law_ways","_law_names","_law_told","_law_found","_law_k"] ["_law_tape_here","_law_faces","_law_ways"] (aO UC):=⟨rfl,rfl,rfl,Kk,rfl,Kk,Kk⟩
abbrev wD(w:Str × List Fr):PyData:=.tuple [.str w.1,lO w.2]
abbrev lN(fs:List Str)(ws:List (Str × List Fr)):PyData:=.tuple [.tuple (fs.map .str),.tuple (ws.map wD)]
theorem yD:∀fs:List Str,fA (fs.map PyData.str)=true
 | []=>rfl
 | f::fs=>by show (eI (.str f)&&fA (fs.map PyData.str))=true;rw [yD fs];rfl
theorem zZ(w:Str × List Fr):eI (wD w)=true:=by
 show (eI (.str w.1)&&(eI (lO w.2)&&true))=true;rw [kX];rfl
theorem zY:∀ws:List (Str × List Fr),fA (ws.map wD)=true
 | []=>rfl
 | w::ws=>by show (eI (wD w)&&fA (ws.map wD))=true;rw [zZ w,zY ws];rfl
theorem kN(fs:List Str)(ws:List (Str × List Fr)):eI (lN fs ws)=true:=by
 show (eI (.tuple (fs.map .str))&&(eI (.tuple (ws.map wD))&&true))=true;rw [show eI (.tuple (fs.map PyData.str))=fA (fs.map PyData.str) from rfl,yD,show eI (.tuple (ws.map wD))=fA (ws.map wD) from rfl,zY];rfl
theorem zS{H:Hp}:∀fs:List Str,aX H (fs.map PyData.str) (fs.map V.str)
 | []=>aX.nil
 | f::fs=>aX.cons (bQ.str f) (zS fs)
theorem fQ{H:Hp}{ds:List PyData}{v:V}(h:bQ H (.tuple ds) v):∃a xs,v=.ref a/\H a=some (.tup xs)/\aX H ds xs:=by unfold bQ at h;exact h
theorem jF{H:Hp}{d e:PyData}{xs:List V}(h:aX H [d,e] xs):∃x y,xs=[x,y]/\bQ H d x/\bQ H e y:=by
 unfold aX aX aX at h;obtain ⟨x,_,rfl,h1,y,_,rfl,h2,rfl⟩:=h;exact ⟨x,y,rfl,h1,h2⟩
theorem CO{α:Type}{H:Hp}{g:α->PyData}{fs:List α}{vs:List V}(h:aX H (fs.map g) vs){i:Nat}{v:V}(e:vs[i]?=some v):∃f,fs[i]?=some f/\bQ H (g f) v:=by
 obtain ⟨d,h1,h2⟩:=h.get e;rw [aC] at h1;cases q:fs[i]? with
 | none=>rw [q] at h1;cases h1
 | some f=>rw [q] at h1;cases h1;exact ⟨f,rfl,h2⟩
theorem tI{α:Type}{H:Hp}{g:α->PyData}{fs:List α}{vs:List V}(h:aX H (fs.map g) vs){i:Nat}{f:α}(e:fs[i]?=some f):∃v,vs[i]?=some v/\bQ H (g f) v :=
 h.get' (by rw [aC,e];rfl)
theorem gB{α:Type}{H:Hp}{g:α->PyData}{fs:List α}{vs:List V}(h:aX H (fs.map g) vs):vs.length=fs.length:=by rw [h.len,aA]
theorem yB{α:Type}{l:List α}{i:Nat}{x:α}(h:l[i]?=some x):l.take (i+1)=l.take i++[x]:=by
 rw [eQ,h];rfl
structure xW(F W:Nat)(fs:List Str)(ws:List (Str × List Fr)):Prop where
 f:fs.length=F
 w:ws.length=W
 sh:∀x∈ws,dX F x.2
@[irreducible] def lU:Sp:=λvs H Q _=>∃(p:Addr) (n F W:Nat),vs=[.ref p,.int (F:Int),.int (W:Int)]/\cB H p (n+64)/\2<=F/\F<=4/\2<=W/\W<=4/\∀v fs ws H',cB H' p n->aS p H H'->bQ H' (lN fs ws) v->xW F W fs ws->Q v H'
theorem CF{H:Hp}{Q:VK}{E:XK}{p:Addr}{n F W:Nat}(T:cB H p (n+64))(h1:2<=F)(h2:F<=4)(h3:2<=W)(h4:W<=4)(k:∀v fs ws H',cB H' p n->aS p H H'->bQ H' (lN fs ws) v->xW F W fs ws->Q v H'):lU [.ref p,.int (F:Int),.int (W:Int)] H Q E:=by
 unfold lU;exact ⟨p,n,F,W,rfl,T,h1,h2,h3,h4,k⟩
theorem vV(ss:List Str)(b:Nat):(ss.map V.str).eraseIdx b=(ss.eraseIdx b).map V.str:=by
 induction ss generalizing b with
 | nil=>simp
 | cons a ss ih=>cases b with
  | zero=>rfl
  | succ b=>simp [ih]
theorem yX{ss:List Str}{b:Nat}(h:b<ss.length):(ss.eraseIdx b).length+1=ss.length:=by
 rw [List.length_eraseIdx,if_pos h];omega
section
theorem aD7(F:gH K "_law_trial" "_law_trial" UC f fd)(T:iV K mg c)
  (FQ5:eF cR P w K mg base 1 "_law_pick" ["_law_tape_here","_law_many"] jS) (FQ8:eF cR P w K mg base 2 "_law_shares" ["_law_tape_here","_law_many"] jL):dA P w K mg base cR 3 f fd ["_law_tape_here","_law_faces","_law_ways"] lU:=by
 refine F.oky LQ λvs H Q E h=>?_;unfold lU at h;obtain ⟨p,n,F,W,rfl,T0,f2,f4,w2,w4,k⟩:=h;refine ⟨rfl,λcdv A outer s hr=>?_⟩;refine ⟨_,(aU (bV (i:=3) LQ.nd rfl (Or.inr rfl) (eW (aI eT (aI eT (aI eT (aI eT (aI eT (aI eT (aI eT aE)))))))))
  (aU (bV (i:=4) LQ.nd rfl (Or.inl rfl) (hJ cJ (by rfl) T.b_tuple Kk (aI (eD (dJ.of (psc:=aO UC) (N:=["_law_tape_here","_law_faces","_law_ways","_law_names","_law_told","_law_found","_law_k"]) (N':=["_law_k","_law_tape_here","_law_names"]) (js:=[0,3]) Kk rfl rfl rfl) (dW rfl T.b_range (aI (aJ 1) aE)) (λ_ _ _ _=>dG) (λ_ _ _ _=>(MP K PySem.F.plainAttrs_list PySem.F.slot_list_pop PySem.F.type_list_pop OW (aJ 2) (aI (bJ FQ5 (hr.mono Dd) (aI (aJ 1) (aI (dL (IN K) (by rfl) T.b_len Kk (aI (aJ 2) aE)) aE))) aE)))) aE)))
  (aU (bV (i:=3) LQ.nd rfl (Or.inr rfl) (eW (aI eT (aI eT (aI eT (aI eT (aI eT (aI eT (aI eT aE)))))))))
  (aU (bV (i:=5) LQ.nd rfl (Or.inl rfl) (eW aE))
  (aU (iJ PassesOwn.never rfl (dW rfl T.b_range (aI (aJ 2) aE)) (dP (i:=6) LQ.nd rfl (Or.inl rfl)) (bB (jR (vT PySem.F.plainAttrs_list PySem.F.slot_list_append PySem.F.type_list_append AW (aJ 5) (aI (dN (aI (vT PySem.F.plainAttrs_list PySem.F.slot_list_pop PySem.F.type_list_pop OW (aJ 3) (aI (bJ FQ5 (hr.mono Dd) (aI (aJ 0) (aI (dL fT (by rfl) T.b_len Kk (aI (aJ 3) aE)) aE))) aE)) (aI (bJ FQ8 (hr.mono Dd) (aI (aJ 0) (aI (aJ 1) aE))) aE))) aE)))))
  (bB (bR (dN (aI (aJ 4) (aI (hJ cJ (by rfl) T.b_tuple Kk (aI (aJ 5) aE)) aE)))))))))),?_⟩
 refine wJ (by show 7<=64;decide) λL H1 hL e1 s1=>?_;have T1:=T0.same s1;have nLp:L≠p:=T0.ne hL;have e1':H1 L=some (.lst ((["a","ab","abc","b","ways","onx","zzzzzzzz"]:List Str).map V.str)):=e1;refine ⟨_,rfl,_,rfl,Oo,Oo,?_⟩;refine sD (J:=RX 0 F) (n:=F) (λi x=>True) Oo (λD i ys H'=>H1 D=none/\cB H' p (n+64-i)/\aS p H H'/\(∃ss:List Str,H' L=some (.lst (ss.map V.str))/\ss.length+i=7)/\∃ts:List Str,ys=ts.map V.str)
  (λD H2 hD e2 s2=>⟨hD,T1.same s2,(s1.trans s2).but,⟨_,s2 _ _ e1',rfl⟩,[],rfl⟩) (λD i ys H' hi _ _=>⟨hi,λx H3 y=>⟨y.1,True.intro⟩⟩) (λD ys H' _ _=>aM _) (λD i x ys H' _ hi hy hD q=>?_) (λD ys H2 hy hD hD2 q=>?_)
 ·obtain ⟨hDn,T2,b2,⟨ss,e2,ls⟩,ts,rfl⟩:=q;refine ⟨_,rfl,SO e2,_,rfl,_,rfl,?_⟩;have hsl:0<ss.length:=Oo;refine rlL e2 ?_;rw [aA];refine eN (n:=n+64-(i+1)) (T2.less Oo) Oo (bitsle (bC (show ((ss.length:Int)).natAbs<=7 by omega) Dd)) λx H3 x0 x1 T3 b3=>?_;obtain ⟨b,rfl⟩:∃b:Nat,x=(b:Int):=⟨x.toNat,Oo⟩;have e3:=b3.at nLp e2;have nDp:D≠p:=T1.ne hDn;have nDL:D≠L:=λz=>by rw [z,e1] at hDn;cases hDn
  refine aAy e3 (by rw [aA];omega) (by rw [aA];omega) λH4 e4 b4=>?_;have hget:(ss.map V.str)[b]'(by rw [aA];omega)=V.str (ss[b]'Oo):=by rw [List.getElem_map]
  rw [hget];refine ⟨b4.at nDL (b3.at nDp hD),λH6 e6 b6=>⟨hDn,(T3.but b4 nLp).but b6 nDp,?_,⟨ss.eraseIdx b,?_,?_⟩,ts++[ss[b]'Oo],?_⟩⟩
  ·exact aS.thru (s1.free hDn) (aS.thru hL (b2.trans b3) b4) b6
  ·rw [b6.at (Ne.symm nDL) e4,vV]
  ·have:=yX (ss:=ss) (b:=b) Oo;omega
  ·rw [bF];rfl
 ·obtain ⟨hDn,T2,b2,⟨ss,e2,ls⟩,ts,rfl⟩:=q;have nDp:D≠p:=T1.ne hDn;rw [aA] at hy;refine ⟨D,_,rfl,.inl ⟨eZ.of hD2,λl hl=>?_⟩⟩;have s3:=aW.upd (o:=.tup (ts.map V.str)) hl;have e3:(upd H2 l (.tup (ts.map V.str))) l=some (.tup (ts.map V.str)):=bE;generalize upd H2 l (.tup (ts.map V.str))=H3 at s3 e3;have b3:aS p H H3:=b2.trans s3.but;have T3:=(T2.same s3).less (show n+60<=n+64-F by omega);clear T1 T2 b2 hDn e2 ls hD2 s1 e1 e1' hL nLp nDp;refine wJ (by show 7<=64;decide) λL4 H4 hL4 e4 s4=>?_;have e4':H4 L4=some (.lst ((["a","ab","ba","saya","x","zzzzzzz","abc"]:List Str).map V.str)):=e4;refine wJ (by show 0<=64;decide) λM5 H5 hM5 e5 s5=>?_;have T5:=(T3.same s4).same s5;have nL:L4≠p:=T3.ne hL4;have nM:M5≠p:=(T3.same s4).ne hM5;have nLM:L4≠M5:=λz=>by rw [<-z,e4] at hM5;cases hM5
  have hL0:H L4=none:=aS.free b3 T3.there hL4;have hM0:H M5=none:=aS.free b3 T3.there (s4.free hM5);refine ⟨_,rfl,_,rfl,Oo,Oo,?_⟩;rw [show ((W:Int)).toNat=W by omega];refine kI (λi σ H'=>∃(o6:Option V) (ss:List Str) (vs:List V) (ws:List (Str × List Fr)),σ=[some (.ref p),some (.int (F:Int)),some (.int (W:Int)),some (.ref L4),some (.ref l),some (.ref M5),o6]/\cB H' p (n+60-10*i)/\aS p H H'/\H' L4=some (.lst (ss.map V.str))/\ss.length+i=7/\H' M5=some (.lst vs)/\aX H' (ws.map wD) vs/\ws.length=i/\(∀x∈ws,dX F x.2)/\H' l=some (.tup (ts.map V.str)))
   ⟨_,_,[],[],rfl,T5,b3.trans (s4.trans s5).but,s5 _ _ e4',rfl,e5,aX.nil,rfl,(λx h=>by cases h),s5 _ _ (s4 _ _ e3)⟩ ?_ ?_
  ·rintro i σ H6 hi ⟨o6,ss,vs,ws,rfl,T6,b6,e6,ls,em6,r6,lw6,hsy,el6⟩;have hsl:0<ss.length:=Oo;refine ⟨_,rfl,SO em6,_,rfl,SO e6,_,rfl,_,rfl,?_⟩;refine rlL e6 ?_;rw [aA];refine eN (n:=n+60-10*i-1) (T6.less Oo) Oo (bitsle (bC (show ((ss.length:Int)).natAbs<=7 by omega) Dd)) λx H7 x0 x1 T7 b7=>?_;obtain ⟨b,rfl⟩:∃b:Nat,x=(b:Int):=⟨x.toNat,Oo⟩;refine aAy (b7.at nL e6) (by rw [aA];omega) (by rw [aA];omega) λH8 e8 b8=>?_;have hget:(ss.map V.str)[b]'(by rw [aA];omega)=V.str (ss[b]'Oo):=by rw [List.getElem_map]
   rw [hget];have T8:=T7.but b8 nL;refine ⟨_,rfl,_,rfl,?_⟩;refine oJ (n:=n+60-10*(i+1)) (T8.less Oo) Oo Oo λsv fs H9 T9 b9 r9 sy9=>?_;refine qO (by show 2<=64;decide) λq10 H10 hq10 e10 s10=>?_;have em8:H8 M5=some (.lst vs):=b8.at (Ne.symm nLM) (b7.at nM em6);have em10:H10 M5=some (.lst vs):=s10 _ _ (b9.at nM em8);have lvs:vs.length=i:=by rw [r6.len,aA,lw6]
   refine WY em10 Oo λH11 e11 b11=>?_;have t67:=T6.t b7;have t78:=b8.t (b7.at nL e6);have t89:=T8.t b9;have t11:=b11.t em10;have tA:=(((t67.trans t78).trans t89).trans s10.t).trans t11;refine ⟨_,ss.eraseIdx b,vs++[.ref q10],ws++[(ss[b]'Oo,fs)],rfl,(T9.same s10).but b11 nM,?_,?_,?_,e11,?_,?_,?_,tA _ _ el6⟩
   ·exact aS.thru hM0 (((aS.thru hL0 (b6.trans b7) b8).trans b9).trans s10.but) b11
   ·rw [b11.at nLM (s10 _ _ (b9.at nL e8)),vV]
   ·have:=yX (ss:=ss) (b:=b) Oo;omega
   ·rw [bF];refine aX.snoc (r6.flat tA (zY ws)) ?_;refine bQ.flat t11 (zZ _) (bQ.tup e10 (aX.cons (bQ.str _) (aX.cons (r9.same s10) aX.nil)))
   ·rw [bI,lw6];rfl
   ·intro x hx;rcases cM.mp hx with hx | hx
    ·exact hsy x hx
    ·rw [bM.mp hx];exact sy9
  ·rintro σ H6 ⟨o6,ss,vs,ws,rfl,T6,b6,e6,ls,em6,r6,lw6,hsy,el6⟩;refine ⟨_,rfl,_,rfl,M5,vs,rfl,.inl ⟨eZ.of em6,λl7 hl7=>?_⟩⟩;have s7:=aW.upd (o:=.tup vs) hl7;have e7:(upd H6 l7 (.tup vs)) l7=some (.tup vs):=bE;generalize upd H6 l7 (.tup vs)=H7 at s7 e7;refine qO (by show 2<=64;decide) λq8 H8 hq8 e8 s8=>?_;refine k _ ts ws H8 (((T6.same s7).same s8).less Oo) (b6.trans (s7.trans s8).but) ?_ ⟨Oo,lw6,hsy⟩;refine bQ.tup e8 (aX.cons (bQ.tup (s8 _ _ (s7 _ _ el6)) (zS ts)) (aX.cons (bQ.tup (s8 _ _ e7) ((r6.same s7).same s8)) aX.nil))
end
abbrev ZT:Stmt:=(top 10)
theorem aEB:bK ["one","other"] ["one","other"] (aO ZT):=⟨rfl,rfl,rfl,Kk,rfl,Kk,Kk⟩
abbrev ZI:Stmt:=(top 21)
theorem aEo:bK ["trial"] ["trial"] (aO ZI):=⟨rfl,rfl,rfl,Kk,rfl,Kk,Kk⟩
abbrev ZJ:Stmt:=(top 22)
theorem aEp:bK ["trial","way"] ["trial","way"] (aO ZJ):=⟨rfl,rfl,rfl,Kk,rfl,Kk,Kk⟩
abbrev ZG:Stmt:=(top 25)
theorem QP:bK ["trial","way","counts","product","share","count"] ["trial","way","counts"] (aO ZG):=⟨rfl,rfl,rfl,Kk,rfl,Kk,Kk⟩
abbrev ZO:Stmt:=(top 26)
theorem LM:bK ["share","count","upper","lower","step"] ["share","count"] (aO ZO):=⟨rfl,rfl,rfl,Kk,rfl,Kk,Kk⟩
def wK(f:Fr):Fr:=(-f.1,f.2)
theorem CY{f:Fr}(h:fF f):fF (wK f):=⟨h.pos,by show Int.gcd (-f.1) f.2=1;rw [Int.neg_gcd];exact h.low⟩
@[irreducible] def lW(K:PySem.W.Frag):Sp:=λvs H Q _=>∃x y f g,vs=[x,y]/\fU K H f x/\fU K H g y/\fF f/\fF g/\xG 4000 f/\xG 4000 g/\uK H Q (nY f (wK g))
theorem wA{K:PySem.W.Frag}{H:Hp}{Q:VK}{E:XK}{x y:V}{f g:Fr}(h1:fU K H f x)(h2:fU K H g y)(l1:fF f)(l2:fF g)(z1:xG 4000 f)(z2:xG 4000 g)(q:uK H Q (nY f (wK g))):lW K [x,y] H Q E:=by unfold lW;exact ⟨x,y,f,g,rfl,h1,h2,l1,l2,z1,z2,q⟩
def Fk(k B:Nat)(f:Fr):Prop:=∃x:Int,x.natAbs<=B*(NN^k).natAbs/\f=lw x (NN^k)
theorem Fk.low{k B:Nat}{f:Fr}(h:Fk k B f):fF f:=by
 obtain ⟨x,_,rfl⟩:=h;exact fL (hU k)
theorem Fk.le{k B C:Nat}{f:Fr}(h:Fk k B f)(hB:B<=C):Fk k C f:=by
 obtain ⟨x,h1,h2⟩:=h;exact ⟨x,bG h1 (Nat.mul_le_mul_right _ hB),h2⟩
theorem Fk.up{k l B:Nat}{f:Fr}(h:Fk k B f)(hk:k<=l):Fk l B f:=by
 obtain ⟨x,h1,rfl⟩:=h;obtain ⟨d,rfl⟩:∃d,l=k+d:=⟨l-k,Oo⟩;refine ⟨x*NN^d,?_,?_⟩
 ·rw [fC,Int.pow_add,fC,<-Nat.mul_assoc];exact Nat.mul_le_mul_right _ h1
 ·refine rR (hU k) (hU _) ?_;rw [Int.pow_add,Int.mul_assoc,Int.mul_comm (NN^d)]
theorem Fk.add{k B C:Nat}{f g:Fr}(h:Fk k B f)(h':Fk k C g):Fk k (B+C) (nY f g):=by
 obtain ⟨x,h1,rfl⟩:=h;obtain ⟨y,h2,rfl⟩:=h';refine ⟨x+y,?_,xF (hU k)⟩;rw [Nat.add_mul];omega
theorem Fk.mul{k l B C:Nat}{f g:Fr}(h:Fk k B f)(h':Fk l C g):Fk (k+l) (B*C) (gJ f g):=by
 obtain ⟨x,h1,rfl⟩:=h;obtain ⟨y,h2,rfl⟩:=h';refine ⟨x*y,?_,?_⟩
 ·rw [fC,Int.pow_add,fC];have:=Nat.mul_le_mul h1 h2;rw [Nat.mul_mul_mul_comm] at this;exact this
 ·rw [AV (hU k) (hU l),Int.pow_add]
theorem Fk.zero(k:Nat):Fk k 0 (0,1):=⟨0,cK _,(vL (hU k)).symm⟩
theorem Fk.one(k:Nat):Fk k 1 (1,1):=⟨NN^k,Oo,(AX (hU k)).symm⟩
theorem Fk.neg{k B:Nat}{f:Fr}(h:Fk k B f):Fk k B (wK f):=by
 obtain ⟨x,h1,rfl⟩:=h;refine ⟨-x,by rw [Int.natAbs_neg];exact h1,?_⟩;have hp:=hU k;exact (nI (CY (fL hp)) hp (by
  show -(lw x (NN^k)).1*NN^k=-x*(lw x (NN^k)).2;rw [Int.neg_mul,Int.neg_mul,iD])).symm
theorem Fk.sz{k B:Nat}{f:Fr}(h:Fk k B f)(hk:k<=16)(hB:B<=1125899906842624):xG 1062 f:=by
 obtain ⟨x,h1,rfl⟩:=(h.up hk).le hB;have e:(NN^16).natAbs<2^800:=Kk;refine DC (hU 16) ?_ (fH e);have h2:1125899906842624*(NN^16).natAbs<2^1062:=Kk;exact bC h1 h2
theorem Fk.tot{k B:Nat}:∀(fs:List Fr),(∀f∈fs,Fk k B f)->Fk k (fs.length*B) (nX fs):=by
 intro fs
 induction fs using jT with
 | h0=>intro _;exact (Fk.zero k).le (cK _)
 | hs l a ih =>
  intro h;rw [pH,bI,List.length_singleton,Nat.add_mul,Nat.one_mul];exact (ih λf hf=>h f (cQ _ hf)).add (h a (aL _ (bM.mpr rfl)))
theorem vO.fk{f:Fr}(h:vO f):Fk 1 1 f:=by
 refine ⟨gF f,?_,?_⟩
 ·rw [Int.pow_succ,Int.pow_zero,Int.one_mul];have h1:=h.gnn;have h2:=h.gle;have h3:(0:Int)<NN:=Dd;omega
 ·rw [Int.pow_succ,Int.pow_zero,Int.one_mul,h.lw]
theorem Fk.totOk{k B:Nat}{fs:List Fr}(h:∀f∈fs,Fk k B f)(hk:k<=16)(hl:fs.length<=64)(hB:B<=1099511627776):RE fs :=
 ⟨λf hf=>(h f hf).low,λf hf=>((h f hf).sz hk Oo).mono,λi=>by
  have t:=Fk.tot (fs.take i) λf hf=>h f (List.mem_of_mem_take hf);have l:(fs.take i).length<=64:=by rw [dE];omega
  have:(fs.take i).length*B<=64*1099511627776:=Nat.mul_le_mul l hB;exact ⟨t.low,(t.sz hk Oo).mono⟩⟩
theorem mW{K:PySem.W.Frag}{H:Hp}{Q:VK}{E:XK}{a:Addr}{xs:List V}{fs:List Fr}(h:H a=some (.lst xs))(r:EK K H fs xs)(ok:RE fs)(q:∀v H',aW H H'->bQ H' (fM (nX fs)) v->Q v H'):fX K [.ref a] H Q E:=by unfold fX qX;exact .inr ⟨a,xs,fs,rfl,h,r,ok,q⟩
section
end
abbrev cnD(cs:List Nat):PyData:=.tuple (cs.map λ(n:Nat)=>PyData.int (n:Int))
theorem aBd{K:PySem.W.Frag}{H:Hp}{a:Addr}{m n:Int}(h:qP K a [m,n]=true):fU K H (m,n) (.ref a):=⟨a,rfl,kO h⟩
theorem XI{H:Hp}{fs:List Str}{ws:List (Str × List Fr)}{v:V}(h:bQ H (lN fs ws) v):∃a af aw xf xw,v=.ref a/\H a=some (.tup [.ref af,.ref aw])/\H af=some (.tup xf)/\H aw=some (.tup xw)/\aX H (fs.map .str) xf/\aX H (ws.map wD) xw:=by
 obtain ⟨a,xs,rfl,ha,hr⟩:=fQ h;obtain ⟨x,y,rfl,hx,hy⟩:=jF hr;obtain ⟨af,xf,rfl,h1,h2⟩:=fQ hx;obtain ⟨aw,xw,rfl,h3,h4⟩:=fQ hy;exact ⟨a,af,aw,xf,xw,rfl,ha,h1,h3,h2,h4⟩
@[irreducible] def jK:Sp:=λvs H Q _=>∃v fs ws,vs=[v]/\bQ H (lN fs ws) v/\Q (.int (ws.length:Nat)) H
theorem oG{H:Hp}{Q:VK}{E:XK}{v:V}{fs:List Str}{ws:List (Str × List Fr)}(h:bQ H (lN fs ws) v)(q:Q (.int (ws.length:Nat)) H):jK [v] H Q E:=by unfold jK;exact ⟨v,fs,ws,rfl,h,q⟩
@[irreducible] def vW:Sp:=λvs H Q _=>∃v fs ws w,∃i:Nat,vs=[v,.int (i:Int)]/\bQ H (lN fs ws) v/\ws[i]?=some w/\∀x,bQ H (lO w.2) x->Q x H
theorem NG{H:Hp}{Q:VK}{E:XK}{v:V}{fs:List Str}{ws:List (Str × List Fr)}{w:Str × List Fr}{i:Nat}(h:bQ H (lN fs ws) v)(hw:ws[i]?=some w)(q:∀x,bQ H (lO w.2) x->Q x H):vW [v,.int (i:Int)] H Q E:=by unfold vW;exact ⟨v,fs,ws,w,i,rfl,h,hw,q⟩
structure BOk(B:Nat)(fs:List Fr):Prop where
 low:∀f∈fs,fF f
 up:∀f∈fs,f.1.natAbs<=2^B
 dn:∀f∈fs,f.2.natAbs<=2^B
@[irreducible] def oK(K:PySem.W.Frag):Sp:=λvs H Q _=>∃x f,∃c B:Nat,vs=[x,.int (c:Int)]/\fU K H f x/\f.1.natAbs<=2^B/\f.2.natAbs<=2^B/\B<=4000/\c<=4000/\B*c<=4000/\uK H Q (wI f c)
theorem FC{K:PySem.W.Frag}{H:Hp}{Q:VK}{E:XK}{x:V}{f:Fr}{c B:Nat}(h:fU K H f x)(h1:f.1.natAbs<=2^B)(h2:f.2.natAbs<=2^B)(h3:B<=4000)(h5:c<=4000)(h4:B*c<=4000)(q:uK H Q (wI f c)):oK K [x,.int (c:Int)] H Q E:=by unfold oK;exact ⟨x,f,c,B,rfl,h,h1,h2,h3,h5,h4,q⟩
theorem AY{x:Int}{n:Nat}(h:x.natAbs<=2^n)(hn:n<=4000):x.natAbs<2^4001:=bC h (Nat.pow_lt_pow_right Dd Oo)
theorem NE{f:Fr}{n:Nat}(h1:f.1.natAbs<=2^n)(h2:f.2.natAbs<=2^n){k:Nat}(hk:n<k):xG k f:=⟨bC h1 (Nat.pow_lt_pow_right Dd hk),bC h2 (Nat.pow_lt_pow_right Dd hk)⟩
@[irreducible] def lS(K:PySem.W.Frag):Sp:=λvs H Q _=>∃v cv fs ws w cs,∃i:Nat,vs=[v,.int (i:Int),cv]/\bQ H (lN fs ws) v/\ws[i]?=some w/\bQ H (cnD cs) cv/\BOk 10 w.2/\cs.sum<=390/\∀x H',aW H H'->fU K H' (qT (w.2.zip cs)) x->Q x H'
theorem CB{K:PySem.W.Frag}{H:Hp}{Q:VK}{E:XK}{v cv:V}{fs:List Str}{ws:List (Str × List Fr)}{w:Str × List Fr}{cs:List Nat}{i:Nat}(h:bQ H (lN fs ws) v)(hw:ws[i]?=some w)(hc:bQ H (cnD cs) cv)(ok:BOk 10 w.2)(hs:cs.sum<=390)(q:∀x H',aW H H'->fU K H' (qT (w.2.zip cs)) x->Q x H'):lS K [v,.int (i:Int),cv] H Q E:=by unfold lS;exact ⟨v,cv,fs,ws,w,cs,i,rfl,h,hw,hc,ok,hs,q⟩
theorem RZ{α β:Type}{l:List α}{m:List β}{i:Nat}{a:α}{b:β}(h1:l[i]?=some a)(h2:m[i]?=some b):(l.zip m)[i]?=some (a,b):=by rw [List.getElem?_zip_eq_some];exact ⟨h1,h2⟩
theorem RY{α:Type}(l:List α)(m:List Nat)(i:Nat):(((l.zip m).take i).map (·.2)).sum<=m.sum:=by
 induction l generalizing m i with
 | nil=>simp
 | cons a l ih =>
  cases m with
  | nil=>simp
  | cons b m =>
   cases i with
   | zero=>simp
   | succ i =>
    have:=ih m i;simp only [List.zip_cons_cons,List.take_succ_cons,aZ,List.sum_cons];omega
theorem nH{α β:Type}{l:List α}{m:List β}{i:Nat}{z:α × β}(h:z∈(l.zip m).take i):z.1∈l:=(List.of_mem_zip (a:=z.1) (b:=z.2) (List.mem_of_mem_take h)).1
theorem SS{m:List Nat}{i c:Nat}(h:m[i]?=some c):c<=m.sum:=by
 induction m generalizing i with
 | nil=>simp at h
 | cons a m ih =>
  rw [List.sum_cons];cases i with
  | zero=>cases (show a=c by simpa using h);omega
  | succ i=>have:=ih (i:=i) (by simpa using h);omega
section
theorem aDn(F:gH K "ways_of" "ways_of" ZI f fd)(T:iV K mg c):dA P w K mg base cR 1 f fd ["trial"] jK:=by
 refine F.oky aEo λvs H Q E h=>?_;unfold jK at h;obtain ⟨v,fs,ws,rfl,h,q⟩:=h;refine ⟨rfl,λcdv A outer s hr=>?_⟩;obtain ⟨a,af,aw,xf,xw,rfl,ha,hf,hw,rf,rw'⟩:=XI h;refine ⟨_,(bB (bR (dL fT (by rfl) T.b_len Kk (aI (cC bY (aJ 0) aN (λ_ _=>rfl)) aE)))),?_⟩;refine ⟨_,rfl,?_⟩;refine lK ha rfl ?_;refine RQ hw ?_;rw [gB rw'];exact q
theorem aDo(F:gH K "way_shares" "way_shares" ZJ f fd)(T:iV K mg c):dA P w K mg base cR 1 f fd ["trial","way"] vW:=by
 refine F.oky aEp λvs H Q E h=>?_;unfold vW at h;obtain ⟨v,fs,ws,w,i,rfl,h,hw',q⟩:=h;refine ⟨rfl,λcdv A outer s hr=>?_⟩;obtain ⟨a,af,aw,xf,xw,rfl,ha,hf,hw,rf,rw'⟩:=XI h;obtain ⟨u,hu,ru⟩:=tI rw' hw';obtain ⟨b,xs,rfl,hb,hr'⟩:=fQ ru;obtain ⟨y,z,rfl,hy,hz⟩:=jF hr';refine ⟨_,(bB (bR (cC bY (cC bY (cC bY (aJ 0) aN (λ_ _=>rfl)) (aJ 1) (λ_ _=>rfl)) aN (λ_ _=>rfl)))),?_⟩;refine ⟨_,rfl,?_⟩;refine lK ha rfl ?_;refine ⟨_,rfl,?_⟩;refine lK hw (eE (j:=i) hu) ?_;refine lK hb rfl ?_;exact q _ hz
theorem aDz(F:gH K "power" "power" ZO f fd)(T:iV K mg c):dA P w K mg base cR 1 f fd ["share","count"] (oK K):=by
 refine F.oky LM λvs H Q E h=>?_;unfold oK at h;obtain ⟨x,f,n,B,rfl,⟨a,rfl,ha⟩,h1,h2,h3,h5,h4,q⟩:=h;refine ⟨rfl,λcdv A outer s hr=>?_⟩;refine ⟨_,(aU (bV (i:=2) LM.nd rfl (Or.inl rfl) aN)
  (aU (bV (i:=3) LM.nd rfl (Or.inl rfl) aN)
  (aU (iJ PassesOwn.never rfl (dW rfl T.b_range (aI (aJ 1) aE)) (dP (i:=4) LM.nd rfl (Or.inl rfl)) (aU (bV (i:=2) LM.nd rfl (Or.inl rfl) (cT iH (aJ 2) (cC bY (aJ 0) aN (λ_ _=>rfl))))
  (bB (bV (i:=3) LM.nd rfl (Or.inl rfl) (cT iH (aJ 3) (cC bY (aJ 0) aN (λ_ _=>rfl)))))))
  (bB (bR (dN (aI (aJ 2) (aI (aJ 3) aE)))))))),?_⟩
 refine ⟨_,rfl,_,rfl,Oo,Oo,?_⟩;refine kI (λi σ H'=>∃o4,σ=[some (.ref a),some (.int (n:Int)),some (.int (f.1^i)),some (.int (f.2^i)),o4]/\H'=H) ⟨_,by rw [Int.pow_zero,Int.pow_zero];rfl,rfl⟩ ?_ ?_
 ·rintro i σ H1 hi ⟨o4,rfl,rfl⟩;have hB:B*i<=4000:=bG (Nat.mul_le_mul_left _ Oo) h4;refine ⟨_,rfl,_,rfl,?_⟩;refine sP ha rfl ?_;refine ⟨_,_,rfl,rfl,FY (AY (tK h1 i) hB) (AY h1 h3),?_⟩;refine ⟨_,rfl,_,rfl,?_⟩;refine sP ha rfl ?_;refine ⟨_,_,rfl,rfl,FY (AY (tK h2 i) hB) (AY h2 h3),?_⟩;exact ⟨_,by rw [Int.pow_succ,Int.pow_succ];rfl,rfl⟩
 ·rintro σ H1 ⟨o4,rfl,rfl⟩;refine ⟨_,rfl,_,rfl,?_⟩;refine qO (by show 2<=64;decide) λq3 H3 hq3 e3 s3=>?_;exact q q3 H3 hq3 (by rw [e3];rfl) s3
theorem aDl(F:gH K "weight" "weight" ZG f fd)(T:iV K mg c)
  (FQ56:eF cR P w K mg base 1 "way_shares" ["trial","way"] vW) (FQ53:eF cR P w K mg base 2 "times" ["one","other"] (gL K)) (FQ45:eF cR P w K mg base 1 "power" ["share","count"] (oK K)):dA P w K mg base cR 3 f fd ["trial","way","counts"] (lS K):=by
 refine F.oky QP λvs H Q E h=>?_;unfold lS at h;obtain ⟨v,cv,fs,ws,w,cs,j,rfl,h,hw,hc,ok,hs,q⟩:=h;refine ⟨rfl,λcdv A outer s hr=>?_⟩;refine ⟨_,(aU (bV (i:=3) QP.nd rfl (Or.inl rfl) (lG (v:=.ref c.ONE) rfl T.g_ONE rfl))
  (aU (iJ PassesOwn.never rfl (MH true true rfl T.b_zip (aI (bJ FQ56 (hr.mono Dd) (aI (aJ 0) (aI (aJ 1) aE))) (aI (aJ 2) aE))) (qK rfl (eR (dP (i:=4) QP.nd rfl (Or.inl rfl)) (eR (dP (i:=5) QP.nd rfl (Or.inl rfl)) mR))) (bB (bV (i:=3) QP.nd rfl (Or.inl rfl) (bJ FQ53 (hr.mono Dd) (aI (aJ 3) (aI (bJ FQ45 (hr.mono Dd) (aI (aJ 4) (aI (aJ 5) aE))) aE))))))
  (bB (bR (aJ 3))))),?_⟩
 refine ⟨_,rfl,_,rfl,?_⟩;refine NG h hw λx rx=>?_;obtain ⟨l1,xs,rfl,h1,r1⟩:=fQ rx;obtain ⟨l2,ys,rfl,h2,r2⟩:=fQ hc;refine ⟨_,rfl,l1,l2,xs,ys,rfl,h1,h2,?_⟩;have hl1:=gB r1;have hl2:=gB r2;have zl:∀i,∀z∈(w.2.zip cs).take i,fF z.1:=λi z hz=>ok.low _ (nH hz);have zb:∀i,∀z∈(w.2.zip cs).take i,z.1.1.natAbs<=2^10/\z.1.2.natAbs<=2^10:=λi z hz=>⟨ok.up _ (nH hz),ok.dn _ (nH hz)⟩;refine IC (λi σ H'=>∃x o4 o5,σ=[some v,some (.int (j:Int)),some (.ref l2),some x,o4,o5]/\aW H H'/\fU K H' (qT ((w.2.zip cs).take i)) x) ⟨_,_,_,rfl,aW.refl _,aBd T.o_ONE⟩ (λi σ H' ⟨x,o4,o5,_,s',_⟩=>⟨s' _ _ h1,s' _ _ h2⟩) ?_ ?_
 ·rintro i y z q3 σ H1 H2 hy hz ⟨x,o4,o5,rfl,s1,r⟩ hq3 e3 s3;obtain ⟨g,hg,rg⟩:=CO r1 hy;obtain ⟨n,hn,rn⟩:=CO r2 hz;cases (show z=V.int (n:Int) from rn);have gm:=bD hg;have nn:=SS hn;refine ⟨q3,_,rfl,dO.of e3,rfl,_,_,rfl,_,_,rfl,rfl,?_⟩;refine ⟨_,rfl,_,rfl,_,rfl,?_⟩;refine FC (B:=10) (fU.of (rg.same (s1.trans s3))) (ok.up _ gm) (ok.dn _ gm) Dd Oo Oo ?_;intro q4 H4 hq4 e4 s4;obtain ⟨b1,b2⟩:=SH ((w.2.zip cs).take i) (zl i) (zb i);have zs:=RY w.2 cs i;have c1:=tK (ok.up _ gm) n;have c2:=tK (ok.dn _ gm) n;refine iL (fU.same (s3.trans s4) r) (fU.new (f:=wI g n) e4) (MI _ (zl i)) (oW (ok.low _ gm) n) (NE b1 b2 Oo) (NE c1 c2 Oo) ?_;intro q5 H5 hq5 e5 s5;refine ⟨_,_,_,rfl,((s1.trans s3).trans s4).trans s5,?_⟩;rw [yB (RZ hg hn),sU];exact fU.new e5
 ·rintro σ H1 ⟨x,o4,o5,rfl,s1,r⟩;refine ⟨_,rfl,?_⟩;refine q _ H1 s1 ?_;have e:(w.2.zip cs).take (min xs.length ys.length)=w.2.zip cs:=List.take_of_length_le (by rw [List.length_zip];omega)
  rwa [e] at r
end
section
theorem aDH(F:gH K "less" "less" ZT f fd)(T:iV K mg c)
  (FQ44:eF cR P w K mg base 2 "plus" ["one","other"] (mX K)):dA P w K mg base cR 3 f fd ["one","other"] (lW K):=by
 refine F.oky aEB λvs H Q E h=>?_;unfold lW at h;obtain ⟨x,y,f,g,rfl,h1,h2,l1,l2,z1,z2,q⟩:=h;refine ⟨rfl,λcdv A outer s hr=>?_⟩;obtain ⟨p2,rfl,e2⟩:=h2;refine ⟨_,(bB (bR (bJ FQ44 (hr.mono Dd) (aI (aJ 0) (aI (dN (aI (XH MV (cC bY (aJ 1) aN (λ_ _=>rfl))) (aI (cC bY (aJ 1) aN (λ_ _=>rfl)) aE))) aE))))),?_⟩;refine ⟨_,rfl,_,rfl,?_⟩;refine sP e2 rfl ?_;refine ⟨_,rfl,?_⟩;refine ⟨_,rfl,?_⟩;refine sP e2 rfl ?_;refine qO (by show 2<=64;decide) λp H3 hp e3 s3=>?_;refine pK (fU.same s3 h1) (fU.new (f:=wK g) e3) l1 (CY l2) z1 ⟨by show (-g.1).natAbs<_;rw [Int.natAbs_neg];exact z2.1,z2.2⟩ ?_;exact q.of s3
end
abbrev aAd:Stmt:=(top 53)
theorem WT:bK ["trial","rule","way","found","entry","amount"] ["trial","rule","way"] (aO aAd):=⟨rfl,rfl,rfl,Kk,rfl,Kk,Kk⟩
abbrev TH:Stmt:=(top 55)
theorem aEs:bK ["came","way"] ["came","way"] (aO TH):=⟨rfl,rfl,rfl,Kk,rfl,Kk,Kk⟩
abbrev TL:Stmt:=(top 58)
theorem aCC:bK ["trial","rule","way","came"] ["trial","rule","way"] (aO TL):=⟨rfl,rfl,rfl,Kk,rfl,Kk,Kk⟩
abbrev TD:Stmt:=(top 60)
theorem aEr:bK ["trial","rule","way","costs"] ["trial","rule","way","costs"] (aO TD):=⟨rfl,rfl,rfl,Kk,rfl,Kk,Kk⟩
abbrev ZF:Stmt:=(top 61)
theorem aBk:bK ["trial","rule","found","way"] ["trial","rule"] (aO ZF):=⟨rfl,rfl,rfl,Kk,rfl,Kk,Kk⟩
theorem PC:(∀m≤4,((List.range (m+1)).flatMap (xE 2)).length<=20)/\(∀m≤3,((List.range (m+1)).flatMap (xE 3)).length<=20)/\(∀m≤2,((List.range (m+1)).flatMap (xE 4)).length<=20):=Dd
theorem dB.few{F W M:Nat}{es:List cG}(R:dB F W M es)(Z:eU F W M):es.length<=20:=by
 have h1:=mD R.nd (m:=(List.range (M+1)).flatMap (xE F)) λc hc=>by
  obtain ⟨e,he,rfl⟩:=aK.mp hc;obtain ⟨h1,h2,h3,_⟩:=R.each e he;have:=nG h2;exact List.mem_flatMap.mpr ⟨e.1.sum.toNat,bX.mpr Oo,xD h1 h2 Oo⟩
 rw [aA] at h1;obtain ⟨l2,l3,l4⟩:=PC;rcases Z.f with ⟨rfl,hM⟩ | ⟨rfl,hM⟩ | ⟨rfl,hM⟩
 ·exact bG h1 (l2 M Oo)
 ·exact bG h1 (l3 M Oo)
 ·exact bG h1 (l4 M Oo)
def amf(F:Nat)(es:List cG)(c:List Int):Fr:=lw (Wc F (gO es) c) (NN^c.sum.toNat)
def cN(c:List Int):List Nat:=c.map Int.toNat
theorem YL:∀{c:List Int},(∀x∈c,0<=x)->fG c=cnD (cN c)
 | [],_=>rfl
 | a::c,h=>by
  have ih:=YL λx hx=>h x (aH a hx);have ha:=h a (aG ..);injection ih with ih;show PyData.tuple (.int a::c.map .int)=.tuple (.int ((a.toNat:Nat):Int)::(cN c).map λn:Nat=>PyData.int (n:Int));rw [ih,show ((a.toNat:Nat):Int)=a by omega]
theorem BH:∀{c:List Int},(∀x∈c,0<=x)->(cN c).sum=c.sum.toNat
 | [],_=>rfl
 | a::c,h=>by
  have ih:=BH λx hx=>h x (aH a hx);have ha:=h a (aG ..);have hc:=nG λx hx=>h x (aH a hx);show a.toNat+(cN c).sum=_;rw [ih,List.sum_cons];omega
def LZ(sh:List Fr)(c:List Int):Fr:=qT (sh.zip (cN c))
def came(F:Nat)(es:List cG)(sh:List Fr):List (cG × Fr):=es.map λe=>(e,gJ (amf F es e.1) (LZ sh e.1))
theorem dU.fr{K:PySem.W.Frag}{H:Hp}{f:Fr}{v:V}(h:dU K H (fM f) v):fU K H f v:=by
 unfold dU at h;obtain ⟨a,xs,rfl,hq,r⟩:=h;unfold cX cX cX at r;obtain ⟨u,_,rfl,r1,x,_,rfl,r2,rfl⟩:=r;unfold dU at r1 r2;subst r1 r2;exact ⟨a,rfl,hq⟩
theorem cX.atI{K:PySem.W.Frag}{H:Hp}{α:Type}{g:α->PyData}:∀{as:List α}{xs:List V},cX K H (as.map g) xs->∀{i:Nat}{x:V},xs[i]?=some x->∃a,as[i]?=some a/\dU K H (g a) x
 | [],xs,r,i,x,h=>by
  unfold cX at r;cases (show xs=[] from r);simp at h
 | a::as,xs,r,i,x,h=>by
  rw [aZ] at r;unfold cX at r;obtain ⟨y,ys,rfl,r1,r2⟩:=r;cases i with
  | zero=>cases (show y=x by simpa using h);exact ⟨a,rfl,r1⟩
  | succ i =>
   obtain ⟨b,h1,h2⟩:=cX.atI r2 (i:=i) (by simpa using h);exact ⟨b,by simpa using h1,h2⟩
theorem cX.length{K:PySem.W.Frag}{H:Hp}:∀{ds:List PyData}{xs:List V},cX K H ds xs->xs.length=ds.length
 | [],xs,r=>by
  unfold cX at r;cases (show xs=[] from r);rfl
 | d::ds,xs,r=>by
  unfold cX at r;obtain ⟨y,ys,rfl,r1,r2⟩:=r;rw [bL,bL,cX.length r2]
theorem dU.pr{K:PySem.W.Frag}{H:Hp}{d e:PyData}{v:V}(h:dU K H (.tuple [d,e]) v):∃a u x,v=.ref a/\dO K H a [u,x]/\dU K H d u/\dU K H e x:=by
 unfold dU at h;obtain ⟨a,xs,rfl,hq,r⟩:=h;unfold cX cX cX at r;obtain ⟨u,_,rfl,r1,x,_,rfl,r2,rfl⟩:=r;exact ⟨a,u,x,rfl,hq,r1,r2⟩
theorem YH{N:Int}(hN:0<=N):∀(xs:List Int) (cs:List Nat),(∀x∈xs,0<=x/\x<=N)->0<=gX xs cs/\(xs.length=cs.length->gX xs cs<=N^cs.sum)
 | [],cs,_=>⟨by show (0:Int)<=1;decide,λh=>by
   have:cs=[]:=List.length_eq_zero_iff.mp (by simpa using h.symm);subst this;show (1:Int)<=N^0;rw [Int.pow_zero];exact Int.le_refl _⟩
 | x::xs,[],_=>⟨by show (0:Int)<=1;decide,λh=>by simp at h⟩
 | x::xs,k::cs,h=>by
  obtain ⟨h1,h2⟩:=YH hN xs cs λy hy=>h y (aH _ hy);obtain ⟨a,b⟩:=h x (aG ..);rw [WB];refine ⟨Int.mul_nonneg (Int.pow_nonneg a) h1,λhl=>?_⟩;have h3:=h2 (by simpa using hl);have h4:x^k<=N^k:=by
   clear hl h3 h2 h1
   induction k with
   | zero=>rw [Int.pow_zero,Int.pow_zero];exact Int.le_refl _
   | succ k ih=>rw [Int.pow_succ,Int.pow_succ];exact Int.mul_le_mul ih b a (Int.pow_nonneg hN)
  rw [List.sum_cons,Int.pow_add];exact Int.mul_le_mul h4 h3 h1 (Int.pow_nonneg hN)
theorem EO{F:Nat}{sh:List Fr}(hs:dX F sh)(hF:F<=5){c:List Int}(hl:c.length=F)(hn:∀x∈c,0<=x):LZ sh c=lw (gX (sh.map gF) (cN c)) (NN^c.sum.toNat):=by
 have e:(sh.map gF).map (λx=>lw x NN)=sh:=by
  rw [List.map_map];have:sh.map ((λx=>lw x NN) ∘ gF)=sh.map id:=bZ λf hf=>(hs.each hF f hf).lw;rw [this,List.map_id]
 have h:=SF (D:=NN) Dd (sh.map gF) (cN c) (by unfold cN;rw [aA,aA,hs.len,hl]);rw [e,BH hn] at h;exact h
theorem MG{F:Nat}{sh:List Fr}(hs:dX F sh)(hF:F<=5){c:List Int}(hl:c.length=F)(hn:∀x∈c,0<=x):Fk c.sum.toNat 1 (LZ sh c):=by
 rw [EO hs hF hl hn];obtain ⟨h1,h2⟩:=YH (N:=NN) Dd (sh.map gF) (cN c) λx hx=>by
  obtain ⟨f,hf,rfl⟩:=aK.mp hx;exact ⟨(hs.each hF f hf).gnn,(hs.each hF f hf).gle⟩
 have h3:=h2 (by unfold cN;rw [aA,aA,hs.len,hl]);rw [BH hn] at h3;refine ⟨_,?_,rfl⟩;have:=hU c.sum.toNat;omega
theorem QZ{F W M:Nat}{es:List cG}(R:dB F W M es)(Z:eU F W M){e:cG}(he:e∈es):Fk e.1.sum.toNat 256 (amf F es e.1):=by
 have hs:=(EH R Z (aK.mpr ⟨e,he,rfl⟩)).1;have h0:=(R.rl Z).wnn e.1;have h1:=YS F (gO es) (R.rl Z).pos (R.gle Z) (L:=mC F e.1.sum.toNat) (λr hr=>(tH hr).2) e.1;rw [qM] at h1;have hF:F<=4:=by have:=Z.f;omega
 have h2:F^e.1.sum.toNat<=256:=bG (Nat.pow_le_pow_left hF _) (bG (fB Dd hs) Dd);refine ⟨_,?_,rfl⟩;have hp:=hU e.1.sum.toNat;have h3:((F^e.1.sum.toNat:Nat):Int)*NN^e.1.sum.toNat<=256*NN^e.1.sum.toNat:=Int.mul_le_mul_of_nonneg_right Oo Oo;have h4:Wc F (gO es) e.1<=256*NN^e.1.sum.toNat:=Int.le_trans h1 h3;omega
structure uN(W M:Nat)(qs:List (cG × Fr)):Prop where
 sy:∀q∈qs,dX (1+W) q.1.2
 fk:∀q∈qs,Fk 8 256 q.2
 sm:∀q∈qs,0<=q.1.1.sum/\(0<(hd q.1.2).1->q.1.1.sum<(M:Int))
 len:qs.length<=64
theorem dB.below{F W M:Nat}{es:List cG}(R:dB F W M es)(Z:eU F W M){e:cG}(he:e∈es)(h:0<(hd e.2).1):e.1.sum<(M:Int):=by
 have sh:=(R.each e he).2.2.2.hd (by have:=Z.w.2;omega);have hl:=(R.each e he).1;have hF:2<=F:=by have:=Z.f;omega
 have hm:=(R.rl Z).fwd e.1 (aK.mpr ⟨e,he,rfl⟩) (by rw [uR R he];exact sh.on.mp h) 0 Oo;obtain ⟨d,hd',e1⟩:=aK.mp hm;have h1:=(R.each d hd').2.2.1;rw [e1,xB Oo] at h1;omega
theorem jX{F W M:Nat}{es:List cG}(R:dB F W M es)(Z:eU F W M){sh:List Fr}(hs:dX F sh):uN W M (came F es sh):=by
 have hF:2<=F/\F<=4:=by have:=Z.f;omega
 refine ⟨λq hq=>?_,λq hq=>?_,λq hq=>?_,?_⟩
 ·obtain ⟨e,he,rfl⟩:=aK.mp hq;exact (R.each e he).2.2.2
 ·obtain ⟨e,he,rfl⟩:=aK.mp hq;obtain ⟨h1,h2,h3,_⟩:=R.each e he;have hsum:=(EH R Z (aK.mpr ⟨e,he,rfl⟩)).1;exact ((QZ R Z he).mul (MG hs Oo h1 h2)).up Oo
 ·obtain ⟨e,he,rfl⟩:=aK.mp hq;exact ⟨nG (R.each e he).2.1,R.below Z he⟩
 ·unfold came;rw [aA];have:=R.few Z;omega
def vP(K:PySem.W.Frag)(H:Hp)(q:cG × Fr)(x:V):Prop:=∃a u v z,x=.ref a/\H a=some (.tup [u,v,z])/\bQ H (fG q.1.1) u/\vC K H q.1.2 v/\bQ H (fM q.2) z
theorem vP.same{K:PySem.W.Frag}{H H':Hp}{q:cG × Fr}{x:V}(s:aW H H')(h:vP K H q x):vP K H' q x:=by
 obtain ⟨a,u,v,z,rfl,h1,h2,h3,h4⟩:=h;exact ⟨a,u,v,z,rfl,s _ _ h1,h2.same s,h3.same s,h4.same s⟩
theorem vP.but{K:PySem.W.Frag}{H H':Hp}{p:Addr}{q:cG × Fr}{x:V}{zs:List V}(s:aS p H H')(hp:H p=some (.lst zs))(h:vP K H q x):vP K H' q x:=by
 obtain ⟨a,u,v,z,rfl,h1,h2,h3,h4⟩:=h;exact ⟨a,u,v,z,rfl,s.t hp _ _ h1,h2.flat (s.t hp) (jC _),h3.but s hp,h4.flat (s.t hp) (gS _)⟩
@[irreducible] def gM(K:PySem.W.Frag):Sp:=λvs H Q _=>∃(t r:V) (es:List cG) (F W M:Nat) (fs:List Str) (ws:List (Str × List Fr)) (i:Nat) (x:Str × List Fr),vs=[t,r,.int (i:Int)]/\bQ H (lN fs ws) t/\qA K H es r/\dB F W M es/\eU F W M/\ws[i]?=some x/\dX F x.2 /\
 ∀D ys H',H D=none->H' D=some (.lst ys)->Paired (vP K H') (came F es x.2) ys->aW H H'->Q (.ref D) H'
theorem kF{K:PySem.W.Frag}{H:Hp}{Q:VK}{E:XK}{t r:V}{es:List cG}{F W M:Nat}{fs:List Str}{ws:List (Str × List Fr)}{i:Nat}{x:Str × List Fr}(h1:bQ H (lN fs ws) t)(h2:qA K H es r)(h3:dB F W M es)(h4:eU F W M)(h5:ws[i]?=some x)(h6:dX F x.2)
  (k:∀D ys H',H D=none->H' D=some (.lst ys)->Paired (vP K H') (came F es x.2) ys->aW H H'->Q (.ref D) H'):gM K [t,r,.int (i:Int)] H Q E:=by
 unfold gM;exact ⟨t,r,es,F,W,M,fs,ws,i,x,rfl,h1,h2,h3,h4,h5,h6,k⟩
section
theorem aDZ(F:gH K "comings" "comings" aAd f fd)(T:iV K mg c)(FQ13:eF cR P w K mg base 3 "amounts" ["rule"] (iM K))(FQ53:eF cR P w K mg base 2 "times" ["one","other"] (gL K))(FQ59:eF cR P w K mg base 3 "weight" ["trial","way","counts"] (lS K)):dA P w K mg base cR 4 f fd ["trial","rule","way"] (gM K):=by
 refine F.oky WT λvs H Q E h=>?_;unfold gM at h;obtain ⟨t,r,es,F,W,M,fs,ws,iw,x,rfl,rt,rr,RO,Z,hx,hsy,k⟩:=h;refine ⟨rfl,λcdv A outer s hr=>?_⟩;have rr0:=rr;obtain ⟨a,xs,rfl,ha,rxs⟩:=rr;have hF:2<=F/\F<=4:=by have:=Z.f;omega
 have lx:xs.length=es.length:=rxs.length.symm;have les:=RO.len;refine ⟨_,(aU (bV (i:=3) WT.nd rfl (Or.inl rfl) (eW aE))
  (aU (iJ PassesOwn.never rfl (MH true true rfl T.b_zip (aI (aJ 1) (aI (bJ FQ13 (hr.mono Dd) (aI (aJ 1) aE)) aE))) (qK rfl (eR (dP (i:=4) WT.nd rfl (Or.inl rfl)) (eR (dP (i:=5) WT.nd rfl (Or.inl rfl)) mR))) (bB (jR (vT PySem.F.plainAttrs_list PySem.F.slot_list_append PySem.F.type_list_append AW (aJ 3) (aI (dN (aI (cC bY (aJ 4) aN (λ_ _=>rfl)) (aI (cC bY (aJ 4) aN (λ_ _=>rfl)) (aI (bJ FQ53 (hr.mono Dd) (aI (cC bY (aJ 5) aN (λ_ _=>rfl)) (aI (bJ FQ59 (hr.mono Dd) (aI (aJ 0) (aI (aJ 2) (aI (cC bY (aJ 4) aN (λ_ _=>rfl)) aE)))) aE))) aE)))) aE)))))
  (bB (bR (aJ 3))))),?_⟩
 refine wJ (by show 0<=64;decide) λL H1 hL e1 s1=>?_;refine ⟨_,rfl,_,rfl,?_⟩;refine iY (rr0.same s1) RO Z λam ys H2 s2 e2 k2 _=>?_;have ly:ys.length=es.length:=by
  have:=cX.length k2;unfold uF at this;rw [this,aA]
 refine ⟨a,am,xs,ys,rfl,s2 _ _ (s1 _ _ ha),e2,?_⟩;refine IC (xs:=xs) (ys:=ys) (λi σ H'=>∃(o4 o5:Option V) (zs:List V),σ=[some t,some (.ref a),some (.int (iw:Int)),some (.ref L),o4,o5]/\aS L H2 H'/\H' L=some (.lst zs)/\Paired (vP K H') ((came F es x.2).take i) zs) ⟨_,_,[],rfl,(aW.refl _).but,s2 _ _ e1,.nil⟩ (λi σ H' ⟨_,_,_,_,b',_⟩=>?_) ?_ ?_
 ·have na:a≠L:=λz=>by rw [z,hL] at ha;cases ha
  have nam:am≠L:=λz=>by rw [z,s2 _ _ e1] at e2;cases e2
  exact ⟨b'.at na (s2 _ _ (s1 _ _ ha)),b'.at nam e2⟩
 ·rintro i y z q3 σ H3 H4 hy hz ⟨o4,o5,zs,rfl,b3,e3,r3⟩ hq3 e4 s4;have hi:i<es.length:=by rw [<-lx];exact (aY.mp hy).1
  obtain ⟨e,he,re⟩:=eG rxs hy;have hee:=bD he;obtain ⟨hel,henn,hes,hsye⟩:=RO.each e hee;have t23:=b3.t (s2 _ _ e1);have t24:=t23.trans s4.t;have t04:=(s1.trans s2).t.trans t24;obtain ⟨b,u,v,rfl,hb,ru,rv⟩:=xK.same s4 (xK.but b3 (s2 _ _ e1) (xK.same (s1.trans s2) re));obtain ⟨e',he',rk⟩:=cX.atI (g:=λe:cG=>.tuple [fG e.1,fM (lw (Wc F (gO es) e.1) (NN^e.1.sum.toNat))]) k2 hz;rw [he] at he';cases he';obtain ⟨az,u2,x2,rfl,hq2,_,rx2⟩:=dU.pr rk;have nq:dO K H4 az [u2,x2]:=(dO.butL b3 (s2 _ _ e1) hq2).keep s4;have fx:fU K H4 (amf F es e.1) x2:=(fU.butL b3 (s2 _ _ e1) (dU.fr rx2)).same s4;obtain ⟨cu,rfl,hcu⟩:=fS ru;have rt4:bQ H4 (lN fs ws) t:=rt.flat t04 (kN fs ws);have hs4:=(EH RO Z (aK.mpr ⟨e,hee,rfl⟩)).1;have e4L:H4 L=some (.lst zs):=s4 _ _ e3;have lz:zs.length<=i:=by
   rw [<-r3.length,dE];omega
  refine ⟨q3,_,rfl,dO.of e4,rfl,_,_,rfl,_,_,rfl,rfl,?_⟩;refine ⟨_,rfl,SO e4L,_,rfl,?_⟩;refine lK hb rfl ?_;refine ⟨_,rfl,?_⟩;refine lK hb rfl ?_;refine ⟨_,rfl,?_⟩;refine sP nq rfl ?_;refine ⟨_,rfl,_,rfl,_,rfl,?_⟩;refine lK hb rfl ?_;have bok:BOk 10 x.2:=by
   have:=hsy.sz Oo;refine ⟨λf hf=>(hsy.each Oo f hf).low,λf hf=>?_,λf hf=>?_⟩
   ·have h1:=hsy.each Oo f hf;have:=h1.nn;have:=h1.le;have:=h1.d35;show f.1.natAbs<=1024;omega
   ·have h1:=hsy.each Oo f hf;have:=h1.pos;have:=h1.d35;show f.2.natAbs<=1024;omega
  refine CB rt4 hx (cs:=cN e.1) (by rw [<-YL henn];exact ru) bok (by rw [BH henn];omega) λxw H5 s5 fw=>?_;have wfk:=MG hsy Oo hel henn;have afk:=QZ RO Z hee;refine iL (fx.same s5) fw afk.low wfk.low ((afk.sz Oo Dd).mono) ((wfk.sz Oo Dd).mono) λq6 H6 hq6 e6 s6=>?_;refine qO (by show 3<=64;decide) λq7 H7 hq7 e7 s7=>?_;have s47:=(s5.trans s6).trans s7;refine WY (s47 _ _ e4L) Oo λH8 e8 b8=>?_;have t78:=b8.t (s47 _ _ e4L);refine ⟨_,_,zs++[.ref q7],rfl,(b3.trans (s4.trans s47).but).trans b8,e8,?_⟩;have ec:(came F es x.2)[i]?=some (e,gJ (amf F es e.1) (LZ x.2 e.1)):=by unfold came;rw [aC,he];rfl
  rw [yB ec];have en:vP K H7 (e,gJ (amf F es e.1) (LZ x.2 e.1)) (.ref q7):=⟨q7,_,_,_,rfl,e7,ru.same s47,rv.same s47,gR (s7 _ _ e6)⟩;exact Paired.imp' (λ_ _ r=>vP.but b8 (s47 _ _ e4L) r) (qF (Paired.imp' (λ_ _ r=>vP.same (s4.trans s47) r) r3) (.cons en .nil))
 ·rintro σ H3 ⟨o4,o5,zs,rfl,b3,e3,r3⟩;refine ⟨_,rfl,?_⟩;have hc:(came F es x.2).take (min xs.length ys.length)=came F es x.2:=List.take_of_length_le (by unfold came;rw [aA];omega);rw [hc] at r3;exact k L zs H3 hL e3 r3 (aW.thru hL (s1.trans s2) b3)
end
def hZ(qs:List (cG × Fr))(i:Nat):Fr:=nX (qs.map λq=>gJ q.2 (q.1.2.getD (1+i) (0,1)))
def RS(q:cG × Fr):Bool:=decide (0<(hd q.1.2).1)
def onw(qs:List (cG × Fr)):List (Int × Fr):=(qs.filter RS).map λq=>(q.1.1.sum,gJ q.2 (hd q.1.2))
abbrev onD(o:Int × Fr):PyData:=.tuple [.int o.1,fM o.2]
def spF(cs:List Fr)(os:List (Int × Fr)):Fr:=nX (os.map λo=>gJ (cs.getD o.1.toNat (0,1)) o.2)
theorem tR{fs:List Fr}{i:Nat}(h:i<fs.length):fs.getD i (0,1)∈fs:=by
 rw [aF,aD h];exact List.getElem_mem h
theorem uN.say{W M:Nat}{qs:List (cG × Fr)}(h:uN W M qs)(hW:W<=4){q:cG × Fr}(hq:q∈qs){i:Nat}(hi:i<W):vO (q.1.2.getD (1+i) (0,1)):=by
 have sy:=h.sy q hq;exact sy.each Oo _ (tR (by rw [sy.len];omega))
theorem uN.hd{W M:Nat}{qs:List (cG × Fr)}(h:uN W M qs)(hW:W<=4){q:cG × Fr}(hq:q∈qs):vO (Kw.hd q.1.2):=(h.sy q hq).hd hW
theorem AO{W M:Nat}{qs:List (cG × Fr)}(h:uN W M qs)(hW:W<=4){i:Nat}(hi:i<W):∀f∈qs.map λq=>gJ q.2 (q.1.2.getD (1+i) (0,1)),Fk 9 256 f:=λf hf=>by
 obtain ⟨q,hq,rfl⟩:=aK.mp hf;exact (h.fk q hq).mul (h.say hW hq hi).fk
theorem NR{W M:Nat}{qs:List (cG × Fr)}(h:uN W M qs)(hW:W<=4){i:Nat}(hi:i<W):Fk 9 16384 (hZ qs i):=by
 have t:=Fk.tot _ (AO h hW hi);refine t.le ?_;rw [aA];exact Nat.mul_le_mul h.len (aM 256)
structure aCJ(M:Nat)(os:List (Int × Fr)):Prop where
 fk:∀o∈os,Fk 9 256 o.2
 sm:∀o∈os,0<=o.1/\o.1<(M:Int)
 len:os.length<=64
theorem AT{W M:Nat}{qs:List (cG × Fr)}(h:uN W M qs)(hW:W<=4):aCJ M (onw qs):=by
 refine ⟨λo ho=>?_,λo ho=>?_,?_⟩
 ·obtain ⟨q,hq,rfl⟩:=aK.mp ho;have hq:=(dI.mp hq).1;exact (h.fk q hq).mul (h.hd hW hq).fk
 ·obtain ⟨q,hq,rfl⟩:=aK.mp ho;obtain ⟨hq,hp⟩:=dI.mp hq;have:=h.sm q hq;exact ⟨this.1,this.2 (of_decide_eq_true hp)⟩
 ·unfold onw;rw [aA];exact bG (List.length_filter_le ..) h.len
structure vD(M:Nat)(cs:List Fr):Prop where
 fk:∀f∈cs,Fk 1 999 f
 len:M<=cs.length
theorem XU{M:Nat}{os:List (Int × Fr)}{cs:List Fr}(h:aCJ M os)(hc:vD M cs):∀f∈os.map λo=>gJ (cs.getD o.1.toNat (0,1)) o.2,Fk 10 255744 f:=λf hf=>by
 obtain ⟨o,ho,rfl⟩:=aK.mp hf;have:=h.sm o ho;have h1:=hc.fk _ (tR (fs:=cs) (i:=o.1.toNat) (by have:=hc.len;omega));have:=h1.mul (h.fk o ho);exact this
theorem EK.ofP{K:PySem.W.Frag}{H:Hp}{α:Type}{g:α->Fr}{as:List α}{ys:List V}(h:Paired (λa y=>bQ H (fM (g a)) y) as ys):EK K H (as.map g) ys:=⟨by rw [aA,h.length],λi x e=>by
 obtain ⟨a,h1,h2⟩:=eG h e;exact ⟨g a,by rw [aC,h1];rfl,fU.of h2⟩⟩
theorem iN{α:Type}(l:List α):l.filter (λ_=>true)=l:=List.filter_eq_self.mpr λ_ _=>rfl
@[irreducible] def jM(K:PySem.W.Frag):Sp:=λvs H Q _=>∃(D:Addr) (xs:List V) (qs:List (cG × Fr)) (i W M:Nat),vs=[.ref D,.int (i:Int)]/\H D=some (.lst xs)/\Paired (vP K H) qs xs/\uN W M qs/\W<=4/\i<W/\∀v H',aW H H'->bQ H' (fM (hZ qs i)) v->Q v H'
theorem rA{K:PySem.W.Frag}{H:Hp}{Q:VK}{E:XK}{D:Addr}{xs:List V}{qs:List (cG × Fr)}{i W M:Nat}(h1:H D=some (.lst xs))(h2:Paired (vP K H) qs xs)(h3:uN W M qs)(h4:W<=4)(h5:i<W)(k:∀v H',aW H H'->bQ H' (fM (hZ qs i)) v->Q v H'):jM K [.ref D,.int (i:Int)] H Q E:=by
 unfold jM;exact ⟨D,xs,qs,i,W,M,rfl,h1,h2,h3,h4,h5,k⟩
@[irreducible] def jN(K:PySem.W.Frag):Sp:=λvs H Q _=>∃(t r:V) (es:List cG) (F W M:Nat) (fs:List Str) (ws:List (Str × List Fr)) (i:Nat) (x:Str × List Fr),vs=[t,r,.int (i:Int)]/\bQ H (lN fs ws) t/\qA K H es r/\dB F W M es/\eU F W M/\ws[i]?=some x/\dX F x.2 /\
 ∀D ys H',H D=none->H' D=some (.lst ys)->aX H' ((onw (came F es x.2)).map onD) ys->aW H H'->Q (.ref D) H'
theorem rE{K:PySem.W.Frag}{H:Hp}{Q:VK}{E:XK}{t r:V}{es:List cG}{F W M:Nat}{fs:List Str}{ws:List (Str × List Fr)}{i:Nat}{x:Str × List Fr}(h1:bQ H (lN fs ws) t)(h2:qA K H es r)(h3:dB F W M es)(h4:eU F W M)(h5:ws[i]?=some x)(h6:dX F x.2)
  (k:∀D ys H',H D=none->H' D=some (.lst ys)->aX H' ((onw (came F es x.2)).map onD) ys->aW H H'->Q (.ref D) H'):jN K [t,r,.int (i:Int)] H Q E:=by
 unfold jN;exact ⟨t,r,es,F,W,M,fs,ws,i,x,rfl,h1,h2,h3,h4,h5,h6,k⟩
theorem xW.at{F W:Nat}{fs:List Str}{ws:List (Str × List Fr)}(h:xW F W fs ws){i:Nat}(hi:i<W):ws[i]?=some (ws.getD i ("",[]))/\dX F (ws.getD i ("",[])).2:=by
 have hl:i<ws.length:=by rw [h.w];exact hi
 have e:ws[i]?=some (ws.getD i ("",[])):=by rw [aF,aD hl];rfl
 exact ⟨e,h.sh _ (bD e)⟩
section
theorem aDt(F:gH K "said_of" "said_of" TH f fd)(T:iV K mg c)(FQ54:eF cR P w K mg base 3 "total" ["some"] (fX K))(FQ53:eF cR P w K mg base 2 "times" ["one","other"] (gL K)):dA P w K mg base cR 4 f fd ["came","way"] (jM K):=by
 refine F.oky aEs λvs H Q E h=>?_;unfold jM at h;obtain ⟨D,xs,qs,i,W,M,rfl,hD,rx,ok,hW,hi,k⟩:=h;refine ⟨rfl,λcdv A outer s hr=>?_⟩;refine ⟨_,(bB (bR (bJ FQ54 (hr.mono Dd) (aI (sV (dR.of (psc:=aO TH) (N:=["came","way"]) (xs:=["counts","says","share"]) (N':=["counts","says","share","way"]) (js:=[1]) Kk rfl rfl rfl) (gW (aJ 0)) (λ_ _ _ _=>dG) (λ_ _ _ _=>(bJ FQ53 (hr.mono Dd) (aI (aJ 2) (aI (cC (fE K) (aJ 1) (cT gP aN (aJ 3)) (λ_ _=>rfl)) aE))))) aE)))),?_⟩;refine ⟨_,rfl,D,rfl,⟨_,eZ.of hD⟩,?_⟩;refine mK (λ_=>true) (λq x=>vP K H q x) (λq y H'=>bQ H' (fM (gJ q.2 (q.1.2.getD (1+i) (0,1)))) y) (λq y H1 H2 s r=>r.flat s (gS _)) (by have:=ok.len;omega) hD rx (λx q H' hq rq s'=>?_) (λL ys H1 hL e1 s1 pr=>?_)
 ·obtain ⟨a,u,v,z,rfl,ha,ru,rv,rz⟩:=vP.same s' rq;refine ⟨a,[u,v,z],rfl,dO.of ha,rfl,λQ' h=>h H' (aW.refl _),λH5 Q' s5 _ k'=>?_⟩;obtain ⟨av,vs,rfl,hav,rvs⟩:=rv.same s5;have hl:1+i<q.1.2.length:=by rw [(ok.sy q hq).len];omega
  have hg:q.1.2[1+i]?=some (q.1.2.getD (1+i) (0,1)):=by rw [aF,aD hl];rfl
  obtain ⟨y,hy,ry⟩:=eX rvs hg;have sh:=ok.say hW hq hi;refine ⟨_,rfl,_,rfl,_,rfl,_,_,rfl,rfl,?_⟩;refine lK hav (eE (j:=1+i) hy) ?_;have f8:=ok.fk q hq;refine iL (fU.of (rz.same s5)) ry f8.low sh.low ((f8.sz Dd Dd).mono) ((sh.fk.sz Dd Dd).mono) λq6 H6 hq6 e6 s6=>?_;exact k' _ H6 s6 (gR e6)
 ·rw [iN] at pr;refine mW e1 (EK.ofP pr) (Fk.totOk (AO ok hW hi) Dd (by rw [aA];exact ok.len) Dd) λv H2 s2 r2=>?_;exact k v H2 (s1.trans s2) r2
theorem aDB(F:gH K "onwards" "onwards" TL f fd)(T:iV K mg c)(FQ19:eF cR P w K mg base 4 "comings" ["trial","rule","way"] (gM K))(FQ53:eF cR P w K mg base 2 "times" ["one","other"] (gL K))(FQ38:eF cR P w K mg base 1 "looks_on" ["says"] (jQ K)):dA P w K mg base cR 5 f fd ["trial","rule","way"] (jN K):=by
 refine F.oky aCC λvs H Q E h=>?_;unfold jN at h;obtain ⟨t,r,es,F,W,M,fs,ws,i,x,rfl,rt,rr,RO,Z,hx,hsy,k⟩:=h;refine ⟨rfl,λcdv A outer s hr=>?_⟩;have ok:=jX RO Z hsy;have hW:=Z.w.2;refine ⟨_,(aU (bV (i:=3) aCC.nd rfl (Or.inl rfl) (bJ FQ19 (hr.mono Dd) (aI (aJ 0) (aI (aJ 1) (aI (aJ 2) aE)))))
  (bB (bR (sV (dR.of (psc:=aO TL) (N:=["trial","rule","way","came"]) (xs:=["counts","says","share"]) (N':=["counts","says","share"]) (js:=[]) Kk rfl rfl rfl) (gW (aJ 3)) (λ_ _ _ _=>zV (iX (bJ FQ38 (hr.mono Dd) (aI (aJ 1) aE)))) (λ_ _ _ _=>(dN (aI (dL (sF K rfl) (by rfl) T.b_sum Kk (aI (aJ 0) aE)) (aI (bJ FQ53 (hr.mono Dd) (aI (aJ 2) (aI (cC (fE K) (aJ 1) aN (λ_ _=>rfl)) aE))) aE)))))))),?_⟩
 refine ⟨_,rfl,_,rfl,_,rfl,?_⟩;refine kF rt rr RO Z hx hsy λD xs H1 hD e1 r1 s1=>?_;generalize came F es x.2=qs at ok r1 k;refine ⟨_,rfl,D,rfl,⟨_,eZ.of e1⟩,?_⟩;refine mK RS (λq x=>vP K H1 q x) (λq y H'=>bQ H' (onD (q.1.1.sum,gJ q.2 (Kw.hd q.1.2))) y) (λq y H1 H2 s r=>r.flat s rfl) (by have:=ok.len;omega) e1 r1 (λx q H' hq rq s'=>?_) (λL ys H2 hL e2 s2 pr=>?_)
 ·obtain ⟨a,u,v,z,rfl,ha,ru,rv,rz⟩:=vP.same s' rq;obtain ⟨f0,fr,ef⟩:=(ok.sy q hq).cons;have hd0:Kw.hd q.1.2=f0:=by rw [ef];rfl
  have sh:vO f0:=by rw [<-hd0];exact ok.hd hW hq
  refine ⟨a,[u,v,z],rfl,dO.of ha,rfl,λQ' h=>?_,λH5 Q' s5 _ k'=>?_⟩
  ·refine ⟨_,rfl,?_⟩;refine oO (f:=f0) (fs:=fr) (by rw [<-ef];exact rv) ?_;refine ⟨_,rfl,?_⟩;have:=h H' (aW.refl _);unfold RS at this;rw [hd0] at this;exact this
  ·obtain ⟨cu,rfl,hcu⟩:=fS (ru.same s5);obtain ⟨av,vs,rfl,hav,rvs⟩:=rv.same s5;rw [ef] at rvs;obtain ⟨y,hy,ry⟩:=eX (i:=0) rvs rfl;have f8:=ok.fk q hq;refine ⟨_,rfl,?_⟩;refine rsT (dO.of hcu) ?_;refine ⟨_,rfl,_,rfl,?_⟩;refine lK hav (eE hy) ?_;refine iL (fU.of (rz.same s5)) ry f8.low sh.low ((f8.sz Dd Dd).mono) ((sh.fk.sz Dd Dd).mono) λq6 H6 hq6 e6 s6=>?_;refine qO (by show 2<=64;decide) λq7 H7 hq7 e7 s7=>?_;refine k' _ H7 (s6.trans s7) (bQ.tup e7 (aX.cons (bQ.int _) (aX.cons ?_ aX.nil)));rw [hd0];exact gR (s7 _ _ e6)
 ·refine k L ys H2 (s1.free hL) e2 ?_ (s1.trans s2);unfold onw;rw [List.map_map];exact Paired.toRepL pr
end
abbrev ZR:Stmt:=(top 38)
theorem aEz:bK ["rule"] ["rule"] (aO ZR):=⟨rfl,rfl,rfl,Kk,rfl,Kk,Kk⟩
abbrev TJ:Stmt:=(top 54)
theorem aCz:bK ["trial","rule","way","came"] ["trial","rule","way"] (aO TJ):=⟨rfl,rfl,rfl,Kk,rfl,Kk,Kk⟩
abbrev TX:Stmt:=(top 56)
theorem aCD:bK ["trial","rule","way","came"] ["trial","rule","way"] (aO TX):=⟨rfl,rfl,rfl,Kk,rfl,Kk,Kk⟩
abbrev TW:Stmt:=(top 57)
theorem aEN:bK ["came","looks"] ["came","looks"] (aO TW):=⟨rfl,rfl,rfl,Kk,rfl,Kk,Kk⟩
abbrev TY:Stmt:=(top 59)
theorem aEP:bK ["trial","rule","way"] ["trial","rule","way"] (aO TY):=⟨rfl,rfl,rfl,Kk,rfl,Kk,Kk⟩
def qC(qs:List (cG × Fr))(n:Nat):Fr:=nX ((qs.filter λq=>decide (q.1.1.sum=(n:Int))).map λq=>gJ q.2 (nY (1,1) (wK (hd q.1.2))))
def avF(os:List (Int × Fr)):Fr:=nX (os.map λo=>o.2)
theorem QB{W M:Nat}{qs:List (cG × Fr)}(h:uN W M qs)(hW:W<=4)(n:Nat):∀f∈(qs.filter λq=>decide (q.1.1.sum=(n:Int))).map λq=>gJ q.2 (nY (1,1) (wK (Kw.hd q.1.2))),Fk 9 512 f:=λf hf=>by
 obtain ⟨q,hq,rfl⟩:=aK.mp hf;have hq:=(dI.mp hq).1;exact (h.fk q hq).mul ((Fk.one 1).add (h.hd hW hq).fk.neg)
@[irreducible] def rB(K:PySem.W.Frag):Sp:=λvs H Q _=>∃(t r:V) (es:List cG) (F W M:Nat) (fs:List Str) (ws:List (Str × List Fr)) (i:Nat) (x:Str × List Fr),vs=[t,r,.int (i:Int)]/\bQ H (lN fs ws) t/\qA K H es r/\dB F W M es/\eU F W M/\xW F W fs ws/\ws[i]?=some x/\dX F x.2 /\
 ∀v H',aW H H'->bQ H' (lO ((List.range W).map λj=>hZ (came F es x.2) j)) v->Q v H'
theorem JJ{K:PySem.W.Frag}{H:Hp}{Q:VK}{E:XK}{t r:V}{es:List cG}{F W M:Nat}{fs:List Str}{ws:List (Str × List Fr)}{i:Nat}{x:Str × List Fr}(h1:bQ H (lN fs ws) t)(h2:qA K H es r)(h3:dB F W M es)(h4:eU F W M)(h0:xW F W fs ws)(h5:ws[i]?=some x)(h6:dX F x.2)
  (k:∀v H',aW H H'->bQ H' (lO ((List.range W).map λj=>hZ (came F es x.2) j)) v->Q v H'):rB K [t,r,.int (i:Int)] H Q E:=by
 unfold rB;exact ⟨t,r,es,F,W,M,fs,ws,i,x,rfl,h1,h2,h3,h4,h0,h5,h6,k⟩
@[irreducible] def fY(K:PySem.W.Frag):Sp:=λvs H Q _=>∃(D:Addr) (xs:List V) (qs:List (cG × Fr)) (n W M:Nat),vs=[.ref D,.int (n:Int)]/\H D=some (.lst xs)/\Paired (vP K H) qs xs/\uN W M qs/\W<=4/\∀v H',aW H H'->bQ H' (fM (qC qs n)) v->Q v H'
theorem rK{K:PySem.W.Frag}{H:Hp}{Q:VK}{E:XK}{D:Addr}{xs:List V}{qs:List (cG × Fr)}{n W M:Nat}(h1:H D=some (.lst xs))(h2:Paired (vP K H) qs xs)(h3:uN W M qs)(h4:W<=4)(k:∀v H',aW H H'->bQ H' (fM (qC qs n)) v->Q v H'):fY K [.ref D,.int (n:Int)] H Q E:=by
 unfold fY;exact ⟨D,xs,qs,n,W,M,rfl,h1,h2,h3,h4,k⟩
@[irreducible] def jP(K:PySem.W.Frag):Sp:=λvs H Q _=>∃(x:V) (es:List cG) (e:cG),vs=[x]/\qA K H es x/\es.getLast?=some e/\Q (.int e.1.sum) H
theorem mY{K:PySem.W.Frag}{H:Hp}{Q:VK}{E:XK}{x:V}{es:List cG}{e:cG}(h1:qA K H es x)(h2:es.getLast?=some e)(k:Q (.int e.1.sum) H):jP K [x] H Q E:=by
 unfold jP;exact ⟨x,es,e,rfl,h1,h2,k⟩
@[irreducible] def oS(K:PySem.W.Frag):Sp:=λvs H Q _=>∃(t r:V) (es:List cG) (F W M L:Nat) (fs:List Str) (ws:List (Str × List Fr)) (i:Nat) (x:Str × List Fr) (e:cG),vs=[t,r,.int (i:Int)]/\bQ H (lN fs ws) t/\qA K H es r/\dB F W M es/\eU F W M/\ws[i]?=some x/\dX F x.2/\es.getLast?=some e/\e.1.sum=(L:Int)/\L<=4 /\
 ∀v H',aW H H'->bQ H' (lO ((List.range (L+1)).map λn=>qC (came F es x.2) n)) v->Q v H'
theorem FH{K:PySem.W.Frag}{H:Hp}{Q:VK}{E:XK}{t r:V}{es:List cG}{F W M L:Nat}{fs:List Str}{ws:List (Str × List Fr)}{i:Nat}{x:Str × List Fr}{e:cG}(h1:bQ H (lN fs ws) t)(h2:qA K H es r)(h3:dB F W M es)(h4:eU F W M)(h5:ws[i]?=some x)(h6:dX F x.2)(h7:es.getLast?=some e)(h8:e.1.sum=(L:Int))(h9:L<=4)
  (k:∀v H',aW H H'->bQ H' (lO ((List.range (L+1)).map λn=>qC (came F es x.2) n)) v->Q v H'):oS K [t,r,.int (i:Int)] H Q E:=by
 unfold oS;exact ⟨t,r,es,F,W,M,L,fs,ws,i,x,e,rfl,h1,h2,h3,h4,h5,h6,h7,h8,h9,k⟩
@[irreducible] def kU(K:PySem.W.Frag):Sp:=λvs H Q _=>∃(t r:V) (es:List cG) (F W M:Nat) (fs:List Str) (ws:List (Str × List Fr)) (i:Nat) (x:Str × List Fr),vs=[t,r,.int (i:Int)]/\bQ H (lN fs ws) t/\qA K H es r/\dB F W M es/\eU F W M/\ws[i]?=some x/\dX F x.2 /\
 ∀v H',aW H H'->bQ H' (fM (avF (onw (came F es x.2)))) v->Q v H'
theorem AH{K:PySem.W.Frag}{H:Hp}{Q:VK}{E:XK}{t r:V}{es:List cG}{F W M:Nat}{fs:List Str}{ws:List (Str × List Fr)}{i:Nat}{x:Str × List Fr}(h1:bQ H (lN fs ws) t)(h2:qA K H es r)(h3:dB F W M es)(h4:eU F W M)(h5:ws[i]?=some x)(h6:dX F x.2)
  (k:∀v H',aW H H'->bQ H' (fM (avF (onw (came F es x.2)))) v->Q v H'):kU K [t,r,.int (i:Int)] H Q E:=by
 unfold kU;exact ⟨t,r,es,F,W,M,fs,ws,i,x,rfl,h1,h2,h3,h4,h5,h6,k⟩
section
theorem aDF(F:gH K "most_of" "most_of" ZR f fd)(T:iV K mg c):dA P w K mg base cR 1 f fd ["rule"] (jP K):=by
 refine F.oky aEz λvs H Q E h=>?_;unfold jP at h;obtain ⟨x,es,e,rfl,rx,he,k⟩:=h;refine ⟨rfl,λcdv A outer s hr=>?_⟩;obtain ⟨a,xs,rfl,ha,rxs⟩:=rx;have he':es[es.length-1]?=some e:=by rw [<-List.getLast?_eq_getElem?];exact he
 have hl:0<es.length:=by
  rcases Nat.eq_zero_or_pos es.length with h | h
  ·rw [List.length_eq_zero_iff.mp h] at he;cases he
  ·exact h
 obtain ⟨z,hz,rz⟩:=eX rxs he';obtain ⟨b,u,v,rfl,hb,ru,rv⟩:=rz;obtain ⟨cu,rfl,hcu⟩:=fS ru;have lx:xs.length=es.length:=rxs.length.symm;refine ⟨_,(bB (bR (dL (sF K rfl) (by rfl) T.b_sum Kk (aI (cC bY (cC bY (aJ 0) (XH MV aN) (λ_ _=>rfl)) aN (λ_ _=>rfl)) aE)))),?_⟩;refine ⟨_,rfl,_,rfl,?_⟩;refine lK ha (v:=.ref b) ?_ ?_
 ·have hix:GD xs.length (-1)=some (es.length-1):=by
   unfold GD;rw [if_neg Dd];rw [if_pos Oo];congr 1;omega
  unfold EE;rw [hix];exact hz
 refine lK hb rfl ?_;refine rsT (dO.of hcu) ?_;exact k
theorem aDu(F:gH K "said" "said" TJ f fd)(T:iV K mg c)(FQ19:eF cR P w K mg base 4 "comings" ["trial","rule","way"] (gM K))(FQ51:eF cR P w K mg base 4 "said_of" ["came","way"] (jM K))(FQ57:eF cR P w K mg base 1 "ways_of" ["trial"] jK):dA P w K mg base cR 5 f fd ["trial","rule","way"] (rB K):=by
 refine F.oky aCz λvs H Q E h=>?_;unfold rB at h;obtain ⟨t,r,es,F,W,M,fs,ws,i,x,rfl,rt,rr,RO,Z,TT,hx,hsy,k⟩:=h;refine ⟨rfl,λcdv A outer s hr=>?_⟩;have ok:=jX RO Z hsy;have hW:=Z.w;have lw':=TT.w;refine ⟨_,(aU (bV (i:=3) aCz.nd rfl (Or.inr rfl) (bJ FQ19 (hr.mono Dd) (aI (aJ 0) (aI (aJ 1) (aI (aJ 2) aE)))))
  (bB (bR (hJ cJ (by rfl) T.b_tuple Kk (aI (eD (dJ.of (psc:=aO TJ) (N:=["trial","rule","way","came"]) (N':=["other","came"]) (js:=[3]) Kk rfl rfl rfl) (dW rfl T.b_range (aI (bJ FQ57 (hr.mono Dd) (aI (aJ 0) aE)) aE)) (λ_ _ _ _=>dG) (λ_ _ _ _=>(bJ FQ51 (hr.mono Dd) (aI (aJ 1) (aI (aJ 0) aE))))) aE))))),?_⟩
 refine ⟨_,rfl,_,rfl,_,rfl,?_⟩;refine kF rt rr RO Z hx hsy λD xs H1 hD e1 r1 s1=>?_;generalize came F es x.2=qs at ok r1 k;refine ⟨_,rfl,?_⟩;refine oG (rt.same s1) ?_;refine ⟨_,rfl,Oo,Oo,?_⟩;refine kJ (λj y H'=>j<W/\bQ H' (fM (hZ qs j)) y) (λj y H1 H2 s ⟨h1,h2⟩=>⟨h1,h2.flat s (gS _)⟩) Oo (λj H' Q' hj s' k'=>?_) (λL ys H2 hL e2 s2 hy hr2=>?_)
 ·rw [show (0:Int)+(j:Int)=(j:Int) by omega];refine ⟨_,rfl,_,rfl,?_⟩;refine rA (s' _ _ e1) (Paired.imp' (λ_ _ r=>vP.same s' r) r1) ok hW.2 Oo λv H3 s3 r3=>?_;exact k' _ H3 s3 ⟨Oo,r3⟩
 ·refine ⟨L,ys,rfl,.inl ⟨eZ.of e2,λl hl=>?_⟩⟩;have sl:=aW.upd (o:=.tup ys) hl;refine k _ _ ((s1.trans s2).trans sl) (bQ.tup bE (aX.ofIdx (by rw [hy,aA,aA,bO];omega) λj y hj=>?_));obtain ⟨h1,h2⟩:=hr2 j y hj;exact ⟨_,by rw [aC,aC,cO h1];rfl,h2.same sl⟩
theorem aDU(F:gH K "ended_behind" "ended_behind" TW f fd)(T:iV K mg c)(FQ54:eF cR P w K mg base 3 "total" ["some"] (fX K))(FQ53:eF cR P w K mg base 2 "times" ["one","other"] (gL K))(FQ37:eF cR P w K mg base 3 "less" ["one","other"] (lW K)):dA P w K mg base cR 4 f fd ["came","looks"] (fY K):=by
 refine F.oky aEN λvs H Q E h=>?_;unfold fY at h;obtain ⟨D,xs,qs,n,W,M,rfl,hD,rx,ok,hW,k⟩:=h;refine ⟨rfl,λcdv A outer s hr=>?_⟩;refine ⟨_,(bB (bR (bJ FQ54 (hr.mono Dd) (aI (sV (dR.of (psc:=aO TW) (N:=["came","looks"]) (xs:=["counts","says","share"]) (N':=["counts","says","share","looks"]) (js:=[1]) Kk rfl rfl rfl) (gW (aJ 0)) (λ_ _ _ _=>zV (fP qH (dL (sF K rfl) (by rfl) T.b_sum Kk (aI (aJ 0) aE)) (aJ 3) (nomark _))) (λ_ _ _ _=>(bJ FQ53 (hr.mono Dd) (aI (aJ 2) (aI (bJ FQ37 (hr.mono Dd) (aI (lG (v:=.ref c.ONE) rfl T.g_ONE rfl) (aI (cC (fE K) (aJ 1) aN (λ_ _=>rfl)) aE))) aE))))) aE)))),?_⟩;refine ⟨_,rfl,D,rfl,⟨_,eZ.of hD⟩,?_⟩;refine mK (λq=>decide (q.1.1.sum=(n:Int))) (λq x=>vP K H q x) (λq y H'=>bQ H' (fM (gJ q.2 (nY (1,1) (wK (Kw.hd q.1.2))))) y) (λq y H1 H2 s r=>r.flat s (gS _)) (by have:=ok.len;omega) hD rx (λx q H' hq rq s'=>?_) (λL ys H1 hL e1 s1 pr=>?_)
 ·obtain ⟨a,u,v,z,rfl,ha,ru,rv,rz⟩:=vP.same s' rq;obtain ⟨cu,rfl,hcu⟩:=fS ru;refine ⟨a,[.ref cu,v,z],rfl,dO.of ha,rfl,λQ' h=>?_,λH5 Q' s5 _ k'=>?_⟩
  ·refine ⟨_,rfl,?_⟩;refine rsT (dO.of hcu) ?_;refine ⟨_,rfl,rfl,_,rfl,?_⟩;have:=h H' (aW.refl _);have e:decide (V.int q.1.1.sum=V.int (n:Int))=decide (q.1.1.sum=(n:Int)):=by
    rw [decide_eq_decide];exact ⟨λh=>by injection h,λh=>by rw [h]⟩
   rw [<-e] at this;exact this
  ·obtain ⟨f0,fr,ef⟩:=(ok.sy q hq).cons;have hd0:Kw.hd q.1.2=f0:=by rw [ef];rfl
   have sh:vO f0:=by rw [<-hd0];exact ok.hd hW hq
   obtain ⟨av,vs,rfl,hav,rvs⟩:=rv.same s5;rw [ef] at rvs;obtain ⟨y,hy,ry⟩:=eX (i:=0) rvs rfl;have f8:=ok.fk q hq;have l1:=(Fk.one 1).add sh.fk.neg;have hone:fU K H5 (1,1) (.ref c.ONE):=⟨c.ONE,rfl,kO T.o_ONE⟩;refine ⟨_,rfl,_,rfl,?_⟩;refine lK hav (eE hy) ?_;refine wA hone ry (Fk.one 0).low sh.low (((Fk.one 0).sz Dd Dd).mono) ((sh.fk.sz Dd Dd).mono) λq6 H6 hq6 e6 s6=>?_;refine iL (fU.of ((rz.same s5).same s6)) (fU.new e6) f8.low l1.low ((f8.sz Dd Dd).mono) ((l1.sz Dd Dd).mono) λq7 H7 hq7 e7 s7=>?_;rw [<-hd0] at e7;exact k' _ H7 (s6.trans s7) (gR e7)
 ·refine mW e1 (EK.ofP pr) (Fk.totOk (QB ok hW n) Dd (by rw [aA];exact bG (List.length_filter_le ..) ok.len) Dd) λv H2 s2 r2=>?_;exact k v H2 (s1.trans s2) r2
theorem aDV(F:gH K "ended" "ended" TX f fd)(T:iV K mg c)(FQ19:eF cR P w K mg base 4 "comings" ["trial","rule","way"] (gM K))(FQ24:eF cR P w K mg base 4 "ended_behind" ["came","looks"] (fY K))(FQ39:eF cR P w K mg base 1 "most_of" ["rule"] (jP K)):dA P w K mg base cR 5 f fd ["trial","rule","way"] (oS K):=by
 refine F.oky aCD λvs H Q E h=>?_;unfold oS at h;obtain ⟨t,r,es,F,W,M,L,fs,ws,i,x,e,rfl,rt,rr,RO,Z,hx,hsy,he,hL,hL4,k⟩:=h;refine ⟨rfl,λcdv A outer s hr=>?_⟩;have ok:=jX RO Z hsy;have hW:=Z.w;refine ⟨_,(aU (bV (i:=3) aCD.nd rfl (Or.inr rfl) (bJ FQ19 (hr.mono Dd) (aI (aJ 0) (aI (aJ 1) (aI (aJ 2) aE)))))
  (bB (bR (hJ cJ (by rfl) T.b_tuple Kk (aI (eD (dJ.of (psc:=aO TX) (N:=["trial","rule","way","came"]) (N':=["looks","came"]) (js:=[3]) Kk rfl rfl rfl) (dW rfl T.b_range (aI (cT gP (bJ FQ39 (hr.mono Dd) (aI (aJ 1) aE)) aN) aE)) (λ_ _ _ _=>dG) (λ_ _ _ _=>(bJ FQ24 (hr.mono Dd) (aI (aJ 1) (aI (aJ 0) aE))))) aE))))),?_⟩
 refine ⟨_,rfl,_,rfl,_,rfl,?_⟩;refine kF rt rr RO Z hx hsy λD xs H1 hD e1 r1 s1=>?_;generalize came F es x.2=qs at ok r1 k;refine ⟨_,rfl,?_⟩;refine mY (rr.same s1) he ?_;rw [hL];refine ⟨_,_,rfl,rfl,_,rfl,Oo,Oo,?_⟩;refine kJ (λj y H'=>j<L+1/\bQ H' (fM (qC qs j)) y) (λj y H1 H2 s ⟨h1,h2⟩=>⟨h1,h2.flat s (gS _)⟩) Oo (λj H' Q' hj s' k'=>?_) (λLL ys H2 hL e2 s2 hy hr2=>?_)
 ·rw [show (0:Int)+(j:Int)=(j:Int) by omega];refine ⟨_,rfl,_,rfl,?_⟩;refine rK (s' _ _ e1) (Paired.imp' (λ_ _ r=>vP.same s' r) r1) ok hW.2 λv H3 s3 r3=>?_;exact k' _ H3 s3 ⟨Oo,r3⟩
 ·refine ⟨LL,ys,rfl,.inl ⟨eZ.of e2,λl hl=>?_⟩⟩;have sl:=aW.upd (o:=.tup ys) hl;refine k _ _ ((s1.trans s2).trans sl) (bQ.tup bE (aX.ofIdx (by rw [hy,aA,aA,bO];omega) λj y hj=>?_));obtain ⟨h1,h2⟩:=hr2 j y hj;exact ⟨_,by rw [aC,aC,cO h1];rfl,h2.same sl⟩
theorem aD1(F:gH K "average" "average" TY f fd)(T:iV K mg c)(FQ54:eF cR P w K mg base 3 "total" ["some"] (fX K))(FQ43:eF cR P w K mg base 5 "onwards" ["trial","rule","way"] (jN K)):dA P w K mg base cR 6 f fd ["trial","rule","way"] (kU K):=by
 refine F.oky aEP λvs H Q E h=>?_;unfold kU at h;obtain ⟨t,r,es,F,W,M,fs,ws,i,x,rfl,rt,rr,RO,Z,hx,hsy,k⟩:=h;refine ⟨rfl,λcdv A outer s hr=>?_⟩;have ok:=AT (jX RO Z hsy) Z.w.2;refine ⟨_,(bB (bR (bJ FQ54 (hr.mono Dd) (aI (pE (dR.of (psc:=aO TY) (N:=["trial","rule","way"]) (xs:=["looks","share"]) (N':=["looks","share"]) (js:=[]) Kk rfl rfl rfl) (gW (bJ FQ43 (hr.mono Dd) (aI (aJ 0) (aI (aJ 1) (aI (aJ 2) aE))))) (λ_ _ _ _=>dG) (λ_ _ _ _=>(aJ 1))) aE)))),?_⟩;refine ⟨_,rfl,_,rfl,_,rfl,?_⟩;refine rE rt rr RO Z hx hsy λD xs H1 hD e1 r1 s1=>?_;generalize onw (came F es x.2)=os at ok r1 k;refine ⟨D,rfl,⟨_,eZ.of e1⟩,?_⟩;refine mK (λ_=>true) (λo x=>bQ H1 (onD o) x) (λo y H'=>bQ H' (fM o.2) y) (λo y H1 H2 s r=>r.flat s (gS _)) (by have:=ok.len;omega) e1 (Paired.ofRepL r1) (λx o H' ho ro s'=>?_) (λL ys H2 hL e2 s2 pr=>?_)
 ·obtain ⟨a,us,rfl,ha,rus⟩:=fQ (ro.same s');obtain ⟨u,z,rfl,ru,rz⟩:=jF rus;refine ⟨a,[u,z],rfl,dO.of ha,rfl,λQ' h=>h H' (aW.refl _),λH5 Q' s5 _ k'=>?_⟩;exact ⟨_,rfl,k' _ H5 (aW.refl _) (rz.same s5)⟩
 ·rw [iN] at pr;refine mW e2 (EK.ofP pr) (Fk.totOk (k:=9) (B:=256) (λf hf=>by obtain ⟨o,ho,rfl⟩:=aK.mp hf;exact ok.fk o ho) Dd (by rw [aA];exact ok.len) Dd) λv H3 s3 r3=>?_;exact k v H3 ((s1.trans s2).trans s3) r3
end
section
variable{F W M:Nat}{es:List cG}{sh:List Fr}
end
section
variable{F W M:Nat}{es:List cG}{sh:List Fr}
end
section
variable{F W M:Nat}{es:List cG}{sh:List Fr}
theorem dB.on(R:dB F W M es){c:List Int}{fs:List Fr}(he:(c,fs)∈es)(hh:hd fs≠(0,1)){j:Nat}(hj:j<F):bump c j∈es.map (·.1)/\(bump c j).sum=c.sum+1:=by
 obtain ⟨h1,h2,h3,hsy⟩:=R.each _ he;have h1:c.length=F:=h1;refine ⟨?_,by rw [vN Oo];exact xB Oo⟩;have hm:bump c j∈nexts c (hd fs):=by
  unfold nexts;rw [if_neg hh];exact aK.mpr ⟨j,bX.mpr Oo,rfl⟩
 rcases R.clo.fwd _ he _ hm with h | h
 ·exact h
 ·cases h
theorem SA(R:dB F W M es):List.replicate F 0∈es.map (·.1):=by
 rcases R.clo.zero with h | h
 ·exact h
 ·cases h
end
@[irreducible] def oH(K:PySem.W.Frag):Sp:=λvs H Q _=>∃(t r cv:V) (es:List cG) (F W M:Nat) (fs:List Str) (ws:List (Str × List Fr)) (i:Nat) (x:Str × List Fr) (cs:List Fr),vs=[t,r,.int (i:Int),cv]/\bQ H (lN fs ws) t/\qA K H es r/\dB F W M es/\eU F W M/\ws[i]?=some x/\dX F x.2/\bQ H (lO cs) cv/\vD M cs /\
 ∀v H',aW H H'->bQ H' (fM (spF cs (onw (came F es x.2)))) v->Q v H'
theorem FA{K:PySem.W.Frag}{H:Hp}{Q:VK}{E:XK}{t r cv:V}{es:List cG}{F W M:Nat}{fs:List Str}{ws:List (Str × List Fr)}{i:Nat}{x:Str × List Fr}{cs:List Fr}(h1:bQ H (lN fs ws) t)(h2:qA K H es r)(h3:dB F W M es)(h4:eU F W M)(h5:ws[i]?=some x)(h6:dX F x.2)(h7:bQ H (lO cs) cv)(h8:vD M cs)
  (k:∀v H',aW H H'->bQ H' (fM (spF cs (onw (came F es x.2)))) v->Q v H'):oH K [t,r,.int (i:Int),cv] H Q E:=by
 unfold oH;exact ⟨t,r,cv,es,F,W,M,fs,ws,i,x,cs,rfl,h1,h2,h3,h4,h5,h6,h7,h8,k⟩
def XF(F:Nat)(es:List cG)(ws:List (Str × List Fr))(i:Nat):Fr:=nY (1,1) (wK (hZ (came F es (ws.getD i ("",[])).2) i))
def wrs(F:Nat)(es:List cG)(ws:List (Str × List Fr)):List Fr:=(List.range ws.length).map (XF F es ws)
@[irreducible] def oF(K:PySem.W.Frag):Sp:=λvs H Q _=>∃(t r:V) (es:List cG) (F W M:Nat) (fs:List Str) (ws:List (Str × List Fr)),vs=[t,r]/\bQ H (lN fs ws) t/\qA K H es r/\dB F W M es/\eU F W M/\xW F W fs ws/\∀v H',aW H H'->bQ H' (lO (wrs F es ws)) v->Q v H'
theorem EZ{K:PySem.W.Frag}{H:Hp}{Q:VK}{E:XK}{t r:V}{es:List cG}{F W M:Nat}{fs:List Str}{ws:List (Str × List Fr)}(h1:bQ H (lN fs ws) t)(h2:qA K H es r)(h3:dB F W M es)(h4:eU F W M)(h5:xW F W fs ws)(k:∀v H',aW H H'->bQ H' (lO (wrs F es ws)) v->Q v H'):oF K [t,r] H Q E:=by
 unfold oF;exact ⟨t,r,es,F,W,M,fs,ws,rfl,h1,h2,h3,h4,h5,k⟩
section
theorem aDs(F:gH K "spent" "spent" TD f fd)(T:iV K mg c)(FQ54:eF cR P w K mg base 3 "total" ["some"] (fX K))(FQ53:eF cR P w K mg base 2 "times" ["one","other"] (gL K))(FQ43:eF cR P w K mg base 5 "onwards" ["trial","rule","way"] (jN K)):dA P w K mg base cR 6 f fd ["trial","rule","way","costs"] (oH K):=by
 refine F.oky aEr λvs H Q E h=>?_;unfold oH at h;obtain ⟨t,r,cv,es,F,W,M,fs,ws,i,x,cs,rfl,rt,rr,RO,Z,hx,hsy,rc,hc,k⟩:=h;refine ⟨rfl,λcdv A outer s hr=>?_⟩;have ok:=AT (jX RO Z hsy) Z.w.2;refine ⟨_,(bB (bR (bJ FQ54 (hr.mono Dd) (aI (pE (dR.of (psc:=aO TD) (N:=["trial","rule","way","costs"]) (xs:=["looks","share"]) (N':=["looks","share","costs"]) (js:=[3]) Kk rfl rfl rfl) (gW (bJ FQ43 (hr.mono Dd) (aI (aJ 0) (aI (aJ 1) (aI (aJ 2) aE))))) (λ_ _ _ _=>dG) (λ_ _ _ _=>(bJ FQ53 (hr.mono Dd) (aI (cC (fE K) (aJ 2) (aJ 0) (λ_ _=>rfl)) (aI (aJ 1) aE))))) aE)))),?_⟩;refine ⟨_,rfl,_,rfl,_,rfl,?_⟩;refine rE rt rr RO Z hx hsy λD xs H1 hD e1 r1 s1=>?_;generalize onw (came F es x.2)=os at ok r1 k;obtain ⟨ac,vc,rfl,hac,rvc⟩:=mZ rc;refine ⟨D,rfl,⟨_,eZ.of e1⟩,?_⟩;refine mK (λ_=>true) (λo x=>bQ H1 (onD o) x) (λo y H'=>bQ H' (fM (gJ (cs.getD o.1.toNat (0,1)) o.2)) y) (λo y H1 H2 s r=>r.flat s (gS _)) (by have:=ok.len;omega) e1 (Paired.ofRepL r1) (λx o H' ho ro s'=>?_) (λL ys H2 hL e2 s2 pr=>?_)
 ·obtain ⟨a,us,rfl,ha,rus⟩:=fQ (ro.same s');obtain ⟨u,z,rfl,ru,rz⟩:=jF rus;cases (show u=V.int o.1 from ru);refine ⟨a,[.int o.1,z],rfl,dO.of ha,rfl,λQ' h=>h H' (aW.refl _),λH5 Q' s5 _ k'=>?_⟩;obtain ⟨s0,sM⟩:=ok.sm o ho;have hl:o.1.toNat<cs.length:=by have:=hc.len;omega
  have hg:cs[o.1.toNat]?=some (cs.getD o.1.toNat (0,1)):=by rw [aF,aD hl];rfl
  obtain ⟨y,hy,ry⟩:=aX.atX rvc hg;have c1:=hc.fk _ (tR hl);have f9:=ok.fk o ho;have s15:=(s1.trans s').trans s5;refine ⟨_,rfl,_,rfl,?_⟩;refine lK (s15 _ _ hac) (v:=y) (by rw [show o.1=((o.1.toNat:Nat):Int) by omega];exact eE hy) ?_;refine ⟨_,rfl,?_⟩;refine iL (fU.of (ry.same s15)) (fU.of (rz.same s5)) c1.low f9.low ((c1.sz Dd Dd).mono) ((f9.sz Dd Dd).mono) λq6 H6 hq6 e6 s6=>?_;exact k' _ H6 s6 (gR e6)
 ·rw [iN] at pr;refine mW e2 (EK.ofP pr) (Fk.totOk (XU ok hc) Dd (by rw [aA];exact ok.len) Dd) λv H3 s3 r3=>?_;exact k v H3 ((s1.trans s2).trans s3) r3
theorem aDk(F:gH K "wrong" "wrong" ZF f fd)(T:iV K mg c)(FQ57:eF cR P w K mg base 1 "ways_of" ["trial"] jK)(FQ37:eF cR P w K mg base 3 "less" ["one","other"] (lW K))(FQ51:eF cR P w K mg base 4 "said_of" ["came","way"] (jM K))(FQ19:eF cR P w K mg base 4 "comings" ["trial","rule","way"] (gM K)):dA P w K mg base cR 5 f fd ["trial","rule"] (oF K):=by
 refine F.oky aBk λvs H Q E h=>?_;unfold oF at h;obtain ⟨t,r,es,F,W,M,fs,ws,rfl,rt,rr,RO,Z,TT,k⟩:=h;refine ⟨rfl,λcdv A outer s hr=>?_⟩;have lw':=TT.w;have hW:=Z.w.2;refine ⟨_,(aU (bV (i:=2) aBk.nd rfl (Or.inl rfl) (eW aE))
  (aU (iJ PassesOwn.never rfl (dW rfl T.b_range (aI (bJ FQ57 (hr.mono Dd) (aI (aJ 0) aE)) aE)) (dP (i:=3) aBk.nd rfl (Or.inl rfl)) (bB (jR (vT PySem.F.plainAttrs_list PySem.F.slot_list_append PySem.F.type_list_append AW (aJ 2) (aI (bJ FQ37 (hr.mono Dd) (aI (lG (v:=.ref c.ONE) rfl T.g_ONE rfl) (aI (bJ FQ51 (hr.mono Dd) (aI (bJ FQ19 (hr.mono Dd) (aI (aJ 0) (aI (aJ 1) (aI (aJ 3) aE)))) (aI (aJ 3) aE))) aE))) aE)))))
  (bB (bR (hJ cJ (by rfl) T.b_tuple Kk (aI (aJ 2) aE)))))),?_⟩
 refine wJ (by show 0<=64;decide) λL H1 hL e1 s1=>?_;refine ⟨_,rfl,?_⟩;refine oG (rt.same s1) ?_;refine ⟨_,rfl,Oo,Oo,?_⟩;rw [show ((ws.length:Int)).toNat=ws.length by omega];refine kI (λi σ H'=>∃(o3:Option V) (zs:List V),σ=[some t,some r,some (.ref L),o3]/\aW H H'/\H' L=some (.lst zs)/\aX H' (((List.range i).map (XF F es ws)).map fM) zs) ⟨_,[],rfl,s1,e1,aX.nil⟩ ?_ ?_
 ·rintro i σ H2 hi ⟨o3,zs,rfl,s2,e2,r2⟩;obtain ⟨hx,hsy⟩:=TT.at (i:=i) Oo;have cok:=jX RO Z hsy;have lz:zs.length=i:=by rw [r2.len,aA,aA,bO]
  refine ⟨_,rfl,SO e2,?_⟩;refine ⟨_,rfl,_,rfl,_,rfl,?_⟩;rw [show (0:Int)+(i:Int)=(i:Int) by omega];refine kF (rt.same s2) (rr.same s2) RO Z hx hsy λD xs H3 hD e3 r3 s3=>?_;refine ⟨_,rfl,?_⟩;refine rA e3 r3 cok hW Oo λv H4 s4 r4=>?_;have sfk:=NR cok hW (i:=i) Oo;have hone:fU K H4 (1,1) (.ref c.ONE):=⟨c.ONE,rfl,kO T.o_ONE⟩;refine wA hone (fU.of r4) (Fk.one 0).low sfk.low (((Fk.one 0).sz Dd Dd).mono) ((sfk.sz Dd Dd).mono) λq5 H5 hq5 e5 s5=>?_;have s25:=(s3.trans s4).trans s5;refine WY (s25 _ _ e2) Oo λH6 e6 b6=>?_;have t6:=b6.t (s25 _ _ e2);refine ⟨_,zs++[.ref q5],rfl,aW.thru hL (s2.trans s25) b6,e6,?_⟩;rw [List.range_succ,bF,bF];exact aX.snoc (r2.flat (s25.t.trans t6) (rX _)) (bQ.flat t6 (gS _) (gR e5))
 ·rintro σ H2 ⟨o3,zs,rfl,s2,e2,r2⟩;refine ⟨_,rfl,L,zs,rfl,.inl ⟨eZ.of e2,λl hl=>?_⟩⟩;exact k _ _ (s2.trans (aW.upd hl)) (bQ.tup bE (r2.same (aW.upd hl)))
end
end Kw
namespace L2
open PySem PySem.Spec PyProof.Rows
section
variable{X:Cx}
end
end L2
namespace L2
open PySem PySem.Spec PySem.W PyProof.Rows HT
section
variable{X:Cx}
end
theorem HQ:∀{l m:List Int},l.Perm m->l.Pairwise (· <= ·)->m.Pairwise (· <= ·)->l=m
 | [],m,h,_,_=>(List.Perm.nil_eq h)
 | a::l,[],h,_,_=>by have:=h.length_eq;simp at this
 | a::l,b::m,h,h1,h2=>by
  obtain ⟨a1,a2⟩:=List.pairwise_cons.mp h1;obtain ⟨b1,b2⟩:=List.pairwise_cons.mp h2;have e:a=b:=by
   have q1:=h.mem_iff (a:=a);have q2:=h.mem_iff (a:=b);rcases aV.mp (q1.mp (aG ..)) with r | r
   ·exact r
   ·rcases aV.mp (q2.mpr (aG ..)) with t | t
    ·exact t.symm
    ·have:=a1 b t;have:=b1 a r;omega
  subst e;rw [HQ ((List.perm_cons a).mp h) a2 b2]
end L2
namespace L2
open PySem PySem.Spec PyProof.Rows
section
variable{prog:Program}{w:World}{A:Around}{E:Value->Shared->Prop}{s:Shared}
theorem DU{l:Addr}{vs:List Value}{Q:List Value->Shared->Prop}(hl:IsTup s.heap l vs.toArray)
  (h:Q vs { s with heap:=(s.heap.push (seqObj "list" #[] 0)).update s.heap.objs.size (Obj.mapSeq (· ++ vs.toArray)) }) (hsz:vs.length<=sizeLine) :
  wpAny (model prog w) A (collect (.ref l)) Q E s:=by
 obtain ⟨o,ho,hc,n,hd⟩:=id hl;unfold collect;refine wpAny_bind (wpAny_runValue (codeAny_builtin entry_proto_collect' ?_));show wpAny _ _ (do again (.builtin "list.__iadd__" ⟨[<-newList [],.ref l],[]⟩)) _ _ s;refine wpAny_bind (wpAny_newList (wpAny_pure ⟨Code.quiet_builtin _ Kk,codeAny_builtin entry_list_iadd' ?_⟩));show wpAny _ _ (Builtin.List.listExtendWith (.ref s.heap.objs.size) (.ref l) (.ref s.heap.objs.size)) _ _ { s with heap:=s.heap.push (seqObj "list" #[] 0) };unfold Builtin.List.listExtendWith;have ho':(s.heap.push (seqObj "list" #[] 0)).get? l=some o:=aB _ ho;refine wpAny_bind (wpAny_typeOf (T := "tuple") ⟨o,ho',hc⟩ ?_);have ht:(Value.type "tuple" == Value.type "tuple")=true:=by rfl
 rw [if_pos (by rw [ht];simp)];refine wpAny_bind (listItems_at ho' hd ?_);refine wpAny_bind (listItems_at (xs:=#[]) (n:=0) (aP _ rfl) rfl ?_);rw [if_neg (by simp)];refine wpAny_bind (listUpdate_at (xs:=#[]) (n:=0) (aP _ rfl) rfl ?_ (cK _) (by show (#[]++vs.toArray).size<=sizeLine+1;simp only [Array.size_append,aQ,List.length_nil];omega));refine wpAny_pure ?_;show wpAny (model prog w) A (do
   let o <-load s.heap.objs.size
   match o.data with
   | .seq xs _=>pure xs.toList
   | _=>unsupported "internal:collect") Q E { s with heap:=(s.heap.push (seqObj "list" #[] 0)).update s.heap.objs.size (Obj.mapSeq (· ++ vs.toArray)) }
 refine wpAny_bind (wpAny_load (get?_update_seq (aP _ rfl) _) ?_);show wpAny _ _ (pure ((#[]:Array Value)++vs.toArray).toList) Q E _;rw [show ((#[]:Array Value)++vs.toArray).toList=vs by simp];exact wpAny_pure h
theorem AJ{l:Addr}{vs:List Value}{ns:List Int}{Q:Value->Shared->Prop}(hl:IsTup s.heap l vs.toArray)(hI:IntsAre vs ns)(h64:vs.length<64)
  (h:∀(out:Array Value) (ns':List Int),IntsAre out.toList ns'->ns'.Perm ns->ns'.Pairwise (· <= ·)->Q (.ref (s.heap.objs.size+1)) { s with heap:=sortedAll s.heap vs out }) :
  wpAny (model prog w) A (call (.builtin "sorted") [.ref l]) Q E s:=by
 refine Calls.call_function_entry kind_sorted plain_sorted entry_sorted (args_sorted1 _) ?_;unfold Builtin.«sorted»;refine wpAny_bind (m:=checkCount "sorted" 1 1 _) (wpAny_pure ?_);refine wpAny_bind (DU hl ?_ (by rw [sizeLine_eq];omega));refine wpAny_bind (wpAny_newList ?_);have hsz:((s.heap.push (seqObj "list" #[] 0)).update s.heap.objs.size (Obj.mapSeq (· ++ vs.toArray))).objs.size=s.heap.objs.size+1:=by
  rw [Heap.size_update,size_push']
 have hoL:(((s.heap.push (seqObj "list" #[] 0)).update s.heap.objs.size (Obj.mapSeq (· ++ vs.toArray))).push (seqObj "list" vs.toArray 0)).get? (s.heap.objs.size+1)=some (seqObj "list" vs.toArray 0):=by
  rw [<-hsz];exact aP _ rfl
 show wpAny _ _ _ _ _ { s with heap:=((s.heap.push (seqObj "list" #[] 0)).update s.heap.objs.size (Obj.mapSeq (· ++ vs.toArray))).push (seqObj "list" vs.toArray 0) };rw [hsz];refine wpAny_bind (wpAny_holding (wpAny_call_entry slot_list_sort ⟨_,hoL,rfl⟩ entry_list_sort (list_sort_tree hoL hI h64 λout ns' a1 a2 a3=>⟨_,rfl,?_⟩) (args_list_sort _)));exact wpAny_pure ⟨_,rfl,h out ns' a1 a2 a3⟩
end
@[irreducible] def HF(K:PySem.W.Frag):List V->Hp->VK->Prop:=λxs H Q=>∃(p:Addr) (ns:List Int),xs=[.ref p]/\H p=some (.tup (ns.map V.int))/\ns.length<64/\∀(D:Addr) (ns':List Int) (H':Hp),ns'.Perm ns->ns'.Pairwise (· <= ·)->H D=none->H' D=some (.lst (ns'.map V.int))->aW H H'->Q (.ref D) H'
theorem aBY{K:PySem.W.Frag}{p:Addr}{ns:List Int}{H:Hp}{Q:VK}(h:H p=some (.tup (ns.map V.int)))(hz:ns.length<64)(q:∀(D:Addr) (ns':List Int) (H':Hp),ns'.Perm ns->ns'.Pairwise (· <= ·)->H D=none->H' D=some (.lst (ns'.map V.int))->aW H H'->Q (.ref D) H'):HF K [.ref p] H Q:=by
 unfold HF;exact ⟨p,ns,rfl,h,hz,q⟩
theorem WO{X:Cx}(K:PySem.W.Frag)(hK:X.K=K:=by rfl):fO X (.builtin "sorted") (HF K):=by
 subst hK;unfold HF;intro pins s σ H xs us Q I r h;obtain ⟨l,ns,rfl,hq,hz,q⟩:=h;obtain ⟨u,rfl,rx⟩:=kM r;cases rx;obtain ⟨its,r',pl,hz'⟩:=I.tuple (dO.of hq);have hlen:=r'.length;rw [aA] at hlen;refine AJ pl (nK r') Oo λout ns' a1 a2 a3=>?_;obtain ⟨e,he⟩:=sortedAll_at s.heap its out;have hn:=I.hok.fresh (a:=s.heap.objs.size+1) Oo;have hl2:ns'.length=ns.length:=a2.length_eq;refine ⟨.ref _,upd H (s.heap.objs.size+1) (.lst (ns'.map V.int)),I.laid (t':=s.toks) (λ_ _=>sortedAll_old) Oo ⟨by rw [aA];exact bG (show ns'.length<=64 by omega) Dd,_,e,MR a1,?_⟩,rfl,q _ ns' _ a2 a3 hn bE (aW.upd hn)⟩;rw [Array.toArray_toList];exact he
@[irreducible] def rLr(vs:List V)(H:Hp)(Q:VK):Prop:=∃n:Nat,vs=[.int (n:Int)]/\n<=100000/\∀l,H l=none->Q (.ref l) (upd H l (.lst ((List.range n).map λ(i:Nat)=>V.int (i:Int))))
theorem rlr{n:Nat}{H:Hp}{Q:VK}(hn:n<=100000)(q:∀l H',H l=none->H' l=some (.lst ((List.range n).map λ(i:Nat)=>V.int (i:Int)))->aW H H'->Q (.ref l) H'):rLr [.int (n:Int)] H Q:=by
 unfold rLr;exact ⟨n,rfl,hn,λl hl=>q l _ hl bE (aW.upd hl)⟩
def tLr(ta:TA):TE:=λσ H Q=>ta σ H λvs H1=>rLr vs H1 Q
theorem GJ:bootBuiltins (Str.ofString "list")=some (Value.type "list"):=Kk
theorem EC:bootBuiltins (Str.ofString "range")=some (Value.type "range"):=Kk
theorem ES{n:Nat}{acc:Array Value}(h:ItemsOf (λi v=>∃t,v=.int (0+(i:Nat)*1) t) acc n):cV ((List.range n).map λ(i:Nat)=>V.int (i:Int)) acc.toList:=by
 obtain ⟨h1,h2⟩:=h;have key:∀(m:Nat) (l:List Value) (k:Nat),l.length=m->(∀i,(hi:i<l.length)->∃t,l[i]=.int ((k+i:Nat):Int) t)->cV ((List.range m).map λ(i:Nat)=>V.int ((k+i:Nat):Int)) l:=by
  intro m
  induction m with
  | zero=>intro l k hl _;cases l with
   | nil=>exact .nil
   | cons=>cases hl
  | succ m ih =>
   intro l k hl hh;cases l with
   | nil=>cases hl
   | cons a l =>
    rw [List.range_succ_eq_map,aZ,List.map_map];obtain ⟨t,ht⟩:=hh 0 (by simp);refine .cons ⟨t,ht⟩ ?_;have:=ih l (k+1) (by simpa using hl) λi hi=>by
     obtain ⟨t,ht⟩:=hh (i+1) (by simpa using hi);refine ⟨t,?_⟩;have e:k+(i+1)=k+1+i:=Oo;rw [e] at ht;simpa using ht
    have e:(λ(i:Nat)=>V.int ((k+i:Nat):Int)) ∘ Nat.succ=λ(i:Nat)=>V.int ((k+1+i:Nat):Int):=by
     funext i
     show V.int ((k+(i+1):Nat):Int)=_;rw [show k+(i+1)=k+1+i by omega]
    rw [e];exact this
 have r:=key n acc.toList 0 (by simpa using h1) λi hi=>by
  have hi':i<acc.size:=by simpa using hi
  obtain ⟨t,ht⟩:=h2 i acc[i] (by simp [hi']);exact ⟨t,by rw [Array.getElem_toList,ht,Nat.zero_add,Int.zero_add,Int.mul_one]⟩
 simpa using r
section
variable{X:Cx}{a:Expr}{ta:TA}{p1 np p2 pos:Pos}
theorem GT(hc:X.calm=true)(hg1:Gl X "list")(hm1:X.mg "list" = none)(hg:Gl X "range")(hm:X.mg "range" = none)(ha:IV X [a] ta)(hs:starEach [a] X.env=[(false,eval a X.env)]:=by first | exact fR | exact fI | exact cY | rfl) :
  fJ X (.Call (.Name "list" p1) [.Call (.Name "range" np) [a] [] p2] [] pos) (tLr ta):=⟨by
 intro pins s σ H Q I h;have hst:starEach [.Call (.Name "range" np) [a] [] p2] X.env=[(false,eval (.Call (.Name "range" np) [a] [] p2) X.env)]:=fI;refine Call_ (oY I hg1 hm1 GJ (PyProof.Rows.callWith_type1 ?_ (by rw [hst];rfl) rfl));rw [hst];refine Calls.spliced_cons ?_;refine Call_ (oY I hg hm EC (PyProof.Rows.callWith_type1 (thn (ha.p p2 pins s σ H _ I h) λus s1 ⟨vs,H1,I1,r1,q1⟩=>?_) (by rw [hs];rfl) rfl));unfold rLr at q1;obtain ⟨n,rfl,hn,q⟩:=q1;obtain ⟨u,rfl,ru⟩:=kM r1;obtain ⟨t,rfl⟩:=ru;refine call_range_1 ?_;have I2:bW X pins σ H1 { s1 with heap:=s1.heap.push { cls:=.type "range",data:=.fields #[.int 0 s1.toks,.int (n:Int) t,.int 1 (s1.toks+1)] },toks:=s1.toks+1+1 }:=I1.kept λb o e=>aB _ e;refine wpAny_pure ?_;refine call_list_range (n:=n) (I2.ok.hd hc) (IsRange.new ..) (small_one Dd Dd Oo Oo) (by rw [rangeSize_one];split <;> omega) Oo λh' tk acc c' kp e it=>?_;have vr:=ES it;have hz:((List.range n).map λ(i:Nat)=>V.int (i:Int)).length<=sizeLine:=by rw [aA,bO];exact bG hn Dd
 exact ⟨.ref _,_,I2.laid (t':=tk) kp (aM _) (show dM X.prog X.w _ h' _ (.lst _) from ⟨hz,acc.toList,c',vr,e⟩),rfl,q _ (I2.hok.fresh (aM _))⟩⟩
end
end L2
namespace Kw
open PySem L2 Mf
abbrev TR:Stmt:=(top 43)
theorem aEH:bK ["thing","many"] ["thing","many"] (aO TR):=⟨rfl,rfl,rfl,Kk,rfl,Kk,Kk⟩
abbrev aAe:Stmt:=(top 44)
theorem aEO:bK ["thing","many"] ["thing","many"] (aO aAe):=⟨rfl,rfl,rfl,Kk,rfl,Kk,Kk⟩
abbrev TC:Stmt:=(top 45)
theorem aEq:bK ["things","order"] ["things","order"] (aO TC):=⟨rfl,rfl,rfl,Kk,rfl,Kk,Kk⟩
def lP(n:Nat)(d:PyData):Prop:=PyData.canLay0 d=true/\PyData.depth d<=n
theorem lP.all{n:Nat}:∀{ds:List PyData},(∀d∈ds,lP n d)->PyData.canLayAll0 ds=true/\PyData.depthAll ds<=n
 | [],_=>⟨rfl,cK _⟩
 | d::ds,h=>by
  obtain ⟨h1,h2⟩:=h d (aG ..);obtain ⟨h3,h4⟩:=lP.all λe he=>h e (aH _ he);refine ⟨?_,?_⟩
  ·show (PyData.canLay0 d&&PyData.canLayAll0 ds)=true;rw [h1,h3];rfl
  ·show max (PyData.depth d) (PyData.depthAll ds)<=n;omega
theorem lP.tup{n:Nat}{ds:List PyData}(h:∀d∈ds,lP n d):lP (n+1) (.tuple ds):=⟨(lP.all h).1,by have:=(lP.all h).2;show PyData.depthAll ds+1<=n+1;omega⟩
theorem lP.lst{n:Nat}{ds:List PyData}(h:∀d∈ds,lP n d):lP (n+1) (.list ds):=⟨(lP.all h).1,by have:=(lP.all h).2;show PyData.depthAll ds+1<=n+1;omega⟩
theorem lP.int(i:Int):lP 1 (.int i):=⟨rfl,by simp [PyData.depth]⟩
theorem lP.ok{n:Nat}{d:PyData}(h:lP n d)(hn:n<=64:=by decide):SeqAt.shaped d=true:=by
 unfold SeqAt.shaped;rw [h.1,Bool.true_and];exact cE (by have:=h.2;omega)
theorem lP.fr(f:Fr):lP 2 (fM f):=lP.tup λd hd'=>by
 rcases aV.mp hd' with rfl | hd'
 ·exact lP.int _
 ·rw [bM.mp hd'];exact lP.int _
theorem lP.up{n m:Nat}{d:PyData}(h:lP n d)(hm:n<=m):lP m d:=⟨h.1,bG h.2 hm⟩
theorem wW:∀fs:List Fr,PyData.hasDictAll (fs.map fM)=false
 | []=>rfl
 | f::fs=>by show (PyData.hasDict (fM f) || PyData.hasDictAll (fs.map fM))=false;rw [wW fs];rfl
theorem vH(es:List cG):eI (wF es)=true:=mJ es
abbrev iO(o:List Nat):List Int:=o.map λk:Nat=>(k:Int)
structure cP(n:Nat)(o:List Nat):Prop where
 perm:o.Perm (List.range n)
 le:n<=4
theorem cP.len{n:Nat}{o:List Nat}(h:cP n o):o.length=n:=by rw [h.perm.length_eq,bO]
theorem cP.lt{n:Nat}{o:List Nat}(h:cP n o):∀k∈o,k<n:=λk hk=>bX.mp (h.perm.mem_iff.mp hk)
theorem tJ{H:Hp}:∀ns:List Int,aX H (ns.map PyData.int) (ns.map V.int)
 | []=>aX.nil
 | n::ns=>aX.cons (bQ.int n) (tJ ns)
theorem AZ:∀c:List Int,PyData.hasDictAll (c.map PyData.int)=false
 | []=>rfl
 | x::c=>by show (PyData.hasDict (.int x) || PyData.hasDictAll (c.map PyData.int))=false;rw [AZ c];rfl
theorem yM(c:List Int):SeqAt.shaped (.list (c.map PyData.int))=true:=(lP.lst (n:=1) λd hd'=>by
 obtain ⟨z,_,rfl⟩:=aK.mp hd';exact lP.int z).ok
@[irreducible] def oQ:Sp:=λvs H Q _=>∃(b:Addr) (o:List Nat) (n:Nat),vs=[.ref b,.int (n:Int)]/\H b=some (.tup ((iO o).map V.int))/\cP n o/\∀H',aW H H'->Q (.bl true) H'
theorem FF{H:Hp}{Q:VK}{E:XK}{b:Addr}{o:List Nat}{n:Nat}(h1:H b=some (.tup ((iO o).map V.int)))(h2:cP n o)(q:∀H',aW H H'->Q (.bl true) H'):oQ [.ref b,.int (n:Int)] H Q E:=by unfold oQ;exact ⟨b,o,n,rfl,h1,h2,q⟩
@[irreducible] def iS:Sp:=λvs H Q _=>∃(b:Addr) (o:List Nat) (n:Nat),vs=[.ref b,.int (n:Int)]/\H b=some (.tup ((iO o).map V.int))/\cP n o/\∀H',aW H H'->Q .non H'
theorem lI{H:Hp}{Q:VK}{E:XK}{b:Addr}{o:List Nat}{n:Nat}(h1:H b=some (.tup ((iO o).map V.int)))(h2:cP n o)(q:∀H',aW H H'->Q .non H'):iS [.ref b,.int (n:Int)] H Q E:=by unfold iS;exact ⟨b,o,n,rfl,h1,h2,q⟩
def qD(xs:List V)(o:List Nat):List V:=o.map λk=>xs.getD k .non
@[irreducible] def iR:Sp:=λvs H Q _=>∃(a b:Addr) (xs:List V) (o:List Nat),vs=[.ref a,.ref b]/\H a=some (.tup xs)/\H b=some (.tup ((iO o).map V.int))/\(∀k∈o,k<xs.length)/\o.length<=64/\∀c H',aW H H'->H' c=some (.tup (qD xs o))->Q (.ref c) H'
theorem jZ{H:Hp}{Q:VK}{E:XK}{a b:Addr}{xs:List V}{o:List Nat}(h1:H a=some (.tup xs))(h2:H b=some (.tup ((iO o).map V.int)))(h3:∀k∈o,k<xs.length)(h4:o.length<=64)(q:∀c H',aW H H'->H' c=some (.tup (qD xs o))->Q (.ref c) H'):iR [.ref a,.ref b] H Q E:=by unfold iR;exact ⟨a,b,xs,o,rfl,h1,h2,h3,h4,q⟩
section
theorem aDO(F:gH K "is_order" "is_order" TR f fd)(T:iV K mg c)(FQ34:eF cR P w K mg base 1 "is_tuple_of" ["thing","many"] (kA K))(FQ35:eF cR P w K mg base 1 "is_whole" ["thing"] kP):dA P w K mg base cR 2 f fd ["thing","many"] oQ:=by
 refine F.oky aEH λvs H Q E h=>?_;unfold oQ at h;obtain ⟨b,o,n,rfl,hb,ok,q⟩:=h;refine ⟨rfl,λcdv A outer s hr=>?_⟩;refine ⟨_,(bB (bR (jI (bJ FQ34 (hr.mono Dd) (aI (aJ 0) (aI (aJ 1) aE))) (jI (dL (wY rfl) (by rfl) T.b_all Kk (aI (eD (dJ.of (psc:=aO TR) (N:=["thing","many"]) (N':=["one"]) (js:=[]) Kk rfl rfl rfl) (gK (aJ 0)) (λ_ _ _ _=>dG) (λ_ _ _ _=>(bJ FQ35 (hr.mono Dd) (aI (aJ 0) aE)))) aE)) (kL (iK (FW hr.units) (dL (WO K) (by rfl) T.b_sorted Kk (aI (aJ 0) aE)) (GT rfl rfl T.b_list rfl T.b_range (aI (aJ 1) aE)) (nomark _))))))),?_⟩;have lo:=ok.len;have l4:=ok.le;refine ⟨_,rfl,_,rfl,?_⟩;refine mV (dO.of hb) (by rw [aA,aA,lo]) ?_;refine ⟨_,rfl,?_⟩;refine mG ?_;refine ⟨_,rfl,b,rfl,⟨_,dO.of hb⟩,?_⟩;refine gE (λi y _=>y=.bl true) (λ_ _ _ _ _ h=>h) (by rw [aA,aA];omega) hb (λi y H' Q' hy s' k'=>?_) (λD ys H1 hD hD1 s1 hy hr1=>?_)
 ·rw [aC] at hy;obtain ⟨z,_,rfl⟩:=dH.mp hy;refine ⟨_,rfl,?_⟩;refine mU ?_;exact k' _ H' (aW.refl _) rfl
 ·rw [oB hr1] at hD1;refine rall hD1 ?_;rw [pZ];refine ⟨_,rfl,mG ?_⟩;refine ⟨_,rfl,?_⟩;refine aBY (s1 _ _ hb) (by rw [aA];omega) λD2 ns H2 pm as hD2 e2 s2=>?_;refine ⟨_,rfl,?_⟩;refine rlr Oo λl H3 hl e3 s3=>?_;have en:ns=iO (List.range n):=HQ (pm.trans (ok.perm.map _)) as (List.pairwise_map.mpr (List.pairwise_lt_range.imp λh=>Oo));have ra:bQ H3 (.list ((iO (List.range n)).map PyData.int)) (.ref D2):=by
   rw [en] at e2;exact bQ.lst (s3 _ _ e2) (tJ _)
  have rb:bQ H3 (.list ((iO (List.range n)).map PyData.int)) (.ref l):=by
   refine bQ.lst e3 ?_;rw [show ((List.range n).map λ(i:Nat)=>V.int (i:Int))=(iO (List.range n)).map V.int by rw [List.map_map];rfl];exact tJ _
  refine reD ra rb (yM _) (yM _) ?_;rw [mI (.list ((iO (List.range n)).map PyData.int)) (AZ _)];exact q H3 ((s1.trans s2).trans s3)
theorem aD0(F:gH K "check_order" "check_order" aAe f fd)(T:iV K mg c)(FQ30:eF cR P w K mg base 2 "is_order" ["thing","many"] oQ):dA P w K mg base cR 3 f fd ["thing","many"] iS:=by
 refine F.oky aEO λvs H Q E h=>?_;unfold iS at h;obtain ⟨b,o,n,rfl,hb,ok,q⟩:=h;refine ⟨rfl,λcdv A outer s hr=>?_⟩;refine ⟨_,(bB (jH (mO (iX (bJ FQ30 (hr.mono Dd) (aI (aJ 0) (aI (aJ 1) aE))))) (bB SB) eY)),?_⟩;refine ⟨_,rfl,_,rfl,?_⟩;refine FF hb ok λH1 s1=>?_;refine ⟨_,rfl,mH ?_⟩;exact q H1 s1
theorem aDp(F:gH K "turned" "turned" TC f fd)(T:iV K mg c):dA P w K mg base cR 1 f fd ["things","order"] iR:=by
 refine F.oky aEq λvs H Q E h=>?_;unfold iR at h;obtain ⟨a,b,xs,o,rfl,ha,hb,hx,ho,q⟩:=h;refine ⟨rfl,λcdv A outer s hr=>?_⟩;refine ⟨_,(bB (bR (hJ cJ (by rfl) T.b_tuple Kk (aI (eD (dJ.of (psc:=aO TC) (N:=["things","order"]) (N':=["place","things"]) (js:=[0]) Kk rfl rfl rfl) (gK (aJ 1)) (λ_ _ _ _=>dG) (λ_ _ _ _=>(cC (fE K) (aJ 1) (aJ 0) (λ_ _=>rfl)))) aE)))),?_⟩;refine ⟨_,rfl,b,rfl,⟨_,dO.of hb⟩,?_⟩;refine gE (λi y H'=>∃k,o[i]?=some k/\y=xs.getD k .non) (λi y H1 H2 s h=>h) (by rw [aA,aA];omega) hb (λi x H' Q' hx' s' k'=>?_) (λD ys H2 hD e2 s2 hy hr2=>?_)
 ·rw [aC,aC] at hx';cases ho':o[i]? with
  | none=>rw [ho'] at hx';cases hx'
  | some k =>
   rw [ho'] at hx';cases hx';have hk:=hx k (bD ho');refine ⟨_,rfl,_,rfl,?_⟩;refine lK (s' _ _ ha) (eE (j:=k) (v:=xs.getD k .non) (by rw [aF,aD hk];rfl)) ?_;exact k' _ H' (aW.refl _) ⟨k,ho',rfl⟩
 ·refine ⟨D,ys,rfl,.inl ⟨eZ.of e2,λl hl=>?_⟩⟩;have sl:=aW.upd (o:=.tup ys) hl;refine q l _ (s2.trans sl) ?_;rw [bE];congr 2;refine List.ext_getElem? λi=>?_;unfold qD;rw [aA,aA] at hy;by_cases hi:i<o.length
  ·obtain ⟨k,h1,h2⟩:=hr2 i (ys[i]'Oo) (aD _);rw [aD Oo,h2,aC,h1];rfl
  ·rw [bH Oo,bH (by rw [aA];omega)]
end
abbrev ZZ:Stmt:=(top 20)
theorem aEM:bK ["trial"] ["trial"] (aO ZZ):=⟨rfl,rfl,rfl,Kk,rfl,Kk,Kk⟩
abbrev ZM:Stmt:=(top 41)
theorem aEu:bK ["rule"] ["rule"] (aO ZM):=⟨rfl,rfl,rfl,Kk,rfl,Kk,Kk⟩
abbrev ZH:Stmt:=(top 46)
theorem aEn:bK ["trial","order"] ["trial","order"] (aO ZH):=⟨rfl,rfl,rfl,Kk,rfl,Kk,Kk⟩
abbrev TV:Stmt:=(top 47)
theorem aEL:bK ["trial","order"] ["trial","order"] (aO TV):=⟨rfl,rfl,rfl,Kk,rfl,Kk,Kk⟩
abbrev TK:Stmt:=(top 48)
theorem aEt:bK ["rule","order"] ["rule","order"] (aO TK):=⟨rfl,rfl,rfl,Kk,rfl,Kk,Kk⟩
theorem yJ{H:Hp}:∀{ds:List PyData}{vs:List V}(n:Nat),aX H ds vs->aX H (ds.take n) (vs.take n)
 | [],_,n,h=>by cases (show _=[] from h);rw [List.take_nil,List.take_nil];exact aX.nil
 | d::ds,_,0,h=>aX.nil
 | d::ds,_,n+1,h=>by
  unfold aX at h;obtain ⟨x,xs,rfl,h1,h2⟩:=h;exact aX.cons h1 (yJ n h2)
theorem aX.dropR{H:Hp}:∀{ds:List PyData}{vs:List V}(n:Nat),aX H ds vs->aX H (ds.drop n) (vs.drop n)
 | [],_,n,h=>by cases (show _=[] from h);rw [List.drop_nil,List.drop_nil];exact aX.nil
 | d::ds,_,0,h=>h
 | d::ds,_,n+1,h=>by
  unfold aX at h;obtain ⟨x,xs,rfl,h1,h2⟩:=h;exact aX.dropR n h2
theorem pD.head{F:Nat}{es:List cG}(h:pD F es):∃e r,es=e::r/\e.1=List.replicate F 0:=by
 have hz:List.replicate F 0∈es.map (·.1):=by
  rcases h.clo.zero with z | z
  ·exact z
  ·cases z
 cases es with
 | nil=>cases hz
 | cons e r =>
  refine ⟨e,r,rfl,?_⟩;rw [aZ] at hz;rcases aV.mp hz with z | z
  ·exact z.symm
  ·have h1:=h.rise;rw [aZ] at h1;have h2:=(List.pairwise_cons.mp h1).1 _ z;have h3:=nG (h.nn e (aG ..));rcases h2 with q | q
   ·rw [lQ] at q;omega
   ·have:=vQ (h.nn e (aG ..)) (by rw [q.1,lQ]);rw [h.len e (aG ..)] at this;exact this
def cH{α:Type}(d:α)(l:List α)(o:List Nat):List α:=o.map λk=>l.getD k d
theorem lR{H:Hp}{α:Type}{g:α->PyData}{d:α}{l:List α}{xs:List V}(r:aX H (l.map g) xs){o:List Nat}(ho:∀k∈o,k<l.length):aX H ((cH d l o).map g) (qD xs o):=by
 refine aX.ofIdx (by unfold cH qD;rw [aA,aA,aA]) λi y hy=>?_;unfold qD at hy;rw [aC] at hy;obtain ⟨k,hk,rfl⟩:=dH.mp hy;have hl:=ho k (bD hk);obtain ⟨v,h1,h2⟩:=tI r (i:=k) (f:=l.getD k d) (by rw [aF,aD hl];rfl);refine ⟨g (l.getD k d),?_,?_⟩
 ·unfold cH;rw [List.map_map,aC,hk];rfl
 ·rw [show xs.getD k .non=v by rw [aF,h1];rfl];exact h2
@[irreducible] def kR:Sp:=λvs H Q _=>∃v fs ws,vs=[v]/\bQ H (lN fs ws) v/\Q (.int (fs.length:Nat)) H
theorem AG{H:Hp}{Q:VK}{E:XK}{v:V}{fs:List Str}{ws:List (Str × List Fr)}(h:bQ H (lN fs ws) v)(q:Q (.int (fs.length:Nat)) H):kR [v] H Q E:=by unfold kR;exact ⟨v,fs,ws,rfl,h,q⟩
@[irreducible] def vX:Sp:=λvs H Q _=>∃(v:V) (e:cG) (es:List cG),vs=[v]/\bQ H (wF (e::es)) v/\Q (.int ((e.2.length:Nat)-1)) H
theorem NH{H:Hp}{Q:VK}{E:XK}{v:V}{e:cG}{es:List cG}(h:bQ H (wF (e::es)) v)(k:Q (.int ((e.2.length:Nat)-1)) H):vX [v] H Q E:=by
 unfold vX;exact ⟨v,e,es,rfl,h,k⟩
abbrev w0:Str × List Fr:=("",[])
@[irreducible] def oE:Sp:=λvs H Q _=>∃(t:V) (b:Addr) (fs:List Str) (ws:List (Str × List Fr)) (o:List Nat),vs=[t,.ref b]/\bQ H (lN fs ws) t/\H b=some (.tup ((iO o).map V.int))/\cP ws.length o/\∀v H',aW H H'->bQ H' (lN fs (cH w0 ws o)) v->Q v H'
theorem EY{H:Hp}{Q:VK}{E:XK}{t:V}{b:Addr}{fs:List Str}{ws:List (Str × List Fr)}{o:List Nat}(h1:bQ H (lN fs ws) t)(h2:H b=some (.tup ((iO o).map V.int)))(h3:cP ws.length o)(q:∀v H',aW H H'->bQ H' (lN fs (cH w0 ws o)) v->Q v H'):oE [t,.ref b] H Q E:=by unfold oE;exact ⟨t,b,fs,ws,o,rfl,h1,h2,h3,q⟩
def fturn(ws:List (Str × List Fr))(o:List Nat):List (Str × List Fr):=ws.map λw=>(w.1,cH (0,1) w.2 o)
@[irreducible] def oR:Sp:=λvs H Q _=>∃(t:V) (b:Addr) (fs:List Str) (ws:List (Str × List Fr)) (o:List Nat),vs=[t,.ref b]/\bQ H (lN fs ws) t/\H b=some (.tup ((iO o).map V.int))/\cP fs.length o/\(∀w∈ws,w.2.length=fs.length)/\ws.length<=64/\∀v H',aW H H'->bQ H' (lN (cH "" fs o) (fturn ws o)) v->Q v H'
theorem FG{H:Hp}{Q:VK}{E:XK}{t:V}{b:Addr}{fs:List Str}{ws:List (Str × List Fr)}{o:List Nat}(h1:bQ H (lN fs ws) t)(h2:H b=some (.tup ((iO o).map V.int)))(h3:cP fs.length o)(h4:∀w∈ws,w.2.length=fs.length)(h5:ws.length<=64)(q:∀v H',aW H H'->bQ H' (lN (cH "" fs o) (fturn ws o)) v->Q v H'):oR [t,.ref b] H Q E:=by unfold oR;exact ⟨t,b,fs,ws,o,rfl,h1,h2,h3,h4,h5,q⟩
def nB(fs:List Fr)(o:List Nat):List Fr:=fs.take 1++cH (0,1) (fs.drop 1) o
def uP(es:List cG)(o:List Nat):List cG:=es.map λe=>(e.1,nB e.2 o)
@[irreducible] def lT:Sp:=λvs H Q _=>∃(r:V) (b:Addr) (es:List cG) (F W M:Nat) (o:List Nat),vs=[r,.ref b]/\bQ H (wF es) r/\dB F W M es/\H b=some (.tup ((iO o).map V.int))/\cP W o/\∀v H',aW H H'->bQ H' (wF (uP es o)) v->Q v H'
theorem CC{H:Hp}{Q:VK}{E:XK}{r:V}{b:Addr}{es:List cG}{F W M:Nat}{o:List Nat}(h1:bQ H (wF es) r)(h2:dB F W M es)(h3:H b=some (.tup ((iO o).map V.int)))(h4:cP W o)(q:∀v H',aW H H'->bQ H' (wF (uP es o)) v->Q v H'):lT [r,.ref b] H Q E:=by unfold lT;exact ⟨r,b,es,F,W,M,o,rfl,h1,h2,h3,h4,q⟩
section
theorem aDm(F:gH K "ways_turned" "ways_turned" ZH f fd)(T:iV K mg c)(FQ18:eF cR P w K mg base 3 "check_order" ["thing","many"] iS)(FQ57:eF cR P w K mg base 1 "ways_of" ["trial"] jK)(FQ55:eF cR P w K mg base 1 "turned" ["things","order"] iR):dA P w K mg base cR 4 f fd ["trial","order"] oE:=by
 refine F.oky aEn λvs H Q E h=>?_;unfold oE at h;obtain ⟨t,b,fs,ws,o,rfl,rt,hb,ok,q⟩:=h;refine ⟨rfl,λcdv A outer s hr=>?_⟩;have l4:=ok.le;have rt0:=rt;obtain ⟨ta,tvs,rfl,hta,rtv⟩:=fQ rt;obtain ⟨xf,xw,rfl,rf,rw'⟩:=jF rtv;obtain ⟨wa,wvs,rfl,hwa,rwv⟩:=fQ rw';have lw':=gB rwv;refine ⟨_,(aU (jR (bJ FQ18 (hr.mono Dd) (aI (aJ 1) (aI (bJ FQ57 (hr.mono Dd) (aI (aJ 0) aE)) aE))))
  (bB (bR (dN (aI (cC bY (aJ 0) aN (λ_ _=>rfl)) (aI (bJ FQ55 (hr.mono Dd) (aI (cC bY (aJ 0) aN (λ_ _=>rfl)) (aI (aJ 1) aE))) aE)))))),?_⟩
 refine ⟨_,rfl,_,rfl,?_⟩;refine oG rt0 ?_;refine lI hb ok λH1 s1=>?_;refine ⟨_,rfl,?_⟩;refine lK (s1 _ _ hta) rfl ?_;refine ⟨_,rfl,?_⟩;refine lK (s1 _ _ hta) rfl ?_;refine ⟨_,rfl,?_⟩;refine jZ (s1 _ _ hwa) (s1 _ _ hb) (λk hk=>by rw [lw'];exact ok.lt k hk) (by rw [ok.len];omega) λc2 H2 s2 e2=>?_;refine qO (by show 2<=64;decide) λq3 H3 hq3 e3 s3=>?_;have s13:=(s1.trans s2).trans s3;refine q _ H3 s13 (bQ.tup e3 (aX.cons (rf.same s13) (aX.cons (bQ.tup (s3 _ _ e2) ?_) aX.nil)));exact lR (rwv.same s13) λk hk=>ok.lt k hk
theorem aDT(F:gH K "faces_of" "faces_of" ZZ f fd)(T:iV K mg c):dA P w K mg base cR 1 f fd ["trial"] kR:=by
 refine F.oky aEM λvs H Q E h=>?_;unfold kR at h;obtain ⟨v,fs,ws,rfl,h,q⟩:=h;refine ⟨rfl,λcdv A outer s hr=>?_⟩;obtain ⟨ta,tvs,rfl,hta,rtv⟩:=fQ h;obtain ⟨xf,xw,rfl,rf,rw'⟩:=jF rtv;obtain ⟨fa,fvs,rfl,hfa,rfv⟩:=fQ rf;refine ⟨_,(bB (bR (dL fT (by rfl) T.b_len Kk (aI (cC bY (aJ 0) aN (λ_ _=>rfl)) aE)))),?_⟩;refine ⟨_,rfl,?_⟩;refine lK hta rfl ?_;refine RQ hfa ?_;rw [gB rfv];exact q
theorem aDw(F:gH K "rule_ways" "rule_ways" ZM f fd)(T:iV K mg c):dA P w K mg base cR 1 f fd ["rule"] vX:=by
 refine F.oky aEu λvs H Q E h=>?_;unfold vX at h;obtain ⟨v,e,es,rfl,r,q⟩:=h;refine ⟨rfl,λcdv A outer s hr=>?_⟩;obtain ⟨a,xs,rfl,ha,rxs⟩:=tG r;obtain ⟨z,hz,rz⟩:=tI rxs (i:=0) (f:=e) rfl;obtain ⟨b,u,v,rfl,hb,ru,rv⟩:=tU rz;obtain ⟨sa,svs,rfl,hsa,rsv⟩:=mZ rv;refine ⟨_,(bB (bR (cT FU (dL fT (by rfl) T.b_len Kk (aI (cC bY (cC bY (aJ 0) aN (λ_ _=>rfl)) aN (λ_ _=>rfl)) aE)) aN))),?_⟩;refine ⟨_,rfl,?_⟩;refine lK ha (eE (j:=0) hz) ?_;refine lK hb rfl ?_;refine RQ hsa ?_;rw [gB rsv];exact ⟨_,_,rfl,rfl,q⟩
theorem aDS(F:gH K "faces_turned" "faces_turned" TV f fd)(T:iV K mg c)(FQ18:eF cR P w K mg base 3 "check_order" ["thing","many"] iS)(FQ25:eF cR P w K mg base 1 "faces_of" ["trial"] kR)(FQ55:eF cR P w K mg base 1 "turned" ["things","order"] iR):dA P w K mg base cR 4 f fd ["trial","order"] oR:=by
 refine F.oky aEL λvs H Q E h=>?_;unfold oR at h;obtain ⟨t,b,fs,ws,o,rfl,rt,hb,ok,hw,hl,q⟩:=h;refine ⟨rfl,λcdv A outer s hr=>?_⟩;have l4:=ok.le;have rt0:=rt;obtain ⟨ta,tvs,rfl,hta,rtv⟩:=fQ rt;obtain ⟨xf,xw,rfl,rf,rw'⟩:=jF rtv;obtain ⟨fa,fvs,rfl,hfa,rfv⟩:=fQ rf;obtain ⟨wa,wvs,rfl,hwa,rwv⟩:=fQ rw';have lf:=gB rfv;refine ⟨_,(aU (jR (bJ FQ18 (hr.mono Dd) (aI (aJ 1) (aI (bJ FQ25 (hr.mono Dd) (aI (aJ 0) aE)) aE))))
  (bB (bR (dN (aI (bJ FQ55 (hr.mono Dd) (aI (cC bY (aJ 0) aN (λ_ _=>rfl)) (aI (aJ 1) aE))) (aI (hJ cJ (by rfl) T.b_tuple Kk (aI (pE (dR.of (psc:=aO TV) (N:=["trial","order"]) (xs:=["name","shares"]) (N':=["name","shares","order"]) (js:=[1]) Kk rfl rfl rfl) (gK (cC bY (aJ 0) aN (λ_ _=>rfl))) (λ_ _ _ _=>dG) (λ_ _ _ _=>(dN (aI (aJ 0) (aI (bJ FQ55 (hr.mono Dd) (aI (aJ 1) (aI (aJ 2) aE))) aE))))) aE)) aE)))))),?_⟩
 refine ⟨_,rfl,_,rfl,?_⟩;refine AG rt0 ?_;refine lI hb ok λH1 s1=>?_;refine ⟨_,rfl,?_⟩;refine lK (s1 _ _ hta) rfl ?_;refine ⟨_,rfl,?_⟩;refine jZ (s1 _ _ hfa) (s1 _ _ hb) (λk hk=>by rw [lf];exact ok.lt k hk) (by rw [ok.len];omega) λc2 H2 s2 e2=>?_;have s12:=s1.trans s2;refine ⟨_,rfl,?_⟩;refine lK (s12 _ _ hta) rfl ?_;refine ⟨wa,rfl,⟨_,dO.of (s12 _ _ hwa)⟩,?_⟩;refine pX (λ_=>true) (λw x=>bQ H2 (wD w) x) (λw y H'=>bQ H' (wD (w.1,cH (0,1) w.2 o)) y) (λw y H1 H2 s r=>r.flat s (zZ _)) Oo (s12 _ _ hwa) (Paired.ofRepL (rwv.same s12)) (λx w H' hm rw0 s'=>?_) (λD ys H3 hD e3 s3 pr=>?_)
 ·obtain ⟨pa,pvs,rfl,hpa,rpv⟩:=fQ (rw0.same s');obtain ⟨y1,y2,rfl,ry1,ry2⟩:=jF rpv;obtain ⟨sha,shs,rfl,hsha,rshs⟩:=mZ ry2;refine ⟨pa,[y1,.ref sha],rfl,dO.of hpa,rfl,λQ' h=>h H' (aW.refl _),λH5 Q' s5 _ k'=>?_⟩;have lsh:=gB rshs;have hww:=hw w hm;refine ⟨_,rfl,_,rfl,_,rfl,?_⟩;refine jZ (s5 _ _ hsha) (s5 _ _ (s' _ _ (s12 _ _ hb))) (λk hk=>by rw [lsh,hww];exact ok.lt k hk) (by rw [ok.len];omega) λc6 H6 s6 e6=>?_;refine qO (by show 2<=64;decide) λq7 H7 hq7 e7 s7=>?_;have s57:=(s5.trans s6).trans s7;refine k' _ H7 (s6.trans s7) (bQ.tup e7 (aX.cons (ry1.same s57) (aX.cons (bQ.tup (s7 _ _ e6) ?_) aX.nil)));exact lR (rshs.same s57) λk hk=>by rw [hww];exact ok.lt k hk
 ·rw [iN] at pr;refine ⟨D,ys,rfl,.inl ⟨eZ.of e3,λl hl=>?_⟩⟩;have sl:=aW.upd (o:=.tup ys) hl;have el:upd H3 l (.tup ys) l=some (.tup ys):=bE;generalize upd H3 l (.tup ys)=H4 at sl el;refine qO (by show 2<=64;decide) λq5 H5 hq5 e5 s5=>?_;have s25:=(s3.trans sl).trans s5;have rys:aX H5 ((fturn ws o).map wD) ys:=by
   have:=Paired.toRepL (g:=λw:Str × List Fr=>wD (w.1,cH (0,1) w.2 o)) pr;unfold fturn;rw [List.map_map];exact (this.same sl).same s5
  refine q _ H5 (s12.trans s25) (bQ.tup e5 (aX.cons (bQ.tup (s25 _ _ e2) ?_) (aX.cons (bQ.tup (s5 _ _ el) rys) aX.nil)));exact lR (rfv.same (s12.trans s25)) λk hk=>ok.lt k hk
theorem aDv(F:gH K "rule_ways_turned" "rule_ways_turned" TK f fd)(T:iV K mg c)(FQ18:eF cR P w K mg base 3 "check_order" ["thing","many"] iS)(FQ48:eF cR P w K mg base 1 "rule_ways" ["rule"] vX)(FQ55:eF cR P w K mg base 1 "turned" ["things","order"] iR):dA P w K mg base cR 4 f fd ["rule","order"] lT:=by
 refine F.oky aEt λvs H Q E h=>?_;unfold lT at h;obtain ⟨r,b,es,F,W,M,o,rfl,rr,R,hb,ok,q⟩:=h;refine ⟨rfl,λcdv A outer s hr=>?_⟩;have l4:=ok.le;have rr0:=rr;obtain ⟨a,xs,rfl,ha,rxs⟩:=tG rr;have ls:=R.len;refine ⟨_,(aU (jR (bJ FQ18 (hr.mono Dd) (aI (aJ 1) (aI (bJ FQ48 (hr.mono Dd) (aI (aJ 0) aE)) aE))))
  (bB (bR (hJ cJ (by rfl) T.b_tuple Kk (aI (pE (dR.of (psc:=aO TK) (N:=["rule","order"]) (xs:=["counts","says"]) (N':=["counts","says","order"]) (js:=[1]) Kk rfl rfl rfl) (gK (aJ 0)) (λ_ _ _ _=>dG) (λ_ _ _ _=>(dN (aI (aJ 0) (aI (cT (pS K) (kK (pP K) (aJ 1) mQ (mP aN)) (bJ FQ55 (hr.mono Dd) (aI (kK (pP K) (aJ 1) (mP aN) mQ) (aI (aJ 2) aE)))) aE))))) aE))))),?_⟩
 obtain ⟨e0,r',rfl,_⟩:=R.rkOk.head;have le0:=(R.each e0 (aG ..)).2.2.2.len;refine ⟨_,rfl,_,rfl,?_⟩;refine NH rr0 ?_;rw [show ((e0.2.length:Nat):Int)-1=(W:Nat) by rw [le0];omega];refine lI hb ok λH1 s1=>?_;refine ⟨_,rfl,a,rfl,⟨_,dO.of (s1 _ _ ha)⟩,?_⟩;refine pX (λ_=>true) (λe x=>bQ H1 (yY e) x) (λe y H'=>bQ H' (yY (e.1,nB e.2 o)) y) (λw y H1 H2 s r=>r.flat s (sA _)) Oo (s1 _ _ ha) (Paired.ofRepL (rxs.same s1)) (λx e H' hm re s'=>?_) (λD ys H3 hD e3 s3 pr=>?_)
 ·obtain ⟨eb,u,v,rfl,heb,ru,rv⟩:=tU (re.same s');obtain ⟨sa,svs,rfl,hsa,rsv⟩:=mZ rv;refine ⟨eb,[u,.ref sa],rfl,dO.of heb,rfl,λQ' h=>h H' (aW.refl _),λH5 Q' s5 _ k'=>?_⟩;have lsv:=gB rsv;have hle:=(R.each e hm).2.2.2.len;refine ⟨_,rfl,_,rfl,_,rfl,?_⟩;refine FM (k:=1) (s5 _ _ hsa) λp6 H6 s6 e6=>?_;refine ⟨_,rfl,_,rfl,?_⟩;refine AN (k:=1) rfl (s6 _ _ (s5 _ _ hsa)) λp7 H7 s7 e7=>?_;refine ⟨_,rfl,?_⟩;have s67:=s6.trans s7;refine jZ e7 (s67 _ _ (s5 _ _ (s' _ _ (s1 _ _ hb)))) (λk hk=>by have:=ok.lt k hk;rw [List.length_drop,lsv,hle];omega) (by rw [ok.len];omega) λc8 H8 s8 e8=>?_;refine LI (s8 _ _ (s7 _ _ e6)) e8 (by unfold qD;rw [dE,aA,ok.len];omega) λc9 H9 s9 e9=>?_;refine qO (by show 2<=64;decide) λq10 H10 hq10 e10 s10=>?_;have s510:=(((s5.trans s67).trans s8).trans s9).trans s10;refine k' _ H10 (((s67.trans s8).trans s9).trans s10) (bQ.tup e10 (aX.cons (ru.same s510) (aX.cons (bQ.tup (s10 _ _ e9) ?_) aX.nil)));unfold nB;rw [bF];have rs:=rsv.same s510;refine aX.append ?_ ?_
  ·refine lR ?_ λk hk=>by have:=ok.lt k hk;rw [List.length_drop,hle];omega
   rw [List.map_drop];exact aX.dropR 1 rs
  ·rw [List.map_take];exact yJ 1 rs
 ·rw [iN] at pr;refine ⟨D,ys,rfl,.inl ⟨eZ.of e3,λl hl=>?_⟩⟩;have sl:=aW.upd (o:=.tup ys) hl;refine q _ _ ((s1.trans s3).trans sl) (bQ.tup bE ?_);have:=Paired.toRepL (g:=λe:cG=>yY (e.1,nB e.2 o)) pr;unfold uP;rw [List.map_map];exact this.same sl
end
abbrev FO:Stmt:=(top 49)
theorem aCB:bK ["rule","order","entries"] ["rule","order"] (aO FO):=⟨rfl,rfl,rfl,Kk,rfl,Kk,Kk⟩
def cF(cs:List Int)(o:List Nat):List Int:=cH 0 cs o
abbrev xU:Pos:=⟨135,37,135,76⟩
abbrev xT:Str := "rule_faces_turned" ++ ".<locals>." ++ "<lambda>"
structure iW(es:List cG)(o:List Nat)(es':List cG):Prop where
 perm:es'.Perm (es.map λe=>(cF e.1 o,e.2))
 rise:(es'.map (·.1)).Pairwise rk
@[irreducible] def kH(P:Addr):Sp:=λvs H Q _=>∃(r:V) (b:Addr) (es:List cG) (F W M:Nat) (o:List Nat),vs=[r,.ref b]/\bQ H (wF es) r/\dB F W M es/\eU F W M/\H b=some (.tup ((iO o).map V.int))/\cP F o/\jE H P xT xU/\∀v es' H',aS P H H'->jE H' P xT xU->iW es o es'->bQ H' (wF es') v->Q v H'
theorem CD{P:Addr}{H:Hp}{Q:VK}{E:XK}{r:V}{b:Addr}{es:List cG}{F W M:Nat}{o:List Nat}(h1:bQ H (wF es) r)(h2:dB F W M es)(h3:eU F W M)(h4:H b=some (.tup ((iO o).map V.int)))(h5:cP F o)(h6:jE H P xT xU)(q:∀v es' H',aS P H H'->jE H' P xT xU->iW es o es'->bQ H' (wF es') v->Q v H'):kH P [r,.ref b] H Q E:=by unfold kH;exact ⟨r,b,es,F,W,M,o,rfl,h1,h2,h3,h4,h5,h6,q⟩
theorem pR{l m:List Int}(h:l.Perm m):l.sum=m.sum:=by
 induction h with
 | nil=>rfl
 | cons x _ ih=>rw [List.sum_cons,List.sum_cons,ih]
 | swap x y l=>rw [List.sum_cons,List.sum_cons,List.sum_cons,List.sum_cons];omega
 | trans _ _ h1 h2=>exact h1.trans h2
theorem iQ{F:Nat}{cs:List Int}{o:List Nat}(ok:cP F o)(hl:cs.length=F):(cF cs o).sum=cs.sum:=by
 have h:(cF cs o).Perm cs:=by
  unfold cF cH;have:=ok.perm.map λk=>cs.getD k 0;refine this.trans ?_;rw [<-hl];have:(List.range cs.length).map (λk=>cs.getD k 0)=cs:=by
   refine List.ext_getElem? λi=>?_;rw [aC];by_cases hi:i<cs.length
   ·rw [cO hi,aD hi];show some (cs.getD i 0)=_;rw [aF,aD hi];rfl
   ·rw [bH (by rw [bO];omega),bH Oo];rfl
  rw [this]
 exact pR h
theorem sW{F:Nat}{o:List Nat}(ok:cP F o){a b:List Int}(ha:a.length=F)(hb:b.length=F)(h:cF a o=cF b o):a=b:=by
 refine List.ext_getElem Oo λk h1 h2=>?_;have hk:k∈o:=ok.perm.mem_iff.mpr (bX.mpr Oo);obtain ⟨i,hi⟩:=cS.mp hk;have e:=congrArg (λl:List Int=>l[i]?) h;unfold cF cH at e;rw [aC,aC,hi] at e;have e:a.getD k 0=b.getD k 0:=by simpa using e
 rw [aF,aF,aD h1,aD h2] at e;exact e
theorem MX{F W M:Nat}{es:List cG}{o ix:List Nat}(R:dB F W M es)(ok:cP F o)(pm:ix.Perm (List.range es.length))(srt:(es.map λe:cG=>(cF e.1 o).sum::cF e.1 o).Nodup->(ix.map λi=>(es.map λe:cG=>(cF e.1 o).sum::cF e.1 o).getD i []).Pairwise λa b=>jG a b=true) :
  iW es o (cH ([],[]) (es.map λe:cG=>(cF e.1 o,e.2)) ix):=by
 have hl:∀k∈ix,k<es.length:=λk hk=>bX.mp (pm.mem_iff.mp hk);refine ⟨?_,?_⟩
 ·unfold cH;refine (pm.map _).trans ?_;rw [show (List.range es.length).map (λk=>(es.map λe:cG=>(cF e.1 o,e.2)).getD k ([],[]))=es.map λe:cG=>(cF e.1 o,e.2) from ?_];refine List.ext_getElem? λi=>?_;rw [aC,aC];by_cases hi:i<es.length
  ·rw [cO hi,aD hi];show some (List.getD _ i _)=_;rw [aF,aC,aD hi];rfl
  ·rw [bH (by rw [bO];omega),bH Oo];rfl
 ·have nd:(es.map λe:cG=>(cF e.1 o).sum::cF e.1 o).Nodup:=by
   have h2:=gZ (f:=λc:List Int=>(cF c o).sum::cF c o) R.nd λx hx y hy e=>by
    obtain ⟨a,ha,rfl⟩:=aK.mp hx;obtain ⟨b,hb,rfl⟩:=aK.mp hy;injection e with _ e;exact sW ok (R.each a ha).1 (R.each b hb).1 e
   rw [List.map_map] at h2;exact h2
  have h1:=List.pairwise_map.mp (srt nd);unfold cH;rw [List.map_map,List.pairwise_map];refine h1.imp_of_mem λ{i j} hi hj h=>?_;have gi:∀k∈ix,∃e:cG,(es.map λe:cG=>(cF e.1 o).sum::cF e.1 o).getD k []=(cF e.1 o).sum::cF e.1 o/\((es.map λe:cG=>(cF e.1 o,e.2)).getD k ([],[])).1=cF e.1 o:=λk hk=>by
   have:=hl k hk;refine ⟨es[k],?_,?_⟩
   ·rw [aF,aC,aD this];rfl
   ·rw [aF,aC,aD this];rfl
  obtain ⟨a,a1,a2⟩:=gi i hi;obtain ⟨b,b1,b2⟩:=gi j hj;rw [a1,b1,pV] at h;show rk ((es.map λe:cG=>(cF e.1 o,e.2)).getD i ([],[])).1 ((es.map λe:cG=>(cF e.1 o,e.2)).getD j ([],[])).1;rw [a2,b2];by_cases q:(cF a.1 o).sum=(cF b.1 o).sum
  ·rw [if_pos q] at h;exact .inr ⟨q,h⟩
  ·rw [if_neg q] at h;exact .inl (of_decide_eq_true h)
section
theorem aDx{f cA tA:Addr}{fd:FuncData}(F:gH K "rule_faces_turned" "rule_faces_turned" FO f fd)(T:iV K mg c)(hcd:fd.code=.ref cA)(hh:KW K cA tA=true)(hbm:BM mg base)(FQ18:eF cR P w K mg base 3 "check_order" ["thing","many"] iS)(FQ46:eF cR P w K mg base 1 "rule_faces" ["rule"] (gC K))(FQ55:eF cR P w K mg base 1 "turned" ["things","order"] iR):dA P w K mg base cR 8 f fd ["rule","order"] (kH tA):=by
 refine F.okwL hcd aCB (λvs H Q E h=>?_) (λA outer s H vs Q E hr h=>?_)
 ·unfold kH at h;obtain ⟨r,b,es,F,W,M,o,rfl,_⟩:=h
  rfl
 ·unfold kH at h;obtain ⟨r,b,es,F,W,M,o,rfl,rr,R,Z,hb,ok,TO,q⟩:=h;have rr0:=rr;have l4:=ok.le;have lr:=R.len;have few:=R.few Z;refine ⟨_,(aU (jR (bJ FQ18 (hr.mono Dd) (aI (aJ 1) (aI (bJ FQ46 (hr.mono Dd) (aI (aJ 0) aE)) aE))))
   (aU (zX (i:=2) (dR.of (psc:=aO FO) (N:=["rule","order","entries"]) (xs:=["counts","says"]) (N':=["counts","says","order"]) (js:=[1]) Kk rfl rfl rfl) aCB.nd rfl rfl (gK (aJ 0)) (λ_ _ _ _=>dG) (λ_ _ _ _=>(dN (aI (bJ FQ55 (hr.mono Dd) (aI (aJ 0) (aI (aJ 2) aE))) (aI (aJ 1) aE)))))
   (bB (bR (hJ cJ (by rfl) T.b_tuple Kk (aI (SJ K (k:=4) (N:=["entry"]) (z := "entry") rfl hh hbm ⟨rfl,rfl,rfl,Kk,rfl,Kk,Kk⟩ (λ_ _ _ _=>rfl) (λB f c1 A outer s H E hr=>(dN (aI (dL (sF K rfl) (by rfl) T.b_sum Kk (aI (cC (fE K) (aJ 0) aN (λ_ _=>rfl)) aE)) (aI (cC (fE K) (aJ 0) aN (λ_ _=>rfl)) aE)))) (hr.mono Dd) (by rfl) T.b_sorted (aJ 2) rfl) aE)))))),?_⟩
  obtain ⟨ra,rxs,rfl,hra,rrx⟩:=tG rr;have hl0:∀e∈es,e.1.length=F:=λe he=>(R.each e he).1;refine ⟨_,rfl,_,rfl,?_⟩;obtain ⟨e0,r',ees,_⟩:=R.rkOk.head;refine nT (e:=e0) (es:=r') (by rw [<-ees];exact qA.of rr0) ?_;rw [hl0 e0 (by rw [ees];exact aG ..)];refine lI hb ok λH1 s1=>?_;refine ⟨_,rfl,ra,rfl,⟨_,dO.of (s1 _ _ hra)⟩,?_⟩;refine pX (λ_=>true) (λe x=>bQ H1 (yY e) x) (λe y H'=>bQ H' (yY (cF e.1 o,e.2)) y) (λw y H1 H2 s r=>r.flat s (sA _)) Oo (s1 _ _ hra) (Paired.ofRepL (rrx.same s1)) (λx e H' hm re s'=>?_) (λD ys H3 hD e3 s3 pr=>?_)
  ·obtain ⟨eb,u,v,rfl,heb,ru,rv⟩:=tU (re.same s');obtain ⟨cu,rfl,hcu⟩:=fS ru;refine ⟨eb,[.ref cu,v],rfl,dO.of heb,rfl,λQ' h=>h H' (aW.refl _),λH5 Q' s5 _ k'=>?_⟩;have hle:=hl0 e hm;refine ⟨_,rfl,_,rfl,?_⟩;refine jZ (s5 _ _ hcu) (s5 _ _ (s' _ _ (s1 _ _ hb))) (λk hk=>by rw [aA,hle];exact ok.lt k hk) (by rw [ok.len];omega) λc6 H6 s6 e6=>?_;refine ⟨_,rfl,?_⟩;refine qO (by show 2<=64;decide) λq7 H7 hq7 e7 s7=>?_;refine k' _ H7 (s6.trans s7) (bQ.tup e7 (aX.cons (nQ ?_) (aX.cons (rv.same ((s5.trans s6).trans s7)) aX.nil)));rw [s7 _ _ e6];congr 2;unfold qD cF cH;rw [List.map_map];refine bZ λk hk=>?_;have hk':k<e.1.length:=by rw [hle];exact ok.lt k hk
   show (e.1.map V.int).getD k .non=V.int (e.1.getD k 0);rw [aF,aC,aF,aD hk'];rfl
  ·rw [iN] at pr;have lys:ys.length=es.length:=pr.length.symm;have s13:=s1.trans s3;have TO3:=TO.same s13;obtain ⟨ps,hps⟩:=TO3.at_;refine ⟨_,rfl,?_⟩;unfold OC;refine ⟨D,ys,es.map λe=>(cF e.1 o).sum::cF e.1 o,rfl,eZ.of e3,Oo,TO3,by rw [aA,lys],λk hk=>?_,λi y k H' hy hk b'=>?_,λD2 ix H4 pm srt hD2 e4 b4 T4=>?_⟩
   ·obtain ⟨e,_,rfl⟩:=aK.mp hk;exact List.cons_ne_nil _ _
   ·obtain ⟨e,he,re⟩:=eG pr hy;rw [aC,he] at hk;cases hk;have t':fN H3 H':=λa xs ha=>b'.at (λz=>by rw [z,hps] at ha;cases ha) ha;obtain ⟨eb,u,v,rfl,heb,ru,rv⟩:=tU (re.flat t' (sA _));obtain ⟨cu,rfl,hcu⟩:=fS ru;refine ⟨_,rfl,?_⟩;refine lK heb rfl ?_;refine rsT (dO.of hcu) ?_;refine ⟨_,rfl,?_⟩;refine lK heb rfl ?_;refine qO (by show 2<=64;decide) λq7 H7 hq7 e7 s7=>⟨s7,?_⟩;exact bQ.tup e7 (aX.cons (bQ.int _) (aX.cons (nQ (s7 _ _ hcu)) aX.nil))
   ·refine ⟨D2,_,rfl,.inl ⟨eZ.of e4,λl hl=>?_⟩⟩;have sl:=aW.upd (o:=.tup (ix.map λi=>ys.getD i .non)) hl;have hix:∀k∈ix,k<(es.map λe:cG=>(cF e.1 o,e.2)).length:=λk hk=>by
     have:=bX.mp (pm.mem_iff.mp hk);rw [aA];omega
    have t4:fN H3 H4:=λa xs ha=>b4.at (λz=>by rw [z,hps] at ha;cases ha) ha;have r0:=Paired.toRepL (g:=λe:cG=>yY (cF e.1 o,e.2)) pr;have r1:aX H3 ((es.map λe:cG=>(cF e.1 o,e.2)).map yY) ys:=by rw [List.map_map];exact r0
    have r2:=lR (d:=(([],[]):cG)) ((r1.flat t4 (mJ _)).same sl) hix;refine q (.ref l) (cH ([],[]) (es.map λe:cG=>(cF e.1 o,e.2)) ix) _ ?_ (T4.same sl) ?_ (bQ.tup bE r2)
    ·refine aS.same ?_ sl;intro a ob ha;have n:=eM.ne ha;rw [eM.at n] at ha;exact eM.of n (b4.at n (s13 _ _ ha))
    ·exact MX R ok (by rw [<-lys];exact pm) srt
end
abbrev sQ4:Stmt:=(top 72)
theorem cQ4:bK ["_law_tape_here","_law_many","_law_left"] ["_law_tape_here","_law_many"] (aO sQ4):=⟨rfl,rfl,rfl,Kk,rfl,Kk,Kk⟩
@[irreducible] def lV:Sp:=λvs H Q _=>∃(p:Addr) (n m:Nat),vs=[.ref p,.int (m:Int)]/\cB H p (n+64)/\m<=4/\∀l o H',cB H' p n->aS p H H'->H' l=some (.tup ((iO o).map V.int))->cP m o->Q (.ref l) H'
theorem uO{H:Hp}{Q:VK}{E:XK}{p:Addr}{n m:Nat}(T:cB H p (n+64))(h2:m<=4)(k:∀l o H',cB H' p n->aS p H H'->H' l=some (.tup ((iO o).map V.int))->cP m o->Q (.ref l) H'):lV [.ref p,.int (m:Int)] H Q E:=by
 unfold lV;exact ⟨p,n,m,rfl,T,h2,k⟩
theorem PM(ss:List Nat)(b:Nat):((iO ss).map V.int).eraseIdx b=(iO (ss.eraseIdx b)).map V.int:=by
 induction ss generalizing b with
 | nil=>rfl
 | cons a ss ih =>
  cases b with
  | zero=>rfl
  | succ b=>show V.int _::((iO ss).map V.int).eraseIdx b=V.int _::(iO (ss.eraseIdx b)).map V.int;rw [ih]
theorem GF{ss:List Nat}{b:Nat}(h:b<ss.length):(ss[b]::ss.eraseIdx b).Perm ss:=by
 induction ss generalizing b with
 | nil=>simp at h
 | cons a ss ih =>
  cases b with
  | zero=>exact List.Perm.refl _
  | succ b =>
   have:=ih (b:=b) (by simpa using h);have hb:b<ss.length:=by simpa using h
   show (ss[b]::a::ss.eraseIdx b).Perm (a::ss);exact (List.Perm.swap _ _ _).trans (this.cons a)
section
theorem oQ4(F:gH K "_law_order" "_law_order" sQ4 f fd)(T:iV K mg c)(FQ5:eF cR P w K mg base 1 "_law_pick" ["_law_tape_here","_law_many"] jS):dA P w K mg base cR 2 f fd ["_law_tape_here","_law_many"] lV:=by
 refine F.oky cQ4 λvs H Q E h=>?_;unfold lV at h;obtain ⟨p,n,m,rfl,T0,m4,k⟩:=h;refine ⟨rfl,λcdv A outer s hr=>?_⟩;refine ⟨_,(aU (bV (i:=2) cQ4.nd rfl (Or.inr rfl) (GT rfl rfl T.b_list rfl T.b_range (aI (aJ 1) aE)))
  (bB (bR (hJ cJ (by rfl) T.b_tuple Kk (aI (eD (dJ.of (psc:=aO sQ4) (N:=["_law_tape_here","_law_many","_law_left"]) (N':=["_law_k","_law_tape_here","_law_left"]) (js:=[0,2]) Kk rfl rfl rfl) (dW rfl T.b_range (aI (aJ 1) aE)) (λ_ _ _ _=>dG) (λ_ _ _ _=>(MP K PySem.F.plainAttrs_list PySem.F.slot_list_pop PySem.F.type_list_pop OW (aJ 2) (aI (bJ FQ5 (hr.mono Dd) (aI (aJ 1) (aI (dL (IN K) (by rfl) T.b_len Kk (aI (aJ 2) aE)) aE))) aE)))) aE))))),?_⟩
 refine ⟨_,rfl,?_⟩;refine rlr Oo λL H1 hL e1 s1=>?_;have T1:=T0.same s1;have nLp:L≠p:=T0.ne hL;have e1':H1 L=some (.lst ((iO (List.range m)).map V.int)):=by rw [e1,List.map_map];rfl
 refine ⟨_,rfl,_,rfl,Oo,Oo,?_⟩;refine sD (J:=RX 0 m) (n:=m) (λi x=>True) Oo (λD i ys H'=>H1 D=none/\cB H' p (n+64-i)/\aS p H H'/\∃ss ts:List Nat,H' L=some (.lst ((iO ss).map V.int))/\ss.length+i=m/\ys=(iO ts).map V.int/\(ts++ss).Perm (List.range m))
  (λD H2 hD e2 s2=>⟨hD,T1.same s2,(s1.trans s2).but,_,[],s2 _ _ e1',by rw [bO];omega,rfl,List.Perm.refl _⟩) (λD i ys H' hi _ _=>⟨hi,λx H3 y=>⟨y.1,True.intro⟩⟩) (λD ys H' _ _=>aM _) (λD i x ys H' _ hi hy hD q=>?_) (λD ys H2 hy hD hD2 q=>?_)
 ·obtain ⟨hDn,T2,b2,ss,ts,e2,ls,rfl,pm⟩:=q;refine ⟨_,rfl,SO e2,_,rfl,_,rfl,?_⟩;have hsl:0<ss.length:=Oo;refine rlL e2 ?_;rw [aA,aA];refine eN (n:=n+64-(i+1)) (T2.less Oo) Oo (bitsle (bC (show ((ss.length:Int)).natAbs<=7 by omega) Dd)) λx H3 x0 x1 T3 b3=>?_;obtain ⟨b,rfl⟩:∃b:Nat,x=(b:Int):=⟨x.toNat,Oo⟩;have e3:=b3.at nLp e2;have nDp:D≠p:=T1.ne hDn;have nDL:D≠L:=λz=>by rw [z,e1] at hDn;cases hDn
  refine aAy e3 (by rw [aA,aA];omega) (by rw [aA,aA];omega) λH4 e4 b4=>?_;have hget:((iO ss).map V.int)[b]'(by rw [aA,aA];omega)=V.int ((ss[b]'Oo:Nat):Int):=by rw [List.getElem_map,List.getElem_map]
  rw [hget];refine ⟨b4.at nDL (b3.at nDp hD),λH6 e6 b6=>⟨hDn,(T3.but b4 nLp).but b6 nDp,?_,ss.eraseIdx b,ts++[ss[b]'Oo],?_,?_,?_,?_⟩⟩
  ·exact aS.thru (s1.free hDn) (aS.thru hL (b2.trans b3) b4) b6
  ·rw [b6.at (Ne.symm nDL) e4,PM]
  ·rw [List.length_eraseIdx,if_pos Oo];omega
  ·show _=((ts++[ss[b]'Oo]).map λk:Nat=>(k:Int)).map V.int;rw [bF,bF];rfl
  ·rw [List.append_assoc];exact ((GF Oo).append_left ts).trans pm
 ·obtain ⟨hDn,T2,b2,ss,ts,e2,ls,rfl,pm⟩:=q;have es:ss=[]:=List.eq_nil_of_length_eq_zero Oo;rw [es,List.append_nil] at pm;refine ⟨D,_,rfl,.inl ⟨eZ.of hD2,λl hl=>?_⟩⟩;have s3:=aW.upd (o:=.tup ((iO ts).map V.int)) hl;exact k l ts _ ((T2.same s3).less Oo) (b2.trans s3.but) bE ⟨pm,m4⟩
end
theorem CW{c d:List Int}{f:Fr}(h:d∈nexts c f):f≠(0,1)/\∃j,j<c.length/\d=bump c j:=by
 unfold nexts at h;by_cases q:f=(0,1)
 ·rw [if_pos q] at h;cases h
 ·rw [if_neg q] at h;obtain ⟨j,hj,rfl⟩:=aK.mp h;exact ⟨q,j,bX.mp hj,rfl⟩
theorem WW{c:List Int}{f:Fr}(hf:f≠(0,1)){j:Nat}(hj:j<c.length):bump c j∈nexts c f:=by
 unfold nexts;rw [if_neg hf];exact aK.mpr ⟨j,bX.mpr hj,rfl⟩
theorem xV{c:List Int}{i:Nat}{v:Int}(h:i<c.length):(c.set i v).getD i 0=v:=by
 rw [aF,List.getElem?_set_self h];rfl
theorem DN{c:List Int}{i j:Nat}{v:Int}(h:i≠j):(c.set i v).getD j 0=c.getD j 0:=by
 rw [aF,List.getElem?_set_ne h,aF]
section
variable{F W M:Nat}{es es':List cG}{o:List Nat}
theorem cP.nd(ok:cP F o):o.Nodup:=ok.perm.nodup_iff.mpr List.nodup_range
theorem cP.at_(ok:cP F o){j:Nat}(hj:j<F):o[j]?=some (o.getD j 0)/\o.getD j 0<F:=by
 have lo:=ok.len;have h:o[j]?=some (o.getD j 0):=by rw [aF,aD Oo];rfl
 exact ⟨h,ok.lt _ (bD h)⟩
theorem jJ(ok:cP F o)(c:List Int):(cF c o).length=F:=by unfold cF cH;rw [aA,ok.len]
theorem uE(ok:cP F o){c:List Int}(hc:c.length=F){j:Nat}(hj:j<F):bump (cF c o) j=cF (bump c (o.getD j 0)) o:=by
 have lo:=ok.len;obtain ⟨hoj,hlt⟩:=ok.at_ hj;rw [iE (by rw [jJ ok];exact hj),iE Oo];refine List.ext_getElem? λi=>?_;unfold cF cH;rw [aC];by_cases e:i=j
 ·subst e;rw [List.getElem?_set_self (by rw [aA];omega),hoj];show some ((List.map (λk=>c.getD k 0) o).getD i 0+1)=some ((c.set (o.getD i 0) (c.getD (o.getD i 0) 0+1)).getD (o.getD i 0) 0);rw [xV Oo,aF (l:=List.map _ o),aC,hoj];rfl
 ·rw [List.getElem?_set_ne (Ne.symm e),aC];cases q:o[i]? with
  | none=>rfl
  | some k =>
   show some (c.getD k 0)=some ((c.set _ _).getD k 0);rw [DN];intro z;refine e ((List.getElem?_inj (aY.mp q).1 ok.nd).mp ?_);rw [q,hoj,z]
theorem pF(ok:cP F o):cF (List.replicate F 0) o=List.replicate F 0:=by
 refine List.eq_replicate_iff.mpr ⟨jJ ok _,λx hx=>?_⟩;unfold cF cH at hx;obtain ⟨k,hk,rfl⟩:=aK.mp hx;rw [aF,List.getElem?_replicate,if_pos (ok.lt k hk)];rfl
theorem GU(ok:cP F o){c:List Int}(hn:∀x∈c,0<=x):∀x∈cF c o,0<=x:=λx hx=>by
 unfold cF cH at hx;obtain ⟨k,hk,rfl⟩:=aK.mp hx;rw [aF];cases e:c[k]? with
 | none=>exact Int.le_refl _
 | some v=>exact hn v (bD e)
theorem iW.mem(T:iW es o es'){d:cG}:d∈es' ↔ ∃e∈es,(cF e.1 o,e.2)=d:=by rw [T.perm.mem_iff,aK]
theorem iW.key(T:iW es o es'){c:List Int}:c∈es'.map (·.1) ↔ ∃d∈es.map (·.1),cF d o=c:=by
 rw [aK];constructor
 ·rintro ⟨d,hd',rfl⟩;obtain ⟨e,he,rfl⟩:=T.mem.mp hd';exact ⟨e.1,aK.mpr ⟨e,he,rfl⟩,rfl⟩
 ·rintro ⟨d,hd',rfl⟩;obtain ⟨e,he,rfl⟩:=aK.mp hd';exact ⟨_,T.mem.mpr ⟨e,he,rfl⟩,rfl⟩
theorem iW.ru(R:dB F W M es)(ok:cP F o)(T:iW es o es'):dB F W M es':=by
 have hl:=T.perm.length_eq;rw [aA] at hl;refine ⟨λz=>?_,HC T.rise,λd hd'=>?_,?_,by rw [hl];exact R.len,⟨λd hd' c hc=>?_,λc hc=>?_,?_⟩,T.rise⟩
 ·rw [z] at hl;exact R.ne (List.eq_nil_of_length_eq_zero hl.symm)
 ·obtain ⟨e,he,rfl⟩:=T.mem.mp hd';obtain ⟨a1,a2,a3,a4⟩:=R.each e he;exact ⟨jJ ok _,GU ok a2,by rw [iQ ok a1];exact a3,a4⟩
 ·exact List.pairwise_map.mpr ((List.pairwise_map.mp T.rise).imp λh=>by rcases h with h | h <;> omega)
 ·obtain ⟨e,he,rfl⟩:=T.mem.mp hd';obtain ⟨hn,j,hj,rfl⟩:=CW hc;have hj:j<F:=by rw [<-jJ ok e.1];exact hj
  have hl:=(R.each e he).1;refine .inl (T.key.mpr ⟨bump e.1 (o.getD j 0),?_,(uE ok hl hj).symm⟩);exact (R.on (c:=e.1) (fs:=e.2) he hn (ok.at_ hj).2).1
 ·rcases hc with hc | hc
  ·obtain ⟨d,hd',rfl⟩:=T.key.mp hc;rcases R.clo.bwd d (.inl hd') with z | ⟨e,he,hn⟩
   ·exact .inl (by rw [z];exact pF ok)
   ·obtain ⟨h1,i,hi,rfl⟩:=CW hn;have hl:=(R.each e he).1;have hm:i∈o:=ok.perm.mem_iff.mpr (bX.mpr Oo);obtain ⟨j,hj⟩:=cS.mp hm;have hjF:j<F:=by have:=(aY.mp hj).1;rw [ok.len] at this;exact this
    have ej:o.getD j 0=i:=by rw [aF,hj];rfl
    refine .inr ⟨_,T.mem.mpr ⟨e,he,rfl⟩,?_⟩;rw [<-ej,<-uE ok hl hjF];exact WW h1 (by rw [jJ ok];exact hjF)
  ·cases hc
 ·exact .inl (T.key.mpr ⟨_,SA R,pF ok⟩)
theorem GX{α:Type}{l m:List α}(h:l.Perm m)(f:α->Int):sm l f=sm m f:=pR (h.map f)
theorem HR(ok:cP F o):(List.range F).map (λj=>o.getD j 0)=o:=by
 refine List.ext_getElem? λi=>?_;rw [aC];by_cases hi:i<F
 ·rw [cO hi,(ok.at_ hi).1];rfl
 ·rw [bH (by rw [bO];omega),bH (by rw [ok.len];omega)];rfl
theorem KR(ok:cP F o){d c:List Int}(hd':d.length=F)(hc:c.length=F):hits F (cF d o) (cF c o)=hits F d c:=by
 unfold hits;refine Eq.trans ?_ (GX ok.perm _)
 conv=>rhs;rw [<-HR ok]
 rw [FK];refine iZ λj hj=>?_;have hj:=bX.mp hj;have h2:=(ok.at_ hj).2;rw [<-vN (by rw [jJ ok];exact hj),uE ok hd' hj,<-vN Oo];by_cases e:bump d (o.getD j 0)=c
 ·rw [if_pos e,if_pos (by rw [e])]
 ·rw [if_neg e,if_neg λz=>e (sW ok (by rw [iE Oo,List.length_set];exact hd') hc z)]
theorem IQ(R:dB F W M es)(Z:eU F W M)(ok:cP F o)(T:iW es o es'):∀(n:Nat) (c:List Int),c.length=F->Wn F (gO es') n (cF c o)=Wn F (gO es) n c
 | 0,c,hc=>by
  unfold Wn Dn mC;rw [eK,oU,eK,oU,QR];by_cases e:List.replicate F 0=c
  ·rw [if_pos e,if_pos (by rw [<-e,pF ok])];rfl
  ·rw [if_neg e,if_neg λz=>e (sW ok bU hc (by rw [pF ok];exact z))]
 | n+1,c,hc=>by
  have R':=T.ru R ok;rw [(R'.rl Z).succ,(R.rl Z).succ];have pk:(es'.map (·.1)).Perm ((es.map (·.1)).map λc=>cF c o):=by
   have:=T.perm.map (·.1);rw [List.map_map] at this ⊢;exact this
  rw [GX pk,FK];refine iZ λd hd'=>?_;obtain ⟨e,he,rfl⟩:=aK.mp hd';have hl:=(R.each e he).1;rw [IQ R Z ok T n e.1 hl,KR ok hl hc];have g1:gO es' (cF e.1 o)=gO es e.1:=by
   have h1:=uR R' (T.mem.mpr ⟨e,he,rfl⟩);have h2:=uR R he;exact h1.trans h2.symm
  rw [g1]
theorem XA(R:dB F W M es)(Z:eU F W M)(ok:cP F o)(T:iW es o es'){c:List Int}(hc:c.length=F):Wc F (gO es') (cF c o)=Wc F (gO es) c:=by
 unfold Wc;rw [iQ ok hc];exact IQ R Z ok T _ c hc
theorem EF(R:dB F W M es)(Z:eU F W M)(ok:cP F o)(T:iW es o es'){c:List Int}(hc:c.length=F):amf F es' (cF c o)=amf F es c:=by
 unfold amf;rw [XA R Z ok T hc,iQ ok hc]
end
theorem JG{l m:List Rat}(h:l.Perm m):sZ l=sZ m:=by
 induction h with
 | nil=>rfl
 | cons x _ ih=>show x+sZ _=x+sZ _;rw [ih]
 | swap x y l=>show y+(x+sZ l)=x+(y+sZ l);grind
 | trans _ _ h1 h2=>exact h1.trans h2
theorem pI{l m:List Fr}(h:l.Perm m)(hl:∀f∈l,fF f):nX l=nX m:=by
 have hm:∀f∈m,fF f:=λf hf=>hl f (h.mem_iff.mpr hf);refine aAj (vU _ hl) (vU _ hm) ?_;rw [NU _ hl,NU _ hm];exact JG (h.map rv)
theorem pG{α β:Type}(f:α->β){d:α}{e:β}{l:List α}{o:List Nat}(ho:∀k∈o,k<l.length):(cH d l o).map f=cH e (l.map f) o:=by
 unfold cH;rw [List.map_map];refine bZ λk hk=>?_;have:=ho k hk;show f (l.getD k d)=(l.map f).getD k e;rw [aF,aF,aC,aD this];rfl
theorem kG{α:Type}{d:α}{n:Nat}{l:List α}{o:List Nat}(ok:cP n o)(hl:l.length=n):(cH d l o).Perm l:=by
 unfold cH;refine (ok.perm.map _).trans ?_;rw [<-hl];have:(List.range l.length).map (λk=>l.getD k d)=l:=by
  refine List.ext_getElem? λi=>?_;rw [aC];by_cases hi:i<l.length
  ·rw [cO hi,aD hi];show some (l.getD i d)=_;rw [aF,aD hi];rfl
  ·rw [bH (by rw [bO];omega),bH Oo];rfl
 rw [this]
theorem dX.turn{n:Nat}{fs:List Fr}{o:List Nat}(h:dX n fs)(ok:cP n o):dX n (cH (0,1) fs o):=by
 obtain ⟨ns,h1,h2,h3,rfl⟩:=h.ex;have p:=kG (d:=(0:Int)) ok h1;have es:=pR p;refine ⟨cH 0 ns o,by rw [p.length_eq,h1],λx hx=>?_,by rw [es];exact h3,?_⟩
 ·exact h2 x (p.mem_iff.mp hx)
 ·rw [es];exact (pG (λx=>lw x ns.sum) λk hk=>by rw [h1];exact ok.lt k hk).symm
theorem WA{l m:List (Int × Nat)}(h:l.Perm m):l.foldr (λq p=>q.1^q.2*p) 1=m.foldr (λq p=>q.1^q.2*p) 1:=by
 induction h with
 | nil=>rfl
 | cons x _ ih=>rw [List.foldr_cons,List.foldr_cons,ih]
 | swap x y l=>rw [List.foldr_cons,List.foldr_cons,List.foldr_cons,List.foldr_cons,Int.mul_left_comm]
 | trans _ _ h1 h2=>exact h1.trans h2
theorem VZ{n:Nat}{o:List Nat}(ok:cP n o){xs:List Int}{ks:List Nat}(hx:xs.length=n)(hk:ks.length=n):gX (cH 0 xs o) (cH 0 ks o)=gX xs ks:=by
 unfold gX;have e:(cH 0 xs o).zip (cH 0 ks o)=cH (0,0) (xs.zip ks) o:=by
  unfold cH;rw [List.zip_map'];refine bZ λk hk'=>?_;have hlt:=ok.lt k hk';rw [aF,aF,aF,aD (show k<xs.length by omega),aD (show k<ks.length by omega),aD (show k<(xs.zip ks).length by rw [List.length_zip];omega),List.getElem_zip]
  rfl
 rw [e];exact WA (kG ok (by rw [List.length_zip];omega))
section
variable{F W M:Nat}{es es':List cG}{o:List Nat}{sh:List Fr}
theorem MF(hs:dX F sh)(ok:cP F o){c:List Int}(hl:c.length=F)(hn:∀x∈c,0<=x):LZ (cH (0,1) sh o) (cF c o)=LZ sh c:=by
 have h4:=ok.le;have ls:=hs.len;rw [EO (hs.turn ok) Oo (jJ ok c) (GU ok hn),EO hs Oo hl hn,iQ ok hl];congr 1;have e1:(cH (0,1) sh o).map gF=cH 0 (sh.map gF) o:=pG gF λk hk=>by rw [ls];exact ok.lt k hk
 have e2:cN (cF c o)=cH 0 (cN c) o:=pG _ λk hk=>by rw [hl];exact ok.lt k hk
 rw [e1,e2];exact VZ ok (by rw [aA];exact ls) (by unfold cN;rw [aA];exact hl)
def tQ(o:List Nat)(q:cG × Fr):cG × Fr:=((cF q.1.1 o,q.1.2),q.2)
theorem uD(R:dB F W M es)(Z:eU F W M)(ok:cP F o)(T:iW es o es')(hs:dX F sh):(came F es' (cH (0,1) sh o)).Perm ((came F es sh).map (tQ o)):=by
 unfold came;have:=T.perm.map λe=>(e,gJ (amf F es' e.1) (LZ (cH (0,1) sh o) e.1));rw [List.map_map] at this;rw [List.map_map];have e:es.map ((λe:cG=>(e,gJ (amf F es' e.1) (LZ (cH (0,1) sh o) e.1))) ∘ λe=>(cF e.1 o,e.2))=es.map (tQ o ∘ λe=>(e,gJ (amf F es e.1) (LZ sh e.1))):=bZ λe he=>by
  obtain ⟨h1,h2,_⟩:=R.each e he;show ((cF e.1 o,e.2),gJ (amf F es' (cF e.1 o)) (LZ (cH (0,1) sh o) (cF e.1 o)))=((cF e.1 o,e.2),gJ (amf F es e.1) (LZ sh e.1));rw [EF R Z ok T h1,MF hs ok h1 h2]
 rw [e] at this;exact this
theorem yI(R:dB F W M es)(Z:eU F W M)(ok:cP F o)(T:iW es o es')(hs:dX F sh){i:Nat}(hi:i<W):hZ (came F es' (cH (0,1) sh o)) i=hZ (came F es sh) i:=by
 have p:=(uD R Z ok T hs).map λq=>gJ q.2 (q.1.2.getD (1+i) (0,1));rw [List.map_map] at p;unfold hZ;refine (pI p λf hf=>(AO (jX (T.ru R ok) Z (hs.turn ok)) Z.w.2 hi f hf).low).trans ?_
 rfl
theorem CS(R:dB F W M es)(Z:eU F W M)(ok:cP F o)(T:iW es o es')(hs:dX F sh):(onw (came F es' (cH (0,1) sh o))).Perm (onw (came F es sh)):=by
 have p:=((uD R Z ok T hs).filter RS).map λq=>(q.1.1.sum,gJ q.2 (hd q.1.2));unfold onw;refine p.trans ?_;rw [List.filter_map,List.map_map];have e1:(came F es sh).filter (RS ∘ tQ o)=(came F es sh).filter RS:=List.filter_congr λq hq=>rfl;rw [e1];have e2:((came F es sh).filter RS).map ((λq:cG × Fr=>(q.1.1.sum,gJ q.2 (hd q.1.2))) ∘ tQ o)=((came F es sh).filter RS).map λq=>(q.1.1.sum,gJ q.2 (hd q.1.2)):=bZ λq hq=>by
  have hq:=(dI.mp hq).1;unfold came at hq;obtain ⟨e,he,rfl⟩:=aK.mp hq;show ((cF e.1 o).sum,_)=(e.1.sum,_);rw [iQ ok (R.each e he).1]
  rfl
 rw [e2]
theorem WX(R:dB F W M es)(Z:eU F W M)(ok:cP F o)(T:iW es o es')(hs:dX F sh):avF (onw (came F es' (cH (0,1) sh o)))=avF (onw (came F es sh)):=by
 unfold avF;refine pI ((CS R Z ok T hs).map _) λf hf=>?_;obtain ⟨x,hx,rfl⟩:=aK.mp hf;exact ((AT (jX (T.ru R ok) Z (hs.turn ok)) Z.w.2).fk x hx).low
theorem SV(R:dB F W M es)(Z:eU F W M)(ok:cP F o)(T:iW es o es')(hs:dX F sh){cs:List Fr}(hc:vD M cs):spF cs (onw (came F es' (cH (0,1) sh o)))=spF cs (onw (came F es sh)):=by
 unfold spF;exact pI ((CS R Z ok T hs).map _) λf hf=>(XU (AT (jX (T.ru R ok) Z (hs.turn ok)) Z.w.2) hc f hf).low
theorem QA(R:dB F W M es)(Z:eU F W M)(ok:cP F o)(T:iW es o es')(hs:dX F sh)(n:Nat):qC (came F es' (cH (0,1) sh o)) n=qC (came F es sh) n:=by
 have p:=((uD R Z ok T hs).filter λq=>decide (q.1.1.sum=(n:Int))).map λq=>gJ q.2 (nY (1,1) (wK (hd q.1.2)));unfold qC;refine (pI p λf hf=>(QB (jX (T.ru R ok) Z (hs.turn ok)) Z.w.2 n f hf).low).trans ?_;rw [List.filter_map,List.map_map];have e1:(came F es sh).filter ((λq:cG × Fr=>decide (q.1.1.sum=(n:Int))) ∘ tQ o)=(came F es sh).filter λq=>decide (q.1.1.sum=(n:Int)):=List.filter_congr λq hq=>by
  unfold came at hq;obtain ⟨e,he,rfl⟩:=aK.mp hq;show decide ((cF e.1 o).sum=(n:Int))=decide (e.1.sum=(n:Int));rw [iQ ok (R.each e he).1]
 rw [e1]
 rfl
end
theorem JU{W:Nat}{fs:List Fr}{o:List Nat}(hl:fs.length=1+W)(ok:cP W o):(nB fs o).Perm fs:=by
 unfold nB;have h:=(kG (d:=((0,1):Fr)) (l:=fs.drop 1) ok (by rw [List.length_drop];omega)).append_left (fs.take 1);rw [List.take_append_drop] at h;exact h
theorem pQ{W:Nat}{fs:List Fr}{o:List Nat}(hl:fs.length=1+W):hd (nB fs o)=hd fs:=by
 cases fs with
 | nil=>simp at hl;omega
 | cons f r=>rfl
theorem TB{W:Nat}{fs:List Fr}{o:List Nat}(hl:fs.length=1+W)(ok:cP W o){j:Nat}(hj:j<W):(nB fs o).getD (1+j) (0,1)=fs.getD (1+o.getD j 0) (0,1):=by
 cases fs with
 | nil=>simp at hl;omega
 | cons f r =>
  have lr:r.length=W:=by simp at hl;omega
  show (f::cH (0,1) r o).getD (1+j) (0,1)=(f::r).getD (1+o.getD j 0) (0,1);rw [Nat.add_comm 1 j,List.getD_cons_succ,Nat.add_comm 1 (o.getD j 0),List.getD_cons_succ];unfold cH;obtain ⟨h1,h2⟩:=ok.at_ hj;rw [aF,aC,h1];rfl
theorem dX.say{W:Nat}{fs:List Fr}{o:List Nat}(h:dX (1+W) fs)(ok:cP W o):dX (1+W) (nB fs o):=by
 obtain ⟨ns,h1,h2,h3,rfl⟩:=h.ex;have p:(ns.take 1++cH 0 (ns.drop 1) o).Perm ns:=by
  have h:=(kG (d:=(0:Int)) (l:=ns.drop 1) ok (by rw [List.length_drop];omega)).append_left (ns.take 1);rw [List.take_append_drop] at h;exact h
 have es:=pR p;refine ⟨ns.take 1++cH 0 (ns.drop 1) o,by rw [p.length_eq,h1],λx hx=>h2 x (p.mem_iff.mp hx),by rw [es];exact h3,?_⟩;rw [es];unfold nB;rw [bF,List.map_take,pG (e:=((0,1):Fr)) (λx=>lw x ns.sum) (λk hk=>by rw [List.length_drop];have:=ok.lt k hk;omega),List.map_drop]
section
variable{F W M:Nat}{es:List cG}{o:List Nat}{sh:List Fr}
theorem lZ(es:List cG)(o:List Nat):(uP es o).map (·.1)=es.map (·.1):=by unfold uP;rw [List.map_map];rfl
theorem vI{d:cG}:d∈uP es o ↔ ∃e∈es,(e.1,nB e.2 o)=d:=aK
theorem NV(R:dB F W M es)(ok:cP W o):dB F W M (uP es o):=by
 refine ⟨λz=>R.ne (List.map_eq_nil_iff.mp z),by rw [lZ];exact R.nd,λd hd'=>?_,?_,by unfold uP;rw [aA];exact R.len,⟨λd hd' c hc=>?_,λc hc=>?_,?_⟩,by rw [lZ];exact R.rise⟩
 ·obtain ⟨e,he,rfl⟩:=vI.mp hd';obtain ⟨a1,a2,a3,a4⟩:=R.each e he;exact ⟨a1,a2,a3,a4.say ok⟩
 ·have:=R.asc;unfold uP;rw [List.map_map];exact this
 ·obtain ⟨e,he,rfl⟩:=vI.mp hd';rw [pQ (R.each e he).2.2.2.len] at hc;rw [lZ];exact R.clo.fwd e he c hc
 ·rw [lZ] at hc;rcases R.clo.bwd c hc with z | ⟨e,he,hn⟩
  ·exact .inl z
  ·exact .inr ⟨_,vI.mpr ⟨e,he,rfl⟩,by rw [pQ (R.each e he).2.2.2.len];exact hn⟩
 ·rw [lZ];exact R.clo.zero
theorem PR(R:dB F W M es)(ok:cP W o):gO (uP es o)=gO es:=by
 have R':=NV R ok
 funext c
 by_cases h:c∈es.map (·.1)
 ·obtain ⟨e,he,rfl⟩:=aK.mp h;have h1:=uR R' (vI.mpr ⟨e,he,rfl⟩);have h2:=uR R he;rw [pQ (R.each e he).2.2.2.len] at h1;exact h1.trans h2.symm
 ·have q:∀{ds:List cG},c ∉ ds.map (·.1)->gO ds c=0:=λ{ds} hn=>by
   unfold gO;cases z:eB ds c with
   | none=>rfl
   | some fs=>exact absurd (aK.mpr ⟨_,nA z,rfl⟩) hn
  rw [q h,q (by rw [lZ];exact h)]
theorem LR(R:dB F W M es)(ok:cP W o):uF F (uP es o)=uF F es:=by
 unfold uF;rw [PR R ok];unfold uP;rw [List.map_map]
 rfl
def tW(o:List Nat)(q:cG × Fr):cG × Fr:=((q.1.1,nB q.1.2 o),q.2)
theorem uC(R:dB F W M es)(ok:cP W o)(sh:List Fr):came F (uP es o) sh=(came F es sh).map (tW o):=by
 unfold came amf;rw [PR R ok];unfold uP;rw [List.map_map,List.map_map]
 rfl
theorem sG(R:dB F W M es):∀q∈came F es sh,q.1.2.length=1+W:=λq hq=>by
 unfold came at hq;obtain ⟨e,he,rfl⟩:=aK.mp hq;exact (R.each e he).2.2.2.len
theorem yH(R:dB F W M es)(ok:cP W o)(sh:List Fr){j:Nat}(hj:j<W):hZ (came F (uP es o) sh) j=hZ (came F es sh) (o.getD j 0):=by
 unfold hZ;rw [uC R ok,List.map_map];congr 1;refine bZ λq hq=>?_;show gJ q.2 ((nB q.1.2 o).getD (1+j) (0,1))=_;rw [TB (sG R q hq) ok hj]
theorem OT(R:dB F W M es)(ok:cP W o)(sh:List Fr):onw (came F (uP es o) sh)=onw (came F es sh):=by
 unfold onw;rw [uC R ok,List.filter_map,List.map_map];have e1:(came F es sh).filter (RS ∘ tW o)=(came F es sh).filter RS:=List.filter_congr λq hq=>by
  show decide (0<(hd (nB q.1.2 o)).1)=decide (0<(hd q.1.2).1);rw [pQ (sG R q hq)]
 rw [e1];refine bZ λq hq=>?_;show (q.1.1.sum,gJ q.2 (hd (nB q.1.2 o)))=_;rw [pQ (sG R q (dI.mp hq).1)]
theorem PZ(R:dB F W M es)(ok:cP W o)(sh:List Fr)(n:Nat):qC (came F (uP es o) sh) n=qC (came F es sh) n:=by
 unfold qC;rw [uC R ok,List.filter_map,List.map_map];congr 1;refine bZ λq hq=>?_;show gJ q.2 (nY (1,1) (wK (hd (nB q.1.2 o))))=_;rw [pQ (sG R q (dI.mp hq).1)]
theorem SC(R:dB F W M es)(ok:cP W o){ws:List (Str × List Fr)}(hw:ws.length=W){k:Nat}(hk:k<W):XF F (uP es o) (cH w0 ws o) k=XF F es ws (o.getD k 0):=by
 unfold XF;have e:(cH w0 ws o).getD k ("",[])=ws.getD (o.getD k 0) ("",[]):=by
  unfold cH;rw [aF,aC,(ok.at_ hk).1];rfl
 rw [e,yH R ok _ hk]
theorem FR(R:dB F W M es)(ok:cP W o):((uP es o).all λe=>decide ((1,1)∈e.2))=es.all λe=>decide ((1,1)∈e.2):=by
 unfold uP;rw [List.all_map];have q:∀e∈es,(((λe:cG=>decide (((1,1):Fr)∈e.2)) ∘ λe:cG=>(e.1,nB e.2 o)) e=true↔decide (((1,1):Fr)∈e.2)=true):=λe he=>by
  show decide (((1,1):Fr)∈nB e.2 o)=true↔_;rw [decide_eq_true_eq,decide_eq_true_eq];exact (JU (R.each e he).2.2.2.len ok).mem_iff
 rw [Bool.eq_iff_iff,List.all_eq_true,List.all_eq_true];exact ⟨λh e he=>(q e he).mp (h e he),λh e he=>(q e he).mpr (h e he)⟩
theorem xW.ways{fs:List Str}{ws:List (Str × List Fr)}(T:xW F W fs ws)(ok:cP W o):xW F W fs (cH w0 ws o):=by
 have p:=kG (d:=w0) ok T.w;exact ⟨T.f,by rw [p.length_eq];exact T.w,λx hx=>T.sh x (p.mem_iff.mp hx)⟩
theorem xW.faces{fs:List Str}{ws:List (Str × List Fr)}(T:xW F W fs ws)(ok:cP F o):xW F W (cH "" fs o) (fturn ws o):=by
 refine ⟨by rw [(kG (d:=("" : Str)) ok T.f).length_eq];exact T.f,by unfold fturn;rw [aA];exact T.w,λx hx=>?_⟩;unfold fturn at hx;obtain ⟨w,hw,rfl⟩:=aK.mp hx;exact (T.sh w hw).turn ok
end
abbrev TQ:Stmt:=(top 39)
theorem aEG:bK ["rule"] ["rule"] (aO TQ):=⟨rfl,rfl,rfl,Kk,rfl,Kk,Kk⟩
abbrev sQ0:Stmt:=(top 73)
theorem cQ0:bK ["_law_trial_here","_law_rule_here","_law_way","_law_costs","_law_told"] ["_law_trial_here","_law_rule_here","_law_way","_law_costs"] (aO sQ0):=⟨rfl,rfl,rfl,Kk,rfl,Kk,Kk⟩
@[irreducible] def kD:Sp:=λvs H Q _=>∃(x:V) (es:List cG),vs=[x]/\bQ H (wF es) x/\es.length<=1000/\∀H',aW H H'->Q (.bl (es.all λe=>decide ((1,1)∈e.2))) H'
theorem qE{H:Hp}{Q:VK}{E:XK}{x:V}{es:List cG}(h1:bQ H (wF es) x)(h2:es.length<=1000)(k:∀H',aW H H'->Q (.bl (es.all λe=>decide ((1,1)∈e.2))) H'):kD [x] H Q E:=by
 unfold kD;exact ⟨x,es,rfl,h1,h2,k⟩
theorem aCt(fs:List Fr):fs.map fM=(fs.map λf=>[f.1,f.2]).map fG:=by
 rw [List.map_map];rfl
theorem aCs(fs:List Fr):decide ([(1:Int),1]∈fs.map λf=>[f.1,f.2])=decide (((1:Int),(1:Int))∈fs):=by
 rw [decide_eq_decide,aK];constructor
 ·rintro ⟨f,hf,e⟩;injection e with e1 e2;injection e2 with e2 _;have:f=(1,1):=by cases f;simp at e1 e2;rw [e1,e2]
  rw [<-this];exact hf
 ·intro h;exact ⟨_,h,rfl⟩
theorem QX{P:Nat->Bool->Prop}:∀{ys:List V},(∀(i:Nat) (y:V),ys[i]?=some y->∃n,y=.bl n/\P i n)->∃ns:List Bool,ys=ns.map V.bl/\∀(i:Nat) n,ns[i]?=some n->P i n
 | [],_=>⟨[],rfl,λi n h=>by simp at h⟩
 | y::ys,h=>by
  obtain ⟨n,rfl,hn⟩:=h 0 y rfl;obtain ⟨ns,rfl,hs⟩:=QX (P:=λi=>P (i+1)) (ys:=ys) λi z hz=>h (i+1) z (by simpa using hz);refine ⟨n::ns,rfl,λi m hm=>?_⟩;cases i with
  | zero=>cases (show n=m by simpa using hm);exact hn
  | succ i=>exact hs i m (by simpa using hm)
section
theorem aDN(F:gH K "is_plain" "is_plain" TQ f fd)(T:iV K mg c):dA P w K mg base cR 1 f fd ["rule"] kD:=by
 refine F.oky aEG λvs H Q E h=>?_;unfold kD at h;obtain ⟨x,es,rfl,rx,hl,k⟩:=h;refine ⟨rfl,λcdv A outer s hr=>?_⟩;obtain ⟨a,xs,rfl,ha,rxs⟩:=tG rx;refine ⟨_,(bB (bR (dL (wY rfl) (by rfl) T.b_all Kk (aI (eD (dJ.of (psc:=aO TQ) (N:=["rule"]) (N':=["entry"]) (js:=[]) Kk rfl rfl rfl) (gK (aJ 0)) (λ_ _ _ _=>dG) (λ_ _ _ _=>(iK (aAN K hr.units) (lG (v:=.ref c.ONE) rfl T.g_ONE rfl) (cC (fE K) (aJ 0) aN (λ_ _=>rfl)) (by with_unfolding_all rfl)))) aE)))),?_⟩;refine ⟨_,rfl,a,rfl,⟨_,dO.of ha⟩,?_⟩;refine gE (λi y H'=>∃e,es[i]?=some e/\y=.bl (decide ((1,1)∈e.2))) (λi y H1 H2 s h=>h) (by rw [rxs.len,aA];omega) ha (λi x H' Q' hx s' k'=>?_) (λD ys H8 hD hD8 s8 hy8 hr8=>?_)
 ·obtain ⟨e,he,re⟩:=rxs.atI hx;obtain ⟨b,u,v,rfl,hb,ru,rv⟩:=tU (re.same s');obtain ⟨av,vs,rfl,hav,rvs⟩:=mZ rv;refine ⟨_,rfl,?_⟩;refine lK hb rfl ?_;refine riT (cs:=e.2.map λf=>[f.1,f.2]) (c:=[1,1]) (.inr (dO.of hav)) (by rw [<-aCt];exact rvs) ?_ ?_
  ·exact dU.tup (kO T.o_ONE) (cX.ints [1,1])
  ·rw [if_neg Dd,aCs];exact k' _ H' (aW.refl _) ⟨e,he,rfl⟩
 ·obtain ⟨bs,rfl,hbs⟩:=QX (P:=λi b=>∃e,es[i]?=some e/\b=decide ((1,1)∈e.2)) (λi y hi=>by
   obtain ⟨e,h1,h2⟩:=hr8 i y hi;exact ⟨_,h2,e,h1,rfl⟩)
  refine rall hD8 ?_;have eb:bs=es.map λe=>decide ((1,1)∈e.2):=by
   apply List.ext_getElem?;intro i;rw [aC];rw [aA,rxs.len,aA] at hy8;cases q:bs[i]? with
   | none =>
    have:bs.length<=i:=List.getElem?_eq_none_iff.mp q;rw [bH Oo];rfl
   | some b =>
    obtain ⟨e,h1,h2⟩:=hbs i b q;rw [h1,h2];rfl
  rw [eb,List.all_map];exact k H8 s8
end
def vB(W L F:Nat)(es:List cG)(ws:List (Str × List Fr))(i:Nat)(cs:List Fr):List PyData :=
 [lO ((List.range W).map λj=>hZ (came F es (ws.getD i ("",[])).2) j),lO ((List.range (L+1)).map λn=>qC (came F es (ws.getD i ("",[])).2) n),fM (avF (onw (came F es (ws.getD i ("",[])).2))),fM (spF cs (onw (came F es (ws.getD i ("",[])).2))),fM (XF F es ws i)]
theorem rO{F W M:Nat}{es:List cG}(R:dB F W M es):∃e,es.getLast?=some e/\e∈es/\∀d∈es,d.1.sum<=e.1.sum:=by
 obtain ⟨e,he⟩:∃e,es.getLast?=some e:=by
  cases h:es.getLast? with
  | none=>exact absurd (List.getLast?_eq_none_iff.mp h) R.ne
  | some e=>exact ⟨e,rfl⟩
 obtain ⟨ys,rfl⟩:=List.getLast?_eq_some_iff.mp he;refine ⟨e,he,aL _ (bM.mpr rfl),λd hd'=>?_⟩;have h:=List.pairwise_map.mp R.asc;rcases cM.mp hd' with q | q
 ·exact (List.pairwise_append.mp h).2.2 d q e (bM.mpr rfl)
 ·rw [bM.mp q];exact Int.le_refl _
@[irreducible] def pN(K:PySem.W.Frag):Sp:=λvs H Q _=>∃(t r cv:V) (es:List cG) (F W M L:Nat) (fs:List Str) (ws:List (Str × List Fr)) (i:Nat) (cs:List Fr) (e:cG),vs=[t,r,.int (i:Int),cv]/\bQ H (lN fs ws) t/\bQ H (wF es) r/\dB F W M es/\eU F W M/\xW F W fs ws/\i<W/\bQ H (lO cs) cv/\vD M cs/\es.getLast?=some e/\e.1.sum=(L:Int) /\
 ∀D vs H',aW H H'->H D=none->H' D=some (.lst vs)->aX H' (vB W L F es ws i cs) vs->Q (.ref D) H'
theorem pM{K:PySem.W.Frag}{H:Hp}{Q:VK}{E:XK}{t r cv:V}{es:List cG}{F W M L:Nat}{fs:List Str}{ws:List (Str × List Fr)}{i:Nat}{cs:List Fr}{e:cG}(h1:bQ H (lN fs ws) t)(h2:bQ H (wF es) r)(h3:dB F W M es)(h4:eU F W M)(h5:xW F W fs ws)(h6:i<W)(h7:bQ H (lO cs) cv)(h8:vD M cs)(h9:es.getLast?=some e)(h10:e.1.sum=(L:Int))
  (q:∀D vs H',aW H H'->H D=none->H' D=some (.lst vs)->aX H' (vB W L F es ws i cs) vs->Q (.ref D) H'):pN K [t,r,.int (i:Int),cv] H Q E:=by
 unfold pN;exact ⟨t,r,cv,es,F,W,M,L,fs,ws,i,cs,e,rfl,h1,h2,h3,h4,h5,h6,h7,h8,h9,h10,q⟩
section
theorem oQ0(F:gH K "_law_all" "_law_all" sQ0 f fd)(T:iV K mg c)(FQ50:eF cR P w K mg base 5 "said" ["trial","rule","way"] (rB K))(FQ23:eF cR P w K mg base 5 "ended" ["trial","rule","way"] (oS K))(FQ17:eF cR P w K mg base 6 "average" ["trial","rule","way"] (kU K))(FQ52:eF cR P w K mg base 6 "spent" ["trial","rule","way","costs"] (oH K))(FQ60:eF cR P w K mg base 5 "wrong" ["trial","rule"] (oF K)):dA P w K mg base cR 7 f fd ["_law_trial_here","_law_rule_here","_law_way","_law_costs"] (pN K):=by
 refine F.oky cQ0 λvs H Q E h=>?_;unfold pN at h;obtain ⟨t,r,cv,es,F,W,M,L,fs,ws,i,cs,e,rfl,rt,rr,R,Z,TT,hi,rc,hc,he,hL,q⟩:=h;refine ⟨rfl,λcdv A outer s hr=>?_⟩;refine ⟨_,(aU (bV (i:=4) cQ0.nd rfl (Or.inl rfl) (eW (aI (bJ FQ50 (hr.mono Dd) (aI (aJ 0) (aI (aJ 1) (aI (aJ 2) aE)))) (aI (bJ FQ23 (hr.mono Dd) (aI (aJ 0) (aI (aJ 1) (aI (aJ 2) aE)))) (aI (bJ FQ17 (hr.mono Dd) (aI (aJ 0) (aI (aJ 1) (aI (aJ 2) aE)))) aE)))))
  (bB (bR (cT aAP (aJ 4) (eW (aI (bJ FQ52 (hr.mono Dd) (aI (aJ 0) (aI (aJ 1) (aI (aJ 2) (aI (aJ 3) aE))))) (aI (cC bY (bJ FQ60 (hr.mono Dd) (aI (aJ 0) (aI (aJ 1) aE))) (aJ 2) (λ_ _=>rfl)) aE))))))),?_⟩
 obtain ⟨hx,hsy⟩:=TT.at hi;have hM:M<=4:=by have:=Z.f;omega
 have hem:e∈es:=List.mem_of_getLast? he;have l1:=(R.each e hem).2.2.1;have rk:qA K H es r:=qA.of rr;refine ⟨_,rfl,_,rfl,_,rfl,?_⟩;refine JJ rt rk R Z TT hx hsy λv1 H1 s1 r1=>?_;refine ⟨_,rfl,_,rfl,_,rfl,?_⟩;refine FH (L:=L) (rt.same s1) (rk.same s1) R Z hx hsy he hL Oo λv2 H2 s2 r2=>?_;have s12:=s1.trans s2;refine ⟨_,rfl,_,rfl,_,rfl,?_⟩;refine AH (rt.same s12) (rk.same s12) R Z hx hsy λv3 H3 s3 r3=>?_;have s13:=s12.trans s3;refine wJ (by show 3<=64;decide) λD4 H4 hD4 e4 s4=>?_;have s14:=s13.trans s4;refine ⟨_,rfl,_,rfl,_,rfl,_,rfl,_,rfl,?_⟩;refine FA (rt.same s14) (rk.same s14) R Z hx hsy (rc.same s14) hc λv5 H5 s5 r5=>?_;have s15:=s14.trans s5;refine ⟨_,rfl,_,rfl,?_⟩;refine EZ (rt.same s15) (rk.same s15) R Z TT λv6 H6 s6 r6=>?_;obtain ⟨wa,wvs,rfl,hwa,rwv⟩:=mZ r6;obtain ⟨y,hy,ry⟩:=aX.atX rwv (i:=i) (a:=XF F es ws i) (by unfold wrs;rw [aC,cO (by rw [TT.w];exact hi)];rfl);refine ⟨_,rfl,?_⟩;refine lK hwa (eE hy) ?_;refine wJ (by show 2<=64;decide) λD7 H7 hD7 e7 s7=>?_;have s47:=(s5.trans s6).trans s7;refine aEj (s47 _ _ e4) e7 (by show 3+2<=1000;decide) λD8 H8 hD8 e8 s8=>?_;have s17:=s14.trans s47;have s78:=s47.trans s8;refine q D8 _ H8 (s17.trans s8) (s17.free hD8) e8 ?_;exact aX.cons (r1.same (((s2.trans s3).trans s4).trans s78)) (aX.cons (r2.same ((s3.trans s4).trans s78)) (aX.cons (r3.same (s4.trans s78)) (aX.cons (r5.same ((s6.trans s7).trans s8)) (aX.cons (ry.same (s7.trans s8)) aX.nil))))
end
abbrev UB:Stmt:=(top 74)
theorem QQ:bK ["_law_trial_here","_law_rule_here","_law_costs","_law_order_here","_law_other","_law_turned","_law_k","_law_due"] ["_law_trial_here","_law_rule_here","_law_costs","_law_order_here"] (aO UB):=⟨rfl,rfl,rfl,Kk,rfl,Kk,Kk⟩
theorem VW{n:Nat}(h:0<n):GD n 0=some 0:=by
 unfold GD;rw [if_pos Oo];simp [h]
mutual
theorem JW{K:PySem.W.Frag}{H H':Hp}(s:aW H H'):∀{d:PyData}{v:V},dU K H d v->dU K H' d v
 | .none,_,h=>by unfold dU at h ⊢;exact h
 | .bool _,_,h=>by unfold dU at h ⊢;exact h
 | .int _,_,h=>by unfold dU at h ⊢;exact h
 | .str _,_,h=>by unfold dU at h ⊢;exact h
 | .list ds,_,h=>by
  unfold dU at h ⊢;obtain ⟨a,xs,rfl,h1,h2⟩:=h;exact ⟨a,xs,rfl,s _ _ h1,nC s h2⟩
 | .tuple ds,_,h=>by
  unfold dU at h ⊢;obtain ⟨a,xs,rfl,h1,h2⟩:=h;exact ⟨a,xs,rfl,dO.keep s h1,nC s h2⟩
 | .dict kvs,_,h=>by
  unfold dU at h ⊢;obtain ⟨h0,a,rfl,h1⟩:=h;exact ⟨h0,a,rfl,s _ _ h1⟩
theorem nC{K:PySem.W.Frag}{H H':Hp}(s:aW H H'):∀{ds:List PyData}{vs:List V},cX K H ds vs->cX K H' ds vs
 | [],_,h=>by unfold cX at h ⊢;exact h
 | d::ds,_,h=>by
  unfold cX at h ⊢;obtain ⟨x,xs,rfl,h1,h2⟩:=h;exact ⟨x,xs,rfl,JW s h1,nC s h2⟩
end
theorem WI(c:List Int):lP 2 (fG c):=lP.tup (n:=1) λd hd'=>by
 obtain ⟨z,_,rfl⟩:=aK.mp hd';exact lP.int z
theorem HA(fs:List Fr):lP 3 (lO fs):=lP.tup (n:=2) λd hd'=>by
 obtain ⟨f,_,rfl⟩:=aK.mp hd';exact lP.fr f
theorem zQ(F:Nat)(es:List cG):SeqAt.shaped (.tuple (uF F es))=true:=(lP.tup (n:=3) λd hd'=>by
 unfold uF at hd';obtain ⟨e,_,rfl⟩:=aK.mp hd';refine lP.tup (n:=2) λd hd'=>?_;rcases aV.mp hd' with rfl | hd'
 ·exact WI _
 ·rw [bM.mp hd'];exact lP.fr _).ok
theorem WZ(F:Nat)(es:List cG):PyData.hasDict (.tuple (uF F es))=false:=by
 have:∀(g:cG->Fr) (l:List cG),PyData.hasDictAll (l.map λe=>PyData.tuple [fG e.1,fM (g e)])=false:=λg l=>by
  induction l with
  | nil=>rfl
  | cons e l ih =>
   show ((PyData.hasDictAll (e.1.map PyData.int) || (PyData.hasDict (fM (g e)) || false)) || PyData.hasDictAll (l.map λe=>PyData.tuple [fG e.1,fM (g e)]))=false;rw [ih,AZ];rfl
 exact this _ _
theorem uU(a b:List Fr)(x y z:Fr):SeqAt.shaped (.list [lO a,lO b,fM x,fM y,fM z])=true:=(lP.lst (n:=3) λd hd'=>by
 simp only [aV,List.not_mem_nil,or_false] at hd';rcases hd' with rfl | rfl | rfl | rfl | rfl
 ·exact HA _
 ·exact HA _
 ·exact (lP.fr _).up Oo
 ·exact (lP.fr _).up Oo
 ·exact (lP.fr _).up Oo).ok
theorem yW(a b:List Fr)(x y z:Fr):PyData.hasDict (.list [lO a,lO b,fM x,fM y,fM z])=false:=by
 show (PyData.hasDictAll (a.map fM) || (PyData.hasDictAll (b.map fM) || false))=false;rw [wW,wW];rfl
theorem SU{F W M:Nat}{es:List cG}{o:List Nat}(R:dB F W M es)(ok:cP W o){ws:List (Str × List Fr)}(hw:ws.length=W){k L:Nat}(hk:k<W)(cs:List Fr):vB W L F (uP es o) (cH w0 ws o) k cs=lO (cH (0,1) ((List.range W).map λj=>hZ (came F es (ws.getD (o.getD k 0) ("",[])).2) j) o)::(vB W L F es ws (o.getD k 0) cs).drop 1:=by
 have e:(cH w0 ws o).getD k ("",[])=ws.getD (o.getD k 0) ("",[]):=by
  unfold cH;rw [aF,aC,(ok.at_ hk).1];rfl
 unfold vB;rw [e,OT R ok,SC R ok hw hk];have e2:((List.range (L+1)).map λn=>qC (came F (uP es o) (ws.getD (o.getD k 0) ("",[])).2) n)=(List.range (L+1)).map λn=>qC (came F es (ws.getD (o.getD k 0) ("",[])).2) n:=bZ λn _=>PZ R ok _ n;have e1:((List.range W).map λj=>hZ (came F (uP es o) (ws.getD (o.getD k 0) ("",[])).2) j)=cH (0,1) ((List.range W).map λj=>hZ (came F es (ws.getD (o.getD k 0) ("",[])).2) j) o:=by
  have et:∀X:List Fr,cH (0,1) X o=(List.range W).map λj=>X.getD (o.getD j 0) (0,1):=λX=>by
   have:cH (0,1) X o=((List.range W).map λj=>o.getD j 0).map λk=>X.getD k (0,1):=by rw [HR ok];rfl
   rw [this,List.map_map];rfl
  rw [et];refine bZ λj hj=>?_;have hj:=bX.mp hj;rw [yH R ok _ hj,aF (l:=(List.range W).map _),aC,cO (ok.at_ hj).2];rfl
 rw [e1,e2]
 rfl
@[irreducible] def vY(K:PySem.W.Frag):Sp:=λvs H Q _=>∃(t r cv:V) (b:Addr) (es:List cG) (F W M:Nat) (fs:List Str) (ws:List (Str × List Fr)) (cs:List Fr) (o:List Nat),vs=[t,r,cv,.ref b]/\bQ H (lN fs ws) t/\bQ H (wF es) r/\dB F W M es/\eU F W M/\xW F W fs ws/\bQ H (lO cs) cv/\vD M cs/\H b=some (.tup ((iO o).map V.int))/\cP W o/\∀H',aW H H'->Q (.bl true) H'
theorem NI{K:PySem.W.Frag}{H:Hp}{Q:VK}{E:XK}{t r cv:V}{b:Addr}{es:List cG}{F W M:Nat}{fs:List Str}{ws:List (Str × List Fr)}{cs:List Fr}{o:List Nat}(h1:bQ H (lN fs ws) t)(h2:bQ H (wF es) r)(h3:dB F W M es)(h4:eU F W M)(h5:xW F W fs ws)(h6:bQ H (lO cs) cv)(h7:vD M cs)(h8:H b=some (.tup ((iO o).map V.int)))(h9:cP W o)(q:∀H',aW H H'->Q (.bl true) H'):vY K [t,r,cv,.ref b] H Q E:=by
 unfold vY;exact ⟨t,r,cv,b,es,F,W,M,fs,ws,cs,o,rfl,h1,h2,h3,h4,h5,h6,h7,h8,h9,q⟩
section
theorem aD6(F:gH K "_law_ways_right" "_law_ways_right" UB f fd)(T:iV K mg c)(FQ58:eF cR P w K mg base 4 "ways_turned" ["trial","order"] oE)(FQ49:eF cR P w K mg base 4 "rule_ways_turned" ["rule","order"] lT)(FQ0:eF cR P w K mg base 7 "_law_all" ["_law_trial_here","_law_rule_here","_law_way","_law_costs"] (pN K))(FQ13:eF cR P w K mg base 3 "amounts" ["rule"] (iM K))(FQ31:eF cR P w K mg base 1 "is_plain" ["rule"] kD):dA P w K mg base cR 8 f fd ["_law_trial_here","_law_rule_here","_law_costs","_law_order_here"] (vY K):=by
 refine F.oky QQ λvs H Q E h=>?_;unfold vY at h;obtain ⟨t,r,cv,b,es,F,W,M,fs,ws,cs,o,rfl,rt,rr,R,Z,TT,rc,hc,hb,ok,q⟩:=h;refine ⟨rfl,λcdv A outer s hr=>?_⟩;refine ⟨_,(aU (bV (i:=4) QQ.nd rfl (Or.inl rfl) (bJ FQ58 (hr.mono Dd) (aI (aJ 0) (aI (aJ 3) aE))))
  (aU (bV (i:=5) QQ.nd rfl (Or.inl rfl) (bJ FQ49 (hr.mono Dd) (aI (aJ 1) (aI (aJ 3) aE))))
  (aU (iJ PassesOwn.never rfl (dW rfl T.b_range (aI (dL fT (by rfl) T.b_len Kk (aI (aJ 3) aE)) aE)) (dP (i:=6) QQ.nd rfl (Or.inl rfl)) (aU (bV (i:=7) QQ.nd rfl (Or.inr rfl) (bJ FQ0 (hr.mono Dd) (aI (aJ 0) (aI (aJ 1) (aI (cC bY (aJ 3) (aJ 6) (λ_ _=>rfl)) (aI (aJ 2) aE))))))
  (aU (ER (hJ cJ (by rfl) T.b_tuple Kk (aI (eD (dJ.of (psc:=aO UB) (N:=["_law_trial_here","_law_rule_here","_law_costs","_law_order_here","_law_other","_law_turned","_law_k","_law_due"]) (N':=["_law_one","_law_due"]) (js:=[7]) Kk rfl rfl rfl) (gK (aJ 3)) (λ_ _ _ _=>dG) (λ_ _ _ _=>(cC (fE K) (cC (fE K) (aJ 1) aN (λ_ _=>rfl)) (aJ 0) (λ_ _=>rfl)))) aE)) (ML (aJ 7) aN CM))
  (bB (jH (fP (FV hr.units) (bJ FQ0 (hr.mono Dd) (aI (aJ 4) (aI (aJ 5) (aI (aJ 6) (aI (aJ 2) aE))))) (aJ 7) (nomark _)) (bB (bR oA)) eY)))))
  (bB (bR (jI (iK (OS K hr.units) (bJ FQ13 (hr.mono Dd) (aI (aJ 5) aE)) (bJ FQ13 (hr.mono Dd) (aI (aJ 1) aE)) (nomark _)) (kL (iK qH (bJ FQ31 (hr.mono Dd) (aI (aJ 5) aE)) (bJ FQ31 (hr.mono Dd) (aI (aJ 1) aE)) (nomark _))))))))),?_⟩
 have l4:=ok.le;have lo:=ok.len;have hF:2<=F/\F<=4:=by have:=Z.f;omega
 refine ⟨_,rfl,_,rfl,?_⟩;refine EY rt hb (by rw [TT.w];exact ok) λv1 H1 s1 r1=>?_;refine ⟨_,rfl,_,rfl,?_⟩;refine CC (rr.same s1) R (s1 _ _ hb) ok λv2 H2 s2 r2=>?_;have s12:=s1.trans s2;have R':=NV R ok;refine ⟨_,rfl,?_⟩;refine RQ (s12 _ _ hb) ?_;rw [aA,aA,lo];refine ⟨_,rfl,Oo,Oo,?_⟩;obtain ⟨el,hel,hem,_⟩:=rO R;have l0:=rQ (R.each el hem).2.1;have hel':(uP es o).getLast?=some (el.1,nB el.2 o):=by unfold uP;rw [List.getLast?_map,hel];rfl
 have TT':=TT.ways ok;refine kI (λk σ H'=>∃o6 o7:Option V,σ=[some t,some r,some cv,some (.ref b),some v1,some v2,o6,o7]/\aW H2 H') ⟨_,_,rfl,aW.refl _⟩ ?_ ?_
 ·rintro k σ H3 hk ⟨o6,o7,rfl,s3⟩;have hk:k<W:=Oo;rw [show (0:Int)+(k:Nat)=(k:Nat) from Int.zero_add _];obtain ⟨hok,hlt⟩:=ok.at_ hk;have s13:=s12.trans s3;refine ⟨_,rfl,_,rfl,_,rfl,_,rfl,?_⟩;refine lK (s13 _ _ hb) (eE (j:=k) (v:=.int ((o.getD k 0:Nat):Int)) (by rw [aC,aC,hok];rfl)) ?_;refine ⟨_,rfl,?_⟩;refine pM (L:=el.1.sum.toNat) (rt.same s13) (rr.same s13) R Z TT hlt (rc.same s13) hc hel Oo λD vs H4 s4 hD e4 r4=>?_;have s14:=s13.trans s4;unfold vB at r4;unfold aX at r4;obtain ⟨x0,xr,rfl,rx0,r4'⟩:=r4;obtain ⟨sa,svs,rfl,hsa,rsv⟩:=mZ rx0;have lsv:svs.length=W:=by rw [gB rsv,aA,bO]
  refine ⟨_,rfl,b,rfl,⟨_,dO.of (s14 _ _ hb)⟩,?_⟩;refine gE (λi y H'=>∃m,o[i]?=some m/\y=svs.getD m .non) (λi y H1 H2 s h=>h) (by rw [aA,aA];omega) (s14 _ _ hb) (λi x H' Q' hx' s' k'=>?_) (λD5 ys H5 hD5 e5 s5 hy hr5=>?_)
  ·rw [aC,aC] at hx';cases ho':o[i]? with
   | none=>rw [ho'] at hx';cases hx'
   | some m =>
    rw [ho'] at hx';cases hx';have hm:=ok.lt m (bD ho');refine ⟨_,rfl,?_⟩;refine ixL (s' _ _ e4) (eE (j:=0) rfl) ?_;refine ⟨_,rfl,?_⟩;refine lK (s' _ _ hsa) (eE (j:=m) (v:=svs.getD m .non) (by rw [aF,aD Oo];rfl)) ?_;exact k' _ H' (aW.refl _) ⟨m,ho',rfl⟩
  have eys:ys=qD svs o:=by
   rw [aA,aA] at hy;refine List.ext_getElem? λi=>?_;unfold qD;by_cases hi:i<o.length
   ·obtain ⟨m,h1,h2⟩:=hr5 i (ys[i]'Oo) (aD _);rw [aD Oo,h2,aC,h1];rfl
   ·rw [bH Oo,bH (by rw [aA];omega)]
  refine ⟨D5,ys,rfl,.inl ⟨eZ.of e5,λl6 hl6=>?_⟩⟩;have s6:aW H5 (upd H5 l6 (.tup ys)):=aW.upd hl6;have e6:upd H5 l6 (.tup ys) l6=some (.tup ys):=bE;generalize upd H5 l6 (.tup ys)=H6 at s6 e6;have s46:=s5.trans s6;refine ⟨_,rfl,?_⟩;refine stG (j:=0) (s46 _ _ e4) (VW (by simp)) λH7 e7 b7=>?_;have t7:=b7.t (s46 _ _ e4);have s37:aW H3 H7:=aW.thru hD (s4.trans s46) b7;have s27:=s3.trans s37;refine ⟨_,rfl,_,rfl,_,rfl,_,rfl,?_⟩;refine pM (L:=el.1.sum.toNat) (es:=uP es o) ((r1.same s2).same s27) (r2.same s27) R' Z TT' hk (rc.same (s12.trans s27)) hc hel' (by show el.1.sum=_;omega) λD8 vs8 H8 s8 hD8 e8 r8=>?_;refine ⟨_,rfl,?_⟩;rw [SU R ok TT.w hk] at r8;have rd:aX H8 (lO (cH (0,1) ((List.range W).map λj=>hZ (came F es (ws.getD (o.getD k 0) ("",[])).2) j) o)::(vB W el.1.sum.toNat F es ws (o.getD k 0) cs).drop 1) (.ref l6::xr):=by
   refine aX.cons (bQ.tup (s8 _ _ (t7 _ _ e6)) ?_) ?_
   ·rw [eys];exact ((lR (d:=((0,1):Fr)) (rsv.same s46) λm hm=>by rw [aA,bO];exact ok.lt m hm).flat t7 (rX _)).same s8
   ·exact ((aX.same s46 r4').flat t7 (by
     show (eI (lO _)&&(eI (fM _)&&(eI (fM _)&&(eI (fM _)&&true))))=true;rw [kX];rfl)).same s8
  obtain ⟨G,hG,shG,dcG⟩:∃G,G=lO (cH (0,1) ((List.range W).map λj=>hZ (came F es (ws.getD (o.getD k 0) ("",[])).2) j) o)::(vB W el.1.sum.toNat F es ws (o.getD k 0) cs).drop 1/\SeqAt.shaped (.list G)=true/\PyData.hasDict (.list G)=false:=⟨_,rfl,uU _ _ _ _ _,yW _ _ _ _ _⟩;rw [<-hG] at r8 rd;refine reD (bQ.lst e8 r8) (bQ.lst (s8 _ _ e7) rd) shG shG ?_;rw [mI _ dcG];refine ⟨_,rfl,mH ?_⟩;exact ⟨_,_,rfl,s27.trans s8⟩
 ·rintro σ H3 ⟨o6,o7,rfl,s3⟩;have s13:=s12.trans s3;refine ⟨_,rfl,?_⟩;refine iY (qA.of (r2.same s3)) R' Z λa4 ys4 H4 s4 e4 r4 _=>?_;refine ⟨_,rfl,?_⟩;refine iY (qA.of (rr.same (s13.trans s4))) R Z λa5 ys5 H5 s5 e5 r5 _=>?_;rw [LR R ok] at r4;refine reK (dU.tup (dO.of (s5 _ _ e4)) (nC s5 r4)) (dU.tup (dO.of e5) r5) (zQ _ _) (zQ _ _) ?_;rw [mI _ (WZ _ _)];refine ⟨_,rfl,mG ?_⟩;have s35:=s4.trans s5;have lr:=R.len;have lr':=R'.len;refine ⟨_,rfl,?_⟩;refine qE (r2.same (s3.trans s35)) Oo λH6 s6=>?_;refine ⟨_,rfl,?_⟩;refine qE (rr.same ((s13.trans s35).trans s6)) Oo λH7 s7=>?_;rw [FR R ok];refine ⟨rfl,?_⟩;rw [cE rfl];exact q H7 (((s13.trans s35).trans s6).trans s7)
end
end Kw
namespace HT
open PySem PySem.Spec PySem.W PyProof.Rows
section
variable{prog:Program}{w:World}{K:Type}[DecidableEq K]{knd:HeapKind prog w K}{A:Around}{E:Value->Shared->Prop}{s:Shared}
theorem EG{nm:String}{a b:Addr}{xa xb:List (K × Addr × Value)}{Q:Bool->Shared->Prop}(ha:(a == sysModules)=false)(hb:(b == sysModules)=false)(da:s.heap.DictOfH knd a xa)(db:s.heap.DictOfH knd b xb)(hl:xa.length=xb.length)(hu:knd.room A)
  (hits:∀(i:Nat) (x:K × Addr × Value),xa[i]?=some x->∃(j:Nat) (p:Addr × Value),xb[j]?=some (x.1,p)) (eqs:∀(i j:Nat) (x:K × Addr × Value) (p:Addr × Value),xa[i]?=some x->xb[j]?=some (x.1,p)->SeqAt.EqAt A s x.2.2 p.2 true) (h:Q true s) :
  wpAny (model prog w) A (Builtin.Dict.samePairs nm a b) Q E s:=by
 obtain ⟨oa,es,ep,hoa,_,hda,hea,hia,hna⟩:=da;obtain ⟨ob,es',ep',hob,_,hdb,heb,hib,hnb⟩:=db;have sza:=size_of_entries hea;have szb:=size_of_entries heb;unfold Builtin.Dict.samePairs Builtin.Dict.showsAll;rw [if_neg (show ¬(a == sysModules)=true by rw [ha];exact bN),if_neg (show ¬(b == sysModules)=true by rw [hb];exact bN)];refine wpAny_bind (wpAny_pure (wpAny_bind (wpAny_pure ?_)));refine wpAny_bind (wpAny_dictEntries hoa hda ?_);dsimp only;refine wpAny_bind (wpAny_dictEntries hob hdb ?_);have hsz:es.size=es'.size:=Oo;rw [if_neg (by rw [hsz];simp)];refine wpAny_bind (wpAny_dictEpoch hoa hda ?_);refine wpAny_bind ?_;rw [Std.Legacy.Range.forIn_eq_forIn_range'];simp only [Std.Legacy.Range.size,Nat.sub_zero,Nat.add_sub_cancel,Nat.div_one];refine wpAny_forIn_list _ (λrest q s'=>s'=s/\q=(none,())/\∃i,rest=List.range' i (es.size-i)/\i<=es.size) _ ?_ ?_ _ _ ⟨rfl,rfl,0,by simp,cK _⟩
 ·rintro x rest q s' ⟨rfl,rfl,i,hr,hi⟩;have hlt:i<es.size:=by
   rcases Nat.lt_or_ge i es.size with h | h
   ·exact h
   ·rw [Nat.sub_eq_zero_of_le h] at hr;simp at hr
  obtain ⟨rfl,hrest⟩:x=i/\rest=List.range' (i+1) (es.size-(i+1)):=by
   have e:es.size-i=(es.size-(i+1))+1:=Oo;rw [e,List.range'_succ] at hr;injection hr with h1 h2;exact ⟨h1,h2⟩
  refine wpAny_bind (wpAny_dictEntries hoa hda ?_);have hx:xa[x]?=some (xa[x]'Oo):=aD _;generalize xa[x]'Oo=xx at hx;rw [entry_at hea x,hx];obtain ⟨j,p,hj⟩:=hits x xx hx;show wpAny _ _ (holding [Value.ref xx.2.1,xx.2.2] _ >>= _) _ _ _;refine wpAny_bind (wpAny_holding (wpAny_bind (wpAny_dictFind_heap (k:=xx.1) hu (hia xx (bD hx)) hob hdb heb hib hnb (λhno=>absurd hj (hno j p)) λj' p' hj'=>?_)));refine wpAny_bind (wpAny_dictEntries hob hdb ?_);rw [entry_at heb j',hj'];refine wpAny_holding (eqs x j' xx p' hx hj' prog w _ _ ?_);show wpAny _ _ (if (!true)=true then _ else _) _ _ _;rw [if_neg Dd];refine wpAny_bind (wpAny_dictEpoch hoa hda ?_);rw [if_neg (by simp)];exact wpAny_pure ⟨rfl,rfl,x+1,hrest,hlt⟩
 ·rintro q s' ⟨rfl,rfl,i,hr,hi⟩;exact wpAny_pure h
theorem lB{a:Addr}{xs:List (K × Addr × Value)}(d:s.heap.DictOfH knd a xs):s.TypeIs (.ref a) "dict" := let ⟨o,_,_,ho,hex,_⟩:=d;⟨o,ho,hex.1⟩
theorem RC{a b:Addr}{xa xb:List (K × Addr × Value)}{Q:Value->Shared->Prop}(ha:(a == sysModules)=false)(hb:(b == sysModules)=false)(da:s.heap.DictOfH knd a xa)(db:s.heap.DictOfH knd b xb)(hl:xa.length=xb.length)(hu:A.units<cLine)(hr:knd.room A.in1)
  (hits:∀(i:Nat) (x:K × Addr × Value),xa[i]?=some x->∃(j:Nat) (p:Addr × Value),xb[j]?=some (x.1,p)) (eqs:∀(i j:Nat) (x:K × Addr × Value) (p:Addr × Value),xa[i]?=some x->xb[j]?=some (x.1,p)->SeqAt.EqAt A.in1 s x.2.2 p.2 true) (h:Q (.bool false) s) :
  wpAny (model prog w) A (compareOp .NotEq (.ref a) (.ref b)) Q E s:=by
 refine wpAny_richCompare_same_room (op:=.NotEq) (lB da) (lB db) PySem.F.slot_dict_ne (wpAny_call_entry PySem.F.slot_dict_ne (lB da) PySem.F.entry_dict_ne ?_ (PySem.F.args_dict_ne_2 _ _)) hu;show wpAny _ _ (Builtin.Dict.dictSlotArgs "__ne__" ⟨[.ref a,.ref b],[]⟩ >>= _) _ _ s;refine wpAny_bind ?_;unfold Builtin.Dict.dictSlotArgs;refine wpAny_bind (wpAny_notOrdered_dict (lB da) ?_);show wpAny _ _ (pure (Value.ref a,Value.ref b)) _ _ s;refine wpAny_pure ?_;refine wpAny_bind (wpAny_isInstance (T := "dict") (lB db) PySem.F.sub_dict_dict ?_);simp only [Bool.not_true,Bool.false_eq_true,if_false];refine wpAny_bind (wpAny_pure (wpAny_bind (wpAny_pure ?_)));refine wpAny_bind (EG ha hb da db hl hr hits eqs ?_);refine wpAny_pure ⟨_,rfl,?_,?_⟩
 ·exact λx=>nomatch x
 ·simpa using h
end
end HT
namespace L2
open PySem PySem.Spec PySem.W PyProof.Rows HT
@[irreducible] def UE(K:PySem.W.Frag):R2:=λx y H Q=>∃(a b:Addr) (ka kb:List (List eA × V)),x=.ref a/\y=.ref b/\H a=some (.dT ka)/\H b=some (.dT kb)/\ka.length=kb.length /\
 (∀p∈ka,∃v d,eJ kb p.1=some v/\dU K H d p.2/\dU K H d v/\PyData.canLay0 d=true/\d.depth<=60/\d.hasDict=false)/\Q (.bl false) H
theorem aDe{K:PySem.W.Frag}{a b:Addr}{ka kb:List (List eA × V)}{H:Hp}{Q:VK}(h1:H a=some (.dT ka))(h2:H b=some (.dT kb))(hl:ka.length=kb.length)(h:∀p∈ka,∃v d,eJ kb p.1=some v/\dU K H d p.2/\dU K H d v/\PyData.canLay0 d=true/\d.depth<=60/\d.hasDict=false)(q:Q (.bl false) H):UE K (.ref a) (.ref b) H Q:=by
 unfold UE;exact ⟨a,b,ka,kb,rfl,rfl,h1,h2,hl,h,q⟩
section
variable{X:Cx}
theorem aAL(K:PySem.W.Frag)(hu:X.A.units+64<cLine)(hu1:X.A.units+1<cLine)(hK:X.K=K:=by rfl):nZ X (compareOp .NotEq) (UE K):=by
 subst hK;unfold UE;intro pins s σ H x y v u Q I rx ry h;obtain ⟨a,b,ka,kb,rfl,rfl,ea,eb,hl,hp,q⟩:=h;cases rx;cases ry;obtain ⟨_,na,xa,ra,da⟩:=IF I.hok ea;obtain ⟨_,nb,xb,rb,db⟩:=IF I.hok eb;have lxa:xa.length=ka.length:=ra.length.symm;have lxb:xb.length=kb.length:=rb.length.symm;have nodb:(xb.map (·.1)).Nodup:=let ⟨_,_,_,_,_,_,_,_,n⟩:=db;n;have keyOf:∀(i:Nat) (x:List eA × Addr × Value),xa[i]?=some x->∃p,ka[i]?=some p/\p.1=x.1/\dF p.2 x.2.2:=λi x hx=>by
  obtain ⟨p,hp1,hp2⟩:=eG ra hx;exact ⟨p,hp1,hp2.1,hp2.2.2⟩
 have find:∀(k:List eA) (v:V),eJ kb k=some v->∃(j:Nat) (p:Addr × Value),xb[j]?=some (k,p)/\dF v p.2:=λk v hv=>by
  unfold eJ at hv;obtain ⟨kv,hk,rfl⟩:=dH.mp hv;have hm:=List.mem_of_find?_eq_some hk;have e1:kv.1=k:=by simpa using List.find?_some hk
  obtain ⟨j,hj⟩:=cS.mp hm;obtain ⟨z,hz,rz⟩:=eX rb hj;refine ⟨j,z.2,?_,rz.2.2⟩;rw [hz,<-e1,rz.1]
 refine RC na nb da db Oo Oo ?_ (λi x hx=>?_) (λi j x p hx hj=>?_) ⟨.bl false,H,I,rfl,q⟩
 ·exact tupleKind_room_in1 hu1
 ·obtain ⟨p,h1,h2,h3⟩:=keyOf i x hx;obtain ⟨v,d,hv,_⟩:=hp p (bD h1);obtain ⟨j,p',hj,_⟩:=find _ v hv;exact ⟨j,p',by rw [<-h2];exact hj⟩
 ·obtain ⟨p0,h1,h2,h3⟩:=keyOf i x hx;obtain ⟨v,d,hv,r1,r2,cd,dd,hd'⟩:=hp p0 (bD h1);obtain ⟨j',p',hj',rv⟩:=find _ v hv;rw [h2] at hj';have ej:j'=j:=by
   have n1:(xb.map (·.1))[j']?=(xb.map (·.1))[j]?:=by rw [aC,aC,hj',hj];rfl
   exact (List.getElem?_inj (by rw [aA];exact (aY.mp hj').1) nodb).mp n1
  subst ej;rw [hj] at hj';injection hj' with hj';injection hj' with _ hj';subst hj';obtain ⟨as,q1⟩:=r1.reads I h3;obtain ⟨bs,q2⟩:=r2.reads I rv;have:=SeqAt.eqAt_reads d d X.A.in1 s _ _ as bs q1 q2 cd cd (by
   have:X.A.in1.units<=X.A.units+1:=by first | exact aM _ | (unfold Around.in1;simp)
   omega)
  rw [mI d hd'] at this;exact this
end
end L2
namespace HT
open PySem PySem.Spec PyProof.Rows PySem.Builtin
theorem xR:typeLookup (.type "list") "keys" = pure none:=am_miss_of_fast Kk
section
variable{prog:Program}{w:World}{A:Around}{E:Value->Shared->Prop}{s:Shared}
theorem GC{a:Addr}{o:Obj}{xs:Array Value}{k:Nat}{Q:Option Value->Shared->Prop}(hx:s.heap.get? a=some o)(hc:o.cls=.type "list")(hdat:o.data=.seq xs k)(hd:o.dict=none)(hA:A.handled=none)
  (h:∀h' tk,(∀b u,s.heap.get? b=some u->h'.get? b=some u)->Q none { s with heap:=h',toks:=tk }):wpAny (model prog w) A (getAttr? (.ref a) "keys") Q E s:=by
 obtain ⟨c,dct,dat,sl⟩:=o;simp only at hc hdat hd;subst hc hdat hd;obtain ⟨hp,g,d,tk,os⟩:=s;have hT:∀tk',(⟨hp,g,d,tk',os⟩:Shared).TypeIs (.ref a) "list" := λ_=>⟨_,hx,rfl⟩;have f1:=sub_AttributeError;have f3:=F.slot_list_getattribute.lookup;have f4:=F.slot_list_getattribute.bind (.ref a);have f5:=am_list_getattr_none;unfold getAttr? getAttrBy? getAttrBy
 repeat (any_goals (first | assumption | exact hT _ | ((with_reducible show wpAny _ _ (call (Value.builtin "list.__getattribute__") _ _) _ _ _);refine call_meets F.slot_list_getattribute (hT _) am_entry_list_getattribute (F.args_list_getattribute_2 _ _) (meets_getattribute_miss_list a xs k sl "keys" _ xR Dd) ⟨hx,hA,λh' tk' e hx'=>?_⟩) | wp_step))
 obtain ⟨t',u',he⟩:=hx'.there;show wpAny _ _ (getattributeRaised _ _ _ _ _ _ _) _ _ _;unfold getattributeRaised
 repeat (any_goals (first | assumption | wp_step))
 exact h _ _ hx'.keeps
end
section
variable{prog:Program}{w:World}{A:Around}{E:Value->Shared->Prop}{s:Shared}{K:Type}[DecidableEq K]{knd:HeapKind prog w K}
theorem MU{d it t:Addr}{i:Nat}{items:Array Value}{R:Result->Shared->Prop}(hA:A.handled=none)(hit:s.heap.IsListIter it t i)(ht:s.heap.IsList t items)(hx:items[i]?=none)
  (h:∀h',Heap.ExtBut it s.heap h'->R (.ok (.ret .none)) { s with heap:=h' }) :
  codeAny (model prog w) A (.builtin "dict.update.loop" ⟨[.ref d,.ref it,rawInt i,.none],[]⟩) R s:=by
 refine codeAny_builtin jV ?_;rw [Around.under_plainId jU _];unfold Builtin.«dict.update.loop»;refine wpAny_bind (wpAny_pyNext_list_end hA hit ht hx λh' e=>?_);show wpAny _ _ (Dict.addKeywords d [] >>= λ_=>ret Value.none) _ _ _;exact wpAny_bind (wpAny_pure (wpAny_pure (h h' e)))
theorem JD{d it t b a:Addr}{i:Nat}{items:Array Value}{xs:List (K × Addr × Value)}{k:K}{v:Value}{R:Result->Shared->Prop}(hu:knd.room A.in1)(hit:s.heap.IsListIter it t i)(ht:s.heap.IsList t items)(hx:items[i]?=some (.ref b))
  (hb:s.heap.IsTuple b #[.ref a,v]) (nb:b≠it) (hk:∀h',(∀c o,c≠it->s.heap.get? c=some o->h'.get? c=some o)->knd.is h' k a/\h'.DictOfH knd d xs) (nd:d≠it) (hz:xs.length<=sizeLine)
  (h:∀h1 h' tk,(∀c o,c≠it->s.heap.get? c=some o->h1.get? c=some o)->Heap.SameBut d h1 h'->h'.DictOfH knd d (storedH xs k a v)->h'.IsListIter it t (i+1) ->
   codeAny (model prog w) A (.builtin "dict.update.loop" ⟨[.ref d,.ref it,rawInt ((i+1:Nat):Int),.none],[]⟩) R { s with heap:=h',toks:=tk }) :
  codeAny (model prog w) A (.builtin "dict.update.loop" ⟨[.ref d,.ref it,rawInt i,.none],[]⟩) R s:=by
 refine codeAny_builtin jV ?_;rw [Around.under_plainId jU _];unfold Builtin.«dict.update.loop»;refine wpAny_bind (wpAny_pyNext_list_item hit ht hx λh' it' hs=>?_);have hk':∀c o,c≠it->s.heap.get? c=some o->h'.get? c=some o:=λc o hc e=>(hs.2 c hc).trans e;refine wpAny_bind (wpAny_holding ?_);refine wpAny_bind (wpAny_tryCatch ?_);have hb':h'.IsTuple b #[.ref a,v]:=by
  obtain ⟨o,ho,r⟩:=hb;exact ⟨o,hk' b o nb ho,r⟩
 refine qG (s:={ s with heap:=h' }) hb' ?_;show wpAny _ _ (holding [Value.ref a,v] (dictSet d (.ref a) v)) _ _ _;have hm':=(hk h' hk').2;refine wpAny_holding (wpAny_dictSet_heap (s:={ s with heap:=h' }) hu (hk h' hk').1 hm' (λh2 hm2 hs2=>?_) hz);refine wpAny_pure ⟨Code.quiet_builtin _ Kk,?_⟩;have hn:=h h' h2 (s.toks+knd.draws k) hk' hs2 hm2 (by
  obtain ⟨o,ho,r⟩:=it';exact ⟨o,(hs2.2 it (Ne.symm nd)).trans ho,r⟩)
 rw [show ((i+1:Nat):Int)=(i:Int)+1 from Oo] at hn;exact hn
end
end HT
namespace L2
open PySem PySem.Spec PySem.W PyProof.Rows HT
section
variable{X:Cx}{pins:List (Addr × Obj)}{σ:St}{H:Hp}
theorem wX{D it t:Addr}{ys:List V}{R:Result->Shared->Prop}(hu:X.A.units+8<cLine)(hA:X.A.handled=none)(hD:H D=none)(ht:H t=some (.lst ys))(nit:it≠D) :
  ∀(rest:List (List eA × V)) (i:Nat) (kvs:List (List eA × V)) (s:Shared),bW X pins σ (upd H D (.dT kvs)) s->gU X pins (upd H D (.dT kvs)) it->s.heap.IsListIter it t i->Paired (qJ H) (ys.drop i) rest->((kvs++rest).map (·.1)).Nodup->(kvs++rest).length<=1000 ->
   (∀s',bW X pins σ (upd H D (.dT (kvs++rest))) s'->R (.ok (.ret .none)) s')->codeAny (model X.prog X.w) X.A.in1 (.builtin "dict.update.loop" ⟨[.ref D,.ref it,rawInt i,.none],[]⟩) R s
 | [],i,kvs,s,I,fp,hit,pr,nd,hz,k=>by
  have ntD:t≠D:=λe=>by subst e;rw [hD] at ht;cases ht
  obtain ⟨its,r,pl0,_⟩:=I.list (eZ.of (show upd H D (.dT kvs) t=some (.lst ys) by rw [bP ntD];exact ht));have pl:s.heap.IsList t its.toArray:=let ⟨o,n,ho,hcl,_,hd⟩:=pl0;⟨o,ho,hcl,n,hd⟩;have hl:ys.length<=i:=by
   generalize hq:ys.drop i=l at pr;cases pr;exact List.drop_eq_nil_iff.mp hq
  have hl2:=r.length;rw [List.append_nil] at k;refine MU hA hit pl (by rw [Array.getElem?_eq_none];simp;omega) λh' e=>k _ ?_;exact I.turnedL (t':=s.toks) (fp:=[it]) (λb o hb x=>e b o (by simpa using hb) x) (λb hb=>by
   cases (show b=it by simpa using hb);exact fp)
 | p::rest,i,kvs,s,I,fp,hit,pr,nd,hz,k=>by
  have ntD:t≠D:=λe=>by subst e;rw [hD] at ht;cases ht
  obtain ⟨its,r,pl0,_⟩:=I.list (eZ.of (show upd H D (.dT kvs) t=some (.lst ys) by rw [bP ntD];exact ht));have pl:s.heap.IsList t its.toArray:=let ⟨o,n,ho,hcl,_,hd⟩:=pl0;⟨o,ho,hcl,n,hd⟩;generalize hq:ys.drop i=l at pr;cases pr with
  | @cons y _ ys' _ hy pr' =>
   obtain ⟨b,a,rfl,hb,ha⟩:=hy;have hi:i<ys.length:=by
    by_cases h:i<ys.length
    ·exact h
    ·rw [List.drop_eq_nil_iff.mpr Oo] at hq;cases hq
   have hyi:ys[i]?=some (.ref b):=by
    have:=List.drop_eq_getElem_cons hi;rw [hq] at this;injection this with h1 h2;rw [aD hi,<-h1]
   have hys':ys.drop (i+1)=ys':=by
    have:=List.drop_eq_getElem_cons hi;rw [hq] at this;injection this with h1 h2;exact h2.symm
   obtain ⟨u,hu',ru⟩:=r.get hyi;cases ru;have nbD:b≠D:=λe=>by subst e;rw [hD] at hb;cases hb
   have naD:a≠D:=λe=>by subst e;rw [hD] at ha;cases ha
   have hb2:upd H D (.dT kvs) b=some (.tup [.ref a,p.2]):=by rw [bP nbD];exact hb
   have ha2:upd H D (.dT kvs) a=some (.tup (p.1.map kV)):=by rw [bP naD];exact ha
   obtain ⟨itb,rb,plb,_⟩:=I.tuple (dO.of hb2);obtain ⟨ua,uv,rfl,ra,rv⟩:=BT rb;cases ra;have nb:b≠it:=λe=>by have:=fp.1;rw [<-e,hb2] at this;cases this
   obtain ⟨z,hdm,xs,rel,o,es,ep,h1,h2,h3,h4,h5⟩:=(show dM X.prog X.w (upd H D (.dT kvs)) s.heap D (.dT kvs) from I.hok D _ bE);have hturn:∀h' tk,(∀c o,c≠it->s.heap.get? c=some o->h'.get? c=some o)->bW X pins σ (upd H D (.dT kvs)) { s with heap:=h',toks:=tk }:=λh' tk kp =>
    I.turnedL (t':=tk) (fp:=[it]) (λb o hb x=>kp b o (by simpa using hb) x) (λb hb=>by
     cases (show b=it by simpa using hb);exact fp)
   have lxs:xs.length=kvs.length:=(Paired.length rel).symm;refine JD (knd:=tupleKind (dQ X.prog X.w)) (xs:=xs) (k:=p.1) (v:=uv) (b:=b) (a:=a) (show _<_ by show X.A.in1.in1.units<cLine;exact bC (show X.A.in1.in1.units<=X.A.units+2 from aM _) Oo) hit pl (by simpa using hu') plb nb (λh' kp=>⟨nJ (hturn h' s.toks kp).hok ha2,o,es,ep,kp D o (Ne.symm nit) h1,h2,h3,h4,KT.isAll (hturn h' s.toks kp).hok rel,h5⟩) (Ne.symm nit) Oo λhh1 hh2 tk kp hs2 hm2 hit2=>?_;have I1:=hturn hh1 s.toks kp;obtain ⟨q,es2,ep2,hq2,g2,g3,g4,_,g5⟩:=hm2;have hkn:eJ kvs p.1=none:=by
    rw [bF,aZ] at nd;have hnot:=(List.nodup_append.mp nd).2.2;cases hv:eJ kvs p.1 with
    | none=>rfl
    | some v=>exact absurd rfl (hnot _ (AA hv) p.1 (aG ..))
   have hlp:(iC kvs p.1 p.2).length<=sizeLine:=by
    have h6:=iU kvs p.1 p.2;rw [bI,bL] at hz;have h7:(1000:Nat)<=sizeLine:=Dd;omega
   have I2:=pW (t':=tk) (ob:=.dT (iC kvs p.1 p.2)) I1 (by rw [bE];exact True.intro) hs2 ⟨q,hq2⟩ ⟨hlp,hdm,_,(KT.put (show KT (upd H D (.dT kvs)) kvs xs from rel) p.1 ha2 rv).keeps λc ys ec=>(by rw [bP (mE ec bE (λz=>nomatch z))];exact ec),q,es2,ep2,hq2,g2,g3,g4,g5⟩;rw [AB,oV p.2 hkn] at I2;refine wX hu hA hD ht nit rest (i+1) (kvs++[p]) _ I2 ?_ hit2 (by rw [hys'];exact pr') (by rw [List.append_assoc];exact nd) (by rw [List.append_assoc];exact hz) (by rw [List.append_assoc];exact k);refine ⟨?_,fp.2⟩;rw [bP nit];have:=fp.1;rw [bP nit] at this;exact this
@[irreducible] def vK:List V->Hp->VK->Prop:=λxs H Q=>∃(t:Addr) (ys:List V) (kvs:List (List eA × V)),xs=[.ref t]/\H t=some (.lst ys)/\Paired (qJ H) ys kvs/\(kvs.map (·.1)).Nodup/\kvs.length<=1000/\∀D,H D=none->Q (.ref D) (upd H D (.dT kvs))
theorem rdclp{H:Hp}{Q:VK}{t:Addr}{ys:List V}{kvs:List (List eA × V)}(ht:H t=some (.lst ys))(pr:Paired (qJ H) ys kvs)(nd:(kvs.map (·.1)).Nodup)(hz:kvs.length<=1000)(q:∀D H',H D=none->H' D=some (.dT kvs)->aW H H'->Q (.ref D) H'):vK [.ref t] H Q:=by
 unfold vK;exact ⟨t,ys,kvs,rfl,ht,pr,nd,hz,λD hD=>q D _ hD bE (aW.upd hD)⟩
theorem LH(hu:X.A.units+64<cLine)(hc:X.calm=true):fO X (.type "dict") vK:=by
 unfold vK;intro pins s σ H xs us Q I r h;obtain ⟨t,ys,kvs,rfl,ht,pr,nd,hz,q⟩:=h;obtain ⟨u,rfl,rx⟩:=kM r;cases rx;have hA:=I.ok.hd hc;refine callType_codes (Q₁:=λobj s₁=>obj=.ref s.heap.objs.size/\s₁={ s with heap:=s.heap.push { cls:=.type "dict",data:=.dict #[] } }) F.kt_called_dict (F.kt_typeCall_dict_1 _) F.entry_dict_init (kt_code_dict_new _ ⟨rfl,rfl⟩) ?_;rintro obj s₁ ⟨rfl,rfl⟩;have hD:=I.hok.fresh (aM s.heap.objs.size);have I1:bW X pins σ (upd H s.heap.objs.size (.dT [])) { s with heap:=s.heap.push { cls:=.type "dict",data:=.dict #[] } }:=I.laid (a:=s.heap.objs.size) (o:=.dT []) (t':=s.toks) (λ_ _ q=>aB _ q) (aM _) (sB s.heap I.big);have htD:t≠s.heap.objs.size:=λe=>by subst e;rw [hD] at ht;cases ht
 have ht1:upd H s.heap.objs.size (.dT []) t=some (.lst ys):=by rw [bP htD];exact ht
 obtain ⟨zt,itt,nt,rt,hot0⟩:=(show dM X.prog X.w (upd H s.heap.objs.size (.dT [])) (s.heap.push { cls:=.type "dict",data:=.dict #[] }) t (.lst ys) from I1.hok t _ ht1);obtain ⟨ot,hot,hct,hdd,hdt⟩:∃ot:Obj,(s.heap.push { cls:=.type "dict",data:=.dict #[] }).get? t=some ot/\ot.cls=.type "list" /\ ot.data=.seq itt.toArray nt/\ot.dict=none:=⟨_,hot0,rfl,rfl,rfl⟩;have hnew:(s.heap.push { cls:=.type "dict",data:=.dict #[] }).DictOf (dQ X.prog X.w) s.heap.objs.size []:=Heap.DictOf.new s.heap;refine ⟨hnew.typeIs,F.args_dict_init_2 _ _,?_⟩;unfold Builtin.«dict.__init__»;refine wpAny_bind ?_;unfold Builtin.Dict.selfAndRest;refine wpAny_bind (wpAny_notOrdered_dict hnew.typeIs ?_);show wpAny _ _ (pure (s.heap.objs.size,[Value.ref t])) _ _ _;refine wpAny_pure ?_;show wpAny _ _ (Builtin.Dict.updateFrom "dict.__init__" s.heap.objs.size (.ref t) [] .none) _ _ _;unfold Builtin.Dict.updateFrom;refine wpAny_bind (wpAny_typeOf (T := "list") ⟨_,hot,hct⟩ ?_);rw [if_pos Dd];refine wpAny_bind (GC (s:={ s with heap:=s.heap.push { cls:=.type "dict",data:=.dict #[] } }) hot hct hdd hdt hA λh' tk kp=>?_);rw [if_pos (by rfl)];refine wpAny_bind (wpAny_rule ?_);refine wpAny_bind (wpAny_pyIter_list (s:={ s with heap:=h',toks:=tk }) (items:=itt.toArray) ⟨ot,kp t ot hot,hct,nt,hdd⟩ ?_);refine wpAny_pure ⟨Code.quiet_builtin _ Kk,?_⟩;have I2:bW X pins σ (upd H s.heap.objs.size (.dT [])) { s with heap:=h',toks:=tk }:=I1.kept (t':=tk) kp
 have I3:bW X pins σ (upd H s.heap.objs.size (.dT [])) { s with heap:=h'.push { cls:=.type "list_iterator",data:=.fields #[.ref t,.int 0 0] },toks:=tk }:=I2.kept (t':=tk) λb o e=>aB _ e;have hlt:s.heap.objs.size<h'.objs.size:=by
  obtain ⟨_,_,_,hg,_⟩:=hnew;exact aT (kp _ _ hg)
 have hfr:upd H s.heap.objs.size (.dT []) h'.objs.size=none:=I2.hok.fresh (aM _);refine wX (D:=s.heap.objs.size) (it:=h'.objs.size) (t:=t) (ys:=ys) Oo hA hD ht (Nat.ne_of_gt hlt) kvs 0 [] _ I3 (I2.fpOk (aM _) hfr) ⟨_,aP _ rfl,rfl,rfl⟩ (by simpa using pr) (by simpa using nd) (by simpa using hz) λs' I'=>⟨rfl,.ref _,_,I',rfl,?_⟩;rw [List.nil_append];exact q _ hD
end
end L2
namespace Kw
open PySem L2 Mf
theorem aBb(f:Fr):PyData.canLay0 (fM f)=true/\(fM f).depth<=60/\(fM f).hasDict=false:=⟨(lP.fr f).1,by have:=(lP.fr f).2;omega,rfl⟩
theorem NK{F W M:Nat}{es es':List cG}{o:List Nat}(R:dB F W M es)(Z:eU F W M)(ok:cP F o)(T:iW es o es'){fs:List Str}{ws:List (Str × List Fr)}(TT:xW F W fs ws){k L:Nat}(hk:k<W){cs:List Fr}(hc:vD M cs):vB W L F es' (fturn ws o) k cs=vB W L F es ws k cs:=by
 obtain ⟨hx,hsy⟩:=TT.at hk;have e:((fturn ws o).getD k ("",[])).2=cH (0,1) (ws.getD k ("",[])).2 o:=by
  unfold fturn;rw [aF,aC,hx];rfl
 unfold vB XF;rw [e,WX R Z ok T hsy,SV R Z ok T hsy hc,yI R Z ok T hsy hk];have e1:((List.range W).map λj=>hZ (came F es' (cH (0,1) (ws.getD k ("",[])).2 o)) j)=(List.range W).map λj=>hZ (came F es (ws.getD k ("",[])).2) j:=bZ λj hj=>yI R Z ok T hsy (bX.mp hj);have e2:((List.range (L+1)).map λn=>qC (came F es' (cH (0,1) (ws.getD k ("",[])).2 o)) n)=(List.range (L+1)).map λn=>qC (came F es (ws.getD k ("",[])).2) n:=bZ λn _=>QA R Z ok T hsy n;rw [e1,e2]
theorem KK{F W M:Nat}{es es':List cG}{o:List Nat}(R:dB F W M es)(ok:cP F o)(T:iW es o es'){e e':cG}(h:es.getLast?=some e)(h':es'.getLast?=some e'):e'.1.sum=e.1.sum:=by
 obtain ⟨a,ha,am,ax⟩:=rO R;obtain ⟨b,hb,bm,bx⟩:=rO (T.ru R ok);rw [h] at ha;cases ha;rw [h'] at hb;cases hb;obtain ⟨d,hd',e1⟩:=T.mem.mp bm;have e1:cF d.1 o=e'.1:=congrArg Prod.fst e1;have s1:=iQ ok (R.each d hd').1;have s2:=iQ ok (R.each e am).1;have h1:=ax d hd';have h2:=bx _ (T.mem.mpr ⟨e,am,rfl⟩);rw [show ((cF e.1 o,e.2):cG).1.sum=e.1.sum from s2] at h2;rw [<-e1,s1] at h2 ⊢;omega
@[irreducible] def vZ(K:PySem.W.Frag)(P:Addr):Sp:=λvs H Q _=>∃(t r cv:V) (b:Addr) (es:List cG) (F W M:Nat) (fs:List Str) (ws:List (Str × List Fr)) (cs:List Fr) (o:List Nat),vs=[t,r,cv,.ref b]/\bQ H (lN fs ws) t/\bQ H (wF es) r/\dB F W M es/\eU F W M/\xW F W fs ws/\bQ H (lO cs) cv/\vD M cs/\H b=some (.tup ((iO o).map V.int))/\cP F o/\jE H P xT xU/\∀H',aS P H H'->jE H' P xT xU->Q (.bl true) H'
theorem NJ{K:PySem.W.Frag}{P:Addr}{H:Hp}{Q:VK}{E:XK}{t r cv:V}{b:Addr}{es:List cG}{F W M:Nat}{fs:List Str}{ws:List (Str × List Fr)}{cs:List Fr}{o:List Nat}(h1:bQ H (lN fs ws) t)(h2:bQ H (wF es) r)(h3:dB F W M es)(h4:eU F W M)(h5:xW F W fs ws)(h6:bQ H (lO cs) cv)(h7:vD M cs)(h8:H b=some (.tup ((iO o).map V.int)))(h9:cP F o)(h10:jE H P xT xU)(q:∀H',aS P H H'->jE H' P xT xU->Q (.bl true) H'):vZ K P [t,r,cv,.ref b] H Q E:=by
 unfold vZ;exact ⟨t,r,cv,b,es,F,W,M,fs,ws,cs,o,rfl,h1,h2,h3,h4,h5,h6,h7,h8,h9,h10,q⟩
theorem SM{kvs:List (List eA × V)}(nd:(kvs.map (·.1)).Nodup){i:Nat}{k:List eA}{v:V}(h:kvs[i]?=some (k,v)):eJ kvs k=some v:=by
 unfold eJ;have hm:=bD h;cases q:kvs.find? λkv=>decide (kv.1=k) with
 | none =>
  have:=List.find?_eq_none.mp q _ hm;simp at this
 | some kv =>
  have e1:kv.1=k:=by simpa using List.find?_some q
  obtain ⟨j,hj⟩:=cS.mp (List.mem_of_find?_eq_some q);have:j=i:=(List.getElem?_inj (by rw [aA];exact (aY.mp hj).1) nd).mp (by rw [aC,aC,hj,h,<-e1];rfl);subst this;rw [h] at hj;injection hj with hj;rw [<-hj];rfl
theorem PJ{es:List cG}(nd:(es.map (·.1)).Nodup):(es.map λe=>kT e.1).Nodup:=by
 have:=gZ (f:=λc:List Int=>kT c) nd λx _ y _ e=>tO e;rw [List.map_map] at this;exact this
theorem rP{α β:Type}{R:α->β->Prop}:∀{l:List α}{m:List β},l.length=m.length->(∀(i:Nat) (a:α) (b:β),l[i]?=some a->m[i]?=some b->R a b)->Paired R l m
 | [],[],_,_=>.nil
 | [],_::_,h,_=>by simp at h
 | _::_,[],h,_=>by simp at h
 | a::l,b::m,h,f=>.cons (f 0 a b rfl rfl) (rP (by simpa using h) λi x y hx hy=>f (i+1) x y (by simpa using hx) (by simpa using hy))
theorem yK{K:PySem.W.Frag}{H:Hp}:∀{ds:List PyData}{xs:List V},cX K H ds xs->xs.length=ds.length
 | [],_,h=>by unfold cX at h;rw [h];rfl
 | d::ds,_,h=>by
  unfold cX at h;obtain ⟨x,xs,rfl,_,r2⟩:=h;rw [bL,bL,yK r2]
theorem RA{K:PySem.W.Frag}{H:Hp}{F:Nat}{es:List cG}{ys:List V}(h:cX K H (uF F es) ys):ys.length=es.length:=by
 have:=yK h;unfold uF at this;rw [this,aA]
def RH(K:PySem.W.Frag)(H0 H:Hp)(g:cG->List Int)(f:cG->Fr)(e:cG)(y:V):Prop:=∃(b cu:Addr) (va:V),y=.ref b/\H b=some (.tup [.ref cu,va])/\H cu=some (.tup ((g e).map V.int))/\fU K H0 (f e) va
theorem OG{K:PySem.W.Frag}{H:Hp}{g:cG->List Int}{f:cG->Fr}{ds:List cG}{ys:List V}(h:Paired (RH K H H g f) ds ys):∃kvs:List (List eA × V),Paired (qJ H) ys kvs/\kvs.map (·.1)=ds.map (λe=>kT (g e))/\(∀(i:Nat) (e:cG),ds[i]?=some e->∃v,kvs[i]?=some (kT (g e),v)/\fU K H (f e) v)/\kvs.length=ds.length:=by
 induction h with
 | nil=>exact ⟨[],.nil,rfl,(λi e h=>by simp at h),rfl⟩
 | cons r _ ih =>
  obtain ⟨b,cu,va,rfl,h3,h4,h5⟩:=r;obtain ⟨kvs,k1,k2,k3,k4⟩:=ih;refine ⟨(kT (g _),va)::kvs,.cons ⟨b,cu,rfl,h3,by rw [tN];exact h4⟩ k1,by rw [aZ,aZ,k2],λi e he=>?_,by rw [bL,bL,k4]⟩;cases i with
  | zero=>cases he;exact ⟨va,rfl,h5⟩
  | succ i =>
   obtain ⟨v,v1,v2⟩:=k3 i e (by simpa using he);exact ⟨v,by simpa using v1,v2⟩
theorem AmV.prs{K:PySem.W.Frag}{H:Hp}{F:Nat}{es:List cG}{ys:List V}(hl:ys.length=es.length)(a:AmV K H F es ys):Paired (RH K H H (λe=>e.1) (λe=>amf F es e.1)) es ys:=by
 refine rP hl.symm λi e y he hy=>?_;obtain ⟨e',b,cu,va,h1,h2,h3,h4,h5⟩:=a i y hy;rw [he] at h1;cases h1;exact ⟨b,cu,va,h2,h3,h4,h5⟩
end Kw
namespace L2
open PySem PySem.Spec PyProof.Rows
def xJ(X:Cx)(scope:Scope)(x:Str)(C:Addr)(fp:List Addr)(s₀:Shared)(H₀:Hp)(N':List Str):Cx :=
 { lC X scope C fp s₀ H₀ N' with env:=compEnvC scope ((x,C+1)::vA X scope) C X.env,fn:=λy=>y == x }
theorem wZ:∀{names:List (Str × NameKind)}{n:Nat}{acc:List (Str × Addr)}{h:Heap},(names.filter λy=>y.2 == .cell)=[]->cellsFrom n names acc=acc/\pushCells h names=h
 | [],_,_,_,_=>⟨rfl,rfl⟩
 | (a,k)::r,n,acc,h,e=>by
  rw [List.filter_cons] at e;by_cases q:(k == NameKind.cell)=true
  ·rw [if_pos q] at e;cases e
  ·rw [if_neg q] at e;unfold cellsFrom pushCells;rw [if_neg q,if_neg q];exact wZ e
theorem zK{x:Str}:∀{names:List (Str × NameKind)}{n:Nat}{acc:List (Str × Addr)}{h:Heap},(names.filter λy=>y.2 == .cell)=[(x,NameKind.cell)]->cellsFrom n names acc=(x,n)::acc/\pushCells h names=h.push { cls:=.type "cell",data:=.cell none }
 | [],_,_,_,e=>by cases e
 | (a,k)::r,n,acc,h,e=>by
  rw [List.filter_cons] at e;by_cases q:(k == NameKind.cell)=true
  ·rw [if_pos q] at e;injection e with e1 e2;have ea:a=x:=congrArg Prod.fst e1;subst ea;unfold cellsFrom pushCells;rw [if_pos q,if_pos q];exact wZ e2
  ·rw [if_neg q] at e;unfold cellsFrom pushCells;rw [if_neg q,if_neg q];exact zK e
theorem FX{M:Model}{A:Around}{E:Value->Shared->Prop}{s:Shared}{scope:Scope}{g:Addr}{cl:List (Str × Addr)}{q:Str}{env:Env}{x:Str}{Q:Env->Shared->Prop}(ho:(scope.names.filter λy=>y.2 == .cell)=[(x,NameKind.cell)])
  (h:Q { scope,locals:=s.heap.objs.size,globals:=g,cells:=(x,s.heap.objs.size+1)::cl,qual:=q,func:=none,code:=env.code,frame:=env.frame,builtins:=env.builtins } { s with heap:=(s.heap.push { cls:=.type "dict",data:=.dict #[] }).push { cls:=.type "cell",data:=.cell none } }) :
  wpAny M A (newFunctionEnv scope g cl [] q none .none (some env)) Q E s:=by
 simp only [newFunctionEnv,Option.isSome_some,if_true];refine wpAny_bind (wpAny_alloc ?_);refine wpAny_bind (wpAny_layCells _ (λname kind cells=>by cases hkc:kind == NameKind.cell <;> simp [hkc]) _ _ _ _ ?_);obtain ⟨e1,e2⟩:=zK (n:=({ s with heap:=s.heap.push { cls:=.type "dict",data:=.dict #[] } }:Shared).heap.objs.size) (acc:=cl) (h:=s.heap.push { cls:=.type "dict",data:=.dict #[] }) ho;rw [e1,e2];rw [List.forIn_nil];refine wpAny_bind (wpAny_pure (wpAny_pure ?_));rw [show ({ s with heap:=s.heap.push { cls:=.type "dict",data:=.dict #[] } }:Shared).heap.objs.size=s.heap.objs.size+1 from eC ..];exact h
theorem nE{env:Env}:∀{names:List (Str × NameKind)}{x:Str},names.lookup x=some .cell ->
  (names.map λ(n,k)=>if (k == NameKind.free&&env.scope.kind == .function&&env.kindOf n == some .cell) then (n,NameKind.cell) else (n,k)).lookup x=some .cell
 | [],_,h=>by cases h
 | (n,k)::r,x,h=>by
  rw [List.lookup_cons] at h;rw [aZ];dsimp only;by_cases hq:(k == NameKind.free&&env.scope.kind == .function&&env.kindOf n == some .cell)=true
  ·rw [if_pos hq,List.lookup_cons];by_cases e:(x == n)=true
   ·rw [e]
   ·have e':(x == n)=false:=by simpa using e
    rw [e'] at h ⊢;exact nE h
  ·rw [if_neg hq,List.lookup_cons];by_cases e:(x == n)=true
   ·rw [e] at h ⊢;exact h
   ·have e':(x == n)=false:=by simpa using e
    rw [e'] at h ⊢;exact nE h
theorem kY{env:Env}{x:Str}:∀{names:List (Str × NameKind)}{y:Str}{k:NameKind},(names.map λ(n,k)=>if (k == NameKind.free&&env.scope.kind == .function&&env.kindOf n == some .cell) then (n,NameKind.cell) else (n,k)).lookup y=some k ->
  (k=.cell\/k=.free)->(∀z∈names,z.2=.cell->z.1=x)->y=x\/(y,NameKind.free)∈names
 | [],_,_,h,_,_=>by cases h
 | (n,q)::r,y,k,h,hk,hc=>by
  rw [aZ,List.lookup_cons] at h;have ih:=λh=>@kY env x r y k h hk λz hz=>hc z (aH _ hz);have up:y=x\/(y,NameKind.free)∈r->y=x\/(y,NameKind.free)∈(n,q)::r:=λz=>z.imp id (aH _);by_cases hq:(q == NameKind.free&&env.scope.kind == .function&&env.kindOf n == some .cell)=true
  ·dsimp only at h;rw [if_pos hq] at h;have qf:q=.free:=by
    rw [cL,cL] at hq;simpa using hq.1.1
   subst qf;by_cases e:(y == n)=true
   ·have:y=n:=by simpa using e
    subst this;exact .inr aG
   ·have e':(y == n)=false:=by simpa using e
    dsimp only at h;rw [e'] at h;exact up (ih h)
  ·dsimp only at h;rw [if_neg hq] at h;by_cases e:(y == n)=true
   ·have:y=n:=by simpa using e
    subst this;dsimp only at h;rw [e] at h;have hkq:k=q:=by injection h with h;exact h.symm
    subst hkq;rcases hk with rfl | rfl
    ·exact .inl (hc _ aG rfl)
    ·exact .inr aG
   ·have e':(y == n)=false:=by simpa using e
    dsimp only at h;rw [e'] at h;exact up (ih h)
section
variable{X:Cx}{pins:List (Addr × Obj)}{σ:St}{H:Hp}{s:Shared}{scope:Scope}{x:Str}{N':List Str}{js:List Nat}{fp:List Addr}
theorem mM{y:Str}{C c:Addr}{cl:List (Str × Addr)}(h:((x,C)::cl).lookup y=some c):(y=x/\c=C)\/(y≠x/\cl.lookup y=some c):=by
 rw [List.lookup_cons] at h;by_cases e:(y == x)=true
 ·rw [e] at h;cases h;exact .inl ⟨by simpa using e,rfl⟩
 ·have e':(y == x)=false:=by simpa using e
  rw [e'] at h;exact .inr ⟨λz=>e (by simp [z]),h⟩
theorem DY{y:Str}{C c:Addr}{cl:List (Str × Addr)}(n:y≠x)(h:cl.lookup y=some c):((x,C)::cl).lookup y=some c:=by
 rw [List.lookup_cons,show (y == x)=false by simpa using n];exact h
end
section
variable{X:Cx}{pins:List (Addr × Obj)}{σ:St}{H:Hp}{s:Shared}{scope:Scope}{x:Str}{N':List Str}{js:List Nat}{fp:List Addr}{elt iter:Expr}{px pos:Pos}{ifs:List Expr}{tc:TT}{te:TE}
end
structure gI(X:Cx)(scope:Scope)(x:Str)(xs:List Str)(N':List Str)(js:List Nat):Prop where
 calm:X.calm=true
 free:∀y∈scope.names,y.2=.free->X.env.kindOf y.1=some .cell
 only:(scope.names.filter λy=>y.2 == .cell)=[(x,NameKind.cell)]
 kind:scope.kind=.function
 names:∀y∈scope.names,y.2=.local->scope.names.lookup y.1=some .local
 own:scope.names.lookup x=some .cell
 nofl:∀y,(y,NameKind.free)∈scope.names->scope.names.lookup y=some .local->False
 nofx:(x,NameKind.free) ∉ scope.names
 len:N'.length=xs.length+js.length
 nd:N'.Nodup
 slot:∀(i:Nat) (j:Nat),js[i]?=some j->∃y,N'[xs.length+i]?=some y/\X.N[j]?=some y/\(y,NameKind.free)∈scope.names
section
variable{X:Cx}{pins:List (Addr × Obj)}{σ:St}{H:Hp}{s:Shared}{scope:Scope}{x:Str}{xs:List Str}{N':List Str}{js:List Nat}{fp:List Addr}
theorem gI.cells(S:gI X scope x xs N' js)(ok:X.Ok):∀y∈scope.names,y.2=.free->∃c,X.env.cells.lookup y.1=some c:=λy hy hf=>ok.has _ (.inl (S.free y hy hf))
theorem gI.cell(S:gI X scope x xs N' js):∀z∈scope.names,z.2=.cell->z.1=x:=λz hz e=>by
 have:z∈scope.names.filter λy=>y.2 == .cell:=dI.mpr ⟨hz,by rw [e];rfl⟩;rw [S.only] at this;rw [bM.mp this]
theorem WE(S:gI X scope x xs N' js)(I:bW X pins σ H s)(hf:∀b∈fp,gU X pins H b)(hb:∀b∈fp,b<s.heap.objs.size):(xJ X scope x s.heap.objs.size fp s H N').Ok:=by
 have old:∀y c,(vA X scope).lookup y=some c->c<s.heap.objs.size:=λy c h=>by
  obtain ⟨v,o,e,_⟩:=I.cell y c (eL (S.cells I.ok) h);exact aT e
 exact {
  mod:=I.ok.mod
  kind:=S.kind
  glob:=I.ok.glob
  blt:=I.ok.blt
  above:=aM _
  inj:=λy z c h1 h2=>by
   rcases mM h1 with ⟨a1,a2⟩ | ⟨a1,a2⟩ <;> rcases mM h2 with ⟨b1,b2⟩ | ⟨b1,b2⟩
   ·rw [a1,b1]
   ·have:=old _ _ b2;rw [a2] at this;exact absurd (Nat.lt_of_succ_lt this) (bT _)
   ·have:=old _ _ a2;rw [b2] at this;exact absurd (Nat.lt_of_succ_lt this) (bT _)
   ·exact I.ok.inj y z c (eL (S.cells I.ok) a2) (eL (S.cells I.ok) b2)
  has:=λy hy=>by
   have hm:y=x\/(y,NameKind.free)∈scope.names:=by
    rcases hy with hy | hy
    ·exact kY (env:=X.env) hy (.inl rfl) S.cell
    ·exact kY (env:=X.env) hy (.inr rfl) S.cell
   by_cases q:y=x
   ·subst q;exact ⟨s.heap.objs.size+1,by show List.lookup y ((y,_)::_)=_;rw [List.lookup_cons,show (y == y)=true by simp]⟩
   ·have hm:=hm.resolve_left q;obtain ⟨c,hc⟩:=S.cells I.ok _ hm rfl;exact ⟨c,DY q (jD (S.cells I.ok) hm hc)⟩
  cab:=λy c hy h=>by
   rcases mM h with ⟨_,a2⟩ | ⟨a1,_⟩
   ·rw [a2];exact Nat.le_succ _
   ·exact absurd (by simpa [xJ] using hy) a1
  hd:=λ_=>I.ok.hd S.calm
  frames:=I.ok.frames
  stk:=.inl rfl
  exf:=λb hb'=>⟨λe=>by have:=hb b hb';rw [e] at this;exact bT _ this,λy c h=>by
   rcases mM h with ⟨_,a2⟩ | ⟨_,a2⟩
   ·intro e;have:=hb b hb';rw [<-e,a2] at this;exact absurd (Nat.lt_of_succ_lt this) (bT _)
   ·exact (hf b hb').2.2.2.2.1 y c (eL (S.cells I.ok) a2)⟩
  bs:=I.bs
  bsz:=bG I.ok.bsz I.sz
  noex:=λb o e hb'=>by
   rcases (hf b hb').2.2.2.1 with h | h
   ·exact I.ok.noex b o e h
   ·exact absurd (bA (aT e) (bG I.ok.bsz h)) (bT _)
  exfs:=λb hb' hs=>by
   have h2:=I.stkSub b hs;rcases aV.mp h2 with h2 | h2
   ·exact (hf b hb').2.1 h2
   ·exact (hf b hb').2.2.1 h2
  funs:=I.stack
  frf:=I.stkFree }
theorem QF{h':Heap}{tk:Nat}(S:gI X scope x xs N' js)(I:bW X pins σ H s)(hf:∀b∈fp,gU X pins H b)(hb:∀b∈fp,b<s.heap.objs.size)
  (hn:h'.Ns s.heap.objs.size (λ_=>none)) (hk:∀b o,s.heap.get? b=some o->h'.get? b=some o) (hc0:h'.IsCell (s.heap.objs.size+1) none):bW (xJ X scope x s.heap.objs.size fp s H N') [] (List.replicate xs.length none++slots σ js) H { s with heap:=h',toks:=tk } where
 ok:=WE S I hf hb
 os:=rfl
 bare:=I.bare
 base:=Un.kept hk
 loc:=by
  refine ⟨_,hn,λi y v hi hv hvis=>?_⟩;by_cases hix:i<xs.length
  ·rw [List.getElem?_append_left (by rw [bU];exact hix),List.getElem?_replicate,if_pos hix] at hv;cases hv
  ·obtain ⟨i,rfl⟩:∃k,i=xs.length+k:=⟨i-xs.length,Oo⟩;have hv':(slots σ js)[i]?=some (some v):=by
    rw [List.getElem?_append_right (by rw [bU];omega),bU,Nat.add_sub_cancel_left] at hv;exact hv
   have hlt:i<js.length:=by
    have:=(aY.mp hv').1;unfold slots at this
    rwa [aA] at this
   have hj:js[i]?=some js[i]:=aD hlt;obtain ⟨z,h1,h2,h3⟩:=S.slot i _ hj;have hzy:z=y:=by
    have:N'[xs.length+i]?=some y:=hi;rw [h1] at this;cases this;rfl
   subst hzy;rw [tF hj] at hv';have hσ:σ[js[i]]?=some (some v):=by
    cases q:σ[js[i]]? with
    | none=>rw [q] at hv';cases hv'
    | some o=>rw [q] at hv';cases hv';rfl
   have hkc:X.env.kindOf z=some .cell:=S.free _ h3 rfl;obtain ⟨m,hm,hl⟩:=I.loc;obtain ⟨u,ru,lk⟩:=hl _ z v h2 hσ (.inr (.inl hkc));rcases lk with ⟨hk1,_⟩ | ⟨_,c,hc,hcell⟩
   ·rw [hkc] at hk1;cases hk1
   ·have nzx:z≠x:=λq=>S.nofx (q ▸ h3);refine ⟨u,ru,.inr ⟨?_,c,DY nzx (jD (S.cells I.ok) h3 hc),?_⟩⟩
    ·rcases hvis with hvis | hvis | hvis
     ·exfalso;have hcl:=jD (S.cells I.ok) h3 hc;have hm2:=lA (l:=(relabel scope X.env).names) hvis;unfold relabel at hm2;obtain ⟨⟨n,k⟩,hmem,he⟩:=aK.mp hm2;dsimp only at he;by_cases hq:(k == NameKind.free&&X.env.scope.kind == .function&&X.env.kindOf n == some .cell)=true
      ·rw [if_pos hq] at he;cases he
      ·rw [if_neg hq] at he;cases he;have:=S.names _ hmem rfl;have l2:=kZ h3;obtain ⟨c',l2⟩:=l2;dsimp only at this;rw [this] at l2;have key:(relabel scope X.env).names.lookup z=some .local:=lookup_relabel_local this;have hck:scope.names.lookup z=some .local:=this;exact S.nofl z h3 hck
     ·exact .inl hvis
     ·exact .inr hvis
    ·obtain ⟨o,e,r⟩:=hcell;exact ⟨o,hk _ _ e,r⟩
 cell:=λy c h=>by
  rcases mM h with ⟨_,a2⟩ | ⟨_,a2⟩
  ·rw [a2];exact ⟨none,hc0⟩
  ·obtain ⟨v,o,e,r⟩:=I.cell y c (eL (S.cells I.ok) a2);exact ⟨v,o,hk _ _ e,r⟩
 free:=I.hok.fresh (aM _)
 freeC:=λy c h=>by
  rcases mM h with ⟨_,a2⟩ | ⟨_,a2⟩
  ·rw [a2];exact I.hok.fresh (Nat.le_succ _)
  ·exact I.freeC y c (eL (S.cells I.ok) a2)
 pin:=λp hp=>by cases hp
 hok:=I.hok.kept hk
 len:=by
  show (List.replicate xs.length none++slots σ js).length=N'.length;unfold slots;rw [bI,bU,aA,S.len]
theorem LB{H2:Hp}{σ':St}{s2:Shared}{h'':Heap}(S:gI X scope x xs N' js)(I:bW X pins σ H s)(hf:∀b∈fp,gU X pins H b)
  (J:bW (xJ X scope x s.heap.objs.size fp s H N') [] σ' H2 s2) (hs:Heap.SameBut s.heap.objs.size s2.heap h''):bW X pins σ H2 { s2 with heap:=h'' }:=by
 have hC:H2 s.heap.objs.size=none:=J.free;have ne:∀{b:Addr} {o:Obj},s.heap.get? b=some o->b≠s.heap.objs.size:=λe q=>by
  have:=aT e;rw [q] at this;exact bT _ this
 refine I.call' (s':={ s2 with heap:=h'' }) (ch:=fp) (by rw [show ({ s2 with heap:=h'' }:Shared).os=s2.os from rfl];exact J.os) ?_ (J.hok.but hC λb u hb q=>hs.extBut b u hb q) J.bare λb hb=>⟨(hf b hb).2.2.2.1,(hf b hb).2.1,(hf b hb).2.2.2.2.1,(hf b hb).2.2.2.2.2⟩;have U:=J.base;exact {
  keep:=λb o e n h1 h2=>hs.extBut b o (ne e) (U.keep b o e n h1 h2)
  slot:=λb o e n h1 h2=>by
   obtain ⟨sl,q⟩:=U.slot b o e n h1 h2;exact ⟨sl,hs.extBut b _ (ne e) q⟩
  free:=U.free
  there:=λb o e h2=>by
   obtain ⟨o',q⟩:=U.there b o e h2;exact ⟨o',hs.extBut b _ (ne e) q⟩
  tups:=U.tups
  frzs:=U.frzs
  tbls:=U.tbls }
end
section
variable{X:Cx}{pins:List (Addr × Obj)}{σ:St}{H:Hp}{s:Shared}{scope:Scope}{x:Str}{xs:List Str}{N':List Str}{js:List Nat}{fp:List Addr}{elt iter:Expr}{px pos:Pos}{tg:Expr}{ifs:List Expr}{tc:TT}{te:TE}
theorem DT{J:It}{it:Addr}{tn:Nat->Heap->Prop}{RR:Value->Addr->Result->Shared->Prop}{E:Value->Shared->Prop}{Q:VK}
  (S:gI X scope x xs N' js) (I:bW X pins σ H s) (T:EI X.prog X.w X.K tg J fp it tn) (h0:tn 0 s.heap) (hf:∀b∈fp,gU X pins H b)
  (hg:∀C fp s₀ H₀,PG (xJ X scope x C fp s₀ H₀ N') tg (gN X.K xs.length)) (ht:∀C fp s₀ H₀,LX (xJ X scope x C fp s₀ H₀ N') ifs tc) (he:∀C fp s₀ H₀,PE (xJ X scope x C fp s₀ H₀ N') elt te)
  (R:∀D,H D=none->∃W:Nat->Nat->List V->Hp->Prop,(∃m,W 0 m [] (upd H D (.lst []))) /\
   ∀i m ys H2,W i m ys H2->H2 D=some (.lst ys)/\((J.stop i H2/\Q (.ref D) H2)\/(J.go i H2/\ys.length<sizeLine/\∀x H3,J.yld i H2 x H3->∃a vs,x=.ref a/\dO X.K H3 a vs/\vs.length=xs.length /\
    tc (vs.map some++slots σ js) H3 λb H4=>if b=true then te (vs.map some++slots σ js) H4 λy H5=>H5 D=some (.lst ys)/\∃m',m' < m/\W (i+1) m' (ys++[y]) (upd H5 D (.lst (ys++[y])))
     else H4 D=some (.lst ys)/\∃m',m' < m/\W (i+1) m' ys H4)))
  (hRR:∀(D:Addr) (H3:Hp) (s3:Shared) (σ':St) (H':Hp) (s':Shared),bW X pins σ H3 s3->(∀b∈fp,gU X pins H3 b)->bW (xJ X scope x s3.heap.objs.size fp s3 H3 N') [] σ' H' s'->Q (.ref D) H'->RR (.ref D) s3.heap.objs.size (.ok .next) s') :
  wpAny (model X.prog X.w) X.A (newList []) (λacc s₃=>wpAny (model X.prog X.w) X.A (newFunctionEnv scope X.env.globals (vA X scope) [] X.env.qual none .none (some X.env)) (λcenv s₄ =>
   codeAny (model X.prog X.w) X.A (.compStart (.ListComp elt [⟨tg,iter,ifs,0⟩] scope pos) 0 (.ref it) acc { cenv with scope:=relabel scope X.env }) (RR acc cenv.locals) s₄) E s₃) E s:=by
 have hb:∀b∈fp,b<s.heap.objs.size:=λb hb=>by
  obtain ⟨o,e,_⟩:=T.obj 0 _ h0 b hb;exact aT e
 refine wpAny_newObj_type (FX S.only ?_);have hDn:H s.heap.objs.size=none:=I.hok.fresh (aM _);obtain ⟨W,⟨m0,hw0⟩,hW⟩:=R _ hDn;have I3:bW X pins σ (upd H s.heap.objs.size (.lst [])) { s with heap:=s.heap.push { cls:=.type "list",dict:=none,data:=.seq ([]:List Value).toArray } }:=I.lnew (its:=[]) (ys:=[]) (t':=s.toks) .nil (cK _);have hf3:∀b∈fp,gU X pins (upd H s.heap.objs.size (.lst [])) b:=λb hb' =>
  ⟨by rw [bP (λe=>by have:=hb b hb';rw [e] at this;exact bT _ this)];exact (hf b hb').1,(hf b hb').2⟩
 have hb3:∀b∈fp,b<(s.heap.push { cls:=.type "list",dict:=none,data:=.seq ([]:List Value).toArray }).objs.size:=λb hb'=>by
  rw [eC];exact Nat.lt_succ_of_lt (hb b hb')
 have hns₁:=(Heap.Ns.new (s.heap.push { cls:=.type "list",dict:=none,data:=.seq ([]:List Value).toArray }) (.type "dict")).keeps λb o e=>aB { cls:=.type "cell",data:=.cell none } e;have hcl₁:(((s.heap.push { cls:=.type "list",dict:=none,data:=.seq ([]:List Value).toArray }).push { cls:=.type "dict",data:=.dict #[] }).push { cls:=.type "cell",data:=.cell none }).IsCell ((s.heap.push { cls:=.type "list",dict:=none,data:=.seq ([]:List Value).toArray }).objs.size+1) none :=
  ⟨_,by rw [<-eC (s.heap.push { cls:=.type "list",dict:=none,data:=.seq ([]:List Value).toArray }) { cls:=.type "dict",data:=.dict #[] }];exact aP _ rfl,rfl⟩
 have hkp₁:∀b o,(s.heap.push { cls:=.type "list",dict:=none,data:=.seq ([]:List Value).toArray }).get? b=some o->(((s.heap.push { cls:=.type "list",dict:=none,data:=.seq ([]:List Value).toArray }).push { cls:=.type "dict",data:=.dict #[] }).push { cls:=.type "cell",data:=.cell none }).get? b=some o:=λb o e=>aB _ (aB _ e);show codeAny _ _ (.compStart _ 0 (.ref it) (.ref s.heap.objs.size) (compEnvC scope ((x,(s.heap.push { cls:=.type "list",dict:=none,data:=.seq ([]:List Value).toArray }).objs.size+1)::vA X scope) (s.heap.push { cls:=.type "list",dict:=none,data:=.seq ([]:List Value).toArray }).objs.size X.env)) _ { s with heap:=(((s.heap.push { cls:=.type "list",dict:=none,data:=.seq ([]:List Value).toArray }).push { cls:=.type "dict",data:=.dict #[] }).push { cls:=.type "cell",data:=.cell none }) };generalize ((s.heap.push { cls:=.type "list",dict:=none,data:=.seq ([]:List Value).toArray }).push { cls:=.type "dict",data:=.dict #[] }).push { cls:=.type "cell",data:=.cell none }=h₁ at hns₁ hcl₁ hkp₁ ⊢;have hkeep:∀b o,(s.heap.push { cls:=.type "list",dict:=none,data:=.seq ([]:List Value).toArray }).get? b=some o->h₁.get? b=some o:=hkp₁;have J4:=QF (h':=h₁) (tk:=s.toks) S I3 hf3 hb3 hns₁ hkeep hcl₁;have t4:tn 0 h₁:=T.keep 0 _ _ h0 λb hb' o e=>hkeep b o (aB _ e)
 have loop:codeAny (model X.prog X.w) X.A (.compLoop (.ListComp elt [⟨tg,iter,ifs,0⟩] scope pos) 0 (.ref it) (.ref s.heap.objs.size) (compEnvC scope ((x,(s.heap.push { cls:=.type "list",dict:=none,data:=.seq ([]:List Value).toArray }).objs.size+1)::vA X scope) (s.heap.push { cls:=.type "list",dict:=none,data:=.seq ([]:List Value).toArray }).objs.size X.env))
   (RR (.ref s.heap.objs.size) (s.heap.push { cls:=.type "list",dict:=none,data:=.seq ([]:List Value).toArray }).objs.size) { s with heap:=h₁ }:=by
  refine nS (λn s'=>∃(i:Nat) (ys:List V) (H2:Hp) (os:St),os.length=xs.length/\bW (xJ X scope x _ fp _ _ N') [] (os++slots σ js) H2 s'/\tn i s'.heap/\(∀b∈fp,H2 b=none)/\W i n ys H2) ?_ m0 ⟨0,[],_,_,bU,J4,t4,λb hb'=>(hf3 b hb').1,hw0⟩;rintro n s' ⟨i,ys,H2,os,hos,J2,t2,f2,w2⟩;obtain ⟨hD,hcase⟩:=hW i n ys H2 w2;have Fp:∀b∈fp,gU (xJ X scope x (s.heap.push { cls:=.type "list",dict:=none,data:=.seq ([]:List Value).toArray }).objs.size fp { s with heap:=s.heap.push { cls:=.type "list",dict:=none,data:=.seq ([]:List Value).toArray } } (upd H s.heap.objs.size (.lst [])) N') [] H2 b:=λb hb' =>
   ⟨f2 b hb',(J2.ok.exf b hb').1,J2.ok.exfs b hb',.inl hb',(J2.ok.exf b hb').2,λp hp=>by cases hp⟩
  rcases hcase with ⟨hstop,hq⟩ | ⟨hgo,hz,hturn⟩
  ·refine wpAny_mono (T.done (xJ X scope x _ fp _ _ N') rfl rfl rfl rfl i [] s' _ H2 MA J2 Fp t2 hstop) (λr s1 ⟨hr,J5⟩=>?_) λ_ _ f=>f;subst hr;exact hRR _ _ _ _ _ _ I3 hf3 J5 hq
  ·refine wpAny_mono (T.item (xJ X scope x _ fp _ _ N') rfl rfl rfl rfl i [] s' _ H2 MA J2 Fp t2 hgo) (λr s1 ⟨u,hr,hx⟩=>?_) λ_ _ f=>f;subst hr;refine wpAny_mono hx (λ_ s2 ⟨v,H3,J3,rv,hy,t3,f3⟩=>?_) λ_ _ f=>f;have Fp3:∀b∈fp,gU (xJ X scope x (s.heap.push { cls:=.type "list",dict:=none,data:=.seq ([]:List Value).toArray }).objs.size fp { s with heap:=s.heap.push { cls:=.type "list",dict:=none,data:=.seq ([]:List Value).toArray } } (upd H s.heap.objs.size (.lst [])) N') [] H3 b:=λb hb' =>
    ⟨f3 b hb',(J3.ok.exf b hb').1,J3.ok.exfs b hb',.inl hb',(J3.ok.exf b hb').2,λp hp=>by cases hp⟩
   have P3:=J3.pinned Fp3 (T.obj (i+1) _ t3);have keepT:∀{σ':St} {Hx:Hp} {sx:Shared},bW (xJ X scope x (s.heap.push { cls:=.type "list",dict:=none,data:=.seq ([]:List Value).toArray }).objs.size fp { s with heap:=s.heap.push { cls:=.type "list",dict:=none,data:=.seq ([]:List Value).toArray } } (upd H s.heap.objs.size (.lst [])) N') ([]++qN fp s2.heap) σ' Hx sx->tn (i+1) sx.heap/\∀b∈fp,Hx b=none:=λJx =>
    ⟨T.keep (i+1) _ _ t3 λb hb' ob e=>(Jx.pin (b,ob) (aL _ (aL _ (gQ hb' e)))).1,λb hb'=>by
     obtain ⟨ob,e,_⟩:=T.obj (i+1) _ t3 b hb';exact (Jx.pin (b,ob) (aL _ (aL _ (gQ hb' e)))).2.1⟩
   obtain ⟨a,vs,ev,hq,hl,qe⟩:=hturn v H3 hy;subst ev;refine wpAny_mono (hg _ _ _ _ _ _ (os++slots σ js) H3 (.ref a) u (λσ' H'=>σ'=vs.map some++slots σ js/\H'=H3) P3 rv ⟨a,vs,rfl,hq,hl,?_⟩) (λ_ s5 ⟨σ5,H5,J5,e5,e6⟩=>?_) λ_ _ f=>f
   ·have:=qQ (H:=H3) (r:=slots σ js) (Q:=λσ' H'=>σ'=vs.map some++slots σ js/\H'=H3) vs [] os (by rw [hos,hl]) ⟨rfl,rfl⟩;rw [hl] at this;exact this
   subst e5 e6;refine wpAny_mono (ht _ _ _ _ _ _ _ _ _ J5 qe) (λok s6 ⟨H6,J6,q6⟩=>?_) λ_ _ f=>f;dsimp only at q6;by_cases hok:ok=true
   ·rw [if_pos hok] at q6 ⊢;refine wpAny_mono (he _ _ _ _ _ _ _ _ _ J6 q6) (λy s7 ⟨w',H7,J7,r7,hD7,m',hm',w7⟩=>?_) λ_ _ f=>f;refine wpAny_mono (pU (X:=xJ X scope x _ fp _ _ N') _ _ _ _ (.ref s.heap.objs.size) [w'] (.ref s.heap.objs.size) [y] (λ_ H8=>H8=upd H7 s.heap.objs.size (.lst (ys++[w']))) J7 rfl (.cons r7 .nil) ⟨_,_,_,rfl,rfl,hD7,hz,rfl⟩) (λ_ s8 ⟨_,H8,J8,_,e8⟩=>?_) λ_ _ f=>f;subst e8;obtain ⟨k1,k2⟩:=keepT J8;exact ⟨m',hm',i+1,ys++[w'],_,vs.map some,by rw [aA,hl],J8.unpinned,k1,k2,w7⟩
   ·rw [if_neg hok] at q6 ⊢;obtain ⟨_,m',hm',w7⟩:=q6;obtain ⟨k1,k2⟩:=keepT J6;exact ⟨m',hm',i+1,ys,_,vs.map some,by rw [aA,hl],J6.unpinned,k1,k2,w7⟩
 refine codeAny_compStart_list loop (T.self X.A 0 _ _ _ t4 loop)
theorem ON{wi:TI}(S:gI X scope x xs N' js)(hi:PI X tg iter wi)(hg:∀C fp s₀ H₀,PG (xJ X scope x C fp s₀ H₀ N') tg (gN X.K xs.length))(ht:∀C fp s₀ H₀,LX (xJ X scope x C fp s₀ H₀ N') ifs tc)(he:∀C fp s₀ H₀,PE (xJ X scope x C fp s₀ H₀ N') elt te)
  (hs:∀x,foldedSetIterable iter X.env x=pure x:=by intro _;rfl):PE X (.ListComp elt [⟨tg,iter,ifs,0⟩] scope pos) (qL X.K xs.length wi js tc te):=by
 intro pins s σ H Q I h;rw [eval_ListComp];refine wpAny_comprehension_free (use:=none) rfl hs (jW (S.cells I.ok)) S.kind S.names (wpAny_mono (hi pins s σ H _ I h) (λv s1 h1=>?_) λ_ _ e=>e);refine wpAny_mono h1 (λitv s2 ⟨it,fp,tn,J,H2,e,I2,T,t0,hf,R⟩=>?_) λ_ _ e=>e;subst e;refine DT (te:=sX te) (tc:=oC tc) S I2 T t0 hf hg (λC fp s₀ H₀=>(ht C fp s₀ H₀).mono) (λC fp s₀ H₀=>(he C fp s₀ H₀).mono) (by unfold uX at R;exact R) ?_;intro D H3 s3 σ' H' s' I3 hf3 J3 q;obtain ⟨m,hm,_⟩:=J3.loc;exact ⟨m,hm,λh' hs'=>⟨.ref D,H',LB S I3 hf3 J3 hs',rfl,q⟩⟩
end
section
variable{X:Cx}{scope:Scope}{x1 x2 y:Str}{N':List Str}{js:List Nat}{elt iter tg:Expr}{ifs:List Expr}{py pos spos:Pos}{tc:TT}{te:TE}{wi:TI}{i:Nat}
theorem SI{p1 p2 pt:Pos}{kk:Nat}(S:gI X scope x1 [x1,x2] N' js)(h0:N'[0]?=some x1)(h1:N'[1]?=some x2)(l2:scope.names.lookup x2=some .local)(C:Addr)(fp:List Addr)(s₀:Shared)(H₀:Hp):RV (xJ X scope x1 C fp s₀ H₀ N') (.Tuple [.Name x1 p1,.Name x2 p2] kk pt) (gN X.K 2) :=
 qK rfl (eR (dP S.nd h0 (.inr (nE S.own)) (.inl (by simp [xJ]))) (eR (dP S.nd h1 (.inl (lookup_relabel_local l2)) (.inr (lookup_relabel_local l2))) mR))
theorem JB{p1 p2 pt:Pos}{kk:Nat}(S:gI X scope x1 [x1,x2] N' js)(h0:N'[0]?=some x1)(h1:N'[1]?=some x2)(l2:scope.names.lookup x2=some .local)(hi:IU X (.Tuple [.Name x1 p1,.Name x2 p2] kk pt) iter wi)(ht:∀C fp s₀ H₀,GN (xJ X scope x1 C fp s₀ H₀ N') ifs tc)(he:∀C fp s₀ H₀,fJ (xJ X scope x1 C fp s₀ H₀ N') elt te)
  (hs:∀x,foldedSetIterable iter X.env x=pure x:=by intro _;rfl):fJ X (.ListComp elt [⟨.Tuple [.Name x1 p1,.Name x2 p2] kk pt,iter,ifs,0⟩] scope pos) (qL X.K 2 wi js tc te) :=
 ⟨ON S hi.p (λC fp s₀ H₀=>(SI S h0 h1 l2 C fp s₀ H₀).p) (λC fp s₀ H₀=>(ht C fp s₀ H₀).p) (λC fp s₀ H₀=>(he C fp s₀ H₀).p) hs⟩
end
def QJ(psc scope:Scope)(N:List Str)(x:Str)(xs N':List Str)(js:List Nat):Bool :=
 (scope.names.all λy=>!(y.2 == .free) || psc.names.lookup y.1 == some .cell)&&(scope.names.filter λy=>y.2 == .cell) == [(x,NameKind.cell)]&&scope.kind == .function &&
 (scope.names.all λy=>!(y.2 == .local) || scope.names.lookup y.1 == some .local)&&scope.names.lookup x == some .cell &&
 (scope.names.all λy=>!(y.2 == .free) || (!(scope.names.lookup y.1 == some .local) && !(y.1 == x)))&&N'.length == xs.length+js.length&&decide N'.Nodup &&
 ((List.range js.length).all λi=>match js[i]?,N'[xs.length+i]? with
  | some j,some y=>N[j]? == some y&&scope.names.contains (y,NameKind.free)
  | _,_=>false)
theorem gI.of{X:Cx}{psc scope:Scope}{N:List Str}{x:Str}{xs N':List Str}{js:List Nat}(h:QJ psc scope N x xs N' js=true)(hX:X.env.scope=psc)(hN:X.N=N)(hc:X.calm=true):gI X scope x xs N' js:=by
 unfold QJ at h;simp only [cL] at h;obtain ⟨⟨⟨⟨⟨⟨⟨⟨h1,h2⟩,h3⟩,h4⟩,h5⟩,h6⟩,h7⟩,h9⟩,h10⟩:=h;rw [List.all_eq_true] at h1 h4 h6 h10;refine ⟨hc,λy hy e=>?_,by simpa using h2,by simpa using h3,λy hy e=>?_,by simpa using h5,λy hy e=>?_,λhy=>?_,by simpa using h7,of_decide_eq_true h9,λi j hj=>?_⟩
 ·have:=h1 y hy;rw [e] at this;show X.env.scope.names.lookup y.1=_;rw [hX];simpa using this
 ·have:=h4 y hy;rw [e] at this;simpa using this
 ·have:=h6 _ hy;simp [e] at this
 ·have:=h6 _ hy;simp at this
 ·have hi:i<js.length:=(aY.mp hj).1;have:=h10 i (bX.mpr hi);rw [hj] at this;cases q:N'[xs.length+i]? with
  | none=>rw [q] at this;simp at this
  | some y =>
   rw [q] at this;simp only [cL] at this;exact ⟨y,rfl,by rw [hN];simpa using this.1,List.contains_iff_mem.mp this.2⟩
theorem SE{X:Cx}{tg l:Expr}{tl:TE}(K:PySem.W.Frag)(hl:fJ X l tl)(hK:X.K=K:=by rfl):IU X tg l (aA7 K tl):=by subst hK;exact gK hl
end L2
namespace L2
open PySem PySem.W PySem.Spec PySem.Calls PyProof.Rows
theorem aAM{X:Cx}:nZ X (compareOp .Is) (λx y H Q=>∃a b,x=.bl a/\y=.bl b/\Q (.bl (a == b)) H):=by
 intro pins s σ H x y v u Q I rx ry h;obtain ⟨a,b,rfl,rfl,q⟩:=h;cases rx;cases ry;exact is_bool ⟨.bl _,H,I,rfl,q⟩
end L2
namespace Kw
open PySem L2 Mf
abbrev sQ1:Stmt:=(top 75)
theorem cQ1:bK ["_law_trial_here","_law_rule_here","_law_costs","_law_order_here","_law_other","_law_turned","_law_way","_law_due"] ["_law_trial_here","_law_rule_here","_law_costs","_law_order_here"] (aO sQ1):=⟨rfl,rfl,rfl,Kk,rfl,Kk,Kk⟩
section
theorem oQ1{f tA:Addr}{fd:FuncData}(F:gH K "_law_faces_right" "_law_faces_right" sQ1 f fd)(T:iV K mg c)(FQ26:eF cR P w K mg base 4 "faces_turned" ["trial","order"] oR)(FQ47:eF cR P w K mg base 8 "rule_faces_turned" ["rule","order"] (kH tA))(FQ0:eF cR P w K mg base 7 "_law_all" ["_law_trial_here","_law_rule_here","_law_way","_law_costs"] (pN K))(FQ13:eF cR P w K mg base 3 "amounts" ["rule"] (iM K))(FQ39:eF cR P w K mg base 1 "most_of" ["rule"] (jP K))(FQ32:eF cR P w K mg base 8 "is_rule" ["faces","ways","thing"] (lX K)):dA P w K mg base cR 9 f fd ["_law_trial_here","_law_rule_here","_law_costs","_law_order_here"] (vZ K tA):=by
 refine F.oky cQ1 λvs H Q E h=>?_;unfold vZ at h;obtain ⟨t,r,cv,b,es,F,W,M,fs,ws,cs,o,rfl,rt,rr,R,Z,TT,rc,hc,hb,ok,TO,q⟩:=h;refine ⟨rfl,λcdv A outer s hr=>?_⟩;refine ⟨_,(aU (bV (i:=4) cQ1.nd rfl (Or.inl rfl) (bJ FQ26 (hr.mono Dd) (aI (aJ 0) (aI (aJ 3) aE))))
  (aU (bV (i:=5) cQ1.nd rfl (Or.inl rfl) (bJ FQ47 (hr.mono Dd) (aI (aJ 1) (aI (aJ 3) aE))))
  (aU (iJ PassesOwn.never rfl (dW rfl T.b_range (aI (dL fT (by rfl) T.b_len Kk (aI (cC bY (aJ 0) aN (λ_ _=>rfl)) aE)) aE)) (dP (i:=6) cQ1.nd rfl (Or.inl rfl)) (bB (jH (fP (FV hr.units) (bJ FQ0 (hr.mono Dd) (aI (aJ 4) (aI (aJ 5) (aI (aJ 6) (aI (aJ 2) aE))))) (bJ FQ0 (hr.mono Dd) (aI (aJ 0) (aI (aJ 1) (aI (aJ 6) (aI (aJ 2) aE))))) (nomark _)) (bB (bR oA)) eY)))
  (aU (bV (i:=7) cQ1.nd rfl (Or.inl rfl) (hJ (LH hr.units rfl) (by rfl) T.b_dict Kk (aI (JB (gI.of (psc:=aO sQ1) (N:=["_law_trial_here","_law_rule_here","_law_costs","_law_order_here","_law_other","_law_turned","_law_way","_law_due"]) (N':=["_law_counts","_law_amount","_law_order_here"]) (js:=[3]) Kk rfl rfl rfl) rfl rfl rfl (gK (bJ FQ13 (hr.mono Dd) (aI (aJ 1) aE))) (λ_ _ _ _=>dG) (λ_ _ _ _=>dN (aI (hJ (WM K) (by rfl) T.b_tuple Kk (aI (eD (dJ.of (N:=["_law_counts","_law_amount","_law_order_here"]) (N':=["_law_one","_law_counts"]) (js:=[0]) rfl rfl rfl rfl) (SE K (aJ 2)) (λ_ _ _ _=>dG) (λ_ _ _ _=>cC (fE K) (aJ 1) (aJ 0) (λ_ _=>rfl))) aE)) (aI (aJ 1) aE)))) aE)))
  (aU (jH (BR (xY (fP (aAL K hr.units hr.u1) (hJ (DX hr.units rfl) (by rfl) T.b_dict Kk (aI (bJ FQ13 (hr.mono Dd) (aI (aJ 5) aE)) aE)) (aJ 7) (nomark _)) (sR (fP OR (bJ FQ39 (hr.mono Dd) (aI (aJ 5) aE)) (bJ FQ39 (hr.mono Dd) (aI (aJ 1) aE)) (nomark _))))) (bB (bR oA)) eY)
  (bB (bR (iK aAM (bJ FQ32 (hr.mono Dd) (aI (dL fT (by rfl) T.b_len Kk (aI (cC bY (aJ 0) aN (λ_ _=>rfl)) aE)) (aI (dL fT (by rfl) T.b_len Kk (aI (cC bY (aJ 0) aN (λ_ _=>rfl)) aE)) (aI (aJ 5) aE)))) oA (nomark _))))))))),?_⟩
 have l4:=ok.le;have lo:=ok.len;have few:=R.few Z;have hW:=Z.w;obtain ⟨ps,hps⟩:=TO.at_;have rt0:=rt;obtain ⟨ta,tvs,rfl,hta,rtv⟩:=fQ rt;obtain ⟨xf,xw,rfl,rf,rw'⟩:=jF rtv;obtain ⟨fa,fvs,rfl,hfa,rfv⟩:=fQ rf;obtain ⟨wa,wvs,rfl,hwa,rwv⟩:=fQ rw';have lfv:fvs.length=F:=by rw [gB rfv];exact TT.f
 have lwv:wvs.length=W:=by rw [gB rwv];exact TT.w
 refine ⟨_,rfl,_,rfl,?_⟩;refine FG rt0 hb (by rw [TT.f];exact ok) (λx hx=>by rw [(TT.sh x hx).len,TT.f]) (by rw [TT.w];omega) λv1 H1 s1 r1=>?_;have TT':=TT.faces ok;refine ⟨_,rfl,_,rfl,?_⟩;refine CD (rr.same s1) R Z (s1 _ _ hb) ok (TO.same s1) λv2 es' H2 b2 TO2 TF r2=>?_;have R':=TF.ru R ok;have t2:fN H1 H2:=λa xs ha=>b2.at (λz=>by obtain ⟨ps1,hp1⟩:=(TO.same s1).at_;rw [z,hp1] at ha;cases ha) ha;have B2:aS tA H H2:=λx ob hx=>by
  have n:=eM.ne hx;rw [eM.at n] at hx;exact eM.of n (b2.at n (s1 _ _ hx))
 have T2:fN H H2:=s1.t.trans t2;have rt2:=rt0.flat T2 (kN fs ws);have rr2:=rr.flat T2 (vH es);have rc2:=rc.flat T2 (kX cs);have r12:=r1.flat t2 (kN _ _);obtain ⟨el,hel,hem,_⟩:=rO R;obtain ⟨el',hel',hem',_⟩:=rO R';have esum:=KK R ok TF hel hel';have l0:=rQ (R.each el hem).2.1;refine ⟨_,rfl,?_⟩;refine lK (T2 _ _ hta) rfl ?_;refine RQ (T2 _ _ hwa) ?_;rw [lwv];refine ⟨_,rfl,Oo,Oo,?_⟩;refine kI (λk σ H'=>∃o6 o7:Option V,σ=[some (.ref ta),some r,some cv,some (.ref b),some v1,some v2,o6,o7]/\aW H2 H') ⟨_,_,rfl,aW.refl _⟩ ?_ ?_
 ·rintro k σ H3 hk ⟨o6,o7,rfl,s3⟩;have hk:k<W:=Oo;rw [show (0:Int)+(k:Nat)=(k:Nat) from Int.zero_add _];refine ⟨_,rfl,_,rfl,_,rfl,_,rfl,?_⟩;refine pM (L:=el.1.sum.toNat) (r12.same s3) (r2.same s3) R' Z TT' hk (rc2.same s3) hc hel' Oo λD4 vs4 H4 s4 hD4 e4 r4=>?_;have s34:=s3.trans s4;refine ⟨_,rfl,_,rfl,_,rfl,_,rfl,?_⟩;refine pM (L:=el.1.sum.toNat) (rt2.same s34) (rr2.same s34) R Z TT hk (rc2.same s34) hc hel Oo λD5 vs5 H5 s5 hD5 e5 r5=>?_;rw [NK R Z ok TF TT hk hc] at r4;obtain ⟨G,hG,shG,dcG⟩:∃G,G=vB W el.1.sum.toNat F es ws k cs/\SeqAt.shaped (.list G)=true/\PyData.hasDict (.list G)=false:=⟨_,rfl,uU _ _ _ _ _,yW _ _ _ _ _⟩;rw [<-hG] at r4 r5;refine reD (bQ.lst (s5 _ _ e4) (r4.same s5)) (bQ.lst e5 r5) shG shG ?_;rw [mI _ dcG];refine ⟨_,rfl,mH ?_⟩;exact ⟨_,_,rfl,s34.trans s5⟩
 ·rintro σ H3 ⟨o6,o7,rfl,s3⟩;have hb3:H3 b=some (.tup ((iO o).map V.int)):=s3 _ _ (T2 _ _ hb);have rr3:=rr2.same s3;have r23:=r2.same s3;refine ⟨_,rfl,?_⟩;refine iY (qA.of rr3) R Z λa4 ys4 H4 s4 e4 rk4 av4=>?_;have p4:=av4.prs (RA rk4);have hb4:=s4 _ _ hb3;refine ⟨a4,rfl,⟨_,dO.of e4⟩,?_⟩;refine pX (n:=2) (λ_=>true) (RH K H4 H4 (λe=>e.1) (λe=>amf F es e.1)) (λe y H'=>RH K H4 H' (λe=>cF e.1 o) (λe=>amf F es e.1) e y) (λe y H1 H2 s ⟨bb,cu,va,g1,g2,g3,g4⟩=>⟨bb,cu,va,g1,s _ _ g2,s _ _ g3,g4⟩) (by have:=R.len;omega) e4 p4 (λx e H' he r s'=>?_) (λD ys H5 hD e5 s5 p5=>?_)
  ·obtain ⟨eb,cu,va,rfl,heb,hcu,fva⟩:=r;refine ⟨eb,[.ref cu,va],rfl,dO.of (s' _ _ heb),rfl,λQ' h=>h H' (aW.refl _),λH6 Q' s6 _ k'=>?_⟩;have hle:=(R.each e he).1;have s46:=s'.trans s6;refine ⟨_,rfl,b,rfl,⟨_,dO.of (s46 _ _ hb4)⟩,?_⟩;refine gE (λi y _=>∃k,o[i]?=some k/\y=.int (e.1.getD k 0)) (λ_ _ _ _ _ h=>h) (by rw [aA];unfold iO;rw [aA];omega) (s46 _ _ hb4) (λi x H7 Q7 hx s7 k7=>?_) (λD2 ys2 H7 hD2 e7 s7 l7 r7=>?_)
   ·unfold iO at hx;rw [List.map_map,aC] at hx;cases ho:o[i]? with
    | none=>rw [ho] at hx;cases hx
    | some k =>
     rw [ho] at hx;cases hx;have hk:k<e.1.length:=by rw [hle];exact ok.lt k (bD ho)
     refine ⟨_,rfl,_,rfl,?_⟩;refine lK (s7 _ _ (s46 _ _ hcu)) (eE (show (e.1.map V.int)[k]?=some (.int (e.1.getD k 0)) from ?_)) ?_
     ·rw [aC,aF,aD hk];rfl
     ·exact k7 _ _ (aW.refl _) ⟨k,ho,rfl⟩
   ·have hys:ys2=(cF e.1 o).map V.int:=by
     have l2:ys2.length=o.length:=by rw [l7,aA];unfold iO;rw [aA]
     refine List.ext_getElem? λi=>?_;unfold cF cH;rw [List.map_map,aC];cases hy:ys2[i]? with
     | none =>
      rw [List.getElem?_eq_none_iff] at hy;rw [bH Oo];rfl
     | some y =>
      obtain ⟨k,h1,rfl⟩:=r7 i y hy;rw [h1];rfl
    refine ⟨D2,ys2,rfl,.inl ⟨eZ.of e7,λl8 hl8=>?_⟩⟩;have s8:aW H7 (upd H7 l8 (.tup ys2)):=aW.upd hl8;have e8:upd H7 l8 (.tup ys2) l8=some (.tup ys2):=bE;generalize upd H7 l8 (.tup ys2)=H8 at s8 e8;refine ⟨_,rfl,?_⟩;refine qO (by show 2<=64;decide) λq9 H9 hq9 e9 s9=>?_;exact k' _ H9 ((s7.trans s8).trans s9) ⟨q9,l8,va,rfl,e9,by rw [<-hys];exact s9 _ _ e8,fva⟩
  ·rw [iN] at p5;have s35:=s4.trans s5;have p5':Paired (RH K H5 H5 (λe=>cF e.1 o) (λe=>amf F es e.1)) es ys:=Paired.imp' (λe y ⟨bb,cu,va,g1,g2,g3,g4⟩=>⟨bb,cu,va,g1,g2,g3,g4.same s5⟩) p5;obtain ⟨kb,kb1,kb2,kb3,kb4⟩:=OG p5';have ndT:(es.map λe=>cF e.1 o).Nodup:=by
    have:=(TF.perm.map (·.1)).nodup_iff.mp R'.nd;rw [List.map_map] at this;exact this
   have ndb:(kb.map (·.1)).Nodup:=by
    rw [kb2];have:=gZ (f:=λc:List Int=>kT c) ndT λx _ y _ e=>tO e;rw [List.map_map] at this;exact this
   refine rdclp e5 kb1 ndb (by rw [kb4];have:=R.len;omega) λD6 H6 hD6 e6 s6=>?_;have s36:=s35.trans s6;refine ⟨_,rfl,?_⟩;refine iY (qA.of (r23.same s36)) R' Z λa7 ys7 H7 s7 e7 rk7 av7=>?_;obtain ⟨ka,ka1,ka2,ka3,ka4⟩:=OG (av7.prs (RA rk7));have nda:(ka.map (·.1)).Nodup:=by rw [ka2];exact PJ R'.nd
   refine rdcp e7 ka1 nda (by rw [ka4];have:=R'.len;omega) λD8 H8 hD8 e8 s8=>?_;refine ⟨_,rfl,?_⟩;have s68:=s7.trans s8;have lk:ka.length=kb.length:=by
    rw [ka4,kb4,TF.perm.length_eq,aA]
   refine aDe e8 (s68 _ _ e6) lk (λp hp=>?_) ?_
   ·obtain ⟨i,hi⟩:=cS.mp hp;have hi':i<es'.length:=by rw [<-ka4];exact (aY.mp hi).1
    obtain ⟨v,hv1,hv2⟩:=ka3 i _ (aD hi');rw [hi] at hv1;cases hv1;obtain ⟨e,hem,ee⟩:=TF.mem.mp (List.getElem_mem hi');obtain ⟨j,hj⟩:=cS.mp hem;obtain ⟨u,hu1,hu2⟩:=kb3 j e hj;have e1:es'[i].1=cF e.1 o:=by rw [<-ee]
    have e2:amf F es' es'[i].1=amf F es e.1:=by rw [e1];exact EF R Z ok TF (R.each e hem).1
    refine ⟨u,fM (amf F es e.1),?_,?_,((hu2.same s6).same s68).k,aBb _⟩
    ·show eJ kb (kT es'[i].1)=some u;rw [e1];exact SM ndb hu1
    ·rw [<-e2];exact (hv2.same s8).k
   refine ⟨_,rfl,?_⟩;have rr8:=(rr3.same s36).same s68;have r28:=(r23.same s36).same s68;refine ⟨_,rfl,?_⟩;refine mY (qA.of r28) hel' ?_;refine ⟨_,rfl,?_⟩;refine mY (qA.of rr8) hel ?_;refine ⟨rfl,_,rfl,?_⟩;rw [esum];refine aCm (by simp) ?_;have rt8:=((rt2.same s3).same s36).same s68;have tT:=(s3.trans s36).trans s68;refine ⟨_,rfl,?_⟩;refine lK (tT _ _ (T2 _ _ hta)) rfl ?_;refine RQ (tT _ _ (T2 _ _ hfa)) ?_;refine ⟨_,rfl,?_⟩;refine lK (tT _ _ (T2 _ _ hta)) rfl ?_;refine RQ (tT _ _ (T2 _ _ hwa)) ?_;rw [lfv,lwv];refine ⟨_,rfl,?_⟩;obtain ⟨va,vxs,rfl,hva,rva⟩:=tG r28;refine CG hva (Paired.imp' (λ_ _ r=>xK.of r) (Paired.ofRepL rva)) ⟨by have:=Z.f;omega,hW.2,λe he=>⟨(R'.each e he).1,(R'.each e he).2.1,(R'.each e he).2.2.2.pt⟩⟩ R'.nd (R'.rkOk.bfs (R'.rkOk.few Z λe he=>(R'.each e he).2.2.1) λe he=>(R'.each e he).2.2.1) R'.len λH9 s9=>?_;refine ⟨_,_,rfl,rfl,?_⟩;have S29:=tT.trans s9;refine q H9 (λx ob hx=>?_) (TO2.same S29);have n:=eM.ne hx;exact eM.of n (S29 _ _ (B2.at n (by rw [eM.at n] at hx;exact hx)))
end
abbrev NS:Stmt:=(top 76)
theorem BG:bK ["_law_script","_law_k","_law_tape_here","_law_faces","_law_ways","_law_most","_law_trial_here","_law_rule_here","_law_costs"] ["_law_script"] (aO NS):=⟨rfl,rfl,rfl,Kk,rfl,Kk,Kk⟩
@[irreducible] def pL(K:PySem.W.Frag)(tA:Addr):Sp:=λvs H Q _=>∃(a:Addr) (ns:List Int),vs=[.ref a]/\eZ K H a (ns.map V.int)/\ns.length<=63/\jE H tA xT xU/\∀H',Q (.bl true) H'
theorem BE:∀f∈([(0,1),(1,1),(7,2)]:List Fr),Fk 1 999 f:=λf hf=>by
 simp only [aV,List.not_mem_nil,or_false] at hf;rcases hf with rfl | rfl | rfl
 ·exact (Fk.zero 1).le Oo
 ·exact (Fk.one 1).le Oo
 ·refine ⟨7*(NN/2),Dd,Kk⟩
section
theorem aDI{f tA:Addr}{fd:FuncData}(F:gH K "law" "law" NS f fd)(T:iV K mg c)
  (FQ10:eF cR P w K mg base 1 "_law_tape" ["_law_script","_law_at"] (qY K)) (FQ5:eF cR P w K mg base 1 "_law_pick" ["_law_tape_here","_law_many"] jS) (FQ9:eF cR P w K mg base 2 "_law_sizes" ["_law_tape_here"] oI)
  (FQ11:eF cR P w K mg base 3 "_law_trial" ["_law_tape_here","_law_faces","_law_ways"] lU) (FQ6:eF cR P w K mg base 4 "_law_rule" ["_law_tape_here","_law_faces","_law_ways","_law_most","_law_plain"] rC) (FQ4:eF cR P w K mg base 2 "_law_order" ["_law_tape_here","_law_many"] lV)
  (FQ12:eF cR P w K mg base 8 "_law_ways_right" ["_law_trial_here","_law_rule_here","_law_costs","_law_order_here"] (vY K)) (FQ1:eF cR P w K mg base 9 "_law_faces_right" ["_law_trial_here","_law_rule_here","_law_costs","_law_order_here"] (vZ K tA)):dA P w K mg base cR 10 f fd ["_law_script"] (pL K tA):=by
 refine F.oky BG λvs H Q E h=>?_;unfold pL at h;obtain ⟨a,ns,rfl,hS,hl,TO,k⟩:=h;refine ⟨rfl,λcdv A outer s hr=>?_⟩;refine ⟨_,(aU (iJ PassesOwn.never rfl (dW rfl T.b_range (aI (cT gP aN (dL fT (by rfl) T.b_len Kk (aI (kK SZ (aJ 0) mQ (mP aN)) aE))) aE)) (dP (i:=1) BG.nd rfl (Or.inl rfl)) (aU (bV (i:=2) BG.nd rfl (Or.inr rfl) (bJ FQ10 (hr.mono Dd) (aI (aJ 0) (aI (aJ 1) aE))))
  (aU (ER (bJ FQ9 (hr.mono Dd) (aI (aJ 2) aE)) (qK rfl (eR (dP (i:=3) BG.nd rfl (Or.inl rfl)) (eR (dP (i:=4) BG.nd rfl (Or.inl rfl)) (eR (dP (i:=5) BG.nd rfl (Or.inl rfl)) mR)))))
  (aU (bV (i:=6) BG.nd rfl (Or.inl rfl) (bJ FQ11 (hr.mono Dd) (aI (aJ 2) (aI (aJ 3) (aI (aJ 4) aE)))))
  (aU (bV (i:=7) BG.nd rfl (Or.inl rfl) (bJ FQ6 (hr.mono Dd) (aI (aJ 2) (aI (aJ 3) (aI (aJ 4) (aI (aJ 5) (aI (iK qH (bJ FQ5 (hr.mono Dd) (aI (aJ 2) (aI aN aE))) aN (nomark _)) aE)))))))
  (aU (bV (i:=8) BG.nd rfl (Or.inl rfl) (hJ cJ (by rfl) T.b_tuple Kk (aI (eD (dJ.of (psc:=aO NS) (N:=["_law_script","_law_k","_law_tape_here","_law_faces","_law_ways","_law_most","_law_trial_here","_law_rule_here","_law_costs"]) (N':=["_law_j","_law_tape_here"]) (js:=[2]) Kk rfl rfl rfl) (dW rfl T.b_range (aI (aJ 5) aE)) (λ_ _ _ _=>dG) (λ_ _ _ _=>(cC (fE K) (eW (aI (dN (aI aN (aI aN aE))) (aI (dN (aI aN (aI aN aE))) (aI (dN (aI aN (aI aN aE))) aE)))) (bJ FQ5 (hr.mono Dd) (aI (aJ 1) (aI aN aE))) (λ_ _=>rfl)))) aE)))
  (aU (jH (mO (iX (bJ FQ12 (hr.mono Dd) (aI (aJ 6) (aI (aJ 7) (aI (aJ 8) (aI (bJ FQ4 (hr.mono Dd) (aI (aJ 2) (aI (aJ 4) aE))) aE))))))) (bB (bR oA)) eY)
  (bB (jH (mO (iX (bJ FQ1 (hr.mono Dd) (aI (aJ 6) (aI (aJ 7) (aI (aJ 8) (aI (bJ FQ4 (hr.mono Dd) (aI (aJ 2) (aI (aJ 3) aE))) aE))))))) (bB (bR oA)) eY)))))))))
  (bB (bR oA))),?_⟩
 refine ⟨_,rfl,_,rfl,a,_,rfl,hS,λq1 h1=>?_⟩;refine rlL bE ?_;have s1:=aW.upd (o:=.lst (pB (ns.map V.int) none (some 1))) h1;have l19:(pB (ns.map V.int) none (some 1)).length<=63:=by
  rw [show (some (1:Int))=some ((1:Nat):Int) from rfl,IK,dE,aA];omega
 generalize upd H q1 (.lst (pB (ns.map V.int) none (some 1)))=H0 at s1;generalize (pB (ns.map V.int) none (some 1)).length=n0 at l19;refine ⟨_,_,rfl,rfl,_,rfl,Oo,Oo,?_⟩;obtain ⟨ps0,hps0⟩:=TO.at_;refine kI (λi σ H'=>∃o1 o2 o3 o4 o5 o6 o7 o8:Option V,σ=[some (.ref a),o1,o2,o3,o4,o5,o6,o7,o8]/\aS tA H H'/\jE H' tA xT xU) ⟨_,_,_,_,_,_,_,_,rfl,s1.but,TO.same s1⟩ ?_ ?_
 ·rintro i σ H1 hi ⟨o1,o2,o3,o4,o5,o6,o7,o8,rfl,S1,TO1⟩;refine ⟨_,rfl,_,rfl,?_⟩;refine JH (eZ.butT S1 hps0 hS) hl Oo λp H2 T2 s2 hp2=>?_;refine ⟨_,rfl,?_⟩;refine FB (n:=999999999997) (T2.less Oo) λq3 nF nW nM H3 Z T3 s3 e3=>?_;refine ⟨q3,_,rfl,dO.of e3,rfl,?_⟩;refine ⟨_,_,rfl,_,_,rfl,_,_,rfl,rfl,?_⟩;have hF:2<=nF/\nF<=4/\nM<=4:=by have:=Z.f;omega
  have hW:=Z.w;refine ⟨_,rfl,_,rfl,_,rfl,?_⟩;refine CF (n:=999999999900) (T3.less Oo) hF.1 hF.2.1 hW.1 hW.2 λvt fs ws Ht Tt bt rt TT=>?_;refine ⟨_,rfl,_,rfl,_,rfl,_,rfl,_,rfl,?_⟩;refine eN (n:=999999999800) (Tt.less Oo) Dd Kk λx H4 x0 x1 T4 s4=>?_;refine ⟨rfl,?_⟩;refine JK (n:=1000000) (T4.less Oo) Z λvr es H5 T5 s5 r5 RO=>?_;have b5:aS p H2 H5:=((s3.trans bt).trans s4).trans s5;have S15:aW H1 H5:=aW.thru hp2 s2 b5;have rt5:bQ H5 (lN fs ws) vt:=rt.flat ((Tt.t s4).trans (T4.t s5)) (kN fs ws);refine ⟨_,rfl,_,rfl,Oo,Oo,?_⟩;refine DS (cB.like (n:=0) λi=>1000000-i) T5 (λ_ y H'=>∃f,bQ H' (fM f) y/\Fk 1 999 f) (λ_ y H1 H2 s ⟨f,r,h⟩=>⟨f,r.flat s (gS _),h⟩) Oo (λj H' Q' hj T' s' k'=>?_) (λD ys H6 hD e6 T6 b6 hy hr6=>?_)
  ·refine qO (by show 2<=64;decide) λc1 G1 hc1 g1 u1=>?_;refine qO (by show 2<=64;decide) λc2 G2 hc2 g2 u2=>?_;refine qO (by show 2<=64;decide) λc3 G3 hc3 g3 u3=>?_;refine wJ (by show 3<=64;decide) λc4 G4 hc4 g4 u4=>?_;have u14:=((u1.trans u2).trans u3).trans u4;refine ⟨_,rfl,?_⟩;refine eN (n:=1000000-(j+1)) ((T'.same u14).less Oo) Dd Kk λz G5 z0 z1 T5' b5'=>?_;obtain ⟨m,rfl⟩:∃m:Nat,z=(m:Int):=⟨z.toNat,Oo⟩;have np:c4≠p:=(((T'.same u1).same u2).same u3).ne hc4;have t5:=(T'.same u14).t b5';have r1:bQ G5 (fM (0,1)) (.ref c1):=gR (t5 _ _ (((u2.trans u3).trans u4) _ _ g1));have r2:bQ G5 (fM (1,1)) (.ref c2):=gR (t5 _ _ ((u3.trans u4) _ _ g2));have r3:bQ G5 (fM (7,2)) (.ref c3):=gR (t5 _ _ (u4 _ _ g3));have bb:aS p H' G5:=u14.but.trans b5';have hm:m<3:=Oo;obtain ⟨vv,ff,hv,rv,fk⟩:∃(vv:V) (ff:Fr),([.ref c1,.ref c2,.ref c3]:List V)[m]?=some vv/\bQ G5 (fM ff) vv/\Fk 1 999 ff:=by
    rcases (show m=0\/m=1\/m=2 by omega) with rfl | rfl | rfl
    ·exact ⟨_,_,rfl,r1,BE _ (by simp)⟩
    ·exact ⟨_,_,rfl,r2,BE _ (by simp)⟩
    ·exact ⟨_,_,rfl,r3,BE _ (by simp)⟩
   refine ixL (b5'.at np g4) (eE hv) ?_;exact k' _ G5 T5' bb ⟨ff,rv,fk⟩
  refine ⟨D,ys,rfl,.inl ⟨eZ.of e6,λl7 hl7=>?_⟩⟩;have s7:aW H6 (upd H6 l7 (.tup ys)):=aW.upd hl7;have e7:upd H6 l7 (.tup ys) l7=some (.tup ys):=bE;generalize upd H6 l7 (.tup ys)=H7 at s7 e7;obtain ⟨cs,rcs,hcs,lcs⟩:∃cs:List Fr,aX H7 (cs.map fM) ys/\(∀f∈cs,Fk 1 999 f)/\cs.length=ys.length:=by
   have all:∀zs:List V,(∀y∈zs,∃f,bQ H6 (fM f) y/\Fk 1 999 f)->∃cs:List Fr,aX H7 (cs.map fM) zs/\(∀f∈cs,Fk 1 999 f)/\cs.length=zs.length:=λzs=>by
    induction zs with
    | nil=>intro _;exact ⟨[],aX.nil,(λf h=>by cases h),rfl⟩
    | cons y zs ih =>
     intro h;obtain ⟨f,rf,kf⟩:=h y (aG ..);obtain ⟨cs,c1,c2,c3⟩:=ih λy hy=>h y (aH _ hy);refine ⟨f::cs,aX.cons (rf.same s7) c1,λg hg=>?_,by rw [bL,bL,c3]⟩;rcases aV.mp hg with rfl | hg
     ·exact kf
     ·exact c2 g hg
   refine all ys λy hy'=>?_;obtain ⟨j,hj⟩:=cS.mp hy';exact hr6 j y hj
  have T7:=T6.same s7;have t57:=(T5.t b6).trans s7.t;have rt7:=rt5.flat t57 (kN fs ws);have rr7:=r5.flat t57 (vH es);have rc7:bQ H7 (lO cs) (.ref l7):=bQ.tup e7 rcs;have hco:vD nM cs:=⟨hcs,by rw [lcs,hy];omega⟩;have S17:aW H1 H7:=(aW.thru hp2 S15 b6).trans s7;refine ⟨_,rfl,_,rfl,_,rfl,_,rfl,_,rfl,?_⟩;refine uO (n:=900000) (T7.less Oo) hW.2 λl8 o8' H8 T8 b8 e8 ok8=>?_;have t8:=T7.t b8;refine NI (rt7.flat t8 (kN fs ws)) (rr7.flat t8 (vH es)) RO Z TT (rc7.flat t8 (kX _)) hco e8 ok8 λH9 s9=>?_;refine ⟨_,rfl,mH ?_⟩;have T9:=T8.same s9;have t79:=t8.trans s9.t;have S19:aW H1 H9:=(aW.thru hp2 S17 b8).trans s9;refine ⟨_,rfl,_,rfl,_,rfl,_,rfl,_,rfl,?_⟩;refine uO (n:=800000) (T9.less Oo) hF.2.1 λl10 o10 H10 T10 b10 e10 ok10=>?_;have t10:=t79.trans (T9.t b10);have S110:aW H1 H10:=aW.thru hp2 S19 b10;refine NJ (rt7.flat t10 (kN fs ws)) (rr7.flat t10 (vH es)) RO Z TT (rc7.flat t10 (kX _)) hco e10 ok10 (TO1.same S110) λH11 b11 TO11=>?_;refine ⟨_,rfl,mH ?_⟩;refine ⟨_,_,_,_,_,_,_,_,rfl,?_,TO11⟩;intro x ob hx;have n:=eM.ne hx;rw [eM.at n] at hx;exact eM.of n (b11.at n (S110 _ _ (S1.at n hx)))
 ·rintro σ H2 ⟨o1,o2,o3,o4,o5,o6,o7,o8,rfl,_⟩;exact k H2
end
theorem JM{K:PySem.W.Frag}{tA a:Addr}{H:Hp}{E:XK}{ns:List Int}(hS:eZ K H a (ns.map V.int))(hl:ns.length<=63)(hT:H tA=some (.tbl #[])):pL K tA [.ref a] H (λv _=>v=.bl true) E:=by
 unfold pL;exact ⟨a,ns,rfl,hS,hl,⟨.inl hT⟩,λ_=>rfl⟩
def spT(K:PySem.W.Frag)(tabs:List (Addr × Addr)):Sp:=match tabs with
 | [(_,t)]=>pL K t
 | _=>λ_ H Q _=>Q (.bl true) H
theorem aBU{K:PySem.W.Frag}{tabs:List (Addr × Addr)}{a:Addr}{H:Hp}{E:XK}{ns:List Int}(hS:eZ K H a (ns.map V.int))(hl:ns.length<=63)(hT:IW tabs H):spT K tabs [.ref a] H (λv _=>v=.bl true) E:=by
 unfold spT;split
 ·exact JM hS hl (hT.tab _ (bM.mpr rfl))
 ·rfl
theorem aEe{α:Type}{us:List α}(h:us.length=1):∃a,us=[a]:=match us,h with | [a],_=>⟨a,rfl⟩
theorem aCi{α:Type}{us:List α}(h:us.length=2):∃a b,us=[a,b]:=match us,h with | [a,b],_=>⟨a,b,rfl⟩
theorem aEd{α:Type}{us:List α}(h:us.length=3):∃a b c,us=[a,b,c]:=match us,h with | [a,b,c],_=>⟨a,b,c,rfl⟩
theorem aEc{α:Type}{us:List α}(h:us.length=4):∃a b c d,us=[a,b,c,d]:=match us,h with | [a,b,c,d],_=>⟨a,b,c,d,rfl⟩
theorem aEb{α:Type}{us:List α}(h:us.length=5):∃a b c d e,us=[a,b,c,d,e]:=match us,h with | [a,b,c,d,e],_=>⟨a,b,c,d,e,rfl⟩
theorem aBe{K:PySem.W.Frag}{x q:Str}{st:Stmt}{f:Addr}{fd:FuncData}(F:gH K x q st f fd)(P:FuncData->Prop)(h:P fd):∃fd,P fd:=⟨fd,h⟩
inductive Dn (K:PySem.W.Frag) (n:Str) (st:Stmt):Prop
 | mk {f:Addr} {oc:Value} {od:Option Addr} {kV dc pm:Value} {an:Option Addr} {cd ct:Value} {sl:Array (Option Value)} (a:PySem.W.nsIn K mainGlobals n=some (some (.ref f))) (l:K.lookup f=some ⟨oc,od,.func (PySem.W.fnOf n n (nO st) (jB st) (aO st) .none kV dc pm an cd ct),sl⟩) (c:PySem.W.codeIn K cd n=true) (k:PySem.W.keepIn K (.ref f)=true):Dn K n st
theorem fnd(l:PySem.W.OpenLaw)(w:World){K:PySem.W.Frag}{h:Heap}{mg:Str->Option Value}(X:K.In h)(G:h.Ns mainGlobals mg)(base:Heap){n:Str}{st:Stmt}{L:Nat}{ps:List Str}{sp:Sp}(d:Dn K n st)(o:∀{f:Addr}{fd:FuncData},gH K n n st f fd->dA l.prog w K mg base cR L f fd ps sp)(b:∀(kV doc pm:Value) (an:Option Addr) (cdv ct:Value) (us:List Value),us.length=ps.length->bindArgs (PySem.W.fnOf n n (nO st) (jB st) (aO st) .none kV doc pm an cdv ct) ⟨us,[]⟩=pure (ps.zip us):=by intro _ _ _ _ _ _ us hl;first | (obtain ⟨_,rfl⟩:=aEe hl;rfl) | (obtain ⟨_,_,rfl⟩:=aCi hl;rfl) | (obtain ⟨_,_,_,rfl⟩:=aEd hl;rfl) | (obtain ⟨_,_,_,_,rfl⟩:=aEc hl;rfl) | (obtain ⟨_,_,_,_,_,rfl⟩:=aEb hl;rfl)):eF cR l.prog w K mg base L n ps sp:=by
 obtain ⟨a,l',c,k⟩:=d;exact ⟨_,_,o (BD l' c k),PySem.W.mg_of X G a,k,(BD l' c k).binds b⟩
theorem fnc(l:PySem.W.OpenLaw)(w:World){K:PySem.W.Frag}{h:Heap}{mg:Str->Option Value}(X:K.In h)(G:h.Ns mainGlobals mg)(base:Heap){n:Str}{f:Addr}{fd:FuncData}{L:Nat}{ps:List Str}{sp:Sp}(a:PySem.W.nsIn K mainGlobals n=some (some (.ref f)))(k:PySem.W.keepIn K (.ref f)=true)(b:sN K fd ps [])(o:dA l.prog w K mg base cR L f fd ps sp):eF cR l.prog w K mg base L n ps sp:=⟨_,_,o,PySem.W.mg_of X G a,k,b⟩
open PySem.W (nsIn fnOf codeIn keepIn mg_of mg_none_of) in
theorem aBq{l:PySem.W.OpenLaw}{w:World}{K:PySem.W.Frag}{h:Heap}{mg:Str->Option Value}{fa:Addr}{c_ONE:Addr}{c_NOUGHT:Addr}{tok_LOOKS_ON:Tok}(X:K.In h)(G:h.Ns mainGlobals mg)(hfa:mg "law" = some (.ref fa))
  (u_ONE:nsIn K mainGlobals "ONE" = some (some (.ref c_ONE)))
  (u_NOUGHT:nsIn K mainGlobals "NOUGHT" = some (some (.ref c_NOUGHT)))
  (u_LOOKS_ON:nsIn K mainGlobals "LOOKS_ON" = some (some (.int 0 tok_LOOKS_ON)))
  (o_ONE:qP K c_ONE [1,1]=true)
  (o_NOUGHT:qP K c_NOUGHT [0,1]=true)
  (d0:Dn K "_law_tape" aAh)
  (d1:Dn K "_law_pick" sQ5)
  (d2:Dn K "_law_frac" sQ2)
  (d3:Dn K "_law_shares" sQ8)
  (d4:Dn K "_law_says" sQ7)
  (d5:Dn K "_law_sizes" sQ9)
  (d6:Dn K "_law_next" sQ3)
  (d7:Dn K "_law_rule" sQ6)
  (d8:Dn K "is_whole" ZU)
  (d9:Dn K "common_divisor" aAc)
  (d10:Dn K "is_fraction" ZX)
  (d11:Dn K "is_share" ZW)
  (d12:Dn K "is_tuple_of" ZV)
  (d13:Dn K "are_shares" TZ)
  (d14:Dn K "plus" ZP)
  (d15:Dn K "total" ZK)
  (d16:Dn K "are_parts" aAg)
  (d17:Dn K "are_says" aAf)
  (d18:Dn K "is_counts" TU)
  (d19:Dn K "is_entry" ZY)
  (d20:Dn K "noughts" TN)
  (d21:Dn K "one_more" ZQ)
  (d22:Dn K "ones_more" TM)
  (d23:Dn K "looks_on" ZS)
  (d24:Dn K "counts_behind" aAb)
  (d25:Dn K "counts_come_to" aAa)
  (d26:Dn K "is_rule" NT)
  (d27:Dn K "rule_faces" ZN)
  (d28:Dn K "times" ZL)
  (d29:Dn K "amounts" UA)
  (d30:Dn K "_law_trial" UC)
  (d31:Dn K "ways_of" ZI)
  (d32:Dn K "way_shares" ZJ)
  (d33:Dn K "power" ZO)
  (d34:Dn K "weight" ZG)
  (d35:Dn K "less" ZT)
  (d36:Dn K "comings" aAd)
  (d37:Dn K "said_of" TH)
  (d38:Dn K "onwards" TL)
  (d39:Dn K "most_of" ZR)
  (d40:Dn K "said" TJ)
  (d41:Dn K "ended_behind" TW)
  (d42:Dn K "ended" TX)
  (d43:Dn K "average" TY)
  (d44:Dn K "spent" TD)
  (d45:Dn K "wrong" ZF)
  (d46:Dn K "is_order" TR)
  (d47:Dn K "check_order" aAe)
  (d48:Dn K "turned" TC)
  (d49:Dn K "ways_turned" ZH)
  (d50:Dn K "faces_of" ZZ)
  (d51:Dn K "rule_ways" ZM)
  (d52:Dn K "faces_turned" TV)
  (d53:Dn K "rule_ways_turned" TK)
  (a54:nsIn K mainGlobals "rule_faces_turned" = some (some (.ref f54))) (l54:K.lookup f54=some ⟨oc54,od54,.func (fnOf "rule_faces_turned" "rule_faces_turned" (nO FO) (jB FO) (aO FO) .none kV54 dc54 pm54 an54 (.ref cA54) ct54),sl54⟩) (c54:codeIn K (.ref cA54) "rule_faces_turned" = true) (k54:keepIn K (.ref f54)=true) (hh54:KW K cA54 tA=true)
  (d55:Dn K "_law_order" sQ4)
  (d56:Dn K "is_plain" TQ)
  (d57:Dn K "_law_all" sQ0)
  (d58:Dn K "_law_ways_right" UB)
  (d59:Dn K "_law_faces_right" sQ1)
  (d60:Dn K "law" NS) (z0:nsIn K mainGlobals "list" = some none) (z1:nsIn K mainGlobals "len" = some none) (z2:nsIn K mainGlobals "abs" = some none) (z3:nsIn K mainGlobals "range" = some none) (z4:nsIn K mainGlobals "sum" = some none) (z5:nsIn K mainGlobals "max" = some none) (z6:nsIn K mainGlobals "int" = some none) (z7:nsIn K mainGlobals "bool" = some none) (z8:nsIn K mainGlobals "sorted" = some none) (z9:nsIn K mainGlobals "dict" = some none) (z10:nsIn K mainGlobals "isinstance" = some none) (z11:nsIn K mainGlobals "all" = some none) (z12:nsIn K mainGlobals "tuple" = some none) (z13:nsIn K mainGlobals "zip" = some none) :
  ∃fd:FuncData,(∀(s:Shared) (v:Value),BindsTo s fd ⟨[v],[]⟩ [("_law_script",v)])/\∀base:Heap,K.In base->base.Ns mainGlobals mg->BM mg base->dA l.prog w K mg base cR 10 fa fd ["_law_script"] (pL K tA):=by
 obtain ⟨a60,l60,c60,k60⟩:=d60;have e:=hfa.symm.trans (mg_of X G a60);cases e;generalize hcl:(⟨c_ONE,c_NOUGHT,tok_LOOKS_ON⟩:Cl)=c;have T:iV K mg c:=by rw [<-hcl];exact ⟨mg_none_of X G z0,mg_none_of X G z1,mg_none_of X G z2,mg_none_of X G z3,mg_none_of X G z4,mg_none_of X G z5,mg_none_of X G z6,mg_none_of X G z7,mg_none_of X G z8,mg_none_of X G z9,mg_none_of X G z10,mg_none_of X G z11,mg_none_of X G z12,mg_none_of X G z13,mg_of X G u_ONE,mg_of X G u_NOUGHT,mg_of X G u_LOOKS_ON,o_ONE,o_NOUGHT⟩
 have F60:=BD (st:=NS) l60 c60 k60;refine aBe F60 _ ⟨λs v=>.of_eq rfl,λbase _ _ hbm=>?_⟩;have N:=@fnd l w K h mg X G base;have GQ10:=N d0 λF=>aD8 F T;have GQ5:=N d1 λF=>oQ5 F T;have GQ2:=N d2 λF=>oQ2 F T;have GQ8:=N d3 λF=>oQ8 F T GQ5 GQ2;have GQ7:=N d4 λF=>oQ7 F T GQ5 GQ8;have GQ9:=N d5 λF=>oQ9 F T GQ5;have GQ3:=N d6 λF=>oQ3 F T;have GQ6:=N d7 λF=>oQ6 F T GQ7 GQ3;have GQ35:=N d8 λF=>aDJ F T;have GQ20:=N d9 λF=>aDY F T;have GQ29:=N d10 λF=>aDP F T GQ35 GQ20;have GQ33:=N d11 λF=>aDL F T GQ29;have GQ34:=N d12 λF=>aDK F T;have GQ16:=N d13 λF=>aD2 F T GQ34 GQ33;have GQ44:=N d14 λF=>aDA F T GQ20;have GQ54:=N d15 λF=>aDq F T GQ44;have GQ14:=N d16 λF=>aD4 F T GQ16 GQ54;have GQ15:=N d17 λF=>aD3 F T GQ14;have GQ27:=N d18 λF=>aDR F T GQ34 GQ35;have GQ28:=N d19 λF=>aDQ F T GQ34 GQ27 GQ15;have GQ40:=N d20 λF=>aDE F T;have GQ41:=N d21 λF=>aDD F T;have GQ42:=N d22 λF=>aDC F T GQ41;have GQ38:=N d23 λF=>aDG F T;have GQ21:=N d24 λF=>aDX F T GQ38 GQ42;have GQ22:=N d25 λF=>aDW F T GQ40 GQ21;have GQ32:=N d26 λF=>aDM F T GQ28 GQ22;have GQ46:=N d27 λF=>aDy F T;have GQ53:=N d28 λF=>aDr F T GQ20;have GQ13:=N d29 λF=>aD5 F T GQ40 GQ46 GQ38 GQ53 GQ42 GQ44;have GQ11:=N d30 λF=>aD7 F T GQ5 GQ8;have GQ57:=N d31 λF=>aDn F T;have GQ56:=N d32 λF=>aDo F T;have GQ45:=N d33 λF=>aDz F T;have GQ59:=N d34 λF=>aDl F T GQ56 GQ53 GQ45;have GQ37:=N d35 λF=>aDH F T GQ44
 have GQ19:=N d36 λF=>aDZ F T GQ13 GQ53 GQ59;have GQ51:=N d37 λF=>aDt F T GQ54 GQ53;have GQ43:=N d38 λF=>aDB F T GQ19 GQ53 GQ38;have GQ39:=N d39 λF=>aDF F T;have GQ50:=N d40 λF=>aDu F T GQ19 GQ51 GQ57;have GQ24:=N d41 λF=>aDU F T GQ54 GQ53 GQ37;have GQ23:=N d42 λF=>aDV F T GQ19 GQ24 GQ39;have GQ17:=N d43 λF=>aD1 F T GQ54 GQ43;have GQ52:=N d44 λF=>aDs F T GQ54 GQ53 GQ43;have GQ60:=N d45 λF=>aDk F T GQ57 GQ37 GQ51 GQ19;have GQ30:=N d46 λF=>aDO F T GQ34 GQ35;have GQ18:=N d47 λF=>aD0 F T GQ30;have GQ55:=N d48 λF=>aDp F T;have GQ58:=N d49 λF=>aDm F T GQ18 GQ57 GQ55;have GQ25:=N d50 λF=>aDT F T;have GQ48:=N d51 λF=>aDw F T;have GQ26:=N d52 λF=>aDS F T GQ18 GQ25 GQ55;have GQ49:=N d53 λF=>aDv F T GQ18 GQ48 GQ55;have F54:=BD (st:=FO) l54 c54 k54;have b54:=F54.binds (ps:=["rule","order"]) λ_ _ _ _ _ _ us hl=>by obtain ⟨_,_,rfl⟩:=aCi hl;rfl
 have GQ47:=fnc l w X G base a54 k54 b54 (aDx F54 T rfl hh54 hbm GQ18 GQ46 GQ55);have GQ4:=N d55 λF=>oQ4 F T GQ5;have GQ31:=N d56 λF=>aDN F T;have GQ0:=N d57 λF=>oQ0 F T GQ50 GQ23 GQ17 GQ52 GQ60;have GQ12:=N d58 λF=>aD6 F T GQ58 GQ49 GQ0 GQ13 GQ31;have GQ1:=N d59 λF=>oQ1 F T GQ26 GQ47 GQ0 GQ13 GQ39 GQ32;exact aDI F60 T GQ10 GQ5 GQ9 GQ11 GQ6 GQ4 GQ12 GQ1
end Kw
namespace PySem.W.Fast
def tw13212730803479819540 := ()
def tw3526138155093158635 := ()
def tw17627598734870926438 := ()
def tw15059028142408345175 := ()
def tw17027981391916982996 := ()
def tw1868056674903180173 := ()
def tw9840719216843241219 := ()
def tw9302393891105172428 := ()
def tw53457528579578077 := ()
def tw14530456968793789115 := ()
def tw3135819083455397279 := ()
def tw16597689230554954048 := ()
def tw3773192901019663381 := ()
def tw1119016505118531016 := ()
def tw13906938989974202070 := ()
def tw2317565241135086888 := ()
def tw13840158469273383588 := ()
def tw10885101063371230509 := ()
def tw7468761864266192459 := ()
def tw10317812472863681056 := ()
def tw4658559730253624635 := ()
def tw12120386026869995533 := ()
def tw12035438806386363471 := ()
def tw2283114779268008433 := ()
def tw15586279436416099358 := ()
def tw3742533413666878188 := ()
def tw322926995088120489 := ()
def tw14389166057456566073 := ()
def tw12985633108763299342 := ()
end PySem.W.Fast
open PySem PySem.W PyProof.Rows
set_option maxRecDepth 100000 in
set_option maxHeartbeats 0 in
theorem PySem.Challenge.cw_earlystop_k28_whole_turned_shares_holds : PySem.Challenge.rw_earlystop_k28_whole_turned_shares.Holds := by
  w_on;o_law;k_head;(case hw=>w_witness2)
  k_fill
  refine L2.MQ (l:=PySem.Challenge.rw_earlystop_k28_whole_turned_shares) (n:=63) (k:=10) (x := "_law_script") (CX:=L2.cR) (tabs:=λ_=>[(277,275)]) (sp:=λK tabs=>Kw.spT K tabs) ["rule_faces_turned"] rfl Dd rfl ⟨rfl,Dd,Dd,rfl⟩ (λw h Y=>PySem.W.km_in_of Y) (λy hy=>by rw [bM.mp hy];exact Option.isSome_iff_exists.mp (by kernel_rfl)) (λw=>by kernel_rfl) (λw t ht=>by rw [bM.mp ht];kernel_rfl) ?F (λK tabs H a ns hl hO hS=>Kw.aBU hS hl hO) (λ_ _ _ _ z=>z)
  case F =>
    intro w mg fa h KX G hmg
    refine' Kw.aBq KX G hmg ?u_ONE ?u_NOUGHT ?u_LOOKS_ON ?o_ONE ?o_NOUGHT ?d0 ?d1 ?d2 ?d3 ?d4 ?d5 ?d6 ?d7 ?d8 ?d9 ?d10 ?d11 ?d12 ?d13 ?d14 ?d15 ?d16 ?d17 ?d18 ?d19 ?d20 ?d21 ?d22 ?d23 ?d24 ?d25 ?d26 ?d27 ?d28 ?d29 ?d30 ?d31 ?d32 ?d33 ?d34 ?d35 ?d36 ?d37 ?d38 ?d39 ?d40 ?d41 ?d42 ?d43 ?d44 ?d45 ?d46 ?d47 ?d48 ?d49 ?d50 ?d51 ?d52 ?d53 ?a54 ?l54 ?c54 ?k54 ?hh54 ?d55 ?d56 ?d57 ?d58 ?d59 ?d60 ?z0 ?z1 ?z2 ?z3 ?z4 ?z5 ?z6 ?z7 ?z8 ?z9 ?z10 ?z11 ?z12 ?z13
    (case u_ONE|u_NOUGHT|u_LOOKS_ON|a54|l54|c54|k54|z0|z1|z2|z3|z4|z5|z6|z7|z8|z9|z10|z11|z12|z13=>k_is);(case d0|d1|d2|d3|d4|d5|d6|d7|d8|d9|d10|d11|d12|d13|d14|d15|d16|d17|d18|d19|d20|d21|d22|d23|d24|d25|d26|d27|d28|d29|d30|d31|d32|d33|d34|d35|d36|d37|d38|d39|d40|d41|d42|d43|d44|d45|d46|d47|d48|d49|d50|d51|d52|d53|d55|d56|d57|d58|d59|d60=>refine' Kw.Dn.mk ?a ?l ?c ?k;(case a=>k_is);(case l=>k_is);(case c=>k_is);(case k=>k_is));(case o_ONE=>kernel_rfl);(case o_NOUGHT=>kernel_rfl);(case hh54=>kernel_rfl)
