import PyProof.Rows.All
import Wide.All
import OpenK.AllK
import Wide.FinOn
import Lean
import PyProof.EqAt
import PyProof.EqKinds
import PyProof.TupleCall
import KE.IntBitsLaws
import PyProof.ZipIter
import PyProof.ListMulRoad
import PyProof.AutoListH
import PyProof.Rows.SeqMore
import PyProof.Rows.SumAny
import PyProof.SliceStr2
import PyProof.WalksMore
import KE.KSortTup
import PyProof.AttrMissHeap
import PyProof.TupleIter
import KE.KDictOf
import PyProof.DictWalks
import PyProof.DictValues
import KE.KDictList
import PyProof.Rows.MinMaxN
import PyProof.Rows.TupDisplay
import PyProof.DictTruth
import PyProof.Rows.SortRev
import PyProof.Rows.CallKwBuiltin
import PyProof.EnumMake
import PyProof.Rows.StrJoin2
import PyProof.StrBlockG
import PyProof.Rows.Digits
import PyProof.Rows.StrOr
import PyProof.StrCalls2
import PyProof.StrBlock2
import KE.KIntText
import KE.KRevIter
import KE.LcSums
import PyProof.StationsW
import PyProof.Rows.CatchBare
import OpenK.KRaise
import KE.KIsAll
import OpenK.KOwn
import PyProof.ExcInit
import KE.KEqDict
import PySem.Challenge.RW_earlystop_k93_whole_watches_and_shares
set_option Elab.async false
set_option linter.all false
set_option maxHeartbeats 0
set_option maxRecDepth 100000
theorem Oo{p:Prop}(h:p:=by omega):p:=h
theorem Dd{p:Prop}(h:p:=by decide):p:=h
theorem Kk{p:Prop}(h:p:=by decide +kernel):p:=h
namespace PySem
abbrev aA:=@List.length_map
abbrev aB:=@Heap.get?_push_of_some
abbrev aC:=@List.getElem?_eq_getElem
abbrev aG:=@Nat.le_refl
abbrev aH:=@List.mem_cons_of_mem
abbrev aL:=@List.getElem?_eq_some_iff
abbrev aM:=@List.getElem?_map
abbrev aN:=@List.mem_cons_self
abbrev aQ:=@List.mem_cons
abbrev aR:=@List.mem_of_getElem?
abbrev aS:=@List.getD_eq_getElem?_getD
abbrev aT:=@Nat.lt_of_lt_of_le
abbrev aU:=@List.mem_map
abbrev aV:=@Nat.pow_le_pow_right
abbrev aW:=@List.map_cons
abbrev aY:=@List.size_toArray
abbrev bA:=@Heap.get?_push_size
abbrev bC:=@Nat.le_trans
abbrev bD:=@Heap.lt_size
abbrev bE:=@List.mem_append_right
abbrev bG:=@Nat.lt_of_le_of_lt
abbrev bK:=@List.length_append
abbrev bL:=@List.map_append
abbrev bP:=@decide_eq_true
abbrev bQ:=@List.mem_append_left
abbrev bT:=@List.length_take
abbrev bX:=@decide_eq_false
abbrev cA:=@Bool.false_ne_true
abbrev cE:=@List.mem_range
abbrev cF:=@List.length_cons
abbrev cJ:=@Nat.ne_of_lt
abbrev cM:=@List.mem_singleton
abbrev cN:=@List.mem_iff_getElem?
abbrev cQ:=@Nat.lt_irrefl
abbrev cT:=@List.take_length
abbrev cU:=@Bool.and_eq_true
abbrev cV:=@Nat.zero_le
abbrev cW:=@Nat.mul_le_mul_right
abbrev cX:=@List.length_range
abbrev dE:=@List.map_congr_left
abbrev dF:=@List.mem_append
abbrev dN:=@List.getElem?_range
abbrev dP:=@List.length_replicate
abbrev dZ:=@Classical.byContradiction
abbrev eU:=@Option.some.inj
abbrev fE:=@Int.natAbs_mul
abbrev fM:=@Nat.mul_le_mul_left
abbrev fR:=@Option.map_eq_some_iff
abbrev fZ:=@Heap.size_push
abbrev gA:=@List.getElem?_eq_none
abbrev gK:=@List.take_add_one
abbrev kF:=@List.mem_filter
abbrev lM:=@Rat.mul_nonneg
end PySem
open PySem
namespace L2
open PySem PySem.Spec PyProof.Rows
abbrev eL:=Sum Int Str
def yK:eL->Value->Bool
 | .inl k,v=>Value.isInt k v
 | .inr x,v=>Value.isStrOf x v
def aDy(w:World):eL->Int
 | .inl k=>hashInt k
 | .inr x=>hashStr w x
theorem fF:∀{k:eL}{v:Value},yK k v=true->(∃i t,k=Sum.inl i/\v=Value.int i t)\/(∃x t,k=Sum.inr x/\v=Value.str x t)
 | .inl i,v,h=>by
  obtain ⟨t,e⟩:=Value.isInt_shape (k:=i) (v:=v) h;exact .inl ⟨i,t,rfl,e⟩
 | .inr x,v,h=>by
  obtain ⟨t,e⟩:=Value.isStrOf_shape (x:=x) (v:=v) h;exact .inr ⟨x,t,rfl,e⟩
theorem KI(i:Int)(t:Tok):yK (.inl i) (.int i t)=true:=by simp [yK,Value.isInt]
theorem KH(x:Str)(t:Tok):yK (.inr x) (.str x t)=true:=by simp [yK,Value.isStrOf]
theorem aAN(a b:Int):decide ((Sum.inl a:eL)=Sum.inl b)=(a == b):=by
 by_cases e:a=b
 ·subst e;simp
 ·have h:¬(Sum.inl a:eL)=Sum.inl b:=λq=>e (Sum.inl.inj q);rw [bX h];exact (beq_eq_false_iff_ne.mpr e).symm
theorem aAK(a b:Str):decide ((Sum.inr a:eL)=Sum.inr b)=decide (a=b):=by
 by_cases e:a=b
 ·subst e;simp
 ·have h:¬(Sum.inr a:eL)=Sum.inr b:=λq=>e (Sum.inr.inj q);rw [bX h,bX e]
theorem aAM(a:Int)(b:Str):decide ((Sum.inl a:eL)=Sum.inr b)=false:=bX (λq=>nomatch q)
theorem aAL(a:Str)(b:Int):decide ((Sum.inr a:eL)=Sum.inl b)=false:=bX (λq=>nomatch q)
def eG(prog:Program)(w:World):PySem.KeyKind prog w eL where
 is:=yK
 hash:=aDy w
 inj:=λv a b ha hb=>by
  rcases fF ha with ⟨i,t,rfl,rfl⟩ | ⟨x,t,rfl,rfl⟩
  ·rcases fF hb with ⟨j,u,rfl,e⟩ | ⟨y,u,rfl,e⟩
   ·injection e with e1 _;rw [e1]
   ·exact nomatch e
  ·rcases fF hb with ⟨j,u,rfl,e⟩ | ⟨y,u,rfl,e⟩
   ·exact nomatch e
   ·injection e with e1 _;rw [e1]
 byValue:=λk v h=>by
  rcases fF h with ⟨i,t,rfl,rfl⟩ | ⟨x,t,rfl,rfl⟩ <;> rfl
 pyHash:=λhv h=>by
  rcases fF hv with ⟨i,t,rfl,rfl⟩ | ⟨x,t,rfl,rfl⟩
  ·exact wpAny_pyHash_int h
  ·exact wpAny_pyHash_str h
 eqBool:=λhu hv h=>by
  rcases fF hu with ⟨i,t,rfl,rfl⟩ | ⟨x,t,rfl,rfl⟩
  ·rcases fF hv with ⟨j,u,rfl,rfl⟩ | ⟨y,u,rfl,rfl⟩
   ·rw [aAN] at h;exact wpAny_eqBool_int h
   ·rw [aAM] at h;exact SeqAt.EqAt.int_str i t y u _ _ _ _ h
  ·rcases fF hv with ⟨j,u,rfl,rfl⟩ | ⟨y,u,rfl,rfl⟩
   ·rw [aAL] at h;exact SeqAt.EqAt.str_int x t j u _ _ _ _ h
   ·rw [aAK] at h;exact wpAny_eqBool_str h
 «strs» := λk x t v h=>by
  rcases fF h with ⟨i,u,rfl,e⟩ | ⟨y,u,rfl,e⟩
  ·exact nomatch e
  ·injection e with e1 _;subst e1;cases v <;> rfl
theorem CU(prog:Program)(w:World)(i:Int)(t:Tok):(eG prog w).is (.inl i) (.int i t)=true:=KI i t
theorem CT(prog:Program)(w:World)(x:Str)(t:Tok):(eG prog w).is (.inr x) (.str x t)=true:=KH x t
inductive V where
 | non | bl (b:Bool) | int (i:Int) | str (x:Str) | byt (b:Array UInt8) | flt (b:UInt64) | ref (a:Addr) | ty (n:String)
 deriving DecidableEq
def dH:V->Value->Prop
 | .non,u=>u=Value.none
 | .bl b,u=>u=Value.bool b
 | .int i,u=>∃t,u=Value.int i t
 | .str x,u=>∃t,u=Value.str x t
 | .byt b,u=>∃t,u=Value.bytes b t
 | .flt b,u=>∃t,u=Value.float b t
 | .ref a,u=>u=Value.ref a
 | .ty n,u=>u=Value.type n
abbrev cO:List V->List Value->Prop:=Paired dH
theorem cO.length{xs:List V}{us:List Value}(r:cO xs us):xs.length=us.length:=Paired.length r
theorem cO.get:∀{xs:List V}{us:List Value}{i:Nat}{x:V},cO xs us->xs[i]?=some x->∃u,us[i]?=some u/\dH x u
 | _,_,_,_,.nil,e=>by simp at e
 | _,_,0,_,.cons r _,e=>by simp at e;subst e;exact ⟨_,rfl,r⟩
 | _,_,i+1,x,.cons _ t,e=>by
  obtain ⟨u,h1,h2⟩:=cO.get (i:=i) (x:=x) t (by simpa using e);exact ⟨u,by simpa using h1,h2⟩
theorem cO.set{x:V}{u:Value}(r:dH x u):∀{xs:List V}{us:List Value}(i:Nat),cO xs us->cO (xs.set i x) (us.set i u)
 | _,_,_,.nil=>.nil
 | _,_,0,.cons _ t=>.cons r t
 | _,_,i+1,.cons q t=>.cons q (cO.set r i t)
theorem cO.append:∀{xs ys:List V}{us ws:List Value},cO xs us->cO ys ws->cO (xs++ys) (us++ws)
 | _,_,_,_,.nil,s=>s
 | _,_,_,_,.cons r t,s=>.cons r (cO.append t s)
theorem cO.take:∀{xs:List V}{us:List Value}(n:Nat),cO xs us->cO (xs.take n) (us.take n)
 | _,_,0,_=>.nil
 | _,_,_+1,.nil=>.nil
 | _,_,n+1,.cons r t=>.cons r (cO.take n t)
theorem cO.drop:∀{xs:List V}{us:List Value}(n:Nat),cO xs us->cO (xs.drop n) (us.drop n)
 | _,_,0,r=>r
 | _,_,_+1,.nil=>.nil
 | _,_,n+1,.cons _ t=>cO.drop n t
def nG:Option V->Option Value->Prop
 | some v,some u=>dH v u
 | none,none=>True
 | _,_=>False
def KV{κ:Type}:List (κ × V)->List (κ × Value)->Prop:=Paired λ(p:κ × V) (q:κ × Value)=>p.1=q.1/\dH p.2 q.2
def kV:eL->V
 | .inl i=>.int i
 | .inr x=>.str x
inductive HO where
 /-- a list -/
 | lst (xs:List V)
 /-- a tuple (never changes) -/
 | tup (xs:List V)
 /-- a dict whose keys are ints and texts;one whose keys are tuples of ints and texts (the empty one is both) -/
 | dK (kvs:List (eL × V)) | dT (kvs:List (List eL × V))
 /-- a set of ints: its members,its size -/
 | set (S:Int->Bool) (n:Nat)
 /-- an instance of the class at C,its dict at dx,its attributes -/
 | ins (C dx:Addr) (fs:List (Str × V))
 /-- the dict of the instance at x -/
 | own (x:Addr)
 /-- the dict of an exception -/
 | xd (fs:List (Str × V))
 /-- a bound method,f of x -/
 | met (f x:Addr)
 /-- a range object lo,lo+1,.. below hi -/
 | rng (lo hi:Int)
 /-- a thing that is known to the object (the script;a dict while a loop walks it): read,never written while it is so -/
 | frz (o:Obj) (u:HO)
 /-- a code object's table -/
 | tbl (ps:Array Value)
 /-- any other thing,by what is true of its one object (a def of one's own: SetO a S n:=HO.ext λh=>..) -/
 | ext (φ:Heap->Prop)
abbrev Hp:=Addr->Option HO
def upd(H:Hp)(a:Addr)(o:HO):Hp:=λb=>if b=a then some o else H b
theorem bJ{H:Hp}{a:Addr}{o:HO}:upd H a o a=some o:=by unfold upd;rw [if_pos rfl]
theorem cL{H:Hp}{a b:Addr}{o:HO}(h:b≠a):upd H a o b=H b:=by unfold upd;rw [if_neg h]
theorem GP{H:Hp}{a:Addr}{o u:HO}:upd (upd H a o) a u=upd H a u:=by
 funext b;unfold upd;split <;> rfl
theorem pU{H:Hp}{a b:Addr}{o u:HO}(h:H a=some o)(h':H b=some u)(d:o≠u):a≠b:=by
 intro e;subst e;rw [h] at h';exact d (eU h')
theorem cI{H:Hp}{a b:Addr}{o:HO}(h:H a=some o)(h':H b=none):a≠b:=by
 intro e;subst e;rw [h] at h';cases h'
section
variable(P:Program)(w:World)
def eE(H:Hp)(h:Heap)(a:Addr):HO->Prop
 | .lst xs=>xs.length<=sizeLine/\∃(its:List Value) (n:Nat),cO xs its/\h.get? a=some { cls:=.type "list",data:=.seq its.toArray n }
 | .tup xs=>(xs.length<=sizeLine/\∃o,h.get? a=some o/\o.dict=none)/\∃its:List Value,cO xs its/\IsTup h a its.toArray
 | .dK kvs=>kvs.length<=sizeLine/\(a == sysModules)=false/\∃vs,KV kvs vs/\h.DictOf (eG P w) a vs
 | .dT kvs=>kvs.length<=sizeLine/\(a == sysModules)=false/\∃xs:List (List eL × Addr × Value),
   Paired (λ(p:List eL × V) (q:List eL × Addr × Value)=>p.1=q.1/\H q.2.1=some (.tup (p.1.map kV))/\dH p.2 q.2.2) kvs xs /\
   ∃o es ep,h.get? a=some o/\o.ExactDict/\o.data=.dict es ep/\es.toList=xs.map (entryOfKey (tupleKind (eG P w)))/\(xs.map (·.1)).Nodup
 | .set S n=>h.SetOf (intKind P w) a S n
 | .ins C dx fs=>H dx=some (.own a)/\fs.length<=1000/\dx≠a/\h.get? a=some (PySem.W.instObj C dx) /\
   ∃mA,h.Ns1 dx mA/\(∀f,nG (fs.lookup f) (mA f))/\PySem.Within mA (fs.map (·.1))
 | .own _=>∃o,h.get? a=some o
 | .xd fs=>∃mA,h.Ns1 a mA/\∀f,nG (fs.lookup f) (mA f)
 | .rng lo hi=>∃t u v,h.get? a=some { cls:=.type "range",data:=.fields #[.int lo t,.int hi u,.int 1 v] }
 | .frz o u=>h.get? a=some o/\eE H h a u
 | .tbl ps=>h.get? a=some { cls:=.none,data:=.fields ps }
 | .met f x=>h.get? a=some (PySem.W.methodObj (.ref f) (.ref x))
 | .ext φ=>φ h/\(∃o,h.get? a=some o)/\∀h1 h2:Heap,φ h1->(∀o,h1.get? a=some o->h2.get? a=some o)->φ h2
def nC(H:Hp)(h:Heap):Prop:=∀a o,H a=some o->eE P w H h a o
end
section
variable{P:Program}{w:World}{H H':Hp}{h h':Heap}{a:Addr}{o:HO}
theorem eE.lt(x:eE P w H h a o):a<h.objs.size:=by
 cases o with
 | lst xs=>obtain ⟨_,_,_,_,e⟩:=x;exact bD e
 | tup xs=>obtain ⟨_,_,_,p⟩:=x;exact p.lt
 | dK kvs=>obtain ⟨_,_,_,_,o,_,_,e,_⟩:=x;exact bD e
 | dT kvs=>obtain ⟨_,_,_,_,o,_,_,e,_⟩:=x;exact bD e
 | set S n=>obtain ⟨o,_,_,_,e,_⟩:=x;exact bD e
 | ins C dx fs=>obtain ⟨_,_,_,e,_⟩:=x;exact bD e
 | own y=>obtain ⟨_,e⟩:=x;exact bD e
 | xd fs=>obtain ⟨_,⟨_,_,_,e,_⟩,_⟩:=x;exact bD e
 | rng lo hi=>obtain ⟨_,_,_,e⟩:=x;exact bD e
 | frz ob u=>obtain ⟨e,_⟩:=x;exact bD e
 | tbl ps=>exact bD (show h.get? a=some _ from x)
 | met f y=>exact bD (show h.get? a=some _ from x)
 | ext φ=>obtain ⟨_,⟨_,e⟩,_⟩:=x;exact bD e
theorem Paired.mapP{α β:Type}{F G:α->β->Prop}:∀{l₁:List α}{l₂:List β},Paired F l₁ l₂->(∀a b,F a b->G a b)->Paired G l₁ l₂
 | _,_,.nil,_=>.nil
 | _,_,.cons r t,f=>.cons (f _ _ r) (Paired.mapP t f)
theorem Paired.imp'{α β:Type}{F G:α->β->Prop}(f:∀a b,F a b->G a b){l₁:List α}{l₂:List β}(r:Paired F l₁ l₂):Paired G l₁ l₂:=Paired.mapP r f
theorem eE.stay(x:eE P w H h a o)(k:∀b u,(b=a\/H b=some (.own a))->h.get? b=some u->h'.get? b=some u)
  (ho:∀b,H b=some (.own a)->H' b=some (.own a)) (ht:∀b xs,H b=some (.tup xs)->H' b=some (.tup xs)):eE P w H' h' a o:=by
 induction o with
 | lst xs=>obtain ⟨z,its,n,r,e⟩:=x;exact ⟨z,its,n,r,k _ _ (.inl rfl) e⟩
 | tup xs=>obtain ⟨⟨z,on,en,dn⟩,its,r,ob,e,c⟩:=x;exact ⟨⟨z,on,k _ _ (.inl rfl) en,dn⟩,its,r,ob,k _ _ (.inl rfl) e,c⟩
 | dK kvs=>obtain ⟨z,y,vs,r,ob,es,ep,e,c⟩:=x;exact ⟨z,y,vs,r,ob,es,ep,k _ _ (.inl rfl) e,c⟩
 | dT kvs =>
  obtain ⟨z,y,xs,r,ob,es,ep,e,c⟩:=x;exact ⟨z,y,xs,Paired.mapP r λp q z=>⟨z.1,ht _ _ z.2.1,z.2.2⟩,ob,es,ep,k _ _ (.inl rfl) e,c⟩
 | set S n=>obtain ⟨ob,es,ep,t,e,c⟩:=x;exact ⟨ob,es,ep,t,k _ _ (.inl rfl) e,c⟩
 | ins C dx fs =>
  obtain ⟨d,z,ne,e,mA,⟨od,es,ep,e2,c⟩,r⟩:=x;exact ⟨ho _ d,z,ne,k _ _ (.inl rfl) e,mA,⟨od,es,ep,k _ _ (.inr d) e2,c⟩,r⟩
 | own y=>obtain ⟨ob,e⟩:=x;exact ⟨ob,k _ _ (.inl rfl) e⟩
 | xd fs=>obtain ⟨mA,⟨od,es,ep,e,c⟩,r⟩:=x;exact ⟨mA,⟨od,es,ep,k _ _ (.inl rfl) e,c⟩,r⟩
 | rng lo hi=>obtain ⟨t,u,v,e⟩:=x;exact ⟨t,u,v,k _ _ (.inl rfl) e⟩
 | frz ob u ih=>obtain ⟨e,q⟩:=x;exact ⟨k _ _ (.inl rfl) e,ih q⟩
 | tbl ps =>
  have e:h.get? a=some { cls:=.none,data:=.fields ps }:=x;show h'.get? a=some { cls:=.none,data:=.fields ps };exact k a _ (.inl rfl) e
 | met f y =>
  have e:h.get? a=some (PySem.W.methodObj (.ref f) (.ref y)):=x;show h'.get? a=some (PySem.W.methodObj (.ref f) (.ref y));exact k a _ (.inl rfl) e
 | ext φ=>obtain ⟨p,⟨o,e⟩,st⟩:=x;exact ⟨st _ _ p λo q=>k _ _ (.inl rfl) q,⟨o,k _ _ (.inl rfl) e⟩,st⟩
theorem nC.lt(x:nC P w H h)(e:H a=some o):a<h.objs.size:=(x a o e).lt
theorem nC.fresh(x:nC P w H h)(e:h.objs.size<=a):H a=none:=by
 cases q:H a with
 | none=>rfl
 | some u=>exact absurd (aT (x.lt q) e) (cQ _)
theorem nC.kept(x:nC P w H h)(k:∀b u,h.get? b=some u->h'.get? b=some u):nC P w H h':=λa o e =>
 (x a o e).stay (λb u _ q=>k b u q) (λ_ q=>q) λ_ _ q=>q
theorem nC.laid(x:nC P w H h)(k:∀b u,h.get? b=some u->h'.get? b=some u)(hp:h.objs.size<=a)(new:eE P w (upd H a o) h' a o):nC P w (upd H a o) h':=λb u e=>by
 have hn:=x.fresh hp;by_cases hb:b=a
 ·subst hb;rw [bJ] at e;cases e;exact new
 ·rw [cL hb] at e;exact (x b u e).stay (λc v _ q=>k c v q) (λc q=>by rw [cL (cI q hn)];exact q) λc xs q=>by rw [cL (cI q hn)];exact q
end
def Rd(H:Hp)(a:Addr)(u:HO):Prop:=H a=some u\/∃o,H a=some (.frz o u)
theorem Rd.ok{P:Program}{w:World}{H:Hp}{h:Heap}{a:Addr}{u:HO}(r:Rd H a u)(x:nC P w H h):eE P w H h a u:=by
 rcases r with r | ⟨o,r⟩
 ·exact x a u r
 ·obtain ⟨_,q⟩:=x a _ r;exact q
def Mut:Option HO->Prop
 | some (.lst _)=>True
 | some (.dK _)=>True
 | some (.dT _)=>True
 | some (.set _ _)=>True
 | some (.ins _ _ _)=>True
 | some (.ext _)=>True
 | _=>False
section
variable{P:Program}{w:World}{H:Hp}{h h':Heap}{x e:Addr}{o':HO}
theorem nC.write(ok:nC P w H h)(mu:Mut (H x))(he:e=x\/H e=some (.own x))(k:∀b u,b≠e->h.get? b=some u->h'.get? b=some u)(heo:∃u,h'.get? e=some u)
  (new:eE P w (upd H x o') h' x o'):nC P w (upd H x o') h':=λb u q=>by
 have nown:∀c y,H c=some (.own y)->c≠x:=λc y r z=>by subst z;rw [r] at mu;exact mu
 have ntup:∀c xs,H c=some (.tup xs)->c≠x:=λc xs r z=>by subst z;rw [r] at mu;exact mu
 by_cases hb:b=x
 ·subst hb;rw [bJ] at q;cases q;exact new
 ·rw [cL hb] at q;by_cases hbe:b=e
  ·have q':H b=some (.own x):=by
    rcases he with z | z
    ·exact absurd (hbe.trans z) hb
    ·rw [hbe];exact z
   rw [q] at q';cases q';obtain ⟨v,hv⟩:=heo;exact ⟨v,by rw [hbe];exact hv⟩
  ·refine (ok b u q).stay (λc v hc r=>k c v ?_ r) (λc r=>by rw [cL (nown c b r)];exact r) λc xs r=>by rw [cL (ntup c xs r)];exact r
   rcases hc with rfl | hc
   ·exact hbe
   ·rintro rfl;rcases he with z | z
    ·exact nown c b hc z
    ·rw [hc] at z;cases z;exact hb rfl
end
structure Un(fs ex:List Addr)(H H':Hp)(h h':Heap):Prop where
 keep:∀b o,h.get? b=some o->H b=none->b ∉ fs->b ∉ ex->h'.get? b=some o
 slot:∀b o,h.get? b=some o->H b=none->b∈fs->b ∉ ex->∃sl,h'.get? b=some { o with slots:=sl }
 free:∀b o,h.get? b=some o->H b=none->b ∉ ex->H' b=none
 there:∀b o,h.get? b=some o->b ∉ ex->∃o',h'.get? b=some o'
 tups:∀b xs,H b=some (.tup xs)->H' b=some (.tup xs)
 frzs:∀b o u,H b=some (.frz o u)->H' b=some (.frz o u)
 tbls:∀b ps,H b=some (.tbl ps)->∃more,H' b=some (.tbl (ps++more))
section
variable{fs fs' ex ex':List Addr}{H H1 H2:Hp}{h h1 h2 h':Heap}{a x e:Addr}{o:HO}
theorem Un.any(u:Un fs ex H H1 h h1){b:Addr}{ob:Obj}(q:h.get? b=some ob)(n:H b=none)(hx:b ∉ ex):∃sl,h1.get? b=some { ob with slots:=sl }:=by
 by_cases hb:b∈fs
 ·exact u.slot b ob q n hb hx
 ·exact ⟨ob.slots,u.keep b ob q n hb hx⟩
theorem Un.kept(k:∀b u,h.get? b=some u->h'.get? b=some u):Un fs ex H H h h' :=
 ⟨λb ob q _ _ _=>k b ob q,λb ob q _ _ _=>⟨ob.slots,k b ob q⟩,λ_ _ _ n _=>n,λb ob q _=>⟨ob,k b ob q⟩,λ_ _ q=>q,λ_ _ _ q=>q,λ_ ps q=>⟨#[],by rw [q];simp⟩⟩
theorem Un.refl:Un fs ex H H h h:=Un.kept λ_ _ q=>q
theorem Un.laid(k:∀b u,h.get? b=some u->h'.get? b=some u)(hp:h.objs.size<=a)(hn:H a=none):Un fs ex H (upd H a o) h h' where
 keep:=λb u q _ _ _=>k b u q
 slot:=λb u q _ _ _=>⟨u.slots,k b u q⟩
 free:=λb u q n _=>by rw [cL (cJ (aT (bD q) hp))];exact n
 there:=λb u q _=>⟨u,k b u q⟩
 tups:=λb xs q=>by rw [cL (cI q hn)];exact q
 frzs:=λb u xs q=>by rw [cL (cI q hn)];exact q
 tbls:=λb ps q=>⟨#[],by rw [cL (cI q hn),q];simp⟩
theorem Un.write(mu:Mut (H x))(he:e=x\/H e=some (.own x))(k:∀b u,b≠e->h.get? b=some u->h'.get? b=some u)(heo:∃u,h'.get? e=some u):Un fs ex H (upd H x o) h h':=by
 have hx:∀b,H b=none->b≠x:=λb n z=>by subst z;rw [n] at mu;exact mu
 have hb:∀b,H b=none->b≠e:=λb n z=>by
  subst z;rcases he with r | r
  ·exact hx b n r
  ·rw [n] at r;cases r
 have hm:∀b u,H b=some u->¬Mut (some u)->b≠x:=λb u q nm z=>by subst z;rw [q] at mu;exact nm mu
 refine ⟨λb u q n _ _=>k b u (hb b n) q,λb u q n _ _=>⟨u.slots,k b u (hb b n) q⟩,λb u q n _=>by rw [cL (hx b n)];exact n,λb u q _=>?_,
  λb xs q=>by rw [cL (hm b _ q λz=>z)];exact q,λb u xs q=>by rw [cL (hm b _ q λz=>z)];exact q,λb ps q=>⟨#[],by rw [cL (hm b _ q λz=>z),q];simp⟩⟩
 by_cases hbe:b=e
 ·subst hbe;exact heo
 ·exact ⟨u,k b u hbe q⟩
end
def trk(h:Heap)(H:Hp):List Addr:=(List.range h.objs.size).filter λa=>(H a).isSome
def AZ(h:Heap)(H:Hp):Heap:=PySem.W.hideAll h (trk h H)
theorem KL(h:Heap)(H:Hp):(AZ h H).objs.size=h.objs.size:=PySem.W.hideAll_size _ _
theorem OW{h:Heap}{H:Hp}{b:Addr}{o:Obj}(e:h.get? b=some o)(n:H b=none):(AZ h H).get? b=some o :=
 PySem.W.hideAll_get _ e λhm=>by
  have q:(H b).isSome=true:=(kF.mp hm).2;rw [n] at q;simp at q
theorem UQ{h:Heap}{H:Hp}{b:Addr}{o:Obj}(e:(AZ h H).get? b=some o):h.get? b=some o/\H b=none:=by
 have e':h.get? b=some o:=PySem.W.of_hideAll (trk h H) e;refine ⟨e',?_⟩;cases q:H b with
 | none=>rfl
 | some x =>
  have hm:b∈trk h H:=kF.mpr ⟨cE.mpr (bD e'),by simp [q]⟩;have z:(AZ h H).get? b=none:=PySem.W.hideAll_none (trk h H) hm;rw [z] at e;cases e
structure Mod(K:PySem.W.Frag)(mg:Str->Option Value)(base:Heap):Prop where
 kin:K.In base
 glob:base.Ns mainGlobals mg
 blt:∃mb,base.Ns builtinsNs mb/\∀x:Str,x ≠ "__name__" -> mb x=bootBuiltins x
 nolimit:base.NoLimit
/-- the context: a def's body (or a comprehension's block) running. base: fixed through the whole law;s₀,H₀: the entry;outer: the frames whose slots others may change (a def's callers);stack: all frames that run;
   ex: iterators that were made ahead of the entry and are walked here (a comprehension's);fn: the names whose cells were made at the entry (a def: all;a comprehension's block: its own);calm: not within an except suite;pn: pins that every state bears;xe: what is wanted of an exception that leaves the code -/
structure Cx where
 prog:Program
 w:World
 K:PySem.W.Frag
 mg:Str->Option Value
 base:Heap
 A:Around
 N:List Str
 s₀:Shared
 H₀:Hp
 env:Env
 outer:List Env
 stack:List Env
 ex:List Addr
 fn:Str->Bool
 calm:Bool
 pn:List (Addr × Obj)
 xe:Value->Shared->Prop
def frs(l:List Env):List Addr:=l.filterMap (·.frame)
abbrev Cx.fs(X:Cx):List Addr:=frs X.outer
def Vis(sc:Scope)(x:Str):Prop:=sc.names.lookup x=some .local\/sc.names.lookup x=some .cell\/sc.names.lookup x=some .free
def Loc(sc:Scope)(x:Str):Prop:=sc.names.lookup x=some .local\/sc.names.lookup x=some .cell
def aD0(env:Env)(h:Heap)(m:Str->Option Value)(x:Str)(u:Value):Prop :=
 (env.kindOf x=some .local/\m x=some u)\/((env.kindOf x=some .cell\/env.kindOf x=some .free)/\∃c,env.cells.lookup x=some c/\h.IsCell c (some u))
structure Cx.Ok(X:Cx):Prop where
 mod:Mod X.K X.mg X.base
 kind:X.env.scope.kind=.function
 glob:X.env.globals=mainGlobals
 blt:X.env.builtins=builtinsNs
 above:X.s₀.heap.objs.size<=X.env.locals
 inj:∀x y c,X.env.cells.lookup x=some c->X.env.cells.lookup y=some c->x=y
 has:∀x,(X.env.kindOf x=some .cell\/X.env.kindOf x=some .free)->∃c,X.env.cells.lookup x=some c
 cab:∀x c,X.fn x=true->X.env.cells.lookup x=some c->X.s₀.heap.objs.size<=c
 hd:X.calm=true->X.A.handled=none
 frames:X.A.frames=some X.stack
 stk:X.stack=X.outer\/(X.stack=X.env::X.outer/\X.env.frame=some X.env.locals)
 exf:∀b∈X.ex,b≠X.env.locals/\∀x c,X.env.cells.lookup x=some c->c≠b
 bs:∀b o,X.base.get? b=some o->X.s₀.heap.get? b=some o/\X.H₀ b=none
 bsz:X.base.objs.size<=X.s₀.heap.objs.size
 noex:∀b o,X.base.get? b=some o->b ∉ X.ex
 exfs:∀b∈X.ex,b ∉ X.fs
 funs:X.s₀.heap.FunFrames X.base X.outer
 frf:∀b∈X.fs,X.H₀ b=none
structure cB(X:Cx)(pins:List (Addr × Obj))(σ:List (Option V))(H:Hp)(s:Shared):Prop where
 ok:X.Ok
 os:s.os=X.s₀.os
 bare:AllBare s.gens
 base:Un X.fs X.ex X.H₀ H X.s₀.heap s.heap
 loc:∃m,s.heap.Ns X.env.locals m/\∀(i:Nat) (x:Str) (v:V),X.N[i]?=some x->σ[i]?=some (some v)->Vis X.env.scope x->∃u,dH v u/\aD0 X.env s.heap m x u
 cell:∀x c,X.env.cells.lookup x=some c->∃v,s.heap.IsCell c v
 free:H X.env.locals=none
 freeC:∀x c,X.env.cells.lookup x=some c->H c=none
 pin:∀p∈X.pn++pins,s.heap.get? p.1=some p.2/\H p.1=none/\p.1≠X.env.locals/\p.1 ∉ X.fs/\∀v,p.2.data ≠ .cell v
 hok:nC X.prog X.w H s.heap
 len:σ.length=X.N.length
section
variable{X:Cx}{pins:List (Addr × Obj)}{σ:List (Option V)}{H H':Hp}{s:Shared}{h':Heap}
theorem Cx.Ok.nofr(ok:X.Ok){b:Addr}{o:Obj}(e:X.base.get? b=some o):b ∉ X.fs:=λhb=>by
 have:=(ok.funs.mem hb).1;rw [e] at this;cases this
theorem cB.bs(I:cB X pins σ H s):∀b o,X.base.get? b=some o->s.heap.get? b=some o/\H b=none:=λb o e =>
 ⟨I.base.keep b o (I.ok.bs b o e).1 (I.ok.bs b o e).2 (I.ok.nofr e) (I.ok.noex b o e),I.base.free b o (I.ok.bs b o e).1 (I.ok.bs b o e).2 (I.ok.noex b o e)⟩
theorem cB.bk(I:cB X pins σ H s):∀b o,X.base.get? b=some o->s.heap.get? b=some o:=λb o e=>(I.bs b o e).1
theorem cB.mod(I:cB X pins σ H s):Mod X.K X.mg X.base:=I.ok.mod
theorem cB.kIn(I:cB X pins σ H s):X.K.In s.heap:=I.ok.mod.kin.keeps I.bk
theorem cB.lt(I:cB X pins σ H s):X.env.locals<s.heap.objs.size:=let ⟨_,hn,_⟩:=I.loc;hn.lt
theorem cB.sz(I:cB X pins σ H s):X.s₀.heap.objs.size<=s.heap.objs.size:=bC I.ok.above (Nat.le_of_lt I.lt)
theorem cB.nofs(I:cB X pins σ H s){a:Addr}(h:s.heap.objs.size<=a):a ∉ X.fs:=λhb=>by
 obtain ⟨_,o,ho,_⟩:=I.ok.funs.mem hb;exact absurd (aT (bD ho) (bC I.sz h)) (cQ _)
theorem cB.cne(I:cB X pins σ H s):∀x c,X.env.cells.lookup x=some c->c≠X.env.locals:=λx c e z=>by
 obtain ⟨v,o,ho,hd⟩:=I.cell x c e;obtain ⟨m,⟨o',es,ep,ho',hd',_⟩,_⟩:=I.loc;rw [z,ho'] at ho;cases ho;rw [hd'] at hd;cases hd
theorem cB.funs(I:cB X pins σ H s):s.heap.FunFrames X.base X.outer:=by
 have all:∀(l:List Env),(∀b∈frs l,b∈X.fs)->X.s₀.heap.FunFrames X.base l->s.heap.FunFrames X.base l:=by
  intro l
  induction l with
  | nil=>intro _ _;trivial
  | cons env r ih =>
   intro hs hl;obtain ⟨hk,⟨L,o,hf,hn,ho,hd⟩,hr⟩:=hl;have hL:L∈X.fs:=hs L (by unfold frs;rw [List.filterMap_cons,hf];exact aN);obtain ⟨sl,e⟩:=I.base.slot L o ho (I.ok.frf L hL) hL λz=>I.ok.exfs L z hL;exact ⟨hk,⟨L,_,hf,hn,e,hd⟩,ih (λb hb=>hs b (by unfold frs;rw [List.filterMap_cons,hf];exact aH _ hb)) hr⟩
 exact all X.outer (λ_ hb=>hb) I.ok.funs
theorem cB.stack(I:cB X pins σ H s):s.heap.FunFrames X.base X.stack:=by
 rcases I.ok.stk with e | ⟨e,hf⟩
 ·rw [e];exact I.funs
 ·rw [e];obtain ⟨m,hn,_⟩:=I.loc;refine .cons (by rw [I.ok.kind];decide) hf hn ?_ I.funs;exact Heap.get?_none_of_le (bC I.ok.bsz I.ok.above)
theorem cB.stkSub(I:cB X pins σ H s):∀b∈frs X.stack,b∈X.env.locals::X.fs:=λb hb=>by
 rcases I.ok.stk with e | ⟨e,hf⟩
 ·rw [e] at hb;exact aH _ hb
 ·rw [e] at hb;unfold frs at hb;rw [List.filterMap_cons,hf] at hb;exact hb
theorem cB.stkFree(I:cB X pins σ H s):∀b∈frs X.stack,H b=none:=λb hb=>by
 rcases aQ.mp (I.stkSub b hb) with e | hb
 ·rw [e];exact I.free
 ·obtain ⟨_,o,ho,_⟩:=I.ok.funs.mem hb;exact I.base.free b o ho (I.ok.frf b hb) λz=>I.ok.exfs b z hb
theorem cB.step{g':Array GenState}{t':Nat}{d':Drawn}{ch:List Addr}(I:cB X pins σ H s)
  (hch:∀b∈ch,(b∈X.ex\/X.s₀.heap.objs.size<=b)/\b≠X.env.locals/\(∀x c,X.env.cells.lookup x=some c->c≠b)/\∀p∈X.pn++pins,p.1≠b)
  (keep:∀b o,b≠X.env.locals->b ∉ X.fs->b ∉ ch->s.heap.get? b=some o->H b=none->h'.get? b=some o)
  (slot:∀b o,b≠X.env.locals->b∈X.fs->b ∉ ch->s.heap.get? b=some o->H b=none->∃sl,h'.get? b=some { o with slots:=sl }) (free:∀b o,b ∉ ch->s.heap.get? b=some o->H b=none->H' b=none)
  (there:∀b o,b ∉ ch->s.heap.get? b=some o->∃o',h'.get? b=some o')
  (tups:∀b xs,H b=some (.tup xs)->H' b=some (.tup xs)) (frzs:∀b o u,H b=some (.frz o u)->H' b=some (.frz o u)) (tbls:∀b ps,H b=some (.tbl ps)->∃more,H' b=some (.tbl (ps++more)))
  (ns:∀m,s.heap.Ns X.env.locals m->h'.Ns X.env.locals m) (hok:nC X.prog X.w H' h') (hg:AllBare g') :
  cB X pins σ H' { s with heap:=h',gens:=g',drawn:=d',toks:=t' }:=by
 have neL:∀b o,X.s₀.heap.get? b=some o->b≠X.env.locals:=λb o e=>cJ (aT (bD e) I.ok.above);have neC:∀b o,X.s₀.heap.get? b=some o->b ∉ X.ex->b ∉ ch:=λb o e hx hb=>by
  rcases (hch b hb).1 with z | z
  ·exact hx z
  ·exact absurd (aT (bD e) z) (cQ _)
 have cellK:∀x c,X.env.cells.lookup x=some c->∀v,s.heap.IsCell c v->h'.IsCell c v:=λx c e v ⟨o,ho,hd⟩=>by
  have nch:c ∉ ch:=λz=>(hch c z).2.2.1 x c e rfl;by_cases hc:c∈X.fs
  ·obtain ⟨sl,q⟩:=slot c o (I.cne x c e) hc nch ho (I.freeC x c e);exact ⟨_,q,hd⟩
  ·exact ⟨o,keep c o (I.cne x c e) hc nch ho (I.freeC x c e),hd⟩
 refine ⟨I.ok,I.os,hg,⟨λb o e n hb hx=>?_,λb o e n hb hx=>?_,λb o e n hx=>?_,λb o e hx=>?_,λb xs e=>tups b xs (I.base.tups b xs e),λb o xs e=>frzs b o xs (I.base.frzs b o xs e),λb ps e=>?_⟩,?_,λx c e=>?_,?_,λx c e=>?_,λp hp=>?_,hok,I.len⟩
 ·exact keep b o (neL b o e) hb (neC b o e hx) (I.base.keep b o e n hb hx) (I.base.free b o e n hx)
 ·obtain ⟨sl,e1⟩:=I.base.slot b o e n hb hx;obtain ⟨sl',e2⟩:=slot b _ (neL b o e) hb (neC b o e hx) e1 (I.base.free b o e n hx);exact ⟨sl',e2⟩
 ·obtain ⟨o',e1⟩:=I.base.there b o e hx;exact free b o' (neC b o e hx) e1 (I.base.free b o e n hx)
 ·obtain ⟨o',e1⟩:=I.base.there b o e hx;exact there b o' (neC b o e hx) e1
 ·obtain ⟨m1,e1⟩:=I.base.tbls b ps e;obtain ⟨m2,e2⟩:=tbls b _ e1;exact ⟨m1++m2,by rw [e2,Array.append_assoc]⟩
 ·obtain ⟨m,hn,hl⟩:=I.loc;refine ⟨m,ns m hn,λi x v e1 e2 e3=>?_⟩;obtain ⟨u,r,l⟩:=hl i x v e1 e2 e3;refine ⟨u,r,?_⟩;rcases l with l | ⟨k,c,e,z⟩
  ·exact .inl l
  ·exact .inr ⟨k,c,e,cellK x c e _ z⟩
 ·obtain ⟨v,z⟩:=I.cell x c e;exact ⟨v,cellK x c e v z⟩
 ·obtain ⟨m,⟨o,_,_,ho,_⟩,_⟩:=I.loc;exact free _ o (λz=>(hch _ z).2.1 rfl) ho I.free
 ·obtain ⟨v,o,ho,hd⟩:=I.cell x c e;exact free c o (λz=>(hch c z).2.2.1 x c e rfl) ho (I.freeC x c e)
 ·obtain ⟨e,n,ne,nf,d⟩:=I.pin p hp;have nch:p.1 ∉ ch:=λz=>(hch p.1 z).2.2.2 p hp rfl;exact ⟨keep p.1 p.2 ne nf nch e n,free p.1 p.2 nch e n,ne,nf,d⟩
theorem cB.un{t':Nat}(I:cB X pins σ H s)(u:Un X.fs [] H H' s.heap h')(hok:nC X.prog X.w H' h'):cB X pins σ H' { s with heap:=h',toks:=t' }:=by
 obtain ⟨m,⟨o,es,ep,ho,r⟩,_⟩:=id I.loc;obtain ⟨sl,hL⟩:=u.any ho I.free (by simp);exact I.step (g':=s.gens) (d':=s.drawn) (ch:=[]) (λ_ z=>nomatch z) (λb o _ hb _ e n=>u.keep b o e n hb (by simp)) (λb o _ hb _ e n=>u.slot b o e n hb (by simp)) (λb o _ e n=>u.free b o e n (by simp)) (λb o _ e=>u.there b o e (by simp)) u.tups u.frzs u.tbls (λm' hm=>by
  obtain ⟨o',es',ep',ho',r'⟩:=hm;rw [ho] at ho';cases ho';exact ⟨_,es',ep',hL,r'⟩) hok I.bare
theorem cB.call{g':Array GenState}{t':Nat}{d':Drawn}{ch:List Addr}(I:cB X pins σ H s)(u:Un (frs X.stack) ch H H' s.heap h')(hok:nC X.prog X.w H' h')(hg:AllBare g')
  (hch:∀b∈ch,(b∈X.ex\/X.s₀.heap.objs.size<=b)/\b≠X.env.locals/\(∀x c,X.env.cells.lookup x=some c->c≠b)/\∀p∈X.pn++pins,p.1≠b) :
  cB X pins σ H' { s with heap:=h',gens:=g',drawn:=d',toks:=t' }:=by
 obtain ⟨m,⟨o,es,ep,ho,r⟩,_⟩:=id I.loc;obtain ⟨sl,hL⟩:=u.any ho I.free λz=>(hch _ z).2.1 rfl;exact I.step (ch:=ch) hch (λb o hL hb hc e n=>u.keep b o e n (λz=>(aQ.mp (I.stkSub b z)).elim hL hb) hc) (λb o _ _ hc e n=>u.any e n hc) (λb o hc e n=>u.free b o e n hc) (λb o hc e=>u.there b o e hc) u.tups u.frzs u.tbls (λm' hm=>by
  obtain ⟨o',es',ep',ho',r'⟩:=hm;rw [ho] at ho';cases ho';exact ⟨_,es',ep',hL,r'⟩) hok hg
theorem cB.turned{t':Nat}{it:Addr}(I:cB X pins σ H s)(k:∀b o,b≠it->s.heap.get? b=some o->h'.get? b=some o)(hn:H it=none)(hL:it≠X.env.locals)
  (h1:it∈X.ex\/X.s₀.heap.objs.size<=it) (h2:∀x c,X.env.cells.lookup x=some c->c≠it) (h3:∀p∈X.pn++pins,p.1≠it):cB X pins σ H { s with heap:=h',toks:=t' }:=by
 have nit:∀b u,H b=some u->b≠it:=λb u e z=>by rw [z,hn] at e;cases e
 refine I.step (g':=s.gens) (d':=s.drawn) (ch:=[it]) (λb hb=>?_) (λb o _ _ hc e _=>k b o (λz=>hc (by simp [z])) e) (λb o _ _ hc e _=>⟨o.slots,k b o (λz=>hc (by simp [z])) e⟩) (λ_ _ _ _ n=>n)
  (λb o hc e=>⟨o,k b o (λz=>hc (by simp [z])) e⟩) (λ_ _ e=>e) (λ_ _ _ e=>e) (λb ps e=>⟨#[],by rw [e];simp⟩) (λm hm=>?_) (λb u e=>?_) I.bare
 ·have e:b=it:=by simpa using hb
  subst e;exact ⟨h1,hL,h2,h3⟩
 ·obtain ⟨o,es,ep,ho,r⟩:=hm;exact ⟨o,es,ep,k _ o (Ne.symm hL) ho,r⟩
 ·refine (I.hok b u e).stay (λc v hc q=>k c v ?_ q) (λ_ q=>q) λ_ _ q=>q;rcases hc with z | z
  ·rw [z];exact nit b u e
  ·exact nit c _ z
theorem cB.tok(I:cB X pins σ H s)(t:Nat):cB X pins σ H { s with toks:=t }:=I.un (h':=s.heap) (t':=t) Un.refl I.hok
theorem cB.kept{t':Nat}(I:cB X pins σ H s)(k:∀b u,s.heap.get? b=some u->h'.get? b=some u):cB X pins σ H { s with heap:=h',toks:=t' }:=I.un (Un.kept k) (I.hok.kept k)
theorem cB.laid{a:Addr}{o:HO}{t':Nat}(I:cB X pins σ H s)(k:∀b u,s.heap.get? b=some u->h'.get? b=some u)(hp:s.heap.objs.size<=a)(new:eE X.prog X.w (upd H a o) h' a o) :
  cB X pins σ (upd H a o) { s with heap:=h',toks:=t' }:=I.un (Un.laid k hp (I.hok.fresh hp)) (I.hok.laid k hp new)
theorem cB.write{x e:Addr}{o:HO}{t':Nat}(I:cB X pins σ H s)(mu:Mut (H x))(he:e=x\/H e=some (.own x))(k:∀b u,b≠e->s.heap.get? b=some u->h'.get? b=some u)(heo:∃u,h'.get? e=some u)
  (new:eE X.prog X.w (upd H x o) h' x o):cB X pins σ (upd H x o) { s with heap:=h',toks:=t' }:=I.un (Un.write mu he k heo) (I.hok.write mu he k heo new)
theorem cB.pins_of{pins':List (Addr × Obj)}(I:cB X pins σ H s)(h:∀p∈pins',s.heap.get? p.1=some p.2/\H p.1=none/\p.1≠X.env.locals/\p.1 ∉ X.fs/\∀v,p.2.data ≠ .cell v):cB X pins' σ H s :=
 ⟨I.ok,I.os,I.bare,I.base,I.loc,I.cell,I.free,I.freeC,λp hp=>(dF.mp hp).elim (λz=>I.pin p (bQ _ z)) (h p),I.hok,I.len⟩
theorem rL{N:List Str}(hN:N.Nodup){i j:Nat}{x:Str}(a:N[i]?=some x)(b:N[j]?=some x):i=j:=by
 obtain ⟨h1,e1⟩:=aL.mp a;obtain ⟨h2,e2⟩:=aL.mp b;exact (List.getElem_inj hN).mp (e1.trans e2.symm)
theorem JE{M:Model}{A:Around}{E:Value->Shared->Prop}{i:Nat}{x:Str}{v:V}{u:Value}{Q:Unit->Shared->Prop}(I:cB X pins σ H s)(hN:X.N.Nodup)(hi:X.N[i]?=some x)(hx:Loc X.env.scope x)(r:dH v u)
  (h:∀s',cB X pins (σ.set i (some v)) H s'->(∃a,Heap.SameBut a s.heap s'.heap/\(a=X.env.locals\/X.env.cells.lookup x=some a))->Q () s') (hf:X.fn x=true\/X.env.scope.names.lookup x=some .local:=by first | exact .inl rfl | exact .inr rfl | assumption):wpAny M A (storeName X.env x u) Q E s:=by
 obtain ⟨m,hn,hl⟩:=id I.loc;have hcls:(X.env.scope.kind == .class || (X.env.scope.kind == .module&&X.env.locals != X.env.globals))=false:=by rw [I.ok.kind];rfl
 have hiσ:i<σ.length:=by rw [I.len];exact (aL.mp hi).1
 have cne:=I.cne;have tracked:∀{a:Addr} {h':Heap},(∃o,s.heap.get? a=some o/\H a=none)->Heap.SameBut a s.heap h'->nC X.prog X.w H h':=λ{a h'} ha hs b ob e=>by
  obtain ⟨_,_,hfree⟩:=ha;refine (I.hok b ob e).stay (λc w' hc q=>(hs.2 c ?_).trans q) (λ_ q=>q) λ_ _ q=>q;rintro rfl;rcases hc with rfl | hc
  ·rw [hfree] at e;cases e
  ·rw [hfree] at hc;cases hc
 rcases hx with hk | hk
 ·refine wpAny_storeName_local hk hn (λh' hn' hs=>?_) hcls;obtain ⟨oL,_,_,hoL,_⟩:=id hn;refine h _ ⟨I.ok,I.os,I.bare,⟨λb o e n hb hx=>?_,λb o e n hb hx=>?_,I.base.free,λb o e hx=>?_,I.base.tups,I.base.frzs,I.base.tbls⟩,⟨_,hn',λj y v' e1 e2 e3=>?_⟩,λy c e=>?_,I.free,I.freeC,λp hp=>?_,tracked ⟨oL,hoL,I.free⟩ hs,by simpa using I.len⟩ ⟨_,hs,.inl rfl⟩
  ·exact (hs.2 b (cJ (aT (bD e) I.ok.above))).trans (I.base.keep b o e n hb hx)
  ·obtain ⟨sl,e1⟩:=I.base.slot b o e n hb hx;exact ⟨sl,(hs.2 b (cJ (aT (bD e) I.ok.above))).trans e1⟩
  ·obtain ⟨o',e1⟩:=I.base.there b o e hx;exact ⟨o',(hs.2 b (cJ (aT (bD e) I.ok.above))).trans e1⟩
  ·by_cases hj:j=i
   ·subst hj;rw [hi] at e1;cases e1;rw [List.getElem?_set_self hiσ] at e2;cases e2;exact ⟨u,r,.inl ⟨hk,by simp⟩⟩
   ·rw [List.getElem?_set_ne (Ne.symm hj)] at e2;obtain ⟨u',r',q⟩:=hl j y v' e1 e2 e3;refine ⟨u',r',?_⟩;rcases q with ⟨k,e⟩ | ⟨k,c,e,z⟩
    ·refine .inl ⟨k,?_⟩;have:y≠x:=λe=>hj (rL hN e1 (e ▸ hi));simp [this,e]
    ·exact .inr ⟨k,c,e,z.sameBut hs (cne y c e)⟩
  ·obtain ⟨w',z⟩:=I.cell y c e;exact ⟨w',z.sameBut hs (cne y c e)⟩
  ·obtain ⟨e,n,ne,nf,d⟩:=I.pin p hp;exact ⟨(hs.2 p.1 ne).trans e,n,ne,nf,d⟩
 ·have hfn:X.fn x=true:=by
   rcases hf with z | z
   ·exact z
   ·rw [z] at hk;cases hk
  obtain ⟨c,hc⟩:=I.ok.has x (.inl hk);obtain ⟨w',z⟩:=I.cell x c hc;refine wpAny_storeName_cell I.ok.kind hk hc z (λh' hc' hs=>?_);obtain ⟨oc,hoc,hocd⟩:=id z;refine h { s with heap:=h' } ⟨I.ok,I.os,I.bare,⟨λb o e n hb hx=>?_,λb o e n hb hx=>?_,I.base.free,λb o e hx=>?_,I.base.tups,I.base.frzs,I.base.tbls⟩,⟨m,hn.sameBut hs (Ne.symm (cne x c hc)),λj y v' e1 e2 e3=>?_⟩,λy c' e=>?_,I.free,I.freeC,λp hp=>?_,tracked ⟨oc,hoc,I.freeC x c hc⟩ hs,by simpa using I.len⟩ ⟨c,hs,.inr hc⟩
  ·exact (hs.2 b (cJ (aT (bD e) (I.ok.cab x c hfn hc)))).trans (I.base.keep b o e n hb hx)
  ·obtain ⟨sl,e1⟩:=I.base.slot b o e n hb hx;exact ⟨sl,(hs.2 b (cJ (aT (bD e) (I.ok.cab x c hfn hc)))).trans e1⟩
  ·obtain ⟨o',e1⟩:=I.base.there b o e hx;exact ⟨o',(hs.2 b (cJ (aT (bD e) (I.ok.cab x c hfn hc)))).trans e1⟩
  ·by_cases hj:j=i
   ·subst hj;rw [hi] at e1;cases e1;rw [List.getElem?_set_self hiσ] at e2;cases e2;exact ⟨u,r,.inr ⟨.inl hk,c,hc,hc'⟩⟩
   ·rw [List.getElem?_set_ne (Ne.symm hj)] at e2;obtain ⟨u',r',q⟩:=hl j y v' e1 e2 e3;refine ⟨u',r',?_⟩;rcases q with q | ⟨k,c',e,z'⟩
    ·exact .inl q
    ·refine .inr ⟨k,c',e,z'.sameBut hs ?_⟩;rintro rfl;exact hj (rL hN e1 (I.ok.inj _ _ _ e hc ▸ hi))
  ·by_cases hcc:c'=c
   ·subst hcc;exact ⟨_,hc'⟩
   ·obtain ⟨w2,z2⟩:=I.cell y c' e;exact ⟨w2,z2.sameBut hs hcc⟩
  ·obtain ⟨e,n,ne,nf,d⟩:=I.pin p hp;refine ⟨(hs.2 p.1 ?_).trans e,n,ne,nf,d⟩;intro q;rw [q,hoc] at e;have q':oc=p.2:=eU e;exact d w' (by rw [<-q'];exact hocd)
theorem nM{M:Model}{A:Around}{E:Value->Shared->Prop}{i:Nat}{x:Str}{v:V}{u:Value}{Q:Unit->Shared->Prop}(I:cB X pins σ H s)(hN:X.N.Nodup)(hi:X.N[i]?=some x)(hx:Loc X.env.scope x)(r:dH v u)
  (h:∀s',cB X pins (σ.set i (some v)) H s'->Q () s') (hf:X.fn x=true\/X.env.scope.names.lookup x=some .local:=by first | exact .inl rfl | exact .inr rfl | assumption):wpAny M A (storeName X.env x u) Q E s :=
 JE I hN hi hx r (λs' I' _=>h s' I') hf
theorem cB.call'{s':Shared}{ch:List Addr}(I:cB X pins σ H s)(ho:s'.os=s.os)(u:Un (frs X.stack) ch H H' s.heap s'.heap)(hok:nC X.prog X.w H' s'.heap)(hg:AllBare s'.gens)
  (hch:∀b∈ch,(b∈X.ex\/X.s₀.heap.objs.size<=b)/\b≠X.env.locals/\(∀x c,X.env.cells.lookup x=some c->c≠b)/\∀p∈X.pn++pins,p.1≠b):cB X pins σ H' s':=by
 obtain ⟨h',g',d',t',o'⟩:=s';have e:o'=s.os:=ho;subst e;exact I.call (g':=g') (t':=t') (d':=d') u hok hg hch
end
abbrev XK:=Value->Option Addr->Hp->Prop
abbrev St:=List (Option V)
abbrev VK:=V->Hp->Prop
abbrev TE:=St->Hp->VK->Prop
abbrev TT:=St->Hp->(Bool->Hp->Prop)->Prop
abbrev TA:=St->Hp->(List V->Hp->Prop)->Prop
structure tU where
 nx:St->Hp->Prop
 rt:VK
 bk:St->Hp->Prop:=λ_ _=>False
 ct:St->Hp->Prop:=λ_ _=>False
abbrev TS:=tU->St->Hp->Prop
def EP(X:Cx)(pins:List (Addr × Obj))(σ:St)(Q:VK)(u:Value)(s':Shared):Prop:=∃v H',cB X pins σ H' s'/\dH v u/\Q v H'
def TP(X:Cx)(pins:List (Addr × Obj))(σ:St)(Q:Bool->Hp->Prop)(b:Bool)(s':Shared):Prop:=∃H',cB X pins σ H' s'/\Q b H'
def AP(X:Cx)(pins:List (Addr × Obj))(σ:St)(Q:List V->Hp->Prop)(us:List Value)(s':Shared):Prop:=∃vs H',cB X pins σ H' s'/\cO vs us/\Q vs H'
def SP(X:Cx)(pins:List (Addr × Obj))(D:tU)(f:Flow)(s':Shared):Prop :=
 match f with
 | .next=>∃σ' H',cB X pins σ' H' s'/\D.nx σ' H'
 | .brk=>∃σ' H',cB X pins σ' H' s'/\D.bk σ' H'
 | .cont=>∃σ' H',cB X pins σ' H' s'/\D.ct σ' H'
 | .ret u=>∃v σ' H',cB X pins σ' H' s'/\dH v u/\D.rt v H'
def PE(X:Cx)(e:Expr)(t:TE):Prop :=
 ∀(pins:List (Addr × Obj)) (s:Shared) (σ:St) (H:Hp) (Q:VK),cB X pins σ H s->t σ H Q->wpAny (model X.prog X.w) X.A (eval e X.env) (EP X pins σ Q) X.xe s
def PT(X:Cx)(e:Expr)(t:TT):Prop :=
 ∀(pins:List (Addr × Obj)) (s:Shared) (σ:St) (H:Hp) (Q:Bool->Hp->Prop),cB X pins σ H s->t σ H Q->wpAny (model X.prog X.w) X.A (isTrue e X.env (eval e X.env)) (TP X pins σ Q) X.xe s
def PW(X:Cx)(e:Expr)(t:TT):Prop :=
 ∀(whole:Sem Value) (pins:List (Addr × Obj)) (s:Shared) (σ:St) (H:Hp) (Q:Bool->Hp->Prop),cB X pins σ H s->t σ H Q->wpAny (model X.prog X.w) X.A (isTrue e X.env whole) (TP X pins σ Q) X.xe s
theorem PW.pt{X:Cx}{e:Expr}{t:TT}(h:PW X e t):PT X e t:=h _
def PA(X:Cx)(es:List Expr)(t:TA):Prop :=
 ∀(pos:Pos) (pins:List (Addr × Obj)) (s:Shared) (σ:St) (H:Hp) (Q:List V->Hp->Prop),cB X pins σ H s->t σ H Q->wpAny (model X.prog X.w) X.A (spliced (backTo pos (starEach es X.env))) (AP X pins σ Q) X.xe s
def PS(X:Cx)(st:Stmt)(t:TS):Prop :=
 ∀(pins:List (Addr × Obj)) (s:Shared) (σ:St) (H:Hp) (D:tU),cB X pins σ H s->t D σ H->wpAny (model X.prog X.w) X.A (exec st X.env) (SP X pins D) X.xe s
def GF(X:Cx)(st:List Stmt)(t:TS):Prop :=
 ∀(pins:List (Addr × Obj)) (s:Shared) (σ:St) (H:Hp) (D:tU),cB X pins σ H s->t D σ H->wpAny (model X.prog X.w) X.A (execs st X.env) (SP X pins D) X.xe s
theorem thn{α:Type}{t:Sem α}{Q Q':α->Shared->Prop}{M:Model}{A:Around}{E:Value->Shared->Prop}{s:Shared}(h:wpAny M A t Q E s)(hQ:∀a s,Q a s->Q' a s):wpAny M A t Q' E s:=wpAny_mono h hQ λ_ _ x=>x
section
variable{X:Cx}
def YM(i:Nat):TE:=λσ H Q=>∃v,σ[i]?=some (some v)/\Q v H
def tC(v:V):TE:=λ_ H Q=>Q v H
theorem aAo{i:Nat}{x:Str}{pos:Pos}(hN:X.N[i]?=some x)(hv:Vis X.env.scope x)(hd:(x == ("__debug__" : Str))=false:=by decide)(hcd:(x == ("__classdict__" : Str))=false:=by decide):PE X (.Name x pos) (YM i):=by
 intro pins s σ H Q I h;obtain ⟨v,e,h⟩:=h;obtain ⟨m,hn,hl⟩:=I.loc;obtain ⟨u,r,l⟩:=hl i x v hN e hv;have fin:EP X pins σ Q u s:=⟨v,H,I,r,h⟩;rcases l with ⟨hk,hm⟩ | ⟨hk,c,hc,hcell⟩
 ·exact wpAny_Name (wpAny_loadName_local I.ok.kind hk hn hm fin) hd
 ·rcases hk with hk | hk
  ·exact wpAny_Name (wpAny_loadName_cell I.ok.kind hk hc hcell fin) hd
  ·exact wpAny_Name (wpAny_loadName_free I.ok.kind hk hc hcell fin hcd) hd
theorem pe_int{i j pos}:PE X (.Constant (.int i) j pos) (tC (.int i)):=λ_ _ _ H _ I h=>wpAny_Constant_int ⟨.int i,H,I.tok _,⟨_,rfl⟩,h⟩
theorem pe_bl{b j pos}:PE X (.Constant (.bool b) j pos) (tC (.bl b)):=λ_ _ _ H _ I h=>Constant_bool ⟨.bl b,H,I,rfl,h⟩
theorem pe_non{j pos}:PE X (.Constant .none j pos) (tC .non):=λ_ _ _ H _ I h=>Constant_none ⟨.non,H,I,rfl,h⟩
theorem pe_str{x j pos}:PE X (.Constant (.str x) j pos) (tC (.str x)):=λ_ _ _ H _ I h=>Calls.Constant_str ⟨.str x,H,I.tok _,⟨_,rfl⟩,h⟩
def Gl(X:Cx)(x:Str):Prop:=X.env.kindOf x=some .globalImplicit
theorem AX{E:Value->Shared->Prop}{pins:List (Addr × Obj)}{s:Shared}{σ:St}{H:Hp}{x:Str}{u:Value}{pos:Pos}{Q:Value->Shared->Prop}(I:cB X pins σ H s)(hg:Gl X x)(hm:X.mg x=some u)(h:Q u s)
  (hd:(x == ("__debug__" : Str))=false:=by decide):wpAny (model X.prog X.w) X.A (eval (.Name x pos) X.env) Q E s :=
 Calls.Name_function_global I.ok.kind hg (Calls.loadGlobal_global (by rw [I.ok.glob];exact I.mod.glob.keeps I.bk) hm h) hd
theorem wH{E:Value->Shared->Prop}{pins:List (Addr × Obj)}{s:Shared}{σ:St}{H:Hp}{x:Str}{u:Value}{pos:Pos}{Q:Value->Shared->Prop}(I:cB X pins σ H s)(hg:Gl X x)(hm:X.mg x=none)(hv:bootBuiltins x=some u)(h:Q u s)
  (hn:x ≠ "__name__" := by decide) (hd:(x == ("__debug__" : Str))=false:=by decide):wpAny (model X.prog X.w) X.A (eval (.Name x pos) X.env) Q E s:=by
 obtain ⟨mb,h1,h2⟩:=I.mod.blt;exact Calls.Name_function_global I.ok.kind hg (Calls.loadGlobal_builtin (by rw [I.ok.glob];exact I.mod.glob.keeps I.bk) hm (by rw [I.ok.blt];exact h1.keeps I.bk) ((h2 x hn).trans hv) h) hd
theorem UE{x:Str}{v:V}{u:Value}{pos:Pos}(hg:Gl X x)(hm:X.mg x=some u)(r:dH v u)(hd:(x == ("__debug__" : Str))=false:=by decide):PE X (.Name x pos) (tC v) :=
 λ_ _ _ H _ I h=>AX I hg hm ⟨v,H,I,r,h⟩ hd
theorem UK{x:Str}{v:V}{u:Value}{pos:Pos}(hg:Gl X x)(hm:X.mg x=none)(hv:bootBuiltins x=some u)(r:dH v u)(hn:x ≠ "__name__" := by decide)(hd:(x == ("__debug__" : Str))=false:=by decide):PE X (.Name x pos) (tC v) :=
 λ_ _ _ H _ I h=>wH I hg hm hv ⟨v,H,I,r,h⟩ hn hd
variable{a b:Expr}{ta tb:TE}{pos:Pos}
def tB(t:TE):TT:=λσ H Q=>t σ H λx H1=>∃c,x=.bl c/\Q c H1
theorem aAb{e:Expr}{t:TE}(h:PE X e t)(he:∀whole,isTrue e X.env whole=(do let v <-whole;standAt e.pos;holding [v] (truthy v)):=by intro _;rfl):PT X e (tB t):=by
 intro pins s σ H Q I hw;refine isTrue_plain (thn (h pins s σ H _ I hw) λv s1 ⟨x,H1,I1,r1,q1⟩=>?_) (he _);obtain ⟨d,rfl,q⟩:=q1;cases r1;exact wpAny_truthy_bool ⟨H1,I1,q⟩
variable{tA tB':TT}{rest:List Expr}
def aBF(t u:TT):TT:=λσ H Q=>t σ H λc H1=>if c=true then u σ H1 Q else Q false H1
def tOr(t u:TT):TT:=λσ H Q=>t σ H λc H1=>if c=true then Q true H1 else u σ H1 Q
def aBx(t:TT):TT:=λσ H Q=>t σ H λc H1=>Q (!c) H1
theorem TQ(ha:PT X a tA):PW X (.BoolOp .And [a] pos) tA:=by
 intro wh pins s σ H Q I h;refine isTrue_and (thn (ha pins s σ H Q I h) λc s1 e=>?_);cases c with
 | true=>exact isTrue_and_nil e
 | false=>exact e
theorem ZZ(ha:PT X a tA):PW X (.BoolOp .Or [a] pos) tA:=by
 intro wh pins s σ H Q I h;refine isTrue_or (thn (ha pins s σ H Q I h) λc s1 e=>?_);cases c with
 | false=>exact isTrue_or_nil e
 | true=>exact e
theorem aAa(ha:PT X a tA)(hb:PW X (.BoolOp .And (b::rest) pos) tB'):PW X (.BoolOp .And (a::b::rest) pos) (aBF tA tB'):=by
 intro wh pins s σ H Q I h;refine isTrue_and (thn (ha pins s σ H _ I h) λc s1 ⟨H1,I1,q1⟩=>?_);cases c with
 | true=>exact hb wh pins s1 σ H1 Q I1 q1
 | false=>exact ⟨H1,I1,q1⟩
theorem aBV(ha:PT X a tA)(hb:PW X (.BoolOp .Or (b::rest) pos) tB'):PW X (.BoolOp .Or (a::b::rest) pos) (tOr tA tB'):=by
 intro wh pins s σ H Q I h;refine isTrue_or (thn (ha pins s σ H _ I h) λc s1 ⟨H1,I1,q1⟩=>?_);cases c with
 | true=>exact ⟨H1,I1,q1⟩
 | false=>exact hb wh pins s1 σ H1 Q I1 q1
theorem aAc(ha:PT X a tA):PT X (.UnaryOp .Not a pos) (aBx tA):=by
 intro pins s σ H Q I h;exact isTrue_not (ha pins s σ H (λc H1=>Q (!c) H1) I h)
def XC(ta tb:TE):TE:=λσ H Q=>ta σ H λx H1=>∃c,x=.bl c/\if c=true then tb σ H1 Q else Q (.bl false) H1
def WU(ta:TE):TE:=λσ H Q=>ta σ H λx H1=>∃c,x=.bl c/\Q (.bl (!c)) H1
theorem aAq{op}{t:TE}(h:PE X a t):PE X (.BoolOp op [a] pos) t:=λpins s σ H Q I hw=>BoolOp_one (h pins s σ H Q I hw)
theorem aAv(ha:PE X a ta)(hb:PE X (.BoolOp .And (b::rest) pos) tb):PE X (.BoolOp .And (a::b::rest) pos) (XC ta tb):=by
 intro pins s σ H Q I h;refine BoolOp_and (thn (ha pins s σ H _ I h) λv s1 ⟨x,H1,I1,r1,q1⟩=>?_);obtain ⟨c,rfl,q1⟩:=q1;cases r1;refine wpAny_truthy_bool ?_;cases c with
 | true=>exact hb pins s1 σ H1 Q I1 q1
 | false=>exact ⟨.bl false,H1,I1,rfl,q1⟩
theorem aAr(ha:PE X a ta):PE X (.UnaryOp .Not a pos) (WU ta):=by
 intro pins s σ H Q I h;refine UnaryOp_ (thn (ha pins s σ H _ I h) λv s1 ⟨x,H1,I1,r1,q1⟩=>?_);obtain ⟨c,rfl,q1⟩:=q1;cases r1;exact not_of (wpAny_truthy_bool ⟨.bl (!c),H1,I1,rfl,q1⟩)
def tIf(t:TT)(ta tb:TE):TE:=λσ H Q=>t σ H λc H1=>if c=true then ta σ H1 Q else tb σ H1 Q
theorem NW{c:Expr}(hc:PT X c tA)(ha:PE X a ta)(hb:PE X b tb):PE X (.IfExp c a b pos) (tIf tA ta tb):=by
 intro pins s σ H Q I h;refine wpAny_IfExp (thn (hc pins s σ H _ I h) λd s1 ⟨H1,I1,q1⟩=>?_);cases d with
 | true=>exact ha pins s1 σ H1 Q I1 q1
 | false=>exact hb pins s1 σ H1 Q I1 q1
end
def fT(K:PySem.W.Frag)(H:Hp)(a:Addr)(xs:List V):Prop :=
 Rd H a (.lst xs) \/
  ∃(o:Obj) (its:Array Value) (n:Nat),K.lookup a=some o/\o.cls=.type "list" /\ o.dict=none/\o.data=.seq its n/\its.size<=sizeLine/\cO xs its.toList
def fS(K:PySem.W.Frag)(H:Hp)(a:Addr)(xs:List V):Prop :=
 Rd H a (.tup xs) \/
  ∃(o:Obj) (its:Array Value) (n:Nat),K.lookup a=some o/\o.cls=.type "tuple" /\ o.data=.seq its n/\its.size<=sizeLine/\cO xs its.toList
def aDY:Value->Option V
 | .none=>some .non
 | .bool b=>some (.bl b)
 | .int i _=>some (.int i)
 | .str x _=>some (.str x)
 | .bytes b _=>some (.byt b)
 | .float b _=>some (.flt b)
 | .ref a=>some (.ref a)
 | .type n=>some (.ty n)
 | _=>none
theorem dH.abs{x:V}{u:Value}(r:dH x u):aDY u=some x:=by
 cases x with
 | non=>cases r;rfl
 | bl _=>cases r;rfl
 | int _=>obtain ⟨t,rfl⟩:=r;rfl
 | str _=>obtain ⟨t,rfl⟩:=r;rfl
 | byt _=>obtain ⟨t,rfl⟩:=r;rfl
 | flt _=>obtain ⟨t,rfl⟩:=r;rfl
 | ref _=>cases r;rfl
 | ty _=>cases r;rfl
theorem dH.inj{x y:V}{u:Value}(r:dH x u)(q:dH y u):x=y:=eU (r.abs.symm.trans q.abs)
theorem cO.inj:∀{xs ys:List V}{us:List Value},cO xs us->cO ys us->xs=ys
 | _,_,_,.nil,.nil=>rfl
 | _,_,_,.cons r t,.cons r' t'=>by rw [r.inj r',cO.inj t t']
section
variable{X:Cx}{pins:List (Addr × Obj)}{σ:St}{H:Hp}{s:Shared}{a:Addr}{xs ys:List V}
theorem fT.of{K:PySem.W.Frag}(h:H a=some (.lst xs)):fT K H a xs:=.inl (.inl h)
theorem fS.of{K:PySem.W.Frag}(h:H a=some (.tup xs)):fS K H a xs:=.inl (.inl h)
theorem cB.list(I:cB X pins σ H s)(h:fT X.K H a xs):∃its:List Value,cO xs its/\PlainL s.heap a its.toArray/\xs.length<=sizeLine:=by
 rcases h with h | ⟨o,its,n,hk,hc,hd,hs,hz,r⟩
 ·obtain ⟨z,its,n,r,e⟩:=h.ok I.hok;exact ⟨its,r,⟨_,n,e,rfl,rfl,rfl⟩,z⟩
 ·refine ⟨its.toList,r,⟨o,n,I.kIn a o hk,hc,hd,by simpa using hs⟩,?_⟩;have e:=r.length;simp only [Array.length_toList] at e;omega
theorem cB.tuple(I:cB X pins σ H s)(h:fS X.K H a xs):∃its:List Value,cO xs its/\IsTup s.heap a its.toArray/\xs.length<=sizeLine:=by
 rcases h with h | ⟨o,its,n,hk,hc,hs,hz,r⟩
 ·obtain ⟨⟨z,_⟩,its,r,p⟩:=h.ok I.hok;exact ⟨its,r,p,z⟩
 ·refine ⟨its.toList,r,⟨o,I.kIn a o hk,hc,n,by simpa using hs⟩,?_⟩;have e:=r.length;simp only [Array.length_toList] at e;omega
theorem cB.list_inj(I:cB X pins σ H s)(h:fT X.K H a xs)(h':fT X.K H a ys):xs=ys:=by
 obtain ⟨its,r,⟨o,n,e,_,_,d⟩,_⟩:=I.list h;obtain ⟨its',r',⟨o',n',e',_,_,d'⟩,_⟩:=I.list h';rw [e] at e';cases e';rw [d] at d';injection d' with d1 _;have:its=its':=by simpa using congrArg Array.toList d1
 subst this;exact r.inj r'
theorem cB.tuple_inj(I:cB X pins σ H s)(h:fS X.K H a xs)(h':fS X.K H a ys):xs=ys:=by
 obtain ⟨its,r,⟨o,e,_,n,d⟩,_⟩:=I.tuple h;obtain ⟨its',r',⟨o',e',_,n',d'⟩,_⟩:=I.tuple h';rw [e] at e';cases e';rw [d] at d';injection d' with d1 _;have:its=its':=by simpa using congrArg Array.toList d1
 subst this;exact r.inj r'
end
abbrev Cx.wish(X:Cx)(E:Value->Shared->Prop):Cx:={ X with xe:=E }
abbrev Cx.nox(X:Cx):Cx:=X.wish λ_ _=>False
theorem Cx.Ok.wish{X:Cx}(ok:X.Ok)(E:Value->Shared->Prop):(X.wish E).Ok :=
 ⟨ok.mod,ok.kind,ok.glob,ok.blt,ok.above,ok.inj,ok.has,ok.cab,ok.hd,ok.frames,ok.stk,ok.exf,ok.bs,ok.bsz,ok.noex,ok.exfs,ok.funs,ok.frf⟩
theorem Cx.Ok.unwish{X:Cx}{E:Value->Shared->Prop}(ok:(X.wish E).Ok):X.Ok :=
 ⟨ok.mod,ok.kind,ok.glob,ok.blt,ok.above,ok.inj,ok.has,ok.cab,ok.hd,ok.frames,ok.stk,ok.exf,ok.bs,ok.bsz,ok.noex,ok.exfs,ok.funs,ok.frf⟩
section
variable{X:Cx}{pins:List (Addr × Obj)}{σ:St}{H:Hp}{s:Shared}{E:Value->Shared->Prop}
theorem cB.wish(I:cB X pins σ H s)(E:Value->Shared->Prop):cB (X.wish E) pins σ H s:=⟨I.ok.wish E,I.os,I.bare,I.base,I.loc,I.cell,I.free,I.freeC,I.pin,I.hok,I.len⟩
theorem cB.unwish(I:cB (X.wish E) pins σ H s):cB X pins σ H s:=⟨I.ok.unwish,I.os,I.bare,I.base,I.loc,I.cell,I.free,I.freeC,I.pin,I.hok,I.len⟩
theorem SP.unwish{D:tU}{f:Flow}{s':Shared}(h:SP (X.wish E) pins D f s'):SP X pins D f s':=by
 cases f with
 | next=>obtain ⟨σ',H',I,q⟩:=h;exact ⟨σ',H',I.unwish,q⟩
 | brk=>obtain ⟨σ',H',I,q⟩:=h;exact ⟨σ',H',I.unwish,q⟩
 | cont=>obtain ⟨σ',H',I,q⟩:=h;exact ⟨σ',H',I.unwish,q⟩
 | ret u=>obtain ⟨v,σ',H',I,r,q⟩:=h;exact ⟨v,σ',H',I.unwish,r,q⟩
theorem GF.nox{st:List Stmt}{t:TS}(h:GF X.nox st t):GF X st t:=λpins s σ H D I hw =>
 wpAny_mono (h pins s σ H D (I.wish _) hw) (λ_ _ q=>q.unwish) λ_ _ z=>False.elim z
end
section
variable{X:Cx}{st:Stmt}{rest:List Stmt}{t u:TS}{e:Expr}{te:TE}{pos:Pos}
def WV:TS:=λD σ H=>D.nx σ H
def aBt(t u:TS):TS:=λD σ H=>t { D with nx:=u D } σ H
theorem pss_nil:GF X [] WV:=λ_ _ σ H _ I h=>wpAny_execs_nil ⟨σ,H,I,h⟩
theorem NO(h1:PS X st t)(h2:GF X rest u):GF X (st::rest) (aBt t u):=by
 intro pins s σ H D I h;refine wpAny_execs_cons (thn (h1 pins s σ H { D with nx:=u D } I h) λf s1 q=>?_);cases f with
 | next =>
  obtain ⟨σ',H',I',q⟩:=q;exact h2 pins s1 σ' H' D I' q
 | ret v=>exact q
 | brk=>exact q
 | cont=>exact q
theorem TV(h1:PS X st t):GF X [st] t:=by
 intro pins s σ H D I h;refine wpAny_execs_cons (thn (h1 pins s σ H D I h) λf s1 q=>?_);cases f with
 | next=>exact wpAny_execs_nil q
 | ret v=>exact q
 | brk=>exact q
 | cont=>exact q
theorem cB.quiet{pins:List (Addr × Obj)}{σ:St}{H:Hp}{s:Shared}(I:cB X pins σ H s):interactive X.env=false:=by simp [interactive,I.ok.kind]
def WY(te:TE):TS:=λD σ H=>te σ H λ_ H1=>D.nx σ H1
theorem TW(he:PE X e te)(hs:swapsWith e none pos.line X.env=pure false:=by rfl):PS X (.Expr e pos) (WY te):=by
 intro pins s σ H D I h;exact wpAny_Expr_any (thn (he pins s σ H _ I h) λv s1 ⟨x,H1,I1,r1,q1⟩=>⟨σ,H1,I1,q1⟩) I.quiet hs
def aBu(te:TE):TS:=λD σ H=>te σ H D.rt
theorem aAe(he:PE X e te):PS X (.Return (some e) pos) (aBu te):=by
 intro pins s σ H D I h;exact wpAny_Return_some (thn (he pins s σ H _ I h) λv s1 ⟨x,H1,I1,r1,q1⟩=>⟨x,σ,H1,I1,r1,q1⟩)
def aBy(c:TT)(t u:TS):TS:=λD σ H=>c σ H λb H1=>if b=true then t D σ H1 else u D σ H1
theorem aBW{c:Expr}{a b:List Stmt}{tc:TT}(hc:PT X c tc)(ha:GF X a t)(hb:GF X b u):PS X (.If c a b pos) (aBy tc t u):=by
 intro pins s σ H D I h;refine wpAny_If (thn (hc pins s σ H _ I h) λd s1 ⟨H1,I1,q1⟩=>?_);cases d with
 | true=>exact ha pins s1 σ H1 D I1 q1
 | false=>exact hb pins s1 σ H1 D I1 q1
end
abbrev TG:=V->St->Hp->(St->Hp->Prop)->Prop
abbrev QR:=List V->St->Hp->(St->Hp->Prop)->Prop
def PG(X:Cx)(target:Expr)(t:TG):Prop :=
 ∀(pins:List (Addr × Obj)) (s:Shared) (σ:St) (H:Hp) (v:V) (u:Value) (Q:St->Hp->Prop),cB X pins σ H s->dH v u->t v σ H Q ->
  wpAny (model X.prog X.w) X.A (assign target X.env u) (λ_ s'=>∃σ' H',cB X pins σ' H' s'/\Q σ' H') X.xe s
def PGs(X:Cx)(ts:List Expr)(t:QR):Prop :=
 ∀(pins:List (Addr × Obj)) (s:Shared) (σ:St) (H:Hp) (vs:List V) (us:List Value) (Q:St->Hp->Prop),cB X pins σ H s->cO vs us->t vs σ H Q ->
  wpAny (model X.prog X.w) X.A (assignInOrder ((assignEach ts X.env).map (·.2)) us) (λ_ s'=>∃σ' H',cB X pins σ' H' s'/\Q σ' H') X.xe s
abbrev WE:=V->V->V->Hp->(Hp->Prop)->Prop
def aA8(X:Cx)(t:WE):Prop :=
 ∀(pins:List (Addr × Obj)) (s:Shared) (σ:St) (H:Hp) (o i v:V) (ov iv u:Value) (Q:Hp->Prop),cB X pins σ H s->dH o ov->dH i iv->dH v u->t o i v H Q ->
  wpAny (model X.prog X.w) X.A (setItem ov iv u) (λ_ s'=>∃H',cB X pins σ H' s'/\Q H') X.xe s
section
variable{X:Cx}{pos:Pos}
def yM(i:Nat):TG:=λv σ H Q=>Q (σ.set i (some v)) H
theorem UB{i:Nat}{x:Str}(hN:X.N.Nodup)(hi:X.N[i]?=some x)(hx:Loc X.env.scope x)(hf:X.fn x=true\/X.env.scope.names.lookup x=some .local:=by first | exact .inl rfl | exact .inr rfl | assumption):PG X (.Name x pos) (yM i):=by
 intro pins s σ H v u Q I r h;exact wpAny_assign_Name (nM I hN hi hx r (λs' I'=>⟨_,H,I',h⟩) hf)
def aAU:QR:=λvs σ H Q=>vs=[]/\Q σ H
def PB(t:TG)(u:QR):QR:=λvs σ H Q=>∃v r,vs=v::r/\t v σ H λσ' H'=>u r σ' H' Q
theorem pgs_nil:PGs X [] aAU:=by
 intro pins s σ H vs us Q I r h;obtain ⟨e,h⟩:=h;subst e;cases r;exact assignInOrder_nil ⟨σ,H,I,h⟩
theorem NT{e:Expr}{es:List Expr}{t:TG}{u:QR}(h1:PG X e t)(h2:PGs X es u)
  (hs:(assignEach (e::es) X.env).map (·.2)=assign e X.env::(assignEach es X.env).map (·.2):=by rfl):PGs X (e::es) (PB t u):=by
 intro pins s σ H vs us Q I r h;obtain ⟨v,vr,e1,h⟩:=h;subst e1;cases r with
 | cons r rr =>
  rw [hs];refine assignInOrder_cons (thn (h1 pins s σ H _ _ _ I r h) λ_ s1 ⟨σ1,H1,I1,q1⟩=>?_);exact h2 pins s1 σ1 H1 _ _ Q I1 rr q1
def aAT(K:PySem.W.Frag)(n:Nat)(t:QR):TG:=λv σ H Q=>∃a xs,v=.ref a/\fS K H a xs/\xs.length=n/\t xs σ H Q
theorem aAm{es:List Expr}{k:Nat}{t:QR}{n:Nat}(hc:X.calm=true)(h:PGs X es t)
  (hn:(assignEach es X.env).length=n:=by rfl) (hst:(assignEach es X.env).findIdx? (·.1)=none:=by rfl):PG X (.Tuple es k pos) (aAT X.K n t):=by
 intro pins s σ H v u Q I r hw;obtain ⟨a,xs,e1,hq,hl,hw⟩:=hw;subst e1;cases r;obtain ⟨its,rv,ht,hz⟩:=I.tuple hq;refine assign_Tuple_tuple (I.ok.hd hc) ht (by simp [hn,<-hl,rv.length]) hst λh' hx=>?_;have I1:cB X pins σ H { s with heap:=h' }:=I.kept (t':=s.toks) λb o e=>hx b o (cJ (bD e)) e;exact h pins _ σ H xs _ Q I1 (by simpa using rv) hw
def aCb(to ti:TE)(t:WE):TG:=λv σ H Q=>to σ H λo H1=>ti σ H1 λi H2=>t o i v H2 λH3=>Q σ H3
theorem aAn{o i:Expr}{to ti:TE}{t:WE}(ho:PE X o to)(hi:PE X i ti)(hs:aA8 X t)
  (ha:∀v,assign (.Subscript o i pos) X.env v=(do
   let ov <-holding [v] (eval o X.env)
   let iv <-holding [v,ov] (eval i X.env)
   standAt pos
   holding [v,ov,iv] (setItem ov iv v)
   release [v,ov,iv] []):=by intro _;rfl):PG X (.Subscript o i pos) (aCb to ti t):=by
 intro pins s σ H v u Q I r h;rw [ha];refine wpAny_bind (wpAny_holding (thn (ho pins s σ H _ I h) λov s1 ⟨x,H1,I1,r1,q1⟩=>?_));refine wpAny_bind (wpAny_holding (thn (hi pins s1 σ H1 _ I1 q1) λiv s2 ⟨y,H2,I2,r2,q2⟩=>?_));refine wpAny_bind (wpAny_standAt (wpAny_bind (wpAny_holding (thn (hs pins s2 σ H2 x y v ov iv u _ I2 r1 r2 r q2) λ_ s3 ⟨H3,I3,q3⟩=>?_))));exact wpAny_release ⟨σ,H3,I3,q3⟩
def SG(te:TE)(g:TG):TS:=λD σ H=>te σ H λx H1=>g x σ H1 D.nx
theorem aAj{tg e:Expr}{te:TE}{g:TG}(he:PE X e te)(hg:PG X tg g)(hs:swapsWithSole [tg] e pos.line X.env=pure false:=by rfl)(hw:swappedStores [tg] e X.env=pure none:=by rfl)
  (h1:(assignEach [tg] X.env).map (·.2)=[assign tg X.env]:=by rfl):PS X (.Assign [tg] e pos) (SG te g):=by
 intro pins s σ H D I h;refine wpAny_Assign_stores (thn (he pins s σ H _ I h) λv s1 ⟨x,H1,I1,r1,q1⟩=>?_) hs hw;rw [h1];exact thn (hg pins s1 σ H1 x v _ I1 r1 q1) λ_ s2 q=>q
theorem aAd{i:Nat}{x:Str}{e:Expr}{te:TE}{pos':Pos}(hN:X.N.Nodup)(hi:X.N[i]?=some x)(hx:Loc X.env.scope x)(he:PE X e te)(hs:swapsWith e (some (.Name x pos')) pos.line X.env=pure false:=by rfl)(hf:X.fn x=true\/X.env.scope.names.lookup x=some .local:=by first | exact .inl rfl | exact .inr rfl | assumption) :
  PS X (.Assign [.Name x pos'] e pos) (SG te (yM i)):=by
 intro pins s σ H D I h;refine wpAny_Assign_Name (thn (he pins s σ H _ I h) λv s1 ⟨y,H1,I1,r1,q1⟩=>?_) hs;exact nM I1 hN hi hx r1 (λs2 I2=>⟨_,H1,I2,q1⟩) hf
def aBv(i j:Nat)(ta:TA):TS:=λD σ H=>ta σ H λvs H1=>∃v w,vs=[v,w]/\D.nx ((σ.set i (some v)).set j (some w)) H1
theorem aAf{i j:Nat}{x y:Str}{a b:Expr}{ta:TA}{px py pt:Pos}{kt k2 pt2}(hc:X.calm=true)(hN:X.N.Nodup)(hi:X.N[i]?=some x)(hj:X.N[j]?=some y)(hij:i≠j)
  (hx:X.env.scope.names.lookup x=some .local) (hy:X.env.scope.names.lookup y=some .local) (ha:PA X [a,b] ta)
  (hw:swappedStores [.Tuple [.Name x px,.Name y py] kt pt] (.Tuple [a,b] k2 pt2) X.env=pure (some [x,y]))
  (hs:swapsWithSole [.Tuple [.Name x px,.Name y py] kt pt] (.Tuple [a,b] k2 pt2) pos.line X.env=pure false:=by rfl) :
  PS X (.Assign [.Tuple [.Name x px,.Name y py] kt pt] (.Tuple [a,b] k2 pt2) pos) (aBv i j ta):=by
 intro pins s σ H D I h;rw [exec_Assign_arm];refine wpAny_bind (wpAny_standAt ?_);rw [hs];refine wpAny_bind (wpAny_pure ?_);rw [if_neg Dd];refine wpAny_bind (Tuple_ (thn (ha _ pins s σ H _ I h) λus s1 ⟨vs,H1,I1,r1,q1⟩=>?_));obtain ⟨v,w,e1,q1⟩:=q1;subst e1;obtain ⟨u1,u2,rfl,rv,rw'⟩:∃u1 u2,us=[u1,u2]/\dH v u1/\dH w u2:=by
  cases r1 with
  | cons p q =>
   cases q with
   | cons p' q' =>
    cases q';exact ⟨_,_,rfl,p,p'⟩
 refine wpAny_newObj_type ?_ (by show 2<=sizeLine;decide);have I2:cB X pins σ H1 { s1 with heap:=s1.heap.push { cls:=.type "tuple",data:=.seq [u1,u2].toArray } }:=I1.kept (t':=s1.toks) λb o e=>aB _ e;rw [hw];refine wpAny_bind (wpAny_pure ?_);show wpAny (model X.prog X.w) X.A (do rule "assign.swapped-stores";let items <-unpackItems (.ref s1.heap.objs.size) 2 none;assignInOrder [λv=>bindName X.env y v,λv=>bindName X.env x v] items.reverse;pure Flow.next) _ _ _;refine wpAny_bind (wpAny_rule (wpAny_bind (unpackItems_tuple (items:=#[u1,u2]) (I.ok.hd hc) (IsTup.new s1.heap _) λh' hx'=>?_)));have I3:=I2.kept (h':=h') (t':=s1.toks) λb o e=>hx' b o (cJ (bD e)) e;show wpAny _ _ (assignInOrder [λv=>bindName X.env y v,λv=>bindName X.env x v] [u2,u1] >>= λ_=>pure Flow.next) _ _ _;refine wpAny_bind (assignInOrder_cons (wpAny_bindName (nM I3 hN hj (.inl hy) rw' (λs2 I4=>?_) (.inr hy))));refine assignInOrder_cons (wpAny_bindName (nM I4 hN hi (.inl hx) rv (λs3 I5=>assignInOrder_nil (wpAny_pure ?_)) (.inr hx)));rw [List.set_comm _ _ (Ne.symm hij)] at I5;exact ⟨_,H1,I5,q1⟩
end
section
variable{X:Cx}{pos:Pos}
def zX(c:TT)(tb:TS):TS:=λD σ H=>∃W:Nat->St->Hp->Prop,(∃m,W m σ H)/\∀m σ H,W m σ H ->
 c σ H λb H1=>if b=true then ∃N:St->Hp->Prop,(∀σ' H',N σ' H'->∃m',m' < m/\W m' σ' H')/\tb { D with nx:=N,ct:=N,bk:=D.nx } σ H1 else D.nx σ H1
theorem NP{c:Expr}{body:List Stmt}{tc:TT}{tb:TS}(hp:PassesOwn (model X.prog X.w) X.A X.env X.xe)(hc:PT X c tc)(hb:GF X body tb):PS X (.While c body [] pos) (zX tc tb):=by
 intro pins s σ H D I h;obtain ⟨W,⟨m0,w0⟩,turn⟩:=h;refine wpAny_While (codeAny_whileLoop (λn s'=>∃σ' H',cB X pins σ' H' s'/\W n σ' H') ?_ m0 ⟨σ,H,I,w0⟩);rintro n s1 ⟨σ1,H1,I1,w1⟩;refine wpAny_passesOwn hp (thn (hc pins s1 σ1 H1 _ I1 (turn n σ1 H1 w1)) λb s2 ⟨H2,I2,q2⟩=>?_);cases b with
 | true =>
  obtain ⟨N,hN,q2⟩:=q2;rw [if_pos rfl];refine wpAny_passesOwn hp (thn (hb pins s2 σ1 H2 _ I2 q2) λf s3 q3=>?_);cases f with
  | next =>
   obtain ⟨σ3,H3,I3,n3⟩:=q3;obtain ⟨m',hm,w3⟩:=hN σ3 H3 n3;exact ⟨m',hm,σ3,H3,I3,w3⟩
  | cont =>
   obtain ⟨σ3,H3,I3,n3⟩:=q3;obtain ⟨m',hm,w3⟩:=hN σ3 H3 n3;exact ⟨m',hm,σ3,H3,I3,w3⟩
  | brk=>exact q3
  | ret v=>exact q3
 | false =>
  rw [if_neg cA];exact wpAny_execs_nil ⟨σ1,H2,I2,q2⟩
end
structure It where
 go:Nat->Hp->Prop
 yld:Nat->Hp->V->Hp->Prop
 stop:Nat->Hp->Prop
def jQ(X:Cx)(pins:List (Addr × Obj))(H:Hp)(b:Addr):Prop :=
 H b=none/\b≠X.env.locals/\b ∉ X.fs/\(b∈X.ex\/X.s₀.heap.objs.size<=b)/\(∀x c,X.env.cells.lookup x=some c->c≠b)/\∀p∈X.pn++pins,p.1≠b
theorem cB.fpOk{X:Cx}{pins:List (Addr × Obj)}{σ:St}{H H':Hp}{s:Shared}{b:Addr}(I:cB X pins σ H s)(hb:s.heap.objs.size<=b)(hn:H' b=none):jQ X pins H' b:=by
 refine ⟨hn,Nat.ne_of_gt (aT I.lt hb),I.nofs hb,.inr (bC I.sz hb),λx c e z=>?_,λp hp z=>?_⟩
 ·obtain ⟨v,q⟩:=I.cell x c e;exact absurd (aT q.lt (by rw [z];exact hb)) (cQ _)
 ·exact absurd (aT (bD (I.pin p hp).1) (by rw [z];exact hb)) (cQ _)
structure GC(P:Program)(w:World)(K:PySem.W.Frag)(tg:Expr)(J:It)(fp:List Addr)(it:Addr)(tn:Nat->Heap->Prop):Prop where
 mem:it∈fp
 obj:∀i h,tn i h->∀b∈fp,∃o,h.get? b=some o/\∀v,o.data ≠ .cell v
 keep:∀i h h',tn i h->(∀b∈fp,∀o,h.get? b=some o->h'.get? b=some o)->tn i h'
 item:∀(X:Cx),X.prog=P->X.w=w->X.K=K->X.calm=true->∀(i:Nat) (pins:List (Addr × Obj)) (s:Shared) (σ:St) (H:Hp) (E:Value->Shared->Prop),cB X pins σ H s->(∀b∈fp,jQ X pins H b)->tn i s.heap->J.go i H ->
  wpAny (model P w) X.A (pyNext (.ref it)) (λr s1=>∃u,r=some u /\
   wpAny (model P w) X.A (letOwnedTupleGo tg (.ref it) u) (λ_ s2=>∃x H',cB X pins σ H' s2/\dH x u/\J.yld i H x H'/\tn (i+1) s2.heap/\∀b∈fp,H' b=none) E s1) E s
 done:∀(X:Cx),X.prog=P->X.w=w->X.K=K->X.calm=true->∀(i:Nat) (pins:List (Addr × Obj)) (s:Shared) (σ:St) (H:Hp) (E:Value->Shared->Prop),cB X pins σ H s->(∀b∈fp,jQ X pins H b)->tn i s.heap->J.stop i H ->
  wpAny (model P w) X.A (pyNext (.ref it)) (λr s1=>r=none/\cB X pins σ H s1) E s
 self:∀(A:Around) (i:Nat) (s:Shared) (Q:Value->Shared->Prop) (E:Value->Shared->Prop),tn i s.heap->Q (.ref it) s->wpAny (model P w) A (pyIter (.ref it)) Q E s
abbrev TI:=St->Hp->(It->Hp->Prop)->Prop
def PIE(X:Cx)(pins:List (Addr × Obj))(σ:St)(tg:Expr)(R:It->Hp->Prop)(itv:Value)(s2:Shared):Prop :=
 ∃(it:Addr) (fp:List Addr) (tn:Nat->Heap->Prop) (J:It) (H':Hp),itv=.ref it/\cB X pins σ H' s2/\GC X.prog X.w X.K tg J fp it tn/\tn 0 s2.heap/\(∀b∈fp,jQ X pins H' b)/\R J H'
def PI(X:Cx)(tg iter:Expr)(wi:TI):Prop :=
 ∀(pins:List (Addr × Obj)) (s:Shared) (σ:St) (H:Hp) (R:It->Hp->Prop),cB X pins σ H s->wi σ H R ->
  wpAny (model X.prog X.w) X.A (eval iter X.env) (λv s1=>wpAny (model X.prog X.w) X.A (pyIter v) (PIE X pins σ tg R) X.xe s1) X.xe s
theorem OY{M:Model}{A:Around}{E:Value->Shared->Prop}{s:Shared}{tg:Expr}{it:Addr}{u:Value}{o:Obj}{n:String}{vs:Array Value}{Q:Unit->Shared->Prop}(ho:s.heap.get? it=some o)(hc:o.cls=.type n)(hd:o.data=.fields vs)
    (hn:["enumerate","zip","dict_itemiterator","dict_reverseitemiterator","odict_iterator","itertools.zip_longest","itertools.pairwise"].contains n=false) (hQ:Q () s):wpAny M A (letOwnedTupleGo tg (.ref it) u) Q E s:=by
  unfold letOwnedTupleGo;cases tg <;> first
    | exact wpAny_pure hQ
    | (cases u <;> first
        | exact wpAny_pure hQ
        | (refine wpAny_bind (wpAny_load ho ?_)
           rw [hc,hd];show wpAny M A (if (["enumerate","zip","dict_itemiterator","dict_reverseitemiterator","odict_iterator","itertools.zip_longest","itertools.pairwise"].contains n&&vs[0]? == some (rawInt _))=true then _ else _) Q E s;rw [if_neg (by intro h;rw [hn,Bool.false_and] at h;cases h)];exact wpAny_pure hQ))
def WN(K:PySem.W.Frag)(a:Addr):It :=
 ⟨λi H=>∃xs x,fT K H a xs/\xs[i]?=some x,λi H x H'=>H'=H/\∀xs,fT K H a xs->xs[i]?=some x,λi H=>∃xs,fT K H a xs/\xs.length<=i⟩
def YF(K:PySem.W.Frag)(a:Addr):It :=
 ⟨λi H=>∃xs x,fS K H a xs/\xs[i]?=some x,λi H x H'=>H'=H/\∀xs,fS K H a xs->xs[i]?=some x,λi H=>∃xs,fS K H a xs/\xs.length<=i⟩
def RI(lo:Int)(n:Nat):It:=⟨λi _=>i<n,λi H x H'=>H'=H/\x=.int (lo+i),λi _=>n<=i⟩
theorem JB{P:Program}{w:World}{K:PySem.W.Frag}{tg:Expr}(a it:Addr):GC P w K tg (WN K a) [it] it (λi h=>h.IsListIter it a i) where
 mem:=by simp
 obj:=λi h st b hb=>by
  have e:b=it:=by simpa using hb
  subst e;obtain ⟨o,e,c,d⟩:=st;exact ⟨o,e,λv z=>by rw [d] at z;cases z⟩
 keep:=λi h h' st k=>st.at λo e=>k it (by simp) o e
 item:=by
  intro X hP hw hK hc i pins s σ H E I hf st hg;subst hP hw hK;obtain ⟨xs,x,hq,hx⟩:=hg;obtain ⟨its,rv,p,hz⟩:=I.list hq;obtain ⟨u,hu,ru⟩:=rv.get hx;obtain ⟨f0,f1,f2,f3,f4,f5⟩:=hf it (by simp);refine wpAny_pyNext_list_item st p.isList (x:=u) (by simpa using hu) λh' st' sb=>?_;have I1:cB X pins σ H { s with heap:=h' }:=I.turned (t':=s.toks) (λb o hb e=>(sb.2 b hb).trans e) f0 f1 f3 f4 f5;obtain ⟨o,e,c,d⟩:=id st';exact ⟨u,rfl,OY (s:={ s with heap:=h' }) e c d Dd ⟨x,H,I1,ru,⟨rfl,λys hy=>by rw [I.list_inj hy hq];exact hx⟩,st',λb hb=>(hf b hb).1⟩⟩
 done:=by
  intro X hP hw hK hc i pins s σ H E I hf st hg;subst hP hw hK;obtain ⟨xs,hq,hx⟩:=hg;obtain ⟨its,rv,p,hz⟩:=I.list hq;obtain ⟨f0,f1,f2,f3,f4,f5⟩:=hf it (by simp);have hl:=rv.length;exact wpAny_pyNext_list_end (I.ok.hd hc) st p.isList (by simp;omega) λh' eb=>⟨rfl,I.turned (t':=s.toks) (λb o hb e=>eb b o hb e) f0 f1 f3 f4 f5⟩
 self:=λ_ _ _ _ _ st h=>wpAny_pyIter_listiter st h
theorem EH{P:Program}{w:World}{K:PySem.W.Frag}{tg:Expr}(a it:Addr):GC P w K tg (YF K a) [it] it (λi h=>h.IsTupleIter it a i) where
 mem:=by simp
 obj:=λi h st b hb=>by
  have e:b=it:=by simpa using hb
  subst e;obtain ⟨o,e,c,d⟩:=st;exact ⟨o,e,λv z=>by rw [d] at z;cases z⟩
 keep:=λi h h' st k=>st.at λo e=>k it (by simp) o e
 item:=by
  intro X hP hw hK hc i pins s σ H E I hf st hg;subst hP hw hK;obtain ⟨xs,x,hq,hx⟩:=hg;obtain ⟨its,rv,p,hz⟩:=I.tuple hq;obtain ⟨u,hu,ru⟩:=rv.get hx;obtain ⟨f0,f1,f2,f3,f4,f5⟩:=hf it (by simp);refine wpAny_pyNext_tuple_item st (show s.heap.IsTuple a its.toArray from p) (x:=u) (by simpa using hu) λh' st' sb=>?_;have I1:cB X pins σ H { s with heap:=h' }:=I.turned (t':=s.toks) (λb o hb e=>(sb.2 b hb).trans e) f0 f1 f3 f4 f5;obtain ⟨o,e,c,d⟩:=id st';exact ⟨u,rfl,OY (s:={ s with heap:=h' }) e c d Dd ⟨x,H,I1,ru,⟨rfl,λys hy=>by rw [I.tuple_inj hy hq];exact hx⟩,st',λb hb=>(hf b hb).1⟩⟩
 done:=by
  intro X hP hw hK hc i pins s σ H E I hf st hg;subst hP hw hK;obtain ⟨xs,hq,hx⟩:=hg;obtain ⟨its,rv,p,hz⟩:=I.tuple hq;obtain ⟨f0,f1,f2,f3,f4,f5⟩:=hf it (by simp);have hl:=rv.length;exact wpAny_pyNext_tuple_end (I.ok.hd hc) st (show s.heap.IsTuple a its.toArray from p) (by simp;omega) λh' eb=>⟨rfl,I.turned (t':=s.toks) (λb o hb e=>eb b o hb e) f0 f1 f3 f4 f5⟩
 self:=λ_ _ _ _ _ st h=>wpAny_pyIter_tupleiter st h
theorem EI{P:Program}{w:World}{K:PySem.W.Frag}{tg:Expr}(it:Addr)(lo:Int)(n:Nat):GC P w K tg (RI lo n) [it] it (λi h=>IsRangeIter h it (lo+(i:Nat)*1) ((n:Int)-(i:Nat)) 1) where
 mem:=by simp
 obj:=λi h st b hb=>by
  have e:b=it:=by simpa using hb
  subst e;exact ⟨_,st,λv z=>by
   have z':Data.fields _=Data.cell v:=z;cases z'⟩
 keep:=λi h h' st k=>k it (by simp) _ st
 item:=by
  intro X hP hw hK hc i pins s σ H E I hf st hg;subst hP hw hK;obtain ⟨f0,f1,f2,f3,f4,f5⟩:=hf it (by simp);have W:=Walks.range (prog:=X.prog) (w:=X.w) (I.ok.hd hc) it lo 1 n;refine W.item i s _ _ hg st λv h' tk hv st' kk=>?_;obtain ⟨t,rfl⟩:=hv;have I1:cB X pins σ H { s with heap:=h',toks:=tk }:=I.turned (λb o hb e=>kk b o (by simpa using hb) e) f0 f1 f3 f4 f5;refine ⟨_,rfl,OY (s:={ s with heap:=h',toks:=tk }) (n := "range_iterator") st' rfl rfl Dd ⟨.int (lo+i),H,I1,⟨t,?_⟩,⟨rfl,rfl⟩,st',λb hb=>(hf b hb).1⟩⟩;rw [Int.mul_one]
 done:=by
  intro X hP hw hK hc i pins s σ H E I hf st hg;subst hP hw hK;obtain ⟨f0,f1,f2,f3,f4,f5⟩:=hf it (by simp);exact wpAny_pyNext_range_end (I.ok.hd hc) st (by have:n<=i:=hg;omega) λh' eb=>⟨rfl,I.turned (t':=s.toks) (λb o hb e=>eb b o hb e) f0 f1 f3 f4 f5⟩
 self:=λ_ _ _ _ _ st h=>wpAny_pyIter_rangeiter st h
section
variable{X:Cx}{tg:Expr}
def XT(K:PySem.W.Frag)(tl:TE):TI:=λσ H R=>tl σ H λx H1=>∃a,x=.ref a/\(∃xs,fT K H1 a xs)/\R (WN K a) H1
def aAR(K:PySem.W.Frag)(tl:TE):TI:=λσ H R=>tl σ H λx H1=>∃a,x=.ref a/\(∃xs,fS K H1 a xs)/\R (YF K a) H1
theorem UA{l:Expr}{tl:TE}(hl:PE X l tl):PI X tg l (XT X.K tl):=by
 intro pins s σ H R I h;refine thn (hl pins s σ H _ I h) λv s1 ⟨x,H1,I1,r1,q1⟩=>?_;obtain ⟨a,e,⟨xs,hq⟩,q⟩:=q1;subst e;cases r1;obtain ⟨its,rv,p,hz⟩:=I1.list hq;refine wpAny_pyIter_list p.isList ?_;refine ⟨s1.heap.objs.size,[s1.heap.objs.size],_,_,H1,rfl,I1.kept (t':=s1.toks) λb o e=>aB _ e,JB a _,⟨_,bA _ rfl,rfl,rfl⟩,λb hb=>?_,q⟩;have e:b=s1.heap.objs.size:=by simpa using hb
 subst e;exact I1.fpOk (aG _) (I1.hok.fresh (aG _))
theorem aAl{l:Expr}{tl:TE}(hl:PE X l tl):PI X tg l (aAR X.K tl):=by
 intro pins s σ H R I h;refine thn (hl pins s σ H _ I h) λv s1 ⟨x,H1,I1,r1,q1⟩=>?_;obtain ⟨a,e,⟨xs,hq⟩,q⟩:=q1;subst e;cases r1;obtain ⟨its,rv,p,hz⟩:=I1.tuple hq;refine wpAny_pyIter_tuple (show s1.heap.IsTuple a its.toArray from p) ?_;refine ⟨s1.heap.objs.size,[s1.heap.objs.size],_,_,H1,rfl,I1.kept (t':=s1.toks) λb o e=>aB _ e,EH a _,⟨_,bA _ rfl,rfl,rfl⟩,λb hb=>?_,q⟩;have e:b=s1.heap.objs.size:=by simpa using hb
 subst e;exact I1.fpOk (aG _) (I1.hok.fresh (aG _))
theorem NK{pins:List (Addr × Obj)}{σ:St}{H:Hp}{s:Shared}{R:It->Hp->Prop}{E:Value->Shared->Prop}{lo hi:Int}{t u v:Tok}{tk:Nat}(I:cB X pins σ H s)(h1:-(2^62)<=lo)(h2:lo<2^62)(h3:-(2^62)<=hi)(h4:hi<2^62)
  (q:R (RI lo (hi-lo).toNat) H):wpAny (model X.prog X.w) X.A (pyIter (.ref s.heap.objs.size)) (PIE X pins σ tg R) E { s with heap:=s.heap.push { cls:=.type "range",data:=.fields #[.int lo t,.int hi u,.int 1 v] },toks:=tk }:=by
 refine wpAny_pyIter_range (IsRange.new ..) (small_one h1 h2 h3 h4) ?_;have I1:cB X pins σ H { s with heap:=s.heap.push { cls:=.type "range",data:=.fields #[.int lo t,.int hi u,.int 1 v] },toks:=tk }:=I.kept λb o e=>aB _ e;refine ⟨(s.heap.push { cls:=.type "range",data:=.fields #[.int lo t,.int hi u,.int 1 v] }).objs.size,[(s.heap.push { cls:=.type "range",data:=.fields #[.int lo t,.int hi u,.int 1 v] }).objs.size],_,_,H,rfl,
  I1.kept (t':=tk) λb o e=>aB _ e,EI _ lo (hi-lo).toNat,?_,λb hb=>?_,q⟩
 ·have e1:lo+((0:Nat):Int)*1=lo:=by simp
  have e2:(((hi-lo).toNat:Nat):Int)-((0:Nat):Int)=Builtin.Range.rangeSize lo hi 1:=by rw [rangeSize_one];split <;> omega
  show IsRangeIter _ _ (lo+((0:Nat):Int)*1) ((((hi-lo).toNat:Nat):Int)-((0:Nat):Int)) 1;rw [e1,e2];exact bA _ rfl
 ·have e:b=(s.heap.push { cls:=.type "range",data:=.fields #[.int lo t,.int hi u,.int 1 v] }).objs.size:=by simpa using hb
  subst e;exact I1.fpOk (aG _) (I1.hok.fresh (aG _))
def XS(ta:TA):TI:=λσ H R=>ta σ H λvs H1=>∃j:Int,vs=[.int j]/\-(2^62)<=j/\j<2^62/\R (RI 0 j.toNat) H1
theorem JW{a:Expr}{ta:TA}{p pos:Pos}(hg:Gl X "range")(hm:X.mg "range" = none)(ha:PA X [a] ta)(hs:starEach [a] X.env=[(false,eval a X.env)]:=by rfl):PI X tg (.Call (.Name "range" p) [a] [] pos) (XS ta):=by
 intro pins s σ H R I h;refine Call_ (wH I hg hm boot_range (PyProof.Rows.callWith_type1 (thn (ha pos pins s σ H _ I h) λus s1 ⟨vs,H1,I1,r1,q1⟩=>?_) hs rfl));obtain ⟨j,e,q1,q2,q⟩:=q1;subst e;cases r1 with
 | cons r rr =>
  cases rr;obtain ⟨t,rfl⟩:=r;exact call_range_1 (NK I1 Oo Oo q1 q2 (by simpa using q))
def aBz(wi:TI)(g:TG)(tb:TS):TS:=λD σ H=>wi σ H λJ H1=>∃W:Nat->Nat->St->Hp->Prop,(∃m,W 0 m σ H1)/\∀i m σ H,W i m σ H ->
 (J.stop i H/\D.nx σ H)\/(J.go i H/\∃N:St->Hp->Prop,(∀σ' H',N σ' H'->∃m',m' < m/\W (i+1) m' σ' H')/\∀x H',J.yld i H x H'->g x σ H' λσ2 H2=>tb { D with nx:=N,ct:=N,bk:=D.nx } σ2 H2)
def sX(fp:List Addr)(h:Heap):List (Addr × Obj):=fp.filterMap λb=>(h.get? b).map λo=>(b,o)
theorem jE{fp:List Addr}{h:Heap}{b:Addr}{o:Obj}(hb:b∈fp)(e:h.get? b=some o):(b,o)∈sX fp h:=List.mem_filterMap.mpr ⟨b,hb,by rw [e];rfl⟩
theorem KA{fp:List Addr}{h:Heap}{p:Addr × Obj}(hp:p∈sX fp h):p.1∈fp/\h.get? p.1=some p.2:=by
 obtain ⟨b,hb,e⟩:=List.mem_filterMap.mp hp;cases q:h.get? b with
 | none=>rw [q] at e;cases e
 | some o =>
  rw [q] at e;have e':(b,o)=p:=eU e;subst e';exact ⟨hb,q⟩
theorem cB.pinned{pins:List (Addr × Obj)}{σ:St}{H:Hp}{s:Shared}{fp:List Addr}(I:cB X pins σ H s)(hf:∀b∈fp,jQ X pins H b)(ho:∀b∈fp,∃o,s.heap.get? b=some o/\∀v,o.data ≠ .cell v):cB X (pins++sX fp s.heap) σ H s :=
 I.pins_of λp hp=>(dF.mp hp).elim (λz=>I.pin p (bE _ z)) λz=>by
  obtain ⟨hb,e⟩:=KA z;obtain ⟨f0,f1,f2,_⟩:=hf p.1 hb;obtain ⟨o,e',d⟩:=ho p.1 hb;rw [e] at e';cases e';exact ⟨e,f0,f1,f2,d⟩
theorem cB.unpinned{pins pl:List (Addr × Obj)}{σ:St}{H:Hp}{s:Shared}(I:cB X (pins++pl) σ H s):cB X pins σ H s:=I.pins_of λp hp=>I.pin p (bE _ (bQ _ hp))
theorem aAg{iter:Expr}{body:List Stmt}{wi:TI}{g:TG}{tb:TS}{pos:Pos}(hp:PassesOwn (model X.prog X.w) X.A X.env X.xe)(hc:X.calm=true)(hi:PI X tg iter wi)(hg:PG X tg g)(hb:GF X body tb)
  (hs:∀x,foldedSetIterable iter X.env x=pure x:=by intro _;rfl):PS X (.For tg iter body [] pos) (aBz wi g tb):=by
 intro pins s σ H D I h;refine wpAny_For (thn (hi pins s σ H _ I h) λv s1 h1=>thn h1 λitv s2 h2=>?_) hs;obtain ⟨it,fp,tn,J,H2,e,I2,T,st2,f2,W,⟨m0,w0⟩,turn⟩:=h2;subst e;have stat:∀{H':Hp},(∀b∈fp,H' b=none)->∀b∈fp,jQ X pins H' b:=λhn b hb=>⟨hn b hb,(f2 b hb).2⟩;refine codeAny_forLoop_any (λn s'=>∃i σ' H',cB X pins σ' H' s'/\tn i s'.heap/\(∀b∈fp,H' b=none)/\W i n σ' H') ?_ m0 ⟨0,σ,H2,I2,st2,λb hb=>(f2 b hb).1,w0⟩;rintro n s3 ⟨i,σ3,H3,I3,st3,fr3,w3⟩;rcases turn i n σ3 H3 w3 with ⟨stop,qn⟩ | ⟨go,N,hN,step⟩
 ·refine wpAny_passesOwn hp (thn (T.done X rfl rfl rfl hc i pins s3 σ3 H3 X.xe I3 (stat fr3) st3 stop) λr s4 ⟨hr,I4⟩=>?_);subst hr;exact wpAny_execs_nil ⟨σ3,H3,I4,qn⟩
 ·refine wpAny_passesOwn hp (thn (T.item X rfl rfl rfl hc i pins s3 σ3 H3 X.xe I3 (stat fr3) st3 go) λr s4 ⟨u,hr,h4⟩=>?_);subst hr;refine wpAny_passesOwn hp (thn h4 λ_ s5 ⟨x,H5,I5,r5,y5,st5,fr5⟩=>?_);have I5':=I5.pinned (stat fr5) (T.obj _ _ st5);refine wpAny_passesOwn hp (thn (hg _ s5 σ3 H5 x u _ I5' r5 (step x H5 y5)) λ_ s6 ⟨σ6,H6,I6,q6⟩=>?_);refine wpAny_passesOwn hp (thn (hb _ s6 σ6 H6 _ I6 q6) λf s7 q7=>?_);have again:∀{σ7:St} {H7:Hp},cB X (pins++sX fp s5.heap) σ7 H7 s7->N σ7 H7->∃m,m<n/\∃i σ' H',cB X pins σ' H' s7/\tn i s7.heap/\(∀b∈fp,H' b=none)/\W i m σ' H':=λ{σ7 H7} I7 n7=>by
   obtain ⟨m',hm,w7⟩:=hN σ7 H7 n7;refine ⟨m',hm,i+1,σ7,H7,I7.unpinned,T.keep _ _ _ st5 λb hb o e=>(I7.pin (b,o) (bE _ (bE _ (jE hb e)))).1,λb hb=>?_,w7⟩;obtain ⟨o,e,d⟩:=T.obj _ _ st5 b hb;exact (I7.pin (b,o) (bE _ (bE _ (jE hb e)))).2.1
  cases f with
  | next=>obtain ⟨σ7,H7,I7,n7⟩:=q7;exact again I7 n7
  | cont=>obtain ⟨σ7,H7,I7,n7⟩:=q7;exact again I7 n7
  | brk=>obtain ⟨σ7,H7,I7,q7⟩:=q7;exact ⟨σ7,H7,I7.unpinned,q7⟩
  | ret v=>obtain ⟨x7,σ7,H7,I7,r7,q7⟩:=q7;exact ⟨x7,σ7,H7,I7.unpinned,r7,q7⟩
end
theorem rW{K:PySem.W.Frag}{a:Addr}{xs:List V}{g:TG}{tb:TS}{D:tU}{σ:St}{H:Hp}(Pv:Nat->St->Hp->Prop)(h0:Pv 0 σ H)(hl:∀i σ H,i<=xs.length->Pv i σ H->fT K H a xs)
  (hs:∀i x σ H,xs[i]?=some x->Pv i σ H->g x σ H λσ2 H2=>tb { D with nx:=Pv (i+1),ct:=Pv (i+1),bk:=D.nx } σ2 H2) (hd:∀σ H,Pv xs.length σ H->D.nx σ H) :
  ∃W:Nat->Nat->St->Hp->Prop,(∃m,W 0 m σ H)/\∀i m σ H,W i m σ H ->
   ((WN K a).stop i H/\D.nx σ H)\/((WN K a).go i H/\∃N:St->Hp->Prop,(∀σ' H',N σ' H'->∃m',m' < m/\W (i+1) m' σ' H')/\∀x H',(WN K a).yld i H x H'->g x σ H' λσ2 H2=>tb { D with nx:=N,ct:=N,bk:=D.nx } σ2 H2):=by
 refine ⟨λi m σ H=>m=xs.length-i/\i<=xs.length/\Pv i σ H,⟨xs.length,by simp,cV _,h0⟩,?_⟩;rintro i m σ H ⟨rfl,hi,p⟩;have q:=hl i σ H hi p;by_cases hlt:i<xs.length
 ·refine .inr ⟨⟨xs,xs[i],q,by simp [hlt]⟩,Pv (i+1),λσ' H' p'=>⟨xs.length-(i+1),Oo,rfl,hlt,p'⟩,λx H' y=>?_⟩;obtain ⟨e,y⟩:=y;subst e;exact hs i x σ _ (y xs q) p
 ·have e:i=xs.length:=Oo;subst e;exact .inl ⟨⟨xs,q,aG _⟩,hd σ H p⟩
theorem VJ{K:PySem.W.Frag}{a:Addr}{xs:List V}{g:TG}{tb:TS}{D:tU}{σ:St}{H:Hp}(Pv:Nat->St->Hp->Prop)(h0:Pv 0 σ H)(hl:∀i σ H,i<=xs.length->Pv i σ H->fS K H a xs)
  (hs:∀i x σ H,xs[i]?=some x->Pv i σ H->g x σ H λσ2 H2=>tb { D with nx:=Pv (i+1),ct:=Pv (i+1),bk:=D.nx } σ2 H2) (hd:∀σ H,Pv xs.length σ H->D.nx σ H) :
  ∃W:Nat->Nat->St->Hp->Prop,(∃m,W 0 m σ H)/\∀i m σ H,W i m σ H ->
   ((YF K a).stop i H/\D.nx σ H)\/((YF K a).go i H/\∃N:St->Hp->Prop,(∀σ' H',N σ' H'->∃m',m' < m/\W (i+1) m' σ' H')/\∀x H',(YF K a).yld i H x H'->g x σ H' λσ2 H2=>tb { D with nx:=N,ct:=N,bk:=D.nx } σ2 H2):=by
 refine ⟨λi m σ H=>m=xs.length-i/\i<=xs.length/\Pv i σ H,⟨xs.length,by simp,cV _,h0⟩,?_⟩;rintro i m σ H ⟨rfl,hi,p⟩;have q:=hl i σ H hi p;by_cases hlt:i<xs.length
 ·refine .inr ⟨⟨xs,xs[i],q,by simp [hlt]⟩,Pv (i+1),λσ' H' p'=>⟨xs.length-(i+1),Oo,rfl,hlt,p'⟩,λx H' y=>?_⟩;obtain ⟨e,y⟩:=y;subst e;exact hs i x σ _ (y xs q) p
 ·have e:i=xs.length:=Oo;subst e;exact .inl ⟨⟨xs,q,aG _⟩,hd σ H p⟩
theorem gH{lo:Int}{n:Nat}{g:TG}{tb:TS}{D:tU}{σ:St}{H:Hp}(Pv:Nat->St->Hp->Prop)(h0:Pv 0 σ H)
  (hs:∀i σ H,i<n->Pv i σ H->g (.int (lo+i)) σ H λσ2 H2=>tb { D with nx:=Pv (i+1),ct:=Pv (i+1),bk:=D.nx } σ2 H2) (hd:∀σ H,Pv n σ H->D.nx σ H) :
  ∃W:Nat->Nat->St->Hp->Prop,(∃m,W 0 m σ H)/\∀i m σ H,W i m σ H ->
   ((RI lo n).stop i H/\D.nx σ H)\/((RI lo n).go i H/\∃N:St->Hp->Prop,(∀σ' H',N σ' H'->∃m',m' < m/\W (i+1) m' σ' H')/\∀x H',(RI lo n).yld i H x H'->g x σ H' λσ2 H2=>tb { D with nx:=N,ct:=N,bk:=D.nx } σ2 H2):=by
 refine ⟨λi m σ H=>m=n-i/\i<=n/\Pv i σ H,⟨n,by simp,cV _,h0⟩,?_⟩;rintro i m σ H ⟨rfl,hi,p⟩;by_cases hlt:i<n
 ·refine .inr ⟨hlt,Pv (i+1),λσ' H' p'=>⟨n-(i+1),Oo,rfl,hlt,p'⟩,λx H' y=>?_⟩;obtain ⟨e,y⟩:=y;subst e y;exact hs i σ _ hlt p
 ·have e:i=n:=Oo;subst e;exact .inl ⟨aG _,hd σ H p⟩
abbrev R2:=V->V->Hp->VK->Prop
def pI(X:Cx)(f:Value->Value->Sem Value)(r:R2):Prop :=
 ∀(pins:List (Addr × Obj)) (s:Shared) (σ:St) (H:Hp) (x y:V) (v u:Value) (Q:VK),cB X pins σ H s->dH x v->dH y u->r x y H Q ->
  wpAny (model X.prog X.w) X.A (f v u) (EP X pins σ Q) X.xe s
def UnR(X:Cx)(f:Value->Sem Value)(r:V->Hp->VK->Prop):Prop :=
 ∀(pins:List (Addr × Obj)) (s:Shared) (σ:St) (H:Hp) (x:V) (v:Value) (Q:VK),cB X pins σ H s->dH x v->r x H Q ->
  wpAny (model X.prog X.w) X.A (f v) (EP X pins σ Q) X.xe s
def gS(X:Cx)(f:Value)(r:List V->Hp->VK->Prop):Prop :=
 ∀(pins:List (Addr × Obj)) (s:Shared) (σ:St) (H:Hp) (xs:List V) (us:List Value) (Q:VK),cB X pins σ H s->cO xs us->r xs H Q ->
  wpAny (model X.prog X.w) X.A (call f us) (EP X pins σ Q) X.xe s
def SD(r:R2)(ta tb:TE):TE:=λσ H Q=>ta σ H λx H1=>tb σ H1 λy H2=>r x y H2 Q
def tUn(r:V->Hp->VK->Prop)(ta:TE):TE:=λσ H Q=>ta σ H λx H1=>r x H1 Q
def rI(C:Int->Int->Prop)(g:Int->Int->V):R2:=λx y H Q=>∃i j,x=.int i/\y=.int j/\C i j/\Q (g i j) H
def XH(g:Int->Int->V):R2:=λx y H Q=>∃i j,x=.int i/\y=.int j/\Q (g i j) H
def rU(g:Int->V):V->Hp->VK->Prop:=λx H Q=>∃i,x=.int i/\Q (g i) H
section
variable{X:Cx}{a b c:Expr}{ta tb tc:TE}{pos:Pos}
theorem aA3(ha:PE X a ta)(hb:PE X b tb){pins:List (Addr × Obj)}{s:Shared}{σ:St}{H:Hp}{R:V->V->Hp->Prop}(I:cB X pins σ H s)
  (h:ta σ H λx H1=>tb σ H1 λy H2=>R x y H2) {Q:Value->Shared->Prop} {f:Value->Value->Sem Value}
  (hf:∀v u s2 x y H2,cB X pins σ H2 s2->dH x v->dH y u->R x y H2->wpAny (model X.prog X.w) X.A (f v u) Q X.xe s2) :
  wpAny (model X.prog X.w) X.A (eval a X.env) (λv s₁=>wpAny (model X.prog X.w) X.A (eval b X.env) (λu s₂=>wpAny (model X.prog X.w) X.A (f v u) Q X.xe s₂) X.xe s₁) X.xe s:=by
 refine thn (ha pins s σ H _ I h) λv s1 ⟨x,H1,I1,r1,q1⟩=>?_;refine thn (hb pins s1 σ H1 _ I1 q1) λu s2 ⟨y,H2,I2,r2,q2⟩=>?_;exact hf v u s2 x y H2 I2 r1 r2 q2
theorem aBZ{op:Operator}{r:R2}(ho:pI X (binaryOp op) r)(ha:PE X a ta)(hb:PE X b tb):PE X (.BinOp a op b pos) (SD r ta tb):=by
 intro pins s σ H Q I h;exact wpAny_BinOp (aA3 ha hb I h λv u s2 x y H2 I2 rx ry q=>ho pins s2 σ H2 x y v u Q I2 rx ry q)
theorem aBY{op:UnaryOp}{r:V->Hp->VK->Prop}(ho:UnR X (unaryOp op) r)(ha:PE X a ta):PE X (.UnaryOp op a pos) (tUn r ta):=by
 intro pins s σ H Q I h;exact UnaryOp_ (thn (ha pins s σ H _ I h) λv s1 ⟨x,H1,I1,r1,q1⟩=>ho pins s1 σ H1 x v Q I1 r1 q1)
theorem opI{f:Value->Value->Sem Value}{C:Int->Int->Prop}{g:Int->Int->Int}
  (rule:∀(i j:Int) (t u:Tok) (s:Shared) (Q:Value->Shared->Prop) (E:Value->Shared->Prop),C i j->Q (.int (g i j) s.toks) { s with toks:=s.toks+1 }->wpAny (model X.prog X.w) X.A (f (.int i t) (.int j u)) Q E s) :
  pI X f (rI C λi j=>.int (g i j)):=by
 intro pins s σ H x y v u Q I rx ry h;obtain ⟨i,j,rfl,rfl,hc,q⟩:=h;obtain ⟨t,rfl⟩:=rx;obtain ⟨t',rfl⟩:=ry;exact rule i j t t' s _ _ hc ⟨.int (g i j),H,I.tok _,⟨_,rfl⟩,q⟩
theorem aB3{f:Value->Value->Sem Value}{g:Int->Int->Int}
  (rule:∀(i j:Int) (t u:Tok) (s:Shared) (Q:Value->Shared->Prop) (E:Value->Shared->Prop),Q (.int (g i j) s.toks) { s with toks:=s.toks+1 }->wpAny (model X.prog X.w) X.A (f (.int i t) (.int j u)) Q E s) :
  pI X f (XH λi j=>.int (g i j)):=by
 intro pins s σ H x y v u Q I rx ry h;obtain ⟨i,j,rfl,rfl,q⟩:=h;obtain ⟨t,rfl⟩:=rx;obtain ⟨t',rfl⟩:=ry;exact rule i j t t' s _ _ ⟨.int (g i j),H,I.tok _,⟨_,rfl⟩,q⟩
theorem UO{f:Value->Value->Sem Value}{g:Int->Int->Bool}
  (rule:∀(i j:Int) (t u:Tok) (s:Shared) (Q:Value->Shared->Prop) (E:Value->Shared->Prop),Q (.bool (g i j)) s->wpAny (model X.prog X.w) X.A (f (.int i t) (.int j u)) Q E s) :
  pI X f (XH λi j=>.bl (g i j)):=by
 intro pins s σ H x y v u Q I rx ry h;obtain ⟨i,j,rfl,rfl,q⟩:=h;obtain ⟨t,rfl⟩:=rx;obtain ⟨t',rfl⟩:=ry;exact rule i j t t' s _ _ ⟨.bl (g i j),H,I,rfl,q⟩
def aD2(i j:Int):Prop:=0<=j/\j<=1000000/\i.natAbs<2^64
theorem eV:pI X (binaryOp .Add) (XH λi j=>.int (i+j)):=aB3 λ_ _ _ _ _ _ _ q=>add_int q
theorem FK:pI X (binaryOp .Sub) (XH λi j=>.int (i-j)):=aB3 λ_ _ _ _ _ _ _ q=>sub_int q
theorem lH:pI X (binaryOp .Mod) (rI (λ_ j=>0<j) λi j=>.int (i % j)):=opI λi j _ _ _ _ _ hc q=>by
 have h1:(0:Int)<j:=hc;exact mod_int' Oo (by rw [Int.fmod_eq_emod_of_nonneg i Oo];exact q)
theorem FL:pI X (binaryOp .Pow) (rI aD2 λi j=>.int (i^j.toNat)):=opI λ_ _ _ _ _ _ _ hc q=>pow_int_small hc.1 hc.2.1 hc.2.2 q
theorem unI{f:Value->Sem Value}{g:Int->Int}
  (rule:∀(i:Int) (t:Tok) (s:Shared) (Q:Value->Shared->Prop) (E:Value->Shared->Prop),Q (.int (g i) s.toks) { s with toks:=s.toks+1 }->wpAny (model X.prog X.w) X.A (f (.int i t)) Q E s) :
  UnR X f (rU λi=>.int (g i)):=by
 intro pins s σ H x v Q I rx h;obtain ⟨i,rfl,q⟩:=h;obtain ⟨t,rfl⟩:=rx;exact rule i t s _ _ ⟨.int (g i),H,I.tok _,⟨_,rfl⟩,q⟩
theorem vF:UnR X (unaryOp .USub) (rU λi=>.int (-i)):=unI λ_ _ _ _ _ q=>neg_int q
end
def scal:V->V->Bool
 | .non,.non=>true | .non,.int _=>true | .int _,.non=>true | .non,.bl _=>true | .bl _,.non=>true | .non,.str _=>true | .str _,.non=>true
 | .int _,.int _=>true | .bl _,.bl _=>true | .str _,.str _=>true | .byt _,.byt _=>true
 | .int _,.str _=>true | .str _,.int _=>true | .bl _,.str _=>true | .str _,.bl _=>true
 | _,_=>false
def rEq:R2:=λx y H Q=>scal x y=true/\Q (.bl (decide (x=y))) H
def rNe:R2:=λx y H Q=>scal x y=true/\Q (.bl (!decide (x=y))) H
theorem IF{i j:Int}:decide (V.int i=V.int j)=(i == j):=by
 rw [Bool.eq_iff_iff];simp
theorem PN{i j:Bool}:decide (V.bl i=V.bl j)=(i == j):=by
 rw [Bool.eq_iff_iff];simp
theorem IE{i j:Str}:decide (V.str i=V.str j)=(i == j):=by
 rw [Bool.eq_iff_iff];simp
theorem IG{i j:Array UInt8}:decide (V.byt i=V.byt j)=(i.toList == j.toList):=by
 rw [Bool.eq_iff_iff];cases i;cases j;simp
section
variable{X:Cx}{a b c:Expr}{ta tb tc:TE}{pos:Pos}
theorem dX{pins:List (Addr × Obj)}{σ:St}{H:Hp}{s:Shared}{Q:VK}{k k':Bool}(I:cB X pins σ H s)(q:Q (.bl k) H)(e:k=k'):EP X pins σ Q (.bool k') s:=by
 subst e;exact ⟨.bl k,H,I,rfl,q⟩
theorem oI:pI X (compareOp .Eq) rEq:=by
 intro pins s σ H x y v u Q I rx ry h;obtain ⟨hs,q⟩:=h;cases x with
 | non =>
  cases rx;cases y with
  | non=>cases ry;exact PySem.EqNone.eq_none_none (dX I q (by simp))
  | bl j=>cases ry;exact PySem.EqNone.eq_none_bool (dX I q (by simp))
  | int j=>obtain ⟨t',rfl⟩:=ry;exact PySem.EqNone.eq_none_int (dX I q (by simp))
  | str j=>obtain ⟨t',rfl⟩:=ry;exact PySem.EqNone.eq_none_str (dX I q (by simp))
  | _=>exact absurd (show false=true from hs) cA
 | bl i =>
  cases rx;cases y with
  | non=>cases ry;exact PySem.EqNone.eq_bool_none (dX I q (by simp))
  | bl j=>cases ry;exact eq_bool (dX I q PN)
  | str j=>obtain ⟨t',rfl⟩:=ry;exact PySem.EqMixed.eq_bool_str (dX I q (by simp))
  | _=>exact absurd (show false=true from hs) cA
 | int i =>
  obtain ⟨t,rfl⟩:=rx;cases y with
  | non=>cases ry;exact PySem.EqNone.eq_int_none (dX I q (by simp))
  | int j=>obtain ⟨t',rfl⟩:=ry;exact eq_int (dX I q IF)
  | str j=>obtain ⟨t',rfl⟩:=ry;exact PySem.EqMixed.eq_int_str (dX I q (by simp))
  | _=>exact absurd (show false=true from hs) cA
 | str i =>
  obtain ⟨t,rfl⟩:=rx;cases y with
  | non=>cases ry;exact PySem.EqNone.eq_str_none (dX I q (by simp))
  | bl j=>cases ry;exact PySem.EqMixed.eq_str_bool (dX I q (by simp))
  | int j=>obtain ⟨t',rfl⟩:=ry;exact PySem.EqMixed.eq_str_int (dX I q (by simp))
  | str j=>obtain ⟨t',rfl⟩:=ry;exact eq_str (dX I q IE)
  | _=>exact absurd (show false=true from hs) cA
 | byt i =>
  obtain ⟨t,rfl⟩:=rx;cases y with
  | byt j=>obtain ⟨t',rfl⟩:=ry;exact PySem.W.eq_bytes (dX I q IG)
  | _=>exact absurd (show false=true from hs) cA
 | _=>cases y <;> exact absurd (show false=true from hs) cA
theorem vY:pI X (compareOp .NotEq) rNe:=by
 intro pins s σ H x y v u Q I rx ry h;obtain ⟨hs,q⟩:=h;cases x with
 | non =>
  cases rx;cases y with
  | non=>cases ry;exact PySem.EqNone.ne_none_none (dX I q (by simp))
  | bl j=>cases ry;exact PySem.EqNone.ne_none_bool (dX I q (by simp))
  | int j=>obtain ⟨t',rfl⟩:=ry;exact PySem.EqNone.ne_none_int (dX I q (by simp))
  | str j=>obtain ⟨t',rfl⟩:=ry;exact PySem.EqNone.ne_none_str (dX I q (by simp))
  | _=>exact absurd (show false=true from hs) cA
 | bl i =>
  cases rx;cases y with
  | non=>cases ry;exact PySem.EqNone.ne_bool_none (dX I q (by simp))
  | bl j=>cases ry;exact ne_bool (dX I q (congrArg not PN))
  | str j=>obtain ⟨t',rfl⟩:=ry;exact PySem.EqMixed.ne_bool_str (dX I q (by simp))
  | _=>exact absurd (show false=true from hs) cA
 | int i =>
  obtain ⟨t,rfl⟩:=rx;cases y with
  | non=>cases ry;exact PySem.EqNone.ne_int_none (dX I q (by simp))
  | int j=>obtain ⟨t',rfl⟩:=ry;exact ne_int (dX I q (congrArg not IF))
  | str j=>obtain ⟨t',rfl⟩:=ry;exact PySem.EqMixed.ne_int_str (dX I q (by simp))
  | _=>exact absurd (show false=true from hs) cA
 | str i =>
  obtain ⟨t,rfl⟩:=rx;cases y with
  | non=>cases ry;exact PySem.EqNone.ne_str_none (dX I q (by simp))
  | bl j=>cases ry;exact PySem.EqMixed.ne_str_bool (dX I q (by simp))
  | int j=>obtain ⟨t',rfl⟩:=ry;exact PySem.EqMixed.ne_str_int (dX I q (by simp))
  | str j=>obtain ⟨t',rfl⟩:=ry;exact ne_str (dX I q (congrArg not IE))
  | _=>exact absurd (show false=true from hs) cA
 | byt i =>
  obtain ⟨t,rfl⟩:=rx;cases y with
  | byt j=>obtain ⟨t',rfl⟩:=ry;exact PySem.W.ne_bytes (dX I q (congrArg not IG))
  | _=>exact absurd (show false=true from hs) cA
 | _=>cases y <;> exact absurd (show false=true from hs) cA
theorem OD:pI X (compareOp .Lt) (XH λi j=>.bl (decide (i<j))):=UO λ_ _ _ _ _ _ _ q=>lt_int q
theorem HM:pI X (compareOp .LtE) (XH λi j=>.bl (decide (i<=j))):=UO λ_ _ _ _ _ _ _ q=>le_int q
theorem CS:pI X (compareOp .Gt) (XH λi j=>.bl (decide (j<i))):=UO λ_ _ _ _ _ _ _ q=>gt_int q
theorem XL:pI X (compareOp .GtE) (XH λi j=>.bl (decide (j<=i))):=UO λ_ _ _ _ _ _ _ q=>ge_int q
theorem aAx:pI X (compareOp .Is) (λx y H Q=>y=.non/\Q (.bl (decide (x=.non))) H):=by
 intro pins s σ H x y v u Q I rx ry h;obtain ⟨rfl,q⟩:=h;cases ry;refine is_none_gen (dX I q ?_);cases x <;> first
  | (cases rx;rfl)
  | (obtain ⟨t,rfl⟩:=rx;rfl)
theorem nomark(b:Expr){op:CmpOp}(h:op ≠ .In:=by decide)(h2:op ≠ .NotIn:=by decide):behindInMarks op b=false:=by
 have e1:(op == CmpOp.In)=false:=by cases op <;> first | rfl | exact absurd rfl h
 have e2:(op == CmpOp.NotIn)=false:=by cases op <;> first | rfl | exact absurd rfl h2
 cases b <;> simp [behindInMarks,e1,e2]
theorem UI{op:CmpOp}{r:R2}(ho:pI X (compareOp op) r)(ha:PE X a ta)(hb:PE X b tb)(hm:behindInMarks op b=false):PE X (.Compare a [op] [b] pos) (SD r ta tb):=by
 intro pins s σ H Q I h;exact wpAny_Compare1 (aA3 ha hb I h λv u s2 x y H2 I2 rx ry q=>ho pins s2 σ H2 x y v u Q I2 rx ry q) hm
def WS(t:TE):TT:=λσ H Q=>t σ H λx H'=>∃k,x=.bl k/\Q k H'
theorem TU{op:CmpOp}{r:R2}(ho:pI X (compareOp op) r)(ha:PE X a ta)(hb:PE X b tb)(hm:behindInMarks op b=false):PT X (.Compare a [op] [b] pos) (WS (SD r ta tb)):=by
 intro pins s σ H Q I h;refine wpAny_isTrue_Compare1 (thn (ha pins s σ H _ I h) λv s1 ⟨x,H1,I1,r1,q1⟩=>thn (hb pins s1 σ H1 _ I1 q1) λu s2 ⟨y,H2,I2,r2,q2⟩ =>
  thn (ho pins s2 σ H2 x y v u _ I2 r1 r2 q2) λc s3 ⟨z,H3,I3,r3,k,e,q3⟩=>?_) hm
 subst e;cases r3;exact wpAny_truthy_bool ⟨H3,I3,q3⟩
def MO(r r':R2)(ta tb tc:TE):TE:=λσ H Q=>ta σ H λx H1=>tb σ H1 λy H2=>r x y H2 λz H3=>∃k,z=.bl k /\
 (if k=true then tc σ H3 λw' H4=>r' y w' H4 Q else Q (.bl false) H3)
theorem NY{op op':CmpOp}{r r':R2}(ho:pI X (compareOp op) r)(ho':pI X (compareOp op') r')(ha:PE X a ta)(hb:PE X b tb)(hc:PE X c tc)
  (hm:lastMarks [op,op'] [b,c]=false:=by with_unfolding_all rfl):PE X (.Compare a [op,op'] [b,c] pos) (MO r r' ta tb tc):=by
 intro pins s σ H Q I h;refine Compare_chain (thn (ha pins s σ H _ I h) λv s1 ⟨x,H1,I1,r1,q1⟩=>chain_link (thn (hb pins s1 σ H1 _ I1 q1) λu s2 ⟨y,H2,I2,r2,q2⟩ =>
  thn (ho pins s2 σ H2 x y v u _ I2 r1 r2 q2) λd s3 ⟨z,H3,I3,r3,k,e,q3⟩=>?_)) hm
 subst e;cases r3;refine wpAny_truthy_bool ?_;cases k with
 | false=>exact ite_ff ⟨.bl false,H3,I3,rfl,q3⟩
 | true=>exact ite_tt (chain_last (thn (hc pins s3 σ H3 _ I3 q3) λw' s4 ⟨z',H4,I4,r4,q4⟩=>ho' pins s4 σ H4 y z' u w' Q I4 r2 r4 q4))
theorem wE:(sizeLine:Nat)<2^63:=by rw [sizeLine_eq];decide
theorem kZ{x:V}{us:List Value}(r:cO [x] us):∃u,us=[u]/\dH x u:=by
 cases r with
 | cons r1 r2=>cases r2;exact ⟨_,rfl,r1⟩
theorem WQ{x y:V}{us:List Value}(r:cO [x,y] us):∃u w',us=[u,w']/\dH x u/\dH y w':=by
 cases r with
 | cons r1 r2 =>
  cases r2 with
  | cons r3 r4=>cases r4;exact ⟨_,_,rfl,r1,r3⟩
theorem QH:gS X (.builtin "abs") (λxs H Q=>∃i,xs=[.int i]/\Q (.int (if i<0 then -i else i)) H):=by
 intro pins s σ H xs us Q I r h;obtain ⟨i,rfl,q⟩:=h;obtain ⟨u,rfl,t,rfl⟩:=kZ r;exact call_abs_int λu tk=>⟨.int (if i<0 then -i else i),H,I.tok _,⟨_,rfl⟩,q⟩
theorem yV:gS X (.type "int") (λxs H Q=>(∃i,xs=[.int i]/\Q (.int i) H)\/∃k,xs=[.bl k]/\Q (.int (if k then 1 else 0)) H):=by
 intro pins s σ H xs us Q I r h;rcases h with ⟨i,rfl,q⟩ | ⟨k,rfl,q⟩
 ·obtain ⟨u,rfl,t,rfl⟩:=kZ r;exact call_int_int ⟨.int i,H,I,⟨_,rfl⟩,q⟩
 ·obtain ⟨u,rfl,r1⟩:=kZ r;cases r1;exact call_int_bool ⟨.int (if k then 1 else 0),H,I.tok _,⟨_,rfl⟩,q⟩
def aCp(K:PySem.W.Frag)(x:V)(H:Hp)(n:Nat):Prop :=
 match x with
 | .str y=>y.length<=sizeLine/\n=y.length
 | .byt y=>y.size<=sizeLine/\n=y.size
 | .ref p=>(∃xs,fT K H p xs/\n=xs.length)\/∃xs,fS K H p xs/\n=xs.length
 | _=>False
theorem QG:gS X (.builtin "len") (λxs H Q=>∃x n,xs=[x]/\aCp X.K x H n/\Q (.int n) H):=by
 intro pins s σ H xs us Q I r h;obtain ⟨x,n,rfl,e,q⟩:=h;obtain ⟨u,rfl,rx⟩:=kZ r;have hl:=wE;have hs:sizeLine=16777216:=sizeLine_eq;cases x with
 | str y =>
  obtain ⟨t,rfl⟩:=rx;obtain ⟨hy,e'⟩:y.length<=sizeLine/\n=y.length:=e;subst e';exact len_str Oo ⟨.int _,H,I.tok _,⟨_,rfl⟩,q⟩
 | byt y =>
  obtain ⟨t,rfl⟩:=rx;obtain ⟨hy,e'⟩:y.size<=sizeLine/\n=y.size:=e;subst e';exact PySem.W.len_bytes Oo ⟨.int _,H,I.tok _,⟨_,rfl⟩,q⟩
 | ref p =>
  cases rx;have e':(∃xs,fT X.K H p xs/\n=xs.length)\/∃xs,fS X.K H p xs/\n=xs.length:=e;rcases e' with ⟨xs,hx,e'⟩ | ⟨xs,hx,e'⟩
  ·subst e';obtain ⟨its,r',pl,hz⟩:=I.list hx;have hlen:=r'.length;exact Calls.call_len_list pl.isList (by simp only [aY];omega) ⟨.int xs.length,H,I.tok _,⟨_,by simp only [aY];rw [hlen]⟩,q⟩
  ·subst e';obtain ⟨its,r',pl,hz⟩:=I.tuple hx;have hlen:=r'.length;exact len_tuple pl (by simp only [aY];omega) ⟨.int xs.length,H,I.tok _,⟨_,by simp only [aY];rw [hlen]⟩,q⟩
 | _=>exact (show False from e).elim
end
structure GG(h:Heap)(x dx C:Addr)(mA:Str->Option Value):Prop where
 obj:h.get? x=some (PySem.W.instObj C dx)
 ns:h.Ns1 dx mA
 ne:dx≠x
theorem KB{h:Heap}{dx:Addr}{mA:Str->Option Value}(n:h.Ns1 dx mA):∃od,h.get? dx=some od/\∀name,PySem.W.lookIn name od=some (mA name):=by
 obtain ⟨o,es,ep,ho,hd,hk,_,hm⟩:=n;refine ⟨o,ho,λname=>?_⟩;have e:=hm name;unfold nsFind findBy at e;rw [<-Array.find?_toList] at e;unfold PySem.W.lookIn;rw [hd];dsimp only;split
 ·rename_i y q
  rw [q] at e;exact congrArg some e
 ·rename_i q
  rw [q] at e;have a:es.toList.any (·.refKey)=false:=by
   rw [List.any_eq_false];intro y hy;obtain ⟨z,t,hkey⟩:=hk y (Array.mem_toList_iff.mp hy);simp [DictEntry.refKey,hkey]
  have a':¬es.toList.any (·.refKey)=true:=by rw [a];exact cA
  rw [if_neg a'];exact congrArg some e
theorem GG.look{h:Heap}{x dx C:Addr}{mA:Str->Option Value}(I:GG h x dx C mA):∃od,PySem.W.InstAt h x (PySem.W.instObj C dx) C (some od)/\∀name,PySem.W.lookIn name od=some (mA name) :=
 let ⟨od,ho,hl⟩:=KB I.ns
 ⟨od,⟨I.obj,rfl,rfl,ho⟩,hl⟩
section
variable{prog:Program}{w:World}{A:Around}{E:Value->Shared->Prop}{s:Shared}{K:PySem.W.Frag}{x dx C f:Addr}{mA:Str->Option Value}{name:Str}{v:Value}
theorem VH{expr:Bool}{Q:Value->Shared->Prop}(X:K.In s.heap)(I:GG s.heap x dx C mA)(hg:PySem.W.plainGet K C name=true)(hh:PySem.W.hasDictIn K C=true)
  (ha:PySem.W.findIn K (.ref C) name=some none) (hv:mA name=some v) (hv':PySem.W.handedIn v=true) (h:Q v { s with toks:=s.toks+1 }) :
  wpAny (model prog w) A (getAttr (.ref x) name expr) Q E s:=by
 obtain ⟨od,J,hl⟩:=I.look;exact PySem.W.get_value X J (PySem.W.plainGet_of hg).1 (PySem.W.findObj_own hh ha rfl (by rw [hl,hv])) hv' h
theorem OZ{pl:Sem Bool}{Q:Value × List Value->Shared->Prop}(X:K.In s.heap)(I:GG s.heap x dx C mA)(hg:PySem.W.plainGet K C name=true)
  (hf:PySem.W.findIn K (.ref C) name=some (some (.ref f))) (ht:PySem.W.isFn K (.ref f)=true) (hv:mA name=none) (h:Q (.ref f,[.ref x]) s) :
  wpAny (model prog w) A (getMethod (.ref x) name pl) Q E s:=by
 obtain ⟨od,J,hl⟩:=I.look;exact PySem.W.method_fn X J (PySem.W.plainGet_of hg).1 (PySem.W.plainGet_of hg).2 hf (beq_iff_eq.mp ht) (by show (PySem.W.lookIn name od).map (·.isSome)=some false;rw [hl,hv];rfl) h
theorem SQ{ns:List Str}{Q:Unit->Shared->Prop}(X:K.In s.heap)(I:GG s.heap x dx C mA)
  (hs:PySem.W.findIn K (.ref C) "__setattr__" = some (some (.builtin "object.__setattr__"))) (hp:PySem.W.plainOver K C=true) (ht:PySem.W.takerIn K C name=some none) (hh:PySem.W.hasDictIn K C=true)
  (hw:PySem.Within mA ns) (hsz:ns.length<=sizeLine)
  (h:∀h',GG h' x dx C (λy=>if y=name then some v else mA y)->Heap.SameBut dx s.heap h'->Q () { s with heap:=h',toks:=s.toks+2 }) :
  wpAny (model prog w) A (setAttr (.ref x) name v) Q E s:=by
 obtain ⟨od,J,hl⟩:=I.look;refine PySem.W.set_plain X J hs (PySem.W.osa_open (s:={ s with toks:=s.toks+1 }) (r:=none) X J hp ht λb=>?_);obtain ⟨cd,hc,hd'⟩:=PySem.W.any_some hh;have hx:s.heap.get? x=some ⟨.ref C,some dx,.plain,#[]⟩:=I.obj;refine wpAny_bind (wpAny_pure (wpAny_bind (wpAny_bind (wpAny_loadPart hx (wpAny_bind (PySem.W.Looks.here (s:={ s with toks:=s.toks+1 }) (PySem.W.looks_clsIn X hc) ?_))))));rw [hd'];refine wpAny_pure (a:=some dx) (wpAny_bind (wpAny_pure (wpAny_bind ?_)));refine wpAny_nsSet1 (s:={ s with toks:=s.toks+1 }) I.ns λh' hn2 hs2=>?_;obtain ⟨oD,esD,epD,hoD,hdD,hcD⟩:=hn2.count (PySem.Within.cons name v hw);refine wpAny_bind (wpAny_lookBehind hoD (by rw [hdD];exact pastItsLine_dict (bC hcD (by rw [cF];omega))) ?_);exact wpAny_pure (h _ ⟨(hs2.2 _ (Ne.symm I.ne)).trans I.obj,hn2,I.ne⟩ hs2)
theorem OL{R:Result->Shared->Prop}{vs:List Value}{kw:List (Str × Value)}(X:K.In s.heap)(hm:PySem.W.makesIn K C=true)
  (hi:PySem.W.findIn K (.ref C) "__init__" = some (some (.ref f))) (hf:PySem.W.typeIn K (.ref f)=some (.type "function"))
  (h:codeAny (model prog w) (A.under (.builtin "type.__call__" ⟨.ref C::vs,kw⟩)) (.call (.ref f) ⟨.ref (s.heap.objs.size+1)::vs,kw⟩) (PySem.W.InitBack (s.heap.objs.size+1) R)
   { s with heap:=(s.heap.push PySem.W.emptyDict).push (PySem.W.instObj C s.heap.objs.size) }) :
  codeAny (model prog w) A (.call (.ref C) ⟨vs,kw⟩) R s:=by
 obtain ⟨hh,g,d,t,os⟩:=s;exact PySem.W.make_core (PySem.W.makes_of X hm) (PySem.W.looks_findIn X hi) (λself=>PySem.W.bind_fn X self hf) (.inl rfl) h
end
def iX(f:Str)(v:V):List (Str × V)->List (Str × V)
 | []=>[(f,v)]
 | (g,x)::r=>if g=f then (g,v)::r else (g,x)::iX f v r
theorem tZ(f g:Str)(v:V):∀fs:List (Str × V),(iX f v fs).lookup g=if g=f then some v else fs.lookup g
 | []=>by
  show List.lookup g [(f,v)]=_;by_cases h:g=f
  ·have hb:(g == f)=true:=beq_iff_eq.mpr h;simp only [List.lookup,hb,if_pos h]
  ·have hb:(g == f)=false:=beq_eq_false_iff_ne.mpr h;simp only [List.lookup,hb,if_neg h]
 | (k,x)::r=>by
  have ih:=tZ f g v r;rw [show iX f v ((k,x)::r)=(if k=f then (k,v)::r else (k,x)::iX f v r) from rfl];by_cases hk:k=f
  ·rw [if_pos hk];by_cases h:g=k
   ·have hb:(g == k)=true:=beq_iff_eq.mpr h;simp only [List.lookup,hb,if_pos (h.trans hk)]
   ·have hb:(g == k)=false:=beq_eq_false_iff_ne.mpr h;simp only [List.lookup,hb,if_neg (λe:g=f=>h (e.trans hk.symm))]
  ·rw [if_neg hk];by_cases h:g=k
   ·have hb:(g == k)=true:=beq_iff_eq.mpr h;simp only [List.lookup,hb,if_neg (λe:g=f=>hk (h.symm.trans e))]
   ·have hb:(g == k)=false:=beq_eq_false_iff_ne.mpr h;simp only [List.lookup,hb];exact ih
theorem tG(f:Str)(v:V):∀fs:List (Str × V),f∈(iX f v fs).map (·.1)/\∀g,g∈fs.map (·.1)->g∈(iX f v fs).map (·.1)
 | []=>⟨by simp [iX],λg h=>by simp at h⟩
 | (k,x)::r=>by
  obtain ⟨i1,i2⟩:=tG f v r;rw [show iX f v ((k,x)::r)=(if k=f then (k,v)::r else (k,x)::iX f v r) from rfl];by_cases hk:k=f
  ·rw [if_pos hk];subst hk;exact ⟨by simp,λg h=>by simpa using h⟩
  ·rw [if_neg hk];refine ⟨?_,λg h=>?_⟩
   ·rw [aW];exact aH _ i1
   ·rw [aW] at h ⊢;rcases aQ.mp h with e | e
    ·exact aQ.mpr (.inl e)
    ·exact aH _ (i2 g e)
theorem uB(f:Str)(v:V):∀fs:List (Str × V),(iX f v fs).length<=fs.length+1
 | []=>by simp [iX]
 | (k,x)::r=>by
  have ih:=uB f v r;rw [show iX f v ((k,x)::r)=(if k=f then (k,v)::r else (k,x)::iX f v r) from rfl];by_cases hk:k=f
  ·rw [if_pos hk,cF,cF];omega
  ·rw [if_neg hk,cF,cF];omega
theorem nG.some_of{v:V}{o:Option Value}(r:nG (some v) o):∃u,o=some u/\dH v u:=by
 cases o with
 | none=>exact (show False from r).elim
 | some u=>exact ⟨u,rfl,r⟩
theorem nG.none_of{o:Option Value}(r:nG none o):o=none:=by
 cases o with
 | none=>rfl
 | some u=>exact (show False from r).elim
theorem KM{v:V}{u:Value}(r:dH v u):PySem.W.handedIn u=true:=by
 cases v with
 | non=>cases (show u=Value.none from r);rfl
 | bl b=>cases (show u=Value.bool b from r);rfl
 | int i=>obtain ⟨t,e⟩:=(show ∃t,u=Value.int i t from r);cases e;rfl
 | str x=>obtain ⟨t,e⟩:=(show ∃t,u=Value.str x t from r);cases e;rfl
 | byt b=>obtain ⟨t,e⟩:=(show ∃t,u=Value.bytes b t from r);cases e;rfl
 | flt b=>obtain ⟨t,e⟩:=(show ∃t,u=Value.float b t from r);cases e;rfl
 | ref a=>cases (show u=Value.ref a from r);rfl
 | ty n=>cases (show u=Value.type n from r);rfl
section
variable{P:Program}{w:World}{H H':Hp}{h h':Heap}{a C dx:Addr}{fs fs':List (Str × V)}
theorem uT(hok:nC P w H h)(e:H a=some (.ins C dx fs)):∃mA,GG h a dx C mA/\(∀f,nG (fs.lookup f) (mA f))/\PySem.Within mA (fs.map (·.1))/\fs.length<=1000/\H dx=some (.own a):=by
 obtain ⟨d,z,ne,ob,mA,n,r,q⟩:=(show eE P w H h a (.ins C dx fs) from hok a _ e);exact ⟨mA,⟨ob,n,ne⟩,r,q,z,d⟩
end
structure IS(K:PySem.W.Frag)(C:Addr):Prop where
 pg:PySem.W.plainGet K C Str.empty=true
 hd:PySem.W.hasDictIn K C=true
 po:PySem.W.plainOver K C=true
 sa:PySem.W.findIn K (.ref C) "__setattr__" = some (some (.builtin "object.__setattr__"))
theorem IS.get{K:PySem.W.Frag}{C:Addr}(c:IS K C)(f:Str):PySem.W.plainGet K C f=true:=c.pg
def jU(K:PySem.W.Frag)(C:Addr)(f:Str):Prop:=PySem.W.findIn K (.ref C) f=some none
theorem jU.taker{K:PySem.W.Frag}{C:Addr}{f:Str}(n:jU K C f):PySem.W.takerIn K C f=some none:=by
 unfold PySem.W.takerIn;rw [show PySem.W.findIn K (.ref C) f=some none from n]
 rfl
structure WL(K:PySem.W.Frag)(C:Addr)(m:Str)(f:Addr):Prop where
 at_:PySem.W.findIn K (.ref C) m=some (some (.ref f))
 fn:PySem.W.isFn K (.ref f)=true
 kp:PySem.W.keepIn K (.ref f)=true
section
variable{X:Cx}{pins:List (Addr × Obj)}{σ:St}{H:Hp}{s:Shared}{a C dx:Addr}{fs:List (Str × V)}{f:Str}{v:V}{A:Around}{E:Value->Shared->Prop}
theorem FT{b:Bool}{Q:Value->Shared->Prop}(I:cB X pins σ H s)(e:H a=some (.ins C dx fs))(c:IS X.K C)(n:jU X.K C f)(l:fs.lookup f=some v)
  (h:∀u s',cB X pins σ H s'->dH v u->Q u s'):wpAny (model X.prog X.w) A (getAttr (.ref a) f b) Q E s:=by
 obtain ⟨mA,O,r,_,_,_⟩:=uT I.hok e;obtain ⟨u,hu,ru⟩:=nG.some_of (v:=v) (o:=mA f) (by rw [<-l];exact r f);exact VH I.kIn O (c.get f) c.hd n hu (KM ru) (h u _ (I.tok _) ru)
theorem wL{m:Str}{g:Addr}{pl:Sem Bool}{Q:Value × List Value->Shared->Prop}(I:cB X pins σ H s)(e:H a=some (.ins C dx fs))(c:IS X.K C)(k:WL X.K C m g)(l:fs.lookup m=none)
  (h:Q (.ref g,[.ref a]) s):wpAny (model X.prog X.w) A (getMethod (.ref a) m pl) Q E s:=by
 obtain ⟨mA,O,r,_,_,_⟩:=uT I.hok e;have hn:mA m=none:=nG.none_of (by rw [<-l];exact r m);exact OZ I.kIn O (c.get m) k.at_ k.fn hn h
theorem EX{y:V}{u:Value}{Q:Unit->Shared->Prop}(I:cB X pins σ H s)(e:H a=some (.ins C dx fs))(c:IS X.K C)(n:jU X.K C f)(hl:fs.length<1000)(ry:dH y u)
  (h:∀s',cB X pins σ (upd H a (.ins C dx (iX f y fs))) s'->Q () s'):wpAny (model X.prog X.w) A (setAttr (.ref a) f u) Q E s:=by
 obtain ⟨mA,O,r,wi,_,ho⟩:=uT I.hok e;have hz:(fs.map (·.1)).length<=sizeLine:=by rw [aA,sizeLine_eq];omega
 refine SQ I.kIn O c.sa c.po n.taker c.hd wi hz λh' O' sb=>h _ ?_;have hd:∃o,h'.get? dx=some o:=let ⟨o,_,_,e',_⟩:=O'.ns;⟨o,e'⟩;refine I.write (x:=a) (e:=dx) (by rw [e];exact True.intro) (.inr ho) (λb q hb z=>(sb.2 b hb).trans z) hd ?_;refine ⟨by rw [cL O.ne];exact ho,?_,O.ne,O'.obj,_,O'.ns,λg=>?_,λg hg=>?_⟩
 ·have:=uB f y fs;omega
 ·show nG ((iX f y fs).lookup g) (if g=f then some u else mA g);rw [tZ];by_cases q:g=f
  ·rw [if_pos q,if_pos q];exact ry
  ·rw [if_neg q,if_neg q];exact r g
 ·by_cases q:g=f
  ·rw [q];exact (tG f y fs).1
  ·refine (tG f y fs).2 g (wi g λz=>hg ?_);show (if g=f then some u else mA g)=none;rw [if_neg q];exact z
theorem cB.made(I:cB X pins σ H s):cB X pins σ (upd (upd H s.heap.objs.size (.own (s.heap.objs.size+1))) (s.heap.objs.size+1) (.ins C s.heap.objs.size []))
  { s with heap:=(s.heap.push PySem.W.emptyDict).push (PySem.W.instObj C s.heap.objs.size) }:=by
 have e1:(s.heap.push PySem.W.emptyDict).get? s.heap.objs.size=some PySem.W.emptyDict:=bA s.heap rfl;have e2:((s.heap.push PySem.W.emptyDict).push (PySem.W.instObj C s.heap.objs.size)).get? (s.heap.objs.size+1)=some (PySem.W.instObj C s.heap.objs.size):=by
  have:=bA (s.heap.push PySem.W.emptyDict) (o:=PySem.W.instObj C s.heap.objs.size) rfl
  rwa [fZ] at this
 have e3:(s.heap.push PySem.W.emptyDict).Ns s.heap.objs.size (λ_=>none):=⟨PySem.W.emptyDict,#[],_,e1,rfl,(λe he=>absurd he (by simp)),λ_=>rfl⟩;have I1:=I.laid (a:=s.heap.objs.size) (o:=.own (s.heap.objs.size+1)) (h':=s.heap.push PySem.W.emptyDict) (t':=s.toks) (λb u q=>aB _ q) (aG _) ⟨_,e1⟩;refine I1.laid (a:=s.heap.objs.size+1) (o:=.ins C s.heap.objs.size []) (t':=s.toks) (λb u q=>aB _ q) (Nat.le_of_eq (fZ _ _)) ?_;have ne:s.heap.objs.size≠s.heap.objs.size+1:=cJ (Nat.lt_succ_self _);refine ⟨by rw [cL ne,bJ],cV _,ne,e2,λ_=>none,(Heap.Ns1.of_empty e3).at λo q=>aB _ q,λ_=>True.intro,λy hy=>absurd rfl hy⟩
theorem WC{prog:Program}{w:World}{env:Env}{e:Expr}{f:Str}{pos:Pos}{s:Shared}{Q:Value->Shared->Prop}(hb:attributeBase e f env (eval e env)=eval e env)
  (h:wpAny (model prog w) A (eval e env) (λo s₁=>wpAny (model prog w) A (getAttr o f true) Q E s₁) E s):wpAny (model prog w) A (eval (.Attribute e f pos) env) Q E s :=
 Attribute_any_ h (by rw [arm_eval_Attribute,hb])
end
def aCH(K:PySem.W.Frag)(ta:TE)(f:Str):TE:=λσ H Q=>ta σ H λx H1=>∃a C dx fs v,x=.ref a/\H1 a=some (.ins C dx fs)/\IS K C/\jU K C f/\fs.lookup f=some v/\Q v H1
def aBI(K:PySem.W.Frag)(ta tv:TE)(f:Str):TS:=λD σ H=>tv σ H λy H1=>ta σ H1 λx H2=>∃a C dx fs,x=.ref a/\H2 a=some (.ins C dx fs)/\IS K C/\jU K C f/\fs.length<1000 /\
 D.nx σ (upd H2 a (.ins C dx (iX f y fs)))
section
variable{X:Cx}{o e value:Expr}{f:Str}{pos pos' tpos:Pos}{ta tv:TE}
theorem aAt(he:PE X e ta)(hb:attributeBase e f X.env (eval e X.env)=eval e X.env):PE X (.Attribute e f pos) (aCH X.K ta f):=by
 intro pins s σ H Q I h;refine WC hb (thn (he pins s σ H _ I h) λu s1 ⟨x,H1,I1,rx,a,C,dx,fs,v,ex,ea,c,n,l,q⟩=>?_);subst ex;obtain rfl:u=Value.ref a:=rx;exact FT I1 ea c n l λu' s2 I2 ru=>⟨v,H1,I2,ru,q⟩
theorem aAh(ha:PE X o ta)(hv:PE X value tv)(hs:swapsWith value (some (.Attribute o f pos')) pos.line X.env=pure false):PS X (.Assign [.Attribute o f pos'] value pos) (aBI X.K ta tv f):=by
 intro pins s σ H D I h;refine plainObj_wpAny_Assign_Attribute (thn (hv pins s σ H _ I h) λu s1 ⟨y,H1,I1,ry,q⟩=>thn (ha pins s1 σ H1 _ I1 q) λov s2 ⟨x,H2,I2,rx,a,C,dx,fs,ex,ea,c,n,l,q2⟩=>?_) hs;subst ex;obtain rfl:ov=Value.ref a:=rx;exact EX I2 ea c n l ry λs3 I3=>⟨σ,_,I3,q2⟩
end
section
variable{X:Cx}{pins:List (Addr × Obj)}{σ:St}{H:Hp}{s:Shared}{A:Around}{E:Value->Shared->Prop}{Q:Value->Shared->Prop}{c:Value}{b:Bool}
inductive tR (K:PySem.W.Frag) (H:Hp):V->Value->Prop where
 | non:tR K H .non (.type "NoneType")
 | bl (x:Bool):tR K H (.bl x) (.type "bool")
 | int (i:Int):tR K H (.int i) (.type "int")
 | str (x:Str):tR K H (.str x) (.type "str")
 | flt (x:UInt64):tR K H (.flt x) (.type "float")
 | lst {a:Addr} {xs:List V} (e:H a=some (.lst xs)):tR K H (.ref a) (.type "list")
 | frz {a:Addr} {o:Obj} {xs:List V} (e:H a=some (.frz o (.lst xs))):tR K H (.ref a) (.type "list")
 | tup {a:Addr} {xs:List V} (e:H a=some (.tup xs)):tR K H (.ref a) (.type "tuple")
 | dK {a:Addr} {kvs:List (eL × V)} (e:H a=some (.dK kvs)):tR K H (.ref a) (.type "dict")
 | dT {a:Addr} {kvs:List (List eL × V)} (e:H a=some (.dT kvs)):tR K H (.ref a) (.type "dict")
 | ins {a C dx:Addr} {fs:List (Str × V)} (e:H a=some (.ins C dx fs)) (cl:IS K C) (ha:PySem.W.findIn K (.ref C) "__class__" = some (some (.builtin "object.__class__")))
   (hn:PySem.W.specialIn K (.builtin "object.__class__") "__get__" = some (some (.builtin "getset_descriptor.__get__"))) (htk:PySem.W.takesIn K (.builtin "object.__class__")=some true)
   (hm:PySem.W.mroIn K C (.type "object")=some true):tR K H (.ref a) (.ref C)
theorem KJ{x:V}{u t:Value}(I:cB X pins σ H s)(rx:dH x u)(ty:tR X.K H x t)(e:PySem.W.kitOne X.K t c=some b)(h:∀tk,Q (.bool b) { s with toks:=tk }) :
  wpAny (model X.prog X.w) A (call (.builtin "isinstance") [u,c]) Q E s:=by
 cases ty with
 | non=>cases (show u=Value.none from rx);exact PySem.W.kia_one PySem.W.kitx_none I.kIn True.intro e (λz=>nomatch z) h
 | bl y=>cases (show u=Value.bool y from rx);exact PySem.W.kia_one PySem.W.kitx_bool I.kIn True.intro e (λz=>nomatch z) h
 | int i=>obtain ⟨t,q⟩:=(show ∃t,u=Value.int i t from rx);cases q;exact PySem.W.kia_one PySem.W.kitx_int I.kIn True.intro e (λz=>nomatch z) h
 | str y=>obtain ⟨t,q⟩:=(show ∃t,u=Value.str y t from rx);cases q;exact PySem.W.kia_one PySem.W.kitx_str I.kIn True.intro e (λz=>nomatch z) h
 | flt y=>obtain ⟨t,q⟩:=(show ∃t,u=Value.float y t from rx);cases q;exact PySem.W.kia_one PySem.W.kitx_float I.kIn True.intro e (λz=>nomatch z) h
 | @lst a xs ea =>
  cases (show u=Value.ref a from rx);obtain ⟨_,_,n,_,h1⟩:=(show eE X.prog X.w H s.heap a (.lst xs) from I.hok a _ ea);exact PySem.W.kia_one PySem.W.kitx_list I.kIn ⟨_,h1,rfl⟩ e (λz=>nomatch z) h
 | @frz a ob xs ea =>
  cases (show u=Value.ref a from rx);obtain ⟨_,_,_,n,_,h1⟩:=(show eE X.prog X.w H s.heap a (.frz ob (.lst xs)) from I.hok a _ ea);exact PySem.W.kia_one PySem.W.kitx_list I.kIn ⟨_,h1,rfl⟩ e (λz=>nomatch z) h
 | @tup a xs ea =>
  cases (show u=Value.ref a from rx);obtain ⟨_,_,_,p⟩:=(show eE X.prog X.w H s.heap a (.tup xs) from I.hok a _ ea);obtain ⟨o,h1,h2,_⟩:=p;exact PySem.W.kia_one PySem.W.kitx_tuple I.kIn ⟨o,h1,h2⟩ e (λz=>nomatch z) h
 | @dK a kvs ea =>
  cases (show u=Value.ref a from rx);obtain ⟨_,_,vs,_,p⟩:=(show eE X.prog X.w H s.heap a (.dK kvs) from I.hok a _ ea);obtain ⟨o,es,ep,h1,h2,_⟩:=p;exact PySem.W.kia_one PySem.W.kitx_dict I.kIn ⟨o,h1,h2.1⟩ e (λz=>nomatch z) h
 | @dT a kvs ea =>
  cases (show u=Value.ref a from rx);obtain ⟨_,_,xs,_,o,es,ep,h1,h2,_⟩:=(show eE X.prog X.w H s.heap a (.dT kvs) from I.hok a _ ea);exact PySem.W.kia_one PySem.W.kitx_dict I.kIn ⟨o,h1,h2.1⟩ e (λz=>nomatch z) h
 | @ins a C dx fs ea cl ha hn htk hm =>
  cases (show u=Value.ref a from rx);obtain ⟨mA,O,_⟩:=uT I.hok ea;obtain ⟨od,J,_⟩:=O.look;exact PySem.W.kia_one (PySem.W.kitx_own (cl.get _) cl.hd ha hn htk hm) I.kIn J e (λz=>nomatch z) h
end
structure gX(k:Nat)(A:Around):Prop where
 hd:A.handled=none
 dp:A.depth+3*k+5<recursionLimit
 un:A.units+16*k+200<cLine
 gd:A.guards=some []
theorem gX.mono{j k:Nat}{A:Around}(r:gX k A)(h:j<=k):gX j A:=⟨r.hd,by have:=r.dp;omega,by have:=r.un;omega,r.gd⟩
theorem gX.deeper{k:Nat}{A:Around}(r:gX (k+1) A)(env:Env):gX k (A.deeper env) :=
 ⟨r.hd,by have:=r.dp;show A.depth+1+3*k+5<_;omega,by have:=r.un;show A.units+3+16*k+200<_;omega,r.gd⟩
theorem FP{A:Around}{C:Addr}{us:List Value}{kw:List (Str × Value)}:(A.under (.builtin "type.__call__" ⟨.ref C::us,kw⟩)).depth=A.depth+1:=by
 first | rfl | simp [Around.under,Code.weight,Code.isCreation,Code.isGuard,Code.isCaller,Code.frames,Code.isFrame,guardIds]
theorem FO{A:Around}{C:Addr}{us:List Value}{kw:List (Str × Value)}:(A.under (.builtin "type.__call__" ⟨.ref C::us,kw⟩)).units=A.units+1:=by
 first | rfl | simp [Around.under,Code.cUnits,Code.frames,Code.isFrame]
theorem gX.make{k:Nat}{A:Around}(r:gX (k+1) A)(C:Addr)(us:List Value)(kw:List (Str × Value)):gX k (A.under (.builtin "type.__call__" ⟨.ref C::us,kw⟩)) :=
 ⟨r.hd,by have:=r.dp;rw [FP];omega,by have:=r.un;rw [FO];omega,by first | exact r.gd | (simpa [Around.under,Code.guards,Code.isGuard,guardIds,pushGuards] using r.gd)⟩
theorem gX.depth{k:Nat}{A:Around}(r:gX k A):A.depth<recursionLimit:=by have:=r.dp;omega
theorem gX.units{k:Nat}{A:Around}(r:gX k A):A.units+64<cLine:=by have:=r.un;omega
def SE:TA:=λ_ H Q=>Q [] H
def XB(ta:TE)(tr:TA):TA:=λσ H Q=>ta σ H λx H1=>tr σ H1 λxs H2=>Q (x::xs) H2
section
variable{X:Cx}{e:Expr}{es:List Expr}{te:TE}{t:TA}{pos:Pos}
theorem pa_nil:PA X [] SE:=λ_ _ _ _ H Q I h=>Calls.spliced_nil ⟨[],H,I,.nil,h⟩
theorem UL(ha:PE X e te)(hr:PA X es t)(hs:starEach (e::es) X.env=(false,eval e X.env)::starEach es X.env:=by rfl):PA X (e::es) (XB te t):=by
 intro pos pins s σ H Q I h;rw [hs];show wpAny _ _ (spliced ((false,eval e X.env)::backTo pos (starEach es X.env))) _ _ s;refine Calls.spliced_cons (thn (ha pins s σ H _ I h) λu s1 ⟨x,H1,I1,r1,q1⟩=>?_);exact thn (hr pos pins s1 σ H1 _ I1 q1) λus s2 ⟨xs,H2,I2,r2,q2⟩=>⟨x::xs,H2,I2,.cons r1 r2,q2⟩
def aCE(t:TA):TE:=λσ H Q=>t σ H λxs H1=>xs.length<=sizeLine/\∀p,H1 p=none->Q (.ref p) (upd H1 p (.tup xs))
def aCG(t:TA):TE:=λσ H Q=>t σ H λxs H1=>xs.length<=sizeLine/\∀p,H1 p=none->Q (.ref p) (upd H1 p (.lst xs))
theorem aAp{x1}(h:PA X es t):PE X (.Tuple es x1 pos) (aCE t):=by
 intro pins s σ H Q I hq;refine wpAny_Tuple_spliced (thn (h pos pins s σ H _ I hq) λus s1 ⟨xs,H1,I1,r,z,q⟩=>⟨by rw [<-r.length];exact z,?_⟩);have hf:H1 s1.heap.objs.size=none:=I1.hok.fresh (aG _);refine ⟨.ref s1.heap.objs.size,upd H1 s1.heap.objs.size (.tup xs),I1.laid (t':=s1.toks) (λb u e=>aB _ e) (aG _) ?_,rfl,q _ hf⟩;exact ⟨⟨z,_,bA _ rfl,rfl⟩,us,r,⟨_,bA _ rfl,rfl,_,rfl⟩⟩
theorem aAs(h:PA X es t):PE X (.List es pos) (aCG t):=by
 intro pins s σ H Q I hq;refine wpAny_List_spliced (thn (h pos pins s σ H _ I hq) λus s1 ⟨xs,H1,I1,r,z,q⟩=>⟨by rw [<-r.length];exact z,?_⟩);have hf:H1 s1.heap.objs.size=none:=I1.hok.fresh (aG _);refine ⟨.ref s1.heap.objs.size,upd H1 s1.heap.objs.size (.lst xs),I1.laid (t':=s1.toks) (λb u e=>aB _ e) (aG _) ?_,rfl,q _ hf⟩;exact ⟨z,us,0,r,bA _ rfl⟩
end
abbrev Sp:=List V->Hp->VK->XK->Prop
abbrev LN:=List Env->Hp->Shared->XK->Value->Shared->Prop
structure GI(P:Program)(w:World)(K:PySem.W.Frag)(mg:Str->Option Value)(base:Heap)(A:Around)(outer:List Env)(s:Shared)(H:Hp):Prop where
 frames:A.frames=some outer
 mod:Mod K mg base
 bs:∀b o,base.get? b=some o->s.heap.get? b=some o/\H b=none
 bsz:base.objs.size<=s.heap.objs.size
 funs:s.heap.FunFrames base outer
 frf:∀b∈frs outer,H b=none
 hok:nC P w H s.heap
 bare:AllBare s.gens
def CE(outer:List Env)(P:Program)(w:World)(H:Hp)(s:Shared)(Q:VK)(u:Value)(s':Shared):Prop :=
 ∃v H',s'.os=s.os/\AllBare s'.gens/\Un (frs outer) [] H H' s.heap s'.heap/\nC P w H' s'.heap/\dH v u/\Q v H'
def CR(CX:LN)(outer:List Env)(P:Program)(w:World)(H:Hp)(s:Shared)(Q:VK)(E:XK)(r:Result)(s':Shared):Prop :=
 match r with
 | .ok (.ret u)=>CE outer P w H s Q u s'
 | .ok _=>False
 | .error e=>CX outer H s E e s'
structure dI(P:Program)(w:World)(K:PySem.W.Frag)(mg:Str->Option Value)(base:Heap)(CX:LN)(k:Nat)(f:Addr)(fd:FuncData)(ps:List Str)(sp:Sp):Prop where
 len:∀vs H Q E,sp vs H Q E->vs.length=ps.length
 run:∀(A:Around) (outer:List Env) (s:Shared) (H:Hp) (args:Args) (us:List Value) (vs:List V) (Q:VK) (E:XK),gX k A->GI P w K mg base A outer s H->BindsTo s fd args (ps.zip us)->cO vs us->sp vs H Q E ->
  codeAny (model P w) A (.call (.ref f) args) (CR CX outer P w H s Q E) s
theorem GI.make{P:Program}{w:World}{K:PySem.W.Frag}{mg:Str->Option Value}{base:Heap}{A:Around}{outer:List Env}{s:Shared}{H:Hp}(e:GI P w K mg base A outer s H)(C:Addr)(us:List Value)(kw:List (Str × Value)) :
  GI P w K mg base (A.under (.builtin "type.__call__" ⟨.ref C::us,kw⟩)) outer s H:=⟨by first | exact e.frames | (simpa [Around.under,Code.envs,Code.isFrame,pushEnvs] using e.frames),e.mod,e.bs,e.bsz,e.funs,e.frf,e.hok,e.bare⟩
section
variable{X:Cx}{pins:List (Addr × Obj)}{σ:St}{H:Hp}{s s':Shared}
theorem cB.env0(I:cB X pins σ H s):GI X.prog X.w X.K X.mg X.base X.A X.stack s H :=
 ⟨I.ok.frames,I.ok.mod,I.bs,bC I.ok.bsz I.sz,I.stack,I.stkFree,I.hok,I.bare⟩
theorem cB.after{Q:VK}{u:Value}(I:cB X pins σ H s)(h:CE X.stack X.prog X.w H s Q u s'):EP X pins σ Q u s':=by
 obtain ⟨v,H',os,bare,un,hok,r,q⟩:=h;obtain ⟨hh,g,d,t,os'⟩:=s';obtain rfl:os'=s.os:=os;exact ⟨v,H',I.call (h':=hh) (g':=g) (d':=d) (t':=t) (ch:=[]) un hok bare (λb z=>absurd z (by simp)),r,q⟩
end
def MP(sp:Sp)(dvs:List V)(E:XK)(t:TA):TE:=λσ H Q=>t σ H λvs H1=>sp (vs++dvs) H1 Q E
def GU(C:Addr)(m:Str)(sp:Sp)(dvs:List V)(E:XK)(ta:TE)(t:TA):TE:=λσ H Q=>ta σ H λx H1=>∃a dx fs,x=.ref a/\H1 a=some (.ins C dx fs)/\fs.lookup m=none /\
 t σ H1 λvs H2=>sp (x::(vs++dvs)) H2 Q E
def WW(C:Addr)(sp:Sp)(dvs:List V)(E:XK)(t:TA):TE:=λσ H Q=>t σ H λvs H1=>∀x dx,H1 x=none->H1 dx=none->dx≠x ->
 sp (.ref x::(vs++dvs)) (upd (upd H1 dx (.own x)) x (.ins C dx [])) (λv H2=>v=.non/\Q (.ref x) H2) E
def nD(K:PySem.W.Frag)(fd:FuncData)(ps:List Str)(ds:List Value):Prop :=
 ∀(s:Shared) (us:List Value),K.In s.heap->(us++ds).length=ps.length->BindsTo s fd ⟨us,[]⟩ (ps.zip (us++ds))
theorem nD.all{K:PySem.W.Frag}{fd:FuncData}{ps:List Str}(h:∀us:List Value,us.length=ps.length->bindArgs fd ⟨us,[]⟩=pure (ps.zip us)):nD K fd ps []:=λs us _ hl=>by
 rw [List.append_nil] at hl ⊢;exact .of_eq (h us hl)
def qK(CX:LN)(X:Cx)(E:XK):Prop:=∀(pins:List (Addr × Obj)) (σ:St) (H:Hp) (s:Shared) (e:Value) (s':Shared),cB X pins σ H s->CX X.stack H s E e s'->X.xe e s'
section
variable{X:Cx}{CX:LN}{k:Nat}{f C:Addr}{fd:FuncData}{ps:List Str}{sp:Sp}{dvs:List V}{ds:List Value}{E:XK}{x m:Str}{p pos apos:Pos}{e o:Expr}{es:List Expr}{ta:TE}{t:TA}
theorem FC{pins:List (Addr × Obj)}{σ:St}{H:Hp}{s:Shared}{Q:VK}{us:List Value}{vs:List V}(F:dI X.prog X.w X.K X.mg X.base CX k f fd ps sp)(hr:gX k X.A)(hb:nD X.K fd ps ds)(hd:cO dvs ds)(hx:qK CX X E)
  (I:cB X pins σ H s) (r:cO vs us) (h:sp (vs++dvs) H Q E):wpAny (model X.prog X.w) X.A (call (.ref f) us) (EP X pins σ Q) X.xe s:=by
 have r2:cO (vs++dvs) (us++ds):=r.append hd;have hl:(us++ds).length=ps.length:=by rw [<-r2.length];exact F.len _ _ _ _ h
 refine wpAny_call (codeAny_mono (F.run X.A X.stack s H ⟨us,[]⟩ (us++ds) (vs++dvs) Q E hr I.env0 (hb s us I.kIn hl) r2 h) λr s' hq=>?_);cases r with
 | error e=>exact hx pins σ H s e s' I hq
 | ok fl =>
  cases fl with
  | ret u=>exact I.after hq
  | next=>exact False.elim hq
  | brk=>exact False.elim hq
  | cont=>exact False.elim hq
theorem UJ(F:dI X.prog X.w X.K X.mg X.base CX k f fd ps sp)(hr:gX k X.A)(hg:Gl X x)(hm:X.mg x=some (.ref f))(hk:PySem.W.keepIn X.K (.ref f)=true)(hb:nD X.K fd ps ds)(hd:cO dvs ds)(hx:qK CX X E)
  (ha:PA X (e::es) t) (hdb:(x == ("__debug__" : Str))=false:=by decide) (he:starEach (e::es) X.env=(false,eval e X.env)::starEach es X.env:=by rfl) (hpl:(backTo pos (starEach es X.env)).any (·.1)=false:=by rfl) :
  PE X (.Call (.Name x p) (e::es) [] pos) (MP sp dvs E t):=by
 intro pins s σ H Q I h;refine wpAny_Call_Name_kw (AX I hg hm ?_ hdb);refine PySem.W.callWith_K (h₀:=X.base) I.ok.mod.kin hk (thn (ha pos pins s σ H _ I h) λus s1 ⟨vs,H1,I1,r,q⟩=>⟨I1.kIn,?_⟩) he hpl;exact FC F hr hb hd hx I1 r q
theorem UC{pl:Sem Bool}(he:PE X o ta)(c:IS X.K C)(hm:WL X.K C m f)(F:dI X.prog X.w X.K X.mg X.base CX k f fd ps sp)(hr:gX k X.A)(hb:nD X.K fd ps ds)(hd:cO dvs ds)(hx:qK CX X E)(ha:PA X (e::es) t)
  (hst:starEach (e::es) X.env=(false,eval e X.env)::starEach es X.env:=by rfl) (hpl:(backTo pos (starEach es X.env)).any (·.1)=false:=by rfl)
  (ht:eval (.Call (.Attribute o m apos) (e::es) [] pos) X.env=(do
   let ov <-eval o X.env
   standAt apos.atName
   let (f,first) <-holding [ov] (getMethod ov m pl)
   callWith pos f first (backTo pos (starEach (e::es) X.env)) (backToKw pos (keywordEach [] X.env))):=by rfl) :
  PE X (.Call (.Attribute o m apos) (e::es) [] pos) (GU C m sp dvs E ta t):=by
 intro pins s σ H Q I h;refine PySem.W.methodCall_KW (pl:=pl) (thn (he pins s σ H _ I h) λu s1 ⟨x,H1,I1,rx,a,dx,fs,ex,ea,l,q⟩=>?_) ht;subst ex;obtain rfl:u=Value.ref a:=rx;refine wL I1 ea c hm l ?_;refine PySem.W.callWith_K (first:=[.ref a]) (h₀:=X.base) I.ok.mod.kin hm.kp (thn (ha pos pins s1 σ H1 _ I1 q) λus s2 ⟨vs,H2,I2,r,q2⟩=>⟨I2.kIn,?_⟩) hst hpl;exact FC (us:=.ref a::us) (vs:=.ref a::vs) F hr hb hd hx I2 (.cons rfl r) q2
theorem NV{pl:Sem Bool}(he:PE X o ta)(c:IS X.K C)(hm:WL X.K C m f)(F:dI X.prog X.w X.K X.mg X.base CX k f fd ps sp)(hr:gX k X.A)(hb:nD X.K fd ps ds)(hd:cO dvs ds)(hx:qK CX X E)
  (ht:eval (.Call (.Attribute o m apos) [] [] pos) X.env=(do
   let ov <-eval o X.env
   standAt apos.atName
   let (f,first) <-holding [ov] (getMethod ov m pl)
   callWith pos f first (backTo pos (starEach [] X.env)) (backToKw pos (keywordEach [] X.env))):=by rfl) :
  PE X (.Call (.Attribute o m apos) [] [] pos) (GU C m sp dvs E ta SE):=by
 intro pins s σ H Q I h;refine PySem.W.methodCall_KW (pl:=pl) (thn (he pins s σ H _ I h) λu s1 ⟨x,H1,I1,rx,a,dx,fs,ex,ea,l,q⟩=>?_) ht;subst ex;obtain rfl:u=Value.ref a:=rx;refine wL I1 ea c hm l ?_;exact PySem.W.callWith_K0 (first:=[.ref a]) I1.kIn hm.kp (FC (us:=[.ref a]) (vs:=[.ref a]) F hr hb hd hx I1 (.cons rfl .nil) q)
structure Mk(K:PySem.W.Frag)(C f:Addr):Prop where
 makes:PySem.W.makesIn K C=true
 init:PySem.W.findIn K (.ref C) "__init__" = some (some (.ref f))
 fn:PySem.W.isFn K (.ref f)=true
 kp:PySem.W.keepIn K (.ref C)=true
theorem ND{pins:List (Addr × Obj)}{σ:St}{H:Hp}{s:Shared}{Q:VK}{us:List Value}{vs:List V}(M:Mk X.K C f)(F:dI X.prog X.w X.K X.mg X.base CX k f fd ps sp)(hr:gX (k+1) X.A)(hb:nD X.K fd ps ds)(hd:cO dvs ds)
  (hx:qK CX X E) (I:cB X pins σ H s) (r:cO vs us)
  (h:∀x dx,H x=none->H dx=none->dx≠x->sp (.ref x::(vs++dvs)) (upd (upd H dx (.own x)) x (.ins C dx [])) (λv H2=>v=.non/\Q (.ref x) H2) E) :
  wpAny (model X.prog X.w) X.A (call (.ref C) us) (EP X pins σ Q) X.xe s:=by
 have hq:=h (s.heap.objs.size+1) s.heap.objs.size (I.hok.fresh (Nat.le_succ _)) (I.hok.fresh (aG _)) (cJ (Nat.lt_succ_self _));have I2:=cB.made (C:=C) I;have r2:cO (V.ref (s.heap.objs.size+1)::(vs++dvs)) (Value.ref (s.heap.objs.size+1)::(us++ds)):=.cons rfl (r.append hd);have hl:(Value.ref (s.heap.objs.size+1)::us++ds).length=ps.length:=by
  have e:=r2.length;rw [F.len _ _ _ _ hq] at e;exact e.symm
 refine wpAny_call (OL (f:=f) I.kIn M.makes M.init (beq_iff_eq.mp M.fn) (codeAny_mono (F.run _ X.stack _ _ ⟨Value.ref (s.heap.objs.size+1)::us,[]⟩ (Value.ref (s.heap.objs.size+1)::(us++ds)) _ _ E (hr.make C us [])
  (I2.env0.make C us []) (hb _ (Value.ref (s.heap.objs.size+1)::us) I2.kIn hl) r2 hq) λr s' hq'=>?_))
 cases r with
 | error e=>exact hx pins σ _ _ e s' I2 hq'
 | ok fl =>
  cases fl with
  | ret u =>
   obtain ⟨v,H',I3,rv,ev,q3⟩:=I2.after hq';subst ev;exact ⟨rv,⟨V.ref (s.heap.objs.size+1),H',I3,rfl,q3⟩⟩
  | next=>exact False.elim hq'
  | brk=>exact False.elim hq'
  | cont=>exact False.elim hq'
theorem UD(M:Mk X.K C f)(F:dI X.prog X.w X.K X.mg X.base CX k f fd ps sp)(hr:gX (k+1) X.A)(hg:Gl X x)(hm:X.mg x=some (.ref C))(hb:nD X.K fd ps ds)(hd:cO dvs ds)(hx:qK CX X E)
  (ha:PA X (e::es) t) (hdb:(x == ("__debug__" : Str))=false:=by decide) (he:starEach (e::es) X.env=(false,eval e X.env)::starEach es X.env:=by rfl) (hpl:(backTo pos (starEach es X.env)).any (·.1)=false:=by rfl) :
  PE X (.Call (.Name x p) (e::es) [] pos) (WW C sp dvs E t):=by
 intro pins s σ H Q I h;refine wpAny_Call_Name_kw (AX I hg hm ?_ hdb);refine PySem.W.callWith_K (h₀:=X.base) I.ok.mod.kin M.kp (thn (ha pos pins s σ H _ I h) λus s1 ⟨vs,H1,I1,r,q⟩=>⟨I1.kIn,?_⟩) he hpl;exact ND M F hr hb hd hx I1 r q
end
section
variable{X:Cx}{CX:LN}{k:Nat}{f C:Addr}{fd:FuncData}{ps ks:List Str}{sp:Sp}{E:XK}{x m:Str}{p pos apos kpos:Pos}{e o:Expr}{es:List Expr}{kws:List Keyword}{te ta:TE}{t tk:TA}{nm:Option Str}
variable{g:List Value->List Value->List Value}{gV:List V->List V->List V}
end
structure bR(N P:List Str)(sc:Scope):Prop where
 kind:sc.kind=.function
 co:sc.isCoroutine=false
 gen:sc.isGenerator=false
 nd:N.Nodup
 pre:N.take P.length=P
 par:∀x∈P,sc.names.lookup x=some .local\/sc.names.lookup x=some .cell
 nofree:∀y∈sc.names,y.2 ≠ .free
theorem yW{kindOf:Str->Option NameKind}{x:Str}:∀{binds:List (Str × Value)}{m:Str->Option Value},(∀v,(x,v) ∉ binds)->bindL kindOf binds m x=m x
 | [],_,_=>rfl
 | (n,v)::r,m,h=>by
  unfold bindL;rw [yW λw hw=>h w (aH _ hw)];split
  ·have:x≠n:=by rintro rfl;exact h v aN
   simp [this]
  ·rfl
theorem yY{kindOf:Str->Option NameKind}{x:Str}:∀{binds:List (Str × Value)}{m:Str->Option Value},(∀v,(x,v) ∉ binds)->bindC kindOf binds m x=m x
 | [],_,_=>rfl
 | (n,v)::r,m,h=>by
  unfold bindC;rw [yY λw hw=>h w (aH _ hw)];split
  ·rfl
  ·have:x≠n:=by rintro rfl;exact h v aN
   simp [this]
theorem yX{kindOf:Str->Option NameKind}{x:Str}{v:Value}:∀{P:List Str}{vs:List Value}{i:Nat}{m:Str->Option Value},P.Nodup->P[i]?=some x->vs[i]?=some v->kindOf x=some .local ->
  bindL kindOf (P.zip vs) m x=some v
 | [],_,_,_,_,h,_,_=>by simp at h
 | _::_,[],_,_,_,_,h,_=>by simp at h
 | p::P,w::vs,0,m,nd,h1,h2,hk=>by
  simp at h1 h2;subst h1;subst h2;show bindL kindOf ((p,w)::P.zip vs) m p=_;unfold bindL;rw [yW λv hv=>(List.nodup_cons.mp nd).1 (List.of_mem_zip hv).1,if_pos hk];simp
 | p::P,w::vs,i+1,m,nd,h1,h2,hk=>by
  show bindL kindOf ((p,w)::P.zip vs) m x=_;unfold bindL;exact yX (i:=i) (List.nodup_cons.mp nd).2 (by simpa using h1) (by simpa using h2) hk
theorem yZ{kindOf:Str->Option NameKind}{x:Str}{v:Value}:∀{P:List Str}{vs:List Value}{i:Nat}{m:Str->Option Value},P.Nodup->P[i]?=some x->vs[i]?=some v->kindOf x≠some .local ->
  bindC kindOf (P.zip vs) m x=some v
 | [],_,_,_,_,h,_,_=>by simp at h
 | _::_,[],_,_,_,_,h,_=>by simp at h
 | p::P,w::vs,0,m,nd,h1,h2,hk=>by
  simp at h1 h2;subst h1;subst h2;show bindC kindOf ((p,w)::P.zip vs) m p=_;unfold bindC;rw [yY λv hv=>(List.nodup_cons.mp nd).1 (List.of_mem_zip hv).1,if_neg hk];simp
 | p::P,w::vs,i+1,m,nd,h1,h2,hk=>by
  show bindC kindOf ((p,w)::P.zip vs) m x=_;unfold bindC;exact yZ (i:=i) (List.nodup_cons.mp nd).2 (by simpa using h1) (by simpa using h2) hk
def start(N:List Str)(vs:List V):St:=vs.map some++List.replicate (N.length-vs.length) none
def DL(CX:LN)(P:Program)(w:World)(K:PySem.W.Frag)(mg:Str->Option Value)(base:Heap)(N:List Str)(qual:Str)(scope:Scope)(f:Addr)(cd:Value)(A:Around)(outer:List Env)(s:Shared)(H:Hp)(E:XK):Cx where
 prog:=P
 w:=w
 K:=K
 mg:=mg
 base:=base
 A:=A.deeper (envOfC qual scope s.heap.objs.size f cd)
 N:=N
 s₀:=s
 H₀:=H
 env:=envOfC qual scope s.heap.objs.size f cd
 outer:=outer
 stack:=envOfC qual scope s.heap.objs.size f cd::outer
 ex:=[]
 calm:=true
 fn:=λ_=>true
 pn:=[]
 xe:=λe s'=>wpAny (model P w) (A.deeper (envOfC qual scope s.heap.objs.size f cd)) (leaving (envOfC qual scope s.heap.objs.size f cd) e) (λ_ s''=>CX outer H s E e s'') (λe' s''=>CX outer H s E e' s'') s'
theorem DU{sc:Scope}{n:Nat}{x:Str}(h:sc.names.lookup x=some .cell):∃c,(cellsFrom n sc.names []).lookup x=some c:=by
 have q:=PySem.W.cellsFrom_some sc.names n [] (.inl h);exact Option.isSome_iff_exists.mp q
theorem KK{CX:LN}{P:Program}{w:World}{K:PySem.W.Frag}{mg:Str->Option Value}{base:Heap}{N ps:List Str}{qual:Str}{scope:Scope}{f:Addr}{cd:Value}{A:Around}{outer:List Env}{s s1:Shared}{H:Hp}{E:XK}{us:List Value}{vs:List V}
  (S:bR N ps scope) (hd:A.handled=none) (e0:GI P w K mg base A outer s H) (hl:vs.length=ps.length) (r:cO vs us)
  (x:InCallC s s.heap.objs.size (bindL (envOfC qual scope s.heap.objs.size f cd).kindOf (ps.zip us) λ_=>none) (cellsFrom (s.heap.objs.size+1) scope.names []) (bindC (envOfC qual scope s.heap.objs.size f cd).kindOf (ps.zip us) λ_=>none) s1) :
  cB (DL CX P w K mg base N qual scope f cd A outer s H E) [] (start N vs) H s1:=by
 have hpl:ps.length<=N.length:=by have:=congrArg List.length S.pre;rw [bT] at this;omega
 obtain ⟨h1,tk,rfl,hk⟩:=x.done;have noA:∀b:Addr,b ∉ (DL CX P w K mg base N qual scope f cd A outer s H E).ex:=λb z=>absurd (show b∈([]:List Addr) from z) (by simp);refine ⟨⟨e0.mod,S.kind,rfl,rfl,aG _,λy z c h1 h2=>?_,λy hy=>?_,λy c _ h=>?_,λ_=>hd,Around.frames_deeper e0.frames,.inr ⟨rfl,rfl⟩,λb z=>absurd z (noA b),e0.bs,e0.bsz,λb _ _=>noA b,λb z=>absurd z (noA b),e0.funs,e0.frf⟩,
  rfl,e0.bare,Un.kept hk,⟨_,x.toInCall.ns,λi y v h1 h2 h3=>?_⟩,λy c h=>⟨_,x.cell y c h⟩,e0.hok.fresh (aG _),λy c h=>?_,λp hp=>absurd (show p∈([]:List (Addr × Obj)) from hp) (by simp),e0.hok.kept hk,?_⟩
 ·exact name_of_addr x.apart (PySem.mem_of_lookup h1) (PySem.mem_of_lookup h2)
 ·have hy:scope.names.lookup y=some .cell\/scope.names.lookup y=some .free:=hy;rcases hy with hy | hy
  ·exact DU hy
  ·exact absurd rfl (S.nofree _ (PySem.mem_of_lookup hy))
 ·exact Nat.le_of_lt (x.above y c (PySem.mem_of_lookup h))
 ·have hi:i<vs.length:=by
   unfold start at h2;by_cases hi:i<vs.length
   ·exact hi
   ·rw [List.getElem?_append_right (by simpa using hi)] at h2;rw [List.getElem?_replicate] at h2;split at h2 <;> cases h2
  have ha:vs[i]?=some v:=by
   unfold start at h2;rw [List.getElem?_append_left (by simpa using hi),aM] at h2;cases e:vs[i]? with
   | none=>rw [e] at h2;cases h2
   | some a=>rw [e] at h2;cases h2;rfl
  obtain ⟨u,hu,rv⟩:=r.get ha;have hp:ps[i]?=some y:=by
   rw [<-S.pre,List.getElem?_take_of_lt Oo];exact h1
  have ndP:ps.Nodup:=by rw [<-S.pre];exact S.nd.sublist (List.take_sublist _ _)
  refine ⟨u,rv,?_⟩;rcases S.par y (aR hp) with k | k
  ·exact .inl ⟨k,yX ndP hp hu k⟩
  ·obtain ⟨c,e⟩:=DU (n:=s.heap.objs.size+1) k;refine .inr ⟨.inl k,c,e,?_⟩;have q:=x.cell y c e;rw [yZ ndP hp hu (by show scope.names.lookup y≠_;rw [k];decide)] at q;exact q
 ·exact e0.hok.fresh (Nat.le_of_lt (x.above y c (PySem.mem_of_lookup h)))
 ·unfold start;show _=N.length;rw [bK,aA,dP];omega
theorem aCf{CX:LN}{P:Program}{w:World}{K:PySem.W.Frag}{mg:Str->Option Value}{base:Heap}{k:Nat}{f:Addr}{name qual:Str}{params:Arguments}{body:List Stmt}{scope:Scope}{dV kV doc pm cdv ct oc:Value}{an od:Option Addr}
  {osl:Array (Option Value)} {N ps:List Str} {sp:Sp} (lk:K.lookup f=some ⟨oc,od,.func (PySem.W.fnOf name qual params body scope dV kV doc pm an cdv ct),osl⟩) (hcd:PySem.W.codeIn K cdv qual=true) (S:bR N ps scope)
  (len:∀vs H Q E,sp vs H Q E->vs.length=ps.length)
  (hbody:∀(A:Around) (outer:List Env) (s:Shared) (H:Hp) (vs:List V) (Q:VK) (E:XK),gX k (A.deeper (envOfC qual scope s.heap.objs.size f cdv))->sp vs H Q E ->
   ∃t,GF (DL CX P w K mg base N qual scope f cdv A outer s H E) body t/\t { nx:=λ_ H'=>Q .non H',rt:=Q } (start N vs) H) :
  dI P w K mg base CX (k+1) f (PySem.W.fnOf name qual params body scope dV kV doc pm an cdv ct) ps sp:=by
 refine ⟨len,λA outer s H args us vs Q E hr e0 hb r hsp=>?_⟩;have hl:=len _ _ _ _ hsp;have KX:K.In s.heap:=e0.mod.kin.keeps λb o e=>(e0.bs b o e).1;have lim:s.heap.NoLimit:=e0.mod.nolimit.keeps λb o e=>(e0.bs b o e).1;have hkind:∀y∈ps.zip us,scope.names.lookup y.1=some .local\/(scope.names.lookup y.1=some .cell/\((cellsFrom (s.heap.objs.size+1) scope.names []).lookup y.1).isSome=true):=λ⟨n,v⟩ hy=>by
  rcases S.par n (List.of_mem_zip hy).1 with q | q
  ·exact .inl q
  ·exact .inr ⟨q,PySem.W.cellsFrom_some _ _ _ (.inl q)⟩
 refine codeAny_call_function hr.depth (KX _ _ lk) rfl S.co S.gen rfl (PySem.W.codeRec_of KX hcd) (hb _ _ _ _ ?_);refine wpAny_newFunctionEnv_cells S.kind hkind λenv he s1 x=>?_;subst he;refine ⟨lim.keeps x.toInCall.keep,codeAny_func ?_⟩;obtain ⟨t,ht,hq⟩:=hbody A outer s H vs Q E (hr.deeper _) hsp;have I:cB (DL CX P w K mg base N qual scope f cdv A outer s H E) [] (start N vs) H s1:=KK S hr.hd e0 hl r x;refine wpAny_mono (ht [] s1 (start N vs) H _ I hq) (λfl s' hs=>?_) λe s' hs=>hs;have fin:∀{σ':St} {H':Hp} {v:V} {u:Value},cB (DL CX P w K mg base N qual scope f cdv A outer s H E) [] σ' H' s'->dH v u->Q v H'->CE outer P w H s Q u s' :=
  λ{σ' H' v u} J rv q=>⟨v,H',J.os,J.bare,J.base,J.hok,rv,q⟩
 cases fl with
 | ret u =>
  obtain ⟨v,σ',H',J,rv,q⟩:=hs;exact fin J rv q
 | next =>
  obtain ⟨σ',H',J,q⟩:=hs;exact fin (v:=V.non) (u:=Value.none) J rfl q
 | brk =>
  obtain ⟨_,_,_,q⟩:=hs;exact False.elim q
 | cont =>
  obtain ⟨_,_,_,q⟩:=hs;exact False.elim q
section
variable{X:Cx}{x:Str}{p pos:Pos}{e:Expr}{es:List Expr}{t:TA}{id T:String}{r:List V->Hp->VK->Prop}
def tCB(r:List V->Hp->VK->Prop)(t:TA):TE:=λσ H Q=>t σ H λvs H1=>r vs H1 Q
theorem NZ(hc:gS X (.builtin id) r)(hg:Gl X x)(hm:X.mg x=none)(hv:bootBuiltins x=some (.builtin id))(ha:PA X (e::es) t)(hn:x ≠ "__name__" := by decide)(hdb:(x == ("__debug__" : Str))=false:=by decide)
  (he:starEach (e::es) X.env=(false,eval e X.env)::starEach es X.env:=by rfl) (hpl:(backTo pos (starEach es X.env)).any (·.1)=false:=by rfl):PE X (.Call (.Name x p) (e::es) [] pos) (tCB r t):=by
 intro pins s σ H Q I h;refine wpAny_Call_Name_kw (wH I hg hm hv ?_ hn hdb);exact PyProof.Rows.callWith_builtin1 (thn (ha pos pins s σ H _ I h) λus s1 ⟨vs,H1,I1,r1,q1⟩=>hc pins s1 σ H1 vs us Q I1 r1 q1) he hpl
theorem JX(hc:gS X (.type T) r)(hg:Gl X x)(hm:X.mg x=none)(hv:bootBuiltins x=some (.type T))(ha:PA X (e::es) t)(hn:x ≠ "__name__" := by decide)(hdb:(x == ("__debug__" : Str))=false:=by decide)
  (he:starEach (e::es) X.env=(false,eval e X.env)::starEach es X.env:=by rfl) (hpl:(backTo pos (starEach es X.env)).any (·.1)=false:=by rfl):PE X (.Call (.Name x p) (e::es) [] pos) (tCB r t):=by
 intro pins s σ H Q I h;refine wpAny_Call_Name_kw (wH I hg hm hv ?_ hn hdb);exact PyProof.Rows.callWith_type1 (thn (ha pos pins s σ H _ I h) λus s1 ⟨vs,H1,I1,r1,q1⟩=>hc pins s1 σ H1 vs us Q I1 r1 q1) he hpl
end
end L2
namespace HT
open PySem PyProof.Rows
section
open PySem.SeqAt
open PySem.AutoSeq1 (wpAny_loadPart')
open PySem.MeetsSeq PySem.MeetsSeq2 PySem.MeetsSeq3
end
section
variable{prog:Program}{w:World}{A:Around}{E:Value->Shared->Prop}{s:Shared}
theorem VU{t b:Addr}{vs ws:List Value}{Q:Value->Shared->Prop}(ht:IsTup s.heap t vs.toArray)(hb:IsTup s.heap b ws.toArray)(hv:vs≠[])
  (h1:ws=[]->Q (.ref t) s) (h2:ws≠[]->Q (.ref s.heap.objs.size) { s with heap:=s.heap.push { cls:=.type "tuple",data:=.seq (vs++ws).toArray } })
  (hsz:vs.length+ws.length<=sizeLine):wpAny (model prog w) A (binaryOp .Add (.ref t) (.ref b)) Q E s:=by
 obtain ⟨⟨cls,dd,data,sl⟩,ho,hc,n,hd⟩:=id ht;obtain ⟨⟨cls2,dd2,data2,sl2⟩,ho2,hc2,n2,hd2⟩:=id hb;simp only at hc hd hc2 hd2;subst hc hd hc2 hd2;have e:vs.toArray++ws.toArray=(vs++ws).toArray:=by simp
 by_cases hw:ws=[]
 ·exact concat_meets ⟨_,ho,rfl⟩ ⟨_,ho2,rfl⟩ noFill_tuple_add seq_tuple_add PySem.F.slot_tuple_add PySem.F.entry_tuple_add (PySem.F.args_tuple_add_2 _ _)
   (tuple_addW1 t b vs.toArray ws.toArray n n2 dd dd2 sl sl2 (by simpa using hv) (by simp [hw])) ⟨ho,ho2,h1 hw⟩
 ·refine concat_meets ⟨_,ho,rfl⟩ ⟨_,ho2,rfl⟩ noFill_tuple_add seq_tuple_add PySem.F.slot_tuple_add PySem.F.entry_tuple_add (PySem.F.args_tuple_add_2 _ _)
   (tuple_addW2 t b vs.toArray ws.toArray n n2 dd dd2 sl sl2 (by simpa using hv) (by simpa using hw) (by rw [aY,aY];exact hsz)) ⟨ho,ho2,?_⟩
  rw [e];exact h2 hw
def hJ(n d:Nat):Option Int->Nat
 | none=>d
 | some v=>if v<0 then (v+(n:Int)).toNat else min v.toNat n
theorem vS(n d:Nat):hJ n d none=d:=rfl
theorem AH(n d k:Nat):hJ n d (some (k:Int))=min k n:=by
 show (if (k:Int)<0 then ((k:Int)+(n:Int)).toNat else min (k:Int).toNat n)=min k n;rw [if_neg Oo,Int.toNat_natCast]
theorem ZW(n d:Nat)(hd:d<=n)(o:Option Int):hJ n d o<=n:=by
 cases o with
 | none=>exact hd
 | some v =>
  show (if v<0 then (v+(n:Int)).toNat else min v.toNat n)<=n;by_cases hv:v<0
  ·rw [if_pos hv];omega
  ·rw [if_neg hv];exact Nat.min_le_right _ _
theorem IL(v:Int)(n d:Nat):(if v<0 then max (v+(n:Int)) 0 else min v (n:Int))=((hJ n d (some v):Nat):Int):=by
 show (if v<0 then max (v+(n:Int)) 0 else min v (n:Int))=(((if v<0 then (v+(n:Int)).toNat else min v.toNat n):Nat):Int);by_cases hv:v<0
 ·simp only [if_pos hv];omega
 ·simp only [if_neg hv];omega
theorem GB(lo hi:Option Int)(n:Nat):Builtin.Slice.sliceAdjust lo hi 1 (n:Int)=(((hJ n 0 lo:Nat):Int),((hJ n n hi:Nat):Int)):=by
 have h1:¬((1:Int)<0):=Oo;unfold Builtin.Slice.sliceAdjust;simp only [h1,if_false];refine Prod.ext ?_ ?_
 ·cases lo with
  | none=>rfl
  | some v=>exact IL v n 0
 ·cases hi with
  | none=>rfl
  | some v=>exact IL v n n
theorem FH(i j:Nat):Builtin.Slice.slicePlaces (i:Int) (j:Int) 1=j-i:=by
 unfold Builtin.Slice.slicePlaces;have h1:(1:Int) > 0:=Oo;simp only [h1,if_true,Int.ediv_one];split <;> omega
theorem vR{v:Value}{o:Option Int}{Q:Option Int->Shared->Prop}(p:IsPart v o)(h:Q o s):wpAny (model prog w) A (Builtin.Slice.slicePartIndex v) Q E s:=by
 cases p with
 | none=>exact slicePart_none h
 | int i t=>exact slicePart_int h
theorem lY{sl:Addr}{vl vu:Value}{lo hi:Option Int}{n:Nat}{Q:Int × Int × Nat->Shared->Prop}(hs:s.heap.IsSliceOf sl vl vu .none)(pl:IsPart vl lo)(pu:IsPart vu hi)
  (h:Q (((hJ n 0 lo:Nat):Int),1,hJ n n hi-hJ n 0 lo) s):wpAny (model prog w) A (Builtin.Slice.sliceApplied (.ref sl) (pure (n:Int))) Q E s:=by
 obtain ⟨os,hos,hcs,hds⟩:=id hs;unfold Builtin.Slice.sliceApplied Builtin.Slice.sliceFields;refine wpAny_bind (wpAny_bind (wpAny_field hos hds (x:=vl) rfl (wpAny_bind (wpAny_field hos hds (x:=vu) rfl (wpAny_bind (wpAny_field hos hds (x:=.none) rfl (wpAny_pure ?_)))))));refine wpAny_bind (slicePart_none ?_);show wpAny _ _ (if ((1:Int) == 0)=true then _ else _) _ _ s;rw [if_neg Dd];refine wpAny_bind (vR pl (wpAny_bind (vR pu (wpAny_bind (wpAny_pure ?_)))));show wpAny _ _ (match Builtin.Slice.sliceAdjust lo hi 1 (n:Int) with | (lo,hi)=>pure (lo,(1:Int),Builtin.Slice.slicePlaces lo hi 1)) _ _ s;rw [GB lo hi n];show wpAny _ _ (pure (((hJ n 0 lo:Nat):Int),(1:Int),Builtin.Slice.slicePlaces ((hJ n 0 lo:Nat):Int) ((hJ n n hi:Nat):Int) 1)) _ _ s;rw [FH];exact wpAny_pure h
theorem NS(xs:Array Value)(i k:Nat):((List.range k).filterMap λ(m:Nat)=>xs[((i:Int)+(m:Int)*1).toNat]?).toArray=((xs.toList.drop i).take k).toArray:=by
 have e:(λ(m:Nat)=>xs[((i:Int)+(m:Int)*1).toNat]?)=λm=>xs[i+m]?:=by
  funext m
  have:((i:Int)+(m:Int)*1).toNat=i+m:=Oo;rw [this]
 rw [e];have:=pick_run xs i k;rw [List.filterMap_map] at this;have e2:((λx=>xs[x]?) ∘ λx=>i+x)=λm=>xs[i+m]?:=rfl;rw [e2] at this;rw [this]
theorem rT{t sl:Addr}{items:Array Value}{vl vu:Value}{lo hi:Option Int}{Q:Value->Shared->Prop}(ht:IsTup s.heap t items)(hs:s.heap.IsSliceOf sl vl vu .none)(pl:IsPart vl lo)(pu:IsPart vu hi)
  (hw:¬(hJ items.size 0 lo=0/\hJ items.size items.size hi=items.size))
  (h:Q (.ref s.heap.objs.size) { s with heap:=s.heap.push { cls:=.type "tuple",data:=.seq ((items.toList.drop (hJ items.size 0 lo)).take (hJ items.size items.size hi-hJ items.size 0 lo)).toArray } })
  (hsz:items.size<=sizeLine):wpAny (model prog w) A (getItem (.ref t) (.ref sl)) Q E s:=by
 have htake:sizeOk (.seq ((items.toList.drop (hJ items.size 0 lo)).take (hJ items.size items.size hi-hJ items.size 0 lo)).toArray):=by
  show ((items.toList.drop (hJ items.size 0 lo)).take (hJ items.size items.size hi-hJ items.size 0 lo)).toArray.size<=sizeLine;rw [aY,bT,List.length_drop,Array.length_toList];omega
 have hj:hJ items.size items.size hi<=items.size:=ZW _ _ (aG _) hi;obtain ⟨os,hos,hcs,hds⟩:=id hs;have hTs:s.TypeIs (.ref sl) "slice" := ⟨os,hos,hcs⟩;unfold getItem
 try with_reducible refine wpAny_holding ?_
 first | refine wpAny_bind (wpAny_pure ?_) | skip
 refine wpAny_bind (wpAny_sequenceKey ht.typeIs Dd ?_);refine wpAny_bind (wpAny_callSpecial?_slot (name:=Str.ofString "__getitem__") ht.typeIs PyProof.Rows.slot_tuple_getitem
  (wpAny_call_entry PyProof.Rows.slot_tuple_getitem ht.typeIs entry_tuple_getitem ?_ (args_tuple_getitem _ _)))
 show wpAny _ _ (Builtin.Tuple.tupleItemsOf (.ref t) >>= _) _ _ s;refine wpAny_bind (tupleItemsOf_ ht ?_);refine wpAny_bind (wpAny_typeOf hTs ?_);rw [if_pos Dd];refine wpAny_bind (lY hs pl pu ?_);have hno:¬((((hJ items.size 0 lo:Nat):Int) == 0&&(1:Int) == 1&&(hJ items.size items.size hi-hJ items.size 0 lo) == items.size)=true):=by
  intro q;rw [cU,cU] at q;have q1:((hJ items.size 0 lo:Nat):Int)=0:=eq_of_beq q.1.1;have q2:hJ items.size items.size hi-hJ items.size 0 lo=items.size:=eq_of_beq q.2;exact hw ⟨Oo,Oo⟩
 show wpAny _ _ (if (((hJ items.size 0 lo:Nat):Int) == 0&&(1:Int) == 1&&(hJ items.size items.size hi-hJ items.size 0 lo) == items.size)=true then _ else _) _ _ s;rw [if_neg hno,NS]
 first
  | exact wpAny_bind (m:=Builtin.Tuple.tupleExact _) (wpAny_newObj_type (wpAny_pure ⟨_,rfl,wpAny_pure h⟩) htake)
  | exact wpAny_bind (m:=Builtin.Tuple.tupleExact _) (wpAny_newObj_type (wpAny_bind (wpAny_pure (wpAny_pure ⟨_,rfl,wpAny_pure h⟩))) htake)
  | exact wpAny_bind (wpAny_bind (m:=Builtin.Tuple.tupleExact _) (wpAny_newObj_type (wpAny_pure (wpAny_pure ⟨_,rfl,wpAny_pure h⟩)) htake))
  | exact wpAny_bind (wpAny_bind (m:=Builtin.Tuple.tupleExact _) (wpAny_newObj_type (wpAny_pure ⟨_,rfl,wpAny_pure h⟩) htake))
end
end HT
namespace L2
open PySem PySem.Spec PyProof.Rows
abbrev TO:=St->Hp->(Option Int->Hp->Prop)->Prop
def PO(X:Cx)(e:Option Expr)(t:TO):Prop :=
 ∀(pins:List (Addr × Obj)) (s:Shared) (σ:St) (H:Hp) (Q:Option Int->Hp->Prop),cB X pins σ H s->t σ H Q ->
  wpAny (model X.prog X.w) X.A (evalPart e X.env) (λu s'=>∃o H',cB X pins σ H' s'/\IsPart u o/\Q o H') X.xe s
def GT:TO:=λ_ H Q=>Q none H
def WT(t:TE):TO:=λσ H Q=>t σ H λx H1=>∃i,x=.int i/\Q (some i) H1
theorem qI{ns:List Int}:∀{us:List Value},cO (ns.map V.int) us->IntsAre us ns:=by
 induction ns with
 | nil=>intro us r;rw [List.map_nil] at r;cases r;exact .nil
 | cons n ns ih =>
  intro us r;rw [aW] at r;cases r with
  | cons r1 r2 =>
   obtain ⟨t,e⟩:=r1;subst e;exact .cons n t (ih r2)
section
variable{X:Cx}{e:Expr}{te:TE}{lo hi:Option Expr}{tl th:TO}{pos p2:Pos}
theorem po_none:PO X none GT:=by
 intro pins s σ H Q I h;rw [evalPart_none];exact wpAny_pure ⟨none,H,I,.none,h⟩
theorem TY(h:PE X e te):PO X (some e) (WT te):=by
 intro pins s σ H Q I hw;rw [evalPart_some];refine thn (h pins s σ H _ I hw) λu s1 ⟨x,H1,I1,r1,q1⟩=>?_;obtain ⟨i,rfl,q⟩:=q1;obtain ⟨t,rfl⟩:=r1;exact ⟨some i,H1,I1,.int i t,q⟩
def SlR(X:Cx)(r:V->Option Int->Option Int->Hp->VK->Prop):Prop :=
 ∀(pins:List (Addr × Obj)) (s:Shared) (σ:St) (H:Hp) (x:V) (v vl vu:Value) (lo hi:Option Int) (sl:Addr) (Q:VK),cB X pins σ H s->dH x v->s.heap.IsSliceOf sl vl vu .none->IsPart vl lo->IsPart vu hi->r x lo hi H Q ->
  ∃T id,typeLookup (.type T) "__getitem__" = pure (some (.builtin id))/\s.TypeIs v T/\wpAny (model X.prog X.w) X.A (getItem v (.ref sl)) (EP X pins σ Q) X.xe s
def tSl(r:V->Option Int->Option Int->Hp->VK->Prop)(te:TE)(tl th:TO):TE:=λσ H Q=>te σ H λx H1=>tl σ H1 λl H2=>th σ H2 λu H3=>r x l u H3 Q
theorem NU{r:V->Option Int->Option Int->Hp->VK->Prop}(hr:SlR X r)(he:PE X e te)(hl:PO X lo tl)(hu:PO X hi th):PE X (.Subscript e (.Slice lo hi none p2) pos) (tSl r te tl th):=by
 intro pins s σ H Q I h;refine Subscript_ (thn (he pins s σ H _ I h) λv s1 ⟨x,H1,I1,r1,q1⟩=>?_);refine wpAny_Slice (thn (hl pins s1 σ H1 _ I1 q1) λvl s2 ⟨l,H2,I2,pl,q2⟩=>thn (hu pins s2 σ H2 _ I2 q2) λvu s3 ⟨u,H3,I3,pu,q3⟩=>?_);rw [evalPart_none];refine wpAny_pure ?_;have I4:cB X pins σ H3 { s3 with heap:=s3.heap.push { cls:=.type "slice",data:=.fields #[vl,vu,.none] } }:=I3.kept (t':=s3.toks) λb ob q=>aB _ q;obtain ⟨T,id,hT,ht,hg⟩:=hr pins { s3 with heap:=s3.heap.push { cls:=.type "slice",data:=.fields #[vl,vu,.none] } } σ H3 x v vl vu l u s3.heap.objs.size Q I4 r1 (Heap.IsSliceOf.new ..) pl pu q3;show wpAny (model X.prog X.w) X.A (subscriptTail e (.Slice lo hi none p2) v (.ref s3.heap.objs.size)) (EP X pins σ Q) X.xe { s3 with heap:=s3.heap.push { cls:=.type "slice",data:=.fields #[vl,vu,.none] } };exact tail_any (ops:=[.ref s3.heap.objs.size,v]) ht hT hg (by with_unfolding_all rfl)
def pO(xs:List V)(lo hi:Option Int):List V:=(xs.drop (HT.hJ xs.length 0 lo)).take (HT.hJ xs.length xs.length hi-HT.hJ xs.length 0 lo)
theorem uD(xs:List V)(lo hi:Option Int):(pO xs lo hi).length<=xs.length:=by
 unfold pO;rw [bT,List.length_drop];omega
def aCO(K:PySem.W.Frag):V->Option Int->Option Int->Hp->VK->Prop:=λx lo hi H Q=>∃a xs,x=.ref a/\fS K H a xs /\
 ¬(HT.hJ xs.length 0 lo=0/\HT.hJ xs.length xs.length hi=xs.length)/\∀p,H p=none->Q (.ref p) (upd H p (.tup (pO xs lo hi)))
theorem YQ:SlR X (aCO X.K):=by
 intro pins s σ H x v vl vu lo hi sl Q I rx hs pl pu h;obtain ⟨a,xs,rfl,hx,hw,q⟩:=h;cases rx;obtain ⟨its,r,ht,hz⟩:=I.tuple hx;have hlen:its.toArray.size=xs.length:=by rw [aY];exact r.length.symm
 refine ⟨"tuple",_,PyProof.Rows.slot_tuple_getitem.lookup,ht.typeIs,?_⟩;refine HT.rT ht hs pl pu (by rw [hlen];exact hw) ?_ (by rw [hlen];exact hz);rw [hlen];refine ⟨.ref s.heap.objs.size,_,I.laid (t':=s.toks) (o:=.tup (pO xs lo hi)) (λb ob q=>aB _ q) (aG _) ?_,rfl,q _ (I.hok.fresh (aG _))⟩;exact ⟨⟨bC (uD xs lo hi) hz,_,bA _ rfl,rfl⟩,_,(r.drop (HT.hJ xs.length 0 lo)).take (HT.hJ xs.length xs.length hi-HT.hJ xs.length 0 lo),IsTup.new _ _⟩
def aBT(K:PySem.W.Frag):R2:=λx y H Q=>∃a b xs ys,x=.ref a/\y=.ref b/\fS K H a xs/\fS K H b ys/\xs≠[]/\xs.length+ys.length<=sizeLine /\
 (ys=[]->Q (.ref a) H)/\(ys≠[]->∀p,H p=none->Q (.ref p) (upd H p (.tup (xs++ys))))
theorem cO.nil_iff{xs:List V}{us:List Value}(r:cO xs us):us=[]↔xs=[]:=by
 cases r with
 | nil=>simp
 | cons _ _=>simp
theorem UN:pI X (binaryOp .Add) (aBT X.K):=by
 intro pins s σ H x y v u Q I rx ry h;obtain ⟨a,b,xs,ys,rfl,rfl,ha,hb,hx,hz,q1,q2⟩:=h;cases rx;cases ry;obtain ⟨its,r1,p1,_⟩:=I.tuple ha;obtain ⟨its2,r2,p2,_⟩:=I.tuple hb;refine HT.VU p1 p2 (λz=>hx (r1.nil_iff.mp z)) (λz=>⟨.ref a,H,I,rfl,q1 (r2.nil_iff.mp z)⟩) (λz=>?_) (by rw [<-r1.length,<-r2.length];exact hz);refine ⟨.ref s.heap.objs.size,_,I.laid (t':=s.toks) (o:=.tup (xs++ys)) (λb ob q=>aB _ q) (aG _) ?_,rfl,q2 (λw=>z (r2.nil_iff.mpr w)) _ (I.hok.fresh (aG _))⟩;exact ⟨⟨by rw [bK];exact hz,_,bA _ rfl,rfl⟩,_,r1.append r2,IsTup.new _ _⟩
end
def xB(n:Nat)(i:Int):Option Nat:=if 0<=i then (if i<n then some i.toNat else none) else if -(n:Int)<=i then some (i+n).toNat else none
def BJ{α:Type}(xs:List α)(i:Int):Option α:=(xB xs.length i).bind λj=>xs[j]?
theorem HW{n:Nat}{i:Int}{j:Nat}(h:xB n i=some j):seqIndex? i n=some j/\j<n/\-(n:Int)<=i/\i<n:=by
 unfold xB at h;by_cases h0:0<=i
 ·rw [if_pos h0] at h;by_cases h1:i<n
  ·rw [if_pos h1] at h;have e:i.toNat=j:=eU h;exact ⟨by rw [seqIndex_of h0 h1,e],Oo,Oo,h1⟩
  ·rw [if_neg h1] at h;cases h
 ·rw [if_neg h0] at h;by_cases h1:-(n:Int)<=i
  ·rw [if_pos h1] at h;have e:(i+n).toNat=j:=eU h;exact ⟨by rw [seqIndex_neg Oo h1,e],Oo,h1,Oo⟩
  ·rw [if_neg h1] at h;cases h
theorem BI{α:Type}{xs:List α}{i:Int}{v:α}(h:BJ xs i=some v):∃j,seqIndex? i xs.length=some j/\xs[j]?=some v/\j<xs.length/\-(xs.length:Int)<=i/\i<xs.length:=by
 unfold BJ at h;cases e:xB xs.length i with
 | none=>rw [e] at h;cases h
 | some j =>
  rw [e] at h;obtain ⟨h1,h2,h3,h4⟩:=HW e;exact ⟨j,h1,h,h2,h3,h4⟩
theorem cK{α:Type}{xs:List α}{j:Nat}{v:α}(h:xs[j]?=some v):BJ xs (j:Int)=some v:=by
 have hj:j<xs.length:=(aL.mp h).1;have e:xB xs.length (j:Int)=some j:=by
  unfold xB;rw [if_pos Oo,if_pos Oo];simp
 unfold BJ;rw [e];exact h
def IQ(b:Expr):Prop:=∀o i,subscripted b false o i=operate [o,i] (getItem o i)
def QV(X:Cx)(r:R2):Prop :=
 ∀(value slice:Expr) (pins:List (Addr × Obj)) (s:Shared) (σ:St) (H:Hp) (x y:V) (v u:Value) (Q:VK),cB X pins σ H s->dH x v->dH y u->r x y H Q ->
  subscripted slice false v u=operate [v,u] (getItem v u)->wpAny (model X.prog X.w) X.A (subscriptTail value slice v u) (EP X pins σ Q) X.xe s
def YE(X:Cx)(id:String)(r:V->List V->Hp->VK->Prop):Prop :=
 ∀(pins:List (Addr × Obj)) (s:Shared) (σ:St) (H:Hp) (x:V) (xs:List V) (v:Value) (us:List Value) (Q:VK),cB X pins σ H s->dH x v->cO xs us->r x xs H Q ->
  wpAny (model X.prog X.w) X.A (call (.builtin id) (v::us)) (EP X pins σ Q) X.xe s
section
variable{X:Cx}{a b:Expr}{ta tb:TE}{pos:Pos}
theorem QV.or{r r':R2}(h:QV X r)(h':QV X r'):QV X (λx y H Q=>r x y H Q\/r' x y H Q):=by
 intro value slice pins s σ H x y v u Q I rx ry q hs;rcases q with q | q
 ·exact h value slice pins s σ H x y v u Q I rx ry q hs
 ·exact h' value slice pins s σ H x y v u Q I rx ry q hs
theorem aB0{r:R2}(hr:QV X r)(ha:PE X a ta)(hb:PE X b tb)(hs:IQ b):PE X (.Subscript a b pos) (SD r ta tb):=by
 intro pins s σ H Q I h;exact Subscript_ (aA3 ha hb I h λv u s2 x y H2 I2 rx ry q=>hr a b pins s2 σ H2 x y v u Q I2 rx ry q (hs _ _))
def aBR(K:PySem.W.Frag):R2:=λx y H Q=>∃p xs i v,x=.ref p/\y=.int i/\fT K H p xs/\BJ xs i=some v/\Q v H
def aBP(K:PySem.W.Frag):R2:=λx y H Q=>∃p xs i v,x=.ref p/\y=.int i/\fS K H p xs/\BJ xs i=some v/\Q v H
def aBQ:R2:=λx y H Q=>∃z i c,x=.str z/\y=.int i/\z.length<=sizeLine/\BJ z.cps.toList i=some c/\Q (.str ⟨#[c]⟩) H
theorem VE:QV X (aBR X.K):=by
 intro value slice pins s σ H x y v u Q I rx ry h hs;obtain ⟨p,xs,i,z,rfl,rfl,hq,he,q⟩:=h;cases rx;obtain ⟨t,rfl⟩:=ry;obtain ⟨its,r,pl,hz⟩:=I.list hq;obtain ⟨j,h1,h2,h3,h4,h5⟩:=BI he;obtain ⟨w,ew,rw'⟩:=r.get h2;have hl:=r.length;have hn:=wE;have fin:EP X pins σ Q w s:=⟨z,H,I,rw',q⟩;by_cases h0:0<=i
 ·have hj:i.toNat=j:=by
   rw [seqIndex_of h0 h5] at h1;exact eU h1
  exact item_listR pl.isList h0 Oo (by rw [hj];simpa using ew) fin hs
 ·have hj:(i+(its.toArray.size:Int)).toNat=j:=by
   rw [seqIndex_neg Oo h4] at h1;rw [aY,<-hl];exact eU h1
  exact subscriptTail_builtinR (x:=w) pl.isList.typeIs slot_list_getitem.lookup
   (wpAny_getItem_list_neg (Q:=λr s'=>r=w/\EP X pins σ Q r s') pl.isList Oo (by rw [aY] <;> omega) Oo (by rw [hj];simpa using ew) ⟨rfl,fin⟩) hs
theorem aAO:QV X (aBP X.K):=by
 intro value slice pins s σ H x y v u Q I rx ry h hs;obtain ⟨p,xs,i,z,rfl,rfl,hq,he,q⟩:=h;cases rx;obtain ⟨t,rfl⟩:=ry;obtain ⟨its,r,pl,hz⟩:=I.tuple hq;obtain ⟨j,h1,h2,h3,h4,h5⟩:=BI he;obtain ⟨w,ew,rw'⟩:=r.get h2;have hl:=r.length;have hn:=wE;have fin:EP X pins σ Q w s:=⟨z,H,I,rw',q⟩;exact subscriptTail_builtinR (x:=w) pl.typeIs slot_tuple_getitem.lookup
  (getItem_tuple (j:=j) (Q:=λr s'=>r=w/\EP X pins σ Q r s') pl Oo Oo (by rw [aY,<-hl];exact h1) (by simpa using ew) ⟨rfl,fin⟩) hs
theorem aAP:QV X aBQ:=by
 intro value slice pins s σ H x y v u Q I rx ry h hs;obtain ⟨z,i,c,rfl,rfl,hz,he,q⟩:=h;obtain ⟨t,rfl⟩:=rx;obtain ⟨t',rfl⟩:=ry;obtain ⟨j,h1,h2,h3,h4,h5⟩:=BI he;have hl:z.cps.toList.length=z.length:=by simp [Str.length]
 rw [hl] at h1 h4 h5;have hn:=wE;exact tail_any (typeIs_str s z t) slot_str_getitem.lookup (getItem_str (c:=c) (by
  have e1:decide (i < -(2^63:Int))=false:=bX Oo;have e2:decide (i ≥ 2^63)=false:=bX Oo;rw [e1,e2,Bool.or_false]) (by rw [h1];simpa using h2) ⟨.str ⟨#[c]⟩,H,I.tok _,⟨_,rfl⟩,q⟩) hs
def rIx(K:PySem.W.Frag):R2:=λx y H Q=>aBR K x y H Q\/aBP K x y H Q\/aBQ x y H Q
theorem aZ:QV X (rIx X.K):=VE.or (aAO.or aAP)
theorem FN(its:List Value)(n j:Nat)(u:Value):Obj.mapSeq (·.setIfInBounds j u) { cls:=.type "list",data:=.seq its.toArray n }={ cls:=.type "list",data:=.seq (its.set j u).toArray n }:=by
 simp [Obj.mapSeq]
theorem cB.lst{pins:List (Addr × Obj)}{σ:St}{H:Hp}{s:Shared}{p:Addr}{xs:List V}(I:cB X pins σ H s)(h:H p=some (.lst xs)) :
  ∃(its:List Value) (n:Nat),cO xs its/\s.heap.get? p=some { cls:=.type "list",data:=.seq its.toArray n }/\xs.length<=sizeLine:=by
 obtain ⟨z,its,n,r,e⟩:=I.hok p _ h;exact ⟨its,n,r,e,z⟩
theorem cB.lstUpd{pins:List (Addr × Obj)}{σ:St}{H:Hp}{s:Shared}{p:Addr}{xs ys:List V}{its its':List Value}{n n':Nat}{f:Obj->Obj}(I:cB X pins σ H s)(h:H p=some (.lst xs))
  (ho:s.heap.get? p=some { cls:=.type "list",data:=.seq its.toArray n }) (hf:f { cls:=.type "list",data:=.seq its.toArray n }={ cls:=.type "list",data:=.seq its'.toArray n' }) (r:cO ys its') (hz:ys.length<=sizeLine) (t:Nat) :
  cB X pins σ (upd H p (.lst ys)) { s with heap:=s.heap.update p f,toks:=t }:=by
 have e:(s.heap.update p f).get? p=some { cls:=.type "list",data:=.seq its'.toArray n' }:=by
  rw [Heap.get?_update_self f ho (by rw [hf] <;> rfl),hf]
 refine I.write (x:=p) (e:=p) (by rw [h];trivial) (.inl rfl) (λb u hb q=>(Heap.get?_update_other _ _ (Ne.symm hb)).trans q) ⟨_,e⟩ ?_;exact ⟨hz,its',n',r,e⟩
def NM:V->V->V->Hp->(Hp->Prop)->Prop:=λo i v H Q=>∃p xs k j,o=.ref p/\i=.int k/\H p=some (.lst xs)/\xB xs.length k=some j/\Q (upd H p (.lst (xs.set j v)))
theorem hU:aA8 X NM:=by
 intro pins s σ H o i v ov iv u Q I ro ri rv h;obtain ⟨p,xs,k,j,rfl,rfl,hp,hj,q⟩:=h;cases ro;obtain ⟨t,rfl⟩:=ri;obtain ⟨its,n,r,ho,hz⟩:=I.lst hp;obtain ⟨h1,h2,h3,h4⟩:=HW hj;have hl:=r.length;have hn:=wE;have I':cB X pins σ (upd H p (.lst (xs.set j v))) { s with heap:=s.heap.update p (Obj.mapSeq (·.setIfInBounds j u)) } :=
  I.lstUpd hp ho (FN its n j u) (r.set rv j) (by rw [List.length_set];exact hz) s.toks
 by_cases h0:0<=k
 ·have hk:k.toNat=j:=by
   rw [seqIndex_of h0 h4] at h1;exact eU h1
  exact PySem.W.ki_setAt ho h0 Oo (by rw [aY,<-hl];exact h4) (by rw [hk];exact ⟨_,I',q⟩)
 ·have hk:(k+(its.toArray.size:Int)).toNat=j:=by
   rw [seqIndex_neg Oo h3] at h1;rw [aY,<-hl];exact eU h1
  exact PySem.W.ki_setBack ho Oo (by rw [aY,<-hl];exact h3) Oo (by rw [hk];exact ⟨_,I',q⟩)
theorem AE(lo hi:Option Int)(n:Nat):(sliceBounds lo hi none n).1=((HT.hJ n 0 lo:Nat):Int)/\(sliceBounds lo hi none n).2.1=((HT.hJ n n hi:Nat):Int)/\(sliceBounds lo hi none n).2.2=1:=by
 refine ⟨?_,?_,rfl⟩
 ·cases lo with
  | none=>simp [sliceBounds,HT.hJ]
  | some i =>
   simp only [sliceBounds,HT.hJ,Option.getD_none,show (1:Int) > 0 by decide,if_true];by_cases h:i<0
   ·simp only [h,if_true] <;> omega
   ·simp only [h,if_false] <;> omega
 ·cases hi with
  | none=>simp [sliceBounds,HT.hJ]
  | some i =>
   simp only [sliceBounds,HT.hJ,Option.getD_none,show (1:Int) > 0 by decide,if_true];by_cases h:i<0
   ·simp only [h,if_true] <;> omega
   ·simp only [h,if_false] <;> omega
theorem xD(its:List Value)(lo hi:Option Int):slicePick its.toArray lo hi none=((its.drop (HT.hJ its.length 0 lo)).take (HT.hJ its.length its.length hi-HT.hJ its.length 0 lo)).toArray:=by
 obtain ⟨h1,h2,h3⟩:=AE lo hi its.toArray.size;unfold slicePick;rw [h1,h2,h3];simp only [sliceRange_one,pick_run,aY] <;> rfl
def aBN(K:PySem.W.Frag):V->Option Int->Option Int->Hp->VK->Prop:=λx lo hi H Q=>∃a xs,x=.ref a/\fT K H a xs/\∀p,H p=none->Q (.ref p) (upd H p (.lst (pO xs lo hi)))
theorem GY:SlR X (aBN X.K):=by
 intro pins s σ H x v vl vu lo hi sl Q I rx hs pl pu h;obtain ⟨a,xs,rfl,hx,q⟩:=h;cases rx;obtain ⟨its,r,ht,hz⟩:=I.list hx;have hlen:=r.length;refine ⟨"list",_,slot_list_getitem.lookup,ht.isList.typeIs,?_⟩;refine wpAny_getItem_list_slice ht.isList hs pl pu .none (by simp) ?_ (by rw [aY] <;> omega);rw [xD,<-hlen];refine ⟨.ref s.heap.objs.size,_,I.laid (t':=s.toks) (o:=.lst (pO xs lo hi)) (λb ob q=>aB _ q) (aG _) ?_,rfl,q _ (I.hok.fresh (aG _))⟩;exact ⟨bC (uD xs lo hi) hz,_,0,(r.drop (HT.hJ xs.length 0 lo)).take (HT.hJ xs.length xs.length hi-HT.hJ xs.length 0 lo),bA _ rfl⟩
theorem sC:gS X (.type "list") (λxs H Q=>∃p ys,xs=[.ref p]/\(fT X.K H p ys\/fS X.K H p ys)/\∀l,H l=none->Q (.ref l) (upd H l (.lst ys))):=by
 intro pins s σ H xs us Q I r h;obtain ⟨p,ys,rfl,hq,q⟩:=h;obtain ⟨u,rfl,rx⟩:=kZ r;cases rx;have fin:∀(its:List Value),cO ys its->ys.length<=sizeLine->∀(h':Heap) (c':Nat),(∀b o',s.heap.get? b=some o'->h'.get? b=some o') ->
   h'.get? s.heap.objs.size=some { cls:=.type "list",dict:=none,data:=.seq its.toArray c',slots:=#[] }->EP X pins σ Q (.ref s.heap.objs.size) { s with heap:=h' }:=λits r' hz h' c' kp e =>
  ⟨.ref s.heap.objs.size,_,I.laid (t':=s.toks) kp (aG _) (show eE X.prog X.w _ h' _ (.lst ys) from ⟨hz,its,c',r',e⟩),rfl,q _ (I.hok.fresh (aG _))⟩
 rcases hq with hq | hq
 ·obtain ⟨its,r',pl,hz⟩:=I.list hq;have hlen:=r'.length;obtain ⟨o,ho,hc,n,hd⟩:=pl.isList;exact call_list_seq p (.inl rfl) ho hc hd (λh' c' kp e=>fin its r' hz h' c' kp e) (by simp only [aY] <;> omega)
 ·obtain ⟨its,r',pl,hz⟩:=I.tuple hq;have hlen:=r'.length;obtain ⟨o,ho,hc,n,hd⟩:=pl;exact call_list_seq p (.inr rfl) ho hc hd (λh' c' kp e=>fin its r' hz h' c' kp e) (by simp only [aY] <;> omega)
theorem dJ:gS X (.type "tuple") (λxs H Q=>∃p ys,xs=[.ref p]/\((fT X.K H p ys/\∀l,H l=none->Q (.ref l) (upd H l (.tup ys)))\/(fS X.K H p ys/\Q (.ref p) H))):=by
 intro pins s σ H xs us Q I r h;obtain ⟨p,ys,rfl,h⟩:=h;obtain ⟨u,rfl,rx⟩:=kZ r;cases rx;rcases h with ⟨hq,q⟩ | ⟨hq,q⟩
 ·obtain ⟨its,r',pl,hz⟩:=I.list hq;have hlen:=r'.length;refine call_tuple_list pl.isList (λh' kp=>?_) (by simp only [aY] <;> omega);have I1:cB X pins σ H { s with heap:=h' }:=I.kept (t':=s.toks) kp;have I2:cB X pins σ (upd H h'.objs.size (.tup ys)) { s with heap:=h'.push { cls:=.type "tuple",data:=.seq its.toArray } } :=
   I1.laid (t':=s.toks) (λb o e=>aB _ e) (aG _) (show eE X.prog X.w _ _ _ (.tup ys) from ⟨⟨hz,_,bA _ rfl,rfl⟩,its,r',IsTup.new _ _⟩)
  exact ⟨.ref h'.objs.size,_,I2,rfl,q _ (I1.hok.fresh (aG _))⟩
 ·obtain ⟨its,r',pl,hz⟩:=I.tuple hq;exact call_tuple_same pl ⟨.ref p,H,I,rfl,q⟩
def tyV(K:PySem.W.Frag)(T:String)(x:V)(H:Hp):Prop:=match x with
 | .str _=>T = "str"
 | .int _=>T = "int"
 | .ref p=>(T = "list" /\ ∃xs,fT K H p xs)\/(T = "tuple" /\ ((∃o,K.lookup p=some o/\o.cls=.type "tuple" /\ o.dict=none)\/∃xs,H p=some (.tup xs))) \/
   (T = "dict" /\ ((∃kvs,H p=some (.dK kvs))\/∃kvs,H p=some (.dT kvs)))\/(T = "set" /\ ∃S n,H p=some (.set S n))
 | _=>False
theorem MH{pins:List (Addr × Obj)}{σ:St}{H:Hp}{s:Shared}{T:String}{x:V}{v:Value}(I:cB X pins σ H s)(r:dH x v)(ty:tyV X.K T x H) :
  s.TypeIs v T/\∀a,v=.ref a->∃ob,s.heap.get? a=some ob/\ob.dict=none:=by
 cases x with
 | str z =>
  obtain ⟨t,rfl⟩:=r;cases (show T = "str" from ty);exact ⟨typeIs_str s z t,λ_ e=>nomatch e⟩
 | int i =>
  obtain ⟨t,rfl⟩:=r;cases (show T = "int" from ty);exact ⟨typeIs_int s i t,λ_ e=>nomatch e⟩
 | ref p =>
  cases r;rcases ty with ⟨rfl,xs,hq⟩ | ⟨rfl,⟨o,hk,hc,hd⟩ | ⟨xs,hq⟩⟩ | ⟨rfl,hk⟩ | ⟨rfl,S,n,hk⟩
  ·obtain ⟨its,_,pl,_⟩:=I.list hq;refine ⟨pl.isList.typeIs,λa e=>?_⟩;cases e;obtain ⟨o,n,e,c,hd,_⟩:=pl;exact ⟨o,e,hd⟩
  ·refine ⟨⟨o,I.kIn p o hk,hc⟩,λa e=>?_⟩;cases e;exact ⟨o,I.kIn _ o hk,hd⟩
  ·obtain ⟨⟨_,on,en,dn⟩,_,_,o,e1,e2,_⟩:=(show eE X.prog X.w H s.heap p (.tup xs) from I.hok p _ hq);refine ⟨⟨o,e1,e2⟩,λa e=>?_⟩;cases e;exact ⟨on,en,dn⟩
  ·have z:∃o,s.heap.get? p=some o/\o.ExactDict:=by
    rcases hk with ⟨kvs,hk⟩ | ⟨kvs,hk⟩
    ·obtain ⟨_,_,_,_,o,_,_,e,ex,_⟩:=I.hok p _ hk;exact ⟨o,e,ex⟩
    ·obtain ⟨_,_,_,_,o,_,_,e,ex,_⟩:=I.hok p _ hk;exact ⟨o,e,ex⟩
   obtain ⟨o,e,ex⟩:=z;refine ⟨⟨o,e,ex.1⟩,λa e2=>?_⟩;cases e2;exact ⟨o,e,ex.2.1⟩
  ·obtain ⟨o,_,_,_,e,ex,_⟩:=I.hok p _ hk;refine ⟨⟨o,e,ex.1⟩,λa e2=>?_⟩;cases e2;exact ⟨o,e,ex.2.1⟩
 | _=>exact False.elim ty
def aBE(K:PySem.W.Frag)(T:String)(r:V->List V->Hp->VK->Prop)(to:TE):TE:=λσ H Q=>to σ H λx H1=>tyV K T x H1/\r x [] H1 Q
def tBM(K:PySem.W.Frag)(T:String)(r:V->List V->Hp->VK->Prop)(to:TE)(t:TA):TE:=λσ H Q=>to σ H λx H1=>tyV K T x H1/\t σ H1 λxs H2=>r x xs H2 Q
variable{o e:Expr}{es:List Expr}{to:TE}{t:TA}{name:Str}{apos cpos:Pos}{T id:String}{r:V->List V->Hp->VK->Prop}
theorem aAu(pa:PlainAttrs T)(slot:Slot T name id)(hty:typeOf (.builtin id)=pure (.type "method_descriptor"))(hm:YE X id r)(ho:PE X o to)
  (hbase:attributeBase o name X.env (eval o X.env)=eval o X.env:=by rfl) (hline:(apos.endLine == cpos.line)=true:=by rfl):PE X (.Call (.Attribute o name apos) [] [] cpos) (aBE X.K T r to):=by
 intro pins s σ H Q I h;refine wpAny_Call_method0_late hbase hline (thn (ho pins s σ H _ I h) λv s1 ⟨x,H1,I1,r1,ty,q1⟩=>?_);obtain ⟨h1,h2⟩:=MH I1 r1 ty;exact ⟨T,id,pa,slot,hty,h1,h2,Calls.callWith_builtin rfl (PySem.evalArgs_none (hm pins s1 σ H1 x [] v [] Q I1 r1 .nil q1))⟩
theorem aB2(pa:PlainAttrs T)(slot:Slot T name id)(hty:typeOf (.builtin id)=pure (.type "method_descriptor"))(hm:YE X id r)(ho:PE X o to)(ha:PA X (e::es) t)
  (hbase:attributeBase o name X.env (eval o X.env)=eval o X.env:=by rfl)
  (hfew:((backTo cpos (starEach (e::es) X.env)).all (λx=>!x.1)&&(backToKw cpos (keywordEach [] X.env)).all (λx=>x.1.isSome)
   && decide ((e::es).length+([]:List Keyword).length+(if ([]:List Keyword).isEmpty then 0 else 1)<30))=true:=by rfl)
  (hline:(apos.endLine == cpos.line)=true:=by rfl) (hs:starEach (e::es) X.env=(false,eval e X.env)::starEach es X.env:=by rfl) (hplain:(backTo cpos (starEach es X.env)).any (·.1)=false:=by rfl) :
  PE X (.Call (.Attribute o name apos) (e::es) [] cpos) (tBM X.K T r to t):=by
 intro pins s σ H Q I h;refine wpAny_Call_method_late hbase hfew hline rfl (thn (ho pins s σ H _ I h) λv s1 ⟨x,H1,I1,r1,ty,q1⟩=>?_);obtain ⟨h1,h2⟩:=MH I1 r1 ty;refine ⟨T,id,pa,slot,hty,h1,h2,?_⟩;have hA:=ha cpos pins s1 σ H1 _ I1 q1;rw [hs] at hA ⊢;refine Calls.callWith_builtin (by show (false || (backTo cpos (starEach es X.env)).any (·.1))=false;rw [hplain] <;> rfl) (Calls.evalArgs_plain ?_);exact thn hA λus s2 ⟨vs,H2,I2,r2,q2⟩=>hm pins s2 σ H2 x vs v us Q I2 r1 r2 q2
/- xs.append(e),list.index on a module's tuple .. are YE facts of 06m -/
end
def MtM(X:Cx)(id:String)(r:V->List V->Hp->VK->Prop):Prop :=
 ∀(pins:List (Addr × Obj)) (s:Shared) (σ:St) (H:Hp) (x:V) (xs:List V) (v:Value) (us:List Value) (Q:VK),cB X pins σ H s->dH x v->cO xs us->r x xs H Q ->
  wpAny (model X.prog X.w) X.A (call (.builtin id) (v::us)) (EP X pins σ Q) X.xe s
theorem cO.one:∀{x:V}{us:List Value},cO [x] us->∃u,us=[u]/\dH x u
 | _,_,.cons r .nil=>⟨_,rfl,r⟩
theorem cO.zero:∀{us:List Value},cO [] us->us=[]
 | _,.nil=>rfl
theorem cO.dropLast{xs:List V}{us:List Value}(h:cO xs us):cO xs.dropLast us.dropLast:=by
 induction h with
 | nil=>exact .nil
 | cons r t ih =>
  cases t with
  | nil=>exact .nil
  | cons q t'=>exact .cons r ih
theorem FU{α:Type}(l:List α):l.eraseIdx (l.length-1)=l.dropLast:=by
 induction l with
 | nil=>rfl
 | cons a r ih =>
  cases r with
  | nil=>rfl
  | cons b r =>
   have e:(a::b::r).length-1=((b::r).length-1)+1:=by
    have h1:(a::b::r).length=r.length+2:=rfl;have h2:(b::r).length=r.length+1:=rfl;omega
   rw [e,List.eraseIdx_cons_succ,ih]
   all_goals rfl
theorem yN(its:List Value):∀(k:Nat) (acc:List Value),
  List.foldl (λx1 x2=>x1++x2) acc.toArray (List.replicate k its.toArray)=(acc++(List.replicate k its).flatten).toArray
 | 0,acc=>by simp
 | k+1,acc=>by
  have e:acc.toArray++its.toArray=(acc++its).toArray:=by simp
  have e2:(acc++its)++(List.replicate k its).flatten=acc++(List.replicate (k+1) its).flatten:=by
   rw [List.replicate_succ,List.flatten_cons,List.append_assoc]
  rw [<-e2,<-yN its k (acc++its),<-e,List.replicate_succ,List.foldl_cons]
section
variable{X:Cx}{pins:List (Addr × Obj)}{σ:St}{H:Hp}{s:Shared}{l b:Addr}{xs ys zs:List V}
theorem cB.lset{its its':List Value}{n:Nat}{f:Array Value->Array Value}{t':Nat}(I:cB X pins σ H s)(hH:H l=some (.lst xs))
  (e:s.heap.get? l=some { cls:=.type "list",data:=.seq its.toArray n }) (hf:f its.toArray=its'.toArray) (hv:cO ys its') (hz:ys.length<=sizeLine) :
  cB X pins σ (upd H l (.lst ys)) { s with heap:=s.heap.update l (Obj.mapSeq f),toks:=t' }:=by
 have q:=PySem.IsL.update e f;rw [hf] at q;refine I.write (x:=l) (e:=l) (by rw [hH];exact trivial) (.inl rfl) (λb' u hb hu=>(Heap.get?_update_other s.heap (Obj.mapSeq f) (Ne.symm hb)).trans hu) ⟨_,q⟩ ?_;exact ⟨hz,its',_,hv,q⟩
theorem cB.lnew{its:List Value}{t':Nat}(I:cB X pins σ H s)(hv:cO ys its)(hz:ys.length<=sizeLine) :
  cB X pins σ (upd H s.heap.objs.size (.lst ys)) { s with heap:=s.heap.push { cls:=.type "list",data:=.seq its.toArray },toks:=t' } :=
 I.laid (λ_ _ q=>aB _ q) (aG _) ⟨hz,its,0,hv,bA _ rfl⟩
theorem cB.fresh(I:cB X pins σ H s):H s.heap.objs.size=none:=I.hok.fresh (aG _)
theorem cB.lstM(I:cB X pins σ H s)(hH:H l=some (.lst xs)):xs.length<=sizeLine/\∃(its:List Value) (n:Nat),cO xs its/\xs.length=its.length/\s.heap.get? l=some { cls:=.type "list",data:=.seq its.toArray n }:=by
 obtain ⟨z,its,n,r,e⟩:=I.hok l _ hH;exact ⟨z,its,n,r,r.length,e⟩
end
section
variable{X:Cx}
def HK:V->List V->Hp->VK->Prop:=λx vs H Q=>∃l xs y,x=.ref l/\vs=[y]/\H l=some (.lst xs)/\xs.length<sizeLine/\Q .non (upd H l (.lst (xs++[y])))
theorem tE:MtM X "list.append" HK:=by
 intro pins s σ H x vs v us Q I rx rv h;obtain ⟨l,xs,y,rfl,rfl,hH,hz,q⟩:=h;cases rx;obtain ⟨u,rfl,ru⟩:=rv.one;obtain ⟨z,its,n,r,hl,e⟩:=I.lstM hH;refine call_meets F.slot_list_append ⟨_,e,rfl⟩ F.entry_list_append (F.args_list_append_2 _ _) (PySem.list_append l its.toArray n u (by rw [aY];omega)) ⟨e,?_⟩;refine ⟨.non,_,I.lset (its':=its++[u]) hH e (by simp) (r.append (.cons ru .nil)) ?_,rfl,q⟩;rw [bK,List.length_singleton];omega
def aBO:V->List V->Hp->VK->Prop:=λx vs H Q=>∃l xs y,x=.ref l/\vs=[]/\H l=some (.lst xs)/\xs[xs.length-1]?=some y/\Q y (upd H l (.lst xs.dropLast))
theorem aAD:MtM X "list.pop" aBO:=by
 intro pins s σ H x vs v us Q I rx rv h;obtain ⟨l,xs,y,rfl,rfl,hH,hy,q⟩:=h;cases rx;have hus:=rv.zero;subst hus;obtain ⟨z,its,n,r,hl,e⟩:=I.lstM hH;obtain ⟨u,hu,ru⟩:=r.get hy;have hy':its.toArray[its.toArray.size-1]?=some u:=by
  show its.toArray[its.length-1]?=some u;rw [<-Array.getElem?_toList,<-hl];exact hu
 refine call_meets F.slot_list_pop ⟨_,e,rfl⟩ F.entry_list_pop (F.args_list_pop_1 _) (MeetsSeq.list_pop_last l its.toArray n u hy' (by rw [aY];omega)) ⟨e,?_⟩;refine ⟨y,_,I.lset (its':=its.dropLast) hH e ?_ r.dropLast ?_,ru,q⟩
 ·show its.toArray.eraseIdxIfInBounds (its.toArray.size-1)=its.dropLast.toArray;rw [aY,List.eraseIdxIfInBounds_toArray,FU]
 ·rw [List.length_dropLast];omega
def aBU:R2:=λx y H Q=>∃l b xs zs,x=.ref l/\y=.ref b/\H l=some (.lst xs)/\H b=some (.lst zs)/\xs.length+zs.length<=sizeLine/\∀p,H p=none->Q (.ref p) (upd H p (.lst (xs++zs)))
theorem OE:pI X (binaryOp .Add) aBU:=by
 intro pins s σ H x y v u Q I rx ry h;obtain ⟨l,b,xs,zs,rfl,rfl,hH,hB,hz,q⟩:=h;cases rx;cases ry;obtain ⟨z,its,n,r,hl,e⟩:=I.lstM hH;obtain ⟨z2,its2,n2,r2,hl2,e2⟩:=I.lstM hB;refine PySem.P.add_list e e2 ?_ (by rw [aY,aY];omega);have ea:its.toArray++its2.toArray=(its++its2).toArray:=by simp
 rw [ea];exact ⟨.ref _,_,I.lnew (t':=s.toks) (r.append r2) (by rw [bK];omega),rfl,q _ I.fresh⟩
end
section
variable{prog:Program}{w:World}{A:Around}{E:Value->Shared->Prop}{s:Shared}
end
section
variable{X:Cx}
end
end L2
namespace Att
open PySem PySem.W PySem.Calls PyProof.Rows
theorem uF{P:Params}{h:Heap}:∀(ns:List Int) (vs:List Value),WellAll P h vs (ns.map WData.int)->IntsAre vs ns:=by
 intro ns
 induction ns with
 | nil =>
  intro vs w;rw [List.map_nil] at w;cases w;exact .nil
 | cons n ns ih =>
  intro vs w;rw [aW] at w;cases w with
  | cons a b =>
   cases a;exact .cons _ _ (ih _ b)
theorem JQ{l:OpenLaw}{n:Nat}(hn:l.most=some n){P:Params}{h:Heap}{args:List WData}{vals:List Value}
  (hpre:l.row.toRowW.claim.pre args=true) (hwl:WellAll P h vals args) :
  ∃a vs ns,vals=[Value.ref a]/\args=[WData.list (ns.map WData.int)]/\h.get? a=some { cls:=.type "list",data:=.seq vs.toArray }/\IntsAre vs ns/\ns.length<=n:=by
 have hsh:WShape.hasAll [] args [.list .int]=true:=(pre_splitW hpre).1;have hc:l.pre.holds [] { args:=args }=true:=(pre_splitW hpre).2;obtain ⟨d,r,rfl,h1,h2⟩:=hasAllW_cons hsh;obtain rfl:=hasAllW_nil h2;obtain ⟨xs,rfl,h3⟩:=hasW_list h1;obtain ⟨ns,rfl⟩:=items_int h3;have hlen:ns.length<=n:=by
  unfold OpenLaw.pre at hc;have h4:(WTm.not (.lt (.lit (.int (n:Int))) (.len (.arg 0)))).holds [] { args:=[.list (ns.map .int)] }=true:=by
   have h4:=(holds_andW hc).1;rw [hn] at h4;exact h4
  have h5:=condW_of h4 (w_not (w_lt w_lit (w_len_list (w_arg rfl))));rw [aA] at h5;refine Nat.le_of_not_lt λq=>?_;have q':(n:Int)<((ns.length:Nat):Int):=Oo
  first
   | (rw [bP q'] at h5;exact absurd h5 Dd)
   | (simp at h5;omega)
 cases hwl with
 | cons w1 w2 =>
  cases w2;cases w1 with
  | list ho hall=>exact ⟨_,_,ns,rfl,rfl,ho,uF ns _ hall,hlen⟩
theorem JV(l:OpenLaw)(args:List WData):l.row.toRowW.claim.post args (.bool true) args=true :=
 postW_of (r:=l.row.toRowW) (X:=(true == true))
  (show WShape.has [] (.bool true) .bool=true by first | rfl | decide | simp [WShape.has,WShape.arms,WShape.armsAll])
  (show (WTm.eq .res (.lit (.bool true))).value [] { args:=args,res:=some (.bool true),after:=args }=some (.bool (true == true)) from w_eq_bool (w_res rfl) w_lit) rfl
theorem DX{l:OpenLaw}{n:Nat}{q:Program}{loose:List Str}{XP:(Str->Option Value)->Heap->Prop}{YP:World->Heap->Prop}{d:DefRec}
  (hn:l.most=some n) (hdf:d.params.defaults=[])
  (call:∀(w:World) (s₀ s₁:Shared) (mg mb:Str->Option Value) (fa:Addr) (o:Obj) (pm cd doc:Value) (a:Addr) (vs:List Value) (ns:List Int),
   Ground q loose [] XP w s₀ mg mb s₁.heap->YP w s₁.heap ->
   s₁.heap.get? fa=some o->o.data=.func (docDef d.name d.params d.body d.scope pm cd doc)->s₁.heap.CodeRec cd d.name->mg d.name=some (.ref fa) ->
   s₁.heap.get? a=some { cls:=.type "list",data:=.seq vs.toArray }->IntsAre vs ns->ns.length<=n->s₁.gens=#[] ->
   codeAny (model l.prog w) callerA (.call (.ref fa) ⟨[.ref a],[]⟩) (λr s'=>r=.ok (.ret (.bool true))/\OldK s₁.heap s'.heap/\s'.os=s₁.os/\AllBare s'.gens) s₁) :
  WalkO q loose XP YP l.row.toRowW d [] (λf vs=>PySem.call f vs):=by
 intro w s₀ s₁ mg mb G Y fa o pm cd doc dV kV ho hd hcd hD hmg hg args vals as hpre hlay hrd hwl hlo;obtain rfl:dV=.none:=Dflts.none hD hdf;obtain rfl:kV=.none:=Dflts.noKw hD;obtain ⟨a,vs,ns,rfl,rfl,hobj,hints,hlen⟩:=JQ hn hpre hwl;refine enter_call (codeAny_mono (call w s₀ s₁ mg mb fa o pm cd doc a vs ns G Y ho (fd_plain hd) hcd hmg hobj hints hlen hg) λr s' hq=>?_);obtain ⟨rfl,h2,h3,h4⟩:=hq;exact ⟨.inl ⟨.bool true,.bool true,[],rfl,λ_=>rfl,.bool true,JV l _,λ_=>⟨List.Pairwise.nil,λ_ hm=>(nomatch hm)⟩⟩,h2,h3,h4⟩
section
variable{prog:Program}{w:World}{A:Around}{E:Value->Shared->Prop}{s:Shared}{K:Frag}
end
end Att
namespace L2
open PySem PySem.Spec PyProof.Rows
theorem xP:∀{vs:List Value}{ns:List Int},IntsAre vs ns->cO (ns.map V.int) vs
 | _,_,.nil=>.nil
 | _,_,.cons n t h=>.cons ⟨t,rfl⟩ (xP h)
def WK(H:Hp):Prop:=∀b,H b=none\/∃o xs,H b=some (.frz o (.lst xs))
theorem OT{P:Program}{w:World}{K:PySem.W.Frag}{mg mb:Str->Option Value}{CX:LN}{k:Nat}{fa a:Addr}{fd:FuncData}{x:Str}{sp:Sp}{s₁:Shared}{vs:List Value}{ns:List Int}
  (KX:K.In s₁.heap) (hns:s₁.heap.Ns mainGlobals mg) (hb:s₁.heap.Ns builtinsNs mb) (hbb:∀x:Str,x ≠ "__name__" -> mb x=bootBuiltins x) (hlim:s₁.heap.NoLimit) (hg:s₁.gens=#[])
  (ha:s₁.heap.get? a=some { cls:=.type "list",data:=.seq vs.toArray }) (hi:IntsAre vs ns) (hl:ns.length<=sizeLine) (hr:gX k callerA)
  (F:∀base:Heap,K.In base->base.Ns mainGlobals mg->dI P w K mg base CX k fa fd [x] sp) (hbind:∀(s:Shared) (u:Value),BindsTo s fd ⟨[u],[]⟩ [(x,u)])
  (hsp:∀H:Hp,WK H->fT K H a (ns.map V.int)->sp [.ref a] H (λv _=>v=.bl true) λ_ _ _=>False)
  (hCX:∀H e s',CX [] H s₁ (λ_ _ _=>False) e s'->False) :
  codeAny (model P w) callerA (.call (.ref fa) ⟨[.ref a],[]⟩) (λr s'=>r=.ok (.ret (.bool true))/\OldK s₁.heap s'.heap/\s'.os=s₁.os/\AllBare s'.gens) s₁:=by
 have rv:=xP hi;have lenV:=hi.length;have core:∀H:Hp,WK H->fT K H a (ns.map V.int)->nC P w H s₁.heap->(∀b,H b≠none->b=a)->(H a≠none->K.lookup a=none) ->
   codeAny (model P w) callerA (.call (.ref fa) ⟨[.ref a],[]⟩) (λr s'=>r=.ok (.ret (.bool true))/\OldK s₁.heap s'.heap/\s'.os=s₁.os/\AllBare s'.gens) s₁:=by
  intro H hO hS hok hA hK;have base_of:∀{b:Addr} {o:Obj},s₁.heap.get? b=some o->H b=none->(AZ s₁.heap H).get? b=some o:=λe n=>OW e n;have noA:∀{b:Addr} {o:Obj} {es:Array DictEntry} {ep:Nat},s₁.heap.get? b=some o->o.data=.dict es ep->H b=none:=λ{b o es ep} e d=>by
   cases q:H b with
   | none=>rfl
   | some u =>
    have e':b=a:=hA b (by rw [q];simp);subst e';rw [ha] at e;cases e;have d':Data.seq vs.toArray _=Data.dict es ep:=d;cases d'
  have nsK:∀{b:Addr} {m:Str->Option Value},s₁.heap.Ns b m->(AZ s₁.heap H).Ns b m:=λ{b m} ⟨o,es,ep,e,d,r⟩=>⟨o,es,ep,base_of e (noA e d),d,r⟩;have hKb:K.In (AZ s₁.heap H):=λb o e=>base_of (KX b o e) (by
   cases q:H b with
   | none=>rfl
   | some u =>
    have e':b=a:=hA b (by rw [q];simp);subst e';rw [hK (by rw [q];simp)] at e;cases e)
  have hM:Mod K mg (AZ s₁.heap H):=⟨hKb,nsK hns,⟨mb,nsK hb,hbb⟩,let ⟨mc,h1,h2⟩:=hlim;⟨mc,nsK h1,h2⟩⟩;have e0:GI P w K mg (AZ s₁.heap H) callerA [] s₁ H:=⟨rfl,hM,λb o e=>UQ e,Nat.le_of_eq (KL _ _),trivial,λb hb=>absurd (show b∈([]:List Addr) from hb) (by simp),hok,.of_eq hg⟩;refine codeAny_mono ((F _ hKb (nsK hns)).run callerA [] s₁ H ⟨[.ref a],[]⟩ [.ref a] [.ref a] _ _ hr e0 (hbind s₁ (.ref a)) (.cons rfl .nil) (hsp H hO hS)) λr s' h=>?_;cases r with
  | error e=>exact (hCX H e s' h).elim
  | ok fl =>
   cases fl with
   | next=>exact False.elim h
   | brk=>exact False.elim h
   | cont=>exact False.elim h
   | ret u =>
    obtain ⟨v,H',os,bare,un,hok',r',q⟩:=h;have q':v=.bl true:=q;subst q';obtain rfl:u=Value.bool true:=r';refine ⟨rfl,OldK.of_keep λb o e=>?_,os,bare⟩;cases q:H b with
    | none=>exact un.keep b o e q (by intro z;exact absurd (show b∈([]:List Addr) from z) (by simp)) (by simp)
    | some u =>
     rcases hO b with z | ⟨ob,xs,z⟩
     ·rw [q] at z;cases z
     ·have z2:=un.frzs b ob _ z;obtain ⟨e1,_⟩:=hok b _ z;obtain ⟨e2,_⟩:=hok' b _ z2;rw [e] at e1;cases e1;exact e2
 cases hk:K.lookup a with
 | some o =>
  have e:=KX a o hk;rw [ha] at e;cases e;refine core (λ_=>none) (λ_=>.inl rfl) (.inr ⟨_,vs.toArray,_,hk,rfl,rfl,rfl,by rw [aY,lenV];exact hl,by simpa using rv⟩) (λb u z=>by have z':(none:Option HO)=some u:=z;cases z') (λb z=>absurd rfl z) λz=>absurd rfl z
 | none =>
  refine core (λb=>if b=a then some (.frz { cls:=.type "list",data:=.seq vs.toArray } (.lst (ns.map V.int))) else none) (λb=>?_) (.inl (.inr ⟨{ cls:=.type "list",data:=.seq vs.toArray },if_pos rfl⟩)) (λb u z=>?_) (λb z=>?_) λ_=>hk
  ·by_cases hb:b=a
   ·exact .inr ⟨_,_,if_pos hb⟩
   ·exact .inl (if_neg hb)
  ·by_cases hb:b=a
   ·have z':=(if_pos hb).symm.trans z;cases z';subst hb;exact ⟨ha,by rw [aA];exact hl,vs,_,rv,ha⟩
   ·have z':=(if_neg hb).symm.trans z;cases z'
  ·by_cases hb:b=a
   ·exact hb
   ·exact absurd (if_neg hb) z
theorem GM{l:PySem.W.OpenLaw}{n k:Nat}{q:Program}{loose:List Str}{XP:(Str->Option Value)->Heap->Prop}{YP:World->Heap->Prop}{d:DefRec}{K:Params->PySem.W.Frag}{CX:World->LN}{sp:World->Sp}{x:Str}
  (hn:l.most=some n) (hn2:n<=sizeLine) (hdf:d.params.defaults=[]) (hr:gX k callerA)
  (hY:∀(w:World) (h:Heap),YP w h->(K w.params).In h)
  (F:∀(w:World) (mg:Str->Option Value) (fa:Addr) (h:Heap),(K w.params).In h->h.Ns mainGlobals mg->mg d.name=some (.ref fa) ->
   ∃fd:FuncData,(∀(s:Shared) (u:Value),BindsTo s fd ⟨[u],[]⟩ [(x,u)]) /\
    ∀base:Heap,(K w.params).In base->base.Ns mainGlobals mg->dI l.prog w (K w.params) mg base (CX w) k fa fd [x] (sp w))
  (hsp:∀(w:World) (H:Hp) (a:Addr) (ns:List Int),ns.length<=n->WK H->fT (K w.params) H a (ns.map V.int)->sp w [.ref a] H (λv _=>v=.bl true) λ_ _ _=>False)
  (hCX:∀(w:World) (H:Hp) (s:Shared) (e:Value) (s':Shared),CX w [] H s (λ_ _ _=>False) e s'->False) :
  PySem.W.WalkO q loose XP YP l.row.toRowW d [] (λf vs=>PySem.call f vs):=by
 refine Att.DX hn hdf λw s₀ s₁ mg mb fa o pm cd doc a vs ns G Y ho hd hcd hmg hobj hints hlen hg=>?_;have KX:=hY w _ Y;obtain ⟨fd,hb,hF⟩:=F w mg fa _ KX G.T.g hmg;exact OT KX G.T.g G.T.b G.T.builtins G.T.nolimit hg hobj hints (bC hlen hn2) hr hF hb (λH hO hS=>hsp w H a ns hlen hO hS) λH e s'=>hCX w H s₁ e s'
theorem ME{l:PySem.W.OpenLaw}{n k:Nat}{q:Program}{loose:List Str}{XP:(Str->Option Value)->Heap->Prop}{YP:World->Heap->Prop}{d:DefRec}{K:Params->PySem.W.Frag}{CX:LN}{sp:PySem.W.Frag->Sp}{x:Str}
  (hn:l.most=some n) (hn2:n<=sizeLine) (hdf:d.params.defaults=[]) (hr:gX k callerA)
  (hY:∀(w:World) (h:Heap),YP w h->(K w.params).In h)
  (F:∀(w:World) (mg:Str->Option Value) (fa:Addr) (h:Heap),(K w.params).In h->h.Ns mainGlobals mg->mg d.name=some (.ref fa) ->
   ∃fd:FuncData,(∀(s:Shared) (u:Value),BindsTo s fd ⟨[u],[]⟩ [(x,u)]) /\
    ∀base:Heap,(K w.params).In base->base.Ns mainGlobals mg->dI l.prog w (K w.params) mg base CX k fa fd [x] (sp (K w.params)))
  (hsp:∀(K:PySem.W.Frag) (H:Hp) (a:Addr) (ns:List Int),ns.length<=n->WK H->fT K H a (ns.map V.int)->sp K [.ref a] H (λv _=>v=.bl true) λ_ _ _=>False)
  (hCX:∀(H:Hp) (s:Shared) (e:Value) (s':Shared),CX [] H s (λ_ _ _=>False) e s'->False) :
  PySem.W.WalkO q loose XP YP l.row.toRowW d [] (λf vs=>PySem.call f vs) :=
 GM (K:=K) (CX:=λ_=>CX) (sp:=λw=>sp (K w.params)) hn hn2 hdf hr hY F (λw H a ns h1 h2 h3=>hsp (K w.params) H a ns h1 h2 h3) λ_ H s e s'=>hCX H s e s'
end L2
/- THE LAST THEOREM (shape;LID,My.* are yours):
   My.Adr: a structure of the addresses that your layer names (classes,functions);My.Txt K t: a structure (Prop) of the equations over K;
   My.txt_mk:{K} {implicit addresses ..} (e1:nsIn K mainGlobals "law" = some (some (.ref f))) (e2:K.lookup f=some ⟨oc,od,.func (fnOf "law" "law" params body scope dV kV doc pm an cdv ct),sl⟩) (e3:codeIn K cdv "law" = true) .. : ∃t,My.Txt K t
set_option maxRecDepth 100000 in
set_option maxHeartbeats 0 in
theorem PySem.Challenge.cw_LID_holds : PySem.Challenge.rw_LID.Holds := by
  w_on;o_law;k_head;(case hw=>w_witness2)
  k_fill
  refine L2.GM (l:=PySem.Challenge.rw_LID) (n:=63) (k:=40) (x := "script") (CX:=λw=>..) (sp:=λ_=>My.sp_law) rfl Dd rfl ⟨rfl,Dd,Dd⟩ (λw h Y=>PySem.W.kIn_of Y) ?F ?S ?C
  case F =>
    intro w mg fa h KX G hmg;have T:∃t,My.Txt (L2.KOf KX) t:=by
      dsimp only [L2.KOf]                          -- K must stand as «<heap const> w.params» for k_is
      refine' My.txt_mk ?e1 ?e2 ?e3 ..
      (case e1=>PySem.W.k_is)                    -- in the order: a name -> its address -> its object -> its parts
      (case e2=>PySem.W.k_is)
      ..
    obtain ⟨t,T⟩:=T;have e0:=hmg.symm.trans (PySem.W.mg_of KX G T.law);cases e0                                       -- fa is the law's own address;exact ⟨_,λs u=>.of_eq rfl,λbase kb nb=>My.law_fn T kb nb⟩     -- if «.of_eq rfl» comes too early: refine' ⟨_,?b,λbase kb nb=>My.law_fn T kb nb⟩;exact λs u=>.of_eq rfl
  case S=>exact λw H a ns hl hO hS=>..
  case C=>exact ..
(the tactic k_is has no namespace: write k_is) -/
namespace L2
open PySem PySem.Spec PyProof.Rows
def jJ(s:Stmt)(j:Nat):Stmt:=match s with
 | .ClassDef _ _ _ body _ _ _ _ _ _ _=>body.getD j (.Pass ⟨0,0,0,0⟩)
 | _=>.Pass ⟨0,0,0,0⟩
def fN(s:Stmt):Arguments:=match s with
 | .FunctionDef _ a _ _ _ _ _ _ _ _=>a
 | _=>{ posonlyargs:=[],args:=[],vararg:=none,kwonlyargs:=[],kw_defaults:=[],kwarg:=none,defaults:=[] }
def eW(s:Stmt):List Stmt:=match s with
 | .FunctionDef _ _ b _ _ _ _ _ _ _=>b
 | _=>[]
def aO(s:Stmt):Scope:=match s with
 | .FunctionDef _ _ _ _ _ _ sc _ _ _=>sc
 | _=>{ kind:=.function,names:=[],isGenerator:=false,isCoroutine:=false }
abbrev dQ:LN:=λ_ _ _ _ _ _=>False
abbrev E0:XK:=λ_ _ _=>False
theorem HL{X:Cx}:qK dQ X E0:=λ_ _ _ _ _ _ _ h=>h.elim
structure iH(K:PySem.W.Frag)(x qual:Str)(st:Stmt)(f:Addr)(fd:FuncData):Prop where
 ex:∃(oc:Value) (od:Option Addr) (kV doc pm:Value) (an:Option Addr) (cdv ct:Value) (osl:Array (Option Value)),
  fd=PySem.W.fnOf x qual (fN st) (eW st) (aO st) .none kV doc pm an cdv ct/\K.lookup f=some ⟨oc,od,.func fd,osl⟩/\PySem.W.codeIn K cdv qual=true
 kp:PySem.W.keepIn K (.ref f)=true
section
variable{P:Program}{w:World}{K:PySem.W.Frag}{mg:Str->Option Value}{base:Heap}
theorem iH.ok{x qual:Str}{st:Stmt}{f:Addr}{fd:FuncData}{N ps:List Str}{k:Nat}{sp:Sp}(F:iH K x qual st f fd)(S:bR N ps (aO st))(len:∀vs H Q E,sp vs H Q E->vs.length=ps.length)
  (hbody:∀(cdv:Value) (A:Around) (outer:List Env) (s:Shared) (H:Hp) (vs:List V) (Q:VK) (E:XK),gX k (A.deeper (envOfC qual (aO st) s.heap.objs.size f cdv))->sp vs H Q E ->
   ∃t,GF (DL dQ P w K mg base N qual (aO st) f cdv A outer s H E).nox (eW st) t/\t { nx:=λ_ H'=>Q .non H',rt:=Q } (start N vs) H):dI P w K mg base dQ (k+1) f fd ps sp:=by
 obtain ⟨oc,od,kV,doc,pm,an,cdv,ct,osl,rfl,lk,hcd⟩:=F.ex;refine aCf lk hcd S len λA outer s H vs Q E hr hsp=>?_;obtain ⟨t,h,q⟩:=hbody cdv A outer s H vs Q E hr hsp;exact ⟨t,h.nox,q⟩
theorem iH.binds{x qual:Str}{st:Stmt}{f:Addr}{fd:FuncData}{ps:List Str}(F:iH K x qual st f fd)
  (h:∀(kV doc pm:Value) (an:Option Addr) (cdv ct:Value) (us:List Value),us.length=ps.length->bindArgs (PySem.W.fnOf x qual (fN st) (eW st) (aO st) .none kV doc pm an cdv ct) ⟨us,[]⟩=pure (ps.zip us)):nD K fd ps []:=by
 obtain ⟨oc,od,kV,doc,pm,an,cdv,ct,osl,rfl,lk,hcd⟩:=F.ex;exact .all (h kV doc pm an cdv ct)
theorem jF{x qual:Str}{st:Stmt}{f:Addr}{oc:Value}{od an:Option Addr}{osl:Array (Option Value)}{kV doc pm cdv ct:Value}(l:K.lookup f=some ⟨oc,od,.func (PySem.W.fnOf x qual (fN st) (eW st) (aO st) .none kV doc pm an cdv ct),osl⟩)
  (c:PySem.W.codeIn K cdv qual=true) (k:PySem.W.keepIn K (.ref f)=true):iH K x qual st f (PySem.W.fnOf x qual (fN st) (eW st) (aO st) .none kV doc pm an cdv ct):=⟨⟨oc,od,kV,doc,pm,an,cdv,ct,osl,rfl,l,c⟩,k⟩
end
theorem xX{n:Nat}(h:n<=1000):n<sizeLine:=bG h Dd
section
variable{X:Cx}
theorem pv(i:Nat){x:Str}{pos:Pos}(hN:X.N[i]?=some x:=by rfl)(hv:Vis X.env.scope x:=by first | exact Or.inl rfl | exact Or.inr (Or.inl rfl) | exact Or.inr (Or.inr rfl))(hd:(x == ("__debug__" : Str))=false:=by decide)
  (hcd:(x == ("__classdict__" : Str))=false:=by decide):PE X (.Name x pos) (YM i):=aAo hN hv hd hcd
end
theorem kY{A B:Prop}(h:B):if false=true then A else B:=by
 rw [if_neg cA];exact h
theorem lI{A B:Prop}(h:A):if true=true then A else B:=by
 rw [if_pos rfl];exact h
theorem aB9{c A B:Prop}[Decidable c](h1:c->A)(h2:¬c->B):if c then A else B:=by
 by_cases h:c
 ·rw [if_pos h];exact h1 h
 ·rw [if_neg h];exact h2 h
def bF(H H':Hp):Prop:=∀b o,H b=some o->H' b=some o
theorem bF.refl(H:Hp):bF H H:=λ_ _ h=>h
theorem bF.trans{H H1 H2:Hp}(a:bF H H1)(b:bF H1 H2):bF H H2:=λc o h=>b c o (a c o h)
theorem bF.free{H H':Hp}(e:bF H H'){l:Addr}(h:H' l=Option.none):H l=Option.none:=by
 cases q:H l with
 | none=>rfl
 | some o =>
  rw [e l o q] at h;cases h
section
variable{κ:Type}[DecidableEq κ]
def fB(kvs:List (κ × V))(k:κ):Option V:=(kvs.find? λkv=>decide (kv.1=k)).map (·.2)
def iW(kvs:List (κ × V))(k:κ)(v:V):List (κ × V) :=
 if (kvs.any λkv=>decide (kv.1=k))=true then kvs.map (λkv=>if kv.1=k then (kv.1,v) else kv) else kvs++[(k,v)]
theorem gC{p:κ × V}{r:List (κ × V)}{k:κ}(e:p.1=k):fB (p::r) k=some p.2:=by simp [fB,List.find?_cons,e]
theorem gD{p:κ × V}{r:List (κ × V)}{k:κ}(e:¬p.1=k):fB (p::r) k=fB r k:=by simp [fB,List.find?_cons,e]
theorem jL(k:κ):∀kvs:List (κ × V),(kvs.any λkv=>decide (kv.1=k))=(fB kvs k).isSome
 | []=>rfl
 | p::r=>by
  rw [List.any_cons];by_cases e:p.1=k
  ·simp only [gC e,bP e,Bool.true_or,Option.isSome_some]
  ·rw [gD e,bX e,Bool.false_or];exact jL k r
theorem BW(k j:κ)(y:V):∀kvs:List (κ × V),fB (kvs.map λkv=>if kv.1=k then (kv.1,y) else kv) j=(fB kvs j).map λx=>if j=k then y else x
 | []=>rfl
 | p::r=>by
  have ih:=BW k j y r;rw [aW];by_cases h:p.1=k
  ·rw [if_pos h];by_cases e:p.1=j
   ·rw [gC (p:=(p.1,y)) e,gC e,Option.map_some,if_pos (e.symm.trans h)]
   ·rw [gD (p:=(p.1,y)) e,gD e,ih]
  ·rw [if_neg h];by_cases e:p.1=j
   ·rw [gC (p:=p) e,gC e,Option.map_some,if_neg (λz=>h (e.trans z))]
   ·rw [gD (p:=p) e,gD e,ih]
theorem xR(k j:κ)(y:V):∀kvs:List (κ × V),fB kvs k=none->fB (kvs++[(k,y)]) j=if j=k then some y else fB kvs j
 | [],_=>by
  by_cases e:k=j
  ·rw [if_pos e.symm];exact gC (p:=(k,y)) e
  ·rw [if_neg (λz=>e z.symm)];exact gD (p:=(k,y)) e
 | p::r,hn=>by
  rw [List.cons_append];have hk:¬p.1=k:=λz=>by rw [gC z] at hn;cases hn
  rw [gD hk] at hn;have ih:=xR k j y r hn;by_cases e:p.1=j
  ·rw [gC e,gC e,if_neg (λz=>hk (e.trans z))]
  ·rw [gD e,gD e,ih]
theorem BV(kvs:List (κ × V))(k j:κ)(y:V):fB (iW kvs k y) j=if j=k then some y else fB kvs j:=by
 unfold iW;by_cases a:(kvs.any λkv=>decide (kv.1=k))=true
 ·rw [if_pos a,BW];rw [jL] at a;by_cases e:j=k
  ·obtain ⟨x,hx⟩:=Option.isSome_iff_exists.mp a;rw [if_pos e,e,hx,Option.map_some,if_pos rfl]
  ·rw [if_neg e];cases fB kvs j with
   | none=>rfl
   | some x=>rw [Option.map_some,if_neg e]
 ·rw [if_neg a];refine xR k j y kvs ?_;rw [jL] at a;cases q:fB kvs k with
  | none=>rfl
  | some x=>rw [q] at a;exact (a rfl).elim
theorem iL(kvs:List (κ × V))(k:κ)(v:V):(iW kvs k v).length<=kvs.length+1:=by
 unfold iW;split
 ·rw [aA];omega
 ·rw [bK,cF,List.length_nil];omega
theorem CP{kvs:List (κ × V)}{k:κ}(v:V)(h:fB kvs k=none):iW kvs k v=kvs++[(k,v)]:=by
 unfold iW;rw [jL,h];exact if_neg Dd
theorem nG.isSome_eq{o:Option V}{u:Option Value}(r:nG o u):o.isSome=u.isSome:=by
 cases o with
 | none=>cases u with
  | none=>rfl
  | some _=>exact (show False from r).elim
 | some _=>cases u with
  | none=>exact (show False from r).elim
  | some _=>rfl
theorem nG.getD{o:Option V}{u:Option Value}{d:V}{d':Value}(r:nG o u)(rd:dH d d'):dH (o.getD d) (u.getD d'):=by
 cases o with
 | none=>cases u with
  | none=>exact rd
  | some _=>exact (show False from r).elim
 | some _=>cases u with
  | none=>exact (show False from r).elim
  | some _=>exact r
theorem KV.val{kvs:List (κ × V)}{vs:List (κ × Value)}(r:KV kvs vs)(k:κ):nG (fB kvs k) (valueAt vs k):=by
 unfold KV at r
 induction r with
 | nil=>exact True.intro
 | @cons p q ps qs h t ih =>
  obtain ⟨h1,h2⟩:=h;by_cases e:p.1=k
  ·have e':q.1=k:=h1.symm.trans e;have b:valueAt (q::qs) k=some q.2:=by simp [valueAt,List.find?_cons,e']
   rw [gC e,b];exact h2
  ·have e':¬q.1=k:=λz=>e (h1.trans z);have b:valueAt (q::qs) k=valueAt qs k:=by simp [valueAt,List.find?_cons,e']
   rw [gD e,b];exact ih
theorem KV.any{kvs:List (κ × V)}{vs:List (κ × Value)}(r:KV kvs vs)(k:κ):(kvs.any λkv=>decide (kv.1=k))=vs.any λkv=>decide (kv.1=k):=by
 unfold KV at r
 induction r with
 | nil=>rfl
 | cons h t ih=>rw [List.any_cons,List.any_cons,ih,h.1]
theorem KV.repl{kvs:List (κ × V)}{vs:List (κ × Value)}(r:KV kvs vs)(k:κ){y:V}{u:Value}(ry:dH y u) :
  KV (kvs.map λkv=>if kv.1=k then (kv.1,y) else kv) (vs.map λkv=>if kv.1=k then (kv.1,u) else kv):=by
 unfold KV at r ⊢
 induction r with
 | nil=>exact .nil
 | @cons p q ps qs h t ih =>
  rw [aW,aW];refine .cons ?_ ih;obtain ⟨h1,h2⟩:=h;by_cases e:p.1=k
  ·rw [if_pos e,if_pos (h1.symm.trans e)];exact ⟨h1,ry⟩
  ·rw [if_neg e,if_neg (λz=>e (h1.trans z))];exact ⟨h1,h2⟩
theorem KV.put{kvs:List (κ × V)}{vs:List (κ × Value)}(r:KV kvs vs)(k:κ){y:V}{u:Value}(ry:dH y u):KV (iW kvs k y) (stored vs k u):=by
 unfold iW stored;rw [r.any k];by_cases e:(vs.any λkv=>decide (kv.1=k))=true
 ·rw [if_pos e,if_pos e];exact r.repl k ry
 ·rw [if_neg e,if_neg e];exact Paired.snoc r ⟨rfl,ry⟩
theorem KV.length{kvs:List (κ × V)}{vs:List (κ × Value)}(r:KV kvs vs):kvs.length=vs.length:=Paired.length r
end
theorem DB{P:Program}{w:World}{k:eL}{u:Value}(r:dH (kV k) u):(eG P w).is k u=true:=by
 cases k with
 | inl i=>obtain ⟨t,e⟩:=(show ∃t,u=Value.int i t from r);subst e;exact CU P w i t
 | inr x=>obtain ⟨t,e⟩:=(show ∃t,u=Value.str x t from r);subst e;exact CT P w x t
theorem yL{P:Program}{w:World}:∀{ks:List eL}{us:List Value},cO (ks.map kV) us->ItemsAre (eG P w) ks us
 | [],_,r=>by rw [List.map_nil] at r;cases r;exact .nil
 | k::ks,_,r=>by
  rw [aW] at r;cases r with
  | cons h t=>exact .cons (DB h) (yL t)
abbrev KT(H:Hp):List (List eL × V)->List (List eL × Addr × Value)->Prop:=Paired λp q=>p.1=q.1/\H q.2.1=some (.tup (p.1.map kV))/\dH p.2 q.2.2
theorem KT.val{H:Hp}{kvs:List (List eL × V)}{xs:List (List eL × Addr × Value)}(r:KT H kvs xs)(k:List eL):nG (fB kvs k) ((atKey xs k).map (·.2)):=by
 induction r with
 | nil=>exact True.intro
 | @cons p q ps qs h t ih =>
  obtain ⟨h1,_,h2⟩:=h;by_cases e:p.1=k
  ·have e':q.1=k:=h1.symm.trans e;have b:atKey (q::qs) k=some q.2:=by simp [atKey,List.find?_cons,e']
   rw [gC e,b];exact h2
  ·have e':¬q.1=k:=λz=>e (h1.trans z);have b:atKey (q::qs) k=atKey qs k:=by simp [atKey,List.find?_cons,e']
   rw [gD e,b];exact ih
theorem KT.repl{H:Hp}{kvs:List (List eL × V)}{xs:List (List eL × Addr × Value)}(r:KT H kvs xs)(k:List eL){y:V}{u:Value}(ry:dH y u) :
  KT H (kvs.map λkv=>if kv.1=k then (kv.1,y) else kv) (xs.map (putAt k u)):=by
 induction r with
 | nil=>exact .nil
 | @cons p q ps qs h t ih =>
  rw [aW,aW];refine .cons ?_ ih;obtain ⟨h1,h2,h3⟩:=h;unfold putAt;by_cases e:p.1=k
  ·rw [if_pos e,if_pos (h1.symm.trans e)];exact ⟨h1,h2,ry⟩
  ·rw [if_neg e,if_neg (λz=>e (h1.trans z))];exact ⟨h1,h2,h3⟩
theorem KT.put{H:Hp}{kvs:List (List eL × V)}{xs:List (List eL × Addr × Value)}(r:KT H kvs xs)(k:List eL){b:Addr}{y:V}{u:Value}(hb:H b=some (.tup (k.map kV)))(ry:dH y u) :
  KT H (iW kvs k y) (storedH xs k b u):=by
 have e:(kvs.any λkv=>decide (kv.1=k))=(atKey xs k).isSome:=by
  rw [jL,(r.val k).isSome_eq,Option.isSome_map]
 unfold iW storedH;rw [e];by_cases q:(atKey xs k).isSome=true
 ·rw [if_pos q,if_pos q];exact r.repl k ry
 ·rw [if_neg q,if_neg q];exact Paired.snoc r ⟨rfl,hb,ry⟩
theorem KT.keeps{H H':Hp}{kvs:List (List eL × V)}{xs:List (List eL × Addr × Value)}(r:KT H kvs xs)(ht:∀b ys,H b=some (.tup ys)->H' b=some (.tup ys)):KT H' kvs xs :=
 Paired.mapP r λ_ _ z=>⟨z.1,ht _ _ z.2.1,z.2.2⟩
section
variable{P:Program}{w:World}{H:Hp}{h:Heap}{a:Addr}
theorem XG{u:HO}(ok:nC P w H h)(e:Rd H a u):eE P w H h a u:=e.ok ok
theorem DI{kvs:List (eL × V)}(ok:nC P w H h)(e:Rd H a (.dK kvs)):kvs.length<=sizeLine/\(a == sysModules)=false/\∃vs,KV kvs vs/\h.DictOf (eG P w) a vs :=
 show eE P w H h a (.dK kvs) from XG ok e
theorem XY{kvs:List (eL × V)}(ok:nC P w H h)(e:H a=some (.dK kvs)):kvs.length<=sizeLine/\(a == sysModules)=false/\∃vs,KV kvs vs/\h.DictOf (eG P w) a vs:=DI ok (.inl e)
theorem qF{ks:List eL}(ok:nC P w H h)(e:H a=some (.tup (ks.map kV))):(tupleKind (eG P w)).is h ks a:=by
 obtain ⟨_,its,r,o,h1,h2,n,h3⟩:=(show eE P w H h a (.tup (ks.map kV)) from ok a _ e);exact ⟨o,its.toArray,n,h1,h2,h3,by simpa using yL r⟩
theorem DH{kvs:List (List eL × V)}(ok:nC P w H h)(e:Rd H a (.dT kvs)):kvs.length<=sizeLine/\(a == sysModules)=false /\
  ∃xs,KT H kvs xs/\h.DictOfH (tupleKind (eG P w)) a xs:=by
 obtain ⟨z,y,xs,r,o,es,ep,h1,h2,h3,h4,h5⟩:=(show eE P w H h a (.dT kvs) from XG ok e);refine ⟨z,y,xs,r,o,es,ep,h1,h2,h3,h4,λx hx=>?_,h5⟩;have all:∀{l:List (List eL × V)} {m:List (List eL × Addr × Value)},KT H l m->∀x∈m,(tupleKind (eG P w)).is h x.1 x.2.1:=by
  intro l m q
  induction q with
  | nil=>intro x hx;exact nomatch hx
  | @cons p q ps qs hq t ih =>
   intro x hx;rcases aQ.mp hx with e | hx
   ·subst e;exact qF ok (by rw [<-hq.1];exact hq.2.1)
   ·exact ih x hx
 exact all r x hx
theorem XX{kvs:List (List eL × V)}(ok:nC P w H h)(e:H a=some (.dT kvs)):kvs.length<=sizeLine/\(a == sysModules)=false /\
  ∃xs,KT H kvs xs/\h.DictOfH (tupleKind (eG P w)) a xs:=DH ok (.inl e)
end
def nH(H:Hp)(a:Addr)(y:V)(r:Option V):Prop :=
 (∃kvs k,Rd H a (.dK kvs)/\y=kV k/\r=fB kvs k)\/∃kvs k b,Rd H a (.dT kvs)/\y=.ref b/\H b=some (.tup (k.map kV))/\r=fB kvs k
def BO(H:Hp)(a:Addr)(y v:V)(H':Hp):Prop :=
 (∃kvs k,H a=some (.dK kvs)/\y=kV k/\kvs.length<sizeLine/\H'=upd H a (.dK (iW kvs k v))) \/
 ∃kvs k b,H a=some (.dT kvs)/\y=.ref b/\H b=some (.tup (k.map kV))/\kvs.length<sizeLine/\H'=upd H a (.dT (iW kvs k v))
theorem nH.k{H:Hp}{a:Addr}{kvs:List (eL × V)}{k:eL}(e:H a=some (.dK kvs)):nH H a (kV k) (fB kvs k):=.inl ⟨kvs,k,.inl e,rfl,rfl⟩
theorem nH.t{H:Hp}{a b:Addr}{kvs:List (List eL × V)}{k:List eL}(e:H a=some (.dT kvs))(eb:H b=some (.tup (k.map kV))):nH H a (.ref b) (fB kvs k):=.inr ⟨kvs,k,b,.inl e,rfl,eb,rfl⟩
theorem BO.k{H:Hp}{a:Addr}{kvs:List (eL × V)}{k:eL}{v:V}(e:H a=some (.dK kvs))(hl:kvs.length<sizeLine):BO H a (kV k) v (upd H a (.dK (iW kvs k v))):=.inl ⟨kvs,k,e,rfl,hl,rfl⟩
theorem BO.t{H:Hp}{a b:Addr}{kvs:List (List eL × V)}{k:List eL}{v:V}(e:H a=some (.dT kvs))(eb:H b=some (.tup (k.map kV)))(hl:kvs.length<sizeLine) :
  BO H a (.ref b) v (upd H a (.dT (iW kvs k v))):=.inr ⟨kvs,k,b,e,rfl,eb,hl,rfl⟩
section
variable{X:Cx}{pins:List (Addr × Obj)}{σ:St}{H:Hp}{s:Shared}{a:Addr}{y v:V}{u r:Value}{o:Option V}{A:Around}{E:Value->Shared->Prop}
theorem cB.big(I:cB X pins σ H s):sysModules<s.heap.objs.size:=by
 have h:mainGlobals<s.heap.objs.size:=(I.mod.glob.keeps I.bk).lt;exact Nat.lt_trans Dd h
theorem KQ{Q:Value->Shared->Prop}(hu:A.units+1<cLine)(I:cB X pins σ H s)(g:nH H a y (some v))(ry:dH y u)(h:∀w' s',cB X pins σ H s'->dH v w'->Q w' s') :
  wpAny (model X.prog X.w) A (getItem (.ref a) u) Q E s:=by
 rcases g with ⟨kvs,k,e,ey,l⟩ | ⟨kvs,k,b,e,ey,eb,l⟩
 ·subst ey;obtain ⟨z,hd,vs,rel,dd⟩:=DI I.hok e;obtain ⟨w',hw,rw'⟩:=nG.some_of (v:=v) (o:=valueAt vs k) (by rw [l];exact rel.val k);exact wpAny_getItem_of (DB ry) dd.mapOf hw (h w' _ (I.tok _) rw')
 ·subst ey;cases (show u=Value.ref b from ry);obtain ⟨z,hd,xs,rel,dd⟩:=DH I.hok e;obtain ⟨w',hw,rw'⟩:=nG.some_of (v:=v) (o:=(atKey xs k).map (·.2)) (by rw [l];exact rel.val k);obtain ⟨p,hp,hp2⟩:=fR.mp hw;refine wpAny_getItem_heap (tupleKind_room_in1 hu) (qF I.hok eb) dd hp ?_;rw [hp2];exact h w' _ (I.tok _) rw'
theorem rZ{h':Heap}{t':Nat}{ob:HO}(I:cB X pins σ H s)(mu:Mut (H a))(hs:Heap.SameBut a s.heap h')(he:∃q,h'.get? a=some q)(new:eE X.prog X.w (upd H a ob) h' a ob) :
  cB X pins σ (upd H a ob) { s with heap:=h',toks:=t' } :=
 I.write (x:=a) (e:=a) mu (.inl rfl) (λb q hb z=>(hs.2 b hb).trans z) he new
theorem PJ{P:Program}{w:World}{H':Hp}{h':Heap}{kvs:List (eL × V)}{vs:List (eL × Value)}(z:kvs.length<=sizeLine)(hd:(a == sysModules)=false)(rel:KV kvs vs)(dd:h'.DictOf (eG P w) a vs) :
  eE P w H' h' a (.dK kvs):=⟨z,hd,vs,rel,dd⟩
theorem KP{H':Hp}{Q:Unit->Shared->Prop}(hu:A.units+1<cLine)(I:cB X pins σ H s)(g:BO H a y v H')(ry:dH y u)(rv:dH v r)(h:∀s',cB X pins σ H' s'->Q () s') :
  wpAny (model X.prog X.w) A (setItem (.ref a) u r) Q E s:=by
 rcases g with ⟨kvs,k,e,ey,l,eH⟩ | ⟨kvs,k,b,e,ey,eb,l,eH⟩
 ·subst ey eH;obtain ⟨z,hd,vs,rel,dd⟩:=XY I.hok e;have hz:vs.length<=sizeLine:=by rw [<-rel.length];exact z
  have hl:(iW kvs k v).length<=sizeLine:=by have:=iL kvs k v;omega
  refine wpAny_setItem_pairs (hsz:=hz) (DB ry) dd λh' dd' hs=>h _ ?_;have he:∃q,h'.get? a=some q:=let ⟨q,_,_,hq,_⟩:=dd';⟨q,hq⟩;exact rZ I (by rw [e];exact True.intro) hs he (PJ hl hd (rel.put k rv) dd')
 ·subst ey eH;cases (show u=Value.ref b from ry);obtain ⟨z,hd,xs,rel,dd⟩:=XX I.hok e;have hz:xs.length<=sizeLine:=by rw [<-Paired.length rel];exact z
  have hl:(iW kvs k v).length<=sizeLine:=by have:=iL kvs k v;omega
  refine wpAny_setItem_heap (hsz:=hz) (tupleKind_room_in1 hu) (qF I.hok eb) dd λh' dd' hs=>h _ ?_;obtain ⟨q,es,ep,hq,h2,h3,h4,_,h5⟩:=dd';refine rZ I (by rw [e];exact True.intro) hs ⟨q,hq⟩ ⟨hl,hd,_,(rel.put k eb rv).keeps λc ys ec=>?_,q,es,ep,hq,h2,h3,h4,h5⟩;rw [cL (pU ec e (λz=>nomatch z))];exact ec
end
section
variable{X:Cx}{pins:List (Addr × Obj)}{σ:St}{H:Hp}{s:Shared}{a:Addr}{kvs:List (eL × V)}{k:eL}{u:Value}{A:Around}{E:Value->Shared->Prop}
end
def aA9(i:Expr):Prop:=∀ov iv,subscripted i false ov iv=operate [ov,iv] (getItem ov iv)
theorem SM{prog:Program}{w:World}{A:Around}{E:Value->Shared->Prop}{s:Shared}{env:Env}{value slice:Expr}{pos:Pos}{T id:String}{Q:Value->Shared->Prop}
  (hl:typeLookup (.type T) "__getitem__" = pure (some (.builtin id))) (hs:aA9 slice)
  (h:wpAny (model prog w) A (eval value env) (λo s₁=>wpAny (model prog w) A (eval slice env) (λi s₂=>s₂.TypeIs o T/\wpAny (model prog w) A (getItem o i) Q E s₂) E s₁) E s) :
  wpAny (model prog w) A (eval (.Subscript value slice pos) env) Q E s:=by
 refine Subscript_ (wpAny_mono h (λo s₁ h₁=>wpAny_mono h₁ (λi s₂ h₂=>?_) λ_ _ x=>x) λ_ _ x=>x);obtain ⟨hT,h₂⟩:=h₂;unfold subscriptTail;refine wpAny_bind ?_;rw [getitemInPython_of_ne hT.not_modules];refine wpAny_bind (wpAny_specialOf hT hl ?_);have fin:wpAny (model prog w) A (subscripted slice false o i) (λr s₃=>wpAny (model prog w) A (letTemporaryGo value o r >>= λ_=>pure r) Q E s₃) E s₂:=by
  rw [hs o i];exact wpAny_operating (wpAny_mono h₂ (λr s₃ h₃=>wpAny_bind (wpAny_letTemporaryGo (wpAny_pure h₃))) λ_ _ x=>x)
 first
  | exact wpAny_pure (wpAny_bind fin)
  | exact wpAny_bind (wpAny_pure (wpAny_bind fin))
  | exact wpAny_bind fin
theorem DJ{X:Cx}{pins:List (Addr × Obj)}{σ:St}{H:Hp}{s:Shared}{a:Addr}{y:V}{o:Option V}(I:cB X pins σ H s)(g:nH H a y o):s.TypeIs (.ref a) "dict" := by
 rcases g with ⟨kvs,k,e,_,_⟩ | ⟨kvs,k,b,e,_,_,_⟩
 ·obtain ⟨_,_,vs,_,dd⟩:=DI I.hok e;exact dd.typeIs
 ·obtain ⟨_,_,xs,_,dd⟩:=DH I.hok e;exact dd.typeIs
def aBB(td ty:TE):TE:=λσ H Q=>td σ H λx H1=>ty σ H1 λy H2=>∃a v,x=.ref a/\nH H2 a y (some v)/\Q v H2
def aBJ(td ty tv:TE):TS:=λD σ H=>tv σ H λv H1=>td σ H1 λx H2=>ty σ H2 λy H3=>∃a H4,x=.ref a/\BO H3 a y v H4/\D.nx σ H4
section
variable{X:Cx}{o i e value:Expr}{pos pos' tpos:Pos}{td ty tv:TE}
theorem UG(hu:X.A.units+1<cLine)(ho:PE X o td)(hi:PE X i ty)(hs:aA9 i):PE X (.Subscript o i pos) (aBB td ty):=by
 intro pins s σ H Q I h;refine SM PySem.F.slot_dict_getitem.lookup hs (thn (ho pins s σ H _ I h) λu s1 ⟨x,H1,I1,rx,q1⟩=>thn (hi pins s1 σ H1 _ I1 q1) λiv s2 ⟨y,H2,I2,ry,a,v,ex,g,q2⟩=>?_);subst ex;obtain rfl:u=Value.ref a:=rx;exact ⟨DJ I2 g,KQ hu I2 g ry λw' s3 I3 rw'=>⟨v,H2,I3,rw',q2⟩⟩
theorem TX(hu:X.A.units+1<cLine)(ho:PE X o td)(hi:PE X i ty)(hv:PE X value tv)(hs:swapsWith value (some (.Subscript o i pos')) pos.line X.env=pure false) :
  PS X (.Assign [.Subscript o i pos'] value pos) (aBJ td ty tv):=by
 intro pins s σ H D I h;refine wpAny_Assign_Subscript (thn (hv pins s σ H _ I h) λr s1 ⟨v,H1,I1,rv,q1⟩=>thn (ho pins s1 σ H1 _ I1 q1) λu s2 ⟨x,H2,I2,rx,q2⟩=>thn (hi pins s2 σ H2 _ I2 q2) λiv s3 ⟨y,H3,I3,ry,a,H4,ex,g,q3⟩=>?_) hs;subst ex;obtain rfl:u=Value.ref a:=rx;exact KP hu I3 g ry rv λs4 I4=>⟨σ,H4,I4,q3⟩
end
theorem PL{P:Program}{w:World}{H:Hp}(h:Heap)(hb:sysModules<h.objs.size):eE P w H (h.push { cls:=.type "dict",data:=.dict #[] }) h.objs.size (.dK []) :=
 ⟨cV _,beq_eq_false_iff_ne.mpr (Ne.symm (cJ hb)),[],.nil,Heap.DictOf.new h⟩
theorem wU{P:Program}{w:World}{H:Hp}(h:Heap)(hb:sysModules<h.objs.size):eE P w H (h.push { cls:=.type "dict",data:=.dict #[] }) h.objs.size (.dT []) :=
 ⟨cV _,beq_eq_false_iff_ne.mpr (Ne.symm (cJ hb)),[],.nil,_,#[],0,bA _ rfl,⟨rfl,rfl,rfl⟩,rfl,rfl,List.nodup_nil⟩
def ML:TE:=λ_ H Q=>∀p,H p=none->Q (.ref p) (upd H p (.dT []))
section
variable{X:Cx}{pos:Pos}
theorem pe_dnewT:PE X (.Dict [] [] pos) ML:=λpins s σ H Q I h =>
 wpAny_Dict_empty ⟨.ref s.heap.objs.size,_,I.laid (a:=s.heap.objs.size) (o:=.dT []) (t':=s.toks) (λ_ _ q=>aB _ q) (aG _) (wU s.heap I.big),rfl,h _ (I.hok.fresh (aG _))⟩
end
def EL:List (TE × TE)->St->Hp->(List (V × V)->Hp->Prop)->Prop
 | [],_,H,Q=>Q [] H
 | (tk,tv)::r,σ,H,Q=>tk σ H λx H1=>tv σ H1 λy H2=>EL r σ H2 λps H3=>Q ((x,y)::ps) H3
abbrev VV:List (V × V)->List (Value × Value)->Prop:=Paired λp q=>dH p.1 q.1/\dH p.2 q.2
def PPs(X:Cx)(pos:Pos)(keys:List (Option Expr))(values:List Expr)(trs:List (TE × TE)):Prop :=
 ∀(pins:List (Addr × Obj)) (s:Shared) (σ:St) (H:Hp) (Q:List (V × V)->Hp->Prop),cB X pins σ H s->EL trs σ H Q ->
  wpAny (model X.prog X.w) X.A (evalPairs (pairTrees keys values X.env pos)) (λvs s'=>∃ps H',cB X pins σ H' s'/\VV ps vs/\Q ps H') X.xe s
theorem pps_nil{X:Cx}{pos:Pos}:PPs X pos [] [] []:=λpins s σ H Q I h=>pairTrees_nil_walk ⟨[],H,I,.nil,h⟩
theorem NQ{X:Cx}{pos:Pos}{k v:Expr}{ks:List (Option Expr)}{vs:List Expr}{tk tv:TE}{trs:List (TE × TE)}(hk:PE X k tk)(hv:PE X v tv)(hr:PPs X pos ks vs trs) :
  PPs X pos (some k::ks) (v::vs) ((tk,tv)::trs):=λpins s σ H Q I h =>
 pairTrees_cons_walk (thn (hk pins s σ H _ I h) λu s1 ⟨x,H1,I1,rx,q1⟩=>thn (hv pins s1 σ H1 _ I1 q1) λw2 s2 ⟨y,H2,I2,ry,q2⟩ =>
  thn (hr pins s2 σ H2 _ I2 q2) λws s3 ⟨ps,H3,I3,rel,q3⟩=>⟨(x,y)::ps,H3,I3,.cons ⟨rx,ry⟩ rel,q3⟩)
def oN(kvs more:List (eL × V)):List (eL × V):=more.foldl (λacc kv=>iW acc kv.1 kv.2) kvs
theorem KV.merge:∀{more:List (eL × V)}{rs:List (eL × Value)}{kvs:List (eL × V)}{vs:List (eL × Value)},KV more rs->KV kvs vs->KV (oN kvs more) (merged vs rs):=by
 intro more rs kvs vs r;unfold KV at r
 induction r generalizing kvs vs with
 | nil=>intro q;exact q
 | @cons p q ps qs h t ih =>
  intro r0;have e:KV (iW kvs p.1 p.2) (stored vs q.1 q.2):=by
   have:=r0.put p.1 h.2;rw [<-h.1];exact this
  exact ih e
theorem pV:∀(more kvs:List (eL × V)),(oN kvs more).length<=kvs.length+more.length
 | [],kvs=>by show kvs.length<=kvs.length+0;omega
 | p::r,kvs=>by
  have h1:=pV r (iW kvs p.1 p.2);have h2:=iL kvs p.1 p.2;show (oN (iW kvs p.1 p.2) r).length<=_;rw [cF];omega
theorem wY{P:Program}{w:World}:∀{kvs:List (eL × V)}{ws:List (Value × Value)},VV (kvs.map λkv=>(kV kv.1,kv.2)) ws->∃rs,Carries (eG P w) ws rs/\KV kvs rs
 | [],_,r=>by rw [List.map_nil] at r;cases r;exact ⟨[],True.intro,.nil⟩
 | p::kvs,_,r=>by
  rw [aW] at r;cases r with
  | @cons a b as bs h t =>
   obtain ⟨rs,c,q⟩:=wY (P:=P) (w:=w) t;obtain ⟨b1,b2⟩:=b;exact ⟨(p.1,b2)::rs,⟨DB h.1,rfl,c⟩,.cons ⟨rfl,h.2⟩ q⟩
def WZ(trs:List (TE × TE)):TE:=λσ H Q=>∀p,H p=none->EL trs σ (upd H p (.dK [])) λps H2=>H2 p=some (.dK [])/\∃kvs:List (eL × V),ps=kvs.map (λkv=>(kV kv.1,kv.2))/\kvs.length<=15/\Q (.ref p) (upd H2 p (.dK (oN [] kvs)))
theorem UF{X:Cx}{pos:Pos}{keys:List (Option Expr)}{values:List Expr}{trs:List (TE × TE)}(h:PPs X pos keys values trs)(hall:keys.all (·.isSome)=true)(hl:keys.length=values.length)(h0:keys≠[])
  (h15:keys.length<=15):PE X (.Dict keys values pos) (WZ trs):=by
 intro pins s σ H Q I q;have hn:=I.hok.fresh (aG s.heap.objs.size);have I1:=I.laid (a:=s.heap.objs.size) (o:=.dK []) (h':=s.heap.push { cls:=.type "dict",data:=.dict #[] }) (t':=s.toks) (λ_ _ q=>aB _ q) (aG _) (PL s.heap I.big);refine wpAny_Dict_walk (knd:=eG X.prog X.w) hall hl h0 h15 (thn (h pins _ σ _ _ I1 (q _ hn)) λws s2 ⟨ps,H2,I2,rel,e,kvs,ep,lk,q2⟩=>?_);subst ep;obtain ⟨rs,c,rk⟩:=wY (P:=X.prog) (w:=X.w) rel;obtain ⟨z,hd,vs0,r0,dd⟩:=XY I2.hok e;cases r0;refine ⟨rs,c,dd,λh' dd' hs=>⟨.ref s.heap.objs.size,_,?_,rfl,q2⟩⟩;have hz:(oN [] kvs).length<=sizeLine:=by
  have h1:=pV kvs [];rw [List.length_nil] at h1;rw [sizeLine_eq];omega
 have he:∃q,h'.get? s.heap.objs.size=some q:=let ⟨q,_,_,hq,_⟩:=dd';⟨q,hq⟩;exact rZ I2 (by rw [e];exact True.intro) hs he (PJ hz hd (rk.merge .nil) dd')
structure M2(X:Cx)(o:Expr)(m:Str)(apos:Pos)(e f:Expr)(cpos:Pos):Prop where
 base:attributeBase o m X.env (eval o X.env)=eval o X.env
 few:((backTo cpos (starEach [e,f] X.env)).all (λx=>!x.1)&&(backToKw cpos (keywordEach [] X.env)).all (λx=>x.1.isSome)
  && decide (([e,f]:List Expr).length+([]:List Keyword).length+(if ([]:List Keyword).isEmpty then 0 else 1)<30))=true
 line:(apos.endLine == cpos.line)=true
 trees:backTo cpos (starEach [e,f] X.env)=[(false,eval e X.env),(false,eval f X.env)]
def IsD(H:Hp)(a:Addr):Prop:=(∃kvs,Rd H a (.dK kvs))\/∃kvs,Rd H a (.dT kvs)
theorem aAQ{X:Cx}{pins:List (Addr × Obj)}{σ:St}{H:Hp}{s:Shared}{a:Addr}(I:cB X pins σ H s)(d:IsD H a) :
  s.TypeIs (.ref a) "dict" /\ (∀b,Value.ref a=.ref b->∃ob,s.heap.get? b=some ob/\ob.dict=none)/\(a == sysModules)=false:=by
 rcases d with ⟨kvs,e⟩ | ⟨kvs,e⟩
 ·obtain ⟨_,hd,vs,_,dd⟩:=DI I.hok e;refine ⟨dd.typeIs,λb q=>?_,hd⟩;cases q;obtain ⟨ob,_,_,h1,h2,_⟩:=dd;exact ⟨ob,h1,h2.2.1⟩
 ·obtain ⟨_,hd,xs,_,dd⟩:=DH I.hok e;refine ⟨dd.typeIs,λb q=>?_,hd⟩;cases q;obtain ⟨ob,_,_,h1,h2,_⟩:=dd;exact ⟨ob,h1,h2.2.1⟩
section
variable{X:Cx}{pins:List (Addr × Obj)}{σ:St}{H:Hp}{s:Shared}{a:Addr}{y d:V}{u r:Value}{o:Option V}{A:Around}{E:Value->Shared->Prop}
theorem aAX{Q:Value->Shared->Prop}(hu:A.units+1<cLine)(I:cB X pins σ H s)(g:nH H a y o)(ry:dH y u)(rd:dH d r)(h:∀w' s',cB X pins σ H s'->dH (o.getD d) w'->Q w' s') :
  wpAny (model X.prog X.w) A (call (.builtin "dict.get") [.ref a,u,r]) Q E s:=by
 rcases g with ⟨kvs,k,e,ey,l⟩ | ⟨kvs,k,b,e,ey,eb,l⟩
 ·subst ey;obtain ⟨z,hd,vs,rel,dd⟩:=DI I.hok e;refine call_meetsIn PySem.F.slot_dict_get dd.typeIs PySem.F.entry_dict_get (PySem.F.args_dict_get_3 _ _ _) (meets_dict_get_default (eG X.prog X.w) a (DB ry) hd r) ⟨_,dd.mapOf,h _ _ (I.tok _) ?_⟩;rw [l];exact (rel.val k).getD rd
 ·subst ey;cases (show u=Value.ref b from ry);obtain ⟨z,hd,xs,rel,dd⟩:=DH I.hok e;refine call_meetsIn PySem.F.slot_dict_get dd.typeIs PySem.F.entry_dict_get (PySem.F.args_dict_get_3 _ _ _) (meetsH_dict_get_default (tupleKind (eG X.prog X.w)) a b hd r) ⟨tupleKind_room_in1 hu,k,xs,qF I.hok eb,dd,h _ _ (I.tok _) ?_⟩;rw [l];exact (rel.val k).getD rd
end
def MM(td ty tx:TE):TE:=λσ H Q=>td σ H λx H1=>∃a,x=.ref a/\IsD H1 a/\ty σ H1 λy H2=>tx σ H2 λz H3=>∃o,nH H3 a y o/\Q (o.getD z) H3
section
variable{X:Cx}{o e f:Expr}{apos cpos:Pos}{td ty tx:TE}
theorem NX(hu:X.A.units+1<cLine)(ho:PE X o td)(he:PE X e ty)(hf:PE X f tx)(m:M2 X o "get" apos e f cpos):PE X (.Call (.Attribute o "get" apos) [e,f] [] cpos) (MM td ty tx):=by
 intro pins s σ H Q I h;refine wpAny_Call_method m.base m.few m.line PySem.F.plainAttrs_dict PySem.F.slot_dict_get PySem.F.type_dict_get (thn (ho pins s σ H _ I h) λu s1 ⟨x,H1,I1,rx,a,ex,d,q1⟩=>?_);subst ex;obtain rfl:u=Value.ref a:=rx;obtain ⟨t1,t2,_⟩:=aAQ I1 d;refine ⟨t1,t2,?_⟩;rw [m.trees];refine Calls.callWith_builtin rfl (Calls.evalArgs_plain (Calls.spliced_cons (thn (he pins s1 σ H1 _ I1 q1) λiv s2 ⟨y,H2,I2,ry,q2⟩ =>
  Calls.spliced_cons (thn (hf pins s2 σ H2 _ I2 q2) λfv s3 ⟨z,H3,I3,rz,ov,g,q3⟩=>Calls.spliced_nil ?_))))
 exact aAX hu I3 g ry rz λw' s4 I4 rw'=>⟨_,H3,I4,rw',q3⟩
end
section
variable{X:Cx}{pins:List (Addr × Obj)}{σ:St}{H:Hp}{s:Shared}{a:Addr}{kvs:List (eL × V)}{A:Around}{E:Value->Shared->Prop}
end
section
variable{X:Cx}{pins:List (Addr × Obj)}{σ:St}{H:Hp}{s:Shared}{a:Addr}{y:V}{u:Value}{A:Around}{E:Value->Shared->Prop}
end
section
variable{κ:Type}[DecidableEq κ]
theorem MF{kvs:List (κ × V)}{k:κ}(h:fB kvs k=none):¬k∈kvs.map (·.1):=by
 intro m;obtain ⟨p,hp,e⟩:=aU.mp m;have q:(kvs.any λkv=>decide (kv.1=k))=true:=List.any_eq_true.mpr ⟨p,hp,bP e⟩;rw [jL,h] at q;exact absurd q (by simp)
theorem GO{kvs:List (κ × V)}{k:κ}{v:V}(h:fB kvs k=some v):k∈kvs.map (·.1):=by
 have q:(kvs.any λkv=>decide (kv.1=k))=true:=by
  rw [jL,h]
  all_goals rfl
 obtain ⟨p,hp,e⟩:=List.any_eq_true.mp q;exact aU.mpr ⟨p,hp,of_decide_eq_true e⟩
end
abbrev bits(i:Int):Nat:=Builtin.Int.intBits i
def QX(i j:Int):Prop:=0<j/\bits j<=9000
theorem uA{j:Int}{n:Nat}(h:bits j<=n)(hn:0<n):j.natAbs.log2<n:=by
 unfold bits Builtin.Int.intBits at h;by_cases hj:(j == 0)=true
 ·have:j=0:=by simpa using hj
  subst this;exact bG (by decide +kernel:(0:Int).natAbs.log2<=0) hn
 ·rw [if_neg hj] at h;omega
section
variable{X:Cx}
theorem gM:pI X (binaryOp .FloorDiv) (rI QX λi j=>.int (i/j)):=opI λi j _ _ _ _ _ hc q=>by
 refine floordiv_int (by have:=hc.1;omega) ?_ (.inl (PyProof.noPylong_of_log2 (uA hc.2 Dd)));rw [Int.fdiv_eq_ediv_of_nonneg i (by have:=hc.1;omega)];exact q
theorem eK:pI X (binaryOp .Mult) (rI IntMulOk λi j=>.int (i*j)):=opI λ_ _ _ _ _ _ _ hc q=>mul_int q hc
end
mutual
def bO(H:Hp):PyData->V->Prop
 | .none,v=>v=.non
 | .bool b,v=>v=.bl b
 | .int i,v=>v=.int i
 | .str x,v=>v=.str x
 | .list ds,v=>∃a xs,v=.ref a/\H a=some (.lst xs)/\aP H ds xs
 | .tuple ds,v=>∃a xs,v=.ref a/\H a=some (.tup xs)/\aP H ds xs
 | .dict kvs,v=>kvs=[]/\∃a,v=.ref a/\H a=some (.dK [])
def aP(H:Hp):List PyData->List V->Prop
 | [],vs=>vs=[]
 | d::ds,vs=>∃x xs,vs=x::xs/\bO H d x/\aP H ds xs
end
mutual
theorem bO.same{H H':Hp}(e:bF H H'):∀{d:PyData}{v:V},bO H d v->bO H' d v
 | .none,_,h=>h
 | .bool _,_,h=>h
 | .int _,_,h=>h
 | .str _,_,h=>h
 | .list ds,_,h=>by
  unfold bO at h ⊢;obtain ⟨a,xs,rfl,h1,h2⟩:=h;exact ⟨a,xs,rfl,e _ _ h1,aP.same e h2⟩
 | .tuple ds,_,h=>by
  unfold bO at h ⊢;obtain ⟨a,xs,rfl,h1,h2⟩:=h;exact ⟨a,xs,rfl,e _ _ h1,aP.same e h2⟩
 | .dict kvs,_,h=>by
  unfold bO at h ⊢;obtain ⟨h0,a,rfl,h1⟩:=h;exact ⟨h0,a,rfl,e _ _ h1⟩
theorem aP.same{H H':Hp}(e:bF H H'):∀{ds:List PyData}{vs:List V},aP H ds vs->aP H' ds vs
 | [],_,h=>h
 | d::ds,_,h=>by
  unfold aP at h ⊢;obtain ⟨x,xs,rfl,h1,h2⟩:=h;exact ⟨x,xs,rfl,bO.same e h1,aP.same e h2⟩
end
theorem bO.tup{H:Hp}{a:Addr}{xs:List V}{ds:List PyData}(h:H a=some (.tup xs))(r:aP H ds xs):bO H (.tuple ds) (.ref a):=by
 unfold bO;exact ⟨a,xs,rfl,h,r⟩
theorem bO.lst{H:Hp}{a:Addr}{xs:List V}{ds:List PyData}(h:H a=some (.lst xs))(r:aP H ds xs):bO H (.list ds) (.ref a):=by
 unfold bO;exact ⟨a,xs,rfl,h,r⟩
theorem bO.int{H:Hp}(i:Int):bO H (.int i) (.int i):=by unfold bO;rfl
theorem bO.str{H:Hp}(i:Str):bO H (.str i) (.str i):=by unfold bO;rfl
theorem bO.non{H:Hp}:bO H .none .non:=by unfold bO;rfl
theorem aP.nil{H:Hp}:aP H [] []:=by unfold aP;rfl
theorem aP.cons{H:Hp}{d:PyData}{ds:List PyData}{x:V}{xs:List V}(h:bO H d x)(hs:aP H ds xs):aP H (d::ds) (x::xs):=by
 unfold aP;exact ⟨x,xs,rfl,h,hs⟩
section
variable{X:Cx}{pins:List (Addr × Obj)}{σ:St}{H:Hp}{s:Shared}
mutual
theorem bO.reads(I:cB X pins σ H s):∀{d:PyData}{v:V}{u:Value},bO H d v->dH v u->∃as,Reads s.heap u d as
 | .none,_,u,h,r=>by
  cases (show _=V.non from h);cases (show u=Value.none from r);exact ⟨_,.none⟩
 | .bool b,_,u,h,r=>by
  cases (show _=V.bl b from h);cases (show u=Value.bool b from r);exact ⟨_,.bool b⟩
 | .int b,_,u,h,r=>by
  cases (show _=V.int b from h);obtain ⟨t,q⟩:=(show ∃t,u=Value.int b t from r);cases q;exact ⟨_,.int b t⟩
 | .str b,_,u,h,r=>by
  cases (show _=V.str b from h);obtain ⟨t,q⟩:=(show ∃t,u=Value.str b t from r);cases q;exact ⟨_,.str b t⟩
 | .list ds,v,u,h,r=>by
  unfold bO at h;obtain ⟨a,xs,rfl,h1,h2⟩:=h;cases (show u=Value.ref a from r);obtain ⟨_,its,n,r',e⟩:=(show eE X.prog X.w H s.heap a (.lst xs) from I.hok a _ h1);obtain ⟨as,q⟩:=aP.reads I h2 r';exact ⟨_,.list e rfl rfl (by simpa using q)⟩
 | .tuple ds,v,u,h,r=>by
  unfold bO at h;obtain ⟨a,xs,rfl,h1,h2⟩:=h;cases (show u=Value.ref a from r);obtain ⟨_,its,r',o,e,hc,n,hd⟩:=(show eE X.prog X.w H s.heap a (.tup xs) from I.hok a _ h1);obtain ⟨as,q⟩:=aP.reads I h2 r';exact ⟨_,.tuple e hc hd (by simpa using q)⟩
 | .dict kvs,v,u,h,r=>by
  unfold bO at h;obtain ⟨rfl,a,rfl,h1⟩:=h;cases (show u=Value.ref a from r);obtain ⟨_,_,vs,kv,o,es,ep,e,hx,hd,_,hes,_⟩:=(show eE X.prog X.w H s.heap a (.dK []) from I.hok a _ h1);cases kv;have he:es.toList=[]:=by
   cases q:es.toList with
   | nil=>rfl
   | cons y ys=>rw [q] at hes;cases hes
  exact ⟨_,.dict e hx.1 hd (by rw [he];exact .nil) (by rw [he];exact .nil)⟩
theorem aP.reads(I:cB X pins σ H s):∀{ds:List PyData}{vs:List V}{us:List Value},aP H ds vs->cO vs us->∃as,ReadsAll s.heap us ds as
 | [],_,us,h,r=>by
  cases (show _=[] from h);cases r;exact ⟨_,.nil⟩
 | d::ds,_,us,h,r=>by
  unfold aP at h;obtain ⟨x,xs,rfl,h1,h2⟩:=h;cases r with
  | cons r1 r2 =>
   obtain ⟨as,q1⟩:=bO.reads I h1 r1;obtain ⟨bs,q2⟩:=aP.reads I h2 r2;exact ⟨_,.cons q1 q2⟩
end
end
section
variable{X:Cx}
theorem KY(hg:X.A.guards=some [])(hu:X.A.units+64<cLine):gS X (.builtin "repr") (λxs H Q=>∃x d,xs=[x]/\bO H d x/\d.showable=true/\d.hasDict=false/\d.depth<=60/\d.shown.length<=sizeLine/\Q (.str d.shown) H):=by
 intro pins s σ H xs us Q I r h;obtain ⟨x,d,rfl,hr,hs,hnd,hdp,hz,q⟩:=h;obtain ⟨u,rfl,ru⟩:=kZ r;obtain ⟨as,rd⟩:=hr.reads I ru;cases rd with
 | none=>exact PySem.P.repr_of_none ⟨.str _,H,I.tok _,⟨_,rfl⟩,q⟩
 | bool b=>exact PySem.P.repr_of_bool ⟨.str _,H,I.tok _,⟨_,rfl⟩,q⟩
 | int i t=>exact PySem.P.repr_of_int (by simpa [PyData.showable] using hs) ⟨.str _,H,I.tok _,⟨_,rfl⟩,q⟩
 | str y t=>exact PySem.P.repr_of_str ⟨.str _,H,I.tok _,⟨_,rfl⟩,q⟩ hz
 | list a1 a2 a3 a4=>exact repr_of_reads' (.list a1 a2 a3 a4) hs (PyData.noDict_hsm hnd) hg Oo (λ_ _ e=>e) (λh' u tk hk=>⟨.str _,H,I.kept hk,⟨_,rfl⟩,q⟩) hz
 | tuple a1 a2 a3 a4=>exact repr_of_reads' (.tuple a1 a2 a3 a4) hs (PyData.noDict_hsm hnd) hg Oo (λ_ _ e=>e) (λh' u tk hk=>⟨.str _,H,I.kept hk,⟨_,rfl⟩,q⟩) hz
 | dict a1 a2 a3 a4 a5=>simp [PyData.hasDict] at hnd
end
def SC:PyData->String
 | .none => "NoneType"
 | .bool _ => "bool"
 | .int _ => "int"
 | .str _ => "str"
 | .list _ => "list"
 | .tuple _ => "tuple"
 | .dict _ => "dict"
theorem bO.ty{K:PySem.W.Frag}{H:Hp}{d:PyData}{v:V}(h:bO H d v):tR K H v (.type (SC d)):=by
 cases d with
 | none=>cases (show v=V.non from h);exact .non
 | bool b=>cases (show v=V.bl b from h);exact .bl b
 | int b=>cases (show v=V.int b from h);exact .int b
 | str b=>cases (show v=V.str b from h);exact .str b
 | list ds=>unfold bO at h;obtain ⟨a,xs,rfl,h1,h2⟩:=h;exact .lst h1
 | tuple ds=>unfold bO at h;obtain ⟨a,xs,rfl,h1,h2⟩:=h;exact .tup h1
 | dict ds=>unfold bO at h;obtain ⟨_,a,rfl,h1⟩:=h;exact .dK h1
def RA(T:String)(d:PyData):Bool:=SC d == T || (T == "int" && SC d == "bool")
theorem aAJ : ∀ T ∈ ["int", "bool", "tuple", "str", "list", "dict"], ∀ S ∈ ["NoneType", "bool", "int", "str", "list", "tuple", "dict"],
      PySem.W.kitOne [] (.type S) (.type T)=some (S == T || (T == "int" && S == "bool")):=Kk
theorem VB(K:PySem.W.Frag)(S T:String):PySem.W.kitOne K (.type S) (.type T)=PySem.W.kitOne [] (.type S) (.type T):=rfl
theorem aB8(K:PySem.W.Frag)(d:PyData)(T:String)(hT:T = "int" \/ T = "bool" \/ T = "tuple" \/ T = "str" \/ T = "list" \/ T = "dict"):PySem.W.kitOne K (.type (SC d)) (.type T)=some (RA T d):=by
 rw [VB];refine aAJ T ?_ (SC d) ?_
 ·rcases hT with rfl | rfl | rfl | rfl | rfl | rfl <;> decide
 ·cases d <;> simp [SC]
section
variable{X:Cx}
theorem DV:gS X (.builtin "isinstance") (λxs H Q=>∃x d T,xs=[x,.ty T]/\bO H d x/\(T = "int" \/ T = "bool" \/ T = "tuple" \/ T = "str" \/ T = "list" \/ T = "dict")/\Q (.bl (RA T d)) H):=by
 intro pins s σ H xs us Q I r h;obtain ⟨x,d,T,rfl,hr,hT,q⟩:=h;obtain ⟨u,w',rfl,r1,r2⟩:=WQ r;cases (show w'=Value.type T from r2);exact KJ I r1 hr.ty (aB8 _ d T hT) λtk=>⟨.bl _,H,I.tok _,rfl,q⟩
end
structure gT(CX:LN)(P:Program)(w:World)(K:PySem.W.Frag)(mg:Str->Option Value)(base:Heap)(k:Nat)(x:Str)(ps:List Str)(sp:Sp):Prop where
 ex:∃(f:Addr) (fd:FuncData),dI P w K mg base CX k f fd ps sp/\mg x=some (.ref f)/\PySem.W.keepIn K (.ref f)=true/\nD K fd ps []
section
variable{X:Cx}{k:Nat}{ps:List Str}{sp:Sp}{x:Str}{p pos:Pos}{e:Expr}{es:List Expr}{t:TA}
theorem aB1(F:gT dQ X.prog X.w X.K X.mg X.base k x ps sp)(hr:gX k X.A)(ha:PA X (e::es) t)(hg:Gl X x:=by rfl)
  (hdb:(x == ("__debug__" : Str))=false:=by decide) (he:starEach (e::es) X.env=(false,eval e X.env)::starEach es X.env:=by rfl) (hpl:(backTo pos (starEach es X.env)).any (·.1)=false:=by rfl) :
  PE X (.Call (.Name x p) (e::es) [] pos) (MP sp [] E0 t):=by
 obtain ⟨f,fd,h1,h2,h3,h4⟩:=F.ex;exact UJ h1 hr hg h2 h3 h4 .nil HL ha hdb he hpl
end
section
variable{K:PySem.W.Frag}{H:Hp}{p:Addr}{xs:List V}{i:Int}{v:V}{Q:VK}
theorem lF(h:H p=some (.lst xs))(e:BJ xs i=some v)(q:Q v H):rIx K (.ref p) (.int i) H Q:=.inl ⟨p,xs,i,v,rfl,rfl,fT.of h,e,q⟩
theorem jR(h:H p=some (.tup xs))(e:BJ xs i=some v)(q:Q v H):rIx K (.ref p) (.int i) H Q:=.inr (.inl ⟨p,xs,i,v,rfl,rfl,fS.of h,e,q⟩)
theorem stL{u:V}{Q:Hp->Prop}{j:Nat}(h:H p=some (.lst xs))(e:xB xs.length i=some j)(q:Q (upd H p (.lst (xs.set j u)))):NM (.ref p) (.int i) u H Q:=⟨p,xs,i,j,rfl,rfl,h,e,q⟩
end
def gQ(p:Addr)(H:Hp):Hp:=λb=>if b=p then none else H b
theorem gQ.at{p b:Addr}{H:Hp}(h:b≠p):gQ p H b=H b:=by unfold gQ;rw [if_neg h]
theorem gQ.self{p:Addr}{H:Hp}:gQ p H p=none:=by unfold gQ;rw [if_pos rfl]
theorem gQ.same{p:Addr}{H:Hp}:bF (gQ p H) H:=λb o h=>by
 unfold gQ at h;by_cases e:b=p
 ·rw [if_pos e] at h;cases h
 ·rw [if_neg e] at h;exact h
theorem gQ.ne{p b:Addr}{H:Hp}{o:HO}(h:gQ p H b=some o):b≠p:=λe=>by
 subst e;rw [gQ.self] at h;cases h
theorem gQ.of{p b:Addr}{H:Hp}{o:HO}(n:b≠p)(h:H b=some o):gQ p H b=some o:=by rw [gQ.at n];exact h
theorem gQ.upd_self{p:Addr}{H:Hp}{o:HO}:gQ p (upd H p o)=gQ p H:=by
 funext b
 by_cases e:b=p
 ·subst e;rw [gQ.self,gQ.self]
 ·rw [gQ.at e,gQ.at e,L2.cL e]
abbrev aK(p:Addr)(H H':Hp):Prop:=bF (gQ p H) (gQ p H')
theorem bF.but{p:Addr}{H H':Hp}(h:bF H H'):aK p H H':=λb o e=>by
 have n:=gQ.ne e;exact gQ.of n (h _ _ (gQ.same _ _ e))
theorem bF.upd{H:Hp}{q:Addr}{o:HO}(h:H q=none):bF H (upd H q o):=λb u e=>by
 rw [L2.cL (cI e h)];exact e
theorem aK.self{p:Addr}{H:Hp}{o:HO}:aK p H (upd H p o):=by unfold aK;rw [gQ.upd_self];exact bF.refl _
theorem aK.free{p q:Addr}{H H':Hp}(e:aK p H H')(hp:∃o,H' p=some o)(h:H' q=none):H q=none:=by
 cases k:H q with
 | none=>rfl
 | some o =>
  by_cases n:q=p
  ·subst n;obtain ⟨o',h'⟩:=hp;rw [h'] at h;cases h
  ·have:=gQ.same _ _ (e q o (gQ.of n k));rw [this] at h;cases h
section
variable{K:PySem.W.Frag}{H:Hp}{p:Addr}{xs:List V}{i:Int}{v:V}{Q:VK}
theorem SN{u:V}{Q:Hp->Prop}{j:Nat}(h:H p=some (.lst xs))(e:xB xs.length i=some j)(k:∀H',H' p=some (.lst (xs.set j u))->aK p H H'->Q H'):NM (.ref p) (.int i) u H Q :=
 stL h e (k _ bJ aK.self)
theorem alT{Q:V->Hp->Prop}(hz:xs.length<=sizeLine)(k:∀q H',H q=none->H' q=some (.tup xs)->bF H H'->Q (.ref q) H'):xs.length<=sizeLine/\∀p,H p=none->Q (.ref p) (upd H p (.tup xs)) :=
 ⟨hz,λq hq=>k q _ hq bJ (bF.upd hq)⟩
theorem alL{Q:V->Hp->Prop}(hz:xs.length<=sizeLine)(k:∀q H',H q=none->H' q=some (.lst xs)->bF H H'->Q (.ref q) H'):xs.length<=sizeLine/\∀p,H p=none->Q (.ref p) (upd H p (.lst xs)) :=
 ⟨hz,λq hq=>k q _ hq bJ (bF.upd hq)⟩
theorem aK.at{p b:Addr}{H H':Hp}{o:HO}(s:aK p H H')(n:b≠p)(h:H b=some o):H' b=some o:=gQ.same _ _ (s _ _ (gQ.of n h))
end
theorem rH{n:Nat}(h:n<=64):n<=sizeLine:=bC h Dd
theorem qG{c A B:Prop}[Decidable c](h1:c->A)(h2:¬c->B):if decide c=true then A else B :=
 aB9 (λh=>h1 (of_decide_eq_true h)) (λh=>h2 (λk=>h (bP k)))
theorem HY{c A B:Prop}[Decidable c](h1:¬c->A)(h2:c->B):if (!decide c)=true then A else B :=
 aB9 (λh=>h1 (λk=>by rw [bP k] at h;exact absurd h Dd)) (λh=>h2 (Decidable.of_not_not λk=>h (by rw [bX k];rfl)))
def qP(c:TT):TT:=λσ H Q=>∃Q':Bool->Hp->Prop,c σ H Q'/\∀b H1,Q' b H1->Q b H1
theorem PT.mono{X:Cx}{e:Expr}{c:TT}(h:PT X e c):PT X e (qP c):=λpins s σ H Q I ⟨Q',h1,h2⟩ =>
 thn (h pins s σ H Q' I h1) λb s' ⟨H',I',q⟩=>⟨H',I',h2 _ _ q⟩
theorem JU{X:Cx}{pos:Pos}{c:Expr}{body:List Stmt}{tc:TT}{tb:TS}(hp:PassesOwn (model X.prog X.w) X.A X.env X.xe)(hc:PT X c tc)(hb:GF X body tb):PS X (.While c body [] pos) (zX (qP tc) tb) :=
 NP hp hc.mono hb
@[irreducible] def FE(K:PySem.W.Frag):List V->Hp->VK->Prop:=λxs H Q=>∃x n,xs=[x]/\aCp K x H n/\Q (.int n) H
@[irreducible] def TN:List V->Hp->VK->Prop:=λxs H Q=>∃i,xs=[.int i]/\Q (.int (i.natAbs:Int)) H
@[irreducible] def FF:List V->Hp->VK->Prop:=λxs H Q=>∃x d T,xs=[x,.ty T]/\bO H d x/\(T = "int" \/ T = "bool" \/ T = "tuple" \/ T = "str" \/ T = "list" \/ T = "dict")/\Q (.bl (RA T d)) H
@[irreducible] def CN:List V->Hp->VK->Prop:=λxs H Q=>∃x d,xs=[x]/\bO H d x/\d.showable=true/\d.hasDict=false/\d.depth<=60/\d.shown.length<=sizeLine/\Q (.str d.shown) H
section
variable{X:Cx}{K:PySem.W.Frag}{H:Hp}{p:Addr}{xs:List V}{Q:VK}
theorem fY:gS X (.builtin "len") (FE X.K):=by unfold FE;exact QG
theorem FY:gS X (.builtin "abs") TN:=by
 unfold TN;exact λpins s σ H xs us Q I r ⟨i,e,q⟩=>QH pins s σ H xs us Q I r ⟨i,e,by
 have:(if i<0 then -i else i)=(i.natAbs:Int):=by split <;> omega
 rw [this];exact q⟩
theorem FX:gS X (.builtin "isinstance") FF:=by unfold FF;exact DV
theorem uW(hg:X.A.guards=some [])(hu:X.A.units+64<cLine):gS X (.builtin "repr") CN:=by unfold CN;exact KY hg hu
theorem XF(h:H p=some (.lst xs))(q:Q (.int xs.length) H):FE K [V.ref p] H Q:=by unfold FE;exact ⟨_,_,rfl,.inl ⟨xs,fT.of h,rfl⟩,q⟩
theorem LP(h:H p=some (.tup xs))(q:Q (.int xs.length) H):FE K [V.ref p] H Q:=by unfold FE;exact ⟨_,_,rfl,.inr ⟨xs,fS.of h,rfl⟩,q⟩
theorem raI{i:Int}(q:Q (.int (i.natAbs:Int)) H):TN [V.int i] H Q:=by unfold TN;exact ⟨i,rfl,q⟩
theorem rrI{x:V}{d:PyData}(r:bO H d x)(h1:d.showable=true)(h2:d.hasDict=false)(h3:d.depth<=60)(h4:d.shown.length<=sizeLine)(q:Q (.str d.shown) H):CN [x] H Q:=by unfold CN;exact ⟨x,d,rfl,r,h1,h2,h3,h4,q⟩
theorem riI{x:V}{d:PyData}{T:String}(r:bO H d x)(q:Q (.bl (RA T d)) H)(hT:(T = "int" \/ T = "bool" \/ T = "tuple" \/ T = "str" \/ T = "list" \/ T = "dict"):=by decide):FF [x,.ty T] H Q:=by unfold FF;exact ⟨x,d,T,rfl,r,hT,q⟩
end
theorem qN{c:TT}{tb:TS}{D:tU}{σ:St}{H:Hp}(W:Nat->St->Hp->Prop)(R:St->Hp->Prop)(m:Nat)(h0:W m σ H)
  (hs:∀m σ H,W m σ H->c σ H λb H1=>if b=true then tb { D with nx:=λσ' H'=>∃m',m' < m/\W m' σ' H',ct:=λσ' H'=>∃m',m' < m/\W m' σ' H',bk:=D.nx } σ H1 else R σ H1)
  (hd:∀σ H,R σ H->D.nx σ H):zX (qP c) tb D σ H :=
 ⟨W,⟨m,h0⟩,λm σ H hw=>⟨_,hs m σ H hw,λb H1 q=>by
  by_cases hb:b=true
  ·rw [if_pos hb] at q ⊢;exact ⟨_,λ_ _ h=>h,q⟩
  ·rw [if_neg hb] at q ⊢;exact hd _ _ q⟩⟩
def aBC(t:TS):TS:=λD σ H=>∃R:St->Hp->Prop,(∀σ' H',R σ' H'->D.nx σ' H')/\t { D with nx:=R } σ H
theorem aAi{X:Cx}{st:Stmt}{t:TS}(h:PS X st t):PS X st (aBC t):=λpins s σ H D I ⟨R,hR,q⟩ =>
 thn (h pins s σ H _ I q) λf s' z=>by
  cases f with
  | next=>obtain ⟨σ',H',I',r⟩:=z;exact ⟨σ',H',I',hR _ _ r⟩
  | brk=>exact z
  | cont=>exact z
  | ret u=>exact z
section
variable{es:List Expr}{env:Env}
theorem iA{a b c d}:starEach (.BinOp a b c d::es) env=(false,eval (.BinOp a b c d) env)::starEach es env:=by rw [starEach] <;> (intros;contradiction)
theorem fI{a b c}:starEach (.UnaryOp a b c::es) env=(false,eval (.UnaryOp a b c) env)::starEach es env:=by rw [starEach] <;> (intros;contradiction)
theorem hZ{a b c d}:starEach (.IfExp a b c d::es) env=(false,eval (.IfExp a b c d) env)::starEach es env:=by rw [starEach] <;> (intros;contradiction)
theorem eX{a b c d}:starEach (.ListComp a b c d::es) env=(false,eval (.ListComp a b c d) env)::starEach es env:=by rw [starEach] <;> (intros;contradiction)
theorem fJ{a b c d}:starEach (.Compare a b c d::es) env=(false,eval (.Compare a b c d) env)::starEach es env:=by rw [starEach] <;> (intros;contradiction)
theorem fW{a b c d}:starEach (.Call a b c d::es) env=(false,eval (.Call a b c d) env)::starEach es env:=by rw [starEach] <;> (intros;contradiction)
theorem eF{a b c}:starEach (.Constant a b c::es) env=(false,eval (.Constant a b c) env)::starEach es env:=by rw [starEach] <;> (intros;contradiction)
theorem dG{a b c}:starEach (.Attribute a b c::es) env=(false,eval (.Attribute a b c) env)::starEach es env:=by rw [starEach] <;> (intros;contradiction)
theorem cZ{a b c}:starEach (.Subscript a b c::es) env=(false,eval (.Subscript a b c) env)::starEach es env:=by rw [starEach] <;> (intros;contradiction)
theorem fV{a b}:starEach (.Name a b::es) env=(false,eval (.Name a b) env)::starEach es env:=by rw [starEach] <;> (intros;contradiction)
theorem jH{a b}:starEach (.List a b::es) env=(false,eval (.List a b) env)::starEach es env:=by rw [starEach] <;> (intros;contradiction)
theorem hV{a b c}:starEach (.Tuple a b c::es) env=(false,eval (.Tuple a b c) env)::starEach es env:=by rw [starEach] <;> (intros;contradiction)
end
section
variable{X:Cx}{k:Nat}{ps:List Str}{sp:Sp}{x:Str}{p pos:Pos}{e:Expr}{es:List Expr}{te:TE}{t:TA}{id T:String}{r:List V->Hp->VK->Prop}
theorem tP{env:Env}:(backTo pos (starEach [] env)).any (·.1)=false:=rfl
theorem pH{env:Env}(hs:starEach (e::es) env=(false,eval e env)::starEach es env)(h:(backTo pos (starEach es env)).any (·.1)=false):(backTo pos (starEach (e::es) env)).any (·.1)=false:=by
 rw [hs];show (false || (backTo pos (starEach es env)).any (·.1))=false;rw [h];rfl
end
structure fG(X:Cx)(e:Expr)(t:TE):Prop where p:PE X e t
structure GD(X:Cx)(e:Expr)(t:TT):Prop where p:PT X e t
structure PWw(X:Cx)(e:Expr)(t:TT):Prop where p:PW X e t
structure IR(X:Cx)(es:List Expr)(t:TA):Prop where p:PA X es t
structure GE(X:Cx)(st:Stmt)(t:TS):Prop where p:PS X st t
structure xM(X:Cx)(st:List Stmt)(t:TS):Prop where p:GF X st t
structure WH(X:Cx)(e:Expr)(t:TG):Prop where p:PG X e t
structure WJ(X:Cx)(es:List Expr)(t:QR):Prop where p:PGs X es t
structure WG(X:Cx)(tg iter:Expr)(t:TI):Prop where p:PI X tg iter t
structure POw(X:Cx)(e:Option Expr)(t:TO):Prop where p:PO X e t
@[irreducible] def CO(xs:List V)(H:Hp)(Q:VK):Prop:=xs.length<=sizeLine/\∀p,H p=none->Q (.ref p) (upd H p (.tup xs))
@[irreducible] def HF(xs:List V)(H:Hp)(Q:VK):Prop:=xs.length<=sizeLine/\∀p,H p=none->Q (.ref p) (upd H p (.lst xs))
theorem pK{xs:List V}{H:Hp}{Q:VK}(hz:xs.length<=64)(k:∀q H',H q=none->H' q=some (.tup xs)->bF H H'->Q (.ref q) H'):CO xs H Q:=by unfold CO;exact alT (rH hz) k
theorem yF{xs:List V}{H:Hp}{Q:VK}(hz:xs.length<=64)(k:∀q H',H q=none->H' q=some (.lst xs)->bF H H'->Q (.ref q) H'):HF xs H Q:=by unfold HF;exact alL (rH hz) k
def tTu(t:TA):TE:=λσ H Q=>t σ H λxs H1=>CO xs H1 Q
def tLs(t:TA):TE:=λσ H Q=>t σ H λxs H1=>HF xs H1 Q
section
variable{X:Cx}{a b c e o tg:Expr}{es rest:List Expr}{ta tb tc te to:TE}{tA tB':TT}{t:TA}{pos p p2:Pos}{st:Stmt}{sts body orelse:List Stmt}{ts us:TS}{x:Str}{r r':R2}{id T:String}{rl:List V->Hp->VK->Prop}{k i j:Nat}{ps:List Str}{sp:Sp}{n:Nat}
theorem aE(i:Nat){x:Str}{pos:Pos}(hN:X.N[i]?=some x:=by rfl)(hv:Vis X.env.scope x:=by first | exact Or.inl rfl | exact Or.inr (Or.inl rfl) | exact Or.inr (Or.inr rfl))(hd:(x == ("__debug__" : Str))=false:=by decide)
  (hcd:(x == ("__classdict__" : Str))=false:=by decide):fG X (.Name x pos) (YM i):=⟨pv i hN hv hd hcd⟩
theorem aF{i j pos}:fG X (.Constant (.int i) j pos) (tC (.int i)):=⟨pe_int⟩
theorem pP{b j pos}:fG X (.Constant (.bool b) j pos) (tC (.bl b)):=⟨pe_bl⟩
theorem EF{j pos}:fG X (.Constant .none j pos) (tC .non):=⟨pe_non⟩
theorem dL{x j pos}:fG X (.Constant (.str x) j pos) (tC (.str x)):=⟨pe_str⟩
theorem jV{v:V}{u:Value}(hg:Gl X x)(hm:X.mg x=some u)(r:dH v u)(hd:(x == ("__debug__" : Str))=false:=by decide):fG X (.Name x pos) (tC v):=⟨UE hg hm r hd⟩
theorem zR{v:V}{u:Value}(hg:Gl X x)(hm:X.mg x=none)(hv:bootBuiltins x=some u)(r:dH v u)(hn:x ≠ "__name__" := by decide)(hd:(x == ("__debug__" : Str))=false:=by decide):fG X (.Name x pos) (tC v):=⟨UK hg hm hv r hn hd⟩
theorem bY{op:Operator}(ho:pI X (binaryOp op) r)(ha:fG X a ta)(hb:fG X b tb):fG X (.BinOp a op b pos) (SD r ta tb):=⟨aBZ ho ha.p hb.p⟩
theorem BS{op:UnaryOp}{r:V->Hp->VK->Prop}(ho:UnR X (unaryOp op) r)(ha:fG X a ta):fG X (.UnaryOp op a pos) (tUn r ta):=⟨aBY ho ha.p⟩
theorem qA{op:CmpOp}(ho:pI X (compareOp op) r)(ha:fG X a ta)(hb:fG X b tb)(hm:behindInMarks op b=false):fG X (.Compare a [op] [b] pos) (SD r ta tb):=⟨UI ho ha.p hb.p hm⟩
theorem eB{op:CmpOp}(ho:pI X (compareOp op) r)(ha:fG X a ta)(hb:fG X b tb)(hm:behindInMarks op b=false):GD X (.Compare a [op] [b] pos) (WS (SD r ta tb)):=⟨TU ho ha.p hb.p hm⟩
theorem BT{op op':CmpOp}(ho:pI X (compareOp op) r)(ho':pI X (compareOp op') r')(ha:fG X a ta)(hb:fG X b tb)(hc:fG X c tc)
  (hm:lastMarks [op,op'] [b,c]=false:=by with_unfolding_all rfl):fG X (.Compare a [op,op'] [b,c] pos) (MO r r' ta tb tc):=⟨NY ho ho' ha.p hb.p hc.p hm⟩
theorem mF(h:fG X e te)(he:∀whole,isTrue e X.env whole=(do let v <-whole;standAt e.pos;holding [v] (truthy v)):=by intro _;rfl):GD X e (tB te):=⟨aAb h.p he⟩
theorem RQ(ha:GD X a tA):PWw X (.BoolOp .And [a] pos) tA:=⟨TQ ha.p⟩
theorem vA(ha:GD X a tA):PWw X (.BoolOp .Or [a] pos) tA:=⟨ZZ ha.p⟩
theorem YH(ha:GD X a tA)(hb:PWw X (.BoolOp .And (b::rest) pos) tB'):PWw X (.BoolOp .And (a::b::rest) pos) (aBF tA tB'):=⟨aAa ha.p hb.p⟩
theorem BQ(ha:GD X a tA)(hb:PWw X (.BoolOp .Or (b::rest) pos) tB'):PWw X (.BoolOp .Or (a::b::rest) pos) (tOr tA tB'):=⟨aBV ha.p hb.p⟩
theorem IX(h:PWw X e tA):GD X e tA:=⟨h.p.pt⟩
theorem nI(ha:GD X a tA):GD X (.UnaryOp .Not a pos) (aBx tA):=⟨aAc ha.p⟩
theorem zQ{op}(h:fG X a ta):fG X (.BoolOp op [a] pos) ta:=⟨aAq h.p⟩
theorem zS(ha:fG X a ta)(hb:fG X (.BoolOp .And (b::rest) pos) tb):fG X (.BoolOp .And (a::b::rest) pos) (XC ta tb):=⟨aAv ha.p hb.p⟩
theorem LY(ha:fG X a ta):fG X (.UnaryOp .Not a pos) (WU ta):=⟨aAr ha.p⟩
theorem vE(hc:GD X c tA)(ha:fG X a ta)(hb:fG X b tb):fG X (.IfExp c a b pos) (tIf tA ta tb):=⟨NW hc.p ha.p hb.p⟩
theorem aD:IR X [] SE:=⟨pa_nil⟩
theorem aI(ha:fG X e te)(hr:IR X es t)(hs:starEach (e::es) X.env=(false,eval e X.env)::starEach es X.env:=by first | exact fV | exact eF | exact se_BoolOp | exact iA | exact fI | exact hZ | exact se_Dict | exact eX | exact fJ | exact fW | exact dG | exact cZ | exact jH | exact hV | exact se_JoinedStr | exact se_GeneratorExp):IR X (e::es) (XB te t):=⟨UL ha.p hr.p hs⟩
theorem dO{x1}(h:IR X es t):fG X (.Tuple es x1 pos) (tTu t):=⟨by unfold tTu CO;exact aAp h.p⟩
theorem fO(h:IR X es t):fG X (.List es pos) (tLs t):=⟨by unfold tLs HF;exact aAs h.p⟩
theorem MA:fG X (.Dict [] [] pos) ML:=⟨pe_dnewT⟩
theorem bH(hr:QV X r)(ha:fG X a ta)(hb:fG X b tb)(hs:IQ b):fG X (.Subscript a b pos) (SD r ta tb):=⟨aB0 hr ha.p hb.p hs⟩
theorem iD:POw X none GT:=⟨po_none⟩
theorem iC(h:fG X e te):POw X (some e) (WT te):=⟨TY h.p⟩
theorem gB{lo hi:Option Expr}{tl th:TO}{r:V->Option Int->Option Int->Hp->VK->Prop}(hr:SlR X r)(he:fG X e te)(hl:POw X lo tl)(hu:POw X hi th):fG X (.Subscript e (.Slice lo hi none p2) pos) (tSl r te tl th):=⟨NU hr he.p hl.p hu.p⟩
theorem bW(F:gT dQ X.prog X.w X.K X.mg X.base k x ps sp)(hr:gX k X.A)(ha:IR X (e::es) t)(hg:Gl X x:=by rfl)
  (hdb:(x == ("__debug__" : Str))=false:=by decide) (he:starEach (e::es) X.env=(false,eval e X.env)::starEach es X.env:=by first | exact fV | exact eF | exact se_BoolOp | exact iA | exact fI | exact hZ | exact se_Dict | exact eX | exact fJ | exact fW | exact dG | exact cZ | exact jH | exact hV | exact se_JoinedStr | exact se_GeneratorExp)
  (hpl:(backTo pos (starEach es X.env)).any (·.1)=false:=by repeat (first | exact tP | refine pH (by first | exact fV | exact eF | exact se_BoolOp | exact iA | exact fI | exact hZ | exact se_Dict | exact eX | exact fJ | exact fW | exact dG | exact cZ | exact jH | exact hV | exact se_JoinedStr | exact se_GeneratorExp) ?_)) :
  fG X (.Call (.Name x p) (e::es) [] pos) (MP sp [] E0 t):=⟨aB1 F hr ha.p hg hdb he hpl⟩
theorem eC(hc:gS X (.builtin id) rl)(hg:Gl X x)(hm:X.mg x=none)(hv:bootBuiltins x=some (.builtin id))(ha:IR X (e::es) t)(hn:x ≠ "__name__" := by decide)(hdb:(x == ("__debug__" : Str))=false:=by decide)
  (he:starEach (e::es) X.env=(false,eval e X.env)::starEach es X.env:=by first | exact fV | exact eF | exact se_BoolOp | exact iA | exact fI | exact hZ | exact se_Dict | exact eX | exact fJ | exact fW | exact dG | exact cZ | exact jH | exact hV | exact se_JoinedStr | exact se_GeneratorExp) (hpl:(backTo pos (starEach es X.env)).any (·.1)=false:=by repeat (first | exact tP | refine pH (by first | exact fV | exact eF | exact se_BoolOp | exact iA | exact fI | exact hZ | exact se_Dict | exact eX | exact fJ | exact fW | exact dG | exact cZ | exact jH | exact hV | exact se_JoinedStr | exact se_GeneratorExp) ?_)):fG X (.Call (.Name x p) (e::es) [] pos) (tCB rl t) :=
 ⟨NZ hc hg hm hv ha.p hn hdb he hpl⟩
theorem iY(hc:gS X (.type T) rl)(hg:Gl X x)(hm:X.mg x=none)(hv:bootBuiltins x=some (.type T))(ha:IR X (e::es) t)(hn:x ≠ "__name__" := by decide)(hdb:(x == ("__debug__" : Str))=false:=by decide)
  (he:starEach (e::es) X.env=(false,eval e X.env)::starEach es X.env:=by first | exact fV | exact eF | exact se_BoolOp | exact iA | exact fI | exact hZ | exact se_Dict | exact eX | exact fJ | exact fW | exact dG | exact cZ | exact jH | exact hV | exact se_JoinedStr | exact se_GeneratorExp) (hpl:(backTo pos (starEach es X.env)).any (·.1)=false:=by repeat (first | exact tP | refine pH (by first | exact fV | exact eF | exact se_BoolOp | exact iA | exact fI | exact hZ | exact se_Dict | exact eX | exact fJ | exact fW | exact dG | exact cZ | exact jH | exact hV | exact se_JoinedStr | exact se_GeneratorExp) ?_)):fG X (.Call (.Name x p) (e::es) [] pos) (tCB rl t) :=
 ⟨JX hc hg hm hv ha.p hn hdb he hpl⟩
theorem qO{name:Str}{apos cpos:Pos}{r:V->List V->Hp->VK->Prop}(pa:PlainAttrs T)(slot:Slot T name id)(hty:typeOf (.builtin id)=pure (.type "method_descriptor"))(hm:YE X id r)(ho:fG X o to)(ha:IR X (e::es) t)
  (hbase:attributeBase o name X.env (eval o X.env)=eval o X.env:=by rfl)
  (hfew:((backTo cpos (starEach (e::es) X.env)).all (λx=>!x.1)&&(backToKw cpos (keywordEach [] X.env)).all (λx=>x.1.isSome)
   && decide ((e::es).length+([]:List Keyword).length+(if ([]:List Keyword).isEmpty then 0 else 1)<30))=true:=by rfl)
  (hline:(apos.endLine == cpos.line)=true:=by rfl) (hs:starEach (e::es) X.env=(false,eval e X.env)::starEach es X.env:=by first | exact fV | exact eF | exact se_BoolOp | exact iA | exact fI | exact hZ | exact se_Dict | exact eX | exact fJ | exact fW | exact dG | exact cZ | exact jH | exact hV | exact se_JoinedStr | exact se_GeneratorExp) (hplain:(backTo cpos (starEach es X.env)).any (·.1)=false:=by repeat (first | exact tP | refine pH (by first | exact fV | exact eF | exact se_BoolOp | exact iA | exact fI | exact hZ | exact se_Dict | exact eX | exact fJ | exact fW | exact dG | exact cZ | exact jH | exact hV | exact se_JoinedStr | exact se_GeneratorExp) ?_)) :
  fG X (.Call (.Attribute o name apos) (e::es) [] cpos) (tBM X.K T r to t):=⟨aB2 pa slot hty hm ho.p ha.p hbase hfew hline hs hplain⟩
theorem MC{name:Str}{apos cpos:Pos}{r:V->List V->Hp->VK->Prop}(pa:PlainAttrs T)(slot:Slot T name id)(hty:typeOf (.builtin id)=pure (.type "method_descriptor"))(hm:YE X id r)(ho:fG X o to)
  (hbase:attributeBase o name X.env (eval o X.env)=eval o X.env:=by rfl) (hline:(apos.endLine == cpos.line)=true:=by rfl):fG X (.Call (.Attribute o name apos) [] [] cpos) (aBE X.K T r to):=⟨aAu pa slot hty hm ho.p hbase hline⟩
theorem eQ:xM X [] WV:=⟨pss_nil⟩
theorem aJ(h1:GE X st ts)(h2:xM X sts us):xM X (st::sts) (aBt ts us):=⟨NO h1.p h2.p⟩
theorem aX(h1:GE X st ts):xM X [st] ts:=⟨TV h1.p⟩
theorem fA(he:fG X e te)(hs:swapsWith e none pos.line X.env=pure false:=by rfl):GE X (.Expr e pos) (WY te):=⟨TW he.p hs⟩
theorem cC(he:fG X e te):GE X (.Return (some e) pos) (aBu te):=⟨aAe he.p⟩
theorem gY{c:Expr}{a b:List Stmt}(hc:GD X c tA)(ha:xM X a ts)(hb:xM X b us):GE X (.If c a b pos) (aBy tA ts us):=⟨aBW hc.p ha.p hb.p⟩
theorem zO(h:GE X st ts):GE X st (aBC ts):=⟨aAi h.p⟩
theorem dR{i:Nat}{x:Str}(hN:X.N.Nodup)(hi:X.N[i]?=some x)(hx:Loc X.env.scope x)(hf:X.fn x=true\/X.env.scope.names.lookup x=some .local:=by first | exact .inl rfl | exact .inr rfl | assumption):WH X (.Name x pos) (yM i):=⟨UB hN hi hx hf⟩
theorem mG:WJ X [] aAU:=⟨pgs_nil⟩
theorem eM{t:TG}{u:QR}(h1:WH X e t)(h2:WJ X es u)
  (hs:(assignEach (e::es) X.env).map (·.2)=assign e X.env::(assignEach es X.env).map (·.2):=by rfl):WJ X (e::es) (PB t u):=⟨NT h1.p h2.p hs⟩
theorem pZ{k:Nat}{t:QR}{n:Nat}(hc:X.calm=true)(h:WJ X es t)
  (hn:(assignEach es X.env).length=n:=by rfl) (hst:(assignEach es X.env).findIdx? (·.1)=none:=by rfl):WH X (.Tuple es k pos) (aAT X.K n t):=⟨aAm hc h.p hn hst⟩
theorem lG{i:Expr}{ti:TE}{t:WE}(ho:fG X o to)(hi:fG X i ti)(hs:aA8 X t)
  (ha:∀v,assign (.Subscript o i pos) X.env v=(do
   let ov <-holding [v] (eval o X.env)
   let iv <-holding [v,ov] (eval i X.env)
   standAt pos
   holding [v,ov,iv] (setItem ov iv v)
   release [v,ov,iv] []):=by intro _;rfl):WH X (.Subscript o i pos) (aCb to ti t):=⟨aAn ho.p hi.p hs ha⟩
theorem kG{g:TG}(he:fG X e te)(hg:WH X tg g)(hs:swapsWithSole [tg] e pos.line X.env=pure false:=by rfl)(hw:swappedStores [tg] e X.env=pure none:=by rfl)(h1:(assignEach [tg] X.env).map (·.2)=[assign tg X.env]:=by rfl):GE X (.Assign [tg] e pos) (SG te g):=⟨aAj he.p hg.p hs hw h1⟩
theorem bN{i:Nat}{pos':Pos}(hN:X.N.Nodup)(hi:X.N[i]?=some x)(hx:Loc X.env.scope x)(he:fG X e te)(hs:swapsWith e (some (.Name x pos')) pos.line X.env=pure false:=by rfl)(hf:X.fn x=true\/X.env.scope.names.lookup x=some .local:=by first | exact .inl rfl | exact .inr rfl | assumption) :
  GE X (.Assign [.Name x pos'] e pos) (SG te (yM i)):=⟨aAd hN hi hx he.p hs hf⟩
theorem LT{i j:Nat}{x y:Str}{ta:TA}{px py pt:Pos}{kt k2 pt2}(hc:X.calm=true)(hN:X.N.Nodup)(hi:X.N[i]?=some x)(hj:X.N[j]?=some y)(hij:i≠j)
  (hx:X.env.scope.names.lookup x=some .local) (hy:X.env.scope.names.lookup y=some .local) (ha:IR X [a,b] ta)
  (hw:swappedStores [.Tuple [.Name x px,.Name y py] kt pt] (.Tuple [a,b] k2 pt2) X.env=pure (some [x,y]))
  (hs:swapsWithSole [.Tuple [.Name x px,.Name y py] kt pt] (.Tuple [a,b] k2 pt2) pos.line X.env=pure false:=by rfl) :
  GE X (.Assign [.Tuple [.Name x px,.Name y py] kt pt] (.Tuple [a,b] k2 pt2) pos) (aBv i j ta):=⟨aAf hc hN hi hj hij hx hy ha.p hw hs⟩
theorem nJ{c:Expr}{tc:TT}{tb:TS}(hp:PassesOwn (model X.prog X.w) X.A X.env X.xe)(hc:GD X c tc)(hb:xM X body tb):GE X (.While c body [] pos) (zX (qP tc) tb):=⟨JU hp hc.p hb.p⟩
theorem iE{l:Expr}{tl:TE}(hl:fG X l tl):WG X tg l (XT X.K tl):=⟨UA hl.p⟩
theorem vB{l:Expr}{tl:TE}(hl:fG X l tl):WG X tg l (aAR X.K tl):=⟨aAl hl.p⟩
theorem dD{a:Expr}{ta:TA}{p pos:Pos}(hg:Gl X "range")(hm:X.mg "range" = none)(ha:IR X [a] ta)(hs:starEach [a] X.env=[(false,eval a X.env)]:=by first | exact fV | exact eF | exact se_BoolOp | exact iA | exact fI | exact hZ | exact se_Dict | exact eX | exact fJ | exact fW | exact dG | exact cZ | exact jH | exact hV | exact se_JoinedStr | exact se_GeneratorExp):WG X tg (.Call (.Name "range" p) [a] [] pos) (XS ta):=⟨JW hg hm ha.p hs⟩
theorem gL{iter:Expr}{wi:TI}{g:TG}{tb:TS}{pos:Pos}(hp:PassesOwn (model X.prog X.w) X.A X.env X.xe)(hc:X.calm=true)(hi:WG X tg iter wi)(hg:WH X tg g)(hb:xM X body tb)
  (hs:∀x,foldedSetIterable iter X.env x=pure x:=by intro _;rfl):GE X (.For tg iter body [] pos) (aBz wi g tb):=⟨aAg hp hc hi.p hg.p hb.p hs⟩
end
theorem iH.okw{P:Program}{w:World}{K:PySem.W.Frag}{mg:Str->Option Value}{base:Heap}{x qual:Str}{st:Stmt}{f:Addr}{fd:FuncData}{N ps:List Str}{k:Nat}{sp:Sp}(F:iH K x qual st f fd)(S:bR N ps (aO st))(len:∀vs H Q E,sp vs H Q E->vs.length=ps.length)
  (hbody:∀(cdv:Value) (A:Around) (outer:List Env) (s:Shared) (H:Hp) (vs:List V) (Q:VK) (E:XK),gX k (A.deeper (envOfC qual (aO st) s.heap.objs.size f cdv))->sp vs H Q E ->
   ∃t,xM (DL dQ P w K mg base N qual (aO st) f cdv A outer s H E).nox (eW st) t/\t { nx:=λ_ H'=>Q .non H',rt:=Q } (start N vs) H):dI P w K mg base dQ (k+1) f fd ps sp :=
 F.ok S len λcdv A outer s H vs Q E hr h=>by
  obtain ⟨t,h1,h2⟩:=hbody cdv A outer s H vs Q E hr h;exact ⟨t,h1.p,h2⟩
theorem iH.oky{P:Program}{w:World}{K:PySem.W.Frag}{mg:Str->Option Value}{base:Heap}{x qual:Str}{st:Stmt}{f:Addr}{fd:FuncData}{N ps:List Str}{k:Nat}{sp:Sp}(F:iH K x qual st f fd)(S:bR N ps (aO st))
  (h:∀(vs:List V) (H:Hp) (Q:VK) (E:XK),sp vs H Q E->vs.length=ps.length/\∀(cdv:Value) (A:Around) (outer:List Env) (s:Shared),gX k (A.deeper (envOfC qual (aO st) s.heap.objs.size f cdv)) ->
   ∃t,xM (DL dQ P w K mg base N qual (aO st) f cdv A outer s H E).nox (eW st) t/\t { nx:=λ_ H'=>Q .non H',rt:=Q } (start N vs) H):dI P w K mg base dQ (k+1) f fd ps sp :=
 F.okw S (λvs H Q E q=>(h vs H Q E q).1) λcdv A outer s H vs Q E hr q=>(h vs H Q E q).2 cdv A outer s hr
theorem DD(a b:Int):Int.gcd b (a % b)=Int.gcd a b:=by
 have h:=Int.gcd_add_mul_right_right b (a % b) (a/b);rw [show a % b+a/b*b=a from by have:=Int.emod_add_mul_ediv a b;rw [Int.mul_comm];exact this] at h;rw [<-h,Int.gcd_comm]
theorem IA{a:Int}(h:0<a):(Int.gcd a 0:Int)=a:=by rw [Int.gcd_zero_right];omega
def PR:PyData->Bool | .tuple _=>true | _=>false
def aAY:PyData->Bool | .int _=>true | .bool _=>true | _=>false
def PU:PyData->Bool | .bool _=>true | _=>false
def PQ:PyData->Bool | .int _=>true | _=>false
theorem VF(d:PyData):RA "tuple" d=PR d:=by cases d <;> simp [RA,SC,PR]
theorem VG(d:PyData):RA "int" d=aAY d:=by cases d <;> simp [RA,SC,aAY]
theorem OU(d:PyData):RA "bool" d=PU d:=by cases d <;> simp [RA,SC,PU]
section
variable{H:Hp}{x:V}{d:PyData}{Q:VK}
theorem aBK(r:bO H d x)(q:Q (.bl (PR d)) H):FF [x,.ty "tuple"] H Q:=riI r (by rw [VF];exact q)
theorem aBL(r:bO H d x)(q:Q (.bl (aAY d)) H):FF [x,.ty "int"] H Q:=riI r (by rw [VG];exact q)
theorem NI(r:bO H d x)(q:Q (.bl (PU d)) H):FF [x,.ty "bool"] H Q:=riI r (by rw [OU];exact q)
end
theorem aP.len{H:Hp}:∀{ds:List PyData}{vs:List V},aP H ds vs->vs.length=ds.length
 | [],_,h=>by cases (show _=[] from h);rfl
 | d::ds,_,h=>by
  unfold aP at h;obtain ⟨x,xs,rfl,_,h2⟩:=h;simp [aP.len h2]
section
variable{p:Addr}{σ:St}{t:TE}{ta:TA}{d:PyData}{ds:List PyData}
end
theorem uY{α:Type}{xs:List α}{x:Int}(h0:0<=x)(h1:x<xs.length):∃v,BJ xs x=some v/\v∈xs/\xs[x.toNat]?=some v:=by
 have h:x.toNat<xs.length:=Oo;have e:=aC h;have:=cK e;rw [Int.toNat_of_nonneg h0] at this;exact ⟨_,this,List.getElem_mem h,e⟩
theorem aP.append{H:Hp}{es:List PyData}{ws:List V}(h':aP H es ws):∀{ds:List PyData}{vs:List V},aP H ds vs->aP H (ds++es) (vs++ws)
 | [],_,h=>by cases (show _=[] from h);exact h'
 | d::ds,_,h=>by
  unfold aP at h;obtain ⟨x,xs,rfl,h1,h2⟩:=h;exact aP.cons h1 (aP.append h' h2)
end L2
namespace L2
end L2
namespace L2
open PySem PySem.Spec PyProof.Rows
theorem bF.thru{l:Addr}{H0 H1 H2:Hp}(hl:H0 l=none)(s:bF H0 H1)(b:aK l H1 H2):bF H0 H2:=λc o e=>by
 have n:c≠l:=cI e hl;exact b.at n (s _ _ e)
theorem aCh{H:Hp}{l b:Addr}{xs zs:List V}{Q:VK}(h1:H l=some (.lst xs))(h2:H b=some (.lst zs))(hz:xs.length+zs.length<=1000)(k:∀q H',H q=none->H' q=some (.lst (xs++zs))->bF H H'->Q (.ref q) H'):aBU (.ref l) (.ref b) H Q :=
 ⟨l,b,xs,zs,rfl,rfl,h1,h2,Nat.le_of_lt (xX hz),λq hq=>k q _ hq bJ (bF.upd hq)⟩
@[irreducible] def NN:V->List V->Hp->VK->Prop:=HK
theorem oM{X:Cx}:YE X "list.append" NN:=by unfold NN;exact tE
theorem DY{H:Hp}{l:Addr}{xs:List V}{y:V}{Q:VK}(h:H l=some (.lst xs))(hz:xs.length<=1000)(k:∀H',H' l=some (.lst (xs++[y]))->aK l H H'->Q .non H'):NN (.ref l) [y] H Q:=by
 unfold NN;exact ⟨l,xs,y,rfl,rfl,h,xX hz,k _ bJ aK.self⟩
theorem QY{K:PySem.W.Frag}{H:Hp}{l:Addr}{xs:List V}(h:H l=some (.lst xs)):tyV K "list" (.ref l) H:=.inl ⟨rfl,xs,fT.of h⟩
def mD(env:Env):List (Str × NameKind)->List (Str × Addr)->List (Str × Addr)
 | [],cs=>cs
 | (n,k)::r,cs=>if k == .free then mD env r ((n,(env.cells.lookup n).getD 0)::cs) else mD env r cs
theorem IK(env:Env):∀(l:List (Str × NameKind)) (cs:List (Str × Addr)),(∀y∈l,y.2=.free->∃c,env.cells.lookup y.1=some c) ->
  (forIn l cs λ(x:Str × NameKind) r=>if x.2 == .free then (do let c <-cellOf env x.1;pure (ForInStep.yield ((x.1,c)::r)):Sem _) else pure (ForInStep.yield r))=pure (mD env l cs)
 | [],cs,_=>rfl
 | (n,k)::r,cs,h=>by
  rw [List.forIn_cons];have ih:=λcs=>IK env r cs λy hy=>h y (aH _ hy);by_cases hk:(k == NameKind.free)=true
  ·obtain ⟨c,hc⟩:=h (n,k) aN (by simpa using hk);dsimp only at hc;simp only [hk,if_true,mD,hc,Option.getD_some,cellOf,pure_bind];exact ih _
  ·simp only [hk,mD,pure_bind];exact ih _
theorem pX{env:Env}{scope:Scope}(h:∀y∈scope.names,y.2=.free->∃c,env.cells.lookup y.1=some c):closureFor scope env=pure (mD env scope.names []):=by
 have e:=IK env scope.names [] h;unfold closureFor;simp only [bind_pure];exact e
theorem tM{env:Env}:∀(l:List (Str × NameKind)) (cs:List (Str × Addr)),(∀y∈l,y.2=.free->∃c,env.cells.lookup y.1=some c)->∀p∈mD env l cs,p∈cs\/env.cells.lookup p.1=some p.2
 | [],cs,_,p,hp=>.inl hp
 | (n,k)::r,cs,h,p,hp=>by
  have h':∀y∈r,y.2=.free->∃c,env.cells.lookup y.1=some c:=λy hy=>h y (aH _ hy);unfold mD at hp;by_cases hk:(k == NameKind.free)=true
  ·rw [if_pos hk] at hp;obtain ⟨c,hc⟩:=h (n,k) aN (by simpa using hk);rcases tM r _ h' p hp with hm | hm
   ·rcases aQ.mp hm with rfl | hm
    ·exact .inr (by dsimp only at hc ⊢;rw [hc];rfl)
    ·exact .inl hm
   ·exact .inr hm
  ·rw [if_neg hk] at hp;exact tM r cs h' p hp
theorem tO{env:Env}:∀(l:List (Str × NameKind)) (cs:List (Str × Addr)),∀p∈cs,p∈mD env l cs
 | [],_,_,hp=>hp
 | (n,k)::r,cs,p,hp=>by
  unfold mD;by_cases hk:(k == NameKind.free)=true
  ·rw [if_pos hk];exact tO r _ p (aH _ hp)
  ·rw [if_neg hk];exact tO r _ p hp
theorem tN{env:Env}:∀(l:List (Str × NameKind)) (cs:List (Str × Addr)) (y:Str),(y,NameKind.free)∈l->∃a,(y,a)∈mD env l cs
 | (n,k)::r,cs,y,hy=>by
  unfold mD;rcases aQ.mp hy with e | hm
  ·cases e;rw [if_pos (by rfl)];exact ⟨_,tO r _ _ aN⟩
  ·by_cases hk:(k == NameKind.free)=true
   ·rw [if_pos hk];exact tN r _ y hm
   ·rw [if_neg hk];exact tN r _ y hm
theorem mT{α β:Type}[BEq α][LawfulBEq α]{x:α}{c:β}:∀{l:List (α × β)},l.lookup x=some c->(x,c)∈l
 | [],h=>by cases h
 | (a,b)::r,h=>by
  rw [List.lookup_cons] at h;by_cases e:(x == a)=true
  ·rw [e] at h;have:x=a:=by simpa using e
   subst this;cases h;exact aN
  ·have e':(x == a)=false:=by simpa using e
   rw [e'] at h;exact aH _ (mT h)
theorem mR{α β:Type}[BEq α][LawfulBEq α]{x:α}{c:β}:∀{l:List (α × β)},(x,c)∈l->∃c',l.lookup x=some c'
 | (a,b)::r,h=>by
  rw [List.lookup_cons];by_cases e:(x == a)=true
  ·rw [e];exact ⟨_,rfl⟩
  ·have e':(x == a)=false:=by simpa using e
   rw [e'];rcases aQ.mp h with q | q
   ·cases q;simp at e
   ·exact mR q
def FZ(X:Cx)(scope:Scope):List (Str × Addr):=mD X.env scope.names []
theorem gP{X:Cx}{scope:Scope}(h:∀y∈scope.names,y.2=.free->∃c,X.env.cells.lookup y.1=some c){x:Str}{c:Addr}(e:(FZ X scope).lookup x=some c):X.env.cells.lookup x=some c:=by
 rcases tM scope.names [] h _ (mT e) with hm | hm
 ·cases hm
 ·exact hm
theorem mE{X:Cx}{scope:Scope}(h:∀y∈scope.names,y.2=.free->∃c,X.env.cells.lookup y.1=some c){x:Str}(hx:(x,NameKind.free)∈scope.names){c:Addr}(e:X.env.cells.lookup x=some c):(FZ X scope).lookup x=some c:=by
 obtain ⟨a,ha⟩:=tN (env:=X.env) scope.names [] x hx;obtain ⟨c',hc'⟩:=mR ha;have:=gP h hc';rw [e] at this;cases this;exact hc'
def mC(X:Cx)(scope:Scope)(C:Addr)(fp:List Addr)(s₀:Shared)(H₀:Hp)(N':List Str):Cx where
 prog:=X.prog
 w:=X.w
 K:=X.K
 mg:=X.mg
 base:=X.base
 A:=X.A
 N:=N'
 s₀:=s₀
 H₀:=H₀
 env:=compEnvC scope (FZ X scope) C X.env
 outer:=X.stack
 stack:=X.stack
 ex:=fp
 fn:=λ_=>false
 calm:=true
 pn:=[]
 xe:=λ_ _=>False
def slots(σ:St)(js:List Nat):St:=js.map λj=>(σ[j]?).getD none
def RE(X:Cx)(ifs:List Expr)(t:TT):Prop :=
 ∀(pins:List (Addr × Obj)) (s:Shared) (σ:St) (H:Hp) (Q:Bool->Hp->Prop),cB X pins σ H s->t σ H Q ->
  wpAny (model X.prog X.w) X.A (forIn ifs true λc r=>if r=true then do let ok <-isTrue c X.env (eval c X.env);pure (ForInStep.yield ok) else pure (ForInStep.yield r)) (TP X pins σ Q) X.xe s
def uE:TT:=λ_ H Q=>Q true H
theorem pts_nil{X:Cx}:RE X [] uE:=λpins s σ H Q I h=>wpAny_tests_nil ⟨H,I,h⟩
theorem TR{X:Cx}{c:Expr}{t:TT}(h:PT X c t):RE X [c] t:=λpins s σ H Q I q=>wpAny_tests_one (h pins s σ H Q I q)
def aBD(wi:TI)(js:List Nat)(tc:TT)(te:TE):TE:=λσ H Q=>wi σ H λJ H1=>∀D,H1 D=none->∃W:Nat->Nat->List V->Hp->Prop,(∃m,W 0 m [] (upd H1 D (.lst []))) /\
 ∀i m ys H2,W i m ys H2->H2 D=some (.lst ys)/\((J.stop i H2/\Q (.ref D) H2)\/(J.go i H2/\ys.length<sizeLine/\∀x H3,J.yld i H2 x H3 ->
  tc (some x::slots σ js) H3 λb H4=>if b=true then te (some x::slots σ js) H4 λy H5=>H5 D=some (.lst ys)/\∃m',m' < m/\W (i+1) m' (ys++[y]) (upd H5 D (.lst (ys++[y])))
   else H4 D=some (.lst ys)/\∃m',m' < m/\W (i+1) m' ys H4))
structure dY(X:Cx)(scope:Scope)(x:Str)(N':List Str)(js:List Nat):Prop where
 calm:X.calm=true
 free:∀y∈scope.names,y.2=.free->X.env.kindOf y.1=some .cell
 cell:∀y∈scope.names,y.2 ≠ .cell
 kind:scope.kind=.function
 names:∀y∈scope.names,y.2=.local->scope.names.lookup y.1=some .local
 own:scope.names.lookup x=some .local
 nofl:∀y,(y,NameKind.free)∈scope.names->scope.names.lookup y=some .local->False
 len:N'.length=js.length+1
 zero:N'[0]?=some x
 nd:N'.Nodup
 slot:∀(i:Nat) (j:Nat),js[i]?=some j->∃y,N'[i+1]?=some y/\X.N[j]?=some y/\(y,NameKind.free)∈scope.names
section
variable{X:Cx}{pins:List (Addr × Obj)}{σ:St}{H:Hp}{s:Shared}{scope:Scope}{x:Str}{N':List Str}{js:List Nat}{fp:List Addr}
theorem dY.cells(S:dY X scope x N' js)(ok:X.Ok):∀y∈scope.names,y.2=.free->∃c,X.env.cells.lookup y.1=some c:=λy hy hf=>ok.has _ (.inl (S.free y hy hf))
theorem iB{env:Env}:∀{names:List (Str × NameKind)}{y:Str}{k:NameKind},(names.map λ(n,k)=>if (k == NameKind.free&&env.scope.kind == .function&&env.kindOf n == some .cell) then (n,NameKind.cell) else (n,k)).lookup y=some k ->
  (k=.cell\/k=.free)->(∀z∈names,z.2 ≠ .cell)->(y,NameKind.free)∈names
 | [],_,_,h,_,_=>by cases h
 | (n,q)::r,y,k,h,hk,hc=>by
  rw [aW,List.lookup_cons] at h;have ih:=λh=>@iB env r y k h hk λz hz=>hc z (aH _ hz);by_cases hq:(q == NameKind.free&&env.scope.kind == .function&&env.kindOf n == some .cell)=true
  ·dsimp only at h;rw [if_pos hq] at h;have qf:q=.free:=by
    rw [cU,cU] at hq;simpa using hq.1.1
   subst qf;by_cases e:(y == n)=true
   ·have:y=n:=by simpa using e
    subst this;exact aN
   ·have e':(y == n)=false:=by simpa using e
    dsimp only at h;rw [e'] at h;exact aH _ (ih h)
  ·dsimp only at h;rw [if_neg hq] at h;by_cases e:(y == n)=true
   ·have:y=n:=by simpa using e
    subst this;dsimp only at h;rw [e] at h;have hkq:k=q:=by injection h with h;exact h.symm
    subst hkq;rcases hk with rfl | rfl
    ·exact absurd rfl (hc _ aN)
    ·exact aN
   ·have e':(y == n)=false:=by simpa using e
    dsimp only at h;rw [e'] at h;exact aH _ (ih h)
theorem aAZ(S:dY X scope x N' js)(I:cB X pins σ H s)(hf:∀b∈fp,jQ X pins H b)(hb:∀b∈fp,b<s.heap.objs.size):(mC X scope s.heap.objs.size fp s H N').Ok where
 mod:=I.ok.mod
 kind:=S.kind
 glob:=I.ok.glob
 blt:=I.ok.blt
 above:=aG _
 inj:=λy z c h1 h2=>I.ok.inj y z c (gP (S.cells I.ok) h1) (gP (S.cells I.ok) h2)
 has:=λy hy=>by
  have hm:(y,NameKind.free)∈scope.names:=by
   rcases hy with hy | hy
   ·exact iB (env:=X.env) hy (.inl rfl) S.cell
   ·exact iB (env:=X.env) hy (.inr rfl) S.cell
  obtain ⟨c,hc⟩:=S.cells I.ok _ hm rfl;exact ⟨c,mE (S.cells I.ok) hm hc⟩
 cab:=λ_ _ h=>by cases h
 hd:=λ_=>I.ok.hd S.calm
 frames:=I.ok.frames
 stk:=.inl rfl
 exf:=λb hb'=>⟨λe=>by have:=hb b hb';rw [e] at this;exact cQ _ this,λy c h=>(hf b hb').2.2.2.2.1 y c (gP (S.cells I.ok) h)⟩
 bs:=I.bs
 bsz:=bC I.ok.bsz I.sz
 noex:=λb o e hb'=>by
  rcases (hf b hb').2.2.2.1 with h | h
  ·exact I.ok.noex b o e h
  ·exact absurd (aT (bD e) (bC I.ok.bsz h)) (cQ _)
 exfs:=λb hb' hs=>by
  have h2:=I.stkSub b hs;rcases aQ.mp h2 with h2 | h2
  ·exact (hf b hb').2.1 h2
  ·exact (hf b hb').2.2.1 h2
 funs:=I.stack
 frf:=I.stkFree
theorem xY{i j:Nat}(h:js[i]?=some j):(slots σ js)[i]?=some ((σ[j]?).getD none):=by
 unfold slots;rw [aM,h];rfl
theorem VP{h':Heap}{tk:Nat}(S:dY X scope x N' js)(I:cB X pins σ H s)(hf:∀b∈fp,jQ X pins H b)(hb:∀b∈fp,b<s.heap.objs.size)
  (hn:h'.Ns s.heap.objs.size (λ_=>none)) (hk:∀b o,s.heap.get? b=some o->h'.get? b=some o):cB (mC X scope s.heap.objs.size fp s H N') [] (none::slots σ js) H { s with heap:=h',toks:=tk } where
 ok:=aAZ S I hf hb
 os:=rfl
 bare:=I.bare
 base:=Un.kept hk
 loc:=by
  refine ⟨_,hn,λi y v hi hv hvis=>?_⟩;cases i with
  | zero=>cases hv
  | succ i =>
   have hv':(slots σ js)[i]?=some (some v):=hv;have hlt:i<js.length:=by
    have:=(aL.mp hv').1;unfold slots at this
    rwa [aA] at this
   have hj:js[i]?=some js[i]:=aC hlt;obtain ⟨z,h1,h2,h3⟩:=S.slot i _ hj;have hzy:z=y:=by
    have:N'[i+1]?=some y:=hi;rw [h1] at this;cases this;rfl
   subst hzy;rw [xY hj] at hv';have hσ:σ[js[i]]?=some (some v):=by
    cases q:σ[js[i]]? with
    | none=>rw [q] at hv';cases hv'
    | some o=>rw [q] at hv';cases hv';rfl
   have hkc:X.env.kindOf z=some .cell:=S.free _ h3 rfl;obtain ⟨m,hm,hl⟩:=I.loc;obtain ⟨u,ru,lk⟩:=hl _ z v h2 hσ (.inr (.inl hkc));rcases lk with ⟨hk1,_⟩ | ⟨_,c,hc,hcell⟩
   ·rw [hkc] at hk1;cases hk1
   ·refine ⟨u,ru,.inr ⟨?_,c,mE (S.cells I.ok) h3 hc,?_⟩⟩
    ·rcases hvis with hvis | hvis | hvis
     ·exfalso;have hcl:=mE (S.cells I.ok) h3 hc;have hm2:=mT (l:=(relabel scope X.env).names) hvis;unfold relabel at hm2;obtain ⟨⟨n,k⟩,hmem,he⟩:=aU.mp hm2;dsimp only at he;by_cases hq:(k == NameKind.free&&X.env.scope.kind == .function&&X.env.kindOf n == some .cell)=true
      ·rw [if_pos hq] at he;cases he
      ·rw [if_neg hq] at he;cases he;have:=S.names _ hmem rfl;have l2:=mR h3;obtain ⟨c',l2⟩:=l2;dsimp only at this;rw [this] at l2;have key:(relabel scope X.env).names.lookup z=some .local:=lookup_relabel_local this;have hck:scope.names.lookup z=some .local:=this;exact S.nofl z h3 hck
     ·exact .inl hvis
     ·exact .inr hvis
    ·obtain ⟨o,e,r⟩:=hcell;exact ⟨o,hk _ _ e,r⟩
 cell:=λy c h=>by
  obtain ⟨v,o,e,r⟩:=I.cell y c (gP (S.cells I.ok) h);exact ⟨v,o,hk _ _ e,r⟩
 free:=I.hok.fresh (aG _)
 freeC:=λy c h=>I.freeC y c (gP (S.cells I.ok) h)
 pin:=λp hp=>by cases hp
 hok:=I.hok.kept hk
 len:=by
  show (slots σ js).length+1=N'.length;unfold slots;rw [aA,S.len]
theorem nC.but{P:Program}{w:World}{H:Hp}{h h':Heap}{C:Addr}(x:nC P w H h)(hC:H C=none)(k:∀b u,b≠C->h.get? b=some u->h'.get? b=some u):nC P w H h':=λa o e =>
 (x a o e).stay (λb u hb q=>k b u (by
  rcases hb with rfl | hb
  ·exact cI e hC
  ·exact cI hb hC) q) (λ_ q=>q) λ_ _ q=>q
theorem PX{H2:Hp}{σ':St}{s2:Shared}{h'':Heap}(S:dY X scope x N' js)(I:cB X pins σ H s)(hf:∀b∈fp,jQ X pins H b)
  (J:cB (mC X scope s.heap.objs.size fp s H N') [] σ' H2 s2) (hs:Heap.SameBut s.heap.objs.size s2.heap h''):cB X pins σ H2 { s2 with heap:=h'' }:=by
 have hC:H2 s.heap.objs.size=none:=J.free;have ne:∀{b:Addr} {o:Obj},s.heap.get? b=some o->b≠s.heap.objs.size:=λe q=>by
  have:=bD e;rw [q] at this;exact cQ _ this
 refine I.call' (s':={ s2 with heap:=h'' }) (ch:=fp) (by rw [show ({ s2 with heap:=h'' }:Shared).os=s2.os from rfl];exact J.os) ?_ (J.hok.but hC λb u hb q=>hs.extBut b u hb q) J.bare λb hb=>⟨(hf b hb).2.2.2.1,(hf b hb).2.1,(hf b hb).2.2.2.2.1,(hf b hb).2.2.2.2.2⟩;have U:=J.base;exact {
  keep:=λb o e n h1 h2=>hs.extBut b o (ne e) (U.keep b o e n h1 h2)
  slot:=λb o e n h1 h2=>by
   obtain ⟨sl,q⟩:=U.slot b o e n h1 h2;exact ⟨sl,hs.extBut b _ (ne e) q⟩
  free:=U.free
  there:=λb o e h2=>by
   obtain ⟨o',q⟩:=U.there b o e h2;exact ⟨o',hs.extBut b _ (ne e) q⟩
  tups:=U.tups
  frzs:=U.frzs
  tbls:=U.tbls }
end
abbrev RF:Value->Shared->Prop:=λ_ _=>False
theorem sB{prog:Program}{w:World}{A:Around}{R:Result->Shared->Prop}{s:Shared}{elt target iter:Expr}{ifs:List Expr}{scope:Scope}{pos:Pos}{it acc:Value}{env:Env}(I:Nat->Shared->Prop)
  (turn:∀n s,I n s->wpAny (model prog w) A (pyNext it) (λr s₁=>match r with
   | none=>R (.ok .next) s₁
   | some v=>wpAny (model prog w) A (letOwnedTupleGo target it v) (λ_ s₁'=>wpAny (model prog w) A (assign target env v) (λ_ s₂ =>
     wpAny (model prog w) A (forIn ifs true λc r=>if r=true then do let ok <-isTrue c env (eval c env);pure (ForInStep.yield ok) else pure (ForInStep.yield r)) (λok s₃ =>
      if ok=true then wpAny (model prog w) A (eval elt env) (λx s₄=>wpAny (model prog w) A (call (.builtin "list.append") [acc,x]) (λ_ s₅=>∃m,m<n/\I m s₅) RF s₄) RF s₃
      else ∃m,m<n/\I m s₃) RF s₂) RF s₁') RF s₁) RF s)
  (n:Nat) (h:I n s):codeAny (model prog w) A (.compLoop (.ListComp elt [⟨target,iter,ifs,0⟩] scope pos) 0 it acc env) R s:=by
 refine codeAny_loop rfl I (λn s hI=>?_) n h;show wpAny _ A ((compTurn (.ListComp elt [⟨target,iter,ifs,0⟩] scope pos) 0 it acc env).onRaise (λx=>do noteFrame x env;theTreesLotGoes x)) _ _ s;refine wpAny_noted ?_;rw [compTurn_list];refine wpAny_bind (wpAny_standAt (wpAny_bind (wpAny_mono (turn n s hI) (λr s₁ h₁=>?_) λ_ _ h'=>h'.elim)));cases r with
 | none=>exact wpAny_pure h₁
 | some v =>
  refine wpAny_bind (wpAny_mono h₁ (λ_ s₁' h₁'=>?_) λ_ _ h'=>h'.elim);refine wpAny_bind (wpAny_mono h₁' (λ_ s₂ h₂=>wpAny_bind (wpAny_mono h₂ (λok s₃ h₃=>?_) λ_ _ h'=>h'.elim)) λ_ _ h'=>h'.elim);cases ok with
  | false=>exact wpAny_pure ⟨rfl,h₃⟩
  | true =>
   exact wpAny_bind (wpAny_bind (wpAny_mono h₃ (λx s₄ h₄=>wpAny_bind (wpAny_mono h₄ (λ_ s₅ h₅=>wpAny_pure (wpAny_pure ⟨rfl,h₅⟩)) λ_ _ h'=>h'.elim)) λ_ _ h'=>h'.elim))
section
variable{X:Cx}{pins:List (Addr × Obj)}{σ:St}{H:Hp}{s:Shared}{scope:Scope}{x:Str}{N':List Str}{js:List Nat}{fp:List Addr}{elt iter:Expr}{px pos:Pos}{ifs:List Expr}{tc:TT}{te:TE}
theorem FW{J:It}{it:Addr}{tn:Nat->Heap->Prop}{RR:Value->Addr->Result->Shared->Prop}{E:Value->Shared->Prop}{Q:VK}
  (S:dY X scope x N' js) (I:cB X pins σ H s) (T:GC X.prog X.w X.K (.Name x px) J fp it tn) (h0:tn 0 s.heap) (hf:∀b∈fp,jQ X pins H b)
  (ht:∀C fp s₀ H₀,RE (mC X scope C fp s₀ H₀ N') ifs tc) (he:∀C fp s₀ H₀,PE (mC X scope C fp s₀ H₀ N') elt te)
  (R:∀D,H D=none->∃W:Nat->Nat->List V->Hp->Prop,(∃m,W 0 m [] (upd H D (.lst []))) /\
   ∀i m ys H2,W i m ys H2->H2 D=some (.lst ys)/\((J.stop i H2/\Q (.ref D) H2)\/(J.go i H2/\ys.length<sizeLine/\∀x H3,J.yld i H2 x H3 ->
    tc (some x::slots σ js) H3 λb H4=>if b=true then te (some x::slots σ js) H4 λy H5=>H5 D=some (.lst ys)/\∃m',m' < m/\W (i+1) m' (ys++[y]) (upd H5 D (.lst (ys++[y])))
     else H4 D=some (.lst ys)/\∃m',m' < m/\W (i+1) m' ys H4)))
  (hRR:∀(D:Addr) (H3:Hp) (s3:Shared) (σ':St) (H':Hp) (s':Shared),cB X pins σ H3 s3->(∀b∈fp,jQ X pins H3 b)->cB (mC X scope s3.heap.objs.size fp s3 H3 N') [] σ' H' s'->Q (.ref D) H'->RR (.ref D) s3.heap.objs.size (.ok .next) s') :
  wpAny (model X.prog X.w) X.A (newList []) (λacc s₃=>wpAny (model X.prog X.w) X.A (newFunctionEnv scope X.env.globals (FZ X scope) [] X.env.qual none .none (some X.env)) (λcenv s₄ =>
   codeAny (model X.prog X.w) X.A (.compStart (.ListComp elt [⟨.Name x px,iter,ifs,0⟩] scope pos) 0 (.ref it) acc { cenv with scope:=relabel scope X.env }) (RR acc cenv.locals) s₄) E s₃) E s:=by
 have hb:∀b∈fp,b<s.heap.objs.size:=λb hb=>by
  obtain ⟨o,e,_⟩:=T.obj 0 _ h0 b hb;exact bD e
 refine wpAny_newObj_type (wpAny_newFunctionEnv S.cell (by intro y hy;simp at hy) (λh₁ hns₁ hsb₁=>?_) S.kind);have hDn:H s.heap.objs.size=none:=I.hok.fresh (aG _);obtain ⟨W,⟨m0,hw0⟩,hW⟩:=R _ hDn;have I3:cB X pins σ (upd H s.heap.objs.size (.lst [])) { s with heap:=s.heap.push { cls:=.type "list",dict:=none,data:=.seq ([]:List Value).toArray } }:=I.lnew (its:=[]) (ys:=[]) (t':=s.toks) .nil (cV _);have hf3:∀b∈fp,jQ X pins (upd H s.heap.objs.size (.lst [])) b:=λb hb' =>
  ⟨by rw [cL (λe=>by have:=hb b hb';rw [e] at this;exact cQ _ this)];exact (hf b hb').1,(hf b hb').2⟩
 have hb3:∀b∈fp,b<(s.heap.push { cls:=.type "list",dict:=none,data:=.seq ([]:List Value).toArray }).objs.size:=λb hb'=>by
  rw [fZ];exact Nat.lt_succ_of_lt (hb b hb')
 have hkeep:∀b o,(s.heap.push { cls:=.type "list",dict:=none,data:=.seq ([]:List Value).toArray }).get? b=some o->h₁.get? b=some o:=λb o e =>
  hsb₁.extBut b o (λq=>by have:=bD e;rw [q] at this;exact cQ _ this) (aB _ e)
 have J4:=VP (h':=h₁) (tk:=s.toks+([]:List (Str × Value)).length) S I3 hf3 hb3 hns₁ hkeep;have t4:tn 0 h₁:=T.keep 0 _ _ h0 λb hb' o e=>hkeep b o (aB _ e);have loop:codeAny (model X.prog X.w) X.A (.compLoop (.ListComp elt [⟨.Name x px,iter,ifs,0⟩] scope pos) 0 (.ref it) (.ref s.heap.objs.size) (compEnvC scope (FZ X scope) (s.heap.push { cls:=.type "list",dict:=none,data:=.seq ([]:List Value).toArray }).objs.size X.env))
   (RR (.ref s.heap.objs.size) (s.heap.push { cls:=.type "list",dict:=none,data:=.seq ([]:List Value).toArray }).objs.size) { s with heap:=h₁,toks:=s.toks+([]:List (Str × Value)).length }:=by
  refine sB (λn s'=>∃(i:Nat) (ys:List V) (H2:Hp) (o:Option V),cB (mC X scope _ fp _ _ N') [] (o::slots σ js) H2 s'/\tn i s'.heap/\(∀b∈fp,H2 b=none)/\W i n ys H2) ?_ m0 ⟨0,[],_,none,J4,t4,λb hb'=>(hf3 b hb').1,hw0⟩;rintro n s' ⟨i,ys,H2,o,J2,t2,f2,w2⟩;obtain ⟨hD,hcase⟩:=hW i n ys H2 w2;have Fp:∀b∈fp,jQ (mC X scope (s.heap.push { cls:=.type "list",dict:=none,data:=.seq ([]:List Value).toArray }).objs.size fp { s with heap:=s.heap.push { cls:=.type "list",dict:=none,data:=.seq ([]:List Value).toArray } } (upd H s.heap.objs.size (.lst [])) N') [] H2 b:=λb hb' =>
   ⟨f2 b hb',(J2.ok.exf b hb').1,J2.ok.exfs b hb',.inl hb',(J2.ok.exf b hb').2,λp hp=>by cases hp⟩
  rcases hcase with ⟨hstop,hq⟩ | ⟨hgo,hz,hturn⟩
  ·refine wpAny_mono (T.done (mC X scope _ fp _ _ N') rfl rfl rfl rfl i [] s' _ H2 RF J2 Fp t2 hstop) (λr s1 ⟨hr,J5⟩=>?_) λ_ _ f=>f;subst hr;exact hRR _ _ _ _ _ _ I3 hf3 J5 hq
  ·refine wpAny_mono (T.item (mC X scope _ fp _ _ N') rfl rfl rfl rfl i [] s' _ H2 RF J2 Fp t2 hgo) (λr s1 ⟨u,hr,hx⟩=>?_) λ_ _ f=>f;subst hr;refine wpAny_mono hx (λ_ s2 ⟨v,H3,J3,rv,hy,t3,f3⟩=>?_) λ_ _ f=>f;have Fp3:∀b∈fp,jQ (mC X scope (s.heap.push { cls:=.type "list",dict:=none,data:=.seq ([]:List Value).toArray }).objs.size fp { s with heap:=s.heap.push { cls:=.type "list",dict:=none,data:=.seq ([]:List Value).toArray } } (upd H s.heap.objs.size (.lst [])) N') [] H3 b:=λb hb' =>
    ⟨f3 b hb',(J3.ok.exf b hb').1,J3.ok.exfs b hb',.inl hb',(J3.ok.exf b hb').2,λp hp=>by cases hp⟩
   have P3:=J3.pinned Fp3 (T.obj (i+1) _ t3);have keepT:∀{σ':St} {Hx:Hp} {sx:Shared},cB (mC X scope (s.heap.push { cls:=.type "list",dict:=none,data:=.seq ([]:List Value).toArray }).objs.size fp { s with heap:=s.heap.push { cls:=.type "list",dict:=none,data:=.seq ([]:List Value).toArray } } (upd H s.heap.objs.size (.lst [])) N') ([]++sX fp s2.heap) σ' Hx sx->tn (i+1) sx.heap/\∀b∈fp,Hx b=none:=λJx =>
    ⟨T.keep (i+1) _ _ t3 λb hb' ob e=>(Jx.pin (b,ob) (bE _ (bE _ (jE hb' e)))).1,λb hb'=>by
     obtain ⟨ob,e,_⟩:=T.obj (i+1) _ t3 b hb';exact (Jx.pin (b,ob) (bE _ (bE _ (jE hb' e)))).2.1⟩
   refine wpAny_assign_Name (nM P3 (i:=0) (x:=x) (v:=v) ?nd ?hi ?hx rv (λs5 J5=>?_) ?hfn)
   case nd=>exact S.nd
   case hi=>exact S.zero
   case hx=>exact .inl (lookup_relabel_local S.own)
   case hfn=>exact .inr (lookup_relabel_local S.own)
   have J5':cB _ _ (some v::slots σ js) H3 s5:=J5;refine wpAny_mono (ht _ _ _ _ _ _ _ _ _ J5' (hturn v H3 hy)) (λok s6 ⟨H6,J6,q6⟩=>?_) λ_ _ f=>f;dsimp only at q6;by_cases hok:ok=true
   ·rw [if_pos hok] at q6 ⊢;refine wpAny_mono (he _ _ _ _ _ _ _ _ _ J6 q6) (λy s7 ⟨w',H7,J7,r7,hD7,m',hm',w7⟩=>?_) λ_ _ f=>f;refine wpAny_mono (tE (X:=mC X scope _ fp _ _ N') _ _ _ _ (.ref s.heap.objs.size) [w'] (.ref s.heap.objs.size) [y] (λ_ H8=>H8=upd H7 s.heap.objs.size (.lst (ys++[w']))) J7 rfl (.cons r7 .nil) ⟨_,_,_,rfl,rfl,hD7,hz,rfl⟩) (λ_ s8 ⟨_,H8,J8,_,e8⟩=>?_) λ_ _ f=>f;subst e8;obtain ⟨k1,k2⟩:=keepT J8;exact ⟨m',hm',i+1,ys++[w'],_,some v,J8.unpinned,k1,k2,w7⟩
   ·rw [if_neg hok] at q6 ⊢;obtain ⟨_,m',hm',w7⟩:=q6;obtain ⟨k1,k2⟩:=keepT J6;exact ⟨m',hm',i+1,ys,_,some v,J6.unpinned,k1,k2,w7⟩
 refine codeAny_compStart_list loop (T.self X.A 0 _ _ _ t4 loop)
theorem UH{wi:TI}(S:dY X scope x N' js)(hi:PI X (.Name x px) iter wi)(ht:∀C fp s₀ H₀,RE (mC X scope C fp s₀ H₀ N') ifs tc)(he:∀C fp s₀ H₀,PE (mC X scope C fp s₀ H₀ N') elt te)
  (hs:∀x,foldedSetIterable iter X.env x=pure x:=by intro _;rfl):PE X (.ListComp elt [⟨.Name x px,iter,ifs,0⟩] scope pos) (aBD wi js tc te):=by
 intro pins s σ H Q I h;rw [eval_ListComp];refine wpAny_comprehension_free (use:=none) rfl hs (pX (S.cells I.ok)) S.kind S.names (wpAny_mono (hi pins s σ H _ I h) (λv s1 h1=>?_) λ_ _ e=>e);refine wpAny_mono h1 (λitv s2 ⟨it,fp,tn,J,H2,e,I2,T,t0,hf,R⟩=>?_) λ_ _ e=>e;subst e;refine FW S I2 T t0 hf ht he R ?_;intro D H3 s3 σ' H' s' I3 hf3 J3 q;obtain ⟨m,hm,_⟩:=J3.loc;exact ⟨m,hm,λh' hs'=>⟨.ref D,H',PX S I3 hf3 J3 hs',rfl,q⟩⟩
end
structure QT(X:Cx)(ifs:List Expr)(t:TT):Prop where p:RE X ifs t
def zY(t:TE):TE:=λσ H Q=>∃Q':VK,t σ H Q'/\∀v H1,Q' v H1->Q v H1
theorem PE.mono{X:Cx}{e:Expr}{t:TE}(h:PE X e t):PE X e (zY t):=λpins s σ H Q I ⟨Q',h1,h2⟩ =>
 thn (h pins s σ H Q' I h1) λb s' ⟨v,H',I',r,q⟩=>⟨v,H',I',r,h2 _ _ q⟩
theorem RE.mono{X:Cx}{es:List Expr}{t:TT}(h:RE X es t):RE X es (qP t):=λpins s σ H Q I ⟨Q',h1,h2⟩ =>
 thn (h pins s σ H Q' I h1) λb s' ⟨H',I',q⟩=>⟨H',I',h2 _ _ q⟩
@[irreducible] def kX(J:It)(σ:St)(js:List Nat)(tc:TT)(te:TE)(H1:Hp)(Q:VK):Prop:=∀D,H1 D=none->∃W:Nat->Nat->List V->Hp->Prop,(∃m,W 0 m [] (upd H1 D (.lst []))) /\
 ∀i m ys H2,W i m ys H2->H2 D=some (.lst ys)/\((J.stop i H2/\Q (.ref D) H2)\/(J.go i H2/\ys.length<sizeLine/\∀x H3,J.yld i H2 x H3 ->
  qP tc (some x::slots σ js) H3 λb H4=>if b=true then zY te (some x::slots σ js) H4 λy H5=>H5 D=some (.lst ys)/\∃m',m' < m/\W (i+1) m' (ys++[y]) (upd H5 D (.lst (ys++[y])))
   else H4 D=some (.lst ys)/\∃m',m' < m/\W (i+1) m' ys H4))
def MN(wi:TI)(js:List Nat)(tc:TT)(te:TE):TE:=λσ H Q=>wi σ H λJ H1=>kX J σ js tc te H1 Q
section
variable{X:Cx}{scope:Scope}{x y:Str}{N':List Str}{js:List Nat}{elt iter c:Expr}{px py pos spos:Pos}{ifs:List Expr}{tc:TT}{te:TE}{wi:TI}{i:Nat}
theorem eJ:QT X [] uE:=⟨pts_nil⟩
theorem GJ{t:TT}(h:GD X c t):QT X [c] t:=⟨TR h.p⟩
theorem eS(S:dY X scope x N' js)(hi:WG X (.Name x px) iter wi)(ht:∀C fp s₀ H₀,QT (mC X scope C fp s₀ H₀ N') ifs tc)(he:∀C fp s₀ H₀,fG (mC X scope C fp s₀ H₀ N') elt te)
  (hs:∀x,foldedSetIterable iter X.env x=pure x:=by intro _;rfl):fG X (.ListComp elt [⟨.Name x px,iter,ifs,0⟩] scope pos) (MN wi js tc te) :=
 ⟨by unfold MN kX;exact UH S hi.p (λC fp s₀ H₀=>(ht C fp s₀ H₀).p.mono) (λC fp s₀ H₀=>(he C fp s₀ H₀).p.mono) hs⟩
end
def XZ(psc scope:Scope)(N:List Str)(x:Str)(N':List Str)(js:List Nat):Bool :=
 (scope.names.all λy=>!(y.2 == .free) || psc.names.lookup y.1 == some .cell)&&(scope.names.all λy=>!(y.2 == .cell))&&scope.kind == .function &&
 (scope.names.all λy=>!(y.2 == .local) || scope.names.lookup y.1 == some .local)&&scope.names.lookup x == some .local &&
 (scope.names.all λy=>!(y.2 == .free) || !(scope.names.lookup y.1 == some .local))&&N'.length == js.length+1&&N'[0]? == some x&&decide N'.Nodup &&
 ((List.range js.length).all λi=>match js[i]?,N'[i+1]? with
  | some j,some y=>N[j]? == some y&&scope.names.contains (y,NameKind.free)
  | _,_=>false)
theorem dY.of{X:Cx}{psc scope:Scope}{N:List Str}{x:Str}{N':List Str}{js:List Nat}(h:XZ psc scope N x N' js=true)(hX:X.env.scope=psc)(hN:X.N=N)(hc:X.calm=true):dY X scope x N' js:=by
 unfold XZ at h;simp only [cU] at h;obtain ⟨⟨⟨⟨⟨⟨⟨⟨⟨h1,h2⟩,h3⟩,h4⟩,h5⟩,h6⟩,h7⟩,h8⟩,h9⟩,h10⟩:=h;rw [List.all_eq_true] at h1 h2 h4 h6 h10;refine ⟨hc,λy hy e=>?_,λy hy e=>?_,by simpa using h3,λy hy e=>?_,by simpa using h5,λy hy e=>?_,by simpa using h7,by simpa using h8,of_decide_eq_true h9,λi j hj=>?_⟩
 ·have:=h1 y hy;rw [e] at this;show X.env.scope.names.lookup y.1=_;rw [hX];simpa using this
 ·have:=h2 y hy;rw [e] at this;simp at this
 ·have:=h4 y hy;rw [e] at this;simpa using this
 ·have:=h6 _ hy;rw [e] at this;simp at this
 ·have hi:i<js.length:=(aL.mp hj).1;have:=h10 i (cE.mpr hi);rw [hj] at this;cases q:N'[i+1]? with
  | none=>rw [q] at this;simp at this
  | some y =>
   rw [q] at this;simp only [cU] at this;exact ⟨y,rfl,by rw [hN];simpa using this.1,List.contains_iff_mem.mp this.2⟩
section
variable{js:List Nat}{te:TE}{tc:TT}{σ:St}{H:Hp}{Q:VK}
theorem wW{J:It}{n:Nat}(src:Nat->V->Prop)(hz:n<=100000)(Pv:Addr->Nat->List V->Hp->Prop)
  (h0:∀D H1,H D=none->H1 D=some (.lst [])->bF H H1->Pv D 0 [] H1)
  (hg:∀D i ys H',i<n->H' D=some (.lst ys)->Pv D i ys H'->J.go i H'/\∀x H3,J.yld i H' x H3->H3=H'/\src i x)
  (hst:∀D ys H',H' D=some (.lst ys)->Pv D n ys H'->J.stop n H')
  (hs:∀D i x ys H',src i x->i<n->ys.length=i->H' D=some (.lst ys)->Pv D i ys H'->te (some x::slots σ js) H' λy H5=>H5 D=some (.lst ys)/\∀H6,H6 D=some (.lst (ys++[y]))->aK D H5 H6->Pv D (i+1) (ys++[y]) H6)
  (hd:∀D ys H',ys.length=n->H D=none->H' D=some (.lst ys)->Pv D n ys H'->Q (.ref D) H') :
  kX J σ js uE te H Q:=by
 unfold kX;intro D hD;refine ⟨λi m ys H'=>m=n-i/\i<=n/\ys.length=i/\H' D=some (.lst ys)/\Pv D i ys H',⟨n,by simp,cV _,rfl,bJ,h0 D _ hD bJ (bF.upd hD)⟩,?_⟩;rintro i m ys H2 ⟨rfl,hi,hy,hD2,p⟩;refine ⟨hD2,?_⟩;by_cases hlt:i<n
 ·obtain ⟨g1,g2⟩:=hg D i ys H2 hlt hD2 p;refine .inr ⟨g1,bG (m:=100000) Oo Dd,λx H3 hy3=>?_⟩;obtain ⟨rfl,hx⟩:=g2 x H3 hy3;refine ⟨λb H4=>b=true/\H4=H3,⟨rfl,rfl⟩,?_⟩;rintro b H4 ⟨rfl,rfl⟩;rw [if_pos rfl];refine ⟨_,hs D i x ys H4 hx hlt hy hD2 p,?_⟩;rintro v H5 ⟨hD5,k⟩;exact ⟨hD5,n-(i+1),Oo,rfl,hlt,by rw [bK,hy];rfl,bJ,k _ bJ aK.self⟩
 ·have e:i=n:=Oo;subst e;exact .inl ⟨hst D ys H2 hD2 p,hd D ys H2 hy hD hD2 p⟩
end
@[irreducible] def NL(K:PySem.W.Frag):List V->Hp->VK->Prop:=λxs H Q=>∃(p:Addr) (ns:List Int),xs=[.ref p]/\fT K H p (ns.map V.int)/\Q (.int ns.sum) H
@[irreducible] def JT(b:Bool):R2:=λx y H Q=>∃d d',bO H d x/\bO H d' y/\SeqAt.shaped d=true/\SeqAt.shaped d'=true/\Q (.bl (b == PyData.eqv d d')) H
section
variable{X:Cx}
theorem QE(hc:X.calm=true):gS X (.builtin "sum") (NL X.K):=by
 unfold NL;intro pins s σ H xs us Q I r h;obtain ⟨p,ns,rfl,hq,q⟩:=h;obtain ⟨u,rfl,rx⟩:=kZ r;cases rx;obtain ⟨its,r',pl,hz⟩:=I.list hq;have hi:=qI r';obtain ⟨xs',e⟩:=hi.allInts.items;rw [e] at pl;refine sum_intListG (I.ok.hd hc) pl.isList λh' tk t' hk=>⟨.int ns.sum,H,I.kept hk,⟨t',?_⟩,q⟩;rw [preSum_eq,List.take_of_length_le (by simp)];rw [<-hi.numsOf];have e2:its=(intItems xs').toList:=by rw [<-e]
 rw [e2,nums_intItems]
theorem rsI{K:PySem.W.Frag}{H:Hp}{p:Addr}{ns:List Int}{Q:VK}(h:fT K H p (ns.map V.int))(q:Q (.int ns.sum) H):NL K [.ref p] H Q:=by unfold NL;exact ⟨p,ns,rfl,h,q⟩
theorem aAA(hu:X.A.units+64<cLine):pI X (compareOp .Eq) (JT true):=by
 unfold JT;intro pins s σ H x y v u Q I rx ry h;obtain ⟨d,d',h1,h2,s1,s2,q⟩:=h;obtain ⟨as,ra⟩:=h1.reads I rx;obtain ⟨bs,rb⟩:=h2.reads I ry;exact SeqAt.compareEq_shaped ra rb s1 s2 hu ⟨.bl _,H,I,by show _=_;simp,q⟩
theorem AO(hu:X.A.units+64<cLine):pI X (compareOp .NotEq) (JT false):=by
 unfold JT;intro pins s σ H x y v u Q I rx ry h;obtain ⟨d,d',h1,h2,s1,s2,q⟩:=h;obtain ⟨as,ra⟩:=h1.reads I rx;obtain ⟨bs,rb⟩:=h2.reads I ry;exact SeqAt.compareNe_shaped ra rb s1 s2 hu ⟨.bl _,H,I,by show _=_;simp,q⟩
theorem reD{b:Bool}{x y:V}{d d':PyData}{H:Hp}{Q:VK}(h1:bO H d x)(h2:bO H d' y)(s1:SeqAt.shaped d=true)(s2:SeqAt.shaped d'=true)(q:Q (.bl (b == PyData.eqv d d')) H):JT b x y H Q:=by
 unfold JT;exact ⟨d,d',h1,h2,s1,s2,q⟩
end
mutual
theorem wS:∀d:PyData,d.hasDict=false->PyData.eqv d d=true
 | .none,_=>by simp [PyData.eqv]
 | .bool _,_=>by simp [PyData.eqv]
 | .int _,_=>by simp [PyData.eqv]
 | .str _,_=>by simp [PyData.eqv]
 | .list xs,h=>by simp only [PyData.eqv];exact oO xs (by simpa [PyData.hasDict] using h)
 | .tuple xs,h=>by simp only [PyData.eqv];exact oO xs (by simpa [PyData.hasDict] using h)
 | .dict _,h=>by simp [PyData.hasDict] at h
theorem oO:∀ds:List PyData,PyData.hasDictAll ds=false->PyData.eqvAll ds ds=true
 | [],_=>by simp [PyData.eqvAll]
 | d::ds,h=>by
  simp only [PyData.hasDictAll,Bool.or_eq_false_iff] at h;simp only [PyData.eqvAll,wS d h.1,oO ds h.2,Bool.and_self]
end
mutual
def eP:PyData->Bool
 | .list _=>false
 | .dict _=>false
 | .tuple ds=>dW ds
 | _=>true
def dW:List PyData->Bool
 | []=>true
 | d::ds=>eP d&&dW ds
end
def cG(H H':Hp):Prop:=∀b xs,H b=some (.tup xs)->H' b=some (.tup xs)
theorem cG.trans{H H1 H2:Hp}(a:cG H H1)(b:cG H1 H2):cG H H2:=λc o h=>b c o (a c o h)
theorem bF.t{H H':Hp}(s:bF H H'):cG H H':=λb xs h=>s _ _ h
theorem aK.t{H H':Hp}{p:Addr}(s:aK p H H'){xs:List V}(hp:H p=some (.lst xs)):cG H H':=λb ys h=>s.at (pU h hp (by intro z;cases z)) h
mutual
theorem bO.flat{H H':Hp}(s:cG H H'):∀{d:PyData}{v:V},eP d=true->bO H d v->bO H' d v
 | .none,_,_,h=>h
 | .bool _,_,_,h=>h
 | .int _,_,_,h=>h
 | .str _,_,_,h=>h
 | .list _,_,f,_=>by simp [eP] at f
 | .dict _,_,f,_=>by simp [eP] at f
 | .tuple ds,_,f,h=>by
  unfold bO at h ⊢;obtain ⟨a,ys,rfl,h1,h2⟩:=h;exact ⟨a,ys,rfl,s _ _ h1,aP.flat s (by simpa [eP] using f) h2⟩
theorem aP.flat{H H':Hp}(s:cG H H'):∀{ds:List PyData}{vs:List V},dW ds=true->aP H ds vs->aP H' ds vs
 | [],_,_,h=>h
 | d::ds,_,f,h=>by
  unfold aP at h ⊢;obtain ⟨x,ys,rfl,h1,h2⟩:=h;simp only [dW,cU] at f;exact ⟨x,ys,rfl,bO.flat s f.1 h1,aP.flat s f.2 h2⟩
end
theorem aP.get{H:Hp}:∀{ds:List PyData}{vs:List V}{i:Nat}{v:V},aP H ds vs->vs[i]?=some v->∃d,ds[i]?=some d/\bO H d v
 | [],_,i,v,h,e=>by cases (show _=[] from h);simp at e
 | d::ds,_,i,v,h,e=>by
  unfold aP at h;obtain ⟨x,ys,rfl,h1,h2⟩:=h;cases i with
  | zero=>simp at e;subst e;exact ⟨d,rfl,h1⟩
  | succ i =>
   rw [List.getElem?_cons_succ] at e ⊢;exact aP.get h2 e
theorem aP.get'{H:Hp}:∀{ds:List PyData}{vs:List V}{i:Nat}{d:PyData},aP H ds vs->ds[i]?=some d->∃v,vs[i]?=some v/\bO H d v
 | [],_,i,d,h,e=>by simp at e
 | d' :: ds,_,i,d,h,e=>by
  unfold aP at h;obtain ⟨x,ys,rfl,h1,h2⟩:=h;cases i with
  | zero=>simp at e;subst e;exact ⟨x,rfl,h1⟩
  | succ i =>
   rw [List.getElem?_cons_succ] at e ⊢;exact aP.get' h2 e
theorem aP.snoc{H:Hp}{ds:List PyData}{vs:List V}{d:PyData}{v:V}(h:aP H ds vs)(r:bO H d v):aP H (ds++[d]) (vs++[v]):=aP.append (aP.cons r aP.nil) h
theorem xA{i:Int}{n:Nat}(h:i.natAbs<2^n):bits i<=n:=PySem.intBits_le_iff.mpr h
theorem rN{i j:Int}{n m:Nat}(h1:i.natAbs<2^n)(h2:j.natAbs<2^m)(hn:n<=1048576:=by decide)(hm:m<=1048576:=by decide):IntMulOk i j:=by
 refine IntMulOk.of_bits ?_ ?_
 ·exact bC (xA h1) hn
 ·exact bC (xA h2) hm
mutual
def QZ:PyData->Nat
 | .none=>4
 | .bool _=>5
 | .int _=>1921
 | .str x=>(reprText x).length
 | .list xs=>AG xs+4
 | .tuple xs=>AG xs+4
 | .dict _=>0
def AG:List PyData->Nat
 | []=>0
 | x::xs=>QZ x+2+AG xs
end
theorem tV:∀(ts:List Str) (k:Nat) (acc:Str),(textFrom k acc ts).length<=acc.length+piled ts
 | [],k,acc=>by show acc.length<=_;omega
 | t::r,k,acc=>by
  have h:=tV r (k+1) (acc++(if k > 0 then ", " else "" : String)++t);have e:(acc++(if k > 0 then ", " else "" : String)++t).length=acc.length+(if k > 0 then 2 else 0)+t.length:=by
   rw [strLen_append,strLen_append];split <;> rfl
  rw [e] at h;rw [piled_cons];show (textFrom (k+1) _ r).length<=_;refine bC h ?_;split <;> omega
theorem zW(ts:List Str):(tupleText ts).length<=piled ts+4:=by
 unfold tupleText;rw [strLen_append,strLen_append];have e1:(("(" : Str)).length=1:=rfl;have e2:((if ts.length == 1 then ",)" else ")" : String):Str).length<=2:=by split <;> decide
 rw [e1];by_cases h:ts=[]
 ·subst h;have:(Str.join ", " []).length=0:=rfl;omega
 ·have:=join_length_add ts h;omega
theorem CY(ts:List Str):(listText ts).length<=piled ts+4:=by
 unfold listText;rw [strLen_append];have:=tV ts 0 "[";have e1:(("[" : String):Str).length=1:=rfl;have e2:(("]" : String):Str).length=1:=rfl;rw [e1] at this;rw [e2];omega
mutual
theorem CK:∀d:PyData,d.showable=true->d.hasDict=false->d.shown.length<=QZ d
 | .none,_,_=>by simp only [PyData.shown,QZ];decide
 | .bool b,_,_=>by cases b <;> (simp only [PyData.shown,QZ];decide)
 | .int i,h,_=>by
  simp only [PyData.shown,QZ];exact int_text_len_1921 (by simpa [PyData.showable] using h)
 | .str x,_,_=>by simp only [PyData.shown,QZ];exact aG _
 | .list xs,h,h2=>by
  simp only [PyData.shown,QZ];have:=oE xs (by simpa [PyData.showable] using h) (by simpa [PyData.hasDict] using h2);have:=CY (PyData.shownAll xs);omega
 | .tuple xs,h,h2=>by
  simp only [PyData.shown,QZ];have:=oE xs (by simpa [PyData.showable] using h) (by simpa [PyData.hasDict] using h2);have:=zW (PyData.shownAll xs);omega
 | .dict _,_,h=>by simp [PyData.hasDict] at h
theorem oE:∀ds:List PyData,PyData.showableAll ds=true->PyData.hasDictAll ds=false->piled (PyData.shownAll ds)<=AG ds
 | [],_,_=>by simp only [PyData.shownAll,AG];exact aG _
 | d::ds,h,h2=>by
  simp only [PyData.showableAll,cU] at h;simp only [PyData.hasDictAll,Bool.or_eq_false_iff] at h2;have:=CK d h.1 h2.1;have:=oE ds h.2 h2.2;simp only [PyData.shownAll,AG,piled_cons];omega
end
theorem SO{i:Int}{n:Nat}(h:i.natAbs<2^n)(hn:n<=1920:=by decide):PyData.showable (.int i)=true:=by
 simp only [PyData.showable];refine bP (uA (bC (xA h) hn) Dd)
section
variable{X:Cx}(K:PySem.W.Frag)
theorem iF(h:X.K=K:=by rfl):QV X (rIx K):=by subst h;exact aZ
theorem IN(h:X.K=K:=by rfl):gS X (.builtin "len") (FE K):=by subst h;exact fY
theorem IM(hc:X.calm=true)(h:X.K=K:=by rfl):gS X (.builtin "sum") (NL K):=by subst h;exact QE hc
end
end L2
namespace L2
open PySem
def xJ(b:Bool)(h:Heap)(i l:Addr)(k:Nat):Prop:=∃o,h.get? i=some o/\o.cls=.type (bif b then "tuple_iterator" else "list_iterator")/\o.data=.fields #[.ref l,.int k 0]
def lL(b:Bool)(h:Heap)(l:Addr)(xs:Array Value):Prop:=∃o,h.get? l=some o/\o.cls=.type (bif b then "tuple" else "list")/\∃n,o.data=.seq xs n
theorem xJ.at{b:Bool}{h h':Heap}{i l:Addr}{k:Nat}(x:xJ b h i l k)(f:∀o,h.get? i=some o->h'.get? i=some o):xJ b h' i l k:=let ⟨o,ho,r⟩:=x;⟨o,f o ho,r⟩
theorem lL.at{b:Bool}{h h':Heap}{l:Addr}{xs:Array Value}(x:lL b h l xs)(f:∀o,h.get? l=some o->h'.get? l=some o):lL b h' l xs:=let ⟨o,ho,r⟩:=x;⟨o,f o ho,r⟩
section
variable{prog:Program}{w:World}{A:Around}{E:Value->Shared->Prop}{s:Shared}
theorem AQ{b:Bool}{it l:Addr}{i:Nat}{items:Array Value}{x:Value}{Q:Value->Shared->Prop}(hit:xJ b s.heap it l i)(hl:lL b s.heap l items)(hx:items[i]?=some x)
  (hQ:∀h',xJ b h' it l (i+1)->Heap.SameBut it s.heap h'->Q x { s with heap:=h' }):wpAny (model prog w) A (Builtin.SmallTypes.nextOf (.ref it)) Q E s:=by
 cases b with
 | false=>exact wpAny_nextOf_list_item hit hl hx hQ
 | true =>
  have ty:s.heap.IsTupleIter it l i:=hit;obtain ⟨o,ho,hc,hd⟩:=id ty;obtain ⟨ol,hol,_,nl,hdl⟩:=hl;unfold Builtin.SmallTypes.nextOf;refine wpAny_bind (wpAny_callSpecial?_slot (name:=Str.ofString "__next__") ty.typeIs F.slot_tuple_iterator_next (wpAny_call_entry F.slot_tuple_iterator_next ty.typeIs F.entry_tuple_iterator_next ?_ (F.args_tuple_iterator_next_1 _)));show wpAny _ _ (field (.ref it) 0 >>= _) _ _ s;refine wpAny_bind (wpAny_field ho hd (x:=.ref l) rfl ?_);show wpAny _ _ (if (Value.ref l == Value.none)=true then _ else _) _ _ s;rw [if_neg (show ¬((Value.ref l == Value.none)=true) from cA)];show wpAny _ _ (field (.ref it) 1 >>= _) _ _ s;refine wpAny_bind (wpAny_field ho hd (x:=.int i 0) rfl ?_);show wpAny _ _ (seqItems? (.ref l) >>= _) _ _ s;refine wpAny_bind (wpAny_seqItems hol hdl ?_);simp only [Int.toNat_natCast,hx];refine wpAny_bind (wpAny_setField ho hd (by simp) (wpAny_pure ⟨x,rfl,wpAny_pure (hQ _ ?_ (Heap.SameBut.update ..))⟩));refine ⟨_,Heap.get?_update_self _ ho (Obj.isFreed_of_fields (Obj.data_mapFields hd _)),(Obj.cls_mapFields ..).trans hc,?_⟩;rw [Obj.data_mapFields hd];simp [rawInt]
theorem OF{b:Bool}{it l:Addr}{i:Nat}{items:Array Value}{Q:Value->Shared->Prop}(hh:A.handled=none)(hit:xJ b s.heap it l i)(hl:lL b s.heap l items)(hx:items[i]?=none)
  (hE:∀h' e,Heap.ExtBut it s.heap h'->(∃o,h'.get? e=some o/\o.cls=.type "StopIteration")->E (.ref e) { s with heap:=h' }):wpAny (model prog w) A (Builtin.SmallTypes.nextOf (.ref it)) Q E s:=by
 cases b with
 | false=>exact wpAny_nextOf_list_end hh hit hl hx hE
 | true =>
  have ty:s.heap.IsTupleIter it l i:=hit;obtain ⟨o,ho,hc,hd⟩:=id ty;obtain ⟨ol,hol,_,nl,hdl⟩:=hl;unfold Builtin.SmallTypes.nextOf;refine wpAny_bind (wpAny_callSpecial?_slot (name:=Str.ofString "__next__") ty.typeIs F.slot_tuple_iterator_next (wpAny_call_entry F.slot_tuple_iterator_next ty.typeIs F.entry_tuple_iterator_next ?_ (F.args_tuple_iterator_next_1 _)));show wpAny _ _ (field (.ref it) 0 >>= _) _ _ s;refine wpAny_bind (wpAny_field ho hd (x:=.ref l) rfl ?_);show wpAny _ _ (if (Value.ref l == Value.none)=true then _ else _) _ _ s;rw [if_neg (show ¬((Value.ref l == Value.none)=true) from cA)];show wpAny _ _ (field (.ref it) 1 >>= _) _ _ s;refine wpAny_bind (wpAny_field ho hd (x:=.int i 0) rfl ?_);show wpAny _ _ (seqItems? (.ref l) >>= _) _ _ s;refine wpAny_bind (wpAny_seqItems hol hdl ?_);simp only [Int.toNat_natCast,hx];refine wpAny_bind (wpAny_rule (wpAny_bind (wpAny_setField ho hd (by simp) ?_)));show wpAny _ _ (newExc (.type "StopIteration") [] >>= _) _ _ _;refine wpAny_bind ?_;simp only [newExc,newTuple];refine wpAny_bind (wpAny_newObj_type ?_ (by size_fits));refine wpAny_bind (m:=firstArgMember _ _) (wpAny_of_eq (a:=Value.none) (by first | rfl | (simp only [firstArgMember];rfl)) ?_);refine wpAny_newObj_type ?_ (by size_fits);simp only [raiseNew];refine wpAny_bind (wpAny_handled ?_)
  first | rw [show A.in1.handled=none from hh] | rw [hh]
  refine wpAny_bind (wpAny_pure (wpAny_throw ?_));exact hE _ _ (((Heap.SameBut.update ..).extBut.push _).push _) ⟨_,bA _ rfl,rfl⟩
structure YA(b1 b2:Bool)(z TI TO i1 i2 l1 l2:Addr)(f:Value)(k:Nat)(h:Heap):Prop where
 z:IsZip h z TI TO f
 ti:IsPair h TI (.ref i1) (.ref i2)
 to:∃a b,IsPair h TO a b
 i1:xJ b1 h i1 l1 k
 i2:xJ b2 h i2 l2 k
theorem IW{b1 b2:Bool}{z TI TO i1 i2 l1 l2:Addr}{k:Nat}{xs ys:Array Value}{x y:Value}{Q:Value->Shared->Prop}(D:ZipApart z TI TO i1 i2 l1 l2)(Z:YA b1 b2 z TI TO i1 i2 l1 l2 .none k s.heap)
  (hl1:lL b1 s.heap l1 xs) (hl2:lL b2 s.heap l2 ys) (hx:xs[k]?=some x) (hy:ys[k]?=some y)
  (hQ:∀h',YA b1 b2 z TI TO i1 i2 l1 l2 (rawInt s.heap.objs.size) (k+1) h'->IsPair h' s.heap.objs.size x y->(∀c o,c≠z->c≠TO->c≠i1->c≠i2->s.heap.get? c=some o->h'.get? c=some o)->Q (.ref s.heap.objs.size) { s with heap:=h' }) :
  wpAny (model prog w) A (Builtin.«zip.__next__» ⟨[.ref z],[]⟩) (λfin s'=>∃v,fin=.done (.ret v)/\Q v s') E s:=by
 obtain ⟨hz,hTI,⟨a,b,hTO⟩,h1,h2⟩:=Z;show wpAny _ _ (field (.ref z) 2 >>= _) _ _ _;refine wpAny_bind (wpAny_field hz rfl (x:=.bool false) rfl ?_);show wpAny _ _ (field (.ref z) 3 >>= _) _ _ _;refine wpAny_bind (wpAny_field hz rfl (x:=.ref TI) rfl ?_);refine wpAny_bind (wpAny_seqItems hTI rfl ?_);show wpAny _ _ (Builtin.SmallTypes.ownedTupleIsFree (.ref z) >>= _) _ _ _;refine wpAny_bind ?_;unfold Builtin.SmallTypes.ownedTupleIsFree;refine wpAny_bind (wpAny_field hz rfl (x:=.none) rfl (wpAny_pure ?_));simp only [if_true];refine wpAny_bind (wpAny_rule ?_);refine wpAny_bind (wpAny_field hz rfl (x:=.ref TO) rfl ?_);refine wpAny_bind (wpAny_setField_rec hz (by simp) λh₁ hz₁ hs₁=>?_);have g₁:=hs₁.extBut;replace hz₁:IsZip h₁ z TI TO .ellipsis:=hz₁;refine wpAny_bind ?_;simp only [List.zipIdx_cons,List.zipIdx_nil,List.forIn_cons,List.forIn_nil];refine wpAny_bind (wpAny_bind (wpAny_onRaise ?_));show wpAny _ _ (Builtin.SmallTypes.nextOf (.ref i1) >>= _) _ _ _;refine wpAny_bind (AQ (h1.at λo e=>g₁ _ o D.i1z e) (hl1.at λo e=>g₁ _ o D.l1z e) hx λh₂ h1₂ hs₂=>wpAny_pure ?_);have g₂:=hs₂.extBut;have hTO₂:IsPair h₂ TO a b:=g₂ _ _ D.TOi1 (g₁ _ _ D.TOz hTO);refine wpAny_bind (wpAny_seqItems hTO₂ rfl ?_);refine wpAny_bind (wpAny_updateSeq_pair hTO₂ λh₃ hTO₃ hs₃=>?_);have g₃:=hs₃.extBut;replace hTO₃:IsPair h₃ TO x b:=hTO₃;refine wpAny_bind (wpAny_letGo (wpAny_pure ?_));refine wpAny_bind (wpAny_bind (wpAny_onRaise ?_));show wpAny _ _ (Builtin.SmallTypes.nextOf (.ref i2) >>= _) _ _ _
 refine wpAny_bind (AQ (h2.at λo e=>g₃ _ o D.TOi2.symm (g₂ _ o D.i12.symm (g₁ _ o D.i2z e))) (hl2.at λo e=>g₃ _ o D.l2TO (g₂ _ o D.l2i1 (g₁ _ o D.l2z e))) hy λh₄ h2₄ hs₄=>wpAny_pure ?_);have g₄:=hs₄.extBut;have hTO₄:IsPair h₄ TO x b:=g₄ _ _ D.TOi2 hTO₃;refine wpAny_bind (wpAny_seqItems hTO₄ rfl ?_);refine wpAny_bind (wpAny_updateSeq_pair hTO₄ λh₅ hTO₅ hs₅=>?_);have g₅:=hs₅.extBut;replace hTO₅:IsPair h₅ TO x y:=hTO₅;refine wpAny_bind (wpAny_letGo (wpAny_pure (wpAny_pure ?_)));refine wpAny_bind (wpAny_seqItems hTO₅ rfl ?_);refine wpAny_bind (wpAny_newTuple ?_);have hsz:h₅.objs.size=s.heap.objs.size:=by rw [hs₅.1,hs₄.1,hs₃.1,hs₂.1,hs₁.1]
 have hz₅:IsZip h₅ z TI TO .ellipsis:=g₅ _ _ D.TOz.symm (g₄ _ _ D.i2z.symm (g₃ _ _ D.TOz.symm (g₂ _ _ D.i1z.symm hz₁)));have hk₅:∀c o,c≠z->c≠TO->c≠i1->c≠i2->s.heap.get? c=some o->h₅.get? c=some o:=λc o c1 c2 c3 c4 e=>g₅ _ _ c2 (g₄ _ _ c4 (g₃ _ _ c2 (g₂ _ _ c3 (g₁ _ _ c1 e))));have h1₅:xJ b1 h₅ i1 l1 (k+1):=h1₂.at λo e=>g₅ _ o D.TOi1.symm (g₄ _ o D.i12 (g₃ _ o D.TOi1.symm e));have h2₅:xJ b2 h₅ i2 l2 (k+1):=h2₄.at λo e=>g₅ _ o D.TOi2.symm e;have hzlt:=bD hz₅;show wpAny _ _ (Builtin.SmallTypes.ownedTupleHandOut (.ref z) (.ref h₅.objs.size) >>= _) _ _ _;refine wpAny_bind ?_;unfold Builtin.SmallTypes.ownedTupleHandOut;have hz₆:IsZip (h₅.push { cls:=.type "tuple",data:=.seq #[x,y] }) z TI TO .ellipsis:=aB _ hz₅;refine wpAny_bind (wpAny_setField_rec hz₆ (by simp) λh₇ hz₇ hs₇=>?_);replace hz₇:IsZip h₇ z TI TO (rawInt h₅.objs.size):=hz₇;refine wpAny_setField_rec hz₇ (by simp) λh₈ hz₈ hs₈=>?_;replace hz₈:IsZip h₈ z TI TO (rawInt h₅.objs.size):=hz₈;have up:∀c o,c≠z->h₅.get? c=some o->h₈.get? c=some o:=λc o c1 e=>hs₈.extBut _ _ c1 (hs₇.extBut _ _ c1 (aB _ e));have hT₈:IsPair h₈ h₅.objs.size x y:=hs₈.extBut _ _ (Nat.ne_of_gt hzlt) (hs₇.extBut _ _ (Nat.ne_of_gt hzlt) (bA _ rfl));rw [hsz] at hz₈ hT₈;refine wpAny_pure ⟨_,rfl,?_⟩;show Q (.ref h₅.objs.size) _;rw [hsz]
 exact hQ h₈ ⟨hz₈,up _ _ D.TIz (hk₅ _ _ D.TIz D.TITO D.TIi1 D.TIi2 hTI),⟨_,_,up _ _ D.TOz hTO₅⟩,h1₅.at λo e=>up _ o D.i1z e,h2₅.at λo e=>up _ o D.i2z e⟩ hT₈ λc o c1 c2 c3 c4 e=>up c o c1 (hk₅ c o c1 c2 c3 c4 e)
theorem LR{b1 b2:Bool}{z TI TO i1 i2 l1 l2:Addr}{k:Nat}{xs ys:Array Value}{Q:Fin->Shared->Prop}(hh:A.handled=none)(D:ZipApart z TI TO i1 i2 l1 l2)(Z:YA b1 b2 z TI TO i1 i2 l1 l2 .none k s.heap)
  (hl1:lL b1 s.heap l1 xs) (hl2:lL b2 s.heap l2 ys) (hend:xs[k]?=none\/ys[k]?=none)
  (hE:∀h' e,(∀c o,c≠z->c≠TO->c≠i1->c≠i2->s.heap.get? c=some o->h'.get? c=some o)->(∃o,h'.get? e=some o/\o.cls=.type "StopIteration")->E (.ref e) { s with heap:=h' }) :
  wpAny (model prog w) A (Builtin.«zip.__next__» ⟨[.ref z],[]⟩) Q E s:=by
 obtain ⟨hz,hTI,⟨a,b,hTO⟩,h1,h2⟩:=Z;show wpAny _ _ (field (.ref z) 2 >>= _) _ _ _;refine wpAny_bind (wpAny_field hz rfl (x:=.bool false) rfl ?_);show wpAny _ _ (field (.ref z) 3 >>= _) _ _ _;refine wpAny_bind (wpAny_field hz rfl (x:=.ref TI) rfl ?_);refine wpAny_bind (wpAny_seqItems hTI rfl ?_);show wpAny _ _ (Builtin.SmallTypes.ownedTupleIsFree (.ref z) >>= _) _ _ _;refine wpAny_bind ?_;unfold Builtin.SmallTypes.ownedTupleIsFree;refine wpAny_bind (wpAny_field hz rfl (x:=.none) rfl (wpAny_pure ?_));simp only [if_true];refine wpAny_bind (wpAny_rule ?_);refine wpAny_bind (wpAny_field hz rfl (x:=.ref TO) rfl ?_);refine wpAny_bind (wpAny_setField_rec hz (by simp) λh₁ hz₁ hs₁=>?_);have g₁:=hs₁.extBut;replace hz₁:IsZip h₁ z TI TO .ellipsis:=hz₁;refine wpAny_bind ?_;simp only [List.zipIdx_cons,List.zipIdx_nil,List.forIn_cons,List.forIn_nil];refine wpAny_bind (wpAny_bind (wpAny_onRaise ?_));show wpAny _ _ (Builtin.SmallTypes.nextOf (.ref i1) >>= _) _ _ _;cases hx:xs[k]? with
 | none =>
  refine wpAny_bind (OF hh (h1.at λo e=>g₁ _ o D.i1z e) (hl1.at λo e=>g₁ _ o D.l1z e) hx λh₂ e hs₂ he=>?_);obtain ⟨oe,hoe,hce⟩:=he;have hz₂:IsZip h₂ z TI TO .ellipsis:=hs₂ _ _ D.i1z.symm hz₁;have hez:e≠z:=λx=>by subst x;rw [hz₂] at hoe;cases hoe;simp at hce
  exact wpAny_setField_rec hz₂ (by simp) λh₃ _ hs₃=>hE h₃ e (λc o c1 _ c3 _ x=>hs₃.extBut _ _ c1 (hs₂ _ _ c3 (g₁ _ _ c1 x))) ⟨oe,hs₃.extBut _ _ hez hoe,hce⟩
 | some x =>
  have hy:ys[k]?=none:=by
   rcases hend with h | h
   ·rw [hx] at h;cases h
   ·exact h
  refine wpAny_bind (AQ (h1.at λo e=>g₁ _ o D.i1z e) (hl1.at λo e=>g₁ _ o D.l1z e) hx λh₂ h1₂ hs₂=>wpAny_pure ?_);have g₂:=hs₂.extBut;have hTO₂:IsPair h₂ TO a b:=g₂ _ _ D.TOi1 (g₁ _ _ D.TOz hTO);refine wpAny_bind (wpAny_seqItems hTO₂ rfl ?_);refine wpAny_bind (wpAny_updateSeq_pair hTO₂ λh₃ hTO₃ hs₃=>?_);have g₃:=hs₃.extBut;refine wpAny_bind (wpAny_letGo (wpAny_pure ?_));refine wpAny_bind (wpAny_bind (wpAny_onRaise ?_));show wpAny _ _ (Builtin.SmallTypes.nextOf (.ref i2) >>= _) _ _ _;refine wpAny_bind (OF hh (h2.at λo e=>g₃ _ o D.TOi2.symm (g₂ _ o D.i12.symm (g₁ _ o D.i2z e))) (hl2.at λo e=>g₃ _ o D.l2TO (g₂ _ o D.l2i1 (g₁ _ o D.l2z e))) hy λh₄ e hs₄ he=>?_);obtain ⟨oe,hoe,hce⟩:=he;have hz₄:IsZip h₄ z TI TO .ellipsis:=hs₄ _ _ D.i2z.symm (g₃ _ _ D.TOz.symm (g₂ _ _ D.i1z.symm hz₁));have hez:e≠z:=λx=>by subst x;rw [hz₄] at hoe;cases hoe;simp at hce
  exact wpAny_setField_rec hz₄ (by simp) λh₅ _ hs₅=>hE h₅ e (λc o c1 c2 c3 c4 x=>hs₅.extBut _ _ c1 (hs₄ _ _ c4 (g₃ _ _ c2 (g₂ _ _ c3 (g₁ _ _ c1 x))))) ⟨oe,hs₅.extBut _ _ hez hoe,hce⟩
theorem IV{b1 b2:Bool}{z TI TO i1 i2 l1 l2:Addr}{k:Nat}{xs ys:Array Value}{x y:Value}{Q:Option Value->Shared->Prop}(D:ZipApart z TI TO i1 i2 l1 l2)(Z:YA b1 b2 z TI TO i1 i2 l1 l2 .none k s.heap)
  (hl1:lL b1 s.heap l1 xs) (hl2:lL b2 s.heap l2 ys) (hx:xs[k]?=some x) (hy:ys[k]?=some y)
  (hQ:∀h',YA b1 b2 z TI TO i1 i2 l1 l2 (rawInt s.heap.objs.size) (k+1) h'->IsPair h' s.heap.objs.size x y->(∀c o,c≠z->c≠TO->c≠i1->c≠i2->s.heap.get? c=some o->h'.get? c=some o)->Q (some (.ref s.heap.objs.size)) { s with heap:=h' }) :
  wpAny (model prog w) A (pyNext (.ref z)) Q E s:=by
 have hT:s.TypeIs (.ref z) "zip" := ⟨_,Z.z,rfl⟩;unfold pyNext;refine wpAny_bind (wpAny_attempt (wpAny_callSpecial?_slot (name:=Str.ofString "__next__") hT F.slot_zip_next (wpAny_call_entry F.slot_zip_next hT F.entry_zip_next ?_ (F.args_zip_next_1 _))));exact IW D Z hl1 hl2 hx hy λh' a1 a2 a3=>wpAny_pure (hQ h' a1 a2 a3)
theorem IU{b1 b2:Bool}{z TI TO i1 i2 l1 l2:Addr}{k:Nat}{xs ys:Array Value}{Q:Option Value->Shared->Prop}(hh:A.handled=none)(D:ZipApart z TI TO i1 i2 l1 l2)(Z:YA b1 b2 z TI TO i1 i2 l1 l2 .none k s.heap)
  (hl1:lL b1 s.heap l1 xs) (hl2:lL b2 s.heap l2 ys) (hend:xs[k]?=none\/ys[k]?=none)
  (hQ:∀h',(∀c o,c≠z->c≠TO->c≠i1->c≠i2->s.heap.get? c=some o->h'.get? c=some o)->Q none { s with heap:=h' }):wpAny (model prog w) A (pyNext (.ref z)) Q E s:=by
 have hT:s.TypeIs (.ref z) "zip" := ⟨_,Z.z,rfl⟩;unfold pyNext;refine wpAny_bind (wpAny_attempt (wpAny_callSpecial?_slot (name:=Str.ofString "__next__") hT F.slot_zip_next (wpAny_call_entry F.slot_zip_next hT F.entry_zip_next ?_ (F.args_zip_next_1 _))));refine LR hh D Z hl1 hl2 hend λh' e hk he=>?_;obtain ⟨o,ho,hc⟩:=he;refine wpAny_bind (wpAny_isInstance (T := "StopIteration") (b:=true) ⟨o,ho,hc⟩ isSubtype_stop ?_);exact wpAny_pure (hQ _ hk)
abbrev itO(b:Bool)(l:Addr):Obj:={ cls:=.type (bif b then "tuple_iterator" else "list_iterator"),data:=.fields #[.ref l,.int 0 0] }
theorem XQ{b:Bool}{l:Addr}{xs:Array Value}{Q:Value->Shared->Prop}(h:lL b s.heap l xs)(q:Q (.ref s.heap.objs.size) { s with heap:=s.heap.push (itO b l) }):wpAny (model prog w) A (pyIter (.ref l)) Q E s:=by
 cases b with
 | false=>exact wpAny_pyIter_list h q
 | true=>exact wpAny_pyIter_tuple h q
end
end L2
namespace L2
open PySem PySem.Spec PyProof.Rows
section
variable{X:Cx}{pins:List (Addr × Obj)}{σ:St}{H:Hp}{s:Shared}{h':Heap}
theorem cB.turnedL{t':Nat}{fp:List Addr}(I:cB X pins σ H s)(k:∀b o,b ∉ fp->s.heap.get? b=some o->h'.get? b=some o)(hf:∀b∈fp,jQ X pins H b):cB X pins σ H { s with heap:=h',toks:=t' }:=by
 have nit:∀b u,H b=some u->b ∉ fp:=λb u e z=>by rw [(hf b z).1] at e;cases e
 refine I.step (g':=s.gens) (d':=s.drawn) (ch:=fp) (λb hb=>?_) (λb o _ _ hc e _=>k b o hc e) (λb o _ _ hc e _=>⟨o.slots,k b o hc e⟩) (λ_ _ _ _ n=>n)
  (λb o hc e=>⟨o,k b o hc e⟩) (λ_ _ e=>e) (λ_ _ _ e=>e) (λb ps e=>⟨#[],by rw [e];simp⟩) (λm hm=>?_) (λb u e=>?_) I.bare
 ·obtain ⟨f0,f1,f2,f3,f4,f5⟩:=hf b hb;exact ⟨f3,f1,f4,f5⟩
 ·obtain ⟨o,es,ep,ho,r⟩:=hm;exact ⟨o,es,ep,k _ o (λz=>(hf _ z).2.1 rfl) ho,r⟩
 ·refine (I.hok b u e).stay (λc v hc q=>k c v ?_ q) (λ_ q=>q) λ_ _ q=>q;rcases hc with z | z
  ·rw [z];exact nit b u e
  ·exact nit c _ z
theorem Un.putE{fs ex:List Addr}{H H1:Hp}{h h1:Heap}{a:Addr}{u:HO}(x:Un fs ex H H1 h h1)(ha:h.get? a=none)(hn:H1 a=none):Un fs ex H (upd H1 a u) h h1 where
 keep:=x.keep
 slot:=x.slot
 free:=λb ob e n m=>by rw [cL (λz=>by subst z;rw [ha] at e;cases e)];exact x.free b ob e n m
 there:=x.there
 tups:=λb xs e=>by rw [cL (cI (x.tups b xs e) hn)];exact x.tups b xs e
 frzs:=λb ob xs e=>by rw [cL (cI (x.frzs b ob xs e) hn)];exact x.frzs b ob xs e
 tbls:=λb ps e=>by
  obtain ⟨m,q⟩:=x.tbls b ps e;exact ⟨m,by rw [cL (cI q hn)];exact q⟩
theorem nC.putE{P:Program}{w:World}{h:Heap}{a:Addr}{u:HO}(x:nC P w H h)(hn:H a=none)(new:eE P w (upd H a u) h a u):nC P w (upd H a u) h:=λb v e=>by
 by_cases hb:b=a
 ·subst hb;rw [bJ] at e;cases e;exact new
 ·rw [cL hb] at e;exact (x b v e).stay (λc q _ r=>r) (λc q=>by rw [cL (cI q hn)];exact q) λc xs q=>by rw [cL (cI q hn)];exact q
theorem cB.put{a:Addr}{o:HO}(I:cB X pins σ H s)(f:jQ X pins H a)(hs:X.s₀.heap.get? a=none)(new:eE X.prog X.w (upd H a o) s.heap a o):cB X pins σ (upd H a o) s :=
 ⟨I.ok,I.os,I.bare,I.base.putE hs f.1,I.loc,I.cell,by rw [cL (Ne.symm f.2.1)];exact I.free,λx c e=>by rw [cL (f.2.2.2.2.1 x c e)];exact I.freeC x c e,λp hp=>by
  obtain ⟨q1,q2,q3⟩:=I.pin p hp;exact ⟨q1,by rw [cL (f.2.2.2.2.2 p hp)];exact q2,q3⟩,nC.putE I.hok f.1 new,I.len⟩
def EC(b:Bool)(xs:List V):HO:=bif b then .tup xs else .lst xs
theorem EC.inj{b:Bool}{xs ys:List V}(h:some (EC b xs)=some (EC b ys)):xs=ys:=by
 cases b <;> (injection h with h;injection h)
theorem cB.sq{b:Bool}{a:Addr}{xs:List V}(I:cB X pins σ H s)(h:H a=some (EC b xs)):∃its:List Value,cO xs its/\lL b s.heap a its.toArray:=by
 cases b with
 | false=>obtain ⟨its,r,p,_⟩:=I.list (fT.of h);exact ⟨its,r,p.isList⟩
 | true=>obtain ⟨its,r,p,_⟩:=I.tuple (fS.of h);exact ⟨its,r,p⟩
end
def Itz(b1 b2:Bool)(l1 l2:Addr):It :=
  ⟨λi H=>∃xs ys x y,H l1=some (EC b1 xs)/\H l2=some (EC b2 ys)/\xs[i]?=some x/\ys[i]?=some y,
   λi H v H'=>∃q x y,v=.ref q/\H q=none/\H'=upd H q (.tup [x,y])/\∀xs ys,H l1=some (EC b1 xs)->H l2=some (EC b2 ys)->xs[i]?=some x/\ys[i]?=some y,
   λi H=>∃xs ys,H l1=some (EC b1 xs)/\H l2=some (EC b2 ys)/\(xs.length<=i\/ys.length<=i)⟩
structure ZD(z TI TO i1 i2:Addr):Prop where
 TIz:TI≠z
 TOz:TO≠z
 i1z:i1≠z
 i2z:i2≠z
 TITO:TI≠TO
 TIi1:TI≠i1
 TIi2:TI≠i2
 TOi1:TO≠i1
 TOi2:TO≠i2
 i12:i1≠i2
theorem ZD.seq(n:Nat):ZD (n+4) (n+2) (n+3) n (n+1) where
 TIz:=λh=>absurd (show (n+2:Nat)=n+4 from h) Oo
 TOz:=λh=>absurd (show (n+3:Nat)=n+4 from h) Oo
 i1z:=λh=>absurd (show (n:Nat)=n+4 from h) Oo
 i2z:=λh=>absurd (show (n+1:Nat)=n+4 from h) Oo
 TITO:=λh=>absurd (show (n+2:Nat)=n+3 from h) Oo
 TIi1:=λh=>absurd (show (n+2:Nat)=n from h) Oo
 TIi2:=λh=>absurd (show (n+2:Nat)=n+1 from h) Oo
 TOi1:=λh=>absurd (show (n+3:Nat)=n from h) Oo
 TOi2:=λh=>absurd (show (n+3:Nat)=n+1 from h) Oo
 i12:=λh=>absurd (show (n:Nat)=n+1 from h) Oo
theorem ZD.all{z TI TO i1 i2 l1 l2:Addr}(d:ZD z TI TO i1 i2){H:Hp}{o1 o2:HO}(e1:H l1=some o1)(e2:H l2=some o2)(h:∀b∈[z,TI,TO,i1,i2],H b=none):ZipApart z TI TO i1 i2 l1 l2 :=
 ⟨d.TIz,d.TOz,d.i1z,d.i2z,d.TITO,d.TIi1,d.TIi2,d.TOi1,d.TOi2,d.i12,cI e1 (h _ (by simp)),cI e1 (h _ (by simp)),cI e1 (h _ (by simp)),cI e1 (h _ (by simp)),cI e2 (h _ (by simp)),cI e2 (h _ (by simp)),cI e2 (h _ (by simp)),cI e2 (h _ (by simp))⟩
theorem MI{P:Program}{w:World}{K:PySem.W.Frag}{elts:List Expr}{x1}{tp:Pos}{b1 b2:Bool}{z TI TO i1 i2 l1 l2:Addr}(d:ZD z TI TO i1 i2):GC P w K (.Tuple elts x1 tp) (Itz b1 b2 l1 l2) [z,TI,TO,i1,i2] z (λi h=>YA b1 b2 z TI TO i1 i2 l1 l2 .none i h) where
 mem:=by simp
 obj:=λi h st b hb=>by
  obtain ⟨a,b',ht⟩:=st.to;obtain ⟨o1,e1,_,d1⟩:=st.i1;obtain ⟨o2,e2,_,d2⟩:=st.i2;simp only [aQ,List.not_mem_nil,or_false] at hb;rcases hb with rfl | rfl | rfl | rfl | rfl
  ·exact ⟨_,st.z,λv q=>by cases q⟩
  ·exact ⟨_,st.ti,λv q=>by cases q⟩
  ·exact ⟨_,ht,λv q=>by cases q⟩
  ·exact ⟨_,e1,λv q=>by rw [d1] at q;cases q⟩
  ·exact ⟨_,e2,λv q=>by rw [d2] at q;cases q⟩
 keep:=λi h h' st k=>by
  obtain ⟨a,b,ht⟩:=st.to;exact ⟨k _ (by simp) _ st.z,k _ (by simp) _ st.ti,⟨a,b,k _ (by simp) _ ht⟩,st.i1.at λo e=>k _ (by simp) o e,st.i2.at λo e=>k _ (by simp) o e⟩
 item:=by
  intro X hP hw hK hc i pins s σ H E I hf st hg;subst hP hw hK;obtain ⟨xs,ys,x,y,e1,e2,hx,hy⟩:=hg;obtain ⟨u1,r1,p1⟩:=I.sq e1;obtain ⟨u2,r2,p2⟩:=I.sq e2;obtain ⟨ux,hux,rx⟩:=r1.get hx;obtain ⟨uy,huy,ry⟩:=r2.get hy;have D:=d.all e1 e2 λb hb=>(hf b hb).1;refine IV D st p1 p2 (x:=ux) (y:=uy) (by simpa using hux) (by simpa using huy) λh' Z' hp hk=>?_;refine ⟨_,rfl,wpAny_letOwnedTupleGo_zip Z'.z λh2 hz2 hs2=>?_⟩;have kk:∀b o,b ∉ [z,TI,TO,i1,i2]->s.heap.get? b=some o->h2.get? b=some o:=λb o hb e=>by
   simp only [aQ,List.not_mem_nil,or_false,not_or] at hb;exact hs2.extBut b o hb.1 (hk b o hb.1 hb.2.2.1 hb.2.2.2.1 hb.2.2.2.2 e)
  have I1:cB X pins σ H { s with heap:=h2 }:=I.turnedL (t':=s.toks) kk hf;have fq:jQ X pins H s.heap.objs.size:=I.fpOk (aG _) (I.hok.fresh (aG _));have e0:X.s₀.heap.get? s.heap.objs.size=none:=by
   cases q:X.s₀.heap.get? s.heap.objs.size with
   | none=>rfl
   | some o=>exact absurd (aT (bD q) I.sz) (cQ _)
  have nz:s.heap.objs.size≠z:=λq=>absurd (bD st.z) (by rw [<-q];exact cQ _);obtain ⟨a,b,ht⟩:=Z'.to;refine ⟨.ref s.heap.objs.size,upd H s.heap.objs.size (.tup [x,y]),I1.put fq e0 ⟨⟨rH (by show 2<=64;decide),_,hs2.extBut _ _ nz hp,rfl⟩,[ux,uy],.cons rx (.cons ry .nil),⟨_,hs2.extBut _ _ nz hp,rfl,_,rfl⟩⟩,rfl,⟨_,x,y,rfl,fq.1,rfl,λxs' ys' q1 q2=>?_⟩,
   ⟨hz2,hs2.extBut _ _ d.TIz Z'.ti,⟨a,b,hs2.extBut _ _ d.TOz ht⟩,Z'.i1.at λo e=>hs2.extBut _ o d.i1z e,Z'.i2.at λo e=>hs2.extBut _ o d.i2z e⟩,λb hb=>?_⟩
  ·rw [e1] at q1;rw [e2] at q2;rw [<-EC.inj q1,<-EC.inj q2];exact ⟨hx,hy⟩
  ·have nb:b≠s.heap.objs.size:=λq=>by
    obtain ⟨a',b',ht'⟩:=st.to;obtain ⟨o1,e1',_⟩:=st.i1;obtain ⟨o2,e2',_⟩:=st.i2;have lt:∀{c o},s.heap.get? c=some o->c≠s.heap.objs.size:=λe=>cJ (bD e);simp only [aQ,List.not_mem_nil,or_false] at hb;rcases hb with rfl | rfl | rfl | rfl | rfl
    ·exact lt st.z q
    ·exact lt st.ti q
    ·exact lt ht' q
    ·exact lt e1' q
    ·exact lt e2' q
   rw [cL nb];exact (hf b hb).1
 done:=by
  intro X hP hw hK hc i pins s σ H E I hf st hg;subst hP hw hK;obtain ⟨xs,ys,e1,e2,hl⟩:=hg;obtain ⟨u1,r1,p1⟩:=I.sq e1;obtain ⟨u2,r2,p2⟩:=I.sq e2;have D:=d.all e1 e2 λb hb=>(hf b hb).1;have l1:=r1.length;have l2:=r2.length;have hend:u1.toArray[i]?=none\/u2.toArray[i]?=none:=by
   rcases hl with h | h
   ·left;simp;omega
   ·right;simp;omega
  refine IU (I.ok.hd hc) D st p1 p2 hend λh' hk=>⟨rfl,I.turnedL (t':=s.toks) (λb o hb e=>?_) hf⟩;simp only [aQ,List.not_mem_nil,or_false,not_or] at hb;exact hk b o hb.1 hb.2.2.1 hb.2.2.2.1 hb.2.2.2.2 e
 self:=λ_ _ _ _ _ st h=>wpAny_pyIter_zip st.z h
abbrev zA(b:Bool)(h:Heap)(l:Addr):Heap:=h.push (itO b l)
abbrev zB(b1 b2:Bool)(h:Heap)(l1 l2:Addr):Heap:=(zA b1 h l1).push (itO b2 l2)
abbrev zC(b1 b2:Bool)(h:Heap)(l1 l2:Addr):Heap:=(zB b1 b2 h l1 l2).push { cls:=.type "tuple",data:=.seq #[.ref h.objs.size,.ref (zA b1 h l1).objs.size] }
abbrev zE(b1 b2:Bool)(h:Heap)(l1 l2:Addr):Heap:=(zC b1 b2 h l1 l2).push { cls:=.type "tuple",data:=.seq #[.none,.none] }
abbrev zF(b1 b2:Bool)(h:Heap)(l1 l2:Addr):Heap:=(zE b1 b2 h l1 l2).push { cls:=.type "zip",data:=.fields #[.none,.bool false,.bool false,.ref (zB b1 b2 h l1 l2).objs.size,.ref (zC b1 b2 h l1 l2).objs.size] }
theorem aAE(b1 b2:Bool)(l1 l2:Addr)(xs ys:Array Value):Meets (Builtin.«zip.__new__» ⟨[.type "zip",.ref l1,.ref l2],[]⟩) (λ_ R s=>lL b1 s.heap l1 xs/\lL b2 s.heap l2 ys/\R (.ok (.ret (.ref (zE b1 b2 s.heap l1 l2).objs.size))) { s with heap:=zF b1 b2 s.heap l1 l2 }) :=
 .of_wp λprog w A R s h=>by
  obtain ⟨hp,g,d,tk,os⟩:=s;obtain ⟨hl1,hl2,h⟩:=h;have hsub:=sub_zip;have hL1:lL b1 (Shared.heap ⟨hp,g,d,tk,os⟩) l1 xs:=hl1;have hL2:lL b2 (Shared.heap ⟨hp.push (itO b1 l1),g,d,tk,os⟩) l2 ys:=hl2.at λo e=>aB _ e
  wp_walk using XQ hL1,XQ hL2
  exact ⟨_,rfl,h⟩
section
variable{prog:Program}{w:World}{A:Around}{E:Value->Shared->Prop}{s:Shared}
theorem aCi{b1 b2:Bool}{l1 l2:Addr}{xs ys:Array Value}{Q:Value->Shared->Prop}(hl1:lL b1 s.heap l1 xs)(hl2:lL b2 s.heap l2 ys)
  (h:∀h',YA b1 b2 (s.heap.objs.size+4) (s.heap.objs.size+2) (s.heap.objs.size+3) s.heap.objs.size (s.heap.objs.size+1) l1 l2 .none 0 h'->(∀c o,s.heap.get? c=some o->h'.get? c=some o)->Q (.ref (s.heap.objs.size+4)) { s with heap:=h' }) :
  wpAny (model prog w) A (call (.type "zip") [.ref l1,.ref l2]) Q E s:=by
 refine callType_new F.called_zip Dd (F.typeCall_zip_2 _ _) (F.newCall_zip_2 _ _) (λobj=>F.args_object_init_3 obj _ _) F.entry_zip_new (aAE b1 b2 l1 l2 xs ys) ⟨hl1,hl2,?_⟩;have z1:(zA b1 s.heap l1).objs.size=s.heap.objs.size+1:=fZ ..;have z2:(zB b1 b2 s.heap l1 l2).objs.size=s.heap.objs.size+2:=by rw [fZ,z1]
 have z3:(zC b1 b2 s.heap l1 l2).objs.size=s.heap.objs.size+3:=by rw [fZ,z2]
 have z4:(zE b1 b2 s.heap l1 l2).objs.size=s.heap.objs.size+4:=by rw [fZ,z3]
 have g5:(zF b1 b2 s.heap l1 l2).get? (zE b1 b2 s.heap l1 l2).objs.size=some _:=bA _ rfl;have g4:(zF b1 b2 s.heap l1 l2).get? (zC b1 b2 s.heap l1 l2).objs.size=some _:=aB _ (bA _ rfl);have g3:(zF b1 b2 s.heap l1 l2).get? (zB b1 b2 s.heap l1 l2).objs.size=some _:=aB _ (aB _ (bA _ rfl));have g2:(zF b1 b2 s.heap l1 l2).get? (zA b1 s.heap l1).objs.size=some _:=aB _ (aB _ (aB _ (bA _ rfl)));have g1:(zF b1 b2 s.heap l1 l2).get? s.heap.objs.size=some _:=aB _ (aB _ (aB _ (aB _ (bA _ rfl))));show _/\_;rw [z2,z3,z4] at g5;rw [z1,z2] at g3;rw [z3] at g4;rw [z1] at g2;rw [z4];exact ⟨⟨_,g5,rfl⟩,h _ ⟨g5,g3,⟨_,_,g4⟩,⟨_,g1,rfl,rfl⟩,⟨_,g2,rfl,rfl⟩⟩ λc o x=>aB _ (aB _ (aB _ (aB _ (aB _ x))))⟩
end
def aCa(b1 b2:Bool)(ta:TA):TI:=λσ H R=>ta σ H λvs H1=>∃l1 l2 xs ys,vs=[.ref l1,.ref l2]/\H1 l1=some (EC b1 xs)/\H1 l2=some (EC b2 ys)/\R (Itz b1 b2 l1 l2) H1
theorem QN:bootBuiltins (Str.ofString "zip")=some (Value.type "zip"):=Kk
section
variable{X:Cx}
theorem aAk{a b:Expr}{ta:TA}{p pos tp:Pos}{elts:List Expr}{x1}{b1 b2:Bool}(hg:Gl X "zip")(hm:X.mg "zip" = none)(ha:PA X [a,b] ta)(hs:starEach [a,b] X.env=[(false,eval a X.env),(false,eval b X.env)])(hs2:starEach [b] X.env=[(false,eval b X.env)]) :
  PI X (.Tuple elts x1 tp) (.Call (.Name "zip" p) [a,b] [] pos) (aCa b1 b2 ta):=by
 intro pins s σ H R I h;refine Call_ (wH I hg hm QN (PyProof.Rows.callWith_type1 (thn (ha pos pins s σ H _ I h) λus s1 ⟨vs,H1,I1,r1,q1⟩=>?_) (by rw [hs,hs2]) (by rw [hs2];rfl)));obtain ⟨l1,l2,xs,ys,e,e1,e2,q⟩:=q1;subst e;cases r1 with
 | cons r rr =>
  cases rr with
  | cons r' rr =>
   cases rr;cases r;cases r';obtain ⟨u1,_,p1⟩:=I1.sq e1;obtain ⟨u2,_,p2⟩:=I1.sq e2;refine aCi p1 p2 λh' Z kk=>wpAny_pyIter_zip Z.z ?_;refine ⟨_,[s1.heap.objs.size+4,s1.heap.objs.size+2,s1.heap.objs.size+3,s1.heap.objs.size,s1.heap.objs.size+1],_,_,H1,rfl,I1.kept (t':=s1.toks) kk,MI (ZD.seq _),Z,λb hb=>?_,q⟩;have hle:s1.heap.objs.size<=b:=by
    simp only [aQ,List.not_mem_nil,or_false] at hb;rcases hb with rfl | rfl | rfl | rfl | rfl
    ·exact Nat.le_add_right _ _
    ·exact Nat.le_add_right _ _
    ·exact Nat.le_add_right _ _
    ·exact aG _
    ·exact Nat.le_add_right _ _
   exact I1.fpOk hle (I1.hok.fresh hle)
theorem LW(b1 b2:Bool){a b:Expr}{ta:TA}{p pos tp:Pos}{elts:List Expr}{x1}(hg:Gl X "zip")(hm:X.mg "zip" = none)(ha:IR X [a,b] ta)(hs:starEach [a,b] X.env=[(false,eval a X.env),(false,eval b X.env)]:=by rfl)(hs2:starEach [b] X.env=[(false,eval b X.env)]:=by first | exact fV | exact fW | exact cZ | rfl) :
  WG X (.Tuple elts x1 tp) (.Call (.Name "zip" p) [a,b] [] pos) (aCa b1 b2 ta):=⟨aAk hg hm ha.p hs hs2⟩
end
theorem IB{b1 b2:Bool}{l1 l2:Addr}{xs ys:List V}{g:TG}{tb:TS}{D:tU}{σ:St}{H:Hp}(Pv:Nat->St->Hp->Prop)(h0:Pv 0 σ H)(hl:∀i σ H,Pv i σ H->H l1=some (EC b1 xs)/\H l2=some (EC b2 ys))
  (hs:∀i x y q σ H H',xs[i]?=some x->ys[i]?=some y->Pv i σ H->H q=none->H' q=some (.tup [x,y])->bF H H'->g (.ref q) σ H' λσ2 H2=>tb { D with nx:=Pv (i+1),ct:=Pv (i+1),bk:=D.nx } σ2 H2) (hd:∀σ H,Pv (min xs.length ys.length) σ H->D.nx σ H) :
  ∃W:Nat->Nat->St->Hp->Prop,(∃m,W 0 m σ H)/\∀i m σ H,W i m σ H ->
   ((Itz b1 b2 l1 l2).stop i H/\D.nx σ H)\/((Itz b1 b2 l1 l2).go i H/\∃N:St->Hp->Prop,(∀σ' H',N σ' H'->∃m',m' < m/\W (i+1) m' σ' H')/\∀x H',(Itz b1 b2 l1 l2).yld i H x H'->g x σ H' λσ2 H2=>tb { D with nx:=N,ct:=N,bk:=D.nx } σ2 H2):=by
 refine ⟨λi m σ H=>m=min xs.length ys.length-i/\i<=min xs.length ys.length/\Pv i σ H,⟨_,rfl,cV _,h0⟩,?_⟩;rintro i m σ H ⟨rfl,hi,p⟩;obtain ⟨q1,q2⟩:=hl i σ H p;by_cases hlt:i<min xs.length ys.length
 ·have hx:xs[i]?=some xs[i]:=aC Oo;have hy:ys[i]?=some ys[i]:=aC Oo;refine .inr ⟨⟨xs,ys,_,_,q1,q2,hx,hy⟩,Pv (i+1),λσ' H' p'=>⟨_,Oo,rfl,hlt,p'⟩,λv H' y=>?_⟩;obtain ⟨q,x,y,rfl,hq,rfl,hh⟩:=y;obtain ⟨h1,h2⟩:=hh xs ys q1 q2;exact hs i x y q σ H _ h1 h2 p hq bJ (bF.upd hq)
 ·have e:i=min xs.length ys.length:=Oo;subst e;refine .inl ⟨⟨xs,ys,q1,q2,?_⟩,hd σ H p⟩;omega
end L2
namespace L2
open PySem
def mV:List Value->List Int->Bool
 | [],[]=>true
 | .int i _::vs,n::ns=>decide (i=n)&&mV vs ns
 | _,_=>false
def qH(K:PySem.W.Frag)(a:Addr)(ns:List Int):Bool :=
 match K.lookup a with
 | some o=>(match o.cls with | .type n=>n == "tuple" | _=>false)&&(match o.data with | .seq xs _=>decide (xs.size<=64)&&mV xs.toList ns | _=>false)
 | none=>false
theorem mV.vals:∀{vs:List Value}{ns:List Int},mV vs ns=true->cO (ns.map V.int) vs
 | [],[],_=>.nil
 | v::vs,n::ns,h=>by
  cases v with
  | int i t =>
   have h':(decide (i=n)&&mV vs ns)=true:=h;rw [cU] at h';have e:=of_decide_eq_true h'.1;subst e;exact .cons ⟨t,rfl⟩ (mV.vals h'.2)
  | _=>cases h
 | [],_::_,h=>by cases h
 | v::_,[],h=>by cases v <;> cases h
theorem nO{K:PySem.W.Frag}{H:Hp}{a:Addr}{ns:List Int}(h:qH K a ns=true):fS K H a (ns.map V.int):=by
 unfold qH at h;split at h
 ·rename_i o ho
  rw [cU] at h;obtain ⟨h1,h2⟩:=h;split at h1
  ·rename_i n hn
   split at h2
   ·rename_i xs m hx
    rw [cU] at h2;have e:n = "tuple" := by simpa using h1
    subst e;exact .inr ⟨o,xs,m,ho,hn,hx,rH (of_decide_eq_true h2.1),mV.vals h2.2⟩
   ·cases h2
  ·cases h1
 ·cases h
theorem fS.keep{K:PySem.W.Frag}{H H':Hp}{a:Addr}{xs:List V}(s:bF H H')(h:fS K H a xs):fS K H' a xs:=by
 rcases h with (h | ⟨o,h⟩) | h
 ·exact .inl (.inl (s _ _ h))
 ·exact .inl (.inr ⟨o,s _ _ h⟩)
 ·exact .inr h
mutual
def jG(K:PySem.W.Frag)(H:Hp):PyData->V->Prop
 | .none,v=>v=.non
 | .bool b,v=>v=.bl b
 | .int i,v=>v=.int i
 | .str x,v=>v=.str x
 | .list ds,v=>∃a xs,v=.ref a/\H a=some (.lst xs)/\fL K H ds xs
 | .tuple ds,v=>∃a xs,v=.ref a/\fS K H a xs/\fL K H ds xs
 | .dict kvs,v=>kvs=[]/\∃a,v=.ref a/\H a=some (.dK [])
def fL(K:PySem.W.Frag)(H:Hp):List PyData->List V->Prop
 | [],vs=>vs=[]
 | d::ds,vs=>∃x xs,vs=x::xs/\jG K H d x/\fL K H ds xs
end
mutual
theorem bO.k{K:PySem.W.Frag}{H:Hp}:∀{d:PyData}{v:V},bO H d v->jG K H d v
 | .none,_,h=>h
 | .bool _,_,h=>h
 | .int _,_,h=>h
 | .str _,_,h=>h
 | .list ds,_,h=>by
  unfold bO at h;unfold jG;obtain ⟨a,xs,rfl,h1,h2⟩:=h;exact ⟨a,xs,rfl,h1,aP.k h2⟩
 | .tuple ds,_,h=>by
  unfold bO at h;unfold jG;obtain ⟨a,xs,rfl,h1,h2⟩:=h;exact ⟨a,xs,rfl,fS.of h1,aP.k h2⟩
 | .dict kvs,_,h=>by unfold bO at h;unfold jG;exact h
theorem aP.k{K:PySem.W.Frag}{H:Hp}:∀{ds:List PyData}{vs:List V},aP H ds vs->fL K H ds vs
 | [],_,h=>h
 | d::ds,_,h=>by
  unfold aP at h;unfold fL;obtain ⟨x,xs,rfl,h1,h2⟩:=h;exact ⟨x,xs,rfl,bO.k h1,aP.k h2⟩
end
theorem jG.tup{K:PySem.W.Frag}{H:Hp}{a:Addr}{xs:List V}{ds:List PyData}(h:fS K H a xs)(r:fL K H ds xs):jG K H (.tuple ds) (.ref a):=by
 unfold jG;exact ⟨a,xs,rfl,h,r⟩
theorem fL.ints{K:PySem.W.Frag}{H:Hp}:∀ns:List Int,fL K H (ns.map PyData.int) (ns.map V.int)
 | []=>by unfold fL;rfl
 | n::ns=>by unfold fL;exact ⟨_,_,rfl,by unfold jG;rfl,fL.ints ns⟩
section
variable{X:Cx}{pins:List (Addr × Obj)}{σ:St}{H:Hp}{s:Shared}
mutual
theorem jG.reads(I:cB X pins σ H s):∀{d:PyData}{v:V}{u:Value},jG X.K H d v->dH v u->∃as,Reads s.heap u d as
 | .none,_,u,h,r=>by
  cases (show _=V.non from h);cases (show u=Value.none from r);exact ⟨_,.none⟩
 | .bool b,_,u,h,r=>by
  cases (show _=V.bl b from h);cases (show u=Value.bool b from r);exact ⟨_,.bool b⟩
 | .int b,_,u,h,r=>by
  cases (show _=V.int b from h);obtain ⟨t,q⟩:=(show ∃t,u=Value.int b t from r);cases q;exact ⟨_,.int b t⟩
 | .str b,_,u,h,r=>by
  cases (show _=V.str b from h);obtain ⟨t,q⟩:=(show ∃t,u=Value.str b t from r);cases q;exact ⟨_,.str b t⟩
 | .list ds,v,u,h,r=>by
  unfold jG at h;obtain ⟨a,xs,rfl,h1,h2⟩:=h;cases (show u=Value.ref a from r);obtain ⟨_,its,n,r',e⟩:=(show eE X.prog X.w H s.heap a (.lst xs) from I.hok a _ h1);obtain ⟨as,q⟩:=fL.reads I h2 r';exact ⟨_,.list e rfl rfl (by simpa using q)⟩
 | .tuple ds,v,u,h,r=>by
  unfold jG at h;obtain ⟨a,xs,rfl,h1,h2⟩:=h;cases (show u=Value.ref a from r);obtain ⟨its,r',⟨o,e,hc,n,hd⟩,_⟩:=I.tuple h1;obtain ⟨as,q⟩:=fL.reads I h2 r';exact ⟨_,.tuple e hc hd (by simpa using q)⟩
 | .dict kvs,v,u,h,r=>bO.reads I (d:=.dict kvs) (by unfold bO;unfold jG at h;exact h) r
theorem fL.reads(I:cB X pins σ H s):∀{ds:List PyData}{vs:List V}{us:List Value},fL X.K H ds vs->cO vs us->∃as,ReadsAll s.heap us ds as
 | [],_,us,h,r=>by
  cases (show _=[] from h);cases r;exact ⟨_,.nil⟩
 | d::ds,_,us,h,r=>by
  unfold fL at h;obtain ⟨x,xs,rfl,h1,h2⟩:=h;cases r with
  | cons r1 r2 =>
   obtain ⟨as,q1⟩:=jG.reads I h1 r1;obtain ⟨bs,q2⟩:=fL.reads I h2 r2;exact ⟨_,.cons q1 q2⟩
end
end
@[irreducible] def TL(K:PySem.W.Frag)(b:Bool):R2:=λx y H Q=>∃d d',jG K H d x/\jG K H d' y/\SeqAt.shaped d=true/\SeqAt.shaped d'=true/\Q (.bl (b == PyData.eqv d d')) H
section
variable{X:Cx}
theorem aAz(K:PySem.W.Frag)(hu:X.A.units+64<cLine)(hK:X.K=K:=by rfl):pI X (compareOp .Eq) (TL K true):=by
 subst hK;unfold TL;intro pins s σ H x y v u Q I rx ry h;obtain ⟨d,d',h1,h2,s1,s2,q⟩:=h;obtain ⟨as,ra⟩:=h1.reads I rx;obtain ⟨bs,rb⟩:=h2.reads I ry;exact SeqAt.compareEq_shaped ra rb s1 s2 hu ⟨.bl _,H,I,by show _=_;simp,q⟩
end
section
variable{K:PySem.W.Frag}{H:Hp}{p:Addr}{xs:List V}{i:Int}{v:V}{Q:VK}
theorem reK{b:Bool}{x y:V}{d d':PyData}(h1:jG K H d x)(h2:jG K H d' y)(s1:SeqAt.shaped d=true)(s2:SeqAt.shaped d'=true)(q:Q (.bl (b == PyData.eqv d d')) H):TL K b x y H Q:=by
 unfold TL;exact ⟨d,d',h1,h2,s1,s2,q⟩
theorem pD(h:fS K H p xs)(e:BJ xs i=some v)(q:Q v H):rIx K (.ref p) (.int i) H Q:=.inr (.inl ⟨p,xs,i,v,rfl,rfl,h,e,q⟩)
end
theorem BF(xs:List V)(k:Nat):pO xs (some (k:Int)) none=xs.drop k:=by
 unfold pO;rw [HT.AH,HT.vS];by_cases h:k<=xs.length
 ·rw [Nat.min_eq_left h];exact List.take_of_length_le (by rw [List.length_drop];exact aG _)
 ·rw [Nat.min_eq_right Oo,List.drop_of_length_le (aG _),List.drop_of_length_le Oo,List.take_nil]
theorem uU(xs:List V)(k:Nat):pO xs none (some (k:Int))=xs.take k:=by
 unfold pO;rw [HT.AH,HT.vS,List.drop_zero,Nat.sub_zero];by_cases h:k<=xs.length
 ·rw [Nat.min_eq_left h]
 ·rw [Nat.min_eq_right Oo,List.take_of_length_le (aG _),List.take_of_length_le Oo]
@[irreducible] def TF(K:PySem.W.Frag):V->Option Int->Option Int->Hp->VK->Prop:=aBN K
theorem oC{X:Cx}(K:PySem.W.Frag)(h:X.K=K:=by rfl):SlR X (TF K):=by subst h;unfold TF;exact GY
theorem slL{K:PySem.W.Frag}{H:Hp}{a:Addr}{xs ys:List V}{lo hi:Option Int}{Q:VK}(h:H a=some (.lst xs))(e:pO xs lo hi=ys)(k:∀q H',H q=none->H' q=some (.lst ys)->bF H H'->Q (.ref q) H'):TF K (.ref a) lo hi H Q:=by
 unfold TF;exact ⟨a,xs,rfl,fT.of h,λp hp=>by rw [e];exact k p _ hp bJ (bF.upd hp)⟩
section
variable{σ:St}{js:List Nat}{te:TE}{H:Hp}{Q:VK}
theorem CJ{R:Nat->V->Prop}{ys:List V}{y:V}(h:∀(j:Nat) z,ys[j]?=some z->R j z)(r:R ys.length y):∀(j:Nat) z,(ys++[y])[j]?=some z->R j z:=λj z hj=>by
 by_cases hji:j<ys.length
 ·rw [List.getElem?_append_left hji] at hj;exact h j z hj
 ·rw [List.getElem?_append_right Oo] at hj;have:j-ys.length=0:=by
   by_cases q:j-ys.length=0
   ·exact q
   ·rw [gA (by simp;omega)] at hj;cases hj
  rw [this] at hj;have hj':y=z:=by simpa using hj
  have:j=ys.length:=Oo;subst this hj';exact r
theorem tL{J:It}{n:Nat}(src:Nat->V->Prop)(R:Nat->V->Hp->Prop)(hR:∀i y H1 H2,cG H1 H2->R i y H1->R i y H2)(hz:n<=100000)
  (hg:∀i H',bF H H'->i<n->J.go i H'/\∀x H3,J.yld i H' x H3->H3=H'/\src i x) (hst:∀H',bF H H'->J.stop n H')
  (hs:∀i x H' (Q':VK),src i x->i<n->bF H H'->(∀y H5,bF H' H5->R i y H5->Q' y H5)->te (some x::slots σ js) H' Q')
  (hd:∀D ys H',H D=none->H' D=some (.lst ys)->bF H H'->ys.length=n->(∀(i:Nat) (y:V),ys[i]?=some y->R i y H')->Q (.ref D) H'):kX J σ js uE te H Q:=by
 refine wW (J:=J) (n:=n) src hz (λD i ys H'=>H D=none/\bF H H'/\∀(i:Nat) (y:V),ys[i]?=some y->R i y H') (λD H1 hD _ s=>⟨hD,s,λi y h=>by simp at h⟩)
  (λD i ys H' hi _ p=>hg i H' p.2.1 hi) (λD ys H' _ p=>hst H' p.2.1) (λD i x ys H' hx hi hy hD p=>?_) (λD ys H' hy hD hD' p=>hd D ys H' hD hD' p.2.1 hy p.2.2)
 refine hs i x H' _ hx hi p.2.1 λy H5 s5 r=>?_;refine ⟨s5 _ _ hD,λH6 hD6 s6=>⟨p.1,bF.thru p.1 (p.2.1.trans s5) s6,?_⟩⟩;have t6:=s6.t (s5 _ _ hD);exact CJ (R:=λj z=>R j z H6) (λj z hj=>hR j z _ _ (s5.t.trans t6) (p.2.2 j z hj)) (by rw [hy];exact hR i y _ _ t6 r)
theorem pG{K:PySem.W.Frag}{a:Addr}{xs:List V}(R:Nat->V->Hp->Prop)(hR:∀i y H1 H2,cG H1 H2->R i y H1->R i y H2)(hz:xs.length<=100000)(hl:H a=some (.lst xs))
  (hs:∀i x H' (Q':VK),xs[i]?=some x->bF H H'->(∀y H5,bF H' H5->R i y H5->Q' y H5)->te (some x::slots σ js) H' Q')
  (hd:∀D ys H',H D=none->H' D=some (.lst ys)->bF H H'->ys.length=xs.length->(∀(i:Nat) (y:V),ys[i]?=some y->R i y H')->Q (.ref D) H'):kX (WN K a) σ js uE te H Q :=
 tL (λi x=>xs[i]?=some x) R hR hz (λi H' s hi=>⟨⟨xs,xs[i],fT.of (s _ _ hl),by simp [hi]⟩,λx H3 y=>⟨y.1,y.2 xs (fT.of (s _ _ hl))⟩⟩) (λH' s=>⟨xs,fT.of (s _ _ hl),aG _⟩)
  (λi x H' Q' hx _ s k=>hs i x H' Q' hx s k) hd
theorem yS{K:PySem.W.Frag}{a:Addr}{xs:List V}(R:Nat->V->Hp->Prop)(hR:∀i y H1 H2,cG H1 H2->R i y H1->R i y H2)(hz:xs.length<=100000)(hl:H a=some (.tup xs))
  (hs:∀i x H' (Q':VK),xs[i]?=some x->bF H H'->(∀y H5,bF H' H5->R i y H5->Q' y H5)->te (some x::slots σ js) H' Q')
  (hd:∀D ys H',H D=none->H' D=some (.lst ys)->bF H H'->ys.length=xs.length->(∀(i:Nat) (y:V),ys[i]?=some y->R i y H')->Q (.ref D) H'):kX (YF K a) σ js uE te H Q :=
 tL (λi x=>xs[i]?=some x) R hR hz (λi H' s hi=>⟨⟨xs,xs[i],fS.of (s _ _ hl),by simp [hi]⟩,λx H3 y=>⟨y.1,y.2 xs (fS.of (s _ _ hl))⟩⟩) (λH' s=>⟨xs,fS.of (s _ _ hl),aG _⟩)
  (λi x H' Q' hx _ s k=>hs i x H' Q' hx s k) hd
theorem iM{lo:Int}{n:Nat}(R:Nat->V->Hp->Prop)(hR:∀i y H1 H2,cG H1 H2->R i y H1->R i y H2)(hz:n<=100000)
  (hs:∀i H' (Q':VK),i<n->bF H H'->(∀y H5,bF H' H5->R i y H5->Q' y H5)->te (some (.int (lo+(i:Nat)))::slots σ js) H' Q')
  (hd:∀D ys H',H D=none->H' D=some (.lst ys)->bF H H'->ys.length=n->(∀(i:Nat) (y:V),ys[i]?=some y->R i y H')->Q (.ref D) H'):kX (RI lo n) σ js uE te H Q :=
 tL (λi x=>x=.int (lo+(i:Nat))) R hR hz (λi H' s hi=>⟨hi,λx H3 y=>y⟩) (λH' s=>aG _)
  (λi x H' Q' hx hi s k=>by subst hx;exact hs i H' Q' hi s k) hd
structure oT(p L:Addr)(Fd:Hp->Prop):Prop where
 but:∀D H1 H2,D≠p->D≠L->aK D H1 H2->Fd H1->Fd H2
 same:∀H1 H2,bF H1 H2->Fd H1->Fd H2
 lst:∀H',Fd H'->∃xs,H' p=some (.lst xs)
 np:∀H' D,Fd H'->H' D=none->D≠p/\D≠L
theorem aK.thru{p l:Addr}{H0 H1 H2:Hp}(hl:H0 l=none)(s:aK p H0 H1)(b:aK l H1 H2):aK p H0 H2:=λc o e=>by
 have n:=gQ.ne e;have e0:H0 c=some o:=by rw [gQ.at n] at e;exact e
 have nl:c≠l:=λz=>by subst z;rw [hl] at e0;cases e0
 exact gQ.of n (b.at nl (s.at n e0))
theorem BG{J:It}{n:Nat}{p L:Addr}{Fd:Hp->Prop}(fl:oT p L Fd)(F0:Fd H)(src:Nat->V->Prop)(R:Nat->V->Hp->Prop)(hR:∀i y H1 H2,cG H1 H2->R i y H1->R i y H2)(hz:n<=100000)
  (hg:∀i H',aK p H H'->i<n->J.go i H'/\∀x H3,J.yld i H' x H3->H3=H'/\src i x) (hst:∀H',aK p H H'->J.stop n H')
  (hs:∀i x H' (Q':VK),src i x->i<n->Fd H'->aK p H H'->(∀y H5,Fd H5->aK p H' H5->R i y H5->Q' y H5)->te (some x::slots σ js) H' Q')
  (hd:∀D ys H',H D=none->H' D=some (.lst ys)->Fd H'->aK p H H'->ys.length=n->(∀(i:Nat) (y:V),ys[i]?=some y->R i y H')->Q (.ref D) H'):kX J σ js uE te H Q:=by
 refine wW (J:=J) (n:=n) src hz (λD i ys H'=>H D=none/\Fd H'/\aK p H H'/\∀(i:Nat) (y:V),ys[i]?=some y->R i y H') (λD H1 hD _ s=>⟨hD,fl.same _ _ s F0,s.but,λi y h=>by simp at h⟩)
  (λD i ys H' hi _ q=>hg i H' q.2.2.1 hi) (λD ys H' _ q=>hst H' q.2.2.1) (λD i x ys H' hx hi hy hD q=>?_) (λD ys H' hy hD hD' q=>hd D ys H' hD hD' q.2.1 q.2.2.1 hy q.2.2.2)
 obtain ⟨np,nL⟩:=fl.np H D F0 q.1;refine hs i x H' _ hx hi q.2.1 q.2.2.1 λy H5 F5 s5 r=>?_;obtain ⟨xs,hp⟩:=fl.lst H' q.2.1;have hD5:=s5.at np hD;refine ⟨hD5,λH6 hD6 s6=>⟨q.1,fl.but D _ _ np nL s6 F5,aK.thru q.1 (q.2.2.1.trans s5) s6,?_⟩⟩;have t6:=s6.t hD5;exact CJ (R:=λj z=>R j z H6) (λj z hj=>hR j z _ _ ((s5.t hp).trans t6) (q.2.2.2 j z hj)) (by rw [hy];exact hR i y _ _ t6 r)
theorem QC{K:PySem.W.Frag}{a:Addr}{xs:List V}{p L:Addr}{Fd:Hp->Prop}(fl:oT p L Fd)(F0:Fd H)(R:Nat->V->Hp->Prop)(hR:∀i y H1 H2,cG H1 H2->R i y H1->R i y H2)(hz:xs.length<=100000)(na:a≠p)(hl:H a=some (.lst xs))
  (hs:∀i x H' (Q':VK),xs[i]?=some x->Fd H'->aK p H H'->(∀y H5,Fd H5->aK p H' H5->R i y H5->Q' y H5)->te (some x::slots σ js) H' Q')
  (hd:∀D ys H',H D=none->H' D=some (.lst ys)->Fd H'->aK p H H'->ys.length=xs.length->(∀(i:Nat) (y:V),ys[i]?=some y->R i y H')->Q (.ref D) H'):kX (WN K a) σ js uE te H Q :=
 BG fl F0 (λi x=>xs[i]?=some x) R hR hz (λi H' s hi=>⟨⟨xs,xs[i],fT.of (s.at na hl),by simp [hi]⟩,λx H3 y=>⟨y.1,y.2 xs (fT.of (s.at na hl))⟩⟩) (λH' s=>⟨xs,fT.of (s.at na hl),aG _⟩)
  (λi x H' Q' hx _ f s k=>hs i x H' Q' hx f s k) hd
theorem QA{K:PySem.W.Frag}{a:Addr}{xs:List V}{p L:Addr}{Fd:Hp->Prop}(fl:oT p L Fd)(F0:Fd H)(R:Nat->V->Hp->Prop)(hR:∀i y H1 H2,cG H1 H2->R i y H1->R i y H2)(hz:xs.length<=100000)(hl:H a=some (.tup xs))
  (hs:∀i x H' (Q':VK),xs[i]?=some x->Fd H'->aK p H H'->(∀y H5,Fd H5->aK p H' H5->R i y H5->Q' y H5)->te (some x::slots σ js) H' Q')
  (hd:∀D ys H',H D=none->H' D=some (.lst ys)->Fd H'->aK p H H'->ys.length=xs.length->(∀(i:Nat) (y:V),ys[i]?=some y->R i y H')->Q (.ref D) H'):kX (YF K a) σ js uE te H Q:=by
 have na:a≠p:=λz=>by
  obtain ⟨ys,h⟩:=fl.lst H F0;rw [z,h] at hl;cases hl
 exact BG fl F0 (λi x=>xs[i]?=some x) R hR hz (λi H' s hi=>⟨⟨xs,xs[i],fS.of (s.at na hl),by simp [hi]⟩,λx H3 y=>⟨y.1,y.2 xs (fS.of (s.at na hl))⟩⟩) (λH' s=>⟨xs,fS.of (s.at na hl),aG _⟩)
  (λi x H' Q' hx _ f s k=>hs i x H' Q' hx f s k) hd
theorem QB{lo:Int}{n:Nat}{p L:Addr}{Fd:Hp->Prop}(fl:oT p L Fd)(F0:Fd H)(R:Nat->V->Hp->Prop)(hR:∀i y H1 H2,cG H1 H2->R i y H1->R i y H2)(hz:n<=100000)
  (hs:∀i H' (Q':VK),i<n->Fd H'->aK p H H'->(∀y H5,Fd H5->aK p H' H5->R i y H5->Q' y H5)->te (some (.int (lo+(i:Nat)))::slots σ js) H' Q')
  (hd:∀D ys H',H D=none->H' D=some (.lst ys)->Fd H'->aK p H H'->ys.length=n->(∀(i:Nat) (y:V),ys[i]?=some y->R i y H')->Q (.ref D) H'):kX (RI lo n) σ js uE te H Q :=
 BG fl F0 (λi x=>x=.int (lo+(i:Nat))) R hR hz (λi H' s hi=>⟨hi,λx H3 y=>y⟩) (λH' s=>aG _)
  (λi x H' Q' hx hi f s k=>by subst hx;exact hs i H' Q' hi f s k) hd
end
theorem aP.ofIdx{H:Hp}:∀{ds:List PyData}{ys:List V},ys.length=ds.length->(∀(i:Nat) (y:V),ys[i]?=some y->∃d,ds[i]?=some d/\bO H d y)->aP H ds ys
 | [],[],_,_=>aP.nil
 | d::ds,y::ys,hl,h=>by
  obtain ⟨d',e,r⟩:=h 0 y rfl;cases (show d=d' by simpa using e);exact aP.cons r (aP.ofIdx (by simpa using hl) λi z hz=>by simpa using h (i+1) z (by simpa using hz))
 | [],_::_,hl,_=>by simp at hl
 | _::_,[],hl,_=>by simp at hl
theorem rQ{P:Nat->Int->Prop}:∀{ys:List V},(∀(i:Nat) (y:V),ys[i]?=some y->∃n,y=.int n/\P i n)->∃ns:List Int,ys=ns.map V.int/\∀(i:Nat) n,ns[i]?=some n->P i n
 | [],_=>⟨[],rfl,λi n h=>by simp at h⟩
 | y::ys,h=>by
  obtain ⟨n,rfl,hn⟩:=h 0 y rfl;obtain ⟨ns,rfl,hs⟩:=rQ (P:=λi=>P (i+1)) (ys:=ys) λi z hz=>h (i+1) z (by simpa using hz);refine ⟨n::ns,rfl,λi m hm=>?_⟩;cases i with
  | zero=>cases (show n=m by simpa using hm);exact hn
  | succ i=>exact hs i m (by simpa using hm)
end L2
namespace L2
open PySem PySem.Spec PyProof.Rows
theorem gX.u1{k:Nat}{A:Around}(r:gX k A):A.units+1<cLine:=by have:=r.units;omega
@[irreducible] def XI:R2:=λx y H Q=>∃a v,x=.ref a/\nH H a y (some v)/\Q v H
@[irreducible] def rDP(D:tU)(σ:St)(x y v:V)(H:Hp):Prop:=∃a H4,x=.ref a/\BO H a y v H4/\D.nx σ H4
def XA(td ty tv:TE):TS:=λD σ H=>tv σ H λv H1=>td σ H1 λx H2=>ty σ H2 λy H3=>rDP D σ x y v H3
structure WF(X:Cx)(pos:Pos)(keys:List (Option Expr))(values:List Expr)(trs:List (TE × TE)):Prop where p:PPs X pos keys values trs
section
variable{X:Cx}{o i value k v:Expr}{td ty tv tk:TE}{pos pos':Pos}{ks:List (Option Expr)}{vs:List Expr}{trs:List (TE × TE)}
theorem iN(hu:X.A.units+1<cLine)(ho:fG X o td)(hi:fG X i ty)(hs:aA9 i:=by intro _ _;rfl):fG X (.Subscript o i pos) (SD XI td ty):=⟨by unfold XI;exact UG hu ho.p hi.p hs⟩
theorem zN(hu:X.A.units+1<cLine)(ho:fG X o td)(hi:fG X i ty)(hv:fG X value tv)(hs:swapsWith value (some (.Subscript o i pos')) pos.line X.env=pure false:=by rfl) :
  GE X (.Assign [.Subscript o i pos'] value pos) (XA td ty tv):=⟨by unfold XA rDP;exact TX hu ho.p hi.p hv.p hs⟩
theorem RV:WF X pos [] [] []:=⟨pps_nil⟩
theorem LV(hk:fG X k tk)(hv:fG X v tv)(hr:WF X pos ks vs trs):WF X pos (some k::ks) (v::vs) ((tk,tv)::trs):=⟨NQ hk.p hv.p hr.p⟩
theorem SA(h:WF X pos ks vs trs)(hall:ks.all (·.isSome)=true:=by rfl)(hl:ks.length=vs.length:=by rfl)(h0:ks≠[]:=by intro h;cases h)(h15:ks.length<=15:=by decide):fG X (.Dict ks vs pos) (WZ trs):=⟨UF h.p hall hl h0 h15⟩
end
theorem dgS{H:Hp}{p:Addr}{kvs:List (eL × V)}{x:Str}{v:V}{Q:VK}(e:H p=some (.dK kvs))(hv:fB kvs (.inr x)=some v)(q:Q v H):XI (.ref p) (.str x) H Q:=by
 unfold XI;exact ⟨p,v,rfl,hv ▸ nH.k (k:=.inr x) e,q⟩
theorem dpS{H:Hp}{p:Addr}{kvs kvs2:List (eL × V)}{x:Str}{v:V}{D:tU}{σ:St}(e:H p=some (.dK kvs))(hl:kvs.length<=64)(hk:iW kvs (.inr x) v=kvs2)(q:∀H',H' p=some (.dK kvs2)->aK p H H'->D.nx σ H') :
  rDP D σ (.ref p) (.str x) v H:=by
 unfold rDP;exact ⟨p,_,rfl,BO.k (k:=.inr x) e (bG hl Dd),q _ (by rw [hk];exact bJ) aK.self⟩
theorem aK.tD{H H':Hp}{p:Addr}(s:aK p H H'){xs:List (eL × V)}(hp:H p=some (.dK xs)):cG H H':=λb ys h=>s.at (pU h hp (by intro z;cases z)) h
section
variable{σ:St}{js:List Nat}{te:TE}{H:Hp}{Q:VK}
end
section
variable{X:Cx}
@[irreducible] def HJ(K:PySem.W.Frag):R2:=λx y H Q=>∃a b xs ys,x=.ref a/\y=.ref b/\H a=some (.tup xs)/\H b=some (.tup ys)/\xs.length+ys.length<=1000/\∀c H',bF H H'->H' c=some (.tup (xs++ys))->Q (.ref c) H'
theorem VW{K:PySem.W.Frag}{H:Hp}{Q:VK}{a b:Addr}{xs ys:List V}(h1:H a=some (.tup xs))(h2:H b=some (.tup ys))(hz:xs.length+ys.length<=1000)(k:∀c H',bF H H'->H' c=some (.tup (xs++ys))->Q (.ref c) H'):HJ K (.ref a) (.ref b) H Q:=by
 unfold HJ;exact ⟨a,b,xs,ys,rfl,rfl,h1,h2,hz,k⟩
theorem uO(K:PySem.W.Frag)(hK:X.K=K:=by rfl):pI X (binaryOp .Add) (HJ K):=by
 subst hK;unfold HJ;intro pins s σ H x y v u Q I rx ry h;obtain ⟨a,b,xs,ys,rfl,rfl,ha,hb,hz,q⟩:=h;by_cases hx:xs=[]
 ·cases rx;cases ry;subst hx;obtain ⟨its,r1,p1,_⟩:=I.tuple (fS.of ha);obtain ⟨its2,r2,p2,_⟩:=I.tuple (fS.of hb);cases r1;obtain ⟨⟨cls,dd,data,sl⟩,ho,hc,n,hd⟩:=id p1;obtain ⟨⟨cls2,dd2,data2,sl2⟩,ho2,hc2,n2,hd2⟩:=id p2;simp only at hc hd hc2 hd2;subst hc hd hc2 hd2;exact concat_meets ⟨_,ho,rfl⟩ ⟨_,ho2,rfl⟩ noFill_tuple_add seq_tuple_add PySem.F.slot_tuple_add PySem.F.entry_tuple_add (PySem.F.args_tuple_add_2 _ _)
   (tuple_addW0 a b _ _ n n2 dd dd2 sl sl2 rfl) ⟨ho,ho2,⟨.ref b,H,I,rfl,q b H (bF.refl _) hb⟩⟩
 ·refine UN pins s σ H _ _ v u Q I rx ry ⟨a,b,xs,ys,rfl,rfl,fS.of ha,fS.of hb,hx,bC hz Dd,λe=>?_,λ_ p hp=>q p _ (bF.upd hp) bJ⟩;subst e;exact q a H (bF.refl _) (by rw [List.append_nil];exact ha)
end
theorem wK(a:Int)(t:Tok)(l:Addr)(items:Array Value)(n:Nat)(dd:Option Addr)(sl:Array (Option Value)) :
  Meets (Builtin.«int.__rmul__» ⟨[.int a t,.ref l],[]⟩) (λ_ R s=>s.heap.get? l=some { cls:=.type "tuple",dict:=dd,data:=.seq items n,slots:=sl }/\R (.ok (.ret Value.notImplemented)) s) :=
 .of_wp λprog w A R s h=>by
  obtain ⟨hp,g,d,tk,os⟩:=s;obtain ⟨hl,h⟩:=h
  wp_walk
  exact ⟨_,rfl,h⟩
theorem EJ(l:Addr)(items:Array Value)(n:Nat)(dd:Option Addr)(sl:Array (Option Value))(k:Int)(u:Tok)(h0:2<=k)(h1:k<=64)(he:items.isEmpty=false)(hz:items.size<=64)(hsz:((List.replicate k.toNat items).foldl (· ++ ·) #[]).size<=sizeLine) :
  Meets (Builtin.«tuple.__mul__» ⟨[.ref l,.int k u],[]⟩) (λ_ R s=>s.heap.get? l=some { cls:=.type "tuple",dict:=dd,data:=.seq items n,slots:=sl }/\R (.ok (.ret (.ref s.heap.objs.size))) { s with heap:=s.heap.push { cls:=.type "tuple",data:=.seq ((List.replicate k.toNat items).foldl (· ++ ·) #[]) } }) :=
 .of_wp λprog w A R s h=>by
  obtain ⟨hp,g,d,tk,os⟩:=s;obtain ⟨hl,h⟩:=h;have f1:=AutoSeq1.idx_int
  wp_walk using wpAny_loadPart' hl
  rw [if_neg (by simp;omega)]
  wp_walk using wpAny_loadPart' hl
  have he':¬items=#[]:=λz=>by simp [z] at he
  have hm:(items.size:Int)*k<=4096:=by
   have h2:(items.size:Int)*k<=64*64:=Int.mul_le_mul Oo h1 Oo Oo;omega
  rw [if_neg (by simp;exact ⟨he',Oo⟩)];rw [if_neg (by simp;exact ⟨Oo,he'⟩)];show wpAny _ _ (if (items.size:Int)*k > (2^63-1)/8 then _ else _) _ _ _;rw [if_neg Oo];show wpAny _ _ (if Builtin.Tuple.tupleTooMany (items.size*k)=true then _ else _) _ _ _;rw [if_neg (by unfold Builtin.Tuple.tupleTooMany;simp;exact Int.le_trans hm Dd)]
  wp_walk
  exact ⟨_,rfl,h⟩
theorem sY:fillsNumberSlot (.type "tuple") "mul" = pure false:=PySem.fillsNumberSlot_seq (id := "tuple.__mul__") (r:=some (.builtin "tuple.__rmul__")) F.slot_tuple_mul.lookup Kk F.slot_tuple_rmul.lookup Kk
theorem AL:seqRepeat? (.type "tuple")=pure (some (.builtin "tuple.__mul__")):=by
 unfold seqRepeat?;rw [PySem.seqSlot_of (T := "tuple") (name := "__mul__") (id := "tuple.__mul__") F.slot_tuple_mul.lookup Kk,PySem.seqSlot_of (T := "tuple") (name := "__rmul__") (id := "tuple.__rmul__") F.slot_tuple_rmul.lookup Kk];rfl
@[irreducible] def HG:R2:=λx y H Q=>∃a z,∃k:Nat,x=.ref a/\y=.int (k:Int)/\H a=some (.tup [z])/\2<=k/\k<=64/\∀c H',bF H H'->H' c=some (.tup (List.replicate k z))->Q (.ref c) H'
theorem aDv{H:Hp}{Q:VK}{a:Addr}{z:V}{k:Nat}(h:H a=some (.tup [z]))(h2:2<=k)(hk:k<=64)(q:∀c H',bF H H'->H' c=some (.tup (List.replicate k z))->Q (.ref c) H'):HG (.ref a) (.int (k:Int)) H Q:=by
 unfold HG;exact ⟨a,z,k,rfl,rfl,h,h2,hk,q⟩
section
variable{X:Cx}
theorem UM:pI X (binaryOp .Mult) HG:=by
 unfold HG;intro pins s σ H x y v u Q I rx ry h;obtain ⟨a,z,k,rfl,rfl,hH,h2,hk,q⟩:=h;cases rx;obtain ⟨t,rfl⟩:=(show ∃t,u=Value.int (k:Int) t from ry);obtain ⟨its,r,p,_⟩:=I.tuple (fS.of hH);obtain ⟨w1,rfl,rw1⟩:=kZ r;obtain ⟨⟨cls,dd,data,sl⟩,ho,hc,n,hd⟩:=id p;simp only at hc hd;subst hc hd;have flat1:∀k:Nat,(List.replicate k [w1]).flatten=List.replicate k w1:=λk=>by
  induction k with
  | zero=>rfl
  | succ k ih=>rw [List.replicate_succ,List.flatten_cons,ih,List.replicate_succ];rfl
 have f0:List.foldl (λx1 x2=>x1++x2) #[] (List.replicate k [w1].toArray)=(List.replicate k w1).toArray:=by
  have:=yN [w1] k [];rw [List.nil_append,flat1] at this;exact this
 have vr:∀k:Nat,cO (List.replicate k z) (List.replicate k w1):=λk=>by
  induction k with
  | zero=>exact .nil
  | succ k ih=>exact .cons rw1 ih
 generalize hk':(k:Int)=kk;have hkk:kk.toNat=k:=Oo;refine wpAny_binaryOp_repeat_ref (T := "tuple") (U := "int") Dd ⟨_,ho,rfl⟩ (λs'=>typeIs_int s' kk t) sY F.fills_int_mul F.slot_int_rmul AL F.slot_int_index.lookup
  (call_meets F.slot_int_rmul (typeIs_int s kk t) F.entry_int_rmul (F.args_int_rmul_2 _ _) (wK kk t a [w1].toArray n dd sl) ⟨ho,rfl,⟨_,ho,rfl⟩,?_⟩)
 refine call_meets F.slot_tuple_mul ⟨_,ho,rfl⟩ F.entry_tuple_mul (F.args_tuple_mul_2 _ _) (EJ a [w1].toArray n dd sl kk t Oo Oo rfl (by show 1<=64;decide) (by rw [hkk,f0,aY,dP];exact bC hk Dd)) ⟨ho,?_⟩;rw [hkk,f0];refine ⟨.ref _,_,I.laid (t':=s.toks) (o:=.tup (List.replicate k z)) (λb ob q=>aB _ q) (aG _) ?_,rfl,q _ _ (bF.upd (I.hok.fresh (aG _))) bJ⟩;exact ⟨⟨by rw [dP];exact rH hk,_,bA _ rfl,rfl⟩,_,vr k,IsTup.new _ _⟩
end
section
variable{prog:Program}{w:World}{A:Around}{E:Value->Shared->Prop}{s:Shared}{l:Addr}{xs:Array (Int × Tok)}
theorem MR{Q:Value->Shared->Prop}(hh:A.handled=none)(hl:s.heap.IsTuple l (intItems xs))
  (h:∀h' tk t',(∀b o,s.heap.get? b=some o->h'.get? b=some o)->Q (.int (preSum (numAt xs) xs.size) t') { s with heap:=h',toks:=tk }) :
  wpAny (model prog w) A (call (.builtin "sum") [.ref l]) Q E s:=by
 have hlt:l<s.heap.objs.size:=by obtain ⟨_,e,_⟩:=hl;exact bD e
 refine call_sum_walkG (wpAny_pyIter_tuple hl ?_);refine ⟨_,[_,l],[_],_,_,_,numAt xs,rfl,Walks.tuple (A:=A.in1) hh _ l (cJ hlt) (intItems xs),⟨⟨_,bA _ rfl,rfl,rfl⟩,hl.push _⟩,λc hc=>?_,(λ_ _=>intItems_at),λh' tk t' hk=>?_⟩
 ·show c<(s.heap.push _).objs.size;rw [fZ];rcases aQ.mp hc with rfl | hc
  ·exact Nat.lt_succ_self _
  ·rcases aQ.mp hc with rfl | hc
   ·exact Nat.lt_succ_of_lt hlt
   ·cases hc
 ·have:=h h' tk t' λc o e=>by
   refine hk c o (λhm=>?_) (aB _ e);rcases aQ.mp hm with e1 | hm
   ·exact absurd (e1 ▸ bD e) (cQ _)
   ·cases hm
  simpa [intItems] using this
end
@[irreducible] def HE(K:PySem.W.Frag):List V->Hp->VK->Prop:=λxs H Q=>∃(p:Addr) (ns:List Int),xs=[.ref p]/\fS K H p (ns.map V.int)/\Q (.int ns.sum) H
theorem rsT{K:PySem.W.Frag}{H:Hp}{p:Addr}{ns:List Int}{Q:VK}(h:fS K H p (ns.map V.int))(q:Q (.int ns.sum) H):HE K [.ref p] H Q:=by unfold HE;exact ⟨p,ns,rfl,h,q⟩
theorem uV{X:Cx}(K:PySem.W.Frag)(hc:X.calm=true)(hK:X.K=K:=by rfl):gS X (.builtin "sum") (HE K):=by
 subst hK;unfold HE;intro pins s σ H xs us Q I r h;obtain ⟨p,ns,rfl,hq,q⟩:=h;obtain ⟨u,rfl,rx⟩:=kZ r;cases rx;obtain ⟨its,r',pl,hz⟩:=I.tuple hq;have hi:=qI r';obtain ⟨xs',e⟩:=hi.allInts.items;rw [e] at pl;refine MR (I.ok.hd hc) pl λh' tk t' hk=>⟨.int ns.sum,H,I.kept hk,⟨t',?_⟩,q⟩;rw [preSum_eq,List.take_of_length_le (by simp)];rw [<-hi.numsOf];have e2:its=(intItems xs').toList:=by rw [<-e]
 rw [e2,nums_intItems]
section
variable{js:List Nat}{te:TE}{tc:TT}{σ:St}{H:Hp}{Q:VK}
theorem aP.atI{α:Type}{g:α->PyData}:∀{as:List α}{xs:List V},aP H (as.map g) xs->∀{i:Nat}{x:V},xs[i]?=some x->∃a,as[i]?=some a/\bO H (g a) x:=by
 intro as xs r i x e;obtain ⟨d,h1,h2⟩:=r.get e;rw [aM] at h1;cases q:as[i]? with
 | none=>rw [q] at h1;cases h1
 | some a=>rw [q] at h1;cases h1;exact ⟨a,rfl,h2⟩
theorem KU{K:PySem.W.Frag}{a:Addr}{xs:List V}{α:Type}{g:α->PyData}{as:List α}(r:aP H (as.map g) xs)(p:α->Bool)(hz:xs.length<=100000)(hl:H a=some (.lst xs))
  (ht:∀x c H' (Q':Bool->Hp->Prop),c∈as->bO H' (g c) x->bF H H'->(∀H5,bF H' H5->Q' (p c) H5)->tc (some x::slots σ js) H' Q')
  (he:∀x H' (Q':VK),Q' x H'->te (some x::slots σ js) H' Q')
  (hd:∀D ys H',H D=none->H' D=some (.lst ys)->bF H H'->aP H' ((as.filter p).map g) ys->Q (.ref D) H'):kX (WN K a) σ js tc te H Q:=by
 unfold kX;intro D hD;have hlen:xs.length=as.length:=by rw [r.len,aA]
 refine ⟨λi m ys H'=>m=xs.length-i/\i<=xs.length/\H' D=some (.lst ys)/\bF H H'/\aP H (((as.take i).filter p).map g) ys/\ys.length<=i,⟨xs.length,by simp,cV _,bJ,bF.upd hD,aP.nil,aG _⟩,?_⟩;rintro i m ys H2 ⟨rfl,hi,hD2,s2,ry,hy⟩;refine ⟨hD2,?_⟩;by_cases hlt:i<xs.length
 ·have hx:xs[i]?=some xs[i]:=aC hlt;refine .inr ⟨⟨xs,_,fT.of (s2 _ _ hl),hx⟩,bG (m:=100000) Oo Dd,λx H3 hy3=>?_⟩;obtain ⟨rfl,hx3⟩:=hy3;have hx3:=hx3 xs (fT.of (s2 _ _ hl));obtain ⟨c,hc,rc⟩:=r.atI hx3;have hti:as.take (i+1)=as.take i++[c]:=by rw [gK,hc];rfl
  refine ⟨λb H4=>b=p c/\bF H3 H4,ht x c H3 _ (aR hc) (rc.same s2) s2 λH5 s5=>⟨rfl,s5⟩,?_⟩;rintro b H4 ⟨rfl,s4⟩;by_cases hp:p c=true
  ·rw [if_pos hp];refine ⟨λy H5=>y=x/\H5=H4,he x H4 _ ⟨rfl,rfl⟩,?_⟩;rintro y H5 ⟨rfl,rfl⟩;refine ⟨s4 _ _ hD2,_,?_,rfl,hlt,bJ,bF.thru hD (s2.trans s4) aK.self,?_,?_⟩
   ·omega
   ·rw [hti,List.filter_append,bL];have:List.filter p [c]=[c]:=by simp [hp]
    rw [this];exact aP.snoc ry rc
   ·rw [bK,List.length_singleton];omega
  ·rw [if_neg hp];refine ⟨s4 _ _ hD2,_,?_,rfl,hlt,s4 _ _ hD2,s2.trans s4,?_,?_⟩
   ·omega
   ·rw [hti,List.filter_append];have:List.filter p [c]=[]:=by simp [hp]
    rw [this,List.append_nil];exact ry
   ·omega
 ·have e:i=xs.length:=Oo;subst e;refine .inl ⟨⟨xs,fT.of (s2 _ _ hl),aG _⟩,hd D ys H2 hD hD2 s2 ?_⟩;rw [hlen,cT] at ry;exact ry.same s2
end
end L2
namespace Mf
def lw(n d:Int):Int × Int:=(n/(Int.gcd n d:Int),d/(Int.gcd n d:Int))
structure RH(n d:Int):Prop where
 pos:0<d
 low:Int.gcd n d=1
theorem gW{n d:Int}(h:0<d):0<(Int.gcd n d:Int):=by
 have:=Int.gcd_pos_of_ne_zero_right n (Int.ne_of_gt h);omega
theorem eT{n d:Int}(h:0<d):RH (lw n d).1 (lw n d).2:=by
 have g:=gW (n:=n) h;refine ⟨?_,?_⟩
 ·exact Int.ediv_pos_of_pos_of_dvd h (Int.le_of_lt g) (Int.gcd_dvd_right n d)
 ·exact Int.gcd_ediv_gcd_ediv_gcd Oo
theorem XN{n d:Int}:(lw n d).1*(Int.gcd n d:Int)=n/\(lw n d).2*(Int.gcd n d:Int)=d :=
 ⟨Int.ediv_mul_cancel (Int.gcd_dvd_left n d),Int.ediv_mul_cancel (Int.gcd_dvd_right n d)⟩
theorem iQ{n d:Int}:(lw n d).1*d=n*(lw n d).2:=by
 obtain ⟨e1,e2⟩:=XN (n:=n) (d:=d);generalize (lw n d).1=a at *;generalize (lw n d).2=b at *;generalize (Int.gcd n d:Int)=g at *;rw [<-e1,<-e2];rw [Int.mul_assoc,Int.mul_comm g b]
theorem IC{b a d:Int}(h:b ∣ a*d)(g:Int.gcd b a=1):b ∣ d:=by
 rw [<-Int.natAbs_dvd_natAbs,fE] at h;rw [<-Int.natAbs_dvd_natAbs];rw [Int.gcd_eq_natAbs_gcd_natAbs] at g;exact Nat.Coprime.dvd_of_dvd_mul_left g h
theorem CW{a b c d:Int}(h1:RH a b)(h2:RH c d)(e:a*d=c*b):a=c/\b=d:=by
 have d1:b ∣ d:=by
  have:b ∣ a*d:=by rw [e];exact Int.dvd_mul_left c b
  exact IC this (by rw [Int.gcd_comm];exact h1.low)
 have d2:d ∣ b:=by
  have:d ∣ c*b:=by rw [<-e];exact Int.dvd_mul_left a d
  exact IC this (by rw [Int.gcd_comm];exact h2.low)
 have hb:=h1.pos;have hd:=h2.pos;have e1:b=d:=Int.dvd_antisymm (Int.le_of_lt hb) (Int.le_of_lt hd) d1 d2;subst e1;exact ⟨Int.eq_of_mul_eq_mul_right Oo e,rfl⟩
theorem tF{a b n d:Int}(h:RH a b)(hd:0<d)(e:a*d=n*b):lw n d=(a,b):=by
 have c:=iQ (n:=n) (d:=d);have q:=CW (eT (n:=n) hd) h (by
  have hd':d≠0:=Oo;apply Int.eq_of_mul_eq_mul_right hd'
  calc (lw n d).1*b*d=((lw n d).1*d)*b:=by rw [Int.mul_assoc,Int.mul_comm b d,<-Int.mul_assoc]
   _=(n*(lw n d).2)*b:=by rw [c]
   _=(n*b)*(lw n d).2:=by rw [Int.mul_assoc,Int.mul_comm (lw n d).2 b,<-Int.mul_assoc]
   _=(a*d)*(lw n d).2:=by rw [e]
   _=a*(lw n d).2*d:=by rw [Int.mul_assoc,Int.mul_comm d,<-Int.mul_assoc])
 exact Prod.ext q.1 q.2
theorem HQ{a b:Int}(h:RH a b):lw a b=(a,b):=tF h h.pos rfl
theorem mW{u a b:Int}(h1:Int.gcd u a=1)(h2:Int.gcd u b=1):Int.gcd u (a*b)=1:=by
 rw [Int.gcd_eq_natAbs_gcd_natAbs] at *;rw [fE];exact Nat.Coprime.mul_right h1 h2
theorem kU{a b c:Int}(h:Int.gcd a b=1)(d:c ∣ b):Int.gcd a c=1:=by
 have:=Int.gcd_dvd_gcd_of_dvd_right a d;rw [h] at this;exact Nat.eq_one_of_dvd_one this
theorem iG{a b c:Int}(h:Int.gcd a b=1)(d:c ∣ a):Int.gcd c b=1:=by
 rw [Int.gcd_comm] at *;exact kU h d
theorem TZ{a b c d:Int}(h1:RH a b)(h2:RH c d) :
  let g:Int:=Int.gcd b d
  let u:=a*(d/g)+c*(b/g)
  let l:Int:=Int.gcd u g
  lw (a*d+c*b) (b*d)=(u/l,(b/g)*(d/l)):=by
 intro g u l;have hg:0<g:=gW h2.pos;have hl:0<l:=gW hg;obtain ⟨b',eb⟩:=Int.gcd_dvd_left b d;obtain ⟨d',ed⟩:=Int.gcd_dvd_right b d;have eb:b=g*b':=eb;have ed:d=g*d':=ed;have qb:b/g=b':=by rw [eb];exact Int.mul_ediv_cancel_left _ Oo
 have qd:d/g=d':=by rw [ed];exact Int.mul_ediv_cancel_left _ Oo
 have eu:u=a*d' + c*b':=by show a*(d/g)+c*(b/g)=_;rw [qb,qd]
 have cbd:Int.gcd b' d'=1:=by
  have:=Int.gcd_ediv_gcd_ediv_gcd (i:=b) (j:=d) (by have:0<(Int.gcd b d:Int):=hg;omega);have h:Int.gcd (b/g) (d/g)=1:=this
  rwa [qb,qd] at h
 have cab:Int.gcd a b'=1:=kU h1.low ⟨g,by rw [eb,Int.mul_comm]⟩;have ccd:Int.gcd c d'=1:=kU h2.low ⟨g,by rw [ed,Int.mul_comm]⟩;have ub:Int.gcd u b'=1:=by
  rw [eu,Int.add_comm,Int.gcd_mul_right_add_left,Int.gcd_mul_right_left_of_gcd_eq_one cab,Int.gcd_comm];exact cbd
 have ud:Int.gcd u d'=1:=by
  rw [eu,Int.gcd_mul_right_add_left,Int.gcd_mul_right_left_of_gcd_eq_one ccd];exact cbd
 obtain ⟨u',eu'⟩:=Int.gcd_dvd_left u g;obtain ⟨g',eg'⟩:=Int.gcd_dvd_right u g;have eu':u=l*u':=eu';have eg':g=l*g':=eg';have qu:u/l=u':=by rw [eu'];exact Int.mul_ediv_cancel_left _ Oo
 have qdl:d/l=g' * d':=by rw [ed,eg',Int.mul_assoc];exact Int.mul_ediv_cancel_left _ Oo
 have cug:Int.gcd u' g'=1:=by
  have:=Int.gcd_ediv_gcd_ediv_gcd (i:=u) (j:=g) (by have:0<(Int.gcd u g:Int):=hl;omega);have h:Int.gcd (u/l) (g/l)=1:=this;rw [qu] at h
  rwa [show g/l=g' from by rw [eg'];exact Int.mul_ediv_cancel_left _ Oo] at h
 rw [qu,qb,qdl];have hu':u' ∣ u:=⟨l,by rw [eu',Int.mul_comm]⟩;have hb':0<b':=by
  have:=h1.pos;rw [eb] at this;exact Int.pos_of_mul_pos_right this Oo
 have hd':0<d':=by
  have:=h2.pos;rw [ed] at this;exact Int.pos_of_mul_pos_right this Oo
 have hg':0<g':=by
  have:=hg;rw [eg'] at this;exact Int.pos_of_mul_pos_right this Oo
 refine tF ⟨Int.mul_pos hb' (Int.mul_pos hg' hd'),?_⟩ (Int.mul_pos h1.pos h2.pos) ?_
 ·exact mW (iG ub hu') (mW cug (iG ud hu'))
 ·have e1:a*d+c*b=g*(l*u'):=by
   rw [<-eu',eu,eb,ed];rw [Int.mul_add,Int.mul_left_comm a,Int.mul_left_comm c]
  rw [e1,eb,ed];generalize hG:g=G at *;rw [eg'];simp only [Int.mul_assoc,Int.mul_left_comm,Int.mul_comm]
theorem MK{a b c d:Int}(h1:RH a b)(h2:RH c d) :
  let f:Int:=Int.gcd a d
  let s:Int:=Int.gcd c b
  lw (a*c) (b*d)=((a/f)*(c/s),(b/s)*(d/f)):=by
 intro f s;have hf:0<f:=gW h2.pos;have hs:0<s:=gW h1.pos;obtain ⟨a',ea⟩:=Int.gcd_dvd_left a d;obtain ⟨d',ed⟩:=Int.gcd_dvd_right a d;obtain ⟨c',ec⟩:=Int.gcd_dvd_left c b;obtain ⟨b',eb⟩:=Int.gcd_dvd_right c b;have ea:a=f*a':=ea;have ed:d=f*d':=ed;have ec:c=s*c':=ec;have eb:b=s*b':=eb;have qa:a/f=a':=by rw [ea];exact Int.mul_ediv_cancel_left _ Oo
 have qd:d/f=d':=by rw [ed];exact Int.mul_ediv_cancel_left _ Oo
 have qc:c/s=c':=by rw [ec];exact Int.mul_ediv_cancel_left _ Oo
 have qb:b/s=b':=by rw [eb];exact Int.mul_ediv_cancel_left _ Oo
 have cad:Int.gcd a' d'=1:=by
  have:=Int.gcd_ediv_gcd_ediv_gcd (i:=a) (j:=d) (by have:0<(Int.gcd a d:Int):=hf;omega);have h:Int.gcd (a/f) (d/f)=1:=this
  rwa [qa,qd] at h
 have ccb:Int.gcd c' b'=1:=by
  have:=Int.gcd_ediv_gcd_ediv_gcd (i:=c) (j:=b) (by have:0<(Int.gcd c b:Int):=hs;omega);have h:Int.gcd (c/s) (b/s)=1:=this
  rwa [qc,qb] at h
 have cab:Int.gcd a' b'=1:=iG (kU h1.low ⟨s,by rw [eb,Int.mul_comm]⟩) ⟨f,by rw [ea,Int.mul_comm]⟩;have ccd:Int.gcd c' d'=1:=iG (kU h2.low ⟨f,by rw [ed,Int.mul_comm]⟩) ⟨s,by rw [ec,Int.mul_comm]⟩;have hb':0<b':=by
  have:=h1.pos;rw [eb] at this;exact Int.pos_of_mul_pos_right this Oo
 have hd':0<d':=by
  have:=h2.pos;rw [ed] at this;exact Int.pos_of_mul_pos_right this Oo
 rw [qa,qb,qc,qd];refine tF ⟨Int.mul_pos hb' hd',?_⟩ (Int.mul_pos h1.pos h2.pos) ?_
 ·have x1:Int.gcd a' (b' * d')=1:=mW cab cad;have x2:Int.gcd c' (b' * d')=1:=mW ccb ccd;rw [Int.gcd_comm] at x1 x2 ⊢;exact mW x1 x2
 ·rw [ea,eb,ec,ed];simp only [Int.mul_assoc,Int.mul_left_comm,Int.mul_comm]
end Mf
namespace Mf
abbrev Fr:=Int × Int
def kW(x y:Fr):Fr:=lw (x.1*y.2+y.1*x.2) (x.2*y.2)
def gI(fs:List Fr):Fr:=fs.foldl kW (0,1)
def cS(f:Fr):Prop:=RH f.1 f.2
theorem lD{α:Type}{P:List α->Prop}(h0:P [])(hs:∀l a,P l->P (l++[a]))(l:List α):P l:=by
 have:∀r:List α,P r.reverse:=by
  intro r
  induction r with
  | nil=>exact h0
  | cons a r ih=>rw [List.reverse_cons];exact hs _ _ ih
 have:=this l.reverse
 rwa [List.reverse_reverse] at this
theorem jY(l:List Fr)(a:Fr):gI (l++[a])=kW (gI l) a:=by unfold gI;rw [List.foldl_append];rfl
theorem BX(l:List Fr):(∀f∈l,cS f)->cS (gI l):=by
 refine lD (P:=λl=>(∀f∈l,cS f)->cS (gI l)) (λ_=>⟨Dd,Dd⟩) (λl a ih h=>?_) l;rw [jY];have h1:=ih λf hf=>h f (bQ _ hf);have h2:=h a (bE _ aN);exact eT (Int.mul_pos h1.pos h2.pos)
theorem OM{n d:Int}(h:0<d):(lw n d).2<=d/\(lw n d).1.natAbs<=n.natAbs:=by
 obtain ⟨e1,e2⟩:=XN (n:=n) (d:=d);have g:=gW (n:=n) h;have p:=(eT (n:=n) h).pos;generalize (lw n d).1=a at *;generalize (lw n d).2=b at *;generalize (Int.gcd n d:Int)=G at *;refine ⟨?_,?_⟩
 ·rw [<-e2];have:=Int.mul_le_mul_of_nonneg_left (show (1:Int)<=G by omega) (Int.le_of_lt p);simpa using this
 ·rw [<-e1,fE];exact Nat.le_mul_of_pos_right _ Oo
end Mf
namespace Mf
theorem wC{n d n' d':Int}(hd:0<d)(hd':0<d')(e:n*d'=n' * d):lw n d=lw n' d':=by
 have h:=eT (n:=n') hd';have c:=iQ (n:=n') (d:=d');generalize lw n' d'=L at c h;refine tF (a:=L.1) (b:=L.2) h hd ?_;refine Int.eq_of_mul_eq_mul_right (a:=d') Oo ?_
 calc L.1*d*d'=(L.1*d')*d:=by ac_rfl
  _=n' * L.2*d:=by rw [c]
  _=(n' * d)*L.2:=by ac_rfl
  _=n*d' * L.2:=by rw [e]
  _=n*L.2*d':=by ac_rfl
def jX(f g:Fr):Fr:=lw (f.1*g.1) (f.2*g.2)
theorem mB{f g:Fr}(h:cS f)(h':cS g):cS (jX f g):=eT (Int.mul_pos h.pos h'.pos)
theorem aAC{a b c d:Int}(hb:0<b)(hd:0<d):jX (lw a b) (lw c d)=lw (a*c) (b*d):=by
 have h1:=(eT (n:=a) hb).pos;have h2:=(eT (n:=c) hd).pos;refine wC (Int.mul_pos h1 h2) (Int.mul_pos hb hd) ?_;have e1:=iQ (n:=a) (d:=b);have e2:=iQ (n:=c) (d:=d);generalize lw a b=L at *;generalize lw c d=M at *
 calc L.1*M.1*(b*d)=(L.1*b)*(M.1*d):=by ac_rfl
  _=(a*L.2)*(c*M.2):=by rw [e1,e2]
  _=a*c*(L.2*M.2):=by ac_rfl
theorem aA5{a b c d:Int}(hb:0<b)(hd:0<d):kW (lw a b) (lw c d)=lw (a*d+c*b) (b*d):=by
 have h1:=(eT (n:=a) hb).pos;have h2:=(eT (n:=c) hd).pos;refine wC (Int.mul_pos h1 h2) (Int.mul_pos hb hd) ?_;have e1:=iQ (n:=a) (d:=b);have e2:=iQ (n:=c) (d:=d);generalize lw a b=L at *;generalize lw c d=M at *;rw [Int.add_mul,Int.add_mul];congr 1
 ·calc L.1*M.2*(b*d)=(L.1*b)*(M.2*d):=by ac_rfl
   _=(a*L.2)*(M.2*d):=by rw [e1]
   _=a*d*(L.2*M.2):=by ac_rfl
 ·calc M.1*L.2*(b*d)=(M.1*d)*(L.2*b):=by ac_rfl
   _=(c*M.2)*(L.2*b):=by rw [e2]
   _=c*b*(L.2*M.2):=by ac_rfl
theorem uS{d:Int}(h:0<d):lw 0 d=(0,1):=tF (a:=0) (b:=1) ⟨Dd,Dd⟩ h Oo
theorem FQ{d:Int}(h:0<d):lw d d=(1,1):=tF (a:=1) (b:=1) ⟨Dd,Dd⟩ h Oo
theorem lO{S:Int}(hS:0<S)(ps:List Int):gI (ps.map λp=>lw p S)=lw ps.sum S:=by
 induction ps using lD with
 | h0=>rw [show ([]:List Int).sum=0 from rfl,uS hS];rfl
 | hs l a ih =>
  rw [bL,aW,List.map_nil,jY,ih,aA5 hS hS,List.sum_append];refine wC (Int.mul_pos hS hS) hS ?_;rw [show ([a]:List Int).sum=a by simp,<-Int.add_mul,Int.mul_assoc]
def sV(f:Fr)(c:Nat):Fr:=(f.1^c,f.2^c)
theorem kQ{f:Fr}(h:cS f):∀c:Nat,cS (sV f c)
 | 0=>⟨by show 0<f.2^0;rw [Int.pow_zero];decide,by show Int.gcd (f.1^0) (f.2^0)=1;rw [Int.pow_zero,Int.pow_zero];decide⟩
 | c+1=>by
  have ih:=kQ h c;have k:∀n:Nat,Int.gcd f.1 (f.2^n)=1:=λn=>by
   induction n with
   | zero=>rw [Int.pow_zero];exact Int.gcd_one_right _
   | succ n ih=>rw [Int.pow_succ];exact mW ih h.low
  refine ⟨?_,?_⟩
  ·show 0<f.2^(c+1);rw [Int.pow_succ];exact Int.mul_pos ih.pos h.pos
  ·show Int.gcd (f.1^(c+1)) (f.2^(c+1))=1;have k2:∀n:Nat,Int.gcd (f.2^(c+1)) (f.1^n)=1:=λn=>by
    induction n with
    | zero=>rw [Int.pow_zero];exact Int.gcd_one_right _
    | succ n ih=>rw [show f.1^(n+1)=f.1^n*f.1 from Int.pow_succ ..];exact mW ih (by rw [Int.gcd_comm];exact k (c+1))
   rw [Int.gcd_comm];exact k2 (c+1)
def sJ(zs:List (Fr × Nat)):Fr:=zs.foldl (λp q=>(p.1*q.1.1^q.2,p.2*q.1.2^q.2)) (1,1)
def pY(zs:List (Fr × Nat)):Fr:=zs.foldl (λp q=>jX p (sV q.1 q.2)) (1,1)
theorem sI(l:List (Fr × Nat))(a:Fr × Nat):sJ (l++[a])=((sJ l).1*a.1.1^a.2,(sJ l).2*a.1.2^a.2):=by unfold sJ;rw [List.foldl_append];rfl
theorem sK(l:List (Fr × Nat))(a:Fr × Nat):pY (l++[a])=jX (pY l) (sV a.1 a.2):=by unfold pY;rw [List.foldl_append];rfl
theorem vC(l:List (Fr × Nat)):(∀z∈l,cS z.1)->0<(sJ l).2:=by
 induction l using lD with
 | h0=>intro _;decide
 | hs l a ih =>
  intro h;rw [sI];exact Int.mul_pos (ih λf hf=>h f (bQ _ hf)) (kQ (h a (by simp)) a.2).pos
theorem GL(l:List (Fr × Nat)):(∀z∈l,cS z.1)->pY l=lw (sJ l).1 (sJ l).2:=by
 induction l using lD with
 | h0=>intro _;rfl
 | hs l a ih =>
  intro h;have hl:∀f∈l,cS f.1:=λf hf=>h f (bQ _ hf);have ha:=kQ (h a (by simp)) a.2;rw [sK,sI,ih hl];have e:sV a.1 a.2=lw (a.1.1^a.2) (a.1.2^a.2):=(HQ ha).symm;rw [e,aAC (vC l hl) (show 0<a.1.2^a.2 from ha.pos)]
theorem vD(l:List (Fr × Nat))(h:∀z∈l,cS z.1):cS (pY l):=by rw [GL l h];exact eT (vC l h)
theorem sU{x:Int}{B:Nat}(h:x.natAbs<=2^B)(c:Nat):(x^c).natAbs<=2^(B*c):=by
 rw [Int.natAbs_pow,Nat.pow_mul];exact Nat.pow_le_pow_left h c
theorem RX{B:Nat}(l:List (Fr × Nat)):(∀z∈l,z.1.1.natAbs<=2^B/\z.1.2.natAbs<=2^B)->(sJ l).1.natAbs<=2^(B*(l.map (·.2)).sum)/\(sJ l).2.natAbs<=2^(B*(l.map (·.2)).sum):=by
 induction l using lD with
 | h0=>intro _;exact ⟨Nat.one_le_two_pow,Nat.one_le_two_pow⟩
 | hs l a ih =>
  intro h;obtain ⟨i1,i2⟩:=ih λf hf=>h f (bQ _ hf);obtain ⟨a1,a2⟩:=h a (by simp);rw [sI,bL,List.sum_append,show ([a].map (·.2)).sum=a.2 by simp,Nat.mul_add,Nat.pow_add];exact ⟨by show ((sJ l).1*a.1.1^a.2).natAbs<=_;rw [fE];exact Nat.mul_le_mul i1 (sU a1 _),by show ((sJ l).2*a.1.2^a.2).natAbs<=_;rw [fE];exact Nat.mul_le_mul i2 (sU a2 _)⟩
theorem RY{B:Nat}(l:List (Fr × Nat))(hl:∀z∈l,cS z.1)(h:∀z∈l,z.1.1.natAbs<=2^B/\z.1.2.natAbs<=2^B):(pY l).1.natAbs<=2^(B*(l.map (·.2)).sum)/\(pY l).2.natAbs<=2^(B*(l.map (·.2)).sum):=by
 obtain ⟨h1,h2⟩:=RX l h;rw [GL l hl];have hp:=vC l hl;obtain ⟨l1,l2⟩:=OM (n:=(sJ l).1) hp;have:=(eT (n:=(sJ l).1) hp).pos;exact ⟨bC l2 h1,Oo⟩
end Mf
namespace Mf
theorem jW:∀(l:List Nat) (j v x:Nat),l[j]?=some x->(l.set j v).sum+x=l.sum+v
 | [],j,v,x,h=>by simp at h
 | a::l,0,v,x,h=>by
  have:a=x:=by simpa using h
  subst this;simp only [List.set_cons_zero,List.sum_cons];omega
 | a::l,j+1,v,x,h=>by
  have:=jW l j v x (by simpa using h);simp only [List.set_cons_succ,List.sum_cons];omega
def cta:Nat->Nat->List (List Nat)
 | 0,_=>[]
 | 1,m=>[[m]]
 | F+2,m=>(List.range (m+1)).flatMap λk=>(cta (F+1) (m-k)).map λc=>k::c
theorem fX:∀{F m:Nat}{c:List Nat},c∈cta F m->c.length=F/\c.sum=m
 | 0,m,c,h=>by cases h
 | 1,m,c,h=>by
  have:c=[m]:=by simpa [cta] using h
  subst this;simp
 | F+2,m,c,h=>by
  obtain ⟨k,hk,h⟩:=List.mem_flatMap.mp h;obtain ⟨d,hd,rfl⟩:=aU.mp h;have hk:=cE.mp hk;obtain ⟨h1,h2⟩:=fX hd;refine ⟨by simp [h1],?_⟩;rw [List.sum_cons];omega
end Mf
namespace Mf
end Mf
namespace L2
open PySem PySem.Spec PyProof.Rows
theorem RS{X:Cx}{e:Expr}{t:TT}(h:GD X e t):GD X e (qP t):=⟨h.p.mono⟩
end L2
namespace HT
open PySem PyProof.Rows
section
variable{prog:Program}{w:World}{A:Around}{E:Value->Shared->Prop}{s:Shared}
theorem pL{t sl:Addr}{items:Array Value}{vl vu:Value}{lo hi:Option Int}{Q:Value->Shared->Prop}(ht:IsTup s.heap t items)(hs:s.heap.IsSliceOf sl vl vu .none)(pl:IsPart vl lo)(pu:IsPart vu hi)
  (h0:hJ items.size 0 lo=0) (h1:hJ items.size items.size hi=items.size) (h:Q (.ref t) s):wpAny (model prog w) A (getItem (.ref t) (.ref sl)) Q E s:=by
 obtain ⟨os,hos,hcs,hds⟩:=id hs;have hTs:s.TypeIs (.ref sl) "slice" := ⟨os,hos,hcs⟩;have hTt:s.TypeIs (.ref t) "tuple" := ht.typeIs;unfold getItem
 try with_reducible refine wpAny_holding ?_
 first | refine wpAny_bind (wpAny_pure ?_) | skip
 refine wpAny_bind (wpAny_sequenceKey ht.typeIs Dd ?_);refine wpAny_bind (wpAny_callSpecial?_slot (name:=Str.ofString "__getitem__") ht.typeIs PyProof.Rows.slot_tuple_getitem
  (wpAny_call_entry PyProof.Rows.slot_tuple_getitem ht.typeIs entry_tuple_getitem ?_ (args_tuple_getitem _ _)))
 show wpAny _ _ (Builtin.Tuple.tupleItemsOf (.ref t) >>= _) _ _ s;refine wpAny_bind (tupleItemsOf_ ht ?_);refine wpAny_bind (wpAny_typeOf hTs ?_);rw [if_pos Dd];refine wpAny_bind (lY hs pl pu ?_);have hyes:(((hJ items.size 0 lo:Nat):Int) == 0&&(1:Int) == 1&&(hJ items.size items.size hi-hJ items.size 0 lo) == items.size)=true:=by
  rw [h0,h1];simp
 show wpAny _ _ (if (((hJ items.size 0 lo:Nat):Int) == 0&&(1:Int) == 1&&(hJ items.size items.size hi-hJ items.size 0 lo) == items.size)=true then _ else _) _ _ s;rw [if_pos hyes];unfold Builtin.Tuple.tupleIsExact;refine wpAny_bind (wpAny_bind (wpAny_typeOf hTt (wpAny_pure ?_)));rw [if_pos Dd];refine wpAny_bind (wpAny_rule ?_)
 first
  | exact wpAny_pure ⟨_,rfl,wpAny_pure h⟩
  | exact wpAny_bind (wpAny_pure (wpAny_pure ⟨_,rfl,wpAny_pure h⟩))
end
end HT
namespace L2
open PySem PySem.W PySem.Spec PySem.Calls PyProof.Rows
theorem FV{xs:List V}{lo hi:Option Int}(h0:HT.hJ xs.length 0 lo=0)(h1:HT.hJ xs.length xs.length hi=xs.length):pO xs lo hi=xs:=by
 unfold pO;rw [h0,h1];simp
section
variable{X:Cx}
@[irreducible] def FD(K:PySem.W.Frag):V->Option Int->Option Int->Hp->VK->Prop:=λx lo hi H Q=>∃a xs,x=.ref a/\H a=some (.tup xs)/\∀c H',bF H H'->H' c=some (.tup (pO xs lo hi))->Q (.ref c) H'
theorem pC(K:PySem.W.Frag)(hK:X.K=K:=by rfl):SlR X (FD K):=by
 unfold FD;subst hK;intro pins s σ H x v vl vu lo hi sl Q I rx hs pl pu h;obtain ⟨a,xs,rfl,hx,q⟩:=h;by_cases hw:HT.hJ xs.length 0 lo=0/\HT.hJ xs.length xs.length hi=xs.length
 ·cases rx;obtain ⟨its,r,ht,hz⟩:=I.tuple (fS.of hx);have hlen:its.toArray.size=xs.length:=by rw [aY];exact r.length.symm
  refine ⟨"tuple",_,PyProof.Rows.slot_tuple_getitem.lookup,ht.typeIs,?_⟩;refine HT.pL ht hs pl pu (by rw [hlen];exact hw.1) (by rw [hlen];exact hw.2) ?_;exact ⟨.ref a,H,I,rfl,q a H (bF.refl _) (by rw [FV hw.1 hw.2];exact hx)⟩
 ·exact YQ pins s σ H (.ref a) v vl vu lo hi sl Q I rx hs pl pu ⟨a,xs,rfl,fS.of hx,hw,λp hp=>q p _ (bF.upd hp) bJ⟩
theorem AF{K:PySem.W.Frag}{H:Hp}{a:Addr}{xs:List V}{k:Nat}{Q:VK}(h:H a=some (.tup xs))(q:∀c H',bF H H'->H' c=some (.tup (xs.take k))->Q (.ref c) H'):FD K (.ref a) none (some (k:Int)) H Q:=by
 unfold FD;exact ⟨a,xs,rfl,h,λc H' s e=>q c H' s (by rw [e,uU])⟩
theorem YR{K:PySem.W.Frag}{H:Hp}{a:Addr}{xs:List V}{k:Nat}{Q:VK}(h:H a=some (.tup xs))(q:∀c H',bF H H'->H' c=some (.tup (xs.drop k))->Q (.ref c) H'):FD K (.ref a) (some (k:Int)) none H Q:=by
 unfold FD;exact ⟨a,xs,rfl,h,λc H' s e=>q c H' s (by rw [e,BF])⟩
end
end L2
namespace HT
open PySem PySem.W PyProof.Rows
def dC{α:Type}(n:Nat)(lt:Nat->Nat->Bool)(R:α->Prop):KasT α->Prop
 | .ret a=>R a
 | .ask i j k=>i<n/\j<n/\dC n lt R (k (lt i j))
section
variable{n:Nat}{lt:Nat->Nat->Bool}
theorem dC.bind{α β:Type}{R:α->Prop}{S:β->Prop}{f:α->KasT β}:∀{t:KasT α},dC n lt R t->(∀a,R a->dC n lt S (f a))->dC n lt S (t.bind f)
 | .ret a,h,k=>k a h
 | .ask i j t,⟨h1,h2,h3⟩,k=>⟨h1,h2,dC.bind (t:=t (lt i j)) h3 k⟩
theorem dC.wp{α:Type}{R:α->Prop}{cmp:Nat->Nat->(Bool->Shared->Prop)->Shared->Prop}{Q:α->Shared->Prop}{s:Shared}(hc:∀i j C,i<n->j<n->C (lt i j) s->cmp i j C s)(q:∀a,R a->Q a s) :
  ∀{t:KasT α},dC n lt R t->t.kasWp cmp Q s
 | .ret a,h=>q a h
 | .ask i j t,⟨h1,h2,h3⟩=>hc i j _ h1 h2 (dC.wp (t:=t (lt i j)) hc q h3)
def fC(n:Nat)(p:Array Nat):Prop:=p.Perm (List.toArray (List.range n))
theorem fC.bd{p:Array Nat}(g:fC n p)(hn:0<n)(i:Nat):p.getD i 0<n:=by
 by_cases hi:i<p.size
 ·have e:p.getD i 0=p[i]:=by simp [Array.getD,hi]
  rw [e];have m:p[i]∈List.toArray (List.range n):=(Array.Perm.mem_iff g).mp (Array.getElem_mem hi);simpa using m
 ·have e:p.getD i 0=0:=by simp [Array.getD,hi]
  rw [e];exact hn
theorem fC.rev{p:Array Nat}(g:fC n p)(i j:Nat):fC n (kas_rev p i j):=(mirror_perm p i j _).trans g
theorem fC.bub{p:Array Nat}(g:fC n p)(i j:Nat):fC n (bubble p i j):=(bubble_perm p i j).trans g
theorem BL{p:Array Nat}(g:fC n p)(hn:0<n):∀(f m:Nat),dC n lt (λ_=>True) (kas_asc p f m)
 | 0,m=>True.intro
 | f+1,m=>⟨g.bd hn _,g.bd hn _,by
  cases lt (p.getD m 0) (p.getD (m-1) 0) with
  | true=>exact True.intro
  | false=>exact BL g hn f (m+1)⟩
theorem sF(hn:0<n):∀(f:Nat) {p:Array Nat}(g:fC n p) (m q:Nat),dC n lt (λr=>fC n r.1) (kas_desc f p m q)
 | 0,p,g,m,q=>g
 | f+1,p,g,m,q=>by
  refine ⟨g.bd hn _,g.bd hn _,?_⟩;cases lt (p.getD m 0) (p.getD (m-1) 0) with
  | true =>
   show dC n lt _ (if q > 0 then _ else _);split
   ·exact sF hn f (g.rev _ _) _ _
   ·exact sF hn f g _ _
  | false =>
   refine ⟨g.bd hn _,g.bd hn _,?_⟩;cases lt (p.getD (m-1) 0) (p.getD m 0) with
   | true=>exact g
   | false=>exact sF hn f g _ _
theorem zD{p:Array Nat}(g:fC n p)(hn:0<n)(m r:Nat):dC n lt (λr=>fC n r.2) (kas_tail3 m r p):=by
 unfold kas_tail3;exact (BL (g.rev 0 m) hn _ _).bind λ_ _=>g.rev 0 m
theorem sE{p:Array Nat}(g:fC n p)(hn:0<n)(m r:Nat):dC n lt (λr=>fC n r.2) (kas_descPart m r p):=by
 unfold kas_descPart;refine (sF hn _ g _ _).bind λr hr=>?_;split
 ·exact zD (fC.rev hr _ _) hn _ _
 ·exact zD hr hn _ _
theorem LI{p:Array Nat}(g:fC n p)(hn:0<n)(m:Nat):dC n lt (λr=>fC n r.2) (kas_count m p):=by
 unfold kas_count;refine (BL g hn _ _).bind λk _=>?_;split
 ·exact g
 ·split
  ·refine ⟨g.bd hn _,g.bd hn _,?_⟩;cases lt (p.getD 0 0) (p.getD (k-1) 0) with
   | true=>exact g
   | false=>exact sE (g.rev _ _) hn _ _
  ·exact sE g hn _ _
theorem tQ{p:Array Nat}(g:fC n p)(hn:0<n)(k:Nat):∀(f l r:Nat),dC n lt (λ_=>True) (kas_place p k f l r)
 | 0,l,r=>True.intro
 | f+1,l,r=>by
  unfold kas_place;split
  ·exact True.intro
  ·refine ⟨g.bd hn _,g.bd hn _,?_⟩;cases lt (p.getD k 0) (p.getD ((l+r)/2) 0) with
   | true=>exact tQ g hn k f _ _
   | false=>exact tQ g hn k f _ _
theorem IP(hn:0<n):∀(f:Nat) {p:Array Nat}(g:fC n p) (k:Nat),dC n lt (fC n) (kas_bin f p k)
 | 0,p,g,k=>g
 | f+1,p,g,k=>by
  unfold kas_bin;exact (tQ g hn k _ _ _).bind λl _=>IP hn f (g.bub _ _) _
theorem QO(hn:0<n):dC n lt (fC n) (kas_sort n):=by
 unfold kas_sort;refine (LI (Array.Perm.refl _) hn n).bind λr hr=>?_;split
 ·exact IP hn _ hr _
 ·exact hr
end
structure EA(n:Nat)(lt:Nat->Nat->Bool):Prop where
 tot:∀i j,i<n->j<n->i≠j->lt i j=false->lt j i=true
 tra:∀i j k,lt i j=true->lt j k=true->lt i k=true
def xN(lt:Nat->Nat->Bool)(p:Array Nat)(m:Nat):Prop:=∀a b,a<b->b<m->lt (p.getD a 0) (p.getD b 0)=true
def YG(lt:Nat->Nat->Bool)(p:Array Nat)(m:Nat):Prop:=∀a b,a<b->b<m->lt (p.getD b 0) (p.getD a 0)=true
section
variable{n:Nat}{lt:Nat->Nat->Bool}
theorem dC.mono{α:Type}{R S:α->Prop}(k:∀a,R a->S a):∀{t:KasT α},dC n lt R t->dC n lt S t
 | .ret a,h=>k a h
 | .ask i j t,⟨h1,h2,h3⟩=>⟨h1,h2,dC.mono k (t:=t (lt i j)) h3⟩
theorem fC.size{p:Array Nat}(g:fC n p):p.size=n:=by
 have:=(Array.perm_iff_toList_perm.mp g).length_eq;simpa using this
theorem fC.ne{p:Array Nat}(g:fC n p){i j:Nat}(hi:i<n)(hj:j<n)(h:i≠j):p.getD i 0≠p.getD j 0:=by
 have hn:p.toList.Nodup:=(Array.perm_iff_toList_perm.mp g).nodup_iff.mpr (by simpa using List.nodup_range);have hs:=g.size;have e1:p.getD i 0=p.toList[i]'(by simpa [hs] using hi):=by simp [Array.getD,hs,hi]
 have e2:p.getD j 0=p.toList[j]'(by simpa [hs] using hj):=by simp [Array.getD,hs,hj]
 rw [e1,e2];intro e;exact h ((List.getElem_inj hn).mp e)
theorem xN.one{p:Array Nat}:xN lt p 1:=λa b h1 h2=>Oo
theorem xN.more(O:EA n lt){p:Array Nat}(g:fC n p){m:Nat}(h:xN lt p m)(h1:1<=m)(hm:m<n)(e:lt (p.getD m 0) (p.getD (m-1) 0)=false):xN lt p (m+1):=λa b hab hb=>by
 by_cases q:b<m
 ·exact h a b hab q
 ·have e':b=m:=Oo;subst e';have l1:lt (p.getD (b-1) 0) (p.getD b 0)=true:=O.tot _ _ (g.bd Oo _) (g.bd Oo _) (g.ne Oo Oo Oo) e;by_cases r:a=b-1
  ·rw [r];exact l1
  ·exact O.tra _ _ _ (h a (b-1) Oo Oo) l1
theorem BK(O:EA n lt){p:Array Nat}(g:fC n p):∀(f m:Nat),1<=m->m+f<=n->xN lt p m->dC n lt (λk=>m<=k/\k<=m+f/\xN lt p k/\(k<m+f->lt (p.getD k 0) (p.getD (k-1) 0)=true)) (kas_asc p f m)
 | 0,m,_,_,h=>⟨aG _,aG _,h,λq=>Oo⟩
 | f+1,m,h1,hm,h=>by
  refine ⟨g.bd Oo _,g.bd Oo _,?_⟩;cases e:lt (p.getD m 0) (p.getD (m-1) 0) with
  | true=>exact ⟨aG _,Oo,h,λ_=>e⟩
  | false =>
   refine (show dC n lt _ (kas_asc p f (m+1)) from ?_);have ih:=BK O g f (m+1) Oo Oo (h.more O g h1 Oo e);exact dC.mono (λk ⟨a1,a2,a3,a4⟩=>⟨Oo,Oo,a3,λq=>a4 Oo⟩) ih
theorem YG.more(O:EA n lt){p:Array Nat}{m:Nat}(h:YG lt p m)(h1:1<=m)(e:lt (p.getD m 0) (p.getD (m-1) 0)=true):YG lt p (m+1):=λa b hab hb=>by
 by_cases q:b<m
 ·exact h a b hab q
 ·have e':b=m:=Oo;subst e';by_cases r:a=b-1
  ·rw [r];exact e
  ·exact O.tra _ _ _ e (h a (b-1) Oo Oo)
theorem DK(O:EA n lt){p:Array Nat}(g:fC n p):∀(f m:Nat),1<=m->m+f<=n->YG lt p m->dC n lt (λr=>r.1=p/\r.2.2=0/\m<=r.2.1/\r.2.1<=m+f/\YG lt p r.2.1) (kas_desc f p m 0)
 | 0,m,_,_,h=>⟨rfl,rfl,aG _,aG _,h⟩
 | f+1,m,h1,hm,h=>by
  refine ⟨g.bd Oo _,g.bd Oo _,?_⟩;cases e:lt (p.getD m 0) (p.getD (m-1) 0) with
  | true =>
   refine (show dC n lt _ (kas_desc f p (m+1) 0) from ?_);exact dC.mono (λr ⟨a1,a2,a3,a4,a5⟩=>⟨a1,a2,Oo,Oo,a5⟩) (DK O g f (m+1) Oo Oo (h.more O h1 e))
  | false =>
   refine ⟨g.bd Oo _,g.bd Oo _,?_⟩;rw [O.tot _ _ (g.bd Oo _) (g.bd Oo _) (g.ne Oo Oo Oo) e];exact ⟨rfl,rfl,aG _,(show m<=m+(f+1) by omega),h⟩
theorem NJ{p:Array Nat}{m i:Nat}(hm:m<=p.size):(kas_rev p 0 m).getD i 0=if i<m then p.getD (m-1-i) 0 else p.getD i 0:=by
 have e:=getElem?_mirror (xs:=p) (i:=0) (j:=m) hm (m/2) Oo i;have e':(kas_rev p 0 m)[i]?=if (0<=i/\i<0+m/2)\/(m-m/2<=i/\i<m) then p[0+m-1-i]? else p[i]?:=e
 have g:∀(q:Array Nat) (k:Nat),q.getD k 0=q[k]?.getD 0:=λq k=>by simp [Array.getD_eq_getD_getElem?]
 rw [g,e',g,g];by_cases h:i<m
 ·rw [if_pos h];by_cases h2:(0<=i/\i<0+m/2)\/(m-m/2<=i/\i<m)
  ·rw [if_pos h2,show 0+m-1-i=m-1-i by omega]
  ·rw [if_neg h2,show m-1-i=i by omega]
 ·rw [if_neg h,if_neg Oo]
theorem YG.rev{p:Array Nat}{m:Nat}(h:YG lt p m)(hm:m<=p.size):xN lt (kas_rev p 0 m) m:=λa b hab hb=>by
 rw [NJ hm,NJ hm,if_pos Oo,if_pos hb];exact h _ _ Oo Oo
theorem KS(O:EA n lt){p:Array Nat}(g:fC n p)(hn:2<=n):dC n lt (λr=>fC n r.2/\1<=r.1/\r.1<=n/\xN lt r.2 r.1) (kas_count n p):=by
 unfold kas_count;refine (BK O g (n-1) 1 (aG _) Oo xN.one).bind λk ⟨k1,k2,k3,k4⟩=>?_;split
 ·exact ⟨g,k1,by show k<=n;omega,k3⟩
 ·rename_i hk
  have hkn:k≠n:=λe=>hk (by simp [e]);split
  ·refine ⟨g.bd Oo _,g.bd Oo _,?_⟩;rw [k3 0 (k-1) Oo Oo];exact ⟨g,k1,by show k<=n;omega,k3⟩
  ·have e1:k=1:=Oo;subst e1;unfold kas_descPart;have d2:YG lt p 2:=λa b hab hb=>by
    have e:a=0/\b=1:=Oo;rw [e.1,e.2];exact k4 Oo
   refine (DK O g (n-2) 2 Oo Oo d2).bind λr ⟨r1,r2,r3,r4,r5⟩=>?_;obtain ⟨p',m,q⟩:=r;dsimp only at r1 r2 r3 r4 r5 ⊢;subst r1 r2;rw [if_neg Dd];unfold kas_tail3;have hs:=g.size;refine (BK O (g.rev 0 m) (n-m) m Oo Oo (r5.rev Oo)).bind λk' ⟨a1,a2,a3,_⟩=>?_;exact ⟨g.rev 0 m,(show 1<=k' by omega),(show k'<=n by omega),a3⟩
theorem sW(O:EA n lt){p:Array Nat}(g:fC n p){k:Nat}(hk:k<n)(h:xN lt p k):∀(f l r:Nat),l<=r->r<=k->r-l<=f->(∀a,a<l->lt (p.getD a 0) (p.getD k 0)=true)->(∀a,r<=a->a<k->lt (p.getD k 0) (p.getD a 0)=true) ->
  dC n lt (λm=>m<=k/\(∀a,a<m->lt (p.getD a 0) (p.getD k 0)=true)/\∀a,m<=a->a<k->lt (p.getD k 0) (p.getD a 0)=true) (kas_place p k f l r)
 | 0,l,r,h1,h2,h3,h4,h5=>⟨Oo,h4,λa q1 q2=>h5 a Oo q2⟩
 | f+1,l,r,h1,h2,h3,h4,h5=>by
  unfold kas_place;split
  ·exact ⟨Oo,h4,λa q1 q2=>h5 a Oo q2⟩
  ·refine ⟨g.bd Oo _,g.bd Oo _,?_⟩;cases e:lt (p.getD k 0) (p.getD ((l+r)/2) 0) with
   | true =>
    refine (show dC n lt _ (kas_place p k f l ((l+r)/2)) from ?_);refine sW O g hk h f l ((l+r)/2) Oo Oo Oo h4 λa q1 q2=>?_;by_cases q:a=(l+r)/2
    ·rw [q];exact e
    ·exact O.tra _ _ _ e (h _ _ Oo q2)
   | false =>
    refine (show dC n lt _ (kas_place p k f ((l+r)/2+1) r) from ?_);have e2:=O.tot _ _ (g.bd Oo _) (g.bd Oo _) (g.ne hk Oo Oo) e;refine sW O g hk h f ((l+r)/2+1) r Oo Oo Oo (λa q1=>?_) h5;by_cases q:a=(l+r)/2
    ·rw [q];exact e2
    ·exact O.tra _ _ _ (h a ((l+r)/2) Oo Oo) e2
theorem QM{p:Array Nat}{k m i:Nat}(hk:k<p.size)(hm:m<=k):(bubble p k (k-m)).getD i 0=if i=m then p.getD k 0 else if m<i/\i<=k then p.getD (i-1) 0 else p.getD i 0:=by
 have e:=getElem?_bubble (xs:=p) hk (k-m) Oo i;have g:∀(q:Array Nat) (k:Nat),q.getD k 0=q[k]?.getD 0:=λq k=>by simp [Array.getD_eq_getD_getElem?]
 rw [g,e,g,g,g,show k-(k-m)=m by omega];by_cases h:i=m
 ·rw [if_pos h,if_pos h]
 ·rw [if_neg h,if_neg h];by_cases h2:m<i/\i<=k
  ·rw [if_pos h2,if_pos h2]
  ·rw [if_neg h2,if_neg h2]
theorem IO(O:EA n lt):∀(f:Nat) {p:Array Nat}(g:fC n p) (k:Nat),k+f=n->xN lt p k->dC n lt (λp=>fC n p/\xN lt p n) (kas_bin f p k)
 | 0,p,g,k,hk,h=>⟨g,by rw [<-hk];exact h⟩
 | f+1,p,g,k,hk,h=>by
  unfold kas_bin;refine (sW O g Oo h k 0 k Oo Oo Oo (λa q=>Oo) (λa q1 q2=>Oo)).bind λm ⟨m1,m2,m3⟩=>?_;have hs:=g.size;refine IO O f (g.bub _ _) (k+1) Oo λa b hab hb=>?_;rw [QM Oo m1,QM Oo m1];by_cases ha:a=m
  ·rw [if_pos ha,if_neg Oo,if_pos Oo];exact m3 _ Oo Oo
  ·rw [if_neg ha];by_cases hb':b=m
   ·rw [if_pos hb',if_neg Oo];exact m2 a Oo
   ·rw [if_neg hb'];by_cases q1:m<a/\a<=k
    ·rw [if_pos q1,if_pos Oo];exact h _ _ Oo Oo
    ·rw [if_neg q1];by_cases q2:m<b/\b<=k
     ·rw [if_pos q2];exact h _ _ Oo Oo
     ·rw [if_neg q2];exact h _ _ hab Oo
theorem MZ(O:EA n lt)(hn:2<=n):dC n lt (λp=>fC n p/\xN lt p n) (kas_sort n):=by
 unfold kas_sort;refine (KS O (Array.Perm.refl _) hn).bind λr ⟨h1,h2,h3,h4⟩=>?_;split
 ·rename_i q
  rw [Nat.max_eq_left h2];exact IO O _ h1 _ Oo h4
 ·rename_i q
  have e:r.1=n:=Oo;exact ⟨h1,e ▸ h4⟩
end
end HT
namespace L2
open PySem PySem.Spec PySem.W PyProof.Rows HT
theorem xQ{x:V}{xs:List V}{us:List Value}(r:cO (x::xs) us):∃u us',us=u::us'/\dH x u/\cO xs us':=by
 cases r with
 | cons h t=>exact ⟨_,_,rfl,h,t⟩
def DA(fin:Bool):List Int->List Int->Bool
 | x::a,y::b=>if x=y then DA fin a b else decide (x<y)
 | _,_=>fin
def mU(a b:List Int):Bool:=DA (decide (a.length<b.length)) a b
theorem wG(a:List Int):mU a []=false:=by
 unfold mU;cases a <;> rfl
theorem AV(y:Int)(b:List Int):mU [] (y::b)=true:=by unfold mU;rfl
theorem AW(x y:Int)(a b:List Int):mU (x::a) (y::b)=if x=y then mU a b else decide (x<y):=by
 show (if x=y then DA (decide ((x::a).length<(y::b).length)) a b else decide (x<y))=_;rw [cF,cF,show decide (a.length+1<b.length+1)=decide (a.length<b.length) by simp]
 rfl
theorem HU:∀{a b:List Int},a≠b->mU a b=false->mU b a=true
 | [],[],h,_=>absurd rfl h
 | [],y::b,_,e=>by rw [AV] at e;cases e
 | x::a,[],_,_=>AV _ _
 | x::a,y::b,h,e=>by
  rw [AW] at e ⊢;by_cases q:x=y
  ·subst q;rw [if_pos rfl] at e ⊢;exact HU (λz=>h (by rw [z])) e
  ·rw [if_neg q] at e;rw [if_neg (Ne.symm q)];have:=of_decide_eq_false e;exact bP Oo
theorem AT:∀{a b c:List Int},mU a b=true->mU b c=true->mU a c=true
 | a,b,[],_,h=>by rw [wG] at h;cases h
 | [],b,z::c,_,_=>AV _ _
 | x::a,[],z::c,h,_=>by rw [wG] at h;cases h
 | x::a,y::b,z::c,h1,h2=>by
  rw [AW] at h1 h2 ⊢;by_cases q1:x=y
  ·subst q1;rw [if_pos rfl] at h1;by_cases q2:x=z
   ·subst q2;rw [if_pos rfl] at h2 ⊢;exact AT h1 h2
   ·rw [if_neg q2] at h2 ⊢;exact h2
  ·rw [if_neg q1] at h1;have h1:=of_decide_eq_true h1;by_cases q2:y=z
   ·subst q2;rw [if_neg q1];exact bP h1
   ·rw [if_neg q2] at h2;have h2:=of_decide_eq_true h2;rw [if_neg Oo];exact bP Oo
theorem AU{a:List Int}:mU a a=false:=by
 induction a with
 | nil=>exact wG _
 | cons x a ih=>rw [AW,if_pos rfl];exact ih
theorem CZ:∀{l m:List (List Int)},l.Pairwise (λa b=>mU a b=true)->m.Pairwise (λa b=>mU a b=true)->(∀x,x∈l↔x∈m)->l=m
 | [],[],_,_,_=>rfl
 | [],y::m,_,_,h=>by have:=(h y).mpr (aN ..);cases this
 | x::l,[],_,_,h=>by have:=(h x).mp (aN ..);cases this
 | x::l,y::m,h1,h2,h=>by
  obtain ⟨a1,a2⟩:=List.pairwise_cons.mp h1;obtain ⟨b1,b2⟩:=List.pairwise_cons.mp h2;have e:x=y:=by
   rcases aQ.mp ((h x).mp (aN ..)) with q | q
   ·exact q
   ·rcases aQ.mp ((h y).mpr (aN ..)) with r | r
    ·exact r.symm
    ·have:=AT (b1 x q) (a1 y r);rw [AU] at this;cases this
  subst e;rw [CZ a2 b2 λz=>?_];constructor
  ·intro q;rcases aQ.mp ((h z).mp (aH _ q)) with r | r
   ·subst r;have:=a1 z q;rw [AU] at this;cases this
   ·exact r
  ·intro q;rcases aQ.mp ((h z).mpr (aH _ q)) with r | r
   ·subst r;have:=b1 z q;rw [AU] at this;cases this
   ·exact r
abbrev HR(cs:List (List Int)):Nat->Nat->Bool:=λi j=>mU (cs.getD i []) (cs.getD j [])
theorem aAw{cs:List (List Int)}(h:cs.Nodup):EA cs.length (HR cs):=⟨λi j hi hj ne e=>HU (λz=>by
  have e1:cs.getD i []=cs[i]:=by simp [hi]
  have e2:cs.getD j []=cs[j]:=by simp [hj]
  rw [e1,e2] at z;exact ne ((List.getElem_inj h).mp z)) e,λi j k h1 h2=>AT h1 h2⟩
section
variable{prog:Program}{w:World}{A:Around}{E:Value->Shared->Prop}{s:Shared}{Q:Bool->Shared->Prop}
theorem uC{fin:Bool}:∀{a b:List Int}{us vs:List Value}{i:Nat},cO (a.map V.int) us->cO (b.map V.int) vs->Q (DA fin a b) s->KatLex prog w A true fin Q (us.zip vs) i s
 | [],b,us,vs,i,ha,hb,q=>by cases ha;exact kat_nil (by unfold DA at q;exact q)
 | x::a,[],us,vs,i,ha,hb,q=>by
  cases hb;cases us with
  | nil=>exact kat_nil (by unfold DA at q;exact q)
  | cons u us=>exact kat_nil (by unfold DA at q;exact q)
 | x::a,y::b,us,vs,i,ha,hb,q=>by
  rw [aW] at ha hb;obtain ⟨u,us',rfl,⟨t,rfl⟩,ra⟩:=xQ ha;obtain ⟨v,vs',rfl,⟨t',rfl⟩,rb⟩:=xQ hb;rw [List.zip_cons_cons];refine kat_cons (wpAny_eqBool_int ?_);unfold DA at q;by_cases h:x=y
  ·rw [if_pos h] at q;rw [show (x == y)=true by simp [h]];exact kat_yes (uC ra rb q)
  ·rw [if_neg h] at q;rw [show (x == y)=false by simp [h]];refine kat_no ?_;cases (true&&i == 0) with
   | true=>exact oneLt_int q
   | false=>exact kat_one _ _ (lt_int q)
def YB(h:Heap)(v:Value)(c:List Int):Prop:=∃b its,v=.ref b/\IsTup h b (List.toArray its)/\cO (c.map V.int) its/\c≠[]
abbrev iU(h:Heap):List Value->List (List Int)->Prop:=Paired (YB h)
theorem iU.get{h:Heap}:∀{vs:List Value}{cs:List (List Int)}{i:Nat},iU h vs cs->i<vs.length->YB h (vs.getD i Value.none) (cs.getD i [])
 | _,_,_,.nil,hi=>by simp at hi
 | _,_,0,.cons t r,hi=>t
 | v::vs,c::cs,i+1,.cons t r,hi=>by
  have:=iU.get (i:=i) r (by simpa using hi);simpa using this
theorem iU.firsts{h:Heap}:∀{vs:List Value}{cs:List (List Int)},iU h vs cs->∃fs,KatTups h vs fs/\fs.length=vs.length/\∀v∈fs,∃i t,v=Value.int i t
 | _,_,.nil=>⟨[],KatTups.nil,rfl,λv hv=>by cases hv⟩
 | v::vs,c::cs,.cons t r=>by
  obtain ⟨fs,h1,h2,h3⟩:=iU.firsts r;obtain ⟨b,its,rfl,⟨o,ho,hc,n,hd⟩,hv,hne⟩:=t;cases c with
  | nil=>exact absurd rfl hne
  | cons x c =>
   rw [aW] at hv;obtain ⟨u,us,rfl,⟨t,rfl⟩,_⟩:=xQ hv;exact ⟨.int x t::fs,KatTups.cons ho hc hd (by simp) h1,by simp [h2],λv hv=>by
    rcases aQ.mp hv with rfl | hv
    ·exact ⟨_,_,rfl⟩
    ·exact h3 v hv⟩
theorem iU.keep{h h':Heap}(k:∀b o,h.get? b=some o->o.cls=.type "tuple" -> h'.get? b=some o):∀{vs:List Value}{cs:List (List Int)},iU h vs cs->iU h' vs cs
 | _,_,.nil=>.nil
 | _,_,.cons ⟨b,its,e,⟨o,ho,hc,hd⟩,hv,hne⟩ r=>.cons ⟨b,its,e,⟨o,k b o ho hc,hc,hd⟩,hv,hne⟩ (iU.keep k r)
theorem NA{n:Nat}{lt:Nat->Nat->Bool}(hn:2<=n):dC n lt (λp=>fC n p/\(EA n lt->xN lt p n)) (kas_sort n):=by
 by_cases O:EA n lt
 ·exact dC.mono (λp h=>⟨h.1,λ_=>h.2⟩) (MZ O hn)
 ·exact dC.mono (λp h=>⟨h,λz=>absurd z O⟩) (QO Oo)
theorem JP{a:Addr}{vs:List Value}{cs:List (List Int)}{n:Nat}{P:PySem.Fin->Shared->Prop}(ho:s.heap.get? a=some (seqObj "list" vs.toArray n))(ht:iU s.heap vs cs)(h64:vs.length<64)
  (h:∀p:Array Nat,fC vs.length p->(EA vs.length (HR cs)->xN (HR cs) p vs.length)->P (.done (.ret .none)) { s with heap:=sortedHeap s.heap a vs (List.toArray (p.toList.map λi=>vs.getD i Value.none)) }) :
  wpAny (model prog w) A (Builtin.«list.sort» ⟨[.ref a],[]⟩) P E s:=by
 rw [list_sort_plain];have ha:a<s.heap.objs.size:=bD ho;refine wpAny_bind (listItems_at ho rfl ?_);refine wpAny_bind (listUpdate_at ho rfl ?_ (by rw [aY,sizeLine_eq];omega) (cV _));obtain ⟨e1,ho1⟩:∃e1,(s.heap.update a (Obj.mapSeq λ_=>#[])).get? a=some (seqObj "list" #[] e1):=⟨_,get?_update_seq ho (λ_=>#[])⟩;refine wpAny_bind (seqEpoch_at ho1 rfl ?_);refine wpAny_bind (wpAny_newTuple ?_ (by show vs.length<=_;rw [sizeLine_eq];omega));refine wpAny_bind (wpAny_newList ?_ (cV _));refine wpAny_holding ?_;have ho6:(((s.heap.update a (Obj.mapSeq λ_=>#[])).push (seqObj "tuple" vs.toArray 0)).push (seqObj "list" #[] 0)).get? a=some (seqObj "list" #[] e1):=by
  rw [Heap.get?_push_ne _ _ _ (by rw [size_push',Heap.size_update];exact cJ (Nat.lt_succ_of_lt ha)),Heap.get?_push_ne _ _ _ (by rw [Heap.size_update];exact cJ ha)];exact ho1
 show wpAny (model prog w) A _ P E { s with heap:=((s.heap.update a (Obj.mapSeq λ_=>#[])).push (seqObj "tuple" vs.toArray 0)).push (seqObj "list" #[] 0) };dsimp only;have fin:∀st':SortSt,∀p:Array Nat,fC vs.length p->(EA vs.length (HR cs)->xN (HR cs) p vs.length)->(arrOf st').map (·.2)=List.toArray (p.toList.map λi=>vs.getD i Value.none) ->
   P (.done (.ret .none)) { s with heap:=sortedHeap s.heap a vs ((arrOf st').map (·.2)) }:=by
  intro st' p hp ho hs;rw [hs];exact h p hp ho
 have ht6:iU (((s.heap.update a (Obj.mapSeq λ_=>#[])).push (seqObj "tuple" vs.toArray 0)).push (seqObj "list" #[] 0)) vs cs:=ht.keep λb o hb hc=>by
  have hne:b≠a:=λe=>by
   subst e;rw [ho] at hb;cases hb;exact absurd (show Value.type "list" = Value.type "tuple" from hc) Dd
  exact aB _ (aB _ (by rw [Heap.get?_update_ne _ _ _ _ hne];exact hb))
 by_cases h2:vs.toArray.size<2
 ·rw [if_pos h2,if_pos h2];refine wpAny_bind (wpAny_pure ?_);rw [StateT.run_pure];refine wpAny_bind (wpAny_pure ?_);dsimp only;refine wpAny_bind (seqEpoch_at ho6 rfl ?_);refine wpAny_bind (listUpdate_at ho6 rfl ?_ (hsz2:=by rw [Array.size_map];show (pairsOf vs).size<=_;rw [pairsOf_size,sizeLine_eq];omega));simp only [bne_self_eq_false,Bool.false_eq_true,if_false];refine wpAny_pure (fin (SortSt.mk' general' (vs.toArray.zip vs.toArray) #[] 7 none) (List.toArray (List.range vs.length)) (Array.Perm.refl _) (λ_ a b h1 h3=>by rw [aY] at h2;omega) ?_);have e:=kat_snds (ks:=vs) (vs:=vs) (st:=SortSt.mk' general' (vs.toArray.zip vs.toArray) #[] 7 none) (p:=List.toArray (List.range vs.length)) rfl (by
   have e:=kas_range (vs.toArray.zip vs.toArray);rw [show (vs.toArray.zip vs.toArray).size=vs.length by simp] at e;exact e.symm)
  exact e
 ·rw [if_neg h2,if_neg h2];have hl2:2<=vs.length:=by rw [aY] at h2;omega
  obtain ⟨fs,k1,k2,k3⟩:=ht6.firsts;refine wpAny_bind (kat_kind (T:=.type "int") k1 Oo (λv hv=>?_) rfl ?_)
  ·obtain ⟨i,t,rfl⟩:=k3 v hv;exact .now
  refine wpAny_bind (wpAny_mono (kat_run (ks:=vs) (vs:=vs) (G:=λp s'=>s'={ s with heap:=((s.heap.update a (Obj.mapSeq λ_=>#[])).push (seqObj "tuple" vs.toArray 0)).push (seqObj "list" #[] 0) }/\fC vs.length p/\(EA vs.length (HR cs)->xN (HR cs) p vs.length))
   (Q:=λst' s'=>s'={ s with heap:=((s.heap.update a (Obj.mapSeq λ_=>#[])).push (seqObj "tuple" vs.toArray 0)).push (seqObj "list" #[] 0) }/\failedOf st'=none/\∃p:Array Nat,p.size=vs.length/\(fC vs.length p/\(EA vs.length (HR cs)->xN (HR cs) p vs.length))/\arrOf st'=p.map (kas_item (vs.toArray.zip vs.toArray)))
   rfl hl2 h64 (λp' st' s' a1 a2 a3 a4=>⟨a4.1,a3,p',a1,a4.2,a2⟩)
   (dC.wp (n:=vs.length) (lt:=HR cs) (R:=λp=>fC vs.length p/\(EA vs.length (HR cs)->xN (HR cs) p vs.length)) (λi j C hi hj hC=>?_) (λp hp=>⟨rfl,hp⟩) (NA hl2))) ?_ λ_ _ e=>e)
  ·obtain ⟨b,its,e1',⟨o,hb,hc,n',hd⟩,hv,_⟩:=ht6.get hi;obtain ⟨b2,its2,e2',⟨o2,hb2,hc2,n2,hd2⟩,hv2,_⟩:=ht6.get hj;unfold kas_ask;rw [e1',e2'];refine kat_lt hb hd hb2 hd2 ?_;refine uC hv hv2 ?_;have l1:=hv.length;have l2:=hv2.length;rw [aA] at l1 l2;rw [aY,aY,<-l1,<-l2];exact hC
  rintro ⟨⟨⟩,st'⟩ s' ⟨rfl,hf,p,hp,hg,har⟩;dsimp only;have hout:=kat_snds rfl har;refine wpAny_bind (seqEpoch_at ho6 rfl ?_);refine wpAny_bind (listUpdate_at ho6 rfl ?_ (hsz2:=by rw [hout,aY,aA,Array.length_toList,hp,sizeLine_eq];omega));rw [hf];simp only [bne_self_eq_false,Bool.false_eq_true,if_false];exact wpAny_pure (fin st' p hg.1 hg.2 hout)
end
theorem GS{X:Cx}{pins:List (Addr × Obj)}{σ:St}{H:Hp}{s:Shared}(I:cB X pins σ H s):∀{cs:List (List Int)}{ys:List V}{us:List Value},aP H (cs.map λc=>PyData.tuple (c.map .int)) ys->(∀c∈cs,c≠[])->cO ys us->iU s.heap us cs
 | [],ys,us,r,hc,v=>by
  unfold aP at r;cases (show ys=[] from r);cases v;exact .nil
 | c::cs,ys,us,r,hc,v=>by
  rw [aW] at r;unfold aP at r;obtain ⟨y,ys',rfl,r1,r2⟩:=r;obtain ⟨u,us',rfl,rv,v'⟩:=xQ v;refine .cons ?_ (GS I r2 (λc h=>hc c (aH _ h)) v');unfold bO at r1;obtain ⟨a,xs,rfl,h1,h2⟩:=r1;cases rv;obtain ⟨its,rr,pl,hzz⟩:=I.tuple (fS.of h1);have hx:xs=c.map V.int:=by
   clear rr h1 hc hzz
   induction c generalizing xs with
   | nil=>unfold aP at h2;exact h2
   | cons z c ih =>
    rw [aW] at h2;unfold aP at h2;obtain ⟨x,xs',rfl,h3,h4⟩:=h2;cases (show x=V.int z from h3);rw [ih _ h4];rfl
  subst hx;exact ⟨a,its,rfl,pl,rr,hc c (aN ..)⟩
theorem GN{ys:List V}{us:List Value}(v:cO ys us):∀ix:List Nat,(∀i∈ix,i<ys.length)->cO (ix.map λi=>ys.getD i .non) (ix.map λi=>us.getD i Value.none)
 | [],_=>.nil
 | i::ix,h=>by
  have hi:=h i (aN ..);obtain ⟨u,hu,ru⟩:=v.get (i:=i) (x:=ys[i]) (by simp [hi]);refine .cons ?_ (GN v ix λj hj=>h j (aH _ hj));have e1:ys.getD i .non=ys[i]:=by simp [hi]
  have e2:us.getD i Value.none=u:=by rw [aS,hu];rfl
  show dH (ys.getD i .non) (us.getD i Value.none);rw [e1,e2];exact ru
abbrev cD(c:List Int):PyData:=.tuple (c.map .int)
theorem aDB(x y:Int):PyData.eqv (.int x) (.int y)=decide (x=y):=by
 show (x == y)=_;rw [Bool.beq_eq_decide_eq]
theorem XV:∀a b:List Int,PyData.eqvAll (a.map PyData.int) (b.map PyData.int)=decide (a=b)
 | [],[]=>by simp [PyData.eqvAll]
 | [],_::_=>by simp [PyData.eqvAll]
 | _::_,[]=>by simp [PyData.eqvAll]
 | x::a,y::b=>by
  have ih:=XV a b;rw [aW,aW];show (PyData.eqv (.int x) (.int y)&&PyData.eqvAll _ _)=_;rw [ih,aDB];by_cases h:x=y <;> by_cases h':a=b <;> simp [h,h']
theorem VM(a b:List Int):PyData.eqv (cD a) (cD b)=decide (a=b):=XV a b
theorem yJ:∀a:List Int,PyData.canLayAll0 (a.map PyData.int)=true
 | []=>rfl
 | x::a=>by
  show (PyData.canLay0 (.int x)&&PyData.canLayAll0 (a.map PyData.int))=true;rw [yJ a];rfl
theorem ID:∀a:List Int,PyData.depthAll (a.map PyData.int)<=1
 | []=>by show 0<=1;omega
 | x::a=>by
  have:=ID a;show max (PyData.depth (.int x)) (PyData.depthAll (a.map PyData.int))<=1;have:PyData.depth (.int x)<=1:=by simp [PyData.depth]
  omega
theorem aA2{H:Hp}{c:List Int}{v:V}(h:bO H (cD c) v):∃a,v=.ref a/\H a=some (.tup (c.map V.int)):=by
 unfold bO at h;obtain ⟨a,xs,rfl,h1,h2⟩:=h;have hx:xs=c.map V.int:=by
  clear h1
  induction c generalizing xs with
  | nil=>unfold aP at h2;exact h2
  | cons z c ih =>
   rw [aW] at h2;unfold aP at h2;obtain ⟨x,xs',rfl,h3,h4⟩:=h2;cases (show x=V.int z from h3);rw [ih _ h4];rfl
 subst hx;exact ⟨a,rfl,h1⟩
theorem CV{a b:List Int}(h:a.map V.int=b.map V.int):a=b:=by
 induction a generalizing b with
 | nil=>cases b with
  | nil=>rfl
  | cons _ _=>cases h
 | cons x a ih=>cases b with
  | nil=>cases h
  | cons y b =>
   rw [aW,aW] at h;injection h with h1 h2;injection h1 with h1;rw [h1,ih h2]
open Classical in
noncomputable def RB (H:Hp) (c:List Int) (u:Value):Bool:=decide (∃b,u=.ref b/\H b=some (.tup (c.map V.int)))
section
variable{X:Cx}{pins:List (Addr × Obj)}{σ:St}{H:Hp}{s:Shared}
theorem PF{c c':List Int}{y:V}{u:Value}(h:bO H (cD c') y)(r:dH y u):RB H c u=decide (c'=c):=by
 obtain ⟨a,rfl,ha⟩:=aA2 h;cases r;unfold RB;rw [Bool.eq_iff_iff];simp only [decide_eq_true_eq];constructor
 ·rintro ⟨b,e2,hb⟩;cases e2;rw [ha] at hb;injection hb with hb;injection hb with hb;exact CV hb
 ·rintro rfl;exact ⟨a,rfl,ha⟩
theorem BD{c:List Int}:∀{cs:List (List Int)}{ys:List V}{us:List Value},aP H (cs.map cD) ys->cO ys us->us.any (RB H c)=decide (c∈cs)
 | [],ys,us,r,v=>by
  unfold aP at r;cases (show ys=[] from r);cases v
  rfl
 | c' :: cs,ys,us,r,v=>by
  rw [aW] at r;unfold aP at r;obtain ⟨y,ys',rfl,r1,r2⟩:=r;obtain ⟨u,us',rfl,rv,v'⟩:=xQ v;rw [List.any_cons,PF r1 rv,BD r2 v'];by_cases h:c'=c
  ·subst h;simp
  ·have h':¬c=c':=λe=>h e.symm;simp [h,h']
theorem BC(I:cB X pins σ H s)(hu:X.A.units+64<cLine){c:List Int}{v:Value}{as:List Addr}(rc:Reads s.heap v (cD c) as):∀{cs:List (List Int)}{ys:List V}{us:List Value},aP H (cs.map cD) ys->cO ys us ->
  ∀u∈us,SeqAt.EqAt X.A.in1 s u v (RB H c u)
 | [],ys,us,r,vv=>by
  unfold aP at r;cases (show ys=[] from r);cases vv;exact λu hu=>by cases hu
 | c' :: cs,ys,us,r,vv=>by
  rw [aW] at r;unfold aP at r;obtain ⟨y,ys',rfl,r1,r2⟩:=r;obtain ⟨u,us',rfl,rv,v'⟩:=xQ vv;intro u' hu';rcases aQ.mp hu' with rfl | hu'
  ·obtain ⟨bs,rb⟩:=r1.reads I rv;rw [PF r1 rv,<-VM];refine SeqAt.eqAt_reads (cD c') (cD c) _ s _ _ bs as rb rc (yJ c') (yJ c) ?_;have h1:(cD c').depth<=2:=by
    have:=ID c';simp only [PyData.depth];omega
   have:X.A.in1.units<=X.A.units+1:=by
    first
     | exact aG _
     | (unfold Around.in1;simp)
   omega
  ·exact BC I hu rc r2 v' u' hu'
end
@[irreducible] def TJ(K:PySem.W.Frag)(neg:Bool):R2:=λx y H Q=>∃(p:Addr) (ys:List V) (cs:List (List Int)) (c:List Int),y=.ref p/\(fT K H p ys\/fS K H p ys)/\aP H (cs.map cD) ys/\jG K H (cD c) x/\Q (.bl (if neg then !decide (c∈cs) else decide (c∈cs))) H
theorem riT{K:PySem.W.Frag}{neg:Bool}{x:V}{p:Addr}{ys:List V}{cs:List (List Int)}{c:List Int}{H:Hp}{Q:VK}(h:fT K H p ys\/fS K H p ys)(r:aP H (cs.map cD) ys)(rx:jG K H (cD c) x)(q:Q (.bl (if neg then !decide (c∈cs) else decide (c∈cs))) H):TJ K neg x (.ref p) H Q:=by
 unfold TJ;exact ⟨p,ys,cs,c,rfl,h,r,rx,q⟩
section
variable{X:Cx}
theorem aAy(K:PySem.W.Frag)(hu:X.A.units+64<cLine)(hK:X.K=K:=by rfl):pI X (compareOp .In) (TJ K false):=by
 subst hK;unfold TJ;intro pins s σ H x y v u Q I rx ry h;obtain ⟨p,ys,cs,c,rfl,hq,r,rc,q⟩:=h;cases ry;obtain ⟨as,ra⟩:=rc.reads I rx;rcases hq with hq | hq
 ·obtain ⟨its,r',pl,hz⟩:=I.list hq;refine SeqAt.in_listAt (RB H c) pl.isList (λw hw=>BC I hu ra r r' w (by simpa using hw)) ⟨.bl _,H,I,rfl,?_⟩;rw [show its.toArray.any (RB H c)=its.any (RB H c) by simp,BD r r'];exact q
 ·obtain ⟨its,r',pl,hz⟩:=I.tuple hq;refine SeqAt.in_tupleAt (RB H c) pl (λw hw=>BC I hu ra r r' w (by simpa using hw)) ⟨.bl _,H,I,rfl,?_⟩;rw [show its.toArray.any (RB H c)=its.any (RB H c) by simp,BD r r'];exact q
end
end L2
namespace HT
open PySem PySem.Spec PyProof.Rows PySem.Builtin
theorem xC:typeLookup (.type "tuple") "keys" = pure none:=am_miss_of_fast Kk
section
variable{prog:Program}{w:World}{A:Around}{E:Value->Shared->Prop}{s:Shared}
theorem KG{a:Addr}{o:Obj}{xs:Array Value}{k:Nat}{Q:Option Value->Shared->Prop}(hx:s.heap.get? a=some o)(hc:o.cls=.type "tuple")(hdat:o.data=.seq xs k)(hd:o.dict=none)(hA:A.handled=none)
  (h:∀h' tk,(∀b u,s.heap.get? b=some u->h'.get? b=some u)->Q none { s with heap:=h',toks:=tk }):wpAny (model prog w) A (getAttr? (.ref a) "keys") Q E s:=by
 obtain ⟨c,dct,dat,sl⟩:=o;simp only at hc hdat hd;subst hc hdat hd;obtain ⟨hp,g,d,tk,os⟩:=s;have hT:∀tk',(⟨hp,g,d,tk',os⟩:Shared).TypeIs (.ref a) "tuple" := λ_=>⟨_,hx,rfl⟩;have f1:=sub_AttributeError;have f3:=F.slot_tuple_getattribute.lookup;have f4:=F.slot_tuple_getattribute.bind (.ref a);have f5:=am_tuple_getattr_none;unfold getAttr? getAttrBy? getAttrBy
 repeat (any_goals (first | assumption | exact hT _ | ((with_reducible show wpAny _ _ (call (Value.builtin "tuple.__getattribute__") _ _) _ _ _);refine call_meets F.slot_tuple_getattribute (hT _) am_entry_tuple_getattribute (F.args_tuple_getattribute_2 _ _) (meets_getattribute_miss_tuple a xs k sl "keys" _ xC Dd) ⟨hx,hA,λh' tk' e hx'=>?_⟩) | wp_step))
 obtain ⟨t',u',he⟩:=hx'.there;show wpAny _ _ (getattributeRaised _ _ _ _ _ _ _) _ _ _;unfold getattributeRaised
 repeat (any_goals (first | assumption | wp_step))
 exact h _ _ hx'.keeps
end
theorem pW:entryFor table "dict.update.loop" = some Builtin.«dict.update.loop» := entryFor_of_tree (by kernel_rfl)
theorem pT:plainId "dict.update.loop" = true:=Kk
section
variable{prog:Program}{w:World}{A:Around}{E:Value->Shared->Prop}{s:Shared}{K:Type}[DecidableEq K]{knd:HeapKind prog w K}
theorem SB{d it t:Addr}{i:Nat}{items:Array Value}{R:Result->Shared->Prop}(hA:A.handled=none)(hit:s.heap.IsTupleIter it t i)(ht:s.heap.IsTuple t items)(hx:items[i]?=none)
  (h:∀h',Heap.ExtBut it s.heap h'->R (.ok (.ret .none)) { s with heap:=h' }) :
  codeAny (model prog w) A (.builtin "dict.update.loop" ⟨[.ref d,.ref it,rawInt i,.none],[]⟩) R s:=by
 refine codeAny_builtin pW ?_;rw [Around.under_plainId pT _];unfold Builtin.«dict.update.loop»;refine wpAny_bind (wpAny_pyNext_tuple_end hA hit ht hx λh' e=>?_);show wpAny _ _ (Dict.addKeywords d [] >>= λ_=>ret Value.none) _ _ _;exact wpAny_bind (wpAny_pure (wpAny_pure (h h' e)))
theorem xE{b:Addr}{its:Array Value}{Q:List Value->Shared->Prop}(hb:s.heap.IsTuple b its)(h:Q its.toList s):wpAny (model prog w) A (Dict.pairItems (.ref b)) Q E s:=by
 obtain ⟨o,ho,hc,n,hd⟩:=id hb;unfold Dict.pairItems;refine wpAny_bind (wpAny_typeOf hb.typeIs ?_);rw [if_pos Dd];exact wpAny_bind (wpAny_seqItems ho hd (wpAny_pure h))
theorem MG{d it t b a:Addr}{i:Nat}{items:Array Value}{xs:List (K × Addr × Value)}{k:K}{v:Value}{R:Result->Shared->Prop}(hu:knd.room A.in1)(hit:s.heap.IsTupleIter it t i)(ht:s.heap.IsTuple t items)(hx:items[i]?=some (.ref b))
  (hb:s.heap.IsTuple b #[.ref a,v]) (nb:b≠it) (hk:∀h',(∀c o,c≠it->s.heap.get? c=some o->h'.get? c=some o)->knd.is h' k a/\h'.DictOfH knd d xs) (nd:d≠it) (hz:xs.length<=sizeLine)
  (h:∀h1 h' tk,(∀c o,c≠it->s.heap.get? c=some o->h1.get? c=some o)->Heap.SameBut d h1 h'->h'.DictOfH knd d (storedH xs k a v)->h'.IsTupleIter it t (i+1) ->
   codeAny (model prog w) A (.builtin "dict.update.loop" ⟨[.ref d,.ref it,rawInt ((i+1:Nat):Int),.none],[]⟩) R { s with heap:=h',toks:=tk }) :
  codeAny (model prog w) A (.builtin "dict.update.loop" ⟨[.ref d,.ref it,rawInt i,.none],[]⟩) R s:=by
 refine codeAny_builtin pW ?_;rw [Around.under_plainId pT _];unfold Builtin.«dict.update.loop»;refine wpAny_bind (wpAny_pyNext_tuple_item hit ht hx λh' it' hs=>?_);have hk':∀c o,c≠it->s.heap.get? c=some o->h'.get? c=some o:=λc o hc e=>(hs.2 c hc).trans e;refine wpAny_bind (wpAny_holding ?_);refine wpAny_bind (wpAny_tryCatch ?_);have hb':h'.IsTuple b #[.ref a,v]:=by
  obtain ⟨o,ho,r⟩:=hb;exact ⟨o,hk' b o nb ho,r⟩
 refine xE (s:={ s with heap:=h' }) hb' ?_;show wpAny _ _ (holding [Value.ref a,v] (dictSet d (.ref a) v)) _ _ _;have hm':=(hk h' hk').2;refine wpAny_holding (wpAny_dictSet_heap (s:={ s with heap:=h' }) hu (hk h' hk').1 hm' (λh2 hm2 hs2=>?_) hz);refine wpAny_pure ⟨Code.quiet_builtin _ Kk,?_⟩;have hn:=h h' h2 (s.toks+knd.draws k) hk' hs2 hm2 (by
  obtain ⟨o,ho,r⟩:=it';exact ⟨o,(hs2.2 it (Ne.symm nd)).trans ho,r⟩)
 rw [show ((i+1:Nat):Int)=(i:Int)+1 from Oo] at hn;exact hn
end
end HT
namespace L2
open PySem PySem.Spec PySem.W PyProof.Rows HT
def DZ(H:Hp)(y:V)(p:List eL × V):Prop:=∃b a,y=.ref b/\H b=some (.tup [.ref a,p.2])/\H a=some (.tup (p.1.map kV))
section
variable{X:Cx}{pins:List (Addr × Obj)}{σ:St}{H:Hp}
theorem KT.isAll{P:Program}{w:World}{H:Hp}{h:Heap}(ok:nC P w H h){l:List (List eL × V)}{m:List (List eL × Addr × Value)}(q:KT H l m):∀x∈m,(tupleKind (eG P w)).is h x.1 x.2.1:=by
 unfold KT at q
 induction q with
 | nil=>intro x hx;exact nomatch hx
 | @cons p q ps qs hq t ih =>
  intro x hx;rcases aQ.mp hx with e | hx
  ·subst e;exact qF ok (by rw [<-hq.1];exact hq.2.1)
  ·exact ih x hx
theorem yP{D it t:Addr}{ys:List V}{R:Result->Shared->Prop}(hu:X.A.units+8<cLine)(hA:X.A.handled=none)(hD:H D=none)(ht:H t=some (.tup ys))(nit:it≠D) :
  ∀(rest:List (List eL × V)) (i:Nat) (kvs:List (List eL × V)) (s:Shared),cB X pins σ (upd H D (.dT kvs)) s->jQ X pins (upd H D (.dT kvs)) it->s.heap.IsTupleIter it t i->Paired (DZ H) (ys.drop i) rest->((kvs++rest).map (·.1)).Nodup->(kvs++rest).length<=1000 ->
   (∀s',cB X pins σ (upd H D (.dT (kvs++rest))) s'->R (.ok (.ret .none)) s')->codeAny (model X.prog X.w) X.A.in1 (.builtin "dict.update.loop" ⟨[.ref D,.ref it,rawInt i,.none],[]⟩) R s
 | [],i,kvs,s,I,fp,hit,pr,nd,hz,k=>by
  have ntD:t≠D:=λe=>by subst e;rw [hD] at ht;cases ht
  obtain ⟨its,r,pl,_⟩:=I.tuple (fS.of (show upd H D (.dT kvs) t=some (.tup ys) by rw [cL ntD];exact ht));have hl:ys.length<=i:=by
   generalize hq:ys.drop i=l at pr;cases pr;exact List.drop_eq_nil_iff.mp hq
  have hl2:=r.length;rw [List.append_nil] at k;refine SB hA hit pl (by rw [Array.getElem?_eq_none];simp;omega) λh' e=>k _ ?_;exact I.turnedL (t':=s.toks) (fp:=[it]) (λb o hb x=>e b o (by simpa using hb) x) (λb hb=>by
   cases (show b=it by simpa using hb);exact fp)
 | p::rest,i,kvs,s,I,fp,hit,pr,nd,hz,k=>by
  have ntD:t≠D:=λe=>by subst e;rw [hD] at ht;cases ht
  obtain ⟨its,r,pl,_⟩:=I.tuple (fS.of (show upd H D (.dT kvs) t=some (.tup ys) by rw [cL ntD];exact ht));generalize hq:ys.drop i=l at pr;cases pr with
  | @cons y _ ys' _ hy pr' =>
   obtain ⟨b,a,rfl,hb,ha⟩:=hy;have hi:i<ys.length:=by
    by_cases h:i<ys.length
    ·exact h
    ·rw [List.drop_eq_nil_iff.mpr Oo] at hq;cases hq
   have hyi:ys[i]?=some (.ref b):=by
    have:=List.drop_eq_getElem_cons hi;rw [hq] at this;injection this with h1 h2;rw [aC hi,<-h1]
   have hys':ys.drop (i+1)=ys':=by
    have:=List.drop_eq_getElem_cons hi;rw [hq] at this;injection this with h1 h2;exact h2.symm
   obtain ⟨u,hu',ru⟩:=r.get hyi;cases ru;have nbD:b≠D:=λe=>by subst e;rw [hD] at hb;cases hb
   have naD:a≠D:=λe=>by subst e;rw [hD] at ha;cases ha
   have hb2:upd H D (.dT kvs) b=some (.tup [.ref a,p.2]):=by rw [cL nbD];exact hb
   have ha2:upd H D (.dT kvs) a=some (.tup (p.1.map kV)):=by rw [cL naD];exact ha
   obtain ⟨itb,rb,plb,_⟩:=I.tuple (fS.of hb2);obtain ⟨ua,uv,rfl,ra,rv⟩:=WQ rb;cases ra;have nb:b≠it:=λe=>by have:=fp.1;rw [<-e,hb2] at this;cases this
   obtain ⟨z,hdm,xs,rel,o,es,ep,h1,h2,h3,h4,h5⟩:=(show eE X.prog X.w (upd H D (.dT kvs)) s.heap D (.dT kvs) from I.hok D _ bJ);have hturn:∀h' tk,(∀c o,c≠it->s.heap.get? c=some o->h'.get? c=some o)->cB X pins σ (upd H D (.dT kvs)) { s with heap:=h',toks:=tk }:=λh' tk kp =>
    I.turnedL (t':=tk) (fp:=[it]) (λb o hb x=>kp b o (by simpa using hb) x) (λb hb=>by
     cases (show b=it by simpa using hb);exact fp)
   have lxs:xs.length=kvs.length:=(Paired.length rel).symm;refine MG (knd:=tupleKind (eG X.prog X.w)) (xs:=xs) (k:=p.1) (v:=uv) (b:=b) (a:=a) (show _<_ by show X.A.in1.in1.units<cLine;exact bG (show X.A.in1.in1.units<=X.A.units+2 from aG _) Oo) hit pl (by simpa using hu') plb nb (λh' kp=>⟨qF (hturn h' s.toks kp).hok ha2,o,es,ep,kp D o (Ne.symm nit) h1,h2,h3,h4,KT.isAll (hturn h' s.toks kp).hok rel,h5⟩) (Ne.symm nit) Oo λhh1 hh2 tk kp hs2 hm2 hit2=>?_;have I1:=hturn hh1 s.toks kp;obtain ⟨q,es2,ep2,hq2,g2,g3,g4,_,g5⟩:=hm2;have hkn:fB kvs p.1=none:=by
    rw [bL,aW] at nd;have hnot:=(List.nodup_append.mp nd).2.2;cases hv:fB kvs p.1 with
    | none=>rfl
    | some v=>exact absurd rfl (hnot _ (GO hv) p.1 (aN ..))
   have hlp:(iW kvs p.1 p.2).length<=sizeLine:=by
    have h6:=iL kvs p.1 p.2;rw [bK,cF] at hz;have h7:(1000:Nat)<=sizeLine:=Dd;omega
   have I2:=rZ (t':=tk) (ob:=.dT (iW kvs p.1 p.2)) I1 (by rw [bJ];exact True.intro) hs2 ⟨q,hq2⟩ ⟨hlp,hdm,_,(KT.put (show KT (upd H D (.dT kvs)) kvs xs from rel) p.1 ha2 rv).keeps λc ys ec=>(by rw [cL (pU ec bJ (λz=>nomatch z))];exact ec),q,es2,ep2,hq2,g2,g3,g4,g5⟩;rw [GP,CP p.2 hkn] at I2;refine yP hu hA hD ht nit rest (i+1) (kvs++[p]) _ I2 ?_ hit2 (by rw [hys'];exact pr') (by rw [List.append_assoc];exact nd) (by rw [List.append_assoc];exact hz) (by rw [List.append_assoc];exact k);refine ⟨?_,fp.2⟩;rw [cL nit];have:=fp.1;rw [cL nit] at this;exact this
@[irreducible] def FG:List V->Hp->VK->Prop:=λxs H Q=>∃(t:Addr) (ys:List V) (kvs:List (List eL × V)),xs=[.ref t]/\H t=some (.tup ys)/\Paired (DZ H) ys kvs/\(kvs.map (·.1)).Nodup/\kvs.length<=1000/\∀D,H D=none->Q (.ref D) (upd H D (.dT kvs))
theorem QF(hu:X.A.units+64<cLine)(hc:X.calm=true):gS X (.type "dict") FG:=by
 unfold FG;intro pins s σ H xs us Q I r h;obtain ⟨t,ys,kvs,rfl,ht,pr,nd,hz,q⟩:=h;obtain ⟨u,rfl,rx⟩:=kZ r;cases rx;have hA:=I.ok.hd hc;refine callType_codes (Q₁:=λobj s₁=>obj=.ref s.heap.objs.size/\s₁={ s with heap:=s.heap.push { cls:=.type "dict",data:=.dict #[] } }) F.kt_called_dict (F.kt_typeCall_dict_1 _) F.entry_dict_init (kt_code_dict_new _ ⟨rfl,rfl⟩) ?_;rintro obj s₁ ⟨rfl,rfl⟩;have hD:=I.hok.fresh (aG s.heap.objs.size);have I1:cB X pins σ (upd H s.heap.objs.size (.dT [])) { s with heap:=s.heap.push { cls:=.type "dict",data:=.dict #[] } }:=I.laid (a:=s.heap.objs.size) (o:=.dT []) (t':=s.toks) (λ_ _ q=>aB _ q) (aG _) (wU s.heap I.big);have htD:t≠s.heap.objs.size:=λe=>by subst e;rw [hD] at ht;cases ht
 have ht1:upd H s.heap.objs.size (.dT []) t=some (.tup ys):=by rw [cL htD];exact ht
 obtain ⟨⟨zt,ot,hot,hdt⟩,itt,rt,ot',hot',hct,nt,hdd⟩:=(show eE X.prog X.w (upd H s.heap.objs.size (.dT [])) (s.heap.push { cls:=.type "dict",data:=.dict #[] }) t (.tup ys) from I1.hok t _ ht1);rw [hot] at hot';cases hot';have hnew:(s.heap.push { cls:=.type "dict",data:=.dict #[] }).DictOf (eG X.prog X.w) s.heap.objs.size []:=Heap.DictOf.new s.heap;refine ⟨hnew.typeIs,F.args_dict_init_2 _ _,?_⟩;unfold Builtin.«dict.__init__»;refine wpAny_bind ?_;unfold Builtin.Dict.selfAndRest;refine wpAny_bind (wpAny_notOrdered_dict hnew.typeIs ?_);show wpAny _ _ (pure (s.heap.objs.size,[Value.ref t])) _ _ _;refine wpAny_pure ?_;show wpAny _ _ (Builtin.Dict.updateFrom "dict.__init__" s.heap.objs.size (.ref t) [] .none) _ _ _;unfold Builtin.Dict.updateFrom;refine wpAny_bind (wpAny_typeOf (T := "tuple") ⟨_,hot,hct⟩ ?_);rw [if_pos Dd];refine wpAny_bind (KG (s:={ s with heap:=s.heap.push { cls:=.type "dict",data:=.dict #[] } }) hot hct hdd hdt hA λh' tk kp=>?_);rw [if_pos (by rfl)];refine wpAny_bind (wpAny_rule ?_);refine wpAny_bind (wpAny_pyIter_tuple (s:={ s with heap:=h',toks:=tk }) (items:=itt.toArray) ⟨ot,kp t ot hot,hct,nt,hdd⟩ ?_);refine wpAny_pure ⟨Code.quiet_builtin _ Kk,?_⟩;have I2:cB X pins σ (upd H s.heap.objs.size (.dT [])) { s with heap:=h',toks:=tk }:=I1.kept (t':=tk) kp;have I3:cB X pins σ (upd H s.heap.objs.size (.dT [])) { s with heap:=h'.push { cls:=.type "tuple_iterator",data:=.fields #[.ref t,.int 0 0] },toks:=tk }:=I2.kept (t':=tk) λb o e=>aB _ e
 have hlt:s.heap.objs.size<h'.objs.size:=by
  obtain ⟨_,_,_,hg,_⟩:=hnew;exact bD (kp _ _ hg)
 have hfr:upd H s.heap.objs.size (.dT []) h'.objs.size=none:=I2.hok.fresh (aG _);refine yP (D:=s.heap.objs.size) (it:=h'.objs.size) (t:=t) (ys:=ys) Oo hA hD ht (Nat.ne_of_gt hlt) kvs 0 [] _ I3 (I2.fpOk (aG _) hfr) ⟨_,bA _ rfl,rfl,rfl⟩ (by simpa using pr) (by simpa using nd) (by simpa using hz) λs' I'=>⟨rfl,.ref _,_,I',rfl,?_⟩;rw [List.nil_append];exact q _ hD
end
end L2
namespace HT
open PySem PySem.Spec PyProof.Rows
section
variable{prog:Program}{w:World}{A:Around}{E:Value->Shared->Prop}{s:Shared}{it d:Addr}{es:Array DictEntry}{ep i:Nat}{od:Obj}
theorem VA{Q:Option Value->Shared->Prop}(hit:s.heap.IsKeyIter it d i es.size ep)(hod:s.heap.get? d=some od)(hdd:od.data=.dict es ep)(hi:i<es.size)
  (h:∀h',h'.IsKeyIter it d (i+1) es.size ep->Heap.SameBut it s.heap h'->Q (some es[i].key) { s with heap:=h' }):wpAny (model prog w) A (pyNext (.ref it)) Q E s:=by
 obtain ⟨⟨c0,dd0,data0,sl0⟩,ho,hc,hd⟩:=id hit;simp only at hc hd;subst hc hd;have hT:=hit.typeIs;unfold pyNext;refine wpAny_bind (wpAny_attempt (wpAny_callSpecial?_slot (name:=Str.ofString "__next__") hT F.slot_dict_keyiterator_next (wpAny_call_entry F.slot_dict_keyiterator_next hT F.entry_dict_keyiterator_next ?_ (F.args_dict_keyiterator_next_1 _))));have hn:(Value.ref d == Value.none)=false:=rfl;have hown:Builtin.Dict_items.ownsTuple "dict_keyiterator" = false:=Dd
 repeat (any_goals (first | assumption | (with_reducible refine wpAny_typeNameOfWhole_keyiter hT ?_) | (with_reducible refine wpAny_isOneOf_keyiter hT ?_) | (with_reducible refine wpAny_fieldsOf ho rfl ?_) | (with_reducible refine wpAny_dictEntries hod hdd ?_) | (with_reducible refine wpAny_dictEpoch hod hdd ?_) | wp_step))
 rw [if_neg (show ¬((i:Int)<0) by omega),Int.toNat_natCast,Array.getElem?_eq_getElem hi];have hit':(s.heap.update it (Obj.mapFields (·.setIfInBounds 1 (rawInt ((i:Int)+1))))).IsKeyIter it d (i+1) es.size ep :=
  ⟨_,Heap.get?_update_self _ ho (Obj.isFreed_of_fields (Obj.data_mapFields rfl _)),(Obj.cls_mapFields ..).trans rfl,by rw [Obj.data_mapFields rfl];simp [rawInt]⟩
 have hT':({ s with heap:=s.heap.update it (Obj.mapFields (·.setIfInBounds 1 (rawInt ((i:Int)+1)))) }:Shared).TypeIs (.ref it) "dict_keyiterator" := hit'.typeIs;have hfin:=h _ hit' (Heap.SameBut.update ..)
 repeat (any_goals (first | assumption | (with_reducible refine wpAny_typeNameOfWhole_keyiter hT ?_) | (with_reducible refine wpAny_isOneOf_keyiter hT ?_) | (with_reducible refine wpAny_isOneOf_keyiter hT' ?_) | (with_reducible refine wpAny_setField ho rfl (by rw [hown];simp) ?_) | wp_step))
 exact ⟨_,rfl,wpAny_pure hfin⟩
theorem aAI{Q:Option Value->Shared->Prop}(hh:A.handled=none)(hit:s.heap.IsKeyIter it d i es.size ep)(hod:s.heap.get? d=some od)(hdd:od.data=.dict es ep)(hi:es.size<=i)
  (h:∀h',Heap.ExtBut it s.heap h'->Q none { s with heap:=h' }):wpAny (model prog w) A (pyNext (.ref it)) Q E s:=by
 obtain ⟨⟨c0,dd0,data0,sl0⟩,ho,hc,hd⟩:=id hit;simp only at hc hd;subst hc hd;have hT:=hit.typeIs;have hn:(Value.ref d == Value.none)=false:=rfl;have hown:Builtin.Dict_items.ownsTuple "dict_keyiterator" = false:=Dd;unfold pyNext;refine wpAny_bind (wpAny_attempt (wpAny_callSpecial?_slot (name:=Str.ofString "__next__") hT F.slot_dict_keyiterator_next (wpAny_call_entry F.slot_dict_keyiterator_next hT F.entry_dict_keyiterator_next ?_ (F.args_dict_keyiterator_next_1 _))))
 repeat (any_goals (first | assumption | (with_reducible refine wpAny_typeNameOfWhole_keyiter hT ?_) | (with_reducible refine wpAny_isOneOf_keyiter hT ?_) | (with_reducible refine wpAny_fieldsOf ho rfl ?_) | (with_reducible refine wpAny_dictEntries hod hdd ?_) | (with_reducible refine wpAny_dictEpoch hod hdd ?_) | wp_step))
 rw [if_neg (show ¬((i:Int)<0) by omega),Int.toNat_natCast,Array.getElem?_eq_none hi]
 repeat (any_goals (first | assumption | (with_reducible refine wpAny_typeNameOfWhole_keyiter hT ?_) | (with_reducible refine wpAny_setField ho rfl (by rw [hown];simp) ?_) | wp_step))
 simp only [raiseNew];refine wpAny_bind (wpAny_handled ?_);rw [show A.in1.handled=none from hh];refine wpAny_bind (wpAny_pure (wpAny_throw ?_));refine wpAny_bind (wpAny_isInstance (T := "StopIteration") (b:=true) ⟨_,bA _ rfl,rfl⟩ isSubtype_stop ?_);exact wpAny_pure (h _ (((Heap.SameBut.update ..).extBut.push _).push _))
theorem VC{Q:Value->Shared->Prop}(hd:(d == sysModules)=false)(hod:s.heap.get? d=some od)(hex:od.ExactDict)(hdd:od.data=.dict es ep)
  (hQ:Q (.ref s.heap.objs.size) { s with heap:=s.heap.push { cls:=.type "dict_keyiterator",data:=.fields #[.ref d,.int 0 0,.int es.size 0,.int ep 0] } }):wpAny (model prog w) A (pyIter (.ref d)) Q E s:=by
 have hT:s.TypeIs (.ref d) "dict" := ⟨od,hod,hex.1⟩;refine wpAny_pyIter_slot hT F.slot_dict_iter (wpAny_call_entry F.slot_dict_iter hT F.entry_dict_iter ?_ (F.args_dict_iter_1 _));unfold Builtin.«dict.__iter__»;refine wpAny_bind ?_;unfold Builtin.Dict.dictSlotNone;refine wpAny_bind (wpAny_notOrdered_dict hT ?_);show wpAny _ _ (pure (Value.ref d)) _ _ s;refine wpAny_pure ?_;have hm:(d == sysModules)=false:=hd
 repeat (any_goals (first | assumption | (with_reducible refine wpAny_dictEntries hod hdd ?_) | (with_reducible refine wpAny_dictEpoch hod hdd ?_) | wp_step))
 exact ⟨_,rfl, "dict_keyiterator",_,⟨_,bA _ rfl,rfl⟩,F.slot_dict_keyiterator_next.lookup,hQ⟩
end
end HT
namespace L2
open PySem PySem.Spec PySem.W PyProof.Rows HT
section
variable{X:Cx}{pins:List (Addr × Obj)}{σ:St}{H:Hp}{s:Shared}
theorem cB.freeze{D:Addr}{kvs:List (List eL × V)}(I:cB X pins σ H s)(e:H D=some (.dT kvs)):∃o,cB X pins σ (upd H D (.frz o (.dT kvs))) s:=by
 obtain ⟨z,hd,xs,rel,o,es,ep,h1,h2,h3,h4,h5⟩:=(show eE X.prog X.w H s.heap D (.dT kvs) from I.hok D _ e);refine ⟨o,?_⟩;have I2:=I.write (x:=D) (e:=D) (o:=.frz o (.dT kvs)) (h':=s.heap) (t':=s.toks) (by rw [e];exact True.intro) (.inl rfl) (λb u _ q=>q) ⟨o,h1⟩ ⟨h1,z,hd,xs,KT.keeps (show KT H kvs xs from rel) λc ys ec=>(by rw [cL (pU ec e (λz=>nomatch z))];exact ec),o,es,ep,h1,h2,h3,h4,h5⟩;exact I2
def QW(H:Hp)(D:Addr)(kvs:List (List eL × V)):Prop:=∃o,H D=some (.frz o (.dT kvs))
@[irreducible] def AN:List V->Hp->VK->Prop:=λxs H Q=>∃(t:Addr) (ys:List V) (kvs:List (List eL × V)),xs=[.ref t]/\H t=some (.tup ys)/\Paired (DZ H) ys kvs/\(kvs.map (·.1)).Nodup/\kvs.length<=1000/\∀D o,H D=none->Q (.ref D) (upd H D (.frz o (.dT kvs)))
theorem rdcz{Q:VK}{t:Addr}{ys:List V}{kvs:List (List eL × V)}(ht:H t=some (.tup ys))(pr:Paired (DZ H) ys kvs)(nd:(kvs.map (·.1)).Nodup)(hz:kvs.length<=1000)(q:∀D H',H D=none->QW H' D kvs->bF H H'->Q (.ref D) H'):AN [.ref t] H Q:=by
 unfold AN;exact ⟨t,ys,kvs,rfl,ht,pr,nd,hz,λD o hD=>q D _ hD ⟨o,bJ⟩ (bF.upd hD)⟩
theorem DT(hu:X.A.units+64<cLine)(hc:X.calm=true):gS X (.type "dict") AN:=by
 unfold AN;intro pins s σ H xs us Q I r h;obtain ⟨t,ys,kvs,rfl,ht,pr,nd,hz,q⟩:=h;refine wpAny_mono (QF hu hc pins s σ H _ us (λv H'=>∃D,v=.ref D/\H D=none/\H'=upd H D (.dT kvs)) I r (by unfold FG;exact ⟨t,ys,kvs,rfl,ht,pr,nd,hz,λD hD=>⟨D,rfl,hD,rfl⟩⟩)) (λv s' ⟨x,H',I',rx,D,e,hD,eH⟩=>?_) λ_ _ e=>e;subst e eH;cases rx;obtain ⟨o,I2⟩:=I'.freeze bJ;rw [GP] at I2;exact ⟨.ref D,_,I2,rfl,q D o hD⟩
theorem vW{α β:Type}{R:α->β->Prop}:∀{l:List α}{m:List β}{i:Nat}{a:α},Paired R l m->l[i]?=some a->∃b,m[i]?=some b/\R a b
 | _,_,i,a,.nil,h=>by simp at h
 | _,_,0,a,.cons r t,h=>by
  cases (show _=a by simpa using h);exact ⟨_,rfl,r⟩
 | _,_,i+1,a,.cons r t,h=>by
  obtain ⟨b,h1,h2⟩:=vW t (by simpa using h);exact ⟨b,by simpa using h1,h2⟩
end
section
variable{X:Cx}{tg:Expr}
end
end L2
namespace HT
open PySem PySem.Spec PyProof.Rows PySem.W
section
variable{prog:Program}{w:World}{A:Around}{d:Addr}{o:Obj}{es:Array DictEntry}{ep:Nat}
theorem IZ(hh:A.handled=none)(I:Addr)(hne:d≠I)(hdat:o.data=.dict es ep) :
  Walks prog w A I [I,d] [I] es.size (λi v=>∃hi:i<es.size,v=es[i].key) (λi h=>h.IsKeyIter I d i es.size ep/\h.get? d=some o) where
 sub:=λb hb=>by simp at hb;simp [hb]
 frame:=λ_ _ _ st hk=>⟨st.1.at λo e=>hk I (by simp) o e,hk d (by simp) o st.2⟩
 item:=λi s Q E hi st hQ=>VA st.1 st.2 hdat hi λh' hit' hs' =>
  hQ _ h' s.toks ⟨hi,rfl⟩ ⟨hit',(hs'.2 d hne).trans st.2⟩ λb o hb e=>(hs'.2 b (λh=>hb (by simp [h]))).trans e
 done:=λs Q E st hQ=>aAI hh st.1 st.2 hdat (aG _) λh' he'=>hQ h' s.toks λb o hb e=>he' b o (λh=>hb (by simp [h])) e
 self:=λ_ _ _ _ st hQ=>wpAny_pyIter_keyiter st.1 hQ
theorem VD(lo:(d == sysModules)=false)(hex:o.ExactDict)(hdat:o.data=.dict es ep):KdlSrc prog w "dict" d d es.size (λi v=>∃hi:i<es.size,v=es[i].key) (λh=>h.get? d=some o) where
 type:=λ_ hm=>⟨o,hm,hex.1⟩
 there:=λ_ hm=>⟨bD hm,bD hm⟩
 keep:=λ_ _ hm hk=>hk d (.inl rfl) o hm
 notList:=Dd
 notTuple:=Dd
 hint:=λ_ _ _ _ hm hq=>kdl_hint_dict ⟨o,hm,hex.1⟩ hq
 iter:=λA s hh hm=>⟨_,_,λE Q hQ=>VC lo hm hex hdat hQ,IZ hh _ (cJ (bD hm)) hdat,⟨_,bA _ rfl,rfl,rfl⟩,aB _ hm⟩
end
end HT
namespace L2
open PySem PySem.Spec PySem.W PyProof.Rows HT
section
variable{prog:Program}{w:World}{A:Around}{E:Value->Shared->Prop}{s:Shared}
theorem DP{T:String}{r d:Addr}{n:Nat}{P:Nat->Value->Prop}{OK:Heap->Prop}{Q:List Value->Shared->Prop}(K:KdlSrc prog w T r d n P OK)(hh:A.handled=none)(hok:OK s.heap)(hn:n<=sizeLine)
  (hQ:∀h' tk (acc':Array Value),(∀b o,s.heap.get? b=some o->h'.get? b=some o)->ItemsOf P acc' n->Q acc'.toList { s with heap:=h',toks:=tk }) :
  wpAny (model prog w) A (collect (.ref r)) Q E s:=by
 have lt:=K.there _ hok;have at0:(s.heap.push (seqObj "list" #[] 0)).get? s.heap.objs.size=some { cls:=.type "list",data:=.seq #[] 0 }:=bA _ rfl
 let G:Result->Shared->Prop:=λa z=>∃g m l e,a=.ok (.ret (.ref s.heap.objs.size))/\z={ s with heap:=g,toks:=m }/\(∀b o,s.heap.get? b=some o->g.get? b=some o)/\g.get? s.heap.objs.size=some { cls:=.type "list",dict:=none,data:=.seq l e,slots:=#[] }/\ItemsOf P l n
 have ext:=kdl_extend (A:=A) (s:={ s with heap:=s.heap.push (seqObj "list" #[] 0) }) (R:=G) K hh (K.keep _ _ hok λb _ o e=>aB _ e) s.heap.objs.size (Nat.ne_of_gt lt.1) (Nat.ne_of_gt lt.2) (.ref s.heap.objs.size) 0 at0
  (λg m l e kp at1 it=>⟨g,m,l,e,rfl,rfl,λb o z=>kp b o (cJ (bD z)) (aB _ z),at1,it⟩) hn
 unfold collect;refine wpAny_bind (wpAny_runValue (codeAny_builtin entry_proto_collect' ?_));rw [Around.under_plainId PySem.F.plain_proto_collect _];refine wpAny_bind (m:=newList []) (wpAny_newList (wpAny_pure ⟨plainId_quiet PySem.F.plain_list_iadd _,codeAny_builtin entry_list_iadd' ?_⟩));rw [Around.under_plainId PySem.F.plain_list_iadd _];refine wpAny_mono ext (λfin z y=>?_) λe z ⟨_,_,_,_,q,_⟩=>by cases q
 cases fin with
 | done f=>obtain ⟨g,m,l,e,q,rfl,kp,at1,it⟩:=y;cases q;exact wpAny_bind (wpAny_load at1 (wpAny_pure (hQ g m l kp it)))
 | again c=>exact ⟨y.1,codeAny_mono y.2 λq z ⟨g,m,l,e,eq,ez,kp,at1,it⟩=>by subst eq ez;exact wpAny_bind (wpAny_load at1 (wpAny_pure (hQ g m l kp it)))⟩
theorem EW{x:Value}{Q:Value->Shared->Prop}
  (h:wpAny (model prog w) A.in1 (collect x) (λvs s1=>∃h1 tk cs,s1={ s with heap:=h1,toks:=tk }/\(∀b o,s.heap.get? b=some o->h1.get? b=some o)/\iU h1 vs cs/\vs.length<64 /\
   ∀(p:Array Nat) (h':Heap) (D:Addr) (c:Nat),fC vs.length p->(EA vs.length (HR cs)->xN (HR cs) p vs.length)->(∀b o,h1.get? b=some o->h'.get? b=some o)->h1.objs.size<=D->h'.get? D=some (seqObj "list" (List.toArray (p.toList.map λi=>vs.getD i Value.none)) c)->Q (.ref D) { s with heap:=h',toks:=tk }) E s) :
  wpAny (model prog w) A (call (.builtin "sorted") [x]) Q E s:=by
 refine Calls.call_function_entry kind_sorted plain_sorted entry_sorted (args_sorted1 _) ?_;unfold Builtin.«sorted»;refine wpAny_bind (m:=checkCount "sorted" 1 1 _) (wpAny_pure ?_);refine wpAny_bind (wpAny_mono h (λvs s1 ⟨h1,tk,cs,e,keep1,ht,h64,q⟩=>?_) λ_ _ e=>e);subst e;refine wpAny_bind (wpAny_newList ?_ (by rw [sizeLine_eq];omega));have hoL:(h1.push (seqObj "list" vs.toArray 0)).get? h1.objs.size=some (seqObj "list" vs.toArray 0):=bA _ rfl;have keep:∀b o,h1.get? b=some o->(h1.push (seqObj "list" vs.toArray 0)).get? b=some o:=λb o q=>aB _ q;show wpAny _ _ _ _ _ { s with heap:=h1.push (seqObj "list" vs.toArray 0),toks:=tk };refine wpAny_bind (wpAny_holding (wpAny_call_entry slot_list_sort ⟨_,hoL,rfl⟩ entry_list_sort ?body (args_list_sort _)));refine JP (s:={ s with heap:=h1.push (seqObj "list" vs.toArray 0),toks:=tk }) hoL (ht.keep λb o hb _=>keep b o hb) h64 λp hp ho=>⟨_,rfl,wpAny_pure ⟨_,rfl,?_⟩⟩;unfold sortedHeap;have o1:((h1.push (seqObj "list" vs.toArray 0)).update h1.objs.size (Obj.mapSeq λ_=>#[])).get? h1.objs.size=some (seqObj "list" #[] _):=get?_update_seq hoL (λ_=>#[]);have o2:=aB (seqObj "list" #[] 0) (aB (seqObj "tuple" vs.toArray 0) o1);refine q p _ h1.objs.size _ hp ho (λb o e=>?_) (aG _) (get?_update_seq o2 λ_=>List.toArray (p.toList.map λi=>vs.getD i Value.none));have hlt:b<h1.objs.size:=bD e;have hne:b≠h1.objs.size:=cJ hlt;rw [Heap.get?_update_ne _ _ _ _ hne]
 exact aB _ (aB _ (by rw [Heap.get?_update_ne _ _ _ _ hne];exact keep b o e))
end
theorem aCg{X:Cx}{pins:List (Addr × Obj)}{σ:St}{H:Hp}{s:Shared}(I:cB X pins σ H s){d:Addr}{kvs:List (List eL × V)}(e:H d=some (.dT kvs)):(d == sysModules)=false/\(kvs.map (·.1)).Nodup/\∃o,s.heap.get? d=some o/\o.ExactDict/\∃es ep,o.data=.dict es ep/\es.size=kvs.length /\
  ∀(i:Nat) (hi:i<es.size) p,kvs[i]?=some p->∃b,es[i].key=.ref b/\H b=some (.tup (p.1.map kV)):=by
 obtain ⟨z,hd,xs,rel,o,es,ep,h1,h2,h3,h4,h5⟩:=(show eE X.prog X.w H s.heap d (.dT kvs) from I.hok d _ e);have hl:es.size=kvs.length:=by
  have:=congrArg List.length h4;rw [aA,<-Paired.length rel] at this;simpa using this
 have hk:kvs.map (·.1)=xs.map (·.1):=by
  clear h4 h5 hl e z
  induction rel with
  | nil=>rfl
  | cons r t ih=>rw [aW,aW,r.1,ih]
 refine ⟨hd,hk ▸ h5,o,h1,h2,es,ep,h3,hl,λi hi p hp=>?_⟩;obtain ⟨x,hx,r1,r2,r3⟩:=vW rel hp;have he:es.toList[i]?=some (entryOfKey (tupleKind (eG X.prog X.w)) x):=by rw [h4,aM,hx];rfl
 have he2:es[i]=entryOfKey (tupleKind (eG X.prog X.w)) x:=by
  have:es.toList[i]?=some es[i]:=by simp [hi]
  rw [this] at he;injection he
 rw [he2];exact ⟨x.2.1,rfl,r2⟩
abbrev kyI(c:List Int):List eL:=c.map Sum.inl
theorem kyV(c:List Int):(kyI c).map kV=c.map V.int:=by rw [List.map_map];rfl
@[irreducible] def AM:List V->Hp->VK->Prop:=λxs H Q=>∃(d:Addr) (kvs:List (List eL × V)) (cs:List (List Int)),xs=[.ref d]/\H d=some (.dT kvs)/\kvs.map (·.1)=cs.map kyI/\(∀c∈cs,c≠[])/\cs.length<64 /\
 ∀q (ys:List V) (ds:List (List Int)) H',ds.Perm cs->ds.Pairwise (λa b=>mU a b=true)->H q=none->H' q=some (.lst ys)->aP H' (ds.map λc=>PyData.tuple (c.map .int)) ys->bF H H'->Q (.ref q) H'
theorem rsrd{H:Hp}{Q:VK}{d:Addr}{kvs:List (List eL × V)}{cs:List (List Int)}(h:H d=some (.dT kvs))(hk:kvs.map (·.1)=cs.map kyI)(hc:∀c∈cs,c≠[])(hz:cs.length<64)
  (q:∀q (ys:List V) (ds:List (List Int)) H',ds.Perm cs->ds.Pairwise (λa b=>mU a b=true)->H q=none->H' q=some (.lst ys)->aP H' (ds.map λc=>PyData.tuple (c.map .int)) ys->bF H H'->Q (.ref q) H'):AM [.ref d] H Q:=by
 unfold AM;exact ⟨d,kvs,cs,rfl,h,hk,hc,hz,q⟩
theorem VS{X:Cx}(hc:X.calm=true):gS X (.builtin "sorted") AM:=by
 unfold AM;intro pins s σ H xs us Q I r h;obtain ⟨d,kvs,cs,rfl,hq,hk,hne,hz,q⟩:=h;obtain ⟨u,rfl,rx⟩:=kZ r;cases rx;obtain ⟨hm,hnd,o,hod,hex,es,ep,hdd,hsz,hat⟩:=aCg I hq;have lk:kvs.length=cs.length:=by have:=congrArg List.length hk;simpa using this
 refine EW (DP (VD hm hex hdd) (show X.A.in1.handled=none from I.ok.hd hc) hod (by rw [sizeLine_eq];omega) λh1 tk acc kp hacc=>?_);obtain ⟨la,hacc⟩:=hacc;have I1:cB X pins σ H { s with heap:=h1,toks:=tk }:=I.kept kp;have key:∀(n:Nat) (l:List Value),l.length=n->∀(m:List (List Int)),m.length=n->(∀(i:Nat) v c,l[i]?=some v->m[i]?=some c->∃b,v=.ref b/\H b=some (.tup (c.map V.int)))->∃ys:List V,cO ys l/\aP H (m.map λc=>PyData.tuple (c.map .int)) ys:=by
  intro n
  induction n with
  | zero =>
   intro l hl m hm _;cases l with
   | nil=>cases m with
    | nil=>exact ⟨[],.nil,aP.nil⟩
    | cons _ _=>simp at hm
   | cons _ _=>simp at hl
  | succ n ih =>
   intro l hl m hm hk;cases l with
   | nil=>simp at hl
   | cons v l=>cases m with
    | nil=>simp at hm
    | cons c m =>
     obtain ⟨b,rfl,hb⟩:=hk 0 v c rfl rfl;obtain ⟨ys,hv,hy⟩:=ih l (by simpa using hl) m (by simpa using hm) λi v p h1 h2=>hk (i+1) v p (by simpa using h1) (by simpa using h2);have rb:∀c:List Int,aP H (c.map PyData.int) (c.map V.int):=λc=>by
      induction c with
      | nil=>exact aP.nil
      | cons x c ih=>exact aP.cons (bO.int _) ih
     exact ⟨.ref b::ys,.cons rfl hv,aP.cons (bO.tup hb (rb c)) hy⟩
 have lacc:acc.toList.length=cs.length:=by rw [Array.length_toList,la,hsz,lk]
 obtain ⟨ys,hv,hy⟩:=key cs.length acc.toList lacc cs rfl λi v c e1 e2=>by
  obtain ⟨hi,e⟩:=hacc i v (by rw [<-Array.getElem?_toList];exact e1);have hp:∃p,kvs[i]?=some p/\p.1=kyI c:=by
   have:(kvs.map (·.1))[i]?=some (kyI c):=by rw [hk,aM,e2];rfl
   rw [aM] at this;obtain ⟨p,h1,h2⟩:=fR.mp this;exact ⟨p,h1,h2⟩
  obtain ⟨p,hp1,hp2⟩:=hp;obtain ⟨b,k1,k2⟩:=hat i hi p hp1;rw [hp2,kyV] at k2;exact ⟨b,by rw [e,k1],k2⟩
 have hnd2:cs.Nodup:=by
  rw [hk] at hnd;exact List.Pairwise.of_map _ (λa b h e=>h (by rw [e])) hnd
 have lys:ys.length=cs.length:=by rw [hy.len,aA]
 refine ⟨h1,tk,cs,rfl,kp,GS I1 hy hne hv,Oo,λpm h' D c hg ho keep hD hget=>?_⟩;have hperm:pm.toList.Perm (List.range cs.length):=by
  have:=(Array.perm_iff_toList_perm.mp hg);rw [<-lacc];simpa using this
 have hlt:∀i∈pm.toList,i<ys.length:=λi hi=>by
  have:=hperm.mem_iff.mp hi;rw [lys];simpa using this
 have hl2:(pm.toList.map λi=>ys.getD i .non).length=cs.length:=by rw [aA,hperm.length_eq,cX]
 have hn:=I1.hok.fresh hD;have sm:bF H (upd H D (.lst (pm.toList.map λi=>ys.getD i .non))):=bF.upd hn;refine ⟨.ref D,upd H D (.lst (pm.toList.map λi=>ys.getD i .non)),I1.laid (t':=tk) keep hD ⟨by rw [hl2,sizeLine_eq];omega,_,c,GN hv _ hlt,hget⟩,rfl,?_⟩;have ha:=ho (lacc ▸ aAw hnd2);have hsz2:=hg.size;have hpm:(pm.toList.map λi=>cs.getD i []).Perm cs:=by
  have h1:=hperm.map λi=>cs.getD i [];have e:(List.range cs.length).map (λi=>cs.getD i [])=cs:=by
   apply List.ext_getElem?;intro i;rw [aM];by_cases hi:i<cs.length
   ·rw [dN hi,aC hi,Option.map_some,aS,aC hi];rfl
   ·rw [gA (by simpa using hi),gA Oo];rfl
  rwa [e] at h1
 refine q D _ (pm.toList.map λi=>cs.getD i []) _ hpm ?_ hn bJ ?_ sm
 ·rw [List.pairwise_map,List.pairwise_iff_getElem];intro i j hi hj hij;have hi':i<pm.size:=by simpa using hi
  have hj':j<pm.size:=by simpa using hj
  have e1:pm.toList[i]=pm.getD i 0:=by rw [Array.getElem_toList];exact (by simp [Array.getD,hi']:pm.getD i 0=pm[i]).symm
  have e2:pm.toList[j]=pm.getD j 0:=by rw [Array.getElem_toList];exact (by simp [Array.getD,hj']:pm.getD j 0=pm[j]).symm
  rw [e1,e2];exact ha i j hij (by rw [<-hsz2];exact hj')
 ·have rep:∀ix:List Nat,(∀i∈ix,i<cs.length)->aP H ((ix.map λi=>cs.getD i []).map λc=>PyData.tuple (c.map .int)) (ix.map λi=>ys.getD i .non):=λix=>by
   induction ix with
   | nil=>exact λ_=>aP.nil
   | cons i ix ih =>
    intro h;have hi:=h i (aN ..);have hd:(cs.map λc=>PyData.tuple (c.map .int))[i]?=some (PyData.tuple ((cs.getD i []).map .int)):=by
     rw [aM,aS,aC hi];rfl
    obtain ⟨x,hx,rx⟩:=hy.get' hd;have e2:ys.getD i .non=x:=by rw [aS,hx];rfl
    refine aP.cons ?_ (ih λj hj=>h j (aH _ hj));show bO H _ (ys.getD i .non);rw [e2];exact rx
  exact (rep pm.toList λi hi=>by rw [<-lys];exact hlt i hi).same sm
end L2
namespace HT
open PySem PySem.Spec PyProof.Rows PySem.W
section
variable{prog:Program}{w:World}{A:Around}{E:Value->Shared->Prop}{s:Shared}{it d:Addr}{es:Array DictEntry}{ep i:Nat}{od:Obj}
end
end HT
namespace L2
open PySem PySem.Spec PySem.W PyProof.Rows HT
section
variable{X:Cx}{tg:Expr}
end
theorem QW.get{H:Hp}{d b:Addr}{kvs:List (List eL × V)}{k:List eL}(h:QW H d kvs)(hb:H b=some (.tup (k.map kV))):nH H d (.ref b) (fB kvs k):=by
 obtain ⟨o,h⟩:=h;exact .inr ⟨kvs,k,b,.inr ⟨o,h⟩,rfl,hb,rfl⟩
section
variable{X:Cx}{o e:Expr}{apos cpos:Pos}{td ty:TE}
end
@[irreducible] def HH(K:PySem.W.Frag):List V->Hp->VK->Prop:=λxs H Q=>∃(p:Addr) (ns:List Int),xs=[.ref p]/\fT K H p (ns.map V.int)/\0<ns.length/\∀M,M∈ns->(∀a,a∈ns->a<=M)->Q (.int M) H
theorem rmxl{K:PySem.W.Frag}{H:Hp}{Q:VK}{p:Addr}{ns:List Int}(h:fT K H p (ns.map V.int))(hn:0<ns.length)(q:∀M,M∈ns->(∀a,a∈ns->a<=M)->Q (.int M) H):HH K [.ref p] H Q:=by
 unfold HH;exact ⟨p,ns,rfl,h,hn,q⟩
theorem VT{X:Cx}(K:PySem.W.Frag)(hc:X.calm=true)(hK:X.K=K:=by rfl):gS X (.builtin "max") (HH K):=by
 subst hK;unfold HH;intro pins s σ H xs us Q I r h;obtain ⟨p,ns,rfl,hq,hn,q⟩:=h;obtain ⟨u,rfl,rx⟩:=kZ r;cases rx;obtain ⟨its,r',pl,hz⟩:=I.list hq;have hi:=qI r';obtain ⟨zs,e⟩:=hi.allInts.items;have hns:ns=zs.toList.map (·.1):=by rw [<-hi.numsOf,<-nums_intItems,<-e]
 have hsz:0<zs.size:=by rw [hns,aA,Array.length_toList] at hn;exact hn
 rw [e] at pl;refine max_intList (I.ok.hd hc) pl.isList hsz λv h' tk hv hk=>?_;obtain ⟨t,rfl⟩:=intItems_at hv;obtain ⟨h1,h2⟩:=argBest_gt (numAt zs) (zs.size-1);refine ⟨.int _,H,I.kept hk,⟨t,rfl⟩,q _ ?_ λa ha=>?_⟩
 ·rw [hns,numAt_eq];exact getD_mem (by rw [aA,Array.length_toList];omega)
 ·rw [hns] at ha;obtain ⟨j,hj,rfl⟩:=mem_getD ha;rw [aA,Array.length_toList] at hj;rw [<-numAt_eq];exact h2 j Oo
end L2
namespace L2
open PySem
section
variable{js:List Nat}{te:TE}{tc:TT}{σ:St}{H:Hp}{Q:VK}
end
end L2
namespace L2
open PySem PySem.Spec PyProof.Rows
section
variable{X:Cx}{pins:List (Addr × Obj)}{σ:St}{H:Hp}{s:Shared}{scope:Scope}{x x2:Str}{N':List Str}{js:List Nat}{fp:List Addr}
end
section
variable{X:Cx}{pins:List (Addr × Obj)}{σ:St}{H:Hp}{s:Shared}{scope:Scope}{x:Str}{N':List Str}{js:List Nat}{fp:List Addr}{elt iter:Expr}{px pos:Pos}{tg:Expr}{x2:Str}{te:TE}
end
section
variable{X:Cx}{scope:Scope}{x x2 y:Str}{N':List Str}{js:List Nat}{elt iter tg:Expr}{py pos spos:Pos}{te:TE}{wi:TI}{i:Nat}
end
end L2
namespace HT
open PySem PySem.Spec PyProof.Rows
section
variable{prog:Program}{w:World}{A:Around}{E:Value->Shared->Prop}{s:Shared}{d:Addr}{o:Obj}{es:Array DictEntry}{ep:Nat}
end
end HT
namespace L2
open PySem PySem.Spec PySem.W PyProof.Rows HT
theorem wI(c:List Int):(c.map (Sum.inl:Int->eL)).map kV=c.map V.int:=by rw [List.map_map];rfl
abbrev kT(c:List Int):List eL:=c.map Sum.inl
theorem wJ{a b:List Int}(h:kT a=kT b):a=b:=by
 have:∀{a b:List Int},kT a=kT b->a=b:=by
  intro a
  induction a with
  | nil=>intro b h;cases b with
   | nil=>rfl
   | cons _ _=>cases h
  | cons x a ih=>intro b h;cases b with
   | nil=>cases h
   | cons y b =>
    injection h with h1 h2;injection h1 with h1;rw [h1,ih h2]
 exact this h
section
variable{X:Cx}{o e f k v:Expr}{apos cpos pos:Pos}{td ty tx tk tv:TE}
@[irreducible] def TM(p:Addr)(x y:V)(H2:Hp)(Q:VK):Prop:=∃b k,x=.ref b/\H2 b=some (.tup (k.map kV))/\H2 p=some (.dT [])/\Q (.ref p) (upd H2 p (.dT [(k,y)]))
def YN(tk tv:TE):TE:=λσ H Q=>∀p,H p=none->tk σ (upd H p (.dT [])) λx H1=>tv σ H1 λy H2=>TM p x y H2 Q
theorem aCM{p b:Addr}{y:V}{H:Hp}{Q:VK}{c:List Int}(hb:H b=some (.tup (c.map V.int)))(hp:H p=some (.dT []))(q:∀H',H' p=some (.dT [(kT c,y)])->aK p H H'->Q (.ref p) H'):TM p (.ref b) y H Q:=by
 unfold TM;exact ⟨b,kT c,rfl,by rw [wI];exact hb,hp,q _ bJ aK.self⟩
theorem MB(hu:X.A.units+1<cLine)(hk:fG X k tk)(hv:fG X v tv):fG X (.Dict [some k] [v] pos) (YN tk tv):=⟨by
 intro pins s σ H Q I q;have hn:=I.hok.fresh (aG s.heap.objs.size);have I1:=I.laid (a:=s.heap.objs.size) (o:=.dT []) (h':=s.heap.push { cls:=.type "dict",data:=.dict #[] }) (t':=s.toks) (λ_ _ q=>aB _ q) (aG _) (wU s.heap I.big);refine wpAny_Dict_any rfl rfl (by simp) (show 1<=15 by decide) (pairTrees_cons_walk (thn (hk.p pins _ σ _ _ I1 (q _ hn)) λu s1 ⟨x,H1,I1,rx,q1⟩=>thn (hv.p pins s1 σ H1 _ I1 q1) λw2 s2 ⟨y,H2,I2,ry,q2⟩=>pairTrees_nil_walk ?_));unfold TM at q2;obtain ⟨b,kk,rfl,eb,e,q3⟩:=q2;cases (show u=Value.ref b from rx);obtain ⟨z,hd,xs,rel,dd⟩:=XX I2.hok e;unfold storeAll;rw [List.forIn_cons];refine wpAny_bind (wpAny_bind (wpAny_dictSet_heap (show X.A.units<cLine by omega) (qF I2.hok eb) dd (λh' dd' hs=>wpAny_pure ?_) (by rw [<-Paired.length rel];exact z)));dsimp only;rw [List.forIn_nil];refine wpAny_pure ?_;obtain ⟨q,es,ep,hq,h2,h3,h4,_,h5⟩:=dd';refine ⟨.ref _,_,?_,rfl,q3⟩;have hl:([(kk,y)]:List (List eL × V)).length<=sizeLine:=by show 1<=sizeLine;decide
 refine rZ I2 (by rw [e];exact True.intro) hs ⟨q,hq⟩ ⟨hl,hd,_,(rel.put kk eb ry).keeps λc ys ec=>?_,q,es,ep,hq,h2,h3,h4,h5⟩;rw [cL (pU ec e (λz=>nomatch z))];exact ec⟩
theorem RZ(hu:X.A.units+1<cLine)(ho:fG X o td)(he:fG X e ty)(hf:fG X f tx)(base:attributeBase o "get" X.env (eval o X.env)=eval o X.env:=by rfl)
  (few:((backTo cpos (starEach [e,f] X.env)).all (λx=>!x.1)&&(backToKw cpos (keywordEach [] X.env)).all (λx=>x.1.isSome)&&decide (([e,f]:List Expr).length+([]:List Keyword).length+(if ([]:List Keyword).isEmpty then 0 else 1)<30))=true:=by rfl)
  (line:(apos.endLine == cpos.line)=true:=by rfl) (trees:backTo cpos (starEach [e,f] X.env)=[(false,eval e X.env),(false,eval f X.env)]:=by rfl):fG X (.Call (.Attribute o "get" apos) [e,f] [] cpos) (MM td ty tx):=⟨NX hu ho.p he.p hf.p ⟨base,few,line,trees⟩⟩
end
theorem dpT{H:Hp}{p b:Addr}{kvs:List (List eL × V)}{c:List Int}{v:V}{D:tU}{σ:St}(e:H p=some (.dT kvs))(eb:H b=some (.tup (c.map V.int)))(hl:kvs.length<=100000)(q:∀H',H' p=some (.dT (iW kvs (kT c) v))->aK p H H'->D.nx σ H') :
  rDP D σ (.ref p) (.ref b) v H:=by
 unfold rDP;exact ⟨p,_,rfl,BO.t (k:=kT c) e (by rw [wI];exact eb) (bG hl Dd),q _ bJ aK.self⟩
theorem nH.ct{H:Hp}{p b:Addr}{kvs:List (List eL × V)}{c:List Int}(e:H p=some (.dT kvs))(eb:H b=some (.tup (c.map V.int))):nH H p (.ref b) (fB kvs (kT c)):=nH.t e (by rw [wI];exact eb)
theorem dgT{H:Hp}{p b:Addr}{kvs:List (List eL × V)}{c:List Int}{v:V}{Q:VK}(e:H p=some (.dT kvs))(eb:H b=some (.tup (c.map V.int)))(hv:fB kvs (kT c)=some v)(q:Q v H):XI (.ref p) (.ref b) H Q:=by
 unfold XI;exact ⟨p,v,rfl,hv ▸ nH.ct e eb,q⟩
theorem QW.ct{H:Hp}{d b:Addr}{kvs:List (List eL × V)}{c:List Int}(h:QW H d kvs)(hb:H b=some (.tup (c.map V.int))):nH H d (.ref b) (fB kvs (kT c)):=h.get (by rw [wI];exact hb)
theorem dgZ{H:Hp}{p b:Addr}{kvs:List (List eL × V)}{c:List Int}{v:V}{Q:VK}(e:QW H p kvs)(eb:H b=some (.tup (c.map V.int)))(hv:fB kvs (kT c)=some v)(q:Q v H):XI (.ref p) (.ref b) H Q:=by
 unfold XI;exact ⟨p,v,rfl,hv ▸ e.ct eb,q⟩
theorem xF{kvs:List (List eL × V)}{k:List eL}{v:V}(h:(fB kvs k).isSome=true):(iW kvs k v).map (·.1)=kvs.map (·.1):=by
 unfold iW;rw [jL,if_pos h,List.map_map];refine dE λp _=>?_;show (if p.1=k then (p.1,v) else p).1=p.1;split <;> rfl
end L2
namespace L2
open PySem PySem.Spec PyProof.Rows
structure fH(X:Cx)(scope:Scope)(xs:List Str)(N':List Str)(js:List Nat):Prop where
 calm:X.calm=true
 free:∀y∈scope.names,y.2=.free->X.env.kindOf y.1=some .cell
 cell:∀y∈scope.names,y.2 ≠ .cell
 kind:scope.kind=.function
 names:∀y∈scope.names,y.2=.local->scope.names.lookup y.1=some .local
 own:∀x∈xs,scope.names.lookup x=some .local
 nofl:∀y,(y,NameKind.free)∈scope.names->scope.names.lookup y=some .local->False
 len:N'.length=xs.length+js.length
 pre:∀(i:Nat) x,xs[i]?=some x->N'[i]?=some x
 nd:N'.Nodup
 slot:∀(i:Nat) (j:Nat),js[i]?=some j->∃y,N'[xs.length+i]?=some y/\X.N[j]?=some y/\(y,NameKind.free)∈scope.names
def BA:Nat->Nat->QR
 | _,0=>aAU
 | i,n+1=>PB (yM i) (BA (i+1) n)
def gN(K:PySem.W.Frag)(n:Nat):TG:=aAT K n (BA 0 n)
theorem wN{H:Hp}{r:St}{Q:St->Hp->Prop}:∀(vs:List V) (pre os:St),os.length=vs.length->Q (pre++(vs.map some++r)) H->BA pre.length vs.length vs (pre++(os++r)) H Q
 | [],pre,[],_,q=>⟨rfl,q⟩
 | v::vs,pre,o::os,hl,q=>by
  refine ⟨v,vs,rfl,?_⟩;show BA (pre.length+1) vs.length vs ((pre++(o::os++r)).set pre.length (some v)) H Q;have e1:(pre++(o::os++r)).set pre.length (some v)=(pre++[some v])++(os++r):=by
   rw [List.set_append_right _ _ (aG _),Nat.sub_self,List.append_assoc];rfl
  have e2:pre.length+1=(pre++[some v]).length:=by rw [bK];rfl
  rw [e1,e2];refine wN vs (pre++[some v]) os (by simpa using hl) ?_;rw [List.append_assoc];exact q
@[irreducible] def zM(K:PySem.W.Frag)(n:Nat)(J:It)(σ:St)(js:List Nat)(tc:TT)(te:TE)(H1:Hp)(Q:VK):Prop:=∀D,H1 D=none->∃W:Nat->Nat->List V->Hp->Prop,(∃m,W 0 m [] (upd H1 D (.lst []))) /\
 ∀i m ys H2,W i m ys H2->H2 D=some (.lst ys)/\((J.stop i H2/\Q (.ref D) H2)\/(J.go i H2/\ys.length<sizeLine/\∀x H3,J.yld i H2 x H3->∃a vs,x=.ref a/\fS K H3 a vs/\vs.length=n /\
  qP tc (vs.map some++slots σ js) H3 λb H4=>if b=true then zY te (vs.map some++slots σ js) H4 λy H5=>H5 D=some (.lst ys)/\∃m',m' < m/\W (i+1) m' (ys++[y]) (upd H5 D (.lst (ys++[y])))
   else H4 D=some (.lst ys)/\∃m',m' < m/\W (i+1) m' ys H4))
def EM(K:PySem.W.Frag)(n:Nat)(wi:TI)(js:List Nat)(tc:TT)(te:TE):TE:=λσ H Q=>wi σ H λJ H1=>zM K n J σ js tc te H1 Q
section
variable{X:Cx}{pins:List (Addr × Obj)}{σ:St}{H:Hp}{s:Shared}{scope:Scope}{xs:List Str}{N':List Str}{js:List Nat}{fp:List Addr}
theorem fH.cells(S:fH X scope xs N' js)(ok:X.Ok):∀y∈scope.names,y.2=.free->∃c,X.env.cells.lookup y.1=some c:=λy hy hf=>ok.has _ (.inl (S.free y hy hf))
theorem VO(S:fH X scope xs N' js)(I:cB X pins σ H s)(hf:∀b∈fp,jQ X pins H b)(hb:∀b∈fp,b<s.heap.objs.size):(mC X scope s.heap.objs.size fp s H N').Ok where
 mod:=I.ok.mod
 kind:=S.kind
 glob:=I.ok.glob
 blt:=I.ok.blt
 above:=aG _
 inj:=λy z c h1 h2=>I.ok.inj y z c (gP (S.cells I.ok) h1) (gP (S.cells I.ok) h2)
 has:=λy hy=>by
  have hm:(y,NameKind.free)∈scope.names:=by
   rcases hy with hy | hy
   ·exact iB (env:=X.env) hy (.inl rfl) S.cell
   ·exact iB (env:=X.env) hy (.inr rfl) S.cell
  obtain ⟨c,hc⟩:=S.cells I.ok _ hm rfl;exact ⟨c,mE (S.cells I.ok) hm hc⟩
 cab:=λ_ _ h=>by cases h
 hd:=λ_=>I.ok.hd S.calm
 frames:=I.ok.frames
 stk:=.inl rfl
 exf:=λb hb'=>⟨λe=>by have:=hb b hb';rw [e] at this;exact cQ _ this,λy c h=>(hf b hb').2.2.2.2.1 y c (gP (S.cells I.ok) h)⟩
 bs:=I.bs
 bsz:=bC I.ok.bsz I.sz
 noex:=λb o e hb'=>by
  rcases (hf b hb').2.2.2.1 with h | h
  ·exact I.ok.noex b o e h
  ·exact absurd (aT (bD e) (bC I.ok.bsz h)) (cQ _)
 exfs:=λb hb' hs=>by
  have h2:=I.stkSub b hs;rcases aQ.mp h2 with h2 | h2
  ·exact (hf b hb').2.1 h2
  ·exact (hf b hb').2.2.1 h2
 funs:=I.stack
 frf:=I.stkFree
theorem PV{h':Heap}{tk:Nat}(S:fH X scope xs N' js)(I:cB X pins σ H s)(hf:∀b∈fp,jQ X pins H b)(hb:∀b∈fp,b<s.heap.objs.size)
  (hn:h'.Ns s.heap.objs.size (λ_=>none)) (hk:∀b o,s.heap.get? b=some o->h'.get? b=some o):cB (mC X scope s.heap.objs.size fp s H N') [] (List.replicate xs.length none++slots σ js) H { s with heap:=h',toks:=tk } where
 ok:=VO S I hf hb
 os:=rfl
 bare:=I.bare
 base:=Un.kept hk
 loc:=by
  refine ⟨_,hn,λi y v hi hv hvis=>?_⟩;by_cases hlt0:i<xs.length
  ·rw [List.getElem?_append_left (by rw [dP];exact hlt0),List.getElem?_replicate,if_pos hlt0] at hv;cases hv
  ·obtain ⟨i,rfl⟩:∃k,i=xs.length+k:=⟨i-xs.length,Oo⟩;rw [List.getElem?_append_right (by rw [dP];omega),dP,Nat.add_sub_cancel_left] at hv;have hv':(slots σ js)[i]?=some (some v):=hv;have hlt:i<js.length:=by
    have:=(aL.mp hv').1;unfold slots at this
    rwa [aA] at this
   have hj:js[i]?=some js[i]:=aC hlt;obtain ⟨z,h1,h2,h3⟩:=S.slot i _ hj;have hzy:z=y:=by
    have:N'[xs.length+i]?=some y:=hi;rw [h1] at this;cases this;rfl
   subst hzy;rw [xY hj] at hv';have hσ:σ[js[i]]?=some (some v):=by
    cases q:σ[js[i]]? with
    | none=>rw [q] at hv';cases hv'
    | some o=>rw [q] at hv';cases hv';rfl
   have hkc:X.env.kindOf z=some .cell:=S.free _ h3 rfl;obtain ⟨m,hm,hl⟩:=I.loc;obtain ⟨u,ru,lk⟩:=hl _ z v h2 hσ (.inr (.inl hkc));rcases lk with ⟨hk1,_⟩ | ⟨_,c,hc,hcell⟩
   ·rw [hkc] at hk1;cases hk1
   ·refine ⟨u,ru,.inr ⟨?_,c,mE (S.cells I.ok) h3 hc,?_⟩⟩
    ·rcases hvis with hvis | hvis | hvis
     ·exfalso;have hcl:=mE (S.cells I.ok) h3 hc;have hm2:=mT (l:=(relabel scope X.env).names) hvis;unfold relabel at hm2;obtain ⟨⟨n,k⟩,hmem,he⟩:=aU.mp hm2;dsimp only at he;by_cases hq:(k == NameKind.free&&X.env.scope.kind == .function&&X.env.kindOf n == some .cell)=true
      ·rw [if_pos hq] at he;cases he
      ·rw [if_neg hq] at he;cases he;have:=S.names _ hmem rfl;have l2:=mR h3;obtain ⟨c',l2⟩:=l2;dsimp only at this;rw [this] at l2;have key:(relabel scope X.env).names.lookup z=some .local:=lookup_relabel_local this;have hck:scope.names.lookup z=some .local:=this;exact S.nofl z h3 hck
     ·exact .inl hvis
     ·exact .inr hvis
    ·obtain ⟨o,e,r⟩:=hcell;exact ⟨o,hk _ _ e,r⟩
 cell:=λy c h=>by
  obtain ⟨v,o,e,r⟩:=I.cell y c (gP (S.cells I.ok) h);exact ⟨v,o,hk _ _ e,r⟩
 free:=I.hok.fresh (aG _)
 freeC:=λy c h=>I.freeC y c (gP (S.cells I.ok) h)
 pin:=λp hp=>by cases hp
 hok:=I.hok.kept hk
 len:=by
  rw [bK,dP];unfold slots;rw [aA];exact S.len.symm
theorem KR{H2:Hp}{σ':St}{s2:Shared}{h'':Heap}(S:fH X scope xs N' js)(I:cB X pins σ H s)(hf:∀b∈fp,jQ X pins H b)
  (J:cB (mC X scope s.heap.objs.size fp s H N') [] σ' H2 s2) (hs:Heap.SameBut s.heap.objs.size s2.heap h''):cB X pins σ H2 { s2 with heap:=h'' }:=by
 have hC:H2 s.heap.objs.size=none:=J.free;have ne:∀{b:Addr} {o:Obj},s.heap.get? b=some o->b≠s.heap.objs.size:=λe q=>by
  have:=bD e;rw [q] at this;exact cQ _ this
 refine I.call' (s':={ s2 with heap:=h'' }) (ch:=fp) (by rw [show ({ s2 with heap:=h'' }:Shared).os=s2.os from rfl];exact J.os) ?_ (J.hok.but hC λb u hb q=>hs.extBut b u hb q) J.bare λb hb=>⟨(hf b hb).2.2.2.1,(hf b hb).2.1,(hf b hb).2.2.2.2.1,(hf b hb).2.2.2.2.2⟩;have U:=J.base;exact {
  keep:=λb o e n h1 h2=>hs.extBut b o (ne e) (U.keep b o e n h1 h2)
  slot:=λb o e n h1 h2=>by
   obtain ⟨sl,q⟩:=U.slot b o e n h1 h2;exact ⟨sl,hs.extBut b _ (ne e) q⟩
  free:=U.free
  there:=λb o e h2=>by
   obtain ⟨o',q⟩:=U.there b o e h2;exact ⟨o',hs.extBut b _ (ne e) q⟩
  tups:=U.tups
  frzs:=U.frzs
  tbls:=U.tbls }
end
section
variable{X:Cx}{pins:List (Addr × Obj)}{σ:St}{H:Hp}{s:Shared}{scope:Scope}{xs:List Str}{N':List Str}{js:List Nat}{fp:List Addr}{elt iter:Expr}{px pos:Pos}{tg:Expr}{ifs:List Expr}{tc:TT}{te:TE}
theorem DO{J:It}{it:Addr}{tn:Nat->Heap->Prop}{RR:Value->Addr->Result->Shared->Prop}{E:Value->Shared->Prop}{Q:VK}
  (S:fH X scope xs N' js) (I:cB X pins σ H s) (T:GC X.prog X.w X.K tg J fp it tn) (h0:tn 0 s.heap) (hf:∀b∈fp,jQ X pins H b)
  (hg:∀C fp s₀ H₀,PG (mC X scope C fp s₀ H₀ N') tg (gN X.K xs.length)) (ht:∀C fp s₀ H₀,RE (mC X scope C fp s₀ H₀ N') ifs tc) (he:∀C fp s₀ H₀,PE (mC X scope C fp s₀ H₀ N') elt te)
  (R:∀D,H D=none->∃W:Nat->Nat->List V->Hp->Prop,(∃m,W 0 m [] (upd H D (.lst []))) /\
   ∀i m ys H2,W i m ys H2->H2 D=some (.lst ys)/\((J.stop i H2/\Q (.ref D) H2)\/(J.go i H2/\ys.length<sizeLine/\∀x H3,J.yld i H2 x H3->∃a vs,x=.ref a/\fS X.K H3 a vs/\vs.length=xs.length /\
    tc (vs.map some++slots σ js) H3 λb H4=>if b=true then te (vs.map some++slots σ js) H4 λy H5=>H5 D=some (.lst ys)/\∃m',m' < m/\W (i+1) m' (ys++[y]) (upd H5 D (.lst (ys++[y])))
     else H4 D=some (.lst ys)/\∃m',m' < m/\W (i+1) m' ys H4)))
  (hRR:∀(D:Addr) (H3:Hp) (s3:Shared) (σ':St) (H':Hp) (s':Shared),cB X pins σ H3 s3->(∀b∈fp,jQ X pins H3 b)->cB (mC X scope s3.heap.objs.size fp s3 H3 N') [] σ' H' s'->Q (.ref D) H'->RR (.ref D) s3.heap.objs.size (.ok .next) s') :
  wpAny (model X.prog X.w) X.A (newList []) (λacc s₃=>wpAny (model X.prog X.w) X.A (newFunctionEnv scope X.env.globals (FZ X scope) [] X.env.qual none .none (some X.env)) (λcenv s₄ =>
   codeAny (model X.prog X.w) X.A (.compStart (.ListComp elt [⟨tg,iter,ifs,0⟩] scope pos) 0 (.ref it) acc { cenv with scope:=relabel scope X.env }) (RR acc cenv.locals) s₄) E s₃) E s:=by
 have hb:∀b∈fp,b<s.heap.objs.size:=λb hb=>by
  obtain ⟨o,e,_⟩:=T.obj 0 _ h0 b hb;exact bD e
 refine wpAny_newObj_type (wpAny_newFunctionEnv S.cell (by intro y hy;simp at hy) (λh₁ hns₁ hsb₁=>?_) S.kind);have hDn:H s.heap.objs.size=none:=I.hok.fresh (aG _);obtain ⟨W,⟨m0,hw0⟩,hW⟩:=R _ hDn;have I3:cB X pins σ (upd H s.heap.objs.size (.lst [])) { s with heap:=s.heap.push { cls:=.type "list",dict:=none,data:=.seq ([]:List Value).toArray } }:=I.lnew (its:=[]) (ys:=[]) (t':=s.toks) .nil (cV _);have hf3:∀b∈fp,jQ X pins (upd H s.heap.objs.size (.lst [])) b:=λb hb' =>
  ⟨by rw [cL (λe=>by have:=hb b hb';rw [e] at this;exact cQ _ this)];exact (hf b hb').1,(hf b hb').2⟩
 have hb3:∀b∈fp,b<(s.heap.push { cls:=.type "list",dict:=none,data:=.seq ([]:List Value).toArray }).objs.size:=λb hb'=>by
  rw [fZ];exact Nat.lt_succ_of_lt (hb b hb')
 have hkeep:∀b o,(s.heap.push { cls:=.type "list",dict:=none,data:=.seq ([]:List Value).toArray }).get? b=some o->h₁.get? b=some o:=λb o e =>
  hsb₁.extBut b o (λq=>by have:=bD e;rw [q] at this;exact cQ _ this) (aB _ e)
 have J4:=PV (h':=h₁) (tk:=s.toks+([]:List (Str × Value)).length) S I3 hf3 hb3 hns₁ hkeep;have t4:tn 0 h₁:=T.keep 0 _ _ h0 λb hb' o e=>hkeep b o (aB _ e);have loop:codeAny (model X.prog X.w) X.A (.compLoop (.ListComp elt [⟨tg,iter,ifs,0⟩] scope pos) 0 (.ref it) (.ref s.heap.objs.size) (compEnvC scope (FZ X scope) (s.heap.push { cls:=.type "list",dict:=none,data:=.seq ([]:List Value).toArray }).objs.size X.env))
   (RR (.ref s.heap.objs.size) (s.heap.push { cls:=.type "list",dict:=none,data:=.seq ([]:List Value).toArray }).objs.size) { s with heap:=h₁,toks:=s.toks+([]:List (Str × Value)).length }:=by
  refine sB (λn s'=>∃(i:Nat) (ys:List V) (H2:Hp) (os:St),os.length=xs.length/\cB (mC X scope _ fp _ _ N') [] (os++slots σ js) H2 s'/\tn i s'.heap/\(∀b∈fp,H2 b=none)/\W i n ys H2) ?_ m0 ⟨0,[],_,_,dP,J4,t4,λb hb'=>(hf3 b hb').1,hw0⟩;rintro n s' ⟨i,ys,H2,os,hos,J2,t2,f2,w2⟩;obtain ⟨hD,hcase⟩:=hW i n ys H2 w2;have Fp:∀b∈fp,jQ (mC X scope (s.heap.push { cls:=.type "list",dict:=none,data:=.seq ([]:List Value).toArray }).objs.size fp { s with heap:=s.heap.push { cls:=.type "list",dict:=none,data:=.seq ([]:List Value).toArray } } (upd H s.heap.objs.size (.lst [])) N') [] H2 b:=λb hb' =>
   ⟨f2 b hb',(J2.ok.exf b hb').1,J2.ok.exfs b hb',.inl hb',(J2.ok.exf b hb').2,λp hp=>by cases hp⟩
  rcases hcase with ⟨hstop,hq⟩ | ⟨hgo,hz,hturn⟩
  ·refine wpAny_mono (T.done (mC X scope _ fp _ _ N') rfl rfl rfl rfl i [] s' _ H2 RF J2 Fp t2 hstop) (λr s1 ⟨hr,J5⟩=>?_) λ_ _ f=>f;subst hr;exact hRR _ _ _ _ _ _ I3 hf3 J5 hq
  ·refine wpAny_mono (T.item (mC X scope _ fp _ _ N') rfl rfl rfl rfl i [] s' _ H2 RF J2 Fp t2 hgo) (λr s1 ⟨u,hr,hx⟩=>?_) λ_ _ f=>f;subst hr;refine wpAny_mono hx (λ_ s2 ⟨v,H3,J3,rv,hy,t3,f3⟩=>?_) λ_ _ f=>f;have Fp3:∀b∈fp,jQ (mC X scope (s.heap.push { cls:=.type "list",dict:=none,data:=.seq ([]:List Value).toArray }).objs.size fp { s with heap:=s.heap.push { cls:=.type "list",dict:=none,data:=.seq ([]:List Value).toArray } } (upd H s.heap.objs.size (.lst [])) N') [] H3 b:=λb hb' =>
    ⟨f3 b hb',(J3.ok.exf b hb').1,J3.ok.exfs b hb',.inl hb',(J3.ok.exf b hb').2,λp hp=>by cases hp⟩
   have P3:=J3.pinned Fp3 (T.obj (i+1) _ t3);have keepT:∀{σ':St} {Hx:Hp} {sx:Shared},cB (mC X scope (s.heap.push { cls:=.type "list",dict:=none,data:=.seq ([]:List Value).toArray }).objs.size fp { s with heap:=s.heap.push { cls:=.type "list",dict:=none,data:=.seq ([]:List Value).toArray } } (upd H s.heap.objs.size (.lst [])) N') ([]++sX fp s2.heap) σ' Hx sx->tn (i+1) sx.heap/\∀b∈fp,Hx b=none:=λJx =>
    ⟨T.keep (i+1) _ _ t3 λb hb' ob e=>(Jx.pin (b,ob) (bE _ (bE _ (jE hb' e)))).1,λb hb'=>by
     obtain ⟨ob,e,_⟩:=T.obj (i+1) _ t3 b hb';exact (Jx.pin (b,ob) (bE _ (bE _ (jE hb' e)))).2.1⟩
   obtain ⟨a,vs,ev,hq,hl,qe⟩:=hturn v H3 hy;subst ev;refine wpAny_mono (hg _ _ _ _ _ _ (os++slots σ js) H3 (.ref a) u (λσ' H'=>σ'=vs.map some++slots σ js/\H'=H3) P3 rv ⟨a,vs,rfl,hq,hl,?_⟩) (λ_ s5 ⟨σ5,H5,J5,e5,e6⟩=>?_) λ_ _ f=>f
   ·have:=wN (H:=H3) (r:=slots σ js) (Q:=λσ' H'=>σ'=vs.map some++slots σ js/\H'=H3) vs [] os (by rw [hos,hl]) ⟨rfl,rfl⟩;rw [hl] at this;exact this
   subst e5 e6;refine wpAny_mono (ht _ _ _ _ _ _ _ _ _ J5 qe) (λok s6 ⟨H6,J6,q6⟩=>?_) λ_ _ f=>f;dsimp only at q6;by_cases hok:ok=true
   ·rw [if_pos hok] at q6 ⊢;refine wpAny_mono (he _ _ _ _ _ _ _ _ _ J6 q6) (λy s7 ⟨w',H7,J7,r7,hD7,m',hm',w7⟩=>?_) λ_ _ f=>f;refine wpAny_mono (tE (X:=mC X scope _ fp _ _ N') _ _ _ _ (.ref s.heap.objs.size) [w'] (.ref s.heap.objs.size) [y] (λ_ H8=>H8=upd H7 s.heap.objs.size (.lst (ys++[w']))) J7 rfl (.cons r7 .nil) ⟨_,_,_,rfl,rfl,hD7,hz,rfl⟩) (λ_ s8 ⟨_,H8,J8,_,e8⟩=>?_) λ_ _ f=>f;subst e8;obtain ⟨k1,k2⟩:=keepT J8;exact ⟨m',hm',i+1,ys++[w'],_,vs.map some,by rw [aA,hl],J8.unpinned,k1,k2,w7⟩
   ·rw [if_neg hok] at q6 ⊢;obtain ⟨_,m',hm',w7⟩:=q6;obtain ⟨k1,k2⟩:=keepT J6;exact ⟨m',hm',i+1,ys,_,vs.map some,by rw [aA,hl],J6.unpinned,k1,k2,w7⟩
 refine codeAny_compStart_list loop (T.self X.A 0 _ _ _ t4 loop)
theorem CQ{wi:TI}(S:fH X scope xs N' js)(hi:PI X tg iter wi)(hg:∀C fp s₀ H₀,PG (mC X scope C fp s₀ H₀ N') tg (gN X.K xs.length))(ht:∀C fp s₀ H₀,RE (mC X scope C fp s₀ H₀ N') ifs tc)(he:∀C fp s₀ H₀,PE (mC X scope C fp s₀ H₀ N') elt te)
  (hs:∀x,foldedSetIterable iter X.env x=pure x:=by intro _;rfl):PE X (.ListComp elt [⟨tg,iter,ifs,0⟩] scope pos) (EM X.K xs.length wi js tc te):=by
 intro pins s σ H Q I h;rw [eval_ListComp];refine wpAny_comprehension_free (use:=none) rfl hs (pX (S.cells I.ok)) S.kind S.names (wpAny_mono (hi pins s σ H _ I h) (λv s1 h1=>?_) λ_ _ e=>e);refine wpAny_mono h1 (λitv s2 ⟨it,fp,tn,J,H2,e,I2,T,t0,hf,R⟩=>?_) λ_ _ e=>e;subst e;refine DO (te:=zY te) (tc:=qP tc) S I2 T t0 hf hg (λC fp s₀ H₀=>(ht C fp s₀ H₀).mono) (λC fp s₀ H₀=>(he C fp s₀ H₀).mono) (by unfold zM at R;exact R) ?_;intro D H3 s3 σ' H' s' I3 hf3 J3 q;obtain ⟨m,hm,_⟩:=J3.loc;exact ⟨m,hm,λh' hs'=>⟨.ref D,H',KR S I3 hf3 J3 hs',rfl,q⟩⟩
end
section
variable{X:Cx}{scope:Scope}{x1 x2 x3 y:Str}{N':List Str}{js:List Nat}{elt iter tg:Expr}{ifs:List Expr}{py pos spos:Pos}{tc:TT}{te:TE}{wi:TI}{i:Nat}
theorem BR{xs:List Str}{k:Nat}{x:Str}{p:Pos}(S:fH X scope xs N' js)(h:xs[k]?=some x)(C:Addr)(fp:List Addr)(s₀:Shared)(H₀:Hp):WH (mC X scope C fp s₀ H₀ N') (.Name x p) (yM k) :=
 have l:=S.own x (aR h)
 dR S.nd (S.pre k x h) (.inl (lookup_relabel_local l)) (.inr (lookup_relabel_local l))
theorem YJ{p1 p2 pt:Pos}{kk:Nat}(S:fH X scope [x1,x2] N' js)(C:Addr)(fp:List Addr)(s₀:Shared)(H₀:Hp):WH (mC X scope C fp s₀ H₀ N') (.Tuple [.Name x1 p1,.Name x2 p2] kk pt) (gN X.K 2) :=
 pZ rfl (eM (BR S rfl C fp s₀ H₀) (eM (BR S rfl C fp s₀ H₀) mG))
theorem LX{p1 p2 p3 pt:Pos}{kk:Nat}(S:fH X scope [x1,x2,x3] N' js)(C:Addr)(fp:List Addr)(s₀:Shared)(H₀:Hp):WH (mC X scope C fp s₀ H₀ N') (.Tuple [.Name x1 p1,.Name x2 p2,.Name x3 p3] kk pt) (gN X.K 3) :=
 pZ rfl (eM (BR S rfl C fp s₀ H₀) (eM (BR S rfl C fp s₀ H₀) (eM (BR S rfl C fp s₀ H₀) mG)))
theorem IY{p1 p2 pt:Pos}{kk:Nat}(S:fH X scope [x1,x2] N' js)(hi:WG X (.Tuple [.Name x1 p1,.Name x2 p2] kk pt) iter wi)(ht:∀C fp s₀ H₀,QT (mC X scope C fp s₀ H₀ N') ifs tc)(he:∀C fp s₀ H₀,fG (mC X scope C fp s₀ H₀ N') elt te)
  (hs:∀x,foldedSetIterable iter X.env x=pure x:=by intro _;rfl):fG X (.ListComp elt [⟨.Tuple [.Name x1 p1,.Name x2 p2] kk pt,iter,ifs,0⟩] scope pos) (EM X.K 2 wi js tc te) :=
 ⟨CQ S hi.p (λC fp s₀ H₀=>(YJ S C fp s₀ H₀).p) (λC fp s₀ H₀=>(ht C fp s₀ H₀).p) (λC fp s₀ H₀=>(he C fp s₀ H₀).p) hs⟩
theorem xO{p1 p2 p3 pt:Pos}{kk:Nat}(S:fH X scope [x1,x2,x3] N' js)(hi:WG X (.Tuple [.Name x1 p1,.Name x2 p2,.Name x3 p3] kk pt) iter wi)(ht:∀C fp s₀ H₀,QT (mC X scope C fp s₀ H₀ N') ifs tc)(he:∀C fp s₀ H₀,fG (mC X scope C fp s₀ H₀ N') elt te)
  (hs:∀x,foldedSetIterable iter X.env x=pure x:=by intro _;rfl):fG X (.ListComp elt [⟨.Tuple [.Name x1 p1,.Name x2 p2,.Name x3 p3] kk pt,iter,ifs,0⟩] scope pos) (EM X.K 3 wi js tc te) :=
 ⟨CQ S hi.p (λC fp s₀ H₀=>(LX S C fp s₀ H₀).p) (λC fp s₀ H₀=>(ht C fp s₀ H₀).p) (λC fp s₀ H₀=>(he C fp s₀ H₀).p) hs⟩
end
def PZ(psc scope:Scope)(N:List Str)(xs N':List Str)(js:List Nat):Bool :=
 (scope.names.all λy=>!(y.2 == .free) || psc.names.lookup y.1 == some .cell)&&(scope.names.all λy=>!(y.2 == .cell))&&scope.kind == .function &&
 (scope.names.all λy=>!(y.2 == .local) || scope.names.lookup y.1 == some .local)&&(xs.all λx=>scope.names.lookup x == some .local) &&
 (scope.names.all λy=>!(y.2 == .free) || !(scope.names.lookup y.1 == some .local))&&N'.length == xs.length+js.length&&N'.take xs.length == xs&&decide N'.Nodup &&
 ((List.range js.length).all λi=>match js[i]?,N'[xs.length+i]? with
  | some j,some y=>N[j]? == some y&&scope.names.contains (y,NameKind.free)
  | _,_=>false)
theorem fH.of{X:Cx}{psc scope:Scope}{N:List Str}{xs N':List Str}{js:List Nat}(h:PZ psc scope N xs N' js=true)(hX:X.env.scope=psc)(hN:X.N=N)(hc:X.calm=true):fH X scope xs N' js:=by
 unfold PZ at h;simp only [cU] at h;obtain ⟨⟨⟨⟨⟨⟨⟨⟨⟨h1,h2⟩,h3⟩,h4⟩,h5⟩,h6⟩,h7⟩,h8⟩,h9⟩,h10⟩:=h;rw [List.all_eq_true] at h1 h2 h4 h5 h6 h10;refine ⟨hc,λy hy e=>?_,λy hy e=>?_,by simpa using h3,λy hy e=>?_,λx hx=>by simpa using h5 x hx,λy hy e=>?_,by simpa using h7,λi x hx=>?_,of_decide_eq_true h9,λi j hj=>?_⟩
 ·have:=h1 y hy;rw [e] at this;show X.env.scope.names.lookup y.1=_;rw [hX];simpa using this
 ·have:=h2 y hy;rw [e] at this;simp at this
 ·have:=h4 y hy;rw [e] at this;simpa using this
 ·have:=h6 _ hy;rw [e] at this;simp at this
 ·have e8:N'.take xs.length=xs:=by simpa using h8
  have hi:i<xs.length:=(aL.mp hx).1;rw [<-hx]
  conv=>rhs;rw [<-e8]
  rw [List.getElem?_take,if_pos hi]
 ·have hi:i<js.length:=(aL.mp hj).1;have:=h10 i (cE.mpr hi);rw [hj] at this;cases q:N'[xs.length+i]? with
  | none=>rw [q] at this;simp at this
  | some y =>
   rw [q] at this;simp only [cU] at this;exact ⟨y,rfl,by rw [hN];simpa using this.1,List.contains_iff_mem.mp this.2⟩
theorem kC{α β:Type}{R:α->β->Prop}:∀{l:List α}{m:List β}{i:Nat}{b:β},Paired R l m->m[i]?=some b->∃a,l[i]?=some a/\R a b
 | _,_,_,_,.nil,h=>by simp at h
 | _,_,0,b,.cons h t,e=>⟨_,rfl,by cases (show _=b by simpa using e);exact h⟩
 | _,_,i+1,b,.cons h t,e=>by
  obtain ⟨a,h1,h2⟩:=kC t (i:=i) (by simpa using e);exact ⟨a,by simpa using h1,h2⟩
section
variable{js:List Nat}{te:TE}{tc:TT}{σ:St}{H:Hp}{Q:VK}
theorem yU{K:PySem.W.Frag}{n:Nat}{J:It}{α:Type}{as:List α}(p:α->Bool)(Src:α->V->Prop)(R:α->V->Hp->Prop)(hR:∀c y H1 H2,cG H1 H2->R c y H1->R c y H2)(hz:as.length<=100000)
  (hg:∀i H',bF H H'->i<as.length->J.go i H'/\∀x H3,J.yld i H' x H3->H3=H'/\∃c,as[i]?=some c/\Src c x) (hst:∀H',bF H H'->J.stop as.length H')
  (hs:∀x c H',c∈as->Src c x->bF H H'->∃a vs,x=.ref a/\fS K H' a vs/\vs.length=n/\(∀Q':Bool->Hp->Prop,(∀H5,bF H' H5->Q' (p c) H5)->tc (vs.map some++slots σ js) H' Q') /\
   ∀H5 (Q':VK),bF H' H5->p c=true->(∀y H6,bF H5 H6->R c y H6->Q' y H6)->te (vs.map some++slots σ js) H5 Q')
  (hd:∀D ys H',H D=none->H' D=some (.lst ys)->bF H H'->Paired (λc y=>R c y H') (as.filter p) ys->Q (.ref D) H'):zM K n J σ js tc te H Q:=by
 unfold zM;intro D hD;have mono:∀{H1 H2:Hp} {l:List α} {ys:List V},cG H1 H2->Paired (λc y=>R c y H1) l ys->Paired (λc y=>R c y H2) l ys:=by
  intro H1 H2 l ys s h
  induction h with
  | nil=>exact .nil
  | cons h t ih=>exact .cons (hR _ _ _ _ s h) ih
 have snoc:∀{H1:Hp} {l:List α} {ys:List V} {c:α} {y:V},Paired (λc y=>R c y H1) l ys->R c y H1->Paired (λc y=>R c y H1) (l++[c]) (ys++[y]):=by
  intro H1 l ys c y h r
  induction h with
  | nil=>exact .cons r .nil
  | cons h t ih=>exact .cons h ih
 refine ⟨λi m ys H'=>m=as.length-i/\i<=as.length/\H' D=some (.lst ys)/\bF H H'/\ys.length<=i/\Paired (λc y=>R c y H') ((as.take i).filter p) ys,⟨as.length,by simp,cV _,bJ,bF.upd hD,aG _,.nil⟩,?_⟩;rintro i m ys H2 ⟨rfl,hi,hD2,s2,hy,pr⟩;refine ⟨hD2,?_⟩;by_cases hlt:i<as.length
 ·obtain ⟨hgo,hyl⟩:=hg i H2 s2 hlt;refine .inr ⟨hgo,bG (m:=100000) Oo Dd,λx H3 hy3=>?_⟩;obtain ⟨rfl,c,hc,rc⟩:=hyl x H3 hy3;have hti:as.take (i+1)=as.take i++[c]:=by rw [gK,hc];rfl
  obtain ⟨a,vs,e,hq,hl,ht,he⟩:=hs x c H3 (aR hc) rc s2;refine ⟨a,vs,e,hq,hl,λb H4=>b=p c/\bF H3 H4,ht _ λH5 s5=>⟨rfl,s5⟩,?_⟩;rintro b H4 ⟨rfl,s4⟩;by_cases hp:p c=true
  ·rw [if_pos hp];refine ⟨λy H5=>bF H4 H5/\R c y H5,he H4 _ s4 hp λy H6 s6 r=>⟨s6,r⟩,?_⟩;rintro y H5 ⟨s5,r⟩;have e5:=s5 _ _ (s4 _ _ hD2);refine ⟨e5,_,?_,rfl,hlt,bJ,bF.thru hD ((s2.trans s4).trans s5) aK.self,?_,?_⟩
   ·omega
   ·rw [bK,List.length_singleton];omega
   ·rw [hti,List.filter_append,show List.filter p [c]=[c] by simp [hp]];have t6:cG H5 (upd H5 D (.lst (ys++[y]))):=aK.t aK.self e5;exact mono t6 (snoc (mono (s4.trans s5).t pr) r)
  ·rw [if_neg hp];refine ⟨s4 _ _ hD2,_,?_,rfl,hlt,s4 _ _ hD2,s2.trans s4,Oo,?_⟩
   ·omega
   ·rw [hti,List.filter_append,show List.filter p [c]=[] by simp [hp],List.append_nil];exact mono s4.t pr
 ·have e:i=as.length:=Oo;subst e;refine .inl ⟨hst H2 s2,hd D ys H2 hD hD2 s2 ?_⟩;rw [cT] at pr;exact pr
theorem KW{K:PySem.W.Frag}{n:Nat}{a0:Addr}{xs:List V}{α:Type}{as:List α}(p:α->Bool)(Src:α->V->Prop)(R:α->V->Hp->Prop)(hR:∀c y H1 H2,cG H1 H2->R c y H1->R c y H2)(hz:as.length<=100000)(ha:H a0=some (.tup xs))(pr:Paired Src as xs)
  (hs:∀x c H',c∈as->Src c x->bF H H'->∃a vs,x=.ref a/\fS K H' a vs/\vs.length=n/\(∀Q':Bool->Hp->Prop,(∀H5,bF H' H5->Q' (p c) H5)->tc (vs.map some++slots σ js) H' Q') /\
   ∀H5 (Q':VK),bF H' H5->p c=true->(∀y H6,bF H5 H6->R c y H6->Q' y H6)->te (vs.map some++slots σ js) H5 Q')
  (hd:∀D ys H',H D=none->H' D=some (.lst ys)->bF H H'->Paired (λc y=>R c y H') (as.filter p) ys->Q (.ref D) H'):zM K n (YF K a0) σ js tc te H Q:=by
 have hl:xs.length=as.length:=pr.length.symm;refine yU p Src R hR hz (λi H' s hi=>⟨⟨xs,xs[i]'Oo,fS.of (s _ _ ha),by simp⟩,λx H3 y=>⟨y.1,?_⟩⟩) (λH' s=>⟨xs,fS.of (s _ _ ha),Oo⟩) hs hd;have hx:=y.2 xs (fS.of (s _ _ ha));obtain ⟨c,h1,h2⟩:=kC pr hx;exact ⟨c,h1,h2⟩
theorem yT{K:PySem.W.Frag}{n:Nat}{a0:Addr}{xs:List V}{α:Type}{as:List α}(p:α->Bool)(Src:α->V->Prop)(R:α->V->Hp->Prop)(hR:∀c y H1 H2,cG H1 H2->R c y H1->R c y H2)(hz:as.length<=100000)(ha:H a0=some (.lst xs))(pr:Paired Src as xs)
  (hs:∀x c H',c∈as->Src c x->bF H H'->∃a vs,x=.ref a/\fS K H' a vs/\vs.length=n/\(∀Q':Bool->Hp->Prop,(∀H5,bF H' H5->Q' (p c) H5)->tc (vs.map some++slots σ js) H' Q') /\
   ∀H5 (Q':VK),bF H' H5->p c=true->(∀y H6,bF H5 H6->R c y H6->Q' y H6)->te (vs.map some++slots σ js) H5 Q')
  (hd:∀D ys H',H D=none->H' D=some (.lst ys)->bF H H'->Paired (λc y=>R c y H') (as.filter p) ys->Q (.ref D) H'):zM K n (WN K a0) σ js tc te H Q:=by
 have hl:xs.length=as.length:=pr.length.symm;refine yU p Src R hR hz (λi H' s hi=>⟨⟨xs,xs[i]'Oo,fT.of (s _ _ ha),by simp⟩,λx H3 y=>⟨y.1,?_⟩⟩) (λH' s=>⟨xs,fT.of (s _ _ ha),Oo⟩) hs hd;have hx:=y.2 xs (fT.of (s _ _ ha));obtain ⟨c,h1,h2⟩:=kC pr hx;exact ⟨c,h1,h2⟩
end
end L2
namespace L2
open PySem
section
variable{js:List Nat}{te:TE}{σ:St}{H:Hp}{Q:VK}
end
theorem Paired.ofRepL{H:Hp}{α:Type}{g:α->PyData}:∀{as:List α}{xs:List V},aP H (as.map g) xs->Paired (λa x=>bO H (g a) x) as xs
 | [],xs,r=>by
  unfold aP at r;cases (show xs=[] from r);exact .nil
 | a::as,xs,r=>by
  rw [aW] at r;unfold aP at r;obtain ⟨x,xs',rfl,r1,r2⟩:=r;exact .cons r1 (Paired.ofRepL r2)
theorem Paired.toRepL{H:Hp}{α:Type}{g:α->PyData}:∀{as:List α}{xs:List V},Paired (λa x=>bO H (g a) x) as xs->aP H (as.map g) xs
 | _,_,.nil=>aP.nil
 | _,_,.cons h t=>aP.cons h (Paired.toRepL t)
section
variable{X:Cx}{scope:Scope}{x1 x2 x3 y:Str}{N':List Str}{js:List Nat}{elt iter tg:Expr}{ifs:List Expr}{py pos spos:Pos}{tc:TT}{te:TE}{wi wj:TI}{i:Nat}
end
end L2
namespace L2
open PySem PySem.Spec PyProof.Rows
section
variable{X:Cx}
end
section
variable{X:Cx}
end
end L2
namespace L2
open PySem PySem.Spec PySem.W PyProof.Rows HT
end L2
namespace L2
open PySem PySem.Spec PyProof.Rows
def aBA:TS:=λ_ _ _=>False
theorem qM{X:Cx}{st:Stmt}:GE X st aBA:=⟨λ_ _ _ _ _ _ h=>h.elim⟩
section
variable{prog:Program}{w:World}{A:Around}{E:Value->Shared->Prop}{s:Shared}
end
end L2
namespace Mf
section
variable(F:Nat)(G:List Int->Int)
end
section
variable{F:Nat}{G:List Int->Int}{ks:List (List Int)}
end
end Mf
namespace Mf
section
variable{F:Nat}{G:List Int->Int}{ks:List (List Int)}
end
end Mf
namespace L2
open PySem PySem.W PySem.Spec PySem.Calls PyProof.Rows
section
variable{X:Cx}
end
end L2
namespace Mf
def rv(f:Fr):Rat:=(f.1:Rat)/(f.2:Rat)
theorem tH{d:Int}(h:0<d):(0:Rat)<(d:Rat):=by exact_mod_cast h
theorem jN{d:Int}(h:0<d):(d:Rat)≠0:=by have:=tH h;grind
theorem pR{f:Fr}(h:0<f.2):rv f*(f.2:Rat)=(f.1:Rat):=by
 have:=jN h;unfold rv;grind
theorem vT{n d:Int}(h:0<d):rv (lw n d)=(n:Rat)/(d:Rat):=by
 have e:=iQ (n:=n) (d:=d);have p:=(eT (n:=n) h).pos;have h1:=jN h;have h2:=jN p;have e':((lw n d).1:Rat)*(d:Rat)=(n:Rat)*((lw n d).2:Rat):=by exact_mod_cast e
 unfold rv;generalize ((lw n d).1:Rat)=a at *;generalize ((lw n d).2:Rat)=b at *;grind
theorem sS{f g:Fr}(hf:0<f.2)(hg:0<g.2):rv (kW f g)=rv f+rv g:=by
 unfold kW;rw [vT (Int.mul_pos hf hg)];have h1:=jN hf;have h2:=jN hg;unfold rv;rw [Rat.intCast_add,Rat.intCast_mul,Rat.intCast_mul,Rat.intCast_mul];grind
theorem oF{f g:Fr}(hf:0<f.2)(hg:0<g.2):rv (jX f g)=rv f*rv g:=by
 unfold jX;rw [vT (Int.mul_pos hf hg)];have h1:=jN hf;have h2:=jN hg;unfold rv;rw [Rat.intCast_mul,Rat.intCast_mul];grind
theorem ZY(f:Fr):rv (-f.1,f.2)=- rv f:=by
 unfold rv;rw [show (((-f.1,f.2):Fr).1:Rat)=-(f.1:Rat) by rw [<-Rat.intCast_neg]];grind
theorem iI{f g:Fr}(hf:cS f)(hg:cS g)(e:rv f=rv g):f=g:=by
 have h1:=jN hf.pos;have h2:=jN hg.pos;have e':(f.1:Rat)*(g.2:Rat)=(g.1:Rat)*(f.2:Rat):=by
  have a:=pR hf.pos;have b:=pR hg.pos;rw [<-a,<-b,e];grind
 have q:=CW hf hg (by exact_mod_cast e');exact Prod.ext q.1 q.2
theorem XE{f g:Fr}(hf:0<f.2)(hg:0<g.2):f.1*g.2<g.1*f.2↔rv f<rv g:=by
 have h1:=tH hf;have h2:=tH hg;have a:=pR hf;have b:=pR hg;have p:(0:Rat)<(f.2:Rat)*(g.2:Rat):=Rat.mul_pos h1 h2;have c1:((f.1*g.2:Int):Rat)=rv f*((f.2:Rat)*(g.2:Rat)):=by rw [Rat.intCast_mul,<-a];grind
 have c2:((g.1*f.2:Int):Rat)=rv g*((f.2:Rat)*(g.2:Rat)):=by rw [Rat.intCast_mul,<-b];grind
 rw [<-Rat.intCast_lt_intCast,c1,c2];constructor
 ·intro h;exact Rat.lt_of_mul_lt_mul_right h (Rat.le_of_lt p)
 ·intro h;exact Rat.mul_lt_mul_of_pos_right h p
theorem jI:rv (0,1)=0:=by unfold rv;grind
theorem sR:rv (1,1)=1:=by unfold rv;grind
def pJ(l:List Rat):Rat:=l.foldr (· + ·) 0
theorem qQ:pJ []=0:=rfl
theorem lQ(x:Rat)(l:List Rat):pJ (x::l)=x+pJ l:=rfl
theorem qR:∀(a b:List Rat),pJ (a++b)=pJ a+pJ b
 | [],b=>by rw [qQ,List.nil_append];grind
 | x::a,b=>by rw [List.cons_append,lQ,lQ,qR a b];grind
theorem ZX(l:List Fr):(∀f∈l,cS f)->rv (gI l)=pJ (l.map rv):=by
 induction l using lD with
 | h0=>intro _;exact jI
 | hs l a ih =>
  intro h;have hl:∀f∈l,cS f:=λf hf=>h f (bQ _ hf);rw [jY,sS (BX l hl).pos (h a (by simp)).pos,ih hl,bL,qR,aW,List.map_nil,lQ,qQ];grind
def Fn(N B:Nat)(f:Fr):Prop:=cS f/\∃x:Int,rv f*(N:Rat)=(x:Rat)/\x.natAbs<=B*N
theorem Fn.low{N B:Nat}{f:Fr}(h:Fn N B f):cS f:=h.1
theorem Fn.le{N B C:Nat}{f:Fr}(h:Fn N B f)(hB:B<=C):Fn N C f:=by
 obtain ⟨l,x,h1,h2⟩:=h;exact ⟨l,x,h1,bC h2 (cW _ hB)⟩
theorem sG{f g:Fr}(h:cS f)(h':cS g):cS (kW f g):=eT (Int.mul_pos h.pos h'.pos)
theorem Fn.add{N B C:Nat}{f g:Fr}(h:Fn N B f)(h':Fn N C g):Fn N (B+C) (kW f g):=by
 obtain ⟨l,x,h1,h2⟩:=h;obtain ⟨l',y,h3,h4⟩:=h';refine ⟨sG l l',x+y,?_,?_⟩
 ·rw [sS l.pos l'.pos,Rat.intCast_add,<-h1,<-h3];grind
 ·rw [Nat.add_mul];omega
theorem Fn.mul{N M B C:Nat}{f g:Fr}(h:Fn N B f)(h':Fn M C g):Fn (N*M) (B*C) (jX f g):=by
 obtain ⟨l,x,h1,h2⟩:=h;obtain ⟨l',y,h3,h4⟩:=h';refine ⟨mB l l',x*y,?_,?_⟩
 ·rw [oF l.pos l'.pos,Rat.intCast_mul,<-h1,<-h3,Rat.natCast_mul];grind
 ·rw [fE];have:=Nat.mul_le_mul h2 h4;rw [Nat.mul_mul_mul_comm] at this;exact this
theorem Fn.up{N B:Nat}{f:Fr}(h:Fn N B f)(M:Nat):Fn (N*M) B f:=by
 obtain ⟨l,x,h1,h2⟩:=h;refine ⟨l,x*(M:Int),?_,?_⟩
 ·rw [Rat.intCast_mul,<-h1,Rat.natCast_mul];have:((M:Int):Rat)=(M:Rat):=rfl;rw [this];grind
 ·rw [fE,<-Nat.mul_assoc];exact cW _ h2
theorem Fn.dvd{N M B:Nat}{f:Fr}(h:Fn N B f)(d:N ∣ M):Fn M B f:=by
 obtain ⟨e,rfl⟩:=d;exact h.up e
theorem oK(N:Nat):((N:Int):Rat)=(N:Rat):=rfl
theorem UU:cS (0,1):=⟨Dd,Dd⟩
theorem UW:cS (1,1):=⟨Dd,Dd⟩
theorem Fn.zero(N:Nat):Fn N 0 (0,1):=⟨UU,0,by rw [jI];grind,by simp⟩
theorem Fn.one(N:Nat):Fn N 1 (1,1):=⟨UW,N,by rw [sR,oK];grind,by simp⟩
theorem Fn.eq{N B:Nat}{f:Fr}(h:Fn N B f)(hN:0<N):∃x:Int,f=lw x (N:Int)/\x.natAbs<=B*N:=by
 obtain ⟨l,x,h1,h2⟩:=h;have hp:(0:Int)<(N:Int):=Oo;refine ⟨x,iI l (eT hp) ?_,h2⟩;rw [vT hp,<-h1,oK];have:=jN hp;rw [oK] at this;grind
theorem Fn.of{n d:Int}{B:Nat}(h:0<d)(hB:n.natAbs<=B*d.natAbs):Fn d.natAbs B (lw n d):=by
 refine ⟨eT h,n,?_,hB⟩;have e:(d.natAbs:Int)=d:=Oo;rw [vT h,<-oK,e];have:=jN h;grind
theorem Fn.num{N B:Nat}{f:Fr}(h:Fn N B f)(hN:0<N):f.1.natAbs<=B*N/\f.2.natAbs<=N:=by
 obtain ⟨x,rfl,h2⟩:=h.eq hN;have q:=OM (n:=x) (d:=(N:Int)) Oo;have p:=(eT (n:=x) (d:=(N:Int)) Oo).pos;omega
theorem Fn.tot{N B:Nat}:∀(fs:List Fr),(∀f∈fs,Fn N B f)->Fn N (fs.length*B) (gI fs):=by
 intro fs
 induction fs using lD with
 | h0=>intro _;exact (Fn.zero N).le (cV _)
 | hs l a ih =>
  intro h;rw [jY,bK,List.length_singleton,Nat.add_mul,Nat.one_mul];exact (ih λf hf=>h f (bQ _ hf)).add (h a (bE _ (cM.mpr rfl)))
end Mf
namespace Mf
def dU(n:Nat)(f:Nat->Rat):Rat:=pJ ((List.range n).map f)
theorem eY(f:Nat->Rat):dU 0 f=0:=rfl
theorem dM(n:Nat)(f:Nat->Rat):dU (n+1) f=dU n f+f n:=by
 unfold dU;rw [List.range_succ,bL,qR,aW,List.map_nil,lQ,qQ];grind
theorem cY{n:Nat}{f g:Nat->Rat}(h:∀i,i<n->f i=g i):dU n f=dU n g:=by
 induction n with
 | zero=>rfl
 | succ n ih=>rw [dM,dM,ih λi hi=>h i Oo,h n Oo]
theorem MT(n:Nat)(f g:Nat->Rat):dU n (λi=>f i+g i)=dU n f+dU n g:=by
 induction n with
 | zero=>rw [eY,eY,eY];grind
 | succ n ih=>rw [dM,dM,dM,ih];grind
theorem lP(n:Nat)(a:Rat)(f:Nat->Rat):dU n (λi=>a*f i)=a*dU n f:=by
 induction n with
 | zero=>rw [eY,eY];grind
 | succ n ih=>rw [dM,dM,ih];grind
theorem xS{n:Nat}{f g:Nat->Rat}(h:∀i,i<n->f i<=g i):dU n f<=dU n g:=by
 induction n with
 | zero=>rw [eY,eY];exact Rat.le_refl
 | succ n ih =>
  have h1:=ih λi hi=>h i Oo;have h2:=h n Oo;rw [dM,dM];grind
theorem kH(n:Nat):dU n (λ_=>0)=0:=by
 induction n with
 | zero=>rfl
 | succ n ih=>rw [dM,ih];grind
theorem SL{n:Nat}{f:Nat->Rat}(h:∀i,i<n->0<=f i):0<=dU n f:=by
 have:=xS (n:=n) (f:=λ_=>0) (g:=f) h
 rwa [kH] at this
theorem CB{n:Nat}(f:Nat->Rat){w:Nat}(h:w<n):dU n f-f w=dU n (λi=>if i=w then 0 else f i):=by
 induction n with
 | zero=>omega
 | succ n ih =>
  rw [dM,dM];by_cases e:w=n
  ·subst e;rw [if_pos rfl,cY (g:=f) λi hi=>if_neg Oo];grind
  ·rw [if_neg (λq=>e q.symm),<-ih Oo];grind
def bU(c:List Nat)(i:Nat):List Nat:=c.set i (c.getD i 0+1)
section
variable{W F:Nat}{q:Nat->List Nat->Rat}{mix ps ps' cs:Nat->Rat}
end
end Mf
namespace Mf
def Qn(N B:Nat)(x:Rat):Prop:=∃z:Int,x*(N:Rat)=(z:Rat)/\z.natAbs<=B*N
theorem Fn.q{N B:Nat}{f:Fr}(h:Fn N B f):Qn N B (rv f):=h.2
theorem Qn.f{N B:Nat}{f:Fr}(l:cS f)(h:Qn N B (rv f)):Fn N B f:=⟨l,h⟩
def eZ(x:Rat):Fr:=(x.num,(x.den:Int))
theorem bV(x:Rat):cS (eZ x):=by
 refine ⟨?_,?_⟩
 ·show (0:Int)<(x.den:Int);have:=x.den_pos;omega
 ·show Int.gcd x.num (x.den:Int)=1;rw [Int.gcd_eq_natAbs_gcd_natAbs,Int.natAbs_natCast];exact x.reduced
theorem eO(x:Rat):rv (eZ x)=x:=by
 unfold rv eZ;show (x.num:Rat)/((x.den:Int):Rat)=x;rw [<-Rat.divInt_eq_div,Rat.num_divInt_den]
theorem PC{f:Fr}(h:cS f):eZ (rv f)=f:=iI (bV _) h (eO _)
theorem Qn.fq{N B:Nat}{x:Rat}(h:Qn N B x):Fn N B (eZ x):=⟨bV x,by rw [eO];exact h⟩
theorem Qn.le{N B C:Nat}{x:Rat}(h:Qn N B x)(hB:B<=C):Qn N C x:=by
 obtain ⟨z,h1,h2⟩:=h;exact ⟨z,h1,bC h2 (cW _ hB)⟩
theorem Qn.add{N B C:Nat}{x y:Rat}(h:Qn N B x)(h':Qn N C y):Qn N (B+C) (x+y):=by
 obtain ⟨z,h1,h2⟩:=h;obtain ⟨u,h3,h4⟩:=h';refine ⟨z+u,?_,?_⟩
 ·rw [Rat.intCast_add,<-h1,<-h3];grind
 ·rw [Nat.add_mul];omega
theorem Qn.neg{N B:Nat}{x:Rat}(h:Qn N B x):Qn N B (-x):=by
 obtain ⟨z,h1,h2⟩:=h;refine ⟨-z,?_,by rw [Int.natAbs_neg];exact h2⟩;rw [Rat.intCast_neg,<-h1];grind
theorem Qn.sub{N B C:Nat}{x y:Rat}(h:Qn N B x)(h':Qn N C y):Qn N (B+C) (x-y):=by
 have:=h.add h'.neg
 rwa [<-Rat.sub_eq_add_neg] at this
theorem Qn.mul{N M B C:Nat}{x y:Rat}(h:Qn N B x)(h':Qn M C y):Qn (N*M) (B*C) (x*y):=by
 obtain ⟨z,h1,h2⟩:=h;obtain ⟨u,h3,h4⟩:=h';refine ⟨z*u,?_,?_⟩
 ·rw [Rat.intCast_mul,<-h1,<-h3,Rat.natCast_mul];grind
 ·rw [fE];have:=Nat.mul_le_mul h2 h4;rw [Nat.mul_mul_mul_comm] at this;exact this
theorem Qn.dvd{N M B:Nat}{x:Rat}(h:Qn N B x)(d:N ∣ M):Qn M B x:=by
 obtain ⟨e,rfl⟩:=d;obtain ⟨z,h1,h2⟩:=h;refine ⟨z*(e:Int),?_,?_⟩
 ·rw [Rat.intCast_mul,<-h1,Rat.natCast_mul,oK];grind
 ·rw [fE,<-Nat.mul_assoc];exact cW _ h2
theorem Qn.zero(N B:Nat):Qn N B 0:=⟨0,by grind,by simp⟩
theorem Qn.sumR{N B:Nat}{f:Nat->Rat}:∀{n:Nat},(∀i,i<n->Qn N B (f i))->Qn N (n*B) (dU n f)
 | 0,_=>by rw [eY];exact Qn.zero _ _
 | n+1,h=>by
  rw [dM,Nat.add_mul,Nat.one_mul];exact (Qn.sumR λi hi=>h i Oo).add (h n Oo)
theorem NC{f:Fr}(h:cS f)(n:Nat):rv (sV f n)=rv f^n:=by
 have hp:=jN h.pos
 induction n with
 | zero=>unfold sV rv;grind
 | succ n ih =>
  have e:rv (sV f (n+1))=rv (sV f n)*rv f:=by
   have h1:=jN (kQ h n).pos;unfold sV rv at *;simp only [Int.pow_succ,Rat.intCast_mul] at *;generalize ((f.1^n:Int):Rat)=u at *;generalize ((f.2^n:Int):Rat)=v at *;grind
  rw [e,ih,Rat.pow_succ]
theorem Qn.pow{N:Nat}{x:Rat}(h:Qn N 1 x):∀n:Nat,Qn (N^n) 1 (x^n)
 | 0=>⟨1,by rw [Rat.pow_zero,Nat.pow_zero];grind,by simp⟩
 | n+1=>by
  rw [Rat.pow_succ,Nat.pow_succ];exact (Qn.pow h n).mul h
theorem YI{N:Nat}(l:List (Fr × Nat)):(∀z∈l,Fn N 1 z.1)->Qn (N^(l.map (·.2)).sum) 1 (rv (pY l)):=by
 induction l using lD with
 | h0=>intro _;exact ⟨1,by show rv (1,1)*_=_;rw [sR];simp,by simp⟩
 | hs l a ih =>
  intro h;have hl:∀z∈l,Fn N 1 z.1:=λz hz=>h z (bQ _ hz);have ha:=h a (by simp);rw [sK,oF (vD l λz hz=>(hl z hz).low).pos (kQ ha.low a.2).pos,NC ha.low,bL,List.sum_append,Nat.pow_add];have:=(ih hl).mul (ha.q.pow a.2);simpa using this
theorem XD{f:Fr}(h:cS f)(h0:0<=f.1):0<=rv f:=by
 have h1:=tH h.pos;have e:=pR h.pos;have h2:(0:Rat)<=(f.1:Rat):=by exact_mod_cast h0
 have:rv f=(f.1:Rat)*(f.2:Rat)⁻¹:=by unfold rv;exact Rat.div_def _ _
 rw [this];exact lM h2 (Rat.le_of_lt (Rat.inv_pos.mpr h1))
theorem IT{α:Type}(l:List α)(m:List Nat):((l.zip m).map (·.2)).sum<=m.sum:=by
 induction l generalizing m with
 | nil=>simp
 | cons a l ih =>
  cases m with
  | nil=>simp
  | cons b m =>
   have:=ih m;simp only [List.zip_cons_cons,aW,List.sum_cons];omega
def wq(fs:List Fr)(c:List Nat):Rat:=rv (pY (fs.zip c))
theorem LU{N M:Nat}{fs:List Fr}{c:List Nat}(h:∀f∈fs,Fn N 1 f)(hc:c.sum<=M):Qn (N^M) 1 (wq fs c):=by
 have h1:=YI (fs.zip c) (λz hz=>h z.1 (List.of_mem_zip (a:=z.1) (b:=z.2) hz).1);have h2:=IT fs c;exact h1.dvd (Nat.pow_dvd_pow _ Oo)
def lN(ps:List Fr)(v:Nat):Rat:=rv (ps.getD v (0,1))
theorem kD{α:Type}{l:List α}{j:Nat}{a:α}(h:j<l.length):l.getD j a∈l:=by
 rw [aS,aC h];exact List.getElem_mem h
section
variable{F W M:Nat}{ss:List (List Fr)}{mix ps cs:List Fr}{Ns Nm Np Nc B:Nat}
theorem iT{c:List Nat}{j:Nat}(h:j<c.length):(bU c j).sum=c.sum+1:=by
 unfold bU;have h1:c[j]?=some (c.getD j 0):=by rw [aS,aC h];rfl
 have:=jW c j (c.getD j 0+1) _ h1;omega
theorem QL(c:List Nat)(j:Nat):(bU c j).length=c.length:=by unfold bU;rw [List.length_set]
end
def rise(F M:Nat):List (List Nat):=(List.range (M+1)).flatMap (cta F)
theorem uR:∀{F m:Nat}{c:List Nat},1<=F->c.length=F->c.sum=m->c∈cta F m
 | 0,m,c,h,_,_=>Oo
 | 1,m,c,_,hl,hs=>by
  obtain ⟨x,rfl⟩:∃x,c=[x]:=by
   match c,hl with
   | [x],_=>exact ⟨x,rfl⟩
  have:x=m:=by simpa using hs
  subst this;simp [cta]
 | F+2,m,c,_,hl,hs=>by
  cases c with
  | nil=>simp at hl
  | cons x c =>
   rw [List.sum_cons] at hs;unfold cta;refine List.mem_flatMap.mpr ⟨x,cE.mpr Oo,aU.mpr ⟨c,uR Oo (by simpa using hl) Oo,rfl⟩⟩
theorem OJ{F M:Nat}{c:List Nat}(hF:1<=F):c∈rise F M↔c.length=F/\c.sum<=M:=by
 unfold rise;rw [List.mem_flatMap];constructor
 ·rintro ⟨m,hm,hc⟩;have:=cE.mp hm;obtain ⟨h1,h2⟩:=fX hc;exact ⟨h1,Oo⟩
 ·rintro ⟨h1,h2⟩;exact ⟨c.sum,cE.mpr Oo,uR hF h1 rfl⟩
theorem tY(F:Nat):∀M:Nat,(rise F M).Pairwise λa b=>a.sum<=b.sum
 | 0=>by
  unfold rise;rw [List.range_succ,List.range_zero,List.nil_append,List.flatMap_singleton];refine List.pairwise_iff_forall_sublist.mpr λ{a b} h=>?_;have ha:a∈cta F 0:=h.subset (by simp);have:=(fX ha).2;omega
 | M+1=>by
  have ih:=tY F M;unfold rise at *;rw [List.range_succ,List.flatMap_append,List.flatMap_singleton];refine List.pairwise_append.mpr ⟨ih,?_,λa ha b hb=>?_⟩
  ·refine List.pairwise_iff_forall_sublist.mpr λ{a b} h=>?_;have ha:a∈cta F (M+1):=h.subset (by simp);have hb:b∈cta F (M+1):=h.subset (by simp);have h1:=(fX ha).2;have h2:=(fX hb).2;omega
  ·obtain ⟨m,hm,ha⟩:=List.mem_flatMap.mp ha;have:=cE.mp hm;have h1:=(fX ha).2;have h2:=(fX hb).2;omega
end Mf
namespace Mf
theorem DN:∀F:Nat,1<=F->cta F 0=[List.replicate F 0]
 | 1,_=>rfl
 | F+2,_=>by
  unfold cta;rw [List.range_succ,List.range_zero,List.nil_append,List.flatMap_singleton,Nat.sub_zero,DN (F+1) Oo]
  rfl
theorem PY{F m:Nat}(hF:1<=F){d:List Nat}:d∈cta F (m+1) ↔ ∃c∈cta F m,∃j,j<F/\d=bU c j:=by
 constructor
 ·intro h;obtain ⟨h1,h2⟩:=fX h;obtain ⟨j,hj,hp⟩:∃j,j<d.length/\0<d.getD j 0:=by
   refine dZ λq=>?_;have z:d=List.replicate d.length 0:=by
    refine List.eq_replicate_iff.mpr ⟨rfl,λx hx=>?_⟩;obtain ⟨j,hj⟩:=cN.mp hx;have hl:=(aL.mp hj).1;have:d.getD j 0=x:=by rw [aS,hj];rfl
    refine dZ λhx0=>q ⟨j,hl,Oo⟩
   have:d.sum=0:=by rw [z];simp
   omega
  have e1:d[j]?=some (d.getD j 0):=by rw [aS,aC hj];rfl
  have s1:=jW d j (d.getD j 0-1) _ e1;refine ⟨d.set j (d.getD j 0-1),uR hF (by rw [List.length_set];exact h1) Oo,j,Oo,?_⟩;unfold bU;rw [aS (l:=d.set j _),List.getElem?_set_self hj,List.set_set];show d=d.set j (d.getD j 0-1+1);rw [show d.getD j 0-1+1=d.getD j 0 by omega];refine (List.ext_getElem? λi=>?_);rw [List.getElem?_set];by_cases e:j=i
  ·subst e;rw [if_pos rfl,if_pos hj];exact e1
  ·rw [if_neg e]
 ·rintro ⟨c,hc,j,hj,rfl⟩;obtain ⟨h1,h2⟩:=fX hc;exact uR hF (by rw [QL];exact h1) (by rw [iT Oo];omega)
theorem HD:∀F,F<=4->∀M,M<=5->(rise F M).Nodup:=Kk
end Mf
namespace Mf
abbrev bI:=List Nat × List Fr
def s0(e:bI):Rat:=lN e.2 0
def kR(F:Nat)(c d:List Nat):Rat:=dU F λf=>if bU c f=d then 1 else 0
def bS(F:Nat)(es:List bI):List Nat->Rat:=es.foldl (λg e=>λd=>g d+g e.1*s0 e*kR F e.1 d) (λd=>if d=List.replicate F 0 then 1 else 0)
theorem kE(F:Nat)(d:List Nat):bS F [] d=if d=List.replicate F 0 then 1 else 0:=rfl
theorem gO(F:Nat)(l:List bI)(e:bI)(d:List Nat):bS F (l++[e]) d=bS F l d+bS F l e.1*s0 e*kR F e.1 d:=by unfold bS;rw [List.foldl_append];rfl
def cR{α:Type}(l:List α)(f:α->Rat):Rat:=pJ (l.map f)
theorem eN{α:Type}(f:α->Rat):cR [] f=0:=rfl
theorem cH{α:Type}(a:α)(l:List α)(f:α->Rat):cR (a::l) f=f a+cR l f:=rfl
theorem vK{α:Type}(a b:List α)(f:α->Rat):cR (a++b) f=cR a f+cR b f:=by unfold cR;rw [bL,qR]
theorem sM{α:Type}(l:List α)(a:α)(f:α->Rat):cR (l++[a]) f=cR l f+f a:=by rw [vK,cH,eN];grind
theorem eD{α:Type}{l:List α}{f g:α->Rat}(h:∀a∈l,f a=g a):cR l f=cR l g:=by unfold cR;rw [dE h]
theorem vL{α:Type}(l:List α)(f g:α->Rat):cR l (λa=>f a+g a)=cR l f+cR l g:=by
 induction l with
 | nil=>rw [eN,eN,eN];grind
 | cons a l ih=>rw [cH,cH,cH,ih];grind
theorem qS{α:Type}(l:List α)(x:Rat)(f:α->Rat):cR l (λa=>x*f a)=x*cR l f:=by
 induction l with
 | nil=>rw [eN,eN];grind
 | cons a l ih=>rw [cH,cH,ih];grind
theorem oV{α:Type}(l:List α):cR l (λ_=>0)=0:=by
 induction l with
 | nil=>rfl
 | cons a l ih=>rw [cH,ih];grind
theorem JD{α:Type}{l:List α}{f g:α->Rat}(h:∀a∈l,f a<=g a):cR l f<=cR l g:=by
 induction l with
 | nil=>exact Rat.le_refl
 | cons a l ih =>
  have h1:=h a (aN ..);have h2:=ih λx hx=>h x (aH _ hx);rw [cH,cH];grind
theorem uL{α:Type}{l:List α}{f:α->Rat}(h:∀a∈l,0<=f a):0<=cR l f:=by
 have:=JD (l:=l) (f:=λ_=>0) (g:=f) h
 rwa [oV] at this
theorem xU{α:Type}(l:List α)(n:Nat)(f:α->Nat->Rat):cR l (λa=>dU n (f a))=dU n λi=>cR l λa=>f a i:=by
 induction l with
 | nil=>show 0=dU n (λ_=>0);rw [kH]
 | cons a l ih =>
  rw [cH,ih,<-MT];exact cY λi _=>rfl
theorem oW{es:List bI}(nd:(es.map (·.1)).Nodup){b:List Nat}(hb:b∈es.map (·.1))(Φ:List Nat->Rat):cR es (λx=>(if b=x.1 then 1 else 0)*Φ x.1)=Φ b:=by
 induction es with
 | nil=>cases hb
 | cons a es ih =>
  rw [aW,List.nodup_cons] at nd;rw [cH];by_cases e:b=a.1
  ·rw [if_pos e,e,eD (g:=λ_=>0) λx hx=>?_,oV]
   ·grind
   ·rw [if_neg λq=>nd.1 (by rw [q];exact aU.mpr ⟨x,hx,rfl⟩)];grind
  ·rw [if_neg e,ih nd.2 (by rw [aW] at hb;exact (aQ.mp hb).resolve_left e)];grind
structure uZ(F:Nat)(es:List bI):Prop where
 root:∃e r,es=e::r/\e.1=List.replicate F 0
 len:∀e∈es,e.1.length=F
 nd:(es.map (·.1)).Nodup
 srt:es.Pairwise λa b=>a.1.sum<=b.1.sum
 fwd:∀e∈es,s0 e≠0->∀f,f<F->bU e.1 f∈es.map (·.1)
 bwd:∀d∈es.map (·.1),d≠List.replicate F 0->∃e∈es,s0 e≠0/\∃f,f<F/\bU e.1 f=d
 nn:∀e∈es,0<=s0 e
section
variable{F:Nat}{es:List bI}
theorem rR{c d:List Nat}(hc:c.length=F)(h:d.sum≠c.sum+1):kR F c d=0:=by
 unfold kR;rw [cY (g:=λ_=>0) λf hf=>if_neg λq=>h ?_,kH];rw [<-q,iT Oo]
theorem uZ.at(R:uZ F es){i:Nat}{e:bI}(h:es[i]?=some e):bS F (es.take i) e.1=bS F es e.1:=by
 have key:∀k,i+k<=es.length->bS F (es.take (i+k)) e.1=bS F (es.take i) e.1:=by
  intro k
  induction k with
  | zero=>intro _;rfl
  | succ k ih =>
   intro hk;obtain ⟨x,hx⟩:∃x,es[i+k]?=some x:=⟨_,aC Oo⟩;have et:es.take (i+k+1)=es.take (i+k)++[x]:=by rw [gK,hx];rfl
   rw [<-Nat.add_assoc,et,gO,ih Oo,rR (R.len x (aR hx)) ?_]
   ·grind
   ·obtain ⟨l1,e1⟩:=aL.mp h;obtain ⟨l2,e2⟩:=aL.mp hx;have:e.1.sum<=x.1.sum:=by
     by_cases q:k=0
     ·subst q;have:e=x:=by rw [<-e1,<-e2];rfl
      rw [this];exact aG _
     ·have:=(List.pairwise_iff_getElem.mp R.srt) i (i+k) l1 l2 Oo
      rwa [e1,e2] at this
    omega
 have hi:=(aL.mp h).1;have:=key (es.length-i) Oo;rw [show i+(es.length-i)=es.length by omega,cT] at this;exact this.symm
theorem uZ.cons(R:uZ F es)(Φ:List Nat->Rat):∀n,n<=es.length->cR es (λx=>bS F (es.take n) x.1*Φ x.1)=Φ (List.replicate F 0)+cR (es.take n) λe=>bS F es e.1*s0 e*dU F λf=>Φ (bU e.1 f):=by
 intro n
 induction n with
 | zero =>
  intro _;rw [List.take_zero,eN];obtain ⟨e,r,he,hz⟩:=R.root;have:=oW R.nd (b:=List.replicate F 0) (by rw [he,<-hz];exact aN ..) Φ;rw [eD (g:=λx=>(if List.replicate F 0=x.1 then 1 else 0)*Φ x.1) λx _=>?_,this]
  ·grind
  ·rw [kE];by_cases q:x.1=List.replicate F 0
   ·rw [if_pos q,if_pos q.symm]
   ·rw [if_neg q,if_neg λz=>q z.symm]
 | succ n ih =>
  intro hn;obtain ⟨e,he⟩:∃x,es[n]?=some x:=⟨_,aC Oo⟩;have et:es.take (n+1)=es.take n++[e]:=by rw [gK,he];rfl
  have hm:=aR he;rw [et,sM,<-Rat.add_assoc,<-ih Oo];rw [eD (g:=λx=>bS F (es.take n) x.1*Φ x.1+bS F es e.1*s0 e*(kR F e.1 x.1*Φ x.1)) λx _=>by rw [gO,R.at he];grind];rw [vL,qS];by_cases z:s0 e=0
  ·rw [z];grind
  ·congr 2;have:(λx:bI=>kR F e.1 x.1*Φ x.1)=λx=>dU F λf=>(if bU e.1 f=x.1 then 1 else 0)*Φ x.1:=by
    funext x
    unfold kR;rw [Rat.mul_comm,<-lP];exact cY λi _=>Rat.mul_comm _ _
   rw [this,xU];exact cY λf hf=>oW R.nd (R.fwd e hm z f hf) Φ
theorem uZ.all(R:uZ F es)(Φ:List Nat->Rat):cR es (λx=>bS F es x.1*Φ x.1)=Φ (List.replicate F 0)+cR es λe=>bS F es e.1*s0 e*dU F λf=>Φ (bU e.1 f):=by
 have:=R.cons Φ es.length (aG _)
 rwa [cT] at this
theorem OV(F:Nat)(c d:List Nat):0<=kR F c d:=SL λf _=>by split <;> grind
theorem uZ.fnn(R:uZ F es):∀n,n<=es.length->∀d,0<=bS F (es.take n) d:=by
 intro n
 induction n with
 | zero=>intro _ d;rw [List.take_zero,kE];split <;> grind
 | succ n ih =>
  intro hn d;obtain ⟨e,he⟩:∃x,es[n]?=some x:=⟨_,aC Oo⟩;have et:es.take (n+1)=es.take n++[e]:=by rw [gK,he];rfl
  rw [et,gO];have h1:=ih Oo d;have h2:=ih Oo e.1;have h3:=lM (lM h2 (R.nn e (aR he))) (OV F e.1 d);grind
theorem uZ.nnf(R:uZ F es)(d:List Nat):0<=bS F es d:=by
 have:=R.fnn es.length (aG _) d
 rwa [cT] at this
theorem uZ.pos(R:uZ F es):∀(k:Nat) (d:List Nat),d∈es.map (·.1)->d.sum<=k->0<bS F es d:=by
 have eqd:∀d∈es.map (·.1),bS F es d=(if d=List.replicate F 0 then 1 else 0)+cR es λe=>bS F es e.1*s0 e*kR F e.1 d:=λd hd=>by
  have h:=R.all λx=>if d=x then 1 else 0
  have h1:=oW R.nd hd (bS F es);have e1:cR es (λx=>bS F es x.1*(if d=x.1 then 1 else 0))=bS F es d:=by rw [<-h1];exact eD λx _=>Rat.mul_comm _ _
  rw [<-e1,h];congr 1;exact eD λe _=>by
   congr 1;unfold kR;exact cY λf _=>by
    by_cases q:d=bU e.1 f
    ·rw [if_pos q,if_pos q.symm]
    ·rw [if_neg q,if_neg λz=>q z.symm]
 have tn:∀d,∀e∈es,0<=bS F es e.1*s0 e*kR F e.1 d:=λd e he=>lM (lM (R.nnf _) (R.nn e he)) (OV F e.1 d);intro k
 induction k with
 | zero =>
  intro d hd hs;have hz:d=List.replicate F 0:=by
   refine dZ λq=>?_;obtain ⟨e,he,_,f,hf,rfl⟩:=R.bwd d hd q;rw [iT (by rw [R.len e he];exact hf)] at hs;omega
  rw [eqd d hd,if_pos hz];have:=uL (tn d);grind
 | succ k ih =>
  intro d hd hs;by_cases hz:d=List.replicate F 0
  ·rw [eqd d hd,if_pos hz];have:=uL (tn d);grind
  ·obtain ⟨e,he,h0,f,hf,rfl⟩:=R.bwd d hd hz;have bs:=iT (c:=e.1) (j:=f) (by rw [R.len e he];exact hf);have hA:=ih e.1 (aU.mpr ⟨e,he,rfl⟩) Oo;have hs0:0<s0 e:=by have:=R.nn e he;grind
   have hh:1<=kR F e.1 (bU e.1 f):=by
    unfold kR;have h1:=xS (n:=F) (f:=λi=>if i=f then 1 else 0) (g:=λi=>if bU e.1 i=bU e.1 f then 1 else 0) λi _=>by
     by_cases q:i=f
     ·subst q;rw [if_pos rfl,if_pos rfl];exact Rat.le_refl
     ·rw [if_neg q];split <;> grind
    have h2:=CB (n:=F) (λi=>if i=f then (1:Rat) else 0) hf;have h3:dU F (λi=>if i=f then 0 else if i=f then (1:Rat) else 0)=0:=by
     rw [cY (g:=λ_=>0) λi _=>?_,kH];by_cases q:i=f
     ·rw [if_pos q]
     ·rw [if_neg q,if_neg q]
    rw [if_pos rfl,h3] at h2;grind
   have one:0<bS F es e.1*s0 e*kR F e.1 (bU e.1 f):=Rat.mul_pos (Rat.mul_pos hA hs0) (by grind);rw [eqd _ hd,if_neg hz];have:bS F es e.1*s0 e*kR F e.1 (bU e.1 f)<=cR es λe'=>bS F es e'.1*s0 e' * kR F e'.1 (bU e.1 f):=by
    obtain ⟨l1,l2,rfl⟩:=List.append_of_mem he;rw [vK,cH];have n1:=uL (l:=l1) λx hx=>tn (bU e.1 f) x (bQ _ hx);have n2:=uL (l:=l2) λx hx=>tn (bU e.1 f) x (bE _ (aH _ hx));grind
   grind
theorem uZ.posf(R:uZ F es){e:bI}(h:e∈es):0<bS F es e.1:=R.pos _ e.1 (aU.mpr ⟨e,h,rfl⟩) (aG _)
theorem Qn.one'(N:Nat):Qn N 1 1:=⟨N,by rw [oK];grind,by simp⟩
theorem uZ.qn(R:uZ F es){N:Nat}(hN:∀e∈es,Qn N 1 (s0 e))(f4:F<=4):∀n,n<=es.length->∀d,Qn (N^d.sum) (5^n) (bS F (es.take n) d):=by
 intro n
 induction n with
 | zero =>
  intro _ d;rw [List.take_zero,kE];split
  ·exact Qn.one' _
  ·exact Qn.zero _ _
 | succ n ih =>
  intro hn d;obtain ⟨e,he⟩:∃x,es[n]?=some x:=⟨_,aC Oo⟩;have et:es.take (n+1)=es.take n++[e]:=by rw [gK,he];rfl
  rw [et,gO];have h1:=ih Oo d;have hm:=aR he;have p5:5^(n+1)=5*5^n:=by rw [Nat.pow_succ];omega
  by_cases hs:d.sum=e.1.sum+1
  ·have h2:=(ih Oo e.1).mul (hN e hm);have h3:Qn 1 4 (kR F e.1 d):=by
    have:=Qn.sumR (N:=1) (B:=1) (n:=F) (f:=λf=>if bU e.1 f=d then 1 else 0) λf _=>by
     split
     ·exact Qn.one' _
     ·exact Qn.zero _ _
    exact this.le Oo
   have h4:=h2.mul h3;have h5:N^e.1.sum*N=N^d.sum:=by rw [hs,Nat.pow_succ]
   rw [Nat.mul_one,h5] at h4;exact (h1.add h4).le Oo
  ·rw [rR (R.len e hm) hs];have:bS F (es.take n) d+bS F (es.take n) e.1*s0 e*0=bS F (es.take n) d:=by grind
   rw [this];exact h1.le Oo
end
def oG(zs:List (Fr × Nat)):Rat:=zs.foldr (λz p=>rv z.1^z.2*p) 1
theorem HA:∀(zs:List (Fr × Nat)) (p:Fr),cS p->(∀z∈zs,cS z.1)->rv (zs.foldl (λp q=>jX p (sV q.1 q.2)) p)=rv p*oG zs
 | [],p,_,_=>by show rv p=rv p*1;grind
 | z::zs,p,hp,h=>by
  have hz:=h z (aN ..);have hw:=kQ hz z.2;rw [List.foldl_cons,HA zs _ (mB hp hw) λy hy=>h y (aH _ hy),oF hp.pos hw.pos,NC hz];show _=rv p*(rv z.1^z.2*oG zs);grind
theorem zP{fs:List Fr}(h:∀f∈fs,cS f)(c:List Nat):wq fs c=oG (fs.zip c):=by
 unfold wq pY;rw [HA _ _ UW λz hz=>h z.1 (List.of_mem_zip (a:=z.1) (b:=z.2) hz).1];show rv (1,1)*_=_;rw [sR];grind
theorem yE:∀(fs:List Fr) (c:List Nat) (j:Nat),j<fs.length->fs.length=c.length->oG (fs.zip (bU c j))=oG (fs.zip c)*lN fs j
 | [],c,j,h,_=>by simp at h
 | f::fs,[],j,_,h=>by simp at h
 | f::fs,n::c,0,_,_=>by
  show rv f^(n+1)*oG (fs.zip c)=(rv f^n*oG (fs.zip c))*rv f;rw [Rat.pow_succ];grind
 | f::fs,n::c,j+1,hj,hl=>by
  have ih:=yE fs c j (by simpa using hj) (by simpa using hl);have e:bU (n::c) (j+1)=n::bU c j:=by unfold bU;rw [List.set_cons_succ];rfl
  have ev:lN (f::fs) (j+1)=lN fs j:=rfl;rw [e,ev,List.zip_cons_cons,List.zip_cons_cons];show rv f^n*oG (fs.zip (bU c j))=(rv f^n*oG (fs.zip c))*lN fs j;rw [ih];grind
theorem yD:∀(fs:List Fr) (n:Nat),oG (fs.zip (List.replicate n 0))=1
 | [],n=>by rfl
 | f::fs,0=>by rfl
 | f::fs,n+1=>by
  rw [List.replicate_succ,List.zip_cons_cons];show rv f^0*oG (fs.zip (List.replicate n 0))=1;rw [yD fs n,Rat.pow_zero];grind
theorem RT{fs:List Fr}(h:∀f∈fs,cS f)(n:Nat):wq fs (List.replicate n 0)=1:=by rw [zP h,yD]
section
variable{F W M:Nat}{es:List bI}{q:Nat->List Nat->Rat}{mix ps cs:Nat->Rat}
def mZ(F:Nat)(es:List bI)(q:List Nat->Rat)(w:Nat):Rat:=cR es λe=>bS F es e.1*q e.1*lN e.2 (1+w)
end
end Mf
namespace Mf
section
variable{F W:Nat}{es:List bI}{q:Nat->List Nat->Rat}{mix ps cs:Nat->Rat}
theorem CA{n v:Nat}{f:Nat->Rat}(hv:v<n)(h:∀i,i<n->i≠v->f i=0):dU n f=f v:=by
 have h2:=CB (n:=n) f hv;have h3:dU n (λi=>if i=v then 0 else f i)=0:=by
  rw [cY (g:=λ_=>0) λi hi=>?_,kH];by_cases e:i=v
  ·rw [if_pos e]
  ·rw [if_neg e,h i hi e]
 rw [h3] at h2;grind
end
end Mf
namespace L2
open PySem
section
variable{M:Model}{A:Around}{E:Value->Shared->Prop}{s:Shared}{env:Env}{outer:List Env}{base:Heap}{L a:Addr}{cls:Value}{od:Option Addr}
end
end L2
namespace L2
open PySem PySem.Spec PyProof.Rows
section
variable{P:Program}{w:World}{H H1 H2:Hp}{h h1 h2 base:Heap}{fs fs2 ex:List Addr}{a:Addr}{o:HO}
end
section
variable{P:Program}{w:World}{K:PySem.W.Frag}{mg:Str->Option Value}{base:Heap}{N:List Str}{qual:Str}{scope:Scope}{f:Addr}{cd:Value}{A:Around}{outer:List Env}{s:Shared}{H:Hp}{E:XK}
end
section
variable{X:Cx}{k:Nat}{f C:Addr}{fd:FuncData}{ps:List Str}{sp:Sp}{Ex:St->XK}{x:Str}{p pos np cpos:Pos}{e:Expr}{es:List Expr}{t:TA}
end
section
variable{X:Cx}{C:Addr}{Ex:St->XK}{x:Str}{pos np cpos:Pos}{e:Expr}{es:List Expr}{t:TA}
end
end L2
namespace L2
open PySem PySem.W PySem.Spec PySem.Calls PyProof.Rows
section
variable{prog:Program}{w:World}{A:Around}{E:Value->Shared->Prop}{s:Shared}{K:Frag}{x C:Addr}{ox:Obj}{od:Option Obj}{name:Str}
end
end L2
namespace L2
open PySem PySem.Spec PyProof.Rows
section
variable{X:Cx}{pins:List (Addr × Obj)}{σ:St}{H:Hp}{s:Shared}
end
section
variable{M:Model}{A:Around}{E:Value->Shared->Prop}{K:PySem.W.Frag}{s:Shared}{a C C2:Addr}{ox:Obj}{od:Option Obj}
end
section
variable{X:Cx}{x n:Str}{np hpos pos:Pos}{b₀:Stmt}{body suite:List Stmt}{i:Nat}{C2:Addr}{tb:(St->XK)->TS}{th:TS}
end
end L2
namespace L2
open PySem PySem.W PySem.Spec PySem.Calls PyProof.Rows
section
variable{prog:Program}{w:World}{A:Around}{E:Value->Shared->Prop}{h:Heap}{g:Array GenState}{d:Drawn}{t:Nat}{os:OsState}
variable{nm q:Str}{C N:Addr}{bs bm bmB:List Value}{hdct:Bool}{sn:List Str}{sub:List Value}{ab:Bool}{col:Option Bool}{dd:Option Addr}{k0 k1 k2 k3 k5:Option Value}{B newId initId:String}
end
section
variable{prog:Program}{w:World}{A:Around}{E:Value->Shared->Prop}{s:Shared}{K:Frag}{C f:Addr}{rest:List Value}
end
end L2
namespace L2
open PySem PySem.W PySem.Spec PySem.Calls PyProof.Rows Builtin Builtin.ObjectAttr
section
variable{prog:Program}{w:World}{A:Around}{E:Value->Shared->Prop}{s:Shared}{K:Frag}{x C:Addr}{R:Result->Shared->Prop}
end
section
variable{X:Cx}{pins:List (Addr × Obj)}{σ:St}{H:Hp}{s:Shared}{a C d:Addr}{fs:List (Str × V)}{f:Str}{v:V}{A:Around}{E:Value->Shared->Prop}
end
section
variable{X:Cx}{k:Nat}{f C:Addr}{fd:FuncData}{ps:List Str}{sp:Sp}{x g:Str}{p pos np apos pos':Pos}{e o value:Expr}{es:List Expr}{t:TA}{ta tv:TE}
end
end L2
namespace L2
open PySem PySem.W PySem.Spec PySem.Calls PyProof.Rows
end L2
namespace L2
open PySem PySem.W PySem.Spec PySem.Calls PyProof.Rows Builtin Builtin.ObjectAttr
section
variable{P:Program}{w:World}{H:Hp}{h:Heap}{a C:Addr}{od:Option Addr}
end
section
variable{prog:Program}{w:World}{A:Around}{E:Value->Shared->Prop}{s:Shared}{K:Frag}{x C:Addr}
end
section
variable{X:Cx}{pins:List (Addr × Obj)}{σ:St}{H:Hp}{s:Shared}{a C d:Addr}{fs:List (Str × V)}{f:Str}{v:V}{A:Around}{E:Value->Shared->Prop}
end
section
variable{X:Cx}{k:Nat}{f C:Addr}{fd:FuncData}{ps:List Str}{sp:Sp}{x g:Str}{p pos np apos pos':Pos}{e o value:Expr}{es:List Expr}{t:TA}{ta tv:TE}
end
section
variable{M:Model}{A:Around}{E:Value->Shared->Prop}{env:Env}{K:Frag}{C:Addr}
end
section
variable{X:Cx}{k:Nat}{f C:Addr}{fd:FuncData}{ps:List Str}{sp:Sp}{Ex:St->XK}{x:Str}{pos np cpos:Pos}{e:Expr}{es:List Expr}{t:TA}
end
end L2
namespace L2
open PySem PySem.Spec PySem.W PyProof.Rows HT
end L2
namespace L2
open PySem PySem.Spec PyProof.Rows
section
variable{X:Cx}
end
section
variable{σ:St}{js:List Nat}{te:TE}{H:Hp}{Q:VK}
end
structure FnO(P:Program)(w:World)(K:PySem.W.Frag)(mg:Str->Option Value)(base:Heap)(k:Nat)(C:Addr)(ps:List Str)(sp:Sp):Prop where
 ex:∃(f:Addr) (fd:FuncData),dI P w K mg base dQ k f fd ps sp/\Mk K C f/\nD K fd ps []
structure Own(K:PySem.W.Frag)(C:Addr)(fs:List Str):Prop where
 cls:IS K C
 no:∀f∈fs,jU K C f
@[irreducible] def TK(K:PySem.W.Frag)(f:Str)(x:V)(H:Hp)(Q:VK):Prop:=∃a C dx fs v,x=.ref a/\H a=some (.ins C dx fs)/\IS K C/\jU K C f/\fs.lookup f=some v/\Q v H
def WX(K:PySem.W.Frag)(ta:TE)(f:Str):TE:=λσ H Q=>ta σ H λx H1=>TK K f x H1 Q
section
variable{X:Cx}{k:Nat}{C:Addr}{ps:List Str}{sp:Sp}{x f:Str}{p pos pos':Pos}{e o value:Expr}{es:List Expr}{t:TA}{ta tv:TE}
theorem LZ(F:FnO X.prog X.w X.K X.mg X.base k C ps sp)(hm:X.mg x=some (.ref C))(hr:gX (k+1) X.A)(ha:IR X (e::es) t)(hg:Gl X x:=by rfl)
  (hdb:(x == ("__debug__" : Str))=false:=by decide) (he:starEach (e::es) X.env=(false,eval e X.env)::starEach es X.env:=by first | exact fV | exact fW | exact dG | exact cZ)
  (hpl:(backTo pos (starEach es X.env)).any (·.1)=false:=by repeat (first | exact tP | refine pH (by first | exact fV | exact fW | exact dG | exact cZ) ?_)) :
  fG X (.Call (.Name x p) (e::es) [] pos) (WW C sp [] E0 t):=⟨by
 obtain ⟨f,fd,h1,h2,h3⟩:=F.ex;exact UD h2 h1 hr hg hm h3 .nil HL ha.p hdb he hpl⟩
theorem fU(K:PySem.W.Frag)(he:fG X e ta)(hK:X.K=K:=by rfl)(hb:attributeBase e f X.env (eval e X.env)=eval e X.env:=by rfl):fG X (.Attribute e f pos) (WX K ta f):=⟨by
 subst hK;intro pins s σ H Q I h;refine aAt he.p hb pins s σ H Q I ?_;unfold WX TK at h;exact h⟩
theorem uI(ha:fG X o ta)(hv:fG X value tv)(hs:swapsWith value (some (.Attribute o f pos')) pos.line X.env=pure false:=by rfl):GE X (.Assign [.Attribute o f pos'] value pos) (aBI X.K ta tv f):=⟨aAh ha.p hv.p hs⟩
end
section
variable{K:PySem.W.Frag}{H:Hp}{a C dx:Addr}{fs:List (Str × V)}{v:V}{Q:VK}{f:Str}{ns:List Str}
theorem qJ(O:Own K C ns)(hf:f∈ns)(e:H a=some (.ins C dx fs))(l:fs.lookup f=some v)(q:Q v H):TK K f (.ref a) H Q:=by
 unfold TK;exact ⟨a,C,dx,fs,v,rfl,e,O.cls,O.no f hf,l,q⟩
end
structure tS(P:Program)(w:World)(K:PySem.W.Frag)(mg:Str->Option Value)(base:Heap)(k:Nat)(C:Addr)(m:Str)(ps:List Str)(sp:Sp):Prop where
 ex:∃(f:Addr) (fd:FuncData),dI P w K mg base dQ k f fd ps sp/\WL K C m f/\nD K fd ps []
section
variable{X:Cx}{k:Nat}{C:Addr}{ps:List Str}{sp:Sp}{m:Str}{pos apos:Pos}{e o:Expr}{es:List Expr}{t:TA}{ta:TE}
theorem sL{pl:Sem Bool}(F:tS X.prog X.w X.K X.mg X.base k C m ps sp)(c:IS X.K C)(hr:gX k X.A)(ho:fG X o ta)(ha:IR X (e::es) t)
  (hst:starEach (e::es) X.env=(false,eval e X.env)::starEach es X.env:=by first | exact fV | exact eF | exact fW | exact dG | exact cZ)
  (hpl:(backTo pos (starEach es X.env)).any (·.1)=false:=by repeat (first | exact tP | refine pH (by first | exact fV | exact eF | exact fW | exact dG | exact cZ) ?_))
  (ht:eval (.Call (.Attribute o m apos) (e::es) [] pos) X.env=(do
   let ov <-eval o X.env
   standAt apos.atName
   let (f,first) <-holding [ov] (getMethod ov m pl)
   callWith pos f first (backTo pos (starEach (e::es) X.env)) (backToKw pos (keywordEach [] X.env))):=by rfl) :
  fG X (.Call (.Attribute o m apos) (e::es) [] pos) (GU C m sp [] E0 ta t):=⟨by
 obtain ⟨f,fd,h1,h2,h3⟩:=F.ex;exact UC ho.p c h2 h1 hr h3 .nil HL ha.p hst hpl ht⟩
theorem eR{pl:Sem Bool}(F:tS X.prog X.w X.K X.mg X.base k C m ps sp)(c:IS X.K C)(hr:gX k X.A)(ho:fG X o ta)
  (ht:eval (.Call (.Attribute o m apos) [] [] pos) X.env=(do
   let ov <-eval o X.env
   standAt apos.atName
   let (f,first) <-holding [ov] (getMethod ov m pl)
   callWith pos f first (backTo pos (starEach [] X.env)) (backToKw pos (keywordEach [] X.env))):=by rfl) :
  fG X (.Call (.Attribute o m apos) [] [] pos) (GU C m sp [] E0 ta SE):=⟨by
 obtain ⟨f,fd,h1,h2,h3⟩:=F.ex;exact NV ho.p c h2 h1 hr h3 .nil HL ht⟩
end
end L2
namespace L2
open PySem PySem.Spec PySem.W PyProof.Rows HT
theorem BY{M:Model}{A:Around}{E:Value->Shared->Prop}{s:Shared}{items:Array Value}{x:Value}{b:Nat->Bool}{j:Nat}{Q:Option PySem.Fin × Unit->Shared->Prop}(hj:j<items.size)(hit:b j=true)(hno:∀m,m<j->b m=false)
    (he:∀m y,items[m]?=some y->∀(Q:Bool->Shared->Prop),Q (b m) s->wpAny M A (eqBool y x) Q E s) (q:Q (some (.done (.ret (.int (j:Int) s.toks))),()) { s with toks:=s.toks+1 }) :
    ∀ (n lo : Nat), lo + n = items.size -> lo <= j -> wpAny M A (forIn (List.range' lo n 1) (none, ()) λ(i : Nat) (__s : Option PySem.Fin × Unit) => (match items[i]? with
                    | some y=>do
                      let __do_lift <-eqBool y x
                      if __do_lift=true then do
                          let __do_lift <-retInt (i:Int)
                          pure (ForInStep.done (some __do_lift,()))
                        else pure (ForInStep.yield (none,()))
                    | x=>pure (ForInStep.yield (none,())))) Q E s
  | 0,lo,h,hl=>Oo
  | n+1,lo,h,hl=>by
    rw [List.range'_succ,List.forIn_cons];have e:items[lo]?=some items[lo]:=Array.getElem?_eq_getElem Oo;refine wpAny_bind ?_;rw [e];refine wpAny_bind (he lo _ e _ ?_);by_cases z:lo=j
    · subst z
      rw [hit,if_pos rfl];refine wpAny_bind ?_;unfold retInt;refine wpAny_bind (wpAny_mkInt ?_);exact wpAny_pure (wpAny_pure (wpAny_pure q))
    · rw [hno lo Oo,if_neg Dd]
      exact wpAny_pure (BY hj hit hno he q n (lo+1) Oo Oo)
theorem EK(l:Addr)(items:Array Value)(n:Nat)(dd:Option Addr)(sl:Array (Option Value))(x:Value)(b:Nat->Bool)(j:Nat)(hj:j<items.size)(hit:b j=true)(hno:∀m,m<j->b m=false) :
  Meets (Builtin.«tuple.index» ⟨[.ref l,x],[]⟩) λA R s=>s.heap.get? l=some { cls:=.type "tuple",dict:=dd,data:=.seq items n,slots:=sl }/\(∀m y,items[m]?=some y->SeqAt.EqAt A.in1 s y x (b m))/\R (.ok (.ret (.int (j:Int) s.toks))) { s with toks:=s.toks+1 }:=by
 intro prog w A R s ⟨h1,h2,h3⟩;unfold Builtin.«tuple.index»;refine wpAny_bind (m:=selfAndSome _ _ _ _ _) (wpAny_pure ?_);refine wpAny_bind (wpAny_tupleItemsOf h1 rfl ?_);refine wpAny_bind (wpAny_pure ?_);refine wpAny_bind (wpAny_pure ?_);refine wpAny_bind ?_;rw [Std.Legacy.Range.forIn_eq_forIn_range'];have e:(Std.Legacy.Range.size [0:min items.size items.size])=items.size:=by simp [Std.Legacy.Range.size]
 rw [e];refine BY hj hit hno (λm y hy Q q=>h2 m y hy prog w _ Q q) ?_ items.size 0 Oo Oo;exact wpAny_pure h3
@[irreducible] def HI(K:PySem.W.Frag):V->List V->Hp->VK->Prop:=λx vs H Q=>∃(l:Addr) (xs:List V) (cs:List (List Int)) (c:List Int) (y:V) (j:Nat),x=.ref l/\vs=[y]/\H l=some (.tup xs)/\fL K H (cs.map cD) xs/\jG K H (cD c) y/\cs[j]?=some c/\(∀i,i<j->cs[i]? ≠ some c)/\Q (.int (j:Int)) H
theorem aDA{K:PySem.W.Frag}{H:Hp}{l:Addr}{xs:List V}{cs:List (List Int)}{c:List Int}{y:V}{j:Nat}{Q:VK}(h:H l=some (.tup xs))(r:fL K H (cs.map cD) xs)(ry:jG K H (cD c) y)(h1:cs[j]?=some c)(h2:∀i,i<j->cs[i]? ≠ some c)(q:Q (.int (j:Int)) H):HI K (.ref l) [y] H Q:=by
 unfold HI;exact ⟨l,xs,cs,c,y,j,rfl,rfl,h,r,ry,h1,h2,q⟩
theorem yC{K:PySem.W.Frag}{H:Hp}:∀{ds:List PyData}{xs:List V}{i:Nat}{x:V},fL K H ds xs->xs[i]?=some x->∃d,ds[i]?=some d/\jG K H d x
 | [],xs,i,x,h,hx=>by unfold fL at h;subst h;simp at hx
 | d::ds,xs,0,x,h,hx=>by
  unfold fL at h;obtain ⟨y,ys,rfl,h1,h2⟩:=h;cases hx;exact ⟨d,rfl,h1⟩
 | d::ds,xs,i+1,x,h,hx=>by
  unfold fL at h;obtain ⟨y,ys,rfl,h1,h2⟩:=h;exact yC (i:=i) h2 hx
theorem yB{K:PySem.W.Frag}{H:Hp}:∀{ds:List PyData}{xs:List V},fL K H ds xs->xs.length=ds.length
 | [],xs,h=>by unfold fL at h;subst h;rfl
 | d::ds,xs,h=>by
  unfold fL at h;obtain ⟨y,ys,rfl,h1,h2⟩:=h;rw [cF,cF,yB h2]
section
variable{X:Cx}
theorem UT(K:PySem.W.Frag)(hu:X.A.units+64<cLine)(hK:X.K=K:=by rfl):YE X "tuple.index" (HI K):=by
 subst hK;unfold HI;intro pins s σ H x vs v us Q I rx rv h;obtain ⟨l,xs,cs,c,y,j,rfl,rfl,hH,r,ry,h1,h2,q⟩:=h;cases rx;obtain ⟨u,rfl,ru⟩:=kZ rv;obtain ⟨as,ra⟩:=ry.reads I ru;obtain ⟨its,r',p,_⟩:=I.tuple (fS.of hH);obtain ⟨⟨cls,dd,data,sl⟩,e,hcl,n,hdd⟩:=id p;simp only at hcl hdd;subst hcl hdd;have hl:=r'.length;have lx:=yB r;rw [aA] at lx;have lj:j<cs.length:=(aL.mp h1).1;refine call_meets F.slot_tuple_index ⟨_,e,rfl⟩ F.entry_tuple_index (F.args_tuple_index_2 _ _) (EK l its.toArray n _ _ u (λm=>decide (cs[m]?=some c)) j (by rw [aY];omega) (bP h1) λm hm=>bX (h2 m hm)) ⟨e,λm w hw=>?_,?_⟩
 ·have hw':its[m]?=some w:=by simpa using hw
  have lm:=(aL.mp hw').1;obtain ⟨v',hv',rv'⟩:∃v',xs[m]?=some v'/\dH v' w:=by
   obtain ⟨u',hu',ru'⟩:=r'.get (i:=m) (x:=xs[m]'Oo) (aC Oo);rw [hw'] at hu';cases hu';exact ⟨_,aC Oo,ru'⟩
  obtain ⟨d,hd,rd⟩:=yC r hv';rw [aM] at hd;obtain ⟨c',hc',rfl⟩:=fR.mp hd;obtain ⟨bs,rb⟩:=rd.reads I rv';have e2:decide (cs[m]?=some c)=PyData.eqv (cD c') (cD c):=by
   rw [VM,hc'];simp
  rw [e2];refine SeqAt.eqAt_reads (cD c') (cD c) _ s _ _ bs as rb ra (yJ c') (yJ c) ?_;have h1:(cD c').depth<=2:=by
   have:=ID c';simp only [PyData.depth];omega
  have:X.A.in1.units<=X.A.units+1:=by
   first
    | exact aG _
    | (unfold Around.in1;simp)
  omega
 ·exact ⟨.int _,H,I.tok _,⟨_,rfl⟩,q⟩
end
end L2
namespace HT
open PySem PySem.W PyProof.Rows
section
variable{prog:Program}{w:World}{A:Around}{E:Value->Shared->Prop}{s:Shared}
end
end HT
namespace L2
open PySem PySem.Spec PyProof.Rows
section
variable{X:Cx}{e st:Expr}{te ts:TE}{pos p2:Pos}
end
end L2
namespace Kw
open PySem L2 Mf
def top(i:Nat):Stmt:=PySem.Challenge.pw_earlystop_k93_whole_watches_and_shares.main.body.getD i (.Pass ⟨0,0,0,0⟩)
structure Cl where
 ONE:Addr
 NOUGHT:Addr
 Watch:Addr
 tok_LOOKS_ON:Tok
structure jK(K:PySem.W.Frag)(mg:Str->Option Value)(c:Cl):Prop where
 b_list:mg "list" = none
 b_len:mg "len" = none
 b_abs:mg "abs" = none
 b_range:mg "range" = none
 b_sum:mg "sum" = none
 b_int:mg "int" = none
 b_sorted:mg "sorted" = none
 b_dict:mg "dict" = none
 b_isinstance:mg "isinstance" = none
 b_tuple:mg "tuple" = none
 b_zip:mg "zip" = none
 b_repr:mg "repr" = none
 b_max:mg "max" = none
 b_bool:mg "bool" = none
 g_ONE:mg "ONE" = some (.ref c.ONE)
 g_NOUGHT:mg "NOUGHT" = some (.ref c.NOUGHT)
 g_LOOKS_ON:mg "LOOKS_ON" = some (.int 0 c.tok_LOOKS_ON)
 g_Watch:mg "Watch" = some (.ref c.Watch)
 w_Watch:Own K c.Watch ["says_of","faces","told","stands"]
 o_ONE:qH K c.ONE [1,1]=true
 o_NOUGHT:qH K c.NOUGHT [0,1]=true
abbrev ZS:Stmt:=(top 46)
theorem aA1:bR ["_law_n","_law_d","_law_one","_law_other"] ["_law_n","_law_d"] (aO ZS):=⟨rfl,rfl,rfl,Kk,rfl,Kk,Kk⟩
abbrev ZT:Stmt:=(top 44)
theorem aDW:bR ["_law_script"] ["_law_script"] (aO ZT):=⟨rfl,rfl,rfl,Kk,rfl,Kk,Kk⟩
abbrev ZU:Stmt:=(top 45)
theorem LG:bR ["_law_feed_here","_law_many","_law_found","_law_cell","_law_stirred"] ["_law_feed_here","_law_many"] (aO ZU):=⟨rfl,rfl,rfl,Kk,rfl,Kk,Kk⟩
abbrev JR:Stmt:=(top 47)
theorem WA:bR ["_law_feed_here","_law_many","_law_most","_law_parts"] ["_law_feed_here","_law_many"] (aO JR):=⟨rfl,rfl,rfl,Kk,rfl,Kk,Kk⟩
abbrev SZ:Stmt:=(top 48)
theorem LF:bR ["_law_feed_here","_law_pool","_law_turn","_law_faces","_law_ways"] ["_law_feed_here"] (aO SZ):=⟨rfl,rfl,rfl,Kk,rfl,Kk,Kk⟩
theorem XR{b:Bool}{A B:Prop}(h:b=false)(k:B):if b=true then A else B:=by rw [h,if_neg Dd];exact k
abbrev fK(f:Fr):PyData:=.tuple [.int f.1,.int f.2]
theorem PD{H:Hp}{f:Fr}{v:V}(h:bO H (fK f) v):∃a,v=.ref a/\H a=some (.tup [.int f.1,.int f.2]):=by
 unfold bO aP aP aP at h;obtain ⟨a,_,rfl,h1,x,_,rfl,r1,y,_,rfl,r2,rfl⟩:=h;cases (show x=V.int f.1 from r1);cases (show y=V.int f.2 from r2);exact ⟨a,rfl,h1⟩
theorem fD{H:Hp}{f:Fr}{a:Addr}(h:H a=some (.tup [.int f.1,.int f.2])):bO H (fK f) (.ref a):=bO.tup h (aP.cons (bO.int _) (aP.cons (bO.int _) aP.nil))
theorem dB(f:Fr):eP (fK f)=true:=rfl
def gR(K:PySem.W.Frag)(H:Hp)(f:Fr)(x:V):Prop:=∃a,x=.ref a/\fS K H a [.int f.1,.int f.2]
theorem gR.of{K:PySem.W.Frag}{H:Hp}{f:Fr}{x:V}(h:bO H (fK f) x):gR K H f x:=by
 obtain ⟨a,e,h⟩:=PD h;exact ⟨a,e,fS.of h⟩
theorem gR.new{K:PySem.W.Frag}{H:Hp}{f:Fr}{a:Addr}(h:H a=some (.tup [.int f.1,.int f.2])):gR K H f (.ref a):=⟨a,rfl,fS.of h⟩
theorem gR.same{K:PySem.W.Frag}{H H':Hp}{f:Fr}{x:V}(s:bF H H')(h:gR K H f x):gR K H' f x:=by
 obtain ⟨a,e,h⟩:=h;exact ⟨a,e,h.keep s⟩
def lK(k:Nat)(f:Fr):Prop:=f.1.natAbs<2^k/\f.2.natAbs<2^k
@[irreducible] def vQ:Sp:=λvs H Q _=>∃n d:Int,vs=[.int n,.int d]/\0<d/\Q (.int (Int.gcd n d)) H
theorem rG{H:Hp}{Q:VK}{E:XK}{n d:Int}(h:0<d)(q:Q (.int (Int.gcd n d)) H):vQ [.int n,.int d] H Q E:=by unfold vQ;exact ⟨n,d,rfl,h,q⟩
def oR(H:Hp)(Q:VK)(f:Fr):Prop:=∀q H',H q=none->H' q=some (.tup [.int f.1,.int f.2])->bF H H'->Q (.ref q) H'
@[irreducible] def lB(K:PySem.W.Frag):Sp:=λvs H Q _=>∃x y f g,vs=[x,y]/\gR K H f x/\gR K H g y/\cS f/\cS g/\lK 4000 f/\lK 4000 g/\oR H Q (kW f g)
theorem oZ{K:PySem.W.Frag}{H:Hp}{Q:VK}{E:XK}{x y:V}{f g:Fr}(h1:gR K H f x)(h2:gR K H g y)(l1:cS f)(l2:cS g)(z1:lK 4000 f)(z2:lK 4000 g)(q:oR H Q (kW f g)):lB K [x,y] H Q E:=by unfold lB;exact ⟨x,y,f,g,rfl,h1,h2,l1,l2,z1,z2,q⟩
@[irreducible] def rA(K:PySem.W.Frag):Sp:=λvs H Q _=>∃x y f g,vs=[x,y]/\gR K H f x/\gR K H g y/\lK 4000 f/\lK 4000 g/\Q (.bl (decide (f.1*g.2<g.1*f.2))) H
theorem JK{K:PySem.W.Frag}{H:Hp}{Q:VK}{E:XK}{x y:V}{f g:Fr}(h1:gR K H f x)(h2:gR K H g y)(z1:lK 4000 f)(z2:lK 4000 g)(q:Q (.bl (decide (f.1*g.2<g.1*f.2))) H):rA K [x,y] H Q E:=by unfold rA;exact ⟨x,y,f,g,rfl,h1,h2,z1,z2,q⟩
@[irreducible] def nU:Sp:=λvs H Q _=>∃n d:Int,vs=[.int n,.int d]/\0<d/\d.natAbs<2^9000/\oR H Q (lw n d)
theorem qZ{H:Hp}{Q:VK}{E:XK}{n d:Int}(h:0<d)(z:d.natAbs<2^9000)(q:oR H Q (lw n d)):nU [.int n,.int d] H Q E:=by unfold nU;exact ⟨n,d,rfl,h,z,q⟩
theorem aAS{n d:Int}(h:0<d):(Int.gcd n d:Int)<=d:=Int.le_of_dvd h (Int.gcd_dvd_right n d)
theorem wM{n d:Int}{k:Nat}(h:0<d)(z:d.natAbs<2^k):(Int.gcd n d:Int).natAbs<2^k:=by
 have:=aAS (n:=n) h;have:=gW (n:=n) h;omega
theorem rX{n d:Int}(h:0<d)(z:d.natAbs<2^9000):QX n d:=⟨h,xA z⟩
theorem gJ{i:Int}{n m:Nat}(h:i.natAbs<2^n)(k:n<=m:=by decide):i.natAbs<2^m:=aT h (aV Dd k)
theorem mH{i j:Int}{n:Nat}(h:i.natAbs<2^n)(hj:0<j):(i/j).natAbs<2^n:=bG (by
 have:=Int.natAbs_ediv_le_natAbs i j;exact this) h
theorem zZ{i j:Int}{n m:Nat}(h1:i.natAbs<2^n)(h2:j.natAbs<2^m):(i*j).natAbs<2^(n+m):=by
 rw [fE,Nat.pow_add];exact Nat.mul_lt_mul'' h1 h2
abbrev qL(fs:List Fr):PyData:=.tuple (fs.map fK)
theorem rV:∀fs:List Fr,dW (fs.map fK)=true
 | []=>rfl
 | f::fs=>by show (eP (fK f)&&dW (fs.map fK))=true;rw [rV fs];rfl
theorem rJ(fs:List Fr):eP (qL fs)=true:=rV fs
section
theorem aDq(F:iH K "_law_low" "_law_low" ZS f fd)(T:jK K mg c):dI P w K mg base dQ 1 f fd ["_law_n","_law_d"] nU:=by
 refine F.oky aA1 λvs H Q E h=>?_;unfold nU at h;obtain ⟨n,d,rfl,hd,hz,q⟩:=h;refine ⟨rfl,λcdv A outer s hr=>?_⟩;refine ⟨_,(aJ (LT (i:=2) (j:=3) rfl aA1.nd rfl rfl Dd rfl rfl (aI (eC FY (by rfl) T.b_abs Kk (aI (aE 0) aD)) (aI (aE 1) aD)) rfl)
  (aJ (nJ PassesOwn.never (eB vY (aE 3) aF (nomark _)) (aX (LT (i:=2) (j:=3) rfl aA1.nd rfl rfl Dd rfl rfl (aI (aE 3) (aI (bY lH (aE 2) (aE 3)) aD)) rfl)))
  (aX (cC (dO (aI (bY gM (aE 0) (aE 2)) (aI (bY gM (aE 1) (aE 2)) aD))))))),?_⟩
 refine ⟨_,rfl,?_⟩;refine raI ?_;refine ⟨_,rfl,?_⟩;refine ⟨_,_,rfl,?_⟩;refine qN (λm σ H'=>∃(u v:Int),σ=[some (.int n),some (.int d),some (.int u),some (.int v)]/\0<=v/\Int.gcd u v=Int.gcd n d/\(v=0->0<u)/\H'=H/\m=v.toNat)
  (λσ H'=>σ=[some (.int n),some (.int d),some (.int (Int.gcd n d)),some (.int 0)]/\H'=H)
  _ ⟨(n.natAbs:Int),d,rfl,Oo,by rw [Int.gcd_eq_natAbs_gcd_natAbs,Int.gcd_eq_natAbs_gcd_natAbs,Int.natAbs_natCast],Oo,rfl,rfl⟩ ?_ ?_
 ·rintro m σ H2 ⟨u,v,rfl,hb,hg,h0,rfl,rfl⟩;refine ⟨_,rfl,rfl,_,rfl,?_⟩;refine HY (λe=>?_) (λe=>?_)
  ·have hb':0<v:=by
    rcases Int.lt_or_eq_of_le hb with h | h
    ·exact h
    ·exact absurd (congrArg V.int h.symm) e
   refine ⟨_,rfl,_,rfl,_,rfl,_,_,rfl,rfl,hb',_,_,rfl,?_⟩;have e1:=Int.emod_lt_of_pos u hb';have e2:=Int.emod_nonneg u (b:=v) Oo;exact ⟨_,Oo,v,u % v,rfl,e2,by rw [DD,hg],λ_=>hb',rfl,rfl⟩
  ·have hb0:v=0:=by injection e
   subst hb0;have hu:=h0 rfl;have e1:=IA hu;rw [hg] at e1;rw [e1];exact ⟨rfl,rfl⟩
 ·rintro σ H2 ⟨rfl,rfl⟩;have hg:=gW (n:=n) hd;have zg:QX n (Int.gcd n d:Int):=rX hg (wM hd hz);refine ⟨_,rfl,_,rfl,_,_,rfl,rfl,zg,?_⟩;refine ⟨_,rfl,_,rfl,_,_,rfl,rfl,zg,?_⟩;refine pK (by show 2<=64;decide) λp H3 hp e3 s3=>?_;exact q p H3 hp e3 s3
end
theorem aP.atX{H:Hp}{α:Type}{g:α->PyData}{as:List α}{xs:List V}(r:aP H (as.map g) xs){i:Nat}{a:α}(h:as[i]?=some a):∃x,xs[i]?=some x/\bO H (g a) x:=by
 induction as generalizing xs i with
 | nil=>simp at h
 | cons b as ih =>
  rw [aW] at r;unfold aP at r;obtain ⟨x,xs',rfl,r1,r2⟩:=r;cases i with
  | zero=>cases (show b=a by simpa using h);exact ⟨x,rfl,r1⟩
  | succ i=>exact ih r2 (by simpa using h)
theorem qE{H:Hp}{fs:List Fr}{v:V}(h:bO H (qL fs) v):∃a xs,v=.ref a/\H a=some (.tup xs)/\aP H (fs.map fK) xs:=by
 unfold bO at h;exact h
abbrev wD(w:Str × List Fr):PyData:=.tuple [.str w.1,qL w.2]
abbrev uK(fs:List Str)(ws:List (Str × List Fr)):PyData:=.tuple [.tuple (fs.map .str),.tuple (ws.map wD)]
theorem xW:∀fs:List Str,dW (fs.map PyData.str)=true
 | []=>rfl
 | f::fs=>by show (eP (.str f)&&dW (fs.map PyData.str))=true;rw [xW fs];rfl
theorem uJ(w:Str × List Fr):eP (wD w)=true:=by
 show (eP (.str w.1)&&(eP (qL w.2)&&true))=true;rw [rJ];rfl
theorem GK:∀ws:List (Str × List Fr),dW (ws.map wD)=true
 | []=>rfl
 | w::ws=>by show (eP (wD w)&&dW (ws.map wD))=true;rw [uJ w,GK ws];rfl
theorem vG(fs:List Str)(ws:List (Str × List Fr)):eP (uK fs ws)=true:=by
 show (eP (.tuple (fs.map .str))&&(eP (.tuple (ws.map wD))&&true))=true;rw [show eP (.tuple (fs.map PyData.str))=dW (fs.map PyData.str) from rfl,xW,show eP (.tuple (ws.map wD))=dW (ws.map wD) from rfl,GK];rfl
theorem zH{H:Hp}:∀fs:List Str,aP H (fs.map PyData.str) (fs.map V.str)
 | []=>aP.nil
 | f::fs=>aP.cons (bO.str f) (zH fs)
theorem fP{H:Hp}{ds:List PyData}{v:V}(h:bO H (.tuple ds) v):∃a xs,v=.ref a/\H a=some (.tup xs)/\aP H ds xs:=by unfold bO at h;exact h
theorem jP{H:Hp}{d e:PyData}{xs:List V}(h:aP H [d,e] xs):∃x y,xs=[x,y]/\bO H d x/\bO H e y:=by
 unfold aP aP aP at h;obtain ⟨x,_,rfl,h1,y,_,rfl,h2,rfl⟩:=h;exact ⟨x,y,rfl,h1,h2⟩
theorem kP{α:Type}{H:Hp}{g:α->PyData}{fs:List α}{vs:List V}(h:aP H (fs.map g) vs){i:Nat}{v:V}(e:vs[i]?=some v):∃f,fs[i]?=some f/\bO H (g f) v:=by
 obtain ⟨d,h1,h2⟩:=h.get e;rw [aM] at h1;cases q:fs[i]? with
 | none=>rw [q] at h1;cases h1
 | some f=>rw [q] at h1;cases h1;exact ⟨f,rfl,h2⟩
theorem yA{α:Type}{H:Hp}{g:α->PyData}{fs:List α}{vs:List V}(h:aP H (fs.map g) vs){i:Nat}{f:α}(e:fs[i]?=some f):∃v,vs[i]?=some v/\bO H (g f) v :=
 h.get' (by rw [aM,e];rfl)
theorem jM{α:Type}{H:Hp}{g:α->PyData}{fs:List α}{vs:List V}(h:aP H (fs.map g) vs):vs.length=fs.length:=by rw [h.len,aA]
theorem iJ{α:Type}{l:List α}{i:Nat}{x:α}(h:l[i]?=some x):l.take (i+1)=l.take i++[x]:=by
 rw [gK,h];rfl
structure bZ(H:Hp)(p L:Addr):Prop where
 ex:∃(ns:List Int) (i r k:Int),H p=some (.lst [.ref L,.int i,.int r,.int k])/\H L=some (.lst (ns.map V.int))/\0<=i/\0<=r/\0<=k/\k<=ns.length/\ns.length<=63/\L≠p
theorem bZ.there{H:Hp}{p L:Addr}(F:bZ H p L):∃o,H p=some o:=by obtain ⟨ns,i,r,k,h,_⟩:=F.ex;exact ⟨_,h⟩
theorem bZ.lst{H:Hp}{p L:Addr}(F:bZ H p L):∃xs,H p=some (.lst xs):=by obtain ⟨ns,i,r,k,h,_⟩:=F.ex;exact ⟨_,h⟩
theorem bZ.ne{H:Hp}{p L q:Addr}(F:bZ H p L)(hq:H q=none):q≠p:=λe=>by
 subst e;obtain ⟨o,h⟩:=F.there;rw [h] at hq;cases hq
theorem bZ.neL{H:Hp}{p L q:Addr}(F:bZ H p L)(hq:H q=none):q≠L:=λe=>by
 subst e;obtain ⟨ns,i,r,k,h,h2,_⟩:=F.ex;rw [h2] at hq;cases hq
@[irreducible] def rC(K:PySem.W.Frag):Sp:=λvs H Q _=>∃(a:Addr) (ns:List Int),vs=[.ref a]/\fT K H a (ns.map V.int)/\ns.length<=63/\∀p L H',bZ H' p L->bF H H'->H p=none->H L=none->Q (.ref p) H'
@[irreducible] def lC:Sp:=λvs H Q _=>∃(p L:Addr) (m:Int),vs=[.ref p,.int m]/\bZ H p L/\0<m/\bits m<=9000/\∀x H',0<=x->x<m->bZ H' p L->aK p H H'->Q (.int x) H'
theorem eI{H:Hp}{Q:VK}{E:XK}{p L:Addr}{m:Int}(F:bZ H p L)(h:0<m)(hb:bits m<=9000)(k:∀x H',0<=x->x<m->bZ H' p L->aK p H H'->Q (.int x) H'):lC [.ref p,.int m] H Q E:=by
 unfold lC;exact ⟨p,L,m,rfl,F,h,hb,k⟩
theorem bitsle{i:Int}{n:Nat}(h:i.natAbs<2^n):bits i<=n:=PySem.intBits_le_iff.mpr h
theorem bZ.same{H H':Hp}{p L:Addr}(F:bZ H p L)(s:bF H H'):bZ H' p L:=by
 obtain ⟨ns,i,r,k,h1,h2,h3⟩:=F.ex;exact ⟨ns,i,r,k,s _ _ h1,s _ _ h2,h3⟩
theorem bZ.but{H H':Hp}{p L D:Addr}(F:bZ H p L)(s:aK D H H')(n1:D≠p)(n2:D≠L):bZ H' p L:=by
 obtain ⟨ns,i,r,k,h1,h2,h3⟩:=F.ex;exact ⟨ns,i,r,k,s.at (Ne.symm n1) h1,s.at (Ne.symm n2) h2,h3⟩
theorem JM{K:PySem.W.Frag}{H:Hp}{Q:VK}{E:XK}{a:Addr}{ns:List Int}(h:fT K H a (ns.map V.int))(hl:ns.length<=63)(k:∀p L H',bZ H' p L->bF H H'->H p=none->H L=none->Q (.ref p) H'):rC K [.ref a] H Q E:=by
 unfold rC;exact ⟨a,ns,rfl,h,hl,k⟩
@[irreducible] def sP(K:PySem.W.Frag):Sp:=λvs H Q _=>∃(a:Addr) (ns:List Int),vs=[.ref a]/\fT K H a (ns.map V.int)/\ns.length<=63/\∀H',Q (.bl true) H'
theorem MY{K:PySem.W.Frag}{H:Hp}{a:Addr}{ns:List Int}(h:fT K H a (ns.map V.int))(hl:ns.length<=63):sP K [.ref a] H (λv _=>v=.bl true) (λ_ _ _=>False):=by
 unfold sP;exact ⟨a,ns,rfl,h,hl,λ_=>rfl⟩
section
theorem aDs(F:iH K "_law_feed" "_law_feed" ZT f fd)(T:jK K mg c):dI P w K mg base dQ 1 f fd ["_law_script"] (rC K):=by
 refine F.oky aDW λvs H Q E h=>?_;unfold rC at h;obtain ⟨a,ns,rfl,hS,hl,k⟩:=h;refine ⟨rfl,λcdv A outer s hr=>?_⟩;refine ⟨_,(aX (cC (fO (aI (iY sC (by rfl) T.b_list Kk (aI (gB GY (aE 0) iD (iC aF)) aD)) (aI aF (aI aF (aI aF aD))))))),?_⟩;refine ⟨_,rfl,_,rfl,a,_,rfl,hS,λq1 h1=>?_⟩;refine ⟨q1,_,rfl,.inl (fT.of bJ),λq2 h2=>?_⟩;refine yF (by show 4<=64;decide) λq3 H3 h3 e3 s3=>?_;have n21:q2≠q1:=λe=>by subst e;rw [bJ] at h2;cases h2
 have e1:pO (ns.map V.int) none (some 63)=ns.map V.int:=by
  unfold pO;have:HT.hJ (ns.map V.int).length (ns.map V.int).length (some 63)=(ns.map V.int).length:=by
   rw [show ((63:Int))=((63:Nat):Int) from rfl,HT.AH,aA];omega
  rw [this,HT.vS,List.drop_zero,Nat.sub_zero];exact List.take_of_length_le (aG _)
 have s3':=s3;rw [e1] at s3;have hq2:=s3 q2 _ bJ;refine k q3 q2 H3 ⟨ns,0,0,0,e3,hq2,Int.le_refl _,Int.le_refl _,Int.le_refl _,Oo,hl,λe=>?_⟩ (((bF.upd h1).trans (bF.upd h2)).trans s3') ?_ ?_
 ·subst e;rw [bJ] at h3;cases h3
 ·exact ((bF.upd h1).trans (bF.upd h2)).free h3
 ·exact (bF.upd h1).free h2
theorem aDt(F:iH K "_law_draw" "_law_draw" ZU f fd)(T:jK K mg c):dI P w K mg base dQ 1 f fd ["_law_feed_here","_law_many"] lC:=by
 refine F.oky LG λvs H Q E h=>?_;unfold lC at h;obtain ⟨p,L,m,rfl,F,hm,hb,k⟩:=h;refine ⟨rfl,λcdv A outer s hr=>?_⟩;obtain ⟨ns,i,r,j,hp,hL,h0,h1,h2,h3,h4,hne⟩:=F.ex;refine ⟨_,(aJ (kG (bY eV (bH aZ (aE 0) aF (λ_ _=>rfl)) aF) (lG (aE 0) aF hU))
  (aJ (nJ PassesOwn.never (IX (YH (eB oI (bH aZ (aE 0) aF (λ_ _=>rfl)) aF (nomark _)) (RQ (eB OD (bH aZ (aE 0) aF (λ_ _=>rfl)) (eC fY (by rfl) T.b_len Kk (aI (bH aZ (aE 0) aF (λ_ _=>rfl)) aD)) (nomark _))))) (aJ (zO (gY (eB XL (eC FY (by rfl) T.b_abs Kk (aI (bH aZ (bH aZ (aE 0) aF (λ_ _=>rfl)) (bH aZ (aE 0) aF (λ_ _=>rfl)) (λ_ _=>rfl)) aD)) (bY FL aF aF) (nomark _)) (aX (kG (eC FY (by rfl) T.b_abs Kk (aI (bH aZ (bH aZ (aE 0) aF (λ_ _=>rfl)) (bH aZ (aE 0) aF (λ_ _=>rfl)) (λ_ _=>rfl)) aD)) (lG (aE 0) aF hU))) eQ))
  (aX (kG (bY eV (bH aZ (aE 0) aF (λ_ _=>rfl)) aF) (lG (aE 0) aF hU)))))
  (aJ (gY (eB CS (bH aZ (aE 0) aF (λ_ _=>rfl)) aF (nomark _)) (aJ (bN (i:=2) LG.nd rfl (Or.inl rfl) (bY lH (bH aZ (aE 0) aF (λ_ _=>rfl)) (aE 1)))
  (aJ (kG (bY gM (bH aZ (aE 0) aF (λ_ _=>rfl)) (aE 1)) (lG (aE 0) aF hU))
  (aX (cC (aE 2))))) eQ)
  (aJ (bN (i:=3) LG.nd rfl (Or.inl rfl) aF)
  (aJ (zO (gY (eB CS (eC fY (by rfl) T.b_len Kk (aI (bH aZ (aE 0) aF (λ_ _=>rfl)) aD)) aF (nomark _)) (aX (bN (i:=3) LG.nd rfl (Or.inl rfl) (bH aZ (bH aZ (aE 0) aF (λ_ _=>rfl)) (bY lH (bH aZ (aE 0) aF (λ_ _=>rfl)) (eC fY (by rfl) T.b_len Kk (aI (bH aZ (aE 0) aF (λ_ _=>rfl)) aD))) (λ_ _=>rfl)))) eQ))
  (aJ (bN (i:=4) LG.nd rfl (Or.inl rfl) (bY lH (bY eV (bY eV (bY eK (bY lH (aE 3) aF) aF) (bY eK aF (bH aZ (aE 0) aF (λ_ _=>rfl)))) aF) aF))
  (aJ (bN (i:=4) LG.nd rfl (Or.inl rfl) (bY lH (bY eK (aE 4) (bY eV (aE 4) aF)) aF))
  (aX (cC (bY lH (bY lH (bY eK (aE 4) aF) aF) (aE 1))))))))))),?_⟩
 refine ⟨_,rfl,?_⟩;refine lF hp rfl ?_;refine ⟨_,_,rfl,rfl,?_⟩;refine ⟨_,rfl,?_⟩;refine SN hp rfl λH1 hp1' s1=>?_;have hp1:H1 p=some (.lst [.ref L,.int (i+1),.int r,.int j]):=hp1';clear hp1';refine qN (λn σ H'=>∃r j:Int,σ=[some (.ref p),some (.int m),none,none,none]/\H' p=some (.lst [.ref L,.int (i+1),.int r,.int j])/\0<=r/\0<=j/\j<=ns.length/\aK p H H'/\n=((ns.length:Int)-j).toNat)
  (λσ H'=>∃r j:Int,σ=[some (.ref p),some (.int m),none,none,none]/\H' p=some (.lst [.ref L,.int (i+1),.int r,.int j])/\0<=r/\0<=j/\j<=ns.length/\aK p H H')
  _ ⟨r,j,rfl,hp1,h1,h2,h3,s1,rfl⟩ ?_ ?_
 all_goals clear hp h1 h2 h3 hp1 s1
 ·rintro n σ H2 ⟨r,j,rfl,hp2,h1,h2,h3,s2,rfl⟩;have hL2:=s2.at hne hL;refine ⟨_,rfl,?_⟩;refine lF hp2 rfl ?_;refine ⟨rfl,_,rfl,?_⟩;refine qG (λe0=>?_) (λe0=>?_)
  ·refine ⟨_,rfl,?_⟩;refine lF hp2 rfl ?_;refine ⟨_,rfl,?_⟩;refine lF hp2 rfl ?_;refine XF hL2 ?_;refine ⟨_,_,rfl,rfl,_,rfl,?_⟩;refine qG (λe1=>?_) (λe1=>?_)
   ·rw [aA] at e1;have hj:∃z,ns[j.toNat]?=some z:=⟨_,aC Oo⟩;obtain ⟨z,hz⟩:=hj;have hat:BJ (ns.map V.int) j=some (.int z):=by
     have:=cK (xs:=ns.map V.int) (j:=j.toNat) (v:=V.int z) (by rw [aM,hz];rfl)
     rwa [Int.toNat_of_nonneg h2] at this
    refine ⟨_,λ_ _ h=>h,?_⟩;refine ⟨_,rfl,?_⟩;refine lF hp2 rfl ?_;refine ⟨_,rfl,?_⟩;refine lF hp2 rfl ?_;refine lF hL2 hat ?_;refine raI ?_;refine ⟨_,_,rfl,rfl,⟨Dd,Dd,Dd⟩,_,_,rfl,rfl,_,rfl,?_⟩;refine qG (λe2=>?_) (λe2=>?_)
    ·refine ⟨_,rfl,?_⟩;refine lF hp2 rfl ?_;refine ⟨_,rfl,?_⟩;refine lF hp2 rfl ?_;refine lF hL2 hat ?_;refine raI ?_;refine ⟨_,rfl,?_⟩;refine SN hp2 rfl λH3 hp3' s3=>?_;have hp3:H3 p=some (.lst [.ref L,.int (i+1),.int (z.natAbs:Int),.int j]):=hp3';refine ⟨_,rfl,?_⟩;refine lF hp3 rfl ?_;refine ⟨_,_,rfl,rfl,?_⟩;refine ⟨_,rfl,?_⟩;refine SN hp3 rfl λH4 hp4' s4=>?_;exact ⟨_,Oo,_,j+1,rfl,hp4',Oo,Oo,Oo,(s2.trans s3).trans s4,rfl⟩
    ·refine ⟨_,rfl,?_⟩;refine lF hp2 rfl ?_;refine ⟨_,_,rfl,rfl,?_⟩;refine ⟨_,rfl,?_⟩;refine SN hp2 rfl λH4 hp4' s4=>?_;exact ⟨_,Oo,_,j+1,rfl,hp4',h1,Oo,Oo,s2.trans s4,rfl⟩
   ·rw [aA] at e1;exact ⟨r,j,rfl,hp2,h1,h2,h3,s2⟩
  ·refine kY ?_;exact ⟨r,j,rfl,hp2,h1,h2,h3,s2⟩
 ·rintro σ H2 ⟨r,j,rfl,hp2,h1,h2,h3,s2⟩;have hL2:=s2.at hne hL;refine ⟨_,rfl,?_⟩;refine lF hp2 rfl ?_;refine ⟨_,_,rfl,rfl,_,rfl,?_⟩;refine qG (λe0=>?_) (λe0=>?_)
  ·refine ⟨_,rfl,?_⟩;refine lF hp2 rfl ?_;refine ⟨_,rfl,_,_,rfl,rfl,hm,?_⟩;refine ⟨_,rfl,?_⟩;refine lF hp2 rfl ?_;refine ⟨_,rfl,_,_,rfl,rfl,⟨hm,hb⟩,?_⟩;refine ⟨_,rfl,?_⟩;refine SN hp2 rfl λH3 hp3 s3=>?_;refine ⟨_,rfl,?_⟩;exact k _ H3 (Int.emod_nonneg _ Oo) (Int.emod_lt_of_pos _ hm) ⟨ns,i+1,r/m,j,hp3,s3.at hne hL2,Oo,Int.ediv_nonneg h1 Oo,h2,h3,h4,hne⟩ (s2.trans s3)
  ·refine ⟨λσ H3=>∃c:Int,σ=[some (.ref p),some (.int m),none,some (.int c),none]/\H3=H2,?_,?_⟩
   ·rintro σ H3 ⟨c,rfl,rfl⟩;have hc:=Int.emod_nonneg c (b:=2147483647) Dd;have hc':=Int.emod_lt_of_pos c (b:=2147483647) Dd;refine ⟨_,rfl,_,_,rfl,rfl,(by show (0:Int)<2147483647;decide),_,_,rfl,rfl,IntMulOk.of_right Kk,?_⟩;refine ⟨_,rfl,?_⟩;refine lF hp2 rfl ?_;refine ⟨_,_,rfl,rfl,IntMulOk.of_left Kk,_,_,rfl,rfl,_,_,rfl,rfl,_,_,rfl,rfl,(by show (0:Int)<2147483629;decide),?_⟩;generalize hz:(c % 2147483647*48271+7919*(i+1)+12345) % 2147483629=z;have z0:0<=z:=by rw [<-hz];exact Int.emod_nonneg _ Dd
    have z1:z<2147483629:=by rw [<-hz];exact Int.emod_lt_of_pos _ Dd
    refine ⟨_,rfl,_,rfl,_,_,rfl,rfl,_,_,rfl,rfl,IntMulOk.of_left (PySem.intBits_le_64 Oo Oo),_,_,rfl,rfl,(by show (0:Int)<2147483587;decide),?_⟩;generalize hy:z*(z+40692) % 2147483587=y;have y0:0<=y:=by rw [<-hy];exact Int.emod_nonneg _ Dd
    have y1:y<2147483587:=by rw [<-hy];exact Int.emod_lt_of_pos _ Dd
    refine ⟨_,rfl,_,_,rfl,rfl,IntMulOk.of_left (PySem.intBits_le_64 Oo Oo),_,_,rfl,rfl,(by show (0:Int)<2147483563;decide),?_⟩;refine ⟨_,rfl,_,_,rfl,rfl,hm,?_⟩;exact k _ H3 (Int.emod_nonneg _ Oo) (Int.emod_lt_of_pos _ hm) ⟨ns,i+1,r,j,hp2,hL2,Oo,h1,h2,h3,h4,hne⟩ s2
   ·refine ⟨_,rfl,?_⟩;refine lF hp2 rfl ?_;refine XF hL2 ?_;refine ⟨_,_,rfl,rfl,_,rfl,?_⟩;refine qG (λe1=>?_) (λe1=>?_)
    ·rw [aA] at e1;refine ⟨_,rfl,?_⟩;refine lF hp2 rfl ?_;refine ⟨_,rfl,?_⟩;refine lF hp2 rfl ?_;refine ⟨_,rfl,?_⟩;refine lF hp2 rfl ?_;refine XF hL2 ?_;rw [aA];refine ⟨_,_,rfl,rfl,e1,?_⟩;have g0:=Int.emod_nonneg (i+1) (b:=(ns.length:Int)) Oo;have g1:=Int.emod_lt_of_pos (i+1) e1;have hj:∃z,ns[((i+1) % (ns.length:Int)).toNat]?=some z:=⟨_,aC Oo⟩;obtain ⟨z,hz⟩:=hj;have hat:BJ (ns.map V.int) ((i+1) % (ns.length:Int))=some (.int z):=by
      have:=cK (xs:=ns.map V.int) (j:=((i+1) % (ns.length:Int)).toNat) (v:=V.int z) (by rw [aM,hz];rfl)
      rwa [Int.toNat_of_nonneg g0] at this
     refine lF hL2 hat ?_;exact ⟨z,rfl,rfl⟩
    ·exact ⟨0,rfl,rfl⟩
end
structure uH(n:Nat)(fs:List Fr):Prop where
 len:fs.length=n
 low:∀f∈fs,cS f
 pos:∀f∈fs,0<=f.1
 le:∀f∈fs,f.1<=f.2
 dn:∀f∈fs,f.2<=1000
 one:gI fs=(1,1)
def pool:List Str:=["a","ab","ways","onto","abc","sayer","ruler","b","prices","worthy","nones","zzzzzzzz"]
def rot(t:Nat):List Str:=pool.drop t++pool.take t
structure LJ(t o F W:Nat)(fs:List Str)(ws:List (Str × List Fr)):Prop where
 ht:t<12
 ho:o=0\/o=2\/o=5
 hF:F=2\/F=3\/F=4
 hW:W=2\/W=3\/W=4
 hfs:fs=(rot t).take F
 hns:ws.map (·.1)=((rot t).drop o).take W
 sh:∀w∈ws,uH F w.2
theorem AK{t:Nat}(h:t<12):(rot t).length=12:=by
 unfold rot;rw [bK,List.length_drop,bT];show 12-t+min t 12=12;omega
theorem LJ.lenF{t o F W:Nat}{fs:List Str}{ws:List (Str × List Fr)}(h:LJ t o F W fs ws):fs.length=F:=by
 rw [h.hfs,bT,AK h.ht];have:=h.hF;omega
theorem LJ.lenW{t o F W:Nat}{fs:List Str}{ws:List (Str × List Fr)}(h:LJ t o F W fs ws):ws.length=W:=by
 have e:=congrArg List.length h.hns;rw [aA,bT,List.length_drop,AK h.ht] at e;have:=h.hW;have:=h.ho;omega
theorem bZ.like(p L:Addr):oT p L (λH=>bZ H p L) :=
 ⟨λD H1 H2 n1 n2 s F=>F.but s n1 n2,λH1 H2 s F=>F.same s,λH' F=>F.lst,λH' D F h=>⟨F.ne h,F.neL h⟩⟩
theorem zJ{H:Hp}:∀fs:List Int,aP H (fs.map PyData.int) (fs.map V.int)
 | []=>aP.nil
 | f::fs=>aP.cons (bO.int f) (zJ fs)
@[irreducible] def jZ:Sp:=λvs H Q _=>∃(p L:Addr) (m:Nat),vs=[.ref p,.int (m:Int)]/\bZ H p L/\0<m/\m<=4/\∀v fs H',bZ H' p L->aK p H H'->bO H' (qL fs) v->uH m fs->Q v H'
theorem tW{H:Hp}{Q:VK}{E:XK}{p L:Addr}{m:Nat}(F:bZ H p L)(h0:0<m)(h1:m<=4)(k:∀v fs H',bZ H' p L->aK p H H'->bO H' (qL fs) v->uH m fs->Q v H'):jZ [.ref p,.int (m:Int)] H Q E:=by unfold jZ;exact ⟨p,L,m,rfl,F,h0,h1,k⟩
@[irreducible] def nP:Sp:=λvs H Q _=>∃(p L:Addr),vs=[.ref p]/\bZ H p L/\∀v t o F W fs ws H',bZ H' p L->aK p H H'->bO H' (uK fs ws) v->LJ t o F W fs ws->Q v H'
theorem EN{H:Hp}{Q:VK}{E:XK}{p L:Addr}(F:bZ H p L)(k:∀v t o F W fs ws H',bZ H' p L->aK p H H'->bO H' (uK fs ws) v->LJ t o F W fs ws->Q v H'):nP [.ref p] H Q E:=by unfold nP;exact ⟨p,L,rfl,F,k⟩
theorem mI:∀{ns:List Int},(∀n∈ns,0<=n)->0<=ns.sum
 | [],_=>Dd
 | n::ns,h=>by
  have:=mI λm hm=>h m (aH _ hm);have:=h n (by simp);rw [List.sum_cons];omega
theorem oU{n:Int}:∀{ns:List Int},(∀n∈ns,0<=n)->n∈ns->n<=ns.sum
 | m::ns,h,hn=>by
  have h1:=mI λm hm=>h m (aH _ hm);have h2:=h m (by simp);rw [List.sum_cons];rcases aQ.mp hn with rfl | hn
  ·omega
  ·have:=oU (λm hm=>h m (aH _ hm)) hn;omega
theorem MS{B:Nat}:∀{ns:List Int},(∀n∈ns,n<=B)->ns.sum<=B*ns.length
 | [],_=>by simp
 | n::ns,h=>by
  have h1:=MS λm hm=>h m (aH _ hm);have h2:=h n (by simp);rw [List.sum_cons,cF];have:(B:Int)*((ns.length+1:Nat):Int)=B*ns.length+B:=by rw [Int.natCast_add,Int.mul_add];simp
  omega
theorem OA{ns:List Int}(h0:∀n∈ns,0<=n)(h1:∀n∈ns,n<=200)(hp:∃n∈ns,0<n)(hl:ns.length<=4):0<ns.sum/\ns.sum<=800/\uH ns.length (ns.map λn=>lw n ns.sum):=by
 obtain ⟨n,hn,pn⟩:=hp;have a1:=oU h0 hn;have a2:=MS (B:=200) h1;have hS:0<ns.sum:=Oo;refine ⟨hS,Oo,by rw [aA],λf hf=>?_,λf hf=>?_,λf hf=>?_,λf hf=>?_,?_⟩
 ·obtain ⟨m,hm,rfl⟩:=aU.mp hf;exact eT hS
 ·obtain ⟨m,hm,rfl⟩:=aU.mp hf;exact Int.ediv_nonneg (h0 m hm) Oo
 ·obtain ⟨m,hm,rfl⟩:=aU.mp hf;have c:=iQ (n:=m) (d:=ns.sum);have p:=(eT (n:=m) hS).pos;have b:=oU h0 hm;refine Int.le_of_mul_le_mul_right (a:=ns.sum) ?_ hS;rw [c,Int.mul_comm];exact Int.mul_le_mul_of_nonneg_left b Oo
 ·obtain ⟨m,hm,rfl⟩:=aU.mp hf;have:=(OM (n:=m) hS).1;omega
 ·rw [lO hS,FQ hS]
section
theorem aDl(F:iH K "_law_shares" "_law_shares" JR f fd)(T:jK K mg c)
  (FQ11:gT dQ P w K mg base 1 "_law_draw" ["_law_feed_here","_law_many"] lC) (FQ14:gT dQ P w K mg base 1 "_law_low" ["_law_n","_law_d"] nU):dI P w K mg base dQ 2 f fd ["_law_feed_here","_law_many"] jZ:=by
 refine F.oky WA λvs H Q E h=>?_;unfold jZ at h;obtain ⟨p,L,m,rfl,F,m0,m4,k⟩:=h;refine ⟨rfl,λcdv A outer s hr=>?_⟩;have bm:bits (m:Int)<=9000:=xA (n:=9000) (aT (show (m:Int).natAbs<2^6 by show (m:Int).natAbs<64;omega) (aV Dd Dd));refine ⟨_,(aJ (bN (i:=2) WA.nd rfl (Or.inr rfl) (bH aZ (fO (aI aF (aI aF (aI aF aD)))) (bW FQ11 (hr.mono Dd) (aI (aE 0) (aI aF aD))) (λ_ _=>rfl)))
  (aJ (bN (i:=3) WA.nd rfl (Or.inr rfl) (eS (dY.of (psc:=aO JR) (N:=["_law_feed_here","_law_many","_law_most","_law_parts"]) (N':=["_law_k","_law_feed_here","_law_most"]) (js:=[0,2]) Kk rfl rfl rfl) (dD rfl T.b_range (aI (aE 1) aD)) (λ_ _ _ _=>eJ) (λ_ _ _ _=>(bY eK (bW FQ11 (hr.mono Dd) (aI (aE 1) (aI (aE 2) aD))) (bW FQ11 (hr.mono Dd) (aI (aE 1) (aI aF aD)))))))
  (aJ (bN (i:=3) WA.nd rfl (Or.inr rfl) (eS (dY.of (psc:=aO JR) (N:=["_law_feed_here","_law_many","_law_most","_law_parts"]) (N':=["_law_part","_law_most"]) (js:=[2]) Kk rfl rfl rfl) (iE (aE 3)) (λ_ _ _ _=>eJ) (λ_ _ _ _=>(bY lH (aE 0) (bY eV (aE 1) aF)))))
  (aJ (kG (bY eV aF (bW FQ11 (hr.mono Dd) (aI (aE 0) (aI (aE 2) aD)))) (lG (aE 3) (bW FQ11 (hr.mono Dd) (aI (aE 0) (aI (aE 1) aD))) hU))
  (aX (cC (iY dJ (by rfl) T.b_tuple Kk (aI (eS (dY.of (psc:=aO JR) (N:=["_law_feed_here","_law_many","_law_most","_law_parts"]) (N':=["_law_part","_law_parts"]) (js:=[3]) Kk rfl rfl rfl) (iE (aE 3)) (λ_ _ _ _=>eJ) (λ_ _ _ _=>(bW FQ14 (hr.mono Dd) (aI (aE 0) (aI (eC (IM K rfl) (by rfl) T.b_sum Kk (aI (aE 1) aD)) aD))))) aD)))))))),?_⟩
 refine yF (by show 3<=64;decide) λq1 H1 hq1 e1 s1=>?_;refine ⟨_,rfl,?_⟩;refine eI (F.same s1) Dd Kk λx H2 x0 x1 F2 s2=>?_;obtain ⟨v,hat,hmem,_⟩:=uY (xs:=[V.int 6,V.int 6,V.int 200]) x0 x1;refine lF (s2.at (F.ne hq1) e1) hat ?_;have hv:∃M:Int,v=.int M/\0<M/\M<=200/\bits M<=9000:=by
  simp only [aQ,List.not_mem_nil,or_false] at hmem;rcases hmem with rfl | rfl | rfl <;> exact ⟨_,rfl,Dd,Dd,Kk⟩
 obtain ⟨M,rfl,M0,M1,bM⟩:=hv;have S2:=s1.but.trans s2;refine ⟨_,rfl,_,rfl,Oo,Oo,?_⟩;refine QB (bZ.like p L) F2 (λ_ y _=>∃n,y=.int n/\0<=n) (λ_ _ _ _ _ h=>h) Oo (λi H' Q' hi F' s' k'=>?_) (λD ys H3 hD hD3 F3 s3 hy hr3=>?_)
 ·refine ⟨_,rfl,_,rfl,?_⟩;refine eI F' M0 bM λa H4 a0 a1 F4 s4=>?_;refine ⟨_,rfl,?_⟩;refine eI F4 Dd Kk λb H5 b0 b1 F5 s5=>?_;refine ⟨_,_,rfl,rfl,IntMulOk.of_left (PySem.intBits_le_64 Oo Oo),?_⟩;exact k' _ H5 F5 (s4.trans s5) ⟨_,rfl,Int.mul_nonneg a0 b0⟩
 ·obtain ⟨ns,rfl,hn⟩:=rQ (P:=λ_ n=>0<=n) hr3;have npD:=F2.ne hD;refine ⟨_,rfl,D,rfl,⟨_,fT.of hD3⟩,?_⟩;refine pG (λ_ y _=>∃n,y=.int n/\0<=n/\n<=200) (λ_ _ _ _ _ h=>h) (by rw [hy];omega) hD3 (λi x H' Q' hx s' k'=>?_) (λD2 ys H4 hD2 hD4 s4 hy4 hr4=>?_)
  ·rw [aM] at hx;obtain ⟨n,hn',rfl⟩:=(show ∃n,ns[i]?=some n/\V.int n=x by
    cases q:ns[i]? with
    | none=>rw [q] at hx;cases hx
    | some n=>rw [q] at hx;cases hx;exact ⟨n,rfl,rfl⟩)
   refine ⟨_,rfl,_,rfl,_,_,rfl,rfl,_,_,rfl,rfl,(by show 0<M+1;omega),?_⟩;have c0:=Int.emod_nonneg n (b:=M+1) Oo;have c1:=Int.emod_lt_of_pos n (b:=M+1) Oo;exact k' _ H' (bF.refl _) ⟨_,rfl,c0,Oo⟩
  ·obtain ⟨ms,rfl,hm⟩:=rQ (P:=λ_ n=>0<=n/\n<=200) hr4;have F4:=F3.same s4;have lms:ms.length=m:=by
    rw [aA] at hy4 hy;rw [aA] at hy4;omega
   have np2:=F3.ne hD2;refine ⟨_,rfl,_,rfl,?_⟩;refine eI F4 M0 bM λa H5 a0 a1 F5 s5=>?_;refine ⟨_,_,rfl,rfl,?_⟩;refine ⟨_,rfl,_,rfl,_,rfl,?_⟩;refine eI F5 Oo bm λb H6 b0 b1 F6 s6=>?_;have hD6:=s6.at np2 (s5.at np2 hD4);have hj:xB (ms.map V.int).length b=some b.toNat:=by
    unfold xB;rw [if_pos b0,if_pos (by rw [aA];omega)]
   refine SN hD6 hj λH7 e7 s7=>?_;rw [<-List.map_set] at e7;have nL2:=F3.neL hD2;have F7:=F6.but s7 np2 nL2;have hb:b.toNat<ms.length:=Oo;obtain ⟨hS,hS8,okS⟩:=OA (ns:=ms.set b.toNat (1+a))
    (λn hn=>by
     rcases List.mem_or_eq_of_mem_set hn with h | rfl
     ·obtain ⟨i,hi⟩:=cN.mp h;exact (hm i n hi).1
     ·omega)
    (λn hn=>by
     rcases List.mem_or_eq_of_mem_set hn with h | rfl
     ·obtain ⟨i,hi⟩:=cN.mp h;exact (hm i n hi).2
     ·omega)
    ⟨1+a,cN.mpr ⟨b.toNat,by rw [List.getElem?_set_self hb]⟩,Oo⟩ (by rw [List.length_set];omega)
   have lt:(ms.set b.toNat (1+a)).length=m:=by rw [List.length_set];exact lms
   generalize ms.set b.toNat (1+a)=zs at *;have SF:aK p H H7:=by
    refine aK.thru ?_ (((S2.trans s3).trans s4.but).trans (s5.trans s6)) s7;exact aK.free (p:=p) (S2.trans s3) F3.there hD2
   refine ⟨_,rfl,D2,rfl,⟨_,fT.of e7⟩,?_⟩;refine pG (λi y H'=>∃n,zs[i]?=some n/\bO H' (fK (lw n zs.sum)) y) (λi y H1 H2 s ⟨n,h1,h2⟩=>⟨n,h1,h2.flat s (dB _)⟩) (by rw [aA];omega) e7 (λi x H' Q' hx s' k'=>?_) (λD3 ys H8 hD3 hD8 s8 hy8 hr8=>?_)
   ·rw [aM] at hx;obtain ⟨n,hn',rfl⟩:=(show ∃n,zs[i]?=some n/\V.int n=x by
     cases q:zs[i]? with
     | none=>rw [q] at hx;cases hx
     | some n=>rw [q] at hx;cases hx;exact ⟨n,rfl,rfl⟩)
    refine ⟨_,rfl,_,rfl,?_⟩;refine rsI (fT.of (s' _ _ e7)) ?_;refine qZ hS (aT (show zs.sum.natAbs<2^10 by show zs.sum.natAbs<1024;omega) (aV Dd Dd)) ?_;intro q9 H9 hq9 e9 s9;exact k' _ H9 s9 ⟨n,hn',fD e9⟩
   ·refine ⟨D3,ys,rfl,.inl ⟨fT.of hD8,λl hl=>?_⟩⟩;have sl:=bF.upd (o:=.tup ys) hl;have el:(upd H8 l (.tup ys)) l=some (.tup ys):=bJ;generalize upd H8 l (.tup ys)=H9 at sl el;refine k _ (zs.map λn=>lw n zs.sum) H9 ((F7.same s8).same sl) (SF.trans (s8.trans sl).but) (bO.tup el ?_) (lt ▸ okS);refine aP.ofIdx (by rw [hy8,aA,aA,aA]) λi y hi=>?_;obtain ⟨n,h1,h2⟩:=hr8 i y hi;exact ⟨fK (lw n zs.sum),by rw [aM,aM,h1];rfl,h2.same sl⟩
theorem sZ{x:Int}(h:0<=x):∃t:Nat,x=(t:Int):=⟨x.toNat,Oo⟩
theorem aDh(F:iH K "_law_trial" "_law_trial" SZ f fd)(T:jK K mg c)
  (FQ11:gT dQ P w K mg base 1 "_law_draw" ["_law_feed_here","_law_many"] lC) (FQ19:gT dQ P w K mg base 2 "_law_shares" ["_law_feed_here","_law_many"] jZ):dI P w K mg base dQ 3 f fd ["_law_feed_here"] nP:=by
 refine F.oky LF λvs H Q E h=>?_;unfold nP at h;obtain ⟨p,L,rfl,F,k⟩:=h;refine ⟨rfl,λcdv A outer s hr=>?_⟩;refine ⟨_,(aJ (bN (i:=1) LF.nd rfl (Or.inl rfl) (fO (aI dL (aI dL (aI dL (aI dL (aI dL (aI dL (aI dL (aI dL (aI dL (aI dL (aI dL (aI dL aD))))))))))))))
  (aJ (bN (i:=2) LF.nd rfl (Or.inl rfl) (bW FQ11 (hr.mono Dd) (aI (aE 0) (aI aF aD))))
  (aJ (bN (i:=1) LF.nd rfl (Or.inl rfl) (bY OE (gB (oC K) (aE 1) (iC (aE 2)) iD) (gB (oC K) (aE 1) iD (iC (aE 2)))))
  (aJ (bN (i:=3) LF.nd rfl (Or.inr rfl) (gB (oC K) (aE 1) iD (iC (bH aZ (fO (aI aF (aI aF (aI aF (aI aF aD))))) (bW FQ11 (hr.mono Dd) (aI (aE 0) (aI aF aD))) (λ_ _=>rfl)))))
  (aJ (bN (i:=4) LF.nd rfl (Or.inl rfl) (gB (oC K) (gB (oC K) (aE 1) (iC (bH aZ (fO (aI aF (aI aF (aI aF aD)))) (bW FQ11 (hr.mono Dd) (aI (aE 0) (aI aF aD))) (λ_ _=>rfl))) iD) iD (iC (bH aZ (fO (aI aF (aI aF (aI aF (aI aF aD))))) (bW FQ11 (hr.mono Dd) (aI (aE 0) (aI aF aD))) (λ_ _=>rfl)))))
  (aX (cC (dO (aI (iY dJ (by rfl) T.b_tuple Kk (aI (aE 3) aD)) (aI (iY dJ (by rfl) T.b_tuple Kk (aI (eS (dY.of (psc:=aO SZ) (N:=["_law_feed_here","_law_pool","_law_turn","_law_faces","_law_ways"]) (N':=["_law_name","_law_feed_here","_law_faces"]) (js:=[0,3]) Kk rfl rfl rfl) (iE (aE 4)) (λ_ _ _ _=>eJ) (λ_ _ _ _=>(dO (aI (aE 0) (aI (bW FQ19 (hr.mono Dd) (aI (aE 1) (aI (eC (IN K) (by rfl) T.b_len Kk (aI (aE 2) aD)) aD))) aD))))) aD)) aD)))))))))),?_⟩
 refine yF (by show 12<=64;decide) λq1 H1 hq1 e1 s1=>?_;have e1':H1 q1=some (.lst (pool.map V.str)):=e1;refine ⟨_,rfl,?_⟩;refine eI (F.same s1) Dd Kk λx H2 x0 x1 F2 s2=>?_;obtain ⟨t,rfl⟩:=sZ x0;have e2:=s2.at (F.ne hq1) e1';have S2:aK p H H2:=s1.but.trans s2;refine ⟨_,rfl,_,rfl,_,rfl,?_⟩;refine slL e2 (ys:=(pool.drop t).map V.str) (by rw [BF,List.map_drop]) λq3 H3 hq3 e3 s3=>?_;refine ⟨_,rfl,_,rfl,_,rfl,?_⟩;refine slL (s3 _ _ e2) (ys:=(pool.take t).map V.str) (by rw [uU,List.map_take]) λq4 H4 hq4 e4 s4=>?_;have hp12:pool.length=12:=rfl;refine aCh (s4 _ _ e3) e4 (by rw [aA,aA,List.length_drop,bT];omega) λq5 H5 hq5 e5 s5=>?_;have e5':H5 q5=some (.lst ((rot t).map V.str)):=by rw [e5];unfold rot;rw [bL]
 have ht:t<12:=Oo;have S5:aK p H H5:=S2.trans ((s3.trans s4).trans s5).but;have F5:=((F2.same s3).same s4).same s5;have n5:q5≠p:=((F2.same s3).same s4).ne hq5;clear e1 e1' e2 e3 e4 e5 s3 s4 s5 hq3 hq4 hq1 s1 s2;refine ⟨_,rfl,?_⟩;refine yF (by show 4<=64;decide) λq6 H6 hq6 e6 s6=>?_;refine ⟨_,rfl,?_⟩;refine eI (F5.same s6) Dd Kk λy H7 y0 y1 F7 s7=>?_;obtain ⟨v,hat,hmem,_⟩:=uY (xs:=[V.int 2,V.int 2,V.int 3,V.int 4]) y0 y1;refine lF (s7.at (F5.ne hq6) e6) hat ?_;have hv:∃n:Nat,v=.int (n:Int)/\(n=2\/n=3\/n=4):=by
  simp only [aQ,List.not_mem_nil,or_false] at hmem;rcases hmem with rfl | rfl | rfl | rfl
  ·exact ⟨2,rfl,Dd⟩
  ·exact ⟨2,rfl,Dd⟩
  ·exact ⟨3,rfl,Dd⟩
  ·exact ⟨4,rfl,Dd⟩
 obtain ⟨nF,rfl,hF⟩:=hv;have e7:=s7.at n5 (s6 _ _ e5');refine ⟨_,rfl,?_⟩;refine slL e7 (ys:=((rot t).take nF).map V.str) (by rw [uU,List.map_take]) λq8 H8 hq8 e8 s8=>?_;have S8:aK p H H8:=((S5.trans s6.but).trans s7).trans s8.but;have F8:=F7.same s8;have n8:q8≠p:=F7.ne hq8;have e8p:=s8 _ _ e7;clear e6 hq6 s6 s7 hat hmem e7 e5';refine ⟨_,rfl,?_⟩;refine yF (by show 3<=64;decide) λq9 H9 hq9 e9 s9=>?_;refine ⟨_,rfl,?_⟩;refine eI (F8.same s9) Dd Kk λz H10 z0 z1 F10 s10=>?_;obtain ⟨v,hat,hmem,_⟩:=uY (xs:=[V.int 0,V.int 2,V.int 5]) z0 z1;refine lF (s10.at (F8.ne hq9) e9) hat ?_;have hv:∃n:Nat,v=.int (n:Int)/\(n=0\/n=2\/n=5):=by
  simp only [aQ,List.not_mem_nil,or_false] at hmem;rcases hmem with rfl | rfl | rfl
  ·exact ⟨0,rfl,Dd⟩
  ·exact ⟨2,rfl,Dd⟩
  ·exact ⟨5,rfl,Dd⟩
 obtain ⟨o,rfl,ho⟩:=hv;refine ⟨_,rfl,?_⟩;refine slL (s10.at n5 (s9 _ _ e8p)) (ys:=((rot t).drop o).map V.str) (by rw [BF,List.map_drop]) λq11 H11 hq11 e11 s11=>?_;have F11:=F10.same s11;have n11:q11≠p:=F10.ne hq11;have e11f:=s11 _ _ (s10.at n8 (s9 _ _ e8));have S11:aK p H H11:=((S8.trans s9.but).trans s10).trans s11.but;clear e9 hq9 s9 s10 hat hmem;refine yF (by show 4<=64;decide) λq12 H12 hq12 e12 s12=>?_;refine ⟨_,rfl,?_⟩;refine eI (F11.same s12) Dd Kk λy H13 y0 y1 F13 s13=>?_;obtain ⟨v,hat,hmem,_⟩:=uY (xs:=[V.int 2,V.int 2,V.int 3,V.int 4]) y0 y1;refine lF (s13.at (F11.ne hq12) e12) hat ?_;have hv:∃n:Nat,v=.int (n:Int)/\(n=2\/n=3\/n=4):=by
  simp only [aQ,List.not_mem_nil,or_false] at hmem;rcases hmem with rfl | rfl | rfl | rfl
  ·exact ⟨2,rfl,Dd⟩
  ·exact ⟨2,rfl,Dd⟩
  ·exact ⟨3,rfl,Dd⟩
  ·exact ⟨4,rfl,Dd⟩
 obtain ⟨nW,rfl,hW⟩:=hv;refine ⟨_,rfl,?_⟩;refine slL (s13.at n11 (s12 _ _ e11)) (ys:=(((rot t).drop o).take nW).map V.str) (by rw [uU,List.map_take]) λq14 H14 hq14 e14 s14=>?_;have F14:=F13.same s14;have n14:q14≠p:=F13.ne hq14;have e14f:=s14 _ _ (s13.at n8 (s12 _ _ e11f));have S14:aK p H H14:=((S11.trans s12.but).trans s13).trans s14.but;clear e12 hq12 s12 s13 hat hmem e11 e11f;have lr:=AK ht;refine ⟨_,rfl,q8,_,rfl,.inl ⟨fT.of e14f,λl hl=>?_⟩⟩;have sl:=bF.upd (o:=.tup (((rot t).take nF).map V.str)) hl;have el:(upd H14 l (.tup (((rot t).take nF).map V.str))) l=some (.tup (((rot t).take nF).map V.str)):=bJ;generalize upd H14 l (.tup (((rot t).take nF).map V.str))=H15 at sl el;have F15:=F14.same sl;refine ⟨_,rfl,q14,rfl,⟨_,fT.of (sl _ _ e14)⟩,?_⟩;refine QC (bZ.like p L) F15 (λi y H'=>∃w:Str × List Fr,(((rot t).drop o).take nW)[i]?=some w.1/\uH nF w.2/\bO H' (wD w) y) (λi y H1 H2 s ⟨w,h1,h2,h3⟩=>⟨w,h1,h2,h3.flat s (uJ _)⟩) (by rw [aA,bT];omega) n14 (sl _ _ e14) (λi x H' Q' hx F' s' k'=>?_) (λD ys H16 hD hD16 F16 s16 hy16 hr16=>?_)
 ·rw [aM] at hx;obtain ⟨nm,hn',rfl⟩:=(show ∃n,(((rot t).drop o).take nW)[i]?=some n/\V.str n=x by
   cases q:(((rot t).drop o).take nW)[i]? with
   | none=>rw [q] at hx;cases hx
   | some n=>rw [q] at hx;cases hx;exact ⟨n,rfl,rfl⟩)
  refine ⟨_,rfl,_,rfl,_,rfl,?_⟩;refine XF (s'.at n8 (sl _ _ e14f)) ?_;have lf:(((rot t).take nF).map V.str).length=nF:=by rw [aA,bT];omega
  rw [lf];refine tW F' Oo Oo λv fs H17 F17 s17 r17 ok17=>?_;refine pK (by show 2<=64;decide) λq18 H18 hq18 e18 s18=>?_;exact k' _ H18 (F17.same s18) (s17.trans s18.but) ⟨(nm,fs),hn',ok17,bO.tup e18 (aP.cons (bO.str _) (aP.cons (r17.same s18) aP.nil))⟩
 ·refine ⟨D,ys,rfl,.inl ⟨fT.of hD16,λl2 hl2=>?_⟩⟩;have sl2:=bF.upd (o:=.tup ys) hl2;have el2:(upd H16 l2 (.tup ys)) l2=some (.tup ys):=bJ;generalize upd H16 l2 (.tup ys)=H17 at sl2 el2;have elf:H17 l=some (.tup (((rot t).take nF).map V.str)):=sl2 _ _ (s16.at (F14.ne hl) el);refine pK (by show 2<=64;decide) λq18 H18 hq18 e18 s18=>?_;have hws:∀(n:Nat) (ys:List V),ys.length=n->(∀(i:Nat) y,ys[i]?=some y->∃w:Str × List Fr,(((rot t).drop o).take nW)[i]?=some w.1/\uH nF w.2/\bO H16 (wD w) y) ->
    ∃ws:List (Str × List Fr),ws.length=n/\aP H16 (ws.map wD) ys/\(∀(i:Nat) w,ws[i]?=some w->(((rot t).drop o).take nW)[i]?=some w.1)/\∀w∈ws,uH nF w.2:=by
   generalize ((rot t).drop o).take nW=nl;intro n
   induction n generalizing nl with
   | zero =>
    intro ys hl _;cases ys with
    | nil=>exact ⟨[],rfl,aP.nil,λi w h=>by simp at h,λw h=>by cases h⟩
    | cons _ _=>simp at hl
   | succ n ih =>
    intro ys hl h;cases ys with
    | nil=>simp at hl
    | cons y ys =>
     obtain ⟨w,h1,h2,h3⟩:=h 0 y rfl;obtain ⟨ws,i1,i2,i3,i4⟩:=ih nl.tail ys (by simpa using hl) λi z hz=>by
      obtain ⟨w,h1,h2,h3⟩:=h (i+1) z (by simpa using hz);exact ⟨w,by rw [List.getElem?_tail];exact h1,h2,h3⟩
     refine ⟨w::ws,by simp [i1],aP.cons h3 i2,λi v hv=>?_,λv hv=>?_⟩
     ·cases i with
      | zero=>cases (show w=v by simpa using hv);exact h1
      | succ i =>
       have:=i3 i v (by simpa using hv);rw [List.getElem?_tail] at this;exact this
     ·rcases aQ.mp hv with rfl | hv
      ·exact h2
      ·exact i4 v hv
  obtain ⟨ws,w1,w2,w3,w4⟩:=hws _ ys rfl hr16;have lnl:(((rot t).drop o).take nW).length=nW:=by
   rw [bT,List.length_drop,lr];omega
  have lws:ws.length=nW:=by rw [w1,hy16,aA,lnl]
  refine k _ t o nF nW ((rot t).take nF) ws H18 ((F16.same sl2).same s18) ?_ ?_ ⟨ht,ho,hF,hW,rfl,?_,w4⟩
  ·exact (S14.trans sl.but).trans (s16.trans (sl2.trans s18).but)
  ·exact bO.tup e18 (aP.cons (bO.tup (s18 _ _ elf) (zH _)) (aP.cons (bO.tup (s18 _ _ el2) (w2.same (sl2.trans s18))) aP.nil))
  ·apply List.ext_getElem?;intro i;rw [aM];cases q:ws[i]? with
   | none =>
    have:nW<=i:=by rw [<-lws];exact List.getElem?_eq_none_iff.mp q
    rw [gA Oo];rfl
   | some w=>rw [w3 i w q];rfl
end
abbrev ZM:Stmt:=(top 6)
theorem LB:bR ["number","above_nought","divided","divisor","rest"] ["number","above_nought"] (aO ZM):=⟨rfl,rfl,rfl,Kk,rfl,Kk,Kk⟩
abbrev ZA:Stmt:=(top 10)
theorem LA:bR ["one","other","common","one_part","other_part","upper","left"] ["one","other"] (aO ZA):=⟨rfl,rfl,rfl,Kk,rfl,Kk,Kk⟩
abbrev ZF:Stmt:=(top 11)
theorem aDM:bR ["one","other"] ["one","other"] (aO ZF):=⟨rfl,rfl,rfl,Kk,rfl,Kk,Kk⟩
abbrev YX:Stmt:=(top 12)
theorem aA0:bR ["one","other","first","second"] ["one","other"] (aO YX):=⟨rfl,rfl,rfl,Kk,rfl,Kk,Kk⟩
abbrev YW:Stmt:=(top 14)
theorem VX:bR ["some","whole","one"] ["some"] (aO YW):=⟨rfl,rfl,rfl,Kk,rfl,Kk,Kk⟩
abbrev YU:Stmt:=(top 18)
theorem aDD:bR ["trial"] ["trial"] (aO YU):=⟨rfl,rfl,rfl,Kk,rfl,Kk,Kk⟩
abbrev YV:Stmt:=(top 19)
theorem aDE:bR ["trial","way"] ["trial","way"] (aO YV):=⟨rfl,rfl,rfl,Kk,rfl,Kk,Kk⟩
abbrev YT:Stmt:=(top 22)
theorem QI:bR ["trial","way","counts","product","share","count"] ["trial","way","counts"] (aO YT):=⟨rfl,rfl,rfl,Kk,rfl,Kk,Kk⟩
abbrev YZ:Stmt:=(top 23)
theorem KZ:bR ["share","count","upper","lower","step"] ["share","count"] (aO YZ):=⟨rfl,rfl,rfl,Kk,rfl,Kk,Kk⟩
abbrev ZB:Stmt:=(top 25)
theorem aDI:bR ["counts","face"] ["counts","face"] (aO ZB):=⟨rfl,rfl,rfl,Kk,rfl,Kk,Kk⟩
abbrev SU:Stmt:=(top 26)
theorem aDH:bR ["counts"] ["counts"] (aO SU):=⟨rfl,rfl,rfl,Kk,rfl,Kk,Kk⟩
theorem oR.of{H H1:Hp}{Q:VK}{f:Fr}(s:bF H H1)(q:oR H Q f):oR H1 Q f:=λp H' hp e s'=>q p H' (s.free hp) e (s.trans s')
@[irreducible] def iO(K:PySem.W.Frag):Sp:=λvs H Q _=>∃x y f g,vs=[x,y]/\gR K H f x/\gR K H g y/\cS f/\cS g/\lK 4000 f/\lK 4000 g/\oR H Q (jX f g)
theorem kK{K:PySem.W.Frag}{H:Hp}{Q:VK}{E:XK}{x y:V}{f g:Fr}(h1:gR K H f x)(h2:gR K H g y)(l1:cS f)(l2:cS g)(z1:lK 4000 f)(z2:lK 4000 g)(q:oR H Q (jX f g)):iO K [x,y] H Q E:=by unfold iO;exact ⟨x,y,f,g,rfl,h1,h2,l1,l2,z1,z2,q⟩
def FM(f:Fr):Fr:=(-f.1,f.2)
theorem wB{f:Fr}(h:cS f):cS (FM f):=⟨h.pos,by show Int.gcd (-f.1) f.2=1;rw [Int.neg_gcd];exact h.low⟩
@[irreducible] def nX(K:PySem.W.Frag):Sp:=λvs H Q _=>∃x y f g,vs=[x,y]/\gR K H f x/\gR K H g y/\cS f/\cS g/\lK 4000 f/\lK 4000 g/\oR H Q (kW f (FM g))
theorem ET{K:PySem.W.Frag}{H:Hp}{Q:VK}{E:XK}{x y:V}{f g:Fr}(h1:gR K H f x)(h2:gR K H g y)(l1:cS f)(l2:cS g)(z1:lK 4000 f)(z2:lK 4000 g)(q:oR H Q (kW f (FM g))):nX K [x,y] H Q E:=by unfold nX;exact ⟨x,y,f,g,rfl,h1,h2,l1,l2,z1,z2,q⟩
theorem aDe(F:iH K "common_divisor" "common_divisor" ZM f fd)(T:jK K mg c):dI P w K mg base dQ 1 f fd ["number","above_nought"] vQ:=by
 refine F.oky LB λvs H Q E h=>?_;unfold vQ at h;obtain ⟨n,d,rfl,hd,q⟩:=h;refine ⟨rfl,λcdv A outer s hr=>?_⟩;refine ⟨_,(aJ (bN (i:=2) LB.nd rfl (Or.inl rfl) (aE 0))
  (aJ (bN (i:=3) LB.nd rfl (Or.inl rfl) (aE 1))
  (aJ (nJ PassesOwn.never (eB vY (aE 3) aF (nomark _)) (aJ (bN (i:=4) LB.nd rfl (Or.inl rfl) (bY lH (aE 2) (aE 3)))
  (aJ (bN (i:=2) LB.nd rfl (Or.inl rfl) (aE 3))
  (aX (bN (i:=3) LB.nd rfl (Or.inl rfl) (aE 4))))))
  (aX (cC (aE 2)))))),?_⟩
 refine ⟨_,rfl,_,rfl,?_⟩;refine qN (λm σ H'=>∃(a b:Int) (c:Option V),σ=[some (.int n),some (.int d),some (.int a),some (.int b),c]/\0<=b/\Int.gcd a b=Int.gcd n d/\(b=0->0<a)/\H'=H/\m=b.toNat)
  (λσ H'=>∃(c:Option V),σ=[some (.int n),some (.int d),some (.int (Int.gcd n d)),some (.int 0),c]/\H'=H)
  _ ⟨n,d,none,rfl,Oo,rfl,Oo,rfl,rfl⟩ ?_ ?_
 ·rintro m σ H2 ⟨a,b,c,rfl,hb,hg,h0,rfl,rfl⟩;refine ⟨_,rfl,rfl,_,rfl,?_⟩;refine HY (λe=>?_) (λe=>?_)
  ·have hb':0<b:=by
    rcases Int.lt_or_eq_of_le hb with h | h
    ·exact h
    ·exact absurd (congrArg V.int h.symm) e
   refine ⟨_,rfl,_,rfl,_,_,rfl,rfl,hb',_,rfl,_,rfl,?_⟩;have e1:=Int.emod_lt_of_pos a hb';have e2:=Int.emod_nonneg a (b:=b) Oo;exact ⟨_,Oo,b,a % b,_,rfl,e2,by rw [DD,hg],λ_=>hb',rfl,rfl⟩
  ·have hb0:b=0:=by injection e
   subst hb0;have ha:=h0 rfl;have e1:=IA ha;rw [hg] at e1;rw [e1];exact ⟨c,rfl,rfl⟩
 ·rintro σ H2 ⟨c,rfl,rfl⟩;exact ⟨_,rfl,q⟩
theorem aCY(F:iH K "plus" "plus" ZA f fd)(T:jK K mg c)
  (FQ26:gT dQ P w K mg base 1 "common_divisor" ["number","above_nought"] vQ):dI P w K mg base dQ 2 f fd ["one","other"] (lB K):=by
 refine F.oky LA λvs H Q E h=>?_;unfold lB at h;obtain ⟨x,y,⟨a,b⟩,⟨c,d⟩,rfl,h1,h2,l1,l2,z1,z2,q⟩:=h;refine ⟨rfl,λcdv A outer s hr=>?_⟩;obtain ⟨p1,rfl,e1⟩:=h1;obtain ⟨p2,rfl,e2⟩:=h2;have pb:0<b:=l1.pos;have pd:0<d:=l2.pos;obtain ⟨za,zb⟩:=z1;obtain ⟨zc,zd⟩:=z2;dsimp only at za zb zc zd e1 e2;have hG:=gW (n:=b) pd;have zG:=wM (n:=b) pd zd;have zb':=mH zb hG;have zd':=mH zd hG;have u1:=zZ za zd';have u2:=zZ zc zb';have hL:=gW (n:=a*(d/(Int.gcd b d:Int))+c*(b/(Int.gcd b d:Int))) hG;have zL:=wM (n:=a*(d/(Int.gcd b d:Int))+c*(b/(Int.gcd b d:Int))) hG zG;have eq:kW (a,b) (c,d)=_:=TZ l1 l2;refine ⟨_,(aJ (bN (i:=2) LA.nd rfl (Or.inl rfl) (bW FQ26 (hr.mono Dd) (aI (bH aZ (aE 0) aF (λ_ _=>rfl)) (aI (bH aZ (aE 1) aF (λ_ _=>rfl)) aD))))
  (aJ (bN (i:=3) LA.nd rfl (Or.inl rfl) (bY gM (bH aZ (aE 0) aF (λ_ _=>rfl)) (aE 2)))
  (aJ (bN (i:=4) LA.nd rfl (Or.inl rfl) (bY gM (bH aZ (aE 1) aF (λ_ _=>rfl)) (aE 2)))
  (aJ (bN (i:=5) LA.nd rfl (Or.inl rfl) (bY eV (bY eK (bH aZ (aE 0) aF (λ_ _=>rfl)) (aE 4)) (bY eK (bH aZ (aE 1) aF (λ_ _=>rfl)) (aE 3))))
  (aJ (bN (i:=6) LA.nd rfl (Or.inl rfl) (bW FQ26 (hr.mono Dd) (aI (aE 5) (aI (aE 2) aD))))
  (aX (cC (dO (aI (bY gM (aE 5) (aE 6)) (aI (bY eK (aE 3) (bY gM (bH aZ (aE 1) aF (λ_ _=>rfl)) (aE 6))) aD)))))))))),?_⟩
 refine ⟨_,rfl,?_⟩;refine pD e1 rfl ?_;refine ⟨_,rfl,?_⟩;refine pD e2 rfl ?_;refine rG pd ?_;refine ⟨_,rfl,?_⟩;refine pD e1 rfl ?_;refine ⟨_,rfl,_,_,rfl,rfl,rX hG (gJ zG),?_⟩;refine ⟨_,rfl,?_⟩;refine pD e2 rfl ?_;refine ⟨_,rfl,_,_,rfl,rfl,rX hG (gJ zG),?_⟩;refine ⟨_,rfl,?_⟩;refine pD e1 rfl ?_;refine ⟨_,rfl,_,_,rfl,rfl,rN za zd',?_⟩;refine ⟨_,rfl,?_⟩;refine pD e2 rfl ?_;refine ⟨_,rfl,_,_,rfl,rfl,rN zc zb',_,_,rfl,rfl,?_⟩;refine ⟨_,rfl,_,rfl,?_⟩;refine rG hG ?_;refine ⟨_,rfl,_,rfl,_,_,rfl,rfl,rX hL (gJ zL),?_⟩;refine ⟨_,rfl,_,rfl,?_⟩;refine pD e2 rfl ?_;refine ⟨_,rfl,_,_,rfl,rfl,rX hL (gJ zL),_,_,rfl,rfl,rN zb' (mH zd hL),?_⟩;refine pK (by show 2<=64;decide) λp H3 hp e3 s3=>?_;refine q p H3 hp ?_ s3;rw [eq];exact e3
theorem aCT(F:iH K "times" "times" YX f fd)(T:jK K mg c)
  (FQ26:gT dQ P w K mg base 1 "common_divisor" ["number","above_nought"] vQ):dI P w K mg base dQ 2 f fd ["one","other"] (iO K):=by
 refine F.oky aA0 λvs H Q E h=>?_;unfold iO at h;obtain ⟨x,y,⟨a,b⟩,⟨m,d⟩,rfl,h1,h2,l1,l2,⟨za,zb⟩,⟨zc,zd⟩,q⟩:=h;refine ⟨rfl,λcdv A outer s hr=>?_⟩;obtain ⟨p1,rfl,e1⟩:=h1;obtain ⟨p2,rfl,e2⟩:=h2;have pb:0<b:=l1.pos;have pd:0<d:=l2.pos;dsimp only at za zb zc zd e1 e2;have g1:=gW (n:=a) pd;have g2:=gW (n:=m) pb;have y1:=wM (n:=a) pd zd;have y2:=wM (n:=m) pb zb;have eq:jX (a,b) (m,d)=_:=MK l1 l2;refine ⟨_,(aJ (bN (i:=2) aA0.nd rfl (Or.inl rfl) (bW FQ26 (hr.mono Dd) (aI (bH aZ (aE 0) aF (λ_ _=>rfl)) (aI (bH aZ (aE 1) aF (λ_ _=>rfl)) aD))))
  (aJ (bN (i:=3) aA0.nd rfl (Or.inl rfl) (bW FQ26 (hr.mono Dd) (aI (bH aZ (aE 1) aF (λ_ _=>rfl)) (aI (bH aZ (aE 0) aF (λ_ _=>rfl)) aD))))
  (aX (cC (dO (aI (bY eK (bY gM (bH aZ (aE 0) aF (λ_ _=>rfl)) (aE 2)) (bY gM (bH aZ (aE 1) aF (λ_ _=>rfl)) (aE 3))) (aI (bY eK (bY gM (bH aZ (aE 0) aF (λ_ _=>rfl)) (aE 3)) (bY gM (bH aZ (aE 1) aF (λ_ _=>rfl)) (aE 2))) aD))))))),?_⟩
 refine ⟨_,rfl,?_⟩;refine pD e1 rfl ?_;refine ⟨_,rfl,?_⟩;refine pD e2 rfl ?_;refine rG pd ?_;refine ⟨_,rfl,?_⟩;refine pD e2 rfl ?_;refine ⟨_,rfl,?_⟩;refine pD e1 rfl ?_;refine rG pb ?_;refine ⟨_,rfl,?_⟩;refine pD e1 rfl ?_;refine ⟨_,rfl,_,_,rfl,rfl,rX g1 (gJ y1),?_⟩;refine ⟨_,rfl,?_⟩;refine pD e2 rfl ?_;refine ⟨_,rfl,_,_,rfl,rfl,rX g2 (gJ y2),_,_,rfl,rfl,rN (mH za g1) (mH zc g2),?_⟩;refine ⟨_,rfl,?_⟩;refine pD e1 rfl ?_;refine ⟨_,rfl,_,_,rfl,rfl,rX g2 (gJ y2),?_⟩;refine ⟨_,rfl,?_⟩;refine pD e2 rfl ?_;refine ⟨_,rfl,_,_,rfl,rfl,rX g1 (gJ y1),_,_,rfl,rfl,rN (mH zb g2) (mH zd g1),?_⟩;refine pK (by show 2<=64;decide) λp H3 hp e3 s3=>?_;refine q p H3 hp ?_ s3;rw [eq];exact e3
theorem aC4(F:iH K "less" "less" ZF f fd)(T:jK K mg c)
  (FQ42:gT dQ P w K mg base 2 "plus" ["one","other"] (lB K)):dI P w K mg base dQ 3 f fd ["one","other"] (nX K):=by
 refine F.oky aDM λvs H Q E h=>?_;unfold nX at h;obtain ⟨x,y,f,g,rfl,h1,h2,l1,l2,z1,z2,q⟩:=h;refine ⟨rfl,λcdv A outer s hr=>?_⟩;obtain ⟨p2,rfl,e2⟩:=h2;refine ⟨_,(aX (cC (bW FQ42 (hr.mono Dd) (aI (aE 0) (aI (dO (aI (BS vF (bH aZ (aE 1) aF (λ_ _=>rfl))) (aI (bH aZ (aE 1) aF (λ_ _=>rfl)) aD))) aD))))),?_⟩;refine ⟨_,rfl,_,rfl,?_⟩;refine pD e2 rfl ?_;refine ⟨_,rfl,?_⟩;refine ⟨_,rfl,?_⟩;refine pD e2 rfl ?_;refine pK (by show 2<=64;decide) λp H3 hp e3 s3=>?_;refine oZ (gR.same s3 h1) (gR.new (f:=FM g) e3) l1 (wB l2) z1 ⟨by show (-g.1).natAbs<_;rw [Int.natAbs_neg];exact z2.1,z2.2⟩ ?_;exact q.of s3
theorem oS{N B:Nat}{f:Fr}(h:Fn N B f)(hN:0<N)(hz:N<2^3000)(hB:B<=2^500):lK 4000 f:=by
 obtain ⟨h1,h2⟩:=h.num hN;refine ⟨?_,bG h2 (aT hz (aV Dd Dd))⟩;have h3:B*N<=2^500*2^3000:=Nat.mul_le_mul hB (Nat.le_of_lt hz);have h4:(2:Nat)^500*2^3000<2^4000:=by rw [<-Nat.pow_add];exact Nat.pow_lt_pow_right Dd Dd
 omega
structure QQ(fs:List Fr):Prop where
 low:∀f∈fs,cS f
 sz:∀f∈fs,lK 4000 f
 part:∀i,cS (gI (fs.take i))/\lK 4000 (gI (fs.take i))
theorem EB{N B:Nat}{fs:List Fr}(h:∀f∈fs,Fn N B f)(hN:0<N)(hz:N<2^3000)(hl:fs.length<=64)(hB:B<=2^490):QQ fs:=by
 have h5:(2:Nat)^490<=2^500:=aV Dd Dd;have h6:64*(2:Nat)^490<=2^500:=by rw [show (64:Nat)=2^6 from rfl,<-Nat.pow_add];exact aV Dd Dd
 refine ⟨λf hf=>(h f hf).low,λf hf=>oS (h f hf) hN hz (bC hB h5),λi=>?_⟩;have t:=Fn.tot (fs.take i) λf hf=>h f (List.mem_of_mem_take hf);have l:(fs.take i).length<=64:=by rw [bT];omega
 have:(fs.take i).length*B<=64*2^490:=Nat.mul_le_mul l hB;exact ⟨t.low,oS t hN hz (bC this h6)⟩
structure LM(K:PySem.W.Frag)(H:Hp)(fs:List Fr)(xs:List V):Prop where
 len:xs.length=fs.length
 at_:∀(i:Nat) (x:V),xs[i]?=some x->∃f,fs[i]?=some f/\gR K H f x
theorem LM.of{K:PySem.W.Frag}{H:Hp}{fs:List Fr}{xs:List V}(r:aP H (fs.map fK) xs):LM K H fs xs:=⟨jM r,λi x e=>by
 obtain ⟨f,h1,h2⟩:=kP r e;exact ⟨f,h1,gR.of h2⟩⟩
@[irreducible] def lU(K:PySem.W.Frag):Sp:=λvs H Q _=>∃a xs fs,vs=[.ref a]/\H a=some (.lst xs)/\LM K H fs xs/\QQ fs/\∀v H',bF H H'->bO H' (fK (gI fs)) v->Q v H'
theorem vO{K:PySem.W.Frag}{H:Hp}{Q:VK}{E:XK}{a:Addr}{xs:List V}{fs:List Fr}(h:H a=some (.lst xs))(r:LM K H fs xs)(ok:QQ fs)(q:∀v H',bF H H'->bO H' (fK (gI fs)) v->Q v H'):lU K [.ref a] H Q E:=by unfold lU;exact ⟨a,xs,fs,rfl,h,r,ok,q⟩
section
theorem aCS(F:iH K "total" "total" YW f fd)(T:jK K mg c)
  (FQ42:gT dQ P w K mg base 2 "plus" ["one","other"] (lB K)):dI P w K mg base dQ 3 f fd ["some"] (lU K):=by
 refine F.oky VX λvs H Q E h=>?_;unfold lU at h;obtain ⟨a,vs,fs,rfl,ha,hv,ok,q⟩:=h;refine ⟨rfl,λcdv A outer s hr=>?_⟩;have hlen:=hv.len;refine ⟨_,(aJ (bN (i:=1) VX.nd rfl (Or.inl rfl) (dO (aI aF (aI aF aD))))
  (aJ (gL PassesOwn.never rfl (iE (aE 0)) (dR (i:=2) VX.nd rfl (Or.inl rfl)) (aX (bN (i:=1) VX.nd rfl (Or.inl rfl) (bW FQ42 (hr.mono Dd) (aI (aE 1) (aI (aE 2) aD))))))
  (aX (cC (aE 1))))),?_⟩
 refine pK (by show 2<=64;decide) λp0 H0 hp0 e0 s0=>?_;refine ⟨_,rfl,a,rfl,⟨_,fT.of (s0 _ _ ha)⟩,?_⟩;refine rW (xs:=vs) (λi σ H'=>∃w o2,σ=[some (.ref a),some w,o2]/\bF H H'/\bO H' (fK (gI (fs.take i))) w) ⟨_,_,rfl,s0,fD e0⟩ (λi σ H' _ p=>?_) ?_ ?_
 ·obtain ⟨w,o2,rfl,s1,_⟩:=p;exact fT.of (s1 _ _ ha)
 ·rintro i x σ H1 hx ⟨w,o2,rfl,s1,r1⟩;obtain ⟨g,hg,rg⟩:=hv.at_ i x hx;have hm:=aR hg;obtain ⟨t1,t2⟩:=ok.part i;refine ⟨_,rfl,_,rfl,?_⟩;refine oZ (gR.of r1) (gR.same s1 rg) t1 (ok.low _ hm) t2 (ok.sz _ hm) ?_;intro p2 H2 hp2 e2 s2;refine ⟨_,_,rfl,s1.trans s2,?_⟩;rw [iJ hg,jY];exact fD e2
 ·rintro σ H1 ⟨w,o2,rfl,s1,r1⟩;refine ⟨_,rfl,?_⟩;rw [hlen,cT] at r1;exact q _ H1 s1 r1
end
abbrev nB(cs:List Nat):PyData:=.tuple (cs.map λ(n:Nat)=>PyData.int (n:Int))
theorem DM:∀cs:List Nat,dW (cs.map λ(n:Nat)=>PyData.int (n:Int))=true
 | []=>rfl
 | f::fs=>by show (eP (.int f)&&dW (fs.map λ(n:Nat)=>PyData.int (n:Int)))=true;rw [DM fs];rfl
theorem kS(cs:List Nat):eP (nB cs)=true:=DM cs
def BN(K:PySem.W.Frag)(H:Hp)(f:Fr)(x:V):Prop:=bO H (fK f) x\/∃a,x=.ref a/\qH K a [f.1,f.2]=true
theorem BN.v{K:PySem.W.Frag}{H:Hp}{f:Fr}{x:V}(h:BN K H f x):gR K H f x:=by
 rcases h with h | ⟨a,e,h⟩
 ·exact gR.of h
 ·exact ⟨a,e,nO h⟩
theorem BN.t{K:PySem.W.Frag}{H H':Hp}{f:Fr}{x:V}(s:cG H H')(h:BN K H f x):BN K H' f x:=by
 rcases h with h | h
 ·exact .inl (h.flat s (dB f))
 ·exact .inr h
theorem BN.same{K:PySem.W.Frag}{H H':Hp}{f:Fr}{x:V}(s:bF H H')(h:BN K H f x):BN K H' f x:=h.t s.t
theorem WR{H:Hp}{fs:List Str}{ws:List (Str × List Fr)}{v:V}(h:bO H (uK fs ws) v):∃a af aw xf xw,v=.ref a/\H a=some (.tup [.ref af,.ref aw])/\H af=some (.tup xf)/\H aw=some (.tup xw)/\aP H (fs.map .str) xf/\aP H (ws.map wD) xw:=by
 obtain ⟨a,xs,rfl,ha,hr⟩:=fP h;obtain ⟨x,y,rfl,hx,hy⟩:=jP hr;obtain ⟨af,xf,rfl,h1,h2⟩:=fP hx;obtain ⟨aw,xw,rfl,h3,h4⟩:=fP hy;exact ⟨a,af,aw,xf,xw,rfl,ha,h1,h3,h2,h4⟩
@[irreducible] def lT:Sp:=λvs H Q _=>∃v fs ws,vs=[v]/\bO H (uK fs ws) v/\Q (.int (ws.length:Nat)) H
theorem CF{H:Hp}{Q:VK}{E:XK}{v:V}{fs:List Str}{ws:List (Str × List Fr)}(h:bO H (uK fs ws) v)(q:Q (.int (ws.length:Nat)) H):lT [v] H Q E:=by unfold lT;exact ⟨v,fs,ws,rfl,h,q⟩
@[irreducible] def vM:Sp:=λvs H Q _=>∃v fs ws w,∃i:Nat,vs=[v,.int (i:Int)]/\bO H (uK fs ws) v/\ws[i]?=some w/\∀x,bO H (qL w.2) x->Q x H
theorem MW{H:Hp}{Q:VK}{E:XK}{v:V}{fs:List Str}{ws:List (Str × List Fr)}{w:Str × List Fr}{i:Nat}(h:bO H (uK fs ws) v)(hw:ws[i]?=some w)(q:∀x,bO H (qL w.2) x->Q x H):vM [v,.int (i:Int)] H Q E:=by unfold vM;exact ⟨v,fs,ws,w,i,rfl,h,hw,q⟩
structure WO(B:Nat)(fs:List Fr):Prop where
 low:∀f∈fs,cS f
 up:∀f∈fs,f.1.natAbs<=2^B
 dn:∀f∈fs,f.2.natAbs<=2^B
@[irreducible] def nR(K:PySem.W.Frag):Sp:=λvs H Q _=>∃x f,∃c B:Nat,vs=[x,.int (c:Int)]/\gR K H f x/\f.1.natAbs<=2^B/\f.2.natAbs<=2^B/\B<=4000/\c<=4000/\B*c<=4000/\oR H Q (sV f c)
theorem EQ{K:PySem.W.Frag}{H:Hp}{Q:VK}{E:XK}{x:V}{f:Fr}{c B:Nat}(h:gR K H f x)(h1:f.1.natAbs<=2^B)(h2:f.2.natAbs<=2^B)(h3:B<=4000)(h5:c<=4000)(h4:B*c<=4000)(q:oR H Q (sV f c)):nR K [x,.int (c:Int)] H Q E:=by unfold nR;exact ⟨x,f,c,B,rfl,h,h1,h2,h3,h5,h4,q⟩
theorem AS{x:Int}{n:Nat}(h:x.natAbs<=2^n)(hn:n<=4000):x.natAbs<2^4001:=bG h (Nat.pow_lt_pow_right Dd Oo)
theorem MQ{f:Fr}{n:Nat}(h1:f.1.natAbs<=2^n)(h2:f.2.natAbs<=2^n){k:Nat}(hk:n<k):lK k f:=⟨bG h1 (Nat.pow_lt_pow_right Dd hk),bG h2 (Nat.pow_lt_pow_right Dd hk)⟩
@[irreducible] def lS(K:PySem.W.Frag):Sp:=λvs H Q _=>∃v cv fs ws w cs,∃i:Nat,vs=[v,.int (i:Int),cv]/\bO H (uK fs ws) v/\ws[i]?=some w/\bO H (nB cs) cv/\WO 10 w.2/\cs.sum<=390/\∀x H',bF H H'->BN K H' (pY (w.2.zip cs)) x->Q x H'
theorem CD{K:PySem.W.Frag}{H:Hp}{Q:VK}{E:XK}{v cv:V}{fs:List Str}{ws:List (Str × List Fr)}{w:Str × List Fr}{cs:List Nat}{i:Nat}(h:bO H (uK fs ws) v)(hw:ws[i]?=some w)(hc:bO H (nB cs) cv)(ok:WO 10 w.2)(hs:cs.sum<=390)(q:∀x H',bF H H'->BN K H' (pY (w.2.zip cs)) x->Q x H'):lS K [v,.int (i:Int),cv] H Q E:=by unfold lS;exact ⟨v,cv,fs,ws,w,cs,i,rfl,h,hw,hc,ok,hs,q⟩
theorem RP{α β:Type}{l:List α}{m:List β}{i:Nat}{a:α}{b:β}(h1:l[i]?=some a)(h2:m[i]?=some b):(l.zip m)[i]?=some (a,b):=by rw [List.getElem?_zip_eq_some];exact ⟨h1,h2⟩
theorem RM{α:Type}(l:List α)(m:List Nat)(i:Nat):(((l.zip m).take i).map (·.2)).sum<=m.sum:=by
 induction l generalizing m i with
 | nil=>simp
 | cons a l ih =>
  cases m with
  | nil=>simp
  | cons b m =>
   cases i with
   | zero=>simp
   | succ i =>
    have:=ih m i;simp only [List.zip_cons_cons,List.take_succ_cons,aW,List.sum_cons];omega
theorem mQ{α β:Type}{l:List α}{m:List β}{i:Nat}{z:α × β}(h:z∈(l.zip m).take i):z.1∈l:=(List.of_mem_zip (a:=z.1) (b:=z.2) (List.mem_of_mem_take h)).1
theorem SK{m:List Nat}{i c:Nat}(h:m[i]?=some c):c<=m.sum:=by
 induction m generalizing i with
 | nil=>simp at h
 | cons a m ih =>
  rw [List.sum_cons];cases i with
  | zero=>cases (show a=c by simpa using h);omega
  | succ i=>have:=ih (i:=i) (by simpa using h);omega
section
theorem aCQ(F:iH K "ways_of" "ways_of" YU f fd)(T:jK K mg c):dI P w K mg base dQ 1 f fd ["trial"] lT:=by
 refine F.oky aDD λvs H Q E h=>?_;unfold lT at h;obtain ⟨v,fs,ws,rfl,h,q⟩:=h;refine ⟨rfl,λcdv A outer s hr=>?_⟩;obtain ⟨a,af,aw,xf,xw,rfl,ha,hf,hw,rf,rw'⟩:=WR h;refine ⟨_,(aX (cC (eC fY (by rfl) T.b_len Kk (aI (bH aZ (aE 0) aF (λ_ _=>rfl)) aD)))),?_⟩;refine ⟨_,rfl,?_⟩;refine jR ha rfl ?_;refine LP hw ?_;rw [jM rw'];exact q
theorem aCR(F:iH K "way_shares" "way_shares" YV f fd)(T:jK K mg c):dI P w K mg base dQ 1 f fd ["trial","way"] vM:=by
 refine F.oky aDE λvs H Q E h=>?_;unfold vM at h;obtain ⟨v,fs,ws,w,i,rfl,h,hw',q⟩:=h;refine ⟨rfl,λcdv A outer s hr=>?_⟩;obtain ⟨a,af,aw,xf,xw,rfl,ha,hf,hw,rf,rw'⟩:=WR h;obtain ⟨u,hu,ru⟩:=yA rw' hw';obtain ⟨b,xs,rfl,hb,hr'⟩:=fP ru;obtain ⟨y,z,rfl,hy,hz⟩:=jP hr';refine ⟨_,(aX (cC (bH aZ (bH aZ (bH aZ (aE 0) aF (λ_ _=>rfl)) (aE 1) (λ_ _=>rfl)) aF (λ_ _=>rfl)))),?_⟩;refine ⟨_,rfl,?_⟩;refine jR ha rfl ?_;refine ⟨_,rfl,?_⟩;refine jR hw (cK (j:=i) hu) ?_;refine jR hb rfl ?_;exact q _ hz
theorem aCX(F:iH K "power" "power" YZ f fd)(T:jK K mg c):dI P w K mg base dQ 1 f fd ["share","count"] (nR K):=by
 refine F.oky KZ λvs H Q E h=>?_;unfold nR at h;obtain ⟨x,f,n,B,rfl,⟨a,rfl,ha⟩,h1,h2,h3,h5,h4,q⟩:=h;refine ⟨rfl,λcdv A outer s hr=>?_⟩;refine ⟨_,(aJ (bN (i:=2) KZ.nd rfl (Or.inl rfl) aF)
  (aJ (bN (i:=3) KZ.nd rfl (Or.inl rfl) aF)
  (aJ (gL PassesOwn.never rfl (dD rfl T.b_range (aI (aE 1) aD)) (dR (i:=4) KZ.nd rfl (Or.inl rfl)) (aJ (bN (i:=2) KZ.nd rfl (Or.inl rfl) (bY eK (aE 2) (bH aZ (aE 0) aF (λ_ _=>rfl))))
  (aX (bN (i:=3) KZ.nd rfl (Or.inl rfl) (bY eK (aE 3) (bH aZ (aE 0) aF (λ_ _=>rfl)))))))
  (aX (cC (dO (aI (aE 2) (aI (aE 3) aD)))))))),?_⟩
 refine ⟨_,rfl,_,rfl,Oo,Oo,?_⟩;refine gH (λi σ H'=>∃o4,σ=[some (.ref a),some (.int (n:Int)),some (.int (f.1^i)),some (.int (f.2^i)),o4]/\H'=H) ⟨_,by rw [Int.pow_zero,Int.pow_zero];rfl,rfl⟩ ?_ ?_
 ·rintro i σ H1 hi ⟨o4,rfl,rfl⟩;have hB:B*i<=4000:=bC (fM _ Oo) h4;refine ⟨_,rfl,_,rfl,?_⟩;refine pD ha rfl ?_;refine ⟨_,_,rfl,rfl,rN (AS (sU h1 i) hB) (AS h1 h3),?_⟩;refine ⟨_,rfl,_,rfl,?_⟩;refine pD ha rfl ?_;refine ⟨_,_,rfl,rfl,rN (AS (sU h2 i) hB) (AS h2 h3),?_⟩;exact ⟨_,by rw [Int.pow_succ,Int.pow_succ];rfl,rfl⟩
 ·rintro σ H1 ⟨o4,rfl,rfl⟩;refine ⟨_,rfl,_,rfl,?_⟩;refine pK (by show 2<=64;decide) λq3 H3 hq3 e3 s3=>?_;exact q q3 H3 hq3 (by rw [e3];rfl) s3
theorem aCP(F:iH K "weight" "weight" YT f fd)(T:jK K mg c)
  (FQ49:gT dQ P w K mg base 1 "way_shares" ["trial","way"] vM) (FQ47:gT dQ P w K mg base 2 "times" ["one","other"] (iO K)) (FQ43:gT dQ P w K mg base 1 "power" ["share","count"] (nR K)):dI P w K mg base dQ 3 f fd ["trial","way","counts"] (lS K):=by
 refine F.oky QI λvs H Q E h=>?_;unfold lS at h;obtain ⟨v,cv,fs,ws,w,cs,j,rfl,h,hw,hc,ok,hs,q⟩:=h;refine ⟨rfl,λcdv A outer s hr=>?_⟩;refine ⟨_,(aJ (bN (i:=3) QI.nd rfl (Or.inl rfl) (jV (v:=.ref c.ONE) rfl T.g_ONE rfl))
  (aJ (gL PassesOwn.never rfl (LW true true rfl T.b_zip (aI (bW FQ49 (hr.mono Dd) (aI (aE 0) (aI (aE 1) aD))) (aI (aE 2) aD))) (pZ rfl (eM (dR (i:=4) QI.nd rfl (Or.inl rfl)) (eM (dR (i:=5) QI.nd rfl (Or.inl rfl)) mG))) (aX (bN (i:=3) QI.nd rfl (Or.inl rfl) (bW FQ47 (hr.mono Dd) (aI (aE 3) (aI (bW FQ43 (hr.mono Dd) (aI (aE 4) (aI (aE 5) aD))) aD))))))
  (aX (cC (aE 3))))),?_⟩
 refine ⟨_,rfl,_,rfl,?_⟩;refine MW h hw λx rx=>?_;obtain ⟨l1,xs,rfl,h1,r1⟩:=fP rx;obtain ⟨l2,ys,rfl,h2,r2⟩:=fP hc;refine ⟨_,rfl,l1,l2,xs,ys,rfl,h1,h2,?_⟩;have hl1:=jM r1;have hl2:=jM r2;have zl:∀i,∀z∈(w.2.zip cs).take i,cS z.1:=λi z hz=>ok.low _ (mQ hz);have zb:∀i,∀z∈(w.2.zip cs).take i,z.1.1.natAbs<=2^10/\z.1.2.natAbs<=2^10:=λi z hz=>⟨ok.up _ (mQ hz),ok.dn _ (mQ hz)⟩;refine IB (λi σ H'=>∃x o4 o5,σ=[some v,some (.int (j:Int)),some (.ref l2),some x,o4,o5]/\bF H H'/\BN K H' (pY ((w.2.zip cs).take i)) x) ⟨_,_,_,rfl,bF.refl _,.inr ⟨_,rfl,T.o_ONE⟩⟩ (λi σ H' ⟨x,o4,o5,_,s',_⟩=>⟨s' _ _ h1,s' _ _ h2⟩) ?_ ?_
 ·rintro i y z q3 σ H1 H2 hy hz ⟨x,o4,o5,rfl,s1,r⟩ hq3 e3 s3;obtain ⟨g,hg,rg⟩:=kP r1 hy;obtain ⟨n,hn,rn⟩:=kP r2 hz;cases (show z=V.int (n:Int) from rn);have gm:=aR hg;have nn:=SK hn;refine ⟨q3,_,rfl,fS.of e3,rfl,_,_,rfl,_,_,rfl,rfl,?_⟩;refine ⟨_,rfl,_,rfl,_,rfl,?_⟩;refine EQ (B:=10) (gR.of (rg.same (s1.trans s3))) (ok.up _ gm) (ok.dn _ gm) Dd Oo Oo ?_;intro q4 H4 hq4 e4 s4;obtain ⟨b1,b2⟩:=RY ((w.2.zip cs).take i) (zl i) (zb i);have zs:=RM w.2 cs i;have c1:=sU (ok.up _ gm) n;have c2:=sU (ok.dn _ gm) n;refine kK (gR.same (s3.trans s4) r.v) (gR.new (f:=sV g n) e4) (vD _ (zl i)) (kQ (ok.low _ gm) n) (MQ b1 b2 Oo) (MQ c1 c2 Oo) ?_;intro q5 H5 hq5 e5 s5;refine ⟨_,_,_,rfl,((s1.trans s3).trans s4).trans s5,?_⟩;rw [iJ (RP hg hn),sK];exact .inl (fD e5)
 ·rintro σ H1 ⟨x,o4,o5,rfl,s1,r⟩;refine ⟨_,rfl,?_⟩;refine q _ H1 s1 ?_;have e:(w.2.zip cs).take (min xs.length ys.length)=w.2.zip cs:=List.take_of_length_le (by rw [List.length_zip];omega)
  rwa [e] at r
end
abbrev IJ(n:Nat):V:=.int (n:Int)
theorem DR{H:Hp}:∀cs:List Nat,aP H (cs.map λ(n:Nat)=>PyData.int (n:Int)) (cs.map IJ)
 | []=>aP.nil
 | n::cs=>aP.cons (bO.int _) (DR cs)
theorem zI{H:Hp}:∀{cs:List Nat}{xs:List V},aP H (cs.map λ(n:Nat)=>PyData.int (n:Int)) xs->xs=cs.map IJ
 | [],xs,h=>h
 | n::cs,xs,h=>by
  unfold aP at h;obtain ⟨x,xs',rfl,hx,hr⟩:=(show ∃x xs',xs=x::xs'/\bO H (PyData.int (n:Int)) x/\aP H (cs.map λ(n:Nat)=>PyData.int (n:Int)) xs' from h);rw [zI hr];cases (show x=V.int (n:Int) from hx)
  rfl
theorem iR{H:Hp}{cs:List Nat}{v:V}(h:bO H (nB cs) v):∃a,v=.ref a/\H a=some (.tup (cs.map IJ)):=by
 obtain ⟨a,xs,rfl,ha,hr⟩:=fP h;rw [zI hr] at ha;exact ⟨a,rfl,ha⟩
theorem oP{H:Hp}{cs:List Nat}{a:Addr}(h:H a=some (.tup (cs.map IJ))):bO H (nB cs) (.ref a):=bO.tup h (DR cs)
theorem DW{cs:List Nat}{i:Nat}(h:i<cs.length):bU cs i=cs.take i++[cs.getD i 0+1]++cs.drop (i+1):=by
 unfold bU;rw [List.set_eq_take_append_cons_drop,if_pos h,List.append_assoc]
 rfl
theorem GZ{K:PySem.W.Frag}{H:Hp}{a:Addr}{xs:List V}{k:Nat}{z:Int}{Q:VK}(hz:z=(k:Int))(h:H a=some (.tup xs))(q:∀c H',bF H H'->H' c=some (.tup (xs.drop k))->Q (.ref c) H'):FD K (.ref a) (some z) none H Q:=by
 subst hz;exact YR h q
@[irreducible] def iK:Sp:=λvs H Q _=>∃(x:V) (cs:List Nat) (i:Nat),vs=[x,.int (i:Int)]/\bO H (nB cs) x/\i<cs.length/\cs.length<=64/\∀v H',bF H H'->bO H' (nB (bU cs i)) v->Q v H'
theorem pQ{H:Hp}{Q:VK}{E:XK}{x:V}{cs:List Nat}{i:Nat}(h1:bO H (nB cs) x)(h2:i<cs.length)(h3:cs.length<=64)(k:∀v H',bF H H'->bO H' (nB (bU cs i)) v->Q v H'):iK [x,.int (i:Int)] H Q E:=by
 unfold iK;exact ⟨x,cs,i,rfl,h1,h2,h3,k⟩
@[irreducible] def iP:Sp:=λvs H Q _=>∃(x:V) (cs:List Nat),vs=[x]/\bO H (nB cs) x/\cs.length<=64/\∀D ys H',H D=none->H' D=some (.lst ys)->aP H' (((List.range cs.length).map (bU cs)).map nB) ys->bF H H'->Q (.ref D) H'
theorem vP{H:Hp}{Q:VK}{E:XK}{x:V}{cs:List Nat}(h1:bO H (nB cs) x)(h3:cs.length<=64)(k:∀D ys H',H D=none->H' D=some (.lst ys)->aP H' (((List.range cs.length).map (bU cs)).map nB) ys->bF H H'->Q (.ref D) H'):iP [x] H Q E:=by
 unfold iP;exact ⟨x,cs,rfl,h1,h3,k⟩
section
theorem aC0(F:iH K "one_more" "one_more" ZB f fd)(T:jK K mg c):dI P w K mg base dQ 1 f fd ["counts","face"] iK:=by
 refine F.oky aDI λvs H Q E h=>?_;unfold iK at h;obtain ⟨x,cs,i,rfl,rx,hi,hl,k⟩:=h;refine ⟨rfl,λcdv A outer s hr=>?_⟩;obtain ⟨a,rfl,ha⟩:=iR rx;refine ⟨_,(aX (cC (bY (uO K) (bY (uO K) (gB (pC K) (aE 0) iD (iC (aE 1))) (dO (aI (bY eV (bH aZ (aE 0) (aE 1) (λ_ _=>rfl)) aF) aD))) (gB (pC K) (aE 0) (iC (bY eV (aE 1) aF)) iD)))),?_⟩;refine ⟨_,rfl,_,rfl,_,rfl,?_⟩;refine AF ha λc2 H2 s2 e2=>?_;refine ⟨_,rfl,_,rfl,?_⟩;have hat:BJ (cs.map IJ) (i:Int)=some (IJ (cs.getD i 0)):=cK (by rw [aM,aS,aC hi];rfl);refine jR (s2 _ _ ha) hat ?_;refine ⟨_,_,rfl,rfl,?_⟩;refine pK (by show 1<=64;decide) λc3 H3 hc3 e3 s3=>?_;refine VW (s3 _ _ e2) e3 (by rw [bT,aA];show min i cs.length+1<=1000;omega) λc4 H4 s4 e4=>?_;refine ⟨_,rfl,_,rfl,_,_,rfl,rfl,?_⟩;refine ⟨_,rfl,?_⟩;refine GZ (k:=i+1) Oo (s4 _ _ (s3 _ _ (s2 _ _ ha))) λc5 H5 s5 e5=>?_;refine VW (s5 _ _ e4) e5 (by rw [bK,bT,List.length_drop,aA];show min i cs.length+1+(cs.length-(i+1))<=1000;omega) λc6 H6 s6 e6=>?_;refine k _ H6 ((((s2.trans s3).trans s4).trans s5).trans s6) (oP ?_);rw [e6,DW hi,bL,bL,List.map_take,List.map_drop]
 rfl
theorem aCZ(F:iH K "ones_more" "ones_more" SU f fd)(T:jK K mg c)(FQ40:gT dQ P w K mg base 1 "one_more" ["counts","face"] iK):dI P w K mg base dQ 2 f fd ["counts"] iP:=by
 refine F.oky aDH λvs H Q E h=>?_;unfold iP at h;obtain ⟨x,cs,rfl,rx,hl,k⟩:=h;refine ⟨rfl,λcdv A outer s hr=>?_⟩;obtain ⟨a,rfl,ha⟩:=iR rx;refine ⟨_,(aX (cC (eS (dY.of (psc:=aO SU) (N:=["counts"]) (N':=["face","counts"]) (js:=[0]) Kk rfl rfl rfl) (dD rfl T.b_range (aI (eC fY (by rfl) T.b_len Kk (aI (aE 0) aD)) aD)) (λ_ _ _ _=>eJ) (λ_ _ _ _=>(bW FQ40 (hr.mono Dd) (aI (aE 1) (aI (aE 0) aD))))))),?_⟩;refine ⟨_,rfl,?_⟩;refine LP ha ?_;rw [aA];refine ⟨_,rfl,Oo,Oo,?_⟩;refine iM (λi y H'=>i<cs.length/\bO H' (nB (bU cs i)) y) (λi y H1 H2 s ⟨h1,h2⟩=>⟨h1,h2.flat s (kS _)⟩) Oo (λi H' Q' hi s' k'=>?_) (λD ys H4 hD hD4 s4 hy4 hr4=>?_)
 ·rw [Int.zero_add];refine ⟨_,rfl,_,rfl,?_⟩;refine pQ (rx.same s') Oo hl λv H5 s5 r5=>?_;exact k' _ H5 s5 ⟨Oo,r5⟩
 ·refine k D ys H4 hD hD4 ?_ s4;refine aP.ofIdx (by rw [hy4,aA,aA,cX];omega) λi y hi=>?_;obtain ⟨h1,h2⟩:=hr4 i y hi;exact ⟨nB (bU cs i),by rw [aM,aM,dN h1];rfl,h2⟩
end
abbrev ZE:Stmt:=(top 29)
theorem aDL:bR ["says"] ["says"] (aO ZE):=⟨rfl,rfl,rfl,Kk,rfl,Kk,Kk⟩
abbrev SV:Stmt:=(top 24)
theorem aDJ:bR ["faces"] ["faces"] (aO SV):=⟨rfl,rfl,rfl,Kk,rfl,Kk,Kk⟩
def ci(c:List Nat):List Int:=c.map λ(n:Nat)=>(n:Int)
theorem iS(c:List Nat):(ci c).map V.int=c.map IJ:=by unfold ci;rw [List.map_map];rfl
theorem BH(c:List Nat):(ci c).sum=(c.sum:Nat):=by
 induction c with
 | nil=>rfl
 | cons a c ih =>
  have e:ci (a::c)=(a:Int)::ci c:=rfl;rw [e,List.sum_cons,List.sum_cons,ih];omega
theorem wX:∀{a b:List Nat},ci a=ci b->a=b
 | [],[],_=>rfl
 | [],b::bs,h=>by cases h
 | a::as,[],h=>by cases h
 | a::as,b::bs,h=>by
  have h:(a:Int)::ci as=(b:Int)::ci bs:=h;injection h with h1 h2;rw [wX h2,show a=b by omega]
theorem aK.tT{H H':Hp}{p:Addr}(s:aK p H H'){kvs:List (List eL × V)}(hp:H p=some (.dT kvs)):cG H H':=λb ys h=>s.at (pU h hp (by intro z;cases z)) h
theorem VI{α:Type}{l:List α}{i:Nat}{a d:α}(h:l[i]?=some a):l.getD i d=a:=by rw [aS,h];rfl
theorem YL{fs:List Fr}{i:Nat}{f:Fr}(h:fs[i]?=some f):lN fs i=rv f:=by unfold lN;rw [VI h]
theorem zV{fs:List Fr}{i:Nat}(h:fs.length<=i):lN fs i=0:=by
 unfold lN;rw [aS,gA h];exact jI
theorem wR{α:Type}(l:List α):l.filter (λ_=>true)=l:=List.filter_eq_self.mpr λ_ _=>rfl
theorem vX{H:Hp}{α:Type}{g:α->Fr}{as:List α}{ys:List V}(pr:Paired (λa y=>bO H (fK (g a)) y) as ys):aP H ((as.map g).map fK) ys:=by
 rw [List.map_map];exact Paired.toRepL pr
structure LK(K:PySem.W.Frag)(H:Hp)(fs:List Fr)(xs:List V):Prop where
 len:xs.length=fs.length
 at_:∀(i:Nat) (x:V),xs[i]?=some x->∃f,fs[i]?=some f/\BN K H f x
theorem LK.t{K:PySem.W.Frag}{H H':Hp}{fs:List Fr}{xs:List V}(s:cG H H')(h:LK K H fs xs):LK K H' fs xs:=⟨h.len,λi x e=>by
 obtain ⟨f,h1,h2⟩:=h.at_ i x e;exact ⟨f,h1,h2.t s⟩⟩
def WM(H:Hp)(a:Addr)(cs:List (List Nat)):Prop:=∃vs,H a=some (.lst vs)/\aP H (cs.map nB) vs
theorem WM.len{H:Hp}{a:Addr}{cs:List (List Nat)}(h:WM H a cs):∃vs,H a=some (.lst vs)/\aP H (cs.map nB) vs/\vs.length=cs.length:=by
 obtain ⟨vs,h1,h2⟩:=h;exact ⟨vs,h1,h2,jM h2⟩
theorem KO{α:Type}(g:Nat->List α)(i:Nat):(List.range (i+1)).flatMap g=(List.range i).flatMap g++g i:=by
 rw [List.range_succ,List.flatMap_append];simp
theorem yQ:∀F,F<=4->∀m,m<=5->(cta F m).length<=56:=Kk
theorem LH:∀F,F<=4->∀i,i<=6->((List.range i).flatMap (cta F)).length<=400:=Kk
theorem yG{α:Type}[DecidableEq α]:∀{l m:List α},l.Nodup->(∀x∈l,x∈m)->l.length<=m.length
 | [],m,_,_=>cV _
 | x::l,m,h,hs=>by
  rw [List.nodup_cons] at h;have hx:=hs x (aN ..);have h1:=yG (l:=l) (m:=m.erase x) h.2 λy hy=>(List.mem_erase_of_ne (λe=>by subst e;exact h.1 hy)).mpr (hs y (aH _ hy));rw [List.length_erase_of_mem hx] at h1;have:0<m.length:=List.length_pos_of_mem hx;rw [cF];omega
theorem aAH{kvs:List (List eL × V)}{ks:List (List Int)}{v:V}(c:List Int)(hk:kvs.map (·.1)=ks.map kT)(nd:ks.Nodup):∃ks2:List (List Int),(iW kvs (kT c) v).map (·.1)=ks2.map kT/\ks2.Nodup/\∀x,x∈ks2↔x∈ks\/x=c:=by
 cases e:fB kvs (kT c) with
 | some u =>
  refine ⟨ks,by rw [xF (by rw [e];rfl),hk],nd,λx=>⟨.inl,λh=>?_⟩⟩;rcases h with h | rfl
  ·exact h
  ·have:kT x∈kvs.map (·.1):=GO e;rw [hk] at this;obtain ⟨y,hy,ey⟩:=aU.mp this;rw [<-wJ ey];exact hy
 | none =>
  have hn:c ∉ ks:=λh=>by
   have:kT c∈kvs.map (·.1):=by rw [hk];exact List.mem_map_of_mem h
   exact MF e this
  refine ⟨ks++[c],by rw [CP v e,bL,bL,hk];rfl,List.nodup_append.mpr ⟨nd,by simp,λa ha b hb e=>by cases cM.mp hb;subst e;exact hn ha⟩,λx=>by rw [dF,cM]⟩
theorem VQ:∀F,F<=4->∀m,m<=5->((cta F m).map ci).Pairwise (λa b=>mU a b=true):=Kk
theorem ctI(c:List Nat):PyData.tuple ((ci c).map .int)=nB c:=by unfold ci;rw [List.map_map];rfl
section
variable{F W M:Nat}{best:List Nat->Nat}
def lvl(F:Nat)(best:List Nat->Nat):Nat->List (List Nat)
 | 0=>[List.replicate F 0]
 | k+1=>(cta F (k+1)).filter λd=>(lvl F best k).any λc=>best c == 0&&(List.range F).any λj=>d == bU c j
theorem gU(hF:1<=F):∀k,(lvl F best k).Sublist (cta F k)
 | 0=>by unfold lvl;rw [DN F hF];exact List.Sublist.refl _
 | k+1=>by unfold lvl;exact List.filter_sublist
theorem rP(hF:1<=F){k:Nat}{d:List Nat}:d∈lvl F best (k+1) ↔ ∃c∈lvl F best k,best c=0/\∃j,j<F/\d=bU c j:=by
 have h0:d∈lvl F best (k+1)↔d∈cta F (k+1)/\∃c∈lvl F best k,best c=0/\∃j,j<F/\d=bU c j:=by
  show d∈List.filter _ _↔_;rw [kF];simp
 rw [h0];refine ⟨λh=>h.2,λh=>⟨?_,h⟩⟩;obtain ⟨c,hc,_,j,hj,e⟩:=h;exact (PY hF).mpr ⟨c,(gU hF k).subset hc,j,hj,e⟩
def HC(F M:Nat)(best:List Nat->Nat):List (List Nat):=(List.range (M+1)).flatMap (lvl F best)
theorem wP{α:Type}{f g:Nat->List α}(h:∀k,(f k).Sublist (g k)):∀l:List Nat,(l.flatMap f).Sublist (l.flatMap g)
 | []=>List.Sublist.refl _
 | a::l=>by rw [List.flatMap_cons,List.flatMap_cons];exact (h a).append (wP h l)
theorem uM(hF:1<=F):(HC F M best).Sublist (rise F M):=wP (gU hF) _
theorem rO{c:List Nat}:c∈HC F M best ↔ ∃k,k<=M/\c∈lvl F best k:=by
 unfold HC;rw [List.mem_flatMap];constructor
 ·rintro ⟨k,hk,h⟩;exact ⟨k,by have:=cE.mp hk;omega,h⟩
 ·rintro ⟨k,hk,h⟩;exact ⟨k,cE.mpr Oo,h⟩
theorem NF(hF:1<=F)(on:∀c,best c=0->c.sum<M){c:List Nat}(hc:c∈HC F M best)(h:best c=0){j:Nat}(hj:j<F):bU c j∈HC F M best:=by
 obtain ⟨k,hk,h1⟩:=rO.mp hc;have h2:=(fX ((gU hF k).subset h1)).2;have h3:=on c h;exact rO.mpr ⟨k+1,Oo,(rP hF).mpr ⟨c,h1,h,j,hj,rfl⟩⟩
theorem NG(hF:1<=F){d:List Nat}(hd:d∈HC F M best)(h:d≠List.replicate F 0):∃c∈HC F M best,best c=0/\∃j,j<F/\bU c j=d:=by
 obtain ⟨k,hk,h1⟩:=rO.mp hd;cases k with
 | zero=>exact absurd (cM.mp h1) h
 | succ k =>
  obtain ⟨c,hc,hb,j,hj,e⟩:=(rP hF).mp h1;exact ⟨c,rO.mpr ⟨k,Oo,hc⟩,hb,j,hj,e.symm⟩
theorem NE:∃r,HC F M best=List.replicate F 0::r:=by
 unfold HC;rw [List.range_succ_eq_map,List.flatMap_cons];exact ⟨_,rfl⟩
theorem HB(hF:1<=F){c:List Nat}(h:c∈HC F M best):c.length=F/\c.sum<=M:=(OJ hF).mp ((uM hF).subset h)
end
def YD(K:PySem.W.Frag)(H:Hp)(fs:List Fr)(z:V):Prop:=∃sa sx,z=.ref sa/\H sa=some (.tup sx)/\LK K H fs sx
theorem YD.t{K:PySem.W.Frag}{H H':Hp}{fs:List Fr}{z:V}(s:cG H H')(h:YD K H fs z):YD K H' fs z:=by
 obtain ⟨sa,sx,h1,h2,h3⟩:=h;exact ⟨sa,sx,h1,s _ _ h2,h3.t s⟩
theorem LK.get{K:PySem.W.Frag}{H:Hp}{fs:List Fr}{xs:List V}(h:LK K H fs xs){i:Nat}{f:Fr}(e:fs[i]?=some f):∃x,xs[i]?=some x/\BN K H f x:=by
 have li:=(aL.mp e).1;have hx:xs[i]?=some (xs[i]'(by rw [h.len];exact li)):=aC (by rw [h.len];exact li);obtain ⟨g,h1,h2⟩:=h.at_ i _ hx;rw [e] at h1;cases h1;exact ⟨_,hx,h2⟩
def EnW(K:PySem.W.Frag)(H:Hp)(e:bI)(x:V):Prop:=∃b cu z,x=.ref b/\H b=some (.tup [.ref cu,z])/\H cu=some (.tup (e.1.map IJ))/\YD K H e.2 z
theorem EnW.t{K:PySem.W.Frag}{H H':Hp}{e:bI}{x:V}(s:cG H H')(h:EnW K H e x):EnW K H' e x:=by
 obtain ⟨b,cu,z,h1,h2,h3,h4⟩:=h;exact ⟨b,cu,z,h1,s _ _ h2,s _ _ h3,h4.t s⟩
def EE(K:PySem.W.Frag)(H:Hp)(es:List bI)(v:V):Prop:=∃a xs,v=.ref a/\H a=some (.tup xs)/\xs.length=es.length/\∀(i:Nat) (x:V),xs[i]?=some x->∃e,es[i]?=some e/\EnW K H e x
theorem EE.t{K:PySem.W.Frag}{H H':Hp}{es:List bI}{v:V}(s:cG H H')(h:EE K H es v):EE K H' es v:=by
 obtain ⟨a,xs,h1,h2,h3,h4⟩:=h;exact ⟨a,xs,h1,s _ _ h2,h3,λi x hx=>by obtain ⟨e,g1,g2⟩:=h4 i x hx;exact ⟨e,g1,g2.t s⟩⟩
@[irreducible] def lX(K:PySem.W.Frag):Sp:=λvs H Q _=>∃(z:V) (f:Fr) (fs:List Fr),vs=[z]/\YD K H (f::fs) z/\Q (.bl (decide (0<f.1))) H
theorem CH{K:PySem.W.Frag}{H:Hp}{Q:VK}{E:XK}{z:V}{f:Fr}{fs:List Fr}(h1:YD K H (f::fs) z)(k:Q (.bl (decide (0<f.1))) H):lX K [z] H Q E:=by
 unfold lX;exact ⟨z,f,fs,rfl,h1,k⟩
@[irreducible] def jC:Sp:=λvs H Q _=>∃F:Nat,vs=[.int (F:Int)]/\F<=64/\∀v H',bF H H'->bO H' (nB (List.replicate F 0)) v->Q v H'
theorem qY{H:Hp}{Q:VK}{E:XK}{F:Nat}(h:F<=64)(k:∀v H',bF H H'->bO H' (nB (List.replicate F 0)) v->Q v H'):jC [.int (F:Int)] H Q E:=by
 unfold jC;exact ⟨F,rfl,h,k⟩
def ED(F M:Nat)(best:List Nat->Nat)(sy:List Nat->List Fr):List bI:=(HC F M best).map λc=>(c,sy c)
section
theorem aC3(F:iH K "looks_on" "looks_on" ZE f fd)(T:jK K mg c):dI P w K mg base dQ 1 f fd ["says"] (lX K):=by
 refine F.oky aDL λvs H Q E h=>?_;unfold lX at h;obtain ⟨z,f,fs,rfl,⟨sa,sx,rfl,hsa,rsx⟩,k⟩:=h;refine ⟨rfl,λcdv A outer s hr=>?_⟩;obtain ⟨y,hy,ry⟩:=rsx.get (i:=0) rfl;obtain ⟨b,rfl,hb⟩:=ry.v;refine ⟨_,(aX (cC (qA CS (bH aZ (bH aZ (aE 0) (jV (v:=.int 0) rfl T.g_LOOKS_ON ⟨_,rfl⟩) (λ_ _=>rfl)) aF (λ_ _=>rfl)) aF (nomark _)))),?_⟩;refine ⟨_,rfl,?_⟩;refine jR hsa (cK (j:=0) hy) ?_;refine pD hb rfl ?_;refine ⟨_,_,rfl,rfl,?_⟩;exact k
theorem aC1(F:iH K "noughts" "noughts" SV f fd)(T:jK K mg c):dI P w K mg base dQ 1 f fd ["faces"] jC:=by
 refine F.oky aDJ λvs H Q E h=>?_;unfold jC at h;obtain ⟨F,rfl,hF,k⟩:=h;refine ⟨rfl,λcdv A outer s hr=>?_⟩;refine ⟨_,(aX (cC (iY dJ (by rfl) T.b_tuple Kk (aI (eS (dY.of (psc:=aO SV) (N:=["faces"]) (N':=["face"]) (js:=[]) Kk rfl rfl rfl) (dD rfl T.b_range (aI (aE 0) aD)) (λ_ _ _ _=>eJ) (λ_ _ _ _=>aF)) aD)))),?_⟩;refine ⟨_,rfl,_,rfl,Oo,Oo,?_⟩;refine iM (λi y H'=>∃n,y=.int n/\n=0) (λ_ _ _ _ _ h=>h) Oo (λi H' Q' hi s' k'=>k' _ H' (bF.refl _) ⟨0,rfl,rfl⟩) (λD ys H1 hD e1 s1 hy hr1=>?_);obtain ⟨zs,rfl,hz⟩:=rQ (P:=λ_ n=>n=0) hr1;have ez:zs=List.replicate F 0:=by
  rw [aA] at hy;exact List.eq_replicate_iff.mpr ⟨Oo,λb hb=>by obtain ⟨i,h⟩:=cN.mp hb;exact hz i b h⟩
 subst ez;refine ⟨D,_,rfl,.inl ⟨fT.of e1,λl hl=>?_⟩⟩;refine k _ _ (s1.trans (bF.upd hl)) (oP ?_);rw [bJ,List.map_replicate,List.map_replicate];rfl
end
abbrev YY:Stmt:=(top 31)
theorem aDG:bR ["rule"] ["rule"] (aO YY):=⟨rfl,rfl,rfl,Kk,rfl,Kk,Kk⟩
abbrev SY:Stmt:=(top 36)
theorem LE:bR ["rule","amount_of","counts","says","onward","more"] ["rule"] (aO SY):=⟨rfl,rfl,rfl,Kk,rfl,Kk,Kk⟩
structure SyG(n:Nat)(fs:List Fr):Prop where
 len:fs.length=n
 at_:∀f∈fs,cS f/\0<=f.1/\lK 3000 f
 one:pJ (fs.map rv)=1
structure mX(F W M N B Ns:Nat)(es:List bI):Prop where
 rl:uZ F es
 sum:∀e∈es,e.1.sum<=M
 sy:∀e∈es,SyG (1+W) e.2
 few:es.length<=64
 on:∀e∈es,s0 e≠0->e.1.sum<M
 fl:∀e∈es,Qn N B (bS F es e.1)
 fs:∀e∈es,∀v,Qn N B (bS F es e.1*lN e.2 v)
 n0:0<N
 s1:0<Ns
 z:N*Ns^M<2^2000
 b:B<=2^100
 m:M<=6
theorem SyG.hd{n:Nat}{fs:List Fr}(h:SyG (1+n) fs):∃f r,fs=f::r/\cS f/\lK 3000 f/\0<=f.1/\lN fs 0=rv f/\(0<f.1↔lN fs 0≠0):=by
 cases fs with
 | nil=>have:=h.len;simp at this;omega
 | cons f r =>
  obtain ⟨h1,h2,h2z⟩:=h.at_ f (aN ..);refine ⟨f,r,rfl,h1,h2z,h2,rfl,?_⟩;have e:lN (f::r) 0=rv f:=rfl;rw [e];constructor
  ·intro hp q;have:=iI h1 UU (by rw [q,jI]);rw [this] at hp;exact absurd hp Dd
  ·intro q;refine dZ λz=>q ?_;have z1:f.1=0:=Oo;have e2:=pR h1.pos;rw [z1] at e2;have h3:=jN h1.pos;have:rv f=0:=by grind
   exact this
theorem SyG.nn{n:Nat}{fs:List Fr}(h:SyG n fs)(v:Nat):0<=lN fs v:=by
 by_cases hv:v<fs.length
 ·have:=h.at_ _ (kD (a:=(0,1)) hv);exact XD this.1 this.2.1
 ·rw [zV Oo];exact Rat.le_refl
structure DQ(K:PySem.W.Frag)(H:Hp)(kvs:List (List eL × V))(g:List Nat->Rat):Prop where
 at_:∀d:List Nat,(fB kvs (kT (ci d))=none/\g d=0)\/∃v,fB kvs (kT (ci d))=some v/\BN K H (eZ (g d)) v
theorem wO:eZ 0=(0,1):=iI (bV _) UU (by rw [eO,jI])
theorem BB:eZ 1=(1,1):=iI (bV _) UW (by rw [eO,sR])
theorem DQ.t{K:PySem.W.Frag}{H H':Hp}{kvs:List (List eL × V)}{g:List Nat->Rat}(s:cG H H')(h:DQ K H kvs g):DQ K H' kvs g:=⟨λd=>by
 rcases h.at_ d with h | ⟨v,h1,h2⟩
 ·exact .inl h
 ·exact .inr ⟨v,h1,h2.t s⟩⟩
theorem DQ.eq{K:PySem.W.Frag}{H:Hp}{kvs:List (List eL × V)}{g g':List Nat->Rat}(h:DQ K H kvs g)(e:∀d,g' d=g d):DQ K H kvs g':=by
 have:g'=g:=funext e;rw [this];exact h
theorem DQ.get{K:PySem.W.Frag}{H:Hp}{kvs:List (List eL × V)}{g:List Nat->Rat}(h:DQ K H kvs g)(d:List Nat){z:V}(hz:gR K H (0,1) z):gR K H (eZ (g d)) ((fB kvs (kT (ci d))).getD z):=by
 rcases h.at_ d with ⟨h1,h2⟩ | ⟨v,h1,h2⟩
 ·rw [h1,h2,wO];exact hz
 ·rw [h1];exact h2.v
theorem DQ.val{K:PySem.W.Frag}{H:Hp}{kvs:List (List eL × V)}{g:List Nat->Rat}(h:DQ K H kvs g){d:List Nat}(hd:g d≠0):∃v,fB kvs (kT (ci d))=some v/\BN K H (eZ (g d)) v:=by
 rcases h.at_ d with ⟨_,h2⟩ | h
 ·exact absurd h2 hd
 ·exact h
theorem DQ.put{K:PySem.W.Frag}{H:Hp}{kvs:List (List eL × V)}{g:List Nat->Rat}(h:DQ K H kvs g){c:List Nat}{v:V}{y:Rat}(r:BN K H (eZ (g c+y)) v):DQ K H (iW kvs (kT (ci c)) v) λd=>g d+if c=d then y else 0:=⟨λd=>by
 rw [BV];by_cases e:c=d
 ·subst e;rw [if_pos rfl,if_pos rfl];exact .inr ⟨v,rfl,r⟩
 ·rw [if_neg λq=>e (wX (wJ q)).symm,if_neg e,show g d+0=g d by grind];exact h.at_ d⟩
theorem qB{N C:Nat}{q:Rat}(h:Qn N C q)(h0:0<N)(hN:N<2^2500)(hC:C<=2^200):lK 4000 (eZ q):=oS h.fq h0 (aT hN (aV Dd Dd)) (bC hC (aV Dd Dd))
theorem lK.up{j k:Nat}{f:Fr}(h:lK j f)(hk:j<=k):lK k f:=⟨aT h.1 (aV Dd hk),aT h.2 (aV Dd hk)⟩
section
variable{F W M N B Ns:Nat}{es:List bI}{s:List Fr}
theorem mX.nz(R:mX F W M N B Ns es):N<2^2500:=by
 have h1:0<Ns^M:=Nat.pow_pos R.s1;have h2:N*1<=N*Ns^M:=fM _ h1;rw [Nat.mul_one] at h2;exact bG h2 (aT R.z (aV Dd Dd))
theorem mX.pz(R:mX F W M N B Ns es):0<N*Ns^M/\N*Ns^M<2^2500:=⟨Nat.mul_pos R.n0 (Nat.pow_pos R.s1),aT R.z (aV Dd Dd)⟩
theorem mX.b2(R:mX F W M N B Ns es):B<=2^200:=bC R.b (aV Dd Dd)
theorem mX.part(R:mX F W M N B Ns es)(f4:F<=4):∀i,i<=es.length->∀d,Qn N (1+4*B*i) (bS F (es.take i) d)
 | 0,_,d=>by
  rw [List.take_zero,kE,Nat.mul_zero,Nat.add_zero];split
  ·exact Qn.one' _
  ·exact Qn.zero _ _
 | i+1,hi,d=>by
  have he:=aC (show i<es.length by omega);rw [iJ he,gO,R.rl.at he];have hem:=aR he;have h1:=R.part f4 i Oo d;have h3:Qn 1 4 (kR F es[i].1 d):=by
   have:=Qn.sumR (N:=1) (B:=1) (n:=F) (f:=λf=>if bU es[i].1 f=d then 1 else 0) λf _=>by
    split
    ·exact Qn.one' _
    ·exact Qn.zero _ _
   exact this.le Oo
  have h4:=(show Qn N B (bS F es es[i].1*s0 es[i]) from R.fs _ hem 0).mul h3;rw [Nat.mul_one] at h4;refine (h1.add h4).le ?_;rw [Nat.mul_add,Nat.mul_one,Nat.mul_comm B 4];omega
theorem mX.bg(R:mX F W M N B Ns es){i:Nat}(hi:i<=64):1+4*B*i+B*4<=2^200:=by
 have h1:=Nat.mul_le_mul (fM 4 R.b) hi;have h2:=cW 4 R.b;have h3:1+4*2^100*64+2^100*4<=2^200:=Kk;omega
end
@[irreducible] def gG(K:PySem.W.Frag):Sp:=λvs H Q _=>∃(x:V) (e:bI) (es:List bI),vs=[x]/\EE K H (e::es) x/\Q (.int (e.1.length:Nat)) H
theorem mY{K:PySem.W.Frag}{H:Hp}{Q:VK}{E:XK}{x:V}{e:bI}{es:List bI}(h1:EE K H (e::es) x)(k:Q (.int (e.1.length:Nat)) H):gG K [x] H Q E:=by
 unfold gG;exact ⟨x,e,es,rfl,h1,k⟩
@[irreducible] def kO(K:PySem.W.Frag):Sp:=λvs H Q _=>∃(x:V) (es:List bI) (F W M N B Ns:Nat),vs=[x]/\EE K H es x/\mX F W M N B Ns es/\1<=F/\F<=4/\∀a ys H',bF H H'->H' a=some (.tup ys)->ys.length=es.length->(∀(i:Nat) (e:bI),es[i]?=some e->∃b cu va,ys[i]?=some (.ref b)/\H' b=some (.tup [.ref cu,va])/\H' cu=some (.tup (e.1.map IJ))/\BN K H' (eZ (bS F es e.1)) va)->Q (.ref a) H'
theorem AD{K:PySem.W.Frag}{H:Hp}{Q:VK}{E:XK}{x:V}{es:List bI}{F W M N B Ns:Nat}(h1:EE K H es x)(h2:mX F W M N B Ns es)(h3:1<=F)(h4:F<=4)(k:∀a ys H',bF H H'->H' a=some (.tup ys)->ys.length=es.length->(∀(i:Nat) (e:bI),es[i]?=some e->∃b cu va,ys[i]?=some (.ref b)/\H' b=some (.tup [.ref cu,va])/\H' cu=some (.tup (e.1.map IJ))/\BN K H' (eZ (bS F es e.1)) va)->Q (.ref a) H'):kO K [x] H Q E:=by
 unfold kO;exact ⟨x,es,F,W,M,N,B,Ns,rfl,h1,h2,h3,h4,k⟩
section
theorem aCW(F:iH K "rule_faces" "rule_faces" YY f fd)(T:jK K mg c):dI P w K mg base dQ 1 f fd ["rule"] (gG K):=by
 refine F.oky aDG λvs H Q E h=>?_;unfold gG at h;obtain ⟨x,e,es,rfl,rx,k⟩:=h;refine ⟨rfl,λcdv A outer s hr=>?_⟩;obtain ⟨a,xs,rfl,ha,lx,rxs⟩:=rx;have hy:xs[0]?=some (xs[0]'(by rw [lx];exact Nat.succ_pos _)):=aC _;obtain ⟨e',he',b,cu,z,eb,hb,hcu,_⟩:=rxs 0 _ hy;cases (show e=e' by simpa using he');rw [eb] at hy;refine ⟨_,(aX (cC (eC fY (by rfl) T.b_len Kk (aI (bH aZ (bH aZ (aE 0) aF (λ_ _=>rfl)) aF (λ_ _=>rfl)) aD)))),?_⟩;refine ⟨_,rfl,?_⟩;refine jR ha (cK (j:=0) hy) ?_;refine jR hb rfl ?_;refine LP hcu ?_;rw [aA];exact k
theorem aDg(F:iH K "amounts" "amounts" SY f fd)(T:jK K mg c)(FQ39:gT dQ P w K mg base 1 "noughts" ["faces"] jC)(FQ44:gT dQ P w K mg base 1 "rule_faces" ["rule"] (gG K))
  (FQ37:gT dQ P w K mg base 1 "looks_on" ["says"] (lX K)) (FQ47:gT dQ P w K mg base 2 "times" ["one","other"] (iO K)) (FQ41:gT dQ P w K mg base 2 "ones_more" ["counts"] iP) (FQ42:gT dQ P w K mg base 2 "plus" ["one","other"] (lB K)):dI P w K mg base dQ 3 f fd ["rule"] (kO K):=by
 refine F.oky LE λvs H Q E h=>?_;unfold kO at h;obtain ⟨x,es,F,W,M,N,B,Ns,rfl,rx,RO,f1,f4,k⟩:=h;refine ⟨rfl,λcdv A outer s hr=>?_⟩;obtain ⟨a,xs,rfl,ha,lx,rxs⟩:=id rx;have RL:=RO.rl;have few:=RO.few;obtain ⟨e0,er,ees,ez0⟩:=RL.root;refine ⟨_,(aJ (bN (i:=1) LE.nd rfl (Or.inr rfl) (MB hr.u1 (bW FQ39 (hr.mono Dd) (aI (bW FQ44 (hr.mono Dd) (aI (aE 0) aD)) aD)) (jV (v:=.ref c.ONE) rfl T.g_ONE rfl)))
  (aJ (gL PassesOwn.never rfl (vB (aE 0)) (pZ rfl (eM (dR (i:=2) LE.nd rfl (Or.inl rfl)) (eM (dR (i:=3) LE.nd rfl (Or.inl rfl)) mG))) (aX (gY (mF (bW FQ37 (hr.mono Dd) (aI (aE 3) aD))) (aJ (bN (i:=4) LE.nd rfl (Or.inl rfl) (bW FQ47 (hr.mono Dd) (aI (iN hr.u1 (aE 1) (aE 2)) (aI (bH aZ (aE 3) aF (λ_ _=>rfl)) aD))))
  (aX (gL PassesOwn.never rfl (iE (bW FQ41 (hr.mono Dd) (aI (aE 2) aD))) (dR (i:=5) LE.nd rfl (Or.inl rfl)) (aX (zN hr.u1 (aE 1) (aE 5) (bW FQ42 (hr.mono Dd) (aI (RZ hr.u1 (aE 1) (aE 5) (jV (v:=.ref c.NOUGHT) rfl T.g_NOUGHT rfl)) (aI (aE 4) aD)))))))) eQ)))
  (aX (cC (iY dJ (by rfl) T.b_tuple Kk (aI (eS (dY.of (psc:=aO SY) (N:=["rule","amount_of","counts","says","onward","more"]) (N':=["entry","amount_of"]) (js:=[1]) Kk rfl rfl rfl) (vB (aE 0)) (λ_ _ _ _=>eJ) (λ_ _ _ _=>(dO (aI (bH (iF K) (aE 0) aF (λ_ _=>rfl)) (aI (iN hr.u1 (aE 1) (bH (iF K) (aE 0) aF (λ_ _=>rfl))) aD))))) aD)))))),?_⟩
 intro p hp;have s0':=bF.upd (o:=.dT []) hp;have e0p:(upd H p (.dT [])) p=some (.dT []):=bJ;generalize upd H p (.dT [])=H0 at s0' e0p;refine ⟨_,rfl,?_⟩;refine mY (e:=e0) (es:=er) (by rw [<-ees];exact rx.t s0'.t) ?_;rw [ez0,dP];refine qY (F:=F) Oo λv1 H1 s1 r1=>?_;obtain ⟨cz,rfl,hcz⟩:=iR r1;refine aCM (c:=ci (List.replicate F 0)) (by rw [iS];exact hcz) (s1 _ _ e0p) λH2 e2 b2=>?_;have S2:bF H H2:=bF.thru hp (s0'.trans s1) b2;have D2:DQ K H2 [(kT (ci (List.replicate F 0)),V.ref c.ONE)] (bS F (es.take 0)):=⟨λd=>by
  rw [List.take_zero,kE];by_cases q:d=List.replicate F 0
  ·subst q;rw [if_pos rfl];exact .inr ⟨_,by simp [fB],.inr ⟨c.ONE,rfl,by rw [BB];exact T.o_ONE⟩⟩
  ·rw [if_neg q];refine .inl ⟨?_,rfl⟩;have:¬kT (ci d)=kT (ci (List.replicate F 0)):=λz=>q (wX (wJ z));have e:=BV (κ:=List eL) [] (kT (ci (List.replicate F 0))) (kT (ci d)) (V.ref c.ONE);rw [if_neg this] at e;exact e⟩
 clear b2 s0' e0p r1 hcz s1;refine ⟨_,rfl,a,rfl,⟨_,fS.of (S2 _ _ ha)⟩,?_⟩;refine VJ (xs:=xs) (λi σ H'=>∃(o2 o3 o4 o5:Option V) (kvs:List (List eL × V)),σ=[some (.ref a),some (.ref p),o2,o3,o4,o5]/\bF H H'/\H' p=some (.dT kvs)/\kvs.length<=1+4*i/\DQ K H' kvs (bS F (es.take i))) ⟨_,_,_,_,_,rfl,S2,e2,by simp,D2⟩ (λi σ H' _ q=>?_) ?_ ?_
 ·obtain ⟨_,_,_,_,_,_,s',_⟩:=q;exact fS.of (s' _ _ ha)
 ·rintro i x σ H3 hx ⟨o2,o3,o4,o5,kvs,rfl,S3,e3,l3,D3⟩;obtain ⟨e,he,re⟩:=rxs i x hx;have hi:i<es.length:=(aL.mp he).1;have hee:=aR he;have hkey:e.1∈es.map (·.1):=aU.mpr ⟨e,hee,rfl⟩;have hel:=RL.len e hee;have fat:=RL.at he;have fpos:=RL.posf hee;obtain ⟨f0,fr,ef,l0,z0,nn0,v0,on0⟩:=(RO.sy e hee).hd;have es0:s0 e=rv f0:=v0;obtain ⟨b,cu,z,rfl,hb,hcu,rz⟩:=re.t S3.t;refine ⟨b,[.ref cu,z],rfl,fS.of hb,rfl,.ref cu,[z],rfl,z,[],rfl,rfl,?_⟩;refine ⟨_,rfl,?_⟩;refine CH (f:=f0) (fs:=fr) (by rw [<-ef];exact rz) ?_;refine ⟨_,rfl,?_⟩;refine qG (λon=>?_) (λon=>?_)
  ·have sne:s0 e≠0:=on0.mp on;obtain ⟨va,hva,fva⟩:=D3.val (d:=e.1) (by rw [fat];grind);rw [fat] at fva;refine ⟨_,rfl,_,rfl,?_⟩;refine dgT e3 (c:=ci e.1) (by rw [iS];exact hcu) hva ?_;obtain ⟨av,vs,rfl,hav,rvs⟩:=rz;rw [ef] at rvs;obtain ⟨y0,hy0,ry0⟩:=rvs.get (i:=0) rfl;refine ⟨_,rfl,?_⟩;refine jR hav (cK (j:=0) hy0) ?_;refine kK fva.v ry0.v (bV _) l0 (qB (RO.fl e hee) RO.n0 RO.nz RO.b2) (z0.up Dd) λq4 H4 hq4 e4 s4=>?_;have em:jX (eZ (bS F es e.1)) f0=eZ (bS F es e.1*s0 e):=iI (mB (bV _) l0) (bV _) (by rw [oF (bV _).pos l0.pos,eO,eO,es0]);rw [em] at e4;have qy:Qn N B (bS F es e.1*s0 e):=RO.fs e hee 0;refine ⟨_,rfl,?_⟩;refine vP (oP (s4 _ _ hcu)) Oo λL ys H5 hL e5 ry5 s5=>?_;have S5:=(S3.trans s4).trans s5;have ly:ys.length=F:=by rw [ry5.len,aA,aA,cX,hel]
   have frv5:bO H5 (fK (eZ (bS F es e.1*s0 e))) (.ref q4):=fD (s5 _ _ e4);have e5p:H5 p=some (.dT kvs):=s5 _ _ (s4 _ _ e3);have nLp:L≠p:=λz=>by rw [z,s4 _ _ e3] at hL;cases hL
   refine ⟨L,rfl,⟨_,fT.of e5⟩,?_⟩;refine rW (xs:=ys) (λj σ H'=>∃(o5:Option V) (kvs:List (List eL × V)),σ=[some (.ref a),some (.ref p),some (.ref cu),some (.ref av),some (.ref q4),o5]/\aK p H5 H'/\H' p=some (.dT kvs)/\kvs.length<=1+4*i+j/\DQ K H' kvs λd=>bS F (es.take i) d+bS F es e.1*s0 e*dU j λf=>if bU e.1 f=d then 1 else 0)
    ⟨_,kvs,rfl,(bF.refl _).but,e5p,Oo,(D3.t (s4.trans s5).t).eq λd=>by rw [eY];grind⟩ (λj σ H' _ q=>?_) ?_ ?_
   ·obtain ⟨_,_,_,b',_⟩:=q;exact fT.of (b'.at nLp e5)
   ·rintro j y σ H6 hy ⟨o5',kv6,rfl,b6,e6,l6,D6⟩;have hj:j<F:=by rw [<-ly];exact (aL.mp hy).1
    obtain ⟨m,hm,rm⟩:=kP ry5 hy;have em:m=bU e.1 j:=by
     rw [aM,dN Oo] at hm;simpa using hm.symm
    have msum:m.sum=e.1.sum+1:=by rw [em];exact iT Oo
    have mks:m∈es.map (·.1):=by rw [em];exact RL.fwd e hee sne j hj
    have mM:m.sum<=M:=by obtain ⟨e',he',rfl⟩:=aU.mp mks;exact RO.sum e' he'
    obtain ⟨cm,rfl,hcm⟩:=iR rm;have t6:cG H5 H6:=aK.tT b6 e5p;have hcm6:=t6 _ _ hcm;have hnz:gR K H6 (0,1) (.ref c.NOUGHT):=⟨c.NOUGHT,rfl,nO T.o_NOUGHT⟩;have hg:=D6.get m hnz;have qX:Qn N (1+4*B*i+B*4) (bS F (es.take i) m+bS F es e.1*s0 e*dU j λf=>if bU e.1 f=m then 1 else 0):=by
     have h3:Qn 1 4 (dU j λf=>if bU e.1 f=m then 1 else 0):=by
      have:=Qn.sumR (N:=1) (B:=1) (n:=j) (f:=λf=>if bU e.1 f=m then 1 else 0) λf _=>by
       split
       ·exact Qn.one' _
       ·exact Qn.zero _ _
      exact this.le Oo
     have h4:=qy.mul h3;rw [Nat.mul_one] at h4;exact (RO.part f4 i Oo m).add h4
    generalize hX:bS F (es.take i) m+bS F es e.1*s0 e*(dU j λf=>if bU e.1 f=m then 1 else 0)=Xm at qX hg;refine ⟨_,rfl,p,rfl,.inr ⟨kv6,.inl e6⟩,_,rfl,_,nH.ct (c:=ci m) e6 (by rw [iS];exact hcm6),?_⟩;refine ⟨_,rfl,?_⟩;refine oZ hg (gR.of (frv5.flat t6 (dB _))) (bV _) (bV _) (qB qX RO.n0 RO.nz (RO.bg Oo)) (qB qy RO.n0 RO.nz RO.b2) λq7 H7 hq7 e7 s7=>?_;have ea:kW (eZ Xm) (eZ (bS F es e.1*s0 e))=eZ (Xm+bS F es e.1*s0 e):=iI (sG (bV _) (bV _)) (bV _) (by rw [sS (bV _).pos (bV _).pos,eO,eO,eO]);rw [ea] at e7;refine ⟨_,rfl,_,rfl,?_⟩;have e7p:=s7 _ _ e6;refine dpT e7p (c:=ci m) (by rw [iS];exact s7 _ _ hcm6) Oo λH8 e8 b8=>?_;have t8:cG H7 H8:=aK.tT b8 e7p;refine ⟨_,_,rfl,(b6.trans s7.but).trans b8,e8,?_,?_⟩
    ·have:=iL kv6 (kT (ci m)) (V.ref q7);omega
    ·have D7:=D6.t s7.t;have D8:=(D7.put (c:=m) (v:=.ref q7) (y:=bS F es e.1*s0 e) (by rw [hX];exact .inl (fD e7))).t t8;refine D8.eq λd=>?_;rw [dM,<-em];by_cases q:m=d
     ·rw [if_pos q,if_pos q];grind
     ·rw [if_neg q,if_neg q];grind
   ·rintro σ H6 ⟨o5',kv6,rfl,b6,e6,l6,D6⟩;rw [ly] at l6 D6;refine ⟨_,_,_,_,kv6,rfl,bF.thru hp S5 b6,e6,Oo,D6.eq λd=>?_⟩;rw [iJ he,gO,fat];rfl
  ·have z0:s0 e=0:=dZ λq=>on (on0.mpr q);refine ⟨_,_,_,_,kvs,rfl,S3,e3,Oo,D3.eq λd=>?_⟩;rw [iJ he,gO,z0];grind
 ·rintro σ H3 ⟨o2,o3,o4,o5,kvs,rfl,S3,e3,l3,D3⟩;rw [lx,cT] at D3;refine ⟨_,rfl,a,rfl,⟨_,fS.of (S3 _ _ ha)⟩,?_⟩;refine yS (λi y H'=>∃(e:bI) (b cu:Addr) (va:V),es[i]?=some e/\y=.ref b/\H' b=some (.tup [.ref cu,va])/\H' cu=some (.tup (e.1.map IJ))/\BN K H' (eZ (bS F es e.1)) va) (λi y H1 H2 s ⟨e,b,cu,va,h1,h2,h3,h5,h4⟩=>⟨e,b,cu,va,h1,h2,s _ _ h3,s _ _ h5,h4.t s⟩) Oo (S3 _ _ ha) (λi x H' Q' hx s' k'=>?_) (λD ys H8 hD hD8 s8 hy8 hr8=>?_)
  ·obtain ⟨e,he,re⟩:=rxs i x hx;have hee:=aR he;obtain ⟨b,cu,z,rfl,hb,hcu,rz⟩:=re.t (S3.trans s').t;obtain ⟨va,hva,fva⟩:=D3.val (d:=e.1) (by have:=RL.posf hee;grind);refine ⟨_,rfl,?_⟩;refine jR hb rfl ?_;refine ⟨_,rfl,_,rfl,?_⟩;refine jR hb rfl ?_;refine dgT (s' _ _ e3) (c:=ci e.1) (by rw [iS];exact hcu) hva ?_;refine pK (by show 2<=64;decide) λq5 H5 hq5 e5 s5=>?_;exact k' _ H5 s5 ⟨e,q5,cu,va,he,rfl,e5,s5 _ _ hcu,(fva.same s').same s5⟩
  ·refine ⟨D,ys,rfl,.inl ⟨fT.of hD8,λl hl=>?_⟩⟩;have sl:=bF.upd (o:=.tup ys) hl;have el:(upd H8 l (.tup ys)) l=some (.tup ys):=bJ;generalize upd H8 l (.tup ys)=H9 at sl el;refine k l ys H9 ((S3.trans s8).trans sl) el Oo λi e hi=>?_;obtain ⟨y,hy⟩:∃y,ys[i]?=some y:=⟨_,aC (by have:=(aL.mp hi).1;omega)⟩;obtain ⟨e',b,cu,va,h1,rfl,h3,h5,h4⟩:=hr8 i y hy;rw [hi] at h1;cases h1;exact ⟨b,cu,va,hy,sl _ _ h3,sl _ _ h5,h4.same sl⟩
end
abbrev ZN:Stmt:=(top 38)
theorem VY:bR ["trial","rule","way","found","entry","amount"] ["trial","rule","way"] (aO ZN):=⟨rfl,rfl,rfl,Kk,rfl,Kk,Kk⟩
abbrev SS:Stmt:=(top 40)
theorem aDF:bR ["came","way"] ["came","way"] (aO SS):=⟨rfl,rfl,rfl,Kk,rfl,Kk,Kk⟩
def WD(F:Nat)(es:List bI)(s:List Fr)(e:bI):Fr:=eZ (bS F es e.1*wq s e.1)
def came(F:Nat)(es:List bI)(s:List Fr):List (bI × Fr):=es.map λe=>(e,WD F es s e)
def BP(K:PySem.W.Frag)(H:Hp)(x:bI × Fr)(v:V):Prop:=∃b cu z y,v=.ref b/\H b=some (.tup [.ref cu,z,y])/\H cu=some (.tup (x.1.1.map IJ))/\YD K H x.1.2 z/\bO H (fK x.2) y
theorem BP.t{K:PySem.W.Frag}{H H':Hp}{x:bI × Fr}{v:V}(s:cG H H')(h:BP K H x v):BP K H' x v:=by
 obtain ⟨b,cu,z,y,h1,h2,h3,h4,h5⟩:=h;exact ⟨b,cu,z,y,h1,s _ _ h2,s _ _ h3,h4.t s,h5.flat s (dB _)⟩
theorem QD{K:PySem.W.Frag}{H H':Hp}(s:cG H H'){l:List (bI × Fr)}{zs:List V}(h:Paired (BP K H) l zs):Paired (BP K H') l zs:=Paired.imp' (λ_ _ h=>h.t s) h
theorem DS{K:PySem.W.Frag}{H:Hp}:∀{l:List (bI × Fr)}{zs:List V}{x:bI × Fr}{v:V},Paired (BP K H) l zs->BP K H x v->Paired (BP K H) (l++[x]) (zs++[v])
 | _,_,_,_,.nil,h=>.cons h .nil
 | _,_,_,_,.cons r t,h=>.cons r (DS t h)
section
variable{F W M N B Ns:Nat}{es:List bI}{s:List Fr}
theorem mX.aq(R:mX F W M N B Ns es)(hs:∀f∈s,Fn Ns 1 f){e:bI}(h:e∈es):Qn (N*Ns^M) B (bS F es e.1*wq s e.1):=by
 have:=(R.fl e h).mul (LU (M:=M) hs (R.sum e h))
 rwa [Nat.mul_one] at this
theorem mX.aqs(R:mX F W M N B Ns es)(hs:∀f∈s,Fn Ns 1 f){e:bI}(h:e∈es)(v:Nat):Qn (N*Ns^M) B (bS F es e.1*wq s e.1*lN e.2 v):=by
 have:=(R.fs e h v).mul (LU (M:=M) hs (R.sum e h));rw [Nat.mul_one] at this;rw [show bS F es e.1*wq s e.1*lN e.2 v=bS F es e.1*lN e.2 v*wq s e.1 by grind];exact this
theorem mX.wn(R:mX F W M N B Ns es):Ns^M<2^2500:=by
 have h2:1*Ns^M<=N*Ns^M:=cW _ R.n0;rw [Nat.one_mul] at h2;exact bG h2 R.pz.2
end
theorem Qn.sumL{α:Type}{N B:Nat}{f:α->Rat}:∀{l:List α},(∀a∈l,Qn N B (f a))->Qn N (l.length*B) (cR l f)
 | [],_=>by rw [eN];exact Qn.zero _ _
 | a::l,h=>by
  rw [cH,cF,Nat.add_mul,Nat.one_mul,Nat.add_comm];exact (h a (aN ..)).add (Qn.sumL λx hx=>h x (aH _ hx))
theorem MJ{α:Type}{l:List α}{g:α->Fr}{f:α->Rat}(h:∀a∈l,cS (g a)/\rv (g a)=f a):gI (l.map g)=eZ (cR l f):=by
 have hl:∀x∈l.map g,cS x:=λx hx=>by
  obtain ⟨a,ha,rfl⟩:=aU.mp hx;exact (h a ha).1
 refine iI (BX _ hl) (bV _) ?_;rw [ZX _ hl,eO,List.map_map];exact congrArg pJ (dE λa ha=>(h a ha).2)
theorem OH(x y:Rat):jX (eZ x) (eZ y)=eZ (x*y):=iI (mB (bV _) (bV _)) (bV _) (by rw [oF (bV _).pos (bV _).pos,eO,eO,eO])
theorem QP(x y:Rat):kW (eZ x) (eZ y)=eZ (x+y):=iI (sG (bV _) (bV _)) (bV _) (by rw [sS (bV _).pos (bV _).pos,eO,eO,eO])
theorem YO(x y:Rat):kW (eZ x) (FM (eZ y))=eZ (x-y):=iI (sG (bV _) (wB (bV _))) (bV _) (by
 rw [sS (bV _).pos (wB (bV _)).pos,show FM (eZ y)=(-(eZ y).1,(eZ y).2) from rfl,ZY,eO,eO,eO,Rat.sub_eq_add_neg])
@[irreducible] def jD(K:PySem.W.Frag):Sp:=λvs H Q _=>∃(t r:V) (es:List bI) (F W M N B Ns:Nat) (fs:List Str) (ws:List (Str × List Fr)) (i:Nat) (x:Str × List Fr),vs=[t,r,.int (i:Int)]/\bO H (uK fs ws) t/\EE K H es r/\mX F W M N B Ns es/\1<=F/\F<=4/\ws[i]?=some x/\(∀f∈x.2,Fn Ns 1 f)/\WO 10 x.2/\∀D ys H',H D=none->H' D=some (.lst ys)->Paired (BP K H') (came F es x.2) ys->bF H H'->Q (.ref D) H'
theorem rF{K:PySem.W.Frag}{H:Hp}{Q:VK}{E:XK}{t r:V}{es:List bI}{F W M N B Ns:Nat}{fs:List Str}{ws:List (Str × List Fr)}{i:Nat}{x:Str × List Fr}(h1:bO H (uK fs ws) t)(h2:EE K H es r)(h3:mX F W M N B Ns es)(h4:1<=F)(h5:F<=4)(h7:ws[i]?=some x)(h8:∀f∈x.2,Fn Ns 1 f)(h9:WO 10 x.2)
  (k:∀D ys H',H D=none->H' D=some (.lst ys)->Paired (BP K H') (came F es x.2) ys->bF H H'->Q (.ref D) H'):jD K [t,r,.int (i:Int)] H Q E:=by
 unfold jD;exact ⟨t,r,es,F,W,M,N,B,Ns,fs,ws,i,x,rfl,h1,h2,h3,h4,h5,h7,h8,h9,k⟩
@[irreducible] def kM(K:PySem.W.Frag):Sp:=λvs H Q _=>∃(D:Addr) (ys:List V) (es:List bI) (F W M w N B Ns:Nat) (s:List Fr),vs=[.ref D,.int (w:Int)]/\H D=some (.lst ys)/\Paired (BP K H) (came F es s) ys/\mX F W M N B Ns es/\F<=4/\w<W/\(∀f∈s,Fn Ns 1 f)/\∀v H',bF H H'->bO H' (fK (eZ (mZ F es (wq s) w))) v->Q v H'
theorem AB{K:PySem.W.Frag}{H:Hp}{Q:VK}{E:XK}{D:Addr}{ys:List V}{es:List bI}{F W M w N B Ns:Nat}{s:List Fr}(h1:H D=some (.lst ys))(h2:Paired (BP K H) (came F es s) ys)(h3:mX F W M N B Ns es)(h4:F<=4)(h6:w<W)(h7:∀f∈s,Fn Ns 1 f)(k:∀v H',bF H H'->bO H' (fK (eZ (mZ F es (wq s) w))) v->Q v H'):kM K [.ref D,.int (w:Int)] H Q E:=by
 unfold kM;exact ⟨D,ys,es,F,W,M,w,N,B,Ns,s,rfl,h1,h2,h3,h4,h6,h7,k⟩
section
theorem aDf(F:iH K "comings" "comings" ZN f fd)(T:jK K mg c)(FQ24:gT dQ P w K mg base 3 "amounts" ["rule"] (kO K))(FQ47:gT dQ P w K mg base 2 "times" ["one","other"] (iO K))(FQ51:gT dQ P w K mg base 3 "weight" ["trial","way","counts"] (lS K)):dI P w K mg base dQ 4 f fd ["trial","rule","way"] (jD K):=by
 refine F.oky VY λvs H Q E h=>?_;unfold jD at h;obtain ⟨t,r,es,F,W,M,N,B,Ns,fs,ws,iw,x,rfl,rt,rr,RO,f1,f4,hx,hsh,hbo,k⟩:=h;refine ⟨rfl,λcdv A outer s hr=>?_⟩;obtain ⟨a,xs,rfl,ha,lx,rxs⟩:=id rr;have few:=RO.few;refine ⟨_,(aJ (bN (i:=3) VY.nd rfl (Or.inl rfl) (fO aD))
  (aJ (gL PassesOwn.never rfl (LW true true rfl T.b_zip (aI (aE 1) (aI (bW FQ24 (hr.mono Dd) (aI (aE 1) aD)) aD))) (pZ rfl (eM (dR (i:=4) VY.nd rfl (Or.inl rfl)) (eM (dR (i:=5) VY.nd rfl (Or.inl rfl)) mG))) (aX (fA (qO PySem.F.plainAttrs_list PySem.F.slot_list_append PySem.F.type_list_append oM (aE 3) (aI (dO (aI (bH aZ (aE 4) aF (λ_ _=>rfl)) (aI (bH aZ (aE 4) aF (λ_ _=>rfl)) (aI (bW FQ47 (hr.mono Dd) (aI (bH aZ (aE 5) aF (λ_ _=>rfl)) (aI (bW FQ51 (hr.mono Dd) (aI (aE 0) (aI (aE 2) (aI (bH aZ (aE 4) aF (λ_ _=>rfl)) aD)))) aD))) aD)))) aD)))))
  (aX (cC (aE 3))))),?_⟩
 refine yF (by show 0<=64;decide) λL H1 hL e1 s1=>?_;refine ⟨_,rfl,_,rfl,?_⟩;refine AD (rr.t s1.t) RO f1 f4 λam ys H2 s2 e2 ly k2=>?_;refine ⟨a,am,xs,ys,rfl,s2 _ _ (s1 _ _ ha),e2,?_⟩;refine IB (xs:=xs) (ys:=ys) (λi σ H'=>∃(o4 o5:Option V) (zs:List V),σ=[some t,some (.ref a),some (.int (iw:Int)),some (.ref L),o4,o5]/\aK L H2 H'/\H' L=some (.lst zs)/\Paired (BP K H') ((came F es x.2).take i) zs) ⟨_,_,[],rfl,(bF.refl _).but,s2 _ _ e1,.nil⟩ (λi σ H' ⟨_,_,_,_,b',_⟩=>?_) ?_ ?_
 ·have na:a≠L:=λz=>by rw [z,hL] at ha;cases ha
  have nam:am≠L:=λz=>by rw [z,s2 _ _ e1] at e2;cases e2
  exact ⟨b'.at na (s2 _ _ (s1 _ _ ha)),b'.at nam e2⟩
 ·rintro i y z q3 σ H3 H4 hy hz ⟨o4,o5,zs,rfl,b3,e3,r3⟩ hq3 e4 s4;obtain ⟨e,he,re⟩:=rxs i y hy;have hee:=aR he;have t23:=b3.t (s2 _ _ e1);have t24:=t23.trans s4.t;have t04:=(s1.trans s2).t.trans t24;obtain ⟨b,cu,v,rfl,hb,hcu,rv'⟩:=re.t t04;have ru:bO H4 (nB e.1) (.ref cu):=oP hcu;obtain ⟨bz,cz,va,hbz,hbz2,_,fva⟩:=k2 i e he;rw [hz] at hbz;cases hbz;have e4L:H4 L=some (.lst zs):=s4 _ _ e3;have lz:zs.length<=64:=by
   rw [<-r3.length,bT];unfold came;rw [aA];omega
  refine ⟨q3,_,rfl,fS.of e4,rfl,_,_,rfl,_,_,rfl,rfl,?_⟩;refine ⟨_,rfl,QY e4L,_,rfl,?_⟩;refine jR hb rfl ?_;refine ⟨_,rfl,?_⟩;refine jR hb rfl ?_;refine ⟨_,rfl,?_⟩;refine jR (t24 _ _ hbz2) rfl ?_;refine ⟨_,rfl,_,rfl,_,rfl,?_⟩;refine jR hb rfl ?_;have hsM:=RO.sum e hee;have m6:=RO.m;refine CD (rt.flat t04 (vG fs ws)) hx ru hbo Oo λxw H5 s5 fw=>?_;have lw':cS (pY (x.2.zip e.1)):=vD _ λz hz=>(hsh z.1 (List.of_mem_zip (a:=z.1) (b:=z.2) hz).1).low;refine kK ((fva.t t24).same s5).v fw.v (bV _) lw' (qB (RO.fl e hee) RO.n0 RO.nz RO.b2) (oS (Qn.f lw' (LU (M:=M) hsh hsM)) (Nat.pow_pos RO.s1) (aT RO.wn (aV Dd Dd)) Nat.one_le_two_pow) λq6 H6 hq6 e6 s6=>?_;have em:jX (eZ (bS F es e.1)) (pY (x.2.zip e.1))=WD F es x.2 e:=iI (mB (bV _) lw') (bV _) (by rw [oF (bV _).pos lw'.pos,eO];unfold WD;rw [eO];rfl);rw [em] at e6;refine pK (by show 3<=64;decide) λq7 H7 hq7 e7 s7=>?_;have s47:=(s5.trans s6).trans s7;refine DY (s47 _ _ e4L) Oo λH8 e8 b8=>?_;have t78:=b8.t (s47 _ _ e4L);refine ⟨_,_,zs++[.ref q7],rfl,(b3.trans (s4.trans s47).but).trans b8,e8,?_⟩;have ec:(came F es x.2)[i]?=some (e,WD F es x.2 e):=by unfold came;rw [aM,he];rfl
  rw [iJ ec];refine DS (QD ((s4.trans s47).t.trans t78) r3) ?_;exact (show BP K H7 (e,WD F es x.2 e) (.ref q7) from ⟨q7,cu,v,_,rfl,e7,s47 _ _ hcu,rv'.t s47.t,fD (s7 _ _ e6)⟩).t t78
 ·rintro σ H3 ⟨o4,o5,zs,rfl,b3,e3,r3⟩;refine ⟨_,rfl,?_⟩;have hc:(came F es x.2).take (min xs.length ys.length)=came F es x.2:=List.take_of_length_le (by unfold came;rw [aA];omega);rw [hc] at r3;exact k L zs H3 hL e3 r3 (bF.thru hL (s1.trans s2) b3)
theorem aCU(F:iH K "said_of" "said_of" SS f fd)(T:jK K mg c)(FQ48:gT dQ P w K mg base 3 "total" ["some"] (lU K))(FQ47:gT dQ P w K mg base 2 "times" ["one","other"] (iO K)):dI P w K mg base dQ 4 f fd ["came","way"] (kM K):=by
 refine F.oky aDF λvs H Q E h=>?_;unfold kM at h;obtain ⟨D,ys,es,F,W,M,iw,N,B,Ns,s,rfl,hD,rys,RO,f4,hw,hsh,k⟩:=h;refine ⟨rfl,λcdv A outer s9 hr=>?_⟩;have few:=RO.few;refine ⟨_,(aX (cC (bW FQ48 (hr.mono Dd) (aI (xO (fH.of (psc:=aO SS) (N:=["came","way"]) (xs:=["counts","says","share"]) (N':=["counts","says","share","way"]) (js:=[1]) Kk rfl rfl rfl) (iE (aE 0)) (λ_ _ _ _=>eJ) (λ_ _ _ _=>(bW FQ47 (hr.mono Dd) (aI (aE 2) (aI (bH (iF K) (aE 1) (bY eV aF (aE 3)) (λ_ _=>rfl)) aD))))) aD)))),?_⟩;refine ⟨_,rfl,D,rfl,⟨_,fT.of hD⟩,?_⟩;refine yT (as:=came F es s) (λ_=>true) (λx v=>BP K H x v) (λx y H'=>bO H' (fK (eZ (bS F es x.1.1*wq s x.1.1*lN x.1.2 (1+iw)))) y) (λx y H1 H2 s r=>r.flat s (dB _)) (by unfold came;rw [aA];omega) hD rys (λv x H' hx rx s'=>?_) (λL zs H2 hL e2 s2 pr=>?_)
 ·obtain ⟨e,he,rfl⟩:=aU.mp hx;obtain ⟨b,cu,z,y,rfl,hb,hcu,rz,ry⟩:=rx.t s'.t;refine ⟨b,[.ref cu,z,y],rfl,fS.of hb,rfl,λQ' h=>h H' (bF.refl _),λH5 Q' s5 _ k'=>?_⟩;obtain ⟨az,vz,rfl,haz,rvz⟩:=rz.t s5.t;have hsy:=RO.sy e he;obtain ⟨g,hg⟩:∃g,e.2[1+iw]?=some g:=⟨_,aC (by rw [hsy.len];omega)⟩;obtain ⟨vg,hvg,rvg⟩:=rvz.get hg;have gn:=hsy.at_ g (aR hg);refine ⟨_,rfl,_,rfl,_,rfl,_,_,rfl,rfl,?_⟩;refine jR haz (by have:=cK hvg;rwa [show ((1+iw:Nat):Int)=1+(iw:Int) by omega] at this) ?_;refine kK (gR.of (ry.same s5)) rvg.v (bV _) gn.1 (qB (RO.aq hsh he) RO.pz.1 RO.pz.2 RO.b2) (gn.2.2.up Dd) λq6 H6 hq6 e6 s6=>?_;refine k' _ H6 s6 (fD ?_);have em:jX (WD F es s e) g=eZ (bS F es e.1*wq s e.1*lN e.2 (1+iw)):=iI (mB (bV _) gn.1) (bV _) (by rw [oF (f:=WD F es s e) (bV _).pos gn.1.pos,YL hg];unfold WD;rw [eO,eO]);rw [<-em];exact e6
 ·rw [wR] at pr;have r2:=vX (g:=λx:bI × Fr=>eZ (bS F es x.1.1*wq s x.1.1*lN x.1.2 (1+iw))) pr;have e3:(came F es s).map (λx:bI × Fr=>eZ (bS F es x.1.1*wq s x.1.1*lN x.1.2 (1+iw)))=es.map λe=>eZ (bS F es e.1*wq s e.1*lN e.2 (1+iw)):=by unfold came;rw [List.map_map];rfl
  rw [e3] at r2;have fl:∀f∈es.map (λe=>eZ (bS F es e.1*wq s e.1*lN e.2 (1+iw))),Fn (N*Ns^M) B f:=λf hf=>by
   obtain ⟨e,he,rfl⟩:=aU.mp hf;exact (RO.aqs hsh he _).fq
  refine vO e2 (LM.of r2) (EB fl RO.pz.1 (aT RO.pz.2 (aV Dd Dd)) (by rw [aA];exact few) (bC RO.b2 (aV Dd Dd))) λv H3 s3 r3=>?_;rw [MJ (f:=λe:bI=>bS F es e.1*wq s e.1*lN e.2 (1+iw)) λe _=>⟨bV _,eO _⟩] at r3;exact k v H3 (s2.trans s3) r3
end
abbrev ZC:Stmt:=(top 30)
theorem aDK:bR ["rule"] ["rule"] (aO ZC):=⟨rfl,rfl,rfl,Kk,rfl,Kk,Kk⟩
abbrev ST:Stmt:=(top 39)
theorem aCj:bR ["trial","rule","way","came"] ["trial","rule","way"] (aO ST):=⟨rfl,rfl,rfl,Kk,rfl,Kk,Kk⟩
abbrev SW:Stmt:=(top 42)
theorem aDS:bR ["came","looks"] ["came","looks"] (aO SW):=⟨rfl,rfl,rfl,Kk,rfl,Kk,Kk⟩
abbrev SX:Stmt:=(top 41)
theorem aCk:bR ["trial","rule","way","came"] ["trial","rule","way"] (aO SX):=⟨rfl,rfl,rfl,Kk,rfl,Kk,Kk⟩
def uG(F:Nat)(es:List bI)(q:List Nat->Rat)(n:Nat):Rat:=cR (es.filter λe=>decide (e.1.sum=n)) λe=>bS F es e.1*q e.1*(1-s0 e)
structure TrG(W Ns:Nat)(ws:List (Str × List Fr)):Prop where
 w:ws.length=W
 sh:∀x∈ws,∀f∈x.2,Fn Ns 1 f
 b:∀x∈ws,WO 10 x.2
@[irreducible] def kN(K:PySem.W.Frag):Sp:=λvs H Q _=>∃(x:V) (es:List bI) (e:bI),vs=[x]/\EE K H es x/\es.getLast?=some e/\Q (.int (e.1.sum:Nat)) H
theorem AC{K:PySem.W.Frag}{H:Hp}{Q:VK}{E:XK}{x:V}{es:List bI}{e:bI}(h1:EE K H es x)(h2:es.getLast?=some e)(k:Q (.int (e.1.sum:Nat)) H):kN K [x] H Q E:=by unfold kN;exact ⟨x,es,e,rfl,h1,h2,k⟩
@[irreducible] def qW(K:PySem.W.Frag):Sp:=λvs H Q _=>∃(t r:V) (es:List bI) (F W M N B Ns:Nat) (fs:List Str) (ws:List (Str × List Fr)) (i:Nat) (x:Str × List Fr),vs=[t,r,.int (i:Int)]/\bO H (uK fs ws) t/\EE K H es r/\mX F W M N B Ns es/\1<=F/\F<=4/\ws[i]?=some x/\(∀f∈x.2,Fn Ns 1 f)/\WO 10 x.2/\W<=4/\ws.length=W/\∀v H',bF H H'->bO H' (qL ((List.range W).map λw=>eZ (mZ F es (wq x.2) w))) v->Q v H'
theorem JI{K:PySem.W.Frag}{H:Hp}{Q:VK}{E:XK}{t r:V}{es:List bI}{F W M N B Ns:Nat}{fs:List Str}{ws:List (Str × List Fr)}{i:Nat}{x:Str × List Fr}(h1:bO H (uK fs ws) t)(h2:EE K H es r)(h3:mX F W M N B Ns es)(h4:1<=F)(h5:F<=4)(h6:ws[i]?=some x)(h7:(∀f∈x.2,Fn Ns 1 f))(h8:WO 10 x.2)(h9:W<=4)(h10:ws.length=W)(k:∀v H',bF H H'->bO H' (qL ((List.range W).map λw=>eZ (mZ F es (wq x.2) w))) v->Q v H'):qW K [t,r,.int (i:Int)] H Q E:=by unfold qW;exact ⟨t,r,es,F,W,M,N,B,Ns,fs,ws,i,x,rfl,h1,h2,h3,h4,h5,h6,h7,h8,h9,h10,k⟩
@[irreducible] def gE(K:PySem.W.Frag):Sp:=λvs H Q _=>∃(D:Addr) (ys:List V) (es:List bI) (F W M N B Ns n:Nat) (s:List Fr),vs=[.ref D,.int (n:Int)]/\H D=some (.lst ys)/\Paired (BP K H) (came F es s) ys/\mX F W M N B Ns es/\(∀f∈s,Fn Ns 1 f)/\∀v H',bF H H'->bO H' (fK (eZ (uG F es (wq s) n))) v->Q v H'
theorem rE{K:PySem.W.Frag}{H:Hp}{Q:VK}{E:XK}{D:Addr}{ys:List V}{es:List bI}{F W M N B Ns n:Nat}{s:List Fr}(h1:H D=some (.lst ys))(h2:Paired (BP K H) (came F es s) ys)(h3:mX F W M N B Ns es)(h4:(∀f∈s,Fn Ns 1 f))(k:∀v H',bF H H'->bO H' (fK (eZ (uG F es (wq s) n))) v->Q v H'):gE K [.ref D,.int (n:Int)] H Q E:=by unfold gE;exact ⟨D,ys,es,F,W,M,N,B,Ns,n,s,rfl,h1,h2,h3,h4,k⟩
@[irreducible] def nY(K:PySem.W.Frag):Sp:=λvs H Q _=>∃(t r:V) (es:List bI) (F W M N B Ns:Nat) (fs:List Str) (ws:List (Str × List Fr)) (i L:Nat) (x:Str × List Fr) (e:bI),vs=[t,r,.int (i:Int)]/\bO H (uK fs ws) t/\EE K H es r/\mX F W M N B Ns es/\1<=F/\F<=4/\ws[i]?=some x/\(∀f∈x.2,Fn Ns 1 f)/\WO 10 x.2/\es.getLast?=some e/\e.1.sum=L/\L<=6/\∀v H',bF H H'->bO H' (qL ((List.range (L+1)).map λn=>eZ (uG F es (wq x.2) n))) v->Q v H'
theorem EU{K:PySem.W.Frag}{H:Hp}{Q:VK}{E:XK}{t r:V}{es:List bI}{F W M N B Ns:Nat}{fs:List Str}{ws:List (Str × List Fr)}{i L:Nat}{x:Str × List Fr}{e:bI}(h1:bO H (uK fs ws) t)(h2:EE K H es r)(h3:mX F W M N B Ns es)(h4:1<=F)(h5:F<=4)(h6:ws[i]?=some x)(h7:(∀f∈x.2,Fn Ns 1 f))(h8:WO 10 x.2)(h9:es.getLast?=some e)(h10:e.1.sum=L)(h11:L<=6)(k:∀v H',bF H H'->bO H' (qL ((List.range (L+1)).map λn=>eZ (uG F es (wq x.2) n))) v->Q v H'):nY K [t,r,.int (i:Int)] H Q E:=by unfold nY;exact ⟨t,r,es,F,W,M,N,B,Ns,fs,ws,i,L,x,e,rfl,h1,h2,h3,h4,h5,h6,h7,h8,h9,h10,h11,k⟩
section
variable{F W M N B Ns:Nat}{es:List bI}{s:List Fr}
theorem mX.said(R:mX F W M N B Ns es)(hs:∀f∈s,Fn Ns 1 f)(w:Nat):Qn (N*Ns^M) (64*B) (mZ F es (wq s) w):=(Qn.sumL (λe he=>R.aqs hs he (1+w))).le (cW _ R.few)
theorem mX.ends(R:mX F W M N B Ns es)(hs:∀f∈s,Fn Ns 1 f){e:bI}(he:e∈es):Qn (N*Ns^M) (2*B) (bS F es e.1*wq s e.1*(1-s0 e)):=by
 have h:=(R.aq hs he).sub (show Qn (N*Ns^M) B (bS F es e.1*wq s e.1*s0 e) from R.aqs hs he 0);rw [show bS F es e.1*wq s e.1*(1-s0 e)=bS F es e.1*wq s e.1-bS F es e.1*wq s e.1*s0 e by grind];exact h.le Oo
end
section
theorem aC2(F:iH K "most_of" "most_of" ZC f fd)(T:jK K mg c):dI P w K mg base dQ 1 f fd ["rule"] (kN K):=by
 refine F.oky aDK λvs H Q E h=>?_;unfold kN at h;obtain ⟨x,es,e,rfl,rx,he,k⟩:=h;refine ⟨rfl,λcdv A outer s hr=>?_⟩;obtain ⟨a,xs,rfl,ha,lx,rxs⟩:=rx;have he':es[es.length-1]?=some e:=by rw [<-List.getLast?_eq_getElem?];exact he
 have hl:0<es.length:=by
  rcases Nat.eq_zero_or_pos es.length with h | h
  ·rw [List.length_eq_zero_iff.mp h] at he;cases he
  ·exact h
 have hz:xs[es.length-1]?=some (xs[es.length-1]'Oo):=aC _;obtain ⟨e2,h2,b,cu,z,eb,hb,hcu,_⟩:=rxs _ _ hz;rw [he'] at h2;cases h2;rw [eb] at hz;refine ⟨_,(aX (cC (eC (uV K rfl) (by rfl) T.b_sum Kk (aI (bH aZ (bH aZ (aE 0) (BS vF aF) (λ_ _=>rfl)) aF (λ_ _=>rfl)) aD)))),?_⟩;refine ⟨_,rfl,_,rfl,?_⟩;refine jR ha (v:=.ref b) ?_ ?_
 ·have hix:xB xs.length (-1)=some (es.length-1):=by
   unfold xB;rw [if_neg Dd];rw [if_pos Oo];congr 1;omega
  unfold BJ;rw [hix];exact hz
 refine jR hb rfl ?_;refine rsT (ns:=ci e.1) (by rw [iS];exact fS.of hcu) ?_;rw [BH];exact k
theorem aCV(F:iH K "said" "said" ST f fd)(T:jK K mg c)(FQ25:gT dQ P w K mg base 4 "comings" ["trial","rule","way"] (jD K))(FQ46:gT dQ P w K mg base 4 "said_of" ["came","way"] (kM K))(FQ50:gT dQ P w K mg base 1 "ways_of" ["trial"] lT):dI P w K mg base dQ 5 f fd ["trial","rule","way"] (qW K):=by
 refine F.oky aCj λvs H Q E h=>?_;unfold qW at h;obtain ⟨t,r,es,F,W,M,N,B,Ns,fs,ws,i,x,rfl,rt,rr,RO,f1,f4,hx,hsh,hbo,w4,lw',k⟩:=h;refine ⟨rfl,λcdv A outer s hr=>?_⟩;refine ⟨_,(aJ (bN (i:=3) aCj.nd rfl (Or.inr rfl) (bW FQ25 (hr.mono Dd) (aI (aE 0) (aI (aE 1) (aI (aE 2) aD)))))
  (aX (cC (iY dJ (by rfl) T.b_tuple Kk (aI (eS (dY.of (psc:=aO ST) (N:=["trial","rule","way","came"]) (N':=["other","came"]) (js:=[3]) Kk rfl rfl rfl) (dD rfl T.b_range (aI (bW FQ50 (hr.mono Dd) (aI (aE 0) aD)) aD)) (λ_ _ _ _=>eJ) (λ_ _ _ _=>(bW FQ46 (hr.mono Dd) (aI (aE 1) (aI (aE 0) aD))))) aD))))),?_⟩
 refine ⟨_,rfl,_,rfl,_,rfl,?_⟩;refine rF rt rr RO f1 f4 hx hsh hbo λD xs H1 hD e1 r1 s1=>?_;refine ⟨_,rfl,?_⟩;refine CF (rt.same s1) ?_;refine ⟨_,rfl,Oo,Oo,?_⟩;refine iM (λj y H'=>j<W/\bO H' (fK (eZ (mZ F es (wq x.2) j))) y) (λj y H1 H2 s ⟨h1,h2⟩=>⟨h1,h2.flat s (dB _)⟩) Oo (λj H' Q' hj s' k'=>?_) (λL ys H2 hL e2 s2 hy hr2=>?_)
 ·rw [show (0:Int)+(j:Int)=(j:Int) by omega];refine ⟨_,rfl,_,rfl,?_⟩;refine AB (s' _ _ e1) (QD s'.t r1) RO f4 Oo hsh λv H3 s3 r3=>?_;exact k' _ H3 s3 ⟨Oo,r3⟩
 ·refine ⟨L,ys,rfl,.inl ⟨fT.of e2,λl hl=>?_⟩⟩;have sl:=bF.upd (o:=.tup ys) hl;refine k _ _ ((s1.trans s2).trans sl) (bO.tup bJ (aP.ofIdx (by rw [hy,aA,aA,cX];omega) λj y hj=>?_));obtain ⟨h1,h2⟩:=hr2 j y hj;exact ⟨_,by rw [aM,aM,dN h1];rfl,h2.same sl⟩
theorem aDb(F:iH K "ended_behind" "ended_behind" SW f fd)(T:jK K mg c)(FQ48:gT dQ P w K mg base 3 "total" ["some"] (lU K))(FQ47:gT dQ P w K mg base 2 "times" ["one","other"] (iO K))(FQ36:gT dQ P w K mg base 3 "less" ["one","other"] (nX K)):dI P w K mg base dQ 4 f fd ["came","looks"] (gE K):=by
 refine F.oky aDS λvs H Q E h=>?_;unfold gE at h;obtain ⟨D,ys,es,F,W,M,N,B,Ns,n,s,rfl,hD,rx,RO,hsh,k⟩:=h;refine ⟨rfl,λcdv A outer s9 hr=>?_⟩;have few:=RO.few;refine ⟨_,(aX (cC (bW FQ48 (hr.mono Dd) (aI (xO (fH.of (psc:=aO SW) (N:=["came","looks"]) (xs:=["counts","says","share"]) (N':=["counts","says","share","looks"]) (js:=[1]) Kk rfl rfl rfl) (iE (aE 0)) (λ_ _ _ _=>GJ (eB oI (eC (uV K rfl) (by rfl) T.b_sum Kk (aI (aE 0) aD)) (aE 3) (nomark _))) (λ_ _ _ _=>(bW FQ47 (hr.mono Dd) (aI (aE 2) (aI (bW FQ36 (hr.mono Dd) (aI (jV (v:=.ref c.ONE) rfl T.g_ONE rfl) (aI (bH (iF K) (aE 1) aF (λ_ _=>rfl)) aD))) aD))))) aD)))),?_⟩;refine ⟨_,rfl,D,rfl,⟨_,fT.of hD⟩,?_⟩;refine yT (as:=came F es s) (λq=>decide (q.1.1.sum=n)) (λq x=>BP K H q x) (λq y H'=>bO H' (fK (eZ (bS F es q.1.1*wq s q.1.1*(1-s0 q.1)))) y) (λq y H1 H2 s r=>r.flat s (dB _)) (by unfold came;rw [aA];omega) hD rx (λx q H' hq rq s'=>?_) (λL ys H1 hL e1 s1 pr=>?_)
 ·obtain ⟨e,he,rfl⟩:=aU.mp hq;obtain ⟨b,cu,z,y,rfl,hb,hcu,rz,ry⟩:=rq.t s'.t;refine ⟨b,[.ref cu,z,y],rfl,fS.of hb,rfl,λQ' h=>?_,λH5 Q' s5 _ k'=>?_⟩
  ·refine ⟨_,rfl,?_⟩;refine rsT (ns:=ci e.1) (by rw [iS];exact fS.of hcu) ?_;rw [BH];refine ⟨_,rfl,rfl,_,rfl,?_⟩;have:=h H' (bF.refl _);have e2:decide (V.int ((e.1.sum:Nat):Int)=V.int (n:Int))=decide (e.1.sum=n):=by
    rw [decide_eq_decide];exact ⟨λh=>by injection h with h;omega,λh=>by rw [h]⟩
   rw [e2];exact this
  ·obtain ⟨f0,fr,ef,l0,z0,nn0,v0,on0⟩:=(RO.sy e he).hd;have es0:s0 e=rv f0:=v0;obtain ⟨az,vz,rfl,haz,rvz⟩:=rz.t s5.t;rw [ef] at rvz;obtain ⟨y0,hy0,ry0⟩:=rvz.get (i:=0) rfl;have hone:gR K H5 (1,1) (.ref c.ONE):=⟨c.ONE,rfl,nO T.o_ONE⟩;refine ⟨_,rfl,_,rfl,?_⟩;refine jR haz (cK (j:=0) hy0) ?_;refine ET hone ry0.v UW l0 (oS (Fn.one 1) Dd Kk Nat.one_le_two_pow) (z0.up Dd) λq6 H6 hq6 e6 s6=>?_;have ef0:kW (1,1) (FM f0)=eZ (1-s0 e):=by
    have:=YO 1 (s0 e);rw [BB,es0,PC l0] at this;rw [es0];exact this
   have zf:lK 4000 (eZ (1-s0 e)):=by
    have e1:rv (eZ (1-s0 e))=rv (f0.2-f0.1,f0.2):=by
     rw [eO,es0];have:=jN l0.pos;have h1:=pR l0.pos;have h2:rv (f0.2-f0.1,f0.2)*((f0.2:Int):Rat)=((f0.2-f0.1:Int):Rat):=pR (f:=(f0.2-f0.1,f0.2)) l0.pos;rw [Rat.intCast_sub] at h2;grind
    have l1:cS (f0.2-f0.1,f0.2):=⟨l0.pos,by
     show Int.gcd (f0.2-f0.1) f0.2=1;have h1:((Int.gcd (f0.2-f0.1) f0.2:Nat):Int) ∣ f0.2-f0.1:=Int.gcd_dvd_left ..;have h2:((Int.gcd (f0.2-f0.1) f0.2:Nat):Int) ∣ f0.2:=Int.gcd_dvd_right ..;have h3:((Int.gcd (f0.2-f0.1) f0.2:Nat):Int) ∣ f0.1:=by
      have:=Int.dvd_sub h2 h1
      rwa [show f0.2-(f0.2-f0.1)=f0.1 by omega] at this
     have h4:=Int.dvd_coe_gcd h3 h2;rw [l0.low] at h4;exact Nat.dvd_one.mp (Int.ofNat_dvd.mp h4)⟩
    rw [iI (bV _) l1 e1];exact ⟨by
     show (f0.2-f0.1).natAbs<2^4000;have h1:=z0.1;have h2:=z0.2;have h3:2^3000+2^3000<=2^4000:=Kk;omega,(z0.up (k:=4000) Dd).2⟩
   rw [ef0] at e6;refine kK (gR.of ((ry.same s5).same s6)) (gR.new e6) (bV _) (bV _) (qB (RO.aq hsh he) RO.pz.1 RO.pz.2 RO.b2) zf λq7 H7 hq7 e7 s7=>?_;refine k' _ H7 (s6.trans s7) (fD ?_);have em:jX (WD F es s e) (eZ (1-s0 e))=eZ (bS F es e.1*wq s e.1*(1-s0 e)):=OH _ _;rw [<-em];exact e7
 ·have e3:((came F es s).filter λq=>decide (q.1.1.sum=n)).map (λq:bI × Fr=>eZ (bS F es q.1.1*wq s q.1.1*(1-s0 q.1)))=(es.filter λe=>decide (e.1.sum=n)).map λe=>eZ (bS F es e.1*wq s e.1*(1-s0 e)):=by unfold came;rw [List.filter_map,List.map_map];rfl
  have r2:=vX (g:=λq:bI × Fr=>eZ (bS F es q.1.1*wq s q.1.1*(1-s0 q.1))) pr;rw [e3] at r2;have fl:∀f∈(es.filter λe=>decide (e.1.sum=n)).map (λe=>eZ (bS F es e.1*wq s e.1*(1-s0 e))),Fn (N*Ns^M) (2*B) f:=λf hf=>by
   obtain ⟨e,he,rfl⟩:=aU.mp hf;exact (RO.ends hsh (kF.mp he).1).fq
  refine vO e1 (LM.of r2) (EB fl RO.pz.1 (aT RO.pz.2 (aV Dd Dd)) (by rw [aA];exact bC (List.length_filter_le ..) few) (bC (fM 2 RO.b) Kk)) λv H2 s2 r2=>?_;rw [MJ (f:=λe:bI=>bS F es e.1*wq s e.1*(1-s0 e)) λe _=>⟨bV _,eO _⟩] at r2;exact k v H2 (s1.trans s2) r2
theorem aDc(F:iH K "ended" "ended" SX f fd)(T:jK K mg c)(FQ25:gT dQ P w K mg base 4 "comings" ["trial","rule","way"] (jD K))(FQ29:gT dQ P w K mg base 4 "ended_behind" ["came","looks"] (gE K))(FQ38:gT dQ P w K mg base 1 "most_of" ["rule"] (kN K)):dI P w K mg base dQ 5 f fd ["trial","rule","way"] (nY K):=by
 refine F.oky aCk λvs H Q E h=>?_;unfold nY at h;obtain ⟨t,r,es,F,W,M,N,B,Ns,fs,ws,i,L,x,e,rfl,rt,rr,RO,f1,f4,hx,hsh,hbo,he,hL,hL4,k⟩:=h;refine ⟨rfl,λcdv A outer s hr=>?_⟩;refine ⟨_,(aJ (bN (i:=3) aCk.nd rfl (Or.inr rfl) (bW FQ25 (hr.mono Dd) (aI (aE 0) (aI (aE 1) (aI (aE 2) aD)))))
  (aX (cC (iY dJ (by rfl) T.b_tuple Kk (aI (eS (dY.of (psc:=aO SX) (N:=["trial","rule","way","came"]) (N':=["looks","came"]) (js:=[3]) Kk rfl rfl rfl) (dD rfl T.b_range (aI (bY eV (bW FQ38 (hr.mono Dd) (aI (aE 1) aD)) aF) aD)) (λ_ _ _ _=>eJ) (λ_ _ _ _=>(bW FQ29 (hr.mono Dd) (aI (aE 1) (aI (aE 0) aD))))) aD))))),?_⟩
 refine ⟨_,rfl,_,rfl,_,rfl,?_⟩;refine rF rt rr RO f1 f4 hx hsh hbo λD xs H1 hD e1 r1 s1=>?_;refine ⟨_,rfl,?_⟩;refine AC (rr.t s1.t) he ?_;rw [hL];refine ⟨_,_,rfl,rfl,_,rfl,Oo,Oo,?_⟩;refine iM (λj y H'=>j<L+1/\bO H' (fK (eZ (uG F es (wq x.2) j))) y) (λj y H1 H2 s ⟨h1,h2⟩=>⟨h1,h2.flat s (dB _)⟩) Oo (λj H' Q' hj s' k'=>?_) (λLL ys H2 hL e2 s2 hy hr2=>?_)
 ·rw [show (0:Int)+(j:Int)=(j:Int) by omega];refine ⟨_,rfl,_,rfl,?_⟩;refine rE (s' _ _ e1) (QD s'.t r1) RO hsh λv H3 s3 r3=>?_;exact k' _ H3 s3 ⟨Oo,r3⟩
 ·refine ⟨LL,ys,rfl,.inl ⟨fT.of e2,λl hl=>?_⟩⟩;have sl:=bF.upd (o:=.tup ys) hl;refine k _ _ ((s1.trans s2).trans sl) (bO.tup bJ (aP.ofIdx (by rw [hy,aA,aA,cX];omega) λj y hj=>?_));obtain ⟨h1,h2⟩:=hr2 j y hj;exact ⟨_,by rw [aM,aM,dN h1];rfl,h2.same sl⟩
end
abbrev NB:Stmt:=(top 49)
theorem WB:bR ["_law_feed_here","_law_ways","_law_last","_law_parts","_law_k","_law_place"] ["_law_feed_here","_law_ways","_law_last"] (aO NB):=⟨rfl,rfl,rfl,Kk,rfl,Kk,Kk⟩
abbrev ZR:Stmt:=(top 50)
theorem aDV:bR ["_law_counts","_law_face"] ["_law_counts","_law_face"] (aO ZR):=⟨rfl,rfl,rfl,Kk,rfl,Kk,Kk⟩
abbrev LC:Nat:=360360
structure nE(n:Nat)(fs:List Fr):Prop where
 ex:∃ns:List Int,ns.length=n/\(∀x∈ns,0<=x)/\0<ns.sum/\ns.sum<=15/\fs=ns.map λx=>lw x ns.sum
theorem XW:∀s,s<=15->1<=s->s ∣ LC:=Kk
theorem nE.fn{n:Nat}{fs:List Fr}(h:nE n fs):∀f∈fs,Fn LC 1 f/\0<=f.1/\f.1.natAbs<=15/\f.2.natAbs<=15:=by
 obtain ⟨ns,l,h0,hp,h15,rfl⟩:=h.ex;intro f hf;obtain ⟨x,hx,rfl⟩:=aU.mp hf;have le:=oU h0 hx;have x0:=h0 x hx;have hf:=Fn.of (n:=x) (B:=1) hp Oo;obtain ⟨n1,n2⟩:=hf.num Oo;refine ⟨hf.dvd (XW _ Oo Oo),?_,Oo,Oo⟩;exact Int.ediv_nonneg (a:=x) (b:=((Int.gcd x ns.sum:Nat):Int)) x0 (Int.natCast_nonneg _)
theorem nE.one{n:Nat}{fs:List Fr}(h:nE n fs):pJ (fs.map rv)=1:=by
 obtain ⟨ns,l,h0,hp,h15,rfl⟩:=h.ex;have all:∀ms:List Int,pJ ((ms.map λx=>lw x ns.sum).map rv)*((ns.sum:Int):Rat)=((ms.sum:Int):Rat):=by
  intro ms
  induction ms with
  | nil=>simp [qQ]
  | cons a ms ih =>
   rw [aW,aW,lQ,List.sum_cons,Rat.intCast_add,Rat.add_mul,ih,vT hp,Rat.div_def];have:=jN hp;grind
 have:=all ns;have hn:=jN hp;grind
theorem nE.g{n:Nat}{fs:List Fr}(h:nE n fs):SyG n fs where
 len:=by
  obtain ⟨ns,l,h0,hp,h15,rfl⟩:=h.ex;rw [aA];exact l
 at_:=λf hf=>by
  obtain ⟨h1,h2,h3,h4⟩:=h.fn f hf;have hb:(15:Nat)<2^3000:=Kk;exact ⟨h1.low,h2,Oo,Oo⟩
 one:=h.one
theorem jW:∀{ns:List Int}{i:Nat}{x y:Int},ns[i]?=some y->(ns.set i x).sum=ns.sum-y+x
 | n::ns,0,x,y,h=>by
  cases (show n=y by simpa using h);rw [List.set_cons_zero,List.sum_cons,List.sum_cons];omega
 | n::ns,i+1,x,y,h=>by
  rw [List.set_cons_succ,List.sum_cons,List.sum_cons,jW (show ns[i]?=some y by simpa using h)];omega
theorem EY{ns:List Int}{i:Nat}{x:Int}(h:∀n∈ns,0<=n)(hx:0<=x):∀n∈ns.set i x,0<=n:=λn hn=>by
 rcases List.mem_or_eq_of_mem_set hn with h' | rfl
 ·exact h n h'
 ·exact hx
theorem HZ{ns:List Int}{i:Nat}{x:Int}(h:ns[i]?=some x):BJ (ns.map V.int) (i:Int)=some (.int x):=cK (by rw [aM,h];rfl)
theorem FR{ns:List Int}{i:Nat}(h:i<ns.length):xB (ns.map V.int).length (i:Int)=some i:=by
 unfold xB;rw [if_pos Oo,if_pos (by rw [aA];omega)]
 rfl
theorem LS:∀F:Nat,(List.replicate F (0:Int)).sum=0
 | 0=>rfl
 | n+1=>by rw [List.replicate_succ,List.sum_cons,LS n];rfl
@[irreducible] def qV:Sp:=λvs H Q _=>∃(p L:Addr) (W:Nat) (b:Bool),vs=[.ref p,.int (W:Int),.bl b]/\bZ H p L/\1<=W/\W<=4/\∀v fs H',bZ H' p L->aK p H H'->bO H' (qL fs) v->nE (1+W) fs->(b=true->fs[0]?=some (0,1))->Q v H'
theorem JH{H:Hp}{Q:VK}{E:XK}{p L:Addr}{W:Nat}{b:Bool}(F:bZ H p L)(h1:1<=W)(h4:W<=4)(k:∀v fs H',bZ H' p L->aK p H H'->bO H' (qL fs) v->nE (1+W) fs->(b=true->fs[0]?=some (0,1))->Q v H'):qV [.ref p,.int (W:Int),.bl b] H Q E:=by
 unfold qV;exact ⟨p,L,W,b,rfl,F,h1,h4,k⟩
@[irreducible] def nV:Sp:=λvs H Q _=>∃(x:V) (cs:List Nat) (i:Nat),vs=[x,.int (i:Int)]/\bO H (nB cs) x/\i<cs.length/\cs.length<=64/\∀v H',bF H H'->bO H' (nB (bU cs i)) v->Q v H'
theorem ES{H:Hp}{Q:VK}{E:XK}{x:V}{cs:List Nat}{i:Nat}(h1:bO H (nB cs) x)(h2:i<cs.length)(h3:cs.length<=64)(k:∀v H',bF H H'->bO H' (nB (bU cs i)) v->Q v H'):nV [x,.int (i:Int)] H Q E:=by
 unfold nV;exact ⟨x,cs,i,rfl,h1,h2,h3,k⟩
section
theorem aDp(F:iH K "_law_more" "_law_more" ZR f fd)(T:jK K mg c):dI P w K mg base dQ 1 f fd ["_law_counts","_law_face"] nV:=by
 refine F.oky aDV λvs H Q E h=>?_;unfold nV at h;obtain ⟨x,cs,i,rfl,rx,hi,hl,k⟩:=h;refine ⟨rfl,λcdv A outer s hr=>?_⟩;obtain ⟨a,rfl,ha⟩:=iR rx;refine ⟨_,(aX (cC (bY (uO K) (bY (uO K) (gB (pC K) (aE 0) iD (iC (aE 1))) (dO (aI (bY eV (bH aZ (aE 0) (aE 1) (λ_ _=>rfl)) aF) aD))) (gB (pC K) (aE 0) (iC (bY eV (aE 1) aF)) iD)))),?_⟩;refine ⟨_,rfl,_,rfl,_,rfl,?_⟩;refine AF ha λc2 H2 s2 e2=>?_;refine ⟨_,rfl,_,rfl,?_⟩;have hat:BJ (cs.map IJ) (i:Int)=some (IJ (cs.getD i 0)):=cK (by rw [aM,aS,aC hi];rfl);refine jR (s2 _ _ ha) hat ?_;refine ⟨_,_,rfl,rfl,?_⟩;refine pK (by show 1<=64;decide) λc3 H3 hc3 e3 s3=>?_;refine VW (s3 _ _ e2) e3 (by rw [bT,aA];show min i cs.length+1<=1000;omega) λc4 H4 s4 e4=>?_;refine ⟨_,rfl,_,rfl,_,_,rfl,rfl,?_⟩;refine ⟨_,rfl,?_⟩;refine GZ (k:=i+1) Oo (s4 _ _ (s3 _ _ (s2 _ _ ha))) λc5 H5 s5 e5=>?_;refine VW (s5 _ _ e4) e5 (by rw [bK,bT,List.length_drop,aA];show min i cs.length+1+(cs.length-(i+1))<=1000;omega) λc6 H6 s6 e6=>?_;refine k _ H6 ((((s2.trans s3).trans s4).trans s5).trans s6) (oP ?_);rw [e6,DW hi,bL,bL,List.map_take,List.map_drop]
 rfl
theorem aDm(F:iH K "_law_says" "_law_says" NB f fd)(T:jK K mg c)(FQ11:gT dQ P w K mg base 1 "_law_draw" ["_law_feed_here","_law_many"] lC)(FQ14:gT dQ P w K mg base 1 "_law_low" ["_law_n","_law_d"] nU):dI P w K mg base dQ 2 f fd ["_law_feed_here","_law_ways","_law_last"] qV:=by
 refine F.oky WB λvs H Q E h=>?_;unfold qV at h;obtain ⟨p,L,W,b,rfl,F,w1,w4,k⟩:=h;refine ⟨rfl,λcdv A outer s hr=>?_⟩;have bw:bits (W:Int)<=9000:=bitsle (bG (show ((W:Int)).natAbs<=5 by omega) Kk);have bw1:bits (1+(W:Int))<=9000:=bitsle (bG (show ((1+(W:Int))).natAbs<=5 by omega) Kk);refine ⟨_,(aJ (bN (i:=3) WB.nd rfl (Or.inr rfl) (eS (dY.of (psc:=aO NB) (N:=["_law_feed_here","_law_ways","_law_last","_law_parts","_law_k","_law_place"]) (N':=["_law_k"]) (js:=[]) Kk rfl rfl rfl) (dD rfl T.b_range (aI (bY eV aF (aE 1)) aD)) (λ_ _ _ _=>eJ) (λ_ _ _ _=>aF)))
  (aJ (gL PassesOwn.never rfl (dD rfl T.b_range (aI (bY eV aF (bW FQ11 (hr.mono Dd) (aI (aE 0) (aI aF aD)))) aD)) (dR (i:=4) WB.nd rfl (Or.inl rfl)) (aJ (bN (i:=5) WB.nd rfl (Or.inl rfl) (bH aZ (fO (aI aF (aI (bW FQ11 (hr.mono Dd) (aI (aE 0) (aI (bY eV aF (aE 1)) aD))) aD))) (bW FQ11 (hr.mono Dd) (aI (aE 0) (aI aF aD))) (λ_ _=>rfl)))
  (aX (kG (bY eV (bY eV (bH aZ (aE 3) (aE 5) (λ_ _=>rfl)) aF) (bW FQ11 (hr.mono Dd) (aI (aE 0) (aI aF aD)))) (lG (aE 3) (aE 5) hU)))))
  (aJ (kG (bY eK (bH aZ (aE 3) aF (λ_ _=>rfl)) (iY yV (by rfl) T.b_int Kk (aI (LY (aE 2)) aD))) (lG (aE 3) aF hU))
  (aJ (zO (gY (eB oI (eC (QE rfl) (by rfl) T.b_sum Kk (aI (aE 3) aD)) aF (nomark _)) (aX (kG aF (lG (aE 3) (bY eV aF (bW FQ11 (hr.mono Dd) (aI (aE 0) (aI (aE 1) aD)))) hU))) eQ))
  (aX (cC (iY dJ (by rfl) T.b_tuple Kk (aI (eS (dY.of (psc:=aO NB) (N:=["_law_feed_here","_law_ways","_law_last","_law_parts","_law_k","_law_place"]) (N':=["_law_part","_law_parts"]) (js:=[3]) Kk rfl rfl rfl) (iE (aE 3)) (λ_ _ _ _=>eJ) (λ_ _ _ _=>(bW FQ14 (hr.mono Dd) (aI (aE 0) (aI (eC (IM K rfl) (by rfl) T.b_sum Kk (aI (aE 1) aD)) aD))))) aD)))))))),?_⟩
 refine ⟨_,rfl,_,_,rfl,rfl,_,rfl,Oo,Oo,?_⟩;refine iM (λ_ y _=>∃n,y=.int n/\n=0) (λ_ _ _ _ _ h=>h) Oo (λi H' Q' hi s' k'=>k' _ H' (bF.refl _) ⟨0,rfl,rfl⟩) (λD ys H1 hD e1 s1 hy hr1=>?_);obtain ⟨zs,rfl,hz⟩:=rQ (P:=λ_ n=>n=0) hr1;have lz:zs.length=1+W:=by rw [aA] at hy;omega
 have ez:zs=List.replicate (1+W) 0:=List.eq_replicate_iff.mpr ⟨lz,λb hb=>by obtain ⟨i,h⟩:=cN.mp hb;exact hz i b h⟩;have zsum:zs.sum=0:=by rw [ez];exact LS _
 have znn:∀n∈zs,0<=n:=λn hn=>by rw [ez] at hn;rw [List.eq_of_mem_replicate hn];exact Int.le_refl _
 clear hz hy hr1 ez;have np:=F.ne hD;have nL:=F.neL hD;have F1:=F.same s1;refine ⟨_,rfl,?_⟩;refine eI F1 Dd Kk λx H2 x0 x1 F2 s2=>?_;obtain ⟨m,rfl⟩:=sZ x0;refine ⟨_,_,rfl,rfl,_,rfl,Oo,Oo,?_⟩;refine gH (λi σ H'=>∃(o4 o5:Option V) (ns:List Int),σ=[some (.ref p),some (.int (W:Int)),some (.bl b),some (.ref D),o4,o5]/\bZ H' p L/\aK p H H'/\H' D=some (.lst (ns.map V.int))/\ns.length=1+W/\(∀n∈ns,0<=n)/\ns.sum<=5*(i:Int)) ⟨_,_,zs,rfl,F2,s1.but.trans s2,s2.at np e1,lz,znn,Oo⟩ ?_ ?_
 ·rintro i σ H3 hi ⟨o4,o5,ns,rfl,F3,S3,e3,ln,nn,hsum⟩;refine ⟨_,rfl,_,rfl,_,_,rfl,rfl,?_⟩;refine eI F3 Oo bw1 λy H4 y0 y1 F4 s4=>?_;obtain ⟨j0,rfl⟩:=sZ y0;refine yF (by show 2<=64;decide) λq5 H5 hq5 e5 s5=>?_;have F5:=F4.same s5;refine ⟨_,rfl,?_⟩;refine eI F5 Dd Kk λz H6 z0 z1 F6 s6=>?_;obtain ⟨mz,rfl⟩:=sZ z0;have nq:=F4.ne hq5;obtain ⟨j,hj,hjW⟩:∃j:Nat,([.int 0,.int (j0:Int)]:List V)[mz]?=some (.int (j:Int))/\j<1+W:=by
   rcases (show mz=0\/mz=1 by omega) with rfl | rfl
   ·exact ⟨0,rfl,Oo⟩
   ·exact ⟨j0,rfl,Oo⟩
  refine lF (s6.at nq e5) (cK hj) ?_;have hjl:j<ns.length:=Oo;have hnj:=aC hjl;have e6:H6 D=some (.lst (ns.map V.int)):=s6.at np (s5 _ _ (s4.at np e3));refine ⟨_,rfl,_,rfl,?_⟩;refine lF e6 (HZ hnj) ?_;refine ⟨_,_,rfl,rfl,?_⟩;refine ⟨_,rfl,?_⟩;refine eI F6 Dd Kk λu H7 u0 u1 F7 s7=>?_;refine ⟨_,_,rfl,rfl,?_⟩;refine ⟨_,rfl,_,rfl,?_⟩;refine SN (s7.at np e6) (FR hjl) λH8 e8 s8=>?_;have b7:aK p H H7:=(((S3.trans s4).trans s5.but).trans s6).trans s7;have nnj:=nn _ (List.getElem_mem hjl);refine ⟨_,_,ns.set j (ns[j]+1+u),rfl,F7.but s8 np nL,aK.thru hD b7 s8,?_,by rw [List.length_set];exact ln,EY nn Oo,?_⟩
  ·rw [e8,List.map_set]
  ·rw [jW hnj];omega
 ·rintro σ H3 ⟨o4,o5,ns,rfl,F3,S3,e3,ln,nn,hsum⟩;have hsum:ns.sum<=15:=Oo;have h0l:0<ns.length:=Oo;have hn0:=aC h0l;have nn0:=nn _ (List.getElem_mem h0l);have le0:=oU nn (List.getElem_mem h0l);have snn:=mI nn;refine ⟨_,rfl,?_⟩;refine lF e3 (HZ (i:=0) hn0) ?_;refine ⟨_,rfl,_,rfl,.inr ⟨_,rfl,?_⟩⟩;refine ⟨_,_,rfl,rfl,?_⟩;refine ⟨IntMulOk.of_left (PySem.intBits_le_64 Oo Oo),?_⟩;obtain ⟨x0,hx0,x00,x01,x02⟩:∃x0:Int,ns[0]*(if (!b)=true then 1 else 0)=x0/\0<=x0/\x0<=ns[0]/\(b=true->x0=0):=by
   cases b
   ·exact ⟨_,rfl,by simp;exact nn0,by simp,λz=>by cases z⟩
   ·exact ⟨_,rfl,by simp,by simp;exact nn0,λ_=>by simp⟩
  refine ⟨_,rfl,?_⟩;refine SN e3 (FR h0l) λH4 e4 s4=>?_;have e4:H4 D=some (.lst ((ns.map V.int).set 0 (.int (ns[0]*(if (!b)=true then 1 else 0))))):=e4;rw [hx0,<-List.map_set] at e4;have F4:=F3.but s4 np nL;have S4:aK p H H4:=aK.thru hD S3 s4;have sum4:(ns.set 0 x0).sum<=15:=by rw [jW hn0];omega
  have nn4:=EY (i:=0) nn x00;have h40:(ns.set 0 x0)[0]?=some x0:=by rw [List.getElem?_set_self h0l]
  have l4:(ns.set 0 x0).length=1+W:=by rw [List.length_set];exact ln
  generalize ns.set 0 x0=ms at e4 sum4 nn4 h40 l4;have nn4s:=mI nn4;refine ⟨λσ H'=>∃ms:List Int,σ=[some (.ref p),some (.int (W:Int)),some (.bl b),some (.ref D),o4,o5]/\bZ H' p L/\aK p H H'/\H' D=some (.lst (ms.map V.int))/\ms.length=1+W/\(∀n∈ms,0<=n)/\0<ms.sum/\ms.sum<=15/\(b=true->ms[0]?=some 0),?_,?_⟩
  ·rintro σ H5 ⟨ms,rfl,F5,S5,e5,l5,nn5,p5,sum5,b5⟩;refine ⟨_,rfl,D,rfl,⟨_,fT.of e5⟩,?_⟩;refine pG (λi y H'=>∃n,ms[i]?=some n/\bO H' (fK (lw n ms.sum)) y) (λi y H1 H2 s ⟨n,h1,h2⟩=>⟨n,h1,h2.flat s (dB _)⟩) (by rw [aA];omega) e5 (λi x H' Q' hx s' k'=>?_) (λD3 ys H8 hD3 hD8 s8 hy8 hr8=>?_)
   ·rw [aM] at hx;obtain ⟨n,hn',rfl⟩:=fR.mp hx;refine ⟨_,rfl,_,rfl,?_⟩;refine rsI (fT.of (s' _ _ e5)) ?_;refine qZ p5 (bG (show ms.sum.natAbs<=15 by omega) Kk) ?_;intro q9 H9 hq9 e9 s9;exact k' _ H9 s9 ⟨n,hn',fD e9⟩
   ·refine ⟨D3,ys,rfl,.inl ⟨fT.of hD8,λl hl=>?_⟩⟩;have sl:=bF.upd (o:=.tup ys) hl;have el:(upd H8 l (.tup ys)) l=some (.tup ys):=bJ;generalize upd H8 l (.tup ys)=H9 at sl el;refine k _ (ms.map λn=>lw n ms.sum) H9 ((F5.same s8).same sl) (S5.trans (s8.trans sl).but) (bO.tup el ?_) ⟨ms,l5,nn5,p5,sum5,rfl⟩ λhb=>?_
    ·refine aP.ofIdx (by rw [hy8,aA,aA,aA]) λi y hi=>?_;obtain ⟨n,h1,h2⟩:=hr8 i y hi;exact ⟨fK (lw n ms.sum),by rw [aM,aM,h1];rfl,h2.same sl⟩
    ·rw [aM,b5 hb];exact congrArg some (uS p5)
  ·refine ⟨_,rfl,?_⟩;refine rsI (fT.of e4) ?_;refine ⟨rfl,_,rfl,?_⟩;refine qG (λhz=>?_) (λhz=>?_)
   ·have hz:ms.sum=0:=by injection hz
    refine ⟨_,rfl,_,rfl,_,rfl,?_⟩;refine eI F4 Oo bw λy H5 y0 y1 F5 s5=>?_;obtain ⟨j,rfl⟩:=sZ y0;refine ⟨_,_,rfl,rfl,?_⟩;have hjl:1+j<ms.length:=Oo;have hjx:xB (ms.map V.int).length (1+(j:Int))=some (1+j):=by
     rw [show (1:Int)+(j:Int)=((1+j:Nat):Int) by omega];exact FR hjl
    refine SN (s5.at np e4) hjx λH6 e6 s6=>?_;rw [<-List.map_set] at e6;have hnj:=aC hjl;have all0:∀n∈ms,n=0:=λn hn=>by
     have h1:=nn4 n hn;have h2:=oU nn4 hn;omega
    have hj0:=all0 _ (List.getElem_mem hjl);refine ⟨ms.set (1+j) 1,rfl,F5.but s6 np nL,aK.thru hD (S4.trans s5) s6,e6,by rw [List.length_set];exact l4,EY nn4 Dd,by rw [jW hnj];omega,by rw [jW hnj];omega,λhb=>?_⟩;rw [List.getElem?_set_ne Oo,h40,x02 hb]
   ·have hz:¬ms.sum=0:=λz=>hz (congrArg V.int z);exact ⟨ms,rfl,F4,S4,e4,l4,nn4,Oo,sum4,λhb=>by rw [h40,x02 hb]⟩
end
abbrev TC:Stmt:=(top 51)
theorem wZ:bR ["_law_feed_here","_law_faces","_law_ways","_law_room","_law_sizes","_law_most","_law_entries","_law_level","_law_k","_law_later","_law_counts","_law_says_here","_law_face"] ["_law_feed_here","_law_faces","_law_ways","_law_room"] (aO TC):=⟨rfl,rfl,rfl,Kk,rfl,Kk,Kk⟩
def bs(f:List Nat->List Fr)(c:List Nat):Nat:=if lN (f c) 0=0 then 1 else 0
theorem sD{f:List Nat->List Fr}{c:List Nat}:bs f c=0↔lN (f c) 0≠0:=by
 unfold bs;split
 ·rename_i h;exact ⟨(λz=>by cases z),λz=>absurd h z⟩
 ·rename_i h;exact ⟨λ_=>h,λ_=>rfl⟩
theorem yH{F:Nat}(hF:1<=F){b b':List Nat->Nat}:∀{k:Nat},(∀c,c.sum<k->b c=b' c)->lvl F b k=lvl F b' k
 | 0,_=>rfl
 | k+1,h=>by
  have e:=yH hF (b:=b) (b':=b') (k:=k) λc hc=>h c Oo;unfold lvl;rw [e];refine List.filter_congr λd _=>?_;rw [Bool.eq_iff_iff,List.any_eq_true,List.any_eq_true];have same:∀c∈lvl F b' k,b c=b' c:=λc hc=>h c (by have:=(fX ((gU hF k).subset hc)).2;omega);exact ⟨λ⟨c,hc,q⟩=>⟨c,hc,by rw [<-same c hc];exact q⟩,λ⟨c,hc,q⟩=>⟨c,hc,by rw [same c hc];exact q⟩⟩
structure QS(F W M:Nat)(es:List bI):Prop where
 ex:∃f:List Nat->List Fr,es=ED F M (bs f) f/\(∀c,bs f c=0->c.sum<M)/\∀c∈HC F M (bs f),nE (1+W) (f c)
 f1:1<=F
 f4:F<=4
 m5:M<=5
 few:(rise F M).length<=40
theorem QS.rl{F W M:Nat}{es:List bI}(h:QS F W M es):uZ F es:=by
 obtain ⟨f,rfl,on,sy⟩:=h.ex;have fst:(ED F M (bs f) f).map (·.1)=HC F M (bs f):=by unfold ED;rw [List.map_map];exact List.map_id' _
 refine ⟨?_,?_,?_,?_,?_,?_,?_⟩
 ·obtain ⟨r,hr⟩:=NE (F:=F) (M:=M) (best:=bs f);exact ⟨_,_,by unfold ED;rw [hr,aW],rfl⟩
 ·intro e he;obtain ⟨c,hc,rfl⟩:=aU.mp he;exact (HB h.f1 hc).1
 ·rw [fst];exact (HD F h.f4 M h.m5).sublist (uM h.f1)
 ·unfold ED;rw [List.pairwise_map];exact (tY F M).sublist (uM h.f1)
 ·intro e he h0 g hg;obtain ⟨c,hc,rfl⟩:=aU.mp he;rw [fst];exact NF h.f1 on hc (sD.mpr h0) hg
 ·intro d hd hn;rw [fst] at hd;obtain ⟨c,hc,hb,j,hj,e⟩:=NG h.f1 hd hn;exact ⟨(c,f c),aU.mpr ⟨c,hc,rfl⟩,sD.mp hb,j,hj,e⟩
 ·intro e he;obtain ⟨c,hc,rfl⟩:=aU.mp he;exact (sy c hc).g.nn 0
theorem QS.g{F W M:Nat}{es:List bI}(h:QS F W M es){Ns:Nat}(n0:0<Ns)(hz:LC^6*Ns^M<2^2000):mX F W M (LC^6) (5^40) Ns es:=by
 have RL:=h.rl;obtain ⟨f,rfl,on,sy⟩:=h.ex;have sy':∀e∈ED F M (bs f) f,nE (1+W) e.2:=λe he=>by
  obtain ⟨c,hc,rfl⟩:=aU.mp he;exact sy c hc
 have sums:∀e∈ED F M (bs f) f,e.1.sum<=M:=λe he=>by
  obtain ⟨c,hc,rfl⟩:=aU.mp he;exact (HB h.f1 hc).2
 have hl:(ED F M (bs f) f).length<=40:=by
  unfold ED;rw [aA];exact bC (uM h.f1).length_le h.few
 have qv:∀e∈ED F M (bs f) f,∀v,Qn LC 1 (lN e.2 v):=λe he v=>by
  by_cases hv:v<e.2.length
  ·exact ((sy' e he).fn _ (kD (a:=(0,1)) hv)).1.q
  ·rw [zV Oo];exact Qn.zero _ _
 have fl:∀e∈ED F M (bs f) f,Qn (LC^e.1.sum) (5^40) (bS F (ED F M (bs f) f) e.1):=λe he=>by
  have:=RL.qn (N:=LC) (λe he=>qv e he 0) h.f4 (ED F M (bs f) f).length (aG _) e.1;rw [cT] at this;exact this.le (aV Dd hl)
 have m5:=h.m5;refine ⟨RL,sums,λe he=>(sy' e he).g,Oo,λe he h0=>?_,λe he=>?_,λe he v=>?_,Nat.pow_pos Dd,n0,hz,Kk,Oo⟩
 ·obtain ⟨c,hc,rfl⟩:=aU.mp he;exact on c (sD.mpr h0)
 ·exact (fl e he).dvd (Nat.pow_dvd_pow _ (by have:=sums e he;omega))
 ·have:=(fl e he).mul (qv e he v);rw [Nat.mul_one,<-Nat.pow_succ] at this;exact this.dvd (Nat.pow_dvd_pow _ (by have:=sums e he;omega))
abbrev wT(e:bI):PyData:=.tuple [nB e.1,qL e.2]
abbrev AJ(es:List bI):PyData:=.tuple (es.map wT)
theorem DG(e:bI):eP (wT e)=true:=by
 show (eP (nB e.1)&&(eP (qL e.2)&&true))=true;rw [kS,rJ];rfl
theorem tK:∀es:List bI,dW (es.map wT)=true
 | []=>rfl
 | e::es=>by show (eP (wT e)&&dW (es.map wT))=true;rw [tK es,DG];rfl
theorem YS{K:PySem.W.Frag}{H:Hp}{gs:List Fr}{v:V}(h:bO H (qL gs) v):YD K H gs v:=by
 obtain ⟨sa,sx,rfl,hsa,r⟩:=qE h;refine ⟨sa,sx,rfl,hsa,⟨jM r,λi x hx=>?_⟩⟩;obtain ⟨f,h1,h2⟩:=kP r hx;exact ⟨f,h1,.inl h2⟩
theorem FB{K:PySem.W.Frag}{H:Hp}{es:List bI}{v:V}(h:bO H (AJ es) v):EE K H es v:=by
 obtain ⟨a,xs,rfl,ha,r⟩:=fP h;refine ⟨a,xs,rfl,ha,jM r,λi x hx=>?_⟩;obtain ⟨e,he,re⟩:=kP r hx;obtain ⟨b,us,rfl,hb,rus⟩:=fP re;obtain ⟨u,z,rfl,ru,rz⟩:=jP rus;obtain ⟨cu,rfl,hcu⟩:=iR ru;exact ⟨e,he,b,cu,z,rfl,hb,hcu,YS rz⟩
theorem bZ.t{H H':Hp}{p L:Addr}(F:bZ H p L)(s:aK p H H'):cG H H':=let ⟨_,hx⟩:=F.lst;s.t hx
theorem DF(x y:Int):PyData.eqv (.int x) (.int y)=decide (x=y):=by
 unfold PyData.eqv
 first | rfl | (by_cases h:x=y <;> simp [h])
theorem aAW(f g:Fr):PyData.eqv (fK f) (fK g)=decide (f=g):=by
 obtain ⟨f1,f2⟩:=f;obtain ⟨g1,g2⟩:=g;have e:PyData.eqv (fK (f1,f2)) (fK (g1,g2))=(PyData.eqv (.int f1) (.int g1)&&(PyData.eqv (.int f2) (.int g2)&&true)):=rfl;rw [e,DF,DF];by_cases h:f1=g1 <;> by_cases h':f2=g2 <;> simp [h,h']
theorem wQ:∀a b:List PyData,dW (a++b)=(dW a&&dW b)
 | [],b=>by rw [List.nil_append];rfl
 | x::a,b=>by show (eP x&&dW (a++b))=((eP x&&dW a)&&dW b);rw [wQ a b,Bool.and_assoc]
theorem tJ(g:List Nat->List Fr):∀cs:List (List Nat),dW (cs.map λc=>wT (c,g c))=true
 | []=>rfl
 | c::cs=>by show (eP (wT (c,g c))&&dW (cs.map λc=>wT (c,g c)))=true;rw [tJ g cs,DG];rfl
def szs(F:Nat):List Int:=if F=2 then [1,3,6,10,15,21] else if F=3 then [1,4,10,20,35] else [1,5,15,35]
theorem SI:∀F,F<=4->∀R,R<=40->(2<=F/\1<=R->0<((szs F).filter λs=>decide (s<=((R:Nat):Int))).length/\((szs F).filter λs=>decide (s<=((R:Nat):Int))).length<=6):=Kk
theorem SH:∀F,F<=4->∀R,R<=40->∀m,m<=6->(2<=F/\m<((szs F).filter λs=>decide (s<=((R:Nat):Int))).length->(rise F m).length<=R):=Kk
@[irreducible] def nT:Sp:=λvs H Q _=>∃(p L:Addr) (F W R:Nat),vs=[.ref p,.int (F:Int),.int (W:Int),.int (R:Int)]/\bZ H p L/\2<=F/\F<=4/\1<=W/\W<=4/\1<=R/\R<=40/\∀v es M H',bZ H' p L->aK p H H'->bO H' (AJ es) v->QS F W M es->(rise F M).length<=R->Q v H'
theorem ER{H:Hp}{Q:VK}{E:XK}{p L:Addr}{F W R:Nat}(h:bZ H p L)(h1:2<=F)(h2:F<=4)(h3:1<=W)(h4:W<=4)(h5:1<=R)(h6:R<=40)(k:∀v es M H',bZ H' p L->aK p H H'->bO H' (AJ es) v->QS F W M es->(rise F M).length<=R->Q v H'):nT [.ref p,.int (F:Int),.int (W:Int),.int (R:Int)] H Q E:=by
 unfold nT;exact ⟨p,L,F,W,R,rfl,h,h1,h2,h3,h4,h5,h6,k⟩
theorem aAF{F k:Nat}{b:List Nat->Nat}(f1:1<=F)(f4:F<=4)(hk:k<=5):(lvl F b k).Nodup:=by
 have h:(lvl F b k).Sublist (rise F k):=by
  refine (gU f1 k).trans ?_;unfold rise;rw [List.range_succ,List.flatMap_append];simp
 exact (HD F f4 k hk).sublist h
section
theorem aDn(F:iH K "_law_rule" "_law_rule" TC f fd)(T:jK K mg c)(FQ11:gT dQ P w K mg base 1 "_law_draw" ["_law_feed_here","_law_many"] lC)(FQ18:gT dQ P w K mg base 2 "_law_says" ["_law_feed_here","_law_ways","_law_last"] qV)(FQ15:gT dQ P w K mg base 1 "_law_more" ["_law_counts","_law_face"] nV):dI P w K mg base dQ 3 f fd ["_law_feed_here","_law_faces","_law_ways","_law_room"] nT:=by
 refine F.oky wZ λvs H Q E h=>?_;unfold nT at h;obtain ⟨p,L,F,W,R,rfl,FA,f2,f4,w1,w4,r1,r40,k⟩:=h;refine ⟨rfl,λcdv A outer s hr=>?_⟩;have f1:1<=F:=Oo;obtain ⟨sz0,sz6⟩:=SI F f4 R r40 ⟨f2,r1⟩;have szr:=SH F f4 R r40;refine ⟨_,(aJ (bN (i:=4) wZ.nd rfl (Or.inl rfl) (bH aZ (fO (aI (fO (aI aF (aI aF (aI aF (aI aF (aI aF (aI aF aD))))))) (aI (fO (aI aF (aI aF (aI aF (aI aF (aI aF aD)))))) (aI (fO (aI aF (aI aF (aI aF (aI aF aD))))) aD)))) (bY FK (aE 1) aF) (λ_ _=>rfl)))
  (aJ (bN (i:=5) wZ.nd rfl (Or.inl rfl) (bW FQ11 (hr.mono Dd) (aI (aE 0) (aI (eC fY (by rfl) T.b_len Kk (aI (eS (dY.of (psc:=aO TC) (N:=["_law_feed_here","_law_faces","_law_ways","_law_room","_law_sizes","_law_most","_law_entries","_law_level","_law_k","_law_later","_law_counts","_law_says_here","_law_face"]) (N':=["_law_size","_law_room"]) (js:=[3]) Kk rfl rfl rfl) (iE (aE 4)) (λ_ _ _ _=>GJ (eB HM (aE 0) (aE 1) (nomark _))) (λ_ _ _ _=>(aE 0))) aD)) aD))))
  (aJ (bN (i:=6) wZ.nd rfl (Or.inl rfl) (fO aD))
  (aJ (bN (i:=7) wZ.nd rfl (Or.inl rfl) (fO (aI (bY UM (dO (aI aF aD)) (aE 1)) aD)))
  (aJ (gL PassesOwn.never rfl (dD rfl T.b_range (aI (bY eV (aE 5) aF) aD)) (dR (i:=8) wZ.nd rfl (Or.inl rfl)) (aJ (bN (i:=9) wZ.nd rfl (Or.inl rfl) MA)
  (aJ (gL PassesOwn.never rfl (iE (aE 7)) (dR (i:=10) wZ.nd rfl (Or.inl rfl)) (aJ (bN (i:=11) wZ.nd rfl (Or.inl rfl) (bW FQ18 (hr.mono Dd) (aI (aE 0) (aI (aE 2) (aI (qA oI (aE 8) (aE 5) (nomark _)) aD)))))
  (aJ (fA (qO PySem.F.plainAttrs_list PySem.F.slot_list_append PySem.F.type_list_append oM (aE 6) (aI (dO (aI (aE 10) (aI (aE 11) aD))) aD)))
  (aX (gL PassesOwn.never rfl (dD rfl T.b_range (aI (bY eK (aE 1) (iY yV (by rfl) T.b_int Kk (aI (qA (AO hr.units) (bH aZ (aE 11) aF (λ_ _=>rfl)) (dO (aI aF (aI aF aD))) (nomark _)) aD))) aD)) (dR (i:=12) wZ.nd rfl (Or.inl rfl)) (aX (zN hr.u1 (aE 9) (bW FQ15 (hr.mono Dd) (aI (aE 10) (aI (aE 12) aD))) pP)))))))
  (aX (bN (i:=7) wZ.nd rfl (Or.inl rfl) (eC (VS rfl) (by rfl) T.b_sorted Kk (aI (aE 9) aD)))))))
  (aX (cC (iY dJ (by rfl) T.b_tuple Kk (aI (aE 6) aD))))))))),?_⟩
 refine yF (by show 6<=64;decide) λc1 H1 hc1 e1 s1=>?_;refine yF (by show 5<=64;decide) λc2 H2 hc2 e2 s2=>?_;refine yF (by show 4<=64;decide) λc3 H3 hc3 e3 s3=>?_;refine yF (by show 3<=64;decide) λc4 H4 hc4 e4 s4=>?_;have s14:=((s1.trans s2).trans s3).trans s4;refine ⟨_,rfl,_,_,rfl,rfl,?_⟩;obtain ⟨Sz,hSz,eSz⟩:∃Sz:Addr,([.ref c1,.ref c2,.ref c3]:List V)[F-2]?=some (.ref Sz)/\H4 Sz=some (.lst ((szs F).map V.int)):=by
  rcases (show F=2\/F=3\/F=4 by omega) with rfl | rfl | rfl
  ·exact ⟨c1,rfl,((s2.trans s3).trans s4) _ _ e1⟩
  ·exact ⟨c2,rfl,(s3.trans s4) _ _ e2⟩
  ·exact ⟨c3,rfl,s4 _ _ e3⟩
 refine lF e4 (by rw [show (F:Int)-2=((F-2:Nat):Int) by omega];exact cK hSz) ?_;have F4:=FA.same s14;refine ⟨_,rfl,_,rfl,Sz,rfl,⟨_,fT.of eSz⟩,?_⟩;have rS:aP H4 ((szs F).map PyData.int) ((szs F).map V.int):=zJ _;have l6:(szs F).length<=6:=by unfold szs;split;decide;split;decide;decide
 refine KU rS (λs=>decide (s<=((R:Nat):Int))) (by rw [aA];omega) eSz (λx c' H' Q' hc' rc s' k'=>?_) (λx H' Q' k'=>⟨_,rfl,k'⟩) (λD ys H5 hD e5 s5 ry=>?_)
 ·cases (show x=V.int c' from rc);refine ⟨_,rfl,_,rfl,_,_,rfl,rfl,_,rfl,?_⟩;exact k' H' (bF.refl _)
 have lys:ys.length=((szs F).filter λs=>decide (s<=((R:Nat):Int))).length:=by rw [ry.len,aA]
 refine XF e5 ?_;have F5:=F4.same s5;refine eI F5 Oo (bitsle (bG (show ((ys.length:Nat):Int).natAbs<=6 by omega) Kk)) λx H6 x0 x1 F6 b6=>?_;obtain ⟨M,rfl⟩:=sZ x0;have hM:=szr M Oo ⟨f2,Oo⟩;have m5:M<=5:=Oo;refine yF (by show 0<=64;decide) λEn H7 hEn e7 s7=>?_;refine pK (by show 1<=64;decide) λt8 H8 ht8 e8 s8=>?_;refine ⟨_,rfl,?_⟩;refine aDv e8 f2 Oo λt9 H9 s9 e9=>?_;refine yF (by show 1<=64;decide) λLv H10 hLv e10 s10=>?_;have s710:=(s8.trans s9).trans s10;have s610:=s7.trans s710;have B6:aK p H H6:=(s14.trans s5).but.trans b6;have hEnH:H En=none:=aK.free (p:=p) B6 F6.there hEn;have nEp:En≠p:=F6.ne hEn;have nEL:En≠L:=F6.neL hEn;have e10E:=s710 _ _ e7;have nLE:Lv≠En:=λz=>by rw [z,(s8.trans s9) _ _ e7] at hLv;cases hLv
 have F10:=F6.same s610;have B10:aK p H H10:=B6.trans s610.but;have r9:bO H10 (nB (List.replicate F 0)) (.ref t9):=by
  refine oP ?_;rw [s10 _ _ e9,List.map_replicate];rfl
 have L10:WM H10 Lv (lvl F (bs λ_=>[]) 0):=⟨_,e10,aP.cons r9 aP.nil⟩;refine ⟨_,rfl,_,_,rfl,rfl,_,rfl,Oo,Oo,?_⟩;rw [show ((M:Int)+1).toNat=M+1 by omega];refine gH (λkk σ H'=>∃(o8 o9 o10 o11 o12:Option V) (Lv:Addr) (vs:List V) (g:List Nat->List Fr),σ=[some (.ref p),some (.int (F:Int)),some (.int (W:Int)),some (.int (R:Int)),some (.ref Sz),some (.int (M:Int)),some (.ref En),some (.ref Lv),o8,o9,o10,o11,o12]/\bZ H' p L/\aK p H H'/\H' En=some (.lst vs)/\aP H' (((List.range kk).flatMap (lvl F (bs g))).map λc=>wT (c,g c)) vs/\WM H' Lv (lvl F (bs g) kk)/\Lv≠En/\Lv≠p/\(∀c,g c≠[]->c.sum<kk/\(c.sum=M->bs g c≠0))/\∀i,i<kk->∀c∈lvl F (bs g) i,nE (1+W) (g c)) ⟨_,_,_,_,_,Lv,[],λ_=>[],rfl,F10,B10,e10E,aP.nil,L10,nLE,(F6.same (s7.trans (s8.trans s9))).ne hLv,λc h=>absurd rfl h,λi hi=>Oo⟩ ?_ ?_
 ·rintro kk σ H11 hkk ⟨o8,o9,o10,o11,o12,Lv1,vs,g,rfl,F11,B11,e11,r11,L11,nLE1,nLp1,g11,y11⟩;have hk5:kk<=5:=Oo;obtain ⟨ls,eL11,rL11,lls⟩:=L11.len;rw [show (0:Int)+(kk:Int)=(kk:Int) by omega];intro Dl hDl;have s12:=bF.upd (o:=.dT []) hDl;have e12:(upd H11 Dl (.dT [])) Dl=some (.dT []):=bJ;generalize upd H11 Dl (.dT [])=H12 at s12 e12 ⊢;have nDE:Dl≠En:=λz=>by rw [z,e11] at hDl;cases hDl
  have nDL:Dl≠Lv1:=λz=>by rw [z,eL11] at hDl;cases hDl
  have nDp:Dl≠p:=F11.ne hDl;have nDpL:Dl≠L:=F11.neL hDl;have hDlH:H Dl=none:=aK.free (p:=p) B11 F11.there hDl;refine ⟨_,rfl,Lv1,rfl,⟨_,fT.of (s12 _ _ eL11)⟩,?_⟩;obtain ⟨cs,hcs⟩:∃cs,cs=lvl F (bs g) kk:=⟨_,rfl⟩;have csub:∀c∈cs,c.length=F/\c.sum=kk:=λc hc=>by rw [hcs] at hc;exact fX ((gU f1 kk).subset hc)
  have cnd:cs.Nodup:=by rw [hcs];exact aAF f1 f4 hk5
  have lcs:cs.length<=56:=by rw [hcs];exact bC (gU f1 kk).length_le (yQ F f4 kk hk5)
  have lvs:((List.range kk).flatMap (lvl F (bs g))).length<=400:=bC (wP (gU f1) (List.range kk)).length_le (LH F f4 kk Oo);rw [<-hcs] at rL11 lls;refine rW (xs:=ls) (λj σ H'=>∃(o10 o11 o12:Option V) (vs:List V) (kvs:List (List eL × V)) (ks:List (List Int)) (h:List Nat->List Fr),σ=[some (.ref p),some (.int (F:Int)),some (.int (W:Int)),some (.int (R:Int)),some (.ref Sz),some (.int (M:Int)),some (.ref En),some (.ref Lv1),some (.int (kk:Int)),some (.ref Dl),o10,o11,o12]/\bZ H' p L/\aK p H H'/\H' En=some (.lst vs)/\vs.length<=400+j/\H' Lv1=some (.lst ls)/\cG H11 H'/\(∀c,c ∉ cs.take j->h c=g c)/\aP H' ((((List.range kk).flatMap (lvl F (bs g))).map λc=>wT (c,g c))++(cs.take j).map λc=>wT (c,h c)) vs/\(∀c∈cs.take j,nE (1+W) (h c)/\(kk=M->bs h c≠0))/\H' Dl=some (.dT kvs)/\kvs.length<=4*j/\kvs.map (·.1)=ks.map kT/\ks.Nodup/\∀d,d∈ks ↔ ∃c∈cs.take j,bs h c=0/\∃f,f<F/\d=ci (bU c f))
   ⟨_,_,_,vs,[],[],g,rfl,F11.same s12,B11.trans s12.but,s12 _ _ e11,?_,s12 _ _ eL11,s12.t,λ_ _=>rfl,?_,(λc hc=>by rw [List.take_zero] at hc;cases hc),e12,aG _,rfl,List.nodup_nil,λd=>⟨(λh=>by cases h),λ⟨c,hc,_⟩=>by rw [List.take_zero] at hc;cases hc⟩⟩ (λj σ H' _ q=>?_) ?_ ?_
  ·have:=jM (g:=λc=>wT (c,g c)) r11;omega
  ·rw [List.take_zero,List.map_nil,List.append_nil];exact r11.same s12
  ·obtain ⟨_,_,_,_,_,_,_,_,_,_,_,_,q,_⟩:=q;exact fT.of q
  ·rintro j x σ H13 hx ⟨o10,o11,o12,vs3,kvs,ks,h,rfl,F13,B13,e13,lv13,eL13,t13,hg,r13,y13,e13d,lk13,k1,k2,k3⟩;obtain ⟨cc,hcc,rc⟩:=kP rL11 hx;have hj:j<cs.length:=(aL.mp hcc).1;obtain ⟨lc,sc⟩:=csub cc (aR hcc);obtain ⟨ac,rfl,hac⟩:=iR (rc.flat t13 (kS _));have hnot:cc ∉ cs.take j:=λhm=>by
    obtain ⟨i,hi⟩:=cN.mp hm;have hij:i<j:=by have:=(aL.mp hi).1;rw [bT] at this;omega
    rw [List.getElem?_take_of_lt hij] at hi;have:=(List.getElem?_inj Oo cnd).mp (hi.trans hcc.symm);omega
   have nEp':p≠En:=nEp.symm;refine ⟨_,rfl,_,rfl,_,rfl,_,rfl,rfl,?_⟩;refine JH F13 w1 w4 λvsy fs H14 F14 b14 rsy sy hstop=>?_;obtain ⟨sa,sx,rfl,hsa,rsx⟩:=qE rsy;obtain ⟨f0,fr,efs,l0,z0,nn0,v0,on0⟩:=sy.g.hd;have e14:=b14.at nEp e13;have e14d:=b14.at nDp e13d;have t14:cG H13 H14:=F13.t b14;have hac14:=t14 _ _ hac;refine ⟨_,rfl,QY e14,_,rfl,_,rfl,?_⟩;refine pK (by show 2<=64;decide) λq15 H15 hq15 e15 s15=>?_;refine DY (s15 _ _ e14) Oo λH16 e16 b16=>?_;have t16:=b16.t (s15 _ _ e14);have F16:=(F14.same s15).but b16 nEp nEL;have B16:aK p H H16:=aK.thru hEnH ((B13.trans b14).trans s15.but) b16;have e16d:=b16.at nDE (s15 _ _ e14d);have t1416:cG H14 H16:=s15.t.trans t16;have hac16:=t1416 _ _ hac14;have hsa16:=t1416 _ _ hsa;have rsx16:=rsx.flat t1416 (rV _);rw [efs] at rsx16;obtain ⟨y0,ys',esx,ry0,_⟩:=(show ∃x xs',sx=x::xs'/\bO H16 (fK f0) x/\aP H16 (fr.map fK) xs' by rw [aW] at rsx16;unfold aP at rsx16;exact rsx16);refine ⟨_,rfl,_,rfl,?_⟩;refine jR hsa16 (cK (j:=0) (by rw [esx];rfl)) ?_;refine pK (by show 2<=64;decide) λq17 H17 hq17 e17 s17=>?_;refine reD (ry0.same s17) (fD (f:=(0,1)) e17) rfl rfl ?_;refine .inr ⟨_,rfl,?_⟩;obtain ⟨cn,hcn,hon⟩:∃cn:Nat,(F:Int)*(if (false == PyData.eqv (fK f0) (fK (0,1)))=true then 1 else 0)=(cn:Int)/\cn=if f0=(0,1) then 0 else F:=by
    rw [aAW];by_cases z:f0=(0,1)
    ·exact ⟨0,by rw [bP z];simp,by rw [if_pos z]⟩
    ·exact ⟨F,by rw [bX z];simp,by rw [if_neg z]⟩
   have cnF:cn<=F:=by rw [hon];split <;> omega
   refine ⟨_,_,rfl,rfl,IntMulOk.of_left (PySem.intBits_le_64 Oo Oo),?_⟩;refine ⟨_,rfl,?_⟩;show _/\_/\_;rw [hcn];refine ⟨Oo,Oo,?_⟩;have F17:=F16.same s17;have e17d:=s17 _ _ e16d;obtain ⟨h',hh'⟩:∃h':List Nat->List Fr,h'=λd=>if d=cc then fs else h d:=⟨_,rfl⟩
   have hcc':h' cc=fs:=by rw [hh'];exact if_pos rfl
   have hne':∀d,d≠cc->h' d=h d:=λd hd=>by rw [hh'];exact if_neg hd
   have bne:∀d,d≠cc->bs h' d=bs h d:=λd hd=>by unfold bs;rw [hne' d hd]
   have tne:∀d∈cs.take j,d≠cc:=λd hd z=>hnot (z ▸ hd);have bcc:bs h' cc=0 ↔ ¬f0=(0,1):=by
    rw [sD,hcc',<-on0];constructor
    ·intro z q;rw [q] at z;exact absurd z Dd
    ·intro z;refine dZ λq=>z ?_;have z1:f0.1=0:=Oo;have h1:=l0.low;rw [z1] at h1;have hp:=l0.pos;have:Int.gcd 0 f0.2=f0.2.natAbs:=Int.gcd_zero_left _;rw [this] at h1;have h2:f0.2=1:=Oo;exact Prod.ext z1 h2
   refine gH (λg' σ H'=>∃(o12:Option V) (kvs:List (List eL × V)) (ks:List (List Int)),σ=[some (.ref p),some (.int (F:Int)),some (.int (W:Int)),some (.int (R:Int)),some (.ref Sz),some (.int (M:Int)),some (.ref En),some (.ref Lv1),some (.int (kk:Int)),some (.ref Dl),some (.ref ac),some (.ref sa),o12]/\aK Dl H17 H'/\H' Dl=some (.dT kvs)/\kvs.length<=4*j+g'/\kvs.map (·.1)=ks.map kT/\ks.Nodup/\∀d,d∈ks↔(∃c∈cs.take j,bs h' c=0/\∃f,f<F/\d=ci (bU c f))\/∃f,f<g'/\d=ci (bU cc f))
    ⟨_,kvs,ks,rfl,(bF.refl _).but,e17d,Oo,k1,k2,λd=>?_⟩ ?_ ?_
   ·rw [k3];constructor
    ·rintro ⟨c,hc,h0,f,hf⟩;exact .inl ⟨c,hc,by rw [bne c (tne c hc)];exact h0,f,hf⟩
    ·rintro (⟨c,hc,h0,f,hf⟩ | ⟨f,hf,_⟩)
     ·exact ⟨c,hc,by rw [<-bne c (tne c hc)];exact h0,f,hf⟩
     ·omega
   ·rintro g' σ H18 hg' ⟨o12',kv18,ks18,rfl,b18,e18,lk18,k18,nd18,m18⟩;rw [show (0:Int)+(g':Int)=(g':Int) by omega];have t18:=aK.tT b18 e17d;have hac18:=t18 _ _ (s17 _ _ hac16);refine ⟨_,rfl,_,rfl,_,rfl,?_⟩;refine ES (oP hac18) Oo Oo λv19 H19 s19 r19=>?_;obtain ⟨a19,rfl,ha19⟩:=iR r19;refine dpT (s19 _ _ e18) (c:=ci (bU cc g')) (by rw [iS];exact ha19) Oo λH20 e20 b20=>?_;obtain ⟨ks2,j1,j2,j3⟩:=aAH (v:=.bl true) (ci (bU cc g')) k18 nd18;refine ⟨_,_,ks2,rfl,(b18.trans s19.but).trans b20,e20,?_,j1,j2,λd=>?_⟩
    ·have:=iL kv18 (kT (ci (bU cc g'))) (V.bl true);omega
    ·rw [j3,m18];constructor
     ·rintro ((h | ⟨f,hf,e⟩) | h)
      ·exact .inl h
      ·exact .inr ⟨f,Oo,e⟩
      ·exact .inr ⟨g',Oo,h⟩
     ·rintro (h | ⟨f,hf,e⟩)
      ·exact .inl (.inl h)
      ·by_cases q:f=g'
       ·subst q;exact .inr e
       ·exact .inl (.inr ⟨f,Oo,e⟩)
   ·rintro σ H18 ⟨o12',kv18,ks18,rfl,b18,e18,lk18,k18,nd18,m18⟩;have t18:=aK.tT b18 e17d;have B18:aK p H H18:=aK.thru hDlH (B16.trans s17.but) b18;have tk:cs.take (j+1)=cs.take j++[cc]:=iJ hcc;have T18:cG H13 H18:=((t14.trans t1416).trans s17.t).trans t18;refine ⟨_,_,_,vs3++[.ref q15],kv18,ks18,h',rfl,F17.but b18 nDp nDpL,B18,b18.at nDE.symm (s17 _ _ e16),by rw [bK,List.length_singleton];omega,?_,t13.trans T18,λc hc=>?_,?_,λc hc=>?_,e18,Oo,k18,nd18,λd=>?_⟩
    ·exact b18.at nDL.symm (s17 _ _ (b16.at nLE1 (s15 _ _ (b14.at nLp1 eL13))))
    ·rw [tk] at hc;have h1:c ∉ cs.take j:=λz=>hc (bQ _ z);have h2:c≠cc:=λz=>hc (bE _ (cM.mpr z));rw [hne' c h2,hg c h1]
    ·rw [tk,bL,<-List.append_assoc];have e1:(cs.take j).map (λc=>wT (c,h' c))=(cs.take j).map λc=>wT (c,h c):=dE λc hc=>by rw [hne' c (tne c hc)]
     rw [e1];refine aP.snoc (r13.flat T18 ?_) ?_
     ·rw [wQ,tJ,tJ];rfl
     ·show bO H18 (wT (cc,h' cc)) (.ref q15);rw [hcc'];have t1518:cG H15 H18:=(t16.trans s17.t).trans t18;exact bO.tup (t1518 _ _ e15) (aP.cons (oP (t1518 _ _ (s15 _ _ hac14))) (aP.cons ((rsy.same s15).flat t1518 (rJ _)) aP.nil))
    ·rw [tk] at hc;rcases dF.mp hc with hc | hc
     ·rw [bne c (tne c hc),hne' c (tne c hc)];exact y13 c hc
     ·rw [cM.mp hc,hcc'];refine ⟨sy,λz=>?_⟩;have hst:=hstop (by rw [decide_eq_true_iff];exact congrArg (λn:Nat=>V.int (n:Int)) z);rw [efs] at hst;rw [Ne,bcc];exact λq=>q (by simpa using hst)
    ·rw [m18];constructor
     ·rintro (⟨c,hc,h0,f,hf⟩ | ⟨f,hf,e⟩)
      ·exact ⟨c,by rw [tk];exact bQ _ hc,h0,f,hf⟩
      ·by_cases z:f0=(0,1)
       ·rw [if_pos z] at hon;omega
       ·exact ⟨cc,by rw [tk];exact bE _ (cM.mpr rfl),bcc.mpr z,f,Oo,e⟩
     ·rintro ⟨c,hc,h0,f,hf,e⟩;rw [tk] at hc;rcases dF.mp hc with hc | hc
      ·exact .inl ⟨c,hc,h0,f,hf,e⟩
      ·rw [cM.mp hc] at h0 e;have z:=bcc.mp h0;rw [if_neg z] at hon;exact .inr ⟨f,Oo,e⟩
  ·rintro σ H13 ⟨o10,o11,o12,vs3,kvs,ks,h,rfl,F13,B13,e13,lv13,eL13,t13,hg,r13,y13,e13d,lk13,k1,k2,k3⟩;have lfull:cs.take ls.length=cs:=by rw [lls];exact cT
   rw [lfull] at hg r13 y13 k3;have hlow:∀c:List Nat,c.sum<kk->h c=g c:=λc hc=>hg c λz=>by have:=(csub c z).2;omega
   have blow:∀c:List Nat,c.sum<kk->bs h c=bs g c:=λc hc=>by unfold bs;rw [hlow c hc]
   have lvE:∀i,i<=kk->lvl F (bs h) i=lvl F (bs g) i:=λi hi=>yH f1 λc hc=>blow c Oo;have lvK:lvl F (bs h) kk=cs:=by rw [lvE kk (aG _),hcs]
   have hmem:∀d,d∈ks↔d∈(lvl F (bs h) (kk+1)).map ci:=λd=>by
    rw [k3,aU];constructor
    ·rintro ⟨c,hc,h0,f,hf,e⟩;exact ⟨bU c f,(rP f1).mpr ⟨c,by rw [lvK];exact hc,h0,f,hf,rfl⟩,e.symm⟩
    ·rintro ⟨d',hd',rfl⟩;obtain ⟨c,hc,h0,f,hf,rfl⟩:=(rP f1).mp hd';exact ⟨c,by rw [<-lvK];exact hc,h0,f,hf,rfl⟩
   have nilM:kk=M->lvl F (bs h) (kk+1)=[]:=λz=>by
    refine List.eq_nil_iff_forall_not_mem.mpr λd hd=>?_;obtain ⟨c,hc,h0,_⟩:=(rP f1).mp hd;rw [lvK] at hc;exact (y13 c hc).2 z h0
   have small:(lvl F (bs h) (kk+1)).length<=56:=by
    by_cases z:kk=M
    ·rw [nilM z];exact cV _
    ·exact bC (gU f1 (kk+1)).length_le (yQ F f4 (kk+1) Oo)
   have slex:((lvl F (bs h) (kk+1)).map ci).Pairwise λa b=>mU a b=true:=by
    by_cases z:kk=M
    ·rw [nilM z];exact List.Pairwise.nil
    ·exact (VQ F f4 (kk+1) Oo).sublist ((gU f1 (kk+1)).map ci)
   have lk:ks.length<=56:=by
    have:=yG k2 (m:=(lvl F (bs h) (kk+1)).map ci) λd hd=>(hmem d).mp hd;rw [aA] at this;omega
   refine ⟨_,rfl,?_⟩;refine rsrd (cs:=ks) e13d k1 (λc hc=>?_) Oo λq8 ys8 ds H14 pm pw hq8 e14 r14 s14=>?_
   ·obtain ⟨d,hd,rfl⟩:=aU.mp ((hmem c).mp hc);obtain ⟨l1,_⟩:=fX ((gU f1 (kk+1)).subset hd);intro z;have e:(ci d).length=d.length:=by unfold ci;rw [aA]
    rw [z,List.length_nil] at e;omega
   have eds:ds=(lvl F (bs h) (kk+1)).map ci:=CZ pw slex λd=>by rw [pm.mem_iff];exact hmem d
   rw [eds,List.map_map,show (lvl F (bs h) (kk+1)).map ((λc:List Int=>PyData.tuple (c.map .int)) ∘ ci)=(lvl F (bs h) (kk+1)).map nB from dE λc _=>ctI c] at r14;have nqE:q8≠En:=λz=>by rw [z,e13] at hq8;cases hq8
   have efl:(List.range kk).flatMap (lvl F (bs h))=(List.range kk).flatMap (lvl F (bs g)):=by
    rw [List.flatMap_def,List.flatMap_def];exact congrArg List.flatten (dE λi hi=>lvE i (by have:=cE.mp hi;omega))
   have inlow:∀c∈(List.range kk).flatMap (lvl F (bs g)),c.sum<kk:=λc hc=>by
    obtain ⟨i,hi,h1⟩:=List.mem_flatMap.mp hc;have:=(fX ((gU f1 i).subset h1)).2;have:=cE.mp hi;omega
   refine ⟨_,_,_,_,_,q8,vs3,h,rfl,F13.same s14,B13.trans s14.but,s14 _ _ e13,?_,⟨ys8,e14,r14⟩,nqE,F13.ne hq8,λc hc=>?_,λi hi c hc=>?_⟩
   ·rw [KO,efl,lvK,bL];have e1:((List.range kk).flatMap (lvl F (bs g))).map (λc=>wT (c,h c))=((List.range kk).flatMap (lvl F (bs g))).map λc=>wT (c,g c):=dE λc hc=>by rw [hlow c (inlow c hc)]
    rw [e1];exact r13.same s14
   ·by_cases hm:c∈cs
    ·obtain ⟨_,h2⟩:=csub c hm;exact ⟨Oo,λz=>(y13 c hm).2 Oo⟩
    ·rw [hg c hm] at hc;obtain ⟨h1,h2⟩:=g11 c hc;refine ⟨Oo,λz=>?_⟩;have:bs h c=bs g c:=by unfold bs;rw [hg c hm]
     rw [this];exact h2 z
   ·by_cases z:i=kk
    ·rw [z,lvK] at hc;exact (y13 c hc).1
    ·rw [lvE i Oo] at hc;have hs:=(fX ((gU f1 i).subset hc)).2;rw [hlow c Oo];exact y11 i Oo c hc
 ·rintro σ H11 ⟨o8,o9,o10,o11,o12,Lv1,vs,g,rfl,F11,B11,e11,r11,L11,nLE1,nLp1,g11,y11⟩;refine ⟨_,rfl,?_⟩;refine ⟨En,vs,rfl,.inl ⟨fT.of e11,λl hl=>?_⟩⟩;have sl:=bF.upd (o:=.tup vs) hl;refine k _ (ED F M (bs g) g) M _ (F11.same sl) (B11.trans sl.but) (bO.tup bJ ?_) ⟨⟨g,rfl,λc hc=>?_,λc hc=>?_⟩,f1,f4,m5,bC hM r40⟩ hM
  ·have:((ED F M (bs g) g).map wT)=((List.range (M+1)).flatMap (lvl F (bs g))).map λc=>wT (c,g c):=by unfold ED HC;rw [List.map_map];rfl
   rw [this];exact r11.same sl
  ·have hn:g c≠[]:=λz=>by
    have:=sD.mp hc;rw [z] at this;exact this (zV (cV _))
   obtain ⟨h1,h2⟩:=g11 c hn;refine dZ λz=>h2 Oo hc
  ·obtain ⟨i,hi,h1⟩:=rO.mp hc;exact y11 i Oo c h1
end
end Kw
namespace HT
open PySem PySem.Spec PySem.W PyProof.Rows
section
variable{prog:Program}{w:World}{K:Type}[DecidableEq K]{knd:HeapKind prog w K}{A:Around}{E:Value->Shared->Prop}{s:Shared}
end
end HT
namespace L2
open PySem PySem.Spec PySem.W PyProof.Rows HT
section
variable{X:Cx}
end
section
variable{X:Cx}{tg:Expr}
end
section
variable{σ:St}{js:List Nat}{te:TE}{H:Hp}{Q:VK}
end
section
variable{X:Cx}
end
end L2
namespace Kw
open PySem L2 Mf
abbrev ZV:Stmt:=(top 52)
theorem aDX:bR ["_law_one","_law_other"] ["_law_one","_law_other"] (aO ZV):=⟨rfl,rfl,rfl,Kk,rfl,Kk,Kk⟩
abbrev ZQ:Stmt:=(top 53)
theorem aDU:bR ["_law_one","_law_other"] ["_law_one","_law_other"] (aO ZQ):=⟨rfl,rfl,rfl,Kk,rfl,Kk,Kk⟩
@[irreducible] def lW(K:PySem.W.Frag):Sp:=λvs H Q _=>∃x y f g,vs=[x,y]/\gR K H f x/\gR K H g y/\cS f/\cS g/\lK 4000 f/\lK 4000 g/\oR H Q (kW f g)
theorem mN{K:PySem.W.Frag}{H:Hp}{Q:VK}{E:XK}{x y:V}{f g:Fr}(h1:gR K H f x)(h2:gR K H g y)(l1:cS f)(l2:cS g)(z1:lK 4000 f)(z2:lK 4000 g)(q:oR H Q (kW f g)):lW K [x,y] H Q E:=by unfold lW;exact ⟨x,y,f,g,rfl,h1,h2,l1,l2,z1,z2,q⟩
@[irreducible] def kB(K:PySem.W.Frag):Sp:=λvs H Q _=>∃x y f g,vs=[x,y]/\gR K H f x/\gR K H g y/\cS f/\cS g/\lK 4000 f/\lK 4000 g/\oR H Q (jX f g)
theorem nS{K:PySem.W.Frag}{H:Hp}{Q:VK}{E:XK}{x y:V}{f g:Fr}(h1:gR K H f x)(h2:gR K H g y)(l1:cS f)(l2:cS g)(z1:lK 4000 f)(z2:lK 4000 g)(q:oR H Q (jX f g)):kB K [x,y] H Q E:=by unfold kB;exact ⟨x,y,f,g,rfl,h1,h2,l1,l2,z1,z2,q⟩
section
theorem aDu(F:iH K "_law_add" "_law_add" ZV f fd)(T:jK K mg c)(FQ14:gT dQ P w K mg base 1 "_law_low" ["_law_n","_law_d"] nU):dI P w K mg base dQ 2 f fd ["_law_one","_law_other"] (lW K):=by
 refine F.oky aDX λvs H Q E h=>?_;unfold lW at h;obtain ⟨x,y,f,g,rfl,h1,h2,l1,l2,z1,z2,q⟩:=h;refine ⟨rfl,λcdv A outer s hr=>?_⟩;obtain ⟨p1,rfl,e1⟩:=h1;obtain ⟨p2,rfl,e2⟩:=h2;refine ⟨_,(aX (cC (bW FQ14 (hr.mono Dd) (aI (bY eV (bY eK (bH aZ (aE 0) aF (λ_ _=>rfl)) (bH aZ (aE 1) aF (λ_ _=>rfl))) (bY eK (bH aZ (aE 1) aF (λ_ _=>rfl)) (bH aZ (aE 0) aF (λ_ _=>rfl)))) (aI (bY eK (bH aZ (aE 0) aF (λ_ _=>rfl)) (bH aZ (aE 1) aF (λ_ _=>rfl))) aD))))),?_⟩;refine ⟨_,rfl,?_⟩;refine pD e1 rfl ?_;refine ⟨_,rfl,?_⟩;refine pD e2 rfl ?_;refine ⟨_,_,rfl,rfl,rN z1.1 z2.2,?_⟩;refine ⟨_,rfl,?_⟩;refine pD e2 rfl ?_;refine ⟨_,rfl,?_⟩;refine pD e1 rfl ?_;refine ⟨_,_,rfl,rfl,rN z2.1 z1.2,_,_,rfl,rfl,?_⟩;refine ⟨_,rfl,?_⟩;refine pD e1 rfl ?_;refine ⟨_,rfl,?_⟩;refine pD e2 rfl ?_;refine ⟨_,_,rfl,rfl,rN z1.2 z2.2,?_⟩;refine qZ (Int.mul_pos l1.pos l2.pos) (gJ (zZ z1.2 z2.2)) ?_;exact q
theorem aDo(F:iH K "_law_mul" "_law_mul" ZQ f fd)(T:jK K mg c)(FQ14:gT dQ P w K mg base 1 "_law_low" ["_law_n","_law_d"] nU):dI P w K mg base dQ 2 f fd ["_law_one","_law_other"] (kB K):=by
 refine F.oky aDU λvs H Q E h=>?_;unfold kB at h;obtain ⟨x,y,f,g,rfl,h1,h2,l1,l2,z1,z2,q⟩:=h;refine ⟨rfl,λcdv A outer s hr=>?_⟩;obtain ⟨p1,rfl,e1⟩:=h1;obtain ⟨p2,rfl,e2⟩:=h2;refine ⟨_,(aX (cC (bW FQ14 (hr.mono Dd) (aI (bY eK (bH aZ (aE 0) aF (λ_ _=>rfl)) (bH aZ (aE 1) aF (λ_ _=>rfl))) (aI (bY eK (bH aZ (aE 0) aF (λ_ _=>rfl)) (bH aZ (aE 1) aF (λ_ _=>rfl))) aD))))),?_⟩;refine ⟨_,rfl,?_⟩;refine pD e1 rfl ?_;refine ⟨_,rfl,?_⟩;refine pD e2 rfl ?_;refine ⟨_,_,rfl,rfl,rN z1.1 z2.1,?_⟩;refine ⟨_,rfl,?_⟩;refine pD e1 rfl ?_;refine ⟨_,rfl,?_⟩;refine pD e2 rfl ?_;refine ⟨_,_,rfl,rfl,rN z1.2 z2.2,?_⟩;refine qZ (Int.mul_pos l1.pos l2.pos) (gJ (zZ z1.2 z2.2)) ?_;exact q
end
abbrev ZG:Stmt:=(top 5)
theorem aDN:bR ["thing"] ["thing"] (aO ZG):=⟨rfl,rfl,rfl,Kk,rfl,Kk,Kk⟩
abbrev ZJ:Stmt:=(top 8)
theorem aDQ:bR ["thing"] ["thing"] (aO ZJ):=⟨rfl,rfl,rfl,Kk,rfl,Kk,Kk⟩
abbrev ZH:Stmt:=(top 9)
theorem aDO:bR ["thing"] ["thing"] (aO ZH):=⟨rfl,rfl,rfl,Kk,rfl,Kk,Kk⟩
abbrev ZI:Stmt:=(top 13)
theorem aDP:bR ["one","other"] ["one","other"] (aO ZI):=⟨rfl,rfl,rfl,Kk,rfl,Kk,Kk⟩
abbrev ZK:Stmt:=(top 21)
theorem aDR:bR ["faces","thing"] ["faces","thing"] (aO ZK):=⟨rfl,rfl,rfl,Kk,rfl,Kk,Kk⟩
abbrev ZL:Stmt:=(top 34)
theorem QJ:bR ["says","share","place","up_to"] ["says","share"] (aO ZL):=⟨rfl,rfl,rfl,Kk,rfl,Kk,Kk⟩
def fQ(es:List bI)(c:List Nat):Option (List Fr):=(es.find? λe=>decide (e.1=c)).map (·.2)
theorem AI{H:Hp}{es:List bI}{v:V}(h:bO H (AJ es) v):∃a xs,v=.ref a/\H a=some (.tup xs)/\aP H (es.map wT) xs:=by
 unfold bO at h;exact h
theorem PH{H:Hp}{e:bI}{v:V}(h:bO H (wT e) v):∃a x y,v=.ref a/\H a=some (.tup [x,y])/\bO H (nB e.1) x/\bO H (qL e.2) y:=by
 unfold bO aP aP aP at h;obtain ⟨a,_,rfl,h1,x,_,rfl,r1,y,_,rfl,r2,rfl⟩:=h;exact ⟨a,x,y,rfl,h1,r1,r2⟩
abbrev EnV(H:Hp)(p:List eL × V)(e:bI):Prop:=p.1=kT (ci e.1)/\bO H (qL e.2) p.2
theorem FJ{H:Hp}:∀{es:List bI}{xs:List V},aP H (es.map wT) xs->∃kvs,Paired (DZ H) xs kvs/\Paired (EnV H) kvs es
 | [],xs,r=>by
  unfold aP at r;cases (show xs=[] from r);exact ⟨[],.nil,.nil⟩
 | e::es,xs,r=>by
  rw [aW] at r;unfold aP at r;obtain ⟨x,xs',rfl,r1,r2⟩:=r;obtain ⟨kvs,h1,h2⟩:=FJ r2;obtain ⟨b,u,v,rfl,hb,ru,rv⟩:=PH r1;obtain ⟨cu,rfl,hcu⟩:=iR ru;exact ⟨(kT (ci e.1),v)::kvs,.cons ⟨b,cu,rfl,hb,by rw [wI,iS];exact hcu⟩ h1,.cons ⟨rfl,rv⟩ h2⟩
theorem AY{H:Hp}:∀{kvs:List (List eL × V)}{es:List bI},Paired (EnV H) kvs es->kvs.map (·.1)=es.map λe=>kT (ci e.1)
 | _,_,.nil=>rfl
 | _,_,.cons h t=>by rw [aW,aW,h.1,AY t]
theorem zU{H:Hp}{c:List Nat}:∀{kvs:List (List eL × V)}{es:List bI},Paired (EnV H) kvs es->(fQ es c=none->fB kvs (kT (ci c))=none)/\∀fs,fQ es c=some fs->∃v,fB kvs (kT (ci c))=some v/\bO H (qL fs) v
 | _,_,.nil=>⟨λ_=>rfl,λfs h=>by unfold fQ at h;cases h⟩
 | p::kvs,e::es,.cons h t=>by
  by_cases he:e.1=c
  ·have e1:fB (p::kvs) (kT (ci c))=some p.2:=gC (by rw [h.1,he]);have e2:fQ (e::es) c=some e.2:=by unfold fQ;rw [List.find?_cons_of_pos (by simpa using he)];rfl
   rw [e1,e2];exact ⟨(λh=>by cases h),λfs hf=>by cases hf;exact ⟨_,rfl,h.2⟩⟩
  ·have e1:fB (p::kvs) (kT (ci c))=fB kvs (kT (ci c)):=gD (by rw [h.1];exact λz=>he (wX (wJ z)));have e2:fQ (e::es) c=fQ es c:=by unfold fQ;rw [List.find?_cons_of_neg (by simpa using he)]
   rw [e1,e2];exact zU t
theorem vV{H H':Hp}(s:cG H H'):∀{kvs:List (List eL × V)}{es:List bI},Paired (EnV H) kvs es->Paired (EnV H') kvs es
 | _,_,.nil=>.nil
 | _,_,.cons h t=>.cons ⟨h.1,h.2.flat s (rJ _)⟩ (vV s t)
theorem wA:∀{es:List bI},(es.map (·.1)).Nodup->(es.map λe=>kT (ci e.1)).Nodup
 | [],_=>List.nodup_nil
 | e::es,h=>by
  rw [aW,List.nodup_cons] at h ⊢;refine ⟨λq=>?_,wA h.2⟩;obtain ⟨x,hx,e1⟩:=aU.mp q;exact h.1 (by rw [<-wX (wJ e1)];exact aU.mpr ⟨x,hx,rfl⟩)
theorem aB6{α:Type}{us:List α}(h:us.length=2):∃a b,us=[a,b]:=match us,h with | [a,b],_=>⟨a,b,rfl⟩
@[irreducible] def lR:Sp:=λvs H Q _=>∃x d,vs=[x]/\bO H d x/\Q (.bl (PQ d)) H
theorem qD{H:Hp}{Q:VK}{E:XK}{x:V}{d:PyData}(r:bO H d x)(q:Q (.bl (PQ d)) H):lR [x] H Q E:=by unfold lR;exact ⟨x,d,rfl,r,q⟩
def jS:PyData->Bool
 | .tuple [.int n,.int k]=>decide (1<=k)&&decide (Int.gcd n k=1)
 | _=>false
def pF:PyData->Bool
 | .tuple [.int n,.int k]=>(decide (1<=k)&&decide (Int.gcd n k=1))&&(decide (0<=n)&&decide (n<=k))
 | _=>false
@[irreducible] def rB:Sp:=λvs H Q _=>∃x d,vs=[x]/\bO H d x/\Q (.bl (jS d)) H
theorem JL{H:Hp}{Q:VK}{E:XK}{x:V}{d:PyData}(r:bO H d x)(q:Q (.bl (jS d)) H):rB [x] H Q E:=by unfold rB;exact ⟨x,d,rfl,r,q⟩
@[irreducible] def nQ:Sp:=λvs H Q _=>∃x d,vs=[x]/\bO H d x/\Q (.bl (pF d)) H
theorem EO{H:Hp}{Q:VK}{E:XK}{x:V}{d:PyData}(r:bO H d x)(q:Q (.bl (pF d)) H):nQ [x] H Q E:=by unfold nQ;exact ⟨x,d,rfl,r,q⟩
theorem DC{d:PyData}(h:jS d=true):∃n k:Int,d=.tuple [.int n,.int k]/\1<=k/\Int.gcd n k=1:=by
 unfold jS at h;split at h
 ·rename_i n k
  rw [cU] at h;exact ⟨n,k,rfl,of_decide_eq_true h.1,of_decide_eq_true h.2⟩
 ·cases h
theorem xG{d:PyData}(h:jS d=false):pF d=false:=by
 unfold pF;split
 ·rename_i n k
  have h':(decide (1<=k)&&decide (Int.gcd n k=1))=false:=h;rw [h',Bool.false_and]
 ·rfl
section
theorem aC6(F:iH K "is_whole" "is_whole" ZG f fd)(T:jK K mg c):dI P w K mg base dQ 1 f fd ["thing"] lR:=by
 refine F.oky aDN λvs H Q E h=>?_;unfold lR at h;obtain ⟨x,d,rfl,r,q⟩:=h;refine ⟨rfl,λcdv A outer s hr=>?_⟩;refine ⟨_,(aX (cC (zS (eC FX (by rfl) T.b_isinstance Kk (aI (aE 0) (aI (zR (v:=.ty "int") (u:=.type "int") rfl T.b_int Kk rfl) aD))) (zQ (LY (eC FX (by rfl) T.b_isinstance Kk (aI (aE 0) (aI (zR (v:=.ty "bool") (u:=.type "bool") rfl T.b_bool Kk rfl) aD)))))))),?_⟩;refine ⟨_,rfl,?_⟩;refine aBL r ?_;refine ⟨_,rfl,?_⟩;cases d
 case int i=>exact lI ⟨_,rfl,NI r ⟨_,rfl,q⟩⟩
 case bool i=>exact lI ⟨_,rfl,NI r ⟨_,rfl,q⟩⟩
 all_goals exact kY q
theorem aC9(F:iH K "is_fraction" "is_fraction" ZJ f fd)(T:jK K mg c)
  (FQ34:gT dQ P w K mg base 1 "is_whole" ["thing"] lR) (FQ26:gT dQ P w K mg base 1 "common_divisor" ["number","above_nought"] vQ):dI P w K mg base dQ 2 f fd ["thing"] rB:=by
 refine F.oky aDQ λvs H Q E h=>?_;unfold rB at h;obtain ⟨x,d,rfl,r,q⟩:=h;refine ⟨rfl,λcdv A outer s hr=>?_⟩;refine ⟨_,(aJ (gY (IX (BQ (nI (mF (eC FX (by rfl) T.b_isinstance Kk (aI (aE 0) (aI (zR (v:=.ty "tuple") (u:=.type "tuple") rfl T.b_tuple Kk rfl) aD))))) (vA (eB vY (eC fY (by rfl) T.b_len Kk (aI (aE 0) aD)) aF (nomark _))))) (aX (cC pP)) eQ)
  (aJ (gY (IX (BQ (nI (mF (bW FQ34 (hr.mono Dd) (aI (bH aZ (aE 0) aF (λ_ _=>rfl)) aD)))) (vA (nI (mF (bW FQ34 (hr.mono Dd) (aI (bH aZ (aE 0) aF (λ_ _=>rfl)) aD))))))) (aX (cC pP)) eQ)
  (aX (cC (zS (qA XL (bH aZ (aE 0) aF (λ_ _=>rfl)) aF (nomark _)) (zQ (qA oI (bW FQ26 (hr.mono Dd) (aI (bH aZ (aE 0) aF (λ_ _=>rfl)) (aI (bH aZ (aE 0) aF (λ_ _=>rfl)) aD))) aF (nomark _)))))))),?_⟩
 refine ⟨_,rfl,?_⟩;refine aBK r ?_;refine ⟨_,rfl,?_⟩;by_cases ht:PR d=true
 ·rw [ht];refine kY ?_;cases d with
  | tuple ds =>
   have r0:=r;unfold bO at r;obtain ⟨a,xs,rfl,ha,rl⟩:=r;have hlen:=rl.len;refine ⟨_,rfl,?_⟩;refine LP ha ?_;refine ⟨rfl,_,rfl,?_⟩;refine HY (λe=>?_) (λe=>?_)
   ·have e2:jS (.tuple ds)=false:=by
     unfold jS;split
     ·rename_i n k z
      injection z with z;subst z;exact absurd (congrArg V.int (by rw [hlen];rfl)) e
     ·rfl
    rw [e2] at q;exact q
   ·have e1:ds.length=2:=by injection e with e;omega
    obtain ⟨d0,d1,rfl⟩:=aB6 e1;unfold aP aP aP at rl;obtain ⟨x0,_,rfl,r0',x1,_,rfl,r1',rfl⟩:=rl;refine ⟨_,rfl,?_⟩;refine jR ha rfl ?_;refine qD r0' ?_;refine ⟨_,rfl,?_⟩;cases d0
    case int n =>
     refine kY ?_;refine ⟨_,rfl,?_⟩;refine jR ha rfl ?_;refine qD r1' ?_;refine ⟨_,rfl,?_⟩;cases d1
     case int k =>
      refine kY ?_;cases (show x0=V.int n from r0');cases (show x1=V.int k from r1');refine ⟨_,rfl,?_⟩;refine jR ha rfl ?_;refine ⟨_,_,rfl,rfl,_,rfl,?_⟩;refine qG (λe3=>?_) (λe3=>?_)
      ·refine ⟨_,rfl,?_⟩;refine jR ha rfl ?_;refine ⟨_,rfl,?_⟩;refine jR ha rfl ?_;refine rG Oo ?_;refine ⟨rfl,?_⟩;have e4:jS (.tuple [.int n,.int k])=decide (V.int (Int.gcd n k:Int)=V.int 1):=by
        show (decide (1<=k)&&decide (Int.gcd n k=1))=_;rw [bP e3,Bool.true_and];by_cases g:Int.gcd n k=1
        ·rw [bP g,g];rfl
        ·rw [bX g,bX];intro z;injection z with z;omega
       rw [e4] at q;exact q
      ·have e4:jS (.tuple [.int n,.int k])=false:=by
        show (decide (1<=k)&&decide (Int.gcd n k=1))=_;rw [bX e3,Bool.false_and]
       rw [e4] at q;exact q
     all_goals exact lI q
    all_goals exact lI (lI q)
  | _=>cases ht
 ·have ht':PR d=false:=by simpa using ht
  rw [ht'];refine lI ?_;refine lI ?_;have e2:jS d=false:=by cases d <;> first | rfl | cases ht'
  rw [e2] at q;exact q
theorem aC7(F:iH K "is_share" "is_share" ZH f fd)(T:jK K mg c)
  (FQ31:gT dQ P w K mg base 2 "is_fraction" ["thing"] rB):dI P w K mg base dQ 3 f fd ["thing"] nQ:=by
 refine F.oky aDO λvs H Q E h=>?_;unfold nQ at h;obtain ⟨x,d,rfl,r,q⟩:=h;refine ⟨rfl,λcdv A outer s hr=>?_⟩;refine ⟨_,(aX (cC (zS (bW FQ31 (hr.mono Dd) (aI (aE 0) aD)) (zQ (BT HM HM aF (bH aZ (aE 0) aF (λ_ _=>rfl)) (bH aZ (aE 0) aF (λ_ _=>rfl))))))),?_⟩;refine ⟨_,rfl,?_⟩;refine JL r ?_;refine ⟨_,rfl,?_⟩;by_cases hf:jS d=true
 ·obtain ⟨n,k,rfl,h1,h2⟩:=DC hf;rw [hf];refine lI ?_;unfold bO aP aP aP at r;obtain ⟨a,_,rfl,ha,x0,_,rfl,r0,x1,_,rfl,r1,rfl⟩:=r;cases (show x0=V.int n from r0);cases (show x1=V.int k from r1);have e4:pF (.tuple [.int n,.int k])=(decide (0<=n)&&decide (n<=k)):=by
   show ((decide (1<=k)&&decide (Int.gcd n k=1))&&(decide (0<=n)&&decide (n<=k)))=_;rw [bP h1,bP h2,Bool.true_and,Bool.true_and]
  rw [e4] at q;refine ⟨_,rfl,?_⟩;refine jR ha rfl ?_;refine ⟨_,_,rfl,rfl,_,rfl,?_⟩;refine qG (λe=>?_) (λe=>?_)
  ·rw [bP e,Bool.true_and] at q;refine ⟨_,rfl,?_⟩;refine jR ha rfl ?_;exact ⟨_,_,rfl,rfl,q⟩
  ·rw [bX e,Bool.false_and] at q;exact q
 ·have hf':jS d=false:=by simpa using hf
  rw [xG hf'] at q;rw [hf'];exact kY q
end
theorem aC8(F:iH K "is_less" "is_less" ZI f fd)(T:jK K mg c):dI P w K mg base dQ 1 f fd ["one","other"] (rA K):=by
 refine F.oky aDP λvs H Q E h=>?_;unfold rA at h;obtain ⟨x,y,⟨a,b⟩,⟨c,d⟩,rfl,h1,h2,⟨za,zb⟩,⟨zc,zd⟩,q⟩:=h;refine ⟨rfl,λcdv A outer s hr=>?_⟩;obtain ⟨p1,rfl,e1⟩:=h1;obtain ⟨p2,rfl,e2⟩:=h2;refine ⟨_,(aX (cC (qA OD (bY eK (bH aZ (aE 0) aF (λ_ _=>rfl)) (bH aZ (aE 1) aF (λ_ _=>rfl))) (bY eK (bH aZ (aE 1) aF (λ_ _=>rfl)) (bH aZ (aE 0) aF (λ_ _=>rfl))) (nomark _)))),?_⟩;refine ⟨_,rfl,?_⟩;refine pD e1 rfl ?_;refine ⟨_,rfl,?_⟩;refine pD e2 rfl ?_;refine ⟨_,_,rfl,rfl,rN za zd,?_⟩;refine ⟨_,rfl,?_⟩;refine pD e2 rfl ?_;refine ⟨_,rfl,?_⟩;refine pD e1 rfl ?_;exact ⟨_,_,rfl,rfl,rN zc zb,_,_,rfl,rfl,q⟩
def LO(fs:List Fr)(k:Nat):Fr:=gI (fs.take (k+1))
abbrev zK(l g:Fr):Prop:=l.1*g.2<g.1*l.2
def drw(fs:List Fr)(l:Fr):Nat:=((List.range fs.length).find? λk=>decide (zK l (LO fs k))).getD 0
structure BM(fs:List Fr)(l:Fr)(j:Nat):Prop where
 lt:j<fs.length
 hit:zK l (LO fs j)
 no:∀i,i<j->¬zK l (LO fs i)
theorem BM.eq{fs:List Fr}{l:Fr}{j:Nat}(h:BM fs l j):drw fs l=j:=by
 unfold drw;have:(List.range fs.length).find? (λk=>decide (zK l (LO fs k)))=some j:=by
  rw [List.find?_range_eq_some];exact ⟨bP h.hit,cE.mpr h.lt,λi hi=>by rw [bX (h.no i hi)];rfl⟩
 rw [this];rfl
theorem nE.low{n:Nat}{fs:List Fr}(h:nE n fs):∀f∈fs,cS f:=λf hf=>by
 obtain ⟨ns,h1,h2,h3,h4,rfl⟩:=h.ex;obtain ⟨x,hx,rfl⟩:=aU.mp hf;exact eT h3
theorem uQ:∀{c:List Int},(∀x∈c,0<=x)->0<=c.sum
 | [],_=>by simp
 | x::c,h=>by
  have h1:=uQ (c:=c) λy hy=>h y (aH _ hy);have h2:=h x (aN ..);rw [List.sum_cons];omega
theorem nK{ns:List Int}(h:∀x∈ns,0<=x)(k:Nat):0<=(ns.take k).sum/\(ns.take k).sum<=ns.sum:=by
 have h1:=uQ λx hx=>h x (List.mem_of_mem_take (i:=k) hx);have h2:=uQ λx hx=>h x (List.mem_of_mem_drop (i:=k) hx);have e:ns.sum=(ns.take k).sum+(ns.drop k).sum:=by rw [<-List.sum_append,List.take_append_drop]
 omega
theorem nE.szf{n:Nat}{fs:List Fr}(h:nE n fs):∀f∈fs,lK 1062 f:=λf hf=>by
 obtain ⟨h1,h2,h3,h4⟩:=h.fn f hf;exact ⟨bG h3 (aT (by decide:15<2^4) (aV Dd Dd)),bG h4 (aT (by decide:15<2^4) (aV Dd Dd))⟩
theorem nE.lenN{n:Nat}{fs:List Fr}(h:nE n fs):fs.length=n:=by
 obtain ⟨ns,h1,h2,h3,h4,rfl⟩:=h.ex;rw [aA,h1]
structure QU(l:Fr):Prop where
 low:cS l
 nn:0<=l.1
 le:l.1<=l.2
 sz:lK 1062 l
theorem nE.tak{n:Nat}{fs:List Fr}(h:nE n fs)(hn:n<=5)(k:Nat):QU (gI (fs.take k)):=by
 obtain ⟨ns,h1,h2,h3,h4,rfl⟩:=h.ex;have st:=nK h2 k;rw [<-List.map_take,lO h3];have hg:=gW (n:=(ns.take k).sum) h3;have e1:(ns.take k).sum.natAbs<2^10:=by show (ns.take k).sum.natAbs<1024;omega
 have e2:ns.sum.natAbs<2^10:=by show ns.sum.natAbs<1024;omega
 refine ⟨eT h3,?_,?_,gJ (mH e1 hg),gJ (mH e2 hg)⟩
 ·exact Int.ediv_nonneg st.1 Oo
 ·exact Int.ediv_le_ediv hg st.2
theorem nE.last{n:Nat}{fs:List Fr}(h:nE n fs){k:Nat}(hk:n<=k):gI (fs.take k)=(1,1):=by
 obtain ⟨ns,h1,h2,h3,h4,rfl⟩:=h.ex;rw [List.take_of_length_le (by rw [aA];omega),lO h3,FQ h3]
theorem zK.one{l:Fr}(h:l.1<l.2):zK l (1,1):=by show l.1*1<1*l.2;omega
theorem GR{fs:List Fr}{k:Nat}{f:Fr}(h:fs[k]?=some f):gI (fs.take (k+1))=kW (gI (fs.take k)) f:=by
 rw [List.take_succ,h];exact jY _ _
theorem GQ{f:Fr}{fs:List Fr}(h:cS f):LO (f::fs) 0=f:=by
 show gI [f]=f;show kW (0,1) f=f;unfold kW;rw [show (0:Int)*f.2+f.1*1=f.1 by omega,show (1:Int)*f.2=f.2 by omega];exact HQ h
theorem SJ{f:Fr}(h:lK 1062 f):lK 4000 f:=⟨gJ h.1,gJ h.2⟩
@[irreducible] def oB:Sp:=λvs H Q _=>∃x y fs l n,vs=[x,y]/\bO H (qL fs) x/\bO H (fK l) y/\nE n fs/\n<=5/\QU l/\l.1<l.2/\∀H',BM fs l (drw fs l)->bF H H'->Q (.int (drw fs l:Nat)) H'
theorem EV{H:Hp}{Q:VK}{E:XK}{x y:V}{fs:List Fr}{l:Fr}{n:Nat}(h1:bO H (qL fs) x)(h2:bO H (fK l) y)(ok:nE n fs)(hn:n<=5)(lo:QU l)(lt:l.1<l.2)(q:∀H',BM fs l (drw fs l)->bF H H'->Q (.int (drw fs l:Nat)) H'):oB [x,y] H Q E:=by
 unfold oB;exact ⟨x,y,fs,l,n,rfl,h1,h2,ok,hn,lo,lt,q⟩
def FS(F:Nat):PyData->Bool
 | .int i=>decide (0<=i)&&decide (i<(F:Int))
 | _=>false
@[irreducible] def rD:Sp:=λvs H Q _=>∃(F:Nat) (x:V) (d:PyData),vs=[.int (F:Int),x]/\bO H d x/\Q (.bl (FS F d)) H
theorem JN{H:Hp}{Q:VK}{E:XK}{F:Nat}{x:V}{d:PyData}(r:bO H d x)(q:Q (.bl (FS F d)) H):rD [.int (F:Int),x] H Q E:=by
 unfold rD;exact ⟨F,x,d,rfl,r,q⟩
section
theorem aDa(F:iH K "is_face" "is_face" ZK f fd)(T:jK K mg c)(FQ34:gT dQ P w K mg base 1 "is_whole" ["thing"] lR):dI P w K mg base dQ 2 f fd ["faces","thing"] rD:=by
 refine F.oky aDR λvs H Q E h=>?_;unfold rD at h;obtain ⟨F,x,d,rfl,r,q⟩:=h;refine ⟨rfl,λcdv A outer s hr=>?_⟩;refine ⟨_,(aX (cC (zS (bW FQ34 (hr.mono Dd) (aI (aE 1) aD)) (zQ (BT HM OD aF (aE 1) (aE 0)))))),?_⟩;refine ⟨_,rfl,?_⟩;refine qD r ?_;refine ⟨_,rfl,?_⟩;cases d
 case int i =>
  cases (show x=V.int i from r);refine lI ?_;refine ⟨_,rfl,_,_,rfl,rfl,_,rfl,?_⟩;refine qG (λe=>?_) (λe=>?_)
  ·refine ⟨_,rfl,_,_,rfl,rfl,?_⟩;have q':Q (.bl (decide (0<=i)&&decide (i<(F:Int)))) H:=q;rw [bP e,Bool.true_and] at q';exact q'
  ·have q':Q (.bl (decide (0<=i)&&decide (i<(F:Int)))) H:=q;rw [bX e,Bool.false_and] at q';exact q'
 all_goals exact kY q
theorem aDd(F:iH K "drawn" "drawn" ZL f fd)(T:jK K mg c)(FQ32:gT dQ P w K mg base 1 "is_less" ["one","other"] (rA K))(FQ42:gT dQ P w K mg base 2 "plus" ["one","other"] (lB K)):dI P w K mg base dQ 3 f fd ["says","share"] oB:=by
 refine F.oky QJ λvs H Q E h=>?_;unfold oB at h;obtain ⟨x,y,fs,l,n,rfl,r1,r2,ok,hn,lo,lt,q⟩:=h;refine ⟨rfl,λcdv A outer s hr=>?_⟩;obtain ⟨a,xs,rfl,ha,rxs⟩:=qE r1;have len:=ok.lenN;obtain ⟨f0,fr,rfl⟩:∃f0 fr,fs=f0::fr:=by
  cases fs with
  | nil =>
   have:=ok.last (k:=0) (by rw [<-len];exact cV _);cases this
  | cons f0 fr=>exact ⟨f0,fr,rfl⟩
 obtain ⟨v0,hv0,rv0⟩:=aP.atX (i:=0) rxs rfl;refine ⟨_,(aJ (bN (i:=2) QJ.nd rfl (Or.inl rfl) aF)
  (aJ (bN (i:=3) QJ.nd rfl (Or.inl rfl) (bH aZ (aE 0) aF (λ_ _=>rfl)))
  (aJ (nJ PassesOwn.never (nI (mF (bW FQ32 (hr.mono Dd) (aI (aE 1) (aI (aE 3) aD))))) (aJ (bN (i:=2) QJ.nd rfl (Or.inl rfl) (bY eV (aE 2) aF))
  (aX (bN (i:=3) QJ.nd rfl (Or.inl rfl) (bW FQ42 (hr.mono Dd) (aI (aE 3) (aI (bH aZ (aE 0) (aE 2) (λ_ _=>rfl)) aD)))))))
  (aX (cC (aE 2)))))),?_⟩
 refine ⟨_,rfl,?_⟩;refine jR ha (cK hv0) ?_;have low:=ok.low;refine qN (λm σ H'=>∃(k:Nat) (v:V),σ=[some (.ref a),some y,some (.int (k:Int)),some v]/\bF H H'/\gR K H' (LO (f0::fr) k) v/\k<n/\(∀i,i<k->¬zK l (LO (f0::fr) i))/\m=n-k)
  (λσ H'=>∃v,σ=[some (.ref a),some y,some (.int (drw (f0::fr) l:Nat)),some v]/\BM (f0::fr) l (drw (f0::fr) l)/\bF H H')
  _ ⟨0,v0,rfl,bF.refl _,by rw [GQ (low f0 (aN ..))];exact gR.of rv0,by rw [<-len];simp,(λi hi=>Oo),rfl⟩ ?_ ?_
 ·rintro m σ H1 ⟨k,v,rfl,s1,rv,hk,hno,rfl⟩;have ut:=ok.tak hn (k+1);refine ⟨_,rfl,_,rfl,?_⟩;refine JK (gR.of (r2.same s1)) rv (SJ lo.sz) (SJ ut.sz) ?_;refine ⟨_,rfl,?_⟩;by_cases e:zK l (LO (f0::fr) k)
  ·rw [bP e];have isd:BM (f0::fr) l k:=⟨Oo,e,hno⟩;have eq:=isd.eq;refine kY ?_;subst eq;exact ⟨v,rfl,isd,s1⟩
  ·rw [bX e];refine lI ?_;have hk1:k+1<n:=by
    by_cases z:k+1<n
    ·exact z
    ·have:=ok.last (k:=k+1) Oo;exact absurd (by show zK l (gI _);rw [this];exact zK.one lt) e
   obtain ⟨fk,hfk⟩:∃fk,(f0::fr)[k+1]?=some fk:=⟨_,aC Oo⟩;obtain ⟨vk,hvk,rvk⟩:=aP.atX (i:=k+1) rxs hfk;refine ⟨_,rfl,_,_,rfl,rfl,?_⟩;refine ⟨_,rfl,_,rfl,_,rfl,?_⟩;refine jR (s1 _ _ ha) (cK hvk) ?_;have mem:=aR hfk;refine oZ rv (gR.of (rvk.same s1)) ut.low (low fk mem) (SJ ut.sz) (SJ (ok.szf fk mem)) ?_;intro q2 H2 hq2 e2 s2;refine ⟨_,Oo,k+1,.ref q2,rfl,s1.trans s2,?_,hk1,λi hi=>?_,rfl⟩
   ·refine gR.new ?_;rw [e2];show _=some (HO.tup [.int (gI (List.take (k+1+1) (f0::fr))).1,.int (gI (List.take (k+1+1) (f0::fr))).2]);rw [GR hfk]
    rfl
   ·by_cases z:i=k
    ·subst z;exact e
    ·exact hno i Oo
 ·rintro σ H1 ⟨v,rfl,isd,s1⟩;exact ⟨_,rfl,q H1 isd s1⟩
end
inductive dS where
 | look (i:Nat)
 | lot (f:Fr)
abbrev rY:dS->PyData
 | .look i=>.tuple [.str "look",.int (i:Int)]
 | .lot f=>.tuple [.str "lot",fK f]
abbrev xI:=List Nat × Option Nat
abbrev LQ:Option Nat->PyData
 | none=>.none
 | some j=>.int (j:Int)
abbrev SR(s:xI):PyData:=.tuple [nB s.1,LQ s.2]
theorem PP:∀d:dS,eP (rY d)=true
 | .look _=>rfl
 | .lot _=>rfl
theorem jO:∀ts:List dS,dW (ts.map rY)=true
 | []=>rfl
 | t::ts=>by show (eP (rY t)&&dW (ts.map rY))=true;rw [PP,jO ts];rfl
theorem CL(s:xI):eP (SR s)=true:=by
 show (eP (nB s.1)&&(eP (LQ s.2)&&true))=true;rw [kS];cases s.2 <;> rfl
theorem lZ:∀ss:List xI,dW (ss.map SR)=true
 | []=>rfl
 | s::ss=>by show (eP (SR s)&&dW (ss.map SR))=true;rw [CL,lZ ss];rfl
theorem EZ{H:Hp}{s:xI}{v:V}(h:bO H (SR s) v):∃a x y,v=.ref a/\H a=some (.tup [x,y])/\bO H (nB s.1) x/\bO H (LQ s.2) y:=by
 unfold bO aP aP aP at h;obtain ⟨a,_,rfl,h1,x,_,rfl,r1,y,_,rfl,r2,rfl⟩:=h;exact ⟨a,x,y,rfl,h1,r1,r2⟩
def plV:Option Nat->V
 | none=>.non
 | some j=>.int (j:Int)
theorem NR{H:Hp}{o:Option Nat}{v:V}(h:bO H (LQ o) v):v=plV o:=by
 cases o with
 | none=>exact h
 | some j=>exact h
theorem FI{H:Hp}:∀o:Option Nat,bO H (LQ o) (plV o)
 | none=>bO.non
 | some j=>bO.int _
def vZ(fs:List Fr):Option Nat:=fs.findIdx? λf=>decide (f=(1,1))
def come(es:List bI)(c:List Nat):xI:=(c,vZ ((fQ es c).getD []))
def step(es:List bI)(s:xI):dS->xI
 | .look i=>come es (bU s.1 i)
 | .lot f=>(s.1,some (drw ((fQ es s.1).getD []) f))
def stand(es:List bI)(F:Nat)(ts:List dS):xI:=ts.foldl (step es) (come es (List.replicate F 0))
def stands(es:List bI)(F:Nat)(ts:List dS):List xI:=(List.range (ts.length+1)).map λi=>stand es F (ts.take i)
theorem jA(es:List bI)(F:Nat)(ts:List dS)(d:dS):stand es F (ts++[d])=step es (stand es F ts) d:=by
 unfold stand;rw [List.foldl_append];rfl
theorem nN(es:List bI)(F:Nat)(ts:List dS)(d:dS):stands es F (ts++[d])=stands es F ts++[stand es F (ts++[d])]:=by
 unfold stands;rw [bK,List.length_singleton,List.range_succ,bL];congr 1
 ·refine dE λi hi=>?_;rw [List.take_append_of_le_length (by have:=cE.mp hi;omega)]
 ·show [stand es F (List.take (ts.length+1) (ts++[d]))]=[_];rw [List.take_of_length_le (by rw [bK];exact aG _)]
theorem qC(es:List bI)(F:Nat)(ts:List dS):(stands es F ts).length=ts.length+1:=by unfold stands;rw [aA,cX]
theorem CC(es:List bI)(F:Nat)(ts:List dS):(stands es F ts)[ts.length]?=some (stand es F ts):=by
 unfold stands;rw [aM,dN Oo,Option.map_some,cT]
def UP(F:Nat)(s:xI):dS->Prop
 | .look i=>s.2=some 0/\i<F
 | .lot l=>s.2=none/\QU l/\l.1<l.2
inductive Rt (es:List bI) (F:Nat):List dS->Prop where
 | nil:Rt es F []
 | snoc {ts:List dS} {d:dS} (h:Rt es F ts) (k:UP F (stand es F ts) d):Rt es F (ts++[d])
structure xL(F W M:Nat)(es:List bI):Prop where
 ne:es≠[]
 nd:(es.map (·.1)).Nodup
 each:∀e∈es,e.1.length=F/\nE (1+W) e.2
 len:es.length<=320
 top:∀e∈es,e.1.sum<=M
 fwd:∀e∈es,e.2.headD (0,1)≠(0,1)->∀i,i<F->bU e.1 i∈es.map (·.1)
 zero:List.replicate F 0∈es.map (·.1)
structure InR(F W:Nat)(es:List bI)(s:xI):Prop where
 ex:∃fs,(s.1,fs)∈es/\fQ es s.1=some fs/\nE (1+W) fs/\(s.2=some 0->fs.headD (0,1)≠(0,1))/\∀j,s.2=some j->j<fs.length
 len:s.1.length=F
theorem xZ{es:List bI}(nd:(es.map (·.1)).Nodup){c:List Nat}{fs:List Fr}(h:(c,fs)∈es):fQ es c=some fs:=by
 induction es with
 | nil=>cases h
 | cons e es ih =>
  rw [aW,List.nodup_cons] at nd;unfold fQ;by_cases he:e.1=c
  ·rw [List.find?_cons_of_pos (by simpa using he)];rcases aQ.mp h with rfl | h
   ·rfl
   ·exact absurd (by rw [he];exact aU.mpr ⟨_,h,rfl⟩) nd.1
  ·rw [List.find?_cons_of_neg (by simpa using he)];rcases aQ.mp h with rfl | h
   ·exact absurd rfl he
   ·exact ih nd.2 h
theorem uP{fs:List Fr}{j:Nat}(h:vZ fs=some j):fs[j]?=some (1,1)/\∀i,i<j->fs[i]? ≠ some (1,1):=by
 unfold vZ at h;rw [List.findIdx?_eq_some_iff_getElem] at h;obtain ⟨h1,h2,h3⟩:=h;refine ⟨by rw [aC h1];simpa using h2,λi hi e=>?_⟩;have:=h3 i hi;have hi':i<fs.length:=Oo;rw [aC hi'] at e;injection e with e;rw [e] at this;simp at this
theorem JZ{fs:List Fr}(h:vZ fs=none):(1,1) ∉ fs:=λhm=>by
 unfold vZ at h;rw [List.findIdx?_eq_none_iff] at h;have:=h _ hm;simp at this
theorem II{F W M:Nat}{es:List bI}(ok:xL F W M es){c:List Nat}(h:c∈es.map (·.1)):InR F W es (come es c):=by
 obtain ⟨⟨c',fs⟩,he,rfl⟩:=aU.mp h;have sa:=xZ ok.nd he;obtain ⟨h1,h4⟩:=ok.each _ he;refine ⟨⟨fs,he,sa,h4,λh0=>?_,λj hj=>?_⟩,h1⟩
 ·have h0':vZ ((fQ es c').getD [])=some 0:=h0;rw [sa] at h0';have:=(uP h0').1;cases fs with
  | nil=>cases this
  | cons f fs=>cases this;show ((1,1):Fr)≠(0,1);decide
 ·have hj':vZ ((fQ es c').getD [])=some j:=hj;rw [sa] at hj';exact (aL.mp (uP hj').1).1
theorem GX{F W M:Nat}{es:List bI}(ok:xL F W M es)(hW:W<=4){s:xI}(h:InR F W es s){d:dS}(k:UP F s d):InR F W es (step es s d):=by
 obtain ⟨fs,he,sa,sy,h0,hj⟩:=h.ex;cases d with
 | look i =>
  exact II ok (ok.fwd _ he (h0 k.1) i k.2)
 | lot l =>
  have isd:BM fs l (drw fs l):=by
   have hn:0<1+W:=Oo;have len:=sy.lenN;have:∃j,BM fs l j:=by
    have hl:=sy.last (k:=W+1) Oo;have fin:∀n,(∃j,j<=n/\zK l (LO fs j))->∃j,j<=n/\zK l (LO fs j)/\∀i,i<j->¬zK l (LO fs i):=λn=>by
     induction n with
     | zero =>
      rintro ⟨j,hj,h⟩;exact ⟨j,hj,h,λi hi=>Oo⟩
     | succ n ih =>
      rintro ⟨j,hj,h⟩;by_cases q:∃j,j<=n/\zK l (LO fs j)
      ·obtain ⟨j,a,b⟩:=ih q;exact ⟨j,Oo,b⟩
      ·exact ⟨j,hj,h,λi hi hh=>q ⟨i,Oo,hh⟩⟩
    obtain ⟨j,a,b,e⟩:=fin W ⟨W,aG _,by show zK l (gI (fs.take (W+1)));rw [hl];exact zK.one k.2.2⟩;exact ⟨j,Oo,b,e⟩
   obtain ⟨j,isd⟩:=this;rw [isd.eq];exact isd
  have es':(step es s (.lot l))=(s.1,some (drw fs l)):=by unfold step;rw [sa];rfl
  rw [es'];refine ⟨⟨fs,he,sa,sy,λh0=>?_,λj hj=>?_⟩,h.len⟩
  ·injection h0 with h0;have hit:=isd.hit;rw [h0] at hit;intro hh;cases fs with
   | nil=>cases isd.lt
   | cons f fs =>
    rw [GQ (sy.low f (aN ..))] at hit;have hf:f=(0,1):=hh;rw [hf] at hit;have h1:l.1*1<0*l.2:=hit;have:=k.2.1.nn;omega
  ·injection hj with hj;subst hj;exact isd.lt
theorem Rt.inR{F W M:Nat}{es:List bI}(ok:xL F W M es)(hW:W<=4){ts:List dS}(h:Rt es F ts):InR F W es (stand es F ts):=by
 induction h with
 | nil =>
  exact II ok ok.zero
 | snoc h k ih =>
  rw [jA];exact GX ok hW ih k
def pM:Option Nat->Str
 | none => "lot"
 | some 0 => "look"
 | some (_+1) => ""
def YK:Option Nat->V
 | some (j+1)=>.int (j:Int)
 | _=>.non
theorem NH{F:Nat}{es:List bI}(R:uZ F es)(d:List Nat):bS F es d=(if d=List.replicate F 0 then 1 else 0)+cR es λe=>bS F es e.1*s0 e*kR F e.1 d:=by
 have all:∀n,n<=es.length->bS F (es.take n) d=(if d=List.replicate F 0 then 1 else 0)+cR (es.take n) λe=>bS F es e.1*s0 e*kR F e.1 d:=λn=>by
  induction n with
  | zero=>intro _;rw [List.take_zero,kE,eN];grind
  | succ n ih =>
   intro hn;have he:=aC (show n<es.length by omega);rw [iJ he,gO,R.at he,ih Oo,sM];grind
 have:=all es.length (aG _)
 rwa [cT] at this
theorem sH:∀F:Nat,(List.replicate F (0:Nat)).sum=0
 | 0=>rfl
 | n+1=>by rw [List.replicate_succ,List.sum_cons,sH n]
def lev(es:List bI)(k:Nat):List bI:=es.filter λe=>decide (e.1.sum=k)
def low(es:List bI)(k:Nat):List bI:=es.filter λe=>decide (e.1.sum<k)
theorem mS{es:List bI}{k:Nat}{e:bI}:e∈lev es k↔e∈es/\e.1.sum=k:=by unfold lev;rw [kF,decide_eq_true_iff]
theorem OO(es:List bI)(k:Nat)(g:bI->Rat):cR (low es (k+1)) g=cR (low es k) g+cR (lev es k) g:=by
 unfold low lev
 induction es with
 | nil=>rw [List.filter_nil,List.filter_nil,List.filter_nil,eN];grind
 | cons e es ih =>
  by_cases h1:e.1.sum<k
  ·rw [List.filter_cons_of_pos (by simpa using (show e.1.sum<k+1 by omega)),List.filter_cons_of_pos (by simpa using h1),List.filter_cons_of_neg (by simpa using (show ¬e.1.sum=k by omega)),cH,cH,ih];grind
  ·by_cases h2:e.1.sum=k
   ·rw [List.filter_cons_of_pos (by simpa using (show e.1.sum<k+1 by omega)),List.filter_cons_of_neg (by simpa using h1),List.filter_cons_of_pos (by simpa using h2),cH,cH,ih];grind
   ·rw [List.filter_cons_of_neg (by simpa using (show ¬e.1.sum<k+1 by omega)),List.filter_cons_of_neg (by simpa using h1),List.filter_cons_of_neg (by simpa using h2),ih]
theorem ON(es:List bI)(g:bI->Rat):cR (low es 0) g=0:=by
 have:low es 0=[]:=by unfold low;exact List.filter_eq_nil_iff.mpr λe _=>by simp
 rw [this,eN]
theorem UZ{F:Nat}{es:List bI}(R:uZ F es){k:Nat}{d:List Nat}:d∈(lev es (k+1)).map (·.1) ↔ ∃e∈lev es k,s0 e≠0/\∃f,f<F/\d=bU e.1 f:=by
 constructor
 ·intro h;obtain ⟨x,hx,rfl⟩:=aU.mp h;obtain ⟨h1,h2⟩:=mS.mp hx;have hn:x.1≠List.replicate F 0:=λz=>by
   rw [z,sH] at h2;omega
  obtain ⟨e,he,h0,f,hf,ef⟩:=R.bwd x.1 (aU.mpr ⟨x,h1,rfl⟩) hn;refine ⟨e,mS.mpr ⟨he,?_⟩,h0,f,hf,ef.symm⟩;have:=iT (show f<e.1.length by rw [R.len e he];exact hf);rw [ef] at this;omega
 ·rintro ⟨e,he,h0,f,hf,rfl⟩;obtain ⟨h1,h2⟩:=mS.mp he;obtain ⟨x,hx,ex⟩:=aU.mp (R.fwd e h1 h0 f hf);refine aU.mpr ⟨x,mS.mpr ⟨hx,?_⟩,ex⟩;rw [ex,iT (by rw [R.len e h1];exact hf)];omega
theorem UX{es:List bI}{k:Nat}{g:bI->Rat}(h:∀e∈es,e.1.sum≠k->g e=0):cR es g=cR (lev es k) g:=by
 unfold lev
 induction es with
 | nil=>rfl
 | cons e es ih =>
  have ih:=ih λx hx=>h x (aH _ hx);by_cases q:e.1.sum=k
  ·rw [List.filter_cons_of_pos (by simpa using q),cH,cH,ih]
  ·rw [List.filter_cons_of_neg (by simpa using q),cH,ih,h e (aN ..) q];grind
theorem RU{s:List Fr}(h:∀f∈s,cS f){c:List Nat}(hl:s.length=c.length){j:Nat}(hj:j<s.length):wq s (bU c j)=wq s c*lN s j:=by
 rw [zP h,zP h,yE s c j hj hl]
def lJ(F:Nat)(es:List bI)(s:List Fr)(c:List Nat):Rat:=bS F es c*wq s c
def aAB(F:Nat)(es:List bI)(s:List Fr)(ds:List bI)(d:List Nat):Rat:=cR ds λe=>lJ F es s e.1*s0 e*dU F λf=>if bU e.1 f=d then lN s f else 0
theorem UR{F:Nat}{es:List bI}(R:uZ F es){s:List Fr}(hs:∀f∈s,cS f)(hl:s.length=F){k:Nat}{d:List Nat}(hd:d.sum=k+1):aAB F es s (lev es k) d=lJ F es s d:=by
 have e1:bS F es d=cR (lev es k) λe=>bS F es e.1*s0 e*kR F e.1 d:=by
  rw [NH R d,if_neg (λz=>by rw [z,sH] at hd;omega),<-UX λe he hk=>by rw [rR (R.len e he) Oo];grind];grind
 unfold aAB lJ;rw [e1];have e2:∀g:bI->Rat,cR (lev es k) g*wq s d=cR (lev es k) λe=>g e*wq s d:=λg=>by
  rw [Rat.mul_comm,<-qS];exact eD λe _=>by grind
 rw [e2];refine eD λe he=>?_;obtain ⟨he1,_⟩:=mS.mp he;have le:=R.len e he1;have e3:(dU F λf=>if bU e.1 f=d then lN s f else 0)*wq s e.1=kR F e.1 d*wq s d:=by
  unfold kR;rw [Rat.mul_comm,<-lP,Rat.mul_comm (dU F _),<-lP];refine cY λf hf=>?_;by_cases q:bU e.1 f=d
  ·rw [if_pos q,if_pos q,<-q,RU hs Oo Oo];grind
  ·rw [if_neg q,if_neg q];grind
 grind
def sy(es:List bI)(c:List Nat):List Fr:=(fQ es c).getD []
def fq(es:List bI)(c:List Nat)(k:Nat):Rat:=rv ((sy es c).getD k (0,1))
def U(p:Nat->Nat->Bool)(es:List bI)(F:Nat)(sh:List Fr):Nat->xI->Rat
 | 0,_=>0
 | n+1,s=>match s.2 with
  | some (k+1)=>if p k s.1.sum=true then 1 else 0
  | some 0=>dU F λj=>rv (sh.getD j (0,1))*U p es F sh n (come es (bU s.1 j))
  | none=>dU (sy es s.1).length λk=>fq es s.1 k*U p es F sh n (s.1,some k)
theorem OI{f g:Fr}(h1:0<f.2)(h2:0<g.2):0<(jX f g).2:=(eT (Int.mul_pos h1 h2)).pos
def tm(p:Nat->Nat->Bool)(es:List bI)(W:Nat)(c:List Nat):Rat:=dU W λk=>(if p k c.sum=true then 1 else 0)*fq es c (k+1)
def Vq(p:Nat->Nat->Bool)(es:List bI)(F W:Nat)(sh:List Fr):Nat->List Nat->Rat
 | 0,c=>tm p es W c
 | m+1,c=>tm p es W c+fq es c 0*dU F λj=>rv (sh.getD j (0,1))*Vq p es F W sh m (bU c j)
theorem BZ{F W M:Nat}{es:List bI}(R:xL F W M es){e:bI}(h:e∈es):sy es e.1=e.2:=by unfold sy;rw [xZ R.nd h];rfl
theorem HP:∀{c:List Int},(∀x∈c,0<=x)->∀x∈c,x<=c.sum
 | [],_,x,hx=>by cases hx
 | y::c,h,x,hx=>by
  have h1:=uQ (c:=c) λz hz=>h z (aH _ hz);rw [List.sum_cons];rcases aQ.mp hx with rfl | hx
  ·omega
  ·have:=HP (λz hz=>h z (aH _ hz)) x hx;have:=h y (aN ..);omega
theorem JY{n:Nat}{fs:List Fr}(h:nE n fs){k:Nat}(hk:fs[k]?=some (1,1)):∀i,i≠k->rv (fs.getD i (0,1))=0:=by
 obtain ⟨ns,h1,h2,h3,h4,rfl⟩:=h.ex;intro i hi;rw [aM] at hk;obtain ⟨x,hx,ex⟩:=fR.mp hk;have hxs:x=ns.sum:=by
  have e:=iQ (n:=x) (d:=ns.sum);rw [ex] at e;simp at e;exact e.symm
 rw [aS,aM];cases q:ns[i]? with
 | none=>exact jI
 | some y =>
  have hy:y=0:=by
   have nn:∀z∈ns,0<=z:=h2;have key:∀(l:List Int) (a b:Nat) (u v:Int),(∀z∈l,0<=z)->l[a]?=some u->l[b]?=some v->a≠b->u+v<=l.sum:=λl=>by
    induction l with
    | nil=>intro a b u v _ ha;simp at ha
    | cons z l ih =>
     intro a b u v hn ha hb nab;have hz:=hn z (aN ..);have hl:∀y∈l,0<=y:=λy hy=>hn y (aH _ hy);have one:∀(d:Nat) (t:Int),l[d]?=some t->t<=l.sum:=λd t ht=>HP hl t (aR ht);rw [List.sum_cons];cases a with
     | zero =>
      cases b with
      | zero=>exact absurd rfl nab
      | succ b =>
       have e1:z=u:=by simpa using ha
       have:=one b v (by simpa using hb);omega
     | succ a =>
      cases b with
      | zero =>
       have e1:z=v:=by simpa using hb
       have:=one a u (by simpa using ha);omega
      | succ b =>
       have:=ih a b u v hl (by simpa using ha) (by simpa using hb) Oo;omega
   have:=key ns i k y x nn q hx hi;have:=nn y (aR q);omega
  show rv (lw y ns.sum)=0;rw [hy,uS h3];exact jI
theorem mJ(f:Nat->Rat):∀n:Nat,dU (n+1) f=f 0+dU n λi=>f (i+1)
 | 0=>by rw [dM,eY,eY];grind
 | n+1=>by rw [dM,mJ f n,dM (n:=n)];grind
theorem VR(es:List bI)(c:List Nat):come es c=(c,vZ (sy es c)):=rfl
theorem UVs(p:Nat->Nat->Bool){F W M:Nat}{es:List bI}{sh:List Fr}(R:xL F W M es){e:bI}(he:e∈es){n2:Nat}(Y:Rat)
  (hY:fq es e.1 0≠0->∀n',n2<=n'->(dU F λj=>rv (sh.getD j (0,1))*U p es F sh n' (come es (bU e.1 j)))=Y):∀n,n2+2<=n->U p es F sh n (come es e.1)=tm p es W e.1+fq es e.1 0*Y:=by
 intro n hn;obtain ⟨c,fs⟩:=e;have es':sy es c=fs:=BZ R he;obtain ⟨h1,hsy⟩:=R.each _ he;have hsy:nE (1+W) fs:=hsy;have hl:=hsy.lenN;obtain ⟨n1,rfl⟩:∃n1,n=n1+2:=⟨n-2,Oo⟩;show U p es F sh (n1+2) (come es c)=tm p es W c+fq es c 0*Y;rw [VR,es'];have hY':fq es c 0≠0->∀n',n2<=n'->(dU F λj=>rv (sh.getD j (0,1))*U p es F sh n' (come es (bU c j)))=Y:=hY;cases ho:vZ fs with
 | none =>
  show (dU (sy es c).length λk=>fq es c k*U p es F sh (n1+1) (c,some k))=_;rw [es',hl,Nat.add_comm,mJ];have e0:fq es c 0*U p es F sh (n1+1) (c,some 0)=fq es c 0*Y:=by
   by_cases z:fq es c 0=0
   ·rw [z];grind
   ·rw [<-hY' z n1 Oo];rfl
  rw [e0];have e1:(dU W λi=>fq es c (i+1)*U p es F sh (n1+1) (c,some (i+1)))=tm p es W c:=by
   unfold tm;refine cY λi _=>?_;show fq es c (i+1)*(if p i c.sum=true then 1 else 0)=_;grind
  rw [e1];grind
 | some j =>
  have h1':=(uP ho).1;have alone:=JY hsy h1';have fj:fq es c j=1:=by
   unfold fq;rw [es',aS,h1'];exact sR
  have fi:∀i,i≠j->fq es c i=0:=λi hi=>by unfold fq;rw [es'];exact alone i hi
  have hj:j<1+W:=by rw [<-hl];exact (aL.mp h1').1
  cases j with
  | zero =>
   show (dU F λj=>rv (sh.getD j (0,1))*U p es F sh (n1+1) (come es (bU c j)))=_;rw [hY' (by rw [fj];grind) (n1+1) Oo,fj];have e1:tm p es W c=0:=by
    unfold tm;rw [cY (g:=λ_=>0) λi _=>by rw [fi (i+1) Oo];grind];exact kH W
   rw [e1];grind
  | succ k =>
   show (if p k c.sum=true then (1:Rat) else 0)=_;rw [fi 0 Oo];have e1:tm p es W c=if p k c.sum=true then 1 else 0:=by
    unfold tm;rw [CA (v:=k) Oo λi _ hik=>by rw [fi (i+1) Oo];grind];rw [fj];grind
   rw [e1];grind
theorem UV(p:Nat->Nat->Bool){F W M:Nat}{es:List bI}{sh:List Fr}(R:xL F W M es):∀(m n:Nat) (c:List Nat),c∈es.map (·.1)->M<=c.sum+m->2*m+3<=n->U p es F sh n (come es c)=Vq p es F W sh m c:=λm=>by
 have on:∀e∈es,fq es e.1 0≠0->∀j,j<F->bU e.1 j∈es.map (·.1)/\(bU e.1 j).sum=e.1.sum+1:=λe he hz j hj=>by
  obtain ⟨h1,hsy⟩:=R.each _ he;have hh:e.2.headD (0,1)≠(0,1):=λz=>hz (by
   unfold fq;rw [BZ R he,aS,<-List.head?_eq_getElem?,<-List.headD_eq_head?_getD,z];exact jI)
  exact ⟨R.fwd _ he hh j hj,iT Oo⟩
 induction m with
 | zero =>
  intro n c hc hm hn;obtain ⟨e,he,rfl⟩:=aU.mp hc;have hF:0<F\/F=0:=Oo;by_cases z:fq es e.1 0=0
  ·have:=UVs p (sh:=sh) R he (n2:=1) 0 (λh=>absurd z h) n Oo;rw [this,z];show tm p es W e.1+0*0=tm p es W e.1;grind
  ·rcases hF with hF | hF
   ·exfalso;obtain ⟨g1,g2⟩:=on e he z 0 hF;obtain ⟨e',he',q⟩:=aU.mp g1;have h3:=R.top _ he';rw [q] at h3;omega
   ·subst hF;have:=UVs p (sh:=sh) R he (n2:=1) 0 (λ_ n' _=>rfl) n Oo;rw [this];show tm p es W e.1+fq es e.1 0*0=tm p es W e.1;grind
 | succ m ih =>
  intro n c hc hm hn;obtain ⟨e,he,rfl⟩:=aU.mp hc;refine UVs p R he (n2:=2*m+3) _ (λz n' hn'=>?_) n Oo;refine cY λj hj=>?_;obtain ⟨g1,g2⟩:=on e he z j hj;rw [ih n' (bU e.1 j) g1 Oo hn']
theorem HV:∀{c:List Nat}{x:Nat},x∈c->x<=c.sum
 | a::c,x,h=>by
  rw [List.sum_cons];rcases aQ.mp h with rfl | h
  ·omega
  ·have:=HV h;omega
theorem vI{α β:Type}(m:List β)(f:α->β->Rat):∀l:List α,cR l (λa=>cR m (f a))=cR m λb=>cR l λa=>f a b
 | []=>by rw [eN,show (λb=>cR ([]:List α) λa=>f a b)=λ_=>(0:Rat) from rfl,oV]
 | a::l=>by rw [cH,vI m f l,show (λb=>cR (a::l) λa=>f a b)=λb=>f a b+cR l λa=>f a b from rfl,vL]
theorem UY{es:List bI}(nd:(es.map (·.1)).Nodup)(k:Nat):((lev es k).map (·.1)).Nodup:=nd.sublist (List.filter_sublist.map _)
theorem OS{F:Nat}{es:List bI}(R:uZ F es){s:List Fr}(hs:∀f∈s,cS f)(hl:s.length=F)(k:Nat)(G:List Nat->Rat) :
  cR (lev es (k+1)) (λd=>lJ F es s d.1*G d.1)=cR (lev es k) λe=>lJ F es s e.1*s0 e*dU F λf=>lN s f*G (bU e.1 f):=by
 have e1:cR (lev es (k+1)) (λd=>lJ F es s d.1*G d.1)=cR (lev es (k+1)) λd=>cR (lev es k) λe=>lJ F es s e.1*s0 e*dU F λf=>(if bU e.1 f=d.1 then 1 else 0)*(lN s f*G d.1):=by
  refine eD λd hd=>?_;rw [<-UR R hs hl (mS.mp hd).2];unfold aAB;rw [Rat.mul_comm,<-qS];refine eD λe _=>?_;have:(dU F λf=>(if bU e.1 f=d.1 then 1 else 0)*(lN s f*G d.1))=G d.1*dU F λf=>if bU e.1 f=d.1 then lN s f else 0:=by
   rw [<-lP];refine cY λf _=>?_;by_cases q:bU e.1 f=d.1
   ·rw [if_pos q,if_pos q];grind
   ·rw [if_neg q,if_neg q];grind
  rw [this];grind
 rw [e1,vI];refine eD λe he=>?_;rw [qS,xU];by_cases z:s0 e=0
 ·rw [z];grind
 congr 1;refine cY λf hf=>?_;have hb:bU e.1 f∈(lev es (k+1)).map (·.1):=(UZ R).mpr ⟨e,he,z,f,hf,rfl⟩;exact oW (UY R.nd _) hb λd=>lN s f*G d
theorem XO(p:Nat->Nat->Bool){F W M:Nat}{es:List bI}(R:uZ F es)(Rn:xL F W M es){s:List Fr}(hs:∀f∈s,cS f)(hl:s.length=F):∀(m k:Nat),cR (lev es k) (λe=>lJ F es s e.1*Vq p es F W s m e.1)=dU (m+1) λi=>cR (lev es (k+i)) λe=>lJ F es s e.1*tm p es W e.1
 | 0,k=>by rw [dM,eY];show _=0+cR (lev es k) _;rw [show Vq p es F W s 0=tm p es W from rfl];grind
 | m+1,k=>by
  have e1:cR (lev es k) (λe=>lJ F es s e.1*Vq p es F W s (m+1) e.1)=cR (lev es k) λe=>lJ F es s e.1*tm p es W e.1+lJ F es s e.1*s0 e*dU F λj=>lN s j*Vq p es F W s m (bU e.1 j):=by
   refine eD λe he=>?_;have h0:fq es e.1 0=s0 e:=by unfold fq s0 lN;rw [BZ Rn (mS.mp he).1]
   show lJ F es s e.1*(tm p es W e.1+fq es e.1 0*dU F λj=>lN s j*Vq p es F W s m (bU e.1 j))=_;rw [h0];grind
  rw [e1,vL,<-OS R hs hl,XO p R Rn hs hl m (k+1),mJ _ (m+1)];show _+_=cR (lev es k) _+_;congr 1;refine cY λi _=>?_;rw [show k+1+i=k+(i+1) by omega]
theorem HS{es:List bI}(g:bI->Rat):∀k:Nat,cR (low es k) g=dU k λi=>cR (lev es i) g
 | 0=>by rw [ON,eY]
 | k+1=>by rw [OO,dM,HS g k]
theorem aA6(p:Nat->Nat->Bool){F W M:Nat}{es:List bI}(R:uZ F es)(Rn:xL F W M es){s:List Fr}(hs:∀f∈s,cS f)(hl:s.length=F)(c1:lJ F es s (List.replicate F 0)=1):Vq p es F W s M (List.replicate F 0)=cR es λe=>lJ F es s e.1*tm p es W e.1:=by
 have h:=XO p R Rn hs hl M 0;have hall:low es (M+1)=es:=by
  unfold low;rw [List.filter_eq_self];exact λe he=>by have:=Rn.top e he;simp;omega
 obtain ⟨e0,r,rfl,h0⟩:=R.root;have l0:lev (e0::r) 0=[e0]:=by
  unfold lev;rw [List.filter_cons_of_pos (by rw [h0,sH];rfl)];congr 1;rw [List.filter_eq_nil_iff];intro e he;have nd:=R.nd;rw [aW,List.nodup_cons] at nd;simp only [decide_eq_true_eq];intro z;refine nd.1 (aU.mpr ⟨e,he,?_⟩);have le:=R.len e (aH _ he);rw [h0,List.eq_replicate_iff];exact ⟨le,λb hb=>by have:=HV hb;omega⟩
 rw [l0,cH,eN,h0,c1] at h;have h2:=HS (es:=e0::r) (λe=>lJ F (e0::r) s e.1*tm p (e0::r) W e.1) (M+1);rw [hall] at h2;rw [h2];simp only [Nat.zero_add] at h;rw [<-h];grind
abbrev lE:Fr:=(10^20-1,10^20)
def gZ(fs:List Fr)(k h:Nat):Fr:=if h=0 then gI (fs.take k) else kW (gI (fs.take k)) (jX (fs.getD k (0,1)) lE)
theorem oJ:cS lE:=⟨Dd,Dd⟩
theorem AR:Fn (10^20) 1 lE:=⟨oJ,10^20-1,by
 have:=pR (f:=lE) Dd;have e:((10^20:Nat):Rat)=((lE.2:Int):Rat):=(oK _).trans (by rfl);rw [e,this],Dd⟩
theorem HN:0<=rv lE/\rv lE<1:=by
 refine ⟨XD oJ Dd,?_⟩;have:=(XE (f:=lE) (g:=(1,1)) Dd Dd).mp Dd
 rwa [sR] at this
theorem aAG{n:Nat}{fs:List Fr}(h:nE n fs)(k j:Nat):Fn (LC*10^20) 16 (gZ fs k j):=by
 have low:=h.low;have h1:Fn LC 15 (gI (fs.take k)):=by
  obtain ⟨ns,h1,h2,h3,h4,rfl⟩:=h.ex;rw [<-List.map_take,lO h3];have st:=nK h2 k;have hf:=Fn.of (n:=(ns.take k).sum) (B:=1) h3 Oo;exact (hf.dvd (XW _ Oo Oo)).le Dd
 unfold gZ;by_cases hj:j=0
 ·rw [if_pos hj];exact (h1.up _).le Dd
 ·rw [if_neg hj];have h2:Fn LC 1 (fs.getD k (0,1)):=by
   by_cases hk:k<fs.length
   ·exact (h.fn _ (kD hk)).1
   ·rw [aS,gA Oo];exact (Fn.zero _).le Dd
  have h5:Fn (LC*10^20) (1*1) (jX (fs.getD k (0,1)) lE):=h2.mul AR;exact Fn.le ((h1.up (10^20)).add h5) Dd
theorem yI{n:Nat}{fs:List Fr}(h:nE n fs){k:Nat}(hk:k<fs.length)(nz:fs.getD k (0,1)≠(0,1))(j:Nat):QU (gZ fs k j)/\(gZ fs k j).1<(gZ fs k j).2/\drw fs (gZ fs k j)=k:=by
 have fn:=aAG h k j;have lowL:=fn.low;have low:=h.low;obtain ⟨ns,h1,h2,h3,h4,rfl⟩:=h.ex;rw [aA] at hk;have up:∀i,gI ((ns.map λx=>lw x ns.sum).take i)=lw (ns.take i).sum ns.sum:=λi=>by rw [<-List.map_take,lO h3]
 have upq:∀i,rv (gI ((ns.map λx=>lw x ns.sum).take i))=((ns.take i).sum:Rat)/(ns.sum:Rat):=λi=>by rw [up,vT h3]
 have hns:ns[k]?=some ns[k]:=aC hk;have n0:=h2 ns[k] (List.getElem_mem hk);have gk:(ns.map λx=>lw x ns.sum).getD k (0,1)=lw ns[k] ns.sum:=by rw [aS,aM,hns];rfl
 have np:0<ns[k]:=by
  rcases Int.lt_or_eq_of_le n0 with z | z
  ·exact z
  ·exfalso;refine nz ?_;rw [gk,<-z];exact uS h3
 have sk:(ns.take (k+1)).sum=(ns.take k).sum+ns[k]:=by
  rw [List.take_succ,hns,List.sum_append];simp
 have le1:=(nK h2 (k+1)).2;have p:(0:Rat)<(ns.sum:Rat):=tH h3;have pk:(0:Rat)<(ns[k]:Rat):=tH np;obtain ⟨θ,t0,t1,lv⟩:∃θ:Rat,0<=θ/\θ<1/\rv (gZ (ns.map λx=>lw x ns.sum) k j)=(((ns.take k).sum:Rat)+θ*(ns[k]:Rat))/(ns.sum:Rat):=by
  unfold gZ;by_cases hj:j=0
  ·exact ⟨0,by grind,by grind,by rw [if_pos hj,upq];grind⟩
  ·refine ⟨rv lE,HN.1,HN.2,?_⟩;rw [if_neg hj,gk,sS (by rw [up];exact (eT h3).pos) (OI (eT h3).pos oJ.pos),oF (eT h3).pos oJ.pos,upq,vT h3];grind
 have cmp:∀x y:Rat,x/(ns.sum:Rat)<y/(ns.sum:Rat)↔x<y:=λx y=>by
  have e1:x/(ns.sum:Rat)*(ns.sum:Rat)=x:=by grind
  have e2:y/(ns.sum:Rat)*(ns.sum:Rat)=y:=by grind
  constructor
  ·intro q;have:=Rat.mul_lt_mul_of_pos_right q p
   rwa [e1,e2] at this
  ·intro q;refine Rat.lt_of_mul_lt_mul_right (c:=(ns.sum:Rat)) ?_ (Rat.le_of_lt p)
   rwa [e1,e2]
 have th:θ*(ns[k]:Rat)<(ns[k]:Rat):=by have:=Rat.mul_lt_mul_of_pos_right t1 pk;grind
 have th0:0<=θ*(ns[k]:Rat):=lM t0 (Rat.le_of_lt pk);have hit:∀i,zK (gZ (ns.map λx=>lw x ns.sum) k j) (gI ((ns.map λx=>lw x ns.sum).take i))↔((ns.take k).sum:Rat)+θ*(ns[k]:Rat)<((ns.take i).sum:Rat):=λi=>by
  show _*_<_*_↔_;rw [XE lowL.pos (by rw [up];exact (eT h3).pos),lv,upq,cmp]
 have skq:((ns.take (k+1)).sum:Rat)=((ns.take k).sum:Rat)+(ns[k]:Rat):=by rw [sk,Rat.intCast_add]
 have isd:BM (ns.map λx=>lw x ns.sum) (gZ (ns.map λx=>lw x ns.sum) k j) k:=by
  refine ⟨by rw [aA];exact hk,?_,λi hi=>?_⟩
  ·show zK _ (gI (List.take (k+1) _));rw [hit,skq];grind
  ·show ¬zK _ (gI (List.take (i+1) _));rw [hit];have:=(nK (ns:=ns.take k) (λx hx=>h2 x (List.mem_of_mem_take hx)) (i+1)).2;rw [List.take_take,Nat.min_eq_left Oo] at this;have q:((ns.take (i+1)).sum:Rat)<=((ns.take k).sum:Rat):=Rat.intCast_le_intCast.mpr this;grind
 have one:(gZ (ns.map λx=>lw x ns.sum) k j).1<(gZ (ns.map λx=>lw x ns.sum) k j).2:=by
  have h4:=(hit ns.length).mpr (by
   rw [cT];have q:((ns.take (k+1)).sum:Rat)<=(ns.sum:Rat):=Rat.intCast_le_intCast.mpr le1;grind)
  rw [up,cT,FQ h3] at h4;have h5:(gZ (ns.map λx=>lw x ns.sum) k j).1*1<1*(gZ (ns.map λx=>lw x ns.sum) k j).2:=h4;omega
 have nn:0<=(gZ (ns.map λx=>lw x ns.sum) k j).1:=by
  have h4:¬zK (gZ (ns.map λx=>lw x ns.sum) k j) (gI ((ns.map λx=>lw x ns.sum).take 0)):=by
   rw [hit];have q:(0:Rat)<=((ns.take k).sum:Rat):=by have:=Rat.intCast_le_intCast.mpr (nK h2 k).1;simpa using this
   show ¬_<(((0:Int):Rat));have:(((0:Int):Rat))=0:=rfl;grind
  have h5:¬(gZ (ns.map λx=>lw x ns.sum) k j).1*1<0*(gZ (ns.map λx=>lw x ns.sum) k j).2:=h4;omega
 obtain ⟨z1,z2⟩:=fn.num Kk;exact ⟨⟨lowL,nn,Oo,bG z1 (aT (show 16*(LC*10^20)<2^100 by decide +kernel) (aV Dd Dd)),bG z2 (aT (show LC*10^20<2^100 by decide +kernel) (aV Dd Dd))⟩,one,isd.eq⟩
abbrev sQ0:Stmt:=(jJ (top 33) 0)
theorem cQ0:bR ["self","rule"] ["self","rule"] (aO sQ0):=⟨rfl,rfl,rfl,Kk,rfl,Kk,Kk⟩
abbrev sQ2:Stmt:=(jJ (top 33) 1)
theorem cQ2:bR ["self","counts","says"] ["self","counts"] (aO sQ2):=⟨rfl,rfl,rfl,Kk,rfl,Kk,Kk⟩
abbrev sQ4:Stmt:=(jJ (top 33) 2)
theorem cQ4:bR ["self","face"] ["self","face"] (aO sQ4):=⟨rfl,rfl,rfl,Kk,rfl,Kk,Kk⟩
abbrev sQ5:Stmt:=(jJ (top 33) 3)
theorem cQ5:bR ["self","share","counts"] ["self","share"] (aO sQ5):=⟨rfl,rfl,rfl,Kk,rfl,Kk,Kk⟩
abbrev sQ6:Stmt:=(jJ (top 33) 4)
theorem cQ6:bR ["self","word","now"] ["self","word"] (aO sQ6):=⟨rfl,rfl,rfl,Kk,rfl,Kk,Kk⟩
abbrev sQ1:Stmt:=(jJ (top 33) 5)
theorem cQ1:bR ["self"] ["self"] (aO sQ1):=⟨rfl,rfl,rfl,Kk,rfl,Kk,Kk⟩
abbrev sQ3:Stmt:=(jJ (top 33) 6)
theorem cQ3:bR ["self","place"] ["self"] (aO sQ3):=⟨rfl,rfl,rfl,Kk,rfl,Kk,Kk⟩
abbrev sQ7:Stmt:=(jJ (top 33) 7)
theorem cQ7:bR ["self"] ["self"] (aO sQ7):=⟨rfl,rfl,rfl,Kk,rfl,Kk,Kk⟩
abbrev sQ9:Stmt:=(jJ (top 33) 8)
theorem cQ9:bR ["self"] ["self"] (aO sQ9):=⟨rfl,rfl,rfl,Kk,rfl,Kk,Kk⟩
abbrev sQ8:Stmt:=(jJ (top 33) 9)
theorem cQ8:bR ["self"] ["self"] (aO sQ8):=⟨rfl,rfl,rfl,Kk,rfl,Kk,Kk⟩
structure Wt where
 a:Addr
 dx:Addr
 d:Addr
 t:Addr
 s:Addr
abbrev wF(W:Wt)(F:Nat):List (Str × V):=[("says_of",.ref W.d),("faces",.int (F:Int)),("told",.ref W.t),("stands",.ref W.s)]
theorem aB5(W:Wt)(F:Nat):(wF W F).lookup ("says_of" : Str)=some (.ref W.d):=rfl
theorem aB4(W:Wt)(F:Nat):(wF W F).lookup ("faces" : Str)=some (.int (F:Int)):=rfl
theorem OR(W:Wt)(F:Nat):(wF W F).lookup ("told" : Str)=some (.ref W.t):=rfl
theorem KC(W:Wt)(F:Nat):(wF W F).lookup ("stands" : Str)=some (.ref W.s):=rfl
structure WI(C:Addr)(H:Hp)(W:Wt)(F:Nat)(es:List bI):Prop where
 ins:H W.a=some (.ins C W.dx (wF W F))
 dic:∃kvs,QW H W.d kvs/\Paired (EnV H) kvs es
structure jT(C:Addr)(H:Hp)(W:Wt)(F:Nat)(es:List bI)(ts:List dS):Prop where
 wi:WI C H W F es
 told:∃xs,H W.t=some (.lst xs)/\aP H (ts.map rY) xs
 stds:∃xs,H W.s=some (.lst xs)/\aP H ((stands es F ts).map SR) xs
 ne:W.t≠W.s
def cP(S:List Addr)(H H':Hp):Prop:=∀b o,b ∉ S->H b=some o->H' b=some o
theorem cP.of{S:List Addr}{H H':Hp}(s:bF H H'):cP S H H':=λb o _ h=>s b o h
theorem cP.but{S:List Addr}{H H':Hp}{p:Addr}(s:aK p H H')(h:p∈S):cP S H H':=λb o hb e=>s.at (λz=>hb (z ▸ h)) e
theorem cP.trans{S:List Addr}{H H1 H2:Hp}(a:cP S H H1)(b:cP S H1 H2):cP S H H2:=λc o hc h=>b c o hc (a c o hc h)
theorem cP.mono{S S':List Addr}{H H':Hp}(a:cP S H H')(h:∀x∈S,x∈S'):cP S' H H':=λc o hc e=>a c o (λz=>hc (h c z)) e
theorem cP.t{S:List Addr}{H H':Hp}(a:cP S H H')(h:∀b∈S,∀xs,H b≠some (.tup xs)):cG H H':=λb xs e=>a b _ (λz=>h b z xs e) e
theorem WI.keep{C:Addr}{H H':Hp}{W:Wt}{F:Nat}{es:List bI}(w:WI C H W F es)(t:cG H H')(h1:∀o,H W.a=some o->H' W.a=some o)(h2:∀o,H W.d=some o->H' W.d=some o):WI C H' W F es:=by
 obtain ⟨kvs,⟨o,e⟩,p⟩:=w.dic;exact ⟨h1 _ w.ins,kvs,⟨o,h2 _ e⟩,vV t p⟩
theorem jT.keep{C:Addr}{H H':Hp}{W:Wt}{F:Nat}{es:List bI}{ts:List dS}(w:jT C H W F es ts)(t:cG H H')(h1:∀o,H W.a=some o->H' W.a=some o)(h2:∀o,H W.d=some o->H' W.d=some o)(h3:∀o,H W.t=some o->H' W.t=some o)(h4:∀o,H W.s=some o->H' W.s=some o):jT C H' W F es ts:=by
 obtain ⟨xs,e1,r1⟩:=w.told;obtain ⟨ys,e2,r2⟩:=w.stds;exact ⟨w.wi.keep t h1 h2,⟨xs,h3 _ e1,r1.flat t (jO _)⟩,⟨ys,h4 _ e2,r2.flat t (lZ _)⟩,w.ne⟩
theorem jT.same{C:Addr}{H H':Hp}{W:Wt}{F:Nat}{es:List bI}{ts:List dS}(w:jT C H W F es ts)(s:bF H H'):jT C H' W F es ts:=w.keep s.t (λo h=>s _ _ h) (λo h=>s _ _ h) (λo h=>s _ _ h) (λo h=>s _ _ h)
theorem WI.same{C:Addr}{H H':Hp}{W:Wt}{F:Nat}{es:List bI}(w:WI C H W F es)(s:bF H H'):WI C H' W F es:=w.keep s.t (λo h=>s _ _ h) (λo h=>s _ _ h)
theorem WI.list{C:Addr}{H H':Hp}{W:Wt}{F:Nat}{es:List bI}(w:WI C H W F es){l:Addr}{xs:List V}(b:aK l H H')(hl:H l=some (.lst xs)):WI C H' W F es:=by
 obtain ⟨kvs,⟨o,e⟩,p⟩:=w.dic;exact w.keep (b.t hl) (λo' h=>b.at (pU h hl (by rw [w.ins] at h;cases h;intro z;cases z)) h) (λo' h=>b.at (pU h hl (by rw [e] at h;cases h;intro z;cases z)) h)
theorem jT.last{C:Addr}{H:Hp}{W:Wt}{F:Nat}{es:List bI}{ts:List dS}(w:jT C H W F es ts):∃xs v,H W.s=some (.lst xs)/\BJ xs (-1)=some v/\bO H (SR (stand es F ts)) v:=by
 obtain ⟨xs,e,r⟩:=w.stds;obtain ⟨v,hv,rv⟩:=aP.atX r (CC es F ts);have lx:xs.length=ts.length+1:=by rw [r.len,aA,qC]
 refine ⟨xs,v,e,?_,rv⟩;have hix:xB xs.length (-1)=some ts.length:=by
  unfold xB;rw [if_neg Dd,if_pos Oo];congr 1;omega
 unfold BJ;rw [hix];exact hv
theorem aCd(fs:List Fr):fs.map fK=(fs.map λf=>[f.1,f.2]).map cD:=by
 rw [List.map_map];rfl
theorem aCc(fs:List Fr):decide ([(1:Int),1]∈fs.map λf=>[f.1,f.2])=decide (((1:Int),(1:Int))∈fs):=by
 rw [decide_eq_decide,aU];constructor
 ·rintro ⟨f,hf,e⟩;injection e with e1 e2;injection e2 with e2 _;have:f=(1,1):=by cases f;simp at e1 e2;rw [e1,e2]
  rw [<-this];exact hf
 ·intro h;exact ⟨_,h,rfl⟩
theorem tyU{K:PySem.W.Frag}{H:Hp}{l:Addr}{xs:List V}(h:H l=some (.tup xs)):tyV K "tuple" (.ref l) H:=.inr (.inl ⟨rfl,.inr ⟨xs,h⟩⟩)
@[irreducible] def TH:V->List V->Hp->VK->Prop:=aBO
theorem XM{X:Cx}:YE X "list.pop" TH:=by unfold TH;exact aAD
theorem ppL{H:Hp}{l:Addr}{xs:List V}{y:V}{Q:VK}(h:H l=some (.lst (xs++[y])))(k:∀H',H' l=some (.lst xs)->aK l H H'->Q y H'):TH (.ref l) [] H Q:=by
 unfold TH;refine ⟨l,xs++[y],y,rfl,rfl,h,by rw [bK,List.length_singleton,Nat.add_sub_cancel,List.getElem?_append_right (aG _),Nat.sub_self];rfl,?_⟩;rw [List.dropLast_concat];exact k _ bJ aK.self
theorem aP.snoc{H:Hp}{α:Type}{g:α->PyData}{as:List α}{a:α}{xs:List V}(h:aP H ((as++[a]).map g) xs):∃ys y,xs=ys++[y]/\aP H (as.map g) ys/\bO H (g a) y:=by
 rw [bL] at h
 induction as generalizing xs with
 | nil =>
  unfold aP at h;obtain ⟨x,xs',rfl,h1,h2⟩:=h;unfold aP at h2;subst h2;exact ⟨[],x,rfl,aP.nil,h1⟩
 | cons b as ih =>
  rw [aW,List.cons_append] at h;unfold aP at h;obtain ⟨x,xs',rfl,h1,h2⟩:=h;obtain ⟨ys,y,rfl,r1,r2⟩:=ih h2;exact ⟨x::ys,y,rfl,aP.cons h1 r1,r2⟩
@[irreducible] def oA(C:Addr):Sp:=λvs H Q _=>∃(W:Wt) (F:Nat) (es:List bI) (ts:List dS),vs=[.ref W.a]/\jT C H W F es ts/\Q (.str (pM (stand es F ts).2)) H
theorem nZ{C:Addr}{H:Hp}{Q:VK}{E:XK}{W:Wt}{F:Nat}{es:List bI}{ts:List dS}(h:jT C H W F es ts)(q:Q (.str (pM (stand es F ts).2)) H):oA C [.ref W.a] H Q E:=by unfold oA;exact ⟨W,F,es,ts,rfl,h,q⟩
@[irreducible] def lA(C:Addr):Sp:=λvs H Q _=>∃(W:Wt) (F:Nat) (es:List bI) (ts:List dS),vs=[.ref W.a]/\jT C H W F es ts/\∀v,bO H (nB (stand es F ts).1) v->Q v H
theorem kA{C:Addr}{H:Hp}{Q:VK}{E:XK}{W:Wt}{F:Nat}{es:List bI}{ts:List dS}(h:jT C H W F es ts)(q:∀v,bO H (nB (stand es F ts).1) v->Q v H):lA C [.ref W.a] H Q E:=by unfold lA;exact ⟨W,F,es,ts,rfl,h,q⟩
@[irreducible] def sN(C:Addr):Sp:=λvs H Q _=>∃(W:Wt) (F:Nat) (es:List bI) (ts:List dS),vs=[.ref W.a]/\jT C H W F es ts/\Q (YK (stand es F ts).2) H
theorem qT{C:Addr}{H:Hp}{Q:VK}{E:XK}{W:Wt}{F:Nat}{es:List bI}{ts:List dS}(h:jT C H W F es ts)(q:Q (YK (stand es F ts).2) H):sN C [.ref W.a] H Q E:=by unfold sN;exact ⟨W,F,es,ts,rfl,h,q⟩
@[irreducible] def kJ(C:Addr):Sp:=λvs H Q _=>∃(W:Wt) (F:Nat) (es:List bI) (ts:List dS),vs=[.ref W.a]/\jT C H W F es ts/\ts.length<=100/\∀D xs H',H D=none->H' D=some (.lst xs)->aP H' (ts.map rY) xs->bF H H'->Q (.ref D) H'
theorem mK{C:Addr}{H:Hp}{Q:VK}{E:XK}{W:Wt}{F:Nat}{es:List bI}{ts:List dS}(h:jT C H W F es ts)(hl:ts.length<=100)(q:∀D xs H',H D=none->H' D=some (.lst xs)->aP H' (ts.map rY) xs->bF H H'->Q (.ref D) H'):kJ C [.ref W.a] H Q E:=by unfold kJ;exact ⟨W,F,es,ts,rfl,h,hl,q⟩
@[irreducible] def jB(C:Addr):Sp:=λvs H Q _=>∃(W:Wt) (F:Nat) (es:List bI) (ts:List dS) (x:Str),vs=[.ref W.a,.str x]/\jT C H W F es ts/\pM (stand es F ts).2=x/\x ≠ "" /\ Q .non H
theorem tX{C:Addr}{H:Hp}{Q:VK}{E:XK}{W:Wt}{F:Nat}{es:List bI}{ts:List dS}{x:Str}(h:jT C H W F es ts)(e:pM (stand es F ts).2=x)(n:x ≠ "")(q:Q .non H):jB C [.ref W.a,.str x] H Q E:=by unfold jB;exact ⟨W,F,es,ts,x,rfl,h,e,n,q⟩
@[irreducible] def kI(C:Addr):Sp:=λvs H Q _=>∃(W:Wt) (F:Nat) (es:List bI) (x:V) (cs:List Nat) (fs:List Fr) (xs:List V),vs=[.ref W.a,x]/\WI C H W F es/\bO H (nB cs) x/\fQ es cs=some fs/\fs.length<=64/\H W.s=some (.lst xs)/\xs.length<=100 /\
 ∀v H',H' W.s=some (.lst (xs++[v]))->bO H' (SR (come es cs)) v->aK W.s H H'->Q .non H'
theorem vN{C:Addr}{H:Hp}{Q:VK}{E:XK}{W:Wt}{F:Nat}{es:List bI}{x:V}{cs:List Nat}{fs:List Fr}{xs:List V}(h:WI C H W F es)(r:bO H (nB cs) x)(sa:fQ es cs=some fs)(lf:fs.length<=64)(hs:H W.s=some (.lst xs))(lx:xs.length<=100)
  (q:∀v H',H' W.s=some (.lst (xs++[v]))->bO H' (SR (come es cs)) v->aK W.s H H'->Q .non H'):kI C [.ref W.a,x] H Q E:=by unfold kI;exact ⟨W,F,es,x,cs,fs,xs,rfl,h,r,sa,lf,hs,lx,q⟩
@[irreducible] def pB(C:Addr):Sp:=λvs H Q _=>∃(W:Wt) (F:Nat) (es:List bI) (ts:List dS) (d:dS),vs=[.ref W.a]/\jT C H W F es (ts++[d])/\∀H',jT C H' W F es ts->cP [W.t,W.s] H H'->Q .non H'
theorem JO{C:Addr}{H:Hp}{Q:VK}{E:XK}{W:Wt}{F:Nat}{es:List bI}{ts:List dS}{d:dS}(h:jT C H W F es (ts++[d]))(q:∀H',jT C H' W F es ts->cP [W.t,W.s] H H'->Q .non H'):pB C [.ref W.a] H Q E:=by unfold pB;exact ⟨W,F,es,ts,d,rfl,h,q⟩
@[irreducible] def pA(C:Addr):Sp:=λvs H Q _=>∃(W:Wt) (F nW M:Nat) (es:List bI) (ts:List dS) (i:Nat),vs=[.ref W.a,.int (i:Int)]/\jT C H W F es ts/\xL F nW M es/\F<=4/\nW<=4/\Rt es F ts/\UP F (stand es F ts) (.look i)/\ts.length<=40/\∀H',jT C H' W F es (ts++[.look i])->cP [W.t,W.s] H H'->Q .non H'
theorem JJ{C:Addr}{H:Hp}{Q:VK}{E:XK}{W:Wt}{F nW M:Nat}{es:List bI}{ts:List dS}{i:Nat}(h:jT C H W F es ts)(ok:xL F nW M es)(hF:F<=4)(hW:nW<=4)(rt:Rt es F ts)(okd:UP F (stand es F ts) (.look i))(hl:ts.length<=40)(q:∀H',jT C H' W F es (ts++[.look i])->cP [W.t,W.s] H H'->Q .non H'):pA C [.ref W.a,.int (i:Int)] H Q E:=by unfold pA;exact ⟨W,F,nW,M,es,ts,i,rfl,h,ok,hF,hW,rt,okd,hl,q⟩
@[irreducible] def sO(C:Addr):Sp:=λvs H Q _=>∃(W:Wt) (F nW M:Nat) (es:List bI) (ts:List dS) (y:V) (l:Fr),vs=[.ref W.a,y]/\jT C H W F es ts/\bO H (fK l) y/\xL F nW M es/\F<=4/\nW<=4/\Rt es F ts/\UP F (stand es F ts) (.lot l)/\ts.length<=40/\∀H',jT C H' W F es (ts++[.lot l])->cP [W.t,W.s] H H'->Q .non H'
theorem MX{C:Addr}{H:Hp}{Q:VK}{E:XK}{W:Wt}{F nW M:Nat}{es:List bI}{ts:List dS}{y:V}{l:Fr}(h:jT C H W F es ts)(r:bO H (fK l) y)(ok:xL F nW M es)(hF:F<=4)(hW:nW<=4)(rt:Rt es F ts)(okd:UP F (stand es F ts) (.lot l))(hl:ts.length<=40)(q:∀H',jT C H' W F es (ts++[.lot l])->cP [W.t,W.s] H H'->Q .non H'):sO C [.ref W.a,y] H Q E:=by unfold sO;exact ⟨W,F,nW,M,es,ts,y,l,rfl,h,r,ok,hF,hW,rt,okd,hl,q⟩
@[irreducible] def oY(C:Addr):Sp:=λvs H Q _=>∃(x dx:Addr) (r:V) (F nW M:Nat) (es:List bI),vs=[.ref x,r]/\H x=some (.ins C dx [])/\bO H (AJ es) r/\xL F nW M es/\F<=4/\nW<=4/\∀d t s H',H d=none->H t=none->H s=none->jT C H' ⟨x,dx,d,t,s⟩ F es []->aK x H H'->Q .non H'
theorem JF{C:Addr}{H:Hp}{Q:VK}{E:XK}{x dx:Addr}{r:V}{F nW M:Nat}{es:List bI}(h:H x=some (.ins C dx []))(rr:bO H (AJ es) r)(ok:xL F nW M es)(hF:F<=4)(hW:nW<=4)(q:∀d t s H',H d=none->H t=none->H s=none->jT C H' ⟨x,dx,d,t,s⟩ F es []->aK x H H'->Q .non H'):oY C [.ref x,r] H Q E:=by unfold oY;exact ⟨x,dx,r,F,nW,M,es,rfl,h,rr,ok,hF,hW,q⟩
section
theorem oQ3(F:iH K "due" "Watch.due" sQ3 f fd)(T:jK K mg c):dI P w K mg base dQ 1 f fd ["self"] (oA c.Watch):=by
 refine F.oky cQ3 λvs H Q E h=>?_;unfold oA at h;obtain ⟨W,F,es,ts,rfl,wa,q⟩:=h;refine ⟨rfl,λcdv A outer s hr=>?_⟩;have O:=T.w_Watch;obtain ⟨xs,v,e,hv,rv⟩:=wa.last;obtain ⟨a,x,y,rfl,ha,rx,ry⟩:=EZ rv;cases NR ry;refine ⟨_,(aJ (bN (i:=1) cQ3.nd rfl (Or.inl rfl) (bH aZ (bH aZ (fU K (aE 0)) (BS vF aF) (λ_ _=>rfl)) aF (λ_ _=>rfl)))
  (aJ (gY (eB aAx (aE 1) EF (nomark _)) (aX (cC dL)) eQ)
  (aX (cC (vE (eB oI (aE 1) (jV (v:=.int 0) rfl T.g_LOOKS_ON ⟨_,rfl⟩) (nomark _)) dL dL))))),?_⟩
 refine ⟨_,rfl,?_⟩;refine qJ O (by simp) wa.wi.ins (KC W F) ?_;refine ⟨_,rfl,?_⟩;refine lF e hv ?_;refine jR ha rfl ?_;generalize (stand es F ts).2=o at *;cases o with
 | none=>exact ⟨_,rfl,rfl,_,rfl,lI q⟩
 | some j =>
  refine ⟨_,rfl,rfl,_,rfl,kY ?_⟩;refine ⟨_,rfl,rfl,_,rfl,?_⟩;cases j with
  | zero=>exact lI q
  | succ j=>exact qG (λz=>by injection z with z;exact absurd z Oo) (λ_=>q)
theorem oQ7(F:iH K "seen" "Watch.seen" sQ7 f fd)(T:jK K mg c):dI P w K mg base dQ 1 f fd ["self"] (lA c.Watch):=by
 refine F.oky cQ7 λvs H Q E h=>?_;unfold lA at h;obtain ⟨W,F,es,ts,rfl,wa,q⟩:=h;refine ⟨rfl,λcdv A outer s hr=>?_⟩;have O:=T.w_Watch;obtain ⟨xs,v,e,hv,rv⟩:=wa.last;obtain ⟨a,x,y,rfl,ha,rx,ry⟩:=EZ rv;refine ⟨_,(aX (cC (bH aZ (bH aZ (fU K (aE 0)) (BS vF aF) (λ_ _=>rfl)) aF (λ_ _=>rfl)))),?_⟩;refine ⟨_,rfl,?_⟩;refine qJ O (by simp) wa.wi.ins (KC W F) ?_;refine ⟨_,rfl,?_⟩;refine lF e hv ?_;refine jR ha rfl ?_;exact q _ rx
theorem oQ9(F:iH K "way" "Watch.way" sQ9 f fd)(T:jK K mg c)(FQ3:tS P w K mg base 1 c.Watch "due" ["self"] (oA c.Watch)):dI P w K mg base dQ 2 f fd ["self"] (sN c.Watch):=by
 refine F.oky cQ9 λvs H Q E h=>?_;unfold sN at h;obtain ⟨W,F,es,ts,rfl,wa,q⟩:=h;refine ⟨rfl,λcdv A outer s hr=>?_⟩;have O:=T.w_Watch;obtain ⟨xs,v,e,hv,rv⟩:=wa.last;obtain ⟨a,x,y,rfl,ha,rx,ry⟩:=EZ rv;cases NR ry;refine ⟨_,(aX (cC (vE (eB vY (eR FQ3 T.w_Watch.cls (hr.mono Dd) (aE 0)) dL (nomark _)) EF (bY FK (bH aZ (bH aZ (fU K (aE 0)) (BS vF aF) (λ_ _=>rfl)) aF (λ_ _=>rfl)) aF)))),?_⟩;refine ⟨_,rfl,W.a,W.dx,_,rfl,wa.wi.ins,rfl,?_⟩;refine nZ wa ?_;refine ⟨rfl,_,rfl,?_⟩;generalize (stand es F ts).2=o at *
 match o with
 | none=>exact lI q
 | some 0=>exact lI q
 | some (j+1) =>
  refine kY ?_;refine ⟨_,rfl,?_⟩;refine qJ O (by simp) wa.wi.ins (KC W F) ?_;refine ⟨_,rfl,?_⟩;refine lF e hv ?_;refine jR ha rfl ?_;refine ⟨_,_,rfl,rfl,?_⟩;have:(((j+1:Nat):Int)-1)=(j:Int):=Oo;show Q (.int (((j+1:Nat):Int)-1)) H;rw [this];exact q
theorem oQ8(F:iH K "trail" "Watch.trail" sQ8 f fd)(T:jK K mg c):dI P w K mg base dQ 1 f fd ["self"] (kJ c.Watch):=by
 refine F.oky cQ8 λvs H Q E h=>?_;unfold kJ at h;obtain ⟨W,F,es,ts,rfl,wa,hl,q⟩:=h;refine ⟨rfl,λcdv A outer s hr=>?_⟩;have O:=T.w_Watch;obtain ⟨xs,e,r⟩:=wa.told;refine ⟨_,(aX (cC (iY sC (by rfl) T.b_list Kk (aI (fU K (aE 0)) aD)))),?_⟩;refine ⟨_,rfl,?_⟩;refine qJ O (by simp) wa.wi.ins (OR W F) ?_;refine ⟨W.t,xs,rfl,.inl (fT.of e),λl hl'=>?_⟩;have sl:=bF.upd (o:=.lst xs) hl';exact q l xs _ hl' bJ (r.same sl) sl
theorem oQ6(F:iH K "refuse_unless" "Watch.refuse_unless" sQ6 f fd)(T:jK K mg c)(FQ3:tS P w K mg base 1 c.Watch "due" ["self"] (oA c.Watch)):dI P w K mg base dQ 2 f fd ["self","word"] (jB c.Watch):=by
 refine F.oky cQ6 λvs H Q E h=>?_;unfold jB at h;obtain ⟨W,F,es,ts,x,rfl,wa,he,hn,q⟩:=h;refine ⟨rfl,λcdv A outer s hr=>?_⟩;have O:=T.w_Watch;refine ⟨_,(aJ (bN (i:=2) cQ6.nd rfl (Or.inl rfl) (eR FQ3 T.w_Watch.cls (hr.mono Dd) (aE 0)))
  (aJ (gY (eB oI (aE 2) dL (nomark _)) (aX qM) eQ)
  (aX (gY (eB vY (aE 2) (aE 1) (nomark _)) (aX qM) eQ)))),?_⟩
 refine ⟨_,rfl,W.a,W.dx,_,rfl,wa.wi.ins,rfl,?_⟩;refine nZ wa ?_;rw [he];refine ⟨_,rfl,rfl,_,rfl,?_⟩;refine qG (λz=>absurd (by injection z) hn) (λ_=>?_);refine ⟨_,rfl,_,rfl,rfl,_,rfl,?_⟩;exact HY (λz=>absurd rfl z) (λ_=>q)
theorem oQ2(F:iH K "come_to" "Watch.come_to" sQ2 f fd)(T:jK K mg c):dI P w K mg base dQ 1 f fd ["self","counts"] (kI c.Watch):=by
 refine F.oky cQ2 λvs H Q E h=>?_;unfold kI at h;obtain ⟨W,F,es,x,cs,fs,xs,rfl,wi,rx,sa,lf,hs,lx,q⟩:=h;refine ⟨rfl,λcdv A outer s hr=>?_⟩;have O:=T.w_Watch;obtain ⟨kvs,fz,pr⟩:=wi.dic;obtain ⟨v,hv,rv⟩:=(zU pr).2 fs sa;obtain ⟨a,vs,rfl,ha,rvs⟩:=qE rv;obtain ⟨ax,rfl,hax⟩:=iR rx;refine ⟨_,(aJ (bN (i:=2) cQ2.nd rfl (Or.inl rfl) (iN hr.u1 (fU K (aE 0)) (aE 1)))
  (aX (fA (qO PySem.F.plainAttrs_list PySem.F.slot_list_append PySem.F.type_list_append oM (fU K (aE 0)) (aI (dO (aI (aE 1) (aI (vE (eB (aAy K hr.units) (jV (v:=.ref c.ONE) rfl T.g_ONE rfl) (aE 2) (by with_unfolding_all rfl)) (qO PySem.F.plainAttrs_tuple PySem.F.slot_tuple_index PySem.F.type_tuple_index (UT K hr.units) (aE 2) (aI (jV (v:=.ref c.ONE) rfl T.g_ONE rfl) aD)) EF) aD))) aD))))),?_⟩
 refine ⟨_,rfl,?_⟩;refine qJ O (by simp) wi.ins (aB5 W F) ?_;refine ⟨_,rfl,?_⟩;refine dgZ (c:=ci cs) fz (by rw [iS];exact hax) hv ?_;refine ⟨_,rfl,?_⟩;refine qJ O (by simp) wi.ins (KC W F) ?_;refine ⟨QY hs,?_⟩;have rK:jG K H (cD [1,1]) (.ref c.ONE):=jG.tup (nO T.o_ONE) (fL.ints [1,1]);have done:∀j,j=vZ fs->CO [V.ref ax,plV j] H λv H'=>NN (.ref W.s) [v] H' λ_ H'=>Q .non H':=λj hj=>by
  refine pK (by show 2<=64;decide) λq1 H1 hq1 e1 s1=>?_;refine DY (s1 _ _ hs) Oo λH2 e2 b2=>?_;have t2:=b2.t (s1 _ _ hs);refine q (.ref q1) H2 e2 ?_ (s1.but.trans b2);have ec:come es cs=(cs,j):=by unfold come;rw [sa,hj];rfl
  rw [ec];exact bO.tup (t2 _ _ e1) (aP.cons (rx.flat (s1.t.trans t2) (kS _)) (aP.cons (by
   have:bO H2 (LQ j) (plV j):=FI j;exact this) aP.nil))
 refine ⟨_,rfl,_,rfl,?_⟩;have rcs:aP H ((fs.map λf=>[f.1,f.2]).map cD) vs:=by rw [<-aCd];exact rvs
 refine riT (cs:=fs.map λf=>[f.1,f.2]) (c:=[1,1]) (.inr (fS.of ha)) rcs rK ?_;rw [if_neg Dd,aCc];refine ⟨_,rfl,?_⟩;cases ho:vZ fs with
 | none =>
  rw [bX (JZ ho)];exact kY (done none ho.symm)
 | some j =>
  obtain ⟨h1,h2⟩:=uP ho;rw [bP (aR h1)];refine lI ⟨_,rfl,tyU ha,?_⟩;refine aDA (cs:=fs.map λf=>[f.1,f.2]) (c:=[1,1]) (j:=j) ha rcs.k rK (by rw [aM,h1];rfl) (λi hi z=>?_) ?_
  ·rw [aM] at z;obtain ⟨g,hg,ge⟩:=fR.mp z;injection ge with g1 g2;injection g2 with g2 _;exact h2 i hi (by rw [hg];congr 1;exact Prod.ext g1 g2)
  exact done (some j) ho.symm
theorem oQ1(F:iH K "back" "Watch.back" sQ1 f fd)(T:jK K mg c):dI P w K mg base dQ 1 f fd ["self"] (pB c.Watch):=by
 refine F.oky cQ1 λvs H Q E h=>?_;unfold pB at h;obtain ⟨W,F,es,ts,d,rfl,wa,q⟩:=h;refine ⟨rfl,λcdv A outer s hr=>?_⟩;have O:=T.w_Watch;obtain ⟨xs,e1,r1⟩:=wa.told;obtain ⟨ys,e2,r2⟩:=wa.stds;obtain ⟨xs,x,rfl,r1,rx⟩:=aP.snoc r1;rw [nN] at r2;obtain ⟨ys,y,rfl,r2,ry⟩:=aP.snoc r2;refine ⟨_,(aJ (gY (eB oI (eC fY (by rfl) T.b_len Kk (aI (fU K (aE 0)) aD)) aF (nomark _)) (aX qM) eQ)
  (aJ (fA (MC PySem.F.plainAttrs_list PySem.F.slot_list_pop PySem.F.type_list_pop XM (fU K (aE 0))))
  (aX (fA (MC PySem.F.plainAttrs_list PySem.F.slot_list_pop PySem.F.type_list_pop XM (fU K (aE 0))))))),?_⟩
 refine ⟨_,rfl,?_⟩;refine qJ O (by simp) wa.wi.ins (OR W F) ?_;refine XF e1 ?_;refine ⟨rfl,_,rfl,?_⟩;refine qG (λz=>absurd z (by intro z;injection z with z;rw [bK] at z;simp at z;omega)) (λ_=>?_);refine ⟨_,rfl,?_⟩;refine qJ O (by simp) wa.wi.ins (OR W F) ?_;refine ⟨QY e1,?_⟩;refine ppL e1 λH1 e3 b1=>?_;have w1:=wa.wi.list b1 e1;have e4:=b1.at (Ne.symm wa.ne) e2;refine ⟨_,rfl,?_⟩;refine qJ O (by simp) w1.ins (KC W F) ?_;refine ⟨QY e4,?_⟩;refine ppL e4 λH2 e5 b2=>?_;have w2:=w1.list b2 e4;have t2:=(b1.t e1).trans (b2.t e4);refine q H2 ⟨w2,⟨xs,b2.at wa.ne e3,r1.flat t2 (jO _)⟩,⟨ys,e5,r2.flat t2 (lZ _)⟩,wa.ne⟩ ?_;exact (cP.but b1 (by simp)).trans (cP.but b2 (by simp))
end
section
theorem oQ4(F:iH K "look" "Watch.look" sQ4 f fd)(T:jK K mg c)(FQ6:tS P w K mg base 2 c.Watch "refuse_unless" ["self","word"] (jB c.Watch))(FQ30:gT dQ P w K mg base 2 "is_face" ["faces","thing"] rD)
  (FQ2:tS P w K mg base 1 c.Watch "come_to" ["self","counts"] (kI c.Watch)) (FQ40:gT dQ P w K mg base 1 "one_more" ["counts","face"] iK) (FQ7:tS P w K mg base 1 c.Watch "seen" ["self"] (lA c.Watch)):dI P w K mg base dQ 3 f fd ["self","face"] (pA c.Watch):=by
 refine F.oky cQ4 λvs H Q E h=>?_;unfold pA at h;obtain ⟨W,F,nW,M,es,ts,i,rfl,wa,ok,hF,hW,rt,okd,hl,q⟩:=h;refine ⟨rfl,λcdv A outer s hr=>?_⟩;have O:=T.w_Watch;have ir:=rt.inR ok hW;have ir2:=GX ok hW ir okd;obtain ⟨fs2,he2,sa2,sy2,_,_⟩:=ir2.ex;have d0:pM (stand es F ts).2 = "look" := by rw [okd.1];rfl
 refine ⟨_,(aJ (fA (sL FQ6 T.w_Watch.cls (hr.mono Dd) (aE 0) (aI dL aD)))
  (aJ (gY (nI (mF (bW FQ30 (hr.mono Dd) (aI (fU K (aE 0)) (aI (aE 1) aD))))) (aX qM) eQ)
  (aJ (fA (sL FQ2 T.w_Watch.cls (hr.mono Dd) (aE 0) (aI (bW FQ40 (hr.mono Dd) (aI (eR FQ7 T.w_Watch.cls (hr.mono Dd) (aE 0)) (aI (aE 1) aD))) aD)))
  (aX (fA (qO PySem.F.plainAttrs_list PySem.F.slot_list_append PySem.F.type_list_append oM (fU K (aE 0)) (aI (dO (aI dL (aI (aE 1) aD))) aD))))))),?_⟩
 refine ⟨_,rfl,W.a,W.dx,_,rfl,wa.wi.ins,rfl,?_⟩;refine tX wa d0 Dd ?_;refine ⟨_,rfl,?_⟩;refine qJ O (by simp) wa.wi.ins (aB4 W F) ?_;refine ⟨_,rfl,?_⟩;refine JN (bO.int _) ?_;have ef:FS F (.int (i:Int))=true:=by
  show (decide (0<=(i:Int))&&decide ((i:Int)<(F:Int)))=true;rw [bP Oo,bP (by have:=okd.2;omega)];rfl
 rw [ef];refine ⟨_,rfl,kY ?_⟩;refine ⟨_,rfl,W.a,W.dx,_,rfl,wa.wi.ins,rfl,?_⟩;refine ⟨_,rfl,W.a,W.dx,_,rfl,wa.wi.ins,rfl,?_⟩;refine kA wa λv rv=>?_;refine ⟨_,rfl,?_⟩;refine pQ rv (by rw [ir.len];exact okd.2) (by rw [ir.len];omega) λv1 H1 s1 r1=>?_;have wa1:=wa.same s1;obtain ⟨ys,e2,r2⟩:=wa1.stds;have ly:ys.length=ts.length+1:=by rw [r2.len,aA,qC]
 refine vN wa1.wi r1 sa2 (by rw [sy2.lenN];omega) e2 Oo λv2 H2 e3 r3 b2=>?_;obtain ⟨xs,e4,r4⟩:=wa1.told;have lx:xs.length=ts.length:=by rw [r4.len,aA]
 have w2:=wa1.wi.list b2 e2;have t2:=b2.t e2;have e5:=b2.at wa.ne e4;refine ⟨_,rfl,?_⟩;refine qJ O (by simp) w2.ins (OR W F) ?_;refine ⟨QY e5,_,rfl,?_⟩;refine pK (by show 2<=64;decide) λq3 H3 hq3 e6 s3=>?_;refine DY (s3 _ _ e5) Oo λH4 e7 b4=>?_;have w4:=(w2.same s3).list b4 (s3 _ _ e5);have t4:=b4.t (s3 _ _ e5);have t34:=s3.t.trans t4;refine q H4 ⟨w4,⟨_,e7,?_⟩,⟨_,b4.at (Ne.symm wa.ne) (s3 _ _ e3),?_⟩,wa.ne⟩ ?_
 ·rw [bL];exact aP.append (aP.cons (bO.tup (t4 _ _ e6) (aP.cons (bO.str _) (aP.cons (bO.int _) aP.nil))) aP.nil) (r4.flat (t2.trans t34) (jO _))
 ·rw [nN,bL];refine aP.append (aP.cons ?_ aP.nil) (r2.flat (t2.trans t34) (lZ _));rw [jA];exact r3.flat t34 (CL _)
 ·exact (((cP.of s1).trans (cP.but b2 (by simp))).trans (cP.of s3)).trans (cP.but b4 (by simp))
theorem oQ5(F:iH K "lot" "Watch.lot" sQ5 f fd)(T:jK K mg c)(FQ6:tS P w K mg base 2 c.Watch "refuse_unless" ["self","word"] (jB c.Watch))(FQ33:gT dQ P w K mg base 3 "is_share" ["thing"] nQ)
  (FQ7:tS P w K mg base 1 c.Watch "seen" ["self"] (lA c.Watch)) (FQ27:gT dQ P w K mg base 3 "drawn" ["says","share"] oB):dI P w K mg base dQ 4 f fd ["self","share"] (sO c.Watch):=by
 refine F.oky cQ5 λvs H Q E h=>?_;unfold sO at h;obtain ⟨W,F,nW,M,es,ts,y,l,rfl,wa,ry,ok,hF,hW,rt,okd,hl,q⟩:=h;refine ⟨rfl,λcdv A outer s hr=>?_⟩;have O:=T.w_Watch;have ir:=rt.inR ok hW;obtain ⟨fs,he,sa,sy,_,_⟩:=ir.ex;have d0:pM (stand es F ts).2 = "lot" := by rw [okd.1];rfl
 have lo:=okd.2.1;refine ⟨_,(aJ (fA (sL FQ6 T.w_Watch.cls (hr.mono Dd) (aE 0) (aI dL aD)))
  (aJ (gY (IX (BQ (nI (mF (bW FQ33 (hr.mono Dd) (aI (aE 1) aD)))) (vA (eB (aAz K hr.units) (aE 1) (jV (v:=.ref c.ONE) rfl T.g_ONE rfl) (nomark _))))) (aX qM) eQ)
  (aJ (bN (i:=2) cQ5.nd rfl (Or.inl rfl) (eR FQ7 T.w_Watch.cls (hr.mono Dd) (aE 0)))
  (aJ (fA (qO PySem.F.plainAttrs_list PySem.F.slot_list_append PySem.F.type_list_append oM (fU K (aE 0)) (aI (dO (aI (aE 2) (aI (bW FQ27 (hr.mono Dd) (aI (iN hr.u1 (fU K (aE 0)) (aE 2)) (aI (aE 1) aD))) aD))) aD)))
  (aX (fA (qO PySem.F.plainAttrs_list PySem.F.slot_list_append PySem.F.type_list_append oM (fU K (aE 0)) (aI (dO (aI dL (aI (aE 1) aD))) aD)))))))),?_⟩
 refine ⟨_,rfl,W.a,W.dx,_,rfl,wa.wi.ins,rfl,?_⟩;refine tX wa d0 Dd ?_;refine ⟨_,rfl,?_⟩;refine EO ry ?_;have ef:pF (fK l)=true:=by
  show ((decide (1<=l.2)&&decide (Int.gcd l.1 l.2=1))&&(decide (0<=l.1)&&decide (l.1<=l.2)))=true;rw [bP (by have:=lo.low.pos;omega),bP lo.low.low,bP lo.nn,bP lo.le];rfl
 rw [ef];refine ⟨_,rfl,kY ?_⟩;obtain ⟨ay,rfl,hay⟩:=PD ry;refine ⟨_,rfl,?_⟩;refine reK (d:=fK l) (d':=fK (1,1)) ry.k (jG.tup (nO T.o_ONE) (fL.ints [1,1])) rfl rfl ?_;have en:PyData.eqv (fK l) (fK (1,1))=false:=by
  show PyData.eqv (cD [l.1,l.2]) (cD [1,1])=false;rw [VM,bX];intro z;injection z with z1 z2;injection z2 with z2 _;have:=okd.2.2;omega
 rw [en];refine ⟨_,rfl,kY ?_⟩;refine ⟨_,rfl,W.a,W.dx,_,rfl,wa.wi.ins,rfl,?_⟩;refine kA wa λv rv=>?_;obtain ⟨av,rfl,hav⟩:=iR rv;obtain ⟨kvs,fz,pr⟩:=wa.wi.dic;obtain ⟨u,hu,ru⟩:=(zU pr).2 fs sa;obtain ⟨ys,e2,r2⟩:=wa.stds;have ly:ys.length=ts.length+1:=by rw [r2.len,aA,qC]
 refine ⟨_,rfl,?_⟩;refine qJ O (by simp) wa.wi.ins (KC W F) ?_;refine ⟨QY e2,_,rfl,_,rfl,?_⟩;refine qJ O (by simp) wa.wi.ins (aB5 W F) ?_;refine ⟨_,rfl,?_⟩;refine dgZ (c:=ci (stand es F ts).1) fz (by rw [iS];exact hav) hu ?_;refine ⟨_,rfl,?_⟩;refine EV ru ry sy Oo lo okd.2.2 λH1 isd s1=>?_;refine pK (by show 2<=64;decide) λq2 H2 hq2 e3 s2=>?_;have s12:=s1.trans s2;refine DY (s12 _ _ e2) Oo λH3 e4 b3=>?_;have t3:=b3.t (s12 _ _ e2);have w3:=(wa.wi.same s12).list b3 (s12 _ _ e2);obtain ⟨xs,e5,r5⟩:=wa.told;have lx:xs.length=ts.length:=by rw [r5.len,aA]
 have e6:=b3.at wa.ne (s12 _ _ e5);refine ⟨_,rfl,?_⟩;refine qJ O (by simp) w3.ins (OR W F) ?_;refine ⟨QY e6,_,rfl,?_⟩;refine pK (by show 2<=64;decide) λq4 H4 hq4 e7 s4=>?_;refine DY (s4 _ _ e6) Oo λH5 e8 b5=>?_;have w5:=(w3.same s4).list b5 (s4 _ _ e6);have t5:=b5.t (s4 _ _ e6);have t45:=s4.t.trans t5;have tt:=(s12.t.trans t3).trans t45;refine q H5 ⟨w5,⟨_,e8,?_⟩,⟨_,b5.at (Ne.symm wa.ne) (s4 _ _ e4),?_⟩,wa.ne⟩ ?_
 ·rw [bL];exact aP.append (aP.cons (bO.tup (t5 _ _ e7) (aP.cons (bO.str _) (aP.cons (ry.flat tt (dB _)) aP.nil))) aP.nil) (r5.flat tt (jO _))
 ·rw [nN,bL];refine aP.append (aP.cons ?_ aP.nil) (r2.flat tt (lZ _));rw [jA];have ec:step es (stand es F ts) (.lot l)=((stand es F ts).1,some (drw fs l)):=by unfold step;rw [sa];rfl
  rw [ec];exact bO.tup ((t3.trans t45) _ _ e3) (aP.cons (rv.flat tt (kS _)) (aP.cons (bO.int _) aP.nil))
 ·exact (((cP.of s12).trans (cP.but b3 (by simp))).trans (cP.of s4)).trans (cP.but b5 (by simp))
theorem pf1(a b:V):iX "faces" b [(("says_of" : Str),a)]=[(("says_of" : Str),a),("faces",b)]:=by
 unfold iX;rw [if_neg Dd]
 rfl
theorem pf2(a b d:V):iX "told" d [(("says_of" : Str),a),("faces",b)]=[(("says_of" : Str),a),("faces",b),("told",d)]:=by
 unfold iX iX;rw [if_neg Dd,if_neg Dd]
 rfl
theorem pf3(a b d e:V):iX "stands" e [(("says_of" : Str),a),("faces",b),("told",d)]=[(("says_of" : Str),a),("faces",b),("told",d),("stands",e)]:=by
 unfold iX iX iX;rw [if_neg Dd,if_neg Dd,if_neg Dd]
 rfl
theorem oQ0(F:iH K "__init__" "Watch.__init__" sQ0 f fd)(T:jK K mg c)(FQ44:gT dQ P w K mg base 1 "rule_faces" ["rule"] (gG K))(FQ39:gT dQ P w K mg base 1 "noughts" ["faces"] jC)
  (FQ2:tS P w K mg base 1 c.Watch "come_to" ["self","counts"] (kI c.Watch)):dI P w K mg base dQ 2 f fd ["self","rule"] (oY c.Watch):=by
 refine F.oky cQ0 λvs H Q E h=>?_;unfold oY at h;obtain ⟨x,dx,r,F,nW,M,es,rfl,hx,rr,ok,hF,hW,q⟩:=h;refine ⟨rfl,λcdv A outer s hr=>?_⟩;have O:=T.w_Watch;have rr0:=rr;obtain ⟨ar,xr,rfl,har,rxr⟩:=AI rr;obtain ⟨kvs,pr,env⟩:=FJ rxr;have lk:kvs.length=es.length:=Paired.length env;have les:=ok.len;have ndk:(kvs.map (·.1)).Nodup:=by
  rw [AY env];exact wA ok.nd
 obtain ⟨e0,er,rfl⟩:∃e0 er,es=e0::er:=by
  cases es with
  | nil=>exact absurd rfl ok.ne
  | cons e0 er=>exact ⟨e0,er,rfl⟩
 have l0:=(ok.each e0 (aN ..)).1;refine ⟨_,(aJ (uI (aE 0) (iY (DT hr.units rfl) (by rfl) T.b_dict Kk (aI (aE 1) aD)))
  (aJ (uI (aE 0) (bW FQ44 (hr.mono Dd) (aI (aE 1) aD)))
  (aJ (uI (aE 0) (fO aD))
  (aJ (uI (aE 0) (fO aD))
  (aX (fA (sL FQ2 T.w_Watch.cls (hr.mono Dd) (aE 0) (aI (bW FQ39 (hr.mono Dd) (aI (fU K (aE 0)) aD)) aD)))))))),?_⟩
 refine ⟨_,rfl,?_⟩;refine rdcz har pr ndk Oo λd H1 hd fz1 s1=>?_;have hx1:=s1 _ _ hx;refine ⟨_,rfl,x,c.Watch,dx,_,rfl,hx1,O.cls,O.no _ (by simp),by show 0<1000;decide,?_⟩;have b2:=aK.self (p:=x) (H:=H1) (o:=.ins c.Watch dx (iX "says_of" (.ref d) []));have e2:(upd H1 x (.ins c.Watch dx (iX "says_of" (.ref d) []))) x=some (.ins c.Watch dx [("says_of",.ref d)]):=bJ;generalize upd H1 x (.ins c.Watch dx (iX "says_of" (.ref d) []))=H2 at b2 e2 ⊢;have tI:∀{H H':Hp} {fl:List (Str × V)},aK x H H'->H x=some (.ins c.Watch dx fl)->cG H H':=λs hx b ys h=>s.at (pU h hx (by intro z;cases z)) h;have t2:cG H H2:=s1.t.trans (tI b2 hx1);have B2:aK x H H2:=s1.but.trans b2;have ndx:d≠x:=λz=>by rw [z,hx] at hd;cases hd
 have fz2:QW H2 d kvs:=by
  obtain ⟨o,h⟩:=fz1;exact ⟨o,b2.at ndx h⟩
 refine ⟨_,rfl,?_⟩;refine mY (FB (rr0.flat t2 (tK _))) ?_;rw [l0];refine ⟨_,rfl,x,c.Watch,dx,_,rfl,e2,O.cls,O.no _ (by simp),by show 1<1000;decide,?_⟩;rw [pf1];have b3:=aK.self (p:=x) (H:=H2) (o:=.ins c.Watch dx [("says_of",.ref d),("faces",.int ((F:Nat):Int))]);have e3:(upd H2 x (.ins c.Watch dx [("says_of",.ref d),("faces",.int ((F:Nat):Int))])) x=some (.ins c.Watch dx [("says_of",.ref d),("faces",.int ((F:Nat):Int))]):=bJ;generalize upd H2 x (.ins c.Watch dx [("says_of",.ref d),("faces",.int ((F:Nat):Int))])=H3 at b3 e3 ⊢;have t3:=t2.trans (tI b3 e2);have B3:=B2.trans b3;have fz3:QW H3 d kvs:=by
  obtain ⟨o,h⟩:=fz2;exact ⟨o,b3.at ndx h⟩
 refine yF (by show 0<=64;decide) λta H4 hta e4 s4=>?_;refine ⟨_,rfl,x,c.Watch,dx,_,rfl,s4 _ _ e3,O.cls,O.no _ (by simp),by show 2<1000;decide,?_⟩;rw [pf2];have b5:=aK.self (p:=x) (H:=H4) (o:=.ins c.Watch dx [("says_of",.ref d),("faces",.int ((F:Nat):Int)),("told",.ref ta)]);have e5:(upd H4 x (.ins c.Watch dx [("says_of",.ref d),("faces",.int ((F:Nat):Int)),("told",.ref ta)])) x=some (.ins c.Watch dx [("says_of",.ref d),("faces",.int ((F:Nat):Int)),("told",.ref ta)]):=bJ;generalize upd H4 x (.ins c.Watch dx [("says_of",.ref d),("faces",.int ((F:Nat):Int)),("told",.ref ta)])=H5 at b5 e5 ⊢;have ntx:ta≠x:=λz=>by rw [z,e3] at hta;cases hta
 have t5:=(t3.trans s4.t).trans (tI b5 (s4 _ _ e3));have B5:=(B3.trans s4.but).trans b5;have e5t:=b5.at ntx e4;have fz5:QW H5 d kvs:=by
  obtain ⟨o,h⟩:=fz3;exact ⟨o,b5.at ndx (s4 _ _ h)⟩
 refine yF (by show 0<=64;decide) λsa H6 hsa e6 s6=>?_;refine ⟨_,rfl,x,c.Watch,dx,_,rfl,s6 _ _ e5,O.cls,O.no _ (by simp),by show 3<1000;decide,?_⟩;rw [pf3];have b7:=aK.self (p:=x) (H:=H6) (o:=.ins c.Watch dx (wF ⟨x,dx,d,ta,sa⟩ F));have e7:(upd H6 x (.ins c.Watch dx (wF ⟨x,dx,d,ta,sa⟩ F))) x=some (.ins c.Watch dx (wF ⟨x,dx,d,ta,sa⟩ F)):=bJ;generalize upd H6 x (.ins c.Watch dx (wF ⟨x,dx,d,ta,sa⟩ F))=H7 at b7 e7 ⊢;have nsx:sa≠x:=λz=>by rw [z,e5] at hsa;cases hsa
 have nst:ta≠sa:=λz=>by rw [<-z,e5t] at hsa;cases hsa
 have t7:=(t5.trans s6.t).trans (tI b7 (s6 _ _ e5));have B7:=(B5.trans s6.but).trans b7;have e7t:=b7.at ntx (s6 _ _ e5t);have e7s:=b7.at nsx e6;have fz7:QW H7 d kvs:=by
  obtain ⟨o,h⟩:=fz5;exact ⟨o,b7.at ndx (s6 _ _ h)⟩
 have wi7:WI c.Watch H7 ⟨x,dx,d,ta,sa⟩ F (e0::er):=⟨e7,kvs,fz7,vV t7 env⟩;refine ⟨_,rfl,x,dx,_,rfl,e7,rfl,?_⟩;refine ⟨_,rfl,?_⟩;refine qJ O (by simp) e7 (aB4 ⟨x,dx,d,ta,sa⟩ F) ?_;refine qY Oo λv H8 s8 r8=>?_;have ir:=(Rt.nil (es:=e0::er) (F:=F)).inR ok hW;obtain ⟨fs,he,sa',sy,_,_⟩:=ir.ex;refine vN (W:=⟨x,dx,d,ta,sa⟩) (wi7.same s8) r8 sa' (by rw [sy.lenN];omega) (s8 _ _ e7s) Dd λv9 H9 e9 r9 b9=>?_;have hx0:∃o,H7 x=some o:=⟨_,e7⟩;have B9:aK x H H9:=by
  have hs0:H sa=none:=aK.free B5 ⟨_,e5⟩ hsa;exact aK.thru hs0 (B7.trans s8.but) b9
 refine q d ta sa H9 hd (aK.free B3 ⟨_,e3⟩ hta) (aK.free B5 ⟨_,e5⟩ hsa) ⟨(wi7.same s8).list b9 (s8 _ _ e7s),⟨[],b9.at nst (s8 _ _ e7t),aP.nil⟩,⟨_,e9,aP.cons r9 aP.nil⟩,nst⟩ B9
end
abbrev TB:Stmt:=(top 54)
theorem QK:bR ["_law_feed_here","_law_trial_here","_law_faces","_law_ways"] ["_law_feed_here"] (aO TB):=⟨rfl,rfl,rfl,Kk,rfl,Kk,Kk⟩
abbrev ZP:Stmt:=(top 55)
theorem VZ:bR ["_law_says_here","_law_place","_law_begin","_law_k"] ["_law_says_here","_law_place"] (aO ZP):=⟨rfl,rfl,rfl,Kk,rfl,Kk,Kk⟩
abbrev ZO:Stmt:=(top 56)
theorem aDT:bR ["_law_watch","_law_kind","_law_thing"] ["_law_watch","_law_kind","_law_thing"] (aO ZO):=⟨rfl,rfl,rfl,Kk,rfl,Kk,Kk⟩
structure TrS(fs:List Str)(ws:List (Str × List Fr)):Prop where
 f2:2<=fs.length
 f3:fs.length<=3
 w2:2<=ws.length
 w3:ws.length<=3
 sh:∀w∈ws,uH fs.length w.2
@[irreducible] def lV:Sp:=λvs H Q _=>∃(p L:Addr),vs=[.ref p]/\bZ H p L/\∀v fs ws H',bZ H' p L->aK p H H'->bO H' (uK fs ws) v->TrS fs ws->Q v H'
theorem CG{H:Hp}{Q:VK}{E:XK}{p L:Addr}(F:bZ H p L)(k:∀v fs ws H',bZ H' p L->aK p H H'->bO H' (uK fs ws) v->TrS fs ws->Q v H'):lV [.ref p] H Q E:=by unfold lV;exact ⟨p,L,rfl,F,k⟩
theorem GW{H:Hp}:∀{fs:List Str}{vs:List V},aP H (fs.map PyData.str) vs->vs=fs.map V.str
 | [],_,h=>h
 | n::ns,_,h=>by
  unfold aP at h;obtain ⟨x,xs,rfl,h1,h2⟩:=(show ∃x xs,_=x::xs/\bO H (.str n) x/\aP H (ns.map PyData.str) xs from h);cases (show x=V.str n from h1);rw [GW h2];rfl
theorem GV{H:Hp}:∀fs:List Str,aP H (fs.map PyData.str) (fs.map V.str)
 | []=>aP.nil
 | f::fs=>aP.cons (bO.str f) (GV fs)
theorem bZ.tt{H H':Hp}{p L:Addr}(F:bZ H p L)(s:aK p H H'):cG H H':=by
 obtain ⟨xs,h⟩:=F.lst;exact s.t h
theorem WP{H:Hp}{n:Nat}:∀ys:List V,(∀(i:Nat) y,ys[i]?=some y->∃w:Str × List Fr,uH n w.2/\bO H (wD w) y)->∃ws:List (Str × List Fr),ws.length=ys.length/\aP H (ws.map wD) ys/\∀w∈ws,uH n w.2
 | [],_=>⟨[],rfl,aP.nil,λw h=>by cases h⟩
 | y::ys,h=>by
  obtain ⟨w,h1,h2⟩:=h 0 y rfl;obtain ⟨ws,g1,g2,g3⟩:=WP ys λi y hy=>h (i+1) y hy;refine ⟨w::ws,by rw [cF,cF,g1],aP.cons h2 g2,λw' hw=>?_⟩;rcases aQ.mp hw with rfl | hw
  ·exact h1
  ·exact g3 _ hw
theorem aBw{t u:TT}{σ:St}{H:Hp}{Q:Bool->Hp->Prop}{a b:Bool}(ht:∀Q:Bool->Hp->Prop,Q a H->t σ H Q)(hu:∀Q:Bool->Hp->Prop,Q b H->u σ H Q)(q:Q (a || b) H):tOr t u σ H Q:=by
 refine ht _ ?_;cases a with
 | true=>exact lI q
 | false=>exact kY (hu _ q)
section
theorem aDk(F:iH K "_law_small_trial" "_law_small_trial" TB f fd)(T:jK K mg c)
  (FQ23:gT dQ P w K mg base 3 "_law_trial" ["_law_feed_here"] nP) (FQ19:gT dQ P w K mg base 2 "_law_shares" ["_law_feed_here","_law_many"] jZ):dI P w K mg base dQ 4 f fd ["_law_feed_here"] lV:=by
 refine F.oky QK λvs H Q E h=>?_;unfold lV at h;obtain ⟨p,L,rfl,F,k⟩:=h;refine ⟨rfl,λcdv A outer s hr=>?_⟩;refine ⟨_,(aJ (bN (i:=1) QK.nd rfl (Or.inl rfl) (bW FQ23 (hr.mono Dd) (aI (aE 0) aD)))
  (aJ (nJ PassesOwn.never (IX (BQ (eB CS (eC fY (by rfl) T.b_len Kk (aI (bH aZ (aE 1) aF (λ_ _=>rfl)) aD)) aF (nomark _)) (vA (eB CS (eC fY (by rfl) T.b_len Kk (aI (bH aZ (aE 1) aF (λ_ _=>rfl)) aD)) aF (nomark _))))) (aJ (bN (i:=2) QK.nd rfl (Or.inr rfl) (gB (pC K) (bH aZ (aE 1) aF (λ_ _=>rfl)) iD (iC aF)))
  (aJ (bN (i:=3) QK.nd rfl (Or.inl rfl) (iY dJ (by rfl) T.b_tuple Kk (aI (eS (dY.of (psc:=aO TB) (N:=["_law_feed_here","_law_trial_here","_law_faces","_law_ways"]) (N':=["_law_way","_law_feed_here","_law_faces"]) (js:=[0,2]) Kk rfl rfl rfl) (vB (gB (pC K) (bH aZ (aE 1) aF (λ_ _=>rfl)) iD (iC aF))) (λ_ _ _ _=>eJ) (λ_ _ _ _=>(dO (aI (bH (iF K) (aE 0) aF (λ_ _=>rfl)) (aI (bW FQ19 (hr.mono Dd) (aI (aE 1) (aI (eC (IN K) (by rfl) T.b_len Kk (aI (aE 2) aD)) aD))) aD))))) aD)))
  (aX (bN (i:=1) QK.nd rfl (Or.inl rfl) (dO (aI (aE 2) (aI (aE 3) aD))))))))
  (aX (cC (aE 1))))),?_⟩
 refine ⟨_,rfl,?_⟩;refine EN F λv t o nF nW fs ws H1 F1 s1 r1 ok1=>?_;refine qN (λm σ H'=>∃(v:V) (fs:List Str) (ws:List (Str × List Fr)) (o2 o3:Option V),σ=[some (.ref p),some v,o2,o3]/\bZ H' p L/\aK p H H'/\bO H' (uK fs ws) v/\2<=fs.length/\fs.length<=4/\2<=ws.length/\ws.length<=4/\(∀w∈ws,uH fs.length w.2)/\m=(if 3<fs.length\/3<ws.length then 1 else 0))
  (λσ H'=>∃(v:V) (fs:List Str) (ws:List (Str × List Fr)) (o2 o3:Option V),σ=[some (.ref p),some v,o2,o3]/\bZ H' p L/\aK p H H'/\bO H' (uK fs ws) v/\TrS fs ws) _
  ⟨v,fs,ws,_,_,rfl,F1,s1,r1,by rw [ok1.lenF];have:=ok1.hF;omega,by rw [ok1.lenF];have:=ok1.hF;omega,by rw [ok1.lenW];have:=ok1.hW;omega,by rw [ok1.lenW];have:=ok1.hW;omega,by rw [ok1.lenF];exact ok1.sh,rfl⟩ ?_ ?_
 ·rintro m σ H2 ⟨v,fs,ws,o2,o3,rfl,F2,s2,r2,f2,f4,w2,w4,sh,rfl⟩;obtain ⟨ta,txs,rfl,ht,rt⟩:=fP r2;obtain ⟨tf,tw,rfl,rf,rw2⟩:=jP rt;obtain ⟨fa,fxs,rfl,hfa,rfx⟩:=fP rf;obtain ⟨wa,wxs,rfl,hwa,rwx⟩:=fP rw2;cases GW rfx;have lw:wxs.length=ws.length:=by rw [rwx.len,aA]
  have stop:¬(3<fs.length\/3<ws.length)->TrS fs ws:=λz=>⟨f2,Oo,w2,Oo,sh⟩;have r2':bO H2 (uK fs ws) (.ref ta):=r2;refine aBw (a:=decide ((3:Int)<(fs.length:Int))) (b:=decide ((3:Int)<(ws.length:Int))) (λQ q=>?_) (λQ q=>?_) ?_
  ·refine ⟨_,rfl,?_⟩;refine jR ht rfl ?_;refine LP hfa ?_;rw [aA];exact ⟨_,_,rfl,rfl,_,rfl,q⟩
  ·refine ⟨_,rfl,?_⟩;refine jR ht rfl ?_;refine LP hwa ?_;rw [lw];exact ⟨_,_,rfl,rfl,_,rfl,q⟩
  by_cases big:3<fs.length\/3<ws.length
  ·rw [if_pos big];rw [show (decide ((3:Int)<(fs.length:Int)) || decide ((3:Int)<(ws.length:Int)))=true by rw [Bool.or_eq_true,decide_eq_true_iff,decide_eq_true_iff];omega];refine lI ?_;refine ⟨_,rfl,?_⟩;refine jR ht rfl ?_;refine ⟨_,rfl,?_⟩;refine AF (k:=3) hfa λc3 H3 s3 e3=>?_;have lf3:((fs.map V.str).take 3).length=(fs.take 3).length:=by rw [bT,aA,bT]
   have ltk:(fs.take 3).length=min 3 fs.length:=bT;refine ⟨_,rfl,?_⟩;refine jR (s3 _ _ ht) rfl ?_;refine ⟨_,rfl,?_⟩;refine AF (k:=3) (s3 _ _ hwa) λc4 H4 s4 e4=>?_;have F4:=(F2.same s3).same s4;refine ⟨c4,rfl,⟨_,fS.of e4⟩,?_⟩;refine QA (bZ.like p L) F4 (λi y H'=>∃w:Str × List Fr,uH (fs.take 3).length w.2/\bO H' (wD w) y) (λi y H1 H2 s ⟨w,h2,h3⟩=>⟨w,h2,h3.flat s (uJ _)⟩) (by rw [bT];omega) e4 (λi x H' Q' hx F' s' k'=>?_) (λD ys H5 hD hD5 F5 s5 hy5 hr5=>?_)
   ·have hx':wxs[i]?=some x:=by
     rw [List.getElem?_take] at hx;by_cases hi:i<3
     ·rw [if_pos hi] at hx;exact hx
     ·rw [if_neg hi] at hx;cases hx
    obtain ⟨w,hw,rxw⟩:=rwx.atI hx';have t':cG H2 H':=(s3.trans s4).t.trans (bZ.tt F4 s');obtain ⟨wb,wys,rfl,hwb,rwy⟩:=fP (rxw.flat t' (uJ _));obtain ⟨nm,sv,rfl,rn,rs⟩:=jP rwy;cases (show nm=.str w.1 from rn);refine ⟨_,rfl,?_⟩;refine jR hwb rfl ?_;refine ⟨_,rfl,_,rfl,?_⟩;have e3':H' c3=some (.tup ((fs.map V.str).take 3)):=bZ.tt F4 s' _ _ (s4 _ _ e3);refine LP e3' ?_;rw [lf3];refine tW F' Oo Oo λv fs' H7 F7 s7 r7 ok7=>?_;refine pK (by show 2<=64;decide) λq8 H8 hq8 e8 s8=>?_;exact k' _ H8 (F7.same s8) (s7.trans s8.but) ⟨(w.1,fs'),ok7,bO.tup e8 (aP.cons (bO.str _) (aP.cons (r7.same s8) aP.nil))⟩
   ·refine ⟨D,ys,rfl,.inl ⟨fT.of hD5,λl2 hl2=>?_⟩⟩;have sl2:=bF.upd (o:=.tup ys) hl2;have el2:(upd H5 l2 (.tup ys)) l2=some (.tup ys):=bJ;generalize upd H5 l2 (.tup ys)=H6 at sl2 el2;have e3':H6 c3=some (.tup ((fs.map V.str).take 3)):=sl2 _ _ (bZ.tt F4 s5 _ _ (s4 _ _ e3));obtain ⟨ws',lws,rws',okw⟩:=WP (n:=(fs.take 3).length) ys λi y hy=>hr5 i y hy;have lw':ws'.length=min 3 ws.length:=by rw [lws,hy5,bT,lw]
    refine ⟨_,rfl,_,rfl,?_⟩;refine pK (by show 2<=64;decide) λq8 H8 hq8 e8 s8=>?_;refine ⟨0,Dd,_,fs.take 3,ws',_,_,rfl,(F5.same sl2).same s8,(((s2.trans (s3.trans s4).but).trans s5).trans sl2.but).trans s8.but,?_,Oo,Oo,Oo,Oo,okw,?_⟩
    ·refine bO.tup e8 (aP.cons (bO.tup (s8 _ _ e3') ?_) (aP.cons (bO.tup (s8 _ _ el2) ((rws'.same sl2).same s8)) aP.nil));rw [<-List.map_take];exact GV _
    ·rw [if_neg Oo]
  ·rw [show (decide ((3:Int)<(fs.length:Int)) || decide ((3:Int)<(ws.length:Int)))=false by rw [Bool.or_eq_false_iff,decide_eq_false_iff_not,decide_eq_false_iff_not];omega];refine kY ?_;exact ⟨_,fs,ws,_,_,rfl,F2,s2,r2',stop big⟩
 ·rintro σ H2 ⟨v,fs,ws,o2,o3,rfl,F2,s2,r2,ok⟩;exact ⟨_,rfl,k v fs ws H2 F2 s2 r2 ok⟩
end
@[irreducible] def kL:Sp:=λvs H Q _=>∃(x:V) (fs:List Fr) (n k:Nat),vs=[x,.int (k:Int)]/\bO H (qL fs) x/\nE n fs/\n<=5/\k<fs.length/\∀D ys H',H D=none->H' D=some (.lst ys)->aP H' ((List.range 2).map λj=>fK (gZ fs k j)) ys->bF H H'->Q (.ref D) H'
theorem AA{H:Hp}{Q:VK}{E:XK}{x:V}{fs:List Fr}{n k:Nat}(r:bO H (qL fs) x)(ok:nE n fs)(hn:n<=5)(hk:k<fs.length)(q:∀D ys H',H D=none->H' D=some (.lst ys)->aP H' ((List.range 2).map λj=>fK (gZ fs k j)) ys->bF H H'->Q (.ref D) H'):kL [x,.int (k:Int)] H Q E:=by
 unfold kL;exact ⟨x,fs,n,k,rfl,r,ok,hn,hk,q⟩
abbrev kdS:dS->Str
 | .look _ => "look"
 | .lot _ => "lot"
abbrev thD:dS->PyData
 | .look i=>.int (i:Int)
 | .lot f=>fK f
@[irreducible] def qU(C:Addr):Sp:=λvs H Q _=>∃(W:Wt) (F nW M:Nat) (es:List bI) (ts:List dS) (d:dS) (y:V),vs=[.ref W.a,.str (kdS d),y]/\jT C H W F es ts/\bO H (thD d) y/\xL F nW M es/\F<=4/\nW<=4/\Rt es F ts/\UP F (stand es F ts) d/\ts.length<=40/\∀H',jT C H' W F es (ts++[d])->cP [W.t,W.s] H H'->Q .non H'
theorem JG{C:Addr}{H:Hp}{Q:VK}{E:XK}{W:Wt}{F nW M:Nat}{es:List bI}{ts:List dS}{d:dS}{y:V}(h:jT C H W F es ts)(r:bO H (thD d) y)(ok:xL F nW M es)(hF:F<=4)(hW:nW<=4)(rt:Rt es F ts)(okd:UP F (stand es F ts) d)(hl:ts.length<=40)(q:∀H',jT C H' W F es (ts++[d])->cP [W.t,W.s] H H'->Q .non H'):qU C [.ref W.a,.str (kdS d),y] H Q E:=by
 unfold qU;exact ⟨W,F,nW,M,es,ts,d,y,rfl,h,r,ok,hF,hW,rt,okd,hl,q⟩
section
theorem aDi(F:iH K "_law_tell" "_law_tell" ZO f fd)(T:jK K mg c)(FQ5:tS P w K mg base 4 c.Watch "lot" ["self","share"] (sO c.Watch))(FQ4:tS P w K mg base 3 c.Watch "look" ["self","face"] (pA c.Watch)):dI P w K mg base dQ 5 f fd ["_law_watch","_law_kind","_law_thing"] (qU c.Watch):=by
 refine F.oky aDT λvs H Q E h=>?_;unfold qU at h;obtain ⟨W,F,nW,M,es,ts,d,y,rfl,wa,ry,ok,hF,hW,rt,okd,hl,q⟩:=h;refine ⟨rfl,λcdv A outer s hr=>?_⟩;refine ⟨_,(aX (gY (eB oI (aE 1) dL (nomark _)) (aX (fA (sL FQ4 T.w_Watch.cls (hr.mono Dd) (aE 0) (aI (aE 2) aD)))) (aX (fA (sL FQ5 T.w_Watch.cls (hr.mono Dd) (aE 0) (aI (aE 2) aD)))))),?_⟩;cases d with
 | look i =>
  cases (show y=.int (i:Int) from ry);refine ⟨_,rfl,rfl,_,rfl,lI ?_⟩;refine ⟨_,rfl,W.a,W.dx,_,rfl,wa.wi.ins,rfl,?_⟩;refine ⟨_,rfl,?_⟩;exact JJ wa ok hF hW rt okd hl q
 | lot l =>
  refine ⟨_,rfl,rfl,_,rfl,kY ?_⟩;refine ⟨_,rfl,W.a,W.dx,_,rfl,wa.wi.ins,rfl,?_⟩;refine ⟨_,rfl,?_⟩;exact MX wa ry ok hF hW rt okd hl q
theorem aDj(F:iH K "_law_stretch" "_law_stretch" ZP f fd)(T:jK K mg c)(FQ10:gT dQ P w K mg base 2 "_law_add" ["_law_one","_law_other"] (lW K))(FQ16:gT dQ P w K mg base 2 "_law_mul" ["_law_one","_law_other"] (kB K)):dI P w K mg base dQ 3 f fd ["_law_says_here","_law_place"] kL:=by
 refine F.oky VZ λvs H Q E h=>?_;unfold kL at h;obtain ⟨x,fs,n,k,rfl,rx,ok,hn,hk,q⟩:=h;refine ⟨rfl,λcdv A outer s hr=>?_⟩;obtain ⟨a,xs,rfl,ha,rxs⟩:=qE rx;refine ⟨_,(aJ (bN (i:=2) VZ.nd rfl (Or.inl rfl) (dO (aI aF (aI aF aD))))
  (aJ (gL PassesOwn.never rfl (dD rfl T.b_range (aI (aE 1) aD)) (dR (i:=3) VZ.nd rfl (Or.inl rfl)) (aX (bN (i:=2) VZ.nd rfl (Or.inl rfl) (bW FQ10 (hr.mono Dd) (aI (aE 2) (aI (bH aZ (aE 0) (aE 3) (λ_ _=>rfl)) aD))))))
  (aX (cC (fO (aI (aE 2) (aI (bW FQ10 (hr.mono Dd) (aI (aE 2) (aI (bW FQ16 (hr.mono Dd) (aI (bH aZ (aE 0) (aE 1) (λ_ _=>rfl)) (aI (dO (aI (bY FK (bY FL aF aF) aF) (aI (bY FL aF aF) aD))) aD))) aD))) aD))))))),?_⟩
 have ln:=ok.lenN;refine pK (by show 2<=64;decide) λp0 H1 hp0 e0 s1=>?_;refine ⟨_,rfl,_,rfl,Oo,Oo,?_⟩;rw [Int.toNat_natCast];refine gH (λi σ H'=>∃(o3:Option V) (v:V),σ=[some (.ref a),some (.int (k:Int)),some v,o3]/\bF H H'/\bO H' (fK (gI (fs.take i))) v) ⟨_,_,rfl,s1,fD e0⟩ ?_ ?_
 ·rintro i σ H2 hi ⟨o3,v,rfl,s2,rv⟩;rw [show (0:Int)+(i:Int)=(i:Int) by omega];obtain ⟨fi,hfi⟩:∃fi,fs[i]?=some fi:=⟨_,aC Oo⟩;obtain ⟨vi,hvi,rvi⟩:=aP.atX (i:=i) rxs hfi;have mem:=aR hfi;have ut:=ok.tak hn i;refine ⟨_,rfl,_,rfl,_,rfl,?_⟩;refine jR (s2 _ _ ha) (cK hvi) ?_;refine mN (gR.of rv) (gR.of (rvi.same s2)) ut.low (ok.low fi mem) (SJ ut.sz) (SJ (ok.szf fi mem)) λq3 H3 hq3 e3 s3=>?_;refine ⟨_,_,rfl,s2.trans s3,?_⟩;rw [GR hfi];exact fD e3
 ·rintro σ H2 ⟨o3,v,rfl,s2,rv⟩;obtain ⟨fi,hfi⟩:∃fi,fs[k]?=some fi:=⟨_,aC hk⟩;obtain ⟨vi,hvi,rvi⟩:=aP.atX (i:=k) rxs hfi;have mem:=aR hfi;have ut:=ok.tak hn k;have ef:fs.getD k (0,1)=fi:=by rw [aS,hfi];rfl
  refine ⟨_,rfl,_,rfl,_,rfl,_,rfl,?_⟩;refine jR (s2 _ _ ha) (cK hvi) ?_;refine ⟨_,_,rfl,rfl,⟨Dd,Dd,Dd⟩,_,_,rfl,rfl,_,_,rfl,rfl,⟨Dd,Dd,Dd⟩,?_⟩;refine pK (by show 2<=64;decide) λq3 H3 hq3 e3 s3=>?_;have e3':H3 q3=some (.tup [.int lE.1,.int lE.2]):=e3;refine nS (gR.of ((rvi.same s2).same s3)) (gR.new e3') (ok.low fi mem) oJ (SJ (ok.szf fi mem)) (oS AR Kk Kk Kk) λq4 H4 hq4 e4 s4=>?_;have fm:Fn (LC*10^20) (1*1) (jX fi lE):=(ok.fn fi mem).1.mul AR;refine mN (gR.of ((rv.same s3).same s4)) (gR.new e4) ut.low fm.low (SJ ut.sz) (oS fm Kk Kk Kk) λq5 H5 hq5 e5 s5=>?_;refine yF (by show 2<=64;decide) λD H6 hD e6 s6=>?_;refine q D _ H6 ((((s2.trans s3).trans s4).trans s5).free hD) e6 ?_ ((((s2.trans s3).trans s4).trans s5).trans s6);refine aP.cons ?_ (aP.cons ?_ aP.nil)
  ·show bO H6 (fK (gZ fs k 0)) v;have:gZ fs k 0=gI (fs.take k):=by unfold gZ;rw [if_pos rfl]
   rw [this];exact (((rv.same s3).same s4).same s5).same s6
  ·show bO H6 (fK (gZ fs k 1)) _;have:gZ fs k 1=kW (gI (fs.take k)) (jX fi lE):=by unfold gZ;rw [if_neg Dd,ef]
   rw [this];exact (fD e5).same s6
end
abbrev mP(g:Nat->Rat)(n:Nat):List PyData:=(List.range n).map λj=>fK (eZ (g j))
theorem gF(g:Nat->Rat)(n:Nat):dW (mP g n)=true:=by
 have h:∀l:List Nat,dW (l.map λj=>fK (eZ (g j)))=true:=λl=>by
  induction l with
  | nil=>rfl
  | cons a l ih=>show (eP (fK (eZ (g a)))&&dW (l.map λj=>fK (eZ (g j))))=true;rw [ih];rfl
 exact h _
theorem vU{H:Hp}{g:Nat->Rat}{n:Nat}{xs:List V}(r:aP H (mP g n) xs){j:Nat}(hj:j<n):∃v,xs[j]?=some v/\bO H (fK (eZ (g j))) v :=
 aP.atX (g:=λj=>fK (eZ (g j))) r (dN hj)
theorem uN{H:Hp}{g:Nat->Rat}{n:Nat}{xs:List V}(r:aP H (mP g n) xs):xs.length=n:=by rw [r.len,aA,cX]
theorem sT{H:Hp}{g:Nat->Rat}{n:Nat}{ys:List V}(hl:ys.length=n)(h:∀(i:Nat) (y:V),ys[i]?=some y->bO H (fK (eZ (g i))) y):aP H (mP g n) ys:=by
 refine aP.ofIdx (by rw [aA,cX,hl]) λi y hy=>?_;have hi:i<n:=by rw [<-hl];exact (aL.mp hy).1
 exact ⟨_,by rw [aM,dN hi];rfl,h i y hy⟩
theorem TD{H:Hp}{g g':Nat->Rat}{n j:Nat}{xs:List V}{v:V}(r:aP H (mP g n) xs)(rv:bO H (fK (eZ (g' j))) v)(e:∀k,k≠j->g' k=g k):aP H (mP g' n) (xs.set j v):=by
 refine sT (by rw [List.length_set];exact uN r) λi y hy=>?_;by_cases q:i=j
 ·subst q;have hi:i<xs.length:=by have:=(aL.mp hy).1;rwa [List.length_set] at this
  rw [List.getElem?_set_self hi] at hy;cases hy;exact rv
 ·rw [List.getElem?_set_ne (Ne.symm q)] at hy;obtain ⟨k,hk,rk⟩:=aP.atI (g:=λj=>fK (eZ (g j))) r hy;have hi:=(aL.mp hk).1;rw [cX] at hi;rw [dN hi] at hk;cases hk;rw [e i q];exact rk
structure Ac where
 d:Addr
 l1:Addr
 l2:Addr
 as:List Addr
 bs:List Addr
def xK(H:Hp)(ls:List Addr)(n:Nat)(f:Nat->Nat->Rat):Prop:=∀(i:Nat) (a:Addr),ls[i]?=some a->∃xs,H a=some (.lst xs)/\aP H (mP (f i) n) xs
structure iV(H:Hp)(A:Ac)(nW L:Nat)(f g:Nat->Nat->Rat):Prop where
 dic:∃kvs:List (eL × V),H A.d=some (.dK kvs)/\fB kvs (.inr "said")=some (.ref A.l1)/\fB kvs (.inr "ends")=some (.ref A.l2)
 e1:H A.l1=some (.lst (A.as.map .ref))
 e2:H A.l2=some (.lst (A.bs.map .ref))
 la:A.as.length=nW
 lb:A.bs.length=nW
 ra:xK H A.as nW f
 rb:xK H A.bs L g
abbrev chg(A:Ac)(W:Wt):List Addr:=W.t::W.s::(A.as++A.bs)
structure RK(A:Ac)(W:Wt):Prop where
 nd:(A.l1::A.l2::chg A W).Nodup
theorem xK.keep{H H':Hp}{ls:List Addr}{n:Nat}{f:Nat->Nat->Rat}(h:xK H ls n f)(t:cG H H')(k:∀b∈ls,∀o,H b=some o->H' b=some o):xK H' ls n f:=λi a hi=>by
 obtain ⟨xs,e,r⟩:=h i a hi;exact ⟨xs,k a (aR hi) _ e,r.flat t (gF _ _)⟩
theorem iV.keep{H H':Hp}{A:Ac}{nW L:Nat}{f g:Nat->Nat->Rat}(h:iV H A nW L f g)(t:cG H H')(k:∀b,b=A.d\/b=A.l1\/b=A.l2\/b∈A.as\/b∈A.bs->∀o,H b=some o->H' b=some o):iV H' A nW L f g:=by
 obtain ⟨kvs,d1,d2,d3⟩:=h.dic;exact ⟨⟨kvs,k _ (.inl rfl) _ d1,d2,d3⟩,k _ (.inr (.inl rfl)) _ h.e1,k _ (.inr (.inr (.inl rfl))) _ h.e2,h.la,h.lb,h.ra.keep t λb hb=>k b (.inr (.inr (.inr (.inl hb)))),h.rb.keep t λb hb=>k b (.inr (.inr (.inr (.inr hb))))⟩
theorem iV.same{H H':Hp}{A:Ac}{nW L:Nat}{f g:Nat->Nat->Rat}(h:iV H A nW L f g)(s:bF H H'):iV H' A nW L f g:=h.keep s.t λb _ o e=>s b o e
theorem RK.t1{A:Ac}{W:Wt}(n:RK A W):A.l1 ∉ chg A W/\A.l2 ∉ chg A W/\A.l1≠A.l2:=by
 have h:=n.nd;rw [List.nodup_cons,List.nodup_cons] at h;exact ⟨λz=>h.1 (aH _ z),h.2.1,λz=>h.1 (by rw [z];exact aN ..)⟩
theorem RK.rows{A:Ac}{W:Wt}(n:RK A W):W.t ∉ A.as++A.bs/\W.s ∉ A.as++A.bs/\(A.as++A.bs).Nodup:=by
 have h:=n.nd;rw [List.nodup_cons,List.nodup_cons,List.nodup_cons,List.nodup_cons] at h;exact ⟨λz=>h.2.2.1 (aH _ z),h.2.2.2.1,h.2.2.2.2⟩
theorem iV.wt{C:Addr}{H H':Hp}{A:Ac}{W:Wt}{nW L F:Nat}{f g:Nat->Nat->Rat}{es:List bI}{ts:List dS}(h:iV H A nW L f g)(n:RK A W)(wa:jT C H W F es ts)(s:cP [W.t,W.s] H H'):iV H' A nW L f g:=by
 obtain ⟨xs,ht,_⟩:=wa.told;obtain ⟨ys,hs,_⟩:=wa.stds;obtain ⟨kvs,d1,_⟩:=h.dic;have t:cG H H':=s.t λb hb zs z=>by
  simp only [aQ,List.not_mem_nil,or_false] at hb;rcases hb with rfl | rfl
  ·rw [ht] at z;cases z
  ·rw [hs] at z;cases z
 refine h.keep t λb hb o e=>s b o (λz=>?_) e;have hz:b∈chg A W:=by
  simp only [aQ,List.not_mem_nil,or_false] at z;rcases z with rfl | rfl
  ·exact aN ..
  ·exact aH _ (aN ..)
 rcases hb with rfl | rfl | rfl | hb | hb
 ·simp only [aQ,List.not_mem_nil,or_false] at z;rcases z with z | z
  ·rw [z,ht] at d1;cases d1
  ·rw [z,hs] at d1;cases d1
 ·exact n.t1.1 hz
 ·exact n.t1.2.1 hz
 all_goals
  simp only [aQ,List.not_mem_nil,or_false] at z;rcases z with rfl | rfl
 ·exact n.rows.1 (bQ _ hb)
 ·exact n.rows.2.1 (bQ _ hb)
 ·exact n.rows.1 (bE _ hb)
 ·exact n.rows.2.1 (bE _ hb)
theorem rL{α:Type}{l:List α}(nd:l.Nodup){i j:Nat}{a:α}(hi:l[i]?=some a)(hj:l[j]?=some a):i=j:=by
 obtain ⟨h1,e1⟩:=aL.mp hi;obtain ⟨h2,e2⟩:=aL.mp hj;exact (List.getElem_inj nd).mp (e1.trans e2.symm)
theorem xK.put{H H':Hp}{ls:List Addr}{n:Nat}{f f':Nat->Nat->Rat}(h:xK H ls n f)(nd:ls.Nodup){i j:Nat}{a:Addr}{xs:List V}{v:V}(hi:ls[i]?=some a)(ha:H a=some (.lst xs))(b:aK a H H')(e:H' a=some (.lst (xs.set j v)))(rv:bO H' (fK (eZ (f' i j))) v)(e2:∀w k,¬(w=i/\k=j)->f' w k=f w k):xK H' ls n f':=λw a' hw=>by
 have t:=b.t ha;by_cases q:w=i
 ·subst q;rw [hi] at hw;cases hw;obtain ⟨xs',e',r⟩:=h w a hi;rw [ha] at e';cases e';exact ⟨_,e,TD (r.flat t (gF _ _)) rv λk hk=>e2 w k λz=>hk z.2⟩
 ·obtain ⟨xs',e',r⟩:=h w a' hw;have na:a' ≠ a:=λz=>by rw [z] at hw;exact q (rL nd hw hi)
  refine ⟨xs',b.at na e',?_⟩;have:f' w=f w:=funext λk=>e2 w k λz=>q z.1;rw [this];exact r.flat t (gF _ _)
theorem iV.put1{H H':Hp}{A:Ac}{W:Wt}{nW L:Nat}{f f' g:Nat->Nat->Rat}(h:iV H A nW L f g)(n:RK A W){i j:Nat}{a:Addr}{xs:List V}{v:V}(hi:A.as[i]?=some a)(ha:H a=some (.lst xs))(b:aK a H H')(e:H' a=some (.lst (xs.set j v)))(rv:bO H' (fK (eZ (f' i j))) v)(e2:∀w k,¬(w=i/\k=j)->f' w k=f w k):iV H' A nW L f' g:=by
 have t:=b.t ha;have ma:=aR hi;have mc:a∈chg A W:=aH _ (aH _ (bQ _ ma));obtain ⟨kvs,d1,d2,d3⟩:=h.dic;have nd:=n.rows.2.2;rw [List.nodup_append] at nd;refine ⟨⟨kvs,b.at (λz=>by rw [z,ha] at d1;cases d1) d1,d2,d3⟩,b.at (λz=>n.t1.1 (z ▸ mc)) h.e1,b.at (λz=>n.t1.2.1 (z ▸ mc)) h.e2,h.la,h.lb,h.ra.put nd.1 hi ha b e rv e2,h.rb.keep t λb' hb o e'=>b.at (λz=>nd.2.2 a ma b' hb z.symm) e'⟩
theorem iV.put2{H H':Hp}{A:Ac}{W:Wt}{nW L:Nat}{f g g':Nat->Nat->Rat}(h:iV H A nW L f g)(n:RK A W){i j:Nat}{a:Addr}{xs:List V}{v:V}(hi:A.bs[i]?=some a)(ha:H a=some (.lst xs))(b:aK a H H')(e:H' a=some (.lst (xs.set j v)))(rv:bO H' (fK (eZ (g' i j))) v)(e2:∀w k,¬(w=i/\k=j)->g' w k=g w k):iV H' A nW L f g':=by
 have t:=b.t ha;have ma:=aR hi;have mc:a∈chg A W:=aH _ (aH _ (bE _ ma));obtain ⟨kvs,d1,d2,d3⟩:=h.dic;have nd:=n.rows.2.2;rw [List.nodup_append] at nd;refine ⟨⟨kvs,b.at (λz=>by rw [z,ha] at d1;cases d1) d1,d2,d3⟩,b.at (λz=>n.t1.1 (z ▸ mc)) h.e1,b.at (λz=>n.t1.2.1 (z ▸ mc)) h.e2,h.la,h.lb,h.ra.keep t λb' hb o e'=>b.at (λz=>nd.2.2 b' hb a ma z) e',h.rb.put nd.2.1 hi ha b e rv e2⟩
theorem iV.eq{H:Hp}{A:Ac}{nW L:Nat}{f f' g g':Nat->Nat->Rat}(h:iV H A nW L f g)(e1:∀i,i<nW->∀j,j<nW->f' i j=f i j)(e2:∀i,i<nW->∀j,j<L->g' i j=g i j):iV H A nW L f' g':=by
 have go:∀{ls:List Addr} {n:Nat} {f f':Nat->Nat->Rat},ls.length=nW->xK H ls n f->(∀i,i<nW->∀j,j<n->f' i j=f i j)->xK H ls n f':=λ{ls n f f'} hl r e i a hi=>by
  obtain ⟨xs,hx,rx⟩:=r i a hi;have hin:i<nW:=by rw [<-hl];exact (aL.mp hi).1
  refine ⟨xs,hx,?_⟩;have:mP (f' i) n=mP (f i) n:=dE λj hj=>by rw [e i hin j (cE.mp hj)]
  rw [this];exact rx
 exact ⟨h.dic,h.e1,h.e2,h.la,h.lb,go h.la h.ra e1,go h.lb h.rb e2⟩
theorem uX{C:Addr}{H:Hp}{A:Ac}{W:Wt}{nW L F:Nat}{f g:Nat->Nat->Rat}{es:List bI}{ts:List dS}(h:iV H A nW L f g)(wa:jT C H W F es ts){b:Addr}(hb:b∈chg A W){zs:List V}(z:H b=some (.tup zs)):False:=by
 obtain ⟨xs,ht,_⟩:=wa.told;obtain ⟨ys,hs,_⟩:=wa.stds;rcases aQ.mp hb with rfl | hb
 ·rw [ht] at z;cases z
 rcases aQ.mp hb with rfl | hb
 ·rw [hs] at z;cases z
 rcases dF.mp hb with hb | hb
 ·obtain ⟨i,hi⟩:=cN.mp hb;obtain ⟨us,e,_⟩:=h.ra i b hi;rw [e] at z;cases z
 ·obtain ⟨i,hi⟩:=cN.mp hb;obtain ⟨us,e,_⟩:=h.rb i b hi;rw [e] at z;cases z
theorem GA{C:Addr}{H:Hp}{A:Ac}{W:Wt}{nW L F:Nat}{f g:Nat->Nat->Rat}{es:List bI}{ts:List dS}(h:iV H A nW L f g)(wa:jT C H W F es ts){b:Addr}(hb:b∈chg A W)(z:H b=none):False:=by
 obtain ⟨xs,ht,_⟩:=wa.told;obtain ⟨ys,hs,_⟩:=wa.stds;rcases aQ.mp hb with rfl | hb
 ·rw [ht] at z;cases z
 rcases aQ.mp hb with rfl | hb
 ·rw [hs] at z;cases z
 rcases dF.mp hb with hb | hb
 ·obtain ⟨i,hi⟩:=cN.mp hb;obtain ⟨us,e,_⟩:=h.ra i b hi;rw [e] at z;cases z
 ·obtain ⟨i,hi⟩:=cN.mp hb;obtain ⟨us,e,_⟩:=h.rb i b hi;rw [e] at z;cases z
theorem jT.listN{C:Addr}{H H':Hp}{W:Wt}{F:Nat}{es:List bI}{ts:List dS}(w:jT C H W F es ts){l:Addr}{xs:List V}(b:aK l H H')(hl:H l=some (.lst xs))(n1:W.t≠l)(n2:W.s≠l):jT C H' W F es ts:=by
 obtain ⟨xs',e1,r1⟩:=w.told;obtain ⟨ys',e2,r2⟩:=w.stds;have t:=b.t hl;exact ⟨w.wi.list b hl,⟨xs',b.at n1 e1,r1.flat t (jO _)⟩,⟨ys',b.at n2 e2,r2.flat t (lZ _)⟩,w.ne⟩
theorem HX{n k:Nat}(h:k<n):xB n (k:Nat)=some k:=by
 unfold xB;rw [if_pos Oo,if_pos Oo];congr 1
abbrev JS:Stmt:=(top 57)
theorem oQ:bR ["_law_case","_law_watch","_law_shares_here","_law_half","_law_trial_here","_law_rule_here","_law_found","_law_due","_law_k","_law_way","_law_says_here","_law_steps","_law_face","_law_place","_law_lot","_law_kind","_law_thing","_law_parts","_law_former"] ["_law_case","_law_watch","_law_shares_here","_law_half"] (aO JS):=⟨rfl,rfl,rfl,Kk,rfl,Kk,Kk⟩
def fu(M:Nat)(s:xI):Nat:=2*(M-s.1.sum)+(match s.2 with | none=>2 | some 0=>1 | some (_+1)=>0)
abbrev sQ(ws:List (Str × List Fr))(i:Nat):List Fr:=(ws.getD i ("",[])).2
abbrev pS(j:Nat):Nat->Nat->Bool:=λa _=>decide (a=j)
abbrev pE(j:Nat):Nat->Nat->Bool:=λ_ m=>decide (m=j)
structure GH(F nW M L Nq:Nat)(es:List bI)(ts:List dS)(fs:List Str)(ws:List (Str × List Fr)):Prop where
 ok:xL F nW M es
 rt:Rt es F ts
 lf:fs.length=F
 lw:ws.length=nW
 f4:F<=4
 w4:nW<=4
 mL:M<L
 l9:L<=9
 q0:0<Nq
 qz:Nq<2^120
 qc:LC ∣ Nq
 sl:∀x∈ws,x.2.length=F
 sh:∀x∈ws,∀f∈x.2,Fn Nq 1 f
structure RJ(Nq nW L B:Nat)(f g:Nat->Nat->Rat):Prop where
 a:∀i j,Qn (Nq^14) B (f i j)
 b:∀i j,Qn (Nq^14) B (g i j)
structure aBa(nW L n:Nat)(es:List bI)(F:Nat)(ws:List (Str × List Fr))(s:xI)(Sh:Nat->Rat)(f g f' g':Nat->Nat->Rat):Prop where
 a:∀i,i<nW->∀j,j<nW->f' i j=f i j+Sh i*U (pS j) es F (sQ ws i) n s
 b:∀i,i<nW->∀j,j<L->g' i j=g i j+Sh i*U (pE j) es F (sQ ws i) n s
@[irreducible] def mO(C:Addr)(n:Nat):Sp:=λvs H Q _=>∃(W:Wt) (A:Ac) (ca sa:Addr) (t r:V) (F nW M L Nq B k hf:Nat) (es:List bI) (ts:List dS) (fs:List Str) (ws:List (Str × List Fr)) (Sh:Nat->Rat) (f g:Nat->Nat->Rat) (xs:List V),
 vs=[.ref ca,.ref W.a,.ref sa,.int (hf:Int)]/\jT C H W F es ts/\H ca=some (.tup [t,r,.ref A.d])/\bO H (uK fs ws) t/\bO H (AJ es) r/\H sa=some (.lst xs)/\aP H (mP Sh nW) xs/\iV H A nW L f g/\RK A W/\sa ∉ chg A W/\GH F nW M L Nq es ts fs ws/\hf<2/\(∀w,w<nW->Qn (Nq^k) 1 (Sh w))/\k+n<=14/\RJ Nq nW L B f g/\B+5^n<=2^60/\ts.length+n<=30/\fu M (stand es F ts)<n /\
 ∀f' g' H',iV H' A nW L f' g'->aBa nW L n es F ws (stand es F ts) Sh f g f' g'->RJ Nq nW L (B+5^n) f' g'->jT C H' W F es ts->cP (chg A W) H H'->Q (.bl true) H'
theorem CI{C:Addr}{n:Nat}{H:Hp}{Q:VK}{E:XK}{W:Wt}{A:Ac}{ca sa:Addr}{t r:V}{F nW M L Nq B k hf:Nat}{es:List bI}{ts:List dS}{fs:List Str}{ws:List (Str × List Fr)}{Sh:Nat->Rat}{f g:Nat->Nat->Rat}{xs:List V}
  (wa:jT C H W F es ts) (hc:H ca=some (.tup [t,r,.ref A.d])) (rt:bO H (uK fs ws) t) (rr:bO H (AJ es) r) (hs:H sa=some (.lst xs)) (rs:aP H (mP Sh nW) xs) (ac:iV H A nW L f g) (an:RK A W) (ns:sa ∉ chg A W) (g0:GH F nW M L Nq es ts fs ws) (h2:hf<2) (qs:∀w,w<nW->Qn (Nq^k) 1 (Sh w)) (kn:k+n<=14) (aq:RJ Nq nW L B f g) (bz:B+5^n<=2^60) (hl:ts.length+n<=30) (hu:fu M (stand es F ts)<n)
  (q:∀f' g' H',iV H' A nW L f' g'->aBa nW L n es F ws (stand es F ts) Sh f g f' g'->RJ Nq nW L (B+5^n) f' g'->jT C H' W F es ts->cP (chg A W) H H'->Q (.bl true) H'):mO C n [.ref ca,.ref W.a,.ref sa,.int (hf:Int)] H Q E:=by
 unfold mO;exact ⟨W,A,ca,sa,t,r,F,nW,M,L,Nq,B,k,hf,es,ts,fs,ws,Sh,f,g,xs,rfl,wa,hc,rt,rr,hs,rs,ac,an,ns,g0,h2,qs,kn,aq,bz,hl,hu,q⟩
section
theorem aCD(F:iH K "_law_led" "_law_led" JS f fd)(T:jK K mg c):dI P w K mg base dQ 6 f fd ["_law_case","_law_watch","_law_shares_here","_law_half"] (mO c.Watch 0):=by
 refine F.oky oQ λvs H Q E h=>?_;unfold mO at h;obtain ⟨W,A,ca,sa,t,r,F,nW,M,L,Nq,B,k,hf,es,ts,fs,ws,Sh,f,g,xs,rfl,wa,hc,rt,rr,hs,rs,ac,an,ns,g0,h2,qs,kn,aq,bz,hl,hu,q⟩:=h;refine ⟨rfl,λcdv A outer s hr=>?_⟩;exact absurd hu Oo
end
abbrev YC:=dS × (Nat->Rat)
theorem vH:∀d:dS,eP (thD d)=true
 | .look _=>rfl
 | .lot _=>rfl
def RC(H0 H:Hp)(D:Addr)(nW:Nat)(v:V)(st:YC):Prop:=∃a th q ys,v=.ref a/\H a=some (.tup [.str (kdS st.1),th,.ref q])/\bO H (thD st.1) th/\H q=some (.lst ys)/\aP H (mP st.2 nW) ys/\H0 q=none/\q≠D
theorem RC.keep{H0 H H':Hp}{D:Addr}{nW:Nat}{v:V}{st:YC}(h:RC H0 H D nW v st)(t:cG H H')(k:∀b o,H0 b=none->b≠D->H b=some o->H' b=some o):RC H0 H' D nW v st:=by
 obtain ⟨a,th,q,ys,e,h1,h2,h3,h4,h5,h6⟩:=h;exact ⟨a,th,q,ys,e,t _ _ h1,h2.flat t (vH _),k q _ h5 h6 h3,h4.flat t (gF _ _),h5,h6⟩
theorem oX{H0 H H':Hp}{D:Addr}{nW:Nat}(t:cG H H')(k:∀b o,H0 b=none->b≠D->H b=some o->H' b=some o):∀{vs:List V}{sts:List YC},Paired (RC H0 H D nW) vs sts->Paired (RC H0 H' D nW) vs sts
 | _,_,.nil=>.nil
 | _,_,.cons h hs=>.cons (h.keep t k) (oX t k hs)
theorem oH{α β:Type}{R:α->β->Prop}{a:α}{b:β}(h:R a b):∀{as:List α}{bs:List β},Paired R as bs->Paired R (as++[a]) (bs++[b])
 | _,_,.nil=>.cons h .nil
 | _,_,.cons h1 hs=>.cons h1 (oH h hs)
theorem kC{α β:Type}{R:α->β->Prop}:∀{as:List α}{bs:List β},Paired R as bs->∀{i:Nat}{a:α},as[i]?=some a->∃b,bs[i]?=some b/\R a b
 | _,_,.nil,i,a,h=>by simp at h
 | _,_,.cons h hs,0,a,e=>by cases e;exact ⟨_,rfl,h⟩
 | _,_,.cons h hs,i+1,a,e=>by
  obtain ⟨b,h1,h2⟩:=kC hs (show _[i]?=some a by simpa using e);exact ⟨b,by simpa using h1,h2⟩
structure fC(F nW M Nq k n:Nat)(es:List bI)(ts:List dS)(ws:List (Str × List Fr))(Sh:Nat->Rat)(sts:List YC):Prop where
 okd:∀st∈sts,UP F (stand es F ts) st.1
 fu:∀st∈sts,fu M (stand es F (ts++[st.1]))<n
 qn:∀st∈sts,∀w,w<nW->Qn (Nq^(k+1)) 1 (st.2 w)
 few:sts.length<=5
 sum:∀p w,w<nW->cR sts (λst=>st.2 w*U p es F (sQ ws w) n (stand es F (ts++[st.1])))=Sh w*U p es F (sQ ws w) (n+1) (stand es F ts)
theorem MU{α β:Type}(l:List α)(h:α->β)(f:β->Rat):cR (l.map h) f=cR l λa=>f (h a):=by unfold cR;rw [List.map_map];rfl
theorem vJ(n:Nat)(f:Nat->Rat):cR (List.range n) f=dU n f:=rfl
theorem xV{α β:Type}(g:α->List β)(f:β->Rat):∀l:List α,cR (l.flatMap g) f=cR l λa=>cR (g a) f
 | []=>rfl
 | a::l=>by rw [List.flatMap_cons,vK,xV g f l,cH]
abbrev OQ(Sh:Nat->Rat)(ws:List (Str × List Fr))(j:Nat):YC:=(.look j,λw=>Sh w*rv ((sQ ws w).getD j (0,1)))
abbrev iZ(Sh:Nat->Rat)(fs0:List Fr)(hf j:Nat):List YC:=if fs0.getD j (0,1)=(0,1) then [] else [(.lot (gZ fs0 j hf),λw=>Sh w*rv (fs0.getD j (0,1)))]
theorem GH.shf{F nW M L Nq:Nat}{es:List bI}{ts:List dS}{fs:List Str}{ws:List (Str × List Fr)}(g0:GH F nW M L Nq es ts fs ws){w:Nat}(hw:w<nW):(sQ ws w).length=F/\∀f∈sQ ws w,Fn Nq 1 f:=by
 have hm:ws.getD w ("",[])∈ws:=by
  rw [aS,aC (by rw [g0.lw];exact hw)];exact List.getElem_mem _
 exact ⟨g0.sl _ hm,g0.sh _ hm⟩
theorem KN{F nW M L Nq k n:Nat}{es:List bI}{ts:List dS}{fs:List Str}{ws:List (Str × List Fr)}{Sh:Nat->Rat}(g0:GH F nW M L Nq es ts fs ws)(qs:∀w,w<nW->Qn (Nq^k) 1 (Sh w))(ho:(stand es F ts).2=some 0)(hu:fu M (stand es F ts)<n+1):fC F nW M Nq k n es ts ws Sh ((List.range F).map (OQ Sh ws)):=by
 have ir:=g0.rt.inR g0.ok g0.w4;obtain ⟨fs0,he0,sa0,sy0,hz0,hj0⟩:=ir.ex;have hh:=hz0 ho;refine ⟨λst hst=>?_,λst hst=>?_,λst hst w hw=>?_,by rw [aA,cX];have:=g0.f4;omega,λp w hw=>?_⟩
 ·obtain ⟨j,hj,rfl⟩:=aU.mp hst;exact ⟨ho,cE.mp hj⟩
 ·obtain ⟨j,hj,rfl⟩:=aU.mp hst;have hj:=cE.mp hj;rw [jA];show Kw.fu M (come es (bU (stand es F ts).1 j))<n;have gm:=g0.ok.fwd _ he0 hh j hj;obtain ⟨e',he',qq⟩:=aU.mp gm;have h3:=g0.ok.top _ he';rw [qq] at h3;have hs:(bU (stand es F ts).1 j).sum=(stand es F ts).1.sum+1:=iT (by rw [ir.len];exact hj);have:Kw.fu M (come es (bU (stand es F ts).1 j))<=2*(M-(bU (stand es F ts).1 j).sum)+2:=by
   unfold Kw.fu;show 2*(M-(bU (stand es F ts).1 j).sum)+_<=_;split <;> omega
  have hfu:Kw.fu M (stand es F ts)=2*(M-(stand es F ts).1.sum)+1:=by unfold Kw.fu;rw [ho]
  have h3':(bU (stand es F ts).1 j).sum<=M:=h3;omega
 ·obtain ⟨j,hj,rfl⟩:=aU.mp hst;have hj:=cE.mp hj;obtain ⟨l1,l2⟩:=g0.shf hw;have fq:=(l2 _ (kD (a:=(0,1)) (by rw [l1];exact hj))).q;exact (qs w hw).mul fq
 ·rw [MU,vJ];show _=Sh w*(match (stand es F ts).2 with | some (k+1)=>if p k (stand es F ts).1.sum=true then (1:Rat) else 0 | some 0=>dU F λj=>rv ((sQ ws w).getD j (0,1))*U p es F (sQ ws w) n (come es (bU (stand es F ts).1 j)) | none=>dU (sy es (stand es F ts).1).length λk=>fq es (stand es F ts).1 k*U p es F (sQ ws w) n ((stand es F ts).1,some k));rw [ho];show _=Sh w*dU F λj=>rv ((sQ ws w).getD j (0,1))*U p es F (sQ ws w) n (come es (bU (stand es F ts).1 j));rw [<-lP];refine cY λj _=>?_;rw [jA];show Sh w*rv ((sQ ws w).getD j (0,1))*U p es F (sQ ws w) n (come es (bU (stand es F ts).1 j))=_;grind
theorem OX{F nW M L Nq k n hf:Nat}{es:List bI}{ts:List dS}{fs:List Str}{ws:List (Str × List Fr)}{Sh:Nat->Rat}{fs0:List Fr}(g0:GH F nW M L Nq es ts fs ws)(qs:∀w,w<nW->Qn (Nq^k) 1 (Sh w))(ho:(stand es F ts).2=none)(hu:fu M (stand es F ts)<n+1)(sa0:fQ es (stand es F ts).1=some fs0)(sy0:nE (1+nW) fs0):fC F nW M Nq k n es ts ws Sh ((List.range fs0.length).flatMap (iZ Sh fs0 hf)):=by
 have l0:=sy0.lenN;have w4:=g0.w4;have mem:∀st∈(List.range fs0.length).flatMap (iZ Sh fs0 hf),∃j,j<fs0.length/\fs0.getD j (0,1)≠(0,1)/\st=(.lot (gZ fs0 j hf),λw=>Sh w*rv (fs0.getD j (0,1))):=λst hst=>by
  obtain ⟨j,hj,h⟩:=List.mem_flatMap.mp hst;unfold iZ at h;by_cases z:fs0.getD j (0,1)=(0,1)
  ·rw [if_pos z] at h;cases h
  ·rw [if_neg z] at h;exact ⟨j,cE.mp hj,z,cM.mp h⟩
 have st1:∀j,j<fs0.length->fs0.getD j (0,1)≠(0,1)->stand es F (ts++[.lot (gZ fs0 j hf)])=((stand es F ts).1,some j):=λj hj nz=>by
  rw [jA];show ((stand es F ts).1,some (drw ((fQ es (stand es F ts).1).getD []) _))=_;rw [sa0];show ((stand es F ts).1,some (drw fs0 _))=_;rw [(yI sy0 hj nz hf).2.2]
 refine ⟨λst hst=>?_,λst hst=>?_,λst hst w hw=>?_,?_,λp w hw=>?_⟩
 ·obtain ⟨j,hj,nz,rfl⟩:=mem st hst;obtain ⟨h1,h2,_⟩:=yI sy0 hj nz hf;exact ⟨ho,h1,h2⟩
 ·obtain ⟨j,hj,nz,rfl⟩:=mem st hst;show Kw.fu M (stand es F (ts++[.lot (gZ fs0 j hf)]))<n;rw [st1 j hj nz];have hfu:Kw.fu M (stand es F ts)=2*(M-(stand es F ts).1.sum)+2:=by unfold Kw.fu;rw [ho]
  have:Kw.fu M ((stand es F ts).1,some j)<=2*(M-(stand es F ts).1.sum)+1:=by
   unfold Kw.fu;show 2*(M-(stand es F ts).1.sum)+_<=_;cases j with
   | zero=>exact aG _
   | succ j=>exact Nat.le_succ _
  omega
 ·obtain ⟨j,hj,nz,rfl⟩:=mem st hst;exact (qs w hw).mul ((sy0.fn _ (kD (a:=(0,1)) hj)).1.q.dvd g0.qc)
 ·have:∀m,((List.range m).flatMap (iZ Sh fs0 hf)).length<=m:=λm=>by
   induction m with
   | zero=>exact aG _
   | succ m ih =>
    rw [List.range_succ,List.flatMap_append,bK,List.flatMap_cons,List.flatMap_nil,List.append_nil];have:(iZ Sh fs0 hf m).length<=1:=by unfold iZ;split <;> simp
    omega
  have:=this fs0.length;omega
 ·rw [xV,vJ];show _=Sh w*(match (stand es F ts).2 with | some (k+1)=>if p k (stand es F ts).1.sum=true then (1:Rat) else 0 | some 0=>dU F λj=>rv ((sQ ws w).getD j (0,1))*U p es F (sQ ws w) n (come es (bU (stand es F ts).1 j)) | none=>dU (sy es (stand es F ts).1).length λk=>fq es (stand es F ts).1 k*U p es F (sQ ws w) n ((stand es F ts).1,some k));rw [ho];have sy0':sy es (stand es F ts).1=fs0:=by unfold sy;rw [sa0];rfl
  show _=Sh w*dU (sy es (stand es F ts).1).length λk=>fq es (stand es F ts).1 k*U p es F (sQ ws w) n ((stand es F ts).1,some k);rw [sy0',<-lP];refine cY λj hj=>?_;have ef:fq es (stand es F ts).1 j=rv (fs0.getD j (0,1)):=by unfold fq;rw [sy0']
  rw [ef];unfold iZ;by_cases z:fs0.getD j (0,1)=(0,1)
  ·rw [if_pos z,z,jI,eN];grind
  ·rw [if_neg z,cH,eN];show Sh w*rv (fs0.getD j (0,1))*U p es F (sQ ws w) n (stand es F (ts++[.lot (gZ fs0 j hf)]))+0=_;rw [st1 j hj z];grind
theorem OG{x:Rat}{f:Fr}(h:cS f):jX (eZ x) f=eZ (x*rv f):=by
 have:=OH x (rv f)
 rwa [PC h] at this
theorem OP(Sh:Nat->Rat)(fs0:List Fr)(hf:Nat):∀m,((List.range m).flatMap (iZ Sh fs0 hf)).length<=m:=λm=>by
 induction m with
 | zero=>exact aG _
 | succ m ih =>
  rw [List.range_succ,List.flatMap_append,bK,List.flatMap_cons,List.flatMap_nil,List.append_nil];have:(iZ Sh fs0 hf m).length<=1:=by unfold iZ;split <;> simp
  omega
theorem BE(ts:List dS):PyData.canLayAll0 (ts.map rY)=true/\PyData.depthAll (ts.map rY)<=4:=by
 induction ts with
 | nil=>exact ⟨rfl,by show 0<=4;omega⟩
 | cons d ts ih =>
  refine ⟨?_,?_⟩
  ·show (PyData.canLay0 (rY d)&&PyData.canLayAll0 (ts.map rY))=true;rw [ih.1];cases d <;> simp [rY,PyData.canLay0,PyData.canLayAll0] <;> decide +kernel
  ·show max (PyData.depth (rY d)) (PyData.depthAll (ts.map rY))<=4;have:PyData.depth (rY d)<=4:=by cases d <;> simp [rY,PyData.depth,PyData.depthAll]
   have:=ih.2;omega
theorem wV(ts:List dS):SeqAt.shaped (.list (ts.map rY))=true:=by
 unfold SeqAt.shaped;rw [show PyData.canLay0 (.list (ts.map rY))=PyData.canLayAll0 (ts.map rY) from rfl,(BE ts).1,Bool.true_and,decide_eq_true_eq];have:=(BE ts).2;simp only [PyData.depth];omega
theorem PM(ts:List dS):PyData.hasDictAll (ts.map rY)=false:=by
 induction ts with
 | nil=>rfl
 | cons d ts ih =>
  show (PyData.hasDict (rY d) || PyData.hasDictAll (ts.map rY))=false;rw [ih];cases d <;> rfl
def zT:Option Nat->Option Nat
 | some (j+1)=>some j
 | _=>none
theorem MD:∀o:Option Nat,YK o=plV (zT o)
 | none=>rfl
 | some 0=>rfl
 | some (_+1)=>rfl
abbrev XU(s:xI)(ts:List dS):PyData:=.tuple [.str (pM s.2),nB s.1,LQ (zT s.2),.list (ts.map rY)]
theorem IH(c:List Nat):PyData.canLayAll0 (c.map λ(n:Nat)=>PyData.int (n:Int))=true/\PyData.depthAll (c.map λ(n:Nat)=>PyData.int (n:Int))<=1/\PyData.hasDictAll (c.map λ(n:Nat)=>PyData.int (n:Int))=false:=by
 have e:(c.map λ(n:Nat)=>PyData.int (n:Int))=(ci c).map PyData.int:=by unfold ci;rw [List.map_map];rfl
 refine ⟨by rw [e];exact yJ _,by rw [e];exact ID _,?_⟩
 induction c with
 | nil=>rfl
 | cons a c ih=>exact ih (by unfold ci;rw [List.map_map];rfl)
theorem yO(s:xI)(ts:List dS):SeqAt.shaped (XU s ts)=true:=by
 unfold SeqAt.shaped;obtain ⟨h1,h2,_⟩:=IH s.1;obtain ⟨h3,h4⟩:=BE ts;have e1:PyData.canLay0 (XU s ts)=(PyData.canLay0 (.str (pM s.2))&&(PyData.canLayAll0 (s.1.map λ(n:Nat)=>PyData.int (n:Int))&&(PyData.canLay0 (LQ (zT s.2))&&(PyData.canLayAll0 (ts.map rY)&&true)))):=rfl;have e2:PyData.canLay0 (.str (pM s.2))=true:=by
  match s.2 with
  | none=>decide +kernel
  | some 0=>decide +kernel
  | some (_+1)=>show PyData.canLay0 (.str ("" : Str))=true;decide +kernel
 have e3:PyData.canLay0 (LQ (zT s.2))=true:=by cases zT s.2 <;> rfl
 rw [e1,e2,e3,h1,h3];have d1:PyData.depth (XU s ts)<=8:=by
  have:PyData.depth (LQ (zT s.2))<=1:=by cases zT s.2 <;> simp [LQ,PyData.depth]
  simp only [XU,PyData.depth,PyData.depthAll] at *;omega
 simp only [Bool.and_true,Bool.true_and,decide_eq_true_eq];omega
theorem aCe(s:xI)(ts:List dS):PyData.hasDict (XU s ts)=false:=by
 have e1:PyData.hasDict (XU s ts)=(PyData.hasDict (.str (pM s.2)) || (PyData.hasDictAll (s.1.map λ(n:Nat)=>PyData.int (n:Int)) || (PyData.hasDict (LQ (zT s.2)) || (PyData.hasDictAll (ts.map rY) || false)))):=rfl;rw [e1,(IH s.1).2.2,PM];cases zT s.2 <;> rfl
theorem RJ.le{Nq nW L B C:Nat}{f g:Nat->Nat->Rat}(h:RJ Nq nW L B f g)(hb:B<=C):RJ Nq nW L C f g:=⟨λi j=>(h.a i j).le hb,λi j=>(h.b i j).le hb⟩
theorem xT{α:Type}{l:List α}{f:α->Rat}{i:Nat}{a:α}(h:l[i]?=some a):cR (l.take (i+1)) f=cR (l.take i) f+f a:=by
 rw [List.take_succ,h];exact sM _ _ _
section
theorem aDr(n:Nat)(F:iH K "_law_led" "_law_led" JS f fd)(T:jK K mg c)(FQ3:tS P w K mg base 1 c.Watch "due" ["self"] (oA c.Watch))(FQ7:tS P w K mg base 1 c.Watch "seen" ["self"] (lA c.Watch))(FQ9:tS P w K mg base 2 c.Watch "way" ["self"] (sN c.Watch))(FQ8:tS P w K mg base 1 c.Watch "trail" ["self"] (kJ c.Watch))
  (FQ1:tS P w K mg base 1 c.Watch "back" ["self"] (pB c.Watch)) (FQ22:gT dQ P w K mg base 5 "_law_tell" ["_law_watch","_law_kind","_law_thing"] (qU c.Watch)) (FQ21:gT dQ P w K mg base 3 "_law_stretch" ["_law_says_here","_law_place"] kL)
  (FQ16:gT dQ P w K mg base 2 "_law_mul" ["_law_one","_law_other"] (kB K)) (FQ10:gT dQ P w K mg base 2 "_law_add" ["_law_one","_law_other"] (lW K)) (FQ13:gT dQ P w K mg base (6+n) "_law_led" ["_law_case","_law_watch","_law_shares_here","_law_half"] (mO c.Watch n)):dI P w K mg base dQ (6+n+1) f fd ["_law_case","_law_watch","_law_shares_here","_law_half"] (mO c.Watch (n+1)):=by
 refine F.oky oQ λvs H Q E h=>?_;unfold mO at h;obtain ⟨W,A,ca,sa,t,r,F,nW,M,L,Nq,B,k,hf,es,ts,fs,ws,Sh,f,g,xs,rfl,wa,hc,rt,rr,hs,rs,ac,an,ns,g0,h2,qs,kn,aq,bz,hl,hu,q⟩:=h;refine ⟨rfl,λcdv Ay outer s hr=>?_⟩;have ir:=g0.rt.inR g0.ok g0.w4;obtain ⟨fs0,he0,sa0,sy0,hz0,hj0⟩:=ir.ex;have sy0':sy es (stand es F ts).1=fs0:=by unfold sy;rw [sa0];rfl
 have l0:=sy0.lenN;have top0:(stand es F ts).1.sum<=M:=g0.ok.top _ he0;have nq14:0<Nq^14:=Nat.pow_pos g0.q0;have nz14:Nq^14<2^2500:=aT (Nat.pow_lt_pow_left g0.qz Dd) (by rw [<-Nat.pow_mul];exact aV Dd Dd);have w4:=g0.w4;have f4:=g0.f4;have b60:(2:Nat)^60<=2^200:=aV Dd Dd;have szA:∀{B':Nat} {x:Rat},Qn (Nq^14) B' x->B'<=2^60->lK 4000 (eZ x):=λh hb=>qB h nq14 nz14 (bC hb b60);have up14:∀{k':Nat} {x:Rat},k'<=14->Qn (Nq^k') 1 x->Qn (Nq^14) 1 x:=λhk h=>h.dvd (Nat.pow_dvd_pow _ hk);have lx:xs.length=nW:=uN rs;refine ⟨_,(aJ (kG (aE 0) (pZ rfl (eM (dR (i:=4) oQ.nd rfl (Or.inr rfl)) (eM (dR (i:=5) oQ.nd rfl (Or.inl rfl)) (eM (dR (i:=6) oQ.nd rfl (Or.inl rfl)) mG)))))
  (aJ (bN (i:=7) oQ.nd rfl (Or.inl rfl) (eR FQ3 T.w_Watch.cls (hr.mono Oo) (aE 1)))
  (aJ (gY (eB oI (aE 7) dL (nomark _)) (aJ (bN (i:=8) oQ.nd rfl (Or.inl rfl) (eC (uV K rfl) (by rfl) T.b_sum Kk (aI (eR FQ7 T.w_Watch.cls (hr.mono Oo) (aE 1)) aD)))
  (aJ (gL PassesOwn.never rfl (dD rfl T.b_range (aI (eC fY (by rfl) T.b_len Kk (aI (aE 2) aD)) aD)) (dR (i:=9) oQ.nd rfl (Or.inl rfl)) (aJ (kG (bW FQ10 (hr.mono Oo) (aI (bH aZ (bH aZ (iN hr.u1 (aE 6) dL) (aE 9) (λ_ _=>rfl)) (eR FQ9 T.w_Watch.cls (hr.mono Oo) (aE 1)) (λ_ _=>rfl)) (aI (bH aZ (aE 2) (aE 9) (λ_ _=>rfl)) aD))) (lG (bH aZ (iN hr.u1 (aE 6) dL) (aE 9) (λ_ _=>rfl)) (eR FQ9 T.w_Watch.cls (hr.mono Oo) (aE 1)) hU))
  (aX (kG (bW FQ10 (hr.mono Oo) (aI (bH aZ (bH aZ (iN hr.u1 (aE 6) dL) (aE 9) (λ_ _=>rfl)) (aE 8) (λ_ _=>rfl)) (aI (bH aZ (aE 2) (aE 9) (λ_ _=>rfl)) aD))) (lG (bH aZ (iN hr.u1 (aE 6) dL) (aE 9) (λ_ _=>rfl)) (aE 8) hU)))))
  (aX (cC pP)))) eQ)
  (aJ (bN (i:=10) oQ.nd rfl (Or.inr rfl) (iN hr.u1 (iY (DT hr.units rfl) (by rfl) T.b_dict Kk (aI (aE 5) aD)) (eR FQ7 T.w_Watch.cls (hr.mono Oo) (aE 1))))
  (aJ (bN (i:=11) oQ.nd rfl (Or.inl rfl) (fO aD))
  (aJ (zO (gY (eB oI (aE 7) dL (nomark _)) (aX (gL PassesOwn.never rfl (dD rfl T.b_range (aI (eC fY (by rfl) T.b_len Kk (aI (bH aZ (aE 4) aF (λ_ _=>rfl)) aD)) aD)) (dR (i:=12) oQ.nd rfl (Or.inr rfl)) (aX (fA (qO PySem.F.plainAttrs_list PySem.F.slot_list_append PySem.F.type_list_append oM (aE 11) (aI (dO (aI dL (aI (aE 12) (aI (eS (dY.of (psc:=aO JS) (N:=["_law_case","_law_watch","_law_shares_here","_law_half","_law_trial_here","_law_rule_here","_law_found","_law_due","_law_k","_law_way","_law_says_here","_law_steps","_law_face","_law_place","_law_lot","_law_kind","_law_thing","_law_parts","_law_former"]) (N':=["_law_way","_law_shares_here","_law_trial_here","_law_face"]) (js:=[2,4,12]) Kk rfl rfl rfl) (dD rfl T.b_range (aI (eC fY (by rfl) T.b_len Kk (aI (aE 2) aD)) aD)) (λ_ _ _ _=>eJ) (λ_ _ _ _=>(bW FQ16 (hr.mono Oo) (aI (bH (iF K) (aE 1) (aE 0) (λ_ _=>rfl)) (aI (bH (iF K) (bH (iF K) (bH (iF K) (bH (iF K) (aE 2) aF (λ_ _=>rfl)) (aE 0) (λ_ _=>rfl)) aF (λ_ _=>rfl)) (aE 3) (λ_ _=>rfl)) aD))))) aD)))) aD)))))) (aX (gL PassesOwn.never rfl (dD rfl T.b_range (aI (eC fY (by rfl) T.b_len Kk (aI (aE 10) aD)) aD)) (dR (i:=13) oQ.nd rfl (Or.inr rfl)) (aX (gY (eB (AO hr.units) (bH aZ (aE 10) (aE 13) (λ_ _=>rfl)) (dO (aI aF (aI aF aD))) (nomark _)) (aJ (bN (i:=14) oQ.nd rfl (Or.inl rfl) (bH aZ (bW FQ21 (hr.mono Oo) (aI (aE 10) (aI (aE 13) aD))) (aE 3) (λ_ _=>rfl)))
  (aX (fA (qO PySem.F.plainAttrs_list PySem.F.slot_list_append PySem.F.type_list_append oM (aE 11) (aI (dO (aI dL (aI (aE 14) (aI (eS (dY.of (psc:=aO JS) (N:=["_law_case","_law_watch","_law_shares_here","_law_half","_law_trial_here","_law_rule_here","_law_found","_law_due","_law_k","_law_way","_law_says_here","_law_steps","_law_face","_law_place","_law_lot","_law_kind","_law_thing","_law_parts","_law_former"]) (N':=["_law_share","_law_says_here","_law_place"]) (js:=[10,13]) Kk rfl rfl rfl) (iE (aE 2)) (λ_ _ _ _=>eJ) (λ_ _ _ _=>(bW FQ16 (hr.mono Oo) (aI (aE 0) (aI (bH (iF K) (aE 1) (aE 2) (λ_ _=>rfl)) aD))))) aD)))) aD))))) eQ))))))
  (aJ (gL PassesOwn.never rfl (iE (aE 11)) (pZ rfl (eM (dR (i:=15) oQ.nd rfl (Or.inl rfl)) (eM (dR (i:=16) oQ.nd rfl (Or.inl rfl)) (eM (dR (i:=17) oQ.nd rfl (Or.inl rfl)) mG)))) (aJ (bN (i:=18) oQ.nd rfl (Or.inl rfl) (dO (aI (eR FQ3 T.w_Watch.cls (hr.mono Oo) (aE 1)) (aI (eR FQ7 T.w_Watch.cls (hr.mono Oo) (aE 1)) (aI (eR FQ9 T.w_Watch.cls (hr.mono Oo) (aE 1)) (aI (eR FQ8 T.w_Watch.cls (hr.mono Oo) (aE 1)) aD))))))
  (aJ (fA (bW FQ22 (hr.mono Oo) (aI (aE 1) (aI (aE 15) (aI (aE 16) aD)))))
  (aJ (gY (RS (IX (BQ (eB (AO hr.units) (eR FQ8 T.w_Watch.cls (hr.mono Oo) (aE 1)) (bY OE (bH aZ (aE 18) aF (λ_ _=>rfl)) (fO (aI (dO (aI (aE 15) (aI (aE 16) aD))) aD))) (nomark _)) (vA (nI (mF (bW FQ13 (hr.mono Oo) (aI (aE 0) (aI (aE 1) (aI (aE 17) (aI (aE 3) aD))))))))))) (aX (cC pP)) eQ)
  (aJ (fA (eR FQ1 T.w_Watch.cls (hr.mono Oo) (aE 1)))
  (aX (gY (eB (AO hr.units) (dO (aI (eR FQ3 T.w_Watch.cls (hr.mono Oo) (aE 1)) (aI (eR FQ7 T.w_Watch.cls (hr.mono Oo) (aE 1)) (aI (eR FQ9 T.w_Watch.cls (hr.mono Oo) (aE 1)) (aI (eR FQ8 T.w_Watch.cls (hr.mono Oo) (aE 1)) aD))))) (aE 18) (nomark _)) (aX (cC pP)) eQ)))))))
  (aX (cC pP))))))))),?_⟩
 refine ⟨_,rfl,?_⟩;refine ⟨ca,_,rfl,fS.of hc,rfl,_,_,rfl,_,_,rfl,_,_,rfl,rfl,?_⟩;refine ⟨_,rfl,W.a,W.dx,_,rfl,wa.wi.ins,rfl,?_⟩;refine nZ wa ?_;refine ⟨_,rfl,rfl,_,rfl,?_⟩;by_cases hsaid:∃k0,(stand es F ts).2=some (k0+1)
 ·obtain ⟨k0,ho⟩:=hsaid;have hk0:k0<nW:=by have:=hj0 _ ho;omega
  rw [ho];refine lI ?_;refine ⟨_,rfl,W.a,W.dx,_,rfl,wa.wi.ins,rfl,?_⟩;refine kA wa λv rv=>?_;obtain ⟨cu,rfl,hcu⟩:=iR rv;refine rsT (ns:=ci (stand es F ts).1) (by rw [iS];exact fS.of hcu) ?_;rw [BH];generalize hm0:(stand es F ts).1.sum=m0 at *;refine ⟨_,rfl,?_⟩;refine XF hs ?_;rw [lx];refine ⟨_,rfl,Oo,Oo,?_⟩;rw [Int.toNat_natCast];have five:1<=5^(n+1):=Nat.pow_pos Dd;have fin:∀i,RJ Nq nW L (B+5^(n+1)) (λw j=>f w j+if (w<i/\w<nW)/\j=k0 then Sh w else 0) (λw j=>g w j+if (w<i/\w<nW)/\j=m0 then Sh w else 0):=λi=>by
   have go:∀(x:Rat) (w:Nat) (p:Prop) [Decidable p],(p->w<nW)->Qn (Nq^14) B x->Qn (Nq^14) (B+5^(n+1)) (x+if p then Sh w else 0):=λx w p _ hp hx=>by
    by_cases q:p
    ·rw [if_pos q];exact (hx.add (up14 Oo (qs w (hp q)))).le Oo
    ·rw [if_neg q];exact (hx.add (Qn.zero (Nq^14) 1)).le Oo
   exact ⟨λw j=>go _ w _ (λz=>z.1.2) (aq.a w j),λw j=>go _ w _ (λz=>z.1.2) (aq.b w j)⟩
  refine gH (λi σ H'=>∃(o9:Option V),σ=[some (.ref ca),some (.ref W.a),some (.ref sa),some (.int (hf:Int)),some t,some r,some (.ref A.d),some (.str (pM (some (k0+1)))),some (.int (m0:Nat)),o9,none,none,none,none,none,none,none,none,none]/\jT c.Watch H' W F es ts/\cP (chg A W) H H'/\iV H' A nW L (λw j=>f w j+if (w<i/\w<nW)/\j=k0 then Sh w else 0) (λw j=>g w j+if (w<i/\w<nW)/\j=m0 then Sh w else 0)) ⟨_,rfl,wa,cP.of (bF.refl _),ac.eq (λi _ j _=>by rw [if_neg Oo];grind) (λi _ j _=>by rw [if_neg Oo];grind)⟩ ?_ ?_
  ·rintro i σ H1 hi ⟨o9,rfl,wa1,x1,ac1⟩;rw [show (0:Int)+(i:Int)=(i:Int) by omega];have tt1:cG H H1:=x1.t λb hb zs z=>uX ac wa hb z;obtain ⟨kvs,d1,d2,d3⟩:=ac1.dic;obtain ⟨a,ha⟩:∃a,A.as[i]?=some a:=⟨_,aC (by rw [ac.la];exact hi)⟩;obtain ⟨b,hb⟩:∃b,A.bs[i]?=some b:=⟨_,aC (by rw [ac.lb];exact hi)⟩;obtain ⟨ys,ey,ry⟩:=ac1.ra i a ha;obtain ⟨v1,hv1,rv1⟩:=vU ry hk0;have z1:(λw j=>f w j+if (w<i/\w<nW)/\j=k0 then Sh w else 0) i k0=f i k0:=by show f i k0+(if (i<i/\i<nW)/\k0=k0 then Sh i else 0)=_;rw [if_neg Oo];grind
   rw [z1] at rv1;obtain ⟨v2,hv2,rv2⟩:=vU rs hi;have hs1:=x1 _ _ ns hs;have rv2':=rv2.flat tt1 (dB _);have al:(A.as.map V.ref)[i]?=some (.ref a):=by rw [aM,ha];rfl
   have bl:(A.bs.map V.ref)[i]?=some (.ref b):=by rw [aM,hb];rfl
   have sSh:=szA (up14 Oo (qs i hi)) Dd;have bB:B<=2^60:=Oo;refine ⟨_,rfl,?_⟩;refine dgS d1 d2 ?_;refine ⟨_,rfl,?_⟩;refine lF ac1.e1 (cK al) ?_;refine ⟨_,rfl,W.a,W.dx,_,rfl,wa1.wi.ins,rfl,?_⟩;refine qT wa1 ?_;rw [ho];refine lF ey (cK hv1) ?_;refine ⟨_,rfl,_,rfl,?_⟩;refine lF hs1 (cK hv2) ?_;refine mN (gR.of rv1) (gR.of rv2') (bV _) (bV _) (szA (aq.a i k0) bB) sSh λq2 H2 hq2 e2 s2=>?_;have wa2:=wa1.same s2;have ac2:=ac1.same s2;refine ⟨_,rfl,?_⟩;refine dgS (s2 _ _ d1) d2 ?_;refine ⟨_,rfl,?_⟩;refine lF ac2.e1 (cK al) ?_;refine ⟨_,rfl,W.a,W.dx,_,rfl,wa2.wi.ins,rfl,?_⟩;refine qT wa2 ?_;rw [ho];have hk:xB ys.length (k0:Nat)=some k0:=HX (by rw [uN ry];exact hk0);refine stL (s2 _ _ ey) hk ?_;have b3:=aK.self (p:=a) (H:=H2) (o:=.lst (ys.set k0 (.ref q2)));have e3:(upd H2 a (.lst (ys.set k0 (.ref q2)))) a=some (.lst (ys.set k0 (.ref q2))):=bJ;generalize upd H2 a (.lst (ys.set k0 (.ref q2)))=H3 at b3 e3 ⊢;have ma:=aR ha;have mb:=aR hb;have nA:=an.rows;have wa3:=wa2.listN b3 (s2 _ _ ey) (λz=>nA.1 (z ▸ bQ _ ma)) (λz=>nA.2.1 (z ▸ bQ _ ma));have t3:=b3.t (s2 _ _ ey);have rq2:bO H3 (fK (eZ (f i k0+Sh i))) (.ref q2):=by
    have:=(fD e2).flat t3 (dB _)
    rwa [QP] at this
   have ac3:iV H3 A nW L (λw j=>f w j+if (w<i+1/\w<nW)/\j=k0 then Sh w else 0) (λw j=>g w j+if (w<i/\w<nW)/\j=m0 then Sh w else 0):=by
    refine ac2.put1 an ha (s2 _ _ ey) b3 e3 ?_ λw j hwj=>?_
    ·show bO H3 (fK (eZ (f i k0+if (i<i+1/\i<nW)/\k0=k0 then Sh i else 0))) _;rw [if_pos ⟨⟨Oo,hi⟩,rfl⟩];exact rq2
    ·show f w j+(if (w<i+1/\w<nW)/\j=k0 then Sh w else 0)=f w j+if (w<i/\w<nW)/\j=k0 then Sh w else 0
     congr 1;by_cases z:(w<i/\w<nW)/\j=k0
     ·rw [if_pos z,if_pos ⟨⟨Oo,z.1.2⟩,z.2⟩]
     ·rw [if_neg z,if_neg (λh=>z ⟨⟨by have:=hwj;omega,h.1.2⟩,h.2⟩)]
   have x3:cP (chg A W) H H3:=(x1.trans (cP.of s2)).trans (cP.but b3 (aH _ (aH _ (bQ _ ma))));have tt3:cG H H3:=x3.t λb hb zs z=>uX ac wa hb z;have hs3:=x3 _ _ ns hs;obtain ⟨kvs3,d13,d23,d33⟩:=ac3.dic;obtain ⟨us,eu,ru⟩:=ac3.rb i b hb;have hm0L:m0<L:=by have:=g0.mL;omega
   obtain ⟨v4,hv4,rv4⟩:=vU ru hm0L;have z4:(λw j=>g w j+if (w<i/\w<nW)/\j=m0 then Sh w else 0) i m0=g i m0:=by show g i m0+(if (i<i/\i<nW)/\m0=m0 then Sh i else 0)=_;rw [if_neg Oo];grind
   rw [z4] at rv4;have rv5:=rv2.flat tt3 (dB _);refine ⟨_,rfl,?_⟩;refine dgS d13 d33 ?_;refine ⟨_,rfl,?_⟩;refine lF ac3.e2 (cK bl) ?_;refine ⟨_,rfl,?_⟩;refine lF eu (cK hv4) ?_;refine ⟨_,rfl,_,rfl,?_⟩;refine lF hs3 (cK hv2) ?_;refine mN (gR.of rv4) (gR.of rv5) (bV _) (bV _) (szA (aq.b i m0) bB) sSh λq5 H5 hq5 e5 s5=>?_;have wa5:=wa3.same s5;have ac5:=ac3.same s5;refine ⟨_,rfl,?_⟩;refine dgS (s5 _ _ d13) d33 ?_;refine ⟨_,rfl,?_⟩;refine lF ac5.e2 (cK bl) ?_;refine ⟨_,rfl,?_⟩;have hk':xB us.length (m0:Nat)=some m0:=HX (by rw [uN ru];exact hm0L);refine stL (s5 _ _ eu) hk' ?_;have b6:=aK.self (p:=b) (H:=H5) (o:=.lst (us.set m0 (.ref q5)));have e6:(upd H5 b (.lst (us.set m0 (.ref q5)))) b=some (.lst (us.set m0 (.ref q5))):=bJ;generalize upd H5 b (.lst (us.set m0 (.ref q5)))=H6 at b6 e6 ⊢;have wa6:=wa5.listN b6 (s5 _ _ eu) (λz=>nA.1 (z ▸ bE _ mb)) (λz=>nA.2.1 (z ▸ bE _ mb));have t6:=b6.t (s5 _ _ eu);have rq5:bO H6 (fK (eZ (g i m0+Sh i))) (.ref q5):=by
    have:=(fD e5).flat t6 (dB _)
    rwa [QP] at this
   refine ⟨_,rfl,wa6,(x3.trans (cP.of s5)).trans (cP.but b6 (aH _ (aH _ (bE _ mb)))),?_⟩;refine ac5.put2 an hb (s5 _ _ eu) b6 e6 ?_ λw j hwj=>?_
   ·show bO H6 (fK (eZ (g i m0+if (i<i+1/\i<nW)/\m0=m0 then Sh i else 0))) _;rw [if_pos ⟨⟨Oo,hi⟩,rfl⟩];exact rq5
   ·show g w j+(if (w<i+1/\w<nW)/\j=m0 then Sh w else 0)=g w j+if (w<i/\w<nW)/\j=m0 then Sh w else 0
    congr 1;by_cases z:(w<i/\w<nW)/\j=m0
    ·rw [if_pos z,if_pos ⟨⟨Oo,z.1.2⟩,z.2⟩]
    ·rw [if_neg z,if_neg (λh=>z ⟨⟨by have:=hwj;omega,h.1.2⟩,h.2⟩)]
  ·rintro σ H1 ⟨o9,rfl,wa1,x1,ac1⟩;refine q _ _ H1 ac1 ⟨λi hi j hj=>?_,λi hi j hj=>?_⟩ (fin nW) wa1 x1
   ·show f i j+(if (i<nW/\i<nW)/\j=k0 then Sh i else 0)=_;have:U (pS j) es F (sQ ws i) (n+1) (stand es F ts)=if j=k0 then 1 else 0:=by
     show (match (stand es F ts).2 with | some (k+1)=>if pS j k (stand es F ts).1.sum=true then (1:Rat) else 0 | some 0=>_ | none=>_)=_;rw [ho];show (if decide (k0=j)=true then (1:Rat) else 0)=_;by_cases z:k0=j
     ·rw [if_pos (by simp [z]),if_pos z.symm]
     ·rw [if_neg (by simp [z]),if_neg (Ne.symm z)]
    rw [this];by_cases z:j=k0
    ·rw [if_pos ⟨⟨hi,hi⟩,z⟩,if_pos z];grind
    ·rw [if_neg (λh=>z h.2),if_neg z];grind
   ·show g i j+(if (i<nW/\i<nW)/\j=m0 then Sh i else 0)=_;have:U (pE j) es F (sQ ws i) (n+1) (stand es F ts)=if j=m0 then 1 else 0:=by
     show (match (stand es F ts).2 with | some (k+1)=>if pE j k (stand es F ts).1.sum=true then (1:Rat) else 0 | some 0=>_ | none=>_)=_;rw [ho,hm0];show (if decide (m0=j)=true then (1:Rat) else 0)=_;by_cases z:m0=j
     ·rw [if_pos (by simp [z]),if_pos z.symm]
     ·rw [if_neg (by simp [z]),if_neg (Ne.symm z)]
    rw [this];by_cases z:j=m0
    ·rw [if_pos ⟨⟨hi,hi⟩,z⟩,if_pos z];grind
    ·rw [if_neg (λh=>z h.2),if_neg z];grind
 have hno:pM (stand es F ts).2 ≠ "" := by
  match ho:(stand es F ts).2 with
  | none=>decide
  | some 0=>decide
  | some (k0+1)=>exact absurd ⟨k0,ho⟩ hsaid
 refine qG (λz=>absurd (by injection z) hno) (λ_=>?_);have rr0:=rr;obtain ⟨ar,xr,rfl,har,rxr⟩:=AI rr;obtain ⟨kvs,pr,env⟩:=FJ rxr;have ndk:(kvs.map (·.1)).Nodup:=by rw [AY env];exact wA g0.ok.nd
 have lk:kvs.length=es.length:=Paired.length env;obtain ⟨vs0,hv0,rv0⟩:=(zU env).2 fs0 sa0;refine ⟨_,rfl,?_⟩;refine rdcz har pr ndk (by have:=g0.ok.len;omega) λdd H1 hdd fz1 s1=>?_;have wa1:=wa.same s1;refine ⟨_,rfl,W.a,W.dx,_,rfl,wa1.wi.ins,rfl,?_⟩;refine kA wa1 λv rvc=>?_;obtain ⟨cu,rfl,hcu⟩:=iR rvc;refine dgZ (c:=ci (stand es F ts).1) fz1 (by rw [iS];exact hcu) hv0 ?_;obtain ⟨ya,yxs,rfl,hya,ryx⟩:=qE (rv0.same s1);refine yF (by show 0<=64;decide) λD H2 hD e2 s2=>?_;have hD0:H D=none:=s1.free hD;have s12:=s1.trans s2;have hs2:=s12 _ _ hs;have rs2:=rs.same s12;have nsD:sa≠D:=λz=>by rw [z,hD0] at hs;cases hs
 have rt2:=rt.same s12;obtain ⟨ta,txs,rfl,ht,rt'⟩:=fP rt2;obtain ⟨tf,tw,rfl,rfa,rwa⟩:=jP rt';obtain ⟨fa,fxs,rfl,hfa,rfx⟩:=fP rfa;obtain ⟨wwa,wxs,rfl,hwa,rwx⟩:=fP rwa;have lfx:fxs.length=F:=by rw [rfx.len,aA,g0.lf]
 have ext:∀{H3 H4:Hp} {zs:List V} {sts:List YC},aK D H2 H3->H3 D=some (.lst zs)->Paired (RC H H3 D nW) zs sts->bF H3 H4->aK D H2 H4/\H4 D=some (.lst zs)/\Paired (RC H H4 D nW) zs sts:=λb e p s=>⟨b.trans s.but,s _ _ e,oX s.t (λb' o _ _ h=>s _ _ h) p⟩;refine ⟨λσ H'=>∃(o12 o13 o14:Option V) (zs:List V) (sts:List YC),σ=[some (.ref ca),some (.ref W.a),some (.ref sa),some (.int (hf:Int)),some (.ref ta),some (.ref ar),some (.ref A.d),some (.str (pM (stand es F ts).2)),none,none,some (.ref ya),some (.ref D),o12,o13,o14,none,none,none,none]/\aK D H2 H'/\H' D=some (.lst zs)/\Paired (RC H H' D nW) zs sts/\fC F nW M Nq k n es ts ws Sh sts,?_,?_⟩
 ·rintro σ H3 ⟨o12,o13,o14,zs,sts,rfl,b3,e3,p3,gd⟩;have sH3:bF H H3:=λb o h=>b3.at (λz=>by rw [z,hD0] at h;cases h) (s12 _ _ h);have wa3:=wa.same sH3;have ac3:=ac.same sH3;have outH:∀{b:Addr},H b=none->b ∉ chg A W:=λh z=>GA ac wa z h;have lzs:zs.length=sts.length:=Paired.length p3;have l5:=gd.few;have e5:5^(n+1)=5*5^n:=by rw [Nat.pow_succ,Nat.mul_comm]
  have tC:∀{H':Hp},cP (chg A W) H3 H'->cG H3 H':=λx=>x.t λb hb zs z=>uX ac3 wa3 hb z;have ldt:∀{Hx Hy:Hp} {tz:List dS},jT c.Watch Hx W F es tz->cP [W.t,W.s] Hx Hy->cG Hx Hy:=λ{Hx Hy tz} w' s'=>s'.t λb hb zs z=>by
   obtain ⟨_,et,_⟩:=w'.told;obtain ⟨_,es',_⟩:=w'.stds;simp only [aQ,List.not_mem_nil,or_false] at hb;rcases hb with rfl | rfl
   ·rw [et] at z;cases z
   ·rw [es'] at z;cases z
  have upC:∀{Hx Hy:Hp},cP [W.t,W.s] Hx Hy->cP (chg A W) Hx Hy:=λs'=>s'.mono λa ha=>by
   simp only [aQ,List.not_mem_nil,or_false] at ha;rcases ha with rfl | rfl
   ·exact aN ..
   ·exact aH _ (aN ..)
  refine ⟨_,rfl,D,rfl,⟨_,fT.of e3⟩,?_⟩;refine rW (xs:=zs) (λi σ H'=>∃(o15 o16 o17 o18:Option V) (f1 g1:Nat->Nat->Rat),σ=[some (.ref ca),some (.ref W.a),some (.ref sa),some (.int (hf:Int)),some (.ref ta),some (.ref ar),some (.ref A.d),some (.str (pM (stand es F ts).2)),none,none,some (.ref ya),some (.ref D),o12,o13,o14,o15,o16,o17,o18]/\jT c.Watch H' W F es ts/\cP (chg A W) H3 H'/\iV H' A nW L f1 g1/\RJ Nq nW L (B+i*5^n) f1 g1/\(∀w,w<nW->∀j,j<nW->f1 w j=f w j+cR (sts.take i) λst=>st.2 w*U (pS j) es F (sQ ws w) n (stand es F (ts++[st.1])))/\(∀w,w<nW->∀j,j<L->g1 w j=g w j+cR (sts.take i) λst=>st.2 w*U (pE j) es F (sQ ws w) n (stand es F (ts++[st.1]))))
   ⟨_,_,_,_,f,g,rfl,wa3,cP.of (bF.refl _),ac3,aq.le Oo,(λw _ j _=>by rw [List.take_zero,eN];grind),(λw _ j _=>by rw [List.take_zero,eN];grind)⟩ (λi σ H' _ pv=>?_) ?_ ?_
  ·obtain ⟨_,_,_,_,_,_,_,_,x',_⟩:=pv;exact fT.of (x' _ _ (outH hD0) e3)
  ·rintro i xv σ H4 hxv ⟨o15,o16,o17,o18,f1,g1,rfl,wa4,x4,ac4,aq4,sf,sg⟩;obtain ⟨st,hst,a,th,q,ys,rfl,ha,rth,hq,rys,hq0,hqD⟩:=kC p3 hxv;have hi:i<sts.length:=(aL.mp hst).1;have mst:=aR hst;have t4:=tC x4;refine ⟨a,_,rfl,fS.of (t4 _ _ ha),rfl,_,_,rfl,_,_,rfl,_,_,rfl,rfl,?_⟩;refine ⟨_,rfl,W.a,W.dx,_,rfl,wa4.wi.ins,rfl,?_⟩;refine nZ wa4 ?_;refine ⟨_,rfl,W.a,W.dx,_,rfl,wa4.wi.ins,rfl,?_⟩;refine kA wa4 λvc rvc=>?_;refine ⟨_,rfl,W.a,W.dx,_,rfl,wa4.wi.ins,rfl,?_⟩;refine qT wa4 ?_;refine ⟨_,rfl,W.a,W.dx,_,rfl,wa4.wi.ins,rfl,?_⟩;refine mK wa4 Oo λDt xt H5 hDt e5t r5 s5=>?_;refine pK (by show 4<=64;decide) λq6 H6 hq6 e6 s6=>?_;have s56:=s5.trans s6;have wa6:=wa4.same s56;have hDt0:H Dt=none:=sH3.free (by
    cases hh:H3 Dt with
    | none=>rfl
    | some o =>
     by_cases hm:Dt∈chg A W
     ·exact (GA ac4 wa4 hm hDt).elim
     ·rw [x4 _ _ hm hh] at hDt;cases hDt)
   have ntD:Dt ∉ chg A W:=outH hDt0;have t6:cG H3 H6:=t4.trans s56.t;have okd:=gd.okd st mst;refine ⟨_,rfl,_,rfl,_,rfl,?_⟩;refine JG (d:=st.1) wa6 (rth.flat t6 (vH _)) g0.ok f4 w4 g0.rt okd Oo λH7 wa7 x7=>?_;have t67:=ldt wa6 x7;have ac7:=(ac4.same s56).wt an wa6 x7;have x47:cP (chg A W) H4 H7:=(cP.of s56).trans (upC x7);have e7t:H7 Dt=some (.lst xt):=upC x7 _ _ ntD (s6 _ _ e5t);have t7:cG H3 H7:=t6.trans t67;have r7t:aP H7 (ts.map rY) xt:=(r5.same s6).flat t67 (jO _);have e7q:=t67 _ _ e6;have rt7:Rt es F (ts++[st.1]):=.snoc g0.rt okd;have qn1:=gd.qn st mst;have ltl:(ts++[st.1]).length=ts.length+1:=by rw [bK,List.length_singleton]
   refine ⟨λb H'=>b=false/\∃f2 g2,jT c.Watch H' W F es (ts++[st.1])/\cP (chg A W) H7 H'/\iV H' A nW L f2 g2/\aBa nW L n es F ws (stand es F (ts++[st.1])) st.2 f1 g1 f2 g2/\RJ Nq nW L (B+i*5^n+5^n) f2 g2,?_,?_⟩
   ·refine ⟨_,rfl,W.a,W.dx,_,rfl,wa7.wi.ins,rfl,?_⟩;refine mK wa7 Oo λD8 x8 H8 hD8 e8 r8 s8=>?_;refine ⟨_,rfl,?_⟩;refine jR (s8 _ _ e7q) rfl ?_;refine ⟨_,rfl,_,rfl,?_⟩;refine pK (by show 2<=64;decide) λq9 H9 hq9 e9 s9=>?_;refine yF (by show 1<=64;decide) λq10 H10 hq10 e10 s10=>?_;have lxt:xt.length=ts.length:=by rw [r7t.len,aA]
    refine aCh (s10 _ _ (s9 _ _ (s8 _ _ e7t))) e10 (by rw [lxt];show ts.length+1<=1000;omega) λq11 H11 hq11 e11 s11=>?_;have s8b:=(s9.trans s10).trans s11;have s78:=s8.trans s8b;have rth7:=(rth.flat t7 (vH _)).same s78;have rde:bO H11 (rY st.1) (.ref q9):=by
     have e9':=s11 _ _ (s10 _ _ e9);cases hd:st.1 with
     | look j=>rw [hd] at e9' rth7;exact bO.tup e9' (aP.cons (bO.str _) (aP.cons rth7 aP.nil))
     | lot l=>rw [hd] at e9' rth7;exact bO.tup e9' (aP.cons (bO.str _) (aP.cons rth7 aP.nil))
    have rl:aP H11 ((ts++[st.1]).map rY) (xt++[.ref q9]):=by
     rw [bL];exact aP.append (aP.cons rde aP.nil) (r7t.same s78)
    refine reD (bO.lst (s8b _ _ e8) (r8.same s8b)) (bO.lst e11 rl) (wV _) (wV _) ?_;rw [wS _ (show PyData.hasDict (.list ((ts++[st.1]).map rY))=false from PM _)];refine ⟨_,rfl,kY ?_⟩;have x7b:cP (chg A W) H3 H11:=(x4.trans x47).trans (cP.of s78);have t11:=t7.trans s78.t;refine ⟨_,rfl,_,rfl,_,rfl,_,rfl,?_⟩;refine CI (k:=k+1) (B:=B+i*5^n) (wa7.same s78) (t11 _ _ (sH3 _ _ hc)) ?_ ?_ (x7b _ _ (outH hq0) hq) (rys.flat t11 (gF _ _)) (ac7.same s78) an (outH hq0) ⟨g0.ok,rt7,g0.lf,g0.lw,g0.f4,g0.w4,g0.mL,g0.l9,g0.q0,g0.qz,g0.qc,g0.sl,g0.sh⟩ h2 qn1 Oo aq4 ?_ Oo (gd.fu st mst) λf2 g2 H12 ac12 ad12 aq12 wa12 x12=>?_
    ·exact (rt.same sH3).flat t11 (vG _ _)
    ·exact (rr0.same sH3).flat t11 (tK _)
    ·have:i*5^n+5^n<=5*5^n:=by rw [<-Nat.succ_mul];exact cW _ Oo
     omega
    ·exact ⟨_,rfl,rfl,f2,g2,wa12,(cP.of s78).trans x12,ac12,ad12,aq12⟩
   ·rintro b H8 ⟨rfl,f2,g2,wa8,x8,ac8,ad8,aq8⟩;refine kY ?_;have t8:cG H7 H8:=x8.t λb hb zs z=>uX ac7 wa7 hb z;refine ⟨_,rfl,W.a,W.dx,_,rfl,wa8.wi.ins,rfl,?_⟩;refine JO wa8 λH9 wa9 x9=>?_;have t89:=ldt wa8 x9;have ac9:=ac8.wt an wa8 x9;have t79:=t8.trans t89;have x79:cP (chg A W) H7 H9:=x8.trans (upC x9);refine ⟨_,rfl,W.a,W.dx,_,rfl,wa9.wi.ins,rfl,?_⟩;refine nZ wa9 ?_;refine ⟨_,rfl,W.a,W.dx,_,rfl,wa9.wi.ins,rfl,?_⟩;refine kA wa9 λvc2 rvc2=>?_;refine ⟨_,rfl,W.a,W.dx,_,rfl,wa9.wi.ins,rfl,?_⟩;refine qT wa9 ?_;refine ⟨_,rfl,W.a,W.dx,_,rfl,wa9.wi.ins,rfl,?_⟩;refine mK wa9 Oo λD10 x10 H10 hD10 e10 r10 s10=>?_;refine pK (by show 4<=64;decide) λq11 H11 hq11 e11 s11=>?_;refine ⟨_,rfl,?_⟩;have s911:=s10.trans s11;have t711:=t79.trans s911.t;have rnew:bO H11 (XU (stand es F ts) ts) (.ref q11):=by
     refine bO.tup e11 (aP.cons (bO.str _) (aP.cons (rvc2.same s911) (aP.cons ?_ (aP.cons (bO.lst (s11 _ _ e10) (r10.same s11)) aP.nil))));rw [MD];exact FI _
    have rold:bO H11 (XU (stand es F ts) ts) (.ref q6):=by
     refine bO.tup (t711 _ _ e7q) (aP.cons (bO.str _) (aP.cons ((rvc.same s56).flat (t67.trans t711) (kS _)) (aP.cons ?_ (aP.cons (bO.lst (s911 _ _ (x79 _ _ ntD e7t)) (r7t.flat t711 (jO _))) aP.nil))));rw [MD];exact FI _
    refine reD rnew rold (yO _ _) (yO _ _) ?_;rw [wS _ (aCe _ _)];refine ⟨_,rfl,kY ?_⟩;refine ⟨_,_,_,_,f2,g2,rfl,wa9.same s911,((x4.trans x47).trans x79).trans (cP.of s911),ac9.same s911,aq8.le (by rw [Nat.add_assoc,<-Nat.succ_mul];exact aG _),λw hw j hj=>?_,λw hw j hj=>?_⟩
    ·rw [ad8.a w hw j hj,sf w hw j hj,xT hst];grind
    ·rw [ad8.b w hw j hj,sg w hw j hj,xT hst];grind
  ·rintro σ H4 ⟨o15,o16,o17,o18,f1,g1,rfl,wa4,x4,ac4,aq4,sf,sg⟩;rw [lzs,cT] at sf sg;refine q f1 g1 H4 ac4 ⟨λw hw j hj=>?_,λw hw j hj=>?_⟩ (aq4.le ?_) wa4 ((cP.of sH3).trans x4)
   ·rw [sf w hw j hj,gd.sum _ w hw]
   ·rw [sg w hw j hj,gd.sum _ w hw]
   ·rw [e5,lzs];exact Nat.add_le_add_left (cW _ l5) _
 refine ⟨_,rfl,rfl,_,rfl,?_⟩;have tD:∀{H3:Hp},aK D H2 H3->cG H2 H3:=λb=>b.t e2
 match ho:(stand es F ts).2 with
 | some (k0+1)=>exact absurd ⟨k0,ho⟩ hsaid
 | some 0 =>
  refine lI ?_;refine ⟨_,rfl,?_⟩;refine jR ht rfl ?_;refine LP hfa ?_;rw [lfx];refine ⟨_,rfl,Oo,Oo,?_⟩;rw [Int.toNat_natCast];refine gH (λi σ H'=>∃(o12:Option V) (zs:List V),σ=[some (.ref ca),some (.ref W.a),some (.ref sa),some (.int (hf:Int)),some (.ref ta),some (.ref ar),some (.ref A.d),some (.str (pM (some 0))),none,none,some (.ref ya),some (.ref D),o12,none,none,none,none,none,none]/\aK D H2 H'/\H' D=some (.lst zs)/\Paired (RC H H' D nW) zs ((List.range i).map (OQ Sh ws))) ⟨_,[],rfl,(bF.refl _).but,e2,.nil⟩ ?_ ?_
  ·rintro i σ H3 hi ⟨o12,zs,rfl,b3,e3,p3⟩;rw [show (0:Int)+(i:Int)=(i:Int) by omega];have t3:=tD b3;refine ⟨_,rfl,QY e3,_,rfl,_,rfl,?_⟩;refine XF (b3.at nsD hs2) ?_;rw [lx];refine ⟨_,rfl,Oo,Oo,?_⟩;rw [Int.toNat_natCast];refine iM (λw y H'=>bO H' (fK (eZ (Sh w*rv ((sQ ws w).getD i (0,1))))) y) (λw y H1 H2 s h=>h.flat s (dB _)) Oo (λw H4 Q' hw s4 k'=>?_) (λq ys4 H4 hq eq4 s4 lq rq=>?_)
   ·rw [show (0:Int)+(w:Nat)=(w:Nat) by omega];have t4:=t3.trans s4.t;obtain ⟨v5,hv5,rv5⟩:=vU rs2 hw;obtain ⟨l1,l2⟩:=g0.shf hw;have hwn:ws[w]?=some (ws.getD w ("",[])):=by rw [aS,aC (by rw [g0.lw];exact hw)];rfl
    obtain ⟨wv,hwv,rw1⟩:=yA rwx hwn;obtain ⟨wb,wys,rfl,hwb,rwy⟩:=fP rw1;obtain ⟨nm,sv,rfl,_,rss⟩:=jP rwy;obtain ⟨sb,svs,rfl,hsb,rsv⟩:=qE rss;have hfi:(sQ ws w)[i]?=some ((sQ ws w).getD i (0,1)):=by rw [aS,aC (by rw [l1];exact hi)];rfl
    obtain ⟨zv,hzv,rzv⟩:=aP.atX rsv hfi;have fn:=l2 _ (aR hfi);refine ⟨_,rfl,_,rfl,?_⟩;refine lF (s4 _ _ (b3.at nsD hs2)) (cK hv5) ?_;refine ⟨_,rfl,?_⟩;refine jR (t4 _ _ ht) rfl ?_;refine ⟨_,rfl,?_⟩;refine jR (t4 _ _ hwa) (cK hwv) ?_;refine jR (t4 _ _ hwb) rfl ?_;refine ⟨_,rfl,?_⟩;refine jR (t4 _ _ hsb) (cK hzv) ?_;refine nS (gR.of (rv5.flat t4 (dB _))) (gR.of (rzv.flat t4 (dB _))) (bV _) fn.low (szA (up14 Oo (qs w hw)) Dd) (oS fn g0.q0 (aT g0.qz (aV Dd Dd)) Nat.one_le_two_pow) λq5 H5 hq5 e5 s5=>?_;refine k' _ H5 s5 ?_;have:=fD e5
    rwa [OG fn.low] at this
   ·refine pK (by show 3<=64;decide) λq5 H5 hq5 e5 s5=>?_;have s45:=s4.trans s5;obtain ⟨b5,e5D,p5⟩:=ext b3 e3 p3 s45;have hqD:q≠D:=λz=>by rw [z,e3] at hq;cases hq
    have hq0:H q=none:=s12.free (aK.free b3 ⟨_,e3⟩ hq);have lz:zs.length=i:=by rw [Paired.length p3,aA,cX]
    refine DY e5D Oo λH6 e6 b6=>?_;have t6:=b6.t e5D;refine ⟨_,_,rfl,b5.trans b6,e6,?_⟩;rw [List.range_succ,bL];refine oH ⟨q5,.int (i:Int),q,_,rfl,t6 _ _ e5,bO.int _,b6.at hqD (s5 _ _ eq4),?_,hq0,hqD⟩ (oX t6 (λb' o _ hb h=>b6.at hb h) p5);exact ((sT lq λw y hy=>rq w y hy).same s5).flat t6 (gF _ _)
  ·rintro σ H3 ⟨o12,zs,rfl,b3,e3,p3⟩;exact ⟨_,_,_,zs,_,rfl,b3,e3,p3,KN g0 qs ho Oo⟩
 | none =>
  refine qG (λz=>absurd z Dd) (λ_=>?_);refine ⟨_,rfl,?_⟩;refine LP (s2 _ _ hya) ?_;have lyx:yxs.length=fs0.length:=by rw [ryx.len,aA]
  rw [lyx];refine ⟨_,rfl,Oo,Oo,?_⟩;rw [Int.toNat_natCast];refine gH (λi σ H'=>∃(o13 o14:Option V) (zs:List V),σ=[some (.ref ca),some (.ref W.a),some (.ref sa),some (.int (hf:Int)),some (.ref ta),some (.ref ar),some (.ref A.d),some (.str (pM none)),none,none,some (.ref ya),some (.ref D),none,o13,o14,none,none,none,none]/\aK D H2 H'/\H' D=some (.lst zs)/\Paired (RC H H' D nW) zs ((List.range i).flatMap (iZ Sh fs0 hf))) ⟨_,_,[],rfl,(bF.refl _).but,e2,.nil⟩ ?_ ?_
  ·rintro i σ H3 hi ⟨o13,o14,zs,rfl,b3,e3,p3⟩;rw [show (0:Int)+(i:Int)=(i:Int) by omega];have t3:=tD b3;refine ⟨_,rfl,_,rfl,?_⟩;obtain ⟨fi,hfi⟩:∃fi,fs0[i]?=some fi:=⟨_,aC hi⟩;have ef:fs0.getD i (0,1)=fi:=by rw [aS,hfi];rfl
   obtain ⟨zv,hzv,rzv⟩:=aP.atX (ryx.same s2) hfi;have hya3:=t3 _ _ (s2 _ _ hya);have mem:=aR hfi;refine jR hya3 (cK hzv) ?_;refine pK (by show 2<=64;decide) λq3 H4 hq3 eq3 s4=>?_;refine reD ((rzv.flat t3 (dB _)).same s4) (fD (f:=(0,1)) eq3) rfl rfl ?_;have ev:PyData.eqv (fK fi) (fK (0,1))=decide (fi=(0,1)):=by
    show PyData.eqv (cD [fi.1,fi.2]) (cD [0,1])=_;rw [VM,decide_eq_decide];constructor
    ·intro z;injection z with z1 z2;injection z2 with z2 _;exact Prod.ext z1 z2
    ·intro z;rw [z]
   rw [ev];refine ⟨_,rfl,?_⟩;obtain ⟨b4,e4D,p4⟩:=ext b3 e3 p3 s4;have t4:=tD b4;have rsucc:(List.range (i+1)).flatMap (iZ Sh fs0 hf)=(List.range i).flatMap (iZ Sh fs0 hf)++iZ Sh fs0 hf i:=by
    rw [List.range_succ,List.flatMap_append,List.flatMap_cons,List.flatMap_nil,List.append_nil]
   by_cases hz:fi=(0,1)
   ·rw [bP hz];refine kY ?_;refine ⟨_,_,zs,rfl,b4,e4D,?_⟩;rw [rsucc,show iZ Sh fs0 hf i=[] by unfold iZ;rw [if_pos (ef.trans hz)],List.append_nil];exact p4
   ·rw [bX hz];refine lI ?_;refine ⟨_,rfl,_,rfl,?_⟩;have rys:bO H4 (qL fs0) (.ref ya):=bO.tup (t4 _ _ (s2 _ _ hya)) ((ryx.same s2).flat t4 (rV _));refine AA rys sy0 Oo hi λD5 ys5 H5 hD5 e5 r5 s5=>?_;refine ⟨_,rfl,?_⟩;obtain ⟨lv,hlv,rlv⟩:=aP.atX (g:=λj=>fK (gZ fs0 i j)) r5 (dN h2);refine lF e5 (cK hlv) ?_;obtain ⟨b5,e5D,p5⟩:=ext b4 e4D p4 s5;have t5:=tD b5;have hs5:=b5.at nsD hs2;refine ⟨_,rfl,QY e5D,_,rfl,_,rfl,sa,rfl,⟨_,fT.of hs5⟩,?_⟩;refine pG (λw y H'=>bO H' (fK (eZ (Sh w*rv (fs0.getD i (0,1))))) y) (λw y H1 H2 s h=>h.flat s (dB _)) Oo hs5 (λw x H6 Q' hx s6 k'=>?_) (λq ys6 H6 hq eq6 s6 lq rq=>?_)
    ·have hw:w<nW:=by rw [<-lx];exact (aL.mp hx).1
     obtain ⟨v5,hv5,rv5⟩:=vU rs2 hw;rw [hx] at hv5;cases hv5;have t6:=t5.trans s6.t;refine ⟨_,rfl,_,rfl,_,rfl,?_⟩;refine jR (t6 _ _ (s2 _ _ hya)) (cK hzv) ?_;refine nS (gR.of (rv5.flat t6 (dB _))) (gR.of (rzv.flat t6 (dB _))) (bV _) (sy0.low _ mem) (szA (up14 Oo (qs w hw)) Dd) (SJ (sy0.szf _ mem)) λq5 H7 hq7 e7 s7=>?_;refine k' _ H7 s7 ?_;have:=fD e7;rw [ef]
     rwa [OG (sy0.low _ mem)] at this
    ·refine pK (by show 3<=64;decide) λq7 H7 hq7 e7 s7=>?_;have s67:=s6.trans s7;obtain ⟨b7,e7D,p7⟩:=ext b5 e5D p5 s67;have hqD:q≠D:=λz=>by rw [z,e5D] at hq;cases hq
     have hq0:H q=none:=s12.free (aK.free b5 ⟨_,e5D⟩ hq);have lz:zs.length<=i:=by rw [Paired.length p3];exact OP _ _ _ _
     refine DY e7D Oo λH8 e8 b8=>?_;have t8:=b8.t e7D;refine ⟨_,_,_,rfl,b7.trans b8,e8,?_⟩;rw [rsucc,show iZ Sh fs0 hf i=[(.lot (gZ fs0 i hf),λw=>Sh w*rv (fs0.getD i (0,1)))] by unfold iZ;rw [if_neg (λz=>hz (ef.symm.trans z))]];refine oH ⟨q7,lv,q,_,rfl,t8 _ _ e7,((rlv.same s67).flat t8 (dB _)),b8.at hqD (s7 _ _ eq6),?_,hq0,hqD⟩ (oX t8 (λb' o _ hb h=>b8.at hb h) p7);exact ((sT (by rw [lq,lx]) λw y hy=>rq w y hy).same s7).flat t8 (gF _ _)
  ·rintro σ H3 ⟨o13,o14,zs,rfl,b3,e3,p3⟩;exact ⟨_,_,_,zs,_,rfl,b3,e3,p3,OX g0 qs ho Oo sa0 sy0⟩
end
def pN(Ds:List Nat):Nat:=Ds.foldr (λd p=>d*p) 1
def dnP(ws:List (Str × List Fr)):Nat:=pN ((ws.flatMap λx=>x.2).map λf=>f.2.natAbs)
theorem OB:∀{Ds:List Nat},(∀d∈Ds,0<d)->0<pN Ds
 | [],_=>Dd
 | d::Ds,h=>Nat.mul_pos (h d (aN ..)) (OB λx hx=>h x (aH _ hx))
theorem OC:∀{Ds:List Nat}{d:Nat},d∈Ds->d ∣ pN Ds
 | e::Ds,d,h=>by
  show d ∣ e*pN Ds;rcases aQ.mp h with rfl | h
  ·exact Nat.dvd_mul_right _ _
  ·exact Nat.dvd_trans (OC h) (Nat.dvd_mul_left _ _)
theorem XJ{B:Nat}:∀{Ds:List Nat},(∀d∈Ds,d<=B)->pN Ds<=B^Ds.length
 | [],_=>aG _
 | d::Ds,h=>by
  show d*pN Ds<=B^(Ds.length+1);rw [Nat.pow_succ,Nat.mul_comm];exact Nat.mul_le_mul (XJ λx hx=>h x (aH _ hx)) (h d (aN ..))
theorem VL{f:Fr}(l:cS f)(h0:0<=f.1)(h1:f.1<=f.2):Fn f.2.natAbs 1 f:=by
 have hp:=l.pos;refine ⟨l,f.1,?_,Oo⟩;have e:=pR hp;have e1:((f.2.natAbs:Nat):Rat)=(f.2:Rat):=by
  have:((f.2.natAbs:Nat):Int)=f.2:=Oo;rw [<-oK,this]
 rw [e1];exact e
theorem DE{F:Nat}:∀{ws:List (Str × List Fr)},(∀x∈ws,x.2.length=F)->(ws.flatMap λx=>x.2).length=ws.length*F
 | [],_=>by simp
 | x::ws,h=>by
  rw [List.flatMap_cons,bK,DE λy hy=>h y (aH _ hy),h x (aN ..),cF,Nat.add_mul];omega
theorem aBs{fs:List Str}{ws:List (Str × List Fr)}(T:TrS fs ws):∃Ns,0<Ns/\Ns<=1000^9/\TrG ws.length Ns ws:=by
 have lens:∀x∈ws,x.2.length=fs.length:=λx hx=>(T.sh x hx).len;have memD:∀x∈ws,∀f∈x.2,f.2.natAbs∈(ws.flatMap λx=>x.2).map λf=>f.2.natAbs:=λx hx f hf=>aU.mpr ⟨f,List.mem_flatMap.mpr ⟨x,hx,hf⟩,rfl⟩;have allD:∀d∈(ws.flatMap λx=>x.2).map (λf=>f.2.natAbs),0<d/\d<=1000:=λd hd=>by
  obtain ⟨f,hf,rfl⟩:=aU.mp hd;obtain ⟨x,hx,hf⟩:=List.mem_flatMap.mp hf;have h1:=((T.sh x hx).low f hf).pos;have h2:=(T.sh x hx).dn f hf;omega
 refine ⟨dnP ws,OB λd hd=>(allD d hd).1,?_,rfl,λx hx f hf=>?_,λx hx=>⟨(T.sh x hx).low,λf hf=>?_,λf hf=>?_⟩⟩
 ·have h1:=XJ (B:=1000) λd hd=>(allD d hd).2;rw [aA,DE lens] at h1;refine bC h1 (aV Dd ?_);exact bC (Nat.mul_le_mul T.w3 T.f3) Dd
 ·exact (VL ((T.sh x hx).low f hf) ((T.sh x hx).pos f hf) ((T.sh x hx).le f hf)).dvd (OC (memD x hx f hf))
 ·have h1:=(T.sh x hx).pos f hf;have h2:=(T.sh x hx).le f hf;have h3:=(T.sh x hx).dn f hf;have h4:(2:Nat)^10=1024:=Dd;omega
 ·have h1:=((T.sh x hx).low f hf).pos;have h3:=(T.sh x hx).dn f hf;have h4:(2:Nat)^10=1024:=Dd;omega
theorem aCJ{F W M Ns:Nat}{es:List bI}(h:QS F W M es)(n0:0<Ns)(hn:Ns<=1000^9):mX F W M (LC^6) (5^40) Ns es:=h.g n0 (by
 have h1:Ns^M<=(1000^9)^5:=bC (Nat.pow_le_pow_left hn M) (aV Dd h.m5);exact bG (fM _ h1) Kk)
theorem QS.sy{F W M:Nat}{es:List bI}(h:QS F W M es):∀e∈es,nE (1+W) e.2:=by
 obtain ⟨f,rfl,on,sy⟩:=h.ex;intro e he;obtain ⟨c,hc,rfl⟩:=aU.mp he;exact sy c hc
theorem QS.n{F W M M' N B Ns:Nat}{es:List bI}(h:QS F W M es)(R:mX F W M N B Ns es)(top:∀e∈es,e.1.sum<=M'):xL F W M' es:=by
 have RL:=R.rl;obtain ⟨e0,r,he,h0⟩:=RL.root;refine ⟨by rw [he];exact List.cons_ne_nil _ _,RL.nd,λe he=>⟨RL.len e he,h.sy e he⟩,by have:=R.few;omega,top,λe he hz i hi=>RL.fwd e he (λz=>hz ?_) i hi,by rw [he];exact aQ.mpr (.inl h0.symm)⟩;have low:=(h.sy e he).low;have e1:e.2.headD (0,1)=e.2.getD 0 (0,1):=by cases e.2 <;> rfl
 rw [e1];have z':rv (e.2.getD 0 (0,1))=0:=z;have lw:cS (e.2.getD 0 (0,1)):=by
  have l:=(h.sy e he).lenN;exact low _ (kD Oo)
 exact iI lw UU (by rw [z',jI])
theorem JC:∀fs:List Fr,pJ (fs.map rv)=dU fs.length λk=>rv (fs.getD k (0,1)):=λfs=>by
 show pJ (fs.map rv)=pJ ((List.range fs.length).map λk=>rv (fs.getD k (0,1)));congr 1;refine List.ext_getElem (by simp) λi h1 h2=>?_;rw [aA] at h1;simp [aS,h1]
theorem nE.oneR{n:Nat}{fs:List Fr}(h:nE n fs):(dU n λk=>rv (fs.getD k (0,1)))=1:=by
 have h2:=h.one
 rwa [JC,h.lenN] at h2
section
variable{F W M N B Ns L:Nat}{es:List bI}{s:List Fr}
theorem BU(p:Nat->Nat->Bool)(R:mX F W M N B Ns es)(Rn:xL F W L es)(hs:∀f∈s,cS f)(hl:s.length=F)(l5:L<=5):U p es F s 13 (stand es F [])=cR es λe=>lJ F es s e.1*tm p es W e.1:=by
 have RL:=R.rl;have h1:=UV p (sh:=s) Rn L 13 (List.replicate F 0) Rn.zero (by rw [sH];omega) Oo;have flow0:lJ F es s (List.replicate F 0)=1:=by
  have h1:bS F es (List.replicate F 0)=1:=by
   rw [NH RL,if_pos rfl,eD (g:=λ_=>0) λe he=>by rw [rR (RL.len e he) (by rw [sH];omega)];grind,oV];grind
  unfold lJ;rw [h1,RT hs];grind
 rw [<-aA6 p RL Rn hs hl flow0,<-h1]
 rfl
theorem JA(R:mX F W M N B Ns es)(Rn:xL F W L es)(hs:∀f∈s,cS f)(hl:s.length=F)(l5:L<=5){j:Nat}(hj:j<W):U (pS j) es F s 13 (stand es F [])=mZ F es (wq s) j:=by
 rw [BU _ R Rn hs hl l5];unfold mZ;refine eD λe he=>?_;have:tm (pS j) es W e.1=lN e.2 (1+j):=by
  unfold tm;rw [CA (v:=j) hj λi _ hij=>by rw [if_neg (by simpa using hij)];grind];unfold fq lN;rw [BZ Rn he,Nat.add_comm,if_pos (by simp)];grind
 rw [this]
 rfl
theorem EG(R:mX F W M N B Ns es)(Rn:xL F W L es)(sy:∀e∈es,nE (1+W) e.2)(hs:∀f∈s,cS f)(hl:s.length=F)(l5:L<=5)(j:Nat):U (pE j) es F s 13 (stand es F [])=uG F es (wq s) j:=by
 rw [BU _ R Rn hs hl l5];unfold uG;have e0:∀e∈es,lJ F es s e.1*tm (pE j) es W e.1=if e.1.sum=j then bS F es e.1*wq s e.1*(1-s0 e) else 0:=λe he=>by
  unfold tm;by_cases z:e.1.sum=j
  ·rw [if_pos z];have h1:=(sy e he).oneR;rw [Nat.add_comm,mJ] at h1;have h2:(dU W λk=>(if pE j k e.1.sum=true then (1:Rat) else 0)*fq es e.1 (k+1))=dU W λk=>rv (e.2.getD (k+1) (0,1)):=cY λk _=>by
    rw [if_pos (by simpa using z)];unfold fq;rw [BZ Rn he];grind
   rw [h2];have h3:s0 e=rv (e.2.getD 0 (0,1)):=rfl;unfold lJ;grind
  ·rw [if_neg z,cY (g:=λ_=>0) λk _=>by rw [if_neg (by simpa using z)];grind,kH];grind
 rw [eD e0];have:∀l:List bI,(cR l λe=>if e.1.sum=j then bS F es e.1*wq s e.1*(1-s0 e) else 0)=cR (l.filter λe=>decide (e.1.sum=j)) λe=>bS F es e.1*wq s e.1*(1-s0 e):=λl=>by
  induction l with
  | nil=>rfl
  | cons e l ih =>
   rw [cH,ih];by_cases z:e.1.sum=j
   ·rw [if_pos z,List.filter_cons_of_pos (by simpa using z),cH]
   ·rw [if_neg z,List.filter_cons_of_neg (by simpa using z)];grind
 exact this es
end
theorem yR{σ:St}{js:List Nat}{te:TE}{H:Hp}{Q:VK}{lo:Int}{n m:Nat}(g:Nat->Rat)(hz:n<=100000)
  (hs:∀i H' (Q':VK),i<n->bF H H'->(∀a xs H5,H' a=none->H5 a=some (.lst xs)->aP H5 (mP g m) xs->bF H' H5->Q' (.ref a) H5)->te (some (.int (lo+(i:Nat)))::slots σ js) H' Q')
  (hd:∀(D:Addr) (ls:List Addr) (H':Hp),H D=none->H' D=some (.lst (ls.map V.ref))->bF H H'->ls.length=n->ls.Nodup->(∀l∈ls,H l=none/\l≠D)->(∀l∈ls,∃xs,H' l=some (.lst xs)/\aP H' (mP g m) xs)->Q (.ref D) H'):kX (RI lo n) σ js uE te H Q:=by
 refine wW (J:=RI lo n) (n:=n) (λi x=>x=.int (lo+(i:Nat))) hz (λD i ys H'=>H D=none/\bF H H'/\∃ls:List Addr,ys=ls.map V.ref/\ls.Nodup/\(∀l∈ls,H l=none/\l≠D)/\∀l∈ls,∃xs,H' l=some (.lst xs)/\aP H' (mP g m) xs) (λD H1 hD _ s=>⟨hD,s,[],rfl,List.nodup_nil,(λl h=>by cases h),λl h=>by cases h⟩)
  (λD i ys H' hi _ p=>⟨hi,λx H3 y=>y⟩) (λD ys H' _ p=>aG _) (λD i x ys H' hx hi hy hD p=>?_) (λD ys H' hy hD hD' p=>?_)
 ·subst hx;obtain ⟨p1,p2,ls,rfl,p3,p4,p5⟩:=p;refine hs i H' _ hi p2 λa xs H5 ha e5 r5 s5=>?_;refine ⟨s5 _ _ hD,λH6 hD6 s6=>⟨p1,bF.thru p1 (p2.trans s5) s6,ls++[a],by rw [bL];rfl,?_,?_,?_⟩⟩
  ·rw [List.nodup_append];refine ⟨p3,by simp,λl hl l' hl' z=>?_⟩;rw [cM.mp hl'] at z;obtain ⟨_,h1,_⟩:=p5 l hl;rw [z,ha] at h1;cases h1
  ·intro l hl;rcases dF.mp hl with hl | hl
   ·exact p4 l hl
   ·rw [cM.mp hl];exact ⟨p2.free ha,λz=>by rw [z,hD] at ha;cases ha⟩
  ·intro l hl;have t6:=s6.t (s5 _ _ hD);rcases dF.mp hl with hl | hl
   ·obtain ⟨us,h1,h2⟩:=p5 l hl;exact ⟨us,s6.at (p4 l hl).2 (s5 _ _ h1),(h2.same s5).flat t6 (gF _ _)⟩
   ·rw [cM.mp hl];exact ⟨xs,s6.at (λz=>by rw [z,hD] at ha;cases ha) e5,r5.flat t6 (gF _ _)⟩
 ·obtain ⟨p1,p2,ls,rfl,p3,p4,p5⟩:=p;exact hd D ls H' hD hD' p2 (by rw [aA] at hy;exact hy) p3 p4 p5
abbrev CM:Stmt:=(top 58)
theorem xH:bR ["_law_script","_law_feed_here","_law_trial_here","_law_rule_here","_law_many","_law_looks","_law_half","_law_found","_law_watch","_law_way"] ["_law_script"] (aO CM):=⟨rfl,rfl,rfl,Kk,rfl,Kk,Kk⟩
structure Sw(n w:Nat)(d:PyData):Prop where
 sh:PyData.showable d=true
 nd:PyData.hasDict d=false
 dp:PyData.depth d<=n
 wd:QZ d<=w
theorem Sw.all{n w:Nat}:∀{ds:List PyData},(∀d∈ds,Sw n w d)->PyData.showableAll ds=true/\PyData.hasDictAll ds=false/\PyData.depthAll ds<=n/\AG ds<=ds.length*(w+2)
 | [],_=>⟨rfl,rfl,cV _,cV _⟩
 | d::ds,h=>by
  obtain ⟨a,b,c,e⟩:=h d (aN ..);obtain ⟨a',b',c',e'⟩:=Sw.all λx hx=>h x (aH d hx);refine ⟨?_,?_,?_,?_⟩
  ·show (PyData.showable d&&PyData.showableAll ds)=true;rw [a,a'];rfl
  ·show (PyData.hasDict d || PyData.hasDictAll ds)=false;rw [b,b'];rfl
  ·show max (PyData.depth d) (PyData.depthAll ds)<=n;omega
  ·show QZ d+2+AG ds<=(ds.length+1)*(w+2);rw [Nat.add_mul,Nat.one_mul];omega
theorem Sw.tup{n w k:Nat}{ds:List PyData}(h:∀d∈ds,Sw n w d)(hl:ds.length<=k):Sw (n+1) (k*(w+2)+4) (.tuple ds):=by
 obtain ⟨a,b,c,e⟩:=Sw.all h;refine ⟨a,b,by show PyData.depthAll ds+1<=n+1;omega,?_⟩;show AG ds+4<=_;have:=cW (w+2) hl;omega
theorem Sw.int{x:Int}{k:Nat}(h:x.natAbs<2^k)(hk:k<=1900:=by decide):Sw 1 1921 (.int x) :=
 ⟨SO (n:=1900) (aT h (aV Dd hk)),rfl,by simp [PyData.depth],aG _⟩
theorem Sw.fr{f:Fr}(h:lK 1900 f):Sw 2 3850 (fK f):=Sw.tup (k:=2) (n:=1) (w:=1921) (λd hd=>by
 simp only [aQ,List.not_mem_nil,or_false] at hd;rcases hd with rfl | rfl
 ·exact Sw.int h.1
 ·exact Sw.int h.2) (aG _)
theorem Sw.frs{fs:List Fr}{k:Nat}(h:∀f∈fs,lK 1900 f)(hl:fs.length<=k):Sw 3 (k*3852+4) (qL fs):=Sw.tup (n:=2) (w:=3850) (λd hd=>by
 obtain ⟨f,hf,rfl⟩:=aU.mp hd;exact Sw.fr (h f hf)) (by rw [aA];exact hl)
theorem rrW{H:Hp}{Q:VK}{x:V}{d:PyData}{n w:Nat}(r:bO H d x)(h:Sw n w d)(hn:n<=60)(hw:w<=16000000)(q:Q (.str d.shown) H):CN [x] H Q :=
 rrI r h.sh h.nd (bC h.dp hn) (bC (CK _ h.sh h.nd) (bC h.wd (bC hw Dd))) q
theorem VN{F W M N B Ns:Nat}{es:List bI}{s:List Fr}(R:mX F W M N B Ns es)(hs:∀f∈s,Fn Ns 1 f)(n:Nat):Qn (N*Ns^M) (64*(2*B)) (uG F es (wq s) n) :=
 (Qn.sumL λe he=>R.ends hs (kF.mp he).1).le (cW _ (bC (List.length_filter_le _ _) R.few))
theorem aBG{N C:Nat}{q:Rat}(h:Qn N C q)(h0:0<N)(hN:N<2^600)(hC:C<=2^200):lK 1900 (eZ q):=by
 obtain ⟨z1,z2⟩:=h.fq.num h0;have e1:(2:Nat)^600<=2^1900:=aV Dd Dd;refine ⟨bG z1 ?_,by show (eZ q).2.natAbs<2^1900;omega⟩;refine bG (Nat.mul_le_mul hC (Nat.le_of_lt hN)) ?_;rw [<-Nat.pow_add];exact Nat.pow_lt_pow_right Dd Dd
theorem MV{es:List bI}(h:es.Pairwise λa b=>a.1.sum<=b.1.sum){el:bI}(hl:es.getLast?=some el):∀e∈es,e.1.sum<=el.1.sum:=by
 obtain ⟨r,rfl⟩:=List.getLast?_eq_some_iff.mp hl;intro e he;rw [List.pairwise_append] at h;rcases dF.mp he with he | he
 ·exact h.2.2 e he el (by simp)
 ·rw [cM.mp he];exact aG _
theorem RW{X:Cx}{tg l:Expr}{tl:TE}(K:PySem.W.Frag)(hl:fG X l tl)(h:X.K=K:=by rfl):WG X tg l (aAR K tl):=by subst h;exact vB hl
section
theorem aC5(F:iH K "law" "law" CM f fd)(T:jK K mg c)(FQ12:gT dQ P w K mg base 1 "_law_feed" ["_law_script"] (rC K))(FQ20:gT dQ P w K mg base 4 "_law_small_trial" ["_law_feed_here"] lV)(FQ17:gT dQ P w K mg base 3 "_law_rule" ["_law_feed_here","_law_faces","_law_ways","_law_room"] nT)
  (FQ8:tS P w K mg base 1 c.Watch "trail" ["self"] (kJ c.Watch)) (FQ0:FnO P w K mg base 2 c.Watch ["self","rule"] (oY c.Watch)) (FQ13:gT dQ P w K mg base (6+13) "_law_led" ["_law_case","_law_watch","_law_shares_here","_law_half"] (mO c.Watch 13)) (FQ45:gT dQ P w K mg base 5 "said" ["trial","rule","way"] (qW K)) (FQ28:gT dQ P w K mg base 5 "ended" ["trial","rule","way"] (nY K)):dI P w K mg base dQ 20 f fd ["_law_script"] (sP K):=by
 refine F.oky xH λvs H Q E h=>?_;unfold sP at h;obtain ⟨a,ns,rfl,hS,hl,k⟩:=h;refine ⟨rfl,λcdv A outer s hr=>?_⟩;refine ⟨_,(aJ (bN (i:=1) xH.nd rfl (Or.inl rfl) (bW FQ12 (hr.mono Dd) (aI (aE 0) aD)))
  (aJ (bN (i:=2) xH.nd rfl (Or.inr rfl) (bW FQ20 (hr.mono Dd) (aI (aE 1) aD)))
  (aJ (bN (i:=3) xH.nd rfl (Or.inl rfl) (bW FQ17 (hr.mono Dd) (aI (aE 1) (aI (eC fY (by rfl) T.b_len Kk (aI (bH aZ (aE 2) aF (λ_ _=>rfl)) aD)) (aI (eC fY (by rfl) T.b_len Kk (aI (bH aZ (aE 2) aF (λ_ _=>rfl)) aD)) (aI aF aD))))))
  (aJ (bN (i:=4) xH.nd rfl (Or.inl rfl) (eC fY (by rfl) T.b_len Kk (aI (bH aZ (aE 2) aF (λ_ _=>rfl)) aD)))
  (aJ (bN (i:=5) xH.nd rfl (Or.inr rfl) (eC (VT K rfl) (by rfl) T.b_max Kk (aI (IY (fH.of (psc:=aO CM) (N:=["_law_script","_law_feed_here","_law_trial_here","_law_rule_here","_law_many","_law_looks","_law_half","_law_found","_law_watch","_law_way"]) (xs:=["_law_counts","_law_says_here"]) (N':=["_law_counts","_law_says_here"]) (js:=[]) Kk rfl rfl rfl) (vB (aE 3)) (λ_ _ _ _=>eJ) (λ_ _ _ _=>(eC (uV K rfl) (by rfl) T.b_sum Kk (aI (aE 0) aD)))) aD)))
  (aJ (gL PassesOwn.never rfl (dD rfl T.b_range (aI aF aD)) (dR (i:=6) xH.nd rfl (Or.inl rfl)) (aJ (bN (i:=7) xH.nd rfl (Or.inl rfl) (SA (LV dL (eS (dY.of (psc:=aO CM) (N:=["_law_script","_law_feed_here","_law_trial_here","_law_rule_here","_law_many","_law_looks","_law_half","_law_found","_law_watch","_law_way"]) (N':=["_law_way","_law_trial_here"]) (js:=[2]) Kk rfl rfl rfl) (dD rfl T.b_range (aI (aE 4) aD)) (λ_ _ _ _=>eJ) (λ_ _ _ _=>(eS (dY.of (N:=["_law_way","_law_trial_here"]) (N':=["_law_one"]) (js:=[]) (by kernel_rfl) rfl rfl rfl) (RW K (bH (iF K) (aE 1) aF (λ_ _=>rfl))) (λ_ _ _ _=>eJ) (λ_ _ _ _=>(dO (aI aF (aI aF aD))))))) RV)))
  (aJ (zN hr.u1 (aE 7) dL (eS (dY.of (psc:=aO CM) (N:=["_law_script","_law_feed_here","_law_trial_here","_law_rule_here","_law_many","_law_looks","_law_half","_law_found","_law_watch","_law_way"]) (N':=["_law_way","_law_looks"]) (js:=[5]) Kk rfl rfl rfl) (dD rfl T.b_range (aI (aE 4) aD)) (λ_ _ _ _=>eJ) (λ_ _ _ _=>(eS (dY.of (N:=["_law_way","_law_looks"]) (N':=["_law_k"]) (js:=[]) (by kernel_rfl) rfl rfl rfl) (dD rfl T.b_range (aI (bY eV (aE 1) aF) aD)) (λ_ _ _ _=>eJ) (λ_ _ _ _=>(dO (aI aF (aI aF aD))))))))
  (aJ (bN (i:=8) xH.nd rfl (Or.inl rfl) (LZ FQ0 T.g_Watch (hr.mono Dd) (aI (aE 3) aD)))
  (aJ (gY (nI (mF (bW FQ13 (hr.mono Dd) (aI (dO (aI (aE 2) (aI (aE 3) (aI (aE 7) aD)))) (aI (aE 8) (aI (eS (dY.of (psc:=aO CM) (N:=["_law_script","_law_feed_here","_law_trial_here","_law_rule_here","_law_many","_law_looks","_law_half","_law_found","_law_watch","_law_way"]) (N':=["_law_way"]) (js:=[]) Kk rfl rfl rfl) (dD rfl T.b_range (aI (aE 4) aD)) (λ_ _ _ _=>eJ) (λ_ _ _ _=>(dO (aI aF (aI aF aD))))) (aI (aE 6) aD))))))) (aX (cC pP)) eQ)
  (aX (gL PassesOwn.never rfl (dD rfl T.b_range (aI (aE 4) aD)) (dR (i:=9) xH.nd rfl (Or.inl rfl)) (aJ (gY (eB vY (eC (uW hr.gd hr.units) (by rfl) T.b_repr Kk (aI (bW FQ45 (hr.mono Dd) (aI (aE 2) (aI (aE 3) (aI (aE 9) aD)))) aD)) (eC (uW hr.gd hr.units) (by rfl) T.b_repr Kk (aI (iY dJ (by rfl) T.b_tuple Kk (aI (bH aZ (iN hr.u1 (aE 7) dL) (aE 9) (λ_ _=>rfl)) aD)) aD)) (nomark _)) (aX (cC pP)) eQ)
  (aX (gY (eB vY (eC (uW hr.gd hr.units) (by rfl) T.b_repr Kk (aI (bW FQ28 (hr.mono Dd) (aI (aE 2) (aI (aE 3) (aI (aE 9) aD)))) aD)) (eC (uW hr.gd hr.units) (by rfl) T.b_repr Kk (aI (iY dJ (by rfl) T.b_tuple Kk (aI (bH aZ (iN hr.u1 (aE 7) dL) (aE 9) (λ_ _=>rfl)) aD)) aD)) (nomark _)) (aX (cC pP)) eQ))))))))))
  (aX (cC (qA (aAA hr.units) (eR FQ8 T.w_Watch.cls (hr.mono Dd) (aE 8)) (fO aD) (nomark _)))))))))),?_⟩
 refine ⟨_,rfl,?_⟩;refine JM hS hl λp Lf H1 F1 s1 _ _=>?_;refine ⟨_,rfl,?_⟩;refine CG F1 λtv fs ws H2 F2 b2 r2 TS=>?_;obtain ⟨Ns,n0,n9,TG⟩:=aBs TS;have f2:=TS.f2;have f3:=TS.f3;have w2:=TS.w2;have w3:=TS.w3;have r2':=r2;obtain ⟨ta,txs,rfl,ht,rt'⟩:=fP r2;obtain ⟨tf,tw,rfl,rfa,rwa⟩:=jP rt';obtain ⟨fa,fxs,rfl,hfa,rfx⟩:=fP rfa;obtain ⟨wwa,wxs,rfl,hwa,rwx⟩:=fP rwa;have lfx:fxs.length=fs.length:=by rw [rfx.len,aA]
 have lwx:wxs.length=ws.length:=by rw [rwx.len,aA]
 refine ⟨_,rfl,_,rfl,?_⟩;refine jR ht rfl ?_;refine LP hfa ?_;refine ⟨_,rfl,?_⟩;refine jR ht rfl ?_;refine LP hwa ?_;rw [lfx,lwx];refine ER (R:=10) F2 f2 Oo Oo Oo Dd Dd λrv0 es M H3 F3 b3 r3 RD hrise=>?_;have RG:=aCJ RD n0 n9;have t3:=bZ.tt F2 b3;have r3':=r3;obtain ⟨ar,rxs,rfl,har,rrx⟩:=AI r3;refine ⟨_,rfl,?_⟩;refine jR (t3 _ _ ht) rfl ?_;refine LP (t3 _ _ hwa) ?_;rw [lwx];refine ⟨_,rfl,ar,rfl,⟨_,fS.of har⟩,?_⟩;refine KW (as:=es) (λ_=>true) (λe v=>bO H3 (wT e) v) (λe v _=>v=.int ((e.1.sum:Nat):Int)) (λ_ _ _ _ _ h=>h) (by have:=RG.few;omega) har (Paired.ofRepL rrx) (λv e H' he re s'=>?_) (λD ys H4 hD e4 s4 pr=>?_)
 ·obtain ⟨b,u,z,rfl,hb,ru,rz⟩:=PH (re.same s');obtain ⟨cu,rfl,hcu⟩:=iR ru;refine ⟨b,[.ref cu,z],rfl,fS.of hb,rfl,λQ' h=>h H' (bF.refl _),λH5 Q' s5 _ k'=>?_⟩;refine ⟨_,rfl,?_⟩;refine rsT (ns:=ci e.1) (by rw [iS];exact fS.of (s5 _ _ hcu)) ?_;rw [BH];exact k' _ H5 (bF.refl _) rfl
 rw [wR] at pr;have eys:ys=(es.map λe=>((e.1.sum:Nat):Int)).map V.int:=by
  have all:∀{l:List bI} {zs:List V},Paired (λ(e:bI) v=>v=V.int ((e.1.sum:Nat):Int)) l zs->zs=(l.map λe=>((e.1.sum:Nat):Int)).map V.int:=λh=>by
   induction h with
   | nil=>rfl
   | cons r _ ih=>rw [aW,aW,ih,r]
  exact all pr
 subst eys;have ene:es≠[]:=by obtain ⟨e0,r,he,_⟩:=RG.rl.root;rw [he];exact List.cons_ne_nil _ _
 refine rmxl (fT.of e4) (by rw [aA];exact List.length_pos_iff.mpr ene) λmx hm hmx=>?_;obtain ⟨em,hem,rfl⟩:=aU.mp hm;generalize hLo:em.1.sum=L0 at hmx;have top:∀e∈es,e.1.sum<=L0:=λe he=>by have:=hmx _ (aU.mpr ⟨e,he,rfl⟩);omega
 have l5:L0<=5:=by rw [<-hLo];exact bC (RG.sum em hem) RD.m5
 have RN:=RD.n RG top;obtain ⟨el,hel⟩:∃el,es.getLast?=some el:=⟨es.getLast ene,List.getLast?_eq_some_getLast ene⟩;have hell:el.1.sum=L0:=by
  refine Nat.le_antisymm (top el (List.mem_of_getLast? hel)) ?_;rw [<-hLo];exact MV RG.rl.srt hel em hem
 have t34:cG H2 H4:=t3.trans s4.t;have rt4:bO H4 (uK fs ws) (.ref ta):=r2'.flat t34 (vG _ _);have rr4:bO H4 (AJ es) (.ref ar):=r3'.same s4;have ht4:=t34 _ _ ht;have hwa4:=t34 _ _ hwa;refine ⟨_,rfl,Dd,Dd,?_⟩;refine gH (λi σ H'=>∃(o6 o7 o8 o9:Option V),σ=[some (.ref a),some (.ref p),some (.ref ta),some (.ref ar),some (.int (ws.length:Nat)),some (.int (L0:Nat)),o6,o7,o8,o9]/\bF H4 H'/\(0<i->∃W:Wt,o8=some (.ref W.a)/\jT c.Watch H' W fs.length es [])) ⟨_,_,_,_,rfl,bF.refl _,λz=>absurd z Dd⟩ ?_ ?_
 ·rintro hf σ H5 hhf ⟨o6,o7,o8,o9,rfl,s5,_⟩;rw [show (0:Int)+(hf:Int)=(hf:Int) by omega];have rt5:=rt4.same s5;have rr5:=rr4.same s5;intro dA hdA;have sA:bF H5 (upd H5 dA (.dK [])):=bF.upd hdA;have eA:(upd H5 dA (.dK [])) dA=some (.dK []):=bJ;generalize upd H5 dA (.dK [])=H6 at sA eA ⊢;refine ⟨_,rfl,_,rfl,Oo,Oo,?_⟩;rw [Int.toNat_natCast];refine yR (m:=ws.length) (λ_=>0) Oo (λi H' Q' hi s' k'=>?_) (λD1 as H7 hD1 e7 s7 la nda newa rowa=>?_)
  ·have s56:=(s5.trans sA).trans s';refine ⟨_,rfl,?_⟩;refine jR (s56 _ _ ht4) rfl ?_;refine ⟨wwa,rfl,⟨_,fS.of (s56 _ _ hwa4)⟩,?_⟩;refine yS (λ_ y H'=>bO H' (fK (0,1)) y) (λ_ y H1 H2 s h=>h.flat s (dB _)) Oo (s56 _ _ hwa4) (λj x H8 Q8 hx s8 k8=>?_) (λq ys8 H8 hq e8 s8 lq rq=>?_)
   ·refine pK (by show 2<=64;decide) λq9 H9 hq9 e9 s9=>?_;exact k8 _ H9 s9 (fD (f:=(0,1)) e9)
   ·exact k' q ys8 H8 hq e8 (sT Oo λi y hy=>by rw [wO];exact rq i y hy) s8
  refine ⟨s7 _ _ eA,[(.inr "said",.ref D1)],rfl,by show 1<=15;decide,?_⟩;have b8:=aK.self (p:=dA) (H:=H7) (o:=.dK (oN [] [(.inr ("said" : Str),.ref D1)]));have e8:(upd H7 dA (.dK (oN [] [(.inr ("said" : Str),.ref D1)]))) dA=some (.dK [(.inr ("said" : Str),.ref D1)]):=bJ;generalize upd H7 dA (.dK (oN [] [(.inr ("said" : Str),.ref D1)]))=H8 at b8 e8 ⊢;have S58:bF H5 H8:=bF.thru hdA (sA.trans s7) b8;have nD1:D1≠dA:=λz=>by rw [z,eA] at hD1;cases hD1
  have e8D:=b8.at nD1 e7;have t78:cG H7 H8:=aK.tD b8 (s7 _ _ eA);refine ⟨_,rfl,_,rfl,Oo,Oo,?_⟩;rw [Int.toNat_natCast];refine yR (m:=L0+1) (λ_=>0) Oo (λi H' Q' hi s' k'=>?_) (λD2 bs H9 hD2 e9 s9 lb ndb newb rowb=>?_)
  ·refine ⟨_,rfl,_,_,rfl,rfl,?_⟩;refine ⟨_,rfl,Oo,Oo,?_⟩;rw [show ((L0:Int)+1).toNat=L0+1 by omega];refine iM (λ_ y H'=>bO H' (fK (0,1)) y) (λ_ y H1 H2 s h=>h.flat s (dB _)) Oo (λj H8 Q8 hx s8 k8=>?_) (λq ys8 H8 hq e8 s8 lq rq=>?_)
   ·refine pK (by show 2<=64;decide) λq9 H9 hq9 e9 s9=>?_;exact k8 _ H9 s9 (fD (f:=(0,1)) e9)
   ·exact k' q ys8 H8 hq e8 (sT lq λi y hy=>by rw [wO];exact rq i y hy) s8
  refine ⟨_,rfl,?_⟩;refine dpS (kvs2:=[(.inr ("said" : Str),.ref D1),(.inr ("ends" : Str),.ref D2)]) (s9 _ _ e8) (by show 1<=64;decide) rfl λH10 e10 b10=>?_;have t910:cG H9 H10:=aK.tD b10 (s9 _ _ e8);have S510:bF H5 H10:=bF.thru hdA (S58.trans s9) b10;have rt10:=rt5.same S510;have rr10:=rr5.same S510;have aIn:∀l∈as,∃xs,H10 l=some (.lst xs)/\aP H10 (mP (λ_=>0) ws.length) xs:=λl hl=>by
   obtain ⟨xs,h1,h2⟩:=rowa l hl;have nl:l≠dA:=λz=>by have:=(newa l hl).1;rw [z,eA] at this;cases this
   exact ⟨xs,b10.at nl (s9 _ _ (b8.at nl h1)),((h2.flat t78 (gF _ _)).same s9).flat t910 (gF _ _)⟩
  have bIn:∀l∈bs,∃xs,H10 l=some (.lst xs)/\aP H10 (mP (λ_=>0) (L0+1)) xs:=λl hl=>by
   obtain ⟨xs,h1,h2⟩:=rowb l hl;have nl:l≠dA:=λz=>by have:=(newb l hl).1;rw [z,e8] at this;cases this
   exact ⟨xs,b10.at nl h1,h2.flat t910 (gF _ _)⟩
  have nD2:D2≠dA:=λz=>by rw [z,e8] at hD2;cases hD2
  have d1_10:=b10.at nD1 (s9 _ _ e8D);have d2_10:=b10.at nD2 e9;have ac10:iV H10 ⟨dA,D1,D2,as,bs⟩ ws.length (L0+1) (λ_ _=>0) (λ_ _=>0):=⟨⟨_,e10,rfl,rfl⟩,d1_10,d2_10,la,lb,λi l hi=>aIn l (aR hi),λi l hi=>bIn l (aR hi)⟩;refine ⟨_,rfl,λwx dx hx hdx nd=>?_⟩;have s11:bF H10 (upd (upd H10 dx (.own wx)) wx (.ins c.Watch dx [])):=(bF.upd hdx).trans (bF.upd (by rw [L2.cL (Ne.symm nd)];exact hx));refine JF bJ (rr10.same s11) RN Oo Oo λdw tw' sw H11 hdw htw hsw wa11 b11=>?_;have S1011:bF H10 H11:=bF.thru hx s11 b11;have ht10:H10 tw'=none:=s11.free htw;have hs10:H10 sw=none:=s11.free hsw;refine ⟨rfl,?_⟩;have nts:=wa11.ne;generalize hWt:(⟨wx,dx,dw,tw',sw⟩:Wt)=W at wa11 nts;have et:W.t=tw':=by rw [<-hWt]
  have es':W.s=sw:=by rw [<-hWt]
  have ea:W.a=wx:=by rw [<-hWt]
  rw [<-et] at ht10;rw [<-es'] at hs10;rw [<-ea];have an:RK ⟨dA,D1,D2,as,bs⟩ W:=by
   have inA:∀l∈as,H8 l≠none:=λl hl z=>by
    obtain ⟨xs,h1,_⟩:=rowa l hl;have nl:l≠dA:=λz=>by have:=(newa l hl).1;rw [z,eA] at this;cases this
    rw [b8.at nl h1] at z;cases z
   have ab:(as++bs).Nodup:=List.nodup_append.mpr ⟨nda,ndb,λx hx y hy z=>inA x hx (by rw [z];exact (newb y hy).1)⟩;have in10:∀l∈as++bs,H10 l≠none:=λl hl z=>by
    rcases dF.mp hl with hl | hl
    ·obtain ⟨xs,h1,_⟩:=aIn l hl;rw [h1] at z;cases z
    ·obtain ⟨xs,h1,_⟩:=bIn l hl;rw [h1] at z;cases z
   refine ⟨List.nodup_cons.mpr ⟨λz=>?_,List.nodup_cons.mpr ⟨λz=>?_,List.nodup_cons.mpr ⟨λz=>?_,List.nodup_cons.mpr ⟨λz=>?_,ab⟩⟩⟩⟩⟩
   ·simp only [aQ] at z;rcases z with z | z | z | z
    ·rw [z,hD2] at e8D;cases e8D
    ·rw [z,ht10] at d1_10;cases d1_10
    ·rw [z,hs10] at d1_10;cases d1_10
    ·rcases dF.mp z with z | z
     ·exact (newa _ z).2 rfl
     ·have:=(newb _ z).1;rw [e8D] at this;cases this
   ·simp only [aQ] at z;rcases z with z | z | z
    ·rw [z,ht10] at d2_10;cases d2_10
    ·rw [z,hs10] at d2_10;cases d2_10
    ·rcases dF.mp z with z | z
     ·exact inA _ z hD2
     ·exact (newb _ z).2 rfl
   ·rcases aQ.mp z with z | z
    ·exact nts z
    ·exact in10 _ z ht10
   ·exact in10 _ z hs10
  have ac11:=ac10.same S1011;have new5:∀b∈chg ⟨dA,D1,D2,as,bs⟩ W,H5 b=none:=λb hb=>by
   rcases aQ.mp hb with rfl | hb
   ·exact S510.free ht10
   rcases aQ.mp hb with rfl | hb
   ·exact S510.free hs10
   rcases dF.mp hb with hb | hb
   ·exact sA.free (newa b hb).1
   ·exact S58.free (newb b hb).1
  have rt11:=rt10.same S1011;have rr11:=rr10.same S1011;refine ⟨_,rfl,_,rfl,_,rfl,?_⟩;refine pK (by show 3<=64;decide) λcq H12 hcq e12 s12=>?_;refine ⟨_,rfl,_,rfl,_,rfl,Oo,Oo,?_⟩;rw [Int.toNat_natCast];refine iM (λ_ y H'=>bO H' (fK (1,1)) y) (λ_ y H1 H2 s h=>h.flat s (dB _)) Oo (λj H8 Q8 hx s8 k8=>?_) (λsq ys13 H13 hsq e13 s13 lq rq=>?_)
  ·refine pK (by show 2<=64;decide) λq9 H9 hq9 e9 s9=>?_;exact k8 _ H9 s9 (fD (f:=(1,1)) e9)
  refine ⟨_,rfl,?_⟩;have s1113:=s12.trans s13;have wa13:=wa11.same s1113;have ac13:=ac11.same s1113;have LD:GH fs.length ws.length L0 (L0+1) (LC*Ns) es [] fs ws:=⟨RN,.nil,rfl,rfl,Oo,Oo,Nat.lt_succ_self _,Oo,Nat.mul_pos Dd n0,bG (fM _ n9) Kk,Nat.dvd_mul_right _ _,λx hx=>(TS.sh x hx).len,λx hx f hf=>(TG.sh x hx f hf).dvd (Nat.dvd_mul_left _ _)⟩;refine CI (A:=⟨dA,D1,D2,as,bs⟩) (k:=0) (B:=0) (Sh:=λ_=>1) (f:=λ_ _=>0) (g:=λ_ _=>0) wa13 (s13 _ _ e12) (rt11.same s1113) (rr11.same s1113) e13 (sT lq λi y hy=>by rw [BB];exact rq i y hy) ac13 an (λz=>GA (ac11.same s12) (wa11.same s12) z hsq) LD Oo (λw _=>Qn.one' _) Dd ⟨λ_ _=>Qn.zero _ _,λ_ _=>Qn.zero _ _⟩ Dd Dd ?_ λf' g' H14 ac14 ad14 aq14 wa14 x14=>?_
  ·show fu L0 (come es (List.replicate fs.length 0))<13;unfold fu;show 2*(L0-_)+_<13;split <;> omega
  refine ⟨_,rfl,kY ?_⟩;have S514:bF H5 H14:=λb o h=>x14 _ _ (λz=>by rw [new5 b z] at h;cases h) (s1113 _ _ (S1011 _ _ (S510 _ _ h)));have rt14:=rt5.same S514;have rr14:=rr5.same S514;have w19:LC^6*Ns^M<2^600:=by
   have h1:Ns^M<=(1000^9)^5:=bC (Nat.pow_le_pow_left n9 M) (aV Dd RD.m5);exact bG (fM _ h1) Kk
  have w0:0<LC^6*Ns^M:=Nat.mul_pos Kk (Nat.pow_pos n0);have bz:64*5^40<=2^200:=Kk;refine ⟨_,rfl,_,rfl,Oo,Oo,?_⟩;rw [Int.toNat_natCast];refine gH (λi σ H'=>∃(o9:Option V),σ=[some (.ref a),some (.ref p),some (.ref ta),some (.ref ar),some (.int (ws.length:Nat)),some (.int (L0:Nat)),some (.int (hf:Int)),some (.ref dA),some (.ref W.a),o9]/\bF H14 H') ⟨_,rfl,bF.refl _⟩ ?_ ?_
  ·rintro i σ H15 hi ⟨o9',rfl,s15⟩;rw [show (0:Int)+(i:Int)=(i:Int) by omega];obtain ⟨x,hx⟩:∃x,ws[i]?=some x:=⟨_,aC hi⟩;have mx:=aR hx;have ex:sQ ws i=x.2:=by show (ws.getD i ("",[])).2=_;rw [aS,hx];rfl
   have lowx:=(TS.sh x mx).low;have lenx:=(TS.sh x mx).len;have ac15:=ac14.same s15;obtain ⟨al,hal⟩:∃al,as[i]?=some al:=⟨_,aC (by rw [la];exact hi)⟩;obtain ⟨bl,hbl⟩:∃bl,bs[i]?=some bl:=⟨_,aC (by rw [lb];exact hi)⟩;refine ⟨_,rfl,_,rfl,_,rfl,?_⟩;refine JI (rt14.same s15) (FB (rr14.same s15)) RG Oo Oo hx (TG.sh x mx) (TG.b x mx) Oo rfl λv16 H16 s16 r16=>?_;have swS:Sw 3 (3*3852+4) (qL ((List.range ws.length).map λw=>eZ (mZ fs.length es (wq x.2) w))):=Sw.frs (λf hf=>by
    obtain ⟨j,_,rfl⟩:=aU.mp hf;exact aBG (RG.said (TG.sh x mx) j) w0 w19 bz) (by rw [aA,cX];exact w3)
   refine rrW r16 swS Dd Dd ?_;have ac16:=ac15.same s16;obtain ⟨kv16,k1,k2,k3⟩:=ac16.dic;obtain ⟨ys,ey,ry⟩:=ac16.ra i al hal;refine ⟨_,rfl,?_⟩;refine dgS k1 k2 ?_;refine ⟨_,rfl,?_⟩;refine lF ac16.e1 (cK (show (as.map V.ref)[i]?=some (.ref al) by rw [aM,hal];rfl)) ?_;refine ⟨al,ys,rfl,.inl ⟨fT.of ey,λl hl=>?_⟩⟩;have sl:=bF.upd (o:=.tup ys) hl;have el17:(upd H16 l (.tup ys)) l=some (.tup ys):=bJ;generalize upd H16 l (.tup ys)=H17 at sl el17 ⊢;have eqS:mP (f' i) ws.length=((List.range ws.length).map λw=>eZ (mZ fs.length es (wq x.2) w)).map fK:=by
    rw [List.map_map];refine dE λj hj=>?_;have hj:=cE.mp hj;show fK (eZ (f' i j))=fK (eZ (mZ fs.length es (wq x.2) j));have:=ad14.a i hi j hj;rw [ex,JA RG RN lowx lenx l5 hj] at this;rw [this];congr 2;grind
   have r17:bO H17 (qL ((List.range ws.length).map λw=>eZ (mZ fs.length es (wq x.2) w))) (.ref l):=bO.tup el17 (by rw [<-eqS];exact ry.same sl);refine rrW r17 swS Dd Dd ?_;refine ⟨rfl,_,rfl,?_⟩;refine XR (by simp) ?_;have s1517:=s16.trans sl;have ac17:=ac15.same s1517;have s17:=s15.trans s1517;refine ⟨_,rfl,_,rfl,_,rfl,?_⟩;refine EU (rt14.same s17) (FB (rr14.same s17)) RG Oo Oo hx (TG.sh x mx) (TG.b x mx) hel hell Oo λv18 H18 s18 r18=>?_;have swE:Sw 3 (6*3852+4) (qL ((List.range (L0+1)).map λn=>eZ (uG fs.length es (wq x.2) n))):=Sw.frs (λf hf=>by
    obtain ⟨j,_,rfl⟩:=aU.mp hf;exact aBG (VN RG (TG.sh x mx) j) w0 w19 Kk) (by rw [aA,cX];omega)
   refine rrW r18 swE Dd Dd ?_;have ac18:=ac17.same s18;obtain ⟨kv18,k4,k5,k6⟩:=ac18.dic;obtain ⟨us,eu,ru⟩:=ac18.rb i bl hbl;refine ⟨_,rfl,?_⟩;refine dgS k4 k6 ?_;refine ⟨_,rfl,?_⟩;refine lF ac18.e2 (cK (show (bs.map V.ref)[i]?=some (.ref bl) by rw [aM,hbl];rfl)) ?_;refine ⟨bl,us,rfl,.inl ⟨fT.of eu,λl2 hl2=>?_⟩⟩;have sl2:=bF.upd (o:=.tup us) hl2;have el19:(upd H18 l2 (.tup us)) l2=some (.tup us):=bJ;generalize upd H18 l2 (.tup us)=H19 at sl2 el19 ⊢;have eqE:mP (g' i) (L0+1)=((List.range (L0+1)).map λn=>eZ (uG fs.length es (wq x.2) n)).map fK:=by
    rw [List.map_map];refine dE λj hj=>?_;have hj:=cE.mp hj;show fK (eZ (g' i j))=fK (eZ (uG fs.length es (wq x.2) j));have:=ad14.b i hi j hj;rw [ex,EG RG RN RD.sy lowx lenx l5] at this;rw [this];congr 2;grind
   have r19:bO H19 (qL ((List.range (L0+1)).map λn=>eZ (uG fs.length es (wq x.2) n))) (.ref l2):=bO.tup el19 (by rw [<-eqE];exact ru.same sl2);refine rrW r19 swE Dd Dd ?_;refine ⟨rfl,_,rfl,?_⟩;refine XR (by simp) ?_;exact ⟨_,rfl,s17.trans (s18.trans sl2)⟩
  ·rintro σ H15 ⟨o9',rfl,s15⟩;exact ⟨_,_,_,_,rfl,s5.trans (S514.trans s15),λ_=>⟨W,rfl,wa14.same s15⟩⟩
 ·rintro σ H5 ⟨o6,o7,o8,o9,rfl,s5,hw⟩;obtain ⟨W,rfl,wa⟩:=hw Dd;refine ⟨_,rfl,W.a,W.dx,_,rfl,wa.wi.ins,rfl,?_⟩;refine mK wa (by show 0<=100;omega) λD2 zs2 H6 hD2 e6 rz2 s6=>?_;refine yF (by show 0<=64;decide) λq7 H7 hq7 e7 s7=>?_;refine reD (d:=.list []) (d':=.list []) (bO.lst (s7 _ _ e6) (rz2.same s7)) (bO.lst e7 aP.nil) rfl rfl ?_;exact k _
end
theorem US{K:PySem.W.Frag}{C:Addr}:∀f∈([]:List Str),jU K C f:=λ_ h=>by cases h
theorem rM{K:PySem.W.Frag}{C:Addr}{g:Str}{fs:List Str}(h:jU K C g)(r:∀f∈fs,jU K C f):∀f∈g::fs,jU K C f:=λf hf=>by
 rcases aQ.mp hf with rfl | hf
 ·exact h
 ·exact r f hf
theorem KF{α:Type}{us:List α}(h:us.length=1):∃a,us=[a]:=match us,h with | [a],_=>⟨a,rfl⟩
theorem KD{α:Type}{us:List α}(h:us.length=2):∃a b,us=[a,b]:=match us,h with | [a,b],_=>⟨a,b,rfl⟩
theorem aDx{α:Type}{us:List α}(h:us.length=3):∃a b c,us=[a,b,c]:=match us,h with | [a,b,c],_=>⟨a,b,c,rfl⟩
theorem aDw{α:Type}{us:List α}(h:us.length=4):∃a b c d,us=[a,b,c,d]:=match us,h with | [a,b,c,d],_=>⟨a,b,c,d,rfl⟩
theorem aAV{K:PySem.W.Frag}{x q:Str}{st:Stmt}{f:Addr}{fd:FuncData}(F:iH K x q st f fd)(P:FuncData->Prop)(h:P fd):∃fd,P fd:=⟨fd,h⟩
inductive Dn (K:PySem.W.Frag) (n:Str) (st:Stmt):Prop
 | mk {f:Addr} {oc:Value} {od:Option Addr} {kV dc pm:Value} {an:Option Addr} {cd ct:Value} {sl:Array (Option Value)} (a:PySem.W.nsIn K mainGlobals n=some (some (.ref f))) (l:K.lookup f=some ⟨oc,od,.func (PySem.W.fnOf n n (fN st) (eW st) (aO st) .none kV dc pm an cd ct),sl⟩) (c:PySem.W.codeIn K cd n=true) (k:PySem.W.keepIn K (.ref f)=true):Dn K n st
theorem fnd(l:PySem.W.OpenLaw)(w:World){K:PySem.W.Frag}{h:Heap}{mg:Str->Option Value}(X:K.In h)(G:h.Ns mainGlobals mg)(base:Heap){n:Str}{st:Stmt}{L:Nat}{ps:List Str}{sp:Sp}(d:Dn K n st)(o:∀{f:Addr}{fd:FuncData},iH K n n st f fd->dI l.prog w K mg base dQ L f fd ps sp)(b:∀(kV doc pm:Value) (an:Option Addr) (cdv ct:Value) (us:List Value),us.length=ps.length->bindArgs (PySem.W.fnOf n n (fN st) (eW st) (aO st) .none kV doc pm an cdv ct) ⟨us,[]⟩=pure (ps.zip us):=by intro _ _ _ _ _ _ us hl;first | (obtain ⟨_,rfl⟩:=KF hl;rfl) | (obtain ⟨_,_,rfl⟩:=KD hl;rfl) | (obtain ⟨_,_,_,rfl⟩:=aDx hl;rfl) | (obtain ⟨_,_,_,_,rfl⟩:=aDw hl;rfl) | (obtain ⟨_,_,_,_,_,rfl⟩:=len5 hl;rfl)):gT dQ l.prog w K mg base L n ps sp:=by
 obtain ⟨a,l',c,k⟩:=d;exact ⟨_,_,o (jF l' c k),PySem.W.mg_of X G a,k,(jF l' c k).binds b⟩
open PySem.W (nsIn fnOf codeIn keepIn mg_of mg_none_of) in
theorem aA4{l:PySem.W.OpenLaw}{w:World}{K:PySem.W.Frag}{h:Heap}{mg:Str->Option Value}{fa:Addr}{c_ONE:Addr}{c_NOUGHT:Addr}{c_Watch:Addr}{tok_LOOKS_ON:Tok}(X:K.In h)(G:h.Ns mainGlobals mg)(hfa:mg "law" = some (.ref fa))
  (u_ONE:nsIn K mainGlobals "ONE" = some (some (.ref c_ONE)))
  (u_NOUGHT:nsIn K mainGlobals "NOUGHT" = some (some (.ref c_NOUGHT)))
  (u_Watch:nsIn K mainGlobals "Watch" = some (some (.ref c_Watch)))
  (u_LOOKS_ON:nsIn K mainGlobals "LOOKS_ON" = some (some (.int 0 tok_LOOKS_ON)))
  (mi_Watch:PySem.W.makesIn K c_Watch=true)
  (pg_Watch:PySem.W.plainGet K c_Watch Str.empty=true)
  (hd_Watch:PySem.W.hasDictIn K c_Watch=true)
  (po_Watch:PySem.W.plainOver K c_Watch=true)
  (sa_Watch:PySem.W.findIn K (.ref c_Watch) "__setattr__" = some (some (.builtin "object.__setattr__")))
  (n0_Watch:PySem.W.findIn K (.ref c_Watch) "says_of" = some none)
  (n1_Watch:PySem.W.findIn K (.ref c_Watch) "faces" = some none)
  (n2_Watch:PySem.W.findIn K (.ref c_Watch) "told" = some none)
  (n3_Watch:PySem.W.findIn K (.ref c_Watch) "stands" = some none)
  (o_ONE:qH K c_ONE [1,1]=true)
  (o_NOUGHT:qH K c_NOUGHT [0,1]=true)
  (d0:Dn K "_law_low" ZS)
  (d1:Dn K "_law_feed" ZT)
  (d2:Dn K "_law_draw" ZU)
  (d3:Dn K "_law_shares" JR)
  (d4:Dn K "_law_trial" SZ)
  (d5:Dn K "common_divisor" ZM)
  (d6:Dn K "plus" ZA)
  (d7:Dn K "times" YX)
  (d8:Dn K "less" ZF)
  (d9:Dn K "total" YW)
  (d10:Dn K "ways_of" YU)
  (d11:Dn K "way_shares" YV)
  (d12:Dn K "power" YZ)
  (d13:Dn K "weight" YT)
  (d14:Dn K "one_more" ZB)
  (d15:Dn K "ones_more" SU)
  (d16:Dn K "looks_on" ZE)
  (d17:Dn K "noughts" SV)
  (d18:Dn K "rule_faces" YY)
  (d19:Dn K "amounts" SY)
  (d20:Dn K "comings" ZN)
  (d21:Dn K "said_of" SS)
  (d22:Dn K "most_of" ZC)
  (d23:Dn K "said" ST)
  (d24:Dn K "ended_behind" SW)
  (d25:Dn K "ended" SX)
  (d26:Dn K "_law_more" ZR)
  (d27:Dn K "_law_says" NB)
  (d28:Dn K "_law_rule" TC)
  (d29:Dn K "_law_add" ZV)
  (d30:Dn K "_law_mul" ZQ)
  (d31:Dn K "is_whole" ZG)
  (d32:Dn K "is_fraction" ZJ)
  (d33:Dn K "is_share" ZH)
  (d34:Dn K "is_less" ZI)
  (d35:Dn K "is_face" ZK)
  (d36:Dn K "drawn" ZL)
  (a37:PySem.W.findIn K (.ref c_Watch) "due" = some (some (.ref f37))) (l37:K.lookup f37=some ⟨oc37,od37,.func (fnOf "due" "Watch.due" (fN sQ3) (eW sQ3) (aO sQ3) .none kV37 dc37 pm37 an37 cd37 ct37),sl37⟩) (c37:codeIn K cd37 "Watch.due" = true) (k37:keepIn K (.ref f37)=true) (fn37:PySem.W.isFn K (.ref f37)=true) (kp37:keepIn K (.ref c_Watch)=true)
  (a38:PySem.W.findIn K (.ref c_Watch) "seen" = some (some (.ref f38))) (l38:K.lookup f38=some ⟨oc38,od38,.func (fnOf "seen" "Watch.seen" (fN sQ7) (eW sQ7) (aO sQ7) .none kV38 dc38 pm38 an38 cd38 ct38),sl38⟩) (c38:codeIn K cd38 "Watch.seen" = true) (k38:keepIn K (.ref f38)=true) (fn38:PySem.W.isFn K (.ref f38)=true) (kp38:keepIn K (.ref c_Watch)=true)
  (a39:PySem.W.findIn K (.ref c_Watch) "way" = some (some (.ref f39))) (l39:K.lookup f39=some ⟨oc39,od39,.func (fnOf "way" "Watch.way" (fN sQ9) (eW sQ9) (aO sQ9) .none kV39 dc39 pm39 an39 cd39 ct39),sl39⟩) (c39:codeIn K cd39 "Watch.way" = true) (k39:keepIn K (.ref f39)=true) (fn39:PySem.W.isFn K (.ref f39)=true) (kp39:keepIn K (.ref c_Watch)=true)
  (a40:PySem.W.findIn K (.ref c_Watch) "trail" = some (some (.ref f40))) (l40:K.lookup f40=some ⟨oc40,od40,.func (fnOf "trail" "Watch.trail" (fN sQ8) (eW sQ8) (aO sQ8) .none kV40 dc40 pm40 an40 cd40 ct40),sl40⟩) (c40:codeIn K cd40 "Watch.trail" = true) (k40:keepIn K (.ref f40)=true) (fn40:PySem.W.isFn K (.ref f40)=true) (kp40:keepIn K (.ref c_Watch)=true)
  (a41:PySem.W.findIn K (.ref c_Watch) "refuse_unless" = some (some (.ref f41))) (l41:K.lookup f41=some ⟨oc41,od41,.func (fnOf "refuse_unless" "Watch.refuse_unless" (fN sQ6) (eW sQ6) (aO sQ6) .none kV41 dc41 pm41 an41 cd41 ct41),sl41⟩) (c41:codeIn K cd41 "Watch.refuse_unless" = true) (k41:keepIn K (.ref f41)=true) (fn41:PySem.W.isFn K (.ref f41)=true) (kp41:keepIn K (.ref c_Watch)=true)
  (a42:PySem.W.findIn K (.ref c_Watch) "come_to" = some (some (.ref f42))) (l42:K.lookup f42=some ⟨oc42,od42,.func (fnOf "come_to" "Watch.come_to" (fN sQ2) (eW sQ2) (aO sQ2) .none kV42 dc42 pm42 an42 cd42 ct42),sl42⟩) (c42:codeIn K cd42 "Watch.come_to" = true) (k42:keepIn K (.ref f42)=true) (fn42:PySem.W.isFn K (.ref f42)=true) (kp42:keepIn K (.ref c_Watch)=true)
  (a43:PySem.W.findIn K (.ref c_Watch) "back" = some (some (.ref f43))) (l43:K.lookup f43=some ⟨oc43,od43,.func (fnOf "back" "Watch.back" (fN sQ1) (eW sQ1) (aO sQ1) .none kV43 dc43 pm43 an43 cd43 ct43),sl43⟩) (c43:codeIn K cd43 "Watch.back" = true) (k43:keepIn K (.ref f43)=true) (fn43:PySem.W.isFn K (.ref f43)=true) (kp43:keepIn K (.ref c_Watch)=true)
  (a44:PySem.W.findIn K (.ref c_Watch) "look" = some (some (.ref f44))) (l44:K.lookup f44=some ⟨oc44,od44,.func (fnOf "look" "Watch.look" (fN sQ4) (eW sQ4) (aO sQ4) .none kV44 dc44 pm44 an44 cd44 ct44),sl44⟩) (c44:codeIn K cd44 "Watch.look" = true) (k44:keepIn K (.ref f44)=true) (fn44:PySem.W.isFn K (.ref f44)=true) (kp44:keepIn K (.ref c_Watch)=true)
  (a45:PySem.W.findIn K (.ref c_Watch) "lot" = some (some (.ref f45))) (l45:K.lookup f45=some ⟨oc45,od45,.func (fnOf "lot" "Watch.lot" (fN sQ5) (eW sQ5) (aO sQ5) .none kV45 dc45 pm45 an45 cd45 ct45),sl45⟩) (c45:codeIn K cd45 "Watch.lot" = true) (k45:keepIn K (.ref f45)=true) (fn45:PySem.W.isFn K (.ref f45)=true) (kp45:keepIn K (.ref c_Watch)=true)
  (a46:PySem.W.findIn K (.ref c_Watch) "__init__" = some (some (.ref f46))) (l46:K.lookup f46=some ⟨oc46,od46,.func (fnOf "__init__" "Watch.__init__" (fN sQ0) (eW sQ0) (aO sQ0) .none kV46 dc46 pm46 an46 cd46 ct46),sl46⟩) (c46:codeIn K cd46 "Watch.__init__" = true) (k46:keepIn K (.ref f46)=true) (fn46:PySem.W.isFn K (.ref f46)=true) (kp46:keepIn K (.ref c_Watch)=true)
  (d47:Dn K "_law_small_trial" TB)
  (d48:Dn K "_law_tell" ZO)
  (d49:Dn K "_law_stretch" ZP)
  (d50:Dn K "_law_led" JS)
  (d51:Dn K "law" CM) (z0:nsIn K mainGlobals "list" = some none) (z1:nsIn K mainGlobals "len" = some none) (z2:nsIn K mainGlobals "abs" = some none) (z3:nsIn K mainGlobals "range" = some none) (z4:nsIn K mainGlobals "sum" = some none) (z5:nsIn K mainGlobals "int" = some none) (z6:nsIn K mainGlobals "sorted" = some none) (z7:nsIn K mainGlobals "dict" = some none) (z8:nsIn K mainGlobals "isinstance" = some none) (z9:nsIn K mainGlobals "tuple" = some none) (z10:nsIn K mainGlobals "zip" = some none) (z11:nsIn K mainGlobals "repr" = some none) (z12:nsIn K mainGlobals "max" = some none) (z13:nsIn K mainGlobals "bool" = some none) :
  ∃fd:FuncData,(∀(s:Shared) (v:Value),BindsTo s fd ⟨[v],[]⟩ [("_law_script",v)])/\∀base:Heap,K.In base->base.Ns mainGlobals mg->dI l.prog w K mg base dQ 20 fa fd ["_law_script"] (sP K):=by
 obtain ⟨a51,l51,c51,k51⟩:=d51;have e:=hfa.symm.trans (mg_of X G a51);cases e;generalize hcl:(⟨c_ONE,c_NOUGHT,c_Watch,tok_LOOKS_ON⟩:Cl)=c;have T:jK K mg c:=by rw [<-hcl];exact ⟨mg_none_of X G z0,mg_none_of X G z1,mg_none_of X G z2,mg_none_of X G z3,mg_none_of X G z4,mg_none_of X G z5,mg_none_of X G z6,mg_none_of X G z7,mg_none_of X G z8,mg_none_of X G z9,mg_none_of X G z10,mg_none_of X G z11,mg_none_of X G z12,mg_none_of X G z13,mg_of X G u_ONE,mg_of X G u_NOUGHT,mg_of X G u_LOOKS_ON,mg_of X G u_Watch,⟨⟨pg_Watch,hd_Watch,po_Watch,sa_Watch⟩,(rM n0_Watch (rM n1_Watch (rM n2_Watch (rM n3_Watch US))))⟩,o_ONE,o_NOUGHT⟩
 have F51:=jF (st:=CM) l51 c51 k51;refine aAV F51 _ ⟨λs v=>.of_eq rfl,λbase _ _=>?_⟩;have N:=@fnd l w K h mg X G base;have GQ14:=N d0 λF=>aDq F T;have GQ12:=N d1 λF=>aDs F T;have GQ11:=N d2 λF=>aDt F T;have GQ19:=N d3 λF=>aDl F T GQ11 GQ14;have GQ23:=N d4 λF=>aDh F T GQ11 GQ19;have GQ26:=N d5 λF=>aDe F T;have GQ42:=N d6 λF=>aCY F T GQ26;have GQ47:=N d7 λF=>aCT F T GQ26;have GQ36:=N d8 λF=>aC4 F T GQ42;have GQ48:=N d9 λF=>aCS F T GQ42;have GQ50:=N d10 λF=>aCQ F T;have GQ49:=N d11 λF=>aCR F T;have GQ43:=N d12 λF=>aCX F T;have GQ51:=N d13 λF=>aCP F T GQ49 GQ47 GQ43;have GQ40:=N d14 λF=>aC0 F T;have GQ41:=N d15 λF=>aCZ F T GQ40;have GQ37:=N d16 λF=>aC3 F T;have GQ39:=N d17 λF=>aC1 F T;have GQ44:=N d18 λF=>aCW F T;have GQ24:=N d19 λF=>aDg F T GQ39 GQ44 GQ37 GQ47 GQ41 GQ42;have GQ25:=N d20 λF=>aDf F T GQ24 GQ47 GQ51;have GQ46:=N d21 λF=>aCU F T GQ48 GQ47;have GQ38:=N d22 λF=>aC2 F T;have GQ45:=N d23 λF=>aCV F T GQ25 GQ46 GQ50;have GQ29:=N d24 λF=>aDb F T GQ48 GQ47 GQ36;have GQ28:=N d25 λF=>aDc F T GQ25 GQ29 GQ38;have GQ15:=N d26 λF=>aDp F T;have GQ18:=N d27 λF=>aDm F T GQ11 GQ14;have GQ17:=N d28 λF=>aDn F T GQ11 GQ18 GQ15;have GQ10:=N d29 λF=>aDu F T GQ14;have GQ16:=N d30 λF=>aDo F T GQ14;have GQ34:=N d31 λF=>aC6 F T;have GQ31:=N d32 λF=>aC9 F T GQ34 GQ26;have GQ33:=N d33 λF=>aC7 F T GQ31;have GQ32:=N d34 λF=>aC8 F T;have GQ30:=N d35 λF=>aDa F T GQ34
 have GQ27:=N d36 λF=>aDd F T GQ32 GQ42;have F37:=jF (st:=sQ3) l37 c37 k37;have b37:=F37.binds (ps:=["self"]) λ_ _ _ _ _ _ us hl=>by obtain ⟨_,rfl⟩:=KF (show us.length=1 from hl);rfl
 have GQ3:tS l.prog w K mg base 1 c.Watch "due" ["self"] (oA c.Watch):=⟨_,_,oQ3 F37 T,⟨(by rw [<-hcl];exact a37),fn37,k37⟩,b37⟩;have F38:=jF (st:=sQ7) l38 c38 k38;have b38:=F38.binds (ps:=["self"]) λ_ _ _ _ _ _ us hl=>by obtain ⟨_,rfl⟩:=KF (show us.length=1 from hl);rfl
 have GQ7:tS l.prog w K mg base 1 c.Watch "seen" ["self"] (lA c.Watch):=⟨_,_,oQ7 F38 T,⟨(by rw [<-hcl];exact a38),fn38,k38⟩,b38⟩;have F39:=jF (st:=sQ9) l39 c39 k39;have b39:=F39.binds (ps:=["self"]) λ_ _ _ _ _ _ us hl=>by obtain ⟨_,rfl⟩:=KF (show us.length=1 from hl);rfl
 have GQ9:tS l.prog w K mg base 2 c.Watch "way" ["self"] (sN c.Watch):=⟨_,_,oQ9 F39 T GQ3,⟨(by rw [<-hcl];exact a39),fn39,k39⟩,b39⟩;have F40:=jF (st:=sQ8) l40 c40 k40;have b40:=F40.binds (ps:=["self"]) λ_ _ _ _ _ _ us hl=>by obtain ⟨_,rfl⟩:=KF (show us.length=1 from hl);rfl
 have GQ8:tS l.prog w K mg base 1 c.Watch "trail" ["self"] (kJ c.Watch):=⟨_,_,oQ8 F40 T,⟨(by rw [<-hcl];exact a40),fn40,k40⟩,b40⟩;have F41:=jF (st:=sQ6) l41 c41 k41;have b41:=F41.binds (ps:=["self","word"]) λ_ _ _ _ _ _ us hl=>by obtain ⟨_,_,rfl⟩:=KD (show us.length=2 from hl);rfl
 have GQ6:tS l.prog w K mg base 2 c.Watch "refuse_unless" ["self","word"] (jB c.Watch):=⟨_,_,oQ6 F41 T GQ3,⟨(by rw [<-hcl];exact a41),fn41,k41⟩,b41⟩;have F42:=jF (st:=sQ2) l42 c42 k42;have b42:=F42.binds (ps:=["self","counts"]) λ_ _ _ _ _ _ us hl=>by obtain ⟨_,_,rfl⟩:=KD (show us.length=2 from hl);rfl
 have GQ2:tS l.prog w K mg base 1 c.Watch "come_to" ["self","counts"] (kI c.Watch):=⟨_,_,oQ2 F42 T,⟨(by rw [<-hcl];exact a42),fn42,k42⟩,b42⟩;have F43:=jF (st:=sQ1) l43 c43 k43;have b43:=F43.binds (ps:=["self"]) λ_ _ _ _ _ _ us hl=>by obtain ⟨_,rfl⟩:=KF (show us.length=1 from hl);rfl
 have GQ1:tS l.prog w K mg base 1 c.Watch "back" ["self"] (pB c.Watch):=⟨_,_,oQ1 F43 T,⟨(by rw [<-hcl];exact a43),fn43,k43⟩,b43⟩;have F44:=jF (st:=sQ4) l44 c44 k44;have b44:=F44.binds (ps:=["self","face"]) λ_ _ _ _ _ _ us hl=>by obtain ⟨_,_,rfl⟩:=KD (show us.length=2 from hl);rfl
 have GQ4:tS l.prog w K mg base 3 c.Watch "look" ["self","face"] (pA c.Watch):=⟨_,_,oQ4 F44 T GQ6 GQ30 GQ2 GQ40 GQ7,⟨(by rw [<-hcl];exact a44),fn44,k44⟩,b44⟩;have F45:=jF (st:=sQ5) l45 c45 k45;have b45:=F45.binds (ps:=["self","share"]) λ_ _ _ _ _ _ us hl=>by obtain ⟨_,_,rfl⟩:=KD (show us.length=2 from hl);rfl
 have GQ5:tS l.prog w K mg base 4 c.Watch "lot" ["self","share"] (sO c.Watch):=⟨_,_,oQ5 F45 T GQ6 GQ33 GQ7 GQ27,⟨(by rw [<-hcl];exact a45),fn45,k45⟩,b45⟩;have F46:=jF (st:=sQ0) l46 c46 k46;have b46:=F46.binds (ps:=["self","rule"]) λ_ _ _ _ _ _ us hl=>by obtain ⟨_,_,rfl⟩:=KD (show us.length=2 from hl);rfl
 have GQ0:FnO l.prog w K mg base 2 c.Watch ["self","rule"] (oY c.Watch):=⟨_,_,oQ0 F46 T GQ44 GQ39 GQ2,⟨(by rw [<-hcl];exact mi_Watch),(by rw [<-hcl];exact a46),fn46,(by rw [<-hcl];exact kp46)⟩,b46⟩;have GQ20:=N d47 λF=>aDk F T GQ23 GQ19;have GQ22:=N d48 λF=>aDi F T GQ5 GQ4;have GQ21:=N d49 λF=>aDj F T GQ10 GQ16;have GQ13:∀n:Nat,gT dQ l.prog w K mg base (6+n) "_law_led" ["_law_case","_law_watch","_law_shares_here","_law_half"] (mO c.Watch n):=λn=>by
  induction n with
  | zero=>exact N d50 λF=>aCD F T
  | succ n ih=>exact N d50 λF=>aDr n F T GQ3 GQ7 GQ9 GQ8 GQ1 GQ22 GQ21 GQ16 GQ10 ih
 exact aC5 F51 T GQ12 GQ20 GQ17 GQ8 GQ0 (GQ13 13) GQ45 GQ28
end Kw
namespace PySem.W.Fast
def tw15765579130672844993 := ()
def tw9168045909403529484 := ()
def tw13990762333096198002 := ()
def tw5335005394966265073 := ()
def tw10296758967312034227 := ()
def tw604613247531915168 := ()
def tw4800740240127300355 := ()
def tw8715087882210900945 := ()
def tw8582583558029565366 := ()
def tw13438280377153105036 := ()
def tw15916477503505408551 := ()
def tw11348560288214837102 := ()
def tw16385290922901031437 := ()
def tw14930963234769916520 := ()
def tw5098434081149027757 := ()
def tw9716999384059335944 := ()
def tw14445858836888383124 := ()
def tw3904122446772608965 := ()
def tw7179121892379156586 := ()
def tw14772753848785638453 := ()
def tw7459720989606146864 := ()
def tw17950359338501814057 := ()
def tw40755573025580872 := ()
def tw3215534356925833635 := ()
def tw10113367563363127486 := ()
def tw12792575542727214540 := ()
def tw4191997318734795941 := ()
end PySem.W.Fast
open PySem PySem.W PyProof.Rows
set_option maxRecDepth 100000 in
set_option maxHeartbeats 0 in
theorem PySem.Challenge.cw_earlystop_k93_whole_watches_and_shares_holds : PySem.Challenge.rw_earlystop_k93_whole_watches_and_shares.Holds := by
  w_on;o_law;k_head;(case hw=>w_witness2)
  k_fill
  refine L2.ME (l:=PySem.Challenge.rw_earlystop_k93_whole_watches_and_shares) (n:=63) (k:=20) (x := "_law_script") (CX:=L2.dQ) (sp:=λK=>Kw.sP K) rfl Dd rfl ⟨rfl,Dd,Dd,rfl⟩ (λw h Y=>PySem.W.kIn_of Y) ?F (λK H a ns hl _ hS=>Kw.MY hS hl) (λ_ _ _ _ z=>z)
  case F =>
    intro w mg fa h KX G hmg
    refine' Kw.aA4 KX G hmg ?u_ONE ?u_NOUGHT ?u_Watch ?u_LOOKS_ON ?mi_Watch ?pg_Watch ?hd_Watch ?po_Watch ?sa_Watch ?n0_Watch ?n1_Watch ?n2_Watch ?n3_Watch ?o_ONE ?o_NOUGHT ?d0 ?d1 ?d2 ?d3 ?d4 ?d5 ?d6 ?d7 ?d8 ?d9 ?d10 ?d11 ?d12 ?d13 ?d14 ?d15 ?d16 ?d17 ?d18 ?d19 ?d20 ?d21 ?d22 ?d23 ?d24 ?d25 ?d26 ?d27 ?d28 ?d29 ?d30 ?d31 ?d32 ?d33 ?d34 ?d35 ?d36 ?a37 ?l37 ?c37 ?k37 ?fn37 ?kp37 ?a38 ?l38 ?c38 ?k38 ?fn38 ?kp38 ?a39 ?l39 ?c39 ?k39 ?fn39 ?kp39 ?a40 ?l40 ?c40 ?k40 ?fn40 ?kp40 ?a41 ?l41 ?c41 ?k41 ?fn41 ?kp41 ?a42 ?l42 ?c42 ?k42 ?fn42 ?kp42 ?a43 ?l43 ?c43 ?k43 ?fn43 ?kp43 ?a44 ?l44 ?c44 ?k44 ?fn44 ?kp44 ?a45 ?l45 ?c45 ?k45 ?fn45 ?kp45 ?a46 ?l46 ?c46 ?k46 ?fn46 ?kp46 ?d47 ?d48 ?d49 ?d50 ?d51 ?z0 ?z1 ?z2 ?z3 ?z4 ?z5 ?z6 ?z7 ?z8 ?z9 ?z10 ?z11 ?z12 ?z13
    (case u_ONE|u_NOUGHT|u_Watch|u_LOOKS_ON|mi_Watch|pg_Watch|hd_Watch|po_Watch|sa_Watch|n0_Watch|n1_Watch|n2_Watch|n3_Watch|a37|l37|c37|k37|fn37|kp37|a38|l38|c38|k38|fn38|kp38|a39|l39|c39|k39|fn39|kp39|a40|l40|c40|k40|fn40|kp40|a41|l41|c41|k41|fn41|kp41|a42|l42|c42|k42|fn42|kp42|a43|l43|c43|k43|fn43|kp43|a44|l44|c44|k44|fn44|kp44|a45|l45|c45|k45|fn45|kp45|a46|l46|c46|k46|fn46|kp46|z0|z1|z2|z3|z4|z5|z6|z7|z8|z9|z10|z11|z12|z13=>k_is);(case d0|d1|d2|d3|d4|d5|d6|d7|d8|d9|d10|d11|d12|d13|d14|d15|d16|d17|d18|d19|d20|d21|d22|d23|d24|d25|d26|d27|d28|d29|d30|d31|d32|d33|d34|d35|d36|d47|d48|d49|d50|d51=>refine' Kw.Dn.mk ?a ?l ?c ?k;(case a=>k_is);(case l=>k_is);(case c=>k_is);(case k=>k_is));(case o_ONE=>kernel_rfl);(case o_NOUGHT=>kernel_rfl)
