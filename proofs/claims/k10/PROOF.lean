import PyProof.Rows.All
import Wide.All
import OpenK.AllK
import Wide.FinOn
import Lean
import PyProof.EqAt
import PyProof.EqKinds
import PyProof.TupleCall
import KE.IntBitsLaws
import PyProof.ZipIter
import PyProof.ListMulRoad
import PyProof.AutoListH
import PyProof.Rows.SeqMore
import PyProof.Rows.SumAny
import KE.KSortTup
import PyProof.AttrMissHeap
import PyProof.TupleIter
import KE.KDictOf
import PyProof.DictWalks
import PyProof.DictValues
import KE.KDictList
import PyProof.Rows.MinMaxN
import PyProof.Rows.TupDisplay
import PyProof.DictTruth
import PyProof.Rows.SortRev
import PyProof.Rows.CallKwBuiltin
import KE.KLam
import KE.KEqDict
import PyProof.SliceStr2
import PyProof.WalksMore
import PySem.Challenge.RW_earlystop_k10_shares_of_rows
set_option Elab.async false
set_option linter.all false
set_option maxHeartbeats 0
set_option maxRecDepth 100000
theorem Oo{p:Prop}(h:p:=by omega):p:=h
theorem Dd{p:Prop}(h:p:=by decide):p:=h
theorem Kk{p:Prop}(h:p:=by decide +kernel):p:=h
namespace PySem
abbrev aA:=@Heap.get?_push_of_some
abbrev aB:=@List.length_map
abbrev aC:=@Nat.le_refl
abbrev aD:=@List.mem_cons_of_mem
abbrev aE:=@List.getElem?_eq_getElem
abbrev aF:=@List.mem_append_right
abbrev aG:=@List.mem_cons_self
abbrev aH:=@Nat.lt_of_lt_of_le
abbrev aI:=@List.size_toArray
abbrev aK:=@Heap.get?_push_size
abbrev aN:=@Heap.lt_size
abbrev aP:=@List.mem_cons
abbrev aQ:=@List.getElem?_map
abbrev aS:=@Bool.false_ne_true
abbrev aU:=@Nat.le_trans
abbrev aV:=@Nat.lt_of_le_of_lt
abbrev bA:=@List.map_cons
abbrev bC:=@List.length_append
abbrev bD:=@List.getD_eq_getElem?_getD
abbrev bE:=@decide_eq_false
abbrev bI:=@List.length_cons
abbrev bJ:=@Bool.and_eq_true
abbrev bL:=@List.getElem?_eq_some_iff
abbrev bN:=@decide_eq_true
abbrev bO:=@List.length_take
abbrev bP:=@Nat.ne_of_lt
abbrev bQ:=@Nat.lt_irrefl
abbrev bR:=@List.getElem?_eq_none
abbrev bU:=@List.mem_append_left
abbrev bY:=@Option.some.inj
abbrev cC:=@Nat.zero_le
abbrev cE:=@List.mem_of_getElem?
abbrev cI:=@List.map_append
abbrev cM:=@Nat.pow_le_pow_right
abbrev cP:=@List.mem_map
abbrev cY:=@Heap.size_push
abbrev dC:=@List.mem_singleton
abbrev dI:=@Heap.get?_update_ne
abbrev dO:=@Int.natAbs_mul
abbrev dQ:=@List.mem_iff_getElem?
abbrev eL:=@List.take_length
abbrev eM:=@List.mem_range
end PySem
open PySem
namespace L2
open PySem PySem.Spec PyProof.Rows
abbrev dJ:=Sum Int Str
def pP:dJ->Value->Bool
 | .inl k,v=>Value.isInt k v
 | .inr x,v=>Value.isStrOf x v
def RI(w:World):dJ->Int
 | .inl k=>hashInt k
 | .inr x=>hashStr w x
theorem dG:∀{k:dJ}{v:Value},pP k v=true->(∃i t,k=Sum.inl i/\v=Value.int i t)\/(∃x t,k=Sum.inr x/\v=Value.str x t)
 | .inl i,v,h=>by
  obtain ⟨t,e⟩:=Value.isInt_shape (k:=i) (v:=v) h;exact .inl ⟨i,t,rfl,e⟩
 | .inr x,v,h=>by
  obtain ⟨t,e⟩:=Value.isStrOf_shape (x:=x) (v:=v) h;exact .inr ⟨x,t,rfl,e⟩
theorem zP(i:Int)(t:Tok):pP (.inl i) (.int i t)=true:=by simp [pP,Value.isInt]
theorem zO(x:Str)(t:Tok):pP (.inr x) (.str x t)=true:=by simp [pP,Value.isStrOf]
theorem LH(a b:Int):decide ((Sum.inl a:dJ)=Sum.inl b)=(a == b):=by
 by_cases e:a=b
 ·subst e;simp
 ·have h:¬(Sum.inl a:dJ)=Sum.inl b:=λq=>e (Sum.inl.inj q);rw [bE h];exact (beq_eq_false_iff_ne.mpr e).symm
theorem LE(a b:Str):decide ((Sum.inr a:dJ)=Sum.inr b)=decide (a=b):=by
 by_cases e:a=b
 ·subst e;simp
 ·have h:¬(Sum.inr a:dJ)=Sum.inr b:=λq=>e (Sum.inr.inj q);rw [bE h,bE e]
theorem LG(a:Int)(b:Str):decide ((Sum.inl a:dJ)=Sum.inr b)=false:=bE (λq=>nomatch q)
theorem LF(a:Str)(b:Int):decide ((Sum.inr a:dJ)=Sum.inl b)=false:=bE (λq=>nomatch q)
def cH(prog:Program)(w:World):PySem.KeyKind prog w dJ where
 is:=pP
 hash:=RI w
 inj:=λv a b ha hb=>by
  rcases dG ha with ⟨i,t,rfl,rfl⟩ | ⟨x,t,rfl,rfl⟩
  ·rcases dG hb with ⟨j,u,rfl,e⟩ | ⟨y,u,rfl,e⟩
   ·injection e with e1 _;rw [e1]
   ·exact nomatch e
  ·rcases dG hb with ⟨j,u,rfl,e⟩ | ⟨y,u,rfl,e⟩
   ·exact nomatch e
   ·injection e with e1 _;rw [e1]
 byValue:=λk v h=>by
  rcases dG h with ⟨i,t,rfl,rfl⟩ | ⟨x,t,rfl,rfl⟩ <;> rfl
 pyHash:=λhv h=>by
  rcases dG hv with ⟨i,t,rfl,rfl⟩ | ⟨x,t,rfl,rfl⟩
  ·exact wpAny_pyHash_int h
  ·exact wpAny_pyHash_str h
 eqBool:=λhu hv h=>by
  rcases dG hu with ⟨i,t,rfl,rfl⟩ | ⟨x,t,rfl,rfl⟩
  ·rcases dG hv with ⟨j,u,rfl,rfl⟩ | ⟨y,u,rfl,rfl⟩
   ·rw [LH] at h;exact wpAny_eqBool_int h
   ·rw [LG] at h;exact SeqAt.EqAt.int_str i t y u _ _ _ _ h
  ·rcases dG hv with ⟨j,u,rfl,rfl⟩ | ⟨y,u,rfl,rfl⟩
   ·rw [LF] at h;exact SeqAt.EqAt.str_int x t j u _ _ _ _ h
   ·rw [LE] at h;exact wpAny_eqBool_str h
 «strs» := λk x t v h=>by
  rcases dG h with ⟨i,u,rfl,e⟩ | ⟨y,u,rfl,e⟩
  ·exact nomatch e
  ·injection e with e1 _;subst e1;cases v <;> rfl
theorem sU(prog:Program)(w:World)(i:Int)(t:Tok):(cH prog w).is (.inl i) (.int i t)=true:=zP i t
theorem sT(prog:Program)(w:World)(x:Str)(t:Tok):(cH prog w).is (.inr x) (.str x t)=true:=zO x t
inductive V where
 | non | bl (b:Bool) | int (i:Int) | str (x:Str) | byt (b:Array UInt8) | flt (b:UInt64) | ref (a:Addr) | ty (n:String)
 deriving DecidableEq
def cB:V->Value->Prop
 | .non,u=>u=Value.none
 | .bl b,u=>u=Value.bool b
 | .int i,u=>∃t,u=Value.int i t
 | .str x,u=>∃t,u=Value.str x t
 | .byt b,u=>∃t,u=Value.bytes b t
 | .flt b,u=>∃t,u=Value.float b t
 | .ref a,u=>u=Value.ref a
 | .ty n,u=>u=Value.type n
abbrev bW:List V->List Value->Prop:=Paired cB
theorem bW.length{xs:List V}{us:List Value}(r:bW xs us):xs.length=us.length:=Paired.length r
theorem bW.get:∀{xs:List V}{us:List Value}{i:Nat}{x:V},bW xs us->xs[i]?=some x->∃u,us[i]?=some u/\cB x u
 | _,_,_,_,.nil,e=>by simp at e
 | _,_,0,_,.cons r _,e=>by simp at e;subst e;exact ⟨_,rfl,r⟩
 | _,_,i+1,x,.cons _ t,e=>by
  obtain ⟨u,h1,h2⟩:=bW.get (i:=i) (x:=x) t (by simpa using e);exact ⟨u,by simpa using h1,h2⟩
theorem bW.set{x:V}{u:Value}(r:cB x u):∀{xs:List V}{us:List Value}(i:Nat),bW xs us->bW (xs.set i x) (us.set i u)
 | _,_,_,.nil=>.nil
 | _,_,0,.cons _ t=>.cons r t
 | _,_,i+1,.cons q t=>.cons q (bW.set r i t)
theorem bW.append:∀{xs ys:List V}{us ws:List Value},bW xs us->bW ys ws->bW (xs++ys) (us++ws)
 | _,_,_,_,.nil,s=>s
 | _,_,_,_,.cons r t,s=>.cons r (bW.append t s)
theorem bW.take:∀{xs:List V}{us:List Value}(n:Nat),bW xs us->bW (xs.take n) (us.take n)
 | _,_,0,_=>.nil
 | _,_,_+1,.nil=>.nil
 | _,_,n+1,.cons r t=>.cons r (bW.take n t)
theorem bW.drop:∀{xs:List V}{us:List Value}(n:Nat),bW xs us->bW (xs.drop n) (us.drop n)
 | _,_,0,r=>r
 | _,_,_+1,.nil=>.nil
 | _,_,n+1,.cons _ t=>bW.drop n t
def lZ:Option V->Option Value->Prop
 | some v,some u=>cB v u
 | none,none=>True
 | _,_=>False
def KV{κ:Type}:List (κ × V)->List (κ × Value)->Prop:=Paired λ(p:κ × V) (q:κ × Value)=>p.1=q.1/\cB p.2 q.2
def kV:dJ->V
 | .inl i=>.int i
 | .inr x=>.str x
inductive HO where
 /-- a list -/
 | lst (xs:List V)
 /-- a tuple (never changes) -/
 | tup (xs:List V)
 /-- a dict whose keys are ints and texts;one whose keys are tuples of ints and texts (the empty one is both) -/
 | dK (kvs:List (dJ × V)) | dT (kvs:List (List dJ × V))
 /-- a set of ints: its members,its size -/
 | set (S:Int->Bool) (n:Nat)
 /-- an instance of the class at C,its dict at dx,its attributes -/
 | ins (C dx:Addr) (fs:List (Str × V))
 /-- the dict of the instance at x -/
 | own (x:Addr)
 /-- the dict of an exception -/
 | xd (fs:List (Str × V))
 /-- a bound method,f of x -/
 | met (f x:Addr)
 /-- a range object lo,lo+1,.. below hi -/
 | rng (lo hi:Int)
 /-- a thing that is known to the object (the script;a dict while a loop walks it): read,never written while it is so -/
 | frz (o:Obj) (u:HO)
 /-- a code object's table -/
 | tbl (ps:Array Value)
 /-- any other thing,by what is true of its one object (a def of one's own: SetO a S n:=HO.ext λh=>..) -/
 | ext (φ:Heap->Prop)
abbrev Hp:=Addr->Option HO
def upd(H:Hp)(a:Addr)(o:HO):Hp:=λb=>if b=a then some o else H b
theorem aX{H:Hp}{a:Addr}{o:HO}:upd H a o a=some o:=by unfold upd;rw [if_pos rfl]
theorem bB{H:Hp}{a b:Addr}{o:HO}(h:b≠a):upd H a o b=H b:=by unfold upd;rw [if_neg h]
theorem nY{H:Hp}{a b:Addr}{o u:HO}(h:H a=some o)(h':H b=some u)(d:o≠u):a≠b:=by
 intro e;subst e;rw [h] at h';exact d (bY h')
theorem bS{H:Hp}{a b:Addr}{o:HO}(h:H a=some o)(h':H b=none):a≠b:=by
 intro e;subst e;rw [h] at h';cases h'
section
variable(P:Program)(w:World)
def cQ(H:Hp)(h:Heap)(a:Addr):HO->Prop
 | .lst xs=>xs.length<=sizeLine/\∃(its:List Value) (n:Nat),bW xs its/\h.get? a=some { cls:=.type "list",data:=.seq its.toArray n }
 | .tup xs=>(xs.length<=sizeLine/\∃o,h.get? a=some o/\o.dict=none)/\∃its:List Value,bW xs its/\IsTup h a its.toArray
 | .dK kvs=>kvs.length<=sizeLine/\(a == sysModules)=false/\∃vs,KV kvs vs/\h.DictOf (cH P w) a vs
 | .dT kvs=>kvs.length<=sizeLine/\(a == sysModules)=false/\∃xs:List (List dJ × Addr × Value),
   Paired (λ(p:List dJ × V) (q:List dJ × Addr × Value)=>p.1=q.1/\H q.2.1=some (.tup (p.1.map kV))/\cB p.2 q.2.2) kvs xs /\
   ∃o es ep,h.get? a=some o/\o.ExactDict/\o.data=.dict es ep/\es.toList=xs.map (entryOfKey (tupleKind (cH P w)))/\(xs.map (·.1)).Nodup
 | .set S n=>h.SetOf (intKind P w) a S n
 | .ins C dx fs=>H dx=some (.own a)/\fs.length<=1000/\dx≠a/\h.get? a=some (PySem.W.instObj C dx) /\
   ∃mA,h.Ns1 dx mA/\(∀f,lZ (fs.lookup f) (mA f))/\PySem.Within mA (fs.map (·.1))
 | .own _=>∃o,h.get? a=some o
 | .xd fs=>∃mA,h.Ns1 a mA/\∀f,lZ (fs.lookup f) (mA f)
 | .rng lo hi=>∃t u v,h.get? a=some { cls:=.type "range",data:=.fields #[.int lo t,.int hi u,.int 1 v] }
 | .frz o u=>h.get? a=some o/\cQ H h a u
 | .tbl ps=>h.get? a=some { cls:=.none,data:=.fields ps }
 | .met f x=>h.get? a=some (PySem.W.methodObj (.ref f) (.ref x))
 | .ext φ=>φ h/\(∃o,h.get? a=some o)/\∀h1 h2:Heap,φ h1->(∀o,h1.get? a=some o->h2.get? a=some o)->φ h2
def iC(H:Hp)(h:Heap):Prop:=∀a o,H a=some o->cQ P w H h a o
end
section
variable{P:Program}{w:World}{H H':Hp}{h h':Heap}{a:Addr}{o:HO}
theorem cQ.lt(x:cQ P w H h a o):a<h.objs.size:=by
 cases o with
 | lst xs=>obtain ⟨_,_,_,_,e⟩:=x;exact aN e
 | tup xs=>obtain ⟨_,_,_,p⟩:=x;exact p.lt
 | dK kvs=>obtain ⟨_,_,_,_,o,_,_,e,_⟩:=x;exact aN e
 | dT kvs=>obtain ⟨_,_,_,_,o,_,_,e,_⟩:=x;exact aN e
 | set S n=>obtain ⟨o,_,_,_,e,_⟩:=x;exact aN e
 | ins C dx fs=>obtain ⟨_,_,_,e,_⟩:=x;exact aN e
 | own y=>obtain ⟨_,e⟩:=x;exact aN e
 | xd fs=>obtain ⟨_,⟨_,_,_,e,_⟩,_⟩:=x;exact aN e
 | rng lo hi=>obtain ⟨_,_,_,e⟩:=x;exact aN e
 | frz ob u=>obtain ⟨e,_⟩:=x;exact aN e
 | tbl ps=>exact aN (show h.get? a=some _ from x)
 | met f y=>exact aN (show h.get? a=some _ from x)
 | ext φ=>obtain ⟨_,⟨_,e⟩,_⟩:=x;exact aN e
theorem Paired.mapP{α β:Type}{F G:α->β->Prop}:∀{l₁:List α}{l₂:List β},Paired F l₁ l₂->(∀a b,F a b->G a b)->Paired G l₁ l₂
 | _,_,.nil,_=>.nil
 | _,_,.cons r t,f=>.cons (f _ _ r) (Paired.mapP t f)
theorem cQ.stay(x:cQ P w H h a o)(k:∀b u,(b=a\/H b=some (.own a))->h.get? b=some u->h'.get? b=some u)
  (ho:∀b,H b=some (.own a)->H' b=some (.own a)) (ht:∀b xs,H b=some (.tup xs)->H' b=some (.tup xs)):cQ P w H' h' a o:=by
 induction o with
 | lst xs=>obtain ⟨z,its,n,r,e⟩:=x;exact ⟨z,its,n,r,k _ _ (.inl rfl) e⟩
 | tup xs=>obtain ⟨⟨z,on,en,dn⟩,its,r,ob,e,c⟩:=x;exact ⟨⟨z,on,k _ _ (.inl rfl) en,dn⟩,its,r,ob,k _ _ (.inl rfl) e,c⟩
 | dK kvs=>obtain ⟨z,y,vs,r,ob,es,ep,e,c⟩:=x;exact ⟨z,y,vs,r,ob,es,ep,k _ _ (.inl rfl) e,c⟩
 | dT kvs =>
  obtain ⟨z,y,xs,r,ob,es,ep,e,c⟩:=x;exact ⟨z,y,xs,Paired.mapP r λp q z=>⟨z.1,ht _ _ z.2.1,z.2.2⟩,ob,es,ep,k _ _ (.inl rfl) e,c⟩
 | set S n=>obtain ⟨ob,es,ep,t,e,c⟩:=x;exact ⟨ob,es,ep,t,k _ _ (.inl rfl) e,c⟩
 | ins C dx fs =>
  obtain ⟨d,z,ne,e,mA,⟨od,es,ep,e2,c⟩,r⟩:=x;exact ⟨ho _ d,z,ne,k _ _ (.inl rfl) e,mA,⟨od,es,ep,k _ _ (.inr d) e2,c⟩,r⟩
 | own y=>obtain ⟨ob,e⟩:=x;exact ⟨ob,k _ _ (.inl rfl) e⟩
 | xd fs=>obtain ⟨mA,⟨od,es,ep,e,c⟩,r⟩:=x;exact ⟨mA,⟨od,es,ep,k _ _ (.inl rfl) e,c⟩,r⟩
 | rng lo hi=>obtain ⟨t,u,v,e⟩:=x;exact ⟨t,u,v,k _ _ (.inl rfl) e⟩
 | frz ob u ih=>obtain ⟨e,q⟩:=x;exact ⟨k _ _ (.inl rfl) e,ih q⟩
 | tbl ps =>
  have e:h.get? a=some { cls:=.none,data:=.fields ps }:=x;show h'.get? a=some { cls:=.none,data:=.fields ps };exact k a _ (.inl rfl) e
 | met f y =>
  have e:h.get? a=some (PySem.W.methodObj (.ref f) (.ref y)):=x;show h'.get? a=some (PySem.W.methodObj (.ref f) (.ref y));exact k a _ (.inl rfl) e
 | ext φ=>obtain ⟨p,⟨o,e⟩,st⟩:=x;exact ⟨st _ _ p λo q=>k _ _ (.inl rfl) q,⟨o,k _ _ (.inl rfl) e⟩,st⟩
theorem iC.lt(x:iC P w H h)(e:H a=some o):a<h.objs.size:=(x a o e).lt
theorem iC.fresh(x:iC P w H h)(e:h.objs.size<=a):H a=none:=by
 cases q:H a with
 | none=>rfl
 | some u=>exact absurd (aH (x.lt q) e) (bQ _)
theorem iC.kept(x:iC P w H h)(k:∀b u,h.get? b=some u->h'.get? b=some u):iC P w H h':=λa o e =>
 (x a o e).stay (λb u _ q=>k b u q) (λ_ q=>q) λ_ _ q=>q
theorem iC.laid(x:iC P w H h)(k:∀b u,h.get? b=some u->h'.get? b=some u)(hp:h.objs.size<=a)(new:cQ P w (upd H a o) h' a o):iC P w (upd H a o) h':=λb u e=>by
 have hn:=x.fresh hp;by_cases hb:b=a
 ·subst hb;rw [aX] at e;cases e;exact new
 ·rw [bB hb] at e;exact (x b u e).stay (λc v _ q=>k c v q) (λc q=>by rw [bB (bS q hn)];exact q) λc xs q=>by rw [bB (bS q hn)];exact q
end
def Rd(H:Hp)(a:Addr)(u:HO):Prop:=H a=some u\/∃o,H a=some (.frz o u)
theorem Rd.ok{P:Program}{w:World}{H:Hp}{h:Heap}{a:Addr}{u:HO}(r:Rd H a u)(x:iC P w H h):cQ P w H h a u:=by
 rcases r with r | ⟨o,r⟩
 ·exact x a u r
 ·obtain ⟨_,q⟩:=x a _ r;exact q
def PH:Option HO->Prop
 | some (.lst _)=>True
 | some (.dK _)=>True
 | some (.dT _)=>True
 | some (.set _ _)=>True
 | some (.ins _ _ _)=>True
 | some (.ext _)=>True
 | _=>False
section
variable{P:Program}{w:World}{H:Hp}{h h':Heap}{x e:Addr}{o':HO}
theorem iC.write(ok:iC P w H h)(mu:PH (H x))(he:e=x\/H e=some (.own x))(k:∀b u,b≠e->h.get? b=some u->h'.get? b=some u)(heo:∃u,h'.get? e=some u)
  (new:cQ P w (upd H x o') h' x o'):iC P w (upd H x o') h':=λb u q=>by
 have nown:∀c y,H c=some (.own y)->c≠x:=λc y r z=>by subst z;rw [r] at mu;exact mu
 have ntup:∀c xs,H c=some (.tup xs)->c≠x:=λc xs r z=>by subst z;rw [r] at mu;exact mu
 by_cases hb:b=x
 ·subst hb;rw [aX] at q;cases q;exact new
 ·rw [bB hb] at q;by_cases hbe:b=e
  ·have q':H b=some (.own x):=by
    rcases he with z | z
    ·exact absurd (hbe.trans z) hb
    ·rw [hbe];exact z
   rw [q] at q';cases q';obtain ⟨v,hv⟩:=heo;exact ⟨v,by rw [hbe];exact hv⟩
  ·refine (ok b u q).stay (λc v hc r=>k c v ?_ r) (λc r=>by rw [bB (nown c b r)];exact r) λc xs r=>by rw [bB (ntup c xs r)];exact r
   rcases hc with rfl | hc
   ·exact hbe
   ·rintro rfl;rcases he with z | z
    ·exact nown c b hc z
    ·rw [hc] at z;cases z;exact hb rfl
end
structure Un(fs ex:List Addr)(H H':Hp)(h h':Heap):Prop where
 keep:∀b o,h.get? b=some o->H b=none->b ∉ fs->b ∉ ex->h'.get? b=some o
 slot:∀b o,h.get? b=some o->H b=none->b∈fs->b ∉ ex->∃sl,h'.get? b=some { o with slots:=sl }
 free:∀b o,h.get? b=some o->H b=none->b ∉ ex->H' b=none
 there:∀b o,h.get? b=some o->b ∉ ex->∃o',h'.get? b=some o'
 tups:∀b xs,H b=some (.tup xs)->H' b=some (.tup xs)
 frzs:∀b o u,H b=some (.frz o u)->H' b=some (.frz o u)
 tbls:∀b ps,H b=some (.tbl ps)->∃more,H' b=some (.tbl (ps++more))
section
variable{fs fs' ex ex':List Addr}{H H1 H2:Hp}{h h1 h2 h':Heap}{a x e:Addr}{o:HO}
theorem Un.any(u:Un fs ex H H1 h h1){b:Addr}{ob:Obj}(q:h.get? b=some ob)(n:H b=none)(hx:b ∉ ex):∃sl,h1.get? b=some { ob with slots:=sl }:=by
 by_cases hb:b∈fs
 ·exact u.slot b ob q n hb hx
 ·exact ⟨ob.slots,u.keep b ob q n hb hx⟩
theorem Un.kept(k:∀b u,h.get? b=some u->h'.get? b=some u):Un fs ex H H h h' :=
 ⟨λb ob q _ _ _=>k b ob q,λb ob q _ _ _=>⟨ob.slots,k b ob q⟩,λ_ _ _ n _=>n,λb ob q _=>⟨ob,k b ob q⟩,λ_ _ q=>q,λ_ _ _ q=>q,λ_ ps q=>⟨#[],by rw [q];simp⟩⟩
theorem Un.refl:Un fs ex H H h h:=Un.kept λ_ _ q=>q
theorem Un.laid(k:∀b u,h.get? b=some u->h'.get? b=some u)(hp:h.objs.size<=a)(hn:H a=none):Un fs ex H (upd H a o) h h' where
 keep:=λb u q _ _ _=>k b u q
 slot:=λb u q _ _ _=>⟨u.slots,k b u q⟩
 free:=λb u q n _=>by rw [bB (bP (aH (aN q) hp))];exact n
 there:=λb u q _=>⟨u,k b u q⟩
 tups:=λb xs q=>by rw [bB (bS q hn)];exact q
 frzs:=λb u xs q=>by rw [bB (bS q hn)];exact q
 tbls:=λb ps q=>⟨#[],by rw [bB (bS q hn),q];simp⟩
theorem Un.write(mu:PH (H x))(he:e=x\/H e=some (.own x))(k:∀b u,b≠e->h.get? b=some u->h'.get? b=some u)(heo:∃u,h'.get? e=some u):Un fs ex H (upd H x o) h h':=by
 have hx:∀b,H b=none->b≠x:=λb n z=>by subst z;rw [n] at mu;exact mu
 have hb:∀b,H b=none->b≠e:=λb n z=>by
  subst z;rcases he with r | r
  ·exact hx b n r
  ·rw [n] at r;cases r
 have hm:∀b u,H b=some u->¬PH (some u)->b≠x:=λb u q nm z=>by subst z;rw [q] at mu;exact nm mu
 refine ⟨λb u q n _ _=>k b u (hb b n) q,λb u q n _ _=>⟨u.slots,k b u (hb b n) q⟩,λb u q n _=>by rw [bB (hx b n)];exact n,λb u q _=>?_,
  λb xs q=>by rw [bB (hm b _ q λz=>z)];exact q,λb u xs q=>by rw [bB (hm b _ q λz=>z)];exact q,λb ps q=>⟨#[],by rw [bB (hm b _ q λz=>z),q];simp⟩⟩
 by_cases hbe:b=e
 ·subst hbe;exact heo
 ·exact ⟨u,k b u hbe q⟩
end
def trk(h:Heap)(H:Hp):List Addr:=(List.range h.objs.size).filter λa=>(H a).isSome
def oM(h:Heap)(H:Hp):Heap:=PySem.W.hideAll h (trk h H)
theorem pS(h:Heap)(H:Hp):(oM h H).objs.size=h.objs.size:=PySem.W.hideAll_size _ _
theorem oK{h:Heap}{H:Hp}{b:Addr}{o:Obj}(e:h.get? b=some o)(n:H b=none):(oM h H).get? b=some o :=
 PySem.W.hideAll_get _ e λhm=>by
  have q:(H b).isSome=true:=(List.mem_filter.mp hm).2;rw [n] at q;simp at q
theorem wU{h:Heap}{H:Hp}{b:Addr}{o:Obj}(e:(oM h H).get? b=some o):h.get? b=some o/\H b=none:=by
 have e':h.get? b=some o:=PySem.W.of_hideAll (trk h H) e;refine ⟨e',?_⟩;cases q:H b with
 | none=>rfl
 | some x =>
  have hm:b∈trk h H:=List.mem_filter.mpr ⟨eM.mpr (aN e'),by simp [q]⟩;have z:(oM h H).get? b=none:=PySem.W.hideAll_none (trk h H) hm;rw [z] at e;cases e
structure EB(K:PySem.W.Frag)(mg:Str->Option Value)(base:Heap):Prop where
 kin:K.In base
 glob:base.Ns mainGlobals mg
 blt:∃mb,base.Ns builtinsNs mb/\∀x:Str,x ≠ "__name__" -> mb x=bootBuiltins x
 nolimit:base.NoLimit
/-- the context: a def's body (or a comprehension's block) running. base: fixed through the whole law;s₀,H₀: the entry;outer: the frames whose slots others may change (a def's callers);stack: all frames that run;
   ex: iterators that were made ahead of the entry and are walked here (a comprehension's);fn: the names whose cells were made at the entry (a def: all;a comprehension's block: its own);calm: not within an except suite;pn: pins that every state bears;xe: what is wanted of an exception that leaves the code -/
structure Cx where
 prog:Program
 w:World
 K:PySem.W.Frag
 mg:Str->Option Value
 base:Heap
 A:Around
 N:List Str
 s₀:Shared
 H₀:Hp
 env:Env
 outer:List Env
 stack:List Env
 ex:List Addr
 fn:Str->Bool
 calm:Bool
 pn:List (Addr × Obj)
 xe:Value->Shared->Prop
def frs(l:List Env):List Addr:=l.filterMap (·.frame)
abbrev Cx.fs(X:Cx):List Addr:=frs X.outer
def QB(sc:Scope)(x:Str):Prop:=sc.names.lookup x=some .local\/sc.names.lookup x=some .cell\/sc.names.lookup x=some .free
def MZ(sc:Scope)(x:Str):Prop:=sc.names.lookup x=some .local\/sc.names.lookup x=some .cell
def RV(env:Env)(h:Heap)(m:Str->Option Value)(x:Str)(u:Value):Prop :=
 (env.kindOf x=some .local/\m x=some u)\/((env.kindOf x=some .cell\/env.kindOf x=some .free)/\∃c,env.cells.lookup x=some c/\h.IsCell c (some u))
structure Cx.Ok(X:Cx):Prop where
 mod:EB X.K X.mg X.base
 kind:X.env.scope.kind=.function
 glob:X.env.globals=mainGlobals
 blt:X.env.builtins=builtinsNs
 above:X.s₀.heap.objs.size<=X.env.locals
 inj:∀x y c,X.env.cells.lookup x=some c->X.env.cells.lookup y=some c->x=y
 has:∀x,(X.env.kindOf x=some .cell\/X.env.kindOf x=some .free)->∃c,X.env.cells.lookup x=some c
 cab:∀x c,X.fn x=true->X.env.cells.lookup x=some c->X.s₀.heap.objs.size<=c
 hd:X.calm=true->X.A.handled=none
 frames:X.A.frames=some X.stack
 stk:X.stack=X.outer\/(X.stack=X.env::X.outer/\X.env.frame=some X.env.locals)
 exf:∀b∈X.ex,b≠X.env.locals/\∀x c,X.env.cells.lookup x=some c->c≠b
 bs:∀b o,X.base.get? b=some o->X.s₀.heap.get? b=some o/\X.H₀ b=none
 bsz:X.base.objs.size<=X.s₀.heap.objs.size
 noex:∀b o,X.base.get? b=some o->b ∉ X.ex
 exfs:∀b∈X.ex,b ∉ X.fs
 funs:X.s₀.heap.FunFrames X.base X.outer
 frf:∀b∈X.fs,X.H₀ b=none
structure bG(X:Cx)(pins:List (Addr × Obj))(σ:List (Option V))(H:Hp)(s:Shared):Prop where
 ok:X.Ok
 os:s.os=X.s₀.os
 bare:AllBare s.gens
 base:Un X.fs X.ex X.H₀ H X.s₀.heap s.heap
 loc:∃m,s.heap.Ns X.env.locals m/\∀(i:Nat) (x:Str) (v:V),X.N[i]?=some x->σ[i]?=some (some v)->QB X.env.scope x->∃u,cB v u/\RV X.env s.heap m x u
 cell:∀x c,X.env.cells.lookup x=some c->∃v,s.heap.IsCell c v
 free:H X.env.locals=none
 freeC:∀x c,X.env.cells.lookup x=some c->H c=none
 pin:∀p∈X.pn++pins,s.heap.get? p.1=some p.2/\H p.1=none/\p.1≠X.env.locals/\p.1 ∉ X.fs/\∀v,p.2.data ≠ .cell v
 hok:iC X.prog X.w H s.heap
 len:σ.length=X.N.length
section
variable{X:Cx}{pins:List (Addr × Obj)}{σ:List (Option V)}{H H':Hp}{s:Shared}{h':Heap}
theorem Cx.Ok.nofr(ok:X.Ok){b:Addr}{o:Obj}(e:X.base.get? b=some o):b ∉ X.fs:=λhb=>by
 have:=(ok.funs.mem hb).1;rw [e] at this;cases this
theorem bG.bs(I:bG X pins σ H s):∀b o,X.base.get? b=some o->s.heap.get? b=some o/\H b=none:=λb o e =>
 ⟨I.base.keep b o (I.ok.bs b o e).1 (I.ok.bs b o e).2 (I.ok.nofr e) (I.ok.noex b o e),I.base.free b o (I.ok.bs b o e).1 (I.ok.bs b o e).2 (I.ok.noex b o e)⟩
theorem bG.bk(I:bG X pins σ H s):∀b o,X.base.get? b=some o->s.heap.get? b=some o:=λb o e=>(I.bs b o e).1
theorem bG.mod(I:bG X pins σ H s):EB X.K X.mg X.base:=I.ok.mod
theorem bG.kIn(I:bG X pins σ H s):X.K.In s.heap:=I.ok.mod.kin.keeps I.bk
theorem bG.lt(I:bG X pins σ H s):X.env.locals<s.heap.objs.size:=let ⟨_,hn,_⟩:=I.loc;hn.lt
theorem bG.sz(I:bG X pins σ H s):X.s₀.heap.objs.size<=s.heap.objs.size:=aU I.ok.above (Nat.le_of_lt I.lt)
theorem bG.nofs(I:bG X pins σ H s){a:Addr}(h:s.heap.objs.size<=a):a ∉ X.fs:=λhb=>by
 obtain ⟨_,o,ho,_⟩:=I.ok.funs.mem hb;exact absurd (aH (aN ho) (aU I.sz h)) (bQ _)
theorem bG.cne(I:bG X pins σ H s):∀x c,X.env.cells.lookup x=some c->c≠X.env.locals:=λx c e z=>by
 obtain ⟨v,o,ho,hd⟩:=I.cell x c e;obtain ⟨m,⟨o',es,ep,ho',hd',_⟩,_⟩:=I.loc;rw [z,ho'] at ho;cases ho;rw [hd'] at hd;cases hd
theorem bG.funs(I:bG X pins σ H s):s.heap.FunFrames X.base X.outer:=by
 have all:∀(l:List Env),(∀b∈frs l,b∈X.fs)->X.s₀.heap.FunFrames X.base l->s.heap.FunFrames X.base l:=by
  intro l
  induction l with
  | nil=>intro _ _;trivial
  | cons env r ih =>
   intro hs hl;obtain ⟨hk,⟨L,o,hf,hn,ho,hd⟩,hr⟩:=hl;have hL:L∈X.fs:=hs L (by unfold frs;rw [List.filterMap_cons,hf];exact aG);obtain ⟨sl,e⟩:=I.base.slot L o ho (I.ok.frf L hL) hL λz=>I.ok.exfs L z hL;exact ⟨hk,⟨L,_,hf,hn,e,hd⟩,ih (λb hb=>hs b (by unfold frs;rw [List.filterMap_cons,hf];exact aD _ hb)) hr⟩
 exact all X.outer (λ_ hb=>hb) I.ok.funs
theorem bG.stack(I:bG X pins σ H s):s.heap.FunFrames X.base X.stack:=by
 rcases I.ok.stk with e | ⟨e,hf⟩
 ·rw [e];exact I.funs
 ·rw [e];obtain ⟨m,hn,_⟩:=I.loc;refine .cons (by rw [I.ok.kind];decide) hf hn ?_ I.funs;exact Heap.get?_none_of_le (aU I.ok.bsz I.ok.above)
theorem bG.stkSub(I:bG X pins σ H s):∀b∈frs X.stack,b∈X.env.locals::X.fs:=λb hb=>by
 rcases I.ok.stk with e | ⟨e,hf⟩
 ·rw [e] at hb;exact aD _ hb
 ·rw [e] at hb;unfold frs at hb;rw [List.filterMap_cons,hf] at hb;exact hb
theorem bG.stkFree(I:bG X pins σ H s):∀b∈frs X.stack,H b=none:=λb hb=>by
 rcases aP.mp (I.stkSub b hb) with e | hb
 ·rw [e];exact I.free
 ·obtain ⟨_,o,ho,_⟩:=I.ok.funs.mem hb;exact I.base.free b o ho (I.ok.frf b hb) λz=>I.ok.exfs b z hb
theorem bG.step{g':Array GenState}{t':Nat}{d':Drawn}{ch:List Addr}(I:bG X pins σ H s)
  (hch:∀b∈ch,(b∈X.ex\/X.s₀.heap.objs.size<=b)/\b≠X.env.locals/\(∀x c,X.env.cells.lookup x=some c->c≠b)/\∀p∈X.pn++pins,p.1≠b)
  (keep:∀b o,b≠X.env.locals->b ∉ X.fs->b ∉ ch->s.heap.get? b=some o->H b=none->h'.get? b=some o)
  (slot:∀b o,b≠X.env.locals->b∈X.fs->b ∉ ch->s.heap.get? b=some o->H b=none->∃sl,h'.get? b=some { o with slots:=sl }) (free:∀b o,b ∉ ch->s.heap.get? b=some o->H b=none->H' b=none)
  (there:∀b o,b ∉ ch->s.heap.get? b=some o->∃o',h'.get? b=some o')
  (tups:∀b xs,H b=some (.tup xs)->H' b=some (.tup xs)) (frzs:∀b o u,H b=some (.frz o u)->H' b=some (.frz o u)) (tbls:∀b ps,H b=some (.tbl ps)->∃more,H' b=some (.tbl (ps++more)))
  (ns:∀m,s.heap.Ns X.env.locals m->h'.Ns X.env.locals m) (hok:iC X.prog X.w H' h') (hg:AllBare g') :
  bG X pins σ H' { s with heap:=h',gens:=g',drawn:=d',toks:=t' }:=by
 have neL:∀b o,X.s₀.heap.get? b=some o->b≠X.env.locals:=λb o e=>bP (aH (aN e) I.ok.above);have neC:∀b o,X.s₀.heap.get? b=some o->b ∉ X.ex->b ∉ ch:=λb o e hx hb=>by
  rcases (hch b hb).1 with z | z
  ·exact hx z
  ·exact absurd (aH (aN e) z) (bQ _)
 have cellK:∀x c,X.env.cells.lookup x=some c->∀v,s.heap.IsCell c v->h'.IsCell c v:=λx c e v ⟨o,ho,hd⟩=>by
  have nch:c ∉ ch:=λz=>(hch c z).2.2.1 x c e rfl;by_cases hc:c∈X.fs
  ·obtain ⟨sl,q⟩:=slot c o (I.cne x c e) hc nch ho (I.freeC x c e);exact ⟨_,q,hd⟩
  ·exact ⟨o,keep c o (I.cne x c e) hc nch ho (I.freeC x c e),hd⟩
 refine ⟨I.ok,I.os,hg,⟨λb o e n hb hx=>?_,λb o e n hb hx=>?_,λb o e n hx=>?_,λb o e hx=>?_,λb xs e=>tups b xs (I.base.tups b xs e),λb o xs e=>frzs b o xs (I.base.frzs b o xs e),λb ps e=>?_⟩,?_,λx c e=>?_,?_,λx c e=>?_,λp hp=>?_,hok,I.len⟩
 ·exact keep b o (neL b o e) hb (neC b o e hx) (I.base.keep b o e n hb hx) (I.base.free b o e n hx)
 ·obtain ⟨sl,e1⟩:=I.base.slot b o e n hb hx;obtain ⟨sl',e2⟩:=slot b _ (neL b o e) hb (neC b o e hx) e1 (I.base.free b o e n hx);exact ⟨sl',e2⟩
 ·obtain ⟨o',e1⟩:=I.base.there b o e hx;exact free b o' (neC b o e hx) e1 (I.base.free b o e n hx)
 ·obtain ⟨o',e1⟩:=I.base.there b o e hx;exact there b o' (neC b o e hx) e1
 ·obtain ⟨m1,e1⟩:=I.base.tbls b ps e;obtain ⟨m2,e2⟩:=tbls b _ e1;exact ⟨m1++m2,by rw [e2,Array.append_assoc]⟩
 ·obtain ⟨m,hn,hl⟩:=I.loc;refine ⟨m,ns m hn,λi x v e1 e2 e3=>?_⟩;obtain ⟨u,r,l⟩:=hl i x v e1 e2 e3;refine ⟨u,r,?_⟩;rcases l with l | ⟨k,c,e,z⟩
  ·exact .inl l
  ·exact .inr ⟨k,c,e,cellK x c e _ z⟩
 ·obtain ⟨v,z⟩:=I.cell x c e;exact ⟨v,cellK x c e v z⟩
 ·obtain ⟨m,⟨o,_,_,ho,_⟩,_⟩:=I.loc;exact free _ o (λz=>(hch _ z).2.1 rfl) ho I.free
 ·obtain ⟨v,o,ho,hd⟩:=I.cell x c e;exact free c o (λz=>(hch c z).2.2.1 x c e rfl) ho (I.freeC x c e)
 ·obtain ⟨e,n,ne,nf,d⟩:=I.pin p hp;have nch:p.1 ∉ ch:=λz=>(hch p.1 z).2.2.2 p hp rfl;exact ⟨keep p.1 p.2 ne nf nch e n,free p.1 p.2 nch e n,ne,nf,d⟩
theorem bG.un{t':Nat}(I:bG X pins σ H s)(u:Un X.fs [] H H' s.heap h')(hok:iC X.prog X.w H' h'):bG X pins σ H' { s with heap:=h',toks:=t' }:=by
 obtain ⟨m,⟨o,es,ep,ho,r⟩,_⟩:=id I.loc;obtain ⟨sl,hL⟩:=u.any ho I.free (by simp);exact I.step (g':=s.gens) (d':=s.drawn) (ch:=[]) (λ_ z=>nomatch z) (λb o _ hb _ e n=>u.keep b o e n hb (by simp)) (λb o _ hb _ e n=>u.slot b o e n hb (by simp)) (λb o _ e n=>u.free b o e n (by simp)) (λb o _ e=>u.there b o e (by simp)) u.tups u.frzs u.tbls (λm' hm=>by
  obtain ⟨o',es',ep',ho',r'⟩:=hm;rw [ho] at ho';cases ho';exact ⟨_,es',ep',hL,r'⟩) hok I.bare
theorem bG.call{g':Array GenState}{t':Nat}{d':Drawn}{ch:List Addr}(I:bG X pins σ H s)(u:Un (frs X.stack) ch H H' s.heap h')(hok:iC X.prog X.w H' h')(hg:AllBare g')
  (hch:∀b∈ch,(b∈X.ex\/X.s₀.heap.objs.size<=b)/\b≠X.env.locals/\(∀x c,X.env.cells.lookup x=some c->c≠b)/\∀p∈X.pn++pins,p.1≠b) :
  bG X pins σ H' { s with heap:=h',gens:=g',drawn:=d',toks:=t' }:=by
 obtain ⟨m,⟨o,es,ep,ho,r⟩,_⟩:=id I.loc;obtain ⟨sl,hL⟩:=u.any ho I.free λz=>(hch _ z).2.1 rfl;exact I.step (ch:=ch) hch (λb o hL hb hc e n=>u.keep b o e n (λz=>(aP.mp (I.stkSub b z)).elim hL hb) hc) (λb o _ _ hc e n=>u.any e n hc) (λb o hc e n=>u.free b o e n hc) (λb o hc e=>u.there b o e hc) u.tups u.frzs u.tbls (λm' hm=>by
  obtain ⟨o',es',ep',ho',r'⟩:=hm;rw [ho] at ho';cases ho';exact ⟨_,es',ep',hL,r'⟩) hok hg
theorem bG.turned{t':Nat}{it:Addr}(I:bG X pins σ H s)(k:∀b o,b≠it->s.heap.get? b=some o->h'.get? b=some o)(hn:H it=none)(hL:it≠X.env.locals)
  (h1:it∈X.ex\/X.s₀.heap.objs.size<=it) (h2:∀x c,X.env.cells.lookup x=some c->c≠it) (h3:∀p∈X.pn++pins,p.1≠it):bG X pins σ H { s with heap:=h',toks:=t' }:=by
 have nit:∀b u,H b=some u->b≠it:=λb u e z=>by rw [z,hn] at e;cases e
 refine I.step (g':=s.gens) (d':=s.drawn) (ch:=[it]) (λb hb=>?_) (λb o _ _ hc e _=>k b o (λz=>hc (by simp [z])) e) (λb o _ _ hc e _=>⟨o.slots,k b o (λz=>hc (by simp [z])) e⟩) (λ_ _ _ _ n=>n)
  (λb o hc e=>⟨o,k b o (λz=>hc (by simp [z])) e⟩) (λ_ _ e=>e) (λ_ _ _ e=>e) (λb ps e=>⟨#[],by rw [e];simp⟩) (λm hm=>?_) (λb u e=>?_) I.bare
 ·have e:b=it:=by simpa using hb
  subst e;exact ⟨h1,hL,h2,h3⟩
 ·obtain ⟨o,es,ep,ho,r⟩:=hm;exact ⟨o,es,ep,k _ o (Ne.symm hL) ho,r⟩
 ·refine (I.hok b u e).stay (λc v hc q=>k c v ?_ q) (λ_ q=>q) λ_ _ q=>q;rcases hc with z | z
  ·rw [z];exact nit b u e
  ·exact nit c _ z
theorem bG.tok(I:bG X pins σ H s)(t:Nat):bG X pins σ H { s with toks:=t }:=I.un (h':=s.heap) (t':=t) Un.refl I.hok
theorem bG.kept{t':Nat}(I:bG X pins σ H s)(k:∀b u,s.heap.get? b=some u->h'.get? b=some u):bG X pins σ H { s with heap:=h',toks:=t' }:=I.un (Un.kept k) (I.hok.kept k)
theorem bG.laid{a:Addr}{o:HO}{t':Nat}(I:bG X pins σ H s)(k:∀b u,s.heap.get? b=some u->h'.get? b=some u)(hp:s.heap.objs.size<=a)(new:cQ X.prog X.w (upd H a o) h' a o) :
  bG X pins σ (upd H a o) { s with heap:=h',toks:=t' }:=I.un (Un.laid k hp (I.hok.fresh hp)) (I.hok.laid k hp new)
theorem bG.write{x e:Addr}{o:HO}{t':Nat}(I:bG X pins σ H s)(mu:PH (H x))(he:e=x\/H e=some (.own x))(k:∀b u,b≠e->s.heap.get? b=some u->h'.get? b=some u)(heo:∃u,h'.get? e=some u)
  (new:cQ X.prog X.w (upd H x o) h' x o):bG X pins σ (upd H x o) { s with heap:=h',toks:=t' }:=I.un (Un.write mu he k heo) (I.hok.write mu he k heo new)
theorem bG.pins_of{pins':List (Addr × Obj)}(I:bG X pins σ H s)(h:∀p∈pins',s.heap.get? p.1=some p.2/\H p.1=none/\p.1≠X.env.locals/\p.1 ∉ X.fs/\∀v,p.2.data ≠ .cell v):bG X pins' σ H s :=
 ⟨I.ok,I.os,I.bare,I.base,I.loc,I.cell,I.free,I.freeC,λp hp=>(List.mem_append.mp hp).elim (λz=>I.pin p (bU _ z)) (h p),I.hok,I.len⟩
theorem sR{N:List Str}(hN:N.Nodup){i j:Nat}{x:Str}(a:N[i]?=some x)(b:N[j]?=some x):i=j:=by
 obtain ⟨h1,e1⟩:=bL.mp a;obtain ⟨h2,e2⟩:=bL.mp b;exact (List.getElem_inj hN).mp (e1.trans e2.symm)
theorem yN{M:Model}{A:Around}{E:Value->Shared->Prop}{i:Nat}{x:Str}{v:V}{u:Value}{Q:Unit->Shared->Prop}(I:bG X pins σ H s)(hN:X.N.Nodup)(hi:X.N[i]?=some x)(hx:MZ X.env.scope x)(r:cB v u)
  (h:∀s',bG X pins (σ.set i (some v)) H s'->(∃a,Heap.SameBut a s.heap s'.heap/\(a=X.env.locals\/X.env.cells.lookup x=some a))->Q () s') (hf:X.fn x=true\/X.env.scope.names.lookup x=some .local:=by first | exact .inl rfl | exact .inr rfl | assumption):wpAny M A (storeName X.env x u) Q E s:=by
 obtain ⟨m,hn,hl⟩:=id I.loc;have hcls:(X.env.scope.kind == .class || (X.env.scope.kind == .module&&X.env.locals != X.env.globals))=false:=by rw [I.ok.kind];rfl
 have hiσ:i<σ.length:=by rw [I.len];exact (bL.mp hi).1
 have cne:=I.cne;have tracked:∀{a:Addr} {h':Heap},(∃o,s.heap.get? a=some o/\H a=none)->Heap.SameBut a s.heap h'->iC X.prog X.w H h':=λ{a h'} ha hs b ob e=>by
  obtain ⟨_,_,hfree⟩:=ha;refine (I.hok b ob e).stay (λc w' hc q=>(hs.2 c ?_).trans q) (λ_ q=>q) λ_ _ q=>q;rintro rfl;rcases hc with rfl | hc
  ·rw [hfree] at e;cases e
  ·rw [hfree] at hc;cases hc
 rcases hx with hk | hk
 ·refine wpAny_storeName_local hk hn (λh' hn' hs=>?_) hcls;obtain ⟨oL,_,_,hoL,_⟩:=id hn;refine h _ ⟨I.ok,I.os,I.bare,⟨λb o e n hb hx=>?_,λb o e n hb hx=>?_,I.base.free,λb o e hx=>?_,I.base.tups,I.base.frzs,I.base.tbls⟩,⟨_,hn',λj y v' e1 e2 e3=>?_⟩,λy c e=>?_,I.free,I.freeC,λp hp=>?_,tracked ⟨oL,hoL,I.free⟩ hs,by simpa using I.len⟩ ⟨_,hs,.inl rfl⟩
  ·exact (hs.2 b (bP (aH (aN e) I.ok.above))).trans (I.base.keep b o e n hb hx)
  ·obtain ⟨sl,e1⟩:=I.base.slot b o e n hb hx;exact ⟨sl,(hs.2 b (bP (aH (aN e) I.ok.above))).trans e1⟩
  ·obtain ⟨o',e1⟩:=I.base.there b o e hx;exact ⟨o',(hs.2 b (bP (aH (aN e) I.ok.above))).trans e1⟩
  ·by_cases hj:j=i
   ·subst hj;rw [hi] at e1;cases e1;rw [List.getElem?_set_self hiσ] at e2;cases e2;exact ⟨u,r,.inl ⟨hk,by simp⟩⟩
   ·rw [List.getElem?_set_ne (Ne.symm hj)] at e2;obtain ⟨u',r',q⟩:=hl j y v' e1 e2 e3;refine ⟨u',r',?_⟩;rcases q with ⟨k,e⟩ | ⟨k,c,e,z⟩
    ·refine .inl ⟨k,?_⟩;have:y≠x:=λe=>hj (sR hN e1 (e ▸ hi));simp [this,e]
    ·exact .inr ⟨k,c,e,z.sameBut hs (cne y c e)⟩
  ·obtain ⟨w',z⟩:=I.cell y c e;exact ⟨w',z.sameBut hs (cne y c e)⟩
  ·obtain ⟨e,n,ne,nf,d⟩:=I.pin p hp;exact ⟨(hs.2 p.1 ne).trans e,n,ne,nf,d⟩
 ·have hfn:X.fn x=true:=by
   rcases hf with z | z
   ·exact z
   ·rw [z] at hk;cases hk
  obtain ⟨c,hc⟩:=I.ok.has x (.inl hk);obtain ⟨w',z⟩:=I.cell x c hc;refine wpAny_storeName_cell I.ok.kind hk hc z (λh' hc' hs=>?_);obtain ⟨oc,hoc,hocd⟩:=id z;refine h { s with heap:=h' } ⟨I.ok,I.os,I.bare,⟨λb o e n hb hx=>?_,λb o e n hb hx=>?_,I.base.free,λb o e hx=>?_,I.base.tups,I.base.frzs,I.base.tbls⟩,⟨m,hn.sameBut hs (Ne.symm (cne x c hc)),λj y v' e1 e2 e3=>?_⟩,λy c' e=>?_,I.free,I.freeC,λp hp=>?_,tracked ⟨oc,hoc,I.freeC x c hc⟩ hs,by simpa using I.len⟩ ⟨c,hs,.inr hc⟩
  ·exact (hs.2 b (bP (aH (aN e) (I.ok.cab x c hfn hc)))).trans (I.base.keep b o e n hb hx)
  ·obtain ⟨sl,e1⟩:=I.base.slot b o e n hb hx;exact ⟨sl,(hs.2 b (bP (aH (aN e) (I.ok.cab x c hfn hc)))).trans e1⟩
  ·obtain ⟨o',e1⟩:=I.base.there b o e hx;exact ⟨o',(hs.2 b (bP (aH (aN e) (I.ok.cab x c hfn hc)))).trans e1⟩
  ·by_cases hj:j=i
   ·subst hj;rw [hi] at e1;cases e1;rw [List.getElem?_set_self hiσ] at e2;cases e2;exact ⟨u,r,.inr ⟨.inl hk,c,hc,hc'⟩⟩
   ·rw [List.getElem?_set_ne (Ne.symm hj)] at e2;obtain ⟨u',r',q⟩:=hl j y v' e1 e2 e3;refine ⟨u',r',?_⟩;rcases q with q | ⟨k,c',e,z'⟩
    ·exact .inl q
    ·refine .inr ⟨k,c',e,z'.sameBut hs ?_⟩;rintro rfl;exact hj (sR hN e1 (I.ok.inj _ _ _ e hc ▸ hi))
  ·by_cases hcc:c'=c
   ·subst hcc;exact ⟨_,hc'⟩
   ·obtain ⟨w2,z2⟩:=I.cell y c' e;exact ⟨w2,z2.sameBut hs hcc⟩
  ·obtain ⟨e,n,ne,nf,d⟩:=I.pin p hp;refine ⟨(hs.2 p.1 ?_).trans e,n,ne,nf,d⟩;intro q;rw [q,hoc] at e;have q':oc=p.2:=bY e;exact d w' (by rw [<-q'];exact hocd)
theorem gF{M:Model}{A:Around}{E:Value->Shared->Prop}{i:Nat}{x:Str}{v:V}{u:Value}{Q:Unit->Shared->Prop}(I:bG X pins σ H s)(hN:X.N.Nodup)(hi:X.N[i]?=some x)(hx:MZ X.env.scope x)(r:cB v u)
  (h:∀s',bG X pins (σ.set i (some v)) H s'->Q () s') (hf:X.fn x=true\/X.env.scope.names.lookup x=some .local:=by first | exact .inl rfl | exact .inr rfl | assumption):wpAny M A (storeName X.env x u) Q E s :=
 yN I hN hi hx r (λs' I' _=>h s' I') hf
theorem bG.call'{s':Shared}{ch:List Addr}(I:bG X pins σ H s)(ho:s'.os=s.os)(u:Un (frs X.stack) ch H H' s.heap s'.heap)(hok:iC X.prog X.w H' s'.heap)(hg:AllBare s'.gens)
  (hch:∀b∈ch,(b∈X.ex\/X.s₀.heap.objs.size<=b)/\b≠X.env.locals/\(∀x c,X.env.cells.lookup x=some c->c≠b)/\∀p∈X.pn++pins,p.1≠b):bG X pins σ H' s':=by
 obtain ⟨h',g',d',t',o'⟩:=s';have e:o'=s.os:=ho;subst e;exact I.call (g':=g') (t':=t') (d':=d') u hok hg hch
end
abbrev XK:=Value->Option Addr->Hp->Prop
abbrev St:=List (Option V)
abbrev VK:=V->Hp->Prop
abbrev TE:=St->Hp->VK->Prop
abbrev TT:=St->Hp->(Bool->Hp->Prop)->Prop
abbrev TA:=St->Hp->(List V->Hp->Prop)->Prop
structure mS where
 nx:St->Hp->Prop
 rt:VK
 bk:St->Hp->Prop:=λ_ _=>False
 ct:St->Hp->Prop:=λ_ _=>False
abbrev TS:=mS->St->Hp->Prop
def EP(X:Cx)(pins:List (Addr × Obj))(σ:St)(Q:VK)(u:Value)(s':Shared):Prop:=∃v H',bG X pins σ H' s'/\cB v u/\Q v H'
def TP(X:Cx)(pins:List (Addr × Obj))(σ:St)(Q:Bool->Hp->Prop)(b:Bool)(s':Shared):Prop:=∃H',bG X pins σ H' s'/\Q b H'
def AP(X:Cx)(pins:List (Addr × Obj))(σ:St)(Q:List V->Hp->Prop)(us:List Value)(s':Shared):Prop:=∃vs H',bG X pins σ H' s'/\bW vs us/\Q vs H'
def SP(X:Cx)(pins:List (Addr × Obj))(D:mS)(f:Flow)(s':Shared):Prop :=
 match f with
 | .next=>∃σ' H',bG X pins σ' H' s'/\D.nx σ' H'
 | .brk=>∃σ' H',bG X pins σ' H' s'/\D.bk σ' H'
 | .cont=>∃σ' H',bG X pins σ' H' s'/\D.ct σ' H'
 | .ret u=>∃v σ' H',bG X pins σ' H' s'/\cB v u/\D.rt v H'
def PE(X:Cx)(e:Expr)(t:TE):Prop :=
 ∀(pins:List (Addr × Obj)) (s:Shared) (σ:St) (H:Hp) (Q:VK),bG X pins σ H s->t σ H Q->wpAny (model X.prog X.w) X.A (eval e X.env) (EP X pins σ Q) X.xe s
def PT(X:Cx)(e:Expr)(t:TT):Prop :=
 ∀(pins:List (Addr × Obj)) (s:Shared) (σ:St) (H:Hp) (Q:Bool->Hp->Prop),bG X pins σ H s->t σ H Q->wpAny (model X.prog X.w) X.A (isTrue e X.env (eval e X.env)) (TP X pins σ Q) X.xe s
def PW(X:Cx)(e:Expr)(t:TT):Prop :=
 ∀(whole:Sem Value) (pins:List (Addr × Obj)) (s:Shared) (σ:St) (H:Hp) (Q:Bool->Hp->Prop),bG X pins σ H s->t σ H Q->wpAny (model X.prog X.w) X.A (isTrue e X.env whole) (TP X pins σ Q) X.xe s
theorem PW.pt{X:Cx}{e:Expr}{t:TT}(h:PW X e t):PT X e t:=h _
def PA(X:Cx)(es:List Expr)(t:TA):Prop :=
 ∀(pos:Pos) (pins:List (Addr × Obj)) (s:Shared) (σ:St) (H:Hp) (Q:List V->Hp->Prop),bG X pins σ H s->t σ H Q->wpAny (model X.prog X.w) X.A (spliced (backTo pos (starEach es X.env))) (AP X pins σ Q) X.xe s
def PS(X:Cx)(st:Stmt)(t:TS):Prop :=
 ∀(pins:List (Addr × Obj)) (s:Shared) (σ:St) (H:Hp) (D:mS),bG X pins σ H s->t D σ H->wpAny (model X.prog X.w) X.A (exec st X.env) (SP X pins D) X.xe s
def vR(X:Cx)(st:List Stmt)(t:TS):Prop :=
 ∀(pins:List (Addr × Obj)) (s:Shared) (σ:St) (H:Hp) (D:mS),bG X pins σ H s->t D σ H->wpAny (model X.prog X.w) X.A (execs st X.env) (SP X pins D) X.xe s
theorem thn{α:Type}{t:Sem α}{Q Q':α->Shared->Prop}{M:Model}{A:Around}{E:Value->Shared->Prop}{s:Shared}(h:wpAny M A t Q E s)(hQ:∀a s,Q a s->Q' a s):wpAny M A t Q' E s:=wpAny_mono h hQ λ_ _ x=>x
section
variable{X:Cx}
def JA(i:Nat):TE:=λσ H Q=>∃v,σ[i]?=some (some v)/\Q v H
def tC(v:V):TE:=λ_ H Q=>Q v H
theorem KM{i:Nat}{x:Str}{pos:Pos}(hN:X.N[i]?=some x)(hv:QB X.env.scope x)(hd:(x == ("__debug__" : Str))=false:=by decide)(hcd:(x == ("__classdict__" : Str))=false:=by decide):PE X (.Name x pos) (JA i):=by
 intro pins s σ H Q I h;obtain ⟨v,e,h⟩:=h;obtain ⟨m,hn,hl⟩:=I.loc;obtain ⟨u,r,l⟩:=hl i x v hN e hv;have fin:EP X pins σ Q u s:=⟨v,H,I,r,h⟩;rcases l with ⟨hk,hm⟩ | ⟨hk,c,hc,hcell⟩
 ·exact wpAny_Name (wpAny_loadName_local I.ok.kind hk hn hm fin) hd
 ·rcases hk with hk | hk
  ·exact wpAny_Name (wpAny_loadName_cell I.ok.kind hk hc hcell fin) hd
  ·exact wpAny_Name (wpAny_loadName_free I.ok.kind hk hc hcell fin hcd) hd
theorem pe_int{i j pos}:PE X (.Constant (.int i) j pos) (tC (.int i)):=λ_ _ _ H _ I h=>wpAny_Constant_int ⟨.int i,H,I.tok _,⟨_,rfl⟩,h⟩
theorem pe_bl{b j pos}:PE X (.Constant (.bool b) j pos) (tC (.bl b)):=λ_ _ _ H _ I h=>Constant_bool ⟨.bl b,H,I,rfl,h⟩
theorem pe_str{x j pos}:PE X (.Constant (.str x) j pos) (tC (.str x)):=λ_ _ _ H _ I h=>Calls.Constant_str ⟨.str x,H,I.tok _,⟨_,rfl⟩,h⟩
def Gl(X:Cx)(x:Str):Prop:=X.env.kindOf x=some .globalImplicit
theorem xA{E:Value->Shared->Prop}{pins:List (Addr × Obj)}{s:Shared}{σ:St}{H:Hp}{x:Str}{u:Value}{pos:Pos}{Q:Value->Shared->Prop}(I:bG X pins σ H s)(hg:Gl X x)(hm:X.mg x=some u)(h:Q u s)
  (hd:(x == ("__debug__" : Str))=false:=by decide):wpAny (model X.prog X.w) X.A (eval (.Name x pos) X.env) Q E s :=
 Calls.Name_function_global I.ok.kind hg (Calls.loadGlobal_global (by rw [I.ok.glob];exact I.mod.glob.keeps I.bk) hm h) hd
theorem jC{E:Value->Shared->Prop}{pins:List (Addr × Obj)}{s:Shared}{σ:St}{H:Hp}{x:Str}{u:Value}{pos:Pos}{Q:Value->Shared->Prop}(I:bG X pins σ H s)(hg:Gl X x)(hm:X.mg x=none)(hv:bootBuiltins x=some u)(h:Q u s)
  (hn:x ≠ "__name__" := by decide) (hd:(x == ("__debug__" : Str))=false:=by decide):wpAny (model X.prog X.w) X.A (eval (.Name x pos) X.env) Q E s:=by
 obtain ⟨mb,h1,h2⟩:=I.mod.blt;exact Calls.Name_function_global I.ok.kind hg (Calls.loadGlobal_builtin (by rw [I.ok.glob];exact I.mod.glob.keeps I.bk) hm (by rw [I.ok.blt];exact h1.keeps I.bk) ((h2 x hn).trans hv) h) hd
theorem FW{x:Str}{v:V}{u:Value}{pos:Pos}(hg:Gl X x)(hm:X.mg x=some u)(r:cB v u)(hd:(x == ("__debug__" : Str))=false:=by decide):PE X (.Name x pos) (tC v) :=
 λ_ _ _ H _ I h=>xA I hg hm ⟨v,H,I,r,h⟩ hd
theorem GB{x:Str}{v:V}{u:Value}{pos:Pos}(hg:Gl X x)(hm:X.mg x=none)(hv:bootBuiltins x=some u)(r:cB v u)(hn:x ≠ "__name__" := by decide)(hd:(x == ("__debug__" : Str))=false:=by decide):PE X (.Name x pos) (tC v) :=
 λ_ _ _ H _ I h=>jC I hg hm hv ⟨v,H,I,r,h⟩ hn hd
variable{a b:Expr}{ta tb:TE}{pos:Pos}
def tB(t:TE):TT:=λσ H Q=>t σ H λx H1=>∃c,x=.bl c/\Q c H1
theorem JY{e:Expr}{t:TE}(h:PE X e t)(he:∀whole,isTrue e X.env whole=(do let v <-whole;standAt e.pos;holding [v] (truthy v)):=by intro _;rfl):PT X e (tB t):=by
 intro pins s σ H Q I hw;refine isTrue_plain (thn (h pins s σ H _ I hw) λv s1 ⟨x,H1,I1,r1,q1⟩=>?_) (he _);obtain ⟨d,rfl,q⟩:=q1;cases r1;exact wpAny_truthy_bool ⟨H1,I1,q⟩
variable{tA tB':TT}{rest:List Expr}
def NM(t u:TT):TT:=λσ H Q=>t σ H λc H1=>if c=true then u σ H1 Q else Q false H1
def SA(t u:TT):TT:=λσ H Q=>t σ H λc H1=>if c=true then Q true H1 else u σ H1 Q
def NF(t:TT):TT:=λσ H Q=>t σ H λc H1=>Q (!c) H1
theorem FM(ha:PT X a tA):PW X (.BoolOp .And [a] pos) tA:=by
 intro wh pins s σ H Q I h;refine isTrue_and (thn (ha pins s σ H Q I h) λc s1 e=>?_);cases c with
 | true=>exact isTrue_and_nil e
 | false=>exact e
theorem JW(ha:PT X a tA):PW X (.BoolOp .Or [a] pos) tA:=by
 intro wh pins s σ H Q I h;refine isTrue_or (thn (ha pins s σ H Q I h) λc s1 e=>?_);cases c with
 | false=>exact isTrue_or_nil e
 | true=>exact e
theorem JX(ha:PT X a tA)(hb:PW X (.BoolOp .And (b::rest) pos) tB'):PW X (.BoolOp .And (a::b::rest) pos) (NM tA tB'):=by
 intro wh pins s σ H Q I h;refine isTrue_and (thn (ha pins s σ H _ I h) λc s1 ⟨H1,I1,q1⟩=>?_);cases c with
 | true=>exact hb wh pins s1 σ H1 Q I1 q1
 | false=>exact ⟨H1,I1,q1⟩
theorem NY(ha:PT X a tA)(hb:PW X (.BoolOp .Or (b::rest) pos) tB'):PW X (.BoolOp .Or (a::b::rest) pos) (SA tA tB'):=by
 intro wh pins s σ H Q I h;refine isTrue_or (thn (ha pins s σ H _ I h) λc s1 ⟨H1,I1,q1⟩=>?_);cases c with
 | true=>exact ⟨H1,I1,q1⟩
 | false=>exact hb wh pins s1 σ H1 Q I1 q1
theorem JZ(ha:PT X a tA):PT X (.UnaryOp .Not a pos) (NF tA):=by
 intro pins s σ H Q I h;exact isTrue_not (ha pins s σ H (λc H1=>Q (!c) H1) I h)
end
def fA(K:PySem.W.Frag)(H:Hp)(a:Addr)(xs:List V):Prop :=
 Rd H a (.lst xs) \/
  ∃(o:Obj) (its:Array Value) (n:Nat),K.lookup a=some o/\o.cls=.type "list" /\ o.dict=none/\o.data=.seq its n/\its.size<=sizeLine/\bW xs its.toList
def eT(K:PySem.W.Frag)(H:Hp)(a:Addr)(xs:List V):Prop :=
 Rd H a (.tup xs) \/
  ∃(o:Obj) (its:Array Value) (n:Nat),K.lookup a=some o/\o.cls=.type "tuple" /\ o.data=.seq its n/\its.size<=sizeLine/\bW xs its.toList
def RT:Value->Option V
 | .none=>some .non
 | .bool b=>some (.bl b)
 | .int i _=>some (.int i)
 | .str x _=>some (.str x)
 | .bytes b _=>some (.byt b)
 | .float b _=>some (.flt b)
 | .ref a=>some (.ref a)
 | .type n=>some (.ty n)
 | _=>none
theorem cB.abs{x:V}{u:Value}(r:cB x u):RT u=some x:=by
 cases x with
 | non=>cases r;rfl
 | bl _=>cases r;rfl
 | int _=>obtain ⟨t,rfl⟩:=r;rfl
 | str _=>obtain ⟨t,rfl⟩:=r;rfl
 | byt _=>obtain ⟨t,rfl⟩:=r;rfl
 | flt _=>obtain ⟨t,rfl⟩:=r;rfl
 | ref _=>cases r;rfl
 | ty _=>cases r;rfl
theorem cB.inj{x y:V}{u:Value}(r:cB x u)(q:cB y u):x=y:=bY (r.abs.symm.trans q.abs)
theorem bW.inj:∀{xs ys:List V}{us:List Value},bW xs us->bW ys us->xs=ys
 | _,_,_,.nil,.nil=>rfl
 | _,_,_,.cons r t,.cons r' t'=>by rw [r.inj r',bW.inj t t']
section
variable{X:Cx}{pins:List (Addr × Obj)}{σ:St}{H:Hp}{s:Shared}{a:Addr}{xs ys:List V}
theorem fA.of{K:PySem.W.Frag}(h:H a=some (.lst xs)):fA K H a xs:=.inl (.inl h)
theorem eT.of{K:PySem.W.Frag}(h:H a=some (.tup xs)):eT K H a xs:=.inl (.inl h)
theorem bG.list(I:bG X pins σ H s)(h:fA X.K H a xs):∃its:List Value,bW xs its/\PlainL s.heap a its.toArray/\xs.length<=sizeLine:=by
 rcases h with h | ⟨o,its,n,hk,hc,hd,hs,hz,r⟩
 ·obtain ⟨z,its,n,r,e⟩:=h.ok I.hok;exact ⟨its,r,⟨_,n,e,rfl,rfl,rfl⟩,z⟩
 ·refine ⟨its.toList,r,⟨o,n,I.kIn a o hk,hc,hd,by simpa using hs⟩,?_⟩;have e:=r.length;simp only [Array.length_toList] at e;omega
theorem bG.tuple(I:bG X pins σ H s)(h:eT X.K H a xs):∃its:List Value,bW xs its/\IsTup s.heap a its.toArray/\xs.length<=sizeLine:=by
 rcases h with h | ⟨o,its,n,hk,hc,hs,hz,r⟩
 ·obtain ⟨⟨z,_⟩,its,r,p⟩:=h.ok I.hok;exact ⟨its,r,p,z⟩
 ·refine ⟨its.toList,r,⟨o,I.kIn a o hk,hc,n,by simpa using hs⟩,?_⟩;have e:=r.length;simp only [Array.length_toList] at e;omega
theorem bG.list_inj(I:bG X pins σ H s)(h:fA X.K H a xs)(h':fA X.K H a ys):xs=ys:=by
 obtain ⟨its,r,⟨o,n,e,_,_,d⟩,_⟩:=I.list h;obtain ⟨its',r',⟨o',n',e',_,_,d'⟩,_⟩:=I.list h';rw [e] at e';cases e';rw [d] at d';injection d' with d1 _;have:its=its':=by simpa using congrArg Array.toList d1
 subst this;exact r.inj r'
theorem bG.tuple_inj(I:bG X pins σ H s)(h:eT X.K H a xs)(h':eT X.K H a ys):xs=ys:=by
 obtain ⟨its,r,⟨o,e,_,n,d⟩,_⟩:=I.tuple h;obtain ⟨its',r',⟨o',e',_,n',d'⟩,_⟩:=I.tuple h';rw [e] at e';cases e';rw [d] at d';injection d' with d1 _;have:its=its':=by simpa using congrArg Array.toList d1
 subst this;exact r.inj r'
end
abbrev Cx.wish(X:Cx)(E:Value->Shared->Prop):Cx:={ X with xe:=E }
abbrev Cx.nox(X:Cx):Cx:=X.wish λ_ _=>False
theorem Cx.Ok.wish{X:Cx}(ok:X.Ok)(E:Value->Shared->Prop):(X.wish E).Ok :=
 ⟨ok.mod,ok.kind,ok.glob,ok.blt,ok.above,ok.inj,ok.has,ok.cab,ok.hd,ok.frames,ok.stk,ok.exf,ok.bs,ok.bsz,ok.noex,ok.exfs,ok.funs,ok.frf⟩
theorem Cx.Ok.unwish{X:Cx}{E:Value->Shared->Prop}(ok:(X.wish E).Ok):X.Ok :=
 ⟨ok.mod,ok.kind,ok.glob,ok.blt,ok.above,ok.inj,ok.has,ok.cab,ok.hd,ok.frames,ok.stk,ok.exf,ok.bs,ok.bsz,ok.noex,ok.exfs,ok.funs,ok.frf⟩
section
variable{X:Cx}{pins:List (Addr × Obj)}{σ:St}{H:Hp}{s:Shared}{E:Value->Shared->Prop}
theorem bG.wish(I:bG X pins σ H s)(E:Value->Shared->Prop):bG (X.wish E) pins σ H s:=⟨I.ok.wish E,I.os,I.bare,I.base,I.loc,I.cell,I.free,I.freeC,I.pin,I.hok,I.len⟩
theorem bG.unwish(I:bG (X.wish E) pins σ H s):bG X pins σ H s:=⟨I.ok.unwish,I.os,I.bare,I.base,I.loc,I.cell,I.free,I.freeC,I.pin,I.hok,I.len⟩
theorem SP.unwish{D:mS}{f:Flow}{s':Shared}(h:SP (X.wish E) pins D f s'):SP X pins D f s':=by
 cases f with
 | next=>obtain ⟨σ',H',I,q⟩:=h;exact ⟨σ',H',I.unwish,q⟩
 | brk=>obtain ⟨σ',H',I,q⟩:=h;exact ⟨σ',H',I.unwish,q⟩
 | cont=>obtain ⟨σ',H',I,q⟩:=h;exact ⟨σ',H',I.unwish,q⟩
 | ret u=>obtain ⟨v,σ',H',I,r,q⟩:=h;exact ⟨v,σ',H',I.unwish,r,q⟩
theorem PE.nox{e:Expr}{t:TE}(h:PE X.nox e t):PE X e t:=λpins s σ H Q I hw =>
 wpAny_mono (h pins s σ H Q (I.wish _) hw) (λ_ _ ⟨v,H',I',r,q⟩=>⟨v,H',I'.unwish,r,q⟩) λ_ _ z=>False.elim z
theorem vR.nox{st:List Stmt}{t:TS}(h:vR X.nox st t):vR X st t:=λpins s σ H D I hw =>
 wpAny_mono (h pins s σ H D (I.wish _) hw) (λ_ _ q=>q.unwish) λ_ _ z=>False.elim z
end
section
variable{X:Cx}{st:Stmt}{rest:List Stmt}{t u:TS}{e:Expr}{te:TE}{pos:Pos}
def HQ:TS:=λD σ H=>D.nx σ H
def NC(t u:TS):TS:=λD σ H=>t { D with nx:=u D } σ H
theorem pss_nil:vR X [] HQ:=λ_ _ σ H _ I h=>wpAny_execs_nil ⟨σ,H,I,h⟩
theorem BX(h1:PS X st t)(h2:vR X rest u):vR X (st::rest) (NC t u):=by
 intro pins s σ H D I h;refine wpAny_execs_cons (thn (h1 pins s σ H { D with nx:=u D } I h) λf s1 q=>?_);cases f with
 | next =>
  obtain ⟨σ',H',I',q⟩:=q;exact h2 pins s1 σ' H' D I' q
 | ret v=>exact q
 | brk=>exact q
 | cont=>exact q
theorem FP(h1:PS X st t):vR X [st] t:=by
 intro pins s σ H D I h;refine wpAny_execs_cons (thn (h1 pins s σ H D I h) λf s1 q=>?_);cases f with
 | next=>exact wpAny_execs_nil q
 | ret v=>exact q
 | brk=>exact q
 | cont=>exact q
theorem bG.quiet{pins:List (Addr × Obj)}{σ:St}{H:Hp}{s:Shared}(I:bG X pins σ H s):interactive X.env=false:=by simp [interactive,I.ok.kind]
def HR(te:TE):TS:=λD σ H=>te σ H λ_ H1=>D.nx σ H1
theorem FQ(he:PE X e te)(hs:swapsWith e none pos.line X.env=pure false:=by rfl):PS X (.Expr e pos) (HR te):=by
 intro pins s σ H D I h;exact wpAny_Expr_any (thn (he pins s σ H _ I h) λv s1 ⟨x,H1,I1,r1,q1⟩=>⟨σ,H1,I1,q1⟩) I.quiet hs
def ND(te:TE):TS:=λD σ H=>te σ H D.rt
theorem KB(he:PE X e te):PS X (.Return (some e) pos) (ND te):=by
 intro pins s σ H D I h;exact wpAny_Return_some (thn (he pins s σ H _ I h) λv s1 ⟨x,H1,I1,r1,q1⟩=>⟨x,σ,H1,I1,r1,q1⟩)
def NH(c:TT)(t u:TS):TS:=λD σ H=>c σ H λb H1=>if b=true then t D σ H1 else u D σ H1
theorem NZ{c:Expr}{a b:List Stmt}{tc:TT}(hc:PT X c tc)(ha:vR X a t)(hb:vR X b u):PS X (.If c a b pos) (NH tc t u):=by
 intro pins s σ H D I h;refine wpAny_If (thn (hc pins s σ H _ I h) λd s1 ⟨H1,I1,q1⟩=>?_);cases d with
 | true=>exact ha pins s1 σ H1 D I1 q1
 | false=>exact hb pins s1 σ H1 D I1 q1
end
abbrev TG:=V->St->Hp->(St->Hp->Prop)->Prop
abbrev EG:=List V->St->Hp->(St->Hp->Prop)->Prop
def PG(X:Cx)(target:Expr)(t:TG):Prop :=
 ∀(pins:List (Addr × Obj)) (s:Shared) (σ:St) (H:Hp) (v:V) (u:Value) (Q:St->Hp->Prop),bG X pins σ H s->cB v u->t v σ H Q ->
  wpAny (model X.prog X.w) X.A (assign target X.env u) (λ_ s'=>∃σ' H',bG X pins σ' H' s'/\Q σ' H') X.xe s
def PF(X:Cx)(ts:List Expr)(t:EG):Prop :=
 ∀(pins:List (Addr × Obj)) (s:Shared) (σ:St) (H:Hp) (vs:List V) (us:List Value) (Q:St->Hp->Prop),bG X pins σ H s->bW vs us->t vs σ H Q ->
  wpAny (model X.prog X.w) X.A (assignInOrder ((assignEach ts X.env).map (·.2)) us) (λ_ s'=>∃σ' H',bG X pins σ' H' s'/\Q σ' H') X.xe s
abbrev HH:=V->V->V->Hp->(Hp->Prop)->Prop
def ML(X:Cx)(t:HH):Prop :=
 ∀(pins:List (Addr × Obj)) (s:Shared) (σ:St) (H:Hp) (o i v:V) (ov iv u:Value) (Q:Hp->Prop),bG X pins σ H s->cB o ov->cB i iv->cB v u->t o i v H Q ->
  wpAny (model X.prog X.w) X.A (setItem ov iv u) (λ_ s'=>∃H',bG X pins σ H' s'/\Q H') X.xe s
section
variable{X:Cx}{pos:Pos}
def xN(i:Nat):TG:=λv σ H Q=>Q (σ.set i (some v)) H
theorem FV{i:Nat}{x:Str}(hN:X.N.Nodup)(hi:X.N[i]?=some x)(hx:MZ X.env.scope x)(hf:X.fn x=true\/X.env.scope.names.lookup x=some .local:=by first | exact .inl rfl | exact .inr rfl | assumption):PG X (.Name x pos) (xN i):=by
 intro pins s σ H v u Q I r h;exact wpAny_assign_Name (gF I hN hi hx r (λs' I'=>⟨_,H,I',h⟩) hf)
def OW:EG:=λvs σ H Q=>vs=[]/\Q σ H
def II(t:TG)(u:EG):EG:=λvs σ H Q=>∃v r,vs=v::r/\t v σ H λσ' H'=>u r σ' H' Q
theorem pgs_nil:PF X [] OW:=by
 intro pins s σ H vs us Q I r h;obtain ⟨e,h⟩:=h;subst e;cases r;exact assignInOrder_nil ⟨σ,H,I,h⟩
theorem CA{e:Expr}{es:List Expr}{t:TG}{u:EG}(h1:PG X e t)(h2:PF X es u)
  (hs:(assignEach (e::es) X.env).map (·.2)=assign e X.env::(assignEach es X.env).map (·.2):=by rfl):PF X (e::es) (II t u):=by
 intro pins s σ H vs us Q I r h;obtain ⟨v,vr,e1,h⟩:=h;subst e1;cases r with
 | cons r rr =>
  rw [hs];refine assignInOrder_cons (thn (h1 pins s σ H _ _ _ I r h) λ_ s1 ⟨σ1,H1,I1,q1⟩=>?_);exact h2 pins s1 σ1 H1 _ _ Q I1 rr q1
def OU(K:PySem.W.Frag)(n:Nat)(t:EG):TG:=λv σ H Q=>∃a xs,v=.ref a/\eT K H a xs/\xs.length=n/\t xs σ H Q
theorem KK{es:List Expr}{k:Nat}{t:EG}{n:Nat}(hc:X.calm=true)(h:PF X es t)
  (hn:(assignEach es X.env).length=n:=by rfl) (hst:(assignEach es X.env).findIdx? (·.1)=none:=by rfl):PG X (.Tuple es k pos) (OU X.K n t):=by
 intro pins s σ H v u Q I r hw;obtain ⟨a,xs,e1,hq,hl,hw⟩:=hw;subst e1;cases r;obtain ⟨its,rv,ht,hz⟩:=I.tuple hq;refine assign_Tuple_tuple (I.ok.hd hc) ht (by simp [hn,<-hl,rv.length]) hst λh' hx=>?_;have I1:bG X pins σ H { s with heap:=h' }:=I.kept (t':=s.toks) λb o e=>hx b o (bP (aN e)) e;exact h pins _ σ H xs _ Q I1 (by simpa using rv) hw
def OV(to ti:TE)(t:HH):TG:=λv σ H Q=>to σ H λo H1=>ti σ H1 λi H2=>t o i v H2 λH3=>Q σ H3
theorem KL{o i:Expr}{to ti:TE}{t:HH}(ho:PE X o to)(hi:PE X i ti)(hs:ML X t)
  (ha:∀v,assign (.Subscript o i pos) X.env v=(do
   let ov <-holding [v] (eval o X.env)
   let iv <-holding [v,ov] (eval i X.env)
   standAt pos
   holding [v,ov,iv] (setItem ov iv v)
   release [v,ov,iv] []):=by intro _;rfl):PG X (.Subscript o i pos) (OV to ti t):=by
 intro pins s σ H v u Q I r h;rw [ha];refine wpAny_bind (wpAny_holding (thn (ho pins s σ H _ I h) λov s1 ⟨x,H1,I1,r1,q1⟩=>?_));refine wpAny_bind (wpAny_holding (thn (hi pins s1 σ H1 _ I1 q1) λiv s2 ⟨y,H2,I2,r2,q2⟩=>?_));refine wpAny_bind (wpAny_standAt (wpAny_bind (wpAny_holding (thn (hs pins s2 σ H2 x y v ov iv u _ I2 r1 r2 r q2) λ_ s3 ⟨H3,I3,q3⟩=>?_))));exact wpAny_release ⟨σ,H3,I3,q3⟩
def EZ(te:TE)(g:TG):TS:=λD σ H=>te σ H λx H1=>g x σ H1 D.nx
theorem KG{tg e:Expr}{te:TE}{g:TG}(he:PE X e te)(hg:PG X tg g)(hs:swapsWithSole [tg] e pos.line X.env=pure false:=by rfl)(hw:swappedStores [tg] e X.env=pure none:=by rfl)
  (h1:(assignEach [tg] X.env).map (·.2)=[assign tg X.env]:=by rfl):PS X (.Assign [tg] e pos) (EZ te g):=by
 intro pins s σ H D I h;refine wpAny_Assign_stores (thn (he pins s σ H _ I h) λv s1 ⟨x,H1,I1,r1,q1⟩=>?_) hs hw;rw [h1];exact thn (hg pins s1 σ H1 x v _ I1 r1 q1) λ_ s2 q=>q
theorem KA{i:Nat}{x:Str}{e:Expr}{te:TE}{pos':Pos}(hN:X.N.Nodup)(hi:X.N[i]?=some x)(hx:MZ X.env.scope x)(he:PE X e te)(hs:swapsWith e (some (.Name x pos')) pos.line X.env=pure false:=by rfl)(hf:X.fn x=true\/X.env.scope.names.lookup x=some .local:=by first | exact .inl rfl | exact .inr rfl | assumption) :
  PS X (.Assign [.Name x pos'] e pos) (EZ te (xN i)):=by
 intro pins s σ H D I h;refine wpAny_Assign_Name (thn (he pins s σ H _ I h) λv s1 ⟨y,H1,I1,r1,q1⟩=>?_) hs;exact gF I1 hN hi hx r1 (λs2 I2=>⟨_,H1,I2,q1⟩) hf
def NE(i j:Nat)(ta:TA):TS:=λD σ H=>ta σ H λvs H1=>∃v w,vs=[v,w]/\D.nx ((σ.set i (some v)).set j (some w)) H1
theorem KC{i j:Nat}{x y:Str}{a b:Expr}{ta:TA}{px py pt:Pos}{kt k2 pt2}(hc:X.calm=true)(hN:X.N.Nodup)(hi:X.N[i]?=some x)(hj:X.N[j]?=some y)(hij:i≠j)
  (hx:X.env.scope.names.lookup x=some .local) (hy:X.env.scope.names.lookup y=some .local) (ha:PA X [a,b] ta)
  (hw:swappedStores [.Tuple [.Name x px,.Name y py] kt pt] (.Tuple [a,b] k2 pt2) X.env=pure (some [x,y]))
  (hs:swapsWithSole [.Tuple [.Name x px,.Name y py] kt pt] (.Tuple [a,b] k2 pt2) pos.line X.env=pure false:=by rfl) :
  PS X (.Assign [.Tuple [.Name x px,.Name y py] kt pt] (.Tuple [a,b] k2 pt2) pos) (NE i j ta):=by
 intro pins s σ H D I h;rw [exec_Assign_arm];refine wpAny_bind (wpAny_standAt ?_);rw [hs];refine wpAny_bind (wpAny_pure ?_);rw [if_neg Dd];refine wpAny_bind (Tuple_ (thn (ha _ pins s σ H _ I h) λus s1 ⟨vs,H1,I1,r1,q1⟩=>?_));obtain ⟨v,w,e1,q1⟩:=q1;subst e1;obtain ⟨u1,u2,rfl,rv,rw'⟩:∃u1 u2,us=[u1,u2]/\cB v u1/\cB w u2:=by
  cases r1 with
  | cons p q =>
   cases q with
   | cons p' q' =>
    cases q';exact ⟨_,_,rfl,p,p'⟩
 refine wpAny_newObj_type ?_ (by show 2<=sizeLine;decide);have I2:bG X pins σ H1 { s1 with heap:=s1.heap.push { cls:=.type "tuple",data:=.seq [u1,u2].toArray } }:=I1.kept (t':=s1.toks) λb o e=>aA _ e;rw [hw];refine wpAny_bind (wpAny_pure ?_);show wpAny (model X.prog X.w) X.A (do rule "assign.swapped-stores";let items <-unpackItems (.ref s1.heap.objs.size) 2 none;assignInOrder [λv=>bindName X.env y v,λv=>bindName X.env x v] items.reverse;pure Flow.next) _ _ _;refine wpAny_bind (wpAny_rule (wpAny_bind (unpackItems_tuple (items:=#[u1,u2]) (I.ok.hd hc) (IsTup.new s1.heap _) λh' hx'=>?_)));have I3:=I2.kept (h':=h') (t':=s1.toks) λb o e=>hx' b o (bP (aN e)) e;show wpAny _ _ (assignInOrder [λv=>bindName X.env y v,λv=>bindName X.env x v] [u2,u1] >>= λ_=>pure Flow.next) _ _ _;refine wpAny_bind (assignInOrder_cons (wpAny_bindName (gF I3 hN hj (.inl hy) rw' (λs2 I4=>?_) (.inr hy))));refine assignInOrder_cons (wpAny_bindName (gF I4 hN hi (.inl hx) rv (λs3 I5=>assignInOrder_nil (wpAny_pure ?_)) (.inr hx)));rw [List.set_comm _ _ (Ne.symm hij)] at I5;exact ⟨_,H1,I5,q1⟩
end
section
variable{X:Cx}{pos:Pos}
def qJ(c:TT)(tb:TS):TS:=λD σ H=>∃W:Nat->St->Hp->Prop,(∃m,W m σ H)/\∀m σ H,W m σ H ->
 c σ H λb H1=>if b=true then ∃N:St->Hp->Prop,(∀σ' H',N σ' H'->∃m',m' < m/\W m' σ' H')/\tb { D with nx:=N,ct:=N,bk:=D.nx } σ H1 else D.nx σ H1
theorem BY{c:Expr}{body:List Stmt}{tc:TT}{tb:TS}(hp:PassesOwn (model X.prog X.w) X.A X.env X.xe)(hc:PT X c tc)(hb:vR X body tb):PS X (.While c body [] pos) (qJ tc tb):=by
 intro pins s σ H D I h;obtain ⟨W,⟨m0,w0⟩,turn⟩:=h;refine wpAny_While (codeAny_whileLoop (λn s'=>∃σ' H',bG X pins σ' H' s'/\W n σ' H') ?_ m0 ⟨σ,H,I,w0⟩);rintro n s1 ⟨σ1,H1,I1,w1⟩;refine wpAny_passesOwn hp (thn (hc pins s1 σ1 H1 _ I1 (turn n σ1 H1 w1)) λb s2 ⟨H2,I2,q2⟩=>?_);cases b with
 | true =>
  obtain ⟨N,hN,q2⟩:=q2;rw [if_pos rfl];refine wpAny_passesOwn hp (thn (hb pins s2 σ1 H2 _ I2 q2) λf s3 q3=>?_);cases f with
  | next =>
   obtain ⟨σ3,H3,I3,n3⟩:=q3;obtain ⟨m',hm,w3⟩:=hN σ3 H3 n3;exact ⟨m',hm,σ3,H3,I3,w3⟩
  | cont =>
   obtain ⟨σ3,H3,I3,n3⟩:=q3;obtain ⟨m',hm,w3⟩:=hN σ3 H3 n3;exact ⟨m',hm,σ3,H3,I3,w3⟩
  | brk=>exact q3
  | ret v=>exact q3
 | false =>
  rw [if_neg aS];exact wpAny_execs_nil ⟨σ1,H2,I2,q2⟩
end
structure It where
 go:Nat->Hp->Prop
 yld:Nat->Hp->V->Hp->Prop
 stop:Nat->Hp->Prop
def fL(X:Cx)(pins:List (Addr × Obj))(H:Hp)(b:Addr):Prop :=
 H b=none/\b≠X.env.locals/\b ∉ X.fs/\(b∈X.ex\/X.s₀.heap.objs.size<=b)/\(∀x c,X.env.cells.lookup x=some c->c≠b)/\∀p∈X.pn++pins,p.1≠b
theorem bG.fpOk{X:Cx}{pins:List (Addr × Obj)}{σ:St}{H H':Hp}{s:Shared}{b:Addr}(I:bG X pins σ H s)(hb:s.heap.objs.size<=b)(hn:H' b=none):fL X pins H' b:=by
 refine ⟨hn,Nat.ne_of_gt (aH I.lt hb),I.nofs hb,.inr (aU I.sz hb),λx c e z=>?_,λp hp z=>?_⟩
 ·obtain ⟨v,q⟩:=I.cell x c e;exact absurd (aH q.lt (by rw [z];exact hb)) (bQ _)
 ·exact absurd (aH (aN (I.pin p hp).1) (by rw [z];exact hb)) (bQ _)
structure tZ(P:Program)(w:World)(K:PySem.W.Frag)(tg:Expr)(J:It)(fp:List Addr)(it:Addr)(tn:Nat->Heap->Prop):Prop where
 mem:it∈fp
 obj:∀i h,tn i h->∀b∈fp,∃o,h.get? b=some o/\∀v,o.data ≠ .cell v
 keep:∀i h h',tn i h->(∀b∈fp,∀o,h.get? b=some o->h'.get? b=some o)->tn i h'
 item:∀(X:Cx),X.prog=P->X.w=w->X.K=K->X.calm=true->∀(i:Nat) (pins:List (Addr × Obj)) (s:Shared) (σ:St) (H:Hp) (E:Value->Shared->Prop),bG X pins σ H s->(∀b∈fp,fL X pins H b)->tn i s.heap->J.go i H ->
  wpAny (model P w) X.A (pyNext (.ref it)) (λr s1=>∃u,r=some u /\
   wpAny (model P w) X.A (letOwnedTupleGo tg (.ref it) u) (λ_ s2=>∃x H',bG X pins σ H' s2/\cB x u/\J.yld i H x H'/\tn (i+1) s2.heap/\∀b∈fp,H' b=none) E s1) E s
 done:∀(X:Cx),X.prog=P->X.w=w->X.K=K->X.calm=true->∀(i:Nat) (pins:List (Addr × Obj)) (s:Shared) (σ:St) (H:Hp) (E:Value->Shared->Prop),bG X pins σ H s->(∀b∈fp,fL X pins H b)->tn i s.heap->J.stop i H ->
  wpAny (model P w) X.A (pyNext (.ref it)) (λr s1=>r=none/\bG X pins σ H s1) E s
 self:∀(A:Around) (i:Nat) (s:Shared) (Q:Value->Shared->Prop) (E:Value->Shared->Prop),tn i s.heap->Q (.ref it) s->wpAny (model P w) A (pyIter (.ref it)) Q E s
abbrev TI:=St->Hp->(It->Hp->Prop)->Prop
def SJ(X:Cx)(pins:List (Addr × Obj))(σ:St)(tg:Expr)(R:It->Hp->Prop)(itv:Value)(s2:Shared):Prop :=
 ∃(it:Addr) (fp:List Addr) (tn:Nat->Heap->Prop) (J:It) (H':Hp),itv=.ref it/\bG X pins σ H' s2/\tZ X.prog X.w X.K tg J fp it tn/\tn 0 s2.heap/\(∀b∈fp,fL X pins H' b)/\R J H'
def PI(X:Cx)(tg iter:Expr)(wi:TI):Prop :=
 ∀(pins:List (Addr × Obj)) (s:Shared) (σ:St) (H:Hp) (R:It->Hp->Prop),bG X pins σ H s->wi σ H R ->
  wpAny (model X.prog X.w) X.A (eval iter X.env) (λv s1=>wpAny (model X.prog X.w) X.A (pyIter v) (SJ X pins σ tg R) X.xe s1) X.xe s
theorem xK{M:Model}{A:Around}{E:Value->Shared->Prop}{s:Shared}{tg:Expr}{it:Addr}{u:Value}{o:Obj}{n:String}{vs:Array Value}{Q:Unit->Shared->Prop}(ho:s.heap.get? it=some o)(hc:o.cls=.type n)(hd:o.data=.fields vs)
    (hn:["enumerate","zip","dict_itemiterator","dict_reverseitemiterator","odict_iterator","itertools.zip_longest","itertools.pairwise"].contains n=false) (hQ:Q () s):wpAny M A (letOwnedTupleGo tg (.ref it) u) Q E s:=by
  unfold letOwnedTupleGo;cases tg <;> first
    | exact wpAny_pure hQ
    | (cases u <;> first
        | exact wpAny_pure hQ
        | (refine wpAny_bind (wpAny_load ho ?_)
           rw [hc,hd];show wpAny M A (if (["enumerate","zip","dict_itemiterator","dict_reverseitemiterator","odict_iterator","itertools.zip_longest","itertools.pairwise"].contains n&&vs[0]? == some (rawInt _))=true then _ else _) Q E s;rw [if_neg (by intro h;rw [hn,Bool.false_and] at h;cases h)];exact wpAny_pure hQ))
def QD(K:PySem.W.Frag)(a:Addr):It :=
 ⟨λi H=>∃xs x,fA K H a xs/\xs[i]?=some x,λi H x H'=>H'=H/\∀xs,fA K H a xs->xs[i]?=some x,λi H=>∃xs,fA K H a xs/\xs.length<=i⟩
def PM(K:PySem.W.Frag)(a:Addr):It :=
 ⟨λi H=>∃xs x,eT K H a xs/\xs[i]?=some x,λi H x H'=>H'=H/\∀xs,eT K H a xs->xs[i]?=some x,λi H=>∃xs,eT K H a xs/\xs.length<=i⟩
def HK(lo:Int)(n:Nat):It:=⟨λi _=>i<n,λi H x H'=>H'=H/\x=.int (lo+i),λi _=>n<=i⟩
theorem yJ{P:Program}{w:World}{K:PySem.W.Frag}{tg:Expr}(a it:Addr):tZ P w K tg (QD K a) [it] it (λi h=>h.IsListIter it a i) where
 mem:=by simp
 obj:=λi h st b hb=>by
  have e:b=it:=by simpa using hb
  subst e;obtain ⟨o,e,c,d⟩:=st;exact ⟨o,e,λv z=>by rw [d] at z;cases z⟩
 keep:=λi h h' st k=>st.at λo e=>k it (by simp) o e
 item:=by
  intro X hP hw hK hc i pins s σ H E I hf st hg;subst hP hw hK;obtain ⟨xs,x,hq,hx⟩:=hg;obtain ⟨its,rv,p,hz⟩:=I.list hq;obtain ⟨u,hu,ru⟩:=rv.get hx;obtain ⟨f0,f1,f2,f3,f4,f5⟩:=hf it (by simp);refine wpAny_pyNext_list_item st p.isList (x:=u) (by simpa using hu) λh' st' sb=>?_;have I1:bG X pins σ H { s with heap:=h' }:=I.turned (t':=s.toks) (λb o hb e=>(sb.2 b hb).trans e) f0 f1 f3 f4 f5;obtain ⟨o,e,c,d⟩:=id st';exact ⟨u,rfl,xK (s:={ s with heap:=h' }) e c d Dd ⟨x,H,I1,ru,⟨rfl,λys hy=>by rw [I.list_inj hy hq];exact hx⟩,st',λb hb=>(hf b hb).1⟩⟩
 done:=by
  intro X hP hw hK hc i pins s σ H E I hf st hg;subst hP hw hK;obtain ⟨xs,hq,hx⟩:=hg;obtain ⟨its,rv,p,hz⟩:=I.list hq;obtain ⟨f0,f1,f2,f3,f4,f5⟩:=hf it (by simp);have hl:=rv.length;exact wpAny_pyNext_list_end (I.ok.hd hc) st p.isList (by simp;omega) λh' eb=>⟨rfl,I.turned (t':=s.toks) (λb o hb e=>eb b o hb e) f0 f1 f3 f4 f5⟩
 self:=λ_ _ _ _ _ st h=>wpAny_pyIter_listiter st h
theorem uI{P:Program}{w:World}{K:PySem.W.Frag}{tg:Expr}(a it:Addr):tZ P w K tg (PM K a) [it] it (λi h=>h.IsTupleIter it a i) where
 mem:=by simp
 obj:=λi h st b hb=>by
  have e:b=it:=by simpa using hb
  subst e;obtain ⟨o,e,c,d⟩:=st;exact ⟨o,e,λv z=>by rw [d] at z;cases z⟩
 keep:=λi h h' st k=>st.at λo e=>k it (by simp) o e
 item:=by
  intro X hP hw hK hc i pins s σ H E I hf st hg;subst hP hw hK;obtain ⟨xs,x,hq,hx⟩:=hg;obtain ⟨its,rv,p,hz⟩:=I.tuple hq;obtain ⟨u,hu,ru⟩:=rv.get hx;obtain ⟨f0,f1,f2,f3,f4,f5⟩:=hf it (by simp);refine wpAny_pyNext_tuple_item st (show s.heap.IsTuple a its.toArray from p) (x:=u) (by simpa using hu) λh' st' sb=>?_;have I1:bG X pins σ H { s with heap:=h' }:=I.turned (t':=s.toks) (λb o hb e=>(sb.2 b hb).trans e) f0 f1 f3 f4 f5;obtain ⟨o,e,c,d⟩:=id st';exact ⟨u,rfl,xK (s:={ s with heap:=h' }) e c d Dd ⟨x,H,I1,ru,⟨rfl,λys hy=>by rw [I.tuple_inj hy hq];exact hx⟩,st',λb hb=>(hf b hb).1⟩⟩
 done:=by
  intro X hP hw hK hc i pins s σ H E I hf st hg;subst hP hw hK;obtain ⟨xs,hq,hx⟩:=hg;obtain ⟨its,rv,p,hz⟩:=I.tuple hq;obtain ⟨f0,f1,f2,f3,f4,f5⟩:=hf it (by simp);have hl:=rv.length;exact wpAny_pyNext_tuple_end (I.ok.hd hc) st (show s.heap.IsTuple a its.toArray from p) (by simp;omega) λh' eb=>⟨rfl,I.turned (t':=s.toks) (λb o hb e=>eb b o hb e) f0 f1 f3 f4 f5⟩
 self:=λ_ _ _ _ _ st h=>wpAny_pyIter_tupleiter st h
theorem uJ{P:Program}{w:World}{K:PySem.W.Frag}{tg:Expr}(it:Addr)(lo:Int)(n:Nat):tZ P w K tg (HK lo n) [it] it (λi h=>IsRangeIter h it (lo+(i:Nat)*1) ((n:Int)-(i:Nat)) 1) where
 mem:=by simp
 obj:=λi h st b hb=>by
  have e:b=it:=by simpa using hb
  subst e;exact ⟨_,st,λv z=>by
   have z':Data.fields _=Data.cell v:=z;cases z'⟩
 keep:=λi h h' st k=>k it (by simp) _ st
 item:=by
  intro X hP hw hK hc i pins s σ H E I hf st hg;subst hP hw hK;obtain ⟨f0,f1,f2,f3,f4,f5⟩:=hf it (by simp);have W:=Walks.range (prog:=X.prog) (w:=X.w) (I.ok.hd hc) it lo 1 n;refine W.item i s _ _ hg st λv h' tk hv st' kk=>?_;obtain ⟨t,rfl⟩:=hv;have I1:bG X pins σ H { s with heap:=h',toks:=tk }:=I.turned (λb o hb e=>kk b o (by simpa using hb) e) f0 f1 f3 f4 f5;refine ⟨_,rfl,xK (s:={ s with heap:=h',toks:=tk }) (n := "range_iterator") st' rfl rfl Dd ⟨.int (lo+i),H,I1,⟨t,?_⟩,⟨rfl,rfl⟩,st',λb hb=>(hf b hb).1⟩⟩;rw [Int.mul_one]
 done:=by
  intro X hP hw hK hc i pins s σ H E I hf st hg;subst hP hw hK;obtain ⟨f0,f1,f2,f3,f4,f5⟩:=hf it (by simp);exact wpAny_pyNext_range_end (I.ok.hd hc) st (by have:n<=i:=hg;omega) λh' eb=>⟨rfl,I.turned (t':=s.toks) (λb o hb e=>eb b o hb e) f0 f1 f3 f4 f5⟩
 self:=λ_ _ _ _ _ st h=>wpAny_pyIter_rangeiter st h
section
variable{X:Cx}{tg:Expr}
def IH(K:PySem.W.Frag)(tl:TE):TI:=λσ H R=>tl σ H λx H1=>∃a,x=.ref a/\(∃xs,fA K H1 a xs)/\R (QD K a) H1
def LO(K:PySem.W.Frag)(tl:TE):TI:=λσ H R=>tl σ H λx H1=>∃a,x=.ref a/\(∃xs,eT K H1 a xs)/\R (PM K a) H1
theorem FU{l:Expr}{tl:TE}(hl:PE X l tl):PI X tg l (IH X.K tl):=by
 intro pins s σ H R I h;refine thn (hl pins s σ H _ I h) λv s1 ⟨x,H1,I1,r1,q1⟩=>?_;obtain ⟨a,e,⟨xs,hq⟩,q⟩:=q1;subst e;cases r1;obtain ⟨its,rv,p,hz⟩:=I1.list hq;refine wpAny_pyIter_list p.isList ?_;refine ⟨s1.heap.objs.size,[s1.heap.objs.size],_,_,H1,rfl,I1.kept (t':=s1.toks) λb o e=>aA _ e,yJ a _,⟨_,aK _ rfl,rfl,rfl⟩,λb hb=>?_,q⟩;have e:b=s1.heap.objs.size:=by simpa using hb
 subst e;exact I1.fpOk (aC _) (I1.hok.fresh (aC _))
theorem KJ{l:Expr}{tl:TE}(hl:PE X l tl):PI X tg l (LO X.K tl):=by
 intro pins s σ H R I h;refine thn (hl pins s σ H _ I h) λv s1 ⟨x,H1,I1,r1,q1⟩=>?_;obtain ⟨a,e,⟨xs,hq⟩,q⟩:=q1;subst e;cases r1;obtain ⟨its,rv,p,hz⟩:=I1.tuple hq;refine wpAny_pyIter_tuple (show s1.heap.IsTuple a its.toArray from p) ?_;refine ⟨s1.heap.objs.size,[s1.heap.objs.size],_,_,H1,rfl,I1.kept (t':=s1.toks) λb o e=>aA _ e,uI a _,⟨_,aK _ rfl,rfl,rfl⟩,λb hb=>?_,q⟩;have e:b=s1.heap.objs.size:=by simpa using hb
 subst e;exact I1.fpOk (aC _) (I1.hok.fresh (aC _))
theorem sJ{pins:List (Addr × Obj)}{σ:St}{H:Hp}{s:Shared}{R:It->Hp->Prop}{E:Value->Shared->Prop}{lo hi:Int}{t u v:Tok}{tk:Nat}(I:bG X pins σ H s)(h1:-(2^62)<=lo)(h2:lo<2^62)(h3:-(2^62)<=hi)(h4:hi<2^62)
  (q:R (HK lo (hi-lo).toNat) H):wpAny (model X.prog X.w) X.A (pyIter (.ref s.heap.objs.size)) (SJ X pins σ tg R) E { s with heap:=s.heap.push { cls:=.type "range",data:=.fields #[.int lo t,.int hi u,.int 1 v] },toks:=tk }:=by
 refine wpAny_pyIter_range (IsRange.new ..) (small_one h1 h2 h3 h4) ?_;have I1:bG X pins σ H { s with heap:=s.heap.push { cls:=.type "range",data:=.fields #[.int lo t,.int hi u,.int 1 v] },toks:=tk }:=I.kept λb o e=>aA _ e;refine ⟨(s.heap.push { cls:=.type "range",data:=.fields #[.int lo t,.int hi u,.int 1 v] }).objs.size,[(s.heap.push { cls:=.type "range",data:=.fields #[.int lo t,.int hi u,.int 1 v] }).objs.size],_,_,H,rfl,
  I1.kept (t':=tk) λb o e=>aA _ e,uJ _ lo (hi-lo).toNat,?_,λb hb=>?_,q⟩
 ·have e1:lo+((0:Nat):Int)*1=lo:=by simp
  have e2:(((hi-lo).toNat:Nat):Int)-((0:Nat):Int)=Builtin.Range.rangeSize lo hi 1:=by rw [rangeSize_one];split <;> omega
  show IsRangeIter _ _ (lo+((0:Nat):Int)*1) ((((hi-lo).toNat:Nat):Int)-((0:Nat):Int)) 1;rw [e1,e2];exact aK _ rfl
 ·have e:b=(s.heap.push { cls:=.type "range",data:=.fields #[.int lo t,.int hi u,.int 1 v] }).objs.size:=by simpa using hb
  subst e;exact I1.fpOk (aC _) (I1.hok.fresh (aC _))
def IG(ta:TA):TI:=λσ H R=>ta σ H λvs H1=>∃j:Int,vs=[.int j]/\-(2^62)<=j/\j<2^62/\R (HK 0 j.toNat) H1
def IF(ta:TA):TI:=λσ H R=>ta σ H λvs H1=>∃i j:Int,vs=[.int i,.int j]/\(-(2^62)<=i/\i<2^62/\-(2^62)<=j/\j<2^62)/\R (HK i (j-i).toNat) H1
theorem yZ{a:Expr}{ta:TA}{p pos:Pos}(hg:Gl X "range")(hm:X.mg "range" = none)(ha:PA X [a] ta)(hs:starEach [a] X.env=[(false,eval a X.env)]:=by rfl):PI X tg (.Call (.Name "range" p) [a] [] pos) (IG ta):=by
 intro pins s σ H R I h;refine Call_ (jC I hg hm boot_range (PyProof.Rows.callWith_type1 (thn (ha pos pins s σ H _ I h) λus s1 ⟨vs,H1,I1,r1,q1⟩=>?_) hs rfl));obtain ⟨j,e,q1,q2,q⟩:=q1;subst e;cases r1 with
 | cons r rr =>
  cases rr;obtain ⟨t,rfl⟩:=r;exact call_range_1 (sJ I1 Oo Oo q1 q2 (by simpa using q))
theorem yY{a b:Expr}{ta:TA}{p pos:Pos}(hg:Gl X "range")(hm:X.mg "range" = none)(ha:PA X [a,b] ta)(hs:starEach [a,b] X.env=[(false,eval a X.env),(false,eval b X.env)]:=by rfl)(hs2:starEach [b] X.env=[(false,eval b X.env)]:=by rfl) :
  PI X tg (.Call (.Name "range" p) [a,b] [] pos) (IF ta):=by
 intro pins s σ H R I h;refine Call_ (jC I hg hm boot_range (PyProof.Rows.callWith_type1 (thn (ha pos pins s σ H _ I h) λus s1 ⟨vs,H1,I1,r1,q1⟩=>?_) (by rw [hs,hs2]) (by rw [hs2];rfl)));obtain ⟨i,j,e,⟨q1,q2,q3,q4⟩,q⟩:=q1;subst e;cases r1 with
 | cons r rr =>
  cases rr with
  | cons r' rr =>
   cases rr;obtain ⟨t,rfl⟩:=r;obtain ⟨t',rfl⟩:=r';exact call_range_2 (sJ I1 q1 q2 q3 q4 q)
def NI(wi:TI)(g:TG)(tb:TS):TS:=λD σ H=>wi σ H λJ H1=>∃W:Nat->Nat->St->Hp->Prop,(∃m,W 0 m σ H1)/\∀i m σ H,W i m σ H ->
 (J.stop i H/\D.nx σ H)\/(J.go i H/\∃N:St->Hp->Prop,(∀σ' H',N σ' H'->∃m',m' < m/\W (i+1) m' σ' H')/\∀x H',J.yld i H x H'->g x σ H' λσ2 H2=>tb { D with nx:=N,ct:=N,bk:=D.nx } σ2 H2)
def lH(fp:List Addr)(h:Heap):List (Addr × Obj):=fp.filterMap λb=>(h.get? b).map λo=>(b,o)
theorem fD{fp:List Addr}{h:Heap}{b:Addr}{o:Obj}(hb:b∈fp)(e:h.get? b=some o):(b,o)∈lH fp h:=List.mem_filterMap.mpr ⟨b,hb,by rw [e];rfl⟩
theorem zH{fp:List Addr}{h:Heap}{p:Addr × Obj}(hp:p∈lH fp h):p.1∈fp/\h.get? p.1=some p.2:=by
 obtain ⟨b,hb,e⟩:=List.mem_filterMap.mp hp;cases q:h.get? b with
 | none=>rw [q] at e;cases e
 | some o =>
  rw [q] at e;have e':(b,o)=p:=bY e;subst e';exact ⟨hb,q⟩
theorem bG.pinned{pins:List (Addr × Obj)}{σ:St}{H:Hp}{s:Shared}{fp:List Addr}(I:bG X pins σ H s)(hf:∀b∈fp,fL X pins H b)(ho:∀b∈fp,∃o,s.heap.get? b=some o/\∀v,o.data ≠ .cell v):bG X (pins++lH fp s.heap) σ H s :=
 I.pins_of λp hp=>(List.mem_append.mp hp).elim (λz=>I.pin p (aF _ z)) λz=>by
  obtain ⟨hb,e⟩:=zH z;obtain ⟨f0,f1,f2,_⟩:=hf p.1 hb;obtain ⟨o,e',d⟩:=ho p.1 hb;rw [e] at e';cases e';exact ⟨e,f0,f1,f2,d⟩
theorem bG.unpinned{pins pl:List (Addr × Obj)}{σ:St}{H:Hp}{s:Shared}(I:bG X (pins++pl) σ H s):bG X pins σ H s:=I.pins_of λp hp=>I.pin p (aF _ (bU _ hp))
theorem KD{iter:Expr}{body:List Stmt}{wi:TI}{g:TG}{tb:TS}{pos:Pos}(hp:PassesOwn (model X.prog X.w) X.A X.env X.xe)(hc:X.calm=true)(hi:PI X tg iter wi)(hg:PG X tg g)(hb:vR X body tb)
  (hs:∀x,foldedSetIterable iter X.env x=pure x:=by intro _;rfl):PS X (.For tg iter body [] pos) (NI wi g tb):=by
 intro pins s σ H D I h;refine wpAny_For (thn (hi pins s σ H _ I h) λv s1 h1=>thn h1 λitv s2 h2=>?_) hs;obtain ⟨it,fp,tn,J,H2,e,I2,T,st2,f2,W,⟨m0,w0⟩,turn⟩:=h2;subst e;have stat:∀{H':Hp},(∀b∈fp,H' b=none)->∀b∈fp,fL X pins H' b:=λhn b hb=>⟨hn b hb,(f2 b hb).2⟩;refine codeAny_forLoop_any (λn s'=>∃i σ' H',bG X pins σ' H' s'/\tn i s'.heap/\(∀b∈fp,H' b=none)/\W i n σ' H') ?_ m0 ⟨0,σ,H2,I2,st2,λb hb=>(f2 b hb).1,w0⟩;rintro n s3 ⟨i,σ3,H3,I3,st3,fr3,w3⟩;rcases turn i n σ3 H3 w3 with ⟨stop,qn⟩ | ⟨go,N,hN,step⟩
 ·refine wpAny_passesOwn hp (thn (T.done X rfl rfl rfl hc i pins s3 σ3 H3 X.xe I3 (stat fr3) st3 stop) λr s4 ⟨hr,I4⟩=>?_);subst hr;exact wpAny_execs_nil ⟨σ3,H3,I4,qn⟩
 ·refine wpAny_passesOwn hp (thn (T.item X rfl rfl rfl hc i pins s3 σ3 H3 X.xe I3 (stat fr3) st3 go) λr s4 ⟨u,hr,h4⟩=>?_);subst hr;refine wpAny_passesOwn hp (thn h4 λ_ s5 ⟨x,H5,I5,r5,y5,st5,fr5⟩=>?_);have I5':=I5.pinned (stat fr5) (T.obj _ _ st5);refine wpAny_passesOwn hp (thn (hg _ s5 σ3 H5 x u _ I5' r5 (step x H5 y5)) λ_ s6 ⟨σ6,H6,I6,q6⟩=>?_);refine wpAny_passesOwn hp (thn (hb _ s6 σ6 H6 _ I6 q6) λf s7 q7=>?_);have again:∀{σ7:St} {H7:Hp},bG X (pins++lH fp s5.heap) σ7 H7 s7->N σ7 H7->∃m,m<n/\∃i σ' H',bG X pins σ' H' s7/\tn i s7.heap/\(∀b∈fp,H' b=none)/\W i m σ' H':=λ{σ7 H7} I7 n7=>by
   obtain ⟨m',hm,w7⟩:=hN σ7 H7 n7;refine ⟨m',hm,i+1,σ7,H7,I7.unpinned,T.keep _ _ _ st5 λb hb o e=>(I7.pin (b,o) (aF _ (aF _ (fD hb e)))).1,λb hb=>?_,w7⟩;obtain ⟨o,e,d⟩:=T.obj _ _ st5 b hb;exact (I7.pin (b,o) (aF _ (aF _ (fD hb e)))).2.1
  cases f with
  | next=>obtain ⟨σ7,H7,I7,n7⟩:=q7;exact again I7 n7
  | cont=>obtain ⟨σ7,H7,I7,n7⟩:=q7;exact again I7 n7
  | brk=>obtain ⟨σ7,H7,I7,q7⟩:=q7;exact ⟨σ7,H7,I7.unpinned,q7⟩
  | ret v=>obtain ⟨x7,σ7,H7,I7,r7,q7⟩:=q7;exact ⟨x7,σ7,H7,I7.unpinned,r7,q7⟩
end
theorem nB{K:PySem.W.Frag}{a:Addr}{xs:List V}{g:TG}{tb:TS}{D:mS}{σ:St}{H:Hp}(Pv:Nat->St->Hp->Prop)(h0:Pv 0 σ H)(hl:∀i σ H,i<=xs.length->Pv i σ H->eT K H a xs)
  (hs:∀i x σ H,xs[i]?=some x->Pv i σ H->g x σ H λσ2 H2=>tb { D with nx:=Pv (i+1),ct:=Pv (i+1),bk:=D.nx } σ2 H2) (hd:∀σ H,Pv xs.length σ H->D.nx σ H) :
  ∃W:Nat->Nat->St->Hp->Prop,(∃m,W 0 m σ H)/\∀i m σ H,W i m σ H ->
   ((PM K a).stop i H/\D.nx σ H)\/((PM K a).go i H/\∃N:St->Hp->Prop,(∀σ' H',N σ' H'->∃m',m' < m/\W (i+1) m' σ' H')/\∀x H',(PM K a).yld i H x H'->g x σ H' λσ2 H2=>tb { D with nx:=N,ct:=N,bk:=D.nx } σ2 H2):=by
 refine ⟨λi m σ H=>m=xs.length-i/\i<=xs.length/\Pv i σ H,⟨xs.length,by simp,cC _,h0⟩,?_⟩;rintro i m σ H ⟨rfl,hi,p⟩;have q:=hl i σ H hi p;by_cases hlt:i<xs.length
 ·refine .inr ⟨⟨xs,xs[i],q,by simp [hlt]⟩,Pv (i+1),λσ' H' p'=>⟨xs.length-(i+1),Oo,rfl,hlt,p'⟩,λx H' y=>?_⟩;obtain ⟨e,y⟩:=y;subst e;exact hs i x σ _ (y xs q) p
 ·have e:i=xs.length:=Oo;subst e;exact .inl ⟨⟨xs,q,aC _⟩,hd σ H p⟩
theorem dL{lo:Int}{n:Nat}{g:TG}{tb:TS}{D:mS}{σ:St}{H:Hp}(Pv:Nat->St->Hp->Prop)(h0:Pv 0 σ H)
  (hs:∀i σ H,i<n->Pv i σ H->g (.int (lo+i)) σ H λσ2 H2=>tb { D with nx:=Pv (i+1),ct:=Pv (i+1),bk:=D.nx } σ2 H2) (hd:∀σ H,Pv n σ H->D.nx σ H) :
  ∃W:Nat->Nat->St->Hp->Prop,(∃m,W 0 m σ H)/\∀i m σ H,W i m σ H ->
   ((HK lo n).stop i H/\D.nx σ H)\/((HK lo n).go i H/\∃N:St->Hp->Prop,(∀σ' H',N σ' H'->∃m',m' < m/\W (i+1) m' σ' H')/\∀x H',(HK lo n).yld i H x H'->g x σ H' λσ2 H2=>tb { D with nx:=N,ct:=N,bk:=D.nx } σ2 H2):=by
 refine ⟨λi m σ H=>m=n-i/\i<=n/\Pv i σ H,⟨n,by simp,cC _,h0⟩,?_⟩;rintro i m σ H ⟨rfl,hi,p⟩;by_cases hlt:i<n
 ·refine .inr ⟨hlt,Pv (i+1),λσ' H' p'=>⟨n-(i+1),Oo,rfl,hlt,p'⟩,λx H' y=>?_⟩;obtain ⟨e,y⟩:=y;subst e y;exact hs i σ _ hlt p
 ·have e:i=n:=Oo;subst e;exact .inl ⟨aC _,hd σ H p⟩
abbrev R2:=V->V->Hp->VK->Prop
def mR(X:Cx)(f:Value->Value->Sem Value)(r:R2):Prop :=
 ∀(pins:List (Addr × Obj)) (s:Shared) (σ:St) (H:Hp) (x y:V) (v u:Value) (Q:VK),bG X pins σ H s->cB x v->cB y u->r x y H Q ->
  wpAny (model X.prog X.w) X.A (f v u) (EP X pins σ Q) X.xe s
def eS(X:Cx)(f:Value)(r:List V->Hp->VK->Prop):Prop :=
 ∀(pins:List (Addr × Obj)) (s:Shared) (σ:St) (H:Hp) (xs:List V) (us:List Value) (Q:VK),bG X pins σ H s->bW xs us->r xs H Q ->
  wpAny (model X.prog X.w) X.A (call f us) (EP X pins σ Q) X.xe s
def EY(r:R2)(ta tb:TE):TE:=λσ H Q=>ta σ H λx H1=>tb σ H1 λy H2=>r x y H2 Q
def rI(C:Int->Int->Prop)(g:Int->Int->V):R2:=λx y H Q=>∃i j,x=.int i/\y=.int j/\C i j/\Q (g i j) H
def JV(g:Int->Int->V):R2:=λx y H Q=>∃i j,x=.int i/\y=.int j/\Q (g i j) H
section
variable{X:Cx}{a b c:Expr}{ta tb tc:TE}{pos:Pos}
theorem MF(ha:PE X a ta)(hb:PE X b tb){pins:List (Addr × Obj)}{s:Shared}{σ:St}{H:Hp}{R:V->V->Hp->Prop}(I:bG X pins σ H s)
  (h:ta σ H λx H1=>tb σ H1 λy H2=>R x y H2) {Q:Value->Shared->Prop} {f:Value->Value->Sem Value}
  (hf:∀v u s2 x y H2,bG X pins σ H2 s2->cB x v->cB y u->R x y H2->wpAny (model X.prog X.w) X.A (f v u) Q X.xe s2) :
  wpAny (model X.prog X.w) X.A (eval a X.env) (λv s₁=>wpAny (model X.prog X.w) X.A (eval b X.env) (λu s₂=>wpAny (model X.prog X.w) X.A (f v u) Q X.xe s₂) X.xe s₁) X.xe s:=by
 refine thn (ha pins s σ H _ I h) λv s1 ⟨x,H1,I1,r1,q1⟩=>?_;refine thn (hb pins s1 σ H1 _ I1 q1) λu s2 ⟨y,H2,I2,r2,q2⟩=>?_;exact hf v u s2 x y H2 I2 r1 r2 q2
theorem OB{op:Operator}{r:R2}(ho:mR X (binaryOp op) r)(ha:PE X a ta)(hb:PE X b tb):PE X (.BinOp a op b pos) (EY r ta tb):=by
 intro pins s σ H Q I h;exact wpAny_BinOp (MF ha hb I h λv u s2 x y H2 I2 rx ry q=>ho pins s2 σ H2 x y v u Q I2 rx ry q)
theorem PY{f:Value->Value->Sem Value}{C:Int->Int->Prop}{g:Int->Int->Int}
  (rule:∀(i j:Int) (t u:Tok) (s:Shared) (Q:Value->Shared->Prop) (E:Value->Shared->Prop),C i j->Q (.int (g i j) s.toks) { s with toks:=s.toks+1 }->wpAny (model X.prog X.w) X.A (f (.int i t) (.int j u)) Q E s) :
  mR X f (rI C λi j=>.int (g i j)):=by
 intro pins s σ H x y v u Q I rx ry h;obtain ⟨i,j,rfl,rfl,hc,q⟩:=h;obtain ⟨t,rfl⟩:=rx;obtain ⟨t',rfl⟩:=ry;exact rule i j t t' s _ _ hc ⟨.int (g i j),H,I.tok _,⟨_,rfl⟩,q⟩
theorem OI{f:Value->Value->Sem Value}{g:Int->Int->Int}
  (rule:∀(i j:Int) (t u:Tok) (s:Shared) (Q:Value->Shared->Prop) (E:Value->Shared->Prop),Q (.int (g i j) s.toks) { s with toks:=s.toks+1 }->wpAny (model X.prog X.w) X.A (f (.int i t) (.int j u)) Q E s) :
  mR X f (JV λi j=>.int (g i j)):=by
 intro pins s σ H x y v u Q I rx ry h;obtain ⟨i,j,rfl,rfl,q⟩:=h;obtain ⟨t,rfl⟩:=rx;obtain ⟨t',rfl⟩:=ry;exact rule i j t t' s _ _ ⟨.int (g i j),H,I.tok _,⟨_,rfl⟩,q⟩
theorem KU{f:Value->Value->Sem Value}{g:Int->Int->Bool}
  (rule:∀(i j:Int) (t u:Tok) (s:Shared) (Q:Value->Shared->Prop) (E:Value->Shared->Prop),Q (.bool (g i j)) s->wpAny (model X.prog X.w) X.A (f (.int i t) (.int j u)) Q E s) :
  mR X f (JV λi j=>.bl (g i j)):=by
 intro pins s σ H x y v u Q I rx ry h;obtain ⟨i,j,rfl,rfl,q⟩:=h;obtain ⟨t,rfl⟩:=rx;obtain ⟨t',rfl⟩:=ry;exact rule i j t t' s _ _ ⟨.bl (g i j),H,I,rfl,q⟩
def RX(i j:Int):Prop:=0<=j/\j<=1000000/\i.natAbs<2^64
theorem dU:mR X (binaryOp .Add) (JV λi j=>.int (i+j)):=OI λ_ _ _ _ _ _ _ q=>add_int q
theorem CH:mR X (binaryOp .Sub) (JV λi j=>.int (i-j)):=OI λ_ _ _ _ _ _ _ q=>sub_int q
theorem fU:mR X (binaryOp .Mod) (rI (λ_ j=>0<j) λi j=>.int (i % j)):=PY λi j _ _ _ _ _ hc q=>by
 have h1:(0:Int)<j:=hc;exact mod_int' Oo (by rw [Int.fmod_eq_emod_of_nonneg i Oo];exact q)
theorem KR:mR X (binaryOp .Pow) (rI RX λi j=>.int (i^j.toNat)):=PY λ_ _ _ _ _ _ _ hc q=>pow_int_small hc.1 hc.2.1 hc.2.2 q
end
def scal:V->V->Bool
 | .non,.non=>true | .non,.int _=>true | .int _,.non=>true | .non,.bl _=>true | .bl _,.non=>true | .non,.str _=>true | .str _,.non=>true
 | .int _,.int _=>true | .bl _,.bl _=>true | .str _,.str _=>true | .byt _,.byt _=>true
 | .int _,.str _=>true | .str _,.int _=>true | .bl _,.str _=>true | .str _,.bl _=>true
 | _,_=>false
def SS:R2:=λx y H Q=>scal x y=true/\Q (.bl (decide (x=y))) H
def SQ:R2:=λx y H Q=>scal x y=true/\Q (.bl (!decide (x=y))) H
theorem nC{i j:Int}:decide (V.int i=V.int j)=(i == j):=by
 rw [Bool.eq_iff_iff];simp
theorem DN{i j:Bool}:decide (V.bl i=V.bl j)=(i == j):=by
 rw [Bool.eq_iff_iff];simp
theorem xS{i j:Str}:decide (V.str i=V.str j)=(i == j):=by
 rw [Bool.eq_iff_iff];simp
theorem xT{i j:Array UInt8}:decide (V.byt i=V.byt j)=(i.toList == j.toList):=by
 rw [Bool.eq_iff_iff];cases i;cases j;simp
section
variable{X:Cx}{a b c:Expr}{ta tb tc:TE}{pos:Pos}
theorem cO{pins:List (Addr × Obj)}{σ:St}{H:Hp}{s:Shared}{Q:VK}{k k':Bool}(I:bG X pins σ H s)(q:Q (.bl k) H)(e:k=k'):EP X pins σ Q (.bool k') s:=by
 subst e;exact ⟨.bl k,H,I,rfl,q⟩
theorem sQ:mR X (compareOp .Eq) SS:=by
 intro pins s σ H x y v u Q I rx ry h;obtain ⟨hs,q⟩:=h;cases x with
 | non =>
  cases rx;cases y with
  | non=>cases ry;exact PySem.EqNone.eq_none_none (cO I q (by simp))
  | bl j=>cases ry;exact PySem.EqNone.eq_none_bool (cO I q (by simp))
  | int j=>obtain ⟨t',rfl⟩:=ry;exact PySem.EqNone.eq_none_int (cO I q (by simp))
  | str j=>obtain ⟨t',rfl⟩:=ry;exact PySem.EqNone.eq_none_str (cO I q (by simp))
  | _=>exact absurd (show false=true from hs) aS
 | bl i =>
  cases rx;cases y with
  | non=>cases ry;exact PySem.EqNone.eq_bool_none (cO I q (by simp))
  | bl j=>cases ry;exact eq_bool (cO I q DN)
  | str j=>obtain ⟨t',rfl⟩:=ry;exact PySem.EqMixed.eq_bool_str (cO I q (by simp))
  | _=>exact absurd (show false=true from hs) aS
 | int i =>
  obtain ⟨t,rfl⟩:=rx;cases y with
  | non=>cases ry;exact PySem.EqNone.eq_int_none (cO I q (by simp))
  | int j=>obtain ⟨t',rfl⟩:=ry;exact eq_int (cO I q nC)
  | str j=>obtain ⟨t',rfl⟩:=ry;exact PySem.EqMixed.eq_int_str (cO I q (by simp))
  | _=>exact absurd (show false=true from hs) aS
 | str i =>
  obtain ⟨t,rfl⟩:=rx;cases y with
  | non=>cases ry;exact PySem.EqNone.eq_str_none (cO I q (by simp))
  | bl j=>cases ry;exact PySem.EqMixed.eq_str_bool (cO I q (by simp))
  | int j=>obtain ⟨t',rfl⟩:=ry;exact PySem.EqMixed.eq_str_int (cO I q (by simp))
  | str j=>obtain ⟨t',rfl⟩:=ry;exact eq_str (cO I q xS)
  | _=>exact absurd (show false=true from hs) aS
 | byt i =>
  obtain ⟨t,rfl⟩:=rx;cases y with
  | byt j=>obtain ⟨t',rfl⟩:=ry;exact PySem.W.eq_bytes (cO I q xT)
  | _=>exact absurd (show false=true from hs) aS
 | _=>cases y <;> exact absurd (show false=true from hs) aS
theorem pL:mR X (compareOp .NotEq) SQ:=by
 intro pins s σ H x y v u Q I rx ry h;obtain ⟨hs,q⟩:=h;cases x with
 | non =>
  cases rx;cases y with
  | non=>cases ry;exact PySem.EqNone.ne_none_none (cO I q (by simp))
  | bl j=>cases ry;exact PySem.EqNone.ne_none_bool (cO I q (by simp))
  | int j=>obtain ⟨t',rfl⟩:=ry;exact PySem.EqNone.ne_none_int (cO I q (by simp))
  | str j=>obtain ⟨t',rfl⟩:=ry;exact PySem.EqNone.ne_none_str (cO I q (by simp))
  | _=>exact absurd (show false=true from hs) aS
 | bl i =>
  cases rx;cases y with
  | non=>cases ry;exact PySem.EqNone.ne_bool_none (cO I q (by simp))
  | bl j=>cases ry;exact ne_bool (cO I q (congrArg not DN))
  | str j=>obtain ⟨t',rfl⟩:=ry;exact PySem.EqMixed.ne_bool_str (cO I q (by simp))
  | _=>exact absurd (show false=true from hs) aS
 | int i =>
  obtain ⟨t,rfl⟩:=rx;cases y with
  | non=>cases ry;exact PySem.EqNone.ne_int_none (cO I q (by simp))
  | int j=>obtain ⟨t',rfl⟩:=ry;exact ne_int (cO I q (congrArg not nC))
  | str j=>obtain ⟨t',rfl⟩:=ry;exact PySem.EqMixed.ne_int_str (cO I q (by simp))
  | _=>exact absurd (show false=true from hs) aS
 | str i =>
  obtain ⟨t,rfl⟩:=rx;cases y with
  | non=>cases ry;exact PySem.EqNone.ne_str_none (cO I q (by simp))
  | bl j=>cases ry;exact PySem.EqMixed.ne_str_bool (cO I q (by simp))
  | int j=>obtain ⟨t',rfl⟩:=ry;exact PySem.EqMixed.ne_str_int (cO I q (by simp))
  | str j=>obtain ⟨t',rfl⟩:=ry;exact ne_str (cO I q (congrArg not xS))
  | _=>exact absurd (show false=true from hs) aS
 | byt i =>
  obtain ⟨t,rfl⟩:=rx;cases y with
  | byt j=>obtain ⟨t',rfl⟩:=ry;exact PySem.W.ne_bytes (cO I q (congrArg not xT))
  | _=>exact absurd (show false=true from hs) aS
 | _=>cases y <;> exact absurd (show false=true from hs) aS
theorem OG:mR X (compareOp .Lt) (JV λi j=>.bl (decide (i<j))):=KU λ_ _ _ _ _ _ _ q=>lt_int q
theorem IA:mR X (compareOp .Gt) (JV λi j=>.bl (decide (j<i))):=KU λ_ _ _ _ _ _ _ q=>gt_int q
theorem OH:mR X (compareOp .GtE) (JV λi j=>.bl (decide (j<=i))):=KU λ_ _ _ _ _ _ _ q=>ge_int q
theorem nomark(b:Expr){op:CmpOp}(h:op ≠ .In:=by decide)(h2:op ≠ .NotIn:=by decide):behindInMarks op b=false:=by
 have e1:(op == CmpOp.In)=false:=by cases op <;> first | rfl | exact absurd rfl h
 have e2:(op == CmpOp.NotIn)=false:=by cases op <;> first | rfl | exact absurd rfl h2
 cases b <;> simp [behindInMarks,e1,e2]
theorem FZ{op:CmpOp}{r:R2}(ho:mR X (compareOp op) r)(ha:PE X a ta)(hb:PE X b tb)(hm:behindInMarks op b=false):PE X (.Compare a [op] [b] pos) (EY r ta tb):=by
 intro pins s σ H Q I h;exact wpAny_Compare1 (MF ha hb I h λv u s2 x y H2 I2 rx ry q=>ho pins s2 σ H2 x y v u Q I2 rx ry q) hm
def HN(t:TE):TT:=λσ H Q=>t σ H λx H'=>∃k,x=.bl k/\Q k H'
theorem FO{op:CmpOp}{r:R2}(ho:mR X (compareOp op) r)(ha:PE X a ta)(hb:PE X b tb)(hm:behindInMarks op b=false):PT X (.Compare a [op] [b] pos) (HN (EY r ta tb)):=by
 intro pins s σ H Q I h;refine wpAny_isTrue_Compare1 (thn (ha pins s σ H _ I h) λv s1 ⟨x,H1,I1,r1,q1⟩=>thn (hb pins s1 σ H1 _ I1 q1) λu s2 ⟨y,H2,I2,r2,q2⟩ =>
  thn (ho pins s2 σ H2 x y v u _ I2 r1 r2 q2) λc s3 ⟨z,H3,I3,r3,k,e,q3⟩=>?_) hm
 subst e;cases r3;exact wpAny_truthy_bool ⟨H3,I3,q3⟩
theorem oC:(sizeLine:Nat)<2^63:=by rw [sizeLine_eq];decide
theorem iA{x:V}{us:List Value}(r:bW [x] us):∃u,us=[u]/\cB x u:=by
 cases r with
 | cons r1 r2=>cases r2;exact ⟨_,rfl,r1⟩
theorem NB{x y:V}{us:List Value}(r:bW [x,y] us):∃u w',us=[u,w']/\cB x u/\cB y w':=by
 cases r with
 | cons r1 r2 =>
  cases r2 with
  | cons r3 r4=>cases r4;exact ⟨_,_,rfl,r1,r3⟩
theorem DU:eS X (.builtin "abs") (λxs H Q=>∃i,xs=[.int i]/\Q (.int (if i<0 then -i else i)) H):=by
 intro pins s σ H xs us Q I r h;obtain ⟨i,rfl,q⟩:=h;obtain ⟨u,rfl,t,rfl⟩:=iA r;exact call_abs_int λu tk=>⟨.int (if i<0 then -i else i),H,I.tok _,⟨_,rfl⟩,q⟩
theorem AD:eS X (.type "int") (λxs H Q=>(∃i,xs=[.int i]/\Q (.int i) H)\/∃k,xs=[.bl k]/\Q (.int (if k then 1 else 0)) H):=by
 intro pins s σ H xs us Q I r h;rcases h with ⟨i,rfl,q⟩ | ⟨k,rfl,q⟩
 ·obtain ⟨u,rfl,t,rfl⟩:=iA r;exact call_int_int ⟨.int i,H,I,⟨_,rfl⟩,q⟩
 ·obtain ⟨u,rfl,r1⟩:=iA r;cases r1;exact call_int_bool ⟨.int (if k then 1 else 0),H,I.tok _,⟨_,rfl⟩,q⟩
def PJ(K:PySem.W.Frag)(x:V)(H:Hp)(n:Nat):Prop :=
 match x with
 | .str y=>y.length<=sizeLine/\n=y.length
 | .byt y=>y.size<=sizeLine/\n=y.size
 | .ref p=>(∃xs,fA K H p xs/\n=xs.length)\/∃xs,eT K H p xs/\n=xs.length
 | _=>False
theorem DT:eS X (.builtin "len") (λxs H Q=>∃x n,xs=[x]/\PJ X.K x H n/\Q (.int n) H):=by
 intro pins s σ H xs us Q I r h;obtain ⟨x,n,rfl,e,q⟩:=h;obtain ⟨u,rfl,rx⟩:=iA r;have hl:=oC;have hs:sizeLine=16777216:=sizeLine_eq;cases x with
 | str y =>
  obtain ⟨t,rfl⟩:=rx;obtain ⟨hy,e'⟩:y.length<=sizeLine/\n=y.length:=e;subst e';exact len_str Oo ⟨.int _,H,I.tok _,⟨_,rfl⟩,q⟩
 | byt y =>
  obtain ⟨t,rfl⟩:=rx;obtain ⟨hy,e'⟩:y.size<=sizeLine/\n=y.size:=e;subst e';exact PySem.W.len_bytes Oo ⟨.int _,H,I.tok _,⟨_,rfl⟩,q⟩
 | ref p =>
  cases rx;have e':(∃xs,fA X.K H p xs/\n=xs.length)\/∃xs,eT X.K H p xs/\n=xs.length:=e;rcases e' with ⟨xs,hx,e'⟩ | ⟨xs,hx,e'⟩
  ·subst e';obtain ⟨its,r',pl,hz⟩:=I.list hx;have hlen:=r'.length;exact Calls.call_len_list pl.isList (by simp only [aI];omega) ⟨.int xs.length,H,I.tok _,⟨_,by simp only [aI];rw [hlen]⟩,q⟩
  ·subst e';obtain ⟨its,r',pl,hz⟩:=I.tuple hx;have hlen:=r'.length;exact len_tuple pl (by simp only [aI];omega) ⟨.int xs.length,H,I.tok _,⟨_,by simp only [aI];rw [hlen]⟩,q⟩
 | _=>exact (show False from e).elim
end
structure MM(h:Heap)(x dx C:Addr)(mA:Str->Option Value):Prop where
 obj:h.get? x=some (PySem.W.instObj C dx)
 ns:h.Ns1 dx mA
 ne:dx≠x
theorem zK{h:Heap}{dx:Addr}{mA:Str->Option Value}(n:h.Ns1 dx mA):∃od,h.get? dx=some od/\∀name,PySem.W.lookIn name od=some (mA name):=by
 obtain ⟨o,es,ep,ho,hd,hk,_,hm⟩:=n;refine ⟨o,ho,λname=>?_⟩;have e:=hm name;unfold nsFind findBy at e;rw [<-Array.find?_toList] at e;unfold PySem.W.lookIn;rw [hd];dsimp only;split
 ·rename_i y q
  rw [q] at e;exact congrArg some e
 ·rename_i q
  rw [q] at e;have a:es.toList.any (·.refKey)=false:=by
   rw [List.any_eq_false];intro y hy;obtain ⟨z,t,hkey⟩:=hk y (Array.mem_toList_iff.mp hy);simp [DictEntry.refKey,hkey]
  have a':¬es.toList.any (·.refKey)=true:=by rw [a];exact aS
  rw [if_neg a'];exact congrArg some e
theorem MM.look{h:Heap}{x dx C:Addr}{mA:Str->Option Value}(I:MM h x dx C mA):∃od,PySem.W.InstAt h x (PySem.W.instObj C dx) C (some od)/\∀name,PySem.W.lookIn name od=some (mA name) :=
 let ⟨od,ho,hl⟩:=zK I.ns
 ⟨od,⟨I.obj,rfl,rfl,ho⟩,hl⟩
section
variable{prog:Program}{w:World}{A:Around}{E:Value->Shared->Prop}{s:Shared}{K:PySem.W.Frag}{x dx C f:Addr}{mA:Str->Option Value}{name:Str}{v:Value}
end
theorem lZ.some_of{v:V}{o:Option Value}(r:lZ (some v) o):∃u,o=some u/\cB v u:=by
 cases o with
 | none=>exact (show False from r).elim
 | some u=>exact ⟨u,rfl,r⟩
section
variable{P:Program}{w:World}{H H':Hp}{h h':Heap}{a C dx:Addr}{fs fs':List (Str × V)}
theorem GQ(hok:iC P w H h)(e:H a=some (.ins C dx fs)):∃mA,MM h a dx C mA/\(∀f,lZ (fs.lookup f) (mA f))/\PySem.Within mA (fs.map (·.1))/\fs.length<=1000/\H dx=some (.own a):=by
 obtain ⟨d,z,ne,ob,mA,n,r,q⟩:=(show cQ P w H h a (.ins C dx fs) from hok a _ e);exact ⟨mA,⟨ob,n,ne⟩,r,q,z,d⟩
end
structure RW(K:PySem.W.Frag)(C:Addr):Prop where
 pg:PySem.W.plainGet K C Str.empty=true
 hd:PySem.W.hasDictIn K C=true
 po:PySem.W.plainOver K C=true
 sa:PySem.W.findIn K (.ref C) "__setattr__" = some (some (.builtin "object.__setattr__"))
theorem RW.get{K:PySem.W.Frag}{C:Addr}(c:RW K C)(f:Str):PySem.W.plainGet K C f=true:=c.pg
section
variable{X:Cx}{pins:List (Addr × Obj)}{σ:St}{H:Hp}{s:Shared}{a C dx:Addr}{fs:List (Str × V)}{f:Str}{v:V}{A:Around}{E:Value->Shared->Prop}
end
section
variable{X:Cx}{o e value:Expr}{f:Str}{pos pos' tpos:Pos}{ta tv:TE}
end
section
variable{X:Cx}{pins:List (Addr × Obj)}{σ:St}{H:Hp}{s:Shared}{A:Around}{E:Value->Shared->Prop}{Q:Value->Shared->Prop}{c:Value}{b:Bool}
inductive lY (K:PySem.W.Frag) (H:Hp):V->Value->Prop where
 | non:lY K H .non (.type "NoneType")
 | bl (x:Bool):lY K H (.bl x) (.type "bool")
 | int (i:Int):lY K H (.int i) (.type "int")
 | str (x:Str):lY K H (.str x) (.type "str")
 | flt (x:UInt64):lY K H (.flt x) (.type "float")
 | lst {a:Addr} {xs:List V} (e:H a=some (.lst xs)):lY K H (.ref a) (.type "list")
 | frz {a:Addr} {o:Obj} {xs:List V} (e:H a=some (.frz o (.lst xs))):lY K H (.ref a) (.type "list")
 | tup {a:Addr} {xs:List V} (e:H a=some (.tup xs)):lY K H (.ref a) (.type "tuple")
 | dK {a:Addr} {kvs:List (dJ × V)} (e:H a=some (.dK kvs)):lY K H (.ref a) (.type "dict")
 | dT {a:Addr} {kvs:List (List dJ × V)} (e:H a=some (.dT kvs)):lY K H (.ref a) (.type "dict")
 | ins {a C dx:Addr} {fs:List (Str × V)} (e:H a=some (.ins C dx fs)) (cl:RW K C) (ha:PySem.W.findIn K (.ref C) "__class__" = some (some (.builtin "object.__class__")))
   (hn:PySem.W.specialIn K (.builtin "object.__class__") "__get__" = some (some (.builtin "getset_descriptor.__get__"))) (htk:PySem.W.takesIn K (.builtin "object.__class__")=some true)
   (hm:PySem.W.mroIn K C (.type "object")=some true):lY K H (.ref a) (.ref C)
theorem zR{x:V}{u t:Value}(I:bG X pins σ H s)(rx:cB x u)(ty:lY X.K H x t)(e:PySem.W.kitOne X.K t c=some b)(h:∀tk,Q (.bool b) { s with toks:=tk }) :
  wpAny (model X.prog X.w) A (call (.builtin "isinstance") [u,c]) Q E s:=by
 cases ty with
 | non=>cases (show u=Value.none from rx);exact PySem.W.kia_one PySem.W.kitx_none I.kIn True.intro e (λz=>nomatch z) h
 | bl y=>cases (show u=Value.bool y from rx);exact PySem.W.kia_one PySem.W.kitx_bool I.kIn True.intro e (λz=>nomatch z) h
 | int i=>obtain ⟨t,q⟩:=(show ∃t,u=Value.int i t from rx);cases q;exact PySem.W.kia_one PySem.W.kitx_int I.kIn True.intro e (λz=>nomatch z) h
 | str y=>obtain ⟨t,q⟩:=(show ∃t,u=Value.str y t from rx);cases q;exact PySem.W.kia_one PySem.W.kitx_str I.kIn True.intro e (λz=>nomatch z) h
 | flt y=>obtain ⟨t,q⟩:=(show ∃t,u=Value.float y t from rx);cases q;exact PySem.W.kia_one PySem.W.kitx_float I.kIn True.intro e (λz=>nomatch z) h
 | @lst a xs ea =>
  cases (show u=Value.ref a from rx);obtain ⟨_,_,n,_,h1⟩:=(show cQ X.prog X.w H s.heap a (.lst xs) from I.hok a _ ea);exact PySem.W.kia_one PySem.W.kitx_list I.kIn ⟨_,h1,rfl⟩ e (λz=>nomatch z) h
 | @frz a ob xs ea =>
  cases (show u=Value.ref a from rx);obtain ⟨_,_,_,n,_,h1⟩:=(show cQ X.prog X.w H s.heap a (.frz ob (.lst xs)) from I.hok a _ ea);exact PySem.W.kia_one PySem.W.kitx_list I.kIn ⟨_,h1,rfl⟩ e (λz=>nomatch z) h
 | @tup a xs ea =>
  cases (show u=Value.ref a from rx);obtain ⟨_,_,_,p⟩:=(show cQ X.prog X.w H s.heap a (.tup xs) from I.hok a _ ea);obtain ⟨o,h1,h2,_⟩:=p;exact PySem.W.kia_one PySem.W.kitx_tuple I.kIn ⟨o,h1,h2⟩ e (λz=>nomatch z) h
 | @dK a kvs ea =>
  cases (show u=Value.ref a from rx);obtain ⟨_,_,vs,_,p⟩:=(show cQ X.prog X.w H s.heap a (.dK kvs) from I.hok a _ ea);obtain ⟨o,es,ep,h1,h2,_⟩:=p;exact PySem.W.kia_one PySem.W.kitx_dict I.kIn ⟨o,h1,h2.1⟩ e (λz=>nomatch z) h
 | @dT a kvs ea =>
  cases (show u=Value.ref a from rx);obtain ⟨_,_,xs,_,o,es,ep,h1,h2,_⟩:=(show cQ X.prog X.w H s.heap a (.dT kvs) from I.hok a _ ea);exact PySem.W.kia_one PySem.W.kitx_dict I.kIn ⟨o,h1,h2.1⟩ e (λz=>nomatch z) h
 | @ins a C dx fs ea cl ha hn htk hm =>
  cases (show u=Value.ref a from rx);obtain ⟨mA,O,_⟩:=GQ I.hok ea;obtain ⟨od,J,_⟩:=O.look;exact PySem.W.kia_one (PySem.W.kitx_own (cl.get _) cl.hd ha hn htk hm) I.kIn J e (λz=>nomatch z) h
end
structure eR(k:Nat)(A:Around):Prop where
 hd:A.handled=none
 dp:A.depth+3*k+5<recursionLimit
 un:A.units+16*k+200<cLine
 gd:A.guards=some []
theorem eR.mono{j k:Nat}{A:Around}(r:eR k A)(h:j<=k):eR j A:=⟨r.hd,by have:=r.dp;omega,by have:=r.un;omega,r.gd⟩
theorem eR.deeper{k:Nat}{A:Around}(r:eR (k+1) A)(env:Env):eR k (A.deeper env) :=
 ⟨r.hd,by have:=r.dp;show A.depth+1+3*k+5<_;omega,by have:=r.un;show A.units+3+16*k+200<_;omega,r.gd⟩
theorem eR.in1{k:Nat}{A:Around}(r:eR (k+1) A):eR k A.in1 :=
 ⟨r.hd,by have:=r.dp;show A.depth+3*k+5<_;omega,by have:=r.un;show A.units+1+16*k+200<_;omega,r.gd⟩
theorem eR.depth{k:Nat}{A:Around}(r:eR k A):A.depth<recursionLimit:=by have:=r.dp;omega
theorem eR.units{k:Nat}{A:Around}(r:eR k A):A.units+64<cLine:=by have:=r.un;omega
def NG:TA:=λ_ H Q=>Q [] H
def HU(ta:TE)(tr:TA):TA:=λσ H Q=>ta σ H λx H1=>tr σ H1 λxs H2=>Q (x::xs) H2
section
variable{X:Cx}{e:Expr}{es:List Expr}{te:TE}{t:TA}{pos:Pos}
theorem pa_nil:PA X [] NG:=λ_ _ _ _ H Q I h=>Calls.spliced_nil ⟨[],H,I,.nil,h⟩
theorem GD(ha:PE X e te)(hr:PA X es t)(hs:starEach (e::es) X.env=(false,eval e X.env)::starEach es X.env:=by rfl):PA X (e::es) (HU te t):=by
 intro pos pins s σ H Q I h;rw [hs];show wpAny _ _ (spliced ((false,eval e X.env)::backTo pos (starEach es X.env))) _ _ s;refine Calls.spliced_cons (thn (ha pins s σ H _ I h) λu s1 ⟨x,H1,I1,r1,q1⟩=>?_);exact thn (hr pos pins s1 σ H1 _ I1 q1) λus s2 ⟨xs,H2,I2,r2,q2⟩=>⟨x::xs,H2,I2,.cons r1 r2,q2⟩
def QH(t:TA):TE:=λσ H Q=>t σ H λxs H1=>xs.length<=sizeLine/\∀p,H1 p=none->Q (.ref p) (upd H1 p (.tup xs))
def QI(t:TA):TE:=λσ H Q=>t σ H λxs H1=>xs.length<=sizeLine/\∀p,H1 p=none->Q (.ref p) (upd H1 p (.lst xs))
theorem KN{x1}(h:PA X es t):PE X (.Tuple es x1 pos) (QH t):=by
 intro pins s σ H Q I hq;refine wpAny_Tuple_spliced (thn (h pos pins s σ H _ I hq) λus s1 ⟨xs,H1,I1,r,z,q⟩=>⟨by rw [<-r.length];exact z,?_⟩);have hf:H1 s1.heap.objs.size=none:=I1.hok.fresh (aC _);refine ⟨.ref s1.heap.objs.size,upd H1 s1.heap.objs.size (.tup xs),I1.laid (t':=s1.toks) (λb u e=>aA _ e) (aC _) ?_,rfl,q _ hf⟩;exact ⟨⟨z,_,aK _ rfl,rfl⟩,us,r,⟨_,aK _ rfl,rfl,_,rfl⟩⟩
theorem KO(h:PA X es t):PE X (.List es pos) (QI t):=by
 intro pins s σ H Q I hq;refine wpAny_List_spliced (thn (h pos pins s σ H _ I hq) λus s1 ⟨xs,H1,I1,r,z,q⟩=>⟨by rw [<-r.length];exact z,?_⟩);have hf:H1 s1.heap.objs.size=none:=I1.hok.fresh (aC _);refine ⟨.ref s1.heap.objs.size,upd H1 s1.heap.objs.size (.lst xs),I1.laid (t':=s1.toks) (λb u e=>aA _ e) (aC _) ?_,rfl,q _ hf⟩;exact ⟨z,us,0,r,aK _ rfl⟩
end
abbrev Sp:=List V->Hp->VK->XK->Prop
abbrev AN:=List Env->Hp->Shared->XK->Value->Shared->Prop
structure uC(P:Program)(w:World)(K:PySem.W.Frag)(mg:Str->Option Value)(base:Heap)(A:Around)(outer:List Env)(s:Shared)(H:Hp):Prop where
 frames:A.frames=some outer
 mod:EB K mg base
 bs:∀b o,base.get? b=some o->s.heap.get? b=some o/\H b=none
 bsz:base.objs.size<=s.heap.objs.size
 funs:s.heap.FunFrames base outer
 frf:∀b∈frs outer,H b=none
 hok:iC P w H s.heap
 bare:AllBare s.gens
def CE(outer:List Env)(P:Program)(w:World)(H:Hp)(s:Shared)(Q:VK)(u:Value)(s':Shared):Prop :=
 ∃v H',s'.os=s.os/\AllBare s'.gens/\Un (frs outer) [] H H' s.heap s'.heap/\iC P w H' s'.heap/\cB v u/\Q v H'
def CR(CX:AN)(outer:List Env)(P:Program)(w:World)(H:Hp)(s:Shared)(Q:VK)(E:XK)(r:Result)(s':Shared):Prop :=
 match r with
 | .ok (.ret u)=>CE outer P w H s Q u s'
 | .ok _=>False
 | .error e=>CX outer H s E e s'
structure dW(P:Program)(w:World)(K:PySem.W.Frag)(mg:Str->Option Value)(base:Heap)(CX:AN)(k:Nat)(f:Addr)(fd:FuncData)(ps:List Str)(sp:Sp):Prop where
 len:∀vs H Q E,sp vs H Q E->vs.length=ps.length
 run:∀(A:Around) (outer:List Env) (s:Shared) (H:Hp) (args:Args) (us:List Value) (vs:List V) (Q:VK) (E:XK),eR k A->uC P w K mg base A outer s H->BindsTo s fd args (ps.zip us)->bW vs us->sp vs H Q E ->
  codeAny (model P w) A (.call (.ref f) args) (CR CX outer P w H s Q E) s
theorem uC.in1{P:Program}{w:World}{K:PySem.W.Frag}{mg:Str->Option Value}{base:Heap}{A:Around}{outer:List Env}{s:Shared}{H:Hp}(e:uC P w K mg base A outer s H) :
  uC P w K mg base A.in1 outer s H:=⟨e.frames,e.mod,e.bs,e.bsz,e.funs,e.frf,e.hok,e.bare⟩
section
variable{X:Cx}{pins:List (Addr × Obj)}{σ:St}{H:Hp}{s s':Shared}
theorem bG.env0(I:bG X pins σ H s):uC X.prog X.w X.K X.mg X.base X.A X.stack s H :=
 ⟨I.ok.frames,I.ok.mod,I.bs,aU I.ok.bsz I.sz,I.stack,I.stkFree,I.hok,I.bare⟩
theorem bG.after{Q:VK}{u:Value}(I:bG X pins σ H s)(h:CE X.stack X.prog X.w H s Q u s'):EP X pins σ Q u s':=by
 obtain ⟨v,H',os,bare,un,hok,r,q⟩:=h;obtain ⟨hh,g,d,t,os'⟩:=s';obtain rfl:os'=s.os:=os;exact ⟨v,H',I.call (h':=hh) (g':=g) (d':=d) (t':=t) (ch:=[]) un hok bare (λb z=>absurd z (by simp)),r,q⟩
end
def BH(sp:Sp)(dvs:List V)(E:XK)(t:TA):TE:=λσ H Q=>t σ H λvs H1=>sp (vs++dvs) H1 Q E
def kR(K:PySem.W.Frag)(fd:FuncData)(ps:List Str)(ds:List Value):Prop :=
 ∀(s:Shared) (us:List Value),K.In s.heap->(us++ds).length=ps.length->BindsTo s fd ⟨us,[]⟩ (ps.zip (us++ds))
theorem kR.all{K:PySem.W.Frag}{fd:FuncData}{ps:List Str}(h:∀us:List Value,us.length=ps.length->bindArgs fd ⟨us,[]⟩=pure (ps.zip us)):kR K fd ps []:=λs us _ hl=>by
 rw [List.append_nil] at hl ⊢;exact .of_eq (h us hl)
def vQ(CX:AN)(X:Cx)(E:XK):Prop:=∀(pins:List (Addr × Obj)) (σ:St) (H:Hp) (s:Shared) (e:Value) (s':Shared),bG X pins σ H s->CX X.stack H s E e s'->X.xe e s'
section
variable{X:Cx}{CX:AN}{k:Nat}{f C:Addr}{fd:FuncData}{ps:List Str}{sp:Sp}{dvs:List V}{ds:List Value}{E:XK}{x m:Str}{p pos apos:Pos}{e o:Expr}{es:List Expr}{ta:TE}{t:TA}
theorem JQ{pins:List (Addr × Obj)}{σ:St}{H:Hp}{s:Shared}{Q:VK}{us:List Value}{vs:List V}(F:dW X.prog X.w X.K X.mg X.base CX k f fd ps sp)(hr:eR k X.A)(hb:kR X.K fd ps ds)(hd:bW dvs ds)(hx:vQ CX X E)
  (I:bG X pins σ H s) (r:bW vs us) (h:sp (vs++dvs) H Q E):wpAny (model X.prog X.w) X.A (call (.ref f) us) (EP X pins σ Q) X.xe s:=by
 have r2:bW (vs++dvs) (us++ds):=r.append hd;have hl:(us++ds).length=ps.length:=by rw [<-r2.length];exact F.len _ _ _ _ h
 refine wpAny_call (codeAny_mono (F.run X.A X.stack s H ⟨us,[]⟩ (us++ds) (vs++dvs) Q E hr I.env0 (hb s us I.kIn hl) r2 h) λr s' hq=>?_);cases r with
 | error e=>exact hx pins σ H s e s' I hq
 | ok fl =>
  cases fl with
  | ret u=>exact I.after hq
  | next=>exact False.elim hq
  | brk=>exact False.elim hq
  | cont=>exact False.elim hq
theorem GA(F:dW X.prog X.w X.K X.mg X.base CX k f fd ps sp)(hr:eR k X.A)(hg:Gl X x)(hm:X.mg x=some (.ref f))(hk:PySem.W.keepIn X.K (.ref f)=true)(hb:kR X.K fd ps ds)(hd:bW dvs ds)(hx:vQ CX X E)
  (ha:PA X (e::es) t) (hdb:(x == ("__debug__" : Str))=false:=by decide) (he:starEach (e::es) X.env=(false,eval e X.env)::starEach es X.env:=by rfl) (hpl:(backTo pos (starEach es X.env)).any (·.1)=false:=by rfl) :
  PE X (.Call (.Name x p) (e::es) [] pos) (BH sp dvs E t):=by
 intro pins s σ H Q I h;refine wpAny_Call_Name_kw (xA I hg hm ?_ hdb);refine PySem.W.callWith_K (h₀:=X.base) I.ok.mod.kin hk (thn (ha pos pins s σ H _ I h) λus s1 ⟨vs,H1,I1,r,q⟩=>⟨I1.kIn,?_⟩) he hpl;exact JQ F hr hb hd hx I1 r q
end
section
variable{X:Cx}{CX:AN}{k:Nat}{f C:Addr}{fd:FuncData}{ps ks:List Str}{sp:Sp}{E:XK}{x m:Str}{p pos apos kpos:Pos}{e o:Expr}{es:List Expr}{kws:List Keyword}{te ta:TE}{t tk:TA}{nm:Option Str}
variable{g:List Value->List Value->List Value}{gV:List V->List V->List V}
end
structure cJ(N P:List Str)(sc:Scope):Prop where
 kind:sc.kind=.function
 co:sc.isCoroutine=false
 gen:sc.isGenerator=false
 nd:N.Nodup
 pre:N.take P.length=P
 par:∀x∈P,sc.names.lookup x=some .local\/sc.names.lookup x=some .cell
 nofree:∀y∈sc.names,y.2 ≠ .free
theorem pW{kindOf:Str->Option NameKind}{x:Str}:∀{binds:List (Str × Value)}{m:Str->Option Value},(∀v,(x,v) ∉ binds)->bindL kindOf binds m x=m x
 | [],_,_=>rfl
 | (n,v)::r,m,h=>by
  unfold bindL;rw [pW λw hw=>h w (aD _ hw)];split
  ·have:x≠n:=by rintro rfl;exact h v aG
   simp [this]
  ·rfl
theorem pY{kindOf:Str->Option NameKind}{x:Str}:∀{binds:List (Str × Value)}{m:Str->Option Value},(∀v,(x,v) ∉ binds)->bindC kindOf binds m x=m x
 | [],_,_=>rfl
 | (n,v)::r,m,h=>by
  unfold bindC;rw [pY λw hw=>h w (aD _ hw)];split
  ·rfl
  ·have:x≠n:=by rintro rfl;exact h v aG
   simp [this]
theorem pX{kindOf:Str->Option NameKind}{x:Str}{v:Value}:∀{P:List Str}{vs:List Value}{i:Nat}{m:Str->Option Value},P.Nodup->P[i]?=some x->vs[i]?=some v->kindOf x=some .local ->
  bindL kindOf (P.zip vs) m x=some v
 | [],_,_,_,_,h,_,_=>by simp at h
 | _::_,[],_,_,_,_,h,_=>by simp at h
 | p::P,w::vs,0,m,nd,h1,h2,hk=>by
  simp at h1 h2;subst h1;subst h2;show bindL kindOf ((p,w)::P.zip vs) m p=_;unfold bindL;rw [pW λv hv=>(List.nodup_cons.mp nd).1 (List.of_mem_zip hv).1,if_pos hk];simp
 | p::P,w::vs,i+1,m,nd,h1,h2,hk=>by
  show bindL kindOf ((p,w)::P.zip vs) m x=_;unfold bindL;exact pX (i:=i) (List.nodup_cons.mp nd).2 (by simpa using h1) (by simpa using h2) hk
theorem pZ{kindOf:Str->Option NameKind}{x:Str}{v:Value}:∀{P:List Str}{vs:List Value}{i:Nat}{m:Str->Option Value},P.Nodup->P[i]?=some x->vs[i]?=some v->kindOf x≠some .local ->
  bindC kindOf (P.zip vs) m x=some v
 | [],_,_,_,_,h,_,_=>by simp at h
 | _::_,[],_,_,_,_,h,_=>by simp at h
 | p::P,w::vs,0,m,nd,h1,h2,hk=>by
  simp at h1 h2;subst h1;subst h2;show bindC kindOf ((p,w)::P.zip vs) m p=_;unfold bindC;rw [pY λv hv=>(List.nodup_cons.mp nd).1 (List.of_mem_zip hv).1,if_neg hk];simp
 | p::P,w::vs,i+1,m,nd,h1,h2,hk=>by
  show bindC kindOf ((p,w)::P.zip vs) m x=_;unfold bindC;exact pZ (i:=i) (List.nodup_cons.mp nd).2 (by simpa using h1) (by simpa using h2) hk
def start(N:List Str)(vs:List V):St:=vs.map some++List.replicate (N.length-vs.length) none
def mQ(CX:AN)(P:Program)(w:World)(K:PySem.W.Frag)(mg:Str->Option Value)(base:Heap)(N:List Str)(qual:Str)(scope:Scope)(f:Addr)(cd:Value)(A:Around)(outer:List Env)(s:Shared)(H:Hp)(E:XK):Cx where
 prog:=P
 w:=w
 K:=K
 mg:=mg
 base:=base
 A:=A.deeper (envOfC qual scope s.heap.objs.size f cd)
 N:=N
 s₀:=s
 H₀:=H
 env:=envOfC qual scope s.heap.objs.size f cd
 outer:=outer
 stack:=envOfC qual scope s.heap.objs.size f cd::outer
 ex:=[]
 calm:=true
 fn:=λ_=>true
 pn:=[]
 xe:=λe s'=>wpAny (model P w) (A.deeper (envOfC qual scope s.heap.objs.size f cd)) (leaving (envOfC qual scope s.heap.objs.size f cd) e) (λ_ s''=>CX outer H s E e s'') (λe' s''=>CX outer H s E e' s'') s'
theorem tV{sc:Scope}{n:Nat}{x:Str}(h:sc.names.lookup x=some .cell):∃c,(cellsFrom n sc.names []).lookup x=some c:=by
 have q:=PySem.W.cellsFrom_some sc.names n [] (.inl h);exact Option.isSome_iff_exists.mp q
theorem pR{CX:AN}{P:Program}{w:World}{K:PySem.W.Frag}{mg:Str->Option Value}{base:Heap}{N ps:List Str}{qual:Str}{scope:Scope}{f:Addr}{cd:Value}{A:Around}{outer:List Env}{s s1:Shared}{H:Hp}{E:XK}{us:List Value}{vs:List V}
  (S:cJ N ps scope) (hd:A.handled=none) (e0:uC P w K mg base A outer s H) (hl:vs.length=ps.length) (r:bW vs us)
  (x:InCallC s s.heap.objs.size (bindL (envOfC qual scope s.heap.objs.size f cd).kindOf (ps.zip us) λ_=>none) (cellsFrom (s.heap.objs.size+1) scope.names []) (bindC (envOfC qual scope s.heap.objs.size f cd).kindOf (ps.zip us) λ_=>none) s1) :
  bG (mQ CX P w K mg base N qual scope f cd A outer s H E) [] (start N vs) H s1:=by
 have hpl:ps.length<=N.length:=by have:=congrArg List.length S.pre;rw [bO] at this;omega
 obtain ⟨h1,tk,rfl,hk⟩:=x.done;have noA:∀b:Addr,b ∉ (mQ CX P w K mg base N qual scope f cd A outer s H E).ex:=λb z=>absurd (show b∈([]:List Addr) from z) (by simp);refine ⟨⟨e0.mod,S.kind,rfl,rfl,aC _,λy z c h1 h2=>?_,λy hy=>?_,λy c _ h=>?_,λ_=>hd,Around.frames_deeper e0.frames,.inr ⟨rfl,rfl⟩,λb z=>absurd z (noA b),e0.bs,e0.bsz,λb _ _=>noA b,λb z=>absurd z (noA b),e0.funs,e0.frf⟩,
  rfl,e0.bare,Un.kept hk,⟨_,x.toInCall.ns,λi y v h1 h2 h3=>?_⟩,λy c h=>⟨_,x.cell y c h⟩,e0.hok.fresh (aC _),λy c h=>?_,λp hp=>absurd (show p∈([]:List (Addr × Obj)) from hp) (by simp),e0.hok.kept hk,?_⟩
 ·exact name_of_addr x.apart (PySem.mem_of_lookup h1) (PySem.mem_of_lookup h2)
 ·have hy:scope.names.lookup y=some .cell\/scope.names.lookup y=some .free:=hy;rcases hy with hy | hy
  ·exact tV hy
  ·exact absurd rfl (S.nofree _ (PySem.mem_of_lookup hy))
 ·exact Nat.le_of_lt (x.above y c (PySem.mem_of_lookup h))
 ·have hi:i<vs.length:=by
   unfold start at h2;by_cases hi:i<vs.length
   ·exact hi
   ·rw [List.getElem?_append_right (by simpa using hi)] at h2;rw [List.getElem?_replicate] at h2;split at h2 <;> cases h2
  have ha:vs[i]?=some v:=by
   unfold start at h2;rw [List.getElem?_append_left (by simpa using hi),aQ] at h2;cases e:vs[i]? with
   | none=>rw [e] at h2;cases h2
   | some a=>rw [e] at h2;cases h2;rfl
  obtain ⟨u,hu,rv⟩:=r.get ha;have hp:ps[i]?=some y:=by
   rw [<-S.pre,List.getElem?_take_of_lt Oo];exact h1
  have ndP:ps.Nodup:=by rw [<-S.pre];exact S.nd.sublist (List.take_sublist _ _)
  refine ⟨u,rv,?_⟩;rcases S.par y (cE hp) with k | k
  ·exact .inl ⟨k,pX ndP hp hu k⟩
  ·obtain ⟨c,e⟩:=tV (n:=s.heap.objs.size+1) k;refine .inr ⟨.inl k,c,e,?_⟩;have q:=x.cell y c e;rw [pZ ndP hp hu (by show scope.names.lookup y≠_;rw [k];decide)] at q;exact q
 ·exact e0.hok.fresh (Nat.le_of_lt (x.above y c (PySem.mem_of_lookup h)))
 ·unfold start;show _=N.length;rw [bC,aB,List.length_replicate];omega
theorem IJ{CX:AN}{P:Program}{w:World}{K:PySem.W.Frag}{mg:Str->Option Value}{base:Heap}{k:Nat}{f:Addr}{name qual:Str}{params:Arguments}{body:List Stmt}{scope:Scope}{dV kV doc pm cdv ct oc:Value}{an od:Option Addr}
  {osl:Array (Option Value)} {N ps:List Str} {sp:Sp} (lk:K.lookup f=some ⟨oc,od,.func (PySem.W.fnOf name qual params body scope dV kV doc pm an cdv ct),osl⟩) (hcd:PySem.W.codeIn K cdv qual=true) (S:cJ N ps scope)
  (len:∀vs H Q E,sp vs H Q E->vs.length=ps.length)
  (hbody:∀(A:Around) (outer:List Env) (s:Shared) (H:Hp) (vs:List V) (Q:VK) (E:XK),eR k (A.deeper (envOfC qual scope s.heap.objs.size f cdv))->sp vs H Q E ->
   ∃t,vR (mQ CX P w K mg base N qual scope f cdv A outer s H E) body t/\t { nx:=λ_ H'=>Q .non H',rt:=Q } (start N vs) H) :
  dW P w K mg base CX (k+1) f (PySem.W.fnOf name qual params body scope dV kV doc pm an cdv ct) ps sp:=by
 refine ⟨len,λA outer s H args us vs Q E hr e0 hb r hsp=>?_⟩;have hl:=len _ _ _ _ hsp;have KX:K.In s.heap:=e0.mod.kin.keeps λb o e=>(e0.bs b o e).1;have lim:s.heap.NoLimit:=e0.mod.nolimit.keeps λb o e=>(e0.bs b o e).1;have hkind:∀y∈ps.zip us,scope.names.lookup y.1=some .local\/(scope.names.lookup y.1=some .cell/\((cellsFrom (s.heap.objs.size+1) scope.names []).lookup y.1).isSome=true):=λ⟨n,v⟩ hy=>by
  rcases S.par n (List.of_mem_zip hy).1 with q | q
  ·exact .inl q
  ·exact .inr ⟨q,PySem.W.cellsFrom_some _ _ _ (.inl q)⟩
 refine codeAny_call_function hr.depth (KX _ _ lk) rfl S.co S.gen rfl (PySem.W.codeRec_of KX hcd) (hb _ _ _ _ ?_);refine wpAny_newFunctionEnv_cells S.kind hkind λenv he s1 x=>?_;subst he;refine ⟨lim.keeps x.toInCall.keep,codeAny_func ?_⟩;obtain ⟨t,ht,hq⟩:=hbody A outer s H vs Q E (hr.deeper _) hsp;have I:bG (mQ CX P w K mg base N qual scope f cdv A outer s H E) [] (start N vs) H s1:=pR S hr.hd e0 hl r x;refine wpAny_mono (ht [] s1 (start N vs) H _ I hq) (λfl s' hs=>?_) λe s' hs=>hs;have fin:∀{σ':St} {H':Hp} {v:V} {u:Value},bG (mQ CX P w K mg base N qual scope f cdv A outer s H E) [] σ' H' s'->cB v u->Q v H'->CE outer P w H s Q u s' :=
  λ{σ' H' v u} J rv q=>⟨v,H',J.os,J.bare,J.base,J.hok,rv,q⟩
 cases fl with
 | ret u =>
  obtain ⟨v,σ',H',J,rv,q⟩:=hs;exact fin J rv q
 | next =>
  obtain ⟨σ',H',J,q⟩:=hs;exact fin (v:=V.non) (u:=Value.none) J rfl q
 | brk =>
  obtain ⟨_,_,_,q⟩:=hs;exact False.elim q
 | cont =>
  obtain ⟨_,_,_,q⟩:=hs;exact False.elim q
section
variable{X:Cx}{x:Str}{p pos:Pos}{e:Expr}{es:List Expr}{t:TA}{id T:String}{r:List V->Hp->VK->Prop}
def PP(r:List V->Hp->VK->Prop)(t:TA):TE:=λσ H Q=>t σ H λvs H1=>r vs H1 Q
theorem CF(hc:eS X (.builtin id) r)(hg:Gl X x)(hm:X.mg x=none)(hv:bootBuiltins x=some (.builtin id))(ha:PA X (e::es) t)(hn:x ≠ "__name__" := by decide)(hdb:(x == ("__debug__" : Str))=false:=by decide)
  (he:starEach (e::es) X.env=(false,eval e X.env)::starEach es X.env:=by rfl) (hpl:(backTo pos (starEach es X.env)).any (·.1)=false:=by rfl):PE X (.Call (.Name x p) (e::es) [] pos) (PP r t):=by
 intro pins s σ H Q I h;refine wpAny_Call_Name_kw (jC I hg hm hv ?_ hn hdb);exact PyProof.Rows.callWith_builtin1 (thn (ha pos pins s σ H _ I h) λus s1 ⟨vs,H1,I1,r1,q1⟩=>hc pins s1 σ H1 vs us Q I1 r1 q1) he hpl
theorem zD(hc:eS X (.type T) r)(hg:Gl X x)(hm:X.mg x=none)(hv:bootBuiltins x=some (.type T))(ha:PA X (e::es) t)(hn:x ≠ "__name__" := by decide)(hdb:(x == ("__debug__" : Str))=false:=by decide)
  (he:starEach (e::es) X.env=(false,eval e X.env)::starEach es X.env:=by rfl) (hpl:(backTo pos (starEach es X.env)).any (·.1)=false:=by rfl):PE X (.Call (.Name x p) (e::es) [] pos) (PP r t):=by
 intro pins s σ H Q I h;refine wpAny_Call_Name_kw (jC I hg hm hv ?_ hn hdb);exact PyProof.Rows.callWith_type1 (thn (ha pos pins s σ H _ I h) λus s1 ⟨vs,H1,I1,r1,q1⟩=>hc pins s1 σ H1 vs us Q I1 r1 q1) he hpl
end
end L2
namespace HT
open PySem PyProof.Rows
def gM:List Int->List Int->Bool
 | [],[]=>false
 | [],_::_=>true
 | _::_,[]=>false
 | x::xs,y::ys=>if x=y then gM xs ys else decide (x<y)
theorem oF(x y:Int)(xs ys:List Int):gM (x::xs) (y::ys)=if x=y then gM xs ys else decide (x<y):=rfl
theorem pA:gM [] []=false:=rfl
theorem oD(y:Int)(ys:List Int):gM [] (y::ys)=true:=rfl
theorem oE(x:Int)(xs:List Int):gM (x::xs) []=false:=rfl
theorem DM(A:Around)(s:Shared)(a:Int)(t:Tok)(c:Int)(u:Tok):∃e,SeqAt.EqAt A s (.int a t) (.int c u) e/\(e=true↔a=c) :=
 ⟨(a == c),SeqAt.EqAt.int_int a t c u,by simp⟩
theorem BU(A:Around)(s:Shared)(a:Int)(t:Tok)(c:Int)(u:Tok)(prog:Program)(w:World)(E:Value->Shared->Prop)(Q:Value->Shared->Prop)(h:Q (.bool (decide (a<c))) s) :
  wpAny (model prog w) A (richCompare .Lt (.int a t) (.int c u)) Q E s :=
 (PyProof.Rows.lt_int h:wpAny (model prog w) A (compareOp .Lt (.int a t) (.int c u)) Q E s)
section
open PySem.SeqAt
open PySem.AutoSeq1 (wpAny_loadPart')
open PySem.MeetsSeq PySem.MeetsSeq2 PySem.MeetsSeq3
theorem oV(l b:Addr)(items items2:Array Value)(n n2:Nat)(dd dd2:Option Addr)(sl sl2:Array (Option Value))(ns ms:List Int)(hi:IntsAre items.toList ns)(hj:IntsAre items2.toList ms) :
  Meets (Builtin.«tuple.__lt__» ⟨[.ref l,.ref b],[]⟩)
   (λ_ R s=>s.heap.get? l=some { cls:=.type "tuple",dict:=dd,data:=.seq items n,slots:=sl }/\s.heap.get? b=some { cls:=.type "tuple",dict:=dd2,data:=.seq items2 n2,slots:=sl2 } /\
    R (.ok (.ret (.bool (gM ns ms)))) s) :=
 .of_wp λprog w A R s h=>by
  obtain ⟨hp,g,d,tk,os⟩:=s;obtain ⟨hl,hb,h⟩:=h;have f2:=AutoSeq1.sub_tuple_tuple;have z1:items.size=ns.length:=by rw [<-hi.length];simp
  have z2:items2.size=ms.length:=by rw [<-hj.length];simp
  wp_walk using wpAny_loadPart' hl,wpAny_loadPart' hb,wpAny_forIn_list _ (λrest b s'=>b.1=none/\s'=⟨hp,g,d,tk,os⟩/\∃(vs ws:List Value) (ns' ms':List Int),rest=vs.zip ws /\
   IntsAre vs ns'/\IntsAre ws ms'/\ns'.length+items2.size=ms'.length+items.size/\R (.ok (.ret (.bool (gM ns' ms')))) ⟨hp,g,d,tk,os⟩) _
  case turn =>
   rintro ⟨y,x⟩ rest b s' ⟨hb',rfl,vs,ws,ns',ms',hz,hvi,hwi,hlen,hR⟩;cases hvi with
   | nil=>rw [List.zip_nil_left] at hz;cases hz
   | cons a t hvi' =>
    cases hwi with
    | nil=>rw [List.zip_nil_right] at hz;cases hz
    | cons c u hwi' =>
     rw [List.zip_cons_cons] at hz;injection hz with hyx hrest;injection hyx with hy hx;subst hy hx;rw [oF] at hR;simp only [bI] at hlen;obtain ⟨e,he,hiff⟩:=DM A.in1 ⟨hp,g,d,tk,os⟩ a t c u;refine wpAny_bind (he prog w _ _ ?_);cases e with
     | true =>
      rw [if_pos (hiff.mp rfl)] at hR
      wp_walk
      exact ⟨rfl,rfl,_,_,_,_,hrest,hvi',hwi',Oo,hR⟩
     | false =>
      rw [if_neg (λq=>absurd (hiff.mpr q) aS)] at hR;have hri:=BU A.in1 ⟨hp,g,d,tk,os⟩ a t c u prog w
      wp_walk using hri
      exact ⟨_,rfl,by simpa using hR⟩
  case fin =>
   rintro ⟨b1,b2⟩ s' ⟨hb',rfl,vs,ws,ns',ms',hz,hvi,hwi,hlen,hR⟩;simp only at hb';subst hb';have hv:gM ns' ms'=decide (items.size<items2.size):=by
    cases hvi with
    | nil =>
     cases hwi with
     | nil =>
      simp only [List.length_nil] at hlen;rw [pA];exact (bE Oo).symm
     | cons c u hw =>
      simp only [List.length_nil,bI] at hlen;rw [oD];exact (bN Oo).symm
    | cons a t hv =>
     cases hwi with
     | nil =>
      simp only [List.length_nil,bI] at hlen;rw [oE];exact (bE Oo).symm
     | cons c u hw =>
      rw [List.zip_cons_cons] at hz;cases hz
   rw [hv] at hR
   wp_walk
   exact ⟨_,rfl,by simpa [Builtin.Tuple.tupleCompareSizes] using hR⟩
  case h =>
   exact ⟨rfl,rfl,items.toList,items2.toList,ns,ms,rfl,hi,hj,Oo,h⟩
end
section
variable{prog:Program}{w:World}{A:Around}{E:Value->Shared->Prop}{s:Shared}
theorem uZ{l b:Addr}{items items2:Array Value}{ns ms:List Int}{Q:Value->Shared->Prop}(hl:IsTup s.heap l items)(hb:IsTup s.heap b items2)(hi:IntsAre items.toList ns)(hj:IntsAre items2.toList ms)
  (hu:A.units<cLine) (h:Q (.bool (gM ns ms)) s):wpAny (model prog w) A (compareOp .Lt (.ref l) (.ref b)) Q E s:=by
 obtain ⟨⟨cls,dd,data,sl⟩,ho,hc,n,hd⟩:=id hl;obtain ⟨⟨cls2,dd2,data2,sl2⟩,ho2,hc2,n2,hd2⟩:=id hb;simp only at hc hd hc2 hd2;subst hc hd hc2 hd2;exact richCompare_meets_room (op:=.Lt) ⟨_,ho,rfl⟩ ⟨_,ho2,rfl⟩ PySem.F.slot_tuple_lt PySem.F.entry_tuple_lt (PySem.F.args_tuple_lt_2 _ _) (oV l b items items2 n n2 dd dd2 sl sl2 ns ms hi hj)
  ⟨ho,ho2,show Value.bool (gM ns ms)≠Value.notImplemented/\Q (.bool (gM ns ms)) s from ⟨(λx=>nomatch x),h⟩⟩ hu
theorem HD{t b:Addr}{vs ws:List Value}{Q:Value->Shared->Prop}(ht:IsTup s.heap t vs.toArray)(hb:IsTup s.heap b ws.toArray)(hv:vs≠[])
  (h1:ws=[]->Q (.ref t) s) (h2:ws≠[]->Q (.ref s.heap.objs.size) { s with heap:=s.heap.push { cls:=.type "tuple",data:=.seq (vs++ws).toArray } })
  (hsz:vs.length+ws.length<=sizeLine):wpAny (model prog w) A (binaryOp .Add (.ref t) (.ref b)) Q E s:=by
 obtain ⟨⟨cls,dd,data,sl⟩,ho,hc,n,hd⟩:=id ht;obtain ⟨⟨cls2,dd2,data2,sl2⟩,ho2,hc2,n2,hd2⟩:=id hb;simp only at hc hd hc2 hd2;subst hc hd hc2 hd2;have e:vs.toArray++ws.toArray=(vs++ws).toArray:=by simp
 by_cases hw:ws=[]
 ·exact concat_meets ⟨_,ho,rfl⟩ ⟨_,ho2,rfl⟩ noFill_tuple_add seq_tuple_add PySem.F.slot_tuple_add PySem.F.entry_tuple_add (PySem.F.args_tuple_add_2 _ _)
   (tuple_addW1 t b vs.toArray ws.toArray n n2 dd dd2 sl sl2 (by simpa using hv) (by simp [hw])) ⟨ho,ho2,h1 hw⟩
 ·refine concat_meets ⟨_,ho,rfl⟩ ⟨_,ho2,rfl⟩ noFill_tuple_add seq_tuple_add PySem.F.slot_tuple_add PySem.F.entry_tuple_add (PySem.F.args_tuple_add_2 _ _)
   (tuple_addW2 t b vs.toArray ws.toArray n n2 dd dd2 sl sl2 (by simpa using hv) (by simpa using hw) (by rw [aI,aI];exact hsz)) ⟨ho,ho2,?_⟩
  rw [e];exact h2 hw
def eO(n d:Nat):Option Int->Nat
 | none=>d
 | some v=>if v<0 then (v+(n:Int)).toNat else min v.toNat n
theorem nV(n d:Nat):eO n d none=d:=rfl
theorem qO(n d k:Nat):eO n d (some (k:Int))=min k n:=by
 show (if (k:Int)<0 then ((k:Int)+(n:Int)).toNat else min (k:Int).toNat n)=min k n;rw [if_neg Oo,Int.toNat_natCast]
theorem JP(n d:Nat)(hd:d<=n)(o:Option Int):eO n d o<=n:=by
 cases o with
 | none=>exact hd
 | some v =>
  show (if v<0 then (v+(n:Int)).toNat else min v.toNat n)<=n;by_cases hv:v<0
  ·rw [if_pos hv];omega
  ·rw [if_neg hv];exact Nat.min_le_right _ _
theorem xX(v:Int)(n d:Nat):(if v<0 then max (v+(n:Int)) 0 else min v (n:Int))=((eO n d (some v):Nat):Int):=by
 show (if v<0 then max (v+(n:Int)) 0 else min v (n:Int))=(((if v<0 then (v+(n:Int)).toNat else min v.toNat n):Nat):Int);by_cases hv:v<0
 ·simp only [if_pos hv];omega
 ·simp only [if_neg hv];omega
theorem vO(lo hi:Option Int)(n:Nat):Builtin.Slice.sliceAdjust lo hi 1 (n:Int)=(((eO n 0 lo:Nat):Int),((eO n n hi:Nat):Int)):=by
 have h1:¬((1:Int)<0):=Oo;unfold Builtin.Slice.sliceAdjust;simp only [h1,if_false];refine Prod.ext ?_ ?_
 ·cases lo with
  | none=>rfl
  | some v=>exact xX v n 0
 ·cases hi with
  | none=>rfl
  | some v=>exact xX v n n
theorem uT(i j:Nat):Builtin.Slice.slicePlaces (i:Int) (j:Int) 1=j-i:=by
 unfold Builtin.Slice.slicePlaces;have h1:(1:Int) > 0:=Oo;simp only [h1,if_true,Int.ediv_one];split <;> omega
theorem nU{v:Value}{o:Option Int}{Q:Option Int->Shared->Prop}(p:IsPart v o)(h:Q o s):wpAny (model prog w) A (Builtin.Slice.slicePartIndex v) Q E s:=by
 cases p with
 | none=>exact slicePart_none h
 | int i t=>exact slicePart_int h
theorem gK{sl:Addr}{vl vu:Value}{lo hi:Option Int}{n:Nat}{Q:Int × Int × Nat->Shared->Prop}(hs:s.heap.IsSliceOf sl vl vu .none)(pl:IsPart vl lo)(pu:IsPart vu hi)
  (h:Q (((eO n 0 lo:Nat):Int),1,eO n n hi-eO n 0 lo) s):wpAny (model prog w) A (Builtin.Slice.sliceApplied (.ref sl) (pure (n:Int))) Q E s:=by
 obtain ⟨os,hos,hcs,hds⟩:=id hs;unfold Builtin.Slice.sliceApplied Builtin.Slice.sliceFields;refine wpAny_bind (wpAny_bind (wpAny_field hos hds (x:=vl) rfl (wpAny_bind (wpAny_field hos hds (x:=vu) rfl (wpAny_bind (wpAny_field hos hds (x:=.none) rfl (wpAny_pure ?_)))))));refine wpAny_bind (slicePart_none ?_);show wpAny _ _ (if ((1:Int) == 0)=true then _ else _) _ _ s;rw [if_neg Dd];refine wpAny_bind (nU pl (wpAny_bind (nU pu (wpAny_bind (wpAny_pure ?_)))));show wpAny _ _ (match Builtin.Slice.sliceAdjust lo hi 1 (n:Int) with | (lo,hi)=>pure (lo,(1:Int),Builtin.Slice.slicePlaces lo hi 1)) _ _ s;rw [vO lo hi n];show wpAny _ _ (pure (((eO n 0 lo:Nat):Int),(1:Int),Builtin.Slice.slicePlaces ((eO n 0 lo:Nat):Int) ((eO n n hi:Nat):Int) 1)) _ _ s;rw [uT];exact wpAny_pure h
theorem BZ(xs:Array Value)(i k:Nat):((List.range k).filterMap λ(m:Nat)=>xs[((i:Int)+(m:Int)*1).toNat]?).toArray=((xs.toList.drop i).take k).toArray:=by
 have e:(λ(m:Nat)=>xs[((i:Int)+(m:Int)*1).toNat]?)=λm=>xs[i+m]?:=by
  funext m
  have:((i:Int)+(m:Int)*1).toNat=i+m:=Oo;rw [this]
 rw [e];have:=pick_run xs i k;rw [List.filterMap_map] at this;have e2:((λx=>xs[x]?) ∘ λx=>i+x)=λm=>xs[i+m]?:=rfl;rw [e2] at this;rw [this]
theorem jZ{t sl:Addr}{items:Array Value}{vl vu:Value}{lo hi:Option Int}{Q:Value->Shared->Prop}(ht:IsTup s.heap t items)(hs:s.heap.IsSliceOf sl vl vu .none)(pl:IsPart vl lo)(pu:IsPart vu hi)
  (hw:¬(eO items.size 0 lo=0/\eO items.size items.size hi=items.size))
  (h:Q (.ref s.heap.objs.size) { s with heap:=s.heap.push { cls:=.type "tuple",data:=.seq ((items.toList.drop (eO items.size 0 lo)).take (eO items.size items.size hi-eO items.size 0 lo)).toArray } })
  (hsz:items.size<=sizeLine):wpAny (model prog w) A (getItem (.ref t) (.ref sl)) Q E s:=by
 have htake:sizeOk (.seq ((items.toList.drop (eO items.size 0 lo)).take (eO items.size items.size hi-eO items.size 0 lo)).toArray):=by
  show ((items.toList.drop (eO items.size 0 lo)).take (eO items.size items.size hi-eO items.size 0 lo)).toArray.size<=sizeLine;rw [aI,bO,List.length_drop,Array.length_toList];omega
 have hj:eO items.size items.size hi<=items.size:=JP _ _ (aC _) hi;obtain ⟨os,hos,hcs,hds⟩:=id hs;have hTs:s.TypeIs (.ref sl) "slice" := ⟨os,hos,hcs⟩;unfold getItem
 try with_reducible refine wpAny_holding ?_
 first | refine wpAny_bind (wpAny_pure ?_) | skip
 refine wpAny_bind (wpAny_sequenceKey ht.typeIs Dd ?_);refine wpAny_bind (wpAny_callSpecial?_slot (name:=Str.ofString "__getitem__") ht.typeIs PyProof.Rows.slot_tuple_getitem
  (wpAny_call_entry PyProof.Rows.slot_tuple_getitem ht.typeIs entry_tuple_getitem ?_ (args_tuple_getitem _ _)))
 show wpAny _ _ (Builtin.Tuple.tupleItemsOf (.ref t) >>= _) _ _ s;refine wpAny_bind (tupleItemsOf_ ht ?_);refine wpAny_bind (wpAny_typeOf hTs ?_);rw [if_pos Dd];refine wpAny_bind (gK hs pl pu ?_);have hno:¬((((eO items.size 0 lo:Nat):Int) == 0&&(1:Int) == 1&&(eO items.size items.size hi-eO items.size 0 lo) == items.size)=true):=by
  intro q;rw [bJ,bJ] at q;have q1:((eO items.size 0 lo:Nat):Int)=0:=eq_of_beq q.1.1;have q2:eO items.size items.size hi-eO items.size 0 lo=items.size:=eq_of_beq q.2;exact hw ⟨Oo,Oo⟩
 show wpAny _ _ (if (((eO items.size 0 lo:Nat):Int) == 0&&(1:Int) == 1&&(eO items.size items.size hi-eO items.size 0 lo) == items.size)=true then _ else _) _ _ s;rw [if_neg hno,BZ]
 first
  | exact wpAny_bind (m:=Builtin.Tuple.tupleExact _) (wpAny_newObj_type (wpAny_pure ⟨_,rfl,wpAny_pure h⟩) htake)
  | exact wpAny_bind (m:=Builtin.Tuple.tupleExact _) (wpAny_newObj_type (wpAny_bind (wpAny_pure (wpAny_pure ⟨_,rfl,wpAny_pure h⟩))) htake)
  | exact wpAny_bind (wpAny_bind (m:=Builtin.Tuple.tupleExact _) (wpAny_newObj_type (wpAny_pure (wpAny_pure ⟨_,rfl,wpAny_pure h⟩)) htake))
  | exact wpAny_bind (wpAny_bind (m:=Builtin.Tuple.tupleExact _) (wpAny_newObj_type (wpAny_pure ⟨_,rfl,wpAny_pure h⟩) htake))
end
end HT
namespace L2
open PySem PySem.Spec PyProof.Rows
abbrev TO:=St->Hp->(Option Int->Hp->Prop)->Prop
def PO(X:Cx)(e:Option Expr)(t:TO):Prop :=
 ∀(pins:List (Addr × Obj)) (s:Shared) (σ:St) (H:Hp) (Q:Option Int->Hp->Prop),bG X pins σ H s->t σ H Q ->
  wpAny (model X.prog X.w) X.A (evalPart e X.env) (λu s'=>∃o H',bG X pins σ H' s'/\IsPart u o/\Q o H') X.xe s
def wC:TO:=λ_ H Q=>Q none H
def HP(t:TE):TO:=λσ H Q=>t σ H λx H1=>∃i,x=.int i/\Q (some i) H1
theorem jE{ns:List Int}:∀{us:List Value},bW (ns.map V.int) us->IntsAre us ns:=by
 induction ns with
 | nil=>intro us r;rw [List.map_nil] at r;cases r;exact .nil
 | cons n ns ih =>
  intro us r;rw [bA] at r;cases r with
  | cons r1 r2 =>
   obtain ⟨t,e⟩:=r1;subst e;exact .cons n t (ih r2)
section
variable{X:Cx}{e:Expr}{te:TE}{lo hi:Option Expr}{tl th:TO}{pos p2:Pos}
theorem po_none:PO X none wC:=by
 intro pins s σ H Q I h;rw [evalPart_none];exact wpAny_pure ⟨none,H,I,.none,h⟩
theorem FT(h:PE X e te):PO X (some e) (HP te):=by
 intro pins s σ H Q I hw;rw [evalPart_some];refine thn (h pins s σ H _ I hw) λu s1 ⟨x,H1,I1,r1,q1⟩=>?_;obtain ⟨i,rfl,q⟩:=q1;obtain ⟨t,rfl⟩:=r1;exact ⟨some i,H1,I1,.int i t,q⟩
def MX(X:Cx)(r:V->Option Int->Option Int->Hp->VK->Prop):Prop :=
 ∀(pins:List (Addr × Obj)) (s:Shared) (σ:St) (H:Hp) (x:V) (v vl vu:Value) (lo hi:Option Int) (sl:Addr) (Q:VK),bG X pins σ H s->cB x v->s.heap.IsSliceOf sl vl vu .none->IsPart vl lo->IsPart vu hi->r x lo hi H Q ->
  ∃T id,typeLookup (.type T) "__getitem__" = pure (some (.builtin id))/\s.TypeIs v T/\wpAny (model X.prog X.w) X.A (getItem v (.ref sl)) (EP X pins σ Q) X.xe s
def RZ(r:V->Option Int->Option Int->Hp->VK->Prop)(te:TE)(tl th:TO):TE:=λσ H Q=>te σ H λx H1=>tl σ H1 λl H2=>th σ H2 λu H3=>r x l u H3 Q
theorem CB{r:V->Option Int->Option Int->Hp->VK->Prop}(hr:MX X r)(he:PE X e te)(hl:PO X lo tl)(hu:PO X hi th):PE X (.Subscript e (.Slice lo hi none p2) pos) (RZ r te tl th):=by
 intro pins s σ H Q I h;refine Subscript_ (thn (he pins s σ H _ I h) λv s1 ⟨x,H1,I1,r1,q1⟩=>?_);refine wpAny_Slice (thn (hl pins s1 σ H1 _ I1 q1) λvl s2 ⟨l,H2,I2,pl,q2⟩=>thn (hu pins s2 σ H2 _ I2 q2) λvu s3 ⟨u,H3,I3,pu,q3⟩=>?_);rw [evalPart_none];refine wpAny_pure ?_;have I4:bG X pins σ H3 { s3 with heap:=s3.heap.push { cls:=.type "slice",data:=.fields #[vl,vu,.none] } }:=I3.kept (t':=s3.toks) λb ob q=>aA _ q;obtain ⟨T,id,hT,ht,hg⟩:=hr pins { s3 with heap:=s3.heap.push { cls:=.type "slice",data:=.fields #[vl,vu,.none] } } σ H3 x v vl vu l u s3.heap.objs.size Q I4 r1 (Heap.IsSliceOf.new ..) pl pu q3;show wpAny (model X.prog X.w) X.A (subscriptTail e (.Slice lo hi none p2) v (.ref s3.heap.objs.size)) (EP X pins σ Q) X.xe { s3 with heap:=s3.heap.push { cls:=.type "slice",data:=.fields #[vl,vu,.none] } };exact tail_any (ops:=[.ref s3.heap.objs.size,v]) ht hT hg (by with_unfolding_all rfl)
def iU(xs:List V)(lo hi:Option Int):List V:=(xs.drop (HT.eO xs.length 0 lo)).take (HT.eO xs.length xs.length hi-HT.eO xs.length 0 lo)
theorem mL(xs:List V)(lo hi:Option Int):(iU xs lo hi).length<=xs.length:=by
 unfold iU;rw [bO,List.length_drop];omega
def QT(K:PySem.W.Frag):V->Option Int->Option Int->Hp->VK->Prop:=λx lo hi H Q=>∃a xs,x=.ref a/\eT K H a xs /\
 ¬(HT.eO xs.length 0 lo=0/\HT.eO xs.length xs.length hi=xs.length)/\∀p,H p=none->Q (.ref p) (upd H p (.tup (iU xs lo hi)))
theorem JD:MX X (QT X.K):=by
 intro pins s σ H x v vl vu lo hi sl Q I rx hs pl pu h;obtain ⟨a,xs,rfl,hx,hw,q⟩:=h;cases rx;obtain ⟨its,r,ht,hz⟩:=I.tuple hx;have hlen:its.toArray.size=xs.length:=by rw [aI];exact r.length.symm
 refine ⟨"tuple",_,PyProof.Rows.slot_tuple_getitem.lookup,ht.typeIs,?_⟩;refine HT.jZ ht hs pl pu (by rw [hlen];exact hw) ?_ (by rw [hlen];exact hz);rw [hlen];refine ⟨.ref s.heap.objs.size,_,I.laid (t':=s.toks) (o:=.tup (iU xs lo hi)) (λb ob q=>aA _ q) (aC _) ?_,rfl,q _ (I.hok.fresh (aC _))⟩;exact ⟨⟨aU (mL xs lo hi) hz,_,aK _ rfl,rfl⟩,_,(r.drop (HT.eO xs.length 0 lo)).take (HT.eO xs.length xs.length hi-HT.eO xs.length 0 lo),IsTup.new _ _⟩
def NW(K:PySem.W.Frag):R2:=λx y H Q=>∃a b xs ys,x=.ref a/\y=.ref b/\eT K H a xs/\eT K H b ys/\xs≠[]/\xs.length+ys.length<=sizeLine /\
 (ys=[]->Q (.ref a) H)/\(ys≠[]->∀p,H p=none->Q (.ref p) (upd H p (.tup (xs++ys))))
theorem bW.nil_iff{xs:List V}{us:List Value}(r:bW xs us):us=[]↔xs=[]:=by
 cases r with
 | nil=>simp
 | cons _ _=>simp
theorem GF:mR X (binaryOp .Add) (NW X.K):=by
 intro pins s σ H x y v u Q I rx ry h;obtain ⟨a,b,xs,ys,rfl,rfl,ha,hb,hx,hz,q1,q2⟩:=h;cases rx;cases ry;obtain ⟨its,r1,p1,_⟩:=I.tuple ha;obtain ⟨its2,r2,p2,_⟩:=I.tuple hb;refine HT.HD p1 p2 (λz=>hx (r1.nil_iff.mp z)) (λz=>⟨.ref a,H,I,rfl,q1 (r2.nil_iff.mp z)⟩) (λz=>?_) (by rw [<-r1.length,<-r2.length];exact hz);refine ⟨.ref s.heap.objs.size,_,I.laid (t':=s.toks) (o:=.tup (xs++ys)) (λb ob q=>aA _ q) (aC _) ?_,rfl,q2 (λw=>z (r2.nil_iff.mpr w)) _ (I.hok.fresh (aC _))⟩;exact ⟨⟨by rw [bC];exact hz,_,aK _ rfl,rfl⟩,_,r1.append r2,IsTup.new _ _⟩
end
def CY(n:Nat)(i:Int):Option Nat:=if 0<=i then (if i<n then some i.toNat else none) else if -(n:Int)<=i then some (i+n).toNat else none
def uH{α:Type}(xs:List α)(i:Int):Option α:=(CY xs.length i).bind λj=>xs[j]?
theorem xF{n:Nat}{i:Int}{j:Nat}(h:CY n i=some j):seqIndex? i n=some j/\j<n/\-(n:Int)<=i/\i<n:=by
 unfold CY at h;by_cases h0:0<=i
 ·rw [if_pos h0] at h;by_cases h1:i<n
  ·rw [if_pos h1] at h;have e:i.toNat=j:=bY h;exact ⟨by rw [seqIndex_of h0 h1,e],Oo,Oo,h1⟩
  ·rw [if_neg h1] at h;cases h
 ·rw [if_neg h0] at h;by_cases h1:-(n:Int)<=i
  ·rw [if_pos h1] at h;have e:(i+n).toNat=j:=bY h;exact ⟨by rw [seqIndex_neg Oo h1,e],Oo,h1,Oo⟩
  ·rw [if_neg h1] at h;cases h
theorem rJ{α:Type}{xs:List α}{i:Int}{v:α}(h:uH xs i=some v):∃j,seqIndex? i xs.length=some j/\xs[j]?=some v/\j<xs.length/\-(xs.length:Int)<=i/\i<xs.length:=by
 unfold uH at h;cases e:CY xs.length i with
 | none=>rw [e] at h;cases h
 | some j =>
  rw [e] at h;obtain ⟨h1,h2,h3,h4⟩:=xF e;exact ⟨j,h1,h,h2,h3,h4⟩
theorem fE{α:Type}{xs:List α}{j:Nat}{v:α}(h:xs[j]?=some v):uH xs (j:Int)=some v:=by
 have hj:j<xs.length:=(bL.mp h).1;have e:CY xs.length (j:Int)=some j:=by
  unfold CY;rw [if_pos Oo,if_pos Oo];simp
 unfold uH;rw [e];exact h
def yD(b:Expr):Prop:=∀o i,subscripted b false o i=operate [o,i] (getItem o i)
def EK(X:Cx)(r:R2):Prop :=
 ∀(value slice:Expr) (pins:List (Addr × Obj)) (s:Shared) (σ:St) (H:Hp) (x y:V) (v u:Value) (Q:VK),bG X pins σ H s->cB x v->cB y u->r x y H Q ->
  subscripted slice false v u=operate [v,u] (getItem v u)->wpAny (model X.prog X.w) X.A (subscriptTail value slice v u) (EP X pins σ Q) X.xe s
def MO(X:Cx)(id:String)(r:V->List V->Hp->VK->Prop):Prop :=
 ∀(pins:List (Addr × Obj)) (s:Shared) (σ:St) (H:Hp) (x:V) (xs:List V) (v:Value) (us:List Value) (Q:VK),bG X pins σ H s->cB x v->bW xs us->r x xs H Q ->
  wpAny (model X.prog X.w) X.A (call (.builtin id) (v::us)) (EP X pins σ Q) X.xe s
section
variable{X:Cx}{a b:Expr}{ta tb:TE}{pos:Pos}
theorem EK.or{r r':R2}(h:EK X r)(h':EK X r'):EK X (λx y H Q=>r x y H Q\/r' x y H Q):=by
 intro value slice pins s σ H x y v u Q I rx ry q hs;rcases q with q | q
 ·exact h value slice pins s σ H x y v u Q I rx ry q hs
 ·exact h' value slice pins s σ H x y v u Q I rx ry q hs
theorem OC{r:R2}(hr:EK X r)(ha:PE X a ta)(hb:PE X b tb)(hs:yD b):PE X (.Subscript a b pos) (EY r ta tb):=by
 intro pins s σ H Q I h;exact Subscript_ (MF ha hb I h λv u s2 x y H2 I2 rx ry q=>hr a b pins s2 σ H2 x y v u Q I2 rx ry q (hs _ _))
def NV(K:PySem.W.Frag):R2:=λx y H Q=>∃p xs i v,x=.ref p/\y=.int i/\fA K H p xs/\uH xs i=some v/\Q v H
def NT(K:PySem.W.Frag):R2:=λx y H Q=>∃p xs i v,x=.ref p/\y=.int i/\eT K H p xs/\uH xs i=some v/\Q v H
def NU:R2:=λx y H Q=>∃z i c,x=.str z/\y=.int i/\z.length<=sizeLine/\uH z.cps.toList i=some c/\Q (.str ⟨#[c]⟩) H
theorem GP:EK X (NV X.K):=by
 intro value slice pins s σ H x y v u Q I rx ry h hs;obtain ⟨p,xs,i,z,rfl,rfl,hq,he,q⟩:=h;cases rx;obtain ⟨t,rfl⟩:=ry;obtain ⟨its,r,pl,hz⟩:=I.list hq;obtain ⟨j,h1,h2,h3,h4,h5⟩:=rJ he;obtain ⟨w,ew,rw'⟩:=r.get h2;have hl:=r.length;have hn:=oC;have fin:EP X pins σ Q w s:=⟨z,H,I,rw',q⟩;by_cases h0:0<=i
 ·have hj:i.toNat=j:=by
   rw [seqIndex_of h0 h5] at h1;exact bY h1
  exact item_listR pl.isList h0 Oo (by rw [hj];simpa using ew) fin hs
 ·have hj:(i+(its.toArray.size:Int)).toNat=j:=by
   rw [seqIndex_neg Oo h4] at h1;rw [aI,<-hl];exact bY h1
  exact subscriptTail_builtinR (x:=w) pl.isList.typeIs slot_list_getitem.lookup
   (wpAny_getItem_list_neg (Q:=λr s'=>r=w/\EP X pins σ Q r s') pl.isList Oo (by rw [aI] <;> omega) Oo (by rw [hj];simpa using ew) ⟨rfl,fin⟩) hs
theorem LJ:EK X (NT X.K):=by
 intro value slice pins s σ H x y v u Q I rx ry h hs;obtain ⟨p,xs,i,z,rfl,rfl,hq,he,q⟩:=h;cases rx;obtain ⟨t,rfl⟩:=ry;obtain ⟨its,r,pl,hz⟩:=I.tuple hq;obtain ⟨j,h1,h2,h3,h4,h5⟩:=rJ he;obtain ⟨w,ew,rw'⟩:=r.get h2;have hl:=r.length;have hn:=oC;have fin:EP X pins σ Q w s:=⟨z,H,I,rw',q⟩;exact subscriptTail_builtinR (x:=w) pl.typeIs slot_tuple_getitem.lookup
  (getItem_tuple (j:=j) (Q:=λr s'=>r=w/\EP X pins σ Q r s') pl Oo Oo (by rw [aI,<-hl];exact h1) (by simpa using ew) ⟨rfl,fin⟩) hs
theorem LK:EK X NU:=by
 intro value slice pins s σ H x y v u Q I rx ry h hs;obtain ⟨z,i,c,rfl,rfl,hz,he,q⟩:=h;obtain ⟨t,rfl⟩:=rx;obtain ⟨t',rfl⟩:=ry;obtain ⟨j,h1,h2,h3,h4,h5⟩:=rJ he;have hl:z.cps.toList.length=z.length:=by simp [Str.length]
 rw [hl] at h1 h4 h5;have hn:=oC;exact tail_any (typeIs_str s z t) slot_str_getitem.lookup (getItem_str (c:=c) (by
  have e1:decide (i < -(2^63:Int))=false:=bE Oo;have e2:decide (i ≥ 2^63)=false:=bE Oo;rw [e1,e2,Bool.or_false]) (by rw [h1];simpa using h2) ⟨.str ⟨#[c]⟩,H,I.tok _,⟨_,rfl⟩,q⟩) hs
def PR(K:PySem.W.Frag):R2:=λx y H Q=>NV K x y H Q\/NT K x y H Q\/NU x y H Q
theorem bK:EK X (PR X.K):=GP.or (LJ.or LK)
theorem uY(its:List Value)(n j:Nat)(u:Value):Obj.mapSeq (·.setIfInBounds j u) { cls:=.type "list",data:=.seq its.toArray n }={ cls:=.type "list",data:=.seq (its.set j u).toArray n }:=by
 simp [Obj.mapSeq]
theorem bG.lst{pins:List (Addr × Obj)}{σ:St}{H:Hp}{s:Shared}{p:Addr}{xs:List V}(I:bG X pins σ H s)(h:H p=some (.lst xs)) :
  ∃(its:List Value) (n:Nat),bW xs its/\s.heap.get? p=some { cls:=.type "list",data:=.seq its.toArray n }/\xs.length<=sizeLine:=by
 obtain ⟨z,its,n,r,e⟩:=I.hok p _ h;exact ⟨its,n,r,e,z⟩
theorem bG.lstUpd{pins:List (Addr × Obj)}{σ:St}{H:Hp}{s:Shared}{p:Addr}{xs ys:List V}{its its':List Value}{n n':Nat}{f:Obj->Obj}(I:bG X pins σ H s)(h:H p=some (.lst xs))
  (ho:s.heap.get? p=some { cls:=.type "list",data:=.seq its.toArray n }) (hf:f { cls:=.type "list",data:=.seq its.toArray n }={ cls:=.type "list",data:=.seq its'.toArray n' }) (r:bW ys its') (hz:ys.length<=sizeLine) (t:Nat) :
  bG X pins σ (upd H p (.lst ys)) { s with heap:=s.heap.update p f,toks:=t }:=by
 have e:(s.heap.update p f).get? p=some { cls:=.type "list",data:=.seq its'.toArray n' }:=by
  rw [Heap.get?_update_self f ho (by rw [hf] <;> rfl),hf]
 refine I.write (x:=p) (e:=p) (by rw [h];trivial) (.inl rfl) (λb u hb q=>(Heap.get?_update_other _ _ (Ne.symm hb)).trans q) ⟨_,e⟩ ?_;exact ⟨hz,its',n',r,e⟩
def BW:V->V->V->Hp->(Hp->Prop)->Prop:=λo i v H Q=>∃p xs k j,o=.ref p/\i=.int k/\H p=some (.lst xs)/\CY xs.length k=some j/\Q (upd H p (.lst (xs.set j v)))
theorem iJ:ML X BW:=by
 intro pins s σ H o i v ov iv u Q I ro ri rv h;obtain ⟨p,xs,k,j,rfl,rfl,hp,hj,q⟩:=h;cases ro;obtain ⟨t,rfl⟩:=ri;obtain ⟨its,n,r,ho,hz⟩:=I.lst hp;obtain ⟨h1,h2,h3,h4⟩:=xF hj;have hl:=r.length;have hn:=oC;have I':bG X pins σ (upd H p (.lst (xs.set j v))) { s with heap:=s.heap.update p (Obj.mapSeq (·.setIfInBounds j u)) } :=
  I.lstUpd hp ho (uY its n j u) (r.set rv j) (by rw [List.length_set];exact hz) s.toks
 by_cases h0:0<=k
 ·have hk:k.toNat=j:=by
   rw [seqIndex_of h0 h4] at h1;exact bY h1
  exact PySem.W.ki_setAt ho h0 Oo (by rw [aI,<-hl];exact h4) (by rw [hk];exact ⟨_,I',q⟩)
 ·have hk:(k+(its.toArray.size:Int)).toNat=j:=by
   rw [seqIndex_neg Oo h3] at h1;rw [aI,<-hl];exact bY h1
  exact PySem.W.ki_setBack ho Oo (by rw [aI,<-hl];exact h3) Oo (by rw [hk];exact ⟨_,I',q⟩)
theorem qN(lo hi:Option Int)(n:Nat):(sliceBounds lo hi none n).1=((HT.eO n 0 lo:Nat):Int)/\(sliceBounds lo hi none n).2.1=((HT.eO n n hi:Nat):Int)/\(sliceBounds lo hi none n).2.2=1:=by
 refine ⟨?_,?_,rfl⟩
 ·cases lo with
  | none=>simp [sliceBounds,HT.eO]
  | some i =>
   simp only [sliceBounds,HT.eO,Option.getD_none,show (1:Int) > 0 by decide,if_true];by_cases h:i<0
   ·simp only [h,if_true] <;> omega
   ·simp only [h,if_false] <;> omega
 ·cases hi with
  | none=>simp [sliceBounds,HT.eO]
  | some i =>
   simp only [sliceBounds,HT.eO,Option.getD_none,show (1:Int) > 0 by decide,if_true];by_cases h:i<0
   ·simp only [h,if_true] <;> omega
   ·simp only [h,if_false] <;> omega
theorem oX(its:List Value)(lo hi:Option Int):slicePick its.toArray lo hi none=((its.drop (HT.eO its.length 0 lo)).take (HT.eO its.length its.length hi-HT.eO its.length 0 lo)).toArray:=by
 obtain ⟨h1,h2,h3⟩:=qN lo hi its.toArray.size;unfold slicePick;rw [h1,h2,h3];simp only [sliceRange_one,pick_run,aI] <;> rfl
def NS(K:PySem.W.Frag):V->Option Int->Option Int->Hp->VK->Prop:=λx lo hi H Q=>∃a xs,x=.ref a/\fA K H a xs/\∀p,H p=none->Q (.ref p) (upd H p (.lst (iU xs lo hi)))
theorem wI:MX X (NS X.K):=by
 intro pins s σ H x v vl vu lo hi sl Q I rx hs pl pu h;obtain ⟨a,xs,rfl,hx,q⟩:=h;cases rx;obtain ⟨its,r,ht,hz⟩:=I.list hx;have hlen:=r.length;refine ⟨"list",_,slot_list_getitem.lookup,ht.isList.typeIs,?_⟩;refine wpAny_getItem_list_slice ht.isList hs pl pu .none (by simp) ?_ (by rw [aI] <;> omega);rw [oX,<-hlen];refine ⟨.ref s.heap.objs.size,_,I.laid (t':=s.toks) (o:=.lst (iU xs lo hi)) (λb ob q=>aA _ q) (aC _) ?_,rfl,q _ (I.hok.fresh (aC _))⟩;exact ⟨aU (mL xs lo hi) hz,_,0,(r.drop (HT.eO xs.length 0 lo)).take (HT.eO xs.length xs.length hi-HT.eO xs.length 0 lo),aK _ rfl⟩
def kB:V->Bool
 | .non=>true
 | .bl _=>true
 | .int _=>true
 | .str _=>true
 | _=>false
def GW:V->V->Bool
 | .non,.non=>true
 | .bl a,.bl b=>a == b
 | .bl a,.int b=>(if a then 1 else 0) == b
 | .int a,.bl b=>a == (if b then 1 else 0)
 | .int a,.int b=>a == b
 | .str a,.str b=>a == b
 | _,_=>false
theorem LT{A:Around}{s:Shared}{y x:V}{u v:Value}(ry:cB y u)(rx:cB x v)(fy:kB y=true)(fx:kB x=true):SeqAt.EqAt A s u v (GW y x):=by
 cases y with
 | non =>
  cases ry;cases x with
  | non=>cases rx;exact SeqAt.EqAt.same _
  | bl b=>cases rx;exact SeqAt.EqAt.none_bool b
  | int b=>obtain ⟨t,rfl⟩:=rx;exact SeqAt.EqAt.none_int b t
  | str b=>obtain ⟨t,rfl⟩:=rx;exact SeqAt.EqAt.none_str b t
  | _=>exact absurd (show false=true from fx) aS
 | bl a =>
  cases ry;cases x with
  | non=>cases rx;exact SeqAt.EqAt.bool_none a
  | bl b=>cases rx;exact SeqAt.EqAt.bool_bool a b
  | int b=>obtain ⟨t,rfl⟩:=rx;exact SeqAt.EqAt.bool_int a b t
  | str b=>obtain ⟨t,rfl⟩:=rx;exact SeqAt.EqAt.bool_str a b t
  | _=>exact absurd (show false=true from fx) aS
 | int a =>
  obtain ⟨t',rfl⟩:=ry;cases x with
  | non=>cases rx;exact SeqAt.EqAt.int_none a t'
  | bl b=>cases rx;exact SeqAt.EqAt.int_bool a t' b
  | int b=>obtain ⟨t,rfl⟩:=rx;exact SeqAt.EqAt.int_int a t' b t
  | str b=>obtain ⟨t,rfl⟩:=rx;exact SeqAt.EqAt.int_str a t' b t
  | _=>exact absurd (show false=true from fx) aS
 | str a =>
  obtain ⟨t',rfl⟩:=ry;cases x with
  | non=>cases rx;exact SeqAt.EqAt.str_none a t'
  | bl b=>cases rx;exact SeqAt.EqAt.str_bool a t' b
  | int b=>obtain ⟨t,rfl⟩:=rx;exact SeqAt.EqAt.str_int a t' b t
  | str b=>obtain ⟨t,rfl⟩:=rx;exact SeqAt.EqAt.str_str a t' b t
  | _=>exact absurd (show false=true from fx) aS
 | _=>exact absurd (show false=true from fy) aS
def GX(x:V)(u:Value):Bool:=match u with
 | .none=>GW .non x
 | .bool b=>GW (.bl b) x
 | .int i _=>GW (.int i) x
 | .str z _=>GW (.str z) x
 | _=>false
theorem DL{x y:V}{u:Value}(r:cB y u)(f:kB y=true):GX x u=GW y x:=by
 cases y with
 | non=>cases r;rfl
 | bl b=>cases r;rfl
 | int i=>obtain ⟨t,rfl⟩:=r;rfl
 | str z=>obtain ⟨t,rfl⟩:=r;rfl
 | _=>exact absurd (show false=true from f) aS
theorem rM{x:V}:∀{xs:List V}{us:List Value},bW xs us->xs.all kB=true->us.any (GX x)=xs.any λy=>GW y x
 | _,_,.nil,_=>rfl
 | y::xs,u::us,.cons r t,f=>by
  rw [List.all_cons,bJ] at f;rw [List.any_cons,List.any_cons,DL r f.1,rM t f.2]
theorem oA{A:Around}{s:Shared}{x:V}{v:Value}(rx:cB x v)(fx:kB x=true):∀{xs:List V}{us:List Value},bW xs us->xs.all kB=true->∀u∈us,SeqAt.EqAt A s u v (GX x u)
 | _,_,.nil,_=>λu hu=>by cases hu
 | y::xs,u::us,.cons r t,f=>λu' hu=>by
  rw [List.all_cons,bJ] at f;rcases aP.mp hu with rfl | hu
  ·rw [DL r f.1];exact LT r rx f.1 fx
  ·exact oA rx fx t f.2 u' hu
def OR(x:V)(xs:List V):Bool:=xs.any λy=>GW y x
def SR(K:PySem.W.Frag)(neg:Bool):R2:=λx y H Q=>∃p xs,y=.ref p/\(fA K H p xs\/eT K H p xs)/\kB x=true/\xs.all kB=true/\Q (.bl (if neg then !OR x xs else OR x xs)) H
theorem zG:mR X (compareOp .In) (SR X.K false):=by
 intro pins s σ H x y v u Q I rx ry h;obtain ⟨p,xs,rfl,hq,fx,fs,q⟩:=h;cases ry;rcases hq with hq | hq
 ·obtain ⟨its,r,pl,hz⟩:=I.list hq;refine SeqAt.in_listAt (GX x) pl.isList (λw hw=>oA rx fx r fs w (by simpa using hw)) ⟨.bl _,H,I,rfl,?_⟩;rw [show its.toArray.any (GX x)=its.any (GX x) by simp,rM r fs];exact q
 ·obtain ⟨its,r,pl,hz⟩:=I.tuple hq;refine SeqAt.in_tupleAt (GX x) pl (λw hw=>oA rx fx r fs w (by simpa using hw)) ⟨.bl _,H,I,rfl,?_⟩;rw [show its.toArray.any (GX x)=its.any (GX x) by simp,rM r fs];exact q
theorem rH:eS X (.type "list") (λxs H Q=>∃p ys,xs=[.ref p]/\(fA X.K H p ys\/eT X.K H p ys)/\∀l,H l=none->Q (.ref l) (upd H l (.lst ys))):=by
 intro pins s σ H xs us Q I r h;obtain ⟨p,ys,rfl,hq,q⟩:=h;obtain ⟨u,rfl,rx⟩:=iA r;cases rx;have fin:∀(its:List Value),bW ys its->ys.length<=sizeLine->∀(h':Heap) (c':Nat),(∀b o',s.heap.get? b=some o'->h'.get? b=some o') ->
   h'.get? s.heap.objs.size=some { cls:=.type "list",dict:=none,data:=.seq its.toArray c',slots:=#[] }->EP X pins σ Q (.ref s.heap.objs.size) { s with heap:=h' }:=λits r' hz h' c' kp e =>
  ⟨.ref s.heap.objs.size,_,I.laid (t':=s.toks) kp (aC _) (show cQ X.prog X.w _ h' _ (.lst ys) from ⟨hz,its,c',r',e⟩),rfl,q _ (I.hok.fresh (aC _))⟩
 rcases hq with hq | hq
 ·obtain ⟨its,r',pl,hz⟩:=I.list hq;have hlen:=r'.length;obtain ⟨o,ho,hc,n,hd⟩:=pl.isList;exact call_list_seq p (.inl rfl) ho hc hd (λh' c' kp e=>fin its r' hz h' c' kp e) (by simp only [aI] <;> omega)
 ·obtain ⟨its,r',pl,hz⟩:=I.tuple hq;have hlen:=r'.length;obtain ⟨o,ho,hc,n,hd⟩:=pl;exact call_list_seq p (.inr rfl) ho hc hd (λh' c' kp e=>fin its r' hz h' c' kp e) (by simp only [aI] <;> omega)
theorem dS:eS X (.type "tuple") (λxs H Q=>∃p ys,xs=[.ref p]/\((fA X.K H p ys/\∀l,H l=none->Q (.ref l) (upd H l (.tup ys)))\/(eT X.K H p ys/\Q (.ref p) H))):=by
 intro pins s σ H xs us Q I r h;obtain ⟨p,ys,rfl,h⟩:=h;obtain ⟨u,rfl,rx⟩:=iA r;cases rx;rcases h with ⟨hq,q⟩ | ⟨hq,q⟩
 ·obtain ⟨its,r',pl,hz⟩:=I.list hq;have hlen:=r'.length;refine call_tuple_list pl.isList (λh' kp=>?_) (by simp only [aI] <;> omega);have I1:bG X pins σ H { s with heap:=h' }:=I.kept (t':=s.toks) kp;have I2:bG X pins σ (upd H h'.objs.size (.tup ys)) { s with heap:=h'.push { cls:=.type "tuple",data:=.seq its.toArray } } :=
   I1.laid (t':=s.toks) (λb o e=>aA _ e) (aC _) (show cQ X.prog X.w _ _ _ (.tup ys) from ⟨⟨hz,_,aK _ rfl,rfl⟩,its,r',IsTup.new _ _⟩)
  exact ⟨.ref h'.objs.size,_,I2,rfl,q _ (I1.hok.fresh (aC _))⟩
 ·obtain ⟨its,r',pl,hz⟩:=I.tuple hq;exact call_tuple_same pl ⟨.ref p,H,I,rfl,q⟩
def QF(K:PySem.W.Frag)(T:String)(x:V)(H:Hp):Prop:=match x with
 | .str _=>T = "str"
 | .int _=>T = "int"
 | .ref p=>(T = "list" /\ ∃xs,fA K H p xs)\/(T = "tuple" /\ ((∃o,K.lookup p=some o/\o.cls=.type "tuple" /\ o.dict=none)\/∃xs,H p=some (.tup xs))) \/
   (T = "dict" /\ ((∃kvs,H p=some (.dK kvs))\/∃kvs,H p=some (.dT kvs)))\/(T = "set" /\ ∃S n,H p=some (.set S n))
 | _=>False
theorem IZ{pins:List (Addr × Obj)}{σ:St}{H:Hp}{s:Shared}{T:String}{x:V}{v:Value}(I:bG X pins σ H s)(r:cB x v)(ty:QF X.K T x H) :
  s.TypeIs v T/\∀a,v=.ref a->∃ob,s.heap.get? a=some ob/\ob.dict=none:=by
 cases x with
 | str z =>
  obtain ⟨t,rfl⟩:=r;cases (show T = "str" from ty);exact ⟨typeIs_str s z t,λ_ e=>nomatch e⟩
 | int i =>
  obtain ⟨t,rfl⟩:=r;cases (show T = "int" from ty);exact ⟨typeIs_int s i t,λ_ e=>nomatch e⟩
 | ref p =>
  cases r;rcases ty with ⟨rfl,xs,hq⟩ | ⟨rfl,⟨o,hk,hc,hd⟩ | ⟨xs,hq⟩⟩ | ⟨rfl,hk⟩ | ⟨rfl,S,n,hk⟩
  ·obtain ⟨its,_,pl,_⟩:=I.list hq;refine ⟨pl.isList.typeIs,λa e=>?_⟩;cases e;obtain ⟨o,n,e,c,hd,_⟩:=pl;exact ⟨o,e,hd⟩
  ·refine ⟨⟨o,I.kIn p o hk,hc⟩,λa e=>?_⟩;cases e;exact ⟨o,I.kIn _ o hk,hd⟩
  ·obtain ⟨⟨_,on,en,dn⟩,_,_,o,e1,e2,_⟩:=(show cQ X.prog X.w H s.heap p (.tup xs) from I.hok p _ hq);refine ⟨⟨o,e1,e2⟩,λa e=>?_⟩;cases e;exact ⟨on,en,dn⟩
  ·have z:∃o,s.heap.get? p=some o/\o.ExactDict:=by
    rcases hk with ⟨kvs,hk⟩ | ⟨kvs,hk⟩
    ·obtain ⟨_,_,_,_,o,_,_,e,ex,_⟩:=I.hok p _ hk;exact ⟨o,e,ex⟩
    ·obtain ⟨_,_,_,_,o,_,_,e,ex,_⟩:=I.hok p _ hk;exact ⟨o,e,ex⟩
   obtain ⟨o,e,ex⟩:=z;refine ⟨⟨o,e,ex.1⟩,λa e2=>?_⟩;cases e2;exact ⟨o,e,ex.2.1⟩
  ·obtain ⟨o,_,_,_,e,ex,_⟩:=I.hok p _ hk;refine ⟨⟨o,e,ex.1⟩,λa e2=>?_⟩;cases e2;exact ⟨o,e,ex.2.1⟩
 | _=>exact False.elim ty
def SC(K:PySem.W.Frag)(T:String)(r:V->List V->Hp->VK->Prop)(to:TE)(t:TA):TE:=λσ H Q=>to σ H λx H1=>QF K T x H1/\t σ H1 λxs H2=>r x xs H2 Q
variable{o e:Expr}{es:List Expr}{to:TE}{t:TA}{name:Str}{apos cpos:Pos}{T id:String}{r:V->List V->Hp->VK->Prop}
theorem OE(pa:PlainAttrs T)(slot:Slot T name id)(hty:typeOf (.builtin id)=pure (.type "method_descriptor"))(hm:MO X id r)(ho:PE X o to)(ha:PA X (e::es) t)
  (hbase:attributeBase o name X.env (eval o X.env)=eval o X.env:=by rfl)
  (hfew:((backTo cpos (starEach (e::es) X.env)).all (λx=>!x.1)&&(backToKw cpos (keywordEach [] X.env)).all (λx=>x.1.isSome)
   && decide ((e::es).length+([]:List Keyword).length+(if ([]:List Keyword).isEmpty then 0 else 1)<30))=true:=by rfl)
  (hline:(apos.endLine == cpos.line)=true:=by rfl) (hs:starEach (e::es) X.env=(false,eval e X.env)::starEach es X.env:=by rfl) (hplain:(backTo cpos (starEach es X.env)).any (·.1)=false:=by rfl) :
  PE X (.Call (.Attribute o name apos) (e::es) [] cpos) (SC X.K T r to t):=by
 intro pins s σ H Q I h;refine wpAny_Call_method_late hbase hfew hline rfl (thn (ho pins s σ H _ I h) λv s1 ⟨x,H1,I1,r1,ty,q1⟩=>?_);obtain ⟨h1,h2⟩:=IZ I1 r1 ty;refine ⟨T,id,pa,slot,hty,h1,h2,?_⟩;have hA:=ha cpos pins s1 σ H1 _ I1 q1;rw [hs] at hA ⊢;refine Calls.callWith_builtin (by show (false || (backTo cpos (starEach es X.env)).any (·.1))=false;rw [hplain] <;> rfl) (Calls.evalArgs_plain ?_);exact thn hA λus s2 ⟨vs,H2,I2,r2,q2⟩=>hm pins s2 σ H2 x vs v us Q I2 r1 r2 q2
/- xs.append(e),list.index on a module's tuple .. are MO facts of 06m -/
end
def SK(X:Cx)(id:String)(r:V->List V->Hp->VK->Prop):Prop :=
 ∀(pins:List (Addr × Obj)) (s:Shared) (σ:St) (H:Hp) (x:V) (xs:List V) (v:Value) (us:List Value) (Q:VK),bG X pins σ H s->cB x v->bW xs us->r x xs H Q ->
  wpAny (model X.prog X.w) X.A (call (.builtin id) (v::us)) (EP X pins σ Q) X.xe s
theorem bW.one:∀{x:V}{us:List Value},bW [x] us->∃u,us=[u]/\cB x u
 | _,_,.cons r .nil=>⟨_,rfl,r⟩
theorem pT(its:List Value):∀(k:Nat) (acc:List Value),
  List.foldl (λx1 x2=>x1++x2) acc.toArray (List.replicate k its.toArray)=(acc++(List.replicate k its).flatten).toArray
 | 0,acc=>by simp
 | k+1,acc=>by
  have e:acc.toArray++its.toArray=(acc++its).toArray:=by simp
  have e2:(acc++its)++(List.replicate k its).flatten=acc++(List.replicate (k+1) its).flatten:=by
   rw [List.replicate_succ,List.flatten_cons,List.append_assoc]
  rw [<-e2,<-pT its k (acc++its),<-e,List.replicate_succ,List.foldl_cons]
section
variable{X:Cx}{pins:List (Addr × Obj)}{σ:St}{H:Hp}{s:Shared}{l b:Addr}{xs ys zs:List V}
theorem bG.lset{its its':List Value}{n:Nat}{f:Array Value->Array Value}{t':Nat}(I:bG X pins σ H s)(hH:H l=some (.lst xs))
  (e:s.heap.get? l=some { cls:=.type "list",data:=.seq its.toArray n }) (hf:f its.toArray=its'.toArray) (hv:bW ys its') (hz:ys.length<=sizeLine) :
  bG X pins σ (upd H l (.lst ys)) { s with heap:=s.heap.update l (Obj.mapSeq f),toks:=t' }:=by
 have q:=PySem.IsL.update e f;rw [hf] at q;refine I.write (x:=l) (e:=l) (by rw [hH];exact trivial) (.inl rfl) (λb' u hb hu=>(Heap.get?_update_other s.heap (Obj.mapSeq f) (Ne.symm hb)).trans hu) ⟨_,q⟩ ?_;exact ⟨hz,its',_,hv,q⟩
theorem bG.lnew{its:List Value}{t':Nat}(I:bG X pins σ H s)(hv:bW ys its)(hz:ys.length<=sizeLine) :
  bG X pins σ (upd H s.heap.objs.size (.lst ys)) { s with heap:=s.heap.push { cls:=.type "list",data:=.seq its.toArray },toks:=t' } :=
 I.laid (λ_ _ q=>aA _ q) (aC _) ⟨hz,its,0,hv,aK _ rfl⟩
theorem bG.fresh(I:bG X pins σ H s):H s.heap.objs.size=none:=I.hok.fresh (aC _)
theorem bG.lstM(I:bG X pins σ H s)(hH:H l=some (.lst xs)):xs.length<=sizeLine/\∃(its:List Value) (n:Nat),bW xs its/\xs.length=its.length/\s.heap.get? l=some { cls:=.type "list",data:=.seq its.toArray n }:=by
 obtain ⟨z,its,n,r,e⟩:=I.hok l _ hH;exact ⟨z,its,n,r,r.length,e⟩
theorem CK{n:Nat}(h:n<=sizeLine):Builtin.List.listTooLong n=false:=by
 unfold Builtin.List.listTooLong;exact bE Oo
end
section
variable{X:Cx}
def wS:V->List V->Hp->VK->Prop:=λx vs H Q=>∃l xs y,x=.ref l/\vs=[y]/\H l=some (.lst xs)/\xs.length<sizeLine/\Q .non (upd H l (.lst (xs++[y])))
theorem lJ:SK X "list.append" wS:=by
 intro pins s σ H x vs v us Q I rx rv h;obtain ⟨l,xs,y,rfl,rfl,hH,hz,q⟩:=h;cases rx;obtain ⟨u,rfl,ru⟩:=rv.one;obtain ⟨z,its,n,r,hl,e⟩:=I.lstM hH;refine call_meets F.slot_list_append ⟨_,e,rfl⟩ F.entry_list_append (F.args_list_append_2 _ _) (PySem.list_append l its.toArray n u (by rw [aI];omega)) ⟨e,?_⟩;refine ⟨.non,_,I.lset (its':=its++[u]) hH e (by simp) (r.append (.cons ru .nil)) ?_,rfl,q⟩;rw [bC,List.length_singleton];omega
def wQ:V->List V->Hp->VK->Prop:=λx vs H Q=>∃l b xs zs,x=.ref l/\vs=[.ref b]/\H l=some (.lst xs)/\H b=some (.lst zs)/\xs.length+zs.length<=sizeLine/\Q .non (upd H l (.lst (xs++zs)))
theorem zI:SK X "list.extend" wQ:=by
 intro pins s σ H x vs v us Q I rx rv h;obtain ⟨l,b,xs,zs,rfl,rfl,hH,hB,hz,q⟩:=h;cases rx;obtain ⟨u,rfl,ru⟩:=rv.one;cases ru;obtain ⟨z,its,n,r,hl,e⟩:=I.lstM hH;obtain ⟨z2,its2,n2,r2,hl2,e2⟩:=I.lstM hB;have hsz:its.toArray.size+its2.toArray.size<=sizeLine:=by rw [aI,aI];omega
 have hlong:¬(!its.toArray.isEmpty&&Builtin.List.listTooLong (its.toArray.size+its2.toArray.size))=true:=by
  rw [CK hsz,Bool.and_false];exact aS
 refine call_meets F.slot_list_extend ⟨_,e,rfl⟩ F.entry_list_extend (F.args_list_extend_2 _ _)
  (AutoSeq1.list_extend_list_list_0 l its.toArray n b its2.toArray n2 hlong (by rw [aI];omega) Oo) ⟨e,e2,?_⟩
 refine ⟨.non,_,I.lset (its':=its++its2) hH e (by simp) (r.append r2) ?_,rfl,q⟩;rw [bC];omega
def NX:R2:=λx y H Q=>∃l b xs zs,x=.ref l/\y=.ref b/\H l=some (.lst xs)/\H b=some (.lst zs)/\xs.length+zs.length<=sizeLine/\∀p,H p=none->Q (.ref p) (upd H p (.lst (xs++zs)))
theorem KS:mR X (binaryOp .Add) NX:=by
 intro pins s σ H x y v u Q I rx ry h;obtain ⟨l,b,xs,zs,rfl,rfl,hH,hB,hz,q⟩:=h;cases rx;cases ry;obtain ⟨z,its,n,r,hl,e⟩:=I.lstM hH;obtain ⟨z2,its2,n2,r2,hl2,e2⟩:=I.lstM hB;refine PySem.P.add_list e e2 ?_ (by rw [aI,aI];omega);have ea:its.toArray++its2.toArray=(its++its2).toArray:=by simp
 rw [ea];exact ⟨.ref _,_,I.lnew (t':=s.toks) (r.append r2) (by rw [bC];omega),rfl,q _ I.fresh⟩
end
section
variable{prog:Program}{w:World}{A:Around}{E:Value->Shared->Prop}{s:Shared}
end
section
variable{X:Cx}
end
end L2
namespace Att
open PySem PySem.W PySem.Calls PyProof.Rows
theorem mP{P:Params}{h:Heap}:∀(ns:List Int) (vs:List Value),WellAll P h vs (ns.map WData.int)->IntsAre vs ns:=by
 intro ns
 induction ns with
 | nil =>
  intro vs w;rw [List.map_nil] at w;cases w;exact .nil
 | cons n ns ih =>
  intro vs w;rw [bA] at w;cases w with
  | cons a b =>
   cases a;exact .cons _ _ (ih _ b)
theorem yT{l:OpenLaw}{n:Nat}(hn:l.most=some n){P:Params}{h:Heap}{args:List WData}{vals:List Value}
  (hpre:l.row.toRowW.claim.pre args=true) (hwl:WellAll P h vals args) :
  ∃a vs ns,vals=[Value.ref a]/\args=[WData.list (ns.map WData.int)]/\h.get? a=some { cls:=.type "list",data:=.seq vs.toArray }/\IntsAre vs ns/\ns.length<=n:=by
 have hsh:WShape.hasAll [] args [.list .int]=true:=(pre_splitW hpre).1;have hc:l.pre.holds [] { args:=args }=true:=(pre_splitW hpre).2;obtain ⟨d,r,rfl,h1,h2⟩:=hasAllW_cons hsh;obtain rfl:=hasAllW_nil h2;obtain ⟨xs,rfl,h3⟩:=hasW_list h1;obtain ⟨ns,rfl⟩:=items_int h3;have hlen:ns.length<=n:=by
  unfold OpenLaw.pre at hc;have h4:(WTm.not (.lt (.lit (.int (n:Int))) (.len (.arg 0)))).holds [] { args:=[.list (ns.map .int)] }=true:=by
   have h4:=(holds_andW hc).1;rw [hn] at h4;exact h4
  have h5:=condW_of h4 (w_not (w_lt w_lit (w_len_list (w_arg rfl))));rw [aB] at h5;refine Nat.le_of_not_lt λq=>?_;have q':(n:Int)<((ns.length:Nat):Int):=Oo
  first
   | (rw [bN q'] at h5;exact absurd h5 Dd)
   | (simp at h5;omega)
 cases hwl with
 | cons w1 w2 =>
  cases w2;cases w1 with
  | list ho hall=>exact ⟨_,_,ns,rfl,rfl,ho,mP ns _ hall,hlen⟩
theorem yX(l:OpenLaw)(args:List WData):l.row.toRowW.claim.post args (.bool true) args=true :=
 postW_of (r:=l.row.toRowW) (X:=(true == true))
  (show WShape.has [] (.bool true) .bool=true by first | rfl | decide | simp [WShape.has,WShape.arms,WShape.armsAll])
  (show (WTm.eq .res (.lit (.bool true))).value [] { args:=args,res:=some (.bool true),after:=args }=some (.bool (true == true)) from w_eq_bool (w_res rfl) w_lit) rfl
theorem tY{l:OpenLaw}{n:Nat}{q:Program}{loose:List Str}{XP:(Str->Option Value)->Heap->Prop}{YP:World->Heap->Prop}{d:DefRec}
  (hn:l.most=some n) (hdf:d.params.defaults=[])
  (call:∀(w:World) (s₀ s₁:Shared) (mg mb:Str->Option Value) (fa:Addr) (o:Obj) (pm cd doc:Value) (a:Addr) (vs:List Value) (ns:List Int),
   Ground q loose [] XP w s₀ mg mb s₁.heap->YP w s₁.heap ->
   s₁.heap.get? fa=some o->o.data=.func (docDef d.name d.params d.body d.scope pm cd doc)->s₁.heap.CodeRec cd d.name->mg d.name=some (.ref fa) ->
   s₁.heap.get? a=some { cls:=.type "list",data:=.seq vs.toArray }->IntsAre vs ns->ns.length<=n->s₁.gens=#[] ->
   codeAny (model l.prog w) callerA (.call (.ref fa) ⟨[.ref a],[]⟩) (λr s'=>r=.ok (.ret (.bool true))/\OldK s₁.heap s'.heap/\s'.os=s₁.os/\AllBare s'.gens) s₁) :
  WalkO q loose XP YP l.row.toRowW d [] (λf vs=>PySem.call f vs):=by
 intro w s₀ s₁ mg mb G Y fa o pm cd doc dV kV ho hd hcd hD hmg hg args vals as hpre hlay hrd hwl hlo;obtain rfl:dV=.none:=Dflts.none hD hdf;obtain rfl:kV=.none:=Dflts.noKw hD;obtain ⟨a,vs,ns,rfl,rfl,hobj,hints,hlen⟩:=yT hn hpre hwl;refine enter_call (codeAny_mono (call w s₀ s₁ mg mb fa o pm cd doc a vs ns G Y ho (fd_plain hd) hcd hmg hobj hints hlen hg) λr s' hq=>?_);obtain ⟨rfl,h2,h3,h4⟩:=hq;exact ⟨.inl ⟨.bool true,.bool true,[],rfl,λ_=>rfl,.bool true,yX l _,λ_=>⟨List.Pairwise.nil,λ_ hm=>(nomatch hm)⟩⟩,h2,h3,h4⟩
section
variable{prog:Program}{w:World}{A:Around}{E:Value->Shared->Prop}{s:Shared}{K:Frag}
end
end Att
namespace L2
open PySem PySem.Spec PyProof.Rows
theorem pG:∀{vs:List Value}{ns:List Int},IntsAre vs ns->bW (ns.map V.int) vs
 | _,_,.nil=>.nil
 | _,_,.cons n t h=>.cons ⟨t,rfl⟩ (pG h)
end L2
/- THE LAST THEOREM (shape;LID,My.* are yours):
   My.Adr: a structure of the addresses that your layer names (classes,functions);My.Txt K t: a structure (Prop) of the equations over K;
   My.txt_mk:{K} {implicit addresses ..} (e1:nsIn K mainGlobals "law" = some (some (.ref f))) (e2:K.lookup f=some ⟨oc,od,.func (fnOf "law" "law" params body scope dV kV doc pm an cdv ct),sl⟩) (e3:codeIn K cdv "law" = true) .. : ∃t,My.Txt K t
set_option maxRecDepth 100000 in
set_option maxHeartbeats 0 in
theorem PySem.Challenge.cw_LID_holds : PySem.Challenge.rw_LID.Holds := by
  w_on;o_law;k_head;(case hw=>w_witness2)
  k_fill
  refine L2.walk_of (l:=PySem.Challenge.rw_LID) (n:=63) (k:=40) (x := "script") (CX:=λw=>..) (sp:=λ_=>My.sp_law) rfl Dd rfl ⟨rfl,Dd,Dd⟩ (λw h Y=>PySem.W.kIn_of Y) ?F ?S ?C
  case F =>
    intro w mg fa h KX G hmg;have T:∃t,My.Txt (L2.KOf KX) t:=by
      dsimp only [L2.KOf]                          -- K must stand as «<heap const> w.params» for k_is
      refine' My.txt_mk ?e1 ?e2 ?e3 ..
      (case e1=>PySem.W.k_is)                    -- in the order: a name -> its address -> its object -> its parts
      (case e2=>PySem.W.k_is)
      ..
    obtain ⟨t,T⟩:=T;have e0:=hmg.symm.trans (PySem.W.mg_of KX G T.law);cases e0                                       -- fa is the law's own address;exact ⟨_,λs u=>.of_eq rfl,λbase kb nb=>My.law_fn T kb nb⟩     -- if «.of_eq rfl» comes too early: refine' ⟨_,?b,λbase kb nb=>My.law_fn T kb nb⟩;exact λs u=>.of_eq rfl
  case S=>exact λw H a ns hl hO hS=>..
  case C=>exact ..
(the tactic k_is has no namespace: write k_is) -/
namespace L2
open PySem PySem.Spec PyProof.Rows
def hU(s:Stmt):Arguments:=match s with
 | .FunctionDef _ a _ _ _ _ _ _ _ _=>a
 | _=>{ posonlyargs:=[],args:=[],vararg:=none,kwonlyargs:=[],kw_defaults:=[],kwarg:=none,defaults:=[] }
def eZ(s:Stmt):List Stmt:=match s with
 | .FunctionDef _ _ b _ _ _ _ _ _ _=>b
 | _=>[]
def aZ(s:Stmt):Scope:=match s with
 | .FunctionDef _ _ _ _ _ _ sc _ _ _=>sc
 | _=>{ kind:=.function,names:=[],isGenerator:=false,isCoroutine:=false }
abbrev eI:AN:=λ_ _ _ _ _ _=>False
abbrev E0:XK:=λ_ _ _=>False
theorem OF{X:Cx}:vQ eI X E0:=λ_ _ _ _ _ _ _ h=>h.elim
structure iW(K:PySem.W.Frag)(x qual:Str)(st:Stmt)(f:Addr)(fd:FuncData):Prop where
 ex:∃(oc:Value) (od:Option Addr) (kV doc pm:Value) (an:Option Addr) (cdv ct:Value) (osl:Array (Option Value)),
  fd=PySem.W.fnOf x qual (hU st) (eZ st) (aZ st) .none kV doc pm an cdv ct/\K.lookup f=some ⟨oc,od,.func fd,osl⟩/\PySem.W.codeIn K cdv qual=true
 kp:PySem.W.keepIn K (.ref f)=true
section
variable{P:Program}{w:World}{K:PySem.W.Frag}{mg:Str->Option Value}{base:Heap}
theorem iW.ok{x qual:Str}{st:Stmt}{f:Addr}{fd:FuncData}{N ps:List Str}{k:Nat}{sp:Sp}(F:iW K x qual st f fd)(S:cJ N ps (aZ st))(len:∀vs H Q E,sp vs H Q E->vs.length=ps.length)
  (hbody:∀(cdv:Value) (A:Around) (outer:List Env) (s:Shared) (H:Hp) (vs:List V) (Q:VK) (E:XK),eR k (A.deeper (envOfC qual (aZ st) s.heap.objs.size f cdv))->sp vs H Q E ->
   ∃t,vR (mQ eI P w K mg base N qual (aZ st) f cdv A outer s H E).nox (eZ st) t/\t { nx:=λ_ H'=>Q .non H',rt:=Q } (start N vs) H):dW P w K mg base eI (k+1) f fd ps sp:=by
 obtain ⟨oc,od,kV,doc,pm,an,cdv,ct,osl,rfl,lk,hcd⟩:=F.ex;refine IJ lk hcd S len λA outer s H vs Q E hr hsp=>?_;obtain ⟨t,h,q⟩:=hbody cdv A outer s H vs Q E hr hsp;exact ⟨t,h.nox,q⟩
theorem iW.binds{x qual:Str}{st:Stmt}{f:Addr}{fd:FuncData}{ps:List Str}(F:iW K x qual st f fd)
  (h:∀(kV doc pm:Value) (an:Option Addr) (cdv ct:Value) (us:List Value),us.length=ps.length->bindArgs (PySem.W.fnOf x qual (hU st) (eZ st) (aZ st) .none kV doc pm an cdv ct) ⟨us,[]⟩=pure (ps.zip us)):kR K fd ps []:=by
 obtain ⟨oc,od,kV,doc,pm,an,cdv,ct,osl,rfl,lk,hcd⟩:=F.ex;exact .all (h kV doc pm an cdv ct)
theorem rE{x qual:Str}{st:Stmt}{f:Addr}{oc:Value}{od an:Option Addr}{osl:Array (Option Value)}{kV doc pm cdv ct:Value}(l:K.lookup f=some ⟨oc,od,.func (PySem.W.fnOf x qual (hU st) (eZ st) (aZ st) .none kV doc pm an cdv ct),osl⟩)
  (c:PySem.W.codeIn K cdv qual=true) (k:PySem.W.keepIn K (.ref f)=true):iW K x qual st f (PySem.W.fnOf x qual (hU st) (eZ st) (aZ st) .none kV doc pm an cdv ct):=⟨⟨oc,od,kV,doc,pm,an,cdv,ct,osl,rfl,l,c⟩,k⟩
end
theorem lD{n:Nat}(h:n<=1000):n<sizeLine:=aV h Dd
section
variable{X:Cx}
theorem pv(i:Nat){x:Str}{pos:Pos}(hN:X.N[i]?=some x:=by rfl)(hv:QB X.env.scope x:=by first | exact Or.inl rfl | exact Or.inr (Or.inl rfl) | exact Or.inr (Or.inr rfl))(hd:(x == ("__debug__" : Str))=false:=by decide)
  (hcd:(x == ("__classdict__" : Str))=false:=by decide):PE X (.Name x pos) (JA i):=KM hN hv hd hcd
end
theorem LL{A B:Prop}(h:B):if false=true then A else B:=by
 rw [if_neg aS];exact h
theorem OQ{c A B:Prop}[Decidable c](h1:c->A)(h2:¬c->B):if c then A else B:=by
 by_cases h:c
 ·rw [if_pos h];exact h1 h
 ·rw [if_neg h];exact h2 h
theorem xG{c A B:Prop}[Decidable c](hc:c)(h:B):if (!decide c)=true then A else B:=by
 rw [bN hc];exact LL h
def aW(H H':Hp):Prop:=∀b o,H b=some o->H' b=some o
theorem aW.refl(H:Hp):aW H H:=λ_ _ h=>h
theorem aW.trans{H H1 H2:Hp}(a:aW H H1)(b:aW H1 H2):aW H H2:=λc o h=>b c o (a c o h)
theorem aW.free{H H':Hp}(e:aW H H'){l:Addr}(h:H' l=Option.none):H l=Option.none:=by
 cases q:H l with
 | none=>rfl
 | some o =>
  rw [e l o q] at h;cases h
section
variable{κ:Type}[DecidableEq κ]
def gS(kvs:List (κ × V))(k:κ):Option V:=(kvs.find? λkv=>decide (kv.1=k)).map (·.2)
def gW(kvs:List (κ × V))(k:κ)(v:V):List (κ × V) :=
 if (kvs.any λkv=>decide (kv.1=k))=true then kvs.map (λkv=>if kv.1=k then (kv.1,v) else kv) else kvs++[(k,v)]
theorem jL{p:κ × V}{r:List (κ × V)}{k:κ}(e:p.1=k):gS (p::r) k=some p.2:=by simp [gS,List.find?_cons,e]
theorem jM{p:κ × V}{r:List (κ × V)}{k:κ}(e:¬p.1=k):gS (p::r) k=gS r k:=by simp [gS,List.find?_cons,e]
theorem rU(k:κ):∀kvs:List (κ × V),(kvs.any λkv=>decide (kv.1=k))=(gS kvs k).isSome
 | []=>rfl
 | p::r=>by
  rw [List.any_cons];by_cases e:p.1=k
  ·simp only [jL e,bN e,Bool.true_or,Option.isSome_some]
  ·rw [jM e,bE e,Bool.false_or];exact rU k r
theorem iL(kvs:List (κ × V))(k:κ)(v:V):(gW kvs k v).length<=kvs.length+1:=by
 unfold gW;split
 ·rw [aB];omega
 ·rw [bC,bI,List.length_nil];omega
theorem lZ.isSome_eq{o:Option V}{u:Option Value}(r:lZ o u):o.isSome=u.isSome:=by
 cases o with
 | none=>cases u with
  | none=>rfl
  | some _=>exact (show False from r).elim
 | some _=>cases u with
  | none=>exact (show False from r).elim
  | some _=>rfl
theorem lZ.getD{o:Option V}{u:Option Value}{d:V}{d':Value}(r:lZ o u)(rd:cB d d'):cB (o.getD d) (u.getD d'):=by
 cases o with
 | none=>cases u with
  | none=>exact rd
  | some _=>exact (show False from r).elim
 | some _=>cases u with
  | none=>exact (show False from r).elim
  | some _=>exact r
theorem KV.val{kvs:List (κ × V)}{vs:List (κ × Value)}(r:KV kvs vs)(k:κ):lZ (gS kvs k) (valueAt vs k):=by
 unfold KV at r
 induction r with
 | nil=>exact True.intro
 | @cons p q ps qs h t ih =>
  obtain ⟨h1,h2⟩:=h;by_cases e:p.1=k
  ·have e':q.1=k:=h1.symm.trans e;have b:valueAt (q::qs) k=some q.2:=by simp [valueAt,List.find?_cons,e']
   rw [jL e,b];exact h2
  ·have e':¬q.1=k:=λz=>e (h1.trans z);have b:valueAt (q::qs) k=valueAt qs k:=by simp [valueAt,List.find?_cons,e']
   rw [jM e,b];exact ih
theorem KV.any{kvs:List (κ × V)}{vs:List (κ × Value)}(r:KV kvs vs)(k:κ):(kvs.any λkv=>decide (kv.1=k))=vs.any λkv=>decide (kv.1=k):=by
 unfold KV at r
 induction r with
 | nil=>rfl
 | cons h t ih=>rw [List.any_cons,List.any_cons,ih,h.1]
theorem KV.repl{kvs:List (κ × V)}{vs:List (κ × Value)}(r:KV kvs vs)(k:κ){y:V}{u:Value}(ry:cB y u) :
  KV (kvs.map λkv=>if kv.1=k then (kv.1,y) else kv) (vs.map λkv=>if kv.1=k then (kv.1,u) else kv):=by
 unfold KV at r ⊢
 induction r with
 | nil=>exact .nil
 | @cons p q ps qs h t ih =>
  rw [bA,bA];refine .cons ?_ ih;obtain ⟨h1,h2⟩:=h;by_cases e:p.1=k
  ·rw [if_pos e,if_pos (h1.symm.trans e)];exact ⟨h1,ry⟩
  ·rw [if_neg e,if_neg (λz=>e (h1.trans z))];exact ⟨h1,h2⟩
theorem KV.put{kvs:List (κ × V)}{vs:List (κ × Value)}(r:KV kvs vs)(k:κ){y:V}{u:Value}(ry:cB y u):KV (gW kvs k y) (stored vs k u):=by
 unfold gW stored;rw [r.any k];by_cases e:(vs.any λkv=>decide (kv.1=k))=true
 ·rw [if_pos e,if_pos e];exact r.repl k ry
 ·rw [if_neg e,if_neg e];exact Paired.snoc r ⟨rfl,ry⟩
theorem KV.length{kvs:List (κ × V)}{vs:List (κ × Value)}(r:KV kvs vs):kvs.length=vs.length:=Paired.length r
end
theorem xE{P:Program}{w:World}{k:dJ}{u:Value}(r:cB (kV k) u):(cH P w).is k u=true:=by
 cases k with
 | inl i=>obtain ⟨t,e⟩:=(show ∃t,u=Value.int i t from r);subst e;exact sU P w i t
 | inr x=>obtain ⟨t,e⟩:=(show ∃t,u=Value.str x t from r);subst e;exact sT P w x t
theorem pQ{P:Program}{w:World}:∀{ks:List dJ}{us:List Value},bW (ks.map kV) us->ItemsAre (cH P w) ks us
 | [],_,r=>by rw [List.map_nil] at r;cases r;exact .nil
 | k::ks,_,r=>by
  rw [bA] at r;cases r with
  | cons h t=>exact .cons (xE h) (pQ t)
abbrev KT(H:Hp):List (List dJ × V)->List (List dJ × Addr × Value)->Prop:=Paired λp q=>p.1=q.1/\H q.2.1=some (.tup (p.1.map kV))/\cB p.2 q.2.2
theorem KT.val{H:Hp}{kvs:List (List dJ × V)}{xs:List (List dJ × Addr × Value)}(r:KT H kvs xs)(k:List dJ):lZ (gS kvs k) ((atKey xs k).map (·.2)):=by
 induction r with
 | nil=>exact True.intro
 | @cons p q ps qs h t ih =>
  obtain ⟨h1,_,h2⟩:=h;by_cases e:p.1=k
  ·have e':q.1=k:=h1.symm.trans e;have b:atKey (q::qs) k=some q.2:=by simp [atKey,List.find?_cons,e']
   rw [jL e,b];exact h2
  ·have e':¬q.1=k:=λz=>e (h1.trans z);have b:atKey (q::qs) k=atKey qs k:=by simp [atKey,List.find?_cons,e']
   rw [jM e,b];exact ih
theorem KT.repl{H:Hp}{kvs:List (List dJ × V)}{xs:List (List dJ × Addr × Value)}(r:KT H kvs xs)(k:List dJ){y:V}{u:Value}(ry:cB y u) :
  KT H (kvs.map λkv=>if kv.1=k then (kv.1,y) else kv) (xs.map (putAt k u)):=by
 induction r with
 | nil=>exact .nil
 | @cons p q ps qs h t ih =>
  rw [bA,bA];refine .cons ?_ ih;obtain ⟨h1,h2,h3⟩:=h;unfold putAt;by_cases e:p.1=k
  ·rw [if_pos e,if_pos (h1.symm.trans e)];exact ⟨h1,h2,ry⟩
  ·rw [if_neg e,if_neg (λz=>e (h1.trans z))];exact ⟨h1,h2,h3⟩
theorem KT.put{H:Hp}{kvs:List (List dJ × V)}{xs:List (List dJ × Addr × Value)}(r:KT H kvs xs)(k:List dJ){b:Addr}{y:V}{u:Value}(hb:H b=some (.tup (k.map kV)))(ry:cB y u) :
  KT H (gW kvs k y) (storedH xs k b u):=by
 have e:(kvs.any λkv=>decide (kv.1=k))=(atKey xs k).isSome:=by
  rw [rU,(r.val k).isSome_eq,Option.isSome_map]
 unfold gW storedH;rw [e];by_cases q:(atKey xs k).isSome=true
 ·rw [if_pos q,if_pos q];exact r.repl k ry
 ·rw [if_neg q,if_neg q];exact Paired.snoc r ⟨rfl,hb,ry⟩
theorem KT.keeps{H H':Hp}{kvs:List (List dJ × V)}{xs:List (List dJ × Addr × Value)}(r:KT H kvs xs)(ht:∀b ys,H b=some (.tup ys)->H' b=some (.tup ys)):KT H' kvs xs :=
 Paired.mapP r λ_ _ z=>⟨z.1,ht _ _ z.2.1,z.2.2⟩
section
variable{P:Program}{w:World}{H:Hp}{h:Heap}{a:Addr}
theorem HX{u:HO}(ok:iC P w H h)(e:Rd H a u):cQ P w H h a u:=e.ok ok
theorem tK{kvs:List (dJ × V)}(ok:iC P w H h)(e:Rd H a (.dK kvs)):kvs.length<=sizeLine/\(a == sysModules)=false/\∃vs,KV kvs vs/\h.DictOf (cH P w) a vs :=
 show cQ P w H h a (.dK kvs) from HX ok e
theorem OZ{kvs:List (dJ × V)}(ok:iC P w H h)(e:H a=some (.dK kvs)):kvs.length<=sizeLine/\(a == sysModules)=false/\∃vs,KV kvs vs/\h.DictOf (cH P w) a vs:=tK ok (.inl e)
theorem lK{ks:List dJ}(ok:iC P w H h)(e:H a=some (.tup (ks.map kV))):(tupleKind (cH P w)).is h ks a:=by
 obtain ⟨_,its,r,o,h1,h2,n,h3⟩:=(show cQ P w H h a (.tup (ks.map kV)) from ok a _ e);exact ⟨o,its.toArray,n,h1,h2,h3,by simpa using pQ r⟩
theorem tI{kvs:List (List dJ × V)}(ok:iC P w H h)(e:Rd H a (.dT kvs)):kvs.length<=sizeLine/\(a == sysModules)=false /\
  ∃xs,KT H kvs xs/\h.DictOfH (tupleKind (cH P w)) a xs:=by
 obtain ⟨z,y,xs,r,o,es,ep,h1,h2,h3,h4,h5⟩:=(show cQ P w H h a (.dT kvs) from HX ok e);refine ⟨z,y,xs,r,o,es,ep,h1,h2,h3,h4,λx hx=>?_,h5⟩;have all:∀{l:List (List dJ × V)} {m:List (List dJ × Addr × Value)},KT H l m->∀x∈m,(tupleKind (cH P w)).is h x.1 x.2.1:=by
  intro l m q
  induction q with
  | nil=>intro x hx;exact nomatch hx
  | @cons p q ps qs hq t ih =>
   intro x hx;rcases aP.mp hx with e | hx
   ·subst e;exact lK ok (by rw [<-hq.1];exact hq.2.1)
   ·exact ih x hx
 exact all r x hx
theorem xR{kvs:List (List dJ × V)}(ok:iC P w H h)(e:H a=some (.dT kvs)):kvs.length<=sizeLine/\(a == sysModules)=false /\
  ∃xs,KT H kvs xs/\h.DictOfH (tupleKind (cH P w)) a xs:=tI ok (.inl e)
end
def kQ(H:Hp)(a:Addr)(y:V)(r:Option V):Prop :=
 (∃kvs k,Rd H a (.dK kvs)/\y=kV k/\r=gS kvs k)\/∃kvs k b,Rd H a (.dT kvs)/\y=.ref b/\H b=some (.tup (k.map kV))/\r=gS kvs k
def AJ(H:Hp)(a:Addr)(y v:V)(H':Hp):Prop :=
 (∃kvs k,H a=some (.dK kvs)/\y=kV k/\kvs.length<sizeLine/\H'=upd H a (.dK (gW kvs k v))) \/
 ∃kvs k b,H a=some (.dT kvs)/\y=.ref b/\H b=some (.tup (k.map kV))/\kvs.length<sizeLine/\H'=upd H a (.dT (gW kvs k v))
theorem kQ.t{H:Hp}{a b:Addr}{kvs:List (List dJ × V)}{k:List dJ}(e:H a=some (.dT kvs))(eb:H b=some (.tup (k.map kV))):kQ H a (.ref b) (gS kvs k):=.inr ⟨kvs,k,b,.inl e,rfl,eb,rfl⟩
theorem AJ.t{H:Hp}{a b:Addr}{kvs:List (List dJ × V)}{k:List dJ}{v:V}(e:H a=some (.dT kvs))(eb:H b=some (.tup (k.map kV)))(hl:kvs.length<sizeLine) :
  AJ H a (.ref b) v (upd H a (.dT (gW kvs k v))):=.inr ⟨kvs,k,b,e,rfl,eb,hl,rfl⟩
section
variable{X:Cx}{pins:List (Addr × Obj)}{σ:St}{H:Hp}{s:Shared}{a:Addr}{y v:V}{u r:Value}{o:Option V}{A:Around}{E:Value->Shared->Prop}
theorem bG.big(I:bG X pins σ H s):sysModules<s.heap.objs.size:=by
 have h:mainGlobals<s.heap.objs.size:=(I.mod.glob.keeps I.bk).lt;exact Nat.lt_trans Dd h
theorem zV{Q:Value->Shared->Prop}(hu:A.units+1<cLine)(I:bG X pins σ H s)(g:kQ H a y (some v))(ry:cB y u)(h:∀w' s',bG X pins σ H s'->cB v w'->Q w' s') :
  wpAny (model X.prog X.w) A (getItem (.ref a) u) Q E s:=by
 rcases g with ⟨kvs,k,e,ey,l⟩ | ⟨kvs,k,b,e,ey,eb,l⟩
 ·subst ey;obtain ⟨z,hd,vs,rel,dd⟩:=tK I.hok e;obtain ⟨w',hw,rw'⟩:=lZ.some_of (v:=v) (o:=valueAt vs k) (by rw [l];exact rel.val k);exact wpAny_getItem_of (xE ry) dd.mapOf hw (h w' _ (I.tok _) rw')
 ·subst ey;cases (show u=Value.ref b from ry);obtain ⟨z,hd,xs,rel,dd⟩:=tI I.hok e;obtain ⟨w',hw,rw'⟩:=lZ.some_of (v:=v) (o:=(atKey xs k).map (·.2)) (by rw [l];exact rel.val k);obtain ⟨p,hp,hp2⟩:=Option.map_eq_some_iff.mp hw;refine wpAny_getItem_heap (tupleKind_room_in1 hu) (lK I.hok eb) dd hp ?_;rw [hp2];exact h w' _ (I.tok _) rw'
theorem kC{h':Heap}{t':Nat}{ob:HO}(I:bG X pins σ H s)(mu:PH (H a))(hs:Heap.SameBut a s.heap h')(he:∃q,h'.get? a=some q)(new:cQ X.prog X.w (upd H a ob) h' a ob) :
  bG X pins σ (upd H a ob) { s with heap:=h',toks:=t' } :=
 I.write (x:=a) (e:=a) mu (.inl rfl) (λb q hb z=>(hs.2 b hb).trans z) he new
theorem LU{P:Program}{w:World}{H':Hp}{h':Heap}{kvs:List (dJ × V)}{vs:List (dJ × Value)}(z:kvs.length<=sizeLine)(hd:(a == sysModules)=false)(rel:KV kvs vs)(dd:h'.DictOf (cH P w) a vs) :
  cQ P w H' h' a (.dK kvs):=⟨z,hd,vs,rel,dd⟩
theorem zU{H':Hp}{Q:Unit->Shared->Prop}(hu:A.units+1<cLine)(I:bG X pins σ H s)(g:AJ H a y v H')(ry:cB y u)(rv:cB v r)(h:∀s',bG X pins σ H' s'->Q () s') :
  wpAny (model X.prog X.w) A (setItem (.ref a) u r) Q E s:=by
 rcases g with ⟨kvs,k,e,ey,l,eH⟩ | ⟨kvs,k,b,e,ey,eb,l,eH⟩
 ·subst ey eH;obtain ⟨z,hd,vs,rel,dd⟩:=OZ I.hok e;have hz:vs.length<=sizeLine:=by rw [<-rel.length];exact z
  have hl:(gW kvs k v).length<=sizeLine:=by have:=iL kvs k v;omega
  refine wpAny_setItem_pairs (hsz:=hz) (xE ry) dd λh' dd' hs=>h _ ?_;have he:∃q,h'.get? a=some q:=let ⟨q,_,_,hq,_⟩:=dd';⟨q,hq⟩;exact kC I (by rw [e];exact True.intro) hs he (LU hl hd (rel.put k rv) dd')
 ·subst ey eH;cases (show u=Value.ref b from ry);obtain ⟨z,hd,xs,rel,dd⟩:=xR I.hok e;have hz:xs.length<=sizeLine:=by rw [<-Paired.length rel];exact z
  have hl:(gW kvs k v).length<=sizeLine:=by have:=iL kvs k v;omega
  refine wpAny_setItem_heap (hsz:=hz) (tupleKind_room_in1 hu) (lK I.hok eb) dd λh' dd' hs=>h _ ?_;obtain ⟨q,es,ep,hq,h2,h3,h4,_,h5⟩:=dd';refine kC I (by rw [e];exact True.intro) hs ⟨q,hq⟩ ⟨hl,hd,_,(rel.put k eb rv).keeps λc ys ec=>?_,q,es,ep,hq,h2,h3,h4,h5⟩;rw [bB (nY ec e (λz=>nomatch z))];exact ec
end
section
variable{X:Cx}{pins:List (Addr × Obj)}{σ:St}{H:Hp}{s:Shared}{a:Addr}{kvs:List (dJ × V)}{k:dJ}{u:Value}{A:Around}{E:Value->Shared->Prop}
end
def MN(i:Expr):Prop:=∀ov iv,subscripted i false ov iv=operate [ov,iv] (getItem ov iv)
theorem FA{prog:Program}{w:World}{A:Around}{E:Value->Shared->Prop}{s:Shared}{env:Env}{value slice:Expr}{pos:Pos}{T id:String}{Q:Value->Shared->Prop}
  (hl:typeLookup (.type T) "__getitem__" = pure (some (.builtin id))) (hs:MN slice)
  (h:wpAny (model prog w) A (eval value env) (λo s₁=>wpAny (model prog w) A (eval slice env) (λi s₂=>s₂.TypeIs o T/\wpAny (model prog w) A (getItem o i) Q E s₂) E s₁) E s) :
  wpAny (model prog w) A (eval (.Subscript value slice pos) env) Q E s:=by
 refine Subscript_ (wpAny_mono h (λo s₁ h₁=>wpAny_mono h₁ (λi s₂ h₂=>?_) λ_ _ x=>x) λ_ _ x=>x);obtain ⟨hT,h₂⟩:=h₂;unfold subscriptTail;refine wpAny_bind ?_;rw [getitemInPython_of_ne hT.not_modules];refine wpAny_bind (wpAny_specialOf hT hl ?_);have fin:wpAny (model prog w) A (subscripted slice false o i) (λr s₃=>wpAny (model prog w) A (letTemporaryGo value o r >>= λ_=>pure r) Q E s₃) E s₂:=by
  rw [hs o i];exact wpAny_operating (wpAny_mono h₂ (λr s₃ h₃=>wpAny_bind (wpAny_letTemporaryGo (wpAny_pure h₃))) λ_ _ x=>x)
 first
  | exact wpAny_pure (wpAny_bind fin)
  | exact wpAny_bind (wpAny_pure (wpAny_bind fin))
  | exact wpAny_bind fin
theorem tL{X:Cx}{pins:List (Addr × Obj)}{σ:St}{H:Hp}{s:Shared}{a:Addr}{y:V}{o:Option V}(I:bG X pins σ H s)(g:kQ H a y o):s.TypeIs (.ref a) "dict" := by
 rcases g with ⟨kvs,k,e,_,_⟩ | ⟨kvs,k,b,e,_,_,_⟩
 ·obtain ⟨_,_,vs,_,dd⟩:=tK I.hok e;exact dd.typeIs
 ·obtain ⟨_,_,xs,_,dd⟩:=tI I.hok e;exact dd.typeIs
def NJ(td ty:TE):TE:=λσ H Q=>td σ H λx H1=>ty σ H1 λy H2=>∃a v,x=.ref a/\kQ H2 a y (some v)/\Q v H2
def NP(td ty tv:TE):TS:=λD σ H=>tv σ H λv H1=>td σ H1 λx H2=>ty σ H2 λy H3=>∃a H4,x=.ref a/\AJ H3 a y v H4/\D.nx σ H4
section
variable{X:Cx}{o i e value:Expr}{pos pos' tpos:Pos}{td ty tv:TE}
theorem FX(hu:X.A.units+1<cLine)(ho:PE X o td)(hi:PE X i ty)(hs:MN i):PE X (.Subscript o i pos) (NJ td ty):=by
 intro pins s σ H Q I h;refine FA PySem.F.slot_dict_getitem.lookup hs (thn (ho pins s σ H _ I h) λu s1 ⟨x,H1,I1,rx,q1⟩=>thn (hi pins s1 σ H1 _ I1 q1) λiv s2 ⟨y,H2,I2,ry,a,v,ex,g,q2⟩=>?_);subst ex;obtain rfl:u=Value.ref a:=rx;exact ⟨tL I2 g,zV hu I2 g ry λw' s3 I3 rw'=>⟨v,H2,I3,rw',q2⟩⟩
theorem FR(hu:X.A.units+1<cLine)(ho:PE X o td)(hi:PE X i ty)(hv:PE X value tv)(hs:swapsWith value (some (.Subscript o i pos')) pos.line X.env=pure false) :
  PS X (.Assign [.Subscript o i pos'] value pos) (NP td ty tv):=by
 intro pins s σ H D I h;refine wpAny_Assign_Subscript (thn (hv pins s σ H _ I h) λr s1 ⟨v,H1,I1,rv,q1⟩=>thn (ho pins s1 σ H1 _ I1 q1) λu s2 ⟨x,H2,I2,rx,q2⟩=>thn (hi pins s2 σ H2 _ I2 q2) λiv s3 ⟨y,H3,I3,ry,a,H4,ex,g,q3⟩=>?_) hs;subst ex;obtain rfl:u=Value.ref a:=rx;exact zU hu I3 g ry rv λs4 I4=>⟨σ,H4,I4,q3⟩
end
theorem tJ{P:Program}{w:World}{H:Hp}(h:Heap)(hb:sysModules<h.objs.size):cQ P w H (h.push { cls:=.type "dict",data:=.dict #[] }) h.objs.size (.dT []) :=
 ⟨cC _,beq_eq_false_iff_ne.mpr (Ne.symm (bP hb)),[],.nil,_,#[],0,aK _ rfl,⟨rfl,rfl,rfl⟩,rfl,rfl,List.nodup_nil⟩
def BF:TE:=λ_ H Q=>∀p,H p=none->Q (.ref p) (upd H p (.dT []))
section
variable{X:Cx}{pos:Pos}
theorem pe_dnewT:PE X (.Dict [] [] pos) BF:=λpins s σ H Q I h =>
 wpAny_Dict_empty ⟨.ref s.heap.objs.size,_,I.laid (a:=s.heap.objs.size) (o:=.dT []) (t':=s.toks) (λ_ _ q=>aA _ q) (aC _) (tJ s.heap I.big),rfl,h _ (I.hok.fresh (aC _))⟩
end
structure M2(X:Cx)(o:Expr)(m:Str)(apos:Pos)(e f:Expr)(cpos:Pos):Prop where
 base:attributeBase o m X.env (eval o X.env)=eval o X.env
 few:((backTo cpos (starEach [e,f] X.env)).all (λx=>!x.1)&&(backToKw cpos (keywordEach [] X.env)).all (λx=>x.1.isSome)
  && decide (([e,f]:List Expr).length+([]:List Keyword).length+(if ([]:List Keyword).isEmpty then 0 else 1)<30))=true
 line:(apos.endLine == cpos.line)=true
 trees:backTo cpos (starEach [e,f] X.env)=[(false,eval e X.env),(false,eval f X.env)]
def SL(H:Hp)(a:Addr):Prop:=(∃kvs,Rd H a (.dK kvs))\/∃kvs,Rd H a (.dT kvs)
theorem LM{X:Cx}{pins:List (Addr × Obj)}{σ:St}{H:Hp}{s:Shared}{a:Addr}(I:bG X pins σ H s)(d:SL H a) :
  s.TypeIs (.ref a) "dict" /\ (∀b,Value.ref a=.ref b->∃ob,s.heap.get? b=some ob/\ob.dict=none)/\(a == sysModules)=false:=by
 rcases d with ⟨kvs,e⟩ | ⟨kvs,e⟩
 ·obtain ⟨_,hd,vs,_,dd⟩:=tK I.hok e;refine ⟨dd.typeIs,λb q=>?_,hd⟩;cases q;obtain ⟨ob,_,_,h1,h2,_⟩:=dd;exact ⟨ob,h1,h2.2.1⟩
 ·obtain ⟨_,hd,xs,_,dd⟩:=tI I.hok e;refine ⟨dd.typeIs,λb q=>?_,hd⟩;cases q;obtain ⟨ob,_,_,h1,h2,_⟩:=dd;exact ⟨ob,h1,h2.2.1⟩
section
variable{X:Cx}{pins:List (Addr × Obj)}{σ:St}{H:Hp}{s:Shared}{a:Addr}{y d:V}{u r:Value}{o:Option V}{A:Around}{E:Value->Shared->Prop}
theorem LV{Q:Value->Shared->Prop}(hu:A.units+1<cLine)(I:bG X pins σ H s)(g:kQ H a y o)(ry:cB y u)(rd:cB d r)(h:∀w' s',bG X pins σ H s'->cB (o.getD d) w'->Q w' s') :
  wpAny (model X.prog X.w) A (call (.builtin "dict.get") [.ref a,u,r]) Q E s:=by
 rcases g with ⟨kvs,k,e,ey,l⟩ | ⟨kvs,k,b,e,ey,eb,l⟩
 ·subst ey;obtain ⟨z,hd,vs,rel,dd⟩:=tK I.hok e;refine call_meetsIn PySem.F.slot_dict_get dd.typeIs PySem.F.entry_dict_get (PySem.F.args_dict_get_3 _ _ _) (meets_dict_get_default (cH X.prog X.w) a (xE ry) hd r) ⟨_,dd.mapOf,h _ _ (I.tok _) ?_⟩;rw [l];exact (rel.val k).getD rd
 ·subst ey;cases (show u=Value.ref b from ry);obtain ⟨z,hd,xs,rel,dd⟩:=tI I.hok e;refine call_meetsIn PySem.F.slot_dict_get dd.typeIs PySem.F.entry_dict_get (PySem.F.args_dict_get_3 _ _ _) (meetsH_dict_get_default (tupleKind (cH X.prog X.w)) a b hd r) ⟨tupleKind_room_in1 hu,k,xs,lK I.hok eb,dd,h _ _ (I.tok _) ?_⟩;rw [l];exact (rel.val k).getD rd
end
def BG(td ty tx:TE):TE:=λσ H Q=>td σ H λx H1=>∃a,x=.ref a/\SL H1 a/\ty σ H1 λy H2=>tx σ H2 λz H3=>∃o,kQ H3 a y o/\Q (o.getD z) H3
section
variable{X:Cx}{o e f:Expr}{apos cpos:Pos}{td ty tx:TE}
theorem CC(hu:X.A.units+1<cLine)(ho:PE X o td)(he:PE X e ty)(hf:PE X f tx)(m:M2 X o "get" apos e f cpos):PE X (.Call (.Attribute o "get" apos) [e,f] [] cpos) (BG td ty tx):=by
 intro pins s σ H Q I h;refine wpAny_Call_method m.base m.few m.line PySem.F.plainAttrs_dict PySem.F.slot_dict_get PySem.F.type_dict_get (thn (ho pins s σ H _ I h) λu s1 ⟨x,H1,I1,rx,a,ex,d,q1⟩=>?_);subst ex;obtain rfl:u=Value.ref a:=rx;obtain ⟨t1,t2,_⟩:=LM I1 d;refine ⟨t1,t2,?_⟩;rw [m.trees];refine Calls.callWith_builtin rfl (Calls.evalArgs_plain (Calls.spliced_cons (thn (he pins s1 σ H1 _ I1 q1) λiv s2 ⟨y,H2,I2,ry,q2⟩ =>
  Calls.spliced_cons (thn (hf pins s2 σ H2 _ I2 q2) λfv s3 ⟨z,H3,I3,rz,ov,g,q3⟩=>Calls.spliced_nil ?_))))
 exact LV hu I3 g ry rz λw' s4 I4 rw'=>⟨_,H3,I4,rw',q3⟩
end
section
variable{X:Cx}{pins:List (Addr × Obj)}{σ:St}{H:Hp}{s:Shared}{a:Addr}{kvs:List (dJ × V)}{A:Around}{E:Value->Shared->Prop}
end
section
variable{X:Cx}{pins:List (Addr × Obj)}{σ:St}{H:Hp}{s:Shared}{a:Addr}{y:V}{u:Value}{A:Around}{E:Value->Shared->Prop}
end
section
variable{κ:Type}[DecidableEq κ]
end
abbrev bits(i:Int):Nat:=Builtin.Int.intBits i
def EE(i j:Int):Prop:=0<j/\bits j<=9000
theorem mI{j:Int}{n:Nat}(h:bits j<=n)(hn:0<n):j.natAbs.log2<n:=by
 unfold bits Builtin.Int.intBits at h;by_cases hj:(j == 0)=true
 ·have:j=0:=by simpa using hj
  subst this;exact aV (by decide +kernel:(0:Int).natAbs.log2<=0) hn
 ·rw [if_neg hj] at h;omega
section
variable{X:Cx}
theorem eP:mR X (binaryOp .FloorDiv) (rI EE λi j=>.int (i/j)):=PY λi j _ _ _ _ _ hc q=>by
 refine floordiv_int (by have:=hc.1;omega) ?_ (.inl (PyProof.noPylong_of_log2 (mI hc.2 Dd)));rw [Int.fdiv_eq_ediv_of_nonneg i (by have:=hc.1;omega)];exact q
theorem eG:mR X (binaryOp .Mult) (rI IntMulOk λi j=>.int (i*j)):=PY λ_ _ _ _ _ _ _ hc q=>mul_int q hc
end
mutual
def cK(H:Hp):PyData->V->Prop
 | .none,v=>v=.non
 | .bool b,v=>v=.bl b
 | .int i,v=>v=.int i
 | .str x,v=>v=.str x
 | .list ds,v=>∃a xs,v=.ref a/\H a=some (.lst xs)/\aY H ds xs
 | .tuple ds,v=>∃a xs,v=.ref a/\H a=some (.tup xs)/\aY H ds xs
 | .dict kvs,v=>kvs=[]/\∃a,v=.ref a/\H a=some (.dK [])
def aY(H:Hp):List PyData->List V->Prop
 | [],vs=>vs=[]
 | d::ds,vs=>∃x xs,vs=x::xs/\cK H d x/\aY H ds xs
end
mutual
theorem cK.same{H H':Hp}(e:aW H H'):∀{d:PyData}{v:V},cK H d v->cK H' d v
 | .none,_,h=>h
 | .bool _,_,h=>h
 | .int _,_,h=>h
 | .str _,_,h=>h
 | .list ds,_,h=>by
  unfold cK at h ⊢;obtain ⟨a,xs,rfl,h1,h2⟩:=h;exact ⟨a,xs,rfl,e _ _ h1,aY.same e h2⟩
 | .tuple ds,_,h=>by
  unfold cK at h ⊢;obtain ⟨a,xs,rfl,h1,h2⟩:=h;exact ⟨a,xs,rfl,e _ _ h1,aY.same e h2⟩
 | .dict kvs,_,h=>by
  unfold cK at h ⊢;obtain ⟨h0,a,rfl,h1⟩:=h;exact ⟨h0,a,rfl,e _ _ h1⟩
theorem aY.same{H H':Hp}(e:aW H H'):∀{ds:List PyData}{vs:List V},aY H ds vs->aY H' ds vs
 | [],_,h=>h
 | d::ds,_,h=>by
  unfold aY at h ⊢;obtain ⟨x,xs,rfl,h1,h2⟩:=h;exact ⟨x,xs,rfl,cK.same e h1,aY.same e h2⟩
end
theorem cK.tup{H:Hp}{a:Addr}{xs:List V}{ds:List PyData}(h:H a=some (.tup xs))(r:aY H ds xs):cK H (.tuple ds) (.ref a):=by
 unfold cK;exact ⟨a,xs,rfl,h,r⟩
theorem cK.lst{H:Hp}{a:Addr}{xs:List V}{ds:List PyData}(h:H a=some (.lst xs))(r:aY H ds xs):cK H (.list ds) (.ref a):=by
 unfold cK;exact ⟨a,xs,rfl,h,r⟩
theorem cK.int{H:Hp}(i:Int):cK H (.int i) (.int i):=by unfold cK;rfl
theorem cK.str{H:Hp}(i:Str):cK H (.str i) (.str i):=by unfold cK;rfl
theorem aY.nil{H:Hp}:aY H [] []:=by unfold aY;rfl
theorem aY.cons{H:Hp}{d:PyData}{ds:List PyData}{x:V}{xs:List V}(h:cK H d x)(hs:aY H ds xs):aY H (d::ds) (x::xs):=by
 unfold aY;exact ⟨x,xs,rfl,h,hs⟩
section
variable{X:Cx}{pins:List (Addr × Obj)}{σ:St}{H:Hp}{s:Shared}
mutual
theorem cK.reads(I:bG X pins σ H s):∀{d:PyData}{v:V}{u:Value},cK H d v->cB v u->∃as,Reads s.heap u d as
 | .none,_,u,h,r=>by
  cases (show _=V.non from h);cases (show u=Value.none from r);exact ⟨_,.none⟩
 | .bool b,_,u,h,r=>by
  cases (show _=V.bl b from h);cases (show u=Value.bool b from r);exact ⟨_,.bool b⟩
 | .int b,_,u,h,r=>by
  cases (show _=V.int b from h);obtain ⟨t,q⟩:=(show ∃t,u=Value.int b t from r);cases q;exact ⟨_,.int b t⟩
 | .str b,_,u,h,r=>by
  cases (show _=V.str b from h);obtain ⟨t,q⟩:=(show ∃t,u=Value.str b t from r);cases q;exact ⟨_,.str b t⟩
 | .list ds,v,u,h,r=>by
  unfold cK at h;obtain ⟨a,xs,rfl,h1,h2⟩:=h;cases (show u=Value.ref a from r);obtain ⟨_,its,n,r',e⟩:=(show cQ X.prog X.w H s.heap a (.lst xs) from I.hok a _ h1);obtain ⟨as,q⟩:=aY.reads I h2 r';exact ⟨_,.list e rfl rfl (by simpa using q)⟩
 | .tuple ds,v,u,h,r=>by
  unfold cK at h;obtain ⟨a,xs,rfl,h1,h2⟩:=h;cases (show u=Value.ref a from r);obtain ⟨_,its,r',o,e,hc,n,hd⟩:=(show cQ X.prog X.w H s.heap a (.tup xs) from I.hok a _ h1);obtain ⟨as,q⟩:=aY.reads I h2 r';exact ⟨_,.tuple e hc hd (by simpa using q)⟩
 | .dict kvs,v,u,h,r=>by
  unfold cK at h;obtain ⟨rfl,a,rfl,h1⟩:=h;cases (show u=Value.ref a from r);obtain ⟨_,_,vs,kv,o,es,ep,e,hx,hd,_,hes,_⟩:=(show cQ X.prog X.w H s.heap a (.dK []) from I.hok a _ h1);cases kv;have he:es.toList=[]:=by
   cases q:es.toList with
   | nil=>rfl
   | cons y ys=>rw [q] at hes;cases hes
  exact ⟨_,.dict e hx.1 hd (by rw [he];exact .nil) (by rw [he];exact .nil)⟩
theorem aY.reads(I:bG X pins σ H s):∀{ds:List PyData}{vs:List V}{us:List Value},aY H ds vs->bW vs us->∃as,ReadsAll s.heap us ds as
 | [],_,us,h,r=>by
  cases (show _=[] from h);cases r;exact ⟨_,.nil⟩
 | d::ds,_,us,h,r=>by
  unfold aY at h;obtain ⟨x,xs,rfl,h1,h2⟩:=h;cases r with
  | cons r1 r2 =>
   obtain ⟨as,q1⟩:=cK.reads I h1 r1;obtain ⟨bs,q2⟩:=aY.reads I h2 r2;exact ⟨_,.cons q1 q2⟩
end
end
section
variable{X:Cx}
theorem AC(hg:X.A.guards=some [])(hu:X.A.units+64<cLine):eS X (.builtin "repr") (λxs H Q=>∃x d,xs=[x]/\cK H d x/\d.showable=true/\d.hasDict=false/\d.depth<=60/\d.shown.length<=sizeLine/\Q (.str d.shown) H):=by
 intro pins s σ H xs us Q I r h;obtain ⟨x,d,rfl,hr,hs,hnd,hdp,hz,q⟩:=h;obtain ⟨u,rfl,ru⟩:=iA r;obtain ⟨as,rd⟩:=hr.reads I ru;cases rd with
 | none=>exact PySem.P.repr_of_none ⟨.str _,H,I.tok _,⟨_,rfl⟩,q⟩
 | bool b=>exact PySem.P.repr_of_bool ⟨.str _,H,I.tok _,⟨_,rfl⟩,q⟩
 | int i t=>exact PySem.P.repr_of_int (by simpa [PyData.showable] using hs) ⟨.str _,H,I.tok _,⟨_,rfl⟩,q⟩
 | str y t=>exact PySem.P.repr_of_str ⟨.str _,H,I.tok _,⟨_,rfl⟩,q⟩ hz
 | list a1 a2 a3 a4=>exact repr_of_reads' (.list a1 a2 a3 a4) hs (PyData.noDict_hsm hnd) hg Oo (λ_ _ e=>e) (λh' u tk hk=>⟨.str _,H,I.kept hk,⟨_,rfl⟩,q⟩) hz
 | tuple a1 a2 a3 a4=>exact repr_of_reads' (.tuple a1 a2 a3 a4) hs (PyData.noDict_hsm hnd) hg Oo (λ_ _ e=>e) (λh' u tk hk=>⟨.str _,H,I.kept hk,⟨_,rfl⟩,q⟩) hz
 | dict a1 a2 a3 a4 a5=>simp [PyData.hasDict] at hnd
end
def MP:PyData->String
 | .none => "NoneType"
 | .bool _ => "bool"
 | .int _ => "int"
 | .str _ => "str"
 | .list _ => "list"
 | .tuple _ => "tuple"
 | .dict _ => "dict"
theorem cK.ty{K:PySem.W.Frag}{H:Hp}{d:PyData}{v:V}(h:cK H d v):lY K H v (.type (MP d)):=by
 cases d with
 | none=>cases (show v=V.non from h);exact .non
 | bool b=>cases (show v=V.bl b from h);exact .bl b
 | int b=>cases (show v=V.int b from h);exact .int b
 | str b=>cases (show v=V.str b from h);exact .str b
 | list ds=>unfold cK at h;obtain ⟨a,xs,rfl,h1,h2⟩:=h;exact .lst h1
 | tuple ds=>unfold cK at h;obtain ⟨a,xs,rfl,h1,h2⟩:=h;exact .tup h1
 | dict ds=>unfold cK at h;obtain ⟨_,a,rfl,h1⟩:=h;exact .dK h1
def RJ(T:String)(d:PyData):Bool:=MP d == T || (T == "int" && MP d == "bool")
theorem LD : ∀ T ∈ ["int", "bool", "tuple", "str", "list", "dict"], ∀ S ∈ ["NoneType", "bool", "int", "str", "list", "tuple", "dict"],
      PySem.W.kitOne [] (.type S) (.type T)=some (S == T || (T == "int" && S == "bool")):=Kk
theorem GM(K:PySem.W.Frag)(S T:String):PySem.W.kitOne K (.type S) (.type T)=PySem.W.kitOne [] (.type S) (.type T):=rfl
theorem OP(K:PySem.W.Frag)(d:PyData)(T:String)(hT:T = "int" \/ T = "bool" \/ T = "tuple" \/ T = "str" \/ T = "list" \/ T = "dict"):PySem.W.kitOne K (.type (MP d)) (.type T)=some (RJ T d):=by
 rw [GM];refine LD T ?_ (MP d) ?_
 ·rcases hT with rfl | rfl | rfl | rfl | rfl | rfl <;> decide
 ·cases d <;> simp [MP]
section
variable{X:Cx}
theorem tW:eS X (.builtin "isinstance") (λxs H Q=>∃x d T,xs=[x,.ty T]/\cK H d x/\(T = "int" \/ T = "bool" \/ T = "tuple" \/ T = "str" \/ T = "list" \/ T = "dict")/\Q (.bl (RJ T d)) H):=by
 intro pins s σ H xs us Q I r h;obtain ⟨x,d,T,rfl,hr,hT,q⟩:=h;obtain ⟨u,w',rfl,r1,r2⟩:=NB r;cases (show w'=Value.type T from r2);exact zR I r1 hr.ty (OP _ d T hT) λtk=>⟨.bl _,H,I.tok _,rfl,q⟩
end
structure kO(CX:AN)(P:Program)(w:World)(K:PySem.W.Frag)(mg:Str->Option Value)(base:Heap)(k:Nat)(x:Str)(ps:List Str)(sp:Sp):Prop where
 ex:∃(f:Addr) (fd:FuncData),dW P w K mg base CX k f fd ps sp/\mg x=some (.ref f)/\PySem.W.keepIn K (.ref f)=true/\kR K fd ps []
section
variable{X:Cx}{k:Nat}{ps:List Str}{sp:Sp}{x:Str}{p pos:Pos}{e:Expr}{es:List Expr}{t:TA}
theorem OD(F:kO eI X.prog X.w X.K X.mg X.base k x ps sp)(hr:eR k X.A)(ha:PA X (e::es) t)(hg:Gl X x:=by rfl)
  (hdb:(x == ("__debug__" : Str))=false:=by decide) (he:starEach (e::es) X.env=(false,eval e X.env)::starEach es X.env:=by rfl) (hpl:(backTo pos (starEach es X.env)).any (·.1)=false:=by rfl) :
  PE X (.Call (.Name x p) (e::es) [] pos) (BH sp [] E0 t):=by
 obtain ⟨f,fd,h1,h2,h3,h4⟩:=F.ex;exact GA h1 hr hg h2 h3 h4 .nil OF ha hdb he hpl
end
section
variable{K:PySem.W.Frag}{H:Hp}{p:Addr}{xs:List V}{i:Int}{v:V}{Q:VK}
theorem lM(h:H p=some (.lst xs))(e:uH xs i=some v)(q:Q v H):PR K (.ref p) (.int i) H Q:=.inl ⟨p,xs,i,v,rfl,rfl,fA.of h,e,q⟩
theorem tD(h:H p=some (.tup xs))(e:uH xs i=some v)(q:Q v H):PR K (.ref p) (.int i) H Q:=.inr (.inl ⟨p,xs,i,v,rfl,rfl,eT.of h,e,q⟩)
theorem SM{u:V}{Q:Hp->Prop}{j:Nat}(h:H p=some (.lst xs))(e:CY xs.length i=some j)(q:Q (upd H p (.lst (xs.set j u)))):BW (.ref p) (.int i) u H Q:=⟨p,xs,i,j,rfl,rfl,h,e,q⟩
end
def dH(p:Addr)(H:Hp):Hp:=λb=>if b=p then none else H b
theorem dH.at{p b:Addr}{H:Hp}(h:b≠p):dH p H b=H b:=by unfold dH;rw [if_neg h]
theorem dH.self{p:Addr}{H:Hp}:dH p H p=none:=by unfold dH;rw [if_pos rfl]
theorem dH.same{p:Addr}{H:Hp}:aW (dH p H) H:=λb o h=>by
 unfold dH at h;by_cases e:b=p
 ·rw [if_pos e] at h;cases h
 ·rw [if_neg e] at h;exact h
theorem dH.ne{p b:Addr}{H:Hp}{o:HO}(h:dH p H b=some o):b≠p:=λe=>by
 subst e;rw [dH.self] at h;cases h
theorem dH.of{p b:Addr}{H:Hp}{o:HO}(n:b≠p)(h:H b=some o):dH p H b=some o:=by rw [dH.at n];exact h
theorem dH.upd_self{p:Addr}{H:Hp}{o:HO}:dH p (upd H p o)=dH p H:=by
 funext b
 by_cases e:b=p
 ·subst e;rw [dH.self,dH.self]
 ·rw [dH.at e,dH.at e,L2.bB e]
abbrev aR(p:Addr)(H H':Hp):Prop:=aW (dH p H) (dH p H')
theorem aW.but{p:Addr}{H H':Hp}(h:aW H H'):aR p H H':=λb o e=>by
 have n:=dH.ne e;exact dH.of n (h _ _ (dH.same _ _ e))
theorem aW.upd{H:Hp}{q:Addr}{o:HO}(h:H q=none):aW H (upd H q o):=λb u e=>by
 rw [L2.bB (bS e h)];exact e
theorem aR.self{p:Addr}{H:Hp}{o:HO}:aR p H (upd H p o):=by unfold aR;rw [dH.upd_self];exact aW.refl _
theorem aR.free{p q:Addr}{H H':Hp}(e:aR p H H')(hp:∃o,H' p=some o)(h:H' q=none):H q=none:=by
 cases k:H q with
 | none=>rfl
 | some o =>
  by_cases n:q=p
  ·subst n;obtain ⟨o',h'⟩:=hp;rw [h'] at h;cases h
  ·have:=dH.same _ _ (e q o (dH.of n k));rw [this] at h;cases h
section
variable{K:PySem.W.Frag}{H:Hp}{p:Addr}{xs:List V}{i:Int}{v:V}{Q:VK}
theorem MQ{u:V}{Q:Hp->Prop}{j:Nat}(h:H p=some (.lst xs))(e:CY xs.length i=some j)(k:∀H',H' p=some (.lst (xs.set j u))->aR p H H'->Q H'):BW (.ref p) (.int i) u H Q :=
 SM h e (k _ aX aR.self)
theorem TN{Q:V->Hp->Prop}(hz:xs.length<=sizeLine)(k:∀q H',H q=none->H' q=some (.tup xs)->aW H H'->Q (.ref q) H'):xs.length<=sizeLine/\∀p,H p=none->Q (.ref p) (upd H p (.tup xs)) :=
 ⟨hz,λq hq=>k q _ hq aX (aW.upd hq)⟩
theorem TQ{Q:V->Hp->Prop}(hz:xs.length<=sizeLine)(k:∀q H',H q=none->H' q=some (.lst xs)->aW H H'->Q (.ref q) H'):xs.length<=sizeLine/\∀p,H p=none->Q (.ref p) (upd H p (.lst xs)) :=
 ⟨hz,λq hq=>k q _ hq aX (aW.upd hq)⟩
theorem aR.at{p b:Addr}{H H':Hp}{o:HO}(s:aR p H H')(n:b≠p)(h:H b=some o):H' b=some o:=dH.same _ _ (s _ _ (dH.of n h))
end
theorem jS{n:Nat}(h:n<=64):n<=sizeLine:=aU h Dd
theorem zQ{c A B:Prop}[Decidable c](h1:c->A)(h2:¬c->B):if decide c=true then A else B :=
 OQ (λh=>h1 (of_decide_eq_true h)) (λh=>h2 (λk=>h (bN k)))
theorem IE{c A B:Prop}[Decidable c](h1:¬c->A)(h2:c->B):if (!decide c)=true then A else B :=
 OQ (λh=>h1 (λk=>by rw [bN k] at h;exact absurd h Dd)) (λh=>h2 (Decidable.of_not_not λk=>h (by rw [bE k];rfl)))
def pH(c:TT):TT:=λσ H Q=>∃Q':Bool->Hp->Prop,c σ H Q'/\∀b H1,Q' b H1->Q b H1
theorem PT.mono{X:Cx}{e:Expr}{c:TT}(h:PT X e c):PT X e (pH c):=λpins s σ H Q I ⟨Q',h1,h2⟩ =>
 thn (h pins s σ H Q' I h1) λb s' ⟨H',I',q⟩=>⟨H',I',h2 _ _ q⟩
theorem yW{X:Cx}{pos:Pos}{c:Expr}{body:List Stmt}{tc:TT}{tb:TS}(hp:PassesOwn (model X.prog X.w) X.A X.env X.xe)(hc:PT X c tc)(hb:vR X body tb):PS X (.While c body [] pos) (qJ (pH tc) tb) :=
 BY hp hc.mono hb
@[irreducible] def uS(K:PySem.W.Frag):List V->Hp->VK->Prop:=λxs H Q=>∃x n,xs=[x]/\PJ K x H n/\Q (.int n) H
@[irreducible] def FK:List V->Hp->VK->Prop:=λxs H Q=>∃i,xs=[.int i]/\Q (.int (i.natAbs:Int)) H
@[irreducible] def JU:List V->Hp->VK->Prop:=λxs H Q=>∃x d T,xs=[x,.ty T]/\cK H d x/\(T = "int" \/ T = "bool" \/ T = "tuple" \/ T = "str" \/ T = "list" \/ T = "dict")/\Q (.bl (RJ T d)) H
@[irreducible] def sK:List V->Hp->VK->Prop:=λxs H Q=>∃x d,xs=[x]/\cK H d x/\d.showable=true/\d.hasDict=false/\d.depth<=60/\d.shown.length<=sizeLine/\Q (.str d.shown) H
section
variable{X:Cx}{K:PySem.W.Frag}{H:Hp}{p:Addr}{xs:List V}{Q:VK}
theorem lV:eS X (.builtin "len") (uS X.K):=by unfold uS;exact DT
theorem vK:eS X (.builtin "abs") FK:=by
 unfold FK;exact λpins s σ H xs us Q I r ⟨i,e,q⟩=>DU pins s σ H xs us Q I r ⟨i,e,by
 have:(if i<0 then -i else i)=(i.natAbs:Int):=by split <;> omega
 rw [this];exact q⟩
theorem MA:eS X (.builtin "isinstance") JU:=by unfold JU;exact tW
theorem hV(hg:X.A.guards=some [])(hu:X.A.units+64<cLine):eS X (.builtin "repr") sK:=by unfold sK;exact AC hg hu
theorem NR(h:H p=some (.lst xs))(q:Q (.int xs.length) H):uS K [V.ref p] H Q:=by unfold uS;exact ⟨_,_,rfl,.inl ⟨xs,fA.of h,rfl⟩,q⟩
theorem SH(h:H p=some (.tup xs))(q:Q (.int xs.length) H):uS K [V.ref p] H Q:=by unfold uS;exact ⟨_,_,rfl,.inr ⟨xs,eT.of h,rfl⟩,q⟩
theorem QS{i:Int}(q:Q (.int (i.natAbs:Int)) H):FK [V.int i] H Q:=by unfold FK;exact ⟨i,rfl,q⟩
theorem SO{x:V}{d:PyData}(r:cK H d x)(h1:d.showable=true)(h2:d.hasDict=false)(h3:d.depth<=60)(h4:d.shown.length<=sizeLine)(q:Q (.str d.shown) H):sK [x] H Q:=by unfold sK;exact ⟨x,d,rfl,r,h1,h2,h3,h4,q⟩
end
theorem qG{c:TT}{tb:TS}{D:mS}{σ:St}{H:Hp}(W:Nat->St->Hp->Prop)(R:St->Hp->Prop)(m:Nat)(h0:W m σ H)
  (hs:∀m σ H,W m σ H->c σ H λb H1=>if b=true then tb { D with nx:=λσ' H'=>∃m',m' < m/\W m' σ' H',ct:=λσ' H'=>∃m',m' < m/\W m' σ' H',bk:=D.nx } σ H1 else R σ H1)
  (hd:∀σ H,R σ H->D.nx σ H):qJ (pH c) tb D σ H :=
 ⟨W,⟨m,h0⟩,λm σ H hw=>⟨_,hs m σ H hw,λb H1 q=>by
  by_cases hb:b=true
  ·rw [if_pos hb] at q ⊢;exact ⟨_,λ_ _ h=>h,q⟩
  ·rw [if_neg hb] at q ⊢;exact hd _ _ q⟩⟩
def NK(t:TS):TS:=λD σ H=>∃R:St->Hp->Prop,(∀σ' H',R σ' H'->D.nx σ' H')/\t { D with nx:=R } σ H
theorem KF{X:Cx}{st:Stmt}{t:TS}(h:PS X st t):PS X st (NK t):=λpins s σ H D I ⟨R,hR,q⟩ =>
 thn (h pins s σ H _ I q) λf s' z=>by
  cases f with
  | next=>obtain ⟨σ',H',I',r⟩:=z;exact ⟨σ',H',I',hR _ _ r⟩
  | brk=>exact z
  | cont=>exact z
  | ret u=>exact z
section
variable{es:List Expr}{env:Env}
theorem eB{a b c d}:starEach (.BinOp a b c d::es) env=(false,eval (.BinOp a b c d) env)::starEach es env:=by rw [starEach] <;> (intros;contradiction)
theorem cS{a b c d}:starEach (.ListComp a b c d::es) env=(false,eval (.ListComp a b c d) env)::starEach es env:=by rw [starEach] <;> (intros;contradiction)
theorem dA{a b c d}:starEach (.Compare a b c d::es) env=(false,eval (.Compare a b c d) env)::starEach es env:=by rw [starEach] <;> (intros;contradiction)
theorem eE{a b c d}:starEach (.Call a b c d::es) env=(false,eval (.Call a b c d) env)::starEach es env:=by rw [starEach] <;> (intros;contradiction)
theorem cT{a b c}:starEach (.Constant a b c::es) env=(false,eval (.Constant a b c) env)::starEach es env:=by rw [starEach] <;> (intros;contradiction)
theorem cG{a b c}:starEach (.Subscript a b c::es) env=(false,eval (.Subscript a b c) env)::starEach es env:=by rw [starEach] <;> (intros;contradiction)
theorem eD{a b}:starEach (.Name a b::es) env=(false,eval (.Name a b) env)::starEach es env:=by rw [starEach] <;> (intros;contradiction)
theorem eA{a b c}:starEach (.Tuple a b c::es) env=(false,eval (.Tuple a b c) env)::starEach es env:=by rw [starEach] <;> (intros;contradiction)
end
section
variable{X:Cx}{k:Nat}{ps:List Str}{sp:Sp}{x:Str}{p pos:Pos}{e:Expr}{es:List Expr}{te:TE}{t:TA}{id T:String}{r:List V->Hp->VK->Prop}
theorem rL{env:Env}:(backTo pos (starEach [] env)).any (·.1)=false:=rfl
theorem nG{env:Env}(hs:starEach (e::es) env=(false,eval e env)::starEach es env)(h:(backTo pos (starEach es env)).any (·.1)=false):(backTo pos (starEach (e::es) env)).any (·.1)=false:=by
 rw [hs];show (false || (backTo pos (starEach es env)).any (·.1))=false;rw [h];rfl
end
structure eU(X:Cx)(e:Expr)(t:TE):Prop where p:PE X e t
structure AM(X:Cx)(e:Expr)(t:TT):Prop where p:PT X e t
structure MK(X:Cx)(e:Expr)(t:TT):Prop where p:PW X e t
structure AI(X:Cx)(es:List Expr)(t:TA):Prop where p:PA X es t
structure AH(X:Cx)(st:Stmt)(t:TS):Prop where p:PS X st t
structure oS(X:Cx)(st:List Stmt)(t:TS):Prop where p:vR X st t
structure MY(X:Cx)(e:Expr)(t:TG):Prop where p:PG X e t
structure HJ(X:Cx)(es:List Expr)(t:EG):Prop where p:PF X es t
structure EI(X:Cx)(tg iter:Expr)(t:TI):Prop where p:PI X tg iter t
structure QC(X:Cx)(e:Option Expr)(t:TO):Prop where p:PO X e t
@[irreducible] def wN(xs:List V)(H:Hp)(Q:VK):Prop:=xs.length<=sizeLine/\∀p,H p=none->Q (.ref p) (upd H p (.tup xs))
@[irreducible] def wO(xs:List V)(H:Hp)(Q:VK):Prop:=xs.length<=sizeLine/\∀p,H p=none->Q (.ref p) (upd H p (.lst xs))
theorem AL{xs:List V}{H:Hp}{Q:VK}(hz:xs.length<=64)(k:∀q H',H q=none->H' q=some (.tup xs)->aW H H'->Q (.ref q) H'):wN xs H Q:=by unfold wN;exact TN (jS hz) k
theorem CJ{xs:List V}{H:Hp}{Q:VK}(hz:xs.length<=64)(k:∀q H',H q=none->H' q=some (.lst xs)->aW H H'->Q (.ref q) H'):wO xs H Q:=by unfold wO;exact TQ (jS hz) k
def RY(t:TA):TE:=λσ H Q=>t σ H λxs H1=>wN xs H1 Q
def SB(t:TA):TE:=λσ H Q=>t σ H λxs H1=>wO xs H1 Q
section
variable{X:Cx}{a b c e o tg:Expr}{es rest:List Expr}{ta tb tc te to:TE}{tA tB':TT}{t:TA}{pos p p2:Pos}{st:Stmt}{sts body orelse:List Stmt}{ts us:TS}{x:Str}{r r':R2}{id T:String}{rl:List V->Hp->VK->Prop}{k i j:Nat}{ps:List Str}{sp:Sp}{n:Nat}
theorem aO(i:Nat){x:Str}{pos:Pos}(hN:X.N[i]?=some x:=by rfl)(hv:QB X.env.scope x:=by first | exact Or.inl rfl | exact Or.inr (Or.inl rfl) | exact Or.inr (Or.inr rfl))(hd:(x == ("__debug__" : Str))=false:=by decide)
  (hcd:(x == ("__classdict__" : Str))=false:=by decide):eU X (.Name x pos) (JA i):=⟨pv i hN hv hd hcd⟩
theorem aJ{i j pos}:eU X (.Constant (.int i) j pos) (tC (.int i)):=⟨pe_int⟩
theorem pF{b j pos}:eU X (.Constant (.bool b) j pos) (tC (.bl b)):=⟨pe_bl⟩
theorem fJ{x j pos}:eU X (.Constant (.str x) j pos) (tC (.str x)):=⟨pe_str⟩
theorem vW{v:V}{u:Value}(hg:Gl X x)(hm:X.mg x=some u)(r:cB v u)(hd:(x == ("__debug__" : Str))=false:=by decide):eU X (.Name x pos) (tC v):=⟨FW hg hm r hd⟩
theorem EX{v:V}{u:Value}(hg:Gl X x)(hm:X.mg x=none)(hv:bootBuiltins x=some u)(r:cB v u)(hn:x ≠ "__name__" := by decide)(hd:(x == ("__debug__" : Str))=false:=by decide):eU X (.Name x pos) (tC v):=⟨GB hg hm hv r hn hd⟩
theorem bT{op:Operator}(ho:mR X (binaryOp op) r)(ha:eU X a ta)(hb:eU X b tb):eU X (.BinOp a op b pos) (EY r ta tb):=⟨OB ho ha.p hb.p⟩
theorem AY{op:CmpOp}(ho:mR X (compareOp op) r)(ha:eU X a ta)(hb:eU X b tb)(hm:behindInMarks op b=false):eU X (.Compare a [op] [b] pos) (EY r ta tb):=⟨FZ ho ha.p hb.p hm⟩
theorem eV{op:CmpOp}(ho:mR X (compareOp op) r)(ha:eU X a ta)(hb:eU X b tb)(hm:behindInMarks op b=false):AM X (.Compare a [op] [b] pos) (HN (EY r ta tb)):=⟨FO ho ha.p hb.p hm⟩
theorem IU(h:eU X e te)(he:∀whole,isTrue e X.env whole=(do let v <-whole;standAt e.pos;holding [v] (truthy v)):=by intro _;rfl):AM X e (tB te):=⟨JY h.p he⟩
theorem EN(ha:AM X a tA):MK X (.BoolOp .And [a] pos) tA:=⟨FM ha.p⟩
theorem AQ(ha:AM X a tA):MK X (.BoolOp .Or [a] pos) tA:=⟨JW ha.p⟩
theorem IS(ha:AM X a tA)(hb:MK X (.BoolOp .And (b::rest) pos) tB'):MK X (.BoolOp .And (a::b::rest) pos) (NM tA tB'):=⟨JX ha.p hb.p⟩
theorem HM(ha:AM X a tA)(hb:MK X (.BoolOp .Or (b::rest) pos) tB'):MK X (.BoolOp .Or (a::b::rest) pos) (SA tA tB'):=⟨NY ha.p hb.p⟩
theorem IT(h:MK X e tA):AM X e tA:=⟨h.p.pt⟩
theorem IV(ha:AM X a tA):AM X (.UnaryOp .Not a pos) (NF tA):=⟨JZ ha.p⟩
theorem aL:AI X [] NG:=⟨pa_nil⟩
theorem aT(ha:eU X e te)(hr:AI X es t)(hs:starEach (e::es) X.env=(false,eval e X.env)::starEach es X.env:=by first | exact eD | exact cT | exact se_BoolOp | exact eB | exact se_UnaryOp | exact se_IfExp | exact se_Dict | exact cS | exact dA | exact eE | exact se_Attribute | exact cG | exact se_List | exact eA | exact se_JoinedStr | exact se_GeneratorExp):AI X (e::es) (HU te t):=⟨GD ha.p hr.p hs⟩
theorem fI{x1}(h:AI X es t):eU X (.Tuple es x1 pos) (RY t):=⟨by unfold RY wN;exact KN h.p⟩
theorem fR(h:AI X es t):eU X (.List es pos) (SB t):=⟨by unfold SB wO;exact KO h.p⟩
theorem rT:eU X (.Dict [] [] pos) BF:=⟨pe_dnewT⟩
theorem bV(hr:EK X r)(ha:eU X a ta)(hb:eU X b tb)(hs:yD b):eU X (.Subscript a b pos) (EY r ta tb):=⟨OC hr ha.p hb.p hs⟩
theorem fZ:QC X none wC:=⟨po_none⟩
theorem fY(h:eU X e te):QC X (some e) (HP te):=⟨FT h.p⟩
theorem fF{lo hi:Option Expr}{tl th:TO}{r:V->Option Int->Option Int->Hp->VK->Prop}(hr:MX X r)(he:eU X e te)(hl:QC X lo tl)(hu:QC X hi th):eU X (.Subscript e (.Slice lo hi none p2) pos) (RZ r te tl th):=⟨CB hr he.p hl.p hu.p⟩
theorem cR(F:kO eI X.prog X.w X.K X.mg X.base k x ps sp)(hr:eR k X.A)(ha:AI X (e::es) t)(hg:Gl X x:=by rfl)
  (hdb:(x == ("__debug__" : Str))=false:=by decide) (he:starEach (e::es) X.env=(false,eval e X.env)::starEach es X.env:=by first | exact eD | exact cT | exact se_BoolOp | exact eB | exact se_UnaryOp | exact se_IfExp | exact se_Dict | exact cS | exact dA | exact eE | exact se_Attribute | exact cG | exact se_List | exact eA | exact se_JoinedStr | exact se_GeneratorExp)
  (hpl:(backTo pos (starEach es X.env)).any (·.1)=false:=by repeat (first | exact rL | refine nG (by first | exact eD | exact cT | exact se_BoolOp | exact eB | exact se_UnaryOp | exact se_IfExp | exact se_Dict | exact cS | exact dA | exact eE | exact se_Attribute | exact cG | exact se_List | exact eA | exact se_JoinedStr | exact se_GeneratorExp) ?_)) :
  eU X (.Call (.Name x p) (e::es) [] pos) (BH sp [] E0 t):=⟨OD F hr ha.p hg hdb he hpl⟩
theorem dZ(hc:eS X (.builtin id) rl)(hg:Gl X x)(hm:X.mg x=none)(hv:bootBuiltins x=some (.builtin id))(ha:AI X (e::es) t)(hn:x ≠ "__name__" := by decide)(hdb:(x == ("__debug__" : Str))=false:=by decide)
  (he:starEach (e::es) X.env=(false,eval e X.env)::starEach es X.env:=by first | exact eD | exact cT | exact se_BoolOp | exact eB | exact se_UnaryOp | exact se_IfExp | exact se_Dict | exact cS | exact dA | exact eE | exact se_Attribute | exact cG | exact se_List | exact eA | exact se_JoinedStr | exact se_GeneratorExp) (hpl:(backTo pos (starEach es X.env)).any (·.1)=false:=by repeat (first | exact rL | refine nG (by first | exact eD | exact cT | exact se_BoolOp | exact eB | exact se_UnaryOp | exact se_IfExp | exact se_Dict | exact cS | exact dA | exact eE | exact se_Attribute | exact cG | exact se_List | exact eA | exact se_JoinedStr | exact se_GeneratorExp) ?_)):eU X (.Call (.Name x p) (e::es) [] pos) (PP rl t) :=
 ⟨CF hc hg hm hv ha.p hn hdb he hpl⟩
theorem jK(hc:eS X (.type T) rl)(hg:Gl X x)(hm:X.mg x=none)(hv:bootBuiltins x=some (.type T))(ha:AI X (e::es) t)(hn:x ≠ "__name__" := by decide)(hdb:(x == ("__debug__" : Str))=false:=by decide)
  (he:starEach (e::es) X.env=(false,eval e X.env)::starEach es X.env:=by first | exact eD | exact cT | exact se_BoolOp | exact eB | exact se_UnaryOp | exact se_IfExp | exact se_Dict | exact cS | exact dA | exact eE | exact se_Attribute | exact cG | exact se_List | exact eA | exact se_JoinedStr | exact se_GeneratorExp) (hpl:(backTo pos (starEach es X.env)).any (·.1)=false:=by repeat (first | exact rL | refine nG (by first | exact eD | exact cT | exact se_BoolOp | exact eB | exact se_UnaryOp | exact se_IfExp | exact se_Dict | exact cS | exact dA | exact eE | exact se_Attribute | exact cG | exact se_List | exact eA | exact se_JoinedStr | exact se_GeneratorExp) ?_)):eU X (.Call (.Name x p) (e::es) [] pos) (PP rl t) :=
 ⟨zD hc hg hm hv ha.p hn hdb he hpl⟩
theorem vY{name:Str}{apos cpos:Pos}{r:V->List V->Hp->VK->Prop}(pa:PlainAttrs T)(slot:Slot T name id)(hty:typeOf (.builtin id)=pure (.type "method_descriptor"))(hm:MO X id r)(ho:eU X o to)(ha:AI X (e::es) t)
  (hbase:attributeBase o name X.env (eval o X.env)=eval o X.env:=by rfl)
  (hfew:((backTo cpos (starEach (e::es) X.env)).all (λx=>!x.1)&&(backToKw cpos (keywordEach [] X.env)).all (λx=>x.1.isSome)
   && decide ((e::es).length+([]:List Keyword).length+(if ([]:List Keyword).isEmpty then 0 else 1)<30))=true:=by rfl)
  (hline:(apos.endLine == cpos.line)=true:=by rfl) (hs:starEach (e::es) X.env=(false,eval e X.env)::starEach es X.env:=by first | exact eD | exact cT | exact se_BoolOp | exact eB | exact se_UnaryOp | exact se_IfExp | exact se_Dict | exact cS | exact dA | exact eE | exact se_Attribute | exact cG | exact se_List | exact eA | exact se_JoinedStr | exact se_GeneratorExp) (hplain:(backTo cpos (starEach es X.env)).any (·.1)=false:=by repeat (first | exact rL | refine nG (by first | exact eD | exact cT | exact se_BoolOp | exact eB | exact se_UnaryOp | exact se_IfExp | exact se_Dict | exact cS | exact dA | exact eE | exact se_Attribute | exact cG | exact se_List | exact eA | exact se_JoinedStr | exact se_GeneratorExp) ?_)) :
  eU X (.Call (.Attribute o name apos) (e::es) [] cpos) (SC X.K T r to t):=⟨OE pa slot hty hm ho.p ha.p hbase hfew hline hs hplain⟩
theorem fX:oS X [] HQ:=⟨pss_nil⟩
theorem aM(h1:AH X st ts)(h2:oS X sts us):oS X (st::sts) (NC ts us):=⟨BX h1.p h2.p⟩
theorem bF(h1:AH X st ts):oS X [st] ts:=⟨FP h1.p⟩
theorem mT(he:eU X e te)(hs:swapsWith e none pos.line X.env=pure false:=by rfl):AH X (.Expr e pos) (HR te):=⟨FQ he.p hs⟩
theorem cX(he:eU X e te):AH X (.Return (some e) pos) (ND te):=⟨KB he.p⟩
theorem mD{c:Expr}{a b:List Stmt}(hc:AM X c tA)(ha:oS X a ts)(hb:oS X b us):AH X (.If c a b pos) (NH tA ts us):=⟨NZ hc.p ha.p hb.p⟩
theorem AS(h:AH X st ts):AH X st (NK ts):=⟨KF h.p⟩
theorem cU{i:Nat}{x:Str}(hN:X.N.Nodup)(hi:X.N[i]?=some x)(hx:MZ X.env.scope x)(hf:X.fn x=true\/X.env.scope.names.lookup x=some .local:=by first | exact .inl rfl | exact .inr rfl | assumption):MY X (.Name x pos) (xN i):=⟨FV hN hi hx hf⟩
theorem vV:HJ X [] OW:=⟨pgs_nil⟩
theorem jJ{t:TG}{u:EG}(h1:MY X e t)(h2:HJ X es u)
  (hs:(assignEach (e::es) X.env).map (·.2)=assign e X.env::(assignEach es X.env).map (·.2):=by rfl):HJ X (e::es) (II t u):=⟨CA h1.p h2.p hs⟩
theorem AU{k:Nat}{t:EG}{n:Nat}(hc:X.calm=true)(h:HJ X es t)
  (hn:(assignEach es X.env).length=n:=by rfl) (hst:(assignEach es X.env).findIdx? (·.1)=none:=by rfl):MY X (.Tuple es k pos) (OU X.K n t):=⟨KK hc h.p hn hst⟩
theorem nN{i:Expr}{ti:TE}{t:HH}(ho:eU X o to)(hi:eU X i ti)(hs:ML X t)
  (ha:∀v,assign (.Subscript o i pos) X.env v=(do
   let ov <-holding [v] (eval o X.env)
   let iv <-holding [v,ov] (eval i X.env)
   standAt pos
   holding [v,ov,iv] (setItem ov iv v)
   release [v,ov,iv] []):=by intro _;rfl):MY X (.Subscript o i pos) (OV to ti t):=⟨KL ho.p hi.p hs ha⟩
theorem kU{g:TG}(he:eU X e te)(hg:MY X tg g)(hs:swapsWithSole [tg] e pos.line X.env=pure false:=by rfl)(hw:swappedStores [tg] e X.env=pure none:=by rfl)(h1:(assignEach [tg] X.env).map (·.2)=[assign tg X.env]:=by rfl):AH X (.Assign [tg] e pos) (EZ te g):=⟨KG he.p hg.p hs hw h1⟩
theorem bH{i:Nat}{pos':Pos}(hN:X.N.Nodup)(hi:X.N[i]?=some x)(hx:MZ X.env.scope x)(he:eU X e te)(hs:swapsWith e (some (.Name x pos')) pos.line X.env=pure false:=by rfl)(hf:X.fn x=true\/X.env.scope.names.lookup x=some .local:=by first | exact .inl rfl | exact .inr rfl | assumption) :
  AH X (.Assign [.Name x pos'] e pos) (EZ te (xN i)):=⟨KA hN hi hx he.p hs hf⟩
theorem AR{i j:Nat}{x y:Str}{ta:TA}{px py pt:Pos}{kt k2 pt2}(hc:X.calm=true)(hN:X.N.Nodup)(hi:X.N[i]?=some x)(hj:X.N[j]?=some y)(hij:i≠j)
  (hx:X.env.scope.names.lookup x=some .local) (hy:X.env.scope.names.lookup y=some .local) (ha:AI X [a,b] ta)
  (hw:swappedStores [.Tuple [.Name x px,.Name y py] kt pt] (.Tuple [a,b] k2 pt2) X.env=pure (some [x,y]))
  (hs:swapsWithSole [.Tuple [.Name x px,.Name y py] kt pt] (.Tuple [a,b] k2 pt2) pos.line X.env=pure false:=by rfl) :
  AH X (.Assign [.Tuple [.Name x px,.Name y py] kt pt] (.Tuple [a,b] k2 pt2) pos) (NE i j ta):=⟨KC hc hN hi hj hij hx hy ha.p hw hs⟩
theorem nI{c:Expr}{tc:TT}{tb:TS}(hp:PassesOwn (model X.prog X.w) X.A X.env X.xe)(hc:AM X c tc)(hb:oS X body tb):AH X (.While c body [] pos) (qJ (pH tc) tb):=⟨yW hp hc.p hb.p⟩
theorem mU{l:Expr}{tl:TE}(hl:eU X l tl):EI X tg l (IH X.K tl):=⟨FU hl.p⟩
theorem nJ{l:Expr}{tl:TE}(hl:eU X l tl):EI X tg l (LO X.K tl):=⟨KJ hl.p⟩
theorem dE{a:Expr}{ta:TA}{p pos:Pos}(hg:Gl X "range")(hm:X.mg "range" = none)(ha:AI X [a] ta)(hs:starEach [a] X.env=[(false,eval a X.env)]:=by first | exact eD | exact cT | exact se_BoolOp | exact eB | exact se_UnaryOp | exact se_IfExp | exact se_Dict | exact cS | exact dA | exact eE | exact se_Attribute | exact cG | exact se_List | exact eA | exact se_JoinedStr | exact se_GeneratorExp):EI X tg (.Call (.Name "range" p) [a] [] pos) (IG ta):=⟨yZ hg hm ha.p hs⟩
theorem kW{a b:Expr}{ta:TA}{p pos:Pos}(hg:Gl X "range")(hm:X.mg "range" = none)(ha:AI X [a,b] ta)(hs:starEach [a,b] X.env=[(false,eval a X.env),(false,eval b X.env)]:=by rfl)(hs2:starEach [b] X.env=[(false,eval b X.env)]:=by first | exact eD | exact cT | exact se_BoolOp | exact eB | exact se_UnaryOp | exact se_IfExp | exact se_Dict | exact cS | exact dA | exact eE | exact se_Attribute | exact cG | exact se_List | exact eA | exact se_JoinedStr | exact se_GeneratorExp) :
  EI X tg (.Call (.Name "range" p) [a,b] [] pos) (IF ta):=⟨yY hg hm ha.p hs hs2⟩
theorem dY{iter:Expr}{wi:TI}{g:TG}{tb:TS}{pos:Pos}(hp:PassesOwn (model X.prog X.w) X.A X.env X.xe)(hc:X.calm=true)(hi:EI X tg iter wi)(hg:MY X tg g)(hb:oS X body tb)
  (hs:∀x,foldedSetIterable iter X.env x=pure x:=by intro _;rfl):AH X (.For tg iter body [] pos) (NI wi g tb):=⟨KD hp hc hi.p hg.p hb.p hs⟩
end
theorem iW.okw{P:Program}{w:World}{K:PySem.W.Frag}{mg:Str->Option Value}{base:Heap}{x qual:Str}{st:Stmt}{f:Addr}{fd:FuncData}{N ps:List Str}{k:Nat}{sp:Sp}(F:iW K x qual st f fd)(S:cJ N ps (aZ st))(len:∀vs H Q E,sp vs H Q E->vs.length=ps.length)
  (hbody:∀(cdv:Value) (A:Around) (outer:List Env) (s:Shared) (H:Hp) (vs:List V) (Q:VK) (E:XK),eR k (A.deeper (envOfC qual (aZ st) s.heap.objs.size f cdv))->sp vs H Q E ->
   ∃t,oS (mQ eI P w K mg base N qual (aZ st) f cdv A outer s H E).nox (eZ st) t/\t { nx:=λ_ H'=>Q .non H',rt:=Q } (start N vs) H):dW P w K mg base eI (k+1) f fd ps sp :=
 F.ok S len λcdv A outer s H vs Q E hr h=>by
  obtain ⟨t,h1,h2⟩:=hbody cdv A outer s H vs Q E hr h;exact ⟨t,h1.p,h2⟩
theorem iW.oky{P:Program}{w:World}{K:PySem.W.Frag}{mg:Str->Option Value}{base:Heap}{x qual:Str}{st:Stmt}{f:Addr}{fd:FuncData}{N ps:List Str}{k:Nat}{sp:Sp}(F:iW K x qual st f fd)(S:cJ N ps (aZ st))
  (h:∀(vs:List V) (H:Hp) (Q:VK) (E:XK),sp vs H Q E->vs.length=ps.length/\∀(cdv:Value) (A:Around) (outer:List Env) (s:Shared),eR k (A.deeper (envOfC qual (aZ st) s.heap.objs.size f cdv)) ->
   ∃t,oS (mQ eI P w K mg base N qual (aZ st) f cdv A outer s H E).nox (eZ st) t/\t { nx:=λ_ H'=>Q .non H',rt:=Q } (start N vs) H):dW P w K mg base eI (k+1) f fd ps sp :=
 F.okw S (λvs H Q E q=>(h vs H Q E q).1) λcdv A outer s H vs Q E hr q=>(h vs H Q E q).2 cdv A outer s hr
theorem tF(a b:Int):Int.gcd b (a % b)=Int.gcd a b:=by
 have h:=Int.gcd_add_mul_right_right b (a % b) (a/b);rw [show a % b+a/b*b=a from by have:=Int.emod_add_mul_ediv a b;rw [Int.mul_comm];exact this] at h;rw [<-h,Int.gcd_comm]
theorem xL{a:Int}(h:0<a):(Int.gcd a 0:Int)=a:=by rw [Int.gcd_zero_right];omega
section
variable{H:Hp}{x:V}{d:PyData}{Q:VK}
end
theorem aY.len{H:Hp}:∀{ds:List PyData}{vs:List V},aY H ds vs->vs.length=ds.length
 | [],_,h=>by cases (show _=[] from h);rfl
 | d::ds,_,h=>by
  unfold aY at h;obtain ⟨x,xs,rfl,_,h2⟩:=h;simp [aY.len h2]
section
variable{p:Addr}{σ:St}{t:TE}{ta:TA}{d:PyData}{ds:List PyData}
end
theorem nE{α:Type}{xs:List α}{x:Int}(h0:0<=x)(h1:x<xs.length):∃v,uH xs x=some v/\v∈xs/\xs[x.toNat]?=some v:=by
 have h:x.toNat<xs.length:=Oo;have e:=aE h;have:=fE e;rw [Int.toNat_of_nonneg h0] at this;exact ⟨_,this,List.getElem_mem h,e⟩
theorem aY.append{H:Hp}{es:List PyData}{ws:List V}(h':aY H es ws):∀{ds:List PyData}{vs:List V},aY H ds vs->aY H (ds++es) (vs++ws)
 | [],_,h=>by cases (show _=[] from h);exact h'
 | d::ds,_,h=>by
  unfold aY at h;obtain ⟨x,xs,rfl,h1,h2⟩:=h;exact aY.cons h1 (aY.append h' h2)
end L2
namespace L2
end L2
namespace L2
open PySem PySem.Spec PyProof.Rows
theorem aW.thru{l:Addr}{H0 H1 H2:Hp}(hl:H0 l=none)(s:aW H0 H1)(b:aR l H1 H2):aW H0 H2:=λc o e=>by
 have n:c≠l:=bS e hl;exact b.at n (s _ _ e)
theorem RM{H:Hp}{l b:Addr}{xs zs:List V}{Q:VK}(h1:H l=some (.lst xs))(h2:H b=some (.lst zs))(hz:xs.length+zs.length<=1000)(k:∀q H',H q=none->H' q=some (.lst (xs++zs))->aW H H'->Q (.ref q) H'):NX (.ref l) (.ref b) H Q :=
 ⟨l,b,xs,zs,rfl,rfl,h1,h2,Nat.le_of_lt (lD hz),λq hq=>k q _ hq aX (aW.upd hq)⟩
@[irreducible] def FJ:V->List V->Hp->VK->Prop:=wS
theorem KY{X:Cx}:MO X "list.append" FJ:=by unfold FJ;exact lJ
theorem RS{H:Hp}{l:Addr}{xs:List V}{y:V}{Q:VK}(h:H l=some (.lst xs))(hz:xs.length<=1000)(k:∀H',H' l=some (.lst (xs++[y]))->aR l H H'->Q .non H'):FJ (.ref l) [y] H Q:=by
 unfold FJ;exact ⟨l,xs,y,rfl,rfl,h,lD hz,k _ aX aR.self⟩
theorem QG{K:PySem.W.Frag}{H:Hp}{l:Addr}{xs:List V}(h:H l=some (.lst xs)):QF K "list" (.ref l) H:=.inl ⟨rfl,xs,fA.of h⟩
def gO(env:Env):List (Str × NameKind)->List (Str × Addr)->List (Str × Addr)
 | [],cs=>cs
 | (n,k)::r,cs=>if k == .free then gO env r ((n,(env.cells.lookup n).getD 0)::cs) else gO env r cs
theorem xW(env:Env):∀(l:List (Str × NameKind)) (cs:List (Str × Addr)),(∀y∈l,y.2=.free->∃c,env.cells.lookup y.1=some c) ->
  (forIn l cs λ(x:Str × NameKind) r=>if x.2 == .free then (do let c <-cellOf env x.1;pure (ForInStep.yield ((x.1,c)::r)):Sem _) else pure (ForInStep.yield r))=pure (gO env l cs)
 | [],cs,_=>rfl
 | (n,k)::r,cs,h=>by
  rw [List.forIn_cons];have ih:=λcs=>xW env r cs λy hy=>h y (aD _ hy);by_cases hk:(k == NameKind.free)=true
  ·obtain ⟨c,hc⟩:=h (n,k) aG (by simpa using hk);dsimp only at hc;simp only [hk,if_true,gO,hc,Option.getD_some,cellOf,pure_bind];exact ih _
  ·simp only [hk,gO,pure_bind];exact ih _
theorem iY{env:Env}{scope:Scope}(h:∀y∈scope.names,y.2=.free->∃c,env.cells.lookup y.1=some c):closureFor scope env=pure (gO env scope.names []):=by
 have e:=xW env scope.names [] h;unfold closureFor;simp only [bind_pure];exact e
theorem lS{env:Env}:∀(l:List (Str × NameKind)) (cs:List (Str × Addr)),(∀y∈l,y.2=.free->∃c,env.cells.lookup y.1=some c)->∀p∈gO env l cs,p∈cs\/env.cells.lookup p.1=some p.2
 | [],cs,_,p,hp=>.inl hp
 | (n,k)::r,cs,h,p,hp=>by
  have h':∀y∈r,y.2=.free->∃c,env.cells.lookup y.1=some c:=λy hy=>h y (aD _ hy);unfold gO at hp;by_cases hk:(k == NameKind.free)=true
  ·rw [if_pos hk] at hp;obtain ⟨c,hc⟩:=h (n,k) aG (by simpa using hk);rcases lS r _ h' p hp with hm | hm
   ·rcases aP.mp hm with rfl | hm
    ·exact .inr (by dsimp only at hc ⊢;rw [hc];rfl)
    ·exact .inl hm
   ·exact .inr hm
  ·rw [if_neg hk] at hp;exact lS r cs h' p hp
theorem lU{env:Env}:∀(l:List (Str × NameKind)) (cs:List (Str × Addr)),∀p∈cs,p∈gO env l cs
 | [],_,_,hp=>hp
 | (n,k)::r,cs,p,hp=>by
  unfold gO;by_cases hk:(k == NameKind.free)=true
  ·rw [if_pos hk];exact lU r _ p (aD _ hp)
  ·rw [if_neg hk];exact lU r _ p hp
theorem lT{env:Env}:∀(l:List (Str × NameKind)) (cs:List (Str × Addr)) (y:Str),(y,NameKind.free)∈l->∃a,(y,a)∈gO env l cs
 | (n,k)::r,cs,y,hy=>by
  unfold gO;rcases aP.mp hy with e | hm
  ·cases e;rw [if_pos (by rfl)];exact ⟨_,lU r _ _ aG⟩
  ·by_cases hk:(k == NameKind.free)=true
   ·rw [if_pos hk];exact lT r _ y hm
   ·rw [if_neg hk];exact lT r _ y hm
theorem hG{α β:Type}[BEq α][LawfulBEq α]{x:α}{c:β}:∀{l:List (α × β)},l.lookup x=some c->(x,c)∈l
 | [],h=>by cases h
 | (a,b)::r,h=>by
  rw [List.lookup_cons] at h;by_cases e:(x == a)=true
  ·rw [e] at h;have:x=a:=by simpa using e
   subst this;cases h;exact aG
  ·have e':(x == a)=false:=by simpa using e
   rw [e'] at h;exact aD _ (hG h)
theorem gZ{α β:Type}[BEq α][LawfulBEq α]{x:α}{c:β}:∀{l:List (α × β)},(x,c)∈l->∃c',l.lookup x=some c'
 | (a,b)::r,h=>by
  rw [List.lookup_cons];by_cases e:(x == a)=true
  ·rw [e];exact ⟨_,rfl⟩
  ·have e':(x == a)=false:=by simpa using e
   rw [e'];rcases aP.mp h with q | q
   ·cases q;simp at e
   ·exact gZ q
def pB(X:Cx)(scope:Scope):List (Str × Addr):=gO X.env scope.names []
theorem dR{X:Cx}{scope:Scope}(h:∀y∈scope.names,y.2=.free->∃c,X.env.cells.lookup y.1=some c){x:Str}{c:Addr}(e:(pB X scope).lookup x=some c):X.env.cells.lookup x=some c:=by
 rcases lS scope.names [] h _ (hG e) with hm | hm
 ·cases hm
 ·exact hm
theorem gP{X:Cx}{scope:Scope}(h:∀y∈scope.names,y.2=.free->∃c,X.env.cells.lookup y.1=some c){x:Str}(hx:(x,NameKind.free)∈scope.names){c:Addr}(e:X.env.cells.lookup x=some c):(pB X scope).lookup x=some c:=by
 obtain ⟨a,ha⟩:=lT (env:=X.env) scope.names [] x hx;obtain ⟨c',hc'⟩:=gZ ha;have:=dR h hc';rw [e] at this;cases this;exact hc'
def rQ(X:Cx)(scope:Scope)(C:Addr)(fp:List Addr)(s₀:Shared)(H₀:Hp)(N':List Str):Cx where
 prog:=X.prog
 w:=X.w
 K:=X.K
 mg:=X.mg
 base:=X.base
 A:=X.A
 N:=N'
 s₀:=s₀
 H₀:=H₀
 env:=compEnvC scope (pB X scope) C X.env
 outer:=X.stack
 stack:=X.stack
 ex:=fp
 fn:=λ_=>false
 calm:=true
 pn:=[]
 xe:=λ_ _=>False
def slots(σ:St)(js:List Nat):St:=js.map λj=>(σ[j]?).getD none
def EH(X:Cx)(ifs:List Expr)(t:TT):Prop :=
 ∀(pins:List (Addr × Obj)) (s:Shared) (σ:St) (H:Hp) (Q:Bool->Hp->Prop),bG X pins σ H s->t σ H Q ->
  wpAny (model X.prog X.w) X.A (forIn ifs true λc r=>if r=true then do let ok <-isTrue c X.env (eval c X.env);pure (ForInStep.yield ok) else pure (ForInStep.yield r)) (TP X pins σ Q) X.xe s
def oW:TT:=λ_ H Q=>Q true H
theorem pts_nil{X:Cx}:EH X [] oW:=λpins s σ H Q I h=>wpAny_tests_nil ⟨H,I,h⟩
theorem FN{X:Cx}{c:Expr}{t:TT}(h:PT X c t):EH X [c] t:=λpins s σ H Q I q=>wpAny_tests_one (h pins s σ H Q I q)
def HV(wi:TI)(js:List Nat)(tc:TT)(te:TE):TE:=λσ H Q=>wi σ H λJ H1=>∀D,H1 D=none->∃W:Nat->Nat->List V->Hp->Prop,(∃m,W 0 m [] (upd H1 D (.lst []))) /\
 ∀i m ys H2,W i m ys H2->H2 D=some (.lst ys)/\((J.stop i H2/\Q (.ref D) H2)\/(J.go i H2/\ys.length<sizeLine/\∀x H3,J.yld i H2 x H3 ->
  tc (some x::slots σ js) H3 λb H4=>if b=true then te (some x::slots σ js) H4 λy H5=>H5 D=some (.lst ys)/\∃m',m' < m/\W (i+1) m' (ys++[y]) (upd H5 D (.lst (ys++[y])))
   else H4 D=some (.lst ys)/\∃m',m' < m/\W (i+1) m' ys H4))
structure dP(X:Cx)(scope:Scope)(x:Str)(N':List Str)(js:List Nat):Prop where
 calm:X.calm=true
 free:∀y∈scope.names,y.2=.free->X.env.kindOf y.1=some .cell
 cell:∀y∈scope.names,y.2 ≠ .cell
 kind:scope.kind=.function
 names:∀y∈scope.names,y.2=.local->scope.names.lookup y.1=some .local
 own:scope.names.lookup x=some .local
 nofl:∀y,(y,NameKind.free)∈scope.names->scope.names.lookup y=some .local->False
 len:N'.length=js.length+1
 zero:N'[0]?=some x
 nd:N'.Nodup
 slot:∀(i:Nat) (j:Nat),js[i]?=some j->∃y,N'[i+1]?=some y/\X.N[j]?=some y/\(y,NameKind.free)∈scope.names
section
variable{X:Cx}{pins:List (Addr × Obj)}{σ:St}{H:Hp}{s:Shared}{scope:Scope}{x:Str}{N':List Str}{js:List Nat}{fp:List Addr}
theorem dP.cells(S:dP X scope x N' js)(ok:X.Ok):∀y∈scope.names,y.2=.free->∃c,X.env.cells.lookup y.1=some c:=λy hy hf=>ok.has _ (.inl (S.free y hy hf))
theorem gB{env:Env}:∀{names:List (Str × NameKind)}{y:Str}{k:NameKind},(names.map λ(n,k)=>if (k == NameKind.free&&env.scope.kind == .function&&env.kindOf n == some .cell) then (n,NameKind.cell) else (n,k)).lookup y=some k ->
  (k=.cell\/k=.free)->(∀z∈names,z.2 ≠ .cell)->(y,NameKind.free)∈names
 | [],_,_,h,_,_=>by cases h
 | (n,q)::r,y,k,h,hk,hc=>by
  rw [bA,List.lookup_cons] at h;have ih:=λh=>@gB env r y k h hk λz hz=>hc z (aD _ hz);by_cases hq:(q == NameKind.free&&env.scope.kind == .function&&env.kindOf n == some .cell)=true
  ·dsimp only at h;rw [if_pos hq] at h;have qf:q=.free:=by
    rw [bJ,bJ] at hq;simpa using hq.1.1
   subst qf;by_cases e:(y == n)=true
   ·have:y=n:=by simpa using e
    subst this;exact aG
   ·have e':(y == n)=false:=by simpa using e
    dsimp only at h;rw [e'] at h;exact aD _ (ih h)
  ·dsimp only at h;rw [if_neg hq] at h;by_cases e:(y == n)=true
   ·have:y=n:=by simpa using e
    subst this;dsimp only at h;rw [e] at h;have hkq:k=q:=by injection h with h;exact h.symm
    subst hkq;rcases hk with rfl | rfl
    ·exact absurd rfl (hc _ aG)
    ·exact aG
   ·have e':(y == n)=false:=by simpa using e
    dsimp only at h;rw [e'] at h;exact aD _ (ih h)
theorem LX(S:dP X scope x N' js)(I:bG X pins σ H s)(hf:∀b∈fp,fL X pins H b)(hb:∀b∈fp,b<s.heap.objs.size):(rQ X scope s.heap.objs.size fp s H N').Ok where
 mod:=I.ok.mod
 kind:=S.kind
 glob:=I.ok.glob
 blt:=I.ok.blt
 above:=aC _
 inj:=λy z c h1 h2=>I.ok.inj y z c (dR (S.cells I.ok) h1) (dR (S.cells I.ok) h2)
 has:=λy hy=>by
  have hm:(y,NameKind.free)∈scope.names:=by
   rcases hy with hy | hy
   ·exact gB (env:=X.env) hy (.inl rfl) S.cell
   ·exact gB (env:=X.env) hy (.inr rfl) S.cell
  obtain ⟨c,hc⟩:=S.cells I.ok _ hm rfl;exact ⟨c,gP (S.cells I.ok) hm hc⟩
 cab:=λ_ _ h=>by cases h
 hd:=λ_=>I.ok.hd S.calm
 frames:=I.ok.frames
 stk:=.inl rfl
 exf:=λb hb'=>⟨λe=>by have:=hb b hb';rw [e] at this;exact bQ _ this,λy c h=>(hf b hb').2.2.2.2.1 y c (dR (S.cells I.ok) h)⟩
 bs:=I.bs
 bsz:=aU I.ok.bsz I.sz
 noex:=λb o e hb'=>by
  rcases (hf b hb').2.2.2.1 with h | h
  ·exact I.ok.noex b o e h
  ·exact absurd (aH (aN e) (aU I.ok.bsz h)) (bQ _)
 exfs:=λb hb' hs=>by
  have h2:=I.stkSub b hs;rcases aP.mp h2 with h2 | h2
  ·exact (hf b hb').2.1 h2
  ·exact (hf b hb').2.2.1 h2
 funs:=I.stack
 frf:=I.stkFree
theorem pJ{i j:Nat}(h:js[i]?=some j):(slots σ js)[i]?=some ((σ[j]?).getD none):=by
 unfold slots;rw [aQ,h];rfl
theorem GZ{h':Heap}{tk:Nat}(S:dP X scope x N' js)(I:bG X pins σ H s)(hf:∀b∈fp,fL X pins H b)(hb:∀b∈fp,b<s.heap.objs.size)
  (hn:h'.Ns s.heap.objs.size (λ_=>none)) (hk:∀b o,s.heap.get? b=some o->h'.get? b=some o):bG (rQ X scope s.heap.objs.size fp s H N') [] (none::slots σ js) H { s with heap:=h',toks:=tk } where
 ok:=LX S I hf hb
 os:=rfl
 bare:=I.bare
 base:=Un.kept hk
 loc:=by
  refine ⟨_,hn,λi y v hi hv hvis=>?_⟩;cases i with
  | zero=>cases hv
  | succ i =>
   have hv':(slots σ js)[i]?=some (some v):=hv;have hlt:i<js.length:=by
    have:=(bL.mp hv').1;unfold slots at this
    rwa [aB] at this
   have hj:js[i]?=some js[i]:=aE hlt;obtain ⟨z,h1,h2,h3⟩:=S.slot i _ hj;have hzy:z=y:=by
    have:N'[i+1]?=some y:=hi;rw [h1] at this;cases this;rfl
   subst hzy;rw [pJ hj] at hv';have hσ:σ[js[i]]?=some (some v):=by
    cases q:σ[js[i]]? with
    | none=>rw [q] at hv';cases hv'
    | some o=>rw [q] at hv';cases hv';rfl
   have hkc:X.env.kindOf z=some .cell:=S.free _ h3 rfl;obtain ⟨m,hm,hl⟩:=I.loc;obtain ⟨u,ru,lk⟩:=hl _ z v h2 hσ (.inr (.inl hkc));rcases lk with ⟨hk1,_⟩ | ⟨_,c,hc,hcell⟩
   ·rw [hkc] at hk1;cases hk1
   ·refine ⟨u,ru,.inr ⟨?_,c,gP (S.cells I.ok) h3 hc,?_⟩⟩
    ·rcases hvis with hvis | hvis | hvis
     ·exfalso;have hcl:=gP (S.cells I.ok) h3 hc;have hm2:=hG (l:=(relabel scope X.env).names) hvis;unfold relabel at hm2;obtain ⟨⟨n,k⟩,hmem,he⟩:=cP.mp hm2;dsimp only at he;by_cases hq:(k == NameKind.free&&X.env.scope.kind == .function&&X.env.kindOf n == some .cell)=true
      ·rw [if_pos hq] at he;cases he
      ·rw [if_neg hq] at he;cases he;have:=S.names _ hmem rfl;have l2:=gZ h3;obtain ⟨c',l2⟩:=l2;dsimp only at this;rw [this] at l2;have key:(relabel scope X.env).names.lookup z=some .local:=lookup_relabel_local this;have hck:scope.names.lookup z=some .local:=this;exact S.nofl z h3 hck
     ·exact .inl hvis
     ·exact .inr hvis
    ·obtain ⟨o,e,r⟩:=hcell;exact ⟨o,hk _ _ e,r⟩
 cell:=λy c h=>by
  obtain ⟨v,o,e,r⟩:=I.cell y c (dR (S.cells I.ok) h);exact ⟨v,o,hk _ _ e,r⟩
 free:=I.hok.fresh (aC _)
 freeC:=λy c h=>I.freeC y c (dR (S.cells I.ok) h)
 pin:=λp hp=>by cases hp
 hok:=I.hok.kept hk
 len:=by
  show (slots σ js).length+1=N'.length;unfold slots;rw [aB,S.len]
theorem iC.but{P:Program}{w:World}{H:Hp}{h h':Heap}{C:Addr}(x:iC P w H h)(hC:H C=none)(k:∀b u,b≠C->h.get? b=some u->h'.get? b=some u):iC P w H h':=λa o e =>
 (x a o e).stay (λb u hb q=>k b u (by
  rcases hb with rfl | hb
  ·exact bS e hC
  ·exact bS hb hC) q) (λ_ q=>q) λ_ _ q=>q
theorem DP{H2:Hp}{σ':St}{s2:Shared}{h'':Heap}(S:dP X scope x N' js)(I:bG X pins σ H s)(hf:∀b∈fp,fL X pins H b)
  (J:bG (rQ X scope s.heap.objs.size fp s H N') [] σ' H2 s2) (hs:Heap.SameBut s.heap.objs.size s2.heap h''):bG X pins σ H2 { s2 with heap:=h'' }:=by
 have hC:H2 s.heap.objs.size=none:=J.free;have ne:∀{b:Addr} {o:Obj},s.heap.get? b=some o->b≠s.heap.objs.size:=λe q=>by
  have:=aN e;rw [q] at this;exact bQ _ this
 refine I.call' (s':={ s2 with heap:=h'' }) (ch:=fp) (by rw [show ({ s2 with heap:=h'' }:Shared).os=s2.os from rfl];exact J.os) ?_ (J.hok.but hC λb u hb q=>hs.extBut b u hb q) J.bare λb hb=>⟨(hf b hb).2.2.2.1,(hf b hb).2.1,(hf b hb).2.2.2.2.1,(hf b hb).2.2.2.2.2⟩;have U:=J.base;exact {
  keep:=λb o e n h1 h2=>hs.extBut b o (ne e) (U.keep b o e n h1 h2)
  slot:=λb o e n h1 h2=>by
   obtain ⟨sl,q⟩:=U.slot b o e n h1 h2;exact ⟨sl,hs.extBut b _ (ne e) q⟩
  free:=U.free
  there:=λb o e h2=>by
   obtain ⟨o',q⟩:=U.there b o e h2;exact ⟨o',hs.extBut b _ (ne e) q⟩
  tups:=U.tups
  frzs:=U.frzs
  tbls:=U.tbls }
end
abbrev EJ:Value->Shared->Prop:=λ_ _=>False
theorem kH{prog:Program}{w:World}{A:Around}{R:Result->Shared->Prop}{s:Shared}{elt target iter:Expr}{ifs:List Expr}{scope:Scope}{pos:Pos}{it acc:Value}{env:Env}(I:Nat->Shared->Prop)
  (turn:∀n s,I n s->wpAny (model prog w) A (pyNext it) (λr s₁=>match r with
   | none=>R (.ok .next) s₁
   | some v=>wpAny (model prog w) A (letOwnedTupleGo target it v) (λ_ s₁'=>wpAny (model prog w) A (assign target env v) (λ_ s₂ =>
     wpAny (model prog w) A (forIn ifs true λc r=>if r=true then do let ok <-isTrue c env (eval c env);pure (ForInStep.yield ok) else pure (ForInStep.yield r)) (λok s₃ =>
      if ok=true then wpAny (model prog w) A (eval elt env) (λx s₄=>wpAny (model prog w) A (call (.builtin "list.append") [acc,x]) (λ_ s₅=>∃m,m<n/\I m s₅) EJ s₄) EJ s₃
      else ∃m,m<n/\I m s₃) EJ s₂) EJ s₁') EJ s₁) EJ s)
  (n:Nat) (h:I n s):codeAny (model prog w) A (.compLoop (.ListComp elt [⟨target,iter,ifs,0⟩] scope pos) 0 it acc env) R s:=by
 refine codeAny_loop rfl I (λn s hI=>?_) n h;show wpAny _ A ((compTurn (.ListComp elt [⟨target,iter,ifs,0⟩] scope pos) 0 it acc env).onRaise (λx=>do noteFrame x env;theTreesLotGoes x)) _ _ s;refine wpAny_noted ?_;rw [compTurn_list];refine wpAny_bind (wpAny_standAt (wpAny_bind (wpAny_mono (turn n s hI) (λr s₁ h₁=>?_) λ_ _ h'=>h'.elim)));cases r with
 | none=>exact wpAny_pure h₁
 | some v =>
  refine wpAny_bind (wpAny_mono h₁ (λ_ s₁' h₁'=>?_) λ_ _ h'=>h'.elim);refine wpAny_bind (wpAny_mono h₁' (λ_ s₂ h₂=>wpAny_bind (wpAny_mono h₂ (λok s₃ h₃=>?_) λ_ _ h'=>h'.elim)) λ_ _ h'=>h'.elim);cases ok with
  | false=>exact wpAny_pure ⟨rfl,h₃⟩
  | true =>
   exact wpAny_bind (wpAny_bind (wpAny_mono h₃ (λx s₄ h₄=>wpAny_bind (wpAny_mono h₄ (λ_ s₅ h₅=>wpAny_pure (wpAny_pure ⟨rfl,h₅⟩)) λ_ _ h'=>h'.elim)) λ_ _ h'=>h'.elim))
section
variable{X:Cx}{pins:List (Addr × Obj)}{σ:St}{H:Hp}{s:Shared}{scope:Scope}{x:Str}{N':List Str}{js:List Nat}{fp:List Addr}{elt iter:Expr}{px pos:Pos}{ifs:List Expr}{tc:TT}{te:TE}
theorem vJ{J:It}{it:Addr}{tn:Nat->Heap->Prop}{RR:Value->Addr->Result->Shared->Prop}{E:Value->Shared->Prop}{Q:VK}
  (S:dP X scope x N' js) (I:bG X pins σ H s) (T:tZ X.prog X.w X.K (.Name x px) J fp it tn) (h0:tn 0 s.heap) (hf:∀b∈fp,fL X pins H b)
  (ht:∀C fp s₀ H₀,EH (rQ X scope C fp s₀ H₀ N') ifs tc) (he:∀C fp s₀ H₀,PE (rQ X scope C fp s₀ H₀ N') elt te)
  (R:∀D,H D=none->∃W:Nat->Nat->List V->Hp->Prop,(∃m,W 0 m [] (upd H D (.lst []))) /\
   ∀i m ys H2,W i m ys H2->H2 D=some (.lst ys)/\((J.stop i H2/\Q (.ref D) H2)\/(J.go i H2/\ys.length<sizeLine/\∀x H3,J.yld i H2 x H3 ->
    tc (some x::slots σ js) H3 λb H4=>if b=true then te (some x::slots σ js) H4 λy H5=>H5 D=some (.lst ys)/\∃m',m' < m/\W (i+1) m' (ys++[y]) (upd H5 D (.lst (ys++[y])))
     else H4 D=some (.lst ys)/\∃m',m' < m/\W (i+1) m' ys H4)))
  (hRR:∀(D:Addr) (H3:Hp) (s3:Shared) (σ':St) (H':Hp) (s':Shared),bG X pins σ H3 s3->(∀b∈fp,fL X pins H3 b)->bG (rQ X scope s3.heap.objs.size fp s3 H3 N') [] σ' H' s'->Q (.ref D) H'->RR (.ref D) s3.heap.objs.size (.ok .next) s') :
  wpAny (model X.prog X.w) X.A (newList []) (λacc s₃=>wpAny (model X.prog X.w) X.A (newFunctionEnv scope X.env.globals (pB X scope) [] X.env.qual none .none (some X.env)) (λcenv s₄ =>
   codeAny (model X.prog X.w) X.A (.compStart (.ListComp elt [⟨.Name x px,iter,ifs,0⟩] scope pos) 0 (.ref it) acc { cenv with scope:=relabel scope X.env }) (RR acc cenv.locals) s₄) E s₃) E s:=by
 have hb:∀b∈fp,b<s.heap.objs.size:=λb hb=>by
  obtain ⟨o,e,_⟩:=T.obj 0 _ h0 b hb;exact aN e
 refine wpAny_newObj_type (wpAny_newFunctionEnv S.cell (by intro y hy;simp at hy) (λh₁ hns₁ hsb₁=>?_) S.kind);have hDn:H s.heap.objs.size=none:=I.hok.fresh (aC _);obtain ⟨W,⟨m0,hw0⟩,hW⟩:=R _ hDn;have I3:bG X pins σ (upd H s.heap.objs.size (.lst [])) { s with heap:=s.heap.push { cls:=.type "list",dict:=none,data:=.seq ([]:List Value).toArray } }:=I.lnew (its:=[]) (ys:=[]) (t':=s.toks) .nil (cC _);have hf3:∀b∈fp,fL X pins (upd H s.heap.objs.size (.lst [])) b:=λb hb' =>
  ⟨by rw [bB (λe=>by have:=hb b hb';rw [e] at this;exact bQ _ this)];exact (hf b hb').1,(hf b hb').2⟩
 have hb3:∀b∈fp,b<(s.heap.push { cls:=.type "list",dict:=none,data:=.seq ([]:List Value).toArray }).objs.size:=λb hb'=>by
  rw [cY];exact Nat.lt_succ_of_lt (hb b hb')
 have hkeep:∀b o,(s.heap.push { cls:=.type "list",dict:=none,data:=.seq ([]:List Value).toArray }).get? b=some o->h₁.get? b=some o:=λb o e =>
  hsb₁.extBut b o (λq=>by have:=aN e;rw [q] at this;exact bQ _ this) (aA _ e)
 have J4:=GZ (h':=h₁) (tk:=s.toks+([]:List (Str × Value)).length) S I3 hf3 hb3 hns₁ hkeep;have t4:tn 0 h₁:=T.keep 0 _ _ h0 λb hb' o e=>hkeep b o (aA _ e);have loop:codeAny (model X.prog X.w) X.A (.compLoop (.ListComp elt [⟨.Name x px,iter,ifs,0⟩] scope pos) 0 (.ref it) (.ref s.heap.objs.size) (compEnvC scope (pB X scope) (s.heap.push { cls:=.type "list",dict:=none,data:=.seq ([]:List Value).toArray }).objs.size X.env))
   (RR (.ref s.heap.objs.size) (s.heap.push { cls:=.type "list",dict:=none,data:=.seq ([]:List Value).toArray }).objs.size) { s with heap:=h₁,toks:=s.toks+([]:List (Str × Value)).length }:=by
  refine kH (λn s'=>∃(i:Nat) (ys:List V) (H2:Hp) (o:Option V),bG (rQ X scope _ fp _ _ N') [] (o::slots σ js) H2 s'/\tn i s'.heap/\(∀b∈fp,H2 b=none)/\W i n ys H2) ?_ m0 ⟨0,[],_,none,J4,t4,λb hb'=>(hf3 b hb').1,hw0⟩;rintro n s' ⟨i,ys,H2,o,J2,t2,f2,w2⟩;obtain ⟨hD,hcase⟩:=hW i n ys H2 w2;have Fp:∀b∈fp,fL (rQ X scope (s.heap.push { cls:=.type "list",dict:=none,data:=.seq ([]:List Value).toArray }).objs.size fp { s with heap:=s.heap.push { cls:=.type "list",dict:=none,data:=.seq ([]:List Value).toArray } } (upd H s.heap.objs.size (.lst [])) N') [] H2 b:=λb hb' =>
   ⟨f2 b hb',(J2.ok.exf b hb').1,J2.ok.exfs b hb',.inl hb',(J2.ok.exf b hb').2,λp hp=>by cases hp⟩
  rcases hcase with ⟨hstop,hq⟩ | ⟨hgo,hz,hturn⟩
  ·refine wpAny_mono (T.done (rQ X scope _ fp _ _ N') rfl rfl rfl rfl i [] s' _ H2 EJ J2 Fp t2 hstop) (λr s1 ⟨hr,J5⟩=>?_) λ_ _ f=>f;subst hr;exact hRR _ _ _ _ _ _ I3 hf3 J5 hq
  ·refine wpAny_mono (T.item (rQ X scope _ fp _ _ N') rfl rfl rfl rfl i [] s' _ H2 EJ J2 Fp t2 hgo) (λr s1 ⟨u,hr,hx⟩=>?_) λ_ _ f=>f;subst hr;refine wpAny_mono hx (λ_ s2 ⟨v,H3,J3,rv,hy,t3,f3⟩=>?_) λ_ _ f=>f;have Fp3:∀b∈fp,fL (rQ X scope (s.heap.push { cls:=.type "list",dict:=none,data:=.seq ([]:List Value).toArray }).objs.size fp { s with heap:=s.heap.push { cls:=.type "list",dict:=none,data:=.seq ([]:List Value).toArray } } (upd H s.heap.objs.size (.lst [])) N') [] H3 b:=λb hb' =>
    ⟨f3 b hb',(J3.ok.exf b hb').1,J3.ok.exfs b hb',.inl hb',(J3.ok.exf b hb').2,λp hp=>by cases hp⟩
   have P3:=J3.pinned Fp3 (T.obj (i+1) _ t3);have keepT:∀{σ':St} {Hx:Hp} {sx:Shared},bG (rQ X scope (s.heap.push { cls:=.type "list",dict:=none,data:=.seq ([]:List Value).toArray }).objs.size fp { s with heap:=s.heap.push { cls:=.type "list",dict:=none,data:=.seq ([]:List Value).toArray } } (upd H s.heap.objs.size (.lst [])) N') ([]++lH fp s2.heap) σ' Hx sx->tn (i+1) sx.heap/\∀b∈fp,Hx b=none:=λJx =>
    ⟨T.keep (i+1) _ _ t3 λb hb' ob e=>(Jx.pin (b,ob) (aF _ (aF _ (fD hb' e)))).1,λb hb'=>by
     obtain ⟨ob,e,_⟩:=T.obj (i+1) _ t3 b hb';exact (Jx.pin (b,ob) (aF _ (aF _ (fD hb' e)))).2.1⟩
   refine wpAny_assign_Name (gF P3 (i:=0) (x:=x) (v:=v) ?nd ?hi ?hx rv (λs5 J5=>?_) ?hfn)
   case nd=>exact S.nd
   case hi=>exact S.zero
   case hx=>exact .inl (lookup_relabel_local S.own)
   case hfn=>exact .inr (lookup_relabel_local S.own)
   have J5':bG _ _ (some v::slots σ js) H3 s5:=J5;refine wpAny_mono (ht _ _ _ _ _ _ _ _ _ J5' (hturn v H3 hy)) (λok s6 ⟨H6,J6,q6⟩=>?_) λ_ _ f=>f;dsimp only at q6;by_cases hok:ok=true
   ·rw [if_pos hok] at q6 ⊢;refine wpAny_mono (he _ _ _ _ _ _ _ _ _ J6 q6) (λy s7 ⟨w',H7,J7,r7,hD7,m',hm',w7⟩=>?_) λ_ _ f=>f;refine wpAny_mono (lJ (X:=rQ X scope _ fp _ _ N') _ _ _ _ (.ref s.heap.objs.size) [w'] (.ref s.heap.objs.size) [y] (λ_ H8=>H8=upd H7 s.heap.objs.size (.lst (ys++[w']))) J7 rfl (.cons r7 .nil) ⟨_,_,_,rfl,rfl,hD7,hz,rfl⟩) (λ_ s8 ⟨_,H8,J8,_,e8⟩=>?_) λ_ _ f=>f;subst e8;obtain ⟨k1,k2⟩:=keepT J8;exact ⟨m',hm',i+1,ys++[w'],_,some v,J8.unpinned,k1,k2,w7⟩
   ·rw [if_neg hok] at q6 ⊢;obtain ⟨_,m',hm',w7⟩:=q6;obtain ⟨k1,k2⟩:=keepT J6;exact ⟨m',hm',i+1,ys,_,some v,J6.unpinned,k1,k2,w7⟩
 refine codeAny_compStart_list loop (T.self X.A 0 _ _ _ t4 loop)
theorem FY{wi:TI}(S:dP X scope x N' js)(hi:PI X (.Name x px) iter wi)(ht:∀C fp s₀ H₀,EH (rQ X scope C fp s₀ H₀ N') ifs tc)(he:∀C fp s₀ H₀,PE (rQ X scope C fp s₀ H₀ N') elt te)
  (hs:∀x,foldedSetIterable iter X.env x=pure x:=by intro _;rfl):PE X (.ListComp elt [⟨.Name x px,iter,ifs,0⟩] scope pos) (HV wi js tc te):=by
 intro pins s σ H Q I h;rw [eval_ListComp];refine wpAny_comprehension_free (use:=none) rfl hs (iY (S.cells I.ok)) S.kind S.names (wpAny_mono (hi pins s σ H _ I h) (λv s1 h1=>?_) λ_ _ e=>e);refine wpAny_mono h1 (λitv s2 ⟨it,fp,tn,J,H2,e,I2,T,t0,hf,R⟩=>?_) λ_ _ e=>e;subst e;refine vJ S I2 T t0 hf ht he R ?_;intro D H3 s3 σ' H' s' I3 hf3 J3 q;obtain ⟨m,hm,_⟩:=J3.loc;exact ⟨m,hm,λh' hs'=>⟨.ref D,H',DP S I3 hf3 J3 hs',rfl,q⟩⟩
end
structure HI(X:Cx)(ifs:List Expr)(t:TT):Prop where p:EH X ifs t
def BE(t:TE):TE:=λσ H Q=>∃Q':VK,t σ H Q'/\∀v H1,Q' v H1->Q v H1
theorem PE.mono{X:Cx}{e:Expr}{t:TE}(h:PE X e t):PE X e (BE t):=λpins s σ H Q I ⟨Q',h1,h2⟩ =>
 thn (h pins s σ H Q' I h1) λb s' ⟨v,H',I',r,q⟩=>⟨v,H',I',r,h2 _ _ q⟩
theorem EH.mono{X:Cx}{es:List Expr}{t:TT}(h:EH X es t):EH X es (pH t):=λpins s σ H Q I ⟨Q',h1,h2⟩ =>
 thn (h pins s σ H Q' I h1) λb s' ⟨H',I',q⟩=>⟨H',I',h2 _ _ q⟩
@[irreducible] def fV(J:It)(σ:St)(js:List Nat)(tc:TT)(te:TE)(H1:Hp)(Q:VK):Prop:=∀D,H1 D=none->∃W:Nat->Nat->List V->Hp->Prop,(∃m,W 0 m [] (upd H1 D (.lst []))) /\
 ∀i m ys H2,W i m ys H2->H2 D=some (.lst ys)/\((J.stop i H2/\Q (.ref D) H2)\/(J.go i H2/\ys.length<sizeLine/\∀x H3,J.yld i H2 x H3 ->
  pH tc (some x::slots σ js) H3 λb H4=>if b=true then BE te (some x::slots σ js) H4 λy H5=>H5 D=some (.lst ys)/\∃m',m' < m/\W (i+1) m' (ys++[y]) (upd H5 D (.lst (ys++[y])))
   else H4 D=some (.lst ys)/\∃m',m' < m/\W (i+1) m' ys H4))
def qK(wi:TI)(js:List Nat)(tc:TT)(te:TE):TE:=λσ H Q=>wi σ H λJ H1=>fV J σ js tc te H1 Q
section
variable{X:Cx}{scope:Scope}{x y:Str}{N':List Str}{js:List Nat}{elt iter c:Expr}{px py pos spos:Pos}{ifs:List Expr}{tc:TT}{te:TE}{wi:TI}{i:Nat}
theorem fN:HI X [] oW:=⟨pts_nil⟩
theorem EO{t:TT}(h:AM X c t):HI X [c] t:=⟨FN h.p⟩
theorem fO(S:dP X scope x N' js)(hi:EI X (.Name x px) iter wi)(ht:∀C fp s₀ H₀,HI (rQ X scope C fp s₀ H₀ N') ifs tc)(he:∀C fp s₀ H₀,eU (rQ X scope C fp s₀ H₀ N') elt te)
  (hs:∀x,foldedSetIterable iter X.env x=pure x:=by intro _;rfl):eU X (.ListComp elt [⟨.Name x px,iter,ifs,0⟩] scope pos) (qK wi js tc te) :=
 ⟨by unfold qK fV;exact FY S hi.p (λC fp s₀ H₀=>(ht C fp s₀ H₀).p.mono) (λC fp s₀ H₀=>(he C fp s₀ H₀).p.mono) hs⟩
end
def IN(psc scope:Scope)(N:List Str)(x:Str)(N':List Str)(js:List Nat):Bool :=
 (scope.names.all λy=>!(y.2 == .free) || psc.names.lookup y.1 == some .cell)&&(scope.names.all λy=>!(y.2 == .cell))&&scope.kind == .function &&
 (scope.names.all λy=>!(y.2 == .local) || scope.names.lookup y.1 == some .local)&&scope.names.lookup x == some .local &&
 (scope.names.all λy=>!(y.2 == .free) || !(scope.names.lookup y.1 == some .local))&&N'.length == js.length+1&&N'[0]? == some x&&decide N'.Nodup &&
 ((List.range js.length).all λi=>match js[i]?,N'[i+1]? with
  | some j,some y=>N[j]? == some y&&scope.names.contains (y,NameKind.free)
  | _,_=>false)
theorem dP.of{X:Cx}{psc scope:Scope}{N:List Str}{x:Str}{N':List Str}{js:List Nat}(h:IN psc scope N x N' js=true)(hX:X.env.scope=psc)(hN:X.N=N)(hc:X.calm=true):dP X scope x N' js:=by
 unfold IN at h;simp only [bJ] at h;obtain ⟨⟨⟨⟨⟨⟨⟨⟨⟨h1,h2⟩,h3⟩,h4⟩,h5⟩,h6⟩,h7⟩,h8⟩,h9⟩,h10⟩:=h;rw [List.all_eq_true] at h1 h2 h4 h6 h10;refine ⟨hc,λy hy e=>?_,λy hy e=>?_,by simpa using h3,λy hy e=>?_,by simpa using h5,λy hy e=>?_,by simpa using h7,by simpa using h8,of_decide_eq_true h9,λi j hj=>?_⟩
 ·have:=h1 y hy;rw [e] at this;show X.env.scope.names.lookup y.1=_;rw [hX];simpa using this
 ·have:=h2 y hy;rw [e] at this;simp at this
 ·have:=h4 y hy;rw [e] at this;simpa using this
 ·have:=h6 _ hy;rw [e] at this;simp at this
 ·have hi:i<js.length:=(bL.mp hj).1;have:=h10 i (eM.mpr hi);rw [hj] at this;cases q:N'[i+1]? with
  | none=>rw [q] at this;simp at this
  | some y =>
   rw [q] at this;simp only [bJ] at this;exact ⟨y,rfl,by rw [hN];simpa using this.1,List.contains_iff_mem.mp this.2⟩
section
variable{js:List Nat}{te:TE}{tc:TT}{σ:St}{H:Hp}{Q:VK}
theorem tP{J:It}{n:Nat}(src:Nat->V->Prop)(hz:n<=100000)(Pv:Addr->Nat->List V->Hp->Prop)
  (h0:∀D H1,H D=none->H1 D=some (.lst [])->aW H H1->Pv D 0 [] H1)
  (hg:∀D i ys H',i<n->H' D=some (.lst ys)->Pv D i ys H'->J.go i H'/\∀x H3,J.yld i H' x H3->H3=H'/\src i x)
  (hst:∀D ys H',H' D=some (.lst ys)->Pv D n ys H'->J.stop n H')
  (hs:∀D i x ys H',src i x->i<n->ys.length=i->H' D=some (.lst ys)->Pv D i ys H'->te (some x::slots σ js) H' λy H5=>H5 D=some (.lst ys)/\∀H6,H6 D=some (.lst (ys++[y]))->aR D H5 H6->Pv D (i+1) (ys++[y]) H6)
  (hd:∀D ys H',ys.length=n->H D=none->H' D=some (.lst ys)->Pv D n ys H'->Q (.ref D) H') :
  fV J σ js oW te H Q:=by
 unfold fV;intro D hD;refine ⟨λi m ys H'=>m=n-i/\i<=n/\ys.length=i/\H' D=some (.lst ys)/\Pv D i ys H',⟨n,by simp,cC _,rfl,aX,h0 D _ hD aX (aW.upd hD)⟩,?_⟩;rintro i m ys H2 ⟨rfl,hi,hy,hD2,p⟩;refine ⟨hD2,?_⟩;by_cases hlt:i<n
 ·obtain ⟨g1,g2⟩:=hg D i ys H2 hlt hD2 p;refine .inr ⟨g1,aV (m:=100000) Oo Dd,λx H3 hy3=>?_⟩;obtain ⟨rfl,hx⟩:=g2 x H3 hy3;refine ⟨λb H4=>b=true/\H4=H3,⟨rfl,rfl⟩,?_⟩;rintro b H4 ⟨rfl,rfl⟩;rw [if_pos rfl];refine ⟨_,hs D i x ys H4 hx hlt hy hD2 p,?_⟩;rintro v H5 ⟨hD5,k⟩;exact ⟨hD5,n-(i+1),Oo,rfl,hlt,by rw [bC,hy];rfl,aX,k _ aX aR.self⟩
 ·have e:i=n:=Oo;subst e;exact .inl ⟨hst D ys H2 hD2 p,hd D ys H2 hy hD hD2 p⟩
end
@[irreducible] def BV(K:PySem.W.Frag):List V->Hp->VK->Prop:=λxs H Q=>∃(p:Addr) (ns:List Int),xs=[.ref p]/\fA K H p (ns.map V.int)/\Q (.int ns.sum) H
section
variable{X:Cx}
theorem LZ(hc:X.calm=true):eS X (.builtin "sum") (BV X.K):=by
 unfold BV;intro pins s σ H xs us Q I r h;obtain ⟨p,ns,rfl,hq,q⟩:=h;obtain ⟨u,rfl,rx⟩:=iA r;cases rx;obtain ⟨its,r',pl,hz⟩:=I.list hq;have hi:=jE r';obtain ⟨xs',e⟩:=hi.allInts.items;rw [e] at pl;refine sum_intListG (I.ok.hd hc) pl.isList λh' tk t' hk=>⟨.int ns.sum,H,I.kept hk,⟨t',?_⟩,q⟩;rw [preSum_eq,List.take_of_length_le (by simp)];rw [<-hi.numsOf];have e2:its=(intItems xs').toList:=by rw [<-e]
 rw [e2,nums_intItems]
theorem SN{K:PySem.W.Frag}{H:Hp}{p:Addr}{ns:List Int}{Q:VK}(h:fA K H p (ns.map V.int))(q:Q (.int ns.sum) H):BV K [.ref p] H Q:=by unfold BV;exact ⟨p,ns,rfl,h,q⟩
end
mutual
def dN:PyData->Bool
 | .list _=>false
 | .dict _=>false
 | .tuple ds=>dM ds
 | _=>true
def dM:List PyData->Bool
 | []=>true
 | d::ds=>dN d&&dM ds
end
def fC(H H':Hp):Prop:=∀b xs,H b=some (.tup xs)->H' b=some (.tup xs)
theorem fC.trans{H H1 H2:Hp}(a:fC H H1)(b:fC H1 H2):fC H H2:=λc o h=>b c o (a c o h)
theorem aW.t{H H':Hp}(s:aW H H'):fC H H':=λb xs h=>s _ _ h
theorem aR.t{H H':Hp}{p:Addr}(s:aR p H H'){xs:List V}(hp:H p=some (.lst xs)):fC H H':=λb ys h=>s.at (nY h hp (by intro z;cases z)) h
mutual
theorem cK.flat{H H':Hp}(s:fC H H'):∀{d:PyData}{v:V},dN d=true->cK H d v->cK H' d v
 | .none,_,_,h=>h
 | .bool _,_,_,h=>h
 | .int _,_,_,h=>h
 | .str _,_,_,h=>h
 | .list _,_,f,_=>by simp [dN] at f
 | .dict _,_,f,_=>by simp [dN] at f
 | .tuple ds,_,f,h=>by
  unfold cK at h ⊢;obtain ⟨a,ys,rfl,h1,h2⟩:=h;exact ⟨a,ys,rfl,s _ _ h1,aY.flat s (by simpa [dN] using f) h2⟩
theorem aY.flat{H H':Hp}(s:fC H H'):∀{ds:List PyData}{vs:List V},dM ds=true->aY H ds vs->aY H' ds vs
 | [],_,_,h=>h
 | d::ds,_,f,h=>by
  unfold aY at h ⊢;obtain ⟨x,ys,rfl,h1,h2⟩:=h;simp only [dM,bJ] at f;exact ⟨x,ys,rfl,cK.flat s f.1 h1,aY.flat s f.2 h2⟩
end
theorem aY.get{H:Hp}:∀{ds:List PyData}{vs:List V}{i:Nat}{v:V},aY H ds vs->vs[i]?=some v->∃d,ds[i]?=some d/\cK H d v
 | [],_,i,v,h,e=>by cases (show _=[] from h);simp at e
 | d::ds,_,i,v,h,e=>by
  unfold aY at h;obtain ⟨x,ys,rfl,h1,h2⟩:=h;cases i with
  | zero=>simp at e;subst e;exact ⟨d,rfl,h1⟩
  | succ i =>
   rw [List.getElem?_cons_succ] at e ⊢;exact aY.get h2 e
theorem aY.get'{H:Hp}:∀{ds:List PyData}{vs:List V}{i:Nat}{d:PyData},aY H ds vs->ds[i]?=some d->∃v,vs[i]?=some v/\cK H d v
 | [],_,i,d,h,e=>by simp at e
 | d' :: ds,_,i,d,h,e=>by
  unfold aY at h;obtain ⟨x,ys,rfl,h1,h2⟩:=h;cases i with
  | zero=>simp at e;subst e;exact ⟨x,rfl,h1⟩
  | succ i =>
   rw [List.getElem?_cons_succ] at e ⊢;exact aY.get' h2 e
theorem aY.snoc{H:Hp}{ds:List PyData}{vs:List V}{d:PyData}{v:V}(h:aY H ds vs)(r:cK H d v):aY H (ds++[d]) (vs++[v]):=aY.append (aY.cons r aY.nil) h
theorem oQ{i:Int}{n:Nat}(h:i.natAbs<2^n):bits i<=n:=PySem.intBits_le_iff.mpr h
theorem sS{i j:Int}{n m:Nat}(h1:i.natAbs<2^n)(h2:j.natAbs<2^m)(hn:n<=1048576:=by decide)(hm:m<=1048576:=by decide):IntMulOk i j:=by
 refine IntMulOk.of_bits ?_ ?_
 ·exact aU (oQ h1) hn
 ·exact aU (oQ h2) hm
mutual
def HW:PyData->Nat
 | .none=>4
 | .bool _=>5
 | .int _=>1921
 | .str x=>(reprText x).length
 | .list xs=>mO xs+4
 | .tuple xs=>mO xs+4
 | .dict _=>0
def mO:List PyData->Nat
 | []=>0
 | x::xs=>HW x+2+mO xs
end
theorem mE:∀(ts:List Str) (k:Nat) (acc:Str),(textFrom k acc ts).length<=acc.length+piled ts
 | [],k,acc=>by show acc.length<=_;omega
 | t::r,k,acc=>by
  have h:=mE r (k+1) (acc++(if k > 0 then ", " else "" : String)++t);have e:(acc++(if k > 0 then ", " else "" : String)++t).length=acc.length+(if k > 0 then 2 else 0)+t.length:=by
   rw [strLen_append,strLen_append];split <;> rfl
  rw [e] at h;rw [piled_cons];show (textFrom (k+1) _ r).length<=_;refine aU h ?_;split <;> omega
theorem qI(ts:List Str):(tupleText ts).length<=piled ts+4:=by
 unfold tupleText;rw [strLen_append,strLen_append];have e1:(("(" : Str)).length=1:=rfl;have e2:((if ts.length == 1 then ",)" else ")" : String):Str).length<=2:=by split <;> decide
 rw [e1];by_cases h:ts=[]
 ·subst h;have:(Str.join ", " []).length=0:=rfl;omega
 ·have:=join_length_add ts h;omega
theorem sW(ts:List Str):(listText ts).length<=piled ts+4:=by
 unfold listText;rw [strLen_append];have:=mE ts 0 "[";have e1:(("[" : String):Str).length=1:=rfl;have e2:(("]" : String):Str).length=1:=rfl;rw [e1] at this;rw [e2];omega
mutual
theorem jT:∀d:PyData,d.showable=true->d.hasDict=false->d.shown.length<=HW d
 | .none,_,_=>by simp only [PyData.shown,HW];decide
 | .bool b,_,_=>by cases b <;> (simp only [PyData.shown,HW];decide)
 | .int i,h,_=>by
  simp only [PyData.shown,HW];exact int_text_len_1921 (by simpa [PyData.showable] using h)
 | .str x,_,_=>by simp only [PyData.shown,HW];exact aC _
 | .list xs,h,h2=>by
  simp only [PyData.shown,HW];have:=iI xs (by simpa [PyData.showable] using h) (by simpa [PyData.hasDict] using h2);have:=sW (PyData.shownAll xs);omega
 | .tuple xs,h,h2=>by
  simp only [PyData.shown,HW];have:=iI xs (by simpa [PyData.showable] using h) (by simpa [PyData.hasDict] using h2);have:=qI (PyData.shownAll xs);omega
 | .dict _,_,h=>by simp [PyData.hasDict] at h
theorem iI:∀ds:List PyData,PyData.showableAll ds=true->PyData.hasDictAll ds=false->piled (PyData.shownAll ds)<=mO ds
 | [],_,_=>by simp only [PyData.shownAll,mO];exact aC _
 | d::ds,h,h2=>by
  simp only [PyData.showableAll,bJ] at h;simp only [PyData.hasDictAll,Bool.or_eq_false_iff] at h2;have:=jT d h.1 h2.1;have:=iI ds h.2 h2.2;simp only [PyData.shownAll,mO,piled_cons];omega
end
theorem mW{i:Int}{n:Nat}(h:i.natAbs<2^n)(hn:n<=1920:=by decide):PyData.showable (.int i)=true:=by
 simp only [PyData.showable];refine bN (mI (aU (oQ h) hn) Dd)
section
variable{X:Cx}(K:PySem.W.Frag)
theorem xZ(h:X.K=K:=by rfl):eS X (.builtin "len") (uS K):=by subst h;exact lV
theorem HC(hc:X.calm=true)(h:X.K=K:=by rfl):eS X (.builtin "sum") (BV K):=by subst h;exact LZ hc
end
end L2
namespace L2
open PySem
def pD(b:Bool)(h:Heap)(i l:Addr)(k:Nat):Prop:=∃o,h.get? i=some o/\o.cls=.type (bif b then "tuple_iterator" else "list_iterator")/\o.data=.fields #[.ref l,.int k 0]
def gE(b:Bool)(h:Heap)(l:Addr)(xs:Array Value):Prop:=∃o,h.get? l=some o/\o.cls=.type (bif b then "tuple" else "list")/\∃n,o.data=.seq xs n
theorem pD.at{b:Bool}{h h':Heap}{i l:Addr}{k:Nat}(x:pD b h i l k)(f:∀o,h.get? i=some o->h'.get? i=some o):pD b h' i l k:=let ⟨o,ho,r⟩:=x;⟨o,f o ho,r⟩
theorem gE.at{b:Bool}{h h':Heap}{l:Addr}{xs:Array Value}(x:gE b h l xs)(f:∀o,h.get? l=some o->h'.get? l=some o):gE b h' l xs:=let ⟨o,ho,r⟩:=x;⟨o,f o ho,r⟩
section
variable{prog:Program}{w:World}{A:Around}{E:Value->Shared->Prop}{s:Shared}
theorem qV{b:Bool}{it l:Addr}{i:Nat}{items:Array Value}{x:Value}{Q:Value->Shared->Prop}(hit:pD b s.heap it l i)(hl:gE b s.heap l items)(hx:items[i]?=some x)
  (hQ:∀h',pD b h' it l (i+1)->Heap.SameBut it s.heap h'->Q x { s with heap:=h' }):wpAny (model prog w) A (Builtin.SmallTypes.nextOf (.ref it)) Q E s:=by
 cases b with
 | false=>exact wpAny_nextOf_list_item hit hl hx hQ
 | true =>
  have ty:s.heap.IsTupleIter it l i:=hit;obtain ⟨o,ho,hc,hd⟩:=id ty;obtain ⟨ol,hol,_,nl,hdl⟩:=hl;unfold Builtin.SmallTypes.nextOf;refine wpAny_bind (wpAny_callSpecial?_slot (name:=Str.ofString "__next__") ty.typeIs F.slot_tuple_iterator_next (wpAny_call_entry F.slot_tuple_iterator_next ty.typeIs F.entry_tuple_iterator_next ?_ (F.args_tuple_iterator_next_1 _)));show wpAny _ _ (field (.ref it) 0 >>= _) _ _ s;refine wpAny_bind (wpAny_field ho hd (x:=.ref l) rfl ?_);show wpAny _ _ (if (Value.ref l == Value.none)=true then _ else _) _ _ s;rw [if_neg (show ¬((Value.ref l == Value.none)=true) from aS)];show wpAny _ _ (field (.ref it) 1 >>= _) _ _ s;refine wpAny_bind (wpAny_field ho hd (x:=.int i 0) rfl ?_);show wpAny _ _ (seqItems? (.ref l) >>= _) _ _ s;refine wpAny_bind (wpAny_seqItems hol hdl ?_);simp only [Int.toNat_natCast,hx];refine wpAny_bind (wpAny_setField ho hd (by simp) (wpAny_pure ⟨x,rfl,wpAny_pure (hQ _ ?_ (Heap.SameBut.update ..))⟩));refine ⟨_,Heap.get?_update_self _ ho (Obj.isFreed_of_fields (Obj.data_mapFields hd _)),(Obj.cls_mapFields ..).trans hc,?_⟩;rw [Obj.data_mapFields hd];simp [rawInt]
theorem CI{b:Bool}{it l:Addr}{i:Nat}{items:Array Value}{Q:Value->Shared->Prop}(hh:A.handled=none)(hit:pD b s.heap it l i)(hl:gE b s.heap l items)(hx:items[i]?=none)
  (hE:∀h' e,Heap.ExtBut it s.heap h'->(∃o,h'.get? e=some o/\o.cls=.type "StopIteration")->E (.ref e) { s with heap:=h' }):wpAny (model prog w) A (Builtin.SmallTypes.nextOf (.ref it)) Q E s:=by
 cases b with
 | false=>exact wpAny_nextOf_list_end hh hit hl hx hE
 | true =>
  have ty:s.heap.IsTupleIter it l i:=hit;obtain ⟨o,ho,hc,hd⟩:=id ty;obtain ⟨ol,hol,_,nl,hdl⟩:=hl;unfold Builtin.SmallTypes.nextOf;refine wpAny_bind (wpAny_callSpecial?_slot (name:=Str.ofString "__next__") ty.typeIs F.slot_tuple_iterator_next (wpAny_call_entry F.slot_tuple_iterator_next ty.typeIs F.entry_tuple_iterator_next ?_ (F.args_tuple_iterator_next_1 _)));show wpAny _ _ (field (.ref it) 0 >>= _) _ _ s;refine wpAny_bind (wpAny_field ho hd (x:=.ref l) rfl ?_);show wpAny _ _ (if (Value.ref l == Value.none)=true then _ else _) _ _ s;rw [if_neg (show ¬((Value.ref l == Value.none)=true) from aS)];show wpAny _ _ (field (.ref it) 1 >>= _) _ _ s;refine wpAny_bind (wpAny_field ho hd (x:=.int i 0) rfl ?_);show wpAny _ _ (seqItems? (.ref l) >>= _) _ _ s;refine wpAny_bind (wpAny_seqItems hol hdl ?_);simp only [Int.toNat_natCast,hx];refine wpAny_bind (wpAny_rule (wpAny_bind (wpAny_setField ho hd (by simp) ?_)));show wpAny _ _ (newExc (.type "StopIteration") [] >>= _) _ _ _;refine wpAny_bind ?_;simp only [newExc,newTuple];refine wpAny_bind (wpAny_newObj_type ?_ (by size_fits));refine wpAny_bind (m:=firstArgMember _ _) (wpAny_of_eq (a:=Value.none) (by first | rfl | (simp only [firstArgMember];rfl)) ?_);refine wpAny_newObj_type ?_ (by size_fits);simp only [raiseNew];refine wpAny_bind (wpAny_handled ?_)
  first | rw [show A.in1.handled=none from hh] | rw [hh]
  refine wpAny_bind (wpAny_pure (wpAny_throw ?_));exact hE _ _ (((Heap.SameBut.update ..).extBut.push _).push _) ⟨_,aK _ rfl,rfl⟩
structure IO(b1 b2:Bool)(z TI TO i1 i2 l1 l2:Addr)(f:Value)(k:Nat)(h:Heap):Prop where
 z:IsZip h z TI TO f
 ti:IsPair h TI (.ref i1) (.ref i2)
 to:∃a b,IsPair h TO a b
 i1:pD b1 h i1 l1 k
 i2:pD b2 h i2 l2 k
theorem yH{b1 b2:Bool}{z TI TO i1 i2 l1 l2:Addr}{k:Nat}{xs ys:Array Value}{x y:Value}{Q:Value->Shared->Prop}(D:ZipApart z TI TO i1 i2 l1 l2)(Z:IO b1 b2 z TI TO i1 i2 l1 l2 .none k s.heap)
  (hl1:gE b1 s.heap l1 xs) (hl2:gE b2 s.heap l2 ys) (hx:xs[k]?=some x) (hy:ys[k]?=some y)
  (hQ:∀h',IO b1 b2 z TI TO i1 i2 l1 l2 (rawInt s.heap.objs.size) (k+1) h'->IsPair h' s.heap.objs.size x y->(∀c o,c≠z->c≠TO->c≠i1->c≠i2->s.heap.get? c=some o->h'.get? c=some o)->Q (.ref s.heap.objs.size) { s with heap:=h' }) :
  wpAny (model prog w) A (Builtin.«zip.__next__» ⟨[.ref z],[]⟩) (λfin s'=>∃v,fin=.done (.ret v)/\Q v s') E s:=by
 obtain ⟨hz,hTI,⟨a,b,hTO⟩,h1,h2⟩:=Z;show wpAny _ _ (field (.ref z) 2 >>= _) _ _ _;refine wpAny_bind (wpAny_field hz rfl (x:=.bool false) rfl ?_);show wpAny _ _ (field (.ref z) 3 >>= _) _ _ _;refine wpAny_bind (wpAny_field hz rfl (x:=.ref TI) rfl ?_);refine wpAny_bind (wpAny_seqItems hTI rfl ?_);show wpAny _ _ (Builtin.SmallTypes.ownedTupleIsFree (.ref z) >>= _) _ _ _;refine wpAny_bind ?_;unfold Builtin.SmallTypes.ownedTupleIsFree;refine wpAny_bind (wpAny_field hz rfl (x:=.none) rfl (wpAny_pure ?_));simp only [if_true];refine wpAny_bind (wpAny_rule ?_);refine wpAny_bind (wpAny_field hz rfl (x:=.ref TO) rfl ?_);refine wpAny_bind (wpAny_setField_rec hz (by simp) λh₁ hz₁ hs₁=>?_);have g₁:=hs₁.extBut;replace hz₁:IsZip h₁ z TI TO .ellipsis:=hz₁;refine wpAny_bind ?_;simp only [List.zipIdx_cons,List.zipIdx_nil,List.forIn_cons,List.forIn_nil];refine wpAny_bind (wpAny_bind (wpAny_onRaise ?_));show wpAny _ _ (Builtin.SmallTypes.nextOf (.ref i1) >>= _) _ _ _;refine wpAny_bind (qV (h1.at λo e=>g₁ _ o D.i1z e) (hl1.at λo e=>g₁ _ o D.l1z e) hx λh₂ h1₂ hs₂=>wpAny_pure ?_);have g₂:=hs₂.extBut;have hTO₂:IsPair h₂ TO a b:=g₂ _ _ D.TOi1 (g₁ _ _ D.TOz hTO);refine wpAny_bind (wpAny_seqItems hTO₂ rfl ?_);refine wpAny_bind (wpAny_updateSeq_pair hTO₂ λh₃ hTO₃ hs₃=>?_);have g₃:=hs₃.extBut;replace hTO₃:IsPair h₃ TO x b:=hTO₃;refine wpAny_bind (wpAny_letGo (wpAny_pure ?_));refine wpAny_bind (wpAny_bind (wpAny_onRaise ?_));show wpAny _ _ (Builtin.SmallTypes.nextOf (.ref i2) >>= _) _ _ _
 refine wpAny_bind (qV (h2.at λo e=>g₃ _ o D.TOi2.symm (g₂ _ o D.i12.symm (g₁ _ o D.i2z e))) (hl2.at λo e=>g₃ _ o D.l2TO (g₂ _ o D.l2i1 (g₁ _ o D.l2z e))) hy λh₄ h2₄ hs₄=>wpAny_pure ?_);have g₄:=hs₄.extBut;have hTO₄:IsPair h₄ TO x b:=g₄ _ _ D.TOi2 hTO₃;refine wpAny_bind (wpAny_seqItems hTO₄ rfl ?_);refine wpAny_bind (wpAny_updateSeq_pair hTO₄ λh₅ hTO₅ hs₅=>?_);have g₅:=hs₅.extBut;replace hTO₅:IsPair h₅ TO x y:=hTO₅;refine wpAny_bind (wpAny_letGo (wpAny_pure (wpAny_pure ?_)));refine wpAny_bind (wpAny_seqItems hTO₅ rfl ?_);refine wpAny_bind (wpAny_newTuple ?_);have hsz:h₅.objs.size=s.heap.objs.size:=by rw [hs₅.1,hs₄.1,hs₃.1,hs₂.1,hs₁.1]
 have hz₅:IsZip h₅ z TI TO .ellipsis:=g₅ _ _ D.TOz.symm (g₄ _ _ D.i2z.symm (g₃ _ _ D.TOz.symm (g₂ _ _ D.i1z.symm hz₁)));have hk₅:∀c o,c≠z->c≠TO->c≠i1->c≠i2->s.heap.get? c=some o->h₅.get? c=some o:=λc o c1 c2 c3 c4 e=>g₅ _ _ c2 (g₄ _ _ c4 (g₃ _ _ c2 (g₂ _ _ c3 (g₁ _ _ c1 e))));have h1₅:pD b1 h₅ i1 l1 (k+1):=h1₂.at λo e=>g₅ _ o D.TOi1.symm (g₄ _ o D.i12 (g₃ _ o D.TOi1.symm e));have h2₅:pD b2 h₅ i2 l2 (k+1):=h2₄.at λo e=>g₅ _ o D.TOi2.symm e;have hzlt:=aN hz₅;show wpAny _ _ (Builtin.SmallTypes.ownedTupleHandOut (.ref z) (.ref h₅.objs.size) >>= _) _ _ _;refine wpAny_bind ?_;unfold Builtin.SmallTypes.ownedTupleHandOut;have hz₆:IsZip (h₅.push { cls:=.type "tuple",data:=.seq #[x,y] }) z TI TO .ellipsis:=aA _ hz₅;refine wpAny_bind (wpAny_setField_rec hz₆ (by simp) λh₇ hz₇ hs₇=>?_);replace hz₇:IsZip h₇ z TI TO (rawInt h₅.objs.size):=hz₇;refine wpAny_setField_rec hz₇ (by simp) λh₈ hz₈ hs₈=>?_;replace hz₈:IsZip h₈ z TI TO (rawInt h₅.objs.size):=hz₈;have up:∀c o,c≠z->h₅.get? c=some o->h₈.get? c=some o:=λc o c1 e=>hs₈.extBut _ _ c1 (hs₇.extBut _ _ c1 (aA _ e));have hT₈:IsPair h₈ h₅.objs.size x y:=hs₈.extBut _ _ (Nat.ne_of_gt hzlt) (hs₇.extBut _ _ (Nat.ne_of_gt hzlt) (aK _ rfl));rw [hsz] at hz₈ hT₈;refine wpAny_pure ⟨_,rfl,?_⟩;show Q (.ref h₅.objs.size) _;rw [hsz]
 exact hQ h₈ ⟨hz₈,up _ _ D.TIz (hk₅ _ _ D.TIz D.TITO D.TIi1 D.TIi2 hTI),⟨_,_,up _ _ D.TOz hTO₅⟩,h1₅.at λo e=>up _ o D.i1z e,h2₅.at λo e=>up _ o D.i2z e⟩ hT₈ λc o c1 c2 c3 c4 e=>up c o c1 (hk₅ c o c1 c2 c3 c4 e)
theorem AO{b1 b2:Bool}{z TI TO i1 i2 l1 l2:Addr}{k:Nat}{xs ys:Array Value}{Q:Fin->Shared->Prop}(hh:A.handled=none)(D:ZipApart z TI TO i1 i2 l1 l2)(Z:IO b1 b2 z TI TO i1 i2 l1 l2 .none k s.heap)
  (hl1:gE b1 s.heap l1 xs) (hl2:gE b2 s.heap l2 ys) (hend:xs[k]?=none\/ys[k]?=none)
  (hE:∀h' e,(∀c o,c≠z->c≠TO->c≠i1->c≠i2->s.heap.get? c=some o->h'.get? c=some o)->(∃o,h'.get? e=some o/\o.cls=.type "StopIteration")->E (.ref e) { s with heap:=h' }) :
  wpAny (model prog w) A (Builtin.«zip.__next__» ⟨[.ref z],[]⟩) Q E s:=by
 obtain ⟨hz,hTI,⟨a,b,hTO⟩,h1,h2⟩:=Z;show wpAny _ _ (field (.ref z) 2 >>= _) _ _ _;refine wpAny_bind (wpAny_field hz rfl (x:=.bool false) rfl ?_);show wpAny _ _ (field (.ref z) 3 >>= _) _ _ _;refine wpAny_bind (wpAny_field hz rfl (x:=.ref TI) rfl ?_);refine wpAny_bind (wpAny_seqItems hTI rfl ?_);show wpAny _ _ (Builtin.SmallTypes.ownedTupleIsFree (.ref z) >>= _) _ _ _;refine wpAny_bind ?_;unfold Builtin.SmallTypes.ownedTupleIsFree;refine wpAny_bind (wpAny_field hz rfl (x:=.none) rfl (wpAny_pure ?_));simp only [if_true];refine wpAny_bind (wpAny_rule ?_);refine wpAny_bind (wpAny_field hz rfl (x:=.ref TO) rfl ?_);refine wpAny_bind (wpAny_setField_rec hz (by simp) λh₁ hz₁ hs₁=>?_);have g₁:=hs₁.extBut;replace hz₁:IsZip h₁ z TI TO .ellipsis:=hz₁;refine wpAny_bind ?_;simp only [List.zipIdx_cons,List.zipIdx_nil,List.forIn_cons,List.forIn_nil];refine wpAny_bind (wpAny_bind (wpAny_onRaise ?_));show wpAny _ _ (Builtin.SmallTypes.nextOf (.ref i1) >>= _) _ _ _;cases hx:xs[k]? with
 | none =>
  refine wpAny_bind (CI hh (h1.at λo e=>g₁ _ o D.i1z e) (hl1.at λo e=>g₁ _ o D.l1z e) hx λh₂ e hs₂ he=>?_);obtain ⟨oe,hoe,hce⟩:=he;have hz₂:IsZip h₂ z TI TO .ellipsis:=hs₂ _ _ D.i1z.symm hz₁;have hez:e≠z:=λx=>by subst x;rw [hz₂] at hoe;cases hoe;simp at hce
  exact wpAny_setField_rec hz₂ (by simp) λh₃ _ hs₃=>hE h₃ e (λc o c1 _ c3 _ x=>hs₃.extBut _ _ c1 (hs₂ _ _ c3 (g₁ _ _ c1 x))) ⟨oe,hs₃.extBut _ _ hez hoe,hce⟩
 | some x =>
  have hy:ys[k]?=none:=by
   rcases hend with h | h
   ·rw [hx] at h;cases h
   ·exact h
  refine wpAny_bind (qV (h1.at λo e=>g₁ _ o D.i1z e) (hl1.at λo e=>g₁ _ o D.l1z e) hx λh₂ h1₂ hs₂=>wpAny_pure ?_);have g₂:=hs₂.extBut;have hTO₂:IsPair h₂ TO a b:=g₂ _ _ D.TOi1 (g₁ _ _ D.TOz hTO);refine wpAny_bind (wpAny_seqItems hTO₂ rfl ?_);refine wpAny_bind (wpAny_updateSeq_pair hTO₂ λh₃ hTO₃ hs₃=>?_);have g₃:=hs₃.extBut;refine wpAny_bind (wpAny_letGo (wpAny_pure ?_));refine wpAny_bind (wpAny_bind (wpAny_onRaise ?_));show wpAny _ _ (Builtin.SmallTypes.nextOf (.ref i2) >>= _) _ _ _;refine wpAny_bind (CI hh (h2.at λo e=>g₃ _ o D.TOi2.symm (g₂ _ o D.i12.symm (g₁ _ o D.i2z e))) (hl2.at λo e=>g₃ _ o D.l2TO (g₂ _ o D.l2i1 (g₁ _ o D.l2z e))) hy λh₄ e hs₄ he=>?_);obtain ⟨oe,hoe,hce⟩:=he;have hz₄:IsZip h₄ z TI TO .ellipsis:=hs₄ _ _ D.i2z.symm (g₃ _ _ D.TOz.symm (g₂ _ _ D.i1z.symm hz₁));have hez:e≠z:=λx=>by subst x;rw [hz₄] at hoe;cases hoe;simp at hce
  exact wpAny_setField_rec hz₄ (by simp) λh₅ _ hs₅=>hE h₅ e (λc o c1 c2 c3 c4 x=>hs₅.extBut _ _ c1 (hs₄ _ _ c4 (g₃ _ _ c2 (g₂ _ _ c3 (g₁ _ _ c1 x))))) ⟨oe,hs₅.extBut _ _ hez hoe,hce⟩
theorem yG{b1 b2:Bool}{z TI TO i1 i2 l1 l2:Addr}{k:Nat}{xs ys:Array Value}{x y:Value}{Q:Option Value->Shared->Prop}(D:ZipApart z TI TO i1 i2 l1 l2)(Z:IO b1 b2 z TI TO i1 i2 l1 l2 .none k s.heap)
  (hl1:gE b1 s.heap l1 xs) (hl2:gE b2 s.heap l2 ys) (hx:xs[k]?=some x) (hy:ys[k]?=some y)
  (hQ:∀h',IO b1 b2 z TI TO i1 i2 l1 l2 (rawInt s.heap.objs.size) (k+1) h'->IsPair h' s.heap.objs.size x y->(∀c o,c≠z->c≠TO->c≠i1->c≠i2->s.heap.get? c=some o->h'.get? c=some o)->Q (some (.ref s.heap.objs.size)) { s with heap:=h' }) :
  wpAny (model prog w) A (pyNext (.ref z)) Q E s:=by
 have hT:s.TypeIs (.ref z) "zip" := ⟨_,Z.z,rfl⟩;unfold pyNext;refine wpAny_bind (wpAny_attempt (wpAny_callSpecial?_slot (name:=Str.ofString "__next__") hT F.slot_zip_next (wpAny_call_entry F.slot_zip_next hT F.entry_zip_next ?_ (F.args_zip_next_1 _))));exact yH D Z hl1 hl2 hx hy λh' a1 a2 a3=>wpAny_pure (hQ h' a1 a2 a3)
theorem yF{b1 b2:Bool}{z TI TO i1 i2 l1 l2:Addr}{k:Nat}{xs ys:Array Value}{Q:Option Value->Shared->Prop}(hh:A.handled=none)(D:ZipApart z TI TO i1 i2 l1 l2)(Z:IO b1 b2 z TI TO i1 i2 l1 l2 .none k s.heap)
  (hl1:gE b1 s.heap l1 xs) (hl2:gE b2 s.heap l2 ys) (hend:xs[k]?=none\/ys[k]?=none)
  (hQ:∀h',(∀c o,c≠z->c≠TO->c≠i1->c≠i2->s.heap.get? c=some o->h'.get? c=some o)->Q none { s with heap:=h' }):wpAny (model prog w) A (pyNext (.ref z)) Q E s:=by
 have hT:s.TypeIs (.ref z) "zip" := ⟨_,Z.z,rfl⟩;unfold pyNext;refine wpAny_bind (wpAny_attempt (wpAny_callSpecial?_slot (name:=Str.ofString "__next__") hT F.slot_zip_next (wpAny_call_entry F.slot_zip_next hT F.entry_zip_next ?_ (F.args_zip_next_1 _))));refine AO hh D Z hl1 hl2 hend λh' e hk he=>?_;obtain ⟨o,ho,hc⟩:=he;refine wpAny_bind (wpAny_isInstance (T := "StopIteration") (b:=true) ⟨o,ho,hc⟩ isSubtype_stop ?_);exact wpAny_pure (hQ _ hk)
abbrev PZ(b:Bool)(l:Addr):Obj:={ cls:=.type (bif b then "tuple_iterator" else "list_iterator"),data:=.fields #[.ref l,.int 0 0] }
theorem ID{b:Bool}{l:Addr}{xs:Array Value}{Q:Value->Shared->Prop}(h:gE b s.heap l xs)(q:Q (.ref s.heap.objs.size) { s with heap:=s.heap.push (PZ b l) }):wpAny (model prog w) A (pyIter (.ref l)) Q E s:=by
 cases b with
 | false=>exact wpAny_pyIter_list h q
 | true=>exact wpAny_pyIter_tuple h q
end
end L2
namespace L2
open PySem PySem.Spec PyProof.Rows
section
variable{X:Cx}{pins:List (Addr × Obj)}{σ:St}{H:Hp}{s:Shared}{h':Heap}
theorem bG.turnedL{t':Nat}{fp:List Addr}(I:bG X pins σ H s)(k:∀b o,b ∉ fp->s.heap.get? b=some o->h'.get? b=some o)(hf:∀b∈fp,fL X pins H b):bG X pins σ H { s with heap:=h',toks:=t' }:=by
 have nit:∀b u,H b=some u->b ∉ fp:=λb u e z=>by rw [(hf b z).1] at e;cases e
 refine I.step (g':=s.gens) (d':=s.drawn) (ch:=fp) (λb hb=>?_) (λb o _ _ hc e _=>k b o hc e) (λb o _ _ hc e _=>⟨o.slots,k b o hc e⟩) (λ_ _ _ _ n=>n)
  (λb o hc e=>⟨o,k b o hc e⟩) (λ_ _ e=>e) (λ_ _ _ e=>e) (λb ps e=>⟨#[],by rw [e];simp⟩) (λm hm=>?_) (λb u e=>?_) I.bare
 ·obtain ⟨f0,f1,f2,f3,f4,f5⟩:=hf b hb;exact ⟨f3,f1,f4,f5⟩
 ·obtain ⟨o,es,ep,ho,r⟩:=hm;exact ⟨o,es,ep,k _ o (λz=>(hf _ z).2.1 rfl) ho,r⟩
 ·refine (I.hok b u e).stay (λc v hc q=>k c v ?_ q) (λ_ q=>q) λ_ _ q=>q;rcases hc with z | z
  ·rw [z];exact nit b u e
  ·exact nit c _ z
theorem Un.putE{fs ex:List Addr}{H H1:Hp}{h h1:Heap}{a:Addr}{u:HO}(x:Un fs ex H H1 h h1)(ha:h.get? a=none)(hn:H1 a=none):Un fs ex H (upd H1 a u) h h1 where
 keep:=x.keep
 slot:=x.slot
 free:=λb ob e n m=>by rw [bB (λz=>by subst z;rw [ha] at e;cases e)];exact x.free b ob e n m
 there:=x.there
 tups:=λb xs e=>by rw [bB (bS (x.tups b xs e) hn)];exact x.tups b xs e
 frzs:=λb ob xs e=>by rw [bB (bS (x.frzs b ob xs e) hn)];exact x.frzs b ob xs e
 tbls:=λb ps e=>by
  obtain ⟨m,q⟩:=x.tbls b ps e;exact ⟨m,by rw [bB (bS q hn)];exact q⟩
theorem iC.putE{P:Program}{w:World}{h:Heap}{a:Addr}{u:HO}(x:iC P w H h)(hn:H a=none)(new:cQ P w (upd H a u) h a u):iC P w (upd H a u) h:=λb v e=>by
 by_cases hb:b=a
 ·subst hb;rw [aX] at e;cases e;exact new
 ·rw [bB hb] at e;exact (x b v e).stay (λc q _ r=>r) (λc q=>by rw [bB (bS q hn)];exact q) λc xs q=>by rw [bB (bS q hn)];exact q
theorem bG.put{a:Addr}{o:HO}(I:bG X pins σ H s)(f:fL X pins H a)(hs:X.s₀.heap.get? a=none)(new:cQ X.prog X.w (upd H a o) s.heap a o):bG X pins σ (upd H a o) s :=
 ⟨I.ok,I.os,I.bare,I.base.putE hs f.1,I.loc,I.cell,by rw [bB (Ne.symm f.2.1)];exact I.free,λx c e=>by rw [bB (f.2.2.2.2.1 x c e)];exact I.freeC x c e,λp hp=>by
  obtain ⟨q1,q2,q3⟩:=I.pin p hp;exact ⟨q1,by rw [bB (f.2.2.2.2.2 p hp)];exact q2,q3⟩,iC.putE I.hok f.1 new,I.len⟩
def uE(b:Bool)(xs:List V):HO:=bif b then .tup xs else .lst xs
theorem uE.inj{b:Bool}{xs ys:List V}(h:some (uE b xs)=some (uE b ys)):xs=ys:=by
 cases b <;> (injection h with h;injection h)
theorem bG.sq{b:Bool}{a:Addr}{xs:List V}(I:bG X pins σ H s)(h:H a=some (uE b xs)):∃its:List Value,bW xs its/\gE b s.heap a its.toArray:=by
 cases b with
 | false=>obtain ⟨its,r,p,_⟩:=I.list (fA.of h);exact ⟨its,r,p.isList⟩
 | true=>obtain ⟨its,r,p,_⟩:=I.tuple (eT.of h);exact ⟨its,r,p⟩
end
def PL(b1 b2:Bool)(l1 l2:Addr):It :=
  ⟨λi H=>∃xs ys x y,H l1=some (uE b1 xs)/\H l2=some (uE b2 ys)/\xs[i]?=some x/\ys[i]?=some y,
   λi H v H'=>∃q x y,v=.ref q/\H q=none/\H'=upd H q (.tup [x,y])/\∀xs ys,H l1=some (uE b1 xs)->H l2=some (uE b2 ys)->xs[i]?=some x/\ys[i]?=some y,
   λi H=>∃xs ys,H l1=some (uE b1 xs)/\H l2=some (uE b2 ys)/\(xs.length<=i\/ys.length<=i)⟩
structure ZD(z TI TO i1 i2:Addr):Prop where
 TIz:TI≠z
 TOz:TO≠z
 i1z:i1≠z
 i2z:i2≠z
 TITO:TI≠TO
 TIi1:TI≠i1
 TIi2:TI≠i2
 TOi1:TO≠i1
 TOi2:TO≠i2
 i12:i1≠i2
theorem ZD.seq(n:Nat):ZD (n+4) (n+2) (n+3) n (n+1) where
 TIz:=λh=>absurd (show (n+2:Nat)=n+4 from h) Oo
 TOz:=λh=>absurd (show (n+3:Nat)=n+4 from h) Oo
 i1z:=λh=>absurd (show (n:Nat)=n+4 from h) Oo
 i2z:=λh=>absurd (show (n+1:Nat)=n+4 from h) Oo
 TITO:=λh=>absurd (show (n+2:Nat)=n+3 from h) Oo
 TIi1:=λh=>absurd (show (n+2:Nat)=n from h) Oo
 TIi2:=λh=>absurd (show (n+2:Nat)=n+1 from h) Oo
 TOi1:=λh=>absurd (show (n+3:Nat)=n from h) Oo
 TOi2:=λh=>absurd (show (n+3:Nat)=n+1 from h) Oo
 i12:=λh=>absurd (show (n:Nat)=n+1 from h) Oo
theorem ZD.all{z TI TO i1 i2 l1 l2:Addr}(d:ZD z TI TO i1 i2){H:Hp}{o1 o2:HO}(e1:H l1=some o1)(e2:H l2=some o2)(h:∀b∈[z,TI,TO,i1,i2],H b=none):ZipApart z TI TO i1 i2 l1 l2 :=
 ⟨d.TIz,d.TOz,d.i1z,d.i2z,d.TITO,d.TIi1,d.TIi2,d.TOi1,d.TOi2,d.i12,bS e1 (h _ (by simp)),bS e1 (h _ (by simp)),bS e1 (h _ (by simp)),bS e1 (h _ (by simp)),bS e2 (h _ (by simp)),bS e2 (h _ (by simp)),bS e2 (h _ (by simp)),bS e2 (h _ (by simp))⟩
theorem BB{P:Program}{w:World}{K:PySem.W.Frag}{elts:List Expr}{x1}{tp:Pos}{b1 b2:Bool}{z TI TO i1 i2 l1 l2:Addr}(d:ZD z TI TO i1 i2):tZ P w K (.Tuple elts x1 tp) (PL b1 b2 l1 l2) [z,TI,TO,i1,i2] z (λi h=>IO b1 b2 z TI TO i1 i2 l1 l2 .none i h) where
 mem:=by simp
 obj:=λi h st b hb=>by
  obtain ⟨a,b',ht⟩:=st.to;obtain ⟨o1,e1,_,d1⟩:=st.i1;obtain ⟨o2,e2,_,d2⟩:=st.i2;simp only [aP,List.not_mem_nil,or_false] at hb;rcases hb with rfl | rfl | rfl | rfl | rfl
  ·exact ⟨_,st.z,λv q=>by cases q⟩
  ·exact ⟨_,st.ti,λv q=>by cases q⟩
  ·exact ⟨_,ht,λv q=>by cases q⟩
  ·exact ⟨_,e1,λv q=>by rw [d1] at q;cases q⟩
  ·exact ⟨_,e2,λv q=>by rw [d2] at q;cases q⟩
 keep:=λi h h' st k=>by
  obtain ⟨a,b,ht⟩:=st.to;exact ⟨k _ (by simp) _ st.z,k _ (by simp) _ st.ti,⟨a,b,k _ (by simp) _ ht⟩,st.i1.at λo e=>k _ (by simp) o e,st.i2.at λo e=>k _ (by simp) o e⟩
 item:=by
  intro X hP hw hK hc i pins s σ H E I hf st hg;subst hP hw hK;obtain ⟨xs,ys,x,y,e1,e2,hx,hy⟩:=hg;obtain ⟨u1,r1,p1⟩:=I.sq e1;obtain ⟨u2,r2,p2⟩:=I.sq e2;obtain ⟨ux,hux,rx⟩:=r1.get hx;obtain ⟨uy,huy,ry⟩:=r2.get hy;have D:=d.all e1 e2 λb hb=>(hf b hb).1;refine yG D st p1 p2 (x:=ux) (y:=uy) (by simpa using hux) (by simpa using huy) λh' Z' hp hk=>?_;refine ⟨_,rfl,wpAny_letOwnedTupleGo_zip Z'.z λh2 hz2 hs2=>?_⟩;have kk:∀b o,b ∉ [z,TI,TO,i1,i2]->s.heap.get? b=some o->h2.get? b=some o:=λb o hb e=>by
   simp only [aP,List.not_mem_nil,or_false,not_or] at hb;exact hs2.extBut b o hb.1 (hk b o hb.1 hb.2.2.1 hb.2.2.2.1 hb.2.2.2.2 e)
  have I1:bG X pins σ H { s with heap:=h2 }:=I.turnedL (t':=s.toks) kk hf;have fq:fL X pins H s.heap.objs.size:=I.fpOk (aC _) (I.hok.fresh (aC _));have e0:X.s₀.heap.get? s.heap.objs.size=none:=by
   cases q:X.s₀.heap.get? s.heap.objs.size with
   | none=>rfl
   | some o=>exact absurd (aH (aN q) I.sz) (bQ _)
  have nz:s.heap.objs.size≠z:=λq=>absurd (aN st.z) (by rw [<-q];exact bQ _);obtain ⟨a,b,ht⟩:=Z'.to;refine ⟨.ref s.heap.objs.size,upd H s.heap.objs.size (.tup [x,y]),I1.put fq e0 ⟨⟨jS (by show 2<=64;decide),_,hs2.extBut _ _ nz hp,rfl⟩,[ux,uy],.cons rx (.cons ry .nil),⟨_,hs2.extBut _ _ nz hp,rfl,_,rfl⟩⟩,rfl,⟨_,x,y,rfl,fq.1,rfl,λxs' ys' q1 q2=>?_⟩,
   ⟨hz2,hs2.extBut _ _ d.TIz Z'.ti,⟨a,b,hs2.extBut _ _ d.TOz ht⟩,Z'.i1.at λo e=>hs2.extBut _ o d.i1z e,Z'.i2.at λo e=>hs2.extBut _ o d.i2z e⟩,λb hb=>?_⟩
  ·rw [e1] at q1;rw [e2] at q2;rw [<-uE.inj q1,<-uE.inj q2];exact ⟨hx,hy⟩
  ·have nb:b≠s.heap.objs.size:=λq=>by
    obtain ⟨a',b',ht'⟩:=st.to;obtain ⟨o1,e1',_⟩:=st.i1;obtain ⟨o2,e2',_⟩:=st.i2;have lt:∀{c o},s.heap.get? c=some o->c≠s.heap.objs.size:=λe=>bP (aN e);simp only [aP,List.not_mem_nil,or_false] at hb;rcases hb with rfl | rfl | rfl | rfl | rfl
    ·exact lt st.z q
    ·exact lt st.ti q
    ·exact lt ht' q
    ·exact lt e1' q
    ·exact lt e2' q
   rw [bB nb];exact (hf b hb).1
 done:=by
  intro X hP hw hK hc i pins s σ H E I hf st hg;subst hP hw hK;obtain ⟨xs,ys,e1,e2,hl⟩:=hg;obtain ⟨u1,r1,p1⟩:=I.sq e1;obtain ⟨u2,r2,p2⟩:=I.sq e2;have D:=d.all e1 e2 λb hb=>(hf b hb).1;have l1:=r1.length;have l2:=r2.length;have hend:u1.toArray[i]?=none\/u2.toArray[i]?=none:=by
   rcases hl with h | h
   ·left;simp;omega
   ·right;simp;omega
  refine yF (I.ok.hd hc) D st p1 p2 hend λh' hk=>⟨rfl,I.turnedL (t':=s.toks) (λb o hb e=>?_) hf⟩;simp only [aP,List.not_mem_nil,or_false,not_or] at hb;exact hk b o hb.1 hb.2.2.1 hb.2.2.2.1 hb.2.2.2.2 e
 self:=λ_ _ _ _ _ st h=>wpAny_pyIter_zip st.z h
abbrev zA(b:Bool)(h:Heap)(l:Addr):Heap:=h.push (PZ b l)
abbrev zB(b1 b2:Bool)(h:Heap)(l1 l2:Addr):Heap:=(zA b1 h l1).push (PZ b2 l2)
abbrev zC(b1 b2:Bool)(h:Heap)(l1 l2:Addr):Heap:=(zB b1 b2 h l1 l2).push { cls:=.type "tuple",data:=.seq #[.ref h.objs.size,.ref (zA b1 h l1).objs.size] }
abbrev zE(b1 b2:Bool)(h:Heap)(l1 l2:Addr):Heap:=(zC b1 b2 h l1 l2).push { cls:=.type "tuple",data:=.seq #[.none,.none] }
abbrev zF(b1 b2:Bool)(h:Heap)(l1 l2:Addr):Heap:=(zE b1 b2 h l1 l2).push { cls:=.type "zip",data:=.fields #[.none,.bool false,.bool false,.ref (zB b1 b2 h l1 l2).objs.size,.ref (zC b1 b2 h l1 l2).objs.size] }
theorem LA(b1 b2:Bool)(l1 l2:Addr)(xs ys:Array Value):Meets (Builtin.«zip.__new__» ⟨[.type "zip",.ref l1,.ref l2],[]⟩) (λ_ R s=>gE b1 s.heap l1 xs/\gE b2 s.heap l2 ys/\R (.ok (.ret (.ref (zE b1 b2 s.heap l1 l2).objs.size))) { s with heap:=zF b1 b2 s.heap l1 l2 }) :=
 .of_wp λprog w A R s h=>by
  obtain ⟨hp,g,d,tk,os⟩:=s;obtain ⟨hl1,hl2,h⟩:=h;have hsub:=sub_zip;have hL1:gE b1 (Shared.heap ⟨hp,g,d,tk,os⟩) l1 xs:=hl1;have hL2:gE b2 (Shared.heap ⟨hp.push (PZ b1 l1),g,d,tk,os⟩) l2 ys:=hl2.at λo e=>aA _ e
  wp_walk using ID hL1,ID hL2
  exact ⟨_,rfl,h⟩
section
variable{prog:Program}{w:World}{A:Around}{E:Value->Shared->Prop}{s:Shared}
theorem PD{b1 b2:Bool}{l1 l2:Addr}{xs ys:Array Value}{Q:Value->Shared->Prop}(hl1:gE b1 s.heap l1 xs)(hl2:gE b2 s.heap l2 ys)
  (h:∀h',IO b1 b2 (s.heap.objs.size+4) (s.heap.objs.size+2) (s.heap.objs.size+3) s.heap.objs.size (s.heap.objs.size+1) l1 l2 .none 0 h'->(∀c o,s.heap.get? c=some o->h'.get? c=some o)->Q (.ref (s.heap.objs.size+4)) { s with heap:=h' }) :
  wpAny (model prog w) A (call (.type "zip") [.ref l1,.ref l2]) Q E s:=by
 refine callType_new F.called_zip Dd (F.typeCall_zip_2 _ _) (F.newCall_zip_2 _ _) (λobj=>F.args_object_init_3 obj _ _) F.entry_zip_new (LA b1 b2 l1 l2 xs ys) ⟨hl1,hl2,?_⟩;have z1:(zA b1 s.heap l1).objs.size=s.heap.objs.size+1:=cY ..;have z2:(zB b1 b2 s.heap l1 l2).objs.size=s.heap.objs.size+2:=by rw [cY,z1]
 have z3:(zC b1 b2 s.heap l1 l2).objs.size=s.heap.objs.size+3:=by rw [cY,z2]
 have z4:(zE b1 b2 s.heap l1 l2).objs.size=s.heap.objs.size+4:=by rw [cY,z3]
 have g5:(zF b1 b2 s.heap l1 l2).get? (zE b1 b2 s.heap l1 l2).objs.size=some _:=aK _ rfl;have g4:(zF b1 b2 s.heap l1 l2).get? (zC b1 b2 s.heap l1 l2).objs.size=some _:=aA _ (aK _ rfl);have g3:(zF b1 b2 s.heap l1 l2).get? (zB b1 b2 s.heap l1 l2).objs.size=some _:=aA _ (aA _ (aK _ rfl));have g2:(zF b1 b2 s.heap l1 l2).get? (zA b1 s.heap l1).objs.size=some _:=aA _ (aA _ (aA _ (aK _ rfl)));have g1:(zF b1 b2 s.heap l1 l2).get? s.heap.objs.size=some _:=aA _ (aA _ (aA _ (aA _ (aK _ rfl))));show _/\_;rw [z2,z3,z4] at g5;rw [z1,z2] at g3;rw [z3] at g4;rw [z1] at g2;rw [z4];exact ⟨⟨_,g5,rfl⟩,h _ ⟨g5,g3,⟨_,_,g4⟩,⟨_,g1,rfl,rfl⟩,⟨_,g2,rfl,rfl⟩⟩ λc o x=>aA _ (aA _ (aA _ (aA _ (aA _ x))))⟩
end
def OS(b1 b2:Bool)(ta:TA):TI:=λσ H R=>ta σ H λvs H1=>∃l1 l2 xs ys,vs=[.ref l1,.ref l2]/\H1 l1=some (uE b1 xs)/\H1 l2=some (uE b2 ys)/\R (PL b1 b2 l1 l2) H1
theorem DY:bootBuiltins (Str.ofString "zip")=some (Value.type "zip"):=Kk
section
variable{X:Cx}
theorem KI{a b:Expr}{ta:TA}{p pos tp:Pos}{elts:List Expr}{x1}{b1 b2:Bool}(hg:Gl X "zip")(hm:X.mg "zip" = none)(ha:PA X [a,b] ta)(hs:starEach [a,b] X.env=[(false,eval a X.env),(false,eval b X.env)])(hs2:starEach [b] X.env=[(false,eval b X.env)]) :
  PI X (.Tuple elts x1 tp) (.Call (.Name "zip" p) [a,b] [] pos) (OS b1 b2 ta):=by
 intro pins s σ H R I h;refine Call_ (jC I hg hm DY (PyProof.Rows.callWith_type1 (thn (ha pos pins s σ H _ I h) λus s1 ⟨vs,H1,I1,r1,q1⟩=>?_) (by rw [hs,hs2]) (by rw [hs2];rfl)));obtain ⟨l1,l2,xs,ys,e,e1,e2,q⟩:=q1;subst e;cases r1 with
 | cons r rr =>
  cases rr with
  | cons r' rr =>
   cases rr;cases r;cases r';obtain ⟨u1,_,p1⟩:=I1.sq e1;obtain ⟨u2,_,p2⟩:=I1.sq e2;refine PD p1 p2 λh' Z kk=>wpAny_pyIter_zip Z.z ?_;refine ⟨_,[s1.heap.objs.size+4,s1.heap.objs.size+2,s1.heap.objs.size+3,s1.heap.objs.size,s1.heap.objs.size+1],_,_,H1,rfl,I1.kept (t':=s1.toks) kk,BB (ZD.seq _),Z,λb hb=>?_,q⟩;have hle:s1.heap.objs.size<=b:=by
    simp only [aP,List.not_mem_nil,or_false] at hb;rcases hb with rfl | rfl | rfl | rfl | rfl
    ·exact Nat.le_add_right _ _
    ·exact Nat.le_add_right _ _
    ·exact Nat.le_add_right _ _
    ·exact aC _
    ·exact Nat.le_add_right _ _
   exact I1.fpOk hle (I1.hok.fresh hle)
theorem IW(b1 b2:Bool){a b:Expr}{ta:TA}{p pos tp:Pos}{elts:List Expr}{x1}(hg:Gl X "zip")(hm:X.mg "zip" = none)(ha:AI X [a,b] ta)(hs:starEach [a,b] X.env=[(false,eval a X.env),(false,eval b X.env)]:=by rfl)(hs2:starEach [b] X.env=[(false,eval b X.env)]:=by first | exact eD | exact eE | exact cG | rfl) :
  EI X (.Tuple elts x1 tp) (.Call (.Name "zip" p) [a,b] [] pos) (OS b1 b2 ta):=⟨KI hg hm ha.p hs hs2⟩
end
theorem GU{b1 b2:Bool}{l1 l2:Addr}{xs ys:List V}{g:TG}{tb:TS}{D:mS}{σ:St}{H:Hp}(Pv:Nat->St->Hp->Prop)(h0:Pv 0 σ H)(hl:∀i σ H,Pv i σ H->H l1=some (uE b1 xs)/\H l2=some (uE b2 ys))
  (hs:∀i x y q σ H H',xs[i]?=some x->ys[i]?=some y->Pv i σ H->H q=none->H' q=some (.tup [x,y])->aW H H'->g (.ref q) σ H' λσ2 H2=>tb { D with nx:=Pv (i+1),ct:=Pv (i+1),bk:=D.nx } σ2 H2) (hd:∀σ H,Pv (min xs.length ys.length) σ H->D.nx σ H) :
  ∃W:Nat->Nat->St->Hp->Prop,(∃m,W 0 m σ H)/\∀i m σ H,W i m σ H ->
   ((PL b1 b2 l1 l2).stop i H/\D.nx σ H)\/((PL b1 b2 l1 l2).go i H/\∃N:St->Hp->Prop,(∀σ' H',N σ' H'->∃m',m' < m/\W (i+1) m' σ' H')/\∀x H',(PL b1 b2 l1 l2).yld i H x H'->g x σ H' λσ2 H2=>tb { D with nx:=N,ct:=N,bk:=D.nx } σ2 H2):=by
 refine ⟨λi m σ H=>m=min xs.length ys.length-i/\i<=min xs.length ys.length/\Pv i σ H,⟨_,rfl,cC _,h0⟩,?_⟩;rintro i m σ H ⟨rfl,hi,p⟩;obtain ⟨q1,q2⟩:=hl i σ H p;by_cases hlt:i<min xs.length ys.length
 ·have hx:xs[i]?=some xs[i]:=aE Oo;have hy:ys[i]?=some ys[i]:=aE Oo;refine .inr ⟨⟨xs,ys,_,_,q1,q2,hx,hy⟩,Pv (i+1),λσ' H' p'=>⟨_,Oo,rfl,hlt,p'⟩,λv H' y=>?_⟩;obtain ⟨q,x,y,rfl,hq,rfl,hh⟩:=y;obtain ⟨h1,h2⟩:=hh xs ys q1 q2;exact hs i x y q σ H _ h1 h2 p hq aX (aW.upd hq)
 ·have e:i=min xs.length ys.length:=Oo;subst e;refine .inl ⟨⟨xs,ys,q1,q2,?_⟩,hd σ H p⟩;omega
end L2
namespace L2
open PySem
def hJ:List Value->List Int->Bool
 | [],[]=>true
 | .int i _::vs,n::ns=>decide (i=n)&&hJ vs ns
 | _,_=>false
def oI(K:PySem.W.Frag)(a:Addr)(ns:List Int):Bool :=
 match K.lookup a with
 | some o=>(match o.cls with | .type n=>n == "tuple" | _=>false)&&(match o.data with | .seq xs _=>decide (xs.size<=64)&&hJ xs.toList ns | _=>false)
 | none=>false
theorem hJ.vals:∀{vs:List Value}{ns:List Int},hJ vs ns=true->bW (ns.map V.int) vs
 | [],[],_=>.nil
 | v::vs,n::ns,h=>by
  cases v with
  | int i t =>
   have h':(decide (i=n)&&hJ vs ns)=true:=h;rw [bJ] at h';have e:=of_decide_eq_true h'.1;subst e;exact .cons ⟨t,rfl⟩ (hJ.vals h'.2)
  | _=>cases h
 | [],_::_,h=>by cases h
 | v::_,[],h=>by cases v <;> cases h
theorem rX{K:PySem.W.Frag}{H:Hp}{a:Addr}{ns:List Int}(h:oI K a ns=true):eT K H a (ns.map V.int):=by
 unfold oI at h;split at h
 ·rename_i o ho
  rw [bJ] at h;obtain ⟨h1,h2⟩:=h;split at h1
  ·rename_i n hn
   split at h2
   ·rename_i xs m hx
    rw [bJ] at h2;have e:n = "tuple" := by simpa using h1
    subst e;exact .inr ⟨o,xs,m,ho,hn,hx,jS (of_decide_eq_true h2.1),hJ.vals h2.2⟩
   ·cases h2
  ·cases h1
 ·cases h
theorem eT.keep{K:PySem.W.Frag}{H H':Hp}{a:Addr}{xs:List V}(s:aW H H')(h:eT K H a xs):eT K H' a xs:=by
 rcases h with (h | ⟨o,h⟩) | h
 ·exact .inl (.inl (s _ _ h))
 ·exact .inl (.inr ⟨o,s _ _ h⟩)
 ·exact .inr h
mutual
def jI(K:PySem.W.Frag)(H:Hp):PyData->V->Prop
 | .none,v=>v=.non
 | .bool b,v=>v=.bl b
 | .int i,v=>v=.int i
 | .str x,v=>v=.str x
 | .list ds,v=>∃a xs,v=.ref a/\H a=some (.lst xs)/\fM K H ds xs
 | .tuple ds,v=>∃a xs,v=.ref a/\eT K H a xs/\fM K H ds xs
 | .dict kvs,v=>kvs=[]/\∃a,v=.ref a/\H a=some (.dK [])
def fM(K:PySem.W.Frag)(H:Hp):List PyData->List V->Prop
 | [],vs=>vs=[]
 | d::ds,vs=>∃x xs,vs=x::xs/\jI K H d x/\fM K H ds xs
end
theorem jI.tup{K:PySem.W.Frag}{H:Hp}{a:Addr}{xs:List V}{ds:List PyData}(h:eT K H a xs)(r:fM K H ds xs):jI K H (.tuple ds) (.ref a):=by
 unfold jI;exact ⟨a,xs,rfl,h,r⟩
theorem fM.ints{K:PySem.W.Frag}{H:Hp}:∀ns:List Int,fM K H (ns.map PyData.int) (ns.map V.int)
 | []=>by unfold fM;rfl
 | n::ns=>by unfold fM;exact ⟨_,_,rfl,by unfold jI;rfl,fM.ints ns⟩
section
variable{X:Cx}{pins:List (Addr × Obj)}{σ:St}{H:Hp}{s:Shared}
mutual
theorem jI.reads(I:bG X pins σ H s):∀{d:PyData}{v:V}{u:Value},jI X.K H d v->cB v u->∃as,Reads s.heap u d as
 | .none,_,u,h,r=>by
  cases (show _=V.non from h);cases (show u=Value.none from r);exact ⟨_,.none⟩
 | .bool b,_,u,h,r=>by
  cases (show _=V.bl b from h);cases (show u=Value.bool b from r);exact ⟨_,.bool b⟩
 | .int b,_,u,h,r=>by
  cases (show _=V.int b from h);obtain ⟨t,q⟩:=(show ∃t,u=Value.int b t from r);cases q;exact ⟨_,.int b t⟩
 | .str b,_,u,h,r=>by
  cases (show _=V.str b from h);obtain ⟨t,q⟩:=(show ∃t,u=Value.str b t from r);cases q;exact ⟨_,.str b t⟩
 | .list ds,v,u,h,r=>by
  unfold jI at h;obtain ⟨a,xs,rfl,h1,h2⟩:=h;cases (show u=Value.ref a from r);obtain ⟨_,its,n,r',e⟩:=(show cQ X.prog X.w H s.heap a (.lst xs) from I.hok a _ h1);obtain ⟨as,q⟩:=fM.reads I h2 r';exact ⟨_,.list e rfl rfl (by simpa using q)⟩
 | .tuple ds,v,u,h,r=>by
  unfold jI at h;obtain ⟨a,xs,rfl,h1,h2⟩:=h;cases (show u=Value.ref a from r);obtain ⟨its,r',⟨o,e,hc,n,hd⟩,_⟩:=I.tuple h1;obtain ⟨as,q⟩:=fM.reads I h2 r';exact ⟨_,.tuple e hc hd (by simpa using q)⟩
 | .dict kvs,v,u,h,r=>cK.reads I (d:=.dict kvs) (by unfold cK;unfold jI at h;exact h) r
theorem fM.reads(I:bG X pins σ H s):∀{ds:List PyData}{vs:List V}{us:List Value},fM X.K H ds vs->bW vs us->∃as,ReadsAll s.heap us ds as
 | [],_,us,h,r=>by
  cases (show _=[] from h);cases r;exact ⟨_,.nil⟩
 | d::ds,_,us,h,r=>by
  unfold fM at h;obtain ⟨x,xs,rfl,h1,h2⟩:=h;cases r with
  | cons r1 r2 =>
   obtain ⟨as,q1⟩:=jI.reads I h1 r1;obtain ⟨bs,q2⟩:=fM.reads I h2 r2;exact ⟨_,.cons q1 q2⟩
end
end
section
variable{X:Cx}
end
section
variable{K:PySem.W.Frag}{H:Hp}{p:Addr}{xs:List V}{i:Int}{v:V}{Q:VK}
theorem EF(h:eT K H p xs)(e:uH xs i=some v)(q:Q v H):PR K (.ref p) (.int i) H Q:=.inr (.inl ⟨p,xs,i,v,rfl,rfl,h,e,q⟩)
end
theorem rG(xs:List V)(k:Nat):iU xs (some (k:Int)) none=xs.drop k:=by
 unfold iU;rw [HT.qO,HT.nV];by_cases h:k<=xs.length
 ·rw [Nat.min_eq_left h];exact List.take_of_length_le (by rw [List.length_drop];exact aC _)
 ·rw [Nat.min_eq_right Oo,List.drop_of_length_le (aC _),List.drop_of_length_le Oo,List.take_nil]
theorem nD(xs:List V)(k:Nat):iU xs none (some (k:Int))=xs.take k:=by
 unfold iU;rw [HT.qO,HT.nV,List.drop_zero,Nat.sub_zero];by_cases h:k<=xs.length
 ·rw [Nat.min_eq_left h]
 ·rw [Nat.min_eq_right Oo,List.take_of_length_le (aC _),List.take_of_length_le Oo]
@[irreducible] def FG(K:PySem.W.Frag):V->Option Int->Option Int->Hp->VK->Prop:=NS K
theorem iH{X:Cx}(K:PySem.W.Frag)(h:X.K=K:=by rfl):MX X (FG K):=by subst h;unfold FG;exact wI
theorem NO{K:PySem.W.Frag}{H:Hp}{a:Addr}{xs ys:List V}{lo hi:Option Int}{Q:VK}(h:H a=some (.lst xs))(e:iU xs lo hi=ys)(k:∀q H',H q=none->H' q=some (.lst ys)->aW H H'->Q (.ref q) H'):FG K (.ref a) lo hi H Q:=by
 unfold FG;exact ⟨a,xs,rfl,fA.of h,λp hp=>by rw [e];exact k p _ hp aX (aW.upd hp)⟩
section
variable{σ:St}{js:List Nat}{te:TE}{H:Hp}{Q:VK}
theorem nT{R:Nat->V->Prop}{ys:List V}{y:V}(h:∀(j:Nat) z,ys[j]?=some z->R j z)(r:R ys.length y):∀(j:Nat) z,(ys++[y])[j]?=some z->R j z:=λj z hj=>by
 by_cases hji:j<ys.length
 ·rw [List.getElem?_append_left hji] at hj;exact h j z hj
 ·rw [List.getElem?_append_right Oo] at hj;have:j-ys.length=0:=by
   by_cases q:j-ys.length=0
   ·exact q
   ·rw [bR (by simp;omega)] at hj;cases hj
  rw [this] at hj;have hj':y=z:=by simpa using hj
  have:j=ys.length:=Oo;subst this hj';exact r
theorem pU{J:It}{n:Nat}(src:Nat->V->Prop)(R:Nat->V->Hp->Prop)(hR:∀i y H1 H2,fC H1 H2->R i y H1->R i y H2)(hz:n<=100000)
  (hg:∀i H',aW H H'->i<n->J.go i H'/\∀x H3,J.yld i H' x H3->H3=H'/\src i x) (hst:∀H',aW H H'->J.stop n H')
  (hs:∀i x H' (Q':VK),src i x->i<n->aW H H'->(∀y H5,aW H' H5->R i y H5->Q' y H5)->te (some x::slots σ js) H' Q')
  (hd:∀D ys H',H D=none->H' D=some (.lst ys)->aW H H'->ys.length=n->(∀(i:Nat) (y:V),ys[i]?=some y->R i y H')->Q (.ref D) H'):fV J σ js oW te H Q:=by
 refine tP (J:=J) (n:=n) src hz (λD i ys H'=>H D=none/\aW H H'/\∀(i:Nat) (y:V),ys[i]?=some y->R i y H') (λD H1 hD _ s=>⟨hD,s,λi y h=>by simp at h⟩)
  (λD i ys H' hi _ p=>hg i H' p.2.1 hi) (λD ys H' _ p=>hst H' p.2.1) (λD i x ys H' hx hi hy hD p=>?_) (λD ys H' hy hD hD' p=>hd D ys H' hD hD' p.2.1 hy p.2.2)
 refine hs i x H' _ hx hi p.2.1 λy H5 s5 r=>?_;refine ⟨s5 _ _ hD,λH6 hD6 s6=>⟨p.1,aW.thru p.1 (p.2.1.trans s5) s6,?_⟩⟩;have t6:=s6.t (s5 _ _ hD);exact nT (R:=λj z=>R j z H6) (λj z hj=>hR j z _ _ (s5.t.trans t6) (p.2.2 j z hj)) (by rw [hy];exact hR i y _ _ t6 r)
theorem lQ{K:PySem.W.Frag}{a:Addr}{xs:List V}(R:Nat->V->Hp->Prop)(hR:∀i y H1 H2,fC H1 H2->R i y H1->R i y H2)(hz:xs.length<=100000)(hl:H a=some (.lst xs))
  (hs:∀i x H' (Q':VK),xs[i]?=some x->aW H H'->(∀y H5,aW H' H5->R i y H5->Q' y H5)->te (some x::slots σ js) H' Q')
  (hd:∀D ys H',H D=none->H' D=some (.lst ys)->aW H H'->ys.length=xs.length->(∀(i:Nat) (y:V),ys[i]?=some y->R i y H')->Q (.ref D) H'):fV (QD K a) σ js oW te H Q :=
 pU (λi x=>xs[i]?=some x) R hR hz (λi H' s hi=>⟨⟨xs,xs[i],fA.of (s _ _ hl),by simp [hi]⟩,λx H3 y=>⟨y.1,y.2 xs (fA.of (s _ _ hl))⟩⟩) (λH' s=>⟨xs,fA.of (s _ _ hl),aC _⟩)
  (λi x H' Q' hx _ s k=>hs i x H' Q' hx s k) hd
theorem zY{lo:Int}{n:Nat}(R:Nat->V->Hp->Prop)(hR:∀i y H1 H2,fC H1 H2->R i y H1->R i y H2)(hz:n<=100000)
  (hs:∀i H' (Q':VK),i<n->aW H H'->(∀y H5,aW H' H5->R i y H5->Q' y H5)->te (some (.int (lo+(i:Nat)))::slots σ js) H' Q')
  (hd:∀D ys H',H D=none->H' D=some (.lst ys)->aW H H'->ys.length=n->(∀(i:Nat) (y:V),ys[i]?=some y->R i y H')->Q (.ref D) H'):fV (HK lo n) σ js oW te H Q :=
 pU (λi x=>x=.int (lo+(i:Nat))) R hR hz (λi H' s hi=>⟨hi,λx H3 y=>y⟩) (λH' s=>aC _)
  (λi x H' Q' hx hi s k=>by subst hx;exact hs i H' Q' hi s k) hd
structure kP(p L:Addr)(Fd:Hp->Prop):Prop where
 but:∀D H1 H2,D≠p->D≠L->aR D H1 H2->Fd H1->Fd H2
 same:∀H1 H2,aW H1 H2->Fd H1->Fd H2
 lst:∀H',Fd H'->∃xs,H' p=some (.lst xs)
 np:∀H' D,Fd H'->H' D=none->D≠p/\D≠L
theorem aR.thru{p l:Addr}{H0 H1 H2:Hp}(hl:H0 l=none)(s:aR p H0 H1)(b:aR l H1 H2):aR p H0 H2:=λc o e=>by
 have n:=dH.ne e;have e0:H0 c=some o:=by rw [dH.at n] at e;exact e
 have nl:c≠l:=λz=>by subst z;rw [hl] at e0;cases e0
 exact dH.of n (b.at nl (s.at n e0))
theorem xU{J:It}{n:Nat}{p L:Addr}{Fd:Hp->Prop}(fl:kP p L Fd)(F0:Fd H)(src:Nat->V->Prop)(R:Nat->V->Hp->Prop)(hR:∀i y H1 H2,fC H1 H2->R i y H1->R i y H2)(hz:n<=100000)
  (hg:∀i H',aR p H H'->i<n->J.go i H'/\∀x H3,J.yld i H' x H3->H3=H'/\src i x) (hst:∀H',aR p H H'->J.stop n H')
  (hs:∀i x H' (Q':VK),src i x->i<n->Fd H'->aR p H H'->(∀y H5,Fd H5->aR p H' H5->R i y H5->Q' y H5)->te (some x::slots σ js) H' Q')
  (hd:∀D ys H',H D=none->H' D=some (.lst ys)->Fd H'->aR p H H'->ys.length=n->(∀(i:Nat) (y:V),ys[i]?=some y->R i y H')->Q (.ref D) H'):fV J σ js oW te H Q:=by
 refine tP (J:=J) (n:=n) src hz (λD i ys H'=>H D=none/\Fd H'/\aR p H H'/\∀(i:Nat) (y:V),ys[i]?=some y->R i y H') (λD H1 hD _ s=>⟨hD,fl.same _ _ s F0,s.but,λi y h=>by simp at h⟩)
  (λD i ys H' hi _ q=>hg i H' q.2.2.1 hi) (λD ys H' _ q=>hst H' q.2.2.1) (λD i x ys H' hx hi hy hD q=>?_) (λD ys H' hy hD hD' q=>hd D ys H' hD hD' q.2.1 q.2.2.1 hy q.2.2.2)
 obtain ⟨np,nL⟩:=fl.np H D F0 q.1;refine hs i x H' _ hx hi q.2.1 q.2.2.1 λy H5 F5 s5 r=>?_;obtain ⟨xs,hp⟩:=fl.lst H' q.2.1;have hD5:=s5.at np hD;refine ⟨hD5,λH6 hD6 s6=>⟨q.1,fl.but D _ _ np nL s6 F5,aR.thru q.1 (q.2.2.1.trans s5) s6,?_⟩⟩;have t6:=s6.t hD5;exact nT (R:=λj z=>R j z H6) (λj z hj=>hR j z _ _ ((s5.t hp).trans t6) (q.2.2.2 j z hj)) (by rw [hy];exact hR i y _ _ t6 r)
theorem DR{K:PySem.W.Frag}{a:Addr}{xs:List V}{p L:Addr}{Fd:Hp->Prop}(fl:kP p L Fd)(F0:Fd H)(R:Nat->V->Hp->Prop)(hR:∀i y H1 H2,fC H1 H2->R i y H1->R i y H2)(hz:xs.length<=100000)(na:a≠p)(hl:H a=some (.lst xs))
  (hs:∀i x H' (Q':VK),xs[i]?=some x->Fd H'->aR p H H'->(∀y H5,Fd H5->aR p H' H5->R i y H5->Q' y H5)->te (some x::slots σ js) H' Q')
  (hd:∀D ys H',H D=none->H' D=some (.lst ys)->Fd H'->aR p H H'->ys.length=xs.length->(∀(i:Nat) (y:V),ys[i]?=some y->R i y H')->Q (.ref D) H'):fV (QD K a) σ js oW te H Q :=
 xU fl F0 (λi x=>xs[i]?=some x) R hR hz (λi H' s hi=>⟨⟨xs,xs[i],fA.of (s.at na hl),by simp [hi]⟩,λx H3 y=>⟨y.1,y.2 xs (fA.of (s.at na hl))⟩⟩) (λH' s=>⟨xs,fA.of (s.at na hl),aC _⟩)
  (λi x H' Q' hx _ f s k=>hs i x H' Q' hx f s k) hd
theorem oO{lo:Int}{n:Nat}{p L:Addr}{Fd:Hp->Prop}(fl:kP p L Fd)(F0:Fd H)(R:Nat->V->Hp->Prop)(hR:∀i y H1 H2,fC H1 H2->R i y H1->R i y H2)(hz:n<=100000)
  (hs:∀i H' (Q':VK),i<n->Fd H'->aR p H H'->(∀y H5,Fd H5->aR p H' H5->R i y H5->Q' y H5)->te (some (.int (lo+(i:Nat)))::slots σ js) H' Q')
  (hd:∀D ys H',H D=none->H' D=some (.lst ys)->Fd H'->aR p H H'->ys.length=n->(∀(i:Nat) (y:V),ys[i]?=some y->R i y H')->Q (.ref D) H'):fV (HK lo n) σ js oW te H Q :=
 xU fl F0 (λi x=>x=.int (lo+(i:Nat))) R hR hz (λi H' s hi=>⟨hi,λx H3 y=>y⟩) (λH' s=>aC _)
  (λi x H' Q' hx hi f s k=>by subst hx;exact hs i H' Q' hi f s k) hd
end
theorem aY.ofIdx{H:Hp}:∀{ds:List PyData}{ys:List V},ys.length=ds.length->(∀(i:Nat) (y:V),ys[i]?=some y->∃d,ds[i]?=some d/\cK H d y)->aY H ds ys
 | [],[],_,_=>aY.nil
 | d::ds,y::ys,hl,h=>by
  obtain ⟨d',e,r⟩:=h 0 y rfl;cases (show d=d' by simpa using e);exact aY.cons r (aY.ofIdx (by simpa using hl) λi z hz=>by simpa using h (i+1) z (by simpa using hz))
 | [],_::_,hl,_=>by simp at hl
 | _::_,[],hl,_=>by simp at hl
theorem rD{P:Nat->Int->Prop}:∀{ys:List V},(∀(i:Nat) (y:V),ys[i]?=some y->∃n,y=.int n/\P i n)->∃ns:List Int,ys=ns.map V.int/\∀(i:Nat) n,ns[i]?=some n->P i n
 | [],_=>⟨[],rfl,λi n h=>by simp at h⟩
 | y::ys,h=>by
  obtain ⟨n,rfl,hn⟩:=h 0 y rfl;obtain ⟨ns,rfl,hs⟩:=rD (P:=λi=>P (i+1)) (ys:=ys) λi z hz=>h (i+1) z (by simpa using hz);refine ⟨n::ns,rfl,λi m hm=>?_⟩;cases i with
  | zero=>cases (show n=m by simpa using hm);exact hn
  | succ i=>exact hs i m (by simpa using hm)
end L2
namespace L2
open PySem PySem.Spec PyProof.Rows
section
variable{X:Cx}
@[irreducible] def wR(K:PySem.W.Frag):R2:=λx y H Q=>∃a b xs ys,x=.ref a/\y=.ref b/\H a=some (.tup xs)/\H b=some (.tup ys)/\xs.length+ys.length<=1000/\∀c H',aW H H'->H' c=some (.tup (xs++ys))->Q (.ref c) H'
theorem MB{K:PySem.W.Frag}{H:Hp}{Q:VK}{a b:Addr}{xs ys:List V}(h1:H a=some (.tup xs))(h2:H b=some (.tup ys))(hz:xs.length+ys.length<=1000)(k:∀c H',aW H H'->H' c=some (.tup (xs++ys))->Q (.ref c) H'):wR K (.ref a) (.ref b) H Q:=by
 unfold wR;exact ⟨a,b,xs,ys,rfl,rfl,h1,h2,hz,k⟩
theorem qU(K:PySem.W.Frag)(hK:X.K=K:=by rfl):mR X (binaryOp .Add) (wR K):=by
 subst hK;unfold wR;intro pins s σ H x y v u Q I rx ry h;obtain ⟨a,b,xs,ys,rfl,rfl,ha,hb,hz,q⟩:=h;by_cases hx:xs=[]
 ·cases rx;cases ry;subst hx;obtain ⟨its,r1,p1,_⟩:=I.tuple (eT.of ha);obtain ⟨its2,r2,p2,_⟩:=I.tuple (eT.of hb);cases r1;obtain ⟨⟨cls,dd,data,sl⟩,ho,hc,n,hd⟩:=id p1;obtain ⟨⟨cls2,dd2,data2,sl2⟩,ho2,hc2,n2,hd2⟩:=id p2;simp only at hc hd hc2 hd2;subst hc hd hc2 hd2;exact concat_meets ⟨_,ho,rfl⟩ ⟨_,ho2,rfl⟩ noFill_tuple_add seq_tuple_add PySem.F.slot_tuple_add PySem.F.entry_tuple_add (PySem.F.args_tuple_add_2 _ _)
   (tuple_addW0 a b _ _ n n2 dd dd2 sl sl2 rfl) ⟨ho,ho2,⟨.ref b,H,I,rfl,q b H (aW.refl _) hb⟩⟩
 ·refine GF pins s σ H _ _ v u Q I rx ry ⟨a,b,xs,ys,rfl,rfl,eT.of ha,eT.of hb,hx,aU hz Dd,λe=>?_,λ_ p hp=>q p _ (aW.upd hp) aX⟩;subst e;exact q a H (aW.refl _) (by rw [List.append_nil];exact ha)
end
theorem oJ(a:Int)(t:Tok)(l:Addr)(items:Array Value)(n:Nat)(dd:Option Addr)(sl:Array (Option Value)) :
  Meets (Builtin.«int.__rmul__» ⟨[.int a t,.ref l],[]⟩) (λ_ R s=>s.heap.get? l=some { cls:=.type "tuple",dict:=dd,data:=.seq items n,slots:=sl }/\R (.ok (.ret Value.notImplemented)) s) :=
 .of_wp λprog w A R s h=>by
  obtain ⟨hp,g,d,tk,os⟩:=s;obtain ⟨hl,h⟩:=h
  wp_walk
  exact ⟨_,rfl,h⟩
theorem uK(l:Addr)(items:Array Value)(n:Nat)(dd:Option Addr)(sl:Array (Option Value))(k:Int)(u:Tok)(h0:2<=k)(h1:k<=64)(he:items.isEmpty=false)(hz:items.size<=64)(hsz:((List.replicate k.toNat items).foldl (· ++ ·) #[]).size<=sizeLine) :
  Meets (Builtin.«tuple.__mul__» ⟨[.ref l,.int k u],[]⟩) (λ_ R s=>s.heap.get? l=some { cls:=.type "tuple",dict:=dd,data:=.seq items n,slots:=sl }/\R (.ok (.ret (.ref s.heap.objs.size))) { s with heap:=s.heap.push { cls:=.type "tuple",data:=.seq ((List.replicate k.toNat items).foldl (· ++ ·) #[]) } }) :=
 .of_wp λprog w A R s h=>by
  obtain ⟨hp,g,d,tk,os⟩:=s;obtain ⟨hl,h⟩:=h;have f1:=AutoSeq1.idx_int
  wp_walk using wpAny_loadPart' hl
  rw [if_neg (by simp;omega)]
  wp_walk using wpAny_loadPart' hl
  have he':¬items=#[]:=λz=>by simp [z] at he
  have hm:(items.size:Int)*k<=4096:=by
   have h2:(items.size:Int)*k<=64*64:=Int.mul_le_mul Oo h1 Oo Oo;omega
  rw [if_neg (by simp;exact ⟨he',Oo⟩)];rw [if_neg (by simp;exact ⟨Oo,he'⟩)];show wpAny _ _ (if (items.size:Int)*k > (2^63-1)/8 then _ else _) _ _ _;rw [if_neg Oo];show wpAny _ _ (if Builtin.Tuple.tupleTooMany (items.size*k)=true then _ else _) _ _ _;rw [if_neg (by unfold Builtin.Tuple.tupleTooMany;simp;exact Int.le_trans hm Dd)]
  wp_walk
  exact ⟨_,rfl,h⟩
theorem lI:fillsNumberSlot (.type "tuple") "mul" = pure false:=PySem.fillsNumberSlot_seq (id := "tuple.__mul__") (r:=some (.builtin "tuple.__rmul__")) F.slot_tuple_mul.lookup Kk F.slot_tuple_rmul.lookup Kk
theorem qQ:seqRepeat? (.type "tuple")=pure (some (.builtin "tuple.__mul__")):=by
 unfold seqRepeat?;rw [PySem.seqSlot_of (T := "tuple") (name := "__mul__") (id := "tuple.__mul__") F.slot_tuple_mul.lookup Kk,PySem.seqSlot_of (T := "tuple") (name := "__rmul__") (id := "tuple.__rmul__") F.slot_tuple_rmul.lookup Kk];rfl
@[irreducible] def wP:R2:=λx y H Q=>∃a z,∃k:Nat,x=.ref a/\y=.int (k:Int)/\H a=some (.tup [z])/\2<=k/\k<=64/\∀c H',aW H H'->H' c=some (.tup (List.replicate k z))->Q (.ref c) H'
theorem RE{H:Hp}{Q:VK}{a:Addr}{z:V}{k:Nat}(h:H a=some (.tup [z]))(h2:2<=k)(hk:k<=64)(q:∀c H',aW H H'->H' c=some (.tup (List.replicate k z))->Q (.ref c) H'):wP (.ref a) (.int (k:Int)) H Q:=by
 unfold wP;exact ⟨a,z,k,rfl,rfl,h,h2,hk,q⟩
section
variable{X:Cx}
theorem GE:mR X (binaryOp .Mult) wP:=by
 unfold wP;intro pins s σ H x y v u Q I rx ry h;obtain ⟨a,z,k,rfl,rfl,hH,h2,hk,q⟩:=h;cases rx;obtain ⟨t,rfl⟩:=(show ∃t,u=Value.int (k:Int) t from ry);obtain ⟨its,r,p,_⟩:=I.tuple (eT.of hH);obtain ⟨w1,rfl,rw1⟩:=iA r;obtain ⟨⟨cls,dd,data,sl⟩,ho,hc,n,hd⟩:=id p;simp only at hc hd;subst hc hd;have flat1:∀k:Nat,(List.replicate k [w1]).flatten=List.replicate k w1:=λk=>by
  induction k with
  | zero=>rfl
  | succ k ih=>rw [List.replicate_succ,List.flatten_cons,ih,List.replicate_succ];rfl
 have f0:List.foldl (λx1 x2=>x1++x2) #[] (List.replicate k [w1].toArray)=(List.replicate k w1).toArray:=by
  have:=pT [w1] k [];rw [List.nil_append,flat1] at this;exact this
 have vr:∀k:Nat,bW (List.replicate k z) (List.replicate k w1):=λk=>by
  induction k with
  | zero=>exact .nil
  | succ k ih=>exact .cons rw1 ih
 generalize hk':(k:Int)=kk;have hkk:kk.toNat=k:=Oo;refine wpAny_binaryOp_repeat_ref (T := "tuple") (U := "int") Dd ⟨_,ho,rfl⟩ (λs'=>typeIs_int s' kk t) lI F.fills_int_mul F.slot_int_rmul qQ F.slot_int_index.lookup
  (call_meets F.slot_int_rmul (typeIs_int s kk t) F.entry_int_rmul (F.args_int_rmul_2 _ _) (oJ kk t a [w1].toArray n dd sl) ⟨ho,rfl,⟨_,ho,rfl⟩,?_⟩)
 refine call_meets F.slot_tuple_mul ⟨_,ho,rfl⟩ F.entry_tuple_mul (F.args_tuple_mul_2 _ _) (uK a [w1].toArray n dd sl kk t Oo Oo rfl (by show 1<=64;decide) (by rw [hkk,f0,aI,List.length_replicate];exact aU hk Dd)) ⟨ho,?_⟩;rw [hkk,f0];refine ⟨.ref _,_,I.laid (t':=s.toks) (o:=.tup (List.replicate k z)) (λb ob q=>aA _ q) (aC _) ?_,rfl,q _ _ (aW.upd (I.hok.fresh (aC _))) aX⟩;exact ⟨⟨by rw [List.length_replicate];exact jS hk,_,aK _ rfl,rfl⟩,_,vr k,IsTup.new _ _⟩
end
@[irreducible] def FH:V->List V->Hp->VK->Prop:=wQ
theorem CM{X:Cx}:MO X "list.extend" FH:=by unfold FH;exact zI
theorem OY{H:Hp}{l b:Addr}{xs zs:List V}{Q:VK}(h:H l=some (.lst xs))(h2:H b=some (.lst zs))(hz:xs.length+zs.length<=1000)(k:∀H',H' l=some (.lst (xs++zs))->aR l H H'->Q .non H'):FH (.ref l) [.ref b] H Q:=by
 unfold FH;exact ⟨l,b,xs,zs,rfl,rfl,h,h2,Nat.le_of_lt (lD hz),k _ aX aR.self⟩
section
variable{prog:Program}{w:World}{A:Around}{E:Value->Shared->Prop}{s:Shared}{l:Addr}{xs:Array (Int × Tok)}
theorem BI{Q:Value->Shared->Prop}(hh:A.handled=none)(hl:s.heap.IsTuple l (intItems xs))
  (h:∀h' tk t',(∀b o,s.heap.get? b=some o->h'.get? b=some o)->Q (.int (preSum (numAt xs) xs.size) t') { s with heap:=h',toks:=tk }) :
  wpAny (model prog w) A (call (.builtin "sum") [.ref l]) Q E s:=by
 have hlt:l<s.heap.objs.size:=by obtain ⟨_,e,_⟩:=hl;exact aN e
 refine call_sum_walkG (wpAny_pyIter_tuple hl ?_);refine ⟨_,[_,l],[_],_,_,_,numAt xs,rfl,Walks.tuple (A:=A.in1) hh _ l (bP hlt) (intItems xs),⟨⟨_,aK _ rfl,rfl,rfl⟩,hl.push _⟩,λc hc=>?_,(λ_ _=>intItems_at),λh' tk t' hk=>?_⟩
 ·show c<(s.heap.push _).objs.size;rw [cY];rcases aP.mp hc with rfl | hc
  ·exact Nat.lt_succ_self _
  ·rcases aP.mp hc with rfl | hc
   ·exact Nat.lt_succ_of_lt hlt
   ·cases hc
 ·have:=h h' tk t' λc o e=>by
   refine hk c o (λhm=>?_) (aA _ e);rcases aP.mp hm with e1 | hm
   ·exact absurd (e1 ▸ aN e) (bQ _)
   ·cases hm
  simpa [intItems] using this
end
@[irreducible] def wM(K:PySem.W.Frag):List V->Hp->VK->Prop:=λxs H Q=>∃(p:Addr) (ns:List Int),xs=[.ref p]/\eT K H p (ns.map V.int)/\Q (.int ns.sum) H
theorem SE{K:PySem.W.Frag}{H:Hp}{p:Addr}{ns:List Int}{Q:VK}(h:eT K H p (ns.map V.int))(q:Q (.int ns.sum) H):wM K [.ref p] H Q:=by unfold wM;exact ⟨p,ns,rfl,h,q⟩
theorem xY{X:Cx}(K:PySem.W.Frag)(hc:X.calm=true)(hK:X.K=K:=by rfl):eS X (.builtin "sum") (wM K):=by
 subst hK;unfold wM;intro pins s σ H xs us Q I r h;obtain ⟨p,ns,rfl,hq,q⟩:=h;obtain ⟨u,rfl,rx⟩:=iA r;cases rx;obtain ⟨its,r',pl,hz⟩:=I.tuple hq;have hi:=jE r';obtain ⟨xs',e⟩:=hi.allInts.items;rw [e] at pl;refine BI (I.ok.hd hc) pl λh' tk t' hk=>⟨.int ns.sum,H,I.kept hk,⟨t',?_⟩,q⟩;rw [preSum_eq,List.take_of_length_le (by simp)];rw [<-hi.numsOf];have e2:its=(intItems xs').toList:=by rw [<-e]
 rw [e2,nums_intItems]
section
variable{js:List Nat}{te:TE}{tc:TT}{σ:St}{H:Hp}{Q:VK}
end
end L2
namespace Mf
def lw(n d:Int):Int × Int:=(n/(Int.gcd n d:Int),d/(Int.gcd n d:Int))
structure IP(n d:Int):Prop where
 pos:0<d
 low:Int.gcd n d=1
theorem gA{n d:Int}(h:0<d):0<(Int.gcd n d:Int):=by
 have:=Int.gcd_pos_of_ne_zero_right n (Int.ne_of_gt h);omega
theorem eY{n d:Int}(h:0<d):IP (lw n d).1 (lw n d).2:=by
 have g:=gA (n:=n) h;refine ⟨?_,?_⟩
 ·exact Int.ediv_pos_of_pos_of_dvd h (Int.le_of_lt g) (Int.gcd_dvd_right n d)
 ·exact Int.gcd_ediv_gcd_ediv_gcd Oo
theorem IC{n d:Int}:(lw n d).1*(Int.gcd n d:Int)=n/\(lw n d).2*(Int.gcd n d:Int)=d :=
 ⟨Int.ediv_mul_cancel (Int.gcd_dvd_left n d),Int.ediv_mul_cancel (Int.gcd_dvd_right n d)⟩
theorem fH{n d:Int}:(lw n d).1*d=n*(lw n d).2:=by
 obtain ⟨e1,e2⟩:=IC (n:=n) (d:=d);generalize (lw n d).1=a at *;generalize (lw n d).2=b at *;generalize (Int.gcd n d:Int)=g at *;rw [<-e1,<-e2];rw [Int.mul_assoc,Int.mul_comm g b]
theorem xQ{b a d:Int}(h:b ∣ a*d)(g:Int.gcd b a=1):b ∣ d:=by
 rw [<-Int.natAbs_dvd_natAbs,dO] at h;rw [<-Int.natAbs_dvd_natAbs];rw [Int.gcd_eq_natAbs_gcd_natAbs] at g;exact Nat.Coprime.dvd_of_dvd_mul_left g h
theorem CP{a b c d:Int}(h1:IP a b)(h2:IP c d)(e:a*d=c*b):a=c/\b=d:=by
 have d1:b ∣ d:=by
  have:b ∣ a*d:=by rw [e];exact Int.dvd_mul_left c b
  exact xQ this (by rw [Int.gcd_comm];exact h1.low)
 have d2:d ∣ b:=by
  have:d ∣ c*b:=by rw [<-e];exact Int.dvd_mul_left a d
  exact xQ this (by rw [Int.gcd_comm];exact h2.low)
 have hb:=h1.pos;have hd:=h2.pos;have e1:b=d:=Int.dvd_antisymm (Int.le_of_lt hb) (Int.le_of_lt hd) d1 d2;subst e1;exact ⟨Int.eq_of_mul_eq_mul_right Oo e,rfl⟩
theorem jB{a b n d:Int}(h:IP a b)(hd:0<d)(e:a*d=n*b):lw n d=(a,b):=by
 have c:=fH (n:=n) (d:=d);have q:=CP (eY (n:=n) hd) h (by
  have hd':d≠0:=Oo;apply Int.eq_of_mul_eq_mul_right hd'
  calc (lw n d).1*b*d=((lw n d).1*d)*b:=by rw [Int.mul_assoc,Int.mul_comm b d,<-Int.mul_assoc]
   _=(n*(lw n d).2)*b:=by rw [c]
   _=(n*b)*(lw n d).2:=by rw [Int.mul_assoc,Int.mul_comm (lw n d).2 b,<-Int.mul_assoc]
   _=(a*d)*(lw n d).2:=by rw [e]
   _=a*(lw n d).2*d:=by rw [Int.mul_assoc,Int.mul_comm d,<-Int.mul_assoc])
 exact Prod.ext q.1 q.2
theorem wX{a b:Int}(h:IP a b):lw a b=(a,b):=jB h h.pos rfl
theorem kG{u a b:Int}(h1:Int.gcd u a=1)(h2:Int.gcd u b=1):Int.gcd u (a*b)=1:=by
 rw [Int.gcd_eq_natAbs_gcd_natAbs] at *;rw [dO];exact Nat.Coprime.mul_right h1 h2
theorem jF{a b c:Int}(h:Int.gcd a b=1)(d:c ∣ b):Int.gcd a c=1:=by
 have:=Int.gcd_dvd_gcd_of_dvd_right a d;rw [h] at this;exact Nat.eq_one_of_dvd_one this
theorem iB{a b c:Int}(h:Int.gcd a b=1)(d:c ∣ a):Int.gcd c b=1:=by
 rw [Int.gcd_comm] at *;exact jF h d
theorem BD{a b c d:Int}(h1:IP a b)(h2:IP c d) :
  let f:Int:=Int.gcd a d
  let s:Int:=Int.gcd c b
  lw (a*c) (b*d)=((a/f)*(c/s),(b/s)*(d/f)):=by
 intro f s;have hf:0<f:=gA h2.pos;have hs:0<s:=gA h1.pos;obtain ⟨a',ea⟩:=Int.gcd_dvd_left a d;obtain ⟨d',ed⟩:=Int.gcd_dvd_right a d;obtain ⟨c',ec⟩:=Int.gcd_dvd_left c b;obtain ⟨b',eb⟩:=Int.gcd_dvd_right c b;have ea:a=f*a':=ea;have ed:d=f*d':=ed;have ec:c=s*c':=ec;have eb:b=s*b':=eb;have qa:a/f=a':=by rw [ea];exact Int.mul_ediv_cancel_left _ Oo
 have qd:d/f=d':=by rw [ed];exact Int.mul_ediv_cancel_left _ Oo
 have qc:c/s=c':=by rw [ec];exact Int.mul_ediv_cancel_left _ Oo
 have qb:b/s=b':=by rw [eb];exact Int.mul_ediv_cancel_left _ Oo
 have cad:Int.gcd a' d'=1:=by
  have:=Int.gcd_ediv_gcd_ediv_gcd (i:=a) (j:=d) (by have:0<(Int.gcd a d:Int):=hf;omega);have h:Int.gcd (a/f) (d/f)=1:=this
  rwa [qa,qd] at h
 have ccb:Int.gcd c' b'=1:=by
  have:=Int.gcd_ediv_gcd_ediv_gcd (i:=c) (j:=b) (by have:0<(Int.gcd c b:Int):=hs;omega);have h:Int.gcd (c/s) (b/s)=1:=this
  rwa [qc,qb] at h
 have cab:Int.gcd a' b'=1:=iB (jF h1.low ⟨s,by rw [eb,Int.mul_comm]⟩) ⟨f,by rw [ea,Int.mul_comm]⟩;have ccd:Int.gcd c' d'=1:=iB (jF h2.low ⟨f,by rw [ed,Int.mul_comm]⟩) ⟨s,by rw [ec,Int.mul_comm]⟩;have hb':0<b':=by
  have:=h1.pos;rw [eb] at this;exact Int.pos_of_mul_pos_right this Oo
 have hd':0<d':=by
  have:=h2.pos;rw [ed] at this;exact Int.pos_of_mul_pos_right this Oo
 rw [qa,qb,qc,qd];refine jB ⟨Int.mul_pos hb' hd',?_⟩ (Int.mul_pos h1.pos h2.pos) ?_
 ·have x1:Int.gcd a' (b' * d')=1:=kG cab cad;have x2:Int.gcd c' (b' * d')=1:=kG ccb ccd;rw [Int.gcd_comm] at x1 x2 ⊢;exact kG x1 x2
 ·rw [ea,eb,ec,ed];simp only [Int.mul_assoc,Int.mul_left_comm,Int.mul_comm]
end Mf
namespace Mf
abbrev Fr:=Int × Int
def MI(x y:Fr):Fr:=lw (x.1*y.2+y.1*x.2) (x.2*y.2)
def BC(fs:List Fr):Fr:=fs.foldl MI (0,1)
def whole(fs:List Fr):Int:=fs.foldl (λw f=>w*f.2) 1
def fB(f:Fr):Prop:=IP f.1 f.2
theorem dX{α:Type}{P:List α->Prop}(h0:P [])(hs:∀l a,P l->P (l++[a]))(l:List α):P l:=by
 have:∀r:List α,P r.reverse:=by
  intro r
  induction r with
  | nil=>exact h0
  | cons a r ih=>rw [List.reverse_cons];exact hs _ _ ih
 have:=this l.reverse
 rwa [List.reverse_reverse] at this
theorem yM(l:List Fr)(a:Fr):BC (l++[a])=MI (BC l) a:=by unfold BC;rw [List.foldl_append];rfl
theorem nK(l:List Fr)(a:Fr):whole (l++[a])=whole l*a.2:=by unfold whole;rw [List.foldl_append];rfl
theorem iO(l:List Fr):(∀f∈l,fB f)->0<whole l:=by
 refine dX (P:=λl=>(∀f∈l,fB f)->0<whole l) (λ_=>Dd) (λl a ih h=>?_) l;rw [nK];exact Int.mul_pos (ih λf hf=>h f (bU _ hf)) (h a (aF _ aG)).pos
theorem pE(l:List Fr):∀f∈l,f.2 ∣ whole l:=by
 refine dX (P:=λl=>∀f∈l,f.2 ∣ whole l) (λf hf=>by cases hf) (λl a ih f hf=>?_) l;rw [nK];rcases List.mem_append.mp hf with h | h
 ·exact Int.dvd_mul_of_dvd_left (ih f h)
 ·rw [dC] at h;subst h;exact Int.dvd_mul_left _ _
theorem CO{n d:Int}(h:0<d):(lw n d).2<=d/\(lw n d).1.natAbs<=n.natAbs:=by
 obtain ⟨e1,e2⟩:=IC (n:=n) (d:=d);have g:=gA (n:=n) h;have p:=(eY (n:=n) h).pos;generalize (lw n d).1=a at *;generalize (lw n d).2=b at *;generalize (Int.gcd n d:Int)=G at *;refine ⟨?_,?_⟩
 ·rw [<-e2];have:=Int.mul_le_mul_of_nonneg_left (show (1:Int)<=G by omega) (Int.le_of_lt p);simpa using this
 ·rw [<-e1,dO];exact Nat.le_mul_of_pos_right _ Oo
end Mf
namespace Mf
theorem oB{n d n' d':Int}(hd:0<d)(hd':0<d')(e:n*d'=n' * d):lw n d=lw n' d':=by
 have h:=eY (n:=n') hd';have c:=fH (n:=n') (d:=d');generalize lw n' d'=L at c h;refine jB (a:=L.1) (b:=L.2) h hd ?_;refine Int.eq_of_mul_eq_mul_right (a:=d') Oo ?_
 calc L.1*d*d'=(L.1*d')*d:=by ac_rfl
  _=n' * L.2*d:=by rw [c]
  _=(n' * d)*L.2:=by ac_rfl
  _=n*d' * L.2:=by rw [e]
  _=n*L.2*d':=by ac_rfl
def oY(f g:Fr):Fr:=lw (f.1*g.1) (f.2*g.2)
theorem CL{f g:Fr}(h:fB f)(h':fB g):fB (oY f g):=eY (Int.mul_pos h.pos h'.pos)
theorem qW{a b c d:Int}(hb:0<b)(hd:0<d):oY (lw a b) (lw c d)=lw (a*c) (b*d):=by
 have h1:=(eY (n:=a) hb).pos;have h2:=(eY (n:=c) hd).pos;refine oB (Int.mul_pos h1 h2) (Int.mul_pos hb hd) ?_;have e1:=fH (n:=a) (d:=b);have e2:=fH (n:=c) (d:=d);generalize lw a b=L at *;generalize lw c d=M at *
 calc L.1*M.1*(b*d)=(L.1*b)*(M.1*d):=by ac_rfl
  _=(a*L.2)*(c*M.2):=by rw [e1,e2]
  _=a*c*(L.2*M.2):=by ac_rfl
theorem MH{a b c d:Int}(hb:0<b)(hd:0<d):MI (lw a b) (lw c d)=lw (a*d+c*b) (b*d):=by
 have h1:=(eY (n:=a) hb).pos;have h2:=(eY (n:=c) hd).pos;refine oB (Int.mul_pos h1 h2) (Int.mul_pos hb hd) ?_;have e1:=fH (n:=a) (d:=b);have e2:=fH (n:=c) (d:=d);generalize lw a b=L at *;generalize lw c d=M at *;rw [Int.add_mul,Int.add_mul];congr 1
 ·calc L.1*M.2*(b*d)=(L.1*b)*(M.2*d):=by ac_rfl
   _=(a*L.2)*(M.2*d):=by rw [e1]
   _=a*d*(L.2*M.2):=by ac_rfl
 ·calc M.1*L.2*(b*d)=(M.1*d)*(L.2*b):=by ac_rfl
   _=(c*M.2)*(L.2*b):=by rw [e2]
   _=c*b*(L.2*M.2):=by ac_rfl
theorem GJ{d:Int}(h:0<d):lw 0 d=(0,1):=jB (a:=0) (b:=1) ⟨Dd,Dd⟩ h Oo
theorem qZ{d:Int}(h:0<d):lw d d=(1,1):=jB (a:=1) (b:=1) ⟨Dd,Dd⟩ h Oo
theorem yL{S:Int}(hS:0<S)(ps:List Int):BC (ps.map λp=>lw p S)=lw ps.sum S:=by
 induction ps using dX with
 | h0=>rw [show ([]:List Int).sum=0 from rfl,GJ hS];rfl
 | hs l a ih =>
  rw [cI,bA,List.map_nil,yM,ih,MH hS hS,List.sum_append];refine oB (Int.mul_pos hS hS) hS ?_;rw [show ([a]:List Int).sum=a by simp,<-Int.add_mul,Int.mul_assoc]
def nX(f:Fr)(c:Nat):Fr:=(f.1^c,f.2^c)
theorem iK{f:Fr}(h:fB f):∀c:Nat,fB (nX f c)
 | 0=>⟨by show 0<f.2^0;rw [Int.pow_zero];decide,by show Int.gcd (f.1^0) (f.2^0)=1;rw [Int.pow_zero,Int.pow_zero];decide⟩
 | c+1=>by
  have ih:=iK h c;have k:∀n:Nat,Int.gcd f.1 (f.2^n)=1:=λn=>by
   induction n with
   | zero=>rw [Int.pow_zero];exact Int.gcd_one_right _
   | succ n ih=>rw [Int.pow_succ];exact kG ih h.low
  refine ⟨?_,?_⟩
  ·show 0<f.2^(c+1);rw [Int.pow_succ];exact Int.mul_pos ih.pos h.pos
  ·show Int.gcd (f.1^(c+1)) (f.2^(c+1))=1;have k2:∀n:Nat,Int.gcd (f.2^(c+1)) (f.1^n)=1:=λn=>by
    induction n with
    | zero=>rw [Int.pow_zero];exact Int.gcd_one_right _
    | succ n ih=>rw [show f.1^(n+1)=f.1^n*f.1 from Int.pow_succ ..];exact kG ih (by rw [Int.gcd_comm];exact k (c+1))
   rw [Int.gcd_comm];exact k2 (c+1)
def kY(zs:List (Fr × Nat)):Fr:=zs.foldl (λp q=>(p.1*q.1.1^q.2,p.2*q.1.2^q.2)) (1,1)
def iZ(zs:List (Fr × Nat)):Fr:=zs.foldl (λp q=>oY p (nX q.1 q.2)) (1,1)
theorem kX(l:List (Fr × Nat))(a:Fr × Nat):kY (l++[a])=((kY l).1*a.1.1^a.2,(kY l).2*a.1.2^a.2):=by unfold kY;rw [List.foldl_append];rfl
theorem kZ(l:List (Fr × Nat))(a:Fr × Nat):iZ (l++[a])=oY (iZ l) (nX a.1 a.2):=by unfold iZ;rw [List.foldl_append];rfl
theorem nM(l:List (Fr × Nat)):(∀z∈l,fB z.1)->0<(kY l).2:=by
 induction l using dX with
 | h0=>intro _;decide
 | hs l a ih =>
  intro h;rw [kX];exact Int.mul_pos (ih λf hf=>h f (bU _ hf)) (iK (h a (by simp)) a.2).pos
theorem vU(l:List (Fr × Nat)):(∀z∈l,fB z.1)->iZ l=lw (kY l).1 (kY l).2:=by
 induction l using dX with
 | h0=>intro _;rfl
 | hs l a ih =>
  intro h;have hl:∀f∈l,fB f.1:=λf hf=>h f (bU _ hf);have ha:=iK (h a (by simp)) a.2;rw [kZ,kX,ih hl];have e:nX a.1 a.2=lw (a.1.1^a.2) (a.1.2^a.2):=(wX ha).symm;rw [e,qW (nM l hl) (show 0<a.1.2^a.2 from ha.pos)]
theorem AT(l:List (Fr × Nat))(h:∀z∈l,fB z.1):fB (iZ l):=by rw [vU l h];exact eY (nM l h)
theorem lE{x:Int}{B:Nat}(h:x.natAbs<=2^B)(c:Nat):(x^c).natAbs<=2^(B*c):=by
 rw [Int.natAbs_pow,Nat.pow_mul];exact Nat.pow_le_pow_left h c
theorem EU{B:Nat}(l:List (Fr × Nat)):(∀z∈l,z.1.1.natAbs<=2^B/\z.1.2.natAbs<=2^B)->(kY l).1.natAbs<=2^(B*(l.map (·.2)).sum)/\(kY l).2.natAbs<=2^(B*(l.map (·.2)).sum):=by
 induction l using dX with
 | h0=>intro _;exact ⟨Nat.one_le_two_pow,Nat.one_le_two_pow⟩
 | hs l a ih =>
  intro h;obtain ⟨i1,i2⟩:=ih λf hf=>h f (bU _ hf);obtain ⟨a1,a2⟩:=h a (by simp);rw [kX,cI,List.sum_append,show ([a].map (·.2)).sum=a.2 by simp,Nat.mul_add,Nat.pow_add];exact ⟨by show ((kY l).1*a.1.1^a.2).natAbs<=_;rw [dO];exact Nat.mul_le_mul i1 (lE a1 _),by show ((kY l).2*a.1.2^a.2).natAbs<=_;rw [dO];exact Nat.mul_le_mul i2 (lE a2 _)⟩
theorem EV{B:Nat}(l:List (Fr × Nat))(hl:∀z∈l,fB z.1)(h:∀z∈l,z.1.1.natAbs<=2^B/\z.1.2.natAbs<=2^B):(iZ l).1.natAbs<=2^(B*(l.map (·.2)).sum)/\(iZ l).2.natAbs<=2^(B*(l.map (·.2)).sum):=by
 obtain ⟨h1,h2⟩:=EU l h;rw [vU l hl];have hp:=nM l hl;obtain ⟨l1,l2⟩:=CO (n:=(kY l).1) hp;have:=(eY (n:=(kY l).1) hp).pos;exact ⟨aU l2 h1,Oo⟩
end Mf
namespace Mf
def bin:Nat->Nat->Nat
 | _,0=>1
 | 0,_+1=>0
 | n+1,k+1=>bin n k+bin n (k+1)
theorem kK(n:Nat):bin n 0=1:=by cases n <;> rfl
theorem iN:∀n k:Nat,(k+1)*bin (n+1) (k+1)=(n+1)*bin n k
 | 0,0=>rfl
 | 0,k+1=>by
  show (k+2)*(bin 0 (k+1)+bin 0 (k+2))=1*bin 0 (k+1);simp [bin]
 | n+1,0=>by
  have:1*bin (n+1) 1=(n+1)*bin n 0:=iN n 0;show 1*(bin (n+1) 0+bin (n+1) 1)=(n+2)*bin (n+1) 0;rw [kK] at this;rw [kK];omega
 | n+1,k+1=>by
  have h1:=iN n k;have h2:=iN n (k+1);show (k+2)*(bin (n+1) (k+1)+bin (n+1) (k+2))=(n+2)*bin (n+1) (k+1);rw [Nat.mul_add,h2];have e:bin (n+1) (k+1)=bin n k+bin n (k+1):=rfl;have h3:(k+2)*bin (n+1) (k+1)=(k+1)*bin (n+1) (k+1)+bin (n+1) (k+1):=by rw [show k+2=k+1+1 from rfl,Nat.add_mul,Nat.one_mul]
  rw [h3,h1];have h4:(n+2)*bin (n+1) (k+1)=(n+1)*bin (n+1) (k+1)+bin (n+1) (k+1):=by rw [show n+2=n+1+1 from rfl,Nat.add_mul,Nat.one_mul]
  rw [h4,e,Nat.mul_add];omega
def fac:Nat->Nat
 | 0=>1
 | n+1=>(n+1)*fac n
theorem xP:∀n,0<fac n
 | 0=>Dd
 | n+1=>Nat.mul_pos (Nat.succ_pos n) (xP n)
theorem yB(p:Nat):∀k:Nat,bin (p+k) k*fac k*fac p=fac (p+k)
 | 0=>by rw [kK];simp [fac]
 | k+1=>by
  have ih:=yB p k;have h:=iN (p+k) k;show bin (p+k+1) (k+1)*((k+1)*fac k)*fac p=(p+k+1)*fac (p+k);rw [<-ih,show bin (p+k+1) (k+1)*((k+1)*fac k)*fac p=(k+1)*bin (p+k+1) (k+1)*(fac k*fac p) by ac_rfl,h]
  ac_rfl
def mN(cs:List Nat):Nat:=(cs.foldl (λ(p:Nat × Nat) c=>(p.1*bin (p.2+c) c,p.2+c)) (1,0)).1
theorem wW(cs:List Nat):cs.foldl (λ(p:Nat × Nat) c=>(p.1*bin (p.2+c) c,p.2+c)) (1,0)=(mN cs,cs.sum):=by
 induction cs using dX with
 | h0=>rfl
 | hs l a ih =>
  have e:(l++[a]).foldl (λ(p:Nat × Nat) c=>(p.1*bin (p.2+c) c,p.2+c)) (1,0)=(mN l*bin (l.sum+a) a,l.sum+a):=by
   rw [List.foldl_append,ih];rfl
  unfold mN;rw [e,List.sum_append];simp
theorem qY(l:List Nat)(a:Nat):mN (l++[a])=mN l*bin (l.sum+a) a:=by
 have e:=wW (l++[a]);rw [List.foldl_append,wW l] at e;exact (congrArg Prod.fst e).symm
def fp(cs:List Nat):Nat:=cs.foldr (λc p=>fac c*p) 1
theorem vF:∀cs:List Nat,0<fp cs
 | []=>Nat.one_pos
 | c::cs=>Nat.mul_pos (xP c) (vF cs)
theorem vG:∀a b:List Nat,fp (a++b)=fp a*fp b
 | [],b=>by show fp b=1*fp b;rw [Nat.one_mul]
 | x::a,b=>by
  show fac x*fp (a++b)=fac x*fp a*fp b;rw [vG a b,Nat.mul_assoc]
theorem CN(cs:List Nat):mN cs*fp cs=fac cs.sum:=by
 induction cs using dX with
 | h0=>rfl
 | hs l a ih =>
  rw [qY,vG,List.sum_append,show fp [a]=fac a from by show fac a*1=fac a;rw [Nat.mul_one]];have h:=yB l.sum a;rw [show ([a]:List Nat).sum=a by simp,<-h,<-ih]
  ac_rfl
def cnt(F:Nat)(r:List Nat):List Nat:=(List.range F).map λj=>r.count j
theorem iR(F:Nat)(r:List Nat):(cnt F r).length=F:=by simp [cnt]
theorem iS{F j:Nat}(r:List Nat)(h:j<F):(cnt F r)[j]?=some (r.count j):=by
 simp [cnt,h]
theorem tQ(F:Nat)(r:List Nat){j:Nat}(h:j<F):cnt F (r++[j])=(cnt F r).set j (r.count j+1):=by
 apply List.ext_getElem?;intro i;by_cases hi:i<F
 ·rw [iS _ hi,List.getElem?_set];by_cases e:j=i
  ·subst e;rw [if_pos rfl,if_pos (by rw [iR];exact h),List.count_append];simp
  ·rw [if_neg e,iS _ hi,List.count_append];simp [List.count_singleton,e]
 ·rw [bR (by rw [iR];omega),bR (by rw [List.length_set,iR];omega)]
theorem wE:∀(l:List Nat) (j v x:Nat),l[j]?=some x->(l.set j v).sum+x=l.sum+v
 | [],j,v,x,h=>by simp at h
 | a::l,0,v,x,h=>by
  have:a=x:=by simpa using h
  subst this;simp only [List.set_cons_zero,List.sum_cons];omega
 | a::l,j+1,v,x,h=>by
  have:=wE l j v x (by simpa using h);simp only [List.set_cons_succ,List.sum_cons];omega
theorem xV{F:Nat}(r:List Nat):(∀x∈r,x<F)->(cnt F r).sum=r.length:=by
 induction r using dX with
 | h0 =>
  intro _;have:cnt F []=List.replicate F 0:=by
   apply List.ext_getElem?;intro i;by_cases hi:i<F
   ·rw [iS _ hi];simp [hi]
   ·rw [bR (by rw [iR];omega)];simp [hi]
  rw [this];simp
 | hs l a ih =>
  intro h;have ha:=h a (by simp);have h1:=ih λx hx=>h x (bU _ hx);rw [tQ F l ha];have:=wE (cnt F l) a (l.count a+1) _ (iS l ha);rw [bC,List.length_singleton];omega
theorem HA(F:Nat):cnt F []=List.replicate F 0:=by
 apply List.ext_getElem?;intro i;by_cases hi:i<F
 ·rw [iS _ hi];simp [hi]
 ·rw [bR (by rw [iR];omega)];simp [hi]
def cta:Nat->Nat->List (List Nat)
 | 0,_=>[]
 | 1,m=>[[m]]
 | F+2,m=>(List.range (m+1)).flatMap λk=>(cta (F+1) (m-k)).map λc=>k::c
theorem kD:∀{F m:Nat}{c:List Nat},c∈cta F m->c.length=F/\c.sum=m
 | 0,m,c,h=>by cases h
 | 1,m,c,h=>by
  have:c=[m]:=by simpa [cta] using h
  subst this;simp
 | F+2,m,c,h=>by
  obtain ⟨k,hk,h⟩:=List.mem_flatMap.mp h;obtain ⟨d,hd,rfl⟩:=cP.mp h;have hk:=eM.mp hk;obtain ⟨h1,h2⟩:=kD hd;refine ⟨by simp [h1],?_⟩;rw [List.sum_cons];omega
end Mf
namespace Mf
def qE(fs:List Fr):List Int:=fs.map λf=>f.1*(whole fs/f.2)
theorem rR(fs:List Fr):(qE fs).length=fs.length:=by simp [qE]
theorem wY{f:Fr}{D:Int}(h:fB f)(hD:0<D)(hd:f.2 ∣ D):lw (f.1*(D/f.2)) D=f:=by
 obtain ⟨a,b⟩:=f;refine jB h hD ?_;obtain ⟨k,rfl⟩:=hd;have hb:b≠0:=by have:0<b:=h.pos;omega
 show a*(b*k)=a*(b*k/b)*b;rw [Int.mul_ediv_cancel_left _ hb,Int.mul_assoc,Int.mul_comm k b]
def uF(fs:List Fr)(r:List Nat):Fr:=r.foldl (λp j=>oY p (fs.getD j (0,1))) (1,1)
theorem jU(fs:List Fr)(r:List Nat)(j:Nat):uF fs (r++[j])=oY (uF fs r) (fs.getD j (0,1)):=by unfold uF;rw [List.foldl_append];rfl
def OA(xs:List Int)(r:List Nat):Int:=r.foldl (λp j=>p*xs.getD j 0) 1
theorem sN(xs:List Int)(r:List Nat)(j:Nat):OA xs (r++[j])=OA xs r*xs.getD j 0:=by unfold OA;rw [List.foldl_append];rfl
theorem DB{α β:Type}(l:List α)(g:α->β)(j:Nat)(a:α)(b:β)(h:j<l.length):(l.map g).getD j b=g (l.getD j a):=by
 simp [bD,h]
theorem kA{α:Type}(l:List α)(j:Nat)(a:α)(h:j<l.length):l.getD j a∈l:=by
 rw [bD,aE h];exact List.getElem_mem h
theorem GC{fs:List Fr}(hl:∀f∈fs,fB f){j:Nat}(hj:j<fs.length):fs.getD j (0,1)=lw ((qE fs).getD j 0) (whole fs):=by
 have hm:=kA fs j (0,1) hj;unfold qE;rw [DB fs _ j (0,1) 0 hj];exact (wY (hl _ hm) (iO fs hl) (pE fs _ hm)).symm
theorem JG{fs:List Fr}(hl:∀f∈fs,fB f)(r:List Nat):(∀x∈r,x<fs.length)->uF fs r=lw (OA (qE fs) r) (whole fs^r.length):=by
 have hD:=iO fs hl
 induction r using dX with
 | h0 =>
  intro _;show (1,1)=lw 1 (whole fs^0);rw [Int.pow_zero];exact (qZ (d:=1) Dd).symm
 | hs r j ih =>
  intro h;rw [jU,ih λx hx=>h x (bU _ hx),GC hl (h j (by simp)),qW (Int.pow_pos hD) hD,sN,bC,List.length_singleton,Int.pow_succ]
def gX(xs:List Int)(c:List Nat):Int:=(xs.zip c).foldr (λq p=>q.1^q.2*p) 1
theorem GS(x:Int)(xs:List Int)(k:Nat)(c:List Nat):gX (x::xs) (k::c)=x^k*gX xs c:=rfl
theorem DC:∀(xs:List Int) (c:List Nat) (j k:Nat) (x:Int),xs[j]?=some x->c[j]?=some k->gX xs (c.set j (k+1))=gX xs c*x
 | [],c,j,k,x,h,_=>by simp at h
 | y::xs,[],j,k,x,_,h=>by simp at h
 | y::xs,a::c,0,k,x,h1,h2=>by
  have e1:y=x:=by simpa using h1
  have e2:a=k:=by simpa using h2
  subst e1 e2;show y^(a+1)*gX xs c=y^a*gX xs c*y;rw [Int.pow_succ];ac_rfl
 | y::xs,a::c,j+1,k,x,h1,h2=>by
  have:=DC xs c j k x (by simpa using h1) (by simpa using h2);show y^a*gX xs (c.set j (k+1))=y^a*gX xs c*x;rw [this];ac_rfl
theorem xM:∀(xs:List Int) (n:Nat),gX xs (List.replicate n 0)=1
 | [],n=>by cases n <;> rfl
 | x::xs,0=>rfl
 | x::xs,n+1=>by
  rw [List.replicate_succ,GS,xM xs n,Int.pow_zero];rfl
theorem FS{F:Nat}{xs:List Int}(h:xs.length=F)(r:List Nat):(∀x∈r,x<F)->OA xs r=gX xs (cnt F r):=by
 induction r using dX with
 | h0=>intro _;rw [HA,xM];rfl
 | hs r j ih =>
  intro hr;have hj:=hr j (by simp);have hx:xs[j]?=some (xs.getD j 0):=by rw [bD,aE Oo];rfl
  rw [sN,ih λx hx=>hr x (bU _ hx),tQ F r hj,DC xs _ j _ _ hx (iS r hj)]
theorem KH{a b:Int}(hb:0<b):∀c:Nat,nX (lw a b) c=lw (a^c) (b^c):=by
 intro c;have hl:fB (lw a b):=eY hb;have h:=iK hl c;refine (jB (a:=(nX (lw a b) c).1) (b:=(nX (lw a b) c).2) h (Int.pow_pos hb) ?_).symm;have e:=fH (n:=a) (d:=b);show (lw a b).1^c*b^c=a^c*(lw a b).2^c;rw [<-Int.mul_pow,<-Int.mul_pow,e]
theorem ES{D:Int}(hD:0<D):∀(xs:List Int) (cs:List Nat),xs.length=cs.length->iZ ((xs.map λx=>lw x D).zip cs)=lw (gX xs cs) (D^cs.sum):=by
 have key:∀(zs:List (Int × Nat)),iZ (zs.map λz=>(lw z.1 D,z.2))=lw (zs.foldr (λq p=>q.1^q.2*p) 1) (D^(zs.map (·.2)).sum):=by
  intro zs
  induction zs using dX with
  | h0 =>
   show (1,1)=lw 1 (D^0);rw [Int.pow_zero];exact (qZ (d:=1) Dd).symm
  | hs zs z ih =>
   rw [cI,cI,List.sum_append];show iZ (zs.map (λz=>(lw z.1 D,z.2))++[(lw z.1 D,z.2)])=_;rw [kZ,ih];show oY _ (nX (lw z.1 D) z.2)=_;rw [KH hD,qW (Int.pow_pos hD) (Int.pow_pos hD),<-Int.pow_add];have e:∀(l:List (Int × Nat)) (y:Int),l.foldr (λq p=>q.1^q.2*p) y=l.foldr (λq p=>q.1^q.2*p) 1*y:=by
    intro l y
    induction l with
    | nil=>show y=1*y;omega
    | cons a l ih=>show a.1^a.2*_=a.1^a.2*_*y;rw [ih,Int.mul_assoc]
   rw [List.foldr_append,e zs ([z].foldr (λq p=>q.1^q.2*p) 1)];show lw _ _=lw (_*(z.1^z.2*1)) (D^(_+([z].map (·.2)).sum));rw [Int.mul_one];simp
 intro xs cs hl;have e1:(xs.map λx=>lw x D).zip cs=(xs.zip cs).map λz=>(lw z.1 D,z.2):=by
  rw [List.zip_map_left];rfl
 have e2:(xs.zip cs).map (·.2)=cs:=List.map_snd_zip Oo;rw [e1,key,e2];rfl
theorem OX{fs:List Fr}(hl:∀f∈fs,fB f):(qE fs).map (λx=>lw x (whole fs))=fs:=by
 unfold qE;rw [List.map_map]
 conv=>rhs;rw [<-List.map_id fs]
 refine List.map_congr_left λf hf=>?_;exact wY (hl f hf) (iO fs hl) (pE fs f hf)
theorem IX{fs:List Fr}(hl:∀f∈fs,fB f){cs:List Nat}(h:fs.length=cs.length):iZ (fs.zip cs)=lw (gX (qE fs) cs) (whole fs^cs.sum):=by
 have:=ES (iO fs hl) (qE fs) cs (by rw [rR,h])
 rwa [OX hl] at this
end Mf
namespace L2
open PySem PySem.Spec PyProof.Rows
theorem eR.u1{k:Nat}{A:Around}(r:eR k A):A.units+1<cLine:=by have:=r.units;omega
@[irreducible] def PV:R2:=λx y H Q=>∃a v,x=.ref a/\kQ H a y (some v)/\Q v H
@[irreducible] def PU(D:mS)(σ:St)(x y v:V)(H:Hp):Prop:=∃a H4,x=.ref a/\AJ H a y v H4/\D.nx σ H4
def HS(td ty tv:TE):TS:=λD σ H=>tv σ H λv H1=>td σ H1 λx H2=>ty σ H2 λy H3=>PU D σ x y v H3
section
variable{X:Cx}{o i value k v:Expr}{td ty tv tk:TE}{pos pos':Pos}{ks:List (Option Expr)}{vs:List Expr}{trs:List (TE × TE)}
theorem vX(hu:X.A.units+1<cLine)(ho:eU X o td)(hi:eU X i ty)(hs:MN i:=by intro _ _;rfl):eU X (.Subscript o i pos) (EY PV td ty):=⟨by unfold PV;exact FX hu ho.p hi.p hs⟩
theorem EQ(hu:X.A.units+1<cLine)(ho:eU X o td)(hi:eU X i ty)(hv:eU X value tv)(hs:swapsWith value (some (.Subscript o i pos')) pos.line X.env=pure false:=by rfl) :
  AH X (.Assign [.Subscript o i pos'] value pos) (HS td ty tv):=⟨by unfold HS PU;exact FR hu ho.p hi.p hv.p hs⟩
end
section
variable{σ:St}{js:List Nat}{te:TE}{H:Hp}{Q:VK}
end
end L2
namespace HT
open PySem PySem.W PyProof.Rows
def bX{α:Type}(n:Nat)(lt:Nat->Nat->Bool)(R:α->Prop):KasT α->Prop
 | .ret a=>R a
 | .ask i j k=>i<n/\j<n/\bX n lt R (k (lt i j))
section
variable{n:Nat}{lt:Nat->Nat->Bool}
theorem bX.bind{α β:Type}{R:α->Prop}{S:β->Prop}{f:α->KasT β}:∀{t:KasT α},bX n lt R t->(∀a,R a->bX n lt S (f a))->bX n lt S (t.bind f)
 | .ret a,h,k=>k a h
 | .ask i j t,⟨h1,h2,h3⟩,k=>⟨h1,h2,bX.bind (t:=t (lt i j)) h3 k⟩
theorem bX.wp{α:Type}{R:α->Prop}{cmp:Nat->Nat->(Bool->Shared->Prop)->Shared->Prop}{Q:α->Shared->Prop}{s:Shared}(hc:∀i j C,i<n->j<n->C (lt i j) s->cmp i j C s)(q:∀a,R a->Q a s) :
  ∀{t:KasT α},bX n lt R t->t.kasWp cmp Q s
 | .ret a,h=>q a h
 | .ask i j t,⟨h1,h2,h3⟩=>hc i j _ h1 h2 (bX.wp (t:=t (lt i j)) hc q h3)
def cZ(n:Nat)(p:Array Nat):Prop:=p.Perm (List.toArray (List.range n))
theorem cZ.bd{p:Array Nat}(g:cZ n p)(hn:0<n)(i:Nat):p.getD i 0<n:=by
 by_cases hi:i<p.size
 ·have e:p.getD i 0=p[i]:=by simp [Array.getD,hi]
  rw [e];have m:p[i]∈List.toArray (List.range n):=(Array.Perm.mem_iff g).mp (Array.getElem_mem hi);simpa using m
 ·have e:p.getD i 0=0:=by simp [Array.getD,hi]
  rw [e];exact hn
theorem cZ.rev{p:Array Nat}(g:cZ n p)(i j:Nat):cZ n (kas_rev p i j):=(mirror_perm p i j _).trans g
theorem cZ.bub{p:Array Nat}(g:cZ n p)(i j:Nat):cZ n (bubble p i j):=(bubble_perm p i j).trans g
theorem rN{p:Array Nat}(g:cZ n p)(hn:0<n):∀(f m:Nat),bX n lt (λ_=>True) (kas_asc p f m)
 | 0,m=>True.intro
 | f+1,m=>⟨g.bd hn _,g.bd hn _,by
  cases lt (p.getD m 0) (p.getD (m-1) 0) with
  | true=>exact True.intro
  | false=>exact rN g hn f (m+1)⟩
theorem kM(hn:0<n):∀(f:Nat) {p:Array Nat}(g:cZ n p) (m q:Nat),bX n lt (λr=>cZ n r.1) (kas_desc f p m q)
 | 0,p,g,m,q=>g
 | f+1,p,g,m,q=>by
  refine ⟨g.bd hn _,g.bd hn _,?_⟩;cases lt (p.getD m 0) (p.getD (m-1) 0) with
  | true =>
   show bX n lt _ (if q > 0 then _ else _);split
   ·exact kM hn f (g.rev _ _) _ _
   ·exact kM hn f g _ _
  | false =>
   refine ⟨g.bd hn _,g.bd hn _,?_⟩;cases lt (p.getD (m-1) 0) (p.getD m 0) with
   | true=>exact g
   | false=>exact kM hn f g _ _
theorem qA{p:Array Nat}(g:cZ n p)(hn:0<n)(m r:Nat):bX n lt (λr=>cZ n r.2) (kas_tail3 m r p):=by
 unfold kas_tail3;exact (rN (g.rev 0 m) hn _ _).bind λ_ _=>g.rev 0 m
theorem kL{p:Array Nat}(g:cZ n p)(hn:0<n)(m r:Nat):bX n lt (λr=>cZ n r.2) (kas_descPart m r p):=by
 unfold kas_descPart;refine (kM hn _ g _ _).bind λr hr=>?_;split
 ·exact qA (cZ.rev hr _ _) hn _ _
 ·exact qA hr hn _ _
theorem AG{p:Array Nat}(g:cZ n p)(hn:0<n)(m:Nat):bX n lt (λr=>cZ n r.2) (kas_count m p):=by
 unfold kas_count;refine (rN g hn _ _).bind λk _=>?_;split
 ·exact g
 ·split
  ·refine ⟨g.bd hn _,g.bd hn _,?_⟩;cases lt (p.getD 0 0) (p.getD (k-1) 0) with
   | true=>exact g
   | false=>exact kL (g.rev _ _) hn _ _
  ·exact kL g hn _ _
theorem lX{p:Array Nat}(g:cZ n p)(hn:0<n)(k:Nat):∀(f l r:Nat),bX n lt (λ_=>True) (kas_place p k f l r)
 | 0,l,r=>True.intro
 | f+1,l,r=>by
  unfold kas_place;split
  ·exact True.intro
  ·refine ⟨g.bd hn _,g.bd hn _,?_⟩;cases lt (p.getD k 0) (p.getD ((l+r)/2) 0) with
   | true=>exact lX g hn k f _ _
   | false=>exact lX g hn k f _ _
theorem yC(hn:0<n):∀(f:Nat) {p:Array Nat}(g:cZ n p) (k:Nat),bX n lt (cZ n) (kas_bin f p k)
 | 0,p,g,k=>g
 | f+1,p,g,k=>by
  unfold kas_bin;exact (lX g hn k _ _ _).bind λl _=>yC hn f (g.bub _ _) _
theorem EA(hn:0<n):bX n lt (cZ n) (kas_sort n):=by
 unfold kas_sort;refine (AG (Array.Perm.refl _) hn n).bind λr hr=>?_;split
 ·exact yC hn _ hr _
 ·exact hr
end
structure oU(n:Nat)(lt:Nat->Nat->Bool):Prop where
 tot:∀i j,i<n->j<n->i≠j->lt i j=false->lt j i=true
 tra:∀i j k,lt i j=true->lt j k=true->lt i k=true
def mC(lt:Nat->Nat->Bool)(p:Array Nat)(m:Nat):Prop:=∀a b,a<b->b<m->lt (p.getD a 0) (p.getD b 0)=true
def IR(lt:Nat->Nat->Bool)(p:Array Nat)(m:Nat):Prop:=∀a b,a<b->b<m->lt (p.getD b 0) (p.getD a 0)=true
section
variable{n:Nat}{lt:Nat->Nat->Bool}
theorem bX.mono{α:Type}{R S:α->Prop}(k:∀a,R a->S a):∀{t:KasT α},bX n lt R t->bX n lt S t
 | .ret a,h=>k a h
 | .ask i j t,⟨h1,h2,h3⟩=>⟨h1,h2,bX.mono k (t:=t (lt i j)) h3⟩
theorem cZ.size{p:Array Nat}(g:cZ n p):p.size=n:=by
 have:=(Array.perm_iff_toList_perm.mp g).length_eq;simpa using this
theorem cZ.ne{p:Array Nat}(g:cZ n p){i j:Nat}(hi:i<n)(hj:j<n)(h:i≠j):p.getD i 0≠p.getD j 0:=by
 have hn:p.toList.Nodup:=(Array.perm_iff_toList_perm.mp g).nodup_iff.mpr (by simpa using List.nodup_range);have hs:=g.size;have e1:p.getD i 0=p.toList[i]'(by simpa [hs] using hi):=by simp [Array.getD,hs,hi]
 have e2:p.getD j 0=p.toList[j]'(by simpa [hs] using hj):=by simp [Array.getD,hs,hj]
 rw [e1,e2];intro e;exact h ((List.getElem_inj hn).mp e)
theorem mC.one{p:Array Nat}:mC lt p 1:=λa b h1 h2=>Oo
theorem mC.more(O:oU n lt){p:Array Nat}(g:cZ n p){m:Nat}(h:mC lt p m)(h1:1<=m)(hm:m<n)(e:lt (p.getD m 0) (p.getD (m-1) 0)=false):mC lt p (m+1):=λa b hab hb=>by
 by_cases q:b<m
 ·exact h a b hab q
 ·have e':b=m:=Oo;subst e';have l1:lt (p.getD (b-1) 0) (p.getD b 0)=true:=O.tot _ _ (g.bd Oo _) (g.bd Oo _) (g.ne Oo Oo Oo) e;by_cases r:a=b-1
  ·rw [r];exact l1
  ·exact O.tra _ _ _ (h a (b-1) Oo Oo) l1
theorem rK(O:oU n lt){p:Array Nat}(g:cZ n p):∀(f m:Nat),1<=m->m+f<=n->mC lt p m->bX n lt (λk=>m<=k/\k<=m+f/\mC lt p k/\(k<m+f->lt (p.getD k 0) (p.getD (k-1) 0)=true)) (kas_asc p f m)
 | 0,m,_,_,h=>⟨aC _,aC _,h,λq=>Oo⟩
 | f+1,m,h1,hm,h=>by
  refine ⟨g.bd Oo _,g.bd Oo _,?_⟩;cases e:lt (p.getD m 0) (p.getD (m-1) 0) with
  | true=>exact ⟨aC _,Oo,h,λ_=>e⟩
  | false =>
   refine (show bX n lt _ (kas_asc p f (m+1)) from ?_);have ih:=rK O g f (m+1) Oo Oo (h.more O g h1 Oo e);exact bX.mono (λk ⟨a1,a2,a3,a4⟩=>⟨Oo,Oo,a3,λq=>a4 Oo⟩) ih
theorem IR.more(O:oU n lt){p:Array Nat}{m:Nat}(h:IR lt p m)(h1:1<=m)(e:lt (p.getD m 0) (p.getD (m-1) 0)=true):IR lt p (m+1):=λa b hab hb=>by
 by_cases q:b<m
 ·exact h a b hab q
 ·have e':b=m:=Oo;subst e';by_cases r:a=b-1
  ·rw [r];exact e
  ·exact O.tra _ _ _ e (h a (b-1) Oo Oo)
theorem tM(O:oU n lt){p:Array Nat}(g:cZ n p):∀(f m:Nat),1<=m->m+f<=n->IR lt p m->bX n lt (λr=>r.1=p/\r.2.2=0/\m<=r.2.1/\r.2.1<=m+f/\IR lt p r.2.1) (kas_desc f p m 0)
 | 0,m,_,_,h=>⟨rfl,rfl,aC _,aC _,h⟩
 | f+1,m,h1,hm,h=>by
  refine ⟨g.bd Oo _,g.bd Oo _,?_⟩;cases e:lt (p.getD m 0) (p.getD (m-1) 0) with
  | true =>
   refine (show bX n lt _ (kas_desc f p (m+1) 0) from ?_);exact bX.mono (λr ⟨a1,a2,a3,a4,a5⟩=>⟨a1,a2,Oo,Oo,a5⟩) (tM O g f (m+1) Oo Oo (h.more O h1 e))
  | false =>
   refine ⟨g.bd Oo _,g.bd Oo _,?_⟩;rw [O.tot _ _ (g.bd Oo _) (g.bd Oo _) (g.ne Oo Oo Oo) e];exact ⟨rfl,rfl,aC _,(show m<=m+(f+1) by omega),h⟩
theorem BT{p:Array Nat}{m i:Nat}(hm:m<=p.size):(kas_rev p 0 m).getD i 0=if i<m then p.getD (m-1-i) 0 else p.getD i 0:=by
 have e:=getElem?_mirror (xs:=p) (i:=0) (j:=m) hm (m/2) Oo i;have e':(kas_rev p 0 m)[i]?=if (0<=i/\i<0+m/2)\/(m-m/2<=i/\i<m) then p[0+m-1-i]? else p[i]?:=e
 have g:∀(q:Array Nat) (k:Nat),q.getD k 0=q[k]?.getD 0:=λq k=>by simp [Array.getD_eq_getD_getElem?]
 rw [g,e',g,g];by_cases h:i<m
 ·rw [if_pos h];by_cases h2:(0<=i/\i<0+m/2)\/(m-m/2<=i/\i<m)
  ·rw [if_pos h2,show 0+m-1-i=m-1-i by omega]
  ·rw [if_neg h2,show m-1-i=i by omega]
 ·rw [if_neg h,if_neg Oo]
theorem IR.rev{p:Array Nat}{m:Nat}(h:IR lt p m)(hm:m<=p.size):mC lt (kas_rev p 0 m) m:=λa b hab hb=>by
 rw [BT hm,BT hm,if_pos Oo,if_pos hb];exact h _ _ Oo Oo
theorem zX(O:oU n lt){p:Array Nat}(g:cZ n p)(hn:2<=n):bX n lt (λr=>cZ n r.2/\1<=r.1/\r.1<=n/\mC lt r.2 r.1) (kas_count n p):=by
 unfold kas_count;refine (rK O g (n-1) 1 (aC _) Oo mC.one).bind λk ⟨k1,k2,k3,k4⟩=>?_;split
 ·exact ⟨g,k1,by show k<=n;omega,k3⟩
 ·rename_i hk
  have hkn:k≠n:=λe=>hk (by simp [e]);split
  ·refine ⟨g.bd Oo _,g.bd Oo _,?_⟩;rw [k3 0 (k-1) Oo Oo];exact ⟨g,k1,by show k<=n;omega,k3⟩
  ·have e1:k=1:=Oo;subst e1;unfold kas_descPart;have d2:IR lt p 2:=λa b hab hb=>by
    have e:a=0/\b=1:=Oo;rw [e.1,e.2];exact k4 Oo
   refine (tM O g (n-2) 2 Oo Oo d2).bind λr ⟨r1,r2,r3,r4,r5⟩=>?_;obtain ⟨p',m,q⟩:=r;dsimp only at r1 r2 r3 r4 r5 ⊢;subst r1 r2;rw [if_neg Dd];unfold kas_tail3;have hs:=g.size;refine (rK O (g.rev 0 m) (n-m) m Oo Oo (r5.rev Oo)).bind λk' ⟨a1,a2,a3,_⟩=>?_;exact ⟨g.rev 0 m,(show 1<=k' by omega),(show k'<=n by omega),a3⟩
theorem lG(O:oU n lt){p:Array Nat}(g:cZ n p){k:Nat}(hk:k<n)(h:mC lt p k):∀(f l r:Nat),l<=r->r<=k->r-l<=f->(∀a,a<l->lt (p.getD a 0) (p.getD k 0)=true)->(∀a,r<=a->a<k->lt (p.getD k 0) (p.getD a 0)=true) ->
  bX n lt (λm=>m<=k/\(∀a,a<m->lt (p.getD a 0) (p.getD k 0)=true)/\∀a,m<=a->a<k->lt (p.getD k 0) (p.getD a 0)=true) (kas_place p k f l r)
 | 0,l,r,h1,h2,h3,h4,h5=>⟨Oo,h4,λa q1 q2=>h5 a Oo q2⟩
 | f+1,l,r,h1,h2,h3,h4,h5=>by
  unfold kas_place;split
  ·exact ⟨Oo,h4,λa q1 q2=>h5 a Oo q2⟩
  ·refine ⟨g.bd Oo _,g.bd Oo _,?_⟩;cases e:lt (p.getD k 0) (p.getD ((l+r)/2) 0) with
   | true =>
    refine (show bX n lt _ (kas_place p k f l ((l+r)/2)) from ?_);refine lG O g hk h f l ((l+r)/2) Oo Oo Oo h4 λa q1 q2=>?_;by_cases q:a=(l+r)/2
    ·rw [q];exact e
    ·exact O.tra _ _ _ e (h _ _ Oo q2)
   | false =>
    refine (show bX n lt _ (kas_place p k f ((l+r)/2+1) r) from ?_);have e2:=O.tot _ _ (g.bd Oo _) (g.bd Oo _) (g.ne hk Oo Oo) e;refine lG O g hk h f ((l+r)/2+1) r Oo Oo Oo (λa q1=>?_) h5;by_cases q:a=(l+r)/2
    ·rw [q];exact e2
    ·exact O.tra _ _ _ (h a ((l+r)/2) Oo Oo) e2
theorem vN{p:Array Nat}{k m i:Nat}(hk:k<p.size)(hm:m<=k):(bubble p k (k-m)).getD i 0=if i=m then p.getD k 0 else if m<i/\i<=k then p.getD (i-1) 0 else p.getD i 0:=by
 have e:=getElem?_bubble (xs:=p) hk (k-m) Oo i;have g:∀(q:Array Nat) (k:Nat),q.getD k 0=q[k]?.getD 0:=λq k=>by simp [Array.getD_eq_getD_getElem?]
 rw [g,e,g,g,g,show k-(k-m)=m by omega];by_cases h:i=m
 ·rw [if_pos h,if_pos h]
 ·rw [if_neg h,if_neg h];by_cases h2:m<i/\i<=k
  ·rw [if_pos h2,if_pos h2]
  ·rw [if_neg h2,if_neg h2]
theorem yA(O:oU n lt):∀(f:Nat) {p:Array Nat}(g:cZ n p) (k:Nat),k+f=n->mC lt p k->bX n lt (λp=>cZ n p/\mC lt p n) (kas_bin f p k)
 | 0,p,g,k,hk,h=>⟨g,by rw [<-hk];exact h⟩
 | f+1,p,g,k,hk,h=>by
  unfold kas_bin;refine (lG O g Oo h k 0 k Oo Oo Oo (λa q=>Oo) (λa q1 q2=>Oo)).bind λm ⟨m1,m2,m3⟩=>?_;have hs:=g.size;refine yA O f (g.bub _ _) (k+1) Oo λa b hab hb=>?_;rw [vN Oo m1,vN Oo m1];by_cases ha:a=m
  ·rw [if_pos ha,if_neg Oo,if_pos Oo];exact m3 _ Oo Oo
  ·rw [if_neg ha];by_cases hb':b=m
   ·rw [if_pos hb',if_neg Oo];exact m2 a Oo
   ·rw [if_neg hb'];by_cases q1:m<a/\a<=k
    ·rw [if_pos q1,if_pos Oo];exact h _ _ Oo Oo
    ·rw [if_neg q1];by_cases q2:m<b/\b<=k
     ·rw [if_pos q2];exact h _ _ Oo Oo
     ·rw [if_neg q2];exact h _ _ hab Oo
theorem BL(O:oU n lt)(hn:2<=n):bX n lt (λp=>cZ n p/\mC lt p n) (kas_sort n):=by
 unfold kas_sort;refine (zX O (Array.Perm.refl _) hn).bind λr ⟨h1,h2,h3,h4⟩=>?_;split
 ·rename_i q
  rw [Nat.max_eq_left h2];exact yA O _ h1 _ Oo h4
 ·rename_i q
  have e:r.1=n:=Oo;exact ⟨h1,e ▸ h4⟩
end
end HT
namespace L2
open PySem PySem.Spec PySem.W PyProof.Rows HT
theorem BA{x:V}{xs:List V}{us:List Value}(r:bW (x::xs) us):∃u us',us=u::us'/\cB x u/\bW xs us':=by
 cases r with
 | cons h t=>exact ⟨_,_,rfl,h,t⟩
def LB(fin:Bool):List Int->List Int->Bool
 | x::a,y::b=>if x=y then LB fin a b else decide (x<y)
 | _,_=>fin
def fW(a b:List Int):Bool:=LB (decide (a.length<b.length)) a b
theorem jX(a:List Int):fW a []=false:=by
 unfold fW;cases a <;> rfl
theorem mX(y:Int)(b:List Int):fW [] (y::b)=true:=by unfold fW;rfl
theorem jY(x y:Int)(a b:List Int):fW (x::a) (y::b)=if x=y then fW a b else decide (x<y):=by
 show (if x=y then LB (decide ((x::a).length<(y::b).length)) a b else decide (x<y))=_;rw [bI,bI,show decide (a.length+1<b.length+1)=decide (a.length<b.length) by simp]
 rfl
theorem wZ:∀{a b:List Int},a≠b->fW a b=false->fW b a=true
 | [],[],h,_=>absurd rfl h
 | [],y::b,_,e=>by rw [mX] at e;cases e
 | x::a,[],_,_=>mX _ _
 | x::a,y::b,h,e=>by
  rw [jY] at e ⊢;by_cases q:x=y
  ·subst q;rw [if_pos rfl] at e ⊢;exact wZ (λz=>h (by rw [z])) e
  ·rw [if_neg q] at e;rw [if_neg (Ne.symm q)];have:=of_decide_eq_false e;exact bN Oo
theorem rC:∀{a b c:List Int},fW a b=true->fW b c=true->fW a c=true
 | a,b,[],_,h=>by rw [jX] at h;cases h
 | [],b,z::c,_,_=>mX _ _
 | x::a,[],z::c,h,_=>by rw [jX] at h;cases h
 | x::a,y::b,z::c,h1,h2=>by
  rw [jY] at h1 h2 ⊢;by_cases q1:x=y
  ·subst q1;rw [if_pos rfl] at h1;by_cases q2:x=z
   ·subst q2;rw [if_pos rfl] at h2 ⊢;exact rC h1 h2
   ·rw [if_neg q2] at h2 ⊢;exact h2
  ·rw [if_neg q1] at h1;have h1:=of_decide_eq_true h1;by_cases q2:y=z
   ·subst q2;rw [if_neg q1];exact bN h1
   ·rw [if_neg q2] at h2;have h2:=of_decide_eq_true h2;rw [if_neg Oo];exact bN Oo
theorem jW{a:List Int}:fW a a=false:=by
 induction a with
 | nil=>exact jX _
 | cons x a ih=>rw [jY,if_pos rfl];exact ih
theorem sX:∀{l m:List (List Int)},l.Pairwise (λa b=>fW a b=true)->m.Pairwise (λa b=>fW a b=true)->(∀x,x∈l↔x∈m)->l=m
 | [],[],_,_,_=>rfl
 | [],y::m,_,_,h=>by have:=(h y).mpr (aG ..);cases this
 | x::l,[],_,_,h=>by have:=(h x).mp (aG ..);cases this
 | x::l,y::m,h1,h2,h=>by
  obtain ⟨a1,a2⟩:=List.pairwise_cons.mp h1;obtain ⟨b1,b2⟩:=List.pairwise_cons.mp h2;have e:x=y:=by
   rcases aP.mp ((h x).mp (aG ..)) with q | q
   ·exact q
   ·rcases aP.mp ((h y).mpr (aG ..)) with r | r
    ·exact r.symm
    ·have:=rC (b1 x q) (a1 y r);rw [jW] at this;cases this
  subst e;rw [sX a2 b2 λz=>?_];constructor
  ·intro q;rcases aP.mp ((h z).mp (aD _ q)) with r | r
   ·subst r;have:=a1 z q;rw [jW] at this;cases this
   ·exact r
  ·intro q;rcases aP.mp ((h z).mpr (aD _ q)) with r | r
   ·subst r;have:=b1 z q;rw [jW] at this;cases this
   ·exact r
abbrev jV(cs:List (List Int)):Nat->Nat->Bool:=λi j=>fW (cs.getD i []) (cs.getD j [])
theorem KQ{cs:List (List Int)}(h:cs.Nodup):oU cs.length (jV cs):=⟨λi j hi hj ne e=>wZ (λz=>by
  have e1:cs.getD i []=cs[i]:=by simp [hi]
  have e2:cs.getD j []=cs[j]:=by simp [hj]
  rw [e1,e2] at z;exact ne ((List.getElem_inj h).mp z)) e,λi j k h1 h2=>rC h1 h2⟩
section
variable{prog:Program}{w:World}{A:Around}{E:Value->Shared->Prop}{s:Shared}{Q:Bool->Shared->Prop}
theorem BN{n:Nat}{lt:Nat->Nat->Bool}(hn:2<=n):bX n lt (λp=>cZ n p/\(oU n lt->mC lt p n)) (kas_sort n):=by
 by_cases O:oU n lt
 ·exact bX.mono (λp h=>⟨h.1,λ_=>h.2⟩) (BL O hn)
 ·exact bX.mono (λp h=>⟨h,λz=>absurd z O⟩) (EA Oo)
end
theorem wA{ys:List V}{us:List Value}(v:bW ys us):∀ix:List Nat,(∀i∈ix,i<ys.length)->bW (ix.map λi=>ys.getD i .non) (ix.map λi=>us.getD i Value.none)
 | [],_=>.nil
 | i::ix,h=>by
  have hi:=h i (aG ..);obtain ⟨u,hu,ru⟩:=v.get (i:=i) (x:=ys[i]) (by simp [hi]);refine .cons ?_ (wA v ix λj hj=>h j (aD _ hj));have e1:ys.getD i .non=ys[i]:=by simp [hi]
  have e2:us.getD i Value.none=u:=by rw [bD,hu];rfl
  show cB (ys.getD i .non) (us.getD i Value.none);rw [e1,e2];exact ru
abbrev cD(c:List Int):PyData:=.tuple (c.map .int)
theorem RK(x y:Int):PyData.eqv (.int x) (.int y)=decide (x=y):=by
 show (x == y)=_;rw [Bool.beq_eq_decide_eq]
theorem IK:∀a b:List Int,PyData.eqvAll (a.map PyData.int) (b.map PyData.int)=decide (a=b)
 | [],[]=>by simp [PyData.eqvAll]
 | [],_::_=>by simp [PyData.eqvAll]
 | _::_,[]=>by simp [PyData.eqvAll]
 | x::a,y::b=>by
  have ih:=IK a b;rw [bA,bA];show (PyData.eqv (.int x) (.int y)&&PyData.eqvAll _ _)=_;rw [ih,RK];by_cases h:x=y <;> by_cases h':a=b <;> simp [h,h']
theorem RL(a b:List Int):PyData.eqv (cD a) (cD b)=decide (a=b):=IK a b
theorem CQ:∀a:List Int,PyData.canLayAll0 (a.map PyData.int)=true
 | []=>rfl
 | x::a=>by
  show (PyData.canLay0 (.int x)&&PyData.canLayAll0 (a.map PyData.int))=true;rw [CQ a];rfl
theorem IL:∀a:List Int,PyData.depthAll (a.map PyData.int)<=1
 | []=>by show 0<=1;omega
 | x::a=>by
  have:=IL a;show max (PyData.depth (.int x)) (PyData.depthAll (a.map PyData.int))<=1;have:PyData.depth (.int x)<=1:=by simp [PyData.depth]
  omega
theorem ME{H:Hp}{c:List Int}{v:V}(h:cK H (cD c) v):∃a,v=.ref a/\H a=some (.tup (c.map V.int)):=by
 unfold cK at h;obtain ⟨a,xs,rfl,h1,h2⟩:=h;have hx:xs=c.map V.int:=by
  clear h1
  induction c generalizing xs with
  | nil=>unfold aY at h2;exact h2
  | cons z c ih =>
   rw [bA] at h2;unfold aY at h2;obtain ⟨x,xs',rfl,h3,h4⟩:=h2;cases (show x=V.int z from h3);rw [ih _ h4];rfl
 subst hx;exact ⟨a,rfl,h1⟩
open Classical in
section
variable{X:Cx}{pins:List (Addr × Obj)}{σ:St}{H:Hp}{s:Shared}
end
section
variable{X:Cx}
end
end L2
namespace L2
open PySem PySem.Spec PyProof.Rows
section
variable{X:Cx}{pins:List (Addr × Obj)}{σ:St}{H:Hp}{s:Shared}{scope:Scope}{xs:List Str}{N':List Str}{js:List Nat}{fp:List Addr}
end
section
variable{X:Cx}{pins:List (Addr × Obj)}{σ:St}{H:Hp}{s:Shared}{scope:Scope}{xs:List Str}{N':List Str}{js:List Nat}{fp:List Addr}{elt iter:Expr}{px pos:Pos}{tg:Expr}{ifs:List Expr}{tc:TT}{te:TE}
end
section
variable{X:Cx}{scope:Scope}{x1 x2 x3 y:Str}{N':List Str}{js:List Nat}{elt iter tg:Expr}{ifs:List Expr}{py pos spos:Pos}{tc:TT}{te:TE}{wi:TI}{i:Nat}
end
section
variable{js:List Nat}{te:TE}{tc:TT}{σ:St}{H:Hp}{Q:VK}
end
end L2
namespace L2
open PySem
section
variable{js:List Nat}{te:TE}{σ:St}{H:Hp}{Q:VK}
end
section
variable{X:Cx}{scope:Scope}{x1 x2 x3 y:Str}{N':List Str}{js:List Nat}{elt iter tg:Expr}{ifs:List Expr}{py pos spos:Pos}{tc:TT}{te:TE}{wi wj:TI}{i:Nat}
end
end L2
namespace HT
open PySem PySem.Spec PyProof.Rows PySem.Builtin
section
variable{prog:Program}{w:World}{A:Around}{E:Value->Shared->Prop}{s:Shared}
end
section
variable{prog:Program}{w:World}{A:Around}{E:Value->Shared->Prop}{s:Shared}{K:Type}[DecidableEq K]{knd:HeapKind prog w K}
end
end HT
namespace L2
open PySem PySem.Spec PySem.W PyProof.Rows HT
section
variable{X:Cx}{pins:List (Addr × Obj)}{σ:St}{H:Hp}
theorem KT.isAll{P:Program}{w:World}{H:Hp}{h:Heap}(ok:iC P w H h){l:List (List dJ × V)}{m:List (List dJ × Addr × Value)}(q:KT H l m):∀x∈m,(tupleKind (cH P w)).is h x.1 x.2.1:=by
 unfold KT at q
 induction q with
 | nil=>intro x hx;exact nomatch hx
 | @cons p q ps qs hq t ih =>
  intro x hx;rcases aP.mp hx with e | hx
  ·subst e;exact lK ok (by rw [<-hq.1];exact hq.2.1)
  ·exact ih x hx
end
end L2
namespace HT
open PySem PySem.Spec PyProof.Rows
section
variable{prog:Program}{w:World}{A:Around}{E:Value->Shared->Prop}{s:Shared}{it d:Addr}{es:Array DictEntry}{ep i:Nat}{od:Obj}
theorem xC{Q:Option Value->Shared->Prop}(hit:s.heap.IsKeyIter it d i es.size ep)(hod:s.heap.get? d=some od)(hdd:od.data=.dict es ep)(hi:i<es.size)
  (h:∀h',h'.IsKeyIter it d (i+1) es.size ep->Heap.SameBut it s.heap h'->Q (some es[i].key) { s with heap:=h' }):wpAny (model prog w) A (pyNext (.ref it)) Q E s:=by
 obtain ⟨⟨c0,dd0,data0,sl0⟩,ho,hc,hd⟩:=id hit;simp only at hc hd;subst hc hd;have hT:=hit.typeIs;unfold pyNext;refine wpAny_bind (wpAny_attempt (wpAny_callSpecial?_slot (name:=Str.ofString "__next__") hT F.slot_dict_keyiterator_next (wpAny_call_entry F.slot_dict_keyiterator_next hT F.entry_dict_keyiterator_next ?_ (F.args_dict_keyiterator_next_1 _))));have hn:(Value.ref d == Value.none)=false:=rfl;have hown:Builtin.Dict_items.ownsTuple "dict_keyiterator" = false:=Dd
 repeat (any_goals (first | assumption | (with_reducible refine wpAny_typeNameOfWhole_keyiter hT ?_) | (with_reducible refine wpAny_isOneOf_keyiter hT ?_) | (with_reducible refine wpAny_fieldsOf ho rfl ?_) | (with_reducible refine wpAny_dictEntries hod hdd ?_) | (with_reducible refine wpAny_dictEpoch hod hdd ?_) | wp_step))
 rw [if_neg (show ¬((i:Int)<0) by omega),Int.toNat_natCast,Array.getElem?_eq_getElem hi];have hit':(s.heap.update it (Obj.mapFields (·.setIfInBounds 1 (rawInt ((i:Int)+1))))).IsKeyIter it d (i+1) es.size ep :=
  ⟨_,Heap.get?_update_self _ ho (Obj.isFreed_of_fields (Obj.data_mapFields rfl _)),(Obj.cls_mapFields ..).trans rfl,by rw [Obj.data_mapFields rfl];simp [rawInt]⟩
 have hT':({ s with heap:=s.heap.update it (Obj.mapFields (·.setIfInBounds 1 (rawInt ((i:Int)+1)))) }:Shared).TypeIs (.ref it) "dict_keyiterator" := hit'.typeIs;have hfin:=h _ hit' (Heap.SameBut.update ..)
 repeat (any_goals (first | assumption | (with_reducible refine wpAny_typeNameOfWhole_keyiter hT ?_) | (with_reducible refine wpAny_isOneOf_keyiter hT ?_) | (with_reducible refine wpAny_isOneOf_keyiter hT' ?_) | (with_reducible refine wpAny_setField ho rfl (by rw [hown];simp) ?_) | wp_step))
 exact ⟨_,rfl,wpAny_pure hfin⟩
theorem CW{Q:Option Value->Shared->Prop}(hh:A.handled=none)(hit:s.heap.IsKeyIter it d i es.size ep)(hod:s.heap.get? d=some od)(hdd:od.data=.dict es ep)(hi:es.size<=i)
  (h:∀h',Heap.ExtBut it s.heap h'->Q none { s with heap:=h' }):wpAny (model prog w) A (pyNext (.ref it)) Q E s:=by
 obtain ⟨⟨c0,dd0,data0,sl0⟩,ho,hc,hd⟩:=id hit;simp only at hc hd;subst hc hd;have hT:=hit.typeIs;have hn:(Value.ref d == Value.none)=false:=rfl;have hown:Builtin.Dict_items.ownsTuple "dict_keyiterator" = false:=Dd;unfold pyNext;refine wpAny_bind (wpAny_attempt (wpAny_callSpecial?_slot (name:=Str.ofString "__next__") hT F.slot_dict_keyiterator_next (wpAny_call_entry F.slot_dict_keyiterator_next hT F.entry_dict_keyiterator_next ?_ (F.args_dict_keyiterator_next_1 _))))
 repeat (any_goals (first | assumption | (with_reducible refine wpAny_typeNameOfWhole_keyiter hT ?_) | (with_reducible refine wpAny_isOneOf_keyiter hT ?_) | (with_reducible refine wpAny_fieldsOf ho rfl ?_) | (with_reducible refine wpAny_dictEntries hod hdd ?_) | (with_reducible refine wpAny_dictEpoch hod hdd ?_) | wp_step))
 rw [if_neg (show ¬((i:Int)<0) by omega),Int.toNat_natCast,Array.getElem?_eq_none hi]
 repeat (any_goals (first | assumption | (with_reducible refine wpAny_typeNameOfWhole_keyiter hT ?_) | (with_reducible refine wpAny_setField ho rfl (by rw [hown];simp) ?_) | wp_step))
 simp only [raiseNew];refine wpAny_bind (wpAny_handled ?_);rw [show A.in1.handled=none from hh];refine wpAny_bind (wpAny_pure (wpAny_throw ?_));refine wpAny_bind (wpAny_isInstance (T := "StopIteration") (b:=true) ⟨_,aK _ rfl,rfl⟩ isSubtype_stop ?_);exact wpAny_pure (h _ (((Heap.SameBut.update ..).extBut.push _).push _))
theorem xD{Q:Value->Shared->Prop}(hd:(d == sysModules)=false)(hod:s.heap.get? d=some od)(hex:od.ExactDict)(hdd:od.data=.dict es ep)
  (hQ:Q (.ref s.heap.objs.size) { s with heap:=s.heap.push { cls:=.type "dict_keyiterator",data:=.fields #[.ref d,.int 0 0,.int es.size 0,.int ep 0] } }):wpAny (model prog w) A (pyIter (.ref d)) Q E s:=by
 have hT:s.TypeIs (.ref d) "dict" := ⟨od,hod,hex.1⟩;refine wpAny_pyIter_slot hT F.slot_dict_iter (wpAny_call_entry F.slot_dict_iter hT F.entry_dict_iter ?_ (F.args_dict_iter_1 _));unfold Builtin.«dict.__iter__»;refine wpAny_bind ?_;unfold Builtin.Dict.dictSlotNone;refine wpAny_bind (wpAny_notOrdered_dict hT ?_);show wpAny _ _ (pure (Value.ref d)) _ _ s;refine wpAny_pure ?_;have hm:(d == sysModules)=false:=hd
 repeat (any_goals (first | assumption | (with_reducible refine wpAny_dictEntries hod hdd ?_) | (with_reducible refine wpAny_dictEpoch hod hdd ?_) | wp_step))
 exact ⟨_,rfl, "dict_keyiterator",_,⟨_,aK _ rfl,rfl⟩,F.slot_dict_keyiterator_next.lookup,hQ⟩
end
end HT
namespace L2
open PySem PySem.Spec PySem.W PyProof.Rows HT
section
variable{X:Cx}{pins:List (Addr × Obj)}{σ:St}{H:Hp}{s:Shared}
theorem bG.freeze{D:Addr}{kvs:List (List dJ × V)}(I:bG X pins σ H s)(e:H D=some (.dT kvs)):∃o,bG X pins σ (upd H D (.frz o (.dT kvs))) s:=by
 obtain ⟨z,hd,xs,rel,o,es,ep,h1,h2,h3,h4,h5⟩:=(show cQ X.prog X.w H s.heap D (.dT kvs) from I.hok D _ e);refine ⟨o,?_⟩;have I2:=I.write (x:=D) (e:=D) (o:=.frz o (.dT kvs)) (h':=s.heap) (t':=s.toks) (by rw [e];exact True.intro) (.inl rfl) (λb u _ q=>q) ⟨o,h1⟩ ⟨h1,z,hd,xs,KT.keeps (show KT H kvs xs from rel) λc ys ec=>(by rw [bB (nY ec e (λz=>nomatch z))];exact ec),o,es,ep,h1,h2,h3,h4,h5⟩;exact I2
def NA(H:Hp)(D:Addr)(kvs:List (List dJ × V)):Prop:=∃o,H D=some (.frz o (.dT kvs))
def IQ(d:Addr)(o:Obj):It :=
 ⟨λi H=>∃kvs,H d=some (.frz o (.dT kvs))/\i<kvs.length,λi H x H'=>H'=H/\∀kvs,H d=some (.frz o (.dT kvs))->∃b p,x=.ref b/\kvs[i]?=some p/\H b=some (.tup (p.1.map kV)),λi H=>∃kvs,H d=some (.frz o (.dT kvs))/\kvs.length<=i⟩
theorem jA{α β:Type}{R:α->β->Prop}:∀{l:List α}{m:List β}{i:Nat}{a:α},Paired R l m->l[i]?=some a->∃b,m[i]?=some b/\R a b
 | _,_,i,a,.nil,h=>by simp at h
 | _,_,0,a,.cons r t,h=>by
  cases (show _=a by simpa using h);exact ⟨_,rfl,r⟩
 | _,_,i+1,a,.cons r t,h=>by
  obtain ⟨b,h1,h2⟩:=jA t (by simpa using h);exact ⟨b,by simpa using h1,h2⟩
theorem vE(I:bG X pins σ H s){d:Addr}{o:Obj}{kvs:List (List dJ × V)}(e:H d=some (.frz o (.dT kvs))):(d == sysModules)=false/\s.heap.get? d=some o/\o.ExactDict/\∃es ep,o.data=.dict es ep/\es.size=kvs.length /\
  ∀(i:Nat) (hi:i<es.size) p,kvs[i]?=some p->∃b,es[i].key=.ref b/\H b=some (.tup (p.1.map kV))/\cB p.2 es[i].val:=by
 obtain ⟨h0,z,hd,xs,rel,o',es,ep,h1,h2,h3,h4,h5⟩:=(show cQ X.prog X.w H s.heap d (.frz o (.dT kvs)) from I.hok d _ e);rw [h0] at h1;cases h1;have hl:es.size=kvs.length:=by
  have:=congrArg List.length h4;rw [aB,<-Paired.length rel] at this;simpa using this
 refine ⟨hd,h0,h2,es,ep,h3,hl,λi hi p hp=>?_⟩;obtain ⟨x,hx,r1,r2,r3⟩:=jA rel hp;have he:es.toList[i]?=some (entryOfKey (tupleKind (cH X.prog X.w)) x):=by rw [h4,aQ,hx];rfl
 have he2:es[i]=entryOfKey (tupleKind (cH X.prog X.w)) x:=by
  have:es.toList[i]?=some es[i]:=by simp [hi]
  rw [this] at he;injection he
 rw [he2];exact ⟨x.2.1,rfl,r2,r3⟩
theorem yK{P:Program}{w:World}{K:PySem.W.Frag}{tg:Expr}(d it:Addr){o:Obj}{es:Array DictEntry}{ep:Nat}(hdat:o.data=.dict es ep):tZ P w K tg (IQ d o) [it] it (λi h=>h.IsKeyIter it d i es.size ep) where
 mem:=by simp
 obj:=λi h st b hb=>by
  have e:b=it:=by simpa using hb
  subst e;obtain ⟨o,e,c,d⟩:=st;exact ⟨o,e,λv z=>by rw [d] at z;cases z⟩
 keep:=λi h h' st k=>st.at λo e=>k it (by simp) o e
 item:=by
  intro X hP hw hK hc i pins s σ H E I hf st hg;subst hP hw hK;obtain ⟨kvs,hq,hi⟩:=hg;obtain ⟨hm,hod,hex,es',ep',hdd,hsz,hat⟩:=vE I hq;rw [hdat] at hdd;cases hdd;obtain ⟨f0,f1,f2,f3,f4,f5⟩:=hf it (by simp);have hi':i<es.size:=Oo;refine xC st hod hdat hi' λh' st' sb=>?_;have I1:bG X pins σ H { s with heap:=h' }:=I.turned (t':=s.toks) (λb o hb e=>(sb.2 b hb).trans e) f0 f1 f3 f4 f5;obtain ⟨oi,e,c,dd⟩:=id st';obtain ⟨b,hb1,hb2,_⟩:=hat i hi' kvs[i] (by simp [hi]);rw [hb1];exact ⟨.ref b,rfl,xK (s:={ s with heap:=h' }) e c dd Dd ⟨.ref b,H,I1,rfl,⟨rfl,λkvs' hq'=>by
   rw [hq] at hq';injection hq' with hq';injection hq' with _ hq';injection hq' with hq';subst hq';exact ⟨b,kvs[i],rfl,by simp [hi],hb2⟩⟩,st',λb hb=>(hf b hb).1⟩⟩
 done:=by
  intro X hP hw hK hc i pins s σ H E I hf st hg;subst hP hw hK;obtain ⟨kvs,hq,hi⟩:=hg;obtain ⟨hm,hod,hex,es',ep',hdd,hsz,hat⟩:=vE I hq;rw [hdat] at hdd;cases hdd;obtain ⟨f0,f1,f2,f3,f4,f5⟩:=hf it (by simp);exact CW (I.ok.hd hc) st hod hdat Oo λh' eb=>⟨rfl,I.turned (t':=s.toks) (λb o hb e=>eb b o hb e) f0 f1 f3 f4 f5⟩
 self:=λ_ _ _ _ _ st h=>wpAny_pyIter_keyiter st h
end
section
variable{X:Cx}{tg:Expr}
end
end L2
namespace HT
open PySem PySem.Spec PyProof.Rows PySem.W
section
variable{prog:Program}{w:World}{A:Around}{d:Addr}{o:Obj}{es:Array DictEntry}{ep:Nat}
theorem yI(hh:A.handled=none)(I:Addr)(hne:d≠I)(hdat:o.data=.dict es ep) :
  Walks prog w A I [I,d] [I] es.size (λi v=>∃hi:i<es.size,v=es[i].key) (λi h=>h.IsKeyIter I d i es.size ep/\h.get? d=some o) where
 sub:=λb hb=>by simp at hb;simp [hb]
 frame:=λ_ _ _ st hk=>⟨st.1.at λo e=>hk I (by simp) o e,hk d (by simp) o st.2⟩
 item:=λi s Q E hi st hQ=>xC st.1 st.2 hdat hi λh' hit' hs' =>
  hQ _ h' s.toks ⟨hi,rfl⟩ ⟨hit',(hs'.2 d hne).trans st.2⟩ λb o hb e=>(hs'.2 b (λh=>hb (by simp [h]))).trans e
 done:=λs Q E st hQ=>CW hh st.1 st.2 hdat (aC _) λh' he'=>hQ h' s.toks λb o hb e=>he' b o (λh=>hb (by simp [h])) e
 self:=λ_ _ _ _ st hQ=>wpAny_pyIter_keyiter st.1 hQ
theorem GO(lo:(d == sysModules)=false)(hex:o.ExactDict)(hdat:o.data=.dict es ep):KdlSrc prog w "dict" d d es.size (λi v=>∃hi:i<es.size,v=es[i].key) (λh=>h.get? d=some o) where
 type:=λ_ hm=>⟨o,hm,hex.1⟩
 there:=λ_ hm=>⟨aN hm,aN hm⟩
 keep:=λ_ _ hm hk=>hk d (.inl rfl) o hm
 notList:=Dd
 notTuple:=Dd
 hint:=λ_ _ _ _ hm hq=>kdl_hint_dict ⟨o,hm,hex.1⟩ hq
 iter:=λA s hh hm=>⟨_,_,λE Q hQ=>xD lo hm hex hdat hQ,yI hh _ (bP (aN hm)) hdat,⟨_,aK _ rfl,rfl,rfl⟩,aA _ hm⟩
end
end HT
namespace L2
open PySem PySem.Spec PySem.W PyProof.Rows HT
def rP(H:Hp)(kvs:List (List dJ × V))(ys:List V):Prop:=ys.length=kvs.length/\∀(i:Nat) p,kvs[i]?=some p->∃b,ys[i]?=some (.ref b)/\H b=some (.tup (p.1.map kV))
end L2
namespace HT
open PySem PySem.Spec PyProof.Rows PySem.W
section
variable{prog:Program}{w:World}{A:Around}{E:Value->Shared->Prop}{s:Shared}{it d:Addr}{es:Array DictEntry}{ep i:Nat}{od:Obj}
end
end HT
namespace L2
open PySem PySem.Spec PySem.W PyProof.Rows HT
section
variable{X:Cx}{tg:Expr}
end
theorem NA.get{H:Hp}{d b:Addr}{kvs:List (List dJ × V)}{k:List dJ}(h:NA H d kvs)(hb:H b=some (.tup (k.map kV))):kQ H d (.ref b) (gS kvs k):=by
 obtain ⟨o,h⟩:=h;exact .inr ⟨kvs,k,b,.inr ⟨o,h⟩,rfl,hb,rfl⟩
section
variable{X:Cx}{o e:Expr}{apos cpos:Pos}{td ty:TE}
end
end L2
namespace L2
open PySem
section
variable{js:List Nat}{te:TE}{tc:TT}{σ:St}{H:Hp}{Q:VK}
theorem AA{J:It}{α:Type}{g:α->PyData}{as:List α}(p:α->Bool)(hz:as.length<=100000)
  (hg:∀i H',aW H H'->i<as.length->J.go i H'/\∀x H3,J.yld i H' x H3->H3=H'/\∃c,as[i]?=some c/\cK H (g c) x) (hst:∀H',aW H H'->J.stop as.length H')
  (ht:∀x c H' (Q':Bool->Hp->Prop),c∈as->cK H' (g c) x->aW H H'->(∀H5,aW H' H5->Q' (p c) H5)->tc (some x::slots σ js) H' Q')
  (he:∀x H' (Q':VK),Q' x H'->te (some x::slots σ js) H' Q')
  (hd:∀D ys H',H D=none->H' D=some (.lst ys)->aW H H'->aY H' ((as.filter p).map g) ys->Q (.ref D) H'):fV J σ js tc te H Q:=by
 unfold fV;intro D hD;refine ⟨λi m ys H'=>m=as.length-i/\i<=as.length/\H' D=some (.lst ys)/\aW H H'/\aY H (((as.take i).filter p).map g) ys/\ys.length<=i,⟨as.length,by simp,cC _,aX,aW.upd hD,aY.nil,aC _⟩,?_⟩;rintro i m ys H2 ⟨rfl,hi,hD2,s2,ry,hy⟩;refine ⟨hD2,?_⟩;by_cases hlt:i<as.length
 ·obtain ⟨hgo,hyl⟩:=hg i H2 s2 hlt;refine .inr ⟨hgo,aV (m:=100000) Oo Dd,λx H3 hy3=>?_⟩;obtain ⟨rfl,c,hc,rc⟩:=hyl x H3 hy3;have hti:as.take (i+1)=as.take i++[c]:=by rw [List.take_add_one,hc];rfl
  refine ⟨λb H4=>b=p c/\aW H3 H4,ht x c H3 _ (cE hc) (rc.same s2) s2 λH5 s5=>⟨rfl,s5⟩,?_⟩;rintro b H4 ⟨rfl,s4⟩;by_cases hp:p c=true
  ·rw [if_pos hp];refine ⟨λy H5=>y=x/\H5=H4,he x H4 _ ⟨rfl,rfl⟩,?_⟩;rintro y H5 ⟨rfl,rfl⟩;refine ⟨s4 _ _ hD2,_,?_,rfl,hlt,aX,aW.thru hD (s2.trans s4) aR.self,?_,?_⟩
   ·omega
   ·rw [hti,List.filter_append,cI];have:List.filter p [c]=[c]:=by simp [hp]
    rw [this];exact aY.snoc ry rc
   ·rw [bC,List.length_singleton];omega
  ·rw [if_neg hp];refine ⟨s4 _ _ hD2,_,?_,rfl,hlt,s4 _ _ hD2,s2.trans s4,?_,?_⟩
   ·omega
   ·rw [hti,List.filter_append];have:List.filter p [c]=[]:=by simp [hp]
    rw [this,List.append_nil];exact ry
   ·omega
 ·have e:i=as.length:=Oo;subst e;refine .inl ⟨hst H2 s2,hd D ys H2 hD hD2 s2 ?_⟩;rw [eL] at ry;exact ry.same s2
theorem zZ{J:It}{n:Nat}(R:Nat->V->Prop)(hz:n<=100000)
  (hs:∀i H',aW H H'->i<n->J.go i H'/\∀x H3,J.yld i H' x H3->H3=H'/\∀Q':VK,(∀y,R i y->Q' y H')->te (some x::slots σ js) H' Q') (hst:∀H',aW H H'->J.stop n H')
  (hd:∀D ys H',H D=none->H' D=some (.lst ys)->aW H H'->ys.length=n->(∀(i:Nat) (y:V),ys[i]?=some y->R i y)->Q (.ref D) H'):fV J σ js oW te H Q:=by
 unfold fV;intro D hD;refine ⟨λi m ys H'=>m=n-i/\i<=n/\H' D=some (.lst ys)/\aW H H'/\ys.length=i/\∀(j:Nat) (y:V),ys[j]?=some y->R j y,⟨n,by simp,cC _,aX,aW.upd hD,rfl,λj y h=>by simp at h⟩,?_⟩;rintro i m ys H2 ⟨rfl,hi,hD2,s2,hy,hR⟩;refine ⟨hD2,?_⟩;by_cases hlt:i<n
 ·obtain ⟨hgo,hyl⟩:=hs i H2 s2 hlt;refine .inr ⟨hgo,aV (m:=100000) Oo Dd,λx H3 hy3=>?_⟩;obtain ⟨rfl,hte⟩:=hyl x H3 hy3;refine ⟨λb H4=>b=true/\H4=H3,⟨rfl,rfl⟩,?_⟩;rintro b H4 ⟨rfl,rfl⟩;rw [if_pos rfl];refine ⟨λy H5=>R i y/\H5=H4,hte _ λy hy=>⟨hy,rfl⟩,?_⟩;rintro y H5 ⟨ry,rfl⟩;refine ⟨hD2,_,?_,rfl,hlt,aX,aW.thru hD s2 aR.self,?_,?_⟩
  ·omega
  ·rw [bC,List.length_singleton];omega
  ·exact nT (R:=R) hR (by rw [hy];exact ry)
 ·have e:i=n:=Oo;subst e;exact .inl ⟨hst H2 s2,hd D ys H2 hD hD2 s2 hy hR⟩
end
end L2
namespace L2
open PySem PySem.Spec PyProof.Rows
section
variable{X:Cx}{pins:List (Addr × Obj)}{σ:St}{H:Hp}{s:Shared}{scope:Scope}{x x2:Str}{N':List Str}{js:List Nat}{fp:List Addr}
end
section
variable{X:Cx}{pins:List (Addr × Obj)}{σ:St}{H:Hp}{s:Shared}{scope:Scope}{x:Str}{N':List Str}{js:List Nat}{fp:List Addr}{elt iter:Expr}{px pos:Pos}{tg:Expr}{x2:Str}{te:TE}
end
section
variable{X:Cx}{scope:Scope}{x x2 y:Str}{N':List Str}{js:List Nat}{elt iter tg:Expr}{py pos spos:Pos}{te:TE}{wi:TI}{i:Nat}
end
end L2
namespace HT
open PySem PySem.Spec PyProof.Rows
section
variable{prog:Program}{w:World}{A:Around}{E:Value->Shared->Prop}{s:Shared}{d:Addr}{o:Obj}{es:Array DictEntry}{ep:Nat}
end
end HT
namespace L2
open PySem PySem.Spec PySem.W PyProof.Rows HT
theorem jD(c:List Int):(c.map (Sum.inl:Int->dJ)).map kV=c.map V.int:=by rw [List.map_map];rfl
abbrev kT(c:List Int):List dJ:=c.map Sum.inl
theorem LI{a b:List Int}(h:kT a=kT b):a=b:=by
 have:∀{a b:List Int},kT a=kT b->a=b:=by
  intro a
  induction a with
  | nil=>intro b h;cases b with
   | nil=>rfl
   | cons _ _=>cases h
  | cons x a ih=>intro b h;cases b with
   | nil=>cases h
   | cons y b =>
    injection h with h1 h2;injection h1 with h1;rw [h1,ih h2]
 exact this h
section
variable{X:Cx}{o e f k v:Expr}{apos cpos pos:Pos}{td ty tx tk tv:TE}
@[irreducible] def FI(p:Addr)(x y:V)(H2:Hp)(Q:VK):Prop:=∃b k,x=.ref b/\H2 b=some (.tup (k.map kV))/\H2 p=some (.dT [])/\Q (.ref p) (upd H2 p (.dT [(k,y)]))
def JC(tk tv:TE):TE:=λσ H Q=>∀p,H p=none->tk σ (upd H p (.dT [])) λx H1=>tv σ H1 λy H2=>FI p x y H2 Q
theorem QR{p b:Addr}{y:V}{H:Hp}{Q:VK}{c:List Int}(hb:H b=some (.tup (c.map V.int)))(hp:H p=some (.dT []))(q:∀H',H' p=some (.dT [(kT c,y)])->aR p H H'->Q (.ref p) H'):FI p (.ref b) y H Q:=by
 unfold FI;exact ⟨b,kT c,rfl,by rw [jD];exact hb,hp,q _ aX aR.self⟩
theorem AW(hu:X.A.units+1<cLine)(hk:eU X k tk)(hv:eU X v tv):eU X (.Dict [some k] [v] pos) (JC tk tv):=⟨by
 intro pins s σ H Q I q;have hn:=I.hok.fresh (aC s.heap.objs.size);have I1:=I.laid (a:=s.heap.objs.size) (o:=.dT []) (h':=s.heap.push { cls:=.type "dict",data:=.dict #[] }) (t':=s.toks) (λ_ _ q=>aA _ q) (aC _) (tJ s.heap I.big);refine wpAny_Dict_any rfl rfl (by simp) (show 1<=15 by decide) (pairTrees_cons_walk (thn (hk.p pins _ σ _ _ I1 (q _ hn)) λu s1 ⟨x,H1,I1,rx,q1⟩=>thn (hv.p pins s1 σ H1 _ I1 q1) λw2 s2 ⟨y,H2,I2,ry,q2⟩=>pairTrees_nil_walk ?_));unfold FI at q2;obtain ⟨b,kk,rfl,eb,e,q3⟩:=q2;cases (show u=Value.ref b from rx);obtain ⟨z,hd,xs,rel,dd⟩:=xR I2.hok e;unfold storeAll;rw [List.forIn_cons];refine wpAny_bind (wpAny_bind (wpAny_dictSet_heap (show X.A.units<cLine by omega) (lK I2.hok eb) dd (λh' dd' hs=>wpAny_pure ?_) (by rw [<-Paired.length rel];exact z)));dsimp only;rw [List.forIn_nil];refine wpAny_pure ?_;obtain ⟨q,es,ep,hq,h2,h3,h4,_,h5⟩:=dd';refine ⟨.ref _,_,?_,rfl,q3⟩;have hl:([(kk,y)]:List (List dJ × V)).length<=sizeLine:=by show 1<=sizeLine;decide
 refine kC I2 (by rw [e];exact True.intro) hs ⟨q,hq⟩ ⟨hl,hd,_,(rel.put kk eb ry).keeps λc ys ec=>?_,q,es,ep,hq,h2,h3,h4,h5⟩;rw [bB (nY ec e (λz=>nomatch z))];exact ec⟩
theorem EW(hu:X.A.units+1<cLine)(ho:eU X o td)(he:eU X e ty)(hf:eU X f tx)(base:attributeBase o "get" X.env (eval o X.env)=eval o X.env:=by rfl)
  (few:((backTo cpos (starEach [e,f] X.env)).all (λx=>!x.1)&&(backToKw cpos (keywordEach [] X.env)).all (λx=>x.1.isSome)&&decide (([e,f]:List Expr).length+([]:List Keyword).length+(if ([]:List Keyword).isEmpty then 0 else 1)<30))=true:=by rfl)
  (line:(apos.endLine == cpos.line)=true:=by rfl) (trees:backTo cpos (starEach [e,f] X.env)=[(false,eval e X.env),(false,eval f X.env)]:=by rfl):eU X (.Call (.Attribute o "get" apos) [e,f] [] cpos) (BG td ty tx):=⟨CC hu ho.p he.p hf.p ⟨base,few,line,trees⟩⟩
end
theorem TK{H:Hp}{p b:Addr}{kvs:List (List dJ × V)}{c:List Int}{v:V}{D:mS}{σ:St}(e:H p=some (.dT kvs))(eb:H b=some (.tup (c.map V.int)))(hl:kvs.length<=100000)(q:∀H',H' p=some (.dT (gW kvs (kT c) v))->aR p H H'->D.nx σ H') :
  PU D σ (.ref p) (.ref b) v H:=by
 unfold PU;exact ⟨p,_,rfl,AJ.t (k:=kT c) e (by rw [jD];exact eb) (aV hl Dd),q _ aX aR.self⟩
theorem kQ.ct{H:Hp}{p b:Addr}{kvs:List (List dJ × V)}{c:List Int}(e:H p=some (.dT kvs))(eb:H b=some (.tup (c.map V.int))):kQ H p (.ref b) (gS kvs (kT c)):=kQ.t e (by rw [jD];exact eb)
theorem NA.ct{H:Hp}{d b:Addr}{kvs:List (List dJ × V)}{c:List Int}(h:NA H d kvs)(hb:H b=some (.tup (c.map V.int))):kQ H d (.ref b) (gS kvs (kT c)):=h.get (by rw [jD];exact hb)
theorem aR.tT{H H':Hp}{p:Addr}(s:aR p H H'){xs:List (List dJ × V)}(hp:H p=some (.dT xs)):fC H H':=λb ys h=>s.at (nY h hp (by intro z;cases z)) h
@[irreducible] def qS(K:PySem.W.Frag):List V->Hp->VK->Prop:=λxs H Q=>∃x d,xs=[x]/\jI K H d x/\d.showable=true/\d.hasDict=false/\d.depth<=60/\d.shown.length<=sizeLine/\Q (.str d.shown) H
theorem SG{K:PySem.W.Frag}{H:Hp}{Q:VK}{x:V}{d:PyData}(r:jI K H d x)(h1:d.showable=true)(h2:d.hasDict=false)(h3:d.depth<=60)(h4:d.shown.length<=sizeLine)(q:Q (.str d.shown) H):qS K [x] H Q:=by unfold qS;exact ⟨x,d,rfl,r,h1,h2,h3,h4,q⟩
theorem tS{X:Cx}(K:PySem.W.Frag)(hg:X.A.guards=some [])(hu:X.A.units+64<cLine)(hK:X.K=K:=by rfl):eS X (.builtin "repr") (qS K):=by
 subst hK;unfold qS;intro pins s σ H xs us Q I r h;obtain ⟨x,d,rfl,hr,hs,hnd,hdp,hz,q⟩:=h;obtain ⟨u,rfl,ru⟩:=iA r;obtain ⟨as,rd⟩:=hr.reads I ru;cases rd with
 | none=>exact PySem.P.repr_of_none ⟨.str _,H,I.tok _,⟨_,rfl⟩,q⟩
 | bool b=>exact PySem.P.repr_of_bool ⟨.str _,H,I.tok _,⟨_,rfl⟩,q⟩
 | int i t=>exact PySem.P.repr_of_int (by simpa [PyData.showable] using hs) ⟨.str _,H,I.tok _,⟨_,rfl⟩,q⟩
 | str y t=>exact PySem.P.repr_of_str ⟨.str _,H,I.tok _,⟨_,rfl⟩,q⟩ hz
 | list a1 a2 a3 a4=>exact repr_of_reads' (.list a1 a2 a3 a4) hs (PyData.noDict_hsm hnd) hg Oo (λ_ _ e=>e) (λh' u tk hk=>⟨.str _,H,I.kept hk,⟨_,rfl⟩,q⟩) hz
 | tuple a1 a2 a3 a4=>exact repr_of_reads' (.tuple a1 a2 a3 a4) hs (PyData.noDict_hsm hnd) hg Oo (λ_ _ e=>e) (λh' u tk hk=>⟨.str _,H,I.kept hk,⟨_,rfl⟩,q⟩) hz
 | dict a1 a2 a3 a4 a5=>simp [PyData.hasDict] at hnd
end L2
namespace L2
open PySem PySem.Spec PyProof.Rows
section
variable{X:Cx}
end
theorem tX:bootBuiltins (Str.ofString "sorted")=some (Value.builtin "sorted"):=Kk
section
variable{X:Cx}
end
end L2
namespace L2
open PySem PySem.Spec PySem.W PyProof.Rows HT
abbrev GL(k:List Int):PyData:=.tuple [.int (k.headD 0),cD k.tail]
theorem OO{H:Hp}{k:List Int}{v:V}(h:cK H (GL k) v):∃a d,v=.ref a/\H a=some (.tup [.int (k.headD 0),.ref d])/\H d=some (.tup (k.tail.map V.int))/\cK H (cD k.tail) (.ref d):=by
 unfold cK at h;obtain ⟨a,xs,rfl,h1,h2⟩:=h;unfold aY at h2;obtain ⟨x,xs',rfl,h3,h4⟩:=h2;unfold aY at h4;obtain ⟨y,ys',rfl,h5,h6⟩:=h4;unfold aY at h6;cases (show ys'=[] from h6);cases (show x=V.int (k.headD 0) from h3);obtain ⟨d,rfl,hd⟩:=ME h5;exact ⟨a,d,rfl,h1,hd,h5⟩
def vS(h:Heap)(v:Value)(k:List Int):Prop:=∃b d t its,v=.ref b/\IsTup h b #[.int (k.headD 0) t,.ref d]/\IsTup h d (List.toArray its)/\IntsAre its k.tail/\(∃as,Reads h (.ref d) (cD k.tail) as)/\k≠[]
theorem vC{h:Heap}:∀{vs:List Value}{kz:List (List Int)}{i:Nat},Paired (vS h) vs kz->i<vs.length->vS h (vs.getD i Value.none) (kz.getD i [])
 | _,_,_,.nil,hi=>by simp at hi
 | _,_,0,.cons t r,hi=>t
 | v::vs,c::cs,i+1,.cons t r,hi=>by
  have:=vC (i:=i) r (by simpa using hi);simpa using this
theorem pN{h:Heap}:∀{vs:List Value}{kz:List (List Int)},Paired (vS h) vs kz->∃fs,KatTups h vs fs/\fs.length=vs.length/\∀v∈fs,∃i t,v=Value.int i t
 | _,_,.nil=>⟨[],KatTups.nil,rfl,λv hv=>by cases hv⟩
 | v::vs,k::kz,.cons t r=>by
  obtain ⟨fs,h1,h2,h3⟩:=pN r;obtain ⟨b,d,t,its,rfl,⟨o,ho,hc,n,hd⟩,_⟩:=t;exact ⟨.int (k.headD 0) t::fs,KatTups.cons ho hc hd (by simp) h1,by simp [h2],λv hv=>by
   rcases aP.mp hv with rfl | hv
   ·exact ⟨_,_,rfl⟩
   ·exact h3 v hv⟩
theorem sY:∀a b:List Int,gM a b=fW a b
 | [],[]=>rfl
 | [],y::b=>(mX y b).symm
 | x::a,[]=>(jX _).symm
 | x::a,y::b=>by rw [oF,jY,sY a b]
section
variable{prog:Program}{w:World}{A:Around}{E:Value->Shared->Prop}{s:Shared}
theorem ON{x y:Value}{k l:List Int}{Q:Bool->Shared->Prop}(hu:A.units+64<cLine)(hx:vS s.heap x k)(hy:vS s.heap y l)(q:Q (fW k l) s):wpAny (model prog w) A (keyLt' (tuples' true) x y) Q E s:=by
 obtain ⟨b,d,t,its,rfl,⟨o,ho,hc,n,hd⟩,td,ti,⟨as,ra⟩,kn⟩:=hx;obtain ⟨b2,d2,t2,its2,rfl,⟨o2,ho2,hc2,n2,hd2⟩,td2,ti2,⟨bs,rb⟩,ln⟩:=hy;refine kat_lt ho hd ho2 hd2 ?_;have ek:k=k.headD 0::k.tail:=by
  cases k with
  | nil=>exact absurd rfl kn
  | cons _ _=>rfl
 have el:l=l.headD 0::l.tail:=by
  cases l with
  | nil=>exact absurd rfl ln
  | cons _ _=>rfl
 rw [ek,el,jY] at q;generalize k.headD 0=m at *;generalize l.headD 0=m2 at *;show KatLex prog w A true _ Q [(.int m t,.int m2 t2),(.ref d,.ref d2)] 0 s;refine kat_cons (wpAny_eqBool_int ?_);by_cases e:m=m2
 ·rw [if_pos e] at q;rw [show (m == m2)=true by simp [e]];refine kat_yes (kat_cons ?_);have eqv:=SeqAt.eqAt_reads (cD k.tail) (cD l.tail) A s _ _ as bs ra rb (CQ _) (CQ _) (by
   have h1:(cD k.tail).depth<=2:=by
    have:=IL k.tail;simp only [PyData.depth];omega
   omega)
  refine eqv prog w _ _ ?_;rw [RL];by_cases e2:k.tail=l.tail
  ·rw [bN e2];refine kat_yes (kat_nil ?_);rw [e2,jW] at q;simpa using q
  ·rw [bE e2];refine kat_no (kat_one _ _ ?_);refine uZ td td2 (by simpa using ti) (by simpa using ti2) Oo ?_;rw [sY];exact q
 ·rw [if_neg e] at q;rw [show (m == m2)=false by simp [e]];refine kat_no ?_;exact oneLt_int q
end
section
variable{X:Cx}{pins:List (Addr × Obj)}{σ:St}{H:Hp}{s:Shared}
theorem CU(I:bG X pins σ H s):∀{kz:List (List Int)}{ys:List V}{us:List Value},aY H (kz.map GL) ys->(∀k∈kz,k≠[])->bW ys us->Paired (vS s.heap) us kz
 | [],ys,us,r,hc,v=>by
  unfold aY at r;cases (show ys=[] from r);cases v;exact .nil
 | c::cs,ys,us,r,hc,v=>by
  rw [bA] at r;unfold aY at r;obtain ⟨y,ys',rfl,r1,r2⟩:=r;obtain ⟨u,us',rfl,rv,v'⟩:=BA v;refine .cons ?_ (CU I r2 (λc h=>hc c (aD _ h)) v');obtain ⟨a,d,rfl,h1,h2,h3⟩:=OO r1;cases rv;obtain ⟨its,rr,pl,_⟩:=I.tuple (eT.of h1);obtain ⟨u1,us1,rfl,⟨t,rfl⟩,ra⟩:=BA rr;obtain ⟨u2,us2,rfl,ru2,rb⟩:=BA ra;cases rb;cases ru2;obtain ⟨jts,r2,pl2,_⟩:=I.tuple (eT.of h2);exact ⟨a,d,t,jts,rfl,pl,pl2,jE r2,h3.reads I rfl,hc c (aG ..)⟩
def EC(sp:Sp)(H:Hp)(ys:List V)(kz:List (List Int)):Prop:=kz.length=ys.length/\(∀k∈kz,k≠[])/\∀(i:Nat) (y:V) (k:List Int) (H':Hp),ys[i]?=some y->kz[i]?=some k->aW H H'->sp [y] H' (λv H''=>aW H' H''/\cK H'' (GL k) v) E0
theorem CV(k:List Int):dN (GL k)=true:=by
 have:∀c:List Int,dM (c.map PyData.int)=true:=λc=>by
  induction c with
  | nil=>rfl
  | cons x c ih=>show (dN (.int x)&&dM (c.map PyData.int))=true;rw [ih];rfl
 show (dN (.int (k.headD 0))&&(dN (cD k.tail)&&true))=true;rw [show dN (cD k.tail)=true from this _];rfl
theorem sZ:∀kz:List (List Int),dM (kz.map GL)=true
 | []=>rfl
 | k::kz=>by show (dN (GL k)&&dM (kz.map GL))=true;rw [sZ kz,CV];rfl
theorem bW.snoc'{xs:List V}{us:List Value}{x:V}{u:Value}(h:bW xs us)(r:cB x u):bW (xs++[x]) (us++[u]):=h.append (.cons r .nil)
end
theorem DZ{kz:List (List Int)}{n:Nat}{pm:Array Nat}(hg:cZ n pm)(ha:mC (jV kz) pm n):(pm.toList.map λi=>kz.getD i []).Pairwise λa b=>fW a b=true:=by
 have hsz:=hg.size;rw [List.pairwise_map,List.pairwise_iff_getElem];intro i j hi hj hij;have hi':i<pm.size:=by simpa using hi
 have hj':j<pm.size:=by simpa using hj
 have e1:pm.toList[i]=pm.getD i 0:=by rw [Array.getElem_toList];exact (by simp [Array.getD,hi']:pm.getD i 0=pm[i]).symm
 have e2:pm.toList[j]=pm.getD j 0:=by rw [Array.getElem_toList];exact (by simp [Array.getD,hj']:pm.getD j 0=pm[j]).symm
 rw [e1,e2];exact ha i j hij Oo
section
variable{X:Cx}{pins:List (Addr × Obj)}{σ:St}{H:Hp}{s:Shared}
end
def iM(c:Addr)(q:Str):HO:=.ext λh=>h.CodeRec (.ref c) q
theorem AB{P:Program}{w:World}{H:Hp}{h:Heap}{c:Addr}{q:Str}(hr:h.CodeRec (.ref c) q):cQ P w H h c (iM c q):=by
 obtain ⟨c₂,oc,vs,t,e2,hoc,hd,hv⟩:=id hr;cases e2;refine ⟨hr,⟨oc,hoc⟩,λh1 h2 ⟨c3,o3,v3,t3,e3,ho3,hd3,hv3⟩ k=>?_⟩;cases e3;exact ⟨c,o3,v3,t3,rfl,k _ ho3,hd3,hv3⟩
structure eC(H:Hp)(P:Addr)(q:Str)(pos:Pos):Prop where
 ex:H P=some (.tbl #[])\/∃c',H P=some (.tbl #[rawInt pos.line,rawInt pos.col,.ref c'])/\H c'=some (iM c' q)
def zT(K:Frag)(c P:Addr):Bool:=match K.lookup c with
 | some ⟨.type t,_,.fields vs,_⟩=>(match (vs[11]?:Option Value),vs.getD 11 .none,vs.getD 18 .none,vs.getD 7 .none,vs.getD 9 .none,vs.getD 10 .none with
   | some (.ref p),.ref p',.str _ _,.int _ _,.bool _,.int _ _=>t == "code" && p == P&&p' == P && !(c == P)
   | _,_,_,_,_,_=>false)
 | _=>false
theorem OT{K:Frag}{h:Heap}{c P:Addr}(X:K.In h)(e:zT K c P=true):CodeHd h c P:=by
 unfold zT at e;split at e
 ·rename_i t od vs sl ho
  split at e
  ·rename_i p p' f1 f2 i1 i2 b1 j1 j2 q1 q2 q3 q4 q5 q6
   simp only [bJ,Bool.not_eq_true',beq_iff_eq,beq_eq_false_iff_ne] at e;obtain ⟨⟨⟨e1,e2⟩,e3⟩,e4⟩:=e;subst e1 e2 e3;exact ⟨_,vs,_,_,_,_,_,_,_,X _ _ ho,rfl,rfl,q1,q2,q3,q4,q5,q6,e4⟩
  ·cases e
 ·cases e
def BM(mg:Str->Option Value)(h:Heap):Prop:=∃bm ob,mg "__builtins__" = some (.ref bm)/\bm≠builtinsNs/\h.get? bm=some ob/\ob.cls=.type "module" /\ ob.dict=some builtinsNs/\ob.data=.plain
section
variable{X:Cx}{pins:List (Addr × Obj)}{σ:St}{H:Hp}{s:Shared}
theorem KZ{P c:Addr}{params:Arguments}{body:Expr}{scope:Scope}{pos:Pos}{Q':Value->Shared->Prop}(I:bG X pins σ H s)(hcode:X.env.code=.ref c)(hh:zT X.K c P=true)(hbm:BM X.mg X.base)(hcl:closureFor scope X.env=pure [])
  (hdef:defaultsOf params X.env=([],[])) (TO:eC H P (X.env.qual ++ "<lambda>") pos)
  (h:∀(f c':Addr) (pm ctv:Value) (H':Hp) (s':Shared),eC H' P (X.env.qual ++ "<lambda>") pos->H' c'=some (iM c' (X.env.qual ++ "<lambda>"))->aR P H H'->s'.heap.objs.size=f+1 ->
   bG X ((f,kla_obj "<lambda>" (X.env.qual ++ "<lambda>") params body scope [] pm c' ctv)::pins) σ H' s'->Q' (.ref f) s') :
  wpAny (model X.prog X.w) X.A (eval (.Lambda params body scope pos) X.env) Q' X.xe s:=by
 refine kla_eval hdef ?_;have hg:=I.mod.glob.keeps I.bk;have C:=OT I.kIn hh;obtain ⟨bm,ob,b1,b2,b3,b4,b5,b6⟩:=hbm;have nP:∀b o,X.base.get? b=some o->∀u,H P=some u->b≠P:=λb o e u hu z=>by
  have:=(I.bs b o e).2;rw [z,hu] at this;cases this
 obtain ⟨og,eg⟩:∃o,X.base.get? mainGlobals=some o:=let ⟨o,_,_,e,_⟩:=I.mod.glob;⟨o,e⟩;have hbG:bm≠mainGlobals:=λq=>by
  obtain ⟨o,es,ep,e,hd,_⟩:=I.mod.glob;rw [q,e] at b3;cases b3;rw [hd] at b6;cases b6
 rcases TO.ex with hP | ⟨c',hP,hc'⟩
 ·have hPt:s.heap.get? P=some (tabObj #[]):=I.hok P _ hP;refine kla_makeFunction (mg:=X.mg) hcl I.ok.glob hg hcode C hPt trivial rfl (nP _ _ eg _ hP) ⟨bm,ob,b1,b2,hbG,nP _ _ b3 _ hP,I.bk _ _ b3,b4,b5,b6⟩ λc' ctv h' tk hx hge hlt hrec htb=>?_;generalize hq:X.env.qual++Str.ofString "<lambda>" = q at *;have hf:H c'=none:=I.hok.fresh hge;have Pc:P≠c':=λz=>by rw [z,hf] at hP;cases hP
  have kp:∀(x:Obj) b o,b≠P->s.heap.get? b=some o->(h'.push x).get? b=some o:=λx b o n e=>aA _ (hx b o n e);have szh:s.heap.objs.size<=h'.objs.size:=aU hge (Nat.le_of_lt hlt);have nc:∀b u,H b=some u->b≠c':=λb u e z=>by rw [z,hf] at e;cases e
  have I1:bG X pins σ (upd (upd H P (.tbl #[rawInt pos.line,rawInt pos.col,.ref c'])) c' (iM c' q)) { s with heap:=h'.push (kla_obj "<lambda>" q params body scope [] ((X.mg "__name__").getD .none) c' ctv),toks:=tk }:=by
   refine I.un ⟨λb o e n _ _=>kp _ b o (λz=>by rw [z,hP] at n;cases n) e,λb o e n _ _=>⟨o.slots,kp _ b o (λz=>by rw [z,hP] at n;cases n) e⟩,λb o e n _=>?_,λb o e _=>?_,λb xs e=>?_,λb o u e=>?_,λb ps e=>?_⟩ λb u e=>?_
   ·rw [bB (bP (aH (aN e) hge)),bB (λz=>by rw [z,hP] at n;cases n)];exact n
   ·by_cases z:b=P
    ·exact ⟨_,by rw [z];exact aA _ htb⟩
    ·exact ⟨o,kp _ b o z e⟩
   ·rw [bB (nc b _ e),bB (λz=>by rw [z,hP] at e;cases e)];exact e
   ·rw [bB (nc b _ e),bB (λz=>by rw [z,hP] at e;cases e)];exact e
   ·by_cases z:b=P
    ·subst z;rw [hP] at e;cases e;exact ⟨#[rawInt pos.line,rawInt pos.col,.ref c'],by rw [bB Pc,aX];rfl⟩
    ·exact ⟨#[],by rw [bB (nc b _ e),bB z,e];simp⟩
   ·by_cases z:b=c'
    ·subst z;rw [aX] at e;cases e;exact AB (hrec.keeps λb o e=>aA _ e)
    ·rw [bB z] at e;by_cases z2:b=P
     ·subst z2;rw [aX] at e;cases e;exact aA _ htb
     ·rw [bB z2] at e;refine (I.hok b u e).stay (λd v hd' r=>kp _ d v ?_ r) (λd r=>?_) λd xs r=>?_
      ·rcases hd' with rfl | hd'
       ·exact z2
       ·intro z3;rw [z3,hP] at hd';cases hd'
      ·rw [bB (nc d _ r),bB (λz=>by rw [z,hP] at r;cases r)];exact r
      ·rw [bB (nc d _ r),bB (λz=>by rw [z,hP] at r;cases r)];exact r
  refine h h'.objs.size c' ((X.mg "__name__").getD .none) ctv _ _ ⟨.inr ⟨c',by rw [bB Pc,aX],aX⟩⟩ aX (λb o e=>?_) (cY ..) (I1.pins_of λp hp=>?_)
  ·have n:=dH.ne e;rw [dH.at n] at e;refine dH.of n ?_;rw [bB (nc b _ e),bB n];exact e
  ·rcases aP.mp hp with rfl | hp
   ·exact ⟨aK _ rfl,by
     rw [bB (Nat.ne_of_gt hlt),bB (Nat.ne_of_gt (aH (I.hok.lt hP) szh))];exact I.hok.fresh szh,Nat.ne_of_gt (aH I.lt szh),I.nofs szh,λv z=>by cases z⟩
   ·exact I1.pin p (aF _ hp)
 ·have hPt:s.heap.get? P=some (tabObj #[rawInt pos.line,rawInt pos.col,.ref c']):=I.hok P _ hP;refine kla_makeFunctionHit (mg:=X.mg) (cv:=.ref c') hcl I.ok.glob hg hcode C hPt trivial (codeAmong_snoc [] trivial rfl) ⟨bm,ob,b1,b2,hbG,nP _ _ b3 _ hP,I.bk _ _ b3,b4,b5,b6⟩ λctv h' tk hx szh=>?_;generalize hq:X.env.qual++Str.ofString "<lambda>" = q at *;have I1:bG X pins σ H { s with heap:=h'.push (kla_obj "<lambda>" q params body scope [] ((X.mg "__name__").getD .none) c' ctv),toks:=tk }:=I.kept λb o e=>aA _ (hx b o e);refine h h'.objs.size c' ((X.mg "__name__").getD .none) ctv H _ TO hc' (λb o e=>e) (cY ..) (I1.pins_of λp hp=>?_);rcases aP.mp hp with rfl | hp
  ·exact ⟨aK _ rfl,I.hok.fresh szh,Nat.ne_of_gt (aH I.lt szh),I.nofs szh,λv z=>by cases z⟩
  ·exact I1.pin p (aF _ hp)
end
def zN(base h:Heap)(f:Addr):Heap:=oM h λb=>if base.get? b=none/\b≠f then some (.own 0) else none
theorem CS{base h:Heap}{f:Addr}(k:∀b o,base.get? b=some o->h.get? b=some o){b:Addr}{o:Obj}(e:base.get? b=some o):(zN base h f).get? b=some o :=
 oK (k b o e) (if_neg λz=>by rw [e] at z;cases z.1)
theorem zM{base h:Heap}{f:Addr}{o:Obj}(e:h.get? f=some o):(zN base h f).get? f=some o:=oK e (if_neg λz=>z.2 rfl)
theorem GK{base h:Heap}{f:Addr}(k:∀b o,base.get? b=some o->h.get? b=some o){b:Addr}{o:Obj}(e:(zN base h f).get? b=some o):base.get? b=some o\/b=f:=by
 obtain ⟨e1,n⟩:=wU e;by_cases z:b=f
 ·exact .inr z
 ·cases q:base.get? b with
  | none =>
   rw [if_pos ⟨q,z⟩] at n;cases n
  | some o' =>
   rw [k b o' q] at e1;cases e1;exact .inl rfl
theorem EB.more{K:Frag}{mg:Str->Option Value}{b b':Heap}(m:EB K mg b)(k:∀c o,b.get? c=some o->b'.get? c=some o):EB K mg b' :=
 ⟨m.kin.keeps k,m.glob.keeps k,let ⟨mb,h1,h2⟩:=m.blt;⟨mb,h1.keeps k,h2⟩,m.nolimit.keeps k⟩
theorem mJ{h base B:Heap}:∀{l:List Env},h.FunFrames base l->(∀b∈frs l,B.get? b=none)->h.FunFrames B l
 | [],_,_=>trivial
 | env::rest,⟨hk,⟨L,o,hf,hn,ho,hd⟩,hr⟩,k=>⟨hk,⟨L,o,hf,k L (by unfold frs;rw [List.filterMap_cons,hf];exact aG ..),ho,hd⟩,mJ hr λb hb=>k b (by unfold frs;rw [List.filterMap_cons,hf];exact aD _ hb)⟩
section
variable{X:Cx}{pins:List (Addr × Obj)}{σ:St}{H:Hp}{s:Shared}
theorem bG.envB(I:bG X pins σ H s){B:Heap}{f:Addr}{of:Obj}(hp:(f,of)∈pins)(hm:EB X.K X.mg B)(hB:∀b o,B.get? b=some o->X.base.get? b=some o\/b=f)(hf:B.get? f=some of)(hz:B.objs.size<=s.heap.objs.size):uC X.prog X.w X.K X.mg B X.A X.stack s H:=by
 have e:=I.env0;obtain ⟨p1,p2,p3,p4,_⟩:=I.pin (f,of) (aF _ hp);refine ⟨e.frames,hm,λb o q=>?_,hz,mJ e.funs λb hb=>?_,e.frf,e.hok,e.bare⟩
 ·rcases hB b o q with z | rfl
  ·exact I.bs b o z
  ·rw [hf] at q;cases q;exact ⟨p1,p2⟩
 ·cases q:B.get? b with
  | none=>rfl
  | some o =>
   exfalso;rcases hB b o q with z | rfl
   ·have:=(e.funs.mem hb).1;rw [z] at this;cases this
   ·rcases aP.mp (I.stkSub b hb) with z | z
    ·exact p3 z
    ·exact p4 z
end
theorem LC{P:Program}{w:World}{K:Frag}{mg:Str->Option Value}{B:Heap}{k:Nat}{f c':Addr}{qual:Str}{params:Arguments}{body:Expr}{scope:Scope}{pm ctv:Value}{N ps:List Str}{sp:Sp}
  (hfb:B.get? f=some (kla_obj "<lambda>" qual params body scope [] pm c' ctv)) (S:cJ N ps scope) (len:∀vs H Q E,sp vs H Q E->vs.length=ps.length) (hc:∀vs H Q E,sp vs H Q E->H c'=some (iM c' qual))
  (hbody:∀(A:Around) (outer:List Env) (s:Shared) (H:Hp) (vs:List V) (Q:VK) (E:XK),eR k (A.deeper (envOfC qual scope s.heap.objs.size f (.ref c')))->sp vs H Q E ->
   ∃t:TE,eU (mQ eI P w K mg B N qual scope f (.ref c') A outer s H E).nox body t/\t (start N vs) H Q) :
  dW P w K mg B eI (k+1) f (kla_fn "<lambda>" qual params body scope [] pm (.ref c') ctv) ps sp:=by
 refine ⟨len,λA outer s H args us vs Q E hr e0 hb r hsp=>?_⟩;have hl:=len _ _ _ _ hsp;have lim:s.heap.NoLimit:=e0.mod.nolimit.keeps λb o e=>(e0.bs b o e).1;have hcd:s.heap.CodeRec (.ref c') qual:=(e0.hok c' _ (hc _ _ _ _ hsp)).1;have hkind:∀y∈ps.zip us,scope.names.lookup y.1=some .local\/(scope.names.lookup y.1=some .cell/\((cellsFrom (s.heap.objs.size+1) scope.names []).lookup y.1).isSome=true):=λ⟨n,v⟩ hy=>by
  rcases S.par n (List.of_mem_zip hy).1 with q | q
  ·exact .inl q
  ·exact .inr ⟨q,PySem.W.cellsFrom_some _ _ _ (.inl q)⟩
 refine kla_callFunE hr.depth (e0.bs _ _ hfb).1 rfl S.co S.gen rfl hcd (hb _ _ _ _ ?_);refine wpAny_newFunctionEnv_cells S.kind hkind λenv he s1 x=>?_;subst he;refine ⟨lim.keeps x.toInCall.keep,kla_codeExpr ?_⟩;obtain ⟨t,ht,hq⟩:=hbody A outer s H vs Q E (hr.deeper _) hsp;have I:bG (mQ eI P w K mg B N qual scope f (.ref c') A outer s H E) [] (start N vs) H s1:=pR S hr.hd e0 hl r x;refine wpAny_mono (ht.p.nox [] s1 (start N vs) H _ I hq) (λu s' hs=>?_) λe s' hs=>hs;obtain ⟨v,H',J,rv,q⟩:=hs;exact ⟨v,H',J.os,J.bare,J.base,J.hok,rv,q⟩
section
variable{X:Cx}{pins:List (Addr × Obj)}{σ:St}{H:Hp}{s:Shared}
end
section
variable{X:Cx}{pins:List (Addr × Obj)}{σ:St}{H:Hp}{s:Shared}
end
def SD(N:List Str)(c':Addr)(q:Str)(te:TE):Sp:=λvs H Q _=>vs.length=1/\H c'=some (iM c' q)/\te (start N vs) H Q
theorem eC.same{H H':Hp}{P:Addr}{q:Str}{pos:Pos}(t:eC H P q pos)(s:aW H H'):eC H' P q pos:=⟨t.ex.elim (λh=>.inl (s _ _ h)) λ⟨c',h1,h2⟩=>.inr ⟨c',s _ _ h1,s _ _ h2⟩⟩
theorem eC.at_{H:Hp}{P:Addr}{q:Str}{pos:Pos}(t:eC H P q pos):∃ps,H P=some (.tbl ps):=t.ex.elim (λh=>⟨_,h⟩) λ⟨c',h1,_⟩=>⟨_,h1⟩
theorem fA.butT{K:Frag}{H H':Hp}{P p:Addr}{xs:List V}{ps:Array Value}(b:aR P H H')(hP:H P=some (.tbl ps))(h:fA K H p xs):fA K H' p xs:=by
 rcases h with (h | ⟨o,h⟩) | h
 ·exact .inl (.inl (b.at (λz=>by rw [z,hP] at h;cases h) h))
 ·exact .inl (.inr ⟨o,b.at (λz=>by rw [z,hP] at h;cases h) h⟩)
 ·exact .inr h
theorem aR.same{P:Addr}{H H1 H2:Hp}(b:aR P H H1)(s:aW H1 H2):aR P H H2:=λc o e=>by
 have n:=dH.ne e;rw [dH.at n] at e;exact dH.of n (s _ _ (b.at n e))
section
variable{X:Cx}
end
end L2
namespace L2
open PySem PySem.Spec PySem.W PyProof.Rows
structure yE(tabs:List (Addr × Addr))(H:Hp):Prop where
 all:∀b,H b=none\/(∃o xs,H b=some (.frz o (.lst xs)))\/(H b=some (.tbl #[])/\b∈tabs.map (·.2))
 tab:∀q∈tabs,H q.2=some (.tbl #[])
theorem zL{P:Program}{w:World}{K:PySem.W.Frag}{mg mb:Str->Option Value}{CX:AN}{k:Nat}{fa a:Addr}{fd:FuncData}{x:Str}{sp:Sp}{s₁:Shared}{vs:List Value}{ns:List Int}{tabs:List (Addr × Addr)}
  (KX:K.In s₁.heap) (hns:s₁.heap.Ns mainGlobals mg) (hb:s₁.heap.Ns builtinsNs mb) (hbb:∀x:Str,x ≠ "__name__" -> mb x=bootBuiltins x) (hlim:s₁.heap.NoLimit) (hg:s₁.gens=#[])
  (ha:s₁.heap.get? a=some { cls:=.type "list",data:=.seq vs.toArray }) (hi:IntsAre vs ns) (hl:ns.length<=sizeLine) (hr:eR k callerA) (hT:∀q∈tabs,CodeHd s₁.heap q.1 q.2/\s₁.heap.get? q.2=some (tabObj #[])) (hTK:∀q∈tabs,K.lookup q.2=none) (hbm:BM mg s₁.heap)
  (F:∀base:Heap,K.In base->base.Ns mainGlobals mg->BM mg base->dW P w K mg base CX k fa fd [x] sp) (hbind:∀(s:Shared) (u:Value),BindsTo s fd ⟨[u],[]⟩ [(x,u)])
  (hsp:∀H:Hp,yE tabs H->fA K H a (ns.map V.int)->sp [.ref a] H (λv _=>v=.bl true) λ_ _ _=>False)
  (hCX:∀H e s',CX [] H s₁ (λ_ _ _=>False) e s'->False) :
  codeAny (model P w) callerA (.call (.ref fa) ⟨[.ref a],[]⟩) (λr s'=>r=.ok (.ret (.bool true))/\OldK s₁.heap s'.heap/\s'.os=s₁.os/\AllBare s'.gens) s₁:=by
 have rv:=pG hi;have lenV:=hi.length;have tabAt:∀b∈tabs.map (·.2),s₁.heap.get? b=some (tabObj #[])/\K.lookup b=none/\isCodeTable s₁.heap b:=λb hb=>by
  obtain ⟨q,hq,rfl⟩:=cP.mp hb;exact ⟨(hT q hq).2,hTK q hq,((hT q hq).1.tab (hT q hq).2).isCodeTable⟩
 have naT:a ∉ tabs.map (·.2):=λz=>by
  have:=(tabAt a z).1;rw [ha] at this;cases this
 have core:∀H:Hp,yE tabs H->fA K H a (ns.map V.int)->iC P w H s₁.heap->(∀b,H b≠none->b=a\/b∈tabs.map (·.2))->(H a≠none->K.lookup a=none) ->
   codeAny (model P w) callerA (.call (.ref fa) ⟨[.ref a],[]⟩) (λr s'=>r=.ok (.ret (.bool true))/\OldK s₁.heap s'.heap/\s'.os=s₁.os/\AllBare s'.gens) s₁:=by
  intro H hO hS hok hA hK;have base_of:∀{b:Addr} {o:Obj},s₁.heap.get? b=some o->H b=none->(oM s₁.heap H).get? b=some o:=λe n=>oK e n;have untr:∀{b:Addr} {o:Obj},s₁.heap.get? b=some o->o ≠ { cls:=.type "list",data:=.seq vs.toArray }->o≠tabObj #[]->H b=none:=λ{b o} e n1 n2=>by
   cases q:H b with
   | none=>rfl
   | some u =>
    exfalso;rcases hA b (by rw [q];simp) with rfl | z
    ·rw [ha] at e;cases e;exact n1 rfl
    ·rw [(tabAt b z).1] at e;cases e;exact n2 rfl
  have noA:∀{b:Addr} {o:Obj} {es:Array DictEntry} {ep:Nat},s₁.heap.get? b=some o->o.data=.dict es ep->H b=none:=λ{b o es ep} e d =>
   untr e (λz=>by rw [z] at d;cases d) (λz=>by rw [z] at d;cases d)
  have nsK:∀{b:Addr} {m:Str->Option Value},s₁.heap.Ns b m->(oM s₁.heap H).Ns b m:=λ{b m} ⟨o,es,ep,e,d,r⟩=>⟨o,es,ep,base_of e (noA e d),d,r⟩;have hKb:K.In (oM s₁.heap H):=λb o e=>base_of (KX b o e) (by
   cases q:H b with
   | none=>rfl
   | some u =>
    exfalso;rcases hA b (by rw [q];simp) with rfl | z
    ·rw [hK (by rw [q];simp)] at e;cases e
    ·rw [(tabAt b z).2.1] at e;cases e)
  have hbmB:BM mg (oM s₁.heap H):=by
   obtain ⟨bm,ob,h1,h2,h3,h4,h5,h6⟩:=hbm;exact ⟨bm,ob,h1,h2,base_of h3 (untr h3 (λz=>by rw [z] at h6;cases h6) (λz=>by rw [z] at h6;cases h6)),h4,h5,h6⟩
  have hM:EB K mg (oM s₁.heap H):=⟨hKb,nsK hns,⟨mb,nsK hb,hbb⟩,let ⟨mc,h1,h2⟩:=hlim;⟨mc,nsK h1,h2⟩⟩;have e0:uC P w K mg (oM s₁.heap H) callerA [] s₁ H:=⟨rfl,hM,λb o e=>wU e,Nat.le_of_eq (pS _ _),trivial,λb hb=>absurd (show b∈([]:List Addr) from hb) (by simp),hok,.of_eq hg⟩;refine codeAny_mono ((F _ hKb (nsK hns) hbmB).run callerA [] s₁ H ⟨[.ref a],[]⟩ [.ref a] [.ref a] _ _ hr e0 (hbind s₁ (.ref a)) (.cons rfl .nil) (hsp H hO hS)) λr s' h=>?_;cases r with
  | error e=>exact (hCX H e s' h).elim
  | ok fl =>
   cases fl with
   | next=>exact False.elim h
   | brk=>exact False.elim h
   | cont=>exact False.elim h
   | ret u =>
    obtain ⟨v,H',os,bare,un,hok',r',q⟩:=h;have q':v=.bl true:=q;subst q';obtain rfl:u=Value.bool true:=r';have key:∀b o,s₁.heap.get? b=some o->s'.heap.get? b=some o\/(isCodeTable s₁.heap b/\o=tabObj #[]/\∃ps,s'.heap.get? b=some (tabObj ps)):=λb o e=>by
     rcases hO.all b with z | ⟨ob,xs,z⟩ | ⟨z,hm⟩
     ·exact .inl (un.keep b o e z (by intro z;exact absurd (show b∈([]:List Addr) from z) (by simp)) (by simp))
     ·have z2:=un.frzs b ob _ z;obtain ⟨e1,_⟩:=hok b _ z;obtain ⟨e2,_⟩:=hok' b _ z2;rw [e] at e1;cases e1;exact .inl e2
     ·obtain ⟨more,z2⟩:=un.tbls b _ z;have e1:=(tabAt b hm).1;rw [e] at e1;cases e1;exact .inr ⟨(tabAt b hm).2.2,rfl,_,hok' b _ z2⟩
    refine ⟨rfl,⟨λb o e=>?_,λb o e=>?_⟩,os,bare⟩
    ·rcases key b o e with z | ⟨ht,rfl,ps,z⟩
     ·exact .inl z
     ·exact .inr (.inl ⟨ht,rfl,#[],ps,rfl,by rw [Array.empty_append];exact z⟩)
    ·rcases key b o e with z | ⟨_,_,ps,z⟩
     ·exact ⟨o,z⟩
     ·exact ⟨_,z⟩
 cases hk:K.lookup a with
 | some o =>
  have e:=KX a o hk;rw [ha] at e;cases e;refine core (λb=>if b∈tabs.map (·.2) then some (.tbl #[]) else none) ⟨λb=>?_,λq hq=>if_pos (List.mem_map_of_mem hq)⟩ (.inr ⟨_,vs.toArray,_,hk,rfl,rfl,rfl,by rw [aI,lenV];exact hl,by simpa using rv⟩) (λb u z=>?_) (λb z=>?_) λz=>absurd (if_neg naT) z
  ·by_cases hb:b∈tabs.map (·.2)
   ·exact .inr (.inr ⟨if_pos hb,hb⟩)
   ·exact .inl (if_neg hb)
  ·by_cases hb:b∈tabs.map (·.2)
   ·have z':=(if_pos hb).symm.trans z;cases z';exact (tabAt b hb).1
   ·have z':=(if_neg hb).symm.trans z;cases z'
  ·by_cases hb:b∈tabs.map (·.2)
   ·exact .inr hb
   ·exact absurd (if_neg hb) z
 | none =>
  refine core (λb=>if b=a then some (.frz { cls:=.type "list",data:=.seq vs.toArray } (.lst (ns.map V.int))) else if b∈tabs.map (·.2) then some (.tbl #[]) else none) ⟨λb=>?_,λq hq=>?_⟩ (.inl (.inr ⟨{ cls:=.type "list",data:=.seq vs.toArray },if_pos rfl⟩)) (λb u z=>?_) (λb z=>?_) λ_=>hk
  ·by_cases hb:b=a
   ·exact .inr (.inl ⟨_,_,if_pos hb⟩)
   ·by_cases hb2:b∈tabs.map (·.2)
    ·exact .inr (.inr ⟨(if_neg hb).trans (if_pos hb2),hb2⟩)
    ·exact .inl ((if_neg hb).trans (if_neg hb2))
  ·have hm:q.2∈tabs.map (·.2):=List.mem_map_of_mem hq;exact (if_neg (show ¬q.2=a from λz=>naT (z ▸ hm))).trans (if_pos hm)
  ·by_cases hb:b=a
   ·have z':=(if_pos hb).symm.trans z;cases z';subst hb;exact ⟨ha,by rw [aB];exact hl,vs,_,rv,ha⟩
   ·have z1:=(if_neg hb).symm.trans z;by_cases hb2:b∈tabs.map (·.2)
    ·have z':=(if_pos hb2).symm.trans z1;cases z';exact (tabAt b hb2).1
    ·have z':=(if_neg hb2).symm.trans z1;cases z'
  ·by_cases hb:b=a
   ·exact .inl hb
   ·by_cases hb2:b∈tabs.map (·.2)
    ·exact .inr hb2
    ·exact absurd ((if_neg hb).trans (if_neg hb2)) z
theorem AZ{l:PySem.W.OpenLaw}{n k:Nat}{q:Program}{loose:List Str}{XP:(Str->Option Value)->Heap->Prop}{YP:World->Heap->Prop}{d:DefRec}{K:Params->PySem.W.Frag}{CX:AN}{tabs:Params->List (Addr × Addr)}{sp:PySem.W.Frag->List (Addr × Addr)->Sp}{x:Str}(nms:List Str)
  (hn:l.most=some n) (hn2:n<=sizeLine) (hdf:d.params.defaults=[]) (hr:eR k callerA)
  (hY:∀(w:World) (h:Heap),YP w h->(K w.params).In h)
  (hrec:∀y∈nms,∃e,(recsOf q).find? (λe=>e.name == y)=some e) (htab:∀w:World,nms.map (tabIn (K w.params))=(tabs w.params).map some) (hTK:∀(w:World),∀t∈tabs w.params,(K w.params).lookup t.2=none)
  (F:∀(w:World) (mg:Str->Option Value) (fa:Addr) (h:Heap),(K w.params).In h->h.Ns mainGlobals mg->mg d.name=some (.ref fa) ->
   ∃fd:FuncData,(∀(s:Shared) (u:Value),BindsTo s fd ⟨[u],[]⟩ [(x,u)]) /\
    ∀base:Heap,(K w.params).In base->base.Ns mainGlobals mg->BM mg base->dW l.prog w (K w.params) mg base CX k fa fd [x] (sp (K w.params) (tabs w.params)))
  (hsp:∀(K:PySem.W.Frag) (tabs:List (Addr × Addr)) (H:Hp) (a:Addr) (ns:List Int),ns.length<=n->yE tabs H->fA K H a (ns.map V.int)->sp K tabs [.ref a] H (λv _=>v=.bl true) λ_ _ _=>False)
  (hCX:∀(H:Hp) (s:Shared) (e:Value) (s':Shared),CX [] H s (λ_ _ _=>False) e s'->False) :
  PySem.W.WalkO q loose XP YP l.row.toRowW d [] (λf vs=>PySem.call f vs):=by
 refine Att.tY hn hdf λw s₀ s₁ mg mb fa o pm cd doc a vs ns G Y ho hd hcd hmg hobj hints hlen hg=>?_;have KX:=hY w _ Y;obtain ⟨fd,hb,hF⟩:=F w mg fa _ KX G.T.g hmg;have hT:∀t∈tabs w.params,CodeHd s₁.heap t.1 t.2/\s₁.heap.get? t.2=some (tabObj #[]):=λt ht=>by
  have hm:some t∈nms.map (tabIn (K w.params)):=by rw [htab w];exact List.mem_map_of_mem ht
  obtain ⟨y,hy,e⟩:=cP.mp hm;obtain ⟨dr,hdr⟩:=hrec y hy;exact tab_of G.T KX hdr e
 exact zL KX G.T.g G.T.b G.T.builtins G.T.nolimit hg hobj hints (aU hlen hn2) hr hT (hTK w) G.T.bmain hF hb (λH hO hS=>hsp _ _ H a ns hlen hO hS) λH e s'=>hCX H s₁ e s'
theorem iW.okwL{P:Program}{w:World}{K:PySem.W.Frag}{mg:Str->Option Value}{base:Heap}{x qual:Str}{st:Stmt}{f cA:Addr}{fd:FuncData}{N ps:List Str}{k:Nat}{sp:Sp}(F:iW K x qual st f fd)(hc:fd.code=.ref cA)(S:cJ N ps (aZ st))(len:∀vs H Q E,sp vs H Q E->vs.length=ps.length)
  (hbody:∀(A:Around) (outer:List Env) (s:Shared) (H:Hp) (vs:List V) (Q:VK) (E:XK),eR k (A.deeper (envOfC qual (aZ st) s.heap.objs.size f (.ref cA)))->sp vs H Q E ->
   ∃t,oS (mQ eI P w K mg base N qual (aZ st) f (.ref cA) A outer s H E).nox (eZ st) t/\t { nx:=λ_ H'=>Q .non H',rt:=Q } (start N vs) H):dW P w K mg base eI (k+1) f fd ps sp:=by
 obtain ⟨oc,od,kV,doc,pm,an,cdv,ct,osl,rfl,lk,hcd⟩:=F.ex;obtain rfl:cdv=.ref cA:=hc;refine IJ lk hcd S len λA outer s H vs Q E hr hsp=>?_;obtain ⟨t,h,q⟩:=hbody A outer s H vs Q E hr hsp;exact ⟨t,h.p.nox,q⟩
end L2
namespace HB
open PySem PySem.W PyProof.Rows HT
def uG(i:Nat):Nat:=if i<1 then 0 else if i<5 then 1 else if i<15 then 5 else if i<35 then 15 else if i<70 then 35 else 70
def SI(i:Nat):Nat:=if i<1 then 0 else if i<5 then 4 else if i<15 then 14 else if i<35 then 34 else if i<70 then 69 else 125
def cL(i j:Nat):Bool:=decide (uG i<uG j) || (uG i == uG j&&decide (j<i))
section
variable{prog:Program}{w:World}{A:Around}{κ:SortKind}{it:Array Keyed}{s:Shared}{n:Nat}{α β:Type}
def Rn(prog:Program)(w:World)(A:Around)(s:Shared)(m:StateT SortSt Sem α)(st:SortSt)(R:α->SortSt->Prop):Prop :=
 ∀(E:Value->Shared->Prop) (Q:α->SortSt->Shared->Prop),(∀a st',R a st'->Q a st' s)->kasC (model prog w) A E m Q st s
theorem Rn.bind{m:StateT SortSt Sem α}{f:α->StateT SortSt Sem β}{st:SortSt}{R:β->SortSt->Prop}(h:Rn prog w A s m st λa st1=>Rn prog w A s (f a) st1 R):Rn prog w A s (m >>= f) st R :=
 λE Q q=>kasC_bind (h E _ λa st1 h1=>h1 E Q q)
theorem Rn.mono{m:StateT SortSt Sem α}{st:SortSt}{R R':α->SortSt->Prop}(h:Rn prog w A s m st R)(k:∀a st',R a st'->R' a st'):Rn prog w A s m st R':=λE Q q=>h E Q λa st' z=>q a st' (k a st' z)
theorem Rn.pure{a:α}{st:SortSt}{R:α->SortSt->Prop}(h:R a st):Rn prog w A s (Pure.pure a) st R:=λE Q q=>kasC_pure (q _ _ h)
theorem Rn.get{st:SortSt}{R:SortSt->SortSt->Prop}(h:R st st):Rn prog w A s (MonadState.get:StateT SortSt Sem SortSt) st R:=λE Q q=>kasC_get (q _ _ h)
theorem Rn.mod{f:SortSt->SortSt}{st:SortSt}{R:PUnit->SortSt->Prop}(h:R ⟨⟩ (f st)):Rn prog w A s (modify f:StateT SortSt Sem PUnit) st R:=λE Q q=>kasC_modify (q _ _ h)
theorem Rn.rule{x:String}{st:SortSt}{R:Unit->SortSt->Prop}(h:R () st):Rn prog w A s (liftM (PySem.rule x):StateT SortSt Sem Unit) st R:=λE Q q=>kasC_lift (wpAny_rule (q _ _ h))
theorem Rn.nil{b:β}{f:Nat->β->StateT SortSt Sem (ForInStep β)}{st:SortSt}{R:β->SortSt->Prop}(h:R b st):Rn prog w A s (forIn ([]:List Nat) b f) st R:=λE Q q=>kasC_nil (q _ _ h)
theorem Rn.cons{x:Nat}{l:List Nat}{b:β}{f:Nat->β->StateT SortSt Sem (ForInStep β)}{st:SortSt}{R:β->SortSt->Prop}(h:Rn prog w A s (f x b) st λr st1=>match r with | .done b'=>R b' st1 | .yield b'=>Rn prog w A s (forIn l b' f) st1 R):Rn prog w A s (forIn (x::l) b f) st R :=
 λE Q q=>kasC_cons (h E _ λr st1 h1=>by
  cases r with
  | done b'=>exact q _ _ h1
  | yield b'=>exact h1 E Q q)
theorem Rn.rng{a b:Nat}{c:β}{f:Nat->β->StateT SortSt Sem (ForInStep β)}{st:SortSt}{R:β->SortSt->Prop}(h:Rn prog w A s (forIn (List.range' a (b-a)) c f) st R):Rn prog w A s (forIn [a:b] c f) st R:=λE Q q=>kasC_range (h E Q q)
theorem Rn.up{f:Nat->β->StateT SortSt Sem (ForInStep β)}{R:β->SortSt->Prop}(I:Nat->β->SortSt->Prop):∀{d a:Nat}{b:β}{st:SortSt},(∀k b st,a<=k->k<a+d->I k b st->Rn prog w A s (f k b) st λr st1=>match r with | .done b'=>R b' st1 | .yield b'=>I (k+1) b' st1) ->
  (∀b st,I (a+d) b st->R b st)->I a b st->Rn prog w A s (forIn (List.range' a d) b f) st R
 | 0,a,b,st,_,fin,h=>Rn.nil (fin _ _ h)
 | d+1,a,b,st,step,fin,h=>by
  refine Rn.cons ((step a b st (aC _) Oo h).mono λr st1 h1=>?_);cases r with
  | done b'=>exact h1
  | yield b'=>exact Rn.up I (λk b st h2 h3=>step k b st Oo Oo) (λb st h2=>fin b st (by rw [show a+(d+1)=a+1+d by omega];exact h2)) h1
theorem Rn.el{arr:Array Keyed}{i:Nat}{x:Keyed}{st:SortSt}{R:Keyed->SortSt->Prop}(h:arr[i]?=some x)(q:R x st):Rn prog w A s (elem' arr i) st R:=by
 rw [elem'_eq,h];exact Rn.pure q
def ST(κ:SortKind)(it:Array Keyed)(p:Array Nat)(pd:Array (Nat × Nat × Nat))(g:Nat):SortSt:=SortSt.mk' κ (p.map (kas_item it)) pd g none
def AK(prog:Program)(w:World)(A:Around)(κ:SortKind)(it:Array Keyed)(s:Shared)(n:Nat)(c:Nat->Nat->Bool):Prop :=
 ∀(i j:Nat) (C:Bool->Shared->Prop),i<n->j<n->C (c i j) s->kas_cmp prog w A κ it i j C s
variable{c:Nat->Nat->Bool}
theorem Rn.lt(hc:AK prog w A κ it s n c){i j:Nat}{p:Array Nat}{pd:Array (Nat × Nat × Nat)}{g:Nat}{R:Option Bool->SortSt->Prop}(hi:i<n)(hj:j<n)(h:R (some (c i j)) (ST κ it p pd g)):Rn prog w A s (lt' (kas_item it i) (kas_item it j)) (ST κ it p pd g) R:=by
 intro E Q q;rw [lt'_eq];refine kasC_bind (kasC_get (kasC_bind (kasC_lift (wpAny_attempt ?_))));exact wpAny_mono (hc i j (λb s'=>b=c i j/\s'=s) hi hj ⟨rfl,rfl⟩) (λb s' ⟨e1,e2⟩=>by subst e1 e2;exact kasC_pure (q _ _ h)) λ_ _ z=>z.elim
theorem xH{p:Array Nat}{i:Nat}(hi:i<p.size):(p.map (kas_item it))[i]?=some (kas_item it (p.getD i 0)):=by
 have e:p.getD i 0=p[i]:=by simp [Array.getD,hi]
 rw [e];simp [hi]
theorem Rn.ltA(hc:AK prog w A κ it s n c){i j:Nat}{p:Array Nat}{pd:Array (Nat × Nat × Nat)}{g:Nat}{R:Option Bool->SortSt->Prop}(hi:i<p.size)(hj:j<p.size)(hi':p.getD i 0<n)(hj':p.getD j 0<n)
  (h:R (some (c (p.getD i 0) (p.getD j 0))) (ST κ it p pd g)):Rn prog w A s (ltAt' i j) (ST κ it p pd g) R:=by
 rw [ltAt'_eq];refine Rn.bind (Rn.get ?_);exact Rn.bind (Rn.el (xH hi) (Rn.bind (Rn.el (xH hj) (Rn.lt hc hi' hj' h))))
theorem Rn.rev{i j:Nat}{p:Array Nat}{pd:Array (Nat × Nat × Nat)}{g:Nat}{R:Unit->SortSt->Prop}(h:R () (ST κ it (kas_rev p i j) pd g)):Rn prog w A s (reverseSlice' i j) (ST κ it p pd g) R:=by
 rw [reverseSlice'_eq];refine Rn.mod ?_;have e:setArr (ST κ it p pd g) (mirror (arrOf (ST κ it p pd g)) i j ((j-i)/2))=ST κ it (kas_rev p i j) pd g:=congrArg (λz=>SortSt.mk' κ z pd g none) (kas_swaps_map (kas_item it) (λk=>i+k) (λk=>j-1-k) _ p);rw [e];exact h
theorem Rn.mv{k l:Nat}{p:Array Nat}{pd:Array (Nat × Nat × Nat)}{g:Nat}{R:Unit->SortSt->Prop}(h:R () (ST κ it (bubble p k (k-l)) pd g)):Rn prog w A s (moveDown' k l) (ST κ it p pd g) R:=by
 rw [moveDown'_eq];refine Rn.mod ?_;have e:setArr (ST κ it p pd g) (bubble (arrOf (ST κ it p pd g)) k (k-l))=ST κ it (bubble p k (k-l)) pd g:=congrArg (λz=>SortSt.mk' κ z pd g none) (kas_swaps_map (kas_item it) (λi=>k-i) (λi=>k-i-1) _ p);rw [e];exact h
structure Sh(n:Nat)(F:Nat->Nat)(p:Array Nat):Prop where
 sz:p.size=n
 at_:∀i,i<n->p.getD i 0=F i
theorem Rn.ltS(hc:AK prog w A κ it s n c){i j:Nat}{F:Nat->Nat}{p:Array Nat}(hp:Sh n F p){pd:Array (Nat × Nat × Nat)}{g:Nat}{R:Option Bool->SortSt->Prop}(hi:i<n)(hj:j<n)(hF:∀i,i<n->F i<n)
  (h:R (some (c (F i) (F j))) (ST κ it p pd g)):Rn prog w A s (ltAt' i j) (ST κ it p pd g) R:=by
 refine Rn.ltA hc (by rw [hp.sz];exact hi) (by rw [hp.sz];exact hj) (by rw [hp.at_ i hi];exact hF i hi) (by rw [hp.at_ j hj];exact hF j hj) ?_;rw [hp.at_ i hi,hp.at_ j hj];exact h
theorem Rn.bin(hc:AK prog w A κ it s n c){lo m ok:Nat}{S:Nat->Nat}{F:Nat->Nat->Nat}{pd:Array (Nat × Nat × Nat)}{g:Nat}(h1:1<=ok)(hm:ok<=m)(hn:lo+m<=n)(hF:∀k i,ok<=k->k<=m->i<n->F k i<n)
  (hS:∀k,ok<=k->k<m->S k<=k/\∀t,t<k->c (F k (lo+k)) (F k (lo+t))=decide (S k<=t))
  (hN:∀k i,ok<=k->k<m->i<n->F (k+1) i=if i=lo+S k then F k (lo+k) else if lo+S k<i/\i<=lo+k then F k (i-1) else F k i)
  {p:Array Nat} (hp:Sh n (F ok) p) {R:Bool->SortSt->Prop} (h:∀p',Sh n (F m) p'->R true (ST κ it p' pd g)):Rn prog w A s (binarySort' lo m ok) (ST κ it p pd g) R:=by
 rw [binarySort'_eq];refine Rn.bind (Rn.rng ?_);rw [show max ok 1=ok by omega];refine Rn.up (λk b st=>b=(none,())/\∃p,Sh n (F k) p/\st=ST κ it p pd g) ?_ ?_ ⟨rfl,p,hp,rfl⟩
 ·rintro k b st hk hk2 ⟨rfl,p,hp,rfl⟩;obtain ⟨s1,s2⟩:=hS k hk Oo;dsimp only;refine Rn.bind (Rn.rng (Rn.mono (R:=λb st=>∃r,b=(none,S k,r)/\st=ST κ it p pd g) ?_ ?_));refine Rn.up (λt b st=>∃l r,b=(none,l,r)/\st=ST κ it p pd g/\l<=S k/\S k<=r/\r<=k/\r-l<=k-t) ?_ ?_ ⟨0,k,rfl,rfl,cC _,s1,aC _,Oo⟩
  ·rintro t b st _ ht ⟨l,r,rfl,rfl,q1,q2,q3,q4⟩;dsimp only;by_cases z:l ≥ r
   ·rw [if_pos z];exact Rn.pure ⟨r,by rw [show l=S k by omega],rfl⟩
   ·rw [if_neg z];refine Rn.bind (Rn.ltS hc hp Oo Oo (λi hi=>hF k i hk Oo hi) ?_);rw [s2 ((l+r)/2) Oo];dsimp only;by_cases y:S k<=(l+r)/2
    ·rw [bN y];simp only [if_true];exact Rn.pure ⟨_,_,rfl,rfl,q1,y,Oo,Oo⟩
    ·rw [bE y];simp only [Bool.false_eq_true,if_false];exact Rn.pure ⟨_,_,rfl,rfl,Oo,q2,Oo,Oo⟩
  ·rintro b st ⟨l,r,rfl,rfl,q1,q2,q3,q4⟩;exact ⟨r,by rw [show l=S k by omega],rfl⟩
  ·rintro b st ⟨r,rfl,rfl⟩;dsimp only;refine Rn.bind (Rn.mv (Rn.pure ?_));refine ⟨rfl,_,⟨by rw [bubble_size];exact hp.sz,λi hi=>?_⟩,rfl⟩;rw [hN k i hk Oo hi,vN (by rw [hp.sz];omega) Oo];by_cases y:i=lo+S k
   ·rw [if_pos y,if_pos y,hp.at_ _ Oo]
   rw [if_neg y,if_neg y];by_cases z:lo+S k<i/\i<=lo+k
   ·rw [if_pos z,if_pos z,hp.at_ _ Oo]
   ·rw [if_neg z,if_neg z,hp.at_ _ hi]
 ·rintro b st ⟨rfl,p,hp,rfl⟩;dsimp only;refine Rn.pure (h p ?_);rw [show ok+(m-ok)=m by omega] at hp;exact hp
end
end HB
namespace HB
open PySem PySem.W PyProof.Rows HT
section
variable{prog:Program}{w:World}{A:Around}{κ:SortKind}{it:Array Keyed}{s:Shared}{n:Nat}{α β:Type}{c:Nat->Nat->Bool}{pd:Array (Nat × Nat × Nat)}{g:Nat}
theorem Rn.runA(hc:AK prog w A κ it s n c){lo nrem e:Nat}{F:Nat->Nat}(hF:∀i,i<n->F i<n){p:Array Nat}(hp:Sh n F p)(he:2<=e)(hn:e<nrem)(hl:lo+nrem<=n)(h1:∀k,1<=k->k<e->c (F (lo+k)) (F (lo+k-1))=false)
  (h2:c (F (lo+e)) (F (lo+e-1))=true) (h3:c (F lo) (F (lo+e-1))=true) {R:Option Nat->SortSt->Prop} (h:R (some e) (ST κ it p pd g)):Rn prog w A s (countRun' lo nrem) (ST κ it p pd g) R:=by
 rw [countRun'_eq];dsimp only;refine Rn.bind (Rn.rng (Rn.mono (R:=λb st=>b=(none,e)/\st=ST κ it p pd g) ?_ ?_))
 ·refine Rn.up (λk b st=>k<=e/\b=(none,k)/\st=ST κ it p pd g) ?_ ?_ ⟨Oo,rfl,rfl⟩
  ·rintro k b st k1 k2 ⟨k3,rfl,rfl⟩;dsimp only;refine Rn.bind (Rn.ltS hc hp Oo Oo hF ?_);dsimp only;by_cases z:k=e
   ·subst z;rw [h2,if_pos rfl];exact Rn.pure ⟨rfl,rfl⟩
   ·rw [h1 k k1 Oo,if_neg (by simp)];exact Rn.pure ⟨Oo,rfl,rfl⟩
  ·rintro b st ⟨k3,rfl,rfl⟩;omega
 ·rintro b st ⟨rfl,rfl⟩;dsimp only;rw [if_neg (by simp;omega),if_pos Oo];refine Rn.bind (Rn.ltS hc hp Oo Oo hF ?_);dsimp only;rw [h3,if_pos rfl];exact Rn.pure h
theorem FF{p:Array Nat}{i j k:Nat}(hj:j<=p.size):(kas_rev p i j).getD k 0=if i<=k/\k<j then p.getD (i+j-1-k) 0 else p.getD k 0:=by
 have e:=getElem?_mirror_all (xs:=p) (i:=i) hj k;have g0:∀(q:Array Nat) (m:Nat),q.getD m 0=(q[m]?).getD 0:=λq m=>by simp
 rw [g0,g0,g0];show ((mirror p i j ((j-i)/2))[k]?).getD 0=_;rw [e];split <;> rfl
theorem Rn.runD(hc:AK prog w A κ it s n c){lo nrem d e:Nat}{F F':Nat->Nat}(hF:∀i,i<n->F i<n)(hF':∀i,i<n->F' i<n){p:Array Nat}(hp:Sh n F p)(hd:2<=d)(hde:d<=e)(hn:e<=nrem)(hl:lo+nrem<=n)
  (h1:∀k,1<=k->k<d->c (F (lo+k)) (F (lo+k-1))=true) (h2:d<nrem->c (F (lo+d)) (F (lo+d-1))=false/\c (F (lo+d-1)) (F (lo+d))=true)
  (hr:∀i,i<n->F' i=if lo<=i/\i<lo+d then F (lo+(lo+d)-1-i) else F i) (h3:∀k,d<=k->k<e->c (F' (lo+k)) (F' (lo+k-1))=false) (h4:e<nrem->c (F' (lo+e)) (F' (lo+e-1))=true)
  {R:Option Nat->SortSt->Prop} (h:∀p',Sh n F' p'->R (some e) (ST κ it p' pd g)):Rn prog w A s (countRun' lo nrem) (ST κ it p pd g) R:=by
 rw [countRun'_eq];dsimp only;refine Rn.bind (Rn.rng (Rn.mono (R:=λb st=>b=(none,1)/\st=ST κ it p pd g) ?_ ?_))
 ·obtain ⟨r,rfl⟩:∃r,nrem=r+2:=⟨nrem-2,Oo⟩;refine Rn.cons ?_;dsimp only;refine Rn.bind (Rn.ltS hc hp Oo Oo hF ?_);dsimp only;rw [h1 1 Oo Oo,if_pos rfl];exact Rn.pure ⟨rfl,rfl⟩
 ·rintro b st ⟨rfl,rfl⟩;dsimp only;rw [if_neg (by simp;omega),if_neg Oo];refine Rn.bind (Rn.rule ?_);refine Rn.bind (Rn.rng (Rn.mono (R:=λb st=>b=(none,d,0)/\st=ST κ it p pd g) ?_ ?_))
  ·refine Rn.up (λk b st=>k<=d/\b=(none,k,0)/\st=ST κ it p pd g) ?_ ?_ ⟨Oo,rfl,rfl⟩
   ·rintro k b st k1 k2 ⟨k3,rfl,rfl⟩;dsimp only;refine Rn.bind (Rn.ltS hc hp Oo Oo hF ?_);dsimp only;by_cases z:k=d
    ·subst z;obtain ⟨y1,y2⟩:=h2 Oo;rw [y1,if_neg (by simp)];refine Rn.bind (Rn.ltS hc hp Oo Oo hF ?_);dsimp only;rw [y2,if_pos rfl];exact Rn.pure ⟨rfl,rfl⟩
    ·rw [h1 k Oo Oo,if_pos rfl,if_neg Oo];exact Rn.pure ⟨Oo,rfl,rfl⟩
   ·rintro b st ⟨k3,rfl,rfl⟩;exact ⟨by rw [show 1+1+(nrem-(1+1))=d by omega],rfl⟩
  ·rintro b st ⟨rfl,rfl⟩;dsimp only;rw [if_neg Oo];refine Rn.bind (Rn.rev ?_);have hp':Sh n F' (kas_rev p lo (lo+d)):=⟨by rw [kas_rev_size];exact hp.sz,λi hi=>by
    rw [FF (by rw [hp.sz];omega),hr i hi];by_cases z:lo<=i/\i<lo+d
    ·rw [if_pos z,if_pos z,hp.at_ _ Oo]
    ·rw [if_neg z,if_neg z,hp.at_ _ hi]⟩
   refine Rn.bind (Rn.rng (Rn.mono (R:=λb st=>b=(none,e)/\st=ST κ it (kas_rev p lo (lo+d)) pd g) ?_ ?_))
   ·refine Rn.up (λk b st=>k<=e/\b=(none,k)/\st=ST κ it (kas_rev p lo (lo+d)) pd g) ?_ ?_ ⟨Oo,rfl,rfl⟩
    ·rintro k b st k1 k2 ⟨k3,rfl,rfl⟩;dsimp only;refine Rn.bind (Rn.ltS hc hp' Oo Oo hF' ?_);dsimp only;by_cases z:k=e
     ·subst z;rw [h4 Oo,if_pos rfl];exact Rn.pure ⟨rfl,rfl⟩
     ·rw [h3 k k1 Oo,if_neg (by simp)];exact Rn.pure ⟨Oo,rfl,rfl⟩
    ·rintro b st ⟨k3,rfl,rfl⟩;exact ⟨by rw [show d+(nrem-d)=e by omega],rfl⟩
   ·rintro b st ⟨rfl,rfl⟩;exact Rn.pure (h _ hp')
end
end HB
namespace HB
open PySem PySem.W PyProof.Rows HT
def gal':Bool->Keyed->Array Keyed->Nat->Nat->Nat->StateT SortSt Sem (Option Nat):=sortPriv% PySem.Builtin.gallop
def mhi':Array Keyed->Array Keyed->StateT SortSt Sem (Array Keyed):=sortPriv% PySem.Builtin.mergeHi
section
variable{prog:Program}{w:World}{A:Around}{κ:SortKind}{it:Array Keyed}{s:Shared}{n:Nat}{α β:Type}{c:Nat->Nat->Bool}{pd:Array (Nat × Nat × Nat)}{g:Nat}{p:Array Nat}
theorem Rn.gal(hc:AK prog w A κ it s n c){left:Bool}{kk:Nat}(hk:kk<n){arr:Array Keyed}{b m hint:Nat}{q:Nat->Nat}(ha:∀i,i<m->arr[b+i]?=some (kas_item it (q i))/\q i<n){k:Nat}(hkm:k<=m)
  (hB:∀i,i<m->(if left=true then c (q i) kk else !c kk (q i))=decide (i<k)) (hh:hint<m) {R:Option Nat->SortSt->Prop} (h:R (some k) (ST κ it p pd g)):Rn prog w A s (gal' left (kas_item it kk) arr b m hint) (ST κ it p pd g) R:=by
 have bey:∀(i:Nat) (Z:Option Bool->SortSt->Prop),i<m->Z (some (decide (i<k))) (ST κ it p pd g)->Rn prog w A s (do
   let x <-elem' arr (b+i)
   if left=true then lt' x (kas_item it kk) else do
    let y <-lt' (kas_item it kk) x
    Pure.pure (Option.map (λz=>!z) y)) (ST κ it p pd g) Z:=λi Z hi hZ=>by
  obtain ⟨a1,a2⟩:=ha i hi;refine Rn.bind (Rn.el a1 ?_);have e:=hB i hi;cases left with
  | true =>
   simp only [if_true] at e ⊢;refine Rn.lt hc a2 hk ?_;rw [e];exact hZ
  | false =>
   simp only [Bool.false_eq_true,if_false] at e ⊢;refine Rn.bind (Rn.lt hc hk a2 (Rn.pure ?_));show Z (some (!c kk (q i))) _;rw [e];exact hZ
 refine Rn.bind (bey hint _ hh ?_);dsimp only;by_cases z:hint<k
 ·rw [if_pos (bN z)];refine Rn.bind (Rn.rng (Rn.mono (R:=λv st=>∃l o,v=(none,l,o)/\st=ST κ it p pd g/\hint+l<k/\k<=hint+min o (m-hint)) ?_ ?_))
  ·refine Rn.up (λt v st=>∃l o,v=(none,l,o)/\st=ST κ it p pd g/\hint+l<k/\t+1<=o) ?_ ?_ ⟨0,1,rfl,rfl,Oo,Oo⟩
   ·rintro t v st _ ht ⟨l,o,rfl,rfl,q1,q2⟩;dsimp only;by_cases y:o ≥ m-hint
    ·rw [if_pos y];exact Rn.pure ⟨l,o,rfl,rfl,q1,Oo⟩
    ·rw [if_neg y];refine Rn.bind (bey (hint+o) _ Oo ?_);dsimp only;by_cases x:hint+o<k
     ·rw [bN x,if_neg (by simp)];exact Rn.pure ⟨o,2*o+1,rfl,rfl,x,Oo⟩
     ·rw [bE x,if_pos (by simp)];exact Rn.pure ⟨l,o,rfl,rfl,q1,Oo⟩
   ·rintro v st ⟨l,o,rfl,rfl,q1,q2⟩;exact ⟨l,o,rfl,rfl,q1,Oo⟩
  ·rintro v st ⟨l,o,rfl,rfl,q1,q2⟩;dsimp only;refine Rn.bind (Rn.rng (Rn.mono (R:=λv st=>∃l,v=(none,l,k)/\st=ST κ it p pd g) ?_ ?_))
   ·refine Rn.up (λt v st=>∃l o,v=(none,l,o)/\st=ST κ it p pd g/\l<=k/\k<=o/\o<=m/\o-l<=m-t) ?_ ?_ ⟨_,_,rfl,rfl,Oo,q2,Oo,Oo⟩
    ·rintro t v st _ ht ⟨l,o,rfl,rfl,y1,y2,y3,y4⟩;dsimp only;by_cases y:l ≥ o
     ·rw [if_pos y];exact Rn.pure ⟨l,by rw [show o=k by omega],rfl⟩
     ·rw [if_neg y];refine Rn.bind (bey (l+(o-l)/2) _ Oo ?_);dsimp only;by_cases x:l+(o-l)/2<k
      ·rw [bN x,if_pos rfl];exact Rn.pure ⟨_,_,rfl,rfl,Oo,y2,y3,Oo⟩
      ·rw [bE x,if_neg (by simp)];exact Rn.pure ⟨_,_,rfl,rfl,y1,Oo,Oo,Oo⟩
    ·rintro v st ⟨l,o,rfl,rfl,y1,y2,y3,y4⟩;exact ⟨l,by rw [show o=k by omega],rfl⟩
   ·rintro v st ⟨l,rfl,rfl⟩;exact Rn.pure h
 ·rw [if_neg (by simp;omega)];refine Rn.bind (Rn.rng (Rn.mono (R:=λv st=>∃l o,v=(none,l,o)/\st=ST κ it p pd g/\k<=hint-l/\hint+1-min o (hint+1)<=k) ?_ ?_))
  ·refine Rn.up (λt v st=>∃l o,v=(none,l,o)/\st=ST κ it p pd g/\k<=hint-l/\t+1<=o) ?_ ?_ ⟨0,1,rfl,rfl,Oo,Oo⟩
   ·rintro t v st _ ht ⟨l,o,rfl,rfl,q1,q2⟩;dsimp only;by_cases y:o ≥ hint+1
    ·rw [if_pos y];exact Rn.pure ⟨l,o,rfl,rfl,q1,Oo⟩
    ·rw [if_neg y];refine Rn.bind (bey (hint-o) _ Oo ?_);dsimp only;by_cases x:hint-o<k
     ·rw [bN x,if_pos rfl];exact Rn.pure ⟨l,o,rfl,rfl,q1,Oo⟩
     ·rw [bE x,if_neg (by simp)];exact Rn.pure ⟨o,2*o+1,rfl,rfl,Oo,Oo⟩
   ·rintro v st ⟨l,o,rfl,rfl,q1,q2⟩;exact ⟨l,o,rfl,rfl,q1,Oo⟩
  ·rintro v st ⟨l,o,rfl,rfl,q1,q2⟩;dsimp only;refine Rn.bind (Rn.rng (Rn.mono (R:=λv st=>∃l,v=(none,l,k)/\st=ST κ it p pd g) ?_ ?_))
   ·refine Rn.up (λt v st=>∃l o,v=(none,l,o)/\st=ST κ it p pd g/\l<=k/\k<=o/\o<=m/\o-l<=m-t) ?_ ?_ ⟨_,_,rfl,rfl,q2,q1,Oo,Oo⟩
    ·rintro t v st _ ht ⟨l,o,rfl,rfl,y1,y2,y3,y4⟩;dsimp only;by_cases y:l ≥ o
     ·rw [if_pos y];exact Rn.pure ⟨l,by rw [show o=k by omega],rfl⟩
     ·rw [if_neg y];refine Rn.bind (bey (l+(o-l)/2) _ Oo ?_);dsimp only;by_cases x:l+(o-l)/2<k
      ·rw [bN x,if_pos rfl];exact Rn.pure ⟨_,_,rfl,rfl,Oo,y2,y3,Oo⟩
      ·rw [bE x,if_neg (by simp)];exact Rn.pure ⟨_,_,rfl,rfl,y1,Oo,Oo,Oo⟩
    ·rintro v st ⟨l,o,rfl,rfl,y1,y2,y3,y4⟩;exact ⟨l,by rw [show o=k by omega],rfl⟩
   ·rintro v st ⟨l,rfl,rfl⟩;exact Rn.pure h
theorem sM{x:Array Keyed}{i:Nat}{v:Keyed}(h:x[i]?=some v){m:Nat}(hm:i<m)(hx:m<=x.size):((x.extract (i+1) m).reverse).push v=(x.extract i m).reverse:=by
 have hi:i<x.size:=Oo;have e:x[i]=v:=by rw [Array.getElem?_eq_getElem hi] at h;injection h
 apply Array.toList_inj.mp;rw [Array.toList_push,Array.toList_reverse,Array.toList_reverse,Array.toList_extract,Array.toList_extract,List.extract_eq_drop_take,List.extract_eq_drop_take];rw [List.drop_eq_getElem_cons (i:=i) (by simpa using hi),show m-i=(m-(i+1))+1 by omega,List.take_succ_cons,List.reverse_cons];congr 2;simpa using e.symm
theorem Rn.t{P:Prop}[Decidable P]{a b:StateT SortSt Sem α}{st:SortSt}{R:α->SortSt->Prop}(h:P)(k:Rn prog w A s a st R):Rn prog w A s (if P then a else b) st R:=by rw [if_pos h];exact k
theorem Rn.f{P:Prop}[Decidable P]{a b:StateT SortSt Sem α}{st:SortSt}{R:α->SortSt->Prop}(h:¬P)(k:Rn prog w A s b st R):Rn prog w A s (if P then a else b) st R:=by rw [if_neg h];exact k
theorem Rn.mhi(hc:AK prog w A κ it s n c){x y:Array Keyed}(hx:x.size=28)(hy:y.size=7){u v:Nat->Nat}(ux:∀i,i<28->x[i]?=some (kas_item it (u i))/\u i<n)(vy:∀i,i<7->y[i]?=some (kas_item it (v i))/\v i<n)
  (hl:∀i j,i<28->j<7->c (v j) (u i)=true) {R:Array Keyed->SortSt->Prop} (h:R (y++x) (ST κ it p pd 7)):Rn prog w A s (mhi' x y) (ST κ it p pd 7) R:=by
 refine Rn.bind (Rn.rule ?_);dsimp only;simp only [hx,hy];refine Rn.bind (Rn.el (ux 27 Dd).1 ?_);rw [if_neg Dd,if_neg Dd];refine Rn.bind (Rn.get ?_);refine Rn.bind (Rn.rng ?_);refine Rn.cons ?_;refine Rn.bind (Rn.rng (Rn.mono (R:=λb st=>b=(none,20,7,(x.extract 20 28).reverse,7,0)/\st=ST κ it p pd 7) ?_ ?_))
 ·refine Rn.up (λt b st=>t<=6/\b=(none,27-t,7,(x.extract (27-t) 28).reverse,t,0)/\st=ST κ it p pd 7) ?_ ?_ ⟨Oo,?_,rfl⟩
  ·rintro t b st _ ht ⟨t6,rfl,rfl⟩;dsimp only;refine Rn.bind (Rn.el (vy 6 Dd).1 ?_);refine Rn.bind (Rn.el (ux (27-t-1) Oo).1 ?_);refine Rn.bind (Rn.lt hc (vy 6 Dd).2 (ux (27-t-1) Oo).2 ?_);dsimp only;rw [hl (27-t-1) 6 Oo Dd,if_pos rfl];refine Rn.bind (Rn.el (ux (27-t-1) Oo).1 ?_);have e:((x.extract (27-t) 28).reverse).push (kas_item it (u (27-t-1)))=(x.extract (27-(t+1)) 28).reverse:=by
    have:=sM (ux (27-t-1) Oo).1 (m:=28) Oo Oo;rw [show 27-t-1+1=27-t by omega] at this;rw [this,show 27-(t+1)=27-t-1 by omega]
   rw [if_neg (by simp;omega),e];by_cases z:t+1 ≥ 7
   ·refine Rn.t z ?_;obtain rfl:t=6:=Oo;exact Rn.pure ⟨rfl,rfl⟩
   ·refine Rn.f z ?_;exact Rn.pure ⟨Oo,rfl,rfl⟩
  ·rintro b st ⟨t6,_⟩;omega
  ·show (none,27,7,#[kas_item it (u 27)],0,0)=_;have e:=sM (ux 27 Dd).1 (m:=28) Oo Oo;have e0:(x.extract (27+1) 28).reverse=#[]:=by
    apply Array.toList_inj.mp;rw [Array.toList_reverse,Array.toList_extract,List.extract_eq_drop_take];simp
   rw [e0] at e;show (none,27,7,#[kas_item it (u 27)],0,0)=(none,27,7,(x.extract 27 28).reverse,0,0);rw [<-e];rfl
 ·rintro b st ⟨rfl,rfl⟩;dsimp only;refine Rn.bind (Rn.rule ?_);refine Rn.bind (Rn.rng (Rn.mono (R:=λb st=>∃z,b=(some (y++x),z)/\st=ST κ it p pd 7) ?_ ?_))
  ·refine Rn.cons ?_;refine Rn.t (show 7+1 > 1 by decide) ?_;refine Rn.bind (Rn.mod (R:=λ_ st1=>Rn prog w A s _ st1 _) ?_);refine Rn.bind (Rn.el (vy 6 Dd).1 ?_);refine Rn.bind (Rn.gal hc (vy 6 Dd).2 (q:=u) (m:=20) (k:=0) (hint:=19) (p:=p) (pd:=pd) (g:=7) (λi hi=>by rw [Nat.zero_add];exact ux i Oo) Oo (λi hi=>?_) Dd ?_)
   ·rw [hl i 6 Oo Dd];simp
   dsimp only;have ea:x.extract 0 0++y.extract 0 7++((x.extract 20 28).reverse++(x.extract 0 20).reverse).reverse=y++x:=by
    have lx:x.toList.length=28:=by rw [Array.length_toList];exact hx
    have ly:y.toList.length=7:=by rw [Array.length_toList];exact hy
    apply Array.toList_inj.mp;simp only [Array.toList_append,Array.toList_reverse,Array.toList_extract,List.extract_eq_drop_take,List.reverse_append,List.reverse_reverse,List.drop_zero,Nat.sub_zero,List.take_zero,List.nil_append];rw [List.take_of_length_le (l:=y.toList) Oo,List.take_of_length_le (l:=x.toList.drop 20) (by rw [List.length_drop];omega),List.take_append_drop]
   rw [ea];exact Rn.t Dd (Rn.t rfl (Rn.pure ⟨_,rfl,rfl⟩))
  ·rintro b st ⟨z,rfl,rfl⟩;exact Rn.pure (Rn.pure h)
theorem Rn.set{st st':SortSt}{R:PUnit->SortSt->Prop}(h:R ⟨⟩ st'):Rn prog w A s (MonadStateOf.set st':StateT SortSt Sem PUnit) st R:=λE Q q=>by
 unfold kasC;exact wpAny_pure (q _ _ h)
theorem Rn.setE{st st1 st2:SortSt}{R:PUnit->SortSt->Prop}(e:st1=st2)(h:R ⟨⟩ st2):Rn prog w A s (MonadStateOf.set st1:StateT SortSt Sem PUnit) st R:=by subst e;exact Rn.set h
theorem HY{x y z:Nat × Nat × Nat}:((#[x,y]:Array (Nat × Nat × Nat)).setIfInBounds 0 z).eraseIdxIfInBounds (0+1)=#[z]:=by simp [Array.setIfInBounds,Array.eraseIdxIfInBounds]
theorem Rn.ma0(hc:AK prog w A κ it s n c){F:Nat->Nat}(hF:∀i,i<n->F i<n)(hp:Sh n F p){a b pw q:Nat}(ha:0<a)(hb:a<n)(hl:∀i,i<a->c (F a) (F i)=false){R:Bool->SortSt->Prop}(h:R true (ST κ it p #[(0,a+b,pw)] g)) :
  Rn prog w A s (mergeAt' 0) (ST κ it p #[(0,a,pw),(a,b,q)] g) R:=by
 have at_:∀i,i<n->(p.map (kas_item it))[i]?=some (kas_item it (F i)):=λi hi=>by rw [xH (by rw [hp.sz];exact hi),hp.at_ i hi]
 refine Rn.bind (Rn.get ?_);refine Rn.bind (Rn.setE (congrArg (λz=>SortSt.mk' κ (p.map (kas_item it)) z g none) HY) ?_);refine Rn.bind (Rn.el (at_ a hb) ?_);refine Rn.bind (Rn.gal (left:=false) hc (hF a hb) (q:=F) (m:=a) (k:=a) (hint:=0) (p:=p) (pd:=#[(0,a+b,pw)]) (g:=g) (λi hi=>by rw [Nat.zero_add];exact ⟨at_ i Oo,hF i Oo⟩) (aC _) (λi hi=>?_) ha ?_)
 ·rw [hl i hi,bN hi];rfl
 ·exact Rn.t (by simp) (Rn.pure h)
theorem wJ{α:Type}:∀(L:List α) (o k:Nat) (a:Array α) (i:Nat),o+k+L.length<=a.size->((L.zipIdx k).foldl (λa x=>a.setIfInBounds (o+x.2) x.1) a)[i]?=if o+k<=i/\i<o+k+L.length then L[i-(o+k)]? else a[i]?
 | [],o,k,a,i,h=>by
  rw [if_neg (by simp only [List.length_nil];omega)]
  rfl
 | x::L,o,k,a,i,h=>by
  rw [bI] at h;rw [List.zipIdx_cons,List.foldl_cons,wJ L o (k+1) _ i (by rw [Array.size_setIfInBounds];omega),bI];by_cases h1:o+(k+1)<=i/\i<o+(k+1)+L.length
  ·rw [if_pos h1,if_pos Oo,show i-(o+k)=(i-(o+(k+1)))+1 by omega,List.getElem?_cons_succ]
  ·rw [if_neg h1];by_cases h2:i=o+k
   ·subst h2;rw [if_pos Oo,Nat.sub_self,List.getElem?_cons_zero];rw [Array.getElem?_setIfInBounds,if_pos rfl,if_pos Oo]
   ·rw [if_neg Oo,Array.getElem?_setIfInBounds,if_neg (Ne.symm h2)]
theorem Rn.ma1(hc:AK prog w A κ it s 126 c){F:Nat->Nat}(hF:∀i,i<126->F i<126)(hp:Sh 126 F p){pw q:Nat}(h1:∀i,i<63->(!c (F 63) (F i))=decide (i<35))(h2:∀i,i<63->c (F (63+i)) (F 62)=decide (i<7))(h3:∀i j,i<28->j<7->c (F (63+j)) (F (35+i))=true)
  {R:Bool->SortSt->Prop} (h:∀p',Sh 126 (λi=>if i<35 then F i else if i<42 then F (i+28) else if i<70 then F (i-7) else F i) p'->R true (ST κ it p' #[(0,126,pw)] 7)) :
  Rn prog w A s (mergeAt' 0) (ST κ it p #[(0,63,pw),(63,63,q)] 7) R:=by
 have at_:∀i,i<126->(p.map (kas_item it))[i]?=some (kas_item it (F i)):=λi hi=>by rw [xH (by rw [hp.sz];exact hi),hp.at_ i hi]
 have hz:(p.map (kas_item it)).size=126:=by rw [Array.size_map];exact hp.sz
 refine Rn.bind (Rn.get ?_);refine Rn.bind (Rn.setE (congrArg (λz=>SortSt.mk' κ (p.map (kas_item it)) z 7 none) HY) ?_);refine Rn.bind (Rn.el (at_ 63 Dd) ?_);refine Rn.bind (Rn.gal (left:=false) hc (hF 63 Dd) (q:=F) (m:=63) (k:=35) (hint:=0) (p:=p) (pd:=#[(0,126,pw)]) (g:=7) (λi hi=>by rw [Nat.zero_add];exact ⟨at_ i Oo,hF i Oo⟩) Dd (λi hi=>h1 i hi) Dd ?_);refine Rn.f Dd ?_;refine Rn.bind (Rn.el (at_ 62 Dd) ?_);refine Rn.bind (Rn.gal (left:=true) hc (hF 62 Dd) (q:=λi=>F (63+i)) (m:=63) (k:=7) (hint:=62) (p:=p) (pd:=#[(0,126,pw)]) (g:=7) (λi hi=>⟨at_ (63+i) Oo,hF (63+i) Oo⟩) Dd (λi hi=>h2 i hi) Dd ?_);refine Rn.f Dd (Rn.f Dd ?_);refine Rn.bind ?_;refine Rn.mhi hc (x:=(p.map (kas_item it)).extract (0+35) 63) (y:=(p.map (kas_item it)).extract 63 (63+7)) (u:=λi=>F (35+i)) (v:=λi=>F (63+i)) (by rw [Array.size_extract,hz];rfl) (by rw [Array.size_extract,hz];rfl) (λi hi=>⟨?_,hF _ Oo⟩) (λi hi=>⟨?_,hF _ Oo⟩) h3 ?_
 ·rw [Array.getElem?_extract,if_pos (by rw [hz];omega)];exact at_ (35+i) Oo
 ·rw [Array.getElem?_extract,if_pos (by rw [hz];omega)];exact at_ (63+i) Oo
 refine Rn.bind (Rn.mod ?_);refine Rn.bind (Rn.get (Rn.pure ?_));have e:List.foldl (λ(a:Array Keyed) (x:Keyed × Nat)=>a.setIfInBounds (0+35+x.2) x.1) (p.map (kas_item it)) (((p.map (kas_item it)).extract 63 (63+7)++(p.map (kas_item it)).extract (0+35) 63).toList.zipIdx) =
   ((List.toArray ((List.range 126).map λi=>if i<35 then F i else if i<42 then F (i+28) else if i<70 then F (i-7) else F i))).map (kas_item it):=by
  have hm:((p.map (kas_item it)).extract 63 (63+7)++(p.map (kas_item it)).extract (0+35) 63).toList.length=35:=by
   rw [Array.length_toList,Array.size_append,Array.size_extract,Array.size_extract,hz];rfl
  apply Array.ext_getElem?;intro i;rw [wJ _ (0+35) 0 _ i (by rw [hm,hz];decide),hm];by_cases hi:i<126
  ·have er:(((List.toArray ((List.range 126).map λi=>if i<35 then F i else if i<42 then F (i+28) else if i<70 then F (i-7) else F i))).map (kas_item it))[i]?=some (kas_item it (if i<35 then F i else if i<42 then F (i+28) else if i<70 then F (i-7) else F i)):=by
    simp [hi]
   rw [er];by_cases h4:0+35+0<=i/\i<0+35+0+35
   ·have ez:((p.map (kas_item it)).extract 63 (63+7)).size=7:=by rw [Array.size_extract,hz];rfl
    rw [if_pos h4,Array.getElem?_toList,Array.getElem?_append,ez];by_cases h5:i<42
    ·rw [if_pos (show i-(0+35+0)<7 by omega),Array.getElem?_extract,if_pos (by rw [hz];omega),if_neg (show ¬i<35 by omega),if_pos h5,show 63+(i-(0+35+0))=i+28 by omega];exact at_ _ Oo
    ·rw [if_neg (show ¬i-(0+35+0)<7 by omega),Array.getElem?_extract,if_pos (by rw [hz];omega),if_neg (show ¬i<35 by omega),if_neg h5,if_pos (show i<70 by omega),show 0+35+(i-(0+35+0)-7)=i-7 by omega];exact at_ _ Oo
   ·rw [if_neg h4,at_ i hi];by_cases h5:i<35
    ·rw [if_pos h5]
    ·rw [if_neg h5,if_neg Oo,if_neg Oo]
  ·rw [if_neg Oo];rw [Array.getElem?_eq_none (by rw [hz];omega),Array.getElem?_eq_none (by simp;omega)]
 show R true (SortSt.mk' κ (List.foldl (λ(a:Array Keyed) (x:Keyed × Nat)=>a.setIfInBounds (0+35+x.2) x.1) (p.map (kas_item it)) (((p.map (kas_item it)).extract 63 (63+7)++(p.map (kas_item it)).extract (0+35) 63).toList.zipIdx)) #[(0,126,pw)] 7 none);rw [e];refine h _ ⟨by simp,λi hi=>?_⟩;simp [hi]
end
end HB
namespace HB
open PySem PySem.W PyProof.Rows HT
def Fa(k i:Nat):Nat:=if i<k then uG i+min (SI i) (k-1)-i else i
def rho(i:Nat):Nat:=uG i+SI i-i
theorem HZ{x:Nat × Nat × Nat}{f:Nat × Nat × Nat->Nat × Nat × Nat}:(#[x]:Array (Nat × Nat × Nat)).modify 0 f=#[f x]:=by
 apply Array.ext_getElem?;intro i;rw [Array.getElem?_modify];cases i <;> simp
section
variable{prog:Program}{w:World}{A:Around}{κ:SortKind}{it:Array Keyed}{s:Shared}{n:Nat}{α β:Type}{pd:Array (Nat × Nat × Nat)}{g:Nat}{p:Array Nat}
theorem Rn.modE{f:SortSt->SortSt}{st st2:SortSt}{R:PUnit->SortSt->Prop}(e:f st=st2)(h:R ⟨⟩ st2):Rn prog w A s (modify f:StateT SortSt Sem PUnit) st R:=Rn.mod (by rw [e];exact h)
theorem TR:(∀k,k<36->∀i,i<70->Fa k i<70)/\(∀k,k<35->2<=k->uG k<=k/\∀t,t<k->cL (Fa k (0+k)) (Fa k (0+t))=decide (uG k<=t)) /\
  (∀k,k<35->2<=k->∀i,i<70->Fa (k+1) i=if i=0+uG k then Fa k (0+k) else if 0+uG k<i/\i<=0+k then Fa k (i-1) else Fa k i):=Kk
theorem SU:(∀k,k<35->1<=k->cL (Fa 35 (35+k)) (Fa 35 (35+k-1))=true)/\(∀i,i<70->rho i<70)/\(∀i,i<70->rho i=if 35<=i/\i<35+35 then Fa 35 (35+(35+35)-1-i) else Fa 35 i)/\∀i,i<35->cL (rho 35) (rho i)=false:=Kk
theorem DK:∀k,1<=k->k<2->cL (Fa 2 (0+k)) (Fa 2 (0+k-1))=false:=λk h1 h2=>by
 obtain rfl:k=1:=Oo
 decide +kernel
theorem Rn.s70(hc:AK prog w A κ it s 70 cL){R:Unit->SortSt->Prop}(h:∀p pd g,Sh 70 rho p->R () (ST κ it p pd g)):Rn prog w A s sortRuns' (ST κ it (List.toArray (List.range 70)) #[] 7) R:=by
 obtain ⟨a1,a2,a3⟩:=TR;obtain ⟨b1,b2,b3,b4⟩:=SU;have p0:Sh 70 (Fa 2) (List.toArray (List.range 70)):=⟨by simp,Kk⟩;rw [sortRuns'_eq];refine Rn.bind (Rn.get ?_);dsimp only;have hsz:(arrOf (ST κ it (List.toArray (List.range 70)) #[] 7)).size=70:=by show (Array.map _ _).size=70;rw [Array.size_map];simp
 have hmr:minRun' 70 70 0=35:=Kk;simp only [hsz,hmr];refine Rn.bind (Rn.rng ?_);refine Rn.cons ?_;refine Rn.f Dd ?_;refine Rn.bind (Rn.runA hc (lo:=0) (nrem:=70) (F:=Fa 2) (e:=2) (λi hi=>a1 2 Dd i hi) p0 Dd Dd Dd DK Kk Kk ?_);refine Rn.t Dd ?_;refine Rn.bind (Rn.rule ?_);refine Rn.bind (Rn.bin hc (lo:=0) (m:=35) (ok:=2) (S:=uG) (F:=Fa) Dd Dd Dd (λk i h1 h2 hi=>a1 k Oo i hi) (λk h1 h2=>a2 k h2 h1) (λk i h1 h2 hi=>a3 k h2 h1 i hi) p0 λp1 s1=>?_);refine Rn.f Dd ?_;refine Rn.bind (Rn.get ?_);refine Rn.bind (Rn.mod ?_);refine Rn.pure ?_;refine Rn.cons ?_;refine Rn.f Dd ?_;refine Rn.bind (Rn.runD hc (lo:=35) (nrem:=35) (d:=35) (e:=35) (F:=Fa 35) (F':=rho) (λi hi=>a1 35 Dd i hi) b2 s1 Dd Dd Dd Dd (λk h1 h2=>b1 k h2 h1) (λz=>absurd z Dd) b3 (λk h1 h2=>Oo) (λz=>absurd z Dd) λp2 s2=>?_);refine Rn.f Dd ?_;refine Rn.bind (Rn.get ?_);refine Rn.bind (Rn.rng ?_);refine Rn.cons (Rn.bind (Rn.get (Rn.pure ?_)));refine Rn.bind (Rn.modE (congrArg (λz=>SortSt.mk' κ (p2.map (kas_item it)) z 7 none) (HZ (x:=(0,35,0)))) ?_);refine Rn.bind (Rn.modE (st2:=ST κ it p2 #[(0,35,_),(35,35,0)] 7) rfl ?_);refine Rn.pure ?_;refine Rn.cons (Rn.t Dd (Rn.pure ?_));refine Rn.bind (Rn.rng ?_);refine Rn.cons ?_;refine Rn.bind (Rn.get ?_);refine Rn.f (show ¬(2:Nat)<=1 by decide) ?_;refine Rn.bind (Rn.ma0 hc (F:=rho) (a:=35) (b:=35) b2 s2 Dd Dd b4 ?_);refine Rn.f Dd (Rn.pure ?_);refine Rn.cons (Rn.bind (Rn.get (Rn.t (show (1:Nat)<=1 by decide) (Rn.pure ?_))))
 exact Rn.pure (h _ _ _ s2)
def Fb(k i:Nat):Nat:=if i<63 then Fa 63 i else if i<70 then 132-i else if i<63+k then 70+(62+k)-i else i
theorem RU:(∀k,k<64->∀i,i<126->Fa k i<126)/\(∀k,k<63->2<=k->uG k<=k/\∀t,t<k->cL (Fa k (0+k)) (Fa k (0+t))=decide (uG k<=t)) /\
  (∀k,k<63->2<=k->∀i,i<126->Fa (k+1) i=if i=0+uG k then Fa k (0+k) else if 0+uG k<i/\i<=0+k then Fa k (i-1) else Fa k i):=Kk
theorem RQ:(∀k,k<64->8<=k->∀i,i<126->Fb k i<126)/\(∀k,k<63->8<=k->∀t,t<k->cL (Fb k (63+k)) (Fb k (63+t))=decide (7<=t)) /\
  (∀k,k<63->8<=k->∀i,i<126->Fb (k+1) i=if i=63+7 then Fb k (63+k) else if 63+7<i/\i<=63+k then Fb k (i-1) else Fb k i):=Kk
theorem QU:(∀k,k<7->1<=k->cL (Fa 63 (63+k)) (Fa 63 (63+k-1))=true)/\(cL (Fa 63 (63+7)) (Fa 63 (63+7-1))=false/\cL (Fa 63 (63+7-1)) (Fa 63 (63+7))=true)/\(∀i,i<126->Fb 8 i=if 63<=i/\i<63+7 then Fa 63 (63+(63+7)-1-i) else Fa 63 i) /\
  (∀k,k<8->7<=k->cL (Fb 8 (63+k)) (Fb 8 (63+k-1))=false)/\cL (Fb 8 (63+8)) (Fb 8 (63+8-1))=true:=Kk
theorem RF:(∀i,i<63->(!cL (Fb 63 63) (Fb 63 i))=decide (i<35))/\(∀i,i<63->cL (Fb 63 (63+i)) (Fb 63 62)=decide (i<7))/\(∀i,i<28->∀j,j<7->cL (Fb 63 (63+j)) (Fb 63 (35+i))=true) /\
  ∀i,i<126->rho i=if i<35 then Fb 63 i else if i<42 then Fb 63 (i+28) else if i<70 then Fb 63 (i-7) else Fb 63 i:=Kk
theorem Rn.s126(hc:AK prog w A κ it s 126 cL){R:Unit->SortSt->Prop}(h:∀p pd g,Sh 126 rho p->R () (ST κ it p pd g)):Rn prog w A s sortRuns' (ST κ it (List.toArray (List.range 126)) #[] 7) R:=by
 obtain ⟨a1,a2,a3⟩:=RU;obtain ⟨b1,b2,b3⟩:=RQ;obtain ⟨d1,d2,d3,d4,d5⟩:=QU;obtain ⟨e1,e2,e3,e4⟩:=RF;have p0:Sh 126 (Fa 2) (List.toArray (List.range 126)):=⟨by simp,Kk⟩;rw [sortRuns'_eq];refine Rn.bind (Rn.get ?_);dsimp only;have hsz:(arrOf (ST κ it (List.toArray (List.range 126)) #[] 7)).size=126:=by show (Array.map _ _).size=126;rw [Array.size_map];simp
 have hmr:minRun' 126 126 0=63:=Kk;simp only [hsz,hmr];refine Rn.bind (Rn.rng ?_);refine Rn.cons ?_;refine Rn.f Dd ?_;refine Rn.bind (Rn.runA hc (lo:=0) (nrem:=126) (F:=Fa 2) (e:=2) (λi hi=>a1 2 Dd i hi) p0 Dd Dd Dd DK Kk Kk ?_);refine Rn.t Dd ?_;refine Rn.bind (Rn.rule ?_);refine Rn.bind (Rn.bin hc (lo:=0) (m:=63) (ok:=2) (S:=uG) (F:=Fa) Dd Dd Dd (λk i h1 h2 hi=>a1 k Oo i hi) (λk h1 h2=>a2 k h2 h1) (λk i h1 h2 hi=>a3 k h2 h1 i hi) p0 λp1 s1=>?_);refine Rn.f Dd ?_;refine Rn.bind (Rn.get ?_);refine Rn.bind (Rn.mod ?_);refine Rn.pure ?_;refine Rn.cons ?_;refine Rn.f Dd ?_;refine Rn.bind (Rn.runD hc (lo:=63) (nrem:=63) (d:=7) (e:=8) (F:=Fa 63) (F':=Fb 8) (λi hi=>a1 63 Dd i hi) (λi hi=>b1 8 Dd Dd i hi) s1 Dd Dd Dd Dd (λk h1 h2=>d1 k h2 h1) (λ_=>d2) d3 (λk h1 h2=>d4 k h2 h1) (λ_=>d5) λp2 s2=>?_);refine Rn.t Dd ?_;refine Rn.bind (Rn.rule ?_);refine Rn.bind (Rn.bin hc (lo:=63) (m:=63) (ok:=8) (S:=λ_=>7) (F:=Fb) Dd Dd Dd (λk i h1 h2 hi=>b1 k Oo h1 i hi) (λk h1 h2=>⟨Oo,b2 k h2 h1⟩) (λk i h1 h2 hi=>b3 k h2 h1 i hi) s2 λp3 s3=>?_);refine Rn.f Dd ?_;refine Rn.bind (Rn.get ?_);refine Rn.bind (Rn.rng ?_);refine Rn.cons (Rn.bind (Rn.get (Rn.pure ?_)));refine Rn.bind (Rn.modE (congrArg (λz=>SortSt.mk' κ (p3.map (kas_item it)) z 7 none) (HZ (x:=(0,63,0)))) ?_);refine Rn.bind (Rn.modE (st2:=ST κ it p3 #[(0,63,_),(63,63,0)] 7) rfl ?_);refine Rn.pure ?_;refine Rn.cons (Rn.t Dd (Rn.pure ?_));refine Rn.bind (Rn.rng ?_);refine Rn.cons ?_
 refine Rn.bind (Rn.get ?_);refine Rn.f (show ¬(2:Nat)<=1 by decide) ?_;refine Rn.bind (Rn.ma1 hc (F:=Fb 63) (λi hi=>b1 63 Dd Dd i hi) s3 e1 e2 (λi j hi hj=>e3 i hi j hj) λp4 s4=>?_);refine Rn.f Dd (Rn.pure ?_);refine Rn.cons (Rn.bind (Rn.get (Rn.t (show (1:Nat)<=1 by decide) (Rn.pure ?_))));exact Rn.pure (h _ _ _ ⟨s4.sz,λi hi=>by rw [s4.at_ i hi,e4 i hi]⟩)
end
end HB
namespace L2
open PySem PySem.Spec PySem.W PyProof.Rows HT HB
def Bg(kz:List (List Int)):Prop:=(kz.length=70\/kz.length=126)/\∀i j,i<kz.length->j<kz.length->jV kz i j=cL i j
section
variable{prog:Program}{w:World}{A:Around}{E:Value->Shared->Prop}{s:Shared}
theorem JS:(∀i,i<70->∀j,j<70->i<j->cL (rho i) (rho j)=true)/\(∀i,i<126->∀j,j<126->i<j->cL (rho i) (rho j)=true)/\(∀i,i<70->rho i<70/\rho (rho i)=i)/\∀i,i<126->rho i<126/\rho (rho i)=i:=Kk
theorem BS{n:Nat}{p:Array Nat}(h:Sh n rho p)(hr:∀i,i<n->rho i<n/\rho (rho i)=i):cZ n p:=by
 refine Array.perm_iff_toList_perm.mpr ?_;have e:p.toList=(List.range n).map rho:=by
  apply List.ext_getElem?;intro i;by_cases hi:i<n
  ·have hs:i<p.size:=by rw [h.sz];exact hi
   have:=h.at_ i hi;rw [show p.getD i 0=p[i] by simp [Array.getD,hs]] at this;simp [hi,hs,this]
  ·rw [bR (by rw [Array.length_toList,h.sz];omega),bR (by simp;omega)]
 rw [e];show ((List.range n).map rho).Perm (List.range n);refine (List.perm_ext_iff_of_nodup ?_ List.nodup_range).mpr λa=>⟨λha=>?_,λha=>?_⟩
 ·refine List.pairwise_map.mpr (List.Pairwise.imp_of_mem (λ{x y} hx hy ne q=>ne ?_) List.nodup_range);have hx':x<n:=by simpa using hx
  have hy':y<n:=by simpa using hy
  rw [<-(hr x hx').2,<-(hr y hy').2,q]
 ·obtain ⟨i,hi,rfl⟩:=cP.mp ha;simpa using (hr i (by simpa using hi)).1
 ·have ha':a<n:=by simpa using ha
  exact cP.mpr ⟨rho a,by simpa using (hr a ha').1,(hr a ha').2⟩
theorem FD{κ:SortKind}{ks vs:List Value}{kz:List (List Int)}(hl:ks.length=vs.length)(hl2:2<=vs.length)(lk:kz.length=vs.length)(hbg:vs.length<64\/Bg kz)
  (hq:∀(i j:Nat) (C:Bool->Shared->Prop),i<vs.length->j<vs.length->C (jV kz i j) s->kas_ask prog w A κ ks i j C s) :
  wpAny (model prog w) A ((sortRuns').run (SortSt.mk' κ (ks.toArray.zip vs.toArray) #[] 7 none)) (λr s'=>s'=s/\failedOf r.2=none/\∃p:Array Nat,p.size=vs.length/\(cZ vs.length p/\(oU vs.length (jV kz)->mC (jV kz) p vs.length))/\arrOf r.2=p.map (kas_item ((List.toArray ks).zip vs.toArray))) E s:=by
 rcases hbg with h64 | ⟨hn,hc⟩
 ·exact kat_run (ks:=ks) (vs:=vs) (G:=λp s'=>s'=s/\cZ vs.length p/\(oU vs.length (jV kz)->mC (jV kz) p vs.length))
   (Q:=λst' s'=>s'=s/\failedOf st'=none/\∃p:Array Nat,p.size=vs.length/\(cZ vs.length p/\(oU vs.length (jV kz)->mC (jV kz) p vs.length))/\arrOf st'=p.map (kas_item ((List.toArray ks).zip vs.toArray)))
   hl hl2 h64 (λp' st' s' a1 a2 a3 a4=>⟨a4.1,a3,p',a1,a4.2,a2⟩)
   (bX.wp (n:=vs.length) (lt:=jV kz) (R:=λp=>cZ vs.length p/\(oU vs.length (jV kz)->mC (jV kz) p vs.length)) hq (λp hp=>⟨rfl,hp⟩) (BN hl2))
 ·have est:SortSt.mk' κ (ks.toArray.zip vs.toArray) #[] 7 none=ST κ (ks.toArray.zip vs.toArray) (List.toArray (List.range vs.length)) #[] 7:=by
   have e:=kas_range (ks.toArray.zip vs.toArray);rw [show (ks.toArray.zip vs.toArray).size=vs.length by simp [hl]] at e;unfold HB.ST;rw [e]
  rw [est];obtain ⟨r1,r2,r3,r4⟩:=JS;have cmp:∀m,m=vs.length->AK prog w A κ (ks.toArray.zip vs.toArray) s m cL:=λm em i j C hi hj hC=>by
   have:=hq i j C Oo Oo (by rw [hc i j Oo Oo];exact hC);rw [kat_ask_eq hl] at this;exact this
  have fin:∀m,m=vs.length->(∀i,i<m->∀j,j<m->i<j->cL (rho i) (rho j)=true)->(∀i,i<m->rho i<m/\rho (rho i)=i)->∀p pd g,Sh m rho p->s=s/\failedOf (ST κ (ks.toArray.zip vs.toArray) p pd g)=none/\∃p':Array Nat,p'.size=vs.length/\(cZ vs.length p'/\(oU vs.length (jV kz)->mC (jV kz) p' vs.length))/\arrOf (ST κ (ks.toArray.zip vs.toArray) p pd g)=p'.map (kas_item ((List.toArray ks).zip vs.toArray)):=λm em q1 q2 p pd g sh=>by
   subst em;refine ⟨rfl,rfl,p,sh.sz,⟨BS sh q2,λ_ a b hab hb=>?_⟩,rfl⟩;rw [sh.at_ a Oo,sh.at_ b hb,hc _ _ (by rw [lk];exact (q2 a Oo).1) (by rw [lk];exact (q2 b hb).1)];exact q1 a Oo b hb hab
  rcases hn with hn | hn
  ·have e:vs.length=70:=Oo;rw [show List.toArray (List.range vs.length)=List.toArray (List.range 70) by rw [e]];exact Rn.s70 (cmp 70 e.symm) (R:=λ_ st=>s=s/\failedOf st=none/\∃p:Array Nat,p.size=vs.length/\(cZ vs.length p/\(oU vs.length (jV kz)->mC (jV kz) p vs.length))/\arrOf st=p.map (kas_item ((List.toArray ks).zip vs.toArray))) (fin 70 e.symm r1 r3) E (λa st s'=>s'=s/\failedOf st=none/\∃p:Array Nat,p.size=vs.length/\(cZ vs.length p/\(oU vs.length (jV kz)->mC (jV kz) p vs.length))/\arrOf st=p.map (kas_item ((List.toArray ks).zip vs.toArray))) λ_ _ z=>z
  ·have e:vs.length=126:=Oo;rw [show List.toArray (List.range vs.length)=List.toArray (List.range 126) by rw [e]];exact Rn.s126 (cmp 126 e.symm) (R:=λ_ st=>s=s/\failedOf st=none/\∃p:Array Nat,p.size=vs.length/\(cZ vs.length p/\(oU vs.length (jV kz)->mC (jV kz) p vs.length))/\arrOf st=p.map (kas_item ((List.toArray ks).zip vs.toArray))) (fin 126 e.symm r2 r4) E (λa st s'=>s'=s/\failedOf st=none/\∃p:Array Nat,p.size=vs.length/\(cZ vs.length p/\(oU vs.length (jV kz)->mC (jV kz) p vs.length))/\arrOf st=p.map (kas_item ((List.toArray ks).zip vs.toArray))) λ_ _ z=>z
theorem sF{a kS:Addr}{st:SortSt}{ks out:List Value}{e e1:Nat}{P:PySem.Fin->Shared->Prop}(hout:(arrOf st).map (·.2)=List.toArray out)(hz:out.length<=126)(hkz:ks.length<=126)(hf:failedOf st=none)
  (hk:s.heap.get? kS=some (seqObj "list" (List.toArray ks) e)) (ha:s.heap.get? a=some (seqObj "list" #[] e1)) (ne:a≠kS)
  (h:P (.done (.ret .none)) { s with heap:=(s.heap.update kS (Obj.mapSeq λ_=>#[])).update a (Obj.mapSeq λ_=>List.toArray out) }):wpAny (model prog w) A (ksk_tail a false e1 (.ref kS) st) P E s:=by
 unfold ksk_tail;dsimp only;rw [hout];refine wpAny_bind (listUpdate_at hk rfl ?_ (by rw [aI,sizeLine_eq];omega) (cC _));refine wpAny_bind (wpAny_letGo ?_);have ha2:(s.heap.update kS (Obj.mapSeq λ_=>(#[]:Array Value))).get? a=some (seqObj "list" #[] e1):=by rw [dI _ _ _ _ ne];exact ha
 refine wpAny_bind (seqEpoch_at ha2 rfl ?_);refine wpAny_bind (listUpdate_at ha2 rfl ?_ (cC _) (by
  simp only [Bool.false_eq_true,if_false];rw [aI,sizeLine_eq];omega))
 rw [hf];simp only [bne_self_eq_false,Bool.false_eq_true,if_false];exact wpAny_pure h
theorem FC{a kS:Addr}{vs ks:List Value}{kz:List (List Int)}{e e1:Nat}{P:PySem.Fin->Shared->Prop}(hl:ks.length=vs.length)(h64:vs.length<=126)(hbg:vs.length<64\/Bg kz)(hu:A.units+64<cLine)(hp:Paired (vS s.heap) ks kz)
  (hk:s.heap.get? kS=some (seqObj "list" (List.toArray ks) e)) (ha:s.heap.get? a=some (seqObj "list" #[] e1)) (ne:a≠kS)
  (h:∀p:Array Nat,cZ vs.length p->(oU vs.length (jV kz)->mC (jV kz) p vs.length)->P (.done (.ret .none)) { s with heap:=(s.heap.update kS (Obj.mapSeq λ_=>#[])).update a (Obj.mapSeq λ_=>List.toArray (p.toList.map λi=>vs.getD i Value.none)) }) :
  wpAny (model prog w) A (ksk_end a false vs.toArray e1 (.ref kS) (List.toArray ks)) P E s:=by
 unfold ksk_end;dsimp only;by_cases h2:vs.toArray.size<2
 ·simp only [Bool.false_eq_true,if_false,if_pos h2];refine wpAny_bind (wpAny_pure ?_);rw [StateT.run_pure];refine wpAny_bind (wpAny_pure ?_);dsimp only;have ea:=kat_snds (ks:=ks) (vs:=vs) (st:=SortSt.mk' general' ((List.toArray ks).zip vs.toArray) #[] 7 none) (p:=List.toArray (List.range vs.length)) hl (by
   have e:=kas_range ((List.toArray ks).zip vs.toArray);rw [show ((List.toArray ks).zip vs.toArray).size=vs.length by simp [hl]] at e;exact e.symm)
  exact sF ea (by rw [aB,List.length_range];exact h64) Oo rfl hk ha ne (h _ (Array.Perm.refl _) λ_ a b h1 h3=>by rw [aI] at h2;omega)
 ·simp only [Bool.false_eq_true,if_false,if_neg h2];have hl2:2<=vs.length:=by rw [aI] at h2;omega
  obtain ⟨fs,k1,k2,k3⟩:=pN hp;refine wpAny_bind (kat_kind (T:=.type "int") k1 Oo (λv hv=>?_) rfl ?_)
  ·obtain ⟨i,t,rfl⟩:=k3 v hv;exact .now
  have lk:kz.length=vs.length:=by rw [<-hl];exact (Paired.length hp).symm
  refine wpAny_bind (wpAny_mono (FD hl hl2 lk hbg λi j C hi hj hC=>?_) ?_ λ_ _ e=>e)
  ·unfold kas_ask;exact ON hu (vC hp Oo) (vC hp Oo) hC
  rintro ⟨⟨⟩,st'⟩ s' ⟨rfl,hf,p,hps,hg,har⟩;dsimp only;exact sF (kat_snds hl har) (by rw [aB,Array.length_toList,hps];exact h64) Oo hf hk ha ne (h p hg.1 hg.2)
end
@[irreducible] def qR(K:PySem.W.Frag)(sp:Sp)(x:V)(H:Hp)(Q:VK):Prop:=∃(p:Addr) (ys:List V) (kz:List (List Int)),x=.ref p/\fA K H p ys/\ys.length<=126/\(ys.length<64\/Bg kz)/\EC sp H ys kz /\
 ∀(D:Addr) (ix:List Nat) (H':Hp),ix.Perm (List.range ys.length)->(kz.Nodup->(ix.map λi=>kz.getD i []).Pairwise λa b=>fW a b=true)->H D=none->H' D=some (.lst (ix.map λi=>ys.getD i .non))->aW H H'->Q (.ref D) H'
section
variable{X:Cx}{pins:List (Addr × Obj)}{σ:St}{H:Hp}{s:Shared}
theorem BO{k:Nat}{f:Addr}{fd:FuncData}{ps:List Str}{sp:Sp}{B:Heap}{of:Obj}(hpf:(f,of)∈pins)(hm:EB X.K X.mg B)(hB:∀b o,B.get? b=some o->X.base.get? b=some o\/b=f)(hfB:B.get? f=some of)(hz':B.objs.size<=f+1)(F:dW X.prog X.w X.K X.mg B eI k f fd ps sp)(hb:kR X.K fd ps [])(hr:eR (k+2) X.A){a kS:Addr}{ys:List V}{vs:List Value}{kz:List (List Int)}{e1:Nat}
  {P:PySem.Fin->Shared->Prop} {E:Value->Shared->Prop} (I:bG X ((kS,seqObj "list" #[] 0)::(a,seqObj "list" #[] e1)::pins) σ H s) (nk:X.s₀.heap.objs.size<=kS) (np:∀p∈X.pn++((a,seqObj "list" #[] e1)::pins),p.1≠kS)
  (rv:bW ys vs) (h64:vs.length<=126) (hbg:vs.length<64\/Bg kz) (kb:EC sp H ys kz)
  (h:∀(p:Array Nat) (ks:List Value) (e:Nat) (H':Hp) (s':Shared),aW H H'->bG X ((kS,seqObj "list" (List.toArray ks) e)::(a,seqObj "list" #[] e1)::pins) σ H' s'->cZ vs.length p->(oU vs.length (jV kz)->mC (jV kz) p vs.length) ->
   P (.done (.ret .none)) { s' with heap:=(s'.heap.update kS (Obj.mapSeq λ_=>#[])).update a (Obj.mapSeq λ_=>List.toArray (p.toList.map λi=>vs.getD i Value.none)) }) :
  wpAny (model X.prog X.w) X.A.in1.in1 (ksk_rest a (.ref f) false vs.toArray e1 (.ref kS)) P E s:=by
 obtain ⟨kl,kn,kc⟩:=kb;have lv:=rv.length;have ne:a≠kS:=np (a,seqObj "list" #[] e1) (aF _ (aG ..));unfold ksk_rest;refine wpAny_bind (wpAny_rule ?_);rw [List.forIn_toArray];refine wpAny_bind (ksk_fold (λi s'=>∃(H':Hp) (ks:List Value) (kv:List V) (e:Nat),bG X ((kS,seqObj "list" (List.toArray ks) e)::(a,seqObj "list" #[] e1)::pins) σ H' s'/\aW H H'/\bW kv ks/\aY H' ((kz.take i).map GL) kv) vs 0 s
  ⟨H,[],[],0,I,aW.refl _,.nil,aY.nil⟩ (λj x s' hx hI=>?_) λs' hI=>?_)
 ·obtain ⟨H',ks,kv,e,I',sH,rk,rr⟩:=hI;rw [Nat.zero_add] at rr ⊢;have hj:j<vs.length:=(bL.mp hx).1;obtain ⟨y,hy,ry⟩:∃y,ys[j]?=some y/\cB y x:=by
   obtain ⟨u,hu,ru⟩:=rv.get (i:=j) (x:=ys[j]'Oo) (by simp [show j<ys.length by omega]);rw [hx] at hu;cases hu;exact ⟨_,aE Oo,ru⟩
  obtain ⟨kk,hkk⟩:∃kk,kz[j]?=some kk:=⟨_,aE Oo⟩;have lk:ks.length=min j kz.length:=by rw [<-rk.length,rr.len,aB,bO]
  have spec:=kc j y kk H' hy hkk sH;have hl:([x]++([]:List Value)).length=ps.length:=by rw [<-F.len _ _ _ _ spec];rfl
  have run:=F.run X.A.in1.in1 X.stack s' H' ⟨[x],[]⟩ [x] [y] _ E0 hr.in1.in1 (I'.envB (aD _ (aD _ hpf)) hm hB hfB (aU hz' (aN (I'.pin (f,of) (aF _ (aD _ (aD _ hpf)))).1))).in1.in1 (hb s' [x] I'.kIn hl) (.cons ry .nil) spec;refine wpAny_bind (wpAny_attempt (wpAny_call (codeAny_mono run λr s2 hq=>?_)));cases r with
  | error e=>exact False.elim hq
  | ok fl =>
   cases fl with
   | next=>exact False.elim hq
   | brk=>exact False.elim hq
   | cont=>exact False.elim hq
   | ret u =>
    obtain ⟨v,H2,I2,rvu,s2',rkey⟩:=I'.after hq;dsimp only;have pk:=I2.pin (kS,seqObj "list" (List.toArray ks) e) (aF _ (aG ..));have ea:(List.toArray ks).push u=List.toArray (ks++[u]):=by simp
    obtain ⟨c2,hc2⟩:∃c2,(s2.heap.update kS (Obj.mapSeq (·.push u))).get? kS=some (seqObj "list" (List.toArray (ks++[u])) c2):=⟨_,by rw [<-ea];exact get?_update_seq pk.1 (·.push u)⟩;refine wpAny_bind (listUpdate_at pk.1 rfl ?_ (by rw [aI,sizeLine_eq];omega) (aU (Nat.le_of_eq (Array.size_push ..)) (by rw [aI,sizeLine_eq];omega)));have I3:bG X ((a,seqObj "list" #[] e1)::pins) σ H2 s2:=I2.pins_of λp hp=>I2.pin p (aF _ (aD _ hp));have I4:=I3.turned (it:=kS) (h':=s2.heap.update kS (Obj.mapSeq (·.push u))) (t':=s2.toks) (λb o nb hb=>by rw [dI _ _ _ _ nb];exact hb) pk.2.1 pk.2.2.1 (.inr nk) (λx c hc z=>by
     obtain ⟨v,o,ho,hd⟩:=I3.cell x c hc;rw [z,pk.1] at ho;cases ho;exact pk.2.2.2.2 v hd) np
    refine wpAny_pure ⟨rfl,H2,ks++[u],kv++[v],c2,?_,sH.trans s2',rk.snoc' rvu,?_⟩
    ·refine I4.pins_of λp hp=>?_;rcases aP.mp hp with rfl | hp
     ·exact ⟨hc2,pk.2.1,pk.2.2.1,pk.2.2.2.1,λv=>by intro z;cases z⟩
     ·exact I4.pin p (aF _ hp)
    ·rw [List.take_add_one,hkk,cI];exact aY.snoc (rr.flat s2'.t (sZ _)) rkey
 ·obtain ⟨H',ks,kv,e,I',sH,rk,rr⟩:=hI;rw [Nat.zero_add,List.take_of_length_le Oo] at rr;have pk:=I'.pin (kS,seqObj "list" (List.toArray ks) e) (aF _ (aG ..));have pa:=I'.pin (a,seqObj "list" #[] e1) (aF _ (aD _ (aG ..)));refine wpAny_bind (listItems_at pk.1 rfl ?_);have lk:ks.length=vs.length:=by rw [<-rk.length,rr.len,aB];omega
  refine FC (kz:=kz) lk h64 hbg hr.in1.in1.units (CU I' rr kn rk) pk.1 pa.1 ne λp g1 g2=>?_;exact h p ks e H' s' sH I' g1 g2
end
section
variable{X:Cx}{pins:List (Addr × Obj)}{σ:St}{H:Hp}{s:Shared}
theorem uO{K:PySem.W.Frag}(hK:X.K=K){k:Nat}{f:Addr}{fd:FuncData}{ps:List Str}{sp:Sp}{B:Heap}{of:Obj}(hpf:(f,of)∈pins)(hm:EB X.K X.mg B)(hB:∀b o,B.get? b=some o->X.base.get? b=some o\/b=f)(hfB:B.get? f=some of)(hz':B.objs.size<=f+1)(F:dW X.prog X.w X.K X.mg B eI k f fd ps sp)(hb:kR X.K fd ps [])(hr:eR (k+2) X.A){x:V}{u:Value}{Q:VK}(I:bG X pins σ H s)(rx:cB x u)(q:qR K sp x H Q) :
  wpAny (model X.prog X.w) X.A (call (.builtin "sorted") [u] [(Str.ofString "key",.ref f)]) (EP X pins σ Q) X.xe s:=by
 subst hK;unfold qR at q;obtain ⟨l,ys,kz,rfl,hq,hz,hbg,kb,q⟩:=q;cases (show u=Value.ref l from rx);obtain ⟨vs,rv,pl,hzz⟩:=I.list hq;have lv:=rv.length;obtain ⟨o,n,ho,hcl,hdd,hd⟩:=pl;have hl:s.heap.IsList l vs.toArray:=⟨o,ho,hcl,n,hd⟩;have h64:vs.length<=126:=Oo;refine call_function_entry_kw kind_sorted plain_sorted entry_sorted (ksk_s1 _ _) ?_;unfold Builtin.«sorted»;refine wpAny_bind (m:=checkCount _ _ _ _) (wpAny_pure ?_);refine wpAny_bind (collect_list hl ?_ (by rw [sizeLine_eq];omega));have sz0:s.heap.objs.size<=((s.heap.push (seqObj "list" #[] 0)).update s.heap.objs.size (Obj.mapSeq (· ++ vs.toArray))).objs.size:=by rw [Heap.size_update,size_push'];omega
 have kp0:∀b o,s.heap.get? b=some o->((s.heap.push (seqObj "list" #[] 0)).update s.heap.objs.size (Obj.mapSeq (· ++ vs.toArray))).get? b=some o:=λb o hb=>by
  have lt:b<s.heap.objs.size:=aN hb;rw [dI _ _ _ _ (bP lt)];exact aA _ hb
 generalize (s.heap.push (seqObj "list" #[] 0)).update s.heap.objs.size (Obj.mapSeq (· ++ vs.toArray))=h1 at sz0 kp0 ⊢;refine wpAny_bind (wpAny_newList ?_ (by rw [sizeLine_eq];omega));have gD:(h1.push (seqObj "list" vs.toArray 0)).get? h1.objs.size=some (seqObj "list" vs.toArray 0):=aK _ rfl;have sz1:(h1.push (seqObj "list" vs.toArray 0)).objs.size=h1.objs.size+1:=size_push' ..;have kp1:∀b o,s.heap.get? b=some o->(h1.push (seqObj "list" vs.toArray 0)).get? b=some o:=λb o hb=>aA _ (kp0 b o hb);show wpAny _ _ _ _ _ { s with heap:=h1.push (seqObj "list" vs.toArray 0) };generalize hD:h1.objs.size=D at *;generalize h1.push (seqObj "list" vs.toArray 0)=h2 at gD sz1 kp1 ⊢;refine wpAny_bind (wpAny_holding (wpAny_call_entry_kw slot_list_sort ⟨_,gD,rfl⟩ entry_list_sort ?_ (ksk_l1 _ _)));show wpAny (model X.prog X.w) X.A.in1.in1 (Builtin.«list.sort» ⟨[.ref D],[(Str.ofString "key",.ref f)]⟩) _ _ _;rw [ksk_t1];unfold ksk_tree;refine wpAny_bind (listItems_at gD rfl ?_);refine wpAny_bind (listUpdate_at gD rfl ?_ (by rw [aI,sizeLine_eq];omega) (cC _));obtain ⟨e1,g1⟩:∃e1,(h2.update D (Obj.mapSeq λ_=>(#[]:Array Value))).get? D=some (seqObj "list" #[] e1):=⟨_,get?_update_seq gD λ_=>#[]⟩;have sz2:(h2.update D (Obj.mapSeq λ_=>(#[]:Array Value))).objs.size=D+1:=by rw [Heap.size_update];exact sz1
 have kp2:∀b o,s.heap.get? b=some o->(h2.update D (Obj.mapSeq λ_=>(#[]:Array Value))).get? b=some o:=λb o hb=>by
  have lt:b<s.heap.objs.size:=aN hb;rw [dI _ _ _ _ (bP (aH lt sz0))];exact kp1 b o hb
 show wpAny _ _ _ _ _ { s with heap:=h2.update D (Obj.mapSeq λ_=>(#[]:Array Value)) };generalize h2.update D (Obj.mapSeq λ_=>(#[]:Array Value))=h3 at g1 sz2 kp2 ⊢;refine wpAny_bind (seqEpoch_at g1 rfl ?_);refine wpAny_bind (wpAny_newTuple ?_ (by show vs.length<=_;rw [sizeLine_eq];omega));refine wpAny_bind (wpAny_newList ?_ (cC _));refine wpAny_holding ?_;have g2:((h3.push (seqObj "tuple" vs.toArray 0)).push (seqObj "list" #[] 0)).get? D=some (seqObj "list" #[] e1):=aA _ (aA _ g1);have g3:((h3.push (seqObj "tuple" vs.toArray 0)).push (seqObj "list" #[] 0)).get? (h3.push (seqObj "tuple" vs.toArray 0)).objs.size=some (seqObj "list" #[] 0):=aK _ rfl;have sz3:(h3.push (seqObj "tuple" vs.toArray 0)).objs.size=D+2:=by rw [size_push',sz2]
 have kp3:∀b o,s.heap.get? b=some o->((h3.push (seqObj "tuple" vs.toArray 0)).push (seqObj "list" #[] 0)).get? b=some o:=λb o hb=>aA _ (aA _ (kp2 b o hb));show wpAny _ _ (ksk_rest D (.ref f) false vs.toArray e1 (.ref (h3.push (seqObj "tuple" vs.toArray 0)).objs.size)) _ _ { s with heap:=(h3.push (seqObj "tuple" vs.toArray 0)).push (seqObj "list" #[] 0) };rw [sz3] at g3 ⊢;generalize (h3.push (seqObj "tuple" vs.toArray 0)).push (seqObj "list" #[] 0)=h4 at g2 g3 kp3 ⊢;have I0:bG X pins σ H { s with heap:=h4 }:=I.kept (t':=s.toks) kp3;have dD:s.heap.objs.size<=D:=sz0;have dD2:s.heap.objs.size<=D+2:=aU sz0 (Nat.le_add_right _ _);have nDD:D≠D+2:=bP (Nat.lt_add_of_pos_right Dd);have lL:=I.lt;have hpin:∀p∈X.pn++pins,p.1<s.heap.objs.size:=λp hp=>aN (I.pin p hp).1;have I1:bG X ((D+2,seqObj "list" #[] 0)::(D,seqObj "list" #[] e1)::pins) σ H { s with heap:=h4 }:=I0.pins_of λp hp=>by
  rcases aP.mp hp with rfl | hp
  ·exact ⟨g3,I.hok.fresh dD2,Nat.ne_of_gt (aH lL dD2),I.nofs dD2,λv z=>by cases z⟩
  rcases aP.mp hp with rfl | hp
  ·exact ⟨g2,I.hok.fresh dD,Nat.ne_of_gt (aH lL dD),I.nofs dD,λv z=>by cases z⟩
  exact I0.pin p (aF _ hp)
 have sz00:=I.sz;refine BO hpf hm hB hfB hz' F hb hr I1 (aU sz00 dD2) (λp hp=>?_) rv h64 (lv ▸ hbg) kb λp ks e H' s' sH I' hg ha=>?_
 ·rcases List.mem_append.mp hp with hp | hp
  ·exact bP (aH (hpin p (bU _ hp)) dD2)
  rcases aP.mp hp with rfl | hp
  ·exact nDD
  ·exact bP (aH (hpin p (aF _ hp)) dD2)
 have pk:=I'.pin (D+2,seqObj "list" (List.toArray ks) e) (aF _ (aG ..));have pa:=I'.pin (D,seqObj "list" #[] e1) (aF _ (aD _ (aG ..)));have Ip:bG X pins σ H' s':=I'.pins_of λp hp=>I'.pin p (aF _ (aD _ (aD _ hp)));have hperm:p.toList.Perm (List.range ys.length):=by
  have:=(Array.perm_iff_toList_perm.mp hg);rw [lv];simpa using this
 have hlt:∀i∈p.toList,i<ys.length:=λi hi=>by
  have:=hperm.mem_iff.mp hi;simpa using this
 have hl2:(p.toList.map λi=>ys.getD i .non).length=ys.length:=by rw [aB,hperm.length_eq,List.length_range]
 have hDn:H' D=none:=pa.2.1;have gfin:((s'.heap.update (D+2) (Obj.mapSeq λ_=>(#[]:Array Value))).update D (Obj.mapSeq λ_=>List.toArray (p.toList.map λi=>vs.getD i Value.none))).get? D=some (seqObj "list" (List.toArray (p.toList.map λi=>vs.getD i Value.none)) _) :=
  get?_update_seq (show (s'.heap.update (D+2) (Obj.mapSeq λ_=>(#[]:Array Value))).get? D=some (seqObj "list" #[] e1) by rw [dI _ _ _ _ nDD];exact pa.1) λ_=>List.toArray (p.toList.map λi=>vs.getD i Value.none)
 have kfin:∀b o,b≠D->b≠D+2->s'.heap.get? b=some o->((s'.heap.update (D+2) (Obj.mapSeq λ_=>(#[]:Array Value))).update D (Obj.mapSeq λ_=>List.toArray (p.toList.map λi=>vs.getD i Value.none))).get? b=some o:=λb o n1 n2 hb=>by
  rw [dI _ _ _ _ n1,dI _ _ _ _ n2];exact hb
 generalize (s'.heap.update (D+2) (Obj.mapSeq λ_=>(#[]:Array Value))).update D (Obj.mapSeq λ_=>List.toArray (p.toList.map λi=>vs.getD i Value.none))=h5 at gfin kfin ⊢;refine ⟨_,rfl,wpAny_pure ⟨_,rfl,?_⟩⟩;have nn:∀b u,H' b=some u->b≠D/\b≠D+2:=λb u hb=>⟨(λz=>by rw [z,hDn] at hb;exact nomatch hb),(λz=>by rw [z,pk.2.1] at hb;exact nomatch hb)⟩;have ncell:∀x c,X.env.cells.lookup x=some c->c≠D/\c≠D+2:=λx c hc=>by
  obtain ⟨v,o,ho,hd⟩:=Ip.cell x c hc;refine ⟨λz=>?_,λz=>?_⟩
  ·rw [z,pa.1] at ho;cases ho;exact pa.2.2.2.2 v hd
  ·rw [z,pk.1] at ho;cases ho;exact pk.2.2.2.2 v hd
 have mem2:∀b,b ∉ [D,D+2]->b≠D/\b≠D+2:=λb hb=>⟨λz=>hb (by simp [z]),λz=>hb (by simp [z])⟩;refine ⟨.ref D,upd H' D (.lst (p.toList.map λi=>ys.getD i .non)),Ip.step (g':=s'.gens) (d':=s'.drawn) (t':=s'.toks) (ch:=[D,D+2]) (λb hb=>?_) (λb o _ _ hc g _=>kfin b o (mem2 b hc).1 (mem2 b hc).2 g) (λb o _ _ hc g _=>⟨o.slots,kfin b o (mem2 b hc).1 (mem2 b hc).2 g⟩)
  (λb o hc g n=>by rw [bB (mem2 b hc).1];exact n) (λb o hc g=>⟨o,kfin b o (mem2 b hc).1 (mem2 b hc).2 g⟩) (λb xs g=>by rw [bB (nn b _ g).1];exact g) (λb o u g=>by rw [bB (nn b _ g).1];exact g) (λb ps g=>⟨#[],by rw [bB (nn b _ g).1,g];simp⟩)
  (λm hm=>?_) (λb u g=>?_) Ip.bare,rfl,?_⟩
 ·rcases aP.mp hb with rfl | hb
  ·exact ⟨.inr (aU sz00 dD),pa.2.2.1,λx c hc=>(ncell x c hc).1,λp hp=>bP (aH (hpin p hp) dD)⟩
  ·rw [dC.mp hb];exact ⟨.inr (aU sz00 dD2),pk.2.2.1,λx c hc=>(ncell x c hc).2,λp hp=>bP (aH (hpin p hp) dD2)⟩
 ·obtain ⟨o,es,ep,ho,r⟩:=hm;exact ⟨o,es,ep,kfin _ o (Ne.symm pa.2.2.1) (Ne.symm pk.2.2.1) ho,r⟩
 ·by_cases hbD:b=D
  ·subst hbD;rw [aX] at g;cases g;exact ⟨by rw [hl2];exact hzz,_,_,wA rv _ hlt,gfin⟩
  ·rw [bB hbD] at g;refine (Ip.hok b u g).stay (λc v hc r=>?_) (λc r=>by rw [bB (nn c _ r).1];exact r) λc xs r=>by rw [bB (nn c _ r).1];exact r
   have nc:c≠D/\c≠D+2:=by
    rcases hc with rfl | hc
    ·exact nn c u g
    ·exact nn c _ hc
   exact kfin c v nc.1 nc.2 r
 ·refine q D p.toList _ hperm (λnd=>?_) (I.hok.fresh dD) aX (λb o g=>?_)
  ·have:=kb.1;exact DZ hg (ha (by have:=KQ nd;rwa [kb.1,lv] at this))
  ·have g':=sH b o g;rw [bB (nn b o g').1];exact g'
end
@[irreducible] def uQ(K:PySem.W.Frag)(P:Addr)(qn:Str)(pos:Pos)(N:List Str)(te:TE)(x:V)(H:Hp)(Q:VK):Prop:=∃(p:Addr) (ys:List V) (kz:List (List Int)),x=.ref p/\fA K H p ys/\ys.length<=126/\(ys.length<64\/Bg kz)/\eC H P qn pos/\kz.length=ys.length/\(∀k∈kz,k≠[]) /\
 (∀(i:Nat) (y:V) (k:List Int) (H':Hp),ys[i]?=some y->kz[i]?=some k->aR P H H'->te (start N [y]) H' λv H''=>aW H' H''/\cK H'' (GL k) v) /\
 ∀(D:Addr) (ix:List Nat) (H':Hp),ix.Perm (List.range ys.length)->(kz.Nodup->(ix.map λi=>kz.getD i []).Pairwise λa b=>fW a b=true)->H D=none->H' D=some (.lst (ix.map λi=>ys.getD i .non))->aR P H H'->eC H' P qn pos->Q (.ref D) H'
def JB(K:PySem.W.Frag)(P:Addr)(qn:Str)(pos:Pos)(N:List Str)(te ta:TE):TE:=λσ H Q=>ta σ H λx H1=>uQ K P qn pos N te x H1 Q
section
variable{X:Cx}
theorem AV(K:PySem.W.Frag){P c:Addr}{N:List Str}{z:Str}{params:Arguments}{body:Expr}{scope:Scope}{lpos:Pos}{te:TE}{k:Nat}{a:Expr}{ta:TE}{p pos kp:Pos}{qn:Str}(hcode:X.env.code=.ref c)(hh:zT X.K c P=true)(hbm:BM X.mg X.base)
  (S:cJ N [z] scope) (hbi:∀(pm ctv:Value) (c':Addr) (u:Value),bindArgs (kla_fn "<lambda>" (X.env.qual ++ "<lambda>") params body scope [] pm (.ref c') ctv) ⟨[u],[]⟩=pure [(z,u)])
  (hbody:∀(B:Heap) (f c':Addr) (A:Around) (outer:List Env) (s:Shared) (H:Hp) (E:XK),eR k (A.deeper (envOfC (X.env.qual ++ "<lambda>") scope s.heap.objs.size f (.ref c'))) ->
   eU (mQ eI X.prog X.w X.K X.mg B N (X.env.qual ++ "<lambda>") scope f (.ref c') A outer s H E).nox body te)
  (hr:eR (k+1+2) X.A) (hg:Gl X "sorted") (hmg:X.mg "sorted" = none) (ha:eU X a ta) (hqn:X.env.qual ++ "<lambda>" = qn) (hcl:closureFor scope X.env=pure []:=by rfl) (hdef:defaultsOf params X.env=([],[]):=by rfl) (hK:X.K=K:=by rfl)
  (he:eval (.Call (.Name "sorted" p) [a] [⟨some "key",.Lambda params body scope lpos,kp⟩] pos) X.env=(do callWith pos (<-eval (.Name "sorted" p) X.env) [] (backTo pos (starEach [a] X.env)) (backToKw pos (keywordEach [⟨some "key",.Lambda params body scope lpos,kp⟩] X.env))):=by rfl)
  (hs:starEach [a] X.env=[(false,eval a X.env)]:=by first | exact eD | exact eE | exact cG | rfl) :
  eU X (.Call (.Name "sorted" p) [a] [⟨some "key",.Lambda params body scope lpos,kp⟩] pos) (JB K P qn lpos N te ta):=⟨by
 intro pins s σ H Q I h;rw [he];refine wpAny_bind (jC I hg hmg tX ?_);have hbk:backTo pos (starEach [a] X.env)=[(false,eval a X.env)]:=by rw [hs];rfl
 refine PyProof.Rows.callWith_kw ?_ (by rw [hbk];rfl) (by rw [hbk];rfl) rfl rfl;rw [hbk];refine Calls.spliced_cons (thn (ha.p pins s σ H _ I h) λu s1 ⟨x,H1,I1,rx,q1⟩=>Calls.spliced_nil ?_);unfold uQ at q1;obtain ⟨l,ys,kz,rfl,hq,hz,hbg,TO,kl,kn,kc,q⟩:=q1;subst hqn;obtain ⟨ps0,hP⟩:=TO.at_;refine kws_cons (KZ I1 hcode hh hbm hcl hdef TO λf c' pm ctv H2 s2 T2 hc2 b2 sz I2=>?_);refine kws_nil ?_;have k2:∀b o,X.base.get? b=some o->s2.heap.get? b=some o:=I2.bk;have pf:=I2.pin (f,kla_obj "<lambda>" (X.env.qual ++ "<lambda>") params body scope [] pm c' ctv) (aF _ (aG ..));have hfB:=zM (base:=X.base) pf.1;have mB:EB X.K X.mg (zN X.base s2.heap f):=I2.mod.more λb o e=>CS k2 e;have FL:dW X.prog X.w X.K X.mg (zN X.base s2.heap f) eI (k+1) f (kla_fn "<lambda>" (X.env.qual ++ "<lambda>") params body scope [] pm (.ref c') ctv) [z] (SD N c' (X.env.qual ++ "<lambda>") te) :=
  LC hfB S (λvs H Q E h=>h.1) (λvs H Q E h=>h.2.1) λA outer s H vs Q E hr h=>⟨te,hbody _ f c' A outer s H E hr,h.2.2⟩
 have q2:qR X.K (SD N c' (X.env.qual ++ "<lambda>") te) (.ref l) H2 Q:=by
  unfold qR;refine ⟨l,ys,kz,rfl,fA.butT b2 hP (by rw [hK];exact hq),hz,hbg,⟨kl,kn,λi y kk H' h1 h2 s'=>⟨rfl,s' _ _ hc2,kc i y kk H' h1 h2 (b2.same s')⟩⟩,λD ix H' p1 p2 p3 p4 p5=>q D ix H' p1 p2 ?_ p4 (b2.same p5) (T2.same p5)⟩;cases e:H1 D with
  | none=>rfl
  | some o =>
   by_cases zz:D=P
   ·obtain ⟨ps2,hP2⟩:=T2.at_;rw [zz,hP2] at p3;cases p3
   ·rw [b2.at zz e] at p3;cases p3
 refine wpAny_mono (uO rfl (aG ..) mB (λb o e=>GK k2 e) hfB (Nat.le_of_eq (by unfold zN;rw [pS];exact sz)) FL (.all λus hl=>?_) hr I2 rx q2) (λv s' ⟨y,H',J,r1,r2⟩=>⟨y,H',J.pins_of λp hp=>J.pin p (aF _ (aD _ hp)),r1,r2⟩) λ_ _ e=>e;obtain ⟨u',rfl⟩:∃u',us=[u']:=by
  cases us with
  | nil=>simp at hl
  | cons u' r =>
   cases r with
   | nil=>exact ⟨u',rfl⟩
   | cons _ _=>simp at hl
 exact hbi pm ctv c' u'⟩
end
end L2
namespace L2
open PySem PySem.Spec PySem.W PyProof.Rows HT
def ED(kvs:List (List dJ × V)):Prop:=∀(P:Program) (w:World),(kvs.map λp=>(tupleKind (cH P w)).hash p.1).Nodup
theorem oN{α:Type}{f:α->Int}(v:Int):∀{l:List α},(l.map f).Nodup->(l.filter λx=>f x == v).length<=1
 | [],_=>cC _
 | a::l,h=>by
  rw [bA,List.nodup_cons] at h;rw [List.filter_cons];split
  ·rename_i e
   have e:f a=v:=by simpa using e
   have:l.filter (λx=>f x == v)=[]:=List.filter_eq_nil_iff.mpr λx hx q=>h.1 (by
    have q:f x=v:=by simpa using q
    rw [e,<-q];exact List.mem_map_of_mem hx)
   rw [this];exact aC _
  ·exact oN v h.2
section
variable{X:Cx}{pins:List (Addr × Obj)}{σ:St}{H:Hp}
variable{prog:Program}{w:World}{A:Around}{E:Value->Shared->Prop}{s:Shared}
theorem yU{a:Addr}{Q:Bool->Shared->Prop}(ht:s.TypeIs (.ref a) "tuple")(h:Q false s):wpAny (model prog w) A (Builtin.Dict.quietEq (.ref a)) Q E s:=by
 unfold Builtin.Dict.quietEq;refine wpAny_bind (wpAny_specialOf ht F.slot_tuple_eq.lookup (wpAny_pure ?_));exact h
theorem tH{K:Type}[DecidableEq K]{knd:HeapKind prog w K}{id:String}{d:Addr}{o:Obj}{es ep}{xs:List (K × Addr × Value)}{Q:Array DictEntry->Shared->Prop}(ho:s.heap.get? d=some o)(hd:o.data=.dict es ep)(he:es.toList=xs.map (entryOfKey knd))(hty:∀x∈xs,s.TypeIs (.ref x.2.1) "tuple")(nd:(xs.map λx=>knd.hash x.1).Nodup)(h:Q es s) :
  wpAny (model prog w) A (Builtin.Dict.entriesForEmpty id d) Q E s:=by
 unfold Builtin.Dict.entriesForEmpty;refine wpAny_bind (wpAny_dictEntries ho hd ?_);refine wpAny_bind ?_;rw [<-Array.forIn_toList];refine wpAny_forIn_list _ (λrest _ s'=>s'=s/\∀e∈rest,e∈es.toList) _ ?_ ?_ _ _ ⟨rfl,λe h=>h⟩
 ·rintro e rest b s' ⟨rfl,hm⟩;have hme:=hm e (aG ..);rw [he] at hme;obtain ⟨x,hx,rfl⟩:=cP.mp hme;refine wpAny_bind (yU (hty x hx) ?_);have hs:¬(es.filter λy=>y.hash == (entryOfKey knd x).hash).size > 1:=by
   rw [<-Array.length_toList,Array.toList_filter,he,List.filter_map,aB];have:=oN (f:=λx:K × Addr × Value=>knd.hash x.1) (knd.hash x.1) nd;exact Nat.not_lt.mpr this
  rw [if_pos (by rfl),if_neg hs];exact wpAny_pure ⟨rfl,λe h=>hm e (aD _ h)⟩
 ·rintro b s' ⟨rfl,_⟩;exact wpAny_pure h
theorem zJ{K:Type}[DecidableEq K]{knd:HeapKind prog w K}{nm:String}{d o:Addr}{od oo:Obj}{eso:Array DictEntry}{epd epo:Nat}{xs:List (K × Addr × Value)}{Q:Unit->Shared->Prop}(hdo:d≠o)(hoS:(o == sysModules)=false)
  (hod:s.heap.get? d=some od) (hcd:od.ExactDict) (hdd:od.data=.dict #[] epd) (hoo:s.heap.get? o=some oo) (hdo':oo.data=.dict eso epo) (he:eso.toList=xs.map (entryOfKey knd)) (hty:∀x∈xs,s.TypeIs (.ref x.2.1) "tuple") (nd:(xs.map λx=>knd.hash x.1).Nodup) (hz:xs.length<=sizeLine)
  (hQ:∀h' q ep',h'.get? d=some q->q.ExactDict->q.data=.dict eso ep'->Heap.SameBut d s.heap h'->Q () { s with heap:=h' }) :
  wpAny (model prog w) A (Builtin.Dict.mergeDict nm d o) Q E s:=by
 have hes:eso.size<=sizeLine+1:=by
  have:=congrArg List.length he;rw [aB,Array.length_toList] at this;omega
 unfold Builtin.Dict.mergeDict;rw [if_neg (by simpa using hdo)];unfold Builtin.Dict.showsAll;rw [if_neg (by rw [hoS];exact aS)];refine wpAny_bind (wpAny_pure ?_);refine wpAny_bind (wpAny_dictEntries hoo hdo' ?_);dsimp only;cases xs with
 | nil =>
  have h0:eso=#[]:=by
   have:eso.toList=[]:=he;exact Array.toList_eq_nil_iff.mp this
  subst h0;rw [if_neg (by simp)];refine wpAny_bind (wpAny_dictEpoch hoo hdo' ?_);refine wpAny_bind (wpAny_dictEntries hoo hdo' ?_);refine wpAny_bind ?_;rw [Std.Legacy.Range.forIn_eq_forIn_range'];show wpAny _ _ (forIn (List.range' 0 0 1) _ _) _ _ _;refine wpAny_pure ?_;exact wpAny_pure (hQ s.heap od epd hod hcd hdd (Heap.SameBut.refl _ _))
 | cons x xs =>
  have hfew:(decide (eso.size<=8)&&eso.all λe=>(keyPart e.key).isSome)=false:=by
   rw [Bool.and_eq_false_iff]
   right
   rw [<-Array.all_toList,he]
   rfl
  rw [if_pos (by rw [hfew];rfl)];refine wpAny_bind (wpAny_dictEntries hod hdd ?_);rw [if_pos (by rfl)];refine wpAny_bind (tH (knd:=knd) hoo hdo' he hty nd ?_);have hne:(!eso.isEmpty)=true:=by
   rw [Bool.not_eq_true',<-Bool.not_eq_true];intro q;rw [Array.isEmpty_iff.mp q] at he;cases he
  rw [if_pos hne];refine wpAny_bind (wpAny_updateDictKeysTo hod hdd (wpAny_pure (hQ _ _ (epd+1) (Heap.get?_update_self _ hod (Obj.isFreed_of_dict (Obj.data_mapDictKeys hdd _))) (hcd.mapDictKeys _) (Obj.data_mapDictKeys hdd _) (Heap.SameBut.update ..))) hes)
end
section
variable{prog:Program}{w:World}{K:Type}[DecidableEq K]{knd:HeapKind prog w K}{A:Around}{E:Value->Shared->Prop}{s:Shared}
theorem uP{d a:Addr}{xs:List (K × Addr × Value)}{k:K}{v:Value}{Q:Unit->Shared->Prop}(hu:knd.room A)(hkey:knd.is s.heap k a)(hm:s.heap.DictOfH knd d xs)(hz:xs.length<=sizeLine)
  (hQ:∀h',h'.DictOfH knd d (storedH xs k a v)->Heap.SameBut d s.heap h'->Q () { s with heap:=h' }) :
  wpAny (model prog w) A (dictSetHashed d (.ref a) (knd.hash k) v) Q E s:=by
 obtain ⟨o,es,ep,ho,hc,hd,he,his,hn⟩:=hm;unfold dictSetHashed
 try with_reducible refine wpAny_holding ?_
 refine wpAny_bind (wpAny_dictFind_heap hu hkey ho hd he his hn ?_ ?_)
 ·intro hno;have hnot:k ∉ xs.map (·.1):=not_mem_keys_of_get hno;refine wpAny_bind (wpAny_rule (wpAny_updateDictKeys (hz:=by have e:=size_of_entries he;omega) ho hd (hQ _ ⟨_,_,ep+1,Heap.get?_update_self _ ho (Obj.isFreed_of_dict (Obj.data_mapDictKeys hd _)),
   hc.mapDictKeys _,Obj.data_mapDictKeys hd _,?_,?_,?_⟩ (Heap.SameBut.update ..))))
  ·rw [storedH_new (atKey_none_of_get hno)];simp [he,entryOfKey]
  ·rw [storedH_new (atKey_none_of_get hno)];intro x hx;rcases List.mem_append.mp hx with hx | hx
   ·exact knd.keeps (his x hx) ho hd (Heap.SameBut.update ..)
   ·simp only [dC] at hx;subst hx;exact knd.keeps hkey ho hd (Heap.SameBut.update ..)
  ·rw [storedH_new (atKey_none_of_get hno)];rw [cI,List.nodup_append];refine ⟨hn,by simp,?_⟩;intro x hx y hy;simp only [bA,List.map_nil,dC] at hy;subst hy;exact λe=>hnot (e ▸ hx)
 ·intro j p hj;refine wpAny_bind (wpAny_rule (wpAny_bind (wpAny_updateDict ho hd (wpAny_point (hQ _ ⟨_,_,ep,Heap.get?_update_self _ ho (Obj.isFreed_of_dict (Obj.data_mapDict hd _)),
   hc.mapDict _,Obj.data_mapDict hd _,?_,?_,?_⟩ (Heap.SameBut.update ..))))))
  ·rw [storedH_old (atKey_of_get hn hj)];have:=modify_map_putAt (entryOfKey knd) (λe:DictEntry=>{ e with val:=v }) k v (λ_ _=>rfl) hn hj;rw [<-he] at this;obtain ⟨l⟩:=es;simpa using this
  ·rw [storedH_old (atKey_of_get hn hj)];intro x hx;obtain ⟨y,hy,rfl⟩:=cP.mp hx;unfold putAt;split <;> exact knd.keeps (his y hy) ho hd (Heap.SameBut.update ..)
  ·rw [storedH_old (atKey_of_get hn hj)];rw [keys_map_putAt];exact hn
def eX(xs ys:List (K × Addr × Value)):List (K × Addr × Value):=ys.foldl (λacc y=>storedH acc y.1 y.2.1 y.2.2) xs
theorem rW(xs:List (K × Addr × Value))(k:K)(a:Addr)(v:Value):(storedH xs k a v).length<=xs.length+1:=by
 unfold storedH;split
 ·rw [aB];omega
 ·rw [bC];exact aC _
theorem mH:∀(ys xs:List (K × Addr × Value)),(eX xs ys).length<=xs.length+ys.length
 | [],xs=>aC _
 | y::ys,xs=>by
  have h1:=mH ys (storedH xs y.1 y.2.1 y.2.2);have h2:=rW xs y.1 y.2.1 y.2.2;show (eX (storedH xs y.1 y.2.1 y.2.2) ys).length<=_;rw [bI];omega
theorem qX(xs ys:List (K × Addr × Value))(i:Nat){y:K × Addr × Value}(h:ys[i]?=some y):eX xs (ys.take (i+1))=storedH (eX xs (ys.take i)) y.1 y.2.1 y.2.2:=by
 simp [eX,List.take_add_one,h,List.foldl_append]
theorem sV{nm:String}{d o:Addr}{xs ys:List (K × Addr × Value)}{Q:Unit->Shared->Prop}(hu:knd.room A)(hdo:d≠o)(hoS:(o == sysModules)=false)(hd:s.heap.DictOfH knd d xs)(ho:s.heap.DictOfH knd o ys)(hne:xs≠[])(hsz:xs.length+ys.length<=sizeLine)
  (hQ:∀h',h'.DictOfH knd d (eX xs ys)->Heap.SameBut d s.heap h'->Q () { s with heap:=h' }) :
  wpAny (model prog w) A (Builtin.Dict.mergeDict nm d o) Q E s:=by
 obtain ⟨od,esd,epd,hod,hcd,hdd,hed,hid,hnd⟩:=id hd;obtain ⟨oo,eso,epo,hoo,hco,hdo',heo,hio,hno⟩:=id ho;have hlen:ys.length=eso.size:=by
  have:=congrArg List.length heo;rw [aB,Array.length_toList] at this;exact this.symm
 unfold Builtin.Dict.mergeDict;rw [if_neg (by simpa using hdo)];unfold Builtin.Dict.showsAll;rw [if_neg (by rw [hoS];exact aS)];refine wpAny_bind (wpAny_pure ?_);refine wpAny_bind (wpAny_dictEntries hoo hdo' ?_);have loop:wpAny (model prog w) A (do
   let epoch <-dictEpoch o
   let l <-dictEntries o
   forIn [:l.size] PUnit.unit λi (_:PUnit)=>(do
     let l' <-dictEntries o
     match l'[i]? with
      | some e=>do
       holding [e.key,e.val] (dictSetHashed d e.key e.hash e.val)
       let ep' <-dictEpoch o
       if (ep' != epoch)=true then do
         (unsupported (toString nm++toString ":source-changed-during-callback"):Sem PUnit)
         pure (ForInStep.yield PUnit.unit)
        else pure (ForInStep.yield PUnit.unit)
      | _=>do
       (unsupported "internal:dict-merge" : Sem PUnit)
       pure (ForInStep.yield PUnit.unit):Sem (ForInStep PUnit))
   pure ()) Q E s:=by
  refine wpAny_bind (wpAny_dictEpoch hoo hdo' ?_);refine wpAny_bind (wpAny_dictEntries hoo hdo' ?_);refine wpAny_bind ?_;rw [Std.Legacy.Range.forIn_eq_forIn_range'];simp only [Std.Legacy.Range.size,Nat.sub_zero,Nat.add_sub_cancel,Nat.div_one];refine wpAny_forIn_list _
   (λrest _ s'=>∃h' i,s'={ s with heap:=h' }/\rest=List.range' i (eso.size-i)/\i<=eso.size/\h'.DictOfH knd d (eX xs (ys.take i))/\h'.get? o=some oo/\Heap.SameBut d s.heap h')
   _ ?_ ?_ _ _ ⟨s.heap,0,rfl,by simp,cC _,by simpa [eX] using hd,hoo,Heap.SameBut.refl _ _⟩
  ·rintro x rest b s' ⟨h',i,rfl,hr,hi,hd',hoo',hs'⟩;have hlt:i<eso.size:=by
    rcases Nat.lt_or_ge i eso.size with h | h
    ·exact h
    ·rw [Nat.sub_eq_zero_of_le h] at hr;simp at hr
   obtain ⟨rfl,hrest⟩:x=i/\rest=List.range' (i+1) (eso.size-(i+1)):=by
    have e:eso.size-i=(eso.size-(i+1))+1:=Oo;rw [e,List.range'_succ] at hr;injection hr with h1 h2;exact ⟨h1,h2⟩
   refine wpAny_bind (wpAny_dictEntries hoo' hdo' ?_);have hy:ys[x]?=some (ys[x]'Oo):=aE _;have hye:=List.getElem_mem (l:=ys) (n:=x) Oo;rw [entry_at heo x,hy];generalize ys[x]'Oo=y at hy hye;show wpAny _ _ (holding [Value.ref y.2.1,y.2.2] (dictSetHashed d (.ref y.2.1) (knd.hash y.1) y.2.2) >>= _) _ _ _;have hmx:(eX xs (ys.take x)).length<=sizeLine:=by
    have e1:=mH (ys.take x) xs;have e2:(ys.take x).length<=ys.length:=by rw [bO];omega
    omega
   refine wpAny_bind (wpAny_holding (uP (s:={ s with heap:=h' }) hu (knd.keeps (hio y hye) hod hdd hs') hd' hmx λh'' hd'' hs''=>?_));have hoo'':h''.get? o=some oo:=(hs''.2 o (Ne.symm hdo)).trans hoo';refine wpAny_bind (wpAny_dictEpoch hoo'' hdo' ?_);rw [if_neg (by simp)];exact wpAny_pure ⟨h'',x+1,rfl,hrest,hlt,by rw [qX xs ys x hy];exact hd'',hoo'',hs'.trans hs''⟩
  ·rintro b s' ⟨h',i,rfl,hr,hi,hd',hoo',hs'⟩;have hin:i=eso.size:=by
    rcases Nat.lt_or_ge i eso.size with h | h
    ·have e:eso.size-i=(eso.size-(i+1))+1:=Oo;rw [e,List.range'_succ] at hr;exact nomatch hr
    ·exact Nat.le_antisymm hi h
   refine wpAny_pure (hQ h' ?_ hs');rw [hin,<-hlen,eL] at hd';exact hd'
 dsimp only;split
 ·refine wpAny_bind (wpAny_dictEntries hod hdd ?_);split
  ·rename_i hemp
   have h0:esd=#[]:=Array.isEmpty_iff.mp hemp;rw [h0] at hed;have:xs=[]:=by
    cases xs with
    | nil=>rfl
    | cons x xs=>cases hed
   exact absurd this hne
  ·exact loop
 ·exact loop
theorem oZ(knd:HeapKind prog w K)(d o:Addr)(hdo:d≠o)(hoS:(o == sysModules)=false) :
  MeetsIn prog w (Builtin.«dict.update» ⟨[.ref d,.ref o],[]⟩) (λA R s=>knd.room A.in1/\∃xs ys,s.heap.DictOfH knd d xs/\s.heap.DictOfH knd o ys/\xs≠[]/\xs.length+ys.length<=sizeLine /\
   ∀h',h'.DictOfH knd d (eX xs ys)->Heap.SameBut d s.heap h'->R (.ok (.ret .none)) { s with heap:=h' }) :=
 .of_wp λA R s ⟨hu,xs,ys,hd,ho,hne,hsz,h⟩=>by
  unfold Builtin.«dict.update»;refine wpAny_bind ?_;unfold Builtin.Dict.selfAndRest;refine wpAny_bind (wpAny_notOrdered_dict hd.typeIs ?_);show wpAny _ _ (pure (d,[Value.ref o])) _ _ s;refine wpAny_pure ?_;show wpAny _ _ (Builtin.Dict.updateFrom "dict.update" d (.ref o) [] .none) _ _ s;unfold Builtin.Dict.updateFrom;refine wpAny_bind (wpAny_typeOf ho.typeIs ?_);rw [if_neg Dd];refine wpAny_bind ?_;unfold Builtin.Dict.merge;refine wpAny_bind ?_
  ·unfold Builtin.Dict.readDirectly;refine wpAny_bind (wpAny_isInstance ho.typeIs isSubtype_dict_dict ?_);simp only [Bool.not_true,Bool.false_eq_true,if_false];refine wpAny_bind (wpAny_specialOf ho.typeIs F.slot_dict_iter.lookup (wpAny_pure ?_));simp only [beq_self_eq_true,if_true];refine wpAny_bind (wpAny_pure ?_);refine sV hu hdo hoS hd ho hne hsz λh' hd' hs'=>?_;show wpAny _ _ (Builtin.Dict.addKeywords d [] >>= _) _ _ _;exact wpAny_bind (wpAny_pure (wpAny_pure ⟨.none,rfl,h h' hd' hs'⟩))
end
def gC(kvs more:List (List dJ × V)):List (List dJ × V):=more.foldl (λacc kv=>gW acc kv.1 kv.2) kvs
theorem KT.merge{H:Hp}:∀{more:List (List dJ × V)}{ys:List (List dJ × Addr × Value)}{kvs:List (List dJ × V)}{xs:List (List dJ × Addr × Value)},KT H more ys->KT H kvs xs->KT H (gC kvs more) (eX xs ys):=by
 intro more ys kvs xs r;unfold KT at r
 induction r generalizing kvs xs with
 | nil=>intro q;exact q
 | @cons p q ps qs h t ih =>
  intro r0;have e:KT H (gW kvs p.1 p.2) (storedH xs q.1 q.2.1 q.2.2):=by
   have:=r0.put p.1 h.2.1 h.2.2;rw [<-h.1];exact this
  exact ih e
theorem iX:∀(more kvs:List (List dJ × V)),(gC kvs more).length<=kvs.length+more.length
 | [],kvs=>aC _
 | p::r,kvs=>by
  have h1:=iX r (gW kvs p.1 p.2);have h2:=iL kvs p.1 p.2;show (gC (gW kvs p.1 p.2) r).length<=_;rw [bI];omega
section
variable{X:Cx}
@[irreducible] def JT:V->List V->Hp->VK->Prop:=λx vs H Q=>∃(d o:Addr) (kvs more:List (List dJ × V)),x=.ref d/\vs=[.ref o]/\d≠o/\H d=some (.dT kvs)/\H o=some (.dT more)/\kvs≠[]/\kvs.length+more.length<=1000/\Q .non (upd H d (.dT (gC kvs more)))
theorem KW(hu:X.A.units+1<cLine):MO X "dict.update" JT:=by
 unfold JT;intro pins s σ H x vs v us Q I rx rv h;obtain ⟨d,o,kvs,more,rfl,rfl,hdo,hd,ho,hne,hz,q⟩:=h;cases rx;obtain ⟨u,rfl,ru⟩:=rv.one;cases ru;obtain ⟨z1,hd1,xs,rel,dd⟩:=xR I.hok hd;obtain ⟨z2,hd2,ys,rel2,dd2⟩:=xR I.hok ho;have l1:kvs.length=xs.length:=Paired.length rel;have l2:more.length=ys.length:=Paired.length rel2;have big:(1000:Nat)<=sizeLine:=Dd;refine call_meetsIn PySem.F.slot_dict_update dd.typeIs PySem.F.entry_dict_update (PySem.F.args_dict_update_2 _ _) (oZ (tupleKind (cH X.prog X.w)) d o hdo hd2) ⟨tupleKind_room_in1 hu,xs,ys,dd,dd2,λe=>?_,Oo,λh' dd' hs=>?_⟩
 ·rw [e] at l1;exact hne (List.length_eq_zero_iff.mp (by rw [l1];rfl))
 ·obtain ⟨q',es,ep,hq,h2,h3,h4,_,h5⟩:=dd';have hl:(gC kvs more).length<=sizeLine:=by have:=iX more kvs;omega
  refine ⟨.non,_,kC (t':=s.toks) (ob:=.dT (gC kvs more)) I (by rw [hd];exact True.intro) hs ⟨q',hq⟩ ⟨hl,hd1,_,(rel2.merge rel).keeps λc ys' ec=>?_,q',es,ep,hq,h2,h3,h4,h5⟩,rfl,q⟩;rw [bB (nY ec hd (λz=>nomatch z))];exact ec
end
end L2
namespace HT
open PySem PySem.Spec PySem.W PyProof.Rows
section
variable{prog:Program}{w:World}{K:Type}[DecidableEq K]{knd:HeapKind prog w K}{A:Around}{E:Value->Shared->Prop}{s:Shared}
end
end HT
namespace L2
open PySem PySem.Spec PySem.W PyProof.Rows HT
section
variable{X:Cx}
end
@[irreducible] def PX(x:V)(H1:Hp)(R:It->Hp->Prop):Prop:=∃d kvs,x=.ref d/\((∃o,H1 d=some (.frz o (.dT kvs))/\R (IQ d o) H1)\/(H1 d=some (.dT kvs)/\∀o,R (IQ d o) (upd H1 d (.frz o (.dT kvs)))))
def TJ(tl:TE):TI:=λσ H R=>tl σ H λx H1=>PX x H1 R
theorem qH{H:Hp}{d:Addr}{o:HO}:aR d H (upd H d o):=λc u h=>by
 have n:=dH.ne h;rw [dH.at n] at h;exact dH.of n (by rw [bB n];exact h)
def DF(H:Hp)(d:Addr)(kvs:List (List dJ × V)):Prop:=H d=some (.dT kvs)\/∃o,H d=some (.frz o (.dT kvs))
theorem rdf{R:It->Hp->Prop}{H:Hp}{d:Addr}{kvs:List (List dJ × V)}(h:DF H d kvs)(k:∀o H2,H2 d=some (.frz o (.dT kvs))->aR d H H2->R (IQ d o) H2):PX (.ref d) H R:=by
 unfold PX;rcases h with h | ⟨o,h⟩
 ·exact ⟨d,kvs,rfl,.inr ⟨h,λo=>k o _ aX qH⟩⟩
 ·exact ⟨d,kvs,rfl,.inl ⟨o,h,k o H h (aW.refl _).but⟩⟩
section
variable{X:Cx}{tg:Expr}
theorem rS{l:Expr}{tl:TE}(hl:eU X l tl):EI X tg l (TJ tl):=⟨by
 intro pins s σ H R I h;refine thn (hl.p pins s σ H _ I h) λv s1 ⟨x,H1,I1,r1,q1⟩=>?_;unfold PX at q1;obtain ⟨d,kvs,e,hq⟩:=q1;subst e;cases r1;obtain ⟨H2,o,I2,hq2,q2⟩:∃H2 o,bG X pins σ H2 s1/\H2 d=some (.frz o (.dT kvs))/\R (IQ d o) H2:=by
  rcases hq with ⟨o,hq,q⟩ | ⟨hq,q⟩
  ·exact ⟨H1,o,I1,hq,q⟩
  ·obtain ⟨o,I2⟩:=I1.freeze hq;exact ⟨_,o,I2,aX,q o⟩
 obtain ⟨hm,hod,hex,es,ep,hdd,hsz,hat⟩:=vE I2 hq2;refine xD hm hod hex hdd ?_;refine ⟨s1.heap.objs.size,[s1.heap.objs.size],_,_,H2,rfl,I2.kept (t':=s1.toks) λb o e=>aA _ e,yK d _ hdd,⟨_,aK _ rfl,rfl,rfl⟩,λb hb=>?_,q2⟩;have e:b=s1.heap.objs.size:=by simpa using hb
 subst e;exact I2.fpOk (aC _) (I2.hok.fresh (aC _))⟩
end
theorem DI{d:Addr}{o:Obj}{kvs:List (List dJ × V)}{g:TG}{tb:TS}{D:mS}{σ:St}{H:Hp}(Pv:Nat->St->Hp->Prop)(h0:Pv 0 σ H)(hl:∀i σ H,i<=kvs.length->Pv i σ H->H d=some (.frz o (.dT kvs)))
  (hs:∀i p b σ H,kvs[i]?=some p->H b=some (.tup (p.1.map kV))->Pv i σ H->g (.ref b) σ H λσ2 H2=>tb { D with nx:=Pv (i+1),ct:=Pv (i+1),bk:=D.nx } σ2 H2) (hd:∀σ H,Pv kvs.length σ H->D.nx σ H) :
  ∃W:Nat->Nat->St->Hp->Prop,(∃m,W 0 m σ H)/\∀i m σ H,W i m σ H ->
   ((IQ d o).stop i H/\D.nx σ H)\/((IQ d o).go i H/\∃N:St->Hp->Prop,(∀σ' H',N σ' H'->∃m',m' < m/\W (i+1) m' σ' H')/\∀x H',(IQ d o).yld i H x H'->g x σ H' λσ2 H2=>tb { D with nx:=N,ct:=N,bk:=D.nx } σ2 H2):=by
 refine ⟨λi m σ H=>m=kvs.length-i/\i<=kvs.length/\Pv i σ H,⟨kvs.length,by simp,cC _,h0⟩,?_⟩;rintro i m σ H ⟨rfl,hi,p⟩;have q:=hl i σ H hi p;by_cases hlt:i<kvs.length
 ·refine .inr ⟨⟨kvs,q,hlt⟩,Pv (i+1),λσ' H' p'=>⟨kvs.length-(i+1),Oo,rfl,hlt,p'⟩,λx H' y=>?_⟩;obtain ⟨e,y⟩:=y;subst e;obtain ⟨b,p0,rfl,h1,h2⟩:=y kvs q;exact hs i p0 b σ _ h1 h2 p
 ·have e:i=kvs.length:=Oo;subst e;exact .inl ⟨⟨kvs,q,aC _⟩,hd σ H p⟩
section
variable{σ:St}{js:List Nat}{te:TE}{H:Hp}{Q:VK}
end
section
variable{X:Cx}
end
end L2
namespace Kw
open PySem L2 Mf
def top(i:Nat):Stmt:=PySem.Challenge.pw_earlystop_k10_shares_of_rows.main.body.getD i (.Pass ⟨0,0,0,0⟩)
structure Cl where
 ONE:Addr
structure pC(K:PySem.W.Frag)(mg:Str->Option Value)(c:Cl):Prop where
 b_list:mg "list" = none
 b_len:mg "len" = none
 b_abs:mg "abs" = none
 b_repr:mg "repr" = none
 b_range:mg "range" = none
 b_sum:mg "sum" = none
 b_zip:mg "zip" = none
 b_tuple:mg "tuple" = none
 b_int:mg "int" = none
 b_sorted:mg "sorted" = none
 b_isinstance:mg "isinstance" = none
 g_ONE:mg "ONE" = some (.ref c.ONE)
 o_ONE:oI K c.ONE [1,1]=true
abbrev QP:Stmt:=(top 15)
theorem TM:cJ ["_law_script"] ["_law_script"] (aZ QP):=⟨rfl,rfl,rfl,Kk,rfl,Kk,Kk⟩
abbrev QQ:Stmt:=(top 16)
theorem MW:cJ ["_law_feed_here","_law_many_here","_law_found","_law_cell","_law_stirred"] ["_law_feed_here","_law_many_here"] (aZ QQ):=⟨rfl,rfl,rfl,Kk,rfl,Kk,Kk⟩
structure bZ(H:Hp)(p L:Addr):Prop where
 ex:∃(ns:List Int) (i r k:Int),H p=some (.lst [.ref L,.int i,.int r,.int k])/\H L=some (.lst (ns.map V.int))/\0<=i/\0<=r/\0<=k/\k<=ns.length/\ns.length<=63/\L≠p
theorem bZ.there{H:Hp}{p L:Addr}(F:bZ H p L):∃o,H p=some o:=by obtain ⟨ns,i,r,k,h,_⟩:=F.ex;exact ⟨_,h⟩
theorem bZ.lst{H:Hp}{p L:Addr}(F:bZ H p L):∃xs,H p=some (.lst xs):=by obtain ⟨ns,i,r,k,h,_⟩:=F.ex;exact ⟨_,h⟩
theorem bZ.ne{H:Hp}{p L q:Addr}(F:bZ H p L)(hq:H q=none):q≠p:=λe=>by
 subst e;obtain ⟨o,h⟩:=F.there;rw [h] at hq;cases hq
theorem bZ.neL{H:Hp}{p L q:Addr}(F:bZ H p L)(hq:H q=none):q≠L:=λe=>by
 subst e;obtain ⟨ns,i,r,k,h,h2,_⟩:=F.ex;rw [h2] at hq;cases hq
@[irreducible] def jQ(K:PySem.W.Frag):Sp:=λvs H Q _=>∃(a:Addr) (ns:List Int),vs=[.ref a]/\fA K H a (ns.map V.int)/\ns.length<=63/\∀p L H',bZ H' p L->aW H H'->H p=none->H L=none->Q (.ref p) H'
@[irreducible] def gT:Sp:=λvs H Q _=>∃(p L:Addr) (m:Int),vs=[.ref p,.int m]/\bZ H p L/\0<m/\bits m<=9000/\∀x H',0<=x->x<m->bZ H' p L->aR p H H'->Q (.int x) H'
theorem cV{H:Hp}{Q:VK}{E:XK}{p L:Addr}{m:Int}(F:bZ H p L)(h:0<m)(hb:bits m<=9000)(k:∀x H',0<=x->x<m->bZ H' p L->aR p H H'->Q (.int x) H'):gT [.ref p,.int m] H Q E:=by
 unfold gT;exact ⟨p,L,m,rfl,F,h,hb,k⟩
theorem bZ.same{H H':Hp}{p L:Addr}(F:bZ H p L)(s:aW H H'):bZ H' p L:=by
 obtain ⟨ns,i,r,k,h1,h2,h3⟩:=F.ex;exact ⟨ns,i,r,k,s _ _ h1,s _ _ h2,h3⟩
theorem bZ.but{H H':Hp}{p L D:Addr}(F:bZ H p L)(s:aR D H H')(n1:D≠p)(n2:D≠L):bZ H' p L:=by
 obtain ⟨ns,i,r,k,h1,h2,h3⟩:=F.ex;exact ⟨ns,i,r,k,s.at (Ne.symm n1) h1,s.at (Ne.symm n2) h2,h3⟩
theorem yR{K:PySem.W.Frag}{H:Hp}{Q:VK}{E:XK}{a:Addr}{ns:List Int}(h:fA K H a (ns.map V.int))(hl:ns.length<=63)(k:∀p L H',bZ H' p L->aW H H'->H p=none->H L=none->Q (.ref p) H'):jQ K [.ref a] H Q E:=by
 unfold jQ;exact ⟨a,ns,rfl,h,hl,k⟩
section
theorem TF(F:iW K "_law_feed" "_law_feed" QP f fd)(T:pC K mg c):dW P w K mg base eI 1 f fd ["_law_script"] (jQ K):=by
 refine F.oky TM λvs H Q E h=>?_;unfold jQ at h;obtain ⟨a,ns,rfl,hS,hl,k⟩:=h;refine ⟨rfl,λcdv A outer s hr=>?_⟩;refine ⟨_,(bF (cX (fR (aT (jK rH (by rfl) T.b_list Kk (aT (fF wI (aO 0) fZ (fY aJ)) aL)) (aT aJ (aT aJ (aT aJ aL))))))),?_⟩;refine ⟨_,rfl,_,rfl,a,_,rfl,hS,λq1 h1=>?_⟩;refine ⟨q1,_,rfl,.inl (fA.of aX),λq2 h2=>?_⟩;refine CJ (by show 4<=64;decide) λq3 H3 h3 e3 s3=>?_;have n21:q2≠q1:=λe=>by subst e;rw [aX] at h2;cases h2
 have e1:iU (ns.map V.int) none (some 63)=ns.map V.int:=by
  unfold iU;have:HT.eO (ns.map V.int).length (ns.map V.int).length (some 63)=(ns.map V.int).length:=by
   rw [show ((63:Int))=((63:Nat):Int) from rfl,HT.qO,aB];omega
  rw [this,HT.nV,List.drop_zero,Nat.sub_zero];exact List.take_of_length_le (aC _)
 have s3':=s3;rw [e1] at s3;have hq2:=s3 q2 _ aX;refine k q3 q2 H3 ⟨ns,0,0,0,e3,hq2,Int.le_refl _,Int.le_refl _,Int.le_refl _,Oo,hl,λe=>?_⟩ (((aW.upd h1).trans (aW.upd h2)).trans s3') ?_ ?_
 ·subst e;rw [aX] at h3;cases h3
 ·exact ((aW.upd h1).trans (aW.upd h2)).free h3
 ·exact (aW.upd h1).free h2
theorem TH(F:iW K "_law_draw" "_law_draw" QQ f fd)(T:pC K mg c):dW P w K mg base eI 1 f fd ["_law_feed_here","_law_many_here"] gT:=by
 refine F.oky MW λvs H Q E h=>?_;unfold gT at h;obtain ⟨p,L,m,rfl,F,hm,hb,k⟩:=h;refine ⟨rfl,λcdv A outer s hr=>?_⟩;obtain ⟨ns,i,r,j,hp,hL,h0,h1,h2,h3,h4,hne⟩:=F.ex;refine ⟨_,(aM (kU (bT dU (bV bK (aO 0) aJ (λ_ _=>rfl)) aJ) (nN (aO 0) aJ iJ))
  (aM (nI PassesOwn.never (IT (IS (eV sQ (bV bK (aO 0) aJ (λ_ _=>rfl)) aJ (nomark _)) (EN (eV OG (bV bK (aO 0) aJ (λ_ _=>rfl)) (dZ lV (by rfl) T.b_len Kk (aT (bV bK (aO 0) aJ (λ_ _=>rfl)) aL)) (nomark _))))) (aM (AS (mD (eV OH (dZ vK (by rfl) T.b_abs Kk (aT (bV bK (bV bK (aO 0) aJ (λ_ _=>rfl)) (bV bK (aO 0) aJ (λ_ _=>rfl)) (λ_ _=>rfl)) aL)) (bT KR aJ aJ) (nomark _)) (bF (kU (dZ vK (by rfl) T.b_abs Kk (aT (bV bK (bV bK (aO 0) aJ (λ_ _=>rfl)) (bV bK (aO 0) aJ (λ_ _=>rfl)) (λ_ _=>rfl)) aL)) (nN (aO 0) aJ iJ))) fX))
  (bF (kU (bT dU (bV bK (aO 0) aJ (λ_ _=>rfl)) aJ) (nN (aO 0) aJ iJ)))))
  (aM (mD (eV IA (bV bK (aO 0) aJ (λ_ _=>rfl)) aJ (nomark _)) (aM (bH (i:=2) MW.nd rfl (Or.inl rfl) (bT fU (bV bK (aO 0) aJ (λ_ _=>rfl)) (aO 1)))
  (aM (kU (bT eP (bV bK (aO 0) aJ (λ_ _=>rfl)) (aO 1)) (nN (aO 0) aJ iJ))
  (bF (cX (aO 2))))) fX)
  (aM (bH (i:=3) MW.nd rfl (Or.inl rfl) aJ)
  (aM (AS (mD (eV IA (dZ lV (by rfl) T.b_len Kk (aT (bV bK (aO 0) aJ (λ_ _=>rfl)) aL)) aJ (nomark _)) (bF (bH (i:=3) MW.nd rfl (Or.inl rfl) (bV bK (bV bK (aO 0) aJ (λ_ _=>rfl)) (bT fU (bV bK (aO 0) aJ (λ_ _=>rfl)) (dZ lV (by rfl) T.b_len Kk (aT (bV bK (aO 0) aJ (λ_ _=>rfl)) aL))) (λ_ _=>rfl)))) fX))
  (aM (bH (i:=4) MW.nd rfl (Or.inl rfl) (bT fU (bT dU (bT dU (bT eG (bT fU (aO 3) aJ) aJ) (bT eG aJ (bV bK (aO 0) aJ (λ_ _=>rfl)))) aJ) aJ))
  (aM (bH (i:=4) MW.nd rfl (Or.inl rfl) (bT fU (bT eG (aO 4) (bT dU (aO 4) aJ)) aJ))
  (bF (cX (bT fU (bT fU (bT eG (aO 4) aJ) aJ) (aO 1))))))))))),?_⟩
 refine ⟨_,rfl,?_⟩;refine lM hp rfl ?_;refine ⟨_,_,rfl,rfl,?_⟩;refine ⟨_,rfl,?_⟩;refine MQ hp rfl λH1 hp1' s1=>?_;have hp1:H1 p=some (.lst [.ref L,.int (i+1),.int r,.int j]):=hp1';clear hp1';refine qG (λn σ H'=>∃r j:Int,σ=[some (.ref p),some (.int m),none,none,none]/\H' p=some (.lst [.ref L,.int (i+1),.int r,.int j])/\0<=r/\0<=j/\j<=ns.length/\aR p H H'/\n=((ns.length:Int)-j).toNat)
  (λσ H'=>∃r j:Int,σ=[some (.ref p),some (.int m),none,none,none]/\H' p=some (.lst [.ref L,.int (i+1),.int r,.int j])/\0<=r/\0<=j/\j<=ns.length/\aR p H H')
  _ ⟨r,j,rfl,hp1,h1,h2,h3,s1,rfl⟩ ?_ ?_
 all_goals clear hp h1 h2 h3 hp1 s1
 ·rintro n σ H2 ⟨r,j,rfl,hp2,h1,h2,h3,s2,rfl⟩;have hL2:=s2.at hne hL;refine ⟨_,rfl,?_⟩;refine lM hp2 rfl ?_;refine ⟨rfl,_,rfl,?_⟩;refine zQ (λe0=>?_) (λe0=>?_)
  ·refine ⟨_,rfl,?_⟩;refine lM hp2 rfl ?_;refine ⟨_,rfl,?_⟩;refine lM hp2 rfl ?_;refine NR hL2 ?_;refine ⟨_,_,rfl,rfl,_,rfl,?_⟩;refine zQ (λe1=>?_) (λe1=>?_)
   ·rw [aB] at e1;have hj:∃z,ns[j.toNat]?=some z:=⟨_,aE Oo⟩;obtain ⟨z,hz⟩:=hj;have hat:uH (ns.map V.int) j=some (.int z):=by
     have:=fE (xs:=ns.map V.int) (j:=j.toNat) (v:=V.int z) (by rw [aQ,hz];rfl)
     rwa [Int.toNat_of_nonneg h2] at this
    refine ⟨_,λ_ _ h=>h,?_⟩;refine ⟨_,rfl,?_⟩;refine lM hp2 rfl ?_;refine ⟨_,rfl,?_⟩;refine lM hp2 rfl ?_;refine lM hL2 hat ?_;refine QS ?_;refine ⟨_,_,rfl,rfl,⟨Dd,Dd,Dd⟩,_,_,rfl,rfl,_,rfl,?_⟩;refine zQ (λe2=>?_) (λe2=>?_)
    ·refine ⟨_,rfl,?_⟩;refine lM hp2 rfl ?_;refine ⟨_,rfl,?_⟩;refine lM hp2 rfl ?_;refine lM hL2 hat ?_;refine QS ?_;refine ⟨_,rfl,?_⟩;refine MQ hp2 rfl λH3 hp3' s3=>?_;have hp3:H3 p=some (.lst [.ref L,.int (i+1),.int (z.natAbs:Int),.int j]):=hp3';refine ⟨_,rfl,?_⟩;refine lM hp3 rfl ?_;refine ⟨_,_,rfl,rfl,?_⟩;refine ⟨_,rfl,?_⟩;refine MQ hp3 rfl λH4 hp4' s4=>?_;exact ⟨_,Oo,_,j+1,rfl,hp4',Oo,Oo,Oo,(s2.trans s3).trans s4,rfl⟩
    ·refine ⟨_,rfl,?_⟩;refine lM hp2 rfl ?_;refine ⟨_,_,rfl,rfl,?_⟩;refine ⟨_,rfl,?_⟩;refine MQ hp2 rfl λH4 hp4' s4=>?_;exact ⟨_,Oo,_,j+1,rfl,hp4',h1,Oo,Oo,s2.trans s4,rfl⟩
   ·rw [aB] at e1;exact ⟨r,j,rfl,hp2,h1,h2,h3,s2⟩
  ·refine LL ?_;exact ⟨r,j,rfl,hp2,h1,h2,h3,s2⟩
 ·rintro σ H2 ⟨r,j,rfl,hp2,h1,h2,h3,s2⟩;have hL2:=s2.at hne hL;refine ⟨_,rfl,?_⟩;refine lM hp2 rfl ?_;refine ⟨_,_,rfl,rfl,_,rfl,?_⟩;refine zQ (λe0=>?_) (λe0=>?_)
  ·refine ⟨_,rfl,?_⟩;refine lM hp2 rfl ?_;refine ⟨_,rfl,_,_,rfl,rfl,hm,?_⟩;refine ⟨_,rfl,?_⟩;refine lM hp2 rfl ?_;refine ⟨_,rfl,_,_,rfl,rfl,⟨hm,hb⟩,?_⟩;refine ⟨_,rfl,?_⟩;refine MQ hp2 rfl λH3 hp3 s3=>?_;refine ⟨_,rfl,?_⟩;exact k _ H3 (Int.emod_nonneg _ Oo) (Int.emod_lt_of_pos _ hm) ⟨ns,i+1,r/m,j,hp3,s3.at hne hL2,Oo,Int.ediv_nonneg h1 Oo,h2,h3,h4,hne⟩ (s2.trans s3)
  ·refine ⟨λσ H3=>∃c:Int,σ=[some (.ref p),some (.int m),none,some (.int c),none]/\H3=H2,?_,?_⟩
   ·rintro σ H3 ⟨c,rfl,rfl⟩;have hc:=Int.emod_nonneg c (b:=2147483647) Dd;have hc':=Int.emod_lt_of_pos c (b:=2147483647) Dd;refine ⟨_,rfl,_,_,rfl,rfl,(by show (0:Int)<2147483647;decide),_,_,rfl,rfl,IntMulOk.of_right Kk,?_⟩;refine ⟨_,rfl,?_⟩;refine lM hp2 rfl ?_;refine ⟨_,_,rfl,rfl,IntMulOk.of_left Kk,_,_,rfl,rfl,_,_,rfl,rfl,_,_,rfl,rfl,(by show (0:Int)<2147483629;decide),?_⟩;generalize hz:(c % 2147483647*48271+7919*(i+1)+12345) % 2147483629=z;have z0:0<=z:=by rw [<-hz];exact Int.emod_nonneg _ Dd
    have z1:z<2147483629:=by rw [<-hz];exact Int.emod_lt_of_pos _ Dd
    refine ⟨_,rfl,_,rfl,_,_,rfl,rfl,_,_,rfl,rfl,IntMulOk.of_left (PySem.intBits_le_64 Oo Oo),_,_,rfl,rfl,(by show (0:Int)<2147483587;decide),?_⟩;generalize hy:z*(z+40692) % 2147483587=y;have y0:0<=y:=by rw [<-hy];exact Int.emod_nonneg _ Dd
    have y1:y<2147483587:=by rw [<-hy];exact Int.emod_lt_of_pos _ Dd
    refine ⟨_,rfl,_,_,rfl,rfl,IntMulOk.of_left (PySem.intBits_le_64 Oo Oo),_,_,rfl,rfl,(by show (0:Int)<2147483563;decide),?_⟩;refine ⟨_,rfl,_,_,rfl,rfl,hm,?_⟩;exact k _ H3 (Int.emod_nonneg _ Oo) (Int.emod_lt_of_pos _ hm) ⟨ns,i+1,r,j,hp2,hL2,Oo,h1,h2,h3,h4,hne⟩ s2
   ·refine ⟨_,rfl,?_⟩;refine lM hp2 rfl ?_;refine NR hL2 ?_;refine ⟨_,_,rfl,rfl,_,rfl,?_⟩;refine zQ (λe1=>?_) (λe1=>?_)
    ·rw [aB] at e1;refine ⟨_,rfl,?_⟩;refine lM hp2 rfl ?_;refine ⟨_,rfl,?_⟩;refine lM hp2 rfl ?_;refine ⟨_,rfl,?_⟩;refine lM hp2 rfl ?_;refine NR hL2 ?_;rw [aB];refine ⟨_,_,rfl,rfl,e1,?_⟩;have g0:=Int.emod_nonneg (i+1) (b:=(ns.length:Int)) Oo;have g1:=Int.emod_lt_of_pos (i+1) e1;have hj:∃z,ns[((i+1) % (ns.length:Int)).toNat]?=some z:=⟨_,aE Oo⟩;obtain ⟨z,hz⟩:=hj;have hat:uH (ns.map V.int) ((i+1) % (ns.length:Int))=some (.int z):=by
      have:=fE (xs:=ns.map V.int) (j:=((i+1) % (ns.length:Int)).toNat) (v:=V.int z) (by rw [aQ,hz];rfl)
      rwa [Int.toNat_of_nonneg g0] at this
     refine lM hL2 hat ?_;exact ⟨z,rfl,rfl⟩
    ·exact ⟨0,rfl,rfl⟩
end
abbrev JO:Stmt:=(top 1)
theorem AF:cJ ["number","above_nought","divided","divisor","rest"] ["number","above_nought"] (aZ JO):=⟨rfl,rfl,rfl,Kk,rfl,Kk,Kk⟩
abbrev JK:Stmt:=(top 3)
theorem MD:cJ ["one","other","first","second"] ["one","other"] (aZ JK):=⟨rfl,rfl,rfl,Kk,rfl,Kk,Kk⟩
abbrev JJ:Stmt:=(top 6)
theorem RP:cJ ["trial","way"] ["trial","way"] (aZ JJ):=⟨rfl,rfl,rfl,Kk,rfl,Kk,Kk⟩
abbrev JL:Stmt:=(top 8)
theorem DW:cJ ["trial","way","row","shares","product","face"] ["trial","way","row"] (aZ JL):=⟨rfl,rfl,rfl,Kk,rfl,Kk,Kk⟩
abbrev JI:Stmt:=(top 9)
theorem DV:cJ ["trial","way","counts","product","share","count"] ["trial","way","counts"] (aZ JI):=⟨rfl,rfl,rfl,Kk,rfl,Kk,Kk⟩
abbrev JN:Stmt:=(top 10)
theorem AE:cJ ["share","count","upper","lower","step"] ["share","count"] (aZ JN):=⟨rfl,rfl,rfl,Kk,rfl,Kk,Kk⟩
abbrev JM:Stmt:=(top 11)
theorem vM:cJ ["counts","rows","placed","count","step"] ["counts"] (aZ JM):=⟨rfl,rfl,rfl,Kk,rfl,Kk,Kk⟩
abbrev QK:Stmt:=(top 12)
theorem RN:cJ ["faces","most","found","many"] ["faces","most"] (aZ QK):=⟨rfl,rfl,rfl,Kk,rfl,Kk,Kk⟩
abbrev BR:Stmt:=(top 13)
theorem HF:cJ ["faces","many","found","first"] ["faces","many"] (aZ BR):=⟨rfl,rfl,rfl,Kk,rfl,Kk,Kk⟩
abbrev QO:Stmt:=(top 17)
theorem RO:cJ ["_law_n","_law_d","_law_one","_law_other"] ["_law_n","_law_d"] (aZ QO):=⟨rfl,rfl,rfl,Kk,rfl,Kk,Kk⟩
abbrev MR:Stmt:=(top 18)
theorem QA:cJ ["_law_feed_here","_law_many_here","_law_most","_law_parts"] ["_law_feed_here","_law_many_here"] (aZ MR):=⟨rfl,rfl,rfl,Kk,rfl,Kk,Kk⟩
abbrev PQ:Stmt:=(top 19)
theorem MU:cJ ["_law_feed_here","_law_pool","_law_turn","_law_faces","_law_ways"] ["_law_feed_here"] (aZ PQ):=⟨rfl,rfl,rfl,Kk,rfl,Kk,Kk⟩
abbrev QL:Stmt:=(top 20)
theorem MV:cJ ["_law_trial_here","_law_way","_law_row","_law_n","_law_d","_law_face"] ["_law_trial_here","_law_way","_law_row"] (aZ QL):=⟨rfl,rfl,rfl,Kk,rfl,Kk,Kk⟩
abbrev QM:Stmt:=(top 21)
theorem HE:cJ ["_law_faces","_law_most","_law_found","_law_now","_law_k","_law_later","_law_counts","_law_face","_law_other"] ["_law_faces","_law_most"] (aZ QM):=⟨rfl,rfl,rfl,Kk,rfl,Kk,Kk⟩
abbrev QN:Stmt:=(top 22)
theorem MC:cJ ["_law_counts","_law_found","_law_k","_law_count"] ["_law_counts"] (aZ QN):=⟨rfl,rfl,rfl,Kk,rfl,Kk,Kk⟩
abbrev MS:Stmt:=(top 23)
theorem TL:cJ ["_law_some"] ["_law_some"] (aZ MS):=⟨rfl,rfl,rfl,Kk,rfl,Kk,Kk⟩
abbrev sG:Stmt:=(top 24)
theorem iV:cJ ["_law_script","_law_feed_here","_law_trials","_law_long","_law_k","_law_trial_here","_law_faces","_law_row","_law_counts","_law_way","_law_due","_law_most","_law_met_here","_law_turn","_law_some"] ["_law_script"] (aZ sG):=⟨rfl,rfl,rfl,Kk,rfl,Kk,Kk⟩
abbrev xO(f:Fr):PyData:=.tuple [.int f.1,.int f.2]
theorem LQ{H:Hp}{f:Fr}{v:V}(h:cK H (xO f) v):∃a,v=.ref a/\H a=some (.tup [.int f.1,.int f.2]):=by
 unfold cK aY aY aY at h;obtain ⟨a,_,rfl,h1,x,_,rfl,r1,y,_,rfl,r2,rfl⟩:=h;cases (show x=V.int f.1 from r1);cases (show y=V.int f.2 from r2);exact ⟨a,rfl,h1⟩
theorem DG{H:Hp}{f:Fr}{a:Addr}(h:H a=some (.tup [.int f.1,.int f.2])):cK H (xO f) (.ref a):=cK.tup h (aY.cons (cK.int _) (aY.cons (cK.int _) aY.nil))
theorem DH(f:Fr):dN (xO f)=true:=rfl
def nH(K:PySem.W.Frag)(H:Hp)(f:Fr)(x:V):Prop:=∃a,x=.ref a/\eT K H a [.int f.1,.int f.2]
theorem nH.of{K:PySem.W.Frag}{H:Hp}{f:Fr}{x:V}(h:cK H (xO f) x):nH K H f x:=by
 obtain ⟨a,e,h⟩:=LQ h;exact ⟨a,e,eT.of h⟩
theorem nH.new{K:PySem.W.Frag}{H:Hp}{f:Fr}{a:Addr}(h:H a=some (.tup [.int f.1,.int f.2])):nH K H f (.ref a):=⟨a,rfl,eT.of h⟩
theorem nH.same{K:PySem.W.Frag}{H H':Hp}{f:Fr}{x:V}(s:aW H H')(h:nH K H f x):nH K H' f x:=by
 obtain ⟨a,e,h⟩:=h;exact ⟨a,e,h.keep s⟩
def MJ(k:Nat)(f:Fr):Prop:=f.1.natAbs<2^k/\f.2.natAbs<2^k
@[irreducible] def sE:Sp:=λvs H Q _=>∃n d:Int,vs=[.int n,.int d]/\0<d/\Q (.int (Int.gcd n d)) H
theorem wG{H:Hp}{Q:VK}{E:XK}{n d:Int}(h:0<d)(q:Q (.int (Int.gcd n d)) H):sE [.int n,.int d] H Q E:=by unfold sE;exact ⟨n,d,rfl,h,q⟩
def uB(H:Hp)(Q:VK)(f:Fr):Prop:=∀q H',H q=none->H' q=some (.tup [.int f.1,.int f.2])->aW H H'->Q (.ref q) H'
@[irreducible] def lC:Sp:=λvs H Q _=>∃n d:Int,vs=[.int n,.int d]/\0<d/\d.natAbs<2^9000/\uB H Q (lw n d)
theorem sC{H:Hp}{Q:VK}{E:XK}{n d:Int}(h:0<d)(z:d.natAbs<2^9000)(q:uB H Q (lw n d)):lC [.int n,.int d] H Q E:=by unfold lC;exact ⟨n,d,rfl,h,z,q⟩
theorem LP{n d:Int}(h:0<d):(Int.gcd n d:Int)<=d:=Int.le_of_dvd h (Int.gcd_dvd_right n d)
theorem vD{n d:Int}{k:Nat}(h:0<d)(z:d.natAbs<2^k):(Int.gcd n d:Int).natAbs<2^k:=by
 have:=LP (n:=n) h;have:=gA (n:=n) h;omega
theorem mK{n d:Int}(h:0<d)(z:d.natAbs<2^9000):EE n d:=⟨h,oQ z⟩
theorem mV{i:Int}{n m:Nat}(h:i.natAbs<2^n)(k:n<=m:=by decide):i.natAbs<2^m:=aH h (cM Dd k)
theorem qL{i j:Int}{n:Nat}(h:i.natAbs<2^n)(hj:0<j):(i/j).natAbs<2^n:=aV (by
 have:=Int.natAbs_ediv_le_natAbs i j;exact this) h
section
theorem RD(F:iW K "common_divisor" "common_divisor" JO f fd)(T:pC K mg c):dW P w K mg base eI 1 f fd ["number","above_nought"] sE:=by
 refine F.oky AF λvs H Q E h=>?_;unfold sE at h;obtain ⟨n,d,rfl,hd,q⟩:=h;refine ⟨rfl,λcdv A outer s hr=>?_⟩;refine ⟨_,(aM (bH (i:=2) AF.nd rfl (Or.inl rfl) (aO 0))
  (aM (bH (i:=3) AF.nd rfl (Or.inl rfl) (aO 1))
  (aM (nI PassesOwn.never (eV pL (aO 3) aJ (nomark _)) (aM (bH (i:=4) AF.nd rfl (Or.inl rfl) (bT fU (aO 2) (aO 3)))
  (aM (bH (i:=2) AF.nd rfl (Or.inl rfl) (aO 3))
  (bF (bH (i:=3) AF.nd rfl (Or.inl rfl) (aO 4))))))
  (bF (cX (aO 2)))))),?_⟩
 refine ⟨_,rfl,_,rfl,?_⟩;refine qG (λm σ H'=>∃(a b:Int) (c:Option V),σ=[some (.int n),some (.int d),some (.int a),some (.int b),c]/\0<=b/\Int.gcd a b=Int.gcd n d/\(b=0->0<a)/\H'=H/\m=b.toNat)
  (λσ H'=>∃(c:Option V),σ=[some (.int n),some (.int d),some (.int (Int.gcd n d)),some (.int 0),c]/\H'=H)
  _ ⟨n,d,none,rfl,Oo,rfl,Oo,rfl,rfl⟩ ?_ ?_
 ·rintro m σ H2 ⟨a,b,c,rfl,hb,hg,h0,rfl,rfl⟩;refine ⟨_,rfl,rfl,_,rfl,?_⟩;refine IE (λe=>?_) (λe=>?_)
  ·have hb':0<b:=by
    rcases Int.lt_or_eq_of_le hb with h | h
    ·exact h
    ·exact absurd (congrArg V.int h.symm) e
   refine ⟨_,rfl,_,rfl,_,_,rfl,rfl,hb',_,rfl,_,rfl,?_⟩;have e1:=Int.emod_lt_of_pos a hb';have e2:=Int.emod_nonneg a (b:=b) Oo;exact ⟨_,Oo,b,a % b,_,rfl,e2,by rw [tF,hg],λ_=>hb',rfl,rfl⟩
  ·have hb0:b=0:=by injection e
   subst hb0;have ha:=h0 rfl;have e1:=xL ha;rw [hg] at e1;rw [e1];exact ⟨c,rfl,rfl⟩
 ·rintro σ H2 ⟨c,rfl,rfl⟩;exact ⟨_,rfl,q⟩
theorem TD(F:iW K "_law_low" "_law_low" QO f fd)(T:pC K mg c):dW P w K mg base eI 1 f fd ["_law_n","_law_d"] lC:=by
 refine F.oky RO λvs H Q E h=>?_;unfold lC at h;obtain ⟨n,d,rfl,hd,hz,q⟩:=h;refine ⟨rfl,λcdv A outer s hr=>?_⟩;refine ⟨_,(aM (AR (i:=2) (j:=3) rfl RO.nd rfl rfl Dd rfl rfl (aT (dZ vK (by rfl) T.b_abs Kk (aT (aO 0) aL)) (aT (aO 1) aL)) rfl)
  (aM (nI PassesOwn.never (eV pL (aO 3) aJ (nomark _)) (bF (AR (i:=2) (j:=3) rfl RO.nd rfl rfl Dd rfl rfl (aT (aO 3) (aT (bT fU (aO 2) (aO 3)) aL)) rfl)))
  (bF (cX (fI (aT (bT eP (aO 0) (aO 2)) (aT (bT eP (aO 1) (aO 2)) aL))))))),?_⟩
 refine ⟨_,rfl,?_⟩;refine QS ?_;refine ⟨_,rfl,?_⟩;refine ⟨_,_,rfl,?_⟩;refine qG (λm σ H'=>∃(u v:Int),σ=[some (.int n),some (.int d),some (.int u),some (.int v)]/\0<=v/\Int.gcd u v=Int.gcd n d/\(v=0->0<u)/\H'=H/\m=v.toNat)
  (λσ H'=>σ=[some (.int n),some (.int d),some (.int (Int.gcd n d)),some (.int 0)]/\H'=H)
  _ ⟨(n.natAbs:Int),d,rfl,Oo,by rw [Int.gcd_eq_natAbs_gcd_natAbs,Int.gcd_eq_natAbs_gcd_natAbs,Int.natAbs_natCast],Oo,rfl,rfl⟩ ?_ ?_
 ·rintro m σ H2 ⟨u,v,rfl,hb,hg,h0,rfl,rfl⟩;refine ⟨_,rfl,rfl,_,rfl,?_⟩;refine IE (λe=>?_) (λe=>?_)
  ·have hb':0<v:=by
    rcases Int.lt_or_eq_of_le hb with h | h
    ·exact h
    ·exact absurd (congrArg V.int h.symm) e
   refine ⟨_,rfl,_,rfl,_,rfl,_,_,rfl,rfl,hb',_,_,rfl,?_⟩;have e1:=Int.emod_lt_of_pos u hb';have e2:=Int.emod_nonneg u (b:=v) Oo;exact ⟨_,Oo,v,u % v,rfl,e2,by rw [tF,hg],λ_=>hb',rfl,rfl⟩
  ·have hb0:v=0:=by injection e
   subst hb0;have hu:=h0 rfl;have e1:=xL hu;rw [hg] at e1;rw [e1];exact ⟨rfl,rfl⟩
 ·rintro σ H2 ⟨rfl,rfl⟩;have hg:=gA (n:=n) hd;have zg:EE n (Int.gcd n d:Int):=mK hg (vD hd hz);refine ⟨_,rfl,_,rfl,_,_,rfl,rfl,zg,?_⟩;refine ⟨_,rfl,_,rfl,_,_,rfl,rfl,zg,?_⟩;refine AL (by show 2<=64;decide) λp H3 hp e3 s3=>?_;exact q p H3 hp e3 s3
end
@[irreducible] def gH(K:PySem.W.Frag):Sp:=λvs H Q _=>∃x y f g,vs=[x,y]/\nH K H f x/\nH K H g y/\fB f/\fB g/\MJ 4000 f/\MJ 4000 g/\uB H Q (oY f g)
theorem nS{K:PySem.W.Frag}{H:Hp}{Q:VK}{E:XK}{x y:V}{f g:Fr}(h1:nH K H f x)(h2:nH K H g y)(l1:fB f)(l2:fB g)(z1:MJ 4000 f)(z2:MJ 4000 g)(q:uB H Q (oY f g)):gH K [x,y] H Q E:=by unfold gH;exact ⟨x,y,f,g,rfl,h1,h2,l1,l2,z1,z2,q⟩
section
theorem QX(F:iW K "times" "times" JK f fd)(T:pC K mg c)
  (FQ10:kO eI P w K mg base 1 "common_divisor" ["number","above_nought"] sE):dW P w K mg base eI 2 f fd ["one","other"] (gH K):=by
 refine F.oky MD λvs H Q E h=>?_;unfold gH at h;obtain ⟨x,y,⟨a,b⟩,⟨m,d⟩,rfl,h1,h2,l1,l2,⟨za,zb⟩,⟨zc,zd⟩,q⟩:=h;refine ⟨rfl,λcdv A outer s hr=>?_⟩;obtain ⟨p1,rfl,e1⟩:=h1;obtain ⟨p2,rfl,e2⟩:=h2;have pb:0<b:=l1.pos;have pd:0<d:=l2.pos;dsimp only at za zb zc zd e1 e2;have g1:=gA (n:=a) pd;have g2:=gA (n:=m) pb;have y1:=vD (n:=a) pd zd;have y2:=vD (n:=m) pb zb;have eq:oY (a,b) (m,d)=_:=BD l1 l2;refine ⟨_,(aM (bH (i:=2) MD.nd rfl (Or.inl rfl) (cR FQ10 (hr.mono Dd) (aT (bV bK (aO 0) aJ (λ_ _=>rfl)) (aT (bV bK (aO 1) aJ (λ_ _=>rfl)) aL))))
  (aM (bH (i:=3) MD.nd rfl (Or.inl rfl) (cR FQ10 (hr.mono Dd) (aT (bV bK (aO 1) aJ (λ_ _=>rfl)) (aT (bV bK (aO 0) aJ (λ_ _=>rfl)) aL))))
  (bF (cX (fI (aT (bT eG (bT eP (bV bK (aO 0) aJ (λ_ _=>rfl)) (aO 2)) (bT eP (bV bK (aO 1) aJ (λ_ _=>rfl)) (aO 3))) (aT (bT eG (bT eP (bV bK (aO 0) aJ (λ_ _=>rfl)) (aO 3)) (bT eP (bV bK (aO 1) aJ (λ_ _=>rfl)) (aO 2))) aL))))))),?_⟩
 refine ⟨_,rfl,?_⟩;refine EF e1 rfl ?_;refine ⟨_,rfl,?_⟩;refine EF e2 rfl ?_;refine wG pd ?_;refine ⟨_,rfl,?_⟩;refine EF e2 rfl ?_;refine ⟨_,rfl,?_⟩;refine EF e1 rfl ?_;refine wG pb ?_;refine ⟨_,rfl,?_⟩;refine EF e1 rfl ?_;refine ⟨_,rfl,_,_,rfl,rfl,mK g1 (mV y1),?_⟩;refine ⟨_,rfl,?_⟩;refine EF e2 rfl ?_;refine ⟨_,rfl,_,_,rfl,rfl,mK g2 (mV y2),_,_,rfl,rfl,sS (qL za g1) (qL zc g2),?_⟩;refine ⟨_,rfl,?_⟩;refine EF e1 rfl ?_;refine ⟨_,rfl,_,_,rfl,rfl,mK g2 (mV y2),?_⟩;refine ⟨_,rfl,?_⟩;refine EF e2 rfl ?_;refine ⟨_,rfl,_,_,rfl,rfl,mK g1 (mV y1),_,_,rfl,rfl,sS (qL zb g2) (qL zd g1),?_⟩;refine AL (by show 2<=64;decide) λp H3 hp e3 s3=>?_;refine q p H3 hp ?_ s3;rw [eq];exact e3
end
abbrev JH(fs:List Fr):PyData:=.tuple (fs.map xO)
structure rO(n:Nat)(fs:List Fr):Prop where
 len:fs.length=n
 low:∀f∈fs,fB f
 pos:∀f∈fs,0<=f.1
 le:∀f∈fs,f.1<=f.2
 dn:∀f∈fs,f.2<=1000
 one:BC fs=(1,1)
abbrev wD(w:Str × List Fr):PyData:=.tuple [.str w.1,JH w.2]
abbrev uD(fs:List Str)(ws:List (Str × List Fr)):PyData:=.tuple [.tuple (fs.map .str),.tuple (ws.map wD)]
def pool:List Str:=["a","ab","ways","onto","abc","sayer","ruler","b","prices","worthy","nones","zzzzzzzz"]
def rot(t:Nat):List Str:=pool.drop t++pool.take t
structure vP(t o F W:Nat)(fs:List Str)(ws:List (Str × List Fr)):Prop where
 ht:t<12
 ho:o=0\/o=2\/o=5
 hF:F=2\/F=3\/F=4
 hW:W=2\/W=3\/W=4
 hfs:fs=(rot t).take F
 hns:ws.map (·.1)=((rot t).drop o).take W
 sh:∀w∈ws,rO F w.2
theorem qP{t:Nat}(h:t<12):(rot t).length=12:=by
 unfold rot;rw [bC,List.length_drop,bO];show 12-t+min t 12=12;omega
theorem vP.lenF{t o F W:Nat}{fs:List Str}{ws:List (Str × List Fr)}(h:vP t o F W fs ws):fs.length=F:=by
 rw [h.hfs,bO,qP h.ht];have:=h.hF;omega
theorem vP.lenW{t o F W:Nat}{fs:List Str}{ws:List (Str × List Fr)}(h:vP t o F W fs ws):ws.length=W:=by
 have e:=congrArg List.length h.hns;rw [aB,bO,List.length_drop,qP h.ht] at e;have:=h.hW;have:=h.ho;omega
theorem tG:∀fs:List Fr,dM (fs.map xO)=true
 | []=>rfl
 | f::fs=>by show (dN (xO f)&&dM (fs.map xO))=true;rw [tG fs];rfl
theorem pI:∀fs:List Str,dM (fs.map PyData.str)=true
 | []=>rfl
 | f::fs=>by show (dN (.str f)&&dM (fs.map PyData.str))=true;rw [pI fs];rfl
theorem BQ(fs:List Fr):dN (JH fs)=true:=tG fs
theorem vZ(w:Str × List Fr):dN (wD w)=true:=by
 show (dN (.str w.1)&&(dN (JH w.2)&&true))=true;rw [BQ];rfl
theorem vT:∀ws:List (Str × List Fr),dM (ws.map wD)=true
 | []=>rfl
 | w::ws=>by show (dN (wD w)&&dM (ws.map wD))=true;rw [vZ w,vT ws];rfl
theorem eW(fs:List Str)(ws:List (Str × List Fr)):dN (uD fs ws)=true:=by
 show (dN (.tuple (fs.map .str))&&(dN (.tuple (ws.map wD))&&true))=true;rw [show dN (.tuple (fs.map PyData.str))=dM (fs.map PyData.str) from rfl,pI,show dN (.tuple (ws.map wD))=dM (ws.map wD) from rfl,vT];rfl
theorem bZ.like(p L:Addr):kP p L (λH=>bZ H p L) :=
 ⟨λD H1 H2 n1 n2 s F=>F.but s n1 n2,λH1 H2 s F=>F.same s,λH' F=>F.lst,λH' D F h=>⟨F.ne h,F.neL h⟩⟩
theorem qC{H:Hp}:∀fs:List Str,aY H (fs.map PyData.str) (fs.map V.str)
 | []=>aY.nil
 | f::fs=>aY.cons (cK.str f) (qC fs)
theorem eK{H:Hp}{ds:List PyData}{v:V}(h:cK H (.tuple ds) v):∃a xs,v=.ref a/\H a=some (.tup xs)/\aY H ds xs:=by unfold cK at h;exact h
theorem kN{H:Hp}{d e:PyData}{xs:List V}(h:aY H [d,e] xs):∃x y,xs=[x,y]/\cK H d x/\cK H e y:=by
 unfold aY aY aY at h;obtain ⟨x,_,rfl,h1,y,_,rfl,h2,rfl⟩:=h;exact ⟨x,y,rfl,h1,h2⟩
theorem fG{α:Type}{H:Hp}{g:α->PyData}{fs:List α}{vs:List V}(h:aY H (fs.map g) vs){i:Nat}{v:V}(e:vs[i]?=some v):∃f,fs[i]?=some f/\cK H (g f) v:=by
 obtain ⟨d,h1,h2⟩:=h.get e;rw [aQ] at h1;cases q:fs[i]? with
 | none=>rw [q] at h1;cases h1
 | some f=>rw [q] at h1;cases h1;exact ⟨f,rfl,h2⟩
theorem gL{α:Type}{H:Hp}{g:α->PyData}{fs:List α}{vs:List V}(h:aY H (fs.map g) vs){i:Nat}{f:α}(e:fs[i]?=some f):∃v,vs[i]?=some v/\cK H (g f) v :=
 h.get' (by rw [aQ,e];rfl)
theorem dF{α:Type}{H:Hp}{g:α->PyData}{fs:List α}{vs:List V}(h:aY H (fs.map g) vs):vs.length=fs.length:=by rw [h.len,aB]
theorem fP{α:Type}{l:List α}{i:Nat}{x:α}(h:l[i]?=some x):l.take (i+1)=l.take i++[x]:=by
 rw [List.take_add_one,h];rfl
@[irreducible] def gI:Sp:=λvs H Q _=>∃(p L:Addr) (m:Nat),vs=[.ref p,.int (m:Int)]/\bZ H p L/\0<m/\m<=4/\∀v fs H',bZ H' p L->aR p H H'->cK H' (JH fs) v->rO m fs->Q v H'
theorem sA{H:Hp}{Q:VK}{E:XK}{p L:Addr}{m:Nat}(F:bZ H p L)(h0:0<m)(h1:m<=4)(k:∀v fs H',bZ H' p L->aR p H H'->cK H' (JH fs) v->rO m fs->Q v H'):gI [.ref p,.int (m:Int)] H Q E:=by unfold gI;exact ⟨p,L,m,rfl,F,h0,h1,k⟩
@[irreducible] def iD:Sp:=λvs H Q _=>∃(p L:Addr),vs=[.ref p]/\bZ H p L/\∀v t o F W fs ws H',bZ H' p L->aR p H H'->cK H' (uD fs ws) v->vP t o F W fs ws->Q v H'
theorem nR{H:Hp}{Q:VK}{E:XK}{p L:Addr}(F:bZ H p L)(k:∀v t o F W fs ws H',bZ H' p L->aR p H H'->cK H' (uD fs ws) v->vP t o F W fs ws->Q v H'):iD [.ref p] H Q E:=by unfold iD;exact ⟨p,L,rfl,F,k⟩
theorem nQ:∀{ns:List Int},(∀n∈ns,0<=n)->0<=ns.sum
 | [],_=>Dd
 | n::ns,h=>by
  have:=nQ λm hm=>h m (aD _ hm);have:=h n (by simp);rw [List.sum_cons];omega
theorem qM{n:Int}:∀{ns:List Int},(∀n∈ns,0<=n)->n∈ns->n<=ns.sum
 | m::ns,h,hn=>by
  have h1:=nQ λm hm=>h m (aD _ hm);have h2:=h m (by simp);rw [List.sum_cons];rcases aP.mp hn with rfl | hn
  ·omega
  ·have:=qM (λm hm=>h m (aD _ hm)) hn;omega
theorem BJ{B:Nat}:∀{ns:List Int},(∀n∈ns,n<=B)->ns.sum<=B*ns.length
 | [],_=>by simp
 | n::ns,h=>by
  have h1:=BJ λm hm=>h m (aD _ hm);have h2:=h n (by simp);rw [List.sum_cons,bI];have:(B:Int)*((ns.length+1:Nat):Int)=B*ns.length+B:=by rw [Int.natCast_add,Int.mul_add];simp
  omega
theorem CG{ns:List Int}(h0:∀n∈ns,0<=n)(h1:∀n∈ns,n<=200)(hp:∃n∈ns,0<n)(hl:ns.length<=4):0<ns.sum/\ns.sum<=800/\rO ns.length (ns.map λn=>lw n ns.sum):=by
 obtain ⟨n,hn,pn⟩:=hp;have a1:=qM h0 hn;have a2:=BJ (B:=200) h1;have hS:0<ns.sum:=Oo;refine ⟨hS,Oo,by rw [aB],λf hf=>?_,λf hf=>?_,λf hf=>?_,λf hf=>?_,?_⟩
 ·obtain ⟨m,hm,rfl⟩:=cP.mp hf;exact eY hS
 ·obtain ⟨m,hm,rfl⟩:=cP.mp hf;exact Int.ediv_nonneg (h0 m hm) Oo
 ·obtain ⟨m,hm,rfl⟩:=cP.mp hf;have c:=fH (n:=m) (d:=ns.sum);have p:=(eY (n:=m) hS).pos;have b:=qM h0 hm;refine Int.le_of_mul_le_mul_right (a:=ns.sum) ?_ hS;rw [c,Int.mul_comm];exact Int.mul_le_mul_of_nonneg_left b Oo
 ·obtain ⟨m,hm,rfl⟩:=cP.mp hf;have:=(CO (n:=m) hS).1;omega
 ·rw [yL hS,qZ hS]
section
theorem SX(F:iW K "_law_shares" "_law_shares" MR f fd)(T:pC K mg c)
  (FQ0:kO eI P w K mg base 1 "_law_draw" ["_law_feed_here","_law_many_here"] gT) (FQ2:kO eI P w K mg base 1 "_law_low" ["_law_n","_law_d"] lC):dW P w K mg base eI 2 f fd ["_law_feed_here","_law_many_here"] gI:=by
 refine F.oky QA λvs H Q E h=>?_;unfold gI at h;obtain ⟨p,L,m,rfl,F,m0,m4,k⟩:=h;refine ⟨rfl,λcdv A outer s hr=>?_⟩;have bm:bits (m:Int)<=9000:=oQ (n:=9000) (aH (show (m:Int).natAbs<2^6 by show (m:Int).natAbs<64;omega) (cM Dd Dd));refine ⟨_,(aM (bH (i:=2) QA.nd rfl (Or.inr rfl) (bV bK (fR (aT aJ (aT aJ (aT aJ aL)))) (cR FQ0 (hr.mono Dd) (aT (aO 0) (aT aJ aL))) (λ_ _=>rfl)))
  (aM (bH (i:=3) QA.nd rfl (Or.inr rfl) (fO (dP.of (psc:=aZ MR) (N:=["_law_feed_here","_law_many_here","_law_most","_law_parts"]) (N':=["_law_k","_law_feed_here","_law_most"]) (js:=[0,2]) Kk rfl rfl rfl) (dE rfl T.b_range (aT (aO 1) aL)) (λ_ _ _ _=>fN) (λ_ _ _ _=>(bT eG (cR FQ0 (hr.mono Dd) (aT (aO 1) (aT (aO 2) aL))) (cR FQ0 (hr.mono Dd) (aT (aO 1) (aT aJ aL)))))))
  (aM (bH (i:=3) QA.nd rfl (Or.inr rfl) (fO (dP.of (psc:=aZ MR) (N:=["_law_feed_here","_law_many_here","_law_most","_law_parts"]) (N':=["_law_part","_law_most"]) (js:=[2]) Kk rfl rfl rfl) (mU (aO 3)) (λ_ _ _ _=>fN) (λ_ _ _ _=>(bT fU (aO 0) (bT dU (aO 1) aJ)))))
  (aM (kU (bT dU aJ (cR FQ0 (hr.mono Dd) (aT (aO 0) (aT (aO 2) aL)))) (nN (aO 3) (cR FQ0 (hr.mono Dd) (aT (aO 0) (aT (aO 1) aL))) iJ))
  (bF (cX (jK dS (by rfl) T.b_tuple Kk (aT (fO (dP.of (psc:=aZ MR) (N:=["_law_feed_here","_law_many_here","_law_most","_law_parts"]) (N':=["_law_part","_law_parts"]) (js:=[3]) Kk rfl rfl rfl) (mU (aO 3)) (λ_ _ _ _=>fN) (λ_ _ _ _=>(cR FQ2 (hr.mono Dd) (aT (aO 0) (aT (dZ (HC K rfl) (by rfl) T.b_sum Kk (aT (aO 1) aL)) aL))))) aL)))))))),?_⟩
 refine CJ (by show 3<=64;decide) λq1 H1 hq1 e1 s1=>?_;refine ⟨_,rfl,?_⟩;refine cV (F.same s1) Dd Kk λx H2 x0 x1 F2 s2=>?_;obtain ⟨v,hat,hmem,_⟩:=nE (xs:=[V.int 6,V.int 6,V.int 200]) x0 x1;refine lM (s2.at (F.ne hq1) e1) hat ?_;have hv:∃M:Int,v=.int M/\0<M/\M<=200/\bits M<=9000:=by
  simp only [aP,List.not_mem_nil,or_false] at hmem;rcases hmem with rfl | rfl | rfl <;> exact ⟨_,rfl,Dd,Dd,Kk⟩
 obtain ⟨M,rfl,M0,M1,bM⟩:=hv;have S2:=s1.but.trans s2;refine ⟨_,rfl,_,rfl,Oo,Oo,?_⟩;refine oO (bZ.like p L) F2 (λ_ y _=>∃n,y=.int n/\0<=n) (λ_ _ _ _ _ h=>h) Oo (λi H' Q' hi F' s' k'=>?_) (λD ys H3 hD hD3 F3 s3 hy hr3=>?_)
 ·refine ⟨_,rfl,_,rfl,?_⟩;refine cV F' M0 bM λa H4 a0 a1 F4 s4=>?_;refine ⟨_,rfl,?_⟩;refine cV F4 Dd Kk λb H5 b0 b1 F5 s5=>?_;refine ⟨_,_,rfl,rfl,IntMulOk.of_left (PySem.intBits_le_64 Oo Oo),?_⟩;exact k' _ H5 F5 (s4.trans s5) ⟨_,rfl,Int.mul_nonneg a0 b0⟩
 ·obtain ⟨ns,rfl,hn⟩:=rD (P:=λ_ n=>0<=n) hr3;have npD:=F2.ne hD;refine ⟨_,rfl,D,rfl,⟨_,fA.of hD3⟩,?_⟩;refine lQ (λ_ y _=>∃n,y=.int n/\0<=n/\n<=200) (λ_ _ _ _ _ h=>h) (by rw [hy];omega) hD3 (λi x H' Q' hx s' k'=>?_) (λD2 ys H4 hD2 hD4 s4 hy4 hr4=>?_)
  ·rw [aQ] at hx;obtain ⟨n,hn',rfl⟩:=(show ∃n,ns[i]?=some n/\V.int n=x by
    cases q:ns[i]? with
    | none=>rw [q] at hx;cases hx
    | some n=>rw [q] at hx;cases hx;exact ⟨n,rfl,rfl⟩)
   refine ⟨_,rfl,_,rfl,_,_,rfl,rfl,_,_,rfl,rfl,(by show 0<M+1;omega),?_⟩;have c0:=Int.emod_nonneg n (b:=M+1) Oo;have c1:=Int.emod_lt_of_pos n (b:=M+1) Oo;exact k' _ H' (aW.refl _) ⟨_,rfl,c0,Oo⟩
  ·obtain ⟨ms,rfl,hm⟩:=rD (P:=λ_ n=>0<=n/\n<=200) hr4;have F4:=F3.same s4;have lms:ms.length=m:=by
    rw [aB] at hy4 hy;rw [aB] at hy4;omega
   have np2:=F3.ne hD2;refine ⟨_,rfl,_,rfl,?_⟩;refine cV F4 M0 bM λa H5 a0 a1 F5 s5=>?_;refine ⟨_,_,rfl,rfl,?_⟩;refine ⟨_,rfl,_,rfl,_,rfl,?_⟩;refine cV F5 Oo bm λb H6 b0 b1 F6 s6=>?_;have hD6:=s6.at np2 (s5.at np2 hD4);have hj:CY (ms.map V.int).length b=some b.toNat:=by
    unfold CY;rw [if_pos b0,if_pos (by rw [aB];omega)]
   refine MQ hD6 hj λH7 e7 s7=>?_;rw [<-List.map_set] at e7;have nL2:=F3.neL hD2;have F7:=F6.but s7 np2 nL2;have hb:b.toNat<ms.length:=Oo;obtain ⟨hS,hS8,okS⟩:=CG (ns:=ms.set b.toNat (1+a))
    (λn hn=>by
     rcases List.mem_or_eq_of_mem_set hn with h | rfl
     ·obtain ⟨i,hi⟩:=dQ.mp h;exact (hm i n hi).1
     ·omega)
    (λn hn=>by
     rcases List.mem_or_eq_of_mem_set hn with h | rfl
     ·obtain ⟨i,hi⟩:=dQ.mp h;exact (hm i n hi).2
     ·omega)
    ⟨1+a,dQ.mpr ⟨b.toNat,by rw [List.getElem?_set_self hb]⟩,Oo⟩ (by rw [List.length_set];omega)
   have lt:(ms.set b.toNat (1+a)).length=m:=by rw [List.length_set];exact lms
   generalize ms.set b.toNat (1+a)=zs at *;have SF:aR p H H7:=by
    refine aR.thru ?_ (((S2.trans s3).trans s4.but).trans (s5.trans s6)) s7;exact aR.free (p:=p) (S2.trans s3) F3.there hD2
   refine ⟨_,rfl,D2,rfl,⟨_,fA.of e7⟩,?_⟩;refine lQ (λi y H'=>∃n,zs[i]?=some n/\cK H' (xO (lw n zs.sum)) y) (λi y H1 H2 s ⟨n,h1,h2⟩=>⟨n,h1,h2.flat s (DH _)⟩) (by rw [aB];omega) e7 (λi x H' Q' hx s' k'=>?_) (λD3 ys H8 hD3 hD8 s8 hy8 hr8=>?_)
   ·rw [aQ] at hx;obtain ⟨n,hn',rfl⟩:=(show ∃n,zs[i]?=some n/\V.int n=x by
     cases q:zs[i]? with
     | none=>rw [q] at hx;cases hx
     | some n=>rw [q] at hx;cases hx;exact ⟨n,rfl,rfl⟩)
    refine ⟨_,rfl,_,rfl,?_⟩;refine SN (fA.of (s' _ _ e7)) ?_;refine sC hS (aH (show zs.sum.natAbs<2^10 by show zs.sum.natAbs<1024;omega) (cM Dd Dd)) ?_;intro q9 H9 hq9 e9 s9;exact k' _ H9 s9 ⟨n,hn',DG e9⟩
   ·refine ⟨D3,ys,rfl,.inl ⟨fA.of hD8,λl hl=>?_⟩⟩;have sl:=aW.upd (o:=.tup ys) hl;have el:(upd H8 l (.tup ys)) l=some (.tup ys):=aX;generalize upd H8 l (.tup ys)=H9 at sl el;refine k _ (zs.map λn=>lw n zs.sum) H9 ((F7.same s8).same sl) (SF.trans (s8.trans sl).but) (cK.tup el ?_) (lt ▸ okS);refine aY.ofIdx (by rw [hy8,aB,aB,aB]) λi y hi=>?_;obtain ⟨n,h1,h2⟩:=hr8 i y hi;exact ⟨xO (lw n zs.sum),by rw [aQ,aQ,h1];rfl,h2.same sl⟩
theorem nZ{x:Int}(h:0<=x):∃t:Nat,x=(t:Int):=⟨x.toNat,Oo⟩
theorem SW(F:iW K "_law_trial" "_law_trial" PQ f fd)(T:pC K mg c)
  (FQ0:kO eI P w K mg base 1 "_law_draw" ["_law_feed_here","_law_many_here"] gT) (FQ7:kO eI P w K mg base 2 "_law_shares" ["_law_feed_here","_law_many_here"] gI):dW P w K mg base eI 3 f fd ["_law_feed_here"] iD:=by
 refine F.oky MU λvs H Q E h=>?_;unfold iD at h;obtain ⟨p,L,rfl,F,k⟩:=h;refine ⟨rfl,λcdv A outer s hr=>?_⟩;refine ⟨_,(aM (bH (i:=1) MU.nd rfl (Or.inl rfl) (fR (aT fJ (aT fJ (aT fJ (aT fJ (aT fJ (aT fJ (aT fJ (aT fJ (aT fJ (aT fJ (aT fJ (aT fJ aL))))))))))))))
  (aM (bH (i:=2) MU.nd rfl (Or.inl rfl) (cR FQ0 (hr.mono Dd) (aT (aO 0) (aT aJ aL))))
  (aM (bH (i:=1) MU.nd rfl (Or.inl rfl) (bT KS (fF (iH K) (aO 1) (fY (aO 2)) fZ) (fF (iH K) (aO 1) fZ (fY (aO 2)))))
  (aM (bH (i:=3) MU.nd rfl (Or.inr rfl) (fF (iH K) (aO 1) fZ (fY (bV bK (fR (aT aJ (aT aJ (aT aJ (aT aJ aL))))) (cR FQ0 (hr.mono Dd) (aT (aO 0) (aT aJ aL))) (λ_ _=>rfl)))))
  (aM (bH (i:=4) MU.nd rfl (Or.inl rfl) (fF (iH K) (fF (iH K) (aO 1) (fY (bV bK (fR (aT aJ (aT aJ (aT aJ aL)))) (cR FQ0 (hr.mono Dd) (aT (aO 0) (aT aJ aL))) (λ_ _=>rfl))) fZ) fZ (fY (bV bK (fR (aT aJ (aT aJ (aT aJ (aT aJ aL))))) (cR FQ0 (hr.mono Dd) (aT (aO 0) (aT aJ aL))) (λ_ _=>rfl)))))
  (bF (cX (fI (aT (jK dS (by rfl) T.b_tuple Kk (aT (aO 3) aL)) (aT (jK dS (by rfl) T.b_tuple Kk (aT (fO (dP.of (psc:=aZ PQ) (N:=["_law_feed_here","_law_pool","_law_turn","_law_faces","_law_ways"]) (N':=["_law_name","_law_feed_here","_law_faces"]) (js:=[0,3]) Kk rfl rfl rfl) (mU (aO 4)) (λ_ _ _ _=>fN) (λ_ _ _ _=>(fI (aT (aO 0) (aT (cR FQ7 (hr.mono Dd) (aT (aO 1) (aT (dZ (xZ K) (by rfl) T.b_len Kk (aT (aO 2) aL)) aL))) aL))))) aL)) aL)))))))))),?_⟩
 refine CJ (by show 12<=64;decide) λq1 H1 hq1 e1 s1=>?_;have e1':H1 q1=some (.lst (pool.map V.str)):=e1;refine ⟨_,rfl,?_⟩;refine cV (F.same s1) Dd Kk λx H2 x0 x1 F2 s2=>?_;obtain ⟨t,rfl⟩:=nZ x0;have e2:=s2.at (F.ne hq1) e1';have S2:aR p H H2:=s1.but.trans s2;refine ⟨_,rfl,_,rfl,_,rfl,?_⟩;refine NO e2 (ys:=(pool.drop t).map V.str) (by rw [rG,List.map_drop]) λq3 H3 hq3 e3 s3=>?_;refine ⟨_,rfl,_,rfl,_,rfl,?_⟩;refine NO (s3 _ _ e2) (ys:=(pool.take t).map V.str) (by rw [nD,List.map_take]) λq4 H4 hq4 e4 s4=>?_;have hp12:pool.length=12:=rfl;refine RM (s4 _ _ e3) e4 (by rw [aB,aB,List.length_drop,bO];omega) λq5 H5 hq5 e5 s5=>?_;have e5':H5 q5=some (.lst ((rot t).map V.str)):=by rw [e5];unfold rot;rw [cI]
 have ht:t<12:=Oo;have S5:aR p H H5:=S2.trans ((s3.trans s4).trans s5).but;have F5:=((F2.same s3).same s4).same s5;have n5:q5≠p:=((F2.same s3).same s4).ne hq5;clear e1 e1' e2 e3 e4 e5 s3 s4 s5 hq3 hq4 hq1 s1 s2;refine ⟨_,rfl,?_⟩;refine CJ (by show 4<=64;decide) λq6 H6 hq6 e6 s6=>?_;refine ⟨_,rfl,?_⟩;refine cV (F5.same s6) Dd Kk λy H7 y0 y1 F7 s7=>?_;obtain ⟨v,hat,hmem,_⟩:=nE (xs:=[V.int 2,V.int 2,V.int 3,V.int 4]) y0 y1;refine lM (s7.at (F5.ne hq6) e6) hat ?_;have hv:∃n:Nat,v=.int (n:Int)/\(n=2\/n=3\/n=4):=by
  simp only [aP,List.not_mem_nil,or_false] at hmem;rcases hmem with rfl | rfl | rfl | rfl
  ·exact ⟨2,rfl,Dd⟩
  ·exact ⟨2,rfl,Dd⟩
  ·exact ⟨3,rfl,Dd⟩
  ·exact ⟨4,rfl,Dd⟩
 obtain ⟨nF,rfl,hF⟩:=hv;have e7:=s7.at n5 (s6 _ _ e5');refine ⟨_,rfl,?_⟩;refine NO e7 (ys:=((rot t).take nF).map V.str) (by rw [nD,List.map_take]) λq8 H8 hq8 e8 s8=>?_;have S8:aR p H H8:=((S5.trans s6.but).trans s7).trans s8.but;have F8:=F7.same s8;have n8:q8≠p:=F7.ne hq8;have e8p:=s8 _ _ e7;clear e6 hq6 s6 s7 hat hmem e7 e5';refine ⟨_,rfl,?_⟩;refine CJ (by show 3<=64;decide) λq9 H9 hq9 e9 s9=>?_;refine ⟨_,rfl,?_⟩;refine cV (F8.same s9) Dd Kk λz H10 z0 z1 F10 s10=>?_;obtain ⟨v,hat,hmem,_⟩:=nE (xs:=[V.int 0,V.int 2,V.int 5]) z0 z1;refine lM (s10.at (F8.ne hq9) e9) hat ?_;have hv:∃n:Nat,v=.int (n:Int)/\(n=0\/n=2\/n=5):=by
  simp only [aP,List.not_mem_nil,or_false] at hmem;rcases hmem with rfl | rfl | rfl
  ·exact ⟨0,rfl,Dd⟩
  ·exact ⟨2,rfl,Dd⟩
  ·exact ⟨5,rfl,Dd⟩
 obtain ⟨o,rfl,ho⟩:=hv;refine ⟨_,rfl,?_⟩;refine NO (s10.at n5 (s9 _ _ e8p)) (ys:=((rot t).drop o).map V.str) (by rw [rG,List.map_drop]) λq11 H11 hq11 e11 s11=>?_;have F11:=F10.same s11;have n11:q11≠p:=F10.ne hq11;have e11f:=s11 _ _ (s10.at n8 (s9 _ _ e8));have S11:aR p H H11:=((S8.trans s9.but).trans s10).trans s11.but;clear e9 hq9 s9 s10 hat hmem;refine CJ (by show 4<=64;decide) λq12 H12 hq12 e12 s12=>?_;refine ⟨_,rfl,?_⟩;refine cV (F11.same s12) Dd Kk λy H13 y0 y1 F13 s13=>?_;obtain ⟨v,hat,hmem,_⟩:=nE (xs:=[V.int 2,V.int 2,V.int 3,V.int 4]) y0 y1;refine lM (s13.at (F11.ne hq12) e12) hat ?_;have hv:∃n:Nat,v=.int (n:Int)/\(n=2\/n=3\/n=4):=by
  simp only [aP,List.not_mem_nil,or_false] at hmem;rcases hmem with rfl | rfl | rfl | rfl
  ·exact ⟨2,rfl,Dd⟩
  ·exact ⟨2,rfl,Dd⟩
  ·exact ⟨3,rfl,Dd⟩
  ·exact ⟨4,rfl,Dd⟩
 obtain ⟨nW,rfl,hW⟩:=hv;refine ⟨_,rfl,?_⟩;refine NO (s13.at n11 (s12 _ _ e11)) (ys:=(((rot t).drop o).take nW).map V.str) (by rw [nD,List.map_take]) λq14 H14 hq14 e14 s14=>?_;have F14:=F13.same s14;have n14:q14≠p:=F13.ne hq14;have e14f:=s14 _ _ (s13.at n8 (s12 _ _ e11f));have S14:aR p H H14:=((S11.trans s12.but).trans s13).trans s14.but;clear e12 hq12 s12 s13 hat hmem e11 e11f;have lr:=qP ht;refine ⟨_,rfl,q8,_,rfl,.inl ⟨fA.of e14f,λl hl=>?_⟩⟩;have sl:=aW.upd (o:=.tup (((rot t).take nF).map V.str)) hl;have el:(upd H14 l (.tup (((rot t).take nF).map V.str))) l=some (.tup (((rot t).take nF).map V.str)):=aX;generalize upd H14 l (.tup (((rot t).take nF).map V.str))=H15 at sl el;have F15:=F14.same sl;refine ⟨_,rfl,q14,rfl,⟨_,fA.of (sl _ _ e14)⟩,?_⟩;refine DR (bZ.like p L) F15 (λi y H'=>∃w:Str × List Fr,(((rot t).drop o).take nW)[i]?=some w.1/\rO nF w.2/\cK H' (wD w) y) (λi y H1 H2 s ⟨w,h1,h2,h3⟩=>⟨w,h1,h2,h3.flat s (vZ _)⟩) (by rw [aB,bO];omega) n14 (sl _ _ e14) (λi x H' Q' hx F' s' k'=>?_) (λD ys H16 hD hD16 F16 s16 hy16 hr16=>?_)
 ·rw [aQ] at hx;obtain ⟨nm,hn',rfl⟩:=(show ∃n,(((rot t).drop o).take nW)[i]?=some n/\V.str n=x by
   cases q:(((rot t).drop o).take nW)[i]? with
   | none=>rw [q] at hx;cases hx
   | some n=>rw [q] at hx;cases hx;exact ⟨n,rfl,rfl⟩)
  refine ⟨_,rfl,_,rfl,_,rfl,?_⟩;refine NR (s'.at n8 (sl _ _ e14f)) ?_;have lf:(((rot t).take nF).map V.str).length=nF:=by rw [aB,bO];omega
  rw [lf];refine sA F' Oo Oo λv fs H17 F17 s17 r17 ok17=>?_;refine AL (by show 2<=64;decide) λq18 H18 hq18 e18 s18=>?_;exact k' _ H18 (F17.same s18) (s17.trans s18.but) ⟨(nm,fs),hn',ok17,cK.tup e18 (aY.cons (cK.str _) (aY.cons (r17.same s18) aY.nil))⟩
 ·refine ⟨D,ys,rfl,.inl ⟨fA.of hD16,λl2 hl2=>?_⟩⟩;have sl2:=aW.upd (o:=.tup ys) hl2;have el2:(upd H16 l2 (.tup ys)) l2=some (.tup ys):=aX;generalize upd H16 l2 (.tup ys)=H17 at sl2 el2;have elf:H17 l=some (.tup (((rot t).take nF).map V.str)):=sl2 _ _ (s16.at (F14.ne hl) el);refine AL (by show 2<=64;decide) λq18 H18 hq18 e18 s18=>?_;have hws:∀(n:Nat) (ys:List V),ys.length=n->(∀(i:Nat) y,ys[i]?=some y->∃w:Str × List Fr,(((rot t).drop o).take nW)[i]?=some w.1/\rO nF w.2/\cK H16 (wD w) y) ->
    ∃ws:List (Str × List Fr),ws.length=n/\aY H16 (ws.map wD) ys/\(∀(i:Nat) w,ws[i]?=some w->(((rot t).drop o).take nW)[i]?=some w.1)/\∀w∈ws,rO nF w.2:=by
   generalize ((rot t).drop o).take nW=nl;intro n
   induction n generalizing nl with
   | zero =>
    intro ys hl _;cases ys with
    | nil=>exact ⟨[],rfl,aY.nil,λi w h=>by simp at h,λw h=>by cases h⟩
    | cons _ _=>simp at hl
   | succ n ih =>
    intro ys hl h;cases ys with
    | nil=>simp at hl
    | cons y ys =>
     obtain ⟨w,h1,h2,h3⟩:=h 0 y rfl;obtain ⟨ws,i1,i2,i3,i4⟩:=ih nl.tail ys (by simpa using hl) λi z hz=>by
      obtain ⟨w,h1,h2,h3⟩:=h (i+1) z (by simpa using hz);exact ⟨w,by rw [List.getElem?_tail];exact h1,h2,h3⟩
     refine ⟨w::ws,by simp [i1],aY.cons h3 i2,λi v hv=>?_,λv hv=>?_⟩
     ·cases i with
      | zero=>cases (show w=v by simpa using hv);exact h1
      | succ i =>
       have:=i3 i v (by simpa using hv);rw [List.getElem?_tail] at this;exact this
     ·rcases aP.mp hv with rfl | hv
      ·exact h2
      ·exact i4 v hv
  obtain ⟨ws,w1,w2,w3,w4⟩:=hws _ ys rfl hr16;have lnl:(((rot t).drop o).take nW).length=nW:=by
   rw [bO,List.length_drop,lr];omega
  have lws:ws.length=nW:=by rw [w1,hy16,aB,lnl]
  refine k _ t o nF nW ((rot t).take nF) ws H18 ((F16.same sl2).same s18) ?_ ?_ ⟨ht,ho,hF,hW,rfl,?_,w4⟩
  ·exact (S14.trans sl.but).trans (s16.trans (sl2.trans s18).but)
  ·exact cK.tup e18 (aY.cons (cK.tup (s18 _ _ elf) (qC _)) (aY.cons (cK.tup (s18 _ _ el2) (w2.same (sl2.trans s18))) aY.nil))
  ·apply List.ext_getElem?;intro i;rw [aQ];cases q:ws[i]? with
   | none =>
    have:nW<=i:=by rw [<-lws];exact List.getElem?_eq_none_iff.mp q
    rw [bR Oo];rfl
   | some w=>rw [w3 i w q];rfl
end
abbrev gR(cs:List Nat):PyData:=.tuple (cs.map λ(n:Nat)=>PyData.int (n:Int))
theorem tN:∀cs:List Nat,dM (cs.map λ(n:Nat)=>PyData.int (n:Int))=true
 | []=>rfl
 | f::fs=>by show (dN (.int f)&&dM (fs.map λ(n:Nat)=>PyData.int (n:Int)))=true;rw [tN fs];rfl
theorem kE(cs:List Nat):dN (gR cs)=true:=tN cs
theorem LR{K:PySem.W.Frag}{H:Hp}{a:Addr}{m n:Int}(h:oI K a [m,n]=true):nH K H (m,n) (.ref a):=⟨a,rfl,rX h⟩
theorem wB{H:Hp}{fs:List Str}{ws:List (Str × List Fr)}{v:V}(h:cK H (uD fs ws) v):∃a af aw xf xw,v=.ref a/\H a=some (.tup [.ref af,.ref aw])/\H af=some (.tup xf)/\H aw=some (.tup xw)/\aY H (fs.map .str) xf/\aY H (ws.map wD) xw:=by
 obtain ⟨a,xs,rfl,ha,hr⟩:=eK h;obtain ⟨x,y,rfl,hx,hy⟩:=kN hr;obtain ⟨af,xf,rfl,h1,h2⟩:=eK hx;obtain ⟨aw,xw,rfl,h3,h4⟩:=eK hy;exact ⟨a,af,aw,xf,xw,rfl,ha,h1,h3,h2,h4⟩
@[irreducible] def lB:Sp:=λvs H Q _=>∃v fs ws w,∃i:Nat,vs=[v,.int (i:Int)]/\cK H (uD fs ws) v/\ws[i]?=some w/\∀x,cK H (JH w.2) x->Q x H
theorem rY{H:Hp}{Q:VK}{E:XK}{v:V}{fs:List Str}{ws:List (Str × List Fr)}{w:Str × List Fr}{i:Nat}(h:cK H (uD fs ws) v)(hw:ws[i]?=some w)(q:∀x,cK H (JH w.2) x->Q x H):lB [v,.int (i:Int)] H Q E:=by unfold lB;exact ⟨v,fs,ws,w,i,rfl,h,hw,q⟩
structure HL(B:Nat)(fs:List Fr):Prop where
 low:∀f∈fs,fB f
 up:∀f∈fs,f.1.natAbs<=2^B
 dn:∀f∈fs,f.2.natAbs<=2^B
theorem rO.b{n:Nat}{fs:List Fr}(h:rO n fs):HL 10 fs :=
 ⟨h.low,λf hf=>by have:=h.le f hf;have:=h.pos f hf;have:=h.dn f hf;show f.1.natAbs<=1024;omega,λf hf=>by have:=(h.low f hf).pos;have:=h.dn f hf;show f.2.natAbs<=1024;omega⟩
@[irreducible] def iE(K:PySem.W.Frag):Sp:=λvs H Q _=>∃x f,∃c B:Nat,vs=[x,.int (c:Int)]/\nH K H f x/\f.1.natAbs<=2^B/\f.2.natAbs<=2^B/\B<=4000/\c<=4000/\B*c<=4000/\uB H Q (nX f c)
theorem uL{K:PySem.W.Frag}{H:Hp}{Q:VK}{E:XK}{x:V}{f:Fr}{c B:Nat}(h:nH K H f x)(h1:f.1.natAbs<=2^B)(h2:f.2.natAbs<=2^B)(h3:B<=4000)(h5:c<=4000)(h4:B*c<=4000)(q:uB H Q (nX f c)):iE K [x,.int (c:Int)] H Q E:=by unfold iE;exact ⟨x,f,c,B,rfl,h,h1,h2,h3,h5,h4,q⟩
theorem rB{x:Int}{n:Nat}(h:x.natAbs<=2^n)(hn:n<=4000):x.natAbs<2^4001:=aV h (Nat.pow_lt_pow_right Dd Oo)
theorem nO{f:Fr}{n:Nat}(h1:f.1.natAbs<=2^n)(h2:f.2.natAbs<=2^n){k:Nat}(hk:n<k):MJ k f:=⟨aV h1 (Nat.pow_lt_pow_right Dd hk),aV h2 (Nat.pow_lt_pow_right Dd hk)⟩
@[irreducible] def gG(K:PySem.W.Frag):Sp:=λvs H Q _=>∃v cv fs ws w cs,∃i:Nat,vs=[v,.int (i:Int),cv]/\cK H (uD fs ws) v/\ws[i]?=some w/\cK H (gR cs) cv/\HL 10 w.2/\cs.sum<=390/\∀x H',aW H H'->nH K H' (iZ (w.2.zip cs)) x->Q x H'
theorem rZ{K:PySem.W.Frag}{H:Hp}{Q:VK}{E:XK}{v cv:V}{fs:List Str}{ws:List (Str × List Fr)}{w:Str × List Fr}{cs:List Nat}{i:Nat}(h:cK H (uD fs ws) v)(hw:ws[i]?=some w)(hc:cK H (gR cs) cv)(ok:HL 10 w.2)(hs:cs.sum<=390)(q:∀x H',aW H H'->nH K H' (iZ (w.2.zip cs)) x->Q x H'):gG K [v,.int (i:Int),cv] H Q E:=by unfold gG;exact ⟨v,cv,fs,ws,w,cs,i,rfl,h,hw,hc,ok,hs,q⟩
theorem EM{α β:Type}{l:List α}{m:List β}{i:Nat}{a:α}{b:β}(h1:l[i]?=some a)(h2:m[i]?=some b):(l.zip m)[i]?=some (a,b):=by rw [List.getElem?_zip_eq_some];exact ⟨h1,h2⟩
theorem EL{α:Type}(l:List α)(m:List Nat)(i:Nat):(((l.zip m).take i).map (·.2)).sum<=m.sum:=by
 induction l generalizing m i with
 | nil=>simp
 | cons a l ih =>
  cases m with
  | nil=>simp
  | cons b m =>
   cases i with
   | zero=>simp
   | succ i =>
    have:=ih m i;simp only [List.zip_cons_cons,List.take_succ_cons,bA,List.sum_cons];omega
theorem gY{α β:Type}{l:List α}{m:List β}{i:Nat}{z:α × β}(h:z∈(l.zip m).take i):z.1∈l:=(List.of_mem_zip (a:=z.1) (b:=z.2) (List.mem_of_mem_take h)).1
theorem wF{m:List Nat}{i c:Nat}(h:m[i]?=some c):c<=m.sum:=by
 induction m generalizing i with
 | nil=>simp at h
 | cons a m ih =>
  rw [List.sum_cons];cases i with
  | zero=>cases (show a=c by simpa using h);omega
  | succ i=>have:=ih (i:=i) (by simpa using h);omega
section
theorem QW(F:iW K "way_shares" "way_shares" JJ f fd)(T:pC K mg c):dW P w K mg base eI 1 f fd ["trial","way"] lB:=by
 refine F.oky RP λvs H Q E h=>?_;unfold lB at h;obtain ⟨v,fs,ws,w,i,rfl,h,hw',q⟩:=h;refine ⟨rfl,λcdv A outer s hr=>?_⟩;obtain ⟨a,af,aw,xf,xw,rfl,ha,hf,hw,rf,rw'⟩:=wB h;obtain ⟨u,hu,ru⟩:=gL rw' hw';obtain ⟨b,xs,rfl,hb,hr'⟩:=eK ru;obtain ⟨y,z,rfl,hy,hz⟩:=kN hr';refine ⟨_,(bF (cX (bV bK (bV bK (bV bK (aO 0) aJ (λ_ _=>rfl)) (aO 1) (λ_ _=>rfl)) aJ (λ_ _=>rfl)))),?_⟩;refine ⟨_,rfl,?_⟩;refine tD ha rfl ?_;refine ⟨_,rfl,?_⟩;refine tD hw (fE (j:=i) hu) ?_;refine tD hb rfl ?_;exact q _ hz
theorem RA(F:iW K "power" "power" JN f fd)(T:pC K mg c):dW P w K mg base eI 1 f fd ["share","count"] (iE K):=by
 refine F.oky AE λvs H Q E h=>?_;unfold iE at h;obtain ⟨x,f,n,B,rfl,⟨a,rfl,ha⟩,h1,h2,h3,h5,h4,q⟩:=h;refine ⟨rfl,λcdv A outer s hr=>?_⟩;refine ⟨_,(aM (bH (i:=2) AE.nd rfl (Or.inl rfl) aJ)
  (aM (bH (i:=3) AE.nd rfl (Or.inl rfl) aJ)
  (aM (dY PassesOwn.never rfl (dE rfl T.b_range (aT (aO 1) aL)) (cU (i:=4) AE.nd rfl (Or.inl rfl)) (aM (bH (i:=2) AE.nd rfl (Or.inl rfl) (bT eG (aO 2) (bV bK (aO 0) aJ (λ_ _=>rfl))))
  (bF (bH (i:=3) AE.nd rfl (Or.inl rfl) (bT eG (aO 3) (bV bK (aO 0) aJ (λ_ _=>rfl)))))))
  (bF (cX (fI (aT (aO 2) (aT (aO 3) aL)))))))),?_⟩
 refine ⟨_,rfl,_,rfl,Oo,Oo,?_⟩;refine dL (λi σ H'=>∃o4,σ=[some (.ref a),some (.int (n:Int)),some (.int (f.1^i)),some (.int (f.2^i)),o4]/\H'=H) ⟨_,by rw [Int.pow_zero,Int.pow_zero];rfl,rfl⟩ ?_ ?_
 ·rintro i σ H1 hi ⟨o4,rfl,rfl⟩;have hB:B*i<=4000:=aU (Nat.mul_le_mul_left _ Oo) h4;refine ⟨_,rfl,_,rfl,?_⟩;refine EF ha rfl ?_;refine ⟨_,_,rfl,rfl,sS (rB (lE h1 i) hB) (rB h1 h3),?_⟩;refine ⟨_,rfl,_,rfl,?_⟩;refine EF ha rfl ?_;refine ⟨_,_,rfl,rfl,sS (rB (lE h2 i) hB) (rB h2 h3),?_⟩;exact ⟨_,by rw [Int.pow_succ,Int.pow_succ];rfl,rfl⟩
 ·rintro σ H1 ⟨o4,rfl,rfl⟩;refine ⟨_,rfl,_,rfl,?_⟩;refine AL (by show 2<=64;decide) λq3 H3 hq3 e3 s3=>?_;exact q q3 H3 hq3 (by rw [e3];rfl) s3
theorem QV(F:iW K "weight" "weight" JI f fd)(T:pC K mg c)
  (FQ17:kO eI P w K mg base 1 "way_shares" ["trial","way"] lB) (FQ16:kO eI P w K mg base 2 "times" ["one","other"] (gH K)) (FQ13:kO eI P w K mg base 1 "power" ["share","count"] (iE K)):dW P w K mg base eI 3 f fd ["trial","way","counts"] (gG K):=by
 refine F.oky DV λvs H Q E h=>?_;unfold gG at h;obtain ⟨v,cv,fs,ws,w,cs,j,rfl,h,hw,hc,ok,hs,q⟩:=h;refine ⟨rfl,λcdv A outer s hr=>?_⟩;refine ⟨_,(aM (bH (i:=3) DV.nd rfl (Or.inl rfl) (vW (v:=.ref c.ONE) rfl T.g_ONE rfl))
  (aM (dY PassesOwn.never rfl (IW true true rfl T.b_zip (aT (cR FQ17 (hr.mono Dd) (aT (aO 0) (aT (aO 1) aL))) (aT (aO 2) aL))) (AU rfl (jJ (cU (i:=4) DV.nd rfl (Or.inl rfl)) (jJ (cU (i:=5) DV.nd rfl (Or.inl rfl)) vV))) (bF (bH (i:=3) DV.nd rfl (Or.inl rfl) (cR FQ16 (hr.mono Dd) (aT (aO 3) (aT (cR FQ13 (hr.mono Dd) (aT (aO 4) (aT (aO 5) aL))) aL))))))
  (bF (cX (aO 3))))),?_⟩
 refine ⟨_,rfl,_,rfl,?_⟩;refine rY h hw λx rx=>?_;obtain ⟨l1,xs,rfl,h1,r1⟩:=eK rx;obtain ⟨l2,ys,rfl,h2,r2⟩:=eK hc;refine ⟨_,rfl,l1,l2,xs,ys,rfl,h1,h2,?_⟩;have hl1:=dF r1;have hl2:=dF r2;have zl:∀i,∀z∈(w.2.zip cs).take i,fB z.1:=λi z hz=>ok.low _ (gY hz);have zb:∀i,∀z∈(w.2.zip cs).take i,z.1.1.natAbs<=2^10/\z.1.2.natAbs<=2^10:=λi z hz=>⟨ok.up _ (gY hz),ok.dn _ (gY hz)⟩;refine GU (λi σ H'=>∃x o4 o5,σ=[some v,some (.int (j:Int)),some (.ref l2),some x,o4,o5]/\aW H H'/\nH K H' (iZ ((w.2.zip cs).take i)) x) ⟨_,_,_,rfl,aW.refl _,LR T.o_ONE⟩ (λi σ H' ⟨x,o4,o5,_,s',_⟩=>⟨s' _ _ h1,s' _ _ h2⟩) ?_ ?_
 ·rintro i y z q3 σ H1 H2 hy hz ⟨x,o4,o5,rfl,s1,r⟩ hq3 e3 s3;obtain ⟨g,hg,rg⟩:=fG r1 hy;obtain ⟨n,hn,rn⟩:=fG r2 hz;cases (show z=V.int (n:Int) from rn);have gm:=cE hg;have nn:=wF hn;refine ⟨q3,_,rfl,eT.of e3,rfl,_,_,rfl,_,_,rfl,rfl,?_⟩;refine ⟨_,rfl,_,rfl,_,rfl,?_⟩;refine uL (B:=10) (nH.of (rg.same (s1.trans s3))) (ok.up _ gm) (ok.dn _ gm) Dd Oo Oo ?_;intro q4 H4 hq4 e4 s4;obtain ⟨b1,b2⟩:=EV ((w.2.zip cs).take i) (zl i) (zb i);have zs:=EL w.2 cs i;have c1:=lE (ok.up _ gm) n;have c2:=lE (ok.dn _ gm) n;refine nS (nH.same (s3.trans s4) r) (nH.new (f:=nX g n) e4) (AT _ (zl i)) (iK (ok.low _ gm) n) (nO b1 b2 Oo) (nO c1 c2 Oo) ?_;intro q5 H5 hq5 e5 s5;refine ⟨_,_,_,rfl,((s1.trans s3).trans s4).trans s5,?_⟩;rw [fP (EM hg hn),kZ];exact nH.new e5
 ·rintro σ H1 ⟨x,o4,o5,rfl,s1,r⟩;refine ⟨_,rfl,?_⟩;refine q _ H1 s1 ?_;have e:(w.2.zip cs).take (min xs.length ys.length)=w.2.zip cs:=List.take_of_length_le (by rw [List.length_zip];omega)
  rwa [e] at r
end
theorem OJ(c:List Nat):mN c<=fac c.sum:=by
 have:=CN c;have h:=vF c;rw [<-this];exact Nat.le_mul_of_pos_right _ h
theorem vH:∀{n:Nat},n<=64->fac n<=2^(6*n)
 | 0,_=>Dd
 | n+1,h=>by
  have ih:=vH (n:=n) Oo;show (n+1)*fac n<=2^(6*n+6);rw [Nat.pow_add,Nat.mul_comm];exact Nat.mul_le_mul ih (by show n+1<=64;omega)
theorem IB{c:List Nat}(h:c.sum<=64):mN c<=2^384:=aU (OJ c) (aU (vH h) (cM Dd Oo))
theorem mF:∀(l:List Nat) (i:Nat),(l.take i).sum<=l.sum
 | [],i=>by simp
 | a::l,0=>by simp
 | a::l,i+1=>by
  have:=mF l i;rw [List.take_succ_cons,List.sum_cons,List.sum_cons];omega
@[irreducible] def gJ:Sp:=λvs H Q _=>∃cv cs,vs=[cv]/\cK H (gR cs) cv/\cs.sum<=64/\Q (.int (mN cs:Nat)) H
theorem mG{H:Hp}{Q:VK}{E:XK}{cv:V}{cs:List Nat}(h:cK H (gR cs) cv)(hs:cs.sum<=64)(q:Q (.int (mN cs:Nat)) H):gJ [cv] H Q E:=by unfold gJ;exact ⟨cv,cs,rfl,h,hs,q⟩
section
theorem QZ(F:iW K "rows_to" "rows_to" JM f fd)(T:pC K mg c):dW P w K mg base eI 1 f fd ["counts"] gJ:=by
 refine F.oky vM λvs H Q E h=>?_;unfold gJ at h;obtain ⟨cv,cs,rfl,h,hs,q⟩:=h;refine ⟨rfl,λcdv A outer s hr=>?_⟩;obtain ⟨a,xs,rfl,ha,rx⟩:=eK h;have hlen:=dF rx;refine ⟨_,(aM (bH (i:=1) vM.nd rfl (Or.inl rfl) aJ)
  (aM (bH (i:=2) vM.nd rfl (Or.inl rfl) aJ)
  (aM (dY PassesOwn.never rfl (nJ (aO 0)) (cU (i:=3) vM.nd rfl (Or.inl rfl)) (bF (dY PassesOwn.never rfl (kW rfl T.b_range (aT aJ (aT (bT dU (aO 3) aJ) aL))) (cU (i:=4) vM.nd rfl (Or.inl rfl)) (aM (bH (i:=2) vM.nd rfl (Or.inl rfl) (bT dU (aO 2) aJ))
  (bF (bH (i:=1) vM.nd rfl (Or.inl rfl) (bT eP (bT eG (aO 1) (aO 2)) (aO 4))))))))
  (bF (cX (aO 1)))))),?_⟩
 refine ⟨_,rfl,a,rfl,⟨_,eT.of ha⟩,?_⟩;refine nB (xs:=xs) (λi σ H'=>∃o3 o4,σ=[some (.ref a),some (.int (mN (cs.take i):Nat)),some (.int ((cs.take i).sum:Nat)),o3,o4]/\H'=H) ⟨_,_,rfl,rfl⟩ (λi σ H' _ p=>?_) ?_ ?_
 ·obtain ⟨o3,o4,_,rfl⟩:=p;exact eT.of ha
 ·rintro i x σ H1 hx ⟨o3,o4,rfl,rfl⟩;obtain ⟨n,hn,rn⟩:=fG rx hx;cases (show x=V.int (n:Int) from rn);have hti:=fP hn;have hle:=mF cs (i+1);rw [hti,List.sum_append] at hle;simp only [List.sum_cons,List.sum_nil,Nat.add_zero] at hle;refine ⟨_,rfl,_,_,rfl,rfl,_,_,rfl,⟨Dd,Dd,Oo,Oo⟩,?_⟩;have en:((n:Int)+1-1).toNat=n:=Oo;rw [en];refine dL (λk σ H'=>∃o4,σ=[some (.ref a),some (.int (mN (cs.take i)*bin ((cs.take i).sum+k) k:Nat)),some (.int ((cs.take i).sum+k:Nat)),some (.int (n:Int)),o4]/\H'=H1) ⟨_,by rw [kK,Nat.mul_one];rfl,rfl⟩ ?_ ?_
  ·rintro k σ H2 hk ⟨o4,rfl,rfl⟩;have zk:(mN (cs.take i)*bin ((cs.take i).sum+k) k)<=2^384:=by
    have:=IB (c:=cs.take i++[k]) (by rw [List.sum_append];simp only [List.sum_cons,List.sum_nil,Nat.add_zero];omega)
    rwa [qY] at this
   have e1:(((cs.take i).sum+k:Nat):Int)+1=(((cs.take i).sum+(k+1):Nat):Int):=Oo;have e2:(1:Int)+(k:Int)=((k+1:Nat):Int):=Oo;have key:((mN (cs.take i)*bin ((cs.take i).sum+k) k:Nat):Int)*(((cs.take i).sum+(k+1):Nat):Int)/((k+1:Nat):Int)=((mN (cs.take i)*bin ((cs.take i).sum+(k+1)) (k+1):Nat):Int):=by
    have hb:=iN ((cs.take i).sum+k) k;have e3:mN (cs.take i)*bin ((cs.take i).sum+k) k*((cs.take i).sum+(k+1))=(k+1)*(mN (cs.take i)*bin ((cs.take i).sum+(k+1)) (k+1)):=by
     rw [Nat.mul_assoc,Nat.mul_comm (bin _ k),show (cs.take i).sum+(k+1)=(cs.take i).sum+k+1 from rfl,<-hb]
     ac_rfl
    rw [<-Int.natCast_mul,e3,Int.natCast_mul];exact Int.mul_ediv_cancel_left _ Oo
   refine ⟨_,rfl,_,_,rfl,rfl,?_⟩;refine ⟨_,rfl,_,rfl,_,_,rfl,rfl,sS (n:=400) (m:=64) ?_ ?_,?_⟩
   ·rw [Int.natAbs_natCast];exact aV zk (Nat.pow_lt_pow_right Dd Dd)
   ·exact aV (m:=100) Oo Dd
   refine ⟨_,rfl,_,_,rfl,rfl,mK ?_ ?_,?_⟩
   ·omega
   ·exact aH (show ((1:Int)+(k:Int)).natAbs<2^10 by show _<1024;omega) (cM Dd Dd)
   refine ⟨some (.int (1+(k:Int))),?_,rfl⟩;rw [<-key,<-e1,<-e2]
   rfl
  ·rintro σ H2 ⟨o4,rfl,rfl⟩;refine ⟨some (.int (n:Int)),o4,?_,rfl⟩;rw [hti,qY,List.sum_append]
   first | (simp only [List.sum_cons,List.sum_nil,Nat.add_zero];done) | (simp only [List.sum_cons,List.sum_nil,Nat.add_zero];rfl)
 ·rintro σ H1 ⟨o3,o4,rfl,rfl⟩;refine ⟨_,rfl,?_⟩;rw [hlen,eL];exact q
end
def oT(H:Hp)(a:Addr)(cs:List (List Nat)):Prop:=∃vs,H a=some (.lst vs)/\aY H (cs.map gR) vs
theorem kF:∀cs:List (List Nat),dM (cs.map gR)=true
 | []=>rfl
 | c::cs=>by show (dN (gR c)&&dM (cs.map gR))=true;rw [kF cs,kE];rfl
theorem oT.len{H:Hp}{a:Addr}{cs:List (List Nat)}(h:oT H a cs):∃vs,H a=some (.lst vs)/\aY H (cs.map gR) vs/\vs.length=cs.length:=by
 obtain ⟨vs,h1,h2⟩:=h;exact ⟨vs,h1,h2,dF h2⟩
theorem aY.app{H:Hp}:∀{ds es:List PyData}{xs ys:List V},aY H ds xs->aY H es ys->aY H (ds++es) (xs++ys)
 | [],es,xs,ys,h1,h2=>by
  have:xs=[]:=h1;subst this;exact h2
 | d::ds,es,xs,ys,h1,h2=>by
  unfold aY at h1;obtain ⟨x,xs',rfl,hx,hr⟩:=(show ∃x xs',xs=x::xs'/\cK H d x/\aY H ds xs' from h1);exact aY.cons hx (aY.app hr h2)
theorem iQ{α:Type}(g:Nat->List α)(i:Nat):(List.range (i+1)).flatMap g=(List.range i).flatMap g++g i:=by
 rw [List.range_succ,List.flatMap_append];simp
@[irreducible] def fS(n:Nat):Sp:=λvs H Q _=>∃F m:Nat,vs=[.int (F:Int),.int (m:Int)]/\1<=F/\F<=n/\F<=4/\m<=5/\∀a H',aW H H'->H a=none->oT H' a (cta F m)->Q (.ref a) H'
theorem BK{n:Nat}{H:Hp}{Q:VK}{E:XK}{F m:Nat}(h1:1<=F)(h2:F<=n)(h4:F<=4)(h3:m<=5)(q:∀a H',aW H H'->H a=none->oT H' a (cta F m)->Q (.ref a) H'):fS n [.int (F:Int),.int (m:Int)] H Q E:=by unfold fS;exact ⟨F,m,rfl,h1,h2,h4,h3,q⟩
theorem sD{n:Nat}{H:Hp}{Q:VK}{E:XK}{F m:Nat}{x y:Int}(ex:x=(F:Int))(ey:y=(m:Int))(h1:1<=F)(h2:F<=n)(h4:F<=4)(h3:m<=5)(q:∀a H',aW H H'->H a=none->oT H' a (cta F m)->Q (.ref a) H'):fS n [.int x,.int y] H Q E:=by
 subst ex ey;exact BK h1 h2 h4 h3 q
@[irreducible] def jR:Sp:=λvs H Q _=>∃F m:Nat,vs=[.int (F:Int),.int (m:Int)]/\1<=F/\F<=4/\m<=5/\∀a H',aW H H'->H a=none->oT H' a ((List.range (m+1)).flatMap (cta F))->Q (.ref a) H'
theorem yS{H:Hp}{Q:VK}{E:XK}{F m:Nat}(h1:1<=F)(h4:F<=4)(h3:m<=5)(q:∀a H',aW H H'->H a=none->oT H' a ((List.range (m+1)).flatMap (cta F))->Q (.ref a) H'):jR [.int (F:Int),.int (m:Int)] H Q E:=by unfold jR;exact ⟨F,m,rfl,h1,h4,h3,q⟩
theorem lP:∀F,F<=4->∀m,m<=5->(cta F m).length<=56:=Kk
theorem uU:∀F,F<=3->∀m,m<=5->∀i,i<=6->((List.range i).flatMap λk=>(cta F (m-k)).map λc=>k::c).length<=400:=Kk
theorem qB:∀F,F<=4->∀i,i<=6->((List.range i).flatMap (cta F)).length<=400:=Kk
theorem DQ{F m:Nat}{c:List Nat}(h:c∈cta F m):c.length=F:=(kD h).1
section
theorem QE(F:iW K "counts_that_are" "counts_that_are" BR f fd)(T:pC K mg c):dW P w K mg base eI 1 f fd ["faces","many"] (fS 0):=by
 refine F.okw HF (λvs H Q E h=>?_) (λcdv A outer s H vs Q E hr h=>?_)
 ·unfold fS at h;obtain ⟨F,m,_,h1,h2,_⟩:=h;omega
 ·unfold fS at h;obtain ⟨F,m,_,h1,h2,_⟩:=h;omega
theorem RC(n:Nat)(F:iW K "counts_that_are" "counts_that_are" BR f fd)(T:pC K mg c)(FQ11:kO eI P w K mg base (1+n) "counts_that_are" ["faces","many"] (fS n)) :
  dW P w K mg base eI (1+n+1) f fd ["faces","many"] (fS (n+1)):=by
 refine F.oky HF λvs H Q E h=>?_;unfold fS at h;obtain ⟨F,m,rfl,h1,h2,h4,hm,q⟩:=h;refine ⟨rfl,λcdv A outer s hr=>?_⟩;refine ⟨_,(aM (mD (eV sQ (aO 0) aJ (nomark _)) (bF (cX (fR (aT (fI (aT (aO 1) aL)) aL)))) fX)
  (aM (bH (i:=2) HF.nd rfl (Or.inl rfl) (fR aL))
  (aM (dY PassesOwn.never rfl (dE rfl T.b_range (aT (bT dU (aO 1) aJ) aL)) (cU (i:=3) HF.nd rfl (Or.inr rfl)) (bF (mT (vY PySem.F.plainAttrs_list PySem.F.slot_list_extend PySem.F.type_list_extend CM (aO 2) (aT (fO (dP.of (psc:=aZ BR) (N:=["faces","many","found","first"]) (N':=["rest","first"]) (js:=[3]) Kk rfl rfl rfl) (mU (cR FQ11 (hr.mono Oo) (aT (bT CH (aO 0) aJ) (aT (bT CH (aO 1) (aO 3)) aL)))) (λ_ _ _ _=>fN) (λ_ _ _ _=>(bT (qU K) (fI (aT (aO 1) aL)) (aO 0)))) aL)))))
  (bF (cX (aO 2)))))),?_⟩
 refine ⟨_,rfl,rfl,_,rfl,?_⟩;refine zQ (λe=>?_) (λe=>?_)
 ·have eF:F=1:=by injection e with e;omega
  subst eF;refine ⟨_,rfl,?_⟩;refine AL (by show 1<=64;decide) λp0 H0 hp0 e0 s0=>?_;refine CJ (by show 1<=64;decide) λp1 H1 hp1 e1 s1=>?_;refine q p1 H1 (s0.trans s1) (s0.free hp1) ⟨_,e1,?_⟩;exact aY.cons (cK.tup (s1 _ _ e0) (aY.cons (cK.int _) aY.nil)) aY.nil
 ·have eF:F≠1:=λz=>e (by rw [z];rfl);obtain ⟨G,rfl⟩:∃G,F=G+2:=⟨F-2,Oo⟩;refine CJ (by show 0<=64;decide) λL H1 hL e1 s1=>?_;refine ⟨_,rfl,_,_,rfl,rfl,_,rfl,Oo,Oo,?_⟩;rw [show ((m:Int)+1).toNat=m+1 by omega];refine dL (λi σ H'=>∃o3,σ=[some (.int ((G+2:Nat):Int)),some (.int (m:Int)),some (.ref L),o3]/\aW H H'/\oT H' L ((List.range i).flatMap λk=>(cta (G+1) (m-k)).map λc=>k::c)) ⟨_,rfl,s1,[],e1,aY.nil⟩ ?_ ?_
  ·rintro i σ H2 hi ⟨o3,rfl,s2,vs,e2,r2⟩;have lv:=dF r2;have sml:=uU (G+1) Oo m hm i Oo;refine ⟨_,rfl,QG e2,?_⟩;refine ⟨_,rfl,_,_,rfl,rfl,?_⟩;refine ⟨_,rfl,_,rfl,_,_,rfl,rfl,?_⟩;refine sD (F:=G+1) (m:=m-i) Oo Oo Oo Oo Oo Oo λb H3 s3 hb l3=>?_;obtain ⟨ws,e3,r3,lw3⟩:=l3.len;have sm2:=lP (G+1) Oo (m-i) Oo;refine ⟨b,rfl,⟨_,fA.of e3⟩,?_⟩;refine lQ (λj y H'=>∃c,(cta (G+1) (m-i))[j]?=some c/\cK H' (gR (i::c)) y) (λj y H1 H2 s ⟨c,h1,h2⟩=>⟨c,h1,h2.flat s (kE _)⟩) Oo e3 (λj x H' Q' hx s' k'=>?_) (λD ys H4 hD hD4 s4 hy hr4=>?_)
   ·obtain ⟨c,hc,rc⟩:=fG r3 hx;obtain ⟨ac,xc,rfl,hac,rxc⟩:=eK (rc.same s');have lc:=dF rxc;have lc2:=DQ (cE hc);refine ⟨_,rfl,?_⟩;refine AL (by show 1<=64;decide) λp4 H5 hp4 e4 s5=>?_;refine ⟨_,rfl,?_⟩;refine MB e4 (s5 _ _ hac) (by simp only [bI,List.length_nil];omega) λp5 H6 s6 e6=>?_;refine k' _ H6 (s5.trans s6) ⟨c,hc,cK.tup e6 ?_⟩;rw [show (0:Int)+(i:Int)=(i:Int) by omega];exact aY.cons (cK.int _) (rxc.same (s5.trans s6))
   ·have S4:=s3.trans s4;have nLD:D≠L:=λz=>by subst z;rw [s3 _ _ e2] at hD;cases hD
    refine OY (S4 _ _ e2) hD4 Oo λH5 e5 s5=>?_;have t5:=s5.t (S4 _ _ e2);refine ⟨_,rfl,aW.thru hL (s2.trans S4) s5,vs++ys,e5,?_⟩;rw [iQ,cI];refine aY.app (aY.flat t5 (kF _) (r2.same S4)) (aY.flat t5 (kF _) ?_);refine aY.ofIdx (by rw [hy,aB,aB];omega) λj y hj=>?_;obtain ⟨c,hc,rc⟩:=hr4 j y hj;exact ⟨_,by rw [aQ,aQ,hc];rfl,rc⟩
  ·rintro σ H2 ⟨o3,rfl,s2,l2⟩;refine ⟨_,rfl,?_⟩;exact q L H2 s2 hL l2
theorem SV(F:iW K "all_counts" "all_counts" QK f fd)(T:pC K mg c)(FQ11:kO eI P w K mg base 5 "counts_that_are" ["faces","many"] (fS 4)) :
  dW P w K mg base eI 6 f fd ["faces","most"] jR:=by
 refine F.oky RN λvs H Q E h=>?_;unfold jR at h;obtain ⟨F,m,rfl,h1,h4,hm,q⟩:=h;refine ⟨rfl,λcdv A outer s hr=>?_⟩;refine ⟨_,(aM (bH (i:=2) RN.nd rfl (Or.inl rfl) (fR aL))
  (aM (dY PassesOwn.never rfl (dE rfl T.b_range (aT (bT dU (aO 1) aJ) aL)) (cU (i:=3) RN.nd rfl (Or.inl rfl)) (bF (mT (vY PySem.F.plainAttrs_list PySem.F.slot_list_extend PySem.F.type_list_extend CM (aO 2) (aT (cR FQ11 (hr.mono Dd) (aT (aO 0) (aT (aO 3) aL))) aL)))))
  (bF (cX (aO 2))))),?_⟩
 refine CJ (by show 0<=64;decide) λL H1 hL e1 s1=>?_;refine ⟨_,rfl,_,_,rfl,rfl,_,rfl,Oo,Oo,?_⟩;rw [show ((m:Int)+1).toNat=m+1 by omega];refine dL (λi σ H'=>∃o3,σ=[some (.int (F:Int)),some (.int (m:Int)),some (.ref L),o3]/\aW H H'/\oT H' L ((List.range i).flatMap (cta F))) ⟨_,rfl,s1,[],e1,aY.nil⟩ ?_ ?_
 ·rintro i σ H2 hi ⟨o3,rfl,s2,vs,e2,r2⟩;have lv:=dF r2;have sml:=qB F h4 i Oo;refine ⟨_,rfl,QG e2,?_⟩;refine ⟨_,rfl,_,rfl,?_⟩;refine sD (F:=F) (m:=i) rfl Oo h1 h4 h4 Oo λb H3 s3 hb l3=>?_;obtain ⟨ws,e3,r3,lw3⟩:=l3.len;have sm2:=lP F h4 i Oo;refine OY (s3 _ _ e2) e3 Oo λH5 e5 s5=>?_;have t5:=s5.t (s3 _ _ e2);refine ⟨_,rfl,aW.thru hL (s2.trans s3) s5,vs++ws,e5,?_⟩;rw [iQ,cI];exact aY.app (aY.flat t5 (kF _) (r2.same s3)) (aY.flat t5 (kF _) r3)
 ·rintro σ H2 ⟨o3,rfl,s2,l2⟩;refine ⟨_,rfl,?_⟩;exact q L H2 s2 hL l2
end
theorem BP{B:Nat}{fs:List Fr}(h:HL B fs)(r:List Nat):(∀x∈r,x<fs.length)->fB (uF fs r)/\(uF fs r).1.natAbs<=2^(B*r.length)/\(uF fs r).2.natAbs<=2^(B*r.length):=by
 induction r using dX with
 | h0=>intro _;exact ⟨⟨(by decide:(0:Int)<1),(by decide:Int.gcd 1 1=1)⟩,by show 1<=_;exact Nat.one_le_two_pow,by show 1<=_;exact Nat.one_le_two_pow⟩
 | hs r j ih =>
  intro hr;obtain ⟨i1,i2,i3⟩:=ih λx hx=>hr x (bU _ hx);have hm:=kA fs j (0,1) (hr j (by simp));have l2:=h.low _ hm;have u2:=h.up _ hm;have d2:=h.dn _ hm;rw [jU];generalize fs.getD j (0,1)=g at *;generalize uF fs r=f at *;have hp:0<f.2*g.2:=Int.mul_pos i1.pos l2.pos;obtain ⟨c1,c2⟩:=CO (n:=f.1*g.1) hp;have c3:=(eY (n:=f.1*g.1) hp).pos;refine ⟨CL i1 l2,?_,?_⟩
  ·show (lw (f.1*g.1) (f.2*g.2)).1.natAbs<=_;refine aU c2 ?_;rw [dO,bC,List.length_singleton,Nat.mul_add,Nat.mul_one,Nat.pow_add];exact Nat.mul_le_mul i2 u2
  ·show (lw (f.1*g.1) (f.2*g.2)).2.natAbs<=_;have:(lw (f.1*g.1) (f.2*g.2)).2.natAbs<=(f.2*g.2).natAbs:=Oo;refine aU this ?_;rw [dO,bC,List.length_singleton,Nat.mul_add,Nat.mul_one,Nat.pow_add];exact Nat.mul_le_mul i3 d2
def PN(K:PySem.W.Frag)(H:Hp)(f:Fr)(x:V):Prop:=∃a,x=.ref a/\(H a=some (.tup [.int f.1,.int f.2])\/∀H',eT K H' a [.int f.1,.int f.2])
theorem PN.v{K:PySem.W.Frag}{H:Hp}{f:Fr}{x:V}(h:PN K H f x):nH K H f x:=by
 obtain ⟨a,e,h⟩:=h;rcases h with h | h
 ·exact ⟨a,e,eT.of h⟩
 ·exact ⟨a,e,h H⟩
@[irreducible] def jO(K:PySem.W.Frag):Sp:=λvs H Q _=>∃v rv fs ws w r,∃i:Nat,vs=[v,.int (i:Int),rv]/\cK H (uD fs ws) v/\ws[i]?=some w/\cK H (gR r) rv/\HL 10 w.2/\r.length<=60/\(∀x∈r,x<w.2.length)/\∀x H',aW H H'->PN K H' (uF w.2 r) x->Q x H'
theorem yO{K:PySem.W.Frag}{H:Hp}{Q:VK}{E:XK}{v rv:V}{fs:List Str}{ws:List (Str × List Fr)}{w:Str × List Fr}{r:List Nat}{i:Nat}(h:cK H (uD fs ws) v)(hw:ws[i]?=some w)(hc:cK H (gR r) rv)(ok:HL 10 w.2)(hl:r.length<=60)(hr:∀x∈r,x<w.2.length)(q:∀x H',aW H H'->PN K H' (uF w.2 r) x->Q x H'):jO K [v,.int (i:Int),rv] H Q E:=by unfold jO;exact ⟨v,rv,fs,ws,w,r,i,rfl,h,hw,hc,ok,hl,hr,q⟩
section
theorem QY(F:iW K "share_of" "share_of" JL f fd)(T:pC K mg c)
  (FQ17:kO eI P w K mg base 1 "way_shares" ["trial","way"] lB) (FQ16:kO eI P w K mg base 2 "times" ["one","other"] (gH K)):dW P w K mg base eI 3 f fd ["trial","way","row"] (jO K):=by
 refine F.oky DW λvs H Q E h=>?_;unfold jO at h;obtain ⟨v,rv,fs,ws,w,r,j,rfl,h,hw,hc,ok,hl,hrr,q⟩:=h;refine ⟨rfl,λcdv A outer s hr=>?_⟩;refine ⟨_,(aM (bH (i:=3) DW.nd rfl (Or.inl rfl) (cR FQ17 (hr.mono Dd) (aT (aO 0) (aT (aO 1) aL))))
  (aM (bH (i:=4) DW.nd rfl (Or.inl rfl) (vW (v:=.ref c.ONE) rfl T.g_ONE rfl))
  (aM (dY PassesOwn.never rfl (nJ (aO 2)) (cU (i:=5) DW.nd rfl (Or.inl rfl)) (bF (bH (i:=4) DW.nd rfl (Or.inl rfl) (cR FQ16 (hr.mono Dd) (aT (aO 4) (aT (bV bK (aO 3) (aO 5) (λ_ _=>rfl)) aL))))))
  (bF (cX (aO 4)))))),?_⟩
 refine ⟨_,rfl,_,rfl,?_⟩;refine rY h hw λx rx=>?_;obtain ⟨l1,xs,rfl,h1,r1⟩:=eK rx;obtain ⟨l2,ys,rfl,h2,r2⟩:=eK hc;have hl2:=dF r2;refine ⟨_,rfl,l2,rfl,⟨_,eT.of h2⟩,?_⟩;refine nB (xs:=ys) (λi σ H'=>∃x o5,σ=[some v,some (.int (j:Int)),some (.ref l2),some (.ref l1),some x,o5]/\aW H H'/\PN K H' (uF w.2 (r.take i)) x) ⟨_,_,rfl,aW.refl _,_,rfl,.inr λH'=>rX T.o_ONE⟩ (λi σ H' _ p=>?_) ?_ ?_
 ·obtain ⟨x,o5,_,s',_⟩:=p;exact eT.of (s' _ _ h2)
 ·rintro i y σ H1 hy ⟨x,o5,rfl,s1,rx⟩;obtain ⟨n,hn,rn⟩:=fG r2 hy;cases (show y=V.int (n:Int) from rn);have hm:=hrr n (cE hn);have eg:w.2[n]?=some (w.2.getD n (0,1)):=by rw [bD,aE hm];rfl
  obtain ⟨u,hu,ru⟩:=gL r1 eg;have gm:=kA w.2 n (0,1) hm;obtain ⟨t1,t2,t3⟩:=BP ok (r.take i) λx hx=>hrr x (List.mem_of_mem_take hx);have tl:(r.take i).length<=60:=by rw [bO];omega
  refine ⟨_,rfl,_,rfl,_,rfl,?_⟩;refine tD (s1 _ _ h1) (fE (j:=n) hu) ?_;refine nS rx.v (nH.of (ru.same s1)) t1 (ok.low _ gm) (nO t2 t3 Oo) (nO (ok.up _ gm) (ok.dn _ gm) Dd) ?_;intro q5 H5 hq5 e5 s5;refine ⟨_,_,rfl,s1.trans s5,?_⟩;rw [fP hn,jU];exact ⟨_,rfl,.inl e5⟩
 ·rintro σ H1 ⟨x,o5,rfl,s1,rx⟩;refine ⟨_,rfl,?_⟩;refine q _ H1 s1 ?_;rw [hl2,eL] at rx;exact rx
end
def MT(fs:List Fr)(r:List Nat):Int:=r.foldl (λp j=>p*(fs.getD j (0,1)).1) 1
def KP(fs:List Fr)(r:List Nat):Int:=r.foldl (λp j=>p*(fs.getD j (0,1)).2) 1
theorem sO(fs:List Fr)(r:List Nat)(j:Nat):MT fs (r++[j])=MT fs r*(fs.getD j (0,1)).1:=by unfold MT;rw [List.foldl_append];rfl
theorem sP(fs:List Fr)(r:List Nat)(j:Nat):KP fs (r++[j])=KP fs r*(fs.getD j (0,1)).2:=by unfold KP;rw [List.foldl_append];rfl
theorem wT{fs:List Fr}(h:HL 10 fs)(r:List Nat):(∀x∈r,x<fs.length)->(MT fs r).natAbs<=2^(10*r.length)/\(KP fs r).natAbs<=2^(10*r.length)/\0<KP fs r/\uF fs r=lw (MT fs r) (KP fs r):=by
 induction r using dX with
 | h0=>intro _;exact ⟨by show 1<=_;exact Nat.one_le_two_pow,by show 1<=_;exact Nat.one_le_two_pow,by show (0:Int)<1;decide,(qZ (d:=1) Dd).symm⟩
 | hs r j ih =>
  intro hr;obtain ⟨i1,i2,i3,i4⟩:=ih λx hx=>hr x (bU _ hx);have hm:=kA fs j (0,1) (hr j (by simp));have l2:=h.low _ hm;have u2:=h.up _ hm;have d2:=h.dn _ hm;rw [jU,sO,sP,bC,List.length_singleton,Nat.mul_add,Nat.mul_one,Nat.pow_add];generalize fs.getD j (0,1)=g at *;refine ⟨by rw [dO];exact Nat.mul_le_mul i1 u2,by rw [dO];exact Nat.mul_le_mul i2 d2,Int.mul_pos i3 l2.pos,?_⟩;have eg:g=lw g.1 g.2:=(wX (a:=g.1) (b:=g.2) l2).symm;rw [i4]
  conv=>lhs;rw [eg]
  exact qW i3 l2.pos
@[irreducible] def iF:Sp:=λvs H Q _=>∃v rv fs ws w r,∃i:Nat,vs=[v,.int (i:Int),rv]/\cK H (uD fs ws) v/\ws[i]?=some w/\cK H (gR r) rv/\HL 10 w.2/\r.length<=60/\(∀x∈r,x<w.2.length)/\uB H Q (uF w.2 r)
theorem uM{H:Hp}{Q:VK}{E:XK}{v rv:V}{fs:List Str}{ws:List (Str × List Fr)}{w:Str × List Fr}{r:List Nat}{i:Nat}(h:cK H (uD fs ws) v)(hw:ws[i]?=some w)(hc:cK H (gR r) rv)(ok:HL 10 w.2)(hl:r.length<=60)(hr:∀x∈r,x<w.2.length)(q:uB H Q (uF w.2 r)):iF [v,.int (i:Int),rv] H Q E:=by unfold iF;exact ⟨v,rv,fs,ws,w,r,i,rfl,h,hw,hc,ok,hl,hr,q⟩
@[irreducible] def iG:Sp:=λvs H Q _=>∃cv cs,vs=[cv]/\cK H (gR cs) cv/\cs.sum<=60/\Q (.int (mN cs:Nat)) H
theorem uN{H:Hp}{Q:VK}{E:XK}{cv:V}{cs:List Nat}(h:cK H (gR cs) cv)(hs:cs.sum<=60)(q:Q (.int (mN cs:Nat)) H):iG [cv] H Q E:=by unfold iG;exact ⟨cv,cs,rfl,h,hs,q⟩
theorem lA:∀c:List Nat,(c.map λ(n:Nat)=>(n:Int)).sum=((c.sum:Nat):Int)
 | []=>rfl
 | a::c=>by rw [bA,List.sum_cons,List.sum_cons,lA c];omega
theorem oR{H:Hp}:∀{cs:List Nat}{xs:List V},aY H (cs.map λ(n:Nat)=>PyData.int (n:Int)) xs->xs=(cs.map λ(n:Nat)=>(n:Int)).map V.int
 | [],xs,h=>h
 | n::cs,xs,h=>by
  unfold aY at h;obtain ⟨x,xs',rfl,hx,hr⟩:=(show ∃x xs',xs=x::xs'/\cK H (PyData.int (n:Int)) x/\aY H (cs.map λ(n:Nat)=>PyData.int (n:Int)) xs' from h);rw [oR hr];cases (show x=V.int (n:Int) from hx)
  rfl
section
theorem SZ(F:iW K "_law_product" "_law_product" QL f fd)(T:pC K mg c)(FQ2:kO eI P w K mg base 1 "_law_low" ["_law_n","_law_d"] lC):dW P w K mg base eI 2 f fd ["_law_trial_here","_law_way","_law_row"] iF:=by
 refine F.oky MV λvs H Q E h=>?_;unfold iF at h;obtain ⟨v,rv,fs,ws,w,r,iw,rfl,h,hw',hc,ok,hl,hrr,q⟩:=h;refine ⟨rfl,λcdv A outer s hr=>?_⟩;obtain ⟨a,af,aw,xf,xw,rfl,ha,hf,hw,rf,rw'⟩:=wB h;obtain ⟨u,hu,ru⟩:=gL rw' hw';obtain ⟨b,xs,rfl,hb,hr'⟩:=eK ru;obtain ⟨y,z,rfl,hy,hz⟩:=kN hr';obtain ⟨l1,xs,rfl,h1,r1⟩:=eK hz;obtain ⟨l2,ys,rfl,h2,r2⟩:=eK hc;have hl2:=dF r2;refine ⟨_,(aM (kU (fI (aT aJ (aT aJ aL))) (AU rfl (jJ (cU (i:=3) MV.nd rfl (Or.inl rfl)) (jJ (cU (i:=4) MV.nd rfl (Or.inl rfl)) vV))))
  (aM (dY PassesOwn.never rfl (nJ (aO 2)) (cU (i:=5) MV.nd rfl (Or.inl rfl)) (aM (bH (i:=3) MV.nd rfl (Or.inl rfl) (bT eG (aO 3) (bV bK (bV bK (bV bK (bV bK (bV bK (aO 0) aJ (λ_ _=>rfl)) (aO 1) (λ_ _=>rfl)) aJ (λ_ _=>rfl)) (aO 5) (λ_ _=>rfl)) aJ (λ_ _=>rfl))))
  (bF (bH (i:=4) MV.nd rfl (Or.inl rfl) (bT eG (aO 4) (bV bK (bV bK (bV bK (bV bK (bV bK (aO 0) aJ (λ_ _=>rfl)) (aO 1) (λ_ _=>rfl)) aJ (λ_ _=>rfl)) (aO 5) (λ_ _=>rfl)) aJ (λ_ _=>rfl)))))))
  (bF (cX (cR FQ2 (hr.mono Dd) (aT (aO 3) (aT (aO 4) aL))))))),?_⟩
 refine AL (by show 2<=64;decide) λq0 H0 hq0 e0 s0=>?_;refine ⟨q0,_,rfl,eT.of e0,rfl,_,_,rfl,_,_,rfl,rfl,?_⟩;refine ⟨_,rfl,l2,rfl,⟨_,eT.of (s0 _ _ h2)⟩,?_⟩;refine nB (xs:=ys) (λi σ H'=>∃o5,σ=[some (.ref a),some (.int (iw:Int)),some (.ref l2),some (.int (MT w.2 (r.take i))),some (.int (KP w.2 (r.take i))),o5]/\H'=H0) ⟨_,rfl,rfl⟩ (λi σ H' _ p=>?_) ?_ ?_
 ·obtain ⟨o5,_,rfl⟩:=p;exact eT.of (s0 _ _ h2)
 ·rintro i y σ H1 hy ⟨o5,rfl,rfl⟩;obtain ⟨n,hn,rn⟩:=fG r2 hy;cases (show y=V.int (n:Int) from rn);have hm:=hrr n (cE hn);have eg:w.2[n]?=some (w.2.getD n (0,1)):=by rw [bD,aE hm];rfl
  have gm:=cE eg;obtain ⟨t1,t2,t3,t4⟩:=wT ok (r.take i) λx hx=>hrr x (List.mem_of_mem_take hx);have tl:(r.take i).length<=60:=by rw [bO];omega
  have z1:=aV (aU t1 (cM Dd (show 10*(r.take i).length<=600 by omega))) (Nat.pow_lt_pow_right (a:=2) (m:=600) (n:=601) Dd Dd);have z2:=aV (aU t2 (cM Dd (show 10*(r.take i).length<=600 by omega))) (Nat.pow_lt_pow_right (a:=2) (m:=600) (n:=601) Dd Dd);have z3:=aV (ok.up _ gm) (Nat.pow_lt_pow_right (a:=2) (m:=10) (n:=11) Dd Dd);have z4:=aV (ok.dn _ gm) (Nat.pow_lt_pow_right (a:=2) (m:=10) (n:=11) Dd Dd);obtain ⟨u,hu2,ru2⟩:=gL r1 eg;obtain ⟨ug,ug2,rfl,hug,rug⟩:=eK ru2;obtain ⟨g1,g2,rfl,rg1,rg2⟩:=kN rug;cases (show g1=V.int _ from rg1);cases (show g2=V.int _ from rg2);refine ⟨_,rfl,_,rfl,?_⟩;refine tD (s0 _ _ ha) rfl ?_;refine ⟨_,rfl,?_⟩;refine tD (s0 _ _ hw) (fE hu) ?_;refine tD (s0 _ _ hb) rfl ?_;refine ⟨_,rfl,?_⟩;refine tD (s0 _ _ h1) (fE hu2) ?_;refine tD (s0 _ _ hug) rfl ?_;refine ⟨_,_,rfl,rfl,sS z1 z3,?_⟩;refine ⟨_,rfl,_,rfl,?_⟩;refine tD (s0 _ _ ha) rfl ?_;refine ⟨_,rfl,?_⟩;refine tD (s0 _ _ hw) (fE hu) ?_;refine tD (s0 _ _ hb) rfl ?_;refine ⟨_,rfl,?_⟩;refine tD (s0 _ _ h1) (fE hu2) ?_;refine tD (s0 _ _ hug) rfl ?_;refine ⟨_,_,rfl,rfl,sS z2 z4,?_⟩;refine ⟨some (.int (n:Int)),?_,rfl⟩;rw [fP hn,sO,sP]
  rfl
 ·rintro σ H1 ⟨o5,rfl,rfl⟩;rw [hl2,eL];obtain ⟨t1,t2,t3,t4⟩:=wT ok r hrr;refine ⟨_,rfl,_,rfl,?_⟩;refine sC t3 (aV t2 (Nat.pow_lt_pow_right Dd Oo)) ?_;intro q3 H3 hq3 e3 s3;exact q q3 H3 (s0.free hq3) (by rw [t4];exact e3) (s0.trans s3)
theorem TC(F:iW K "_law_many" "_law_many" QN f fd)(T:pC K mg c):dW P w K mg base eI 1 f fd ["_law_counts"] iG:=by
 refine F.oky MC λvs H Q E h=>?_;unfold iG at h;obtain ⟨cv,cs,rfl,h,hs,q⟩:=h;refine ⟨rfl,λcdv A outer s hr=>?_⟩;obtain ⟨a,xs,rfl,ha,rx⟩:=eK h;have exs:=oR rx;have hlen:=dF rx;have fb:∀n,n<=60->fac n<2^400:=λn hn=>aV (vH Oo) (Nat.pow_lt_pow_right Dd Oo);refine ⟨_,(aM (bH (i:=1) MC.nd rfl (Or.inl rfl) aJ)
  (aM (dY PassesOwn.never rfl (kW rfl T.b_range (aT aJ (aT (bT dU (dZ (xY K rfl) (by rfl) T.b_sum Kk (aT (aO 0) aL)) aJ) aL))) (cU (i:=2) MC.nd rfl (Or.inl rfl)) (bF (bH (i:=1) MC.nd rfl (Or.inl rfl) (bT eG (aO 1) (aO 2)))))
  (aM (dY PassesOwn.never rfl (nJ (aO 0)) (cU (i:=3) MC.nd rfl (Or.inl rfl)) (bF (dY PassesOwn.never rfl (kW rfl T.b_range (aT aJ (aT (bT dU (aO 3) aJ) aL))) (cU (i:=2) MC.nd rfl (Or.inl rfl)) (bF (bH (i:=1) MC.nd rfl (Or.inl rfl) (bT eP (aO 1) (aO 2)))))))
  (bF (cX (aO 1)))))),?_⟩
 refine ⟨_,rfl,?_⟩;refine SE (ns:=cs.map λ(n:Nat)=>(n:Int)) (eT.of (by rw [ha,exs])) ?_;rw [lA];refine ⟨_,_,rfl,rfl,_,_,rfl,⟨Dd,Dd,Oo,Oo⟩,?_⟩;rw [show (((cs.sum:Nat):Int)+1-1).toNat=cs.sum by omega];refine dL (λk σ H'=>∃o2 o3,σ=[some (.ref a),some (.int (fac k:Nat)),o2,o3]/\H'=H) ⟨_,_,rfl,rfl⟩ ?_ ?_
 ·rintro k σ H1 hk ⟨o2,o3,rfl,rfl⟩;refine ⟨_,rfl,_,rfl,_,_,rfl,rfl,sS (n:=400) (m:=64) (by rw [Int.natAbs_natCast];exact fb k Oo) (aV (m:=100) Oo Dd),?_⟩;refine ⟨some (.int (1+(k:Int))),o3,?_,rfl⟩;rw [show ((fac (k+1):Nat):Int)=(fac k:Nat)*(1+(k:Int)) by rw [show fac (k+1)=(k+1)*fac k from rfl,Nat.mul_comm,Int.natCast_mul,Int.natCast_add,Int.add_comm];rfl]
  rfl
 ·rintro σ H1 ⟨o2,o3,rfl,rfl⟩;refine ⟨_,rfl,a,rfl,⟨_,eT.of ha⟩,?_⟩;refine nB (xs:=xs) (λi σ H'=>∃o2 o3,σ=[some (.ref a),some (.int (fac cs.sum/fp (cs.take i):Nat)),o2,o3]/\H'=H1) ⟨_,_,by rw [List.take_zero,show fp []=1 from rfl,Nat.div_one],rfl⟩ (λi σ H' _ p=>?_) ?_ ?_
  ·obtain ⟨o2,o3,_,rfl⟩:=p;exact eT.of ha
  ·rintro i x σ H2 hx ⟨o2,o3,rfl,rfl⟩;obtain ⟨n,hn,rn⟩:=fG rx hx;cases (show x=V.int (n:Int) from rn);have nn:=wF hn;refine ⟨_,rfl,_,_,rfl,rfl,_,_,rfl,⟨Dd,Dd,Oo,Oo⟩,?_⟩;rw [show ((n:Int)+1-1).toNat=n by omega];refine dL (λk σ H'=>∃o2,σ=[some (.ref a),some (.int (fac cs.sum/(fp (cs.take i)*fac k):Nat)),o2,some (.int (n:Int))]/\H'=H2) ⟨o2,by rw [show fac 0=1 from rfl,Nat.mul_one];rfl,rfl⟩ ?_ ?_
   ·rintro k σ H3 hk ⟨o2,rfl,rfl⟩;refine ⟨_,rfl,_,rfl,_,_,rfl,rfl,mK Oo (aH (show ((1:Int)+(k:Int)).natAbs<2^10 by show _<1024;omega) (cM Dd Dd)),?_⟩;refine ⟨some (.int (1+(k:Int))),?_,rfl⟩;rw [show ((fac cs.sum/(fp (cs.take i)*fac (k+1)):Nat):Int)=((fac cs.sum/(fp (cs.take i)*fac k):Nat):Int)/(1+(k:Int)) by rw [show fp (cs.take i)*fac (k+1)=fp (cs.take i)*fac k*(1+k) by rw [show fac (k+1)=(k+1)*fac k from rfl,Nat.mul_comm (k+1),Nat.mul_assoc,Nat.add_comm k 1],<-Nat.div_div_eq_div_mul,Int.natCast_ediv,Int.natCast_add];rfl]
    rfl
   ·rintro σ H3 ⟨o2,rfl,rfl⟩;refine ⟨o2,some (.int (n:Int)),?_,rfl⟩;rw [fP hn,vG,show fp [n]=fac n from by show fac n*1=fac n;rw [Nat.mul_one]]
  ·rintro σ H2 ⟨o2,o3,rfl,rfl⟩;refine ⟨_,rfl,?_⟩;rw [hlen,eL,<-CN cs,Nat.mul_div_cancel _ (vF cs)];exact q
end
end Kw
namespace L2
open PySem PySem.Spec PySem.W PyProof.Rows HT
section
variable{prog:Program}{w:World}{K:Type}[DecidableEq K]{A:Around}{E:Value->Shared->Prop}{s:Shared}
theorem uX(knd:HeapKind prog w K)(d o:Addr)(hdo:d≠o)(hoS:(o == sysModules)=false) :
  MeetsIn prog w (Builtin.«dict.update» ⟨[.ref d,.ref o],[]⟩) (λA R s=>∃od epd oo eso epo,∃xs:List (K × Addr × Value),s.heap.get? d=some od/\od.ExactDict/\od.data=.dict #[] epd/\s.heap.get? o=some oo/\oo.ExactDict/\oo.data=.dict eso epo/\eso.toList=xs.map (entryOfKey knd) /\
   (∀x∈xs,s.TypeIs (.ref x.2.1) "tuple")/\(xs.map λx=>knd.hash x.1).Nodup/\xs.length<=sizeLine/\∀h' q ep',h'.get? d=some q->q.ExactDict->q.data=.dict eso ep'->Heap.SameBut d s.heap h'->R (.ok (.ret .none)) { s with heap:=h' }) :=
 .of_wp λA R s ⟨od,epd,oo,eso,epo,xs,h1,h2,h3,h4,h5,h6,h7,h8,h9,hz,h⟩=>by
  have hto:s.TypeIs (.ref o) "dict" := ⟨oo,h4,h5.1⟩;have htd:s.TypeIs (.ref d) "dict" := ⟨od,h1,h2.1⟩;unfold Builtin.«dict.update»;refine wpAny_bind ?_;unfold Builtin.Dict.selfAndRest;refine wpAny_bind (wpAny_notOrdered_dict htd ?_);show wpAny _ _ (pure (d,[Value.ref o])) _ _ _;refine wpAny_pure ?_;show wpAny _ _ (Builtin.Dict.updateFrom "dict.update" d (.ref o) [] .none) _ _ _;unfold Builtin.Dict.updateFrom;refine wpAny_bind (wpAny_typeOf hto ?_);rw [if_neg Dd];refine wpAny_bind ?_;unfold Builtin.Dict.merge;refine wpAny_bind ?_;unfold Builtin.Dict.readDirectly;refine wpAny_bind (wpAny_isInstance hto isSubtype_dict_dict ?_);simp only [Bool.not_true,Bool.false_eq_true,if_false];refine wpAny_bind (wpAny_specialOf hto F.slot_dict_iter.lookup (wpAny_pure ?_));simp only [beq_self_eq_true,if_true];refine wpAny_bind (wpAny_pure ?_);refine zJ (knd:=knd) hdo hoS h1 h2 h3 h4 h6 h7 h8 h9 hz λh' q' ep' g1 g2 g3 hs=>?_;show wpAny _ _ (Builtin.Dict.addKeywords d [] >>= _) _ _ _;exact wpAny_bind (wpAny_pure (wpAny_pure ⟨.none,rfl,h h' q' ep' g1 g2 g3 hs⟩))
end
section
variable{X:Cx}
@[irreducible] def wL:V->List V->Hp->VK->Prop:=λx vs H Q=>∃(d o:Addr) (kvs more:List (List dJ × V)),x=.ref d/\vs=[.ref o]/\d≠o/\H d=some (.dT kvs)/\H o=some (.dT more)/\(kvs=[]->ED more)/\kvs.length+more.length<=1000/\Q .non (upd H d (.dT (if kvs=[] then more else gC kvs more)))
theorem NQ{H:Hp}{Q:VK}{d o:Addr}{kvs more:List (List dJ × V)}(hdo:d≠o)(hd:H d=some (.dT kvs))(ho:H o=some (.dT more))(hne:kvs=[]->ED more)(hz:kvs.length+more.length<=1000)(q:∀H',H' d=some (.dT (if kvs=[] then more else gC kvs more))->aR d H H'->Q .non H'):wL (.ref d) [.ref o] H Q:=by
 unfold wL;exact ⟨d,o,kvs,more,rfl,rfl,hdo,hd,ho,hne,hz,q _ aX aR.self⟩
theorem GI(hu:X.A.units+1<cLine):MO X "dict.update" wL:=by
 unfold wL;intro pins s σ H x vs v us Q I rx rv h;obtain ⟨d,o,kvs,more,rfl,rfl,hdo,hd,ho,hne,hz,q⟩:=h;by_cases e:kvs=[]
 ·rw [if_pos e] at q;have nd:=hne e;subst e;cases rx;obtain ⟨u,rfl,ru⟩:=rv.one;cases ru;obtain ⟨z1,hd1,xs,rel,od,esd,epd,a1,a2,a3,a4,a5⟩:=(show cQ X.prog X.w H s.heap d (.dT []) from I.hok d _ hd);cases rel;obtain ⟨zt,hdt,ks,rel,oo,eso,epo,h1,h2,h3,h4,h5⟩:=(show cQ X.prog X.w H s.heap o (.dT more) from I.hok o _ ho);have hed:esd=#[]:=Array.toList_eq_nil_iff.mp a4;subst hed;have hkeys:more.map (·.1)=ks.map (·.1):=by
   clear nd hz q ho h4 h5 zt hne
   induction rel with
   | nil=>rfl
   | cons r _ ih=>rw [bA,bA,ih,r.1]
  have lk:ks.length=more.length:=by
   have:=congrArg List.length hkeys;rw [aB,aB] at this;exact this.symm
  have ndk:(ks.map λx=>(tupleKind (cH X.prog X.w)).hash x.1).Nodup:=by
   have e1:(more.map λp=>(tupleKind (cH X.prog X.w)).hash p.1)=ks.map λx=>(tupleKind (cH X.prog X.w)).hash x.1:=by
    have:=congrArg (List.map (tupleKind (cH X.prog X.w)).hash) hkeys;rw [List.map_map,List.map_map] at this;exact this
   rw [<-e1];exact nd X.prog X.w
  refine call_meetsIn PySem.F.slot_dict_update ⟨od,a1,a2.1⟩ PySem.F.entry_dict_update (PySem.F.args_dict_update_2 _ _) (uX (tupleKind (cH X.prog X.w)) d o hdo hdt) ⟨od,epd,oo,eso,epo,ks,a1,a2,a3,h1,h2,h3,h4,λx hx=>?_,ndk,Oo,λh' q' ep' g1 g2 g3 hs=>?_⟩
  ·obtain ⟨o',its,n,e1,e2,_⟩:=KT.isAll I.hok rel x hx;exact ⟨o',e1,e2⟩
  ·exact ⟨.non,_,kC (t':=s.toks) (ob:=.dT more) I (by rw [hd];exact True.intro) hs ⟨q',g1⟩ ⟨zt,hd1,ks,(show KT H more ks from rel).keeps λc ys ec=>(by rw [bB (nY ec hd (λz=>nomatch z))];exact ec),q',eso,ep',g1,g2,g3,h4,h5⟩,rfl,q⟩
 ·rw [if_neg e] at q;exact KW hu pins s σ H _ _ v us Q I rx rv (by unfold JT;exact ⟨d,o,kvs,more,rfl,rfl,hdo,hd,ho,e,hz,q⟩)
end
end L2
namespace HT
open PySem PyProof.Rows
section
variable{prog:Program}{w:World}{A:Around}{E:Value->Shared->Prop}{s:Shared}
theorem iT{t sl:Addr}{items:Array Value}{vl vu:Value}{lo hi:Option Int}{Q:Value->Shared->Prop}(ht:IsTup s.heap t items)(hs:s.heap.IsSliceOf sl vl vu .none)(pl:IsPart vl lo)(pu:IsPart vu hi)
  (h0:eO items.size 0 lo=0) (h1:eO items.size items.size hi=items.size) (h:Q (.ref t) s):wpAny (model prog w) A (getItem (.ref t) (.ref sl)) Q E s:=by
 obtain ⟨os,hos,hcs,hds⟩:=id hs;have hTs:s.TypeIs (.ref sl) "slice" := ⟨os,hos,hcs⟩;have hTt:s.TypeIs (.ref t) "tuple" := ht.typeIs;unfold getItem
 try with_reducible refine wpAny_holding ?_
 first | refine wpAny_bind (wpAny_pure ?_) | skip
 refine wpAny_bind (wpAny_sequenceKey ht.typeIs Dd ?_);refine wpAny_bind (wpAny_callSpecial?_slot (name:=Str.ofString "__getitem__") ht.typeIs PyProof.Rows.slot_tuple_getitem
  (wpAny_call_entry PyProof.Rows.slot_tuple_getitem ht.typeIs entry_tuple_getitem ?_ (args_tuple_getitem _ _)))
 show wpAny _ _ (Builtin.Tuple.tupleItemsOf (.ref t) >>= _) _ _ s;refine wpAny_bind (tupleItemsOf_ ht ?_);refine wpAny_bind (wpAny_typeOf hTs ?_);rw [if_pos Dd];refine wpAny_bind (gK hs pl pu ?_);have hyes:(((eO items.size 0 lo:Nat):Int) == 0&&(1:Int) == 1&&(eO items.size items.size hi-eO items.size 0 lo) == items.size)=true:=by
  rw [h0,h1];simp
 show wpAny _ _ (if (((eO items.size 0 lo:Nat):Int) == 0&&(1:Int) == 1&&(eO items.size items.size hi-eO items.size 0 lo) == items.size)=true then _ else _) _ _ s;rw [if_pos hyes];unfold Builtin.Tuple.tupleIsExact;refine wpAny_bind (wpAny_bind (wpAny_typeOf hTt (wpAny_pure ?_)));rw [if_pos Dd];refine wpAny_bind (wpAny_rule ?_)
 first
  | exact wpAny_pure ⟨_,rfl,wpAny_pure h⟩
  | exact wpAny_bind (wpAny_pure (wpAny_pure ⟨_,rfl,wpAny_pure h⟩))
end
end HT
namespace L2
open PySem PySem.W PySem.Spec PySem.Calls PyProof.Rows
theorem vI{xs:List V}{lo hi:Option Int}(h0:HT.eO xs.length 0 lo=0)(h1:HT.eO xs.length xs.length hi=xs.length):iU xs lo hi=xs:=by
 unfold iU;rw [h0,h1];simp
section
variable{X:Cx}
@[irreducible] def uR(K:PySem.W.Frag):V->Option Int->Option Int->Hp->VK->Prop:=λx lo hi H Q=>∃a xs,x=.ref a/\H a=some (.tup xs)/\∀c H',aW H H'->H' c=some (.tup (iU xs lo hi))->Q (.ref c) H'
theorem wH(K:PySem.W.Frag)(hK:X.K=K:=by rfl):MX X (uR K):=by
 unfold uR;subst hK;intro pins s σ H x v vl vu lo hi sl Q I rx hs pl pu h;obtain ⟨a,xs,rfl,hx,q⟩:=h;by_cases hw:HT.eO xs.length 0 lo=0/\HT.eO xs.length xs.length hi=xs.length
 ·cases rx;obtain ⟨its,r,ht,hz⟩:=I.tuple (eT.of hx);have hlen:its.toArray.size=xs.length:=by rw [aI];exact r.length.symm
  refine ⟨"tuple",_,PyProof.Rows.slot_tuple_getitem.lookup,ht.typeIs,?_⟩;refine HT.iT ht hs pl pu (by rw [hlen];exact hw.1) (by rw [hlen];exact hw.2) ?_;exact ⟨.ref a,H,I,rfl,q a H (aW.refl _) (by rw [vI hw.1 hw.2];exact hx)⟩
 ·exact JD pins s σ H (.ref a) v vl vu lo hi sl Q I rx hs pl pu ⟨a,xs,rfl,eT.of hx,hw,λp hp=>q p _ (aW.upd hp) aX⟩
theorem JF{K:PySem.W.Frag}{H:Hp}{a:Addr}{xs:List V}{k:Nat}{Q:VK}(h:H a=some (.tup xs))(q:∀c H',aW H H'->H' c=some (.tup (xs.take k))->Q (.ref c) H'):uR K (.ref a) none (some (k:Int)) H Q:=by
 unfold uR;exact ⟨a,xs,rfl,h,λc H' s e=>q c H' s (by rw [e,nD])⟩
theorem JE{K:PySem.W.Frag}{H:Hp}{a:Addr}{xs:List V}{k:Nat}{Q:VK}(h:H a=some (.tup xs))(q:∀c H',aW H H'->H' c=some (.tup (xs.drop k))->Q (.ref c) H'):uR K (.ref a) (some (k:Int)) none H Q:=by
 unfold uR;exact ⟨a,xs,rfl,h,λc H' s e=>q c H' s (by rw [e,rG])⟩
end
end L2
namespace Kw
open PySem L2 Mf
abbrev kI(n:Nat):V:=.int (n:Int)
theorem tR{H:Hp}:∀cs:List Nat,aY H (cs.map λ(n:Nat)=>PyData.int (n:Int)) (cs.map kI)
 | []=>aY.nil
 | n::cs=>aY.cons (cK.int _) (tR cs)
theorem qD{H:Hp}:∀{cs:List Nat}{xs:List V},aY H (cs.map λ(n:Nat)=>PyData.int (n:Int)) xs->xs=cs.map kI
 | [],xs,h=>h
 | n::cs,xs,h=>by
  unfold aY at h;obtain ⟨x,xs',rfl,hx,hr⟩:=(show ∃x xs',xs=x::xs'/\cK H (PyData.int (n:Int)) x/\aY H (cs.map λ(n:Nat)=>PyData.int (n:Int)) xs' from h);rw [qD hr];cases (show x=V.int (n:Int) from hx)
  rfl
theorem LY{H:Hp}{cs:List Nat}{v:V}(h:cK H (gR cs) v):∃a,v=.ref a/\H a=some (.tup (cs.map kI)):=by
 obtain ⟨a,xs,rfl,ha,hr⟩:=eK h;rw [qD hr] at ha;exact ⟨a,rfl,ha⟩
theorem lR{H:Hp}{cs:List Nat}{a:Addr}(h:H a=some (.tup (cs.map kI))):cK H (gR cs) (.ref a):=cK.tup h (tR cs)
def kJ(c:List Nat)(i:Nat):List Nat:=c.set i (c.getD i 0+1)
theorem DX{cs:List Nat}{i:Nat}(h:i<cs.length):kJ cs i=cs.take i++[cs.getD i 0+1]++cs.drop (i+1):=by
 unfold kJ;rw [List.set_eq_take_append_cons_drop,if_pos h,List.append_assoc]
 rfl
def ci(c:List Nat):List Int:=c.map λ(n:Nat)=>(n:Int)
theorem jG(c:List Nat):(ci c).map V.int=c.map kI:=by unfold ci;rw [List.map_map];rfl
theorem vL:∀{a b:List Nat},ci a=ci b->a=b
 | [],[],_=>rfl
 | [],_::_,h=>by cases h
 | _::_,[],h=>by cases h
 | x::a,y::b,h=>by
  have h:(x:Int)::ci a=(y:Int)::ci b:=h;injection h with h1 h2;rw [vL h2,show x=y by omega]
abbrev NL:=List (List Nat × Nat)
def dB(l:NL):List (List dJ × V):=l.map λp=>(kT (ci p.1),V.int (p.2:Int))
def mM(l:NL)(c:List Nat):Option Nat:=(l.find? λp=>decide (p.1=c)).map (·.2)
def yV(l:NL)(c:List Nat)(n:Nat):NL:=if (l.any λp=>decide (p.1=c))=true then l.map (λp=>if p.1=c then (p.1,n) else p) else l++[(c,n)]
theorem nA{a b:List Nat}:kT (ci a)=kT (ci b)↔a=b:=⟨λh=>vL (LI h),λh=>by rw [h]⟩
theorem jN(c:List Nat):∀l:NL,gS (dB l) (kT (ci c))=(mM l c).map λn=>V.int (n:Int)
 | []=>rfl
 | p::l=>by
  by_cases h:p.1=c
  ·rw [show dB (p::l)=(kT (ci p.1),V.int (p.2:Int))::dB l from rfl,jL (by rw [h])];simp [mM,List.find?_cons,h]
  ·rw [show dB (p::l)=(kT (ci p.1),V.int (p.2:Int))::dB l from rfl,jM (λz=>h (nA.mp z)),jN c l];simp [mM,List.find?_cons,h]
theorem sL(l:NL)(c:List Nat)(n:Nat):gW (dB l) (kT (ci c)) (V.int (n:Int))=dB (yV l c n):=by
 unfold gW yV;have e1:((dB l).any λkv=>decide (kv.1=kT (ci c)))=l.any λp=>decide (p.1=c):=by
  unfold dB;rw [List.any_map];congr 1
  funext p
  show decide (kT (ci p.1)=kT (ci c))=_;exact decide_eq_decide.mpr nA
 rw [e1];by_cases h:(l.any λp=>decide (p.1=c))=true
 ·rw [if_pos h,if_pos h];unfold dB;rw [List.map_map,List.map_map];refine List.map_congr_left λp _=>?_;show (if kT (ci p.1)=kT (ci c) then _ else _)=_;by_cases e:p.1=c
  ·rw [if_pos (nA.mpr e)];show _=(λp:List Nat × Nat=>(kT (ci p.1),V.int (p.2:Int))) (if p.1=c then (p.1,n) else p);rw [if_pos e]
  ·rw [if_neg λz=>e (nA.mp z)];show _=(λp:List Nat × Nat=>(kT (ci p.1),V.int (p.2:Int))) (if p.1=c then (p.1,n) else p);rw [if_neg e]
 ·rw [if_neg h,if_neg h];unfold dB;rw [cI]
  rfl
def HG(l:NL)(c:List Nat)(n:Nat):NL:=yV l c ((mM l c).getD 0+n)
def xJ(c:List Nat)(n:Nat)(l:NL)(k:Nat):NL:=(List.range k).foldl (λl f=>HG l (kJ c f) n) l
def zS(F:Nat)(l:NL)(ps:NL):NL:=ps.foldl (λl p=>xJ p.1 p.2 l F) l
def fK(F:Nat):Nat->NL
 | 0=>[(List.replicate F 0,1)]
 | k+1=>zS F [] (fK F k)
def IY(l m:NL):NL:=m.foldl (λl p=>yV l p.1 p.2) l
def gN(F:Nat):Nat->NL
 | 0=>[]
 | k+1=>IY (gN F k) (fK F k)
theorem pM:∀(m l:NL),gC (dB l) (dB m)=dB (IY l m)
 | [],l=>rfl
 | p::m,l=>by
  show gC (gW (dB l) (kT (ci p.1)) (V.int (p.2:Int))) (dB m)=dB (IY (yV l p.1 p.2) m);rw [sL,pM m]
theorem tE(c:List Nat)(n:Nat)(l:NL)(k:Nat):xJ c n l (k+1)=HG (xJ c n l k) (kJ c k) n:=by unfold xJ;rw [List.range_succ,List.foldl_append];rfl
theorem DA(F:Nat)(l:NL){ps:NL}{i:Nat}{p:List Nat × Nat}(h:ps[i]?=some p):zS F l (ps.take (i+1))=xJ p.1 p.2 (zS F l (ps.take i)) F:=by unfold zS;rw [fP h,List.foldl_append];rfl
def cN(F m:Nat):List (List Nat):=(List.range m).flatMap λk=>(cta F k).reverse
theorem uV{F k:Nat}(h1:2<=F)(h2:F<5)(h3:k<6):fK F k=(cta F k).reverse.map λc=>(c,mN c):=by
 have a:∀k,k<6->fK 2 k=(cta 2 k).reverse.map λc=>(c,mN c):=Kk;have b:∀k,k<6->fK 3 k=(cta 3 k).reverse.map λc=>(c,mN c):=Kk;have d:∀k,k<6->fK 4 k=(cta 4 k).reverse.map λc=>(c,mN c):=Kk;obtain rfl | rfl | rfl:F=2\/F=3\/F=4:=Oo
 ·exact a k h3
 ·exact b k h3
 ·exact d k h3
theorem lO{F m:Nat}(h1:2<=F)(h2:F<5)(h3:m<7):gN F m=(cN F m).map λc=>(c,mN c):=by
 have a:∀k,k<7->gN 2 k=(cN 2 k).map λc=>(c,mN c):=Kk;have b:∀k,k<7->gN 3 k=(cN 3 k).map λc=>(c,mN c):=Kk;have d:∀k,k<7->gN 4 k=(cN 4 k).map λc=>(c,mN c):=Kk;obtain rfl | rfl | rfl:F=2\/F=3\/F=4:=Oo
 ·exact a m h3
 ·exact b m h3
 ·exact d m h3
theorem oG:∀F,F<=4->∀m,m<=6->(cN F m).length<=400:=Kk
theorem DJ{F k:Nat}(h1:2<=F)(h2:F<5)(h3:k<7)(h0:0<k):dB (gN F k)≠[]:=λz=>by
 have e:=congrArg List.length z;unfold dB at e;rw [aB,lO h1 h2 h3,aB] at e;have a:∀F,F<5->∀k,k<7->2<=F/\0<k->(cN F k).length≠0:=Kk;exact a F h2 k h3 ⟨h1,h0⟩ e
theorem GG{F k:Nat}(h1:2<=F)(h2:F<5)(h3:k<6){c:List Nat}(hc:c∈cta F k):mM (fK F k) c=some (mN c):=by
 rw [uV h1 h2 h3];have hc:c∈(cta F k).reverse:=List.mem_reverse.mpr hc;generalize (cta F k).reverse=l at hc
 induction l with
 | nil=>cases hc
 | cons d l ih =>
  by_cases e:d=c
  ·subst e;simp [mM,List.find?_cons]
  ·have:c∈l:=by
    rcases aP.mp hc with h | h
    ·exact absurd h.symm e
    ·exact h
   have:=ih this;simp only [mM,bA,List.find?_cons,bE e] at this ⊢;exact this
theorem LN(c:List Nat)(n:Nat)(l:NL):(HG l c n).length<=l.length+1:=by
 unfold HG yV;by_cases h:(l.any λp=>decide (p.1=c))=true
 ·rw [if_pos h,aB];omega
 ·rw [if_neg h,bC];simp
theorem xI(c:List Nat)(n:Nat)(l:NL)(k:Nat):(xJ c n l k).length<=l.length+k:=by
 induction k with
 | zero=>exact aC _
 | succ k ih =>
  rw [tE];have:=LN (kJ c k) n (xJ c n l k);omega
theorem GR(F:Nat)(ps l:NL):(zS F l ps).length<=l.length+ps.length*F:=by
 induction ps generalizing l with
 | nil=>show l.length<=_;omega
 | cons p ps ih =>
  have:=ih (xJ p.1 p.2 l F);have h2:=xI p.1 p.2 l F;show (zS F (xJ p.1 p.2 l F) ps).length<=_;rw [bI,Nat.add_mul,Nat.one_mul];omega
theorem eQ(l:NL):(dB l).length=l.length:=by unfold dB;rw [aB]
theorem FB{K:PySem.W.Frag}{H:Hp}{a:Addr}{xs:List V}{k:Nat}{z:Int}{Q:VK}(hz:z=(k:Int))(h:H a=some (.tup xs))(q:∀c H',aW H H'->H' c=some (.tup (xs.drop k))->Q (.ref c) H'):uR K (.ref a) (some z) none H Q:=by
 subst hz;exact JE h q
theorem PB{H:Hp}{d b:Addr}{kvs:List (List dJ × V)}{c:List Int}{v:V}{Q:VK}(h:NA H d kvs)(hb:H b=some (.tup (c.map V.int)))(hv:gS kvs (kT c)=some v)(q:Q v H):PV (.ref d) (.ref b) H Q:=by
 unfold PV;exact ⟨d,v,rfl,hv ▸ h.ct hb,q⟩
@[irreducible] def jP:Sp:=λvs H Q _=>∃F m:Nat,vs=[.int (F:Int),.int (m:Int)]/\2<=F/\F<5/\m<6/\∀d H',aW H H'->H d=none->H' d=some (.dT (dB (gN F (m+1))))->Q (.ref d) H'
theorem yP{H:Hp}{Q:VK}{E:XK}{F m:Nat}(h1:2<=F)(h2:F<5)(h3:m<6)(q:∀d H',aW H H'->H d=none->H' d=some (.dT (dB (gN F (m+1))))->Q (.ref d) H'):jP [.int (F:Int),.int (m:Int)] H Q E:=by unfold jP;exact ⟨F,m,rfl,h1,h2,h3,q⟩
section
theorem TB(F:iW K "_law_met" "_law_met" QM f fd)(T:pC K mg c):dW P w K mg base eI 1 f fd ["_law_faces","_law_most"] jP:=by
 refine F.oky HE λvs H Q E h=>?_;unfold jP at h;obtain ⟨F,m,rfl,f2,f5,m6,q⟩:=h;refine ⟨rfl,λcdv A outer s hr=>?_⟩;refine ⟨_,(aM (bH (i:=2) HE.nd rfl (Or.inl rfl) rT)
  (aM (bH (i:=3) HE.nd rfl (Or.inl rfl) (AW hr.u1 (bT GE (fI (aT aJ aL)) (aO 0)) aJ))
  (aM (dY PassesOwn.never rfl (dE rfl T.b_range (aT (bT dU (aO 1) aJ) aL)) (cU (i:=4) HE.nd rfl (Or.inl rfl)) (aM (mT (vY PySem.F.plainAttrs_dict PySem.F.slot_dict_update PySem.F.type_dict_update (GI hr.u1) (aO 2) (aT (aO 3) aL)))
  (aM (bH (i:=5) HE.nd rfl (Or.inl rfl) rT)
  (aM (dY PassesOwn.never rfl (rS (aO 3)) (cU (i:=6) HE.nd rfl (Or.inl rfl)) (bF (dY PassesOwn.never rfl (dE rfl T.b_range (aT (aO 0) aL)) (cU (i:=7) HE.nd rfl (Or.inl rfl)) (aM (bH (i:=8) HE.nd rfl (Or.inl rfl) (bT (qU K) (bT (qU K) (fF (wH K) (aO 6) fZ (fY (aO 7))) (fI (aT (bT dU (bV bK (aO 6) (aO 7) (λ_ _=>rfl)) aJ) aL))) (fF (wH K) (aO 6) (fY (bT dU (aO 7) aJ)) fZ)))
  (bF (EQ hr.u1 (aO 5) (aO 8) (bT dU (EW hr.u1 (aO 5) (aO 8) aJ) (vX hr.u1 (aO 3) (aO 6)))))))))
  (bF (bH (i:=3) HE.nd rfl (Or.inl rfl) (aO 5)))))))
  (bF (cX (aO 2)))))),?_⟩
 intro Fd hFd;have s1:=aW.upd (o:=.dT []) hFd;have e1:(upd H Fd (.dT [])) Fd=some (.dT []):=aX;generalize upd H Fd (.dT [])=H1 at s1 e1 ⊢;intro Nw hNw;have s2:=aW.upd (o:=.dT []) hNw;have e2:(upd H1 Nw (.dT [])) Nw=some (.dT []):=aX;generalize upd H1 Nw (.dT [])=H2 at s2 e2 ⊢;refine AL (by show 1<=64;decide) λq3 H3 hq3 e3 s3=>?_;refine ⟨_,rfl,?_⟩;refine RE (k:=F) e3 f2 Oo λq4 H4 s4 e4=>?_;have hz:H4 q4=some (.tup ((ci (List.replicate F 0)).map V.int)):=by rw [e4,jG,List.map_replicate];rfl
 refine QR hz (s4 _ _ (s3 _ _ e2)) λH5 e5 b5=>?_;have nFN:Fd≠Nw:=λz=>by rw [<-z,e1] at hNw;cases hNw
 have S5:aW H H5:=aW.thru (s1.free hNw) (((s1.trans s2).trans s3).trans s4) b5;have eF5:H5 Fd=some (.dT []):=b5.at nFN (s4 _ _ (s3 _ _ (s2 _ _ e1)));refine ⟨_,rfl,_,_,rfl,rfl,_,rfl,Oo,Oo,?_⟩;rw [show ((m:Int)+1).toNat=m+1 by omega];refine dL (λk σ H'=>∃(Nw:Addr) (o4 o5 o6 o7 o8:Option V),σ=[some (.int (F:Int)),some (.int (m:Int)),some (.ref Fd),some (.ref Nw),o4,o5,o6,o7,o8]/\aW H H'/\Fd≠Nw/\H Nw=none/\H' Fd=some (.dT (dB (gN F k)))/\(k<=m->H' Nw=some (.dT (dB (fK F k))))) ⟨Nw,_,_,_,_,_,rfl,S5,nFN,s1.free hNw,eF5,λ_=>e5⟩ ?_ ?_
 ·clear eF5 S5 nFN hz b5 e5 e4 s4 e3 s3 e2 s2 hNw e1 s1;rintro k σ H1 hk ⟨Nw,o4,o5,o6,o7,o8,rfl,S1,nFN,hNw,eF,eN⟩;have eN:=eN Oo;have hk6:k<6:=Oo;have lN:(dB (fK F k)).length<=56:=by rw [eQ,uV f2 f5 hk6,aB,List.length_reverse];exact lP F Oo k Oo
  have lF:(dB (gN F k)).length<=400:=by rw [eQ,lO f2 f5 Oo,aB];exact oG F Oo k Oo
  refine ⟨_,rfl,(.inr (.inr (.inl ⟨rfl,.inr ⟨_,eF⟩⟩))),_,rfl,?_⟩;refine NQ nFN eF eN (λz=>?_) Oo λH2 e2 b2=>?_
  ·have:k=0:=by
    rcases Nat.eq_zero_or_pos k with h | h
    ·exact h
    ·exact absurd z (DJ f2 f5 Oo h)
   subst this;exact λP w=>by simp [dB,fK]
  have eF2:H2 Fd=some (.dT (dB (gN F (k+1)))):=by
   rw [e2];by_cases z:dB (gN F k)=[]
   ·have:k=0:=by
     rcases Nat.eq_zero_or_pos k with h | h
     ·exact h
     ·exact absurd z (DJ f2 f5 Oo h)
    subst this;rw [if_pos z];rfl
   ·rw [if_neg z,pM];rfl
  have S2:aW H H2:=aW.thru hFd S1 b2;have eN2:=b2.at nFN.symm eN;clear e2 eF;intro Lt hLt;have s3:=aW.upd (o:=.dT []) hLt;have e3:(upd H2 Lt (.dT [])) Lt=some (.dT []):=aX;generalize upd H2 Lt (.dT [])=H3 at s3 e3 ⊢;have nLF:Lt≠Fd:=λz=>by rw [z,eF2] at hLt;cases hLt
  have nLN:Lt≠Nw:=λz=>by rw [z,eN2] at hLt;cases hLt
  refine ⟨_,rfl,?_⟩;refine rdf (.inl (s3 _ _ eN2)) λo H4 e4 b4=>?_;have S4:aW H H4:=aW.thru hNw (S2.trans s3) b4;have eF4:=b4.at nFN (s3 _ _ eF2);have eL4:=b4.at nLN e3;refine DI (d:=Nw) (o:=o) (kvs:=dB (fK F k)) (λa σ H'=>∃(o6 o7 o8:Option V),σ=[some (.int (F:Int)),some (.int (m:Int)),some (.ref Fd),some (.ref Nw),some (.int (0+(k:Int))),some (.ref Lt),o6,o7,o8]/\aR Lt H4 H'/\H' Lt=some (.dT (dB (zS F [] ((fK F k).take a))))) ⟨_,_,_,rfl,(aW.refl _).but,eL4⟩ (λa σ H' _ q=>?_) ?_ ?_
  ·obtain ⟨_,_,_,_,b',_⟩:=q;exact b'.at nLN.symm e4
  ·rintro a p b σ H5 hp hb ⟨o6,o7,o8,rfl,b5,eL5⟩;have ha:a<(fK F k).length:=by have:=(bL.mp hp).1;rwa [eQ] at this
   obtain ⟨pc,hpc⟩:∃pc,(fK F k)[a]?=some pc:=⟨_,aE ha⟩;have ep:p=(kT (ci pc.1),V.int (pc.2:Int)):=by
    unfold dB at hp;rw [aQ,hpc] at hp;exact (bY hp).symm
   have hpm:pc∈(cta F k).reverse.map λc=>(c,mN c):=by rw [<-uV f2 f5 hk6];exact cE hpc
   obtain ⟨c,hc,rfl⟩:=cP.mp hpm;have hc:=List.mem_reverse.mp hc;obtain ⟨c1,c2⟩:=kD hc;rw [ep,jD] at hb;have hb:H5 b=some (.tup (c.map kI)):=by rw [hb,jG]
   have hv:gS (dB (fK F k)) (kT (ci c))=some (V.int ((mN c:Nat):Int)):=by
    rw [jN,GG f2 f5 hk6 hc];rfl
   have lL:((fK F k).take a).length<=56:=by rw [bO];rw [eQ] at lN;omega
   refine ⟨_,rfl,_,rfl,Oo,Oo,?_⟩;rw [Int.toNat_natCast];refine dL (λj σ H'=>∃(o7 o8:Option V),σ=[some (.int (F:Int)),some (.int (m:Int)),some (.ref Fd),some (.ref Nw),some (.int (0+(k:Int))),some (.ref Lt),some (.ref b),o7,o8]/\aR Lt H5 H'/\H' Lt=some (.dT (dB (xJ c (mN c) (zS F [] ((fK F k).take a)) j)))) ⟨_,_,rfl,(aW.refl _).but,eL5⟩ ?_ ?_
   ·rintro j σ H6 hj ⟨o7,o8,rfl,b6,eL6⟩;have nbL:b≠Lt:=λz=>by rw [z,eL5] at hb;cases hb
    have hb6:=b6.at nbL hb;have hi:j<c.length:=Oo;rw [show (0:Int)+(j:Int)=(j:Int) by omega];refine ⟨_,rfl,_,rfl,_,rfl,?_⟩;refine JF hb6 λg2 H7 s7 e7=>?_;refine ⟨_,rfl,_,rfl,?_⟩;have hat:uH (c.map kI) (j:Int)=some (kI (c.getD j 0)):=fE (by rw [aQ,bD,aE hi];rfl);refine tD (s7 _ _ hb6) hat ?_;refine ⟨_,_,rfl,rfl,?_⟩;refine AL (by show 1<=64;decide) λg3 H8 hg3 e8 s8=>?_;refine MB (s8 _ _ e7) e8 (by rw [bO,aB];show min j c.length+1<=1000;omega) λg4 H9 s9 e9=>?_;refine ⟨_,rfl,_,rfl,_,_,rfl,rfl,?_⟩;refine ⟨_,rfl,?_⟩;refine FB (k:=j+1) Oo (s9 _ _ (s8 _ _ (s7 _ _ hb6))) λg5 H10 s10 e10=>?_;refine MB (s10 _ _ e9) e10 (by rw [bC,bO,List.length_drop,aB];show min j c.length+1+(c.length-(j+1))<=1000;omega) λg6 H11 s11 e11=>?_;have s611:=(((s7.trans s8).trans s9).trans s10).trans s11;have eb:H11 g6=some (.tup ((ci (kJ c j)).map V.int)):=by
     rw [e11,jG,DX hi,cI,cI,List.map_take,List.map_drop]
     rfl
    have eL11:=s611 _ _ eL6;have eN11:NA H11 Nw (dB (fK F k)):=⟨o,s611 _ _ (b6.at nLN.symm (b5.at nLN.symm e4))⟩;have hb11:H11 b=some (.tup ((ci c).map V.int)):=by rw [s611 _ _ hb6,jG]
    refine ⟨_,rfl,Lt,rfl,.inr ⟨_,.inl eL11⟩,_,rfl,_,kQ.ct eL11 eb,?_⟩;refine ⟨_,rfl,_,rfl,?_⟩;refine PB eN11 hb11 hv ?_;have eg:(gS (dB (xJ c (mN c) (zS F [] ((fK F k).take a)) j)) (kT (ci (kJ c j)))).getD (V.int 0)=V.int (((mM (xJ c (mN c) (zS F [] ((fK F k).take a)) j) (kJ c j)).getD 0:Nat):Int):=by
     rw [jN];cases mM (xJ c (mN c) (zS F [] ((fK F k).take a)) j) (kJ c j) <;> rfl
    rw [eg];refine ⟨_,_,rfl,rfl,?_⟩;refine ⟨_,rfl,_,rfl,?_⟩;have l1:=GR F ((fK F k).take a) [];have l2:=xI c (mN c) (zS F [] ((fK F k).take a)) j;have l3:((fK F k).take a).length*F<=56*4:=Nat.mul_le_mul lL Oo;have l4:(xJ c (mN c) (zS F [] ((fK F k).take a)) j).length<=300:=by
     rw [List.length_nil] at l1;omega
    refine TK eL11 eb (by rw [eQ];omega) λH12 e12 b12=>?_;refine ⟨_,_,rfl,(b6.same s611).trans b12,?_⟩;rw [e12];dsimp only;rw [<-Int.natCast_add,sL,tE]
    rfl
   ·rintro σ H6 ⟨o7,o8,rfl,b6,eL6⟩;refine ⟨_,_,_,rfl,b5.trans b6,?_⟩;rw [DA F [] hpc];exact eL6
  ·rintro σ H5 ⟨o6,o7,o8,rfl,b5,eL5⟩;rw [eQ,eL] at eL5;refine ⟨_,rfl,?_⟩;refine ⟨Lt,_,_,_,_,_,rfl,aW.thru (S2.free hLt) S4 b5,nLF.symm,S2.free hLt,b5.at nLF.symm eF4,λ_=>eL5⟩
 ·rintro σ H1 ⟨Nw,o4,o5,o6,o7,o8,rfl,S1,nFN,hNw,eF,eN⟩;refine ⟨_,rfl,?_⟩;exact q Fd H1 S1 hFd eF
end
end Kw
namespace L2
open PySem PySem.Spec PySem.W PyProof.Rows HT
section
variable{prog:Program}{w:World}{A:Around}{E:Value->Shared->Prop}{s:Shared}
end
theorem PC{X:Cx}{pins:List (Addr × Obj)}{σ:St}{H:Hp}{s:Shared}(I:bG X pins σ H s){d:Addr}{kvs:List (List dJ × V)}(e:H d=some (.dT kvs)):(d == sysModules)=false/\(kvs.map (·.1)).Nodup/\∃o,s.heap.get? d=some o/\o.ExactDict/\∃es ep,o.data=.dict es ep/\es.size=kvs.length /\
  ∀(i:Nat) (hi:i<es.size) p,kvs[i]?=some p->∃b,es[i].key=.ref b/\H b=some (.tup (p.1.map kV)):=by
 obtain ⟨z,hd,xs,rel,o,es,ep,h1,h2,h3,h4,h5⟩:=(show cQ X.prog X.w H s.heap d (.dT kvs) from I.hok d _ e);have hl:es.size=kvs.length:=by
  have:=congrArg List.length h4;rw [aB,<-Paired.length rel] at this;simpa using this
 have hk:kvs.map (·.1)=xs.map (·.1):=by
  clear h4 h5 hl e z
  induction rel with
  | nil=>rfl
  | cons r t ih=>rw [bA,bA,r.1,ih]
 refine ⟨hd,hk ▸ h5,o,h1,h2,es,ep,h3,hl,λi hi p hp=>?_⟩;obtain ⟨x,hx,r1,r2,r3⟩:=jA rel hp;have he:es.toList[i]?=some (entryOfKey (tupleKind (cH X.prog X.w)) x):=by rw [h4,aQ,hx];rfl
 have he2:es[i]=entryOfKey (tupleKind (cH X.prog X.w)) x:=by
  have:es.toList[i]?=some es[i]:=by simp [hi]
  rw [this] at he;injection he
 rw [he2];exact ⟨x.2.1,rfl,r2⟩
@[irreducible] def qT:List V->Hp->VK->Prop:=λxs H Q=>∃(d:Addr) (kvs:List (List dJ × V)),xs=[.ref d]/\H d=some (.dT kvs)/\kvs.length<=1000/\∀D ys H',H D=none->H' D=some (.lst ys)->rP H' kvs ys->aW H H'->Q (.ref D) H'
theorem rlst{H:Hp}{Q:VK}{d:Addr}{kvs:List (List dJ × V)}(h:H d=some (.dT kvs))(hz:kvs.length<=1000)(q:∀D ys H',H D=none->H' D=some (.lst ys)->rP H' kvs ys->aW H H'->Q (.ref D) H'):qT [.ref d] H Q:=by
 unfold qT;exact ⟨d,kvs,rfl,h,hz,q⟩
theorem DS{X:Cx}(hc:X.calm=true):eS X (.type "list") qT:=by
 unfold qT;intro pins s σ H xs us Q I r h;obtain ⟨d,kvs,rfl,hq,hz,q⟩:=h;obtain ⟨u,rfl,rx⟩:=iA r;cases rx;obtain ⟨hm,hnd,o,hod,hex,es,ep,hdd,hsz,hat⟩:=PC I hq;have hline:es.size<=sizeLine:=aU (show es.size<=1000 by omega) Dd;refine kdl_call (GO hm hex hdd) (I.ok.hd hc) hod hline λh' tk acc' c' kp hget hacc=>?_;obtain ⟨la,ha⟩:=hacc;have hv:∃ys:List V,bW ys acc'.toList/\rP H kvs ys:=by
  have key:∀(n:Nat) (l:List Value),l.length=n->∀(m:List (List dJ × V)),m.length=n->(∀(i:Nat) v p,l[i]?=some v->m[i]?=some p->∃b,v=.ref b/\H b=some (.tup (p.1.map kV)))->∃ys:List V,bW ys l/\rP H m ys:=by
   intro n
   induction n with
   | zero =>
    intro l hl m hm _;cases l with
    | nil=>cases m with
     | nil=>exact ⟨[],.nil,rfl,λi p h=>by simp at h⟩
     | cons _ _=>simp at hm
    | cons _ _=>simp at hl
   | succ n ih =>
    intro l hl m hm hk;cases l with
    | nil=>simp at hl
    | cons v l=>cases m with
     | nil=>simp at hm
     | cons p m =>
      obtain ⟨b,rfl,hb⟩:=hk 0 v p rfl rfl;obtain ⟨ys,hv,hy,ha⟩:=ih l (by simpa using hl) m (by simpa using hm) λi v p h1 h2=>hk (i+1) v p (by simpa using h1) (by simpa using h2);refine ⟨.ref b::ys,.cons rfl hv,by simp [hy],λi q hq=>?_⟩;cases i with
      | zero=>cases (show p=q by simpa using hq);exact ⟨b,rfl,hb⟩
      | succ i =>
       obtain ⟨b',h1,h2⟩:=ha i q (by simpa using hq);exact ⟨b',by simpa using h1,h2⟩
  refine key kvs.length acc'.toList (by rw [Array.length_toList,la,hsz]) kvs rfl λi v p h1 h2=>?_;obtain ⟨hi,e⟩:=ha i v (by rw [<-Array.getElem?_toList];exact h1);obtain ⟨b,k1,k2⟩:=hat i hi p h2;exact ⟨b,by rw [e,k1],k2⟩
 obtain ⟨ys,hv,hy⟩:=hv;have hn:=I.hok.fresh (aC s.heap.objs.size);have sm:aW H (upd H s.heap.objs.size (.lst ys)):=aW.upd hn;refine ⟨.ref s.heap.objs.size,upd H s.heap.objs.size (.lst ys),I.laid (t':=tk) kp (aC _) ⟨by have:=hy.1;omega,acc'.toList,c',hv,by rw [Array.toArray_toList];exact hget⟩,rfl,q _ ys _ hn aX ⟨hy.1,λi p hp=>?_⟩ sm⟩;obtain ⟨b,h1,h2⟩:=hy.2 i p hp;exact ⟨b,h1,sm _ _ h2⟩
end L2
namespace Kw
open PySem L2 Mf
abbrev vB:Pos:=⟨122,33,122,84⟩
abbrev vA:Str := "_law_rising" ++ ".<locals>." ++ "<lambda>"
def oH(c:List Nat):List Int:=(c.sum:Int)::ci c
def xB(F m:Nat):List (List Int):=(cN F (m+1)).map oH
def sI(F m:Nat):List (List Nat):=(List.range (m+1)).flatMap (cta F)
theorem GN{a b:List Nat}(h:oH a=oH b):a=b:=by
 unfold oH at h;injection h with _ h;exact vL h
theorem wV:∀{l m:List (List Nat)},l.map oH=m.map oH->l=m
 | [],[],_=>rfl
 | [],_::_,h=>by cases h
 | _::_,[],h=>by cases h
 | a::l,b::m,h=>by
  rw [bA,bA] at h;injection h with h1 h2;rw [GN h1,wV h2]
theorem pK{α:Type}{f g:Nat->List α}(h:∀k,(f k).Perm (g k)):∀n:Nat,((List.range n).flatMap f).Perm ((List.range n).flatMap g)
 | 0=>.refl _
 | n+1=>by
  rw [iQ,iQ];exact (pK h n).append (h n)
theorem pO(F m:Nat):(cN F (m+1)).Perm (sI F m):=pK (λk=>List.reverse_perm _) _
theorem wK:∀F,F<5->∀m,m<6->((sI F m).map oH).Pairwise (λa b=>fW a b=true):=Kk
theorem mZ:(xB 4 4).length=70/\∀i,i<70->∀j,j<70->jV (xB 4 4) i j=HB.cL i j:=Kk
theorem mY:(xB 4 5).length=126/\∀i,i<126->∀j,j<126->jV (xB 4 5) i j=HB.cL i j:=Kk
theorem CT:∀F,F<5->∀m,m<6->(cN F (m+1)).length<=126/\((cN F (m+1)).length<64\/(F=4/\(m=4\/m=5))):=Kk
theorem OM{F m:Nat}(hF:F<5)(hm:m<6):(cN F (m+1)).length<64\/Bg (xB F m):=by
 rcases (CT F hF m hm).2 with h | ⟨rfl,rfl | rfl⟩
 ·exact .inl h
 ·exact .inr ⟨.inl mZ.1,λi j hi hj=>mZ.2 i (by rw [mZ.1] at hi;exact hi) j (by rw [mZ.1] at hj;exact hj)⟩
 ·exact .inr ⟨.inr mY.1,λi j hi hj=>mY.2 i (by rw [mY.1] at hi;exact hi) j (by rw [mY.1] at hj;exact hj)⟩
theorem OL{F m:Nat}(hF:F<5)(hm:m<6):(xB F m).Nodup:=by
 refine ((pO F m).map oH).nodup_iff.mpr ?_;refine (wK F hF m hm).imp λ{a b} h e=>?_;subst e;rw [jW] at h;cases h
theorem FE{F m:Nat}(hF:F<5)(hm:m<6){ix:List Nat}(pm:ix.Perm (List.range (cN F (m+1)).length))(srt:(xB F m).Nodup->(ix.map λi=>(xB F m).getD i []).Pairwise λa b=>fW a b=true) :
  (ix.map λi=>(cN F (m+1)).getD i [])=sI F m:=by
 have hl:∀k∈ix,k<(cN F (m+1)).length:=λk hk=>eM.mp (pm.mem_iff.mp hk);have e1:(ix.map λi=>(xB F m).getD i [])=(ix.map λi=>(cN F (m+1)).getD i []).map oH:=by
  rw [List.map_map];refine List.map_congr_left λk hk=>?_;show (xB F m).getD k []=oH ((cN F (m+1)).getD k []);unfold xB;rw [bD,aQ,bD,aE (hl k hk)];rfl
 have e2:(ix.map λi=>(cN F (m+1)).getD i []).Perm (cN F (m+1)):=by
  refine (pm.map _).trans ?_;rw [show (List.range (cN F (m+1)).length).map (λi=>(cN F (m+1)).getD i [])=cN F (m+1) from ?_];refine List.ext_getElem? λi=>?_;rw [aQ];by_cases hi:i<(cN F (m+1)).length
  ·rw [List.getElem?_range hi,aE hi];show some (List.getD _ i _)=_;rw [bD,aE hi];rfl
  ·rw [bR (by rw [List.length_range];omega),bR Oo];rfl
 have h1:=srt (OL hF hm);rw [e1] at h1;have h2:=sX h1 (wK F hF m hm) λx=>((e2.trans (pO F m)).map oH).mem_iff;exact wV h2
@[irreducible] def fQ(P:Addr):Sp:=λvs H Q _=>∃(L:Addr) (ys:List V) (F m:Nat),vs=[.ref L]/\H L=some (.lst ys)/\aY H ((cN F (m+1)).map gR) ys/\F<5/\m<6/\eC H P vA vB/\∀D H',aR P H H'->eC H' P vA vB->H D=none->oT H' D (sI F m)->Q (.ref D) H'
theorem sB{P:Addr}{H:Hp}{Q:VK}{E:XK}{L:Addr}{ys:List V}{F m:Nat}(h1:H L=some (.lst ys))(h2:aY H ((cN F (m+1)).map gR) ys)(h3:F<5)(h4:m<6)(h5:eC H P vA vB)(q:∀D H',aR P H H'->eC H' P vA vB->H D=none->oT H' D (sI F m)->Q (.ref D) H'):fQ P [.ref L] H Q E:=by
 unfold fQ;exact ⟨L,ys,F,m,rfl,h1,h2,h3,h4,h5,q⟩
section
theorem SY{f cA tA:Addr}{fd:FuncData}(F:iW K "_law_rising" "_law_rising" MS f fd)(T:pC K mg c)(hcd:fd.code=.ref cA)(hh:zT K cA tA=true)(hbm:BM mg base):dW P w K mg base eI 8 f fd ["_law_some"] (fQ tA):=by
 refine F.okwL hcd TL (λvs H Q E h=>?_) (λA outer s H vs Q E hr h=>?_)
 ·unfold fQ at h;obtain ⟨L,ys,F,m,rfl,_⟩:=h
  rfl
 ·unfold fQ at h;obtain ⟨L,ys,F,m,rfl,hL,rys,hF,hm,TO,q⟩:=h;have lys:ys.length=(cN F (m+1)).length:=dF rys;obtain ⟨ps,hps⟩:=TO.at_;refine ⟨_,(bF (cX (AV K (k:=4) (N:=["_law_counts"]) (z := "_law_counts") rfl hh hbm ⟨rfl,rfl,rfl,Kk,rfl,Kk,Kk⟩ (λ_ _ _ _=>rfl) (λB f c1 A outer s H E hr=>(fI (aT (dZ (xY K rfl) (by rfl) T.b_sum Kk (aT (aO 0) aL)) (aT (aO 0) aL)))) (hr.mono Dd) (by rfl) T.b_sorted (aO 0) rfl))),?_⟩;refine ⟨_,rfl,?_⟩;unfold uQ;refine ⟨L,ys,xB F m,rfl,fA.of hL,by rw [lys];exact (CT F hF m hm).1,by rw [lys];exact OM hF hm,TO,by unfold xB;rw [aB,lys],λk hk=>?_,λi y k H' hy hk b'=>?_,λD2 ix H4 pm srt hD2 e4 b4 T4=>?_⟩
  ·obtain ⟨e,_,rfl⟩:=cP.mp hk;exact List.cons_ne_nil _ _
  ·obtain ⟨d,hd,rd⟩:=fG rys hy;unfold xB at hk;rw [aQ,hd] at hk;cases hk;have t':fC H H':=λa xs ha=>b'.at (λz=>by rw [z,hps] at ha;cases ha) ha;obtain ⟨cu,rfl,hcu⟩:=LY (rd.flat t' (kE _));have hcu':H' cu=some (.tup ((ci d).map V.int)):=by rw [hcu,jG]
   refine ⟨_,rfl,?_⟩;refine SE (eT.of hcu') ?_;refine ⟨_,rfl,?_⟩;refine AL (by show 2<=64;decide) λq7 H7 hq7 e7 s7=>⟨s7,?_⟩;have es:(ci d).sum=((d.sum:Nat):Int):=lA d;rw [es] at e7;refine cK.tup e7 (aY.cons (cK.int _) (aY.cons ?_ aY.nil));have:=lR (s7 _ _ hcu);show cK H7 (PyData.tuple ((ci d).map .int)) (.ref cu);unfold ci;rw [List.map_map];exact this
  ·rw [lys] at pm;have hix:∀k∈ix,k<(cN F (m+1)).length:=λk hk=>eM.mp (pm.mem_iff.mp hk);refine q D2 H4 b4 T4 hD2 ⟨_,e4,?_⟩;rw [<-FE hF hm pm srt,List.map_map];have t4:fC H H4:=λa xs ha=>b4.at (λz=>by rw [z,hps] at ha;cases ha) ha;refine aY.ofIdx (by rw [aB,aB]) λj y hj=>?_;rw [aQ] at hj;cases e:ix[j]? with
   | none=>rw [e] at hj;cases hj
   | some i =>
    rw [e] at hj;have hi:=hix i (cE e);obtain ⟨u,hu,ru⟩:=gL rys (i:=i) (aE hi);have hy:ys.getD i .non=y:=bY hj;rw [bD,hu] at hy;have hy:u=y:=hy;subst hy;refine ⟨_,by rw [aQ,e];rfl,?_⟩;show cK H4 (gR ((cN F (m+1)).getD i [])) u;rw [bD,aE hi];exact ru.flat t4 (kE _)
end
end Kw
namespace L2
open PySem PySem.Spec PyProof.Rows
def rF(X:Cx)(scope:Scope)(x:Str)(C:Addr)(fp:List Addr)(s₀:Shared)(H₀:Hp)(N':List Str):Cx :=
 { rQ X scope C fp s₀ H₀ N' with env:=compEnvC scope ((x,C+1)::pB X scope) C X.env,fn:=λy=>y == x }
structure eJ(X:Cx)(scope:Scope)(x:Str)(N':List Str)(js:List Nat):Prop where
 calm:X.calm=true
 free:∀y∈scope.names,y.2=.free->X.env.kindOf y.1=some .cell
 only:(scope.names.filter λy=>y.2 == .cell)=[(x,NameKind.cell)]
 kind:scope.kind=.function
 names:∀y∈scope.names,y.2=.local->scope.names.lookup y.1=some .local
 own:scope.names.lookup x=some .cell
 nofl:∀y,(y,NameKind.free)∈scope.names->scope.names.lookup y=some .local->False
 nofx:(x,NameKind.free) ∉ scope.names
 len:N'.length=js.length+1
 zero:N'[0]?=some x
 nd:N'.Nodup
 slot:∀(i:Nat) (j:Nat),js[i]?=some j->∃y,N'[i+1]?=some y/\X.N[j]?=some y/\(y,NameKind.free)∈scope.names
theorem oP:∀{names:List (Str × NameKind)}{n:Nat}{acc:List (Str × Addr)}{h:Heap},(names.filter λy=>y.2 == .cell)=[]->cellsFrom n names acc=acc/\pushCells h names=h
 | [],_,_,_,_=>⟨rfl,rfl⟩
 | (a,k)::r,n,acc,h,e=>by
  rw [List.filter_cons] at e;by_cases q:(k == NameKind.cell)=true
  ·rw [if_pos q] at e;cases e
  ·rw [if_neg q] at e;unfold cellsFrom pushCells;rw [if_neg q,if_neg q];exact oP e
theorem pV{x:Str}:∀{names:List (Str × NameKind)}{n:Nat}{acc:List (Str × Addr)}{h:Heap},(names.filter λy=>y.2 == .cell)=[(x,NameKind.cell)]->cellsFrom n names acc=(x,n)::acc/\pushCells h names=h.push { cls:=.type "cell",data:=.cell none }
 | [],_,_,_,e=>by cases e
 | (a,k)::r,n,acc,h,e=>by
  rw [List.filter_cons] at e;by_cases q:(k == NameKind.cell)=true
  ·rw [if_pos q] at e;injection e with e1 e2;have ea:a=x:=congrArg Prod.fst e1;subst ea;unfold cellsFrom pushCells;rw [if_pos q,if_pos q];exact oP e2
  ·rw [if_neg q] at e;unfold cellsFrom pushCells;rw [if_neg q,if_neg q];exact pV e
theorem uW{M:Model}{A:Around}{E:Value->Shared->Prop}{s:Shared}{scope:Scope}{g:Addr}{cl:List (Str × Addr)}{q:Str}{env:Env}{x:Str}{Q:Env->Shared->Prop}(ho:(scope.names.filter λy=>y.2 == .cell)=[(x,NameKind.cell)])
  (h:Q { scope,locals:=s.heap.objs.size,globals:=g,cells:=(x,s.heap.objs.size+1)::cl,qual:=q,func:=none,code:=env.code,frame:=env.frame,builtins:=env.builtins } { s with heap:=(s.heap.push { cls:=.type "dict",data:=.dict #[] }).push { cls:=.type "cell",data:=.cell none } }) :
  wpAny M A (newFunctionEnv scope g cl [] q none .none (some env)) Q E s:=by
 simp only [newFunctionEnv,Option.isSome_some,if_true];refine wpAny_bind (wpAny_alloc ?_);refine wpAny_bind (wpAny_layCells _ (λname kind cells=>by cases hkc:kind == NameKind.cell <;> simp [hkc]) _ _ _ _ ?_);obtain ⟨e1,e2⟩:=pV (n:=({ s with heap:=s.heap.push { cls:=.type "dict",data:=.dict #[] } }:Shared).heap.objs.size) (acc:=cl) (h:=s.heap.push { cls:=.type "dict",data:=.dict #[] }) ho;rw [e1,e2];rw [List.forIn_nil];refine wpAny_bind (wpAny_pure (wpAny_pure ?_));rw [show ({ s with heap:=s.heap.push { cls:=.type "dict",data:=.dict #[] } }:Shared).heap.objs.size=s.heap.objs.size+1 from cY ..];exact h
theorem gU{env:Env}:∀{names:List (Str × NameKind)}{x:Str},names.lookup x=some .cell ->
  (names.map λ(n,k)=>if (k == NameKind.free&&env.scope.kind == .function&&env.kindOf n == some .cell) then (n,NameKind.cell) else (n,k)).lookup x=some .cell
 | [],_,h=>by cases h
 | (n,k)::r,x,h=>by
  rw [List.lookup_cons] at h;rw [bA];dsimp only;by_cases hq:(k == NameKind.free&&env.scope.kind == .function&&env.kindOf n == some .cell)=true
  ·rw [if_pos hq,List.lookup_cons];by_cases e:(x == n)=true
   ·rw [e]
   ·have e':(x == n)=false:=by simpa using e
    rw [e'] at h ⊢;exact gU h
  ·rw [if_neg hq,List.lookup_cons];by_cases e:(x == n)=true
   ·rw [e] at h ⊢;exact h
   ·have e':(x == n)=false:=by simpa using e
    rw [e'] at h ⊢;exact gU h
theorem fT{env:Env}{x:Str}:∀{names:List (Str × NameKind)}{y:Str}{k:NameKind},(names.map λ(n,k)=>if (k == NameKind.free&&env.scope.kind == .function&&env.kindOf n == some .cell) then (n,NameKind.cell) else (n,k)).lookup y=some k ->
  (k=.cell\/k=.free)->(∀z∈names,z.2=.cell->z.1=x)->y=x\/(y,NameKind.free)∈names
 | [],_,_,h,_,_=>by cases h
 | (n,q)::r,y,k,h,hk,hc=>by
  rw [bA,List.lookup_cons] at h;have ih:=λh=>@fT env x r y k h hk λz hz=>hc z (aD _ hz);have up:y=x\/(y,NameKind.free)∈r->y=x\/(y,NameKind.free)∈(n,q)::r:=λz=>z.imp id (aD _);by_cases hq:(q == NameKind.free&&env.scope.kind == .function&&env.kindOf n == some .cell)=true
  ·dsimp only at h;rw [if_pos hq] at h;have qf:q=.free:=by
    rw [bJ,bJ] at hq;simpa using hq.1.1
   subst qf;by_cases e:(y == n)=true
   ·have:y=n:=by simpa using e
    subst this;exact .inr aG
   ·have e':(y == n)=false:=by simpa using e
    dsimp only at h;rw [e'] at h;exact up (ih h)
  ·dsimp only at h;rw [if_neg hq] at h;by_cases e:(y == n)=true
   ·have:y=n:=by simpa using e
    subst this;dsimp only at h;rw [e] at h;have hkq:k=q:=by injection h with h;exact h.symm
    subst hkq;rcases hk with rfl | rfl
    ·exact .inl (hc _ aG rfl)
    ·exact .inr aG
   ·have e':(y == n)=false:=by simpa using e
    dsimp only at h;rw [e'] at h;exact up (ih h)
section
variable{X:Cx}{pins:List (Addr × Obj)}{σ:St}{H:Hp}{s:Shared}{scope:Scope}{x:Str}{N':List Str}{js:List Nat}{fp:List Addr}
theorem eJ.cells(S:eJ X scope x N' js)(ok:X.Ok):∀y∈scope.names,y.2=.free->∃c,X.env.cells.lookup y.1=some c:=λy hy hf=>ok.has _ (.inl (S.free y hy hf))
theorem eJ.cell(S:eJ X scope x N' js):∀z∈scope.names,z.2=.cell->z.1=x:=λz hz e=>by
 have:z∈scope.names.filter λy=>y.2 == .cell:=List.mem_filter.mpr ⟨hz,by rw [e];rfl⟩;rw [S.only] at this;rw [dC.mp this]
theorem gQ{y:Str}{C c:Addr}{cl:List (Str × Addr)}(h:((x,C)::cl).lookup y=some c):(y=x/\c=C)\/(y≠x/\cl.lookup y=some c):=by
 rw [List.lookup_cons] at h;by_cases e:(y == x)=true
 ·rw [e] at h;cases h;exact .inl ⟨by simpa using e,rfl⟩
 ·have e':(y == x)=false:=by simpa using e
  rw [e'] at h;exact .inr ⟨λz=>e (by simp [z]),h⟩
theorem tU{y:Str}{C c:Addr}{cl:List (Str × Addr)}(n:y≠x)(h:cl.lookup y=some c):((x,C)::cl).lookup y=some c:=by
 rw [List.lookup_cons,show (y == x)=false by simpa using n];exact h
theorem LW(S:eJ X scope x N' js)(I:bG X pins σ H s)(hf:∀b∈fp,fL X pins H b)(hb:∀b∈fp,b<s.heap.objs.size):(rF X scope x s.heap.objs.size fp s H N').Ok:=by
 have old:∀y c,(pB X scope).lookup y=some c->c<s.heap.objs.size:=λy c h=>by
  obtain ⟨v,o,e,_⟩:=I.cell y c (dR (S.cells I.ok) h);exact aN e
 exact {
  mod:=I.ok.mod
  kind:=S.kind
  glob:=I.ok.glob
  blt:=I.ok.blt
  above:=aC _
  inj:=λy z c h1 h2=>by
   rcases gQ h1 with ⟨a1,a2⟩ | ⟨a1,a2⟩ <;> rcases gQ h2 with ⟨b1,b2⟩ | ⟨b1,b2⟩
   ·rw [a1,b1]
   ·have:=old _ _ b2;rw [a2] at this;exact absurd (Nat.lt_of_succ_lt this) (bQ _)
   ·have:=old _ _ a2;rw [b2] at this;exact absurd (Nat.lt_of_succ_lt this) (bQ _)
   ·exact I.ok.inj y z c (dR (S.cells I.ok) a2) (dR (S.cells I.ok) b2)
  has:=λy hy=>by
   have hm:y=x\/(y,NameKind.free)∈scope.names:=by
    rcases hy with hy | hy
    ·exact fT (env:=X.env) hy (.inl rfl) S.cell
    ·exact fT (env:=X.env) hy (.inr rfl) S.cell
   by_cases q:y=x
   ·subst q;exact ⟨s.heap.objs.size+1,by show List.lookup y ((y,_)::_)=_;rw [List.lookup_cons,show (y == y)=true by simp]⟩
   ·have hm:=hm.resolve_left q;obtain ⟨c,hc⟩:=S.cells I.ok _ hm rfl;exact ⟨c,tU q (gP (S.cells I.ok) hm hc)⟩
  cab:=λy c hy h=>by
   rcases gQ h with ⟨_,a2⟩ | ⟨a1,_⟩
   ·rw [a2];exact Nat.le_succ _
   ·exact absurd (by simpa [rF] using hy) a1
  hd:=λ_=>I.ok.hd S.calm
  frames:=I.ok.frames
  stk:=.inl rfl
  exf:=λb hb'=>⟨λe=>by have:=hb b hb';rw [e] at this;exact bQ _ this,λy c h=>by
   rcases gQ h with ⟨_,a2⟩ | ⟨_,a2⟩
   ·intro e;have:=hb b hb';rw [<-e,a2] at this;exact absurd (Nat.lt_of_succ_lt this) (bQ _)
   ·exact (hf b hb').2.2.2.2.1 y c (dR (S.cells I.ok) a2)⟩
  bs:=I.bs
  bsz:=aU I.ok.bsz I.sz
  noex:=λb o e hb'=>by
   rcases (hf b hb').2.2.2.1 with h | h
   ·exact I.ok.noex b o e h
   ·exact absurd (aH (aN e) (aU I.ok.bsz h)) (bQ _)
  exfs:=λb hb' hs=>by
   have h2:=I.stkSub b hs;rcases aP.mp h2 with h2 | h2
   ·exact (hf b hb').2.1 h2
   ·exact (hf b hb').2.2.1 h2
  funs:=I.stack
  frf:=I.stkFree }
theorem GY{h':Heap}{tk:Nat}(S:eJ X scope x N' js)(I:bG X pins σ H s)(hf:∀b∈fp,fL X pins H b)(hb:∀b∈fp,b<s.heap.objs.size)
  (hn:h'.Ns s.heap.objs.size (λ_=>none)) (hk:∀b o,s.heap.get? b=some o->h'.get? b=some o) (hc0:h'.IsCell (s.heap.objs.size+1) none):bG (rF X scope x s.heap.objs.size fp s H N') [] (none::slots σ js) H { s with heap:=h',toks:=tk } where
 ok:=LW S I hf hb
 os:=rfl
 bare:=I.bare
 base:=Un.kept hk
 loc:=by
  refine ⟨_,hn,λi y v hi hv hvis=>?_⟩;cases i with
  | zero=>cases hv
  | succ i =>
   have hv':(slots σ js)[i]?=some (some v):=hv;have hlt:i<js.length:=by
    have:=(bL.mp hv').1;unfold slots at this
    rwa [aB] at this
   have hj:js[i]?=some js[i]:=aE hlt;obtain ⟨z,h1,h2,h3⟩:=S.slot i _ hj;have hzy:z=y:=by
    have:N'[i+1]?=some y:=hi;rw [h1] at this;cases this;rfl
   subst hzy;rw [pJ hj] at hv';have hσ:σ[js[i]]?=some (some v):=by
    cases q:σ[js[i]]? with
    | none=>rw [q] at hv';cases hv'
    | some o=>rw [q] at hv';cases hv';rfl
   have hkc:X.env.kindOf z=some .cell:=S.free _ h3 rfl;obtain ⟨m,hm,hl⟩:=I.loc;obtain ⟨u,ru,lk⟩:=hl _ z v h2 hσ (.inr (.inl hkc));rcases lk with ⟨hk1,_⟩ | ⟨_,c,hc,hcell⟩
   ·rw [hkc] at hk1;cases hk1
   ·have nzx:z≠x:=λq=>S.nofx (q ▸ h3);refine ⟨u,ru,.inr ⟨?_,c,tU nzx (gP (S.cells I.ok) h3 hc),?_⟩⟩
    ·rcases hvis with hvis | hvis | hvis
     ·exfalso;have hcl:=gP (S.cells I.ok) h3 hc;have hm2:=hG (l:=(relabel scope X.env).names) hvis;unfold relabel at hm2;obtain ⟨⟨n,k⟩,hmem,he⟩:=cP.mp hm2;dsimp only at he;by_cases hq:(k == NameKind.free&&X.env.scope.kind == .function&&X.env.kindOf n == some .cell)=true
      ·rw [if_pos hq] at he;cases he
      ·rw [if_neg hq] at he;cases he;have:=S.names _ hmem rfl;have l2:=gZ h3;obtain ⟨c',l2⟩:=l2;dsimp only at this;rw [this] at l2;have key:(relabel scope X.env).names.lookup z=some .local:=lookup_relabel_local this;have hck:scope.names.lookup z=some .local:=this;exact S.nofl z h3 hck
     ·exact .inl hvis
     ·exact .inr hvis
    ·obtain ⟨o,e,r⟩:=hcell;exact ⟨o,hk _ _ e,r⟩
 cell:=λy c h=>by
  rcases gQ h with ⟨_,a2⟩ | ⟨_,a2⟩
  ·rw [a2];exact ⟨none,hc0⟩
  ·obtain ⟨v,o,e,r⟩:=I.cell y c (dR (S.cells I.ok) a2);exact ⟨v,o,hk _ _ e,r⟩
 free:=I.hok.fresh (aC _)
 freeC:=λy c h=>by
  rcases gQ h with ⟨_,a2⟩ | ⟨_,a2⟩
  ·rw [a2];exact I.hok.fresh (Nat.le_succ _)
  ·exact I.freeC y c (dR (S.cells I.ok) a2)
 pin:=λp hp=>by cases hp
 hok:=I.hok.kept hk
 len:=by
  show (slots σ js).length+1=N'.length;unfold slots;rw [aB,S.len]
theorem DO{H2:Hp}{σ':St}{s2:Shared}{h'':Heap}(S:eJ X scope x N' js)(I:bG X pins σ H s)(hf:∀b∈fp,fL X pins H b)
  (J:bG (rF X scope x s.heap.objs.size fp s H N') [] σ' H2 s2) (hs:Heap.SameBut s.heap.objs.size s2.heap h''):bG X pins σ H2 { s2 with heap:=h'' }:=by
 have hC:H2 s.heap.objs.size=none:=J.free;have ne:∀{b:Addr} {o:Obj},s.heap.get? b=some o->b≠s.heap.objs.size:=λe q=>by
  have:=aN e;rw [q] at this;exact bQ _ this
 refine I.call' (s':={ s2 with heap:=h'' }) (ch:=fp) (by rw [show ({ s2 with heap:=h'' }:Shared).os=s2.os from rfl];exact J.os) ?_ (J.hok.but hC λb u hb q=>hs.extBut b u hb q) J.bare λb hb=>⟨(hf b hb).2.2.2.1,(hf b hb).2.1,(hf b hb).2.2.2.2.1,(hf b hb).2.2.2.2.2⟩;have U:=J.base;exact {
  keep:=λb o e n h1 h2=>hs.extBut b o (ne e) (U.keep b o e n h1 h2)
  slot:=λb o e n h1 h2=>by
   obtain ⟨sl,q⟩:=U.slot b o e n h1 h2;exact ⟨sl,hs.extBut b _ (ne e) q⟩
  free:=U.free
  there:=λb o e h2=>by
   obtain ⟨o',q⟩:=U.there b o e h2;exact ⟨o',hs.extBut b _ (ne e) q⟩
  tups:=U.tups
  frzs:=U.frzs
  tbls:=U.tbls }
end
section
variable{X:Cx}{pins:List (Addr × Obj)}{σ:St}{H:Hp}{s:Shared}{scope:Scope}{x:Str}{N':List Str}{js:List Nat}{fp:List Addr}{elt iter:Expr}{px pos:Pos}{ifs:List Expr}{tc:TT}{te:TE}
theorem tO{J:It}{it:Addr}{tn:Nat->Heap->Prop}{RR:Value->Addr->Result->Shared->Prop}{E:Value->Shared->Prop}{Q:VK}
  (S:eJ X scope x N' js) (I:bG X pins σ H s) (T:tZ X.prog X.w X.K (.Name x px) J fp it tn) (h0:tn 0 s.heap) (hf:∀b∈fp,fL X pins H b)
  (ht:∀C fp s₀ H₀,EH (rF X scope x C fp s₀ H₀ N') ifs tc) (he:∀C fp s₀ H₀,PE (rF X scope x C fp s₀ H₀ N') elt te)
  (R:∀D,H D=none->∃W:Nat->Nat->List V->Hp->Prop,(∃m,W 0 m [] (upd H D (.lst []))) /\
   ∀i m ys H2,W i m ys H2->H2 D=some (.lst ys)/\((J.stop i H2/\Q (.ref D) H2)\/(J.go i H2/\ys.length<sizeLine/\∀x H3,J.yld i H2 x H3 ->
    tc (some x::slots σ js) H3 λb H4=>if b=true then te (some x::slots σ js) H4 λy H5=>H5 D=some (.lst ys)/\∃m',m' < m/\W (i+1) m' (ys++[y]) (upd H5 D (.lst (ys++[y])))
     else H4 D=some (.lst ys)/\∃m',m' < m/\W (i+1) m' ys H4)))
  (hRR:∀(D:Addr) (H3:Hp) (s3:Shared) (σ':St) (H':Hp) (s':Shared),bG X pins σ H3 s3->(∀b∈fp,fL X pins H3 b)->bG (rF X scope x s3.heap.objs.size fp s3 H3 N') [] σ' H' s'->Q (.ref D) H'->RR (.ref D) s3.heap.objs.size (.ok .next) s') :
  wpAny (model X.prog X.w) X.A (newList []) (λacc s₃=>wpAny (model X.prog X.w) X.A (newFunctionEnv scope X.env.globals (pB X scope) [] X.env.qual none .none (some X.env)) (λcenv s₄ =>
   codeAny (model X.prog X.w) X.A (.compStart (.ListComp elt [⟨.Name x px,iter,ifs,0⟩] scope pos) 0 (.ref it) acc { cenv with scope:=relabel scope X.env }) (RR acc cenv.locals) s₄) E s₃) E s:=by
 have hb:∀b∈fp,b<s.heap.objs.size:=λb hb=>by
  obtain ⟨o,e,_⟩:=T.obj 0 _ h0 b hb;exact aN e
 refine wpAny_newObj_type (uW S.only ?_);have hDn:H s.heap.objs.size=none:=I.hok.fresh (aC _);obtain ⟨W,⟨m0,hw0⟩,hW⟩:=R _ hDn;have I3:bG X pins σ (upd H s.heap.objs.size (.lst [])) { s with heap:=s.heap.push { cls:=.type "list",dict:=none,data:=.seq ([]:List Value).toArray } }:=I.lnew (its:=[]) (ys:=[]) (t':=s.toks) .nil (cC _);have hf3:∀b∈fp,fL X pins (upd H s.heap.objs.size (.lst [])) b:=λb hb' =>
  ⟨by rw [bB (λe=>by have:=hb b hb';rw [e] at this;exact bQ _ this)];exact (hf b hb').1,(hf b hb').2⟩
 have hb3:∀b∈fp,b<(s.heap.push { cls:=.type "list",dict:=none,data:=.seq ([]:List Value).toArray }).objs.size:=λb hb'=>by
  rw [cY];exact Nat.lt_succ_of_lt (hb b hb')
 have hns₁:=(Heap.Ns.new (s.heap.push { cls:=.type "list",dict:=none,data:=.seq ([]:List Value).toArray }) (.type "dict")).keeps λb o e=>aA { cls:=.type "cell",data:=.cell none } e;have hcl₁:(((s.heap.push { cls:=.type "list",dict:=none,data:=.seq ([]:List Value).toArray }).push { cls:=.type "dict",data:=.dict #[] }).push { cls:=.type "cell",data:=.cell none }).IsCell ((s.heap.push { cls:=.type "list",dict:=none,data:=.seq ([]:List Value).toArray }).objs.size+1) none :=
  ⟨_,by rw [<-cY (s.heap.push { cls:=.type "list",dict:=none,data:=.seq ([]:List Value).toArray }) { cls:=.type "dict",data:=.dict #[] }];exact aK _ rfl,rfl⟩
 have hkp₁:∀b o,(s.heap.push { cls:=.type "list",dict:=none,data:=.seq ([]:List Value).toArray }).get? b=some o->(((s.heap.push { cls:=.type "list",dict:=none,data:=.seq ([]:List Value).toArray }).push { cls:=.type "dict",data:=.dict #[] }).push { cls:=.type "cell",data:=.cell none }).get? b=some o:=λb o e=>aA _ (aA _ e);show codeAny _ _ (.compStart _ 0 (.ref it) (.ref s.heap.objs.size) (compEnvC scope ((x,(s.heap.push { cls:=.type "list",dict:=none,data:=.seq ([]:List Value).toArray }).objs.size+1)::pB X scope) (s.heap.push { cls:=.type "list",dict:=none,data:=.seq ([]:List Value).toArray }).objs.size X.env)) _ { s with heap:=(((s.heap.push { cls:=.type "list",dict:=none,data:=.seq ([]:List Value).toArray }).push { cls:=.type "dict",data:=.dict #[] }).push { cls:=.type "cell",data:=.cell none }) };generalize ((s.heap.push { cls:=.type "list",dict:=none,data:=.seq ([]:List Value).toArray }).push { cls:=.type "dict",data:=.dict #[] }).push { cls:=.type "cell",data:=.cell none }=h₁ at hns₁ hcl₁ hkp₁ ⊢;have hkeep:∀b o,(s.heap.push { cls:=.type "list",dict:=none,data:=.seq ([]:List Value).toArray }).get? b=some o->h₁.get? b=some o:=hkp₁;have J4:=GY (h':=h₁) (tk:=s.toks) S I3 hf3 hb3 hns₁ hkeep hcl₁;have t4:tn 0 h₁:=T.keep 0 _ _ h0 λb hb' o e=>hkeep b o (aA _ e)
 have loop:codeAny (model X.prog X.w) X.A (.compLoop (.ListComp elt [⟨.Name x px,iter,ifs,0⟩] scope pos) 0 (.ref it) (.ref s.heap.objs.size) (compEnvC scope ((x,(s.heap.push { cls:=.type "list",dict:=none,data:=.seq ([]:List Value).toArray }).objs.size+1)::pB X scope) (s.heap.push { cls:=.type "list",dict:=none,data:=.seq ([]:List Value).toArray }).objs.size X.env))
   (RR (.ref s.heap.objs.size) (s.heap.push { cls:=.type "list",dict:=none,data:=.seq ([]:List Value).toArray }).objs.size) { s with heap:=h₁ }:=by
  refine kH (λn s'=>∃(i:Nat) (ys:List V) (H2:Hp) (o:Option V),bG (rF X scope x _ fp _ _ N') [] (o::slots σ js) H2 s'/\tn i s'.heap/\(∀b∈fp,H2 b=none)/\W i n ys H2) ?_ m0 ⟨0,[],_,none,J4,t4,λb hb'=>(hf3 b hb').1,hw0⟩;rintro n s' ⟨i,ys,H2,o,J2,t2,f2,w2⟩;obtain ⟨hD,hcase⟩:=hW i n ys H2 w2;have Fp:∀b∈fp,fL (rF X scope x (s.heap.push { cls:=.type "list",dict:=none,data:=.seq ([]:List Value).toArray }).objs.size fp { s with heap:=s.heap.push { cls:=.type "list",dict:=none,data:=.seq ([]:List Value).toArray } } (upd H s.heap.objs.size (.lst [])) N') [] H2 b:=λb hb' =>
   ⟨f2 b hb',(J2.ok.exf b hb').1,J2.ok.exfs b hb',.inl hb',(J2.ok.exf b hb').2,λp hp=>by cases hp⟩
  rcases hcase with ⟨hstop,hq⟩ | ⟨hgo,hz,hturn⟩
  ·refine wpAny_mono (T.done (rF X scope x _ fp _ _ N') rfl rfl rfl rfl i [] s' _ H2 EJ J2 Fp t2 hstop) (λr s1 ⟨hr,J5⟩=>?_) λ_ _ f=>f;subst hr;exact hRR _ _ _ _ _ _ I3 hf3 J5 hq
  ·refine wpAny_mono (T.item (rF X scope x _ fp _ _ N') rfl rfl rfl rfl i [] s' _ H2 EJ J2 Fp t2 hgo) (λr s1 ⟨u,hr,hx⟩=>?_) λ_ _ f=>f;subst hr;refine wpAny_mono hx (λ_ s2 ⟨v,H3,J3,rv,hy,t3,f3⟩=>?_) λ_ _ f=>f;have Fp3:∀b∈fp,fL (rF X scope x (s.heap.push { cls:=.type "list",dict:=none,data:=.seq ([]:List Value).toArray }).objs.size fp { s with heap:=s.heap.push { cls:=.type "list",dict:=none,data:=.seq ([]:List Value).toArray } } (upd H s.heap.objs.size (.lst [])) N') [] H3 b:=λb hb' =>
    ⟨f3 b hb',(J3.ok.exf b hb').1,J3.ok.exfs b hb',.inl hb',(J3.ok.exf b hb').2,λp hp=>by cases hp⟩
   have P3:=J3.pinned Fp3 (T.obj (i+1) _ t3);have keepT:∀{σ':St} {Hx:Hp} {sx:Shared},bG (rF X scope x (s.heap.push { cls:=.type "list",dict:=none,data:=.seq ([]:List Value).toArray }).objs.size fp { s with heap:=s.heap.push { cls:=.type "list",dict:=none,data:=.seq ([]:List Value).toArray } } (upd H s.heap.objs.size (.lst [])) N') ([]++lH fp s2.heap) σ' Hx sx->tn (i+1) sx.heap/\∀b∈fp,Hx b=none:=λJx =>
    ⟨T.keep (i+1) _ _ t3 λb hb' ob e=>(Jx.pin (b,ob) (aF _ (aF _ (fD hb' e)))).1,λb hb'=>by
     obtain ⟨ob,e,_⟩:=T.obj (i+1) _ t3 b hb';exact (Jx.pin (b,ob) (aF _ (aF _ (fD hb' e)))).2.1⟩
   refine wpAny_assign_Name (gF P3 (i:=0) (x:=x) (v:=v) ?nd ?hi ?hx rv (λs5 J5=>?_) ?hfn)
   case nd=>exact S.nd
   case hi=>exact S.zero
   case hx=>exact .inr (gU S.own)
   case hfn=>exact .inl (by simp [rF])
   have J5':bG _ _ (some v::slots σ js) H3 s5:=J5;refine wpAny_mono (ht _ _ _ _ _ _ _ _ _ J5' (hturn v H3 hy)) (λok s6 ⟨H6,J6,q6⟩=>?_) λ_ _ f=>f;dsimp only at q6;by_cases hok:ok=true
   ·rw [if_pos hok] at q6 ⊢;refine wpAny_mono (he _ _ _ _ _ _ _ _ _ J6 q6) (λy s7 ⟨w',H7,J7,r7,hD7,m',hm',w7⟩=>?_) λ_ _ f=>f;refine wpAny_mono (lJ (X:=rF X scope x _ fp _ _ N') _ _ _ _ (.ref s.heap.objs.size) [w'] (.ref s.heap.objs.size) [y] (λ_ H8=>H8=upd H7 s.heap.objs.size (.lst (ys++[w']))) J7 rfl (.cons r7 .nil) ⟨_,_,_,rfl,rfl,hD7,hz,rfl⟩) (λ_ s8 ⟨_,H8,J8,_,e8⟩=>?_) λ_ _ f=>f;subst e8;obtain ⟨k1,k2⟩:=keepT J8;exact ⟨m',hm',i+1,ys++[w'],_,some v,J8.unpinned,k1,k2,w7⟩
   ·rw [if_neg hok] at q6 ⊢;obtain ⟨_,m',hm',w7⟩:=q6;obtain ⟨k1,k2⟩:=keepT J6;exact ⟨m',hm',i+1,ys,_,some v,J6.unpinned,k1,k2,w7⟩
 refine codeAny_compStart_list loop (T.self X.A 0 _ _ _ t4 loop)
theorem CD{wi:TI}(S:eJ X scope x N' js)(hi:PI X (.Name x px) iter wi)(ht:∀C fp s₀ H₀,EH (rF X scope x C fp s₀ H₀ N') ifs tc)(he:∀C fp s₀ H₀,PE (rF X scope x C fp s₀ H₀ N') elt te)
  (hs:∀x,foldedSetIterable iter X.env x=pure x:=by intro _;rfl):PE X (.ListComp elt [⟨.Name x px,iter,ifs,0⟩] scope pos) (HV wi js tc te):=by
 intro pins s σ H Q I h;rw [eval_ListComp];refine wpAny_comprehension_free (use:=none) rfl hs (iY (S.cells I.ok)) S.kind S.names (wpAny_mono (hi pins s σ H _ I h) (λv s1 h1=>?_) λ_ _ e=>e);refine wpAny_mono h1 (λitv s2 ⟨it,fp,tn,J,H2,e,I2,T,t0,hf,R⟩=>?_) λ_ _ e=>e;subst e;refine tO S I2 T t0 hf ht he R ?_;intro D H3 s3 σ' H' s' I3 hf3 J3 q;obtain ⟨m,hm,_⟩:=J3.loc;exact ⟨m,hm,λh' hs'=>⟨.ref D,H',DO S I3 hf3 J3 hs',rfl,q⟩⟩
theorem AX{wi:TI}(S:eJ X scope x N' js)(hi:EI X (.Name x px) iter wi)(ht:∀C fp s₀ H₀,HI (rF X scope x C fp s₀ H₀ N') ifs tc)(he:∀C fp s₀ H₀,eU (rF X scope x C fp s₀ H₀ N') elt te)
  (hs:∀x,foldedSetIterable iter X.env x=pure x:=by intro _;rfl):eU X (.ListComp elt [⟨.Name x px,iter,ifs,0⟩] scope pos) (qK wi js tc te) :=
 ⟨by unfold qK fV;exact CD S hi.p (λC fp s₀ H₀=>(ht C fp s₀ H₀).p.mono) (λC fp s₀ H₀=>(he C fp s₀ H₀).p.mono) hs⟩
end
def IM(psc scope:Scope)(N:List Str)(x:Str)(N':List Str)(js:List Nat):Bool :=
 (scope.names.all λy=>!(y.2 == .free) || psc.names.lookup y.1 == some .cell)&&(scope.names.filter λy=>y.2 == .cell) == [(x,NameKind.cell)]&&scope.kind == .function &&
 (scope.names.all λy=>!(y.2 == .local) || scope.names.lookup y.1 == some .local)&&scope.names.lookup x == some .cell &&
 (scope.names.all λy=>!(y.2 == .free) || (!(scope.names.lookup y.1 == some .local) && !(y.1 == x)))&&N'.length == js.length+1&&N'[0]? == some x&&decide N'.Nodup &&
 ((List.range js.length).all λi=>match js[i]?,N'[i+1]? with
  | some j,some y=>N[j]? == some y&&scope.names.contains (y,NameKind.free)
  | _,_=>false)
theorem eJ.of{X:Cx}{psc scope:Scope}{N:List Str}{x:Str}{N':List Str}{js:List Nat}(h:IM psc scope N x N' js=true)(hX:X.env.scope=psc)(hN:X.N=N)(hc:X.calm=true):eJ X scope x N' js:=by
 unfold IM at h;simp only [bJ] at h;obtain ⟨⟨⟨⟨⟨⟨⟨⟨⟨h1,h2⟩,h3⟩,h4⟩,h5⟩,h6⟩,h7⟩,h8⟩,h9⟩,h10⟩:=h;rw [List.all_eq_true] at h1 h4 h6 h10;refine ⟨hc,λy hy e=>?_,by simpa using h2,by simpa using h3,λy hy e=>?_,by simpa using h5,λy hy e=>?_,λhy=>?_,by simpa using h7,by simpa using h8,of_decide_eq_true h9,λi j hj=>?_⟩
 ·have:=h1 y hy;rw [e] at this;show X.env.scope.names.lookup y.1=_;rw [hX];simpa using this
 ·have:=h4 y hy;rw [e] at this;simpa using this
 ·have:=h6 _ hy;simp [e] at this
 ·have:=h6 _ hy;simp at this
 ·have hi:i<js.length:=(bL.mp hj).1;have:=h10 i (eM.mpr hi);rw [hj] at this;cases q:N'[i+1]? with
  | none=>rw [q] at this;simp at this
  | some y =>
   rw [q] at this;simp only [bJ] at this;exact ⟨y,rfl,by rw [hN];simpa using this.1,List.contains_iff_mem.mp this.2⟩
end L2
namespace Kw
open PySem L2 Mf
structure jH(d:PyData):Prop where
 sh:d.showable=true
 nd:d.hasDict=false
 dp:d.depth<=60
 ln:d.shown.length<=sizeLine
theorem GT{f:Fr}(h:MJ 1062 f):PyData.showable (xO f)=true:=by
 show (PyData.showable (.int f.1)&&(PyData.showable (.int f.2)&&true))=true;rw [mW h.1,mW h.2];rfl
theorem JR{H:Hp}{Q:VK}{x:V}{d:PyData}(r:cK H d x)(h:jH d)(q:Q (.str d.shown) H):sK [x] H Q:=SO r h.sh h.nd h.dp h.ln q
@[irreducible] def iP(K:PySem.W.Frag)(tA:Addr):Sp:=λvs H Q _=>∃(a:Addr) (ns:List Int),vs=[.ref a]/\fA K H a (ns.map V.int)/\ns.length<=63/\eC H tA vA vB/\∀H',Q (.bl true) H'
theorem ER{X:Cx}{tg l:Expr}{tl:TE}(K:PySem.W.Frag)(hl:eU X l tl)(h:X.K=K:=by rfl):EI X tg l (LO K tl):=by subst h;exact nJ hl
theorem nC{a b:Nat}:decide (V.int (a:Int)=V.int (b:Int))=decide (a=b):=decide_eq_decide.mpr ⟨λh=>by injection h with h;omega,λh=>by rw [h]⟩
structure uA(H:Hp)(tA p L tr:Addr)(v0 v1:V)(fs0 fs1:List Str)(ws0 ws1:List (Str × List Fr)):Prop where
 F:bZ H p L
 T:eC H tA vA vB
 l:H tr=some (.lst [v0,v1])
 r0:cK H (uD fs0 ws0) v0
 r1:cK H (uD fs1 ws1) v1
theorem uA.same{H H':Hp}{tA p L tr:Addr}{v0 v1:V}{fs0 fs1:List Str}{ws0 ws1:List (Str × List Fr)}(h:uA H tA p L tr v0 v1 fs0 fs1 ws0 ws1)(s:aW H H'):uA H' tA p L tr v0 v1 fs0 fs1 ws0 ws1:=⟨h.F.same s,h.T.same s,s _ _ h.l,h.r0.same s,h.r1.same s⟩
theorem eC.butL{H H':Hp}{l P:Addr}{q:Str}{pos:Pos}{xs:List V}(b:aR l H H')(hl:H l=some (.lst xs))(t:eC H P q pos):eC H' P q pos:=⟨t.ex.elim (λh=>.inl (b.at (λz=>by rw [z,hl] at h;cases h) h)) λ⟨c',h1,h2⟩=>.inr ⟨c',b.at (λz=>by rw [z,hl] at h1;cases h1) h1,b.at (λz=>by rw [z,hl] at h2;unfold iM at h2;cases h2) h2⟩⟩
theorem uA.feed{H H':Hp}{tA p L tr:Addr}{v0 v1:V}{fs0 fs1:List Str}{ws0 ws1:List (Str × List Fr)}(h:uA H tA p L tr v0 v1 fs0 fs1 ws0 ws1)(n:tr≠p)(s:aR p H H')(F:bZ H' p L):uA H' tA p L tr v0 v1 fs0 fs1 ws0 ws1:=by
 obtain ⟨xs,hx⟩:=h.F.lst;have t:=s.t hx;exact ⟨F,eC.butL s hx h.T,s.at n h.l,h.r0.flat t (eW _ _),h.r1.flat t (eW _ _)⟩
theorem uA.tab{H H':Hp}{tA p L tr:Addr}{v0 v1:V}{fs0 fs1:List Str}{ws0 ws1:List (Str × List Fr)}(h:uA H tA p L tr v0 v1 fs0 fs1 ws0 ws1)(s:aR tA H H')(T:eC H' tA vA vB):uA H' tA p L tr v0 v1 fs0 fs1 ws0 ws1:=by
 obtain ⟨ps,hps⟩:=h.T.at_;have t:fC H H':=λa xs ha=>s.at (λz=>by rw [z,hps] at ha;cases ha) ha;have ll:∀q xs,H q=some (.lst xs)->H' q=some (.lst xs):=λq xs hq=>s.at (λz=>by rw [z,hps] at hq;cases hq) hq;refine ⟨?_,T,ll _ _ h.l,h.r0.flat t (eW _ _),h.r1.flat t (eW _ _)⟩;obtain ⟨ns,i,r,k,h1,h2,h3⟩:=h.F.ex;exact ⟨ns,i,r,k,ll _ _ h1,ll _ _ h2,h3⟩
theorem uA.list{H H':Hp}{tA p L tr A:Addr}{v0 v1:V}{fs0 fs1:List Str}{ws0 ws1:List (Str × List Fr)}{xs:List V}(h:uA H tA p L tr v0 v1 fs0 fs1 ws0 ws1)(b:aR A H H')(ha:H A=some (.lst xs))(n1:A≠p)(n2:A≠L)(n3:A≠tr):uA H' tA p L tr v0 v1 fs0 fs1 ws0 ws1:=by
 have t:=b.t ha;exact ⟨h.F.but b n1 n2,eC.butL b ha h.T,b.at n3.symm h.l,h.r0.flat t (eW _ _),h.r1.flat t (eW _ _)⟩
theorem rV{q:Nat}:∀{l:List Nat},(∀x∈l,x<=q)->l.sum<=l.length*q
 | [],_=>cC _
 | x::l,h=>by
  have:=rV λy hy=>h y (aD _ hy);have:=h x (aG ..);rw [List.sum_cons,bI,Nat.add_mul,Nat.one_mul];omega
theorem GH{l:List V}(h:∀y∈l,y=V.bl true):OR (V.bl false) l=false:=by
 induction l with
 | nil=>rfl
 | cons a l ih =>
  have e:=h a (aG ..);subst e;show (GW (V.bl true) (V.bl false) || OR (V.bl false) l)=false;rw [ih λy hy=>h y (aD _ hy)];rfl
theorem GV{F k:Nat}(h1:2<=F)(h2:F<5)(h3:k<7){c:List Nat}(hc:c∈cN F k):gS (dB (gN F k)) (kT (ci c))=some (V.int ((mN c:Nat):Int)):=by
 rw [jN,lO h1 h2 h3];have key:mM ((cN F k).map λc=>(c,mN c)) c=some (mN c):=by
  generalize cN F k=l at hc
  induction l with
  | nil=>cases hc
  | cons d l ih =>
   by_cases e:d=c
   ·subst e;simp [mM,List.find?_cons]
   ·have:c∈l:=by
     rcases aP.mp hc with h | h
     ·exact absurd h.symm e
     ·exact h
    have:=ih this;simp only [mM,bA,List.find?_cons,bE e] at this ⊢;exact this
 rw [key];rfl
theorem DE{K:PySem.W.Frag}{H:Hp}{f:Fr}{x:V}(h:nH K H f x):jI K H (xO f) x:=by
 obtain ⟨a,rfl,h⟩:=h;exact jI.tup h (fM.ints [f.1,f.2])
theorem DD{f:Fr}(h:MJ 1062 f):jH (xO f):=by
 have h1:=GT h;refine ⟨h1,rfl,?_,aU (jT _ h1 rfl) ?_⟩
 ·simp [PyData.depth,PyData.depthAll]
 ·show 3850<=sizeLine
  decide
theorem ET{fs:List Fr}(hl:∀f∈fs,fB f){r:List Nat}(h:∀x∈r,x<fs.length):iZ (fs.zip (cnt fs.length r))=uF fs r:=by
 rw [IX hl (by rw [iR]),JG hl r h,FS (rR fs) r h,xV r h]
theorem CZ{n:Nat}(h:n<2^1000):jH (.int (n:Int)):=by
 have h1:PyData.showable (.int (n:Int))=true:=mW (n:=1000) (by rw [Int.natAbs_natCast];exact h);exact ⟨h1,rfl,by simp [PyData.depth],aU (jT _ h1 rfl) (by show 1921<=sizeLine;decide)⟩
theorem zW{cs:List (List Nat)}(hl:cs.length<=400)(h:∀c∈cs,c.length<=4/\c.sum<=5):jH (.list (cs.map gR)):=by
 have key:∀cs:List (List Nat),(∀c∈cs,c.length<=4/\c.sum<=5)->PyData.showableAll (cs.map gR)=true/\PyData.hasDictAll (cs.map gR)=false/\PyData.depthAll (cs.map gR)<=3/\mO (cs.map gR)<=cs.length*7698:=λcs=>by
  induction cs with
  | nil=>exact λ_=>⟨rfl,rfl,Dd,cC _⟩
  | cons c cs ih =>
   intro hc;obtain ⟨i1,i2,i3,i4⟩:=ih λd hd=>hc d (aD _ hd);obtain ⟨c1,c2⟩:=hc c (aG ..);have one:∀c:List Nat,c.sum<=5->PyData.showableAll (c.map λ(n:Nat)=>PyData.int (n:Int))=true/\PyData.hasDictAll (c.map λ(n:Nat)=>PyData.int (n:Int))=false/\PyData.depthAll (c.map λ(n:Nat)=>PyData.int (n:Int))<=1/\mO (c.map λ(n:Nat)=>PyData.int (n:Int))=c.length*1923:=λc=>by
    induction c with
    | nil=>exact λ_=>⟨rfl,rfl,Dd,rfl⟩
    | cons n c ih =>
     intro hs;rw [List.sum_cons] at hs;obtain ⟨i1,i2,i3,i4⟩:=ih Oo;refine ⟨?_,?_,?_,?_⟩
     ·show (PyData.showable (.int (n:Int))&&PyData.showableAll (c.map λ(n:Nat)=>PyData.int (n:Int)))=true;rw [i1,mW (n:=1000) (by rw [Int.natAbs_natCast];exact aV (m:=5) Oo Dd)];rfl
     ·show (false || PyData.hasDictAll (c.map λ(n:Nat)=>PyData.int (n:Int)))=false;rw [i2];rfl
     ·show max (PyData.depth (.int (n:Int))) (PyData.depthAll (c.map λ(n:Nat)=>PyData.int (n:Int)))<=1;have:PyData.depth (.int (n:Int))<=1:=by simp [PyData.depth]
      omega
     ·show 1921+2+mO (c.map λ(n:Nat)=>PyData.int (n:Int))=(c.length+1)*1923;rw [i4];omega
   obtain ⟨o1,o2,o3,o4⟩:=one c c2;refine ⟨?_,?_,?_,?_⟩
   ·show (PyData.showableAll (c.map λ(n:Nat)=>PyData.int (n:Int))&&PyData.showableAll (cs.map gR))=true;rw [o1,i1];rfl
   ·show (PyData.hasDictAll (c.map λ(n:Nat)=>PyData.int (n:Int)) || PyData.hasDictAll (cs.map gR))=false;rw [o2,i2];rfl
   ·show max (PyData.depthAll (c.map λ(n:Nat)=>PyData.int (n:Int))+1) (PyData.depthAll (cs.map gR))<=3;omega
   ·show mO (c.map λ(n:Nat)=>PyData.int (n:Int))+4+2+mO (cs.map gR)<=(cs.length+1)*7698;rw [o4];have:=Nat.mul_le_mul_right 1923 c1;omega
 obtain ⟨k1,k2,k3,k4⟩:=key cs h;refine ⟨k1,k2,?_,aU (jT _ k1 k2) ?_⟩
 ·show PyData.depthAll (cs.map gR)+1<=60;omega
 ·show mO (cs.map gR)+4<=sizeLine;have:=Nat.mul_le_mul_right 7698 hl;exact aU (show _<=400*7698+4 by omega) Dd
section
theorem RB{f tA:Addr}{fd:FuncData}(F:iW K "law" "law" sG f fd)(T:pC K mg c)
  (FQ1:kO eI P w K mg base 1 "_law_feed" ["_law_script"] (jQ K)) (FQ0:kO eI P w K mg base 1 "_law_draw" ["_law_feed_here","_law_many_here"] gT) (FQ8:kO eI P w K mg base 3 "_law_trial" ["_law_feed_here"] iD)
  (FQ5:kO eI P w K mg base 2 "_law_product" ["_law_trial_here","_law_way","_law_row"] iF) (FQ15:kO eI P w K mg base 3 "share_of" ["trial","way","row"] (jO K)) (FQ18:kO eI P w K mg base 3 "weight" ["trial","way","counts"] (gG K))
  (FQ4:kO eI P w K mg base 1 "_law_met" ["_law_faces","_law_most"] jP) (FQ9:kO eI P w K mg base 6 "all_counts" ["faces","most"] jR) (FQ6:kO eI P w K mg base 8 "_law_rising" ["_law_some"] (fQ tA))
  (FQ14:kO eI P w K mg base 1 "rows_to" ["counts"] gJ) (FQ3:kO eI P w K mg base 1 "_law_many" ["_law_counts"] iG) :
  dW P w K mg base eI 9 f fd ["_law_script"] (iP K tA):=by
 refine F.oky iV λvs H Q E h=>?_;unfold iP at h;obtain ⟨a,ns,rfl,hS,hl,TO,k⟩:=h;refine ⟨rfl,λcdv A outer s hr=>?_⟩;refine ⟨_,(aM (bH (i:=1) iV.nd rfl (Or.inr rfl) (cR FQ1 (hr.mono Dd) (aT (aO 0) aL)))
  (aM (bH (i:=2) iV.nd rfl (Or.inl rfl) (fR (aT (cR FQ8 (hr.mono Dd) (aT (aO 1) aL)) (aT (cR FQ8 (hr.mono Dd) (aT (aO 1) aL)) aL))))
  (aM (bH (i:=3) iV.nd rfl (Or.inl rfl) (bV bK (fR (aT aJ (aT aJ aL))) (jK AD (by rfl) T.b_int Kk (aT (AY sQ (cR FQ0 (hr.mono Dd) (aT (aO 1) (aT aJ aL))) aJ (nomark _)) aL)) (λ_ _=>rfl)))
  (aM (dY PassesOwn.never rfl (dE rfl T.b_range (aT aJ aL)) (cU (i:=4) iV.nd rfl (Or.inl rfl)) (aM (bH (i:=5) iV.nd rfl (Or.inl rfl) (bV bK (aO 2) (bT fU (aO 4) aJ) (λ_ _=>rfl)))
  (aM (bH (i:=6) iV.nd rfl (Or.inr rfl) (dZ lV (by rfl) T.b_len Kk (aT (bV bK (aO 5) aJ (λ_ _=>rfl)) aL)))
  (aM (bH (i:=7) iV.nd rfl (Or.inr rfl) (jK dS (by rfl) T.b_tuple Kk (aT (fO (dP.of (psc:=aZ sG) (N:=["_law_script","_law_feed_here","_law_trials","_law_long","_law_k","_law_trial_here","_law_faces","_law_row","_law_counts","_law_way","_law_due","_law_most","_law_met_here","_law_turn","_law_some"]) (N':=["_law_j","_law_feed_here","_law_faces"]) (js:=[1,6]) Kk rfl rfl rfl) (dE rfl T.b_range (aT (cR FQ0 (hr.mono Dd) (aT (aO 1) (aT (aO 3) aL))) aL)) (λ_ _ _ _=>fN) (λ_ _ _ _=>(cR FQ0 (hr.mono Dd) (aT (aO 1) (aT (aO 2) aL))))) aL)))
  (aM (bH (i:=8) iV.nd rfl (Or.inl rfl) (jK dS (by rfl) T.b_tuple Kk (aT (AX (eJ.of (psc:=aZ sG) (N:=["_law_script","_law_feed_here","_law_trials","_law_long","_law_k","_law_trial_here","_law_faces","_law_row","_law_counts","_law_way","_law_due","_law_most","_law_met_here","_law_turn","_law_some"]) (N':=["_law_face","_law_row"]) (js:=[7]) Kk rfl rfl rfl) (dE rfl T.b_range (aT (aO 6) aL)) (λ_ _ _ _=>fN) (λ_ _ _ _=>(dZ (xZ K) (by rfl) T.b_len Kk (aT (fO (dP.of (N:=["_law_face","_law_row"]) (N':=["_law_one","_law_face"]) (js:=[0]) (by kernel_rfl) rfl rfl rfl) (ER K (aO 1)) (λ_ _ _ _=>EO (eV sQ (aO 0) (aO 1) (nomark _))) (λ_ _ _ _=>(aO 0))) aL)))) aL)))
  (aM (dY PassesOwn.never rfl (dE rfl T.b_range (aT (dZ lV (by rfl) T.b_len Kk (aT (bV bK (aO 5) aJ (λ_ _=>rfl)) aL)) aL)) (cU (i:=9) iV.nd rfl (Or.inl rfl)) (aM (bH (i:=10) iV.nd rfl (Or.inl rfl) (dZ (hV hr.gd hr.units) (by rfl) T.b_repr Kk (aT (cR FQ5 (hr.mono Dd) (aT (aO 5) (aT (aO 9) (aT (aO 7) aL)))) aL)))
  (bF (mD (IT (HM (eV pL (dZ (tS K hr.gd hr.units) (by rfl) T.b_repr Kk (aT (cR FQ15 (hr.mono Dd) (aT (aO 5) (aT (aO 9) (aT (aO 7) aL)))) aL)) (aO 10) (nomark _)) (AQ (eV pL (dZ (tS K hr.gd hr.units) (by rfl) T.b_repr Kk (aT (cR FQ18 (hr.mono Dd) (aT (aO 5) (aT (aO 9) (aT (aO 8) aL)))) aL)) (aO 10) (nomark _))))) (bF (cX pF)) fX))))
  (aM (bH (i:=11) iV.nd rfl (Or.inl rfl) (cR FQ0 (hr.mono Dd) (aT (aO 1) (aT aJ aL))))
  (aM (bH (i:=12) iV.nd rfl (Or.inr rfl) (cR FQ4 (hr.mono Dd) (aT (aO 6) (aT (aO 11) aL))))
  (aM (dY PassesOwn.never rfl (dE rfl T.b_range (aT aJ aL)) (cU (i:=13) iV.nd rfl (Or.inl rfl)) (aM (bH (i:=14) iV.nd rfl (Or.inl rfl) (cR FQ9 (hr.mono Dd) (aT (aO 6) (aT (aO 11) aL))))
  (aM (mD (IT (HM (IV (IU (dZ MA (by rfl) T.b_isinstance Kk (aT (aO 14) (aT (EX (v:=.ty "list") (u:=.type "list") rfl T.b_list Kk rfl) aL))))) (AQ (eV pL (dZ (hV hr.gd hr.units) (by rfl) T.b_repr Kk (aT (aO 14) aL)) (dZ (hV hr.gd hr.units) (by rfl) T.b_repr Kk (aT (cR FQ6 (hr.mono Dd) (aT (jK (DS rfl) (by rfl) T.b_list Kk (aT (aO 12) aL)) aL)) aL)) (nomark _))))) (bF (cX pF)) fX)
  (bF (mT (vY PySem.F.plainAttrs_list PySem.F.slot_list_append PySem.F.type_list_append KY (aO 14) (aT (fI aL) aL)))))))
  (aM (bH (i:=14) iV.nd rfl (Or.inl rfl) (jK dS (by rfl) T.b_tuple Kk (aT (fO (dP.of (psc:=aZ sG) (N:=["_law_script","_law_feed_here","_law_trials","_law_long","_law_k","_law_trial_here","_law_faces","_law_row","_law_counts","_law_way","_law_due","_law_most","_law_met_here","_law_turn","_law_some"]) (N':=["_law_face","_law_feed_here","_law_faces"]) (js:=[1,6]) Kk rfl rfl rfl) (dE rfl T.b_range (aT (aO 6) aL)) (λ_ _ _ _=>fN) (λ_ _ _ _=>(cR FQ0 (hr.mono Dd) (aT (aO 1) (aT (bT dU aJ (bT eP aJ (aO 2))) aL))))) aL)))
  (aM (mD (eV pL (dZ (hV hr.gd hr.units) (by rfl) T.b_repr Kk (aT (cR FQ14 (hr.mono Dd) (aT (aO 14) aL)) aL)) (dZ (hV hr.gd hr.units) (by rfl) T.b_repr Kk (aT (cR FQ3 (hr.mono Dd) (aT (aO 14) aL)) aL)) (nomark _)) (bF (cX pF)) fX)
  (bF (mD (eV zG pF (fO (dP.of (psc:=aZ sG) (N:=["_law_script","_law_feed_here","_law_trials","_law_long","_law_k","_law_trial_here","_law_faces","_law_row","_law_counts","_law_way","_law_due","_law_most","_law_met_here","_law_turn","_law_some"]) (N':=["_law_one","_law_met_here"]) (js:=[12]) Kk rfl rfl rfl) (rS (aO 12)) (λ_ _ _ _=>fN) (λ_ _ _ _=>(AY sQ (dZ (hV hr.gd hr.units) (by rfl) T.b_repr Kk (aT (cR FQ14 (hr.mono Dd) (aT (aO 0) aL)) aL)) (dZ (hV hr.gd hr.units) (by rfl) T.b_repr Kk (aT (vX hr.u1 (aO 1) (aO 0)) aL)) (nomark _)))) (by with_unfolding_all rfl)) (bF (cX pF)) fX)))))))))))))
  (bF (cX pF)))))),?_⟩
 refine ⟨_,rfl,?_⟩;refine yR hS hl λp L H1 F1 s1 n1 nL1=>?_;refine ⟨_,rfl,?_⟩;refine nR F1 λv0 t0 o0 cF0 cW0 fs0 ws0 H2 F2 s2 rv0 ok0=>?_;refine ⟨_,rfl,?_⟩;refine nR F2 λv1 t1 o1 cF1 cW1 fs1 ws1 H3 F3 s3 rv1 ok1=>?_;refine CJ (by show 2<=64;decide) λtr H4 htr e4 s4=>?_;have Z4:uA H4 tA p L tr v0 v1 fs0 fs1 ws0 ws1:=by
  obtain ⟨xs1,hx1⟩:=F1.lst;obtain ⟨xs2,hx2⟩:=F2.lst;exact ⟨F3.same s4,(eC.butL s3 hx2 (eC.butL s2 hx1 (TO.same s1))).same s4,e4,(rv0.flat (s3.t hx2) (eW _ _)).same s4,rv1.same s4⟩
 have ntp:tr≠p:=F3.ne htr;clear s4 e4 rv1 s3 F3 rv0 s2 F2 F1 s1 n1 nL1 hS TO;refine CJ (by show 2<=64;decide) λq5 H5 hq5 e5 s5=>?_;refine ⟨_,rfl,?_⟩;refine cV (Z4.F.same s5) Dd Kk λx H6 x0 x1 F6 s6=>?_;have Z6:=(Z4.same s5).feed ntp s6 F6;have nqp:q5≠p:=Z4.F.ne hq5;refine ⟨rfl,.inr ⟨_,rfl,?_⟩⟩;obtain ⟨Lg,hLg,hat⟩:∃Lg:Nat,(Lg=9\/Lg=61)/\uH [V.int 9,V.int 61] (if decide (V.int x=V.int 5)=true then 1 else 0)=some (.int (Lg:Int)):=by
  by_cases e:V.int x=V.int 5
  ·exact ⟨61,.inr rfl,by rw [bN e];rfl⟩
  ·exact ⟨9,.inl rfl,by rw [bE e];rfl⟩
 refine lM (s6.at nqp e5) hat ?_;clear s6 F6 e5 s5 hq5 hat Z4 htr;refine ⟨_,rfl,Dd,Dd,?_⟩;refine dL (λi σ H'=>∃o4 o5 o6 o7 o8 o9 o10 o11 o12 o13 o14:Option V,σ=[some (.ref a),some (.ref p),some (.ref tr),some (.int (Lg:Int)),o4,o5,o6,o7,o8,o9,o10,o11,o12,o13,o14]/\uA H' tA p L tr v0 v1 fs0 fs1 ws0 ws1) ⟨_,_,_,_,_,_,_,_,_,_,_,rfl,Z6⟩ ?_ ?_
 ·clear Z6;rintro i σ H1 hi ⟨o4,o5,o6,o7,o8,o9,o10,o11,o12,o13,o14,rfl,Z1⟩;obtain ⟨v,fs,ws,tt,oo,cF,cW,hv,rv,ok,kp⟩:∃(v:V) (fs:List Str) (ws:List (Str × List Fr)) (tt oo cF cW:Nat),uH [v0,v1] ((0+(i:Int)) % 2)=some v/\cK H1 (uD fs ws) v/\vP tt oo cF cW fs ws/\∀H',uA H' tA p L tr v0 v1 fs0 fs1 ws0 ws1->cK H' (uD fs ws) v:=by
   rcases (show (0+(i:Int)) % 2=0\/(0+(i:Int)) % 2=1 by omega) with e | e
   ·exact ⟨v0,fs0,ws0,_,_,_,_,by rw [e];rfl,Z1.r0,ok0,λH' z=>z.r0⟩
   ·exact ⟨v1,fs1,ws1,_,_,_,_,by rw [e];rfl,Z1.r1,ok1,λH' z=>z.r1⟩
  have lF:=ok.lenF;have lW:=ok.lenW;subst lF lW;have hF:=ok.hF;have hW:=ok.hW;obtain ⟨av,af,aw,xf,xw,rfl,ha,hf,hw,rf,rw'⟩:=wB rv;have lxf:=dF rf;refine ⟨_,rfl,_,rfl,_,_,rfl,rfl,(show (0:Int)<2 by decide),?_⟩;refine lM Z1.l hv ?_;refine ⟨_,rfl,?_⟩;refine tD ha rfl ?_;refine SH hf ?_;rw [lxf];refine ⟨_,rfl,_,rfl,?_⟩;refine cV Z1.F (by rcases hLg with h | h <;> subst h <;> decide) (by rcases hLg with h | h <;> subst h <;> decide +kernel) λy H2 y0 y1 F2 s2=>?_;obtain ⟨n,rfl⟩:=nZ y0;have hn:n<=60:=Oo;have Z2:=Z1.feed ntp s2 F2;refine ⟨_,rfl,Oo,Oo,?_⟩;rw [Int.toNat_natCast];refine oO (bZ.like p L) F2 (λ_ y _=>∃x:Nat,y=V.int (x:Int)/\x<fs.length) (λ_ _ _ _ _ h=>h) Oo (λj H' Q' hj F' s' k'=>?_) (λD ys H3 hD e3 F3 s3 hy hr3=>?_)
  ·refine ⟨_,rfl,_,rfl,?_⟩;refine cV F' Oo (by rcases hF with h | h | h <;> rw [h] <;> decide +kernel) λx H4 x0 x1 F4 s4=>?_;obtain ⟨m,rfl⟩:=nZ x0;exact k' _ H4 F4 s4 ⟨m,rfl,Oo⟩
  ·have Z3:=Z2.feed ntp s3 F3;obtain ⟨r,ey,lr,hrr⟩:∃r:List Nat,ys=r.map kI/\r.length=n/\∀x∈r,x<fs.length:=by
    have all:∀zs:List V,(∀z∈zs,∃x:Nat,z=V.int (x:Int)/\x<fs.length)->∃r:List Nat,zs=r.map kI/\r.length=zs.length/\∀x∈r,x<fs.length:=λzs=>by
     induction zs with
     | nil=>exact λ_=>⟨[],rfl,rfl,λx hx=>by cases hx⟩
     | cons z zs ih =>
      intro h;obtain ⟨x,rfl,hx⟩:=h z (aG ..);obtain ⟨r,e,l,h2⟩:=ih λy hy=>h y (aD _ hy);refine ⟨x::r,by rw [e];rfl,by rw [bI,bI,l],λy hy=>?_⟩;rcases aP.mp hy with rfl | hy
      ·exact hx
      ·exact h2 y hy
    obtain ⟨r,e,l,h⟩:=all ys λz hz=>by
     obtain ⟨j,hj⟩:=dQ.mp hz;exact hr3 j z hj
    exact ⟨r,e,Oo,h⟩
   subst ey;clear hr3 hy;refine ⟨D,_,rfl,.inl ⟨fA.of e3,λl7 hl7=>?_⟩⟩;have s7:aW H3 (upd H3 l7 (.tup (r.map kI))):=aW.upd hl7;have e7:upd H3 l7 (.tup (r.map kI)) l7=some (.tup (r.map kI)):=aX;generalize upd H3 l7 (.tup (r.map kI))=H7 at s7 e7;have Z7:=Z3.same s7;clear Z3 s7 e3 F3 s3 hD Z2 s2 F2 hl7;have l4:fs.length<=4:=Oo;refine ⟨_,rfl,_,rfl,Oo,Oo,?_⟩;rw [Int.toNat_natCast];refine zY (λj y _=>y=kI (r.count j)) (λ_ _ _ _ _ h=>h) Oo (λj H' Q' hj s' k'=>?_) (λD2 ys2 H8 hD2 e8 s8 hy8 hr8=>?_)
   ·have e7':=s' _ _ e7;refine ⟨_,rfl,l7,rfl,⟨_,eT.of e7'⟩,?_⟩;refine AA (as:=r) (g:=λ(n:Nat)=>PyData.int (n:Int)) (λm=>decide (m=j)) Oo (λi H1 s1 hi=>⟨⟨r.map kI,(r.map kI)[i]'(by rw [aB];exact hi),eT.of (s1 _ _ e7'),aE _⟩,λx H3 y=>⟨y.1,?_⟩⟩) (λH1 s1=>⟨r.map kI,eT.of (s1 _ _ e7'),by rw [aB];exact aC _⟩) (λx m H1 Q1 hm rx s1 k1=>?_) (λx H1 Q1 q=>⟨_,rfl,q⟩) (λD3 ys3 H9 hD3 e9 s9 r9=>?_)
    ·have h:=y.2 _ (eT.of (s1 _ _ e7'));rw [aQ] at h;cases e:r[i]? with
     | none=>rw [e] at h;cases h
     | some m =>
      rw [e] at h;cases (show V.int (m:Int)=x from bY h);exact ⟨m,rfl,cK.int _⟩
    ·cases (show x=V.int (m:Int) from rx);refine ⟨_,rfl,_,rfl,rfl,_,rfl,?_⟩;rw [show (0:Int)+(j:Int)=(j:Int) by omega,nC];exact k1 H1 (aW.refl _)
    ·have l9:=dF r9;refine NR e9 ?_;refine k' _ H9 s9 ?_;rw [l9,List.count_eq_length_filter];congr 3
   ·have ey:ys2=(cnt fs.length r).map kI:=by
     refine List.ext_getElem? λj=>?_;unfold cnt;rw [List.map_map,aQ];by_cases hj:j<fs.length
     ·rw [List.getElem?_range hj];have h1:ys2[j]?=some ys2[j]:=aE Oo;rw [h1,hr8 j _ h1];rfl
     ·rw [bR Oo,bR (by rw [List.length_range];omega)];rfl
    subst ey;refine ⟨D2,_,rfl,.inl ⟨fA.of e8,λl9 hl9=>?_⟩⟩;have s9:aW H8 (upd H8 l9 (.tup ((cnt fs.length r).map kI))):=aW.upd hl9;have e9:upd H8 l9 (.tup ((cnt fs.length r).map kI)) l9=some (.tup ((cnt fs.length r).map kI)):=aX;generalize upd H8 l9 (.tup ((cnt fs.length r).map kI))=H9 at s9 e9;have s79:=s8.trans s9;have Z9:=Z7.same s79;have rr:cK H9 (gR r) (.ref l7):=lR (s79 _ _ e7);have rc:cK H9 (gR (cnt fs.length r)) (.ref l9):=lR e9;clear Z7 s79 s9 e9 s8 e8 hD2 hy8 hr8 hl9 e7;obtain ⟨av',af,aw,xf,xw,e',ha,hf,hw,rf,rw'⟩:=wB (kp H9 Z9);cases e';have lxw:=dF rw';refine ⟨_,rfl,?_⟩;refine tD ha rfl ?_;refine SH hw ?_;rw [lxw];refine ⟨_,rfl,Oo,Oo,?_⟩;rw [Int.toNat_natCast];refine dL (λj σ H'=>∃o9 o10:Option V,σ=[some (.ref a),some (.ref p),some (.ref tr),some (.int (Lg:Int)),some (.int (0+(i:Int))),some (.ref av),some (.int (fs.length:Int)),some (.ref l7),some (.ref l9),o9,o10,o11,o12,o13,o14]/\aW H9 H') ⟨_,_,rfl,aW.refl _⟩ ?_ ?_
    ·rintro j σ H1 hj ⟨o9,o10,rfl,s1⟩;rw [show (0:Int)+(j:Int)=(j:Int) by omega];have ew:ws[j]?=some ws[j]:=aE hj;generalize ws[j]=wy at ew;have oks:=ok.sh _ (cE ew);have hrw:∀x∈r,x<wy.2.length:=λx hx=>by rw [oks.len];exact hrr x hx
     obtain ⟨z1,z2,z3⟩:=BP oks.b r hrw;have sh:jH (xO (uF wy.2 r)):=DD (nO z2 z3 Oo);refine ⟨_,rfl,_,rfl,_,rfl,?_⟩;refine uM ((kp H9 Z9).same s1) ew (rr.same s1) oks.b Oo hrw ?_;intro q2 H2 hq2 e2 s2;refine JR (DG e2) sh ?_;refine ⟨_,rfl,_,rfl,_,rfl,?_⟩;refine yO ((kp H9 Z9).same (s1.trans s2)) ew (rr.same (s1.trans s2)) oks.b Oo hrw λx3 H3 s3 w3=>?_;refine SG (DE w3.v) sh.sh sh.nd sh.dp sh.ln ?_;refine ⟨_,rfl,rfl,_,rfl,?_⟩;refine xG rfl ?_;refine ⟨_,rfl,_,rfl,_,rfl,?_⟩;have S3:=(s1.trans s2).trans s3;refine rZ ((kp H9 Z9).same S3) ew (rc.same S3) oks.b (by rw [xV r hrr];omega) λx4 H4 s4 w4=>?_;have ewg:=ET oks.low hrw;rw [oks.len] at ewg;rw [ewg] at w4;refine SG (DE w4) sh.sh sh.nd sh.dp sh.ln ?_;refine ⟨_,rfl,rfl,_,rfl,?_⟩;refine xG rfl ?_;exact ⟨_,_,rfl,S3.trans s4⟩
    ·rintro σ H1 ⟨o9,o10,rfl,s1⟩;have Z1:=Z9.same s1;clear Z9 s1 rr rc ha hf hw rf rw';refine ⟨_,rfl,?_⟩;refine cV Z1.F Dd Kk λx2 H2 x20 x21 F2 s2=>?_;obtain ⟨m,rfl⟩:=nZ x20;have Z2:=Z1.feed ntp s2 F2;clear Z1 s2 F2;have f2:2<=fs.length:=Oo;have f5:fs.length<5:=Oo;have m6:m<6:=Oo;refine ⟨_,rfl,_,rfl,?_⟩;refine yP f2 f5 m6 λd H3 s3 hd e3=>?_;have ndp:d≠p:=Z2.F.ne hd;have Z3:=Z2.same s3;clear Z2 s3;have lk:(dB (gN fs.length (m+1))).length<=400:=by rw [eQ,lO f2 f5 Oo,aB];exact oG fs.length Oo (m+1) Oo
     have sml:=qB fs.length Oo (m+1) Oo;refine ⟨_,rfl,Dd,Dd,?_⟩;refine dL (λj σ H'=>∃o13 o14:Option V,σ=[some (.ref a),some (.ref p),some (.ref tr),some (.int (Lg:Int)),some (.int (0+(i:Int))),some (.ref av),some (.int (fs.length:Int)),some (.ref l7),some (.ref l9),o9,o10,some (.int (m:Int)),some (.ref d),o13,o14]/\uA H' tA p L tr v0 v1 fs0 fs1 ws0 ws1/\H' d=some (.dT (dB (gN fs.length (m+1))))) ⟨_,_,rfl,Z3,e3⟩ ?_ ?_
     ·clear Z3 e3;rintro j σ H4 hj ⟨o13,o14,rfl,Z4,e4⟩;refine ⟨_,rfl,_,rfl,?_⟩;refine yS Oo Oo Oo λA H5 s5 hA l5=>?_;obtain ⟨xa,ea,ra,lxa⟩:=l5.len;have Z5:=Z4.same s5;have rA:cK H5 (.list (((List.range (m+1)).flatMap (cta fs.length)).map gR)) (.ref A):=cK.lst ea ra;have shA:jH (.list (((List.range (m+1)).flatMap (cta fs.length)).map gR)):=zW Oo λc hc=>by
       obtain ⟨k,hk,hc⟩:=List.mem_flatMap.mp hc;have hk:=eM.mp hk;obtain ⟨h1,h2⟩:=kD hc;omega
      refine ⟨_,rfl,?_⟩;unfold JU;refine ⟨_,_,_,rfl,rA,.inr (.inr (.inr (.inr (.inl rfl)))),?_⟩;refine ⟨_,rfl,?_⟩;refine LL ?_;refine ⟨_,rfl,?_⟩;refine JR rA shA ?_;refine ⟨_,rfl,?_⟩;refine rlst (s5 _ _ e4) Oo λD6 y6 H6 hD6 e6 k6 s6=>?_;have r6:aY H6 ((cN fs.length (m+1)).map gR) y6:=by
       have ef:=lO f2 f5 (show m+1<7 by omega);refine aY.ofIdx (by rw [k6.1,eQ,ef,aB,aB]) λj y hj=>?_;have hj':j<(dB (gN fs.length (m+1))).length:=by rw [<-k6.1];exact (bL.mp hj).1
       obtain ⟨b,hb,eb⟩:=k6.2 j _ (aE hj');rw [hj] at hb;cases hb;have hjk:j<(cN fs.length (m+1)).length:=by rw [eQ,ef,aB] at hj';exact hj'
       refine ⟨_,by rw [aQ,aE hjk];rfl,lR ?_⟩;rw [eb];have:(dB (gN fs.length (m+1)))[j]?=some (kT (ci (cN fs.length (m+1))[j]),V.int ((mN (cN fs.length (m+1))[j]:Nat):Int)):=by
        unfold dB;rw [ef,aQ,aQ,aE hjk];rfl
       rw [aE hj'] at this;rw [bY this,jD,jG]
      refine sB e6 r6 f5 m6 (Z5.same s6).T λD7 H7 b7 T7 hD7 l7'=>?_;have Z7:=(Z5.same s6).tab b7 T7;obtain ⟨x7,e7,r7⟩:=l7';refine JR (cK.lst e7 r7) shA ?_;refine ⟨rfl,_,rfl,?_⟩;refine xG rfl ?_;obtain ⟨ps6,hps6⟩:=(Z5.same s6).T.at_;have eA7:H7 A=some (.lst xa):=b7.at (λz=>by rw [<-z,s6 _ _ ea] at hps6;cases hps6) (s6 _ _ ea);have ed7:H7 d=some (.dT (dB (gN fs.length (m+1)))):=b7.at (λz=>by rw [<-z,s6 _ _ (s5 _ _ e4)] at hps6;cases hps6) (s6 _ _ (s5 _ _ e4));refine ⟨_,rfl,QG eA7,?_⟩;refine AL (by show 0<=64;decide) λq8 H8 hq8 e8 s8=>?_;refine RS (s8 _ _ eA7) Oo λH9 e9 b9=>?_;refine ⟨_,_,rfl,(Z7.same s8).list b9 (s8 _ _ eA7) (Z4.F.ne hA) (Z4.F.neL hA) (λz=>by rw [z,Z4.l] at hA;cases hA),b9.at (λz=>by rw [z,eA7] at ed7;cases ed7) (s8 _ _ ed7)⟩
     ·rintro σ H4 ⟨o13,o14,rfl,Z4,e4⟩;clear Z3 e3;refine ⟨_,rfl,_,rfl,Oo,Oo,?_⟩;rw [Int.toNat_natCast];obtain ⟨qF,hq,hqF,hbit⟩:∃qF:Nat,(60:Int)/(fs.length:Int)=(qF:Int)/\fs.length*qF<=60/\bits (1+(qF:Int))<=9000:=by
       rcases hF with h | h | h <;> rw [h]
       ·exact ⟨30,Dd,Dd,Kk⟩
       ·exact ⟨20,Dd,Dd,Kk⟩
       ·exact ⟨15,Dd,Dd,Kk⟩
      refine oO (bZ.like p L) Z4.F (λ_ y _=>∃x:Nat,y=V.int (x:Int)/\x<=qF) (λ_ _ _ _ _ h=>h) Oo (λj H' Q' hj F' s' k'=>?_) (λD5 ys5 H5 hD5 e5 F5 s5 hy5 hr5=>?_)
      ·refine ⟨_,rfl,?_⟩;refine ⟨_,rfl,?_⟩;refine ⟨_,_,rfl,rfl,mK Oo (aH (show ((fs.length:Int)).natAbs<2^10 by show _<1024;omega) (cM Dd Dd)),?_⟩;refine ⟨_,_,rfl,rfl,?_⟩;rw [hq];refine cV F' Oo hbit λx H6 x0 x1 F6 s6=>?_;obtain ⟨y,rfl⟩:=nZ x0;exact k' _ H6 F6 s6 ⟨y,rfl,Oo⟩
      ·have Z5:=Z4.feed ntp s5 F5;have ed5:=s5.at ndp e4;obtain ⟨r2,ey,lr2,hr2⟩:∃r:List Nat,ys5=r.map kI/\r.length=fs.length/\∀x∈r,x<=qF:=by
        have all:∀zs:List V,(∀z∈zs,∃x:Nat,z=V.int (x:Int)/\x<=qF)->∃r:List Nat,zs=r.map kI/\r.length=zs.length/\∀x∈r,x<=qF:=λzs=>by
         induction zs with
         | nil=>exact λ_=>⟨[],rfl,rfl,λx hx=>by cases hx⟩
         | cons z zs ih =>
          intro h;obtain ⟨x,rfl,hx⟩:=h z (aG ..);obtain ⟨r,e,l,h2⟩:=ih λy hy=>h y (aD _ hy);refine ⟨x::r,by rw [e];rfl,by rw [bI,bI,l],λy hy=>?_⟩;rcases aP.mp hy with rfl | hy
          ·exact hx
          ·exact h2 y hy
        obtain ⟨r,e,l,h⟩:=all ys5 λz hz=>by
         obtain ⟨j,hj⟩:=dQ.mp hz;exact hr5 j z hj
        exact ⟨r,e,Oo,h⟩
       subst ey;refine ⟨D5,_,rfl,.inl ⟨fA.of e5,λl6 hl6=>?_⟩⟩;have s6:aW H5 (upd H5 l6 (.tup (r2.map kI))):=aW.upd hl6;have e6:upd H5 l6 (.tup (r2.map kI)) l6=some (.tup (r2.map kI)):=aX;generalize upd H5 l6 (.tup (r2.map kI))=H6 at s6 e6;have Z6:=Z5.same s6;have ed6:=s6 _ _ ed5;have rr2:cK H6 (gR r2) (.ref l6):=lR e6;have sm2:r2.sum<=60:=by have:=rV hr2;rw [lr2] at this;omega
       have mB:∀c:List Nat,c.sum<=60->jH (.int ((mN c:Nat):Int)):=λc hc=>CZ (aV (IB Oo) (Nat.pow_lt_pow_right Dd Dd));refine ⟨_,rfl,?_⟩;refine mG rr2 Oo ?_;refine JR (cK.int _) (mB r2 sm2) ?_;refine ⟨_,rfl,?_⟩;refine uN rr2 sm2 ?_;refine JR (cK.int _) (mB r2 sm2) ?_;refine ⟨rfl,_,rfl,?_⟩;refine xG rfl ?_;refine ⟨_,rfl,?_⟩;refine rdf (.inl ed6) λo H7 e7 b7=>?_;have Z7:uA H7 tA p L tr v0 v1 fs0 fs1 ws0 ws1:=by
        have t7:=aR.tT b7 ed6;have ll:∀q xs,H6 q=some (.lst xs)->H7 q=some (.lst xs):=λq xs hq=>b7.at (λz=>by rw [z,ed6] at hq;cases hq) hq;refine ⟨?_,⟨Z6.T.ex.elim (λh=>.inl (b7.at (λz=>by rw [z,ed6] at h;cases h) h)) λ⟨c',h1,h2⟩=>.inr ⟨c',b7.at (λz=>by rw [z,ed6] at h1;cases h1) h1,b7.at (λz=>by rw [z,ed6] at h2;unfold iM at h2;cases h2) h2⟩⟩,ll _ _ Z6.l,Z6.r0.flat t7 (eW _ _),Z6.r1.flat t7 (eW _ _)⟩;obtain ⟨ns,i,r,k,h1,h2,h3⟩:=Z6.F.ex;exact ⟨ns,i,r,k,ll _ _ h1,ll _ _ h2,h3⟩
       refine zZ (n:=(dB (gN fs.length (m+1))).length) (λ_ y=>y=V.bl true) Oo (λj H' s' hj=>⟨⟨_,s' _ _ e7,hj⟩,λx H3 hy=>⟨hy.1,λQ' k'=>?_⟩⟩) (λH' s'=>⟨_,s' _ _ e7,aC _⟩) (λD8 ys8 H8 hD8 e8 s8 hy8 hr8=>?_)
       ·obtain ⟨b,p',rfl,hp',hb'⟩:=hy.2 _ (s' _ _ e7);have ef:=lO f2 f5 (show m+1<7 by omega);have hjk:j<(cN fs.length (m+1)).length:=by rw [eQ,ef,aB] at hj;exact hj
        have hck:(cN fs.length (m+1))[j]∈cN fs.length (m+1):=List.getElem_mem _;have ec:(dB (gN fs.length (m+1)))[j]?=some (kT (ci (cN fs.length (m+1))[j]),V.int ((mN (cN fs.length (m+1))[j]:Nat):Int)):=by
         unfold dB;rw [ef,aQ,aQ,aE hjk];rfl
        rw [ec] at hp';cases hp';generalize (cN fs.length (m+1))[j]=cc at hck hb';have hsum:cc.sum<=60:=by
         unfold cN at hck;obtain ⟨k,hk,hc⟩:=List.mem_flatMap.mp hck;have hk:=eM.mp hk;have:=(kD (List.mem_reverse.mp hc)).2;omega
        rw [jD] at hb';have rcc:cK H' (gR cc) (.ref b):=lR (by rw [hb',jG]);refine ⟨_,rfl,?_⟩;refine mG rcc Oo ?_;refine JR (cK.int _) (mB cc hsum) ?_;refine ⟨_,rfl,_,rfl,?_⟩;refine PB ⟨o,s' _ _ e7⟩ hb' (GV f2 f5 Oo hck) ?_;refine JR (cK.int _) (mB cc hsum) ?_;refine ⟨rfl,?_⟩;exact k' _ (by rw [bN rfl])
       ·have all:∀y∈ys8,y=V.bl true:=λy hy=>by
         obtain ⟨j,hj⟩:=dQ.mp hy;exact hr8 j y hj
        have fl:ys8.all kB=true:=List.all_eq_true.mpr λy hy=>by rw [all y hy];rfl
        refine ⟨D8,ys8,rfl,.inl (fA.of e8),rfl,fl,_,rfl,?_⟩;have:OR (V.bl false) ys8=false:=GH all;simp only [this,Bool.false_eq_true,if_false];exact ⟨_,_,_,_,_,_,_,_,_,_,_,rfl,Z7.same s8⟩
 ·rintro σ H1 ⟨o4,o5,o6,o7,o8,o9,o10,o11,o12,o13,o14,rfl,Z1⟩;exact k H1
end
theorem yQ{K:PySem.W.Frag}{tA a:Addr}{H:Hp}{E:XK}{ns:List Int}(hS:fA K H a (ns.map V.int))(hl:ns.length<=63)(hT:H tA=some (.tbl #[])):iP K tA [.ref a] H (λv _=>v=.bl true) E:=by
 unfold iP;exact ⟨a,ns,rfl,hS,hl,⟨.inl hT⟩,λ_=>rfl⟩
def QJ(K:PySem.W.Frag)(tabs:List (Addr × Addr)):Sp:=match tabs with
 | [(_,t)]=>iP K t
 | _=>λ_ H Q _=>Q (.bl true) H
theorem NN{K:PySem.W.Frag}{tabs:List (Addr × Addr)}{a:Addr}{H:Hp}{E:XK}{ns:List Int}(hS:fA K H a (ns.map V.int))(hl:ns.length<=63)(hT:yE tabs H):QJ K tabs [.ref a] H (λv _=>v=.bl true) E:=by
 unfold QJ;split
 ·exact yQ hS hl (hT.tab _ (dC.mpr rfl))
 ·rfl
theorem OK{α:Type}{us:List α}(h:us.length=1):∃a,us=[a]:=match us,h with | [a],_=>⟨a,rfl⟩
theorem RH{α:Type}{us:List α}(h:us.length=2):∃a b,us=[a,b]:=match us,h with | [a,b],_=>⟨a,b,rfl⟩
theorem RG{α:Type}{us:List α}(h:us.length=3):∃a b c,us=[a,b,c]:=match us,h with | [a,b,c],_=>⟨a,b,c,rfl⟩
theorem LS{K:PySem.W.Frag}{x q:Str}{st:Stmt}{f:Addr}{fd:FuncData}(F:iW K x q st f fd)(P:FuncData->Prop)(h:P fd):∃fd,P fd:=⟨fd,h⟩
inductive Dn (K:PySem.W.Frag) (n:Str) (st:Stmt):Prop
 | mk {f:Addr} {oc:Value} {od:Option Addr} {kV dc pm:Value} {an:Option Addr} {cd ct:Value} {sl:Array (Option Value)} (a:PySem.W.nsIn K mainGlobals n=some (some (.ref f))) (l:K.lookup f=some ⟨oc,od,.func (PySem.W.fnOf n n (hU st) (eZ st) (aZ st) .none kV dc pm an cd ct),sl⟩) (c:PySem.W.codeIn K cd n=true) (k:PySem.W.keepIn K (.ref f)=true):Dn K n st
theorem fnd(l:PySem.W.OpenLaw)(w:World){K:PySem.W.Frag}{h:Heap}{mg:Str->Option Value}(X:K.In h)(G:h.Ns mainGlobals mg)(base:Heap){n:Str}{st:Stmt}{L:Nat}{ps:List Str}{sp:Sp}(d:Dn K n st)(o:∀{f:Addr}{fd:FuncData},iW K n n st f fd->dW l.prog w K mg base eI L f fd ps sp)(b:∀(kV doc pm:Value) (an:Option Addr) (cdv ct:Value) (us:List Value),us.length=ps.length->bindArgs (PySem.W.fnOf n n (hU st) (eZ st) (aZ st) .none kV doc pm an cdv ct) ⟨us,[]⟩=pure (ps.zip us):=by intro _ _ _ _ _ _ us hl;first | (obtain ⟨_,rfl⟩:=OK hl;rfl) | (obtain ⟨_,_,rfl⟩:=RH hl;rfl) | (obtain ⟨_,_,_,rfl⟩:=RG hl;rfl) | (obtain ⟨_,_,_,_,rfl⟩:=len4 hl;rfl) | (obtain ⟨_,_,_,_,_,rfl⟩:=len5 hl;rfl)):kO eI l.prog w K mg base L n ps sp:=by
 obtain ⟨a,l',c,k⟩:=d;exact ⟨_,_,o (rE l' c k),PySem.W.mg_of X G a,k,(rE l' c k).binds b⟩
theorem fnc(l:PySem.W.OpenLaw)(w:World){K:PySem.W.Frag}{h:Heap}{mg:Str->Option Value}(X:K.In h)(G:h.Ns mainGlobals mg)(base:Heap){n:Str}{f:Addr}{fd:FuncData}{L:Nat}{ps:List Str}{sp:Sp}(a:PySem.W.nsIn K mainGlobals n=some (some (.ref f)))(k:PySem.W.keepIn K (.ref f)=true)(b:kR K fd ps [])(o:dW l.prog w K mg base eI L f fd ps sp):kO eI l.prog w K mg base L n ps sp:=⟨_,_,o,PySem.W.mg_of X G a,k,b⟩
open PySem.W (nsIn fnOf codeIn keepIn mg_of mg_none_of) in
theorem MG{l:PySem.W.OpenLaw}{w:World}{K:PySem.W.Frag}{h:Heap}{mg:Str->Option Value}{fa:Addr}{c_ONE:Addr}(X:K.In h)(G:h.Ns mainGlobals mg)(hfa:mg "law" = some (.ref fa))
  (u_ONE:nsIn K mainGlobals "ONE" = some (some (.ref c_ONE)))
  (o_ONE:oI K c_ONE [1,1]=true)
  (d0:Dn K "_law_feed" QP)
  (d1:Dn K "_law_draw" QQ)
  (d2:Dn K "common_divisor" JO)
  (d3:Dn K "times" JK)
  (d4:Dn K "way_shares" JJ)
  (d5:Dn K "share_of" JL)
  (d6:Dn K "power" JN)
  (d7:Dn K "weight" JI)
  (d8:Dn K "rows_to" JM)
  (d9:Dn K "counts_that_are" BR)
  (d10:Dn K "all_counts" QK)
  (d11:Dn K "_law_low" QO)
  (d12:Dn K "_law_shares" MR)
  (d13:Dn K "_law_trial" PQ)
  (d14:Dn K "_law_product" QL)
  (d15:Dn K "_law_met" QM)
  (d16:Dn K "_law_many" QN)
  (a17:nsIn K mainGlobals "_law_rising" = some (some (.ref f17))) (l17:K.lookup f17=some ⟨oc17,od17,.func (fnOf "_law_rising" "_law_rising" (hU MS) (eZ MS) (aZ MS) .none kV17 dc17 pm17 an17 (.ref cA17) ct17),sl17⟩) (c17:codeIn K (.ref cA17) "_law_rising" = true) (k17:keepIn K (.ref f17)=true) (hh17:zT K cA17 tA=true)
  (d18:Dn K "law" sG) (z0:nsIn K mainGlobals "list" = some none) (z1:nsIn K mainGlobals "len" = some none) (z2:nsIn K mainGlobals "abs" = some none) (z3:nsIn K mainGlobals "repr" = some none) (z4:nsIn K mainGlobals "range" = some none) (z5:nsIn K mainGlobals "sum" = some none) (z6:nsIn K mainGlobals "zip" = some none) (z7:nsIn K mainGlobals "tuple" = some none) (z8:nsIn K mainGlobals "int" = some none) (z9:nsIn K mainGlobals "sorted" = some none) (z10:nsIn K mainGlobals "isinstance" = some none) :
  ∃fd:FuncData,(∀(s:Shared) (v:Value),BindsTo s fd ⟨[v],[]⟩ [("_law_script",v)])/\∀base:Heap,K.In base->base.Ns mainGlobals mg->BM mg base->dW l.prog w K mg base eI 9 fa fd ["_law_script"] (iP K tA):=by
 obtain ⟨a18,l18,c18,k18⟩:=d18;have e:=hfa.symm.trans (mg_of X G a18);cases e;generalize hcl:(⟨c_ONE⟩:Cl)=c;have T:pC K mg c:=by rw [<-hcl];exact ⟨mg_none_of X G z0,mg_none_of X G z1,mg_none_of X G z2,mg_none_of X G z3,mg_none_of X G z4,mg_none_of X G z5,mg_none_of X G z6,mg_none_of X G z7,mg_none_of X G z8,mg_none_of X G z9,mg_none_of X G z10,mg_of X G u_ONE,o_ONE⟩
 have F18:=rE (st:=sG) l18 c18 k18;refine LS F18 _ ⟨λs v=>.of_eq rfl,λbase _ _ hbm=>?_⟩;have N:=@fnd l w K h mg X G base;have GQ1:=N d0 λF=>TF F T;have GQ0:=N d1 λF=>TH F T;have GQ10:=N d2 λF=>RD F T;have GQ16:=N d3 λF=>QX F T GQ10;have GQ17:=N d4 λF=>QW F T;have GQ15:=N d5 λF=>QY F T GQ17 GQ16;have GQ13:=N d6 λF=>RA F T;have GQ18:=N d7 λF=>QV F T GQ17 GQ16 GQ13;have GQ14:=N d8 λF=>QZ F T;have GQ11:∀n:Nat,kO eI l.prog w K mg base (1+n) "counts_that_are" ["faces","many"] (fS n):=λn=>by
  induction n with
  | zero=>exact N d9 λF=>QE F T
  | succ n ih=>exact N d9 λF=>RC n F T ih
 have GQ9:=N d10 λF=>SV F T (GQ11 4);have GQ2:=N d11 λF=>TD F T;have GQ7:=N d12 λF=>SX F T GQ0 GQ2;have GQ8:=N d13 λF=>SW F T GQ0 GQ7;have GQ5:=N d14 λF=>SZ F T GQ2;have GQ4:=N d15 λF=>TB F T;have GQ3:=N d16 λF=>TC F T;have F17:=rE (st:=MS) l17 c17 k17;have b17:=F17.binds (ps:=["_law_some"]) λ_ _ _ _ _ _ us hl=>by obtain ⟨_,rfl⟩:=OK hl;rfl
 have GQ6:=fnc l w X G base a17 k17 b17 (SY F17 T rfl hh17 hbm);exact RB F18 T GQ1 GQ0 GQ8 GQ5 GQ15 GQ18 GQ4 GQ9 GQ6 GQ14 GQ3
end Kw
namespace PySem.W.Fast
def tw9847491810663589391 := ()
def tw7596610041814383535 := ()
def tw11185462831716157642 := ()
def tw9903543828429810077 := ()
def tw3039104429432055502 := ()
def tw9786454141572592980 := ()
def tw15308942224036918222 := ()
def tw12076621593562678812 := ()
def tw2346893952952350142 := ()
def tw6844458841770282841 := ()
def tw13230780265508908511 := ()
def tw12799535046466386528 := ()
end PySem.W.Fast
open PySem PySem.W PyProof.Rows
set_option maxRecDepth 100000 in
set_option maxHeartbeats 0 in
theorem PySem.Challenge.cw_earlystop_k10_shares_of_rows_holds : PySem.Challenge.rw_earlystop_k10_shares_of_rows.Holds := by
  w_on;o_law;k_head;(case hw=>w_witness2)
  k_fill
  refine L2.AZ (l:=PySem.Challenge.rw_earlystop_k10_shares_of_rows) (n:=63) (k:=9) (x := "_law_script") (CX:=L2.eI) (tabs:=λ_=>[(134,130)]) (sp:=λK tabs=>Kw.QJ K tabs) ["_law_rising"] rfl Dd rfl ⟨rfl,Dd,Dd,rfl⟩ (λw h Y=>PySem.W.km_in_of Y) (λy hy=>by rw [dC.mp hy];exact Option.isSome_iff_exists.mp (by kernel_rfl)) (λw=>by kernel_rfl) (λw t ht=>by rw [dC.mp ht];kernel_rfl) ?F (λK tabs H a ns hl hO hS=>Kw.NN hS hl hO) (λ_ _ _ _ z=>z)
  case F =>
    intro w mg fa h KX G hmg
    refine' Kw.MG KX G hmg ?u_ONE ?o_ONE ?d0 ?d1 ?d2 ?d3 ?d4 ?d5 ?d6 ?d7 ?d8 ?d9 ?d10 ?d11 ?d12 ?d13 ?d14 ?d15 ?d16 ?a17 ?l17 ?c17 ?k17 ?hh17 ?d18 ?z0 ?z1 ?z2 ?z3 ?z4 ?z5 ?z6 ?z7 ?z8 ?z9 ?z10
    (case u_ONE|a17|l17|c17|k17|z0|z1|z2|z3|z4|z5|z6|z7|z8|z9|z10=>k_is);(case d0|d1|d2|d3|d4|d5|d6|d7|d8|d9|d10|d11|d12|d13|d14|d15|d16|d18=>refine' Kw.Dn.mk ?a ?l ?c ?k;(case a=>k_is);(case l=>k_is);(case c=>k_is);(case k=>k_is));(case o_ONE=>kernel_rfl);(case hh17=>kernel_rfl)
