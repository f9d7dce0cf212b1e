import PyProof.Rows.All
import Wide.All
import OpenK.AllK
import Wide.FinOn
import Lean
import PyProof.EqAt
import PyProof.EqKinds
import PyProof.TupleCall
import KE.IntBitsLaws
import PyProof.ZipIter
import KE.KRevIter
import PyProof.ListMulRoad
import PyProof.AutoListH
import PyProof.Rows.SeqMore
import PyProof.Rows.SumAny
import PyProof.SliceStr2
import PyProof.WalksMore
import KE.KSortTup
import PyProof.AttrMissHeap
import PyProof.TupleIter
import KE.KDictOf
import PyProof.DictWalks
import PyProof.DictValues
import KE.KDictList
import PyProof.Rows.MinMaxN
import PyProof.Rows.TupDisplay
import PyProof.DictTruth
import PyProof.Rows.SortRev
import PyProof.Rows.CallKwBuiltin
import PyProof.ListRange
import PyProof.EnumMake
import PyProof.Rows.StrJoin2
import KE.LcSums
import PySem.Challenge.RW_earlystop_k57_whole_costs_and_looks_more
set_option Elab.async false
set_option compiler.extract_closed false
set_option linter.all false
set_option maxHeartbeats 0
set_option maxRecDepth 100000
set_option hygiene false
abbrev zs:=Lean.Syntax
def zn(k:Lean.Name)(a:Array zs):zs:=.node .none k a
def zm(k:String)(a:Array zs):zs:=zn (`Lean.Parser.Term++k.toName) a
def za(s:String):zs:=.atom .none s
def zT:Array String:=#["(aY03,Int)","(aaT,H,H')","(as0,e)","(asome(a.ref$0))","(aY5p,s)","(trfl$0)","(aY00,_$0)","(asome,x)","(aaX,F,es$0)","(aY6,?_)","(asome,o)","(aiO,K$0$1$2f,fd)","(aY2w,Y0M)","(abS$0$1(abA$2))","(ajG,K,mg,c)","(asome(a.tup$0))","(asome(a.int$0))","(agY,X$0$1)","(a.ref,a)","(aList,cZ)","(aDn,K$0$1)","(asome(a.lst$0))","(aN$0(fF$1))","(aPE,X$0$1)","(asome,u)","(aaM,_)","(>Al(>Hp(>VK(aY0C,XK))))","(afH,?_)","(asome,v)","(aif_pos,rfl)","(aList,α)","(aY90,V)","(alO,Yr)","(=$0false)","(aY03,Rat)","(aaD,0)","","","","","","","","","","","","","","","","","","","","","","","","","","","(t$0rfl$1)","(aY1n,1$0$1$2)","(aaD,2)","(>Nat$0)","(aYcD,F)","(aY1h,_,rfl,_$0)","(abZ,_)","(asome(a.dT$0))","(aaT.refl,_)","(asome,y)","(aeval$0X.env)","(t$0$1?_)","(aYl,ys)","(arise,F,M)","(aList,PySem.Str)","(aaD,1)","(aY05,?_)","(t$0$1rfl$2$3)","(>$0(aY0C$1))","(aList,Expr)","(aaX,F$0$1)","(aeK,f)","(aY91,W$0)","(acF,W(fv$0))","(aps,w)","(a.ref,b)","(aY6(aY7q$0?_))","(aaD,3)","(aY2h,i)","(^2,3000)","(aY0N$0H')","(aslots,σ,js)","(acG$0f)","(acK,_)","(afP$0(aaD$1))","(abest,c)","(t$0?_)","(>Ae,Nat)","(>$0Prop)","(aList,Addr)","(aY8b,es$0)","(t$0$1$2$3rfl$4$5$6)","(aH',D)","(>Str,Y5n)","(a.ref,s.heap.objs.size)","(aList,oB)","(>Ae,Rat)","(aY3J$0v)","(aY0C,Shared)","(aQ(a.ref$0)$1)","(~$0sizeLine)","(aYl,xs)","(aaZ,_,rfl)","(aY4n,_$0)","(aiF,F$0d)","(aY6(aY8c$0))","(t_$0$1)","(aaD,4)","(^2,4000)","(t$0$1rfl$2)","(aif_neg,e)","(a.ref,p)","(adecide(=$0$1))","(a.ref,l)","(aY3X,Str,Ak)","(amQ,ws)","(=(aInt.gcd$0$1)1)","(aaY,e)","(afU,I,q$0)","(aY4m$0aL)","(abB$0aQ)","(aArray,Nat)","(aY0u,D)","(amA,F,es,fs,s,c)","(aaS(acH$0))","(aYf,xs)","(aY65,p)","(abI,H$0$1)","(agX,F,W,M,es,fs,s)","(t$0$1$2rfl$3)","(ah'.get?,b)","(aF.oky$0(fvs,H,Q,E,h,?_))","(agF,ts)","(aY0a,e)","(gys,i)","(afI,cV,P,w,K,mg,base$0$1$2$3)","(aOption,Int)","(aList,PyData)","(aY07,kvs)","(aeN$0(aaD$1)$2)","(arul,F,W,M,best)","(acP(:i,3)$0$1)","(asome,none)","(asome,c)","(a.int,i)","(atF,F,es)","(aFn$0$1f)","(aMd.rho$0b,R$1$2)","(aY41$0(aY89,_$1)$2)","(>Al(>Hp(aY0C,VK)))","(asome,.cell)","(acP(:i,2)$0$1)","(adecide(<$0$1))","(=X.calm,true)","(aaF,_$0)","(to$0$1)","(>$0Y5q)","(aYx(qx$0))","(apM,F,W,M,N,B,Ns,es)","(aQ,v,H')","(aQ(a.int$0)H)","(abP,_,this)","(<c.sum,M)","(ansIn,K,mainGlobals$0)","(aY6(aY4A,O$0$1$2))","(acD$0(aaD$1)$2)","(aY2s(aaD$0)$1)","(aif_pos,e)","(aeval$0env)","(aYbm$0(asome$1))","(aI.tok,_)","(a.ListComp,elt$0scope,pos)","(adM,K(aaD,0))","(aY1I,St)","(aY88,1)","(awpAny(amodel,prog,w)A$0Q,E,s)","(lYi)","(aY3u,b)","(aeV,n,lt$0$1)","(aQn,N,B$0)","(astarEach$0X.env)","(acU,X,pins,σ$0$1)","(anC$0s.heap$1$2)","(ah.get?,b)","(a.ref,x)","(alexp,m$0)","(aY2S(aaC$0))","(aY17,1)","(aY17,0)","(aY0k$0d)","(ahZ,ss$0c)","(gxs$0)","(aY1n,2$0$1$2)","(acP(:i$0)$1(acQ$2(aaD$3)$4))","(a.inl(t$0$1))","(t$0Oo)","(agD,kvs$0)","(aY5s,i,a)","(aeZ,H,H')","(aMd.dot,n(aR$0)a)","(awpAny_mono$0$1(f_,_,f,f))","(awpAny_pure,?_)","(abB$0(abB$1aQ))","(aif_neg(fz$0))","(<$0xs.length)","(aabsurd$0cE)","(>Value$0)","(=ys.length$0)","(aList,Rat)","(aY1c(aaD$0))","(acQ$0(aaD$1)(aaD$2))","(awG,?_)","(aeE$0us)","(aY3c,X,C,s₀,H₀)","(t_,rfl,_,rfl,_,rfl$0)","(aY3X,fS,V)","(aY5s,o,a)","(a.Name,y,py)","(aY1G,e)","(amX,F,es,fs,s,c,0)","(>$0Bool)","(-M,c.sum)","(aYdV,H(a.lst$0))","(aQ(a.bl$0)H)","(abQ(aiA,K)(aaD$0)$1)","(ta$0$1)","(aY1n,3$0$1$2)","(akT(aci$0))","(t_$0)","(aif_neg,Dd)","(aeQ$0(a.ref$1)$2)","(aif_neg,q)","(a.inr(t$0$1))","(aY1R$0$1(aaD$2))","(aY5Y$0(ast$1$2$3)$4$5)","(agD,kvs(aY2R$0))","(aY26,es)","(>α,Rat)","(aI.hok.fresh(aaM,_))","(=c.length,F)","(aY6h,i)","(gX.N,i)","(aY1y,N,B)","(aHJ$0scope$1$2fp$3$4N')","(aY26(l$0))","(aY62$0_)","(aY3Z,H$0$1)","(aaT.upd(:o(a.tup$0))$1)","(anZ$0scope$1fp$2$3N')","(=us.length$0)","(aY4o$0(afJ$1)$2)","(AD,ys,H'(>$0$1))","(aY03,Y0K)","(aY3X,κ,V)","(aY4o,H'$0$1)","(akQ,X,pins,H,b)","(afE,y,u)","(aaJ$0Dd)","(aY62$0s)","(aY46,a$0)","(adU,n(fi$0))","(asome,.local)","(astarEach$0env)","(<$0s.heap.objs.size)","(avM$0(acompareOp$1)$2)","(a.inl,rfl)","(aYbm$0Ya)","(aOption,Addr)","(aY2S,rfl)","(f_,0)","(aif_neg,Oo)","(aList,Env)","(agQ,Y8Y$0)","(adX(aY2s$0$1))","(ajU(ajS$0))","(adI$0(aDN$1)$2)","(acW$0(fc$1))","(ak$0$1Y3t$2)","(e$0Y0d)","(aY3q,es)","(awsum$0$1$2ts$3$4)","(acS$0(+1$1))","(aY1R$0$1aL)","(afQ.i(:n$0)$1Dd,Kk$2)","(a.inr(t$0$1$2$3))","(aY3X,Str,V)","(aY40,f)","(aY8j,H)","(aY9a,x)","(aY26(#e,es))","(afE,v,u)","(%Y2,0)","(t$0$1$2?_)","(adI,H(aHZ,fs,ws)$0)","(arho,n,b,R$0k)","(aList(x$0$1))","(awpAny_bind(awpAny_pure$0))","(aupd$0$1(a.lst$2))","(atE,4000$0)","(t$0rfl$1$2)","(aaN.mpr(aY4n$0$1))","(e$0(aes.map$1))","(a.Tuple$0$1pt)","(a.Name,x,px)","(aupd,H$0$1)","(axS$0(adW$1)$2)","(aY8m$0rfl$1$2)","(aiM$0$1(aaJ$2$3))","(aYao,F$0)","(alE(:i$0)$1rfl(aOr.inr,rfl)$2)","(aY2E,?_)","(aY3X,Fr,Nat)","(acS,cs$0)","(aY1h$0_$1$2)","(a.int$0t)","(~c.sum$0)","(aY8f$0xs)","(aaJ$0(aaI,Dd,Dd))","(aY7s,_$0rfl(amC$1$2)$3)","(aY3,a)","(abQ,bJ(aaD$0)$1)","(t$0$1rfl)","(adI$0(aiY$1)$2)","(%$0X.env.locals)","(aaX$0(aes.take$1)$2)","(aif_neg(fq$0))","(apure,false)","(asome(aY3$0))","(acP(:i,4)$0$1)","(+X.A.units$0)","(-xs.length$0)","(aY0U(aY1c$0)$1)","(amodel,X.prog,X.w)","(aOV,Yr)","(ajT$0$1$2$3?_)","(akA,kvs$0$1)","(acF$0(fi$1))","(adU$0(fj$1))","(aY7y$0Ya)","(adI$0(auZ$1)$2)","(aY93$0$1s)","(Em(aW$0$1$2$3))","(apure,x)","(aY6n$0rfl$1$2$3)","(ajB$0X.A)","(acS,mix$0)","(aY27,H'$0)","(aYh$0ta)","(fσ2,H2(atb$0σ2,H2))","(fσ,H,Q(at,σ$0$1))","(t$0rfl$1rfl$2$3$4rfl$5)","(afM$0$1$2(ahZ,ss)Y6T(acS,cs))","(aInt.mul_ediv_cancel_left$0Oo)","(awpAny_mono$0$1(f_,_,e$2))","(aY18(aaD$0))","(aList.replicate,k$0)","(awpAny_bind,?_)","(avM$0(abinaryOp$1)$2)","(amN$0(a.builtin$1)$2)","(amg_none_of,X$0$1)","(aoO$0best)","(~$0xs.length)","(=(aX.env.kindOf$0)$1)","(=$0xs.length)","(fe,?_)","(aY0C,Heap)","(afoldedSetIterable,iter,X.env$0)","(aYcG$0$1$2(aY18(aY7p$3$4$5$6)))","(alvl$0best$1)","(aList,fS)","(aYbn$0Y3p)","(aY61,Y45$0)","(aworz$0$1$2ss,mix$3$4cs$5)","(a.ref,D)","(a.int,n)","(a.int,m)","(amB$0es,fs$1)","(aY2C,xs)","(t$0$1rfl,rfl$2rfl$3)","(aJ.go,i$0)","(aYn$0ta)","(<x.natAbs$0)","(aiS$0(aY1c$1)fK)","(aOption,Value)","(ans.map,V.int)","(aY27,H$0)","(aY0C,Hp)","(aY0O,xs.length)","(adot,n(aR$0)$1)","(afield(a.ref$0)$1)","(=xs.length$0)","(asome(a.dK$0))","(aUK$0(:c(aci$1))$2$3$4)","(aNJ$0(:c(aci$1))$2$3$4)","(aaO$0(aaI,Dd$1))","(aList,Stmt)","(aIA,Y2B)","(aif_pos,q)","(aif_pos,h)","(aif_neg,h)","(aY3X,Str,Addr)","(ats.set,o$0)","(azR$0Y0z)","(=(aSeqAt.shaped$0)true)","(alt(aY5W$0)(aY5W$1))","(agH$0$1$2Y5o)","(afR$0(aY2R$1)$2)","(adB$0scope$1$2$3)","(aYcE$0Y3p)","(aY4f$0rfl$1)","(arE$0$1(aY5g$2$3))","(asome,j)","(asome,f)","(aX.mg,x)","(asome(a.ins,C,dx,fs))","(fh(aabsurd$0Oo))","(aNat.le_mul_of_pos_left,_$0)","(ascope.names.all(fy$0))","(ap.getD$00)","(aNat.two_pow_pos,_)","(adet$0(ast$1$2$3))","(fy,a,e,?_)","(aArray,Y5n)","(t$0iter,ifs$1)","(awpAny,_,_$0_,_$1)","(a.Assign$0$1pos)","(abI$0(afs.map$1)$2)","(aaU$0H,H')","(~ns.length$0)","(aIntsAre$0ns)","(ajH$0$1$2$3(aY4U$4))","(aY1n$0$1a00$2)","(aif_pos,Oo)","(aY3X$0Value)","(aY0b$0(aY1c$1))","(acY(fe,_$0))","(a.ref,it)","(=fs.length$0)","(aabsurd$0Dd)","(aPv$0σ,H)","(aeG,Y1Y)","(fd,?_)","(=A.handled,none)","(anE,Yz$0)","(aY7B$0(aYai$1$2)$3)","(t$0$1$2rfl$3$4)","(aY7r,.And$0)","(aI.cell$0c$1)","(acQ,FQ7(aaD$0)aL)","(aYbo(a.str$0)$1Y3w)","(aabsurd(aaO$0$1)(abP$2))","(aY69$0$1(aeJ$2))","(aaB.mp,a)","(aJ.yld$0$1$2H3)","(aY5,rfl)","(acI(fq$0))","(aY4a(aV(aY0w$0)))","(aY4G$0(aEP$1pins$2$3))","(+A.units$0)","(arE,F,M,best)","(amg_of,X$0$1)","(aY0X$0$1rfl)","(p(avs.map,some)Y0v)","(aList,V)","(asome,e)","(asome,n)","(aY7m,items.size,hi)","(aY8C,vs)","(aY7s,_,rfl,_,rfl,?_)","(aeP,X,scope,xs,N',js)","(aPySem.W.findIn$0(a.ref$1)$2)","(aaT.upd(:o(a.dT$0))$1)","(asome(a.builtin$0))","(abI.cons$0bI.nil)","(aYx(q$0sysModules))","(~xs.length$0)","(e$0scope.names)","(acS,mix)","(aY3X,Str,NameKind)","(=vs.length$0)","(aY99$0(fl,hl$1))","(+xs.length$0)","(~kvs.length$0)","(aOption,Rat)","(aY1G(aY1G$0))","(afZ,rfl,T.b_range(aY18$0))","(aQn.zero,_$0)","(aY0k(aY96$0)$1)","(aY5y$0Dd)","(abB$0(abB$1(aY18$2)))","(akI(aeP.o$0$1$2)$3Ybl(f_,_,_,_$4))","(a.inr,rfl)","(a.Name,x1$0)","(a.Name,x2$0)","(ad.getD$00)","(abR(fw,_$0))","(amJ,Y8Y$0$1)","(agS$0Y0f$1)","(aY5c$0$1$2$3$4Y04)","(acC.mp,a)","(a.Name,x,pos)","(anW,rfl(aeB(aYai$0$1)(aeB(aYai$2$3)$4)))","(aY03(aY1I$0))","(akR$0scope$1$2$3)","(e$0Y6B)","(aaU.self(:p$0)(:H$1)(:o(a.ins$2$3$4)))","(akU,items.size$0$1)","(aList.ext_getElem?(fi$0))","(awpAny(amodel,X.prog,X.w)$0$1$2$3$4)","(afF(adB.o$0$1)$2Ybl(f_,_,_,_$3))","(apG$0rfl$1)","(a.BoolOp$0$1pos)","(t$0$1rfl$2$3$4)","(f_,_,_,False)","(acD$0(aY17$1)$2)","(a.Subscript$0$1pos)","(afD(:xs$0)$1Y8Z$2$3$4$5)","(abR(:g,Y3x)$0)","(=(ah'.get?$0)$1)","(aValue.ref,a)","(asome(a.own$0))","(agK,PassesOwn.never,rfl$0$1(aaS$2))","(fe,a,?_)","(ahs.extBut,b$0$1$2)","(adW(:j,0)$0)","(asome,Ys)","(f_,none)","(aabsurd,rfl$0)","(a.cons$0.nil)","(aMd.det$0(ast$1$2$3))","(a.Call(a.Name$0$1)$2$3pos)","(aY46$0(a.tup$1))","(aSem,Value)","(afZ,rfl,T.b_range(aY4U$0))","(Ai,y,H1,H2(>$0$1))","(aY2S(ajA.of$0))","(aY4B(aY2R$0)$1)","(aY4e,c.sum)","(aIsEnum$0$1$2$3old)","(aupd$0$1(a.ins$2$3$4))","(aI.freeC$0c$1)","(ae,z.symm)","(aY03(aY03,Bool))","(q$0.cell)","(aJ.stop,i$0)","(azT$0scope)","(aYh(a.Call(a.Name,x$0)$1$2pos)$3)","(aaK$0(aY74$1))","(t$0$1(a.func$2)$3)","(aaN.mp,h)","(>Y1o(>Hp(aY0C,VK)))","(aI.pin,p$0)","(aY05(aY8c$0))","(q(ascope.names.lookup$0)Y3p)","(+s.heap.objs.size$0)","(t$0(agH.of$1))","(awpAny_bind(awpAny_seqItems$0$1$2))","(acW$0(fe$1))","(alG$0rfl,?_)","(~X.s₀.heap.objs.size$0)","(aY7o,X.A$0$1$2$3)","(asome(azO$0$1))","(acongrArg,List.length$0)","(aattributeBase$0$1X.env$2)","(asc.names.lookup,x)","(aD.nx,σ$0)","(as.TypeIs(a.ref$0)$1)","(aList(aOption$0))","(awpAny_bind(awpAny_field$0$1(:x$2)rfl$3))","(awpAny_callSpecial?_slot(:name(aStr.ofString$0))$1$2(awpAny_call_entry$3$4$5$6$7))","(akeepIn$0(a.ref$1))","(a.Constant$0$1pos)","(fi,j(a.int$0))","(asome(a.str$0$1))","(f_,_,q,q)","(atypeIs_int$0$1t)","(ad.map,V.int)","(aY6M$0c_Master$1)","(a.inr(a.inl$0))","(aaJ,I.ok.bsz$0)","(asome(a.frz$0$1))","(a.bool,true)","(a.Tuple,elts$0$1)","(aI.ok.hd,hc)","(aY1f,ds$0)","(aY10,t.word(aStr.ofString$0))","(aYl,Y5o)","(aYcF$0(asome$1)pos.line)","(acP(:i,1)$0$1)","(afs.take,i)","(aY3X,Str,Value)","(aY68$0$1T.b_len$2$3)","(&(Aσ',H'$0)(Ax,H'$1))","(aInt.gcd$0d)","(<$0fs.length)","(fσ,H,Q(ata$0$1(fx,H1$2)))","(adI.int,_)","(acD,fT,aL$0)","(aY1c(adX$0))","(atK,PySem.F.plainAttrs_list,PySem.F.slot_list_append,PySem.F.type_list_append$0$1(aY18$2))","(aY0U$0(fv,q$1))","(q$0.free)","(tDd$0)","(-e.length$0)","(astart$0vs)","(=(akvs.any$0)$1)","(aS.cells,I.ok)","(f_,_,_,_,_,r,r)","(aY3X(aList,fS)$0)","(acF$0(fw$1))","(awpAny_bind(awpAny_setField_rec$0$1$2))","(aY8e$0$1X.xe$2)","(aPySem.W.keepIn$0(a.ref$1))","(awpAny_passesOwn$0(athn$1$2))","(al.map(aY50$0))","(aPySem.W.isFn$0(a.ref$1))","(aNat.le_add_right,_$0)","(aY2k(agH.of$0)$1)","(=(aX.env.cells.lookup$0)Y1v)","(t(aStr.ofString$0)$1$2)","(aLoc,X.env.scope$0)","(abootBuiltins,x)","(aY6M$0c_Weighing$1)","(aPaired(fc,y$0)$1$2)","(=ns.length$0)","(atupleKind(agO$0$1))","(a.ref,c.NOUGHT)","(aY6V,ps.length)","(qapos.endLine,cpos.line)","(<ys.length,sizeLine)","(aHeap.SameBut,e$0$1)","(aIsZip$0$1$2$3.ellipsis)","(amin,xs.length,ys.length)","(abI.ofRange,Oo$0)","(aY0b(fi,m,σ,H$0)$1)","(aFalse.elim,a)","(aA.deeper(aYaf$0$1$2$3))","(acodeAny(amodel$0$1)$2$3$4$5)","(akvs.map(fkv$0))","(t$0(fx,H3,y$1))","(aassign$0X.env)","(aiT,vs.length$0)","(a.call(a.ref$0)$1)","(aK.In,s.heap)","(a.UnaryOp$0$1pos)","(aYf(ak.map$0))","(aJ2.ok.exf,b$0)","(aJ3.ok.exf,b$0)","(aB.getD$0.non)","(abL$0(abV.mpr$1))","(aK,w.params)","(akO(fi,y,H'$0)$1$2$3$4)","(ajL.i$0(awE.of$1)$2$3)","(~fs.length$0)","(aPaired(aUM$0$1)$2$3)","(~$0es.length)","(a.Call(aYcH$0apos)$1$2$3)","(aps.zip,us)","(ane,z.symm)","(fon,?_)","(a.Tuple$0$1pt2)","(aY21(apyNext(a.ref$0)))","(aY8P(aY6q$0))","(amN$0(a.type$1)$2)","(<$0js.length)","(atn$0s.heap)","(aIA,Yr)","(axs.getD$00)","(aY7u,dN$0Y2d)","(a.Compare,a$0$1$2)","(aBindsTo$0fd$1$2)","(aj.extBut,_$0$1$2)","(aLG,vs.length(aPY,cs))","(aEB(aPY,cs)$0vs.length)","(aAn3$0Y1$1)","(aEG(asome$0)$1)","(aYdX,Y2D$0$1)","(aYdY,Y2D$0$1)","(aiR(ahJ,Y06$0)Y06$1)","(alF,false,false,rfl,T.b_zip(aY1S$0$1))","(a.bl,true)","(a.Name,x,pos')","(aY1I,Bool)","(aQ,.non,H')","(fc(aPyData.tuple(ac.map,.int)))","(aenvOfC$0$1s.heap.objs.size$2$3)","(aBuiltin.SmallTypes.nextOf(a.ref$0))","(aPyProof.Rows.callWith_type1(athn$0$1)$2$3)","(adE(:i$0)$1rfl(aOr.inl,rfl))","(awpAny_bind(awpAny_attempt$0))","(aY5(fcdv,A,outer,s,hr$0))","(awpAny_bind(awpAny_rule$0))","(aI.turned(:t'$0)(fb,o,j,e$1)$2$3$4$5$6)","(aI1.fpOk$0(aI1.hok.fresh$1))","(acF$0(ff$1))","(AC,fp,s₀,H₀(agY$0$1$2))","(AC,fp,s₀,H₀(aLA$0$1$2))","(amL$0$1$2Nat.one_le_two_pow)","(aY3c$0s.heap.objs.size$1$2)","(fi,σ,H',_,q,?_)","(aHeap.SameBut$0s.heap$1)","(%$0s.heap.objs.size)","(f_,_,_,_,_,h,h)","(aPySem.W.plainGet,K$0$1)","(aList.replicate,W$0)","(aI.tuple(ajA.of$0))","(adI.tup$0(abI.cons$1$2))","(fi,σ,H'(aEx2$0))","(acall(a.builtin$0)$1)","(aHT.kU,xs.length$0$1)","(aMeets$0(f_,R,s$1))","(aYx(abehindInMarks$0$1))","(aArray,DictEntry)","(aAllBare,s'.gens)","(aValue.ref,Y20)","(awpAny_bind(awpAny_mono$0$1(f_,_,a$2)))","(aRat.le_trans$0?_)","(aNat.succ_pos,_)","(aY0O,kvs.length)","(awpAny_pure(aYcL$0))","(aPassesOwn,Y4y$0$1$2)","(aX.base.get?,b)","(f_,_,False)","(acongrArg,some$0)","(=(aenv.cells.lookup$0)$1)","(aσ.set$0Ys)","(acompEnvC,scope$0$1$2)","(asome(aseqObj$0$1$2))","(fc(adecide$0))","(aSX,xs.length$0)","(aG.getD,c.sum$0)","(afs.lookup,f)","(fd,hd,?_)","(aY1f(acs.map$0)$1)","(a.inl(a.inl$0))","(fσ,H,R(ata$0$1$2))","(asV(afs.zip$0))","(aIsTup,s.heap$0$1)","(aIsTup.new$0_)","(atJ$0(aκ.mono$1)$2)","(abI.flat$0(amH$1)$2)","(art.flat$0(alT$1$2))","(=(as₁.heap.get?$0)$1)","(aOption,Nat)","(a.ref,c.ONE)","(aI.base.free,b$0$1$2$3)","(aK.lookup,a)","(fi,d,?_)","(aY6R,100000)","(aY1M,ns.sum)","(aYf,Ybx)","(akL(:n,n)$0)","(%t.word(aStr.ofString$0))","(f_,_,_,_,cT)","(=(as.heap.get?$0)$1)","(=(ascope.names.lookup$0)$1)","(agM(:v$0)rfl$1$2)","(awpAny_bind(awpAny_bind$0))","(aInt.pos_of_mul_pos_right,this$0)","(aNat.mul_le_mul$0(aNat.le_of_lt$1))","(awpAny_bind(awpAny_standAt$0))","(aList.getElem?_set_ne(fz$0))","(aI.laid(:t',s.toks)(:o$0)$1$2$3)","(atupleKind_room_in1,hu)","(aI1.kept(:t'$0)(fb,o,e$1))","(ac.map,V.int)","(qX.env.scope.kind$0)","(abase.Ns,mainGlobals$0)","(aPySem.W.hasDictIn,K$0)","(aInt.gcd_dvd_right$0d)","(aA.under(a.builtin$0$1))","(awpAny_loadPart',c)","(agC.like(:p$0)(:L$1)(fi$2))","(fb,o,e,n,O,hx,?_)","(aswapsWithSole$0$1pos.line$2)","(as.heap.IsSliceOf$0$1$2.none)","(aYbp(awpAny_onRaise$0))","(aH,s.heap.objs.size)","(aPySem.W.plainOver,K$0)","(awpAny_mono$0$1(f_,_,x$2))","(aswappedStores$0$1X.env)","(ans.map,PyData.int)","(awpAny_loadPart',j)","(awpAny_loadPart',m)","(avs.getD$0Value.none)","(acodeAny_builtin$0?_)","(aF.oky$0(fD,H,Q,E,h$1))","(%s.heap.objs.size$0)","(aPySem.W.instObj,C$0)","(aPySem.W.makesIn,K$0)","(aInt.emod_nonneg,_$0)","(aOption,NameKind)","(+c.heap.objs.size$0)","(ah.Ns,mainGlobals$0)","(aw.toList.map(fi$0))","(=(aX.s₀.heap.get?$0)$1)","(aVis,X.env.scope$0)","(aPySem.W.codeIn,K$0$1)","(asubscripted$0false$1$2)","(akX(:env$0)$1$2S.cell)","(aQn.sumR(:n,W)$0)","(<kvs.length,sizeLine)","(anewFunctionEnv$0$1$2$3$4$5$6(asome$7))","(adE(:i$0)$1$2(aOr.inr$3))","(acongrArg,V.int$0)","(a.Subscript$0$1pos')","(fx,H',y,?_)","(aaK(:m,100000)$0$1)","(aaT.thru$0$1aU.self)","(aY0O,ys.length)","(aY5u,ys.length)","(aY6X,zs.length)","(aY9g,ms.length)","(aY6h,xs.length)","(aabsurd(abV.mp$0)$1)","(a.compStart$0$1Y6e$2$3)","(fi,H(Exs,x$0))","(q$0items.size)","(f_,_,q(aY1G$0))","(fb,z(aabsurd$0$1))","(aHT.kU,d.length$0$1)","(axs.map,V.int)","(aPyData.eqv$0d')","(fb,a,h(as.at$0$1))","(aHeap.ExtBut$0$1h')","(aRat.mul_pos,g$0)","(aYbo$0T.g_NOUGHT$1)","(awpAny_bind(aAL$0$1$2$3))","(agH.of(ab'.at$0$1))","(a.done(a.ret$0))","(aMd.gL(fk,_$0)$1)","(aY16(acongrArg$0$1))","(abR(:g$0)(fw,_$1))","(aList.replicate$00)","(=(aX.env.scope.names.lookup$0)$1)","(aswapsWith$0$1$2X.env)","(ajW$0$1T.b_tuple$2$3)","(a.Attribute,o$0$1)","(aX.s₀.heap.get?,s.heap.objs.size)","(awpAny_typeNameOfWhole_keyiter$0?_)","(aRat.le_of_lt(aRat.inv_pos.mpr$0))","(aY6(awpAny_pure$0))","(awpAny_bind(awpAny_holding$0))","(avs.toArray.zip,vs.toArray)","(aList.toArray(aList.range$0))","(aNat.le_mul_of_pos_right,_$0)","(awpAny_bind(awpAny_letGo$0))","(awpAny_isOneOf_keyiter$0?_)","(awpAny_pure(awpAny_pure$0))","(a.ref,c.heap.objs.size)","(aAround.under_plainId$0_)","(auY(:xs$0)(:ys$1)(fi,σ,H'$2)$3$4$5$6)","(acall_meetsIn,PySem.F.slot_dict_get$0PySem.F.entry_dict_get$1$2$3)","(awpAny_bind(:m(aBuiltin.Tuple.tupleExact$0))(awpAny_newObj_type$1$2))","(ascope.names.filter(fy$0))","(abootBuiltins(aStr.ofString$0))","(aList.toArray(ap.toList.map$0))","(aHeap.SameBut,s.heap.objs.size$0$1)","(aList.of_mem_zip(:a$0)(:b$1)d)","(alookup_relabel_local,this)","(aPySem.F.args_tuple_add_2,_$0)","(aY41$0$1(aList.contains_iff_mem.mp$2))","(aPySem.W.plainGet_of,hg)","(aCalls.spliced_cons(athn$0$1))","(aI.call'(:s'$0)(:ch$1)$2$3(aJ.hok.but$4$5)$6$7)","(aBR(:F,F)(:M$0)(:best$1))","(aNat.lt_of_succ_lt,this)","(atK,PySem.F.plainAttrs_list,PySem.F.slot_list_extend,PySem.F.type_list_extend$0$1$2)","(as.heap.FunFrames,X.base$0)","(acall_meets$0$1$2(aF.args_tuple_mul_2$3$4)$5$6)","(aI.mod.glob.keeps,I.bk)","(awpAny_bind(awpAny_load$0$1))","(asY.some_of(:v,v)(:o$0)$1)","(aInt.emod_nonneg$0(:b$1)Oo)","(aNat.one_lt_two_pow,Dd)","(ah'.Ns,s.heap.objs.size$0)","(awpAny_bind(aseqEpoch_at$0$1$2))","(acall_meets$0$1$2(aF.args_int_rmul_2$3$4)$5$6)","(acodeAny_compStart_list$0(aT.self$1$2$3$4$5$6$7))","(aI.turnedL(:t',s.toks)$0$1)","(aI.hok.fresh(aaM,s.heap.objs.size))","(aNat.pos_of_ne_zero(fz$0))","(aI1.hok.fresh,Yp)","(aH2,s.heap.objs.size)","(aNat.pow_pos,I.mz.s1)","(awpAny_newObj_type,?_$0)","(aaFh$0$1$2$3(fv,u,g,x,y,H2,I2,e,d,q$4))","(aaEG(f_,_,_,_,_,_,_,q$0))","(aInt.emod_lt_of_pos,_$0)","(aeM(:l$0)(:j$1)(:a$2)Oo)","(aY7y,s.heap.objs.size$0)","(ld.heap.objs.size)","(aNat.lt_succ_self,_)","(awpAny_dictEntries,hod$0$1)","(aPyData.depthAll,ds)","(fj,σ,H',_,q,?_)","(aI.write(:x$0)(:e$1)$2Y3t$3$4$5)","(aget?_update_seq$0(f_$1))","(asome(aValue.type$0))","(aI1.laid(:t'$0)$1Yp$2)","(AC,fp,s₀,H₀(aPG$0$1$2))","(aInt.gcd_dvd_left$0d)","(awpAny_holding,?_)","(ff,vs(aPySem.call$0$1))","(awpAny_dictEpoch,hod$0$1)","(aF.oky$0(fC,H,Q,E,h$1))","(aF.oky$0(fR,H,Q,E,h$1))","(fe,H,Q,E,h,?_)","(f_,_,_,h(arT.same$0$1))","(~s.heap.objs.size$0)","(+s1.heap.objs.size$0)","(aRR$0s3.heap.objs.size$1$2)","(aInt.mul_pos,h.pos$0)","(aupd$0s.heap.objs.size$1)","(aNat.pow_lt_pow_right,Dd$0)","(AC,fp,s₀,H₀(aPE$0$1$2))","(AC,fp,s₀,H₀(aRG$0$1$2))","(aRat.mul_le_mul_of_nonneg_left$0(aRat.le_of_lt$1))","(aBuiltin.SmallTypes.ownedTupleIsFree(a.ref$0))","(aI.laid(:a,s.heap.objs.size)(:o$0)(:h'$1)(:t'$2)$3$4$5)","(awpAny_isInstance(:T$0)(:b$1)$2isSubtype_stop$3)","(aInt.ediv_nonneg$0(aInt.natCast_nonneg$1))","(awpAny_bind(awpAny_updateSeq_pair$0$1))","(awpAny_comprehension_free(:use$0)$1$2$3$4S.names$5)","(aRat.le_of_mul_le_mul_right(:c$0)$1g)","(aI.lnew(:its$0)(:ys$1)(:t',s.toks)$2$3)"]
def zK:List (Char × String × String):=[('x',"«term_×_»","×"),('>',"Lean.Parser.Term.arrow","->"),('=',"«term_=_»","="),('|',"«term_∨_»","\\/"),('&',"«term_∧_»","/\\"),('q',"«term_==_»","=="),('p',"«term_++_»","++"),('%',"«term_≠_»","≠"),('<',"«term_<_»","<"),('~',"«term_≤_»","<="),('e',"«term_∈_»","∈"),('#',"«term_::_»","::"),('+',"«term_+_»","+"),('*',"«term_*_»","*"),('-',"«term_-_»","-"),('^',"«term_^_»","^"),('/',"«term_/_»","/")]
def zW(c:Char):Bool:=c.isAlphanum||c.val>127||"_.'!?".contains c
def zI(s:String):zs:=if s=="_" then zm "hole" #[za "_"] else if s=="?_" then zm "syntheticHole" #[za "?",za "_"] else if s=="Prop" then zm "prop" #[za s] else if s.front=='.' then zm "dotIdent" #[za ".",Lean.mkIdent (s.drop 1).toString.toName] else if s.front.isDigit then Lean.Syntax.mkNumLit s else Lean.mkIdent s.toName
def zS(x:Array zs):zs:=zn `null ((x.foldl (fun a y=>(a.push y).push (za ",")) #[]).pop)
def zB(o:Char)(b:Array zs):zs:=
 let l:=zn `null b.pop
 match o with
 |'a'=>zm "app" #[b[0]!,zn `null (b.extract 1 b.size)]
 |'t'=>zm "anonymousCtor" #[za "⟨",zS b,za "⟩"]
 |'l'=>zn `«term[_]» #[za "[",zS b,za "]"]
 |'g'=>zn `«term__[_]_?» #[b[0]!,zn `group #[],za "[",b[1]!,za "]",zn `group #[],za "?"]
 |':'=>zm "namedArgument" #[za "(",b[0]!,za ":=",b[1]!,za ")"]
 |'f'=>zm "fun" #[za "fun",zm "basicFun" #[l,zn `null #[],za "=>",b.back!]]
 |'A'=>zm "forall" #[za "∀",l,zn `null #[],za ",",b.back!]
 |'E'=>zn `«term∃_,_» #[za "∃",zn `Lean.explicitBinders #[zn `Lean.unbracketedExplicitBinders #[zn `null (b.pop.map fun x=>zn `Lean.binderIdent #[x]),zn `null #[]]],za ",",b.back!]
 |_=>match zK.find? (·.1==o) with
 |some (_,k,s)=>zn k.toName #[b[0]!,za s,b[1]!]
 |none=>.missing
def zL(x:Array zs):Nat->List Char->Array zs->Array zs × List Char
|0,r,a=>(a,r)
|_,[],a=>(a,[])
|n+1,c::r,a=>
 if c==')' then(a,r)
 else if c==',' then zL x n r a
 else if c=='$' then zL x n r.tail (a.push (x[r.head!.toNat-48]!))
 else if c=='(' then
  let (b,q):=zL x n r.tail #[]
  zL x n q (a.push (zB r.head! b))
 else
  let w:=(c::r).takeWhile zW
  zL x n ((c::r).drop w.length) (a.push (zI (String.ofList w)))
def zX(f:zs)(x:Array zs):Lean.MacroM zs:=
 let s:=f.getId.toString.toList
 let d:=fun c:Char=>if c.isDigit then c.toNat-48 else if c.isLower then c.toNat-87 else c.toNat-29
 let i:=match s with |['Y',a]=>d a |['Y',a,b]=>62+62*d a+d b |_=>99999
 if i<zT.size&&zT[i]!!="" then return (zL x 999 zT[i]!.toList #[]).1[0]! else Lean.Macro.throwUnsupported
local macro_rules
|`($f:ident $x*)=>zX f x
|`($f:ident)=>zX f #[]
set_option hygiene true
def Oo{p:Prop}(h:p:=by first|lia|omega):p:=h
def Dd{p:Prop}(h:p:=by decide):p:=h
def Kk{p:Prop}(h:p:=by decide +kernel):p:=h
abbrev Aa:=PySem.W.Frag
abbrev Ab:=List (List Nat)
abbrev Ac:=List (List Int)
abbrev Ad:=Y3X PySem.Addr PySem.Obj
abbrev Ae:=List Nat
abbrev Af:=List Int
abbrev Ag:=List PySem.Value
abbrev Ah:=Y0e
abbrev Ai:=Array PySem.Value
namespace PySem
abbrev aA:=@List.length_map
abbrev aB:=@List.getElem?_eq_some_iff
abbrev aC:=@List.getElem?_eq_getElem
abbrev aE:=@List.mem_of_getElem?
abbrev aF:=@Heap.get?_push_of_some
abbrev aG:=@List.getElem?_map
abbrev aI:=@Nat.pow_le_pow_right
abbrev aJ:=@Nat.le_trans
abbrev aK:=@Nat.lt_of_le_of_lt
abbrev aM:=@Nat.le_refl
abbrev aN:=@List.mem_map
abbrev aO:=@Nat.lt_of_lt_of_le
abbrev aR:=@List.getD_eq_getElem?_getD
abbrev aV:=@List.length_append
abbrev aW:=@List.length_range
abbrev aY:=@Heap.lt_size
abbrev aZ:=@Heap.get?_push_size
abbrev bC:=@List.mem_cons_self
abbrev bD:=@List.map_append
abbrev bE:=@List.map_cons
abbrev bF:=@List.size_toArray
abbrev bG:=@List.mem_cons_of_mem
abbrev bH:=@List.length_replicate
abbrev bL:=@List.mem_append_right
abbrev bM:=@List.getElem?_range
abbrev bN:=@List.mem_cons
abbrev bO:=@Nat.mul_le_mul_right
abbrev bP:=@Nat.lt_irrefl
abbrev bT:=@decide_eq_false
abbrev bV:=@List.mem_singleton
abbrev cA:=@List.getElem?_eq_none
abbrev cB:=@Rat.mul_nonneg
abbrev cC:=@List.mem_range
abbrev cE:=@Bool.false_ne_true
abbrev cI:=@Classical.byContradiction
abbrev cJ:=@List.getElem?_append_right
abbrev cK:=@Nat.zero_le
abbrev cL:=@List.length_cons
abbrev cM:=@List.getElem?_append_left
abbrev cN:=@List.mem_append_left
abbrev cO:=@decide_eq_true
abbrev dD:=@Int.natAbs_mul
abbrev dG:=@Bool.and_eq_true
abbrev dH:=@List.mem_append
abbrev dJ:=@Nat.ne_of_lt
abbrev dL:=@List.take_length
abbrev dY:=@Nat.mul_le_mul_left
abbrev eI:=@Option.map_eq_some_iff
abbrev fN:=@Nat.mul_pos
abbrev fO:=@List.map_congr_left
abbrev fW:=@Heap.size_push
abbrev fX:=@Option.some.inj
abbrev fY:=@List.mem_filter
abbrev gB:=@List.length_take
abbrev gI:=@List.mem_iff_getElem?
abbrev jV:=@List.take_add_one
abbrev kG:=@Nat.le_of_dvd
end PySem
open PySem
namespace L2
open PySem PySem.Spec PyProof.Rows
abbrev fS:=Sum Int Str
def EZ:fS->Y2w Bool
 | .inl k,v=>Value.isInt k v
 | .inr x,v=>Value.isStrOf x v
def aIy(w:World):fS->Int
 | .inl k=>hashInt k
 | .inr x=>hashStr w x
def iK:∀{k:fS}{v:Value},EZ k v=true->(∃i t,k=Sum.inl i/\v=Value.int i t)\/(∃x t,k=Sum.inr x/\v=Value.str x t)
 | .inl i,v,h=>by
  obtain⟨t,e⟩:=Value.isInt_shape (k:=i) (v:=v) h;exact .inl ⟨i,t,rfl,e⟩
 | .inr x,v,h=>by
  obtain⟨t,e⟩:=Value.isStrOf_shape (x:=x) (v:=v) h;exact .inr ⟨x,t,rfl,e⟩
def SW(i:Int)(t:Tok):EZ (.inl i) (Y4g i)=true:=by simp[EZ,Value.isInt]
def SV(x:Str)(t:Tok):EZ (.inr x) (.str x t)=true:=by simp[EZ,Value.isStrOf]
def aEV(a b:Int):Y10 (Sum.inl a:fS) (Sum.inl b)=(a == b):=by
 by_cases e:a=b
 ·subst e;simp
 ·have h:¬(Sum.inl a:fS)=Sum.inl b:=λq=>e (Sum.inl.inj q);rw[bT h];exact(beq_eq_false_iff_ne.mpr e).symm
def aES(a b:Str):Y10 (Sum.inr a:fS) (Sum.inr b)=Y10 a b:=by
 by_cases e:a=b
 ·subst e;simp
 ·have h:¬(Sum.inr a:fS)=Sum.inr b:=λq=>e (Sum.inr.inj q);rw[bT h,bT e]
def aEU(a:Int)(b:Str):Yx (Y10 (Sum.inl a:fS) (Sum.inr b)):=bT (λq=>nomatch q)
def aET(a:Str)(b:Int):Yx (Y10 (Sum.inr a:fS) (Sum.inl b)):=bT (λq=>nomatch q)
def gO(prog:Program)(w:World):PySem.KeyKind prog w fS where
 is:=EZ
 hash:=aIy w
 inj:=λv a b ha hb=>by
  rcases iK ha with⟨i,t,rfl,rfl⟩ | ⟨x,t,rfl,rfl⟩
  ·rcases iK hb with⟨j,u,rfl,e⟩ | ⟨y,u,rfl,e⟩
   ·injection e with e1 _;rw[e1]
   ·exact nomatch e
  ·rcases iK hb with⟨j,u,rfl,e⟩ | ⟨y,u,rfl,e⟩
   ·exact nomatch e
   ·injection e with e1 _;rw[e1]
 byValue:=λk v h=>by
  rcases iK h with⟨i,t,rfl,rfl⟩ | ⟨x,t,rfl,rfl⟩ <;> rfl
 pyHash:=λhv h=>by
  rcases iK hv with⟨i,t,rfl,rfl⟩ | ⟨x,t,rfl,rfl⟩
  ·exact wpAny_pyHash_int h
  ·exact wpAny_pyHash_str h
 eqBool:=λhu hv h=>by
  rcases iK hu with⟨i,t,rfl,rfl⟩ | ⟨x,t,rfl,rfl⟩
  ·rcases iK hv with⟨j,u,rfl,rfl⟩ | ⟨y,u,rfl,rfl⟩
   ·rw[aEV]at h;exact wpAny_eqBool_int h
   ·rw[aEU]at h;exact SeqAt.EqAt.int_str i t y u _ _ _ _ h
  ·rcases iK hv with⟨j,u,rfl,rfl⟩ | ⟨y,u,rfl,rfl⟩
   ·rw[aET]at h;exact SeqAt.EqAt.str_int x t j u _ _ _ _ h
   ·rw[aES]at h;exact wpAny_eqBool_str h
 «strs» := λk x t v h=>by
  rcases iK h with⟨i,u,rfl,e⟩ | ⟨y,u,rfl,e⟩
  ·exact nomatch e
  ·injection e with e1 _;subst e1;cases v <;> rfl
def JG(prog:Program)(w:World)(i:Int)(t:Tok):(gO prog w).is (.inl i) (Y4g i)=true:=SW i t
def JF(prog:Program)(w:World)(x:Str)(t:Tok):(gO prog w).is (.inr x) (.str x t)=true:=SV x t
inductive V where
 | non | bl (b:Bool) | int (i:Int) | str (x:Str) | byt (b:Array UInt8) | flt (b:UInt64) | ref (a:Addr) | ty (n:String)
 deriving DecidableEq
def fE:Y0i V Value
 | .non,u=>u=Value.none
 | .bl b,u=>u=Value.bool b
 | .int i,u=>∃t,u=Value.int i t
 | .str x,u=>∃t,u=Value.str x t
 | .byt b,u=>∃t,u=Value.bytes b t
 | .flt b,u=>∃t,u=Value.float b t
 | .ref a,u=>u=Value.ref a
 | .ty n,u=>u=Value.type n
abbrev eE:Y0i Y6F Ag:=Paired fE
theorem eE.length{xs:Y6F}{us:Ag}(r:Y5h):Y5u us.length:=Paired.length r
theorem eE.get:∀{xs:Y6F}{us:Ag}{i:Nat}{x:V},Y5h->Y0s=Y7->∃u,us[i]?=Yo/\fE x u
 | _,_,_,_,.nil,e=>by simp at e
 | _,_,0,_,.cons r _,e=>by simp at e;subst e;exact⟨_,rfl,r⟩
 | _,_,i+1,x,.cons _ t,e=>by
  obtain⟨u,h1,h2⟩:=eE.get (i:=i) (x:=x) t (by simpa using e);exact⟨u,by simpa using h1,h2⟩
theorem eE.set{x:V}{u:Value}(r:fE x u):∀{xs:Y6F}{us:Ag}(i:Nat),Y5h->eE (xs.set i x) (us.set i u)
 | _,_,_,.nil=>.nil
 | _,_,0,.cons _ t=>.cons r t
 | _,_,i+1,.cons q t=>.cons q (eE.set r i t)
theorem eE.append:∀{xs ys:Y6F}{us ws:Ag},Y5h->eE ys ws->eE (xs++ys) (us++ws)
 | _,_,_,_,.nil,s=>s
 | _,_,_,_,.cons r t,s=>.cons r (eE.append t s)
theorem eE.take:∀{xs:Y6F}{us:Ag}(n:Nat),Y5h->eE (xs.take n) (us.take n)
 | _,_,0,_=>.nil
 | _,_,_+1,.nil=>.nil
 | _,_,n+1,.cons r t=>.cons r (eE.take n t)
theorem eE.drop:∀{xs:Y6F}{us:Ag}(n:Nat),Y5h->eE (xs.drop n) (us.drop n)
 | _,_,0,r=>r
 | _,_,_+1,.nil=>.nil
 | _,_,n+1,.cons _ t=>eE.drop n t
def sY:Y0i (Option V) Y5n
 | some v,some u=>fE v u
 | none,none=>True
 | _,_=>False
def KV{κ:Type}:Y0i Y3h (Y6b κ):=Paired λ(p:κ × V) (q:κ × Value)=>p.1=q.1/\fE p.2 q.2
def kV:fS->V
 | .inl i=>.int i
 | .inr x=>.str x
inductive HO where
 /-- a list -/
 | lst (xs:Y6F)
 /-- a tuple (never changes) -/
 | tup (xs:Y6F)
 /-- a dict whose keys are ints and texts;one whose keys are tuples of ints and texts (the empty one is both) -/
 | dK (kvs:Y2F) | dT (kvs:Yv)
 /-- a set of ints: its members,its size -/
 | set (S:Y2K Int) (n:Nat)
 /-- an instance of the class at C,its dict at dx,its attributes -/
 | ins (C dx:Addr) (fs:Y3N)
 /-- the dict of the instance at x -/
 | own (x:Addr)
 /-- the dict of an exception -/
 | xd (fs:Y3N)
 /-- a bound method,f of x -/
 | met (f x:Addr)
 /-- a range object lo,lo+1,.. below hi -/
 | rng (lo hi:Int)
 /-- a thing that is known to the object (the script;a dict while a loop walks it): read,never written while it is so -/
 | frz (o:Obj) (u:HO)
 /-- a code object's table -/
 | tbl (ps:Ai)
 /-- any other thing,by what is true of its one object (a def of one's own: SetO a S n:=HO.ext λh=>..) -/
 | ext (φ:Y55)
abbrev Hp:=Addr->Option HO
def upd(H:Hp)(a:Addr)(o:HO):Hp:=λb=>if b=a then Ya else H b
def bK{H:Hp}{a:Addr}{o:HO}:upd H a o a=Ya:=by unfold upd;rw[Yt]
def eO{H:Hp}{a b:Addr}{o:HO}(h:b≠a):upd H a o b=H b:=by unfold upd;rw[Y5D]
def sW{H:Hp}{a b:Addr}{o u:HO}(h:H a=Ya)(h':H b=Yo)(d:o≠u):a≠b:=by
 intro e;subst e;rw[h]at h';exact d (fX h')
def dR{H:Hp}{a b:Addr}{o:HO}(h:H a=Ya)(h':H b=none):a≠b:=by
 intro e;subst e;rw[h]at h';cases h'
section
variable(P:Program)(w:World)
def hV(H:Hp)(h:Heap)(a:Addr):Y0C HO
 | .lst xs=>xs.length<=sizeLine/\∃(its:Ag) (n:Nat),eE xs its/\h.get? a=some { cls:=.type "list",data:=.seq its.toArray n }
 | .tup xs=>(xs.length<=sizeLine/\∃o,h.get? a=some o/\o.dict=none)/\∃its:Ag,eE xs its/\IsTup h a its.toArray
 | .dK kvs=>kvs.length<=sizeLine/\(a == sysModules)=false/\∃vs,KV kvs vs/\h.DictOf (gO P w) a vs
 | .dT kvs=>kvs.length<=sizeLine/\(a == sysModules)=false/\∃xs:List (List fS × Addr × Value),
   Paired (λ(p:List fS × V) (q:List fS × Addr × Value)=>p.1=q.1/\H q.2.1=some (.tup (p.1.map kV))/\fE p.2 q.2.2) kvs xs /\
   ∃o es ep,h.get? a=some o/\o.ExactDict/\o.data=.dict es ep/\es.toList=xs.map (entryOfKey (tupleKind (gO P w)))/\(xs.map (·.1)).Nodup
 | .set S n=>h.SetOf (intKind P w) a S n
 | .ins C dx fs=>H dx=some (.own a)/\fs.length<=1000/\dx≠a/\h.get? a=some (PySem.W.instObj C dx) /\
   ∃mA,h.Ns1 dx mA/\(∀f,sY (fs.lookup f) (mA f))/\PySem.Within mA (fs.map (·.1))
 | .own _=>∃o,h.get? a=some o
 | .xd fs=>∃mA,h.Ns1 a mA/\∀f,sY (fs.lookup f) (mA f)
 | .rng lo hi=>∃t u v,h.get? a=some { cls:=.type "range",data:=.fields #[.int lo t,.int hi u,.int 1 v] }
 | .frz o u=>h.get? a=some o/\hV H h a u
 | .tbl ps=>h.get? a=some { cls:=.none,data:=.fields ps }
 | .met f x=>h.get? a=some (PySem.W.methodObj (.ref f) (.ref x))
 | .ext φ=>φ h/\(∃o,h.get? a=some o)/\∀h1 h2:Heap,φ h1->(∀o,h1.get? a=some o->h2.get? a=some o)->φ h2
def sZ(H:Hp)(h:Heap):Prop:=∀a o,H a=Ya->hV P w H h a o
end
section
variable{P:Program}{w:World}{H H':Hp}{h h':Heap}{a:Addr}{o:HO}
theorem hV.lt(x:hV P w H h a o):a<h.objs.size:=by
 cases o with
 | lst xs=>obtain⟨_,_,_,_,e⟩:=x;exact Y15
 | tup xs=>obtain⟨_,_,_,p⟩:=x;exact p.lt
 | dK kvs=>obtain⟨_,_,_,_,o,_,_,e,_⟩:=x;exact Y15
 | dT kvs=>obtain⟨_,_,_,_,o,_,_,e,_⟩:=x;exact Y15
 | set S n=>obtain⟨o,_,_,_,e,_⟩:=x;exact Y15
 | ins C dx fs=>obtain⟨_,_,_,e,_⟩:=x;exact Y15
 | own y=>obtain⟨_,e⟩:=x;exact Y15
 | xd fs=>obtain⟨_,⟨_,_,_,e,_⟩,_⟩:=x;exact Y15
 | rng lo hi=>obtain⟨_,_,_,e⟩:=x;exact Y15
 | frz ob u=>obtain⟨e,_⟩:=x;exact Y15
 | tbl ps=>exact aY (show h.get? a=some _ from x)
 | met f y=>exact aY (show h.get? a=some _ from x)
 | ext φ=>obtain⟨_,⟨_,e⟩,_⟩:=x;exact Y15
theorem Paired.mapP{α β:Type}{F G:Y0i α β}:∀{l₁:Yu}{l₂:List β},Paired F l₁ l₂->(∀a b,F a b->G a b)->Paired G l₁ l₂
 | _,_,.nil,_=>.nil
 | _,_,.cons r t,f=>.cons (f _ _ r) (Paired.mapP t f)
def Paired.imp'{α β:Type}{F G:Y0i α β}(f:∀a b,F a b->G a b){l₁:Yu}{l₂:List β}(r:Paired F l₁ l₂):Paired G l₁ l₂:=Paired.mapP r f
def hV.stay(x:hV P w H h a o)(k:∀b u,(b=a\/H b=Y7A a)->Y29=Yo->Y1i=Yo)
  (ho:∀b,H b=Y7A a->H' b=Y7A a) (ht:∀b xs,H b=Y1d->H' b=Y1d):hV P w H' h' a o:=by
 induction o with
 | lst xs=>obtain⟨z,l,n,r,e⟩:=x;exact⟨z,l,n,r,Y3F _ _ e⟩
 | tup xs=>obtain⟨⟨z,s,D,dn⟩,l,r,g,e,c⟩:=x;exact⟨⟨z,s,Y3F _ _ D,dn⟩,l,r,g,Y3F _ _ e,c⟩
 | dK kvs=>obtain⟨z,y,B,r,g,j,i,e,c⟩:=x;exact⟨z,y,B,r,g,j,i,Y3F _ _ e,c⟩
 | dT kvs =>
  obtain⟨z,y,xs,r,g,j,i,e,c⟩:=x;exact⟨z,y,xs,Paired.mapP r λp q z=>⟨z.1,ht _ _ z.2.1,z.2.2⟩,g,j,i,Y3F _ _ e,c⟩
 | set S n=>obtain⟨g,j,i,t,e,c⟩:=x;exact⟨g,j,i,t,Y3F _ _ e,c⟩
 | ins C dx fs =>
  obtain⟨d,z,ne,e,mA,⟨m,j,i,A,c⟩,r⟩:=x;exact⟨ho _ d,z,ne,Y3F _ _ e,mA,⟨m,j,i,k _ _ (.inr d) A,c⟩,r⟩
 | own y=>obtain⟨g,e⟩:=x;exact⟨g,Y3F _ _ e⟩
 | xd fs=>obtain⟨mA,⟨m,j,i,e,c⟩,r⟩:=x;exact⟨mA,⟨m,j,i,Y3F _ _ e,c⟩,r⟩
 | rng lo hi=>obtain⟨t,u,v,e⟩:=x;exact⟨t,u,v,Y3F _ _ e⟩
 | frz g u ih=>obtain⟨e,q⟩:=x;exact⟨Y3F _ _ e,ih q⟩
 | tbl ps =>
  have e:h.get? a=some { cls:=.none,data:=.fields ps }:=x;show Y7y a (some { cls:=.none,data:=.fields ps });exact Y3F a _ e
 | met f y =>
  have e:h.get? a=some (PySem.W.methodObj (.ref f) (.ref y)):=x;show Y7y a (some (PySem.W.methodObj (.ref f) (.ref y)));exact Y3F a _ e
 | ext φ=>obtain⟨p,⟨o,e⟩,st⟩:=x;exact⟨st _ _ p λo q=>Y3F _ _ q,⟨o,Y3F _ _ e⟩,st⟩
theorem sZ.lt(x:sZ P w H h)(e:H a=Ya):a<h.objs.size:=(x a o e).lt
def sZ.fresh(x:sZ P w H h)(e:h.objs.size<=a):H a=none:=by
 cases q:H a with
 | none=>rfl
 | some u=>exact Y6s (x.lt q) e _
def sZ.kept(x:sZ P w H h)(k:∀b u,Y29=Yo->Y1i=Yo):sZ P w H h':=λa o e =>
 (x a o e).stay (λb u _ q=>k b u q) (λ_ q=>q) Y8s
def sZ.laid(x:sZ P w H h)(k:∀b u,Y29=Yo->Y1i=Yo)(hp:h.objs.size<=a)(new:hV P w (Y3n o) h' a o):sZ P w (Y3n o) h':=λb u e=>by
 have d:=x.fresh hp;by_cases hb:b=a
 ·subst hb;rw[bK]at e;cases e;exact new
 ·rw[eO hb]at e;exact(x b u e).stay (λc v _ q=>k c v q) (λc q=>by rw[eO (dR q d)];exact q) λc g q=>by rw[eO (dR q d)];exact q
end
def Rd(H:Hp)(a:Addr)(u:HO):Prop:=H a=Yo\/∃o,H a=Y8y o u
def Rd.ok{P:Program}{w:World}{H:Hp}{h:Heap}{a:Addr}{u:HO}(r:Rd H a u)(x:sZ P w H h):hV P w H h a u:=by
 rcases r with r | ⟨o,r⟩
 ·exact x a u r
 ·obtain⟨_,q⟩:=x a _ r;exact q
def Mut:Y0C (Option HO)
 | some (.lst _)=>True
 | some (.dK _)=>True
 | some (.dT _)=>True
 | some (.set _ _)=>True
 | some (.ins _ _ _)=>True
 | some (.ext _)=>True
 | _=>False
section
variable{P:Program}{w:World}{H:Hp}{h h':Heap}{x e:Addr}{o':HO}
def sZ.write(ok:sZ P w H h)(mu:Mut (H x))(he:e=x\/H e=Y7A x)(k:∀b u,b≠e->Y29=Yo->Y1i=Yo)(heo:∃u,Y7y e Yo)
  (new:hV P w (Y46 x o') h' x o'):sZ P w (Y46 x o') h':=λb u q=>by
 have a:∀c y,H c=Y7A y->c≠x:=λc y r z=>by subst z;rw[r]at mu;exact mu
 have d:∀c g,H c=Yf g->c≠x:=λc g r z=>by subst z;rw[r]at mu;exact mu
 by_cases hb:b=x
 ·subst hb;rw[bK]at q;cases q;exact new
 ·rw[eO hb]at q;by_cases hbe:b=e
  ·have j:H b=Y7A x:=by
    rcases he with z | z
    ·exact absurd (hbe.trans z) hb
    ·rw[hbe];exact z
   rw[q]at j;cases j;obtain⟨v,l⟩:=heo;exact⟨v,by rw[hbe];exact l⟩
  ·refine(ok b u q).stay (λc v i r=>k c v ?_ r) (λc r=>by rw[eO (a c b r)];exact r) λc g r=>by rw[eO (d c g r)];exact r
   rcases i with rfl | i
   ·exact hbe
   ·rintro rfl;rcases he with z | z
    ·exact a c b i z
    ·rw[i]at z;cases z;exact hb rfl
end
structure Un(fs ex:Y0D)(H H':Hp)(h h':Heap):Prop where
 keep:∀b o,Y29=Ya->H b=none->b ∉ fs->b ∉ ex->Y1i=Ya
 slot:∀b o,Y29=Ya->H b=none->b∈fs->b ∉ ex->∃sl,Y1i=some { o with slots:=sl }
 free:∀b o,Y29=Ya->H b=none->b ∉ ex->H' b=none
 there:∀b o,Y29=Ya->b ∉ ex->∃o',Y1i=some o'
 tups:∀b xs,H b=Y1d->H' b=Y1d
 frzs:∀b o u,H b=Y8y o u->H' b=Y8y o u
 tbls:∀b ps,H b=some (.tbl ps)->∃more,H' b=some (.tbl (ps++more))
section
variable{fs fs' ex ex':Y0D}{H H1 H2:Hp}{h h1 h2 h':Heap}{a x e:Addr}{o:HO}
def Un.any(u:Un fs ex H H1 h h1){b:Addr}{ob:Obj}(q:Y29=some ob)(n:H b=none)(hx:b ∉ ex):∃sl,h1.get? b=some { ob with slots:=sl }:=by
 by_cases hb:b∈fs
 ·exact u.slot b ob q n hb hx
 ·exact⟨ob.slots,u.keep b ob q n hb hx⟩
def Un.kept(k:∀b u,Y29=Yo->Y1i=Yo):Un fs ex H H h h' :=
 ⟨λb a q _ _ _=>k b a q,λb a q _ _ _=>⟨a.slots,k b a q⟩,λ_ _ _ n _=>n,λb a q _=>⟨a,k b a q⟩,Y8s,λ_ _ _ q=>q,λ_ c q=>⟨#[],by rw[q];simp⟩⟩
def Un.refl:Un fs ex H H h h:=Un.kept Y8s
def Un.laid(k:∀b u,Y29=Yo->Y1i=Yo)(hp:h.objs.size<=a)(hn:H a=none):Un fs ex H (Y3n o) h h' where
 keep:=λb u q _ _ _=>k b u q
 slot:=λb u q _ _ _=>⟨u.slots,k b u q⟩
 free:=λb u q n _=>by rw[eO (dJ (aO (aY q) hp))];exact n
 there:=λb u q _=>⟨u,k b u q⟩
 tups:=λb c q=>by rw[eO (dR q hn)];exact q
 frzs:=λb u c q=>by rw[eO (dR q hn)];exact q
 tbls:=λb d q=>⟨#[],by rw[eO (dR q hn),q];simp⟩
def Un.write(mu:Mut (H x))(he:e=x\/H e=Y7A x)(k:∀b u,b≠e->Y29=Yo->Y1i=Yo)(heo:∃u,Y7y e Yo):Un fs ex H (Y46 x o) h h':=by
 have c:∀b,H b=none->b≠x:=λb n z=>by subst z;rw[n]at mu;exact mu
 have d:∀b,H b=none->b≠e:=λb n z=>by
  subst z;rcases he with r | r
  ·exact c b n r
  ·rw[n]at r;cases r
 have a:∀b u,H b=Yo->¬Mut (Yo)->b≠x:=λb u q g z=>by subst z;rw[q]at mu;exact g mu
 refine⟨λb u q n _ _=>k b u (d b n) q,λb u q n _ _=>⟨u.slots,k b u (d b n) q⟩,λb u q n _=>by rw[eO (c b n)];exact n,λb u q _=>?_,
  λb i q=>by rw[eO (a b _ q λz=>z)];exact q,λb u i q=>by rw[eO (a b _ q λz=>z)];exact q,λb j q=>⟨#[],by rw[eO (a b _ q λz=>z),q];simp⟩⟩
 by_cases hbe:b=e
 ·subst hbe;exact heo
 ·exact⟨u,k b u hbe q⟩
end
def trk(h:Heap)(H:Hp):Y0D:=(List.range h.objs.size).filter λa=>(H a).isSome
def HB(h:Heap)(H:Hp):Heap:=PySem.W.hideAll h (trk h H)
def TC(h:Heap)(H:Hp):(HB h H).objs.size=h.objs.size:=PySem.W.hideAll_size _ _
def YL{h:Heap}{H:Hp}{b:Addr}{o:Obj}(e:Y29=Ya)(n:H b=none):(HB h H).get? b=Ya :=
 PySem.W.hideAll_get _ e λa=>by
  have q:(H b).isSome=true:=(fY.mp a).2;rw[n]at q;simp at q
def aBw{h:Heap}{H:Hp}{b:Addr}{o:Obj}(e:(HB h H).get? b=Ya):Y29=Ya/\H b=none:=by
 have a:Y29=Ya:=PySem.W.of_hideAll (trk h H) e;refine Y0A a;cases q:H b with
 | none=>rfl
 | some x =>
  have c:b∈trk h H:=fY.mpr ⟨cC.mpr (aY a),by simp[q]⟩;have z:(HB h H).get? b=none:=PySem.W.hideAll_none (trk h H) c;rw[z]at e;cases e
structure Mod(K:Aa)(mg:Y0H)(base:Heap):Prop where
 kin:K.In base
 glob:Ybz mg
 blt:∃mb,base.Ns builtinsNs mb/\∀x:Str,x ≠ "__name__" -> mb x=Y9d
 nolimit:base.NoLimit
/-- the context: a def's body (or a comprehension's block) running. base: fixed through the whole law;s₀,H₀: the entry;outer: the frames whose slots others may change (a def's callers);stack: all frames that run;
   ex: iterators that were made ahead of the entry and are walked here (a comprehension's);fn: the names whose cells were made at the entry (a def: all;a comprehension's block: its own);calm: not within an except suite;pn: pins that every state bears;xe: what is wanted of an exception that leaves the code -/
structure Cx where
 prog:Program
 w:World
 K:Aa
 mg:Y0H
 base:Heap
 A:Around
 N:Ah
 s₀:Shared
 H₀:Hp
 env:Env
 outer:Y3z
 stack:Y3z
 ex:Y0D
 fn:Y2K Str
 calm:Bool
 pn:Ad
 xe:Yc
def frs(l:Y3z):Y0D:=l.filterMap (·.frame)
abbrev Cx.fs(X:Cx):Y0D:=frs X.outer
def Vis(sc:Scope)(x:Str):Prop:=Y8i=Y3p\/Y8i=Y1C\/Y8i=some .free
def Loc(sc:Scope)(x:Str):Prop:=Y8i=Y3p\/Y8i=Y1C
def aJd(env:Env)(h:Heap)(m:Y0H)(x:Str)(u:Value):Prop :=
 (env.kindOf x=Y3p/\m x=Yo)\/((env.kindOf x=Y1C\/env.kindOf x=some .free)/\∃c,YaS x Y1v/\h.IsCell c (Yo))
structure Cx.Ok(X:Cx):Prop where
 mod:Mod X.K X.mg X.base
 kind:X.env.scope.kind=.function
 glob:X.env.globals=mainGlobals
 blt:X.env.builtins=builtinsNs
 above:Y8d X.env.locals
 inj:∀x y c,Y3Q->Y9a y->x=y
 has:∀x,(Y52 x Y1C\/Y52 x (some .free))->∃c,Y3Q
 cab:∀x c,X.fn x=true->Y3Q->Y8d c
 hd:Y1F->X.A.handled=none
 frames:X.A.frames=some X.stack
 stk:X.stack=X.outer\/(X.stack=X.env::X.outer/\X.env.frame=some X.env.locals)
 exf:∀b∈X.ex,Y4p b/\∀x c,Y3Q->c≠b
 bs:∀b o,YaP=Ya->Yc1 b Ya/\X.H₀ b=none
 bsz:X.base.objs.size<=X.s₀.heap.objs.size
 noex:∀b o,YaP=Ya->b ∉ X.ex
 exfs:∀b∈X.ex,b ∉ X.fs
 funs:X.s₀.heap.FunFrames X.base X.outer
 frf:∀b∈X.fs,X.H₀ b=none
structure cU(X:Cx)(pins:Ad)(σ:Y8l V)(H:Hp)(s:Shared):Prop where
 ok:X.Ok
 os:s.os=X.s₀.os
 bare:AllBare s.gens
 base:Un X.fs X.ex X.H₀ H X.s₀.heap s.heap
 loc:∃m,s.heap.Ns X.env.locals m/\∀(i:Nat) (x:Str) (v:V),Y35=Y7->σ[i]?=Y7F->Yc2 x->∃u,Y3S/\aJd X.env s.heap m x u
 cell:∀x c,Y3Q->∃v,s.heap.IsCell c v
 free:H X.env.locals=none
 freeC:∀x c,Y3Q->H c=none
 pin:∀p∈X.pn++pins,Y1V p.1 p.2/\H p.1=none/\Y4p p.1/\p.1 ∉ X.fs/\∀v,p.2.data ≠ .cell v
 hok:sZ X.prog X.w H s.heap
 len:σ.length=X.N.length
section
variable{X:Cx}{pins:Ad}{σ:Y8l V}{H H':Hp}{s:Shared}{h':Heap}
def Cx.Ok.nofr(ok:X.Ok){b:Addr}{o:Obj}(e:YaP=Ya):b ∉ X.fs:=λa=>by
 have:=(ok.funs.mem a).1;rw[e]at this;cases this
theorem cU.bs(I:Y4):∀b o,YaP=Ya->Y23/\H b=none:=λb o e =>
 ⟨I.base.keep b o (I.ok.bs b o e).1 (I.ok.bs b o e).2 (I.ok.nofr e) (I.ok.noex b o e),Ybd o ((I.ok.bs b o e).1) ((I.ok.bs b o e).2) (I.ok.noex b o e)⟩
def cU.bk(I:Y4):∀b o,YaP=Ya->Y23:=λb o e=>(I.bs b o e).1
theorem cU.mod(I:Y4):Mod X.K X.mg X.base:=I.ok.mod
def cU.kIn(I:Y4):X.K.In s.heap:=I.ok.mod.kin.keeps I.bk
theorem cU.lt(I:Y4):Y3r X.env.locals:=let ⟨_,hn,_⟩:=I.loc;hn.lt
def cU.sz(I:Y4):Y8d s.heap.objs.size:=aJ I.ok.above (Nat.le_of_lt I.lt)
def cU.nofs(I:Y4){a:Addr}(h:YdR a):a ∉ X.fs:=λc=>by
 obtain⟨_,o,d,_⟩:=I.ok.funs.mem c;exact Y6s (aY d) (aJ I.sz h) _
def cU.cne(I:Y4):∀x c,Y3Q->Y4p c:=λx c e z=>by
 obtain⟨v,o,g,hd⟩:=Y6p x e;obtain⟨m,⟨j,h,i,d,a,_⟩,_⟩:=I.loc;rw[z,d]at g;cases g;rw[a]at hd;cases hd
theorem cU.funs(I:Y4):Ydc X.outer:=by
 have all:∀(l:Y3z),(∀b∈frs l,b∈X.fs)->X.s₀.heap.FunFrames X.base l->Ydc l:=by
  intro l
  induction l with
  | nil=>intro _ _;trivial
  | cons env r ih =>
   intro g n;obtain⟨h,⟨L,o,c,m,j,hd⟩,i⟩:=n;have d:L∈X.fs:=g L (by unfold frs;rw[List.filterMap_cons,c];exact bC);obtain⟨sl,e⟩:=I.base.slot L o j (I.ok.frf L d) d λz=>I.ok.exfs L z d;exact⟨h,⟨L,_,c,m,e,hd⟩,ih (λb a=>g b (by unfold frs;rw[List.filterMap_cons,c];exact bG _ a)) i⟩
 exact all X.outer (λ_ a=>a) I.ok.funs
theorem cU.stack(I:Y4):Ydc X.stack:=by
 rcases I.ok.stk with e | ⟨e,c⟩
 ·rw[e];exact I.funs
 ·rw[e];obtain⟨m,a,_⟩:=I.loc;refine .cons (by rw[I.ok.kind];decide) c a ?_ I.funs;exact Heap.get?_none_of_le (Y8x I.ok.above)
def cU.stkSub(I:Y4):∀b∈frs X.stack,b∈X.env.locals::X.fs:=λb a=>by
 rcases I.ok.stk with e | ⟨e,c⟩
 ·rw[e]at a;exact bG _ a
 ·rw[e]at a;unfold frs at a;rw[List.filterMap_cons,c]at a;exact a
def cU.stkFree(I:Y4):∀b∈frs X.stack,H b=none:=λb a=>by
 rcases bN.mp (I.stkSub b a)with e | a
 ·rw[e];exact I.free
 ·obtain⟨_,o,c,_⟩:=I.ok.funs.mem a;exact Ybd o c (I.ok.frf b a) (λz=>I.ok.exfs b z a)
def cU.step{g':Array GenState}{t':Nat}{d':Drawn}{ch:Y0D}(I:Y4)
  (hch:∀b∈ch,(b∈X.ex\/Y8d b)/\Y4p b/\(∀x c,Y3Q->c≠b)/\∀p∈X.pn++pins,p.1≠b)
  (keep:∀b o,Y4p b->b ∉ X.fs->b ∉ ch->Y23->H b=none->Y1i=Ya)
  (slot:∀b o,Y4p b->b∈X.fs->b ∉ ch->Y23->H b=none->∃sl,Y1i=some { o with slots:=sl }) (free:∀b o,b ∉ ch->Y23->H b=none->H' b=none)
  (there:∀b o,b ∉ ch->Y23->∃o',Y1i=some o')
  (tups:∀b xs,H b=Y1d->H' b=Y1d) (frzs:∀b o u,H b=Y8y o u->H' b=Y8y o u) (tbls:∀b ps,H b=some (.tbl ps)->∃more,H' b=some (.tbl (ps++more)))
  (ns:∀m,s.heap.Ns X.env.locals m->h'.Ns X.env.locals m) (hok:sZ X.prog X.w H' h') (hg:AllBare g') :
  Y4M ({ s with heap:=h',gens:=g',drawn:=d',toks:=t' }):=by
 have neL:∀b o,Yc1 b Ya->Y4p b:=λb o e=>dJ (aO (Y15) I.ok.above);have y:∀b o,Yc1 b Ya->b ∉ X.ex->b ∉ ch:=λb o e a A=>by
  rcases(hch b A).1 with z | z
  ·exact a z
  ·exact Y6s Y15 z _
 have h:∀x c,Y3Q->∀v,s.heap.IsCell c v->h'.IsCell c v:=λx c e v ⟨o,B,hd⟩=>by
  have g:c ∉ ch:=λz=>(hch c z).2.2.1 x c e rfl;by_cases hc:c∈X.fs
  ·obtain⟨sl,q⟩:=slot c o (I.cne x c e) hc g B (Y7U x e);exact Y0U q hd
  ·exact Y1H (keep c o (I.cne x c e) hc g B (Y7U x e)) hd
 refine⟨I.ok,I.os,hg,⟨λb o e n A a=>?_,λb o e n A a=>?_,λb o e n a=>?_,λb o e a=>?_,λb xs e=>tups b xs (I.base.tups b xs e),λb o xs e=>frzs b o xs (I.base.frzs b o xs e),λb ps e=>?_⟩,?_,λx c e=>?_,?_,λx c e=>?_,λp J=>?_,hok,I.len⟩
 ·exact keep b o (neL b o e) A (y b o e a) (I.base.keep b o e n A a) (Ybd o e n a)
 ·obtain⟨sl,j⟩:=I.base.slot b o e n A a;obtain⟨D,C⟩:=slot b _ (neL b o e) A (y b o e a) j (Ybd o e n a);exact⟨D,C⟩
 ·obtain⟨o',j⟩:=I.base.there b o e a;exact free b o' (y b o e a) j (Ybd o e n a)
 ·obtain⟨o',j⟩:=I.base.there b o e a;exact there b o' (y b o e a) j
 ·obtain⟨O,j⟩:=I.base.tbls b ps e;obtain⟨L,C⟩:=tbls b _ j;exact⟨O++L,by rw[C,Array.append_assoc]⟩
 ·obtain⟨m,N,P⟩:=I.loc;refine⟨m,ns m N,λi x v j C M=>?_⟩;obtain⟨u,r,l⟩:=P i x v j C M;refine Y0b u r;rcases l with l | ⟨k,c,e,z⟩
  ·exact .inl l
  ·exact Y3M k c e (h x c e _ z)
 ·obtain⟨v,z⟩:=Y6p x e;exact⟨v,h x c e v z⟩
 ·obtain⟨m,⟨o,_,_,B,_⟩,_⟩:=I.loc;exact free _ o (λz=>(hch _ z).2.1 rfl) B I.free
 ·obtain⟨v,o,B,hd⟩:=Y6p x e;exact free c o (λz=>(hch c z).2.2.1 x c e rfl) B (Y7U x e)
 ·obtain⟨e,n,ne,G,d⟩:=Y85 J;have g:p.1 ∉ ch:=λz=>(hch p.1 z).2.2.2 p J rfl;exact⟨keep p.1 p.2 ne G g e n,free p.1 p.2 g e n,ne,G,d⟩
def cU.un{t':Nat}(I:Y4)(u:Un X.fs [] H H' s.heap h')(hok:sZ X.prog X.w H' h'):Y4M ({ s with heap:=h',toks:=t' }):=by
 obtain⟨m,⟨o,A,y,h,r⟩,_⟩:=id I.loc;obtain⟨sl,l⟩:=u.any h I.free (by simp);exact I.step (g':=s.gens) (d':=s.drawn) (ch:=[]) (λ_ z=>nomatch z) (λb o _ d _ e n=>u.keep b o e n d (by simp)) (λb o _ d _ e n=>u.slot b o e n d (by simp)) (λb o _ e n=>u.free b o e n (by simp)) (λb o _ e=>u.there b o e (by simp)) u.tups u.frzs u.tbls (λB j=>by
  obtain⟨p,c,g,a,i⟩:=j;rw[h]at a;cases a;exact⟨_,c,g,l,i⟩) hok I.bare
def cU.call{g':Array GenState}{t':Nat}{d':Drawn}{ch:Y0D}(I:Y4)(u:Un (frs X.stack) ch H H' s.heap h')(hok:sZ X.prog X.w H' h')(hg:AllBare g')
  (hch:∀b∈ch,(b∈X.ex\/Y8d b)/\Y4p b/\(∀x c,Y3Q->c≠b)/\∀p∈X.pn++pins,p.1≠b) :
  Y4M ({ s with heap:=h',gens:=g',drawn:=d',toks:=t' }):=by
 obtain⟨m,⟨o,D,C,j,r⟩,_⟩:=id I.loc;obtain⟨sl,h⟩:=u.any j I.free λz=>(hch _ z).2.1 rfl;exact I.step (ch:=ch) hch (λb o h l a e n=>u.keep b o e n (λz=>(bN.mp (I.stkSub b z)).elim h l) a) (λb o _ _ a e n=>u.any e n a) (λb o a e n=>u.free b o e n a) (λb o a e=>u.there b o e a) u.tups u.frzs u.tbls (λG A=>by
  obtain⟨B,g,i,d,y⟩:=A;rw[j]at d;cases d;exact⟨_,g,i,h,y⟩) hok hg
def cU.turned{t':Nat}{it:Addr}(I:Y4)(k:∀b o,b≠it->Y23->Y1i=Ya)(hn:H it=none)(hL:Y4p it)
  (h1:it∈X.ex\/Y8d it) (h2:∀x c,Y3Q->c≠it) (h3:∀p∈X.pn++pins,p.1≠it):Y5p ({ s with heap:=h',toks:=t' }):=by
 have d:∀b u,H b=Yo->b≠it:=λb u e z=>by rw[z,hn]at e;cases e
 refine I.step (g':=s.gens) (d':=s.drawn) (ch:=[it]) (λb i=>?_) (λb o _ _ a e _=>k b o (λz=>a (by simp[z])) e) (λb o _ _ a e _=>⟨o.slots,k b o (λz=>a (by simp[z])) e⟩) (λ_ _ _ _ n=>n)
  (λb o a e=>⟨o,k b o (λz=>a (by simp[z])) e⟩) (λ_ _ e=>e) (λ_ _ _ e=>e) (λb w e=>⟨#[],by rw[e];simp⟩) (λm l=>?_) (λb u e=>?_) I.bare
 ·have e:b=it:=by simpa using i
  subst e;exact⟨h1,hL,h2,h3⟩
 ·obtain⟨o,j,g,h,r⟩:=l;exact⟨o,j,g,k _ o (Ne.symm hL) h,r⟩
 ·refine(I.hok b u e).stay (λc v a q=>k c v ?_ q) (λ_ q=>q) Y8s;rcases a with z | z
  ·rw[z];exact d b u e
  ·exact d c _ z
def cU.tok(I:Y4)(t:Nat):Y5p ({ s with toks:=t }):=I.un (h':=s.heap) (t':=t) Un.refl I.hok
theorem cU.kept{t':Nat}(I:Y4)(k:∀b u,Ybm b Yo->Y1i=Yo):Y5p ({ s with heap:=h',toks:=t' }):=I.un (Un.kept k) (I.hok.kept k)
theorem cU.laid{a:Addr}{o:HO}{t':Nat}(I:Y4)(k:∀b u,Ybm b Yo->Y1i=Yo)(hp:YdR a)(new:hV X.prog X.w (Y3n o) h' a o) :
  Y27 (Y3n o) ({ s with heap:=h',toks:=t' }):=I.un (Un.laid k hp (I.hok.fresh hp)) (I.hok.laid k hp new)
theorem cU.write{x e:Addr}{o:HO}{t':Nat}(I:Y4)(mu:Mut (H x))(he:e=x\/H e=Y7A x)(k:∀b u,b≠e->Ybm b Yo->Y1i=Yo)(heo:∃u,Y7y e Yo)
  (new:hV X.prog X.w (Y46 x o) h' x o):Y27 (Y46 x o) ({ s with heap:=h',toks:=t' }):=I.un (Un.write mu he k heo) (I.hok.write mu he k heo new)
def cU.pins_of{pins':Ad}(I:Y4)(h:∀p∈pins',Y1V p.1 p.2/\H p.1=none/\Y4p p.1/\p.1 ∉ X.fs/\∀v,p.2.data ≠ .cell v):cU X pins' σ H s :=
 ⟨I.ok,I.os,I.bare,I.base,I.loc,I.cell,I.free,I.freeC,λp a=>(dH.mp a).elim (λz=>Y85 (cN _ z)) (h p),I.hok,I.len⟩
def JD{N:Ah}(hN:N.Nodup){i j:Nat}{x:Str}(a:N[i]?=Y7)(b:N[j]?=Y7):i=j:=by
 obtain⟨e,d⟩:=Y6u;obtain⟨g,c⟩:=aB.mp b;exact(List.getElem_inj hN).mp (d.trans c.symm)
def xZ{M:Model}{A:Around}{E:Yc}{i:Nat}{x:Str}{v:V}{u:Value}{Q:Unit->Y0M}(I:Y4)(hN:X.N.Nodup)(hi:Y35=Y7)(hx:Y9c x)(r:Y3S)
  (h:∀s',cU X pins (YaT i) H s'->(∃a,Yau a s'.heap/\(a=X.env.locals\/(X.env.cells.lookup x)=(some a)))->Q () s') (hf:X.fn x=true\/Y5M x:=by first | exact .inl rfl | exact .inr rfl | assumption):wpAny M A (storeName X.env x u) Q E s:=by
 obtain⟨m,θ,ν⟩:=id I.loc;have S:Yx (Yby .class || (Yby .module&&X.env.locals != X.env.globals)):=by rw[I.ok.kind];rfl
 have R:i<σ.length:=by rw[I.len];exact(aB.mp hi).1
 have cne:=I.cne;have B:∀{a:Addr} {P:Heap},(∃o,Y3u a/\H a=none)->Yau a P->sZ X.prog X.w H P:=λ{a P} ρ g b χ e=>by
  obtain⟨_,_,D⟩:=ρ;refine(I.hok b χ e).stay (λc Y C q=>(g.2 c ?_).trans q) (λ_ q=>q) Y8s;rintro rfl;rcases C with rfl | C
  ·rw[D]at e;cases e
  ·rw[D]at C;cases C
 rcases hx with J | J
 ·refine wpAny_storeName_local J θ (λP β g=>?_) S;obtain⟨υ,_,_,ι,_⟩:=id θ;refine h _ ⟨I.ok,I.os,I.bare,⟨YbF,YbF,I.base.free,λb o e hx=>?_,I.base.tups,I.base.frzs,I.base.tbls⟩,Y0U β (λj y ε l G ζ=>?_),λy c e=>?_,I.free,I.freeC,λp η=>?_,B ⟨υ,ι,I.free⟩ g,by simpa using I.len⟩ (Y0U g Y3t)
  ·exact(g.2 b (dJ (aO (aY e) I.ok.above))).trans (I.base.keep b o e n O hx)
  ·obtain⟨sl,l⟩:=I.base.slot b o e n O hx;exact⟨sl,(g.2 b (dJ (aO (aY e) I.ok.above))).trans l⟩
  ·obtain⟨α,l⟩:=I.base.there b o e hx;exact⟨α,(g.2 b (dJ (aO (aY e) I.ok.above))).trans l⟩
  ·by_cases hj:j=i
   ·subst hj;rw[hi]at l;cases l;rw[List.getElem?_set_self R]at G;cases G;exact⟨u,r,Y2k J (by simp)⟩
   ·rw[List.getElem?_set_ne (Ne.symm hj)]at G;obtain⟨κ,δ,q⟩:=ν j y ε l G ζ;refine Y0b κ δ;rcases q with⟨k,e⟩ | ⟨k,c,e,z⟩
    ·refine .inl (Y0A k);have:y≠x:=λe=>hj (JD hN l (e ▸ hi));simp[this,e]
    ·exact Y3M k c e (z.sameBut g (cne y c e))
  ·obtain⟨Y,z⟩:=Y6p y e;exact⟨Y,z.sameBut g (cne y c e)⟩
  ·obtain⟨e,n,ne,γ,d⟩:=Y85 η;exact⟨(g.2 p.1 ne).trans e,n,ne,γ,d⟩
 ·have L:X.fn x=true:=by
   rcases hf with z | z
   ·exact z
   ·rw[z]at J;cases J
  obtain⟨c,C⟩:=I.ok.has x (.inl J);obtain⟨Y,z⟩:=Y6p x C;refine wpAny_storeName_cell I.ok.kind J C z (λP T g=>?_);obtain⟨μ,W,U⟩:=id z;refine h { s with heap:=P } ⟨I.ok,I.os,I.bare,⟨YbF,YbF,I.base.free,λb o e hx=>?_,I.base.tups,I.base.frzs,I.base.tbls⟩,⟨m,θ.sameBut g (Ne.symm (cne x c C)),λj y ε l G ζ=>?_⟩,λy Z e=>?_,I.free,I.freeC,λp η=>?_,B ⟨μ,W,Y7U x C⟩ g,by simpa using I.len⟩ ⟨c,g,.inr C⟩
  ·exact(g.2 b (dJ (aO (aY e) (I.ok.cab x c L C)))).trans (I.base.keep b o e n O hx)
  ·obtain⟨sl,l⟩:=I.base.slot b o e n O hx;exact⟨sl,(g.2 b (dJ (aO (aY e) (I.ok.cab x c L C)))).trans l⟩
  ·obtain⟨α,l⟩:=I.base.there b o e hx;exact⟨α,(g.2 b (dJ (aO (aY e) (I.ok.cab x c L C)))).trans l⟩
  ·by_cases hj:j=i
   ·subst hj;rw[hi]at l;cases l;rw[List.getElem?_set_self R]at G;cases G;exact⟨u,r,Y3M (.inl J) c C T⟩
   ·rw[List.getElem?_set_ne (Ne.symm hj)]at G;obtain⟨κ,δ,q⟩:=ν j y ε l G ζ;refine Y0b κ δ;rcases q with q | ⟨k,Z,e,τ⟩
    ·exact .inl q
    ·refine Y3M k Z e (τ.sameBut g ?_);rintro rfl;exact hj (JD hN l (I.ok.inj _ _ _ e C ▸ hi))
  ·by_cases hcc:Z=c
   ·subst hcc;exact Y2S T
   ·obtain⟨φ,ο⟩:=I.cell y Z e;exact⟨φ,ο.sameBut g hcc⟩
  ·obtain⟨e,n,ne,γ,d⟩:=Y85 η;refine⟨(g.2 p.1 ?_).trans e,n,ne,γ,d⟩;intro q;rw[q,W]at e;have ξ:μ=p.2:=fX e;exact d Y (by rw[<-ξ];exact U)
def qN{M:Model}{A:Around}{E:Yc}{i:Nat}{x:Str}{v:V}{u:Value}{Q:Unit->Y0M}(I:Y4)(hN:X.N.Nodup)(hi:Y35=Y7)(hx:Y9c x)(r:Y3S)
  (h:∀s',cU X pins (YaT i) H s'->Q () s') (hf:X.fn x=true\/Y5M x:=by first | exact .inl rfl | exact .inr rfl | assumption):wpAny M A (storeName X.env x u) Q E s :=
 xZ I hN hi hx r (λs' I' _=>h s' I') hf
def cU.call'{s':Shared}{ch:Y0D}(I:Y4)(ho:s'.os=s.os)(u:Un (frs X.stack) ch H H' s.heap s'.heap)(hok:sZ X.prog X.w H' s'.heap)(hg:YaH)
  (hch:∀b∈ch,(b∈X.ex\/Y8d b)/\Y4p b/\(∀x c,Y3Q->c≠b)/\∀p∈X.pn++pins,p.1≠b):Y4M s':=by
 obtain⟨d,g',d',t',a⟩:=s';have e:a=s.os:=ho;subst e;exact I.call (g':=g') (t':=t') (d':=d') u hok hg hch
end
abbrev XK:=Y2w (Y1I Y3v)
abbrev St:=Y8l V
abbrev _root_.Am:=Option V
abbrev _root_.Al:=Y6F
abbrev VK:=Y1I V
abbrev TE:=St->(Hp->(Y0C VK))
abbrev TT:=St->Y0i Hp Yac
abbrev TA:=St->Y0i Hp (Y1I Al)
structure qH where
 nx:Y1Z
 rt:VK
 bk:Y1Z:=YaQ
 ct:Y1Z:=YaQ
abbrev TS:=qH->Y1Z
def EP(X:Cx)(pins:Ad)(σ:St)(Q:VK)(u:Value)(s':Shared):Prop:=∃v H',Y4M s'/\Y3S/\Y1L
def TP(X:Cx)(pins:Ad)(σ:St)(Q:Yac)(b:Bool)(s':Shared):Prop:=∃H',Y4M s'/\Q b H'
def AP(X:Cx)(pins:Ad)(σ:St)(Q:Y1I Al)(us:Ag)(s':Shared):Prop:=∃vs H',Y4M s'/\Y2C vs/\Q vs H'
def SP(X:Cx)(pins:Ad)(D:qH)(f:Flow)(s':Shared):Prop :=
 match f with
 | .next=>∃σ' H',cU X pins σ' H' s'/\D.nx σ' H'
 | .brk=>∃σ' H',cU X pins σ' H' s'/\D.bk σ' H'
 | .cont=>∃σ' H',cU X pins σ' H' s'/\D.ct σ' H'
 | .ret u=>∃v σ' H',cU X pins σ' H' s'/\fE v u/\D.rt v H'
def PE(X:Cx)(e:Expr)(t:TE):Prop :=
 ∀(pins:Ad) (s:Shared) (σ:St) (H:Hp) (Q:VK),Y4->t σ H Q->Y6z Y1l X σ Q
def PT(X:Cx)(e:Expr)(t:TT):Prop :=
 ∀(pins:Ad) (s:Shared) (σ:St) (H:Hp) (Q:Yac),Y4->t σ H Q->Y4G (isTrue e X.env (Y1l)) (TP X pins σ Q)
def PW(X:Cx)(e:Expr)(t:TT):Prop :=
 ∀(whole:Y7M) (pins:Ad) (s:Shared) (σ:St) (H:Hp) (Q:Yac),Y4->t σ H Q->Y4G (isTrue e X.env whole) (TP X pins σ Q)
def PW.pt{X:Cx}{e:Expr}{t:TT}(h:PW X e t):PT X e t:=h _
def PA(X:Cx)(es:Y0j)(t:TA):Prop :=
 ∀(pos:Pos) (pins:Ad) (s:Shared) (σ:St) (H:Hp) (Q:Y1I Al),Y4->t σ H Q->Y4G (spliced (backTo pos (Y30))) (AP X pins σ Q)
def PS(X:Cx)(st:Stmt)(t:TS):Prop :=
 ∀(pins:Ad) (s:Shared) (σ:St) (H:Hp) (D:qH),Y4->t D σ H->Y4G (exec st X.env) (SP X pins D)
def NX(X:Cx)(st:Y5z)(t:TS):Prop :=
 ∀(pins:Ad) (s:Shared) (σ:St) (H:Hp) (D:qH),Y4->t D σ H->Y4G (execs st X.env) (SP X pins D)
def thn{α:Type}{t:Sem α}{Q Q':α->Y0M}{M:Model}{A:Around}{E:Yc}{s:Shared}(h:wpAny M A t Q E s)(hQ:∀a s,Q a s->Q' a s):wpAny M A t Q' E s:=YbL h hQ x
section
variable{X:Cx}
def VL(i:Nat):TE:=λσ H Q=>∃v,σ[i]?=Y7F/\Q v H
def tC(v:V):TE:=λ_ H Q=>Q v H
def aEu{i:Nat}{x:Str}{pos:Pos}(hN:Y35=Y7)(hv:Yc2 x)(hd:Y1J ("__debug__" : Str):=by decide)(hcd:Y1J ("__classdict__" : Str):=by decide):Yn Y7g (VL i):=by
 intro j s σ H Q I h;obtain⟨v,e,h⟩:=h;obtain⟨m,p,y⟩:=I.loc;obtain⟨u,r,l⟩:=y i x v hN e hv;have g:EP X j σ Q u s:=⟨v,H,I,r,h⟩;rcases l with⟨d,w⟩ | ⟨d,c,n,a⟩
 ·exact wpAny_Name (wpAny_loadName_local I.ok.kind d p w g) hd
 ·rcases d with d | d
  ·exact wpAny_Name (wpAny_loadName_cell I.ok.kind d n a g) hd
  ·exact wpAny_Name (wpAny_loadName_free I.ok.kind d n a g hcd) hd
def pe_int{i j pos}:Yn (Y8p Y1w j) (tC (Y1w)):=λ_ _ _ H _ I h=>wpAny_Constant_int ⟨Y1w,H,Y1W,Y3w,h⟩
def pe_bl{b j pos}:Yn (Y8p (.bool b) j) (tC (.bl b)):=λ_ _ _ H _ I h=>Constant_bool (Y1h (.bl b) H I h)
def pe_non{j pos}:Yn (Y8p .none j) (tC .non):=λ_ _ _ H _ I h=>Constant_none (Y1h .non H I h)
def pe_str{x j pos}:Yn (Y8p (.str x) j) (tC (.str x)):=λ_ _ _ H _ I h=>Calls.Constant_str ⟨.str x,H,Y1W,Y3w,h⟩
def Gl(X:Cx)(x:Str):Prop:=Y52 x (some .globalImplicit)
def GY{E:Yc}{pins:Ad}{s:Shared}{σ:St}{H:Hp}{x:Str}{u:Value}{pos:Pos}{Q:Yc}(I:Y4)(hg:Gl X x)(hm:Y5R=Yo)(h:Q u s)
  (hd:Y1J ("__debug__" : Str):=by decide):Y8e (Y0a Y7g) Q E s :=
 Calls.Name_function_global I.ok.kind hg (Calls.loadGlobal_global (by rw[I.ok.glob];exact Yde) hm h) hd
def vV{E:Yc}{pins:Ad}{s:Shared}{σ:St}{H:Hp}{x:Str}{u:Value}{pos:Pos}{Q:Yc}(I:Y4)(hg:Gl X x)(hm:Y5R=none)(hv:Y9d=Yo)(h:Q u s)
  (hn:x ≠ "__name__" := by decide) (hd:Y1J ("__debug__" : Str):=by decide):Y8e (Y0a Y7g) Q E s:=by
 obtain⟨d,a,c⟩:=I.mod.blt;exact Calls.Name_function_global I.ok.kind hg (Calls.loadGlobal_builtin (by rw[I.ok.glob];exact Yde) hm (by rw[I.ok.blt];exact a.keeps I.bk) ((c x hn).trans hv) h) hd
def aBk{x:Str}{v:V}{u:Value}{pos:Pos}(hg:Gl X x)(hm:Y5R=Yo)(r:Y3S)(hd:Y1J ("__debug__" : Str):=by decide):Yn Y7g (tC v) :=
 λ_ _ _ H _ I h=>GY I hg hm ⟨v,H,I,r,h⟩ hd
variable{a b:Expr}{ta tb:TE}{pos:Pos}
def tB(t:TE):TT:=Y4P H (λx H1=>∃c,x=.bl c/\Q c H1)
def aEg{e:Expr}{t:TE}(h:Yn e t)(he:∀whole,isTrue e X.env whole=(do let v <-whole;standAt e.pos;holding [v] (truthy v)):=by intro _;rfl):PT X e (tB t):=by
 intro a s σ H Q I c;refine isTrue_plain (thn (h a s σ H _ I c) λv j ⟨x,H1,I1,g,i⟩=>?_) (he _);obtain⟨d,rfl,q⟩:=i;cases g;exact wpAny_truthy_bool ⟨H1,I1,q⟩
variable{tA tB':TT}{rest:Y0j}
def aFS(t u:TT):TT:=Y4P H (λc H1=>if c=true then u σ H1 Q else Q false H1)
def tOr(t u:TT):TT:=Y4P H (λc H1=>if c=true then Q true H1 else u σ H1 Q)
def aFL(t:TT):TT:=Y4P H (λc H1=>Q (! c) H1)
def aA8(ha:PT X a tA):PW X (Y6o [a]) tA:=by
 intro g d s σ H Q I h;refine isTrue_and (thn (ha d s σ H Q I h) λc i e=>?_);cases c with
 | true=>exact isTrue_and_nil e
 | false=>exact e
def aEd(ha:PT X a tA):PW X (Y7r .Or [a]) tA:=by
 intro g d s σ H Q I h;refine isTrue_or (thn (ha d s σ H Q I h) λc i e=>?_);cases c with
 | false=>exact isTrue_or_nil e
 | true=>exact e
def aEe(ha:PT X a tA)(hb:PW X (Y6o (b::rest)) tB'):PW X (Y6o (a::b::rest)) (aFS tA tB'):=by
 intro i d s σ H Q I h;refine isTrue_and (thn (ha d s σ H _ I h) λc g ⟨H1,I1,e⟩=>?_);cases c with
 | true=>exact hb i d g σ H1 Q I1 e
 | false=>exact⟨H1,I1,e⟩
def aF3(ha:PT X a tA)(hb:PW X (Y7r .Or (b::rest)) tB'):PW X (Y7r .Or (a::b::rest)) (tOr tA tB'):=by
 intro i d s σ H Q I h;refine isTrue_or (thn (ha d s σ H _ I h) λc g ⟨H1,I1,e⟩=>?_);cases c with
 | true=>exact⟨H1,I1,e⟩
 | false=>exact hb i d g σ H1 Q I1 e
def aEh(ha:PT X a tA):PT X (Y9A .Not a) (aFL tA):=by
 intro d s σ H Q I h;exact isTrue_not (ha d s σ H (λc H1=>Q (! c) H1) I h)
def VR(ta tb:TE):TE:=Y8N σ H (∃c,x=.bl c/\if c=true then tb σ H1 Q else Q (.bl false) H1)
def aCs(ta:TE):TE:=Y8N σ H (∃c,x=.bl c/\Q (.bl (! c)) H1)
def aEw{op}{t:TE}(h:Yn a t):Yn (Y7r op [a]) t:=λc s σ H Q I d=>BoolOp_one (h c s σ H Q I d)
def aEA(ha:Y5k a)(hb:Yn (Y6o (b::rest)) tb):Yn (Y6o (a::b::rest)) (VR ta tb):=by
 intro d s σ H Q I h;refine BoolOp_and (thn (ha d s σ H _ I h) λv i ⟨x,H1,I1,g,e⟩=>?_);obtain⟨c,rfl,e⟩:=e;cases g;refine wpAny_truthy_bool ?_;cases c with
 | true=>exact hb d i σ H1 Q I1 e
 | false=>exact Y1h (.bl false) H1 I1 e
def aEx(ha:Y5k a):Yn (Y9A .Not a) (aCs ta):=by
 intro d s σ H Q I h;refine UnaryOp_ (thn (ha d s σ H _ I h) λv i ⟨x,H1,I1,g,e⟩=>?_);obtain⟨c,rfl,e⟩:=e;cases g;exact not_of (wpAny_truthy_bool (Y1h (.bl (! c)) H1 I1 e))
def tIf(t:TT)(ta tb:TE):TE:=Y4P H (λc H1=>if c=true then ta σ H1 Q else tb σ H1 Q)
def XD{c:Expr}(hc:PT X c tA)(ha:Y5k a)(hb:Yn b tb):Yn (.IfExp c a b pos) (tIf tA ta tb):=by
 intro e s σ H Q I h;refine wpAny_IfExp (thn (hc e s σ H _ I h) λd i ⟨H1,I1,g⟩=>?_);cases d with
 | true=>exact ha e i σ H1 Q I1 g
 | false=>exact hb e i σ H1 Q I1 g
end
def gH(K:Aa)(H:Hp)(a:Addr)(xs:Al):Prop :=
 Rd H a (.lst xs) \/
  ∃(o:Obj) (its:Ai) (n:Nat),Ybe=Ya/\o.cls=.type "list" /\ o.dict=none/\o.data=.seq its n/\Y0O its.size/\eE xs its.toList
def jA(K:Aa)(H:Hp)(a:Addr)(xs:Al):Prop :=
 Rd H a (.tup xs) \/
  ∃(o:Obj) (its:Ai) (n:Nat),Ybe=Ya/\o.cls=.type "tuple" /\ o.data=.seq its n/\Y0O its.size/\eE xs its.toList
def aI9:Y2w Am
 | .none=>some .non
 | .bool b=>some (.bl b)
 | .int i _=>some (.int i)
 | .str x _=>some (.str x)
 | .bytes b _=>some (.byt b)
 | .float b _=>some (.flt b)
 | .ref a=>some (.ref a)
 | .type n=>some (.ty n)
 | _=>none
def fE.abs{x:V}{u:Value}(r:fE x u):aI9 u=Y7:=by
 cases x with
 | non=>cases r;rfl
 | bl _=>cases r;rfl
 | int _=>obtain⟨t,rfl⟩:=r;rfl
 | str _=>obtain⟨t,rfl⟩:=r;rfl
 | byt _=>obtain⟨t,rfl⟩:=r;rfl
 | flt _=>obtain⟨t,rfl⟩:=r;rfl
 | ref _=>cases r;rfl
 | ty _=>cases r;rfl
def fE.inj{x y:V}{u:Value}(r:fE x u)(q:Y3k):x=y:=fX (r.abs.symm.trans q.abs)
theorem eE.inj:∀{xs ys:Al}{us:Ag},Y5h->Y2C ys->xs=ys
 | _,_,_,.nil,.nil=>rfl
 | _,_,_,.cons r t,.cons r' t'=>by rw[r.inj r',eE.inj t t']
section
variable{X:Cx}{pins:Ad}{σ:St}{H:Hp}{s:Shared}{a:Addr}{xs ys:Al}
def gH.of{K:Aa}(h:H a=Y0P):gH K H a xs:=Yb2 h
def jA.of{K:Aa}(h:H a=Y1d):jA K H a xs:=Yb2 h
def cU.list(I:Y4)(h:gH X.K H a xs):∃its:Ag,eE xs its/\PlainL s.heap a its.toArray/\Y5r:=by
 rcases h with h | ⟨o,its,n,c,g,hd,d,i,r⟩
 ·obtain⟨z,its,n,r,e⟩:=h.ok I.hok;exact⟨its,r,Y6n _ n e rfl rfl,z⟩
 ·refine Y3U its.toList r ⟨o,n,I.kIn a o c,g,hd,by simpa using d⟩;have e:=r.length;simp only[Array.length_toList]at e;exact Oo
def cU.tuple(I:Y4)(h:jA X.K H a xs):∃its:Ag,eE xs its/\Yb5 a its.toArray/\Y5r:=by
 rcases h with h | ⟨o,its,n,c,g,d,i,r⟩
 ·obtain⟨⟨z,_⟩,its,r,p⟩:=h.ok I.hok;exact⟨its,r,p,z⟩
 ·refine Y3U its.toList r ⟨o,I.kIn a o c,g,n,by simpa using d⟩;have e:=r.length;simp only[Array.length_toList]at e;exact Oo
def cU.list_inj(I:Y4)(h:gH X.K H a xs)(h':gH X.K H a ys):xs=ys:=by
 obtain⟨g,r,⟨o,n,e,_,_,d⟩,_⟩:=I.list h;obtain⟨c,l,⟨p,m,j,_,_,i⟩,_⟩:=I.list h';rw[e]at j;cases j;rw[d]at i;injection i with d1 _;have:g=c:=by simpa using congrArg Array.toList d1
 subst this;exact r.inj l
def cU.tuple_inj(I:Y4)(h:jA X.K H a xs)(h':jA X.K H a ys):xs=ys:=by
 obtain⟨g,r,⟨o,e,_,n,d⟩,_⟩:=I.tuple h;obtain⟨c,l,⟨p,j,_,m,i⟩,_⟩:=I.tuple h';rw[e]at j;cases j;rw[d]at i;injection i with d1 _;have:g=c:=by simpa using congrArg Array.toList d1
 subst this;exact r.inj l
end
abbrev Cx.wish(X:Cx)(E:Yc):Cx:={ X with xe:=E }
abbrev Cx.nox(X:Cx):Cx:=X.wish YaQ
theorem Cx.Ok.wish{X:Cx}(ok:X.Ok)(E:Yc):(X.wish E).Ok :=
 ⟨ok.mod,ok.kind,ok.glob,ok.blt,ok.above,ok.inj,ok.has,ok.cab,ok.hd,ok.frames,ok.stk,ok.exf,ok.bs,ok.bsz,ok.noex,ok.exfs,ok.funs,ok.frf⟩
def Cx.Ok.unwish{X:Cx}{E:Yc}(ok:(X.wish E).Ok):X.Ok :=
 ⟨ok.mod,ok.kind,ok.glob,ok.blt,ok.above,ok.inj,ok.has,ok.cab,ok.hd,ok.frames,ok.stk,ok.exf,ok.bs,ok.bsz,ok.noex,ok.exfs,ok.funs,ok.frf⟩
section
variable{X:Cx}{pins:Ad}{σ:St}{H:Hp}{s:Shared}{E:Yc}
theorem cU.wish(I:Y4)(E:Yc):cU (X.wish E) pins σ H s:=⟨I.ok.wish E,I.os,I.bare,I.base,I.loc,I.cell,I.free,I.freeC,I.pin,I.hok,I.len⟩
theorem cU.unwish(I:cU (X.wish E) pins σ H s):Y4:=⟨I.ok.unwish,I.os,I.bare,I.base,I.loc,I.cell,I.free,I.freeC,I.pin,I.hok,I.len⟩
theorem SP.unwish{D:qH}{f:Flow}{s':Shared}(h:SP (X.wish E) pins D f s'):SP X pins D f s':=by
 cases f with
 | next=>obtain⟨a,H',I,q⟩:=h;exact⟨a,H',I.unwish,q⟩
 | brk=>obtain⟨a,H',I,q⟩:=h;exact⟨a,H',I.unwish,q⟩
 | cont=>obtain⟨a,H',I,q⟩:=h;exact⟨a,H',I.unwish,q⟩
 | ret u=>obtain⟨v,a,H',I,r,q⟩:=h;exact⟨v,a,H',I.unwish,r,q⟩
theorem NX.nox{st:Y5z}{t:TS}(h:NX X.nox st t):NX X st t:=λa s σ H D I c =>
 wpAny_mono (h a s σ H D (I.wish _) c) (λ_ _ q=>q.unwish) λ_ _ z=>False.elim z
end
section
variable{X:Cx}{st:Stmt}{rest:Y5z}{t u:TS}{e:Expr}{te:TE}{pos:Pos}
def aCt:TS:=λD σ H=>Y3P
def aAI(t u:TS):TS:=λD σ H=>t { D with nx:=u D } σ H
def pss_nil:NX X [] aCt:=λ_ _ σ H _ I h=>wpAny_execs_nil ⟨σ,H,I,h⟩
def WT(h1:PS X st t)(h2:NX X rest u):NX X (st::rest) (aAI t u):=by
 intro a s σ H D I h;refine wpAny_execs_cons (thn (h1 a s σ H { D with nx:=u D } I h) λf d q=>?_);cases f with
 | next =>
  obtain⟨c,H',I',q⟩:=q;exact h2 a d c H' D I' q
 | ret v=>exact q
 | brk=>exact q
 | cont=>exact q
def aBb(h1:PS X st t):NX X [st] t:=by
 intro a s σ H D I h;refine wpAny_execs_cons (thn (h1 a s σ H D I h) λf c q=>?_);cases f with
 | next=>exact wpAny_execs_nil q
 | ret v=>exact q
 | brk=>exact q
 | cont=>exact q
def cU.quiet{pins:Ad}{σ:St}{H:Hp}{s:Shared}(I:Y4):Yx (interactive X.env):=by simp[interactive,I.ok.kind]
def aCw(te:TE):TS:=λD σ H=>te σ H λ_ H1=>Y8j H1
def aBc(he:Yn e te)(hs:YcF e none pos.line=Y4s:=by rfl):PS X (.Expr e pos) (aCw te):=by
 intro a s σ H D I h;exact wpAny_Expr_any (thn (he a s σ H _ I h) λv g ⟨x,H1,I1,d,c⟩=>⟨σ,H1,I1,c⟩) I.quiet hs
def aFJ(te:TE):TS:=λD σ H=>te σ H D.rt
def aEj(he:Yn e te):PS X (.Return (Y6G) pos) (aFJ te):=by
 intro a s σ H D I h;exact wpAny_Return_some (thn (he a s σ H _ I h) λv g ⟨x,H1,I1,c,d⟩=>⟨x,σ,H1,I1,c,d⟩)
def aFM(c:TT)(t u:TS):TS:=λD σ H=>c σ H λb H1=>if b=true then t D σ H1 else u D σ H1
def aF4{c:Expr}{a b:Y5z}{tc:TT}(hc:PT X c tc)(ha:NX X a t)(hb:NX X b u):PS X (.If c a b pos) (aFM tc t u):=by
 intro e s σ H D I h;refine wpAny_If (thn (hc e s σ H _ I h) λd i ⟨H1,I1,g⟩=>?_);cases d with
 | true=>exact ha e i σ H1 D I1 g
 | false=>exact hb e i σ H1 D I1 g
end
abbrev TG:=V->St->Y0i Hp Y1Z
abbrev TGs:=Al->St->Y0i Hp Y1Z
def PG(X:Cx)(target:Expr)(t:TG):Prop :=
 ∀(pins:Ad) (s:Shared) (σ:St) (H:Hp) (v:V) (u:Value) (Q:Y1Z),Y4->Y3S->t v σ H Q ->
  Y4G (assign target X.env u) (λ_ s'=>∃σ' H',cU X pins σ' H' s'/\Q σ' H')
def PGs(X:Cx)(ts:Y0j)(t:TGs):Prop :=
 ∀(pins:Ad) (s:Shared) (σ:St) (H:Hp) (vs:Al) (us:Ag) (Q:Y1Z),Y4->Y2C vs->t vs σ H Q ->
  Y4G (assignInOrder ((assignEach ts X.env).map (·.2)) us) (λ_ s'=>∃σ' H',cU X pins σ' H' s'/\Q σ' H')
abbrev aCh:=V->V->V->Y0i Hp Y5q
def aFn(X:Cx)(t:aCh):Prop :=
 ∀(pins:Ad) (s:Shared) (σ:St) (H:Hp) (o i v:V) (ov iv u:Value) (Q:Y5q),Y4->fE o ov->fE i iv->Y3S->t o i v H Q ->
  Y4G (setItem ov iv u) (λ_ s'=>∃H',Y4M s'/\Q H')
section
variable{X:Cx}{pos:Pos}
def oE(i:Nat):TG:=λv σ H Q=>Q (YaT i) H
def aBh{i:Nat}{x:Str}(hN:X.N.Nodup)(hi:Y35=Y7)(hx:Y9c x)(hf:X.fn x=true\/Y5M x:=by first | exact .inl rfl | exact .inr rfl | assumption):PG X (Y7g) (oE i):=by
 intro a s σ H v u Q I r h;exact wpAny_assign_Name (qN I hN hi hx r (λc I'=>⟨_,H,I',h⟩) hf)
def aE0:TGs:=λvs σ H Q=>vs=[]/\Q σ H
def YO(t:TG)(u:TGs):TGs:=λvs σ H Q=>∃v r,vs=v::r/\t v σ H λσ' H'=>u r σ' H' Q
def pgs_nil:PGs X [] aE0:=by
 intro a s σ H c d Q I r h;obtain⟨e,h⟩:=h;subst e;cases r;exact assignInOrder_nil ⟨σ,H,I,h⟩
def XB{e:Expr}{es:Y0j}{t:TG}{u:TGs}(h1:PG X e t)(h2:PGs X es u)
  (hs:(assignEach (e::es) X.env).map (·.2)=Y9w e::(assignEach es X.env).map (·.2):=by rfl):PGs X (e::es) (YO t u):=by
 intro a s σ H m j Q I r h;obtain⟨v,l,c,h⟩:=h;subst c;cases r with
 | cons r rr =>
  rw[hs];refine assignInOrder_cons (thn (h1 a s σ H _ _ _ I r h) λ_ i ⟨d,H1,I1,g⟩=>?_);exact h2 a i d H1 _ _ Q I1 rr g
def aEZ(K:Aa)(n:Nat)(t:TGs):TG:=λv σ H Q=>∃a xs,v=Yi/\jA K H a xs/\Y5u n/\t xs σ H Q
def aEs{es:Y0j}{k:Nat}{t:TGs}{n:Nat}(hc:Y1F)(h:PGs X es t)
  (hn:(assignEach es X.env).length=n:=by rfl) (hst:(assignEach es X.env).findIdx? (·.1)=none:=by rfl):PG X (.Tuple es k pos) (aEZ X.K n t):=by
 intro c s σ H v u Q I r d;obtain⟨a,w,g,j,y,d⟩:=d;subst g;cases r;obtain⟨m,rv,i,z⟩:=I.tuple j;refine assign_Tuple_tuple (Y8B) i (by simp[hn,<-y,rv.length]) hst λp l=>?_;have I1:cU X c σ H { s with heap:=p }:=I.kept (t':=s.toks) λb o e=>l b o (dJ (Y15)) e;exact h c _ σ H w _ Q I1 (by simpa using rv) d
def aGn(to ti:TE)(t:aCh):TG:=λv σ H Q=>to σ H λo H1=>ti σ H1 λi H2=>t o i v H2 λH3=>Q σ H3
def aEt{o i:Expr}{to ti:TE}{t:aCh}(ho:Yn o to)(hi:Yn i ti)(hs:aFn X t)
  (ha:∀v,assign (.Subscript o i pos) X.env v=(do
   let ov <-holding [v] (eval o X.env)
   let iv <-holding [v,ov] (eval i X.env)
   standAt pos
   holding [v,ov,iv] (setItem ov iv v)
   release [v,ov,iv] []):=by intro _;rfl):PG X (Y7v o i) (aGn to ti t):=by
 intro a s σ H v u Q I r h;rw[ha];refine YcM (thn (ho a s σ H _ I h) λov m ⟨x,H1,I1,e,g⟩=>?_);refine YcM (thn (hi a m σ H1 _ I1 g) λiv j ⟨y,H2,I2,l,d⟩=>?_);refine Ybs (YcM (thn (hs a j σ H2 x y v ov iv u _ I2 e l r d) λ_ n ⟨H3,I3,c⟩=>?_));exact wpAny_release ⟨σ,H3,I3,c⟩
def DR(te:TE)(g:TG):TS:=λD σ H=>te σ H λx H1=>g x σ H1 D.nx
def aEo{tg e:Expr}{te:TE}{g:TG}(he:Yn e te)(hg:PG X tg g)(hs:YbG [tg] e X.env=Y4s:=by rfl)(hw:YbM [tg] e=pure none:=by rfl)
  (h1:(assignEach [tg] X.env).map (·.2)=[Y9w tg]:=by rfl):PS X (Y63 [tg] e) (DR te g):=by
 intro a s σ H D I h;refine wpAny_Assign_stores (thn (he a s σ H _ I h) λv d ⟨x,H1,I1,c,i⟩=>?_) hs hw;rw[h1];exact thn (hg a d σ H1 x v _ I1 c i) λ_ j q=>q
def aEi{i:Nat}{x:Str}{e:Expr}{te:TE}{pos':Pos}(hN:X.N.Nodup)(hi:Y35=Y7)(hx:Y9c x)(he:Yn e te)(hs:Y8F e Yab=Y4s:=by rfl)(hf:X.fn x=true\/Y5M x:=by first | exact .inl rfl | exact .inr rfl | assumption) :
  PS X (Y63 [Yab] e) (DR te (oE i)):=by
 intro a s σ H D I h;refine wpAny_Assign_Name (thn (he a s σ H _ I h) λv g ⟨y,H1,I1,c,d⟩=>?_) hs;exact qN I1 hN hi hx c (λj I2=>⟨_,H1,I2,d⟩) hf
def aFK(i j:Nat)(ta:TA):TS:=λD σ H=>ta σ H λvs H1=>∃v w,vs=[v,w]/\D.nx ((σ.set i (some v)).set j (some w)) H1
def aEk{i j:Nat}{x y:Str}{a b:Expr}{ta:TA}{px py pt:Pos}{kt k2 pt2}(hc:Y1F)(hN:X.N.Nodup)(hi:Y35=Y7)(hj:X.N[j]?=Y09)(hij:i≠j)
  (hx:Y5M x) (hy:Y5M y) (ha:PA X [a,b] ta)
  (hw:YbM [Y44 [Y45,Y2H] kt] (Y9Q [a,b] k2)=pure (some [x,y]))
  (hs:YbG [Y44 [Y45,Y2H] kt] (Y9Q [a,b] k2) X.env=Y4s:=by rfl) :
  PS X (Y63 [Y44 [Y45,Y2H] kt] (Y9Q [a,b] k2)) (aFK i j ta):=by
 intro c s σ H D I h;rw[exec_Assign_arm];refine Ybs ?_;rw[hs];refine Y3Y ?_;rw[Y2T];refine wpAny_bind (Tuple_ (thn (ha _ c s σ H _ I h) λu g ⟨B,H1,I1,z,m⟩=>?_));obtain⟨v,w,r,m⟩:=m;subst r;obtain⟨u1,d,rfl,rv,l⟩:∃u1 d,u=[u1,d]/\fE v u1/\fE w d:=by
  cases z with
  | cons p q =>
   cases q with
   | cons p' q' =>
    cases q';exact Y0h _ _ p p'
 refine Ydt (by show Y0O 2;decide);have I2:cU X c σ H1 { g with heap:=g.heap.push { cls:=.type "tuple",data:=.seq [u1,d].toArray } }:=Ybw g.toks Y2I;rw[hw];refine Y3Y ?_;show wpAny (Y4y) X.A (do rule "assign.swapped-stores";let items <-unpackItems (.ref g.heap.objs.size) 2 none;assignInOrder [λv=>bindName X.env y v,λv=>bindName X.env x v] items.reverse;pure Flow.next) _ _ _;refine Yal (wpAny_bind (unpackItems_tuple (items:=#[u1,d]) (Y8B) (Yb6 g.heap) λh' n=>?_));have I3:=I2.kept (h':=h') (t':=g.toks) λb o e=>n b o (dJ (Y15)) e;show Y39 (assignInOrder [λv=>bindName X.env y v,λv=>bindName X.env x v] [d,u1] >>= λ_=>pure Flow.next);refine wpAny_bind (assignInOrder_cons (wpAny_bindName (qN I3 hN hj (.inl hy) l (λC I4=>?_) (.inr hy))));refine assignInOrder_cons (wpAny_bindName (qN I4 hN hi (.inl hx) rv (λG I5=>assignInOrder_nil (Y2r)) (.inr hx)));rw[List.set_comm _ _ (Ne.symm hij)]at I5;exact⟨_,H1,I5,m⟩
end
section
variable{X:Cx}{pos:Pos}
def GD(c:TT)(tb:TS):TS:=λD σ H=>∃W:Nat->St->Hp->Prop,(∃m,W m σ H)/\∀m σ H,W m σ H ->
 c σ H λb H1=>if b=true then ∃N:St->Hp->Prop,(∀σ' H',N σ' H'->∃m',m' < m/\W m' σ' H')/\(tb { D with nx:=N,ct:=N,bk:=D.nx } σ H1) else Y8j H1
def WU{c:Expr}{body:Y5z}{tc:TT}{tb:TS}(hp:YaO X.A X.env X.xe)(hc:PT X c tc)(hb:NX X body tb):PS X (.While c body [] pos) (GD tc tb):=by
 intro a s σ H D I h;obtain⟨W,⟨C,G⟩,e⟩:=h;refine wpAny_While (codeAny_whileLoop (λn B=>∃σ' H',cU X a σ' H' B/\W n σ' H') ?_ C ⟨σ,H,I,G⟩);rintro n y ⟨g,H1,I1,z⟩;refine Y95 hp (hc a y g H1 _ I1 (e n g H1 z)) (λb J ⟨H2,I2,j⟩=>?_);cases b with
 | true =>
  obtain⟨N,u,j⟩:=j;rw[Yt];refine Y95 hp (hb a J g H2 _ I2 j) (λf L i=>?_);cases f with
  | next =>
   obtain⟨d,H3,I3,r⟩:=i;obtain⟨m,p,l⟩:=u d H3 r;exact⟨m,p,d,H3,I3,l⟩
  | cont =>
   obtain⟨d,H3,I3,r⟩:=i;obtain⟨m,p,l⟩:=u d H3 r;exact⟨m,p,d,H3,I3,l⟩
  | brk=>exact i
  | ret v=>exact i
 | false =>
  rw[if_neg cE];exact wpAny_execs_nil ⟨g,H2,I2,j⟩
end
structure It where
 go:Y03 Y5q
 yld:Y03 (Hp->Y1I V)
 stop:Y03 Y5q
def kQ(X:Cx)(pins:Ad)(H:Hp)(b:Addr):Prop :=
 H b=none/\Y4p b/\b ∉ X.fs/\(b∈X.ex\/Y8d b)/\(∀x c,Y3Q->c≠b)/\∀p∈X.pn++pins,p.1≠b
def cU.fpOk{X:Cx}{pins:Ad}{σ:St}{H H':Hp}{s:Shared}{b:Addr}(I:Y4)(hb:YdR b)(hn:H' b=none):kQ X pins H' b:=by
 refine⟨hn,Nat.ne_of_gt (aO I.lt hb),I.nofs hb,.inr (aJ I.sz hb),λx c e z=>?_,λp a z=>?_⟩
 ·obtain⟨v,q⟩:=Y6p x e;exact Y6s q.lt (by rw[z];exact hb) _
 ·exact Y6s (aY (Y85 a).1) (by rw[z];exact hb) _
structure DY(P:Program)(w:World)(K:Aa)(tg:Expr)(J:It)(fp:Y0D)(it:Addr)(tn:Y03 Y55):Prop where
 mem:it∈fp
 obj:∀i h,tn i h->∀b∈fp,∃o,Y29=Ya/\∀v,o.data ≠ .cell v
 keep:∀i h h',tn i h->(∀b∈fp,∀o,Y29=Ya->Y1i=Ya)->tn i h'
 item:∀(X:Cx),X.prog=P->X.w=w->X.K=K->Y1F->∀(i:Nat) (pins:Ad) (s:Shared) (σ:St) (H:Hp) (E:Yc),Y4->(∀b∈fp,Y3j)->Y9V i->Y5j H ->
  wpAny (model P w) X.A (pyNext (.ref it)) (λr s1=>∃u,r=Yo /\
   wpAny (model P w) X.A (letOwnedTupleGo tg (Y6e) u) (λ_ s2=>∃x H',Y4M s2/\fE x u/\J.yld i H x H'/\tn (i+1) s2.heap/\∀b∈fp,H' b=none) E s1) E s
 done:∀(X:Cx),X.prog=P->X.w=w->X.K=K->Y1F->∀(i:Nat) (pins:Ad) (s:Shared) (σ:St) (H:Hp) (E:Yc),Y4->(∀b∈fp,Y3j)->Y9V i->Y7Y H ->
  wpAny (model P w) X.A (pyNext (.ref it)) (λr s1=>r=none/\Y5p s1) E s
 self:∀(A:Around) (i:Nat) (s:Shared) (Q:Yc) (E:Yc),Y9V i->Y0N it s->wpAny (model P w) A (pyIter (Y6e)) Q E s
abbrev TI:=St->Y0i Hp (Y1I It)
def PIE(X:Cx)(pins:Ad)(σ:St)(tg:Expr)(R:Y1I It)(itv:Value)(s2:Shared):Prop :=
 ∃(it:Addr) (fp:Y0D) (tn:Y03 Y55) (J:It) (H':Hp),itv=Y6e/\Y4M s2/\DY X.prog X.w X.K tg J fp it tn/\tn 0 s2.heap/\(∀b∈fp,kQ X pins H' b)/\R J H'
def PI(X:Cx)(tg iter:Expr)(wi:TI):Prop :=
 ∀(pins:Ad) (s:Shared) (σ:St) (H:Hp) (R:Y1I It),Y4->wi σ H R ->
  Y4G (Y0a iter) (λv s1=>Y93 (pyIter v) (PIE X pins σ tg R) s1)
def QG{M:Model}{A:Around}{E:Yc}{s:Shared}{tg:Expr}{it:Addr}{u:Value}{o:Obj}{n:String}{vs:Ai}{Q:Unit->Y0M}(ho:Y3u it)(hc:o.cls=.type n)(hd:o.data=.fields vs)
    (hn:Yx (["enumerate","zip","dict_itemiterator","dict_reverseitemiterator","odict_iterator","itertools.zip_longest","itertools.pairwise"].contains n)) (hQ:Q () s):wpAny M A (letOwnedTupleGo tg (Y6e) u) Q E s:=by
  unfold letOwnedTupleGo;cases tg <;> first
    | exact wpAny_pure hQ
    | (cases u <;> first
        | exact wpAny_pure hQ
        | (refine Ydf ho ?_
           rw[hc,hd];show wpAny M A (if(["enumerate","zip","dict_itemiterator","dict_reverseitemiterator","odict_iterator","itertools.zip_longest","itertools.pairwise"].contains n&&vs[0]? == some (rawInt _))=true then _ else _) Q E s;rw[if_neg (by intro h;rw[hn,Bool.false_and]at h;cases h)];exact wpAny_pure hQ))
def Itl(K:Aa)(a:Addr):It :=
 ⟨Ycm (gH K H a xs/\Y0s=Y7),λi H x H'=>H'=H/\∀xs,gH K H a xs->Y0s=Y7,λi H=>∃xs,gH K H a xs/\Y6R i⟩
def Itt(K:Aa)(a:Addr):It :=
 ⟨Ycm (jA K H a xs/\Y0s=Y7),λi H x H'=>H'=H/\∀xs,jA K H a xs->Y0s=Y7,λi H=>∃xs,jA K H a xs/\Y6R i⟩
def Itr(lo:Int)(n:Nat):It:=⟨λi _=>i<n,λi H x H'=>H'=H/\x=.int (lo+i),λi _=>n<=i⟩
def RV{P:Program}{w:World}{K:Aa}{tg:Expr}(a it:Addr):DY P w K tg (Itl K a) [it] it (λi h=>h.IsListIter it a i) where
 mem:=by simp
 obj:=λi h st b j=>by
  have e:b=it:=by simpa using j
  subst e;obtain⟨o,e,c,d⟩:=st;exact Y1H e (λv z=>by rw[d]at z;cases z)
 keep:=λi h n st k=>st.at λo e=>k it (by simp) o e
 item:=by
  intro X A L N R i g s σ H E I r st O;subst A L N;obtain⟨β,x,m,D⟩:=O;obtain⟨J,rv,p,Y⟩:=I.list m;obtain⟨u,α,ru⟩:=rv.get D;obtain⟨G,B,S,C,M,y⟩:=r it (by simp);refine wpAny_pyNext_list_item st p.isList (x:=u) (by simpa using α) λn l Z=>?_;have I1:cU X g σ H { s with heap:=n }:=Yam s.toks ((Z.2 b j).trans e) G B C M y;obtain⟨o,e,c,d⟩:=id l;exact Y00 u (QG (s:={ s with heap:=n }) e c d Dd ⟨x,H,I1,ru,Y5 (λγ U=>by rw[I.list_inj U m];exact D),l,λb j=>(r b j).1⟩)
 done:=by
  intro X A L N R i g s σ H E I r st O;subst A L N;obtain⟨β,m,D⟩:=O;obtain⟨J,rv,p,Y⟩:=I.list m;obtain⟨G,B,S,C,M,y⟩:=r it (by simp);have δ:=rv.length;exact wpAny_pyNext_list_end (I.ok.hd R) st p.isList (by simp;exact Oo) λn T=>Y5 (Yam s.toks (T b o j e) G B C M y)
 self:=λ_ _ _ _ _ st h=>wpAny_pyIter_listiter st h
def LQ{P:Program}{w:World}{K:Aa}{tg:Expr}(a it:Addr):DY P w K tg (Itt K a) [it] it (λi h=>h.IsTupleIter it a i) where
 mem:=by simp
 obj:=λi h st b j=>by
  have e:b=it:=by simpa using j
  subst e;obtain⟨o,e,c,d⟩:=st;exact Y1H e (λv z=>by rw[d]at z;cases z)
 keep:=λi h r st k=>st.at λo e=>k it (by simp) o e
 item:=by
  intro X B L N R i g s σ H E I y st O;subst B L N;obtain⟨β,x,n,G⟩:=O;obtain⟨l,rv,p,Y⟩:=I.tuple n;obtain⟨u,α,ru⟩:=rv.get G;obtain⟨J,C,S,D,M,A⟩:=y it (by simp);refine wpAny_pyNext_tuple_item st (show s.heap.IsTuple a l.toArray from p) (x:=u) (by simpa using α) λr m Z=>?_;have I1:cU X g σ H { s with heap:=r }:=Yam s.toks ((Z.2 b j).trans e) J C D M A;obtain⟨o,e,c,d⟩:=id m;exact Y00 u (QG (s:={ s with heap:=r }) e c d Dd ⟨x,H,I1,ru,Y5 (λγ U=>by rw[I.tuple_inj U n];exact G),m,λb j=>(y b j).1⟩)
 done:=by
  intro X B L N R i g s σ H E I y st O;subst B L N;obtain⟨β,n,G⟩:=O;obtain⟨l,rv,p,Y⟩:=I.tuple n;obtain⟨J,C,S,D,M,A⟩:=y it (by simp);have δ:=rv.length;exact wpAny_pyNext_tuple_end (I.ok.hd R) st (show s.heap.IsTuple a l.toArray from p) (by simp;exact Oo) λr T=>Y5 (Yam s.toks (T b o j e) J C D M A)
 self:=λ_ _ _ _ _ st h=>wpAny_pyIter_tupleiter st h
def LT{P:Program}{w:World}{K:Aa}{tg:Expr}(it:Addr)(lo:Int)(n:Nat):DY P w K tg (Itr lo n) [it] it (λi h=>IsRangeIter h it (lo+(i:Nat)*1) ((n:Int)-(i:Nat)) 1) where
 mem:=by simp
 obj:=λi h st b c=>by
  have e:b=it:=by simpa using c
  subst e;exact⟨_,st,λv z=>by
   have N:Data.fields _=Data.cell v:=z;cases N⟩
 keep:=λi h j st k=>k it (by simp) _ st
 item:=by
  intro X m y B D i a s σ H E I g st C;subst m y B;obtain⟨u,p,J,r,A,l⟩:=g it (by simp);have W:=Walks.range (prog:=X.prog) (w:=X.w) (I.ok.hd D) it lo 1 n;refine W.item i s _ _ C st λv j G O d L=>?_;obtain⟨t,rfl⟩:=O;have I1:cU X a σ H { s with heap:=j,toks:=G }:=I.turned (λb o c e=>L b o (by simpa using c) e) u p r A l;refine Y6 (QG (s:={ s with heap:=j,toks:=G }) (n := "range_iterator") d rfl rfl Dd ⟨.int (lo+i),H,I1,Y0A t,Y6w,d,λb c=>(g b c).1⟩);rw[Int.mul_one]
 done:=by
  intro X m y B D i a s σ H E I g st C;subst m y B;obtain⟨u,p,J,r,A,l⟩:=g it (by simp);exact wpAny_pyNext_range_end (I.ok.hd D) st (by have:n<=i:=C;exact Oo) λj M=>Y5 (I.turned (t':=s.toks) (λb o c e=>M b o c e) u p r A l)
 self:=λ_ _ _ _ _ st h=>wpAny_pyIter_rangeiter st h
section
variable{X:Cx}{tg:Expr}
def YI(K:Aa)(tl:TE):TI:=λσ H R=>tl σ H λx H1=>∃a,x=Yi/\(∃xs,gH K H1 a xs)/\R (Itl K a) H1
def aGl(K:Aa)(tl:TE):TI:=λσ H R=>tl σ H λx H1=>∃a,x=Yi/\(∃xs,jA K H1 a xs)/\R (Itt K a) H1
def aBg{l:Expr}{tl:TE}(hl:Yn l tl):PI X tg l (YI X.K tl):=by
 intro c s σ H R I h;refine thn (hl c s σ H _ I h) λv d ⟨x,H1,I1,m,n⟩=>?_;obtain⟨a,e,⟨u,g⟩,q⟩:=n;subst e;cases m;obtain⟨j,rv,p,r⟩:=I1.list g;refine wpAny_pyIter_list p.isList ⟨d.heap.objs.size,Ydz,_,_,H1,rfl,Ybw d.toks Y2I,RV a _,Y6D _ Y0Q,λb i=>?_,q⟩;have e:b=d.heap.objs.size:=by simpa using i
 subst e;exact Yan Yp Yp
def aEr{l:Expr}{tl:TE}(hl:Yn l tl):PI X tg l (aGl X.K tl):=by
 intro c s σ H R I h;refine thn (hl c s σ H _ I h) λv d ⟨x,H1,I1,m,n⟩=>?_;obtain⟨a,e,⟨u,i⟩,q⟩:=n;subst e;cases m;obtain⟨g,rv,p,r⟩:=I1.tuple i;refine wpAny_pyIter_tuple (show d.heap.IsTuple a g.toArray from p) ⟨d.heap.objs.size,Ydz,_,_,H1,rfl,Ybw d.toks Y2I,LQ a _,Y6D _ Y0Q,λb j=>?_,q⟩;have e:b=d.heap.objs.size:=by simpa using j
 subst e;exact Yan Yp Yp
def IY{pins:Ad}{σ:St}{H:Hp}{s:Shared}{R:Y1I It}{E:Yc}{lo hi:Int}{t u v:Tok}{tk:Nat}(I:Y4)(h1:-(2^62)<=lo)(h2:lo<2^62)(h3:-(2^62)<=hi)(h4:hi<2^62)
  (q:R (Itr lo (hi-lo).toNat) H):Y8e (pyIter (Y0I)) (PIE X pins σ tg R) E ({ s with heap:=s.heap.push { cls:=.type "range",data:=.fields #[.int lo t,.int hi u,.int 1 v] },toks:=tk }):=by
 refine wpAny_pyIter_range (IsRange.new ..) (small_one h1 h2 h3 h4) ?_;have I1:Y5p ({ s with heap:=s.heap.push { cls:=.type "range",data:=.fields #[.int lo t,.int hi u,.int 1 v] },toks:=tk }):=I.kept λb o e=>Y2I;refine⟨(s.heap.push { cls:=.type "range",data:=.fields #[.int lo t,.int hi u,.int 1 v] }).objs.size,[(s.heap.push { cls:=.type "range",data:=.fields #[.int lo t,.int hi u,.int 1 v] }).objs.size],_,_,H,rfl,
  Ybw tk Y2I,LT _ lo (hi-lo).toNat,?_,λb d=>?_,q⟩
 ·have a:lo+((0:Nat):Int)*1=lo:=by simp
  have c:(((hi-lo).toNat:Nat):Int)-((0:Nat):Int)=Builtin.Range.rangeSize lo hi 1:=by rw[rangeSize_one];split <;> exact Oo
  show IsRangeIter _ _ (lo+((0:Nat):Int)*1) ((((hi-lo).toNat:Nat):Int)-((0:Nat):Int)) 1;rw[a,c];exact Y0Q
 ·have e:b=(s.heap.push { cls:=.type "range",data:=.fields #[.int lo t,.int hi u,.int 1 v] }).objs.size:=by simpa using d
  subst e;exact Yan Yp Yp
def aCH(ta:TA):TI:=Yb3 σ H (λvs H1=>∃j:Int,vs=[.int j]/\-(2^62)<=j/\j<2^62/\R (Itr 0 j.toNat) H1)
def aCG(ta:TA):TI:=Yb3 σ H (λvs H1=>∃i j:Int,vs=[Y1w,.int j]/\(-(2^62)<=i/\i<2^62/\-(2^62)<=j/\j<2^62)/\R (Itr i (j-i).toNat) H1)
def SJ{a:Expr}{ta:TA}{p pos:Pos}(hg:Gl X "range")(hm:X.mg "range" = none)(ha:PA X [a] ta)(hs:Y38 a=[(false,Y0a a)]:=by rfl):PI X tg (Y7K "range" p [a] []) (aCH ta):=by
 intro c s σ H R I h;refine Call_ (vV I hg hm boot_range (Yah (ha pos c s σ H _ I h) (λl n ⟨m,H1,I1,i,d⟩=>?_) hs rfl));obtain⟨j,e,d,g,q⟩:=d;subst e;cases i with
 | cons r rr =>
  cases rr;obtain⟨t,rfl⟩:=r;exact call_range_1 (IY I1 Oo Oo d g (by simpa using q))
def SI{a b:Expr}{ta:TA}{p pos:Pos}(hg:Gl X "range")(hm:X.mg "range" = none)(ha:PA X [a,b] ta)(hs:Y26 [a,b]=[(false,Y0a a),(false,Y0a b)]:=by rfl)(hs2:Y38 b=[(false,Y0a b)]:=by rfl) :
  PI X tg (Y7K "range" p [a,b] []) (aCG ta):=by
 intro c s σ H R I h;refine Call_ (vV I hg hm boot_range (Yah (ha pos c s σ H _ I h) (λu z ⟨w,H1,I1,n,d⟩=>?_) (by rw[hs,hs2]) (by rw[hs2];rfl)));obtain⟨i,j,e,⟨d,m,l,g⟩,q⟩:=d;subst e;cases n with
 | cons r rr =>
  cases rr with
  | cons r' rr =>
   cases rr;obtain⟨t,rfl⟩:=r;obtain⟨y,rfl⟩:=r';exact call_range_2 (IY I1 d m l g q)
def aFN(wi:TI)(g:TG)(tb:TS):TS:=λD σ H=>wi σ H λJ H1=>∃W:Nat->Nat->St->Hp->Prop,(Y4H 0 m σ H1)/\∀i m σ H,W i m σ H ->
 (Y7Y H/\Y3P)\/(Y5j H/\∃N:St->Hp->Prop,Y8K (N σ' H'->∃m',m' < m/\W (i+1) m' σ' H') (J.yld i H x H'->g x σ H' (Y4O ({ D with nx:=N,ct:=N,bk:=D.nx }))))
def vQ(fp:Y0D)(h:Heap):Ad:=fp.filterMap λb=>(h.get? b).map λo=>(b,o)
def kB{fp:Y0D}{h:Heap}{b:Addr}{o:Obj}(hb:b∈fp)(e:Y29=Ya):(b,o)∈vQ fp h:=List.mem_filterMap.mpr ⟨b,hb,by rw[e];rfl⟩
def SL{fp:Y0D}{h:Heap}{p:Addr × Obj}(hp:p∈vQ fp h):p.1∈fp/\h.get? p.1=some p.2:=by
 obtain⟨b,a,e⟩:=List.mem_filterMap.mp hp;cases q:Y29 with
 | none=>rw[q]at e;cases e
 | some o =>
  rw[q]at e;have c:(b,o)=p:=fX e;subst c;exact⟨a,q⟩
def cU.pinned{pins:Ad}{σ:St}{H:Hp}{s:Shared}{fp:Y0D}(I:Y4)(hf:∀b∈fp,Y3j)(ho:∀b∈fp,∃o,Y23/\∀v,o.data ≠ .cell v):cU X (pins++vQ fp s.heap) σ H s :=
 I.pins_of λp h=>(dH.mp h).elim (λz=>Y85 (bL _ z)) λz=>by
  obtain⟨c,e⟩:=SL z;obtain⟨i,j,g,_⟩:=hf p.1 c;obtain⟨o,a,d⟩:=ho p.1 c;rw[e]at a;cases a;exact⟨e,i,j,g,d⟩
def cU.unpinned{pins pl:Ad}{σ:St}{H:Hp}{s:Shared}(I:cU X (pins++pl) σ H s):Y4:=I.pins_of λp a=>Y85 (bL _ (cN _ a))
def aEl{iter:Expr}{body:Y5z}{wi:TI}{g:TG}{tb:TS}{pos:Pos}(hp:YaO X.A X.env X.xe)(hc:Y1F)(hi:PI X tg iter wi)(hg:PG X tg g)(hb:NX X body tb)
  (hs:∀x,Y56 x=Y4I:=by intro _;rfl):PS X (.For tg iter body [] pos) (aFN wi g tb):=by
 intro a s σ H D I h;refine wpAny_For (thn (hi a s σ H _ I h) λv s1 η=>thn η λχ s2 ζ=>?_) hs;obtain⟨it,L,Y,J,H2,e,I2,T,S,β,W,⟨φ,ο⟩,B⟩:=ζ;subst e;have c:∀{H':Hp},(∀b∈L,H' b=none)->∀b∈L,kQ X a H' b:=λθ b hb=>⟨θ b hb,(β b hb).2⟩;refine codeAny_forLoop_any (λn Z=>∃i σ' H',cU X a σ' H' Z/\Y i Z.heap/\(∀b∈L,H' b=none)/\W i n σ' H') ?_ φ ⟨0,σ,H2,I2,S,λb hb=>(β b hb).1,ο⟩;rintro n α ⟨i,G,H3,I3,O,z,υ⟩;rcases B i n G H3 υ with⟨C,qn⟩ | ⟨go,N,μ,step⟩
 ·refine Y95 hp (T.done X rfl rfl rfl hc i a α G H3 X.xe I3 (c z) O C) (λr s4 ⟨P,I4⟩=>?_);subst P;exact wpAny_execs_nil ⟨G,H3,I4,qn⟩
 ·refine Y95 hp (T.item X rfl rfl rfl hc i a α G H3 X.xe I3 (c z) O go) (λr s4 ⟨u,P,h4⟩=>?_);subst P;refine Y95 hp h4 (λ_ γ ⟨x,H5,I5,δ,ω,y,U⟩=>?_);have I5':=I5.pinned (c U) (T.obj _ _ y);refine Y95 hp (hg _ γ G H5 x u _ I5' δ (step x H5 ω)) (λ_ ν ⟨ψ,H6,I6,κ⟩=>?_);refine Y95 hp (hb _ ν ψ H6 _ I6 κ) (λf R p=>?_);have j:∀{l:St} {H7:Hp},cU X (a++vQ L γ.heap) l H7 R->N l H7->∃m,m<n/\∃i σ' H',cU X a σ' H' R/\Y i R.heap/\(∀b∈L,H' b=none)/\W i m σ' H':=λ{l H7} I7 M=>by
   obtain⟨ι,ρ,τ⟩:=μ l H7 M;refine⟨ι,ρ,i+1,l,H7,I7.unpinned,T.keep _ _ _ y λb hb o e=>(I7.pin (b,o) (bL _ (bL _ (kB hb e)))).1,λb hb=>?_,τ⟩;obtain⟨o,e,d⟩:=T.obj _ _ y b hb;exact(I7.pin (b,o) (bL _ (bL _ (kB hb e)))).2.1
  cases f with
  | next=>obtain⟨l,H7,I7,M⟩:=p;exact j I7 M
  | cont=>obtain⟨l,H7,I7,M⟩:=p;exact j I7 M
  | brk=>obtain⟨l,H7,I7,p⟩:=p;exact⟨l,H7,I7.unpinned,p⟩
  | ret v=>obtain⟨ξ,l,H7,I7,ε,p⟩:=p;exact⟨ξ,l,H7,I7.unpinned,ε,p⟩
end
def mG{K:Aa}{a:Addr}{xs:Al}{g:TG}{tb:TS}{D:qH}{σ:St}{H:Hp}(Pv:Y03 Y1Z)(h0:Y6h 0)(hl:∀i σ H,Y51 i->Y34->gH K H a xs)
  (hs:∀i x σ H,Y0s=Y7->Y34->g x σ H (Y4O ({ D with nx:=Pv (i+1),ct:=Pv (i+1),bk:=D.nx }))) (hd:∀σ H,Ycj->Y3P) :
  ∃W:Nat->Nat->St->Hp->Prop,(Y4H 0 m σ H)/\∀i m σ H,W i m σ H ->
   ((Itl K a).stop i H/\Y3P)\/((Itl K a).go i H/\∃N:St->Hp->Prop,Y8K (N σ' H'->∃m',m' < m/\W (i+1) m' σ' H') ((Itl K a).yld i H x H'->g x σ H' (Y4O ({ D with nx:=N,ct:=N,bk:=D.nx })))):=by
 refine Y9q (m=Y4w i/\Y51 i/\Y34) ⟨xs.length,by simp,Y0x,h0⟩;rintro i m σ H ⟨rfl,d,p⟩;have q:=hl i σ H d p;by_cases hlt:Y2u i
 ·refine Y3M ⟨xs,xs[i],q,by simp[hlt]⟩ (Pv (i+1)) (λσ' H' c=>Y0h (Y4w (i+1)) Oo hlt c) Ycc;obtain⟨e,y⟩:=y;subst e;exact hs i x σ _ (y xs q) p
 ·have e:Y53 i:=Oo;subst e;exact Y2k ⟨xs,q,Yp⟩ (hd σ H p)
def QJ{K:Aa}{a:Addr}{xs:Al}{g:TG}{tb:TS}{D:qH}{σ:St}{H:Hp}(Pv:Y03 Y1Z)(h0:Y6h 0)(hl:∀i σ H,Y51 i->Y34->jA K H a xs)
  (hs:∀i x σ H,Y0s=Y7->Y34->g x σ H (Y4O ({ D with nx:=Pv (i+1),ct:=Pv (i+1),bk:=D.nx }))) (hd:∀σ H,Ycj->Y3P) :
  ∃W:Nat->Nat->St->Hp->Prop,(Y4H 0 m σ H)/\∀i m σ H,W i m σ H ->
   ((Itt K a).stop i H/\Y3P)\/((Itt K a).go i H/\∃N:St->Hp->Prop,Y8K (N σ' H'->∃m',m' < m/\W (i+1) m' σ' H') ((Itt K a).yld i H x H'->g x σ H' (Y4O ({ D with nx:=N,ct:=N,bk:=D.nx })))):=by
 refine Y9q (m=Y4w i/\Y51 i/\Y34) ⟨xs.length,by simp,Y0x,h0⟩;rintro i m σ H ⟨rfl,d,p⟩;have q:=hl i σ H d p;by_cases hlt:Y2u i
 ·refine Y3M ⟨xs,xs[i],q,by simp[hlt]⟩ (Pv (i+1)) (λσ' H' c=>Y0h (Y4w (i+1)) Oo hlt c) Ycc;obtain⟨e,y⟩:=y;subst e;exact hs i x σ _ (y xs q) p
 ·have e:Y53 i:=Oo;subst e;exact Y2k ⟨xs,q,Yp⟩ (hd σ H p)
def oQ{lo:Int}{n:Nat}{g:TG}{tb:TS}{D:qH}{σ:St}{H:Hp}(Pv:Y03 Y1Z)(h0:Y6h 0)
  (hs:∀i σ H,i<n->Y34->g (.int (lo+i)) σ H (Y4O ({ D with nx:=Pv (i+1),ct:=Pv (i+1),bk:=D.nx }))) (hd:∀σ H,Y6h n->Y3P) :
  ∃W:Nat->Nat->St->Hp->Prop,(Y4H 0 m σ H)/\∀i m σ H,W i m σ H ->
   ((Itr lo n).stop i H/\Y3P)\/((Itr lo n).go i H/\∃N:St->Hp->Prop,Y8K (N σ' H'->∃m',m' < m/\W (i+1) m' σ' H') ((Itr lo n).yld i H x H'->g x σ H' (Y4O ({ D with nx:=N,ct:=N,bk:=D.nx })))):=by
 refine Y9q (m=n-i/\i<=n/\Y34) ⟨n,by simp,Y0x,h0⟩;rintro i m σ H ⟨rfl,c,p⟩;by_cases hlt:i<n
 ·refine Y3M hlt (Pv (i+1)) (λσ' H' a=>Y0h (n-(i+1)) Oo hlt a) Ycc;obtain⟨e,y⟩:=y;subst e y;exact hs i σ _ hlt p
 ·have e:i=n:=Oo;subst e;exact Y2k Yp (hd σ H p)
abbrev R2:=V->V->(Hp->(Y0C VK))
def vM(X:Cx)(f:Y2w (Y2w Y7M))(r:R2):Prop :=
 ∀(pins:Ad) (s:Shared) (σ:St) (H:Hp) (x y:V) (v u:Value) (Q:VK),Y4->fE x v->Y3k->r x y H Q ->
  Y6z (f v u) X σ Q
def UnR(X:Cx)(f:Y2w Y7M)(r:V->(Hp->(Y0C VK))):Prop :=
 ∀(pins:Ad) (s:Shared) (σ:St) (H:Hp) (x:V) (v:Value) (Q:VK),Y4->fE x v->r x H Q ->
  Y6z (f v) X σ Q
def mN(X:Cx)(f:Value)(r:Y1B):Prop :=
 ∀(pins:Ad) (s:Shared) (σ:St) (H:Hp) (xs:Al) (us:Ag) (Q:VK),Y4->Y5h->r xs H Q ->
  Y6z (call f us) X σ Q
def tOp(r:R2)(ta tb:TE):TE:=Y8N σ H (tb σ H1 λy H2=>r x y H2 Q)
def tUn(r:V->(Hp->(Y0C VK)))(ta:TE):TE:=Y8N σ H (r x H1 Q)
def rI(C:Y0i Int Int)(g:Int->Int->V):R2:=λx y H Q=>∃i j,x=Y1w/\y=.int j/\C i j/\Q (g i j) H
def rI0(g:Int->Int->V):R2:=λx y H Q=>∃i j,x=Y1w/\y=.int j/\Q (g i j) H
def rU(g:Int->V):V->(Hp->(Y0C VK)):=λx H Q=>∃i,x=Y1w/\Q (g i) H
section
variable{X:Cx}{a b c:Expr}{ta tb tc:TE}{pos:Pos}
def aFh(ha:Y5k a)(hb:Yn b tb){pins:Ad}{s:Shared}{σ:St}{H:Hp}{R:V->Y1I V}(I:Y4)
  (h:ta σ H λx H1=>tb σ H1 λy H2=>R x y H2) {Q:Yc} {f:Y2w (Y2w Y7M)}
  (hf:∀v u s2 x y H2,Y27 H2 s2->fE x v->Y3k->R x y H2->Y93 (f v u) Q s2) :
  Y4G (Y0a a) (λv s₁=>Y93 (Y0a b) (λu s₂=>Y93 (f v u) Q s₂) s₁):=by
 exact thn (ha pins s σ H _ I h) λv e ⟨x,H1,I1,c,g⟩=>thn (hb pins e σ H1 _ I1 g) λu s2 ⟨y,H2,I2,i,d⟩=>hf v u s2 x y H2 I2 c i d
def aF9{op:Operator}{r:R2}(ho:Y4X X op r)(ha:Y5k a)(hb:Yn b tb):Yn (.BinOp a op b pos) (tOp r ta tb):=by
 intro c s σ H Q I h;exact wpAny_BinOp (Ydu ha hb I h (ho c g σ H2 x y v u Q I2 e d q))
def aF8{op:UnaryOp}{r:V->(Hp->(Y0C VK))}(ho:UnR X (unaryOp op) r)(ha:Y5k a):Yn (Y9A op a) (tUn r ta):=by
 intro c s σ H Q I h;exact UnaryOp_ (thn (ha c s σ H _ I h) λv e ⟨x,H1,I1,d,g⟩=>ho c e σ H1 x v Q I1 d g)
def opI{f:Y2w (Y2w Y7M)}{C:Y0i Int Int}{g:Int->Int->Int}
  (rule:∀(i j:Int) (t u:Tok) (s:Shared) (Q:Yc) (E:Yc),C i j->Q (.int (g i j) s.toks) { s with toks:=s.toks+1 }->Y8e (f (Y4g i) (.int j u)) Q E s) :
  vM X f (rI C (Y8q (g i j))):=by
 intro a s σ H x y v u Q I d c h;obtain⟨i,j,rfl,rfl,l,q⟩:=h;obtain⟨t,rfl⟩:=d;obtain⟨e,rfl⟩:=c;exact rule i j t e s _ _ l ⟨.int (g i j),H,Y1W,Y3w,q⟩
def aGd{f:Y2w (Y2w Y7M)}{g:Int->Int->Int}
  (rule:∀(i j:Int) (t u:Tok) (s:Shared) (Q:Yc) (E:Yc),Q (.int (g i j) s.toks) { s with toks:=s.toks+1 }->Y8e (f (Y4g i) (.int j u)) Q E s) :
  vM X f (rI0 (Y8q (g i j))):=by
 intro a s σ H x y v u Q I d c h;obtain⟨i,j,rfl,rfl,q⟩:=h;obtain⟨t,rfl⟩:=d;obtain⟨e,rfl⟩:=c;exact rule i j t e s _ _ ⟨.int (g i j),H,Y1W,Y3w,q⟩
def aEG{f:Y2w (Y2w Y7M)}{g:Int->Y2K Int}
  (rule:∀(i j:Int) (t u:Tok) (s:Shared) (Q:Yc) (E:Yc),Q (.bool (g i j)) s->Y8e (f (Y4g i) (.int j u)) Q E s) :
  vM X f (rI0 λi j=>.bl (g i j)):=by
 intro a s σ H x y v u Q I d c h;obtain⟨i,j,rfl,rfl,q⟩:=h;obtain⟨t,rfl⟩:=d;obtain⟨e,rfl⟩:=c;exact rule i j t e s _ _ (Y1h (.bl (g i j)) H I q)
def aJk(i j:Int):Prop:=0<=j/\j<=1000000/\i.natAbs<2^64
def fT:Y4X X .Add (rI0 (Y8q (i+j))):=aGd λ_ _ _ _ _ _ _ q=>add_int q
def qD:Y4X X .Sub (rI0 (Y8q (i-j))):=aGd λ_ _ _ _ _ _ _ q=>sub_int q
def pC:Y4X X .Mod (rI (λ_ j=>0<j) (Y8q (i % j))):=opI λi j _ _ _ _ _ a q=>by
 have c:(0:Int)<j:=a;exact mod_int' Oo (by rw[Int.fmod_eq_emod_of_nonneg i Oo];exact q)
def aEC:Y4X X .Pow (rI aJk (Y8q (i^j.toNat))):=opI λ_ _ _ _ _ _ _ a q=>pow_int_small a.1 a.2.1 a.2.2 q
def unI{f:Y2w Y7M}{g:Int->Int}
  (rule:∀(i:Int) (t:Tok) (s:Shared) (Q:Yc) (E:Yc),Q (.int (g i) s.toks) { s with toks:=s.toks+1 }->Y8e (f (Y4g i)) Q E s) :
  UnR X f (rU λi=>.int (g i)):=by
 intro a s σ H x v Q I c h;obtain⟨i,rfl,q⟩:=h;obtain⟨t,rfl⟩:=c;exact rule i t s _ _ ⟨.int (g i),H,Y1W,Y3w,q⟩
def vP:UnR X (unaryOp .USub) (rU λi=>.int (-i)):=unI λ_ _ _ _ _ q=>neg_int q
end
def scal:V->Y2K V
 | .non,.non=>true | .non,.int _=>true | .int _,.non=>true | .non,.bl _=>true | .bl _,.non=>true | .non,.str _=>true | .str _,.non=>true
 | .int _,.int _=>true | .bl _,.bl _=>true | .str _,.str _=>true | .byt _,.byt _=>true
 | .int _,.str _=>true | .str _,.int _=>true | .bl _,.str _=>true | .str _,.bl _=>true
 | _,_=>false
def rEq:R2:=λx y H Q=>scal x y=true/\Y2N (Y10 x y)
def rNe:R2:=λx y H Q=>scal x y=true/\Y2N (! Y10 x y)
def xL{i j:Int}:Y10 (V.int i) (V.int j)=(i == j):=by
 rw[Bool.eq_iff_iff];simp
def YY{i j:Bool}:Y10 (V.bl i) (V.bl j)=(i == j):=by
 rw[Bool.eq_iff_iff];simp
def QR{i j:Str}:Y10 (V.str i) (V.str j)=(i == j):=by
 rw[Bool.eq_iff_iff];simp
def QS{i j:Array UInt8}:Y10 (V.byt i) (V.byt j)=(i.toList == j.toList):=by
 rw[Bool.eq_iff_iff];cases i;cases j;simp
section
variable{X:Cx}{a b c:Expr}{ta tb tc:TE}{pos:Pos}
def fU{pins:Ad}{σ:St}{H:Hp}{s:Shared}{Q:VK}{k k':Bool}(I:Y4)(q:Y2N k)(e:k=k'):EP X pins σ Q (.bool k') s:=by
 subst e;exact Y1h (.bl k) H I q
def rF:Y3s X .Eq rEq:=by
 intro g s σ H x y v u Q I e a h;obtain⟨d,q⟩:=h;cases x with
 | non =>
  cases e;cases y with
  | non=>cases a;exact PySem.EqNone.eq_none_none (Y16 (by simp))
  | bl j=>cases a;exact PySem.EqNone.eq_none_bool (Y16 (by simp))
  | int j=>obtain⟨c,rfl⟩:=a;exact PySem.EqNone.eq_none_int (Y16 (by simp))
  | str j=>obtain⟨c,rfl⟩:=a;exact PySem.EqNone.eq_none_str (Y16 (by simp))
  | _=>exact Y2v (show false=true from d)
 | bl i =>
  cases e;cases y with
  | non=>cases a;exact PySem.EqNone.eq_bool_none (Y16 (by simp))
  | bl j=>cases a;exact eq_bool (Y16 YY)
  | str j=>obtain⟨c,rfl⟩:=a;exact PySem.EqMixed.eq_bool_str (Y16 (by simp))
  | _=>exact Y2v (show false=true from d)
 | int i =>
  obtain⟨t,rfl⟩:=e;cases y with
  | non=>cases a;exact PySem.EqNone.eq_int_none (Y16 (by simp))
  | int j=>obtain⟨c,rfl⟩:=a;exact eq_int (Y16 xL)
  | str j=>obtain⟨c,rfl⟩:=a;exact PySem.EqMixed.eq_int_str (Y16 (by simp))
  | _=>exact Y2v (show false=true from d)
 | str i =>
  obtain⟨t,rfl⟩:=e;cases y with
  | non=>cases a;exact PySem.EqNone.eq_str_none (Y16 (by simp))
  | bl j=>cases a;exact PySem.EqMixed.eq_str_bool (Y16 (by simp))
  | int j=>obtain⟨c,rfl⟩:=a;exact PySem.EqMixed.eq_str_int (Y16 (by simp))
  | str j=>obtain⟨c,rfl⟩:=a;exact eq_str (Y16 QR)
  | _=>exact Y2v (show false=true from d)
 | byt i =>
  obtain⟨t,rfl⟩:=e;cases y with
  | byt j=>obtain⟨c,rfl⟩:=a;exact PySem.W.eq_bytes (Y16 QS)
  | _=>exact Y2v (show false=true from d)
 | _=>cases y <;> exact Y2v (show false=true from d)
def aCC:Y3s X .NotEq rNe:=by
 intro g s σ H x y v u Q I e a h;obtain⟨d,q⟩:=h;cases x with
 | non =>
  cases e;cases y with
  | non=>cases a;exact PySem.EqNone.ne_none_none (Y16 (by simp))
  | bl j=>cases a;exact PySem.EqNone.ne_none_bool (Y16 (by simp))
  | int j=>obtain⟨c,rfl⟩:=a;exact PySem.EqNone.ne_none_int (Y16 (by simp))
  | str j=>obtain⟨c,rfl⟩:=a;exact PySem.EqNone.ne_none_str (Y16 (by simp))
  | _=>exact Y2v (show false=true from d)
 | bl i =>
  cases e;cases y with
  | non=>cases a;exact PySem.EqNone.ne_bool_none (Y16 (by simp))
  | bl j=>cases a;exact ne_bool (YcB not YY)
  | str j=>obtain⟨c,rfl⟩:=a;exact PySem.EqMixed.ne_bool_str (Y16 (by simp))
  | _=>exact Y2v (show false=true from d)
 | int i =>
  obtain⟨t,rfl⟩:=e;cases y with
  | non=>cases a;exact PySem.EqNone.ne_int_none (Y16 (by simp))
  | int j=>obtain⟨c,rfl⟩:=a;exact ne_int (YcB not xL)
  | str j=>obtain⟨c,rfl⟩:=a;exact PySem.EqMixed.ne_int_str (Y16 (by simp))
  | _=>exact Y2v (show false=true from d)
 | str i =>
  obtain⟨t,rfl⟩:=e;cases y with
  | non=>cases a;exact PySem.EqNone.ne_str_none (Y16 (by simp))
  | bl j=>cases a;exact PySem.EqMixed.ne_str_bool (Y16 (by simp))
  | int j=>obtain⟨c,rfl⟩:=a;exact PySem.EqMixed.ne_str_int (Y16 (by simp))
  | str j=>obtain⟨c,rfl⟩:=a;exact ne_str (YcB not QR)
  | _=>exact Y2v (show false=true from d)
 | byt i =>
  obtain⟨t,rfl⟩:=e;cases y with
  | byt j=>obtain⟨c,rfl⟩:=a;exact PySem.W.ne_bytes (YcB not QS)
  | _=>exact Y2v (show false=true from d)
 | _=>cases y <;> exact Y2v (show false=true from d)
def xD:Y3s X .Lt (rI0 λi j=>.bl (Y1E i j)):=Ydv (lt_int q)
def ET:Y3s X .Gt (rI0 λi j=>.bl (Y1E j i)):=Ydv (gt_int q)
def XM:Y3s X .GtE (rI0 λi j=>.bl (decide (j<=i))):=Ydv (ge_int q)
def pD:Y3s X .Is (λx y H Q=>y=.non/\Y2N (Y10 x .non)):=by
 intro c s σ H x y v u Q I a d h;obtain⟨rfl,q⟩:=h;cases d;refine is_none_gen (Y16 ?_);cases x <;> first
  | (cases a;rfl)
  | (obtain⟨t,rfl⟩:=a;rfl)
def PU:Y3s X .IsNot (λx y H Q=>y=.non/\Y2N (! Y10 x .non)):=by
 intro c s σ H x y v u Q I a d h;obtain⟨rfl,q⟩:=h;cases d;refine isnot_none_gen (Y16 ?_);cases x <;> first
  | (cases a;rfl)
  | (obtain⟨t,rfl⟩:=a;rfl)
def nomark(b:Expr){op:CmpOp}(h:op ≠ .In:=by decide)(h2:op ≠ .NotIn:=by decide):YaF op b:=by
 have a:Yx (op == CmpOp.In):=by cases op <;> first | rfl | exact Y7H h
 have c:Yx (op == CmpOp.NotIn):=by cases op <;> first | rfl | exact Y7H h2
 cases b <;> simp[behindInMarks,a,c]
def aBo{op:CmpOp}{r:R2}(ho:Y3s X op r)(ha:Y5k a)(hb:Yn b tb)(hm:YaF op b):Yn (Y9Z [op] [b] pos) (tOp r ta tb):=by
 intro c s σ H Q I h;exact wpAny_Compare1 (Ydu ha hb I h (ho c g σ H2 x y v u Q I2 e d q)) hm
def aCq(t:TE):TT:=Y4P H (λx H'=>∃k,x=.bl k/\Q k H')
def aBa{op:CmpOp}{r:R2}(ho:Y3s X op r)(ha:Y5k a)(hb:Yn b tb)(hm:YaF op b):PT X (Y9Z [op] [b] pos) (aCq (tOp r ta tb)):=by
 intro d s σ H Q I h;refine wpAny_isTrue_Compare1 (thn (ha d s σ H _ I h) λv w ⟨x,H1,I1,l,m⟩=>thn (hb d w σ H1 _ I1 m) λu n ⟨y,H2,I2,p,j⟩ =>
  thn (ho d n σ H2 x y v u _ I2 l p j) λc A ⟨z,H3,I3,g,k,e,i⟩=>?_) hm
 subst e;cases g;exact wpAny_truthy_bool ⟨H3,I3,i⟩
def CD:(sizeLine:Nat)<2^63:=by rw[sizeLine_eq];decide
def nM{x:V}{us:Ag}(r:Y2C [x]):∃u,us=[u]/\fE x u:=by
 cases r with
 | cons r1 r2=>cases r2;exact Y6 r1
def ZM:Y4Y X "abs" (λxs H Q=>∃i,xs=[Y1w]/\Y1M (if i<0 then -i else i)):=by
 intro a s σ H xs d Q I r h;obtain⟨i,rfl,q⟩:=h;obtain⟨u,rfl,t,rfl⟩:=nM r;exact call_abs_int λu c=>⟨.int (if i<0 then -i else i),H,Y1W,Y3w,q⟩
def FK:Y9T X "int" (λxs H Q=>(∃i,xs=[Y1w]/\Y1M i)\/∃k,xs=[.bl k]/\Y1M (if k then 1 else 0)):=by
 intro a s σ H xs d Q I r h;rcases h with⟨i,rfl,q⟩ | ⟨k,rfl,q⟩
 ·obtain⟨u,rfl,t,rfl⟩:=nM r;exact call_int_int ⟨Y1w,H,I,Y3w,q⟩
 ·obtain⟨u,rfl,c⟩:=nM r;cases c;exact call_int_bool ⟨.int (if k then 1 else 0),H,Y1W,Y3w,q⟩
def aGJ(K:Aa)(x:V)(H:Hp)(n:Nat):Prop :=
 match x with
 | .str y=>y.length<=sizeLine/\n=y.length
 | .byt y=>y.size<=sizeLine/\n=y.size
 | .ref p=>(∃xs,gH K H p xs/\n=xs.length)\/∃xs,jA K H p xs/\n=xs.length
 | _=>False
def ZL:Y4Y X "len" (λxs H Q=>∃x n,xs=[x]/\aGJ X.K x H n/\Y1M n):=by
 intro m s σ H xs B Q I r h;obtain⟨x,n,rfl,e,q⟩:=h;obtain⟨u,rfl,d⟩:=nM r;have C:=CD;have A:sizeLine=16777216:=sizeLine_eq;cases x with
 | str y =>
  obtain⟨t,rfl⟩:=d;obtain⟨w,c⟩:Y0O y.length/\n=y.length:=e;subst c;exact len_str Oo ⟨.int _,H,Y1W,Y3w,q⟩
 | byt y =>
  obtain⟨t,rfl⟩:=d;obtain⟨w,c⟩:Y0O y.size/\n=y.size:=e;subst c;exact PySem.W.len_bytes Oo ⟨.int _,H,Y1W,Y3w,q⟩
 | ref p =>
  cases d;have c:(∃xs,gH X.K H p xs/\Y53 n)\/∃xs,jA X.K H p xs/\Y53 n:=e;rcases c with⟨xs,j,c⟩ | ⟨xs,j,c⟩
  ·subst c;obtain⟨l,i,g,z⟩:=I.list j;have a:=i.length;exact Calls.call_len_list g.isList (by simp only[bF];exact Oo) ⟨.int xs.length,H,Y1W,Y2S (by simp only[bF];rw[a]),q⟩
  ·subst c;obtain⟨l,i,g,z⟩:=I.tuple j;have a:=i.length;exact len_tuple g (by simp only[bF];exact Oo) ⟨.int xs.length,H,Y1W,Y2S (by simp only[bF];rw[a]),q⟩
 | _=>exact(show False from e).elim
end
structure NZ(h:Heap)(x dx C:Addr)(mA:Y0H):Prop where
 obj:h.get? x=some (YbU dx)
 ns:h.Ns1 dx mA
 ne:dx≠x
def SQ{h:Heap}{dx:Addr}{mA:Y0H}(n:h.Ns1 dx mA):∃od,h.get? dx=some od/\∀name,PySem.W.lookIn name od=some (mA name):=by
 obtain⟨o,d,p,j,hd,g,_,i⟩:=n;refine Y1H j (λname=>?_);have e:=i name;unfold nsFind findBy at e;rw[<-Array.find?_toList]at e;unfold PySem.W.lookIn;rw[hd];dsimp only;split
 ·rename_i y q
  rw[q]at e;exact YaR e
 ·rename_i q
  rw[q]at e;have a:Yx (d.toList.any (·.refKey)):=by
   rw[List.any_eq_false];intro y m;obtain⟨z,t,c⟩:=g y (Array.mem_toList_iff.mp m);simp[DictEntry.refKey,c]
  have l:¬d.toList.any (·.refKey)=true:=by rw[a];exact cE
  rw[if_neg l];exact YaR e
def NZ.look{h:Heap}{x dx C:Addr}{mA:Y0H}(I:NZ h x dx C mA):∃od,PySem.W.InstAt h x (YbU dx) C (some od)/\∀name,PySem.W.lookIn name od=some (mA name) :=
 let ⟨od,ho,hl⟩:=SQ I.ns
 ⟨od,Y0X I.obj rfl ho,hl⟩
section
variable{prog:Program}{w:World}{A:Around}{E:Yc}{s:Shared}{K:Aa}{x dx C f:Addr}{mA:Y0H}{name:Str}{v:Value}
def aBJ{expr:Bool}{Q:Yc}(X:Y9z)(I:NZ s.heap x dx C mA)(hg:Yax C name=true)(hh:YbA C=true)
  (ha:Y6M K C name=Y1u) (hv:mA name=Ys) (hv':PySem.W.handedIn v=true) (h:Q v { s with toks:=s.toks+1 }) :
  Y21 (getAttr (Y2a) name expr):=by
 obtain⟨c,J,a⟩:=I.look;exact PySem.W.get_value X J (Yd6).1 (PySem.W.findObj_own hh ha rfl (by rw[a,hv])) hv' h
def YM{pl:Sem Bool}{Q:Value × Ag->Y0M}(X:Y9z)(I:NZ s.heap x dx C mA)(hg:Yax C name=true)
  (hf:Y6M K C name=Y4t f) (ht:Y97 K f=true) (hv:mA name=none) (h:Q (.ref f,[Y2a]) s) :
  Y21 (getMethod (Y2a) name pl):=by
 obtain⟨c,J,a⟩:=I.look;exact PySem.W.method_fn X J (Yd6).1 (Yd6).2 hf (beq_iff_eq.mp ht) (by show(PySem.W.lookIn name c).map (·.isSome)=some false;rw[a,hv];rfl) h
def aAQ{ns:Ah}{Q:Unit->Y0M}(X:Y9z)(I:NZ s.heap x dx C mA)
  (hs:Y6M K C "__setattr__" = some (Y6O "object.__setattr__")) (hp:YbK C=true) (ht:PySem.W.takerIn K C name=Y1u) (hh:YbA C=true)
  (hw:PySem.Within mA ns) (hsz:Y0O ns.length)
  (h:∀h',NZ h' x dx C (λy=>if y=name then Ys else mA y)->Yau dx h'->Q () { s with heap:=h',toks:=s.toks+2 }) :
  Y21 (setAttr (Y2a) name v):=by
 obtain⟨z,J,u⟩:=I.look;refine PySem.W.set_plain X J hs (PySem.W.osa_open (s:={ s with toks:=s.toks+1 }) (r:=none) X J hp ht λb=>?_);obtain⟨D,p,e⟩:=PySem.W.any_some hh;have m:Y1V x ⟨.ref C,some dx,.plain,#[]⟩:=I.obj;refine Y3Y (Ybp (wpAny_loadPart m (wpAny_bind (PySem.W.Looks.here (s:={ s with toks:=s.toks+1 }) (PySem.W.looks_clsIn X p) ?_))));rw[e];refine wpAny_pure (a:=some dx) (Y3Y Y4W);refine wpAny_nsSet1 (s:={ s with toks:=s.toks+1 }) I.ns λh' d c=>?_;obtain⟨B,n,l,g,j,i⟩:=d.count (PySem.Within.cons name v hw);refine wpAny_bind (wpAny_lookBehind g (by rw[j];exact pastItsLine_dict (aJ i (by rw[cL];exact Oo))) ?_);exact wpAny_pure (h _ ⟨(c.2 _ (Ne.symm I.ne)).trans I.obj,d,I.ne⟩ c)
def XV{R:Result->Y0M}{vs:Ag}{kw:Y8I}(X:Y9z)(hm:YbV C=true)
  (hi:Y6M K C "__init__" = Y4t f) (hf:PySem.W.typeIn K (.ref f)=some (.type "function"))
  (h:codeAny (model prog w) (YbC "type.__call__" ⟨.ref C::vs,kw⟩) (Y9y f ⟨.ref (Y20)::vs,kw⟩) (PySem.W.InitBack (Y20) R)
   { s with heap:=(s.heap.push PySem.W.emptyDict).push (PySem.W.instObj C s.heap.objs.size) }) :
  Y9t prog w A (Y9y C ⟨vs,kw⟩) R s:=by
 obtain⟨a,g,d,t,c⟩:=s;exact PySem.W.make_core (PySem.W.makes_of X hm) (PySem.W.looks_findIn X hi) (λself=>PySem.W.bind_fn X self hf) (Y3t) h
end
def eQ(f:Str)(v:V):Y3N->Y3N
 | []=>[(f,v)]
 | (g,x)::r=>if g=f then(g,v)::r else(g,x)::eQ f v r
theorem eW(f g:Str)(v:V):∀fs:List (Str × V),(eQ f v fs).lookup g=if g=f then Ys else fs.lookup g
 | []=>by
  show List.lookup g [(f,v)]=_;by_cases h:g=f
  ·have hb:(g == f)=true:=beq_iff_eq.mpr h;simp only[List.lookup,hb,if_pos h]
  ·have hb:(g == f)=false:=beq_eq_false_iff_ne.mpr h;simp only[List.lookup,hb,if_neg h]
 | (k,x)::r=>by
  have a:=eW f g v r;rw[show eQ f v ((k,x)::r)=(if k=f then(k,v)::r else(k,x)::eQ f v r)from rfl];by_cases hk:k=f
  ·rw[if_pos hk];by_cases h:g=k
   ·have hb:(g == k)=true:=beq_iff_eq.mpr h;simp only[List.lookup,hb,if_pos (h.trans hk)]
   ·have hb:(g == k)=false:=beq_eq_false_iff_ne.mpr h;simp only[List.lookup,hb,if_neg (λe:g=f=>h (e.trans hk.symm))]
  ·rw[if_neg hk];by_cases h:g=k
   ·have hb:(g == k)=true:=beq_iff_eq.mpr h;simp only[List.lookup,hb,if_neg (λe:g=f=>hk (h.symm.trans e))]
   ·have hb:(g == k)=false:=beq_eq_false_iff_ne.mpr h;simp only[List.lookup,hb];exact a
theorem yM(f:Str)(v:V):∀fs:List (Str × V),f∈(eQ f v fs).map (·.1)/\∀g,g∈fs.map (·.1)->g∈(eQ f v fs).map (·.1)
 | []=>⟨by simp[eQ],λg h=>by simp at h⟩
 | (k,x)::r=>by
  obtain⟨i1,i2⟩:=yM f v r;rw[show eQ f v ((k,x)::r)=(if k=f then(k,v)::r else(k,x)::eQ f v r)from rfl];by_cases hk:k=f
  ·rw[if_pos hk];subst hk;exact⟨by simp,λg h=>by simpa using h⟩
  ·rw[if_neg hk];refine⟨?_,λg h=>?_⟩
   ·rw[bE];exact bG _ i1
   ·rw[bE]at h ⊢;rcases bN.mp h with e | e
    ·exact bN.mpr (.inl e)
    ·exact bG _ (i2 g e)
theorem lJ(f:Str)(v:V):∀fs:List (Str × V),(eQ f v fs).length<=fs.length+1
 | []=>by simp[eQ]
 | (k,x)::r=>by
  have ih:=lJ f v r;rw[show eQ f v ((k,x)::r)=(if k=f then(k,v)::r else(k,x)::eQ f v r)from rfl];by_cases hk:k=f
  ·rw[if_pos hk,cL,cL];exact Oo
  ·rw[if_neg hk,cL,cL];exact Oo
def sY.some_of{v:V}{o:Y5n}(r:sY (Ys) o):∃u,o=Yo/\Y3S:=by
 cases o with
 | none=>exact(show False from r).elim
 | some u=>exact Y00 u r
def sY.none_of{o:Y5n}(r:sY none o):o=none:=by
 cases o with
 | none=>rfl
 | some u=>exact(show False from r).elim
def TD{v:V}{u:Value}(r:Y3S):PySem.W.handedIn u=true:=by
 cases v with
 | non=>cases(show u=Value.none from r);rfl
 | bl b=>cases(show u=Value.bool b from r);rfl
 | int i=>obtain⟨t,e⟩:=(show ∃t,u=Value.int i t from r);cases e;rfl
 | str x=>obtain⟨t,e⟩:=(show ∃t,u=Value.str x t from r);cases e;rfl
 | byt b=>obtain⟨t,e⟩:=(show ∃t,u=Value.bytes b t from r);cases e;rfl
 | flt b=>obtain⟨t,e⟩:=(show ∃t,u=Value.float b t from r);cases e;rfl
 | ref a=>cases(show u=Value.ref a from r);rfl
 | ty n=>cases(show u=Value.type n from r);rfl
section
variable{P:Program}{w:World}{H H':Hp}{h h':Heap}{a C dx:Addr}{fs fs':Y3N}
def GZ(hok:sZ P w H h)(e:H a=Y5S):∃mA,NZ h a dx C mA/\(∀f,sY (YaZ) (mA f))/\PySem.Within mA (fs.map (·.1))/\Y9J 1000/\H dx=Y7A a:=by
 obtain⟨d,z,ne,c,mA,n,r,q⟩:=(show hV P w H h a (.ins C dx fs)from hok a _ e);exact⟨mA,⟨c,n,ne⟩,r,q,z,d⟩
end
structure Cls(K:Aa)(C:Addr):Prop where
 pg:Yax C Str.empty=true
 hd:YbA C=true
 po:YbK C=true
 sa:Y6M K C "__setattr__" = some (Y6O "object.__setattr__")
def Cls.get{K:Aa}{C:Addr}(c:Cls K C)(f:Str):Yax C f=true:=c.pg
def oC(K:Aa)(C:Addr)(f:Str):Prop:=Y6M K C f=Y1u
def oC.taker{K:Aa}{C:Addr}{f:Str}(n:oC K C f):PySem.W.takerIn K C f=Y1u:=by
 unfold PySem.W.takerIn;rw[show PySem.W.findIn K (.ref C) f=some none from n]
 rfl
structure aFp(K:Aa)(C:Addr)(m:Str)(f:Addr):Prop where
 at_:Y6M K C m=Y4t f
 fn:Y97 K f=true
 kp:Y94 K f=true
section
variable{X:Cx}{pins:Ad}{σ:St}{H:Hp}{s:Shared}{a C dx:Addr}{fs:Y3N}{f:Str}{v:V}{A:Around}{E:Yc}
def NC{b:Bool}{Q:Yc}(I:Y4)(e:H a=Y5S)(c:Cls X.K C)(n:oC X.K C f)(l:YaZ=Ys)
  (h:∀u s',Y5p s'->Y3S->Q u s'):Y7o A (getAttr (Yi) f b) Q E s:=by
 obtain⟨mA,O,r,_,_,_⟩:=GZ I.hok e;obtain⟨u,d,ru⟩:=Ydg (mA f) (by rw[<-l];exact r f);exact aBJ I.kIn O (c.get f) c.hd n d (TD ru) (h u _ (Y1W) ru)
def NB{m:Str}{g:Addr}{pl:Sem Bool}{Q:Value × Ag->Y0M}(I:Y4)(e:H a=Y5S)(c:Cls X.K C)(k:aFp X.K C m g)(l:fs.lookup m=none)
  (h:Q (.ref g,Y22) s):Y7o A (getMethod (Yi) m pl) Q E s:=by
 obtain⟨mA,O,r,_,_,_⟩:=GZ I.hok e;have d:mA m=none:=sY.none_of (by rw[<-l];exact r m);exact YM I.kIn O (c.get m) k.at_ k.fn d h
def MC{y:V}{u:Value}{Q:Unit->Y0M}(I:Y4)(e:H a=Y5S)(c:Cls X.K C)(n:oC X.K C f)(hl:fs.length<1000)(ry:Y3k)
  (h:∀s',Y27 (Y3n (.ins C dx (eQ f y fs))) s'->Q () s'):Y7o A (setAttr (Yi) f u) Q E s:=by
 obtain⟨mA,O,r,i,_,d⟩:=GZ I.hok e;have p:Y0O ((fs.map (·.1)).length):=by rw[aA,sizeLine_eq];exact Oo
 refine aAQ I.kIn O c.sa c.po n.taker c.hd i p λl O' j=>h _ ?_;have hd:∃o,l.get? dx=Ya:=let ⟨o,_,_,e',_⟩:=O'.ns;⟨o,e'⟩;refine I.write (x:=a) (e:=dx) (by rw[e];exact True.intro) (.inr d) (λb q B z=>(j.2 b B).trans z) hd ⟨by rw[eO O.ne];exact d,?_,O.ne,O'.obj,_,O'.ns,λg=>?_,λg m=>?_⟩
 ·have:=lJ f y fs;exact Oo
 ·show sY ((eQ f y fs).lookup g) (if g=f then Yo else mA g);rw[eW];by_cases q:g=f
  ·rw[Y5B,Y5B];exact ry
  ·rw[Y2V,Y2V];exact r g
 ·by_cases q:g=f
  ·rw[q];exact(yM f y fs).1
  ·refine(yM f y fs).2 g (i g λz=>m ?_);show(if g=f then Yo else mA g)=none;rw[Y2V];exact z
def cU.made(I:Y4):cU X pins σ (Y7T (YdV H (.own (Y20))) Y20 C s.heap.objs.size [])
  { s with heap:=(s.heap.push PySem.W.emptyDict).push (PySem.W.instObj C s.heap.objs.size) }:=by
 have c:(s.heap.push PySem.W.emptyDict).get? s.heap.objs.size=some PySem.W.emptyDict:=aZ s.heap rfl;have h:((s.heap.push PySem.W.emptyDict).push (PySem.W.instObj C s.heap.objs.size)).get? (Y20)=some (YbU s.heap.objs.size):=by
  have:=aZ (s.heap.push PySem.W.emptyDict) (o:=YbU s.heap.objs.size) rfl
  rwa [fW]at this
 have g:(s.heap.push PySem.W.emptyDict).Ns s.heap.objs.size (Y7G):=⟨PySem.W.emptyDict,#[],_,c,rfl,(λe d=>absurd d (by simp)),λ_=>rfl⟩;have I1:=Ye1 (.own (Y20)) (s.heap.push PySem.W.emptyDict) s.toks (λb u q=>Y1G q) Yp (Y2S c);refine I1.laid (a:=Y20) (o:=.ins C s.heap.objs.size []) (t':=s.toks) (λb u q=>Y1G q) (Nat.le_of_eq (fW _ _)) ?_;have ne:YbT Y20:=dJ (YdA);refine⟨by rw[eO ne,bK],Y0x,ne,h,Y7G,(Heap.Ns1.of_empty g).at λo q=>Y1G q,λ_=>True.intro,λy i=>Y7H i⟩
def aCe{prog:Program}{w:World}{env:Env}{e:Expr}{f:Str}{pos:Pos}{s:Shared}{Q:Yc}(hb:attributeBase e f env (Y1U e)=Y1U e)
  (h:wpAny (model prog w) A (Y1U e) (λo s₁=>wpAny (model prog w) A (getAttr o f true) Q E s₁) E s):Y21 (Y1U (.Attribute e f pos)) :=
 Attribute_any_ h (by rw[arm_eval_Attribute,hb])
end
def aHb(K:Aa)(ta:TE)(f:Str):TE:=Y8N σ H (∃a C dx fs v,x=Yi/\H1 a=Y5S/\Cls K C/\oC K C f/\YaZ=Ys/\Q v H1)
def aFT(K:Aa)(ta tv:TE)(f:Str):TS:=λD σ H=>tv σ H λy H1=>ta σ H1 λx H2=>∃a C dx fs,x=Yi/\H2 a=Y5S/\Cls K C/\oC K C f/\fs.length<1000 /\
 Y8j (Y7T H2 a C dx (eQ f y fs))
section
variable{X:Cx}{o e value:Expr}{f:Str}{pos pos' tpos:Pos}{ta tv:TE}
def aEz(he:Y5k e)(hb:Y8h e f Y1l=Y1l):Yn (.Attribute e f pos) (aHb X.K ta f):=by
 intro d s σ H Q I h;refine aCe hb (thn (he d s σ H _ I h) λu w ⟨x,H1,I1,g,a,C,m,fs,v,i,j,c,n,l,q⟩=>?_);subst i;obtain rfl:u=Y7z:=g;exact NC I1 j c n l λp r I2 ru=>⟨v,H1,I2,ru,q⟩
def aEm(ha:Y5k o)(hv:Yn value tv)(hs:Y8F value (YcH f pos')=Y4s):PS X (Y63 [YcH f pos'] value) (aFT X.K ta tv f):=by
 intro d s σ H D I h;refine plainObj_wpAny_Assign_Attribute (thn (hv d s σ H _ I h) λu r ⟨y,H1,I1,e,q⟩=>thn (ha d r σ H1 _ I1 q) λj z ⟨x,H2,I2,g,a,C,w,fs,i,m,c,n,l,p⟩=>?_) hs;subst i;obtain rfl:j=Y7z:=g;exact MC I2 m c n l e λA I3=>⟨σ,_,I3,p⟩
end
section
variable{X:Cx}{pins:Ad}{σ:St}{H:Hp}{s:Shared}{A:Around}{E:Yc}{Q:Yc}{c:Value}{b:Bool}
end
structure jB(k:Nat)(A:Around):Prop where
 hd:Y6k
 dp:A.depth+3*k+5<recursionLimit
 un:Y6A (16*k)+200<cLine
 gd:A.guards=some []
def jB.mono{j k:Nat}{A:Around}(r:jB k A)(h:j<=k):jB j A:=⟨r.hd,by have:=r.dp;exact Oo,by have:=r.un;exact Oo,r.gd⟩
theorem jB.deeper{k:Nat}{A:Around}(r:jB (k+1) A)(env:Env):jB k (A.deeper env) :=
 ⟨r.hd,by have:=r.dp;show A.depth+1+3*k+5<_;exact Oo,by have:=r.un;show Y6A 3+16*k+200<_;exact Oo,r.gd⟩
def MY{A:Around}{C:Addr}{us:Ag}{kw:Y8I}:(YbC "type.__call__" ⟨.ref C::us,kw⟩).depth=A.depth+1:=by
 first | rfl | simp[Around.under,Code.weight,Code.isCreation,Code.isGuard,Code.isCaller,Code.frames,Code.isFrame,guardIds]
def MX{A:Around}{C:Addr}{us:Ag}{kw:Y8I}:(YbC "type.__call__" ⟨.ref C::us,kw⟩).units=Y6A 1:=by
 first | rfl | simp[Around.under,Code.cUnits,Code.frames,Code.isFrame]
def jB.make{k:Nat}{A:Around}(r:jB (k+1) A)(C:Addr)(us:Ag)(kw:Y8I):jB k (YbC "type.__call__" ⟨.ref C::us,kw⟩) :=
 ⟨r.hd,by have:=r.dp;rw[MY];exact Oo,by have:=r.un;rw[MX];exact Oo,by first | exact r.gd | (simpa[Around.under,Code.guards,Code.isGuard,guardIds,pushGuards]using r.gd)⟩
theorem jB.depth{k:Nat}{A:Around}(r:jB k A):A.depth<recursionLimit:=by have:=r.dp;exact Oo
theorem jB.units{k:Nat}{A:Around}(r:jB k A):Y6A 64<cLine:=by have:=r.un;exact Oo
def IJ:TA:=λ_ H Q=>Q [] H
def pP(ta:TE)(tr:TA):TA:=Y8N σ H (tr σ H1 λxs H2=>Q (x::xs) H2)
section
variable{X:Cx}{e:Expr}{es:Y0j}{te:TE}{t:TA}{pos:Pos}
def pa_nil:PA X [] IJ:=λ_ _ _ _ H Q I h=>Calls.spliced_nil ⟨[],H,I,.nil,h⟩
def aBr(ha:Yn e te)(hr:PA X es t)(hs:Y3R=(false,Y1l)::Y30:=by rfl):PA X (e::es) (pP te t):=by
 intro pos a s σ H Q I h;rw[hs];show Y3m (spliced ((false,Y1l)::backTo pos (Y30)));refine Yd7 (ha a s σ H _ I h) (λu l ⟨x,H1,I1,d,g⟩=>?_);exact thn (hr pos a l σ H1 _ I1 g) λm n ⟨j,H2,I2,i,c⟩=>⟨x::j,H2,I2,.cons d i,c⟩
def aG8(t:TA):TE:=Y4P H (λxs H1=>Y5r/\∀p,H1 p=none->Y0N p (upd H1 p (.tup xs)))
def aG9(t:TA):TE:=Y4P H (λxs H1=>Y5r/\∀p,H1 p=none->Y0N p (Y3Z H1 p xs))
def aEv{x1}(h:PA X es t):Yn (.Tuple es x1 pos) (aG8 t):=by
 intro a s σ H Q I g;refine wpAny_Tuple_spliced (thn (h pos a s σ H _ I g) λd c ⟨i,H1,I1,r,z,q⟩=>Y0A (by rw[<-r.length];exact z));have j:H1 c.heap.objs.size=none:=Ydq;refine Y1h YcT (upd H1 c.heap.objs.size (.tup i)) (YdH c.toks (λb u e=>Y2I) ?_) (q _ j);exact⟨⟨z,_,Y0Q,rfl⟩,d,r,Y0h _ Y0Q _ rfl⟩
def aEy(h:PA X es t):Yn (.List es pos) (aG9 t):=by
 intro a s σ H Q I g;refine wpAny_List_spliced (thn (h pos a s σ H _ I g) λd c ⟨i,H1,I1,r,z,q⟩=>Y0A (by rw[<-r.length];exact z));have j:H1 c.heap.objs.size=none:=Ydq;refine Y1h YcT (Y3Z H1 c.heap.objs.size i) (YdH c.toks (λb u e=>Y2I) ?_) (q _ j);exact⟨z,d,0,r,Y0Q⟩
end
abbrev Sp:=Yq
abbrev UH:=Y3z->Hp->Shared->XK->Yc
structure OB(P:Program)(w:World)(K:Aa)(mg:Y0H)(base:Heap)(A:Around)(outer:Y3z)(s:Shared)(H:Hp):Prop where
 frames:A.frames=some outer
 mod:Mod K mg base
 bs:∀b o,base.get? b=Ya->Y23/\H b=none
 bsz:base.objs.size<=s.heap.objs.size
 funs:s.heap.FunFrames base outer
 frf:∀b∈frs outer,H b=none
 hok:sZ P w H s.heap
 bare:AllBare s.gens
def CE(outer:Y3z)(P:Program)(w:World)(H:Hp)(s:Shared)(Q:VK)(u:Value)(s':Shared):Prop :=
 ∃v H',s'.os=s.os/\YaH/\Un (frs outer) [] H H' s.heap s'.heap/\sZ P w H' s'.heap/\Y3S/\Y1L
def CR(CX:UH)(outer:Y3z)(P:Program)(w:World)(H:Hp)(s:Shared)(Q:VK)(E:XK)(r:Result)(s':Shared):Prop :=
 match r with
 | .ok (.ret u)=>CE outer P w H s Q u s'
 | .ok _=>False
 | .error e=>CX outer H s E e s'
structure dO(P:Program)(w:World)(K:Aa)(mg:Y0H)(base:Heap)(CX:UH)(k:Nat)(f:Addr)(fd:FuncData)(ps:Ah)(sp:Sp):Prop where
 len:∀vs H Q E,sp vs H Q E->Y9j
 run:∀(A:Around) (outer:Y3z) (s:Shared) (H:Hp) (args:Args) (us:Ag) (vs:Al) (Q:VK) (E:XK),jB k A->OB P w K mg base A outer s H->Ya0 s args Y9N->Y2C vs->sp vs H Q E ->
  Y9t P w A (Y9y f args) (CR CX outer P w H s Q E) s
def OB.make{P:Program}{w:World}{K:Aa}{mg:Y0H}{base:Heap}{A:Around}{outer:Y3z}{s:Shared}{H:Hp}(e:OB P w K mg base A outer s H)(C:Addr)(us:Ag)(kw:Y8I) :
  OB P w K mg base (YbC "type.__call__" ⟨.ref C::us,kw⟩) outer s H:=⟨by first | exact e.frames | (simpa[Around.under,Code.envs,Code.isFrame,pushEnvs]using e.frames),e.mod,e.bs,e.bsz,e.funs,e.frf,e.hok,e.bare⟩
section
variable{X:Cx}{pins:Ad}{σ:St}{H:Hp}{s s':Shared}
def cU.env0(I:Y4):OB X.prog X.w X.K X.mg X.base X.A X.stack s H :=
 ⟨I.ok.frames,I.ok.mod,I.bs,Y8x I.sz,I.stack,I.stkFree,I.hok,I.bare⟩
def cU.after{Q:VK}{u:Value}(I:Y4)(h:CE X.stack X.prog X.w H s Q u s'):EP X pins σ Q u s':=by
 obtain⟨v,H',os,a,un,e,r,q⟩:=h;obtain⟨i,g,d,t,c⟩:=s';obtain rfl:c=s.os:=os;exact⟨v,H',I.call (h':=i) (g':=g) (d':=d) (t':=t) (ch:=[]) un e a (Ycp z (by simp)),r,q⟩
end
def yY(sp:Sp)(dvs:Al)(E:XK)(t:TA):TE:=Y4P H (λvs H1=>sp (vs++dvs) H1 Q E)
def aCu(C:Addr)(m:Str)(sp:Sp)(dvs:Al)(E:XK)(ta:TE)(t:TA):TE:=λσ H Q=>ta σ H λx H1=>∃a dx fs,x=Yi/\H1 a=Y5S/\fs.lookup m=none /\
 t σ H1 λvs H2=>sp (x::(vs++dvs)) H2 Q E
def aCv(C:Addr)(sp:Sp)(dvs:Al)(E:XK)(t:TA):TE:=λσ H Q=>t σ H λvs H1=>∀x dx,H1 x=none->H1 dx=none->dx≠x ->
 sp (Y2a::(vs++dvs)) (Y7T (upd H1 dx (.own x)) x C dx []) (λv H2=>v=.non/\Y0N x H2) E
def uD(K:Aa)(fd:FuncData)(ps:Ah)(ds:Ag):Prop :=
 ∀(s:Shared) (us:Ag),Y9z->(us++ds).length=ps.length->Ya0 s ⟨us,[]⟩ (ps.zip (us++ds))
def uD.all{K:Aa}{fd:FuncData}{ps:Ah}(h:∀us:Ag,Y3d ps.length->bindArgs fd ⟨us,[]⟩=pure (Y9N)):uD K fd ps []:=λs us _ a=>by
 rw[List.append_nil]at a ⊢;exact .of_eq (h us a)
def yX(CX:UH)(X:Cx)(E:XK):Prop:=∀(pins:Ad) (σ:St) (H:Hp) (s:Shared) (e:Value) (s':Shared),Y4->CX X.stack H s E e s'->X.xe e s'
section
variable{X:Cx}{CX:UH}{k:Nat}{f C:Addr}{fd:FuncData}{ps:Ah}{sp:Sp}{dvs:Al}{ds:Ag}{E:XK}{x m:Str}{p pos apos:Pos}{e o:Expr}{es:Y0j}{ta:TE}{t:TA}
def WM{pins:Ad}{σ:St}{H:Hp}{s:Shared}{Q:VK}{us:Ag}{vs:Al}(F:dO X.prog X.w X.K X.mg X.base CX k f fd ps sp)(hr:Y4K k)(hb:uD X.K fd ps ds)(hd:eE dvs ds)(hx:yX CX X E)
  (I:Y4) (r:Y2C vs) (h:sp (vs++dvs) H Q E):Y6z (call (.ref f) us) X σ Q:=by
 have c:eE (vs++dvs) (us++ds):=r.append hd;have g:(us++ds).length=ps.length:=by rw[<-c.length];exact F.len _ _ _ _ h
 refine wpAny_call (codeAny_mono (F.run X.A X.stack s H ⟨us,[]⟩ (us++ds) (vs++dvs) Q E hr I.env0 (hb s us I.kIn g) c h) λr d a=>?_);cases r with
 | error e=>exact hx pins σ H s e d I a
 | ok fl =>
  cases fl with
  | ret u=>exact I.after a
  | next=>exact Y9r
  | brk=>exact Y9r
  | cont=>exact Y9r
def aBp(F:dO X.prog X.w X.K X.mg X.base CX k f fd ps sp)(hr:Y4K k)(hg:Gl X x)(hm:Y5R=Y3 f)(hk:Y94 X.K f=true)(hb:uD X.K fd ps ds)(hd:eE dvs ds)(hx:yX CX X E)
  (ha:PA X (e::es) t) (hdb:Y1J ("__debug__" : Str):=by decide) (he:Y3R=(false,Y1l)::Y30:=by rfl) (hpl:Yx ((backTo pos (starEach es X.env)).any (·.1)):=by rfl) :
  Yn (.Call (.Name x p) (e::es) [] pos) (yY sp dvs E t):=by
 intro a s σ H Q I h;refine wpAny_Call_Name_kw (GY I hg hm ?_ hdb);refine PySem.W.callWith_K (h₀:=X.base) I.ok.mod.kin hk (thn (ha pos a s σ H _ I h) λc g ⟨d,H1,I1,r,q⟩=>Y0A I1.kIn) he hpl;exact WM F hr hb hd hx I1 r q
def aBi{pl:Sem Bool}(he:Y5k o)(c:Cls X.K C)(hm:aFp X.K C m f)(F:dO X.prog X.w X.K X.mg X.base CX k f fd ps sp)(hr:Y4K k)(hb:uD X.K fd ps ds)(hd:eE dvs ds)(hx:yX CX X E)(ha:PA X (e::es) t)
  (hst:Y3R=(false,Y1l)::Y30:=by rfl) (hpl:Yx ((backTo pos (starEach es X.env)).any (·.1)):=by rfl)
  (ht:eval (.Call (.Attribute o m apos) (e::es) [] pos) X.env=(do
   let ov <-eval o X.env
   standAt apos.atName
   let (f,first) <-holding [ov] (getMethod ov m pl)
   callWith pos f first (backTo pos (starEach (e::es) X.env)) (backToKw pos (keywordEach [] X.env))):=by rfl) :
  Yn (.Call (YcH m apos) (e::es) [] pos) (aCu C m sp dvs E ta t):=by
 intro d s σ H Q I h;refine PySem.W.methodCall_KW (pl:=pl) (thn (he d s σ H _ I h) λu p ⟨x,H1,I1,g,a,y,fs,i,j,l,q⟩=>?_) ht;subst i;obtain rfl:u=Y7z:=g;refine NB I1 j c hm l (PySem.W.callWith_K (first:=Y22) (h₀:=X.base) I.ok.mod.kin hm.kp (thn (ha pos d p σ H1 _ I1 q) λus z ⟨vs,H2,I2,r,n⟩=>Y0A I2.kIn) hst hpl);exact WM (us:=Yi::us) (vs:=Yi::vs) F hr hb hd hx I2 (.cons rfl r) n
structure Mk(K:Aa)(C f:Addr):Prop where
 makes:YbV C=true
 init:Y6M K C "__init__" = Y4t f
 fn:Y97 K f=true
 kp:Y94 K C=true
def WL{pins:Ad}{σ:St}{H:Hp}{s:Shared}{Q:VK}{us:Ag}{vs:Al}(M:Mk X.K C f)(F:dO X.prog X.w X.K X.mg X.base CX k f fd ps sp)(hr:Y4K (k+1))(hb:uD X.K fd ps ds)(hd:eE dvs ds)
  (hx:yX CX X E) (I:Y4) (r:Y2C vs)
  (h:∀x dx,H x=none->H dx=none->dx≠x->sp (Y2a::(vs++dvs)) (Y7T (Y46 dx (.own x)) x C dx []) (λv H2=>v=.non/\Y0N x H2) E) :
  Y6z (call (.ref C) us) X σ Q:=by
 have d:=h (Y20) s.heap.objs.size (I.hok.fresh (Nat.le_succ _)) (Y32) (dJ (YdA));have I2:=cU.made (C:=C) I;have c:eE (V.ref (Y20)::(vs++dvs)) (YaI::(us++ds)):=.cons rfl (r.append hd);have j:(YaI::us++ds).length=ps.length:=by
  have e:=c.length;rw[F.len _ _ _ _ d]at e;exact e.symm
 refine wpAny_call (XV (f:=f) I.kIn M.makes M.init (beq_iff_eq.mp M.fn) (codeAny_mono (F.run _ X.stack _ _ ⟨YaI::us,[]⟩ (YaI::(us++ds)) _ _ E (hr.make C us [])
  (I2.env0.make C us []) (hb _ (YaI::us) I2.kIn j) c d) λr g a=>?_))
 cases r with
 | error e=>exact hx pins σ _ _ e g I2 a
 | ok fl =>
  cases fl with
  | ret u =>
   obtain⟨v,H',I3,rv,i,l⟩:=I2.after a;subst i;exact⟨rv,Y1h (V.ref (Y20)) H' I3 l⟩
  | next=>exact Y9r
  | brk=>exact Y9r
  | cont=>exact Y9r
def aBj(M:Mk X.K C f)(F:dO X.prog X.w X.K X.mg X.base CX k f fd ps sp)(hr:Y4K (k+1))(hg:Gl X x)(hm:Y5R=Y3 C)(hb:uD X.K fd ps ds)(hd:eE dvs ds)(hx:yX CX X E)
  (ha:PA X (e::es) t) (hdb:Y1J ("__debug__" : Str):=by decide) (he:Y3R=(false,Y1l)::Y30:=by rfl) (hpl:Yx ((backTo pos (starEach es X.env)).any (·.1)):=by rfl) :
  Yn (.Call (.Name x p) (e::es) [] pos) (aCv C sp dvs E t):=by
 intro a s σ H Q I h;refine wpAny_Call_Name_kw (GY I hg hm ?_ hdb);refine PySem.W.callWith_K (h₀:=X.base) I.ok.mod.kin M.kp (thn (ha pos a s σ H _ I h) λc g ⟨d,H1,I1,r,q⟩=>Y0A I1.kIn) he hpl;exact WL M F hr hb hd hx I1 r q
end
section
variable{X:Cx}{CX:UH}{k:Nat}{f C:Addr}{fd:FuncData}{ps ks:Ah}{sp:Sp}{E:XK}{x m:Str}{p pos apos kpos:Pos}{e o:Expr}{es:Y0j}{kws:List Keyword}{te ta:TE}{t tk:TA}{nm:Option Str}
variable{g:Ag->Ag->Ag}{gV:Al->Al->Al}
end
structure bS(N P:Ah)(sc:Scope):Prop where
 kind:sc.kind=.function:=by rfl
 co:Yx sc.isCoroutine:=by rfl
 gen:Yx sc.isGenerator:=by rfl
 nd:N.Nodup:=by exact Kk
 pre:N.take P.length=P:=by rfl
 par:∀x∈P,Y8i=Y3p\/Y8i=Y1C:=by exact Kk
 nofree:∀y∈sc.names,y.2 ≠ .free:=by exact Kk
theorem FM{kindOf:Str->YbX}{x:Str}:∀{binds:Y8I}{m:Y0H},(∀v,(x,v) ∉ binds)->bindL kindOf binds m x=m x
 | [],_,_=>rfl
 | (n,v)::r,m,h=>by
  unfold bindL;rw[FM λw hw=>h w (bG _ hw)];split
  ·have:x≠n:=by rintro rfl;exact h v bC
   simp[this]
  ·rfl
theorem FO{kindOf:Str->YbX}{x:Str}:∀{binds:Y8I}{m:Y0H},(∀v,(x,v) ∉ binds)->bindC kindOf binds m x=m x
 | [],_,_=>rfl
 | (n,v)::r,m,h=>by
  unfold bindC;rw[FO λw hw=>h w (bG _ hw)];split
  ·rfl
  ·have:x≠n:=by rintro rfl;exact h v bC
   simp[this]
theorem FN{kindOf:Str->YbX}{x:Str}{v:Value}:∀{P:Ah}{vs:Ag}{i:Nat}{m:Y0H},P.Nodup->P[i]?=Y7->vs[i]?=Ys->kindOf x=Y3p ->
  bindL kindOf (P.zip vs) m x=Ys
 | [],_,_,_,_,h,_,_=>by simp at h
 | _::_,[],_,_,_,_,h,_=>by simp at h
 | p::P,w::vs,0,m,nd,h1,h2,hk=>by
  simp at h1 h2;subst h1;subst h2;show bindL kindOf ((p,w)::P.zip vs) m p=_;unfold bindL;rw[FM λv hv=>(List.nodup_cons.mp nd).1 (List.of_mem_zip hv).1,if_pos hk];simp
 | p::P,w::vs,i+1,m,nd,h1,h2,hk=>by
  show bindL kindOf ((p,w)::P.zip vs) m x=_;unfold bindL;exact FN (i:=i) (List.nodup_cons.mp nd).2 (by simpa using h1) (by simpa using h2) hk
theorem FP{kindOf:Str->YbX}{x:Str}{v:Value}:∀{P:Ah}{vs:Ag}{i:Nat}{m:Y0H},P.Nodup->P[i]?=Y7->vs[i]?=Ys->kindOf x≠Y3p ->
  bindC kindOf (P.zip vs) m x=Ys
 | [],_,_,_,_,h,_,_=>by simp at h
 | _::_,[],_,_,_,_,h,_=>by simp at h
 | p::P,w::vs,0,m,nd,h1,h2,hk=>by
  simp at h1 h2;subst h1;subst h2;show bindC kindOf ((p,w)::P.zip vs) m p=_;unfold bindC;rw[FO λv hv=>(List.nodup_cons.mp nd).1 (List.of_mem_zip hv).1,if_neg hk];simp
 | p::P,w::vs,i+1,m,nd,h1,h2,hk=>by
  show bindC kindOf ((p,w)::P.zip vs) m x=_;unfold bindC;exact FP (i:=i) (List.nodup_cons.mp nd).2 (by simpa using h1) (by simpa using h2) hk
def start(N:Ah)(vs:Al):St:=(vs.map some) ++ (List.replicate (N.length-vs.length) none)
def KB(CX:UH)(P:Program)(w:World)(K:Aa)(mg:Y0H)(base:Heap)(N:Ah)(qual:Str)(scope:Scope)(f:Addr)(cd:Value)(A:Around)(outer:Y3z)(s:Shared)(H:Hp)(E:XK):Cx where
 prog:=P
 w:=w
 K:=K
 mg:=mg
 base:=base
 A:=Y9s qual scope f cd
 N:=N
 s₀:=s
 H₀:=H
 env:=Yaf qual scope f cd
 outer:=outer
 stack:=Yaf qual scope f cd::outer
 ex:=[]
 calm:=true
 fn:=λ_=>true
 pn:=[]
 xe:=λe s'=>wpAny (model P w) (Y9s qual scope f cd) (leaving (Yaf qual scope f cd) e) (λ_ s''=>CX outer H s E e s'') (λe' s''=>CX outer H s E e' s'') s'
def KO{sc:Scope}{n:Nat}{x:Str}(h:Y8i=Y1C):∃c,(cellsFrom n sc.names []).lookup x=Y1v:=by
 have q:=PySem.W.cellsFrom_some sc.names n [] (.inl h);exact Option.isSome_iff_exists.mp q
def SY{CX:UH}{P:Program}{w:World}{K:Aa}{mg:Y0H}{base:Heap}{N ps:Ah}{qual:Str}{scope:Scope}{f:Addr}{cd:Value}{A:Around}{outer:Y3z}{s s1:Shared}{H:Hp}{E:XK}{us:Ag}{vs:Al}
  (S:bS N ps scope) (hd:Y6k) (e0:OB P w K mg base A outer s H) (hl:Y9j) (r:Y2C vs)
  (x:InCallC s s.heap.objs.size (bindL (Yaf qual scope f cd).kindOf (Y9N) Y7G) (cellsFrom (Y20) scope.names []) (bindC (Yaf qual scope f cd).kindOf (Y9N) Y7G) s1) :
  cU (KB CX P w K mg base N qual scope f cd A outer s H E) [] (Y8W N) H s1:=by
 have J:ps.length<=N.length:=by have:=Y8g S.pre;rw[gB]at this;exact Oo
 obtain⟨B,L,rfl,D⟩:=x.done;have j:∀b:Addr,b ∉ (KB CX P w K mg base N qual scope f cd A outer s H E).ex:=Ycp (show b∈([]:List Addr)from z) (by simp);refine⟨⟨e0.mod,S.kind,rfl,rfl,Yp,λy z c B d=>?_,λy g=>?_,λy c _ h=>?_,λ_=>hd,Around.frames_deeper e0.frames,.inr Y6w,Ycp z (j b),e0.bs,e0.bsz,λb _ _=>j b,Ycp z (j b),e0.funs,e0.frf⟩,
  rfl,e0.bare,Un.kept D,Y0U x.toInCall.ns (λi y v B d M=>?_),λy c h=>Y2S (x.cell y c h),e0.hok.fresh (Yp),λy c h=>?_,λp l=>absurd (show p∈([]:Ad)from l) (by simp),e0.hok.kept D,?_⟩
 ·exact name_of_addr x.apart (PySem.mem_of_lookup B) (PySem.mem_of_lookup d)
 ·have g:Ybn y Y1C\/Ybn y (some .free):=g;rcases g with g | g
  ·exact KO g
  ·exact Y7H (S.nofree _ (PySem.mem_of_lookup g))
 ·exact Nat.le_of_lt (x.above y c (PySem.mem_of_lookup h))
 ·have C:i<vs.length:=by
   unfold start at d;by_cases C:i<vs.length
   ·exact C
   ·rw[cJ (by simpa using C)]at d;rw[List.getElem?_replicate]at d;split at d <;> cases d
  have I:vs[i]?=Ys:=by
   unfold start at d;rw[cM (by simpa using C),aG]at d;cases e:vs[i]? with
   | none=>rw[e]at d;cases d
   | some a=>rw[e]at d;cases d;rfl
  obtain⟨u,G,rv⟩:=r.get I;have l:ps[i]?=Y09:=by
   rw[<-S.pre,List.getElem?_take_of_lt Oo];exact B
  have m:ps.Nodup:=by rw[<-S.pre];exact S.nd.sublist (List.take_sublist _ _)
  refine Y0b u rv;rcases S.par y (aE l)with k | k
  ·exact Y2k k (FN m l G k)
  ·obtain⟨c,e⟩:=KO (n:=Y20) k;refine Y3M (.inl k) c e ?_;have q:=x.cell y c e;rw[FP m l G (by show scope.names.lookup y≠_;rw[k];decide)]at q;exact q
 ·exact e0.hok.fresh (Nat.le_of_lt (x.above y c (PySem.mem_of_lookup h)))
 ·unfold start;show _=N.length;rw[aV,aA,bH];exact Oo
def aGo{CX:UH}{P:Program}{w:World}{K:Aa}{mg:Y0H}{base:Heap}{k:Nat}{f:Addr}{name qual:Str}{params:Arguments}{body:Y5z}{scope:Scope}{dV kV doc pm cdv ct oc:Value}{an od:Y3v}
  {osl:Y60} {N ps:Ah} {sp:Sp} (lk:K.lookup f=some (Y82 oc od (PySem.W.fnOf name qual params body scope dV kV doc pm an cdv ct) osl)) (hcd:Yc3 cdv qual=true) (S:bS N ps scope)
  (len:∀vs H Q E,sp vs H Q E->Y9j)
  (hbody:∀(A:Around) (outer:Y3z) (s:Shared) (H:Hp) (vs:Al) (Q:VK) (E:XK),jB k (Y9s qual scope f cdv)->sp vs H Q E ->
   ∃t,NX (KB CX P w K mg base N qual scope f cdv A outer s H E) body t/\t { nx:=λ_ H'=>Q .non H',rt:=Q } (Y8W N) H) :
  dO P w K mg base CX (k+1) f (PySem.W.fnOf name qual params body scope dV kV doc pm an cdv ct) ps sp:=by
 refine⟨len,λA outer s H z B vs Q E j d O r h=>?_⟩;have T:=len _ _ _ _ h;have KX:Y9z:=d.mod.kin.keeps λb o e=>(d.bs b o e).1;have m:s.heap.NoLimit:=d.mod.nolimit.keeps λb o e=>(d.bs b o e).1;have a:∀y∈ps.zip B,Y5a y.1\/(Ybn y.1 Y1C/\((cellsFrom (s.heap.objs.size+1) scope.names []).lookup y.1).isSome=true):=λ⟨n,v⟩ C=>by
  rcases S.par n (List.of_mem_zip C).1 with q | q
  ·exact .inl q
  ·exact Y2W q (PySem.W.cellsFrom_some _ _ _ (.inl q))
 refine codeAny_call_function j.depth (KX _ _ lk) rfl S.co S.gen rfl (PySem.W.codeRec_of KX hcd) (O _ _ _ _ ?_);refine wpAny_newFunctionEnv_cells S.kind a λG R p x=>?_;subst R;refine⟨m.keeps x.toInCall.keep,codeAny_func ?_⟩;obtain⟨t,L,M⟩:=hbody A outer s H vs Q E (j.deeper _) h;have I:cU (KB CX P w K mg base N qual scope f cdv A outer s H E) [] (Y8W N) H p:=SY S j.hd d T r x;refine wpAny_mono (L [] p (Y8W N) H _ I M) (λD l c=>?_) λe l c=>c;have g:∀{i:St} {H':Hp} {v:V} {u:Value},cU (KB CX P w K mg base N qual scope f cdv A outer s H E) [] i H' l->Y3S->Y1L->CE outer P w H s Q u l :=
  λ{i H' v u} J rv q=>⟨v,H',J.os,J.bare,J.base,J.hok,rv,q⟩
 cases D with
 | ret u =>
  obtain⟨v,i,H',J,rv,q⟩:=c;exact g J rv q
 | next =>
  obtain⟨i,H',J,q⟩:=c;exact g (v:=V.non) (u:=Value.none) J rfl q
 | brk =>
  obtain⟨_,_,_,q⟩:=c;exact False.elim q
 | cont =>
  obtain⟨_,_,_,q⟩:=c;exact False.elim q
section
variable{X:Cx}{x:Str}{p pos:Pos}{e:Expr}{es:Y0j}{t:TA}{id T:String}{r:Y1B}
def tCB(r:Y1B)(t:TA):TE:=Y4P H (λvs H1=>r vs H1 Q)
def XH(hc:Y4Y X id r)(hg:Gl X x)(hm:Y5R=none)(hv:Y9d=Y6O id)(ha:PA X (e::es) t)(hn:x ≠ "__name__" := by decide)(hdb:Y1J ("__debug__" : Str):=by decide)
  (he:Y3R=(false,Y1l)::Y30:=by rfl) (hpl:Yx ((backTo pos (starEach es X.env)).any (·.1)):=by rfl):Yn (.Call (.Name x p) (e::es) [] pos) (tCB r t):=by
 intro a s σ H Q I h;refine wpAny_Call_Name_kw (vV I hg hm hv ?_ hn hdb);exact PyProof.Rows.callWith_builtin1 (thn (ha pos a s σ H _ I h) λc i ⟨g,H1,I1,d,j⟩=>hc a i σ H1 g c Q I1 d j) he hpl
def SK(hc:Y9T X T r)(hg:Gl X x)(hm:Y5R=none)(hv:Y9d=some (.type T))(ha:PA X (e::es) t)(hn:x ≠ "__name__" := by decide)(hdb:Y1J ("__debug__" : Str):=by decide)
  (he:Y3R=(false,Y1l)::Y30:=by rfl) (hpl:Yx ((backTo pos (starEach es X.env)).any (·.1)):=by rfl):Yn (.Call (.Name x p) (e::es) [] pos) (tCB r t):=by
 intro a s σ H Q I h;refine wpAny_Call_Name_kw (vV I hg hm hv ?_ hn hdb);exact Yah (ha pos a s σ H _ I h) (λc i ⟨g,H1,I1,d,j⟩=>hc a i σ H1 g c Q I1 d j) he hpl
end
end L2
namespace HT
open PySem PyProof.Rows
def vI:Af->Y2K Af
 | [],[]=>false
 | [],_::_=>true
 | _::_,[]=>false
 | x::xs,y::ys=>if x=y then vI xs ys else decide (x<y)
def CG(x y:Int)(xs ys:Af):vI (x::xs) (y::ys)=if x=y then vI xs ys else Y1E x y:=rfl
def YT(A:Around)(s:Shared)(a:Int)(t:Tok)(c:Int)(u:Tok):∃e,SeqAt.EqAt A s (Y4g a) (.int c u) e/\(e=true↔a=c) :=
 ⟨(a == c),SeqAt.EqAt.int_int a t c u,by simp⟩
section
open PySem.SeqAt
open PySem.AutoSeq1 (wpAny_loadPart')
open PySem.MeetsSeq PySem.MeetsSeq2 PySem.MeetsSeq3
end
section
variable{prog:Program}{w:World}{A:Around}{E:Yc}{s:Shared}
def aBX{t b:Addr}{vs ws:Ag}{Q:Yc}(ht:Yb5 t vs.toArray)(hb:Yb5 b ws.toArray)(hv:vs≠[])
  (h1:ws=[]->Y0N t s) (h2:ws≠[]->Q (Y0I) { s with heap:=s.heap.push { cls:=.type "tuple",data:=.seq (vs++ws).toArray } })
  (hsz:Y0O (vs.length+ws.length)):Y21 (binaryOp .Add (.ref t) (Y0p)):=by
 obtain⟨⟨cls,p,data,sl⟩,i,r,n,hd⟩:=id ht;obtain⟨⟨m,g,j,d⟩,a,c,l,h⟩:=id hb;simp only at r hd c h;subst r hd c h;have e:vs.toArray++ws.toArray=(vs++ws).toArray:=by simp
 by_cases hw:ws=[]
 ·exact concat_meets (Y0R i) (Y0R a) noFill_tuple_add seq_tuple_add PySem.F.slot_tuple_add PySem.F.entry_tuple_add (Yd4 _)
   (tuple_addW1 t b vs.toArray ws.toArray n l p g sl d (by simpa using hv) (by simp[hw])) ⟨i,a,h1 hw⟩
 ·refine concat_meets (Y0R i) (Y0R a) noFill_tuple_add seq_tuple_add PySem.F.slot_tuple_add PySem.F.entry_tuple_add (Yd4 _)
   (tuple_addW2 t b vs.toArray ws.toArray n l p g sl d (by simpa using hv) (by simpa using hw) (by rw[bF,bF];exact hsz)) (Y0b i a)
  rw[e];exact h2 hw
def kU(n d:Nat):Y1o->Nat
 | none=>d
 | some v=>if v<0 then(v+(n:Int)).toNat else min v.toNat n
def xA(n d:Nat):kU n d none=d:=rfl
def GK(n d k:Nat):kU n d (some (k:Int))=min k n:=by
 show(if(k:Int)<0 then((k:Int)+(n:Int)).toNat else min (k:Int).toNat n)=min k n;rw[Y3y,Int.toNat_natCast]
def aD9(n d:Nat)(hd:d<=n)(o:Y1o):kU n d o<=n:=by
 cases o with
 | none=>exact hd
 | some v =>
  show(if v<0 then(v+(n:Int)).toNat else min v.toNat n)<=n;by_cases hv:v<0
  ·rw[if_pos hv];exact Oo
  ·rw[if_neg hv];exact Nat.min_le_right _ _
def QW(v:Int)(n d:Nat):(if v<0 then max (v+(n:Int)) 0 else min v (n:Int))=((kU n d (some v):Nat):Int):=by
 show(if v<0 then max (v+(n:Int)) 0 else min v (n:Int))=(((if v<0 then(v+(n:Int)).toNat else min v.toNat n):Nat):Int);by_cases hv:v<0
 ·simp only[if_pos hv];exact Oo
 ·simp only[if_neg hv];exact Oo
def NS(lo hi:Y1o)(n:Nat):Builtin.Slice.sliceAdjust lo hi 1 (n:Int)=(((kU n 0 lo:Nat):Int),((kU n n hi:Nat):Int)):=by
 have a:¬((1:Int)<0):=Oo;unfold Builtin.Slice.sliceAdjust;simp only[a,if_false];refine Prod.ext ?_ ?_
 ·cases lo with
  | none=>rfl
  | some v=>exact QW v n 0
 ·cases hi with
  | none=>rfl
  | some v=>exact QW v n n
def MP(i j:Nat):Builtin.Slice.slicePlaces (i:Int) (j:Int) 1=j-i:=by
 unfold Builtin.Slice.slicePlaces;have a:(1:Int) > 0:=Oo;simp only[a,if_true,Int.ediv_one];split <;> exact Oo
def BL{v:Value}{o:Y1o}{Q:Y1o->Y0M}(p:IsPart v o)(h:Q o s):Y21 (Builtin.Slice.slicePartIndex v):=by
 cases p with
 | none=>exact slicePart_none h
 | int i t=>exact slicePart_int h
def rC{sl:Addr}{vl vu:Value}{lo hi:Y1o}{n:Nat}{Q:Int × Int × Nat->Y0M}(hs:YbH sl vl vu)(pl:IsPart vl lo)(pu:IsPart vu hi)
  (h:Q (((kU n 0 lo:Nat):Int),1,kU n n hi-kU n 0 lo) s):Y21 (Builtin.Slice.sliceApplied (.ref sl) (pure (n:Int))):=by
 obtain⟨e,a,d,c⟩:=id hs;unfold Builtin.Slice.sliceApplied Builtin.Slice.sliceFields;refine wpAny_bind (Y8m a c vl (Y8m a c vu (Y8m a c .none Y2r)));refine wpAny_bind (slicePart_none ?_);show Y3m (if((1:Int) == 0)=true then _ else _);rw[Y2T];refine wpAny_bind (BL pl (wpAny_bind (BL pu (Y3Y ?_))));show wpAny _ _ (match Builtin.Slice.sliceAdjust lo hi 1 (n:Int)with | (lo,hi)=>pure (lo,(1:Int),Builtin.Slice.slicePlaces lo hi 1)) _ _ s;rw[NS lo hi n];show Y3m (pure (((kU n 0 lo:Nat):Int),(1:Int),Builtin.Slice.slicePlaces ((kU n 0 lo:Nat):Int) ((kU n n hi:Nat):Int) 1));rw[MP];exact wpAny_pure h
def XA(xs:Ai)(i k:Nat):((List.range k).filterMap λ(m:Nat)=>Y2h (((i:Int)+(m:Int)*1).toNat)).toArray=((xs.toList.drop i).take k).toArray:=by
 have e:(λ(m:Nat)=>Y2h (((i:Int)+(m:Int)*1).toNat))=λm=>Y2h (i+m):=by
  funext m
  have:((i:Int)+(m:Int)*1).toNat=i+m:=Oo;rw[this]
 rw[e];have:=pick_run xs i k;rw[List.filterMap_map]at this;have a:((λx=>xs[x]?) ∘ λx=>i+x)=λm=>xs[i+m]?:=rfl;rw[a]at this;rw[this]
def xI{t sl:Addr}{items:Ai}{vl vu:Value}{lo hi:Y1o}{Q:Yc}(ht:Yb5 t items)(hs:YbH sl vl vu)(pl:IsPart vl lo)(pu:IsPart vu hi)
  (hw:¬(Y7m 0 lo=0/\Y6I=items.size))
  (h:Q (Y0I) { s with heap:=s.heap.push { cls:=.type "tuple",data:=.seq ((items.toList.drop (kU items.size 0 lo)).take (kU items.size items.size hi-kU items.size 0 lo)).toArray } })
  (hsz:Y0O items.size):Y21 (getItem (.ref t) (.ref sl)):=by
 have a:sizeOk (.seq ((items.toList.drop (kU items.size 0 lo)).take (Y6I-Y7m 0 lo)).toArray):=by
  show Y0O (((items.toList.drop (kU items.size 0 lo)).take (Y6I-Y7m 0 lo)).toArray.size);rw[bF,gB,List.length_drop,Array.length_toList];exact Oo
 have l:Y6I<=items.size:=aD9 _ _ (Yp) hi;obtain⟨j,c,d,i⟩:=id hs;have g:Y8k sl "slice" := ⟨j,c,d⟩;unfold getItem
 try with_reducible refine YdK
 first | refine Y3Y ?_ | skip
 refine wpAny_bind (wpAny_sequenceKey ht.typeIs Dd ?_);refine wpAny_bind (wpAny_callSpecial?_slot (name:=Str.ofString "__getitem__") ht.typeIs PyProof.Rows.slot_tuple_getitem
  (wpAny_call_entry PyProof.Rows.slot_tuple_getitem ht.typeIs entry_tuple_getitem ?_ (args_tuple_getitem _ _)))
 show Y3m (Builtin.Tuple.tupleItemsOf (.ref t) >>= _);refine wpAny_bind (tupleItemsOf_ ht ?_);refine wpAny_bind (wpAny_typeOf g ?_);rw[if_pos Dd];refine wpAny_bind (rC hs pl pu ?_);have e:¬((((kU items.size 0 lo:Nat):Int) == 0&&(1:Int) == 1&&Ycn (Y6I-Y7m 0 lo))=true):=by
  intro q;rw[dG,dG]at q;have n:((kU items.size 0 lo:Nat):Int)=0:=eq_of_beq q.1.1;have p:Y6I-Y7m 0 lo=items.size:=eq_of_beq q.2;exact hw (Y2l Oo)
 show Y3m (if(((kU items.size 0 lo:Nat):Int) == 0&&(1:Int) == 1&&Ycn (Y6I-Y7m 0 lo))=true then _ else _);rw[Y0Y,XA]
 first
  | exact YcX _ (YaN h) a
  | exact YcX _ (Y3Y (YaN h)) a
  | exact wpAny_bind (YcX _ (YcS (YcL h)) a)
  | exact wpAny_bind (YcX _ (YaN h) a)
end
end HT
namespace L2
open PySem PySem.Spec PyProof.Rows
abbrev TO:=St->Y0i Hp (Y1I Y1o)
def PO(X:Cx)(e:Option Expr)(t:TO):Prop :=
 ∀(pins:Ad) (s:Shared) (σ:St) (H:Hp) (Q:Y1I Y1o),Y4->t σ H Q ->
  Y4G (evalPart e X.env) (λu s'=>∃o H',Y4M s'/\IsPart u o/\Q o H')
def OS:TO:=λ_ H Q=>Q none H
def aCr(t:TE):TO:=Y4P H (λx H1=>∃i,x=Y1w/\Q (some i) H1)
def vY{ns:Af}:∀{us:Ag},Y2C Y5o->Y67 us:=by
 induction ns with
 | nil=>intro us r;rw[List.map_nil]at r;cases r;exact .nil
 | cons n ns ih =>
  intro us r;rw[bE]at r;cases r with
  | cons r1 r2 =>
   obtain⟨t,e⟩:=r1;subst e;exact .cons n t (ih r2)
section
variable{X:Cx}{e:Expr}{te:TE}{lo hi:Option Expr}{tl th:TO}{pos p2:Pos}
def po_none:PO X none OS:=by
 intro a s σ H Q I h;rw[evalPart_none];exact wpAny_pure ⟨none,H,I,.none,h⟩
def aBe(h:Yn e te):PO X (Y6G) (aCr te):=by
 intro a s σ H Q I c;rw[evalPart_some];refine thn (h a s σ H _ I c) λu j ⟨x,H1,I1,d,g⟩=>?_;obtain⟨i,rfl,q⟩:=g;obtain⟨t,rfl⟩:=d;exact⟨some i,H1,I1,Y4g i,q⟩
def SlR(X:Cx)(r:V->Y1o->Y84):Prop :=
 ∀(pins:Ad) (s:Shared) (σ:St) (H:Hp) (x:V) (v vl vu:Value) (lo hi:Y1o) (sl:Addr) (Q:VK),Y4->fE x v->YbH sl vl vu->IsPart vl lo->IsPart vu hi->r x lo hi H Q ->
  ∃T id,typeLookup (.type T) "__getitem__" = pure (Y6O id)/\s.TypeIs v T/\Y6z (getItem v (.ref sl)) X σ Q
def tSl(r:V->Y1o->Y84)(te:TE)(tl th:TO):TE:=λσ H Q=>te σ H λx H1=>tl σ H1 λl H2=>th σ H2 λu H3=>r x l u H3 Q
def XC{r:V->Y1o->Y84}(hr:SlR X r)(he:Yn e te)(hl:PO X lo tl)(hu:PO X hi th):Yn (Y7v e (.Slice lo hi none p2)) (tSl r te tl th):=by
 intro a s σ H Q I h;refine Subscript_ (thn (he a s σ H _ I h) λv G ⟨x,H1,I1,z,B⟩=>?_);refine wpAny_Slice (thn (hl a G σ H1 _ I1 B) λd C ⟨l,H2,I2,i,y⟩=>thn (hu a C σ H2 _ I2 y) λg c ⟨u,H3,I3,m,n⟩=>?_);rw[evalPart_none];refine Y2r;have I4:cU X a σ H3 { c with heap:=c.heap.push { cls:=.type "slice",data:=.fields #[d,g,.none] } }:=I3.kept (t':=c.toks) λb L q=>Y1G q;obtain⟨T,J,p,j,D⟩:=hr a { c with heap:=c.heap.push { cls:=.type "slice",data:=.fields #[d,g,.none] } } σ H3 x v d g l u c.heap.objs.size Q I4 z (Heap.IsSliceOf.new ..) i m n;show Y93 (subscriptTail e (.Slice lo hi none p2) v (YcT)) (EP X a σ Q) ({ c with heap:=c.heap.push { cls:=.type "slice",data:=.fields #[d,g,.none] } });exact tail_any (ops:=[YcT,v]) j p D (by with_unfolding_all rfl)
def nB(xs:Al)(lo hi:Y1o):Al:=(xs.drop (HT.kU xs.length 0 lo)).take (YaD xs.length hi-YaD 0 lo)
def zK(xs:Al)(lo hi:Y1o):Y51 ((nB xs lo hi).length):=by
 unfold nB;rw[gB,List.length_drop];exact Oo
def aHl(K:Aa):V->Y1o->Y84:=λx lo hi H Q=>∃a xs,x=Yi/\jA K H a xs /\
 ¬(YaD 0 lo=0/\Y53 (YaD xs.length hi))/\∀p,H p=none->Y0N p (Y7L p (nB xs lo hi))
def aC3:SlR X (aHl X.K):=by
 intro j s σ H x v A B e i sl Q I p n u w h;obtain⟨a,d,rfl,y,z,q⟩:=h;cases p;obtain⟨g,r,l,m⟩:=I.tuple y;have c:g.toArray.size=d.length:=by rw[bF];exact r.length.symm
 refine⟨"tuple",_,PyProof.Rows.slot_tuple_getitem.lookup,l.typeIs,HT.xI l n u w (by rw[c];exact z) ?_ (by rw[c];exact m)⟩;rw[c];refine Y4f Y0I (Ybu (.tup (nB d e i)) (λb C q=>Y1G q) Yp ?_) (q _ (Y32));exact⟨⟨aJ (zK d e i) m,_,Y0Q,rfl⟩,_,(r.drop (HT.kU d.length 0 e)).take (Ycq d.length i-Ycq 0 e),Yb6 _⟩
def aF1(K:Aa):R2:=λx y H Q=>∃a b xs ys,x=Yi/\y=Y0p/\jA K H a xs/\jA K H b ys/\xs≠[]/\Y0O (Y6X ys.length) /\
 (ys=[]->Y0N a H)/\(ys≠[]->∀p,H p=none->Y0N p (Y7L p (xs++ys)))
def eE.nil_iff{xs:Al}{us:Ag}(r:Y5h):us=[]↔xs=[]:=by
 cases r with
 | nil=>simp
 | cons _ _=>simp
def aBu:Y4X X .Add (aF1 X.K):=by
 intro e s σ H x y v u Q I m j h;obtain⟨a,b,J,n,rfl,rfl,r,p,A,g,G,B⟩:=h;cases m;cases j;obtain⟨C,d,l,_⟩:=I.tuple r;obtain⟨i,c,D,_⟩:=I.tuple p;refine HT.aBX l D (λz=>A (d.nil_iff.mp z)) (λz=>Y1h Yi H I (G (c.nil_iff.mp z))) (λz=>?_) (by rw[<-d.length,<-c.length];exact g);refine Y4f Y0I (Ybu (.tup (J++n)) (λb L q=>Y1G q) Yp ?_) (B (λw=>z (c.nil_iff.mpr w)) _ (Y32));exact⟨⟨by rw[aV];exact g,_,Y0Q,rfl⟩,_,d.append c,Yb6 _⟩
end
def SX(n:Nat)(i:Int):Ybb:=if 0<=i then(if i<n then some i.toNat else none) else if -(n:Int)<=i then some (i+n).toNat else none
def DX{α:Type}(xs:Yu)(i:Int):Option α:=(SX xs.length i).bind λj=>Y2h j
def QC{n:Nat}{i:Int}{j:Nat}(h:SX n i=Y5P):seqIndex? i n=Y5P/\j<n/\-(n:Int)<=i/\i<n:=by
 unfold SX at h;by_cases h0:0<=i
 ·rw[if_pos h0]at h;by_cases h1:i<n
  ·rw[if_pos h1]at h;have e:i.toNat=j:=fX h;exact⟨by rw[seqIndex_of h0 h1,e],Oo,Oo,h1⟩
  ·rw[if_neg h1]at h;cases h
 ·rw[if_neg h0]at h;by_cases h1:-(n:Int)<=i
  ·rw[if_pos h1]at h;have e:(i+n).toNat=j:=fX h;exact⟨by rw[seqIndex_neg Oo h1,e],Oo,h1,Oo⟩
  ·rw[if_neg h1]at h;cases h
def HN{α:Type}{xs:Yu}{i:Int}{v:α}(h:DX xs i=Ys):∃j,seqIndex? i xs.length=Y5P/\Y2h j=Ys/\Y2u j/\-(xs.length:Int)<=i/\Y2u i:=by
 unfold DX at h;cases e:YaX i with
 | none=>rw[e]at h;cases h
 | some j =>
  rw[e]at h;obtain⟨a,c,g,d⟩:=QC e;exact⟨j,a,h,c,g,d⟩
def dW{α:Type}{xs:Yu}{j:Nat}{v:α}(h:Y2h j=Ys):DX xs (j:Int)=Ys:=by
 have a:Y2u j:=(aB.mp h).1;have e:YaX (j:Int)=Y5P:=by
  unfold SX;rw[Y6a,Y6a];simp
 unfold DX;rw[e];exact h
def RF(b:Expr):Prop:=∀o i,Yc4 b o i=operate [o,i] (getItem o i)
def IxR(X:Cx)(r:R2):Prop :=
 ∀(value slice:Expr) (pins:Ad) (s:Shared) (σ:St) (H:Hp) (x y:V) (v u:Value) (Q:VK),Y4->fE x v->Y3k->r x y H Q ->
  Yc4 slice v u=operate [v,u] (getItem v u)->Y6z (subscriptTail value slice v u) X σ Q
def MtR(X:Cx)(id:String)(r:V->Y1B):Prop :=
 ∀(pins:Ad) (s:Shared) (σ:St) (H:Hp) (x:V) (xs:Al) (v:Value) (us:Ag) (Q:VK),Y4->fE x v->Y5h->r x xs H Q ->
  Y6z (YaC id (v::us)) X σ Q
section
variable{X:Cx}{a b:Expr}{ta tb:TE}{pos:Pos}
def IxR.or{r r':R2}(h:IxR X r)(h':IxR X r'):IxR X (λx y H Q=>r x y H Q\/r' x y H Q):=by
 intro c a d s σ H x y v u Q I i e q g;rcases q with q | q
 ·exact h c a d s σ H x y v u Q I i e q g
 ·exact h' c a d s σ H x y v u Q I i e q g
def aGa{r:R2}(hr:IxR X r)(ha:Y5k a)(hb:Yn b tb)(hs:RF b):Yn (Y7v a b) (tOp r ta tb):=by
 intro c s σ H Q I h;exact Subscript_ (Ydu ha hb I h (hr a b c g σ H2 x y v u Q I2 e d q (hs _ _)))
def aF0(K:Aa):R2:=λx y H Q=>∃p xs i v,x=Y0Z/\y=Y1w/\gH K H p xs/\DX xs i=Ys/\Q v H
def aFY(K:Aa):R2:=λx y H Q=>∃p xs i v,x=Y0Z/\y=Y1w/\jA K H p xs/\DX xs i=Ys/\Q v H
def aFZ:R2:=λx y H Q=>∃z i c,x=.str z/\y=Y1w/\Y0O z.length/\DX z.cps.toList i=Y1v/\Q (.str ⟨#[c]⟩) H
def aBI:IxR X (aF0 X.K):=by
 intro A l a s σ H x y v u Q I G D h B;obtain⟨p,W,i,z,rfl,rfl,L,P,q⟩:=h;cases G;obtain⟨t,rfl⟩:=D;obtain⟨m,r,g,S⟩:=I.list L;obtain⟨j,d,N,U,M,J⟩:=HN P;obtain⟨w,C,n⟩:=r.get N;have R:=r.length;have T:=CD;have c:EP X a σ Q w s:=⟨z,H,I,n,q⟩;by_cases h0:0<=i
 ·have e:i.toNat=j:=by
   rw[seqIndex_of h0 J]at d;exact fX d
  exact item_listR g.isList h0 Oo (by rw[e];simpa using C) c B
 ·have e:(i+(m.toArray.size:Int)).toNat=j:=by
   rw[seqIndex_neg Oo M]at d;rw[bF,<-R];exact fX d
  exact subscriptTail_builtinR (x:=w) g.isList.typeIs slot_list_getitem.lookup
   (wpAny_getItem_list_neg (Q:=λr O=>r=w/\EP X a σ Q r O) g.isList Oo (by rw[bF] <;> exact Oo) Oo (by rw[e];simpa using C) (Y5 c)) B
def aEW:IxR X (aFY X.K):=by
 intro g c a s σ H x y v u Q I A m h n;obtain⟨p,U,i,z,rfl,rfl,C,M,q⟩:=h;cases A;obtain⟨t,rfl⟩:=m;obtain⟨L,r,l,P⟩:=I.tuple C;obtain⟨j,J,D,T,R,O⟩:=HN M;obtain⟨w,B,e⟩:=r.get D;have N:=r.length;have S:=CD;have d:EP X a σ Q w s:=⟨z,H,I,e,q⟩;exact subscriptTail_builtinR (x:=w) l.typeIs slot_tuple_getitem.lookup
  (getItem_tuple (j:=j) (Q:=λr G=>r=w/\EP X a σ Q r G) l Oo Oo (by rw[bF,<-N];exact J) (by simpa using B) (Y5 d)) n
def aEX:IxR X aFZ:=by
 intro d a e s σ H x y v u Q I p m h n;obtain⟨z,i,c,rfl,rfl,G,C,q⟩:=h;obtain⟨t,rfl⟩:=p;obtain⟨M,rfl⟩:=m;obtain⟨j,g,B,L,A,r⟩:=HN C;have D:z.cps.toList.length=z.length:=by simp[Str.length]
 rw[D]at g A r;have J:=CD;exact tail_any (typeIs_str s z t) slot_str_getitem.lookup (getItem_str (c:=c) (by
  have l:Yx (Y1E i (-(2^63:Int))):=bT Oo;have w:Yx (decide (i ≥ 2^63)):=bT Oo;rw[l,w,Bool.or_false]) (by rw[g];simpa using B) ⟨.str ⟨#[c]⟩,H,Y1W,Y3w,q⟩) n
def rIx(K:Aa):R2:=λx y H Q=>aF0 K x y H Q\/aFY K x y H Q\/aFZ x y H Q
def bJ:IxR X (rIx X.K):=aBI.or (aEW.or aEX)
def MW(its:Ag)(n j:Nat)(u:Value):Obj.mapSeq (·.setIfInBounds j u) { cls:=.type "list",data:=.seq its.toArray n }={ cls:=.type "list",data:=.seq (its.set j u).toArray n }:=by
 simp[Obj.mapSeq]
theorem cU.lst{pins:Ad}{σ:St}{H:Hp}{s:Shared}{p:Addr}{xs:Al}(I:Y4)(h:H p=Y0P) :
  ∃(its:Ag) (n:Nat),eE xs its/\Y1V p ({ cls:=.type "list",data:=.seq its.toArray n })/\Y5r:=by
 obtain⟨z,its,n,r,e⟩:=I.hok p _ h;exact⟨its,n,r,e,z⟩
def cU.lstUpd{pins:Ad}{σ:St}{H:Hp}{s:Shared}{p:Addr}{xs ys:Al}{its its':Ag}{n n':Nat}{f:Obj->Obj}(I:Y4)(h:H p=Y0P)
  (ho:Y1V p ({ cls:=.type "list",data:=.seq its.toArray n })) (hf:f { cls:=.type "list",data:=.seq its.toArray n }={ cls:=.type "list",data:=.seq its'.toArray n' }) (r:eE ys its') (hz:Ycf) (t:Nat) :
  Y27 (Y3a p ys) ({ s with heap:=s.heap.update p f,toks:=t }):=by
 have e:(s.heap.update p f).get? p=some { cls:=.type "list",data:=.seq its'.toArray n' }:=by
  rw[Heap.get?_update_self f ho (by rw[hf] <;> rfl),hf]
 refine YdE p p (by rw[h];trivial) (λb u a q=>(Heap.get?_update_other _ _ (Ne.symm a)).trans q) (Y2S e) ?_;exact⟨hz,its',n',r,e⟩
def PD:V->V->V->Y0i Hp Y5q:=λo i v H Q=>∃p xs k j,o=Y0Z/\i=.int k/\H p=Y0P/\YaX k=Y5P/\Q (Y3a p (xs.set j v))
def BM:aFn X PD:=by
 intro a s σ H o i v J G u Q I D B rv h;obtain⟨p,C,k,j,rfl,rfl,w,z,q⟩:=h;cases D;obtain⟨t,rfl⟩:=B;obtain⟨c,n,r,g,A⟩:=I.lst w;obtain⟨d,L,y,m⟩:=QC z;have l:=r.length;have M:=CD;have I':cU X a σ (Y3a p (C.set j v)) { s with heap:=s.heap.update p (Obj.mapSeq (·.setIfInBounds j u)) } :=
  I.lstUpd w g (MW c n j u) (r.set rv j) (by rw[List.length_set];exact A) s.toks
 by_cases h0:0<=k
 ·have e:k.toNat=j:=by
   rw[seqIndex_of h0 m]at d;exact fX d
  exact PySem.W.ki_setAt g h0 Oo (by rw[bF,<-l];exact m) (by rw[e];exact Y0U I' q)
 ·have e:(k+(c.toArray.size:Int)).toNat=j:=by
   rw[seqIndex_neg Oo y]at d;rw[bF,<-l];exact fX d
  exact PySem.W.ki_setBack g Oo (by rw[bF,<-l];exact y) Oo (by rw[e];exact Y0U I' q)
def GJ(lo hi:Y1o)(n:Nat):(sliceBounds lo hi none n).1=((HT.kU n 0 lo:Nat):Int)/\(sliceBounds lo hi none n).2.1=((HT.kU n n hi:Nat):Int)/\(sliceBounds lo hi none n).2.2=1:=by
 refine Y4n ?_ ?_
 ·cases lo with
  | none=>simp[sliceBounds,HT.kU]
  | some i =>
   simp only[sliceBounds,HT.kU,Option.getD_none,show(1:Int) > 0 by decide,if_true];by_cases h:i<0
   ·simp only[h,if_true] <;> exact Oo
   ·simp only[h,if_false] <;> exact Oo
 ·cases hi with
  | none=>simp[sliceBounds,HT.kU]
  | some i =>
   simp only[sliceBounds,HT.kU,Option.getD_none,show(1:Int) > 0 by decide,if_true];by_cases h:i<0
   ·simp only[h,if_true] <;> exact Oo
   ·simp only[h,if_false] <;> exact Oo
def DS(its:Ag)(lo hi:Y1o):slicePick its.toArray lo hi none=((its.drop (HT.kU its.length 0 lo)).take (HT.kU its.length its.length hi-HT.kU its.length 0 lo)).toArray:=by
 obtain⟨a,c,d⟩:=GJ lo hi its.toArray.size;unfold slicePick;rw[a,c,d];simp only[sliceRange_one,pick_run,bF] <;> rfl
def aFX(K:Aa):V->Y1o->Y84:=λx lo hi H Q=>∃a xs,x=Yi/\gH K H a xs/\∀p,H p=none->Y0N p (Y3a p (nB xs lo hi))
def OX:SlR X (aFX X.K):=by
 intro i s σ H x v z A e g sl Q I m l n u h;obtain⟨a,c,rfl,w,q⟩:=h;cases m;obtain⟨y,r,j,p⟩:=I.list w;have d:=r.length;refine⟨"list",_,slot_list_getitem.lookup,j.isList.typeIs,wpAny_getItem_list_slice j.isList l n u .none (by simp) ?_ (by rw[bF] <;> exact Oo)⟩;rw[DS,<-d];refine Y4f Y0I (Ybu (.lst (nB c e g)) (λb B q=>Y1G q) Yp ?_) (q _ (Y32));exact⟨aJ (zK c e g) p,_,0,(r.drop (HT.kU c.length 0 e)).take (HT.kU c.length c.length g-HT.kU c.length 0 e),Y0Q⟩
def zJ:Y2K V
 | .non=>true
 | .bl _=>true
 | .int _=>true
 | .str _=>true
 | _=>false
def eqV:V->Y2K V
 | .non,.non=>true
 | .bl a,.bl b=>a == b
 | .bl a,.int b=>(if a then 1 else 0) == b
 | .int a,.bl b=>a == (if b then 1 else 0)
 | .int a,.int b=>a == b
 | .str a,.str b=>a == b
 | _,_=>false
def aE6{A:Around}{s:Shared}{y x:V}{u v:Value}(ry:Y3k)(rx:fE x v)(fy:zJ y=true)(fx:zJ x=true):SeqAt.EqAt A s u v (eqV y x):=by
 cases y with
 | non =>
  cases ry;cases x with
  | non=>cases rx;exact SeqAt.EqAt.same _
  | bl b=>cases rx;exact SeqAt.EqAt.none_bool b
  | int b=>obtain⟨t,rfl⟩:=rx;exact SeqAt.EqAt.none_int b t
  | str b=>obtain⟨t,rfl⟩:=rx;exact SeqAt.EqAt.none_str b t
  | _=>exact Y2v (show false=true from fx)
 | bl a =>
  cases ry;cases x with
  | non=>cases rx;exact SeqAt.EqAt.bool_none a
  | bl b=>cases rx;exact SeqAt.EqAt.bool_bool a b
  | int b=>obtain⟨t,rfl⟩:=rx;exact SeqAt.EqAt.bool_int a b t
  | str b=>obtain⟨t,rfl⟩:=rx;exact SeqAt.EqAt.bool_str a b t
  | _=>exact Y2v (show false=true from fx)
 | int a =>
  obtain⟨c,rfl⟩:=ry;cases x with
  | non=>cases rx;exact SeqAt.EqAt.int_none a c
  | bl b=>cases rx;exact SeqAt.EqAt.int_bool a c b
  | int b=>obtain⟨t,rfl⟩:=rx;exact SeqAt.EqAt.int_int a c b t
  | str b=>obtain⟨t,rfl⟩:=rx;exact SeqAt.EqAt.int_str a c b t
  | _=>exact Y2v (show false=true from fx)
 | str a =>
  obtain⟨c,rfl⟩:=ry;cases x with
  | non=>cases rx;exact SeqAt.EqAt.str_none a c
  | bl b=>cases rx;exact SeqAt.EqAt.str_bool a c b
  | int b=>obtain⟨t,rfl⟩:=rx;exact SeqAt.EqAt.str_int a c b t
  | str b=>obtain⟨t,rfl⟩:=rx;exact SeqAt.EqAt.str_str a c b t
  | _=>exact Y2v (show false=true from fx)
 | _=>exact Y2v (show false=true from fy)
def eqU(x:V)(u:Value):Bool:=match u with
 | .none=>eqV .non x
 | .bool b=>eqV (.bl b) x
 | .int i _=>eqV (.int i) x
 | .str z _=>eqV (.str z) x
 | _=>false
def aE5{x y:V}{u:Value}(r:Y3k)(f:zJ y=true):eqU x u=eqV y x:=by
 cases y with
 | non=>cases r;rfl
 | bl b=>cases r;rfl
 | int i=>obtain⟨t,rfl⟩:=r;rfl
 | str z=>obtain⟨t,rfl⟩:=r;rfl
 | _=>exact Y2v (show false=true from f)
theorem JH{A:Around}{s:Shared}{x:V}{v:Value}(rx:fE x v)(fx:zJ x=true):∀{xs:Al}{us:Ag},Y5h->xs.all zJ=true->∀u∈us,SeqAt.EqAt A s u v (eqU x u)
 | _,_,.nil,_=>λu hu=>by cases hu
 | y::xs,u::us,.cons r t,f=>λu' hu=>by
  rw[List.all_cons,dG]at f;rcases bN.mp hu with rfl | hu
  ·rw[aE5 r f.1];exact aE6 r rx f.1 fx
  ·exact JH rx fx t f.2 u' hu
def sT:Y9T X "list" (λxs H Q=>∃p ys,xs=[Y0Z]/\(gH X.K H p ys\/jA X.K H p ys)/\∀l,H l=none->Y0N l (Y3a l ys)):=by
 intro i s σ H xs J Q I r h;obtain⟨p,ys,rfl,m,q⟩:=h;obtain⟨u,rfl,G⟩:=nM r;cases G;have z:∀(a:Ag),eE ys a->Ycf->∀(c:Heap) (g:Nat),(∀b o',Y1V b o'->c.get? b=some o') ->
   c.get? s.heap.objs.size=some { cls:=.type "list",dict:=none,data:=.seq a.toArray g,slots:=#[] }->EP X i σ Q (Y0I) { s with heap:=c }:=λa d j c g A e =>
  Y4f Y0I (I.laid (t':=s.toks) A (Yp) (show hV X.prog X.w _ c _ (.lst ys)from⟨j,a,g,d,e⟩)) (q _ (Y32))
 rcases m with m | m
 ·obtain⟨a,d,B,j⟩:=I.list m;have y:=d.length;obtain⟨o,C,D,n,hd⟩:=B.isList;exact call_list_seq p (Y3t) C D hd (λc g A e=>z a d j c g A e) (by simp only[bF] <;> exact Oo)
 ·obtain⟨a,d,B,j⟩:=I.tuple m;have y:=d.length;obtain⟨o,C,D,n,hd⟩:=B;exact call_list_seq p (Y77) C D hd (λc g A e=>z a d j c g A e) (by simp only[bF] <;> exact Oo)
def dQ:Y9T X "tuple" (λxs H Q=>∃p ys,xs=[Y0Z]/\((gH X.K H p ys/\∀l,H l=none->Y0N l (Y7L l ys))\/(jA X.K H p ys/\Y0N p H))):=by
 intro a s σ H xs A Q I r h;obtain⟨p,ys,rfl,h⟩:=h;obtain⟨u,rfl,y⟩:=nM r;cases y;rcases h with⟨i,q⟩ | ⟨i,q⟩
 ·obtain⟨c,j,g,m⟩:=I.list i;have n:=j.length;refine call_tuple_list g.isList (λd z=>?_) (by simp only[bF] <;> exact Oo);have I1:cU X a σ H { s with heap:=d }:=I.kept (t':=s.toks) z;have I2:cU X a σ (Y7L d.objs.size ys) { s with heap:=d.push { cls:=.type "tuple",data:=.seq c.toArray } } :=
   YdH s.toks (λb o e=>Y2I) (show hV X.prog X.w _ _ _ (.tup ys)from⟨⟨m,_,aZ _ rfl,rfl⟩,c,j,IsTup.new _ _⟩)
  exact Y4f (.ref d.objs.size) I2 (q _ (Ydq))
 ·obtain⟨c,j,g,m⟩:=I.tuple i;exact call_tuple_same g (Y1h Y0Z H I q)
def tyV(K:Aa)(T:String)(x:V)(H:Hp):Prop:=match x with
 | .str _=>T = "str"
 | .int _=>T = "int"
 | .ref p=>(T = "list" /\ ∃xs,gH K H p xs)\/(T = "tuple" /\ ((∃o,K.lookup p=some o/\o.cls=.type "tuple" /\ o.dict=none)\/∃xs,H p=some (.tup xs))) \/
   (T = "dict" /\ ((∃kvs,H p=some (.dK kvs))\/∃kvs,H p=some (.dT kvs)))\/(T = "set" /\ ∃S n,H p=some (.set S n))
 | _=>False
def aC0{pins:Ad}{σ:St}{H:Hp}{s:Shared}{T:String}{x:V}{v:Value}(I:Y4)(r:fE x v)(ty:tyV X.K T x H) :
  s.TypeIs v T/\∀a,v=Yi->∃ob,Y1V a ob/\ob.dict=none:=by
 cases x with
 | str z =>
  obtain⟨t,rfl⟩:=r;cases(show T = "str" from ty);exact⟨typeIs_str s z t,λ_ e=>nomatch e⟩
 | int i =>
  obtain⟨t,rfl⟩:=r;cases(show T = "int" from ty);exact⟨Y8t s i,λ_ e=>nomatch e⟩
 | ref p =>
  cases r;rcases ty with⟨rfl,u,l⟩ | ⟨rfl,⟨o,d,D,hd⟩ | ⟨u,l⟩⟩ | ⟨rfl,d⟩ | ⟨rfl,S,n,d⟩
  ·obtain⟨B,_,m,_⟩:=I.list l;refine⟨m.isList.typeIs,λa e=>?_⟩;cases e;obtain⟨o,n,e,c,hd,_⟩:=m;exact Y1H e hd
  ·refine⟨Y1H (I.kIn p o d) D,λa e=>?_⟩;cases e;exact Y1H (I.kIn _ o d) hd
  ·obtain⟨⟨_,A,C,dn⟩,_,_,o,y,h,_⟩:=(show hV X.prog X.w H s.heap p (.tup u)from I.hok p _ l);refine⟨Y1H y h,λa e=>?_⟩;cases e;exact⟨A,C,dn⟩
  ·have z:∃o,Y3u p/\o.ExactDict:=by
    rcases d with⟨j,d⟩ | ⟨j,d⟩
    ·obtain⟨_,_,_,_,o,_,_,e,g,_⟩:=I.hok p _ d;exact Y1H e g
    ·obtain⟨_,_,_,_,o,_,_,e,g,_⟩:=I.hok p _ d;exact Y1H e g
   obtain⟨o,e,g⟩:=z;refine⟨Y1H e g.1,λa h=>?_⟩;cases h;exact Y1H e g.2.1
  ·obtain⟨o,_,_,_,e,g,_⟩:=I.hok p _ d;refine⟨Y1H e g.1,λa h=>?_⟩;cases h;exact Y1H e g.2.1
 | _=>exact False.elim ty
def tBM(K:Aa)(T:String)(r:V->Y1B)(to:TE)(t:TA):TE:=λσ H Q=>to σ H λx H1=>tyV K T x H1/\t σ H1 λxs H2=>r x xs H2 Q
variable{o e:Expr}{es:Y0j}{to:TE}{t:TA}{name:Str}{apos cpos:Pos}{T id:String}{r:V->Y1B}
def aGc(pa:PlainAttrs T)(slot:Slot T name id)(hty:typeOf (.builtin id)=pure (.type "method_descriptor"))(hm:MtR X id r)(ho:Yn o to)(ha:PA X (e::es) t)
  (hbase:Y8h o name (Y0a o)=Y0a o:=by rfl)
  (hfew:((backTo cpos (starEach (e::es) X.env)).all (λx=>! x.1)&&(backToKw cpos (keywordEach [] X.env)).all (λx=>x.1.isSome)
   && Y1E ((e::es).length+([]:List Keyword).length+(if([]:List Keyword).isEmpty then 0 else 1)) 30)=true:=by rfl)
  (hline:(Y9k)=true:=by rfl) (hs:Y3R=(false,Y1l)::Y30:=by rfl) (hplain:Yx ((backTo cpos (starEach es X.env)).any (·.1)):=by rfl) :
  Yn (Y9M name (e::es) [] cpos) (tBM X.K T r to t):=by
 intro c s σ H Q I h;refine wpAny_Call_method_late hbase hfew hline rfl (thn (ho c s σ H _ I h) λv A ⟨x,H1,I1,g,j,w⟩=>?_);obtain⟨n,l⟩:=aC0 I1 g j;refine⟨T,id,pa,slot,hty,n,l,?_⟩;have d:=ha cpos c A σ H1 _ I1 w;rw[hs]at d ⊢;refine Calls.callWith_builtin (by show Yx (false || (backTo cpos (starEach es X.env)).any (·.1));rw[hplain] <;> rfl) (Calls.evalArgs_plain ?_);exact thn d λi y ⟨u,H2,I2,z,p⟩=>hm c y σ H2 x u v i Q I2 g z p
/- xs.append(e),list.index on a module's tuple .. are MtR facts of 06m -/
end
def MtM(X:Cx)(id:String)(r:V->Y1B):Prop :=
 ∀(pins:Ad) (s:Shared) (σ:St) (H:Hp) (x:V) (xs:Al) (v:Value) (us:Ag) (Q:VK),Y4->fE x v->Y5h->r x xs H Q ->
  Y6z (YaC id (v::us)) X σ Q
def eE.one:∀{x:V}{us:Ag},Y2C [x]->∃u,us=[u]/\fE x u
 | _,_,.cons r .nil=>⟨_,rfl,r⟩
theorem FB(its:Ag):∀(k:Nat) (acc:Ag),
  List.foldl (λx1 x2=>x1++x2) acc.toArray (Y4V its.toArray)=(acc++(Y4V its).flatten).toArray
 | 0,acc=>by simp
 | k+1,acc=>by
  have e:acc.toArray++its.toArray=(acc++its).toArray:=by simp
  have a:(acc++its)++(List.replicate k its).flatten=acc++(List.replicate (k+1) its).flatten:=by
   rw[List.replicate_succ,List.flatten_cons,List.append_assoc]
  rw[<-a,<-FB its k (acc++its),<-e,List.replicate_succ,List.foldl_cons]
section
variable{X:Cx}{pins:Ad}{σ:St}{H:Hp}{s:Shared}{l b:Addr}{xs ys zs:Al}
def cU.lset{its its':Ag}{n:Nat}{f:Ai->Ai}{t':Nat}(I:Y4)(hH:H l=Y0P)
  (e:Y1V l ({ cls:=.type "list",data:=.seq its.toArray n })) (hf:f its.toArray=its'.toArray) (hv:eE ys its') (hz:Ycf) :
  Y27 (Y3a l ys) ({ s with heap:=s.heap.update l (Obj.mapSeq f),toks:=t' }):=by
 have q:=PySem.IsL.update e f;rw[hf]at q;refine YdE l l (by rw[hH];exact trivial) (λd u c a=>(Heap.get?_update_other s.heap (Obj.mapSeq f) (Ne.symm c)).trans a) (Y2S q) ?_;exact⟨hz,its',_,hv,q⟩
def cU.lnew{its:Ag}{t':Nat}(I:Y4)(hv:eE ys its)(hz:Ycf) :
  Y27 (Y2M ys) ({ s with heap:=s.heap.push { cls:=.type "list",data:=.seq its.toArray },toks:=t' }) :=
 I.laid (Yco q) (Yp) ⟨hz,its,0,hv,Y0Q⟩
theorem cU.fresh(I:Y4):YbJ=none:=Y32
def cU.lstM(I:Y4)(hH:H l=Y0P):Y5r/\∃(its:Ag) (n:Nat),eE xs its/\Y5u its.length/\Y1V l ({ cls:=.type "list",data:=.seq its.toArray n }):=by
 obtain⟨z,its,n,r,e⟩:=I.hok l _ hH;exact⟨z,its,n,r,r.length,e⟩
def XN{n:Nat}(h:Y0O n):Yx (Builtin.List.listTooLong n):=by
 unfold Builtin.List.listTooLong;exact bT Oo
end
section
variable{X:Cx}
def PR:V->Y1B:=λx vs H Q=>∃l xs y,x=Y11/\vs=[y]/\H l=Y0P/\xs.length < sizeLine/\Q .non (Y3a l (xs++[y]))
def uS:MtM X "list.append" PR:=by
 intro c s σ H x m v i Q I g rv h;obtain⟨l,p,y,rfl,rfl,d,j,q⟩:=h;cases g;obtain⟨u,rfl,ru⟩:=rv.one;obtain⟨z,a,n,r,w,e⟩:=I.lstM d;refine call_meets F.slot_list_append (Y0R e) F.entry_list_append (F.args_list_append_2 _ _) (PySem.list_append l a.toArray n u (by rw[bF];exact Oo)) ⟨e,Y4f .non (I.lset (its':=a++[u]) d e (by simp) (r.append (Y7I ru)) ?_) q⟩;rw[aV,List.length_singleton];exact Oo
def PP:V->Y1B:=λx vs H Q=>∃l b xs zs,x=Y11/\vs=[Y0p]/\H l=Y0P/\H b=Yl zs/\Y0O Ych/\Q .non (Y3a l (xs++zs))
def SM:MtM X "list.extend" PP:=by
 intro i s σ H x L v C Q I w rv h;obtain⟨l,b,M,G,rfl,rfl,j,m,J,q⟩:=h;cases w;obtain⟨u,rfl,ru⟩:=rv.one;cases ru;obtain⟨z,c,n,r,N,e⟩:=I.lstM j;obtain⟨D,a,p,B,y,A⟩:=I.lstM m;have g:Y0O (c.toArray.size+a.toArray.size):=by rw[bF,bF];exact Oo
 have d:¬(! c.toArray.isEmpty&&Builtin.List.listTooLong (c.toArray.size+a.toArray.size))=true:=by
  rw[XN g,Bool.and_false];exact cE
 refine call_meets F.slot_list_extend (Y0R e) F.entry_list_extend (F.args_list_extend_2 _ _)
  (AutoSeq1.list_extend_list_list_0 l c.toArray n b a.toArray p d (by rw[bF];exact Oo) Oo) (Y0b e A)
 refine Y4f .non (I.lset (its':=c++a) j e (by simp) (r.append B) ?_) q;rw[aV];exact Oo
def aF2:R2:=λx y H Q=>∃l b xs zs,x=Y11/\y=Y0p/\H l=Y0P/\H b=Yl zs/\Y0O Ych/\∀p,H p=none->Y0N p (Y3a p (xs++zs))
def vR:Y4X X .Add aF2:=by
 intro d s σ H x y v u Q I j i h;obtain⟨l,b,L,G,rfl,rfl,A,g,J,q⟩:=h;cases j;cases i;obtain⟨z,c,n,r,M,e⟩:=I.lstM A;obtain⟨D,a,C,B,m,p⟩:=I.lstM g;refine PySem.P.add_list e p ?_ (by rw[bF,bF];exact Oo);have w:c.toArray++a.toArray=(c++a).toArray:=by simp
 rw[w];exact Y4f (.ref _) (I.lnew (t':=s.toks) (r.append B) (by rw[aV];exact Oo)) (q _ I.fresh)
end
section
variable{prog:Program}{w:World}{A:Around}{E:Yc}{s:Shared}
end
section
variable{X:Cx}
end
end L2
namespace Att
open PySem PySem.W PySem.Calls PyProof.Rows
def zS{P:Params}{h:Heap}:∀(ns:Af) (vs:Ag),WellAll P h vs (ns.map WData.int)->Y67 vs:=by
 intro ns
 induction ns with
 | nil =>
  intro vs w;rw[List.map_nil]at w;cases w;exact .nil
 | cons n ns ih =>
  intro vs w;rw[bE]at w;cases w with
  | cons a b =>
   cases a;exact .cons _ _ (ih _ b)
def SB{l:OpenLaw}{n:Nat}(hn:l.most=Y6H){P:Params}{h:Heap}{args:List WData}{vals:Ag}
  (hpre:l.row.toRowW.claim.pre args=true) (hwl:WellAll P h vals args) :
  ∃a vs ns,vals=[Y7z]/\args=[WData.list (ns.map WData.int)]/\h.get? a=some { cls:=.type "list",data:=.seq vs.toArray }/\Y67 vs/\Y66 n:=by
 have i:WShape.hasAll [] args [.list .int]=true:=(pre_splitW hpre).1;have j:l.pre.holds [] { args:=args }=true:=(pre_splitW hpre).2;obtain⟨d,r,rfl,p,m⟩:=hasAllW_cons i;obtain rfl:=hasAllW_nil m;obtain⟨w,rfl,u⟩:=hasW_list p;obtain⟨ns,rfl⟩:=items_int u;have c:Y66 n:=by
  unfold OpenLaw.pre at j;have g:(WTm.not (.lt (.lit (.int (n:Int))) (.len (.arg 0)))).holds [] { args:=[.list (ns.map .int)] }=true:=by
   have g:=(holds_andW j).1;rw[hn]at g;exact g
  have e:=condW_of g (w_not (w_lt w_lit (w_len_list (w_arg rfl))));rw[aA]at e;refine Nat.le_of_not_lt λq=>?_;have s:(n:Int)<((ns.length:Nat):Int):=Oo
  first
   | (rw[cO s]at e;exact Y6g e)
   | (simp at e;exact Oo)
 cases hwl with
 | cons w1 w2 =>
  cases w2;cases w1 with
  | list ho hall=>exact Y0F _ _ ns rfl ho (zS ns _ hall) c
def SH(l:OpenLaw)(args:List WData):l.row.toRowW.claim.post args (Y8z) args=true :=
 postW_of (r:=l.row.toRowW) (X:=(true == true))
  (show WShape.has [] (.bool true) .bool=true by first | rfl | decide | simp[WShape.has,WShape.arms,WShape.armsAll])
  (show(WTm.eq .res (.lit (.bool true))).value [] { args:=args,res:=some (.bool true),after:=args }=some (.bool (true == true))from w_eq_bool (w_res rfl) w_lit) rfl
def KU{l:OpenLaw}{n:Nat}{q:Program}{loose:Ah}{XP:(Y0H)->Y55}{YP:World->Y55}{d:DefRec}
  (hn:l.most=Y6H) (hdf:d.params.defaults=[])
  (call:∀(w:World) (s₀ s₁:Shared) (mg mb:Y0H) (fa:Addr) (o:Obj) (pm cd doc:Value) (a:Addr) (vs:Ag) (ns:Af),
   Ground q loose [] XP w s₀ mg mb s₁.heap->YP w s₁.heap ->
   Yba fa Ya->o.data=.func (docDef d.name d.params d.body d.scope pm cd doc)->s₁.heap.CodeRec cd d.name->mg d.name=Y3 fa ->
   Yba a (some { cls:=.type "list",data:=.seq vs.toArray })->Y67 vs->Y66 n->s₁.gens=#[] ->
   Y9t l.prog w callerA (Y9y fa ⟨Y22,[]⟩) (λr s'=>r=.ok (.ret Y8z)/\OldK s₁.heap s'.heap/\s'.os=s₁.os/\YaH) s₁) :
  WalkO q loose XP YP l.row.toRowW d [] (YdL f vs):=by
 intro w s₀ s₁ mg mb G Y fa o pm cd doc y kV z hd j p i L s vals N g u B m M;obtain rfl:y=.none:=Dflts.none p hdf;obtain rfl:kV=.none:=Dflts.noKw p;obtain⟨a,vs,ns,rfl,rfl,e,c,h⟩:=SB hn g m;refine enter_call (codeAny_mono (call w s₀ s₁ mg mb fa o pm cd doc a vs ns G Y z (fd_plain hd) j i e c h L) λr s' A=>?_);obtain⟨rfl,D,J,C⟩:=A;exact⟨.inl ⟨Y8z,Y8z,[],rfl,λ_=>rfl,Y8z,SH l _,λ_=>⟨List.Pairwise.nil,λ_ I=>(nomatch I)⟩⟩,D,J,C⟩
section
variable{prog:Program}{w:World}{A:Around}{E:Yc}{s:Shared}{K:Frag}
end
end Att
namespace L2
open PySem PySem.Spec PyProof.Rows
theorem EE:∀{vs:Ag}{ns:Af},Y67 vs->eE (Y5o) vs
 | _,_,.nil=>.nil
 | _,_,.cons n t h=>.cons ⟨t,rfl⟩ (EE h)
def aCl(H:Hp):Prop:=∀b,H b=none\/∃o xs,H b=Y8y o (.lst xs)
def YF{P:Program}{w:World}{K:Aa}{mg mb:Y0H}{CX:UH}{k:Nat}{fa a:Addr}{fd:FuncData}{x:Str}{sp:Sp}{s₁:Shared}{vs:Ag}{ns:Af}
  (KX:K.In s₁.heap) (hns:s₁.heap.Ns mainGlobals mg) (hb:s₁.heap.Ns builtinsNs mb) (hbb:∀x:Str,x ≠ "__name__" -> mb x=Y9d) (hlim:s₁.heap.NoLimit) (hg:s₁.gens=#[])
  (ha:Yba a (some { cls:=.type "list",data:=.seq vs.toArray })) (hi:Y67 vs) (hl:Y0O ns.length) (hr:jB k callerA)
  (F:∀base:Heap,K.In base->Ybz mg->dO P w K mg base CX k fa fd [x] sp) (hbind:∀(s:Shared) (u:Value),Ya0 s ⟨[u],[]⟩ [(x,u)])
  (hsp:∀H:Hp,aCl H->Y5J K H a->sp Y22 H (λv _=>v=Yaa) Y7t)
  (hCX:∀H e s',CX [] H s₁ (Y7t) e s'->False) :
  Y9t P w callerA (Y9y fa ⟨Y22,[]⟩) (λr s'=>r=.ok (.ret Y8z)/\OldK s₁.heap s'.heap/\s'.os=s₁.os/\YaH) s₁:=by
 have rv:=EE hi;have A:=hi.length;have i:∀H:Hp,aCl H->Y5J K H a->sZ P w H s₁.heap->(∀b,H b≠none->b=a)->(H a≠none->Ybe=none) ->
   Y9t P w callerA (Y9y fa ⟨Y22,[]⟩) (λr s'=>r=.ok (.ret Y8z)/\OldK s₁.heap s'.heap/\s'.os=s₁.os/\YaH) s₁:=by
  intro H M Z p L Y;have c:∀{b:Addr} {o:Obj},Yba b Ya->H b=none->(HB s₁.heap H).get? b=Ya:=λe n=>YL e n;have I:∀{b:Addr} {o:Obj} {y:YaG} {j:Nat},Yba b Ya->o.data=.dict y j->H b=none:=λ{b o y j} e d=>by
   cases q:H b with
   | none=>rfl
   | some u =>
    have G:b=a:=L b (by rw[q];simp);subst G;rw[ha]at e;cases e;have U:Data.seq vs.toArray _=Data.dict y j:=d;cases U
  have g:∀{b:Addr} {m:Y0H},s₁.heap.Ns b m->(HB s₁.heap H).Ns b m:=λ{b m} ⟨o,y,j,e,d,r⟩=>⟨o,y,j,c e (I e d),d,r⟩;have l:K.In (HB s₁.heap H):=λb o e=>c (KX b o e) (by
   cases q:H b with
   | none=>rfl
   | some u =>
    have G:b=a:=L b (by rw[q];simp);subst G;rw[Y (by rw[q];simp)]at e;cases e)
  have X:Mod K mg (HB s₁.heap H):=⟨l,g hns,⟨mb,g hb,hbb⟩,let ⟨mc,h1,h2⟩:=hlim;⟨mc,g h1,h2⟩⟩;have O:OB P w K mg (HB s₁.heap H) callerA [] s₁ H:=⟨rfl,X,λb o e=>aBw e,Nat.le_of_eq (TC _ _),trivial,λb hb=>absurd (show b∈([]:List Addr)from hb) (by simp),p,.of_eq hg⟩;refine codeAny_mono ((F _ l (g hns)).run callerA [] s₁ H ⟨Y22,[]⟩ Y22 Y22 _ _ hr O (hbind s₁ (Yi)) (Y7I rfl) (hsp H M Z)) λr s' h=>?_;cases r with
  | error e=>exact(hCX H e s' h).elim
  | ok fl =>
   cases fl with
   | next=>exact False.elim h
   | brk=>exact False.elim h
   | cont=>exact False.elim h
   | ret u =>
    obtain⟨v,H',os,D,un,C,T,q⟩:=h;have N:v=Yaa:=q;subst N;obtain rfl:u=Value.bool true:=T;refine⟨rfl,OldK.of_keep λb o e=>?_,os,D⟩;cases q:H b with
    | none=>exact un.keep b o e q (by intro z;exact absurd (show b∈([]:List Addr)from z) (by simp)) (by simp)
    | some u =>
     rcases M b with z | ⟨α,β,z⟩
     ·rw[q]at z;cases z
     ·have R:=un.frzs b α _ z;obtain⟨J,_⟩:=p b _ z;obtain⟨S,_⟩:=C b _ R;rw[e]at J;cases J;exact S
 cases hk:Ybe with
 | some o =>
  have e:=KX a o hk;rw[ha]at e;cases e;refine i (Y7G) (λ_=>Y3t) (.inr ⟨_,vs.toArray,_,hk,rfl,rfl,rfl,by rw[bF,A];exact hl,by simpa using rv⟩) (λb u z=>by have B:(none:Option HO)=Yo:=z;cases B) (λb z=>Y7H z) λz=>Y7H z
 | none =>
  refine i (λb=>if b=a then Y8y ({ cls:=.type "list",data:=.seq vs.toArray }) (.lst (Y5o)) else none) (λb=>?_) (.inl (Y2W ({ cls:=.type "list",data:=.seq vs.toArray }) Yt)) (λb u z=>?_) (λb z=>?_) λ_=>hk
  ·by_cases hb:b=a
   ·exact .inr (Y0U _ (if_pos hb))
   ·exact .inl (if_neg hb)
  ·by_cases hb:b=a
   ·have B:=(if_pos hb).symm.trans z;cases B;subst hb;exact⟨ha,by rw[aA];exact hl,vs,_,rv,ha⟩
   ·have B:=(if_neg hb).symm.trans z;cases B
  ·by_cases hb:b=a
   ·exact hb
   ·exact absurd (if_neg hb) z
def ON{l:PySem.W.OpenLaw}{n k:Nat}{q:Program}{loose:Ah}{XP:(Y0H)->Y55}{YP:World->Y55}{d:DefRec}{K:Params->Aa}{CX:World->UH}{sp:World->Sp}{x:Str}
  (hn:l.most=Y6H) (hn2:Y0O n) (hdf:d.params.defaults=[]) (hr:jB k callerA)
  (hY:∀(w:World) (h:Heap),YP w h->(K w.params).In h)
  (F:∀(w:World) (mg:Y0H) (fa:Addr) (h:Heap),(K w.params).In h->YbZ mg->mg d.name=Y3 fa ->
   ∃fd:FuncData,(∀(s:Shared) (u:Value),Ya0 s ⟨[u],[]⟩ [(x,u)]) /\
    ∀base:Heap,(K w.params).In base->Ybz mg->dO l.prog w (Y9G) mg base (CX w) k fa fd [x] (sp w))
  (hsp:∀(w:World) (H:Hp) (a:Addr) (ns:Af),Y66 n->aCl H->Y5J Y9G H a->sp w Y22 H (λv _=>v=Yaa) Y7t)
  (hCX:∀(w:World) (H:Hp) (s:Shared) (e:Value) (s':Shared),CX w [] H s (Y7t) e s'->False) :
  PySem.W.WalkO q loose XP YP l.row.toRowW d [] (YdL f vs):=by
 refine Att.KU hn hdf λw I z mg M fa o N L p a vs ns G Y J hd A m j i c C=>?_;have KX:=hY w _ Y;obtain⟨fd,r,y⟩:=F w mg fa _ KX G.T.g m;exact YF KX G.T.g G.T.b G.T.builtins G.T.nolimit C j i (aJ c hn2) hr y r (λH D B=>hsp w H a ns c D B) λH e s'=>hCX w H z e s'
def VB{l:PySem.W.OpenLaw}{n k:Nat}{q:Program}{loose:Ah}{XP:(Y0H)->Y55}{YP:World->Y55}{d:DefRec}{K:Params->Aa}{CX:UH}{sp:Aa->Sp}{x:Str}
  (hn:l.most=Y6H) (hn2:Y0O n) (hdf:d.params.defaults=[]) (hr:jB k callerA)
  (hY:∀(w:World) (h:Heap),YP w h->(K w.params).In h)
  (F:∀(w:World) (mg:Y0H) (fa:Addr) (h:Heap),(K w.params).In h->YbZ mg->mg d.name=Y3 fa ->
   ∃fd:FuncData,(∀(s:Shared) (u:Value),Ya0 s ⟨[u],[]⟩ [(x,u)]) /\
    ∀base:Heap,(K w.params).In base->Ybz mg->dO l.prog w (Y9G) mg base CX k fa fd [x] (sp (Y9G)))
  (hsp:∀(K:Aa) (H:Hp) (a:Addr) (ns:Af),Y66 n->aCl H->Y5J K H a->sp K Y22 H (λv _=>v=Yaa) Y7t)
  (hCX:∀(H:Hp) (s:Shared) (e:Value) (s':Shared),CX [] H s (Y7t) e s'->False) :
  PySem.W.WalkO q loose XP YP l.row.toRowW d [] (YdL f vs) :=
 ON (K:=K) (CX:=λ_=>CX) (sp:=λw=>sp (Y9G)) hn hn2 hdf hr hY F (λw H a ns g c i=>hsp (Y9G) H a ns g c i) λ_ H s e s'=>hCX H s e s'
end L2
/- THE LAST THEOREM (shape;LID,My.* are yours):
   My.Adr: a structure of the addresses that your layer names (classes,functions);My.Txt K t: a structure (Prop) of the equations over K;
   My.txt_mk:{K} {implicit addresses ..} (e1:nsIn K mainGlobals "law" = some (some (.ref f))) (e2:K.lookup f=some ⟨oc,od,.func (fnOf "law" "law" params body scope dV kV doc pm an cdv ct),sl⟩) (e3:codeIn K cdv "law" = true) .. : ∃t,My.Txt K t
set_option maxRecDepth 100000 in
set_option maxHeartbeats 0 in
theorem PySem.Challenge.cw_LID_holds : PySem.Challenge.rw_LID.Holds := by
  w_on;o_law;k_head;(case hw=>w_witness2)
  k_fill
  refine L2.ON (l:=PySem.Challenge.rw_LID) (n:=63) (k:=40) (x := "script") (CX:=λw=>..) (sp:=λ_=>My.sp_law) rfl Dd rfl ⟨rfl,Dd,Dd⟩ (λw h Y=>PySem.W.kIn_of Y) ?F ?S ?C
  case F =>
    intro w z j h KX G e;have T:∃t,My.Txt (L2.KOf KX) t:=by
      dsimp only[L2.KOf]                          -- K must stand as «<heap const> w.params» for k_is
      refine' My.txt_mk ?e1 ?e2 ?e3 ..
      (case e1=>PySem.W.k_is)                    -- in the order: a name -> its address -> its object -> its parts
      (case e2=>PySem.W.k_is)
      ..
    obtain⟨t,T⟩:=T;have i:=e.symm.trans (PySem.W.mg_of KX G T.law);cases i                                       -- j is the law's own address;exact⟨_,λs u=>.of_eq rfl,λc d g=>My.law_fn T d g⟩     -- if «.of_eq rfl» comes too early: refine' ⟨_,?b,λc d g=>My.law_fn T d g⟩;exact λs u=>.of_eq rfl
  case S=>exact λw H a m y r p=>..
  case C=>exact ..
(the tactic k_is has no namespace: write k_is) -/
namespace L2
open PySem PySem.Spec PyProof.Rows
def AQ(s:Stmt)(j:Nat):Stmt:=match s with
 | .ClassDef _ _ _ body _ _ _ _ _ _ _=>body.getD j (.Pass ⟨0,0,0,0⟩)
 | _=>.Pass ⟨0,0,0,0⟩
def nI(s:Stmt):Arguments:=match s with
 | .FunctionDef _ a _ _ _ _ _ _ _ _=>a
 | _=>{ posonlyargs:=[],args:=[],vararg:=none,kwonlyargs:=[],kw_defaults:=[],kwarg:=none,defaults:=[] }
def kN(s:Stmt):Y5z:=match s with
 | .FunctionDef _ _ b _ _ _ _ _ _ _=>b
 | _=>[]
def bA(s:Stmt):Scope:=match s with
 | .FunctionDef _ _ _ _ _ _ sc _ _ _=>sc
 | _=>{ kind:=.function,names:=[],isGenerator:=false,isCoroutine:=false }
abbrev cV:UH:=λ_ _ _ _ _ _=>False
abbrev E0:XK:=Y7t
def XI{X:Cx}:yX cV X E0:=λ_ _ _ _ _ _ _ h=>h.elim
structure iO(K:Aa)(x qual:Str)(st:Stmt)(f:Addr)(fd:FuncData):Prop where
 ex:∃(oc:Value) (od:Y3v) (kV doc pm:Value) (an:Y3v) (cdv ct:Value) (osl:Y60),
  fd=PySem.W.fnOf x qual (nI st) (kN st) (bA st) .none kV doc pm an cdv ct/\K.lookup f=some (Y82 oc od fd osl)/\Yc3 cdv qual=true
 kp:Y94 K f=true
section
variable{P:Program}{w:World}{K:Aa}{mg:Y0H}{base:Heap}
def iO.ok{x qual:Str}{st:Stmt}{f:Addr}{fd:FuncData}{N ps:Ah}{k:Nat}{sp:Sp}(F:Yb x qual st)(S:Yd N ps st)(len:∀vs H Q E,sp vs H Q E->Y9j)
  (hbody:∀(cdv:Value) (A:Around) (outer:Y3z) (s:Shared) (H:Hp) (vs:Al) (Q:VK) (E:XK),jB k (Y9s qual (bA st) f cdv)->sp vs H Q E ->
   ∃t,NX (KB cV P w K mg base N qual (bA st) f cdv A outer s H E).nox (kN st) t/\t { nx:=λ_ H'=>Q .non H',rt:=Q } (Y8W N) H):dO P w K mg base cV (k+1) f fd ps sp:=by
 obtain⟨n,j,kV,i,m,l,cdv,ct,d,rfl,e,a⟩:=F.ex;refine aGo e a S len λA outer s H vs Q E g c=>?_;obtain⟨t,h,q⟩:=hbody cdv A outer s H vs Q E g c;exact⟨t,h.nox,q⟩
def iO.binds{x qual:Str}{st:Stmt}{f:Addr}{fd:FuncData}{ps:Ah}(F:Yb x qual st)
  (h:∀(kV doc pm:Value) (an:Y3v) (cdv ct:Value) (us:Ag),Y3d ps.length->bindArgs (PySem.W.fnOf x qual (nI st) (kN st) (bA st) .none kV doc pm an cdv ct) ⟨us,[]⟩=pure (Y9N)):uD K fd ps []:=by
 obtain⟨g,d,kV,doc,pm,an,cdv,ct,a,rfl,e,c⟩:=F.ex;exact .all (h kV doc pm an cdv ct)
def vZ{x qual:Str}{st:Stmt}{f:Addr}{oc:Value}{od an:Y3v}{osl:Y60}{kV doc pm cdv ct:Value}(l:K.lookup f=some (Y82 oc od (PySem.W.fnOf x qual (nI st) (kN st) (bA st) .none kV doc pm an cdv ct) osl))
  (c:Yc3 cdv qual=true) (k:Y94 K f=true):iO K x qual st f (PySem.W.fnOf x qual (nI st) (kN st) (bA st) .none kV doc pm an cdv ct):=⟨⟨oc,od,kV,doc,pm,an,cdv,ct,osl,rfl,l,c⟩,k⟩
end
def yB{n:Nat}(h:n<=1000):n < sizeLine:=aK h Dd
section
variable{X:Cx}
def pv(i:Nat){x:Str}{pos:Pos}(hN:Y35=Y7:=by rfl)(hv:Yc2 x:=by first | exact Or.inl rfl | exact Or.inr (Or.inl rfl) | exact Or.inr (Or.inr rfl))(hd:Y1J ("__debug__" : Str):=by decide)
  (hcd:Y1J ("__classdict__" : Str):=by decide):Yn Y7g (VL i):=aEu hN hv hd hcd
end
def nY{A B:Prop}(h:B):if false=true then A else B:=by
 rw[if_neg cE];exact h
def oI{A B:Prop}(h:A):if true=true then A else B:=by
 rw[Yt];exact h
def aGj{c A B:Prop}[Decidable c](h1:c->A)(h2:¬c->B):if c then A else B:=by
 by_cases h:c
 ·rw[Y5C];exact h1 h
 ·rw[Y5D];exact h2 h
def aT(H H':Hp):Prop:=∀b o,H b=Ya->H' b=Ya
def aT.refl(H:Hp):aT H H:=λ_ _ h=>h
def aT.trans{H H1 H2:Hp}(a:aT H H1)(b:aT H1 H2):aT H H2:=λc o h=>b c o (a c o h)
def aT.free{H H':Hp}(e:Y1){l:Addr}(h:H' l=Option.none):H l=Option.none:=by
 cases q:H l with
 | none=>rfl
 | some o =>
  rw[e l o q]at h;cases h
section
variable{κ:Type}[DecidableEq κ]
def gD(kvs:Y3h)(k:κ):Am:=(kvs.find? λkv=>decide (kv.1=k)).map (·.2)
def kA(kvs:Y3h)(k:κ)(v:V):Y3h :=
 if Y8X (λkv=>Y10 kv.1 k) true then Y9u (if kv.1=k then(kv.1,v) else kv) else kvs++[(k,v)]
def jI{p:κ × V}{r:Y3h}{k:κ}(e:p.1=k):gD (p::r) k=some p.2:=by simp[gD,List.find?_cons,e]
def jJ{p:κ × V}{r:Y3h}{k:κ}(e:¬p.1=k):gD (p::r) k=gD r k:=by simp[gD,List.find?_cons,e]
theorem nO(k:κ):∀kvs:List (κ × V),Y8X (λkv=>Y10 kv.1 k) ((Y2m k).isSome)
 | []=>rfl
 | p::r=>by
  rw[List.any_cons];by_cases e:p.1=k
  ·simp only[jI e,cO e,Bool.true_or,Option.isSome_some]
  ·rw[jJ e,bT e,Bool.false_or];exact nO k r
theorem II(k j:κ)(y:V):∀kvs:List (κ × V),gD (Y9u (if kv.1=k then(kv.1,y) else kv)) j=(gD kvs j).map λx=>if j=k then y else x
 | []=>rfl
 | p::r=>by
  have ih:=II k j y r;rw[bE];by_cases h:p.1=k
  ·rw[if_pos h];by_cases e:p.1=j
   ·rw[jI (p:=(p.1,y)) e,jI e,Option.map_some,if_pos (e.symm.trans h)]
   ·rw[jJ (p:=(p.1,y)) e,jJ e,ih]
  ·rw[if_neg h];by_cases e:p.1=j
   ·rw[jI (p:=p) e,jI e,Option.map_some,if_neg (λz=>h (e.trans z))]
   ·rw[jJ (p:=p) e,jJ e,ih]
theorem EF(k j:κ)(y:V):∀kvs:List (κ × V),Y2m k=none->gD (kvs++[(k,y)]) j=if j=k then Y09 else Y2m j
 | [],_=>by
  by_cases e:k=j
  ·rw[if_pos e.symm];exact jI (p:=(k,y)) e
  ·rw[if_neg (λz=>e z.symm)];exact jJ (p:=(k,y)) e
 | p::r,hn=>by
  rw[List.cons_append];have hk:¬p.1=k:=λz=>by rw[jI z]at hn;cases hn
  rw[jJ hk]at hn;have a:=EF k j y r hn;by_cases e:p.1=j
  ·rw[jI e,jI e,if_neg (λz=>hk (e.trans z))]
  ·rw[jJ e,jJ e,a]
def iC(kvs:Y3h)(k j:κ)(y:V):gD (Y4B k y) j=if j=k then Y09 else Y2m j:=by
 unfold kA;by_cases a:Y8X (λd=>Y10 d.1 k) true
 ·rw[if_pos a,II];rw[nO]at a;by_cases e:j=k
  ·obtain⟨x,c⟩:=Option.isSome_iff_exists.mp a;rw[Y1T,e,c,Option.map_some,Yt]
  ·rw[Y0Y];cases Y2m j with
   | none=>rfl
   | some x=>rw[Option.map_some,Y0Y]
 ·rw[if_neg a];refine EF k j y kvs ?_;rw[nO]at a;cases q:Y2m k with
  | none=>rfl
  | some x=>rw[q]at a;exact(a rfl).elim
def fR(kvs:Y3h)(k:κ)(v:V):(Y4B k v).length<=kvs.length+1:=by
 unfold kA;split
 ·rw[aA];exact Oo
 ·rw[aV,cL,List.length_nil];exact Oo
def IZ{kvs:Y3h}{k:κ}(v:V)(h:Y2m k=none):Y4B k v=kvs++[(k,v)]:=by
 unfold kA;rw[nO,h];exact Y2T
def sY.isSome_eq{o:Am}{u:Y5n}(r:sY o u):o.isSome=u.isSome:=by
 cases o with
 | none=>cases u with
  | none=>rfl
  | some _=>exact(show False from r).elim
 | some _=>cases u with
  | none=>exact(show False from r).elim
  | some _=>rfl
theorem sY.getD{o:Am}{u:Y5n}{d:V}{d':Value}(r:sY o u)(rd:fE d d'):fE (o.getD d) (u.getD d'):=by
 cases o with
 | none=>cases u with
  | none=>exact rd
  | some _=>exact(show False from r).elim
 | some _=>cases u with
  | none=>exact(show False from r).elim
  | some _=>exact r
def KV.val{kvs:Y3h}{vs:Y6b κ}(r:KV kvs vs)(k:κ):sY (Y2m k) (valueAt vs k):=by
 unfold KV at r
 induction r with
 | nil=>exact True.intro
 | @cons p q ps qs h t ih =>
  obtain⟨c,d⟩:=h;by_cases e:p.1=k
  ·have a:q.1=k:=c.symm.trans e;have b:valueAt (q::qs) k=some q.2:=by simp[valueAt,List.find?_cons,a]
   rw[jI e,b];exact d
  ·have a:¬q.1=k:=λz=>e (c.trans z);have b:valueAt (q::qs) k=valueAt qs k:=by simp[valueAt,List.find?_cons,a]
   rw[jJ e,b];exact ih
theorem KV.any{kvs:Y3h}{vs:Y6b κ}(r:KV kvs vs)(k:κ):Y8X (λkv=>Y10 kv.1 k) (vs.any λkv=>Y10 kv.1 k):=by
 unfold KV at r
 induction r with
 | nil=>rfl
 | cons h t ih=>rw[List.any_cons,List.any_cons,ih,h.1]
def KV.repl{kvs:Y3h}{vs:Y6b κ}(r:KV kvs vs)(k:κ){y:V}{u:Value}(ry:Y3k) :
  KV (Y9u (if kv.1=k then(kv.1,y) else kv)) (vs.map λkv=>if kv.1=k then(kv.1,u) else kv):=by
 unfold KV at r ⊢
 induction r with
 | nil=>exact .nil
 | @cons p q ps qs h t ih =>
  rw[bE,bE];refine .cons ?_ ih;obtain⟨a,c⟩:=h;by_cases e:p.1=k
  ·rw[Y1T,if_pos (a.symm.trans e)];exact⟨a,ry⟩
  ·rw[Y0Y,Y2t (e (a.trans z))];exact⟨a,c⟩
def KV.put{kvs:Y3h}{vs:Y6b κ}(r:KV kvs vs)(k:κ){y:V}{u:Value}(ry:Y3k):KV (Y4B k y) (stored vs k u):=by
 unfold kA stored;rw[r.any k];by_cases e:(vs.any λa=>Y10 a.1 k)=true
 ·rw[Y1T,Y1T];exact r.repl k ry
 ·rw[Y0Y,Y0Y];exact Paired.snoc r (Y5 ry)
theorem KV.length{kvs:Y3h}{vs:Y6b κ}(r:KV kvs vs):kvs.length=vs.length:=Paired.length r
end
def CI{P:Program}{w:World}{k:fS}{u:Value}(r:fE (kV k) u):(gO P w).is k u=true:=by
 cases k with
 | inl i=>obtain⟨t,e⟩:=(show ∃t,u=Value.int i t from r);subst e;exact JG P w i t
 | inr x=>obtain⟨t,e⟩:=(show ∃t,u=Value.str x t from r);subst e;exact JF P w x t
theorem FA{P:Program}{w:World}:∀{ks:Y59}{us:Ag},Y2C (ks.map kV)->ItemsAre (gO P w) ks us
 | [],_,r=>by rw[List.map_nil]at r;cases r;exact .nil
 | k::ks,_,r=>by
  rw[bE]at r;cases r with
  | cons h t=>exact .cons (CI h) (FA t)
abbrev KT(H:Hp):Y0i Yv (Y90 (Addr × Value)):=Paired λp q=>p.1=q.1/\H q.2.1=Yf (p.1.map kV)/\fE p.2 q.2.2
def KT.val{H:Hp}{kvs:Yv}{xs:Y90 (Addr × Value)}(r:KT H kvs xs)(k:Y59):sY (Y2m k) ((atKey xs k).map (·.2)):=by
 induction r with
 | nil=>exact True.intro
 | @cons p q ps qs h t ih =>
  obtain⟨c,_,d⟩:=h;by_cases e:p.1=k
  ·have a:q.1=k:=c.symm.trans e;have b:atKey (q::qs) k=some q.2:=by simp[atKey,List.find?_cons,a]
   rw[jI e,b];exact d
  ·have a:¬q.1=k:=λz=>e (c.trans z);have b:atKey (q::qs) k=atKey qs k:=by simp[atKey,List.find?_cons,a]
   rw[jJ e,b];exact ih
def KT.repl{H:Hp}{kvs:Yv}{xs:Y90 (Addr × Value)}(r:KT H kvs xs)(k:Y59){y:V}{u:Value}(ry:Y3k) :
  KT H (Y9u (if kv.1=k then(kv.1,y) else kv)) (xs.map (putAt k u)):=by
 induction r with
 | nil=>exact .nil
 | @cons p q ps qs h t ih =>
  rw[bE,bE];refine .cons ?_ ih;obtain⟨a,c,d⟩:=h;unfold putAt;by_cases e:p.1=k
  ·rw[Y1T,if_pos (a.symm.trans e)];exact Y2P c ry
  ·rw[Y0Y,Y2t (e (a.trans z))];exact Y2P c d
def KT.put{H:Hp}{kvs:Yv}{xs:Y90 (Addr × Value)}(r:KT H kvs xs)(k:Y59){b:Addr}{y:V}{u:Value}(hb:H b=Y9B kV)(ry:Y3k) :
  KT H (Y4B k y) (storedH xs k b u):=by
 have e:Y8X (λa=>Y10 a.1 k) ((atKey xs k).isSome):=by
  rw[nO,(r.val k).isSome_eq,Option.isSome_map]
 unfold kA storedH;rw[e];by_cases q:(atKey xs k).isSome=true
 ·rw[Y5B,Y5B];exact r.repl k ry
 ·rw[Y2V,Y2V];exact Paired.snoc r ⟨rfl,hb,ry⟩
def KT.keeps{H H':Hp}{kvs:Yv}{xs:Y90 (Addr × Value)}(r:KT H kvs xs)(ht:∀b ys,H b=Yf ys->H' b=Yf ys):KT H' kvs xs :=
 Paired.mapP r λ_ _ z=>⟨z.1,ht _ _ z.2.1,z.2.2⟩
section
variable{P:Program}{w:World}{H:Hp}{h:Heap}{a:Addr}
def aCA{u:HO}(ok:sZ P w H h)(e:Rd H a u):hV P w H h a u:=e.ok ok
def CZ{kvs:Y2F}(ok:sZ P w H h)(e:Rd H a (.dK kvs)):YaM/\Y6Q a/\∃vs,KV kvs vs/\h.DictOf (gO P w) a vs :=
 show hV P w H h a (.dK kvs)from aCA ok e
def aCK{kvs:Y2F}(ok:sZ P w H h)(e:H a=Y5v kvs):YaM/\Y6Q a/\∃vs,KV kvs vs/\h.DictOf (gO P w) a vs:=CZ ok (.inl e)
def vW{ks:Y59}(ok:sZ P w H h)(e:H a=Yf (ks.map kV)):(tupleKind (gO P w)).is h ks a:=by
 obtain⟨_,c,r,o,g,d,n,i⟩:=(show hV P w H h a (.tup (ks.map kV))from ok a _ e);exact⟨o,c.toArray,n,g,d,i,by simpa using FA r⟩
def CY{kvs:Yv}(ok:sZ P w H h)(e:Rd H a (.dT kvs)):YaM/\Y6Q a /\
  ∃xs,KT H kvs xs/\h.DictOfH (Y9h P w) a xs:=by
 obtain⟨z,y,xs,r,o,s,g,n,j,u,i,d⟩:=(show hV P w H h a (.dT kvs)from aCA ok e);refine⟨z,y,xs,r,o,s,g,n,j,u,i,λx c=>?_,d⟩;have all:∀{l:Yv} {m:Y90 (Addr × Value)},KT H l m->∀x∈m,(tupleKind (gO P w)).is h x.1 x.2.1:=by
  intro l m q
  induction q with
  | nil=>intro x c;exact nomatch c
  | @cons p q ps qs hq t ih =>
   intro x c;rcases bN.mp c with e | c
   ·subst e;exact vW ok (by rw[<-hq.1];exact hq.2.1)
   ·exact ih x c
 exact all r x c
def aCJ{kvs:Yv}(ok:sZ P w H h)(e:H a=Y1q):YaM/\Y6Q a /\
  ∃xs,KT H kvs xs/\h.DictOfH (Y9h P w) a xs:=CY ok (.inl e)
end
def oJ(H:Hp)(a:Addr)(y:V)(r:Am):Prop :=
 (∃kvs k,Rd H a (.dK kvs)/\y=kV k/\r=Y2m k)\/∃kvs k b,Rd H a (.dT kvs)/\y=Y0p/\H b=Y9B kV/\r=Y2m k
def HY(H:Hp)(a:Addr)(y v:V)(H':Hp):Prop :=
 (∃kvs k,H a=Y5v kvs/\y=kV k/\Yc7/\H'=Y3n (.dK (Y4B k v))) \/
 ∃kvs k b,H a=Y1q/\y=Y0p/\H b=Y9B kV/\Yc7/\H'=Y3n (.dT (Y4B k v))
theorem oJ.k{H:Hp}{a:Addr}{kvs:Y2F}{k:fS}(e:H a=Y5v kvs):oJ H a (kV k) (Y2m k):=.inl (Y1h kvs k (.inl e) rfl)
def oJ.t{H:Hp}{a b:Addr}{kvs:Yv}{k:Y59}(e:H a=Y1q)(eb:H b=Y9B kV):oJ H a (Y0p) (Y2m k):=.inr ⟨kvs,k,b,.inl e,rfl,eb,rfl⟩
theorem HY.k{H:Hp}{a:Addr}{kvs:Y2F}{k:fS}{v:V}(e:H a=Y5v kvs)(hl:Yc7):HY H a (kV k) v (Y3n (.dK (Y4B k v))):=.inl (Y6n kvs k e hl rfl)
def HY.t{H:Hp}{a b:Addr}{kvs:Yv}{k:Y59}{v:V}(e:H a=Y1q)(eb:H b=Y9B kV)(hl:Yc7) :
  HY H a (Y0p) v (Y3n (.dT (Y4B k v))):=.inr (Y0F kvs k b e eb hl rfl)
section
variable{X:Cx}{pins:Ad}{σ:St}{H:Hp}{s:Shared}{a:Addr}{y v:V}{u r:Value}{o:Am}{A:Around}{E:Yc}
def cU.big(I:Y4):Y3r sysModules:=by
 have h:Y3r mainGlobals:=(Yde).lt;exact Nat.lt_trans Dd h
def TQ{Q:Yc}(hu:Y6A 1<cLine)(I:Y4)(g:oJ H a y (Ys))(ry:Y3k)(h:∀w' s',Y5p s'->fE v w'->Q w' s') :
  Y7o A (getItem (Yi) u) Q E s:=by
 rcases g with⟨j,k,e,m,l⟩ | ⟨j,k,b,e,m,B,l⟩
 ·subst m;obtain⟨z,hd,D,c,i⟩:=CZ I.hok e;obtain⟨w',n,d⟩:=Ydg (valueAt D k) (by rw[l];exact c.val k);exact wpAny_getItem_of (CI ry) i.mapOf n (h w' _ (Y1W) d)
 ·subst m;cases(show u=Value.ref b from ry);obtain⟨z,hd,G,c,i⟩:=CY I.hok e;obtain⟨w',n,d⟩:=Ydg ((atKey G k).map (·.2)) (by rw[l];exact c.val k);obtain⟨p,C,r⟩:=eI.mp n;refine wpAny_getItem_heap (Ybv) (vW I.hok B) i C ?_;rw[r];exact h w' _ (Y1W) d
def aIE{Q:Yc}(hu:Y6A 1<cLine)(I:Y4)(g:oJ H a y o)(ry:Y3k)(h:∀s',Y5p s'->Q (.bool o.isSome) s') :
  Y7o A (compareOp .In u (Yi)) Q E s:=by
 rcases g with⟨d,k,e,j,l⟩ | ⟨d,k,b,e,j,m,l⟩
 ·subst j;obtain⟨z,hd,n,c,i⟩:=CZ I.hok e;refine wpAny_in_of (CI ry) hd i.mapOf ?_;rw[<-(c.val k).isSome_eq,<-l];exact h _ (Y1W)
 ·subst j;cases(show u=Value.ref b from ry);obtain⟨z,hd,p,c,i⟩:=CY I.hok e;refine wpAny_in_heap (Ybv) (vW I.hok m) hd i ?_;have q:=(c.val k).isSome_eq;rw[Option.isSome_map]at q;rw[<-q,<-l];exact h _ (Y1W)
def AS{h':Heap}{t':Nat}{ob:HO}(I:Y4)(mu:Mut (H a))(hs:Yau a h')(he:∃q,Y7y a (some q))(new:hV X.prog X.w (Y3n ob) h' a ob) :
  Y27 (Y3n ob) ({ s with heap:=h',toks:=t' }) :=
 YdE a a mu (λb q c z=>(hs.2 b c).trans z) he new
def YV{P:Program}{w:World}{H':Hp}{h':Heap}{kvs:Y2F}{vs:Y6b fS}(z:YaM)(hd:Y6Q a)(rel:KV kvs vs)(dd:h'.DictOf (gO P w) a vs) :
  hV P w H' h' a (.dK kvs):=⟨z,hd,vs,rel,dd⟩
def TN{H':Hp}{Q:Unit->Y0M}(hu:Y6A 1<cLine)(I:Y4)(g:HY H a y v H')(ry:Y3k)(rv:fE v r)(h:∀s',Y4M s'->Q () s') :
  Y7o A (setItem (Yi) u r) Q E s:=by
 rcases g with⟨i,k,e,B,l,C⟩ | ⟨i,k,b,e,B,J,l,C⟩
 ·subst B C;obtain⟨z,hd,U,d,p⟩:=aCK I.hok e;have D:Y0O U.length:=by rw[<-d.length];exact z
  have G:Y0O ((kA i k v).length):=by have:=fR i k v;exact Oo
  refine wpAny_setItem_pairs (hsz:=D) (CI ry) p λM j n=>h _ ?_;have T:∃q,M.get? a=some q:=let ⟨q,_,_,m,_⟩:=j;⟨q,m⟩;exact AS I (by rw[e];exact True.intro) n T (YV G hd (d.put k rv) j)
 ·subst B C;cases(show u=Value.ref b from ry);obtain⟨z,hd,Y,d,p⟩:=aCJ I.hok e;have D:Y0O Y.length:=by rw[<-Paired.length d];exact z
  have G:Y0O ((kA i k v).length):=by have:=fR i k v;exact Oo
  refine wpAny_setItem_heap (hsz:=D) (Ybv) (vW I.hok J) p λM j n=>h _ ?_;obtain⟨q,S,O,m,R,W,P,_,N⟩:=j;refine AS I (by rw[e];exact True.intro) n ⟨q,m⟩ ⟨G,hd,_,(d.put k J rv).keeps λc Z L=>?_,q,S,O,m,R,W,P,N⟩;rw[eO (sW L e (λz=>nomatch z))];exact L
end
section
variable{X:Cx}{pins:Ad}{σ:St}{H:Hp}{s:Shared}{a:Addr}{kvs:Y2F}{k:fS}{u:Value}{A:Around}{E:Yc}
end
def aFo(i:Expr):Prop:=∀ov iv,Yc4 i ov iv=operate [ov,iv] (getItem ov iv)
def aAK{prog:Program}{w:World}{A:Around}{E:Yc}{s:Shared}{env:Env}{value slice:Expr}{pos:Pos}{T id:String}{Q:Yc}
  (hl:typeLookup (.type T) "__getitem__" = pure (Y6O id)) (hs:aFo slice)
  (h:wpAny (model prog w) A (Y1U value) (λo s₁=>wpAny (model prog w) A (Y1U slice) (λi s₂=>s₂.TypeIs o T/\wpAny (model prog w) A (getItem o i) Q E s₂) E s₁) E s) :
  Y21 (Y1U (Y7v value slice)):=by
 refine Subscript_ (YbL h (λo s₁ j=>YbL j (λi s₂ c=>?_) x) x);obtain⟨d,c⟩:=c;unfold subscriptTail;refine Y4W;rw[getitemInPython_of_ne d.not_modules];refine wpAny_bind (wpAny_specialOf d hl ?_);have a:wpAny (model prog w) A (Yc4 slice o i) (λr e=>wpAny (model prog w) A (letTemporaryGo value o r >>= λ_=>pure r) Q E e) E s₂:=by
  rw[hs o i];exact wpAny_operating (YbL c (λr e g=>wpAny_bind (wpAny_letTemporaryGo (wpAny_pure g))) x)
 first
  | exact wpAny_pure (wpAny_bind a)
  | exact Y3Y (wpAny_bind a)
  | exact wpAny_bind a
def JY{X:Cx}{pins:Ad}{σ:St}{H:Hp}{s:Shared}{a:Addr}{y:V}{o:Am}(I:Y4)(g:oJ H a y o):s.TypeIs (Yi) "dict" := by
 rcases g with⟨c,k,e,_,_⟩ | ⟨c,k,b,e,_,_,_⟩
 ·obtain⟨_,_,h,_,d⟩:=CZ I.hok e;exact d.typeIs
 ·obtain⟨_,_,i,_,d⟩:=CY I.hok e;exact d.typeIs
def aFP(td ty:TE):TE:=λσ H Q=>td σ H λx H1=>ty σ H1 λy H2=>∃a v,x=Yi/\oJ H2 a y (Ys)/\Q v H2
def aFU(td ty tv:TE):TS:=λD σ H=>tv σ H λv H1=>td σ H1 λx H2=>ty σ H2 λy H3=>∃a H4,x=Yi/\HY H3 a y v H4/\Y8j H4
section
variable{X:Cx}{o i e value:Expr}{pos pos' tpos:Pos}{td ty tv:TE}
def aBm(hu:Y4v 1<cLine)(ho:Yn o td)(hi:Yn i ty)(hs:aFo i):Yn (Y7v o i) (aFP td ty):=by
 intro c s σ H Q I h;refine aAK PySem.F.slot_dict_getitem.lookup hs (thn (ho c s σ H _ I h) λu p ⟨x,H1,I1,j,n⟩=>thn (hi c p σ H1 _ I1 n) λr z ⟨y,H2,I2,e,a,v,l,g,m⟩=>?_);subst l;obtain rfl:u=Y7z:=j;exact⟨JY I2 g,TQ hu I2 g e λw B I3 d=>⟨v,H2,I3,d,m⟩⟩
def aBd(hu:Y4v 1<cLine)(ho:Yn o td)(hi:Yn i ty)(hv:Yn value tv)(hs:Y8F value (Ycb o i)=Y4s) :
  PS X (Y63 [Ycb o i] value) (aFU td ty tv):=by
 intro c s σ H D I h;refine wpAny_Assign_Subscript (thn (hv c s σ H _ I h) λr w ⟨v,H1,I1,rv,n⟩=>thn (ho c w σ H1 _ I1 n) λu p ⟨x,H2,I2,e,m⟩=>thn (hi c p σ H2 _ I2 m) λz C ⟨y,H3,I3,d,a,H4,j,g,l⟩=>?_) hs;subst j;obtain rfl:u=Y7z:=e;exact TN hu I3 g d rv λB I4=>⟨σ,H4,I4,l⟩
end
def YW{P:Program}{w:World}{H:Hp}(h:Heap)(hb:sysModules<h.objs.size):hV P w H (h.push { cls:=.type "dict",data:=.dict #[] }) h.objs.size (.dK []) :=
 ⟨Y0x,beq_eq_false_iff_ne.mpr (Ne.symm (dJ hb)),[],.nil,Heap.DictOf.new h⟩
def JW{P:Program}{w:World}{H:Hp}(h:Heap)(hb:sysModules<h.objs.size):hV P w H (h.push { cls:=.type "dict",data:=.dict #[] }) h.objs.size (.dT []) :=
 ⟨Y0x,beq_eq_false_iff_ne.mpr (Ne.symm (dJ hb)),[],.nil,_,#[],0,Y0Q,Y00 rfl rfl,rfl,rfl,List.nodup_nil⟩
def VN:TE:=λ_ H Q=>∀p,H p=none->Y0N p (Y46 p (.dT []))
section
variable{X:Cx}{pos:Pos}
def pe_dnewT:Yn (.Dict [] [] pos) VN:=λc s σ H Q I h =>
 wpAny_Dict_empty (Y4f Y0I (I.laid (a:=s.heap.objs.size) (o:=.dT []) (t':=s.toks) (Yco q) (Yp) (JW s.heap I.big)) (h _ (Y32)))
end
def LZ:Y3X TE TE->St->Y0i Hp (Y1I (Y3X V V))
 | [],_,H,Q=>Q [] H
 | (tk,tv)::r,σ,H,Q=>tk σ H λx H1=>tv σ H1 λy H2=>LZ r σ H2 λps H3=>Q ((x,y)::ps) H3
abbrev VV:Y0i (Y3X V V) (Y6b Value):=Paired λp q=>fE p.1 q.1/\fE p.2 q.2
def PPs(X:Cx)(pos:Pos)(keys:Y8l Expr)(values:Y0j)(trs:Y3X TE TE):Prop :=
 ∀(pins:Ad) (s:Shared) (σ:St) (H:Hp) (Q:Y1I (Y3X V V)),Y4->LZ trs σ H Q ->
  Y4G (evalPairs (pairTrees keys values X.env pos)) (λvs s'=>∃ps H',Y4M s'/\VV ps vs/\Q ps H')
def pps_nil{X:Cx}{pos:Pos}:PPs X pos [] [] []:=λa s σ H Q I h=>pairTrees_nil_walk ⟨[],H,I,.nil,h⟩
def WY{X:Cx}{pos:Pos}{k v:Expr}{ks:Y8l Expr}{vs:Y0j}{tk tv:TE}{trs:Y3X TE TE}(hk:Yn k tk)(hv:Yn v tv)(hr:PPs X pos ks vs trs) :
  PPs X pos (some k::ks) (v::vs) ((tk,tv)::trs):=λa s σ H Q I h =>
 pairTrees_cons_walk (thn (hk a s σ H _ I h) λu g ⟨x,H1,I1,e,m⟩=>thn (hv a g σ H1 _ I1 m) λp n ⟨y,H2,I2,d,l⟩ =>
  thn (hr a n σ H2 _ I2 l) λr w ⟨j,H3,I3,c,i⟩=>⟨(x,y)::j,H3,I3,.cons ⟨e,d⟩ c,i⟩)
def BX(kvs more:Y2F):Y2F:=more.foldl (λacc kv=>kA acc kv.1 kv.2) kvs
def KV.merge:∀{more:Y2F}{rs:Y6b fS}{kvs:Y2F}{vs:Y6b fS},KV more rs->KV kvs vs->KV (BX kvs more) (merged vs rs):=by
 intro more rs kvs vs r;unfold KV at r
 induction r generalizing kvs vs with
 | nil=>intro q;exact q
 | @cons p q ps qs h t ih =>
  intro a;have e:KV (Y4B p.1 p.2) (stored vs q.1 q.2):=by
   have:=a.put p.1 h.2;rw[<-h.1];exact this
  exact ih e
theorem vJ:∀(more kvs:Y2F),(BX kvs more).length<=kvs.length+more.length
 | [],kvs=>by show kvs.length<=kvs.length+0;exact Oo
 | p::r,kvs=>by
  have h1:=vJ r (kA kvs p.1 p.2);have a:=fR kvs p.1 p.2;show(BX (kA kvs p.1 p.2) r).length<=_;rw[cL];exact Oo
theorem DH{P:Program}{w:World}:∀{kvs:Y2F}{ws:Y6b Value},VV (Y9u (kV kv.1,kv.2)) ws->∃rs,Carries (gO P w) ws rs/\KV kvs rs
 | [],_,r=>by rw[List.map_nil]at r;cases r;exact⟨[],True.intro,.nil⟩
 | p::kvs,_,r=>by
  rw[bE]at r;cases r with
  | @cons a b as bs h t =>
   obtain⟨rs,c,q⟩:=DH (P:=P) (w:=w) t;obtain⟨d,b2⟩:=b;exact⟨(p.1,b2)::rs,⟨CI h.1,rfl,c⟩,.cons ⟨rfl,h.2⟩ q⟩
def aCx(trs:Y3X TE TE):TE:=λσ H Q=>∀p,H p=none->LZ trs σ (Y46 p (.dK [])) λps H2=>H2 p=Y5v []/\∃kvs:List (fS × V),ps=Y9u (kV kv.1,kv.2)/\Y6Y 15/\Y0N p (upd H2 p (.dK (BX [] kvs)))
def aBl{X:Cx}{pos:Pos}{keys:Y8l Expr}{values:Y0j}{trs:Y3X TE TE}(h:PPs X pos keys values trs)(hall:keys.all (·.isSome)=true)(hl:keys.length=values.length)(h0:keys≠[])
  (h15:keys.length<=15):Yn (.Dict keys values pos) (aCx trs):=by
 intro i s σ H Q I q;have A:=Ydo;have I1:=Ye1 (.dK []) (s.heap.push { cls:=.type "dict",data:=.dict #[] }) s.toks (Yco q) Yp (YW s.heap I.big);refine wpAny_Dict_walk (knd:=gO X.prog X.w) hall hl h0 h15 (thn (h i _ σ _ _ I1 (q _ A)) λM N ⟨L,H2,I2,j,e,g,r,J,B⟩=>?_);subst r;obtain⟨n,c,C⟩:=DH (P:=X.prog) (w:=X.w) j;obtain⟨z,hd,l,G,p⟩:=aCK I2.hok e;cases G;refine⟨n,c,p,λh' d m=>Y4f Y0I ?_ B⟩;have u:Y0O ((BX [] g).length):=by
  have y:=vJ g [];rw[List.length_nil]at y;rw[sizeLine_eq];exact Oo
 have D:∃q,Ydy (some q):=let ⟨q,_,_,hq,_⟩:=d;⟨q,hq⟩;exact AS I2 (by rw[e];exact True.intro) m D (YV u hd (C.merge .nil) d)
structure M1(X:Cx)(o:Expr)(m:Str)(apos:Pos)(e:Expr)(cpos:Pos):Prop where
 base:Y8h o m (Y0a o)=Y0a o
 few:((backTo cpos (starEach [e] X.env)).all (λx=>! x.1)&&(backToKw cpos (keywordEach [] X.env)).all (λx=>x.1.isSome)
  && Y1E (([e]:List Expr).length+([]:List Keyword).length+(if([]:List Keyword).isEmpty then 0 else 1)) 30)=true
 line:(Y9k)=true
 trees:backTo cpos (Y38 e)=[(false,Y1l)]
structure M2(X:Cx)(o:Expr)(m:Str)(apos:Pos)(e f:Expr)(cpos:Pos):Prop where
 base:Y8h o m (Y0a o)=Y0a o
 few:((backTo cpos (starEach [e,f] X.env)).all (λx=>! x.1)&&(backToKw cpos (keywordEach [] X.env)).all (λx=>x.1.isSome)
  && Y1E (([e,f]:List Expr).length+([]:List Keyword).length+(if([]:List Keyword).isEmpty then 0 else 1)) 30)=true
 line:(Y9k)=true
 trees:backTo cpos (Y26 [e,f])=[(false,Y1l),(false,Y0a f)]
def IsD(H:Hp)(a:Addr):Prop:=(∃kvs,Rd H a (.dK kvs))\/∃kvs,Rd H a (.dT kvs)
def YG{X:Cx}{pins:Ad}{σ:St}{H:Hp}{s:Shared}{a:Addr}(I:Y4)(d:IsD H a) :
  s.TypeIs (Yi) "dict" /\ (∀b,Y7z=Y0p->∃ob,Y1V b ob/\ob.dict=none)/\Y6Q a:=by
 rcases d with⟨h,e⟩ | ⟨h,e⟩
 ·obtain⟨_,hd,j,_,c⟩:=CZ I.hok e;refine⟨c.typeIs,λb q=>?_,hd⟩;cases q;obtain⟨ob,_,_,i,g,_⟩:=c;exact⟨ob,i,g.2.1⟩
 ·obtain⟨_,hd,l,_,c⟩:=CY I.hok e;refine⟨c.typeIs,λb q=>?_,hd⟩;cases q;obtain⟨ob,_,_,i,g,_⟩:=c;exact⟨ob,i,g.2.1⟩
section
variable{X:Cx}{pins:Ad}{σ:St}{H:Hp}{s:Shared}{a:Addr}{y d:V}{u r:Value}{o:Am}{A:Around}{E:Yc}
def aE8{Q:Yc}(hu:Y6A 1<cLine)(I:Y4)(g:oJ H a y o)(ry:Y3k)(h:∀w' s',Y5p s'->fE (o.getD .non) w'->Q w' s') :
  Y7o A (YaC "dict.get" [Yi,u]) Q E s:=by
 rcases g with⟨i,k,e,j,l⟩ | ⟨i,k,b,e,j,n,l⟩
 ·subst j;obtain⟨z,hd,p,c,d⟩:=CZ I.hok e;refine YcW d.typeIs (PySem.F.args_dict_get_2 _ _) (meets_dict_get (gO X.prog X.w) a (CI ry) hd) (Y0U d.mapOf (h _ _ (Y1W) ?_));rw[l];exact(c.val k).getD rfl
 ·subst j;cases(show u=Value.ref b from ry);obtain⟨z,hd,m,c,d⟩:=CY I.hok e;refine YcW d.typeIs (PySem.F.args_dict_get_2 _ _) (meetsH_dict_get (Y9h X.prog X.w) a b hd) ⟨Ybv,k,m,vW I.hok n,d,h _ _ (Y1W) ?_⟩;rw[l];exact(c.val k).getD rfl
def aE7{Q:Yc}(hu:Y6A 1<cLine)(I:Y4)(g:oJ H a y o)(ry:Y3k)(rd:fE d r)(h:∀w' s',Y5p s'->fE (o.getD d) w'->Q w' s') :
  Y7o A (YaC "dict.get" [Yi,u,r]) Q E s:=by
 rcases g with⟨j,k,e,m,l⟩ | ⟨j,k,b,e,m,p,l⟩
 ·subst m;obtain⟨z,hd,B,c,i⟩:=CZ I.hok e;refine YcW i.typeIs (PySem.F.args_dict_get_3 _ _ _) (meets_dict_get_default (gO X.prog X.w) a (CI ry) hd r) (Y0U i.mapOf (h _ _ (Y1W) ?_));rw[l];exact(c.val k).getD rd
 ·subst m;cases(show u=Value.ref b from ry);obtain⟨z,hd,n,c,i⟩:=CY I.hok e;refine YcW i.typeIs (PySem.F.args_dict_get_3 _ _ _) (meetsH_dict_get_default (Y9h X.prog X.w) a b hd r) ⟨Ybv,k,n,vW I.hok p,i,h _ _ (Y1W) ?_⟩;rw[l];exact(c.val k).getD rd
end
def VP(td ty:TE):TE:=λσ H Q=>td σ H λx H1=>∃a,x=Yi/\IsD H1 a/\ty σ H1 λy H2=>∃o,oJ H2 a y o/\Q (o.getD .non) H2
def VO(td ty tx:TE):TE:=λσ H Q=>td σ H λx H1=>∃a,x=Yi/\IsD H1 a/\ty σ H1 λy H2=>tx σ H2 λz H3=>∃o,oJ H3 a y o/\Q (o.getD z) H3
section
variable{X:Cx}{o e f:Expr}{apos cpos:Pos}{td ty tx:TE}
def XF(hu:Y4v 1<cLine)(ho:Yn o td)(he:Yn e ty)(m:M1 X o "get" apos e cpos):Yn (Y9M "get" [e] [] cpos) (VP td ty):=by
 intro c s σ H Q I h;refine wpAny_Call_method m.base m.few m.line PySem.F.plainAttrs_dict PySem.F.slot_dict_get PySem.F.type_dict_get (thn (ho c s σ H _ I h) λu B ⟨x,H1,I1,l,a,n,d,z⟩=>?_);subst n;obtain rfl:u=Y7z:=l;obtain⟨p,r,_⟩:=YG I1 d;refine Y0b p r;rw[m.trees];refine Calls.callWith_builtin rfl (Calls.evalArgs_plain (Yd7 (he c B σ H1 _ I1 z) (λC J ⟨y,H2,I2,j,G,g,w⟩=>Calls.spliced_nil ?_)));exact aE8 hu I2 g j λD L I3 i=>⟨_,H2,I3,i,w⟩
def XE(hu:Y4v 1<cLine)(ho:Yn o td)(he:Yn e ty)(hf:Yn f tx)(m:M2 X o "get" apos e f cpos):Yn (Y9M "get" [e,f] [] cpos) (VO td ty tx):=by
 intro c s σ H Q I h;refine wpAny_Call_method m.base m.few m.line PySem.F.plainAttrs_dict PySem.F.slot_dict_get PySem.F.type_dict_get (thn (ho c s σ H _ I h) λu J ⟨x,H1,I1,l,a,n,d,D⟩=>?_);subst n;obtain rfl:u=Y7z:=l;obtain⟨p,B,_⟩:=YG I1 d;refine Y0b p B;rw[m.trees];refine Calls.callWith_builtin rfl (Calls.evalArgs_plain (Calls.spliced_cons (thn (he c J σ H1 _ I1 D) λL G ⟨y,H2,I2,j,C⟩ =>
  Yd7 (hf c G σ H2 _ I2 C) (λO R ⟨z,H3,I3,w,N,g,r⟩=>Calls.spliced_nil ?_))))
 exact aE7 hu I3 g j w λM P I4 i=>⟨_,H3,I4,i,r⟩
end
section
variable{X:Cx}{pins:Ad}{σ:St}{H:Hp}{s:Shared}{a:Addr}{kvs:Y2F}{A:Around}{E:Yc}
end
section
variable{X:Cx}{pins:Ad}{σ:St}{H:Hp}{s:Shared}{a:Addr}{y:V}{u:Value}{A:Around}{E:Yc}
end
section
variable{κ:Type}[DecidableEq κ]
def VC{kvs:Y3h}{k:κ}(h:Y2m k=none):¬k∈kvs.map (·.1):=by
 intro m;obtain⟨p,a,e⟩:=aN.mp m;have q:Y8X (λc=>Y10 c.1 k) true:=List.any_eq_true.mpr ⟨p,a,cO e⟩;rw[nO,h]at q;exact absurd q (by simp)
def GA{kvs:Y3h}{k:κ}{v:V}(h:Y2m k=Ys):k∈kvs.map (·.1):=by
 have q:Y8X (λc=>Y10 c.1 k) true:=by
  rw[nO,h]
  all_goals rfl
 obtain⟨p,a,e⟩:=List.any_eq_true.mp q;exact aN.mpr ⟨p,a,of_decide_eq_true e⟩
end
abbrev bits(i:Int):Nat:=Builtin.Int.intBits i
def aAk(i j:Int):Prop:=0<j/\bits j<=9000
def JM{j:Int}{n:Nat}(h:bits j<=n)(hn:0<n):j.natAbs.log2<n:=by
 unfold bits Builtin.Int.intBits at h;by_cases hj:(j == 0)=true
 ·have:j=0:=by simpa using hj
  subst this;exact aK (by decide +kernel:(0:Int).natAbs.log2<=0) hn
 ·rw[if_neg hj]at h;exact Oo
section
variable{X:Cx}
def gE:Y4X X .FloorDiv (rI aAk (Y8q (i/j))):=opI λi j _ _ _ _ _ a q=>by
 refine floordiv_int (by have:=a.1;exact Oo) ?_ (.inl (PyProof.noPylong_of_log2 (JM a.2 Dd)));rw[Int.fdiv_eq_ediv_of_nonneg i (by have:=a.1;exact Oo)];exact q
def dN:Y4X X .Mult (rI IntMulOk (Y8q (i*j))):=opI λ_ _ _ _ _ _ _ a q=>mul_int q a
end
mutual
def dI(H:Hp):Y0i PyData V
 | .none,v=>v=.non
 | .bool b,v=>v=.bl b
 | .int i,v=>v=.int i
 | .str x,v=>v=.str x
 | .list ds,v=>∃a xs,v=.ref a/\H a=some (.lst xs)/\bI H ds xs
 | .tuple ds,v=>∃a xs,v=.ref a/\H a=some (.tup xs)/\bI H ds xs
 | .dict kvs,v=>kvs=[]/\∃a,v=.ref a/\H a=some (.dK [])
def bI(H:Hp):Y0i Y1p Al
 | [],vs=>vs=[]
 | d::ds,vs=>∃x xs,vs=x::xs/\dI H d x/\bI H ds xs
end
mutual
theorem dI.same{H H':Hp}(e:Y1):∀{d:PyData}{v:V},dI H d v->dI H' d v
 | .none,_,h=>h
 | .bool _,_,h=>h
 | .int _,_,h=>h
 | .str _,_,h=>h
 | .list ds,_,h=>by
  unfold dI at h ⊢;obtain⟨a,xs,rfl,h1,h2⟩:=h;exact⟨a,xs,rfl,e _ _ h1,bI.same e h2⟩
 | .tuple ds,_,h=>by
  unfold dI at h ⊢;obtain⟨a,xs,rfl,h1,h2⟩:=h;exact⟨a,xs,rfl,e _ _ h1,bI.same e h2⟩
 | .dict kvs,_,h=>by
  unfold dI at h ⊢;obtain⟨c,a,rfl,h1⟩:=h;exact⟨c,a,rfl,e _ _ h1⟩
theorem bI.same{H H':Hp}(e:Y1):∀{ds:Y1p}{vs:Al},Y6J->bI H' ds vs
 | [],_,h=>h
 | d::ds,_,h=>by
  unfold bI at h ⊢;obtain⟨x,xs,rfl,h1,h2⟩:=h;exact⟨x,xs,rfl,dI.same e h1,bI.same e h2⟩
end
theorem dI.tup{H:Hp}{a:Addr}{xs:Al}{ds:Y1p}(h:H a=Y1d)(r:Y8C xs):dI H (.tuple ds) (Yi):=by
 unfold dI;exact Y0h a xs h r
theorem dI.lst{H:Hp}{a:Addr}{xs:Al}{ds:Y1p}(h:H a=Y0P)(r:Y8C xs):dI H (.list ds) (Yi):=by
 unfold dI;exact Y0h a xs h r
theorem dI.int{H:Hp}(i:Int):dI H (Y1w) (Y1w):=by unfold dI;rfl
theorem dI.str{H:Hp}(i:Str):dI H (.str i) (.str i):=by unfold dI;rfl
def bI.nil{H:Hp}:Y1f [] []:=by unfold bI;rfl
def bI.cons{H:Hp}{d:PyData}{ds:Y1p}{x:V}{xs:Al}(h:dI H d x)(hs:Y8C xs):Y1f (d::ds) (x::xs):=by
 unfold bI;exact Y0h x xs h hs
section
variable{X:Cx}{pins:Ad}{σ:St}{H:Hp}{s:Shared}
mutual
theorem dI.reads(I:Y4):∀{d:PyData}{v:V}{u:Value},dI H d v->Y3S->∃as,Reads s.heap u d as
 | .none,_,u,h,r=>by
  cases(show _=V.non from h);cases(show u=Value.none from r);exact⟨_,.none⟩
 | .bool b,_,u,h,r=>by
  cases(show _=V.bl b from h);cases(show u=Value.bool b from r);exact⟨_,.bool b⟩
 | .int b,_,u,h,r=>by
  cases(show _=V.int b from h);obtain⟨t,q⟩:=(show ∃t,u=Value.int b t from r);cases q;exact⟨_,.int b t⟩
 | .str b,_,u,h,r=>by
  cases(show _=V.str b from h);obtain⟨t,q⟩:=(show ∃t,u=Value.str b t from r);cases q;exact⟨_,.str b t⟩
 | .list ds,v,u,h,r=>by
  unfold dI at h;obtain⟨a,m,rfl,c,j⟩:=h;cases(show u=Value.ref a from r);obtain⟨_,l,n,i,e⟩:=(show hV X.prog X.w H s.heap a (.lst m)from I.hok a _ c);obtain⟨as,q⟩:=bI.reads I j i;exact⟨_,.list e rfl rfl (by simpa using q)⟩
 | .tuple ds,v,u,h,r=>by
  unfold dI at h;obtain⟨a,m,rfl,c,j⟩:=h;cases(show u=Value.ref a from r);obtain⟨_,l,i,o,e,C,n,hd⟩:=(show hV X.prog X.w H s.heap a (.tup m)from I.hok a _ c);obtain⟨as,q⟩:=bI.reads I j i;exact⟨_,.tuple e C hd (by simpa using q)⟩
 | .dict kvs,v,u,h,r=>by
  unfold dI at h;obtain⟨rfl,a,rfl,c⟩:=h;cases(show u=Value.ref a from r);obtain⟨_,_,G,A,o,p,D,e,B,hd,_,g,_⟩:=(show hV X.prog X.w H s.heap a (.dK [])from I.hok a _ c);cases A;have z:p.toList=[]:=by
   cases q:p.toList with
   | nil=>rfl
   | cons y ys=>rw[q]at g;cases g
  exact⟨_,.dict e B.1 hd (by rw[z];exact .nil) (by rw[z];exact .nil)⟩
theorem bI.reads(I:Y4):∀{ds:Y1p}{vs:Al}{us:Ag},Y6J->Y2C vs->∃as,ReadsAll s.heap us ds as
 | [],_,us,h,r=>by
  cases(show _=[]from h);cases r;exact⟨_,.nil⟩
 | d::ds,_,us,h,r=>by
  unfold bI at h;obtain⟨x,xs,rfl,h1,h2⟩:=h;cases r with
  | cons r1 r2 =>
   obtain⟨as,a⟩:=dI.reads I h1 r1;obtain⟨bs,c⟩:=bI.reads I h2 r2;exact⟨_,.cons a c⟩
end
end
section
variable{X:Cx}
end
section
variable{X:Cx}
end
structure fI(CX:UH)(P:Program)(w:World)(K:Aa)(mg:Y0H)(base:Heap)(k:Nat)(x:Str)(ps:Ah)(sp:Sp):Prop where
 ex:∃(f:Addr) (fd:FuncData),dO P w K mg base CX k f fd ps sp/\mg x=Y3 f/\Y94 K f=true/\uD K fd ps []
section
variable{X:Cx}{k:Nat}{ps:Ah}{sp:Sp}{x:Str}{p pos:Pos}{e:Expr}{es:Y0j}{t:TA}
def aGb(F:fI cV X.prog X.w X.K X.mg X.base k x ps sp)(hr:Y4K k)(ha:PA X (e::es) t)(hg:Gl X x:=by rfl)
  (hdb:Y1J ("__debug__" : Str):=by decide) (he:Y3R=(false,Y1l)::Y30:=by rfl) (hpl:Yx ((backTo pos (starEach es X.env)).any (·.1)):=by rfl) :
  Yn (.Call (.Name x p) (e::es) [] pos) (yY sp [] E0 t):=by
 obtain⟨f,h,c,a,d,g⟩:=F.ex;exact aBp c hr hg a d g .nil XI ha hdb he hpl
end
section
variable{K:Aa}{H:Hp}{p:Addr}{xs:Al}{i:Int}{v:V}{Q:VK}
def xS(h:H p=Y0P)(e:DX xs i=Ys)(q:Q v H):rIx K (Y0Z) (Y1w) H Q:=.inl ⟨p,xs,i,v,rfl,rfl,gH.of h,e,q⟩
def lG(h:H p=Y1d)(e:DX xs i=Ys)(q:Q v H):rIx K (Y0Z) (Y1w) H Q:=Y8w ⟨p,xs,i,v,rfl,rfl,jA.of h,e,q⟩
def stL{u:V}{Q:Y5q}{j:Nat}(h:H p=Y0P)(e:YaX i=Y5P)(q:Q (Y3a p (xs.set j u))):PD (Y0Z) (Y1w) u H Q:=⟨p,xs,i,j,rfl,rfl,h,e,q⟩
end
def kH(p:Addr)(H:Hp):Hp:=λb=>if b=p then none else H b
def kH.at{p b:Addr}{H:Hp}(h:b≠p):kH p H b=H b:=by unfold kH;rw[Y5D]
def kH.self{p:Addr}{H:Hp}:kH p H p=none:=by unfold kH;rw[Yt]
def kH.same{p:Addr}{H:Hp}:aT (kH p H) H:=λb o h=>by
 unfold kH at h;by_cases e:b=p
 ·rw[Y1T]at h;cases h
 ·rw[Y0Y]at h;exact h
def kH.ne{p b:Addr}{H:Hp}{o:HO}(h:kH p H b=Ya):b≠p:=λe=>by
 subst e;rw[kH.self]at h;cases h
def kH.of{p b:Addr}{H:Hp}{o:HO}(n:b≠p)(h:H b=Ya):kH p H b=Ya:=by rw[kH.at n];exact h
def kH.upd_self{p:Addr}{H:Hp}{o:HO}:kH p (Y46 p o)=kH p H:=by
 funext b
 by_cases e:b=p
 ·subst e;rw[kH.self,kH.self]
 ·rw[kH.at e,kH.at e,L2.eO e]
abbrev aU(p:Addr)(H H':Hp):Prop:=aT (kH p H) (kH p H')
def aT.but{p:Addr}{H H':Hp}(h:Y1):Y1e:=λb o e=>by
 have n:=kH.ne e;exact kH.of n (h _ _ (kH.same _ _ e))
theorem aT.upd{H:Hp}{q:Addr}{o:HO}(h:H q=none):aT H (Y46 q o):=λb u e=>by
 rw[L2.eO (dR e h)];exact e
def aU.self{p:Addr}{H:Hp}{o:HO}:aU p H (Y46 p o):=by unfold aU;rw[kH.upd_self];exact Y08
def aU.free{p q:Addr}{H H':Hp}(e:Y1e)(hp:∃o,H' p=Ya)(h:H' q=none):H q=none:=by
 cases k:H q with
 | none=>rfl
 | some o =>
  by_cases n:q=p
  ·subst n;obtain⟨c,a⟩:=hp;rw[a]at h;cases h
  ·have:=kH.same _ _ (e q o (kH.of n k));rw[this]at h;cases h
section
variable{K:Aa}{H:Hp}{p:Addr}{xs:Al}{i:Int}{v:V}{Q:VK}
def stG{u:V}{Q:Y5q}{j:Nat}(h:H p=Y0P)(e:YaX i=Y5P)(k:∀H',H' p=Yl (xs.set j u)->Y1e->Q H'):PD (Y0Z) (Y1w) u H Q :=
 stL h e (k _ bK aU.self)
def alT{Q:Y1I V}(hz:Y5r)(k:∀q H',H q=none->H' q=Y1d->Y1->Y0u q):Y5r/\∀p,H p=none->Y0N p (Y7L p xs) :=
 ⟨hz,λq a=>k q _ a bK (aT.upd a)⟩
def alL{Q:Y1I V}(hz:Y5r)(k:∀q H',H q=none->H' q=Y0P->Y1->Y0u q):Y5r/\∀p,H p=none->Y0N p (Y3a p xs) :=
 ⟨hz,λq a=>k q _ a bK (aT.upd a)⟩
def aU.at{p b:Addr}{H H':Hp}{o:HO}(s:Y1e)(n:b≠p)(h:H b=Ya):H' b=Ya:=kH.same _ _ (s _ _ (kH.of n h))
end
def uR{n:Nat}(h:n<=64):Y0O n:=Y3l h
def CK{c A B:Prop}[Decidable c](h1:c->A)(h2:¬c->B):if decide c=true then A else B :=
 aGj (λh=>h1 (of_decide_eq_true h)) (λh=>h2 (λk=>h (cO k)))
def aGi{c A B:Prop}[Decidable c](h1:¬c->A)(h2:c->B):if(! decide c)=true then A else B :=
 aGj (λh=>h1 (λk=>by rw[cO k]at h;exact Y6g h)) (λh=>h2 (Decidable.of_not_not λk=>h (by rw[bT k];rfl)))
def vH(c:TT):TT:=λσ H Q=>∃Q':Bool->Hp->Prop,c σ H Q'/\∀b H1,Q' b H1->Q b H1
def PT.mono{X:Cx}{e:Expr}{c:TT}(h:PT X e c):PT X e (vH c):=λa s σ H Q I ⟨Q',g,d⟩ =>
 thn (h a s σ H Q' I g) λb i ⟨H',I',q⟩=>⟨H',I',d _ _ q⟩
def SG{X:Cx}{pos:Pos}{c:Expr}{body:Y5z}{tc:TT}{tb:TS}(hp:YaO X.A X.env X.xe)(hc:PT X c tc)(hb:NX X body tb):PS X (.While c body [] pos) (GD (vH tc) tb) :=
 WU hp hc.mono hb
@[irreducible] def MM(K:Aa):Y1B:=λxs H Q=>∃x n,xs=[x]/\aGJ K x H n/\Y1M n
@[irreducible] def aA7:Y1B:=λxs H Q=>∃i,xs=[Y1w]/\Y1M (i.natAbs:Int)
section
variable{X:Cx}{K:Aa}{H:Hp}{p:Addr}{xs:Al}{Q:VK}
def oA:Y4Y X "len" (MM X.K):=by unfold MM;exact ZL
def ZK:Y4Y X "abs" aA7:=by
 unfold aA7;exact λa s σ H c d Q I r ⟨i,e,q⟩=>ZM a s σ H c d Q I r ⟨i,e,by
 have:(if i<0 then -i else i)=(i.natAbs:Int):=by split <;> exact Oo
 rw[this];exact q⟩
def rlL(h:H p=Y0P)(q:Y1M xs.length):MM K [V.ref p] H Q:=by unfold MM;exact Y0h _ _ (.inl (Y4n xs (gH.of h))) q
def rlT(h:H p=Y1d)(q:Y1M xs.length):MM K [V.ref p] H Q:=by unfold MM;exact Y0h _ _ (.inr (Y4n xs (jA.of h))) q
def raI{i:Int}(q:Y1M (i.natAbs:Int)):aA7 [V.int i] H Q:=by unfold aA7;exact Y00 i q
end
def zZ{c:TT}{tb:TS}{D:qH}{σ:St}{H:Hp}(W:Y03 Y1Z)(R:Y1Z)(m:Nat)(h0:W m σ H)
  (hs:∀m σ H,W m σ H->c σ H λb H1=>if b=true then tb { D with nx:=λσ' H'=>∃m',m' < m/\W m' σ' H',ct:=λσ' H'=>∃m',m' < m/\W m' σ' H',bk:=D.nx } σ H1 else R σ H1)
  (hd:∀σ H,R σ H->Y3P):GD (vH c) tb D σ H :=
 ⟨W,⟨m,h0⟩,λm σ H a=>⟨_,hs m σ H a,λb H1 q=>by
  by_cases hb:b=true
  ·rw[if_pos hb]at q ⊢;exact Y0U (λ_ _ h=>h) q
  ·rw[if_neg hb]at q ⊢;exact hd _ _ q⟩⟩
def aFQ(t:TS):TS:=λD σ H=>∃R:St->Hp->Prop,(∀σ' H',R σ' H'->D.nx σ' H')/\(t { D with nx:=R } σ H)
def aEn{X:Cx}{st:Stmt}{t:TS}(h:PS X st t):PS X st (aFQ t):=λa s σ H D I ⟨R,c,q⟩ =>
 thn (h a s σ H _ I q) λf e z=>by
  cases f with
  | next=>obtain⟨d,H',I',r⟩:=z;exact⟨d,H',I',c _ _ r⟩
  | brk=>exact z
  | cont=>exact z
  | ret u=>exact z
section
variable{es:Y0j}{env:Env}
def SA{a b c}:Y3q (.BoolOp a b c::es)=(false,Y1U (.BoolOp a b c))::Y3H:=by rw[starEach] <;> (intros;contradiction)
def BN{a b c d}:Y3q (.BinOp a b c d::es)=(false,Y1U (.BinOp a b c d))::Y3H:=by rw[starEach] <;> (intros;contradiction)
def MD{a b c}:Y3q (.UnaryOp a b c::es)=(false,Y1U (.UnaryOp a b c))::Y3H:=by rw[starEach] <;> (intros;contradiction)
def WG{a b c d}:Y3q (.IfExp a b c d::es)=(false,Y1U (.IfExp a b c d))::Y3H:=by rw[starEach] <;> (intros;contradiction)
def tR{a b c d}:Y3q (.ListComp a b c d::es)=(false,Y1U (.ListComp a b c d))::Y3H:=by rw[starEach] <;> (intros;contradiction)
def ME{a b c d}:Y3q (Y9Z b c d::es)=(false,Y1U (Y9Z b c d))::Y3H:=by rw[starEach] <;> (intros;contradiction)
def pU{a b c d}:Y3q (.Call a b c d::es)=(false,Y1U (.Call a b c d))::Y3H:=by rw[starEach] <;> (intros;contradiction)
def tS{a b c}:Y3q (.Constant a b c::es)=(false,Y1U (.Constant a b c))::Y3H:=by rw[starEach] <;> (intros;contradiction)
def lY{a b c}:Y3q (.Attribute a b c::es)=(false,Y1U (.Attribute a b c))::Y3H:=by rw[starEach] <;> (intros;contradiction)
def iJ{a b c}:Y3q (.Subscript a b c::es)=(false,Y1U (.Subscript a b c))::Y3H:=by rw[starEach] <;> (intros;contradiction)
def pT{a b}:Y3q (.Name a b::es)=(false,Y1U (.Name a b))::Y3H:=by rw[starEach] <;> (intros;contradiction)
def WF{a b c}:Y3q (.Tuple a b c::es)=(false,Y1U (.Tuple a b c))::Y3H:=by rw[starEach] <;> (intros;contradiction)
end
section
variable{X:Cx}{k:Nat}{ps:Ah}{sp:Sp}{x:Str}{p pos:Pos}{e:Expr}{es:Y0j}{te:TE}{t:TA}{id T:String}{r:Y1B}
def qG{env:Env}:Yx ((backTo pos (starEach [] env)).any (·.1)):=rfl
def nJ{env:Env}(hs:Y3q (e::es)=(false,Y1U e)::Y3H)(h:Yx ((backTo pos (starEach es env)).any (·.1))):Yx ((backTo pos (starEach (e::es) env)).any (·.1)):=by
 rw[hs];show Yx (false || (backTo pos (starEach es env)).any (·.1));rw[h];rfl
end
structure gY(X:Cx)(e:Expr)(t:TE):Prop where p:Yn e t
structure NW(X:Cx)(e:Expr)(t:TT):Prop where p:PT X e t
structure PWw(X:Cx)(e:Expr)(t:TT):Prop where p:PW X e t
structure LF(X:Cx)(es:Y0j)(t:TA):Prop where p:PA X es t
structure IB(X:Cx)(st:Stmt)(t:TS):Prop where p:PS X st t
structure EA(X:Cx)(st:Y5z)(t:TS):Prop where p:NX X st t
structure PGw(X:Cx)(e:Expr)(t:TG):Prop where p:PG X e t
structure aCk(X:Cx)(es:Y0j)(t:TGs):Prop where p:PGs X es t
structure NY(X:Cx)(tg iter:Expr)(t:TI):Prop where p:PI X tg iter t
structure POw(X:Cx)(e:Option Expr)(t:TO):Prop where p:PO X e t
@[irreducible] def PF(xs:Al)(H:Hp)(Q:VK):Prop:=Y5r/\∀p,H p=none->Y0N p (Y7L p xs)
@[irreducible] def PH(xs:Al)(H:Hp)(Q:VK):Prop:=Y5r/\∀p,H p=none->Y0N p (Y3a p xs)
def rG{xs:Al}{H:Hp}{Q:VK}(hz:Y6R 64)(k:∀q H',H q=none->H' q=Y1d->Y1->Y0u q):PF xs H Q:=by unfold PF;exact alT (uR hz) k
def DT{xs:Al}{H:Hp}{Q:VK}(hz:Y6R 64)(k:∀q H',H q=none->H' q=Y0P->Y1->Y0u q):PH xs H Q:=by unfold PH;exact alL (uR hz) k
def tTu(t:TA):TE:=Y4P H (λxs H1=>PF xs H1 Q)
def tLs(t:TA):TE:=Y4P H (λxs H1=>PH xs H1 Q)
def aHm{ts us:TS}{D:qH}{σ:St}{H:Hp}(h:ts { D with nx:=us D } σ H):aAI ts us D σ H:=h
def aIs{te:TE}{g:TG}{D:qH}{σ:St}{H:Hp}(h:te σ H λx H1=>g x σ H1 D.nx):DR te g D σ H:=h
section
variable{X:Cx}{a b c e o tg:Expr}{es rest:Y0j}{ta tb tc te to:TE}{tA tB':TT}{t:TA}{pos p p2:Pos}{st:Stmt}{sts body orelse:Y5z}{ts us:TS}{x:Str}{r r':R2}{id T:String}{rl:Y1B}{k i j:Nat}{ps:Ah}{sp:Sp}{n:Nat}
def aD(i:Nat){x:Str}{pos:Pos}(hN:Y35=Y7:=by rfl)(hv:Yc2 x:=by first | exact Or.inl rfl | exact Or.inr (Or.inl rfl) | exact Or.inr (Or.inr rfl))(hd:Y1J ("__debug__" : Str):=by decide)
  (hcd:Y1J ("__classdict__" : Str):=by decide):Yh Y7g (VL i):=⟨pv i hN hv hd hcd⟩
def aL{i j pos}:Yh (Y8p Y1w j) (tC (Y1w)):=⟨pe_int⟩
def OM{b j pos}:Yh (Y8p (.bool b) j) (tC (.bl b)):=⟨pe_bl⟩
def iV{j pos}:Yh (Y8p .none j) (tC .non):=⟨pe_non⟩
def jD{x j pos}:Yh (Y8p (.str x) j) (tC (.str x)):=⟨pe_str⟩
def gM{v:V}{u:Value}(hg:Gl X x)(hm:Y5R=Yo)(r:Y3S)(hd:Y1J ("__debug__" : Str):=by decide):Yh Y7g (tC v):=⟨aBk hg hm r hd⟩
def cD{op:Operator}(ho:Y4X X op r)(ha:Y4N a)(hb:Yh b tb):Yh (.BinOp a op b pos) (tOp r ta tb):=⟨aF9 ho ha.p hb.p⟩
def BD{op:UnaryOp}{r:V->(Hp->(Y0C VK))}(ho:UnR X (unaryOp op) r)(ha:Y4N a):Yh (Y9A op a) (tUn r ta):=⟨aF8 ho ha.p⟩
def lS{op:CmpOp}(ho:Y3s X op r)(ha:Y4N a)(hb:Yh b tb)(hm:YaF op b:=by exact nomark _):Yh (Y9Z [op] [b] pos) (tOp r ta tb):=⟨aBo ho ha.p hb.p hm⟩
def eN{op:CmpOp}(ho:Y3s X op r)(ha:Y4N a)(hb:Yh b tb)(hm:YaF op b:=by exact nomark _):NW X (Y9Z [op] [b] pos) (aCq (tOp r ta tb)):=⟨aBa ho ha.p hb.p hm⟩
def qB(h:Yh e te)(he:∀whole,isTrue e X.env whole=(do let v <-whole;standAt e.pos;holding [v] (truthy v)):=by intro _;rfl):NW X e (tB te):=⟨aEg h.p he⟩
def wH(ha:NW X a tA):PWw X (Y6o [a]) tA:=⟨aA8 ha.p⟩
def LK(ha:NW X a tA):PWw X (Y7r .Or [a]) tA:=⟨aEd ha.p⟩
def AX(ha:NW X a tA)(hb:PWw X (Y6o (b::rest)) tB'):PWw X (Y6o (a::b::rest)) (aFS tA tB'):=⟨aEe ha.p hb.p⟩
def UP(ha:NW X a tA)(hb:PWw X (Y7r .Or (b::rest)) tB'):PWw X (Y7r .Or (a::b::rest)) (tOr tA tB'):=⟨aF3 ha.p hb.p⟩
def IC(h:PWw X e tA):NW X e tA:=⟨h.p.pt⟩
def UQ(ha:NW X a tA):NW X (Y9A .Not a) (aFL tA):=⟨aEh ha.p⟩
def UX{op}(h:Y4N a):Y4N (Y7r op [a]):=⟨aEw h.p⟩
def LP(ha:Y4N a)(hb:Yh (Y6o (b::rest)) tb):Yh (Y6o (a::b::rest)) (VR ta tb):=⟨aEA ha.p hb.p⟩
def UY(ha:Y4N a):Yh (Y9A .Not a) (aCs ta):=⟨aEx ha.p⟩
def oS(hc:NW X c tA)(ha:Y4N a)(hb:Yh b tb):Yh (.IfExp c a b pos) (tIf tA ta tb):=⟨XD hc.p ha.p hb.p⟩
def Se{e:Expr}{es:Y0j}{env:Env}(h:Y3q (e::es)=(false,Y1U e)::Y3H:=by first | exact pT | exact tS | exact SA | exact BN | exact MD | exact WG | exact se_Dict | exact tR | exact ME | exact pU | exact lY | exact iJ | exact se_List | exact WF | exact se_JoinedStr | exact se_GeneratorExp):Y3q (e::es)=(false,Y1U e)::Y3H:=h
def aQ:LF X [] IJ:=⟨pa_nil⟩
def bB(ha:Yh e te)(hr:LF X es t)(hs:Y3R=(false,Y1l)::Y30:=by exact Se):LF X (e::es) (pP te t):=⟨aBr ha.p hr.p hs⟩
def dX{x1}(h:LF X es t):Yh (.Tuple es x1 pos) (tTu t):=⟨by unfold tTu PF;exact aEv h.p⟩
def iQ(h:LF X es t):Yh (.List es pos) (tLs t):=⟨by unfold tLs PH;exact aEy h.p⟩
def nK:Yh (.Dict [] [] pos) VN:=⟨pe_dnewT⟩
def bQ(hr:IxR X r)(ha:Y4N a)(hb:Yh b tb)(hs:RF b:=by exact λ_ _=>rfl):Yh (Y7v a b) (tOp r ta tb):=⟨aGa hr ha.p hb.p hs⟩
def rW:POw X none OS:=⟨po_none⟩
def rV(h:Yh e te):POw X (Y6G) (aCr te):=⟨aBe h.p⟩
def oR{lo hi:Option Expr}{tl th:TO}{r:V->Y1o->Y84}(hr:SlR X r)(he:Yh e te)(hl:POw X lo tl)(hu:POw X hi th):Yh (Y7v e (.Slice lo hi none p2)) (tSl r te tl th):=⟨XC hr he.p hl.p hu.p⟩
def tJ(F:fI cV X.prog X.w X.K X.mg X.base k x ps sp)(hr:Y4K k)(ha:LF X (e::es) t)(hg:Gl X x:=by rfl)
  (hdb:Y1J ("__debug__" : Str):=by decide) (he:Y3R=(false,Y1l)::Y30:=by exact Se)
  (hpl:Yx ((backTo pos (starEach es X.env)).any (·.1)):=by repeat (first | exact qG | refine nJ Se ?_)) :
  Y80 p (e::es) [] (yY sp [] E0 t):=⟨aGb F hr ha.p hg hdb he hpl⟩
def fP{e1:Expr}{t1:TE}(F:fI cV X.prog X.w X.K X.mg X.base k x ps sp)(h1:Yh e1 t1)(s1:Y38 e1=(false,Y0a e1)::Y26 []:=by exact Se)(hr:Y4K k:=by exact jB.mono ‹_› Dd)(hg:Gl X x:=by rfl)(hdb:Y1J ("__debug__" : Str):=by decide)(hpl:Yx ((backTo pos (starEach [] X.env)).any (·.1)):=by repeat (first | exact qG | refine nJ Se ?_)):Y80 p [e1] [] (yY sp [] E0 (pP t1 IJ)):=tJ F hr (bB h1 aQ s1) hg hdb s1 hpl
def cQ{e1 e2:Expr}{t1 t2:TE}(F:fI cV X.prog X.w X.K X.mg X.base k x ps sp)(h1:Yh e1 t1)(h2:Yh e2 t2)(s1:Y26 [e1,e2]=(false,Y0a e1)::Y38 e2:=by exact Se)(s2:Y38 e2=(false,Y0a e2)::Y26 []:=by exact Se)(hr:Y4K k:=by exact jB.mono ‹_› Dd)(hg:Gl X x:=by rfl)(hdb:Y1J ("__debug__" : Str):=by decide)(hpl:Yx ((backTo pos (starEach [e2] X.env)).any (·.1)):=by repeat (first | exact qG | refine nJ Se ?_)):Y80 p [e1,e2] [] (yY sp [] E0 (pP t1 (pP t2 IJ))):=tJ F hr (bB h1 (bB h2 aQ s2) s1) hg hdb s1 hpl
def lQ{e1 e2 e3:Expr}{t1 t2 t3:TE}(F:fI cV X.prog X.w X.K X.mg X.base k x ps sp)(h1:Yh e1 t1)(h2:Yh e2 t2)(h3:Yh e3 t3)(s1:Y26 [e1,e2,e3]=(false,Y0a e1)::Y26 [e2,e3]:=by exact Se)(s2:Y26 [e2,e3]=(false,Y0a e2)::Y38 e3:=by exact Se)(s3:Y38 e3=(false,Y0a e3)::Y26 []:=by exact Se)(hr:Y4K k:=by exact jB.mono ‹_› Dd)(hg:Gl X x:=by rfl)(hdb:Y1J ("__debug__" : Str):=by decide)(hpl:Yx ((backTo pos (starEach [e2,e3] X.env)).any (·.1)):=by repeat (first | exact qG | refine nJ Se ?_)):Y80 p [e1,e2,e3] [] (yY sp [] E0 (pP t1 (pP t2 (pP t3 IJ)))):=tJ F hr (bB h1 (bB h2 (bB h3 aQ s3) s2) s1) hg hdb s1 hpl
def UZ{e1 e2 e3 e4:Expr}{t1 t2 t3 t4:TE}(F:fI cV X.prog X.w X.K X.mg X.base k x ps sp)(h1:Yh e1 t1)(h2:Yh e2 t2)(h3:Yh e3 t3)(h4:Yh e4 t4)(s1:Y26 [e1,e2,e3,e4]=(false,Y0a e1)::Y26 [e2,e3,e4]:=by exact Se)(s2:Y26 [e2,e3,e4]=(false,Y0a e2)::Y26 [e3,e4]:=by exact Se)(s3:Y26 [e3,e4]=(false,Y0a e3)::Y38 e4:=by exact Se)(s4:Y38 e4=(false,Y0a e4)::Y26 []:=by exact Se)(hr:Y4K k:=by exact jB.mono ‹_› Dd)(hg:Gl X x:=by rfl)(hdb:Y1J ("__debug__" : Str):=by decide)(hpl:Yx ((backTo pos (starEach [e2,e3,e4] X.env)).any (·.1)):=by repeat (first | exact qG | refine nJ Se ?_)):Y80 p [e1,e2,e3,e4] [] (yY sp [] E0 (pP t1 (pP t2 (pP t3 (pP t4 IJ))))):=tJ F hr (bB h1 (bB h2 (bB h3 (bB h4 aQ s4) s3) s2) s1) hg hdb s1 hpl
def jH(hc:Y4Y X id rl)(hg:Gl X x)(hm:Y5R=none)(hv:Y9d=Y6O id)(ha:LF X (e::es) t)(hn:x ≠ "__name__" := by decide)(hdb:Y1J ("__debug__" : Str):=by decide)
  (he:Y3R=(false,Y1l)::Y30:=by exact Se) (hpl:Yx ((backTo pos (starEach es X.env)).any (·.1)):=by repeat (first | exact qG | refine nJ Se ?_)):Y80 p (e::es) [] (tCB rl t) :=
 ⟨XH hc hg hm hv ha.p hn hdb he hpl⟩
def jW(hc:Y9T X T rl)(hg:Gl X x)(hm:Y5R=none)(hv:Y9d=some (.type T))(ha:LF X (e::es) t)(hn:x ≠ "__name__" := by decide)(hdb:Y1J ("__debug__" : Str):=by decide)
  (he:Y3R=(false,Y1l)::Y30:=by exact Se) (hpl:Yx ((backTo pos (starEach es X.env)).any (·.1)):=by repeat (first | exact qG | refine nJ Se ?_)):Y80 p (e::es) [] (tCB rl t) :=
 ⟨SK hc hg hm hv ha.p hn hdb he hpl⟩
def tK{name:Str}{apos cpos:Pos}{r:V->Y1B}(pa:PlainAttrs T)(slot:Slot T name id)(hty:typeOf (.builtin id)=pure (.type "method_descriptor"))(hm:MtR X id r)(ho:Yh o to)(ha:LF X (e::es) t)
  (hbase:Y8h o name (Y0a o)=Y0a o:=by rfl)
  (hfew:((backTo cpos (starEach (e::es) X.env)).all (λx=>! x.1)&&(backToKw cpos (keywordEach [] X.env)).all (λx=>x.1.isSome)
   && Y1E ((e::es).length+([]:List Keyword).length+(if([]:List Keyword).isEmpty then 0 else 1)) 30)=true:=by rfl)
  (hline:(Y9k)=true:=by rfl) (hs:Y3R=(false,Y1l)::Y30:=by exact Se) (hplain:Yx ((backTo cpos (starEach es X.env)).any (·.1)):=by repeat (first | exact qG | refine nJ Se ?_)) :
  Yh (Y9M name (e::es) [] cpos) (tBM X.K T r to t):=⟨aGc pa slot hty hm ho.p ha.p hbase hfew hline hs hplain⟩
def fK:EA X [] aCt:=⟨pss_nil⟩
def aH(h1:IB X st ts)(h2:EA X sts us):EA X (st::sts) (aAI ts us):=⟨WT h1.p h2.p⟩
def aS(h1:IB X st ts):EA X [st] ts:=⟨aBb h1.p⟩
def lP(he:Yh e te)(hs:YcF e none pos.line=Y4s:=by rfl):IB X (.Expr e pos) (aCw te):=⟨aBc he.p hs⟩
def cH(he:Yh e te):IB X (.Return (Y6G) pos) (aFJ te):=⟨aEj he.p⟩
def iS{c:Expr}{a b:Y5z}(hc:NW X c tA)(ha:EA X a ts)(hb:EA X b us):IB X (.If c a b pos) (aFM tA ts us):=⟨aF4 hc.p ha.p hb.p⟩
def LM(h:IB X st ts):IB X st (aFQ ts):=⟨aEn h.p⟩
def dE{i:Nat}{x:Str}(hN:X.N.Nodup)(hi:Y35=Y7)(hx:Y9c x)(hf:X.fn x=true\/Y5M x:=by first | exact .inl rfl | exact .inr rfl | assumption):PGw X (Y7g) (oE i):=⟨aBh hN hi hx hf⟩
def lC:aCk X [] aE0:=⟨pgs_nil⟩
def eB{t:TG}{u:TGs}(h1:PGw X e t)(h2:aCk X es u)
  (hs:(assignEach (e::es) X.env).map (·.2)=Y9w e::(assignEach es X.env).map (·.2):=by rfl):aCk X (e::es) (YO t u):=⟨XB h1.p h2.p hs⟩
def nW{k:Nat}{t:TGs}{n:Nat}(hc:Y1F)(h:aCk X es t)
  (hn:(assignEach es X.env).length=n:=by rfl) (hst:(assignEach es X.env).findIdx? (·.1)=none:=by rfl):PGw X (.Tuple es k pos) (aEZ X.K n t):=⟨aEs hc h.p hn hst⟩
def LN{i:Expr}{ti:TE}{t:aCh}(ho:Yh o to)(hi:Yh i ti)(hs:aFn X t)
  (ha:∀v,assign (.Subscript o i pos) X.env v=(do
   let ov <-holding [v] (eval o X.env)
   let iv <-holding [v,ov] (eval i X.env)
   standAt pos
   holding [v,ov,iv] (setItem ov iv v)
   release [v,ov,iv] []):=by intro _;rfl):PGw X (Y7v o i) (aGn to ti t):=⟨aEt ho.p hi.p hs ha⟩
def FU{g:TG}(he:Yh e te)(hg:PGw X tg g)(hs:YbG [tg] e X.env=Y4s:=by rfl)(hw:YbM [tg] e=pure none:=by rfl)(h1:(assignEach [tg] X.env).map (·.2)=[Y9w tg]:=by rfl):IB X (Y63 [tg] e) (DR te g):=⟨aEo he.p hg.p hs hw h1⟩
def lE{i:Nat}{pos':Pos}(hN:X.N.Nodup)(hi:Y35=Y7)(hx:Y9c x)(he:Yh e te)(hs:Y8F e Yab=Y4s:=by rfl)(hf:X.fn x=true\/Y5M x:=by first | exact .inl rfl | exact .inr rfl | assumption) :
  IB X (Y63 [Yab] e) (DR te (oE i)):=⟨aEi hN hi hx he.p hs hf⟩
def cP{i:Nat}{pos':Pos}(hN:X.N.Nodup)(he:Yh e te)(hi:Y35=Y7:=by rfl)(hx:Y9c x:=by exact Or.inl rfl)(hs:Y8F e Yab=Y4s:=by rfl)(hf:X.fn x=true\/Y5M x:=by first | exact .inl rfl | exact .inr rfl | assumption) :
  IB X (Y63 [Yab] e) (DR te (oE i)):=lE hN hi hx he hs hf
def aCW{i j:Nat}{x y:Str}{ta:TA}{px py pt:Pos}{kt k2 pt2}(hc:Y1F)(hN:X.N.Nodup)(hi:Y35=Y7)(hj:X.N[j]?=Y09)(hij:i≠j)
  (hx:Y5M x) (hy:Y5M y) (ha:LF X [a,b] ta)
  (hw:YbM [Y44 [Y45,Y2H] kt] (Y9Q [a,b] k2)=pure (some [x,y]))
  (hs:YbG [Y44 [Y45,Y2H] kt] (Y9Q [a,b] k2) X.env=Y4s:=by rfl) :
  IB X (Y63 [Y44 [Y45,Y2H] kt] (Y9Q [a,b] k2)) (aFK i j ta):=⟨aEk hc hN hi hj hij hx hy ha.p hw hs⟩
def wI{c:Expr}{tc:TT}{tb:TS}(hp:YaO X.A X.env X.xe)(hc:NW X c tc)(hb:EA X body tb):IB X (.While c body [] pos) (GD (vH tc) tb):=⟨SG hp hc.p hb.p⟩
def eG{l:Expr}{tl:TE}(hl:Yh l tl):NY X tg l (YI X.K tl):=⟨aBg hl.p⟩
def tG{l:Expr}{tl:TE}(hl:Yh l tl):NY X tg l (aGl X.K tl):=⟨aEr hl.p⟩
def fZ{a:Expr}{ta:TA}{p pos:Pos}(hg:Gl X "range")(hm:X.mg "range" = none)(ha:LF X [a] ta)(hs:Y38 a=[(false,Y0a a)]:=by exact Se):NY X tg (Y7K "range" p [a] []) (aCH ta):=⟨SJ hg hm ha.p hs⟩
def RQ{a b:Expr}{ta:TA}{p pos:Pos}(hg:Gl X "range")(hm:X.mg "range" = none)(ha:LF X [a,b] ta)(hs:Y26 [a,b]=[(false,Y0a a),(false,Y0a b)]:=by rfl)(hs2:Y38 b=[(false,Y0a b)]:=by exact Se) :
  NY X tg (Y7K "range" p [a,b] []) (aCG ta):=⟨SI hg hm ha.p hs hs2⟩
def gK{iter:Expr}{wi:TI}{g:TG}{tb:TS}{pos:Pos}(hp:YaO X.A X.env X.xe)(hc:Y1F)(hi:NY X tg iter wi)(hg:PGw X tg g)(hb:EA X body tb)
  (hs:∀x,Y56 x=Y4I:=by intro _;rfl):IB X (.For tg iter body [] pos) (aFN wi g tb):=⟨aEl hp hc hi.p hg.p hb.p hs⟩
end
def iO.okw{P:Program}{w:World}{K:Aa}{mg:Y0H}{base:Heap}{x qual:Str}{st:Stmt}{f:Addr}{fd:FuncData}{N ps:Ah}{k:Nat}{sp:Sp}(F:Yb x qual st)(S:Yd N ps st)(len:∀vs H Q E,sp vs H Q E->Y9j)
  (hbody:∀(cdv:Value) (A:Around) (outer:Y3z) (s:Shared) (H:Hp) (vs:Al) (Q:VK) (E:XK),jB k (Y9s qual (bA st) f cdv)->sp vs H Q E ->
   ∃t,EA (KB cV P w K mg base N qual (bA st) f cdv A outer s H E).nox (kN st) t/\t { nx:=λ_ H'=>Q .non H',rt:=Q } (Y8W N) H):dO P w K mg base cV (k+1) f fd ps sp :=
 F.ok S len λcdv A outer s H vs Q E d h=>by
  obtain⟨t,c,a⟩:=hbody cdv A outer s H vs Q E d h;exact⟨t,c.p,a⟩
def iO.oky{P:Program}{w:World}{K:Aa}{mg:Y0H}{base:Heap}{x qual:Str}{st:Stmt}{f:Addr}{fd:FuncData}{N ps:Ah}{k:Nat}{sp:Sp}(F:Yb x qual st)(S:Yd N ps st)
  (h:∀(vs:Al) (H:Hp) (Q:VK) (E:XK),sp vs H Q E->Y9j/\∀(cdv:Value) (A:Around) (outer:Y3z) (s:Shared),jB k (Y9s qual (bA st) f cdv) ->
   ∃t,EA (KB cV P w K mg base N qual (bA st) f cdv A outer s H E).nox (kN st) t/\t { nx:=λ_ H'=>Q .non H',rt:=Q } (Y8W N) H):dO P w K mg base cV (k+1) f fd ps sp :=
 F.okw S (λvs H Q E q=>(h vs H Q E q).1) λcdv A outer s H vs Q E a q=>(h vs H Q E q).2 cdv A outer s a
def JS(a b:Int):(Int.gcd b (a % b))=(Int.gcd a b):=by
 have h:=Int.gcd_add_mul_right_right b (a % b) (a/b);rw[show a % b+a/b*b=a from by have:=Int.emod_add_mul_ediv a b;rw[Int.mul_comm];exact this]at h;rw[<-h,Int.gcd_comm]
def QH{a:Int}(h:0<a):(Int.gcd a 0:Int)=a:=by rw[Int.gcd_zero_right];exact Oo
section
variable{H:Hp}{x:V}{d:PyData}{Q:VK}
end
theorem bI.len{H:Hp}:∀{ds:Y1p}{vs:Al},Y6J->Y6V ds.length
 | [],_,h=>by cases(show _=[]from h);rfl
 | d::ds,_,h=>by
  unfold bI at h;obtain⟨x,xs,rfl,_,h2⟩:=h;simp[bI.len h2]
section
variable{p:Addr}{σ:St}{t:TE}{ta:TA}{d:PyData}{ds:Y1p}
end
def aCg{α:Type}{xs:Yu}{x:Int}(h0:0<=x)(h1:Y2u x):∃v,DX xs x=Ys/\v∈xs/\Y2h x.toNat=Ys:=by
 have h:Y2u x.toNat:=Oo;have e:=aC h;have:=dW e;rw[Int.toNat_of_nonneg h0]at this;exact⟨_,this,List.getElem_mem h,e⟩
theorem bI.append{H:Hp}{es:Y1p}{ws:Al}(h':Y1f es ws):∀{ds:Y1p}{vs:Al},Y6J->Y1f (ds++es) (vs++ws)
 | [],_,h=>by cases(show _=[]from h);exact h'
 | d::ds,_,h=>by
  unfold bI at h;obtain⟨x,xs,rfl,h1,h2⟩:=h;exact bI.cons h1 (bI.append h' h2)
end L2
namespace L2
end L2
namespace L2
open PySem PySem.Spec PyProof.Rows
def aT.thru{l:Addr}{H0 H1 H2:Hp}(hl:H0 l=none)(s:aT H0 H1)(b:aU l H1 H2):aT H0 H2:=λc o e=>by
 have n:c≠l:=dR e hl;exact b.at n (s _ _ e)
def NN{H:Hp}{l b:Addr}{xs zs:Al}{Q:VK}(h1:H l=Y0P)(h2:H b=Yl zs)(hz:Ych<=1000)(k:∀q H',H q=none->H' q=Yl (xs++zs)->Y1->Y0u q):aF2 (Y11) (Y0p) H Q :=
 ⟨l,b,xs,zs,rfl,rfl,h1,h2,Nat.le_of_lt (yB hz),λq a=>k q _ a bK (aT.upd a)⟩
@[irreducible] def aA5:V->Y1B:=PR
def vT{X:Cx}:MtR X "list.append" aA5:=by unfold aA5;exact uS
def NR{H:Hp}{l:Addr}{xs:Al}{y:V}{Q:VK}(h:H l=Y0P)(hz:Y6R 1000)(k:∀H',H' l=Yl (xs++[y])->Y65 l->Yad):aA5 (Y11) [y] H Q:=by
 unfold aA5;exact Y0F l xs y rfl h (yB hz) (k _ bK aU.self)
def VD{K:Aa}{H:Hp}{l:Addr}{xs:Al}(h:H l=Y0P):tyV K "list" (Y11) H:=.inl ⟨rfl,xs,gH.of h⟩
inductive Ex1 {A0:Sort _} (p:Y0C A0):Prop | mk (a0:A0) (h:p a0)
inductive Ex2 {A0 A1:Sort _} (p:Y0i A0 A1):Prop | mk (a0:A0) (a1:A1) (h:p a0 a1)
inductive Ex3 {A0 A1 A2:Sort _} (p:A0->Y0i A1 A2):Prop | mk (a0:A0) (a1:A1) (a2:A2) (h:p a0 a1 a2)
inductive Ex4 {A0 A1 A2 A3:Sort _} (p:A0->A1->Y0i A2 A3):Prop | mk (a0:A0) (a1:A1) (a2:A2) (a3:A3) (h:p a0 a1 a2 a3)
inductive Ex5 {A0 A1 A2 A3 A4:Sort _} (p:A0->A1->A2->Y0i A3 A4):Prop | mk (a0:A0) (a1:A1) (a2:A2) (a3:A3) (a4:A4) (h:p a0 a1 a2 a3 a4)
inductive Ex6 {A0 A1 A2 A3 A4 A5:Sort _} (p:A0->A1->A2->A3->Y0i A4 A5):Prop | mk (a0:A0) (a1:A1) (a2:A2) (a3:A3) (a4:A4) (a5:A5) (h:p a0 a1 a2 a3 a4 a5)
inductive Ex7 {A0 A1 A2 A3 A4 A5 A6:Sort _} (p:A0->A1->A2->A3->A4->Y0i A5 A6):Prop | mk (a0:A0) (a1:A1) (a2:A2) (a3:A3) (a4:A4) (a5:A5) (a6:A6) (h:p a0 a1 a2 a3 a4 a5 a6)
inductive An2 (A0 A1:Prop):Prop | mk (h0:A0) (h1:A1)
inductive An3 (A0 A1 A2:Prop):Prop | mk (h0:A0) (h1:A1) (h2:A2)
inductive An4 (A0 A1 A2 A3:Prop):Prop | mk (h0:A0) (h1:A1) (h2:A2) (h3:A3)
inductive An5 (A0 A1 A2 A3 A4:Prop):Prop | mk (h0:A0) (h1:A1) (h2:A2) (h3:A3) (h4:A4)
inductive An6 (A0 A1 A2 A3 A4 A5:Prop):Prop | mk (h0:A0) (h1:A1) (h2:A2) (h3:A3) (h4:A4) (h5:A5)
inductive An7 (A0 A1 A2 A3 A4 A5 A6:Prop):Prop | mk (h0:A0) (h1:A1) (h2:A2) (h3:A3) (h4:A4) (h5:A5) (h6:A6)
inductive An8 (A0 A1 A2 A3 A4 A5 A6 A7:Prop):Prop | mk (h0:A0) (h1:A1) (h2:A2) (h3:A3) (h4:A4) (h5:A5) (h6:A6) (h7:A7)
inductive An9 (A0 A1 A2 A3 A4 A5 A6 A7 A8:Prop):Prop | mk (h0:A0) (h1:A1) (h2:A2) (h3:A3) (h4:A4) (h5:A5) (h6:A6) (h7:A7) (h8:A8)
inductive aJl (A0 A1 A2 A3 A4 A5 A6 A7 A8 A9:Prop):Prop | mk (h0:A0) (h1:A1) (h2:A2) (h3:A3) (h4:A4) (h5:A5) (h6:A6) (h7:A7) (h8:A8) (h9:A9)
def fH{t u:TS}{D:qH}{σ:St}{H:Hp}(h:let D':=D;let N:=u D';t { D' with nx:=N } σ H):aAI t u D σ H:=h
def lO{N b c:Y1Z}{r:VK}{σ:St}{H:Hp}{i:Nat}{v:V}(h:N (YaT i) H):oE i v σ H (qH.mk N r b c).nx:=h
def IA{N:Y1Z}{σ:St}{H:Hp}{i:Nat}{v:V}(h:N (YaT i) H):oE i v σ H N:=h
def OV{N b c:Y1Z}{r:VK}{σ:St}{H:Hp}(h:N σ H):(qH.mk N r b c).nx σ H:=h
def wG{t:TS}{D:qH}{σ:St}{H:Hp}(h:let D':=D;t D' σ H):t D σ H:=h
def rL(env:Env):Y6U->Y5E->Y5E
 | [],cs=>cs
 | (n,k)::r,cs=>if k == .free then rL env r ((n,(env.cells.lookup n).getD 0)::cs) else rL env r cs
theorem QV(env:Env):∀(l:Y6U) (cs:Y5E),(∀y∈l,y.2=.free->∃c,YaS y.1 Y1v) ->
  (forIn l cs λ(x:Str × NameKind) r=>if Y8T x.2 then(do let c <-cellOf env x.1;pure (ForInStep.yield ((x.1,c)::r)):Sem _) else pure (ForInStep.yield r))=pure (rL env l cs)
 | [],cs,_=>rfl
 | (n,k)::r,cs,h=>by
  rw[List.forIn_cons];have ih:=λcs=>QV env r cs λy d=>h y (bG _ d);by_cases hk:(k == NameKind.free)=true
  ·obtain⟨c,a⟩:=h (n,k) bC (by simpa using hk);dsimp only at a;simp only[hk,if_true,rL,a,Option.getD_some,cellOf,pure_bind];exact ih _
  ·simp only[hk,rL,pure_bind];exact ih _
def kZ{env:Env}{scope:Scope}(h:∀y∈scope.names,y.2=.free->∃c,YaS y.1 Y1v):closureFor scope env=pure (rL env scope.names []):=by
 have e:=QV env scope.names [] h;unfold closureFor;simp only[bind_pure];exact e
theorem yS{env:Env}:∀(l:Y6U) (cs:Y5E),(∀y∈l,y.2=.free->∃c,YaS y.1 Y1v)->∀p∈rL env l cs,p∈cs\/YaS p.1 (some p.2)
 | [],cs,_,p,hp=>.inl hp
 | (n,k)::r,cs,h,p,hp=>by
  have h':∀y∈r,y.2=.free->∃c,env.cells.lookup y.1=some c:=λy e=>h y (bG _ e);unfold rL at hp;by_cases hk:(k == NameKind.free)=true
  ·rw[if_pos hk]at hp;obtain⟨c,d⟩:=h (n,k) bC (by simpa using hk);rcases yS r _ h' p hp with a | a
   ·rcases bN.mp a with rfl | a
    ·exact .inr (by dsimp only at d ⊢;rw[d];rfl)
    ·exact .inl a
   ·exact .inr a
  ·rw[if_neg hk]at hp;exact yS r cs h' p hp
theorem yU{env:Env}:∀(l:Y6U) (cs:Y5E),∀p∈cs,p∈rL env l cs
 | [],_,_,hp=>hp
 | (n,k)::r,cs,p,hp=>by
  unfold rL;by_cases hk:(k == NameKind.free)=true
  ·rw[if_pos hk];exact yU r _ p (bG _ hp)
  ·rw[if_neg hk];exact yU r _ p hp
theorem yT{env:Env}:∀(l:Y6U) (cs:Y5E) (y:Str),(y,NameKind.free)∈l->∃a,(y,a)∈rL env l cs
 | (n,k)::r,cs,y,hy=>by
  unfold rL;rcases bN.mp hy with e | hm
  ·cases e;rw[if_pos (by rfl)];exact⟨_,yU r _ _ bC⟩
  ·by_cases hk:(k == NameKind.free)=true
   ·rw[if_pos hk];exact yT r _ y hm
   ·rw[if_neg hk];exact yT r _ y hm
theorem pF{α β:Type}[BEq α][LawfulBEq α]{x:α}{c:β}:∀{l:Y3X α β},l.lookup x=Y1v->(x,c)∈l
 | [],h=>by cases h
 | (a,b)::r,h=>by
  rw[List.lookup_cons]at h;by_cases e:(x == a)=true
  ·rw[e]at h;have:x=a:=by simpa using e
   subst this;cases h;exact bC
  ·have d:(x == a)=false:=by simpa using e
   rw[d]at h;exact bG _ (pF h)
theorem pE{α β:Type}[BEq α][LawfulBEq α]{x:α}{c:β}:∀{l:Y3X α β},(x,c)∈l->∃c',l.lookup x=some c'
 | (a,b)::r,h=>by
  rw[List.lookup_cons];by_cases e:(x == a)=true
  ·rw[e];exact⟨_,rfl⟩
  ·have e':(x == a)=false:=by simpa using e
   rw[e'];rcases bN.mp h with q | q
   ·cases q;simp at e
   ·exact pE q
def zT(X:Cx)(scope:Scope):Y5E:=rL X.env scope.names []
def gQ{X:Cx}{scope:Scope}(h:∀y∈scope.names,y.2=.free->∃c,Y9a y.1){x:Str}{c:Addr}(e:(zT X scope).lookup x=Y1v):Y3Q:=by
 rcases yS scope.names [] h _ (pF e)with a | a
 ·cases a
 ·exact a
def mJ{X:Cx}{scope:Scope}(h:∀y∈scope.names,y.2=.free->∃c,Y9a y.1){x:Str}(hx:Y6S (x,NameKind.free)){c:Addr}(e:Y3Q):(zT X scope).lookup x=Y1v:=by
 obtain⟨a,g⟩:=yT (env:=X.env) scope.names [] x hx;obtain⟨i,d⟩:=pE g;have:=gQ h d;rw[e]at this;cases this;exact d
def nZ(X:Cx)(scope:Scope)(C:Addr)(fp:Y0D)(s₀:Shared)(H₀:Hp)(N':Ah):Cx where
 prog:=X.prog
 w:=X.w
 K:=X.K
 mg:=X.mg
 base:=X.base
 A:=X.A
 N:=N'
 s₀:=s₀
 H₀:=H₀
 env:=YaU (Y7Z X) C X.env
 outer:=X.stack
 stack:=X.stack
 ex:=fp
 fn:=λ_=>false
 calm:=true
 pn:=[]
 xe:=YaQ
def slots(σ:St)(js:Ae):St:=js.map λj=>(σ[j]?).getD none
def RG(X:Cx)(ifs:Y0j)(t:TT):Prop :=
 ∀(pins:Ad) (s:Shared) (σ:St) (H:Hp) (Q:Yac),Y4->t σ H Q ->
  Y4G (forIn ifs true λc r=>if r=true then do let ok <-isTrue c X.env (eval c X.env);pure (ForInStep.yield ok) else pure (ForInStep.yield r)) (TP X pins σ Q)
def zN:TT:=λ_ H Q=>Q true H
def pts_nil{X:Cx}:RG X [] zN:=λa s σ H Q I h=>wpAny_tests_nil ⟨H,I,h⟩
def aA9{X:Cx}{c:Expr}{t:TT}(h:PT X c t):RG X [c] t:=λa s σ H Q I q=>wpAny_tests_one (h a s σ H Q I q)
def VQ(wi:TI)(js:Ae)(tc:TT)(te:TE):TE:=λσ H Q=>wi σ H λJ H1=>∀D,H1 D=none->∃W:Nat->Nat->Al->Hp->Prop,(Y4H 0 m [] (Y3Z H1 D [])) /\
 ∀i m ys H2,W i m ys H2->H2 D=Y0c/\((Y7Y H2/\Y0N D H2)\/(Y5j H2/\Y9l/\∀x H3,Y6v i H2 x ->
  tc (Y7::Y0v) H3 λb H4=>if b=true then te (Y7::Y0v) H4 λy H5=>H5 D=Y0c/\∃m',m' < m/\W (i+1) m' (ys++[y]) (Y3Z H5 D (ys++[y]))
   else H4 D=Y0c/\∃m',m' < m/\W (i+1) m' ys H4))
structure dB(X:Cx)(scope:Scope)(x:Str)(N':Ah)(js:Ae):Prop where
 calm:Y1F
 free:∀y∈scope.names,y.2=.free->Y52 y.1 Y1C
 cell:∀y∈scope.names,y.2 ≠ .cell
 kind:scope.kind=.function
 names:∀y∈scope.names,y.2=.local->Y5a y.1
 own:Y5a x
 nofl:∀y,Y6S (y,NameKind.free)->Y5a y->False
 len:N'.length=js.length+1
 zero:N'[0]?=Y7
 nd:N'.Nodup
 slot:∀(i:Nat) (j:Nat),js[i]?=Y5P->∃y,N'[i+1]?=Y09/\X.N[j]?=Y09/\Y6S (y,NameKind.free)
section
variable{X:Cx}{pins:Ad}{σ:St}{H:Hp}{s:Shared}{scope:Scope}{x:Str}{N':Ah}{js:Ae}{fp:Y0D}
theorem dB.cells(S:Y5L X x N' js)(ok:X.Ok):∀y∈scope.names,y.2=.free->∃c,Y9a y.1:=λy d a=>ok.has _ (.inl (S.free y d a))
theorem kX{env:Env}:∀{names:Y6U}{y:Str}{k:NameKind},(names.map λ(n,k)=>if(k == NameKind.free&&env.scope.kind == .function&&env.kindOf n == some .cell) then(n,NameKind.cell) else(n,k)).lookup y=some k ->
  (k=.cell\/k=.free)->(∀z∈names,z.2 ≠ .cell)->(y,NameKind.free)∈names
 | [],_,_,h,_,_=>by cases h
 | (n,q)::r,y,k,h,hk,hc=>by
  rw[bE,List.lookup_cons]at h;have ih:=λh=>@kX env r y k h hk λz d=>hc z (bG _ d);by_cases hq:(q == NameKind.free&&env.scope.kind == .function&&env.kindOf n == some .cell)=true
  ·dsimp only at h;rw[if_pos hq]at h;have g:q=.free:=by
    rw[dG,dG]at hq;simpa using hq.1.1
   subst g;by_cases e:(y == n)=true
   ·have:y=n:=by simpa using e
    subst this;exact bC
   ·have c:(y == n)=false:=by simpa using e
    dsimp only at h;rw[c]at h;exact bG _ (ih h)
  ·dsimp only at h;rw[if_neg hq]at h;by_cases e:(y == n)=true
   ·have:y=n:=by simpa using e
    subst this;dsimp only at h;rw[e]at h;have a:k=q:=by injection h with h;exact h.symm
    subst a;rcases hk with rfl | rfl
    ·exact absurd rfl (hc _ bC)
    ·exact bC
   ·have c:(y == n)=false:=by simpa using e
    dsimp only at h;rw[c]at h;exact bG _ (ih h)
def aFa(S:Y5L X x N' js)(I:Y4)(hf:∀b∈fp,Y3j)(hb:∀b∈fp,Y3r b):(Yas X s H).Ok where
 mod:=I.ok.mod
 kind:=S.kind
 glob:=I.ok.glob
 blt:=I.ok.blt
 above:=Yp
 inj:=λy z c l d=>I.ok.inj y z c (Y3A l) (Y3A d)
 has:=λy g=>by
  have i:Y6S (y,NameKind.free):=by
   rcases g with g | g
   ·exact Yc5 X.env g Y3t
   ·exact Yc5 X.env g Y77
  obtain⟨c,m⟩:=S.cells I.ok _ i rfl;exact⟨c,Y7c i m⟩
 cab:=λ_ _ h=>by cases h
 hd:=λ_=>I.ok.hd S.calm
 frames:=I.ok.frames
 stk:=Y3t
 exf:=λb a=>⟨λe=>by have:=hb b a;rw[e]at this;exact Y1N,λy c h=>(hf b a).2.2.2.2.1 y c (Y3A h)⟩
 bs:=I.bs
 bsz:=Y8x I.sz
 noex:=λb o e a=>by
  rcases(hf b a).2.2.2.1 with h | h
  ·exact I.ok.noex b o e h
  ·exact Y6s Y15 (Y8x h) _
 exfs:=λb a j=>by
  have d:=I.stkSub b j;rcases bN.mp d with d | d
  ·exact(hf b a).2.1 d
  ·exact(hf b a).2.2.1 d
 funs:=I.stack
 frf:=I.stkFree
def yC{i j:Nat}(h:js[i]?=Y5P):(Y0v)[i]?=some ((σ[j]?).getD none):=by
 unfold slots;rw[aG,h];rfl
def aBQ{h':Heap}{tk:Nat}(S:Y5L X x N' js)(I:Y4)(hf:∀b∈fp,Y3j)(hb:∀b∈fp,Y3r b)
  (hn:Ydj Y7G) (hk:∀b o,Y23->Y1i=Ya):cU (Yas X s H) [] (none::Y0v) H { s with heap:=h',toks:=tk } where
 ok:=aFa S I hf hb
 os:=rfl
 bare:=I.bare
 base:=Un.kept hk
 loc:=by
  refine Y0U hn (λi y v β O a=>?_);cases i with
  | zero=>cases O
  | succ i =>
   have d:(Y0v)[i]?=Y7F:=O;have M:Y9U i:=by
    have:=(aB.mp d).1;unfold slots at this
    rwa [aA]at this
   have N:js[i]?=some js[i]:=aC M;obtain⟨z,Y,U,D⟩:=S.slot i _ N;have J:z=y:=by
    have:N'[i+1]?=Y09:=β;rw[Y]at this;cases this;rfl
   subst J;rw[yC N]at d;have α:σ[js[i]]?=Y7F:=by
    cases q:σ[js[i]]? with
    | none=>rw[q]at d;cases d
    | some o=>rw[q]at d;cases d;rfl
   have j:Y52 z Y1C:=S.free _ D rfl;obtain⟨m,ε,γ⟩:=I.loc;obtain⟨u,ru,R⟩:=γ _ z v U α (Y8w j);rcases R with⟨A,_⟩ | ⟨_,c,P,g⟩
   ·rw[j]at A;cases A
   ·refine⟨u,ru,Y3M ?_ c (Y7c D P) ?_⟩
    ·rcases a with a | a | a
     ·exfalso;have T:=Y7c D P;have w:=pF (l:=(relabel scope X.env).names) a;unfold relabel at w;obtain⟨⟨n,k⟩,B,C⟩:=aN.mp w;dsimp only at C;by_cases hq:(k == NameKind.free&&Yby .function&&X.env.kindOf n == Y1C)=true
      ·rw[if_pos hq]at C;cases C
      ·rw[if_neg hq]at C;cases C;have:=S.names _ B rfl;have L:=pE D;obtain⟨δ,L⟩:=L;dsimp only at this;rw[this]at L;have Z:(relabel scope X.env).names.lookup z=Y3p:=Yd3;have G:Y5a z:=this;exact S.nofl z D G
     ·exact .inl a
     ·exact .inr a
    ·obtain⟨o,e,r⟩:=g;exact Y1H (hk _ _ e) r
 cell:=λy c h=>by
  obtain⟨v,o,e,r⟩:=Y6p y (Y3A h);exact⟨v,o,hk _ _ e,r⟩
 free:=Y32
 freeC:=λy c h=>Y7U y (Y3A h)
 pin:=λp W=>by cases W
 hok:=I.hok.kept hk
 len:=by
  show(Y0v).length+1=N'.length;unfold slots;rw[aA,S.len]
def sZ.but{P:Program}{w:World}{H:Hp}{h h':Heap}{C:Addr}(x:sZ P w H h)(hC:H C=none)(k:∀b u,b≠C->Y29=Yo->Y1i=Yo):sZ P w H h':=λa o e =>
 (x a o e).stay (λb u c q=>k b u (by
  rcases c with rfl | c
  ·exact dR e hC
  ·exact dR c hC) q) (λ_ q=>q) Y8s
def KC{H2:Hp}{σ':St}{s2:Shared}{h'':Heap}(S:Y5L X x N' js)(I:Y4)(hf:∀b∈fp,Y3j)
  (J:cU (Yas X s H) [] σ' H2 s2) (hs:Yd1 s2.heap h''):Y27 H2 ({ s2 with heap:=h'' }):=by
 have g:Ydr=none:=J.free;have ne:∀{b:Addr} {o:Obj},Y23->Yav b:=λe q=>by
  have:=Y15;rw[q]at this;exact Y1N
 refine Yd8 ({ s2 with heap:=h'' }) fp (by rw[show({ s2 with heap:=h'' }:Shared).os=s2.os from rfl];exact J.os) ?_ g (λb u a q=>Y7D u a q) J.bare (λb a=>⟨(hf b a).2.2.2.1,(hf b a).2.1,(hf b a).2.2.2.2.1,(hf b a).2.2.2.2.2⟩);have U:=J.base;exact {
  keep:=λb o e n d c=>hs.extBut b o (ne e) (U.keep b o e n d c)
  slot:=λb o e n d c=>by
   obtain⟨sl,q⟩:=U.slot b o e n d c;exact⟨sl,Y7D _ (ne e) q⟩
  free:=U.free
  there:=λb o e c=>by
   obtain⟨h,q⟩:=U.there b o e c;exact⟨h,Y7D _ (ne e) q⟩
  tups:=U.tups
  frzs:=U.frzs
  tbls:=U.tbls }
end
abbrev UL:Yc:=YaQ
def sR{prog:Program}{w:World}{A:Around}{R:Result->Y0M}{s:Shared}{elt target iter:Expr}{ifs:Y0j}{scope:Scope}{pos:Pos}{it acc:Value}{env:Env}(I:Y03 Y0M)
  (turn:∀n s,I n s->wpAny (model prog w) A (pyNext it) (λr s₁=>match r with
   | none=>R (.ok .next) s₁
   | some v=>wpAny (model prog w) A (letOwnedTupleGo target it v) (λ_ s₁'=>wpAny (model prog w) A (assign target env v) (λ_ s₂ =>
     wpAny (model prog w) A (forIn ifs true λc r=>if r=true then do let ok <-isTrue c env (eval c env);pure (ForInStep.yield ok) else pure (ForInStep.yield r)) (λok s₃ =>
      if ok=true then wpAny (model prog w) A (eval elt env) (λx s₄=>wpAny (model prog w) A (call (.builtin "list.append") [acc,x]) (λ_ s₅=>∃m,m<n/\I m s₅) UL s₄) UL s₃
      else ∃m,m<n/\I m s₃) UL s₂) UL s₁') UL s₁) UL s)
  (n:Nat) (h:I n s):Y9t prog w A (.compLoop (Y1X [Y61 target 0]) 0 it acc env) R s:=by
 refine codeAny_loop rfl I (λn s i=>?_) n h;show wpAny _ A ((compTurn (.ListComp elt [⟨target,iter,ifs,0⟩] scope pos) 0 it acc env).onRaise (λx=>do noteFrame x env;theTreesLotGoes x)) _ _ s;refine wpAny_noted ?_;rw[compTurn_list];refine Ybs (YaJ (turn n s i) (λr s₁ g=>?_) a.elim);cases r with
 | none=>exact wpAny_pure g
 | some v =>
  refine YaJ g (λ_ s₁' d=>?_) a.elim;refine YaJ d (λ_ s₂ j=>YaJ j (λok s₃ e=>?_) a.elim) a.elim;cases ok with
  | false=>exact wpAny_pure (Y5 e)
  | true =>
   exact Ybp (wpAny_mono e (λx s₄ l=>YaJ l (λ_ s₅ p=>YcS (Y5 p)) a.elim) (λ_ _ a=>a.elim))
section
variable{X:Cx}{pins:Ad}{σ:St}{H:Hp}{s:Shared}{scope:Scope}{x:Str}{N':Ah}{js:Ae}{fp:Y0D}{elt iter:Expr}{px pos:Pos}{ifs:Y0j}{tc:TT}{te:TE}
def DF{J:It}{it:Addr}{tn:Y03 Y55}{RR:Y2w (Addr->Result->Y0M)}{E:Yc}{Q:VK}
  (S:Y5L X x N' js) (I:Y4) (T:DY X.prog X.w X.K (Y45) J fp it tn) (h0:Y9V 0) (hf:∀b∈fp,Y3j)
  (ht:Ya7 ifs tc) (he:Ya6 elt te)
  (R:∀D,H D=none->∃W:Nat->Nat->Al->Hp->Prop,(Y4H 0 m [] (Y3a D [])) /\
   ∀i m ys H2,W i m ys H2->H2 D=Y0c/\((Y7Y H2/\Y0N D H2)\/(Y5j H2/\Y9l/\∀x H3,Y6v i H2 x ->
    tc (Y7::Y0v) H3 λb H4=>if b=true then te (Y7::Y0v) H4 λy H5=>H5 D=Y0c/\∃m',m' < m/\W (i+1) m' (ys++[y]) (Y3Z H5 D (ys++[y]))
     else H4 D=Y0c/\∃m',m' < m/\W (i+1) m' ys H4)))
  (hRR:∀(D:Addr) (H3:Hp) (s3:Shared) (σ':St) (H':Hp) (s':Shared),Y27 H3 s3->(∀b∈fp,kQ X pins H3 b)->cU (Y3c X s3.heap.objs.size s3 H3) [] σ' H' s'->Y1a->YdT Y5d (.ok .next) s') :
  wpAny (Y4y) X.A (newList []) (λacc s₃=>wpAny (Y4y) X.A (Yc8 scope X.env.globals (Y7Z X) [] X.env.qual none .none X.env) (λcenv s₄ =>
   codeAny (Y4y) X.A (Ycl (Y1X [Y5b 0]) 0 acc ({ cenv with scope:=relabel scope X.env })) (RR acc cenv.locals) s₄) E s₃) E s:=by
 have N:∀b∈fp,Y3r b:=λb N=>by
  obtain⟨o,e,_⟩:=T.obj 0 _ h0 b N;exact Y15
 refine wpAny_newObj_type (wpAny_newFunctionEnv S.cell (by intro y ι;simp at ι) (λO L M=>?_) S.kind);have θ:YbJ=none:=Y32;obtain⟨W,⟨m0,ε⟩,ω⟩:=R _ θ;have I3:Y27 (Y2M []) ({ s with heap:=s.heap.push { cls:=.type "list",dict:=none,data:=.seq ([]:Ag).toArray } }):=Ye7 [] [] .nil Y0x;have l:∀b∈fp,kQ X pins (Y2M []) b:=λb a =>
  ⟨by rw[eO (λe=>by have:=N b a;rw[e]at this;exact Y1N)];exact(hf b a).1,(hf b a).2⟩
 have δ:∀b∈fp,b<(s.heap.push { cls:=.type "list",dict:=none,data:=.seq ([]:Ag).toArray }).objs.size:=λb a=>by
  rw[fW];exact Nat.lt_succ_of_lt (N b a)
 have d:∀b o,(s.heap.push { cls:=.type "list",dict:=none,data:=.seq ([]:Ag).toArray }).get? b=Ya->O.get? b=Ya:=λb o e =>
  M.extBut b o (λq=>by have:=Y15;rw[q]at this;exact Y1N) (Y2I)
 have J4:=aBQ (h':=O) (tk:=s.toks+([]:List (Str × Value)).length) S I3 l δ L d;have ν:tn 0 O:=T.keep 0 _ _ h0 λb a o e=>d b o (Y2I);have g:codeAny (Y4y) X.A (.compLoop (Y1X [Y5b 0]) 0 (Y6e) (Y0I) (YaU (Y7Z X) ((s.heap.push { cls:=.type "list",dict:=none,data:=.seq ([]:Ag).toArray }).objs.size) X.env))
   (RR (Y0I) (s.heap.push { cls:=.type "list",dict:=none,data:=.seq ([]:Ag).toArray }).objs.size) { s with heap:=O,toks:=s.toks+([]:List (Str × Value)).length }:=by
  refine sR (λn s'=>∃(i:Nat) (ys:Al) (H2:Hp) (o:Am),cU (Y3c X _ _ _) [] (o::Y0v) H2 s'/\tn i s'.heap/\(∀b∈fp,H2 b=none)/\W i n ys H2) ?_ m0 ⟨0,[],_,none,J4,ν,λb a=>(l b a).1,ε⟩;rintro n s' ⟨i,ys,H2,o,J2,ρ,f2,w2⟩;obtain⟨hD,h⟩:=ω i n ys H2 w2;have ξ:∀b∈fp,kQ (Y3c X ((s.heap.push { cls:=.type "list",dict:=none,data:=.seq ([]:Ag).toArray }).objs.size) ({ s with heap:=s.heap.push { cls:=.type "list",dict:=none,data:=.seq ([]:Ag).toArray } }) (Y2M [])) [] H2 b:=λb a =>
   ⟨f2 b a,(Y9C a).1,J2.ok.exfs b a,.inl a,(Y9C a).2,λp γ=>by cases γ⟩
  rcases h with⟨B,hq⟩ | ⟨U,χ,z⟩
  ·refine Y2q (T.done (Y3c X _ _ _) rfl rfl rfl rfl i [] s' _ H2 UL J2 ξ ρ B) (λr s1 ⟨β,J5⟩=>?_);subst β;exact hRR _ _ _ _ _ _ I3 l J5 hq
  ·refine Y2q (T.item (Y3c X _ _ _) rfl rfl rfl rfl i [] s' _ H2 UL J2 ξ ρ U) (λr s1 ⟨u,β,hx⟩=>?_);subst β;refine Y2q hx (λ_ υ ⟨v,H3,J3,rv,ι,η,ψ⟩=>?_);have Y:∀b∈fp,kQ (Y3c X ((s.heap.push { cls:=.type "list",dict:=none,data:=.seq ([]:Ag).toArray }).objs.size) ({ s with heap:=s.heap.push { cls:=.type "list",dict:=none,data:=.seq ([]:Ag).toArray } }) (Y2M [])) [] H3 b:=λb a =>
    ⟨ψ b a,(Y9D a).1,J3.ok.exfs b a,.inl a,(Y9D a).2,λp γ=>by cases γ⟩
   have P3:=J3.pinned Y (T.obj (i+1) _ η);have c:∀{σ':St} {Hx:Hp} {sx:Shared},cU (Y3c X ((s.heap.push { cls:=.type "list",dict:=none,data:=.seq ([]:Ag).toArray }).objs.size) ({ s with heap:=s.heap.push { cls:=.type "list",dict:=none,data:=.seq ([]:Ag).toArray } }) (Y2M [])) ([]++vQ fp υ.heap) σ' Hx sx->tn (i+1) sx.heap/\∀b∈fp,Hx b=none:=λο =>
    ⟨T.keep (i+1) _ _ η λb a μ e=>(ο.pin (b,μ) (bL _ (bL _ (kB a e)))).1,λb a=>by
     obtain⟨μ,e,_⟩:=T.obj (i+1) _ η b a;exact(ο.pin (b,μ) (bL _ (bL _ (kB a e)))).2.1⟩
   refine wpAny_assign_Name (qN P3 (i:=0) (x:=x) (v:=v) ?nd ?hi ?hx rv (λs5 J5=>?_) ?hfn)
   case nd=>exact S.nd
   case hi=>exact S.zero
   case hx=>exact .inl (lookup_relabel_local S.own)
   case hfn=>exact .inr (lookup_relabel_local S.own)
   have J5':cU _ _ (Ys::Y0v) H3 s5:=J5;refine Y2q (ht _ _ _ _ _ _ _ _ _ J5' (z v H3 ι)) (λok s6 ⟨H6,J6,G⟩=>?_);dsimp only at G;by_cases hok:ok=true
   ·rw[if_pos hok]at G ⊢;refine Y2q (he _ _ _ _ _ _ _ _ _ J6 G) (λy s7 ⟨P,H7,J7,τ,ζ,m',j,α⟩=>?_);refine Y2q (uS (X:=Y3c X _ _ _) _ _ _ _ (Y0I) [P] (Y0I) [y] (λ_ H8=>H8=YdV H7 (.lst (ys++[P]))) J7 rfl (Y7I τ) (Y0F _ _ _ rfl ζ χ rfl)) (λ_ s8 ⟨_,H8,J8,_,φ⟩=>?_);subst φ;obtain⟨Z,κ⟩:=c J8;exact⟨m',j,i+1,ys++[P],_,Ys,J8.unpinned,Z,κ,α⟩
   ·rw[if_neg hok]at G ⊢;obtain⟨_,m',j,α⟩:=G;obtain⟨Z,κ⟩:=c J6;exact⟨m',j,i+1,ys,_,Ys,J6.unpinned,Z,κ,α⟩
 refine Ydm g X.A 0 _ _ _ ν g
def aBn{wi:TI}(S:Y5L X x N' js)(hi:PI X (Y45) iter wi)(ht:Ya7 ifs tc)(he:Ya6 elt te)
  (hs:∀x,Y56 x=Y4I:=by intro _;rfl):Yn (Y1X [Y5b 0]) (VQ wi js tc te):=by
 intro a s σ H Q I h;rw[eval_ListComp];refine Ye5 none rfl hs (kZ (Y8Y)) S.kind (Y4T (hi a s σ H _ I h) (λv B g=>?_) e);refine Y4T g (λj w ⟨z,fp,p,J,H2,e,I2,T,i,n,R⟩=>?_) e;subst e;refine DF S I2 T i n ht he R ?_;intro D H3 A u H' r I3 c J3 q;obtain⟨m,l,_⟩:=J3.loc;exact⟨m,l,λy d=>Y1h Y5d H' (KC S I3 c J3 d) q⟩
def MO{wi:TI}{y:Str}{py spos:Pos}{i:Nat}(S:Y5L X x N' js)(hN:X.N.Nodup)(hiN:Y35=Y09)(hy:Y52 y Y3p)(hi:PI X (Y45) iter wi)(ht:Ya7 ifs tc)(he:Ya6 elt te)
  (hsw:YcF (Y1X [Y5b 0]) (some (Y2H)) spos.line=pure true) (hs:∀x,Y56 x=Y4I:=by intro _;rfl) :
  PS X (.Assign [Y2H] (Y1X [Y5b 0]) spos) (DR (VQ wi js tc te) (oE i)):=by
 intro d s σ H D0 I h;rw[exec_Assign_Name_used _ _ _ _ hsw];refine Ybs Y4W;show wpAny _ X.A (do let _ <-comprehension (.ListComp elt [⟨.Name x px,iter,ifs,0⟩] scope pos) scope X.env _ (newList []) false (eval iter X.env) (some (assign (.Name y py) X.env))) _ _ s;refine wpAny_bind (Y4T (wpAny_comprehension_free (use:=some (Y9w Y2H)) (Q:=λ_ l=>SP X d D0 .next l) rfl hs (kZ (Y8Y)) S.kind S.names (Y4T (hi d s σ H _ I h) (λv η W=>?_) e)) (λ_ l P=>YcS P) e);refine Y4T W (λZ ε ⟨it,fp,γ,J,H2,e,I2,T,Y,β,R⟩=>?_) e;subst e;refine DF (Q:=λv H'=>oE i v σ H' D0.nx) S I2 T Y β ht he R ?_;intro D H3 L δ H' l I3 r J3 q;obtain⟨m,α,_⟩:=J3.loc;have IX:cU X d σ H' l:=KC S I3 r J3 (Heap.SameBut.refl ..);have j:Y4p L.heap.objs.size:=λe=>by have:=I3.lt;rw[e]at this;exact Y1N
 show wpAny _ X.A (assign (Y2H) X.env (Y5d)) _ _ _;refine wpAny_assign_Name (xZ IX hN hiN (.inl hy) (v:=Y5d) rfl (λM I5 g=>?_) (.inr hy));obtain⟨a,g,B⟩:=g;have w:L.heap.objs.size≠a:=by
  rcases B with rfl | B
  ·exact j
  ·intro e;obtain⟨v,o,u,_⟩:=I3.cell y a B;have:=aY u;rw[<-e]at this;exact Y1N
 refine⟨m,α.sameBut g w,λζ G=>⟨_,H',?_,q⟩⟩;exact I5.turned (it:=L.heap.objs.size) (t':=M.toks) (λb o n e=>G.extBut b o n e) J3.free j (.inr I3.sz)
  (λz c O e=>by
   obtain⟨v,o,u,_⟩:=I3.cell z c O;have:=aY u;rw[e]at this;exact Y1N)
  (λp U e=>by
   have:=aY (I3.pin p U).1;rw[e]at this;exact Y1N)
end
structure LA(X:Cx)(ifs:Y0j)(t:TT):Prop where p:RG X ifs t
def BF(t:TE):TE:=λσ H Q=>∃Q':VK,t σ H Q'/\∀v H1,Q' v H1->Q v H1
def PE.mono{X:Cx}{e:Expr}{t:TE}(h:Yn e t):Yn e (BF t):=λa s σ H Q I ⟨Q',d,c⟩ =>
 thn (h a s σ H Q' I d) λb g ⟨v,H',I',r,q⟩=>⟨v,H',I',r,c _ _ q⟩
def RG.mono{X:Cx}{es:Y0j}{t:TT}(h:RG X es t):RG X es (vH t):=λa s σ H Q I ⟨Q',d,c⟩ =>
 thn (h a s σ H Q' I d) λb e ⟨H',I',q⟩=>⟨H',I',c _ _ q⟩
@[irreducible] def pK(J:It)(σ:St)(js:Ae)(tc:TT)(te:TE)(H1:Hp)(Q:VK):Prop:=∀D,H1 D=none->∃W:Nat->Nat->Al->Hp->Prop,(Y4H 0 m [] (Y3Z H1 D [])) /\
 ∀i m ys H2,W i m ys H2->H2 D=Y0c/\((Y7Y H2/\Y0N D H2)\/(Y5j H2/\Y9l/\∀x H3,Y6v i H2 x ->
  vH tc (Y7::Y0v) H3 λb H4=>if b=true then BF te (Y7::Y0v) H4 λy H5=>H5 D=Y0c/\∃m',m' < m/\W (i+1) m' (ys++[y]) (Y3Z H5 D (ys++[y]))
   else H4 D=Y0c/\∃m',m' < m/\W (i+1) m' ys H4))
def xW(wi:TI)(js:Ae)(tc:TT)(te:TE):TE:=λσ H Q=>wi σ H λJ H1=>pK J σ js tc te H1 Q
section
variable{X:Cx}{scope:Scope}{x y:Str}{N':Ah}{js:Ae}{elt iter c:Expr}{px py pos spos:Pos}{ifs:Y0j}{tc:TT}{te:TE}{wi:TI}{i:Nat}
def cT:LA X [] zN:=⟨pts_nil⟩
def OE{t:TT}(h:NW X c t):LA X [c] t:=⟨aA9 h.p⟩
def fF(S:Y5L X x N' js)(hi:NY X (Y45) iter wi)(ht:Yaq Y2D ifs tc)(he:Yap Y2D elt te)
  (hs:∀x,Y56 x=Y4I:=by intro _;rfl):Yh (Y1X [Y5b 0]) (xW wi js tc te) :=
 ⟨by unfold xW pK;exact aBn S hi.p (λC fp s₀ H₀=>(ht C fp s₀ H₀).p.mono) (λC fp s₀ H₀=>(he C fp s₀ H₀).p.mono) hs⟩
def iP(S:Y5L X x N' js)(hN:X.N.Nodup)(hiN:Y35=Y09)(hy:Y52 y Y3p)(hi:NY X (Y45) iter wi)(ht:Yaq Y2D ifs tc)(he:Yap Y2D elt te)
  (hsw:YcF (Y1X [Y5b 0]) (some (Y2H)) spos.line=pure true:=by rfl) (hs:∀x,Y56 x=Y4I:=by intro _;rfl) :
  IB X (.Assign [Y2H] (Y1X [Y5b 0]) spos) (DR (xW wi js tc te) (oE i)) :=
 ⟨by unfold xW pK;exact MO S hN hiN hy hi.p (λC fp s₀ H₀=>(ht C fp s₀ H₀).p.mono) (λC fp s₀ H₀=>(he C fp s₀ H₀).p.mono) hsw hs⟩
end
def ZG(psc scope:Scope)(N:Ah)(x:Str)(N':Ah)(js:Ae):Bool :=
 (Y5V (!(Y8T y.2) || psc.names.lookup y.1 == Y1C))&&(Y5V (!(Y7X y.2)))&&scope.kind == .function &&
 (Y5V (!(y.2 == .local) || Y87 y.1))&&Y87 x &&
 (Y5V (!(Y8T y.2) || !(Y87 y.1)))&&N'.length == js.length+1&&N'[0]? == Y7&&decide N'.Nodup &&
 ((List.range js.length).all λi=>match js[i]?,N'[i+1]? with
  | some j,some y=>N[j]? == some y&&scope.names.contains (y,NameKind.free)
  | _,_=>false)
def dB.of{X:Cx}{psc scope:Scope}{N:Ah}{x:Str}{N':Ah}{js:Ae}(h:ZG psc scope N x N' js=true)(hX:X.env.scope=psc)(hN:X.N=N)(hc:Y1F):Y5L X x N' js:=by
 unfold ZG at h;simp only[dG]at h;obtain⟨⟨⟨⟨⟨⟨⟨⟨⟨l,d⟩,s⟩,n⟩,u⟩,g⟩,w⟩,z⟩,p⟩,c⟩:=h;rw[List.all_eq_true]at l d n g c;refine⟨hc,Y5Z,Y5Z,by simpa using s,Y5Z,by simpa using u,Y5Z,by simpa using w,by simpa using z,of_decide_eq_true p,λi j m=>?_⟩
 ·have:=l y a;rw[e]at this;show YcE y.1 _;rw[hX];simpa using this
 ·have:=d y a;rw[e]at this;simp at this
 ·have:=n y a;rw[e]at this;simpa using this
 ·have:=g _ a;rw[e]at this;simp at this
 ·have r:Y9U i:=(aB.mp m).1;have:=c i (cC.mpr r);rw[m]at this;cases q:N'[i+1]? with
  | none=>rw[q]at this;simp at this
  | some y =>
   rw[q]at this;simp only[dG]at this;exact Yd5 y (by rw[hN];simpa using this.1) this.2
def dB.o{X:Cx}{scope:Scope}{x:Str}(N':Ah)(js:Ae)(h:ZG X.env.scope scope X.N x N' js=true:=by exact Eq.refl true)(hc:Y1F:=by rfl):Y5L X x N' js:=dB.of h rfl rfl hc
section
variable{js:Ae}{te:TE}{tc:TT}{σ:St}{H:Hp}{Q:VK}
def KG{J:It}{n:Nat}(src:Y03 (Y0C V))(hz:n<=100000)(Pv:Addr->Y7i Al)
  (h0:∀D H1,H D=none->H1 D=Yl []->aT H H1->Pv D 0 [] H1)
  (hg:∀D i ys H',i<n->Y0G=Y0c->Pv D i ys H'->Y5j H'/\∀x H3,Y6v i H' x->H3=H'/\src i x)
  (hst:Y3f (Y0G=Y0c) (Pv D n ys H'->J.stop n H'))
  (hs:∀D i x ys H',src i x->i<n->Y2x i->Y0G=Y0c->Pv D i ys H'->te (Y7::Y0v) H' λy H5=>H5 D=Y0c/\∀H6,H6 D=Yl (ys++[y])->aU D H5 H6->Pv D (i+1) (ys++[y]) H6)
  (hd:Y3f (Y2x n) (H D=none->Y0G=Y0c->Pv D n ys H'->Y1a)) :
  pK J σ js zN te H Q:=by
 unfold pK;intro D g;refine Y0b (λi m ys H'=>m=n-i/\i<=n/\Y2x i/\Y0G=Y0c/\Pv D i ys H') (Y6n n (by simp) Y0x bK (h0 D _ g bK (aT.upd g)));rintro i m ys H2 ⟨rfl,s,c,a,p⟩;refine Y0A a;by_cases hlt:i<n
 ·obtain⟨j,r⟩:=hg D i ys H2 hlt a p;refine .inr ⟨j,Ycd Oo Dd,λx H3 d=>?_⟩;obtain⟨rfl,l⟩:=r x H3 d;refine Y0b (λb H4=>b=true/\H4=H3) Y6w;rintro b H4 ⟨rfl,rfl⟩;rw[Yt];refine Y0b _ (hs D i x ys H4 l hlt c a p);rintro v H5 ⟨h,k⟩;exact⟨h,n-(i+1),Oo,rfl,hlt,by rw[aV,c];rfl,bK,k _ bK aU.self⟩
 ·have e:i=n:=Oo;subst e;exact Y2k (hst D ys H2 a p) (hd D ys H2 c g a p)
end
@[irreducible] def MK(K:Aa):Y1B:=λxs H Q=>∃(p:Addr) (ns:Af),xs=[Y0Z]/\Y5J K H p/\Ybh
@[irreducible] def SE(b:Bool):R2:=λx y H Q=>∃d d',dI H d x/\dI H d' y/\Y5H d/\Y5H d'/\Y2N (b == Ycs d)
section
variable{X:Cx}
def NM(hc:Y1F):Y4Y X "sum" (MK X.K):=by
 unfold MK;intro g s σ H G A Q I r h;obtain⟨p,z,rfl,m,q⟩:=h;obtain⟨u,rfl,l⟩:=nM r;cases l;obtain⟨a,w,d,C⟩:=I.list m;have i:=vY w;obtain⟨c,e⟩:=i.allInts.items;rw[e]at d;refine sum_intListG (Y8B) d.isList λD B y j=>⟨.int z.sum,H,I.kept j,Y0A y,q⟩;rw[preSum_eq,List.take_of_length_le (by simp)];rw[<-i.numsOf];have n:a=(intItems c).toList:=by rw[<-e]
 rw[n,nums_intItems]
def rsI{K:Aa}{H:Hp}{p:Addr}{ns:Af}{Q:VK}(h:Y5J K H p)(q:Ybh):MK K [Y0Z] H Q:=by unfold MK;exact Y0h p ns h q
def aEF(hu:Y4v 64<cLine):Y3s X .Eq (SE true):=by
 unfold SE;intro a s σ H x y v u Q I e c h;obtain⟨d,p,l,j,n,m,q⟩:=h;obtain⟨r,g⟩:=l.reads I e;obtain⟨bs,i⟩:=j.reads I c;exact SeqAt.compareEq_shaped g i n m hu ⟨.bl _,H,I,by show _=_;simp,q⟩
def XJ(hu:Y4v 64<cLine):Y3s X .NotEq (SE false):=by
 unfold SE;intro a s σ H x y v u Q I e c h;obtain⟨d,p,l,j,n,m,q⟩:=h;obtain⟨r,g⟩:=l.reads I e;obtain⟨bs,i⟩:=j.reads I c;exact SeqAt.compareNe_shaped g i n m hu ⟨.bl _,H,I,by show _=_;simp,q⟩
def reD{b:Bool}{x y:V}{d d':PyData}{H:Hp}{Q:VK}(h1:dI H d x)(h2:dI H d' y)(s1:Y5H d)(s2:Y5H d')(q:Y2N (b == Ycs d)):SE b x y H Q:=by
 unfold SE;exact⟨d,d',h1,h2,s1,s2,q⟩
end
mutual
def kF:Y2K PyData
 | .list _=>false
 | .dict _=>false
 | .tuple ds=>kE ds
 | _=>true
def kE:Y2K Y1p
 | []=>true
 | d::ds=>kF d&&kE ds
end
def eZ(H H':Hp):Prop:=∀b xs,H b=Y1d->H' b=Y1d
def eZ.trans{H H1 H2:Hp}(a:eZ H H1)(b:eZ H1 H2):eZ H H2:=λc o h=>b c o (a c o h)
def aT.t{H H':Hp}(s:Y1):Y2o:=λb a h=>s _ _ h
def aU.t{H H':Hp}{p:Addr}(s:Y1e){xs:Al}(hp:H p=Y0P):Y2o:=Yct (sW h hp (by intro z;cases z)) h
mutual
theorem dI.flat{H H':Hp}(s:Y2o):∀{d:PyData}{v:V},kF d=true->dI H d v->dI H' d v
 | .none,_,_,h=>h
 | .bool _,_,_,h=>h
 | .int _,_,_,h=>h
 | .str _,_,_,h=>h
 | .list _,_,f,_=>by simp[kF]at f
 | .dict _,_,f,_=>by simp[kF]at f
 | .tuple ds,_,f,h=>by
  unfold dI at h ⊢;obtain⟨a,ys,rfl,h1,h2⟩:=h;exact⟨a,ys,rfl,s _ _ h1,bI.flat s (by simpa[kF]using f) h2⟩
theorem bI.flat{H H':Hp}(s:Y2o):∀{ds:Y1p}{vs:Al},kE ds=true->Y6J->bI H' ds vs
 | [],_,_,h=>h
 | d::ds,_,f,h=>by
  unfold bI at h ⊢;obtain⟨x,ys,rfl,h1,h2⟩:=h;simp only[kE,dG]at f;exact⟨x,ys,rfl,dI.flat s f.1 h1,bI.flat s f.2 h2⟩
end
theorem bI.get{H:Hp}:∀{ds:Y1p}{vs:Al}{i:Nat}{v:V},Y6J->vs[i]?=Ys->∃d,ds[i]?=some d/\dI H d v
 | [],_,i,v,h,e=>by cases(show _=[]from h);simp at e
 | d::ds,_,i,v,h,e=>by
  unfold bI at h;obtain⟨x,ys,rfl,h1,h2⟩:=h;cases i with
  | zero=>simp at e;subst e;exact⟨d,rfl,h1⟩
  | succ i =>
   rw[List.getElem?_cons_succ]at e ⊢;exact bI.get h2 e
theorem bI.get'{H:Hp}:∀{ds:Y1p}{vs:Al}{i:Nat}{d:PyData},Y6J->ds[i]?=some d->∃v,vs[i]?=Ys/\dI H d v
 | [],_,i,d,h,e=>by simp at e
 | d' :: ds,_,i,d,h,e=>by
  unfold bI at h;obtain⟨x,ys,rfl,h1,h2⟩:=h;cases i with
  | zero=>simp at e;subst e;exact⟨x,rfl,h1⟩
  | succ i =>
   rw[List.getElem?_cons_succ]at e ⊢;exact bI.get' h2 e
def bI.snoc{H:Hp}{ds:Y1p}{vs:Al}{d:PyData}{v:V}(h:Y6J)(r:dI H d v):Y1f (ds++[d]) (vs++[v]):=bI.append (Y6P r) h
def NQ{i:Int}{n:Nat}(h:i.natAbs<2^n):bits i<=n:=PySem.intBits_le_iff.mpr h
def mC{i j:Int}{n m:Nat}(h1:i.natAbs<2^n)(h2:j.natAbs<2^m)(hn:n<=1048576:=by decide)(hm:m<=1048576:=by decide):IntMulOk i j:=by
 refine IntMulOk.of_bits ?_ ?_
 ·exact aJ (NQ h1) hn
 ·exact aJ (NQ h2) hm
section
variable{X:Cx}(K:Aa)
def iA(h:X.K=K:=by rfl):IxR X (rIx K):=by subst h;exact bJ
def aBW(h:X.K=K:=by rfl):Y4Y X "len" (MM K):=by subst h;exact oA
def aBU(hc:Y1F)(h:X.K=K:=by rfl):Y4Y X "sum" (MK K):=by subst h;exact NM hc
end
end L2
namespace L2
open PySem
def rS(b:Bool)(h:Heap)(i l:Addr)(k:Nat):Prop:=∃o,h.get? i=Ya/\o.cls=.type (bif b then "tuple_iterator" else "list_iterator")/\o.data=.fields #[Y11,.int k 0]
def nC(b:Bool)(h:Heap)(l:Addr)(xs:Ai):Prop:=∃o,h.get? l=Ya/\o.cls=.type (bif b then "tuple" else "list")/\∃n,o.data=.seq xs n
def rS.at{b:Bool}{h h':Heap}{i l:Addr}{k:Nat}(x:rS b h i l k)(f:∀o,h.get? i=Ya->Y4E i):rS b h' i l k:=let ⟨o,ho,r⟩:=x;Y1H (f o ho) r
def nC.at{b:Bool}{h h':Heap}{l:Addr}{xs:Ai}(x:nC b h l xs)(f:∀o,h.get? l=Ya->Y4E l):nC b h' l xs:=let ⟨o,ho,r⟩:=x;Y1H (f o ho) r
section
variable{prog:Program}{w:World}{A:Around}{E:Yc}{s:Shared}
def AL{b:Bool}{it l:Addr}{i:Nat}{items:Ai}{x:Value}{Q:Yc}(hit:rS b s.heap it l i)(hl:Y28 b l items)(hx:items[i]?=Y7)
  (hQ:∀h',rS b h' it l (i+1)->Yau it h'->Q x { s with heap:=h' }):Y21 (Yag it):=by
 cases b with
 | false=>exact wpAny_nextOf_list_item hit hl hx hQ
 | true =>
  have e:s.heap.IsTupleIter it l i:=hit;obtain⟨o,a,g,hd⟩:=id e;obtain⟨j,c,_,h,d⟩:=hl;unfold Builtin.SmallTypes.nextOf;refine wpAny_bind (Y8n "__next__" e.typeIs F.slot_tuple_iterator_next F.slot_tuple_iterator_next e.typeIs F.entry_tuple_iterator_next ?_ (F.args_tuple_iterator_next_1 _));show Y3m (Y5t it 0 >>= _);refine Y8m a hd Y11 ?_;show Y3m (if(Value.ref l == Value.none)=true then _ else _);rw[if_neg (show ¬((Value.ref l == Value.none)=true)from cE)];show Y3m (Y5t it 1 >>= _);refine Y8m a hd (.int i 0) ?_;show Y3m (seqItems? (Y11) >>= _);refine Y8a c d ?_;simp only[Int.toNat_natCast,hx];refine wpAny_bind (wpAny_setField a hd (by simp) (wpAny_pure (Y00 x (wpAny_pure (hQ _ ?_ (Heap.SameBut.update ..))))));refine Y3U _ (Heap.get?_update_self _ a (Obj.isFreed_of_fields (Obj.data_mapFields hd _))) ((Obj.cls_mapFields ..).trans g);rw[Obj.data_mapFields hd];simp[rawInt]
def MS{b:Bool}{it l:Addr}{i:Nat}{items:Ai}{Q:Yc}(hh:Y6k)(hit:rS b s.heap it l i)(hl:Y28 b l items)(hx:items[i]?=none)
  (hE:∀h' e,Ycu it s.heap->(∃o,Y4E e/\o.cls=.type "StopIteration")->E (.ref e) { s with heap:=h' }):Y21 (Yag it):=by
 cases b with
 | false=>exact wpAny_nextOf_list_end hh hit hl hx hE
 | true =>
  have h:s.heap.IsTupleIter it l i:=hit;obtain⟨o,g,n,hd⟩:=id h;obtain⟨p,c,_,j,d⟩:=hl;unfold Builtin.SmallTypes.nextOf;refine wpAny_bind (Y8n "__next__" h.typeIs F.slot_tuple_iterator_next F.slot_tuple_iterator_next h.typeIs F.entry_tuple_iterator_next ?_ (F.args_tuple_iterator_next_1 _));show Y3m (Y5t it 0 >>= _);refine Y8m g hd Y11 ?_;show Y3m (if(Value.ref l == Value.none)=true then _ else _);rw[if_neg (show ¬((Value.ref l == Value.none)=true)from cE)];show Y3m (Y5t it 1 >>= _);refine Y8m g hd (.int i 0) ?_;show Y3m (seqItems? (Y11) >>= _);refine Y8a c d ?_;simp only[Int.toNat_natCast,hx];refine Yal (wpAny_bind (wpAny_setField g hd (by simp) ?_));show Y39 (newExc (.type "StopIteration") [] >>= _);refine Y4W;simp only[newExc,newTuple];refine wpAny_bind (Ydt (by size_fits));refine wpAny_bind (m:=firstArgMember _ _) (wpAny_of_eq (a:=Value.none) (by first | rfl | (simp only[firstArgMember];rfl)) ?_);refine Ydt (by size_fits);simp only[raiseNew];refine wpAny_bind (wpAny_handled ?_)
  first | rw[show A.in1.handled=none from hh] | rw[hh]
  refine Y3Y (wpAny_throw ?_);exact hE _ _ (((Heap.SameBut.update ..).extBut.push _).push _) (Y0R Y0Q)
structure ZAt(b1 b2:Bool)(z TI TO i1 i2 l1 l2:Addr)(f:Value)(k:Nat)(h:Heap):Prop where
 z:IsZip h z TI TO f
 ti:IsPair h TI (.ref i1) (.ref i2)
 to:∃a b,IsPair h TO a b
 i1:rS b1 h i1 l1 k
 i2:rS b2 h i2 l2 k
def RM{b1 b2:Bool}{z TI TO i1 i2 l1 l2:Addr}{k:Nat}{xs ys:Ai}{x y:Value}{Q:Yc}(D:ZipApart z TI TO i1 i2 l1 l2)(Z:ZAt b1 b2 z TI TO i1 i2 l1 l2 .none k s.heap)
  (hl1:Y28 b1 l1 xs) (hl2:Y28 b2 l2 ys) (hx:Y2h k=Y7) (hy:ys[k]?=Y09)
  (hQ:∀h',ZAt b1 b2 z TI TO i1 i2 l1 l2 (rawInt s.heap.objs.size) (k+1) h'->IsPair h' s.heap.objs.size x y->(∀c o,c≠z->c≠TO->c≠i1->c≠i2->Y3u c->Y4E c)->Q (Y0I) { s with heap:=h' }) :
  wpAny (model prog w) A (Builtin.«zip.__next__» ⟨[.ref z],[]⟩) (λfin s'=>∃v,fin=Ycz v/\Q v s') E s:=by
 obtain⟨J,C,⟨a,b,η⟩,τ,ν⟩:=Z;show Y39 (Y5t z 2 >>= _);refine Y48 J (.bool false) ?_;show Y39 (Y5t z 3 >>= _);refine Y48 J (.ref TI) ?_;refine Y8a C rfl ?_;show Y39 (Ye0 z >>= _);refine Y4W;unfold Builtin.SmallTypes.ownedTupleIsFree;refine Y48 J .none Y2r;simp only[if_true];refine Yal ?_;refine Y48 J (.ref TO) ?_;refine Y92 J (by simp) (λυ r U=>?_);have u:=U.extBut;replace r:Y9n υ z TI TO:=r;refine Y4W;simp only[List.zipIdx_cons,List.zipIdx_nil,List.forIn_cons,List.forIn_nil];refine YbI ?_;show Y39 (Yag i1 >>= _);refine Ycx (τ.at λo e=>u _ o D.i1z e) (hl1.at λo e=>u _ o D.l1z e) hx (λξ ι T=>Y2r);have B:=T.extBut;have m:IsPair ξ TO a b:=B _ _ D.TOi1 (u _ _ D.TOz η);refine Y8a m rfl ?_;refine Ye4 m (λμ h S=>?_);have G:=S.extBut;replace h:IsPair μ TO x b:=h;refine YcQ Y2r;refine YbI ?_;show Y39 (Yag i2 >>= _)
 refine Ycx (ν.at λo e=>G _ o D.TOi2.symm (B _ o D.i12.symm (u _ o D.i2z e))) (hl2.at λo e=>G _ o D.l2TO (B _ o D.l2i1 (u _ o D.l2z e))) hy (λρ θ L=>Y2r);have Y:=L.extBut;have l:IsPair ρ TO x b:=Y _ _ D.TOi2 h;refine Y8a l rfl ?_;refine Ye4 l (λg d N=>?_);have α:=N.extBut;replace d:IsPair g TO x y:=d;refine YcQ (wpAny_pure (Y2r));refine Y8a d rfl ?_;refine wpAny_bind (wpAny_newTuple ?_);have I:g.objs.size=s.heap.objs.size:=by rw[N.1,L.1,S.1,T.1,U.1]
 have W:Y9n g z TI TO:=α _ _ D.TOz.symm (Y _ _ D.i2z.symm (G _ _ D.TOz.symm (B _ _ D.i1z.symm r)));have O:∀c o,c≠z->c≠TO->c≠i1->c≠i2->Y3u c->g.get? c=Ya:=λc o p X δ ζ e=>α _ _ X (Y _ _ ζ (G _ _ X (B _ _ δ (u _ _ p e))));have ε:rS b1 g i1 l1 (k+1):=ι.at λo e=>α _ o D.TOi1.symm (Y _ o D.i12 (G _ o D.TOi1.symm e));have γ:rS b2 g i2 l2 (k+1):=θ.at λo e=>α _ o D.TOi2.symm e;have j:=aY W;show Y39 (Builtin.SmallTypes.ownedTupleHandOut (.ref z) (.ref g.objs.size) >>= _);refine Y4W;unfold Builtin.SmallTypes.ownedTupleHandOut;have κ:Y9n (g.push { cls:=.type "tuple",data:=.seq #[x,y] }) z TI TO:=Y1G W;refine Y92 κ (by simp) (λο n P=>?_);replace n:IsZip ο z TI TO (rawInt g.objs.size):=n;refine wpAny_setField_rec n (by simp) λβ i M=>?_;replace i:IsZip β z TI TO (rawInt g.objs.size):=i;have up:∀c o,c≠z->g.get? c=Ya->β.get? c=Ya:=λc o p e=>M.extBut _ _ p (P.extBut _ _ p (Y2I));have R:IsPair β g.objs.size x y:=M.extBut _ _ (Nat.ne_of_gt j) (P.extBut _ _ (Nat.ne_of_gt j) (Y0Q));rw[I]at i R;refine wpAny_pure Y9;show Y0N g.objs.size _;rw[I]
 exact hQ β ⟨i,up _ _ D.TIz (O _ _ D.TIz D.TITO D.TIi1 D.TIi2 C),Y0U _ (up _ _ D.TOz d),ε.at λo e=>up _ o D.i1z e,γ.at λo e=>up _ o D.i2z e⟩ R λc o p X δ ζ e=>up c o p (O c o p X δ ζ e)
def UN{b1 b2:Bool}{z TI TO i1 i2 l1 l2:Addr}{k:Nat}{xs ys:Ai}{Q:Fin->Y0M}(hh:Y6k)(D:ZipApart z TI TO i1 i2 l1 l2)(Z:ZAt b1 b2 z TI TO i1 i2 l1 l2 .none k s.heap)
  (hl1:Y28 b1 l1 xs) (hl2:Y28 b2 l2 ys) (hend:Y2h k=none\/ys[k]?=none)
  (hE:∀h' e,(∀c o,c≠z->c≠TO->c≠i1->c≠i2->Y3u c->Y4E c)->(∃o,Y4E e/\o.cls=.type "StopIteration")->E (.ref e) { s with heap:=h' }) :
  Y21 (Builtin.«zip.__next__» ⟨[.ref z],[]⟩):=by
 obtain⟨y,L,⟨a,b,N⟩,U,β⟩:=Z;show Y39 (Y5t z 2 >>= _);refine Y48 y (.bool false) ?_;show Y39 (Y5t z 3 >>= _);refine Y48 y (.ref TI) ?_;refine Y8a L rfl ?_;show Y39 (Ye0 z >>= _);refine Y4W;unfold Builtin.SmallTypes.ownedTupleIsFree;refine Y48 y .none Y2r;simp only[if_true];refine Yal ?_;refine Y48 y (.ref TO) ?_;refine Y92 y (by simp) (λδ i S=>?_);have j:=S.extBut;replace i:Y9n δ z TI TO:=i;refine Y4W;simp only[List.zipIdx_cons,List.zipIdx_nil,List.forIn_cons,List.forIn_nil];refine YbI ?_;show Y39 (Yag i1 >>= _);cases hx:Y2h k with
 | none =>
  refine wpAny_bind (MS hh (U.at λo e=>j _ o D.i1z e) (hl1.at λo e=>j _ o D.l1z e) hx λO e m R=>?_);obtain⟨P,d,g⟩:=R;have G:Y9n O z TI TO:=m _ _ D.i1z.symm i;have p:e≠z:=λx=>by subst x;rw[G]at d;cases d;simp at g
  exact wpAny_setField_rec G (by simp) λT _ l=>hE T e (λc o I _ M _ x=>l.extBut _ _ I (m _ _ M (j _ _ I x))) ⟨P,l.extBut _ _ p d,g⟩
 | some x =>
  have X:ys[k]?=none:=by
   rcases hend with h | h
   ·rw[hx]at h;cases h
   ·exact h
  refine Ycx (U.at λo e=>j _ o D.i1z e) (hl1.at λo e=>j _ o D.l1z e) hx (λO ε m=>Y2r);have r:=m.extBut;have n:IsPair O TO a b:=r _ _ D.TOi1 (j _ _ D.TOz N);refine Y8a n rfl ?_;refine Ye4 n (λT W l=>?_);have J:=l.extBut;refine YcQ Y2r;refine YbI ?_;show Y39 (Yag i2 >>= _);refine wpAny_bind (MS hh (β.at λo e=>J _ o D.TOi2.symm (r _ o D.i12.symm (j _ o D.i2z e))) (hl2.at λo e=>J _ o D.l2TO (r _ o D.l2i1 (j _ o D.l2z e))) X λγ e B R=>?_);obtain⟨P,d,g⟩:=R;have u:Y9n γ z TI TO:=B _ _ D.i2z.symm (J _ _ D.TOz.symm (r _ _ D.i1z.symm i));have p:e≠z:=λx=>by subst x;rw[u]at d;cases d;simp at g
  exact wpAny_setField_rec u (by simp) λζ _ C=>hE ζ e (λc o I α M Y x=>C.extBut _ _ I (B _ _ Y (J _ _ α (r _ _ M (j _ _ I x))))) ⟨P,C.extBut _ _ p d,g⟩
def RK{b1 b2:Bool}{z TI TO i1 i2 l1 l2:Addr}{k:Nat}{xs ys:Ai}{x y:Value}{Q:Y5n->Y0M}(D:ZipApart z TI TO i1 i2 l1 l2)(Z:ZAt b1 b2 z TI TO i1 i2 l1 l2 .none k s.heap)
  (hl1:Y28 b1 l1 xs) (hl2:Y28 b2 l2 ys) (hx:Y2h k=Y7) (hy:ys[k]?=Y09)
  (hQ:∀h',ZAt b1 b2 z TI TO i1 i2 l1 l2 (rawInt s.heap.objs.size) (k+1) h'->IsPair h' s.heap.objs.size x y->(∀c o,c≠z->c≠TO->c≠i1->c≠i2->Y3u c->Y4E c)->Q (Y3 s.heap.objs.size) { s with heap:=h' }) :
  Y9R z:=by
 have a:Y8k z "zip" := Y0R Z.z;unfold pyNext;refine Yaj (Y8n "__next__" a F.slot_zip_next F.slot_zip_next a F.entry_zip_next ?_ (F.args_zip_next_1 _));exact RM D Z hl1 hl2 hx hy λh' g d e=>wpAny_pure (hQ h' g d e)
def RJ{b1 b2:Bool}{z TI TO i1 i2 l1 l2:Addr}{k:Nat}{xs ys:Ai}{Q:Y5n->Y0M}(hh:Y6k)(D:ZipApart z TI TO i1 i2 l1 l2)(Z:ZAt b1 b2 z TI TO i1 i2 l1 l2 .none k s.heap)
  (hl1:Y28 b1 l1 xs) (hl2:Y28 b2 l2 ys) (hend:Y2h k=none\/ys[k]?=none)
  (hQ:∀h',(∀c o,c≠z->c≠TO->c≠i1->c≠i2->Y3u c->Y4E c)->Q none { s with heap:=h' }):Y9R z:=by
 have a:Y8k z "zip" := Y0R Z.z;unfold pyNext;refine Yaj (Y8n "__next__" a F.slot_zip_next F.slot_zip_next a F.entry_zip_next ?_ (F.args_zip_next_1 _));refine UN hh D Z hl1 hl2 hend λh' e d g=>?_;obtain⟨o,h,i⟩:=g;refine wpAny_bind (Ye2 "StopIteration" true (Y1H h i) ?_);exact wpAny_pure (hQ _ d)
abbrev itO(b:Bool)(l:Addr):Obj:={ cls:=.type (bif b then "tuple_iterator" else "list_iterator"),data:=.fields #[.ref l,.int 0 0] }
def QD{b:Bool}{l:Addr}{xs:Ai}{Q:Yc}(h:Y28 b l xs)(q:Q (Y0I) { s with heap:=s.heap.push (itO b l) }):Y21 (pyIter (Y11)):=by
 cases b with
 | false=>exact wpAny_pyIter_list h q
 | true=>exact wpAny_pyIter_tuple h q
end
end L2
namespace L2
open PySem PySem.Spec PyProof.Rows
section
variable{X:Cx}{pins:Ad}{σ:St}{H:Hp}{s:Shared}{h':Heap}
def cU.turnedL{t':Nat}{fp:Y0D}(I:Y4)(k:∀b o,b ∉ fp->Y23->Y1i=Ya)(hf:∀b∈fp,Y3j):Y5p ({ s with heap:=h',toks:=t' }):=by
 have d:∀b u,H b=Yo->b ∉ fp:=λb u e z=>by rw[(hf b z).1]at e;cases e
 refine I.step (g':=s.gens) (d':=s.drawn) (ch:=fp) (λb j=>?_) (λb o _ _ a e _=>k b o a e) (λb o _ _ a e _=>⟨o.slots,k b o a e⟩) (λ_ _ _ _ n=>n)
  (λb o a e=>⟨o,k b o a e⟩) (λ_ _ e=>e) (λ_ _ _ e=>e) (λb C e=>⟨#[],by rw[e];simp⟩) (λm A=>?_) (λb u e=>?_) I.bare
 ·obtain⟨D,l,B,p,y,g⟩:=hf b j;exact⟨p,l,y,g⟩
 ·obtain⟨o,w,h,i,r⟩:=A;exact⟨o,w,h,k _ o (λz=>(hf _ z).2.1 rfl) i,r⟩
 ·refine(I.hok b u e).stay (λc v a q=>k c v ?_ q) (λ_ q=>q) Y8s;rcases a with z | z
  ·rw[z];exact d b u e
  ·exact d c _ z
def Un.putE{fs ex:Y0D}{H H1:Hp}{h h1:Heap}{a:Addr}{u:HO}(x:Un fs ex H H1 h h1)(ha:h.get? a=none)(hn:H1 a=none):Un fs ex H (upd H1 a u) h h1 where
 keep:=x.keep
 slot:=x.slot
 free:=λb d e n m=>by rw[eO (λz=>by subst z;rw[ha]at e;cases e)];exact x.free b d e n m
 there:=x.there
 tups:=λb c e=>by rw[eO (dR (x.tups b c e) hn)];exact x.tups b c e
 frzs:=λb d c e=>by rw[eO (dR (x.frzs b d c e) hn)];exact x.frzs b d c e
 tbls:=λb g e=>by
  obtain⟨m,q⟩:=x.tbls b g e;exact⟨m,by rw[eO (dR q hn)];exact q⟩
def sZ.putE{P:Program}{w:World}{h:Heap}{a:Addr}{u:HO}(x:sZ P w H h)(hn:H a=none)(new:hV P w (Y3n u) h a u):sZ P w (Y3n u) h:=λb v e=>by
 by_cases hb:b=a
 ·subst hb;rw[bK]at e;cases e;exact new
 ·rw[eO hb]at e;exact(x b v e).stay (λc q _ r=>r) (λc q=>by rw[eO (dR q hn)];exact q) λc d q=>by rw[eO (dR q hn)];exact q
def cU.put{a:Addr}{o:HO}(I:Y4)(f:kQ X pins H a)(hs:Yc1 a none)(new:hV X.prog X.w (Y3n o) s.heap a o):Y27 (Y3n o) s :=
 ⟨I.ok,I.os,I.bare,I.base.putE hs f.1,I.loc,I.cell,by rw[eO (Ne.symm f.2.1)];exact I.free,λx c e=>by rw[eO (f.2.2.2.2.1 x c e)];exact Y7U x e,λp d=>by
  obtain⟨g,h,i⟩:=Y85 d;exact⟨g,by rw[eO (f.2.2.2.2.2 p d)];exact h,i⟩,sZ.putE I.hok f.1 new,I.len⟩
def zO(b:Bool)(xs:Al):HO:=bif b then .tup xs else .lst xs
def zO.inj{b:Bool}{xs ys:Al}(h:Y4i b=Y8f b ys):xs=ys:=by
 cases b <;> (injection h with h;injection h)
def cU.sq{b:Bool}{a:Addr}{xs:Al}(I:Y4)(h:H a=Y4i b):∃its:Ag,eE xs its/\Y28 b a its.toArray:=by
 cases b with
 | false=>obtain⟨its,r,p,_⟩:=I.list (gH.of h);exact⟨its,r,p.isList⟩
 | true=>obtain⟨its,r,p,_⟩:=Yaz h;exact⟨its,r,p⟩
end
def Itz(b1 b2:Bool)(l1 l2:Addr):It :=
  ⟨λi H=>∃xs ys x y,H l1=Y4i b1/\H l2=Y8f b2 ys/\Y0s=Y7/\Y1m=Y09,
   λi H v H'=>∃q x y,v=.ref q/\H q=none/\H'=Y7L q [x,y]/\∀xs ys,H l1=Y4i b1->H l2=Y8f b2 ys->Y0s=Y7/\Y1m=Y09,
   λi H=>∃xs ys,H l1=Y4i b1/\H l2=Y8f b2 ys/\(Y6R i\/ys.length<=i)⟩
structure ZD(z TI TO i1 i2:Addr):Prop where
 TIz:TI≠z
 TOz:TO≠z
 i1z:i1≠z
 i2z:i2≠z
 TITO:TI≠TO
 TIi1:TI≠i1
 TIi2:TI≠i2
 TOi1:TO≠i1
 TOi2:TO≠i2
 i12:i1≠i2
def ZD.seq(n:Nat):ZD (n+4) (n+2) (n+3) n (n+1) where
 TIz:=Y5T (show(n+2:Nat)=n+4 from h)
 TOz:=Y5T (show(n+3:Nat)=n+4 from h)
 i1z:=Y5T (show(n:Nat)=n+4 from h)
 i2z:=Y5T (show(n+1:Nat)=n+4 from h)
 TITO:=Y5T (show(n+2:Nat)=n+3 from h)
 TIi1:=Y5T (show(n+2:Nat)=n from h)
 TIi2:=Y5T (show(n+2:Nat)=n+1 from h)
 TOi1:=Y5T (show(n+3:Nat)=n from h)
 TOi2:=Y5T (show(n+3:Nat)=n+1 from h)
 i12:=Y5T (show(n:Nat)=n+1 from h)
def ZD.all{z TI TO i1 i2 l1 l2:Addr}(d:ZD z TI TO i1 i2){H:Hp}{o1 o2:HO}(e1:H l1=some o1)(e2:H l2=some o2)(h:∀b∈[z,TI,TO,i1,i2],H b=none):ZipApart z TI TO i1 i2 l1 l2 :=
 ⟨d.TIz,d.TOz,d.i1z,d.i2z,d.TITO,d.TIi1,d.TIi2,d.TOi1,d.TOi2,d.i12,dR e1 (h _ (by simp)),dR e1 (h _ (by simp)),dR e1 (h _ (by simp)),dR e1 (h _ (by simp)),dR e2 (h _ (by simp)),dR e2 (h _ (by simp)),dR e2 (h _ (by simp)),dR e2 (h _ (by simp))⟩
def VE{P:Program}{w:World}{K:Aa}{elts:Y0j}{x1}{tp:Pos}{b1 b2:Bool}{z TI TO i1 i2 l1 l2:Addr}(d:ZD z TI TO i1 i2):DY P w K (Y8A x1 tp) (Itz b1 b2 l1 l2) [z,TI,TO,i1,i2] z (λi h=>ZAt b1 b2 z TI TO i1 i2 l1 l2 .none i h) where
 mem:=by simp
 obj:=λi h st b g=>by
  obtain⟨a,ψ,r⟩:=st.to;obtain⟨φ,m,_,τ⟩:=st.i1;obtain⟨o2,n,_,d2⟩:=st.i2;simp only[bN,List.not_mem_nil,or_false]at g;rcases g with rfl | rfl | rfl | rfl | rfl
  ·exact Y8S st.z (by cases q)
  ·exact Y8S st.ti (by cases q)
  ·exact Y8S r (by cases q)
  ·exact Y8S m (by rw[τ]at q;cases q)
  ·exact Y8S n (by rw[d2]at q;cases q)
 keep:=λi h γ st k=>by
  obtain⟨a,b,r⟩:=st.to;exact⟨k _ (by simp) _ st.z,k _ (by simp) _ st.ti,Y2P b (k _ (by simp) _ r),st.i1.at λo e=>k _ (by simp) o e,st.i2.at λo e=>k _ (by simp) o e⟩
 item:=by
  intro X O C T δ i l s σ H E I p st U;subst O C T;obtain⟨xs,ys,x,y,m,n,η,κ⟩:=U;obtain⟨u1,S,J⟩:=I.sq m;obtain⟨ε,G,B⟩:=I.sq n;obtain⟨θ,M,ξ⟩:=S.get η;obtain⟨μ,R,ν⟩:=G.get κ;have D:=d.all m n λb g=>(p b g).1;refine RK D st J B (x:=θ) (y:=μ) (by simpa using M) (by simpa using R) λγ Z' ζ N=>Y6 (wpAny_letOwnedTupleGo_zip Z'.z λα Z j=>?_);have ω:∀b o,b ∉ [z,TI,TO,i1,i2]->Y23->α.get? b=Ya:=λb o g e=>by
   simp only[bN,List.not_mem_nil,or_false,not_or]at g;exact j.extBut b o g.1 (N b o g.1 g.2.2.1 g.2.2.2.1 g.2.2.2.2 e)
  have I1:cU X l σ H { s with heap:=α }:=Ydn ω p;have fq:kQ X l H s.heap.objs.size:=I.fpOk (Yp) (Y32);have ο:YcI=none:=by
   cases q:YcI with
   | none=>rfl
   | some o=>exact Y6s (aY q) I.sz _
  have nz:YbT z:=λq=>absurd (aY st.z) (by rw[<-q];exact bP _);obtain⟨a,b,r⟩:=Z'.to;refine⟨Y0I,YdV H (.tup [x,y]),I1.put fq ο ⟨⟨uR (by show 2<=64;decide),_,Ya1 _ nz ζ,rfl⟩,[θ,μ],.cons ξ (Y7I ν),Y0h _ (Ya1 _ nz ζ) _ rfl⟩,rfl,⟨_,x,y,rfl,fq.1,rfl,λχ ρ ι β=>?_⟩,
   ⟨Z,Ya1 _ d.TIz Z'.ti,Y2P b (Ya1 _ d.TOz r),Z'.i1.at λo e=>Ya1 o d.i1z e,Z'.i2.at λo e=>Ya1 o d.i2z e⟩,λb g=>?_⟩
  ·rw[m]at ι;rw[n]at β;rw[<-zO.inj ι,<-zO.inj β];exact⟨η,κ⟩
  ·have υ:Yav b:=λq=>by
    obtain⟨a',ψ,Y⟩:=st.to;obtain⟨φ,L,_⟩:=st.i1;obtain⟨o2,A,_⟩:=st.i2;have lt:∀{c o},Y3u c->Yav c:=λe=>dJ (Y15);simp only[bN,List.not_mem_nil,or_false]at g;rcases g with rfl | rfl | rfl | rfl | rfl
    ·exact lt st.z q
    ·exact lt st.ti q
    ·exact lt Y q
    ·exact lt L q
    ·exact lt A q
   rw[eO υ];exact(p b g).1
 done:=by
  intro X O C T δ i l s σ H E I p st U;subst O C T;obtain⟨xs,ys,m,n,hl⟩:=U;obtain⟨u1,S,J⟩:=I.sq m;obtain⟨ε,G,B⟩:=I.sq n;have D:=d.all m n λb g=>(p b g).1;have l1:=S.length;have l2:=G.length;have u:u1.toArray[i]?=none\/ε.toArray[i]?=none:=by
   rcases hl with h | h
   ·left;simp;exact Oo
   ·right;simp;exact Oo
  refine RJ (I.ok.hd δ) D st J B u λγ N=>Y5 (Ydn (λb o g e=>?_) p);simp only[bN,List.not_mem_nil,or_false,not_or]at g;exact N b o g.1 g.2.2.1 g.2.2.2.1 g.2.2.2.2 e
 self:=λ_ _ _ _ _ st h=>wpAny_pyIter_zip st.z h
abbrev zA(b:Bool)(h:Heap)(l:Addr):Heap:=h.push (itO b l)
abbrev zB(b1 b2:Bool)(h:Heap)(l1 l2:Addr):Heap:=(zA b1 h l1).push (itO b2 l2)
abbrev zC(b1 b2:Bool)(h:Heap)(l1 l2:Addr):Heap:=(zB b1 b2 h l1 l2).push { cls:=.type "tuple",data:=.seq #[.ref h.objs.size,.ref (zA b1 h l1).objs.size] }
abbrev zE(b1 b2:Bool)(h:Heap)(l1 l2:Addr):Heap:=(zC b1 b2 h l1 l2).push { cls:=.type "tuple",data:=.seq #[.none,.none] }
abbrev zF(b1 b2:Bool)(h:Heap)(l1 l2:Addr):Heap:=(zE b1 b2 h l1 l2).push { cls:=.type "zip",data:=.fields #[.none,.bool false,.bool false,.ref (zB b1 b2 h l1 l2).objs.size,.ref (zC b1 b2 h l1 l2).objs.size] }
def aEN(b1 b2:Bool)(l1 l2:Addr)(xs ys:Ai):YaE (Builtin.«zip.__new__» ⟨[.type "zip",.ref l1,.ref l2],[]⟩) (Y28 b1 l1 xs/\Y28 b2 l2 ys/\R (.ok (.ret (.ref (zE b1 b2 s.heap l1 l2).objs.size))) ({ s with heap:=zF b1 b2 s.heap l1 l2 })) :=
 .of_wp λp w A R s h=>by
  obtain⟨m,g,d,l,r⟩:=s;obtain⟨a,j,h⟩:=h;have n:=sub_zip;have c:nC b1 (Shared.heap ⟨m,g,d,l,r⟩) l1 xs:=a;have i:nC b2 (Shared.heap ⟨m.push (itO b1 l1),g,d,l,r⟩) l2 ys:=j.at λo e=>Y2I
  wp_walk using QD c,QD i
  exact Y6 h
section
variable{prog:Program}{w:World}{A:Around}{E:Yc}{s:Shared}
def aGu{b1 b2:Bool}{l1 l2:Addr}{xs ys:Ai}{Q:Yc}(hl1:Y28 b1 l1 xs)(hl2:Y28 b2 l2 ys)
  (h:∀h',ZAt b1 b2 (Y88 4) (Y88 2) (Y88 3) s.heap.objs.size (Y20) l1 l2 .none 0 h'->(∀c o,Y3u c->Y4E c)->Y0N (Y88 4) ({ s with heap:=h' })) :
  Y21 (call (.type "zip") [.ref l1,.ref l2]):=by
 refine callType_new F.called_zip Dd (F.typeCall_zip_2 _ _) (F.newCall_zip_2 _ _) (λe=>F.args_object_init_3 e _ _) F.entry_zip_new (aEN b1 b2 l1 l2 xs ys) (Y0b hl1 hl2);have a:(zA b1 s.heap l1).objs.size=Y20:=fW ..;have i:(zB b1 b2 s.heap l1 l2).objs.size=Y88 2:=by rw[fW,a]
 have g:(zC b1 b2 s.heap l1 l2).objs.size=Y88 3:=by rw[fW,i]
 have m:(zE b1 b2 s.heap l1 l2).objs.size=Y88 4:=by rw[fW,g]
 have d:(zF b1 b2 s.heap l1 l2).get? (zE b1 b2 s.heap l1 l2).objs.size=some _:=Y0Q;have j:(zF b1 b2 s.heap l1 l2).get? (zC b1 b2 s.heap l1 l2).objs.size=some _:=Y1G Y0Q;have l:(zF b1 b2 s.heap l1 l2).get? (zB b1 b2 s.heap l1 l2).objs.size=some _:=Y70 Y0Q;have n:(zF b1 b2 s.heap l1 l2).get? (zA b1 s.heap l1).objs.size=some _:=Y70 (Y1G Y0Q);have p:(zF b1 b2 s.heap l1 l2).get? s.heap.objs.size=some _:=Y70 (Y70 Y0Q);show _/\_;rw[i,g,m]at d;rw[a,i]at l;rw[g]at j;rw[a]at n;rw[m];exact⟨Y0R d,h _ ⟨d,l,Y0U _ j,Y6D _ p,Y6D _ n⟩ λc o x=>Y1G (Y70 (Y70 x))⟩
end
def aGk(b1 b2:Bool)(ta:TA):TI:=Yb3 σ H (λvs H1=>∃l1 l2 xs ys,vs=[.ref l1,.ref l2]/\H1 l1=Y4i b1/\H1 l2=Y8f b2 ys/\R (Itz b1 b2 l1 l2) H1)
def ZW:YcZ "zip"=YdG "zip":=Kk
section
variable{X:Cx}
def aEq{a b:Expr}{ta:TA}{p pos tp:Pos}{elts:Y0j}{x1}{b1 b2:Bool}(hg:Gl X "zip")(hm:X.mg "zip" = none)(ha:PA X [a,b] ta)(hs:Y26 [a,b]=[(false,Y0a a),(false,Y0a b)])(hs2:Y38 b=[(false,Y0a b)]) :
  PI X (Y8A x1 tp) (Y7K "zip" p [a,b] []) (aGk b1 b2 ta):=by
 intro g s σ H R I h;refine Call_ (vV I hg hm ZW (Yah (ha pos g s σ H _ I h) (λA c ⟨J,H1,I1,w,y⟩=>?_) (by rw[hs,hs2]) (by rw[hs2];rfl)));obtain⟨G,D,M,B,e,j,n,q⟩:=y;subst e;cases w with
 | cons r rr =>
  cases rr with
  | cons r' rr =>
   cases rr;cases r;cases r';obtain⟨u1,_,l⟩:=I1.sq j;obtain⟨C,_,u⟩:=I1.sq n;refine aGu l u λL Z m=>wpAny_pyIter_zip Z.z ?_;refine⟨_,[YbY 4,YbY 2,YbY 3,c.heap.objs.size,YbY 1],_,_,H1,rfl,I1.kept (t':=c.toks) m,VE (ZD.seq _),Z,λb i=>?_,q⟩;have d:c.heap.objs.size<=b:=by
    simp only[bN,List.not_mem_nil,or_false]at i;rcases i with rfl | rfl | rfl | rfl | rfl
    ·exact Y98 _
    ·exact Y98 _
    ·exact Y98 _
    ·exact Yp
    ·exact Y98 _
   exact Yan d d
def lF(b1 b2:Bool){a b:Expr}{ta:TA}{p pos tp:Pos}{elts:Y0j}{x1}(hg:Gl X "zip")(hm:X.mg "zip" = none)(ha:LF X [a,b] ta)(hs:Y26 [a,b]=[(false,Y0a a),(false,Y0a b)]:=by rfl)(hs2:Y38 b=[(false,Y0a b)]:=by first | exact pT | exact pU | exact iJ | rfl) :
  NY X (Y8A x1 tp) (Y7K "zip" p [a,b] []) (aGk b1 b2 ta):=⟨aEq hg hm ha.p hs hs2⟩
end
def uY{b1 b2:Bool}{l1 l2:Addr}{xs ys:Al}{g:TG}{tb:TS}{D:qH}{σ:St}{H:Hp}(Pv:Y03 Y1Z)(h0:Y6h 0)(hl:∀i σ H,Y34->H l1=Y4i b1/\H l2=Y8f b2 ys)
  (hs:∀i x y q σ H H',Y0s=Y7->Y1m=Y09->Y34->H q=none->H' q=Yf [x,y]->Y1->g (.ref q) σ H' (Y4O ({ D with nx:=Pv (i+1),ct:=Pv (i+1),bk:=D.nx }))) (hd:∀σ H,Y6h Y9o->Y3P) :
  ∃W:Nat->Nat->St->Hp->Prop,(Y4H 0 m σ H)/\∀i m σ H,W i m σ H ->
   ((Itz b1 b2 l1 l2).stop i H/\Y3P)\/((Itz b1 b2 l1 l2).go i H/\∃N:St->Hp->Prop,Y8K (N σ' H'->∃m',m' < m/\W (i+1) m' σ' H') ((Itz b1 b2 l1 l2).yld i H x H'->g x σ H' (Y4O ({ D with nx:=N,ct:=N,bk:=D.nx })))):=by
 refine Y9q (m=Y9o-i/\i<=Y9o/\Y34) (Y41 _ Y0x h0);rintro i m σ H ⟨rfl,u,p⟩;obtain⟨c,a⟩:=hl i σ H p;by_cases hlt:i<Y9o
 ·have r:Y0s=some xs[i]:=aC Oo;have h:Y1m=some ys[i]:=aC Oo;refine Y3M ⟨xs,ys,_,_,c,a,r,h⟩ (Pv (i+1)) (λσ' H' j=>Y0h _ Oo hlt j) (λv H' y=>?_);obtain⟨q,x,y,rfl,d,rfl,l⟩:=y;obtain⟨s,n⟩:=l xs ys c a;exact hs i x y q σ H _ s n p d bK (aT.upd d)
 ·have e:i=Y9o:=Oo;subst e;refine Y2k ⟨xs,ys,c,a,?_⟩ (hd σ H p);exact Oo
end L2
namespace L2
open PySem
def sN:Ag->Y2K Af
 | [],[]=>true
 | .int i _::vs,n::ns=>decide (i=n)&&sN vs ns
 | _,_=>false
def vX(K:Aa)(a:Addr)(ns:Af):Bool :=
 match Ybe with
 | some o=>(match o.cls with | .type n=>n == "tuple" | _=>false)&&(match o.data with | .seq xs _=>decide (xs.size<=64)&&sN xs.toList ns | _=>false)
 | none=>false
theorem sN.vals:∀{vs:Ag}{ns:Af},sN vs ns=true->eE (Y5o) vs
 | [],[],_=>.nil
 | v::vs,n::ns,h=>by
  cases v with
  | int i t =>
   have h':(decide (i=n)&&sN vs ns)=true:=h;rw[dG]at h';have e:=of_decide_eq_true h'.1;subst e;exact .cons ⟨t,rfl⟩ (sN.vals h'.2)
  | _=>cases h
 | [],_::_,h=>by cases h
 | v::_,[],h=>by cases v <;> cases h
def wM{K:Aa}{H:Hp}{a:Addr}{ns:Af}(h:vX K a ns=true):jA K H a (Y5o):=by
 unfold vX at h;split at h
 ·rename_i o ho
  rw[dG]at h;obtain⟨d,c⟩:=h;split at d
  ·rename_i n hn
   split at c
   ·rename_i xs m hx
    rw[dG]at c;have e:n = "tuple" := by simpa using d
    subst e;exact .inr ⟨o,xs,m,ho,hn,hx,uR (of_decide_eq_true c.1),sN.vals c.2⟩
   ·cases c
  ·cases d
 ·cases h
def jA.keep{K:Aa}{H H':Hp}{a:Addr}{xs:Al}(s:Y1)(h:jA K H a xs):jA K H' a xs:=by
 rcases h with(h | ⟨o,h⟩) | h
 ·exact Yb2 (s _ _ h)
 ·exact .inl (Y2W o (s _ _ h))
 ·exact .inr h
mutual
def uA(K:Aa)(H:Hp):Y0i PyData V
 | .none,v=>v=.non
 | .bool b,v=>v=.bl b
 | .int i,v=>v=.int i
 | .str x,v=>v=.str x
 | .list ds,v=>∃a xs,v=.ref a/\H a=some (.lst xs)/\oF K H ds xs
 | .tuple ds,v=>∃a xs,v=.ref a/\jA K H a xs/\oF K H ds xs
 | .dict kvs,v=>kvs=[]/\∃a,v=.ref a/\H a=some (.dK [])
def oF(K:Aa)(H:Hp):Y0i Y1p Al
 | [],vs=>vs=[]
 | d::ds,vs=>∃x xs,vs=x::xs/\uA K H d x/\oF K H ds xs
end
def uA.tup{K:Aa}{H:Hp}{a:Addr}{xs:Al}{ds:Y1p}(h:jA K H a xs)(r:oF K H ds xs):uA K H (.tuple ds) (Yi):=by
 unfold uA;exact Y0h a xs h r
theorem oF.ints{K:Aa}{H:Hp}:∀ns:Af,oF K H (YbN) (Y5o)
 | []=>by unfold oF;rfl
 | n::ns=>by unfold oF;exact⟨_,_,rfl,by unfold uA;rfl,oF.ints ns⟩
section
variable{X:Cx}{pins:Ad}{σ:St}{H:Hp}{s:Shared}
mutual
theorem uA.reads(I:Y4):∀{d:PyData}{v:V}{u:Value},uA X.K H d v->Y3S->∃as,Reads s.heap u d as
 | .none,_,u,h,r=>by
  cases(show _=V.non from h);cases(show u=Value.none from r);exact⟨_,.none⟩
 | .bool b,_,u,h,r=>by
  cases(show _=V.bl b from h);cases(show u=Value.bool b from r);exact⟨_,.bool b⟩
 | .int b,_,u,h,r=>by
  cases(show _=V.int b from h);obtain⟨t,q⟩:=(show ∃t,u=Value.int b t from r);cases q;exact⟨_,.int b t⟩
 | .str b,_,u,h,r=>by
  cases(show _=V.str b from h);obtain⟨t,q⟩:=(show ∃t,u=Value.str b t from r);cases q;exact⟨_,.str b t⟩
 | .list ds,v,u,h,r=>by
  unfold uA at h;obtain⟨a,l,rfl,g,c⟩:=h;cases(show u=Value.ref a from r);obtain⟨_,j,n,i,e⟩:=(show hV X.prog X.w H s.heap a (.lst l)from I.hok a _ g);obtain⟨as,q⟩:=oF.reads I c i;exact⟨_,.list e rfl rfl (by simpa using q)⟩
 | .tuple ds,v,u,h,r=>by
  unfold uA at h;obtain⟨a,l,rfl,g,c⟩:=h;cases(show u=Value.ref a from r);obtain⟨j,i,⟨o,e,m,n,hd⟩,_⟩:=I.tuple g;obtain⟨as,q⟩:=oF.reads I c i;exact⟨_,.tuple e m hd (by simpa using q)⟩
 | .dict kvs,v,u,h,r=>dI.reads I (d:=.dict kvs) (by unfold dI;unfold uA at h;exact h) r
theorem oF.reads(I:Y4):∀{ds:Y1p}{vs:Al}{us:Ag},oF X.K H ds vs->Y2C vs->∃as,ReadsAll s.heap us ds as
 | [],_,us,h,r=>by
  cases(show _=[]from h);cases r;exact⟨_,.nil⟩
 | d::ds,_,us,h,r=>by
  unfold oF at h;obtain⟨x,xs,rfl,h1,h2⟩:=h;cases r with
  | cons r1 r2 =>
   obtain⟨as,a⟩:=uA.reads I h1 r1;obtain⟨bs,c⟩:=oF.reads I h2 r2;exact⟨_,.cons a c⟩
end
end
@[irreducible] def aA3(K:Aa)(b:Bool):R2:=λx y H Q=>∃d d',uA K H d x/\uA K H d' y/\Y5H d/\Y5H d'/\Y2N (b == Ycs d)
section
variable{X:Cx}
def aED(K:Aa)(hu:Y4v 64<cLine)(hK:X.K=K:=by rfl):Y3s X .NotEq (aA3 K false):=by
 subst hK;unfold aA3;intro a s σ H x y v u Q I e c h;obtain⟨d,p,l,j,n,m,q⟩:=h;obtain⟨r,g⟩:=l.reads I e;obtain⟨bs,i⟩:=j.reads I c;exact SeqAt.compareNe_shaped g i n m hu ⟨.bl _,H,I,by show _=_;simp,q⟩
end
section
variable{K:Aa}{H:Hp}{p:Addr}{xs:Al}{i:Int}{v:V}{Q:VK}
def reK{b:Bool}{x y:V}{d d':PyData}(h1:uA K H d x)(h2:uA K H d' y)(s1:Y5H d)(s2:Y5H d')(q:Y2N (b == Ycs d)):aA3 K b x y H Q:=by
 unfold aA3;exact⟨d,d',h1,h2,s1,s2,q⟩
def pG(h:jA K H p xs)(e:DX xs i=Ys)(q:Q v H):rIx K (Y0Z) (Y1w) H Q:=Y8w ⟨p,xs,i,v,rfl,rfl,h,e,q⟩
end
def HK(xs:Al)(k:Nat):nB xs (some (k:Int)) none=xs.drop k:=by
 unfold nB;rw[HT.GK,HT.xA];by_cases h:Y51 k
 ·rw[Nat.min_eq_left h];exact List.take_of_length_le (by rw[List.length_drop];exact Yp)
 ·rw[Nat.min_eq_right Oo,List.drop_of_length_le (Yp),List.drop_of_length_le Oo,List.take_nil]
def QT(xs:Al)(k:Nat):nB xs none (some (k:Int))=xs.take k:=by
 unfold nB;rw[HT.GK,HT.xA,List.drop_zero,Nat.sub_zero];by_cases h:Y51 k
 ·rw[Nat.min_eq_left h]
 ·rw[Nat.min_eq_right Oo,List.take_of_length_le (Yp),List.take_of_length_le Oo]
@[irreducible] def aAY(K:Aa):V->Y1o->Y84:=aFX K
def wZ{X:Cx}(K:Aa)(h:X.K=K:=by rfl):SlR X (aAY K):=by subst h;unfold aAY;exact OX
def slL{K:Aa}{H:Hp}{a:Addr}{xs ys:Al}{lo hi:Y1o}{Q:VK}(h:H a=Y0P)(e:nB xs lo hi=ys)(k:∀q H',H q=none->H' q=Y0c->Y1->Y0u q):aAY K (Yi) lo hi H Q:=by
 unfold aAY;exact Y0h a xs (gH.of h) (λp c=>by rw[e];exact k p _ c bK (aT.upd c))
section
variable{σ:St}{js:Ae}{te:TE}{H:Hp}{Q:VK}
def BK{R:Y03 (Y0C V)}{ys:Al}{y:V}(h:∀(j:Nat) z,ys[j]?=some z->R j z)(r:R ys.length y):∀(j:Nat) z,(ys++[y])[j]?=some z->R j z:=λj z a=>by
 by_cases hji:j<ys.length
 ·rw[cM hji]at a;exact h j z a
 ·rw[cJ Oo]at a;have:j-ys.length=0:=by
   by_cases q:j-ys.length=0
   ·exact q
   ·rw[cA (by simp;exact Oo)]at a;cases a
  rw[this]at a;have c:y=z:=by simpa using a
  have:j=ys.length:=Oo;subst this c;exact r
def yR{J:It}{n:Nat}(src:Y03 (Y0C V))(R:Y7i V)(hR:Y7O (eZ H1 H2) (R i y H1->R i y H2))(hz:n<=100000)
  (hg:∀i H',Y1->i<n->Y5j H'/\∀x H3,Y6v i H' x->H3=H'/\src i x) (hst:∀H',Y1->J.stop n H')
  (hs:∀i x H' (Q':VK),src i x->i<n->Y1->(∀y H5,aT H' H5->R i y H5->Q' y H5)->te (Y7::Y0v) H' Q')
  (hd:Y3f (H D=none) (Y0G=Y0c->Y1->Y2x n->(∀(i:Nat) (y:V),Y1m=Y09->R i y H')->Y1a)):pK J σ js zN te H Q:=by
 refine KG (J:=J) (n:=n) src hz (λD i ys H'=>H D=none/\Y1/\∀(i:Nat) (y:V),Y1m=Y09->R i y H') (λD H1 a _ s=>Y2P s (λi y h=>by simp at h))
  (λD i ys H' g _ p=>hg i H' p.2.1 g) (λD ys H' _ p=>hst H' p.2.1) (λD i x ys H' A g d a p=>?_) (λD ys H' d a e p=>hd D ys H' a e p.2.1 d p.2.2)
 refine hs i x H' _ A g p.2.1 λy H5 c r=>⟨c _ _ a,λH6 w l=>Y0b p.1 (aT.thru p.1 (p.2.1.trans c) l)⟩;have m:=l.t (c _ _ a);exact BK (R:=λj z=>R j z H6) (λj z u=>hR j z _ _ (c.t.trans m) (p.2.2 j z u)) (by rw[d];exact hR i y _ _ m r)
def fD{K:Aa}{a:Addr}{xs:Al}(R:Y7i V)(hR:Y7O (eZ H1 H2) (R i y H1->R i y H2))(hz:Ybg)(hl:H a=Y0P)
  (hs:∀i x H' (Q':VK),Y0s=Y7->Y1->(∀y H5,aT H' H5->R i y H5->Q' y H5)->te (Y7::Y0v) H' Q')
  (hd:Y3f (H D=none) (Y0G=Y0c->Y1->Y2x xs.length->(∀(i:Nat) (y:V),Y1m=Y09->R i y H')->Y1a)):pK (Itl K a) σ js zN te H Q :=
 yR (λi x=>Y0s=Y7) R hR hz (λi H' s d=>Y9v ⟨xs,xs[i],gH.of (s _ _ hl),by simp[d]⟩ ⟨y.1,y.2 xs (gH.of (s _ _ hl))⟩) (λH' s=>⟨xs,gH.of (s _ _ hl),Yp⟩)
  (λi x H' Q' c _ s k=>hs i x H' Q' c s k) hd
def rK{K:Aa}{a:Addr}{xs:Al}(R:Y7i V)(hR:Y7O (eZ H1 H2) (R i y H1->R i y H2))(hz:Ybg)(hl:H a=Y1d)
  (hs:∀i x H' (Q':VK),Y0s=Y7->Y1->(∀y H5,aT H' H5->R i y H5->Q' y H5)->te (Y7::Y0v) H' Q')
  (hd:Y3f (H D=none) (Y0G=Y0c->Y1->Y2x xs.length->(∀(i:Nat) (y:V),Y1m=Y09->R i y H')->Y1a)):pK (Itt K a) σ js zN te H Q :=
 yR (λi x=>Y0s=Y7) R hR hz (λi H' s d=>Y9v ⟨xs,xs[i],jA.of (s _ _ hl),by simp[d]⟩ ⟨y.1,y.2 xs (jA.of (s _ _ hl))⟩) (λH' s=>⟨xs,jA.of (s _ _ hl),Yp⟩)
  (λi x H' Q' c _ s k=>hs i x H' Q' c s k) hd
def kO{lo:Int}{n:Nat}(R:Y7i V)(hR:Y7O (eZ H1 H2) (R i y H1->R i y H2))(hz:n<=100000)
  (hs:∀i H' (Q':VK),i<n->Y1->(∀y H5,aT H' H5->R i y H5->Q' y H5)->te (Yg (lo+(i:Nat))::Y0v) H' Q')
  (hd:Y3f (H D=none) (Y0G=Y0c->Y1->Y2x n->(∀(i:Nat) (y:V),Y1m=Y09->R i y H')->Y1a)):pK (Itr lo n) σ js zN te H Q :=
 yR (λi x=>x=.int (lo+(i:Nat))) R hR hz (λi H' s a=>Y9v a y) (λH' s=>Yp)
  (λi x H' Q' c a s k=>by subst c;exact hs i H' Q' a s k) hd
def aU.thru{p l:Addr}{H0 H1 H2:Hp}(hl:H0 l=none)(s:aU p H0 H1)(b:aU l H1 H2):aU p H0 H2:=λc o e=>by
 have n:=kH.ne e;have a:H0 c=Ya:=by rw[kH.at n]at e;exact e
 have d:c≠l:=λz=>by subst z;rw[hl]at a;cases a
 exact kH.of n (b.at d (s.at n a))
end
theorem bI.ofIdx{H:Hp}:∀{ds:Y1p}{ys:Al},Y2x ds.length->(∀(i:Nat) (y:V),Y1m=Y09->∃d,ds[i]?=some d/\dI H d y)->Y8C ys
 | [],[],_,_=>bI.nil
 | d::ds,y::ys,hl,h=>by
  obtain⟨d',e,r⟩:=h 0 y rfl;cases(show d=d' by simpa using e);exact bI.cons r (bI.ofIdx (by simpa using hl) λi z a=>by simpa using h (i+1) z (by simpa using a))
 | [],_::_,hl,_=>by simp at hl
 | _::_,[],hl,_=>by simp at hl
theorem nH{P:Y03 (Y0C Int)}:∀{ys:Al},(∀(i:Nat) (y:V),Y1m=Y09->∃n,y=Y5e/\P i n)->∃ns:Af,ys=Y5o/\∀(i:Nat) n,ns[i]?=Y6H->P i n
 | [],_=>⟨[],rfl,λi n h=>by simp at h⟩
 | y::ys,h=>by
  obtain⟨n,rfl,hn⟩:=h 0 y rfl;obtain⟨ns,rfl,c⟩:=nH (P:=λi=>P (i+1)) (ys:=ys) λi z d=>h (i+1) z (by simpa using d);refine⟨n::ns,rfl,λi m a=>?_⟩;cases i with
  | zero=>cases(show n=m by simpa using a);exact hn
  | succ i=>exact c i m (by simpa using a)
end L2
namespace L2
open PySem PySem.Spec PyProof.Rows
def jB.u1{k:Nat}{A:Around}(r:jB k A):Y6A 1<cLine:=by have:=r.units;exact Oo
@[irreducible] def rDG:R2:=λx y H Q=>∃a v,x=Yi/\oJ H a y (Ys)/\Q v H
@[irreducible] def rDP(D:qH)(σ:St)(x y v:V)(H:Hp):Prop:=∃a H4,x=Yi/\HY H a y v H4/\Y8j H4
def aCy(td ty tv:TE):TS:=λD σ H=>tv σ H λv H1=>td σ H1 λx H2=>ty σ H2 λy H3=>rDP D σ x y v H3
structure aCi(X:Cx)(pos:Pos)(keys:Y8l Expr)(values:Y0j)(trs:Y3X TE TE):Prop where p:PPs X pos keys values trs
section
variable{X:Cx}{o i value k v:Expr}{td ty tv tk:TE}{pos pos':Pos}{ks:Y8l Expr}{vs:Y0j}{trs:Y3X TE TE}
def gS(hu:Y4v 1<cLine)(ho:Yh o td)(hi:Yh i ty)(hs:aFo i:=by intro _ _;rfl):Yh (Y7v o i) (tOp rDG td ty):=⟨by unfold rDG;exact aBm hu ho.p hi.p hs⟩
def jC(hu:Y4v 1<cLine)(ho:Yh o td)(hi:Yh i ty)(hv:Yh value tv)(hs:Y8F value (Ycb o i)=Y4s:=by rfl) :
  IB X (Y63 [Ycb o i] value) (aCy td ty tv):=⟨by unfold aCy rDP;exact aBd hu ho.p hi.p hv.p hs⟩
def aAB:aCi X pos [] [] []:=⟨pps_nil⟩
def AY(hk:Yh k tk)(hv:Yh v tv)(hr:aCi X pos ks vs trs):aCi X pos (some k::ks) (v::vs) ((tk,tv)::trs):=⟨WY hk.p hv.p hr.p⟩
def aAF(h:aCi X pos ks vs trs)(hall:ks.all (·.isSome)=true:=by rfl)(hl:ks.length=vs.length:=by rfl)(h0:ks≠[]:=by intro h;cases h)(h15:ks.length<=15:=by decide):Yh (.Dict ks vs pos) (aCx trs):=⟨aBl h.p hall hl h0 h15⟩
end
def dgS{H:Hp}{p:Addr}{kvs:Y2F}{x:Str}{v:V}{Q:VK}(e:H p=Y5v kvs)(hv:Y2m (.inr x)=Ys)(q:Q v H):rDG (Y0Z) (.str x) H Q:=by
 unfold rDG;exact⟨p,v,rfl,hv ▸ oJ.k (k:=.inr x) e,q⟩
def dpS{H:Hp}{p:Addr}{kvs kvs2:Y2F}{x:Str}{v:V}{D:qH}{σ:St}(e:H p=Y5v kvs)(hl:Y6Y 64)(hk:Y4B (.inr x) v=kvs2)(q:∀H',H' p=Y5v kvs2->Y1e->Y8j H') :
  rDP D σ (Y0Z) (.str x) v H:=by
 unfold rDP;exact Y0h p _ (HY.k (k:=.inr x) e (aK hl Dd)) (q _ (by rw[hk];exact bK) aU.self)
def aU.tD{H H':Hp}{p:Addr}(s:Y1e){xs:Y2F}(hp:H p=Y5v xs):Y2o:=Yct (sW h hp (by intro z;cases z)) h
section
variable{σ:St}{js:Ae}{te:TE}{H:Hp}{Q:VK}
end
structure HX(p L:Addr)(Fd:Y03 Y5q):Prop where
 but:∀n D H1 H2,D≠p->D≠L->aU D H1 H2->Fd n H1->Fd n H2
 same:∀n H1 H2,aT H1 H2->Fd n H1->Fd n H2
 dic:∀n H',Fd n H'->∃xs,H' p=Y5v xs
 np:∀n H' D,Fd n H'->Y0G=none->D≠p/\D≠L
section
variable{σ:St}{js:Ae}{te:TE}{H:Hp}{Q:VK}
def QU{J:It}{n:Nat}{p L:Addr}{Fd:Y03 Y5q}(fl:HX p L Fd)(F0:Fd 0 H)(src:Y03 (Y0C V))(R:Y7i V)(hR:Y7O (eZ H1 H2) (R i y H1->R i y H2))(hz:n<=100000)
  (hg:∀i H',Y1e->i<n->Y5j H'/\∀x H3,Y6v i H' x->H3=H'/\src i x) (hst:∀H',Y1e->J.stop n H')
  (hs:∀i x H' (Q':VK),src i x->i<n->Fd i H'->Y1e->(∀y H5,Fd (i+1) H5->aU p H' H5->R i y H5->Q' y H5)->te (Y7::Y0v) H' Q')
  (hd:Y3f (H D=none) (Y0G=Y0c->Fd n H'->Y1e->Y2x n->(∀(i:Nat) (y:V),Y1m=Y09->R i y H')->Y1a)):pK J σ js zN te H Q:=by
 refine KG (J:=J) (n:=n) src hz (λD i ys H'=>H D=none/\Fd i H'/\Y1e/\∀(i:Nat) (y:V),Y1m=Y09->R i y H') (λD H1 a _ s=>⟨a,fl.same _ _ _ s F0,s.but,λi y h=>by simp at h⟩)
  (λD i ys H' m _ q=>hg i H' q.2.2.1 m) (λD ys H' _ q=>hst H' q.2.2.1) (λD i x ys H' B m e a q=>?_) (λD ys H' e a l q=>hd D ys H' a l q.2.1 q.2.2.1 e q.2.2.2)
 obtain⟨np,G⟩:=fl.np _ _ _ F0 q.1;refine hs i x H' _ B m q.2.1 q.2.2.1 λy H5 F5 d r=>?_;obtain⟨I,C⟩:=fl.dic _ H' q.2.1;have c:=d.at np a;refine⟨c,λH6 A g=>Y3U q.1 (fl.but _ D _ _ np G g F5) (aU.thru q.1 (q.2.2.1.trans d) g)⟩;have u:=g.t c;exact BK (R:=λj z=>R j z H6) (λj z w=>hR j z _ _ ((d.tD C).trans u) (q.2.2.2 j z w)) (by rw[e];exact hR i y _ _ u r)
def DE{lo:Int}{n:Nat}{p L:Addr}{Fd:Y03 Y5q}(fl:HX p L Fd)(F0:Fd 0 H)(R:Y7i V)(hR:Y7O (eZ H1 H2) (R i y H1->R i y H2))(hz:n<=100000)
  (hs:∀i H' (Q':VK),i<n->Fd i H'->Y1e->(∀y H5,Fd (i+1) H5->aU p H' H5->R i y H5->Q' y H5)->te (Yg (lo+(i:Nat))::Y0v) H' Q')
  (hd:Y3f (H D=none) (Y0G=Y0c->Fd n H'->Y1e->Y2x n->(∀(i:Nat) (y:V),Y1m=Y09->R i y H')->Y1a)):pK (Itr lo n) σ js zN te H Q :=
 QU fl F0 (λi x=>x=.int (lo+(i:Nat))) R hR hz (λi H' s a=>Y9v a y) (λH' s=>Yp)
  (λi x H' Q' c a f s k=>by subst c;exact hs i H' Q' a f s k) hd
def ZI{K:Aa}{a:Addr}{xs:Al}{p L:Addr}{Fd:Y03 Y5q}(fl:HX p L Fd)(F0:Fd 0 H)(R:Y7i V)(hR:Y7O (eZ H1 H2) (R i y H1->R i y H2))(hz:Ybg)(hl:H a=Y1d)
  (hs:∀i x H' (Q':VK),Y0s=Y7->Fd i H'->Y1e->(∀y H5,Fd (i+1) H5->aU p H' H5->R i y H5->Q' y H5)->te (Y7::Y0v) H' Q')
  (hd:Y3f (H D=none) (Y0G=Y0c->Fd xs.length H'->Y1e->Y2x xs.length->(∀(i:Nat) (y:V),Y1m=Y09->R i y H')->Y1a)):pK (Itt K a) σ js zN te H Q:=by
 have c:a≠p:=λz=>by
  obtain⟨ys,h⟩:=fl.dic _ H F0;rw[z,h]at hl;cases hl
 exact QU fl F0 (λi x=>Y0s=Y7) R hR hz (λi H' s e=>Y9v ⟨xs,xs[i],jA.of (s.at c hl),by simp[e]⟩ ⟨y.1,y.2 xs (jA.of (s.at c hl))⟩) (λH' s=>⟨xs,jA.of (s.at c hl),Yp⟩)
  (λi x H' Q' d _ f s k=>hs i x H' Q' d f s k) hd
end
def aAi(K:Aa)(a:Addr)(n:Nat):It :=
 ⟨Ycm (gH K H a xs/\Y5u n/\i<n/\Y2h (n-1-i)=Y7),λi H x H'=>H'=H/\∀xs,gH K H a xs->Y2h (n-1-i)=Y7,λi H=>i=n⟩
def VF{P:Program}{w:World}{K:Aa}{tg:Expr}(a it:Addr)(n:Nat):DY P w K tg (aAi K a n) [it] it (λi h=>h.IsRevIter it a ((n:Int)-1-(i:Nat))) where
 mem:=by simp
 obj:=λi h st b j=>by
  have e:b=it:=by simpa using j
  subst e;obtain⟨o,e,c,d⟩:=st;exact Y1H e (λv z=>by rw[d]at z;cases z)
 keep:=λi h m st k=>st.at λo e=>k it (by simp) o e
 item:=by
  intro X A G L S i g s σ H E I r st M;subst A G L;obtain⟨θ,x,N,η,R,O⟩:=M;obtain⟨β,rv,p,ε⟩:=I.list N;obtain⟨u,δ,ru⟩:=rv.get O;obtain⟨D,B,U,C,J,y⟩:=r it (by simp);have T:(n:Int)-1-(i:Nat)=((n-1-i:Nat):Int):=Oo;have st:s.heap.IsRevIter it a ((n:Int)-1-(i:Nat)):=st;rw[T]at st;refine wpAny_pyNext_rev_item st p.isList (x:=u) (by simpa using δ) λm l γ=>?_;have I1:cU X g σ H { s with heap:=m }:=Yam s.toks ((γ.2 b j).trans e) D B C J y;have α:((n-1-i:Nat):Int)-1=(n:Int)-1-((i+1:Nat):Int):=Oo;rw[α]at l;obtain⟨o,e,c,d⟩:=id l;exact Y00 u (QG (s:={ s with heap:=m }) e c d Dd ⟨x,H,I1,ru,Y5 (λζ Z=>by rw[I.list_inj Z N];exact O),l,λb j=>(r b j).1⟩)
 done:=by
  intro X A G L S i g s σ H E I r st M;subst A G L;have R:i=n:=M;subst R;obtain⟨D,B,U,C,J,y⟩:=r it (by simp);have st:s.heap.IsRevIter it a ((i:Int)-1-(i:Nat)):=st;rw[show(i:Int)-1-(i:Nat)=-1 by exact Oo]at st;exact wpAny_pyNext_rev_end (I.ok.hd S) st λm Y=>Y5 (Yam s.toks (Y b o j e) D B C J y)
 self:=λ_ _ _ _ _ st h=>wpAny_pyIter_revIter st h
def aIA(K:Aa)(ta:TA):TI:=Yb3 σ H (λvs H1=>∃l xs,vs=[Y11]/\gH K H1 l xs/\R (aAi K l xs.length) H1)
def UC:YcZ "reversed"=YdG "reversed":=Kk
section
variable{X:Cx}{tg:Expr}
def UT{a:Expr}{ta:TA}{p pos:Pos}(hg:Gl X "reversed")(hm:X.mg "reversed" = none)(ha:LF X [a] ta)(hs:Y38 a=[(false,Y0a a)]:=by first | exact pT | exact pU | exact iJ | rfl) :
  NY X tg (Y7K "reversed" p [a] []) (aIA X.K ta):=⟨by
 intro c s σ H R I h;refine Call_ (vV I hg hm UC (Yah (ha.p pos c s σ H _ I h) (λy d ⟨A,H1,I1,r,w⟩=>?_) (by rw[hs];rfl) (by rfl)));obtain⟨l,j,e,m,q⟩:=w;subst e;obtain⟨u,rfl,ru⟩:=nM r;cases ru;obtain⟨g,rv,p,z⟩:=I1.list m;have B:=rv.length;refine call_reversed_list p.isList ?_;have e:((g.toArray.size:Nat):Int)-1=(j.length:Int)-1-((0:Nat):Int):=by simp;exact Oo
 rw[e];refine wpAny_pyIter_revIter (l:=l) (i:=(j.length:Int)-1-((0:Nat):Int)) (Y6D _ Y0Q) ⟨d.heap.objs.size,Ydz,_,_,H1,rfl,Ybw d.toks Y2I,VF l _ j.length,Y6D _ Y0Q,λb n=>?_,q⟩;have e:b=d.heap.objs.size:=by simpa using n
 subst e;exact Yan Yp Yp⟩
end
def QK{K:Aa}{a:Addr}{xs:Al}{g:TG}{tb:TS}{D:qH}{σ:St}{H:Hp}(Pv:Y03 Y1Z)(h0:Y6h 0)(hl:∀i σ H,Y51 i->Y34->gH K H a xs)
  (hs:∀i x σ H,Y2u i->Y2h (Y4w 1-i)=Y7->Y34->g x σ H (Y4O ({ D with nx:=Pv (i+1),ct:=Pv (i+1),bk:=D.nx }))) (hd:∀σ H,Ycj->Y3P) :
  ∃W:Nat->Nat->St->Hp->Prop,(Y4H 0 m σ H)/\∀i m σ H,W i m σ H ->
   ((aAi K a xs.length).stop i H/\Y3P)\/((aAi K a xs.length).go i H/\∃N:St->Hp->Prop,Y8K (N σ' H'->∃m',m' < m/\W (i+1) m' σ' H') ((aAi K a xs.length).yld i H x H'->g x σ H' (Y4O ({ D with nx:=N,ct:=N,bk:=D.nx })))):=by
 refine Y9q (m=Y4w i/\Y51 i/\Y34) ⟨xs.length,by simp,Y0x,h0⟩;rintro i m σ H ⟨rfl,h,p⟩;have q:=hl i σ H h p;by_cases hlt:Y2u i
 ·have c:Y2h (Y4w 1-i)=some (xs[xs.length-1-i]'Oo):=aC Oo;refine Y3M (Y6n xs _ q hlt c) (Pv (i+1)) (λσ' H' d=>Y0h (Y4w (i+1)) Oo hlt d) Ycc;obtain⟨e,y⟩:=y;subst e;exact hs i x σ _ hlt (y xs q) p
 ·have e:Y53 i:=Oo;subst e;exact .inl (Y5 (hd σ H p))
structure eP(X:Cx)(scope:Scope)(xs:Ah)(N':Ah)(js:Ae):Prop where
 calm:Y1F
 free:∀y∈scope.names,y.2=.free->Y52 y.1 Y1C
 cell:∀y∈scope.names,y.2 ≠ .cell
 kind:scope.kind=.function
 names:∀y∈scope.names,y.2=.local->Y5a y.1
 own:∀x∈xs,Y5a x
 nofl:∀y,Y6S (y,NameKind.free)->Y5a y->False
 len:N'.length=Y6X js.length
 pre:∀(i:Nat) x,Y0s=Y7->N'[i]?=Y7
 nd:N'.Nodup
 slot:∀(i:Nat) (j:Nat),js[i]?=Y5P->∃y,N'[Y6X i]?=Y09/\X.N[j]?=Y09/\Y6S (y,NameKind.free)
def HC:Y03 (Y03 TGs)
 | _,0=>aE0
 | i,n+1=>YO (oE i) (HC (i+1) n)
def gN(K:Aa)(n:Nat):TG:=aEZ K n (HC 0 n)
theorem CP{H:Hp}{r:St}{Q:Y1Z}:∀(vs:Al) (pre os:St),os.length=vs.length->Q (pre++((vs.map some) ++ r)) H->HC pre.length vs.length vs (pre++(os++r)) H Q
 | [],pre,[],_,q=>⟨rfl,q⟩
 | v::vs,pre,o::os,hl,q=>by
  refine⟨v,vs,rfl,?_⟩;show HC (pre.length+1) vs.length vs ((pre++(o::os++r)).set pre.length (some v)) H Q;have e1:(pre++(o::os++r)).set pre.length (some v)=(pre++[some v])++(os++r):=by
   rw[List.set_append_right _ _ (aM _),Nat.sub_self,List.append_assoc];rfl
  have a:pre.length+1=(pre++[some v]).length:=by rw[aV];rfl
  rw[e1,a];refine CP vs (pre++[some v]) os (by simpa using hl) ?_;rw[List.append_assoc];exact q
@[irreducible] def vN(K:Aa)(n:Nat)(J:It)(σ:St)(js:Ae)(tc:TT)(te:TE)(H1:Hp)(Q:VK):Prop:=∀D,H1 D=none->∃W:Nat->Nat->Al->Hp->Prop,(Y4H 0 m [] (Y3Z H1 D [])) /\
 ∀i m ys H2,W i m ys H2->H2 D=Y0c/\((Y7Y H2/\Y0N D H2)\/(Y5j H2/\Y9l/\∀x H3,Y6v i H2 x->∃a vs,x=Yi/\jA K H3 a vs/\Y6V n /\
  vH tc (Y6E) H3 λb H4=>if b=true then BF te (Y6E) H4 λy H5=>H5 D=Y0c/\∃m',m' < m/\W (i+1) m' (ys++[y]) (Y3Z H5 D (ys++[y]))
   else H4 D=Y0c/\∃m',m' < m/\W (i+1) m' ys H4))
def BG(K:Aa)(n:Nat)(wi:TI)(js:Ae)(tc:TT)(te:TE):TE:=λσ H Q=>wi σ H λJ H1=>vN K n J σ js tc te H1 Q
section
variable{X:Cx}{pins:Ad}{σ:St}{H:Hp}{s:Shared}{scope:Scope}{xs:Ah}{N':Ah}{js:Ae}{fp:Y0D}
theorem eP.cells(S:Y6L)(ok:X.Ok):∀y∈scope.names,y.2=.free->∃c,Y9a y.1:=λy d a=>ok.has _ (.inl (S.free y d a))
def aBP(S:Y6L)(I:Y4)(hf:∀b∈fp,Y3j)(hb:∀b∈fp,Y3r b):(Yas X s H).Ok where
 mod:=I.ok.mod
 kind:=S.kind
 glob:=I.ok.glob
 blt:=I.ok.blt
 above:=Yp
 inj:=λy z c l d=>I.ok.inj y z c (Y3A l) (Y3A d)
 has:=λy g=>by
  have i:Y6S (y,NameKind.free):=by
   rcases g with g | g
   ·exact Yc5 X.env g Y3t
   ·exact Yc5 X.env g Y77
  obtain⟨c,m⟩:=S.cells I.ok _ i rfl;exact⟨c,Y7c i m⟩
 cab:=λ_ _ h=>by cases h
 hd:=λ_=>I.ok.hd S.calm
 frames:=I.ok.frames
 stk:=Y3t
 exf:=λb a=>⟨λe=>by have:=hb b a;rw[e]at this;exact Y1N,λy c h=>(hf b a).2.2.2.2.1 y c (Y3A h)⟩
 bs:=I.bs
 bsz:=Y8x I.sz
 noex:=λb o e a=>by
  rcases(hf b a).2.2.2.1 with h | h
  ·exact I.ok.noex b o e h
  ·exact Y6s Y15 (Y8x h) _
 exfs:=λb a j=>by
  have d:=I.stkSub b j;rcases bN.mp d with d | d
  ·exact(hf b a).2.1 d
  ·exact(hf b a).2.2.1 d
 funs:=I.stack
 frf:=I.stkFree
def ZA{h':Heap}{tk:Nat}(S:Y6L)(I:Y4)(hf:∀b∈fp,Y3j)(hb:∀b∈fp,Y3r b)
  (hn:Ydj Y7G) (hk:∀b o,Y23->Y1i=Ya):cU (Yas X s H) [] (List.replicate xs.length none++Y0v) H { s with heap:=h',toks:=tk } where
 ok:=aBP S I hf hb
 os:=rfl
 bare:=I.bare
 base:=Un.kept hk
 loc:=by
  refine Y0U hn (λi y v β G a=>?_);by_cases hlt0:Y2u i
  ·rw[cM (by rw[bH];exact hlt0),List.getElem?_replicate,if_pos hlt0]at G;cases G
  ·obtain⟨i,rfl⟩:∃k,i=Y6X k:=Y2l (i-xs.length);rw[cJ (by rw[bH];exact Oo),bH,Nat.add_sub_cancel_left]at G;have d:(Y0v)[i]?=Y7F:=G;have N:Y9U i:=by
    have:=(aB.mp d).1;unfold slots at this
    rwa [aA]at this
   have O:js[i]?=some js[i]:=aC N;obtain⟨z,Y,U,D⟩:=S.slot i _ O;have L:z=y:=by
    have:N'[Y6X i]?=Y09:=β;rw[Y]at this;cases this;rfl
   subst L;rw[yC O]at d;have α:σ[js[i]]?=Y7F:=by
    cases q:σ[js[i]]? with
    | none=>rw[q]at d;cases d
    | some o=>rw[q]at d;cases d;rfl
   have j:Y52 z Y1C:=S.free _ D rfl;obtain⟨m,ε,γ⟩:=I.loc;obtain⟨u,ru,R⟩:=γ _ z v U α (Y8w j);rcases R with⟨A,_⟩ | ⟨_,c,P,g⟩
   ·rw[j]at A;cases A
   ·refine⟨u,ru,Y3M ?_ c (Y7c D P) ?_⟩
    ·rcases a with a | a | a
     ·exfalso;have T:=Y7c D P;have w:=pF (l:=(relabel scope X.env).names) a;unfold relabel at w;obtain⟨⟨n,k⟩,B,C⟩:=aN.mp w;dsimp only at C;by_cases hq:(k == NameKind.free&&Yby .function&&X.env.kindOf n == Y1C)=true
      ·rw[if_pos hq]at C;cases C
      ·rw[if_neg hq]at C;cases C;have:=S.names _ B rfl;have M:=pE D;obtain⟨δ,M⟩:=M;dsimp only at this;rw[this]at M;have Z:(relabel scope X.env).names.lookup z=Y3p:=Yd3;have J:Y5a z:=this;exact S.nofl z D J
     ·exact .inl a
     ·exact .inr a
    ·obtain⟨o,e,r⟩:=g;exact Y1H (hk _ _ e) r
 cell:=λy c h=>by
  obtain⟨v,o,e,r⟩:=Y6p y (Y3A h);exact⟨v,o,hk _ _ e,r⟩
 free:=Y32
 freeC:=λy c h=>Y7U y (Y3A h)
 pin:=λp W=>by cases W
 hok:=I.hok.kept hk
 len:=by
  rw[aV,bH];unfold slots;rw[aA];exact S.len.symm
def FG{H2:Hp}{σ':St}{s2:Shared}{h'':Heap}(S:Y6L)(I:Y4)(hf:∀b∈fp,Y3j)
  (J:cU (Yas X s H) [] σ' H2 s2) (hs:Yd1 s2.heap h''):Y27 H2 ({ s2 with heap:=h'' }):=by
 have g:Ydr=none:=J.free;have ne:∀{b:Addr} {o:Obj},Y23->Yav b:=λe q=>by
  have:=Y15;rw[q]at this;exact Y1N
 refine Yd8 ({ s2 with heap:=h'' }) fp (by rw[show({ s2 with heap:=h'' }:Shared).os=s2.os from rfl];exact J.os) ?_ g (λb u a q=>Y7D u a q) J.bare (λb a=>⟨(hf b a).2.2.2.1,(hf b a).2.1,(hf b a).2.2.2.2.1,(hf b a).2.2.2.2.2⟩);have U:=J.base;exact {
  keep:=λb o e n d c=>hs.extBut b o (ne e) (U.keep b o e n d c)
  slot:=λb o e n d c=>by
   obtain⟨sl,q⟩:=U.slot b o e n d c;exact⟨sl,Y7D _ (ne e) q⟩
  free:=U.free
  there:=λb o e c=>by
   obtain⟨h,q⟩:=U.there b o e c;exact⟨h,Y7D _ (ne e) q⟩
  tups:=U.tups
  frzs:=U.frzs
  tbls:=U.tbls }
end
section
variable{X:Cx}{pins:Ad}{σ:St}{H:Hp}{s:Shared}{scope:Scope}{xs:Ah}{N':Ah}{js:Ae}{fp:Y0D}{elt iter:Expr}{px pos:Pos}{tg:Expr}{ifs:Y0j}{tc:TT}{te:TE}
def zM{J:It}{it:Addr}{tn:Y03 Y55}{RR:Y2w (Addr->Result->Y0M)}{E:Yc}{Q:VK}
  (S:Y6L) (I:Y4) (T:DY X.prog X.w X.K tg J fp it tn) (h0:Y9V 0) (hf:∀b∈fp,Y3j)
  (hg:YdI Y2D tg (gN X.K xs.length)) (ht:Ya7 ifs tc) (he:Ya6 elt te)
  (R:∀D,H D=none->∃W:Nat->Nat->Al->Hp->Prop,(Y4H 0 m [] (Y3a D [])) /\
   ∀i m ys H2,W i m ys H2->H2 D=Y0c/\((Y7Y H2/\Y0N D H2)\/(Y5j H2/\Y9l/\∀x H3,Y6v i H2 x->∃a vs,x=Yi/\jA X.K H3 a vs/\Y6V xs.length /\
    tc (Y6E) H3 λb H4=>if b=true then te (Y6E) H4 λy H5=>H5 D=Y0c/\∃m',m' < m/\W (i+1) m' (ys++[y]) (Y3Z H5 D (ys++[y]))
     else H4 D=Y0c/\∃m',m' < m/\W (i+1) m' ys H4)))
  (hRR:∀(D:Addr) (H3:Hp) (s3:Shared) (σ':St) (H':Hp) (s':Shared),Y27 H3 s3->(∀b∈fp,kQ X pins H3 b)->cU (Y3c X s3.heap.objs.size s3 H3) [] σ' H' s'->Y1a->YdT Y5d (.ok .next) s') :
  wpAny (Y4y) X.A (newList []) (λacc s₃=>wpAny (Y4y) X.A (Yc8 scope X.env.globals (Y7Z X) [] X.env.qual none .none X.env) (λcenv s₄ =>
   codeAny (Y4y) X.A (Ycl (Y1X [Y61 tg 0]) 0 acc ({ cenv with scope:=relabel scope X.env })) (RR acc cenv.locals) s₄) E s₃) E s:=by
 have U:∀b∈fp,Y3r b:=λb U=>by
  obtain⟨o,e,_⟩:=T.obj 0 _ h0 b U;exact Y15
 refine wpAny_newObj_type (wpAny_newFunctionEnv S.cell (by intro y ξ;simp at ξ) (λY N P=>?_) S.kind);have ν:YbJ=none:=Y32;obtain⟨W,⟨m0,ι⟩,hW⟩:=R _ ν;have I3:Y27 (Y2M []) ({ s with heap:=s.heap.push { cls:=.type "list",dict:=none,data:=.seq ([]:Ag).toArray } }):=Ye7 [] [] .nil Y0x;have z:∀b∈fp,kQ X pins (Y2M []) b:=λb c =>
  ⟨by rw[eO (λe=>by have:=U b c;rw[e]at this;exact Y1N)];exact(hf b c).1,(hf b c).2⟩
 have θ:∀b∈fp,b<(s.heap.push { cls:=.type "list",dict:=none,data:=.seq ([]:Ag).toArray }).objs.size:=λb c=>by
  rw[fW];exact Nat.lt_succ_of_lt (U b c)
 have g:∀b o,(s.heap.push { cls:=.type "list",dict:=none,data:=.seq ([]:Ag).toArray }).get? b=Ya->Y.get? b=Ya:=λb o e =>
  P.extBut b o (λq=>by have:=Y15;rw[q]at this;exact Y1N) (Y2I)
 have J4:=ZA (h':=Y) (tk:=s.toks+([]:List (Str × Value)).length) S I3 z θ N g;have υ:tn 0 Y:=T.keep 0 _ _ h0 λb c o e=>g b o (Y2I);have h:codeAny (Y4y) X.A (.compLoop (Y1X [Y61 tg 0]) 0 (Y6e) (Y0I) (YaU (Y7Z X) ((s.heap.push { cls:=.type "list",dict:=none,data:=.seq ([]:Ag).toArray }).objs.size) X.env))
   (RR (Y0I) (s.heap.push { cls:=.type "list",dict:=none,data:=.seq ([]:Ag).toArray }).objs.size) { s with heap:=Y,toks:=s.toks+([]:List (Str × Value)).length }:=by
  refine sR (λn s'=>∃(i:Nat) (ys:Al) (H2:Hp) (M:St),Y53 M.length/\cU (Y3c X _ _ _) [] (M++Y0v) H2 s'/\tn i s'.heap/\(∀b∈fp,H2 b=none)/\W i n ys H2) ?_ m0 ⟨0,[],_,_,bH,J4,υ,λb c=>(z b c).1,ι⟩;rintro n s' ⟨i,ys,H2,M,β,J2,ψ,f2,w2⟩;obtain⟨hD,j⟩:=hW i n ys H2 w2;have φ:∀b∈fp,kQ (Y3c X ((s.heap.push { cls:=.type "list",dict:=none,data:=.seq ([]:Ag).toArray }).objs.size) ({ s with heap:=s.heap.push { cls:=.type "list",dict:=none,data:=.seq ([]:Ag).toArray } }) (Y2M [])) [] H2 b:=λb c =>
   ⟨f2 b c,(Y9C c).1,J2.ok.exfs b c,.inl c,(Y9C c).2,λp η=>by cases η⟩
  rcases j with⟨G,ο⟩ | ⟨α,hz,B⟩
  ·refine Y2q (T.done (Y3c X _ _ _) rfl rfl rfl rfl i [] s' _ H2 UL J2 φ ψ G) (λr s1 ⟨ζ,J5⟩=>?_);subst ζ;exact hRR _ _ _ _ _ _ I3 z J5 ο
  ·refine Y2q (T.item (Y3c X _ _ _) rfl rfl rfl rfl i [] s' _ H2 UL J2 φ ψ α) (λr s1 ⟨u,ζ,hx⟩=>?_);subst ζ;refine Y2q hx (λ_ s2 ⟨v,H3,J3,rv,ξ,μ,f3⟩=>?_);have γ:∀b∈fp,kQ (Y3c X ((s.heap.push { cls:=.type "list",dict:=none,data:=.seq ([]:Ag).toArray }).objs.size) ({ s with heap:=s.heap.push { cls:=.type "list",dict:=none,data:=.seq ([]:Ag).toArray } }) (Y2M [])) [] H3 b:=λb c =>
    ⟨f3 b c,(Y9D c).1,J3.ok.exfs b c,.inl c,(Y9D c).2,λp η=>by cases η⟩
   have P3:=J3.pinned γ (T.obj (i+1) _ μ);have d:∀{σ':St} {Hx:Hp} {sx:Shared},cU (Y3c X ((s.heap.push { cls:=.type "list",dict:=none,data:=.seq ([]:Ag).toArray }).objs.size) ({ s with heap:=s.heap.push { cls:=.type "list",dict:=none,data:=.seq ([]:Ag).toArray } }) (Y2M [])) ([]++vQ fp s2.heap) σ' Hx sx->tn (i+1) sx.heap/\∀b∈fp,Hx b=none:=λχ =>
    ⟨T.keep (i+1) _ _ μ λb c τ e=>(χ.pin (b,τ) (bL _ (bL _ (kB c e)))).1,λb c=>by
     obtain⟨τ,e,_⟩:=T.obj (i+1) _ μ b c;exact(χ.pin (b,τ) (bL _ (bL _ (kB c e)))).2.1⟩
   obtain⟨a,vs,ev,ο,O,qe⟩:=B v H3 ξ;subst ev;refine Y2q (hg _ _ _ _ _ _ (M++Y0v) H3 (Yi) u (λσ' H'=>σ'=Y6E/\H'=H3) P3 rv (Y7s a vs ο O ?_)) (λ_ s5 ⟨σ5,H5,J5,e5,e6⟩=>?_)
   ·have:=CP (H:=H3) (r:=Y0v) (Q:=λσ' H'=>σ'=Y6E/\H'=H3) vs [] M (by rw[β,O]) Y6w;rw[O]at this;exact this
   subst e5 e6;refine Y2q (ht _ _ _ _ _ _ _ _ _ J5 qe) (λok s6 ⟨H6,J6,L⟩=>?_);dsimp only at L;by_cases hok:ok=true
   ·rw[if_pos hok]at L ⊢;refine Y2q (he _ _ _ _ _ _ _ _ _ J6 L) (λy s7 ⟨Z,H7,J7,ω,κ,m',l,ε⟩=>?_);refine Y2q (uS (X:=Y3c X _ _ _) _ _ _ _ (Y0I) [Z] (Y0I) [y] (λ_ H8=>H8=YdV H7 (.lst (ys++[Z]))) J7 rfl (Y7I ω) (Y0F _ _ _ rfl κ hz rfl)) (λ_ s8 ⟨_,H8,J8,_,e8⟩=>?_);subst e8;obtain⟨δ,ρ⟩:=d J8;exact⟨m',l,i+1,ys++[Z],_,vs.map some,by rw[aA,O],J8.unpinned,δ,ρ,ε⟩
   ·rw[if_neg hok]at L ⊢;obtain⟨_,m',l,ε⟩:=L;obtain⟨δ,ρ⟩:=d J6;exact⟨m',l,i+1,ys,_,vs.map some,by rw[aA,O],J6.unpinned,δ,ρ,ε⟩
 refine Ydm h X.A 0 _ _ _ υ h
def JC{wi:TI}(S:Y6L)(hi:PI X tg iter wi)(hg:YdI Y2D tg (gN X.K xs.length))(ht:Ya7 ifs tc)(he:Ya6 elt te)
  (hs:∀x,Y56 x=Y4I:=by intro _;rfl):Yn (Y1X [Y61 tg 0]) (BG X.K xs.length wi js tc te):=by
 intro a s σ H Q I h;rw[eval_ListComp];refine Ye5 none rfl hs (kZ (Y8Y)) S.kind (Y4T (hi a s σ H _ I h) (λv B g=>?_) e);refine Y4T g (λj w ⟨z,fp,p,J,H2,e,I2,T,i,n,R⟩=>?_) e;subst e;refine zM (te:=BF te) (tc:=vH tc) S I2 T i n hg (λC fp s₀ H₀=>(ht C fp s₀ H₀).mono) (λC fp s₀ H₀=>(he C fp s₀ H₀).mono) (by unfold vN at R;exact R) ?_;intro D H3 A u H' r I3 c J3 q;obtain⟨m,l,_⟩:=J3.loc;exact⟨m,l,λy d=>Y1h Y5d H' (FG S I3 c J3 d) q⟩
def JA{wi:TI}{y:Str}{py spos:Pos}{i:Nat}(S:Y6L)(hN:X.N.Nodup)(hiN:Y35=Y09)(hy:Y52 y Y3p)(hi:PI X tg iter wi)(hg:YdI Y2D tg (gN X.K xs.length))(ht:Ya7 ifs tc)(he:Ya6 elt te)
  (hsw:YcF (Y1X [Y61 tg 0]) (some (Y2H)) spos.line=pure true) (hs:∀x,Y56 x=Y4I:=by intro _;rfl) :
  PS X (.Assign [Y2H] (Y1X [Y61 tg 0]) spos) (DR (BG X.K xs.length wi js tc te) (oE i)):=by
 intro d s σ H D0 I h;rw[exec_Assign_Name_used _ _ _ _ hsw];refine Ybs Y4W;show wpAny _ X.A (do let _ <-comprehension (.ListComp elt [⟨tg,iter,ifs,0⟩] scope pos) scope X.env _ (newList []) false (eval iter X.env) (some (assign (.Name y py) X.env))) _ _ s;refine wpAny_bind (Y4T (wpAny_comprehension_free (use:=some (Y9w Y2H)) (Q:=λ_ l=>SP X d D0 .next l) rfl hs (kZ (Y8Y)) S.kind S.names (Y4T (hi d s σ H _ I h) (λv η W=>?_) e)) (λ_ l P=>YcS P) e);refine Y4T W (λZ ε ⟨it,fp,γ,J,H2,e,I2,T,Y,β,R⟩=>?_) e;subst e;refine zM (te:=BF te) (tc:=vH tc) (Q:=λv H'=>oE i v σ H' D0.nx) S I2 T Y β hg (λC fp s₀ H₀=>(ht C fp s₀ H₀).mono) (λC fp s₀ H₀=>(he C fp s₀ H₀).mono) (by unfold vN at R;exact R) ?_;intro D H3 L δ H' l I3 r J3 q;obtain⟨m,α,_⟩:=J3.loc;have IX:cU X d σ H' l:=FG S I3 r J3 (Heap.SameBut.refl ..);have j:Y4p L.heap.objs.size:=λe=>by have:=I3.lt;rw[e]at this;exact Y1N
 show wpAny _ X.A (assign (Y2H) X.env (Y5d)) _ _ _;refine wpAny_assign_Name (xZ IX hN hiN (.inl hy) (v:=Y5d) rfl (λM I5 g=>?_) (.inr hy));obtain⟨a,g,B⟩:=g;have w:L.heap.objs.size≠a:=by
  rcases B with rfl | B
  ·exact j
  ·intro e;obtain⟨v,o,u,_⟩:=I3.cell y a B;have:=aY u;rw[<-e]at this;exact Y1N
 refine⟨m,α.sameBut g w,λζ G=>⟨_,H',?_,q⟩⟩;exact I5.turned (it:=L.heap.objs.size) (t':=M.toks) (λb o n e=>G.extBut b o n e) J3.free j (.inr I3.sz)
  (λz c O e=>by
   obtain⟨v,o,u,_⟩:=I3.cell z c O;have:=aY u;rw[e]at this;exact Y1N)
  (λp U e=>by
   have:=aY (I3.pin p U).1;rw[e]at this;exact Y1N)
end
section
variable{X:Cx}{scope:Scope}{x1 x2 x3 y:Str}{N':Ah}{js:Ae}{elt iter tg:Expr}{ifs:Y0j}{py pos spos:Pos}{tc:TT}{te:TE}{wi:TI}{i:Nat}
def IF{xs:Ah}{k:Nat}{x:Str}{p:Pos}(S:Y6L)(h:Y2h k=Y7)(C:Addr)(fp:Y0D)(s₀:Shared)(H₀:Hp):PGw (Y2D) (.Name x p) (oE k) :=
 have l:=S.own x (aE h)
 dE S.nd (S.pre k x h) (.inl (lookup_relabel_local l)) (.inr (lookup_relabel_local l))
def UV{p1 p2 pt:Pos}{kk:Nat}(S:eP X scope [x1,x2] N' js)(C:Addr)(fp:Y0D)(s₀:Shared)(H₀:Hp):PGw (Y2D) (Y44 [Y78 p1,Y79 p2] kk) (gN X.K 2) :=
 nW rfl (eB (IF S rfl C fp s₀ H₀) (eB (IF S rfl C fp s₀ H₀) lC))
def UW{p1 p2 p3 pt:Pos}{kk:Nat}(S:eP X scope [x1,x2,x3] N' js)(C:Addr)(fp:Y0D)(s₀:Shared)(H₀:Hp):PGw (Y2D) (Y44 [Y78 p1,Y79 p2,.Name x3 p3] kk) (gN X.K 3) :=
 nW rfl (eB (IF S rfl C fp s₀ H₀) (eB (IF S rfl C fp s₀ H₀) (eB (IF S rfl C fp s₀ H₀) lC)))
def kI{p1 p2 pt:Pos}{kk:Nat}(S:eP X scope [x1,x2] N' js)(hi:NY X (Y44 [Y78 p1,Y79 p2] kk) iter wi)(ht:Yaq Y2D ifs tc)(he:Yap Y2D elt te)
  (hs:∀x,Y56 x=Y4I:=by intro _;rfl):Yh (Y1X [Y61 (Y44 [Y78 p1,Y79 p2] kk) 0]) (BG X.K 2 wi js tc te) :=
 ⟨JC S hi.p (λC fp s₀ H₀=>(UV S C fp s₀ H₀).p) (λC fp s₀ H₀=>(ht C fp s₀ H₀).p) (λC fp s₀ H₀=>(he C fp s₀ H₀).p) hs⟩
def RS{p1 p2 p3 pt:Pos}{kk:Nat}(S:eP X scope [x1,x2,x3] N' js)(hi:NY X (Y44 [Y78 p1,Y79 p2,.Name x3 p3] kk) iter wi)(ht:Yaq Y2D ifs tc)(he:Yap Y2D elt te)
  (hs:∀x,Y56 x=Y4I:=by intro _;rfl):Yh (Y1X [Y61 (Y44 [Y78 p1,Y79 p2,.Name x3 p3] kk) 0]) (BG X.K 3 wi js tc te) :=
 ⟨JC S hi.p (λC fp s₀ H₀=>(UW S C fp s₀ H₀).p) (λC fp s₀ H₀=>(ht C fp s₀ H₀).p) (λC fp s₀ H₀=>(he C fp s₀ H₀).p) hs⟩
def wJ{p1 p2 pt:Pos}{kk:Nat}(S:eP X scope [x1,x2] N' js)(hN:X.N.Nodup)(hiN:Y35=Y09)(hy:Y52 y Y3p)(hi:NY X (Y44 [Y78 p1,Y79 p2] kk) iter wi)(ht:Yaq Y2D ifs tc)(he:Yap Y2D elt te)
  (hsw:YcF (Y1X [Y61 (Y44 [Y78 p1,Y79 p2] kk) 0]) (some (Y2H)) spos.line=pure true:=by rfl) (hs:∀x,Y56 x=Y4I:=by intro _;rfl) :
  IB X (.Assign [Y2H] (Y1X [Y61 (Y44 [Y78 p1,Y79 p2] kk) 0]) spos) (DR (BG X.K 2 wi js tc te) (oE i)) :=
 ⟨JA S hN hiN hy hi.p (λC fp s₀ H₀=>(UV S C fp s₀ H₀).p) (λC fp s₀ H₀=>(ht C fp s₀ H₀).p) (λC fp s₀ H₀=>(he C fp s₀ H₀).p) hsw hs⟩
end
def NL(psc scope:Scope)(N:Ah)(xs N':Ah)(js:Ae):Bool :=
 (Y5V (!(Y8T y.2) || psc.names.lookup y.1 == Y1C))&&(Y5V (!(Y7X y.2)))&&scope.kind == .function &&
 (Y5V (!(y.2 == .local) || Y87 y.1))&&(xs.all λx=>Y87 x) &&
 (Y5V (!(Y8T y.2) || !(Y87 y.1)))&&N'.length == Y6X js.length&&N'.take xs.length == xs&&decide N'.Nodup &&
 ((List.range js.length).all λi=>match js[i]?,N'[xs.length+i]? with
  | some j,some y=>N[j]? == some y&&scope.names.contains (y,NameKind.free)
  | _,_=>false)
def eP.of{X:Cx}{psc scope:Scope}{N:Ah}{xs N':Ah}{js:Ae}(h:NL psc scope N xs N' js=true)(hX:X.env.scope=psc)(hN:X.N=N)(hc:Y1F):Y6L:=by
 unfold NL at h;simp only[dG]at h;obtain⟨⟨⟨⟨⟨⟨⟨⟨⟨r,p⟩,B⟩,n⟩,m⟩,s⟩,u⟩,z⟩,A⟩,c⟩:=h;rw[List.all_eq_true]at r p n m s c;refine⟨hc,Y5Z,Y5Z,by simpa using B,Y5Z,λx d=>by simpa using m x d,Y5Z,by simpa using u,λi x d=>?_,of_decide_eq_true A,λi j l=>?_⟩
 ·have:=r y a;rw[e]at this;show YcE y.1 _;rw[hX];simpa using this
 ·have:=p y a;rw[e]at this;simp at this
 ·have:=n y a;rw[e]at this;simpa using this
 ·have:=s _ a;rw[e]at this;simp at this
 ·have w:N'.take xs.length=xs:=by simpa using z
  have g:Y2u i:=(aB.mp d).1;rw[<-d]
  conv=>rhs;rw[<-w]
  rw[List.getElem?_take,if_pos g]
 ·have g:Y9U i:=(aB.mp l).1;have:=c i (cC.mpr g);rw[l]at this;cases q:N'[Y6X i]? with
  | none=>rw[q]at this;simp at this
  | some y =>
   rw[q]at this;simp only[dG]at this;exact Yd5 y (by rw[hN];simpa using this.1) this.2
def eP.o{X:Cx}{scope:Scope}(xs N':Ah)(js:Ae)(h:NL X.env.scope scope X.N xs N' js=true:=by exact Eq.refl true)(hc:Y1F:=by rfl):Y6L:=eP.of h rfl rfl hc
theorem ES{α β:Type}{R:Y0i α β}:∀{l:Yu}{m:List β}{i:Nat}{b:β},Paired R l m->m[i]?=some b->∃a,l[i]?=some a/\R a b
 | _,_,_,_,.nil,h=>by simp at h
 | _,_,0,b,.cons h t,e=>⟨_,rfl,by cases(show _=b by simpa using e);exact h⟩
 | _,_,i+1,b,.cons h t,e=>by
  obtain⟨a,h1,h2⟩:=ES t (i:=i) (by simpa using e);exact⟨a,by simpa using h1,h2⟩
section
variable{js:Ae}{te:TE}{tc:TT}{σ:St}{H:Hp}{Q:VK}
def TW{K:Aa}{n:Nat}{J:It}{α:Type}{as:Yu}(p:Y2K α)(Src:Y0i α V)(R:α->Y1I V)(hR:∀c y H1 H2,eZ H1 H2->R c y H1->R c y H2)(hz:as.length<=100000)
  (hg:∀i H',Y1->i<as.length->Y5j H'/\∀x H3,Y6v i H' x->H3=H'/\∃c,as[i]?=Y1v/\Src c x) (hst:∀H',Y1->J.stop as.length H')
  (hs:∀x c H',c∈as->Src c x->Y1->∃a vs,x=Yi/\jA K H' a vs/\Y6V n/\(∀Q':Bool->Hp->Prop,(∀H5,aT H' H5->Q' (p c) H5)->tc (Y6E) H' Q') /\
   ∀H5 (Q':VK),aT H' H5->p c=true->(∀y H6,aT H5 H6->R c y H6->Q' y H6)->te (Y6E) H5 Q')
  (hd:Y3f (H D=none) (Y0G=Y0c->Y1->Y9f (R c y H') (as.filter p) ys->Y1a)):vN K n J σ js tc te H Q:=by
 unfold vN;intro D B;have mono:∀{H1 H2:Hp} {l:Yu} {ys:Al},eZ H1 H2->Y9f (R c y H1) l ys->Y9f (R c y H2) l ys:=by
  intro H1 H2 l ys s h
  induction h with
  | nil=>exact .nil
  | cons h t ih=>exact .cons (hR _ _ _ _ s h) ih
 have snoc:∀{H1:Hp} {l:Yu} {ys:Al} {c:α} {y:V},Y9f (R c y H1) l ys->R c y H1->Y9f (R c y H1) (l++[c]) (ys++[y]):=by
  intro H1 l ys c y h r
  induction h with
  | nil=>exact Y7I r
  | cons h t ih=>exact .cons h ih
 refine Y0b (λi m ys H'=>m=as.length-i/\i<=as.length/\Y0G=Y0c/\Y1/\ys.length<=i/\Y9f (R c y H') ((as.take i).filter p) ys) ⟨as.length,by simp,Y0x,bK,aT.upd B,Yp,.nil⟩;rintro i m ys H2 ⟨rfl,Y,d,j,X,z⟩;refine Y0A d;by_cases hlt:i<as.length
 ·obtain⟨C,G⟩:=hg i H2 j hlt;refine .inr ⟨C,Ycd Oo Dd,λx H3 A=>?_⟩;obtain⟨rfl,c,L,M⟩:=G x H3 A;have u:as.take (i+1)=as.take i++[c]:=by rw[jV,L];rfl
  obtain⟨a,vs,e,P,U,O,T⟩:=hs x c H3 (aE L) M j;refine⟨a,vs,e,P,U,λb H4=>b=p c/\aT H3 H4,O _ λH5 w=>Y5 w,?_⟩;rintro b H4 ⟨rfl,g⟩;by_cases hp:p c=true
  ·rw[if_pos hp];refine Y0b (λy H5=>aT H4 H5/\R c y H5) (T H4 _ g hp λy H6 N r=>⟨N,r⟩);rintro y H5 ⟨w,r⟩;have I:=w _ _ (g _ _ d);refine⟨I,_,?_,rfl,hlt,bK,Yce B ((j.trans g).trans w),?_,?_⟩
   ·exact Oo
   ·rw[aV,List.length_singleton];exact Oo
   ·rw[u,List.filter_append,show List.filter p [c]=[c]by simp[hp]];have S:eZ H5 (Y3Z H5 D (ys++[y])):=aU.t aU.self I;exact mono S (snoc (mono (g.trans w).t z) r)
  ·rw[if_neg hp];refine⟨g _ _ d,_,?_,rfl,hlt,g _ _ d,j.trans g,Oo,?_⟩
   ·exact Oo
   ·rw[u,List.filter_append,show List.filter p [c]=[]by simp[hp],List.append_nil];exact mono g.t z
 ·have e:i=as.length:=Oo;subst e;refine Y2k (hst H2 j) (hd D ys H2 B d j ?_);rw[dL]at z;exact z
def FH{K:Aa}{n:Nat}{a0:Addr}{xs:Al}{α:Type}{as:Yu}(p:Y2K α)(Src:Y0i α V)(R:α->Y1I V)(hR:∀c y H1 H2,eZ H1 H2->R c y H1->R c y H2)(hz:as.length<=100000)(ha:H a0=Y0P)(pr:Paired Src as xs)
  (hs:∀x c H',c∈as->Src c x->Y1->∃a vs,x=Yi/\jA K H' a vs/\Y6V n/\(∀Q':Bool->Hp->Prop,(∀H5,aT H' H5->Q' (p c) H5)->tc (Y6E) H' Q') /\
   ∀H5 (Q':VK),aT H' H5->p c=true->(∀y H6,aT H5 H6->R c y H6->Q' y H6)->te (Y6E) H5 Q')
  (hd:Y3f (H D=none) (Y0G=Y0c->Y1->Y9f (R c y H') (as.filter p) ys->Y1a)):vN K n (Itl K a0) σ js tc te H Q:=by
 have j:Y5u as.length:=pr.length.symm;refine TW p Src R hR hz (λi H' s h=>Y9v ⟨xs,xs[i]'Oo,gH.of (s _ _ ha),by simp⟩ (Y0A y.1)) (λH' s=>⟨xs,gH.of (s _ _ ha),Oo⟩) hs hd;have e:=y.2 xs (gH.of (s _ _ ha));obtain⟨c,g,d⟩:=ES pr e;exact⟨c,g,d⟩
end
end L2
namespace L2
open PySem
section
variable{js:Ae}{te:TE}{σ:St}{H:Hp}{Q:VK}
def kP{K:Aa}{b1 b2:Bool}{l1 l2:Addr}{xs ys:Al}(R:Y7i V)(hR:Y7O (eZ H1 H2) (R i y H1->R i y H2))(hz:Ybg)(h1:H l1=Y4i b1)(h2:H l2=Y8f b2 ys)(hl:Ycg)
  (hs:∀i x y H' (Q':VK),Y0s=Y7->Y1m=Y09->Y1->(∀z H6,aT H' H6->R i z H6->Q' z H6)->te (Y7::Y09::Y0v) H' Q')
  (hd:∀D zs H',H D=none->Y0G=Yl zs->Y1->Y53 zs.length->(∀(i:Nat) (z:V),zs[i]?=some z->R i z H')->Y1a):vN K 2 (Itz b1 b2 l1 l2) σ js zN te H Q:=by
 unfold vN;intro D n;refine Y0b (λi m zs H'=>m=Y4w i/\Y51 i/\zs.length=i/\Y0G=Yl zs/\Y1/\∀(i:Nat) (z:V),zs[i]?=some z->R i z H') ⟨xs.length,by simp,Y0x,rfl,bK,aT.upd n,λi z h=>by simp at h⟩;rintro i m zs H2 ⟨rfl,O,g,c,a,s⟩;refine Y0A c;by_cases hlt:Y2u i
 ·have M:Y0s=some xs[i]:=aC Oo;have p:Y1m=some (ys[i]'Oo):=aC Oo;refine .inr ⟨⟨xs,ys,_,_,a _ _ h1,a _ _ h2,M,p⟩,Ycd Oo Dd,λv H3 y=>?_⟩;obtain⟨q,x,y,rfl,J,rfl,L⟩:=y;obtain⟨C,N⟩:=L xs ys (a _ _ h1) (a _ _ h2);have d:=Y3b [x,y] J;have A:(upd H2 q (.tup [x,y])) q=Yf [x,y]:=bK;generalize upd H2 q (.tup [x,y])=H3 at d A;refine Y0F q [x,y] rfl (jA.of A) (λb H4=>b=true/\H4=H3) Y6w ?_;rintro b H4 ⟨rfl,rfl⟩;rw[Yt];refine Y0b (λz H5=>aT H4 H5/\R i z H5) (hs i x y H4 _ C N (a.trans d) λz H6 I r=>⟨I,r⟩);rintro z H5 ⟨l,r⟩;have B:=l _ _ (d _ _ c);have u:eZ H5 (Y3Z H5 D (zs++[z])):=aU.t aU.self B;exact⟨B,Y4w (i+1),Oo,rfl,hlt,by rw[aV,g];rfl,bK,Yce n ((a.trans d).trans l),BK (R:=λj z=>R j z _) (λj w G=>hR j w _ _ ((d.trans l).t.trans u) (s j w G)) (by rw[g];exact hR i z _ _ u r)⟩
 ·have e:Y53 i:=Oo;subst e;exact Y2k ⟨xs,ys,a _ _ h1,a _ _ h2,.inl (Yp)⟩ (hd D zs H2 n c a g s)
end
theorem Paired.ofRepL{H:Hp}{α:Type}{g:α->PyData}:∀{as:Yu}{xs:Al},Y1f (as.map g) xs->Paired (λa x=>dI H (g a) x) as xs
 | [],xs,r=>by
  unfold bI at r;cases(show xs=[]from r);exact .nil
 | a::as,xs,r=>by
  rw[bE]at r;unfold bI at r;obtain⟨x,xs',rfl,r1,r2⟩:=r;exact .cons r1 (Paired.ofRepL r2)
theorem Paired.toRepL{H:Hp}{α:Type}{g:α->PyData}:∀{as:Yu}{xs:Al},Paired (λa x=>dI H (g a) x) as xs->Y1f (as.map g) xs
 | _,_,.nil=>bI.nil
 | _,_,.cons h t=>bI.cons h (Paired.toRepL t)
section
variable{X:Cx}{scope:Scope}{x1 x2 x3 y:Str}{N':Ah}{js:Ae}{elt iter tg:Expr}{ifs:Y0j}{py pos spos:Pos}{tc:TT}{te:TE}{wi wj:TI}{i:Nat}
end
end L2
namespace L2
open PySem PySem.Spec PyProof.Rows
section
variable{X:Cx}
@[irreducible] def PQ(K:Aa):R2:=λx y H Q=>∃a b xs ys,x=Yi/\y=Y0p/\H a=Y1d/\H b=Yf ys/\Y6X ys.length<=1000/\∀c H',Y1->H' c=Yf (xs++ys)->Y0u c
def aBY{K:Aa}{H:Hp}{Q:VK}{a b:Addr}{xs ys:Al}(h1:H a=Y1d)(h2:H b=Yf ys)(hz:Y6X ys.length<=1000)(k:∀c H',Y1->H' c=Yf (xs++ys)->Y0u c):PQ K (Yi) (Y0p) H Q:=by
 unfold PQ;exact⟨a,b,xs,ys,rfl,rfl,h1,h2,hz,k⟩
def AK(K:Aa)(hK:X.K=K:=by rfl):Y4X X .Add (PQ K):=by
 subst hK;unfold PQ;intro d s σ H x y v u Q I A z h;obtain⟨a,b,J,S,rfl,rfl,m,j,R,q⟩:=h;by_cases hx:J=[]
 ·cases A;cases z;subst hx;obtain⟨U,Z,M,_⟩:=Yaz m;obtain⟨G,α,Y,_⟩:=Yaz j;cases Z;obtain⟨⟨O,P,B,sl⟩,C,L,n,hd⟩:=id M;obtain⟨⟨D,r,l,w⟩,i,c,N,g⟩:=id Y;simp only at L hd c g;subst L hd c g;exact concat_meets (Y0R C) (Y0R i) noFill_tuple_add seq_tuple_add PySem.F.slot_tuple_add PySem.F.entry_tuple_add (Yd4 _)
   (tuple_addW0 a b _ _ n N P r sl w rfl) ⟨C,i,Y1h Y0p H I (q b H (Y08) j)⟩
 ·refine aBu d s σ H _ _ v u Q I A z ⟨a,b,J,S,rfl,rfl,jA.of m,jA.of j,hx,Y3l R,Y54,λ_ p T=>q p _ (aT.upd T) bK⟩;subst e;exact q a H (Y08) (by rw[List.append_nil];exact m)
end
def pH(a:Int)(t:Tok)(l:Addr)(items:Ai)(n:Nat)(dd:Y3v)(sl:Y60) :
  YaE (Builtin.«int.__rmul__» ⟨[Y4g a,Y11],[]⟩) (Y1V l ({ cls:=.type "tuple",dict:=dd,data:=.seq items n,slots:=sl })/\R (.ok (.ret Value.notImplemented)) s) :=
 .of_wp λc w A R s h=>by
  obtain⟨i,g,d,e,m⟩:=s;obtain⟨j,h⟩:=h
  wp_walk
  exact Y6 h
def LU(l:Addr)(items:Ai)(n:Nat)(dd:Y3v)(sl:Y60)(k:Int)(u:Tok)(h0:2<=k)(h1:k<=64)(he:Yx items.isEmpty)(hz:items.size<=64)(hsz:Y0O (((List.replicate k.toNat items).foldl (· ++ ·) #[]).size)) :
  YaE (Builtin.«tuple.__mul__» ⟨[Y11,.int k u],[]⟩) (Y1V l ({ cls:=.type "tuple",dict:=dd,data:=.seq items n,slots:=sl })/\R (.ok (.ret Y0I)) ({ s with heap:=s.heap.push { cls:=.type "tuple",data:=.seq ((List.replicate k.toNat items).foldl (· ++ ·) #[]) } })) :=
 .of_wp λe w A R s h=>by
  obtain⟨p,g,d,j,y⟩:=s;obtain⟨c,h⟩:=h;have r:=AutoSeq1.idx_int
  wp_walk using YbD
  rw[if_neg (by simp;exact Oo)]
  wp_walk using YbD
  have a:¬items=#[]:=λz=>by simp[z]at he
  have i:(items.size:Int)*k<=4096:=by
   have m:(items.size:Int)*k<=64*64:=Int.mul_le_mul Oo h1 Oo Oo;exact Oo
  rw[if_neg (by simp;exact Y2l a)];rw[if_neg (by simp;exact⟨Oo,a⟩)];show Y39 (if(items.size:Int)*k > (2^63-1)/8 then _ else _);rw[Y3y];show Y39 (if Builtin.Tuple.tupleTooMany (items.size*k)=true then _ else _);rw[if_neg (by unfold Builtin.Tuple.tupleTooMany;simp;exact Int.le_trans i Dd)]
  wp_walk
  exact Y6 h
def nA:fillsNumberSlot (.type "tuple") "mul" = Y4s:=PySem.fillsNumberSlot_seq (id := "tuple.__mul__") (r:=Y6O "tuple.__rmul__") F.slot_tuple_mul.lookup Kk F.slot_tuple_rmul.lookup Kk
def sH:seqRepeat? (.type "tuple")=pure (Y6O "tuple.__mul__"):=by
 unfold seqRepeat?;rw[PySem.seqSlot_of (T := "tuple") (name := "__mul__") (id := "tuple.__mul__") F.slot_tuple_mul.lookup Kk,PySem.seqSlot_of (T := "tuple") (name := "__rmul__") (id := "tuple.__rmul__") F.slot_tuple_rmul.lookup Kk];rfl
@[irreducible] def PJ:R2:=λx y H Q=>∃a z,∃k:Nat,x=Yi/\y=.int (k:Int)/\H a=Yf [z]/\2<=k/\k<=64/\∀c H',Y1->H' c=Yf (Y4V z)->Y0u c
def aIt{H:Hp}{Q:VK}{a:Addr}{z:V}{k:Nat}(h:H a=Yf [z])(h2:2<=k)(hk:k<=64)(q:∀c H',Y1->H' c=Yf (Y4V z)->Y0u c):PJ (Yi) (.int (k:Int)) H Q:=by
 unfold PJ;exact⟨a,z,k,rfl,rfl,h,h2,hk,q⟩
section
variable{X:Cx}
def aBs:Y4X X .Mult PJ:=by
 unfold PJ;intro w s σ H x y v u Q I G D h;obtain⟨a,z,k,rfl,rfl,N,S,l,q⟩:=h;cases G;obtain⟨t,rfl⟩:=(show ∃t,u=Value.int (k:Int) t from D);obtain⟨P,r,p,_⟩:=Yaz N;obtain⟨c,rfl,j⟩:=nM r;obtain⟨⟨J,m,A,sl⟩,g,C,n,hd⟩:=id p;simp only at C hd;subst C hd;have d:∀k:Nat,(Y4V [c]).flatten=Y4V c:=λk=>by
  induction k with
  | zero=>rfl
  | succ k ih=>rw[List.replicate_succ,List.flatten_cons,ih,List.replicate_succ];rfl
 have B:List.foldl (λM R=>M++R) #[] (Y4V ([c].toArray))=(Y4V c).toArray:=by
  have:=FB [c] k [];rw[List.nil_append,d]at this;exact this
 have L:∀k:Nat,eE (Y4V z) (Y4V c):=λk=>by
  induction k with
  | zero=>exact .nil
  | succ k ih=>exact .cons j ih
 generalize hk':(k:Int)=e;have i:e.toNat=k:=Oo;refine wpAny_binaryOp_repeat_ref (T := "tuple") (U := "int") Dd (Y0R g) (λO=>Y8t O e) nA F.fills_int_mul F.slot_int_rmul sH F.slot_int_index.lookup
  (Ydl F.slot_int_rmul (Y8t s e) F.entry_int_rmul _ _ (pH e t a [c].toArray n m sl) (Y41 g (Y0R g) ?_))
 refine Ydd F.slot_tuple_mul (Y0R g) F.entry_tuple_mul _ _ (LU a [c].toArray n m sl e t Oo Oo rfl (by show 1<=64;decide) (by rw[i,B,bF,bH];exact Y3l l)) (Y0A g);rw[i,B];refine Y4f (.ref _) (Ybu (.tup (Y4V z)) (λb W q=>Y1G q) Yp ?_) (q _ _ (aT.upd (Y32)) bK);exact⟨⟨by rw[bH];exact uR l,_,Y0Q,rfl⟩,_,L k,Yb6 _⟩
end
@[irreducible] def aA2:V->Y1B:=PP
def MV{X:Cx}:MtR X "list.extend" aA2:=by unfold aA2;exact SM
def aE4{H:Hp}{l b:Addr}{xs zs:Al}{Q:VK}(h:H l=Y0P)(h2:H b=Yl zs)(hz:Ych<=1000)(k:∀H',H' l=Yl (xs++zs)->Y65 l->Yad):aA2 (Y11) [Y0p] H Q:=by
 unfold aA2;exact⟨l,b,xs,zs,rfl,rfl,h,h2,Nat.le_of_lt (yB hz),k _ bK aU.self⟩
section
variable{prog:Program}{w:World}{A:Around}{E:Yc}{s:Shared}{l:Addr}{xs:Array (Int × Tok)}
def VT{Q:Yc}(hh:Y6k)(hl:s.heap.IsTuple l (intItems xs))
  (h:∀h' tk t',(∀b o,Y23->Y1i=Ya)->Q (.int (preSum (numAt xs) xs.size) t') { s with heap:=h',toks:=tk }) :
  Y21 (YaC "sum" [Y11]):=by
 have a:Y3r l:=by obtain⟨_,e,_⟩:=hl;exact Y15
 refine call_sum_walkG (wpAny_pyIter_tuple hl ?_);refine⟨_,[_,l],[_],_,_,_,numAt xs,rfl,Walks.tuple (A:=A.in1) hh _ l (dJ a) (intItems xs),⟨Y6D _ Y0Q,hl.push _⟩,λc d=>?_,(λ_ _=>intItems_at),λh' tk t' i=>?_⟩
 ·show c<(s.heap.push _).objs.size;rw[fW];rcases bN.mp d with rfl | d
  ·exact YdA
  ·rcases bN.mp d with rfl | d
   ·exact Nat.lt_succ_of_lt a
   ·cases d
 ·have:=h h' tk t' λc o e=>by
   refine i c o (λg=>?_) (Y2I);rcases bN.mp g with j | g
   ·exact absurd (j ▸ aY e) (bP _)
   ·cases g
  simpa[intItems]using this
end
@[irreducible] def PC(K:Aa):Y1B:=λxs H Q=>∃(p:Addr) (ns:Af),xs=[Y0Z]/\jA K H p (Y5o)/\Ybh
def rsT{K:Aa}{H:Hp}{p:Addr}{ns:Af}{Q:VK}(h:jA K H p (Y5o))(q:Ybh):PC K [Y0Z] H Q:=by unfold PC;exact Y0h p ns h q
def AT{X:Cx}(K:Aa)(hc:Y1F)(hK:X.K=K:=by rfl):Y4Y X "sum" (PC K):=by
 subst hK;unfold PC;intro g s σ H G A Q I r h;obtain⟨p,z,rfl,m,q⟩:=h;obtain⟨u,rfl,l⟩:=nM r;cases l;obtain⟨a,w,d,C⟩:=I.tuple m;have i:=vY w;obtain⟨c,e⟩:=i.allInts.items;rw[e]at d;refine VT (Y8B) d λD B y j=>⟨.int z.sum,H,I.kept j,Y0A y,q⟩;rw[preSum_eq,List.take_of_length_le (by simp)];rw[<-i.numsOf];have n:a=(intItems c).toList:=by rw[<-e]
 rw[n,nums_intItems]
section
variable{js:Ae}{te:TE}{tc:TT}{σ:St}{H:Hp}{Q:VK}
def bI.atI{α:Type}{g:α->PyData}:∀{as:Yu}{xs:Al},Y1f (as.map g) xs->∀{i:Nat}{x:V},Y0s=Y7->∃a,as[i]?=some a/\dI H (g a) x:=by
 intro as xs r i x e;obtain⟨d,c,h⟩:=r.get e;rw[aG]at c;cases q:as[i]? with
 | none=>rw[q]at c;cases c
 | some a=>rw[q]at c;cases c;exact Y00 a h
def TV{K:Aa}{a:Addr}{xs:Al}{α:Type}{g:α->PyData}{as:Yu}(r:Y1f (as.map g) xs)(p:Y2K α)(hz:Ybg)(hl:H a=Y0P)
  (ht:∀x c H' (Q':Yac),c∈as->dI H' (g c) x->Y1->(∀H5,aT H' H5->Q' (p c) H5)->tc (Y7::Y0v) H' Q')
  (he:∀x H' (Q':VK),Q' x H'->te (Y7::Y0v) H' Q')
  (hd:Y3f (H D=none) (Y0G=Y0c->Y1->bI H' ((as.filter p).map g) ys->Y1a)):pK (Itl K a) σ js tc te H Q:=by
 unfold pK;intro D z;have n:Y5u as.length:=by rw[r.len,aA]
 refine Y0b (λi m ys H'=>m=Y4w i/\Y51 i/\Y0G=Y0c/\Y1/\Y1f (((as.take i).filter p).map g) ys/\ys.length<=i) ⟨xs.length,by simp,Y0x,bK,aT.upd z,bI.nil,Yp⟩;rintro i m ys H2 ⟨rfl,J,d,h,u,I⟩;refine Y0A d;by_cases hlt:Y2u i
 ·have G:Y0s=some xs[i]:=aC hlt;refine .inr ⟨⟨xs,_,gH.of (h _ _ hl),G⟩,Ycd Oo Dd,λx H3 w=>?_⟩;obtain⟨rfl,j⟩:=w;have j:=j xs (gH.of (h _ _ hl));obtain⟨c,B,A⟩:=r.atI j;have l:as.take (i+1)=as.take i++[c]:=by rw[jV,B];rfl
  refine Y0b (λb H4=>b=p c/\aT H3 H4) (ht x c H3 _ (aE B) (A.same h) h λH5 C=>Y5 C);rintro b H4 ⟨rfl,s⟩;by_cases hp:p c=true
  ·rw[if_pos hp];refine Y0b (λy H5=>y=x/\H5=H4) (he x H4 _ Y6w);rintro y H5 ⟨rfl,rfl⟩;refine⟨s _ _ d,_,?_,rfl,hlt,bK,Yce z (h.trans s),?_,?_⟩
   ·exact Oo
   ·rw[l,List.filter_append,bD];have:List.filter p [c]=[c]:=by simp[hp]
    rw[this];exact bI.snoc u A
   ·rw[aV,List.length_singleton];exact Oo
  ·rw[if_neg hp];refine⟨s _ _ d,_,?_,rfl,hlt,s _ _ d,h.trans s,?_,?_⟩
   ·exact Oo
   ·rw[l,List.filter_append];have:List.filter p [c]=[]:=by simp[hp]
    rw[this,List.append_nil];exact u
   ·exact Oo
 ·have e:Y53 i:=Oo;subst e;refine Y2k ⟨xs,gH.of (h _ _ hl),Yp⟩ (hd D ys H2 z d h ?_);rw[n,dL]at u;exact u.same h
end
def OF{X:Cx}{e:Expr}{t:TT}(h:NW X e t):NW X e (vH t):=⟨h.p.mono⟩
end L2
namespace HT
open PySem PyProof.Rows
section
variable{prog:Program}{w:World}{A:Around}{E:Yc}{s:Shared}
def vE{t sl:Addr}{items:Ai}{vl vu:Value}{lo hi:Y1o}{Q:Yc}(ht:Yb5 t items)(hs:YbH sl vl vu)(pl:IsPart vl lo)(pu:IsPart vu hi)
  (h0:Y7m 0 lo=0) (h1:Y6I=items.size) (h:Y0N t s):Y21 (getItem (.ref t) (.ref sl)):=by
 obtain⟨j,c,d,i⟩:=id hs;have g:Y8k sl "slice" := ⟨j,c,d⟩;have e:Y8k t "tuple" := ht.typeIs;unfold getItem
 try with_reducible refine YdK
 first | refine Y3Y ?_ | skip
 refine wpAny_bind (wpAny_sequenceKey ht.typeIs Dd ?_);refine wpAny_bind (wpAny_callSpecial?_slot (name:=Str.ofString "__getitem__") ht.typeIs PyProof.Rows.slot_tuple_getitem
  (wpAny_call_entry PyProof.Rows.slot_tuple_getitem ht.typeIs entry_tuple_getitem ?_ (args_tuple_getitem _ _)))
 show Y3m (Builtin.Tuple.tupleItemsOf (.ref t) >>= _);refine wpAny_bind (tupleItemsOf_ ht ?_);refine wpAny_bind (wpAny_typeOf g ?_);rw[if_pos Dd];refine wpAny_bind (rC hs pl pu ?_);have a:(((kU items.size 0 lo:Nat):Int) == 0&&(1:Int) == 1&&Ycn (Y6I-Y7m 0 lo))=true:=by
  rw[h0,h1];simp
 show Y3m (if(((kU items.size 0 lo:Nat):Int) == 0&&(1:Int) == 1&&Ycn (Y6I-Y7m 0 lo))=true then _ else _);rw[if_pos a];unfold Builtin.Tuple.tupleIsExact;refine Ybp (wpAny_typeOf e (Y2r));rw[if_pos Dd];refine Yal ?_
 first
  | exact YaN h
  | exact Y3Y (YaN h)
end
end HT
namespace L2
open PySem PySem.W PySem.Spec PySem.Calls PyProof.Rows
def NK{xs:Al}{lo hi:Y1o}(h0:YaD 0 lo=0)(h1:Y53 (YaD xs.length hi)):nB xs lo hi=xs:=by
 unfold nB;rw[h0,h1];simp
section
variable{X:Cx}
@[irreducible] def ML(K:Aa):V->Y1o->Y84:=λx lo hi H Q=>∃a xs,x=Yi/\H a=Y1d/\∀c H',Y1->H' c=Yf (nB xs lo hi)->Y0u c
def OW(K:Aa)(hK:X.K=K:=by rfl):SlR X (ML K):=by
 unfold ML;subst hK;intro e s σ H x v z B m y sl Q I l j n w h;obtain⟨a,d,rfl,g,q⟩:=h;by_cases hw:Ycq 0 m=0/\Ycq d.length y=d.length
 ·cases l;obtain⟨i,r,u,C⟩:=Yaz g;have c:i.toArray.size=d.length:=by rw[bF];exact r.length.symm
  refine⟨"tuple",_,PyProof.Rows.slot_tuple_getitem.lookup,u.typeIs,HT.vE u j n w (by rw[c];exact hw.1) (by rw[c];exact hw.2) ?_⟩;exact Y1h Yi H I (q a H (Y08) (by rw[NK hw.1 hw.2];exact g))
 ·exact aC3 e s σ H (Yi) v z B m y sl Q I l j n w (Y7s a d (jA.of g) hw (λp A=>q p _ (aT.upd A) bK))
def aC5{K:Aa}{H:Hp}{a:Addr}{xs:Al}{k:Nat}{Q:VK}(h:H a=Y1d)(q:∀c H',Y1->H' c=Yf (xs.take k)->Y0u c):ML K (Yi) none (some (k:Int)) H Q:=by
 unfold ML;exact Y0h a xs h (λc H' s e=>q c H' s (by rw[e,QT]))
def aC4{K:Aa}{H:Hp}{a:Addr}{xs:Al}{k:Nat}{Q:VK}(h:H a=Y1d)(q:∀c H',Y1->H' c=Yf (xs.drop k)->Y0u c):ML K (Yi) (some (k:Int)) none H Q:=by
 unfold ML;exact Y0h a xs h (λc H' s e=>q c H' s (by rw[e,HK]))
def LV(l:Addr)(items:Ai)(n:Nat)(dd:Y3v)(sl:Y60)(u:Tok) :
  YaE (Builtin.«tuple.__mul__» ⟨[Y11,.int 1 u],[]⟩) (Y1V l ({ cls:=.type "tuple",dict:=dd,data:=.seq items n,slots:=sl })/\R (.ok (.ret Y11)) s) :=
 .of_wp λa w A R s h=>by
  obtain⟨i,g,d,e,m⟩:=s;obtain⟨c,h⟩:=h;have j:=AutoSeq1.idx_int
  wp_walk using YbD
  all_goals first | exact Y6 h | skip
def LX(l:Addr)(items:Ai)(n:Nat)(dd:Y3v)(sl:Y60)(u:Tok)(he:Yx items.isEmpty) :
  YaE (Builtin.«tuple.__mul__» ⟨[Y11,.int 0 u],[]⟩) (Y1V l ({ cls:=.type "tuple",dict:=dd,data:=.seq items n,slots:=sl })/\R (.ok (.ret Y0I)) ({ s with heap:=s.heap.push { cls:=.type "tuple",data:=.seq #[] } })) :=
 .of_wp λa w A R s h=>by
  obtain⟨i,g,d,e,m⟩:=s;obtain⟨c,h⟩:=h;have j:=AutoSeq1.idx_int
  wp_walk using YbD
  all_goals first | exact Y6 h | skip
@[irreducible] def PL:R2:=λx y H Q=>∃a z,∃k:Nat,x=Yi/\y=.int (k:Int)/\H a=Yf [z]/\k<=64/\∀c H',Y1->H' c=Yf (Y4V z)->Y0u c
def aIu{H:Hp}{Q:VK}{a:Addr}{z:V}{k:Nat}(h:H a=Yf [z])(hk:k<=64)(q:∀c H',Y1->H' c=Yf (Y4V z)->Y0u c):PL (Yi) (.int (k:Int)) H Q:=by
 unfold PL;exact Y0F a z k rfl h hk q
def aBt:Y4X X .Mult PL:=by
 unfold PL;intro d s σ H x y v u Q I w m h;obtain⟨a,z,k,rfl,rfl,i,C,q⟩:=h;by_cases h2:2<=k
 ·exact aBs d s σ H _ _ v u Q I w m (aIt i h2 C q)
 cases w;obtain⟨t,rfl⟩:=(show ∃t,u=Value.int (k:Int) t from m);obtain⟨G,r,p,_⟩:=Yaz i;obtain⟨g,rfl,J⟩:=nM r;obtain⟨⟨D,e,A,sl⟩,c,B,n,hd⟩:=id p;simp only at B hd;subst B hd;have l:k=0\/k=1:=Oo;rcases l with rfl | rfl
 ·refine wpAny_binaryOp_repeat_ref (T := "tuple") (U := "int") Dd (Y0R c) (λj=>Y8t j 0) nA F.fills_int_mul F.slot_int_rmul sH F.slot_int_index.lookup
   (Ydl F.slot_int_rmul (Y8t s 0) F.entry_int_rmul _ _ (pH 0 t a [g].toArray n e sl) (Y41 c (Y0R c) ?_))
  refine Ydd F.slot_tuple_mul (Y0R c) F.entry_tuple_mul _ _ (LX a [g].toArray n e sl t rfl) ⟨c,Y4f (.ref _) (Ybu (.tup []) (λb L q=>Y1G q) Yp ?_) (q _ _ (aT.upd (Y32)) bK)⟩;exact⟨⟨Y0x,_,Y0Q,rfl⟩,[],.nil,Yb6 _⟩
 ·refine wpAny_binaryOp_repeat_ref (T := "tuple") (U := "int") Dd (Y0R c) (λj=>Y8t j 1) nA F.fills_int_mul F.slot_int_rmul sH F.slot_int_index.lookup
   (Ydl F.slot_int_rmul (Y8t s 1) F.entry_int_rmul _ _ (pH 1 t a [g].toArray n e sl) (Y41 c (Y0R c) ?_))
  exact Ydd F.slot_tuple_mul (Y0R c) F.entry_tuple_mul _ _ (LV a [g].toArray n e sl t) ⟨c,Y1h Yi H I (q a H (Y08) i)⟩
end
end L2
namespace HT
open PySem PySem.W PyProof.Rows
def eV{α:Type}(n:Nat)(lt:Y7W)(R:Y0C α):Y0C (KasT α)
 | .ret a=>R a
 | .ask i j k=>i<n/\j<n/\eV n lt R (k (lt i j))
section
variable{n:Nat}{lt:Y7W}
theorem eV.bind{α β:Type}{R:Y0C α}{S:Y0C β}{f:α->KasT β}:∀{t:KasT α},Y24 R t->(∀a,R a->Y24 S (f a))->Y24 S (t.bind f)
 | .ret a,h,k=>k a h
 | .ask i j t,⟨h1,h2,h3⟩,k=>⟨h1,h2,eV.bind (t:=t (lt i j)) h3 k⟩
theorem eV.wp{α:Type}{R:Y0C α}{cmp:Y03 (Y03 ((Bool->Y0M)->Y0M))}{Q:α->Y0M}{s:Shared}(hc:∀i j C,i<n->j<n->C (lt i j) s->cmp i j C s)(q:∀a,R a->Q a s) :
  ∀{t:KasT α},Y24 R t->t.kasWp cmp Q s
 | .ret a,h=>q a h
 | .ask i j t,⟨h1,h2,h3⟩=>hc i j _ h1 h2 (eV.wp (t:=t (lt i j)) hc q h3)
def iT(n:Nat)(p:Y19):Prop:=p.Perm (YcO n)
def iT.bd{p:Y19}(g:iT n p)(hn:0<n)(i:Nat):Y5W i<n:=by
 by_cases hi:i<p.size
 ·have e:Y5W i=p[i]:=by simp[Array.getD,hi]
  rw[e];have m:p[i]∈YcO n:=(Array.Perm.mem_iff g).mp (Array.getElem_mem hi);simpa using m
 ·have e:Y5W i=0:=by simp[Array.getD,hi]
  rw[e];exact hn
def iT.rev{p:Y19}(g:iT n p)(i j:Nat):iT n (kas_rev p i j):=(mirror_perm p i j _).trans g
def iT.bub{p:Y19}(g:iT n p)(i j:Nat):iT n (bubble p i j):=(bubble_perm p i j).trans g
theorem HQ{p:Y19}(g:iT n p)(hn:0<n):∀(f m:Nat),Y24 (λ_=>True) (kas_asc p f m)
 | 0,m=>True.intro
 | f+1,m=>⟨g.bd hn _,g.bd hn _,by
  cases lt (p.getD m 0) (p.getD (m-1) 0)with
  | true=>exact True.intro
  | false=>exact HQ g hn f (m+1)⟩
theorem xO(hn:0<n):∀(f:Nat) {p:Y19}(g:iT n p) (m q:Nat),Y24 (λr=>iT n r.1) (kas_desc f p m q)
 | 0,p,g,m,q=>g
 | f+1,p,g,m,q=>by
  refine⟨g.bd hn _,g.bd hn _,?_⟩;cases lt (p.getD m 0) (p.getD (m-1) 0)with
  | true =>
   show eV n lt _ (if q > 0 then _ else _);split
   ·exact xO hn f (g.rev _ _) _ _
   ·exact xO hn f g _ _
  | false =>
   refine⟨g.bd hn _,g.bd hn _,?_⟩;cases lt (p.getD (m-1) 0) (p.getD m 0)with
   | true=>exact g
   | false=>exact xO hn f g _ _
def FQ{p:Y19}(g:iT n p)(hn:0<n)(m r:Nat):Y24 (λr=>iT n r.2) (kas_tail3 m r p):=by
 unfold kas_tail3;exact(HQ (g.rev 0 m) hn _ _).bind λ_ _=>g.rev 0 m
def xN{p:Y19}(g:iT n p)(hn:0<n)(m r:Nat):Y24 (λr=>iT n r.2) (kas_descPart m r p):=by
 unfold kas_descPart;refine(xO hn _ g _ _).bind λr a=>?_;split
 ·exact FQ (iT.rev a _ _) hn _ _
 ·exact FQ a hn _ _
def UE{p:Y19}(g:iT n p)(hn:0<n)(m:Nat):Y24 (λr=>iT n r.2) (kas_count m p):=by
 unfold kas_count;refine(HQ g hn _ _).bind λk _=>?_;split
 ·exact g
 ·split
  ·refine Y0b (g.bd hn _) (g.bd hn _);cases Y5I 0 (k-1)with
   | true=>exact g
   | false=>exact xN (g.rev _ _) hn _ _
  ·exact xN g hn _ _
theorem yW{p:Y19}(g:iT n p)(hn:0<n)(k:Nat):∀(f l r:Nat),Y24 (λ_=>True) (kas_place p k f l r)
 | 0,l,r=>True.intro
 | f+1,l,r=>by
  unfold kas_place;split
  ·exact True.intro
  ·refine⟨g.bd hn _,g.bd hn _,?_⟩;cases lt (p.getD k 0) (p.getD ((l+r)/2) 0)with
   | true=>exact yW g hn k f _ _
   | false=>exact yW g hn k f _ _
theorem QZ(hn:0<n):∀(f:Nat) {p:Y19}(g:iT n p) (k:Nat),Y24 (iT n) (kas_bin f p k)
 | 0,p,g,k=>g
 | f+1,p,g,k=>by
  unfold kas_bin;exact(yW g hn k _ _ _).bind λl _=>QZ hn f (g.bub _ _) _
def ZY(hn:0<n):Y24 (iT n) (kas_sort n):=by
 unfold kas_sort;refine(UE (Array.Perm.refl _) hn n).bind λr a=>?_;split
 ·exact QZ hn _ a _
 ·exact a
end
structure LG(n:Nat)(lt:Y7W):Prop where
 tot:∀i j,i<n->j<n->i≠j->Yx (lt i j)->lt j i=true
 tra:∀i j k,lt i j=true->lt j k=true->lt i k=true
def EB(lt:Y7W)(p:Y19)(m:Nat):Prop:=∀a b,a<b->b<m->Y5I a b=true
def Dsc(lt:Y7W)(p:Y19)(m:Nat):Prop:=∀a b,a<b->b<m->Y5I b a=true
section
variable{n:Nat}{lt:Y7W}
theorem eV.mono{α:Type}{R S:Y0C α}(k:∀a,R a->S a):∀{t:KasT α},Y24 R t->Y24 S t
 | .ret a,h=>k a h
 | .ask i j t,⟨h1,h2,h3⟩=>⟨h1,h2,eV.mono k (t:=t (lt i j)) h3⟩
theorem iT.size{p:Y19}(g:iT n p):p.size=n:=by
 have:=(Array.perm_iff_toList_perm.mp g).length_eq;simpa using this
def iT.ne{p:Y19}(g:iT n p){i j:Nat}(hi:i<n)(hj:j<n)(h:i≠j):Y5W i≠Y5W j:=by
 have d:p.toList.Nodup:=(Array.perm_iff_toList_perm.mp g).nodup_iff.mpr (by simpa using List.nodup_range);have a:=g.size;have c:p.getD i 0=p.toList[i]'(by simpa[a]using hi):=by simp[Array.getD,a,hi]
 have l:p.getD j 0=p.toList[j]'(by simpa[a]using hj):=by simp[Array.getD,a,hj]
 rw[c,l];intro e;exact h ((List.getElem_inj d).mp e)
def EB.one{p:Y19}:EB lt p 1:=λa b c d=>Oo
def EB.more(O:LG n lt){p:Y19}(g:iT n p){m:Nat}(h:EB lt p m)(h1:1<=m)(hm:m<n)(e:Yx (Y5I m (m-1))):EB lt p (m+1):=λa b c j=>by
 by_cases q:b<m
 ·exact h a b c q
 ·have i:b=m:=Oo;subst i;have d:Y5I (b-1) b=true:=O.tot _ _ (g.bd Oo _) (g.bd Oo _) (g.ne Oo Oo Oo) e;by_cases r:a=b-1
  ·rw[r];exact d
  ·exact O.tra _ _ _ (h a (b-1) Oo Oo) d
theorem HP(O:LG n lt){p:Y19}(g:iT n p):∀(f m:Nat),1<=m->m+f<=n->EB lt p m->Y24 (λk=>m<=k/\k<=m+f/\EB lt p k/\(k<m+f->Y5I k (k-1)=true)) (kas_asc p f m)
 | 0,m,_,_,h=>⟨aM _,aM _,h,λq=>Oo⟩
 | f+1,m,h1,hm,h=>by
  refine⟨g.bd Oo _,g.bd Oo _,?_⟩;cases e:lt (p.getD m 0) (p.getD (m-1) 0)with
  | true=>exact⟨aM _,Oo,h,λ_=>e⟩
  | false =>
   refine(show eV n lt _ (kas_asc p f (m+1))from ?_);have ih:=HP O g f (m+1) Oo Oo (h.more O g h1 Oo e);exact eV.mono (λk ⟨i,d,a,c⟩=>⟨Oo,Oo,a,λq=>c Oo⟩) ih
def Dsc.more(O:LG n lt){p:Y19}{m:Nat}(h:Dsc lt p m)(h1:1<=m)(e:Y5I m (m-1)=true):Dsc lt p (m+1):=λa b c g=>by
 by_cases q:b<m
 ·exact h a b c q
 ·have d:b=m:=Oo;subst d;by_cases r:a=b-1
  ·rw[r];exact e
  ·exact O.tra _ _ _ e (h a (b-1) Oo Oo)
theorem KA(O:LG n lt){p:Y19}(g:iT n p):∀(f m:Nat),1<=m->m+f<=n->Dsc lt p m->Y24 (λr=>r.1=p/\r.2.2=0/\m<=r.2.1/\r.2.1<=m+f/\Dsc lt p r.2.1) (kas_desc f p m 0)
 | 0,m,_,_,h=>⟨rfl,rfl,aM _,aM _,h⟩
 | f+1,m,h1,hm,h=>by
  refine⟨g.bd Oo _,g.bd Oo _,?_⟩;cases e:lt (p.getD m 0) (p.getD (m-1) 0)with
  | true =>
   refine(show eV n lt _ (kas_desc f p (m+1) 0)from ?_);exact eV.mono (λr ⟨a1,a2,a3,a4,a5⟩=>⟨a1,a2,Oo,Oo,a5⟩) (KA O g f (m+1) Oo Oo (h.more O h1 e))
  | false =>
   refine⟨g.bd Oo _,g.bd Oo _,?_⟩;rw[O.tot _ _ (g.bd Oo _) (g.bd Oo _) (g.ne Oo Oo Oo) e];exact⟨rfl,rfl,aM _,(show m<=m+(f+1)by exact Oo),h⟩
def WP{p:Y19}{m i:Nat}(hm:m<=p.size):(kas_rev p 0 m).getD i 0=if i<m then Y5W (m-1-i) else Y5W i:=by
 have e:=getElem?_mirror (xs:=p) (i:=0) (j:=m) hm (m/2) Oo i;have a:(kas_rev p 0 m)[i]?=if(0<=i/\i<0+m/2)\/(m-m/2<=i/\i<m) then p[0+m-1-i]? else p[i]?:=e
 have g:∀(q:Y19) (k:Nat),q.getD k 0=q[k]?.getD 0:=λq k=>by simp[Array.getD_eq_getD_getElem?]
 rw[g,a,g,g];by_cases h:i<m
 ·rw[Y5C];by_cases h2:(0<=i/\i<0+m/2)\/(m-m/2<=i/\i<m)
  ·rw[if_pos h2,show 0+m-1-i=m-1-i by exact Oo]
  ·rw[if_neg h2,show m-1-i=i by exact Oo]
 ·rw[Y5D,Y3y]
def Dsc.rev{p:Y19}{m:Nat}(h:Dsc lt p m)(hm:m<=p.size):EB lt (kas_rev p 0 m) m:=λa b c d=>by
 rw[WP hm,WP hm,Y6a,if_pos d];exact h _ _ Oo Oo
def TR(O:LG n lt){p:Y19}(g:iT n p)(hn:2<=n):Y24 (λr=>iT n r.2/\1<=r.1/\r.1<=n/\EB lt r.2 r.1) (kas_count n p):=by
 unfold kas_count;refine(HP O g (n-1) 1 (aM _) Oo EB.one).bind λk ⟨l,M,c,w⟩=>?_;split
 ·exact⟨g,l,by show k<=n;exact Oo,c⟩
 ·rename_i hk
  have B:k≠n:=λe=>hk (by simp[e]);split
  ·refine Y0b (g.bd Oo _) (g.bd Oo _);rw[c 0 (k-1) Oo Oo];exact⟨g,l,by show k<=n;exact Oo,c⟩
  ·have s:k=1:=Oo;subst s;unfold kas_descPart;have y:Dsc lt p 2:=λa b A J=>by
    have e:a=0/\b=1:=Oo;rw[e.1,e.2];exact w Oo
   refine(KA O g (n-2) 2 Oo Oo y).bind λr ⟨i,j,z,C,d⟩=>?_;obtain⟨I,m,q⟩:=r;dsimp only at i j z C d ⊢;subst i j;rw[Y2T];unfold kas_tail3;have D:=g.size;exact(HP O (g.rev 0 m) (n-m) m Oo Oo (d.rev Oo)).bind λh ⟨L,G,u,_⟩=>⟨g.rev 0 m,(show 1<=h by exact Oo),(show h<=n by exact Oo),u⟩
theorem yH(O:LG n lt){p:Y19}(g:iT n p){k:Nat}(hk:k<n)(h:EB lt p k):∀(f l r:Nat),l<=r->r<=k->r-l<=f->(∀a,a<l->Y5I a k=true)->(∀a,r<=a->a<k->Y5I k a=true) ->
  Y24 (λm=>m<=k/\(∀a,a<m->Y5I a k=true)/\∀a,m<=a->a<k->Y5I k a=true) (kas_place p k f l r)
 | 0,l,r,h1,h2,h3,h4,h5=>⟨Oo,h4,λa q1 q2=>h5 a Oo q2⟩
 | f+1,l,r,h1,h2,h3,h4,h5=>by
  unfold kas_place;split
  ·exact⟨Oo,h4,λa q1 q2=>h5 a Oo q2⟩
  ·refine⟨g.bd Oo _,g.bd Oo _,?_⟩;cases e:lt (p.getD k 0) (p.getD ((l+r)/2) 0)with
   | true =>
    refine(show eV n lt _ (kas_place p k f l ((l+r)/2))from ?_);refine yH O g hk h f l ((l+r)/2) Oo Oo Oo h4 λa q1 q2=>?_;by_cases q:a=(l+r)/2
    ·rw[q];exact e
    ·exact O.tra _ _ _ e (h _ _ Oo q2)
   | false =>
    refine(show eV n lt _ (kas_place p k f ((l+r)/2+1) r)from ?_);have e2:=O.tot _ _ (g.bd Oo _) (g.bd Oo _) (g.ne hk Oo Oo) e;refine yH O g hk h f ((l+r)/2+1) r Oo Oo Oo (λa q1=>?_) h5;by_cases q:a=(l+r)/2
    ·rw[q];exact e2
    ·exact O.tra _ _ _ (h a ((l+r)/2) Oo Oo) e2
def ZV{p:Y19}{k m i:Nat}(hk:k<p.size)(hm:m<=k):(bubble p k (k-m)).getD i 0=if i=m then Y5W k else if m<i/\i<=k then Y5W (i-1) else Y5W i:=by
 have e:=getElem?_bubble (xs:=p) hk (k-m) Oo i;have g:∀(q:Y19) (k:Nat),q.getD k 0=q[k]?.getD 0:=λq k=>by simp[Array.getD_eq_getD_getElem?]
 rw[g,e,g,g,g,show k-(k-m)=m by exact Oo];by_cases h:i=m
 ·rw[Y5C,Y5C]
 ·rw[Y5D,Y5D];by_cases h2:m<i/\i<=k
  ·rw[if_pos h2,if_pos h2]
  ·rw[if_neg h2,if_neg h2]
theorem QY(O:LG n lt):∀(f:Nat) {p:Y19}(g:iT n p) (k:Nat),k+f=n->EB lt p k->Y24 (λp=>iT n p/\EB lt p n) (kas_bin f p k)
 | 0,p,g,k,hk,h=>⟨g,by rw[<-hk];exact h⟩
 | f+1,p,g,k,hk,h=>by
  unfold kas_bin;refine(yH O g Oo h k 0 k Oo Oo Oo (λa q=>Oo) (λa q1 q2=>Oo)).bind λm ⟨m1,m2,m3⟩=>?_;have hs:=g.size;refine QY O f (g.bub _ _) (k+1) Oo λa b c d=>?_;rw[ZV Oo m1,ZV Oo m1];by_cases ha:a=m
  ·rw[if_pos ha,if_neg Oo,if_pos Oo];exact m3 _ Oo Oo
  ·rw[if_neg ha];by_cases hb':b=m
   ·rw[if_pos hb',if_neg Oo];exact m2 a Oo
   ·rw[if_neg hb'];by_cases q1:m<a/\a<=k
    ·rw[if_pos q1,if_pos Oo];exact h _ _ Oo Oo
    ·rw[if_neg q1];by_cases q2:m<b/\b<=k
     ·rw[if_pos q2];exact h _ _ Oo Oo
     ·rw[if_neg q2];exact h _ _ c Oo
def VZ(O:LG n lt)(hn:2<=n):Y24 (λp=>iT n p/\EB lt p n) (kas_sort n):=by
 unfold kas_sort;refine(TR O (Array.Perm.refl _) hn).bind λr ⟨a,d,g,c⟩=>?_;split
 ·rename_i q
  rw[Nat.max_eq_left d];exact QY O _ a _ Oo c
 ·rename_i q
  have e:r.1=n:=Oo;exact⟨a,e ▸ c⟩
end
end HT
namespace L2
open PySem PySem.Spec PySem.W PyProof.Rows HT
def OQ{x:V}{xs:Al}{us:Ag}(r:Y2C (x::xs)):∃u us',us=u::us'/\fE x u/\eE xs us':=by
 cases r with
 | cons h t=>exact Y0h _ _ h t
def JR(fin:Bool):Af->Y2K Af
 | x::a,y::b=>if x=y then JR fin a b else decide (x<y)
 | _,_=>fin
def sM(a b:Af):Bool:=JR (Y1E a.length b.length) a b
def CH(a:Af):Yx (sM a []):=by
 unfold sM;cases a <;> rfl
def GW(y:Int)(b:Af):sM [] (y::b)=true:=by unfold sM;rfl
def GX(x y:Int)(a b:Af):sM (x::a) (y::b)=if x=y then sM a b else Y1E x y:=by
 show(if x=y then JR (Y1E ((x::a).length) ((y::b).length)) a b else Y1E x y)=_;rw[cL,cL,show decide (a.length+1<b.length+1)=decide (a.length<b.length)by simp]
 rfl
theorem PZ:∀{a b:Af},a≠b->Yx (sM a b)->sM b a=true
 | [],[],h,_=>absurd rfl h
 | [],y::b,_,e=>by rw[GW]at e;cases e
 | x::a,[],_,_=>GW _ _
 | x::a,y::b,h,e=>by
  rw[GX]at e ⊢;by_cases q:x=y
  ·subst q;rw[if_pos rfl]at e ⊢;exact PZ (λz=>h (by rw[z])) e
  ·rw[if_neg q]at e;rw[if_neg (Ne.symm q)];have:=of_decide_eq_false e;exact cO Oo
theorem GU:∀{a b c:Af},sM a b=true->sM b c=true->sM a c=true
 | a,b,[],_,h=>by rw[CH]at h;cases h
 | [],b,z::c,_,_=>GW _ _
 | x::a,[],z::c,h,_=>by rw[CH]at h;cases h
 | x::a,y::b,z::c,h1,h2=>by
  rw[GX]at h1 h2 ⊢;by_cases q1:x=y
  ·subst q1;rw[if_pos rfl]at h1;by_cases q2:x=z
   ·subst q2;rw[if_pos rfl]at h2 ⊢;exact GU h1 h2
   ·rw[if_neg q2]at h2 ⊢;exact h2
  ·rw[if_neg q1]at h1;have h1:=of_decide_eq_true h1;by_cases q2:y=z
   ·subst q2;rw[if_neg q1];exact cO h1
   ·rw[if_neg q2]at h2;have h2:=of_decide_eq_true h2;rw[if_neg Oo];exact cO Oo
def GV{a:Af}:Yx (sM a a):=by
 induction a with
 | nil=>exact CH _
 | cons x a ih=>rw[GX,Yt];exact ih
theorem JQ:∀{l m:Ac},l.Pairwise (λa b=>sM a b=true)->m.Pairwise (λa b=>sM a b=true)->(∀x,x∈l↔x∈m)->l=m
 | [],[],_,_,_=>rfl
 | [],y::m,_,_,h=>by have:=(h y).mpr (bC ..);cases this
 | x::l,[],_,_,h=>by have:=(h x).mp (bC ..);cases this
 | x::l,y::m,h1,h2,h=>by
  obtain⟨c,g⟩:=List.pairwise_cons.mp h1;obtain⟨d,b2⟩:=List.pairwise_cons.mp h2;have e:x=y:=by
   rcases bN.mp ((h x).mp (bC ..))with q | q
   ·exact q
   ·rcases bN.mp ((h y).mpr (bC ..))with r | r
    ·exact r.symm
    ·have:=GU (d x q) (c y r);rw[GV]at this;cases this
  subst e;rw[JQ g b2 λz=>?_];constructor
  ·intro q;rcases bN.mp ((h z).mp (bG _ q))with r | r
   ·subst r;have:=c z q;rw[GV]at this;cases this
   ·exact r
  ·intro q;rcases bN.mp ((h z).mpr (bG _ q))with r | r
   ·subst r;have:=d z q;rw[GV]at this;cases this
   ·exact r
abbrev PY(cs:Ac):Y7W:=λi j=>sM (cs.getD i []) (cs.getD j [])
def aEB{cs:Ac}(h:cs.Nodup):LG cs.length (PY cs):=⟨λi j l g ne e=>PZ (λz=>by
  have a:cs.getD i []=cs[i]:=by simp[l]
  have m:cs.getD j []=cs[j]:=by simp[g]
  rw[a,m]at z;exact ne ((List.getElem_inj h).mp z)) e,λi j k d c=>GU d c⟩
section
variable{prog:Program}{w:World}{A:Around}{E:Yc}{s:Shared}{Q:Bool->Y0M}
theorem zH{fin:Bool}:∀{a b:Af}{us vs:Ag}{i:Nat},Y2C (a.map V.int)->eE (b.map V.int) vs->Q (JR fin a b) s->KatLex prog w A true fin Q (us.zip vs) i s
 | [],b,us,vs,i,ha,hb,q=>by cases ha;exact kat_nil (by unfold JR at q;exact q)
 | x::a,[],us,vs,i,ha,hb,q=>by
  cases hb;cases us with
  | nil=>exact kat_nil (by unfold JR at q;exact q)
  | cons u us=>exact kat_nil (by unfold JR at q;exact q)
 | x::a,y::b,us,vs,i,ha,hb,q=>by
  rw[bE]at ha hb;obtain⟨u,us',rfl,⟨t,rfl⟩,ra⟩:=OQ ha;obtain⟨v,c,rfl,⟨e,rfl⟩,d⟩:=OQ hb;rw[List.zip_cons_cons];refine kat_cons (wpAny_eqBool_int ?_);unfold JR at q;by_cases h:x=y
  ·rw[if_pos h]at q;rw[show(x == y)=true by simp[h]];exact kat_yes (zH ra d q)
  ·rw[if_neg h]at q;rw[show(x == y)=false by simp[h]];refine kat_no ?_;cases(true&&i == 0)with
   | true=>exact oneLt_int q
   | false=>exact kat_one _ _ (lt_int q)
def aCO(h:Heap)(v:Value)(c:Af):Prop:=∃b its,v=Y0p/\IsTup h b (List.toArray its)/\eE (Ybx) its/\c≠[]
abbrev mK(h:Heap):Y0i Ag Ac:=Paired (aCO h)
theorem mK.get{h:Heap}:∀{vs:Ag}{cs:Ac}{i:Nat},mK h vs cs->i<vs.length->aCO h (YbQ i) (cs.getD i [])
 | _,_,_,.nil,hi=>by simp at hi
 | _,_,0,.cons t r,hi=>t
 | v::vs,c::cs,i+1,.cons t r,hi=>by
  have:=mK.get (i:=i) r (by simpa using hi);simpa using this
theorem mK.firsts{h:Heap}:∀{vs:Ag}{cs:Ac},mK h vs cs->∃fs,KatTups h vs fs/\Y6f vs.length/\∀v∈fs,∃i t,v=Value.int i t
 | _,_,.nil=>⟨[],KatTups.nil,rfl,λv hv=>by cases hv⟩
 | v::vs,c::cs,.cons t r=>by
  obtain⟨fs,h1,h2,h3⟩:=mK.firsts r;obtain⟨b,d,rfl,⟨o,e,g,n,hd⟩,hv,a⟩:=t;cases c with
  | nil=>exact absurd rfl a
  | cons x c =>
   rw[bE]at hv;obtain⟨u,j,rfl,⟨t,rfl⟩,_⟩:=OQ hv;exact⟨.int x t::fs,KatTups.cons e g hd (by simp) h1,by simp[h2],λv hv=>by
    rcases bN.mp hv with rfl | hv
    ·exact⟨_,_,rfl⟩
    ·exact h3 v hv⟩
theorem mK.keep{h h':Heap}(k:∀b o,Y29=Ya->o.cls=.type "tuple" -> Y1i=Ya):∀{vs:Ag}{cs:Ac},mK h vs cs->mK h' vs cs
 | _,_,.nil=>.nil
 | _,_,.cons ⟨b,its,e,⟨o,ho,hc,hd⟩,hv,hne⟩ r=>.cons ⟨b,its,e,⟨o,k b o ho hc,hc,hd⟩,hv,hne⟩ (mK.keep k r)
def WA{n:Nat}{lt:Y7W}(hn:2<=n):Y24 (λp=>iT n p/\(LG n lt->EB lt p n)) (kas_sort n):=by
 by_cases O:LG n lt
 ·exact eV.mono (λp h=>⟨h.1,λ_=>h.2⟩) (VZ O hn)
 ·exact eV.mono (λp h=>⟨h,λz=>absurd z O⟩) (ZY Oo)
def RY{a:Addr}{vs:Ag}{cs:Ac}{n:Nat}{P:PySem.Fin->Y0M}(ho:Y1V a (seqObj "list" vs.toArray n))(ht:mK s.heap vs cs)(h64:vs.length<64)
  (h:∀p:Array Nat,Y9x p->(Ya2->Ya3 p)->P (Ycz .none) { s with heap:=sortedHeap s.heap a vs (List.toArray (p.toList.map λi=>vs.getD i Value.none)) }) :
  wpAny (model prog w) A (Builtin.«list.sort» ⟨Y22,[]⟩) P E s:=by
 rw[list_sort_plain];have X:Y3r a:=aY ho;refine wpAny_bind (listItems_at ho rfl ?_);refine wpAny_bind (listUpdate_at ho rfl ?_ (by rw[bF,sizeLine_eq];exact Oo) (Y0x));obtain⟨J,r⟩:∃J,(s.heap.update a (Obj.mapSeq λ_=>#[])).get? a=YaV "list" (#[]) J:=Y2S (YdF ho (#[]));refine Ydk r rfl ?_;refine wpAny_bind (wpAny_newTuple ?_ (by show vs.length<=_;rw[sizeLine_eq];exact Oo));refine wpAny_bind (wpAny_newList ?_ (Y0x));refine YdK;have d:(((s.heap.update a (Obj.mapSeq λ_=>#[])).push (seqObj "tuple" vs.toArray 0)).push (seqObj "list" #[] 0)).get? a=YaV "list" (#[]) J:=by
  rw[Heap.get?_push_ne _ _ _ (by rw[size_push',Heap.size_update];exact dJ (Nat.lt_succ_of_lt X)),Heap.get?_push_ne _ _ _ (by rw[Heap.size_update];exact dJ X)];exact r
 show wpAny (model prog w) A _ P E ({ s with heap:=((s.heap.update a (Obj.mapSeq λ_=>#[])).push (seqObj "tuple" vs.toArray 0)).push (seqObj "list" #[] 0) });dsimp only;have D:∀c:SortSt,∀p:Array Nat,Y9x p->(Ya2->Ya3 p)->(arrOf c).map (·.2)=Yd0 (λi=>YbQ i) ->
   P (Ycz .none) { s with heap:=sortedHeap s.heap a vs ((arrOf c).map (·.2)) }:=by
  intro c p y ho δ;rw[δ];exact h p y ho
 have l:mK (((s.heap.update a (Obj.mapSeq λ_=>#[])).push (seqObj "tuple" vs.toArray 0)).push (seqObj "list" #[] 0)) vs cs:=ht.keep λb o u γ=>by
  have U:b≠a:=λe=>by
   subst e;rw[ho]at u;cases u;exact Y6g (show Value.type "list" = Value.type "tuple" from γ)
  exact Y70 (by rw[Heap.get?_update_ne _ _ _ _ U];exact u)
 by_cases h2:vs.toArray.size<2
 ·rw[if_pos h2,if_pos h2];refine Y3Y ?_;rw[StateT.run_pure];refine Y3Y ?_;dsimp only;refine Ydk d rfl ?_;refine wpAny_bind (listUpdate_at d rfl ?_ (hsz2:=by rw[Array.size_map];show(pairsOf vs).size<=_;rw[pairsOf_size,sizeLine_eq];exact Oo));simp only[bne_self_eq_false,Bool.false_eq_true,if_false];refine wpAny_pure (D (SortSt.mk' general' (YcN) #[] 7 none) (YcO vs.length) (Array.Perm.refl _) (λ_ a b ψ h3=>by rw[bF]at h2;exact Oo) ?_);have e:=kat_snds (ks:=vs) (vs:=vs) (st:=SortSt.mk' general' (YcN) #[] 7 none) (p:=YcO vs.length) rfl (by
   have e:=kas_range (YcN);rw[show(vs.toArray.zip vs.toArray).size=vs.length by simp]at e;exact e.symm)
  exact e
 ·rw[if_neg h2,if_neg h2];have m:2<=vs.length:=by rw[bF]at h2;exact Oo
  obtain⟨fs,τ,ω,ν⟩:=l.firsts;refine wpAny_bind (kat_kind (T:=.type "int") τ Oo (λv I=>?_) rfl ?_)
  ·obtain⟨i,t,rfl⟩:=ν v I;exact .now
  refine wpAny_bind (wpAny_mono (kat_run (ks:=vs) (vs:=vs) (G:=λp z=>z={ s with heap:=((s.heap.update a (Obj.mapSeq λ_=>#[])).push (seqObj "tuple" vs.toArray 0)).push (seqObj "list" #[] 0) }/\Y9x p/\(Ya2->Ya3 p))
   (Q:=λc z=>z={ s with heap:=((s.heap.update a (Obj.mapSeq λ_=>#[])).push (seqObj "tuple" vs.toArray 0)).push (seqObj "list" #[] 0) }/\failedOf c=none/\∃p:Array Nat,p.size=vs.length/\(Y9x p/\(Ya2->Ya3 p))/\arrOf c=p.map (kas_item (YcN)))
   rfl m h64 (λμ c z ξ ι ε W=>⟨W.1,ε,μ,ξ,W.2,ι⟩)
   (eV.wp (n:=vs.length) (lt:=PY cs) (R:=λp=>Y9x p/\(Ya2->Ya3 p)) (λi j C ρ η ζ=>?_) (λp y=>Y5 y) (WA m))) ?_ λ_ _ e=>e)
  ·obtain⟨b,ο,M,⟨o,u,γ,υ,hd⟩,I,_⟩:=l.get ρ;obtain⟨b2,α,S,⟨χ,L,κ,φ,N⟩,B,_⟩:=l.get η;unfold kas_ask;rw[M,S];refine kat_lt u hd L N (zH I B ?_);have Z:=I.length;have Y:=B.length;rw[aA]at Z Y;rw[bF,bF,<-Z,<-Y];exact ζ
  rintro⟨⟨⟩,c⟩ z ⟨rfl,θ,p,y,β,O⟩;dsimp only;have g:=kat_snds rfl O;refine Ydk d rfl ?_;refine wpAny_bind (listUpdate_at d rfl ?_ (hsz2:=by rw[g,bF,aA,Array.length_toList,y,sizeLine_eq];exact Oo));rw[θ];simp only[bne_self_eq_false,Bool.false_eq_true,if_false];exact wpAny_pure (D c p β.1 β.2 g)
end
theorem OR{X:Cx}{pins:Ad}{σ:St}{H:Hp}{s:Shared}(I:Y4):∀{cs:Ac}{ys:Al}{us:Ag},Yb1 Yae ys->(∀c∈cs,c≠[])->Y2C ys->mK s.heap us cs
 | [],ys,us,r,hc,v=>by
  unfold bI at r;cases(show ys=[]from r);cases v;exact .nil
 | c::cs,ys,us,r,hc,v=>by
  rw[bE]at r;unfold bI at r;obtain⟨y,ys',rfl,r1,r2⟩:=r;obtain⟨u,m,rfl,rv,p⟩:=OQ v;refine .cons ?_ (OR I r2 (λc h=>hc c (bG _ h)) p);unfold dI at r1;obtain⟨a,l,rfl,j,d⟩:=r1;cases rv;obtain⟨g,i,n,e⟩:=I.tuple (jA.of j);have A:l=c.map V.int:=by
   clear i j hc e
   induction c generalizing l with
   | nil=>unfold bI at d;exact d
   | cons z c ih =>
    rw[bE]at d;unfold bI at d;obtain⟨x,B,rfl,C,w⟩:=d;cases(show x=V.int z from C);rw[ih _ w];rfl
  subst A;exact⟨a,g,rfl,n,i,hc c (bC ..)⟩
theorem OP{ys:Al}{us:Ag}(v:Y2C ys):∀ix:Ae,(∀i∈ix,i<ys.length)->eE (ix.map λi=>ys.getD i .non) (ix.map λi=>us.getD i Value.none)
 | [],_=>.nil
 | i::ix,h=>by
  have hi:=h i (bC ..);obtain⟨u,c,ru⟩:=v.get (i:=i) (x:=ys[i]) (by simp[hi]);refine .cons ?_ (OP v ix λj d=>h j (bG _ d));have a:ys.getD i .non=ys[i]:=by simp[hi]
  have e:us.getD i Value.none=u:=by rw[aR,c];rfl
  show fE (ys.getD i .non) (us.getD i Value.none);rw[a,e];exact ru
open Classical in
section
variable{X:Cx}{pins:Ad}{σ:St}{H:Hp}{s:Shared}
end
section
variable{X:Cx}
end
end L2
namespace HT
open PySem PySem.Spec PyProof.Rows PySem.Builtin
section
variable{prog:Program}{w:World}{A:Around}{E:Yc}{s:Shared}
end
section
variable{prog:Program}{w:World}{A:Around}{E:Yc}{s:Shared}{K:Type}[DecidableEq K]{knd:HeapKind prog w K}
end
end HT
namespace L2
open PySem PySem.Spec PySem.W PyProof.Rows HT
section
variable{X:Cx}{pins:Ad}{σ:St}{H:Hp}
end
end L2
namespace HT
open PySem PySem.Spec PyProof.Rows
section
variable{prog:Program}{w:World}{A:Around}{E:Yc}{s:Shared}{it d:Addr}{es:YaG}{ep i:Nat}{od:Obj}
def aBG{Q:Y5n->Y0M}(hit:s.heap.IsKeyIter it d i es.size ep)(hod:Y1V d od)(hdd:od.data=.dict es ep)(hi:i<es.size)
  (h:∀h',h'.IsKeyIter it d (i+1) es.size ep->Yau it h'->Q (some es[i].key) { s with heap:=h' }):Y9R it:=by
 obtain⟨⟨y,p,j,r⟩,l,n,hd⟩:=id hit;simp only at n hd;subst n hd;have c:=hit.typeIs;unfold pyNext;refine Yaj (Y8n "__next__" c F.slot_dict_keyiterator_next F.slot_dict_keyiterator_next c F.entry_dict_keyiterator_next ?_ (F.args_dict_keyiterator_next_1 _));have u:Yx ((Value.ref d) == Value.none):=rfl;have e:Yx (Builtin.Dict_items.ownsTuple "dict_keyiterator"):=Dd
 repeat (any_goals (first | assumption | (with_reducible refine YcJ c) | (with_reducible refine YcR c) | (with_reducible refine wpAny_fieldsOf l rfl ?_) | (with_reducible refine YdB hdd ?_) | (with_reducible refine YdM hdd ?_) | wp_step))
 rw[if_neg (show ¬((i:Int)<0)by exact Oo),Int.toNat_natCast,Array.getElem?_eq_getElem hi];have a:(s.heap.update it (Obj.mapFields (·.setIfInBounds 1 (rawInt ((i:Int)+1))))).IsKeyIter it d (i+1) es.size ep :=
  ⟨_,Heap.get?_update_self _ l (Obj.isFreed_of_fields (Obj.data_mapFields rfl _)),(Obj.cls_mapFields ..).trans rfl,by rw[Obj.data_mapFields rfl];simp[rawInt]⟩
 have m:({ s with heap:=s.heap.update it (Obj.mapFields (·.setIfInBounds 1 (rawInt ((i:Int)+1)))) }:Shared).TypeIs (Y6e) "dict_keyiterator" := a.typeIs;have g:=h _ a (Heap.SameBut.update ..)
 repeat (any_goals (first | assumption | (with_reducible refine YcJ c) | (with_reducible refine YcR c) | (with_reducible refine YcR m) | (with_reducible refine wpAny_setField l rfl (by rw[e];simp) ?_) | wp_step))
 exact YcL g
def aER{Q:Y5n->Y0M}(hh:Y6k)(hit:s.heap.IsKeyIter it d i es.size ep)(hod:Y1V d od)(hdd:od.data=.dict es ep)(hi:es.size<=i)
  (h:∀h',Ycu it s.heap->Q none { s with heap:=h' }):Y9R it:=by
 obtain⟨⟨p,l,e,m⟩,j,g,hd⟩:=id hit;simp only at g hd;subst g hd;have c:=hit.typeIs;have n:Yx ((Value.ref d) == Value.none):=rfl;have a:Yx (Builtin.Dict_items.ownsTuple "dict_keyiterator"):=Dd;unfold pyNext;refine Yaj (Y8n "__next__" c F.slot_dict_keyiterator_next F.slot_dict_keyiterator_next c F.entry_dict_keyiterator_next ?_ (F.args_dict_keyiterator_next_1 _))
 repeat (any_goals (first | assumption | (with_reducible refine YcJ c) | (with_reducible refine YcR c) | (with_reducible refine wpAny_fieldsOf j rfl ?_) | (with_reducible refine YdB hdd ?_) | (with_reducible refine YdM hdd ?_) | wp_step))
 rw[if_neg (show ¬((i:Int)<0)by exact Oo),Int.toNat_natCast,Array.getElem?_eq_none hi]
 repeat (any_goals (first | assumption | (with_reducible refine YcJ c) | (with_reducible refine wpAny_setField j rfl (by rw[a];simp) ?_) | wp_step))
 simp only[raiseNew];refine wpAny_bind (wpAny_handled ?_);rw[show A.in1.handled=none from hh];refine Y3Y (wpAny_throw ?_);refine wpAny_bind (Ye2 "StopIteration" true (Y0R Y0Q) ?_);exact wpAny_pure (h _ (((Heap.SameBut.update ..).extBut.push _).push _))
def aBH{Q:Yc}(hd:Y6Q d)(hod:Y1V d od)(hex:od.ExactDict)(hdd:od.data=.dict es ep)
  (hQ:Q (Y0I) { s with heap:=s.heap.push { cls:=.type "dict_keyiterator",data:=.fields #[.ref d,.int 0 0,.int es.size 0,.int ep 0] } }):Y21 (pyIter (.ref d)):=by
 have a:Y8k d "dict" := ⟨od,hod,hex.1⟩;refine wpAny_pyIter_slot a F.slot_dict_iter (wpAny_call_entry F.slot_dict_iter a F.entry_dict_iter ?_ (F.args_dict_iter_1 _));unfold Builtin.«dict.__iter__»;refine Y4W;unfold Builtin.Dict.dictSlotNone;refine wpAny_bind (wpAny_notOrdered_dict a ?_);show Y3m (pure (Value.ref d));refine Y2r;have c:Y6Q d:=hd
 repeat (any_goals (first | assumption | (with_reducible refine YdB hdd ?_) | (with_reducible refine YdM hdd ?_) | wp_step))
 exact⟨_,rfl, "dict_keyiterator",_,Y0R Y0Q,F.slot_dict_keyiterator_next.lookup,hQ⟩
end
end HT
namespace L2
open PySem PySem.Spec PySem.W PyProof.Rows HT
section
variable{X:Cx}{pins:Ad}{σ:St}{H:Hp}{s:Shared}
theorem BW{α β:Type}{R:Y0i α β}:∀{l:Yu}{m:List β}{i:Nat}{a:α},Paired R l m->l[i]?=some a->∃b,m[i]?=some b/\R a b
 | _,_,i,a,.nil,h=>by simp at h
 | _,_,0,a,.cons r t,h=>by
  cases(show _=a by simpa using h);exact⟨_,rfl,r⟩
 | _,_,i+1,a,.cons r t,h=>by
  obtain⟨b,h1,h2⟩:=BW t (by simpa using h);exact⟨b,by simpa using h1,h2⟩
end
section
variable{X:Cx}{tg:Expr}
end
end L2
namespace HT
open PySem PySem.Spec PyProof.Rows PySem.W
section
variable{prog:Program}{w:World}{A:Around}{d:Addr}{o:Obj}{es:YaG}{ep:Nat}
def RT(hh:Y6k)(I:Addr)(hne:d≠I)(hdat:o.data=.dict es ep) :
  Walks prog w A I [I,d] [I] es.size (λi v=>∃hi:i<es.size,v=es[i].key) (λi h=>h.IsKeyIter I d i es.size ep/\h.get? d=Ya) where
 sub:=λb a=>by simp at a;simp[a]
 frame:=λ_ _ _ st n=>⟨st.1.at λo e=>n I (by simp) o e,n d (by simp) o st.2⟩
 item:=λi s Q E hi st c=>aBG st.1 st.2 hdat hi λl g j =>
  c _ l s.toks ⟨hi,rfl⟩ ⟨g,(j.2 d hne).trans st.2⟩ λb o a e=>(j.2 b (λh=>a (by simp[h]))).trans e
 done:=λs Q E st c=>aER hh st.1 st.2 hdat (Yp) λl m=>c l s.toks λb o a e=>m b o (λh=>a (by simp[h])) e
 self:=λ_ _ _ _ st c=>wpAny_pyIter_keyiter st.1 c
def QB(lo:Y6Q d)(hex:o.ExactDict)(hdat:o.data=.dict es ep):KdlSrc prog w "dict" d d es.size (λi v=>∃hi:i<es.size,v=es[i].key) (λh=>h.get? d=Ya) where
 type:=λ_ a=>Y1H a hex.1
 there:=λ_ a=>⟨aY a,aY a⟩
 keep:=λ_ _ a c=>c d (Y3t) o a
 notList:=Dd
 notTuple:=Dd
 hint:=λ_ _ _ _ a g=>kdl_hint_dict (Y1H a hex.1) g
 iter:=λA s j a=>⟨_,_,λE Q e=>aBH lo a hex hdat e,RT j _ (dJ (aY a)) hdat,Y6D _ Y0Q,Y1G a⟩
end
end HT
namespace L2
open PySem PySem.Spec PySem.W PyProof.Rows HT
def DL(H:Hp)(kvs:Yv)(ys:Al):Prop:=Y2x kvs.length/\∀(i:Nat) p,kvs[i]?=some p->∃b,Y1m=Y3 b/\H b=Yf (p.1.map kV)
end L2
namespace HT
open PySem PySem.Spec PyProof.Rows PySem.W
section
variable{prog:Program}{w:World}{A:Around}{E:Yc}{s:Shared}{it d:Addr}{es:YaG}{ep i:Nat}{od:Obj}
end
end HT
namespace L2
open PySem PySem.Spec PySem.W PyProof.Rows HT
section
variable{X:Cx}{tg:Expr}
end
section
variable{X:Cx}{o e:Expr}{apos cpos:Pos}{td ty:TE}
def OL(hu:Y4v 1<cLine)(ho:Yh o td)(he:Yh e ty)(base:Y8h o "get" (Y0a o)=Y0a o:=by rfl)
  (few:((backTo cpos (starEach [e] X.env)).all (λx=>! x.1)&&(backToKw cpos (keywordEach [] X.env)).all (λx=>x.1.isSome)&&Y1E (([e]:List Expr).length+([]:List Keyword).length+(if([]:List Keyword).isEmpty then 0 else 1)) 30)=true:=by rfl)
  (line:(Y9k)=true:=by rfl) (trees:backTo cpos (Y38 e)=[(false,Y1l)]:=by rfl):Yh (Y9M "get" [e] [] cpos) (VP td ty):=⟨XF hu ho.p he.p ⟨base,few,line,trees⟩⟩
end
end L2
namespace L2
open PySem
section
variable{js:Ae}{te:TE}{tc:TT}{σ:St}{H:Hp}{Q:VK}
end
end L2
namespace L2
open PySem PySem.Spec PyProof.Rows
section
variable{X:Cx}{pins:Ad}{σ:St}{H:Hp}{s:Shared}{scope:Scope}{x x2:Str}{N':Ah}{js:Ae}{fp:Y0D}
end
section
variable{X:Cx}{pins:Ad}{σ:St}{H:Hp}{s:Shared}{scope:Scope}{x:Str}{N':Ah}{js:Ae}{fp:Y0D}{elt iter:Expr}{px pos:Pos}{tg:Expr}{x2:Str}{te:TE}
end
section
variable{X:Cx}{scope:Scope}{x x2 y:Str}{N':Ah}{js:Ae}{elt iter tg:Expr}{py pos spos:Pos}{te:TE}{wi:TI}{i:Nat}
end
end L2
namespace HT
open PySem PySem.Spec PyProof.Rows
section
variable{prog:Program}{w:World}{A:Around}{E:Yc}{s:Shared}{d:Addr}{o:Obj}{es:YaG}{ep:Nat}
end
end HT
namespace L2
open PySem PySem.Spec PySem.W PyProof.Rows HT
def CJ(c:Af):(c.map (Sum.inl:Int->fS)).map kV=Ybx:=by rw[List.map_map];rfl
abbrev kT(c:Af):Y59:=c.map Sum.inl
def jS{a b:Af}(h:kT a=kT b):a=b:=by
 have:∀{a b:Af},kT a=kT b->a=b:=by
  intro a
  induction a with
  | nil=>intro b h;cases b with
   | nil=>rfl
   | cons _ _=>cases h
  | cons x a ih=>intro b h;cases b with
   | nil=>cases h
   | cons y b =>
    injection h with h1 h2;injection h1 with h1;rw[h1,ih h2]
 exact this h
section
variable{X:Cx}{o e f k v:Expr}{apos cpos pos:Pos}{td ty tx tk tv:TE}
@[irreducible] def aA4(p:Addr)(x y:V)(H2:Hp)(Q:VK):Prop:=∃b k,x=Y0p/\H2 b=Y9B kV/\H2 p=Y07 []/\Y0N p (upd H2 p (.dT [(k,y)]))
def aC1(tk tv:TE):TE:=λσ H Q=>∀p,H p=none->tk σ (Y46 p (.dT [])) λx H1=>tv σ H1 λy H2=>aA4 p x y H2 Q
def aFW{p b:Addr}{y:V}{H:Hp}{Q:VK}{c:Af}(hb:H b=Ybi)(hp:H p=Y07 [])(q:∀H',H' p=Y07 [(kT c,y)]->Y1e->Y0u p):aA4 p (Y0p) y H Q:=by
 unfold aA4;exact Y7s b (kT c) (by rw[CJ];exact hb) hp (q _ bK aU.self)
def IH(hu:Y4v 1<cLine)(hk:Yh k tk)(hv:Yh v tv):Yh (.Dict [some k] [v] pos) (aC1 tk tv):=⟨by
 intro d s σ H Q I q;have P:=Ydo;have I1:=Ye1 (.dT []) (s.heap.push { cls:=.type "dict",data:=.dict #[] }) s.toks (Yco q) Yp (JW s.heap I.big);refine wpAny_Dict_any rfl rfl (by simp) (show 1<=15 by decide) (pairTrees_cons_walk (thn (hk.p d _ σ _ _ I1 (q _ P)) λu J ⟨x,H1,I1,B,R⟩=>thn (hv.p d J σ H1 _ I1 R) λW Y ⟨y,H2,I2,r,n⟩=>pairTrees_nil_walk ?_));unfold aA4 at n;obtain⟨b,i,rfl,j,e,L⟩:=n;cases(show u=Value.ref b from B);obtain⟨z,hd,Z,g,C⟩:=aCJ I2.hok e;unfold storeAll;rw[List.forIn_cons];refine Ybp (wpAny_dictSet_heap (show X.A.units<cLine by exact Oo) (vW I2.hok j) C (λh' h w=>Y2r) (by rw[<-Paired.length g];exact z));dsimp only;rw[List.forIn_nil];refine Y2r;obtain⟨q,O,G,m,N,S,M,_,D⟩:=h;refine Y4f (.ref _) ?_ L;have T:Y0O (([(i,y)]:List (List fS × V)).length):=by show Y0O 1;decide
 refine AS I2 (by rw[e];exact True.intro) w ⟨q,m⟩ ⟨T,hd,_,(g.put i j r).keeps λc U l=>?_,q,O,G,m,N,S,M,D⟩;rw[eO (sW l e (λz=>nomatch z))];exact l⟩
def FY(hu:Y4v 1<cLine)(ho:Yh o td)(he:Yh e ty)(hf:Yh f tx)(base:Y8h o "get" (Y0a o)=Y0a o:=by rfl)
  (few:((backTo cpos (starEach [e,f] X.env)).all (λx=>! x.1)&&(backToKw cpos (keywordEach [] X.env)).all (λx=>x.1.isSome)&&Y1E (([e,f]:List Expr).length+([]:List Keyword).length+(if([]:List Keyword).isEmpty then 0 else 1)) 30)=true:=by rfl)
  (line:(Y9k)=true:=by rfl) (trees:backTo cpos (Y26 [e,f])=[(false,Y1l),(false,Y0a f)]:=by rfl):Yh (Y9M "get" [e,f] [] cpos) (VO td ty tx):=⟨XE hu ho.p he.p hf.p ⟨base,few,line,trees⟩⟩
@[irreducible] def aA0(b:Bool):R2:=λx y H Q=>∃a o,y=Yi/\oJ H a x o/\Y2N (xor b o.isSome)
def rind{b:Bool}{x:V}{a:Addr}{o:Am}{H:Hp}{Q:VK}(g:oJ H a x o)(q:Y2N (xor b o.isSome)):aA0 b x (Yi) H Q:=by unfold aA0;exact Y0h a o g q
def XL(hu:Y4v 1<cLine):Y3s X .In (aA0 false):=by
 intro c s σ H x y v u Q I e d h;unfold aA0 at h;obtain⟨a,o,rfl,g,q⟩:=h;cases(show u=Value.ref a from d);exact aIE hu I g e λi I3=>Y1h (.bl _) H I3 (by simpa using q)
end
def UK{H:Hp}{p b:Addr}{kvs:Yv}{c:Af}{v:V}{D:qH}{σ:St}(e:H p=Y1q)(eb:H b=Ybi)(hl:Y6Y 100000)(q:∀H',H' p=Y07 (Y4B (kT c) v)->Y1e->Y8j H') :
  rDP D σ (Y0Z) (Y0p) v H:=by
 unfold rDP;exact Y0h p _ (HY.t (k:=kT c) e (by rw[CJ];exact eb) (aK hl Dd)) (q _ bK aU.self)
def oJ.ct{H:Hp}{p b:Addr}{kvs:Yv}{c:Af}(e:H p=Y1q)(eb:H b=Ybi):oJ H p (Y0p) (Y2m (kT c)):=oJ.t e (by rw[CJ];exact eb)
def NJ{H:Hp}{p b:Addr}{kvs:Yv}{c:Af}{v:V}{Q:VK}(e:H p=Y1q)(eb:H b=Ybi)(hv:Y2m (kT c)=Ys)(q:Q v H):rDG (Y0Z) (Y0p) H Q:=by
 unfold rDG;exact⟨p,v,rfl,hv ▸ oJ.ct e eb,q⟩
def DU{kvs:Yv}{k:Y59}{v:V}(h:(Y2m k).isSome=true):(kA kvs k v).map (·.1)=kvs.map (·.1):=by
 unfold kA;rw[nO,Y5C,List.map_map];refine fO λp _=>?_;show(if p.1=k then(p.1,v) else p).1=p.1;split <;> rfl
end L2
namespace L2
open PySem
section
variable{js:Ae}{te:TE}{tc:TT}{σ:St}{H:Hp}{Q:VK}
end
end L2
namespace L2
open PySem PySem.Spec PySem.W PyProof.Rows HT
section
variable{prog:Program}{w:World}{A:Around}{E:Yc}{s:Shared}
def KI{T:String}{r d:Addr}{n:Nat}{P:Y03 (Y0C Value)}{OK:Y55}{Q:Ag->Y0M}(K:KdlSrc prog w T r d n P OK)(hh:Y6k)(hok:OK s.heap)(hn:Y0O n)
  (hQ:∀h' tk (acc':Ai),(∀b o,Y23->Y1i=Ya)->ItemsOf P acc' n->Q acc'.toList { s with heap:=h',toks:=tk }) :
  Y21 (collect (.ref r)):=by
 have lt:=K.there _ hok;have p:(s.heap.push (seqObj "list" #[] 0)).get? s.heap.objs.size=some { cls:=.type "list",data:=.seq #[] 0 }:=Y0Q
 let G:Result->Y0M:=λa z=>∃g m l e,a=.ok (.ret Y0I)/\z={ s with heap:=g,toks:=m }/\(∀b o,Y23->g.get? b=Ya)/\g.get? s.heap.objs.size=some { cls:=.type "list",dict:=none,data:=.seq l e,slots:=#[] }/\ItemsOf P l n
 have ext:=kdl_extend (A:=A) (s:={ s with heap:=s.heap.push (seqObj "list" #[] 0) }) (R:=G) K hh (K.keep _ _ hok λb _ o e=>Y2I) s.heap.objs.size (Nat.ne_of_gt lt.1) (Nat.ne_of_gt lt.2) (Y0I) 0 p
  (λg m l e j h i=>⟨g,m,l,e,rfl,rfl,λb o z=>j b o (dJ (aY z)) (Y1G z),h,i⟩) hn
 unfold collect;refine wpAny_bind (wpAny_runValue (YbR entry_proto_collect'));rw[YcU PySem.F.plain_proto_collect];refine wpAny_bind (m:=newList []) (wpAny_newList (wpAny_pure ⟨plainId_quiet PySem.F.plain_list_iadd _,YbR entry_list_iadd'⟩));rw[YcU PySem.F.plain_list_iadd];refine wpAny_mono ext (λu z y=>?_) λe z ⟨_,_,_,_,q,_⟩=>by cases q
 cases u with
 | done f=>obtain⟨g,m,l,e,q,rfl,j,h,i⟩:=y;cases q;exact Ydf h (wpAny_pure (hQ g m l j i))
 | again c=>exact⟨y.1,codeAny_mono y.2 λq z ⟨g,m,l,e,eq,B,j,h,i⟩=>by subst eq B;exact Ydf h (wpAny_pure (hQ g m l j i))⟩
def MB{x:Value}{Q:Yc}
  (h:wpAny (model prog w) A.in1 (collect x) (λvs s1=>∃h1 tk cs,s1={ s with heap:=h1,toks:=tk }/\(∀b o,Y23->h1.get? b=Ya)/\mK h1 vs cs/\vs.length<64 /\
   ∀(p:Y19) (h':Heap) (D:Addr) (c:Nat),Y9x p->(Ya2->Ya3 p)->(∀b o,h1.get? b=Ya->Y1i=Ya)->h1.objs.size<=D->Y7y D (YaV "list" (Yd0 (λi=>YbQ i)) c)->Y0N D ({ s with heap:=h',toks:=tk })) E s) :
  Y21 (YaC "sorted" [x]):=by
 refine Calls.call_function_entry kind_sorted plain_sorted entry_sorted (args_sorted1 _) ?_;unfold Builtin.«sorted»;refine wpAny_bind (m:=checkCount "sorted" 1 1 _) (Y2r);refine wpAny_bind (Y4T h (λvs s1 ⟨h1,tk,cs,e,j,r,g,q⟩=>?_) e);subst e;refine wpAny_bind (wpAny_newList ?_ (by rw[sizeLine_eq];exact Oo));have a:(h1.push (seqObj "list" vs.toArray 0)).get? h1.objs.size=YaV "list" vs.toArray 0:=Y0Q;have keep:∀b o,h1.get? b=Ya->(h1.push (seqObj "list" vs.toArray 0)).get? b=Ya:=λb o q=>Y1G q;show Y62 _ ({ s with heap:=h1.push (seqObj "list" vs.toArray 0),toks:=tk });refine YcM (wpAny_call_entry slot_list_sort (Y0R a) entry_list_sort ?body (args_list_sort _));refine RY (s:={ s with heap:=h1.push (seqObj "list" vs.toArray 0),toks:=tk }) a (r.keep λb o u _=>keep b o u) g λp y n=>YcL Y9;unfold sortedHeap;have z:((h1.push (seqObj "list" vs.toArray 0)).update h1.objs.size (Obj.mapSeq λ_=>#[])).get? h1.objs.size=YaV "list" (#[]) _:=YdF a (#[]);have B:=aF (seqObj "list" #[] 0) (aF (seqObj "tuple" vs.toArray 0) z);refine q p _ h1.objs.size _ y n (λb o e=>?_) (Yp) (YdF B (Yd0 (λi=>YbQ i)));have l:b<h1.objs.size:=Y15;have d:b≠h1.objs.size:=dJ l;rw[Heap.get?_update_ne _ _ _ _ d]
 exact Y70 (by rw[Heap.get?_update_ne _ _ _ _ d];exact keep b o e)
end
def aCL{X:Cx}{pins:Ad}{σ:St}{H:Hp}{s:Shared}(I:Y4){d:Addr}{kvs:Yv}(e:H d=Y1q):Y6Q d/\(kvs.map (·.1)).Nodup/\∃o,Y3u d/\o.ExactDict/\∃es ep,o.data=.dict es ep/\es.size=kvs.length /\
  ∀(i:Nat) (hi:i<es.size) p,kvs[i]?=some p->∃b,es[i].key=Y0p/\H b=Yf (p.1.map kV):=by
 obtain⟨z,hd,D,a,o,es,ep,A,n,C,g,h⟩:=(show hV X.prog X.w H s.heap d (.dT kvs)from I.hok d _ e);have l:es.size=kvs.length:=by
  have:=Y8g g;rw[aA,<-Paired.length a]at this;simpa using this
 have m:kvs.map (·.1)=D.map (·.1):=by
  clear g h l e z
  induction a with
  | nil=>rfl
  | cons r t ih=>rw[bE,bE,r.1,ih]
 refine⟨hd,m ▸ h,o,A,n,es,ep,C,l,λi hi p u=>?_⟩;obtain⟨x,y,J,B,G⟩:=BW a u;have j:es.toList[i]?=some (entryOfKey (Y9h X.prog X.w) x):=by rw[g,aG,y];rfl
 have c:es[i]=entryOfKey (Y9h X.prog X.w) x:=by
  have:es.toList[i]?=some es[i]:=by simp[hi]
  rw[this]at j;injection j
 rw[c];exact Y00 x.2.1 B
abbrev kyI(c:Af):Y59:=c.map Sum.inl
def kyV(c:Af):(kyI c).map kV=Ybx:=by rw[List.map_map];rfl
@[irreducible] def GO:Y1B:=λxs H Q=>∃(d:Addr) (kvs:Yv) (cs:Ac),xs=[.ref d]/\H d=Y1q/\kvs.map (·.1)=cs.map kyI/\(∀c∈cs,c≠[])/\cs.length<64 /\
 ∀q (ys:Al) (ds:Ac) H',ds.Perm cs->ds.Pairwise (λa b=>sM a b=true)->H q=none->H' q=Y0c->bI H' (ds.map Yae) ys->Y1->Y0u q
def rsrd{H:Hp}{Q:VK}{d:Addr}{kvs:Yv}{cs:Ac}(h:H d=Y1q)(hk:kvs.map (·.1)=cs.map kyI)(hc:∀c∈cs,c≠[])(hz:cs.length<64)
  (q:∀q (ys:Al) (ds:Ac) H',ds.Perm cs->ds.Pairwise (λa b=>sM a b=true)->H q=none->H' q=Y0c->bI H' (ds.map Yae) ys->Y1->Y0u q):GO [.ref d] H Q:=by
 unfold GO;exact⟨d,kvs,cs,rfl,h,hk,hc,hz,q⟩
def aBV{X:Cx}(hc:Y1F):Y4Y X "sorted" GO:=by
 unfold GO;intro P s σ H xs us Q I r h;obtain⟨d,L,g,rfl,hq,O,ab,hz,q⟩:=h;obtain⟨u,rfl,η⟩:=nM r;cases η;obtain⟨N,α,o,φ,τ,es,ep,μ,υ,ρ⟩:=aCL I hq;have lk:L.length=g.length:=by have:=Y8g O;simpa using this
 refine MB (KI (QB N τ μ) (show X.A.in1.handled=none from I.ok.hd hc) φ (by rw[sizeLine_eq];exact Oo) λJ θ γ kp G=>?_);obtain⟨la,G⟩:=G;have I1:cU X P σ H { s with heap:=J,toks:=θ }:=I.kept kp;have ac:∀(n:Nat) (l:Ag),l.length=n->∀(m:Ac),m.length=n->(∀(i:Nat) v c,l[i]?=Ys->m[i]?=Y1v->∃b,v=Y0p/\H b=Ybi)->∃B:Al,eE B l/\Y1f (m.map Yae) B:=by
  intro n
  induction n with
  | zero =>
   intro l δ m N _;cases l with
   | nil=>cases m with
    | nil=>exact⟨[],.nil,bI.nil⟩
    | cons _ _=>simp at N
   | cons _ _=>simp at δ
  | succ n ih =>
   intro l δ m N O;cases l with
   | nil=>simp at δ
   | cons v l=>cases m with
    | nil=>simp at N
    | cons c m =>
     obtain⟨b,rfl,hb⟩:=O 0 v c rfl rfl;obtain⟨B,ε,β⟩:=ih l (by simpa using δ) m (by simpa using N) λi v p J κ=>O (i+1) v p (by simpa using J) (by simpa using κ);have rb:∀c:Af,Y1f (c.map PyData.int) Ybx:=λc=>by
      induction c with
      | nil=>exact bI.nil
      | cons x c ih=>exact bI.cons (Y8O) ih
     exact⟨Y0p::B,.cons rfl ε,bI.cons (dI.tup hb (rb c)) β⟩
 have C:γ.toList.length=g.length:=by rw[Array.length_toList,la,υ,lk]
 obtain⟨B,ε,β⟩:=ac g.length γ.toList C g rfl λi v c ζ R=>by
  obtain⟨z,e⟩:=G i v (by rw[<-Array.getElem?_toList];exact ζ);have hp:∃p,L[i]?=some p/\p.1=kyI c:=by
   have:(L.map (·.1))[i]?=some (kyI c):=by rw[O,aG,R];rfl
   rw[aG]at this;obtain⟨p,J,κ⟩:=eI.mp this;exact⟨p,J,κ⟩
  obtain⟨p,ψ,ν⟩:=hp;obtain⟨b,k1,k2⟩:=ρ i z p ψ;rw[ν,kyV]at k2;exact⟨b,by rw[e,k1],k2⟩
 have T:g.Nodup:=by
  rw[O]at α;exact List.Pairwise.of_map _ (λa b h e=>h (by rw[e])) α
 have Z:B.length=g.length:=by rw[β.len,aA]
 refine⟨J,θ,g,rfl,kp,OR I1 β ab ε,Oo,λw h' D c hg ho keep hD S=>?_⟩;have y:w.toList.Perm (List.range g.length):=by
  have:=(Array.perm_iff_toList_perm.mp hg);rw[<-C];simpa using this
 have Y:∀i∈w.toList,i<B.length:=λi z=>by
  have:=y.mem_iff.mp z;rw[Z];simpa using this
 have ο:(Yc0 (Y9E i)).length=g.length:=by rw[aA,y.length_eq,aW]
 have hn:=I1.hok.fresh hD;have sm:aT H (Y3a D (Yc0 (Y9E i))):=aT.upd hn;refine Y1h Y5d (Y3a D (Yc0 (Y9E i))) (I1.laid (t':=θ) keep hD ⟨by rw[ο,sizeLine_eq];exact Oo,_,c,OP ε _ Y,S⟩) ?_;have ha:=ho (C ▸ aEB T);have U:=hg.size;have aa:(w.toList.map λi=>g.getD i []).Perm g:=by
  have J:=y.map λi=>g.getD i [];have e:(List.range g.length).map (λi=>g.getD i [])=g:=by
   apply List.ext_getElem?;intro i;rw[aG];by_cases z:i<g.length
   ·rw[bM z,aC z,Option.map_some,aR,aC z];rfl
   ·rw[cA (by simpa using z),cA Oo];rfl
  rwa [e]at J
 refine q D _ (Yc0 (g.getD i [])) _ aa ?_ hn bK ?_ sm
 ·rw[List.pairwise_map,List.pairwise_iff_getElem];intro i j z ω ξ;have χ:i<w.size:=by simpa using z
  have W:j<w.size:=by simpa using ω
  have ζ:w.toList[i]=w.getD i 0:=by rw[Array.getElem_toList];exact(by simp[Array.getD,χ]:w.getD i 0=w[i]).symm
  have R:w.toList[j]=w.getD j 0:=by rw[Array.getElem_toList];exact(by simp[Array.getD,W]:w.getD j 0=w[j]).symm
  rw[ζ,R];exact ha i j ξ (by rw[<-U];exact W)
 ·have ι:∀M:Ae,(∀i∈M,i<g.length)->Y1f ((M.map λi=>g.getD i []).map Yae) (M.map λi=>Y9E i):=λM=>by
   induction M with
   | nil=>exact λ_=>bI.nil
   | cons i M ih =>
    intro h;have z:=h i (bC ..);have hd:(g.map Yae)[i]?=some (PyData.tuple ((g.getD i []).map .int)):=by
     rw[aG,aR,aC z];rfl
    obtain⟨x,hx,η⟩:=β.get' hd;have R:Y9E i=x:=by rw[aR,hx];rfl
    refine bI.cons ?_ (ih λj ω=>h j (bG _ ω));show dI H _ (Y9E i);rw[R];exact η
  exact(ι w.toList λi z=>by rw[<-Z];exact Y i z).same sm
end L2
namespace L2
open PySem PySem.Spec PyProof.Rows
section
variable{X:Cx}
end
section
variable{X:Cx}
end
end L2
namespace L2
open PySem PySem.Spec PySem.W PyProof.Rows HT
@[irreducible] def PM(K:Aa):Y1B:=λxs H Q=>∃(p:Addr) (ns:Af),xs=[Y0Z]/\Y5J K H p/\0<ns.length/\∀M,M∈ns->(∀a,a∈ns->M<=a)->Y1M M
def rmnl{K:Aa}{H:Hp}{Q:VK}{p:Addr}{ns:Af}(h:Y5J K H p)(hn:0<ns.length)(q:∀M,M∈ns->(∀a,a∈ns->M<=a)->Y1M M):PM K [Y0Z] H Q:=by
 unfold PM;exact Y7s p ns h hn q
def QX{X:Cx}(K:Aa)(hc:Y1F)(hK:X.K=K:=by rfl):Y4Y X "min" (PM K):=by
 subst hK;unfold PM;intro l s σ H S M Q I r h;obtain⟨p,J,rfl,B,n,q⟩:=h;obtain⟨u,rfl,z⟩:=nM r;cases z;obtain⟨G,C,i,O⟩:=I.list B;have w:=vY C;obtain⟨d,e⟩:=w.allInts.items;have c:J=d.toList.map (·.1):=by rw[<-w.numsOf,<-nums_intItems,<-e]
 have g:0<d.size:=by rw[c,aA,Array.length_toList]at n;exact n
 rw[e]at i;refine min_intList (Y8B) i.isList g λv R N L y=>?_;obtain⟨t,rfl⟩:=intItems_at L;obtain⟨P,D⟩:=argBest_lt (numAt d) (d.size-1);refine⟨.int _,H,I.kept y,⟨t,rfl⟩,q _ ?_ λa m=>?_⟩
 ·rw[c,numAt_eq];exact getD_mem (by rw[aA,Array.length_toList];exact Oo)
 ·rw[c]at m;obtain⟨j,A,rfl⟩:=mem_getD m;rw[aA,Array.length_toList]at A;rw[<-numAt_eq];exact D j Oo
end L2
namespace L2
open PySem PySem.Spec PyProof.Rows
section
variable{X:Cx}{a:Expr}{ta:TA}{p1 np p2 pos:Pos}
end
structure FnO(P:Program)(w:World)(K:Aa)(mg:Y0H)(base:Heap)(k:Nat)(C:Addr)(ps:Ah)(sp:Sp):Prop where
 ex:∃(f:Addr) (fd:FuncData),dO P w K mg base cV k f fd ps sp/\Mk K C f/\uD K fd ps []
structure Own(K:Aa)(C:Addr)(fs:Ah):Prop where
 cls:Cls K C
 no:∀f∈fs,oC K C f
@[irreducible] def aA1(K:Aa)(f:Str)(x:V)(H:Hp)(Q:VK):Prop:=∃a C dx fs v,x=Yi/\H a=Y5S/\Cls K C/\oC K C f/\YaZ=Ys/\Q v H
def VM(K:Aa)(ta:TE)(f:Str):TE:=Y8N σ H (aA1 K f x H1 Q)
section
variable{X:Cx}{k:Nat}{C:Addr}{ps:Ah}{sp:Sp}{x f:Str}{p pos pos':Pos}{e o value:Expr}{es:Y0j}{t:TA}{ta tv:TE}
def IG(F:FnO X.prog X.w X.K X.mg X.base k C ps sp)(hm:Y5R=Y3 C)(hr:Y4K (k+1))(ha:LF X (e::es) t)(hg:Gl X x:=by rfl)
  (hdb:Y1J ("__debug__" : Str):=by decide) (he:Y3R=(false,Y1l)::Y30:=by first | exact pT | exact pU | exact lY | exact iJ | exact BN)
  (hpl:Yx ((backTo pos (starEach es X.env)).any (·.1)):=by repeat (first | exact qG | refine nJ (by first | exact pT | exact pU | exact lY | exact iJ | exact BN) ?_)) :
  Y80 p (e::es) [] (aCv C sp [] E0 t):=⟨by
 obtain⟨f,g,c,a,d⟩:=F.ex;exact aBj a c hr hg hm d .nil XI ha.p hdb he hpl⟩
def dM(K:Aa)(he:Y4N e)(hK:X.K=K:=by rfl)(hb:Y8h e f Y1l=Y1l:=by rfl):Yh (.Attribute e f pos) (VM K ta f):=⟨by
 subst hK;intro a s σ H Q I h;refine aEz he.p hb a s σ H Q I ?_;unfold VM aA1 at h;exact h⟩
def nE(ha:Y4N o)(hv:Yh value tv)(hs:Y8F value (YcH f pos')=Y4s:=by rfl):IB X (Y63 [YcH f pos'] value) (aFT X.K ta tv f):=⟨aEm ha.p hv.p hs⟩
end
section
variable{K:Aa}{H:Hp}{a C dx:Addr}{fs:Y3N}{v:V}{Q:VK}{f:Str}{ns:Ah}
def jT(O:Own K C ns)(hf:f∈ns)(e:H a=Y5S)(l:YaZ=Ys)(q:Q v H):aA1 K f (Yi) H Q:=by
 unfold aA1;exact⟨a,C,dx,fs,v,rfl,e,O.cls,O.no f hf,l,q⟩
end
end L2
namespace Mf
def lw(n d:Int):Int × Int:=(n/(Int.gcd n d:Int),d/(Int.gcd n d:Int))
structure Low(n d:Int):Prop where
 pos:0<d
 low:Y14 n d
def kL{n d:Int}(h:0<d):0<(Int.gcd n d:Int):=by
 have:=Int.gcd_pos_of_ne_zero_right n (Int.ne_of_gt h);exact Oo
def kC{n d:Int}(h:0<d):Low (lw n d).1 (lw n d).2:=by
 have g:=Ybj h;refine Y0A ?_
 ·exact Int.ediv_pos_of_pos_of_dvd h (Int.le_of_lt g) (YbB n)
 ·exact Int.gcd_ediv_gcd_ediv_gcd Oo
def aCE{n d:Int}:(lw n d).1*(Int.gcd n d:Int)=n/\(lw n d).2*(Int.gcd n d:Int)=d :=
 ⟨Int.ediv_mul_cancel (YdJ n),Int.ediv_mul_cancel (YbB n)⟩
def tV{n d:Int}:(lw n d).1*d=n*(lw n d).2:=by
 obtain⟨c,e⟩:=aCE (n:=n) (d:=d);generalize (lw n d).1=a at *;generalize (lw n d).2=b at *;generalize (Int.gcd n d:Int)=g at *;rw[<-c,<-e];rw[Int.mul_assoc,Int.mul_comm g b]
def QN{b a d:Int}(h:b ∣ a*d)(g:Y14 b a):b ∣ d:=by
 rw[<-Int.natAbs_dvd_natAbs,dD]at h;rw[<-Int.natAbs_dvd_natAbs];rw[Int.gcd_eq_natAbs_gcd_natAbs]at g;exact Nat.Coprime.dvd_of_dvd_mul_left g h
def JL{a b c d:Int}(h1:Low a b)(h2:Low c d)(e:a*d=c*b):a=c/\b=d:=by
 have h:b ∣ d:=by
  have:b ∣ a*d:=by rw[e];exact Int.dvd_mul_left c b
  exact QN this (by rw[Int.gcd_comm];exact h1.low)
 have i:d ∣ b:=by
  have:d ∣ c*b:=by rw[<-e];exact Int.dvd_mul_left a d
  exact QN this (by rw[Int.gcd_comm];exact h2.low)
 have j:=h1.pos;have hd:=h2.pos;have g:b=d:=Int.dvd_antisymm (Int.le_of_lt j) (Int.le_of_lt hd) h i;subst g;exact⟨Int.eq_of_mul_eq_mul_right Oo e,rfl⟩
def GT{a b n d:Int}(h:Low a b)(hd:0<d)(e:a*d=n*b):lw n d=(a,b):=by
 have c:=tV (n:=n) (d:=d);have q:=JL (kC (n:=n) hd) h (by
  have g:d≠0:=Oo;apply Int.eq_of_mul_eq_mul_right g
  calc (lw n d).1*b*d=((lw n d).1*d)*b:=by rw[Int.mul_assoc,Int.mul_comm b d,<-Int.mul_assoc]
   _=(n*(lw n d).2)*b:=by rw[c]
   _=(n*b)*(lw n d).2:=by rw[Int.mul_assoc,Int.mul_comm (lw n d).2 b,<-Int.mul_assoc]
   _=(a*d)*(lw n d).2:=by rw[e]
   _=a*(lw n d).2*d:=by rw[Int.mul_assoc,Int.mul_comm d,<-Int.mul_assoc])
 exact Prod.ext q.1 q.2
def aBz{a b:Int}(h:Low a b):lw a b=(a,b):=GT h h.pos rfl
def sQ{u a b:Int}(h1:Y14 u a)(h2:Y14 u b):Y14 u (a*b):=by
 rw[Int.gcd_eq_natAbs_gcd_natAbs]at *;rw[dD];exact Nat.Coprime.mul_right h1 h2
def pI{a b c:Int}(h:Y14 a b)(d:c ∣ b):Y14 a c:=by
 have:=Int.gcd_dvd_gcd_of_dvd_right a d;rw[h]at this;exact Nat.eq_one_of_dvd_one this
def lD{a b c:Int}(h:Y14 a b)(d:c ∣ a):Y14 c b:=by
 rw[Int.gcd_comm]at *;exact pI h d
def aBf{a b c d:Int}(h1:Low a b)(h2:Low c d) :
  let g:Int:=Y8L b
  let u:=a*(d/g)+c*(b/g)
  let l:Int:=Int.gcd u g
  lw (a*d+c*b) (b*d)=(u/l,(b/g)*(d/l)):=by
 intro g u l;have P:0<g:=kL h2.pos;have X:0<l:=kL P;obtain⟨s,r⟩:=YdJ b;obtain⟨n,p⟩:=YbB b;have r:b=g*s:=r;have p:d=g*n:=p;have N:b/g=s:=by rw[r];exact Y4S _
 have S:d/g=n:=by rw[p];exact Y4S _
 have I:u=a*n + c*s:=by show a*(d/g)+c*(b/g)=_;rw[N,S]
 have z:Y14 s n:=by
  have:=Int.gcd_ediv_gcd_ediv_gcd (i:=b) (j:=d) (by have:0<(Int.gcd b d:Int):=P;exact Oo);have h:Y14 (b/g) (d/g):=this
  rwa [N,S]at h
 have B:Y14 a s:=pI h1.low ⟨g,by rw[r,Int.mul_comm]⟩;have M:Y14 c n:=pI h2.low ⟨g,by rw[p,Int.mul_comm]⟩;have W:Y14 u s:=by
  rw[I,Int.add_comm,Int.gcd_mul_right_add_left,Int.gcd_mul_right_left_of_gcd_eq_one B,Int.gcd_comm];exact z
 have U:Y14 u n:=by
  rw[I,Int.gcd_mul_right_add_left,Int.gcd_mul_right_left_of_gcd_eq_one M];exact z
 obtain⟨A,m⟩:=Int.gcd_dvd_left u g;obtain⟨w,e⟩:=Int.gcd_dvd_right u g;have m:u=l*A:=m;have e:g=l*w:=e;have R:u/l=A:=by rw[m];exact Y4S _
 have C:d/l=w * n:=by rw[p,e,Int.mul_assoc];exact Y4S _
 have D:Y14 A w:=by
  have:=Int.gcd_ediv_gcd_ediv_gcd (i:=u) (j:=g) (by have:0<(Int.gcd u g:Int):=X;exact Oo);have h:Y14 (u/l) (g/l):=this;rw[R]at h
  rwa [show g/l=w from by rw[e];exact Y4S _]at h
 rw[R,N,C];have y:A ∣ u:=⟨l,by rw[m,Int.mul_comm]⟩;have J:0<s:=by
  have:=h1.pos;rw[r]at this;exact Ybq Oo
 have L:0<n:=by
  have:=h2.pos;rw[p]at this;exact Ybq Oo
 have O:0<w:=by
  have:=P;rw[e]at this;exact Ybq Oo
 refine GT (Y0A (Int.mul_pos J (Int.mul_pos O L))) (Int.mul_pos h1.pos h2.pos) ?_
 ·exact sQ (lD W y) (sQ D (lD U y))
 ·have T:a*d+c*b=g*(l*A):=by
   rw[<-m,I,r,p];rw[Int.mul_add,Int.mul_left_comm a,Int.mul_left_comm c]
  rw[T,r,p];generalize hG:g=G at *;rw[e];simp only[Int.mul_assoc,Int.mul_left_comm,Int.mul_comm]
def VI{a b c d:Int}(h1:Low a b)(h2:Low c d) :
  let f:Int:=Y8L a
  let s:Int:=Int.gcd c b
  lw (a*c) (b*d)=((a/f)*(c/s),(b/s)*(d/f)):=by
 intro f s;have O:0<f:=kL h2.pos;have N:0<s:=kL h1.pos;obtain⟨p,r⟩:=YdJ a;obtain⟨e,m⟩:=YbB a;obtain⟨u,n⟩:=Int.gcd_dvd_left c b;obtain⟨g,l⟩:=Int.gcd_dvd_right c b;have r:a=f*p:=r;have m:d=f*e:=m;have n:c=s*u:=n;have l:b=s*g:=l;have D:a/f=p:=by rw[r];exact Y4S _
 have J:d/f=e:=by rw[m];exact Y4S _
 have G:c/s=u:=by rw[n];exact Y4S _
 have M:b/s=g:=by rw[l];exact Y4S _
 have C:Y14 p e:=by
  have:=Int.gcd_ediv_gcd_ediv_gcd (i:=a) (j:=d) (by have:0<(Int.gcd a d:Int):=O;exact Oo);have h:Y14 (a/f) (d/f):=this
  rwa [D,J]at h
 have y:Y14 u g:=by
  have:=Int.gcd_ediv_gcd_ediv_gcd (i:=c) (j:=b) (by have:0<(Int.gcd c b:Int):=N;exact Oo);have h:Y14 (c/s) (b/s):=this
  rwa [G,M]at h
 have w:Y14 p g:=lD (pI h1.low ⟨s,by rw[l,Int.mul_comm]⟩) ⟨f,by rw[r,Int.mul_comm]⟩;have B:Y14 u e:=lD (pI h2.low ⟨f,by rw[m,Int.mul_comm]⟩) ⟨s,by rw[n,Int.mul_comm]⟩;have z:0<g:=by
  have:=h1.pos;rw[l]at this;exact Ybq Oo
 have A:0<e:=by
  have:=h2.pos;rw[m]at this;exact Ybq Oo
 rw[D,M,G,J];refine GT (Y0A (Int.mul_pos z A)) (Int.mul_pos h1.pos h2.pos) ?_
 ·have I:Y14 p (g * e):=sQ w C;have L:Y14 u (g * e):=sQ y B;rw[Int.gcd_comm]at I L ⊢;exact sQ I L
 ·rw[r,l,n,m];simp only[Int.mul_assoc,Int.mul_left_comm,Int.mul_comm]
end Mf
namespace Mf
abbrev Fr:=Int × Int
abbrev _root_.Ak:=List Fr
abbrev _root_.Aj:=List Ak
def pJ(x y:Fr):Fr:=lw (x.1*y.2+y.1*x.2) (x.2*y.2)
def oG(fs:Ak):Fr:=fs.foldl pJ (0,1)
def eK(f:Fr):Prop:=Low f.1 f.2
def pX{α:Type}{P:Y0C Yu}(h0:P [])(hs:∀l a,P l->P (l++[a]))(l:Yu):P l:=by
 have:∀r:List α,P r.reverse:=by
  intro r
  induction r with
  | nil=>exact h0
  | cons a r ih=>rw[List.reverse_cons];exact hs _ _ ih
 have:=this l.reverse
 rwa [List.reverse_reverse]at this
def qJ(l:Ak)(a:Fr):oG (l++[a])=pJ (oG l) a:=by unfold oG;rw[List.foldl_append];rfl
def BE(l:Ak):(∀f∈l,Y0l)->eK (oG l):=by
 refine pX (P:=λl=>(∀f∈l,Y0l)->eK (oG l)) (λ_=>Y8U Dd) (λl a c h=>?_) l;rw[qJ];have e:=c λf g=>h f (cN _ g);have d:=h a (bL _ bC);exact kC (Int.mul_pos e.pos d.pos)
def XX{n d:Int}(h:0<d):(lw n d).2<=d/\(lw n d).1.natAbs<=n.natAbs:=by
 obtain⟨c,e⟩:=aCE (n:=n) (d:=d);have g:=Ybj h;have p:=(kC (n:=n) h).pos;generalize (lw n d).1=a at *;generalize (lw n d).2=b at *;generalize (Int.gcd n d:Int)=G at *;refine Y0A ?_
 ·rw[<-e];have:=Int.mul_le_mul_of_nonneg_left (show(1:Int)<=G by exact Oo) (Int.le_of_lt p);simpa using this
 ·rw[<-c,dD];exact YcP Oo
def PX(x y:Fr):Prop:=x.1*y.2<y.1*x.2
def JJ{x y z:Fr}(hx:0<x.2)(hy:0<y.2)(hz:0<z.2)(h1:PX x y)(h2:¬PX z y):PX x z:=by
 unfold PX at *;have h2:y.1*z.2<=z.1*y.2:=Oo;have a:(x.1*y.2)*z.2<(y.1*x.2)*z.2:=Int.mul_lt_mul_of_pos_right h1 hz;have b:(y.1*z.2)*x.2<=(z.1*y.2)*x.2:=Int.mul_le_mul_of_nonneg_right h2 (Int.le_of_lt hx);have c:(x.1*z.2)*y.2<(z.1*x.2)*y.2:=by
  calc (x.1*z.2)*y.2=(x.1*y.2)*z.2:=by simp only[Int.mul_assoc,Int.mul_left_comm,Int.mul_comm]
   _<(y.1*x.2)*z.2:=a
   _=(y.1*z.2)*x.2:=by simp only[Int.mul_assoc,Int.mul_left_comm,Int.mul_comm]
   _<=(z.1*y.2)*x.2:=b
   _=(z.1*x.2)*y.2:=by simp only[Int.mul_assoc,Int.mul_left_comm,Int.mul_comm]
 exact Int.lt_of_mul_lt_mul_right c (Int.le_of_lt hy)
def SO{x y:Fr}(h:PX x y):¬PX y x:=by unfold PX at *;exact Oo
def CA{x:Fr}:¬PX x x:=by unfold PX;exact Oo
structure jF(fs:Ak)(n p:Nat)(y:Fr):Prop where
 at_:fs[p]?=Y09
 lt:p<n
 no:∀(j:Nat) (x:Fr),j<n->fs[j]?=Y7->¬PX x y
 first:∀(j:Nat) (x:Fr),j<p->fs[j]?=Y7->PX y x
def jF.one{fs:Ak}{y:Fr}(h:fs[0]?=Y09):jF fs 1 0 y :=
 ⟨h,Oo,λj x a e=>by have:j=0:=Oo;subst this;rw[h]at e;cases e;exact CA,λj x a _=>Oo⟩
def jF.next{fs:Ak}{n p:Nat}{y z:Fr}(L:jF fs n p y)(hp:∀f∈fs,Y0l)(hz:fs[n]?=some z)(h:PX z y):jF fs (n+1) n z:=by
 have pos:∀{j:Nat} {x:Fr},fs[j]?=Y7->0<x.2:=λe=>(hp _ (aE e)).pos;have all:∀(j:Nat) (x:Fr),j<n->fs[j]?=Y7->PX z x:=λj x a e=>JJ (pos hz) (pos L.at_) (pos e) h (L.no j x a e);refine⟨hz,Oo,λj x a e=>?_,all⟩;by_cases q:j=n
 ·subst q;rw[hz]at e;cases e;exact CA
 ·exact SO (all j x Oo e)
def jF.stay{fs:Ak}{n p:Nat}{y z:Fr}(L:jF fs n p y)(hz:fs[n]?=some z)(h:¬PX z y):jF fs (n+1) p y :=
 ⟨L.at_,by have:=L.lt;exact Oo,λj x a e=>by
  by_cases q:j=n
  ·subst q;rw[hz]at e;cases e;exact h
  ·exact L.no j x Oo e,L.first⟩
end Mf
namespace Mf
def XZ{n d n' d':Int}(hd:0<d)(hd':0<d')(e:n*d'=n' * d):lw n d=lw n' d':=by
 have h:=kC (n:=n') hd';have c:=tV (n:=n') (d:=d');generalize lw n' d'=L at c h;refine GT (a:=L.1) (b:=L.2) h hd (Int.eq_of_mul_eq_mul_right (a:=d') Oo ?_)
 calc L.1*d*d'=(L.1*d')*d:=by ac_rfl
  _=n' * L.2*d:=by rw[c]
  _=(n' * d)*L.2:=by ac_rfl
  _=n*d' * L.2:=by rw[e]
  _=n*L.2*d':=by ac_rfl
def lM(f g:Fr):Fr:=lw (f.1*g.1) (f.2*g.2)
def hJ{f g:Fr}(h:Y0l)(h':eK g):eK (lM f g):=kC (YdU h'.pos)
def aEK{a b c d:Int}(hb:0<b)(hd:0<d):lM (lw a b) (lw c d)=lw (a*c) (b*d):=by
 have h:=(kC (n:=a) hb).pos;have g:=(kC (n:=c) hd).pos;refine XZ (Int.mul_pos h g) (Int.mul_pos hb hd) ?_;have e:=tV (n:=a) (d:=b);have i:=tV (n:=c) (d:=d);generalize lw a b=L at *;generalize lw c d=M at *
 calc L.1*M.1*(b*d)=(L.1*b)*(M.1*d):=by ac_rfl
  _=(a*L.2)*(c*M.2):=by rw[e,i]
  _=a*c*(L.2*M.2):=by ac_rfl
def zQ(f:Fr)(c:Nat):Fr:=(f.1^c,f.2^c)
theorem oZ{f:Fr}(h:Y0l):∀c:Nat,eK (zQ f c)
 | 0=>⟨by show 0<f.2^0;rw[Int.pow_zero];decide,by show Int.gcd (f.1^0) (f.2^0)=1;rw[Int.pow_zero,Int.pow_zero];decide⟩
 | c+1=>by
  have ih:=oZ h c;have k:∀n:Nat,Int.gcd f.1 (f.2^n)=1:=λn=>by
   induction n with
   | zero=>rw[Int.pow_zero];exact Int.gcd_one_right _
   | succ n ih=>rw[Int.pow_succ];exact sQ ih h.low
  refine⟨?_,?_⟩
  ·show 0<f.2^(c+1);rw[Int.pow_succ];exact Int.mul_pos ih.pos h.pos
  ·show Int.gcd (f.1^(c+1)) (f.2^(c+1))=1;have a:∀n:Nat,Int.gcd (f.2^(c+1)) (f.1^n)=1:=λn=>by
    induction n with
    | zero=>rw[Int.pow_zero];exact Int.gcd_one_right _
    | succ n ih=>rw[show f.1^(n+1)=f.1^n*f.1 from Int.pow_succ ..];exact sQ ih (by rw[Int.gcd_comm];exact k (c+1))
   rw[Int.gcd_comm];exact a (c+1)
def wK(zs:Y4d):Fr:=zs.foldl (λp q=>(p.1*q.1.1^q.2,p.2*q.1.2^q.2)) (1,1)
def nV(zs:Y4d):Fr:=zs.foldl (λp q=>lM p (zQ q.1 q.2)) (1,1)
def uE(l:Y4d)(a:Fr × Nat):wK (l++[a])=((wK l).1*a.1.1^a.2,(wK l).2*a.1.2^a.2):=by unfold wK;rw[List.foldl_append];rfl
def xV(l:Y4d)(a:Fr × Nat):nV (l++[a])=lM (nV l) (zQ a.1 a.2):=by unfold nV;rw[List.foldl_append];rfl
def BC(l:Y4d):(∀z∈l,eK z.1)->0<(wK l).2:=by
 induction l using pX with
 | h0=>intro _;decide
 | hs l a ih =>
  intro h;rw[uE];exact Int.mul_pos (ih λf c=>h f (cN _ c)) (oZ (h a (by simp)) a.2).pos
def FX(l:Y4d):(∀z∈l,eK z.1)->nV l=lw (wK l).1 (wK l).2:=by
 induction l using pX with
 | h0=>intro _;rfl
 | hs l a ih =>
  intro h;have c:∀f∈l,eK f.1:=λf g=>h f (cN _ g);have d:=oZ (h a (by simp)) a.2;rw[xV,uE,ih c];have e:zQ a.1 a.2=lw (a.1.1^a.2) (a.1.2^a.2):=(aBz d).symm;rw[e,aEK (BC l c) (show 0<a.1.2^a.2 from d.pos)]
def tH(l:Y4d)(h:∀z∈l,eK z.1):eK (nV l):=by rw[FX l h];exact kC (BC l h)
def yG{x:Int}{B:Nat}(h:x.natAbs<=2^B)(c:Nat):(x^c).natAbs<=2^(B*c):=by
 rw[Int.natAbs_pow,Nat.pow_mul];exact Nat.pow_le_pow_left h c
def aAD{B:Nat}(l:Y4d):(∀z∈l,z.1.1.natAbs<=2^B/\z.1.2.natAbs<=2^B)->(wK l).1.natAbs<=2^(B*(l.map (·.2)).sum)/\(wK l).2.natAbs<=2^(B*(l.map (·.2)).sum):=by
 induction l using pX with
 | h0=>intro _;exact⟨Nat.one_le_two_pow,Nat.one_le_two_pow⟩
 | hs l a ih =>
  intro h;obtain⟨c,i⟩:=ih λf g=>h f (cN _ g);obtain⟨e,d⟩:=h a (by simp);rw[uE,bD,List.sum_append,show([a].map (·.2)).sum=a.2 by simp,Nat.mul_add,Nat.pow_add];exact⟨by show((wK l).1*a.1.1^a.2).natAbs<=_;rw[dD];exact Nat.mul_le_mul c (yG e _),by show((wK l).2*a.1.2^a.2).natAbs<=_;rw[dD];exact Nat.mul_le_mul i (yG d _)⟩
def aAE{B:Nat}(l:Y4d)(hl:∀z∈l,eK z.1)(h:∀z∈l,z.1.1.natAbs<=2^B/\z.1.2.natAbs<=2^B):(nV l).1.natAbs<=2^(B*(l.map (·.2)).sum)/\(nV l).2.natAbs<=2^(B*(l.map (·.2)).sum):=by
 obtain⟨d,e⟩:=aAD l h;rw[FX l hl];have a:=BC l hl;obtain⟨g,c⟩:=XX (n:=(wK l).1) a;have:=(kC (n:=(wK l).1) a).pos;exact Y2l (aJ c d)
def IE(l:Y4d):(∀z∈l,0<=z.1.1)->0<=(wK l).1:=by
 induction l using pX with
 | h0=>intro _;decide
 | hs l a ih =>
  intro h;rw[uE];exact Int.mul_nonneg (ih λf c=>h f (cN _ c)) (Int.pow_nonneg (h a (by simp)))
end Mf
namespace Mf
def rv(f:Fr):Rat:=(f.1:Rat)/(f.2:Rat)
def CN{d:Int}(h:0<d):(0:Rat)<(d:Rat):=by exact_mod_cast h
def kY{d:Int}(h:0<d):(d:Rat)≠0:=by have:=CN h;grind
def pV{f:Fr}(h:0<f.2):rv f*(f.2:Rat)=(f.1:Rat):=by
 have:=kY h;unfold rv;grind
def BQ{n d:Int}(h:0<d):rv (lw n d)=(n:Rat)/(d:Rat):=by
 have e:=tV (n:=n) (d:=d);have p:=(kC (n:=n) h).pos;have i:=kY h;have c:=kY p;have g:((lw n d).1:Rat)*(d:Rat)=(n:Rat)*((lw n d).2:Rat):=by exact_mod_cast e
 unfold rv;generalize ((lw n d).1:Rat)=a at *;generalize ((lw n d).2:Rat)=b at *;grind
def sF{f g:Fr}(hf:0<f.2)(hg:0<g.2):rv (pJ f g)=rv f+rv g:=by
 unfold pJ;rw[BQ (Int.mul_pos hf hg)];have a:=kY hf;have c:=kY hg;unfold rv;rw[Rat.intCast_add,Rat.intCast_mul,Rat.intCast_mul,Rat.intCast_mul];grind
def jR{f g:Fr}(hf:0<f.2)(hg:0<g.2):rv (lM f g)=rv f*rv g:=by
 unfold lM;rw[BQ (Int.mul_pos hf hg)];have a:=kY hf;have c:=kY hg;unfold rv;rw[Rat.intCast_mul,Rat.intCast_mul];grind
def MI(f:Fr):rv (-f.1,f.2)=- rv f:=by
 unfold rv;rw[show(((-f.1,f.2):Fr).1:Rat)=-(f.1:Rat)by rw[<-Rat.intCast_neg]];grind
def iR{f g:Fr}(hf:Y0l)(hg:eK g)(e:rv f=rv g):f=g:=by
 have h:=kY hf.pos;have d:=kY hg.pos;have c:(f.1:Rat)*(g.2:Rat)=(g.1:Rat)*(f.2:Rat):=by
  have a:=pV hf.pos;have b:=pV hg.pos;rw[<-a,<-b,e];grind
 have q:=JL hf hg (by exact_mod_cast c);exact Prod.ext q.1 q.2
def WK{f g:Fr}(hf:0<f.2)(hg:0<g.2):f.1*g.2<g.1*f.2↔rv f<rv g:=by
 have d:=CN hf;have c:=CN hg;have a:=pV hf;have b:=pV hg;have p:(0:Rat)<(f.2:Rat)*(g.2:Rat):=Rat.mul_pos d c;have i:((f.1*g.2:Int):Rat)=rv f*((f.2:Rat)*(g.2:Rat)):=by rw[Rat.intCast_mul,<-a];grind
 have e:((g.1*f.2:Int):Rat)=rv g*((f.2:Rat)*(g.2:Rat)):=by rw[Rat.intCast_mul,<-b];grind
 rw[<-Rat.intCast_lt_intCast,i,e];constructor
 ·intro h;exact Rat.lt_of_mul_lt_mul_right h (Rat.le_of_lt p)
 ·intro h;exact Rat.mul_lt_mul_of_pos_right h p
def nG:rv (0,1)=0:=by unfold rv;grind
def BO:rv (1,1)=1:=by unfold rv;grind
def vD(l:Y2y):Rat:=l.foldr (· + ·) 0
def BJ:vD []=0:=rfl
def qK(x:Rat)(l:Y2y):vD (x::l)=x+vD l:=rfl
theorem tL:∀(a b:Y2y),vD (a++b)=vD a+vD b
 | [],b=>by rw[BJ,List.nil_append];grind
 | x::a,b=>by rw[List.cons_append,qK,qK,tL a b];grind
def MH(l:Ak):(∀f∈l,Y0l)->rv (oG l)=vD (l.map rv):=by
 induction l using pX with
 | h0=>intro _;exact nG
 | hs l a ih =>
  intro h;have c:∀f∈l,Y0l:=λf d=>h f (cN _ d);rw[qJ,sF (BE l c).pos (h a (by simp)).pos,ih c,bD,tL,bE,List.map_nil,qK,BJ];grind
def Fn(N B:Nat)(f:Fr):Prop:=Y0l/\∃x:Int,rv f*(N:Rat)=(x:Rat)/\x.natAbs<=B*N
def Fn.low{N B:Nat}{f:Fr}(h:Y36):Y0l:=h.1
def Fn.le{N B C:Nat}{f:Fr}(h:Y36)(hB:B<=C):Y1y N C:=by
 obtain⟨l,x,a,c⟩:=h;exact⟨l,x,a,aJ c (bO _ hB)⟩
def tZ{f g:Fr}(h:Y0l)(h':eK g):eK (pJ f g):=kC (YdU h'.pos)
def Fn.add{N B C:Nat}{f g:Fr}(h:Y36)(h':Fn N C g):Fn N (B+C) (pJ f g):=by
 obtain⟨l,x,c,e⟩:=h;obtain⟨a,y,d,i⟩:=h';refine Y3U (tZ l a) (x+y) ?_
 ·rw[sF l.pos a.pos,Rat.intCast_add,<-c,<-d];grind
 ·rw[Nat.add_mul];exact Oo
def Fn.mul{N M B C:Nat}{f g:Fr}(h:Y36)(h':Fn M C g):Fn (N*M) (B*C) (lM f g):=by
 obtain⟨l,x,d,c⟩:=h;obtain⟨a,y,i,e⟩:=h';refine Y3U (hJ l a) (x*y) ?_
 ·rw[jR l.pos a.pos,Rat.intCast_mul,<-d,<-i,Rat.natCast_mul];grind
 ·rw[dD];have:=Nat.mul_le_mul c e;rw[Nat.mul_mul_mul_comm]at this;exact this
def Fn.neg{N B:Nat}{f:Fr}(h:Y36):Fn N B (-f.1,f.2):=by
 obtain⟨l,x,a,c⟩:=h;refine Y3U ⟨l.pos,by show Y14 (-f.1) f.2;rw[Int.neg_gcd];exact l.low⟩ (-x) ?_
 ·rw[MI,Rat.intCast_neg,<-a];grind
 ·rw[Int.natAbs_neg];exact c
def Fn.up{N B:Nat}{f:Fr}(h:Y36)(M:Nat):Y1y (N*M) B:=by
 obtain⟨l,x,a,c⟩:=h;refine Y3U l (x*(M:Int)) ?_
 ·rw[Rat.intCast_mul,<-a,Rat.natCast_mul];have:((M:Int):Rat)=(M:Rat):=rfl;rw[this];grind
 ·rw[dD,<-Nat.mul_assoc];exact bO _ c
def Fn.dvd{N M B:Nat}{f:Fr}(h:Y36)(d:N ∣ M):Y1y M B:=by
 obtain⟨e,rfl⟩:=d;exact h.up e
def sK(N:Nat):((N:Int):Rat)=(N:Rat):=rfl
def YA:eK (0,1):=Y8U Dd
def YB:eK (1,1):=Y8U Dd
def Fn.zero(N:Nat):Fn N 0 (0,1):=⟨YA,0,by rw[nG];grind,by simp⟩
def Fn.one(N:Nat):Fn N 1 (1,1):=⟨YB,N,by rw[BO,sK];grind,by simp⟩
def Fn.eq{N B:Nat}{f:Fr}(h:Y36)(hN:0<N):∃x:Int,f=lw x (N:Int)/\x.natAbs<=B*N:=by
 obtain⟨l,x,d,c⟩:=h;have a:(0:Int)<(N:Int):=Oo;refine⟨x,iR l (kC a) ?_,c⟩;rw[BQ a,<-d,sK];have:=kY a;rw[sK]at this;grind
def Fn.of{n d:Int}{B:Nat}(h:0<d)(hB:n.natAbs<=B*d.natAbs):Fn d.natAbs B (lw n d):=by
 refine⟨kC h,n,?_,hB⟩;have e:(d.natAbs:Int)=d:=Oo;rw[BQ h,<-sK,e];have:=kY h;grind
def Fn.num{N B:Nat}{f:Fr}(h:Y36)(hN:0<N):f.1.natAbs<=B*N/\f.2.natAbs<=N:=by
 obtain⟨x,rfl,a⟩:=h.eq hN;have q:=XX (n:=x) (d:=(N:Int)) Oo;have p:=(kC (n:=x) (d:=(N:Int)) Oo).pos;exact Oo
def Fn.tot{N B:Nat}:∀(fs:Ak),(∀f∈fs,Y36)->Fn N (fs.length*B) (oG fs):=by
 intro fs
 induction fs using pX with
 | h0=>intro _;exact(Fn.zero N).le (Y0x)
 | hs l a ih =>
  intro h;rw[qJ,aV,List.length_singleton,Nat.add_mul,Nat.one_mul];exact(ih λf c=>h f (cN _ c)).add (h a (Y9F _ rfl))
end Mf
namespace Mf
def mO:Y2y->Rat
 | []=>0
 | [x]=>x
 | x::y::l=>if x<=mO (y::l) then x else mO (y::l)
theorem uT:∀{l:Y2y}{x:Rat},x∈l->mO l<=x
 | [],x,h=>by cases h
 | [y],x,h=>by
  rw[bV.mp h];exact Rat.le_refl
 | a::b::l,x,h=>by
  have ih:=λx h=>uT (l:=b::l) (x:=x) h;unfold mO;rcases bN.mp h with rfl | h
  ·split
   ·exact Rat.le_refl
   ·grind
  ·have:=ih x h;split <;> grind
theorem xH:∀{l:Y2y},l≠[]->mO l∈l
 | [],h=>absurd rfl h
 | [y],_=>bV.mpr rfl
 | a::b::l,_=>by
  have ih:=xH (l:=b::l) (by simp);unfold mO;split
  ·exact bC ..
  ·exact bG _ ih
def GR{l:Y2y}{m:Rat}(h:m∈l)(k:∀x∈l,m<=x):mO l=m:=by
 have a:=uT h;have c:=k _ (xH (l:=l) (λe=>by rw[e]at h;cases h));grind
def cF(n:Nat)(f:Yy):Rat:=vD ((List.range n).map f)
def gU(f:Yy):cF 0 f=0:=rfl
def eL(n:Nat)(f:Yy):cF (n+1) f=cF n f+f n:=by
 unfold cF;rw[List.range_succ,bD,tL,bE,List.map_nil,qK,BJ];grind
def bR{n:Nat}{f g:Yy}(h:∀i,i<n->f i=g i):cF n f=cF n g:=by
 induction n with
 | zero=>rfl
 | succ n ih=>rw[eL,eL,ih λi a=>h i Oo,h n Oo]
def nP(n:Nat)(f g:Yy):Y4C n (f i+g i)=cF n f+cF n g:=by
 induction n with
 | zero=>rw[gU,gU,gU];grind
 | succ n ih=>rw[eL,eL,eL,ih];grind
def eT(n:Nat)(a:Rat)(f:Yy):Y4C n (a*f i)=a*cF n f:=by
 induction n with
 | zero=>rw[gU,gU];grind
 | succ n ih=>rw[eL,eL,ih];grind
def lH{n:Nat}{f g:Yy}(h:∀i,i<n->f i<=g i):cF n f<=cF n g:=by
 induction n with
 | zero=>rw[gU,gU];exact Rat.le_refl
 | succ n ih =>
  have c:=ih λi a=>h i Oo;have d:=h n Oo;rw[eL,eL];grind
def iW(n:Nat):cF n (Y3x)=0:=by
 induction n with
 | zero=>rfl
 | succ n ih=>rw[eL,ih];grind
def uF{n:Nat}{f:Yy}(h:∀i,i<n->0<=f i):0<=cF n f:=by
 have:=lH (n:=n) (f:=Y3x) (g:=f) h
 rwa [iW]at this
def wL{n:Nat}(f:Yy){w:Nat}(h:w<n):cF n f-f w=Y4C n (if i=w then 0 else f i):=by
 induction n with
 | zero=>exact Oo
 | succ n ih =>
  rw[eL,eL];by_cases e:w=n
  ·subst e;rw[Yt,bR (g:=f) λi a=>Y3y];grind
  ·rw[Y4r (e q.symm),<-ih Oo];grind
def cG(c:Ae)(i:Nat):Ae:=c.set i (c.getD i 0+1)
def nX(W:Nat)(d:Yy):Y2y:=(List.range W).map λw=>cF W d-d w
def rD{W:Nat}{d:Yy}{x:Rat}:x∈nX W d ↔ ∃w,w<W/\x=cF W d-d w:=by
 unfold nX;rw[aN];constructor
 ·rintro⟨w,h,rfl⟩;exact Y4n w (cC.mp h)
 ·rintro⟨w,h,rfl⟩;exact Y4n w (cC.mpr h)
def qI(W F:Nat)(q:Y3g)(mix ps cs:Yy):Y3g
 | 0,c=>mO (nX W λv=>ps v*q v c)
 | n+1,c=>mO (nX W (λv=>ps v*q v c)++[cs c.sum*cF W (λv=>mix v*q v c)+cF F (λj=>qI W F q mix ps cs n (cG c j))])
section
variable{W F:Nat}{q:Y3g}{mix ps ps' cs:Yy}
def ED(n:Nat)(c:Ae):qI W F q mix ps cs (n+1) c=mO (nX W (λv=>ps v*q v c)++[cs c.sum*Y0n (mix v*q v c)+cF F (λj=>qI W F q mix ps cs n (cG c j))]):=rfl
def MF(hW:0<W)(d:Yy):nX W d≠[]:=λe=>by
 have:cF W d-d 0∈nX W d:=rD.mpr (Y4n 0 hW);rw[e]at this;cases this
end
end Mf
namespace Mf
theorem GF:∀(l:Ae) (j v x:Nat),l[j]?=Y7->(l.set j v).sum+x=l.sum+v
 | [],j,v,x,h=>by simp at h
 | a::l,0,v,x,h=>by
  have:a=x:=by simpa using h
  subst this;simp only[List.set_cons_zero,List.sum_cons];exact Oo
 | a::l,j+1,v,x,h=>by
  have:=GF l j v x (by simpa using h);simp only[List.set_cons_succ,List.sum_cons];exact Oo
def cta:Y03 (Y03 Ab)
 | 0,_=>[]
 | 1,m=>[[m]]
 | F+2,m=>(List.range (m+1)).flatMap λk=>(cta (F+1) (m-k)).map λc=>k::c
theorem iU:∀{F m:Nat}{c:Ae},c∈cta F m->Y33/\c.sum=m
 | 0,m,c,h=>by cases h
 | 1,m,c,h=>by
  have:c=[m]:=by simpa[cta]using h
  subst this;simp
 | F+2,m,c,h=>by
  obtain⟨k,a,h⟩:=List.mem_flatMap.mp h;obtain⟨d,hd,rfl⟩:=aN.mp h;have a:=cC.mp a;obtain⟨e,g⟩:=iU hd;refine⟨by simp[e],?_⟩;rw[List.sum_cons];exact Oo
end Mf
namespace Mf
def Qn(N B:Nat)(x:Rat):Prop:=∃z:Int,x*(N:Rat)=(z:Rat)/\z.natAbs<=B*N
def Fn.q{N B:Nat}{f:Fr}(h:Y36):Y25 (rv f):=h.2
theorem Qn.f{N B:Nat}{f:Fr}(l:Y0l)(h:Y25 (rv f)):Y36:=⟨l,h⟩
def fJ(x:Rat):Fr:=(x.num,(x.den:Int))
def bZ(x:Rat):eK (fJ x):=by
 refine Y0A ?_
 ·show(0:Int)<(x.den:Int);have:=x.den_pos;exact Oo
 ·show Y14 x.num (x.den:Int);rw[Int.gcd_eq_natAbs_gcd_natAbs,Int.natAbs_natCast];exact x.reduced
def dC(x:Rat):rv (fJ x)=x:=by
 unfold rv fJ;show(x.num:Rat)/((x.den:Int):Rat)=x;rw[<-Rat.divInt_eq_div,Rat.num_divInt_den]
def aE1{f:Fr}(h:Y0l):fJ (rv f)=f:=iR (Y06) h (dC _)
def Qn.fq{N B:Nat}{x:Rat}(h:Y25 x):Fn N B (fJ x):=⟨bZ x,by rw[dC];exact h⟩
def Qn.le{N B C:Nat}{x:Rat}(h:Y25 x)(hB:B<=C):Qn N C x:=by
 obtain⟨z,a,c⟩:=h;exact⟨z,a,aJ c (bO _ hB)⟩
def Qn.add{N B C:Nat}{x y:Rat}(h:Y25 x)(h':Qn N C y):Qn N (B+C) (x+y):=by
 obtain⟨z,a,d⟩:=h;obtain⟨u,c,e⟩:=h';refine Y0b (z+u) ?_
 ·rw[Rat.intCast_add,<-a,<-c];grind
 ·rw[Nat.add_mul];exact Oo
def Qn.neg{N B:Nat}{x:Rat}(h:Y25 x):Y25 (-x):=by
 obtain⟨z,a,c⟩:=h;refine⟨-z,?_,by rw[Int.natAbs_neg];exact c⟩;rw[Rat.intCast_neg,<-a];grind
def Qn.sub{N B C:Nat}{x y:Rat}(h:Y25 x)(h':Qn N C y):Qn N (B+C) (x-y):=by
 have:=h.add h'.neg
 rwa [<-Rat.sub_eq_add_neg]at this
def Qn.mul{N M B C:Nat}{x y:Rat}(h:Y25 x)(h':Qn M C y):Qn (N*M) (B*C) (x*y):=by
 obtain⟨z,c,a⟩:=h;obtain⟨u,d,e⟩:=h';refine Y0b (z*u) ?_
 ·rw[Rat.intCast_mul,<-c,<-d,Rat.natCast_mul];grind
 ·rw[dD];have:=Nat.mul_le_mul a e;rw[Nat.mul_mul_mul_comm]at this;exact this
def Qn.dvd{N M B:Nat}{x:Rat}(h:Y25 x)(d:N ∣ M):Qn M B x:=by
 obtain⟨e,rfl⟩:=d;obtain⟨z,c,a⟩:=h;refine Y0b (z*(e:Int)) ?_
 ·rw[Rat.intCast_mul,<-c,Rat.natCast_mul,sK];grind
 ·rw[dD,<-Nat.mul_assoc];exact bO _ a
def Qn.zero(N B:Nat):Y25 0:=⟨0,by grind,by simp⟩
theorem Qn.sumR{N B:Nat}{f:Yy}:∀{n:Nat},(∀i,i<n->Y25 (f i))->Qn N (n*B) (cF n f)
 | 0,_=>by rw[gU];exact Qn.zero _ _
 | n+1,h=>by
  rw[eL,Nat.add_mul,Nat.one_mul];exact(Qn.sumR λi hi=>h i Oo).add (h n Oo)
def Qn.min{N B:Nat}{l:Y2y}(h:∀x∈l,Y25 x)(ne:l≠[]):Y25 (mO l):=h _ (xH ne)
def WJ{f:Fr}(h:Y0l)(n:Nat):rv (zQ f n)=rv f^n:=by
 have a:=kY h.pos
 induction n with
 | zero=>unfold zQ rv;grind
 | succ n ih =>
  have e:rv (zQ f (n+1))=rv (zQ f n)*rv f:=by
   have c:=kY (oZ h n).pos;unfold zQ rv at *;simp only[Int.pow_succ,Rat.intCast_mul]at *;generalize ((f.1^n:Int):Rat)=u at *;generalize ((f.2^n:Int):Rat)=v at *;grind
  rw[e,ih,Rat.pow_succ]
theorem Qn.pow{N:Nat}{x:Rat}(h:Qn N 1 x):∀n:Nat,Qn (N^n) 1 (x^n)
 | 0=>⟨1,by rw[Rat.pow_zero,Nat.pow_zero];grind,by simp⟩
 | n+1=>by
  rw[Rat.pow_succ,Nat.pow_succ];exact(Qn.pow h n).mul h
def aCY{N:Nat}(l:Y4d):(∀z∈l,Fn N 1 z.1)->Qn (N^(l.map (·.2)).sum) 1 (rv (nV l)):=by
 induction l using pX with
 | h0=>intro _;exact⟨1,by show rv (1,1)*_=_;rw[BO];simp,by simp⟩
 | hs l a ih =>
  intro h;have e:∀z∈l,Fn N 1 z.1:=λz c=>h z (cN _ c);have d:=h a (by simp);rw[xV,jR (tH l λz c=>(e z c).low).pos (oZ d.low a.2).pos,WJ d.low,bD,List.sum_append,Nat.pow_add];have:=(ih e).mul (d.q.pow a.2);simpa using this
def BP{f:Fr}(h:Y0l)(h0:0<=f.1):0<=rv f:=by
 have a:=CN h.pos;have e:=pV h.pos;have c:(0:Rat)<=(f.1:Rat):=by exact_mod_cast h0
 have:rv f=(f.1:Rat)*(f.2:Rat)⁻¹:=by unfold rv;exact Rat.div_def _ _
 rw[this];exact cB c (YcK a)
def aCZ(l:Y4d):(∀z∈l,eK z.1/\0<=z.1.1)->0<=rv (nV l):=by
 intro h;have c:∀z∈l,eK z.1:=λz a=>(h z a).1;refine BP (tH l c) ?_;rw[FX l c];have d:=IE l λz a=>(h z a).2;exact Ye3 d _
def RI{α:Type}(l:Yu)(m:Ae):((l.zip m).map (·.2)).sum<=m.sum:=by
 induction l generalizing m with
 | nil=>simp
 | cons a l ih =>
  cases m with
  | nil=>simp
  | cons b m =>
   have:=ih m;simp only[List.zip_cons_cons,bE,List.sum_cons];exact Oo
def wq(fs:Ak)(c:Ae):Rat:=rv (nV (fs.zip c))
def OJ{N M:Nat}{fs:Ak}{c:Ae}(h:∀f∈fs,Y1y N 1)(hc:Y4h M):Qn (N^M) 1 (wq fs c):=by
 have d:=aCY (fs.zip c) (λz e=>h z.1 (List.of_mem_zip (a:=z.1) (b:=z.2) e).1);have g:=RI fs c;exact d.dvd (Nat.pow_dvd_pow _ Oo)
def aCp{fs:Ak}{c:Ae}(h:∀f∈fs,Y0l/\0<=f.1):0<=wq fs c :=
 aCZ _ λz d=>h z.1 (Yd2 z.1 z.2).1
@[irreducible] def WB:Nat:=2^680
def aGE:1000000000000000000000<=WB:=by unfold WB;exact Y4j (show 1000000000000000000000<=2^70 by decide)
def aJa:4*WB<=2^690:=by unfold WB;exact Y4j (Nat.le_of_eq (show 4*2^680=2^682 by rw[show(4:Nat)=2^2 from rfl,<-Nat.pow_add]))
structure lA(F W M:Nat)(ss:Aj)(mix ps cs:Ak)(Ns Nm Np Nc B:Nat):Prop where
 f1:1<=F
 f4:F<=4
 w1:1<=W
 w4:W<=4
 m5:M<=5
 sl:ss.length=W
 ml:mix.length=W
 pl:ps.length=W
 cl:cs.length=M
 sh:∀s∈ss,s.length=F/\∀f∈s,Y1y Ns 1
 mx:∀f∈mix,Y1y Nm 1
 pr:∀f∈ps,Y1y Np B
 co:∀f∈cs,Y1y Nc B
 pos:0<Np*Nc*Nm*Ns^M
 sz:Np*Nc*Nm*Ns^M<Y0t
 b:2097152*B<=WB
def hZ(ss:Aj)(v:Nat)(c:Ae):Rat:=wq (ss.getD v []) c
def cS(ps:Ak)(v:Nat):Rat:=rv (ps.getD v (0,1))
def wor(F W M:Nat)(ss:Aj)(mix ps cs:Ak)(c:Ae):Rat:=qI W F (hZ ss) (Y6T) (cS ps) (cS cs) (Y2L) c
def eM{α:Type}{l:Yu}{j:Nat}{a:α}(h:j<l.length):l.getD j a∈l:=by
 rw[aR,aC h];exact List.getElem_mem h
section
variable{F W M:Nat}{ss:Aj}{mix ps cs:Ak}{Ns Nm Np Nc B:Nat}
def lA.qn(I:lA F W M ss mix ps cs Ns Nm Np Nc B){v:Nat}(hv:v<W){c:Ae}(hc:Y4h M):Qn (Ns^M) 1 (Y2g v):=OJ (I.sh _ (eM (by rw[I.sl];exact hv))).2 hc
def lA.due(I:lA F W M ss mix ps cs Ns Nm Np Nc B){v:Nat}(hv:v<W){c:Ae}(hc:Y4h M):Qn (Np*Nc*Nm*Ns^M) B (cS ps v*Y2g v):=by
 have h:=(I.pr _ (eM (a:=(0,1)) (by rw[I.pl];exact hv))).q.mul (I.qn hv hc);rw[Nat.mul_one]at h;exact h.dvd ⟨Nc*Nm,by ac_rfl⟩
def lA.met(I:lA F W M ss mix ps cs Ns Nm Np Nc B){v:Nat}(hv:v<W){c:Ae}(hc:Y4h M):Qn (Nm*Ns^M) 1 (Y4L v*Y2g v):=by
 have h:=(I.mx _ (eM (a:=(0,1)) (by rw[I.ml];exact hv))).q.mul (I.qn hv hc)
 rwa [Nat.mul_one]at h
def lA.paid(I:lA F W M ss mix ps cs Ns Nm Np Nc B){c:Ae}(hc:Y1O):Qn (Np*Nc*Nm*Ns^M) (4*B) (Y7R*Y0n (Y4L v*Y2g v)):=by
 have e:=(I.co _ (eM (a:=(0,1)) (show c.sum<cs.length by rw[I.cl];exact hc))).q;have d:=Yc6 (λv h=>I.met h (Nat.le_of_lt hc));have g:=e.mul d;have i:B*(W*1)<=4*B:=by
  have:=dY B I.w4;rw[Nat.mul_one];exact Oo
 exact(g.le i).dvd ⟨Np,by ac_rfl⟩
def gR{c:Ae}{j:Nat}(h:j<c.length):(cG c j).sum=c.sum+1:=by
 unfold cG;have a:c[j]?=some (c.getD j 0):=by rw[aR,aC h];rfl
 have:=GF c j (c.getD j 0+1) _ a;exact Oo
def rO(c:Ae)(j:Nat):(cG c j).length=c.length:=by unfold cG;rw[List.length_set]
def lA.says(I:lA F W M ss mix ps cs Ns Nm Np Nc B){c:Ae}(hc:Y4h M):∀x∈nX W (λv=>cS ps v*hZ ss v c),Qn (Np*Nc*Nm*Ns^M) (5*B) x:=by
 intro x e;obtain⟨w,a,rfl⟩:=rD.mp e;have g:=Yc6 (λv h=>I.due h hc);have d:=g.sub (I.due a hc);refine d.le ?_;have:=bO B I.w4;exact Oo
theorem lA.worn(I:lA F W M ss mix ps cs Ns Nm Np Nc B):∀(n:Nat) (c:Ae),Y33->c.sum+n=M->Qn (Np*Nc*Nm*Ns^M) (8^(n+1)*B) (qI W F (hZ ss) (Y6T) (cS ps) (cS cs) n c)
 | 0,c,hl,hn=>Qn.min (λx hx=>(I.says Oo x hx).le Oo) (MF I.w1 _)
 | n+1,c,hl,hn=>by
  rw[ED];have hp:8^(n+1+1)=8*8^(n+1):=by rw[Nat.pow_succ];exact Oo
  have d:1<=8^(n+1):=Nat.one_le_pow _ _ Dd;have g:B<=8^(n+1)*B:=Nat.le_mul_of_pos_left _ d;have h:8^(n+1+1)*B=8*(8^(n+1)*B):=by rw[hp,Nat.mul_assoc]
  refine Qn.min (λx hx=>?_) (by simp);rcases dH.mp hx with hx | hx
  ·exact(I.says Oo x hx).le Oo
  ·rw[bV.mp hx];have a:=I.paid (c:=c) Oo;have e:=Qn.sumR (n:=F) λj i=>I.worn n (cG c j) (by rw[rO];exact hl) (by rw[gR Oo];exact Oo);refine(a.add e).le ?_;have l:F*(8^(n+1)*B)<=4*(8^(n+1)*B):=bO _ I.f4;exact Oo
end
def rise(F M:Nat):Ab:=(List.range (M+1)).flatMap (cta F)
theorem AN:∀{F m:Nat}{c:Ae},1<=F->Y33->c.sum=m->c∈cta F m
 | 0,m,c,h,_,_=>Oo
 | 1,m,c,_,hl,hs=>by
  obtain⟨x,rfl⟩:∃x,c=[x]:=by
   match c,hl with
   | [x],_=>exact⟨x,rfl⟩
  have:x=m:=by simpa using hs
  subst this;simp[cta]
 | F+2,m,c,_,hl,hs=>by
  cases c with
  | nil=>simp at hl
  | cons x c =>
   rw[List.sum_cons]at hs;unfold cta;refine List.mem_flatMap.mpr ⟨x,cC.mpr Oo,aN.mpr ⟨c,AN Oo (by simpa using hl) Oo,rfl⟩⟩
def gA{F M:Nat}{c:Ae}(hF:1<=F):Y3G c↔Y33/\Y4h M:=by
 unfold rise;rw[List.mem_flatMap];constructor
 ·rintro⟨m,e,g⟩;have:=cC.mp e;obtain⟨a,d⟩:=iU g;exact Y2l a
 ·rintro⟨a,d⟩;exact⟨c.sum,cC.mpr Oo,AN hF a rfl⟩
theorem pW(F:Nat):∀M:Nat,(rise F M).Pairwise λa b=>a.sum<=b.sum
 | 0=>by
  unfold rise;rw[List.range_succ,List.range_zero,List.nil_append,List.flatMap_singleton];refine List.pairwise_iff_forall_sublist.mpr λ{a b} h=>?_;have ha:a∈cta F 0:=h.subset (by simp);have:=(iU ha).2;exact Oo
 | M+1=>by
  have d:=pW F M;unfold rise at *;rw[List.range_succ,List.flatMap_append,List.flatMap_singleton];refine List.pairwise_append.mpr ⟨d,?_,λa ha b c=>?_⟩
  ·refine List.pairwise_iff_forall_sublist.mpr λ{a b} h=>?_;have ha:a∈cta F (M+1):=h.subset (by simp);have c:b∈cta F (M+1):=h.subset (by simp);have i:=(iU ha).2;have e:=(iU c).2;exact Oo
  ·obtain⟨m,g,ha⟩:=List.mem_flatMap.mp ha;have:=cC.mp g;have i:=(iU ha).2;have e:=(iU c).2;exact Oo
def tU{F M k:Nat}{c d:Ae}(h:Y0d[k]?=Y1v)(hd:Y3G d)(hs:c.sum < d.sum):d∈(rise F M).drop (k+1):=by
 obtain⟨i,j⟩:=gI.mp hd;have p:k<i:=by
  refine Y6x ?_;have m:=(aB.mp h);have g:=(aB.mp j);obtain⟨n,l⟩:=m;obtain⟨r,e⟩:=g;rcases Nat.lt_or_eq_of_le (Nat.le_of_not_lt q)with a | a
  ·have:=(List.pairwise_iff_getElem.mp (pW F M)) i k r n a;rw[l,e]at this;exact Oo
  ·subst a;rw[l]at e;subst e;exact Oo
 refine gI.mpr (Y0A (i-(k+1)));rw[List.getElem?_drop,show k+1+(i-(k+1))=i by exact Oo];exact j
end Mf
namespace Mf
theorem DC:∀F:Nat,1<=F->cta F 0=[Y04]
 | 1,_=>rfl
 | F+2,_=>by
  unfold cta;rw[List.range_succ,List.range_zero,List.nil_append,List.flatMap_singleton,Nat.sub_zero,DC (F+1) Oo]
  rfl
def ZE{F m:Nat}(hF:1<=F){d:Ae}:d∈cta F (m+1) ↔ ∃c∈cta F m,∃j,j<F/\d=cG c j:=by
 constructor
 ·intro h;obtain⟨g,p⟩:=iU h;obtain⟨j,a,y⟩:∃j,j<d.length/\0<Y7a j:=by
   refine Y6x ?_;have z:d=YcD d.length:=by
    refine List.eq_replicate_iff.mpr (Y5 (λx r=>?_));obtain⟨j,a⟩:=gI.mp r;have u:=(Y6u).1;have:Y7a j=x:=by rw[aR,a];rfl
    refine cI λw=>q ⟨j,u,Oo⟩
   have:d.sum=0:=by rw[z];simp
   exact Oo
  have n:d[j]?=some (Y7a j):=by rw[aR,aC a];rfl
  have A:=GF d j (Y7a j-1) _ n;refine⟨d.set j (Y7a j-1),AN hF (by rw[List.length_set];exact g) Oo,j,Oo,?_⟩;unfold cG;rw[aR (l:=d.set j _),List.getElem?_set_self a,List.set_set];show d=d.set j (Y7a j-1+1);rw[show d.getD j 0-1+1=d.getD j 0 by exact Oo];refine(Y7n ?_);rw[List.getElem?_set];by_cases e:j=i
  ·subst e;rw[Yt,if_pos a];exact n
  ·rw[Y0Y]
 ·rintro⟨c,s,j,a,rfl⟩;obtain⟨g,p⟩:=iU s;exact AN hF (by rw[rO];exact g) (by rw[gR Oo];exact Oo)
def sG:∀F,F<=4->∀M,M<=5->(Y0d).Nodup:=Kk
end Mf
namespace Mf
abbrev cZ:=List Nat × Ak
def s0(e:cZ):Rat:=cS e.2 0
def iF(F:Nat)(c d:Ae):Rat:=Y4a (if Y0w c=d then 1 else 0)
def aX(F:Nat)(es:Yj):Y0K:=es.foldl (λg e=>λd=>g d+g e.1*Y2*Y0S e.1) (λd=>if d=Y04 then 1 else 0)
def lL(F:Nat)(d:Ae):Y2f []=if d=Y04 then 1 else 0:=rfl
def gG(F:Nat)(l:Yj)(e:cZ)(d:Ae):Y2f (l++[e])=Y2f l+Y0k l e.1*Y2*Y0S e.1:=by unfold aX;rw[List.foldl_append];rfl
def cW{α:Type}(l:Yu)(f:Y31):Rat:=vD (l.map f)
def jK{α:Type}(f:Y31):cW [] f=0:=rfl
def dA{α:Type}(a:α)(l:Yu)(f:Y31):cW (a::l) f=f a+cW l f:=rfl
def IP{α:Type}(a b:Yu)(f:Y31):cW (a++b) f=cW a f+cW b f:=by unfold cW;rw[bD,tL]
def oK{α:Type}(l:Yu)(a:α)(f:Y31):cW (l++[a]) f=cW l f+f a:=by rw[IP,dA,jK];grind
def cY{α:Type}{l:Yu}{f g:Y31}(h:∀a∈l,f a=g a):cW l f=cW l g:=by unfold cW;rw[fO h]
def jX{α:Type}(l:Yu)(f g:Y31):cW l (λa=>f a+g a)=cW l f+cW l g:=by
 induction l with
 | nil=>rw[jK,jK,jK];grind
 | cons a l ih=>rw[dA,dA,dA,ih];grind
def lV{α:Type}(l:Yu)(x:Rat)(f:Y31):cW l (λa=>x*f a)=x*cW l f:=by
 induction l with
 | nil=>rw[jK,jK];grind
 | cons a l ih=>rw[dA,dA,ih];grind
def uG{α:Type}(l:Yu):cW l (Y3x)=0:=by
 induction l with
 | nil=>rfl
 | cons a l ih=>rw[dA,ih];grind
def qM{α:Type}{l:Yu}{f g:Y31}(h:∀a∈l,f a<=g a):cW l f<=cW l g:=by
 induction l with
 | nil=>exact Rat.le_refl
 | cons a l ih =>
  have d:=h a (bC ..);have e:=ih λx c=>h x (bG _ c);rw[dA,dA];grind
def uH{α:Type}{l:Yu}{f:Y31}(h:∀a∈l,0<=f a):0<=cW l f:=by
 have:=qM (l:=l) (f:=Y3x) (g:=f) h
 rwa [uG]at this
def qL{α:Type}(l:Yu)(n:Nat)(f:α->Yy):cW l (λa=>cF n (f a))=Y4C n (cW l λa=>f a i):=by
 induction l with
 | nil=>show 0=cF n (Y3x);rw[iW]
 | cons a l ih =>
  rw[dA,ih,<-nP];exact bR λi _=>rfl
def xX{es:Yj}(nd:(es.map (·.1)).Nodup){b:Ae}(hb:Y43 b (·.1))(Φ:Y0K):cW es (λx=>(if b=x.1 then 1 else 0)*Φ x.1)=Φ b:=by
 induction es with
 | nil=>cases hb
 | cons a es ih =>
  rw[bE,List.nodup_cons]at nd;rw[dA];by_cases e:b=a.1
  ·rw[Y1T,e,cY (g:=Y3x) λx c=>?_,uG]
   ·grind
   ·rw[Y4r (nd.1 (by rw[q];exact Y42 x c))];grind
  ·rw[Y0Y,ih nd.2 (by rw[bE]at hb;exact(bN.mp hb).resolve_left e)];grind
structure tF(F:Nat)(es:Yj):Prop where
 root:∃e r,es=e::r/\e.1=Y04
 len:∀e∈es,e.1.length=F
 nd:(es.map (·.1)).Nodup
 srt:es.Pairwise λa b=>a.1.sum<=b.1.sum
 fwd:∀e∈es,Y3T->∀f,f<F->Y43 (Y0w e.1) (·.1)
 bwd:∀d∈es.map (·.1),d≠List.replicate F 0->∃e∈es,s0 e≠0/\∃f,f<F/\cG e.1 f=d
 nn:∀e∈es,0<=Y2
section
variable{F:Nat}{es:Yj}
def CO{c d:Ae}(hc:Y33)(h:d.sum≠c.sum+1):Y0S c=0:=by
 unfold iF;rw[Y7x (λf a=>Y4r (h ?_)),iW];rw[<-q,gR Oo]
theorem tF.at(R:Y1x){i:Nat}{e:cZ}(h:es[i]?=Y6G):Y4q F i e.1=Y8 e.1:=by
 have c:∀k,Y9L (i+k)->Y4q F (i+k) e.1=Y4q F i e.1:=by
  intro k
  induction k with
  | zero=>intro _;rfl
  | succ k ih =>
   intro n;obtain⟨x,a⟩:∃x,es[i+k]?=Y7:=Y2c Oo;have l:es.take (i+k+1)=es.take (i+k)++[x]:=by rw[jV,a];rfl
   rw[<-Nat.add_assoc,l,gG,ih Oo,CO (R.len x (aE a)) ?_]
   ·grind
   ·obtain⟨m,d⟩:=aB.mp h;obtain⟨j,g⟩:=Y6u;have:e.1.sum<=x.1.sum:=by
     by_cases q:k=0
     ·subst q;have:e=x:=by rw[<-d,<-g];rfl
      rw[this];exact Yp
     ·have:=(List.pairwise_iff_getElem.mp R.srt) i (i+k) m j Oo
      rwa [d,g]at this
    exact Oo
 have p:=(aB.mp h).1;have:=c (es.length-i) Oo;rw[show i+(es.length-i)=es.length by exact Oo,dL]at this;exact this.symm
def tF.cons(R:Y1x)(Φ:Y0K):∀n,Y9L n->cW es (λx=>Y4q F n x.1*Φ x.1)=Φ (Y04)+Y8b (es.take n) (Y8 e.1*Y2*Y4a (Φ (Y0w e.1))):=by
 intro n
 induction n with
 | zero =>
  intro _;rw[List.take_zero,jK];obtain⟨e,r,a,h⟩:=R.root;have:=xX R.nd (b:=Y04) (by rw[a,<-h];exact bC ..) Φ;rw[cY (g:=λx=>(if Y04=x.1 then 1 else 0)*Φ x.1) λx _=>?_,this]
  ·grind
  ·rw[lL];by_cases q:x.1=Y04
   ·rw[Y5B,if_pos q.symm]
   ·rw[Y2V,Y2t (q z.symm)]
 | succ n ih =>
  intro l;obtain⟨e,a⟩:∃x,es[n]?=Y7:=Y2c Oo;have c:es.take (n+1)=es.take n++[e]:=by rw[jV,a];rfl
  have d:=aE a;rw[c,oK,<-Rat.add_assoc,<-ih Oo];rw[cY (g:=λx=>Y4q F n x.1*Φ x.1+Y8 e.1*Y2*(iF F e.1 x.1*Φ x.1)) λx _=>by rw[gG,R.at a];grind];rw[jX,lV];by_cases z:Y2=0
  ·rw[z];grind
  ·congr 2;have:(λx:cZ=>iF F e.1 x.1*Φ x.1)=λx=>Y4a ((if Y0w e.1=x.1 then 1 else 0)*Φ x.1):=by
    funext x
    unfold iF;rw[Rat.mul_comm,<-eT];exact bR λi _=>Rat.mul_comm _ _
   rw[this,qL];exact bR λf j=>xX R.nd (R.fwd e d z f j) Φ
def tF.all(R:Y1x)(Φ:Y0K):cW es (λx=>Y8 x.1*Φ x.1)=Φ (Y04)+Y0E (Y8 e.1*Y2*Y4a (Φ (Y0w e.1))):=by
 have:=R.cons Φ es.length (Yp)
 rwa [dL]at this
def YJ(F:Nat)(c d:Ae):0<=Y0S c:=uF λf _=>by split <;> grind
def tF.fnn(R:Y1x):∀n,Y9L n->∀d,0<=Y4q F n d:=by
 intro n
 induction n with
 | zero=>intro _ d;rw[List.take_zero,lL];split <;> grind
 | succ n ih =>
  intro i d;obtain⟨e,a⟩:∃x,es[n]?=Y7:=Y2c Oo;have g:es.take (n+1)=es.take n++[e]:=by rw[jV,a];rfl
  rw[g,gG];have h:=ih Oo d;have c:=ih Oo e.1;have j:=cB (cB c (R.nn e (aE a))) (YJ F e.1 d);grind
def tF.nnf(R:Y1x)(d:Ae):0<=Y8 d:=by
 have:=R.fnn es.length (Yp) d
 rwa [dL]at this
def tF.pos(R:Y1x):∀(k:Nat) (d:Ae),Y43 d (·.1)->d.sum<=k->0<Y8 d:=by
 have m:∀d∈es.map (·.1),Y8 d=(if d=Y04 then 1 else 0)+Y0E (Y8 e.1*Y2*Y0S e.1):=λd hd=>by
  have h:=R.all λx=>if d=x then 1 else 0
  have B:=xX R.nd hd (aX F es);have C:cW es (λx=>Y8 x.1*(if d=x.1 then 1 else 0))=Y8 d:=by rw[<-B];exact cY λx _=>Rat.mul_comm _ _
  rw[<-C,h];congr 1;exact cY λe _=>by
   congr 1;unfold iF;exact bR λf _=>by
    by_cases q:d=Y0w e.1
    ·rw[Y5B,if_pos q.symm]
    ·rw[Y2V,Y2t (q z.symm)]
 have r:∀d,∀e∈es,0<=Y8 e.1*Y2*Y0S e.1:=λd e a=>cB (cB (R.nnf _) (R.nn e a)) (YJ F e.1 d);intro k
 induction k with
 | zero =>
  intro d hd A;have p:d=Y04:=by
   refine Y6x ?_;obtain⟨e,a,_,f,s,rfl⟩:=R.bwd d hd q;rw[gR (by rw[R.len e a];exact s)]at A;exact Oo
  rw[m d hd,if_pos p];have:=uH (r d);grind
 | succ k ih =>
  intro d hd A;by_cases p:d=Y04
  ·rw[m d hd,if_pos p];have:=uH (r d);grind
  ·obtain⟨e,a,O,f,s,rfl⟩:=R.bwd d hd p;have bs:=gR (c:=e.1) (j:=f) (by rw[R.len e a];exact s);have D:=ih e.1 (Y42 e a) Oo;have w:0<Y2:=by have:=R.nn e a;grind
   have N:1<=iF F e.1 (Y0w e.1):=by
    unfold iF;have B:=lH (n:=F) (f:=λi=>if i=f then 1 else 0) (g:=λi=>if cG e.1 i=Y0w e.1 then 1 else 0) λi _=>by
     by_cases q:i=f
     ·subst q;rw[Yt,Yt];exact Rat.le_refl
     ·rw[Y2V];split <;> grind
    have I:=wL (n:=F) (λi=>if i=f then(1:Rat) else 0) s;have L:Y4C F (if i=f then 0 else if i=f then(1:Rat) else 0)=0:=by
     rw[Y7x (λi _=>?_),iW];by_cases q:i=f
     ·rw[Y5B]
     ·rw[Y2V,Y2V]
    rw[Yt,L]at I;grind
   have one:0<Y8 e.1*Y2*iF F e.1 (Y0w e.1):=Rat.mul_pos (Rat.mul_pos D w) (by grind);rw[m _ hd,if_neg p];have:Y8 e.1*Y2*iF F e.1 (Y0w e.1)<=cW es λu=>Y8 u.1*s0 u * iF F u.1 (Y0w e.1):=by
    obtain⟨J,G,rfl⟩:=List.append_of_mem a;rw[IP,dA];have P:=uH (l:=J) λx y=>r (Y0w e.1) x (cN _ y);have M:=uH (l:=G) λx y=>r (Y0w e.1) x (bL _ (bG _ y));grind
   grind
def tF.posf(R:Y1x){e:cZ}(h:e∈es):0<Y8 e.1:=R.pos _ e.1 (Y42 e h) (Yp)
def Qn.one'(N:Nat):Qn N 1 1:=⟨N,by rw[sK];grind,by simp⟩
def tF.qn(R:Y1x){N:Nat}(hN:∀e∈es,Qn N 1 Y2)(f4:F<=4):∀n,Y9L n->∀d,Qn (N^d.sum) (5^n) (Y4q F n d):=by
 intro n
 induction n with
 | zero =>
  intro _ d;rw[List.take_zero,lL];split
  ·exact Qn.one' _
  ·exact Y72 _
 | succ n ih =>
  intro r d;obtain⟨e,a⟩:∃x,es[n]?=Y7:=Y2c Oo;have j:es.take (n+1)=es.take n++[e]:=by rw[jV,a];rfl
  rw[j,gG];have c:=ih Oo d;have g:=aE a;have p:5^(n+1)=5*5^n:=by rw[Nat.pow_succ];exact Oo
  by_cases hs:d.sum=e.1.sum+1
  ·have i:=(ih Oo e.1).mul (hN e g);have l:Qn 1 4 (Y0S e.1):=by
    have:=Qn.sumR (N:=1) (B:=1) (n:=F) (f:=λf=>if Y0w e.1=d then 1 else 0) λf _=>by
     split
     ·exact Qn.one' _
     ·exact Y72 _
    exact this.le Oo
   have h:=i.mul l;have m:N^e.1.sum*N=N^d.sum:=by rw[hs,Nat.pow_succ]
   rw[Nat.mul_one,m]at h;exact(c.add h).le Oo
  ·rw[CO (R.len e g) hs];have:Y4q F n d+Y4q F n e.1*Y2*0=Y4q F n d:=by grind
   rw[this];exact c.le Oo
end
def sV(zs:Y4d):Rat:=zs.foldr (λz p=>rv z.1^z.2*p) 1
theorem OY:∀(zs:Y4d) (p:Fr),eK p->(∀z∈zs,eK z.1)->rv (zs.foldl (λp q=>lM p (zQ q.1 q.2)) p)=rv p*sV zs
 | [],p,_,_=>by show rv p=rv p*1;grind
 | z::zs,p,hp,h=>by
  have hz:=h z (bC ..);have a:=oZ hz z.2;rw[List.foldl_cons,OY zs _ (hJ hp a) λy c=>h y (bG _ c),jR hp.pos a.pos,WJ hz];show _=rv p*(rv z.1^z.2*sV zs);grind
def FV{fs:Ak}(h:∀f∈fs,Y0l)(c:Ae):wq fs c=Yb4 c:=by
 unfold wq nV;rw[OY _ _ YB λz d=>h z.1 (Yd2 z.1 z.2).1];show rv (1,1)*_=_;rw[BO];grind
theorem ER:∀(fs:Ak) (c:Ae) (j:Nat),Y8M j->Y6f c.length->Yb4 (cG c j)=Yb4 c*cS fs j
 | [],c,j,h,_=>by simp at h
 | f::fs,[],j,_,h=>by simp at h
 | f::fs,n::c,0,_,_=>by
  show rv f^(n+1)*sV (fs.zip c)=(rv f^n*sV (fs.zip c))*rv f;rw[Rat.pow_succ];grind
 | f::fs,n::c,j+1,hj,hl=>by
  have ih:=ER fs c j (by simpa using hj) (by simpa using hl);have e:cG (n::c) (j+1)=n::cG c j:=by unfold cG;rw[List.set_cons_succ];rfl
  have a:cS (f::fs) (j+1)=cS fs j:=rfl;rw[e,a,List.zip_cons_cons,List.zip_cons_cons];show rv f^n*sV (fs.zip (cG c j))=(rv f^n*sV (fs.zip c))*cS fs j;rw[ih];grind
theorem EQ:∀(fs:Ak) (n:Nat),Yb4 (YcD n)=1
 | [],n=>by rfl
 | f::fs,0=>by rfl
 | f::fs,n+1=>by
  rw[List.replicate_succ,List.zip_cons_cons];show rv f^0*sV (fs.zip (List.replicate n 0))=1;rw[EQ fs n,Rat.pow_zero];grind
def pQ(fs:Ak):vD (fs.map rv)=cF fs.length (cS fs):=by
 unfold cF;congr 1;refine Y7n ?_;rw[aG,aG];by_cases hi:Y8M i
 ·rw[bM hi,aC hi];show some _=some (cS fs i);unfold cS;rw[aR,aC hi];rfl
 ·rw[cA Oo,cA (by rw[aW];exact Oo)];rfl
def aCX{fs:Ak}(h:∀f∈fs,Y0l)(h1:vD (fs.map rv)=1){c:Ae}(hc:c.length=fs.length):wq fs c=Yao fs.length (wq fs (Y0w c)):=by
 rw[FV h];rw[bR (g:=λf=>Yb4 c*cS fs f) λf a=>by rw[FV h,ER fs c f a hc.symm]];rw[eT,<-pQ,h1];grind
def aAA{fs:Ak}(h:∀f∈fs,Y0l)(n:Nat):wq fs (YcD n)=1:=by rw[FV h,EQ]
section
variable{F W M:Nat}{es:Yj}{q:Y3g}{mix ps cs:Yy}
def gW(F:Nat)(es:Yj)(q:Y0K)(w:Nat):Rat:=Y0E (Y8 e.1*q e.1*Y3J e.2 w)
def gJ(F:Nat)(es:Yj)(q:Y0K)(cs:Yy):Rat:=Y0E (cs e.1.sum*(Y8 e.1*q e.1*Y2))
def fM(F W:Nat)(es:Yj)(q:Y3g)(mix cs:Yy):Rat:=Y0m (mix w*gJ F es (q w) cs)
def yF(F W:Nat)(es:Yj)(q:Y3g)(mix ps cs:Yy):Rat:=fM F W es q mix cs+Y0m (Y0o*(1-gW F es (q w) w))
def tF.stops(R:Y1x){q:Y0K}(h0:q (Y04)=1)(h1:∀c,Y33->q c=Y4a (q (Y0w c))):Y0E (Y8 e.1*q e.1*(1-Y2))=1:=by
 have h:=R.all q;rw[h0]at h;have e:Y0E (Y8 e.1*Y2*Y4a (q (Y0w e.1)))=Y0E (Y8 e.1*q e.1*Y2):=cY λe a=>by rw[<-h1 e.1 (R.len e a)];grind
 rw[e]at h;have d:Y0E (Y8 e.1*q e.1*(1-Y2))+Y0E (Y8 e.1*q e.1*Y2)=cW es (λx=>Y8 x.1*q x.1):=by
  rw[<-jX];exact Y6d (by grind)
 grind
def UR(W F:Nat)(q:Y3g)(mix ps cs:Yy)(n:Nat)(c:Ae){v:Nat}(hv:v<W):qI W F q mix ps cs n c<=Y0m (Y0o*q w c)-ps v*q v c:=by
 cases n with
 | zero=>exact uT (rD.mpr (Y4n v hv))
 | succ n=>exact uT (cN _ (rD.mpr (Y4n v hv)))
def aAC(W F:Nat)(q:Y3g)(mix ps cs:Yy)(n:Nat)(c:Ae):qI W F q mix ps cs (n+1) c<=cs c.sum*Y0n (mix v*q v c)+cF F (λj=>qI W F q mix ps cs n (cG c j)):=uT (Y9F _ rfl)
def WW(R:Y1x)(hM:∀e∈es,e.1.sum<=M)(on:∀e∈es,Y3T->e.1.sum<M)(h0:∀w,w<W->q w (Y04)=1)(h1:∀w,w<W->∀c,Y33->q w c=Y4a (q w (Y0w c)))
  (hs:∀e∈es,(∀v,0<=cS e.2 v)/\Y0n (Y0L e.2)=1-Y2):qI W F q mix ps cs M (Y04)<=yF F W es q mix ps cs:=by
 let V:Y0K:=λc=>qI W F q mix ps cs (Y2L) c
 have one:∀e∈es,V e.1<=Y2*(cs e.1.sum*Y0n (mix v*q v e.1))+Y2*Y6y e.1+((1-Y2)*Y0m (Y0o*q w e.1)-Y0n (Y0L e.2*(ps v*q v e.1))):=by
  intro e i;obtain⟨p,a⟩:=hs e i;have says:(1-Y2)*V e.1<=(1-Y2)*Y0m (Y0o*q w e.1)-Y0n (Y0L e.2*(ps v*q v e.1)):=by
   have h:=lH (n:=W) (f:=λv=>Y0L e.2*V e.1) (g:=λv=>Y0L e.2*(Y0m (Y0o*q w e.1)-ps v*q v e.1)) λv J=>Rat.mul_le_mul_of_nonneg_left (UR W F q mix ps cs _ _ J) (p _);rw[bR (g:=λv=>V e.1*Y0L e.2) λv _=>Rat.mul_comm _ _,eT,a]at h;have y:Y0n (Y0L e.2*(Y0m (Y0o*q w e.1)-ps v*q v e.1))=(1-Y2)*Y0m (Y0o*q w e.1)-Y0n (Y0L e.2*(ps v*q v e.1)):=by
    generalize cF W (λw=>ps w*q w e.1)=D;have N:Y0n (Y0L e.2*(D-ps v*q v e.1))+Y0n (Y0L e.2*(ps v*q v e.1))=D*Y0n (Y0L e.2):=by
     rw[<-nP,<-eT];exact bR λv _=>by grind
    rw[a]at N;grind
   rw[y]at h;grind
  by_cases z:Y2=0
  ·rw[z]at says ⊢;grind
  ·have I:=on e i z;obtain⟨n,C⟩:∃n,M-e.1.sum=n+1:=Y2l (M-e.1.sum-1);have look:V e.1<=cs e.1.sum*Y0n (mix v*q v e.1)+Y6y e.1:=by
    show qI W F q mix ps cs (M-e.1.sum) e.1<=_;rw[C];refine YaK (aAC W F q mix ps cs n e.1);have u:cF F (λj=>qI W F q mix ps cs n (cG e.1 j))=Y6y e.1:=bR λf O=>by
     show _=qI W F q mix ps cs (M-(Y0w e.1).sum) (Y0w e.1);rw[gR (by rw[R.len e i];exact O),show M-(e.1.sum+1)=n by exact Oo]
    rw[u];exact Rat.le_refl
   have B:=Rat.mul_le_mul_of_nonneg_left look (R.nn e i);grind
 have all:=R.all V;have sum1:=qM (l:=es) λe i=>Rat.mul_le_mul_of_nonneg_left (one e i) (R.nnf e.1);have m:V (Y04)=qI W F q mix ps cs M (Y04):=by
  show qI W F q mix ps cs (M-(Y04).sum) _=_;rw[show(List.replicate F 0).sum=0 by simp,Nat.sub_zero]
 rw[all,m]at sum1;have d:Y0E (Y8 e.1*(Y2*(cs e.1.sum*Y0n (mix v*q v e.1))+Y2*Y6y e.1+((1-Y2)*Y0m (Y0o*q w e.1)-Y0n (Y0L e.2*(ps v*q v e.1))))) =
   fM F W es q mix cs+Y0E (Y8 e.1*Y2*Y6y e.1)+Y0m (Y0o*(1-gW F es (q w) w)):=by
  have L:fM F W es q mix cs=Y0E (Y8 e.1*(Y2*(cs e.1.sum*Y0n (mix v*q v e.1)))):=by
   unfold fM gJ;rw[YcC (λw=>Y0E (mix w*(cs e.1.sum*(Y8 e.1*q w e.1*Y2)))) ((lV _ _ _).symm),<-qL];refine Y6d ?_;rw[<-eT,<-eT,<-eT];exact Y7b (by grind)
  have A:Y0m (Y0o*(1-gW F es (q w) w))=Y0E (Y8 e.1*((1-Y2)*Y0m (Y0o*q w e.1)-Y0n (Y0L e.2*(ps v*q v e.1)))):=by
   have k:∀w,w<W->Y0o*(1-gW F es (q w) w)=Y0E (Y0o*(Y8 e.1*q w e.1*(1-Y2)-Y8 e.1*q w e.1*Y3J e.2 w)):=λw r=>by
    rw[lV];congr 1;have h:=R.stops (h0 w r) (h1 w r);have B:Y0E (Y8 e.1*q w e.1*(1-Y2)-Y8 e.1*q w e.1*Y3J e.2 w)+gW F es (q w) w=Y0E (Y8 e.1*q w e.1*(1-Y2)):=by
     unfold gW;rw[<-jX];exact Y6d (by grind)
    grind
   rw[bR k,<-qL];refine Y6d ?_;have G:(1-Y2)*Y0m (Y0o*q w e.1)=Y0m ((1-Y2)*(Y0o*q w e.1)):=(eT _ _ _).symm;have P:Y0m ((1-Y2)*(Y0o*q w e.1)-Y3J e.2 w*(Y0o*q w e.1))+Y0n (Y0L e.2*(ps v*q v e.1))=Y0m ((1-Y2)*(Y0o*q w e.1)):=by
    rw[<-nP];exact Y7b (by grind)
   have s:(1-Y2)*Y0m (Y0o*q w e.1)-Y0n (Y0L e.2*(ps v*q v e.1))=Y0m ((1-Y2)*(Y0o*q w e.1)-Y3J e.2 w*(Y0o*q w e.1)):=by rw[G];grind
   rw[s,<-eT];exact Y7b (by grind)
  rw[L,A,<-jX,<-jX];exact Y6d (by grind)
 rw[d]at sum1;unfold yF;grind
end
end Mf
namespace Mf
section
variable{F W:Nat}{es:Yj}{q:Y3g}{mix ps cs:Yy}
def BI{n v:Nat}{f:Yy}(hv:v<n)(h:∀i,i<n->i≠v->f i=0):cF n f=f v:=by
 have a:=wL (n:=n) f hv;have d:Y4C n (if i=v then 0 else f i)=0:=by
  rw[Y7x (λi c=>?_),iW];by_cases e:i=v
  ·rw[Y1T]
  ·rw[Y0Y,h i c e]
 rw[d]at a;grind
def aAl(F W:Nat)(q:Y3g)(mix ps cs:Yy)(V:Y0K)(e:cZ):Prop :=
 (Y2=1/\(∀v,v<W->Y0L e.2=0)/\V e.1=cs e.1.sum*Y0n (mix v*q v e.1)+Y6y e.1) \/
 ∃v,v<W/\Y2=0/\Y0L e.2=1/\(∀u,u<W->u≠v->Y3J e.2 u=0)/\V e.1=Y0m (Y0o*q w e.1)-ps v*q v e.1
def WX(R:Y1x)(V:Y0K)(h0:∀w,w<W->q w (Y04)=1)(h1:∀w,w<W->∀c,Y33->q w c=Y4a (q w (Y0w c)))
  (hb:∀e∈es,aAl F W q mix ps cs V e):V (Y04)=yF F W es q mix ps cs:=by
 have one:∀e∈es,V e.1=Y2*(cs e.1.sum*Y0n (mix v*q v e.1))+Y2*Y6y e.1+((1-Y2)*Y0m (Y0o*q w e.1)-Y0n (Y0L e.2*(ps v*q v e.1))):=by
  intro e m;rcases hb e m with⟨a,b,c⟩ | ⟨v,A,a,b,d,c⟩
  ·have l:Y0n (Y0L e.2*(ps v*q v e.1))=0:=by
    rw[Y7x (λi n=>by rw[b i n];grind),iW]
   rw[l,a,c];grind
  ·have l:Y0n (Y0L e.2*(ps v*q v e.1))=ps v*q v e.1:=by
    rw[BI A λi n u=>by rw[d i n u];grind,b];grind
   rw[l,a,c];grind
 have all:=R.all V;have sum1:cW es (λx=>Y8 x.1*V x.1)=Y0E (Y8 e.1*(Y2*(cs e.1.sum*Y0n (mix v*q v e.1))+Y2*Y6y e.1+((1-Y2)*Y0m (Y0o*q w e.1)-Y0n (Y0L e.2*(ps v*q v e.1))))):=cY λe m=>by rw[<-one e m]
 rw[all]at sum1;have j:Y0E (Y8 e.1*(Y2*(cs e.1.sum*Y0n (mix v*q v e.1))+Y2*Y6y e.1+((1-Y2)*Y0m (Y0o*q w e.1)-Y0n (Y0L e.2*(ps v*q v e.1))))) =
   fM F W es q mix cs+Y0E (Y8 e.1*Y2*Y6y e.1)+Y0m (Y0o*(1-gW F es (q w) w)):=by
  have z:fM F W es q mix cs=Y0E (Y8 e.1*(Y2*(cs e.1.sum*Y0n (mix v*q v e.1)))):=by
   unfold fM gJ;rw[YcC (λw=>Y0E (mix w*(cs e.1.sum*(Y8 e.1*q w e.1*Y2)))) ((lV _ _ _).symm),<-qL];refine Y6d ?_;rw[<-eT,<-eT,<-eT];exact Y7b (by grind)
  have s:Y0m (Y0o*(1-gW F es (q w) w))=Y0E (Y8 e.1*((1-Y2)*Y0m (Y0o*q w e.1)-Y0n (Y0L e.2*(ps v*q v e.1)))):=by
   have k:∀w,w<W->Y0o*(1-gW F es (q w) w)=Y0E (Y0o*(Y8 e.1*q w e.1*(1-Y2)-Y8 e.1*q w e.1*Y3J e.2 w)):=λw p=>by
    rw[lV];congr 1;have h:=R.stops (h0 w p) (h1 w p);have C:Y0E (Y8 e.1*q w e.1*(1-Y2)-Y8 e.1*q w e.1*Y3J e.2 w)+gW F es (q w) w=Y0E (Y8 e.1*q w e.1*(1-Y2)):=by
     unfold gW;rw[<-jX];exact Y6d (by grind)
    grind
   rw[bR k,<-qL];refine Y6d ?_;have y:(1-Y2)*Y0m (Y0o*q w e.1)=Y0m ((1-Y2)*(Y0o*q w e.1)):=(eT _ _ _).symm;have B:Y0m ((1-Y2)*(Y0o*q w e.1)-Y3J e.2 w*(Y0o*q w e.1))+Y0n (Y0L e.2*(ps v*q v e.1))=Y0m ((1-Y2)*(Y0o*q w e.1)):=by
    rw[<-nP];exact Y7b (by grind)
   have r:(1-Y2)*Y0m (Y0o*q w e.1)-Y0n (Y0L e.2*(ps v*q v e.1))=Y0m ((1-Y2)*(Y0o*q w e.1)-Y3J e.2 w*(Y0o*q w e.1)):=by rw[y];grind
   rw[r,<-eT];exact Y7b (by grind)
  rw[z,s,<-jX,<-jX];exact Y6d (by grind)
 rw[j]at sum1;unfold yF;grind
end
end Mf
namespace Md
def dU:Y03 ((Y0)->Int)
 | 0,_=>0
 | n+1,f=>dU n f+f n
def eC{n:Nat}{f g:Y0}(h:∀i,i<n->f i=g i):dU n f=dU n g:=by
 induction n with
 | zero=>rfl
 | succ n ih=>rw[dU,dU,ih λi a=>h i Oo,h n Oo]
def nQ(n:Nat)(f g:Y0):Y3o (f i+g i)=dU n f+dU n g:=by
 induction n with
 | zero=>rfl
 | succ n ih=>rw[dU,dU,dU,ih];exact Oo
def iD(n:Nat)(a:Int)(f:Y0):Y3o (a*f i)=a*dU n f:=by
 induction n with
 | zero=>simp[dU]
 | succ n ih=>rw[dU,dU,ih,Int.mul_add]
def xY(n:Nat):dU n (Y3x)=0:=by
 induction n with
 | zero=>rfl
 | succ n ih=>rw[dU,ih];rfl
def jY{n:Nat}{f:Y0}{w:Nat}(hw:w<n)(h:∀i,i<n->i≠w->f i=0):dU n f=f w:=by
 induction n with
 | zero=>exact Oo
 | succ n ih =>
  rw[dU];by_cases e:w=n
  ·subst e;rw[eC (g:=Y3x) λi a=>h i Oo Oo,xY];exact Oo
  ·rw[ih Oo λi a ne=>h i Oo ne,h n Oo (λz=>Y7V)];exact Oo
def IQ{n:Nat}{f:Y0}{v w:Nat}(hv:v<n)(hw:w<n)(ne:v≠w)(h:∀i,i<n->i≠v->i≠w->f i=0):dU n f=f v+f w:=by
 have c:dU n f=Y3o (if i=v then f v else 0)+Y3o (if i=v then 0 else f i):=by
  rw[<-nQ];refine eC λi _=>?_;by_cases e:i=v
  ·simp[e]
  ·simp[e]
 rw[c,jY hv (f:=λi=>if i=v then f v else 0) (λi _ a=>if_neg a),jY hw (f:=λi=>if i=v then 0 else f i) (λi d a=>?_)]
 ·simp[ne.symm]
 ·by_cases e:i=v
  ·simp[e]
  ·simp[e,h i d e a]
def EK(n m:Nat)(f:Y03 Y0):Y3o (dU m (f i))=Y4D m (Y3o (f i j)):=by
 induction n with
 | zero=>rw[dU];exact(xY m).symm
 | succ n ih=>rw[dU,ih,<-nQ];rfl
def sgn(j:Nat):Int:=if j % 2=0 then 1 else -1
def WE(j:Nat):sgn (j+1)=- sgn j:=by
 unfold sgn;rcases Nat.mod_two_eq_zero_or_one j with h | h
 ·rw[Y5C,if_neg (show ¬(j+1) % 2=0 by exact Oo)]
 ·rw[if_neg (show ¬j % 2=0 by exact Oo),if_pos (show(j+1) % 2=0 by exact Oo)];rfl
def skip(j i:Nat):Nat:=if i<j then i else i+1
abbrev fA:=Y03 Y0
def wo(B:fA)(j:Nat):fA:=λi=>B (skip j i)
def det:Y03 (fA->Int)
 | 0,_=>1
 | n+1,B=>dU (n+1) λj=>sgn (j+n)*B j n*det n (wo B j)
def st(B:fA)(i:Nat)(u:Y0):fA:=λj=>if j=i then u else B j
def iH(B:fA)(i:Nat)(u:Y0):st B i u i=u:=Yt
def lW{B:fA}{i j:Nat}{u:Y0}(h:j≠i):st B i u j=B j:=Y5D
def uI(B:fA)(i:Nat):st B i (B i)=B:=by
 funext j;unfold st;split
 ·rename_i h;rw[h]
 ·rfl
theorem yO:∀{n:Nat}{B C:fA},(∀j,j<n->∀r,r<n->B j r=C j r)->det n B=det n C
 | 0,_,_,_=>rfl
 | n+1,B,C,h=>by
  refine eC λj hj=>?_;rw[h j hj n Oo,yO (n:=n) (B:=wo B j) (C:=wo C j) λi hi r hr=>h (skip j i) (by unfold skip;split <;> exact Oo) r Oo]
def vO(B:fA)(j:Nat)(u:Y0):wo (st B j u) j=wo B j:=by
 funext i
 show st B j u (skip j i)=B (skip j i);exact lW (by unfold skip;split <;> exact Oo)
def unsk(j c:Nat):Nat:=if c<j then c else c-1
def yD{j c:Nat}(h:c≠j):skip j (unsk j c)=c:=by
 unfold skip unsk;by_cases e:c<j
 ·rw[Y1T,Y1T]
 ·rw[Y0Y,Y3y];exact Oo
def WC{j a b:Nat}(h:skip j a=skip j b):a=b:=by
 unfold skip at h;split at h <;> split at h <;> exact Oo
def BA{B:fA}{j c:Nat}{u:Y0}(h:c≠j):wo (st B c u) j=st (wo B j) (unsk j c) u:=by
 funext i
 show st B c u (skip j i)=_;by_cases e:i=unsk j c
 ·subst e;rw[yD h,iH,iH]
 ·rw[lW e,lW λz=>e (WC (by rw[z,yD h]))];rfl
def aAG{n j c:Nat}(hc:c<n+1)(hj:j<n+1)(h:c≠j):unsk j c<n:=by
 unfold unsk;split <;> exact Oo
theorem HG:∀{n:Nat}(B:fA) {c:Nat},c<n->∀(a b:Int) (u v:Y0),Y5Y n B c (λr=>a*u r+b*v r)=a*Y5Y n B c u+b*Y5Y n B c v
 | 0,_,_,h,_,_,_,_=>Oo
 | n+1,B,c,hc,a,b,u,v=>by
  show dU (n+1) _=a*dU (n+1) _+b*dU (n+1) _;rw[<-iD,<-iD,<-nQ];refine eC λj hj=>?_;by_cases e:c=j
  ·subst e;rw[iH,iH,iH,vO,vO,vO];grind
  ·rw[lW (λz=>e z.symm),lW (λz=>e z.symm),lW (λz=>e z.symm),BA e,BA e,BA e,HG (wo B j) (aAG hc hj e) a b u v];grind
theorem HH:∀{n:Nat}{B:fA}{c:Nat},c+1<n->B c=B (c+1)->det n B=0
 | 0,_,_,h,_=>Oo
 | n+1,B,c,hc,e=>by
  show dU (n+1) _=0;rw[IQ (v:=c) (w:=c+1) Oo hc Oo λj hj n1 n2=>?_]
  ·have ew:wo B c=wo B (c+1):=by
    funext i
    show B (skip c i)=B (skip (c+1) i);unfold skip;by_cases h1:i<c
    ·rw[if_pos h1,if_pos Oo]
    ·by_cases h2:i=c
     ·subst h2;rw[if_neg h1,if_pos Oo,e]
     ·rw[if_neg h1,if_neg Oo]
   rw[ew,e,show c+1+n=c+n+1 by exact Oo,WE];grind
  ·rw[HH (n:=n) (B:=wo B j) (c:=unsk j c) ?_ ?_]
   ·exact Oo
   ·unfold unsk;split <;> exact Oo
   ·show B (skip j (unsk j c))=B (skip j (unsk j c+1));rw[yD (λz=>n1 z.symm),e];congr 1;unfold skip unsk;split <;> split <;> exact Oo
def oU{B:fA}{i j:Nat}{u v:Y0}(h:i≠j):st (st B i u) j v=st (st B j v) i u:=by
 funext k;unfold st
 by_cases e:k=j
 ·have:¬k=i:=λz=>h (z.symm.trans e);rw[Y1T,if_neg this,Y1T]
 ·rw[Y0Y];by_cases e2:k=i
  ·rw[if_pos e2,if_pos e2]
  ·rw[if_neg e2,if_neg e2,Y0Y]
def xK{n:Nat}(B:fA){c:Nat}(hc:c<n)(u v:Y0):Y5Y n B c (λr=>u r+v r)=Y5Y n B c u+Y5Y n B c v:=by
 have:=HG B hc 1 1 u v;simpa using this
def DA{n:Nat}(B:fA){c:Nat}(hc:c<n)(a:Int)(u:Y0):Y5Y n B c (λr=>a*u r)=a*Y5Y n B c u:=by
 have:=HG B hc a 0 u u;simpa using this
def TM{n:Nat}(B:fA){c:Nat}(hc:c+1<n)(u v:Y0):Y2Y n B c u (c+1) v=- Y2Y n B c v (c+1) u:=by
 have a:∀x:Nat->Int,Y2Y n B c x (c+1) x=0:=λx=>HH hc (by rw[lW Oo,iH,iH]);have h:=a λr=>u r+v r;have e:Y2Y n B c (λr=>u r+v r) (c+1) (λr=>u r+v r)=Y2Y n B c (λr=>u r+v r) (c+1) u+Y2Y n B c (λr=>u r+v r) (c+1) v:=xK _ hc _ _;have d:∀y:Nat->Int,Y2Y n B c (λr=>u r+v r) (c+1) y=Y2Y n B c u (c+1) y+Y2Y n B c v (c+1) y:=λy=>by
  rw[oU Oo,oU (i:=c) (j:=c+1) Oo,oU (i:=c) (j:=c+1) Oo];exact xK _ Oo _ _
 rw[e,d,d,a,a]at h;exact Oo
theorem HF{n:Nat}:∀(d:Nat) {B:fA}{i:Nat},i+d+1<n->B i=B (i+d+1)->det n B=0
 | 0,B,i,h,e=>HH h e
 | d+1,B,i,h,e=>by
  have e1:B=st (st B (i+d+1) (B (i+d+1))) (i+d+1+1) (B (i+d+1+1)):=by rw[uI,uI]
  rw[e1,TM B Oo,HF d (B:=st (st B (i+d+1) (B (i+d+1+1))) (i+d+1+1) (B (i+d+1))) (i:=i) Oo ?_]
  ·rfl
  ·rw[lW Oo,lW Oo,lW Oo,iH];exact e
def yP{n:Nat}{B:fA}{i j:Nat}(hi:i<n)(hj:j<n)(h:i≠j)(e:B i=B j):det n B=0:=by
 rcases Nat.lt_or_gt_of_ne h with q | q
 ·obtain⟨d,rfl⟩:∃d,j=i+d+1:=Y2l (j-i-1);exact HF d hj e
 ·obtain⟨d,rfl⟩:∃d,i=j+d+1:=Y2l (i-j-1);exact HF d hi e.symm
def YX{n:Nat}(B:fA){i j:Nat}(hi:i<n)(hj:j<n)(h:i≠j)(u v:Y0):Y2Y n B i u j v=- Y2Y n B i v j u:=by
 have a:∀x:Nat->Int,Y2Y n B i x j x=0:=λx=>yP hi hj h (by rw[lW h,iH,iH]);have e:=a λr=>u r+v r;have d:Y2Y n B i (λr=>u r+v r) j (λr=>u r+v r)=Y2Y n B i (λr=>u r+v r) j u+Y2Y n B i (λr=>u r+v r) j v:=xK _ hj _ _;have c:∀y:Nat->Int,Y2Y n B i (λr=>u r+v r) j y=Y2Y n B i u j y+Y2Y n B i v j y:=λy=>by
  rw[oU h,oU (i:=i) (j:=j) h,oU (i:=i) (j:=j) h];exact xK _ hi _ _
 rw[d,c,c,a,a]at e;exact Oo
theorem QQ{n:Nat}(B:fA){c:Nat}(hc:c<n)(k:Y0)(v:Y03 Y0):∀m:Nat,Y5Y n B c (λr=>Y4D m (k j*v j r))=Y4D m (k j*Y5Y n B c (v j))
 | 0=>by
  have:=DA B hc 0 λ_=>0;simp only[Int.zero_mul]at this;show det n (st B c λ_=>0)=0;exact this
 | m+1=>by
  show det n (st B c λr=>(dU m λj=>k j*v j r)+k m*v m r)=_;rw[xK B hc,QQ B hc k v m,DA B hc];rfl
def unit(k:Nat):Y0:=λr=>if r=k then 1 else 0
def aAO(n:Nat):sgn (n+n)=1:=by unfold sgn;rw[Y6a]
theorem JZ:∀n:Nat,det n unit=1
 | 0=>rfl
 | n+1=>by
  show dU (n+1) _=1;rw[jY (w:=n) Oo λj hj ne=>?_]
  ·have e:det n (wo unit n)=det n unit:=yO λi a r _=>by
    show unit (skip n i) r=unit i r;unfold skip;rw[if_pos a]
   rw[e,JZ n,aAO];show 1*(if n=n then 1 else 0)*1=(1:Int);rw[if_pos rfl];rfl
  ·show sgn (j+n)*(if n=j then 1 else 0)*_=0;rw[if_neg λz=>ne z.symm];simp
def fac:Y03 Nat
 | 0=>1
 | n+1=>(n+1)*fac n
theorem tM{C:Nat}:∀{n:Nat}{f:Y0},(∀i,i<n->(f i).natAbs<=C)->(dU n f).natAbs<=n*C
 | 0,_,_=>by simp[dU]
 | n+1,f,h=>by
  rw[dU];have h1:=tM (n:=n) λi a=>h i Oo;have c:=h n Oo;have:=Int.natAbs_add_le (dU n f) (f n);rw[Nat.add_mul];exact Oo
def aAP(j:Nat):(sgn j).natAbs=1:=by unfold sgn;split <;> rfl
theorem HI{C:Nat}:∀{n:Nat}{B:fA},(∀j,j<n->∀r,r<n->(B j r).natAbs<=C)->(det n B).natAbs<=fac n*C^n
 | 0,_,_=>by show(1:Int).natAbs<=1*C^0;simp
 | n+1,B,h=>by
  have:=tM (C:=C*(fac n*C^n)) (n:=n+1) (f:=λj=>sgn (j+n)*B j n*det n (wo B j)) λj a=>by
   rw[dD,dD,aAP,Nat.one_mul];exact Nat.mul_le_mul (h j a n Oo) (HI λi c r d=>h (skip j i) (by unfold skip;split <;> exact Oo) r Oo)
  refine aJ this (Nat.le_of_eq ?_);rw[fac,Nat.pow_succ];rw[Nat.mul_assoc,Nat.mul_comm C,Nat.mul_assoc (fac n)]
end Md
namespace Md
def dot(n:Nat)(x y:Y0):Int:=dU n λk=>x k*y k
structure Bs(n:Nat)(B R:fA)(p:Int):Prop where
 inv:∀r,r<n->∀k,k<n->Y4D n (B j r*R j k)=if r=k then p else 0
 det:det n B=p
 pos:0<p
section
variable{n:Nat}{B R:fA}{p:Int}
def Bs.expand(h:Bs n B R p)(v:Y0){r:Nat}(hr:r<n):Y4D n (Y5s j v*B j r)=p*v r:=by
 have c:Y4D n (Y5s j v*B j r)=dU n λk=>Y4D n (v k*(B j r*R j k)):=by
  rw[EK];refine eC λj _=>?_;unfold dot;rw[Int.mul_comm,<-iD];exact eC λk _=>by grind
 rw[c,eC (g:=λk=>v k*if r=k then p else 0) λk a=>by rw[iD,h.inv r hr k a],jY hr λk _ ne=>by rw[Y2t Y9O];simp];rw[Yt];grind
def Bs.put(h:Bs n B R p)(C:fA){i:Nat}(hi:i<n)(v:Y0):p*Y7J n C i v=Y4D n (Y5s j v*Y7J n C i (B j)):=by
 rw[<-DA C hi,<-QQ C hi (λj=>Y5s j v) (λj=>B j)];refine yO λj c r a=>?_;by_cases e:j=i
 ·subst e;rw[iH,iH];exact(h.expand v a).symm
 ·rw[lW e,lW e]
def FF{i j:Nat}(hi:i<n)(hj:j<n)(ne:j≠i):Y7J n B i (B j)=0:=yP hi hj (λz=>Y9O) (by rw[iH,lW ne])
def Bs.step_det(h:Bs n B R p){i:Nat}(hi:i<n)(v:Y0):Y7J n B i v=Y5s i v:=by
 have e:=h.put B hi v;rw[jY hi λj c ne=>by rw[FF hi c ne];simp]at e;rw[uI,h.det]at e;have a:p≠0:=by have:=h.pos;exact Oo
 rw[Int.mul_comm]at e;exact Int.eq_of_mul_eq_mul_right a e
def xJ{x:Y0}{k:Nat}(hk:k<n):dot n x (unit k)=x k:=by
 unfold dot;rw[jY hk λj _ ne=>by unfold unit;rw[if_neg ne];simp];unfold unit;rw[Yt];simp
def Bs.row(h:Bs n B R p){i k:Nat}(hi:i<n)(hk:k<n):R i k=Y7J n B i (unit k):=by rw[h.step_det hi,xJ hk]
def xE(n:Nat)(B R:fA)(o:Nat)(a:Y0):fA:=λi k=>if i=o then R o k else Y7J n (st B o a) i (unit k)
def Bs.exch(h:Bs n B R p){o:Nat}(ho:o<n)(a:Y0){i k:Nat}(hi:i<n)(hk:k<n)(ne:i≠o):p*xE n B R o a i k=R i k*Y2G-R o k*Y2n:=by
 unfold xE;rw[if_neg ne,h.put (st B o a) hi (unit k),IQ hi ho ne λj g c e=>?_]
 ·rw[xJ hk,xJ hk];have d:st (st B o a) i (B i)=st B o a:=by
   rw[oU (λz=>Y9O),uI]
  have l:Y7J n (st B o a) i (B o)=- Y7J n B i a:=by
   rw[YX B ho hi (λz=>Y9O),uI]
  rw[d,l,h.step_det ho,h.step_det hi];grind
 ·rw[yP hi g (λz=>c z.symm) (by rw[iH,lW c,lW e])];simp
def Bs.next(h:Bs n B R p){o:Nat}(ho:o<n){a:Y0}(hs:0<Y2G):Bs n (st B o a) (xE n B R o a) (Y2G):=by
 refine⟨λr g k d=>?_,h.step_det ho a,hs⟩;have l:p≠0:=by have:=h.pos;exact Oo
 refine Int.eq_of_mul_eq_mul_right l ?_;rw[Int.mul_comm,<-iD];have c:∀j,j<n->p*(st B o a j r*xE n B R o a j k)=Y2G*(B j r*R j k)-R o k*(Y5s j a*B j r)+if j=o then p*a r*R o k else 0:=λj m=>by
  by_cases e:j=o
  ·subst e;rw[iH,Yt];have:xE n B R j a j k=R j k:=Yt;rw[this];grind
  ·rw[lW e,Y0Y];have:=h.exch ho a m d e;have s:p*(B j r*xE n B R o a j k)=B j r*(p*xE n B R o a j k):=by grind
   rw[s,this];grind
 rw[eC c];have i:Y4D n (Y2G*(B j r*R j k)-R o k*(Y5s j a*B j r)+if j=o then p*a r*R o k else 0)=Y2G*Y4D n (B j r*R j k)+(-(R o k))*Y4D n (Y5s j a*B j r)+Y4D n (if j=o then p*a r*R o k else 0):=by
  rw[<-iD,<-iD,<-nQ,<-nQ];exact eC λj _=>by grind
 rw[i,h.inv r g k d,h.expand a g,jY ho (f:=λj=>if j=o then p*a r*R o k else 0) λj _ ne=>if_neg ne,Yt];by_cases e:r=k
 ·rw[Y1T,Y1T];grind
 ·rw[Y0Y,Y0Y];grind
def aCc(n:Nat):Bs n unit unit 1:=by
 refine⟨λr a k c=>?_,JZ n,Dd⟩;rw[jY a λj _ ne=>by
  show(if r=j then 1 else 0)*_=(0:Int);rw[Y2t Y9O];simp]
 show(if r=r then(1:Int) else 0)*(if k=r then 1 else 0)=_;rw[Yt];by_cases e:r=k
 ·rw[Y1T,if_pos e.symm];rfl
 ·rw[Y0Y,Y2t Y7V];rfl
end
end Md
namespace Md
def lexp(m:Nat)(d:Y0):Prop:=∃j,j<m/\(∀i,i<j->d i=0)/\0<d j
section
variable{m:Nat}{d e:Y0}
def gL(h:∀i,i<m->d i=e i)(x:Y2b d):Y2b e:=by
 obtain⟨j,a,z,p⟩:=x;exact⟨j,a,λi c=>by rw[<-h i Oo];exact z i c,by rw[<-h j a];exact p⟩
def JN(x:Y2b d)(y:Y2b e):Y2b (λi=>d i+e i):=by
 obtain⟨j,h,c,p⟩:=x;obtain⟨k,l,g,n⟩:=y;rcases Nat.lt_trichotomy j k with q | q | q
 ·exact⟨j,h,λi a=>by show d i+e i=0;rw[c i a,g i Oo];rfl,by show 0<d j+e j;rw[g j q];exact Oo⟩
 ·subst q;exact⟨j,h,λi a=>by show d i+e i=0;rw[c i a,g i a];rfl,by show 0<d j+e j;exact Oo⟩
 ·exact⟨k,l,λi a=>by show d i+e i=0;rw[c i Oo,g i a];rfl,by show 0<d k+e k;rw[c k q];exact Oo⟩
def tX{c:Int}(hc:0<c)(x:Y2b d):Y2b (λi=>c*d i):=by
 obtain⟨j,a,z,p⟩:=x;exact⟨j,a,λi e=>by show c*d i=0;rw[z i e];simp,Int.mul_pos hc p⟩
def YD{c:Int}(hc:0<c)(x:Y2b (λi=>c*d i)):Y2b d:=by
 obtain⟨j,a,z,p⟩:=x;refine Y3U j a (λi e=>?_)
 ·have:=z i e;rcases Int.mul_eq_zero.mp this with q | q
  ·exact Oo
  ·exact q
 ·have p:0<c*d j:=p;rcases Int.lt_trichotomy (d j) 0 with q | q | q
  ·have:=Int.mul_neg_of_pos_of_neg hc q;exact Oo
  ·rw[q]at p;simp at p
  ·exact q
theorem CF:∀(m:Nat) (d:Y0),Y2b d\/(∀i,i<m->d i=0)\/Y2b (λi=>- d i)
 | 0,d=>.inr (.inl λi hi=>Oo)
 | m+1,d=>by
  rcases CF m d with h | h | h
  ·obtain⟨j,hj,z,p⟩:=h;exact .inl ⟨j,Oo,z,p⟩
  ·rcases Int.lt_trichotomy (d m) 0 with q | q | q
   ·exact .inr (.inr ⟨m,Oo,λi hi=>by show-d i=0;rw[h i hi];rfl,by show 0 < - d m;exact Oo⟩)
   ·refine .inr (.inl λi hi=>?_);rcases(show i<m\/i=m by exact Oo)with r | r
    ·exact h i r
    ·rw[r];exact q
   ·exact .inl ⟨m,Oo,h,q⟩
  ·obtain⟨j,hj,z,p⟩:=h;exact .inr (.inr ⟨j,Oo,z,p⟩)
def YC(x:Y2b d):¬Y2b (λi=>- d i):=λ⟨k,g,a,c⟩=>by
 obtain⟨j,h,e,l⟩:=x;have a:∀i,i<k->- d i=0:=a;have c:0 < - d k:=c;rcases Nat.lt_trichotomy j k with q | q | q
 ·have:=a j q;exact Oo
 ·subst q;exact Oo
 ·have:=e k q;exact Oo
def lexn(m:Nat)(d:Y0):Prop:=Y2b d\/∀i,i<m->d i=0
def JP{c:Int}(hc:0<=c)(x:lexn m d):lexn m λi=>c*d i:=by
 rcases Int.lt_or_eq_of_le hc with q | q
 ·rcases x with x | x
  ·exact .inl (tX q x)
  ·exact .inr λi a=>by show c*d i=0;rw[x i a];simp
 ·exact .inr λi a=>by show c*d i=0;rw[<-q];simp
def EX(x:Y2b d)(y:lexn m e):Y2b (λi=>d i+e i):=by
 rcases y with y | y
 ·exact JN x y
 ·exact gL (λi a=>by rw[y i a];exact Oo) x
def JO(h:¬Y2b (λi=>- d i)):lexn m d:=by
 rcases CF m d with q | q | q
 ·exact .inl q
 ·exact .inr q
 ·exact absurd q h
end
def rad(b:Nat):Y03 ((Y03 Nat)->Nat)
 | 0,_=>0
 | m+1,v=>rad b m v*b+v m
theorem EO{b:Nat}:∀{m:Nat}{v w:Y03 Nat},(∀i,i<m->v i=w i)->rad b m v=rad b m w
 | 0,_,_,_=>rfl
 | m+1,v,w,h=>by rw[rad,rad,EO (m:=m) λi hi=>h i Oo,h m Oo]
theorem WR{b:Nat}:∀{m:Nat}{v w:Y03 Nat},(∀i,i<m->v i<b/\w i<b)->(∃j,j<m/\(∀i,i<j->v i=w i)/\v j<w j)->rad b m v<rad b m w
 | 0,_,_,_,⟨j,hj,_⟩=>Oo
 | m+1,v,w,hb,⟨j,hj,z,p⟩=>by
  rw[rad,rad];rcases(show j<m\/j=m by exact Oo)with q | q
  ·have ih:=WR (m:=m) (λi c=>hb i Oo) ⟨j,q,z,p⟩;have d:=hb m Oo;have a:(rad b m v+1)*b<=rad b m w*b:=bO _ ih;rw[Nat.add_mul]at a;exact Oo
  ·subst q;rw[EO (m:=j) z];exact Oo
theorem WS{b:Nat}:∀{m:Nat}{v:Y03 Nat},(∀i,i<m->v i<b)->rad b m v<b^m
 | 0,_,_=>by simp[rad]
 | m+1,v,h=>by
  have h1:=WS (m:=m) λi c=>h i Oo;have d:=h m Oo;rw[rad,Nat.pow_succ];have a:(rad b m v+1)*b<=b^m*b:=bO _ h1;rw[Nat.add_mul]at a;exact Oo
theorem QM:∀{n p:Nat},0<p->p<=n->p ∣ fac n
 | 0,p,h,h'=>Oo
 | n+1,p,h,h'=>by
  rw[fac];rcases(show p<=n\/p=n+1 by exact Oo)with q | q
  ·exact Nat.dvd_trans (QM h q) (Nat.dvd_mul_left _ _)
  ·rw[q];exact Nat.dvd_mul_right _ _
theorem AR:∀n,0<fac n
 | 0=>Dd
 | n+1=>fN Oo (AR n)
def msr(Z P m:Nat)(z:Y0)(p:Int):Nat:=rad (2*(Z*fac P)+1) m λi=>(z i*((fac P:Int)/p)+(Z*fac P:Nat)).toNat
def vU{Z P:Nat}{x p:Int}(hx:x.natAbs<=Z)(p0:0<p)(p1:p<=P):∃q:Int,(fac P:Int)=p*q/\(fac P:Int)/p=q/\0<q/\(0<=x*q+(Z*fac P:Nat))/\x*q+(Z*fac P:Nat)<(2*(Z*fac P)+1:Nat):=by
 obtain⟨a,c⟩:=QM (n:=P) (p:=p.toNat) Oo Oo;have d:((p.toNat:Nat):Int)=p:=Int.toNat_of_nonneg Oo;have e:(fac P:Int)=p*(a:Int):=by rw[<-d,<-Int.natCast_mul,<-c]
 have g:=AR P;have j:0<a:=by
  rcases Nat.eq_zero_or_pos a with z | z
  ·rw[z]at c;exact Oo
  ·exact z
 have i:a<=fac P:=by rw[c];exact Y5U Oo
 refine⟨(a:Int),e,?_,Oo,?_⟩
 ·rw[e];exact Y4S _
 ·have h:(x*(a:Int)).natAbs<=Z*fac P:=by
   rw[dD];exact Nat.mul_le_mul hx Oo
  exact Oo
def aEM{Z P m:Nat}{z z':Y0}{p p':Int}(hz:∀i,i<m->(z i).natAbs<=Z)(hz':∀i,i<m->(z' i).natAbs<=Z)(p0:0<p)(p1:p<=P)(q0:0<p')(q1:p'<=P)(h:Y2b (λi=>p' * z i-p*z' i)):msr Z P m z' p' < msr Z P m z p:=by
 refine WR (Ybf) ?_
 ·obtain⟨q,e,g,G,J,D⟩:=vU (hz i d) p0 p1;obtain⟨s,A,a,B,I,b2⟩:=vU (hz' i d) q0 q1;rw[g,a];exact Oo
 ·obtain⟨j,n,N,M⟩:=h;have l:∀i,i<m->∃c:Int,0<c/\c*(p' * z i-p*z' i)=p*p' * ((z i*((fac P:Int)/p))-z' i*((fac P:Int)/p')):=λi d=>by
   obtain⟨q,e,g,G,J,D⟩:=vU (hz i d) p0 p1;obtain⟨s,A,a,B,I,b2⟩:=vU (hz' i d) q0 q1;refine Y0b (fac P:Int) (by have:=AR P;exact Oo);rw[g,a,Int.mul_sub,Int.mul_sub];have L:(fac P:Int)*(p' * z i)=p*p' * (z i*q):=by rw[e];grind
   have O:(fac P:Int)*(p*z' i)=p*p' * (z' i*s):=by rw[A];grind
   rw[L,O]
  have w:0<p*p':=Int.mul_pos p0 q0;refine Y3U j n Ybf
  ·obtain⟨c,C,e⟩:=l i Oo;have u:p' * z i-p*z' i=0:=N i d;rw[u,Int.mul_zero]at e;rcases Int.mul_eq_zero.mp e.symm with r | r
   ·exact Oo
   ·show(z' i*((fac P:Int)/p')+(Z*fac P:Nat)).toNat=(z i*((fac P:Int)/p)+(Z*fac P:Nat)).toNat;rw[show z' i*((fac P:Int)/p')=z i*((fac P:Int)/p)by exact Oo]
  ·obtain⟨c,C,e⟩:=l j n;have y:=Int.mul_pos C M;rw[show c*(p' * z j-p*z' j)=p*p' * (z j*((fac P:Int)/p)-z' j*((fac P:Int)/p'))from e]at y;have hd:0<z j*((fac P:Int)/p)-z' j*((fac P:Int)/p'):=by
    rcases Int.lt_trichotomy (z j*((fac P:Int)/p)-z' j*((fac P:Int)/p')) 0 with r | r | r
    ·have:=Int.mul_neg_of_pos_of_neg w r;exact Oo
    ·rw[r]at y;simp at y
    ·exact r
   obtain⟨q,S,g,G,J,D⟩:=vU (hz j n) p0 p1;obtain⟨s,R,a,B,I,b2⟩:=vU (hz' j n) q0 q1;show(z' j*((fac P:Int)/p')+(Z*fac P:Nat)).toNat<(z j*((fac P:Int)/p)+(Z*fac P:Nat)).toNat;rw[g,a]at hd ⊢;exact Oo
end Md
namespace Md
def rho(n:Nat)(b:Y0)(R:fA)(i k:Nat):Int:=match k with
 | 0=>dot n (R i) b
 | k+1=>R i k
structure Mst(n:Nat)(b:Y0)(B R:fA)(p:Int):Prop where
 bs:Bs n B R p
 lex:∀i,i<n->lexp (n+1) (rho n b R i)
section
variable{n:Nat}{b:Y0}{B R:fA}{p:Int}
def QO(x y:Y0)(c d:Int)(v:Y0):dot n (λk=>c*x k-d*y k) v=c*dot n x v-d*dot n y v:=by
 unfold dot;have:dU n (λk=>(c*x k-d*y k)*v k)=dU n (λk=>c*(x k*v k)+(-d)*(y k*v k)):=eC λk _=>by grind
 rw[this,nQ,iD,iD];grind
def aBN(c:Int)(x v:Y0):dot n (λk=>c*x k) v=c*dot n x v:=by
 unfold dot;rw[<-iD];exact eC λk _=>by grind
def FE{x y v:Y0}(h:∀k,k<n->x k=y k):dot n x v=dot n y v:=by
 unfold dot;exact eC λk a=>by rw[h k a]
def Bs.rho_exch(h:Bs n B R p)(b:Y0){o:Nat}(ho:o<n)(a:Y0){i k:Nat}(hi:i<n)(hk:k<n+1)(ne:i≠o) :
  p*rho n b (xE n B R o a) i k=Y2G*Y3W i-Y2n*Y3W o:=by
 cases k with
 | zero =>
  show p*dot n (xE n B R o a i) b=Y2G*Y5s i b-Y2n*Y5s o b;rw[<-aBN,<-QO];refine FE λk hk=>?_;rw[h.exch ho a hi hk ne];grind
 | succ k =>
  show p*xE n B R o a i k=Y2G*R i k-Y2n*R o k;rw[h.exch ho a hi Oo ne];grind
def GN(b:Y0)(o:Nat)(a:Y0)(k:Nat):rho n b (xE n B R o a) o k=Y3W o:=by
 have e:xE n B R o a o=R o:=by funext k;exact Yt
 cases k with
 | zero=>show dot n (xE n B R o a o) b=Y5s o b;rw[e]
 | succ k=>show xE n B R o a o k=R o k;rw[e]
def Bs.dot_col(h:Bs n B R p){i j:Nat}(hi:i<n)(hj:j<n):Y5s i (B j)=if i=j then p else 0:=by
 rw[<-h.step_det hi];by_cases e:i=j
 ·subst e;rw[uI,Yt,h.det]
 ·rw[Y0Y];exact FF hi hj λz=>Y7V
def Bs.indep(h:Bs n B R p){i o:Nat}(hi:i<n)(ho:o<n)(ne:i≠o){c d:Int}(hc:c≠0):¬∀k,k<n->c*R i k-d*R o k=0:=λz=>by
 have e:=QO (n:=n) (R i) (R o) c d (B i);rw[h.dot_col hi hi,h.dot_col ho hi,Yt,Y2t Y9O]at e;have j:dot n (λk=>c*R i k-d*R o k) (B i)=0:=by
  rw[FE (y:=Y3x) λk a=>z k a];unfold dot;rw[eC (g:=Y3x) λk _=>Int.zero_mul _,xY]
 rw[j]at e;have l:=h.pos;have:c*p=0:=Oo;rcases Int.mul_eq_zero.mp this with q | q
 ·exact hc q
 ·exact Oo
def aAe(n:Nat)(b:Y0)(R:fA)(a:Y0)(o:Nat):Prop:=∀i,i<n->0<Y2n->¬lexp (n+1) λk=>Y2n*Y3W o-Y2G*Y3W i
theorem Mst.next(h:Mst n b B R p){o:Nat}(ho:o<n){a:Y0}(hs:0<Y2G)(hl:aAe n b R a o):Mst n b (st B o a) (xE n B R o a) (Y2G):=by
 refine⟨h.bs.next ho hs,λi g=>?_⟩;by_cases e:i=o
 ·subst e;exact gL (λk _=>(GN b i a k).symm) (h.lex i g)
 ·refine YD h.bs.pos (gL (λk j=>(h.bs.rho_exch b ho a g j e).symm) ?_);rcases Int.lt_or_le 0 (Y2n)with q | q
  ·have nn:=hl i g q;rcases CF (n+1) (λk=>Y2G*Y3W i-Y2n*Y3W o)with t | t | t
   ·exact t
   ·exfalso;exact h.bs.indep g ho e (c:=Y2G) (d:=Y2n) Oo λk j=>t (k+1) Oo
   ·exact absurd (gL (λk _=>by show-(_-_)=_-_;exact Oo) t) nn
  ·have:=EX (tX hs (h.lex i g)) (JP (c:=- Y2n) Oo (.inl (h.lex o ho)));exact gL (λk _=>by show _ + - Y2n*Y3W o=_;grind) this
def YE{ri ro rj:Y0}{m:Nat}{si so sj:Int}(hi:0<si)(ho:0<so)(hj:0<sj)(h1:Y2b (λk=>si*ro k-so*ri k))(h2:¬Y2b (λk=>sj*ro k-so*rj k)):¬Y2b (λk=>sj*ri k-si*rj k):=λd=>by
 have a:lexn m λk=>so*rj k-sj*ro k:=JO λq=>h2 (gL (λk _=>by show-(_-_)=_-_;exact Oo) q);have:=EX (tX hj h1) (JP (c:=si) Oo a);have e:=tX ho d;exact YC this (gL (λk _=>by show _=- (sj*(si*ro k-so*ri k)+si*(so*rj k-sj*ro k));grind) e)
def Bs.some(h:Bs n B R p)(hB:∀j,j<n->∀r,r<n->0<=B j r){a:Y0}{r:Nat}(hr:r<n)(ha:0<a r):∃i,i<n/\0<Y2n:=by
 refine cI λc=>?_;have all:∀i,i<n->Y2n<=0:=λi d=>Int.not_lt.mp λz=>c ⟨i,d,z⟩;have e:=h.expand a hr;have le:∀m,m<=n->Y4D m (Y5s j a*B j r)<=0:=by
  intro m
  induction m with
  | zero=>intro _;exact Int.le_refl 0
  | succ m ih =>
   intro s;rw[dU];have l:=ih Oo;have g:=Int.mul_nonneg (a:=- Y5s m a) (by have:=all m Oo;exact Oo) (hB m Oo r hr);have u:- Y5s m a*B m r=- (Y5s m a*B m r):=by grind
   exact Oo
 have:=le n (Yp);have:=YdU ha;exact Oo
def zet(n:Nat)(b:Y0)(R:fA)(c:Y0)(k:Nat):Int:=Y3o (c i*Y3W i)
def sc(c:Y0)(o:Nat)(x:Int):Y0:=λi=>if i=o then x else c i
def Bs.zet_exch(h:Bs n B R p)(b:Y0){o:Nat}(ho:o<n)(a c:Y0)(x:Int){k:Nat}(hk:k<n+1) :
  p*zet n b (xE n B R o a) (sc c o x) k=Y2G*zet n b R c k-(Y3o (c i*Y2n)-p*x)*Y3W o:=by
 unfold zet;rw[<-iD];have d:∀i,i<n->p*(sc c o x i*rho n b (xE n B R o a) i k)=Y2G*(c i*Y3W i)+(- Y3W o)*(c i*Y2n)+if i=o then p*x*Y3W o else 0:=λi g=>by
  by_cases e:i=o
  ·subst e;rw[Yt,GN];unfold sc;rw[Yt];grind
  ·rw[Y0Y];unfold sc;rw[Y0Y];have:=h.rho_exch b ho a g hk e;have j:p*(c i*rho n b (xE n B R o a) i k)=c i*(p*rho n b (xE n B R o a) i k):=by grind
   rw[j,this];grind
 rw[eC d,nQ,nQ,iD,iD,jY ho (f:=λi=>if i=o then p*x*Y3W o else 0) λi _ ne=>if_neg ne,Yt];grind
def Mst.cheaper(h:Mst n b B R p){o:Nat}(ho:o<n){a c:Y0}{x:Int}(hd:p*x<Y3o (c i*Y2n)):lexp (n+1) λk=>Y2G*zet n b R c k-p*zet n b (xE n B R o a) (sc c o x) k:=by
 refine gL (λk d=>?_) (tX (c:=Y3o (c i*Y2n)-p*x) Oo (h.lex o ho));show(Y3o (c i*Y2n)-p*x)*Y3W o=Y2G*zet n b R c k-p*zet n b (xE n B R o a) (sc c o x) k;rw[h.bs.zet_exch b ho a c x d];exact Oo
def Bs.size(h:Bs n B R p){C:Nat}(hB:∀j,j<n->∀r,r<n->(B j r).natAbs<=C)(c1:1<=C):p.natAbs<=fac n*C^n/\∀i,i<n->∀k,k<n->(R i k).natAbs<=fac n*C^n:=by
 refine⟨by rw[<-h.det];exact HI hB,λi d k a=>?_⟩;rw[h.row d a];refine HI λj c r g=>?_;by_cases e:j=i
 ·subst e;rw[iH];unfold unit;split
  ·exact c1
  ·exact Y0x
 ·rw[lW e];exact hB j c r g
def QP{x y:Y0}{C D:Nat}(hx:∀k,k<n->(x k).natAbs<=C)(hy:∀k,k<n->(y k).natAbs<=D):(dot n x y).natAbs<=n*(C*D):=by
 unfold dot;refine tM λk a=>?_;rw[dD];exact Nat.mul_le_mul (hx k a) (hy k a)
end
end Md
namespace Md
open Mf
def rN(n:Nat)(f:Y0):((dU n f:Int):Rat)=Y4C n (f i:Rat):=by
 induction n with
 | zero=>rfl
 | succ n ih=>rw[dU,eL,Rat.intCast_add,ih]
section
variable{n:Nat}{b:Y0}{B R:fA}{p:Int}
def rat(n:Nat)(R:fA)(c:Y0)(k:Nat):Int:=Y3o (c i*R i k)
def AW(b:Y0)(R:fA)(c:Y0):zet n b R c 0=dot n (rat n R c) b:=by
 show Y3o (c i*Y5s i b)=dU n λk=>rat n R c k*b k;have e:∀k,rat n R c k*b k=Y3o (c i*(R i k*b k)):=λk=>by
  unfold rat;rw[Int.mul_comm,<-iD];exact eC λi _=>by grind
 rw[eC λk _=>e k,EK];refine eC λi _=>?_;rw[iD];rfl
def aBq(R:fA)(c a:Y0):Y3o (c i*Y2n)=dot n (rat n R c) a:=by
 have:=AW (n:=n) a R c;exact this
def Mst.share(h:Mst n b B R p){i:Nat}(hi:i<n):0<=Y5s i b:=by
 obtain⟨j,a,z,q⟩:=h.lex i hi;cases j with
 | zero=>exact Int.le_of_lt q
 | succ j=>exact Int.le_of_eq (z 0 Oo).symm
def Bs.ends(h:Bs n B R p){r:Nat}(hr:r<n):Y3o (Y5s i b*B i r)=p*b r:=h.expand b hr
def JK(n:Nat){y:Y0}{p:Int}{b:Y0}(hy:∀w,w<n->y w<=0)(hb:b n=1){x:Rat}{α:Yy}(hα:∀w,w<n->α w<=(b w:Rat))(hw:(y n:Rat)<=(p:Rat)*x+Y91 n (-(y w:Rat)*α w)):((dot (n+1) y b:Int):Rat)<=(p:Rat)*x:=by
 have e:((dot (n+1) y b:Int):Rat)=Y91 n ((y w:Rat)*(b w:Rat))+(y n:Rat):=by
  show(((dU (n+1) λk=>y k*b k):Int):Rat)=_;rw[dU,Rat.intCast_add,rN,hb,Int.mul_one];congr 1;exact Y7b (by rw[Rat.intCast_mul])
 have le:Y91 n ((y w:Rat)*(b w:Rat))+Y91 n (-(y w:Rat)*α w)<=0:=by
  rw[<-nP];have:=lH (n:=n) (f:=λw=>(y w:Rat)*(b w:Rat) + -(y w:Rat)*α w) (g:=Y3x) λw hw=>by
   have c:(0:Rat)<=-(y w:Rat):=by
    have:=Rat.intCast_le_intCast.mpr (hy w hw);have d:((0:Int):Rat)=0:=rfl;grind
   have a:=hα w hw;have h:=Rat.mul_le_mul_of_nonneg_left a c;grind
  rw[iW]at this;exact this
 rw[e];grind
def aBB(n:Nat){y:Y0}{b:Y0}(hy:∀w,w<n->y w<=0)(hb:b n=1)(hl:lexp (n+2) λk=>match k with | 0=>dot (n+1) y b | k+1=>y k){α:Yy}(hα:∀w,w<n->α w<=(b w:Rat))(hw:(y n:Rat)<=Y91 n (-(y w:Rat)*α w)):False:=by
 have d:=JK n (p:=0) (x:=0) hy hb hα (by rw[Rat.mul_zero,Rat.zero_add];exact hw);rw[Rat.mul_zero]at d;have i:dot (n+1) y b<=0:=Rat.intCast_le_intCast.mp (by have a:((0:Int):Rat)=0:=rfl;rw[a];exact d);obtain⟨j,l,z,q⟩:=hl;cases j with
 | zero=>have q:0<dot (n+1) y b:=q;exact Oo
 | succ j =>
  have q:0<y j:=q;rcases(show j<n\/j=n by exact Oo)with r | r
  ·have:=hy j r;exact Oo
  ·subst r;have h:∀w,w<j->y w=0:=λw c=>z (w+1) Oo;have e:Y91 j (-(y w:Rat)*α w)=0:=by
    rw[bR (g:=Y3x) λw c=>by
     rw[h w c];have a:((0:Int):Rat)=0:=rfl;rw[a];grind,iW]
   rw[e]at hw;have a:((0:Int):Rat)=0:=rfl;rw[<-a]at hw;have:=Rat.intCast_le_intCast.mp hw;exact Oo
end
end Md
namespace L2
open PySem PySem.Spec PyProof.Rows
def aFO:TS:=Y7t
def OI{X:Cx}{st:Stmt}:IB X st aFO:=⟨λ_ _ _ _ _ _ h=>h.elim⟩
def rS.ext{b:Bool}{h h':Heap}{i l c:Addr}{k:Nat}(x:rS b h i l k)(s:Ycu c h)(n:i≠c):rS b h' i l k:=x.at λo e=>s i o n e
section
variable{prog:Program}{w:World}{A:Around}{E:Yc}{s:Shared}
def NH{b:Bool}{e it l:Addr}{i:Nat}{n:Int}{items:Ai}{x old:Value}{Q:Yc}(he:Y7S s.heap e it n)(hit:rS b s.heap it l i)(hl:Y28 b l items)(hx:items[i]?=Y7)(hne:e≠it)
  (hQ:∀h' t,IsEnumOut h' e it (n+1) x s.heap.objs.size->rS b h' it l (i+1)->Ydy (some { cls:=.type "tuple",data:=.seq #[.int n t,x] })->(∀c o,c≠e->c≠it->Y3u c->Y4E c)->Q (Y0I) { s with heap:=h',toks:=s.toks+1 }) :
  wpAny (model prog w) A (Builtin.«enumerate.__next__» ⟨[.ref e],[]⟩) (λfin s'=>∃v,fin=Ycz v/\Q v s') E s:=by
 obtain⟨I,g,d,h,G⟩:=s;show Y39 (Y5t e 2 >>= _);refine Y48 he Y6e ?_;refine Ycx hit hl hx (λJ L p=>?_);replace p:Heap.SameBut it I J:=p;have B:Y7S J e it n:=(p.2 e hne).trans he;show Y62 (Y5t e 3 >>= _) ⟨J,g,d,h,G⟩;refine Y48 B (rawInt n) ?_;show Y62 (Y5t e 4 >>= _) ⟨J,g,d,h,G⟩;refine Y48 B .none ?_;show Y62 (mkInt n >>= _) ⟨J,g,d,h,G⟩;refine wpAny_bind (wpAny_mkInt ?_);show Y62 (setField (.ref e) 3 (rawInt (n+1)) >>= _) ⟨J,g,d,h+1,G⟩;refine Y92 B (by simp) (λU D m=>?_);replace m:Y9m J U:=m;replace D:Y7S U e it (n+1):=D;show Y62 (setField (.ref e) 4 .none >>= _) ⟨U,g,d,h+1,G⟩;refine Y92 D (by simp) (λP C j=>?_);replace j:Y9m U P:=j;replace C:Y7S P e it (n+1):=C;show Y62 (newTuple [.int n h,x] >>= _) ⟨P,g,d,h+1,G⟩;refine wpAny_bind (wpAny_newTuple ?_);have z:Y7S (P.push { cls:=.type "tuple",data:=.seq #[.int n h,x] }) e it (n+1):=Y1G C;generalize hh₄:P.push { cls:=.type "tuple",data:=.seq #[.int n h,x] }=W at z;have R:P.objs.size=I.objs.size:=by rw[j.1,m.1,p.1]
 have S:e<I.objs.size:=aY he;have δ:W.get? I.objs.size=some { cls:=.type "tuple",data:=.seq #[.int n h,x] }:=by rw[<-hh₄,<-R];exact Y0Q
 have Z:∀c o,c≠e->c≠it->I.get? c=Ya->W.get? c=Ya:=λc o a M β=>by rw[<-hh₄];exact Y1G (j.extBut c o a (m.extBut c o a (p.extBut c o M β)))
 have X:rS b W it l (i+1):=by rw[<-hh₄];exact((L.ext m.extBut (Ne.symm hne)).ext j.extBut (Ne.symm hne)).at λo ε=>Y1G ε
 show Y62 (Ye0 e >>= _) ⟨W,g,d,h+1,G⟩;rw[R];clear hh₄ C j D m B p L R P U J;refine Y4W;unfold Builtin.SmallTypes.ownedTupleIsFree;refine Y48 z .none Y2r;simp only[if_true];refine Yal ?_;refine Y48 z old ?_;refine Y92 z (by simp) (λY T r=>?_);replace r:Y9m W Y:=r;replace T:IsEnum Y e it (n+1) x:=T;show Y62 (Builtin.SmallTypes.ownedTupleHandOut (.ref e) (.ref I.objs.size) >>= _) ⟨Y,g,d,h+1,G⟩;refine Y4W;unfold Builtin.SmallTypes.ownedTupleHandOut;refine Y92 T (by simp) (λα N y=>?_);replace y:Y9m Y α:=y;replace N:IsEnumOut α e it (n+1) x I.objs.size:=N;refine wpAny_setField_rec N (by simp) λγ O u=>?_;replace u:Y9m α γ:=u;replace O:IsEnumOut γ e it (n+1) x I.objs.size:=O;refine YcQ (wpAny_pure (Y6 (hQ γ h O ?_ ?_ ?_)))
 ·exact((X.ext r.extBut (Ne.symm hne)).ext y.extBut (Ne.symm hne)).ext u.extBut (Ne.symm hne)
 ·exact u.extBut _ _ (Nat.ne_of_gt S) (y.extBut _ _ (Nat.ne_of_gt S) (r.extBut _ _ (Nat.ne_of_gt S) δ))
 ·exact λc o a M β=>u.extBut c o a (y.extBut c o a (r.extBut c o a (Z c o a M β)))
def NG{b:Bool}{e it l:Addr}{i:Nat}{n:Int}{items:Ai}{x old:Value}{Q:Y5n->Y0M}(he:Y7S s.heap e it n)(hit:rS b s.heap it l i)(hl:Y28 b l items)(hx:items[i]?=Y7)(hne:e≠it)
  (hQ:∀h' t,IsEnumOut h' e it (n+1) x s.heap.objs.size->rS b h' it l (i+1)->Ydy (some { cls:=.type "tuple",data:=.seq #[.int n t,x] })->(∀c o,c≠e->c≠it->Y3u c->Y4E c)->Q (Y3 s.heap.objs.size) { s with heap:=h',toks:=s.toks+1 }) :
  Y9R e:=by
 have d:Y8k e "enumerate" := Y0R he;unfold pyNext;refine Yaj (Y8n "__next__" d F.slot_enumerate_next F.slot_enumerate_next d F.entry_enumerate_next ?_ (F.args_enumerate_next_1 _));exact NH he hit hl hx hne λh' t a b c k=>wpAny_pure (hQ h' t a b c k)
def NF{b:Bool}{e it l:Addr}{i:Nat}{n:Int}{items:Ai}{old:Value}{Q:Y5n->Y0M}(hh:Y6k)(he:Y7S s.heap e it n)(hit:rS b s.heap it l i)(hl:Y28 b l items)(hx:items[i]?=none)
  (hQ:∀h',Ycu it s.heap->Q none { s with heap:=h' }):Y9R e:=by
 have d:Y8k e "enumerate" := Y0R he;unfold pyNext;refine Yaj (Y8n "__next__" d F.slot_enumerate_next F.slot_enumerate_next d F.entry_enumerate_next ?_ (F.args_enumerate_next_1 _));show Y39 (Y5t e 2 >>= _);refine Y48 he Y6e ?_;refine wpAny_bind (MS hh hit hl hx λh' x c a=>?_);obtain⟨o,g,h⟩:=a;refine wpAny_bind (Ye2 "StopIteration" true (Y1H g h) ?_);exact wpAny_pure (hQ _ c)
abbrev enO(it:Addr)(n:Int):Obj:={ cls:=.type "enumerate",data:=.fields #[.none,.bool false,.ref it,rawInt n,.none,.none] }
def aEO(b:Bool)(l:Addr)(xs:Ai):YaE (Builtin.«enumerate.__new__» ⟨[.type "enumerate",Y11],[]⟩) (Y28 b l xs/\R (.ok (.ret (.ref (s.heap.push (itO b l)).objs.size))) ({ s with heap:=(s.heap.push (itO b l)).push (enO s.heap.objs.size 0) })) :=
 .of_wp λe w A R s h=>by
  obtain⟨m,g,d,j,p⟩:=s;obtain⟨n,h⟩:=h;have a:=sub_enumerate;have i:nC b (Shared.heap ⟨m,g,d,j,p⟩) l xs:=n
  wp_walk
  refine wpAny_stack_any λst=>Y2r;split
  ·rename_i c _ _ _ _ _
   cases(c == Value.type "enumerate") <;> (wp_walk using QD i) <;> exact Y6 h
  ·wp_walk using QD i
   exact Y6 h
end
section
variable{prog:Program}{w:World}{A:Around}{E:Yc}{s:Shared}
structure EAt(b:Bool)(e it l:Addr)(n:Int)(k:Nat)(h:Heap):Prop where
 e:∃old,Y7S h e it (n+k)
 i:rS b h it l k
def aGv{b:Bool}{l:Addr}{xs:Ai}{Q:Yc}(hl:Y28 b l xs)
  (h:∀h',EAt b (Y20) s.heap.objs.size l 0 0 h'->(∀c o,Y3u c->Y4E c)->Y0N Y20 ({ s with heap:=h' })) :
  Y21 (call (.type "enumerate") [Y11]):=by
 refine callType_new F.called_enumerate Dd (F.typeCall_enumerate_1 _) (F.newCall_enumerate_1 _) (λa=>F.args_object_init_2 a _) F.entry_enumerate_new (aEO b l xs) (Y0A hl);have g:(s.heap.push (itO b l)).objs.size=Y20:=fW ..;have d:((s.heap.push (itO b l)).push (enO s.heap.objs.size 0)).get? (s.heap.push (itO b l)).objs.size=some _:=Y0Q;have e:((s.heap.push (itO b l)).push (enO s.heap.objs.size 0)).get? s.heap.objs.size=some _:=Y1G Y0Q;show _/\_;rw[g]at d ⊢;exact⟨Y0R d,h _ ⟨Y2S d,Y6D _ e⟩ λc o x=>Y70 x⟩
end
def Ite(b:Bool)(l:Addr)(n:Int):It :=
  ⟨Ycm (H l=Y4i b/\Y0s=Y7),
   λi H v H'=>∃q x,v=.ref q/\H q=none/\H'=Y7L q [.int (n+(i:Nat)),x]/\∀xs,H l=Y4i b->Y0s=Y7,
   λi H=>∃xs,H l=Y4i b/\Y6R i⟩
def RW{P:Program}{w:World}{K:Aa}{elts:Y0j}{x1}{tp:Pos}{b:Bool}{e it l:Addr}{n:Int}(hne:e≠it):DY P w K (Y8A x1 tp) (Ite b l n) [e,it] e (λi h=>EAt b e it l n i h) where
 mem:=by simp
 obj:=λi h st c a=>by
  obtain⟨g,m⟩:=st.e;obtain⟨ν,C,_,γ⟩:=st.i;simp only[bN,List.not_mem_nil,or_false]at a;rcases a with rfl | rfl
  ·exact Y8S m (by cases q)
  ·exact Y8S C (by rw[γ]at q;cases q)
 keep:=λi h N st k=>by
  obtain⟨g,m⟩:=st.e;exact⟨⟨g,k _ (by simp) _ m⟩,st.i.at λo e=>k _ (by simp) o e⟩
 item:=by
  intro X B J O Z i j s σ H E I u st R;subst B J O;obtain⟨μ,x,m,T⟩:=R;obtain⟨u1,L,y⟩:=I.sq m;obtain⟨U,G,β⟩:=L.get T;obtain⟨g,r⟩:=st.e;refine NG r st.i y (x:=U) (by simpa using G) hne λN t η z S α=>Y6 (wpAny_letOwnedTupleGo_enum η λD M d=>?_);have d:Y9m N D:=d;have ε:∀c o,c ∉ [e,it]->Y3u c->D.get? c=Ya:=λc o a A=>by
   simp only[bN,List.not_mem_nil,or_false,not_or]at a;exact d.extBut c o a.1 (α c o a.1 a.2 A)
  have I1:cU X j σ H { s with heap:=D,toks:=s.toks+1 }:=I.turnedL (t':=s.toks+1) ε u;have fq:kQ X j H s.heap.objs.size:=I.fpOk (Yp) (Y32);have δ:YcI=none:=by
   cases q:YcI with
   | none=>rfl
   | some o=>exact Y6s (aY q) I.sz _
  have nz:YbT e:=λq=>absurd (aY r) (by rw[<-q];exact bP _);have θ:YbT it:=λq=>by obtain⟨ν,C,_⟩:=st.i;exact absurd (aY C) (by rw[<-q];exact bP _)
  have p:n+((i+1:Nat):Int)=n+(i:Nat)+1:=Oo;refine⟨Y0I,YdV H (.tup [.int (n+(i:Nat)),x]),I1.put fq δ ⟨⟨uR (by show 2<=64;decide),_,d.extBut _ _ nz S,rfl⟩,[Y4g (n+(i:Nat)),U],.cons ⟨t,rfl⟩ (Y7I β),Y0h _ (d.extBut _ _ nz S) _ rfl⟩,rfl,Y7s _ x fq.1 rfl (λκ Y=>?_),
   ⟨Y2S (by rw[p];exact M),z.ext d.extBut (Ne.symm hne)⟩,λc a=>?_⟩
  ·rw[m]at Y;rw[<-zO.inj Y];exact T
  ·have ι:Yav c:=λq=>by
    simp only[bN,List.not_mem_nil,or_false]at a;rcases a with rfl | rfl
    ·exact nz q.symm
    ·exact θ q.symm
   rw[eO ι];exact(u c a).1
 done:=by
  intro X B J O Z i j s σ H E I u st R;subst B J O;obtain⟨μ,m,ο⟩:=R;obtain⟨u1,L,y⟩:=I.sq m;have ξ:=L.length;obtain⟨g,r⟩:=st.e;refine NF (I.ok.hd Z) r st.i y (by simp;exact Oo) λN ζ=>Y5 (Ydn (λc o a A=>?_) u);simp only[bN,List.not_mem_nil,or_false,not_or]at a;exact ζ c o a.2 A
 self:=λ_ _ _ _ _ st h=>by
  obtain⟨g,r⟩:=st.e;exact wpAny_pyIter_enum r h
def aGm(b:Bool)(n:Int)(ta:TA):TI:=Yb3 σ H (λvs H1=>∃l xs,vs=[Y11]/\H1 l=Y4i b/\R (Ite b l n) H1)
def UD:YcZ "enumerate"=YdG "enumerate":=Kk
section
variable{X:Cx}
def WZ{pins:Ad}{σ:St}{tg:Expr}{elts:Y0j}{x1}{tp:Pos}{b:Bool}{l:Addr}{n:Int}{H1:Hp}{s1:Shared}{R:Y1I It}{h':Heap}(I1:Y27 H1 s1)(Z:EAt b (YdS 1) s1.heap.objs.size l n 0 h')(kk:∀c o,s1.heap.get? c=Ya->Y4E c)(q:R (Ite b l n) H1) :
  Y93 (pyIter (.ref (YdS 1))) (PIE X pins σ (Y8A x1 tp) R) ({ s1 with heap:=h' }):=by
 obtain⟨g,i⟩:=Z.e;refine wpAny_pyIter_enum i ⟨_,[YdS 1,s1.heap.objs.size],_,_,H1,rfl,I1.kept (t':=s1.toks) kk,RW (Y5T (show(s1.heap.objs.size+1:Nat)=s1.heap.objs.size from h)),Z,λc d=>?_,q⟩;have a:s1.heap.objs.size<=c:=by
  simp only[bN,List.not_mem_nil,or_false]at d;rcases d with rfl | rfl
  ·exact Y98 _
  ·exact Yp
 exact Yan a a
def FW(b:Bool){a:Expr}{ta:TA}{p pos tp:Pos}{elts:Y0j}{x1}(hg:Gl X "enumerate")(hm:X.mg "enumerate" = none)(ha:LF X [a] ta)(hs:Y38 a=[(false,Y0a a)]:=by first | exact pT | exact pU | exact iJ | rfl) :
  NY X (Y8A x1 tp) (Y7K "enumerate" p [a] []) (aGm b 0 ta):=⟨by
 intro c s σ H R I h;refine Call_ (vV I hg hm UD (Yah (ha.p pos c s σ H _ I h) (λn z ⟨r,H1,I1,j,m⟩=>?_) (by rw[hs];rfl) (by rfl)));obtain⟨l,y,e,d,q⟩:=m;subst e;obtain⟨u,rfl,ru⟩:=nM j;cases ru;obtain⟨u1,_,g⟩:=I1.sq d;exact aGv g λw Z i=>WZ (tg:=Y8A x1 tp) I1 Z i q⟩
def JU{b:Bool}{l:Addr}{n:Int}{xs:Al}{g:TG}{tb:TS}{D:qH}{σ:St}{H:Hp}(Pv:Y03 Y1Z)(h0:Y6h 0)(hl:∀i σ H,Y34->H l=Y4i b)
  (hs:∀i x q σ H H',Y0s=Y7->Y34->H q=none->H' q=Yf [.int (n+(i:Nat)),x]->Y1->g (.ref q) σ H' (Y4O ({ D with nx:=Pv (i+1),ct:=Pv (i+1),bk:=D.nx }))) (hd:∀σ H,Ycj->Y3P) :
  ∃W:Nat->Nat->St->Hp->Prop,(Y4H 0 m σ H)/\∀i m σ H,W i m σ H ->
   ((Ite b l n).stop i H/\Y3P)\/((Ite b l n).go i H/\∃N:St->Hp->Prop,Y8K (N σ' H'->∃m',m' < m/\W (i+1) m' σ' H') ((Ite b l n).yld i H x H'->g x σ H' (Y4O ({ D with nx:=N,ct:=N,bk:=D.nx })))):=by
 refine Y9q (m=Y4w i/\Y51 i/\Y34) (Y41 _ Y0x h0);rintro i m σ H ⟨rfl,r,p⟩;have a:=hl i σ H p;by_cases hlt:Y2u i
 ·have j:Y0s=some xs[i]:=aC hlt;refine Y3M ⟨xs,_,a,j⟩ (Pv (i+1)) (λσ' H' d=>Y0h _ Oo hlt d) (λv H' y=>?_);obtain⟨q,x,rfl,c,rfl,h⟩:=y;exact hs i x q σ H _ (h xs a) p c bK (aT.upd c)
 ·have e:Y53 i:=Oo;subst e;exact Y2k ⟨xs,a,Yp⟩ (hd σ H p)
end
end L2
namespace L2
open PySem PySem.Spec PySem.W PyProof.Rows HT
@[irreducible] def GP:Y1B:=λxs H Q=>∃(d:Addr) (kvs:Yv),xs=[.ref d]/\H d=Y1q/\Y6Y 1000/\Y3f (H D=none) (Y0G=Y0c->DL H' kvs ys->Y1->Y1a)
def rlst{H:Hp}{Q:VK}{d:Addr}{kvs:Yv}(h:H d=Y1q)(hz:Y6Y 1000)(q:Y3f (H D=none) (Y0G=Y0c->DL H' kvs ys->Y1->Y1a)):GP [.ref d] H Q:=by
 unfold GP;exact Y7s d kvs h hz q
def KM{X:Cx}(hc:Y1F):Y9T X "list" GP:=by
 unfold GP;intro U s σ H υ ξ Q I r h;obtain⟨d,g,rfl,G,ρ,q⟩:=h;obtain⟨u,rfl,α⟩:=nM r;cases α;obtain⟨z,β,o,N,L,W,ο,R,M,S⟩:=aCL I G;have y:Y0O W.size:=Y3l (show W.size<=1000 by exact Oo);refine kdl_call (QB z L R) (Y8B) N y λτ γ a η μ B C=>?_;obtain⟨δ,O⟩:=C;have D:∃c:Al,eE c a.toList/\DL H g c:=by
  have P:∀(n:Nat) (l:Ag),l.length=n->∀(m:Yv),m.length=n->(∀(i:Nat) v p,l[i]?=Ys->m[i]?=some p->∃b,v=Y0p/\H b=Yf (p.1.map kV))->∃c:Al,eE c l/\DL H m c:=by
   intro n
   induction n with
   | zero =>
    intro l J m z _;cases l with
    | nil=>cases m with
     | nil=>exact Y0X [] .nil (λi p h=>by simp at h)
     | cons _ _=>simp at z
    | cons _ _=>simp at J
   | succ n ih =>
    intro l J m z T;cases l with
    | nil=>simp at J
    | cons v l=>cases m with
     | nil=>simp at z
     | cons p m =>
      obtain⟨b,rfl,ε⟩:=T 0 v p rfl rfl;obtain⟨c,D,A,O⟩:=ih l (by simpa using J) m (by simpa using z) λi v p w j=>T (i+1) v p (by simpa using w) (by simpa using j);refine⟨Y0p::c,.cons rfl D,by simp[A],λi q G=>?_⟩;cases i with
      | zero=>cases(show p=q by simpa using G);exact Y00 b ε
      | succ i =>
       obtain⟨κ,w,j⟩:=O i q (by simpa using G);exact⟨κ,by simpa using w,j⟩
  refine P g.length a.toList (by rw[Array.length_toList,δ,M]) g rfl λi v p w j=>?_;obtain⟨ι,e⟩:=O i v (by rw[<-Array.getElem?_toList];exact w);obtain⟨b,ν,θ⟩:=S i ι p j;exact⟨b,by rw[e,ν],θ⟩
 obtain⟨c,D,A⟩:=D;have Y:=Ydo;have Z:aT H (Y2M c):=aT.upd Y;refine Y1h Y0I (Y2M c) (I.laid (t':=γ) μ (Yp) ⟨by have:=A.1;exact Oo,a.toList,η,D,by rw[Array.toArray_toList];exact B⟩) (q _ c _ Y bK ⟨A.1,λi p ζ=>?_⟩ Z);obtain⟨b,w,j⟩:=A.2 i p ζ;exact⟨b,w,Z _ _ j⟩
end L2
namespace L2
open PySem PySem.Spec PyProof.Rows
@[irreducible] def PN:V->Y1B:=λx vs H Q=>∃(l:Addr) (ns:Af) (m:Int) (j:Nat),x=Y11/\vs=[Y5f]/\H l=Y8E/\ns[j]?=some m/\(∀i,i<j->ns[i]? ≠ some m)/\Y66 1000/\Y1M (j:Int)
def aIz{H:Hp}{l:Addr}{ns:Af}{m:Int}{j:Nat}{Q:VK}(h:H l=Y8E)(h1:ns[j]?=some m)(h2:∀i,i<j->ns[i]? ≠ some m)(hz:Y66 1000)(q:Y1M (j:Int)):PN (Y11) [Y5f] H Q:=by
 unfold PN;exact⟨l,ns,m,j,rfl,rfl,h,h1,h2,hz,q⟩
theorem rX:∀{ns:Af}{us:Ag}{m:Nat},eE (ns.map V.int) us->(hm:m<us.length)->∃s t,ns[m]?=some s/\us[m]=.int s t
 | s::ns,u::us,0,h,_=>by
  cases h with
  | cons r _=>obtain⟨t,e⟩:=(show ∃t,u=Value.int s t from r);exact⟨s,t,rfl,e⟩
 | s::ns,u::us,m+1,h,hm=>by
  cases h with
  | cons _ hr =>
   obtain⟨d,t,a,c⟩:=rX hr (m:=m) (by simpa using hm);exact⟨d,t,a,c⟩
 | [],us,m,h,hm=>by cases h;simp at hm
def QL(a b:Int):eqV (.int a) (.int b)=Y10 a b:=by
 show(a == b)=_;by_cases h:a=b
 ·subst h;simp
 ·simp[h]
theorem CL:∀ns:Af,(ns.map V.int).all zJ=true
 | []=>rfl
 | s::ns=>by show(zJ (V.int s)&&(ns.map V.int).all zJ)=true;rw[CL ns];rfl
def YS{ns:Af}{m:Int}(h:m∈ns):∃j:Nat,ns[j]?=some m/\∀i,i<j->ns[i]? ≠ some m:=by
 induction ns with
 | nil=>cases h
 | cons a ns ih =>
  by_cases e:a=m
  ·exact⟨0,by rw[e];rfl,λi g=>Oo⟩
  ·obtain⟨j,d,c⟩:=ih ((bN.mp h).resolve_left λz=>Y7V);refine⟨j+1,d,λi g=>?_⟩;cases i with
   | zero=>intro z;exact e (by simpa using z)
   | succ i=>exact c i Oo
section
variable{X:Cx}
def aBy:MtR X "list.index" PN:=by
 unfold PN;intro C s σ H x W v T Q I M rv h;obtain⟨l,J,m,j,rfl,rfl,R,G,P,U,q⟩:=h;cases M;obtain⟨u,rfl,ru⟩:=nM rv;obtain⟨t,rfl⟩:=(show ∃t,u=Value.int m t from ru);obtain⟨z,a,n,r,L,e⟩:=I.lstM R;have N:j<J.length:=(aB.mp G).1;have c:j<a.toArray.size:=by rw[bF,<-L,aA];exact N
 have p:eqU (Y5f) a.toArray[j]=true:=by
  obtain⟨D,S,d,B⟩:=rX r (m:=j) (by simpa using c);rw[G]at d;cases d;rw[show a.toArray[j]=a[j]'(by simpa using c)from rfl,B];show eqV (Y5f) (Y5f)=true;rw[QL];simp
 have A:∀i (w:i<a.toArray.size),i<j->Yx (eqU (Y5f) a.toArray[i]):=λi w g=>by
  obtain⟨D,S,d,B⟩:=rX r (m:=i) (by simpa using w);rw[show a.toArray[i]=a[i]'(by simpa using w)from rfl,B];show Yx (eqV (.int D) (Y5f));rw[QL];exact bT λz=>P i g (by rw[d,z])
 exact call_meets F.slot_list_index (Y0R e) F.entry_list_index (F.args_list_index_2 _ _) (SeqAt.list_indexAt l a.toArray n none #[] (Y4g m) (eqU (Y5f)) j c Oo p A) ⟨e,λy O=>JH (x:=Y5f) ⟨t,rfl⟩ rfl r (CL J) y (by simpa using O),⟨.int _,H,Y1W,Y3w,q⟩⟩
end
end L2
namespace Mf
end Mf
abbrev a00:Y0e:=["one","other"]
abbrev a01:Y0e:=["_law_one","_law_other"]
abbrev a02:Y0e:=["_law_feed_here","_law_many"]
abbrev a03:Y0e:=["a","ab","b","abc","faced","ways","z","bb"]
abbrev a04:Y0e:=["_law_n","_law_d"]
abbrev a05:Y0e:=["number","above_nought"]
abbrev a06:Y0e:=["_law_feed_here"]
abbrev a07:Y0e:=["trial","way","counts"]
abbrev a08:Y0e:=["faces","table"]
abbrev a09:Y0e:=["trial","aim","prices","counts","worth_of"]
abbrev a12:Y0e:=["weighing","best_at"]
abbrev a13:Y0e:=["trial","rule","way"]
abbrev a14:Y0e:=["_law_feed_here","_law_faces","_law_ways"]
abbrev a15:Y0e:=["_law_feed_here","_law_ways","_law_most"]
abbrev a16:Y0e:=["self","ends","own"]
abbrev a17:Y0e:=["self","column","thing"]
abbrev a18:Y0e:=["rows","steps","place","out"]
abbrev a19:Y0e:=["trial","rule","way","costs"]
abbrev a20:Y0e:=["trial"]
abbrev a21:Y0e:=["self","trial","aim"]
abbrev a23:Y0e:=["master"]
abbrev a24:Y0e:=["weighing","factors","cost_factor"]
abbrev a25:Y0e:=["_law_script"]
abbrev a26:Y0e:=["weighing","master","cost_unit"]
abbrev a27:Y0e:=["some"]
abbrev a28:Y0e:=["faces","many"]
abbrev a29:Y0e:=["rows","steps","out","parts"]
abbrev a30:Y0e:=["trial","aim"]
abbrev a31:Y0e:=["faces","weighing","master"]
abbrev a32:Y0e:=["some","others"]
abbrev a33:Y0e:=["weighing","counts"]
abbrev a34:Y0e:=["counts"]
abbrev a35:Y0e:=["many","place"]
abbrev a39:Y0e:=["self","costs"]
abbrev a40:Y0e:=["trial","aim","prices"]
abbrev a41:Y0e:=["rising","some","unit"]
abbrev a42:Y0e:=["trial","aim","counts"]
abbrev a43:Y0e:=["rule"]
abbrev a44:Y0e:=["one","unit"]
abbrev a45:Y0e:=["one","other","share"]
abbrev a46:Y0e:=["counts","face"]
abbrev a47:Y0e:=["trial","rule","aim"]
abbrev a48:Y0e:=["faces","most"]
namespace Kw
open PySem L2 Mf
def top(i:Nat):Stmt:=PySem.Challenge.pw_earlystop_k57_whole_costs_and_looks_more.main.body.getD i (.Pass ⟨0,0,0,0⟩)
structure Cl where
 ONE:Addr
 NOUGHT:Addr
 Weighing:Addr
 Master:Addr
 tok_LOOKS_ON:Tok
 tok_ROOM:Tok
 tok_LACK:Tok
 tok_RULE:Tok
 tok_NONE:Tok
structure jG(K:Aa)(mg:Y0H)(c:Cl):Prop where
 b_list:mg "list" = none
 b_len:mg "len" = none
 b_abs:mg "abs" = none
 b_range:mg "range" = none
 b_sum:mg "sum" = none
 b_zip:mg "zip" = none
 b_reversed:mg "reversed" = none
 b_tuple:mg "tuple" = none
 b_sorted:mg "sorted" = none
 b_int:mg "int" = none
 b_min:mg "min" = none
 b_enumerate:mg "enumerate" = none
 b_any:mg "any" = none
 g_ONE:mg "ONE" = Y3 c.ONE
 g_NOUGHT:mg "NOUGHT" = Y3 c.NOUGHT
 g_LOOKS_ON:mg "LOOKS_ON" = some (.int 0 c.tok_LOOKS_ON)
 g_ROOM:mg "ROOM" = Y8r "room" c.tok_ROOM
 g_LACK:mg "LACK" = Y8r "lack" c.tok_LACK
 g_RULE:mg "RULE" = Y8r "rule" c.tok_RULE
 g_NONE:mg "NONE" = Y8r "none" c.tok_NONE
 g_Master:mg "Master" = Y3 c.Master
 w_Master:Own K c.Master ["rows","parts","standing"]
 g_Weighing:mg "Weighing" = Y3 c.Weighing
 w_Weighing:Own K c.Weighing ["rising","units","weights","cost_unit","costs"]
 o_ONE:vX K c.ONE [1,1]=true
 o_NOUGHT:vX K c.NOUGHT [0,1]=true
abbrev sQ8:Stmt:=(top 83)
def cQ8:Yd a25 a25 sQ8:={}
abbrev sQ7:Stmt:=(top 84)
def cQ7:Yd ["_law_feed_here","_law_many","_law_found","_law_at","_law_cells","_law_cell","_law_number"] a02 sQ7:={}
abbrev sQ9:Stmt:=(top 85)
def cQ9:Yd ["_law_n","_law_d","_law_one","_law_other"] a04 sQ9:={}
abbrev aD5:Stmt:=(top 90)
def KR:Yd ["_law_feed_here","_law_many","_law_whole","_law_found","_law_left","_law_k","_law_part","_law_at"] a02 aD5:={}
def zI{b:Bool}{A B:Prop}(h:b=true)(k:A):if b=true then A else B:=by rw[h,Yt];exact k
def sX{b:Bool}{A B:Prop}(h:Yx b)(k:B):if b=true then A else B:=by rw[h,Y2T];exact k
def VW{K:Aa}{H H':Hp}{a:Addr}{xs:Al}(s:Y1)(h:gH K H a xs):gH K H' a xs:=by
 rcases h with(h | ⟨o,h⟩) | h
 ·exact Yb2 (s _ _ h)
 ·exact .inl (Y2W o (s _ _ h))
 ·exact .inr h
theorem bI.take{H:Hp}:∀{ds:Y1p}{vs:Al}(n:Nat),Y6J->Y1f (ds.take n) (vs.take n)
 | [],_,n,h=>by cases(show _=[]from h);rw[List.take_nil,List.take_nil];exact bI.nil
 | d::ds,_,0,h=>bI.nil
 | d::ds,_,n+1,h=>by
  unfold bI at h;obtain⟨x,xs,rfl,h1,h2⟩:=h;exact bI.cons h1 (bI.take n h2)
theorem bI.drop{H:Hp}:∀{ds:Y1p}{vs:Al}(n:Nat),Y6J->Y1f (ds.drop n) (vs.drop n)
 | [],_,n,h=>by cases(show _=[]from h);rw[List.drop_nil,List.drop_nil];exact bI.nil
 | d::ds,_,0,h=>h
 | d::ds,_,n+1,h=>by
  unfold bI at h;obtain⟨x,xs,rfl,h1,h2⟩:=h;exact bI.drop n h2
def DO(n:Nat)(d:PyData):Prop:=PyData.canLay0 d=true/\PyData.depth d<=n
theorem DO.all{n:Nat}:∀{ds:Y1p},(∀d∈ds,DO n d)->PyData.canLayAll0 ds=true/\YdC<=n
 | [],_=>⟨rfl,cK _⟩
 | d::ds,h=>by
  obtain⟨h1,h2⟩:=h d (bC ..);obtain⟨c,g⟩:=DO.all λe a=>h e (bG _ a);refine⟨?_,?_⟩
  ·show(PyData.canLay0 d&&PyData.canLayAll0 ds)=true;rw[h1,c];rfl
  ·show max (PyData.depth d) (PyData.depthAll ds)<=n;exact Oo
def DO.tup{n:Nat}{ds:Y1p}(h:∀d∈ds,DO n d):DO (n+1) (.tuple ds):=⟨(DO.all h).1,by have:=(DO.all h).2;show YdC+1<=n+1;exact Oo⟩
def DO.lst{n:Nat}{ds:Y1p}(h:∀d∈ds,DO n d):DO (n+1) (.list ds):=⟨(DO.all h).1,by have:=(DO.all h).2;show YdC+1<=n+1;exact Oo⟩
theorem DO.int(i:Int):DO 1 (Y1w):=Y5 (by simp[PyData.depth])
def DO.ok{n:Nat}{d:PyData}(h:DO n d)(hn:n<=64:=by decide):Y5H d:=by
 unfold SeqAt.shaped;rw[h.1,Bool.true_and];exact cO (by have:=h.2;exact Oo)
def aFi{z:Int}(h:(10:Int)^Int.toNat 18<=z):0<=z:=Int.le_trans Dd h
abbrev fdD(L:Addr)(t l:Int):Y2F:=[(.inr "cells",.ref L),(.inr "at",.int t),(.inr "left",.int l)]
structure gC(H:Hp)(p L:Addr)(n:Nat):Prop where
 ex:∃(ns:Af) (t l:Int),H p=Y5v (fdD L t l)/\H L=Y8E/\Y66 63/\0<=l/\0<=t/\t+n<=1000000000000
def gC.there{H:Hp}{p L:Addr}{n:Nat}(F:gC H p L n):∃o,H p=Ya:=by obtain⟨a,t,l,h,_⟩:=F.ex;exact Y2S h
def gC.ne{H:Hp}{p L q:Addr}{n:Nat}(F:gC H p L n)(hq:H q=none):q≠p:=λe=>by
 subst e;obtain⟨o,h⟩:=F.there;rw[h]at hq;cases hq
def gC.neL{H:Hp}{p L q:Addr}{n:Nat}(F:gC H p L n)(hq:H q=none):q≠L:=λe=>by
 subst e;obtain⟨c,t,l,h,a,_⟩:=F.ex;rw[a]at hq;cases hq
def gC.same{H H':Hp}{p L:Addr}{n:Nat}(F:gC H p L n)(s:Y1):gC H' p L n:=by
 obtain⟨e,t,l,c,a,d⟩:=F.ex;exact⟨e,t,l,s _ _ c,s _ _ a,d⟩
def gC.but{H H':Hp}{p L D:Addr}{n:Nat}(F:gC H p L n)(s:Y65 D)(n1:D≠p)(n2:D≠L):gC H' p L n:=by
 obtain⟨e,t,l,c,a,d⟩:=F.ex;exact⟨e,t,l,s.at (Ne.symm n1) c,s.at (Ne.symm n2) a,d⟩
def gC.less{H:Hp}{p L:Addr}{n m:Nat}(F:gC H p L n)(h:m<=n):gC H p L m:=by
 obtain⟨i,t,l,e,g,a,c,d,r⟩:=F.ex;exact⟨i,t,l,e,g,a,c,d,Oo⟩
theorem gC.t{H H':Hp}{p L:Addr}{n:Nat}(F:gC H p L n)(s:Y1e):Y2o:=by
 obtain⟨a,t,l,h,_⟩:=F.ex;exact s.tD h
def gC.like{p L:Addr}(f:Y03 Nat):HX p L (λi H=>gC H p L (f i)) :=
 ⟨λ_ D H1 H2 c a s F=>F.but s c a,λ_ H1 H2 s F=>F.same s,λ_ H' F=>by obtain⟨d,t,l,h,_⟩:=F.ex;exact Y2S h,λ_ H' D F h=>⟨F.ne h,F.neL h⟩⟩
inductive AE (K:Aa):Yq
 | i {H:Hp} {Q:VK} {E:XK} {a:Addr} {ns:Af} (h:Y5J K H a) (hl:Y66 63) (k:∀p L H',gC H' p L 1000000000000->Y1->H p=none->H L=none->Y0u p):AE K Y22 H Q E
inductive fQ:Yq
 | i {H:Hp} {Q:VK} {E:XK} {p L:Addr} {n:Nat} {m:Int} (F:gC H p L (n+1)) (h:0<m) (hb:bits m<=64) (k:∀x H',0<=x->x<m->gC H' p L n->Y1e->Q (.int x) H'):fQ [Y0Z,Y5f] H Q E
def bitsle{i:Int}{n:Nat}(h:i.natAbs<2^n):bits i<=n:=PySem.intBits_le_iff.mpr h
@[irreducible] def yA(K:Aa):Sp:=λvs H Q _=>∃(a:Addr) (ns:Af),vs=Y22/\Y5J K H a/\Y66 63/\∀H',Q (.bl true) H'
def VX{K:Aa}{H:Hp}{a:Addr}{ns:Af}(h:Y5J K H a)(hl:Y66 63):yA K Y22 H (λv _=>v=Yaa) (Y7t):=by
 unfold yA;exact Y7s a ns h hl (λ_=>rfl)
theorem FT{H:Hp}:∀ns:Af,Y1f YbN Y5o
 | []=>bI.nil
 | n::ns=>bI.cons (dI.int n) (FT ns)
def YH{ns:Af}:PyData.eqv (.list (YbN)) (.list [])=Y10 ns []:=by
 cases ns <;> simp[PyData.eqv,PyData.eqvAll]
def IV(ns:Af):Y5H (.list (YbN)):=(DO.lst (n:=1) λd hd=>by
 obtain⟨i,_,rfl⟩:=aN.mp hd;exact DO.int i).ok
section
def oQ8(F:Yb "_law_feed" "_law_feed" sQ8)(T:Ye):dO P w K mg base cV 1 f fd a25 (AE K):=by
 refine F.oky cQ8 λN H Q E h=>?_;obtain @⟨H,Q,E,a,d,J,D,k⟩:=h;refine Y5 (λL A l s M=>?_);refine Y6c _ (aAF (AY jD (jW sT (by rfl) T.b_list Kk (Y18 (oR OX (Yz) rW (rV aL)))) (AY jD aL (AY jD aL aAB))));intro p m;have s0:=aT.upd (o:=.dK []) m;have j:(upd H p (.dK [])) p=Y5v []:=bK;generalize upd H p (.dK [])=H0 at s0 j;refine⟨_,rfl,_,rfl,a,_,rfl,VW s0 J,λn B=>?_⟩;refine Y0h n _ (.inl (gH.of bK)) (λg y=>?_);have C:nB (Y8u) none (some 63)=Y8u:=by
  unfold nB;have:HT.kU (Y8u).length (Y8u).length (some 63)=(Y8u).length:=by
   rw[show((63:Int))=((63:Nat):Int)from rfl,HT.GK,aA];exact Oo
  rw[this,HT.xA,List.drop_zero,Nat.sub_zero];exact List.take_of_length_le (Yp)
 have r:=(aT.upd (o:=.lst (nB (d.map V.int) none (some 63))) B).trans (aT.upd (o:=.lst (nB (Y8u) none (some 63))) y);have u:(upd (upd H0 n (.lst (nB (d.map V.int) none (some 63)))) g (.lst (nB (d.map V.int) none (some 63)))) g=Yl Y8u:=by rw[bK,C]
 have i:H0 g=none:=(aT.upd B).free y;generalize upd (upd H0 n (.lst (nB (d.map V.int) none (some 63)))) g (.lst (nB (d.map V.int) none (some 63)))=H2 at r u;have G:g≠p:=λz=>by rw[z,j]at i;cases i
 refine Y0h (r _ _ j) (fdD g 0 0) (by show 3<=15;decide) (k p g _ ⟨d,0,0,?_,?_,D,Dd,Dd,Dd⟩ ?_ m (s0.free i))
 ·rw[bK];rfl
 ·rw[L2.eO G];exact u
 ·intro b o h;have I:b≠p:=λe=>by subst e;rw[m]at h;cases h
  rw[L2.eO I];exact r _ _ (s0 _ _ h)
def oQ7(F:Yb "_law_draw" "_law_draw" sQ7)(T:Ye):dO P w K mg base cV 1 f fd a02 fQ:=by
 refine F.oky cQ7 λω H Q E h=>?_;obtain @⟨H,Q,E,p,L,n,m,F,B,δ,k⟩:=h;refine Y5 (λξ A U s g=>?_);obtain⟨a,t,l,u,I,R,ζ,υ,τ⟩:=F.ex;refine⟨_,(aH (iS (eN ET (gS g.u1 (Yz) jD) aL) (aH (Y1D cQ7.nd (cD pC (gS g.u1 (Yz) jD) (Y0f)))
  (aH (jC g.u1 (Yz) jD (cD gE (gS g.u1 (Yz) jD) (Y0f)))
  (Y2z 2))) fK)
  (aH (Y1t cQ7.nd (gS g.u1 (Yz) jD))
  (aH (jC g.u1 (Yz) jD (Y3K fT 3))
  (aH (Y4u cQ7.nd (gS g.u1 (Yz) jD))
  (aH (LM (cP (i:=5) cQ7.nd (oS (Y1r (XJ g.units) 4 (iQ aQ)) (Y4m 4 (Y1R pC 3 (Y8J oA (by rfl) Kk 4))) (Y2X dN 3 3))))
  (aH (iS (OF (IC (AX (Y1r XM 5 (cD aEC aL aL)) (wH (Y1r xD 3 (Y8J oA (by rfl) Kk 4)))))) (aH (jC g.u1 (Yz) jD (Y2X gE 5 1))
  (Y1c (Y2X pC 5 1))) fK)
  (aH (cP (i:=6) cQ7.nd (cD pC (cD dN (cD fT (Y3K pC 5) aL) (Y8P (cD dN aL (Y0r)))) aL))
  (Y1c (cD pC (cD gE (cD pC (cD fT (Y3K dN 6) (cD dN (Y2X dN 3 3) aL)) aL) aL) (Y0f)))))))))),?_⟩
 refine Yr;intro J N;refine Y6 (dgS u rfl ?_);refine Y5i _ _ _ (CK (λθ=>?_) (λθ=>?_))
 ·refine Y6 (dgS u rfl ?_);refine Y0F _ rfl _ _ rfl B (Y6 (dgS u rfl ?_));refine Y0F _ rfl _ _ rfl ⟨B,Y3l δ⟩ Y9;refine dpS (kvs2:=fdD L t (l/m)) u (by show 3<=64;decide) rfl λH2 Z y=>?_;have O:L≠p:=λz=>by rw[z,u]at I;cases I
  exact Y6 (k _ H2 (YbW Oo) (Ydw B) ⟨a,t,l/m,Z,y.at O I,R,Int.ediv_nonneg ζ Oo,Oo,Oo⟩ y)
 ·have O:L≠p:=λz=>by rw[z,u]at I;cases I
  refine Y6 (dgS u rfl ?_);refine Yw;intro J N;refine⟨_,rfl,_,_,rfl,rfl,_,rfl,?_⟩;refine dpS (kvs2:=fdD L (t+1) l) u (by show 3<=64;decide) rfl λH1 G α=>Y4z;intro J N;have e:=α.at O I;refine Y6 (dgS G rfl ?_);refine Yw;intro J N;have ε:bits t<=64:=PySem.intBits_le_64 Oo Oo;have X:bits (7919:Int)<=64:=Kk;have F2:∀{H3:Hp},aT H1 H3->gC H3 p L n:=λC=>⟨a,t+1,l,C _ _ G,C _ _ e,R,ζ,Oo,Oo⟩;refine Y0b (λσ H3=>∃r:Int,σ=[Y3 p,Yg m,none,Yg t,Y3 L,Yg r,none]/\aT H1 H3) ?_
  ·rintro σ H3 ⟨r,rfl,C⟩;refine Y4z;intro J N;have S:=C _ _ G;have M:=C _ _ e;refine Y0b (λb H4=>H4=H3/\(b=true->0<=r)) ?_
   ·refine⟨_,rfl,_,_,rfl,rfl,⟨Dd,Dd,Dd⟩,_,_,rfl,rfl,_,rfl,CK (λβ=>?_) (λβ=>?_)⟩
    ·refine Y05 (rlL M ?_);exact⟨_,_,rfl,rfl,_,rfl,rfl,λ_=>aFi β⟩
    ·exact Y5 (λh=>by cases h)
   ·rintro b H4 ⟨rfl,D⟩;cases b with
    | true =>
     have D:=D rfl;refine oI (Yr);intro J N;refine⟨_,rfl,_,rfl,_,_,rfl,rfl,⟨B,Y3l δ⟩,Y9⟩;refine dpS (kvs2:=fdD L (t+1) (r/m)) S (by show 3<=64;decide) rfl λH5 W γ=>⟨_,rfl,_,rfl,_,_,rfl,rfl,B,?_⟩;exact k _ H5 (YbW Oo) (Ydw B) ⟨a,t+1,r/m,W,γ.at O M,R,Int.ediv_nonneg D Oo,Oo,Oo⟩ ((α.trans C.but).trans γ)
    | false =>
     refine nY ?_;have ρ:=Int.emod_nonneg r (b:=2147483629) Dd;have ψ:=Int.emod_lt_of_pos r (b:=2147483629) Dd;refine⟨_,rfl,_,_,rfl,rfl,(by show(0:Int)<2147483629;decide),_,_,rfl,rfl,_,rfl,_,_,rfl,rfl,IntMulOk.of_left X,_,_,rfl,rfl,_,_,rfl,rfl,IntMulOk.of_left (PySem.intBits_le_64 Oo Oo),_,_,rfl,rfl,(by show(0:Int)<2147483647;decide),?_⟩;generalize (r % 2147483629+1)*(48271+7919*t) % 2147483647=z;exact⟨_,rfl,_,_,rfl,rfl,IntMulOk.of_right Kk,_,rfl,_,rfl,_,_,rfl,rfl,IntMulOk.of_left ε,_,_,rfl,rfl,IntMulOk.of_right Kk,_,_,rfl,rfl,_,_,rfl,rfl,(by show(0:Int)<2147483399;decide),_,_,rfl,rfl,Y8U Kk,_,rfl,_,_,rfl,rfl,B,k _ H4 (YbW Oo) (Ydw B) (F2 C) (α.trans C.but)⟩
  ·refine Y9;refine DT (by show 0<=64;decide) λφ H2 ι ν y=>reD (d:=.list (a.map PyData.int)) (d':=.list []) (dI.lst (y _ _ e) (FT a)) (dI.lst ν bI.nil) (IV a) rfl ?_;rw[YH];refine Y9;by_cases ens:a=[]
   ·exact sX (by rw[cO ens];rfl) ⟨_,rfl,_,rfl,_,_,rfl,rfl,IntMulOk.of_left ε,Y6 y⟩
   ·refine zI (by rw[bT ens];rfl) ?_;have χ:0<a.length:=List.length_pos_iff.mpr ens;refine Y2E (rlL (y _ _ e) ?_);rw[aA];refine Y7s _ _ rfl Oo ?_;have κ:=Ydh t (a.length:Int);have ο:=Int.emod_lt_of_pos t (b:=(a.length:Int)) Oo;have η:∃z,a[(t % (a.length:Int)).toNat]?=some z:=Y2c Oo;obtain⟨z,μ⟩:=η;have Y:DX (a.map V.int) (t % (a.length:Int))=Yg z:=by
     have:=dW (xs:=a.map V.int) (j:=(t % (a.length:Int)).toNat) (v:=V.int z) (by rw[aG,μ];rfl)
     rwa [Int.toNat_of_nonneg κ]at this
    exact xS (y _ _ e) Y (Y6 y)
end
abbrev iY(f:Fr):PyData:=.tuple [.int f.1,.int f.2]
def aE2{H:Hp}{f:Fr}{v:V}(h:Y4o H f v):∃a,v=Yi/\H a=Yf [.int f.1,.int f.2]:=by
 unfold dI bI bI bI at h;obtain⟨a,_,rfl,d,x,_,rfl,c,y,_,rfl,e,rfl⟩:=h;cases(show x=V.int f.1 from c);cases(show y=V.int f.2 from e);exact Y00 a d
def fG{H:Hp}{f:Fr}{a:Addr}(h:H a=Yf [.int f.1,.int f.2]):Y4o H f Yi:=YaA h Y8O (Y6P Y8O)
def dS(f:Fr):kF (iY f)=true:=rfl
def iZ(K:Aa)(H:Hp)(f:Fr)(x:V):Prop:=∃a,x=Yi/\jA K H a [.int f.1,.int f.2]
theorem iZ.of{K:Aa}{H:Hp}{f:Fr}{x:V}(h:Y4o H f x):iZ K H f x:=by
 obtain⟨a,e,h⟩:=aE2 h;exact Y2P e (jA.of h)
def iZ.new{K:Aa}{H:Hp}{f:Fr}{a:Addr}(h:H a=Yf [.int f.1,.int f.2]):iZ K H f (Yi):=Y00 a (jA.of h)
def iZ.same{K:Aa}{H H':Hp}{f:Fr}{x:V}(s:Y1)(h:iZ K H f x):iZ K H' f x:=by
 obtain⟨a,e,h⟩:=h;exact Y2P e (h.keep s)
def iZ.k{K:Aa}{H:Hp}{f:Fr}{x:V}(h:iZ K H f x):uA K H (iY f) x:=by
 obtain⟨a,rfl,h⟩:=h;exact uA.tup h (oF.ints [f.1,f.2])
def tE(k:Nat)(f:Fr):Prop:=f.1.natAbs<2^k/\f.2.natAbs<2^k
inductive sU:Yq
 | i {H:Hp} {Q:VK} {E:XK} {n d:Int} (h:0<d) (q:Y1M (Y8L n)):sU [Y5e,.int d] H Q E
def zW(H:Hp)(Q:VK)(f:Fr):Prop:=∀q H',H q=none->H' q=Yf [.int f.1,.int f.2]->Y1->Y0u q
inductive kJ (K:Aa):Yq
 | i {H:Hp} {Q:VK} {E:XK} {x y:V} {f g:Fr} (h1:iZ K H f x) (h2:iZ K H g y) (l1:Y0l) (l2:eK g) (z1:Y3O) (z2:Y40 g) (q:zW H Q (pJ f g)):kJ K [x,y] H Q E
inductive oH (K:Aa):Yq
 | i {H:Hp} {Q:VK} {E:XK} {x y:V} {f g:Fr} (h1:iZ K H f x) (h2:iZ K H g y) (z1:Y3O) (z2:Y40 g) (q:Y2N (Y1E (f.1*g.2) (g.1*f.2))):oH K [x,y] H Q E
def aEY{n d:Int}(h:0<d):(Int.gcd n d:Int)<=d:=Int.le_of_dvd h (YbB n)
def yN{n d:Int}{k:Nat}(h:0<d)(z:d.natAbs<2^k):(Int.gcd n d:Int).natAbs<2^k:=by
 have:=aEY (n:=n) h;have:=Ybj h;exact Oo
def pZ{n d:Int}(h:0<d)(z:d.natAbs<2^9000):aAk n d:=⟨h,NQ z⟩
def lU{i:Int}{n m:Nat}(h:i.natAbs<2^n)(k:n<=m:=by decide):i.natAbs<2^m:=Y5y h k
def rZ{i j:Int}{n:Nat}(h:i.natAbs<2^n)(hj:0<j):(i/j).natAbs<2^n:=aK (by
 have:=Int.natAbs_ediv_le_natAbs i j;exact this) h
def GE{i j:Int}{n m:Nat}(h1:i.natAbs<2^n)(h2:j.natAbs<2^m):(i*j).natAbs<2^(n+m):=by
 rw[dD,Nat.pow_add];exact Nat.mul_lt_mul'' h1 h2
abbrev DN(fs:Ak):PyData:=.tuple (fs.map iY)
theorem kD:∀fs:Ak,kE (fs.map iY)=true
 | []=>rfl
 | f::fs=>by show(kF (iY f)&&kE (fs.map iY))=true;rw[kD fs];rfl
def iI(fs:Ak):kF (DN fs)=true:=kD fs
inductive iE:Yq
 | i {H:Hp} {Q:VK} {E:XK} {n d:Int} (h:0<d) (z:d.natAbs<2^9000) (q:zW H Q (lw n d)):iE [Y5e,.int d] H Q E
section
def oQ9(F:Yb "_law_frac" "_law_frac" sQ9)(T:Ye):dO P w K mg base cV 1 f fd a04 iE:=by
 refine F.oky cQ9 λS H Q E h=>?_;obtain @⟨H,Q,E,n,d,hd,C,q⟩:=h;refine Y5 (λM A r s O=>?_);refine⟨_,(aH (Y1D cQ9.nd (Y68 ZK (by rfl) T.b_abs Kk 0))
  (aH (Y1t cQ9.nd Y0f)
  (aH (wI PassesOwn.never (Y1r ET 3 aL) (aS (aCW (i:=2) (j:=3) rfl cQ9.nd rfl rfl Dd rfl rfl (Y1S 3 (Y2X pC 2 3)) rfl)))
  (Y1c (Y3B (Y2X gE 0 2) (Y2X gE 1 2)))))),?_⟩
 refine Yr;intro y B;refine Y6 (raI ?_);refine Yw;intro y B;refine Y6 Yw;intro y B;refine zZ (λm σ H'=>Ex2 λ(u v:Int)=>An6 (σ=[Yg n,Yg d,Yg u,Yg v]) (0<=v) ((Int.gcd u v)=(Y8L n)) ((v=0->0<u)) (H'=H) (m=v.toNat))
  (λσ H'=>σ=[Yg n,Yg d,Yg (Y8L n),Yg 0]/\H'=H)
  _ ⟨(n.natAbs:Int),d,rfl,Oo,by rw[Int.gcd_eq_natAbs_gcd_natAbs,Int.gcd_eq_natAbs_gcd_natAbs,Int.natAbs_natCast],Oo,rfl,rfl⟩ ?_ ?_
 ·rintro m σ H2 ⟨u,v,rfl,R,a,J,rfl,rfl⟩;refine⟨_,rfl,_,_,rfl,rfl,_,rfl,CK (Y54) (Y54)⟩
  ·refine⟨_,rfl,_,rfl,_,rfl,_,_,rfl,rfl,e,_,_,rfl,?_⟩;have g:=Int.emod_lt_of_pos u e;have D:=Ydh u v;exact⟨_,Oo,v,u % v,rfl,D,by rw[JS,a],λ_=>e,rfl,rfl⟩
  ·have l:v=0:=Oo;subst l;have L:=J rfl;have g:=QH L;rw[a]at g;rw[g];exact Y6w
 ·rintro σ H2 ⟨rfl,rfl⟩;have a:=Ybj hd;have z:aAk n (Int.gcd n d:Int):=pZ a (yN hd C);refine⟨_,rfl,_,rfl,_,_,rfl,rfl,z,⟨_,rfl,_,rfl,_,_,rfl,rfl,z,?_⟩⟩;exact rG (by show 2<=64;decide) λp H3 I G N=>q p H3 I G N
end
def xT:Nat:=2512440
structure NU(m:Nat)(fs:Ak):Prop where
 ex:∃(ps:Af) (W:Int),ps.length=m/\(∀x∈ps,0<=x/\x<=W)/\ps.sum=W/\0<W/\W<=997/\W.natAbs ∣ xT/\fs=ps.map λx=>lw x W
def NU.len{m:Nat}{fs:Ak}(h:NU m fs):Y6f m:=by
 obtain⟨c,W,a,_,_,_,_,_,rfl⟩:=h.ex;rw[aA,a]
def NU.at{m:Nat}{fs:Ak}(h:NU m fs):∀f∈fs,Y1y xT 1/\0<=f.1:=by
 obtain⟨i,W,j,a,_,g,l,c,rfl⟩:=h.ex;intro f e;obtain⟨x,d,rfl⟩:=aN.mp e;have:=a x d;exact⟨(Fn.of g Oo).dvd c,Ye3 this.1 _⟩
def NU.bits{m:Nat}{fs:Ak}(h:NU m fs):∀f∈fs,f.1.natAbs<=997/\f.2.natAbs<=997:=by
 obtain⟨g,W,j,c,_,a,l,i,rfl⟩:=h.ex;intro f e;obtain⟨x,d,rfl⟩:=aN.mp e;have:=c x d;have q:=XX (n:=x) a;have p:=(kC (n:=x) a).pos;exact Oo
def aAN:∀x:Nat,1<=x->x<=10->x ∣ xT:=by
 intro x a c;have:∀x,x<=10->1<=x->x ∣ xT:=by unfold xT;decide
 exact this x c a
def RZ{W:Int}(h:(1<=W/\W<=10)\/W=997):W.natAbs ∣ xT:=by
 rcases h with h | rfl
 ·exact aAN _ Oo Oo
 ·show 997 ∣ 2512440;decide
inductive oN:Yq
 | i {H:Hp} {Q:VK} {E:XK} {p L:Addr} {n m:Nat} (F:gC H p L (n+12)) (m0:0<m) (m5:m<=5) (k:∀v fs H',gC H' p L n->Y1e->Y3D H' fs v->NU m fs->Y1L):oN [Y0Z,.int (m:Int)] H Q E
def aAW(l:Af)(a:Nat):(l.drop a++l.take a).sum=l.sum:=by
 rw[List.sum_append,Int.add_comm,<-List.sum_append,List.take_append_drop]
section
def aIm(F:Yb "_law_shares" "_law_shares" aD5)(T:Ye)
  (FQ7:Y01 "_law_draw" a02 fQ) (FQ9:Y01 "_law_frac" a04 iE):dO P w K mg base cV 2 f fd a02 oN:=by
 refine F.oky KR λB H Q E h=>?_;obtain @⟨H,Q,E,p,L,n,m,F,m0,m5,k⟩:=h;refine Y5 (λcdv A χ s hr=>?_);refine⟨_,(aH (Y1D KR.nd (bQ bJ (iQ (bB (Y9S 0) (bB (Y9S 0) (Y2s (Y9S 0) aL)))) (Y6q 0)))
  (aH (Y1t KR.nd (iQ aQ))
  (aH (Y4u KR.nd Y02)
  (aH (gK PassesOwn.never rfl (Y71 (Y3K qD 1)) (Yai 5 KR.nd) (aH (Y2j 6 KR.nd FQ7 0 (Y3K fT 4))
  (aH (lP (Y8R vT Y0r (Y2A FQ9 6 2)))
  (aS (Y4u KR.nd (Y2X qD 4 6))))))
  (aH (lP (Y8R vT Y0r (Y2A FQ9 4 2)))
  (aH (Y2j 7 KR.nd FQ7 0 Y0f)
  (Y1c (YcG dQ (by rfl) Kk (Y18 (cD vR (oR (wZ K) (Y0r) (rV (aD 7)) rW) (oR (wZ K) (Y0r) rW (rV (aD 7))))))))))))),?_⟩
 refine Yr;intro U O;refine Y9;refine Y3L (n+11) F (λx1 H1 a1 b1 F1 s1=>Y5i _ _ _ ?_);refine Y3L (n+10) F1 (λx2 H2 a2 b2 F2 s2=>Y5i _ _ _ ?_);refine Y3L (n+9) F2 (λx3 H3 a3 b3 F3 s3=>Y5N _ ?_);refine DT (by show 4<=64;decide) λq4 H4 aa e4 s4=>Y9;refine Y3L (n+8) (F3.same s4) (λα H5 a5 b5 F5 s5=>?_);have ψ:∃W:Int,DX [V.int (1+x1),V.int (2+x2),V.int (2+x3),V.int 997] α=Yg W/\((1<=W/\W<=10)\/W=997):=by
  have:α=0\/α=1\/α=2\/α=3:=Oo;rcases this with rfl | rfl | rfl | rfl
  ·exact Y6 (.inl Oo)
  ·exact Y6 (.inl Oo)
  ·exact Y6 (.inl Oo)
  ·exact Y6 Y77
 obtain⟨W,δ,ψ⟩:=ψ;refine xS (s5.at (F3.ne aa) e4) δ (Yw);intro U O;have W0:0<W/\W<=997:=Oo;have b5:aU p H H5:=((((s1.trans s2).trans s3).trans s4.but).trans s5);clear s1 s2 s3 s4 s5 e4 δ F1 F2 F3;refine DT (by show 0<=64;decide) λD H6 hD e6 s6=>Yw;intro U O;have F6:=F5.same s6;have ξ:=F5.ne hD;have Y:=F5.neL hD;have θ:H D=none:=aU.free b5 F5.there hD;refine⟨_,rfl,_,rfl,_,_,rfl,rfl,((m-1:Nat):Int),by show[V.int ((m:Int)-1)]=_;rw[show((m:Int)-1)=((m-1:Nat):Int)by exact Oo],Oo,Oo,?_⟩;rw[Int.toNat_natCast];have wz:W.natAbs<2^9000:=Y74 (show W.natAbs<2^10 by show W.natAbs<1024;exact Oo);refine oQ (λi σ H'=>Ex6 λ(o5 ο ρ:Am) (u:Af) (B:Al) (left:Int)=>aJl (σ=[Y3 p,Yg (m:Int),Yg W,Y3 D,Yg left,o5,ο,ρ]) (gC H' p L (n+8-i)) (Y1e) (Y0G=Yl B) (bI H' ((u.map λx=>lw x W).map iY) B) (u.length=i) ((∀x∈u,0<=x/\x<=W)) (u.sum+left=W) (0<=left) (left<=W))
  ⟨_,_,_,[],[],W,rfl,F6,b5.trans s6.but,e6,bI.nil,rfl,(λx h=>by cases h),by simp,Oo,Oo⟩ ?_ ?_
 ·rintro i σ H7 hi ⟨o5,ο,ρ,u,B,left,rfl,F7,κ,X,N,R,G,γ,l0,l1⟩;refine Y9W;intro U O;refine Y4Q _ _ _ _ rfl ?_;refine fQ.i (n:=n+8-(i+1)) (F7.less Oo) Oo (bitsle (aK (show(left+1).natAbs<=998 by exact Oo) Dd)) λx8 H8 a8 b8 F8 s8=>Yw;intro U O;have e8:=s8.at ξ X;refine Y0F _ rfl (VD e8) _ _ rfl (iE.i W0.1 wz ?_);intro ν H9 υ μ C;have j:=C _ _ e8;have lv:B.length=i:=by rw[N.len,aA,aA,R]
  refine NR j Oo λH10 J d=>Y4Q _ _ _ _ rfl ?_;have t78:=F7.t s8;have g:=d.t j;refine⟨_,_,_,u++[x8],B++[.ref ν],left-x8,rfl,(F8.same C).but d ξ Y,aU.thru θ ((κ.trans s8).trans C.but) d,J,?_,by rw[aV,R];rfl,?_,?_,Oo,Oo⟩
  ·rw[bD,bD];exact bI.snoc (N.flat ((t78.trans C.t).trans g) (kD _)) (dI.flat g (dS _) (fG μ))
  ·intro x e;rcases dH.mp e with e | e
   ·exact G x e
   ·rw[bV.mp e];exact Oo
  ·rw[List.sum_append,List.sum_singleton];exact Oo
 ·rintro σ H7 ⟨o5,ο,ρ,u,B,left,rfl,F7,κ,X,N,R,G,γ,l0,l1⟩;refine Y4z;intro U O;refine Y0F _ rfl (VD X) _ _ rfl (iE.i W0.1 wz ?_);intro ν H9 υ μ C;have j:=C _ _ X;have lv:B.length=m-1:=by rw[N.len,aA,aA,R]
  refine NR j Oo λH10 J d=>Y4z;intro U O;have g:=d.t j;have F10:=(F7.same C).but d ξ Y;have B10:aU p H H10:=aU.thru θ (κ.trans C.but) d;have I:bI H10 (((u++[left]).map λx=>lw x W).map iY) (B++[.ref ν]):=by
   rw[bD,bD];exact bI.snoc (N.flat (C.t.trans g) (kD _)) (dI.flat g (dS _) (fG μ))
  have z:(u++[left]).length=m/\(∀x∈u++[left],0<=x/\x<=W)/\(u++[left]).sum=W:=by
   refine⟨by rw[aV,R];show m-1+1=m;exact Oo,λx e=>?_,by rw[List.sum_append,List.sum_singleton];exact Oo⟩;rcases dH.mp e with e | e
   ·exact G x e
   ·rw[bV.mp e];exact Oo
  generalize u++[left]=ι at I z;generalize B++[V.ref ν]=y at I J;clear N G γ l0 l1 R X μ j d g F7 κ C;have lu:y.length=m:=by rw[I.len,aA,aA,z.1]
  refine Y0g;refine fQ.i (n:=n) (F10.less Oo) Oo (bitsle (aK (show((m:Int)).natAbs<=5 by exact Oo) Dd)) λx H11 a11 b11 F11 M=>?_;obtain⟨a,rfl⟩:∃a:Nat,x=(a:Int):=Y2l x.toNat;have Z:=M.at ξ J;have r11:=I.flat (F10.t M) (kD _);refine Y4c;refine slL Z (ys:=y.drop a) (HK _ _) λq12 H12 hq12 ω η=>Y4c;refine slL (η _ _ Z) (ys:=y.take a) (QT _ _) λq13 H13 hq13 φ ε=>NN (ε _ _ ω) φ (by rw[List.length_drop,gB];exact Oo) λq14 H14 hq14 τ s14=>Y0X q14 _ (Y6W τ ?_);have β:=Y3b (y.drop a++y.take a) hl;have ζ:(upd H14 l (.tup (y.drop a++y.take a))) l=Yf (y.drop a++y.take a):=bK;generalize upd H14 l (.tup (y.drop a++y.take a))=H15 at β ζ;have S:=((η.trans ε).trans s14).trans β;refine k _ ((ι.drop a++ι.take a).map λx=>lw x W) H15 (F11.same S) ((B10.trans M).trans S.but) (dI.tup ζ ?_) ⟨ι.drop a++ι.take a,W,?_,?_,?_,W0.1,W0.2,RZ ψ,rfl⟩
  ·have r:=r11.same S;rw[bD,bD];refine bI.append ?_ ?_
   ·rw[List.map_take,List.map_take];exact bI.take a r
   ·rw[List.map_drop,List.map_drop];exact bI.drop a r
  ·rw[aV,List.length_drop,gB];exact Oo
  ·intro x e;rcases dH.mp e with e | e
   ·exact z.2.1 x (List.mem_of_mem_drop e)
   ·exact z.2.1 x (List.mem_of_mem_take e)
  ·rw[aAW];exact z.2.2
end
abbrev aD2:Stmt:=(top 91)
def ZT:Yd ["_law_feed_here","_law_faces","_law_ways","_law_names","_law_start","_law_told"] a14 aD2:={}
abbrev aD8:Stmt:=(top 92)
def aI6:Yd a06 a06 aD8:={}
abbrev sQ6:Stmt:=(top 93)
def cQ6:Yd ["_law_feed_here","_law_whole","_law_part"] a06 sQ6:={}
abbrev sQ4:Stmt:=(top 94)
def cQ4:Yd ["_law_feed_here","_law_ways","_law_most","_law_bounds","_law_mix"] a15 sQ4:={}
def sE{H:Hp}{fs:Ak}{v:V}(h:Y3D H fs v):∃a xs,v=Yi/\H a=Y1d/\Y64 H iY xs:=by
 unfold dI at h;exact h
abbrev wD(w:Str × Ak):PyData:=.tuple [.str w.1,DN w.2]
abbrev HZ(fs:Ah)(ws:Y12):PyData:=.tuple [.tuple (fs.map .str),.tuple (ws.map wD)]
theorem EL:∀fs:Ah,kE (fs.map PyData.str)=true
 | []=>rfl
 | f::fs=>by show(kF (.str f)&&kE (fs.map PyData.str))=true;rw[EL fs];rfl
def OO(w:Str × Ak):kF (wD w)=true:=by
 show(kF (.str w.1)&&(kF (DN w.2)&&true))=true;rw[iI];rfl
theorem OH:∀ws:List (Str × Ak),kE (ws.map wD)=true
 | []=>rfl
 | w::ws=>by show(kF (wD w)&&kE (ws.map wD))=true;rw[OO w,OH ws];rfl
def lT(fs:Ah)(ws:Y12):kF (HZ fs ws)=true:=by
 show(kF (.tuple (fs.map .str))&&(kF (.tuple (ws.map wD))&&true))=true;rw[show kF (.tuple (fs.map PyData.str))=kE (fs.map PyData.str)from rfl,EL,show kF (.tuple (ws.map wD))=kE (ws.map wD)from rfl,OH];rfl
theorem FR{H:Hp}:∀fs:Ah,Y64 H PyData.str (fs.map V.str)
 | []=>bI.nil
 | f::fs=>bI.cons (dI.str f) (FR fs)
def oT{H:Hp}{ds:Y1p}{v:V}(h:dI H (.tuple ds) v):∃a xs,v=Yi/\H a=Y1d/\Y8C xs:=by unfold dI at h;exact h
def DK{H:Hp}{d e:PyData}{xs:Al}(h:Y1f [d,e] xs):∃x y,xs=[x,y]/\dI H d x/\dI H e y:=by
 unfold bI bI bI at h;obtain⟨x,_,rfl,c,y,_,rfl,a,rfl⟩:=h;exact Y0h x y c a
def fC{α:Type}{H:Hp}{g:α->PyData}{fs:Yu}{vs:Al}(h:Y64 H g vs){i:Nat}{v:V}(e:vs[i]?=Ys):∃f,fs[i]?=Y5Q/\dI H (g f) v:=by
 obtain⟨d,a,c⟩:=h.get e;rw[aG]at a;cases q:fs[i]? with
 | none=>rw[q]at a;cases a
 | some f=>rw[q]at a;cases a;exact Y00 f c
def kK{α:Type}{H:Hp}{g:α->PyData}{fs:Yu}{vs:Al}(h:Y64 H g vs){i:Nat}{f:α}(e:fs[i]?=Y5Q):∃v,vs[i]?=Ys/\dI H (g f) v :=
 h.get' (by rw[aG,e];rfl)
def gZ{α:Type}{H:Hp}{g:α->PyData}{fs:Yu}{vs:Al}(h:Y64 H g vs):Y6V fs.length:=by rw[h.len,aA]
def gT{α:Type}{l:Yu}{i:Nat}{x:α}(h:l[i]?=Y7):l.take (i+1)=l.take i++[x]:=by
 rw[jV,h];rfl
structure TrC(F W:Nat)(fs:Ah)(ws:Y12):Prop where
 f:Y6f F
 w:ws.length=W
 sh:∀x∈ws,NU F x.2
 nf:∀s∈fs,(reprText s).length<=20
 nw:∀x∈ws,(reprText x.1).length<=20
def aBx:∀s∈(a03:Ah),(reprText s).length<=20:=Kk
inductive uM:Yq
 | i {H:Hp} {Q:VK} {E:XK} {p L:Addr} {n F W:Nat} (T:gC H p L (n+64)) (h1:2<=F) (h2:F<=4) (h3:2<=W) (h4:W<=4) (k:∀v fs ws H',gC H' p L n->Y1e->dI H' (HZ fs ws) v->TrC F W fs ws->Y1L):uM [Y0Z,.int (F:Int),.int (W:Int)] H Q E
def aCf{α:Type}{xs:Yu}{x:Int}(h:Y5u 8):∃v,DX xs (x % 8)=Ys/\v∈xs:=by
 obtain⟨v,a,c,_⟩:=aCg (xs:=xs) (x:=x % 8) (YbW Dd) (by have:=Int.emod_lt_of_pos x (b:=8) Dd;exact Oo);exact⟨v,a,c⟩
def aAL{P:Y0C Str}{ys:Al}(h:∀(i:Nat) (y:V),Y1m=Y09->∃s,y=.str s/\P s):∃ts:Ah,ys=ts.map V.str/\∀t∈ts,P t:=by
 induction ys with
 | nil=>exact Y00 [] (λt h=>by cases h)
 | cons y ys ih =>
  obtain⟨s,rfl,d⟩:=h 0 y rfl;obtain⟨ts,rfl,a⟩:=ih λi z e=>h (i+1) z (by simpa using e);refine Y00 (s::ts) (λt c=>?_);rcases bN.mp c with rfl | c
  ·exact d
  ·exact a t c
section
def aIj(F:Yb "_law_trial" "_law_trial" aD2)(T:Ye)
  (FQ7:Y01 "_law_draw" a02 fQ) (FQ13:Y2i "_law_shares" a02 oN):dO P w K mg base cV 3 f fd a14 uM:=by
 refine Y1j ZT;obtain @⟨H,Q,E,p,L,n,F,W,T0,f2,f4,w2,w4,k⟩:=h;refine Y5 (λcdv A Y s hr=>?_);refine⟨_,(aH (Y4b 3 ZT.nd (iQ (bB jD (bB jD (bB jD (bB jD (bB jD (Y75 jD jD jD))))))))
  (aH (Y4b 4 ZT.nd (Y6q 0))
  (aH (cP (i:=5) ZT.nd (Y57 dQ (by rfl) Kk ["_law_k","_law_names","_law_start"] [3,4] (Y7N 1) (Y2O 1 (cD pC (Y1R fT 2 (cD dN aL (Yz))) aL))))
  (aH (Y4b 4 ZT.nd (Y6q 0))
  (Y8Q (Y1S 5 (Y57 dQ (by rfl) Kk ["_law_k","_law_feed_here","_law_faces","_law_names","_law_start"] [0,1,3,4] (Y7N 2) (Y3B (Y2O 3 (cD pC (Y1R fT 4 (cD dN aL (Yz))) aL)) (Y2A FQ13 1 2))))))))),?_⟩
 refine Yr;intro δ S;refine DT (by show 8<=64;decide) λN1 H1 hN ψ χ=>Yw;intro δ S;have η:H1 N1=Yl ((a03:Ah).map V.str):=ψ;have ζ:N1≠p:=T0.ne hN;refine Y9;refine Y3L (n+63) (T0.same χ) (λx2 H2 a2 b2 T2 ρ=>Yw);intro δ S;have ξ:=ρ.at ζ η;have d:∀x:Int,∃t:Str,(reprText t).length<=20/\DX ((a03:Ah).map V.str) (x % 8)=some (V.str t):=λx=>by
  obtain⟨v,G,C⟩:=aCf (xs:=(a03:Ah).map V.str) (x:=x) rfl;obtain⟨t,M,rfl⟩:=aN.mp C;exact⟨t,aBx t (by assumption),G⟩
 refine⟨_,rfl,_,rfl,Oo,Oo,Y9H (∃s,y=.str s/\(reprText s).length<=20) Yaw Oo (λi H' Q' hi R ι=>?_) (λD ys H3 hD β s3 r O=>?_)⟩
 ·refine⟨_,rfl,_,rfl,_,rfl,_,_,rfl,rfl,IntMulOk.of_left Kk,_,_,rfl,rfl,_,_,rfl,rfl,(by show(0:Int)<8;decide),?_⟩;obtain⟨t,e,M⟩:=d (x2+3*(0+(i:Nat)));exact xS (R _ _ ξ) M (ι _ H' (Y08) (Y00 t e))
 ·obtain⟨B,rfl,μ⟩:=aAL O;rw[aA]at r;refine Y0X D _ (Y6W β ?_);refine Yw;intro δ S;have υ:=Y3b (B.map V.str) hl;have φ:(upd H3 l (.tup (B.map V.str))) l=Yf (B.map V.str):=bK;generalize upd H3 l (.tup (B.map V.str))=H4 at υ φ;have S4:=s3.trans υ;have T4:=T2.same S4;have B4:aU p H H4:=(χ.but.trans ρ).trans S4.but;refine Y9;refine Y3L (n+62) T4 (λx5 H5 a5 b5 T5 κ=>?_);have e5:=κ.at ζ (S4 _ _ ξ);have Z:=T4.t κ _ _ φ;have B5:=B4.trans κ;refine⟨_,rfl,_,rfl,_,rfl,Oo,Oo,DE (YbE p L (n+62-12*i)) T5 (λi y H'=>∃x:Str × Ak,dI H' (wD x) y/\NU F x.2/\(reprText x.1).length<=20) (λi y Ha Hb s ⟨x,G,C⟩=>⟨x,G.flat s (OO x),C⟩) Oo (λi H' Q' hi F' R ι=>?_) (λD6 j H6 ω ο T6 τ hz J=>?_)⟩
  ·refine⟨_,rfl,_,rfl,_,rfl,_,_,rfl,rfl,IntMulOk.of_left Kk,_,_,rfl,rfl,_,_,rfl,rfl,(by show(0:Int)<8;decide),?_⟩;obtain⟨t,e,M⟩:=d (x5+5*(0+(i:Nat)));refine xS (R.at ζ e5) M Y0g;exact oN.i (n:=n+62-12*(i+1)) (F'.less Oo) Oo Oo λv fs H7 T7 m r7 α=>rG (by show 2<=64;decide) λq8 H8 N X g=>ι _ H8 (T7.same g) (m.trans g.but) ⟨(t,fs),YaA X (dI.str _) (Y6P (r7.same g)),α,e⟩
  ·obtain⟨u,lw6,r6,I⟩:∃u:List (Str × Ak),u.length=j.length/\bI H6 (u.map wD) j/\∀x∈u,NU F x.2/\(reprText x.1).length<=20:=by
    clear ο hz
    induction j with
    | nil=>exact Y41 [] bI.nil (λx h=>by cases h)
    | cons z j ih =>
     obtain⟨x,G,C⟩:=J 0 z rfl;obtain⟨u,g1,g2,g3⟩:=ih λi y r=>J (i+1) y (by simpa using r);refine⟨x::u,by rw[cL,cL,g1],bI.cons G g2,λy r=>?_⟩;rcases bN.mp r with rfl | r
     ·exact C
     ·exact g3 y r
   refine Y0X D6 _ (Y99 ο (λU γ=>?_));have m:=Y3b j γ;have ν:(upd H6 U (.tup j)) U=Yf j:=bK;generalize upd H6 U (.tup j)=H7 at m ν;refine rG (by show 2<=64;decide) λq8 H8 N X g=>?_;have ε:=g _ _ (m _ _ (T5.t τ _ _ Z));refine k _ B u H8 (((T6.same m).same g).less Oo) ((B5.trans τ).trans (m.trans g).but) ?_ ⟨Oo,Oo,λx θ=>(I x θ).1,μ,λx θ=>(I x θ).2⟩;refine YaA X (dI.tup ε (FR B)) (Y6P (dI.tup (g _ _ ν) ((r6.same m).same g)))
end
abbrev aI8(M:Nat)(bs mix cs:Ak):PyData:=.tuple [.int (M:Int),DN bs,DN mix,DN cs]
def LJ(N B:Nat)(f:Fr):Prop:=Y36/\0<=f.1
inductive mW:Yq
 | i {H:Hp} {Q:VK} {E:XK} {p L:Addr} {n:Nat} (F:gC H p L (n+2)) (k:∀v f H',gC H' p L n->Y1e->Y3i f v->LJ 12 5 f->Y1L):mW [Y0Z] H Q E
inductive wX:Yq
 | i {H:Hp} {Q:VK} {E:XK} {p L:Addr} {n:Nat} (F:gC H p L (n+4)) (k:∀v f H',gC H' p L n->Y1e->Y3i f v->LJ 27720 1 f->Y1L):wX [Y0Z] H Q E
def XW{n d:Int}(h:0<=n):0<=(lw n d).1:=Ye3 h _
def smallz{d:Int}(h:d.natAbs<1024):d.natAbs<2^9000:=Y74 (show d.natAbs<2^10 from h)
section
def oQ6(F:Yb "_law_bound" "_law_bound" sQ6)(T:Ye)
  (FQ7:Y01 "_law_draw" a02 fQ) (FQ9:Y01 "_law_frac" a04 iE):dO P w K mg base cV 2 f fd a06 wX:=by
 refine F.oky cQ6 λη H Q E h=>?_;obtain @⟨H,Q,E,p,L,n,F,k⟩:=h;refine Y5 (λS A g s α=>?_);refine⟨_,(aH (Y8G cQ6.nd (Y9S 0))
  (aH (Y1D cQ6.nd (bQ bJ (iQ (Y75 (cQ FQ7 (aD 0) (Y3K fT 1)) (cD gE (cQ FQ7 (aD 0) (Y3K fT 1)) aL) aL)) (Y6q 0)))
  (Y1c (Y2A FQ9 2 1)))),?_⟩
 refine Yr;intro B O;refine Y9;refine Y3L (n+3) F (λd H1 ε δ F1 W=>Y5N _ ?_);refine Yw;intro B O;have u:bits (1+d+1)<=64:=bitsle (aK (show(1+d+1).natAbs<=13 by exact Oo) Dd);refine Y4Q _ _ _ _ rfl ?_;refine fQ.i (n:=n+2) F1 Oo u λM H2 γ b2 F2 N=>Y4Q _ _ _ _ rfl ?_;refine fQ.i (n:=n+1) F2 Oo u λC H3 X β F3 U=>Y7s _ _ rfl (Y8U Kk) ?_;refine DT (by show 3<=64;decide) λY H4 e R r=>Y9;refine Y3L n (F3.same r) (λa H5 θ ζ F5 l=>?_);have D:∃y:Int,DX [V.int M,V.int (C/2),V.int 0] a=Yg y/\0<=y/\y<=1+d:=by
  have:a=0\/a=1\/a=2:=Oo;rcases this with rfl | rfl | rfl
  ·exact Y41 _ Oo Oo
  ·exact Y41 _ Oo Oo
  ·exact Y41 _ Oo Oo
 obtain⟨y,j,I,Z⟩:=D;refine xS (l.at (F3.ne e) R) j (Y05 (iE.i Oo (smallz Oo) ?_));intro ι H6 J G m;have hd:(1+d).natAbs ∣ 27720:=by
  have:∀z:Nat,z<=12->1<=z->z ∣ 27720:=Dd;exact this _ Oo Oo
 exact k _ _ H6 (F5.same m) (((((W.trans N).trans U).trans r.but).trans l).trans m.but) (fG G) ⟨(Fn.of Oo Oo).dvd hd,XW I⟩
def aIp(F:Yb "_law_little" "_law_little" aD8)(T:Ye)
  (FQ7:Y01 "_law_draw" a02 fQ) (FQ9:Y01 "_law_frac" a04 iE):dO P w K mg base cV 2 f fd a06 mW:=by
 refine F.oky aI6 λS H Q E h=>?_;obtain @⟨H,Q,E,p,L,n,F,k⟩:=h;refine Y5 (λD A e s J=>?_);refine Y4x (cQ FQ9 (Y6q 0) (bQ bJ (iQ (bB aL (bB aL (Y75 aL aL aL)))) (Y6q 0))) Y9;refine Y3L (n+1) F (λM H1 z N F1 G=>DT (by show 5<=64;decide) λI H4 d C m=>Y9);refine Y3L n (F1.same m) (λa H5 U R F5 j=>?_);have r:∃y:Int,DX [V.int 1,V.int 2,V.int 3,V.int 4,V.int 6] a=Yg y/\1<=y/\y<=6/\y.natAbs ∣ 12:=by
  have:a=0\/a=1\/a=2\/a=3\/a=4:=Oo;rcases this with rfl | rfl | rfl | rfl | rfl <;> exact⟨_,rfl,Dd,Dd,Dd⟩
 obtain⟨y,g,O,W,hd⟩:=r;refine xS (j.at (F1.ne d) C) g (iE.i Oo (smallz Oo) ?_);intro X H6 B u l;refine k _ _ H6 (F5.same l) (((G.trans m.but).trans j).trans l.but) (fG u) ⟨(Fn.of Oo ?_).dvd hd,XW z⟩;have:5*1<=5*y.natAbs:=dY 5 Oo;exact Oo
end
theorem ND{H:Hp}{P:Y0C Fr}:∀{ys:Al},(∀(i:Nat) (y:V),Y1m=Y09->∃f,Y4o H f y/\P f)->∃fs:Ak,Y6f ys.length/\Y64 H iY ys/\∀f∈fs,P f
 | [],_=>⟨[],rfl,bI.nil,λf h=>by cases h⟩
 | y::ys,h=>by
  obtain⟨f,h1,h2⟩:=h 0 y rfl;obtain⟨fs,c,g,d⟩:=ND (ys:=ys) λi z e=>h (i+1) z (by simpa using e);refine⟨f::fs,by rw[cL,cL,c],bI.cons h1 g,λy a=>?_⟩;rcases bN.mp a with rfl | a
  ·exact h2
  ·exact d y a
inductive AD:Yq
 | i {H:Hp} {Q:VK} {E:XK} {p L:Addr} {n W M:Nat} (T:gC H p L (n+64)) (h1:1<=W) (h2:W<=4) (h3:M<=6) (k:∀v bs mix cs H',gC H' p L n->Y1e->dI H' (aI8 M bs mix cs) v->bs.length=W->(∀f∈bs,LJ 27720 1 f)->NU W mix->cs.length=M->(∀f∈cs,LJ 12 5 f)->Y1L):AD [Y0Z,.int (W:Int),.int (M:Int)] H Q E
section
def oQ4(F:Yb "_law_aim" "_law_aim" sQ4)(T:Ye)
  (FQ6:Y2i "_law_bound" a06 wX) (FQ13:Y2i "_law_shares" a02 oN) (FQ10:Y2i "_law_little" a06 mW):dO P w K mg base cV 3 f fd a15 AD:=by
 refine Y1j cQ4;obtain @⟨H,Q,E,p,L,n,W,M,T0,w1,w4,m6,k⟩:=h;refine Y5 (λμ A I s hr=>?_);refine⟨_,(aH (Y1t cQ4.nd (Y57 dQ (by rfl) Kk ["_law_k","_law_feed_here"] [0] (Y7N 1) (Y0y FQ6 1)))
  (aH (Y2j 4 cQ4.nd FQ13 0 Y0f)
  (Y8Q (bB (Y02) (Y75 Y0r Y0V (Y57 dQ (by rfl) Kk ["_law_k","_law_feed_here"] [0] (Y7N 2) (Y0y FQ10 1))))))),?_⟩
 refine Yr;intro υ ι;refine⟨_,rfl,_,rfl,Oo,Oo,DE (YbE p L (n+64-4*i)) T0 (λi y H'=>∃f:Fr,Y3i f y/\LJ 27720 1 f) (λi y τ ρ s ⟨x,B,z⟩=>⟨x,B.flat s (dS x),z⟩) Oo (λi H' Q' κ F' η U=>?_) (λD j H1 ω X T1 ε ψ e=>?_)⟩
 ·refine Y9;exact wX.i (n:=n+64-4*(i+1)) (F'.less Oo) λv f H2 T2 a d R=>U _ H2 T2 a ⟨f,d,R⟩
 ·obtain⟨bs,lb,α,ξ⟩:=ND e;refine Y0X D _ (Y99 X (λl χ=>?_));refine Yw;intro υ ι;have a:=Y3b j χ;have u:(upd H1 l (.tup j)) l=Yf j:=bK;generalize upd H1 l (.tup j)=H2 at a u;have T2:=T1.same a;have d:Y3D H2 bs Y11:=dI.tup u (α.same a);refine Y0g;refine oN.i (n:=n+30) (T2.less Oo) Oo Oo λv3 G H3 T3 Y ζ J=>?_;have N:=d.flat (T2.t Y) (iI _);have B3:aU p H H3:=(ε.trans a.but).trans Y;have C:bs.length=W:=Oo;clear X e α ψ ε a u T1 d;refine⟨_,rfl,_,rfl,_,rfl,_,rfl,_,rfl,Oo,Oo,DE (YbE p L (n+30-2*i)) T3 (λi y H'=>∃f:Fr,Y3i f y/\LJ 12 5 f) (λi y τ ρ s ⟨x,B,z⟩=>⟨x,B.flat s (dS x),z⟩) Oo (λi H' Q' κ F' η U=>?_) (λD g H4 ω e4 T4 δ hz r=>?_)⟩
  ·refine Y9;exact mW.i (n:=n+30-2*(i+1)) (F'.less Oo) λv f H2 T2 a d R=>U _ H2 T2 a ⟨f,d,R⟩
  ·obtain⟨cs,lc,φ,ν⟩:=ND r;refine Y0X D _ (Y99 e4 (λO m=>?_));have β:=Y3b g m;have γ:(upd H4 O (.tup g)) O=Yf g:=bK;generalize upd H4 O (.tup g)=H5 at β γ;refine rG (by show 4<=64;decide) λq6 H6 ο θ Z=>?_;have S:=β.trans Z;have t:=T3.t δ;refine k _ bs G cs H6 ((T4.same S).less Oo) ((B3.trans δ).trans S.but) ?_ C ξ J Oo ν;exact YaA θ Y8O (bI.cons ((N.flat t (iI _)).same S) (bI.cons ((ζ.flat t (iI _)).same S) (Y6P (dI.tup (Z _ _ γ) (φ.same S)))))
end
abbrev aDU:Stmt:=(top 4)
def UA:Yd ["number","above_nought","divided","divisor","rest"] a05 aDU:={}
abbrev aDr:Stmt:=(top 7)
def TZ:Yd ["one","other","common","one_part","other_part","upper","left"] a00 aDr:={}
abbrev aDD:Stmt:=(top 8)
def aIW:Yd a00 a00 aDD:={}
abbrev aDg:Stmt:=(top 9)
def aFc:Yd ["one","other","first","second"] a00 aDg:={}
abbrev aDJ:Stmt:=(top 11)
def aI0:Yd a00 a00 aDJ:={}
abbrev aDe:Stmt:=(top 12)
def aBZ:Yd ["some","whole","one"] a27 aDe:={}
abbrev aDF:Stmt:=(top 13)
def aB1:Yd ["some","place","k"] a27 aDF:={}
abbrev aDO:Stmt:=(top 17)
def aI2:Yd a20 a20 aDO:={}
abbrev aDc:Stmt:=(top 18)
def aIH:Yd a20 a20 aDc:={}
abbrev aDd:Stmt:=(top 19)
def aII:Yd ["trial","way"] ["trial","way"] aDd:={}
abbrev aDb:Stmt:=(top 30)
def ZO:Yd ["trial","way","counts","product","share","count"] a07 aDb:={}
abbrev aDq:Stmt:=(top 31)
def TY:Yd ["share","count","upper","lower","step"] ["share","count"] aDq:={}
abbrev aD1:Stmt:=(top 32)
def aFg:Yd ["faces","most","found","many"] a48 aD1:={}
abbrev aAT:Stmt:=(top 33)
def aB4:Yd ["faces","many","found","first"] a28 aAT:={}
abbrev aDx:Stmt:=(top 35)
def aIS:Yd a46 a46 aDx:={}
abbrev aDw:Stmt:=(top 36)
def aIR:Yd a34 a34 aDw:={}
def zW.of{H H1:Hp}{Q:VK}{f:Fr}(s:aT H H1)(q:zW H Q f):zW H1 Q f:=λp H' a e c=>q p H' (s.free a) e (s.trans c)
inductive eJ (K:Aa):Yq
 | i {H:Hp} {Q:VK} {E:XK} {x y:V} {f g:Fr} (h1:iZ K H f x) (h2:iZ K H g y) (l1:Y0l) (l2:eK g) (z1:Y3O) (z2:Y40 g) (q:zW H Q (lM f g)):eJ K [x,y] H Q E
def yJ(f:Fr):Fr:=(-f.1,f.2)
def xG{f:Fr}(h:Y0l):eK (yJ f):=⟨h.pos,by show Y14 (-f.1) f.2;rw[Int.neg_gcd];exact h.low⟩
inductive qW (K:Aa):Yq
 | i {H:Hp} {Q:VK} {E:XK} {x y:V} {f g:Fr} (h1:iZ K H f x) (h2:iZ K H g y) (l1:Y0l) (l2:eK g) (z1:Y3O) (z2:Y40 g) (q:zW H Q (pJ f (yJ g))):qW K [x,y] H Q E
section
def aIc(F:Yb "common_divisor" "common_divisor" aDU)(T:Ye):dO P w K mg base cV 1 f fd a05 sU:=by
 refine F.oky UA λJ H Q E h=>?_;obtain @⟨H,Q,E,n,d,hd,q⟩:=h;refine Y5 (λG A p s I=>?_);refine⟨_,(aH (Y1D UA.nd Yz)
  (aH (Y1t UA.nd Y0f)
  (aH (wI PassesOwn.never (Y1r aCC 3 aL) (aH (Y4u UA.nd (Y2X pC 2 3))
  (aH (Y1D UA.nd Y0r)
  (aS (Y1t UA.nd Y0V)))))
  (Y2z 2)))),?_⟩
 refine Yr;intro u D;refine Y0g;refine zZ (λm σ H'=>Ex3 λ(a b:Int) (c:Am)=>An6 (σ=[Yg n,Yg d,Yg a,Yg b,c]) (0<=b) ((Int.gcd a b)=(Y8L n)) ((b=0->0<a)) (H'=H) (m=b.toNat))
  (λσ H'=>∃(c:Am),σ=[Yg n,Yg d,Yg (Y8L n),Yg 0,c]/\H'=H)
  _ ⟨n,d,none,rfl,Oo,rfl,Oo,rfl,rfl⟩ ?_ ?_
 ·rintro m σ H2 ⟨a,b,c,rfl,z,r,C,rfl,rfl⟩;refine Y7s _ rfl _ rfl (aGi (Y54) (Y54))
  ·have g:0<b:=by
    rcases Int.lt_or_eq_of_le z with h | h
    ·exact h
    ·exact absurd (Yca h.symm) e
   refine Yr;intro u D;refine⟨_,rfl,_,rfl,_,_,rfl,rfl,g,_,rfl,_,rfl,?_⟩;have j:=Int.emod_lt_of_pos a g;have y:=Ydh a b;exact⟨_,Oo,b,a % b,_,rfl,y,by rw[JS,r],λ_=>g,rfl,rfl⟩
  ·have l:b=0:=by injection e
   subst l;have B:=C rfl;have j:=QH B;rw[r]at j;rw[j];exact Y00 c rfl
 ·rintro σ H2 ⟨c,rfl,rfl⟩;exact Y6 q
def aHH(F:Yb "plus" "plus" aDr)(T:Ye)
  (FQ23:Y01 "common_divisor" a05 sU):dO P w K mg base cV 2 f fd a00 (kJ K):=by
 refine F.oky TZ λε H Q E h=>?_;obtain @⟨H,Q,E,x,y,⟨a,b⟩,⟨c,d⟩,W,S,N,M,X,O,q⟩:=h;refine Y5 (λY A C s β=>?_);obtain⟨α,rfl,m⟩:=W;obtain⟨δ,rfl,j⟩:=S;have ζ:0<b:=N.pos;have D:0<d:=M.pos;obtain⟨I,zb⟩:=X;obtain⟨B,u⟩:=O;dsimp only at I zb B u m j;have g:=kL (n:=b) D;have G:=yN (n:=b) D u;have e:=rZ zb g;have l:=rZ u g;have u1:=GE I l;have γ:=GE B e;have J:=kL (n:=a*(d/(Int.gcd b d:Int))+c*(b/(Int.gcd b d:Int))) g;have L:=yN (n:=a*(d/(Int.gcd b d:Int))+c*(b/(Int.gcd b d:Int))) g G;have eq:pJ (a,b) (c,d)=_:=aBf N M;refine⟨_,(aH (Y1D TZ.nd (cQ FQ23 (Y2e) (Y2d)))
  (aH (Y1t TZ.nd (Y7u gE 0 Y02))
  (aH (Y4u TZ.nd (Y7u gE 1 Y02))
  (aH (cP (i:=5) TZ.nd (cD fT (Y7u dN 0 Y0V) (Y7u dN 1 Y0r)))
  (aH (Y2j 6 TZ.nd FQ23 5 Y02)
  (Y1c (Y3B (Y2X gE 5 6) (Y1R dN 3 (Y7u gE 1 (aD 6)))))))))),?_⟩
 refine Yr;intro r z;refine Y0q m;refine Y0q j;refine sU.i D (Yw);intro r z;refine Y0q m;refine Y0F _ rfl _ _ rfl (pZ g (lU G)) Yw;intro r z;refine Y0q j;refine Y0F _ rfl _ _ rfl (pZ g (lU G)) Yw;intro r z;refine Y0q m;refine Y0F _ rfl _ _ rfl (mC I l) (Y0q j);refine⟨_,rfl,_,_,rfl,rfl,mC B e,_,_,rfl,rfl,Yw⟩;intro r z;refine Y05 (sU.i g ?_);refine⟨_,rfl,_,rfl,_,_,rfl,rfl,pZ J (lU L),Y05 (Y7q j ?_)⟩;refine⟨_,rfl,_,_,rfl,rfl,pZ J (lU L),_,_,rfl,rfl,mC e (rZ u J),?_⟩;refine rG (by show 2<=64;decide) λp H3 U R Z=>q p H3 U ?_ Z;rw[eq];exact R
def aHv(F:Yb "times" "times" aDg)(T:Ye)
  (FQ23:Y01 "common_divisor" a05 sU):dO P w K mg base cV 2 f fd a00 (eJ K):=by
 refine F.oky aFc λβ H Q E h=>?_;obtain @⟨H,Q,E,x,y,⟨a,b⟩,⟨m,d⟩,S,O,I,D,⟨L,zb⟩,⟨C,u⟩,q⟩:=h;refine Y5 (λW A r s Z=>?_);obtain⟨Y,rfl,e⟩:=S;obtain⟨α,rfl,g⟩:=O;have B:0<b:=I.pos;have z:0<d:=D.pos;dsimp only at L zb C u e g;have j:=kL (n:=a) z;have l:=kL (n:=m) B;have J:=yN (n:=a) z u;have G:=yN (n:=m) B zb;have eq:lM (a,b) (m,d)=_:=VI I D;refine⟨_,(aH (Y1D aFc.nd (cQ FQ23 (Y2e) (Y2d)))
  (aH (Y1t aFc.nd (cQ FQ23 (Y2d) (Y2e)))
  (Y1c (Y3B (cD dN (Y7u gE 0 Y02) (Y7u gE 1 Y0r)) (cD dN (Y7u gE 0 Y0r) (Y7u gE 1 Y02)))))),?_⟩
 refine Yr;intro M U;refine Y0q e;refine Y0q g;refine sU.i z (Yw);intro M U;refine Y0q g;refine Y0q e;refine sU.i B (Y0q e);refine Y0F _ rfl _ _ rfl (pZ j (lU J)) (Y0q g);refine⟨_,rfl,_,_,rfl,rfl,pZ l (lU G),_,_,rfl,rfl,mC (rZ L j) (rZ C l),Y0q e⟩;refine Y0F _ rfl _ _ rfl (pZ l (lU G)) (Y0q g);refine⟨_,rfl,_,_,rfl,rfl,pZ j (lU J),_,_,rfl,rfl,mC (rZ zb l) (rZ u j),?_⟩;refine rG (by show 2<=64;decide) λp H3 R N X=>q p H3 R ?_ X;rw[eq];exact N
def aHT(F:Yb "less" "less" aDD)(T:Ye)
  (FQ54:Y69 2 "plus" (kJ K)):dO P w K mg base cV 3 f fd a00 (qW K):=by
 refine F.oky aIW λI H Q E h=>?_;obtain @⟨H,Q,E,x,y,f,g,r,n,u,l,z,d,q⟩:=h;refine Y5 (λB A a s C=>?_);obtain⟨G,rfl,e⟩:=n;refine Y4x (cQ FQ54 (aD 0) (Y3B (BD vP (Y2d)) Y2d)) (Y05 (Y7q e ?_));refine Y6 (Y0q e);refine rG (by show 2<=64;decide) λp H3 D m j=>kJ.i (iZ.same j r) (iZ.new (f:=yJ g) m) u (xG l) z ⟨by show(-g.1).natAbs<_;rw[Int.natAbs_neg];exact d.1,d.2⟩ ?_;exact q.of j
def aH0(F:Yb "is_less" "is_less" aDJ)(T:Ye):dO P w K mg base cV 1 f fd a00 (oH K):=by
 refine YdN aI0 ?_;obtain @⟨H,Q,E,x,y,⟨a,b⟩,⟨c,d⟩,n,m,⟨p,zb⟩,⟨j,l⟩,q⟩:=h;refine Y5 (λr A e s z=>?_);obtain⟨u,rfl,g⟩:=n;obtain⟨B,rfl,i⟩:=m;refine Y4x (lS xD (Y9Y 0) (Y7u dN 1 Y2e)) (Y0q g);refine Y0q i;refine Y4k _ p l (Y0q i);refine Y0q g;exact⟨_,_,rfl,rfl,mC j zb,_,_,rfl,rfl,q⟩
end
def mL{N B:Nat}{f:Fr}(h:Y36)(hN:0<N)(hz:N<Y0t)(hB:B<=2^700):Y3O:=by
 obtain⟨c,a⟩:=h.num hN;refine⟨?_,Y81 a hz⟩;have e:B*N<=2^700*Y0t:=Ybr hB hz;have d:(2:Nat)^500*Y0t<Y0W:=by rw[<-Nat.pow_add];exact YdW Dd
 exact Oo
structure KY(fs:Ak):Prop where
 low:∀f∈fs,Y0l
 sz:∀f∈fs,Y3O
 part:∀i,eK (oG (Y8H))/\Y40 (oG (Y8H))
def uC{N B:Nat}{fs:Ak}(h:∀f∈fs,Y36)(hN:0<N)(hz:N<Y0t)(hl:Y9J 64)(hB:B<=2^690):KY fs:=by
 have d:(2:Nat)^690<=2^700:=aI Dd Dd;have c:64*(2:Nat)^690<=2^700:=by rw[show(64:Nat)=2^6 from rfl,<-Nat.pow_add];exact aI Dd Dd
 refine⟨λf a=>(h f a).low,λf a=>mL (h f a) hN hz (aJ hB d),λi=>?_⟩;have t:=Fn.tot (Y8H) λf a=>h f (List.mem_of_mem_take a);have l:(Y8H).length<=64:=by rw[gB];exact Oo
 have:(Y8H).length*B<=64*2^690:=Nat.mul_le_mul l hB;exact⟨t.low,mL t hN hz (aJ this c)⟩
structure wE(K:Aa)(H:Hp)(fs:Ak)(xs:Al):Prop where
 len:Y5u fs.length
 at_:∀(i:Nat) (x:V),Y0s=Y7->∃f,fs[i]?=Y5Q/\iZ K H f x
theorem wE.of{K:Aa}{H:Hp}{fs:Ak}{xs:Al}(r:Y64 H iY xs):wE K H fs xs:=⟨gZ r,λi x e=>by
 obtain⟨f,c,a⟩:=fC r e;exact⟨f,c,iZ.of a⟩⟩
inductive jL (K:Aa):Yq
 | i {H:Hp} {Q:VK} {E:XK} {a:Addr} {xs:Al} {fs:Ak} (h:H a=Y0P) (r:wE K H fs xs) (ok:KY fs) (q:∀v H',Y1->Y3i (oG fs) v->Y1L):jL K Y22 H Q E
section
def aHt(F:Yb "total" "total" aDe)(T:Ye)
  (FQ54:Y69 2 "plus" (kJ K)):dO P w K mg base cV 3 f fd a27 (jL K):=by
 refine F.oky aBZ λu H Q E h=>?_;obtain @⟨H,Q,E,a,u,fs,n,r,ok,q⟩:=h;refine Y5 (λR A m s S=>?_);have e:=r.len;refine⟨_,(aH (Y8G aBZ.nd (Y3B aL aL))
  (aH (Y6m (eG (Yz)) 2 aBZ.nd (Y2j 1 aBZ.nd FQ54 1 Y02))
  (Y2z 1))),?_⟩
 refine Yr;intro B X;refine rG (by show 2<=64;decide) λU H0 D C s0=>Y4J _ a (Y89 _ (s0 _ _ n)) (mG (xs:=u) (YaB (λw l=>Ya4 (σ=[Y4l,some w,l]) (Y3i (oG (Y8H)) w))) (Y0h _ _ s0 (fG C)) (λi σ H' _ p=>?_) ?_ ?_)
 ·obtain⟨w,l,rfl,d,_⟩:=p;exact gH.of (d _ _ n)
 ·rintro i x σ H1 L ⟨w,l,rfl,d,j⟩;refine Y5A;intro B;obtain⟨g,z,G⟩:=r.at_ i x L;have y:=aE z;obtain⟨I,M⟩:=ok.part i;refine Y05 (kJ.i (iZ.of j) (iZ.same d G) I (ok.low _ y) M (ok.sz _ y) ?_);intro W H2 N J O;refine Y0h _ _ (d.trans O) ?_;rw[gT z,qJ];exact fG J
 ·rintro σ H1 ⟨w,l,rfl,d,j⟩;refine Y9;rw[e,dL]at j;exact q _ H1 d j
end
@[irreducible] def qY:Sp:=λvs H Q _=>∃a fs,vs=Y22/\(∃xs,H a=Y0P/\Y64 H iY xs)/\(∀f∈fs,Y0l/\Y3O)/\Y8M 0/\Y9J 64/\∀p y,jF fs fs.length p y->Y1M (p:Nat)
def IS{H:Hp}{Q:VK}{E:XK}{a:Addr}{xs:Al}{fs:Ak}(h:H a=Y0P)(r:Y64 H iY xs)(ok:∀f∈fs,Y0l/\Y3O)(h0:Y8M 0)(h1:Y9J 64)(q:∀p y,jF fs fs.length p y->Y1M (p:Nat)):qY Y22 H Q E:=by unfold qY;exact⟨a,fs,rfl,⟨xs,h,r⟩,ok,h0,h1,q⟩
def jF.min{fs:Ak}{p:Nat}{y:Fr}(L:jF fs fs.length p y)(ok:∀f∈fs,Y0l):rv y=mO (fs.map rv):=by
 have d:=aE L.at_;refine(GR (Y42 y d) λx e=>?_).symm;obtain⟨f,c,rfl⟩:=aN.mp e;obtain⟨j,a⟩:=gI.mp c;have:=L.no j f (Y6u).1 a;exact Rat.not_lt.mp λq=>this ((WK (ok f c).pos (ok y d).pos).mpr q)
section
def aHV(F:Yb "least_place" "least_place" aDF)(T:Ye)
  (FQ35:Y01 "is_less" a00 (oH K)):dO P w K mg base cV 2 f fd a27 qY:=by
 refine YbS aB1 ?_;unfold qY at h;obtain⟨a,fs,rfl,⟨D,n,r⟩,ok,O,α,q⟩:=h;refine Y5 (λJ A j s U=>?_);have C:=gZ r;refine⟨_,(aH (Y8G aB1.nd aL)
  (aH (Y6m (RQ rfl T.b_range (Y2s aL (Y8J oA (by rfl) Kk 0))) 2 aB1.nd (iS (qB (cQ FQ35 (Y4m 0 Y02) (Y4m 0 Y0f))) (aS (Y8G aB1.nd Y02)) fK))
  (Y2z 1))),?_⟩
 refine Yr;intro I Y;refine Y6 (rlL n ?_);refine Y0h _ _ ⟨Oo,Oo,Oo,Oo⟩ ?_;have g:∃y,fs[0]?=Y09:=Y2c O;obtain⟨N,g⟩:=g;refine oQ (λi σ H'=>Ex3 λ(p:Nat) (y:Fr) (B:Am)=>An3 (σ=[Y4l,Yg (p:Int),B]) (H'=H) (jF fs (i+1) p y)) (Y6n 0 N _ rfl (jF.one g)) ?_ ?_
 ·rintro i σ H1 Z ⟨p,y,B,rfl,rfl,L⟩;refine Y5A;intro I;have m:Y8M (i+1):=Oo;have d:fs[i+1]?=some fs[i+1]:=aC m;generalize fs[i+1]=z at d;obtain⟨W,l,M⟩:=kK r d;obtain⟨X,u,G⟩:=kK r L.at_;have R:(1:Int)+(i:Int)=((i+1:Nat):Int):=Oo;rw[R];refine Y05 (Y47 n l ?_);refine Y05 (Y47 n u ?_);refine oH.i (iZ.of M) (iZ.of G) (ok _ (aE d)).2 (ok _ (aE L.at_)).2 (Y6 (CK (Y54) (Y54)))
  ·exact Y6 (Y6n (i+1) z _ rfl (L.next (λf S=>(ok f S).1) d e))
  ·exact Y6n p y _ rfl (L.stay d e)
 ·rintro σ H1 ⟨p,y,B,rfl,rfl,L⟩;refine Y9;have:((D.length:Int)-1).toNat+1=fs.length:=Oo;rw[this]at L;exact q p y L
end
abbrev uZ(cs:Ae):PyData:=.tuple (cs.map λ(n:Nat)=>PyData.int (n:Int))
theorem KD:∀cs:Ae,kE (cs.map λ(n:Nat)=>PyData.int (n:Int))=true
 | []=>rfl
 | f::fs=>by show(kF (.int f)&&kE (fs.map λ(n:Nat)=>PyData.int (n:Int)))=true;rw[KD fs];rfl
def rJ(cs:Ae):kF (uZ cs)=true:=KD cs
def AV(K:Aa)(H:Hp)(f:Fr)(x:V):Prop:=Y4o H f x\/∃a,x=Yi/\vX K a [f.1,f.2]=true
def AV.v{K:Aa}{H:Hp}{f:Fr}{x:V}(h:AV K H f x):iZ K H f x:=by
 rcases h with h | ⟨a,e,h⟩
 ·exact iZ.of h
 ·exact Y2P e (wM h)
def AV.t{K:Aa}{H H':Hp}{f:Fr}{x:V}(s:Y2o)(h:AV K H f x):AV K H' f x:=by
 rcases h with h | h
 ·exact .inl (h.flat s (dS f))
 ·exact .inr h
def AV.same{K:Aa}{H H':Hp}{f:Fr}{x:V}(s:Y1)(h:AV K H f x):AV K H' f x:=h.t s.t
def VG{H:Hp}{fs:Ah}{ws:Y12}{v:V}(h:Y3V v):∃a af aw xf xw,v=Yi/\H a=Yf [.ref af,.ref aw]/\H af=Yf xf/\H aw=Yf xw/\Y64 H .str xf/\Y1f (ws.map wD) xw:=by
 obtain⟨a,n,rfl,m,i⟩:=oT h;obtain⟨x,y,rfl,d,l⟩:=DK i;obtain⟨af,xf,rfl,e,c⟩:=oT d;obtain⟨aw,xw,rfl,j,g⟩:=oT l;exact⟨a,af,aw,xf,xw,rfl,m,e,j,c,g⟩
inductive jP:Yq
 | i {H:Hp} {Q:VK} {E:XK} {v:V} {fs:Ah} {ws:Y12} (h:Y3V v) (q:Y1M (ws.length:Nat)):jP [v] H Q E
inductive GH:Yq
 | i {H:Hp} {Q:VK} {E:XK} {v:V} {fs:Ah} {ws:Y12} {w:Str × Ak} {i:Nat} (h:Y3V v) (hw:ws[i]?=some w) (q:∀x,Y3D H w.2 x->Q x H):GH [v,.int (i:Int)] H Q E
structure BOk(B:Nat)(fs:Ak):Prop where
 low:∀f∈fs,Y0l
 up:∀f∈fs,f.1.natAbs<=2^B
 dn:∀f∈fs,f.2.natAbs<=2^B
inductive wQ (K:Aa):Yq
 | i {H:Hp} {Q:VK} {E:XK} {x:V} {f:Fr} {c B:Nat} (h:iZ K H f x) (h1:f.1.natAbs<=2^B) (h2:f.2.natAbs<=2^B) (h3:B<=4000) (h5:c<=4000) (h4:B*c<=4000) (q:zW H Q (zQ f c)):wQ K [x,.int (c:Int)] H Q E
def GS{x:Int}{n:Nat}(h:x.natAbs<=2^n)(hn:n<=4000):Y5l (2^4001):=aK h (YdW Oo)
def VS{f:Fr}{n:Nat}(h1:f.1.natAbs<=2^n)(h2:f.2.natAbs<=2^n){k:Nat}(hk:n<k):tE k f:=⟨aK h1 (YdW hk),aK h2 (YdW hk)⟩
inductive jO (K:Aa):Yq
 | i {H:Hp} {Q:VK} {E:XK} {v cv:V} {fs:Ah} {ws:Y12} {w:Str × Ak} {cs:Ae} {i:Nat} (h:Y3V v) (hw:ws[i]?=some w) (hc:Y4F H cs cv) (ok:BOk 10 w.2) (hs:cs.sum<=390) (q:∀x H',Y1->AV K H' (nV (w.2.zip cs)) x->Q x H'):jO K [v,.int (i:Int),cv] H Q E
def aAz{α β:Type}{l:Yu}{m:List β}{i:Nat}{a:α}{b:β}(h1:l[i]?=some a)(h2:m[i]?=some b):(l.zip m)[i]?=some (a,b):=by rw[List.getElem?_zip_eq_some];exact⟨h1,h2⟩
def aAy{α:Type}(l:Yu)(m:Ae)(i:Nat):(((l.zip m).take i).map (·.2)).sum<=m.sum:=by
 induction l generalizing m i with
 | nil=>simp
 | cons a l ih =>
  cases m with
  | nil=>simp
  | cons b m =>
   cases i with
   | zero=>simp
   | succ i =>
    have:=ih m i;simp only[List.zip_cons_cons,List.take_succ_cons,bE,List.sum_cons];exact Oo
def sL{α β:Type}{l:Yu}{m:List β}{i:Nat}{z:α × β}(h:z∈(l.zip m).take i):z.1∈l:=(List.of_mem_zip (a:=z.1) (b:=z.2) (List.mem_of_mem_take h)).1
def aAJ{m:Ae}{i c:Nat}(h:m[i]?=Y1v):c<=m.sum:=by
 induction m generalizing i with
 | nil=>simp at h
 | cons a m ih =>
  rw[List.sum_cons];cases i with
  | zero=>cases(show a=c by simpa using h);exact Oo
  | succ i=>have:=ih (i:=i) (by simpa using h);exact Oo
section
def aHr(F:Yb "ways_of" "ways_of" aDc)(T:Ye):dO P w K mg base cV 1 f fd a20 jP:=by
 refine F.oky aIH λz H Q E h=>?_;obtain @⟨H,Q,E,v,fs,y,h,q⟩:=h;refine Y5 (λj A d s m=>?_);obtain⟨a,B,n,l,u,rfl,g,p,i,r,e⟩:=VG h;refine Y4x (jH oA (by rfl) T.b_len Kk (Y18 Y2e)) (Y0T g);refine rlT i ?_;rw[gZ e];exact q
def aHs(F:Yb "way_shares" "way_shares" aDd)(T:Ye):dO P w K mg base cV 1 f fd ["trial","way"] GH:=by
 refine YdO aII ?_;obtain @⟨H,Q,E,v,fs,O,w,i,h,l,q⟩:=h;refine Y5 (λC A e s G=>?_);obtain⟨a,S,I,D,N,rfl,p,J,r,M,g⟩:=VG h;obtain⟨u,B,ru⟩:=kK g l;obtain⟨b,U,rfl,n,d⟩:=oT ru;obtain⟨y,z,rfl,L,m⟩:=DK d;refine Y4x (bQ bJ (bQ bJ (Y2e) (Y0f)) aL) (Y0T p);refine Y6 (lG r (dW (j:=i) B) ?_);exact lG n rfl (q _ m)
def aHG(F:Yb "power" "power" aDq)(T:Ye):dO P w K mg base cV 1 f fd ["share","count"] (wQ K):=by
 refine F.oky TY λM H Q E h=>?_;obtain @⟨H,Q,E,x,f,n,B,⟨a,rfl,l⟩,p,m,r,L,z,q⟩:=h;refine Y5 (λG A e s J=>?_);refine⟨_,(aH (Y1D TY.nd aL)
  (aH (Y1t TY.nd aL)
  (aH (gK PassesOwn.never rfl (Y7N 1) (Yai 4 TY.nd) (aH (Y1D TY.nd (Y1R dN 2 Y2e))
  (aS (Y1t TY.nd (Y1R dN 3 Y2e)))))
  (Y8Q (Y1S 2 Y0r))))),?_⟩
 refine Yr;intro u D;refine⟨_,rfl,_,rfl,Oo,Oo,oQ (λi σ H'=>Ex1 λd=>An2 (σ=[Y4l,Yg (n:Int),Yg (f.1^i),Yg (f.2^i),d]) (H'=H)) (Y0R (by rw[Int.pow_zero,Int.pow_zero];rfl)) ?_ ?_⟩
 ·rintro i σ H1 N ⟨d,rfl,rfl⟩;refine Y9W;intro u D;have j:B*i<=4000:=aJ (dY _ Oo) z;refine Y05 (Y7q l ?_);refine Y4k _ (GS (yG p i) j) (GS p r) (Y05 (Y7q l ?_));exact Y4k _ (GS (yG m i) j) (GS m r) (Y0R (by rw[Int.pow_succ,Int.pow_succ];rfl))
 ·rintro σ H1 ⟨d,rfl,rfl⟩;refine Y0g;exact rG (by show 2<=64;decide) λy H3 g C I=>q y H3 g (by rw[C];rfl) I
def aHq(F:Yb "weight" "weight" aDb)(T:Ye)
  (FQ69:Y01 "way_shares" ["trial","way"] GH) (FQ66:Y6t 2 "times" K) (FQ55:Y01 "power" ["share","count"] (wQ K)):dO P w K mg base cV 3 f fd a07 (jO K):=by
 refine Y1j ZO;obtain @⟨H,Q,E,v,cv,fs,ws,w,a,j,h,β,δ,ok,hs,q⟩:=h;refine Y5 (λγ A D s hr=>?_);refine⟨_,(aH (Y1t ZO.nd (Ybo Ybc T.g_ONE rfl))
  (aH (Y7B (lF true true rfl T.b_zip (Y2s (Y2A FQ69 0 1) Y02)) (Y7h 4 ZO.nd 5 ZO.nd lC) (Y2j 3 ZO.nd FQ66 3 (Y2A FQ55 4 5)))
  (Y2z 3))),?_⟩
 refine Yr;intro κ n_;refine Y0g;refine GH.i h β λx Y=>?_;obtain⟨α,R,rfl,J,U⟩:=oT Y;obtain⟨S,O,rfl,G,M⟩:=oT δ;refine⟨_,rfl,α,S,R,O,rfl,J,G,?_⟩;have χ:=gZ U;have ζ:=gZ M;have N:∀i,∀z∈(w.2.zip a).take i,eK z.1:=λi z d=>ok.low _ (sL d);have zb:∀i,∀z∈(w.2.zip a).take i,z.1.1.natAbs<=2^10/\z.1.2.natAbs<=2^10:=λi z d=>⟨ok.up _ (sL d),ok.dn _ (sL d)⟩;refine uY (λi σ H'=>Ex3 λx p m=>Ya4 (σ=[Ys,Yg (j:Int),Y3 S,Y7,p,m]) (AV K H' (nV ((w.2.zip a).take i)) x)) (Y6n _ _ _ Y08 (.inr (Y6 T.o_ONE))) (λi σ H' ⟨x,p,m,_,I,_⟩=>⟨I _ _ J,I _ _ G⟩) ?_ ?_
 ·rintro i y z μ σ H1 H2 ο d ⟨x,p,m,rfl,u,r⟩ ν τ C;obtain⟨g,X,ξ⟩:=fC U ο;obtain⟨n,L,ι⟩:=fC M d;cases(show z=V.int (n:Int)from ι);have l:=aE X;have nn:=aAJ L;refine⟨μ,_,rfl,jA.of τ,rfl,_,_,rfl,_,_,rfl,rfl,Y2B⟩;intro κ;refine Y2E (wQ.i (B:=10) (iZ.of (ξ.same (u.trans C))) (ok.up _ l) (ok.dn _ l) Dd Oo Oo ?_);intro ω H4 θ ψ W;obtain⟨η,b2⟩:=aAE ((w.2.zip a).take i) (N i) (zb i);have zs:=aAy w.2 a i;have φ:=yG (ok.up _ l) n;have Z:=yG (ok.dn _ l) n;refine eJ.i (iZ.same (C.trans W) r.v) (iZ.new (f:=zQ g n) ψ) (tH _ (N i)) (oZ (ok.low _ l) n) (VS η b2 Oo) (VS φ Z Oo) ?_;intro q5 H5 ε υ ρ;refine Y6n _ _ _ (((u.trans C).trans W).trans ρ) ?_;rw[gT (aAz X L),xV];exact .inl (fG υ)
 ·rintro σ H1 ⟨x,p,m,rfl,u,r⟩;refine Y6 (q _ H1 u ?_);have e:(w.2.zip a).take (min R.length O.length)=w.2.zip a:=List.take_of_length_le (by rw[List.length_zip];exact Oo)
  rwa [e]at r
end
inductive jZ:Yq
 | i {H:Hp} {Q:VK} {E:XK} {v:V} {fs:Ah} {ws:Y12} (h:Y3V v) (q:Y1M (fs.length:Nat)):jZ [v] H Q E
section
def aH5(F:Yb "faces_of" "faces_of" aDO)(T:Ye):dO P w K mg base cV 1 f fd a20 jZ:=by
 refine F.oky aI2 λz H Q E h=>?_;obtain @⟨H,Q,E,v,fs,u,h,q⟩:=h;refine Y5 (λl A d s n=>?_);obtain⟨a,B,p,m,r,rfl,i,e,y,g,j⟩:=VG h;refine Y4x (jH oA (by rfl) T.b_len Kk (Y18 Y2e)) (Y0T i);refine rlT e ?_;rw[gZ g];exact q
end
def nU(H:Hp)(a:Addr)(cs:Ab):Prop:=∃vs,H a=Yl vs/\Yb1 uZ vs
theorem mH:∀cs:Ab,kE (cs.map uZ)=true
 | []=>rfl
 | c::cs=>by show(kF (uZ c)&&kE (cs.map uZ))=true;rw[mH cs,rJ];rfl
theorem nU.same{H H':Hp}{a:Addr}{cs:Ab}(h:nU H a cs)(s:Y1):nU H' a cs:=by
 obtain⟨e,c,d⟩:=h;exact⟨e,s _ _ c,d.same s⟩
def nU.len{H:Hp}{a:Addr}{cs:Ab}(h:nU H a cs):∃vs,H a=Yl vs/\Yb1 uZ vs/\Y6V cs.length:=by
 obtain⟨vs,d,c⟩:=h;exact⟨vs,d,c,gZ c⟩
theorem bI.app{H:Hp}:∀{ds es:Y1p}{xs ys:Al},Y8C xs->Y1f es ys->Y1f (ds++es) (xs++ys)
 | [],es,xs,ys,h1,h2=>by
  have:xs=[]:=h1;subst this;exact h2
 | d::ds,es,xs,ys,h1,h2=>by
  unfold bI at h1;obtain⟨x,a,rfl,c,e⟩:=(show ∃x a,xs=x::a/\dI H d x/\bI H ds a from h1);exact bI.cons c (bI.app e h2)
def rH{α:Type}(g:Y03 Yu)(i:Nat):(List.range (i+1)).flatMap g=(List.range i).flatMap g++g i:=by
 rw[List.range_succ,List.flatMap_append];simp
@[irreducible] def oX(n:Nat):Sp:=λvs H Q _=>∃F m:Nat,vs=[.int (F:Int),.int (m:Int)]/\1<=F/\F<=n/\F<=4/\m<=5/\∀a H',Y1->H a=none->nU H' a (cta F m)->Y0u a
def VY{n:Nat}{H:Hp}{Q:VK}{E:XK}{F m:Nat}(h1:1<=F)(h2:F<=n)(h4:F<=4)(h3:m<=5)(q:∀a H',Y1->H a=none->nU H' a (cta F m)->Y0u a):oX n [.int (F:Int),.int (m:Int)] H Q E:=by unfold oX;exact⟨F,m,rfl,h1,h2,h4,h3,q⟩
def IT{n:Nat}{H:Hp}{Q:VK}{E:XK}{F m:Nat}{x y:Int}(ex:x=(F:Int))(ey:y=(m:Int))(h1:1<=F)(h2:F<=n)(h4:F<=4)(h3:m<=5)(q:∀a H',Y1->H a=none->nU H' a (cta F m)->Y0u a):oX n [.int x,.int y] H Q E:=by
 subst ex ey;exact VY h1 h2 h4 h3 q
inductive uQ:Yq
 | i {H:Hp} {Q:VK} {E:XK} {F m:Nat} (h1:1<=F) (h4:F<=4) (h3:m<=5) (q:∀a H',Y1->H a=none->nU H' a ((List.range (m+1)).flatMap (cta F))->Y0u a):uQ [.int (F:Int),.int (m:Int)] H Q E
def yQ:∀F,F<=4->∀m,m<=5->(cta F m).length<=56:=Kk
def MQ:∀F,F<=3->∀m,m<=5->∀i,i<=6->((List.range i).flatMap λk=>(cta F (m-k)).map λc=>k::c).length<=400:=Kk
def yV:∀F,F<=4->∀i,i<=6->((List.range i).flatMap (cta F)).length<=400:=Kk
def ZF{F m:Nat}{c:Ae}(h:c∈cta F m):Y33:=(iU h).1
section
def aG6(F:Yb "counts_that_are" "counts_that_are" aAT)(T:Ye):dO P w K mg base cV 1 f fd a28 (oX 0):=by
 refine F.okw aB4 (λg H Q E h=>?_) (λi A a s H g Q E j h=>?_)
 ·unfold oX at h;obtain⟨F,m,_,e,d,_⟩:=h;exact Oo
 ·unfold oX at h;obtain⟨F,m,_,e,d,_⟩:=h;exact Oo
def aH7(n:Nat)(F:Yb "counts_that_are" "counts_that_are" aAT)(T:Ye)(FQ28:Y1n (1+n) "counts_that_are" a28 (oX n)) :
  dO P w K mg base cV (1+n+1) f fd a28 (oX (n+1)):=by
 refine F.oky aB4 λZ H Q E h=>?_;unfold oX at h;obtain⟨F,m,rfl,S,R,h4,ρ,q⟩:=h;refine Y5 (λν A I s τ=>?_);refine⟨_,(aH (Y5m (Y1r rF 0 aL) (iQ (Y18 (dX (Y4U 1)))))
  (aH (Y1D aB4.nd (iQ aQ))
  (aH (Y7B (Y71 (Y3K fT 1)) (Yc9 3 aB4.nd rfl rfl) (lP (Ydb MV Y02 (Y18 (Y7p ["rest","first"] [3] (eG (tJ FQ28 (τ.mono Oo) (Y2s (Y3K qD 0) (Y2X qD 1 3)))) (cD (AK K) (dX (Y4U 1)) (Yz)))))))
  (Y2z 2)))),?_⟩
 refine Yr;intro α n_;refine Y7s _ rfl _ rfl (CK (Y54) (Y54))
 ·have ε:F=1:=by injection e with e;exact Oo
  refine Y2B;intro α;subst ε;refine Y9;refine rG (by show 1<=64;decide) λp0 H0 ab η s0=>DT (by show 1<=64;decide) λξ H1 N r p=>q ξ H1 (s0.trans p) (s0.free N) (Y0b _ r);exact Y6P (dI.tup (p _ _ η) (Y6P Y8O))
 ·have ε:F≠1:=λz=>e (by rw[z];rfl);obtain⟨G,rfl⟩:∃G,F=G+2:=Y2l (F-2);refine DT (by show 0<=64;decide) λL H1 β r p=>⟨_,rfl,_,_,rfl,rfl,_,rfl,Oo,Oo,?_⟩;rw[show((m:Int)+1).toNat=m+1 by exact Oo];refine oQ (λi σ H'=>Ex1 λB=>Ya4 (σ=[Yg ((G+2:Nat):Int),Yg (m:Int),Y3 L,B]) (nU H' L ((List.range i).flatMap λk=>(cta (G+1) (m-k)).map λc=>k::c))) ⟨_,rfl,p,[],r,bI.nil⟩ ?_ ?_
  ·rintro i σ H2 hi ⟨B,rfl,C,Z,g,U⟩;refine Y5A;intro α;have lv:=gZ U;have μ:=MQ (G+1) Oo m ρ i Oo;refine Y41 _ (VD g) ⟨_,rfl,_,_,rfl,rfl,Y4Q _ _ _ _ rfl ?_⟩;refine IT (F:=G+1) (m:=m-i) Oo Oo Oo Oo Oo Oo λb H3 W hb ζ=>?_;obtain⟨ws,δ,θ,ο⟩:=ζ.len;have aa:=yQ (G+1) Oo (m-i) Oo;refine Y1A b δ (fD (λj y H'=>∃c,(cta (G+1) (m-i))[j]?=Y1v/\Y4F H' (i::c) y) (λj y H1 H2 s ⟨c,S,R⟩=>⟨c,S,R.flat s (rJ _)⟩) Oo δ (λj x H' Q' χ ι k'=>?_) (λD υ H4 γ O s4 hy u=>?_))
   ·obtain⟨c,l,M⟩:=fC θ χ;obtain⟨ac,xc,rfl,J,d⟩:=oT (M.same ι);have lc:=gZ d;have ψ:=ZF (aE l);refine Y9;refine rG (by show 1<=64;decide) λp4 H5 hp4 e4 a=>Y9;refine aBY e4 (a _ _ J) (by simp only[cL,List.length_nil];exact Oo) λp5 H6 X κ=>k' _ H6 (a.trans X) ⟨c,l,dI.tup κ ?_⟩;rw[show(0:Int)+(i:Int)=(i:Int)by exact Oo];exact bI.cons (Y8O) (d.same (a.trans X))
   ·have S4:=W.trans s4;have φ:D≠L:=λz=>by subst z;rw[W _ _ g]at γ;cases γ
    refine aE4 (S4 _ _ g) O Oo λH5 e5 a=>?_;have Y:=a.t (S4 _ _ g);refine⟨_,rfl,aT.thru β (C.trans S4) a,Z++υ,e5,?_⟩;rw[rH,bD];refine bI.app (Yb8 Y _ (U.same S4)) (Yb8 Y _ ?_);refine bI.ofIdx (by rw[hy,aA,aA];exact Oo) λj y ω=>?_;obtain⟨c,l,M⟩:=u j y ω;exact Y0U (by rw[aG,aG,l];rfl) M
  ·rintro σ H2 ⟨B,rfl,C,l2⟩;exact Y6 (q L H2 C β l2)
def aIi(F:Yb "all_counts" "all_counts" aD1)(T:Ye)(FQ28:Y1n 5 "counts_that_are" a28 (oX 4)) :
  dO P w K mg base cV 6 f fd a48 uQ:=by
 refine F.oky aFg λr H Q E h=>?_;obtain @⟨H,Q,E,F,m,M,a,Z,q⟩:=h;refine Y5 (λU A e s X=>?_);refine⟨_,(aH (Y1D aFg.nd (iQ aQ))
  (aH (Y6m (Y71 (Y3K fT 1)) 3 aFg.nd (lP (Ydb MV Y02 (Y18 (Y2A FQ28 0 3)))))
  (Y2z 2))),?_⟩
 refine Yr;intro C α;refine DT (by show 0<=64;decide) λL H1 y z W=>⟨_,rfl,_,_,rfl,rfl,_,rfl,Oo,Oo,?_⟩;rw[show((m:Int)+1).toNat=m+1 by exact Oo];refine oQ (λi σ H'=>Ex1 λg=>Ya4 (σ=[Yg (F:Int),Yg (m:Int),Y3 L,g]) (nU H' L ((List.range i).flatMap (cta F)))) ⟨_,rfl,W,[],z,bI.nil⟩ ?_ ?_
 ·rintro i σ H2 β ⟨g,rfl,l,r,j,u⟩;refine Y5A;intro C;have γ:=gZ u;have S:=yV F a i Oo;refine Y41 _ (VD j) Y0g;refine IT (F:=F) (m:=i) rfl Oo M a a Oo λb H3 d Y B=>?_;obtain⟨R,J,G,O⟩:=B.len;have D:=yQ F a i Oo;refine aE4 (d _ _ j) J Oo λH5 N n=>?_;have p:=n.t (d _ _ j);refine⟨_,rfl,aT.thru y (l.trans d) n,r++R,N,?_⟩;rw[rH,bD];exact bI.app (Yb8 p _ (u.same d)) (Yb8 p _ G)
 ·rintro σ H2 ⟨g,rfl,l,I⟩;exact Y6 (q L H2 l y I)
end
abbrev FI(n:Nat):V:=.int (n:Int)
theorem KK{H:Hp}:∀cs:Ae,Yb1 (λ(n:Nat)=>PyData.int (n:Int)) (cs.map FI)
 | []=>bI.nil
 | n::cs=>bI.cons (dI.int _) (KK cs)
theorem FS{H:Hp}:∀{cs:Ae}{xs:Al},Yb1 (λ(n:Nat)=>PyData.int (n:Int)) xs->xs=cs.map FI
 | [],xs,h=>h
 | n::cs,xs,h=>by
  unfold bI at h;obtain⟨x,xs',rfl,hx,hr⟩:=(show ∃x xs',xs=x::xs'/\dI H (PyData.int (n:Int)) x/\bI H (cs.map λ(n:Nat)=>PyData.int (n:Int)) xs' from h);rw[FS hr];cases(show x=V.int (n:Int)from hx)
  rfl
def iG{H:Hp}{cs:Ae}{v:V}(h:Y4F H cs v):∃a,v=Yi/\H a=Yf (cs.map FI):=by
 obtain⟨a,e,rfl,c,d⟩:=oT h;rw[FS d]at c;exact Y00 a c
def wA{H:Hp}{cs:Ae}{a:Addr}(h:H a=Yf (cs.map FI)):Y4F H cs Yi:=dI.tup h (KK cs)
def ZU{cs:Ae}{i:Nat}(h:i<cs.length):cG cs i=cs.take i++[cs.getD i 0+1]++cs.drop (i+1):=by
 unfold cG;rw[List.set_eq_take_append_cons_drop,Y5C,List.append_assoc]
 rfl
def aAM{K:Aa}{H:Hp}{a:Addr}{xs:Al}{k:Nat}{z:Int}{Q:VK}(hz:z=(k:Int))(h:H a=Y1d)(q:∀c H',Y1->H' c=Yf (xs.drop k)->Y0u c):ML K (Yi) (some z) none H Q:=by
 subst hz;exact aC4 h q
inductive pR:Yq
 | i {H:Hp} {Q:VK} {E:XK} {x:V} {cs:Ae} {i:Nat} (h1:Y4F H cs x) (h2:i<cs.length) (h3:cs.length<=64) (k:∀v H',Y1->Y4F H' (cG cs i) v->Y1L):pR [x,.int (i:Int)] H Q E
inductive fV:Yq
 | i {H:Hp} {Q:VK} {E:XK} {x:V} {cs:Ae} (h1:Y4F H cs x) (h3:cs.length<=64) (k:Y3f (H D=none) (Y0G=Y0c->bI H' (((List.range cs.length).map (cG cs)).map uZ) ys->Y1->Y1a)):fV [x] H Q E
section
def aHN(F:Yb "one_more" "one_more" aDx)(T:Ye):dO P w K mg base cV 1 f fd a46 pR:=by
 refine F.oky aIS λU H Q E h=>?_;obtain @⟨H,Q,E,x,d,i,u,r,W,k⟩:=h;refine Y5 (λJ A e s N=>?_);obtain⟨a,rfl,g⟩:=iG u;refine Y4x (cD (AK K) (cD (AK K) (oR (OW K) (Yz) rW (rV (Y0f))) (dX (Y18 (cD fT (Y4m 0 Y0f) aL)))) (oR (OW K) (Yz) (rV (Y3K fT 1)) rW)) Y4c;refine aC5 g λS H2 l B=>Y0g;have j:DX (d.map FI) (i:Int)=some (FI (Y7a i)):=dW (by rw[aG,aR,aC r];rfl);refine lG (l _ _ g) j (Y5N _ ?_);refine rG (by show 1<=64;decide) λM H3 z C m=>aBY (m _ _ B) C (by rw[gB,aA];show min i d.length+1<=1000;exact Oo) λR H4 p I=>Y4Q _ _ _ _ rfl ?_;refine Y9;refine aAM (k:=i+1) Oo (p _ _ (m _ _ (l _ _ g))) λL H5 n G=>aBY (n _ _ I) G (by rw[aV,gB,List.length_drop,aA];show min i d.length+1+(d.length-(i+1))<=1000;exact Oo) λO H6 y D=>k _ H6 ((((l.trans m).trans p).trans n).trans y) (wA ?_);rw[D,ZU r,bD,bD,List.map_take,List.map_drop]
 rfl
def aHM(F:Yb "ones_more" "ones_more" aDw)(T:Ye)(FQ48:Y01 "one_more" a46 pR):dO P w K mg base cV 2 f fd a34 fV:=by
 refine YdO aIR ?_;obtain @⟨H,Q,E,x,n,p,M,k⟩:=h;refine Y5 (λN A j s O=>?_);obtain⟨a,rfl,I⟩:=iG p;refine Y6c _ (Y7p ["face","counts"] [0] (Y71 (Y8J oA (by rfl) Kk 0)) (Y2A FQ48 1 0));refine Y6 (rlT I ?_);rw[aA];refine⟨_,rfl,Oo,Oo,Y9H (i<n.length/\Y4F H' (cG n i) y) (λi y H1 H2 s ⟨m,l⟩=>⟨m,l.flat s (rJ _)⟩) Oo (λi H' Q' r J u=>?_) (λD G H4 C d L e g=>?_)⟩
 ·rw[Int.zero_add];refine Y0g;exact pR.i (p.same J) Oo M λv H5 B z=>u _ H5 B ⟨Oo,z⟩
 ·refine k D G H4 C d ?_ L;refine bI.ofIdx (by rw[e,aA,aA,aW];exact Oo) λi y r=>?_;obtain⟨m,l⟩:=g i y r;exact⟨uZ (cG n i),by rw[aG,aG,bM m];rfl,l⟩
end
abbrev aC8:Stmt:=(top 66)
def ZN:Yd ["trial","aim","prices","rising","worth_of","counts","sums"] a40 aC8:={}
abbrev aDh:Stmt:=(top 67)
def KP:Yd ["trial","aim","prices","counts","worth_of","weights","dues","all_dues","sums","looks","met","worths_behind"] a09 aDh:={}
abbrev mQ(ws:Y12):Aj:=ws.map λx=>x.2
def ci(c:Ae):Af:=c.map λ(n:Nat)=>(n:Int)
def fL(c:Ae):(ci c).map V.int=c.map FI:=by unfold ci;rw[List.map_map];rfl
def HL(c:Ae):(ci c).sum=(c.sum:Nat):=by
 induction c with
 | nil=>rfl
 | cons a c ih =>
  have e:ci (a::c)=(a:Int)::ci c:=rfl;rw[e,List.sum_cons,List.sum_cons,ih];exact Oo
theorem jU:∀{a b:Ae},ci a=ci b->a=b
 | [],[],_=>rfl
 | [],b::bs,h=>by cases h
 | a::as,[],h=>by cases h
 | a::as,b::bs,h=>by
  have h:(a:Int)::ci as=(b:Int)::ci bs:=h;injection h with h1 h2;rw[jU h2,show a=b by exact Oo]
structure DW(H:Hp)(kvs:Yv)(S:Ab)(val:Ae->Fr):Prop where
 yes:∀c∈S,∃v,Y2Z c=Ys/\Y4o H (val c) v
 len:Y6Y S.length
def DW.t{H H':Hp}{kvs:Yv}{S:Ab}{val:Ae->Fr}(s:Y2o)(h:DW H kvs S val):DW H' kvs S val :=
 ⟨λc e=>by obtain⟨v,d,a⟩:=h.yes c e;exact⟨v,d,a.flat s (dS _)⟩,h.len⟩
def DW.put{H:Hp}{kvs:Yv}{S:Ab}{val:Ae->Fr}(h:DW H kvs S val){c:Ae}{v:V}(r:Y4o H (val c) v):DW H (Y7Q c v) (c::S) val:=by
 refine⟨Yb0,by have:=h.len;have:=Y5K kvs c v;rw[cL];exact Oo⟩;rw[iC];by_cases e:d=c
 ·subst e;rw[Yt];exact Y00 v r
 ·rw[Y4r (e (Y3C q))];rcases bN.mp hd with hd | hd
  ·exact absurd hd e
  ·exact h.yes d hd
def aU.tT{H H':Hp}{p:Addr}(s:Y1e){kvs:Yv}(hp:H p=Y1q):Y2o:=Yct (sW h hp (by intro z;cases z)) h
def smQ(W F:Nat)(q:Y3g)(mix ps cs:Yy):Y03 (Ae->Y2y)
 | 0,c=>nX W λv=>ps v*q v c
 | n+1,c=>nX W (λv=>ps v*q v c)++[cs c.sum*cF W (λv=>mix v*q v c)+cF F (λj=>qI W F q mix ps cs n (cG c j))]
def US{W F:Nat}{q:Y3g}{mix ps cs:Yy}(n:Nat)(c:Ae):qI W F q mix ps cs n c=mO (smQ W F q mix ps cs n c):=by cases n <;> rfl
abbrev pO(M Ns Nm Np Nc:Nat):Nat:=Np*Nc*Nm*Ns^M
section
variable{F W M:Nat}{ss:Aj}{mix ps cs:Ak}{Ns Nm Np Nc B:Nat}
def iM(I:lA F W M ss mix ps cs Ns Nm Np Nc B){C:Nat}{f:Fr}(h:Fn (pO M Ns Nm Np Nc) C f)(hC:C<=2^690):Y3O:=mL h I.pos I.sz (Y4j hC)
def DJ(I:lA F W M ss mix ps cs Ns Nm Np Nc B){C:Nat}{fs:Ak}(h:∀f∈fs,Fn (pO M Ns Nm Np Nc) C f)(hl:Y9J 64)(hC:C<=2^690):KY fs:=uC h I.pos I.sz hl hC
def qF:1000000000000<=2^690:=Y4j (show 1000000000000<=2^40 by decide)
def vK:4*WB<=2^690:=aJa
def RE(I:lA F W M ss mix ps cs Ns Nm Np Nc B){n:Nat}(hn:n<=5):8^(n+1)*B<=WB :=
 aJ (bO _ (aI Dd Oo)) (aJ (Nat.le_of_eq (show 8^7*B=2097152*B from rfl)) I.b)
def kM(ss:Aj)(ps:Ak)(c:Ae)(i:Nat):Fr:=lM (ps.getD i (0,1)) (nV ((ss.getD i []).zip c))
def vC(I:lA F W M ss mix ps cs Ns Nm Np Nc B){i:Nat}(hi:i<W)(c:Ae):eK (nV ((ss.getD i []).zip c)) :=
 tH _ λz d=>((I.sh _ (eM (by rw[I.sl];exact hi))).2 z.1 (Yd2 z.1 z.2).1).low
def AU(I:lA F W M ss mix ps cs Ns Nm Np Nc B){i:Nat}(hi:i<W){c:Ae}(hc:Y4h M):Fn (pO M Ns Nm Np Nc) 1 (nV ((ss.getD i []).zip c)) :=
 Qn.f (vC I hi c) ((I.qn hi hc).dvd ⟨Np*Nc*Nm,by unfold pO;ac_rfl⟩)
def RC(I:lA F W M ss mix ps cs Ns Nm Np Nc B){i:Nat}(hi:i<W):Fn (pO M Ns Nm Np Nc) B (ps.getD i (0,1)) :=
 (I.pr _ (eM (by rw[I.pl];exact hi))).dvd ⟨Nc*Nm*Ns^M,by unfold pO;ac_rfl⟩
def HR(I:lA F W M ss mix ps cs Ns Nm Np Nc B){i:Nat}(hi:i<W):Fn (pO M Ns Nm Np Nc) 1 (mix.getD i (0,1)) :=
 (I.mx _ (eM (by rw[I.ml];exact hi))).dvd ⟨Np*Nc*Ns^M,by unfold pO;ac_rfl⟩
def RD(I:lA F W M ss mix ps cs Ns Nm Np Nc B){i:Nat}(hi:i<M):Fn (pO M Ns Nm Np Nc) B (cs.getD i (0,1)) :=
 (I.co _ (eM (by rw[I.cl];exact hi))).dvd ⟨Np*Nm*Ns^M,by unfold pO;ac_rfl⟩
def rQ(I:lA F W M ss mix ps cs Ns Nm Np Nc B){i:Nat}(hi:i<W)(c:Ae):eK (kM ss ps c i)/\rv (kM ss ps c i)=cS ps i*Y2g i:=by
 have a:=(RC I hi).low;have d:=vC I hi c;exact⟨hJ a d,jR a.pos d.pos⟩
def HU(I:lA F W M ss mix ps cs Ns Nm Np Nc B){i:Nat}(hi:i<W){c:Ae}(hc:Y4h M):Fn (pO M Ns Nm Np Nc) B (kM ss ps c i) :=
 Qn.f (rQ I hi c).1 (by rw[(rQ I hi c).2];exact I.due hi hc)
def rP(I:lA F W M ss mix ps cs Ns Nm Np Nc B){i:Nat}(hi:i<W)(c:Ae):eK (kM ss mix c i)/\rv (kM ss mix c i)=Y4L i*Y2g i:=by
 have a:=(HR I hi).low;have d:=vC I hi c;exact⟨hJ a d,jR a.pos d.pos⟩
def KW(I:lA F W M ss mix ps cs Ns Nm Np Nc B){i:Nat}(hi:i<W){c:Ae}(hc:Y4h M):Fn (pO M Ns Nm Np Nc) 1 (kM ss mix c i) :=
 Qn.f (rP I hi c).1 (by rw[(rP I hi c).2];exact(I.met hi hc).dvd ⟨Np*Nc,by unfold pO;ac_rfl⟩)
end
def AG{n:Nat}{g:Y03 Fr}(h:∀i,i<n->eK (g i)):eK (oG ((List.range n).map g))/\rv (oG ((List.range n).map g))=Y4C n (rv (g i)):=by
 have a:∀f∈(List.range n).map g,Y0l:=λf d=>by
  obtain⟨i,c,rfl⟩:=aN.mp d;exact h i (cC.mp c)
 refine Y0A (BE _ a);rw[MH _ a,List.map_map];rfl
abbrev woD(rs:Ab)(val:Ae->Fr):PyData:=.tuple (rs.map λc=>.tuple [uZ c,iY (val c)])
abbrev wvF(F W M:Nat)(ss:Aj)(mix ps cs:Ak)(c:Ae):Fr:=fJ (wor F W M ss mix ps cs c)
structure aGF(N:Nat)(qs:Y2y)(gs:Ak):Prop where
 v:gs.map rv=qs
 n:∀g∈gs,Fn N WB g
 l0:0<gs.length
 l1:gs.length<=5
structure zX(K:Aa)(H:Hp)(fs:Ak)(xs:Al):Prop where
 len:Y5u fs.length
 at_:∀(i:Nat) (x:V),Y0s=Y7->∃f,fs[i]?=Y5Q/\AV K H f x
theorem zX.t{K:Aa}{H H':Hp}{fs:Ak}{xs:Al}(s:Y2o)(h:zX K H fs xs):zX K H' fs xs:=⟨h.len,λi x e=>by
 obtain⟨f,c,a⟩:=h.at_ i x e;exact⟨f,c,a.t s⟩⟩
theorem zX.v{K:Aa}{H:Hp}{fs:Ak}{xs:Al}(h:zX K H fs xs):wE K H fs xs:=⟨h.len,λi x e=>by
 obtain⟨f,c,a⟩:=h.at_ i x e;exact⟨f,c,a.v⟩⟩
def DZ(K:Aa)(H:Hp)(fs:Ak)(z:V):Prop:=∃sa sx,z=.ref sa/\H sa=Yf sx/\zX K H fs sx
theorem DZ.t{K:Aa}{H H':Hp}{fs:Ak}{z:V}(s:Y2o)(h:DZ K H fs z):DZ K H' fs z:=by
 obtain⟨g,e,c,a,d⟩:=h;exact⟨g,e,c,s _ _ a,d.t s⟩
def zX.get{K:Aa}{H:Hp}{fs:Ak}{xs:Al}(h:zX K H fs xs){i:Nat}{f:Fr}(e:fs[i]?=Y5Q):∃x,Y0s=Y7/\AV K H f x:=by
 have d:=(aB.mp e).1;have a:Y0s=some (xs[i]'(by rw[h.len];exact d)):=aC (by rw[h.len];exact d);obtain⟨g,c,j⟩:=h.at_ i _ a;rw[e]at c;cases c;exact Y0U a j
def DZ.of{K:Aa}{H:Hp}{fs:Ak}{v:V}(h:Y3D H fs v):DZ K H fs v:=by
 obtain⟨a,g,rfl,j,r⟩:=sE h;refine Y7s a g j (gZ r) (λi x e=>?_);obtain⟨f,d,c⟩:=fC r e;exact⟨f,d,.inl c⟩
def wF(K:Aa)(H:Hp)(M:Nat)(bs mix cs:Ak)(v:V):Prop:=∃a x1 x2 x3,v=Yi/\H a=Yf [.int (M:Int),x1,x2,x3]/\Y3D H bs x1/\Y3D H mix x2/\DZ K H cs x3
theorem wF.t{K:Aa}{H H':Hp}{M:Nat}{bs mix cs:Ak}{v:V}(h:wF K H M bs mix cs v)(s:Y2o):wF K H' M bs mix cs v:=by
 obtain⟨a,j,d,i,e,c,g,m,l⟩:=h;exact⟨a,j,d,i,e,s _ _ c,g.flat s (iI _),m.flat s (iI _),l.t s⟩
def wF.same{K:Aa}{H H':Hp}{M:Nat}{bs mix cs:Ak}{v:V}(h:wF K H M bs mix cs v)(s:Y1):wF K H' M bs mix cs v:=h.t s.t
inductive AA (K:Aa):Yq
 | i {H:Hp} {Q:VK} {E:XK} {tv av pv cv:V} {p:Addr} {fs:Ah} {ws:Y12} {bs mix ps cs:Ak} {c:Ae} {kvs:Yv} {F W M Ns Nm Np Nc B:Nat} (h1:Y3V tv) (h2:wF K H M bs mix cs av) (h3:Y3D H ps pv) (h4:Y4F H c cv) (h5:H p=Y1q) (I:lA F W M (Y13) mix ps cs Ns Nm Np Nc B) (b:∀x∈ws,BOk 10 x.2) (cl:Y33) (cm:Y4h M) (kn:Y1O->∀j,j<F->∃v,Y2Z (cG c j)=Ys/\Y4o H (wvF F W M (Y13) mix ps cs (cG c j)) v) (k:∀D xs gs H',Y1->H D=none->Y0G=Y0P->bI H' (gs.map iY) xs->aGF (pO M Ns Nm Np Nc) (smQ W F (hZ (Y13)) (Y6T) (cS ps) (cS cs) (Y2L) c) gs->Y1a):AA K [tv,av,pv,cv,Y0Z] H Q E
def bI.ofRange{H:Hp}{n:Nat}{g:Y03 Fr}{ys:Al}(hl:Y2x n)(h:∀(i:Nat) (y:V),Y1m=Y09->i<n/\Y4o H (g i) y):Y1f (((List.range n).map g).map iY) ys:=by
 refine bI.ofIdx (by rw[aA,aA,aW,hl]) λi y d=>?_;obtain⟨c,a⟩:=h i y d;exact Y0U (by rw[aG,aG,bM c];rfl) a
def iL{α:Type}{l:Yu}{i:Nat}{a d:α}(h:l[i]?=some a):l.getD i d=a:=by rw[aR,h];rfl
section
def aHw(F:Yb "sums_at" "sums_at" aDh)(T:Ye)
  (FQ71:Y2Q "weight" a07 (jO K)) (FQ70:Y01 "ways_of" a20 jP) (FQ66:Y6t 2 "times" K) (FQ68:Y2Q "total" a27 (jL K))
  (FQ42:Y69 3 "less" (qW K)) (FQ49:Y2i "ones_more" a34 fV) (FQ54:Y69 2 "plus" (kJ K)):dO P w K mg base cV 4 f fd a09 (AA K):=by
 refine Y1j KP;obtain @⟨H,Q,E,tv,av,pv,cv,p,fs,ws,bs,m,r,G,c,kvs,F,W,M,τ,μ,ο,ν,B,rt,ra,rp,rc,hp,I,hb,χ,C,kn,k⟩:=h;refine Yak ?_;generalize hss:mQ ws=l at I kn k;have lws:ws.length=W:=by have:=I.sl;rw[<-hss,aA]at this;exact this
 have hbB:=I.b;have hW1:=aGE;have w4:=I.w4;have w1:=I.w1;have N:B<=2^690:=aJ Oo vK;obtain⟨ap,vp,rfl,hap,ψ⟩:=sE rp;obtain⟨ac,rfl,hac⟩:=iG rc;obtain⟨aa,xb,xm,xc,rfl,ζ,rxb,rxm,rxc⟩:=ra;obtain⟨am,vm,rfl,ham,rvm⟩:=sE rxm;obtain⟨ak,vk,rfl,hak,rvk⟩:=rxc;have lvp:vp.length=W:=by rw[gZ ψ,I.pl]
 have lvm:vm.length=W:=by rw[gZ rvm,I.ml]
 refine⟨_,(aH (iP (i:=5) (dB.o ["way","trial","counts"] [0,3]) KP.nd rfl rfl (Y71 (Y0y FQ70 0)) Ybl (λ_ _ _ _=>lQ FQ71 (Y0f) (Yz) (Y02)))
  (aH (wJ (i:=6) (eP.o ["price","one"] ["price","one"] []) KP.nd rfl rfl (lF true false rfl T.b_zip (Y1S 2 (aD 5))) (Ybl) (λ_ _ _ _=>(Y2A FQ66 0 1)))
  (aH (Y4b 7 KP.nd (Y0y FQ68 6))
  (aH (iP (i:=8) (dB.o ["due","all_dues"] [7]) KP.nd rfl rfl (eG (aD 6)) Ybl (λ_ _ _ _=>Y2A FQ42 1 0))
  (aH (cP (i:=9) KP.nd (Y68 (AT K rfl) (by rfl) T.b_sum Kk 3))
  (aH (LM (iS (Y1r xD 9 Y2d) (aH (cP (i:=10) KP.nd (fP FQ68 (Y76 ["share","one"] ["share","one"] [] (lF true false rfl T.b_zip (Y2s Y2d (aD 5))) (Y2A FQ66 0 1))))
  (aH (cP (i:=11) KP.nd (fP FQ68 (Y7p ["more","worth_of"] [4] (eG (Y0y FQ49 3)) (Y7d hr.u1 Yz))))
  (aS (lP (Y8R vT (aD 8) (cQ FQ54 (cQ FQ66 (bQ bJ (Y2d) (aD 9)) (aD 10)) (aD 11))))))) fK))
  (Y2z 8))))))),?_⟩
 refine Yr;intro ρ ξ;refine Y6 (jP.i rt ?_);rw[lws];refine⟨_,rfl,Oo,Oo,Y9H (i<W/\AV K H' (nV ((l.getD i []).zip c)) y) (λi y H1 H2 s ⟨J,O⟩=>⟨J,O.t s⟩) Oo (λi H' Q' a u X=>?_) (λD5 zs H5 hD5 e5 s5 hz5 hr5=>?_)⟩
 ·rw[Int.zero_add];have a:i<W:=Oo;obtain⟨x,D⟩:∃x,ws[i]?=Y7:=Y2c Oo;refine Y4c;refine jO.i (rt.same u) D (rc.same u) (hb x (aE D)) (by have:=I.m5;exact Oo) λy H6 s6 r6=>X _ H6 s6 (Y0A a);have e:l.getD i []=x.2:=iL (by rw[<-hss,aG,D];rfl);rw[e];exact r6
 have lz:zs.length=W:=Oo;refine Yw;intro ρ ξ;refine⟨_,rfl,_,rfl,ap,D5,vp,zs,rfl,s5 _ _ hap,e5,kP (xs:=vp) (ys:=zs) (λi y H'=>i<W/\Y3i (kM l r c i) y) (λi y H1 H2 s ⟨J,O⟩=>⟨J,O.flat s (dS _)⟩) Oo (s5 _ _ hap) e5 Oo (λi x y H' Q' D hy u X=>?_) (λD6 us H6 hD6 e6 s6 hu6 hr6=>?_)⟩
 ·obtain⟨f1,η,δ⟩:=ψ.atI D;obtain⟨a,fy⟩:=hr5 i y hy;have υ:r.getD i (0,1)=f1:=iL η;refine Y0g;have θ:=RC I a;rw[υ]at θ;refine eJ.i (iZ.of (δ.same (s5.trans u))) (fy.same u).v θ.low (vC I a c) (iM I θ N) (Y49 I (AU I a C) Dd qF) ?_;intro q7 H7 hq7 e7 L;refine X _ H7 L ⟨a,fG ?_⟩;rw[e7];unfold kM;rw[υ]
 have r6:bI H6 (((List.range W).map (kM l r c)).map iY) us:=Y9p hr6;refine Yw;intro ρ ξ;have S6:=s5.trans s6;obtain⟨tl,tvq⟩:=AG (n:=W) (g:=kM l r c) λi a=>(rQ I a c).1;have dn:∀g∈(List.range W).map (kM l r c),Fn (pO M τ μ ο ν) B g:=λg z=>by
  obtain⟨i,a,rfl⟩:=aN.mp z;exact HU I (Y7f) C
 refine Y9;refine Y9I e6 r6 (DJ I dn (by rw[aA,aW];exact Oo) N) (λv7 H7 L r7=>Yw);intro ρ ξ;have tn:=Fn.tot _ dn;rw[aA,aW]at tn;have wB:W*B<=4*B:=bO _ w4;generalize htot:oG ((List.range W).map (kM l r c))=tot at r7 tl tvq tn;refine Y4J _ D6 (Y89 _ (L _ _ e6)) (fD (λi y H'=>i<W/\Y3i (pJ tot (yJ (kM l r c i))) y) (λi y H1 H2 s ⟨J,O⟩=>⟨J,O.flat s (dS _)⟩) Oo (L _ _ e6) (λi x H' Q' D u X=>?_) (λD8 ys H8 hD8 e8 s8 hy8 hr8=>?_))
 ·obtain⟨a,rx⟩:=hr6 i x D;refine Y05 (qW.i (iZ.of (r7.same u)) (iZ.of (rx.same (L.trans u))) tl (rQ I a c).1 (Y49 I tn Oo vK) (iM I (HU I a C) N) ?_);intro q9 H9 hq9 e9 s9;exact X _ H9 s9 ⟨a,fG e9⟩
 have r8:bI H8 (((List.range W).map λi=>pJ tot (yJ (kM l r c i))).map iY) ys:=Y9p hr8;refine Yw;intro ρ ξ;have sv:((List.range W).map λi=>pJ tot (yJ (kM l r c i))).map rv=nX W λv=>cS r v*hZ l v c:=by
  unfold nX;rw[List.map_map];refine fO λi a=>?_;have a:=Y7f;obtain⟨d1,d2⟩:=rQ I a c;show rv (pJ tot (yJ (kM l r c i)))=_;rw[sF tl.pos (xG d1).pos,show yJ (kM l r c i)=(-(kM l r c i).1,(kM l r c i).2)from rfl,MI,tvq,d2,<-Rat.sub_eq_add_neg];congr 1;exact bR λj hj=>(rQ I hj c).2
 have sn:∀g∈(List.range W).map (λi=>pJ tot (yJ (kM l r c i))),Fn (pO M τ μ ο ν) (W*B+B) g:=λg z=>by
  obtain⟨i,a,rfl⟩:=aN.mp z;exact tn.add (HU I (Y7f) C).neg
 have S8:=(S6.trans L).trans s8;have α:H D8=none:=(S6.trans L).free hD8;refine Y6 (rsT (ns:=ci c) (by rw[fL];exact jA.of (S8 _ _ hac)) ?_);rw[HL];refine Y0b (λσ H'=>∃(o10 o11:Am) (xs:Al) (gs:Ak),σ=[some tv,Y3 aa,Y3 ap,Y3 ac,Y3 p,Y3 D5,Y3 D6,some v7,Y3 D8,Yg ((c.sum:Nat):Int),o10,o11]/\Y1/\H' D8=Y0P/\bI H' (gs.map iY) xs/\aGF (pO M τ μ ο ν) (smQ W F (hZ l) (cS m) (cS r) (cS G) (Y2L) c) gs) ?_
 ·rintro σ H9 ⟨o10,o11,xs,gs,rfl,S9,e9,r9,ok9⟩;exact Y6 (k D8 xs gs H9 S9 α e9 r9 ok9)
 refine Y86 (S8 _ _ ζ);refine Y5i _ _ _ (CK (Y9P) (Y9P))
 ·have U:Y1O:=Oo;refine Yr;intro ρ ξ;have S86:aT H5 H8:=(s6.trans L).trans s8;refine Y0T (S8 _ _ ζ);refine⟨_,rfl,am,D5,vm,zs,rfl,S8 _ _ ham,S86 _ _ e5,kP (xs:=vm) (ys:=zs) (λi y H'=>i<W/\Y3i (kM l m c i) y) (λi y H1 H2 s ⟨J,O⟩=>⟨J,O.flat s (dS _)⟩) Oo (S8 _ _ ham) (S86 _ _ e5) Oo (λi x y H' Q' D hy u X=>?_) (λD9 us9 H9 hD9 e9 s9 hu9 hr9=>?_)⟩
  ·obtain⟨f1,η,δ⟩:=rvm.atI D;obtain⟨a,fy⟩:=hr5 i y hy;have υ:m.getD i (0,1)=f1:=iL η;refine Y0g;have θ:=HR I a;rw[υ]at θ;refine eJ.i (iZ.of (δ.same (S8.trans u))) (fy.same (S86.trans u)).v θ.low (vC I a c) (Y49 I θ Dd qF) (Y49 I (AU I a C) Dd qF) ?_;intro q7 H7 hq7 e7 L;refine X _ H7 L ⟨a,fG ?_⟩;rw[e7];unfold kM;rw[υ]
  have r9:bI H9 (((List.range W).map (kM l m c)).map iY) us9:=Y9p hr9;have S9:=S8.trans s9;obtain⟨ml,mv⟩:=AG (n:=W) (g:=kM l m c) λi a=>(rP I a c).1;have mn:∀g∈(List.range W).map (kM l m c),Fn (pO M τ μ ο ν) 1 g:=λg z=>by
   obtain⟨i,a,rfl⟩:=aN.mp z;exact KW I (Y7f) C
  refine Y9I e9 r9 (DJ I mn (by rw[aA,aW];exact Oo) (aJ Dd qF)) (λv10 H10 s10 r10=>Yw);intro ρ ξ;have γ:=Fn.tot _ mn;rw[aA,aW]at γ;generalize hmet:oG ((List.range W).map (kM l m c))=met at r10 ml mv γ;have S10:=S9.trans s10;refine Y9;refine fV.i (rc.same S10) (by have:=I.f4;exact Oo) λD11 ms H11 hD11 ae r11 β=>?_;have S11:=S10.trans β;have lms:ms.length=F:=by rw[r11.len,aA,aA,aW,χ]
  refine Y1A D11 ae (fD (λi y H'=>i<F/\Y3i (wvF F W M l m r G (cG c i)) y) (λi y H1 H2 s ⟨J,O⟩=>⟨J,O.flat s (dS _)⟩) (by have:=I.f4;exact Oo) ae (λi x H' Q' D u X=>?_) (λD12 us H12 hD12 e12 κ hy12 φ=>?_))
  ·obtain⟨d,hd,rd⟩:=fC r11 D;have a:i<F:=by rw[<-lms];exact(aB.mp D).1
   have ed:d=cG c i:=by
    rw[aG,bM Oo]at hd;simpa using hd.symm
   subst ed;obtain⟨ad,rfl,had⟩:=iG (rd.same u);obtain⟨v,hv,rvv⟩:=kn U i a;refine Y05 (NJ ((S11.trans u) _ _ hp) (by rw[fL];exact had) hv ?_);exact X _ H' (Y08) ⟨a,rvv.same (S11.trans u)⟩
  have r12:bI H12 (((List.range F).map λi=>wvF F W M l m r G (cG c i)).map iY) us:=Y9p φ;have S12:=S11.trans κ;have wn:∀g∈(List.range F).map (λi=>wvF F W M l m r G (cG c i)),Fn (pO M τ μ ο ν) (8^(Y2L)*B) g:=λg z=>by
   obtain⟨i,a,rfl⟩:=aN.mp z;have a:=Y7f;refine Qn.fq ?_;have bs:=gR (c:=c) (j:=i) Oo;have:=I.worn (M-(cG c i).sum) (cG c i) (by rw[rO];exact χ) Oo;rw[show M-(cG c i).sum+1=M-c.sum by exact Oo]at this;exact this
  have b8:8^(Y2L)*B<=WB:=by
   have:=RE I (n:=Y2L-1) (by have:=I.m5;exact Oo)
   rwa [show M-c.sum-1+1=M-c.sum by exact Oo]at this
  obtain⟨wl,wv⟩:=AG (n:=F) (g:=λi=>wvF F W M l m r G (cG c i)) λi a=>Y06;refine Y9I e12 r12 (DJ I wn (by rw[aA,aW];have:=I.f4;exact Oo) (aJ Oo vK)) (λv13 H13 ι r13=>?_);have Y:=Fn.tot _ wn;rw[aA,aW]at Y;generalize htw:oG ((List.range F).map λi=>wvF F W M l m r G (cG c i))=tw at r13 wl wv Y;have S13:=S12.trans ι;have S8_13:aT H8 H13:=((((s9.trans s10).trans β).trans κ).trans ι);obtain⟨vkk,hvk,ω⟩:=rvk.get (i:=c.sum) (f:=YaY (0,1)) (by rw[aR,aC (by rw[I.cl];exact U)];rfl);have cn:=RD I U;refine⟨_,rfl,VD (S8_13 _ _ e8),_,rfl,Y8c (S13 _ _ ζ)⟩;refine Y6 (lG (S13 _ _ hak) (dW hvk) ?_);refine Y9;have hp14:=I.paid U;have em:rv met=Y0n (cS m v*hZ l v c):=by rw[mv];exact bR λj hj=>(rP I hj c).2
  have ab:rv (lM (YaY (0,1)) met)=cS G c.sum*Y0n (cS m v*hZ l v c):=by rw[jR cn.low.pos ml.pos,em];rfl
  have R:Fn (pO M τ μ ο ν) (4*B) (lM (YaY (0,1)) met):=Qn.f (hJ cn.low ml) (by rw[ab];exact hp14);refine eJ.i (ω.t S13.t).v (iZ.of (((r10.same β).same κ).same ι)) cn.low ml (iM I cn N) (Y49 I γ Oo qF) ?_;intro q14 H14 hq14 e14 S;refine Y9;have f4:=I.f4;have fB:F*(8^(Y2L)*B)<=4*(8^(Y2L)*B):=bO _ f4;refine kJ.i (iZ.new (f:=lM (YaY (0,1)) met) e14) (iZ.of (r13.same S)) R.low wl (Y49 I R Oo vK) (Y49 I Y Oo vK) ?_;intro q15 H15 hq15 e15 ε;have Z:=ε _ _ (S _ _ (S8_13 _ _ e8));refine NR Z Oo λH16 e16 b16=>?_;have t16:=b16.t Z;have S15:=(S13.trans S).trans ε;refine⟨_,_,_,((List.range W).map λi=>pJ tot (yJ (kM l r c i)))++[pJ (lM (YaY (0,1)) met) tw],rfl,aT.thru α S15 b16,e16,?_,?_,?_,?_,?_⟩
  ·rw[bD];exact bI.snoc (r8.flat (((S8_13.trans S).trans ε).t.trans t16) (kD _)) (dI.flat t16 (dS _) (fG e15))
  ·obtain⟨n,hn⟩:∃n,Y2L=n+1:=Y2l (Y2L-1);rw[bD,sv,hn];show _=nX W (λv=>cS r v*hZ l v c)++[_];congr 1;rw[bE,List.map_nil];congr 1;rw[sF R.low.pos wl.pos,ab,wv];congr 1;refine bR λj hj=>?_;rw[dC];unfold wor;rw[gR Oo,show M-(c.sum+1)=n by exact Oo]
  ·intro g z;rcases dH.mp z with z | z
   ·exact(sn g z).le Oo
   ·rw[bV.mp z];refine(R.add Y).le ?_;have b9:=RE I (n:=Y2L) (by have:=I.m5;exact Oo);rw[Nat.pow_succ,Nat.mul_comm (8^_) 8,Nat.mul_assoc]at b9;have J:1<=8^(Y2L):=Nat.one_le_pow _ _ Dd;have hB:B<=8^(Y2L)*B:=Y5U J;exact Oo
  ·simp
  ·rw[aV,aA,aW];show W+1<=5;exact Oo
 ·have e0:Y2L=0:=Oo;refine⟨_,_,_,_,rfl,S8,e8,r8,?_,λg z=>(sn g z).le Oo,by rw[aA,aW];exact Oo,by rw[aA,aW];exact Oo⟩;rw[e0,sv];rfl
end
inductive qO (K:Aa):Yq
 | i {H:Hp} {Q:VK} {E:XK} {tv av pv:V} {fs:Ah} {ws:Y12} {bs mix ps cs:Ak} {F W M Ns Nm Np Nc B:Nat} (h1:Y3V tv) (h0:Y6f F) (h2:wF K H M bs mix cs av) (h3:Y3D H ps pv) (I:lA F W M (Y13) mix ps cs Ns Nm Np Nc B) (b:∀x∈ws,BOk 10 x.2) (k:∀v H',Y1->dI H' (woD (Y0d) (wvF F W M (Y13) mix ps cs)) v->Y1L):qO K [tv,av,pv] H Q E
def BU:∀F,F<=4->∀M,M<=5->(Y0d).length<=400:=λF a M c=>yV F a (M+1) Oo
section
def aHn(F:Yb "worths" "worths" aC8)(T:Ye)
  (FQ17:Y1n 6 "all_counts" a48 uQ) (FQ30:Y01 "faces_of" a20 jZ) (FQ65:Y1n 4 "sums_at" a09 (AA K)) (FQ40:Y2i "least_place" a27 qY):dO P w K mg base cV 7 f fd a40 (qO K):=by
 refine F.oky ZN λa H Q E h=>?_;obtain @⟨H,Q,E,tv,av,pv,fs,ws,bs,J,ps,cs,F,W,M,Ns,Nm,Np,Nc,B,rt,hF,ra,rp,I,hb,k⟩:=h;refine Y5 (λcdv A υ s hr=>?_);have f1:=I.f1;have f4:=I.f4;have m5:=I.m5;have ψ:=ra;obtain⟨aa,xb,xm,xc,rfl,χ,rxb,rxm,rxc⟩:=ψ;refine⟨_,(aH (Y1t ZN.nd (cQ FQ17 (Y0y FQ30 0) (Y2d)))
  (aH (Y4b 4 ZN.nd nK)
  (aH (gK PassesOwn.never rfl (UT rfl T.b_reversed (Y4U 3)) (Yai 5 ZN.nd) (aH (cP (i:=6) ZN.nd (tJ FQ65 (hr.mono Dd) (bB (Yz) (bB Y0f (bB Y02 (Y1S 5 Y0V))))))
  (aS (jC hr.u1 (Y0V) (aD 5) (Y4m 6 (Y0y FQ40 6))))))
  (Y1c (Y57 dQ (by rfl) Kk ["counts","worth_of"] [4] (eG (Y0r)) (dX (Y1S 0 (Y7d hr.u1 Yz)))))))),?_⟩
 refine Yr;intro ω ο;refine Y6 (jZ.i rt ?_);rw[hF];refine Y0T χ;refine uQ.i f1 f4 m5 λR H1 s1 hR LR=>Yw;intro ω ο;obtain⟨a,X,η,α⟩:=LR.len;have X:H1 R=Yl a:=X;have η:bI H1 ((rise F M).map uZ) a:=η;have α:a.length=(Y0d).length:=α;have small:=BU F f4 M m5;intro p γ;refine Yw;intro ω ο;have S:=Y6N [] γ;have e2:(upd H1 p (.dT [])) p=Y07 []:=bK;generalize upd H1 p (.dT [])=H2 at S e2;have S2:=s1.trans S;have hp0:H p=none:=s1.free γ;have nRp:R≠p:=λz=>by rw[<-z,X]at γ;cases γ
 refine⟨_,rfl,R,a,rfl,gH.of (S _ _ X),QK (xs:=a) (λi σ H'=>Ex3 λ(o5 ξ:Am) (m:List (List fS × V))=>An6 (σ=[some tv,Y3 aa,some pv,Y3 R,Y3 p,o5,ξ]) (Y1) (H' R=Yl a) (bI H' ((rise F M).map uZ) a) (H' p=Y07 m) (DW H' m ((rise F M).drop (a.length-i)) (wvF F W M (Y13) J ps cs))) ⟨_,_,[],rfl,S2,S _ _ X,η.same S,e2,?_⟩ (Yat) ?_ ?_⟩
 ·rw[Nat.sub_zero,α,List.drop_length];exact⟨λc C=>(by cases C),by simp⟩
 ·obtain⟨_,_,_,_,_,h,_⟩:=q;exact gH.of h
 ·rintro i x σ H3 hi hx ⟨o5,ξ,m,rfl,S3,u,r,δ,D3⟩;refine Y9W;intro ω ο;obtain⟨c,C,β⟩:=fC r hx;have O:=(gA f1).mp (aE C);have dl:=D3.len;rw[List.length_drop]at dl;refine⟨_,rfl,_,rfl,_,rfl,_,rfl,_,rfl,?_⟩;refine AA.i (rt.same S3) (ra.same S3) (rp.same S3) β δ I hb O.1 O.2 (λhlt j hj=>?_) λD xs gs H4 G hD ζ r4 d=>?_
  ·have bs:=gR (c:=c) (j:=j) Oo;have τ:Y3G (cG c j):=(gA f1).mpr (Y2l (by rw[rO];exact O.1));have:=tU C τ Oo;rw[show a.length-1-i+1=a.length-i by exact Oo]at this;exact D3.yes _ this
  have lg:∀g∈gs,eK g/\Y40 g:=λg ε=>⟨(d.n g ε).low,Y49 I (d.n g ε) (Y5U Dd) vK⟩;refine Y0g;refine IS ζ r4 lg d.l0 (by have:=d.l1;exact Oo) λpl y L=>?_;obtain⟨vy,hvy,ry⟩:=kK r4 L.at_;refine Y47 ζ hvy ?_;have ey:y=wvF F W M (Y13) J ps cs c:=by
   have e:=jF.min L λg ε=>(lg g ε).1;rw[d.v,<-US]at e;rw[<-aE1 (lg y (aE L.at_)).1,e];rfl
  obtain⟨ac,rfl,N⟩:=iG (β.same G);refine Y0g;have U:=G _ _ δ;refine Y5w U c (by rw[fL];exact N) Oo (λH5 e5 b5=>?_);have t5:=aU.tT b5 U;refine⟨_,_,_,rfl,aT.thru hp0 (S3.trans G) b5,b5.at nRp (G _ _ u),Yb8 t5 _ (r.same G),e5,?_⟩;have hd:(rise F M).drop (a.length-(i+1))=c::(rise F M).drop (a.length-i):=by
   have hc':=aB.mp C;obtain⟨hc1,ι⟩:=hc';rw[show a.length-(i+1)=a.length-1-i by exact Oo,List.drop_eq_getElem_cons hc1,ι,show a.length-1-i+1=a.length-i by exact Oo]
  rw[hd];refine DW.t t5 (DW.put (DW.t G.t D3) ?_);rw[<-ey];exact ry
 ·rintro σ H3 ⟨o5,ξ,m,rfl,S3,u,r,δ,D3⟩;rw[Nat.sub_self,List.drop_zero]at D3;refine Y4J _ R (Y89 _ u) (fD (λi y H'=>∃c,Y0d[i]?=Y1v/\dI H' (.tuple [uZ c,iY (wvF F W M (Y13) J ps cs c)]) y) (λi y Ha Hb s ⟨c,ν,κ⟩=>⟨c,ν,κ.flat s (by show(kF (uZ c)&&(kF (iY _)&&true))=true;rw[rJ];rfl)⟩) Oo u (λi x H' Q' hx μ k'=>?_) (λD Y H4 hD ζ G ρ θ=>?_))
  ·obtain⟨c,C,β⟩:=fC r hx;obtain⟨v,hv,φ⟩:=D3.yes c (aE C);have Z:=β.same μ;obtain⟨ac,rfl,N⟩:=iG Z;refine Y2E (Y5x (μ _ _ δ) c (by rw[fL];exact N) hv ?_);exact rG (by show 2<=64;decide) λq5 H5 hq5 e5 s5=>k' _ H5 s5 ⟨c,C,YaA e5 (Z.same s5) (Y6P ((φ.same μ).same s5))⟩
  ·refine Y0X D Y (Y6W ζ ?_);have sl:=Y3b Y hl;have el:(upd H4 l (.tup Y)) l=Yf Y:=bK;generalize upd H4 l (.tup Y)=H5 at sl el;refine k _ H5 ((S3.trans G).trans sl) (dI.tup el (bI.ofIdx (by rw[ρ,aA,α]) λi y hi=>?_));obtain⟨c,ν,κ⟩:=θ i y hi;exact Y0U (by rw[aG,ν];rfl) (κ.same sl)
end
abbrev aD6:Stmt:=(top 86)
def aI4:Yd a01 a01 aD6:={}
abbrev aD4:Stmt:=(top 87)
def aI3:Yd a01 a01 aD4:={}
abbrev sQ5:Stmt:=(top 88)
def cQ5:Yd a01 a01 sQ5:={}
abbrev aD3:Stmt:=(top 89)
def aB9:Yd ["_law_some","_law_found","_law_one"] ["_law_some"] aD3:={}
inductive qV (K:Aa):Yq
 | i {H:Hp} {Q:VK} {E:XK} {x y:V} {f g:Fr} (h1:iZ K H f x) (h2:iZ K H g y) (l1:Y0l) (l2:eK g) (z1:Y3O) (z2:Y40 g) (q:zW H Q (pJ f g)):qV K [x,y] H Q E
inductive qU (K:Aa):Yq
 | i {H:Hp} {Q:VK} {E:XK} {x y:V} {f g:Fr} (h1:iZ K H f x) (h2:iZ K H g y) (l1:Y0l) (l2:eK g) (z1:Y3O) (z2:Y40 g) (q:zW H Q (lM f g)):qU K [x,y] H Q E
section
def aIn(F:Yb "_law_plus" "_law_plus" aD6)(T:Ye)(FQ9:Y01 "_law_frac" a04 iE):dO P w K mg base cV 2 f fd a01 (qV K):=by
 refine YbS aI4 ?_;obtain @⟨H,Q,E,x,y,f,g,p,n,r,m,d,a,q⟩:=h;refine Y5 (λu A j s B=>?_);obtain⟨z,rfl,e⟩:=p;obtain⟨C,rfl,l⟩:=n;refine Y4x (cQ FQ9 (cD fT (Y9Y 0) (Y7u dN 1 Y2e)) (Y9Y 0)) (Y0q e);refine Y0q l;refine Y4k _ d.1 a.2 (Y0q l);refine Y0q e;refine⟨_,_,rfl,rfl,mC a.1 d.2,_,_,rfl,rfl,Y0q e⟩;refine Y0q l;refine Y4k _ d.2 a.2 (iE.i (Int.mul_pos r.pos m.pos) (lU (GE d.2 a.2)) ?_);exact q
def aIl(F:Yb "_law_times" "_law_times" aD4)(T:Ye)(FQ9:Y01 "_law_frac" a04 iE):dO P w K mg base cV 2 f fd a01 (qU K):=by
 refine YbS aI3 ?_;obtain @⟨H,Q,E,x,y,f,g,p,n,r,m,e,a,q⟩:=h;refine Y5 (λu A d s B=>?_);obtain⟨z,rfl,j⟩:=p;obtain⟨C,rfl,l⟩:=n;refine Y4x (cQ FQ9 (Y9Y 0) (Y9Y 0)) (Y0q j);refine Y0q l;refine Y4k _ e.1 a.1 (Y0q j);refine Y0q l;refine Y4k _ e.2 a.2 (iE.i (Int.mul_pos r.pos m.pos) (lU (GE e.2 a.2)) ?_);exact q
end
inductive uO (K:Aa):Yq
 | i {H:Hp} {Q:VK} {E:XK} {a:Addr} {xs:Al} {fs:Ak} (h:H a=Y1d) (r:wE K H fs xs) (ok:KY fs) (q:∀v H',Y1->Y3i (oG fs) v->Y1L):uO K Y22 H Q E
section
def aIk(F:Yb "_law_total" "_law_total" aD3)(T:Ye)
  (FQ12:Y2i "_law_plus" a01 (qV K)):dO P w K mg base cV 3 f fd ["_law_some"] (uO K):=by
 refine F.oky aB9 λu H Q E h=>?_;obtain @⟨H,Q,E,a,u,fs,n,r,ok,q⟩:=h;refine Y5 (λR A m s S=>?_);have e:=r.len;refine⟨_,(aH (Y8G aB9.nd (Y3B aL aL))
  (aH (Y6m (tG (Yz)) 2 aB9.nd (Y2j 1 aB9.nd FQ12 1 Y02))
  (Y2z 1))),?_⟩
 refine Yr;intro B X;refine rG (by show 2<=64;decide) λU H0 D C s0=>Y4J _ a (Y7P (s0 _ _ n)) (QJ (xs:=u) (YaB (λw l=>Ya4 (σ=[Y4l,some w,l]) (Y3i (oG (Y8H)) w))) (Y0h _ _ s0 (fG C)) (λi σ H' _ p=>?_) ?_ ?_)
 ·obtain⟨w,l,rfl,d,_⟩:=p;exact jA.of (d _ _ n)
 ·rintro i x σ H1 L ⟨w,l,rfl,d,j⟩;refine Y5A;intro B;obtain⟨g,z,G⟩:=r.at_ i x L;have y:=aE z;obtain⟨I,M⟩:=ok.part i;refine Y05 (qV.i (iZ.of j) (iZ.same d G) I (ok.low _ y) M (ok.sz _ y) ?_);intro W H2 N J O;refine Y0h _ _ (d.trans O) ?_;rw[gT z,qJ];exact fG J
 ·rintro σ H1 ⟨w,l,rfl,d,j⟩;refine Y9;rw[e,dL]at j;exact q _ H1 d j
end
section
def oQ5(F:Yb "_law_below" "_law_below" sQ5)(T:Ye):dO P w K mg base cV 1 f fd a01 (oH K):=by
 refine F.oky cQ5 λr H Q E h=>?_;obtain @⟨H,Q,E,x,y,f,g,⟨m,rfl,d⟩,⟨p,rfl,i⟩,j,e,q⟩:=h;refine Y5 (λl A a s n=>?_);refine Y4x (lS xD (Y9Y 0) (Y7u dN 1 Y2e)) (Y0q d);refine Y0q i;refine Y4k _ j.1 e.2 (Y0q i);refine Y0q d;exact⟨_,_,rfl,rfl,mC e.1 j.2,_,_,rfl,rfl,q⟩
end
abbrev aDT:Stmt:=(top 57)
def aB7:Yd ["some","lower","one"] a27 aDT:={}
abbrev aDf:Stmt:=(top 58)
def aIJ:Yd a44 a44 aDf:={}
inductive rA (K:Aa):Yq
 | i {H:Hp} {Q:VK} {E:XK} {a:Addr} {xs:Al} {fs:Ak} {N:Nat} (h1:H a=Y0P) (h2:wE K H fs xs) (h3:0<N) (h4:N<Y0t) (h5:∀f∈fs,Y0l/\f.2.natAbs ∣ N) (k:∀L:Nat,0<L->L ∣ N->(∀f∈fs,f.2.natAbs ∣ L)->Y1M (L:Int)):rA K Y22 H Q E
section
def aIb(F:Yb "common_lower" "common_lower" aDT)(T:Ye)(FQ23:Y01 "common_divisor" a05 sU):dO P w K mg base cV 2 f fd a27 (rA K):=by
 refine F.oky aB7 λθ H Q E h=>?_;obtain @⟨H,Q,E,a,xs,fs,N,D,B,y,nz,r,k⟩:=h;refine Y5 (λS A p s ζ=>?_);refine⟨_,(aH (Y8G aB7.nd aL)
  (aH (Y6m (eG (Yz)) 2 aB7.nd (Y8G aB7.nd (Y1R dN 1 (Y7u gE 2 (cQ FQ23 (aD 1) (Y17 2))))))
  (Y2z 1))),?_⟩
 refine Yr;intro R ι;refine Y4J _ a (Y89 _ D) (mG (xs:=xs) (YaB (λ(L:Nat) (u:Am)=>An5 (σ=[Y4l,Yg (L:Int),u]) (H'=H) (0<L) (L ∣ N) (∀f∈fs.take i,f.2.natAbs ∣ L))) ⟨1,_,rfl,rfl,Dd,Nat.one_dvd _,λf r=>by simp at r⟩ (Yat) ?_ ?_)
 ·obtain⟨_,_,_,rfl,_⟩:=q;exact gH.of D
 ·rintro i x σ H2 Y ⟨L,u,rfl,rfl,m,n,l⟩;refine Y5A;intro R;obtain⟨g,J,ε,rfl,z⟩:=B.at_ i x Y;obtain⟨X,gN⟩:=r g (aE J);have Z:=X.pos;obtain⟨d,hd⟩:∃d:Nat,g.2=(d:Int):=Y2l g.2.toNat;have e:g.2.natAbs=d:=Oo;have G:0<d:=Oo;rw[e]at gN;have α:L<Y0t:=aK (kG y n) nz;have C:d<Y0t:=aK (kG y gN) nz;have M:(Int.gcd (L:Int) g.2)=(Nat.gcd L d):=by rw[hd];rfl
  have η:0<Nat.gcd L d:=Nat.gcd_pos_of_pos_left _ m;have O:Nat.gcd L d<=d:=Nat.gcd_le_right _ G;refine Y05 (Y7q z ?_);refine Y05 (Y7q z ?_);refine sU.i Z ?_;rw[M];have I:(2:Nat)^3000<=Y0W:=aI Dd Dd;have U:(2:Nat)^3000<=2^9000:=aI Dd Dd;have δ:(g.2/((Nat.gcd L d:Nat):Int)).natAbs<Y0W:=rZ (by rw[e];exact aO C I) Oo;refine⟨_,_,rfl,rfl,pZ Oo (by show(Nat.gcd L d)<_;exact aK O (aO C U)),_,_,rfl,rfl,mC (show(L:Int).natAbs<2^4000 from aO α I) δ,?_⟩;have W:(L:Int)*(g.2/((Nat.gcd L d:Nat):Int))=((Nat.lcm L d:Nat):Int):=by
   rw[hd,<-Int.natCast_ediv,<-Int.natCast_mul];congr 1;unfold Nat.lcm;rw[Nat.mul_div_assoc _ (Nat.gcd_dvd_right L d)]
  refine⟨Nat.lcm L d,_,by rw[<-W];rfl,rfl,Nat.lcm_pos m G,Nat.lcm_dvd n gN,λβ j=>?_⟩;rw[gT J]at j;rcases dH.mp j with h | h
  ·exact Nat.dvd_trans (l β h) (Nat.dvd_lcm_left _ _)
  ·rw[bV.mp h,e];exact Nat.dvd_lcm_right _ _
 ·rintro σ H2 ⟨L,u,rfl,rfl,m,n,l⟩;have γ:Y5u fs.length:=B.len;rw[γ,dL]at l;exact Y6 (k L m n l)
end
inductive oM (K:Aa):Yq
 | i {H:Hp} {Q:VK} {E:XK} {x:V} {f:Fr} {U:Nat} (h1:iZ K H f x) (h2:Y0l) (h3:Y3O) (h4:U<Y0t) (h5:f.2.natAbs ∣ U) (k:∀n:Int,(n:Rat)=rv f*(U:Rat)->Y1M n):oM K [x,.int (U:Int)] H Q E
section
def aHu(F:Yb "times_whole" "times_whole" aDf)(T:Ye):dO P w K mg base cV 1 f fd a44 (oM K):=by
 refine YbS aIJ ?_;obtain @⟨H,Q,E,x,f,U,⟨y,rfl,g⟩,m,j,l,hd,k⟩:=h;refine Y5 (λu A e s z=>?_);have a:=m.pos;obtain⟨r,d⟩:=hd;have n:(2:Nat)^3000<=Y0W:=aI Dd Dd;have i:(U:Int)=f.2*(r:Int):=by
  rw[d,Int.natCast_mul];congr 1;exact Oo
 refine Y4x (Y7u dN 0 (Y1R gE 1 Y2e)) (Y0q g);refine Y05 (Y7q g ?_);refine⟨_,_,rfl,rfl,pZ a (lU j.2),_,_,rfl,rfl,mC j.1 (rZ (show(U:Int).natAbs<2^4000 from aO l n) a),k _ ?_⟩;rw[i,Y4S _];have C:=pV a;have B:=kY a;have p:(U:Rat)=(f.2:Rat)*((r:Int):Rat):=by
  rw[<-Rat.intCast_mul,<-i];rfl
 rw[p,Rat.intCast_mul];grind
end
abbrev aDK:Stmt:=(top 59)
def aB2:Yd ["rising","some","unit","table","counts","one"] a41 aDK:={}
structure DI(kvs:Yv)(rs:Ab)(h:Y0K):Prop where
 yes:∀c∈rs,∃n:Int,Y2Z c=Yg n/\(n:Rat)=h c
 no:∀c,c ∉ rs->Y2Z c=none
 len:Y6Y rs.length
def DI.put{kvs:Yv}{rs:Ab}{h:Y0K}(D:DI kvs rs h){c:Ae}{n:Int}(e:(n:Rat)=h c):DI (Y7Q c Y5e) (rs++[c]) h:=by
 refine Y0b Yb0 Yb0
 ·rw[iC];by_cases q:d=c
  ·subst q;rw[Yt];exact Y00 n e
  ·rw[Y2t (q (Y3C z))];rcases dH.mp hd with hd | hd
   ·exact D.yes d hd
   ·exact Yck hd q
 ·rw[iC,Y2t (hd (Y9F _ (Y3C z)))];exact D.no d λz=>hd (cN _ z)
 ·have:=Y5K kvs c (V.int n);have:=D.len;rw[aV,List.length_singleton];exact Oo
inductive oW (K:Aa):Yq
 | i {H:Hp} {Q:VK} {E:XK} {a b:Addr} {rs:Ab} {ys:Al} {g:Ae->Fr} {U:Nat} (h1:nU H a rs) (h2:H b=Y0c) (h3:zX K H (rs.map g) ys) (h4:rs.length<=400) (h5:U<Y0t) (h6:∀c∈rs,eK (g c)/\Y40 (g c)/\(g c).2.natAbs ∣ U) (k:∀p kvs H',Y1->H p=none->H' p=Y1q->DI kvs rs (λc=>rv (g c)*(U:Rat))->Y0u p):oW K [Yi,Y0p,.int (U:Int)] H Q E
section
def aH1(F:Yb "in_units" "in_units" aDK)(T:Ye)(FQ67:Y01 "times_whole" a44 (oM K)):dO P w K mg base cV 2 f fd a41 (oW K):=by
 refine Y1j aB2;obtain @⟨H,Q,E,a,b,G,ys,g,U,LS,B,Y,l4,ε,ψ,k⟩:=h;refine Y5 (λδ A I s μ=>?_);obtain⟨xs,u,Z,lx⟩:=LS.len;refine⟨_,(aH (Y1t aB2.nd nK)
  (aH (Y7B (Ya9 0 Y0f) (Y7h 4 aB2.nd 5 aB2.nd lC) (jC μ.u1 (Y0r) (Y0V) (Y2A FQ67 5 2)))
  (Y2z 3))),?_⟩
 refine Yr;intro κ n_;intro p r;have e:=Y6N [] r;have D:(upd H p (.dT [])) p=Y07 []:=bK;generalize upd H p (.dT [])=H1 at e D;have L:a≠p:=λz=>by rw[z,r]at u;cases u
 have O:b≠p:=λz=>by rw[z,r]at B;cases B
 refine Y05 (Y0F a b xs ys (e _ _ u) (e _ _ B) (YcV xs ys (∃(R N:Am) (d:Yv),σ=[Y4l,Y3 b,Yg (U:Int),Y3 p,R,N]/\aU p H1 H'/\H' p=Y07 d/\DI d (G.take i) (λc=>rv (g c)*(U:Rat))) ⟨_,_,[],rfl,(Y08).but,D,⟨λc j=>by simp at j,λc _=>rfl,Y0x⟩⟩ (λi σ H' ⟨_,_,_,_,X,_⟩=>?_) ?_ ?_))
 ·exact⟨X.at L (e _ _ u),X.at O (e _ _ B)⟩
 ·rintro i y z ξ σ H3 H4 υ ζ ⟨R,N,d,rfl,C,S,D3⟩ ρ ω W;obtain⟨M,j,ν⟩:=fC Z υ;obtain⟨η,l,fw⟩:=Y.at_ i z ζ;have ι:η=g M:=by rw[aG,j]at l;simpa using l.symm
  subst ι;obtain⟨ο,θ,γ⟩:=ψ M (aE j);have τ:eZ H1 H3:=aU.tT C D;have m:eZ H H4:=(e.t.trans τ).trans W.t;obtain⟨ac,rfl,J⟩:=iG (ν.flat m (rJ _));refine⟨ξ,_,rfl,jA.of ω,rfl,_,_,rfl,_,_,rfl,rfl,Y2B⟩;intro κ;refine Y0g;refine oM.i (fw.t m).v ο θ ε γ λn β=>Y0g;have α:=D3.len;rw[gB]at α;refine Y5w (W _ _ S) M (by rw[fL];exact J) Oo (λH5 φ χ=>⟨_,_,_,rfl,(C.trans W.but).trans χ,φ,?_⟩);rw[gT j];exact D3.put β
 ·rintro σ H3 ⟨R,N,d,rfl,C,S,D3⟩;have ly:Y2x G.length:=by rw[Y.len,aA]
  rw[show min xs.length ys.length=G.length by exact Oo,dL]at D3;exact Y6 (k p d H3 (aT.thru r e C) r S D3)
end
abbrev aDC:Stmt:=(top 60)
def aGx:Yd ["trial","aim","counts","met"] a42 aDC:={}
def CC(W:Nat)(ss:Aj)(mix cs:Ak)(c:Ae):Rat:=Y7R*Y0m (Y4L w*Y2g w)
def HS{F W M:Nat}{ss:Aj}{mix ps cs:Ak}{Ns Nm Np Nc B:Nat}(I:lA F W M ss mix ps cs Ns Nm Np Nc B){c:Ae}(hc:Y1O):Fn (pO M Ns Nm Np Nc) (B*4) (fJ (CC W ss mix cs c)):=by
 have g:=(I.co _ (eM (a:=(0,1)) (show c.sum<cs.length by rw[I.cl];exact hc))).q;have e:=Yc6 (λw d=>I.met d (Nat.le_of_lt hc));have h:=(g.mul e).le (dY B (show W*1<=4 by have:=I.w4;exact Oo));exact(h.dvd ⟨Np,by unfold pO;ac_rfl⟩).fq
inductive pS (K:Aa):Yq
 | i {H:Hp} {Q:VK} {E:XK} {tv av cv:V} {fs:Ah} {ws:Y12} {bs mix ps cs:Ak} {c:Ae} {F W M Ns Nm Np Nc B:Nat} (h1:Y3V tv) (h2:wF K H M bs mix cs av) (h3:Y4F H c cv) (I:lA F W M (Y13) mix ps cs Ns Nm Np Nc B) (b:∀x∈ws,BOk 10 x.2) (hc:Y1O) (k:∀v H',Y1->Y3e H' (CC W (Y13) mix cs c) v->Y1L):pS K [tv,av,cv] H Q E
section
def aHS(F:Yb "look_cost" "look_cost" aDC)(T:Ye)(FQ66:Y6t 2 "times" K)(FQ71:Y2Q "weight" a07 (jO K))(FQ70:Y01 "ways_of" a20 jP)(FQ68:Y2Q "total" a27 (jL K)):dO P w K mg base cV 4 f fd a42 (pS K):=by
 refine Y1j aGx;obtain @⟨H,Q,E,tv,av,cv,fs,j,bs,a,ps,N,d,F,W,M,Ns,τ,ψ,υ,B,rt,ra,ω,I,Z,L,k⟩:=h;refine Y5 (λcdv A Y s hr=>?_);obtain⟨aa,xb,xm,xc,rfl,u,rxb,κ,R⟩:=ra;obtain⟨am,vm,rfl,ι,δ⟩:=sE κ;obtain⟨ac,vc,rfl,α,ξ⟩:=R;obtain⟨cu,rfl,O⟩:=iG ω;have wl:j.length=W:=by have:=I.sl;rw[aA]at this;exact this
 have w4:=I.w4;have m5:=I.m5;refine⟨_,(aH (iP (i:=3) (dB.o ["way","trial","aim","counts"] [0,1,2]) aGx.nd rfl rfl (Y71 (Y0y FQ70 0)) Ybl (λ_ _ _ _=>cQ FQ66 (bQ (iA K) (Y2O 2 aL) (Yz)) (lQ FQ71 (Y0f) (Yz) (Y0r))))
  (Y1c (cQ FQ66 (bQ bJ (Y2d) (Y68 (AT K rfl) (by rfl) T.b_sum Kk 2)) (Y0y FQ68 3)))),?_⟩
 refine Yr;intro d_ n_;refine Y6 (jP.i rt ?_);rw[wl];refine⟨_,rfl,Oo,Oo,Y9H (i<W/\Y3i (kM (mQ j) a d i) y) (λi y H1 H2 s ⟨h1,h2⟩=>⟨h1,h2.flat s (dS _)⟩) Oo (λi H' Q' e m k'=>?_) (λD ys H1 hD e1 J hy X=>?_)⟩
 ·have e:i<W:=Oo;obtain⟨x,ζ⟩:∃x,j[i]?=Y7:=Y2c (by rw[wl];exact e);have γ:=aE ζ;obtain⟨g,hg⟩:∃g,a[i]?=some g:=Y2c (by rw[I.ml];exact e);obtain⟨vg,θ,ν⟩:=kK δ hg;rw[Int.zero_add];refine Y0T (m _ _ u);refine Y6 (lG (m _ _ ι) (dW θ) ?_);refine Y4c;refine jO.i (rt.same m) ζ (ω.same m) (Z x γ) Oo λxw H2 p fw=>?_;have eg:a.getD i (0,1)=g:=iL hg;have φ:(mQ j).getD i []=x.2:=iL (by rw[aG,ζ];rfl);have β:=HR I e;have U:=AU I e (Nat.le_of_lt L);rw[eg]at β;rw[φ]at U;refine eJ.i (iZ.of ((ν.same m).same p)) fw.v β.low U.low (Y49 I β (show 1<=1000000000000 by decide) qF) (Y49 I U (show 1<=1000000000000 by decide) qF) λq3 H3 η ο S=>k' _ H3 (p.trans S) ⟨e,fG ?_⟩;unfold kM;rw[ο,eg,φ]
 have r1:bI H1 (((List.range W).map (kM (mQ j) a d)).map iY) ys:=Y9p X;have χ:∀f∈(List.range W).map (kM (mQ j) a d),Fn (pO M Ns τ ψ υ) 1 f:=λf hf=>by
  obtain⟨i,e,rfl⟩:=aN.mp hf;exact KW I (cC.mp e) (Nat.le_of_lt L)
 obtain⟨ε,ρ⟩:=AG (n:=W) (g:=kM (mQ j) a d) λi e=>(rP I e d).1;have tn:Fn (pO M Ns τ ψ υ) 4 (oG ((List.range W).map (kM (mQ j) a d))):=by
  have:=Fn.tot _ χ;rw[aA,aW]at this;exact this.le Oo
 obtain⟨μ,G⟩:∃g,N[d.sum]?=some g:=Y2c (by rw[I.cl];exact L);obtain⟨vgc,z,C⟩:=ξ.get G;have l:N.getD d.sum (0,1)=μ:=iL G;have r:=RD I L;rw[l]at r;refine Y0T (J _ _ u);refine Y6 (rsT (ns:=ci d) (by rw[fL];exact jA.of (J _ _ O)) ?_);rw[HL];refine lG (J _ _ α) (dW z) Y9;refine Y9I e1 r1 (uC χ I.pos I.sz (by rw[aA,aW];exact Oo) (aJ (show 1<=1000000000000 by decide) qF)) (λv2 H2 p r2=>?_);have hB:=I.b;refine eJ.i (((C.t J.t).t p.t).v) (iZ.of r2) r.low ε (Y49 I r (show B<=4*WB by exact Oo) vK) (Y49 I tn (show 4<=1000000000000 by decide) qF) λq3 H3 η ο S=>k _ H3 ((J.trans p).trans S) (fG ?_);rw[ο];have em:lM μ (oG ((List.range W).map (kM (mQ j) a d)))=fJ (CC W (mQ j) a N d):=iR (hJ r.low ε) (Y06) (by
  rw[jR r.low.pos ε.pos,dC,ρ];unfold CC;rw[show cS N d.sum=rv μ by unfold cS;rw[l]];congr 1;exact bR λi e=>(rP I e d).2)
 rw[em]
end
theorem HD{H:Hp}:∀{P:Y03 (Y0C Fr)}{ys:Al},(∀(i:Nat) (y:V),Y1m=Y09->∃f,Y4o H f y/\P i f)->∃fs:Ak,Y6f ys.length/\Y64 H iY ys/\∀(i:Nat) (f:Fr),fs[i]?=Y5Q->P i f
 | P,[],_=>⟨[],rfl,bI.nil,λi f h=>by simp at h⟩
 | P,y::ys,h=>by
  obtain⟨f,h1,h2⟩:=h 0 y rfl;obtain⟨fs,c,j,d⟩:=HD (P:=λi=>P (i+1)) (ys:=ys) λi z e=>h (i+1) z (by simpa using e);refine⟨f::fs,by rw[cL,cL,c],bI.cons h1 j,λi g a=>?_⟩;cases i with
  | zero=>cases(show f=g by simpa using a);exact h2
  | succ i=>exact d i g (by simpa using a)
def rY{fs:Ak}{i:Nat}{f:Fr}(h:fs[i]?=Y5Q):cS fs i=rv f:=by unfold cS;rw[iL h]
def nF{fs:Ak}{i:Nat}(h:Y9J i):cS fs i=0:=by
 unfold cS;rw[aR,cA h];exact nG
def GB{N B:Nat}{fs:Ak}(h:∀f∈fs,LJ N B f)(i:Nat):0<=cS fs i:=by
 by_cases hi:Y8M i
 ·have:=h _ (eM (a:=(0,1)) hi);exact BP this.1.low this.2
 ·rw[nF Oo];exact Rat.le_refl
def aEc{ss:Aj}(h:∀s∈ss,∀f∈s,Y0l/\0<=f.1)(v:Nat)(c:Ae):0<=Y2g v:=by
 unfold hZ;by_cases hv:v<ss.length
 ·exact aCp (h _ (eM hv))
 ·rw[aR,cA Oo];exact aCp λf a=>by cases a
def TrC.b{F W:Nat}{fs:Ah}{ws:Y12}(T:TrC F W fs ws):∀x∈ws,BOk 10 x.2:=λx c =>
 ⟨λf a=>((T.sh x c).at f a).1.low,λf a=>by have:=(T.sh x c).bits f a;show f.1.natAbs<=1024;exact Oo,λf a=>by have:=(T.sh x c).bits f a;show f.2.natAbs<=1024;exact Oo⟩
def TrC.nn{F W:Nat}{fs:Ah}{ws:Y12}(T:TrC F W fs ws)(v:Nat)(c:Ae):0<=hZ (Y13) v c:=aEc (λs e=>by
 obtain⟨x,a,rfl⟩:=aN.mp e;exact λf d=>⟨((T.sh x a).at f d).1.low,((T.sh x a).at f d).2⟩) v c
def NE{α:Type}(l:Yu):l.filter (λ_=>true)=l:=List.filter_eq_self.mpr λ_ _=>rfl
def MR{H:Hp}{α:Type}{g:α->Fr}{as:Yu}{ys:Al}(pr:Paired (λa y=>Y4o H (g a) y) as ys):Y1f ((as.map g).map iY) ys:=by
 rw[List.map_map];exact Paired.toRepL pr
section
variable{H H':Hp}{tv av pv:V}{fs:Ah}{ws:Y12}{bs mix ps cs:Ak}{F W M:Nat}
end
abbrev sQ3:Stmt:=(AQ (top 56) 0)
def cQ3:Yd ["self","trial","aim","way","weights","ahead","costs"] a21 sQ3:={}
def Fn.dn{N B:Nat}{f:Fr}(h:Y36)(hN:0<N):f.2.natAbs ∣ N:=by
 obtain⟨x,rfl,_⟩:=h.eq hN;unfold lw;show((N:Int)/((Int.gcd x (N:Int):Nat):Int)).natAbs ∣ N;rw[<-Int.natCast_ediv,Int.natAbs_natCast];refine Nat.div_dvd_of_dvd ?_;have:=Int.gcd_dvd_right (a:=x) (b:=(N:Int));exact Int.ofNat_dvd.mp this
def lkS{fl:Y3N}{f:Str}{v:V}:(eQ f v fl).lookup f=Ys:=by rw[eW,Yt]
def lkN{fl:Y3N}{f g:Str}{v u:V}(h:g≠f)(l:fl.lookup g=Yo):(eQ f v fl).lookup g=Yo:=by rw[eW,Y5D];exact l
def aU.tI{H H':Hp}{x C dx:Addr}{fl:Y3N}(s:Y65 x)(hx:H x=some (.ins C dx fl)):Y2o:=Yct (sW h hx (by intro z;cases z)) h
def nU.but{H H':Hp}{x C dx:Addr}{fl:Y3N}{a:Addr}{cs:Ab}(s:Y65 x)(hx:H x=some (.ins C dx fl))(h:nU H a cs):nU H' a cs:=by
 obtain⟨e,c,d⟩:=h;exact⟨e,s.at (sW c hx (by intro z;cases z)) c,d.flat (aU.tI s hx) (mH _)⟩
def nU.butL{H H':Hp}{x:Addr}{xs:Al}{a:Addr}{cs:Ab}(s:Y65 x)(hx:H x=Y0P)(n:a≠x)(h:nU H a cs):nU H' a cs:=by
 obtain⟨e,c,d⟩:=h;exact⟨e,s.at n c,d.flat (s.t hx) (mH _)⟩
def vL(H:Hp)(tas:Y0D)(ss:Aj)(rs:Ab)(us:Ae):Prop:=tas.length=us.length/\∀(i:Nat) (ta:Addr) (u:Nat),tas[i]?=some ta->us[i]?=Yo->∃kvs,H ta=Y1q/\DI kvs rs (λc=>Y2g i*(u:Rat))
def vL.mono{H H':Hp}{tas:Y0D}{ss:Aj}{rs:Ab}{us:Ae}(s:∀b kvs,H b=Y1q->H' b=Y1q)(h:vL H tas ss rs us):vL H' tas ss rs us:=⟨h.1,λi e u d a=>by
 obtain⟨kvs,c,g⟩:=h.2 i e u d a;exact⟨kvs,s _ _ c,g⟩⟩
def vL.snoc{H:Hp}{tas:Y0D}{ss:Aj}{rs:Ab}{us:Ae}{p:Addr}{u:Nat}{kvs:Yv}(h:vL H tas ss rs us)(hp:H p=Y1q)(D:DI kvs rs (λc=>Y2g us.length*(u:Rat))):vL H (tas++[p]) ss rs (us++[u]):=by
 refine⟨by rw[aV,aV,h.1];rfl,λi g v d a=>?_⟩;by_cases q:i<us.length
 ·rw[cM (by rw[h.1];exact q)]at d;rw[cM q]at a;exact h.2 i g v d a
 ·have j:=(Y6u).1;rw[aV,List.length_singleton]at j;have e:i=us.length:=Oo;subst e;rw[cJ (Yp),Nat.sub_self]at a;rw[cJ (by rw[h.1];exact Yp),h.1,Nat.sub_self]at d;cases d;cases a;exact⟨kvs,hp,D⟩
def ahd(F M:Nat):Ab:=(rise F M).filter λc=>Y1E c.sum M
structure zU(H:Hp)(x C:Addr)(F W M:Nat)(ss:Aj)(mix cs:Ak)(us:Ae)(cu:Nat):Prop where
 ul:Y3d W
 ex:∃(dx:Addr) (fl:Y3N) (ra ua wa ca:Addr) (tas:Y0D) (kvs:Yv),H x=some (.ins C dx fl)/\fl.lookup ("rising" : Str)=Y3 ra/\fl.lookup ("units" : Str)=Y3 ua/\fl.lookup ("weights" : Str)=Y3 wa/\fl.lookup ("cost_unit" : Str)=Yg (cu:Int)/\fl.lookup ("costs" : Str)=Y3 ca /\
  nU H ra (Y0d)/\H ua=Yl (us.map FI)/\H wa=Yl (tas.map V.ref)/\vL H tas ss (Y0d) us/\H ca=Y1q/\DI kvs (ahd F M) (λc=>CC W ss mix cs c*(cu:Rat))
theorem zU.same{H H':Hp}{x C:Addr}{F W M:Nat}{ss:Aj}{mix cs:Ak}{us:Ae}{cu:Nat}(s:Y1)(h:zU H x C F W M ss mix cs us cu):zU H' x C F W M ss mix cs us cu:=by
 obtain⟨j,m,p,r,B,l,n,c,d,w,G,u,i,A,J,D,I,y,z,e,a⟩:=h;exact⟨j,m,p,r,B,l,n,c,d,s _ _ w,G,u,i,A,J,D.same s,s _ _ I,s _ _ y,z.mono λb k g=>s _ _ g,s _ _ e,a⟩
structure HV(bs:Ak)(N:Nat)(us:Ae):Prop where
 d:∀u∈us,0<u/\u ∣ N
 b:∀(i:Nat) (f:Fr) (u:Nat),bs[i]?=Y5Q->us[i]?=Yo->f.2.natAbs ∣ u
def HV.snoc{bs:Ak}{N U:Nat}{us:Ae}{g:Fr}(h:HV bs N us)(hb:bs[us.length]?=some g)(u0:0<U)(uN:U ∣ N)(hd:g.2.natAbs ∣ U):HV bs N (us++[U]):=by
 refine⟨λu a=>?_,λi f u c a=>?_⟩
 ·rcases dH.mp a with a | a
  ·exact h.d u a
  ·rw[bV.mp a];exact⟨u0,uN⟩
 ·by_cases l:i<us.length
  ·rw[cM l]at a;exact h.b i f u c a
  ·have e:i=us.length:=by
    have:=(Y6u).1;rw[aV,List.length_singleton]at this;exact Oo
   subst e;rw[cJ (Yp),Nat.sub_self]at a;rw[hb]at c;cases a;cases c;exact hd
structure aGD(ws:Y12)(bs:Ak)(F W M Ns Nm Np Nc B Nb:Nat)(mix ps cs:Ak):Prop where
 wo:lA F W M (Y13) mix ps cs Ns Nm Np Nc B
 bo:∀x∈ws,BOk 10 x.2
 bl:bs.length=W
 bb:∀f∈bs,Y1y Nb 1
 nb:0<Nb
 sz:pO M Ns Nm Np Nc*Nb<Y0t
inductive wN (K:Aa) (C:Addr):Yq
 | i {H:Hp} {Q:VK} {E:XK} {x dx:Addr} {tv av:V} {fs:Ah} {ws:Y12} {bs mix ps cs:Ak} {F W M Ns Nm Np Nc B Nb:Nat} (h0:H x=some (.ins C dx [])) (h1:Y3V tv) (h2:Y6f F) (h3:wF K H M bs mix cs av) (h4:aGD ws bs F W M Ns Nm Np Nc B Nb mix ps cs) (k:∀us cu H',Y65 x->zU H' x C F W M (Y13) mix cs us cu->HV bs (Ns^M*Nb) us->0<cu->cu ∣ pO M Ns Nm Np Nc->Yad):wN K C [Y2a,tv,av] H Q E
section
def oQ3(F:Yb "__init__" "Weighing.__init__" sQ3)(T:Ye)(FQ17:Y1n 6 "all_counts" a48 uQ)(FQ30:Y01 "faces_of" a20 jZ)
  (FQ70:Y01 "ways_of" a20 jP) (FQ71:Y2Q "weight" a07 (jO K)) (FQ24:Y2i "common_lower" a27 (rA K)) (FQ34:Y2i "in_units" a41 (oW K))
  (FQ43:Y1n 4 "look_cost" a42 (pS K)):dO P w K mg base cV 7 f fd a21 (wN K c.Weighing):=by
 refine Y1j cQ3;obtain @⟨H,Q,E,x,l,tv,av,fs,κ,bs,ε,ps,cs,F,W,M,υ,Nm,Np,Nc,B,Nb,hx,rt,hF,ra,G,k⟩:=h;refine Yak ?_;have I:=G.wo;have f1:=I.f1;have f4:=I.f4;have m5:=I.m5;have w4:=I.w4;have O:=T.w_Weighing;have wl:κ.length=W:=by have:=I.sl;rw[aA]at this;exact this
 have ra0:=ra;obtain⟨aa,xb,xm,xc,rfl,haa,rxb,rxm,rxc⟩:=ra0;obtain⟨ab,vb,rfl,hab,rvb⟩:=sE rxb;have small:=BU F f4 M m5;have χ:0<υ^M*Nb:=fN (by
  have:=I.pos;exact Ydp (by rw[z,Nat.mul_zero]at this;exact Y1N)) G.nb
 have nsz:υ^M*Nb<Y0t:=aK (by
  have h0:0<Np*Nc*Nm:=Ydp (by have:=I.pos;rw[z,Nat.zero_mul]at this;exact Y1N)
  rw[show pO M υ Nm Np Nc*Nb=Np*Nc*Nm*(υ^M*Nb)by unfold pO;ac_rfl];exact Y5U h0) G.sz
 refine⟨_,(aH (Y6l (cQ FQ17 (Y0y FQ30 1) (Y17 2)))
  (aH (Y6l (iQ aQ))
  (aH (Y6l (iQ aQ))
  (aH (gK PassesOwn.never rfl (Y71 (Y0y FQ70 1)) (Yc9 3 cQ3.nd rfl rfl) (aH (iP (i:=4) (dB.o ["counts","trial","way"] [1,3]) cQ3.nd rfl rfl Y6i Ybl (λ_ _ _ _=>lQ FQ71 (Y0f) (Y02) (Yz)))
  (aH (lP (Y8R vT Y1Y (fP FQ24 (Y1R vR 4 (iQ (Y18 (bQ bJ (Y17 2) (Y0r))))))))
  (aS (lP (Y8R vT Y1Y (lQ FQ34 (Y1Y) (Y0V) (bQ bJ (Y1Y) (Y0r)))))))))
  (aH (iP (i:=5) (dB.o ["counts","aim"] [2]) cQ3.nd rfl rfl Y6i (λ_ _ _ _=>OE (eN xD (Y68 (AT K rfl) (by rfl) T.b_sum Kk 0) (Y2O 1 aL))) (λ_ _ _ _=>Yz))
  (aH (iP (i:=6) (dB.o ["counts","trial","aim"] [1,2]) cQ3.nd rfl rfl (eG (aD 5)) Ybl (λ_ _ _ _=>lQ FQ43 (Y0f) (Y02) (Yz)))
  (aH (Y6l (Y0y FQ24 6))
  (aS (Y6l (lQ FQ34 (aD 5) (aD 6) (Y1Y))))))))))),?_⟩
 refine Yr;intro d_ n_;refine Y6 (jZ.i rt ?_);rw[hF];refine Y0T haa;refine uQ.i f1 f4 m5 λR H1 s1 hR LR=>?_;have LR:nU H1 R (Y0d):=LR;have hx1:=s1 _ _ hx;refine⟨_,rfl,x,c.Weighing,l,_,rfl,hx1,O.cls,O.no _ (by simp),by show 0<1000;decide,Y4z⟩;intro d_ n_;have b2:aU x H1 (Y7T H1 x c.Weighing l (Y2U "rising" R [])):=aU.self;have e2:(upd H1 x (.ins c.Weighing l (eQ "rising" (.ref R) []))) x=some (.ins c.Weighing l (Y2U "rising" R [])):=bK;generalize upd H1 x (.ins c.Weighing l (eQ "rising" (.ref R) []))=H2 at b2 e2 ⊢;have L2:=LR.but b2 hx1;have t2:eZ H H2:=s1.t.trans (aU.tI b2 hx1);have B2:aU x H H2:=s1.but.trans b2;refine DT (by show 0<=64;decide) λm H3 ξ e3 s3=>⟨_,rfl,x,c.Weighing,l,_,rfl,s3 _ _ e2,O.cls,O.no _ (by simp),by show 1<1000;decide,?_⟩;refine Y4z;intro d_ n_;have b4:=Y7l x H3 c.Weighing l (Y2U "units" m (Y2U "rising" R []));have e4:(upd H3 x (.ins c.Weighing l (eQ "units" (.ref m) (eQ "rising" (.ref R) [])))) x=_:=bK;generalize upd H3 x (.ins c.Weighing l (eQ "units" (.ref m) (eQ "rising" (.ref R) [])))=H4 at b4 e4 ⊢;have ζ:m≠x:=λz=>by rw[z,e2]at ξ;cases ξ
 have e4u:=b4.at ζ e3;have L4:=(L2.same s3).but b4 (s3 _ _ e2);have t4:eZ H H4:=(t2.trans s3.t).trans (aU.tI b4 (s3 _ _ e2));have B4:aU x H H4:=(B2.trans s3.but).trans b4;refine DT (by show 0<=64;decide) λJ H5 X e5 s5=>⟨_,rfl,x,c.Weighing,l,_,rfl,s5 _ _ e4,O.cls,O.no _ (by simp),by show 2<1000;decide,?_⟩;refine Y4z;intro d_ n_;have b6:=Y7l x H5 c.Weighing l (Y2U "weights" J (Y2U "units" m (Y2U "rising" R [])));have e6:(upd H5 x (.ins c.Weighing l (eQ "weights" (.ref J) (eQ "units" (.ref m) (eQ "rising" (.ref R) []))))) x=_:=bK;generalize upd H5 x (.ins c.Weighing l (eQ "weights" (.ref J) (eQ "units" (.ref m) (eQ "rising" (.ref R) []))))=H6 at b6 e6 ⊢;have ν:J≠x:=λz=>by rw[z,e4]at X;cases X
 have nwu:J≠m:=λz=>by rw[z,e4u]at X;cases X
 have e6w:=b6.at ν e5;have e6u:=b6.at ζ (s5 _ _ e4u);have L6:=(L4.same s5).but b6 (s5 _ _ e4);have B6:aU x H H6:=(B4.trans s5.but).trans b6;have lr:(eQ "weights" (V.ref J) (eQ "units" (.ref m) (eQ "rising" (.ref R) []))).lookup ("rising" : Str)=Y3 R:=lkN Dd (lkN Dd lkS);have lu:(eQ "weights" (V.ref J) (eQ "units" (.ref m) (eQ "rising" (.ref R) []))).lookup ("units" : Str)=Y3 m:=lkN Dd lkS;have lw':(eQ "weights" (V.ref J) (eQ "units" (.ref m) (eQ "rising" (.ref R) []))).lookup ("weights" : Str)=Y3 J:=lkS;have fle:(eQ "weights" (V.ref J) (Y2U "units" m (Y2U "rising" R []))).length<=3:=by
  have L:=lJ "weights" (V.ref J) (Y2U "units" m (Y2U "rising" R []));have S:=lJ "units" (V.ref m) (Y2U "rising" R []);have h3:=lJ "rising" (V.ref R) [];simp only[List.length_nil]at h3;exact Oo
 generalize eQ "weights" (V.ref J) (eQ "units" (.ref m) (eQ "rising" (.ref R) []))=fl at e6 lr lu lw' fle ⊢;have hu0:H m=none:=by
  cases q:H m with
  | none=>rfl
  | some o=>exact absurd (B2.at ζ q) (by rw[ξ];intro z;cases z)
 have hw0:H J=none:=by
  cases q:H J with
  | none=>rfl
  | some o=>exact absurd (B4.at ν q) (by rw[X];intro z;cases z)
 have nRu:R≠m:=λz=>by obtain⟨vs,g,_⟩:=L2;rw[z,ξ]at g;cases g
 have nRw:R≠J:=λz=>by obtain⟨vs,g,_⟩:=L4;rw[z,X]at g;cases g
 clear ξ X e2 e3 e4 e5 e4u b2 b4 b6 s3 s5 L2 L4 LR t2 t4 B2 B4;refine Y6 (jP.i (Yb9 (aU.tI B6 hx) _ _) ?_);rw[wl];refine⟨_,rfl,Oo,Oo,?_⟩;refine oQ (λi σ H'=>Ex4 λ(o3 o4:Am) (μ:Ae) (β:List Addr)=>An9 (σ=[Y3 x,some tv,Y3 aa,o3,o4,none,none]) (Y65 x) (H' x=some (.ins c.Weighing l fl)) (nU H' R (Y0d)) (H' m=Yl (μ.map FI)) (μ.length=i) (H' J=Yl (β.map V.ref)) (vL H' β (mQ κ) (Y0d) μ) (HV bs (υ^M*Nb) μ))
  ⟨_,_,[],[],rfl,B6,e6,L6,e6u,rfl,e6w,Y5 (λi ta u h=>by simp at h),⟨λu hu=>(by cases hu),λi f u hf hu=>(by simp at hu)⟩⟩ ?_ ?_
 ·rintro i σ H7 hi ⟨o3,o4,μ,β,rfl,B7,e7,L7,ω,ul,e7w,φ,hus⟩;refine Y9W;intro d_ n_;have hi:i<W:=Oo;have t7:=aU.tI B7 hx;have rt7:=Yb9 t7 _ _;obtain⟨τ,hxv⟩:∃τ,κ[i]?=some τ:=Y2c (by rw[wl];exact hi);have ex:(mQ κ).getD i []=τ.2:=iL (by rw[aG,hxv];rfl);obtain⟨vs7,ρ,r7,lr7⟩:=L7.len;rw[Int.zero_add];refine Y1Q (by simp) e7 lr;refine Y1A R ρ (fD (λj y H'=>∃a,Y0d[j]?=some a/\AV K H' (nV (τ.2.zip a)) y) (λj y Ha Hb s ⟨a,L,S⟩=>Y2P L (S.t s)) Oo ρ (λj y H' Q' hy s' k'=>?_) (λD ys H8 hD e8 ι hy8 hr8=>?_))
  ·obtain⟨a,e,rc⟩:=fC r7 hy;have hcm:=(gA f1).mp (aE e);refine Y4c;exact jO.i (rt7.same s') hxv (rc.same s') (G.bo τ (aE hxv)) Oo λxw H9 s9 fw=>k' _ H9 s9 (Y2P e fw)
  have ο:Y2x ((Y0d).length):=Oo;refine Yw;intro d_ n_;have fr8:zX K H8 ((rise F M).map λa=>nV (τ.2.zip a)) ys:=⟨by rw[aA];exact ο,λj y hj=>by
   obtain⟨a,L,S⟩:=hr8 j y hj;exact Y0U (by rw[aG,L];rfl) S⟩
  have e8x:=ι _ _ e7;have e8u:=ι _ _ ω;have e8w:=ι _ _ e7w;have B8:=B7.trans ι.but;refine Y1Q (by simp) e8x lu;refine⟨VD e8u,Y9⟩;have t8:=aU.tI B8 hx;obtain⟨fb,hfb⟩:∃fb,bs[i]?=some fb:=Y2c (by rw[G.bl];exact hi);obtain⟨yb,hyb,ryb⟩:=kK rvb hfb;refine Y0T (t8 _ _ haa);refine Y6 (lG (t8 _ _ hab) (dW hyb) ?_);refine DT (by show 1<=64;decide) λq9 H9 hq9 e9 s9=>NN (s9 _ _ e8) e9 (by rw[ο];show(Y0d).length+1<=1000;exact Oo) λq10 H10 hq10 θ s10=>?_;have d:=s9.trans s10;have ryb10:AV K H10 fb yb:=.inl (ryb.flat (t8.trans d.t) (dS _));have fr10:zX K H10 ((rise F M).map (λa=>nV (τ.2.zip a))++[fb]) (ys++[yb]):=⟨by rw[aV,aV,aA,ο];rfl,λj y hj=>by
   by_cases q:j<ys.length
   ·rw[cM q]at hj;obtain⟨g,L,S⟩:=fr8.at_ j y hj;exact⟨g,by rw[cM (by rw[aA];exact Oo)];exact L,S.t d.t⟩
   ·have lj:=(aB.mp hj).1;rw[aV,List.length_singleton]at lj;have ej:j=ys.length:=Oo;subst ej;rw[cJ (Yp),Nat.sub_self]at hj;cases hj;exact⟨fb,by rw[cJ (by rw[aA];exact Oo),aA,ο,Nat.sub_self];rfl,ryb10⟩⟩
  have wn:∀a,Y3G a->Fn (υ^M) 1 (nV (τ.2.zip a)):=λa e=>by
   have hcm:=(gA f1).mp e;have L:=vC I hi a;have S:=I.qn hi (c:=a) Oo;rw[ex]at L;unfold hZ at S;rw[ex]at S;exact Qn.f L S
  refine rA.i θ fr10.v χ nsz (λg hg=>?_) λU u0 uN hU=>?_
  ·rcases dH.mp hg with hg | hg
   ·obtain⟨a,e,rfl⟩:=aN.mp hg;have:=(wn a e).dvd (Nat.dvd_mul_right (υ^M) Nb);exact⟨this.low,Fn.dn this χ⟩
   ·rw[bV.mp hg];have:=(G.bb fb (aE hfb)).dvd (Nat.dvd_mul_left Nb (υ^M));exact⟨this.low,Fn.dn this χ⟩
  have uz:U<Y0t:=aK (kG χ uN) nsz;have γ:=d _ _ e8u;refine NR γ (by rw[aA];exact Oo) λH11 e11 α=>?_;have e11u:H11 m=Yl ((μ++[U]).map FI):=by rw[e11,bD];rfl
  have n:=α.at (Ne.symm ζ) (d _ _ e8x);have N:=α.at nwu (d _ _ e8w);have L11:=((L7.same ι).same d).butL α γ nRu;have t11:eZ H8 H11:=d.t.trans (α.t γ);have hDu:D≠m:=λz=>by rw[z,ω]at hD;cases hD
  have e11D:=α.at hDu (d _ _ e8);have B11:aU x H H11:=aU.thru hu0 (B8.trans d.but) α;have tb11:vL H11 β (mQ κ) (Y0d) μ:=φ.mono λb kv g=>α.at (sW (d _ _ (ι _ _ g)) γ (by intro z;cases z)) (d _ _ (ι _ _ g));refine Y1Q (by simp) n lw';refine⟨VD N,Y1Q (by simp) n lr⟩;refine Y6 (Y1Q (by simp) n lu);refine Y6 (xS e11u (dW (j:=i) (v:=FI U) (by rw[bD,cJ (by rw[aA];exact Oo),aA,ul,Nat.sub_self];rfl)) ?_);refine oW.i (g:=λa=>nV (τ.2.zip a)) L11 e11D (fr8.t t11) small uz (λa e=>?_) λp kvs H12 C hp ψ D12=>?_
  ·have L:=(wn a e).dvd (Nat.dvd_mul_right (υ^M) Nb);exact⟨L.low,Y49 I (by have:=AU I hi (c:=a) ((gA f1).mp e).2;rw[ex]at this;exact this) (show 1<=1000000000000 by decide) qF,hU _ (cN _ (Y42 a e))⟩
  refine NR (C _ _ N) (by rw[aA,φ.1];exact Oo) λH13 e13 η=>?_;have hpw:p≠J:=λz=>by rw[z,N]at hp;cases hp
  have B12:=B11.trans C.but;refine⟨_,_,μ++[U],β++[p],rfl,aU.thru hw0 B12 η,η.at (Ne.symm ν) (C _ _ n),(L11.same C).butL η (C _ _ N) nRw,η.at (Ne.symm nwu) (C _ _ e11u),by rw[aV,ul];rfl,by rw[e13,bD];rfl,?_,hus.snoc (by rw[ul];exact hfb) u0 uN (hU _ (Y9F _ rfl))⟩
  ·refine vL.snoc (kvs:=kvs) ?_ (η.at hpw ψ) ?_
   ·exact tb11.mono λb kv g=>η.at (sW (C _ _ g) (C _ _ N) (by intro z;cases z)) (C _ _ g)
   ·rw[ul];have:(λa=>hZ (mQ κ) i a*(U:Rat))=λa=>rv (nV (τ.2.zip a))*(U:Rat):=by
     funext a
     unfold hZ wq;rw[ex]
    rw[this];exact D12
 ·rintro σ H7 ⟨o3,o4,μ,β,rfl,B7,e7,L7,ω,ul,e7w,φ,hus⟩;refine Y4z;intro d_ n_;have ul:μ.length=W:=Oo;have t7:=aU.tI B7 hx;have rt7:=Yb9 t7 _ _;have ra7:=ra.t t7;obtain⟨vs7,ρ,r7,lr7⟩:=L7.len;refine Y1Q (by simp) e7 lr;refine Y1A R ρ (TV (g:=uZ) r7 (λa=>Y1E a.sum M) Oo ρ (λy a H' Q' e ry s' k'=>?_) (λy H' Q' q=>Y6 q) (λD ys H8 hD e8 ι r8=>?_))
  ·obtain⟨ac,rfl,hac⟩:=iG ry;refine Y6 (rsT (ns:=ci a) (by rw[fL];exact jA.of hac) ?_);rw[HL];refine Y0T (s' _ _ (t7 _ _ haa));refine Y5i _ _ _ ?_;rw[show decide ((a.sum:Int)<(M:Int))=decide (a.sum<M)by simp];exact k' H' (Y08)
  have r8:bI H8 ((ahd F M).map uZ) ys:=r8;refine Yw;intro d_ n_;have ο:Y2x ((ahd F M).length):=by rw[r8.len,aA]
  have la:(ahd F M).length<=(Y0d).length:=List.length_filter_le ..;refine Y4J _ D (Y89 _ e8) ?_;have mah:∀a,a∈ahd F M->a.length=F/\a.sum<M:=λa e=>by
   obtain⟨L,S⟩:=fY.mp e;exact⟨((gA f1).mp L).1,of_decide_eq_true S⟩
  refine fD (λj y H'=>∃a,(ahd F M)[j]?=some a/\Y3e H' (CC W (mQ κ) ε cs a) y) (λj y Ha Hb s ⟨a,L,S⟩=>Y2P L (S.flat s (dS _))) Oo e8 (λj y H' Q' hy s' k'=>?_) (λD2 zs H9 hD2 e9 s9 hy9 hr9=>?_)
  ·obtain⟨a,e,rc⟩:=fC r8 hy;refine Y4c;exact pS.i ((rt7.same ι).same s') ((ra7.same ι).same s') (rc.same s') I G.bo (mah a (aE e)).2 λv H10 s10 r10=>k' _ H10 s10 (Y2P e r10)
  have lz9:zs.length=(ahd F M).length:=Oo;refine Yw;intro d_ n_;have fr9:zX K H9 ((ahd F M).map λa=>fJ (CC W (mQ κ) ε cs a)) zs:=⟨by rw[aA];exact lz9,λj y hj=>by
   obtain⟨a,L,S⟩:=hr9 j y hj;exact Y0U (by rw[aG,L];rfl) (.inl S)⟩
  have ln:∀a,a∈ahd F M->Fn (pO M υ Nm Np Nc) (B*4) (fJ (CC W (mQ κ) ε cs a)):=λa e=>HS I (mah a e).2;refine Y9;refine rA.i e9 fr9.v I.pos I.sz (λg hg=>?_) λU u0 uN hU=>?_
  ·obtain⟨a,e,rfl⟩:=aN.mp hg;exact⟨(ln a e).low,Fn.dn (ln a e) I.pos⟩
  have uz:U<Y0t:=aK (kG I.pos uN) I.sz;have Z:=ι.trans s9;refine⟨_,rfl,x,c.Weighing,l,_,rfl,Z _ _ e7,O.cls,O.no _ (by simp),Oo,?_⟩;have r:=Y7l x H9 c.Weighing l (eQ "cost_unit" (.int (U:Int)) fl);have θ:(upd H9 x (.ins c.Weighing l (eQ "cost_unit" (.int (U:Int)) fl))) x=_:=bK;generalize upd H9 x (.ins c.Weighing l (eQ "cost_unit" (.int (U:Int)) fl))=H10 at r θ ⊢;have hx9:=Z _ _ e7;have nDx:D≠x:=sW e8 (ι _ _ e7) (by intro z;cases z);have nD2x:D2≠x:=sW e9 hx9 (by intro z;cases z);have t10:=aU.tI r hx9;have LD:nU H10 D (ahd F M):=⟨ys,r.at nDx (s9 _ _ e8),(r8.same s9).flat t10 (mH _)⟩;refine Y2E (Y4A O (by simp) θ lkS);have hB:=I.b;refine oW.i (g:=λa=>fJ (CC W (mQ κ) ε cs a)) LD (r.at nD2x e9) (fr9.t t10) Oo uz (λa e=>⟨(ln a e).low,Y49 I (ln a e) (show B*4<=4*WB by exact Oo) vK,hU _ (Y42 a e)⟩) λp kvs H11 δ hp e11 D11=>?_;have n:=δ _ _ θ;have fle2:=lJ "cost_unit" (V.int (U:Int)) fl;refine⟨_,rfl,x,c.Weighing,l,_,rfl,n,O.cls,O.no _ (by simp),Oo,?_⟩;have Y:=Y7l x H11 c.Weighing l (Y2U "costs" p (eQ "cost_unit" (.int (U:Int)) fl));have ψ:(upd H11 x (.ins c.Weighing l (eQ "costs" (.ref p) (eQ "cost_unit" (.int (U:Int)) fl)))) x=_:=bK;generalize upd H11 x (.ins c.Weighing l (eQ "costs" (.ref p) (eQ "cost_unit" (.int (U:Int)) fl)))=H12 at Y ψ ⊢;have npx:p≠x:=λz=>by rw[z,θ]at hp;cases hp
  refine k μ U H12 ((((B7.trans Z.but).trans r).trans δ.but).trans Y) ⟨ul,l,_,R,m,J,p,β,kvs,ψ,lkN Dd (lkN Dd lr),lkN Dd (lkN Dd lu),lkN Dd (lkN Dd lw'),lkN Dd lkS,lkS,?_,?_,?_,?_,Y.at npx e11,?_⟩ hus u0 uN
  ·exact(((L7.same Z).but r hx9).same δ).but Y n
  ·exact Y.at ζ (δ _ _ (r.at ζ (Z _ _ ω)))
  ·exact Y.at ν (δ _ _ (r.at ν (Z _ _ e7w)))
  ·refine φ.mono λb kv g=>?_;have g1:=Z _ _ g;have nb:b≠x:=sW g1 hx9 (by intro z;cases z);exact Y.at nb (δ _ _ (r.at nb g1))
  ·have:(λa=>CC W (mQ κ) ε cs a*(U:Rat))=λa=>rv (fJ (CC W (mQ κ) ε cs a))*(U:Rat):=by
    funext a
    rw[dC]
   rw[this];exact D11
end
def EU{l:Y2y}{x:Rat}(h:l≠[]):mO (l++[x])=if x<mO l then x else mO l:=by
 refine GR ?_ λy a=>?_
 ·split
  ·exact Y9F _ rfl
  ·exact cN _ (xH h)
 ·rcases dH.mp a with a | a
  ·have:=uT a;split <;> grind
  ·rw[bV.mp a];split <;> grind
section
variable{F W M:Nat}{ss:Aj}{mix ps cs:Ak}
def aEa{u x y:Rat}(hu:0<u)(h:u*x<=u*y):x<=y:=by
 refine Y6x ?_;have a:y<x:=by grind
 have c:=Rat.mul_lt_mul_of_pos_left a hu;grind
def XU{d:Yy}{U:Rat}(hU:0<U){ns:Af}(hl:Y9g W)(hv:∀(i:Nat) (n:Int),ns[i]?=Y6H->(n:Rat)=U*(cF W d-d i)){m:Int}(hm:m∈ns)(hle:∀a∈ns,m<=a):(m:Rat)=U*mO (nX W d):=by
 obtain⟨i,h⟩:=gI.mp hm;have e:=hv i m h;have r:=(aB.mp h).1;have:mO (nX W d)=cF W d-d i:=by
  refine GR (rD.mpr (Y4n i Oo)) λx j=>?_;obtain⟨w,p,rfl⟩:=rD.mp j;obtain⟨n,g⟩:∃n,ns[w]?=Y6H:=Y2c Oo;have l:=hle n (aE g);have c:(m:Rat)<=(n:Rat):=by exact_mod_cast l
  rw[e,hv w n g]at c;exact aEa hU c
 rw[this];exact e
end
def lvl(F:Nat)(best:Y0B):Y03 Ab
 | 0=>[List.replicate F 0]
 | k+1=>(cta F (k+1)).filter λd=>(lvl F best k).any λc=>best c == 0&&(List.range F).any λj=>d == cG c j
section
variable{F W M:Nat}{best:Y0B}
def mF(hF:1<=F):∀k,(lvl F best k).Sublist (cta F k)
 | 0=>by unfold lvl;rw[DC F hF];exact List.Sublist.refl _
 | k+1=>by unfold lvl;exact List.filter_sublist
def mD(hF:1<=F){k:Nat}{d:Ae}:d∈Y58 F (k+1) ↔ ∃c∈lvl F best k,best c=0/\∃j,j<F/\d=cG c j:=by
 have i:d∈Y58 F (k+1)↔d∈cta F (k+1)/\∃c∈lvl F best k,best c=0/\∃j,j<F/\d=cG c j:=by
  show d∈List.filter _ _↔_;rw[fY];simp
 rw[i];refine⟨λh=>h.2,λh=>⟨?_,h⟩⟩;obtain⟨c,a,_,j,g,e⟩:=h;exact(ZE hF).mpr ⟨c,(mF hF k).subset a,j,g,e⟩
def zR(W b:Nat):Ak:=(List.range (1+W)).map λk=>if k=b then(1,1) else(0,1)
def oO(W:Nat)(best:Y0B)(c:Ae):cZ:=(c,Y5G W)
def rE(F M:Nat)(best:Y0B):Ab:=(List.range (M+1)).flatMap (lvl F best)
def rul(F W M:Nat)(best:Y0B):Yj:=(rE F M best).map (Y50 W)
theorem CT{α:Type}{f g:Y03 Yu}(h:∀k,(f k).Sublist (g k)):∀l:Ae,(l.flatMap f).Sublist (l.flatMap g)
 | []=>List.Sublist.refl _
 | a::l=>by rw[List.flatMap_cons,List.flatMap_cons];exact(h a).append (CT h l)
def jE(hF:1<=F):(rE F M best).Sublist (Y0d):=CT (mF hF) _
def GL:(rul F W M best).map (·.1)=Y6B:=by unfold rul;rw[List.map_map];exact List.map_id _
def sJ{b k:Nat}(h:k<1+W):cS (zR W b) k=if k=b then 1 else 0:=by
 unfold cS zR;rw[aR,aG,bM h];show rv (if k=b then(1,1) else(0,1))=_;split
 ·exact BO
 ·exact nG
def pA(c:Ae):s0 (oO W best c)=if Y0z=0 then 1 else 0:=by
 unfold s0 oO;rw[sJ Oo];by_cases h:Y0z=0
 ·rw[if_pos h.symm,Y5C]
 ·rw[Y2t (h z.symm),Y5D]
def AM{c:Ae}:Y7k c ↔ ∃k,k<=M/\c∈Y58 F k:=by
 unfold rE;rw[List.mem_flatMap];constructor
 ·rintro⟨k,a,h⟩;exact⟨k,by have:=Y7f;exact Oo,h⟩
 ·rintro⟨k,a,h⟩;exact⟨k,cC.mpr Oo,h⟩
def xB(hF:1<=F)(on:∀c,Y0z=0->Y1O){c:Ae}(hc:Y7k c)(h:Y0z=0){j:Nat}(hj:j<F):Y7k (cG c j):=by
 obtain⟨k,d,a⟩:=AM.mp hc;have e:=(iU ((mF hF k).subset a)).2;have g:=on c h;exact AM.mpr ⟨k+1,Oo,(mD hF).mpr ⟨c,a,h,j,hj,rfl⟩⟩
def IW(hF:1<=F){d:Ae}(hd:Y7k d)(h:d≠Y04):∃c∈Y6B,Y0z=0/\∃j,j<F/\cG c j=d:=by
 obtain⟨k,m,a⟩:=AM.mp hd;cases k with
 | zero=>exact Yck a h
 | succ k =>
  obtain⟨c,l,i,j,g,e⟩:=(mD hF).mp a;exact⟨c,AM.mpr ⟨k,Oo,l⟩,i,j,g,e.symm⟩
def BR:∃r,Y6B=Y04::r:=by
 unfold rE;rw[List.range_succ_eq_map,List.flatMap_cons];exact Y3w
def AH(hF:1<=F){c:Ae}(h:Y7k c):Y33/\Y4h M:=(gA hF).mp ((jE hF).subset h)
def WN(hF:1<=F)(f4:F<=4)(m5:M<=5)(on:∀c,Y0z=0->Y1O):tF F (Y1s) where
 root:=by
  obtain⟨r,l⟩:=Yd9 M best;exact⟨_,_,by unfold rul;rw[l,bE],rfl⟩
 len:=λe g=>by
  obtain⟨c,a,rfl⟩:=aN.mp g;exact(AH hF a).1
 nd:=by rw[GL];exact(sG F f4 M m5).sublist (jE hF)
 srt:=by
  unfold rul;rw[List.pairwise_map];exact(pW F M).sublist (jE hF)
 fwd:=λe g m f p=>by
  obtain⟨c,a,rfl⟩:=aN.mp g;rw[GL];refine xB hF on a ?_ p;refine Y6x (m ?_);rw[pA,Y2V]
 bwd:=λd hd h=>by
  rw[GL]at hd;obtain⟨c,a,n,j,i,e⟩:=IW hF hd h;exact⟨oO W best c,Y42 c a,by rw[pA,if_pos n];exact(by decide:(1:Rat)≠0),j,i,e⟩
 nn:=λe g=>by
  obtain⟨c,a,rfl⟩:=aN.mp g;rw[pA];split <;> grind
end
abbrev aDa:Stmt:=(top 61)
def aIG:Yd a33 a33 aDa:={}
abbrev aDZ:Stmt:=(top 62)
def NP:Yd ["weighing","factors","cost_factor","best_at","worth_of","counts","dues","sums","onward"] a24 aDZ:={}
def CM{N B U:Nat}{q:Rat}{n:Int}(h:Y25 q)(hN:0<N)(e:(n:Rat)=q*(U:Rat)):n.natAbs<=B*U:=by
 obtain⟨z,d,c⟩:=h;have g:n*(N:Int)=z*(U:Int):=by
  have:((n*(N:Int):Int):Rat)=((z*(U:Int):Int):Rat):=by
   rw[Rat.intCast_mul,Rat.intCast_mul,e,<-d];show q*(U:Rat)*(N:Rat)=q*(N:Rat)*(U:Rat);grind
  exact_mod_cast this
 have a:=congrArg Int.natAbs g;rw[dD,dD,Int.natAbs_natCast,Int.natAbs_natCast]at a;have i:n.natAbs*N<=(B*U)*N:=by
  rw[a,show B*U*N=B*N*U by ac_rfl];exact bO _ c
 exact Nat.le_of_mul_le_mul_right i hN
def dgI{H:Hp}{p b:Addr}{kvs:Yv}{cc:Ae}(e:H p=Y1q)(hb:H b=Yf (cc.map FI)):oJ H p (Y0p) (Y2Z cc):=.inr ⟨kvs,Y2R cc,b,.inl e,rfl,by rw[CJ,fL];exact hb,rfl⟩
inductive GI (C:Addr):Yq
 | i {H:Hp} {Q:VK} {E:XK} {x:Addr} {cv:V} {cc:Ae} {F W M:Nat} {ss:Aj} {mix cs:Ak} {us:Ae} {cu:Nat} (h1:zU H x C F W M ss mix cs us cu) (h2:Y4F H cc cv) (h3:Y3G cc) (h4:W<=64) (k:∀D (ns:Af) H',Y1->H D=none->Y0G=Y8E->Y9g W->(∀(i:Nat) (n:Int) (u:Nat),ns[i]?=Y6H->us[i]?=Yo->(n:Rat)=hZ ss i cc*(u:Rat))->Y1a):GI C [Y2a,cv] H Q E
section
def aHp(F:Yb "weights_at" "weights_at" aDa)(T:Ye):dO P w K mg base cV 1 f fd a33 (GI c.Weighing):=by
 refine Y1j aIG;obtain @⟨H,Q,E,x,cv,e,F,W,M,J,Y,cs,j,cu,η,ε,B,β,k⟩:=h;refine Y5 (λU A r s δ=>?_);obtain⟨τ,υ,fl,ra,ua,κ,φ,ν,R,ο,a1,χ,γ,a4,a5,ψ,a7,C,I,α,θ⟩:=η;obtain⟨ac,rfl,z⟩:=iG ε;have O:=T.w_Weighing;have tl:=I.1;refine Y6c _ (Y7p ["table","counts"] [1] Y6i (gS δ.u1 (Yz) (Y0f)));refine Y1Q (by simp) ο γ;refine Y1A κ C (fD (λi y H'=>∃n,y=Y5e/\∀u,j[i]?=Yo->(n:Rat)=hZ J i e*(u:Rat)) (Yaw) (by rw[aA];exact Oo) C (λi y H' Q' g G μ=>?_) (λD ys H1 ξ N ρ g p=>?_))
 ·rw[aG]at g;obtain⟨ζ,d,rfl⟩:=eI.mp g;have li:=(aB.mp d).1;obtain⟨u,L⟩:∃u,j[i]?=Yo:=Y2c Oo;obtain⟨kv,ι,X⟩:=I.2 i ζ u d L;obtain⟨n,m,l⟩:=X.yes e B;refine Y05 (Y5x (G _ _ ι) e (by rw[fL];exact G _ _ z) m ?_);exact μ _ H' (Y08) (Y00 n (λω a=>by rw[L]at a;cases a;exact l))
 ·obtain⟨Z,rfl,S⟩:=nH (P:=λi n=>∀u,j[i]?=Yo->(n:Rat)=hZ J i e*(u:Rat)) p;rw[aA,aA]at g;exact k D Z H1 ρ ξ N Oo λi n u m l=>S i n m u l
end
structure DP(kvs:Yv)(S:Ab)(R:Y0i Ae V):Prop where
 yes:∀c∈S,∃v,Y2Z c=Ys/\R c v
 len:Y6Y (2*S.length)
def DP.put{kvs:Yv}{S:Ab}{R:Y0i Ae V}(h:DP kvs S R){c:Ae}{v:V}(r:R c v):DP (Y7Q c v) (c::S) R:=by
 refine⟨Yb0,by have:=h.len;have:=Y5K kvs c v;rw[cL];exact Oo⟩;rw[iC];by_cases e:d=c
 ·subst e;rw[Yt];exact Y00 v r
 ·rw[Y4r (e (Y3C q))];exact h.yes d ((bN.mp hd).resolve_left e)
def DP.put2{kvs:Yv}{S:Ab}{R:Y0i Ae V}(h:DP kvs S R){c:Ae}{u v:V}(r:R c v):DP (kA (Y7Q c u) (Y2R c) v) (c::S) R:=by
 refine⟨Yb0,by have:=h.len;have:=Y5K kvs c u;have:=Y5K (Y7Q c u) c v;rw[cL];exact Oo⟩;rw[iC];by_cases e:d=c
 ·subst e;rw[Yt];exact Y00 v r
 ·rw[Y4r (e (Y3C q)),iC,Y4r (e (Y3C q))];exact h.yes d ((bN.mp hd).resolve_left e)
def UI(kvs:Yv)(rs:Ab)(best:Y0B):Prop:=(∀c∈rs,Y2Z c=Yg (best c:Nat))/\Y6Y 1000
theorem IM:∀ns:Af,((ns.sum:Int):Rat)=vD (ns.map λ(n:Int)=>(n:Rat))
 | []=>rfl
 | a::ns=>by rw[List.sum_cons,Rat.intCast_add,IM ns];rfl
def IL{n:Nat}{ns:Af}{d:Yy}(hl:Y9g n)(h:∀(i:Nat) (m:Int),ns[i]?=some m->(m:Rat)=d i):((ns.sum:Int):Rat)=cF n d:=by
 rw[IM];unfold cF;congr 1;refine Y7n ?_;rw[aG,aG];by_cases q:i<n
 ·obtain⟨m,a⟩:∃m,ns[i]?=some m:=Y2c Oo;rw[a,bM q];show some (m:Rat)=some (d i);rw[h i m a]
 ·rw[cA Oo,cA (by rw[aW];exact Oo)];rfl
def aEf{n:Nat}(h:n<Y0t){b:Nat}(hb:b<=2^690):b*n<Y0W:=by
 have c:b*n<=2^690*n:=bO _ hb;have a:2^690*n<2^690*Y0t:=Nat.mul_lt_mul_of_pos_left h (Y5X);rw[<-Nat.pow_add]at a;exact Y81 c a
section
end
abbrev aDB:Stmt:=(top 39)
def aIV:Yd ["says"] ["says"] aDB:={}
abbrev aDz:Stmt:=(top 34)
def aIU:Yd ["faces"] ["faces"] aDz:={}
abbrev aDs:Stmt:=(top 64)
def aB0:Yd ["weighing","best_at","ways","table","counts"] a12 aDs:={}
abbrev aDR:Stmt:=(top 41)
def aB6:Yd ["level","table","found","counts","more"] ["level","table"] aDR:={}
abbrev aDQ:Stmt:=(top 40)
def aB5:Yd ["faces","table","found","level"] a08 aDQ:={}
abbrev aDl:Stmt:=(top 42)
def aIL:Yd a08 a08 aDl:={}
theorem yI{α:Type}[DecidableEq α]:∀{l m:Yu},l.Nodup->(∀x∈l,x∈m)->l.length<=m.length
 | [],m,_,_=>cK _
 | x::l,m,h,hs=>by
  rw[List.nodup_cons]at h;have hx:=hs x (bC ..);have c:=yI (l:=l) (m:=m.erase x) h.2 λy a=>(List.mem_erase_of_ne (λe=>by subst e;exact h.1 a)).mpr (hs y (bG _ a));rw[List.length_erase_of_mem hx]at c;have:0<m.length:=List.length_pos_of_mem hx;rw[cL];exact Oo
def aEQ{kvs:Yv}{ks:Ac}{v:V}(c:Af)(hk:kvs.map (·.1)=ks.map kT)(nd:ks.Nodup):∃ks2:Ac,(kA kvs (kT c) v).map (·.1)=ks2.map kT/\ks2.Nodup/\∀x,x∈ks2↔x∈ks\/x=c:=by
 cases e:Y2m (kT c)with
 | some u =>
  refine⟨ks,by rw[DU (by rw[e];rfl),hk],nd,λx=>⟨.inl,λh=>?_⟩⟩;rcases h with h | rfl
  ·exact h
  ·have:kT x∈kvs.map (·.1):=GA e;rw[hk]at this;obtain⟨y,j,g⟩:=aN.mp this;rw[<-jS g];exact j
 | none =>
  have d:c ∉ ks:=λh=>by
   have:kT c∈kvs.map (·.1):=by rw[hk];exact List.mem_map_of_mem h
   exact VC e this
  refine⟨ks++[c],by rw[IZ v e,bD,bD,hk];rfl,List.nodup_append.mpr ⟨nd,by simp,λa l b i e=>by cases bV.mp i;subst e;exact d l⟩,λx=>by rw[dH,bV]⟩
def aBS:∀F,F<=4->∀m,m<=5->((cta F m).map ci).Pairwise (λa b=>sM a b=true):=Kk
def ctI(c:Ae):PyData.tuple ((ci c).map .int)=uZ c:=by unfold ci;rw[List.map_map];rfl
section
variable{F W M:Nat}{best:Y0B}
end
def EnW(K:Aa)(H:Hp)(e:cZ)(x:V):Prop:=∃b cu z,x=Y0p/\H b=Yf [.ref cu,z]/\H cu=Yf (e.1.map FI)/\DZ K H e.2 z
theorem EnW.t{K:Aa}{H H':Hp}{e:cZ}{x:V}(s:Y2o)(h:EnW K H e x):EnW K H' e x:=by
 obtain⟨b,c,z,d,a,g,i⟩:=h;exact⟨b,c,z,d,s _ _ a,s _ _ g,i.t s⟩
def KZ(K:Aa)(H:Hp)(es:Yj)(v:V):Prop:=∃a xs,v=Yi/\H a=Y1d/\Y5u es.length/\∀(i:Nat) (x:V),Y0s=Y7->∃e,es[i]?=Y6G/\EnW K H e x
theorem KZ.t{K:Aa}{H H':Hp}{es:Yj}{v:V}(s:Y2o)(h:KZ K H es v):KZ K H' es v:=by
 obtain⟨a,m,j,c,l,p⟩:=h;exact⟨a,m,j,s _ _ c,l,λi x d=>by obtain⟨e,g,n⟩:=p i x d;exact⟨e,g,n.t s⟩⟩
inductive lI (K:Aa):Yq
 | i {H:Hp} {Q:VK} {E:XK} {z:V} {f:Fr} {fs:Ak} (h1:DZ K H (f::fs) z) (k:Y2N (Y1E 0 f.1)):lI K [z] H Q E
inductive mV:Yq
 | i {H:Hp} {Q:VK} {E:XK} {F:Nat} (h:F<=64) (k:∀v H',Y1->Y4F H' Y04 v->Y1L):mV [.int (F:Int)] H Q E
structure vF(F M:Nat)(best:Y0B)(sy:Ae->Ak)(R:Y0C Ae):Prop where
 f1:1<=F
 f4:F<=4
 m5:M<=5
 on:∀c,Y0z=0->Y1O
 r:(Y0d).length<=400
 hd:∀c,R c->∃f fs,sy c=f::fs/\(0<f.1↔Y0z=0)
 root:R (Y04)
 fwd:∀c,R c->Y0z=0->∀f,f<F->R (Y0w c)
theorem vF.lvl{F M:Nat}{best:Y0B}{sy:Ae->Ak}{R:Y0C Ae}(I:vF F M best sy R):∀(k:Nat) {c:Ae},c∈Kw.lvl F best k->R c
 | 0,c,h=>by
  have h:c∈[List.replicate F 0]:=h;rw[bV.mp h];exact I.root
 | k+1,c,h=>by
  obtain⟨d,hd,a,f,e,rfl⟩:=(mD I.f1).mp h;exact I.fwd d (I.lvl k hd) a f e
def vF.ruC{F M:Nat}{best:Y0B}{sy:Ae->Ak}{R:Y0C Ae}(I:vF F M best sy R){c:Ae}(h:c∈Kw.rE F M best):R c:=by
 unfold Kw.rE at h;obtain⟨k,_,a⟩:=List.mem_flatMap.mp h;exact I.lvl k a
def TbG(K:Aa)(H:Hp)(d:Addr)(R:Y0C Ae)(sy:Ae->Ak):Prop:=∃kvs,H d=Y1q/\∀c,R c->∃v,Y2Z c=Ys/\DZ K H (sy c) v
def TbG.same{K:Aa}{H H':Hp}{d:Addr}{R:Y0C Ae}{sy:Ae->Ak}(s:Y1)(h:TbG K H d R sy):TbG K H' d R sy:=by
 obtain⟨a,i,e⟩:=h;exact Y2P (s _ _ i) (λc l=>by obtain⟨v,g,j⟩:=e c l;exact⟨v,g,j.t s.t⟩)
def ruG(F M:Nat)(best:Y0B)(sy:Ae->Ak):Yj:=(rE F M best).map λc=>(c,sy c)
inductive wW (K:Aa):Yq
 | i {H:Hp} {Q:VK} {E:XK} {L d:Addr} {F M k:Nat} {best:Y0B} {sy:Ae->Ak} {R:Y0C Ae} (h1:nU H L (Y58 F k)) (h2:TbG K H d R sy) (h3:vF F M best sy R) (h4:k<=M) (q:∀D H',Y1->H D=none->nU H' D (Y58 F (k+1))->Y1a):wW K [.ref L,.ref d] H Q E
inductive wU (K:Aa):Yq
 | i {H:Hp} {Q:VK} {E:XK} {d:Addr} {F M:Nat} {best:Y0B} {sy:Ae->Ak} {R:Y0C Ae} (h2:TbG K H d R sy) (h3:vF F M best sy R) (q:∀D H',Y1->H D=none->nU H' D (Y6B)->Y1a):wU K [.int (F:Int),.ref d] H Q E
inductive qP (K:Aa):Yq
 | i {H:Hp} {Q:VK} {E:XK} {d:Addr} {F M:Nat} {best:Y0B} {sy:Ae->Ak} {R:Y0C Ae} (h2:TbG K H d R sy) (h3:vF F M best sy R) (q:∀v H',Y1->KZ K H' (ruG F M best sy) v->Y1L):qP K [.int (F:Int),.ref d] H Q E
theorem AO{F M:Nat}{best:Y0B}(hF:1<=F)(on:∀c,Y0z=0->Y1O):∀j,Y58 F (M+1+j)=[]
 | 0=>by
  refine List.eq_nil_iff_forall_not_mem.mpr λd hd=>?_;obtain⟨c,hc,h0,_⟩:=(mD hF).mp hd;have a:=(iU ((mF hF M).subset hc)).2;have:=on c h0;exact Oo
 | j+1=>by
  refine List.eq_nil_iff_forall_not_mem.mpr λd hd=>?_;obtain⟨c,hc,_⟩:=(mD (k:=M+1+j) hF).mp hd;rw[AO hF on j]at hc;cases hc
theorem JI{F k:Nat}{best:Y0B}(hF:1<=F)(h:Y58 F k=[]):∀j,Y58 F (k+j)=[]
 | 0=>h
 | j+1=>by
  refine List.eq_nil_iff_forall_not_mem.mpr λd hd=>?_;obtain⟨c,hc,_⟩:=(mD (k:=k+j) hF).mp hd;rw[JI hF h j]at hc;cases hc
theorem FD{F k:Nat}{best:Y0B}(hF:1<=F)(h:Y58 F k=[]):∀j,(List.range (k+j)).flatMap (lvl F best)=(List.range k).flatMap (lvl F best)
 | 0=>rfl
 | j+1=>by rw[<-Nat.add_assoc,rH,JI hF h j,List.append_nil,FD hF h j]
section
def aHR(F:Yb "looks_on" "looks_on" aDB)(T:Ye):dO P w K mg base cV 1 f fd ["says"] (lI K):=by
 refine F.oky aIV λB H Q E h=>?_;obtain @⟨H,Q,E,z,f,fs,⟨u,r,rfl,a,e⟩,k⟩:=h;refine Y5 (λn A d s p=>?_);obtain⟨y,l,g⟩:=e.get (i:=0) rfl;obtain⟨b,rfl,m⟩:=g.v;refine Y4x (lS ET (bQ bJ (Y4m 0 (Ybo (.int 0) T.g_LOOKS_ON Y3w)) aL) aL) (Y6 (lG a (Y7E l) ?_));exact Y7q m (Y5N _ k)
def aHP(F:Yb "noughts" "noughts" aDz)(T:Ye):dO P w K mg base cV 1 f fd ["faces"] mV:=by
 refine F.oky aIU λN H Q E h=>?_;obtain @⟨H,Q,E,F,L,k⟩:=h;refine Y5 (λB A d s G=>?_);refine Y6c _ (Y57 dQ (by rfl) Kk ["face"] [] (Y7N 0) aL);refine⟨_,rfl,_,rfl,Oo,Oo,Y9H (∃n,y=Y5e/\n=0) Yaw Oo (λi H' Q' O M j=>j _ H' (Y08) (Y00 0 rfl)) (λD J H1 I e C p a=>?_)⟩;obtain⟨m,rfl,r⟩:=nH (P:=λ_ n=>n=0) a;have g:m=Y04:=by
  rw[aA]at p;exact List.eq_replicate_iff.mpr ⟨Oo,λb u=>by obtain⟨i,h⟩:=gI.mp u;exact r i b h⟩
 subst g;refine Y0X D _ (Y99 e (λl z=>?_));refine k _ _ (C.trans (aT.upd z)) (wA ?_);rw[bK,List.map_replicate,List.map_replicate];rfl
def aH9(F:Yb "counts_behind" "counts_behind" aDR)(T:Ye)(FQ44:Y01 "looks_on" ["says"] (lI K))(FQ49:Y2i "ones_more" a34 fV):dO P w K mg base cV 3 f fd ["level","table"] (wW K):=by
 refine Y1j aB6;obtain @⟨H,Q,E,L,d,F,M,n,l,sy,R,LS,tb,I,hk,q⟩:=h;refine Y5 (λcdv A ρ s φ=>?_);obtain⟨ys,hL,ry,ly⟩:=LS.len;have f1:=I.f1;have f4:=I.f4;have m5:=I.m5;have ζ:∀(j:Nat) (d:Af),(∃c∈(lvl F l n).take j,l c=0/\∃f,f<F/\d=ci (cG c f))->d∈(lvl F l (n+1)).map ci:=λj d ⟨c,u,B,f,J,e⟩=>aN.mpr ⟨Y0w c,(mD f1).mpr ⟨c,List.mem_of_mem_take u,B,f,J,rfl⟩,e.symm⟩;have χ:(lvl F l (n+1)).length<=56:=by
  by_cases z:n+1<=5
  ·exact aJ (mF f1 (n+1)).length_le (yQ F f4 (n+1) z)
  ·have e:=AO f1 I.on (n-M);rw[show M+1+(n-M)=n+1 by exact Oo]at e;rw[e];exact Y0x
 refine⟨_,(aH (Y1D aB6.nd nK)
  (aH (Y6m (eG (Yz)) 3 aB6.nd (iS (IC (AX (eN (XL φ.u1) (Y0r) (Y0f) (by with_unfolding_all rfl)) (wH (qB (fP FQ44 (Y7d φ.u1 Y0r)))))) (aS (Y6m (eG (Y0y FQ49 3)) 4 aB6.nd (jC φ.u1 (Y02) (Y0V) OM))) fK))
  (Y1c (Y68 (aBV rfl) (by rfl) T.b_sorted Kk 2)))),?_⟩
 refine Yr;intro υ n_;intro p hp;have s1:=Y6N [] hp;have e1:(upd H p (.dT [])) p=Y07 []:=bK;generalize upd H p (.dT [])=H1 at s1 e1 ⊢;refine Y4J _ L (Y89 _ (s1 _ _ hL)) ?_;refine mG (xs:=ys) (λj σ H'=>Ex4 λ(θ ε:Am) (r:List (List fS × V)) (ks:Ac)=>An6 (σ=[Y3 L,Y3 d,Y3 p,θ,ε]) (Y1) (H' p=Y07 r) (r.map (·.1)=ks.map kT) (ks.Nodup) (∀d,d∈ks ↔ ∃c∈(lvl F l n).take j,l c=0/\∃f,f<F/\d=ci (cG c f)))
  ⟨_,_,[],[],rfl,s1,e1,rfl,List.nodup_nil,λd=>⟨(λh=>by cases h),λ⟨c,u,_⟩=>by rw[List.take_zero]at u;cases u⟩⟩ (YdD) ?_ ?_
 ·obtain⟨_,_,_,_,_,S',_⟩:=q;exact gH.of (S' _ _ hL)
 ·rintro j x σ H2 hx ⟨θ,ε,r,ks,rfl,S2,Z,C,nd,δ⟩;refine Y5A;intro υ;obtain⟨cc,u,rc⟩:=fC ry hx;obtain⟨ac,rfl,X⟩:=iG rc;have U:=aE u;obtain⟨lc,sc⟩:=iU ((mF f1 n).subset U);have hcr:Y3G cc:=(gA f1).mpr (Y2l lc);obtain⟨tk,ht,τ⟩:=tb.same S2;obtain⟨v,hv,sv⟩:=τ cc (I.lvl n U);have step:∀d,(∃c∈(lvl F l n).take (j+1),l c=0/\∃f,f<F/\d=ci (cG c f))↔(∃c∈(lvl F l n).take j,l c=0/\∃f,f<F/\d=ci (cG c f))\/(l cc=0/\∃f,f<F/\d=ci (cG cc f)):=λd=>by
   rw[gT u];constructor
   ·rintro⟨c,Y,h⟩;rcases dH.mp Y with μ | μ
    ·exact .inl ⟨c,μ,h⟩
    ·rw[bV.mp μ]at h;exact .inr h
   ·rintro(⟨c,Y,h⟩ | h)
    ·exact⟨c,cN _ Y,h⟩
    ·exact⟨cc,Y9F _ rfl,h⟩
  refine Y05 (rind (dgI (cc:=cc) ht (S2 _ _ X)) ?_);rw[hv];refine Y6 (oI ?_);refine Y05 (Y5x ht cc (by rw[fL];exact S2 _ _ X) hv ?_);obtain⟨hf0,hfs,ψ,γ⟩:=I.hd cc (I.lvl n U);rw[ψ]at sv;refine lI.i sv (Y6 (CK (Y9P) (Y9P)))
  ·have B:l cc=0:=γ.mp on;refine Y2B;intro υ;refine Y9;refine fV.i (wA (S2 _ _ X)) Oo λD zs H3 hD e3 r3 ν=>Y1A D e3 ?_;have lz:zs.length=F:=by rw[r3.len,aA,aA,aW];exact lc
   have ω:D≠p:=λz=>by rw[z,Z]at hD;cases hD
   refine mG (xs:=zs) (λg σ H'=>Ex3 λ(ε:Am) (r:List (List fS × V)) (ks:Ac)=>An6 (σ=[Y3 L,Y3 d,Y3 p,Y3 ac,ε]) (aU p H3 H') (H' p=Y07 r) (r.map (·.1)=ks.map kT) (ks.Nodup) (∀d,d∈ks↔(∃c∈(lvl F l n).take j,l c=0/\∃f,f<F/\d=ci (cG c f))\/∃f,f<g/\d=ci (cG cc f)))
    ⟨_,r,ks,rfl,(Y08).but,ν _ _ Z,C,nd,λd=>by rw[δ];exact⟨.inl,λh=>by rcases h with h | ⟨f,J,_⟩;exact h;exact Oo⟩⟩ (λg σ H' _ q=>?_) ?_ ?_
   ·obtain⟨_,_,_,_,b',_⟩:=q;exact Ycy ω e3
   ·rintro g z σ H4 hz ⟨ξ,W,G,rfl,η,e4,N,S,O⟩;refine Y5A;intro υ;have hg:g<F:=by have:=(aB.mp hz).1;exact Oo
    obtain⟨c2,α,ad⟩:=fC r3 hz;rw[aG,bM Oo]at α;cases α;have t4:eZ H3 H4:=aU.tT η (ν _ _ Z);obtain⟨a2,rfl,ab⟩:=iG (ad.flat t4 (rJ _));have lk:G.length<=56:=by
     have:=yI S (m:=(lvl F l (n+1)).map ci) λd hd=>by
      rcases(O d).mp hd with h | ⟨f,J,e⟩
      ·exact ζ j d h
      ·exact ζ (j+1) d ((step d).mpr (Y3M B f Oo e))
     rw[aA]at this;exact Oo
    have lkv:W.length=G.length:=by have:=Y8g N;simpa using this
    refine Y0g;refine Y5w e4 (cG cc g) (by rw[fL];exact ab) Oo (λH5 e5 b5=>?_);obtain⟨ks2,k1,k2,k3⟩:=aEQ (v:=Yaa) (ci (cG cc g)) N S;refine⟨_,_,ks2,rfl,η.trans b5,e5,k1,k2,Y6j⟩;rw[k3,O];constructor
    ·rintro((h | ⟨f,J,e⟩) | h)
     ·exact .inl h
     ·exact .inr ⟨f,Oo,e⟩
     ·exact .inr ⟨g,Oo,h⟩
    ·rintro(h | ⟨f,J,e⟩)
     ·exact Yb2 h
     ·by_cases q:f=g
      ·subst q;exact .inr e
      ·exact .inl (.inr ⟨f,Oo,e⟩)
   ·rintro σ H4 ⟨ξ,W,G,rfl,η,e4,N,S,O⟩;refine⟨_,_,W,G,rfl,aT.thru hp (S2.trans ν) η,e4,N,S,Y6j⟩;rw[O,step,lz];constructor
    ·rintro(h | h)
     ·exact .inl h
     ·exact Y2W B h
    ·rintro(h | h)
     ·exact .inl h
     ·exact .inr h.2
  ·have B:¬l cc=0:=λz=>on (γ.mpr z);refine⟨_,_,r,ks,rfl,S2,Z,C,nd,Y6j⟩;rw[δ,step];exact⟨.inl,λh=>by rcases h with h | h;exact h;exact absurd h.1 B⟩
 ·rintro σ H2 ⟨θ,ε,r,ks,rfl,S2,Z,C,nd,δ⟩;rw[ly,dL]at δ;have y:∀d,d∈ks↔d∈(lvl F l (n+1)).map ci:=λd=>by
   rw[δ,aN];constructor
   ·rintro⟨c,u,B,f,J,e⟩;exact⟨Y0w c,(mD f1).mpr ⟨c,u,B,f,J,rfl⟩,e.symm⟩
   ·rintro⟨d',aa,rfl⟩;obtain⟨c,u,B,f,J,rfl⟩:=(mD f1).mp aa;exact⟨c,u,B,f,J,rfl⟩
  have lk:ks.length<=56:=by
   have:=yI nd (m:=(lvl F l (n+1)).map ci) λd hd=>(y d).mp hd;rw[aA]at this;exact Oo
  refine Y9;refine rsrd (cs:=ks) Z C (λc u=>?_) Oo λq8 κ ds H8 pm pw ι e8 r8 s8=>?_
  ·obtain⟨d,hd,rfl⟩:=aN.mp ((y c).mp u);obtain⟨l1,_⟩:=iU ((mF f1 (n+1)).subset hd);intro z;have e:(ci d).length=d.length:=by unfold ci;rw[aA]
   rw[z,List.length_nil]at e;exact Oo
  have β:((lvl F l (n+1)).map ci).Pairwise λa b=>sM a b=true:=by
   by_cases z:n+1<=5
   ·exact(aBS F f4 (n+1) z).sublist ((mF f1 (n+1)).map ci)
   ·have e:=AO f1 I.on (n-M);rw[show M+1+(n-M)=n+1 by exact Oo]at e;rw[e];exact List.Pairwise.nil
  have ο:ds=(lvl F l (n+1)).map ci:=JQ pw β λd=>by rw[pm.mem_iff];exact y d
  rw[ο,List.map_map,show(lvl F l (n+1)).map ((λc:Af=>PyData.tuple (c.map .int)) ∘ ci)=(lvl F l (n+1)).map uZ from fO λc _=>ctI c]at r8;exact q q8 H8 (S2.trans s8) (S2.free ι) ⟨κ,e8,r8⟩
def aH8(F:Yb "counts_come_to" "counts_come_to" aDQ)(T:Ye)(FQ46:Y01 "noughts" ["faces"] mV)(FQ26:Y2Q "counts_behind" ["level","table"] (wW K)):dO P w K mg base cV 4 f fd a08 (wU K):=by
 refine F.oky aB5 YdP;obtain @⟨H,Q,E,d,F,M,a,ξ,R,ε,I,q⟩:=h;refine Y5 (λη A O s θ=>?_);have f1:=I.f1;have f4:=I.f4;have m5:=I.m5;refine⟨_,(aH (Y1D aB5.nd (iQ aQ))
  (aH (Y1t aB5.nd (iQ (Y18 (Y0y FQ46 0))))
  (aH (wI PassesOwn.never (eN ET (Y8J oA (by rfl) Kk 3) aL) (aH (lP (Ydb MV Y02 (Y4U 3)))
  (aS (Y2j 3 aB5.nd FQ26 3 Y0f))))
  (Y2z 2)))),?_⟩
 refine Yr;intro X β;refine DT (by show 0<=64;decide) λr H1 C g γ=>Yw;intro X β;refine Y9;refine mV.i Oo λv H2 J L=>DT (by show 1<=64;decide) λle H3 u B p=>?_;have y:=(γ.trans J).trans p;have n:le≠r:=λz=>by subst z;rw[J _ _ g]at u;cases u
 have l:∀i,i<=M+1->((List.range i).flatMap (lvl F a)).length<=400:=λi ο=>aJ (CT (mF f1) (List.range i)).length_le (yV F f4 i Oo);refine zZ (λm σ H'=>Ex3 λ(le:Addr) (e:Al) (j:Nat)=>An8 (σ=[Yg (F:Int),Y3 d,Y3 r,Y3 le]) (Y1) (H' r=Yl e) (bI H' (((List.range j).flatMap (lvl F a)).map uZ) e) (nU H' le (lvl F a j)) (le≠r) (j<=M+1) (m=M+1-j))
  (λσ H'=>∃(le:Addr) (e:Al),σ=[Yg (F:Int),Y3 d,Y3 r,Y3 le]/\Y1/\H' r=Yl e/\bI H' ((rE F M a).map uZ) e)
  _ ⟨le,[],0,rfl,y,p _ _ (J _ _ g),bI.nil,Y0U B (Y6P (L.same p)),n,Y0x,rfl⟩ ?_ ?_
 ·clear g γ J p y B u n L;rintro m σ H1 ⟨le,e,j,rfl,S1,g,G,L1,n,δ,rfl⟩;obtain⟨α,Z,L,lw⟩:=L1.len;have ι:e.length=((List.range j).flatMap (lvl F a)).length:=gZ G;have ν:=l j δ;refine Y6 (rlL Z ?_);refine Y5i _ _ _ ?_;by_cases hz:lvl F a j=[]
  ·have κ:α.length=0:=by rw[lw,hz];rfl
   refine sX (bT Oo) (Y7s le e S1 g ?_);have:=FD f1 hz (M+1-j);rw[show j+(M+1-j)=M+1 by exact Oo]at this;unfold rE;rw[this];exact G
  ·have μ:0<(lvl F a j).length:=List.length_pos_iff.mpr hz;have S:j<=M:=cI λz=>hz (by
    have:=AO f1 I.on (j-(M+1))
    rwa [show M+1+(j-(M+1))=j by exact Oo]at this)
   refine zI (cO Oo) (Yr);intro X β;have U:=l (j+1) Oo;rw[rH,aV]at U;refine⟨_,rfl,VD g,_,rfl,?_⟩;refine aE4 g Z Oo λH2 B N=>?_;have W:=N.t g;have S2:aT H H2:=aT.thru C S1 N;refine Y0g;refine wW.i (L1.butL N g n) (ε.same S2) I S λD H3 p Y L3=>?_;have ζ:D≠r:=λz=>by subst z;rw[B]at Y;cases Y
   refine⟨_,Oo,D,e++α,j+1,rfl,S2.trans p,p _ _ B,?_,L3,ζ,Oo,rfl⟩;rw[rH,bD];exact bI.app ((G.flat W (mH _)).same p) ((L.flat W (mH _)).same p)
 ·rintro σ H1 ⟨le,e,rfl,S1,g,G⟩;exact Y6 (q r H1 S1 C ⟨e,g,G⟩)
def aHB(F:Yb "rule_within" "rule_within" aDl)(T:Ye)(FQ27:Y1n 4 "counts_come_to" a08 (wU K)):dO P w K mg base cV 5 f fd a08 (qP K):=by
 refine F.oky aIL λχ H Q E h=>?_;obtain @⟨H,Q,E,d,F,M,a,N,R,J,I,q⟩:=h;refine Y5 (λξ A m s X=>?_);have f1:=I.f1;refine Y6c _ (Y57 dQ (by rfl) Kk ["counts","table"] [1] (eG (Y2A FQ27 0 1)) (dX (Y1S 0 (Y7d X.u1 Yz))));refine Y0g;refine wU.i J I λD H1 C τ L1=>?_;obtain⟨ο,G,κ,ω⟩:=L1.len;have υ:(rE F M a).length<=400:=aJ (jE f1).length_le I.r;refine Y1A D G (fD (λi y H'=>∃e,(ruG F M a N)[i]?=Y6G/\EnW K H' e y) (λi y φ ψ s ⟨e,z,p⟩=>⟨e,z,p.t s⟩) Oo G (λi x H' Q' ε u Y=>?_) (λD2 n H2 W γ μ ρ j=>?_))
 ·obtain⟨g,O,U⟩:=fC κ ε;obtain⟨b,rfl,L⟩:=iG (U.same u);obtain⟨α,Z,θ⟩:=J;obtain⟨v,β,ι⟩:=θ g (I.ruC (aE O));refine Y2E (Y5x (u _ _ (C _ _ Z)) g (by rw[fL];exact L) β ?_);exact rG (by show 2<=64;decide) λδ H3 η ζ B=>Y _ H3 B ⟨(g,N g),by unfold ruG;rw[aG,O];rfl,δ,b,v,rfl,ζ,B _ _ L,ι.t ((C.trans u).trans B).t⟩
 ·refine Y0X D2 n (Y99 γ (λl S=>?_));have sl:=Y3b n S;refine q _ _ ((C.trans μ).trans sl) (Y7s l n bK (by unfold ruG;rw[aA];exact Oo) (λi y ν=>?_));obtain⟨e,z,p⟩:=j i y ν;exact⟨e,z,p.t sl.t⟩
end
def TbW(K:Aa)(H:Hp)(d:Addr)(rs:Ab)(W:Nat)(best:Y0B):Prop:=∃kvs,H d=Y1q/\∀c∈rs,∃v,Y2Z c=Ys/\DZ K H (Y5G W) v
inductive uK (K:Aa) (C:Addr):Yq
 | i {H:Hp} {Q:VK} {E:XK} {x bp:Addr} {kb:Yv} {F W M:Nat} {ss:Aj} {mix cs:Ak} {us:Ae} {cu:Nat} {best:Y0B} (h1:zU H x C F W M ss mix cs us cu) (h2:H bp=Y07 kb) (h3:UI kb (Y0d) best) (h4:W<=4) (h5:(Y0d).length<=400) (k:∀d H',Y1->TbW K H' d (Y0d) W best->Y0u d):uK K C [Y2a,.ref bp] H Q E
section
def aHI(F:Yb "plain_table" "plain_table" aDs)(T:Ye):dO P w K mg base cV 1 f fd a12 (uK K c.Weighing):=by
 refine YdO aB0 ?_;obtain @⟨H,Q,E,x,ρ,kb,F,W,M,ss,mix,cs,us,cu,a,wg,Z,C,w4,r4,k⟩:=h;refine Y5 (λaa A N s η=>?_);obtain⟨τ,dx,fl,ra,ua,wa,ca,tas,χ,ν,a1,φ,a3,a4,a5,⟨R,δ,r⟩,a7,a8,a9,a10,a11⟩:=wg;have O:=T.w_Weighing;have S:R.length=(Y0d).length:=by rw[r.len,aA]
 refine⟨_,(aH (Y1D aB0.nd (jH oA (by rfl) T.b_len Kk (Y18 Y1Y)))
  (aH (Y1t aB0.nd nK)
  (aH (Y7B Y6i (Yc9 4 aB0.nd rfl rfl) (jC η.u1 (Y0r) (Y0V) (Y57 dQ (by rfl) Kk ["place","best_at","counts"] [1,4] (Y71 (Y8P Y02)) (oS (Y1r rF 0 (Y7d η.u1 Y02)) (Ybo Ybc T.g_ONE rfl) (Ycw Y9i rfl)))))
  (Y2z 3)))),?_⟩
 refine Yr;intro ζ ω;refine Y1Q (by simp) ν φ;refine rlL a7 (Yw);intro ζ ω;rw[aA,τ];intro p ι;have B:=Y6N [] ι;have α:(upd H p (.dT [])) p=Y07 []:=bK;generalize upd H p (.dT [])=H1 at B α ⊢;refine Y1Q (by simp) (B _ _ ν) a1;refine Y1A ra (B _ _ δ) ?_;refine mG (xs:=R) (YaB (λ(X:Am) (j:List (List fS × V))=>An5 (σ=[Y3 x,Y3 ρ,Yg (W:Int),Y3 p,X]) (Y1) (H' p=Y07 j) (j.length<=i) (∀d∈(rise F M).take i,∃v,gD j (Y2R d)=Ys/\DZ K H' (zR W (a d)) v)))
  ⟨_,[],rfl,B,α,Yp,λd u=>by simp at u⟩ (Yat) ?_ ?_
 ·obtain⟨_,_,_,S',_⟩:=q;exact gH.of (S' _ _ δ)
 ·rintro i y σ H2 μ ⟨X,j,rfl,S2,G,l2,D2⟩;refine Y5A;intro ζ;obtain⟨d,u,U⟩:=fC r μ;have hi:=(aB.mp μ).1;obtain⟨ac,rfl,n⟩:=iG U;have hb:=C.1 d (aE u);refine⟨_,rfl,_,_,rfl,rfl,_,rfl,Oo,Oo,kO (λq z H'=>q<1+W/\AV K H' (if q=a d then(1,1) else(0,1)) z) (λq z Ha Hb s ⟨J,g⟩=>⟨J,g.t s⟩) Oo (λq H' Q' Y γ κ=>?_) (λD m H3 hD e3 L υ I=>?_)⟩
  ·have Y:q<1+W:=Oo;rw[Int.zero_add];refine Y2E (Y5x (γ _ _ (S2 _ _ Z)) d (by rw[fL];exact γ _ _ (S2 _ _ n)) hb ?_);refine Y0X rfl _ (CK (Y54) (Y54))
   ·have e:q=a d:=by injection e with e;exact Oo
    exact κ _ H' (Y08) ⟨Y,by rw[Y1T];exact .inr (Y6 T.o_ONE)⟩
   ·have e:¬q=a d:=λz=>e (by rw[z]);exact κ _ H' (Y08) ⟨Y,by rw[Y0Y];exact .inr (Y6 T.o_NOUGHT)⟩
  ·refine Y0X D m (Y6W e3 ?_);have sl:=Y3b m hl;have θ:(upd H3 l (.tup m)) l=Yf m:=bK;generalize upd H3 l (.tup m)=H4 at sl θ ⊢;have ly:m.length=1+W:=Oo;have ψ:DZ K H4 (zR W (a d)) (Y11):=⟨l,m,rfl,θ,by unfold zR;rw[aA,aW];exact ly,λq z hz=>by
    obtain⟨J,g⟩:=I q z hz;exact Y0U (by unfold zR;rw[aG,bM J];rfl) (g.t sl.t)⟩
   refine Y0g;have S4:=(S2.trans L).trans sl;have ο:=sl _ _ (L _ _ G);refine Y5w ο d (by rw[fL];exact S4 _ _ n) Oo (λH5 e5 ξ=>?_);have ε:eZ H4 H5:=aU.tT ξ ο;refine⟨_,_,rfl,aT.thru ι S4 ξ,e5,by have:=Y5K j d (V.ref l);exact Oo,λβ g=>?_⟩;rw[iC];by_cases e:β=d
   ·subst e;rw[Yt];exact Y6 (ψ.t ε)
   ·rw[Y2t (e (Y3C z))];rw[gT u]at g;rcases dH.mp g with g | g
    ·obtain⟨v,g1,g2⟩:=D2 β g;exact⟨v,g1,((g2.t L.t).t sl.t).t ε⟩
    ·exact Yck g e
 ·rintro σ H2 ⟨X,j,rfl,S2,G,l2,D2⟩;rw[S,dL]at D2;exact Y6 (k p H2 S2 ⟨j,G,D2⟩)
end
end Kw
namespace L2
open PySem PySem.Spec PySem.W PyProof.Rows HT
section
variable{prog:Program}{w:World}{A:Around}{E:Yc}{s:Shared}
end
section
variable{X:Cx}{pins:Ad}{σ:St}{H:Hp}{s:Shared}
end
section
variable{X:Cx}{pins:Ad}{σ:St}{H:Hp}{s:Shared}
end
end L2
namespace HT
open PySem PySem.W PyProof.Rows
section
variable{A:Around}{s:Shared}
end
section
open PySem.SeqAt
open PySem.AutoSeq1 (wpAny_loadPart')
open PySem.MeetsSeq PySem.MeetsSeq2 PySem.MeetsSeq3
end
section
variable{prog:Program}{w:World}{A:Around}{E:Yc}{s:Shared}
end
end HT
namespace L2
open PySem PySem.Spec PySem.W PyProof.Rows HT
section
variable{X:Cx}
end
end L2
namespace HT
open PySem PySem.W PyProof.Rows PySem.SeqAt
open PySem.MeetsSeq PySem.MeetsSeq2 PySem.MeetsSeq3
open PySem.AutoSeq1 (wpAny_loadPart')
abbrev lsO(xs:Ai)(n:Nat)(dd:Y3v)(sl:Y60):Obj:={ cls:=.type "list",dict:=dd,data:=.seq xs n,slots:=sl }
def QE{xs:Ai}{ns:Af}(h:Y67 xs.toList):Y9g xs.size/\∀i (hi:i<xs.size),∃t,∃hn:i<ns.length,xs[i]=Y4g (ns[i]):=by
 have d:∀{c:Ag} {ns:Af},Y67 c->Y9g c.length/\∀i (hi:i<c.length),∃t,∃hn:i<ns.length,c[i]=Y4g (ns[i]):=by
  intro c ns q
  induction q with
  | nil=>exact Y5 (λi hi=>by simp at hi)
  | cons a t q ih =>
   refine⟨by rw[cL,cL,ih.1],λi hi=>?_⟩;cases i with
   | zero=>exact Y4n t (by simp)
   | succ i =>
    obtain⟨u,hn,e⟩:=ih.2 i (by simpa using hi);exact⟨u,by simpa using hn,by simpa using e⟩
 obtain⟨j,g⟩:=d h;refine⟨by rw[j];simp,λi hi=>?_⟩;obtain⟨t,hn,e⟩:=g i (by simpa using hi);exact⟨t,hn,by rw[<-e];simp⟩
def aBA(l b:Addr){xs ys:Ai}(n n2:Nat)(dd dd2:Y3v)(sl sl2:Y60){ns ms:Af}(hx:Y67 xs.toList)(hy:IntsAre ys.toList ms)(hz:Yci)(k:Nat):∀i:Nat,xs.size-i=k ->
  Meets (Builtin.«list.__eq__.loop» ⟨[Y11,Y0p,rawInt i,rawInt 0],[]⟩) (λA R s=>(Y1V l (lsO xs n dd sl)/\Y1V b (lsO ys n2 dd2 sl2))/\R (.ok (.ret (.bool (vI (ns.drop i) (ms.drop i))))) s):=by
 obtain⟨U,T⟩:=QE hx;obtain⟨W,O⟩:=QE hy
 induction k with
 | zero =>
  intro i G a w A R s ⟨⟨m,j⟩,h⟩;obtain⟨z,g,d,y,r⟩:=s;have S:Y2h (((i:Nat):Int).toNat)=none:=by simp;exact Oo
  have n2:ys[((i:Nat):Int).toNat]?=none:=by simp;exact Oo
  rw[List.drop_eq_nil_of_le Oo,List.drop_eq_nil_of_le Oo]at h
  wp_walk using YbP,YbO
  rw[S,n2]
  wp_walk using YbP,YbO
  have J:Yx (Y1E xs.size ys.size):=bT Oo;show R (.ok (.ret (.bool (Y1E xs.size ys.size)))) _;rw[J];exact h
 | succ k ih =>
  intro i G a w A R s ⟨⟨m,j⟩,h⟩;obtain⟨z,g,d,y,r⟩:=s;have D:i<xs.size:=Oo;have B:i<ys.size:=Oo;obtain⟨t,M,I⟩:=T i D;obtain⟨u,P,L⟩:=O i B;have p:Y2h (((i:Nat):Int).toNat)=some (Y4g (ns[i])):=by rw[<-I];simp[D]
  have C:ys[((i:Nat):Int).toNat]?=some (.int ms[i] u):=by rw[<-L];simp[B]
  have up:((i:Int)+1)=((i+1:Nat):Int):=Oo;rw[List.drop_eq_getElem_cons M,List.drop_eq_getElem_cons P,CG]at h
  wp_walk using YbP,YbO
  rw[p,C];obtain⟨e,N,c⟩:=YT A.in1 ⟨z,g,d,y,r⟩ ns[i] t ms[i] u;refine wpAny_bind (N a w _ _ ?_);cases e with
  | true =>
   rw[if_pos (c.mp rfl)]at h
   wp_walk
   rw[up];refine⟨plainId_quiet plain_eq_loop _,YbR entry_eq_loop⟩;rw[YcU plain_eq_loop];exact ih (i+1) Oo a w A R _ ⟨⟨m,j⟩,h⟩
  | false =>
   rw[Y4r (Y2v (c.mpr q))]at h
   wp_walk using YbP,YbO
   rw[p,C];refine wpAny_bind ((PyProof.Rows.lt_int ?_:wpAny (model a w) A.in1 (compareOp .Lt (.int ns[i] t) (.int ms[i] u)) _ _ _))
   wp_walk
   exact h
def aBD(l b:Addr){xs ys:Ai}(n n2:Nat)(dd dd2:Y3v)(sl sl2:Y60){ns ms:Af}(hx:Y67 xs.toList)(hy:IntsAre ys.toList ms)(hz:Yci) :
  Meets (Builtin.«list.__lt__» ⟨[Y11,Y0p],[]⟩) (λA R s=>(Y1V l (lsO xs n dd sl)/\Y1V b (lsO ys n2 dd2 sl2))/\R (.ok (.ret (.bool (vI ns ms)))) s):=by
 intro a w A R s ⟨⟨c,e⟩,h⟩;obtain⟨j,g,d,i,m⟩:=s;have sub:=AutoSeq1.sub_list_list
 wp_walk using YbD,wpAny_loadPart' e
 refine⟨plainId_quiet plain_eq_loop _,YbR entry_eq_loop⟩;rw[YcU plain_eq_loop];exact aBA l b n n2 dd dd2 sl sl2 hx hy hz _ 0 rfl a w A R _ ⟨⟨c,e⟩,by rw[List.drop_zero,List.drop_zero];exact h⟩
theorem nH:∀{ns:Af}{us:Ag},L2.eE (ns.map L2.V.int) us->Y67 us
 | [],_,r=>by cases r;exact .nil
 | n::ns,_,r=>by
  cases r with
  | cons h t =>
   obtain⟨k,rfl⟩:=h;exact .cons n k (nH t)
end HT
namespace L2
open PySem PySem.Spec PySem.W PyProof.Rows HT
@[irreducible] def aAZ:R2:=λx y H Q=>∃(a b:Addr) (ns ms:Af),x=Yi/\y=Y0p/\H a=Y8E/\H b=Yl (ms.map V.int)/\Yci/\Y2N (vI ns ms)
def rltl{H:Hp}{Q:VK}{a b:Addr}{ns ms:Af}(h1:H a=Y8E)(h2:H b=Yl (ms.map V.int))(h3:Yci)(q:Y2N (vI ns ms)):aAZ (Yi) (Y0p) H Q:=by unfold aAZ;exact⟨a,b,ns,ms,rfl,rfl,h1,h2,h3,q⟩
section
variable{X:Cx}
def aEE(hu:Y4v 64<cLine):Y3s X .Lt aAZ:=by
 unfold aAZ;intro e s σ H x y v u Q I p l h;obtain⟨a,b,d,c,rfl,rfl,j,C,B,q⟩:=h;cases p;cases l;obtain⟨_,r,L,D,g⟩:=(show hV X.prog X.w H s.heap a (.lst (d.map V.int))from I.hok a _ j);obtain⟨_,G,m,J,i⟩:=(show hV X.prog X.w H s.heap b (.lst (c.map V.int))from I.hok b _ C);have n:IntsAre r.toArray.toList d:=by simpa using HT.nH D
 have z:IntsAre G.toArray.toList c:=by simpa using HT.nH J
 exact richCompare_meets_room (op:=.Lt) (Y0R g) (Y0R i) PySem.F.slot_list_lt PySem.F.entry_list_lt (PySem.F.args_list_lt_2 _ _) (aBD a b L m _ _ _ _ n z B) ⟨⟨g,i⟩,show Value.bool (vI d c)≠Value.notImplemented/\_ from⟨(λx=>nomatch x),⟨.bl _,H,I,rfl,q⟩⟩⟩ Oo
end
end L2
namespace Kw
open PySem L2 Mf
abbrev aDy:Stmt:=(top 24)
def aIT:Yd a35 a35 aDy:={}
abbrev aDo:Stmt:=(top 25)
def aIP:Yd a32 a32 aDo:={}
def YU(xs ys:Af):Int:=(List.zipWith (· * ·) xs ys).sum
def aEH(n k:Nat):Af:=(List.range n).map λj=>if j=k then 1 else 0
inductive qS:Yq
 | i {H:Hp} {Q:VK} {E:XK} {n k:Nat} (h:n<=64) (q:∀D H',H D=none->Y0G=Yl ((aEH n k).map V.int)->Y1->Y1a):qS [.int (n:Int),.int (k:Int)] H Q E
inductive uL:Yq
 | i {H:Hp} {Q:VK} {E:XK} {a b:Addr} {xs ys:Af} (h1:H a=Yl Ycr) (h2:H b=Yl (ys.map V.int)) (h3:Ycg) (h4:Y6R 64) (h5:∀x∈xs,Y5l Y0W) (h6:∀y∈ys,y.natAbs<Y0W) (q:∀H',Y1->Q (.int (YU xs ys)) H'):uL [Yi,Y0p] H Q E
def oP{ys:Al}{g:Y0}{n:Nat}(hl:Y2x n)(h:∀(i:Nat) (y:V),Y1m=Y09->y=.int (g i)):ys=((List.range n).map g).map V.int:=by
 refine Y7n ?_;rw[aG,aG];by_cases hi:i<n
 ·rw[bM hi,aC Oo];exact YaR (h i _ (aC Oo))
 ·rw[cA Oo,cA (by rw[aW];exact Oo)];rfl
def sO{xs:Af}{i:Nat}{v:V}(h:(Ycr)[i]?=Ys):∃x,Y0s=Y7/\v=.int x:=by
 rw[aG]at h;obtain⟨x,a,rfl⟩:=eI.mp h;exact Y4n x a
def zY{f:Int->Int->Int}{xs ys:Af}(hl:Ycg):List.zipWith f xs ys=(List.range xs.length).map λi=>f (Y9X i) (ys.getD i 0):=by
 refine Y7n ?_;rw[List.getElem?_zipWith,aG];by_cases hi:Y2u i
 ·have d:i<ys.length:=Oo;rw[bM hi];simp[hi,d]
 ·have a:Y0s=none:=cA Oo;have c:(List.range xs.length)[i]?=none:=cA (by rw[aW];exact Oo);rw[a,c];rfl
def aFV{K:Aa}{H:Hp}{p:Addr}{ns:Af}{Q:VK}(h:H p=Y8E)(q:Ybh):MK K [Y0Z] H Q:=by unfold MK;exact Y0h p ns (gH.of h) q
section
def aHO(F:Yb "one_among" "one_among" aDy)(T:Ye):dO P w K mg base cV 1 f fd a35 qS:=by
 refine YdN aIT ?_;obtain @⟨H,Q,E,n,k,B,q⟩:=h;refine Y5 (λu A a s g=>?_);refine Y6c _ (Y7p ["k","place"] [1] (Y7N 0) (oS (Y1r rF 0 Y0f) aL aL));refine⟨_,rfl,_,rfl,Oo,Oo,?_⟩;rw[show((n:Nat):Int).toNat=n by exact Oo];refine kO (n:=n) (λi y _=>y=.int (if i=k then 1 else 0)) (Y8Z) Oo (λi H' Q' G l j=>?_) (λD z H' m d l p g=>?_)
 ·refine Y4J _ _ rfl Y9;rw[Int.zero_add,xL];by_cases e:i=k
  ·rw[show(((i:Nat):Int) == (k:Int))=true by rw[e];simp];exact oI (j _ H' (Y08) (by rw[Y1T]))
  ·rw[show(((i:Nat):Int) == (k:Int))=false by rw[beq_eq_false_iff_ne];exact Oo];exact nY (j _ H' (Y08) (by rw[Y0Y]))
 ·rw[oP p g]at d;exact q D H' m d l
def aHE(F:Yb "product" "product" aDo)(T:Ye):dO P w K mg base cV 1 f fd a32 uL:=by
 refine F.oky aIP λW H Q E h=>?_;obtain @⟨H,Q,E,a,b,xs,ys,p,n,B,I,M,C,q⟩:=h;refine Y5 (λN A g s l=>?_);refine Y6c _ (jH (NM rfl) (by rfl) T.b_sum Kk (Y18 (Y76 a00 a00 [] (Ya9 0 Y0f) (Y2X dN 0 1))));refine Y05 (Y0F a b Ycr (ys.map V.int) p n (kP (b1:=false) (b2:=false) (xs:=Ycr) (ys:=ys.map V.int) (λi z _=>z=.int (Y9X i*ys.getD i 0)) (Y8Z) (by rw[aA];exact Oo) p n (by rw[aA,aA];exact B) (λi x y H' Q' L J u G=>?_) (λD O H' R j u m l=>?_)))
 ·obtain⟨U,e,rfl⟩:=sO L;obtain⟨S,d,rfl⟩:=sO J;exact⟨_,rfl,_,rfl,_,_,rfl,rfl,mC (M _ (aE e)) (C _ (aE d)),G _ H' (Y08) (by rw[aR,aR,e,d];rfl)⟩
 ·rw[aA]at m;rw[oP m l]at j;refine aFV j ?_;have:YU xs ys=((List.range xs.length).map λi=>Y9X i*ys.getD i 0).sum:=by unfold YU;rw[zY B]
  rw[<-this];exact q H' u
end
abbrev aDI:Stmt:=(top 27)
def aIZ:Yd a18 a18 aDI:={}
abbrev aDE:Stmt:=(top 26)
def ZR:Yd ["rows","steps","out","place","step"] ["rows","steps"] aDE:={}
def wC(H:Hp)(a:Addr)(m:Ac):Prop:=∃las:List Addr,H a=Yl (las.map V.ref)/\las.length=m.length/\∀(i:Nat) (l:Addr) (row:Af),las[i]?=some l->m[i]?=some row->H l=Yl (row.map V.int)
def wC.same{H H':Hp}{a:Addr}{m:Ac}(h:wC H a m)(s:Y1):wC H' a m:=by
 obtain⟨c,e,d,j⟩:=h;exact⟨c,s _ _ e,d,λi l row n g=>s _ _ (j i l row n g)⟩
def wC.at_{H:Hp}{a:Addr}{m:Ac}(h:wC H a m):∃vs:Al,H a=Yl vs/\Y6V m.length/\∀(i:Nat) (row:Af),m[i]?=some row->∃l,vs[i]?=Y3 l/\H l=Yl (row.map V.int):=by
 obtain⟨c,j,g,p⟩:=h;refine⟨_,j,by rw[aA,g],λi row d=>?_⟩;have n:i<c.length:=by have:=(aB.mp d).1;exact Oo
 have e:=aC n;exact⟨c[i],by rw[aG,e];rfl,p i _ row e d⟩
structure MzK(N C:Nat)(m:Ac)(ss:Af):Prop where
 ls:ss.length=m.length
 few:m.length<=64
 row:∀r∈m,r.length=N
 n64:N<=64
 sz:∀r∈m,∀x∈r,Y5l (2^C)
 ssz:∀x∈ss,Y5l (2^C)
 c4:C<=4000
def zD(m:Ac)(ss:Af)(i o:Nat):Bool:=HT.vI ((m.getD i []).map (· * ss.getD o 0)) ((m.getD o []).map (· * ss.getD i 0))
inductive AB:Yq
 | i {H:Hp} {Q:VK} {E:XK} {ra sa:Addr} {m:Ac} {ss:Af} {i o N C:Nat} (h1:wC H ra m) (h2:H sa=Yl (ss.map V.int)) (h3:MzK N C m ss) (h4:i<m.length) (h5:o<m.length) (q:∀H',Y1->Q (.bl (zD m ss i o)) H'):AB [.ref ra,.ref sa,.int (i:Int),.int (o:Int)] H Q E
def BY(xs:Af)(s:Int):xs.map (· * s)=(List.range xs.length).map λi=>Y9X i*s:=by
 refine Y7n ?_;rw[aG,aG];by_cases hi:Y2u i
 ·rw[bM hi];simp[hi]
 ·rw[cA Oo,cA (by rw[aW];exact Oo)];rfl
def lK{α:Type}{l:Yu}{i:Nat}(d:α)(h:i<l.length):l[i]?=some (l.getD i d):=by
 rw[aR,aC h];rfl
def pY{α:Type}{l:Yu}{i:Nat}{d a:α}(h:l[i]?=some a):l.getD i d=a:=by rw[aR,h];rfl
noncomputable def EW (m:Ac) (ss:Af):Y03 Ybb
 | 0=>none
 | n+1=>@ite _ (0<ss.getD n 0/\(EW m ss n=none\/∃o,EW m ss n=some o/\zD m ss n o=true)) (Classical.propDecidable _) (some n) (EW m ss n)
abbrev oV(o:Ybb):V:=match o with | none=>.non | some i=>.int (i:Int)
inductive AC:Yq
 | i {H:Hp} {Q:VK} {E:XK} {ra sa:Addr} {m:Ac} {ss:Af} {N C:Nat} (h1:wC H ra m) (h2:H sa=Yl (ss.map V.int)) (h3:MzK N C m ss) (q:∀H',Y1->Q (oV (EW m ss ss.length)) H'):AC [.ref ra,.ref sa] H Q E
theorem BZ(m:Ac)(ss:Af):∀(n o:Nat),EW m ss n=Ya->o<n/\0<ss.getD o 0
 | 0,o,h=>by cases h
 | n+1,o,h=>by
  rw[EW]at h;split at h
  ·rename_i hc
   cases h;exact⟨Oo,hc.1⟩
  ·have:=BZ m ss n o h;exact⟨Oo,this.2⟩
section
def aHZ(F:Yb "is_sooner" "is_sooner" aDI)(T:Ye):dO P w K mg base cV 1 f fd a18 AB:=by
 refine F.oky aIZ λρ H Q E h=>?_;obtain @⟨H,Q,E,ψ,sa,m,e,i,o,N,C,τ,α,Z,ε,β,q⟩:=h;refine Y5 (λχ A O s ι=>?_);obtain⟨ρ,Y,l1,u⟩:=τ.at_;obtain⟨ν,M,n⟩:=u i _ (lK [] ε);obtain⟨θ,W,g⟩:=u o _ (lK [] β);have γ:=eM (a:=([]:Af)) ε;have ζ:=eM (a:=([]:Af)) β;have ξ:=Z.row _ γ;have φ:=Z.row _ ζ;have n64:=Z.n64;have c4:=Z.c4;have ls:=Z.ls;have L:=Ydx e o (0:Int);have R:=Ydx e i (0:Int);have up:∀{x:Int},Y5l (2^C)->Y5l Y0W:=λh=>Y5y h c4;have I:(e.map V.int)[o]?=some (V.int (e.getD o 0)):=by rw[aG,lK 0 Oo];rfl
 have X:(e.map V.int)[i]?=some (V.int (e.getD i 0)):=by rw[aG,lK 0 Oo];rfl
 refine Y6c _ (lS (aEE ι.units) (Y7p ["one","steps","out"] [1,3] (eG (Y4m 0 Y02)) (Y1R dN 0 (Y2O 1 Y02))) (Y7p ["one","steps","place"] [1,2] (eG (Y4m 0 Y0r)) (Y1R dN 0 (Y2O 1 Y02))));refine Y05 (Y47 Y M ?_);refine Y1A ν n (Y7w ((m.getD i []).map V.int) (λj y _=>y=.int ((m.getD i []).getD j 0*e.getD o 0)) (by rw[aA];exact Oo) n (λj x H' Q' S U J=>?_) (λD1 y1 H1 κ p G B ο=>?_))
 ·obtain⟨μ,d,rfl⟩:=sO S;refine Y2E (Y47 (U _ _ α) I ?_);exact Y4k _ (up (Z.sz _ γ _ (aE d))) (up (Z.ssz _ L)) (J _ H' (Y08) (by rw[pY d]))
 rw[aA]at B;rw[oP B ο,<-BY]at p;refine Y05 (Y47 (G _ _ Y) W ?_);refine Y1A θ (G _ _ g) (Y7w ((m.getD o []).map V.int) (λj y _=>y=.int ((m.getD o []).getD j 0*e.getD i 0)) (by rw[aA];exact Oo) (G _ _ g) (λj x H' Q' S U J=>?_) (λD2 ω H2 η z δ D υ=>?_))
 ·obtain⟨μ,d,rfl⟩:=sO S;refine Y2E (Y47 ((G.trans U) _ _ α) X ?_);exact Y4k _ (up (Z.sz _ ζ _ (aE d))) (up (Z.ssz _ R)) (J _ H' (Y08) (by rw[pY d]))
 rw[aA]at D;rw[oP D υ,<-BY]at z;exact rltl (δ _ _ p) z (by rw[aA,aA,ξ,φ]) (q H2 (G.trans δ))
def aHU(F:Yb "leaving" "leaving" aDE)(T:Ye)(FQ36:Y01 "is_sooner" a18 AB):dO P w K mg base cV 2 f fd ["rows","steps"] AC:=by
 refine F.oky ZR λζ H Q E h=>?_;obtain @⟨H,Q,E,U,L,m,a,N,C,X,g,Z,q⟩:=h;refine Y5 (λβ A l s γ=>?_);have ls:=Z.ls;have few:=Z.few;refine⟨_,(aH (Y1D ZR.nd iV)
  (aH (Y7B (FW false rfl T.b_enumerate (Y4U 1)) (Y7h 3 ZR.nd 4 ZR.nd lC) (iS (IC (AX (Y1r ET 4 aL) (wH (IC (UP (Y1r pD 2 iV) (LK (qB (UZ FQ36 (Yz) (Y0f) (Y0r) (Y02))))))))) (aS (Y1D ZR.nd Y0r)) fK))
  (Y2z 2))),?_⟩
 refine Yr;intro O θ;refine⟨_,rfl,L,_,rfl,g,JU (b:=false) (n:=0) (xs:=a.map V.int) (YaB (λ(r j:Am)=>An2 (σ=[Y3 U,Y3 L,some (oV (EW m a i)),r,j]) (Y1))) (Y0X _ _ Y08) (λi σ H' p=>?_) ?_ ?_⟩
 ·obtain⟨_,_,_,W⟩:=p;exact W _ _ g
 ·rintro i y Y σ H1 H2 R ⟨r,j,rfl,u⟩ S D α;obtain⟨x,I,rfl⟩:=sO R;have η:i<a.length:=(aB.mp I).1;have B:a.getD i 0=x:=pY I;have S2:=u.trans α;rw[Int.zero_add]at D;refine⟨Y,[.int (i:Int),.int x],rfl,jA.of D,rfl,_,_,rfl,_,_,rfl,rfl,Y2B⟩;intro O;have G:∀{o:Ybb},o=EW m a i->¬(0<x/\(o=none\/∃k,o=some k/\zD m a i k=true))->EW m a (i+1)=o:=λ{o} e h=>by rw[EW,<-e,B,Y5D]
  have d:∀{o:Ybb},o=EW m a i->(0<x/\(o=none\/∃k,o=some k/\zD m a i k=true))->EW m a (i+1)=some i:=λ{o} e h=>by rw[EW,<-e,B,Y5C]
  refine⟨_,rfl,_,_,rfl,rfl,_,rfl,?_⟩;by_cases hp:0<x
  ·rw[show decide ((0:Int)<x)=true from cO hp];refine oI ?_;cases e:EW m a i with
   | none =>
    refine Y7s _ rfl _ rfl (oI ?_);refine oI (Y6 ⟨Yg (i:Int),Yg x,?_,S2⟩);rw[d e.symm ⟨hp,Y3t⟩];rfl
   | some k =>
    have ε:=(BZ m a i k e).1;refine Y6K;rw[show decide (V.int (k:Int)=V.non)=false from rfl];refine nY (Y4Q _ _ _ rfl _ ?_);refine AB.i (X.same S2) (S2 _ _ g) Z Oo Oo λH3 M=>Y9;cases eb:zD m a i k with
    | true =>
     refine oI (Y6 ⟨Yg (i:Int),Yg x,?_,S2.trans M⟩);rw[d e.symm ⟨hp,.inr (Y00 k eb)⟩];rfl
    | false =>
     refine nY ⟨Yg (i:Int),Yg x,?_,S2.trans M⟩;rw[G e.symm λh=>by
      rcases h.2 with z | ⟨δ,z,J⟩
      ·cases z
      ·cases z;rw[eb]at J;cases J];rfl
  ·rw[show decide ((0:Int)<x)=false from bT hp];refine nY (nY ?_);refine⟨Yg (i:Int),Yg x,?_,S2⟩;rw[G rfl λh=>hp h.1];rfl
 ·rintro σ H1 ⟨r,j,rfl,u⟩;rw[aA];exact Y6 (q H1 u)
end
abbrev aDP:Stmt:=(top 28)
def aB3:Yd ["rows","steps","out","parts","found","row","step"] a29 aDP:={}
def NA{n i:Nat}(h:i<n):SX n (i:Int)=some i:=by
 unfold SX;rw[Y6a,Y6a]
 rfl
def aAf(H H':Hp)(a:Addr)(m:Ac):Prop:=∃las:List Addr,H' a=Yl (las.map V.ref)/\las.length=m.length/\∀(i:Nat) (l:Addr) (row:Af),las[i]?=some l->m[i]?=some row->H l=none/\H' l=Yl (row.map V.int)
def aAf.ll{H H':Hp}{a:Addr}{m:Ac}(h:aAf H H' a m):wC H' a m:=by
 obtain⟨c,e,d,j⟩:=h;exact⟨c,e,d,λi l row n g=>(j i l row n g).2⟩
def JV(m:Ac)(ss:Af)(o:Nat)(p:Int)(i:Nat):Af:=List.zipWith (λx y=>(x*ss.getD o 0-y*ss.getD i 0)/p) (m.getD i []) (m.getD o [])
def CV(m:Ac)(ss:Af)(o:Nat)(p:Int):Ac:=((List.range m.length).map (JV m ss o p)).set o (m.getD o [])
inductive AF:Yq
 | i {H:Hp} {Q:VK} {E:XK} {ra sa:Addr} {m:Ac} {ss:Af} {o N C:Nat} {p:Int} (h1:wC H ra m) (h2:H sa=Yl (ss.map V.int)) (h3:MzK N C m ss) (h4:o<m.length) (h5:0<p) (h6:p.natAbs<2^9000) (q:∀a H',H a=none->aAf H H' a (CV m ss o p)->Y1->Y0u a):AF [.ref ra,.ref sa,.int (o:Int),.int p] H Q E
section
def aH6(F:Yb "exchanged" "exchanged" aDP)(T:Ye):dO P w K mg base cV 1 f fd a29 AF:=by
 refine Y1j aB3;obtain @⟨H,Q,E,ra,ρ,m,n,o,N,C,p,hm,Y,Z,ho,p0,pz,q⟩:=h;refine Y5 (λcdv A ω s O=>?_);obtain⟨vs,S,l1,X⟩:=hm.at_;obtain⟨χ,ζ,B⟩:=X o _ (lK [] ho);have mo:=eM (a:=([]:Af)) ho;have ro:=Z.row _ mo;have n64:=Z.n64;have few:=Z.few;have c4:=Z.c4;have ls:=Z.ls;have sso:=Ydx n o (0:Int);have up:∀{x:Int},Y5l (2^C)->Y5l Y0W:=λh=>Y5y h c4;have ν:(n.map V.int)[o]?=some (V.int (n.getD o 0)):=by rw[aG,lK 0 Oo];rfl
 refine⟨_,(aH (Y4u aB3.nd (iQ aQ))
  (aH (Y7B (Ya9 0 Y0f) (nW rfl (eB (Yai 5 aB3.nd) (eB (Yc9 6 aB3.nd rfl rfl) lC))) (lP (Y8R vT Y0V (Y76 a00 ["one","other","steps","out","parts","step"] [1,2,3,6] (Ya9 5 (Y4m 0 Y02)) (cD gE (cD qD (Y1R dN 0 (Y2O 2 Y0r)) (Y2X dN 1 5)) (Y0V))))))
  (aH (FU (jW sT (by rfl) T.b_list Kk (Y18 (Y4m 0 Y02))) (LN (Y0V) (Y02) BM))
  (Y2z 4)))),?_⟩
 refine Yr;intro d_ n_;refine DT (by show 0<=64;decide) λL H1 U f1 g=>Yw;intro d_ n_;refine Y05 (Y0F ra ρ vs (n.map V.int) (g _ _ S) (g _ _ Y) ?_);have ο:ra≠L:=λz=>by rw[z,U]at S;cases S
 have ns:ρ≠L:=λz=>by rw[z,U]at Y;cases Y
 have γ:χ≠L:=λz=>by rw[z,U]at B;cases B
 refine uY (b1:=false) (b2:=false) (xs:=vs) (ys:=n.map V.int) (λi σ H'=>∃(o5 τ:Am) (d:Y0D),σ=[Y3 ra,Y3 ρ,Yg (o:Int),Yg p,Y3 L,o5,τ]/\aU L H1 H'/\H' L=Yl (d.map V.ref)/\d.length=i/\∀(k:Nat) (l:Addr),d[k]?=some l->H l=none/\l≠L/\H' l=Yl ((JV m n o p k).map V.int)) ⟨_,_,[],rfl,(Y08).but,f1,rfl,λk l h=>by simp at h⟩ (λi σ H' ⟨_,_,_,_,b',_⟩=>⟨b'.at ο (g _ _ S),b'.at ns (g _ _ Y)⟩) ?_ ?_
 ·rintro i x y q2 σ H2 H3 κ hy ⟨o5,τ,d,rfl,b2,W,ll,al⟩ hq2 e3 G;obtain⟨y0,α,rfl⟩:=sO hy;have hi:i<m.length:=by have:=(aB.mp κ).1;exact Oo
  obtain⟨li,η,R⟩:=X i _ (lK [] hi);rw[κ]at η;cases η;have mi:=eM (a:=([]:Af)) hi;have ri:=Z.row _ mi;have ey:n.getD i 0=y0:=pY α;have aa:li≠L:=λz=>by rw[z,U]at R;cases R
  have f3:=G _ _ W;have M:=G _ _ (b2.at aa (g _ _ R));have I:=G _ _ (b2.at γ (g _ _ B));have ψ:=G _ _ (b2.at ο (g _ _ S));have hs3:=G _ _ (b2.at ns (g _ _ Y));refine⟨q2,_,rfl,jA.of e3,rfl,_,_,rfl,_,_,rfl,rfl,Y2B⟩;intro d_;refine⟨_,rfl,VD f3,_,rfl,_,rfl,_,rfl,Y47 ψ ζ ?_⟩;refine Y0F li χ _ _ M I (kP (b1:=false) (b2:=false) (xs:=(m.getD i []).map V.int) (ys:=(m.getD o []).map V.int) (λj z _=>z=.int (((m.getD i []).getD j 0*n.getD o 0-(m.getD o []).getD j 0*n.getD i 0)/p)) (Y8Z) (by rw[aA];exact Oo) M I (by rw[aA,aA];exact Oo) (λj x y H' Q' κ hy s' k'=>?_) (λD zs H4 J θ s4 hz ξ=>?_))
  ·obtain⟨x0,δ,rfl⟩:=sO κ;obtain⟨z0,β,rfl⟩:=sO hy;refine Y2E (Y47 (s' _ _ hs3) ν ?_);exact Y4k _ (up (Z.sz _ mi _ (aE δ))) (up (Z.ssz _ sso)) ⟨_,rfl,_,rfl,_,_,rfl,rfl,mC (up (Z.sz _ mo _ (aE β))) (up (Z.ssz _ (aE α))),Y5N _ (Y0F _ rfl _ _ rfl (pZ p0 pz) (k' _ H' (Y08) (by rw[pY δ,pY β,ey])))⟩
  ·rw[aA]at hz;rw[oP hz ξ]at θ;have er:JV m n o p i=((List.range (m.getD i []).length).map λj=>((m.getD i []).getD j 0*n.getD o 0-(m.getD o []).getD j 0*n.getD i 0)/p):=by unfold JV;rw[zY Oo]
   rw[<-er]at θ;have f4:=s4 _ _ f3;refine NR f4 (by rw[aA];exact Oo) λH5 e5 b5=>?_;have μ:D≠L:=λz=>by rw[z,f3]at J;cases J
   refine⟨_,_,d++[D],rfl,((b2.trans G.but).trans s4.but).trans b5,by rw[e5,bD];rfl,by rw[aV,ll];rfl,λk l u=>?_⟩;by_cases hkl:k<d.length
   ·rw[cM hkl]at u;obtain⟨υ,ι,φ⟩:=al k l u;exact⟨υ,ι,b5.at ι ((G.trans s4) _ _ φ)⟩
   ·have:k=i:=by
     have:=(aB.mp u).1;rw[aV]at this;simp at this;exact Oo
    subst this;rw[cJ Oo,ll,Nat.sub_self]at u;cases u;exact⟨g.free (b2.free (Y2S W) (G.free J)),μ,b5.at μ θ⟩
 ·rintro σ H2 ⟨o5,τ,d,rfl,b2,W,ll,al⟩;have lm:d.length=m.length:=by rw[aA]at ll;exact Oo
  have e12:=b2.at ο (g _ _ S);have ε:=b2.at γ (g _ _ B);refine Y05 (Y47 e12 ζ ?_);refine Y0h χ _ (.inl (gH.of ε)) (λD J=>?_);have sl:=aT.upd (o:=.lst ((m.getD o []).map V.int)) J;have eD:(upd H2 D (.lst ((m.getD o []).map V.int))) D=Yl ((m.getD o []).map V.int):=bK;generalize upd H2 D (.lst ((m.getD o []).map V.int))=H3 at sl eD ⊢;refine Y0g;refine stG (j:=o) (sl _ _ W) (NA (by rw[aA];exact Oo)) λH4 θ b4=>Y9;have μ:D≠L:=λz=>by rw[z,W]at J;cases J
  refine q L H4 U ⟨d.set o D,by rw[θ,List.map_set],by rw[List.length_set,lm];unfold CV;rw[List.length_set,aA,aW],λk l row u O=>?_⟩ ?_
  ·unfold CV at O;by_cases e:k=o
   ·subst e;rw[List.getElem?_set_self Oo]at u;rw[List.getElem?_set_self (by rw[aA,aW];exact Oo)]at O;cases u;cases O;exact⟨g.free (b2.free (Y2S W) J),b4.at μ eD⟩
   ·rw[Ybt Y7V]at u O;obtain⟨υ,ι,φ⟩:=al k l u;have hkm:k<m.length:=by have:=(aB.mp u).1;exact Oo
    rw[aG,bM hkm]at O;cases O;exact⟨υ,b4.at ι (sl _ _ φ)⟩
  ·exact aT.thru U (g.trans (Y08)) ((b2.trans sl.but).trans b4)
end
open Md in
def iX(n:Nat)(b:Y0)(R:fA):Ac:=(List.range n).map λi=>(List.range (n+1)).map (rho n b R i)
def dF(n:Nat)(a:Y0):Af:=(List.range n).map a
def cR(n:Nat)(a:Y0):(dF n a).length=n:=by unfold dF;rw[aA,aW]
def jN{n i:Nat}{a:Y0}(h:i<n):(dF n a).getD i 0=a i:=by
 unfold dF;rw[aR,aG,bM h];rfl
def nS(n:Nat)(b:Y0)(R:Md.fA):(iX n b R).length=n:=by unfold iX;rw[aA,aW]
def xC{n i:Nat}{b:Y0}{R:Md.fA}(h:i<n):(iX n b R).getD i []=dF (n+1) (Md.rho n b R i):=by
 unfold iX;rw[aR,aG,bM h];rfl
def MA(n:Nat)(f:Y0):((List.range n).map f).sum=Md.dU n f:=by
 induction n with
 | zero=>rfl
 | succ n ih=>rw[List.range_succ,bD,List.sum_append,ih,Md.dU];simp
def JX(n:Nat)(x y:Y0):YU (dF n x) (dF n y)=Md.dot n x y:=by
 unfold YU;rw[zY (by rw[cR,cR]),cR];unfold Md.dot;rw[<-MA];refine congrArg List.sum (fO λi a=>?_);rw[jN (Y7f),jN (Y7f)]
theorem EY:∀{xs ys:Af},Ycg->(HT.vI xs ys=true ↔ ∃j,Y2u j/\(∀i,i<j->Y9X i=ys.getD i 0)/\Y9X j<ys.getD j 0)
 | [],[],_=>⟨λh=>(by cases h),λ⟨j,h,_⟩=>(by simp at h)⟩
 | x::xs,y::ys,h=>by
  rw[HT.CG];have ih:=EY (xs:=xs) (ys:=ys) (by simpa using h);by_cases e:x=y
  ·subst e;rw[if_pos rfl,ih];constructor
   ·rintro⟨j,d,c,a⟩;refine⟨j+1,by rw[cL];exact Oo,λi g=>?_,by simpa using a⟩;cases i with
    | zero=>rfl
    | succ i=>simpa using c i Oo
   ·rintro⟨j,d,c,a⟩;cases j with
    | zero=>exact absurd a (by simp)
    | succ j=>exact⟨j,by rw[cL]at d;exact Oo,λi g=>by simpa using c (i+1) Oo,by simpa using a⟩
  ·rw[if_neg e];constructor
   ·intro h;exact⟨0,by rw[cL];exact Oo,λi g=>Oo,by simpa using h⟩
   ·rintro⟨j,d,c,a⟩;cases j with
    | zero=>simpa using a
    | succ j=>exact absurd (by simpa using c 0 Oo) e
 | [],y::ys,h=>by simp at h
 | x::xs,[],h=>by simp at h
def IU{n:Nat}{b a:Y0}{R:Md.fA}{i o:Nat}(hi:i<n)(ho:o<n):zD (iX n b R) (dF n λj=>Y2p j) i o=true↔Md.lexp (n+1) λk=>Y2p i*Y1z n o k-Y2p o*Y1z n i k:=by
 unfold zD;rw[xC hi,xC ho,jN hi,jN ho,EY (by rw[aA,aA,cR,cR]),aA,cR];have e:∀(u:Y0) (s:Int) (k:Nat),k<n+1->((dF (n+1) u).map (· * s)).getD k 0=u k*s:=λu s k d=>by
  unfold dF;rw[aR,aG,aG,bM d];rfl
 unfold Md.lexp;constructor
 ·rintro⟨j,c,g,h⟩;refine Y3U j c (λk d=>?_)
  ·have:=g k d;rw[e _ _ _ Oo,e _ _ _ Oo]at this;grind
  ·rw[e _ _ _ c,e _ _ _ c]at h;grind
 ·rintro⟨j,c,g,h⟩;refine Y3U j c (λk d=>?_)
  ·have:=g k d;rw[e _ _ _ Oo,e _ _ _ Oo];grind
  ·rw[e _ _ _ c,e _ _ _ c];grind
theorem EV{n:Nat}{b a:Y0}{R:Md.fA}:∀{k:Nat},k<=n ->
  (EW (iX n b R) (dF n λj=>Y2p j) k=none->∀i,i<k->¬0<Y2p i) /\
  (∀o,EW (iX n b R) (dF n λj=>Y2p j) k=Ya->∀i,i<k->0<Y2p i->¬Md.lexp (n+1) λq=>Y2p i*Y1z n o q-Y2p o*Y1z n i q)
 | 0,_=>⟨λ_ i h=>Oo,λo h=>(by cases h)⟩
 | k+1,hk=>by
  obtain⟨ih1,ih2⟩:=EV (n:=n) (k:=k) (b:=b) (a:=a) (R:=R) Oo;have c:k<n:=Oo;rw[EW,jN (a:=λj=>Md.dot n (R j) a) c];by_cases hc:0<Md.dot n (R k) a/\(EW (iX n b R) (dF n λj=>Md.dot n (R j) a) k=none\/∃o,EW (iX n b R) (dF n λj=>Md.dot n (R j) a) k=some o/\zD (iX n b R) (dF n λj=>Md.dot n (R j) a) k o=true)
  ·rw[if_pos hc];refine⟨λh=>(by cases h),λo g i s d=>?_⟩;cases g;obtain⟨u,m⟩:=hc;by_cases e:i=k
   ·subst e;intro⟨j,y,_,z⟩;dsimp only at z;have:Md.dot n (R i) a*Md.rho n b R i j-Md.dot n (R i) a*Md.rho n b R i j=0:=Oo;exact Oo
   ·rcases m with m | ⟨o,r,p⟩
    ·exact absurd d (ih1 m i Oo)
    ·obtain⟨w,l⟩:=BZ _ _ _ _ r;rw[jN (a:=λj=>Md.dot n (R j) a) Oo]at l;rw[IU c Oo]at p;exact Md.YE u l d p (ih2 o r i Oo d)
  ·rw[if_neg hc];refine⟨λh i s=>?_,λo g i s d=>?_⟩
   ·by_cases e:i=k
    ·subst e;exact λz=>hc ⟨z,.inl h⟩
    ·exact ih1 h i Oo
   ·by_cases e:i=k
    ·subst e;intro z;obtain⟨w,l⟩:=BZ _ _ _ _ g;exact hc ⟨d,.inr ⟨o,g,(IU c Oo).mpr z⟩⟩
    ·exact ih2 o g i Oo d
def aBL{n:Nat}{b a:Y0}{B R:Md.fA}{p:Int}(h:Md.Bs n B R p)(p0:0<p){o:Nat}(ho:o<n):CV (iX n b R) (dF n λj=>Y2p j) o p=iX n b (Md.xE n B R o a):=by
 unfold CV;rw[nS,xC ho];refine Y7n ?_;by_cases hi:i<n
 ·have l:(iX n b (Md.xE n B R o a))[i]?=some (dF (n+1) (Md.rho n b (Md.xE n B R o a) i)):=by
   unfold iX;rw[aG,bM hi];rfl
  rw[l];by_cases e:i=o
  ·subst e;rw[List.getElem?_set_self (by rw[aA,aW];exact hi)];refine YaR (fO λk _=>?_);rw[Md.GN]
  ·rw[Ybt Y7V,aG,bM hi];refine YaR ?_;unfold JV;rw[xC hi,xC ho,zY (by rw[cR,cR]),cR];refine fO λk d=>?_;have c:=cC.mp d;rw[jN c,jN c,jN ho,jN hi];have:=h.rho_exch b ho a hi c e;have g:Y1z n i k*Y2p o-Y1z n o k*Y2p i=p*Md.rho n b (Md.xE n B R o a) i k:=by rw[this];grind
   rw[g,Y4S _]
 ·rw[cA (by rw[List.length_set,aA,aW];exact Oo),cA (by rw[nS];exact Oo)]
end Kw
namespace L2
open PySem PySem.Spec PyProof.Rows
structure FnM(P:Program)(w:World)(K:Aa)(mg:Y0H)(base:Heap)(k:Nat)(C:Addr)(m:Str)(ps:Ah)(sp:Sp):Prop where
 ex:∃(f:Addr) (fd:FuncData),dO P w K mg base cV k f fd ps sp/\aFp K C m f/\uD K fd ps []
section
variable{X:Cx}{k:Nat}{C:Addr}{ps:Ah}{sp:Sp}{m:Str}{pos apos:Pos}{e o:Expr}{es:Y0j}{t:TA}{ta:TE}
def LO{pl:Sem Bool}(F:FnM X.prog X.w X.K X.mg X.base k C m ps sp)(c:Cls X.K C)(hr:Y4K k)(ho:Y4N o)(ha:LF X (e::es) t)
  (hst:Y3R=(false,Y1l)::Y30:=by first | exact pT | exact tS | exact pU | exact lY | exact iJ | exact tR)
  (hpl:Yx ((backTo pos (starEach es X.env)).any (·.1)):=by repeat (first | exact qG | refine nJ (by first | exact pT | exact tS | exact pU | exact lY | exact iJ | exact tR) ?_))
  (ht:eval (.Call (.Attribute o m apos) (e::es) [] pos) X.env=(do
   let ov <-eval o X.env
   standAt apos.atName
   let (f,first) <-holding [ov] (getMethod ov m pl)
   callWith pos f first (backTo pos (starEach (e::es) X.env)) (backToKw pos (keywordEach [] X.env))):=by rfl) :
  Yh (.Call (YcH m apos) (e::es) [] pos) (aCu C m sp [] E0 ta t):=⟨by
 obtain⟨f,h,d,a,g⟩:=F.ex;exact aBi ho.p c a d hr g .nil XI ha.p hst hpl ht⟩
end
end L2
namespace Kw
open PySem L2 Mf
abbrev sQ0:Stmt:=(AQ (top 23) 0)
def cQ0:Yd a16 a16 sQ0:={}
def KH{K:Aa}{js:Ae}{te:TE}{σ:St}{H:Hp}{Q:VK}{l:Addr}{xs:Al}(g:Y03 Af)(h:H l=Y4i false)(hz:Y6R 1000)
  (he:∀(i:Nat) (x:V) (H':Hp) (Q':VK),Y0s=Y7->Y1->(∀m H6,H' m=none->aT H' H6->H6 m=Yl ((g i).map V.int)->Q' (.ref m) H6)->te (Yg (i:Int)::Y7::Y0v) H' Q')
  (hd:∀D H',H D=none->wC H' D ((List.range xs.length).map g)->Y1->Y1a):vN K 2 (Ite false l 0) σ js zN te H Q:=by
 unfold vN;intro D w;refine Y0b (λi m s H'=>m=Y4w i/\Y51 i/\Y0G=Yl s/\Y1/\∃a:List Addr,s=a.map V.ref/\a.length=i/\∀(k:Nat) (b:Addr),a[k]?=some b->b≠D/\H' b=Yl ((g k).map V.int)) ⟨xs.length,by simp,Y0x,bK,aT.upd w,[],rfl,rfl,λk b r=>by simp at r⟩;rintro i m s H2 ⟨rfl,Z,d,j,a,rfl,ll,G⟩;refine Y0A d;by_cases hlt:Y2u i
 ·have T:Y0s=some xs[i]:=aC hlt;refine .inr ⟨⟨_,_,j _ _ h,T⟩,aK (m:=1000) (by rw[aA];exact Oo) Dd,λv H3 y=>?_⟩;obtain⟨q,x,rfl,P,rfl,R⟩:=y;have O:=R _ (j _ _ h);rw[show(0:Int)+((i:Nat):Int)=(i:Int)by exact Oo];have p:=Y3b [V.int (i:Int),x] P;have C:(upd H2 q (.tup [V.int (i:Int),x])) q=Yf [V.int (i:Int),x]:=bK;generalize upd H2 q (.tup [V.int (i:Int),x])=H3 at p C;refine Y0F q _ rfl (jA.of C) (λb H4=>b=true/\H4=H3) Y6w ?_;rintro b H4 ⟨rfl,rfl⟩;rw[Yt];refine Y0b (λz H5=>∃m,z=.ref m/\H4 m=none/\aT H4 H5/\H5 m=Yl ((g i).map V.int)) (he i x H4 _ O (j.trans p) λm H6 U S Y=>⟨m,rfl,U,S,Y⟩);rintro z H5 ⟨m,rfl,J,u,M⟩;have n:=p _ _ d;have X:=u _ _ n;have A:m≠D:=λz=>by rw[z,n]at J;cases J
  have I:aU D H5 (Y3Z H5 D (a.map V.ref++[V.ref m])):=aU.self;refine⟨X,Y4w (i+1),Oo,rfl,hlt,bK,Yce w ((j.trans p).trans u),a++[m],by rw[bD];rfl,by rw[aV,ll];rfl,λk b c=>?_⟩;by_cases hkl:k<a.length
  ·rw[cM hkl]at c;obtain⟨L,N⟩:=G k b c;exact⟨L,I.at L ((p.trans u) _ _ N)⟩
  ·have:k=i:=by
    have:=(aB.mp c).1;rw[aV]at this;simp at this;exact Oo
   subst this;rw[cJ Oo,ll,Nat.sub_self]at c;cases c;exact⟨A,I.at A M⟩
 ·have e:Y53 i:=Oo;subst e;refine Y2k (Y0U (j _ _ h) Yp) (hd D H2 w ⟨a,d,by rw[ll,aA,aW],λk b row r B=>?_⟩ j);have c:Y2u k:=by have:=(aB.mp r).1;exact Oo
  rw[aG,bM c]at B;cases B;exact(G k b r).2
def mfs(ra sa:Addr)(p:Int):Y3N:=Y2U "standing" sa (eQ "parts" (.int p) (Y2U "rows" ra []))
structure uB(H:Hp)(C a sa:Addr)(n:Nat)(b:Y0)(R:Md.fA)(p:Int)(ts:Al):Prop where
 ex:∃dx ra,H a=some (.ins C dx (mfs ra sa p))/\wC H ra (iX n b R)
 st:H sa=Yl ts
 len:ts.length=n
def aAg(a b:Addr)(H H':Hp):Prop:=∀x o,x≠a->x≠b->H x=Ya->H' x=Ya
inductive wS (C:Addr):Yq
 | i {H:Hp} {Q:VK} {E:XK} {x dx ea oa:Addr} {n:Nat} {b:Y0} {ts:Al} (h1:H x=some (.ins C dx [])) (h2:H ea=Yl ((dF n b).map V.int)) (h3:H oa=Yl ts) (h4:ts.length=n) (h5:n<=8) (q:∀sa H',H sa=none->Y65 x->uB H' C x sa n b Md.unit 1 ts->Yad):wS C [Y2a,.ref ea,.ref oa] H Q E
def WO{n i:Nat}(hi:i<n)(b:Y0):dF (n+1) (Md.rho n b Md.unit i)=[b i]++aEH n i:=by
 unfold dF;rw[List.range_succ_eq_map,bE,List.map_map];have c:Md.rho n b Md.unit i 0=b i:=by
  show Md.dU n (λk=>Md.unit i k*b k)=b i;rw[Md.jY hi λk _ a=>by unfold Md.unit;rw[if_neg a,Int.zero_mul]];unfold Md.unit;rw[Yt,Int.one_mul]
 rw[c]
 rfl
section
def oQ0(F:Yb "__init__" "Master.__init__" sQ0)(T:Ye)(FQ47:Y01 "one_among" a35 qS):dO P w K mg base cV 2 f fd a16 (wS c.Master):=by
 refine Y1j cQ0;obtain @⟨H,Q,E,x,a,ω,δ,n,b,L,β,j,m,lt,n8,q⟩:=h;refine Y5 (λν A R s α=>?_);have O:=T.w_Master;have γ:=cR n b;refine⟨_,(aH (Y6l (Y76 ["place","end"] ["place","end","ends"] [1] (FW false rfl T.b_enumerate (Y4U 1)) (cD vR (iQ (Y4U 1)) (cQ FQ47 (Y8J (aBW K) (by rfl) Kk 2) (Yz)))))
  (aH (Y6l aL)
  (aS (Y6l (jW sT (by rfl) T.b_list Kk (Y4U 2)))))),?_⟩
 refine Yr;intro ο μ;refine⟨_,rfl,ω,_,rfl,j,KH (xs:=(dF n b).map V.int) (λi=>dF (n+1) (Md.rho n b Md.unit i)) j (by rw[aA];exact Oo) (λi y H' Q' ψ ι χ=>?_) (λD H1 hD L1 u=>?_)⟩
 ·obtain⟨κ,I,rfl⟩:=sO ψ;have Z:i<n:=by have:=(aB.mp I).1;exact Oo
  have τ:b i=κ:=by
   have h:=pY (d:=(0:Int)) I;rw[jN Z]at h;exact h
  refine Y9;refine DT (by show 1<=64;decide) λq1 H1 hq1 η u=>Y9;refine rlL ((ι.trans u) _ _ j) ?_;rw[aA,γ];refine Y9;refine qS.i Oo λq2 H2 ρ J N=>NN (N _ _ η) J (by simp[aEH];exact Oo) λυ H3 S C ξ=>χ υ H3 ((u.trans N).free S) ((u.trans N).trans ξ) ?_;rw[C,WO Z,τ,bD];rfl
 ·rw[aA,γ]at L1;have L1:wC H1 D (iX n b Md.unit):=L1;have r:=u _ _ β;refine⟨_,rfl,x,c.Master,a,_,rfl,r,O.cls,O.no _ (by simp),by show 0<1000;decide,Y4z⟩;intro ο μ;have b2:=Y7l x H1 c.Master a (Y2U "rows" D []);have J:(upd H1 x (.ins c.Master a (eQ "rows" (.ref D) []))) x=_:=bK;generalize upd H1 x (.ins c.Master a (eQ "rows" (.ref D) []))=H2 at b2 J ⊢;refine⟨_,rfl,x,c.Master,a,_,rfl,J,O.cls,O.no _ (by simp),by show 1<1000;decide,?_⟩;have U:=Y7l x H2 c.Master a (eQ "parts" (.int 1) (Y2U "rows" D []));have C:(upd H2 x (.ins c.Master a (eQ "parts" (.int 1) (eQ "rows" (.ref D) [])))) x=_:=bK;generalize upd H2 x (.ins c.Master a (eQ "parts" (.int 1) (eQ "rows" (.ref D) [])))=H3 at U C ⊢;have B3:aU x H H3:=(u.but (p:=x)).trans (b2.trans U);have no:δ≠x:=λz=>by rw[z,β]at m;cases m
  have G:=B3.at no m;refine⟨_,rfl,δ,_,rfl,.inl (gH.of G),λe g=>?_⟩;have W:=aT.upd (o:=.lst L) g;have ζ:(upd H3 e (.lst L)) e=Yl L:=bK;generalize upd H3 e (.lst L)=H4 at W ζ ⊢;refine⟨_,rfl,x,c.Master,a,_,rfl,W _ _ C,O.cls,O.no _ (by simp),by show 2<1000;decide,?_⟩;have X:=Y7l x H4 c.Master a (mfs D e 1);have ε:(upd H4 x (.ins c.Master a (mfs D e 1))) x=_:=bK;show Q .non (Y7T H4 x c.Master a (mfs D e 1));generalize upd H4 x (.ins c.Master a (mfs D e 1))=H5 at X ε ⊢;have ns:e≠x:=λz=>by rw[z,C]at g;cases g
  have B:aU x H1 H5:=((b2.trans U).trans W.but).trans X;refine q e H5 ?_ (u.but.trans B) ⟨Y3U a D ε,X.at ns ζ,lt⟩
  ·exact B3.free (Y2S C) g
  ·obtain⟨Y,M,θ,h3⟩:=L1;refine⟨Y,B.at (λz=>by rw[z,r]at M;cases M) M,θ,λi l row φ α=>?_⟩;have:=h3 i l row φ α;exact B.at (λz=>by rw[z,r]at this;cases this) this
end
end Kw
namespace L2
open PySem PySem.Spec PyProof.Rows
def HJ(X:Cx)(scope:Scope)(x:Str)(C:Addr)(fp:Y0D)(s₀:Shared)(H₀:Hp)(N':Ah):Cx :=
 { nZ X scope C fp s₀ H₀ N' with env:=compEnvC scope ((x,C+1)::zT X scope) C X.env,fn:=λy=>y == x }
structure kR(X:Cx)(scope:Scope)(x:Str)(N':Ah)(js:Ae):Prop where
 calm:Y1F
 free:∀y∈scope.names,y.2=.free->Y52 y.1 Y1C
 only:(YcY (Y7X y.2))=[(x,NameKind.cell)]
 kind:scope.kind=.function
 names:∀y∈scope.names,y.2=.local->Y5a y.1
 own:Ybn x Y1C
 nofl:∀y,Y6S (y,NameKind.free)->Y5a y->False
 nofx:(x,NameKind.free) ∉ scope.names
 len:N'.length=js.length+1
 zero:N'[0]?=Y7
 nd:N'.Nodup
 slot:∀(i:Nat) (j:Nat),js[i]?=Y5P->∃y,N'[i+1]?=Y09/\X.N[j]?=Y09/\Y6S (y,NameKind.free)
theorem DG:∀{names:Y6U}{n:Nat}{acc:Y5E}{h:Heap},(names.filter λy=>Y7X y.2)=[]->cellsFrom n names acc=acc/\pushCells h names=h
 | [],_,_,_,_=>⟨rfl,rfl⟩
 | (a,k)::r,n,acc,h,e=>by
  rw[List.filter_cons]at e;by_cases q:(k == NameKind.cell)=true
  ·rw[if_pos q]at e;cases e
  ·rw[if_neg q]at e;unfold cellsFrom pushCells;rw[if_neg q,if_neg q];exact DG e
theorem FJ{x:Str}:∀{names:Y6U}{n:Nat}{acc:Y5E}{h:Heap},(names.filter λy=>Y7X y.2)=[(x,NameKind.cell)]->cellsFrom n names acc=(x,n)::acc/\pushCells h names=h.push { cls:=.type "cell",data:=.cell none }
 | [],_,_,_,e=>by cases e
 | (a,k)::r,n,acc,h,e=>by
  rw[List.filter_cons]at e;by_cases q:(k == NameKind.cell)=true
  ·rw[if_pos q]at e;injection e with e1 e2;have ea:a=x:=congrArg Prod.fst e1;subst ea;unfold cellsFrom pushCells;rw[if_pos q,if_pos q];exact DG e2
  ·rw[if_neg q]at e;unfold cellsFrom pushCells;rw[if_neg q,if_neg q];exact FJ e
def MU{M:Model}{A:Around}{E:Yc}{s:Shared}{scope:Scope}{g:Addr}{cl:Y5E}{q:Str}{env:Env}{x:Str}{Q:Env->Y0M}(ho:(YcY (Y7X y.2))=[(x,NameKind.cell)])
  (h:Q { scope,locals:=s.heap.objs.size,globals:=g,cells:=(x,s.heap.objs.size+1)::cl,qual:=q,func:=none,code:=env.code,frame:=env.frame,builtins:=env.builtins } { s with heap:=(s.heap.push { cls:=.type "dict",data:=.dict #[] }).push { cls:=.type "cell",data:=.cell none } }) :
  wpAny M A (Yc8 scope g cl [] q none .none env) Q E s:=by
 simp only[newFunctionEnv,Option.isSome_some,if_true];refine wpAny_bind (wpAny_alloc ?_);refine wpAny_bind (wpAny_layCells _ (λc a cells=>by cases hkc:a == NameKind.cell <;> simp[hkc]) _ _ _ _ ?_);obtain⟨d,e⟩:=FJ (n:=({ s with heap:=s.heap.push { cls:=.type "dict",data:=.dict #[] } }:Shared).heap.objs.size) (acc:=cl) (h:=s.heap.push { cls:=.type "dict",data:=.dict #[] }) ho;rw[d,e];rw[List.forIn_nil];refine Y3Y Y2r;rw[show({ s with heap:=s.heap.push { cls:=.type "dict",data:=.dict #[] } }:Shared).heap.objs.size=s.heap.objs.size+1 from fW ..];exact h
theorem sI{env:Env}:∀{names:Y6U}{x:Str},names.lookup x=Y1C ->
  (names.map λ(n,k)=>if(k == NameKind.free&&env.scope.kind == .function&&env.kindOf n == some .cell) then(n,NameKind.cell) else(n,k)).lookup x=Y1C
 | [],_,h=>by cases h
 | (n,k)::r,x,h=>by
  rw[List.lookup_cons]at h;rw[bE];dsimp only;by_cases hq:(k == NameKind.free&&env.scope.kind == .function&&env.kindOf n == some .cell)=true
  ·rw[if_pos hq,List.lookup_cons];by_cases e:(x == n)=true
   ·rw[e]
   ·have e':(x == n)=false:=by simpa using e
    rw[e']at h ⊢;exact sI h
  ·rw[if_neg hq,List.lookup_cons];by_cases e:(x == n)=true
   ·rw[e]at h ⊢;exact h
   ·have e':(x == n)=false:=by simpa using e
    rw[e']at h ⊢;exact sI h
theorem oY{env:Env}{x:Str}:∀{names:Y6U}{y:Str}{k:NameKind},(names.map λ(n,k)=>if(k == NameKind.free&&env.scope.kind == .function&&env.kindOf n == some .cell) then(n,NameKind.cell) else(n,k)).lookup y=some k ->
  (k=.cell\/k=.free)->(∀z∈names,z.2=.cell->z.1=x)->y=x\/(y,NameKind.free)∈names
 | [],_,_,h,_,_=>by cases h
 | (n,q)::r,y,k,h,hk,hc=>by
  rw[bE,List.lookup_cons]at h;have ih:=λh=>@oY env x r y k h hk λz d=>hc z (bG _ d);have up:y=x\/(y,NameKind.free)∈r->y=x\/(y,NameKind.free)∈(n,q)::r:=λz=>z.imp id (bG _);by_cases hq:(q == NameKind.free&&env.scope.kind == .function&&env.kindOf n == some .cell)=true
  ·dsimp only at h;rw[if_pos hq]at h;have g:q=.free:=by
    rw[dG,dG]at hq;simpa using hq.1.1
   subst g;by_cases e:(y == n)=true
   ·have:y=n:=by simpa using e
    subst this;exact .inr bC
   ·have c:(y == n)=false:=by simpa using e
    dsimp only at h;rw[c]at h;exact up (ih h)
  ·dsimp only at h;rw[if_neg hq]at h;by_cases e:(y == n)=true
   ·have:y=n:=by simpa using e
    subst this;dsimp only at h;rw[e]at h;have a:k=q:=by injection h with h;exact h.symm
    subst a;rcases hk with rfl | rfl
    ·exact .inl (hc _ bC rfl)
    ·exact .inr bC
   ·have c:(y == n)=false:=by simpa using e
    dsimp only at h;rw[c]at h;exact up (ih h)
section
variable{X:Cx}{pins:Ad}{σ:St}{H:Hp}{s:Shared}{scope:Scope}{x:Str}{N':Ah}{js:Ae}{fp:Y0D}
theorem kR.cells(S:Y7j X x N' js)(ok:X.Ok):∀y∈scope.names,y.2=.free->∃c,Y9a y.1:=λy d a=>ok.has _ (.inl (S.free y d a))
theorem kR.cell(S:Y7j X x N' js):∀z∈scope.names,z.2=.cell->z.1=x:=λz a e=>by
 have:z∈YcY (Y7X y.2):=fY.mpr ⟨a,by rw[e];rfl⟩;rw[S.only]at this;rw[bV.mp this]
def rM{y:Str}{C c:Addr}{cl:Y5E}(h:((x,C)::cl).lookup y=Y1v):(y=x/\c=C)\/(y≠x/\cl.lookup y=Y1v):=by
 rw[List.lookup_cons]at h;by_cases e:(y == x)=true
 ·rw[e]at h;cases h;exact Y2k (by simpa using e) rfl
 ·have a:Yx (y == x):=by simpa using e
  rw[a]at h;exact Y2W (λz=>e (by simp[z])) h
def KN{y:Str}{C c:Addr}{cl:Y5E}(n:y≠x)(h:cl.lookup y=Y1v):((x,C)::cl).lookup y=Y1v:=by
 rw[List.lookup_cons,show(y == x)=false by simpa using n];exact h
def aE9(S:Y7j X x N' js)(I:Y4)(hf:∀b∈fp,Y3j)(hb:∀b∈fp,Y3r b):(Y37 X x s.heap.objs.size s H).Ok:=by
 have j:∀y c,(zT X scope).lookup y=Y1v->Y3r c:=λy c h=>by
  obtain⟨v,o,e,_⟩:=Y6p y (Y3A h);exact Y15
 exact {
  mod:=I.ok.mod
  kind:=S.kind
  glob:=I.ok.glob
  blt:=I.ok.blt
  above:=aM _
  inj:=λy z c r i=>by
   rcases rM r with⟨l,d⟩ | ⟨l,d⟩ <;> rcases rM i with⟨n,b2⟩ | ⟨n,b2⟩
   ·rw[l,n]
   ·have:=j _ _ b2;rw[d]at this;exact absurd Yda (bP _)
   ·have:=j _ _ d;rw[b2]at this;exact absurd Yda (bP _)
   ·exact I.ok.inj y z c (Y3A d) (Y3A b2)
  has:=λy g=>by
   have m:y=x\/Y6S (y,NameKind.free):=by
    rcases g with g | g
    ·exact oY (env:=X.env) g (Y3t) S.cell
    ·exact oY (env:=X.env) g (Y77) S.cell
   by_cases q:y=x
   ·subst q;exact⟨Y20,by show List.lookup y ((y,_)::_)=_;rw[List.lookup_cons,show(y == y)=true by simp]⟩
   ·have m:=m.resolve_left q;obtain⟨c,u⟩:=S.cells I.ok _ m rfl;exact⟨c,KN q (Y7c m u)⟩
  cab:=λy c g h=>by
   rcases rM h with⟨_,d⟩ | ⟨l,_⟩
   ·rw[d];exact Nat.le_succ _
   ·exact absurd (by simpa[HJ]using g) l
  hd:=λ_=>I.ok.hd S.calm
  frames:=I.ok.frames
  stk:=.inl rfl
  exf:=λb a=>⟨λe=>by have:=hb b a;rw[e]at this;exact Y1N,λy c h=>by
   rcases rM h with⟨_,d⟩ | ⟨_,d⟩
   ·intro e;have:=hb b a;rw[<-e,d]at this;exact absurd Yda (bP _)
   ·exact(hf b a).2.2.2.2.1 y c (Y3A d)⟩
  bs:=I.bs
  bsz:=aJ I.ok.bsz I.sz
  noex:=λb o e a=>by
   rcases(hf b a).2.2.2.1 with h | h
   ·exact I.ok.noex b o e h
   ·exact Y6s Y15 (Y8x h) _
  exfs:=λb a p=>by
   have i:=I.stkSub b p;rcases bN.mp i with i | i
   ·exact(hf b a).2.1 i
   ·exact(hf b a).2.2.1 i
  funs:=I.stack
  frf:=I.stkFree }
def aBO{h':Heap}{tk:Nat}(S:Y7j X x N' js)(I:Y4)(hf:∀b∈fp,Y3j)(hb:∀b∈fp,Y3r b)
  (hn:Ydj Y7G) (hk:∀b o,Y23->Y1i=Ya) (hc0:h'.IsCell (Y20) none):cU (Y37 X x s.heap.objs.size s H) [] (none::Y0v) H { s with heap:=h',toks:=tk } where
 ok:=aE9 S I hf hb
 os:=rfl
 bare:=I.bare
 base:=Un.kept hk
 loc:=by
  refine Y0U hn (λi y v δ R a=>?_);cases i with
  | zero=>cases R
  | succ i =>
   have d:(Y0v)[i]?=Y7F:=R;have O:Y9U i:=by
    have:=(aB.mp d).1;unfold slots at this
    rwa [aA]at this
   have P:js[i]?=some js[i]:=aC O;obtain⟨z,α,Y,w⟩:=S.slot i _ P;have L:z=y:=by
    have:N'[i+1]?=Y09:=δ;rw[α]at this;cases this;rfl
   subst L;rw[yC P]at d;have γ:σ[js[i]]?=Y7F:=by
    cases q:σ[js[i]]? with
    | none=>rw[q]at d;cases d
    | some o=>rw[q]at d;cases d;rfl
   have A:Y52 z Y1C:=S.free _ w rfl;obtain⟨m,η,ε⟩:=I.loc;obtain⟨u,ru,U⟩:=ε _ z v Y γ (Y8w A);rcases U with⟨C,_⟩ | ⟨_,c,T,g⟩
   ·rw[A]at C;cases C
   ·have N:z≠x:=λq=>S.nofx (q ▸ w);refine⟨u,ru,Y3M ?_ c (KN N (Y7c w T)) ?_⟩
    ·rcases a with a | a | a
     ·exfalso;have W:=Y7c w T;have B:=pF (l:=(relabel scope X.env).names) a;unfold relabel at B;obtain⟨⟨n,k⟩,D,G⟩:=aN.mp B;dsimp only at G;by_cases hq:(k == NameKind.free&&Yby .function&&X.env.kindOf n == Y1C)=true
      ·rw[if_pos hq]at G;cases G
      ·rw[if_neg hq]at G;cases G;have:=S.names _ D rfl;have M:=pE w;obtain⟨ζ,M⟩:=M;dsimp only at this;rw[this]at M;have β:(relabel scope X.env).names.lookup z=Y3p:=Yd3;have J:Y5a z:=this;exact S.nofl z w J
     ·exact .inl a
     ·exact .inr a
    ·obtain⟨o,e,r⟩:=g;exact Y1H (hk _ _ e) r
 cell:=λy c h=>by
  rcases rM h with⟨_,j⟩ | ⟨_,j⟩
  ·rw[j];exact⟨none,hc0⟩
  ·obtain⟨v,o,e,r⟩:=Y6p y (Y3A j);exact⟨v,o,hk _ _ e,r⟩
 free:=Y32
 freeC:=λy c h=>by
  rcases rM h with⟨_,j⟩ | ⟨_,j⟩
  ·rw[j];exact I.hok.fresh (Nat.le_succ _)
  ·exact Y7U y (Y3A j)
 pin:=λp Z=>by cases Z
 hok:=I.hok.kept hk
 len:=by
  show(Y0v).length+1=N'.length;unfold slots;rw[aA,S.len]
def YZ{H2:Hp}{σ':St}{s2:Shared}{h'':Heap}(S:Y7j X x N' js)(I:Y4)(hf:∀b∈fp,Y3j)
  (J:cU (Y37 X x s.heap.objs.size s H) [] σ' H2 s2) (hs:Yd1 s2.heap h''):Y27 H2 ({ s2 with heap:=h'' }):=by
 have g:Ydr=none:=J.free;have ne:∀{b:Addr} {o:Obj},Y23->Yav b:=λe q=>by
  have:=Y15;rw[q]at this;exact Y1N
 refine Yd8 ({ s2 with heap:=h'' }) fp (by rw[show({ s2 with heap:=h'' }:Shared).os=s2.os from rfl];exact J.os) ?_ g (λb u a q=>Y7D u a q) J.bare (λb a=>⟨(hf b a).2.2.2.1,(hf b a).2.1,(hf b a).2.2.2.2.1,(hf b a).2.2.2.2.2⟩);have U:=J.base;exact {
  keep:=λb o e n d c=>hs.extBut b o (ne e) (U.keep b o e n d c)
  slot:=λb o e n d c=>by
   obtain⟨sl,q⟩:=U.slot b o e n d c;exact⟨sl,Y7D _ (ne e) q⟩
  free:=U.free
  there:=λb o e c=>by
   obtain⟨h,q⟩:=U.there b o e c;exact⟨h,Y7D _ (ne e) q⟩
  tups:=U.tups
  frzs:=U.frzs
  tbls:=U.tbls }
end
section
variable{X:Cx}{pins:Ad}{σ:St}{H:Hp}{s:Shared}{scope:Scope}{x:Str}{N':Ah}{js:Ae}{fp:Y0D}{elt iter:Expr}{px pos:Pos}{ifs:Y0j}{tc:TT}{te:TE}
def KF{J:It}{it:Addr}{tn:Y03 Y55}{RR:Y2w (Addr->Result->Y0M)}{E:Yc}{Q:VK}
  (S:Y7j X x N' js) (I:Y4) (T:DY X.prog X.w X.K (Y45) J fp it tn) (h0:Y9V 0) (hf:∀b∈fp,Y3j)
  (ht:YdY (Y37 X x C s₀ H₀) ifs tc) (he:YdX (Y37 X x C s₀ H₀) elt te)
  (R:∀D,H D=none->∃W:Nat->Nat->Al->Hp->Prop,(Y4H 0 m [] (Y3a D [])) /\
   ∀i m ys H2,W i m ys H2->H2 D=Y0c/\((Y7Y H2/\Y0N D H2)\/(Y5j H2/\Y9l/\∀x H3,Y6v i H2 x ->
    tc (Y7::Y0v) H3 λb H4=>if b=true then te (Y7::Y0v) H4 λy H5=>H5 D=Y0c/\∃m',m' < m/\W (i+1) m' (ys++[y]) (Y3Z H5 D (ys++[y]))
     else H4 D=Y0c/\∃m',m' < m/\W (i+1) m' ys H4)))
  (hRR:∀(D:Addr) (H3:Hp) (s3:Shared) (σ':St) (H':Hp) (s':Shared),Y27 H3 s3->(∀b∈fp,kQ X pins H3 b)->cU (Y37 X x s3.heap.objs.size s3 H3) [] σ' H' s'->Y1a->YdT Y5d (.ok .next) s') :
  wpAny (Y4y) X.A (newList []) (λacc s₃=>wpAny (Y4y) X.A (Yc8 scope X.env.globals (Y7Z X) [] X.env.qual none .none X.env) (λcenv s₄ =>
   codeAny (Y4y) X.A (Ycl (Y1X [Y5b 0]) 0 acc ({ cenv with scope:=relabel scope X.env })) (RR acc cenv.locals) s₄) E s₃) E s:=by
 have O:∀b∈fp,Y3r b:=λb O=>by
  obtain⟨o,e,_⟩:=T.obj 0 _ h0 b O;exact Y15
 refine wpAny_newObj_type (MU S.only ?_);have θ:YbJ=none:=Y32;obtain⟨W,⟨m0,ε⟩,ψ⟩:=R _ θ;have I3:Y27 (Y2M []) ({ s with heap:=s.heap.push { cls:=.type "list",dict:=none,data:=.seq ([]:Ag).toArray } }):=Ye7 [] [] .nil Y0x;have G:∀b∈fp,kQ X pins (Y2M []) b:=λb a =>
  ⟨by rw[eO (λe=>by have:=O b a;rw[e]at this;exact Y1N)];exact(hf b a).1,(hf b a).2⟩
 have δ:∀b∈fp,b<(s.heap.push { cls:=.type "list",dict:=none,data:=.seq ([]:Ag).toArray }).objs.size:=λb a=>by
  rw[fW];exact Nat.lt_succ_of_lt (O b a)
 have j:=(Heap.Ns.new (s.heap.push { cls:=.type "list",dict:=none,data:=.seq ([]:Ag).toArray }) (.type "dict")).keeps λb o e=>aF { cls:=.type "cell",data:=.cell none } e;have g:(((s.heap.push { cls:=.type "list",dict:=none,data:=.seq ([]:Ag).toArray }).push { cls:=.type "dict",data:=.dict #[] }).push { cls:=.type "cell",data:=.cell none }).IsCell ((s.heap.push { cls:=.type "list",dict:=none,data:=.seq ([]:Ag).toArray }).objs.size+1) none :=
  Y0R (by rw[<-fW (s.heap.push { cls:=.type "list",dict:=none,data:=.seq ([]:Ag).toArray }) { cls:=.type "dict",data:=.dict #[] }];exact Y0Q)
 have l:∀b o,(s.heap.push { cls:=.type "list",dict:=none,data:=.seq ([]:Ag).toArray }).get? b=Ya->(((s.heap.push { cls:=.type "list",dict:=none,data:=.seq ([]:Ag).toArray }).push { cls:=.type "dict",data:=.dict #[] }).push { cls:=.type "cell",data:=.cell none }).get? b=Ya:=λb o e=>Y70 e;show codeAny _ _ (Ycl _ 0 Y0I (YaU ((x,(s.heap.push { cls:=.type "list",dict:=none,data:=.seq ([]:Ag).toArray }).objs.size+1)::Y7Z X) ((s.heap.push { cls:=.type "list",dict:=none,data:=.seq ([]:Ag).toArray }).objs.size) X.env)) _ { s with heap:=(((s.heap.push { cls:=.type "list",dict:=none,data:=.seq ([]:Ag).toArray }).push { cls:=.type "dict",data:=.dict #[] }).push { cls:=.type "cell",data:=.cell none }) };generalize ((s.heap.push { cls:=.type "list",dict:=none,data:=.seq ([]:Ag).toArray }).push { cls:=.type "dict",data:=.dict #[] }).push { cls:=.type "cell",data:=.cell none }=h₁ at j g l ⊢;have d:∀b o,(s.heap.push { cls:=.type "list",dict:=none,data:=.seq ([]:Ag).toArray }).get? b=Ya->h₁.get? b=Ya:=l;have J4:=aBO (h':=h₁) (tk:=s.toks) S I3 G δ j d g;have μ:tn 0 h₁:=T.keep 0 _ _ h0 λb a o e=>d b o (Y2I)
 have h:codeAny (Y4y) X.A (.compLoop (Y1X [Y5b 0]) 0 (Y6e) (Y0I) (YaU ((x,(s.heap.push { cls:=.type "list",dict:=none,data:=.seq ([]:Ag).toArray }).objs.size+1)::Y7Z X) ((s.heap.push { cls:=.type "list",dict:=none,data:=.seq ([]:Ag).toArray }).objs.size) X.env))
   (RR (Y0I) (s.heap.push { cls:=.type "list",dict:=none,data:=.seq ([]:Ag).toArray }).objs.size) { s with heap:=h₁ }:=by
  refine sR (λn s'=>∃(i:Nat) (ys:Al) (H2:Hp) (o:Am),cU (Y37 X x _ _ _) [] (o::Y0v) H2 s'/\tn i s'.heap/\(∀b∈fp,H2 b=none)/\W i n ys H2) ?_ m0 ⟨0,[],_,none,J4,μ,λb a=>(G b a).1,ε⟩;rintro n s' ⟨i,ys,H2,o,J2,ο,f2,ω⟩;obtain⟨hD,z⟩:=ψ i n ys H2 ω;have ν:∀b∈fp,kQ (Y37 X x ((s.heap.push { cls:=.type "list",dict:=none,data:=.seq ([]:Ag).toArray }).objs.size) ({ s with heap:=s.heap.push { cls:=.type "list",dict:=none,data:=.seq ([]:Ag).toArray } }) (Y2M [])) [] H2 b:=λb a =>
   ⟨f2 b a,(Y9C a).1,J2.ok.exfs b a,.inl a,(Y9C a).2,λp γ=>by cases γ⟩
  rcases z with⟨M,hq⟩ | ⟨U,φ,L⟩
  ·refine Y2q (T.done (Y37 X x _ _ _) rfl rfl rfl rfl i [] s' _ H2 UL J2 ν ο M) (λr s1 ⟨β,J5⟩=>?_);subst β;exact hRR _ _ _ _ _ _ I3 G J5 hq
  ·refine Y2q (T.item (Y37 X x _ _ _) rfl rfl rfl rfl i [] s' _ H2 UL J2 ν ο U) (λr s1 ⟨u,β,hx⟩=>?_);subst β;refine Y2q hx (λ_ τ ⟨v,H3,J3,rv,hy,η,χ⟩=>?_);have Y:∀b∈fp,kQ (Y37 X x ((s.heap.push { cls:=.type "list",dict:=none,data:=.seq ([]:Ag).toArray }).objs.size) ({ s with heap:=s.heap.push { cls:=.type "list",dict:=none,data:=.seq ([]:Ag).toArray } }) (Y2M [])) [] H3 b:=λb a =>
    ⟨χ b a,(Y9D a).1,J3.ok.exfs b a,.inl a,(Y9D a).2,λp γ=>by cases γ⟩
   have P3:=J3.pinned Y (T.obj (i+1) _ η);have c:∀{σ':St} {Hx:Hp} {sx:Shared},cU (Y37 X x ((s.heap.push { cls:=.type "list",dict:=none,data:=.seq ([]:Ag).toArray }).objs.size) ({ s with heap:=s.heap.push { cls:=.type "list",dict:=none,data:=.seq ([]:Ag).toArray } }) (Y2M [])) ([]++vQ fp τ.heap) σ' Hx sx->tn (i+1) sx.heap/\∀b∈fp,Hx b=none:=λξ =>
    ⟨T.keep (i+1) _ _ η λb a κ e=>(ξ.pin (b,κ) (bL _ (bL _ (kB a e)))).1,λb a=>by
     obtain⟨κ,e,_⟩:=T.obj (i+1) _ η b a;exact(ξ.pin (b,κ) (bL _ (bL _ (kB a e)))).2.1⟩
   refine wpAny_assign_Name (qN P3 (i:=0) (x:=x) (v:=v) ?nd ?hi ?hx rv (λs5 J5=>?_) ?hfn)
   case nd=>exact S.nd
   case hi=>exact S.zero
   case hx=>exact .inr (sI S.own)
   case hfn=>exact .inl (by simp[HJ])
   have J5':cU _ _ (Ys::Y0v) H3 s5:=J5;refine Y2q (ht _ _ _ _ _ _ _ _ _ J5' (L v H3 hy)) (λok s6 ⟨H6,J6,N⟩=>?_);dsimp only at N;by_cases hok:ok=true
   ·rw[if_pos hok]at N ⊢;refine Y2q (he _ _ _ _ _ _ _ _ _ J6 N) (λy s7 ⟨P,H7,J7,ρ,ζ,m',B,α⟩=>?_);refine Y2q (uS (X:=Y37 X x _ _ _) _ _ _ _ (Y0I) [P] (Y0I) [y] (λ_ H8=>H8=YdV H7 (.lst (ys++[P]))) J7 rfl (Y7I ρ) (Y0F _ _ _ rfl ζ φ rfl)) (λ_ s8 ⟨_,H8,J8,_,υ⟩=>?_);subst υ;obtain⟨Z,ι⟩:=c J8;exact⟨m',B,i+1,ys++[P],_,Ys,J8.unpinned,Z,ι,α⟩
   ·rw[if_neg hok]at N ⊢;obtain⟨_,m',B,α⟩:=N;obtain⟨Z,ι⟩:=c J6;exact⟨m',B,i+1,ys,_,Ys,J6.unpinned,Z,ι,α⟩
 refine Ydm h X.A 0 _ _ _ μ h
def XG{wi:TI}(S:Y7j X x N' js)(hi:PI X (Y45) iter wi)(ht:YdY (Y37 X x C s₀ H₀) ifs tc)(he:YdX (Y37 X x C s₀ H₀) elt te)
  (hs:∀x,Y56 x=Y4I:=by intro _;rfl):Yn (Y1X [Y5b 0]) (VQ wi js tc te):=by
 intro a s σ H Q I h;rw[eval_ListComp];refine Ye5 none rfl hs (kZ (Y8Y)) S.kind (Y4T (hi a s σ H _ I h) (λv B g=>?_) e);refine Y4T g (λj w ⟨z,fp,p,J,H2,e,I2,T,i,n,R⟩=>?_) e;subst e;refine KF S I2 T i n ht he R ?_;intro D H3 A u H' r I3 c J3 q;obtain⟨m,l,_⟩:=J3.loc;exact⟨m,l,λy d=>Y1h Y5d H' (YZ S I3 c J3 d) q⟩
def VA{wi:TI}(S:Y7j X x N' js)(hi:NY X (Y45) iter wi)(ht:Yaq (Y37 X x C s₀ H₀) ifs tc)(he:Yap (Y37 X x C s₀ H₀) elt te)
  (hs:∀x,Y56 x=Y4I:=by intro _;rfl):Yh (Y1X [Y5b 0]) (xW wi js tc te) :=
 ⟨by unfold xW pK;exact XG S hi.p (λC fp s₀ H₀=>(ht C fp s₀ H₀).p.mono) (λC fp s₀ H₀=>(he C fp s₀ H₀).p.mono) hs⟩
end
def aCM(psc scope:Scope)(N:Ah)(x:Str)(N':Ah)(js:Ae):Bool :=
 (Y5V (!(Y8T y.2) || psc.names.lookup y.1 == Y1C))&&(YcY (Y7X y.2)) == [(x,NameKind.cell)]&&scope.kind == .function &&
 (Y5V (!(y.2 == .local) || Y87 y.1))&&(scope.names.lookup x) == Y1C &&
 (Y5V (!(Y8T y.2) || (!(Y87 y.1) && !(y.1 == x))))&&N'.length == js.length+1&&N'[0]? == Y7&&decide N'.Nodup &&
 ((List.range js.length).all λi=>match js[i]?,N'[i+1]? with
  | some j,some y=>N[j]? == some y&&scope.names.contains (y,NameKind.free)
  | _,_=>false)
def kR.of{X:Cx}{psc scope:Scope}{N:Ah}{x:Str}{N':Ah}{js:Ae}(h:aCM psc scope N x N' js=true)(hX:X.env.scope=psc)(hN:X.N=N)(hc:Y1F):Y7j X x N' js:=by
 unfold aCM at h;simp only[dG]at h;obtain⟨⟨⟨⟨⟨⟨⟨⟨⟨g,p⟩,s⟩,m⟩,u⟩,d⟩,w⟩,z⟩,n⟩,c⟩:=h;rw[List.all_eq_true]at g m d c;refine⟨hc,Y5Z,by simpa using p,by simpa using s,Y5Z,by simpa using u,Y5Z,λa=>?_,by simpa using w,by simpa using z,of_decide_eq_true n,λi j l=>?_⟩
 ·have:=g y a;rw[e]at this;show YcE y.1 _;rw[hX];simpa using this
 ·have:=m y a;rw[e]at this;simpa using this
 ·have:=d _ a;simp[e]at this
 ·have:=d _ a;simp at this
 ·have r:Y9U i:=(aB.mp l).1;have:=c i (cC.mpr r);rw[l]at this;cases q:N'[i+1]? with
  | none=>rw[q]at this;simp at this
  | some y =>
   rw[q]at this;simp only[dG]at this;exact Yd5 y (by rw[hN];simpa using this.1) this.2
end L2
namespace Kw
open PySem L2 Mf
abbrev sQ2:Stmt:=(AQ (top 23) 2)
def cQ2:Yd ["self","costs","many"] a39 sQ2:={}
def UU{X:Cx}{tg l:Expr}{tl:TE}(K:Aa)(hl:Yh l tl)(hK:X.K=K:=by rfl):NY X tg l (YI K tl):=by
 subst hK;exact eG hl
def yE{n i:Nat}{b:Y0}{R:Md.fA}(h:i<n):(iX n b R)[i]?=some (dF (n+1) (Md.rho n b R i)):=by
 unfold iX;rw[aG,bM h];rfl
def KJ{n i:Nat}{a:Y0}(h:i<n):(dF n a)[i]?=some (a i):=by
 unfold dF;rw[aG,bM h];rfl
def iB{n i:Nat}{a:Y0}(h:i<n):((dF n a).map V.int)[i]?=Yg (a i):=by
 rw[aG,KJ h];rfl
def mI{n:Nat}{ys:Al}{g:Y0}(hl:Y2x n)(h:∀(i:Nat) (y:V),Y1m=Y09->y=.int (g i)):ys=(dF n g).map V.int:=oP hl h
def vB{n:Nat}{a:Y0}{x:Int}(h:x∈dF n a):∃i,i<n/\a i=x:=by
 unfold dF at h;obtain⟨i,c,e⟩:=Y83;exact⟨i,cC.mp c,e⟩
def uV(ra sa:Addr)(p:Int):(mfs ra sa p).lookup ("rows" : Str)=Y3 ra:=by unfold mfs;rw[eW,Y2T,eW,Y2T,eW,Yt]
def CB(ra sa:Addr)(p:Int):(mfs ra sa p).lookup ("parts" : Str)=Yg p:=by unfold mfs;rw[eW,Y2T,eW,Yt]
def tW(ra sa:Addr)(p:Int):(mfs ra sa p).lookup ("standing" : Str)=Y3 sa:=by unfold mfs;rw[eW,Yt]
theorem uB.same{H H':Hp}{C a sa:Addr}{n:Nat}{b:Y0}{R:Md.fA}{p:Int}{ts:Al}(h:uB H C a sa n b R p ts)(s:Y1):uB H' C a sa n b R p ts:=by
 obtain⟨e,g,c,d⟩:=h.ex;exact⟨⟨e,g,s _ _ c,d.same s⟩,s _ _ h.st,h.len⟩
structure aAd(n:Nat)(b:Y0)(R:Md.fA)(p:Int)(C:Nat):Prop where
 n8:n<=8
 rz:∀i,i<n->∀k,k<n+1->(Y1z n i k).natAbs<2^C
 pz:p.natAbs<2^C
 c4:C<=4000
inductive qQ (M:Addr):Yq
 | i {H:Hp} {Q:VK} {E:XK} {x sa ca:Addr} {n:Nat} {b:Y0} {R:Md.fA} {p:Int} {ts:Al} {cs:Y0} {C:Nat} (h1:uB H M x sa n b R p ts) (h2:H ca=Yl ((dF n cs).map V.int)) (h3:aAd n b R p C) (h4:∀i,i<n->(cs i).natAbs<Y0W) (q:∀D H',H D=none->Y0G=Yl ((dF n (Md.rat n R cs)).map V.int)->Y1->Y1a):qQ M [Y2a,.ref ca] H Q E
section
def oQ2(F:Yb "rates" "Master.rates" sQ2)(T:Ye)(FQ57:Y01 "product" a32 uL):dO P w K mg base cV 2 f fd a39 (qQ c.Master):=by
 refine F.oky cQ2 λφ H Q E h=>?_;obtain @⟨H,Q,E,x,Y,τ,n,b,R,p,ξ,θ,C,ζ,S,Z,γ,q⟩:=h;refine Y5 (λκ A M s W=>?_);have O:=T.w_Master;have n8:=Z.n8;obtain⟨ρ,I,j,LL⟩:=ζ.ex;obtain⟨G,a,L,z⟩:=LL.at_;rw[nS]at L;have up:∀{x:Int},Y5l (2^C)->Y5l Y0W:=λh=>Y5y h Z.c4;refine⟨_,(aH (Y1D cQ2.nd (jH oA (by rfl) T.b_len Kk (Y18 Y1Y)))
  (Y1c (VA (kR.of (psc:=bA sQ2) (N:=["self","costs","many"]) (N':=["place","self","costs"]) (js:=[0,1]) Kk rfl rfl rfl) (Y7N 2) (Ybl) (λ_ _ _ _=>(cQ FQ57 (fF (dB.of (N:=["place","self","costs"]) (N':=["row","place"]) (js:=[0]) (by kernel_rfl) rfl rfl rfl) (UU K (dM K (aD 1))) Ybl (λ_ _ _ _=>Y2O 0 (Y8P Y0f))) (Y02)))))),?_⟩
 refine Yr;intro ο χ;refine Y1Q (by simp) j (uV I Y p);refine rlL a ?_;rw[L];refine⟨_,rfl,_,rfl,Oo,Oo,?_⟩;rw[show((n:Nat):Int).toNat=n by exact Oo];refine kO (n:=n) (λk y _=>y=.int (Md.rat n R θ k)) (Y8Z) Oo (λk H' Q' ν d β=>?_) (λD υ H' δ U d u W=>?_)
 ·rw[Int.zero_add];refine Y1Q (by simp) (d _ _ j) (uV I Y p);refine Y1A I (d _ _ a) (Y7w G (λi y _=>y=.int (R i k)) Oo (d _ _ a) (λi y H2 Q2 g m ι=>?_) (λD2 η H2 α X m B J=>?_))
  ·have e:i<n:=by have:=(aB.mp g).1;exact Oo
   obtain⟨l,u,ε⟩:=z i _ (yE e);rw[g]at u;cases u;refine Y05 (Y5N _ ?_);show rIx K (V.ref l) (V.int ((1:Int)+(k:Int))) H2 Q2;rw[show(1:Int)+(k:Int)=((k+1:Nat):Int)by exact Oo];exact Y47 ((d.trans m) _ _ ε) (iB Oo) (ι _ H2 (Y08) rfl)
  ·rw[mI (B.trans L) J]at X;refine Y9;refine uL.i X ((d.trans m) _ _ S) (by rw[cR,cR]) (by rw[cR];exact Oo) (λx j=>?_) (λy g=>?_) λH3 μ=>?_
   ·obtain⟨i,e,rfl⟩:=vB j;exact up (Z.rz i e (k+1) Oo)
   ·obtain⟨i,e,rfl⟩:=vB g;exact γ i e
   ·refine β _ H3 (m.trans μ) ?_;rw[JX];refine Yca ?_;unfold Md.dot Md.rat;exact Md.eC λi _=>Int.mul_comm ..
 ·rw[mI u W]at U;exact q D H' δ U d
end
abbrev sQ1:Stmt:=(AQ (top 23) 1)
def cQ1:Yd ["self","column","thing","steps","out"] a17 sQ1:={}
def SF(ra ra' sa:Addr)(p:Int):Y2U "rows" ra' (mfs ra sa p)=mfs ra' sa p:=by unfold mfs;rfl
def MN(ra sa:Addr)(p p':Int):eQ "parts" (.int p') (mfs ra sa p)=mfs ra sa p':=by unfold mfs;rfl
def wC.but{H H':Hp}{x C dx a:Addr}{fs:Y3N}{m:Ac}(h:wC H a m)(b:Y65 x)(hx:H x=Y5S):wC H' a m:=by
 obtain⟨c,d,e,j⟩:=h;refine⟨c,b.at (λz=>by rw[z,hx]at d;cases d) d,e,λi l row n g=>?_⟩;have:=j i l row n g;exact b.at (λz=>by rw[z,hx]at this;cases this) this
def aBR(n:Nat)(b:Y0)(R:Md.fA)(i:Nat):nB ((dF (n+1) (Md.rho n b R i)).map V.int) (some 1) none=(dF n (R i)).map V.int:=by
 have h:=HK ((dF (n+1) (Md.rho n b R i)).map V.int) 1;rw[show((1:Nat):Int)=1 from rfl]at h;rw[h];unfold dF;rw[List.range_succ_eq_map,bE,List.map_map,bE,List.drop_succ_cons,List.drop_zero]
 rfl
abbrev OU(n:Nat)(R:Md.fA)(a:Y0):Af:=dF n λj=>Y2p j
inductive tP (M:Addr):Yq
 | i {H:Hp} {Q:VK} {E:XK} {x sa ca:Addr} {tv:V} {n:Nat} {b a:Y0} {B R:Md.fA} {p:Int} {ts:Al} {C:Nat} (h1:uB H M x sa n b R p ts) (h2:H ca=Yl ((dF n a).map V.int)) (h3:aAd n b R p C) (h4:Md.Mst n b B R p) (h5:0<p) (h6:∀i,i<n->(a i).natAbs<Y0W) (h7:∀i,i<n->(Y2p i).natAbs<2^C) (h8:∃i,i<n/\0<Y2p i) (q:∀o H',o<n->0<Y2p o->Md.aAe n b R a o->aAg x sa H H'->uB H' M x sa n b (Md.xE n B R o a) (Y2p o) (Y5F tv)->Yad):tP M [Y2a,.ref ca,tv] H Q E
section
def oQ1(F:Yb "enter" "Master.enter" sQ1)(T:Ye)(FQ57:Y01 "product" a32 uL)(FQ41:Y2i "leaving" ["rows","steps"] AC)(FQ29:Y01 "exchanged" a29 AF):dO P w K mg base cV 3 f fd a17 (tP c.Master):=by
 refine Y1j cQ1;obtain @⟨H,Q,E,x,g,ca,tv,n,b,a,B,R,p,ts,C,N,τ,Z,M,p0,za,zs,pos,q⟩:=h;refine Y5 (λcdv A ν s S=>?_);have O:=T.w_Master;have n8:=Z.n8;obtain⟨u,β,U,LL⟩:=N.ex;obtain⟨aa,α,lr,η⟩:=LL.at_;rw[nS]at lr;have up:∀{x:Int},Y5l (2^C)->Y5l Y0W:=λh=>Y5y h Z.c4;have K0:MzK (n+1) C (iX n b R) (OU n R a):=by
  refine⟨by rw[cR,nS],by rw[nS];exact Oo,λr S=>?_,Oo,λr S y e=>?_,λy e=>?_,Z.c4⟩
  ·obtain⟨i,m,rfl⟩:=aN.mp S;exact cR _ _
  ·obtain⟨i,m,rfl⟩:=aN.mp S;obtain⟨k,ζ,rfl⟩:=vB e;exact Z.rz i (cC.mp m) k ζ
  ·obtain⟨i,m,rfl⟩:=vB e;exact zs i m
 refine⟨_,(aH (iP (i:=3) (dB.o ["row","column"] [1]) cQ1.nd rfl rfl Y6i Ybl (λ_ _ _ _=>cQ FQ57 (oR (wZ K) (Yz) (rV aL) rW) (Y0f)))
  (aH (Y4u cQ1.nd (cQ FQ41 (Y1Y) (Y0r)))
  (aH (Y6l (UZ FQ29 (Y1Y) (Y0r) (Y0V) (Y1Y)))
  (aH (Y6l (Y4m 3 Y0V))
  (aS (FU (Y02) (LN (Y1Y) (Y0V) BM))))))),?_⟩
 refine Yr;intro φ ι;refine Y1Q (by simp) U (uV β g p);refine Y1A β α (Y7w aa (λi y _=>y=.int (Y2p i)) Oo α (λi y H2 Q2 e L k2=>?_) (λD ys H1 hD ε s1 W μ=>?_))
 ·have m:i<n:=by have:=(aB.mp e).1;exact Oo
  obtain⟨l,W,el⟩:=η i _ (yE m);rw[e]at W;cases W;refine Y0g;refine slL (ys:=(dF n (R i)).map V.int) (L _ _ el) (aBR n b R i) λD3 H3 hD3 e3 X=>Y9;refine uL.i e3 ((L.trans X) _ _ τ) (by rw[cR,cR]) (by rw[cR];exact Oo) (λz ξ=>?_) (λz ξ=>?_) λH4 s4=>?_
  ·obtain⟨k,ζ,rfl⟩:=vB ξ;exact up (Z.rz i m (k+1) Oo)
  ·obtain⟨k,ζ,rfl⟩:=vB ξ;exact za k ζ
  ·exact k2 _ H4 (X.trans s4) (by rw[JX])
 ·rw[mI (W.trans lr) μ]at ε;refine Yw;intro φ ι;have χ:=s1 _ _ U;refine Y1Q (by simp) χ (uV β g p);refine Y9;refine AC.i (LL.same s1) ε K0 λH2 L=>Yw;intro φ ι;rw[cR];obtain⟨g1,g2⟩:=EV (n:=n) (b:=b) (a:=a) (R:=R) (aM n);cases eo:EW (iX n b R) (OU n R a) n with
  | none =>
   obtain⟨i,m,ω⟩:=pos;exact absurd ω (g1 eo i m)
  | some o =>
   obtain⟨J,sp⟩:=BZ _ _ _ _ eo;rw[jN J]at sp;have S2:=s1.trans L;have I:=S2 _ _ U;refine Y1Q (by simp) I (uV β g p);refine Y2E (Y4A O (by simp) I (CB β g p));refine AF.i (LL.same S2) (L _ _ ε) K0 (by rw[nS];exact J) p0 (Y5y Z.pz (Y3l Z.c4)) λd H3 G L3 X=>?_;rw[aBL M.bs p0 J]at L3;have ψ:=L3;have L3:=L3.ll;have S3:=S2.trans X;have γ:=S3 _ _ U;have Y:∀(r s:Addr) (z:Int),(mfs r s z).length<1000:=λr s z=>by show 3<1000;decide
   refine⟨_,rfl,x,c.Master,u,_,rfl,γ,O.cls,O.no _ (by simp),Y ..,Y4z⟩;intro φ ι;rw[SF];have b4:=Y7l x H3 c.Master u (mfs d g p);have e4:(upd H3 x (.ins c.Master u (mfs d g p))) x=_:=bK;generalize upd H3 x (.ins c.Master u (mfs d g p))=H4 at b4 e4 ⊢;have nD:D≠x:=λz=>by rw[z,U]at hD;cases hD
   refine Y05 (Y47 (b4.at nD ((L.trans X) _ _ ε)) (iB J) ?_);refine⟨_,rfl,x,c.Master,u,_,rfl,e4,O.cls,O.no _ (by simp),Y ..,?_⟩;rw[MN];have b5:=Y7l x H4 c.Master u (mfs d g (Y2p o));have e5:(upd H4 x (.ins c.Master u (mfs d g (Md.dot n (R o) a)))) x=_:=bK;generalize upd H4 x (.ins c.Master u (mfs d g (Md.dot n (R o) a)))=H5 at b5 e5 ⊢;have B5:aU x H3 H5:=b4.trans b5;have L5:=L3.but B5 γ;have δ:g≠x:=λz=>by have:=N.st;rw[z,U]at this;cases this
   have ab:=B5.at δ (S3 _ _ N.st);refine Y05 (Y4A O (by simp) e5 (tW d g _));refine Y9;refine stG (j:=o) ab (NA (by rw[N.len];exact J)) λH6 e6 ο=>?_;have ρ:=ο.at (Ne.symm δ) e5;refine q o H6 J sp (λi m ω=>g2 o eo i m ω) (λy θ υ κ e=>ο.at κ (B5.at υ (S3 _ _ e))) ⟨Y3U u d ρ,e6,by rw[List.length_set];exact N.len⟩;obtain⟨las,h1,h2,h3⟩:=ψ;have nf:∀{y:Addr} {θ:HO},H3 y=some θ->y≠x->y≠g->H6 y=some θ:=λe υ κ=>ο.at κ (B5.at υ e);have nn:∀{y:Addr},H2 y=none->y≠x/\y≠g:=λe=>⟨λz=>(by rw[z,I]at e;cases e),λz=>(by rw[z,S2 _ _ N.st]at e;cases e)⟩;refine⟨las,nf h1 (nn G).1 (nn G).2,h2,λj l row W S=>?_⟩;obtain⟨h4,h5⟩:=h3 j l row W S;exact nf h5 (nn h4).1 (nn h4).2
end
end Kw
namespace L2
open PySem PySem.W PySem.Spec PySem.Calls PyProof.Rows
section
variable{X:Cx}
@[irreducible] def aA6:Y1B:=λxs H Q=>∃(p:Addr) (bs:List Bool),xs=[Y0Z]/\H p=Yl (bs.map V.bl)/\Y2N (bs.any id)
def rany{p:Addr}{bs:List Bool}{H:Hp}{Q:VK}(e:H p=Yl (bs.map V.bl))(q:Y2N (bs.any id)):aA6 [Y0Z] H Q:=by unfold aA6;exact Y0h p bs e q
def ZX{bs:List Bool}:∀{us:Ag},Y2C (bs.map V.bl)->LSm.BoolsAre us bs:=by
 induction bs with
 | nil=>intro us r;cases r;exact .nil
 | cons b bs ih =>
  intro us r;cases r with
  | cons r t=>cases(show _=Value.bool b from r);exact .cons b (ih t)
def MJ(bs:List Bool):((List.range bs.length).any λi=>(bs[i]?).getD false)=bs.any id:=by
 apply Bool.eq_iff_iff.mpr;rw[List.any_eq_true,List.any_eq_true];constructor
 ·rintro⟨i,c,h⟩;have a:=cC.mp c;rw[aC a]at h;exact⟨bs[i],List.getElem_mem a,h⟩
 ·rintro⟨b,d,h⟩;obtain⟨i,c,rfl⟩:=List.getElem_of_mem d;exact⟨i,cC.mpr c,by rw[aC c];exact h⟩
def aFb(hc:Y1F):Y4Y X "any" aA6:=by
 unfold aA6;intro g s σ H J B Q I r h;obtain⟨p,bs,rfl,e,q⟩:=h;obtain⟨_,rfl,y⟩:=nM r;cases y;obtain⟨z,a,n,rv,L,d⟩:=I.lstM e;have m:s.heap.IsList p a.toArray:=Y0h _ d n rfl;have j:=ZX rv;have c:Y3r p:=aY d;refine call_any_walk (wpAny_pyIter_list m ?_);refine⟨s.heap.objs.size,[s.heap.objs.size,p],[s.heap.objs.size],a.toArray.size,_,_,λi=>(bs[i]?).getD false,rfl,Walks.list (A:=X.A.in1) (Y8B) _ p (dJ c) a.toArray,
  ⟨Y6D _ Y0Q,m.push _⟩,λi v D Q' E' w l=>?_,λG C u=>?_⟩
 ·obtain⟨b,e,rfl⟩:=j.get i v (by simpa using w);simp only[e,Option.getD_some]at l;exact wpAny_truthy_bool l
 ·have e:((List.range a.toArray.size).any λi=>(bs[i]?).getD false)=bs.any id:=by
   rw[bF,j.length];exact MJ bs
  rw[e];exact Y1h (.bl _) H (I.kept (LSm.kept_iter u)) q
end
end L2
namespace Kw
open PySem L2 Mf
abbrev aDH:Stmt:=(top 76)
def aIY:Yd a23 a23 aDH:={}
def tY{s u:Str}:Y10 (V.str s) (V.str u)=Y10 s u:=by
 by_cases e:s=u
 ·subst e;simp
 ·rw[bT e,bT λz=>e (by injection z)]
structure oB where
 word:Str
 cost:Int
 v:V
def xP(H:Hp)(u:V)(t:oB):Prop:=∃a,u=Yi/\H a=Yf [.str t.word,.int t.cost,t.v]
structure lB(H:Hp)(us:Al)(ts:Y0J):Prop where
 len:Y3d ts.length
 at_:∀(i:Nat) (u:V) (t:oB),us[i]?=Yo->ts[i]?=some t->xP H u t
def xP.same{H H':Hp}{u:V}{t:oB}(h:xP H u t)(s:Y1):xP H' u t:=by
 obtain⟨a,e,h⟩:=h;exact Y2P e (s _ _ h)
theorem lB.same{H H':Hp}{us:Al}{ts:Y0J}(h:lB H us ts)(s:Y1):lB H' us ts:=⟨h.len,λi u t a c=>(h.at_ i u t a c).same s⟩
def xP.keep2{H H':Hp}{x sa C dx:Addr}{fs:Y3N}{xs:Al}{u:V}{t:oB}(h:xP H u t)(k:aAg x sa H H')(hx:H x=Y5S)(hs:H sa=Y0P):xP H' u t:=by
 obtain⟨a,e,h⟩:=h;exact Y2P e (k _ _ (λz=>by rw[z,hx]at h;cases h) (λz=>by rw[z,hs]at h;cases h) h)
def lB.get{H:Hp}{us:Al}{ts:Y0J}(h:lB H us ts){i:Nat}{u:V}(hu:us[i]?=Yo):∃t,ts[i]?=some t/\xP H u t:=by
 have a:i<ts.length:=by have:=(aB.mp hu).1;have:=h.len;exact Oo
 exact⟨ts[i],aC a,h.at_ i u _ hu (aC a)⟩
def gF(ts:Y0J):Bool:=(ts.map λt=>decide (t.word=Str.ofString "lack")).any id
inductive lX (M:Addr):Yq
 | i {H:Hp} {Q:VK} {E:XK} {x sa:Addr} {n:Nat} {b:Y0} {R:Md.fA} {p:Int} {us:Al} {ts:Y0J} (h1:uB H M x sa n b R p us) (h2:lB H us ts) (h3:n<=8) (q:∀H',Y1->Q (.bl Y1k) H'):lX M [Y2a] H Q E
section
def aHY(F:Yb "lacks" "lacks" aDH)(T:Ye):dO P w K mg base cV 1 f fd a23 (lX c.Master):=by
 refine F.oky aIY λδ H Q E h=>?_;obtain @⟨H,Q,E,x,C,n,b,R,p,G,u,d,B,γ,q⟩:=h;refine Y5 (λW A j s Z=>?_);have O:=T.w_Master;obtain⟨α,J,N,LL⟩:=d.ex;have Y:=d.len;refine Y4x (jH (aFb rfl) (by rfl) T.b_any Kk (Y18 (Y7p ["thing"] [] Y6i (lS rF (Y2O 0 aL) (Y6r "lack" T.g_LACK))))) (Y1Q (by simp) N (tW J C p));refine Y1A C d.st (Y7w G (λi y _=>∃t,u[i]?=some t/\y=.bl (Y8D "lack")) Oo d.st (λi y H2 Q2 I S U=>?_) (λD z H1 β m X ε g=>?_))
 ·obtain⟨t,l,a,rfl,M⟩:=B.get I;refine Y0T (S _ _ M);exact Y5 (U _ H2 (Y08) ⟨t,l,by rw[tY]⟩)
 ·have L:z=(u.map λt=>decide (t.word=Str.ofString "lack")).map V.bl:=by
   refine Y7n ?_;rw[aG,aG];by_cases hi:i<z.length
   ·obtain⟨t,l,e⟩:=g i _ (aC hi);rw[l,aC hi,e];rfl
   ·rw[cA Oo,cA (by have:=B.len;exact Oo)];rfl
  rw[L]at m;exact rany m (q H1 X)
end
abbrev aDn:Stmt:=(top 77)
def aIO:Yd a23 a23 aDn:={}
def xR(ts:Y0J)(i:Nat):Int:=if Y1k=true then(if((ts[i]?.map λt=>decide (t.word=Str.ofString "lack")).getD false)=true then 1 else 0) else(ts[i]?.map (·.cost)).getD 0
inductive mU (M:Addr):Yq
 | i {H:Hp} {Q:VK} {E:XK} {x sa:Addr} {n:Nat} {b:Y0} {R:Md.fA} {p:Int} {us:Al} {ts:Y0J} {C:Nat} (h1:uB H M x sa n b R p us) (h2:lB H us ts) (h3:aAd n b R p C) (h4:∀t∈ts,t.cost.natAbs<Y0W) (q:∀D H',H D=none->Y0G=Yl ((dF n (Md.rat n R (xR ts))).map V.int)->Y1->Y1a):mU M [Y2a] H Q E
section
def aHD(F:Yb "rates_of" "rates_of" aDn)(T:Ye)(FQ37:Y01 "lacks" a23 (lX c.Master))(FQ2:FnM P w K mg base 2 c.Master "rates" a39 (qQ c.Master)):dO P w K mg base cV 3 f fd a23 (mU c.Master):=by
 refine F.oky aIO λρ H Q E h=>?_;obtain @⟨H,Q,E,x,L,n,b,R,p,ε,u,C,m,I,Z,κ,q⟩:=h;refine Y5 (λο A S s γ=>?_);have O:=T.w_Master;have n8:=Z.n8;have β:=m.len;have lt:=I.len;have η:∀(r s:Addr) (z:Int),(mfs r s z).lookup ("rates" : Str)=none:=λr s z=>by unfold mfs;rw[eW,Y2T,eW,Y2T,eW,Y2T];rfl
 refine⟨_,(aH (Y5m (qB (Y0y FQ37 0)) (LO FQ2 T.w_Master.cls (γ.mono Dd) (Yz) (Y18 (Y7p ["thing"] [] Y6i (oS (eN rF (Y2O 0 aL) (Y6r "lack" T.g_LACK)) aL aL)))))
  (Y1c (LO FQ2 T.w_Master.cls (γ.mono Dd) (Yz) (Y18 (Y7p ["thing"] [] Y6i (Y2O 0 aL)))))),?_⟩
 refine Yr;intro ι τ;refine Y9;refine lX.i m I n8 λH1 e=>Y9;obtain⟨δ,ζ,J,LL⟩:=(m.same e).ex;have g:=(m.same e).st;cases eb:gF u with
 | true =>
  refine oI (Y2B);intro ι;refine⟨_,rfl,x,δ,_,rfl,J,η ..,_,rfl,Y4A O (by simp) J (tW ζ L p)⟩;refine Y1A L g (Y7w ε (λi y _=>y=.int (xR u i)) Oo g (λi y H2 Q2 N d M=>?_) (λD ν H2 μ B d Y j=>?_))
  ·obtain⟨t,U,a,rfl,W⟩:=I.get N;refine Y0T ((e.trans d) _ _ W);refine Y5 Y9;have θ:xR u i=if Y8D "lack"=true then 1 else 0:=by unfold xR;rw[if_pos eb,U];rfl
   rw[tY];cases ew:Y8D "lack"with
   | true =>
    exact oI (M _ H2 (Y08) (by rw[θ,ew];rfl))
   | false =>
    exact nY (M _ H2 (Y08) (by rw[θ,ew];rfl))
  ·rw[mI (Y.trans β) j]at B;refine qQ.i (m.same (e.trans d)) B Z (λi ξ=>?_) λD3 H3 l X α=>?_
   ·unfold xR;rw[if_pos eb];split
    ·show 1<Y0W;exact Ydi
    ·show 0<Y0W;exact Y5X
   ·exact q D3 H3 ((e.trans d).free l) X ((e.trans d).trans α)
 | false =>
  refine nY ⟨_,rfl,x,δ,_,rfl,J,η ..,_,rfl,Y4A O (by simp) J (tW ζ L p)⟩;refine Y1A L g (Y7w ε (λi y _=>y=.int (xR u i)) Oo g (λi y H2 Q2 N d M=>?_) (λD ν H2 μ B d Y j=>?_))
  ·obtain⟨t,U,a,rfl,W⟩:=I.get N;refine Y0T ((e.trans d) _ _ W);exact M _ H2 (Y08) (by unfold xR;rw[if_neg (by rw[eb];decide),U];rfl)
  ·rw[mI (Y.trans β) j]at B;refine qQ.i (m.same (e.trans d)) B Z (λi ξ=>?_) λD3 H3 l X α=>?_
   ·unfold xR;rw[if_neg (by rw[eb];decide)];have G:i<u.length:=Oo;rw[aC G];exact κ _ (List.getElem_mem G)
   ·exact q D3 H3 ((e.trans d).free l) X ((e.trans d).trans α)
end
abbrev aDN:Stmt:=(top 78)
def aI1:Yd ["rates"] ["rates"] aDN:={}
def ZC(n:Nat)(y:Y0):nB ((dF (n+1) y).map V.int) none (some (-1))=(dF n y).map V.int:=by
 have e:(dF (n+1) y).map V.int=(dF n y).map V.int++[V.int (y n)]:=by unfold dF;rw[List.range_succ,bD,bD];rfl
 have l:((dF n y).map V.int).length=n:=by rw[aA,cR]
 rw[e];generalize (dF n y).map V.int=a at l ⊢;unfold nB;rw[HT.xA];have c:HT.kU (a++[V.int (y n)]).length (a++[V.int (y n)]).length (some (-1))=n:=by
  rw[aV,l];show(if(-1:Int)<0 then((-1:Int)+((n+1:Nat):Int)).toNat else min (-1:Int).toNat (n+1))=n;rw[if_pos Dd];exact Oo
 rw[c,Nat.sub_zero,List.drop_zero,<-l,List.take_left']
 rfl
inductive mY:Yq
 | i {H:Hp} {Q:VK} {E:XK} {a:Addr} {n:Nat} {y:Y0} (h1:H a=Yl ((dF (n+1) y).map V.int)) (h2:n<=8) (q:∀D H',H D=none->Y0G=Yl ((dF n λi=>- y i).map V.int)->Y1->Y1a):mY Y22 H Q E
section
def aH4(F:Yb "factors_of" "factors_of" aDN)(T:Ye):dO P w K mg base cV 1 f fd ["rates"] mY:=by
 refine F.oky aI1 λO H Q E h=>?_;obtain @⟨H,Q,E,a,n,y,C,N,q⟩:=h;refine Y5 (λL A e s M=>?_);refine Y6c _ (Y7p ["rate"] [] (eG (oR (wZ K) (Yz) rW (rV (BD vP aL)))) (BD vP (Yz)));refine Y05 Y9;refine slL (ys:=(dF n y).map V.int) C (ZC n y) λD1 H1 G j u=>Y1A D1 j (Y7w ((dF n y).map V.int) (λi z _=>z=.int (- y i)) (by rw[aA,cR];exact Oo) j (λi z H2 Q2 g m I=>?_) (λD ys H2 B l m p d=>?_))
 ·have J:i<n:=by have:=(aB.mp g).1;rw[aA,cR]at this;exact this
  rw[iB J]at g;cases g;exact Y05 (I _ H2 (Y08) rfl)
 ·rw[aA,cR]at p;rw[mI p d]at l;exact q D H2 (u.free B) l (u.trans m)
end
abbrev qE(ss:Aj)(pz:Yy)(c:Ae)(v:Nat):Rat:=pz v*Y2g v
def worz(F W M:Nat)(ss:Aj)(mix:Ak)(pz:Yy)(kz:Rat)(cs:Ak)(c:Ae):Rat:=qI W F (hZ ss) (Y6T) pz (λk=>kz*Y4e k) (Y2L) c
def UJ(F W M:Nat)(ss:Aj)(mix:Ak)(pz:Yy)(kz:Rat)(cs:Ak)(c:Ae):Rat:=kz*CC W ss mix cs c+cF F λj=>Y5c F W M pz kz (cG c j)
def OC(F W M:Nat)(ss:Aj)(mix:Ak)(pz:Yy)(kz:Rat)(cs:Ak)(c:Ae)(b:Nat):Prop :=
 (b=0/\Y1O/\Y5c F W M pz kz c=UJ F W M ss mix pz kz cs c)\/∃v,v<W/\b=1+v/\Y5c F W M pz kz c=cF W (qE ss pz c)-qE ss pz c v
section
variable{F W M:Nat}{ss:Aj}{mix cs:Ak}{pz:Yy}{kz:Rat}
def RN{c:Ae}(h:M<=c.sum):Y5c F W M pz kz c=mO (nX W (qE ss pz c)):=by
 unfold worz;rw[Nat.sub_eq_zero_of_le h];rfl
def EC{c:Ae}(h:Y1O)(hl:Y33):Y5c F W M pz kz c=mO (nX W (qE ss pz c)++[UJ F W M ss mix pz kz cs c]):=by
 obtain⟨n,a⟩:∃n,Y2L=n+1:=Y2l (Y2L-1);have e:UJ F W M ss mix pz kz cs c=kz*Y7R*Y0n (Y4L v*Y2g v)+cF F (λj=>qI W F (hZ ss) (Y6T) pz (λk=>kz*Y4e k) n (cG c j)):=by
  unfold UJ CC;rw[<-Rat.mul_assoc];congr 1;refine bR λj d=>?_;unfold worz;rw[gR Oo,show M-(c.sum+1)=n by exact Oo]
 rw[e];unfold worz;rw[a,ED]
def SN{d:Yy}{ns:Af}(hl:Y9g W)(hv:∀(i:Nat) (n:Int),ns[i]?=Y6H->(n:Rat)=cF W d-d i){m:Int}(hm:m∈ns)(hle:∀a∈ns,m<=a):(m:Rat)=mO (nX W d):=by
 have h:=XU (U:=1) Dd hl (λi n h=>by rw[hv i n h,Rat.one_mul]) hm hle;rw[Rat.one_mul]at h;exact h
def FL{c:Ae}{v:Nat}(w1:1<=W)(hl:Y33)(hv:v<W)(e:cF W (qE ss pz c)-qE ss pz c v=mO (nX W (qE ss pz c)))(h:Y1O->¬UJ F W M ss mix pz kz cs c<mO (nX W (qE ss pz c))) :
  OC F W M ss mix pz kz cs c (1+v)/\Y5c F W M pz kz c=mO (nX W (qE ss pz c)):=by
 have a:Y5c F W M pz kz c=mO (nX W (qE ss pz c)):=by
  by_cases q:Y1O
  ·rw[EC q hl,EU (MF w1 _),if_neg (h q)]
  ·exact RN Oo
 exact⟨.inr (Y0X v hv (by rw[a,e])),a⟩
def aCb{c:Ae}(w1:1<=W)(hl:Y33)(hc:Y1O)(h:UJ F W M ss mix pz kz cs c<mO (nX W (qE ss pz c))):OC F W M ss mix pz kz cs c 0/\Y5c F W M pz kz c=UJ F W M ss mix pz kz cs c:=by
 have a:Y5c F W M pz kz c=UJ F W M ss mix pz kz cs c:=by rw[EC hc hl,EU (MF w1 _),Y5C]
 exact⟨.inl ⟨rfl,hc,a⟩,a⟩
end
structure FcZ(W:Nat)(us:Ae)(cu:Nat)(fns:Af)(cf:Int)(pz:Yy)(kz:Rat):Prop where
 fl:fns.length=W
 ul:Y3d W
 fac:∀(i:Nat) (f:Int) (u:Nat),fns[i]?=Y5Q->us[i]?=Yo->(f:Rat)*(u:Rat)=pz i/\f.natAbs<Y0W
 cfu:(cf:Rat)*(cu:Rat)=kz
 cz:cf.natAbs<Y0W
 uz:∀u∈us,u<Y0t
 cuz:cu<Y0t
inductive wY (C:Addr):Yq
 | i {H:Hp} {Q:VK} {E:XK} {x fa:Addr} {cf:Int} {fns:Af} {F W M Ns Nm Np Nc B:Nat} {ss:Aj} {mix ps cs:Ak} {us:Ae} {cu:Nat} {pz:Yy} {kz:Rat} (h1:zU H x C F W M ss mix cs us cu) (h2:H fa=Yl (fns.map V.int)) (h3:lA F W M ss mix ps cs Ns Nm Np Nc B) (h4:FcZ W us cu fns cf pz kz) (h5:(Y0d).length<=400) (k:∀a bp m kvs best H',Y1->H' a=Yf [.ref bp,Y5f]->H' bp=Y1q->UI kvs (Y0d) best->(∀c∈rise F M,OC F W M ss mix pz kz cs c (Y0z))->(m:Rat)=Y7e F W M pz kz->Y0u a):wY C [Y2a,.ref fa,.int cf] H Q E
def EN{F:Nat}(M:Nat)(hF:1<=F):Y0d[0]?=some (Y04):=by
 unfold rise;rw[List.range_succ_eq_map,List.flatMap_cons,DC F hF];rfl
section
def aIg(F:Yb "best_places" "best_places" aDZ)(T:Ye)(FQ72:Y01 "weights_at" a33 (GI c.Weighing))(FQ49:Y2i "ones_more" a34 fV):dO P w K mg base cV 3 f fd a24 (wY c.Weighing):=by
 refine F.oky NP YdP;obtain @⟨H,Q,E,x,fa,cf,fns,F,W,M,Ns,Nm,Np,Nc,B,d,mix,ps,cs,us,cu,pz,kz,wg,hfa,I,G,r4,k⟩:=h;refine Y5 (λcdv A outer s S=>?_);have f1:=I.f1;have f4:=I.f4;have w1:=I.w1;have w4:=I.w4;have hB:=I.b;have O:=T.w_Weighing;have nsp:0<Ns^M:=Ydp (by have:=I.pos;rw[z,Nat.mul_zero]at this;exact Y1N)
 refine⟨_,(aH (Y1t NP.nd nK)
  (aH (Y4b 4 NP.nd nK)
  (aH (gK PassesOwn.never rfl (UT rfl T.b_reversed (Y18 Y1Y)) (Yai 5 NP.nd) (aH (Y4b 6 NP.nd (Y76 ["factor","one"] ["factor","one"] [] (Ya9 1 (Y2A FQ72 0 5)) (Y2X dN 0 1)))
  (aH (iP (i:=7) (dB.o ["due","dues"] [6]) NP.nd rfl rfl (eG (aD 6)) Ybl (λ_ _ _ _=>cD qD (Y68 (aBU K rfl) (by rfl) T.b_sum Kk 1) (Yz)))
  (aH (jC S.u1 (Y0r) (aD 5) (Y8P (tK PySem.F.plainAttrs_list PySem.F.slot_list_index PySem.F.type_list_index aBy (aD 7) (Y18 (Y68 (QX K rfl) (by rfl) T.b_min Kk 7)))))
  (aH (jC S.u1 (Y0V) (aD 5) (Y68 (QX K rfl) (by rfl) T.b_min Kk 7))
  (aS (iS (eN (XL S.u1) (aD 5) (Y1Y) (by with_unfolding_all rfl)) (aH (cP (i:=8) NP.nd (cD fT (Y1R dN 2 (gS S.u1 (Y1Y) (aD 5))) (jH (NM rfl) (by rfl) T.b_sum Kk (Y18 (Y7p ["more","worth_of"] [4] (eG (Y0y FQ49 5)) (Y7d S.u1 Yz))))))
  (aS (iS (Y1r xD 8 (gS S.u1 (Y0V) (aD 5))) (aH (jC S.u1 (Y0r) (aD 5) (Ybo (.int 0) T.g_LOOKS_ON Y3w))
  (aS (jC S.u1 (Y0V) (aD 5) (aD 8)))) fK))) fK)))))))
  (Y8Q (Y1S 3 (gS S.u1 (Y0V) (bQ bJ (Y1Y) aL))))))),?_⟩
 refine Yr;intro ν η;intro Z υ;refine Yw;intro ν η;have s1:=Y6N [] υ;have e1:(upd H Z (.dT [])) Z=Y07 []:=bK;generalize upd H Z (.dT [])=H1 at s1 e1 ⊢;intro wp X;refine Yw;intro ν η;have s2:=Y6N [] X;have e2:(upd H1 wp (.dT [])) wp=Y07 []:=bK;generalize upd H1 wp (.dT [])=H2 at s2 e2 ⊢;have R:wp≠Z:=λz=>by rw[z,e1]at X;cases X
 have δ:H wp=none:=s1.free X;have ι:=s1.trans s2;obtain⟨ul,dx,fl,ra,ua,wa,ca,tas,ckv,a0,a1,a2,a3,a4,a5,⟨e,a6,ρ⟩,a7,a8,a9,a10,a11⟩:=id wg;have lvs:e.length=(Y0d).length:=by rw[ρ.len,aA]
 refine Y1Q (by simp) (ι _ _ a0) a1;refine Y0h ra e (gH.of (ι _ _ a6)) ?_;refine QK (xs:=e) (λi σ H'=>Ex6 λ(o5 o6 o7 o8:Am) (μ kw:List (List fS × V))=>An6 (σ=[Y3 x,Y3 fa,Yg cf,Y3 Z,Y3 wp,o5,o6,o7,o8]) (Y1) (H' Z=Y07 μ) (H' wp=Y07 kw) (DP μ ((rise F M).drop (Y8V i)) (λc v=>∃b:Nat,v=.int (b:Int)/\OC F W M d mix pz kz cs c b)) (DP kw ((rise F M).drop (Y8V i)) (λc v=>∃n:Int,v=Y5e/\(n:Rat)=worz F W M d mix pz kz cs c)))
  ⟨_,_,_,_,[],[],rfl,ι,s2 _ _ e1,e2,⟨(λc l=>by rw[Nat.sub_zero,lvs,List.drop_length]at l;cases l),Y0x⟩,⟨(λc l=>by rw[Nat.sub_zero,lvs,List.drop_length]at l;cases l),Y0x⟩⟩ (Yat) ?_ ?_
 ·obtain⟨_,_,_,_,_,_,_,S',_⟩:=q;exact gH.of (S' _ _ a6)
 ·rintro i y σ H3 hi hy ⟨o5,o6,o7,o8,μ,kw,rfl,S3,U,Y,ε,α⟩;refine Y9W;intro ν η;obtain⟨cc,l,rc0⟩:=fC ρ hy;have ζ:=aE l;have L:=(gA f1).mp ζ;have lkb:=ε.len;have lkw:=α.len;rw[List.length_drop]at lkb lkw;refine Y4c;refine GI.i (wg.same S3) (rc0.same S3) ζ Oo λD1 ns H4 N hD1 e4 ln hns=>Y0F fa D1 _ _ (N _ _ (S3 _ _ hfa)) e4 ?_;refine kP (λj z _=>∃n,z=Y5e/\(n:Rat)=qE d pz cc j) (Yaw) (by rw[aA,G.fl];exact Oo) (N _ _ (S3 _ _ hfa)) e4 (by rw[aA,aA,G.fl,ln]) (λj u v H' Q' hu γ ω k'=>?_) (λD2 zs H5 hD2 e5 s5 hz5 hr5=>?_)
  ·rw[aG]at hu γ;obtain⟨fj,hfj,rfl⟩:=eI.mp hu;obtain⟨nj,hnj,rfl⟩:=eI.mp γ;have lj:=(aB.mp hfj).1;have hjW:j<W:=by rw[<-G.fl];exact lj
   obtain⟨uj,θ⟩:∃u,us[j]?=Yo:=Y2c (by rw[G.ul];exact hjW);obtain⟨g1,g2⟩:=G.fac j fj uj hfj θ;have g3:=hns j nj uj hnj θ;have g4:=CM (I.qn hjW L.2) nsp g3;refine⟨_,rfl,_,rfl,_,_,rfl,rfl,mC g2 (aK g4 (aEf (G.uz uj (aE θ)) Dd)),k' _ H' (Y08) Y9⟩;rw[Rat.intCast_mul,g3];show(fj:Rat)*(hZ d j cc*(uj:Rat))=pz j*hZ d j cc;rw[<-g1];grind
  obtain⟨ds,rfl,hds⟩:=nH (P:=λj n=>(n:Rat)=qE d pz cc j) hr5;refine Yw;intro ν η;have ld:ds.length=W:=by rw[aA,aA,G.fl]at hz5;exact hz5
  have sd:=IL ld hds;refine Y4J _ D2 (Y89 _ e5) (fD (λj z _=>∃n,z=Y5e/\(n:Rat)=cF W (qE d pz cc)-qE d pz cc j) (Yaw) (by rw[aA];exact Oo) e5 (λj v H' Q' γ ω k'=>?_) (λD3 zs H6 p e6 s6 hz6 hr6=>?_))
  ·rw[aG]at γ;obtain⟨dj,hdj,rfl⟩:=eI.mp γ;refine Y6 (rsI (gH.of (ω _ _ e5)) ?_);refine⟨_,rfl,_,_,rfl,rfl,k' _ H' (Y08) Y9⟩;rw[Rat.intCast_sub,sd,hds j dj hdj]
  obtain⟨zs,rfl,hzs⟩:=nH (P:=λj n=>(n:Rat)=cF W (qE d pz cc)-qE d pz cc j) hr6;refine Yw;intro ν η;have lz:zs.length=W:=by rw[aA,aA]at hz6;exact Oo
  have S6:aT H H6:=((S3.trans N).trans s5).trans s6;have e6b:=s6 _ _ (s5 _ _ (N _ _ U));have e6w:=s6 _ _ (s5 _ _ (N _ _ Y));obtain⟨ac,rfl,J⟩:=iG rc0;refine⟨_,rfl,VD e6,_,rfl,?_⟩;refine rmnl (gH.of e6) Oo λm hm hle=>?_;obtain⟨j,κ,hj2⟩:=YS hm;refine aIz e6 κ hj2 Oo ⟨_,_,rfl,rfl,_,rfl,_,rfl,?_⟩;have em:=SN lz hzs hm hle;have ej:cF W (qE d pz cc)-qE d pz cc j=mO (nX W (qE d pz cc)):=by rw[<-hzs j m κ,em]
  have ljW:j<W:=by rw[<-lz];exact(aB.mp κ).1
  refine Y5w e6b cc (by rw[fL];exact S6 _ _ J) Oo (λH7 e7b b7=>Y4z);intro ν η;have nbD:D3≠Z:=λz=>by rw[z]at p;rw[s5 _ _ (N _ _ U)]at p;cases p
  have nwD:D3≠wp:=λz=>by rw[z]at p;rw[s5 _ _ (N _ _ Y)]at p;cases p
  have e7:=b7.at nbD e6;have e7w:=b7.at R e6w;have S7:aT H H7:=aT.thru υ S6 b7;refine Y9;refine rmnl (gH.of e7) Oo λm' hm' hle'=>?_;have emm:m'=m:=Int.le_antisymm (hle' m hm) (hle m' hm');subst emm;refine Y0g;refine Y5w e7w cc (by rw[fL];exact S7 _ _ J) Oo (λH8 τ b8=>?_);have e8b:=b8.at (Ne.symm R) e7b;have S8:aT H H8:=aT.thru δ S7 b8;have D:=S8 _ _ J;have a:(rise F M).drop (Y8V (i+1))=cc::(rise F M).drop (Y8V i):=by
   have hk:Y0d[Y8V 1-i]?=some cc:=l;obtain⟨l1,l2⟩:=aB.mp hk;have:Y8V (i+1)=Y8V 1-i:=Oo;rw[this,List.drop_eq_getElem_cons l1,l2,show e.length-1-i+1=e.length-i by exact Oo]
  refine Y05 (Y4A O (by simp) (S8 _ _ a0) a5);refine rind (dgI (cc:=cc) (S8 _ _ a10) D) Y9;by_cases hlt:cc.sum<M
  ·have hah:cc∈ahd F M:=fY.mpr ⟨ζ,cO hlt⟩;obtain⟨m2,hm2,em2⟩:=a11.yes cc hah;rw[hm2];refine zI rfl (Yr);intro ν η;refine Y05 (Y4A O (by simp) (S8 _ _ a0) a5);refine Y6 (Y5x (S8 _ _ a10) cc (by rw[fL];exact D) hm2 ?_);have m2z:=CM (show Qn _ (B*4) (CC W d mix cs cc)by have:=(HS I hlt).q;rwa [dC]at this) I.pos em2;refine Y4k _ G.cz (aK m2z (aEf G.cuz (aJ (show B*4<=4*WB by exact Oo) vK))) Y9;refine fV.i (wA D) Oo λD4 ms H9 hD4 e9 r9 s9=>Y1A D4 e9 ?_;have lms:ms.length=cc.length:=by rw[r9.len,aA,aA,aW]
   refine fD (λq z _=>∃n,z=Y5e/\(n:Rat)=worz F W M d mix pz kz cs (cG cc q)) (Yaw) Oo e9 (λq v H' Q' γ ω k'=>?_) (λD5 ws H10 hD5 e10 ο hz10 hr10=>?_)
   ·obtain⟨c2,χ,rc2⟩:=fC (g:=λc=>uZ c) r9 γ;have hq:q<cc.length:=by have:=(aB.mp γ).1;exact Oo
    rw[aG,bM hq]at χ;cases χ;obtain⟨a2,rfl,ha2⟩:=iG (rc2.same ω);have bs:=gR (c:=cc) (j:=q) hq;have hin:Y3G (cG cc q):=(gA f1).mpr (Y2l (by rw[rO];exact L.1));have hbe:=tU l hin Oo;rw[show e.length-1-i+1=e.length-i by exact Oo]at hbe;obtain⟨v2,hv2,n2,rfl,en2⟩:=α.yes _ hbe;refine Y05 (NJ (ω _ _ (s9 _ _ τ)) (c:=ci (cG cc q)) (by rw[fL];exact ha2) (v:=.int n2) ?_ ?_)
    ·rw[iC,Y2t ?_]
     ·exact hv2
     ·have:=Y3C z;rw[this]at bs;exact Oo
    ·exact k' _ H' (Y08) (Y00 n2 en2)
   obtain⟨ws,rfl,hws⟩:=nH (P:=λq n=>(n:Rat)=worz F W M d mix pz kz cs (cG cc q)) hr10;have lws:ws.length=F:=by rw[aA]at hz10;exact Oo
   refine rsI (gH.of e10) ?_;have sw:=IL lws hws;refine Y5N _ ?_;have ψ:((cf*m2+ws.sum:Int):Rat)=UJ F W M d mix pz kz cs cc:=by
    rw[Rat.intCast_add,Rat.intCast_mul,sw,em2];have:=G.cfu;unfold UJ;grind
   have S10:=(S8.trans s9).trans ο;have r:=ο _ _ (s9 _ _ τ);have β:=ο _ _ (s9 _ _ e8b);have C:=S10 _ _ J;refine Y2E (NJ r (c:=ci cc) (by rw[fL];exact C) (v:=.int m') (by rw[iC,Yt]) ?_);refine Y5i _ _ _ ?_;have key:(cf*m2+ws.sum<m')↔UJ F W M d mix pz kz cs cc<mO (nX W (qE d pz cc)):=by
    rw[<-ψ,<-em];exact⟨λh=>by exact_mod_cast h,λh=>by exact_mod_cast h⟩
   refine CK (λhl=>?_) (λhl=>?_)
   ·obtain⟨B1,B2⟩:=aCb w1 L.1 hlt (key.mp hl);refine Y0g;have l1:=Y5K μ cc (.int (1+(j:Int)));have l2:=Y5K kw cc (.int m');refine Y5w β cc (by rw[fL];exact C) (aJ l1 Oo) (λH11 e11b b11=>?_);have S11:aT H H11:=aT.thru υ S10 b11;refine Y4c;refine Y5w (b11.at R r) cc (by rw[fL];exact S11 _ _ J) (aJ l2 Oo) (λH12 e12w φ=>⟨_,_,_,_,_,_,rfl,aT.thru δ S11 φ,φ.at (Ne.symm R) e11b,e12w,?_,?_⟩)
    ·rw[a];exact ε.put2 (Y00 0 B1)
    ·rw[a];exact α.put2 (Y6 (by rw[B2];exact ψ))
   ·obtain⟨B1,B2⟩:=FL (mix:=mix) (cs:=cs) (M:=M) (kz:=kz) w1 L.1 ljW ej λ_ h=>hl (key.mpr h);refine⟨_,_,_,_,_,_,rfl,S10,β,r,?_,?_⟩
    ·rw[a];exact ε.put ⟨1+j,by push_cast;rfl,B1⟩
    ·rw[a];exact α.put (Y6 (by rw[B2];exact em))
  ·have hno:cc ∉ ahd F M:=λz=>hlt (of_decide_eq_true (fY.mp z).2);rw[a11.no cc hno];refine sX rfl ?_;obtain⟨B1,B2⟩:=FL (mix:=mix) (cs:=cs) (M:=M) (kz:=kz) w1 L.1 ljW ej (λh=>absurd h hlt);refine⟨_,_,_,_,_,_,rfl,S8,e8b,τ,?_,?_⟩
   ·rw[a];exact ε.put ⟨1+j,by push_cast;rfl,B1⟩
   ·rw[a];exact α.put (Y6 (by rw[B2];exact em))
 ·rintro σ H3 ⟨o5,o6,o7,o8,μ,kw,rfl,S3,U,Y,ε,α⟩;rw[Nat.sub_self,List.drop_zero]at ε α;have ξ:=EN M f1;generalize ec0:List.replicate F 0=c0 at ξ;obtain⟨y0,hy0,ry0⟩:=kK ρ ξ;obtain⟨_,hv0,m0,rfl,em0⟩:=α.yes c0 (aE ξ);obtain⟨q0,rfl,hq0⟩:=iG ry0;refine Y2E (Y4A O (by simp) (S3 _ _ a0) a1);refine xS (S3 _ _ a6) (Y7E hy0) (Y5x Y c0 (by rw[fL];exact S3 _ _ hq0) hv0 ?_);refine rG (by show 2<=64;decide) λq4 H4 hq4 e4 N=>?_;have lb:=ε.len;have ch:∀cc:Ae,∃b:Nat,Y3G cc->gD μ (Y2R cc)=Yg (b:Int)/\OC F W M d mix pz kz cs cc b:=λcc=>by
   by_cases q:Y3G cc
   ·obtain⟨v,h1,b,rfl,h2⟩:=ε.yes cc q;exact⟨b,λ_=>⟨h1,h2⟩⟩
   ·exact⟨0,λz=>absurd z q⟩
  exact k q4 Z m0 μ (λcc=>Classical.choose (ch cc)) H4 (S3.trans N) e4 (N _ _ U) (Y2l (λcc l=>(Classical.choose_spec (ch cc) l).1)) (λcc l=>(Classical.choose_spec (ch cc) l).2) (by rw[ec0];exact em0)
end
section
variable{F W M:Nat}{best:Y0B}
def SD{ss:Aj}{mix cs:Ak}{pz:Yy}{kz:Rat}(hF:1<=F)(hb:∀c∈rise F M,OC F W M ss mix pz kz cs c (Y0z)):∀e∈rul F W M best,aAl F W (hZ ss) (Y6T) pz (λk=>kz*Y4e k) (worz F W M ss mix pz kz cs) e:=by
 intro e i;obtain⟨c,j,rfl⟩:=aN.mp i;have a:=(jE hF).subset j;rcases hb c a with⟨g,m,d⟩ | ⟨v,h,g,d⟩
 ·refine .inl (Y0b (by rw[pA,if_pos g]) (λv h=>?_))
  ·show Y0L (Y5G W)=0;rw[sJ Oo,Y3y]
  ·show Y5c F W M pz kz c=kz*Y7R*Y0n (Y4L v*Y2g v)+_;rw[d];unfold UJ CC;rw[<-Rat.mul_assoc];rfl
 ·refine .inr ⟨v,h,by rw[pA,Y3y],?_,λu l n=>?_,?_⟩
  ·show Y0L (Y5G W)=1;rw[sJ Oo,if_pos g.symm]
  ·show Y3J (Y5G W) u=0;rw[sJ Oo,Y3y]
  ·show Y5c F W M pz kz c=_;rw[d];rfl
end
theorem EH{α:Type}(k:Rat)(f:Y31):∀l:List α,cW l (λa=>k*f a)=k*cW l f
 | []=>by show(0:Rat)=k*0;grind
 | a::l=>by
  show k*f a+cW l (λa=>k*f a)=k*(f a+cW l f);rw[EH k f l];grind
def vA(F W:Nat)(es:Yj)(q:Y3g)(mix cs:Yy)(k:Rat):fM F W es q mix (λi=>k*cs i)=k*fM F W es q mix cs:=by
 unfold fM;rw[<-eT];refine Y7b ?_;have:gJ F es (q w) (λi=>k*cs i)=k*gJ F es (q w) cs:=by
  unfold gJ;rw[<-EH];congr 1
  funext e
  grind
 rw[this];grind
def KS{F W M:Nat}{best:Y0B}{ss:Aj}{mix cs:Ak}{pz:Yy}{kz:Rat}(hF:1<=F)(f4:F<=4)(m5:M<=5)(on:∀c,Y0z=0->Y1O)(hb:∀c∈rise F M,OC F W M ss mix pz kz cs c (Y0z))
  (h0:∀w,w<W->hZ ss w Y04=1) (h1:∀w,w<W->∀c:Ae,Y33->Y2g w=Y4a (hZ ss w (Y0w c))) :
  Y7e F W M pz kz=kz*Y4R F W Y1s+Y0m (pz w*(1-gW F Y1s (hZ ss w) w)):=by
 have h:=WX (WN (W:=W) hF f4 m5 on) (worz F W M ss mix pz kz cs) h0 h1 (SD hF hb);rw[h];unfold yF;rw[vA]
def AZ{F W M:Nat}{es:Yj}{ss:Aj}{mix cs:Ak}{pz:Yy}{kz:Rat}(R:Y1x)(hM:∀e∈es,e.1.sum<=M)(on:∀e∈es,Y3T->e.1.sum<M)
  (h0:∀w,w<W->hZ ss w Y04=1) (h1:∀w,w<W->∀c:Ae,Y33->Y2g w=Y4a (hZ ss w (Y0w c))) (hs:∀e∈es,(∀v,0<=cS e.2 v)/\Y0n (Y0L e.2)=1-Y2) :
  Y7e F W M pz kz<=kz*Y4R F W es+Y0m (pz w*(1-gW F es (hZ ss w) w)):=by
 have h:=WW (mix:=Y6T) (ps:=pz) (cs:=λk=>kz*Y4e k) R hM on h0 h1 hs;unfold yF at h;rw[vA]at h;have e:Y7e F W M pz kz=qI W F (hZ ss) (Y6T) pz (λk=>kz*Y4e k) M (Y04):=by
  unfold worz;rw[show M-(List.replicate F 0).sum=M by simp]
 rw[e];exact h
section
variable{F W M:Nat}{best:Y0B}
def QF{c d:Ae}(h:∀j,j<F->d≠cG c j):Y0S c=0:=by
 unfold iF;rw[Y7x (λj a=>Y2t (h j a z.symm)),iW]
def yL{α:Type}{P:Y0C Yu}(h0:P [])(h1:∀l a,P l->P (l++[a]))(l:Yu):P l:=by
 have:∀l:List α,P l.reverse:=λl=>by
  induction l with
  | nil=>exact h0
  | cons a l ih=>rw[List.reverse_cons];exact h1 _ _ ih
 rw[<-List.reverse_reverse l];exact this _
def FC{keep:Y0C Ae}{d:Ae}(hd:d≠Y04)(hn:∀c,keep c->Y0z=0->∀j,j<F->d≠cG c j)(l:Ab):(∀c∈l,keep c)->Y73 W d=0:=by
 refine yL (P:=λl=>(∀c∈l,keep c)->Y73 W d=0) (λ_=>?_) (λl a h g=>?_) l
 ·rw[List.map_nil,lL,if_neg hd]
 ·rw[bD];show Y2f (Y96 W++[oO W best a])=0;rw[gG,h λc i=>g c (cN _ i),pA];by_cases e:best a=0
  ·have:=QF (F:=F) (c:=a) (d:=d) (hn a (g a (by simp)) e);show 0+Y73 W a*_*Y0S a=0;rw[this];grind
  ·rw[Y0Y];grind
def TL{kb:Y2K Ae}(l:Ab):(∀c∈l,¬kb c=true->c≠Y04/\∀b,kb b=true->best b=0->∀j,j<F->c≠cG b j)->∀d,Y73 W d=Y2f ((l.filter kb).map (Y50 W)):=by
 refine yL (P:=λl=>(∀c∈l,¬kb c=true->c≠Y04/\∀b,kb b=true->best b=0->∀j,j<F->c≠cG b j)->∀d,Y73 W d=Y2f ((l.filter kb).map (Y50 W))) (λ_ d=>rfl) (λl a g m d=>?_) l;have g:=g λc h=>m c (cN _ h);rw[bD,List.filter_append,bD];show Y2f (Y96 W++[oO W best a])=_;rw[gG];by_cases e:kb a=true
 ·have i:[a].filter kb=[a]:=by simp[e]
  rw[i];show _=Y2f ((l.filter kb).map (Y50 W)++[oO W best a]);rw[gG,g,g]
 ·have i:[a].filter kb=[]:=by simp[e]
  rw[i,List.map_nil,List.append_nil,g];obtain⟨p,n⟩:=m a (by simp) e;have r:Y73 W a=0:=by
   rw[g];exact FC (keep:=λc=>kb c=true) p n _ λc h=>(fY.mp h).2
  show _+Y73 W a*_*_=_;rw[r];grind
def CU{l1 l2:Ab}(h:l1.Sublist l2):l2.Nodup->l2.filter (YaW (c∈l1))=l1:=by
 induction h with
 | slnil=>intro _;rfl
 | @cons l1 l2 a h ih =>
  intro e;obtain⟨g,d⟩:=List.nodup_cons.mp e;rw[List.filter_cons,if_neg (by simpa using λz=>g (h.subset z)),ih d]
 | @cons_cons l1 l2 a h ih =>
  intro e;obtain⟨g,d⟩:=List.nodup_cons.mp e;rw[List.filter_cons,if_pos (by simp)];congr 1;have:l2.filter (YaW (c∈a::l1))=l2.filter (YaW (c∈l1)):=by
   refine List.filter_congr λx i=>?_;have:x≠a:=λz=>g (z ▸ i);simp[this]
  rw[this,ih d]
def HA{k:Nat}{d:Ae}(hk:k<=M)(h:d∈Y58 F k):Y7k d:=by
 unfold rE;exact List.mem_flatMap.mpr ⟨k,cC.mpr Oo,h⟩
def TK(hF:1<=F)(f4:F<=4)(m5:M<=5)(d:Ae):Y2f ((rise F M).map (Y50 W))=Y2f Y1s:=by
 have h:=TL (F:=F) (W:=W) (best:=best) (kb:=YaW (Y7k c)) (Y0d) (λc r g=>?_) d
 ·rw[h,CU (jE hF) (sG F f4 M m5)];rfl
 ·have e:=(gA hF).mp r;refine⟨λz=>g (cO ?_),λb p n j m z=>g (cO ?_)⟩
  ·rw[z];exact HA (k:=0) (Y0x) (by unfold lvl;simp)
  ·obtain⟨k,i,a⟩:=List.mem_flatMap.mp (of_decide_eq_true p);have l:=cC.mp i;have hd:c∈Y58 F (k+1):=(mD hF).mpr ⟨b,a,n,j,m,z⟩;have s:c.sum=k+1:=(iU ((mF hF _).subset hd)).2;exact HA (k:=k+1) (by have:=e.2;exact Oo) hd
end
section
variable{F W M:Nat}{best:Y0B}
def YR{l:Yj}{d:Ae}(m:Yj):(∀e∈m,Y0S e.1=0)->Y2f (l++m)=Y2f l:=by
 refine yL (P:=λm=>(∀e∈m,Y0S e.1=0)->Y2f (l++m)=Y2f l) (λ_=>by rw[List.append_nil]) (λm a c h=>?_) m;rw[<-List.append_assoc,gG,c λe g=>h e (cN _ g),h a (by simp)];grind
def aBK{A B:Ab}{c:Ae}(hB:∀b∈c::B,b.length=F/\Y4h b.sum):Y0k ((A++c::B).map (Y50 W)) c=Y0k (A.map (Y50 W)) c:=by
 rw[bD];refine YR _ Y7C;obtain⟨b,d,rfl⟩:=aN.mp a;obtain⟨h,g⟩:=hB b d;show iF F b c=0;refine QF λj i z=>?_;have:=gR (c:=b) (j:=j) Oo;rw[<-z]at this;exact Oo
def ZH(l:Ab)(ss:Aj)(mix cs:Ak):Y4R F W (Y96 W)=Y3E l ((if Y0z=0 then 1 else 0)*(Y73 W c*CC W ss mix cs c)):=by
 unfold fM gJ;generalize aX F (l.map (oO W best))=a
 induction l with
 | nil =>
  show Y0m (Y4L w*0)=0;rw[Y7x (λw _=>by grind),iW]
 | cons c l ih =>
  rw[dA,<-ih,bE];have e:∀w,Y4L w*Y8b (oO W best c::Y96 W) (Y4e e.1.sum*(a e.1*hZ ss w e.1*Y2))=(s0 (oO W best c)*a c*Y7R)*(Y4L w*Y2g w)+Y4L w*Y8b (Y96 W) (Y4e e.1.sum*(a e.1*hZ ss w e.1*Y2)):=λw=>by
   rw[dA];show Y4L w*(Y7R*(a c*Y2g w*s0 (oO W best c))+_)=_;grind
  rw[Y7b (e w),nP,eT,pA];unfold CC;grind
def WH(l:Ab)(q:Y0K){w:Nat}(hw:w<W):gW F (Y96 W) q w=Y3E l ((if Y0z=1+w then 1 else 0)*(Y73 W c*q c)):=by
 unfold gW;generalize aX F (l.map (oO W best))=a
 induction l with
 | nil=>rfl
 | cons c l ih =>
  rw[bE,dA,dA,ih];show a c*q c*Y3J (Y5G W) w+_=_;rw[sJ Oo];by_cases e:Y0z=1+w
  ·rw[if_pos e.symm,Y1T];grind
  ·rw[Y2t Y7V,Y0Y];grind
end
section
variable{F W M:Nat}{best:Y0B}
theorem EJ(kb:Y2K Ae)(f:Y0K):∀l:Ab,(∀c∈l,¬kb c=true->f c=0)->cW l f=cW (l.filter kb) f
 | [],_=>rfl
 | c::l,h=>by
  have ih:=EJ kb f l λd hd=>h d (bG _ hd);rw[dA,List.filter_cons];by_cases e:kb c=true
  ·rw[if_pos e,dA,ih]
  ·rw[if_neg e,h c (bC ..) e,ih];grind
def YQ(hF:1<=F){c:Ae}(hc:Y3G c)(hn:c ∉ Y6B):Y0k Y1s c=0:=by
 have d:=(gA hF).mp hc;refine FC (keep:=λb=>Y7k b) (λz=>hn ?_) (λb e h j g z=>hn ?_) (Y6B) λb e=>e
 ·rw[z];exact HA (k:=0) (Y0x) (by unfold lvl;simp)
 ·obtain⟨k,i,a⟩:=List.mem_flatMap.mp e;have hd:c∈Y58 F (k+1):=(mD hF).mpr ⟨b,a,h,j,g,z⟩;have l:c.sum=k+1:=(iU ((mF hF _).subset hd)).2;exact HA (k:=k+1) (by have:=d.2;exact Oo) hd
def IK(hF:1<=F)(f4:F<=4)(m5:M<=5)(g:Y0K)(x:Y0K):Y3E Y0d (x c*(Y0k ((rise F M).map (Y50 W)) c*g c))=Y3E Y6B (x c*(Y0k Y1s c*g c)):=by
 rw[cY (g:=λc=>x c*(Y0k Y1s c*g c)) λc _=>by rw[TK hF f4 m5]];rw[EJ (YaW (Y7k c)) _ (Y0d) λc d a=>by
  rw[YQ hF d λz=>a (cO z)];grind,CU (jE hF) (sG F f4 M m5)]
def TU(hF:1<=F)(f4:F<=4)(m5:M<=5)(ss:Aj)(mix cs:Ak):Y4R F W Y1s=Y3E Y0d ((if Y0z=0 then 1 else 0)*(Y0k ((rise F M).map (Y50 W)) c*CC W ss mix cs c)):=by
 rw[IK (W:=W) hF f4 m5 (CC W ss mix cs) λc=>if Y0z=0 then 1 else 0];exact ZH (Y6B) ss mix cs
def SC(hF:1<=F)(f4:F<=4)(m5:M<=5)(q:Y0K){w:Nat}(hw:w<W):gW F (Y1s) q w=Y3E Y0d ((if Y0z=1+w then 1 else 0)*(Y0k ((rise F M).map (Y50 W)) c*q c)):=by
 rw[IK (W:=W) hF f4 m5 q λc=>if Y0z=1+w then 1 else 0];exact WH (Y6B) q hw
end
def sP(kvs:Yv)(d:Ae):Int:=match Y2Z d with
 | some (.int n)=>n
 | _=>0
structure AmD(kvs:Yv)(fl:Y0K)(B:Nat):Prop where
 ok:∀d:Ae,((∃n:Int,Y2Z d=Yg n)\/Y2Z d=none)/\(sP kvs d:Rat)=fl d/\(sP kvs d).natAbs<=2^B
 len:Y6Y (B+1)
def YN(kvs:Yv)(d e:Ae)(n:Int):sP (Y7Q d Y5e) e=if e=d then n else sP kvs e:=by
 unfold sP;rw[iC];by_cases h:e=d
 ·subst h;rw[Yt,Yt]
 ·rw[Y4r (h (Y3C q)),Y5D]
def AmD.put{kvs:Yv}{fl:Y0K}{B:Nat}(h:AmD kvs fl B)(d:Ae){a:Int}(ha:a.natAbs<=2^B):AmD (Y7Q d (.int (sP kvs d+a))) (λe=>fl e+(a:Rat)*(if d=e then 1 else 0)) (B+1):=by
 refine⟨Y54,by have:=h.len;have:=Y5K kvs d (.int (sP kvs d+a));exact Oo⟩;obtain⟨g,c,l⟩:=h.ok e;obtain⟨_,i,j⟩:=h.ok d;rw[YN,Nat.pow_succ];refine Y0b ?_ ?_
 ·rw[iC];by_cases q:e=d
  ·rw[if_pos (by rw[q])];exact .inl Y3w
  ·rw[Y2t (q (Y3C z))];exact g
 ·by_cases q:e=d
  ·subst q;rw[Yt,Yt,Rat.intCast_add,i];grind
  ·rw[Y2V,Y2t (q z.symm),c];grind
 ·by_cases q:e=d
  ·rw[Y5B];exact Oo
  ·rw[Y2V];exact Oo
def AmD.more{kvs:Yv}{fl gl:Y0K}{B C:Nat}(h:AmD kvs fl B)(e:∀d,fl d=gl d)(hB:B<=C):AmD kvs gl C :=
 ⟨λd=>⟨(h.ok d).1,by rw[(h.ok d).2.1,e],aJ ((h.ok d).2.2) (aI Dd hB)⟩,by have:=h.len;exact Oo⟩
def TB(j:Nat)(c d:Ae):Rat:=Yao j (if Y0w c=d then 1 else 0)
def SZ(j:Nat)(c d:Ae):TB (j+1) c d=TB j c d+if cG c j=d then 1 else 0:=by
 unfold TB cF;rw[List.range_succ,bD,tL];congr 1;show(if cG c j=d then(1:Rat) else 0)+0=_;grind
def YK(F:Nat)(c d:Ae):TB F c d=Y0S c:=rfl
def aAX{F M:Nat}(f4:F<=4)(m5:M<=5){i j:Nat}{c b:Ae}(hi:Y0d[i]?=Y1v)(hj:Y0d[j]?=some b)(h:i<=j):Y4h b.sum:=by
 refine Y6x ?_;have e:=tU hj (aE hi) Oo;obtain⟨t,a⟩:=gI.mp e;rw[List.getElem?_drop]at a;have g:=sG F f4 M m5;obtain⟨n,d⟩:=aB.mp hi;obtain⟨m,l⟩:=Y6u;have:=(List.getElem_inj g).mp (d.trans l.symm);exact Oo
def TJ{F W M:Nat}{best:Y0B}(hF:1<=F)(f4:F<=4)(m5:M<=5){i:Nat}{c:Ae}(hi:Y0d[i]?=Y1v):Y0k (((rise F M).take i).map (Y50 W)) c=Y0k ((rise F M).map (Y50 W)) c:=by
 obtain⟨g,d⟩:=aB.mp hi;have e:Y0d=(rise F M).take i++c::(rise F M).drop (i+1):=by
  rw[<-d,<-List.drop_eq_getElem_cons g,List.take_append_drop]
 have h:=aBK (F:=F) (W:=W) (best:=best) (A:=(rise F M).take i) (B:=(rise F M).drop (i+1)) (c:=c) λb j=>?_
 ·rw[<-e]at h;exact h.symm
 ·rw[<-d,<-List.drop_eq_getElem_cons g]at j;obtain⟨t,a⟩:=gI.mp j;rw[List.getElem?_drop]at a;exact⟨((gA hF).mp (aE a)).1,aAX f4 m5 hi a Oo⟩
abbrev aDW:Stmt:=(top 63)
def HM:Yd ["weighing","best_at","amount_of","cost","right","counts","amount","place","more"] a12 aDW:={}
def aBT{W v:Nat}{rg:Y0}{n:Int}(hv:v<W):((dF W rg).map V.int).set v (V.int n)=(dF W λz=>if z=v then n else rg z).map V.int:=by
 refine Y7n ?_;by_cases hi:i<W
 ·rw[iB hi];by_cases e:i=v
  ·subst e;rw[List.getElem?_set_self (by rw[aA,cR];exact hi),Yt]
  ·rw[Ybt Y7V,iB hi,Y0Y]
 ·rw[cA (by rw[List.length_set,aA,cR];exact Oo),cA (by rw[aA,cR];exact Oo)]
structure aJj(F W M:Nat)(ss:Aj)(mix cs:Ak)(us:Ae)(cu:Nat)(best:Y0B):Prop where
 f1:1<=F
 f4:F<=4
 m5:M<=5
 w4:W<=4
 r4:(Y0d).length<=400
 bw:∀c∈rise F M,Y0z<=W
 on:∀c,Y0z=0->Y1O
 zc:∀c∈ahd F M,∀n:Int,(n:Rat)=CC W ss mix cs c*(cu:Rat)->n.natAbs<Y0W
 zw:∀(v:Nat) (u:Nat),us[v]?=Yo->∀c∈rise F M,∀n:Int,(n:Rat)=Y2g v*(u:Rat)->n.natAbs<Y0W
inductive wV (C:Addr):Yq
 | i {H:Hp} {Q:VK} {E:XK} {x bp:Addr} {kb:Yv} {F W M:Nat} {ss:Aj} {mix cs:Ak} {us:Ae} {cu:Nat} {best:Y0B} (h1:zU H x C F W M ss mix cs us cu) (h2:H bp=Y07 kb) (h3:UI kb (Y0d) best) (h4:aJj F W M ss mix cs us cu best) (k:∀a D (m:Int) (ns:Y0) H',Y1->H' a=Yf [Y5f,Y5d]->Y0G=Yl ((dF W ns).map V.int)->(m:Rat)=(cu:Rat)*Y4R F W Y1s->(∀(v u:Nat),us[v]?=Yo->(ns v:Rat)=(u:Rat)*(1-gW F Y1s (hZ ss v) v))->Y0u a):wV C [Y2a,.ref bp] H Q E
section
def aIe(F:Yb "column_by" "column_by" aDW)(T:Ye)(FQ49:Y2i "ones_more" a34 fV):dO P w K mg base cV 3 f fd a12 (wV c.Weighing):=by
 refine Y1j HM;obtain @⟨H,Q,E,x,bp,kb,F,W,M,ss,mix,cs,ρ,cu,m,wg,hbp,B,I,k⟩:=h;refine Y5 (λcdv A outer s θ=>?_);have O:=T.w_Weighing;have f1:=I.f1;have f4:=I.f4;have m5:=I.m5;have w4:=I.w4;have r4:=I.r4;obtain⟨ul,dx,fl,ra,ua,wa,ca,tas,ckv,φ,a1,a2,a3,a4,a5,⟨vs,a6,κ⟩,a7,a8,a9,a10,a11⟩:=id wg;have lvs:Y6V ((Y0d).length):=by rw[κ.len,aA]
 have hc0:=EN M f1;obtain⟨y0,hy0,ry0⟩:=kK κ hc0;obtain⟨q0,rfl,hq0⟩:=iG ry0;refine⟨_,(aH (Y1D HM.nd (IH θ.u1 (bQ bJ (Y1Y) aL) aL))
  (aH (Y1t HM.nd aL)
  (aH (iP (i:=4) (dB.o ["unit"] []) HM.nd rfl rfl Y6i Ybl (λ_ _ _ _=>aL))
  (aH (gK PassesOwn.never rfl (Y6i) (Yai 5 HM.nd) (aH (cP (i:=6) HM.nd (FY θ.u1 (Y02) (aD 5) aL))
  (aH (cP (i:=7) HM.nd (Y7d θ.u1 (aD 5)))
  (aS (iS (Y1r rF 7 (Ybo (.int 0) T.g_LOOKS_ON Y3w)) (aH (Y1t HM.nd (Y1R fT 3 (Y1R dN 6 (gS θ.u1 (Y1Y) (aD 5)))))
  (aS (Y6m (eG (Y0y FQ49 5)) 8 HM.nd (jC θ.u1 (Y02) (aD 8) (cD fT (FY θ.u1 (Y02) (aD 8) aL) (aD 6)))))) (aS (FU (cD fT (Y4m 4 (Y3K qD 7)) (Y1R dN 6 (gS θ.u1 (bQ bJ (Y1Y) (Y3K qD 7)) (aD 5)))) (LN (Y0V) (Y3K qD 7) BM))))))))
  (Y8Q (Y1S 3 (Y76 ["unit","one"] ["unit","one"] [] (lF false false rfl T.b_zip (Y2s Y1Y Y0V)) (Y2X qD 0 1)))))))),?_⟩
 refine Yr;intro η n_;intro G ζ;have s1:=Y6N [] ζ;have e1:(upd H G (.dT [])) G=Y07 []:=bK;generalize upd H G (.dT [])=H1 at s1 e1 ⊢;refine Y1Q (by simp) (s1 _ _ φ) a1;refine xS (s1 _ _ a6) (Y7E hy0) (aFW (c:=ci (Y04)) (by rw[fL];exact s1 _ _ hq0) e1 λH2 e2 b2=>?_);refine Yw;intro η n_;have S2:aT H H2:=aT.thru ζ s1 b2;refine Y1Q (by simp) (S2 _ _ φ) a2;refine Y1A ua (S2 _ _ a7) (Y7w (ρ.map FI) (λ_ y _=>y=.int 0) (by rw[aA];exact Oo) (S2 _ _ a7) (λi y H' Q' hy s' k'=>k' _ H' (Y08) rfl) (λrt ys H3 ε e3 s3 hl hr3=>?_));refine Yw;intro η n_;rw[aA,ul]at hl;rw[mI (g:=Y3x) hl hr3]at e3;have S3:=S2.trans s3;refine Y1Q (by simp) (S3 _ _ φ) a1;refine Y1A ra (S3 _ _ a6) ?_;have nra:rt≠G:=λz=>by rw[z,e2]at ε;cases ε
 have rtH:H rt=none:=S2.free ε
 let flA:Y0K:=aX F ((rise F M).map (oO W m))
 refine mG (xs:=vs) (λi σ H'=>Ex7 λ(o5 o6 o7 ι:Am) (p:List (List fS × V)) (ct:Int) (Y:Nat->Int)=>An7 (σ=[Y3 x,Y3 bp,Y3 G,Yg ct,Y3 rt,o5,o6,o7,ι]) (Y1) (H' G=Y07 p) (H' rt=Yl ((dF W Y).map V.int)) (AmD p (aX F (((rise F M).take i).map (oO W m))) (4*i)) ((ct:Rat)=(cu:Rat)*Y3E ((rise F M).take i) ((if m c=0 then 1 else 0)*(flA c*CC W ss mix cs c))) (∀(v u:Nat),ρ[v]?=Yo->(Y v:Rat)=(u:Rat)*Y3E ((rise F M).take i) ((if m c=1+v then 1 else 0)*(flA c*Y2g v))))
  ⟨_,_,_,_,_,0,Y3x,rfl,S3,s3 _ _ e2,e3,?_,?_,?_⟩ (Yat) ?_ ?_
 ·refine⟨Y6j,by show 1<=_;exact Oo⟩;have R:gD [(Y2R Y04,V.int 1)] (Y2R d)=if d=Y04 then Yg 1 else none:=by
   rw[show[(kT (ci (List.replicate F 0)),V.int 1)]=kA [] (kT (ci (List.replicate F 0))) (.int 1)from rfl,iC];by_cases e:d=Y04
   ·rw[if_pos (by rw[e]),Y1T]
   ·rw[Y2t (e (Y3C z)),Y0Y];rfl
  unfold sP;rw[R,List.take_zero,List.map_nil,lL];by_cases e:d=Y04
  ·rw[Y1T,Y1T];exact Y00 (Y2k 1 rfl) Dd
  ·rw[Y0Y,Y0Y];exact Y00 Y77 Dd
 ·rw[List.take_zero,jK];grind
 ·intro v u _;rw[List.take_zero,jK];grind
 ·obtain⟨_,_,_,_,_,_,_,_,S',_⟩:=q;exact gH.of (S' _ _ a6)
 ·rintro i y σ H4 hy ⟨o5,o6,o7,ι,p,ct,Y,rfl,S4,ο,N,α,ψ,τ⟩;refine Y9W;intro η n_;obtain⟨cc,hc,rc0⟩:=fC κ hy;obtain⟨ac,rfl,S⟩:=iG rc0;have J:=aE hc;have X:=(gA f1).mp J;obtain⟨hi,ei⟩:=aB.mp hc;have L:(rise F M).take (i+1)=(rise F M).take i++[cc]:=by rw[List.take_succ,hc];rfl
  have fla:(sP p cc:Rat)=flA cc:=by rw[(α.ok cc).2.1,TJ f1 f4 m5 hc]
  have b5:i<400:=Oo;have gz:(sP p cc).natAbs<Y0W:=aK ((α.ok cc).2.2) (YdW Oo);refine⟨_,rfl,G,rfl,?_,_,rfl,_,dgI (cc:=cc) ο (S4 _ _ S),?_⟩
  ·exact Y2W p (.inl ο)
  have eg:(gD p (kT (ci cc))).getD (.int 0)=.int (sP p cc):=by
   unfold sP;rcases(α.ok cc).1 with⟨n,e⟩ | e <;> rw[e] <;> rfl
  refine Yw;intro η n_;rw[eg];refine Y05 (Y5x (S4 _ _ hbp) cc (by rw[fL];exact S4 _ _ S) (B.1 cc J) ?_);refine Y6K;by_cases hb0:m cc=0
  ·rw[show decide (V.int ((m cc:Nat):Int)=V.int 0)=true by rw[xL,hb0];rfl];refine oI (Yr);intro η n_;have hah:cc∈ahd F M:=fY.mpr ⟨J,cO (I.on cc hb0)⟩;obtain⟨m2,hm2,em2⟩:=a11.yes cc hah;refine Y2E (Y4A O (by simp) (S4 _ _ φ) a5);refine Y6 (Y5x (S4 _ _ a10) cc (by rw[fL];exact S4 _ _ S) hm2 ?_);refine Y4k _ gz (I.zc cc hah m2 em2) (Y5N _ Y9);refine fV.i (wA (S4 _ _ S)) (by have:=X.1;exact Oo) λD ms H5 hD ξ r5 υ=>?_;have lms:ms.length=F:=by rw[r5.len,aA,aA,aW];exact X.1
   have nDa:D≠G:=λz=>by rw[z,ο]at hD;cases hD
   refine Y1A D ξ (mG (xs:=ms) (λj σ H'=>Ex2 λ(ι:Am) (C:List (List fS × V))=>An4 (σ=[Y3 x,Y3 bp,Y3 G,Yg (ct+sP p cc*m2),Y3 rt,Y3 ac,Yg (sP p cc),Yg ((m cc:Nat):Int),ι]) (aU G H5 H') (H' G=Y07 C) (AmD C (λd=>Y2f (((rise F M).take i).map (oO W m))+(sP p cc:Rat)*TB j cc d) (4*i+j))) (Y7s _ p ((Y08).but) (υ _ _ ο) (α.more (λd=>by unfold TB;rw[gU];grind) Oo)) (YdD) ?_ ?_)
   ·obtain⟨_,_,_,b',_⟩:=q;exact Ycy nDa ξ
   ·rintro j y2 σ H6 hy2 ⟨ι,C,rfl,b6,γ,A6⟩;refine Y5A;intro η;obtain⟨c2,χ,rc2⟩:=fC (g:=λc=>uZ c) r5 hy2;have hj:j<cc.length:=by have:=(aB.mp hy2).1;have:=X.1;exact Oo
    rw[aG,bM hj]at χ;cases χ;obtain⟨a2,rfl,ν⟩:=iG rc2;have n2:a2≠G:=λz=>by rw[z,υ _ _ ο]at ν;cases ν
    have β:=b6.at n2 ν;refine⟨_,rfl,G,rfl,Y2W C (.inl γ),_,rfl,_,dgI (cc:=cG cc j) γ β,?_⟩;have eg2:(gD C (kT (ci (cG cc j)))).getD (.int 0)=.int (sP C (cG cc j)):=by
     unfold sP;rcases(A6.ok (cG cc j)).1 with⟨n,e⟩ | e <;> rw[e] <;> rfl
    rw[eg2];refine⟨_,rfl,_,_,rfl,rfl,Y0g⟩;have l6:=A6.len;have hjF:j<F:=by have:=X.1;exact Oo
    refine Y5w γ (cG cc j) (by rw[fL];exact β) Oo (λH7 e7 b7=>Y7s _ _ (b6.trans b7) e7 ?_);exact(A6.put (cG cc j) (a:=sP p cc) (aJ (α.ok cc).2.2 (aI Dd Oo))).more (λd=>by rw[SZ];grind) Oo
   ·rintro σ H6 ⟨ι,C,rfl,b6,γ,A6⟩;rw[lms]at A6;refine⟨_,_,_,_,C,_,Y,rfl,aT.thru ζ (S4.trans υ) b6,γ,b6.at nra (υ _ _ N),A6.more (Y6j) Oo,?_,λv u R=>?_⟩
    ·rw[L,bD];show _=Y2f (((rise F M).take i).map (oO W m)++[oO W m cc]);rw[gG,pA,if_pos hb0,YK];show _=_+Y0k (((rise F M).take i).map (oO W m)) cc*1*Y0S cc;rw[<-(α.ok cc).2.1];grind
    ·rw[L,oK,Rat.intCast_add,Rat.intCast_mul,ψ,em2,fla]
     try dsimp only
     rw[if_pos hb0];grind
    ·rw[L,oK,τ v u R]
     try dsimp only
     rw[Y3y];grind
  ·rw[show decide (V.int ((m cc:Nat):Int)=V.int 0)=false by rw[xL,beq_eq_false_iff_ne];exact Oo];refine nY (Y2B);intro η;obtain⟨v,R⟩:∃v,m cc=1+v:=Y2l (m cc-1);have U:v<W:=by have:=I.bw cc J;exact Oo
   have ev:((m cc:Nat):Int)-1=(v:Int):=Oo;have μ:ρ[v]?=some ρ[v]:=aC Oo;have lta:=a9.1;have ω:tas[v]?=some tas[v]:=aC Oo;obtain⟨kw,hkw,Dw⟩:=a9.2 v _ _ ω μ;obtain⟨m3,hm3,em3⟩:=Dw.yes cc J;refine Y4Q _ _ _ _ rfl ?_;show rIx _ (V.ref rt) (V.int (((m cc:Nat):Int)-1)) H4 _;rw[ev];refine Y47 N (iB U) (Y05 (Y4A O (by simp) (S4 _ _ φ) a3));refine⟨_,rfl,_,_,rfl,rfl,?_⟩;show rIx _ (V.ref wa) (V.int (((m cc:Nat):Int)-1)) H4 _;rw[ev];refine Y47 (S4 _ _ a8) (by rw[aG,ω];rfl) (Y6 (Y5x (S4 _ _ hkw) cc (by rw[fL];exact S4 _ _ S) hm3 ?_));refine Y4k _ gz (I.zw v _ μ cc J m3 em3) (Y5N _ (Y4Q _ _ _ _ rfl ?_));show PD (V.ref rt) (V.int (((m cc:Nat):Int)-1)) _ H4 _;rw[ev];refine stG (j:=v) N (NA (by rw[aA,cR];exact U)) λH5 ξ aa=>?_;have nar:G≠rt:=λz=>nra z.symm;refine⟨_,_,_,_,p,ct,λz=>if z=v then Y v+sP p cc*m3 else Y z,rfl,aT.thru rtH S4 aa,aa.at nar ο,?_,α.more (Y6j) Oo,?_,λz u δ=>?_⟩
   ·rw[ξ];exact congrArg (λl=>some (HO.lst l)) (aBT U)
   ·rw[L,bD];show _=Y2f (((rise F M).take i).map (oO W m)++[oO W m cc]);rw[gG,pA,if_neg hb0];grind
   ·rw[L,oK,ψ]
    try dsimp only
    rw[if_neg hb0];grind
   ·rw[L,oK]
    try dsimp only
    by_cases ez:z=v
    ·subst ez;rw[Yt,if_pos R,Rat.intCast_add,Rat.intCast_mul,τ z u δ,em3,fla];rw[μ]at δ;cases δ;grind
    ·rw[if_neg ez,Y3y,τ z u δ];grind
 ·rintro σ H4 ⟨o5,o6,o7,ι,p,ct,Y,rfl,S4,ο,N,α,ψ,τ⟩;rw[lvs,dL]at ψ τ;refine Y05 (Y4A O (by simp) (S4 _ _ φ) a2);refine Y6 (Y0F ua rt _ _ (S4 _ _ a7) N (kP (b1:=false) (b2:=false) (xs:=ρ.map FI) (ys:=(dF W Y).map V.int) (λj z _=>z=.int ((ρ.getD j 0:Nat)-Y j)) (Y8Z) (by rw[aA];exact Oo) (S4 _ _ a7) N (by rw[aA,aA,cR];exact ul) (λj u v H' Q' hu R s' k'=>?_) (λD zs H5 hD ξ υ δ hr5=>?_)))
  ·have hj:j<W:=by have:=(aB.mp hu).1;rw[aA]at this;exact Oo
   rw[iB hj]at R;cases R;rw[aG,lK 0 Oo]at hu;cases hu;exact Y4Q _ _ _ _ rfl (k' _ H' (Y08) rfl)
  ·rw[aA,ul]at δ;rw[mI δ hr5]at ξ;refine rG (by show 2<=64;decide) λq6 H6 hq6 γ s6=>k q6 D ct _ H6 ((S4.trans υ).trans s6) γ (s6 _ _ ξ) ?_ λv u R=>?_
   ·rw[TU f1 f4 m5];exact ψ
   ·have U:v<W:=by have:=(aB.mp R).1;exact Oo
    rw[SC f1 f4 m5 (hZ ss v) U,pY R,Rat.intCast_sub,τ v u R];have hu:(((u:Nat):Int):Rat)=((u:Nat):Rat):=by push_cast;rfl
    rw[hu];generalize cW (rise F M) (λc=>(if m c=1+v then(1:Rat) else 0)*(aX F ((rise F M).map (oO W m)) c*hZ ss v c))=Z;show(u:Rat)-(u:Rat)*Z=(u:Rat)*(1-Z);grind
end
structure pL(F W M:Nat)(es:Yj):Prop where
 rl:Y1x
 hM:∀e∈es,e.1.sum<=M
 on:∀e∈es,Y3T->e.1.sum<M
 hs:∀e∈es,(∀v,0<=cS e.2 v)/\Y0n (Y0L e.2)=1-Y2
structure QIn(F W:Nat)(q:Y3g):Prop where
 h0:∀w,w<W->q w (Y04)=1
 h1:∀w,w<W->∀c:Ae,Y33->q w c=Y4a (q w (Y0w c))
 nn:∀w,w<W->∀c,0<=q w c
section
variable{F W M:Nat}{es:Yj}{q:Y3g}
def pL.said(A:pL F W M es)(Q:QIn F W q){w:Nat}(hw:w<W):0<=gW F es (q w) w/\gW F es (q w) w<=1:=by
 have nn:∀e∈es,0<=Y8 e.1*q w e.1:=λe _=>cB (A.rl.nnf e.1) (Q.nn w hw e.1);refine Y0A (uH λe a=>cB (nn e a) ((A.hs e a).1 _));rw[<-A.rl.stops (Q.h0 w hw) (Q.h1 w hw)];refine qM λe a=>Rat.mul_le_mul_of_nonneg_left ?_ (nn e a);obtain⟨d,c⟩:=A.hs e a;rw[<-c];have h:=wL (λv=>Y0L e.2) hw;have g:0<=Y4C W (if i=w then 0 else Y3J e.2 i):=uF λi _=>by
  split
  ·exact Rat.le_refl
  ·exact d _
 grind
def kW(M:Nat)(cs:Yy)(k:Nat):Rat:=Y4C (M-k) (cs (k+i))
def VJ{cs:Yy}(h:∀k,0<=cs k)(k:Nat):0<=kW M cs k:=uF λi _=>h _
def LY{cs:Yy}{k:Nat}(h:k<M):kW M cs k=cs k+kW M cs (k+1):=by
 unfold kW;obtain⟨n,a⟩:∃n,M-k=n+1:=Y2l (M-k-1);rw[a,show M-(k+1)=n by exact Oo];clear a h
 induction n with
 | zero=>rw[eL,gU,gU,Nat.add_zero];grind
 | succ n ih=>rw[eL,ih,eL n,show k+1+n=k+(n+1)by exact Oo];grind
def pL.spent(A:pL F W M es)(Q:QIn F W q){cs:Yy}(hc:∀k,0<=cs k){w:Nat}(hw:w<W):0<=gJ F es (q w) cs/\gJ F es (q w) cs<=kW M cs 0:=by
 have nn:∀e∈es,0<=Y8 e.1*q w e.1:=λe _=>cB (A.rl.nnf e.1) (Q.nn w hw e.1);refine Y0A (uH λe a=>cB (hc _) (cB (nn e a) (A.rl.nn e a)));have h:=A.rl.all λc=>q w c*kW M cs c.sum;rw[show(List.replicate F 0).sum=0 by simp,Q.h0 w hw,Rat.one_mul]at h;have j:(Y0E (Y8 e.1*Y2*Y4a (q w (Y0w e.1)*kW M cs (Y0w e.1).sum)))=Y0E (Y8 e.1*q w e.1*Y2*kW M cs (e.1.sum+1)):=cY λe a=>by
  have l:=A.rl.len e a;have:(Y4a (q w (Y0w e.1)*kW M cs (Y0w e.1).sum))=kW M cs (e.1.sum+1)*q w e.1:=by
   rw[Q.h1 w hw e.1 l,<-eT];exact bR λf s=>by rw[gR Oo,Rat.mul_comm]
  rw[this];grind
 rw[j]at h;have le:Y0E (cs e.1.sum*(Y8 e.1*q w e.1*Y2)+Y8 e.1*q w e.1*Y2*kW M cs (e.1.sum+1))<=cW es λx=>Y8 x.1*(q w x.1*kW M cs x.1.sum):=qM λe a=>by
  have n:=A.rl.nn e a;have g:=VJ (M:=M) hc e.1.sum;have d:=nn e a;have m:Y2<=1:=by
   have:=(A.hs e a).2;have p:0<=Y4C W (Y3J e.2 i):=uF λi _=>(A.hs e a).1 _;grind
  by_cases z:Y2=0
  ·rw[z];have:=cB d g;grind
  ·have t:=LY (cs:=cs) (A.on e a z);have r:=Rat.mul_le_mul_of_nonneg_left m (cB d g);have:cs e.1.sum*(Y8 e.1*q w e.1*Y2)+Y8 e.1*q w e.1*Y2*kW M cs (e.1.sum+1)=Y8 e.1*q w e.1*kW M cs e.1.sum*Y2:=by rw[t];grind
   rw[this];grind
 rw[jX]at le;unfold gJ;grind
def pL.cost(A:pL F W M es)(Q:QIn F W q){mix cs:Yy}(hc:∀k,0<=cs k)(hm:∀w,0<=mix w)(h1:cF W mix=1):0<=fM F W es q mix cs/\fM F W es q mix cs<=kW M cs 0:=by
 unfold fM;refine Y0A (uF λw a=>cB (hm w) (A.spent Q hc a).1);have:kW M cs 0=Y0m (kW M cs 0*mix w):=by rw[eT,h1,Rat.mul_one]
 rw[this];refine lH λw a=>?_;rw[Rat.mul_comm];exact Rat.mul_le_mul_of_nonneg_right (A.spent Q hc a).2 (hm w)
def OZ{best:Y0B}(hF:1<=F)(f4:F<=4)(m5:M<=5)(on:∀c,Y0z=0->Y1O)(bw:∀c∈rise F M,Y0z<=W):pL F W M (Y1s):=by
 have mem:∀e∈rul F W M best,∃c∈rE F M best,e=oO W best c:=λe a=>by
  obtain⟨c,d,rfl⟩:=aN.mp a;exact Y4n c d
 refine⟨WN hF f4 m5 on,Y7C,λe a h=>?_,Y7C⟩
 ·obtain⟨c,d,rfl⟩:=mem e a;exact(AH hF d).2
 ·obtain⟨c,d,rfl⟩:=mem e a;rw[pA]at h;exact on c (cI λz=>h (if_neg z))
 ·obtain⟨c,d,rfl⟩:=mem e a;have b:=bw c ((jE hF).subset d);rw[pA];refine Y0A (λv=>?_)
  ·show 0<=cS (Y5G W) v;by_cases j:v<1+W
   ·rw[sJ j];split <;> decide
   ·unfold cS;rw[aR,cA (by unfold zR;rw[aA,aW];exact Oo)];show 0<=rv (0,1);rw[nG];exact Rat.le_refl
  ·show Y0n (Y0L (Y5G W))=_;rw[bR (g:=λv=>if 1+v=Y0z then 1 else 0) λv j=>sJ Oo];by_cases z:Y0z=0
   ·rw[if_pos z,Y7x (λv j=>Y3y),iW];grind
   ·rw[if_neg z,BI (v:=Y0z-1) Oo λi m l=>Y3y,Y6a];grind
end
abbrev aDX:Stmt:=(top 79)
def NO:Yd ["weighing","master","rates","factors","way","factor","best","column"] ["weighing","master"] aDX:={}
structure UF(F W M:Nat)(ss:Aj)(mix ps cs:Ak)(Ns Nm Np Nc B:Nat)(us:Ae)(cu X:Nat):Prop where
 wo:lA F W M ss mix ps cs Ns Nm Np Nc B
 r4:(Y0d).length<=400
 ul:Y3d W
 uz:∀u∈us,0<u/\u<Y0t
 cuz:cu<Y0t
 q:QIn F W (hZ ss)
 cz:∀es,pL F W M es->∀n:Int,(n:Rat)=(cu:Rat)*Y4R F W es->n.natAbs<2^X
 zc:∀c∈ahd F M,∀n:Int,(n:Rat)=CC W ss mix cs c*(cu:Rat)->n.natAbs<Y0W
 zw:∀(v:Nat) (u:Nat),us[v]?=Yo->∀c∈rise F M,∀n:Int,(n:Rat)=Y2g v*(u:Rat)->n.natAbs<Y0W
structure OA(F W M:Nat)(ss:Aj)(mix cs:Ak)(us:Ae)(cu:Nat)(best:Y0B)(a:Y0)(k:Int):Prop where
 bw:∀c∈rise F M,Y0z<=W
 on:∀c,Y0z=0->Y1O
 cost:(k:Rat)=(cu:Rat)*Y4R F W Y1s
 col:∀v u:Nat,us[v]?=Yo->(a v:Rat)=(u:Rat)*(1-gW F Y1s (hZ ss v) v)
 one:a W=1
def RH(H:Hp)(F W M:Nat)(ss:Aj)(mix cs:Ak)(us:Ae)(cu:Nat)(a:Y0)(t:oB):Prop :=
 (t.word=Str.ofString "room" /\ t.cost=0/\∃w,w<W/\a=Md.unit w)\/(t.word=Str.ofString "lack" /\ t.cost=0/\a=Md.unit W) \/
 (t.word=Str.ofString "rule" /\ ∃bp kb best,t.v=.ref bp/\H bp=Y07 kb/\UI kb (Y0d) best/\OA F W M ss mix cs us cu best a t.cost)
abbrev jM(W:Nat)(R:Md.fA)(ts:Y0J):Y0:=Md.rat (W+1) R (xR ts)
def pzY(W:Nat)(R:Md.fA)(ts:Y0J)(us:Ae)(w:Nat):Rat:=-(jM W R ts w:Rat)*((us.getD w 0:Nat):Rat)
def SU(ts:Y0J)(p:Int)(cu:Nat):Rat:=((if gF ts=true then 0 else p:Int):Rat)*(cu:Rat)
inductive rB (G A:Addr):Yq
 | i {H:Hp} {Q:VK} {E:XK} {x m sa:Addr} {F W M:Nat} {ss:Aj} {mix ps cs:Ak} {Ns Nm Np Nc B:Nat} {us:Ae} {cu X:Nat} {b:Y0} {R:Md.fA} {p:Int} {uv:Al} {ts:Y0J} {C:Nat} (h1:zU H x G F W M ss mix cs us cu) (h2:uB H A m sa (W+1) b R p uv) (h3:lB H uv ts) (h4:UF F W M ss mix ps cs Ns Nm Np Nc B us cu X) (h5:aAd (W+1) b R p C) (h6:∀t∈ts,t.cost.natAbs<Y0W) (h7:∀k,k<W+1->(jM W R ts k).natAbs<Y0W) (q0:∀H',Y1->(∀w,w<W->jM W R ts w<=0)->((jM W R ts W:Int):Rat)<=Y7e F W M (pzY W R ts us) (SU ts p cu)->Yad) (q1:∀e ca ta a t H',Y1->H' e=Yf [.ref ca,.ref ta]->H' ca=Yl ((dF (W+1) a).map V.int)->xP H' (.ref ta) t->RH H' F W M ss mix cs us cu a t->Ybk "lack" -> p*(if Y1k=true then 0 else t.cost)<Md.dot (W+1) (jM W R ts) a->Y0u e):rB G A [Y2a,.ref m] H Q E
def ZJ(n:Nat)(y:Y0):DX ((dF (n+1) y).map V.int) (-1)=Yg (y n):=by
 have a:SX ((dF (n+1) y).map V.int).length (-1)=Y6H:=by
  rw[aA,cR];unfold SX;rw[Y3y,Y6a];congr 1;exact Oo
 unfold DX;rw[a];exact iB Oo
def aCd{W cu:Nat}{y ns:Y0}{us:Ae}{mz cf k:Int}{cq:Rat}{sd:Yy}(ul:Y3d W)(hm:(mz:Rat)=(cf:Rat)*(cu:Rat)*cq+Y0m ((-(y w:Rat)*((us.getD w 0:Nat):Rat))*(1-sd w)))(hk:(k:Rat)=(cu:Rat)*cq)(hn:∀v u:Nat,us[v]?=Yo->(ns v:Rat)=(u:Rat)*(1-sd v))(hlt:mz<y W):cf*k<Md.dot (W+1) y λr=>if r<W then ns r else 1:=by
 have d:(Y0m ((-(y w:Rat)*((us.getD w 0:Nat):Rat))*(1-sd w)))=-1*Y0m ((y w*ns w:Int):Rat):=by
  rw[<-eT];refine bR λw a=>?_;have c:us[w]?=some (us[w]'Oo):=aC Oo;rw[iL c,Rat.intCast_mul,hn w _ c];grind
 rw[d,<-Md.rN]at hm;have h:mz=cf*k-Md.dU W (λw=>y w*ns w):=by
  have:(mz:Rat)=((cf*k-Md.dU W (λw=>y w*ns w):Int):Rat):=by
   rw[hm,Rat.intCast_sub,Rat.intCast_mul,hk];grind
  exact_mod_cast this
 have e:Md.dot (W+1) y (λr=>if r<W then ns r else 1)=Md.dU W (λw=>y w*ns w)+y W:=by
  unfold Md.dot;rw[Md.dU,Md.eC (g:=λw=>y w*ns w) λw a=>by show _*(if w<W then ns w else 1)=_;rw[if_pos a]];show _+y W*(if W<W then ns W else 1)=_;rw[if_neg (bP _),Int.mul_one]
 exact Oo
def aFj{K:Aa}{ns:Ah}{C m sa:Addr}{H:Hp}{n:Nat}{b:Y0}{R:Md.fA}{p:Int}{uv:Al}{ts:Y0J}{σ:St}{k:VK}(O:Own K C ns)(hn:("parts" : Str)∈ns)(ma:uB H C m sa n b R p uv)(th:lB H uv ts)(n8:n<=8)(hσ:σ[1]?=Y4t m)(hk:∀H',Y1->k (.int (if Y1k=true then 0 else p)) H'):tIf (tB (yY (lX C) [] E0 (pP (VL 1) IJ))) (tC (.int 0)) (VM K (VL 1) "parts") σ H k:=by
 refine Y0b _ hσ;refine lX.i ma th n8 λH4 a=>Y9;have h:=hk H4 a;cases eb:Y1k with
 | true =>
  rw[eb]at h;exact oI h
 | false =>
  rw[eb]at h;refine nY ?_;obtain⟨e,c,d,LL⟩:=(ma.same a).ex;exact Y0U hσ (jT O hn d (CB c sa p) h)
section
def aIf(F:Yb "better" "better" aDX)(T:Ye)(FQ58:Y2Q "rates_of" a23 (mU c.Master))(FQ31:Y01 "factors_of" ["rates"] mY)(FQ47:Y01 "one_among" a35 qS)(FQ19:Y2Q "best_places" a24 (wY c.Weighing))(FQ37:Y01 "lacks" a23 (lX c.Master))(FQ21:Y2Q "column_by" a12 (wV c.Weighing)):dO P w K mg base cV 4 f fd ["weighing","master"] (rB c.Weighing c.Master):=by
 refine Y1j NO;obtain @⟨H,Q,E,x,m,ρ,F,W,M,ss,mix,ps,cs,Ns,Nm,Np,Nc,B,us,η,X,b,R,p,uv,d,C,wg,ma,th,I,Z,zt,zr,q0,q1⟩:=h;refine Y5 (λcdv A χ s hr=>?_);have O:=T.w_Master;have w4:=I.wo.w4;refine⟨_,(aH (Y1D NO.nd (Y0y FQ58 1))
  (aH (Y1t NO.nd (Y0y FQ31 2))
  (aH (Y7B (FW false rfl T.b_enumerate (Y4U 3)) (Y7h 4 NO.nd 5 NO.nd lC) (Y5m (Y1r xD 5 aL) (Y3B (cQ FQ47 (Y8J oA (by rfl) Kk 2) (Y0V)) (dX (Y75 (Y6r "room" T.g_ROOM) aL iV)))))
  (aH (cP (i:=6) NO.nd (lQ FQ19 (Yz) (Y0r) (oS (qB (Y0y FQ37 1)) aL (dM K (aD 1)))))
  (aH (Y5m (eN XM (Y17 6) (Y4m 2 (BD vP aL))) iV)
  (aH (Y2j 7 NO.nd FQ21 0 (Y17 6))
  (Y1c (Y3B (Y7u vR 7 (iQ (Y18 aL))) (dX (bB (Y6r "rule" T.g_RULE) (Y2s (Y17 7) (Y17 6)))))))))))),?_⟩
 refine Yr;intro S δ;refine Y9;refine mU.i ma th Z zt λD1 H1 hD1 κ s1=>Yw;intro S δ;refine Y9;refine mY.i κ Oo λD2 H2 hD2 ξ τ=>Yw;intro S δ;have S2:=s1.trans τ;refine⟨_,rfl,D2,_,rfl,ξ,JU (b:=false) (n:=0) (xs:=(dF W λi=>-jM W R d i).map V.int) (YaB (λ(o4 ω:Am)=>An3 (σ=[Y3 x,Y3 m,Y3 D1,Y3 D2,o4,ω,none,none]) (aT H2 H') (∀w,w<i->jM W R d w<=0))) (Y0h _ _ Y08 (λw hw=>Oo)) (λi σ H' p=>?_) ?_ ?_⟩
 ·obtain⟨_,_,_,s',_⟩:=p;exact s' _ _ ξ
 ·rintro i y pq σ H3 H4 hy ⟨o4,ω,rfl,G,all⟩ hpq e4 L;have ε:i<W:=by have:=(aB.mp hy).1;rw[aA,cR]at this;exact this
  rw[iB ε]at hy;cases hy;have S4:=(S2.trans G).trans L;rw[Int.zero_add]at e4;refine⟨pq,[.int (i:Int),.int (-jM W R d i)],rfl,jA.of e4,rfl,_,_,rfl,_,_,rfl,rfl,Y2B⟩;intro S;refine⟨_,rfl,_,_,rfl,rfl,_,rfl,?_⟩;by_cases α:-jM W R d i<0
  ·rw[show decide (-jM W R d i<0)=true from cO α];refine oI (Y6 (rlL ((G.trans L) _ _ (τ _ _ κ)) ?_));rw[aA,cR];refine Y9;refine qS.i Oo λD5 H5 hD5 J ι=>rG (by show 3<=64;decide) λD6 H6 hD6 γ N=>rG (by show 2<=64;decide) λD7 H7 hD7 ν l=>?_;have J:H5 D5=Yl ((dF (W+1) (Md.unit i)).map V.int):=J;refine q1 D7 D5 D6 (Md.unit i) (Y9b "room" 0 .non) H7 (((S4.trans ι).trans N).trans l) ν ((N.trans l) _ _ J) (Y00 D6 (l _ _ γ)) (.inl ⟨rfl,rfl,i,ε,rfl⟩) Dd ?_;rw[Md.xJ Oo];show p*(if gF d=true then 0 else 0)<_;rw[ite_self,Int.mul_zero];exact Oo
  ·rw[show decide (-jM W R d i<0)=false from bT α];refine nY (Y0h (Yg (i:Int)) (Yg (-jM W R d i)) (G.trans L) (λw hw=>?_));by_cases e:w=i
   ·subst e;exact Oo
   ·exact all w Oo
 ·rintro σ H3 ⟨o4,ω,rfl,G,all⟩;refine Y4z;intro S δ;rw[aA,cR]at all;have S3:=S2.trans G;refine Y0g;refine aFj O (by simp) (ma.same S3) (th.same S3) Oo rfl λH4 L=>?_;have S4:=S3.trans L;generalize hcf:(if gF d=true then 0 else p:Int)=cf;have β:SU d p η=(cf:Rat)*(η:Rat):=by unfold SU;rw[hcf]
  have μ:cf.natAbs<Y0W:=by
   rw[<-hcf];split
   ·exact Y5X
   ·exact Y5y Z.pz Z.c4
  have FZ:FcZ W us η (dF W λi=>-jM W R d i) cf (pzY W R d us) (SU d p η):=by
   refine⟨cR _ _,I.ul,λi f u ψ hu=>?_,β.symm,μ,λu hu=>(I.uz u hu).2,I.cuz⟩;have ε:i<W:=by have:=(aB.mp ψ).1;rw[cR]at this;exact this
   rw[KJ ε]at ψ;cases ψ;refine⟨?_,by rw[Int.natAbs_neg];exact zr i Oo⟩;unfold pzY;rw[iL hu,Rat.intCast_neg]
  refine wY.i (wg.same S4) ((G.trans L) _ _ ξ) I.wo FZ I.r4 λbt bp mz kb bs H5 ι J ep B5 hb hm=>Yw;intro S δ;have S5:=S4.trans ι;refine Y0T J;refine Y05 (xS ((G.trans (L.trans ι)) _ _ (τ _ _ κ)) (ZJ W _) ?_);refine Y5i _ _ _ ?_;by_cases hge:jM W R d W<=mz
  ·rw[show decide (jM W R d W<=mz)=true from cO hge];refine oI (Y2B);intro S;exact q0 H5 S5 all (by rw[<-hm];exact_mod_cast hge)
  ·rw[show decide (jM W R d W<=mz)=false from bT hge];refine nY (Y86 J);have Y:∀c∈rise F M,bs c<=W/\(bs c=0->Y1O):=λc g=>by
    rcases hb c g with⟨h1,h2,_⟩ | ⟨v,h1,h2,_⟩
    ·exact⟨Oo,λ_=>h2⟩
    ·exact⟨Oo,λz=>Oo⟩
   obtain⟨a,j⟩:∃a:Ae->Nat,a=λc=>if Y3G c then bs c else 1:=Y3w
   have θ:∀c∈rise F M,a c=bs c:=λc g=>by rw[j];exact if_pos g
   have bw:∀c∈rise F M,a c<=W:=λc g=>by rw[θ c g];exact(Y c g).1
   have φ:∀c,a c=0->Y1O:=λc h=>by
    by_cases g:Y3G c
    ·rw[θ c g]at h;exact(Y c g).2 h
    ·rw[j]at h;simp only[if_neg g]at h;exact Oo
   have B6:UI kb (Y0d) a:=⟨λc g=>by rw[θ c g];exact B5.1 c g,B5.2⟩;have α:=KS I.wo.f1 I.wo.f4 I.wo.m5 φ (λc g=>by rw[θ c g];exact hb c g) I.q.h0 I.q.h1;rw[<-hm]at α;refine wV.i (wg.same S5) ep B6 ⟨I.wo.f1,I.wo.f4,I.wo.m5,w4,I.r4,bw,φ,I.zc,I.zw⟩ λct D6 k ns H6 N γ υ hk U=>Y9;refine lG γ rfl (DT (by show 1<=64;decide) λD7 H7 hD7 ν l=>?_);refine NN (l _ _ υ) ν (by rw[aA,cR];show W+1<=1000;exact Oo) λD8 H8 hD8 e8 ζ=>Y9;refine lG ((l.trans ζ) _ _ γ) rfl (Y0T ((N.trans (l.trans ζ)) _ _ J));refine rG (by show 3<=64;decide) λD9 H9 hD9 e9 s9=>rG (by show 2<=64;decide) λDa Ha hDa ea ρ=>?_;have D:=s9.trans ρ;have ec:(dF W ns).map V.int++[V.int 1]=(dF (W+1) λr=>if r<W then ns r else 1).map V.int:=by
    unfold dF;rw[List.range_succ,bD,bD,bE,List.map_nil,if_neg (bP _)];congr 2;exact fO λr hr=>(if_pos (cC.mp hr)).symm
   rw[ec]at e8;have ο:=aCd (cf:=cf) (y:=jM W R d) I.ul (by rw[α,β];rfl) hk U Oo;refine q1 Da D8 D9 _ (Y9b "rule" k (.ref bp)) Ha ((S5.trans N).trans ((l.trans ζ).trans D)) ea (D _ _ e8) (Y00 D9 (ρ _ _ e9)) (.inr (.inr ⟨rfl,bp,kb,a,rfl,((N.trans (l.trans ζ)).trans D) _ _ ep,B6,bw,φ,hk,λv u hv=>?_,?_⟩)) (by show (Str.ofString "rule")≠(Str.ofString "lack");decide) ?_
   ·have aa:v<W:=by have:=(aB.mp hv).1;rw[I.ul]at this;exact this
    rw[if_pos aa];exact U v u hv
   ·rw[if_neg (bP _)]
   ·show p*(if gF d=true then 0 else k)<_;have:p*(if gF d=true then 0 else k)=cf*k:=by
     rw[<-hcf];split
     ·rw[Int.mul_zero,Int.zero_mul]
     ·rfl
    rw[this];exact ο
end
def uW{ts:Y0J}:Y1k=true ↔ ∃t∈ts,t.word=Str.ofString "lack" := by
 unfold gF;rw[List.any_map];simp[List.any_eq_true]
def aAV{ts:Y0J}{t:oB}{o i:Nat}(ho:o<ts.length)(nl:Ybk "lack")(e:gF (Y5F t)=Y1k):xR (Y5F t) i=Md.sc (xR ts) o (if Y1k=true then 0 else t.cost) i:=by
 unfold xR Md.sc;rw[e];by_cases h:i=o
 ·subst h;rw[Yt,List.getElem?_set_self ho];cases Y1k
  ·rfl
  ·show(if Y8D "lack"=true then(1:Int) else 0)=0;rw[if_neg (by rw[bT nl];decide)]
 ·rw[Y5D,Ybt (h z.symm)]
def SS{ts:Y0J}{t:oB}{o:Nat}(nl:Ybk "lack")(h:gF (Y5F t)=true):Y1k=true:=by
 obtain⟨x,a,e⟩:=uW.mp h;rcases List.mem_or_eq_of_mem_set a with g | g
 ·exact uW.mpr ⟨x,g,e⟩
 ·rw[g]at e;exact absurd e nl
structure zV(F W M:Nat)(ss:Aj)(mix ps cs:Ak)(Ns Nm Np Nc B:Nat)(us:Ae)(cu X:Nat)(U e:Nat)(b:Y0):Prop where
 sl:UF F W M ss mix ps cs Ns Nm Np Nc B us cu X
 uU:∀u∈us,u<=U
 u1:1<=U
 bU:∀r,r<W+1->0<=b r/\(b r).natAbs<=U
 bW:b W=1
 Ue:U<=2^e
 sz:6*e+X+20<=4000
structure iN(H:Hp)(F W M:Nat)(ss:Aj)(mix cs:Ak)(us:Ae)(cu:Nat)(b:Y0)(B R:Md.fA)(p:Int)(ts:Y0J):Prop where
 mst:Md.Mst (W+1) b B R p
 len:ts.length=W+1
 fit:∀i t,ts[i]?=some t->RH H F W M ss mix cs us cu (B i) t
section
variable{F W M:Nat}{ss:Aj}{mix ps cs:Ak}{Ns Nm Np Nc BB:Nat}{us:Ae}{cu X U e:Nat}{b:Y0}{H H':Hp}{B R:Md.fA}{p:Int}{ts:Y0J}
def RH.to(h:∀bp kb,H bp=Y07 kb->H' bp=Y07 kb){a:Y0}{t:oB}(x:RH H F W M ss mix cs us cu a t):RH H' F W M ss mix cs us cu a t:=by
 rcases x with x | x | ⟨e,bp,kb,c,d,g,i⟩
 ·exact .inl x
 ·exact Y8w x
 ·exact .inr (.inr ⟨e,bp,kb,c,d,h _ _ g,i⟩)
def GC{w r:Nat}:0<=Md.unit w r/\(Md.unit w r).natAbs<=1:=by unfold Md.unit;split <;> decide
def OA.any(I:UF F W M ss mix ps cs Ns Nm Np Nc BB us cu X){best:Y0B}{a:Y0}{k:Int}(h:OA F W M ss mix cs us cu best a k):pL F W M (Y1s):=OZ I.wo.f1 I.wo.f4 I.wo.m5 h.on h.bw
theorem RH.col(Z:zV F W M ss mix ps cs Ns Nm Np Nc BB us cu X U e b){a:Y0}{t:oB}(h:RH H F W M ss mix cs us cu a t){r:Nat}(hr:r<W+1):0<=a r/\(a r).natAbs<=U:=by
 have u1:=Z.u1;rcases h with⟨_,_,w,y,rfl⟩ | ⟨_,_,rfl⟩ | ⟨_,p,n,d,_,_,_,R⟩
 ·have:=GC (w:=w) (r:=r);exact Oo
 ·have:=GC (w:=W) (r:=r);exact Oo
 ·by_cases e:r=W
  ·subst e;rw[R.one];exact Y8U u1
  ·have hr:r<W:=Oo;have i:us[r]?=some (us[r]'(by rw[Z.sl.ul];exact hr)):=aC _;have c:=R.col r _ i;have j:=Z.uU _ (aE i);obtain⟨s0,A⟩:=(R.any Z.sl).said Z.sl.q hr;generalize us[r]'(by rw[Z.sl.ul];exact hr)=u at c j;have g:(0:Rat)<=(u:Rat):=by exact_mod_cast cK u
   have m:(0:Rat)<=(a r:Rat):=by rw[c];exact cB g (by grind)
   have l:(a r:Rat)<=(u:Rat):=by
    rw[c];have:=Rat.mul_le_mul_of_nonneg_left (a:=1-gW F (rul F W M d) (hZ ss r) r) (b:=1) (by grind) g;grind
   have z:0<=a r:=by exact_mod_cast m
   have s:a r<=(u:Int):=by
    have:(a r:Rat)<=((u:Int):Rat):=by rw[Rat.intCast_natCast];exact l
    exact_mod_cast this
   exact Oo
theorem RH.one{a:Y0}{t:oB}(h:RH H F W M ss mix cs us cu a t):∃r,r<W+1/\0<a r:=by
 rcases h with⟨_,_,w,d,rfl⟩ | ⟨_,_,rfl⟩ | ⟨_,g,e,c,_,_,_,R⟩
 ·exact⟨w,Oo,by unfold Md.unit;rw[Yt];decide⟩
 ·exact⟨W,Oo,by unfold Md.unit;rw[Yt];decide⟩
 ·exact⟨W,Oo,by rw[R.one];decide⟩
theorem RH.cost(I:UF F W M ss mix ps cs Ns Nm Np Nc BB us cu X){a:Y0}{t:oB}(h:RH H F W M ss mix cs us cu a t):t.cost.natAbs<2^X:=by
 rcases h with⟨_,h,_⟩ | ⟨_,h,_⟩ | ⟨_,e,d,c,_,_,_,R⟩
 ·rw[h];exact Y5X
 ·rw[h];exact Y5X
 ·exact I.cz _ (R.any I) _ R.cost
abbrev PB(W U:Nat):Nat:=Md.fac (W+1)*U^(W+1)
abbrev RB(W U:Nat):Nat:=(W+1)*(PB W U*U)
abbrev ZB(W U X:Nat):Nat:=(W+1)*(2^X*RB W U)
def aIB{n:Nat}(h:n<=5):Md.fac n<=2^7:=by
 have:n=0\/n=1\/n=2\/n=3\/n=4\/n=5:=Oo;rcases this with rfl | rfl | rfl | rfl | rfl | rfl <;> decide
def zV.zb(Z:zV F W M ss mix ps cs Ns Nm Np Nc BB us cu X U e b):ZB W U X<Y0W:=by
 have w4:=Z.sl.wo.w4;have a:U^(W+1)<=2^(5*e):=by
  refine aJ (Nat.pow_le_pow_left Z.Ue _) ?_;rw[<-Nat.pow_mul];exact aI Dd (by rw[Nat.mul_comm];exact bO _ Oo)
 have c:PB W U*U<=2^7*2^(5*e)*2^e:=Nat.mul_le_mul (Nat.mul_le_mul (aIB Oo) a) Z.Ue;have d:ZB W U X<=2^3*(2^X*(2^3*(2^7*2^(5*e)*2^e))):=Nat.mul_le_mul Oo (dY _ (Nat.mul_le_mul Oo c));refine aK d ?_;rw[<-Nat.pow_add,<-Nat.pow_add,<-Nat.pow_add,<-Nat.pow_add,<-Nat.pow_add];exact YdW (by have:=Z.sz;exact Oo)
def aCQ{W U:Nat}(u1:1<=U):PB W U<=RB W U:=aJ (YcP u1) (Y5U YaL)
def aGB{W U X:Nat}:2^X*RB W U<=ZB W U X:=Y5U YaL
def aAb{W U X:Nat}:RB W U<=ZB W U X:=aJ (Y5U Y5X) aGB
def iN.at(S:iN H F W M ss mix cs us cu b B R p ts){i:Nat}(hi:i<W+1):∃t,ts[i]?=some t/\RH H F W M ss mix cs us cu (B i) t :=
 Y0U (aC (by rw[S.len];exact hi)) (S.fit i _ (aC _))
theorem iN.size(Z:zV F W M ss mix ps cs Ns Nm Np Nc BB us cu X U e b)(S:iN H F W M ss mix cs us cu b B R p ts):p.natAbs<=PB W U/\∀i,i<W+1->∀k,k<W+1->(R i k).natAbs<=PB W U :=
 S.mst.bs.size (λj a r c=>by
  obtain⟨t,_,d⟩:=S.at a;exact(d.col Z c).2) Z.u1
theorem iN.rho(Z:zV F W M ss mix ps cs Ns Nm Np Nc BB us cu X U e b)(S:iN H F W M ss mix cs us cu b B R p ts){i k:Nat}(hi:i<W+1)(hk:k<W+2):(Y1z (W+1) i k).natAbs<=RB W U:=by
 cases k with
 | zero=>exact Md.QP ((S.size Z).2 i hi) λk hk=>(Z.bU k hk).2
 | succ k=>exact aJ ((S.size Z).2 i hi k Oo) (aCQ Z.u1)
def iN.rt(Z:zV F W M ss mix ps cs Ns Nm Np Nc BB us cu X U e b)(S:iN H F W M ss mix cs us cu b B R p ts){i:Nat}(hi:i<W+1):(xR ts i).natAbs<=2^X:=by
 obtain⟨t,a,f⟩:=S.at hi;unfold xR;rw[a];split
 ·split
  ·exact Nat.one_le_two_pow
  ·exact Y0x
 ·exact Nat.le_of_lt (f.cost Z.sl)
theorem iN.zet(Z:zV F W M ss mix ps cs Ns Nm Np Nc BB us cu X U e b)(S:iN H F W M ss mix cs us cu b B R p ts){k:Nat}(hk:k<W+2):(Md.zet (W+1) b R (xR ts) k).natAbs<=ZB W U X:=by
 unfold Md.zet;refine Md.tM λi a=>?_;rw[dD];exact Nat.mul_le_mul (S.rt Z a) (S.rho Z a hk)
def meas(W U X:Nat)(b:Y0)(R:Md.fA)(p:Int)(ts:Y0J):Nat:=(if Y1k=true then(2*(ZB W U X*Md.fac (PB W U))+1)^(W+2) else 0)+Md.msr (ZB W U X) (PB W U) (W+2) (Md.zet (W+1) b R (xR ts)) p
theorem iN.next(Z:zV F W M ss mix ps cs Ns Nm Np Nc BB us cu X U e b)(S:iN H F W M ss mix cs us cu b B R p ts){a:Y0}{t:oB}{o:Nat}(f:RH H F W M ss mix cs us cu a t)(nl:Ybk "lack")(pay:p*(if Y1k=true then 0 else t.cost)<Md.dot (W+1) (jM W R ts) a)(ho:o<W+1)(hs:0<Md.dot (W+1) (R o) a)(hl:Md.aAe (W+1) b R a o) :
  iN H F W M ss mix cs us cu b (Md.st B o a) (Md.xE (W+1) B R o a) (Md.dot (W+1) (R o) a) (Y5F t)/\meas W U X b (Md.xE (W+1) B R o a) (Md.dot (W+1) (R o) a) (Y5F t)<meas W U X b R p ts:=by
 have S':iN H F W M ss mix cs us cu b (Md.st B o a) (Md.xE (W+1) B R o a) (Md.dot (W+1) (R o) a) (Y5F t):=by
  refine⟨S.mst.next ho hs hl,by rw[List.length_set];exact S.len,λi x g=>?_⟩;by_cases h:i=o
  ·subst h;rw[List.getElem?_set_self (by rw[S.len];exact ho)]at g;cases g;rw[Md.iH];exact f
  ·rw[Ybt (h z.symm)]at g;rw[Md.lW h];exact S.fit i x g
 refine Y0A S';have l:=S.mst.bs.pos;have y:=(S.size Z).1;have s:=(S'.size Z).1;by_cases eb:gF (Y5F t)=Y1k
 ·unfold meas;rw[eb];refine Nat.add_lt_add_left (Md.aEM (λi d=>S.zet Z d) (λi d=>S'.zet Z d) l Oo hs Oo ?_) _;have h:=S.mst.cheaper ho (a:=a) (c:=xR ts) (x:=if Y1k=true then 0 else t.cost) (by rw[Md.aBq];exact pay);refine Md.gL (λk r=>?_) h;congr 2;unfold Md.zet;exact Md.eC λi d=>by rw[aAV (by rw[S.len];exact ho) nl eb]
 ·have j:Y1k=true:=by
   cases h:Y1k with
   | true=>rfl
   | false =>
    cases h':gF (Y5F t)with
    | true=>rw[SS nl h']at h;exact Y6g h
    | false=>rw[h,h']at eb;exact Y7H eb
  have n:Yx (gF (Y5F t)):=by
   cases h:gF (Y5F t)with
   | true=>rw[h,j]at eb;exact Y7H eb
   | false=>rfl
  unfold meas;rw[j,n,Yt,Y2T,Nat.zero_add];refine aO (Md.WS Ybf) (Y98 _);obtain⟨q,_,m,_,w,u⟩:=Md.vU (S'.zet Z d) hs (P:=PB W U) Oo;rw[m];exact Oo
end
abbrev aDk:Stmt:=(top 75)
def TX:Yd ["weighing","bounds","ends","own","master","entering"] ["weighing","bounds"] aDk:={}
inductive sB (K:Aa) (G A:Addr):Yq
 | i {H:Hp} {Q:VK} {E:XK} {x ba:Addr} {bx:Al} {bs:Ak} {F W M:Nat} {ss:Aj} {mix ps cs:Ak} {Ns Nm Np Nc BB:Nat} {us:Ae} {cu X U e:Nat} {b:Y0} (h1:zU H x G F W M ss mix cs us cu) (h2:H ba=Yf bx) (h3:wE K H bs bx) (h4:bs.length=W) (h5:∀(i:Nat) (f:Fr) (u:Nat),bs[i]?=Y5Q->us[i]?=Yo->Y0l/\Y3O/\f.2.natAbs ∣ u/\(b i:Rat)=rv f*(u:Rat)) (h6:zV F W M ss mix ps cs Ns Nm Np Nc BB us cu X U e b) (k:∀m sa B R p uv ts H',Y1->uB H' A m sa (W+1) b R p uv->lB H' uv ts->iN H' F W M ss mix cs us cu b B R p ts->(∀w,w<W->jM W R ts w<=0)->((jM W R ts W:Int):Rat)<=Y7e F W M (pzY W R ts us) (SU ts p cu)->Y0u m):sB K G A [Y2a,.ref ba] H Q E
section
variable{F W M:Nat}{ss:Aj}{mix ps cs:Ak}{Ns Nm Np Nc BB:Nat}{us:Ae}{cu X U e:Nat}{b:Y0}{H H':Hp}{B R:Md.fA}{p:Int}{ts:Y0J}
def iN.masz(Z:zV F W M ss mix ps cs Ns Nm Np Nc BB us cu X U e b)(S:iN H F W M ss mix cs us cu b B R p ts):aAd (W+1) b R p 4000 :=
 ⟨by have:=Z.sl.wo.w4;exact Oo,λi a k c=>aK (S.rho Z a c) (aK aAb Z.zb),aK (S.size Z).1 (aK (aCQ Z.u1) (aK aAb Z.zb)),Yp⟩
def iN.ratz(Z:zV F W M ss mix ps cs Ns Nm Np Nc BB us cu X U e b)(S:iN H F W M ss mix cs us cu b B R p ts){k:Nat}(hk:k<W+1):(jM W R ts k).natAbs<Y0W:=aK (S.zet Z (k:=k+1) Oo) Z.zb
def iN.costz(Z:zV F W M ss mix ps cs Ns Nm Np Nc BB us cu X U e b)(S:iN H F W M ss mix cs us cu b B R p ts):∀t∈ts,t.cost.natAbs<Y0W:=λt c=>by
 obtain⟨i,a⟩:=List.getElem?_of_mem c;exact Y5y ((S.fit i t a).cost Z.sl) (by have:=Z.sz;exact Oo)
theorem iN.to(h:∀bp kb,H bp=Y07 kb->H' bp=Y07 kb)(S:iN H F W M ss mix cs us cu b B R p ts):iN H' F W M ss mix cs us cu b B R p ts:=⟨S.mst,S.len,λi t a=>(S.fit i t a).to h⟩
def XS{n:Nat}(hb:∀r,r<n->0<=b r):Md.Mst n b Md.unit Md.unit 1:=by
 refine⟨Md.aCc n,λi c=>?_⟩;have d:Md.rho n b Md.unit i 0=b i:=by
  show Md.dU n (λk=>Md.unit i k*b k)=b i;rw[Md.jY c λk _ a=>by unfold Md.unit;rw[if_neg a,Int.zero_mul]];unfold Md.unit;rw[Yt,Int.one_mul]
 have e:=hb i c;by_cases h:b i=0
 ·refine⟨i+1,Oo,λk a=>?_,by show 0<Md.unit i i;unfold Md.unit;rw[Yt];decide⟩;cases k with
  | zero=>rw[d,h]
  | succ k=>show Md.unit i k=0;unfold Md.unit;rw[Y3y]
 ·exact⟨0,Oo,λk a=>Oo,by rw[d];exact Oo⟩
def aCS(H:Hp)(F W M:Nat)(ss:Aj)(mix cs:Ak)(us:Ae)(cu:Nat)(R:Md.fA)(p:Int)(ts:Y0J)(v:V):Prop :=
 (v=.non/\(∀w,w<W->jM W R ts w<=0)/\((jM W R ts W:Int):Rat)<=Y7e F W M (pzY W R ts us) (SU ts p cu)) \/
 ∃e ca ta a t,v=.ref e/\H e=Yf [.ref ca,.ref ta]/\H ca=Yl ((dF (W+1) a).map V.int)/\xP H (.ref ta) t/\RH H F W M ss mix cs us cu a t/\Ybk "lack" /\ p*(if Y1k=true then 0 else t.cost)<Md.dot (W+1) (jM W R ts) a
theorem lB.set{uv:Al}(h:lB H uv ts){u:V}{t:oB}(ht:xP H u t)(o:Nat):lB H (uv.set o u) (Y5F t):=by
 refine⟨by rw[List.length_set,List.length_set];exact h.len,λi v x a c=>?_⟩;rw[List.getElem?_set]at a c;by_cases e:o=i
 ·rw[Y1T]at a c;have:=h.len;by_cases l:o<uv.length
  ·rw[if_pos l]at a;rw[Y6a]at c;cases a;cases c;exact ht
  ·rw[if_neg l]at a;cases a
 ·rw[Y0Y]at a c;exact h.at_ i v x a c
def MZ{H0:Hp}{x sa:Addr}(s:aT H0 H)(hx:H0 x=none)(hs:H0 sa=none)(k:aAg x sa H H'):aT H0 H':=λa o h =>
 k a o (λz=>by rw[z,hx]at h;cases h) (λz=>by rw[z,hs]at h;cases h) (s _ _ h)
end
section
def aHz(F:Yb "settled" "settled" aDk)(T:Ye)(FQ67:Y01 "times_whole" a44 (oM K))(FQ0:FnO P w K mg base 2 c.Master a16 (wS c.Master))(FQ20:Y1n 4 "better" ["weighing","master"] (rB c.Weighing c.Master))(FQ1:FnM P w K mg base 3 c.Master "enter" a17 (tP c.Master)):dO P w K mg base cV 5 f fd ["weighing","bounds"] (sB K c.Weighing c.Master):=by
 refine Y1j TX;obtain @⟨H,Q,E,x,ba,bx,bs,F,W,M,ρ,l,ps,υ,Ns,Nm,Np,Nc,BB,β,μ,X,U,e,b,wg,Y,fr,lb,hb,Z,q⟩:=h;refine Y5 (λcdv A outer s δ=>?_);have w4:=Z.sl.wo.w4;have OG:=T.w_Weighing;have O:=T.w_Master;refine⟨_,(aH (wJ (i:=2) (eP.o ["bound","unit"] ["bound","unit"] []) TX.nd rfl rfl (lF true false rfl T.b_zip (Y1S 1 Y1Y)) (Ybl) (λ_ _ _ _=>(Y2A FQ67 0 1)))
  (aH (iP (i:=3) (dB.o ["bound"] []) TX.nd rfl rfl (tG (Y0f)) Ybl (λ_ _ _ _=>dX (bB (Y6r "room" T.g_ROOM) (Y2s aL iV))))
  (aH (Y4u TX.nd (IG FQ0 T.g_Master (δ.mono Dd) (Y2s (Y1R vR 2 (iQ (Y18 aL))) (Y1R vR 3 (iQ (Y18 (dX (Y75 (Y6r "lack" T.g_LACK) aL iV))))))))
  (aH (Y2j 5 TX.nd FQ20 0 Y0V)
  (aH (wI PassesOwn.never (Y1r PU 5 iV) (aH (lP (LO FQ1 T.w_Master.cls (δ.mono Dd) (Y0V) (Y2s (Y17 5) (Y17 5))))
  (aS (Y2j 5 TX.nd FQ20 0 Y0V))))
  (Y2z 4)))))),?_⟩
 refine Yr;intro d_ n_;have wg0:=wg;obtain⟨ul,dx,fl,ra,ua,wa,ca,tas,kvs,a0,a1,a2,a3,a4,a5,a6,a7,a8,a9,a10,a11⟩:=wg0;have θ:bx.length=W:=by rw[fr.len,lb]
 refine Y05 (Y4A OG (by simp) a0 a2);refine Y0F ba ua _ _ Y a7 (kP (b1:=true) (b2:=false) (xs:=bx) (ys:=β.map FI) (λi z _=>z=.int (b i)) (Y8Z) Oo Y a7 (by rw[aA,ul,θ]) (λi y z H' Q' hy hz s' k'=>?_) (λD1 zs H1 hD1 e1 s1 hl1 hr1=>?_))
 ·obtain⟨g,hg,fg⟩:=fr.at_ i y hy;rw[aG]at hz;obtain⟨u,L,rfl⟩:=eI.mp hz;obtain⟨g1,g2,g3,g4⟩:=hb i g u hg L;refine Y0g;refine oM.i (fg.same s') g1 g2 (Z.sl.uz u (aE L)).2 g3 λn hn=>k' _ H' (Y08) ?_;rw[<-g4]at hn;congr 1
  exact_mod_cast hn
 ·rw[mI (hl1.trans θ) hr1]at e1;refine Yw;intro d_ n_;refine Y6 (Y41 ba (Y7P (s1 _ _ Y)) (rK (xs:=bx) (λi y H'=>xP H' y (Y9b "room" 0 .non)) (λi y H1 H2 s r=>by obtain⟨a,ea,ha⟩:=r;exact Y2P ea (s _ _ ha)) Oo (s1 _ _ Y) (λi y H' Q' hy s' k'=>?_) (λD2 J H2 hD2 e2 χ hl2 hr2=>?_)))
  ·exact rG (by show 3<=64;decide) λq3 H3 hq3 e3 S=>k' _ H3 S (Y00 q3 e3)
  ·refine Y9;refine DT (by show 1<=64;decide) λq3 H3 hq3 e3 S=>?_;have S3:=χ.trans S;refine NN (S3 _ _ e1) e3 (by rw[aA,cR];show W+1<=1000;exact Oo) λq4 H4 hq4 e4 s4=>Y9;refine rG (by show 3<=64;decide) λq5 H5 hq5 e5 s5=>DT (by show 1<=64;decide) λq6 H6 hq6 e6 s6=>?_;have S36:=(S.trans s4).trans (s5.trans s6);refine NN (S36 _ _ e2) e6 (by show J.length+1<=1000;exact Oo) λq7 H7 hq7 e7 s7=>?_;have S17:=(χ.trans S36).trans s7;intro m ο hm hdm ndm;have τ:aT H7 (Y7T (upd H7 ο (.own m)) m c.Master ο []):=(aT.upd hdm).trans (aT.upd (by rw[eO (Ne.symm ndm)];exact hm));have eA:(upd (upd H7 ο (.own m)) m (.ins c.Master ο [])) m=some (.ins c.Master ο []):=bK;generalize upd (upd H7 ο (.own m)) m (.ins c.Master ο [])=H8 at τ eA ⊢;have ec:(dF W b).map V.int++[V.int 1]=(dF (W+1) b).map V.int:=by
    unfold dF;rw[List.range_succ,bD,bD,bE,List.map_nil,Z.bW];rfl
   rw[ec]at e4;refine wS.i eA (((s5.trans s6).trans (s7.trans τ)) _ _ e4) (τ _ _ e7) (n:=W+1) (b:=b) (by rw[aV];show J.length+1=W+1;exact Oo) Oo λsa H9 hsa b9 I=>Y5 ?_;refine Yw;intro d_ n_;have ψ:H m=none:=(s1.trans S17).free hm;have hs0:H sa=none:=((s1.trans S17).trans τ).free hsa;have S9:aT H H9:=aT.thru ψ ((s1.trans S17).trans τ) b9;have tk:∀{a:Addr} {xs:Al},H8 a=Y1d->H9 a=Y1d:=λ{a xs} h=>b9.at (λz=>by rw[z,eA]at h;cases h) h;have φ:lB H9 (J++[V.ref q5]) (Yay (Y9b "room" 0 .non)++[Y9b "lack" 0 .non]):=by
    refine⟨by rw[aV,aV,bH,hl2,θ];rfl,λi u t L C=>?_⟩;by_cases γ:i<J.length
    ·rw[cM γ]at L;rw[cM (by rw[bH];exact Oo),List.getElem?_replicate,Y6a]at C;cases C;obtain⟨a,ea,ha⟩:=hr2 i u L;exact Y2P ea (tk ((S36.trans (s7.trans τ)) _ _ ha))
    ·rw[cJ Oo]at L;rw[cJ (by rw[bH];exact Oo),bH]at C;have e0:i-J.length=0:=by
      have:=(aB.mp L).1;simp at this;exact Oo
     rw[e0]at L;rw[show i-W=0 by exact Oo]at C;cases L;cases C;exact Y00 q5 (tk ((s6.trans (s7.trans τ)) _ _ e5))
   have ξ:iN H9 F W M ρ l υ β μ b Md.unit Md.unit 1 (Yay (Y9b "room" 0 .non)++[Y9b "lack" 0 .non]):=by
    refine⟨XS λr δ=>(Z.bU r δ).1,by rw[aV,bH];rfl,λi t C=>?_⟩;have γ:i<W+1:=by have:=(aB.mp C).1;rw[aV,bH]at this;exact this
    by_cases h:i<W
    ·rw[cM (by rw[bH];exact h),List.getElem?_replicate,Y5C]at C;cases C;exact .inl ⟨rfl,rfl,i,h,rfl⟩
    ·have e:i=W:=Oo;subst e;rw[cJ (by rw[bH];exact Oo),bH,Nat.sub_self]at C;cases C;exact Y8w (Y00 rfl rfl)
   have BT:∀{H':Hp} {B R:Md.fA} {p:Int} {D:Al} {d:Y0J} {Q':VK},Y1->uB H' c.Master m sa (W+1) b R p D->lB H' D d->iN H' F W M ρ l υ β μ b B R p d->(∀v H2,aT H' H2->aCS H2 F W M ρ l υ β μ R p d v->Q' v H2)->rB c.Weighing c.Master [Y2a,.ref m] H' Q' E0:=λS1 m1 t1 ι k1 =>
    rB.i (wg.same S1) m1 t1 Z.sl (ι.masz Z) (ι.costz Z) (λk hk=>ι.ratz Z hk) (λH2 χ η ζ=>k1 _ H2 χ (.inl ⟨rfl,η,ζ⟩)) λe ca ta a t H2 χ η ζ h3 h4 h5 h6=>k1 _ H2 χ (.inr ⟨e,ca,ta,a,t,rfl,η,ζ,h3,h4,h5,h6⟩)
   refine Y0g;refine BT S9 I φ ξ λN Ha α G=>?_;have dts:∀{H1 H2:Hp},aT H1 H2->∀ε κ,H1 ε=Y07 κ->H2 ε=Y07 κ:=λs ε κ h=>s _ _ h;refine zZ (λmm σ H'=>Ex6 λ(N:V) (B R:Md.fA) (p:Int) (D:Al) (d:List oB)=>An7 (σ=[Y3 x,Y3 ba,Y3 D1,Y3 D2,Y3 m,some N]) (Y1) (uB H' c.Master m sa (W+1) b R p D) (lB H' D d) (iN H' F W M ρ l υ β μ b B R p d) (aCS H' F W M ρ l υ β μ R p d N) (mm=meas W U X b R p d))
    (λσ H'=>∃(N:Am) (B R:Md.fA) (p:Int) (D:Al) (d:Y0J),σ=[Y3 x,Y3 ba,Y3 D1,Y3 D2,Y3 m,N]/\Y1/\uB H' c.Master m sa (W+1) b R p D/\lB H' D d/\iN H' F W M ρ l υ β μ b B R p d/\(∀w,w<W->jM W R d w<=0)/\((jM W R d W:Int):Rat)<=worz F W M ρ l (pzY W R d β) (SU d p μ) υ (Y04))
    _ ⟨N,_,_,_,_,_,rfl,S9.trans α,I.same α,φ.same α,ξ.to (dts α),G,rfl⟩ ?_ ?_
   ·clear G φ ξ I;rintro mm σ H1 ⟨N,B,R,p,D,d,rfl,S1,I,th,st,G,rfl⟩;refine Y6K;rcases G with⟨rfl,η,ζ⟩ | ⟨e,ca,ta,a,t,rfl,he,hca,C,hf,nl,pay⟩
    ·exact nY ⟨_,B,R,p,D,d,rfl,S1,I,th,st,η,ζ⟩
    ·refine oI (Yr);intro d_ n_;obtain⟨dx2,ra2,ν,LL⟩:=I.ex;have ne:∀(r s:Addr) (z:Int),(mfs r s z).lookup ("enter" : Str)=none:=λr s z=>by unfold mfs;rw[eW,Y2T,eW,Y2T,eW,Y2T];rfl
     refine⟨_,rfl,m,dx2,_,rfl,ν,ne ..,_,rfl,Y8c he⟩;refine Y0T he;obtain⟨r,δ,pr⟩:=hf.one;have ca4:∀i,i<W+1->(a i).natAbs<=U:=λi γ=>(hf.col Z γ).2;have U4:U<Y0W:=aK Z.Ue (YdW (by have:=Z.sz;exact Oo));refine tP.i (a:=a) I hca (st.masz Z) st.mst st.mst.bs.pos (λi γ=>aK (ca4 i γ) U4) (λi γ=>aK (Md.QP ((st.size Z).2 i γ) ca4) (aK aAb Z.zb)) (st.mst.bs.some (λj hj r δ=>by
      obtain⟨t',_,f'⟩:=st.at hj;exact(f'.col Z δ).1) δ pr) λo H2 ho hs hl k2 ω=>?_
     have kt:∀{u:V} {t:oB},xP H1 u t->xP H2 u t:=λh=>h.keep2 k2 ν I.st;have kd:∀ε κ,H1 ε=Y07 κ->H2 ε=Y07 κ:=λε κ h=>k2 _ _ (λz=>by rw[z,ν]at h;cases h) (λz=>by rw[z,I.st]at h;cases h) h;obtain⟨st2,lt2⟩:=st.next Z hf nl pay ho hs hl;have S2:=MZ S1 ψ hs0 k2;have th2:lB H2 (D.set o (.ref ta)) (d.set o t):=(show lB H2 D d from⟨th.len,λi u t L C=>kt (th.at_ i u t L C)⟩).set (kt C) o;refine Y0g;exact BT S2 ω th2 (st2.to kd) λN H3 S G=>⟨_,lt2,N,_,_,_,_,_,rfl,S2.trans S,ω.same S,th2.same S,(st2.to kd).to (dts S),G,rfl⟩
   ·rintro σ H1 ⟨N,B,R,p,D,d,rfl,S1,I,th,st,η,ζ⟩;exact Y6 (q m sa B R p D d H1 S1 I th st η ζ)
end
abbrev aDm:Stmt:=(top 43)
def aIN:Yd a43 a43 aDm:={}
abbrev aD0:Stmt:=(top 45)
def UB:Yd ["rule","amount_of","counts","says","onward","more"] a43 aD0:={}
structure NT(n:Nat)(fs:Ak):Prop where
 len:Y6f n
 at_:∀f∈fs,Y0l/\0<=f.1/\tE 3000 f
 one:vD (fs.map rv)=1
structure pM(F W M N B Ns:Nat)(es:Yj):Prop where
 rl:Y1x
 sum:∀e∈es,e.1.sum<=M
 sy:∀e∈es,NT (1+W) e.2
 few:es.length<=64
 on:∀e∈es,Y3T->e.1.sum<M
 fl:∀e∈es,Y25 (Y8 e.1)
 fs:∀e∈es,∀v,Y25 (Y8 e.1*cS e.2 v)
 n0:0<N
 s1:0<Ns
 z:N*Ns^M<2^2000
 b:B<=2^100
 m:M<=6
def NT.hd{n:Nat}{fs:Ak}(h:NT (1+n) fs):∃f r,fs=f::r/\Y0l/\tE 3000 f/\0<=f.1/\cS fs 0=rv f/\(0<f.1↔cS fs 0≠0):=by
 cases fs with
 | nil=>have:=h.len;simp at this;exact Oo
 | cons f r =>
  obtain⟨a,g,c⟩:=h.at_ f (bC ..);refine⟨f,r,rfl,a,c,g,rfl,?_⟩;have e:cS (f::r) 0=rv f:=rfl;rw[e];constructor
  ·intro d q;have:=iR a YA (by rw[q,nG]);rw[this]at d;exact Y6g d
  ·intro q;refine cI λz=>q ?_;have i:f.1=0:=Oo;have j:=pV a.pos;rw[i]at j;have l:=kY a.pos;have:rv f=0:=by grind
   exact this
def NT.nn{n:Nat}{fs:Ak}(h:NT n fs)(v:Nat):0<=cS fs v:=by
 by_cases hv:Y8M v
 ·have:=h.at_ _ (eM (a:=(0,1)) hv);exact BP this.1 this.2.1
 ·rw[nF Oo];exact Rat.le_refl
def NT.rest{n:Nat}{fs:Ak}(h:NT (1+n) fs):cF n (λv=>Y0L fs)=1-cS fs 0:=by
 have a:=h.one;rw[pQ,h.len]at a;have:∀n,cF (1+n) (cS fs)=cS fs 0+cF n (λv=>Y0L fs):=by
  intro n
  induction n with
  | zero=>rw[show 1+0=0+1 from rfl,eL,gU,gU];grind
  | succ n ih=>rw[show 1+(n+1)=(1+n)+1 by exact Oo,eL,ih,eL];grind
 rw[this]at a;grind
structure DQ(K:Aa)(H:Hp)(kvs:Yv)(g:Y0K):Prop where
 at_:∀d:Ae,(Y2Z d=none/\g d=0)\/∃v,Y2Z d=Ys/\AV K H (fJ (g d)) v
def CS:fJ 0=(0,1):=iR (Y06) YA (by rw[dC,nG])
def QI:fJ 1=(1,1):=iR (Y06) YB (by rw[dC,BO])
theorem DQ.t{K:Aa}{H H':Hp}{kvs:Yv}{g:Y0K}(s:Y2o)(h:DQ K H kvs g):DQ K H' kvs g:=⟨λd=>by
 rcases h.at_ d with h | ⟨v,c,a⟩
 ·exact .inl h
 ·exact .inr ⟨v,c,a.t s⟩⟩
def DQ.eq{K:Aa}{H:Hp}{kvs:Yv}{g g':Y0K}(h:DQ K H kvs g)(e:∀d,g' d=g d):DQ K H kvs g':=by
 have:g'=g:=funext e;rw[this];exact h
def DQ.get{K:Aa}{H:Hp}{kvs:Yv}{g:Y0K}(h:DQ K H kvs g)(d:Ae){z:V}(hz:iZ K H (0,1) z):iZ K H (fJ (g d)) ((gD kvs (kT (ci d))).getD z):=by
 rcases h.at_ d with⟨a,c⟩ | ⟨v,a,c⟩
 ·rw[a,c,CS];exact hz
 ·rw[a];exact c.v
def DQ.val{K:Aa}{H:Hp}{kvs:Yv}{g:Y0K}(h:DQ K H kvs g){d:Ae}(hd:g d≠0):∃v,Y2Z d=Ys/\AV K H (fJ (g d)) v:=by
 rcases h.at_ d with⟨_,a⟩ | h
 ·exact absurd a hd
 ·exact h
def DQ.put{K:Aa}{H:Hp}{kvs:Yv}{g:Y0K}(h:DQ K H kvs g){c:Ae}{v:V}{y:Rat}(r:AV K H (fJ (g c+y)) v):DQ K H (Y7Q c v) λd=>g d+if c=d then y else 0:=⟨λd=>by
 rw[iC];by_cases e:c=d
 ·subst e;rw[Yt,Yt];exact .inr (Y00 v r)
 ·rw[Y4r (e (Y3C q).symm),Y0Y,show g d+0=g d by grind];exact h.at_ d⟩
def kS{N C:Nat}{q:Rat}(h:Qn N C q)(h0:0<N)(hN:N<2^2500)(hC:C<=2^200):Y40 (fJ q):=mL h.fq h0 (Y74 hN) (Y4j hC)
def tE.up{j k:Nat}{f:Fr}(h:tE j f)(hk:j<=k):tE k f:=⟨Y5y h.1 hk,Y5y h.2 hk⟩
section
variable{F W M N B Ns:Nat}{es:Yj}{s:Ak}
def pM.nz(R:Y1K):N<2^2500:=by
 have c:0<Ns^M:=Nat.pow_pos R.s1;have a:N*1<=N*Ns^M:=dY _ c;rw[Nat.mul_one]at a;exact Y81 a R.z
def pM.pz(R:Y1K):0<N*Ns^M/\N*Ns^M<2^2500:=⟨fN R.n0 (Nat.pow_pos R.s1),Y74 R.z⟩
def pM.b2(R:Y1K):B<=2^200:=Y4j R.b
theorem pM.part(R:Y1K)(f4:F<=4):∀i,Y9L i->∀d,Qn N (1+4*B*i) (Y4q F i d)
 | 0,_,d=>by
  rw[List.take_zero,lL,Nat.mul_zero,Nat.add_zero];split
  ·exact Qn.one' _
  ·exact Qn.zero _ _
 | i+1,hi,d=>by
  have he:=aC (show i<es.length by exact Oo);rw[gT he,gG,R.rl.at he];have a:=aE he;have e:=R.part f4 i Oo d;have g:Qn 1 4 (iF F es[i].1 d):=by
   have:=Qn.sumR (N:=1) (B:=1) (n:=F) (f:=λf=>if cG es[i].1 f=d then 1 else 0) λf _=>by
    split
    ·exact Qn.one' _
    ·exact Qn.zero _ _
   exact this.le Oo
  have c:=(show Qn N B (aX F es es[i].1*s0 es[i])from R.fs _ a 0).mul g;rw[Nat.mul_one]at c;refine(e.add c).le ?_;rw[Nat.mul_add,Nat.mul_one,Nat.mul_comm B 4];exact Oo
def pM.bg(R:Y1K){i:Nat}(hi:i<=64):1+4*B*i+B*4<=2^200:=by
 have a:=Nat.mul_le_mul (dY 4 R.b) hi;have c:=bO 4 R.b;have d:1+4*2^100*64+2^100*4<=2^200:=Kk;exact Oo
end
inductive jQ (K:Aa):Yq
 | i {H:Hp} {Q:VK} {E:XK} {x:V} {e:cZ} {es:Yj} (h1:KZ K H (e::es) x) (k:Y1M (e.1.length:Nat)):jQ K [x] H Q E
inductive mZ (K:Aa):Yq
 | i {H:Hp} {Q:VK} {E:XK} {x:V} {es:Yj} {F W M N B Ns:Nat} (h1:KZ K H es x) (h2:Y1K) (h3:1<=F) (h4:F<=4) (k:∀a ys H',Y1->H' a=Yf ys->Y2x es.length->(∀(i:Nat) (e:cZ),es[i]?=Y6G->∃b cu va,Y1m=Y3 b/\H' b=Yf [.ref cu,va]/\H' cu=Yf (e.1.map FI)/\AV K H' (fJ (Y8 e.1)) va)->Y0u a):mZ K [x] H Q E
section
def aHC(F:Yb "rule_faces" "rule_faces" aDm)(T:Ye):dO P w K mg base cV 1 f fd a43 (jQ K):=by
 refine F.oky aIN λL H Q E h=>?_;obtain @⟨H,Q,E,x,e,J,p,k⟩:=h;refine Y5 (λD A g s I=>?_);obtain⟨a,n,rfl,B,C,l⟩:=p;have d:n[0]?=some (n[0]'(by rw[C];exact YaL)):=aC _;obtain⟨r,m,b,G,z,u,y,i,_⟩:=l 0 _ d;cases(show e=r by simpa using m);rw[u]at d;refine Y4x (jH oA (by rfl) T.b_len Kk (Y18 (bQ bJ (Y2e) aL))) (Y6 (lG B (Y7E d) ?_));refine lG y rfl (rlT i ?_);rw[aA];exact k
def aIh(F:Yb "amounts" "amounts" aD0)(T:Ye)(FQ46:Y01 "noughts" ["faces"] mV)(FQ59:Y01 "rule_faces" a43 (jQ K))
  (FQ44:Y01 "looks_on" ["says"] (lI K)) (FQ66:Y6t 2 "times" K) (FQ49:Y2i "ones_more" a34 fV) (FQ54:Y69 2 "plus" (kJ K)):dO P w K mg base cV 3 f fd a43 (mZ K):=by
 refine Y1j UB;obtain @⟨H,Q,E,x,es,F,W,M,N,B,Ns,rx,RO,f1,f4,k⟩:=h;refine Y5 (λcdv A outer s μ=>?_);obtain⟨a,xs,rfl,ha,lx,χ⟩:=id rx;have RL:=RO.rl;have few:=RO.few;obtain⟨e0,er,ees,ez0⟩:=RL.root;refine⟨_,(aH (Y4b 1 UB.nd (IH μ.u1 (fP FQ46 (Y0y FQ59 0)) (Ybo Ybc T.g_ONE rfl)))
  (aH (gK PassesOwn.never rfl (tG (Yz)) (Y7h 2 UB.nd 3 UB.nd lC) (aS (iS (qB (Y0y FQ44 3)) (aH (Y4u UB.nd (cQ FQ66 (Y7d μ.u1 Y02) (Y17 3)))
  (aS (Y6m (eG (Y0y FQ49 2)) 5 UB.nd (jC μ.u1 (Y0f) (aD 5) (cQ FQ54 (FY μ.u1 (Y0f) (aD 5) (Ycw Y9i rfl)) (Y0V)))))) fK)))
  (Y1c (Y57 dQ (by rfl) Kk ["entry","amount_of"] [1] (tG (Yz)) (Y3B (Y2O 0 aL) (Y7d μ.u1 (Y2O 0 aL))))))),?_⟩
 refine Yr;intro d_ n_;intro p hp;have I:=Y6N [] hp;have Y:(upd H p (.dT [])) p=Y07 []:=bK;generalize upd H p (.dT [])=H0 at I Y;refine Y6 (jQ.i (e:=e0) (es:=er) (by rw[<-ees];exact rx.t I.t) ?_);rw[ez0,bH];refine mV.i (F:=F) Oo λv1 H1 s1 r1=>?_;obtain⟨cz,rfl,ρ⟩:=iG r1;refine aFW (c:=ci (Y04)) (by rw[fL];exact ρ) (s1 _ _ Y) λH2 e2 b2=>Yw;intro d_ n_;have S2:aT H H2:=aT.thru hp (I.trans s1) b2;have D2:DQ K H2 [(Y2R Y04,V.ref c.ONE)] (aX F (es.take 0)):=⟨λd=>by
  rw[List.take_zero,lL];by_cases q:d=Y04
  ·subst q;rw[Yt];exact .inr (Y0U (by simp[gD]) (.inr (Y00 c.ONE (by rw[QI];exact T.o_ONE))))
  ·rw[Y2V];refine Y2k ?_ rfl;have:¬Y2R d=Y2R Y04:=λz=>q (Y3C z);have e:=iC (κ:=Y59) [] (Y2R Y04) (Y2R d) (V.ref c.ONE);rw[if_neg this]at e;exact e⟩
 clear b2 I Y r1 ρ s1;refine Y4J _ a (Y7P (S2 _ _ ha)) (QJ (xs:=xs) (λi σ H'=>Ex5 λ(o2 o3 o4 ξ:Am) (g:List (List fS × V))=>An5 (σ=[Y4l,Y3 p,o2,o3,o4,ξ]) (Y1) (H' p=Y07 g) (g.length<=1+4*i) (DQ K H' g (aX F (es.take i)))) ⟨_,_,_,_,_,rfl,S2,e2,by simp,D2⟩ (Yat) ?_ ?_)
 ·obtain⟨_,_,_,_,_,_,δ,_⟩:=q;exact jA.of (δ _ _ ha)
 ·rintro i x σ H3 hx ⟨o2,o3,o4,ξ,g,rfl,S3,γ,l3,D3⟩;obtain⟨e,S,re⟩:=χ i x hx;have hi:i<es.length:=(aB.mp S).1;have r:=aE S;have hkey:Y43 e.1 (·.1):=Y42 e r;have hel:=RL.len e r;have Z:=RL.at S;have fpos:=RL.posf r;obtain⟨f0,fr,ef,l0,z0,nn0,v0,ν⟩:=(RO.sy e r).hd;have es0:Y2=rv f0:=v0;obtain⟨b,u,z,rfl,hb,C,rz⟩:=re.t S3.t;refine⟨b,[.ref u,z],rfl,jA.of hb,rfl,.ref u,[z],rfl,z,[],rfl,rfl,Y2B⟩;intro d_;refine Y6 (lI.i (f:=f0) (fs:=fr) (by rw[<-ef];exact rz) ?_);refine Y6 (CK (Y9P) (Y9P))
  ·have sne:Y3T:=ν.mp on;refine Yr;intro d_ n_;obtain⟨R,α,O⟩:=D3.val (d:=e.1) (by rw[Z];grind);rw[Z]at O;refine Y05 (Y5x γ e.1 (by rw[fL];exact C) α ?_);obtain⟨av,vs,rfl,hav,υ⟩:=rz;rw[ef]at υ;obtain⟨y0,hy0,ry0⟩:=υ.get (i:=0) rfl;refine Y6 (lG hav (Y7E hy0) ?_);refine eJ.i O.v ry0.v (Y06) l0 (kS (RO.fl e r) RO.n0 RO.nz RO.b2) (z0.up Dd) λq4 H4 hq4 e4 φ=>?_;have ι:lM (fJ (Y8 e.1)) f0=fJ (Y8 e.1*Y2):=Ya8 l0 (by rw[jR (Y06).pos l0.pos,dC,dC,es0]);rw[ι]at e4;have qy:Y25 (Y8 e.1*Y2):=RO.fs e r 0;refine Y9;refine fV.i (wA (φ _ _ C)) Oo λL G H5 hL e5 ο X=>?_;have S5:=(S3.trans φ).trans X;have ly:G.length=F:=by rw[ο.len,aA,aA,aW,hel]
   have η:Y3e H5 (Y8 e.1*Y2) (.ref q4):=fG (X _ _ e4);have θ:H5 p=Y07 g:=X _ _ (φ _ _ γ);have nLp:L≠p:=λz=>by rw[z,φ _ _ γ]at hL;cases hL
   refine Y1A L e5 ?_;refine mG (xs:=G) (λj σ H'=>Ex2 λ(ξ:Am) (g:List (List fS × V))=>An5 (σ=[Y4l,Y3 p,Y3 u,Y3 av,Y3 q4,ξ]) (aU p H5 H') (H' p=Y07 g) (g.length<=1+4*i+j) (DQ K H' g λd=>Y4q F i d+Y8 e.1*Y2*Yao j (if Y0w e.1=d then 1 else 0)))
    ⟨_,g,rfl,(Y08).but,θ,Oo,(D3.t (φ.trans X).t).eq λd=>by rw[gU];grind⟩ (YdD) ?_ ?_
   ·obtain⟨_,_,_,b',_⟩:=q;exact Ycy nLp e5
   ·rintro j y σ H6 τ ⟨o5',J,rfl,b6,ε,l6,D6⟩;refine Y5A;intro d_;have hj:j<F:=by rw[<-ly];exact(aB.mp τ).1
    obtain⟨m,hm,rm⟩:=fC ο τ;have ι:m=cG e.1 j:=by
     rw[aG,bM Oo]at hm;simpa using hm.symm
    have msum:m.sum=e.1.sum+1:=by rw[ι];exact gR Oo
    have mks:Y43 m (·.1):=by rw[ι];exact RL.fwd e r sne j hj
    have mM:m.sum<=M:=by obtain⟨e',he',rfl⟩:=aN.mp mks;exact RO.sum e' he'
    obtain⟨cm,rfl,hcm⟩:=iG rm;have t6:eZ H5 H6:=aU.tT b6 θ;have U:=t6 _ _ hcm;have hnz:iZ K H6 (0,1) (Y9i):=Y00 c.NOUGHT (wM T.o_NOUGHT);have hg:=D6.get m hnz;have qX:Qn N (1+4*B*i+B*4) (Y4q F i m+Y8 e.1*Y2*Yao j (if Y0w e.1=m then 1 else 0)):=by
     have ψ:Qn 1 4 (Yao j (if Y0w e.1=m then 1 else 0)):=by
      have:=Qn.sumR (N:=1) (B:=1) (n:=j) (f:=λf=>if Y0w e.1=m then 1 else 0) λf _=>by
       split
       ·exact Qn.one' _
       ·exact Y72 _
      exact this.le Oo
     have β:=qy.mul ψ;rw[Nat.mul_one]at β;exact(RO.part f4 i Oo m).add β
    generalize hX:aX F (es.take i) m+aX F es e.1*s0 e*(cF j λf=>if cG e.1 f=m then 1 else 0)=Xm at qX hg;refine⟨_,rfl,p,rfl,Y2W J (.inl ε),_,rfl,_,oJ.ct (c:=ci m) ε (by rw[fL];exact U),Y9⟩;refine kJ.i hg (iZ.of (η.flat t6 (dS _))) (Y06) (Y06) (kS qX RO.n0 RO.nz (RO.bg Oo)) (kS qy RO.n0 RO.nz RO.b2) λq7 H7 hq7 e7 s7=>?_;have ea:pJ (fJ Xm) (fJ (Y8 e.1*Y2))=fJ (Xm+Y8 e.1*Y2):=iR (tZ (Y06) (Y06)) Y06 (by rw[sF (Y06).pos (Y06).pos,dC,dC,dC]);rw[ea]at e7;refine Y0g;have ζ:=s7 _ _ ε;refine Y5w ζ m (by rw[fL];exact s7 _ _ U) Oo (λH8 e8 b8=>?_);have t8:eZ H7 H8:=aU.tT b8 ζ;refine⟨_,_,rfl,(b6.trans s7.but).trans b8,e8,?_,?_⟩
    ·have:=Y5K J m (V.ref q7);exact Oo
    ·have D7:=D6.t s7.t;have D8:=(D7.put (c:=m) (v:=.ref q7) (y:=aX F es e.1*s0 e) (by rw[hX];exact .inl (fG e7))).t t8;refine D8.eq Y6j;rw[eL,<-ι];by_cases q:m=d
     ·rw[Y5B,Y5B];grind
     ·rw[Y2V,Y2V];grind
   ·rintro σ H6 ⟨o5',J,rfl,b6,ε,l6,D6⟩;rw[ly]at l6 D6;refine⟨_,_,_,_,J,rfl,aT.thru hp S5 b6,ε,Oo,D6.eq Y6j⟩;rw[gT S,gG,Z];rfl
  ·have z0:Y2=0:=Y6x (on (ν.mpr q));refine⟨_,_,_,_,g,rfl,S3,γ,Oo,D3.eq Y6j⟩;rw[gT S,gG,z0];grind
 ·rintro σ H3 ⟨o2,o3,o4,ξ,g,rfl,S3,γ,l3,D3⟩;rw[lx,dL]at D3;refine Y4J _ a (Y7P (S3 _ _ ha)) (rK (λi y H'=>∃(e:cZ) (b u:Addr) (R:V),es[i]?=Y6G/\y=Y0p/\H' b=Yf [.ref u,R]/\H' u=Yf (e.1.map FI)/\AV K H' (fJ (Y8 e.1)) R) (λi y H1 H2 s ⟨e,b,u,R,ω,h2,ψ,h5,β⟩=>⟨e,b,u,R,ω,h2,s _ _ ψ,s _ _ h5,β.t s⟩) Oo (S3 _ _ ha) (λi x H' Q' hx δ k'=>?_) (λD G H8 hD hD8 s8 hy8 hr8=>?_))
  ·obtain⟨e,S,re⟩:=χ i x hx;have r:=aE S;obtain⟨b,u,z,rfl,hb,C,rz⟩:=re.t (S3.trans δ).t;obtain⟨R,α,O⟩:=D3.val (d:=e.1) (by have:=RL.posf r;grind);refine Y0T hb;refine Y86 hb;refine Y5x (δ _ _ γ) e.1 (by rw[fL];exact C) α (rG (by show 2<=64;decide) λq5 H5 hq5 e5 X=>?_);exact k' _ H5 X ⟨e,q5,u,R,S,rfl,e5,X _ _ C,(O.same δ).same X⟩
  ·refine Y0X D G (Y6W hD8 ?_);have sl:=Y3b G hl;have el:(upd H8 l (.tup G)) l=Yf G:=bK;generalize upd H8 l (.tup G)=H9 at sl el;refine k l G H9 ((S3.trans s8).trans sl) el Oo λi e hi=>?_;obtain⟨y,τ⟩:∃y,G[i]?=Y09:=Y2c (by have:=(aB.mp hi).1;exact Oo);obtain⟨e',b,u,R,ω,rfl,ψ,h5,β⟩:=hr8 i y τ;rw[hi]at ω;cases ω;exact⟨b,u,R,τ,sl _ _ ψ,sl _ _ h5,β.same sl⟩
end
abbrev aDV:Stmt:=(top 51)
def aB8:Yd ["trial","rule","way","found","entry","amount"] a13 aDV:={}
abbrev aDv:Stmt:=(top 52)
def aGw:Yd ["trial","rule","way","came"] a13 aDv:={}
abbrev aDj:Stmt:=(top 53)
def aIK:Yd a19 a19 aDj:={}
def aqF(F:Nat)(es:Yj)(s:Ak)(e:cZ):Fr:=fJ (Y8 e.1*wq s e.1)
def came(F:Nat)(es:Yj)(s:Ak):Y3X cZ Fr:=es.map λe=>(e,aqF F es s e)
def UM(K:Aa)(H:Hp)(x:cZ × Fr)(v:V):Prop:=∃b cu z y,v=Y0p/\H b=Yf [.ref cu,z,y]/\H cu=Yf (x.1.1.map FI)/\DZ K H x.1.2 z/\Y4o H x.2 y
theorem UM.t{K:Aa}{H H':Hp}{x:cZ × Fr}{v:V}(s:Y2o)(h:UM K H x v):UM K H' x v:=by
 obtain⟨b,c,z,y,d,a,e,i,g⟩:=h;exact⟨b,c,z,y,d,s _ _ a,s _ _ e,i.t s,g.flat s (dS _)⟩
def aGt{K:Aa}{H H':Hp}(s:Y2o){l:Y3X cZ Fr}{zs:Al}(h:Y9K K H l zs):Y9K K H' l zs:=Paired.imp' (λ_ _ h=>h.t s) h
theorem KL{K:Aa}{H:Hp}:∀{l:Y3X cZ Fr}{zs:Al}{x:cZ × Fr}{v:V},Y9K K H l zs->UM K H x v->Y9K K H (l++[x]) (zs++[v])
 | _,_,_,_,.nil,h=>.cons h .nil
 | _,_,_,_,.cons r t,h=>.cons r (KL t h)
section
variable{F W M N B Ns:Nat}{es:Yj}{s:Ak}
def pM.aq(R:Y1K)(hs:∀f∈s,Y1y Ns 1){e:cZ}(h:e∈es):Qn (N*Ns^M) B (Y8 e.1*wq s e.1):=by
 have:=(R.fl e h).mul (OJ (M:=M) hs (R.sum e h))
 rwa [Nat.mul_one]at this
def pM.aqs(R:Y1K)(hs:∀f∈s,Y1y Ns 1){e:cZ}(h:e∈es)(v:Nat):Qn (N*Ns^M) B (Y8 e.1*wq s e.1*cS e.2 v):=by
 have:=(R.fs e h v).mul (OJ (M:=M) hs (R.sum e h));rw[Nat.mul_one]at this;rw[show aX F es e.1*wq s e.1*cS e.2 v=aX F es e.1*cS e.2 v*wq s e.1 by grind];exact this
def pM.wn(R:Y1K):Ns^M<2^2500:=by
 have a:1*Ns^M<=N*Ns^M:=bO _ R.n0;rw[Nat.one_mul]at a;exact aK a R.pz.2
end
theorem Qn.sumL{α:Type}{N B:Nat}{f:Y31}:∀{l:Yu},(∀a∈l,Y25 (f a))->Qn N (l.length*B) (cW l f)
 | [],_=>by rw[jK];exact Qn.zero _ _
 | a::l,h=>by
  rw[dA,cL,Nat.add_mul,Nat.one_mul,Nat.add_comm];exact(h a (bC ..)).add (Qn.sumL λx hx=>h x (bG _ hx))
theorem yZ{α:Type}{p:Y2K α}{f:Y31}:∀{l:Yu},(∀a∈l,Yx (p a)->f a=0)->cW (l.filter p) f=cW l f
 | [],_=>rfl
 | a::l,h=>by
  have ih:=yZ λx c=>h x (bG a c);cases q:p a with
  | true=>rw[List.filter_cons_of_pos q,dA,dA,ih]
  | false=>rw[List.filter_cons_of_neg (by rw[q];decide),dA,ih,h a (bC ..) q];grind
def VH{α:Type}{l:Yu}{g:α->Fr}{f:Y31}(h:∀a∈l,eK (g a)/\rv (g a)=f a):oG (l.map g)=fJ (cW l f):=by
 have d:∀x∈l.map g,eK x:=λx e=>by
  obtain⟨a,c,rfl⟩:=aN.mp e;exact(h a c).1
 refine iR (BE _ d) Y06 ?_;rw[MH _ d,dC,List.map_map];exact congrArg vD (fO λa c=>(h a c).2)
def aEL(x y:Rat):lM (fJ x) (fJ y)=fJ (x*y):=Ya8 Y06 (by rw[jR (Y06).pos (Y06).pos,dC,dC,dC])
def ZZ(x y:Rat):pJ (fJ x) (fJ y)=fJ (x+y):=iR (tZ (Y06) (Y06)) Y06 (by rw[sF (Y06).pos (Y06).pos,dC,dC,dC])
def aC2(x y:Rat):pJ (fJ x) (yJ (fJ y))=fJ (x-y):=iR (tZ (Y06) (xG (Y06))) (Y06) (by
 rw[sF (Y06).pos (xG (Y06)).pos,show yJ (fJ y)=(-(fJ y).1,(fJ y).2)from rfl,MI,dC,dC,dC,Rat.sub_eq_add_neg])
inductive sD (K:Aa):Yq
 | i {H:Hp} {Q:VK} {E:XK} {t r:V} {es:Yj} {F W M N B Ns:Nat} {fs:Ah} {ws:Y12} {i:Nat} {x:Str × Ak} (h1:Y3V t) (h2:KZ K H es r) (h3:Y1K) (h4:1<=F) (h5:F<=4) (h7:ws[i]?=Y7) (h8:∀f∈x.2,Y1y Ns 1) (h9:BOk 10 x.2) (k:Y3f (H D=none) (Y0G=Y0c->Y9K K H' (came F es x.2) ys->Y1->Y1a)):sD K [t,r,.int (i:Int)] H Q E
abbrev onE(e:cZ):Bool:=decide (Y3T)
abbrev onD(x:Nat × Fr):PyData:=.tuple [.int (x.1:Int),iY x.2]
def onw(F:Nat)(es:Yj)(s:Ak):Y3X Nat Fr:=(es.filter onE).map λe=>(e.1.sum,fJ (Y8 e.1*wq s e.1*Y2))
inductive sC (K:Aa):Yq
 | i {H:Hp} {Q:VK} {E:XK} {t r:V} {es:Yj} {F W M N B Ns:Nat} {fs:Ah} {ws:Y12} {i:Nat} {x:Str × Ak} (h1:Y3V t) (h2:KZ K H es r) (h3:Y1K) (h4:1<=F) (h5:F<=4) (h7:ws[i]?=Y7) (h8:∀f∈x.2,Y1y Ns 1) (h9:BOk 10 x.2) (k:Y3f (H D=none) (Y0G=Y0c->bI H' ((onw F es x.2).map onD) ys->Y1->Y1a)):sC K [t,r,.int (i:Int)] H Q E
structure CoC(Nc:Nat)(es:Yj)(cs:Ak):Prop where
 c0:0<Nc
 c1:Nc<=1000000000000000
 at_:∀f∈cs,Y1y Nc 1000
 len:∀e∈es,Y3T->e.1.sum<cs.length
def CoC.qn{Nc:Nat}{es:Yj}{cs:Ak}(h:CoC Nc es cs){e:cZ}(he:e∈es)(hs:Y3T):Qn Nc 1000 (Y4e e.1.sum):=(h.at_ _ (eM (a:=(0,1)) (h.len e he hs))).q
inductive wP (K:Aa):Yq
 | i {H:Hp} {Q:VK} {E:XK} {t r cv:V} {es:Yj} {F W M Nc N B Ns:Nat} {fs:Ah} {ws:Y12} {i:Nat} {x:Str × Ak} {cs:Ak} (h1:Y3V t) (h2:KZ K H es r) (h3:Y1K) (h4:1<=F) (h5:F<=4) (h7:ws[i]?=Y7) (h8:∀f∈x.2,Y1y Ns 1) (h9:BOk 10 x.2) (h10:DZ K H cs cv) (h11:CoC Nc es cs) (k:∀v H',Y1->Y3e H' (gJ F es (wq x.2) (cS cs)) v->Y1L):wP K [t,r,.int (i:Int),cv] H Q E
section
def aId(F:Yb "comings" "comings" aDV)(T:Ye)(FQ18:Y2Q "amounts" a43 (mZ K))(FQ66:Y6t 2 "times" K)(FQ71:Y2Q "weight" a07 (jO K)):dO P w K mg base cV 4 f fd a13 (sD K):=by
 refine Y1j aB8;obtain @⟨H,Q,E,t,r,l,F,W,M,N,B,Ns,fs,ws,iw,x,rt,rr,RO,f1,f4,hx,J,η,k⟩:=h;refine Y5 (λcdv A ε s hr=>?_);obtain⟨a,xs,rfl,X,lx,υ⟩:=id rr;have few:=RO.few;refine⟨_,(aH (Y1t aB8.nd (iQ aQ))
  (aH (Y7B (lF true true rfl T.b_zip (Y1S 1 (Y0y FQ18 1))) (Y7h 4 aB8.nd 5 aB8.nd lC) (lP (Y8R vT Y0r (dX (bB (Y17 4) (Y2s (Y17 4) (cQ FQ66 (Y17 5) (lQ FQ71 (Yz) (Y02) (Y17 4)))))))))
  (Y2z 3))),?_⟩
 refine Yr;intro d_ n_;refine DT (by show 0<=64;decide) λL H1 ξ α s1=>Y0g;refine mZ.i (rr.t s1.t) RO f1 f4 λχ ys H2 n U ly k2=>Y0F a χ xs ys (n _ _ (s1 _ _ X)) U ?_;refine YcV xs ys (∃(ο ν:Am) (j:Al),σ=[some t,Y4l,Yg (iw:Int),Y3 L,ο,ν]/\aU L H2 H'/\H' L=Yl j/\Y9K K H' ((came F l x.2).take i) j) ⟨_,_,[],rfl,(Y08).but,n _ _ α,.nil⟩ (λi σ H' ⟨_,_,_,_,ψ,_⟩=>?_) ?_ ?_
 ·have na:a≠L:=λz=>by rw[z,ξ]at X;cases X
  have δ:χ≠L:=λz=>by rw[z,n _ _ α]at U;cases U
  exact⟨ψ.at na (n _ _ (s1 _ _ X)),ψ.at δ U⟩
 ·rintro i y z q3 σ H3 H4 hy ζ ⟨ο,ν,j,rfl,Y,ρ,C⟩ hq3 e4 Z;obtain⟨e,θ,re⟩:=υ i y hy;have O:=aE θ;have μ:=Y.t (n _ _ α);have u:=μ.trans Z.t;have I:=(s1.trans n).t.trans u;obtain⟨b,ω,v,rfl,κ,D,γ⟩:=re.t I;have ru:Y4F H4 e.1 (.ref ω):=wA D;obtain⟨bz,cz,va,G,R,_,ι⟩:=k2 i e θ;rw[ζ]at G;cases G;have p:H4 L=Yl j:=Z _ _ ρ;have lz:j.length<=64:=by
   rw[<-C.length,gB];unfold came;rw[aA];exact Oo
  refine⟨q3,_,rfl,jA.of e4,rfl,_,_,rfl,_,_,rfl,rfl,Y2B⟩;intro d_;refine⟨_,rfl,VD p,_,rfl,Y8c κ⟩;refine Y0T κ;refine Y0T (u _ _ R);refine Y2E (Y8c κ);have τ:=RO.sum e O;have m6:=RO.m;refine jO.i (Yb9 I fs ws) hx ru η Oo λxw H5 s5 fw=>?_;have g:eK (nV (x.2.zip e.1)):=tH _ λz ζ=>(J z.1 (List.of_mem_zip (a:=z.1) (b:=z.2) ζ).1).low;refine eJ.i ((ι.t u).same s5).v fw.v (Y06) g (kS (RO.fl e O) RO.n0 RO.nz RO.b2) (Yar (Qn.f g (OJ (M:=M) J τ)) (Nat.pow_pos RO.s1) (Y74 RO.wn)) λq6 H6 hq6 φ s6=>?_;have em:lM (fJ (Y0k l e.1)) (nV (x.2.zip e.1))=aqF F l x.2 e:=Ya8 g (by rw[jR (Y06).pos g.pos,dC];unfold aqF;rw[dC];rfl);rw[em]at φ;refine rG (by show 3<=64;decide) λβ H7 hq7 e7 s7=>?_;have d:=(s5.trans s6).trans s7;refine NR (d _ _ p) Oo λH8 e8 b8=>?_;have S:=b8.t (d _ _ p);refine⟨_,_,j++[.ref β],rfl,(Y.trans (Z.trans d).but).trans b8,e8,?_⟩;have ec:(came F l x.2)[i]?=some (e,aqF F l x.2 e):=by unfold came;rw[aG,θ];rfl
  rw[gT ec];exact KL (aGt ((Z.trans d).t.trans S) C) ((show UM K H7 (e,aqF F l x.2 e) (.ref β)from⟨β,ω,v,_,rfl,e7,d _ _ D,γ.t d.t,fG (s7 _ _ φ)⟩).t S)
 ·rintro σ H3 ⟨ο,ν,j,rfl,Y,ρ,C⟩;refine Y9;have hc:(came F l x.2).take (Y9o)=came F l x.2:=List.take_of_length_le (by unfold came;rw[aA];exact Oo);rw[hc]at C;exact k L j H3 ξ ρ C (aT.thru ξ (s1.trans n) Y)
def aHL(F:Yb "onwards" "onwards" aDv)(T:Ye)(FQ22:Y1n 4 "comings" a13 (sD K))(FQ66:Y6t 2 "times" K)(FQ44:Y01 "looks_on" ["says"] (lI K)):dO P w K mg base cV 5 f fd a13 (sC K):=by
 refine Y1j aGw;obtain @⟨H,Q,E,t,r,a,F,W,M,N,B,Ns,fs,ws,iw,x,rt,ψ,RO,f1,υ,hx,m,J,k⟩:=h;refine Y5 (λξ A I s hr=>?_);have few:=RO.few;refine⟨_,(aH (Y1t aGw.nd (lQ FQ22 (Yz) (Y0f) (Y02)))
  (Y1c (RS (eP.o ["counts","says","share"] ["counts","says","share"] []) (eG (Y0r)) (λ_ _ _ _=>OE (qB (Y0y FQ44 1))) (λ_ _ _ _=>(Y3B (Y68 (AT K rfl) (by rfl) T.b_sum Kk 0) (cQ FQ66 (aD 2) (Y2O 1 aL))))))),?_⟩
 refine Yr;intro d_ n_;refine Y4c;refine sD.i rt ψ RO f1 υ hx m J λD ys H1 hD p r1 ε=>Y4J _ D (Y89 _ p) (FH (as:=came F a x.2) (λy=>onE y.1) (λy v=>UM K H1 y v) (λy v H'=>dI H' (onD (y.1.1.sum,fJ (Y0k a y.1.1*wq x.2 y.1.1*s0 y.1))) v) (λx y H1 H2 s r=>r.flat s rfl) (by unfold came;rw[aA];exact Oo) p r1 (λv y H' hy C ι=>?_) (λL Z H2 hL θ μ pr=>?_))
 ·obtain⟨e,α,rfl⟩:=aN.mp hy;obtain⟨b,χ,z,y,rfl,ω,d,δ,C⟩:=C.t ι.t;obtain⟨g,ο,β,R,η,nn0,v0,l⟩:=(RO.sy e α).hd;have O:Y2=rv g:=v0;refine⟨b,[.ref χ,z,y],rfl,jA.of ω,rfl,λQ' h=>?_,λH5 Q' U hp k'=>?_⟩
  ·refine Y6 (lI.i (f:=g) (fs:=ο) (by rw[<-β];exact δ) ?_);refine Y9;have p:Y1E 0 g.1=onE e:=by
    by_cases q:0<g.1
    ·rw[cO q];exact(cO (l.mp q)).symm
    ·rw[bT q];exact(bT λz=>q (l.mpr z)).symm
   rw[p];exact h H' (Y08)
  ·have d:=U _ _ d;obtain⟨az,vz,rfl,X,n⟩:=δ.t U.t;rw[β]at n;obtain⟨y0,G,S⟩:=n.get (i:=0) rfl;refine Y6 (rsT (ns:=ci e.1) (by rw[fL];exact jA.of d) ?_);rw[HL];refine Y05 (lG X (Y7E G) ?_);refine eJ.i (iZ.of (C.same U)) S.v (Y06) R (kS (RO.aq m α) RO.pz.1 RO.pz.2 RO.b2) (η.up Dd) λν H6 τ u ρ=>?_;have φ:lM (aqF F a x.2 e) g=fJ (Y0k a e.1*wq x.2 e.1*Y2):=Ya8 R (by rw[jR (f:=aqF F a x.2 e) (Y06).pos R.pos,O];unfold aqF;rw[dC,dC]);have u:H6 ν=Yf [.int (lM (aqF F a x.2 e) g).1,.int (lM (aqF F a x.2 e) g).2]:=u;rw[φ]at u;exact rG (by show 2<=64;decide) λq7 H7 κ ζ γ=>k' _ H7 (ρ.trans γ) (YaA ζ Y8O (Y6P (fG (γ _ _ u))))
 ·refine k L Z H2 (ε.free hL) θ ?_ (ε.trans μ);have Y:bI H2 (((came F a x.2).filter λy=>onE y.1).map λy=>onD (y.1.1.sum,fJ (Y0k a y.1.1*wq x.2 y.1.1*s0 y.1))) Z:=Paired.toRepL pr;have e3:((came F a x.2).filter λy=>onE y.1).map (λy=>onD (y.1.1.sum,fJ (Y0k a y.1.1*wq x.2 y.1.1*s0 y.1)))=(onw F a x.2).map onD:=by
   unfold came onw;rw[List.filter_map,List.map_map,List.map_map];rfl
  rw[e3]at Y;exact Y
def aHy(F:Yb "spent" "spent" aDj)(T:Ye)(FQ68:Y2Q "total" a27 (jL K))(FQ66:Y6t 2 "times" K)(FQ50:Y1n 5 "onwards" a13 (sC K)):dO P w K mg base cV 6 f fd a19 (wP K):=by
 refine Y1j aIK;obtain @⟨H,Q,E,t,r,cv,a,F,W,M,S,N,B,C,fs,ws,iw,x,j,rt,rr,RO,f1,f4,hx,l,X,θ,I,k⟩:=h;refine Y5 (λψ A U s hr=>?_);have few:=RO.few;have J:0<S*(N*C^M)/\S*(N*C^M)<2^2500:=by
  refine Y0A (fN I.c0 RO.pz.1);have τ:=Ybr I.c1 RO.z;have ρ:1000000000000000*2^2000<2^2500:=Kk;exact aK τ ρ
 obtain⟨ac,vc,rfl,Y,ζ⟩:=θ;refine Y6c _ (fP FQ68 (Y76 ["looks","share"] ["looks","share","costs"] [3] (eG (lQ FQ50 (Yz) (Y0f) (Y02))) (cQ FQ66 (Y2O 2 Yz) (Y0f))));refine Y4c;refine sC.i rt rr RO f1 f4 hx l X λD ys H1 hD μ η κ=>Y1A D μ ?_;have α:bI H1 ((a.filter onE).map λe=>onD (e.1.sum,fJ (Y0k a e.1*wq x.2 e.1*Y2))) ys:=by unfold onw at η;rw[List.map_map]at η;exact η
 have fl0:=List.length_filter_le onE a;refine FH (as:=a.filter onE) (λ_=>true) (λe v=>dI H1 (onD (e.1.sum,fJ (Y0k a e.1*wq x.2 e.1*Y2))) v) (λe v H'=>Y3e H' (cS j e.1.sum*(Y0k a e.1*wq x.2 e.1*Y2)) v) (λx y H1 H2 s r=>r.flat s (dS _)) Oo μ (Paired.ofRepL α) (λv e H' p re R=>?_) (λL zs H2 hL ο φ ν=>?_)
 ·obtain⟨d,m⟩:=fY.mp p;have ε:Y3T:=of_decide_eq_true m;obtain⟨b,us,rfl,hb,β⟩:=oT (re.same R);obtain⟨u,y,rfl,ru,ξ⟩:=DK β;cases(show u=V.int (e.1.sum:Nat)from ru);refine⟨b,_,rfl,jA.of hb,rfl,λQ' h=>h H' (Y08),λH5 Q' δ _ k'=>?_⟩;have n:=I.len e d ε;obtain⟨g,ι⟩:∃g,j[e.1.sum]?=some g:=Y2c n;obtain⟨vg,Z,γ⟩:=ζ.get ι;have G:=I.at_ g (aE ι);refine Y05 (lG ((κ.trans R).trans δ _ _ Y) (dW Z) ?_);refine Y9;refine eJ.i ((γ.t ((κ.trans R).trans δ).t).v) (iZ.of (ξ.same δ)) G.low (Y06) (mL (Qn.f G.low (G.q.dvd (Nat.dvd_mul_right _ (N*C^M)))) J.1 (Y74 J.2) (Y4j (show 1000<=2^10 by decide))) (kS (show Qn (N*C^M) B (aX F a e.1*wq x.2 e.1*s0 e)from RO.aqs l d 0) RO.pz.1 RO.pz.2 RO.b2) λq6 H6 hq6 υ s6=>k' _ H6 s6 (fG ?_);have em:lM g (fJ (Y0k a e.1*wq x.2 e.1*Y2))=fJ (cS j e.1.sum*(Y0k a e.1*wq x.2 e.1*Y2)):=iR (hJ G.low Y06) Y06 (by rw[jR G.low.pos (Y06).pos,dC,dC,rY ι]);rw[υ,em]
 ·rw[NE]at ν;have χ:=MR (g:=λe:cZ=>fJ (cS j e.1.sum*(Y0k a e.1*wq x.2 e.1*Y2))) ν;have fl:∀f∈(a.filter onE).map (λe=>fJ (cS j e.1.sum*(aX F a e.1*wq x.2 e.1*s0 e))),Y1y (S*(N*C^M)) (1000*B):=λf hf=>by
   obtain⟨e,p,rfl⟩:=aN.mp hf;obtain⟨d,m⟩:=fY.mp p;have h:=(I.qn d (of_decide_eq_true m)).mul (RO.aqs l d 0);exact h.fq
  refine Y9I ο χ (uC fl J.1 (Y74 J.2) (by rw[aA];exact Oo) (aJ (dY 1000 RO.b) (show 1000*2^100<=2^690 by decide +kernel))) (λv H3 ω O=>?_);rw[VH (f:=λe:cZ=>cS j e.1.sum*(Y0k a e.1*wq x.2 e.1*Y2)) λe _=>⟨Y06,dC _⟩]at O;have ef:cW (a.filter onE) (λe:cZ=>cS j e.1.sum*(Y0k a e.1*wq x.2 e.1*Y2))=gJ F a (wq x.2) (cS j):=by
   unfold gJ;exact yZ λe _ p=>by rw[Classical.not_not.mp (of_decide_eq_false p)];grind
  rw[ef]at O;exact k v H3 ((κ.trans φ).trans ω) O
end
section
variable{F W M N B Ns:Nat}{es fs:Yj}
def GM(R:Y1x)(d:Ae):Y8 d=(if d=Y04 then 1 else 0)+Y0E (Y8 e.1*Y2*Y0S e.1):=by
 have all:∀n,Y9L n->Y4q F n d=(if d=Y04 then 1 else 0)+Y8b (es.take n) (Y8 e.1*Y2*Y0S e.1):=λn=>by
  induction n with
  | zero=>intro _;rw[List.take_zero,lL,jK];grind
  | succ n ih =>
   intro c;have a:=aC (show n<es.length by exact Oo);rw[gT a,gG,R.at a,ih Oo,oK];grind
 have:=all es.length (Yp)
 rwa [dL]at this
def BS(R:Y1x){d:Ae}(h:d ∉ es.map (·.1)):Y8 d=0:=by
 rw[GM R d];obtain⟨l,r,i,c⟩:=R.root;rw[Y4r (h (by rw[q,i,bE,c];exact bC ..))];rw[cY (g:=Y3x) Y7C,uG]
 ·grind
 ·by_cases z:Y2=0
  ·rw[z];grind
  ·have:Y0S e.1=0:=by
    unfold iF;rw[Y7x (λf j=>Y4r (h (by rw[<-q];exact R.fwd e a z f j))),iW]
   rw[this];grind
def lkE(es:Yj)(c:Ae):Option cZ:=es.find? λe=>Y10 e.1 c
def aEP(nd:(es.map (·.1)).Nodup){e:cZ}(he:e∈es):lkE es e.1=Y6G:=by
 unfold lkE
 induction es with
 | nil=>cases he
 | cons x es ih =>
  rw[bE,List.nodup_cons]at nd;rcases bN.mp he with rfl | he
  ·rw[List.find?_cons_of_pos (by simp)]
  ·have:x.1≠e.1:=λq=>nd.1 (by rw[q];exact Y42 e he);rw[List.find?_cons_of_neg (by simpa using this),ih nd.2 he]
def aBC{c:Ae}(h:c ∉ es.map (·.1)):lkE es c=none:=by
 unfold lkE;rw[List.find?_eq_none];intro e a q;exact h (aN.mpr ⟨e,a,by simpa using q⟩)
def xF(F:Nat)(es:Yj)(c:Ae)(j:Nat):Rat:=((lkE es c).map λe=>aX F es c*cS e.2 j).getD 0
def vG(R:Y1x){e:cZ}(he:e∈es)(j:Nat):xF F es e.1 j=Y8 e.1*cS e.2 j:=by unfold xF;rw[aEP R.nd he];rfl
def qA{c:Ae}(h:c ∉ es.map (·.1))(j:Nat):xF F es c j=0:=by unfold xF;rw[aBC h];rfl
def RX{α:Type}{l m:Yu}(h:l.Perm m)(f:Y31):cW l f=cW m f:=by
 induction h with
 | nil=>rfl
 | cons x _ ih=>rw[dA,dA,ih]
 | swap x y l=>rw[dA,dA,dA,dA];grind
 | trans _ _ h1 h2=>exact h1.trans h2
theorem IN{α:Type}[DecidableEq α]{f:Y31}:∀{l m:Yu},l.Nodup->(∀x∈l,x∈m)->m.Nodup->(∀x∈m,x ∉ l->f x=0)->cW m f=cW l f
 | [],m,_,_,_,h=>by
  rw[cY (g:=λ_=>0) λx hx=>h x hx (by simp),uG,jK]
 | a::l,m,nd,hs,ndm,h=>by
  rw[List.nodup_cons]at nd;have ha:=hs a (bC ..);rw[RX (List.perm_cons_erase ha),dA,dA];have:cW (m.erase a) f=cW l f:=IN nd.2 (λx hx=>(List.mem_erase_of_ne λq=>nd.1 (by rw[<-q];exact hx)).mpr (hs x (bG _ hx))) (ndm.erase a) λx hx c=>h x (List.mem_of_mem_erase hx) λq=>by
   rcases bN.mp q with rfl | q
   ·exact(List.Nodup.not_mem_erase ndm) hx
   ·exact c q
  rw[this]
def EI(g:Y0K):Y0E (g e.1)=cW (es.map (·.1)) g:=by unfold cW;rw[List.map_map];rfl
def AI(R:Y1x){m:Ab}(ndm:m.Nodup)(hs:∀c∈es.map (·.1),c∈m)(q:Y0K)(j:Nat):Y0E (Y8 e.1*cS e.2 j*q e.1)=Y3E m (xF F es c j*q c):=by
 rw[IN (l:=es.map (·.1)) (f:=λc=>xF F es c j*q c) R.nd hs ndm λc _ d=>by rw[qA d];grind,<-EI];exact cY λe a=>by rw[vG R a]
def TH(R:Y1x){g:Y0K}(h:∀d,g d=(if d=Y04 then 1 else 0)+Y0E (g e.1*Y2*Y0S e.1)):∀(n:Nat) (d:Ae),d.sum<=n->Y8 d=g d:=by
 have step:∀(n:Nat) (d:Ae),(∀e∈es,e.1.sum+1=d.sum->Y8 e.1=g e.1)->Y8 d=g d:=λn d hd=>by
  rw[GM R d,h d];congr 1;refine cY Y7C;by_cases z:d.sum=e.1.sum+1
  ·rw[hd e a z.symm]
  ·rw[CO (R.len e a) z];grind
 intro n
 induction n with
 | zero=>intro d hd;exact step 0 d λe _ q=>Oo
 | succ n ih=>intro d hd;exact step (n+1) d λe _ q=>ih e.1 Oo
def mA(F:Nat)(es fs:Yj)(s:Rat)(c:Ae):Rat:=s*Y8 c+(1-s)*Y0k fs c
def mX(F:Nat)(es fs:Yj)(s:Rat)(c:Ae)(j:Nat):Rat:=s*xF F es c j+(1-s)*xF F fs c j
noncomputable def mS (F W:Nat) (es fs:Yj) (s:Rat) (c:Ae):Ak:=(List.range (1+W)).map λj=>fJ (mX F es fs s c j/Y1b)
open Classical in
noncomputable def mB (F:Nat) (es fs:Yj) (s:Rat) (c:Ae):Nat:=if Y2J=0 then 1 else 0
def mR(F:Nat)(es fs:Yj)(s:Rat)(c:Ae):Prop:=Y1b≠0
noncomputable def mE (F W M:Nat) (es fs:Yj) (s:Rat):Yj:=ruG F M (Y5g F s) (mS F W es fs s)
structure gX(F W M:Nat)(es fs:Yj)(s:Rat):Prop where
 ra:Y1x
 rb:tF F fs
 f1:1<=F
 f4:F<=4
 m5:M<=5
 sa:∀e∈es,NT (1+W) e.2
 sb:∀e∈fs,NT (1+W) e.2
 oa:∀e∈es,e.1.sum<=M/\(Y3T->e.1.sum<M)
 ob:∀e∈fs,e.1.sum<=M/\(Y3T->e.1.sum<M)
 s0':0<=s
 s1:s<=1
def NT.sum1{n:Nat}{gs:Ak}(h:NT n gs):cF n (cS gs)=1:=by
 have:=h.one
 rwa [pQ,h.len]at this
def OD(R:Y1x)(hs:∀e∈es,NT (1+W) e.2)(c:Ae)(j:Nat):0<=xF F es c j:=by
 by_cases h:Y43 c (·.1)
 ·obtain⟨e,a,rfl⟩:=Y83;rw[vG R a];exact cB (R.nnf _) ((hs e a).nn j)
 ·rw[qA h];exact Rat.le_refl
def UO(R:Y1x)(hs:∀e∈es,NT (1+W) e.2)(c:Ae):cF (1+W) (xF F es c)=Y8 c:=by
 by_cases h:Y43 c (·.1)
 ·obtain⟨e,a,rfl⟩:=Y83;rw[bR (g:=λj=>Y8 e.1*cS e.2 j) λj _=>vG R a j,eT,(hs e a).sum1];grind
 ·rw[Y7x (λj _=>qA h j),iW,BS R h]
end
section
variable{F W M:Nat}{es fs:Yj}{s:Rat}
def gX.ann(I:Y1g)(c:Ae):0<=Y1b:=by
 have a:=cB I.s0' (I.ra.nnf c);have d:=cB (show(0:Rat)<=1-s by have:=I.s1;grind) (I.rb.nnf c);unfold mA;grind
def gX.xnn(I:Y1g)(c:Ae)(j:Nat):0<=mX F es fs s c j:=by
 have a:=cB I.s0' (OD I.ra I.sa c j);have d:=cB (show(0:Rat)<=1-s by have:=I.s1;grind) (OD I.rb I.sb c j);unfold mX;grind
def gX.xsum(I:Y1g)(c:Ae):cF (1+W) (mX F es fs s c)=Y1b:=by
 unfold mX mA;rw[nP,eT,eT,UO I.ra I.sa,UO I.rb I.sb]
def gX.keyA(I:Y1g)(hs:s≠0){c:Ae}(h:Y43 c (·.1)):mR F es fs s c:=by
 obtain⟨e,a,rfl⟩:=Y83;have d:=I.ra.posf a;have i:=cB (show(0:Rat)<=1-s by have:=I.s1;grind) (I.rb.nnf e.1);have g:0<s:=by have:=I.s0';grind
 have j:=Ycv d;unfold mR mA;grind
def gX.keyB(I:Y1g)(hs:s≠1){c:Ae}(h:c∈fs.map (·.1)):mR F es fs s c:=by
 obtain⟨e,a,rfl⟩:=Y83;have d:=I.rb.posf a;have i:=cB I.s0' (I.ra.nnf e.1);have g:0<1-s:=by have:=I.s1;grind
 have j:=Ycv d;unfold mR mA;grind
def gX.keys(I:Y1g){c:Ae}(h:mR F es fs s c):(s≠0/\Y43 c (·.1))\/(s≠1/\c∈fs.map (·.1)):=by
 refine Y6x (h ?_);unfold mA;have d:s*Y8 c=0:=by
  by_cases z:s=0
  ·rw[z];grind
  ·rw[BS I.ra λa=>q (Y2k z a)];grind
 have e:(1-s)*Y0k fs c=0:=by
  by_cases z:s=1
  ·rw[z];grind
  ·rw[BS I.rb λa=>q (Y2W z a)];grind
 rw[d,e];grind
def gX.onA(I:Y1g)(hs:s≠0){e:cZ}(he:e∈es)(h0:Y3T):mB F es fs s e.1=0:=by
 unfold mB;rw[if_neg];have d:=I.ra.posf he;have c:0<Y2:=by have:=I.ra.nn e he;grind
 have g:0<s:=by have:=I.s0';grind
 have h:=Ycv (Rat.mul_pos d c);have i:=cB (show(0:Rat)<=1-s by have:=I.s1;grind) (OD I.rb I.sb e.1 0);have a:xF F es e.1 0=Y8 e.1*Y2:=vG I.ra he 0;unfold mX;rw[a];grind
def gX.onB(I:Y1g)(hs:s≠1){e:cZ}(he:e∈fs)(h0:Y3T):mB F es fs s e.1=0:=by
 unfold mB;rw[if_neg];have d:=I.rb.posf he;have c:0<Y2:=by have:=I.rb.nn e he;grind
 have g:0<1-s:=by have:=I.s1;grind
 have h:=Ycv (Rat.mul_pos d c);have i:=cB I.s0' (OD I.ra I.sa e.1 0);have a:xF F fs e.1 0=Y0k fs e.1*Y2:=vG I.rb he 0;unfold mX;rw[a];grind
def gX.off(I:Y1g){c:Ae}(h:mB F es fs s c=0):(s≠0/\∃e∈es,e.1=c/\s0 e≠0)\/(s≠1/\∃e∈fs,e.1=c/\s0 e≠0):=by
 refine Y6x ?_;have:Y2J=0:=by
  unfold mX;have g:s*xF F es c 0=0:=by
   by_cases z:s=0
   ·rw[z];grind
   ·by_cases hc:Y43 c (·.1)
    ·obtain⟨e,a,rfl⟩:=aN.mp hc;have:Y2=0:=cI λy=>q (.inl (Y1h z e a y));rw[vG I.ra a,show cS e.2 0=s0 e from rfl,this];grind
    ·rw[qA hc];grind
  have d:(1-s)*xF F fs c 0=0:=by
   by_cases z:s=1
   ·rw[z];grind
   ·by_cases hc:c∈fs.map (·.1)
    ·obtain⟨e,a,rfl⟩:=aN.mp hc;have:Y2=0:=cI λy=>q (.inr (Y1h z e a y));rw[vG I.rb a,show cS e.2 0=s0 e from rfl,this];grind
    ·rw[qA hc];grind
  rw[g,d];grind
 unfold mB at h;rw[if_pos this]at h;cases h
def gX.vS(I:Y1g)(c:Ae){j:Nat}(hj:j<1+W):cS (mS F W es fs s c) j=mX F es fs s c j/Y1b:=by
 unfold cS mS;rw[aR,aG,bM hj];exact dC _
def gX.mul(I:Y1g){c:Ae}(h:mR F es fs s c){j:Nat}(hj:j<1+W):Y1b*cS (mS F W es fs s c) j=mX F es fs s c j:=by
 rw[I.vS c hj,Rat.div_def];have:Y1b≠0:=h;grind
def gX.tg(I:Y1g)(r:(Y0d).length<=400):vF F M (Y5g F s) (mS F W es fs s) (mR F es fs s) where
 f1:=I.f1
 f4:=I.f4
 m5:=I.m5
 on:=λc h=>by
  rcases I.off h with⟨_,e,a,rfl,d⟩ | ⟨_,e,a,rfl,d⟩
  ·exact(I.oa e a).2 d
  ·exact(I.ob e a).2 d
 r:=r
 hd:=λc p=>by
  refine Y3U (fJ (Y2J/Y1b)) ((List.range W).map λj=>fJ (mX F es fs s c (j+1)/Y1b)) ?_
  ·unfold mS;rw[Nat.add_comm,List.range_succ_eq_map,bE,List.map_map];rfl
  ·have B:0<Y1b:=by
    have m:=I.ann c;have i:Y1b≠0:=p;grind
   have C:=I.xnn c 0;have e:Y2J=Y1b*rv (fJ (Y2J/Y1b)):=by
    rw[dC,Rat.div_def];grind
   have low:=bZ (Y2J/Y1b);have y:=pV low.pos;have O:=kY low.pos;unfold mB;constructor
   ·intro l;rw[if_neg];intro z;rw[z]at e;have w:rv (fJ (Y2J/Y1b))=0:=by grind
    have:=iR low YA (by rw[w,nG]);rw[this]at l;exact Y6g l
   ·intro h;split at h
    ·cases h
    ·rename_i hn
     refine Y6x (hn ?_);have nn:0<=rv (fJ (Y2J/Y1b)):=by
      rw[dC,Rat.div_def];exact cB C (YcK B)
     have u:0<=(fJ (Y2J/Y1b)).1:=by
      have:0<=(Y2J/Y1b).num:=Rat.num_nonneg.mpr (by rw[<-dC (Y2J/Y1b)];exact nn);exact this
     have D:(fJ (Y2J/Y1b)).1=0:=Oo;rw[D]at y;have:rv (fJ (Y2J/Y1b))=0:=by grind
     rw[e,this];grind
 root:=by
  obtain⟨J,P,m,i⟩:=I.ra.root;obtain⟨N,L,G,A⟩:=I.rb.root;by_cases z:s=0
  ·exact I.keyB (by rw[z];decide) (by rw[G,bE,A];exact bC ..)
  ·exact I.keyA z (by rw[m,bE,i];exact bC ..)
 fwd:=λc p d f n=>by
  rcases I.off d with⟨z,e,a,rfl,g⟩ | ⟨z,e,a,rfl,g⟩
  ·exact I.keyA z (I.ra.fwd e a g f n)
  ·exact I.keyB z (I.rb.fwd e a g f n)
end
section
variable{F W M N B Ns Ds:Nat}{es fs:Yj}{s:Rat}
def gX.zero(I:Y1g){c:Ae}(h:¬mR F es fs s c)(j:Nat):mX F es fs s c j=0:=by
 unfold mX;have d:s*xF F es c j=0:=by
  by_cases z:s=0
  ·rw[z];grind
  ·rw[qA (es:=es) λa=>h (I.keyA z a)];grind
 have e:(1-s)*xF F fs c j=0:=by
  by_cases z:s=1
  ·rw[z];grind
  ·rw[qA (es:=fs) λa=>h (I.keyB z a)];grind
 rw[d,e];grind
def gX.s0m(I:Y1g)(c:Ae):s0 (c,mS F W es fs s c)=Y2J/Y1b:=I.vS c Oo
def gX.onm(I:Y1g){c:Ae}(h:mR F es fs s c):s0 (c,mS F W es fs s c)≠0↔mB F es fs s c=0:=by
 have e:=I.mul h (j:=0) Oo;have e:Y1b*s0 (c,mS F W es fs s c)=Y2J:=e;have g:Y1b≠0:=h;unfold mB;constructor
 ·intro d;rw[if_neg];intro z;rw[z]at e;exact d (by grind)
 ·intro a z;rw[z]at e;rw[if_pos (by grind)]at a;cases a
def gX.all(I:Y1g)(T:vF F M (Y5g F s) (mS F W es fs s) (mR F es fs s)):∀(n:Nat) {c:Ae},Y4h n->mR F es fs s c->c∈Y5O F M F s:=by
 have step:∀(n:Nat) {c:Ae},(∀d:Ae,d.sum+1=c.sum->mR F es fs s d->d∈Y5O F M F s)->mR F es fs s c->c∈Y5O F M F s:=λn c i p=>by
  by_cases z:c=Y04
  ·obtain⟨r,u⟩:=Yd9 M (Y5g F s);rw[z,u];exact bC ..
  ·rcases I.keys p with⟨g,j⟩ | ⟨g,j⟩
   ·obtain⟨e,a,l,f,m,rfl⟩:=I.ra.bwd c j z;have w:=I.ra.len e a;have hd:=i e.1 (by rw[gR Oo]) (I.keyA g (Y42 e a));exact xB I.f1 T.on hd (I.onA g a l) m
   ·obtain⟨e,a,l,f,m,rfl⟩:=I.rb.bwd c j z;have w:=I.rb.len e a;have hd:=i e.1 (by rw[gR Oo]) (I.keyB g (Y42 e a));exact xB I.f1 T.on hd (I.onB g a l) m
 intro n
 induction n with
 | zero=>intro c p h;exact step 0 (λd q=>Oo) h
 | succ n i=>intro c p h;exact step (n+1) (λd q hd=>i Oo hd) h
def yK:(mE F W M es fs s).map (·.1)=Y5O F M F s:=by unfold mE ruG;rw[List.map_map];exact List.map_id' _
def gX.mem(I:Y1g)(T:vF F M (Y5g F s) (mS F W es fs s) (mR F es fs s)){c:Ae}:c∈(mE F W M es fs s).map (·.1)↔mR F es fs s c:=by
 rw[yK];exact⟨T.ruC,I.all T _ (Yp)⟩
def gX.ent(I:Y1g){e:cZ}(he:e∈mE F W M es fs s):e=(e.1,mS F W es fs s e.1):=by
 obtain⟨c,_,rfl⟩:=aN.mp he
 rfl
def gX.rl(I:Y1g)(T:vF F M (Y5g F s) (mS F W es fs s) (mR F es fs s)):tF F (mE F W M es fs s) where
 root:=by
  obtain⟨r,i⟩:=Yd9 M (Y5g F s);exact⟨_,_,by unfold mE ruG;rw[i,bE],rfl⟩
 len:=λe g=>by
  obtain⟨c,a,rfl⟩:=aN.mp g;exact(AH I.f1 a).1
 nd:=by rw[yK];exact(sG F I.f4 M I.m5).sublist (jE I.f1)
 srt:=by
  unfold mE ruG;rw[List.pairwise_map];exact(pW F M).sublist (jE I.f1)
 fwd:=λe g p f u=>by
  obtain⟨c,a,rfl⟩:=aN.mp g;rw[yK];exact xB I.f1 T.on a ((I.onm (T.ruC a)).mp p) u
 bwd:=λd hd n=>by
  rw[yK]at hd;obtain⟨c,a,l,j,h,e⟩:=IW I.f1 hd n;exact⟨(c,mS F W es fs s c),Y42 c a,(I.onm (T.ruC a)).mpr l,j,h,e⟩
 nn:=λe g=>by
  obtain⟨c,a,rfl⟩:=aN.mp g;rw[I.s0m,Rat.div_def];have m:0<Y1b:=by
   have y:=I.ann c;have w:Y1b≠0:=T.ruC a;grind
  exact cB (I.xnn c 0) (YcK m)
def gX.flow(I:Y1g)(T:vF F M (Y5g F s) (mS F W es fs s) (mR F es fs s))(d:Ae):Y2f (mE F W M es fs s)=mA F es fs s d:=by
 refine TH (I.rl T) (Y6j) _ d (Yp);have l:(Y5O F M F s).Nodup:=(sG F I.f4 M I.m5).sublist (jE I.f1);have m:Y8b (mE F W M es fs s) (mA F es fs s e.1*Y2*Y0S e.1)=Y3E (Y5O F M F s) (Y2J*Y0S c):=by
  rw[<-yK (W:=W),<-EI (es:=mE F W M es fs s) λc=>Y2J*Y0S c];refine cY λe i=>?_;have n:=(I.mem T).mp (Y42 e i);have:=I.mul n (j:=0) Oo;rw[I.ent i];show mA F es fs s e.1*cS (mS F W es fs s e.1) 0*Y0S e.1=_;rw[this]
 rw[m];have r:Y3E (Y5O F M F s) (Y2J*Y0S c)=s*Y3E (Y5O F M F s) (xF F es c 0*Y0S c)+(1-s)*Y3E (Y5O F M F s) (xF F fs c 0*Y0S c):=by
  rw[<-lV,<-lV,<-jX];exact cY λc _=>by unfold mX;grind
 rw[r];have p:s*Y3E (Y5O F M F s) (xF F es c 0*Y0S c)=s*(Y8 d-if d=Y04 then 1 else 0):=by
  by_cases z:s=0
  ·rw[z];grind
  ·have h:=AI I.ra l (λc g=>I.all T _ (Yp) (I.keyA z g)) (λc=>Y0S c) 0;have a:=GM I.ra d;rw[<-h,a];have:Y0E (Y8 e.1*cS e.2 0*Y0S e.1)=Y0E (Y8 e.1*Y2*Y0S e.1):=rfl;rw[this];grind
 have u:(1-s)*Y3E (Y5O F M F s) (xF F fs c 0*Y0S c)=(1-s)*(Y2f fs-if d=Y04 then 1 else 0):=by
  by_cases z:s=1
  ·rw[z];grind
  ·have h:=AI I.rb l (λc g=>I.all T _ (Yp) (I.keyB z g)) (λc=>Y0S c) 0;have a:=GM I.rb d;rw[<-h,a];have:Y8b fs (Y0k fs e.1*cS e.2 0*Y0S e.1)=Y8b fs (Y0k fs e.1*Y2*Y0S e.1):=rfl;rw[this];grind
 rw[p,u];unfold mA;grind
def gX.x(I:Y1g)(T:vF F M (Y5g F s) (mS F W es fs s) (mR F es fs s))(c:Ae){j:Nat}(hj:j<1+W):xF F (mE F W M es fs s) c j=mX F es fs s c j:=by
 by_cases h:mR F es fs s c
 ·have g:=(I.mem T).mpr h;obtain⟨e,a,rfl⟩:=aN.mp g;rw[vG (I.rl T) a,I.flow T];have:=I.mul h hj;have d:=I.ent a;rw[show e.2=mS F W es fs s e.1 from congrArg Prod.snd d,this]
 ·rw[qA λq=>h ((I.mem T).mp q),I.zero h]
def WQ{P C:Nat}{x y:Rat}(hx:Qn P C x)(hy:Qn P C y)(hp:0<P)(h0:0<=x)(hxy:x<=y)(hy0:0<y)(hz:C*P<Y0t):tE 3000 (fJ (x/y)):=by
 obtain⟨X,a,l⟩:=hx;obtain⟨Y,c,j⟩:=hy;have d:(0:Rat)<(P:Rat):=by exact_mod_cast hp
 have g:0<Y:=by
  have:(0:Rat)<(Y:Rat):=by rw[<-c];exact Rat.mul_pos hy0 d
  exact_mod_cast this
 have X0:0<=X:=by
  have:(0:Rat)<=(X:Rat):=by rw[<-a];exact cB h0 (Rat.le_of_lt d)
  exact_mod_cast this
 have XY:X<=Y:=by
  have:(X:Rat)<=(Y:Rat):=by rw[<-a,<-c];exact Rat.mul_le_mul_of_nonneg_right hxy (Rat.le_of_lt d)
  exact_mod_cast this
 have f:Fn Y.toNat 1 (fJ (x/y)):=by
  refine Qn.fq ⟨X,?_,Oo⟩;have e:((Y.toNat:Nat):Rat)=(Y:Rat):=by
   have:((Y.toNat:Nat):Int)=Y:=Oo;rw[<-sK,this]
  rw[e,<-a,<-c,Rat.div_def];grind
 obtain⟨i,h⟩:=f.num Oo;exact Y2l Oo
def gX.ru(I:Y1g)(T:vF F M (Y5g F s) (mS F W es fs s) (mR F es fs s))(RA:Y1K)(RB:pM F W M N B Ns fs)(hs:Qn Ds 1 s)(ds:0<Ds)(few:(Y0d).length<=64)(hz:Ds*N*Ns^M<2^2000)(hb:2*B<=2^100):pM F W M (Ds*N) (2*B) Ns (mE F W M es fs s):=by
 have p:Qn Ds 1 (1-s):=by
  obtain⟨X,A,S⟩:=hs;have J:(0:Rat)<(Ds:Rat):=by exact_mod_cast ds
  have X0:0<=X:=by
   have:(0:Rat)<=(X:Rat):=by rw[<-A];exact cB I.s0' (Rat.le_of_lt J)
   exact_mod_cast this
  refine⟨(Ds:Int)-X,?_,Oo⟩;rw[Rat.intCast_sub,sK,<-A];grind
 have z:∀{es:Yj},Y1K->∀c,Y25 (Y8 c):=λR c=>by
  rename_i es'
  by_cases h:c∈es'.map (·.1)
  ·obtain⟨e,a,rfl⟩:=Y83;exact R.fl e a
  ·rw[BS R.rl h];exact Y72 _
 have G:∀{es:Yj},Y1K->∀c j,Y25 (xF F es c j):=λR c j=>by
  rename_i es'
  by_cases h:c∈es'.map (·.1)
  ·obtain⟨e,a,rfl⟩:=Y83;rw[vG R.rl a];exact R.fs e a j
  ·rw[qA h];exact Y72 _
 have D:∀c,Qn (Ds*N) (2*B) (Y1b):=λc=>((hs.mul (z RA c)).add (p.mul (z RB c))).le Oo;have y:∀c j,Qn (Ds*N) (2*B) (mX F es fs s c j):=λc j=>((hs.mul (G RA c j)).add (p.mul (G RB c j))).le Oo;have n0:0<Ds*N:=fN ds RA.n0;have nz:2*B*(Ds*N)<Y0t:=by
  have r:Ds*N*1<=Ds*N*Ns^M:=dY _ (Nat.pow_pos RA.s1);rw[Nat.mul_one]at r;have C:=Ybr hb (aK r hz);have U:2^100*2^2000<Y0t:=Kk;exact Oo
 have n:∀e∈mE F W M es fs s,mR F es fs s e.1:=λe a=>(I.mem T).mp (Y42 e a);have d:∀c,mR F es fs s c->0<Y1b:=λc h=>by
  have r:=I.ann c;have C:Y1b≠0:=h;grind
 refine⟨I.rl T,Y7C,Y7C,?_,λe a L=>?_,Y7C,λe a v=>?_,n0,RA.s1,hz,hb,RA.m⟩
 ·obtain⟨c,P,rfl⟩:=aN.mp a;exact(AH I.f1 P).2
 ·have w:=n e a;rw[show e.2=mS F W es fs s e.1 from congrArg Prod.snd (I.ent a)];have u:∀j,j<1+W->mX F es fs s e.1 j<=mA F es fs s e.1:=λj l=>by
   rw[<-I.xsum e.1];have r:=wL (mX F es fs s e.1) l;have C:0<=Y4C (1+W) (if i=j then 0 else mX F es fs s e.1 i):=uF λi _=>by
    split
    ·exact Rat.le_refl
    ·exact I.xnn _ _
   grind
  refine Y0b (by unfold mS;rw[aA,aW]) (λf O=>?_)
  ·obtain⟨j,l,rfl⟩:=aN.mp O;have l:=cC.mp l;refine⟨Y06,?_,WQ (y _ _) (D _) n0 (I.xnn _ _) (u j l) (d _ w) nz⟩;have:0<=mX F es fs s e.1 j/mA F es fs s e.1:=by
    rw[Rat.div_def];exact cB (I.xnn _ _) (YcK (d _ w))
   exact Rat.num_nonneg.mpr this
  ·rw[pQ,show(mS F W es fs s e.1).length=1+W by unfold mS;rw[aA,aW]];rw[bR (g:=λj=>(mA F es fs s e.1)⁻¹*mX F es fs s e.1 j) λj l=>by rw[I.vS _ l,Rat.div_def];grind,eT,I.xsum];have:=d _ w;grind
 ·unfold mE ruG;rw[aA];exact aJ (jE I.f1).length_le few
 ·have:=(I.onm (n e a)).mp (by rw[<-I.ent a];exact L);exact T.on e.1 this
 ·rw[I.flow T];exact D _
 ·rw[I.flow T];by_cases hv:v<1+W
  ·rw[show e.2=mS F W es fs s e.1 from congrArg Prod.snd (I.ent a),I.mul (n e a) hv];exact y _ _
  ·rw[show cS e.2 v=0 from nF (by rw[show e.2=mS F W es fs s e.1 from congrArg Prod.snd (I.ent a)];unfold mS;rw[aA,aW];exact Oo)];rw[show mA F es fs s e.1*0=0 by grind];exact Y72 _
end
abbrev aDu:Stmt:=(top 10)
def aIQ:Yd a00 a00 aDu:={}
abbrev aDt:Stmt:=(top 48)
def ZP:Yd ["rule","share","parts","entry","amount","part"] ["rule","share"] aDt:={}
inductive tO (K:Aa):Yq
 | i {H:Hp} {Q:VK} {E:XK} {x y:V} {p q:Rat} (h1:iZ K H (fJ p) x) (h2:iZ K H (fJ q) y) (h3:0<q) (z1:Y40 (fJ p)) (z2:Y40 (fJ q)) (k:zW H Q (fJ (p/q))):tO K [x,y] H Q E
def aFI{q:Rat}(h:0<q):0<(fJ q).1/\eK ((fJ q).2,(fJ q).1)/\rv ((fJ q).2,(fJ q).1)=q⁻¹:=by
 have low:=bZ q;have c:0<(fJ q).1:=by
  have a:=pV low.pos;rw[dC]at a;have:(0:Rat)<(((fJ q).1:Int):Rat):=by rw[<-a];exact Rat.mul_pos h (CN low.pos)
  exact_mod_cast this
 have d:eK ((fJ q).2,(fJ q).1):=⟨c,by show Y14 ((fJ q).2) ((fJ q).1);rw[Int.gcd_comm];exact low.low⟩;refine Y0b c d;have a:=pV low.pos;rw[dC]at a;have e:=pV d.pos;have e:rv ((fJ q).2,(fJ q).1)*(((fJ q).1:Int):Rat)=(((fJ q).2:Int):Rat):=e;have i:=kY low.pos;have g:=kY c;grind
def rT(H:Hp)(q:Rat)(xs:Y2y)(v:V):Prop:=∃b pv L vs,v=Y0p/\H b=Yf [pv,.ref L]/\Y3e H q pv/\H L=Yl vs/\Y1f (xs.map λx=>iY (fJ x)) vs
def TF(xs:Y2y):kE (xs.map λx=>iY (fJ x))=true:=by
 have:=kD (xs.map fJ)
 rwa [List.map_map]at this
theorem rT.same{H H':Hp}{q:Rat}{xs:Y2y}{v:V}(s:Y1)(h:rT H q xs v):rT H' q xs v:=by
 obtain⟨b,pv,L,d,c,a,e,i,g⟩:=h;exact⟨b,pv,L,d,c,s _ _ a,e.same s,s _ _ i,g.same s⟩
def rT.but{H H':Hp}{p:Addr}{kvs:Yv}{q:Rat}{xs:Y2y}{v:V}(s:Y1e)(hp:H p=Y1q)(h:rT H q xs v):rT H' q xs v:=by
 obtain⟨b,pv,L,e,d,c,g,a,i⟩:=h;have t:=aU.tT s hp;exact⟨b,pv,L,e,d,t _ _ c,g.flat t (dS _),s.at (λz=>by rw[z,hp]at a;cases a) a,bI.flat t (TF _) i⟩
def prX(F:Nat)(es:Yj)(W:Nat)(s:Rat)(e:cZ):Y2y:=(List.range (1+W)).map λj=>Y8 e.1*s*cS e.2 j
def HW(H:Hp)(F W:Nat)(es ds:Yj)(s:Rat)(kvs:Yv):Prop:=(s=0/\kvs=[])\/(s≠0/\Paired (λ(e:cZ) (p:List fS × V)=>p.1=Y2R e.1/\rT H (Y8 e.1*s) (prX F es W s e) p.2) ds kvs)
def HW.mono{H H':Hp}{F W:Nat}{es ds:Yj}{s:Rat}{kvs:Yv}(f:∀q xs v,rT H q xs v->rT H' q xs v)(h:HW H F W es ds s kvs):HW H' F W es ds s kvs:=by
 rcases h with h | ⟨c,a⟩
 ·exact .inl h
 ·exact Y2W c (Paired.imp' (λe p r=>⟨r.1,f _ _ _ r.2⟩) a)
inductive tN (K:Aa):Yq
 | i {H:Hp} {Q:VK} {E:XK} {r sv:V} {es:Yj} {F W M N B Ns Ds:Nat} {s:Rat} (h1:KZ K H es r) (h2:Y1K) (h3:1<=F) (h4:F<=4) (h5:AV K H (fJ s) sv) (h6:Qn Ds 1 s) (h7:0<Ds) (h8:N*Ds<2^2500) (h9:W<=4) (k:∀d kvs H',H d=none->Y1->H' d=Y1q->HW H' F W es es s kvs->Y0u d):tN K [r,sv] H Q E
theorem AJ{R:Y0i cZ (Y59 × V)}:∀{ds:Yj}{kvs:Yv},Paired (λ(e:cZ) (p:List fS × V)=>p.1=Y2R e.1/\R e p) ds kvs->kvs.map (·.1)=ds.map λe=>Y2R e.1
 | _,_,.nil=>rfl
 | _,_,.cons r t=>by rw[bE,bE,AJ t,r.1]
theorem BV{α β:Type}{R:Y0i α β}:∀{l:Yu}{zs:List β}{x:α}{v:β},Paired R l zs->R x v->Paired R (l++[x]) (zs++[v])
 | _,_,_,_,.nil,h=>.cons h .nil
 | _,_,_,_,.cons r t,h=>.cons r (BV t h)
def uX(f:Fr):Y5H (iY f):=(DO.tup (n:=1) (λd a=>by
 rcases bN.mp a with rfl | a
 ·exact DO.int _
 ·rw[bV.mp a];exact DO.int _)).ok
def HE(f g:Fr):PyData.eqv (iY f) (iY g)=Y10 f g:=by
 obtain⟨a,b⟩:=f;obtain⟨c,d⟩:=g;show((a == c)&&((b == d)&&true))=_;rw[Bool.eq_iff_iff];simp
section
def aHK(F:Yb "over" "over" aDu)(T:Ye)(FQ66:Y6t 2 "times" K):dO P w K mg base cV 3 f fd a00 (tO K):=by
 refine F.oky aIQ λO H Q E h=>?_;obtain @⟨H,Q,E,x,y,p,q,C,B,n,D,g,k⟩:=h;refine Y5 (λG A a s J=>?_);obtain⟨L,d,r⟩:=aFI n;obtain⟨N,rfl,e⟩:=B;refine⟨_,(aH (iS (eN rF (Y2d) aL) (aS OI) fK)
  (aH (Y5m (eN xD (Y2d) aL) (cQ FQ66 (aD 0) (Y3B (BD vP (Y2d)) (BD vP (Y2d)))))
  (Y1c (cQ FQ66 (aD 0) (Y3B Y2d Y2d))))),?_⟩
 refine Yr;intro I R;refine Y0q e;refine Y0X rfl _ (sX (bT λz=>by injection z with z;exact Oo) ?_);refine Y0q e;refine Y5i _ _ _ (sX (bT Oo) ?_);refine Y05 (Y7q e ?_);refine Y0q e;refine rG (by show 2<=64;decide) λM H3 m u j=>eJ.i (iZ.same j C) (iZ.new (f:=((fJ q).2,(fJ q).1)) u) (Y06) d D ⟨g.2,g.1⟩ ?_;have l:lM (fJ p) ((fJ q).2,(fJ q).1)=fJ (p/q):=Ya8 d (by rw[jR (Y06).pos d.pos,r,dC,dC,Rat.div_def]);rw[l];exact k.of j
def aHJ(F:Yb "parts_of" "parts_of" aDt)(T:Ye)(FQ18:Y2Q "amounts" a43 (mZ K))(FQ66:Y6t 2 "times" K):dO P w K mg base cV 4 f fd ["rule","share"] (tN K):=by
 refine Y1j ZP;obtain @⟨H,Q,E,r,sv,l,F,W,M,N,B,Ns,ε,n,rr,RO,f1,f4,rs,sq,d0,nd,w4,k⟩:=h;refine Yak ?_;obtain⟨a,xs,rfl,ν,lx,rxs⟩:=id rr;have few:=RO.few;have nd0:0<N*ε:=fN RO.n0 d0;refine⟨_,(aH (Y1D ZP.nd nK)
  (aH (gK PassesOwn.never rfl (lF true true rfl T.b_zip (Y1S 0 (Y0y FQ18 0))) (Y7h 3 ZP.nd 4 ZP.nd lC) (aH (Y4b 5 ZP.nd (cQ FQ66 (Y17 4) (Y0f)))
  (aS (iS (Y1r (aED K hr.units) 5 (Ycw Y9i rfl)) (aS (jC hr.u1 (Y02) (Y17 3) (dX (Y1S 5 (Y7p ["one","part"] [5] (tG (Y17 3)) (Y2A FQ66 1 0)))))) fK))))
  (Y2z 2))),?_⟩
 refine Yr;intro d_ n_;intro p ξ;have O:=Y6N [] ξ;have ζ:(upd H p (.dT [])) p=Y07 []:=bK;generalize upd H p (.dT [])=H0 at O ζ;refine Y0g;refine mZ.i (rr.t O.t) RO f1 f4 λam ys H2 s2 μ ly k2=>?_;have I:=O.trans s2;have S:=s2 _ _ ζ;refine Y0F a am xs ys (I _ _ ν) μ ?_;have na:a≠p:=λz=>by rw[z,ξ]at ν;cases ν
 have φ:am≠p:=λz=>by rw[z,S]at μ;cases μ
 refine YcV xs ys (∃(χ o4 o5:Am) (d:Yv),σ=[Y4l,some sv,Y3 p,χ,o4,o5]/\aU p H2 H'/\H' p=Y07 d/\HW H' F W l (l.take i) n d) (Y0F _ _ _ [] ((Y08).but) S (by by_cases z:n=0;exact Y2k z rfl;exact Y2W z .nil)) (λi σ H' ⟨_,_,_,_,_,b',_⟩=>⟨b'.at na (I _ _ ν),b'.at φ μ⟩) ?_ ?_
 ·rintro i y z q3 σ H3 H4 hy hz ⟨χ,o4,o5,d,rfl,η,e3,G⟩ hq3 e4 κ;obtain⟨e,Y,re⟩:=rxs i y hy;have C:=aE Y;have hi:i<l.length:=(aB.mp Y).1;have t23:=aU.tT η S;have X:=t23.trans κ.t;have γ:=I.t.trans X;obtain⟨b,cu,v,rfl,hb,ψ,τ⟩:=re.t γ;obtain⟨bz,cz,va,β,ι,_,fva⟩:=k2 i e Y;rw[hz]at β;cases β;have R:H4 p=Y07 d:=κ _ _ e3;refine⟨q3,_,rfl,jA.of e4,rfl,_,_,rfl,_,_,rfl,rfl,Yr⟩;intro d_ n_;refine Y0T (X _ _ ι);refine Y9;have dz:ε<Y0t:=by
   have L:1*ε<=N*ε:=bO _ RO.n0;rw[Nat.one_mul]at L;exact Y81 L nd
  refine eJ.i (fva.t X).v (rs.t γ).v (Y06) (Y06) (kS (RO.fl e C) RO.n0 RO.nz RO.b2) (Yar sq.fq d0 dz) λq5 H5 hq5 ο U=>?_;rw[aEL]at ο;have pq:Qn (N*ε) B (Y0k l e.1*n):=by have:=(RO.fl e C).mul sq;rwa [Nat.mul_one]at this
  have hnz:iZ K H5 (0,1) (Y9i):=Y00 c.NOUGHT (wM T.o_NOUGHT);refine Y6 (reK (iZ.new ο).k hnz.k (uX _) (uX _) ?_);rw[HE];refine Y9;have fpos:=RO.rl.posf C;by_cases z:n=0
  ·have ez:fJ (Y0k l e.1*n)=(0,1):=by rw[z,show aX F l e.1*0=0 by grind,CS]
   rw[ez];refine sX Dd (Y0F _ _ _ d (η.trans (κ.trans U).but) (U _ _ R) ?_);rcases G with⟨_,rfl⟩ | ⟨h,_⟩
   ·exact Y2k z rfl
   ·exact absurd z h
  ·have en:¬fJ (Y0k l e.1*n)=(0,1):=λq=>by
    have L:=congrArg rv q;rw[dC,show rv (0,1)=0 from nG]at L;have:Y0k l e.1≠0:=by grind
    rcases Rat.mul_eq_zero.mp L with h | h
    ·exact this h
    ·exact z h
   rw[bT en];refine zI Dd (Y2B);intro d_;rcases G with⟨h,_⟩ | ⟨_,G⟩
   ·exact absurd h z
   obtain⟨sa,sx,rfl,θ,J⟩:=τ;have ls:e.2.length=1+W:=(RO.sy e C).len;refine Y86 (U _ _ hb);refine Y41 sa (Y7P (U _ _ θ)) (rK (λj y H'=>Y3e H' (Y0k l e.1*n*cS e.2 j) y) (λj y H1 H2 s r=>r.flat s (dS _)) (by rw[J.len,ls];exact Oo) (U _ _ θ) (λj x H' Q' hx s' k'=>?_) (λD zs H6 hD e6 s6 δ hr6=>?_))
   ·obtain⟨g,hg,rg⟩:=J.at_ j x hx;obtain⟨lg,_,zg⟩:=(RO.sy e C).at_ g (aE hg);refine Y0g;refine eJ.i (iZ.new (s' _ _ ο)) ((rg.t U.t).t s'.t).v (Y06) lg (kS pq nd0 nd RO.b2) (zg.up Dd) λρ H7 ω υ Z=>k' _ H7 Z (fG ?_);have em:lM (fJ (Y0k l e.1*n)) g=fJ (Y0k l e.1*n*cS e.2 j):=Ya8 lg (by rw[jR (Y06).pos lg.pos,dC,dC,rY hg]);rw[<-em];exact υ
   ·refine rG (by show 2<=64;decide) λρ H7 ω υ Z=>?_;have m:=(U.trans s6).trans Z;refine Y86 (m _ _ hb);have lk:d.length=(l.take i).length:=G.length.symm;refine Y5w (m _ _ R) e.1 (by rw[fL];exact m _ _ ψ) (by rw[lk,gB];exact Oo) (λH8 e8 b8=>?_);have keys:=AJ G;have new:gD d (Y2R e.1)=none:=by
     cases q:gD d (Y2R e.1)with
     | none=>rfl
     | some u =>
      exfalso;have L:=GA q;rw[keys]at L;obtain⟨e',h2,h3⟩:=aN.mp L;have h4:e'.1=e.1:=Y3C h3;have h5:=RO.rl.nd;rw[<-List.take_append_drop i l,bD]at h5;have h6:e.1∈(l.drop i).map (·.1):=by
       rw[List.drop_eq_getElem_cons hi,bE];have:l[i]=e:=by rw[aC hi]at Y;exact fX Y
       rw[this];exact bC ..
      exact(List.nodup_append.mp h5).2.2 _ (aN.mpr ⟨e',h2,h4⟩) _ h6 rfl
    rw[IZ _ new]at e8;refine Y0F _ _ _ _ ((η.trans (κ.trans m).but).trans b8) e8 (.inr (Y0A z));rw[gT Y];have α:=m _ _ R;have lst:H7 D=Yl zs:=Z _ _ e6;have pt:rT H7 (Y0k l e.1*n) (prX F l W n e) (.ref ρ):=by
     refine⟨ρ,_,D,zs,rfl,υ,fG (Z _ _ (s6 _ _ ο)),lst,?_⟩;refine bI.ofIdx (by unfold prX;rw[δ,aA,aA,aW,J.len,ls]) λj y hj=>?_;have hj':j<1+W:=by
      have:=(aB.mp hj).1;rw[δ,J.len,ls]at this;exact this
     exact Y0U (by unfold prX;rw[aG,aG,bM hj'];rfl) ((hr6 j y hj).same Z)
    exact BV (Paired.imp' (λe p r=>⟨r.1,((r.2.same (κ.trans m)).but b8 α)⟩) G) (Y5 (pt.but b8 α))
 ·rintro σ H3 ⟨χ,o4,o5,d,rfl,η,e3,G⟩;refine Y9;rw[show l.take (min xs.length ys.length)=l from List.take_of_length_le Oo]at G;exact k p d H3 ξ (aT.thru ξ I η) e3 G
end
abbrev aAR:Stmt:=(top 49)
def aFd:Yd ["one","other","whole"] a00 aAR:={}
abbrev Po:=Option (Rat × Y2y)
def PtO(H:Hp)(o:Po)(v:V):Prop:=match o with
 | none=>v=.non
 | some p=>rT H p.1 p.2 v
def EM(o:Po):Rat:=(o.map (·.1)).getD 0
def EG(o:Po)(j:Nat):Rat:=(o.map λp=>p.2.getD j 0).getD 0
structure UG(m P C:Nat)(o:Po):Prop where
 pos:∀p,o=some p->0<p.1/\Qn P C p.1/\p.2.length=m/\∀x∈p.2,Qn P C x
@[irreducible] def qC(K:Aa)(n:Nat):Sp:=λvs H Q _=>∃(x y:V) (a b:Po) (m P C:Nat),vs=[x,y]/\PtO H a x/\PtO H b y/\1<=n/\(a≠none\/(2<=n/\b≠none))/\UG m P C a/\UG m P C b/\0<P/\P<2^2500/\C<=2^190/\m<=5/\∀v H',Y1->Y3D H' ((List.range m).map λj=>fJ ((EG a j+EG b j)/(EM a+EM b))) v->Y1L
def IR{K:Aa}{n:Nat}{H:Hp}{Q:VK}{E:XK}{x y:V}{a b:Po}{m P C:Nat}(h1:PtO H a x)(h2:PtO H b y)(h3:1<=n)(h4:a≠none\/(2<=n/\b≠none))(h5:UG m P C a)(h6:UG m P C b)(h7:0<P)(h8:P<2^2500)(h9:C<=2^190)(h10:m<=5)(k:∀v H',Y1->Y3D H' ((List.range m).map λj=>fJ ((EG a j+EG b j)/(EM a+EM b))) v->Y1L):qC K n [x,y] H Q E:=by
 unfold qC;exact⟨x,y,a,b,m,P,C,rfl,h1,h2,h3,h4,h5,h6,h7,h8,h9,h10,k⟩
def CQ{H:Hp}{xs:Y2y}{vs:Al}(r:Y1f (xs.map λx=>iY (fJ x)) vs){i:Nat}{v:V}(h:vs[i]?=Ys):∃x,Y0s=Y7/\Y3e H x v:=by
 have d:Y1f ((xs.map fJ).map iY) vs:=by rw[List.map_map];exact r
 obtain⟨f,a,c⟩:=fC d h;rw[aG]at a;cases hx:Y0s with
 | none=>rw[hx]at a;cases a
 | some x=>rw[hx]at a;cases a;exact Y00 x c
section
def aG5(F:Yb "says_of_parts" "says_of_parts" aAR)(T:Ye):dO P w K mg base cV 4 f fd a00 (qC K 0):=by
 refine F.okw aFd (YdP) (λg A d s H e Q E i h=>?_)
 ·unfold qC at h;obtain⟨x,y,a,b,m,P,C,_,_,_,h,_⟩:=h;exact Oo
 ·unfold qC at h;obtain⟨x,y,a,b,m,P,C,_,_,_,h,_⟩:=h;exact Oo
def aHA(n:Nat)(F:Yb "says_of_parts" "says_of_parts" aAR)(T:Ye)(FQ51:Y69 3 "over" (tO K))(FQ54:Y69 2 "plus" (kJ K))(FQ61:Y69 (4+n) "says_of_parts" (qC K n)):dO P w K mg base cV (4+n+1) f fd a00 (qC K (n+1)):=by
 refine Y1j aFd;unfold qC at h;obtain⟨x,y,a,b,m,Pn,C,rfl,pa,pb,n1,hor,oa,ob,B,I,τ,m5,k⟩:=h;refine Y5 (λcdv A outer s κ=>?_);refine⟨_,(aH (Y5m (Y1r pD 0 iV) (Yb7 FQ61 Oo (Y1S 1 Yz)))
  (aH (Y5m (Y1r pD 1 iV) (Y57 dQ (by rfl) Kk ["part","one"] [0] (eG (Y2e)) (Yb7 FQ51 Oo (Y1S 0 (Y2O 1 aL)))))
  (aH (Y4b 2 aFd.nd (Yb7 FQ54 Oo (Y2s Y2e Y2d)))
  (Y1c (YcG dQ (by rfl) Kk (Y18 (Y76 ["first","second"] ["first","second","whole"] [2] (lF false false rfl T.b_zip (Y2s Y2e Y2d)) (Yb7 FQ51 Oo (Y2s (Yb7 FQ54 Oo (Y1S 0 Y0f)) Y02))))))))),?_⟩
 refine Yr;intro d_ n_;refine Y6K;cases a with
 | none =>
  have Y:x=.non:=pa;subst Y;refine zI (cO rfl) (Y2B);intro d_;have hb:2<=n+1/\b≠none:=hor.resolve_left λq=>q rfl;refine Y0g;refine IR pb pa Oo (.inl hb.2) ob oa B I τ m5 λv H' N r'=>k v H' N ?_;have υ:∀j,EG b j+EG none j=EG none j+EG b j:=λj=>Rat.add_comm _ _;have β:EM b+EM none=EM none+EM b:=Rat.add_comm _ _;rw[β]at r';simp only[υ]at r';exact r'
 | some pr =>
  obtain⟨e,d⟩:=pr;obtain⟨hq1,W,ε,ζ⟩:=oa.pos _ rfl;have ε:d.length=m:=ε;obtain⟨b1,pv1,L1,X,rfl,J,η,M,R⟩:=(show rT H e d x from pa);refine sX (bT λz=>by cases z) Y6K;have lv1:X.length=m:=by have:=bI.len R;rw[aA]at this;exact Oo
  cases b with
  | none =>
   have hy:y=.non:=pb;subst hy;refine zI (cO rfl) (Y2B);intro d_;refine Y0T J;refine Y1A L1 M (fD (λj y H'=>∃x,d[j]?=Y7/\Y3e H' (x/e) y) (λj y H1 H2 s ⟨x,ω,ψ⟩=>⟨x,ω,ψ.flat s (dS _)⟩) Oo M (λj v H' Q' hv N k'=>?_) (λD δ H1 hD υ s1 hz hr1=>?_))
   ·obtain⟨x,Y,Z⟩:=CQ R hv;refine Y86 (N _ _ J);exact tO.i (iZ.of (Z.same N)) (iZ.of (η.same N)) hq1 (kS (ζ x (aE Y)) B I (Y4j τ)) (kS W B I (Y4j τ)) λr H2 hq2 β s2=>k' _ H2 s2 ⟨x,Y,fG β⟩
   ·refine Y0X D δ (Y6W υ ?_);have sl:=Y3b δ hl;refine k _ _ (s1.trans sl) (dI.tup bK (bI.ofIdx (by rw[hz,aA,aA,aW];exact Oo) λj y μ=>?_));obtain⟨x,Y,Z⟩:=hr1 j y μ;have U:j<m:=by have:=(aB.mp μ).1;exact Oo
    refine Y0b _ (by rw[aG,aG,bM U];rfl);have β:Ya5 (e,d) j=x:=by show Y7a j=x;rw[aR,Y];rfl
    show Y3e _ ((Ya5 (e,d) j+EG none j)/(EM (some (e,d))+EM none)) y;rw[β,show EG none j=0 from rfl,show EM (some (e,d))=e from rfl,show EM none=0 from rfl,show x+0=x by grind,show e+0=e by grind];exact Z.same sl
  | some pr2 =>
   obtain⟨r,g⟩:=pr2;obtain⟨hq2,θ,γ,χ⟩:=ob.pos _ rfl;have γ:g.length=m:=γ;obtain⟨b2,pv2,Lb,S,rfl,ν,rp2,ξ,ι⟩:=(show rT H r g y from pb);have lv2:S.length=m:=by have:=bI.len ι;rw[aA]at this;exact Oo
   have ο:C<=2^200:=Y4j τ;have c3:C+C<=2^200:=by
    have:(2:Nat)^190+2^190<=2^200:=Kk;exact Oo
   refine sX (bT λz=>by cases z) Y9;refine lG J rfl (Y0T ν);refine kJ.i (iZ.of η) (iZ.of rp2) (Y06) (Y06) (kS W B I ο) (kS θ B I ο) λq3 H3 hq3 e3 O=>?_;rw[ZZ]at e3;have wq':Qn Pn (C+C) (e+r):=W.add θ;have w0:0<e+r:=by grind
   refine Y0T (O _ _ J);refine Y0T (O _ _ ν);refine Y0F L1 Lb X S (O _ _ M) (O _ _ ξ) (kP (b1:=false) (b2:=false) (xs:=X) (ys:=S) (λj y H'=>∃p u,d[j]?=some p/\g[j]?=Yo/\Y3e H' ((p+u)/(e+r)) y) (λj y H1 H2 s ⟨p,u,ω,ψ,h3⟩=>⟨p,u,ω,ψ,h3.flat s (dS _)⟩) Oo (O _ _ M) (O _ _ ξ) Oo (λj v1 v2 H' Q' hv1 hv2 N k'=>?_) (λD δ H4 hD e4 s4 hz φ=>?_))
   ·obtain⟨p,L,rx1⟩:=CQ R hv1;obtain⟨u,G,rx2⟩:=CQ ι hv2;have n1:=ζ p (aE L);have n2:=χ u (aE G);have α:=O.trans N;refine Y0g;refine kJ.i (iZ.of (rx1.same α)) (iZ.of (rx2.same α)) (Y06) (Y06) (kS n1 B I ο) (kS n2 B I ο) λq5 H5 hq5 ρ s5=>?_;rw[ZZ]at ρ;refine Y9;exact tO.i (iZ.of (fG ρ)) (iZ.of (fG ((N.trans s5) _ _ e3))) w0 (kS (n1.add n2) B I c3) (kS wq' B I c3) λq6 H6 hq6 e6 s6=>k' _ H6 (s5.trans s6) ⟨p,u,L,G,fG e6⟩
   ·refine Y0X D δ (Y6W e4 ?_);have sl:=Y3b δ hl;refine k _ _ ((O.trans s4).trans sl) (dI.tup bK (bI.ofIdx (by rw[hz,aA,aA,aW];exact Oo) λj y μ=>?_));obtain⟨p,u,L,G,Z⟩:=φ j y μ;have U:j<m:=by have:=(aB.mp μ).1;exact Oo
    refine Y0b _ (by rw[aG,aG,bM U];rfl);show Y3e _ ((Ya5 (e,d) j+Ya5 (r,g) j)/(EM (some (e,d))+EM (some (r,g)))) y;have ρ:Ya5 (e,d) j=p:=by show Y7a j=p;rw[aR,L];rfl
    have e6:Ya5 (r,g) j=u:=by show g.getD j 0=u;rw[aR,G];rfl
    rw[ρ,e6,show EM (some (e,d))=e from rfl,show EM (some (r,g))=r from rfl];exact Z.same sl
end
abbrev aDA:Stmt:=(top 47)
def ZQ:Yd ["one","other","share","one_parts","other_parts","table","counts"] a45 aDA:={}
def aBv{Ds:Nat}{s:Rat}(hs:Qn Ds 1 s)(ds:0<Ds)(h0:0<=s)(h1:s<=1):Qn Ds 1 (1-s):=by
 obtain⟨X,a,d⟩:=hs;have c:(0:Rat)<(Ds:Rat):=by exact_mod_cast ds
 have X0:0<=X:=by
  have:(0:Rat)<=(X:Rat):=by rw[<-a];exact cB h0 (Rat.le_of_lt c)
  exact_mod_cast this
 refine⟨(Ds:Int)-X,?_,Oo⟩;rw[Rat.intCast_sub,sK,<-a];grind
theorem WV{H:Hp}{F W:Nat}{es:Yj}{s:Rat}:∀{ds:Yj}{kvs:Yv},Paired (λ(e:cZ) (p:List fS × V)=>p.1=Y2R e.1/\rT H (Y8 e.1*s) (prX F es W s e) p.2) ds kvs->(ds.map (·.1)).Nodup->∀e∈ds,∃v,Y2Z e.1=Ys/\rT H (Y8 e.1*s) (prX F es W s e) v
 | _,_,.nil,_,e,he=>by cases he
 | d::ds,p::kvs,.cons r t,nd,e,he=>by
  rw[bE,List.nodup_cons]at nd;rcases bN.mp he with rfl | he
  ·exact⟨p.2,jI (by rw[r.1]),r.2⟩
  ·obtain⟨v,h1,h2⟩:=WV t nd.2 e he;refine⟨v,?_,h2⟩;have:¬p.1=kT (ci e.1):=λz=>nd.1 (by
    rw[r.1]at z;rw[show d.1=e.1 from jU (jS z)];exact aN.mpr ⟨e,he,rfl⟩)
   rw[jJ this];exact h1
def HW.po{H:Hp}{F W M N B Ns Ds:Nat}{es:Yj}{s:Rat}{kvs:Yv}(h:HW H F W es es s kvs)(R:Y1K)(hs:Qn Ds 1 s)(s0':0<=s)(c:Ae) :
  ∃a:Po,PtO H a ((gD kvs (kT (ci c))).getD .non)/\EM a=s*Y8 c/\(∀j,j<1+W->EG a j=s*xF F es c j)/\UG (1+W) (N*Ds) B a/\((s≠0/\Y43 c (·.1))->a≠none):=by
 have d:(¬(s≠0/\Y43 c (·.1)))->Y2Z c=none->∃a:Po,PtO H a ((gD kvs (kT (ci c))).getD .non)/\EM a=s*Y8 c/\(∀j,j<1+W->EG a j=s*xF F es c j)/\UG (1+W) (N*Ds) B a/\((s≠0/\Y43 c (·.1))->a≠none):=λm A=>by
  refine⟨none,by rw[A];rfl,?_,λj _=>?_,⟨λp q=>by cases q⟩,λq=>absurd q m⟩
  ·by_cases z:s=0
   ·rw[z];show(0:Rat)=_;grind
   ·rw[BS R.rl λi=>m ⟨z,i⟩];show(0:Rat)=_;grind
  ·by_cases z:s=0
   ·rw[z];show(0:Rat)=_;grind
   ·rw[qA λi=>m ⟨z,i⟩];show(0:Rat)=_;grind
 rcases h with⟨z,rfl⟩ | ⟨z,h⟩
 ·exact d (λq=>q.1 z) rfl
 ·by_cases i:Y43 c (·.1)
  ·obtain⟨e,g,rfl⟩:=aN.mp i;obtain⟨v,l,r⟩:=WV h R.rl.nd e g;refine⟨some (Y8 e.1*s,prX F es W s e),by rw[l];exact r,?_,λj n=>?_,⟨λp q=>?_⟩,λ_ q=>by cases q⟩
   ·show Y8 e.1*s=_;grind
   ·show(prX F es W s e).getD j 0=_;unfold prX;rw[aR,aG,bM n,vG R.rl g];show Y8 e.1*s*cS e.2 j=_;grind
   ·cases q;refine⟨Rat.mul_pos (R.rl.posf g) (by grind),?_,by unfold prX;rw[aA,aW],λx w=>?_⟩
    ·have:=(R.fl e g).mul hs;rwa [Nat.mul_one]at this
    ·obtain⟨j,_,rfl⟩:=aN.mp w;have:=(R.fs e g j).mul hs;rw[Nat.mul_one]at this;rw[show aX F es e.1*s*cS e.2 j=aX F es e.1*cS e.2 j*s by grind];exact this
  ·refine d (λq=>i q.2) ?_;cases q:Y2Z c with
   | none=>rfl
   | some u =>
    exfalso;have l:=GA q;rw[AJ h]at l;obtain⟨e,g,y⟩:=aN.mp l;exact i (by rw[<-Y3C y];exact Y42 e g)
def aC7{K:Aa}{H:Hp}{gs:Ak}{v:V}(h:Y3D H gs v):DZ K H gs v:=by
 obtain⟨j,g,rfl,a,r⟩:=sE h;refine Y0h j g a ⟨gZ r,λi x d=>?_⟩;obtain⟨f,e,c⟩:=fC r d;exact⟨f,e,.inl c⟩
def QA{H:Hp}{kvs:Yv}{ys:Al}{cs:Ab}(h:DL H kvs ys)(e:kvs.map (·.1)=cs.map λc=>Y2R c){i:Nat}{v:V}(hv:Y1m=Ys):∃c b,cs[i]?=Y1v/\v=Y0p/\H b=Yf ((ci c).map V.int):=by
 have m:i<kvs.length:=by rw[<-h.1];exact(aB.mp hv).1
 have d:=aC m;obtain⟨b,g,j⟩:=h.2 i _ d;rw[hv]at g;cases g;have a:=congrArg (λl:List (List fS)=>l[i]?) e;have a:(kvs.map (·.1))[i]?=(cs.map λc=>Y2R c)[i]?:=a;rw[aG,aG,d]at a;cases hc:cs[i]? with
 | none=>rw[hc]at a;cases a
 | some c =>
  rw[hc]at a;have n:kvs[i].1=Y2R c:=fX a;refine Y1h c b rfl ?_;rw[j,n];congr 2;exact CJ (ci c)
def ksP(s:Rat)(es:Yj):Ab:=if s=0 then[] else es.map (·.1)
def HW.ks{H:Hp}{F W:Nat}{es:Yj}{s:Rat}{kvs:Yv}(h:HW H F W es es s kvs):kvs.map (·.1)=(ksP s es).map λc=>Y2R c:=by
 unfold ksP;rcases h with⟨z,rfl⟩ | ⟨z,h⟩
 ·rw[if_pos z];rfl
 ·rw[if_neg z,AJ h,List.map_map];rfl
inductive wR (K:Aa):Yq
 | i {H:Hp} {Q:VK} {E:XK} {x y sv:V} {es fs:Yj} {F W M N B Ns Ds:Nat} {s:Rat} (h1:KZ K H es x) (h2:KZ K H fs y) (h3:AV K H (fJ s) sv) (h4:Y1g) (h5:Y1K) (h6:pM F W M N B Ns fs) (h7:Qn Ds 1 s) (h8:0<Ds) (h9:N*Ds<2^2500) (h10:W<=4) (h11:(Y0d).length<=64) (k:∀v H',Y1->KZ K H' (mE F W M es fs s) v->Y1L):wR K [x,y,sv] H Q E
section
def aHQ(F:Yb "mixed" "mixed" aDA)(T:Ye)(FQ52:Y1n 4 "parts_of" ["rule","share"] (tN K))(FQ42:Y69 3 "less" (qW K))(FQ61:Y69 6 "says_of_parts" (qC K 2))(FQ60:Y1n 5 "rule_within" a08 (qP K))(FQ59:Y01 "rule_faces" a43 (jQ K)):dO P w K mg base cV 7 f fd a45 (wR K):=by
 refine Y1j ZQ;obtain @⟨H,Q,E,x,y,sv,es,fs,F,W,M,N,B,Ns,Ds,l,rx,ry,rs,I,RA,RB,sq,ω,nd,w4,few,k⟩:=h;refine Yak ?_;have nd0:0<N*Ds:=fN RA.n0 ω;have dz:Ds<Y0t:=by
  have Y:1*Ds<=N*Ds:=bO _ RA.n0;rw[Nat.one_mul]at Y;exact Y81 Y nd
 have ν:=aBv sq ω I.s0' I.s1;refine⟨_,(aH (Y2j 3 ZQ.nd FQ52 0 Y02)
  (aH (Y2j 4 ZQ.nd FQ52 1 (cQ FQ42 (Ybo Ybc T.g_ONE rfl) (Y02)))
  (aH (cP (i:=5) ZQ.nd nK)
  (aH (Y6m (eG (cD vR (jW (KM rfl) (by rfl) T.b_list Kk (Y4U 3)) (jW (KM rfl) (by rfl) T.b_list Kk (Y4U 4)))) 6 ZQ.nd (jC hr.u1 (aD 5) (aD 6) (cQ FQ61 (OL hr.u1 (Y0r) (aD 6)) (OL hr.u1 (Y0V) (aD 6)))))
  (Y1c (cQ FQ60 (Y0y FQ59 0) (aD 5))))))),?_⟩
 refine Yr;intro d_ n_;refine Y0g;refine tN.i rx RA I.f1 I.f4 rs sq ω nd w4 λι G H1 hd1 s1 e1 U=>Yw;intro d_ n_;refine Y9;have hoc:iZ K H1 (1,1) (Ybc):=Y00 c.ONE (wM T.o_ONE);refine Y9;refine qW.i hoc (rs.t s1.t).v YB (Y06) (Yar (Fn.one 1) Dd Kk) (Yar sq.fq ω dz) λq2 H2 hq2 e2 s2=>?_;have ef0:pJ (1,1) (yJ (fJ l))=fJ (1-l):=by rw[<-QI,aC2]
 rw[ef0]at e2;refine tN.i (ry.t (s1.trans s2).t) RB I.f1 I.f4 (.inl (fG e2)) ν ω nd w4 λτ D H3 hd3 s3 e3 X=>Yw;intro d_ n_;have S:=s2.trans s3;have κ:=U.mono (YdQ S h);have S3:=s1.trans S;have l1:G.length<=64:=by
  have:=Y8g U.ks;rw[aA,aA]at this;rw[this];unfold ksP;split
  ·exact Y0x
  ·rw[aA];exact RA.few
 have l3:D.length<=64:=by
  have:=Y8g X.ks;rw[aA,aA]at this;rw[this];unfold ksP;split
  ·exact Y0x
  ·rw[aA];exact RB.few
 intro p ε;refine Yw;intro d_ n_;have ζ:=Y6N [] ε;have e4:(upd H3 p (.dT [])) p=Y07 []:=bK;generalize upd H3 p (.dT [])=H4 at ζ e4;have υ:H4 ι=Y07 G:=(S.trans ζ) _ _ e1;have ρ:H4 τ=Y07 D:=ζ _ _ e3;refine Y9;refine rlst υ Oo λD5 g H5 hD5 e5 β s5=>Y9;refine rlst (s5 _ _ ρ) Oo λD6 m H6 hD6 e6 k6 s6=>NN (s6 _ _ e5) e6 (by rw[β.1,k6.1];exact Oo) λD7 H7 φ e7 s7=>?_;obtain⟨η,C⟩:∃η,η=ksP l es++ksP (1-l) fs:=Y3w;have d:G.length=(ksP l es).length:=by have:=Y8g U.ks;rwa [aA,aA]at this
 have ξ:D.length=(ksP (1-l) fs).length:=by have:=Y8g X.ks;rwa [aA,aA]at this
 have s67:=s6.trans s7;have at_:∀(i:Nat) (v:V),(g++m)[i]?=Ys->∃c b,η[i]?=Y1v/\v=Y0p/\H7 b=Yf ((ci c).map V.int):=λi v γ=>by
  by_cases hi:i<g.length
  ·rw[cM hi]at γ;obtain⟨c,b,Y,θ,h3⟩:=QA β U.ks γ;exact⟨c,b,by rw[C,cM (by rw[<-d,<-β.1];exact hi)];exact Y,θ,s67 _ _ h3⟩
  ·rw[cJ Oo]at γ;obtain⟨c,b,Y,θ,h3⟩:=QA k6 X.ks γ;refine⟨c,b,?_,θ,s7 _ _ h3⟩;rw[C,cJ (by rw[<-d,<-β.1];exact Oo),<-d,<-β.1];exact Y
 have lcs:η.length=(g++m).length:=by rw[C,aV,aV,β.1,k6.1,d,ξ]
 have lys:(g++m).length<=128:=by rw[aV,β.1,k6.1];exact Oo
 have S47:=(s5.trans s6).trans s7;have O:H7 p=Y07 []:=S47 _ _ e4;have e7a:H7 ι=Y07 G:=S47 _ _ υ;have e7b:H7 τ=Y07 D:=S47 _ _ ρ;have n1:ι≠p:=λz=>by rw[z]at e1;rw[(S _ _ e1)]at ε;cases ε
 have n3:τ≠p:=λz=>by rw[z]at e3;rw[e3]at ε;cases ε
 have nD:D7≠p:=λz=>by rw[z,(s5.trans s6) _ _ e4]at φ;cases φ
 have ps7:=κ.mono (YdQ (ζ.trans S47) h);have ps8:=X.mono (YdQ (ζ.trans S47) h);have cin:∀c∈η,(l≠0/\Y43 c (·.1))\/(1-l≠0/\c∈fs.map (·.1)):=λc δ=>by
  rw[C]at δ;unfold ksP at δ;rcases dH.mp δ with h | h
  ·split at h
   ·cases h
   ·rename_i z;exact Y2k z h
  ·split at h
   ·cases h
   ·rename_i z;exact Y2W z h
 refine Y1A D7 e7 (mG (xs:=g++m) (λi σ H'=>∃(o6:Am) (a:Yv),σ=[Y7,Y09,some sv,Y3 ι,Y3 τ,Y3 p,o6]/\aU p H7 H'/\H' p=Y07 a/\a.length<=i/\∀c∈η.take i,∃v,gD a (Y2R c)=Ys/\DZ K H' (mS F W es fs l c) v) ⟨_,[],rfl,(Y08).but,O,Yp,λc δ=>by rw[List.take_zero]at δ;cases δ⟩ (λi σ H' _ ⟨_,_,_,b',_⟩=>Ycy nD e7) ?_ ?_)
 ·rintro i v σ H8 γ ⟨o6,a,rfl,Z,e8,l8,L⟩;refine Y5A;intro d_;obtain⟨r,bb,J,rfl,hbb⟩:=at_ i v γ;have hi:i<(g++m).length:=(aB.mp γ).1;have t78:=aU.tT Z O;have n:=t78 _ _ hbb;have μ:=Z.at n1 e7a;have aa:=Z.at n3 e7b;obtain⟨pa,pa1,pa2,pa3,pa4,pa5⟩:=(ps7.mono λ_ _ _ h=>rT.but Z O h).po RA sq I.s0' r;obtain⟨pb,pb1,pb2,pb3,pb4,pb5⟩:=(ps8.mono λ_ _ _ h=>rT.but Z O h).po RB ν (by have:=I.s1;grind) r;have hin:=cin r (aE J);refine⟨_,rfl,ι,rfl,Y2W G (.inl μ),_,rfl,_,oJ.ct (c:=ci r) μ n,⟨_,rfl,τ,rfl,Y2W D (.inl aa),_,rfl,_,oJ.ct (c:=ci r) aa n,?_⟩⟩;refine IR pa1 pb1 Dd (hin.elim (λh=>.inl (pa5 h)) λh=>Y2W Dd (pb5 h)) pa4 pb4 nd0 nd (Y4j RA.b) Oo λv9 H9 α r9=>?_;have em:((List.range (1+W)).map λj=>fJ ((EG pa j+EG pb j)/(EM pa+EM pb)))=mS F W es fs l r:=by
   unfold mS;refine fO λj hj=>?_;have hj:=cC.mp hj;rw[pa2,pb2,pa3 j hj,pb3 j hj]
   rfl
  rw[em]at r9;refine Y0g;refine Y5w (α _ _ e8) r (α _ _ n) Oo (λH10 e10 ο=>?_);have ψ:=aU.tT ο (α _ _ e8);refine⟨_,_,rfl,(Z.trans α.but).trans ο,e10,?_,λc' χ=>?_⟩
  ·have:=Y5K a r v9;exact Oo
  ·rw[iC];by_cases q:c'=r
   ·subst q;rw[Yt];exact Y00 v9 ((aC7 r9).t ψ)
   ·rw[Y2t (q (Y3C z))];rw[gT J]at χ;rcases dH.mp χ with h | h
    ·obtain⟨u,Y,θ⟩:=L c' h;exact⟨u,Y,(θ.t α.t).t ψ⟩
    ·exact Yck h q
 ·rintro σ H8 ⟨o6,a,rfl,Z,e8,l8,L⟩;rw[<-lcs,dL]at L;have S8:aT H H8:=aT.thru ((S3).free ε) ((S3.trans ζ).trans S47) Z;have T':=I.tg (W:=W) (Y3l few);obtain⟨e0,er,ees,ez0⟩:=RA.rl.root;refine Y6 (jQ.i (e:=e0) (es:=er) (by rw[<-ees];exact rx.t S8.t) ?_);rw[ez0,bH];refine Y9;refine qP.i (R:=mR F es fs l) (sy:=mS F W es fs l) (Y2P e8 (λr J=>L r ?_)) T' λv9 H9 α r9=>k v9 H9 (S8.trans α) r9;rw[C];unfold ksP;rcases I.keys J with⟨z,h⟩ | ⟨z,h⟩
  ·exact cN _ (by rw[if_neg z];exact h)
  ·exact bL _ (by rw[Y4r (z (by grind))];exact h)
end
abbrev aDL:Stmt:=(top 6)
def aFf:Yd ["n","d","divisor"] ["n","d"] aDL:={}
inductive qZ:Yq
 | i {H:Hp} {Q:VK} {E:XK} {n d:Int} (h:0<d) (z:d.natAbs<2^9000) (q:zW H Q (lw n d)):qZ [Y5e,.int d] H Q E
section
def aH2(F:Yb "fraction" "fraction" aDL)(T:Ye)(FQ23:Y01 "common_divisor" a05 sU):dO P w K mg base cV 2 f fd ["n","d"] qZ:=by
 refine F.oky aFf λG H Q E h=>?_;obtain @⟨H,Q,E,n,d,e,z,q⟩:=h;refine Y5 (λB A a s D=>?_);have u:(d.natAbs:Int)=d:=Oo;have g:=Ybj e;have j:=yN (n:=n) e z;refine⟨_,(aH (iS (Y1r rF 1 aL) (aS OI) fK)
  (aH (Y2j 2 aFf.nd FQ23 0 (Y68 ZK (by rfl) T.b_abs Kk 1))
  (aH (LM (iS (Y1r xD 1 aL) (aS (Y1D aFf.nd (BD vP (Y02)))) fK))
  (Y1c (Y3B (Y2X gE 0 2) (Y2X gE 1 2)))))),?_⟩
 refine Yr;intro l y;refine Y7s _ rfl _ rfl (sX (bT λz=>by injection z with z;exact Oo) ?_);refine Y05 (raI ?_);rw[u];refine sU.i e (Yw);intro l y;refine Y0b (λσ H'=>σ=[Yg n,Yg d,Yg (Int.gcd n d:Int)]/\H'=H) ?_
 ·rintro σ H2 ⟨rfl,rfl⟩;refine⟨_,rfl,_,rfl,_,_,rfl,rfl,pZ g j,_,rfl,_,rfl,_,_,rfl,rfl,pZ g j,?_⟩;exact rG (by show 2<=64;decide) λp H3 r m C=>q p H3 r m C
 ·exact⟨_,rfl,_,_,rfl,rfl,_,rfl,sX (bT Oo) Y6w⟩
end
def VU{α:Type}(l:Yu)(f g:Y31)(s:Rat):cW l (λa=>s*f a+(1-s)*g a)=s*cW l f+(1-s)*cW l g:=by
 rw[<-lV,<-lV,<-jX]
def XQ(F:Nat)(es:Yj)(m:Ab)(q:Y0K)(j:Nat):Rat:=Y3E m (xF F es c j*q c)
section
variable{F W M N B Ns L:Nat}{es fs:Yj}{s:Rat}{q:Y0K}{cs:Ak}{i:Nat}
def MG(R:Y1x){m:Ab}(nd:m.Nodup)(hs:∀c∈es.map (·.1),c∈m)(w:Nat):gW F es q w=XQ F es m q (1+w):=by
 unfold gW XQ;rw[<-AI R nd hs q (1+w)];exact Y6d (by grind)
def GG(R:Y1x){m:Ab}(nd:m.Nodup)(hs:∀c∈es.map (·.1),c∈m):gJ F es q (cS cs)=XQ F es m (λc=>Y7R*q c) 0:=by
 unfold gJ XQ;rw[<-AI R nd hs (λc=>Y7R*q c) 0];exact Y6d (by show Y4e e.1.sum*(Y8 e.1*q e.1*cS e.2 0)=_;grind)
def aCD(I:Y1g)(T:vF F M (Y5g F s) (mS F W es fs s) (mR F es fs s)){m:Ab}{j:Nat}(hj:j<1+W):XQ F (mE F W M es fs s) m q j=s*XQ F es m q j+(1-s)*XQ F fs m q j:=by
 unfold XQ;rw[<-VU];exact cY λc _=>by rw[I.x T c hj];unfold mX;grind
def JE(I:Y1g)(few:(Y0d).length<=64)(q:Y0K)(cs:Ak):(∀w,w<W->gW F (mE F W M es fs s) q w=s*gW F es q w+(1-s)*gW F fs q w)/\gJ F (mE F W M es fs s) q (cS cs)=s*gJ F es q (cS cs)+(1-s)*gJ F fs q (cS cs):=by
 have T:=I.tg (W:=W) (Y3l few);have a:=sG F I.f4 M I.m5;have i:∀c∈es.map (·.1),Y3G c:=λc d=>by
  obtain⟨e,g,rfl⟩:=aN.mp d;exact(gA I.f1).mpr ⟨I.ra.len e g,(I.oa e g).1⟩
 have h:∀c∈fs.map (·.1),Y3G c:=λc d=>by
  obtain⟨e,g,rfl⟩:=aN.mp d;exact(gA I.f1).mpr ⟨I.rb.len e g,(I.ob e g).1⟩
 have j:∀c∈(mE F W M es fs s).map (·.1),Y3G c:=λc d=>by rw[yK]at d;exact(jE I.f1).subset d
 exact⟨λw l=>by rw[MG (I.rl T) a j,MG I.ra a i,MG I.rb a h,aCD I T Oo],by rw[GG (I.rl T) a j,GG I.ra a i,GG I.rb a h,aCD I T Oo]⟩
def XT(I:Y1g)(few:(Y0d).length<=64)(q:Y3g)(mix:Yy)(cs:Ak):fM F W (mE F W M es fs s) q mix (cS cs)=s*fM F W es q mix (cS cs)+(1-s)*fM F W fs q mix (cS cs):=by
 unfold fM;rw[<-eT,<-eT,<-nP];exact bR λw a=>by rw[(JE I few (q w) cs).2];grind
def pM.any(R:Y1K):pL F W M es:=⟨R.rl,R.sum,R.on,λe a=>⟨(R.sy e a).nn,(R.sy e a).rest⟩⟩
end
def pM.up{F W M N B Ns D C:Nat}{es:Yj}(R:Y1K)(d0:0<D)(hC:B<=C)(hz:D*N*Ns^M<2^2000)(hc:C<=2^100):pM F W M (D*N) C Ns es :=
 ⟨R.rl,R.sum,R.sy,R.few,R.on,λe a=>((R.fl e a).dvd ⟨D,Nat.mul_comm ..⟩).le hC,λe a v=>((R.fs e a v).dvd ⟨D,Nat.mul_comm ..⟩).le hC,fN d0 R.n0,R.s1,hz,hc,R.m⟩
def pM.mx{F W M N B Ns:Nat}{es fs:Yj}{s:Rat}(A:Y1K)(A':pM F W M N B Ns fs)(f1:1<=F)(f4:F<=4)(m5:M<=5)(h0:0<=s)(h1:s<=1):Y1g :=
 ⟨A.rl,A'.rl,f1,f4,m5,A.sy,A'.sy,λe a=>⟨A.sum e a,A.on e a⟩,λe a=>⟨A'.sum e a,A'.on e a⟩,h0,h1⟩
def aF6{W b:Nat}(hb:b<=W):NT (1+W) (zR W b):=by
 have l:(zR W b).length=1+W:=by unfold zR;rw[aA,aW]
 refine Y0b l (λf c=>?_)
 ·unfold zR at c;obtain⟨k,_,rfl⟩:=aN.mp c;have:1<Y0t:=Ydi;split
  ·exact⟨YB,Dd,this,this⟩
  ·exact⟨YA,Dd,Y5X,this⟩
 ·rw[pQ,l,bR (g:=λk=>if k=b then 1 else 0) λk a=>sJ a,BI (v:=b) Oo λk _ a=>if_neg a,Yt]
def aF7{F W M Ns:Nat}{best:Y0B}(hF:1<=F)(f4:F<=4)(m5:M<=5)(on:∀c,Y0z=0->Y1O)(bw:∀c∈rise F M,Y0z<=W)(few:(Y0d).length<=20)(s1:0<Ns)(hz:Ns^M<2^2000):pM F W M 1 (5^20) Ns Y1s:=by
 have A:=OZ (W:=W) hF f4 m5 on bw;have h:∀e∈rul F W M best,NT (1+W) e.2:=λe a=>by
  obtain⟨c,j,rfl⟩:=aN.mp a;exact aF6 (bw c ((jE hF).subset j))
 have i:∀e∈rul F W M best,∀v,Qn 1 1 (cS e.2 v):=λe a v=>by
  obtain⟨c,j,rfl⟩:=aN.mp a;show Qn 1 1 (cS (Y5G W) v);by_cases hv:v<1+W
  ·rw[sJ hv];split
   ·exact Qn.one' 1
   ·exact Y72 _
  ·rw[nF (by have:=(h _ a).len;show(Y5G W).length<=v;unfold zR;rw[aA,aW];exact Oo)];exact Y72 _
 have l:(Y1s).length<=20:=by
  unfold rul;rw[aA];exact aJ (jE hF).length_le few
 have g:∀d,Qn 1 (5^20) (Y2f Y1s):=λd=>by
  have:=A.rl.qn (N:=1) (λe a=>i e a 0) f4 _ (Yp) d;rw[dL,Nat.one_pow]at this;exact this.le (aI Dd l)
 refine⟨A.rl,A.hM,h,Oo,A.on,λe a=>g e.1,λe a v=>?_,Dd,s1,by rw[Nat.one_mul];exact hz,Kk,Oo⟩;have:=(g e.1).mul (i e a v)
 rwa [Nat.mul_one,Nat.mul_one]at this
abbrev aDi:Stmt:=(top 81)
def KQ:Yd ["faces","weighing","master","rule","share","row","thing","other"] a31 aDi:={}
def DV(ts:Y0J)(j:Nat):Bool:=(ts[j]?.map λt=>decide (t.word=Str.ofString "rule")).getD false
def wsum(W:Nat)(b:Y0)(R:Md.fA)(ts:Y0J)(i:Nat)(g:Yy):Rat:=cF i λj=>if DV ts j=true then((Md.rho (W+1) b R j 0:Int):Rat)*g j else 0
abbrev DB(W U:Nat):Nat:=(W+1)*RB W U
structure LI(F W M U Ns:Nat):Prop where
 few:(Y0d).length<=20
 s1:0<Ns
 nz:DB W U^(W+1)*Ns^M<2^2000
structure MrQ(F W M U Ns:Nat)(ss:Aj)(mix cs:Ak)(us:Ae)(cu:Nat)(b:Y0)(B R:Md.fA)(ts:Y0J)(i:Nat)(es:Yj)(N:Nat):Prop where
 ru:pM F W M N (2^i*5^20) Ns es
 n:N<=DB W U^i
 cost:(cu:Rat)*(Y3I W b R i (λ_=>1)*Y4R F W es)=Y3I W b R i (λj=>(((ts[j]?.map (·.cost)).getD 0:Int):Rat))
 said:∀(w u:Nat),us[w]?=Yo->(u:Rat)*(Y3I W b R i (λ_=>1)*(1-gW F es (hZ ss w) w))=Y3I W b R i (λj=>((B j w:Int):Rat))
def aCm(K:Aa)(H:Hp)(F W M U Ns:Nat)(ss:Aj)(mix cs:Ak)(us:Ae)(cu:Nat)(b:Y0)(B R:Md.fA)(ts:Y0J)(i:Nat)(v:V):Prop:=∃es N,KZ K H es v/\MrQ F W M U Ns ss mix cs us cu b B R ts i es N
def zP(W:Nat)(b:Y0)(R:Md.fA)(ts:Y0J)(i:Nat):Int:=Md.dU i λj=>if DV ts j=true then Y1z (W+1) j 0 else 0
section
variable{F W M:Nat}{ss:Aj}{mix ps cs:Ak}{Ns Nm Np Nc BB Nr:Nat}{us:Ae}{cu X U e i:Nat}{b:Y0}{H:Hp}{B R:Md.fA}{p:Int}{ts:Y0J}
def mT(g:Yy):Y3I W b R (i+1) g=Y3I W b R i g+if DV ts i=true then((Md.rho (W+1) b R i 0:Int):Rat)*g i else 0:=eL _ _
def tQ(i:Nat):((zP W b R ts i:Int):Rat)=Y3I W b R i (λ_=>1):=by
 unfold zP wsum;rw[Md.rN];refine bR λj _=>?_;split
 ·rw[Rat.mul_one]
 ·rfl
theorem WD(hr:∀j,j<W+1->0<=Y1z (W+1) j 0):∀{i:Nat},i<=W+1->0<=zP W b R ts i
 | 0,_=>Int.le_refl 0
 | i+1,h=>by
  have h1:=WD hr (i:=i) Oo;have a:=hr i Oo;show 0<=zP W b R ts i+if DV ts i=true then Md.rho (W+1) b R i 0 else 0
  split <;> exact Oo
theorem xU(hr:∀j,j<W+1->0<=Y1z (W+1) j 0)(g:Yy):∀{i:Nat},i<=W+1->zP W b R ts i=0->Y3I W b R i g=0
 | 0,_,_=>rfl
 | i+1,h,z=>by
  have h1:=WD (ts:=ts) hr (i:=i) Oo;have a:=hr i Oo;have z:zP W b R ts i+(if DV ts i=true then Md.rho (W+1) b R i 0 else 0)=0:=z;rw[mT];by_cases hi:DV ts i=true
  ·rw[if_pos hi]at z ⊢;rw[xU hr g Oo Oo,show Md.rho (W+1) b R i 0=0 by exact Oo];show 0+0*g i=0;grind
  ·rw[if_neg hi]at z ⊢;rw[xU hr g Oo Oo];grind
def NV(u1:1<=U):1<=DB W U:=fN (YaL) (fN (YaL) (fN (fN (Md.AR _) (Nat.pow_pos u1)) u1))
def LI.sz(mz:LI F W M U Nr)(u1:1<=U){N:Nat}(hi:i<=W+1)(hN:N<=DB W U^i):N*Nr^M<2^2000 :=
 aK (bO _ (aJ hN (aI (NV u1) hi))) mz.nz
def aCa(hi:i<=5):2^i*5^20<=2^100:=Y3l (bO _ (aI (n:=2) Dd hi))
def aGC:DB W U<=ZB W U X:=dY _ (Y5U Y5X)
def aC6(Z:zV F W M ss mix ps cs Ns Nm Np Nc BB us cu X U e b)(S:iN H F W M ss mix cs us cu b B R p ts)(hi:i<=W+1):(zP W b R ts i).natAbs<=DB W U:=by
 refine aJ (Md.tM (C:=RB W U) λj a=>?_) (bO _ hi);split
 ·exact S.rho Z Oo Oo
 ·exact Y0x
def aF5{best:Y0B}(I:UF F W M ss mix ps cs Ns Nm Np Nc BB us cu X)(on:∀c,Y0z=0->Y1O):vF F M best (λc=>Y5G W) (· ∈ rise F M):=by
 refine⟨I.wo.f1,I.wo.f4,I.wo.m5,on,I.r4,λc _=>?_,(gA I.wo.f1).mpr ⟨bH,by simp⟩,λc d h f g=>?_⟩
 ·unfold zR;rw[show 1+W=W+1 by exact Oo,List.range_succ_eq_map,bE];refine Y0X _ _ ?_;by_cases z:Y0z=0
  ·rw[if_pos z.symm];exact⟨λ_=>z,λ_=>Dd⟩
  ·rw[Y4r (z q.symm)];exact⟨λq=>Y6g q,λq=>absurd q z⟩
 ·obtain⟨a,e⟩:=(gA I.wo.f1).mp d;have:=on c h;exact(gA I.wo.f1).mpr ⟨by rw[rO];exact a,by rw[gR Oo];exact Oo⟩
def MrQ.skip(Z:zV F W M ss mix ps cs Ns Nm Np Nc BB us cu X U e b)(mz:LI F W M U Nr){es:Yj}{N:Nat}(h:MrQ F W M U Nr ss mix cs us cu b B R ts i es N)(hi:i<W+1)(z:DV ts i=true->Y1z (W+1) i 0=0):MrQ F W M U Nr ss mix cs us cu b B R ts (i+1) es N:=by
 have w:∀g,Y3I W b R (i+1) g=Y3I W b R i g:=λg=>by
  rw[mT];by_cases q:DV ts i=true
  ·rw[Y5B,z q];show _+0*g i=_;grind
  ·rw[Y2V];grind
 have w4:=Z.sl.wo.w4;have a:N<=DB W U^(i+1):=aJ h.n (aI (NV Z.u1) Oo);refine⟨?_,a,by rw[w,w];exact h.cost,λv u c=>by rw[w,w];exact h.said v u c⟩;have:=h.ru.up (D:=1) (C:=2^(i+1)*5^20) Dd (bO _ (aI Dd Oo)) (by rw[Nat.one_mul];exact mz.sz Z.u1 Oo a) (aCa Oo)
 rwa [Nat.one_mul]at this
def JB(Z:zV F W M ss mix ps cs Ns Nm Np Nc BB us cu X U e b)(mz:LI F W M U Nr){best:Y0B}{a:Y0}{k:Int}(f:OA F W M ss mix cs us cu best a k):pM F W M 1 (5^20) Nr (Y1s) :=
 aF7 Z.sl.wo.f1 Z.sl.wo.f4 Z.sl.wo.m5 f.on f.bw mz.few mz.s1 (by have:=mz.sz (i:=0) (N:=1) Z.u1 (Y0x) (Yp);rwa [Nat.one_mul]at this)
def MrQ.first(Z:zV F W M ss mix ps cs Ns Nm Np Nc BB us cu X U e b)(mz:LI F W M U Nr)(hr:∀j,j<W+1->0<=Y1z (W+1) j 0){best:Y0B}{t:oB}(ht:ts[i]?=some t)(f:OA F W M ss mix cs us cu best (B i) t.cost)(hi:i<W+1)(is:DV ts i=true)(z:zP W b R ts i=0):MrQ F W M U Nr ss mix cs us cu b B R ts (i+1) (Y1s) 1:=by
 have w:∀g,Y3I W b R (i+1) g=((Md.rho (W+1) b R i 0:Int):Rat)*g i:=λg=>by rw[mT,if_pos is,xU hr g Oo z];grind
 have w4:=Z.sl.wo.w4;have a:1<=DB W U^(i+1):=Nat.pow_pos (NV Z.u1);refine⟨?_,a,?_,λv u c=>?_⟩
 ·have:=(JB Z mz f).up (D:=1) (C:=2^(i+1)*5^20) Dd (Y5U Y5X) (by rw[Nat.mul_one];exact mz.sz Z.u1 Oo a) (aCa Oo)
  rwa [Nat.one_mul]at this
 ·rw[w,w,ht];show _=_*((t.cost:Int):Rat);rw[f.cost];grind
 ·rw[w,w,f.col v u c];grind
def MrQ.more(Z:zV F W M ss mix ps cs Ns Nm Np Nc BB us cu X U e b)(mz:LI F W M U Nr){es:Yj}{N:Nat}(h:MrQ F W M U Nr ss mix cs us cu b B R ts i es N){best:Y0B}{t:oB}(ht:ts[i]?=some t)(f:OA F W M ss mix cs us cu best (B i) t.cost)(hi:i<W+1)(is:DV ts i=true){r S:Int}{s:Rat}(er:Y1z (W+1) i 0=r)(eS:zP W b R ts i=S)(r0:0<r)(S0:0<S)(hD:S+r<=(DB W U:Nat))(hs:s=(r:Rat)/((S+r:Int):Rat)) :
  gX F W M (Y1s) es s/\pM F W M N (2^i*5^20) Nr (Y1s)/\Qn (S+r).toNat 1 s/\N*(S+r).toNat<2^2500/\MrQ F W M U Nr ss mix cs us cu b B R ts (i+1) (mE F W M (Y1s) es s) ((S+r).toNat*N):=by
 have w4:=Z.sl.wo.w4;have g:(0:Rat)<((S+r:Int):Rat):=by exact_mod_cast(by exact Oo:0<S+r)
 have l:(0:Rat)<(r:Rat):=by exact_mod_cast r0
 have S0':(0:Rat)<(S:Rat):=by exact_mod_cast S0
 have a:s*((S+r:Int):Rat)=(r:Rat):=by rw[hs,Rat.div_mul_cancel (Rat.ne_of_gt g)]
 have j:((S+r:Int):Rat)=(S:Rat)+(r:Rat):=Rat.intCast_add ..;have s0:0<=s:=Ye6 ((S+r:Int):Rat) (by rw[a,Rat.zero_mul];exact Rat.le_of_lt l);have s1:s<=1:=Ye6 ((S+r:Int):Rat) (by rw[a,Rat.one_mul,j];grind);have z:(S+r).toNat*N<=DB W U^(i+1):=by
  rw[Nat.pow_succ,Nat.mul_comm];exact Nat.mul_le_mul h.n Oo
 have w:=mz.sz Z.u1 (i:=i+1) Oo z;have few:(Y0d).length<=64:=Y3l mz.few;have RP:pM F W M N (2^i*5^20) Nr (Y1s):=by
  have:=(JB Z mz f).up (D:=N) (C:=2^i*5^20) h.ru.n0 (Y5U Y5X) (by rw[Nat.mul_one];exact mz.sz Z.u1 Oo h.n) (aCa Oo)
  rwa [Nat.mul_one]at this
 have I:gX F W M (Y1s) es s:=RP.mx h.ru Z.sl.wo.f1 Z.sl.wo.f4 Z.sl.wo.m5 s0 s1;have A:Qn (S+r).toNat 1 s:=by
  refine⟨r,?_,Oo⟩;rw[<-a];congr 1;rw[<-Rat.intCast_natCast];congr 1;exact Oo
 have G:0<(S+r).toNat:=Oo;refine⟨I,RP,A,?_,?_,z,?_,λv u p=>?_⟩
 ·refine Y81 ?_ w;rw[Nat.mul_comm];exact YcP (Nat.pow_pos mz.s1)
 ·have:=I.ru (I.tg (W:=W) (Y3l few)) RP h.ru A G few w (by have:=aCa (i:=i+1) Oo;rw[Nat.pow_succ,Nat.mul_comm (2^i) 2,Nat.mul_assoc]at this;exact this);rw[Nat.pow_succ,Nat.mul_comm (2^i) 2,Nat.mul_assoc];exact this
 ·have d:=h.cost;rw[<-tQ,eS]at d;rw[mT,mT,if_pos is,if_pos is,er,<-tQ,eS,XT I few,<-d,ht];show _=_+_*((t.cost:Int):Rat);rw[f.cost];have m:((S:Rat)+(r:Rat))*s=(r:Rat):=by rw[<-j,Rat.mul_comm];exact a
  generalize fM F W (rul F W M best) (hZ ss) (cS mix) (cS cs)=x at *;generalize fM F W es (hZ ss) (cS mix) (cS cs)=y at *;have:((S:Rat)+(r:Rat)*1)*(s*x+(1-s)*y)=(((S:Rat)+(r:Rat))*s)*x+((S:Rat)+(r:Rat))*y-(((S:Rat)+(r:Rat))*s)*y:=by grind
  rw[this,m];grind
 ·have d:=h.said v u p;have J:v<W:=by have:=(aB.mp p).1;rw[Z.sl.ul]at this;exact this
  rw[<-tQ,eS]at d;rw[mT,mT,if_pos is,if_pos is,er,<-tQ,eS,(JE I few (hZ ss v) cs).1 v J,<-d,f.col v u p];have m:((S:Rat)+(r:Rat))*s=(r:Rat):=by rw[<-j,Rat.mul_comm];exact a
  generalize gW F (rul F W M best) (hZ ss v) v=x at *;generalize gW F es (hZ ss v) v=y at *;have:((S:Rat)+(r:Rat)*1)*(1-(s*x+(1-s)*y))=((S:Rat)+(r:Rat))-(((S:Rat)+(r:Rat))*s)*x-((S:Rat)+(r:Rat))*y+(((S:Rat)+(r:Rat))*s)*y:=by grind
  rw[this,m];grind
end
inductive wO (K:Aa) (G A:Addr):Yq
 | i {H:Hp} {Q:VK} {E:XK} {x m sa:Addr} {F W M:Nat} {ss:Aj} {mix ps cs:Ak} {Ns Nm Np Nc BB:Nat} {us:Ae} {cu X U e:Nat} {b:Y0} {B R:Md.fA} {p:Int} {uv:Al} {ts:Y0J} {Nr:Nat} (h1:zU H x G F W M ss mix cs us cu) (h2:uB H A m sa (W+1) b R p uv) (h3:lB H uv ts) (h4:zV F W M ss mix ps cs Ns Nm Np Nc BB us cu X U e b) (h5:iN H F W M ss mix cs us cu b B R p ts) (h6:LI F W M U Nr) (h7:0<Y3I W b R (W+1) (λ_=>1)) (k:∀v H',Y1->aCm K H' F W M U Nr ss mix cs us cu b B R ts (W+1) v->Y1L):wO K G A [.int (F:Int),Y2a,.ref m] H Q E
section
def aHx(F:Yb "standing_mixed" "standing_mixed" aDi)(T:Ye)(FQ60:Y1n 5 "rule_within" a08 (qP K))(FQ53:Y01 "plain_table" a12 (uK K c.Weighing))(FQ45:Y1n 7 "mixed" a45 (wR K))(FQ33:Y2i "fraction" ["n","d"] qZ):dO P w K mg base cV 8 f fd a31 (wO K c.Weighing c.Master):=by
 refine Y1j KQ;obtain @⟨H,Q,E,x,m,sa,F,W,M,ο,J,ps,φ,Ns,Nm,Np,Nc,BB,ι,μ,X,U,e,b,B,R,p,uv,C,ω,wg,ε,th,Z,st,ξ,pos,q⟩:=h;refine Yak ?_;have w4:=Z.sl.wo.w4;have O:=T.w_Master;refine⟨_,(aH (Y1t KQ.nd iV)
  (aH (Y4u KQ.nd aL)
  (aH (gK PassesOwn.never rfl (lF false false rfl T.b_zip (Y2s (dM K (aD 2)) (dM K (aD 2)))) (Y7h 5 KQ.nd 6 KQ.nd lC) (aS (iS (IC (AX (eN rF (Y17 6) (Y6r "rule" T.g_RULE)) (wH (eN ET (Y17 5) aL)))) (aH (Y2j 7 KQ.nd FQ60 0 (cQ FQ53 (aD 1) (Y17 6)))
  (aH (Y4u KQ.nd (Y1R fT 4 (Y17 5)))
  (aS (Y1t KQ.nd (oS (Y1r pD 3 iV) (aD 7) (lQ FQ45 (aD 7) (Y0r) (cQ FQ33 (Y17 5) (Y0V)))))))) fK)))
  (Y2z 3)))),?_⟩
 refine Yr;intro d_ n_;obtain⟨dx,ra,ζ,LL⟩:=ε.ex;obtain⟨las,θ,ll,χ⟩:=LL;have β:∀j,j<W+1->0<=Y1z (W+1) j 0:=λj hj=>st.mst.share hj;refine Y1Q (by simp) ζ (uV ra sa p);refine Y1Q (by simp) ζ (tW ra sa p);refine Y0F ra sa _ _ θ ε.st (YcV (las.map V.ref) uv (Ex4 λ(v:V) (o5 o6 γ:Am)=>Ya4 (σ=[Yg (F:Int),Y3 x,Y3 m,Ys,Yg (zP W b R C i),o5,o6,γ]) ((zP W b R C i=0/\v=.non)\/(0<zP W b R C i/\aCm K H' F W M U ω ο J φ ι μ b B R C i v))) ⟨_,_,_,_,rfl,Y08,.inl Y6w⟩ (λi σ H' ⟨_,_,_,_,_,s',_⟩=>⟨s' _ _ θ,s' _ _ ε.st⟩) ?_ ?_)
 ·rintro i y u pq σ H1 H2 hy hu ⟨v,o5,o6,γ,rfl,s1,ρ⟩ hpq e2 s2;have δ:i<W+1:=by have:=(aB.mp hu).1;rw[ε.len]at this;exact this
  rw[aG]at hy;obtain⟨l,hl,rfl⟩:=eI.mp hy;have el:=χ i l _ hl (yE δ);obtain⟨t,ν,a,rfl,ha⟩:=th.get hu;have S2:=s1.trans s2;have sS:zP W b R C (i+1)=zP W b R C i+if DV C i=true then Y1z (W+1) i 0 else 0:=rfl
  have η:(zP W b R C i=0/\v=.non)\/(0<zP W b R C i/\aCm K H2 F W M U ω ο J φ ι μ b B R C i v):=by
   rcases ρ with g | ⟨L,υ,N,Y,α⟩
   ·exact .inl g
   ·exact .inr ⟨L,υ,N,Y.t s2.t,α⟩
  have skip:(DV C i=true->Y1z (W+1) i 0=0)->zP W b R C (i+1)=zP W b R C i/\((zP W b R C (i+1)=0/\v=.non)\/(0<zP W b R C (i+1)/\aCm K H2 F W M U ω ο J φ ι μ b B R C (i+1) v)):=λz=>by
   have e:zP W b R C (i+1)=zP W b R C i:=by
    rw[sS];by_cases q:DV C i=true
    ·rw[Y5B,z q];exact Oo
    ·rw[Y2V];exact Oo
   refine Y0A e;rw[e];rcases η with g | ⟨L,υ,N,Y,α⟩
   ·exact .inl g
   ·exact .inr ⟨L,υ,N,Y,α.skip Z ξ δ z⟩
  have G:DV C i=Y8D "rule":=by unfold DV;rw[ν];rfl
  refine⟨pq,_,rfl,jA.of e2,rfl,_,_,rfl,_,_,rfl,rfl,Y2B⟩;intro d_;refine Y0T (S2 _ _ ha);refine Y0X rfl _ ?_;rw[tY];by_cases hw:t.word=Str.ofString "rule"
  ·rw[cO hw]at G ⊢;refine oI (Y6 (xS (S2 _ _ el) (v:=.int (Y1z (W+1) i 0)) (Y7E (iB Oo)) ?_));refine Y5i _ _ _ ?_;have nn:=β i δ;by_cases hp:0<Y1z (W+1) i 0
   ·rw[cO hp];refine oI (Yr);intro d_ n_;obtain⟨ψ,kb,D,hv1,hbp,hB,fr⟩:∃ψ kb D,t.v=.ref ψ/\H ψ=Y07 kb/\UI kb (Y0d) D/\OA F W M ο J φ ι μ D (B i) t.cost:=by
     rcases st.fit i t ν with⟨g,_⟩ | ⟨g,_⟩ | ⟨_,g⟩
     ·rw[hw]at g;exact Y6g g
     ·rw[hw]at g;exact Y6g g
     ·exact g
    rw[hv1]at ha;refine Y2E (Y8c (S2 _ _ ha));refine uK.i (wg.same S2) (S2 _ _ hbp) hB w4 Z.sl.r4 λd H3 s3 tb=>?_;have S3:=S2.trans s3;refine qP.i (R:=(· ∈ rise F M)) (sy:=λc=>zR W (D c)) tb (aF5 Z.sl fr.on) λκ H4 s4 r4=>Yw;intro d_ n_;have r4:KZ K H4 (rul F W M D) κ:=r4;have S4:=S3.trans s4;refine Y05 (xS (S4 _ _ el) (v:=.int (Y1z (W+1) i 0)) (Y7E (iB Oo)) ?_);refine Y5N _ ?_;have I:zP W b R C (i+1)=zP W b R C i+Y1z (W+1) i 0:=by rw[sS,if_pos G]
    refine Y6K;have aa:=s3.trans s4;rcases η with⟨L,rfl⟩ | ⟨L,υ,N,Y,α⟩
    ·exact oI (Y6 ⟨κ,Y3 l,Y4l,some κ,by rw[I];rfl,S4,.inr ⟨Oo,_,_,r4,MrQ.first Z ξ β ν fr δ G L⟩⟩)
    ·have g4:=Y;obtain⟨va,vxs,rfl,_⟩:=g4;rw[show decide (V.ref va=V.non)=false from rfl];refine nY (Y2E (xS (S4 _ _ el) (v:=.int (Y1z (W+1) i 0)) (Y7E (iB Oo)) ?_));refine Y9;have τ:=aC6 (i:=i+1) Z st Oo;rw[I]at τ;generalize er:Md.rho (W+1) b R i 0=r at hp τ I nn ⊢;generalize eS:zP W b R C i=S at L τ I ⊢;have dz:(S+r).natAbs<2^9000:=aK τ (Y81 aGC Z.zb);refine qZ.i Oo dz λq5 H5 hq5 e5 s5=>?_;obtain⟨m1,m2,m3,m4,m5⟩:=α.more Z ξ ν fr δ G er eS hp L Oo rfl;have el5:lw r (S+r)=fJ ((r:Rat)/((S+r:Int):Rat)):=iR (kC Oo) Y06 (by rw[BQ Oo,dC]);rw[el5]at e5;exact wR.i (r4.t s5.t) (Y.t (aa.trans s5).t) (.inl (fG e5)) m1 m2 α.ru m3 Oo m4 w4 (Y3l ξ.few) λnv H6 s6 r6=>⟨nv,Y3 l,Y4l,some κ,by rw[I];rfl,(S4.trans s5).trans s6,.inr ⟨Oo,_,_,r6,m5⟩⟩
   ·rw[bT hp];obtain⟨k1,k2⟩:=skip λ_=>Oo;exact nY ⟨v,Y3 l,Y4l,γ,by rw[k1];rfl,S2,k2⟩
  ·rw[bT hw]at G ⊢;obtain⟨k1,k2⟩:=skip λz=>by rw[G]at z;cases z
   exact nY (nY ⟨v,Y3 l,Y4l,γ,by rw[k1];rfl,S2,k2⟩)
 ·rintro σ H1 ⟨v,o5,o6,γ,rfl,s1,ρ⟩;rw[aA,ll,nS,ε.len,Nat.min_self]at ρ;refine Y9;rcases ρ with⟨g,_⟩ | ⟨_,g⟩
  ·rw[<-tQ,g]at pos;exact Y6g pos
  ·exact q v H1 s1 g
end
abbrev aDp:Stmt:=(top 80)
def aFe:Yd ["weighing","master","cost_unit","factors","parts"] a26 aDp:={}
abbrev aC9:Stmt:=(top 21)
def aIF:Yd ["aim"] ["aim"] aC9:={}
def prL(W:Nat)(R:Md.fA)(ts:Y0J)(us:Ae)(p:Int)(k:Nat):Ak:=(List.range W).map λw=>lw (-jM W R ts w*((us.getD w 0:Nat):Int)) (p*(k:Int))
inductive qR (G A:Addr):Yq
 | i {H:Hp} {Q:VK} {E:XK} {x m sa:Addr} {F W M:Nat} {ss:Aj} {mix ps cs:Ak} {Ns Nm Np Nc BB:Nat} {us:Ae} {cu X U e:Nat} {b:Y0} {B R:Md.fA} {p:Int} {uv:Al} {ts:Y0J} {k:Nat} (h1:zU H x G F W M ss mix cs us cu) (h2:uB H A m sa (W+1) b R p uv) (h3:lB H uv ts) (h4:zV F W M ss mix ps cs Ns Nm Np Nc BB us cu X U e b) (h5:iN H F W M ss mix cs us cu b B R p ts) (h6:0<k) (h7:k<Y0t) (q:∀v H',Y1->Y3D H' (prL W R ts us p k) v->Y1L):qR G A [Y2a,.ref m,.int (k:Int)] H Q E
def aEp{F W M:Nat}{ss:Aj}{mix ps cs:Ak}{Ns Nm Np Nc BB:Nat}{us:Ae}{cu X U e:Nat}{b:Y0}{H:Hp}{B R:Md.fA}{p:Int}{ts:Y0J}{k:Nat}(Z:zV F W M ss mix ps cs Ns Nm Np Nc BB us cu X U e b)(S:iN H F W M ss mix cs us cu b B R p ts)(k0:0<k):∀f∈prL W R ts us p k,Y1y ((p*(k:Int)).natAbs) (ZB W U X*U):=λf d=>by
 obtain⟨w,a,rfl⟩:=aN.mp d;have a:=Y7f;have g:0<p*(k:Int):=Int.mul_pos S.mst.bs.pos Oo;refine Fn.of g (aJ ?_ (YcP Oo));rw[dD,Int.natAbs_neg];refine Nat.mul_le_mul (S.zet Z (k:=w+1) Oo) ?_;have c:us[w]?=some (us[w]'(by rw[Z.sl.ul];exact a)):=aC _;rw[iL c];exact Z.uU _ (aE c)
section
def aHF(F:Yb "prices_of" "prices_of" aDp)(T:Ye)(FQ58:Y2Q "rates_of" a23 (mU c.Master))(FQ31:Y01 "factors_of" ["rates"] mY)(FQ33:Y2i "fraction" ["n","d"] qZ):dO P w K mg base cV 4 f fd a26 (qR c.Weighing c.Master):=by
 refine Y1j aFe;obtain @⟨H,Q,E,x,m,ο,F,W,M,ss,ψ,ps,cs,Ns,Nm,Np,Nc,BB,L,cu,X,U,e,b,B,R,p,uv,γ,k,wg,β,ω,Z,st,k0,N,q⟩:=h;refine Y5 (λυ A D s hr=>?_);have w4:=Z.sl.wo.w4;have O:=T.w_Master;have OG:=T.w_Weighing;have μ:=st.mst.bs.pos;have J:=st.masz Z;obtain⟨dx,ra,G,LL⟩:=β.ex;obtain⟨κ,gx,fl,gr,ua,wa,ca,tas,ξ,a0,a1,ν,a3,a4,a5,a6,ε,a8,a9,ab,a11⟩:=wg;refine⟨_,(aH (Y1t aFe.nd (fP FQ31 (Y0y FQ58 1)))
  (aH (Y4b 4 aFe.nd (cD dN (dM K (aD 1)) (Y02)))
  (Y1c (YcG dQ (by rfl) Kk (Y18 (Y76 ["factor","unit"] ["factor","unit","parts"] [4] (Ya9 3 Y1Y) (cQ FQ33 (Y2X dN 0 1) (Y02)))))))),?_⟩
 refine Yr;intro d_ τ;refine Y9;refine mU.i β ω J (st.costz Z) λD1 H1 hD1 θ s1=>mY.i θ Oo λD2 H2 ι S ρ=>Yw;intro d_ τ;have S2:=s1.trans ρ;refine Y1Q (by simp) (S2 _ _ G) (CB ra ο p);refine Y0F _ rfl _ _ rfl (mC J.pz (show((k:Nat):Int).natAbs<2^3000 from N)) ?_;have χ:0<p*(k:Int):=Int.mul_pos μ Oo;have pz:(p*(k:Int)).natAbs<2^9000:=by
  rw[dD];have Y:p.natAbs*((k:Nat):Int).natAbs<=Y0W*Y0t:=Ybr (Nat.le_of_lt J.pz) N;rw[<-Nat.pow_add]at Y;exact aK Y (YdW Dd)
 refine Y05 (Y4A OG (by simp) (S2 _ _ a0) ν);refine Y0F D2 ua _ _ S (S2 _ _ ε) (kP (b1:=false) (b2:=false) (xs:=(dF W λi=>-jM W R γ i).map V.int) (ys:=L.map FI) (λi z H'=>Y3i (lw (-jM W R γ i*((L.getD i 0:Nat):Int)) (p*(k:Int))) z) (λ_ _ _ _ s r=>r.flat s (dS _)) (by rw[aA,cR];exact Oo) S (S2 _ _ ε) (by rw[aA,aA,cR,κ]) (λi y z H' Q' I α s' k'=>?_) (λD3 g H3 aa e3 φ a C=>?_))
 ·have j:i<W:=by have:=(aB.mp I).1;rw[aA,cR]at this;exact this
  rw[iB j]at I;cases I;rw[aG]at α;obtain⟨u,η,rfl⟩:=eI.mp α;have uz:=(Z.sl.uz u (aE η)).2;refine⟨_,rfl,_,rfl,_,_,rfl,rfl,mC (n:=4000) (m:=3000) (by rw[Int.natAbs_neg];exact st.ratz Z Oo) (show((u:Nat):Int).natAbs<2^3000 from uz),Y9⟩;refine qZ.i χ pz λq4 H4 ac e4 s4=>k' _ H4 s4 (fG ?_);rw[e4,iL η]
 ·refine Y0X D3 g (Y6W e3 ?_);have sl:=Y3b g hl;have δ:(upd H3 l (.tup g)) l=Yf g:=bK;generalize upd H3 l (.tup g)=H5 at sl δ;refine q _ H5 ((S2.trans φ).trans sl) (dI.tup δ (bI.ofRange (by rw[a,aA,cR]) λi y j=>?_));have ζ:=(aB.mp j).1;rw[a,aA,cR]at ζ;exact⟨ζ,(C i y j).same sl⟩
end
inductive uJ (K:Aa):Yq
 | i {H:Hp} {Q:VK} {E:XK} {v:V} {M:Nat} {bs mix cs:Ak} (h1:wF K H M bs mix cs v) (h2:cs.length<=64) (k:∀v' H',Y1->wF K H' M bs mix (List.replicate cs.length (0,1)) v'->Q v' H'):uJ K [v] H Q E
section
def aHo(F:Yb "without_costs" "without_costs" aC9)(T:Ye):dO P w K mg base cV 1 f fd ["aim"] (uJ K):=by
 refine F.oky aIF λκ H Q E h=>?_;obtain @⟨H,Q,E,v,M,bs,G,ι,⟨a,O,Y,ε,rfl,e,X,Z,W,N,rfl,u,J⟩,L,q⟩:=h;refine Y5 (λβ A n s δ=>?_);have C:=J.len;refine Y6c _ (dX (bB Y2e (bB Y2e (Y2s Y2e (Y57 dQ (by rfl) Kk ["one"] [] (tG (Y2e)) (Ycw Y9i rfl))))));refine Y0T e;refine Y0T e;refine Y0T e;refine Y0T e;refine Y41 W (Y7P u) (rK (xs:=N) (λi y H'=>AV K H' (0,1) y) (λi y H1 H2 s r=>r.t s) Oo u (λi y H' Q' j η I=>?_) (λD d H1 ζ B γ α g=>?_))
 ·exact I _ H' (Y08) (.inr (Y6 T.o_NOUGHT))
 ·refine Y0X D d (Y99 B (λl m=>?_));have sl:=Y3b d m;have z:(upd H1 l (.tup d)) l=Yf d:=bK;generalize upd H1 l (.tup d)=H2 at sl z;refine rG (by show 4<=64;decide) λR H3 U S p=>?_;have S3:=(γ.trans sl).trans p;refine q _ H3 S3 ⟨R,O,Y,Y11,rfl,S,X.same S3,Z.same S3,l,d,rfl,p _ _ z,by rw[bH,α,C],λi y j=>?_⟩;have θ:=(aB.mp j).1;exact⟨(0,1),by rw[List.getElem?_replicate,Y6a],(g i y j).t (sl.trans p).t⟩
end
abbrev aDS:Stmt:=(top 54)
def aGA:Yd ["trial","rule","aim","mix"] a47 aDS:={}
def GQ{ws:Y12}{i:Nat}{x:Str × Ak}(h:ws[i]?=Y7):hZ (Y13) i=wq x.2:=by
 funext c
 unfold hZ;rw[iL (by rw[aG,h];rfl)]
section
variable{F W M N B Ns Nc:Nat}{es:Yj}{s:Ak}{cs:Ak}
def pM.spq(R:Y1K)(hs:∀f∈s,Y1y Ns 1)(C:CoC Nc es cs):Qn (Nc*(N*Ns^M)) (64*(1000*B)) (gJ F es (wq s) (cS cs)):=by
 refine(Qn.sumL λe a=>?_).le (bO _ R.few);by_cases z:Y2=0
 ·rw[z,Rat.mul_zero,Rat.mul_zero];exact Y72 _
 ·exact(C.qn a z).mul (R.aqs hs a 0)
end
structure aGP(F W M Ns Nm Nc:Nat)(ws:Y12)(mix cs:Ak):Prop where
 f1:1<=F
 f4:F<=4
 w4:W<=4
 wl:ws.length=W
 sh:∀x∈ws,∀f∈x.2,Y1y Ns 1
 bo:∀x∈ws,BOk 10 x.2
 ml:mix.length=W
 mx:∀f∈mix,Y1y Nm 1
 m0:0<Nm
 mz:Nm<=2^100
 c0:0<Nc
 c1:Nc<=1000000000000000
 ca:∀f∈cs,Y1y Nc 1000
 cl:cs.length=M
inductive wT (K:Aa):Yq
 | i {H:Hp} {Q:VK} {E:XK} {t r av:V} {es:Yj} {F W M Nc N B Ns Nm:Nat} {fs:Ah} {ws:Y12} {bs mix cs:Ak} (h1:Y3V t) (h2:KZ K H es r) (h3:wF K H M bs mix cs av) (h4:Y1K) (h5:aGP F W M Ns Nm Nc ws mix cs) (k:∀v H',Y1->Y3e H' (fM F W es (hZ Y13) Y6T (cS cs)) v->Y40 (fJ (fM F W es (hZ Y13) Y6T (cS cs)))->Y1L):wT K [t,r,av] H Q E
section
def aIa(F:Yb "cost" "cost" aDS)(T:Ye)(FQ70:Y01 "ways_of" a20 jP)(FQ68:Y2Q "total" a27 (jL K))(FQ66:Y6t 2 "times" K)(FQ63:Y1n 6 "spent" a19 (wP K)):dO P w K mg base cV 7 f fd a47 (wT K):=by
 refine Y1j aGA;obtain @⟨H,Q,E,t,r,av,m,F,W,M,l,N,B,u,G,fs,C,bs,d,p,rt,rr,ra,RO,I,k⟩:=h;refine Y5 (λυ A γ s hr=>?_);obtain⟨aa,xb,xm,xc,rfl,S,τ,η,Z⟩:=ra;obtain⟨am,vm,rfl,ζ,δ⟩:=sE η;have w4:=I.w4;have κ:CoC l m p:=⟨I.c0,I.c1,I.ca,λe ω z=>by rw[I.cl];exact RO.on e ω z⟩;have nn:0<G*(l*(N*u^M)):=fN I.m0 (fN I.c0 RO.pz.1);have nz:G*(l*(N*u^M))<Y0t:=by
  have O:l*(N*u^M)<2^50*2^2000:=aK (bO _ (Y3l I.c1)) (Nat.mul_lt_mul_of_pos_left RO.z (Y5X));have Y:G*(l*(N*u^M))<=2^100*(2^50*2^2000):=Ybr I.mz O;refine aK Y ?_;rw[<-Nat.pow_add,<-Nat.pow_add];exact YdW Dd
 have X:64*(1000*B)<=2^120:=Y3l (dY _ (dY _ RO.b));have ξ:∀i,i<W->Qn (G*(l*(N*u^M))) (64*(1000*B)) (cS d i*gJ F m (hZ (mQ C) i) (cS p)):=λi j=>by
  obtain⟨x,R⟩:∃x,C[i]?=Y7:=Y2c (by rw[I.wl];exact j);have O:=(I.mx _ (eM (a:=(0,1)) (by rw[I.ml];exact j))).q.mul (RO.spq (I.sh x (aE R)) κ);rw[Nat.one_mul]at O;rw[GQ R];exact O
 refine⟨_,(aH (Y4b 3 aGA.nd (Y17 2))
  (Y1c (fP FQ68 (Y7p ["way","trial","rule","aim","mix"] [0,1,2,3] (Y71 (Y0y FQ70 0)) (cQ FQ66 (Y2O 4 Yz) (UZ FQ63 (Y0f) (Y02) (Yz) (Y2O 3 aL))))))),?_⟩
 refine Yr;intro d_ n_;refine Y0T S;refine Y6 (jP.i rt ?_);rw[I.wl];refine⟨_,rfl,Oo,Oo,Y9H (i<W/\Y3e H' (cS d i*gJ F m (hZ (mQ C) i) (cS p)) y) (λi y H1 H2 s ⟨O,Y⟩=>⟨O,Y.flat s (dS _)⟩) Oo (λi H' Q' j L k'=>?_) (λD ys H1 hD ο s1 hy β=>?_)⟩
 ·have j:i<W:=Oo;obtain⟨x,R⟩:∃x,C[i]?=Y7:=Y2c (by rw[I.wl];exact j);have J:=aE R;obtain⟨g,ι⟩:∃g,d[i]?=some g:=Y2c (by rw[I.ml];exact j);obtain⟨vg,ε,θ⟩:=kK δ ι;have U:=I.mx g (aE ι);rw[Int.zero_add];refine Y05 (lG (L _ _ ζ) (dW ε) ?_);refine Y4Q _ _ _ rfl _ (Y8c (L _ _ S));refine wP.i (rt.same L) (rr.t L.t) RO I.f1 I.f4 R (I.sh x J) (I.bo x J) (Z.t L.t) κ λv2 H2 ν ρ=>?_;have n1:Fn (G*(l*(N*u^M))) 1 g:=Qn.f U.low (U.q.dvd (Nat.dvd_mul_right _ _));have φ:Fn (G*(l*(N*u^M))) (64*(1000*B)) (fJ (gJ F m (wq x.2) (cS p))):=((RO.spq (I.sh x J) κ).dvd (Nat.dvd_mul_left _ _)).fq;refine eJ.i (iZ.of ((θ.same L).same ν)) (iZ.of ρ) U.low (Y06) (Yar n1 nn nz) (mL φ nn nz (Y4j X)) λq3 H3 hq3 e3 α=>k' _ H3 (ν.trans α) ⟨j,fG ?_⟩;have em:lM g (fJ (gJ F m (wq x.2) (cS p)))=fJ (cS d i*gJ F m (hZ (mQ C) i) (cS p)):=iR (hJ U.low Y06) Y06 (by rw[jR U.low.pos (Y06).pos,dC,dC,rY ι,GQ R]);rw[e3,em]
 have r1:bI H1 (((List.range W).map λi=>fJ (cS d i*gJ F m (hZ (mQ C) i) (cS p))).map iY) ys:=Y9p β;have χ:∀f∈(List.range W).map (λi=>fJ (cS d i*gJ F m (hZ (mQ C) i) (cS p))),Y1y (G*(l*(N*u^M))) (64*(1000*B)):=λf hf=>by
  obtain⟨i,j,rfl⟩:=aN.mp hf;exact(ξ i (cC.mp j)).fq
 refine Y9I ο r1 (uC χ nn nz (by rw[aA,aW];exact Oo) (Y4j X)) (λv H3 α μ=>?_);rw[VH (f:=λi=>cS d i*gJ F m (hZ (mQ C) i) (cS p)) λe _=>⟨Y06,dC _⟩]at μ;have ψ:=Yc6 (λi j=>ξ i j);refine k v H3 (s1.trans α) μ (mL ψ.fq nn nz (aJ (Nat.mul_le_mul w4 X) ?_));exact aJ Dd (aI (n:=2) (i:=130) Dd Dd)
end
def xQ(F W:Nat)(ss:Aj)(bs:Ak)(es:Yj):Prop:=∀w,w<W->1-gW F es (hZ ss w) w<=cS bs w
section
variable{F W M:Nat}{ss:Aj}{mix ps cs bs:Ak}{Ns Nm Np Nc BB Nr:Nat}{us:Ae}{cu X U e:Nat}{b:Y0}{H:Hp}{B R:Md.fA}{p:Int}{ts:Y0J}
def iN.nolack(S:iN H F W M ss mix cs us cu b B R p ts)(nl:Yx Y1k){i:Nat}(hi:i<W+1):∃t,ts[i]?=some t/\((Yx (DV ts i)/\t.cost=0/\∃w,w<W/\B i=Md.unit w)\/(DV ts i=true/\B i W=1)):=by
 obtain⟨t,d,f⟩:=S.at hi;have c:DV ts i=Y8D "rule":=by unfold DV;rw[d];rfl
 refine Y0b t d;rcases f with⟨a,g,h⟩ | ⟨a,_⟩ | ⟨a,l,j,e,_,_,_,R⟩
 ·exact .inl ⟨by rw[c,a];decide,g,h⟩
 ·have:Y1k=true:=uW.mpr ⟨t,aE d,a⟩;rw[nl]at this;cases this
 ·exact Y2W (by rw[c,a];decide) R.one
def iN.parts(Z:zV F W M ss mix ps cs Ns Nm Np Nc BB us cu X U e b)(S:iN H F W M ss mix cs us cu b B R p ts)(nl:Yx Y1k):Y3I W b R (W+1) (λ_=>1)=(p:Rat):=by
 have h:=S.mst.bs.ends (b:=b) (r:=W) Oo;rw[Z.bW,Int.mul_one]at h;rw[<-h,Md.rN];unfold wsum;refine bR Ybf;obtain⟨t,_,g⟩:=S.nolack nl d;rcases g with⟨c,_,w,j,a⟩ | ⟨c,a⟩
 ·rw[c,Y2T,a];unfold Md.unit;rw[Y3y,Int.mul_zero];rfl
 ·rw[c,Yt,a,Int.mul_one,Rat.mul_one];rfl
def iN.cols(S:iN H F W M ss mix cs us cu b B R p ts)(nl:Yx Y1k){w:Nat}(hw:w<W):Y3I W b R (W+1) (λj=>((B j w:Int):Rat))<=(p:Rat)*(b w:Rat):=by
 have h:=S.mst.bs.ends (b:=b) (r:=w) Oo;rw[<-Rat.intCast_mul,<-h,Md.rN];unfold wsum;refine lH Ybf;obtain⟨t,_,e⟩:=S.nolack nl d;rcases e with⟨a,_,v,g,c⟩ | ⟨a,c⟩
 ·rw[a,Y2T,c];have:=Int.mul_nonneg (S.mst.share d) (GC (w:=v) (r:=w)).1
  exact_mod_cast this
 ·rw[a,Yt,Rat.intCast_mul];exact Rat.le_refl
def iN.costs(S:iN H F W M ss mix cs us cu b B R p ts)(nl:Yx Y1k):Y3I W b R (W+1) (λj=>(((ts[j]?.map (·.cost)).getD 0:Int):Rat))=((Md.dot (W+1) (jM W R ts) b:Int):Rat):=by
 rw[<-Md.AW];unfold Md.zet;rw[Md.rN];unfold wsum;refine bR λi g=>?_;obtain⟨t,d,h⟩:=S.nolack nl g;have e:xR ts i=t.cost:=by unfold xR;rw[if_neg (by rw[nl];decide),d];rfl
 rw[e];show(if DV ts i=true then _*(((ts[i]?.map (·.cost)).getD 0:Int):Rat) else 0)=_;rw[d];show(if DV ts i=true then _*((t.cost:Int):Rat) else 0)=_;rcases h with⟨a,c,_⟩ | ⟨a,c⟩
 ·rw[a,Y2T,c,Int.zero_mul];rfl
 ·rw[a,Yt,Rat.intCast_mul,Rat.mul_comm]
def SR(Z:zV F W M ss mix ps cs Ns Nm Np Nc BB us cu X U e b)(S:iN H F W M ss mix cs us cu b B R p ts)(nl:Yx Y1k)(hb:∀(i:Nat) (u:Nat),us[i]?=Yo->(b i:Rat)=cS bs i*(u:Rat))(cu0:0<cu){es:Yj}{N:Nat}(mr:MrQ F W M U Nr ss mix cs us cu b B R ts (W+1) es N)(hy:∀w,w<W->jM W R ts w<=0)(hw:((jM W R ts W:Int):Rat)<=Y7e F W M (pzY W R ts us) (SU ts p cu)) :
  xQ F W ss bs es/\∀es',pL F W M es'->xQ F W ss bs es'->Y4R F W es<=Y4R F W es':=by
 have l:(0:Rat)<(p:Rat):=by exact_mod_cast S.mst.bs.pos
 have r:(0:Rat)<(cu:Rat):=by exact_mod_cast cu0
 have d:∀w,w<W->∃u,us[w]?=Yo/\(0:Rat)<(u:Rat):=λw hw=>by
  have a:us[w]?=some (us[w]'(by rw[Z.sl.ul];exact hw)):=aC _;exact Y0U a (by exact_mod_cast(Z.sl.uz _ (aE a)).1)
 refine⟨λw hw=>?_,λes' A K=>?_⟩
 ·obtain⟨u,a,j⟩:=d w hw;have h1:=mr.said w u a;have h:=S.cols nl hw;rw[S.parts Z nl]at h1;rw[<-h1,hb w u a]at h;refine Rat.le_of_mul_le_mul_left (c:=(u:Rat)*(p:Rat)) ?_ (Rat.mul_pos j l);grind
 ·have h1:=mr.cost;rw[S.parts Z nl,S.costs nl]at h1;have h:=Rat.le_trans hw (AZ A.rl A.hM A.on Z.sl.q.h0 Z.sl.q.h1 A.hs);have m:=Md.JK W (y:=jM W R ts) (p:=p) (b:=b) hy Z.bW (x:=(cu:Rat)*Y4R F W es') (α:=λw=>((us.getD w 0:Nat):Rat)*(1-gW F es' (hZ ss w) w)) (λw hw=>by
   obtain⟨u,a,j⟩:=d w hw;show((us.getD w 0:Nat):Rat)*_<=_;rw[iL a,hb w u a,Rat.mul_comm (cS bs w)];exact YdZ (K w hw) j) (by
   refine YaK h;have n:SU ts p cu=(p:Rat)*(cu:Rat):=by unfold SU;rw[if_neg (by rw[nl];decide)]
   rw[n,YcC (λw=>-(jM W R ts w:Rat)*(((us.getD w 0:Nat):Rat)*(1-gW F es' (hZ ss w) w))) (by unfold pzY;grind)];grind)
  rw[<-h1]at m;refine Rat.le_of_mul_le_mul_left (c:=(cu:Rat)*(p:Rat)) ?_ (Rat.mul_pos r l);grind
def aBE(S:iN H F W M ss mix cs us cu b B R p ts)(nl:Y1k=true):Md.lexp (W+2) (Md.zet (W+1) b R (xR ts)):=by
 have d:∀i,xR ts i=0\/xR ts i=1:=λi=>by
  unfold xR;rw[if_pos nl];split
  ·exact Y77
  ·exact Y3t
 have all:∀m,m<=W+1->Md.lexp (W+2) (λk=>Md.dU m λi=>xR ts i*Y1z (W+1) i k)\/((∀k,(Md.dU m λi=>xR ts i*Y1z (W+1) i k)=0)/\∀i,i<m->xR ts i=0):=by
  intro m
  induction m with
  | zero=>intro _;exact Y2W (λk=>rfl) (λi a=>Oo)
  | succ m ih =>
   intro r;rcases d m with z | z
   ·rcases ih Oo with h | ⟨c,g⟩
    ·exact .inl (YcA (by rw[Md.dU,z,Int.zero_mul,Int.add_zero]) h)
    ·exact .inr ⟨λk=>by rw[Md.dU,c,z,Int.zero_mul];rfl,λi a=>by
      by_cases q:i=m
      ·subst q;exact z
      ·exact g i Oo⟩
   ·have l:=S.mst.lex m Oo;rcases ih Oo with h | ⟨c,g⟩
    ·exact .inl (YcA (by rw[Md.dU,z,Int.one_mul]) (Md.JN h l))
    ·exact .inl (YcA (by rw[Md.dU,c,z,Int.one_mul,Int.zero_add]) l)
 rcases all (W+1) (Yp)with h | ⟨_,h⟩
 ·exact h
 ·exfalso;obtain⟨t,n,e⟩:=uW.mp nl;obtain⟨i,a⟩:=List.getElem?_of_mem n;have:=h i (by have:=(Y6u).1;rw[S.len]at this;exact this);unfold xR at this;rw[if_pos nl,a]at this;have j:(if Y8D "lack"=true then(1:Int) else 0)=0:=this;rw[if_pos (cO e)]at j;cases j
def XO(Z:zV F W M ss mix ps cs Ns Nm Np Nc BB us cu X U e b)(S:iN H F W M ss mix cs us cu b B R p ts)(nl:Y1k=true)(hb:∀(i:Nat) (u:Nat),us[i]?=Yo->(b i:Rat)=cS bs i*(u:Rat))(hy:∀w,w<W->jM W R ts w<=0)(hw:((jM W R ts W:Int):Rat)<=Y7e F W M (pzY W R ts us) (SU ts p cu)){es:Yj}(A:pL F W M es):¬xQ F W ss bs es:=λK=>by
 have c:=Rat.le_trans hw (AZ A.rl A.hM A.on Z.sl.q.h0 Z.sl.q.h1 A.hs);refine Md.aBB W (y:=jM W R ts) (b:=b) hy Z.bW (YcA ?_ (aBE S nl)) (α:=λw=>((us.getD w 0:Nat):Rat)*(1-gW F es (hZ ss w) w)) (λw hw=>?_) ?_
 ·cases k with
  | zero=>exact Md.AW b R (xR ts)
  | succ k=>rfl
 ·have a:us[w]?=some (us[w]'(by rw[Z.sl.ul];exact hw)):=aC _;have d:(0:Rat)<((us[w]'(by rw[Z.sl.ul];exact hw):Nat):Rat):=by exact_mod_cast(Z.sl.uz _ (aE a)).1
  show((us.getD w 0:Nat):Rat)*_<=_;rw[iL a,hb w _ a,Rat.mul_comm (cS bs w)];exact YdZ (K w hw) d
 ·refine YaK c;have h:SU ts p cu=0:=by
   unfold SU;rw[if_pos nl];show(0:Rat)*_=0;rw[Rat.zero_mul]
  rw[h,YcC (λw=>-(jM W R ts w:Rat)*(((us.getD w 0:Nat):Rat)*(1-gW F es (hZ ss w) w))) (by unfold pzY;grind)];grind
end
structure DM(F W M:Nat)(fs:Ah)(ws:Y12)(bs mix cs:Ak)(Ns Nm Nc Nb BB e X:Nat):Prop where
 wg:aGD ws bs F W M Ns Nm 1 Nc BB Nb mix (Yay (0,1)) cs
 fl:Y6f F
 q:QIn F W (hZ (Y13))
 bn:∀f∈bs,0<=f.1
 mn:∀w,0<=Y4L w
 m1:cF W (Y6T)=1
 cn:∀k,0<=Y4e k
 cg:aGP F W M Ns Nm Nc ws mix cs
 mz:LI F W M (Ns^M*Nb) Ns
 Ue:Ns^M*Nb<=2^e
 cX:pO M Ns Nm 1 Nc*5000<2^X
 sz:6*e+X+20<=4000
 pB:2097152*(BB+ZB W (Ns^M*Nb) X*(Ns^M*Nb))<=WB
 pN:PB W (Ns^M*Nb)*pO M Ns Nm 1 Nc*pO M Ns Nm 1 Nc<Y0t
def CW(W:Nat)(bs:Ak)(us:Ae)(r:Nat):Int:=if r=W then 1 else(bs.getD r (0,1)).1*(((us.getD r 0:Nat):Int)/(bs.getD r (0,1)).2)
section
variable{F W M:Nat}{fs:Ah}{ws:Y12}{bs mix cs:Ak}{Ns Nm Nc Nb BB e X:Nat}{us:Ae}{cu:Nat}
def aAH{cs:Ak}(hl:cs.length=M)(m5:M<=5)(h:∀f∈cs,Y1y Nc 1000)(c0:0<Nc):kW M (cS cs) 0<=5000:=by
 have d:∀k,Y4e k<=1000:=λk=>by
  by_cases hk:k<cs.length
  ·obtain⟨z,e,m⟩:=(h _ (eM (a:=(0,1)) hk)).q;have g:(0:Rat)<(Nc:Rat):=by exact_mod_cast c0
   refine Ye6 (Nc:Rat) ?_;show rv (cs.getD k (0,1))*(Nc:Rat)<=_;rw[e];have:z<=((1000*Nc:Nat):Int):=Oo;have j:(z:Rat)<=(((1000*Nc:Nat):Int):Rat):=by exact_mod_cast this
   refine YaK j;rw[Rat.intCast_natCast,Rat.natCast_mul];exact Rat.le_refl
  ·rw[nF Oo];decide
 unfold kW;have l:Y4C (M-0) (cS cs (0+i))<=cF (M-0) λ_=>1000:=lH λi _=>d _;refine YaK l;have:M=0\/M=1\/M=2\/M=3\/M=4\/M=5:=Oo;rcases this with rfl | rfl | rfl | rfl | rfl | rfl <;> decide +kernel
def DM.sl(I:DM F W M fs ws bs mix cs Ns Nm Nc Nb BB e X)(ul:Y3d W)(uo:HV bs (Ns^M*Nb) us)(cu0:0<cu)(cud:cu ∣ pO M Ns Nm 1 Nc):UF F W M (Y13) mix (Yay (0,1)) cs Ns Nm 1 Nc BB us cu X:=by
 have wo:=I.wg.wo;have h:cu<=pO M Ns Nm 1 Nc:=kG wo.pos cud;have nn:0<Ns^M*Nb:=fN (Yds) I.wg.nb;have l:∀u∈us,u<=Ns^M*Nb:=λu a=>kG nn (uo.d u a).2;have r:∀u∈us,0<u/\u<Y0t:=λu a=>⟨(uo.d u a).1,aK (aJ (l u a) I.Ue) (YdW (by have:=I.sz;exact Oo))⟩;have i:cu<Y0t:=aK h wo.sz;have c0:(0:Rat)<=(cu:Rat):=by exact_mod_cast cK cu
 refine⟨wo,Y3l I.mz.few,ul,r,i,I.q,λG A n g=>?_,λc p n g=>?_,λv u a c p n g=>?_⟩
 ·obtain⟨z,y⟩:=A.cost I.q I.cn I.mn I.m1;have B:=Rat.le_trans y (aAH I.cg.cl wo.m5 I.cg.ca I.cg.c0);have w:(0:Rat)<=(n:Rat):=by rw[g];exact cB c0 z
  have s:(n:Rat)<=(((cu*5000:Nat):Int):Rat):=by
   rw[g,Rat.intCast_natCast,Rat.natCast_mul];exact Rat.mul_le_mul_of_nonneg_left B c0
  have J:0<=n:=by exact_mod_cast w
  have D:n<=((cu*5000:Nat):Int):=by exact_mod_cast s
  exact aK Oo (aK (bO 5000 h) I.cX)
 ·have m:=of_decide_eq_true (fY.mp p).2;have j:=CM (show Qn _ (BB*4) (CC W (mQ ws) mix cs c)by have:=(HS wo m).q;rwa [dC]at this) wo.pos g;exact aK j (aEf i (aJ (show BB*4<=4*WB by have:=wo.b;exact Oo) vK))
 ·have C:v<W:=by have:=(Y6u).1;rw[ul]at this;exact this
  have:=CM (wo.qn C (c:=c) ((gA wo.f1).mp p).2) (Yds) g;rw[Nat.one_mul]at this;exact Y81 this ((r u (aE a)).2)
def NI(I:DM F W M fs ws bs mix cs Ns Nm Nc Nb BB e X)(ul:Y3d W)(uo:HV bs (Ns^M*Nb) us){i:Nat}{f:Fr}{u:Nat}(hf:bs[i]?=Y5Q)(hu:us[i]?=Yo):Y0l/\Y3O/\f.2.natAbs ∣ u/\(CW W bs us i:Rat)=rv f*(u:Rat)/\0<=CW W bs us i/\(CW W bs us i).natAbs<=u:=by
 have p:i<W:=by have:=(aB.mp hu).1;rw[ul]at this;exact this
 have a:=I.wg.bb f (aE hf);have l:=a.low;have d:=uo.b i f u hf hu;have m:=I.bn f (aE hf);have n:=l.pos;obtain⟨k,j⟩:=d;have h:(u:Int)=f.2*(k:Int):=by rw[j,Int.natCast_mul];congr 1;exact Oo
 have g:CW W bs us i=f.1*(k:Int):=by
  unfold CW;rw[Y3y,iL hf,iL hu,h,Y4S _]
 have c:(CW W bs us i:Rat)=rv f*(u:Rat):=by
  have:((u:Nat):Rat)=(f.2:Rat)*(k:Rat):=by rw[<-Rat.intCast_natCast,h,Rat.intCast_mul,Rat.intCast_natCast]
  rw[g,this,Rat.intCast_mul,Rat.intCast_natCast,<-pV n];grind
 have nz:Nb<Y0t:=aK (Y5U I.wg.wo.pos) I.wg.sz;refine⟨l,Yar a I.wg.nb nz,uo.b i f u hf hu,c,by rw[g];exact Int.mul_nonneg m Oo,?_⟩;have:=CM a.q I.wg.nb c
 rwa [Nat.one_mul]at this
def DM.st(I:DM F W M fs ws bs mix cs Ns Nm Nc Nb BB e X)(ul:Y3d W)(uo:HV bs (Ns^M*Nb) us)(cu0:0<cu)(cud:cu ∣ pO M Ns Nm 1 Nc):zV F W M (Y13) mix (Yay (0,1)) cs Ns Nm 1 Nc BB us cu X (Ns^M*Nb) e (CW W bs us):=by
 have nn:0<Ns^M*Nb:=fN (Yds) I.wg.nb;refine⟨I.sl ul uo cu0 cud,λu a=>kG nn (uo.d u a).2,nn,λr j=>?_,Yt,I.Ue,I.sz⟩;by_cases h:r=W
 ·unfold CW;rw[Y5C];exact Y8U nn
 ·have i:bs[r]?=some (bs[r]'(by rw[I.wg.bl];exact Oo)):=aC _;have a:us[r]?=some (us[r]'(by rw[ul];exact Oo)):=aC _;obtain⟨_,_,_,_,g,c⟩:=NI I ul uo i a;exact⟨g,aJ c (kG nn (uo.d _ (aE a)).2)⟩
def aCI(I:DM F W M fs ws bs mix cs Ns Nm Nc Nb BB e X)(ul:Y3d W)(uo:HV bs (Ns^M*Nb) us):∀(i:Nat) (u:Nat),us[i]?=Yo->(CW W bs us i:Rat)=cS bs i*(u:Rat):=λi u a=>by
 have d:i<W:=by have:=(Y6u).1;rw[ul]at this;exact this
 have c:bs[i]?=some (bs[i]'(by rw[I.wg.bl];exact Oo)):=aC _;rw[(NI I ul uo c a).2.2.2.1,rY c]
def DM.pw(I:DM F W M fs ws bs mix cs Ns Nm Nc Nb BB e X){Z:zV F W M (Y13) mix (Yay (0,1)) cs Ns Nm 1 Nc BB us cu X (Ns^M*Nb) e (CW W bs us)}{H:Hp}{B R:Md.fA}{p:Int}{ts:Y0J}(S:iN H F W M (Y13) mix cs us cu (CW W bs us) B R p ts){k:Nat}(k0:0<k)(kz:k<=pO M Ns Nm 1 Nc){cs':Ak}(cl:cs'.length=M)(ca:∀f∈cs',Y1y Nc BB):lA F W M (Y13) mix (prL W R ts us p k) cs' Ns Nm (p*(k:Int)).natAbs Nc (BB+ZB W (Ns^M*Nb) X*(Ns^M*Nb)):=by
 have wo:=I.wg.wo;have h:=S.mst.bs.pos;have i:0<p*(k:Int):=Int.mul_pos h Oo;have d:pO M Ns Nm 1 Nc=Nc*Nm*Ns^M:=by unfold pO;rw[Nat.one_mul]
 have g:0<Nc*Nm*Ns^M:=by rw[<-d];exact wo.pos
 have c:(p*(k:Int)).natAbs*Nc*Nm*Ns^M=(p*(k:Int)).natAbs*(Nc*Nm*Ns^M):=by ac_rfl
 refine⟨wo.f1,wo.f4,wo.w1,wo.w4,wo.m5,wo.sl,wo.ml,by unfold prL;rw[aA,aW],cl,wo.sh,wo.mx,λf a=>(aEp Z S k0 f a).le (Nat.le_add_left _ _),λf a=>(ca f a).le (Y98 _),by rw[c];exact fN Oo g,?_,I.pB⟩;rw[c,<-d,dD];refine aK (bO _ (Nat.mul_le_mul (S.size Z).1 ?_)) I.pN;exact kz
end
abbrev aDM:Stmt:=(top 73)
def ZS:Yd ["trial","aim","weighing","master","prices"] a30 aDM:={}
inductive uP (K:Aa):Yq
 | i {H:Hp} {Q:VK} {E:XK} {tv av:V} {F W M:Nat} {fs:Ah} {ws:Y12} {bs mix cs:Ak} {Ns Nm Nc Nb BB e X:Nat} (h1:Y3V tv) (h2:wF K H M bs mix cs av) (h3:DM F W M fs ws bs mix cs Ns Nm Nc Nb BB e X) (h4:∀f∈cs,Y1y Nc BB) (q0:∀a y z H',Y1->H' a=Yf [.str "none",y,z]->(∀es,pL F W M es->¬xQ F W (Y13) bs es)->Y0u a) (q1:∀a r y z es N C H',Y1->H' a=Yf [.str "rule",r,y,z]->KZ K H' es r->pM F W M N C Ns es->xQ F W (Y13) bs es->(∀es',pL F W M es'->xQ F W (Y13) bs es'->fM F W es (hZ Y13) Y6T (cS cs)<=fM F W es' (hZ Y13) Y6T (cS cs))->Y0u a):uP K [tv,av] H Q E
section
def aH3(F:Yb "fewest" "fewest" aDM)(T:Ye)(FQ3:FnO P w K mg base 7 c.Weighing a21 (wN K c.Weighing))(FQ62:Y1n 5 "settled" ["weighing","bounds"] (sB K c.Weighing c.Master))(FQ37:Y01 "lacks" a23 (lX c.Master))(FQ56:Y1n 4 "prices_of" a26 (qR c.Weighing c.Master))(FQ74:Y1n 7 "worths" a40 (qO K))(FQ73:Y01 "without_costs" ["aim"] (uJ K))(FQ64:Y1n 8 "standing_mixed" a31 (wO K c.Weighing c.Master))(FQ30:Y01 "faces_of" a20 jZ):dO P w K mg base cV 9 f fd a30 (uP K):=by
 refine Y1j ZS;obtain @⟨H,Q,E,tv,av,F,W,M,fs,ws,bs,mix,cs,Ns,Nm,χ,Nb,BB,e,X,rt,S,I,cb,q0,q1⟩:=h;refine Y5 (λcdv A θ s hr=>?_);have O:=T.w_Weighing;refine⟨_,(aH (Y1D ZS.nd (IG FQ3 T.g_Weighing (hr.mono Dd) (Y1S 0 Y0f)))
  (aH (Y2j 3 ZS.nd FQ62 2 Y2d)
  (aH (iS (qB (Y0y FQ37 3)) (aH (Y4u ZS.nd (lQ FQ56 (Y02) (Y0r) aL))
  (Y8Q (bB (Y6r "none" T.g_NONE) (Y1S 4 (lQ FQ74 (Yz) (Y0y FQ73 1) (Y0V)))))) fK)
  (aH (Y4u ZS.nd (lQ FQ56 (Y02) (Y0r) (dM K (aD 2))))
  (Y8Q (bB (Y6r "rule" T.g_RULE) (Y75 (lQ FQ64 (Y0y FQ30 0) (Y02) (Y0r)) Y0V (lQ FQ74 (Yz) (Y0f) (Y0V))))))))),?_⟩
 refine Yr;intro ν γ;refine Y0g;intro x g hx ε τ;have U:aT H (Y7T (Y46 g (.own x)) x c.Weighing g []):=(aT.upd ε).trans (aT.upd (by rw[eO (Ne.symm τ)];exact hx));have eA:(upd (upd H g (.own x)) x (.ins c.Weighing g [])) x=some (.ins c.Weighing g []):=bK;generalize upd (upd H g (.own x)) x (.ins c.Weighing g [])=H1 at U eA ⊢;refine wN.i eA (rt.same U) I.fl (S.same U) I.wg λus μ H2 b2 wg Y a z=>Y5 ?_;refine Yw;intro ν γ;have S2:aT H H2:=aT.thru hx U b2;have ul:=wg.ul;have Z:=I.st ul Y a z;obtain⟨aa,xb,xm,xc,rfl,ι,δ,rxm,rxc⟩:=S.same S2;obtain⟨ab,vb,rfl,ρ,β⟩:=sE δ;refine Y86 ι;refine sB.i wg ρ (wE.of β) I.wg.bl (λi f u κ hu=>by obtain⟨g1,g2,g3,g4,_⟩:=NI I ul Y κ hu;exact⟨g1,g2,g3,g4⟩) Z λm sa B R p uv ts H3 G ω th st hy ψ=>Yw;intro ν γ;have n8:W+1<=8:=by have:=I.wg.wo.w4;exact Oo
 refine Y9;refine lX.i ω th n8 λH4 y=>Y9;have S4:=(S2.trans G).trans y;have C:=wg.same (G.trans y);have l:=ω.same y;have j:=th.same y;have r:=st.to λbp kb h=>y _ _ h;have υ:μ<=pO M Ns Nm 1 χ:=kG I.wg.wo.pos z;have cz:μ<Y0t:=Z.sl.cuz;cases eb:Y1k with
 | true =>
  refine oI (Yr);intro ν γ;refine Y0g;refine qR.i (k:=1) C l j Z r Dd (Ydi) λv5 H5 n α=>?_;have S5:=S4.trans n;have ο:=I.cg.cl;have m5:=I.wg.wo.m5;refine Y4c;refine uJ.i (S.same S5) Oo λv6 H6 d φ=>Y9;exact qO.i (rt.same (S5.trans d)) I.fl φ (α.same d) (I.pw (Z:=Z) st (k:=1) Dd I.wg.wo.pos (by rw[bH];exact ο) λf κ=>by rw[List.eq_of_mem_replicate κ];exact(Fn.zero χ).le (Y0x)) I.wg.bo λv7 H7 L _=>rG (by show 3<=64;decide) λD H8 ξ ζ J=>q0 D _ _ H8 (((S5.trans d).trans L).trans J) ζ λes A=>XO Z st eb (aCI I ul Y) hy ψ A
 | false =>
  refine nY ?_;obtain⟨_,gx,fl,gr,ua,wa,ca,tas,kvs,a0,a1,a2,a3,a4,a5,φ,a7,D,a9,a10,a11⟩:=C;refine Y2E (Y4A O (by simp) a0 a4);refine qR.i (k:=μ) (wg.same (G.trans y)) l j Z r a cz λv5 H5 n α=>?_;have S5:=S4.trans n;refine Y6 (jZ.i (rt.same S5) ?_);rw[I.fl];refine Y0g;refine wO.i (wg.same ((G.trans y).trans n)) (l.same n) (j.same n) Z (r.to λbp kb h=>n _ _ h) I.mz (by rw[st.parts Z eb];exact_mod_cast st.mst.bs.pos) λv6 H6 d mr=>?_;obtain⟨es,N,η,mq⟩:=mr;refine Y4Q _ _ _ rfl _ ?_;refine qO.i (rt.same (S5.trans d)) I.fl (S.same (S5.trans d)) (α.same d) (I.pw (Z:=Z) st a υ I.cg.cl cb) I.wg.bo λv7 H7 L _=>rG (by show 4<=64;decide) λD H8 ξ ζ J=>?_;obtain⟨k1,k2⟩:=SR Z st eb (aCI I ul Y) a mq hy ψ;exact q1 D _ _ _ es N _ H8 (((S5.trans d).trans L).trans J) ζ (η.t (L.trans J).t) mq.ru k1 k2
end
abbrev aDG:Stmt:=(top 74)
def aGy:Yd ["trial","aim","paper"] a30 aDG:={}
def LcQ(F W M:Nat)(ss:Aj)(bs mix cs:Ak):Y0C Y6Z
 | none=>∀es,pL F W M es->¬xQ F W ss bs es
 | some v=>∃es,pL F W M es/\xQ F W ss bs es/\fM F W es (hZ ss) (cS mix) (cS cs)=v/\∀es',pL F W M es'->xQ F W ss bs es'->v<=fM F W es' (hZ ss) (cS mix) (cS cs)
def SzO(o:Y6Z):Prop:=∀q,o=some q->Y40 (fJ q)
def LH(H:Hp):Y0i Y6Z V
 | none,v=>v=.non
 | some q,v=>dI H (iY (fJ q)) v
def LH.t{H H':Hp}{o:Y6Z}{v:V}(h:LH H o v)(s:Y2o):LH H' o v:=by
 cases o with
 | none=>exact h
 | some q=>exact dI.flat s (dS _) h
inductive nR (K:Aa):Yq
 | i {H:Hp} {Q:VK} {E:XK} {tv av:V} {F W M:Nat} {fs:Ah} {ws:Y12} {bs mix cs:Ak} {Ns Nm Nc Nb BB e X:Nat} (h1:Y3V tv) (h2:wF K H M bs mix cs av) (h3:DM F W M fs ws bs mix cs Ns Nm Nc Nb BB e X) (h4:∀f∈cs,Y1y Nc BB) (k:∀o v H',Y1->LcQ F W M (Y13) bs mix cs o->LH H' o v->SzO o->Y1L):nR K [tv,av] H Q E
section
def aHW(F:Yb "least_cost" "least_cost" aDG)(T:Ye)(FQ32:Y1n 9 "fewest" a30 (uP K))(FQ25:Y1n 7 "cost" a47 (wT K)):dO P w K mg base cV 10 f fd a30 (nR K):=by
 refine F.oky aGy λζ H Q E h=>?_;obtain @⟨H,Q,E,α,Y,F,W,M,fs,γ,bs,n,ε,β,Z,δ,U,BB,e,X,rt,l,I,m,k⟩:=h;refine Y5 (λO A j s S=>?_);refine⟨_,(aH (Y2j 2 aGy.nd FQ32 0 Y0f)
  (Y1c (oS (eN rF (Y17 2) (Y6r "rule" T.g_RULE)) (lQ FQ25 (Yz) (Y17 2) (Y0f)) iV))),?_⟩
 refine Yr;intro R η;refine Y05 (uP.i rt l I m (λa y z H1 d g D=>?_) (λa r y z G N C H1 d g p RU B le=>?_))
 ·refine Y0T g;refine Y0X rfl _ (sX (by rw[tY];decide) ?_);exact k none _ H1 d D rfl λq e=>by cases e
 ·refine Y0T g;refine Y0X rfl _ (zI (by rw[tY];decide) ?_);refine Y86 g;refine Y9;refine wT.i (rt.same d) p (l.same d) RU I.cg λv H2 J L u=>?_;exact k (some _) v H2 (d.trans J) (Y1h G RU.any B le) L λq e=>by cases e;exact u
end
theorem OT{W:Int}(hW:0<W):∀ps:Af,vD ((ps.map λx=>lw x W).map rv)=(ps.sum:Rat)/(W:Rat)
 | []=>by
  have:=kY hW;show(0:Rat)=_;rw[show(([]:Af).sum:Rat)=0 from rfl];grind
 | x::ps=>by
  have:=kY hW;rw[bE,bE,qK,OT hW ps,BQ hW,List.sum_cons,Rat.intCast_add];grind
def NU.one{m:Nat}{fs:Ak}(h:NU m fs):vD (fs.map rv)=1:=by
 obtain⟨d,W,i,e,c,a,j,g,rfl⟩:=h.ex;rw[OT a,c];have:=kY a;grind
def TrC.qin{F W:Nat}{fs:Ah}{ws:Y12}(T:TrC F W fs ws):QIn F W (hZ (Y13)):=by
 have at_:∀w,w<W->∃x,ws[w]?=Y7/\NU F x.2:=λw d=>by
  have a:ws[w]?=some (ws[w]'(by rw[T.w];exact d)):=aC _;exact Y0U a (T.sh _ (aE a))
 refine⟨λw d=>?_,λw d c g=>?_,λw _ c=>T.nn w c⟩
 ·obtain⟨x,a,s⟩:=at_ w d;rw[GQ a];exact aAA (λf e=>(s.at f e).1.low) F
 ·obtain⟨x,a,s⟩:=at_ w d;have:=aCX (λf e=>(s.at f e).1.low) s.one (c:=c) (by rw[s.len];exact g);rw[s.len]at this;rw[GQ a];exact this
def aGp:∀F,F<=3->∀M,M<=3->(Y0d).length<=20:=Kk
def aEJ:∀W,W<=3->∀M,M<=3->DB W (xT^M*27720)^(W+1)*xT^M<2^2000/\xT^M*27720<=2^80/\pO M xT xT 1 72*5000<2^110/\2097152*(1000+ZB W (xT^M*27720) 110*(xT^M*27720))<=2^680/\PB W (xT^M*27720)*pO M xT xT 1 72*pO M xT xT 1 72<Y0t/\pO M xT xT 1 72*27720<Y0t/\pO M xT xT 1 72<Y0t:=Kk
structure aFq(F W M:Nat)(fs:Ah)(ws:Y12)(bs mix cs:Ak):Prop where
 T:TrC F W fs ws
 f:2<=F/\F<=3
 w:2<=W/\W<=3
 m:M<=3
 bl:bs.length=W
 b:∀f∈bs,LJ 27720 1 f
 mx:NU W mix
 cl:cs.length=M
 c:∀f∈cs,LJ 72 1000 f
def aFq.fw{F W M:Nat}{fs:Ah}{ws:Y12}{bs mix cs:Ak}(L:aFq F W M fs ws bs mix cs):DM F W M fs ws bs mix cs xT xT 72 27720 1000 80 110:=by
 obtain⟨u,g,y,r,j,n,l⟩:=aEJ W L.w.2 M L.m;have A:=L.f;have z:=L.w;have e:=aGp F L.f.2 M L.m;have p:cF W (Y6T)=1:=by
  have:=pQ mix;rw[L.mx.one,L.mx.len]at this;exact this.symm
 have i:∀w,0<=Y4L w:=λw=>GB (N:=xT) (B:=1) (λf a=>⟨(L.mx.at f a).1,(L.mx.at f a).2⟩) w;have pos:0<pO M xT xT 1 72:=fN Dd (Nat.pow_pos Dd);refine⟨⟨⟨Oo,Oo,Oo,Oo,by have:=L.m;exact Oo,by rw[aA];exact L.T.w,L.mx.len,bH,L.cl,λs h=>?_,λf a=>(L.mx.at f a).1,λf a=>?_,λf a=>(L.c f a).1,pos,l,aJ Dd aGE⟩,L.T.b,L.bl,λf a=>(L.b f a).1,Dd,n⟩,L.T.f,L.T.qin,λf a=>(L.b f a).2,i,p,GB L.c,⟨Oo,Oo,Oo,L.T.w,λx d f a=>((L.T.sh x d).at f a).1,L.T.b,L.mx.len,λf a=>(L.mx.at f a).1,Dd,Kk,Dd,Dd,λf a=>(L.c f a).1,L.cl⟩,⟨e,Dd,u⟩,g,y,Dd,by unfold WB;exact r,j⟩
 ·obtain⟨x,d,rfl⟩:=Y83;exact⟨(L.T.sh x d).len,λf a=>((L.T.sh x d).at f a).1⟩
 ·rw[List.eq_of_mem_replicate a];exact(Fn.zero 1).le (Y0x)
section
variable{F W M M':Nat}{ss:Aj}{bs mix cs cs':Ak}{o o':Y6Z}
def aCF(h:∀es,pL F W M es->pL F W M' es/\fM F W es (hZ ss) Y6T (cS cs')<=Y4R F W es)(L:LcQ F W M ss bs mix cs o)(L':LcQ F W M' ss bs mix cs' o'):(o'=none->o=none)/\∀v,o=Ys->∃v',o'=some v'/\v'<=v:=by
 have a:∀v,o=Ys->∃v',o'=some v'/\v'<=v:=λv e=>by
  subst e;obtain⟨es,A,K,c,le⟩:=L;obtain⟨A',i⟩:=h es A;cases o' with
  | none=>exact absurd K (L' es A')
  | some v' =>
   obtain⟨j,_,_,_,d⟩:=L';exact Y00 v' (Rat.le_trans (d es A' K) (by rw[<-c];exact i))
 refine⟨Y54,a⟩;cases o with
 | none=>rfl
 | some v =>
  obtain⟨v',g,_⟩:=a v rfl;rw[e]at g;cases g
def DD{es:Yj}{q:Y3g}{mix cs cs':Yy}(A:pL F W M es)(Q:QIn F W q)(hm:∀w,0<=mix w)(hc:∀e∈es,Y3T->cs e.1.sum<=cs' e.1.sum):fM F W es q mix cs<=fM F W es q mix cs':=by
 unfold fM;refine lH λw c=>Rat.mul_le_mul_of_nonneg_left ?_ (hm w);unfold gJ;refine qM Y7C;have nn:0<=Y8 e.1*q w e.1*Y2:=cB (cB (A.rl.nnf e.1) (Q.nn w c e.1)) (A.rl.nn e a);by_cases z:Y2=0
 ·rw[z,Rat.mul_zero,Rat.mul_zero,Rat.mul_zero];exact Rat.le_refl
 ·exact Rat.mul_le_mul_of_nonneg_right (hc e a z) nn
def aGg{k:Rat}(k0:0<k)(hc:∀i,cS cs' i=k*Y4e i)(L:LcQ F W M ss bs mix cs o)(L':LcQ F W M ss bs mix cs' o'):o'=o.map (k * ·):=by
 have e:cS cs'=λi=>k*Y4e i:=funext hc;have j:∀a,fM F W a (hZ ss) Y6T (cS cs')=k*Y4R F W a:=λa=>by rw[e,vA]
 cases o with
 | none =>
  cases o' with
  | none=>rfl
  | some v' =>
   obtain⟨a,A,K,_⟩:=L';exact absurd K (L a A)
 | some v =>
  obtain⟨a,A,K,c,le⟩:=L;cases o' with
  | none=>exact absurd K (L' a A)
  | some v' =>
   obtain⟨g,A',K',m,d⟩:=L';show some v'=some (k*v);congr 1;have l:=d a A K;rw[j,c]at l;have h:=YdZ (le g A' K') k0;rw[<-j,m]at h;exact Rat.le_antisymm l h
def pL.up{es:Yj}(A:pL F W M es):pL F W (M+1) es:=⟨A.rl,λe a=>Nat.le_succ_of_le (A.hM e a),λe a z=>Nat.lt_succ_of_lt (A.on e a z),A.hs⟩
end
abbrev aD7:Stmt:=(top 95)
def aI5:Yd a01 a01 aD7:={}
def nmB:Y6Z->Y2K Y6Z
 | some p,some q=>!decide (q<p)
 | _,none=>true
 | none,some _=>false
inductive qT (K:Aa):Yq
 | i {H:Hp} {Q:VK} {E:XK} {x y:V} {a b:Y6Z} (h1:LH H a x) (h2:LH H b y) (h3:SzO a) (h4:SzO b) (k:Y2N (nmB a b)):qT K [x,y] H Q E
def LH.none_iff{H:Hp}{o:Y6Z}{v:V}(h:LH H o v):Y10 v V.non=o.isNone:=by
 cases o with
 | none=>rw[show v=V.non from h];rfl
 | some q =>
  obtain⟨a,c,rfl,_⟩:=oT h
  rfl
section
def aIo(F:Yb "_law_no_more" "_law_no_more" aD7)(T:Ye)(FQ5:Y01 "_law_below" a01 (oH K)):dO P w K mg base cV 2 f fd a01 (qT K):=by
 refine YdN aI5 ?_;obtain @⟨H,Q,E,x,y,a,b,l,j,r,n,k⟩:=h;refine Y5 (λz A g s B=>?_);have u:=l.none_iff;have d:=j.none_iff;refine⟨_,(aH (Y5m (IC (UP (Y1r pD 0 iV) (LK (Y1r pD 1 iV)))) (lS pD (Y0f) iV))
  (Y1c (UY (Y2A FQ5 1 0)))),?_⟩
 refine Yr;intro m D;refine Y6K;rw[u];cases a with
 | none =>
  refine oI (oI ?_);refine Y2B;intro m;refine Y0X _ rfl ?_;rw[d];cases b <;> exact k
 | some p =>
  refine nY Y6K;rw[d];cases b with
  | none =>
   refine oI (Y0X _ rfl ?_);rw[d];exact k
  | some q =>
   refine nY (Y05 (oH.i (iZ.of j) (iZ.of l) (n q rfl) (r p rfl) ?_));have e:Y1E ((fJ q).1*(fJ p).2) ((fJ p).1*(fJ q).2)=Y1E q p:=by
    refine decide_eq_decide.mpr ?_;rw[WK (bZ q).pos (bZ p).pos,dC,dC]
   rw[e];exact Y6 k
end
abbrev aAS:Stmt:=(top 96)
def xM:Yd ["_law_script","_law_feed_here","_law_faces","_law_ways","_law_trial_here","_law_most","_law_bounds","_law_shares_here","_law_paid","_law_found","_law_by","_law_times_by","_law_more","_law_free"] a25 aAS:={}
def JT{i:Nat}{v v':V}{σ:St}{H:Hp}{Q:Y1Z}(e:v=v')(h:Q (σ.set i (some v')) H):oE i v σ H Q:=by rw[e];exact h
def aIq{r:R2}{v:V}{tb:TE}{σ:St}{H:Hp}{Q:VK}(h:tb σ H λy H2=>r v y H2 Q):tOp r (tC v) tb σ H Q:=h
def aIr{r:Y1B}{ta:TE}{σ:St}{H:Hp}{Q:VK}(h:ta σ H λx H1=>r [x] H1 Q):tCB r (pP ta IJ) σ H Q:=h
def nB{t:Y0C VK}{Q:VK}(R:VK)(h1:∀Q':VK,(∀x H,R x H->Q' x H)->t Q')(h2:∀x H,R x H->Q x H):t Q:=h1 Q h2
def WI{f:Fr}(l:Y0l)(h:0<=rv f):0<=f.1:=by
 have a:(0:Rat)<=(f.2:Rat):=by exact_mod_cast Int.le_of_lt l.pos
 have:=cB h a;rw[pV l.pos]at this
 exact_mod_cast this
def BH{N B:Nat}{f:Fr}(h:Y36)(h0:0<N)(h1:N<=1000)(h2:B<=1000):Y3O:=by
 have a:∀m,10<=m->(1000:Nat)<2^m:=λm c=>Y5y (show 1000<2^10 by decide) c;exact mL h h0 (aK h1 (a _ Dd)) (aJ h2 (Nat.le_of_lt (a _ Dd)))
def XR{a b:Y6Z}(h1:a=none->b=none)(h2:∀v,b=Ys->∃v',a=some v'/\v'<=v):nmB a b=true:=by
 cases b with
 | none=>cases a <;> rfl
 | some q =>
  obtain⟨p,rfl,le⟩:=h2 q rfl;show(! Y1E q p)=true;rw[bT (Rat.not_lt.mpr le)];rfl
section
def aHX(F:Yb "law" "law" aAS)(T:Ye)
  (FQ8:Y01 "_law_feed" a25 (AE K)) (FQ7:Y01 "_law_draw" a02 fQ) (FQ16:Y2Q "_law_trial" a14 uM) (FQ4:Y2Q "_law_aim" a15 AD) (FQ10:Y2i "_law_little" a06 mW) (FQ9:Y01 "_law_frac" a04 iE)
  (FQ12:Y2i "_law_plus" a01 (qV K)) (FQ14:Y2i "_law_times" a01 (qU K)) (FQ5:Y01 "_law_below" a01 (oH K)) (FQ15:Y2Q "_law_total" ["_law_some"] (uO K)) (FQ11:Y2i "_law_no_more" a01 (qT K)) (FQ39:Y1n 10 "least_cost" a30 (nR K)):dO P w K mg base cV 11 f fd a25 (yA K):=by
 refine Y1j xM;unfold yA at h;obtain⟨a,ns,rfl,hS,hl,k⟩:=h;refine Yak ?_;refine⟨_,(aH (Y4b 1 xM.nd (Y0y FQ8 0))
  (aH (Y1D xM.nd (Y8P (jW FK (by rfl) T.b_int Kk (Y18 (lS rF (Y6q 1) aL)))))
  (aH (Y1t xM.nd (Y8P (jW FK (by rfl) T.b_int Kk (Y18 (LP (lS rF (Y02) aL) (UX (lS rF (Y6q 1) aL)))))))
  (aH (Y4u xM.nd (lQ FQ16 (Y0f) (Y02) (Y0r)))
  (aH (FU (lQ FQ4 (Y0f) (Y0r) (bQ bJ (iQ (bB aL (bB aL (Y2s aL aL)))) (Y6q 1))) (Y7h 5 xM.nd 6 xM.nd (eB (Yai 7 xM.nd) (eB (Yai 8 xM.nd) lC))))
  (aH (Y2j 9 xM.nd FQ39 4 (dX (bB (aD 5) (bB (aD 6) (Y1S 7 (aD 8))))))
  (aH (Y4b 10 xM.nd (cQ FQ9 (Y9S 1) (Y9S 1)))
  (aH (Y2j 11 xM.nd FQ39 4 (dX (bB (aD 5) (Y75 (aD 6) (aD 7) (Y57 dQ (by rfl) Kk ["_law_one","_law_by"] [10] (tG (aD 8)) (Y2A FQ14 1 0))))))
  (aH (Y5m (OF (IC (UP (eN aCC (lS pD (aD 9) iV) (lS pD (aD 11) iV)) (LK (IC (AX (Y1r PU 9 iV) (wH (Y1r (XJ hr.units) 11 (Y2A FQ14 10 9))))))))) OM)
  (aH (cP (i:=12) xM.nd (Y57 dQ (by rfl) Kk ["_law_one","_law_feed_here"] [1] (tG (aD 8)) (cQ FQ12 (aD 0) (Y0y FQ10 1))))
  (aH (Y5m (UQ (qB (cQ FQ11 (aD 9) (cQ FQ39 (aD 4) (dX (bB (aD 5) (bB (aD 6) (Y1S 7 (aD 12))))))))) OM)
  (aH (Y5m (UQ (qB (cQ FQ11 (cQ FQ39 (aD 4) (dX (bB (Y3K fT 5) (Y75 (aD 6) (aD 7) (Y1R (AK K) 8 (dX (Y18 (Y0y FQ10 1)))))))) (aD 9)))) OM)
  (aH (Y2j 13 xM.nd FQ39 4 (dX (bB (aD 5) (bB (aD 6) (Y1S 7 (cD aBt (dX (Y18 (Y3B aL aL))) (aD 5)))))))
  (aH (Y5m (Y1r pD 9 iV) (lS pD (aD 13) iV))
  (Y1c (LP (lS (aEF hr.units) (aD 13) (Y3B aL aL)) (LP (lS XM (Y17 9) aL) (UX (UY (cQ FQ5 (Y0y FQ15 8) (aD 9))))))))))))))))))))),?_⟩
 refine Yr;intro I X;refine Y9;refine AE.i hS hl λp L H1 F1 s1 hp1 hL1=>Yw;intro I X;refine Y9;refine Y3L 999999 (F1.less Dd) (λx2 H2 a2 b2 F2 s2=>Y5 (.inr ⟨_,rfl,_,_,rfl,rfl,?_⟩));obtain⟨F,hF,F23⟩:∃F:Nat,(2:Int)+(if Y10 (V.int x2) (V.int 0)=true then 1 else 0)=(F:Int)/\(F=2\/F=3):=by
  split
  ·exact Y00 3 Y77
  ·exact Y00 2 Y3t
 refine JT (Yca hF) ?_;dsimp only;refine Yr;intro I X;refine aHm (aIs (aIq (aIr ?_)));refine nB (t:=VR _ _ _ _) (λx H'=>∃b:Bool,x=.bl b/\gC H' p L 999990) (λQ' mono=>?_) ?_
 ·refine Y7s _ rfl _ rfl (CK (λeq=>?_) (λne=>?_))
  ·refine Y9;refine Y3L 999998 F2 (λx3 H3 a3 b3 F3 s3=>Y5 ?_);exact mono _ _ (Y6 (F3.less Dd))
  ·exact mono _ _ (Y00 false (F2.less Dd))
 ·rintro _ H3 ⟨b,rfl,F3⟩;refine .inr ⟨_,rfl,_,_,rfl,rfl,?_⟩;obtain⟨W,hW,W23⟩:∃W:Nat,(2:Int)+(if b=true then 1 else 0)=(W:Int)/\(W=2\/W=3):=by
   cases b with
   | true=>exact Y00 3 Y77
   | false=>exact Y00 2 Y3t
  refine JT (Yca hW) (Y4z);intro I X;refine Y4c;refine uM.i (n:=999900) (F:=F) (W:=W) (F3.less Dd) Oo Oo Oo Oo λtv fs ws H4 F4 s4 rt TT=>Yw;intro I X;have f23:2<=F/\F<=3:=Oo;have w23:2<=W/\W<=3:=Oo;clear hF hW F23 W23 F1 F2 F3 s1 s2;refine Y0g;refine DT (by show 4<=64;decide) λq5 H5 hq5 e5 s5=>Y9;refine Y3L 999899 (F4.same s5) (λx6 H6 a6 b6 F6 s6=>?_);obtain⟨M,hM,m2⟩:∃M:Nat,DX [V.int 0,V.int 1,V.int 1,V.int 2] x6=Yg (M:Int)/\M<=2:=by
   have:x6=0\/x6=1\/x6=2\/x6=3:=Oo;rcases this with rfl | rfl | rfl | rfl
   ·exact Y00 0 Dd
   ·exact Y00 1 Dd
   ·exact Y00 1 Dd
   ·exact Y00 2 Dd
  refine xS (s6.at (F4.ne hq5) e5) hM (AD.i (n:=999800) (W:=W) (M:=M) (F6.less Dd) Oo Oo Oo λav0 bs J r H7 F7 s7 ra0 lbs fbs U R m=>?_);obtain⟨aa,xb,xm,xc,rfl,haa,τ,ξ,rxc⟩:∃a x1 x2 x3,av0=Yi/\H7 a=Yf [.int (M:Int),x1,x2,x3]/\Y3D H7 bs x1/\Y3D H7 J x2/\Y3D H7 r x3:=by
   obtain⟨a,xs,rfl,ha,hr⟩:=oT ra0;unfold bI bI bI bI bI at hr;obtain⟨x0,_,rfl,r0,x1,_,rfl,r1,x2,_,rfl,α,x3,_,rfl,r3,rfl⟩:=hr;cases(show x0=V.int (M:Int)from r0);exact⟨a,x1,x2,x3,rfl,ha,r1,α,r3⟩
  refine⟨aa,_,rfl,jA.of haa,rfl,_,_,rfl,_,_,rfl,_,_,rfl,_,_,rfl,rfl,Y4z⟩;intro I X;have rt7:dI H7 (HZ fs ws) tv:=Yb9 ((s5.t.trans ((F4.same s5).t s6)).trans (F6.t s7)) _ _;clear rt F4 F6 s4 s5 s6 s7 e5 haa ra0;obtain⟨ac,vc,rfl,hac,ρ⟩:=sE rxc;have lvc:vc.length=M:=by rw[gZ ρ,R]
  have LW:∀{N:Nat} {ds:Ak},N<=3->ds.length=N->(∀f∈ds,LJ 72 1000 f)->aFq F W N fs ws bs J ds:=λh1 h2 h3=>⟨TT,f23,w23,h1,lbs,fbs,U,h2,h3⟩;have c72:∀f∈r,LJ 72 1000 f:=λf d=>⟨((m f d).1.dvd Dd).le Dd,(m f d).2⟩;have L1:=LW (N:=M) Oo R c72;refine⟨_,rfl,_,rfl,_,rfl,_,rfl,_,rfl,?_⟩;refine rG (by show 4<=64;decide) λq8 H8 hq8 e8 κ=>nR.i (rt7.same κ) ⟨q8,xb,xm,_,rfl,e8,τ.same κ,ξ.same κ,DZ.of (rxc.same κ)⟩ L1.fw (λf d=>(L1.c f d).1) λo1 v1 H9 s9 q1 r1 z1=>Yw;intro I X;have F9:=F7.same (κ.trans s9);refine Y9;refine Y3L 999799 F9 (λη Ha a1 b1 Fa sa=>Y5i _ _ _ ?_);refine Y3L 999798 Fa (λδ Hb a2 b2 Fb sb=>Y5N _ ?_);refine iE.i Oo (smallz Oo) λqc Hc hqc ec sc=>Yw;intro I X;have Y:LJ 6 3 (lw (1+η) (1+δ)):=by
   refine⟨(Fn.of Oo Oo).dvd ?_,XW Oo⟩;have:∀z:Nat,z<=3->1<=z->z ∣ 6:=Dd;exact this _ Oo Oo
  have gv:rv (lw (1+η) (1+δ))=((1+η:Int):Rat)/((1+δ:Int):Rat):=BQ Oo;have gz:=BH Y.1 Dd Dd Dd;have g0:0<rv (lw (1+η) (1+δ)):=by
   have d0:(0:Rat)<((1+δ:Int):Rat):=by exact_mod_cast(by exact Oo:0<1+δ)
   have n0:(0:Rat)<((1+η:Int):Rat):=by exact_mod_cast(by exact Oo:0<1+η)
   have e:=pV (f:=lw (1+η) (1+δ)) (kC Oo).pos;refine Rat.lt_of_mul_lt_mul_right (c:=((1+δ:Int):Rat)) ?_ (Rat.le_of_lt d0);rw[Rat.zero_mul,gv,Rat.div_mul_cancel (Rat.ne_of_gt d0)];exact n0
  clear gv;generalize lw (1+η) (1+δ)=g at ec Y gz g0;have tc:eZ H7 Hc:=((((κ.trans s9).t.trans (F9.t sa)).trans (Fa.t sb))).trans sc.t;have t9:eZ H9 Hc:=((F9.t sa).trans (Fa.t sb)).trans sc.t;have Fc:=Fb.same sc;have ψ:=rt7.flat tc (lT _ _);have ο:=τ.flat tc (iI _);have xmc:=ξ.flat tc (iI _);have β:=tc _ _ hac;have υ:=ρ.flat tc (kD _);have o1c:=r1.t t9;clear rt7 τ ξ rxc hac ρ r1 F7 F9 Fa Fb κ s9 sa sb sc e8 tc t9;refine⟨_,rfl,_,rfl,_,rfl,_,rfl,_,rfl,ac,rfl,Y7P β,rK (xs:=vc) (λi z H'=>∃f:Fr,Y3i f z/\∃h,r[i]?=some h/\f=lM g h) (λi y Ha Hb s ⟨x,h1,h2⟩=>⟨x,h1.flat s (dS x),h2⟩) Oo β (λi z H' Q' hz s' k'=>?_) (λD G Hd hD ed sd hld hrd=>?_)⟩
  ·obtain⟨h,hh,rh⟩:=fC υ hz;have j:=(m h (aE hh)).1;refine Y0g;exact qU.i (iZ.new (s' _ _ ec)) (iZ.of (rh.same s')) Y.1.low j.low gz (BH j Dd Dd Dd) λq4 H4 hq4 e4 s4=>k' _ H4 s4 ⟨_,fG e4,h,hh,rfl⟩
  obtain⟨ds,lds,rds,fds⟩:=HD (P:=λi f=>∃h,r[i]?=some h/\f=lM g h) hrd;have lds:ds.length=M:=Oo;refine Y0X D G (Y6W ed ?_);have sl:=Y3b G hl;have ω:(upd Hd l (.tup G)) l=Yf G:=bK;generalize upd Hd l (.tup G)=He at sl ω;refine rG (by show 4<=64;decide) λqf Hf hqf ef sf=>?_;have Sf:=(sd.trans sl).trans sf;have dP:∀f∈ds,LJ 72 1000 f:=λf d=>by
   obtain⟨i,C⟩:=List.getElem?_of_mem d;obtain⟨h,hh,rfl⟩:=fds i f C;have j:=m h (aE hh);refine Y0A ((Y.1.mul j.1).le Dd);have:=cB (Rat.le_of_lt g0) (BP j.1.low j.2);rw[<-jR Y.1.low.pos j.1.low.pos]at this;exact WI (hJ Y.1.low j.1.low) this
  have LB:=LW (N:=M) Oo lds dP;refine nR.i (ψ.same Sf) ⟨qf,xb,xm,_,rfl,ef,ο.same Sf,xmc.same Sf,DZ.of (dI.tup (sf _ _ ω) ((rds.same sl).same sf))⟩ LB.fw (λf d=>(LB.c f d).1) λo2 v2 Hg sg q2 α z2=>Yw;intro I X;have eo2:=aGg g0 (λi=>?_) q1 q2
  rotate_left
  ·by_cases C:i<ds.length
   ·obtain⟨h,hh,e⟩:=fds i _ (aC C);rw[rY (aC C),rY hh,e,jR Y.1.low.pos (m h (aE hh)).1.low.pos]
   ·rw[nF Oo,nF Oo,Rat.mul_zero]
  have Sg:=Sf.trans sg;have O:=o1c.t Sg.t;refine Y0b (λb H'=>Yx b/\aT Hg H') ?_
  ·refine⟨_,rfl,rfl,_,rfl,rfl,rfl,_,rfl,?_⟩;rw[O.none_iff,α.none_iff,eo2,Option.isNone_map];refine sX (by simp) Y6K;rw[O.none_iff];cases o1 with
   | none=>exact nY (Y5 Y08)
   | some p1 =>
    refine oI Y4c;refine qU.i (iZ.new (Sg _ _ ec)) (iZ.of O) Y.1.low (bZ p1) gz (z1 p1 rfl) λqh Hh hqh eh sh=>?_;have em:lM g (fJ p1)=fJ (rv g*p1):=iR (hJ Y.1.low (bZ p1)) Y06 (by rw[jR Y.1.low.pos (bZ p1).pos,dC,dC]);rw[em]at eh;rw[eo2]at α;have α:Y3e Hg (rv g*p1) v2:=α;refine reD (α.same sh) (fG eh) (uX _) (uX _) ?_;rw[HE,cO rfl];exact Y0X _ rfl sh
  rintro _ Hh ⟨rfl,sh⟩;refine nY ?_;have χ:=Sg.trans sh;have Fh:=Fc.same χ;have rth:=ψ.same χ;have xbh:=ο.same χ;have xmh:=xmc.same χ;have γ:=χ _ _ β;have rch:=υ.same χ;have o1h:=O.t sh.t;clear ψ ο xmc β υ o1c O α Fc Sg Sf sg sh sf sl sd ω ed ef ec rds hrd hld q2 z2 eo2 χ;refine Y4J _ ac (Y7P γ) (ZI (YbE p L (999798-2*i)) Fh (λi y H'=>∃f:Fr,Y3i f y/\∃u h:Fr,r[i]?=Yo/\LJ 12 5 h/\f=pJ u h) (λi y Ha Hb s ⟨x,h1,h2⟩=>⟨x,h1.flat s (dS x),h2⟩) Oo γ (λi x H' Q' hx F' s' k'=>?_) (λDi G Hi hDi ei Fi si hzi hri=>?_))
  ·obtain⟨u,hu,ru⟩:=fC rch hx;have ζ:=(m u (aE hu)).1;have C:i<M:=by rw[<-lvc];exact(aB.mp hx).1
   refine Y0g;refine mW.i (n:=999798-2*(i+1)) (F'.less Oo) λv h H2 T2 s2 α j=>qV.i (iZ.of ((ru.flat (Fh.t s') (dS _)).flat (F'.t s2) (dS _))) (iZ.of α) ζ.low j.1.low (BH ζ Dd Dd Dd) (BH j.1 Dd Dd Dd) ?_;intro q3 H3 hq3 e3 s3;exact k' _ H3 (T2.same s3) (s2.trans s3.but) ⟨_,fG e3,u,h,hu,j,rfl⟩
  obtain⟨m1,lm1,rm1,fm1⟩:=HD (P:=λi f=>∃u h:Fr,r[i]?=Yo/\LJ 12 5 h/\f=pJ u h) hri;have lm1:m1.length=M:=Oo;have mP:∀f∈m1,LJ 72 1000 f:=λf d=>by
   obtain⟨i,C⟩:=List.getElem?_of_mem d;obtain⟨u,h,hu,j,rfl⟩:=fm1 i f C;have ζ:=m u (aE hu);refine Y0A (((ζ.1.add j.1).dvd Dd).le Dd);have h1:=BP ζ.1.low ζ.2;have h2:=BP j.1.low j.2;exact WI (tZ ζ.1.low j.1.low) (by rw[sF ζ.1.low.pos j.1.low.pos];grind)
  have vm1:∀v,cS r v<=cS m1 v:=λv=>by
   by_cases hv:v<M
   ·have e1:=aC (l:=m1) (i:=v) Oo;obtain⟨u,h,hu,j,e⟩:=fm1 v _ e1;rw[rY hu,rY e1,e,sF (m u (aE hu)).1.low.pos j.1.low.pos];have:=BP j.1.low j.2;grind
   ·rw[nF Oo,nF Oo];exact Rat.le_refl
  refine Y0X Di G (Y6W ei ?_);refine Yw;intro I X;have sl:=Y3b G hl;have ω:(upd Hi l (.tup G)) l=Yf G:=bK;generalize upd Hi l (.tup G)=Hj at sl ω;have Fj:gC Hj p L 999700:=(Fi.same sl).less Oo;have tj:eZ Hh Hj:=(Fh.t si).trans sl.t;have rtj:=rth.flat tj (lT _ _);have xbj:=xbh.flat tj (iI _);have xmj:=xmh.flat tj (iI _);have hcj:=tj _ _ γ;have rcj:=rch.flat tj (kD _);have o1j:=o1h.t tj;have rmj:=rm1.same sl;clear rth xbh xmh γ rch o1h Fh Fi si sl tj hri ei hzi rm1;have mn:∀w,0<=cS J w:=λw=>GB (N:=xT) (B:=1) (λf d=>⟨(U.at f d).1,(U.at f d).2⟩) w;have LC:=LW (N:=M) Oo lm1 mP;refine⟨_,rfl,_,rfl,_,rfl,_,rfl,_,rfl,_,rfl,?_⟩;refine rG (by show 4<=64;decide) λqk Hk hqk ek φ=>nR.i (rtj.same φ) ⟨qk,xb,xm,_,rfl,ek,xbj.same φ,xmj.same φ,DZ.of (dI.tup (φ _ _ ω) (rmj.same φ))⟩ LC.fw (λf d=>(LC.c f d).1) λo3 v3 Hl sl q3 r3 z3=>?_;have ε:=φ.trans sl;refine qT.i (o1j.t ε.t) r3 z1 z3 ?_;have n3:=aCF (λZ A=>⟨A,DD A TT.qin mn λe _ _=>vm1 _⟩) q3 q1;rw[XR n3.1 n3.2];refine Y6 (nY ?_);have Fl:=Fj.same ε;have rtl:=rtj.same ε;have xbl:=xbj.same ε;have ι:=xmj.same ε;have hcl:=ε _ _ hcj;have rcl:=rcj.same ε;have ν:=o1j.t ε.t;clear rtj xbj xmj hcj rcj o1j Fj rmj ω q3 r3 z3 n3 ε sl φ ek;refine⟨_,rfl,_,rfl,_,_,rfl,rfl,_,rfl,_,rfl,_,rfl,_,rfl,?_⟩;refine mW.i (n:=999600) (Fl.less Dd) λv4 f4 Hm Fm sm r4 fP4=>?_
  refine rG (by show 1<=64;decide) λqn Hn hqn en sn=>?_;have tn:eZ Hl Hn:=(Fl.t sm).trans sn.t;refine aBY (tn _ _ hcl) en (by show vc.length+1<=1000;exact Oo) λqo Ho so eo=>rG (by show 4<=64;decide) λqp Hp hqp ep sp=>?_;have tp:eZ Hl Hp:=tn.trans (so.trans sp).t;have LD:=LW (N:=M+1) (ds:=r++[f4]) Oo (by rw[aV,R];rfl) (λf d=>by
   rcases dH.mp d with d | d
   ·exact c72 f d
   ·rw[bV.mp d];exact⟨(fP4.1.dvd Dd).le Dd,fP4.2⟩)
  refine nR.i (rtl.flat tp (lT _ _)) ⟨qp,xb,xm,_,rfl,ep,xbl.flat tp (iI _),ι.flat tp (iI _),DZ.of (dI.tup (sp _ _ eo) (by
   rw[bD];exact bI.snoc (rcl.flat tp (kD _)) (r4.flat (sn.trans (so.trans sp)).t (dS _))))⟩ LD.fw (λf d=>(LD.c f d).1) λo4 v4' Hq sq q4 r4' z4=>?_
  have θ:=tp.trans sq.t;refine Y6 (qT.i r4' (ν.t θ) z4 z1 ?_);have n4:=aCF (λZ A=>⟨A.up,DD A TT.qin mn λe he z=>by
   have h:=A.on e he z;have e1:(r++[f4])[e.1.sum]?=r[e.1.sum]?:=cM Oo;unfold cS;rw[aR,e1,<-aR];exact Rat.le_refl⟩) q1 q4
  rw[XR n4.1 n4.2];refine Y6 (nY ?_);have Fq:=((Fm.same sn).same (so.trans sp)).same sq;have rtq:=rtl.flat θ (lT _ _);have xbq:=xbl.flat θ (iI _);have xmq:=ι.flat θ (iI _);have hcq:=θ _ _ hcl;have rcq:=rcl.flat θ (kD _);have o1q:=ν.t θ;clear rtl xbl ι hcl rcl ν Fl Fm q4 r4' z4 n4 tn tp θ sq sp so sn sm en eo ep r4;refine Y4Q _ _ _ rfl _ ?_;refine rG (by show 2<=64;decide) λqr Hr hqr er sr=>rG (by show 1<=64;decide) λqs Hs hqs Z ss=>Y9;refine aIu (k:=M) Z Oo λqt Ht st et=>rG (by show 4<=64;decide) λqu Hu hqu eu su=>?_;have S1:=(sr.trans ss).trans (st.trans su);have Z0:∀f∈List.replicate M ((0,1):Fr),LJ 72 1000 f:=λf d=>by rw[List.eq_of_mem_replicate d];exact⟨(Fn.zero 72).le Dd,Dd⟩
  have LE:=LW (N:=M) Oo bH Z0;refine nR.i (rtq.same S1) ⟨qu,xb,xm,_,rfl,eu,xbq.same S1,xmq.same S1,DZ.of (dI.tup (su _ _ et) (bI.ofIdx (by rw[aA,bH,bH]) λi y C=>by
   have li:=(aB.mp C).1;rw[bH]at li;rw[List.getElem?_replicate,if_pos li]at C;cases C;exact⟨iY (0,1),by rw[aG,List.getElem?_replicate,if_pos li];rfl,fG ((ss.trans (st.trans su)) _ _ er)⟩))⟩ LE.fw (λf d=>(LE.c f d).1) λo5 v5 Hv sv q5 r5 z5=>?_
  refine Yw;intro I X;have Sv:=S1.trans sv;have c0:∀Z,fM F W Z (hZ (Y13)) (cS J) (cS (List.replicate M (0,1)))=0:=λZ=>by
   have e:cS (List.replicate M ((0,1):Fr))=λi=>0*cS r i:=funext λi=>by
    rw[Rat.zero_mul];by_cases C:i<M
    ·rw[rY (f:=(0,1)) (by rw[List.getElem?_replicate,if_pos C])];exact nG
    ·exact nF (by rw[bH];exact Oo)
   rw[e,vA,Rat.zero_mul]
  have S:=o1q.t Sv.t;refine Y6K;rw[S.none_iff];cases o1 with
  | none =>
   refine oI (Y2B);intro I;refine Y0X _ rfl ?_;have:o5=none:=by
    cases o5 with
    | none=>rfl
    | some v =>
     obtain⟨Z,A,K,_⟩:=q5;exact absurd K (q1 Z A)
   rw[r5.none_iff,this];exact k _
  | some p1 =>
   refine nY ?_;obtain⟨Z,A,Ke,ce,le⟩:=q1;obtain rfl:o5=some 0:=by
    cases o5 with
    | none=>exact absurd Ke (q5 Z A)
    | some v =>
     obtain⟨es',_,_,ce',_⟩:=q5;rw[c0]at ce';rw[<-ce']
   have r5:Y3e Hv 0 v5:=r5;have S:Y3e Hv p1 v1:=S;rw[CS]at r5;refine Y9;refine rG (by show 2<=64;decide) λqw Hw hqw ew sw=>reD (r5.same sw) (fG (f:=(0,1)) ew) (uX _) (uX _) ?_;rw[HE,cO rfl];refine Y6 (oI ?_);obtain⟨cb1,cb2⟩:=A.cost TT.qin (GB m) mn (by have:=pQ J;rw[U.one,U.len]at this;exact this.symm);rw[ce]at cb1 cb2;have up1:0<=(fJ p1).1:=WI (bZ p1) (by rw[dC];exact cb1);obtain⟨pa,hpa,epa⟩:=iZ.of (K:=K) (S.same sw);subst hpa;have Sw:=Sv.trans sw;refine Y0q epa;refine Y5i _ _ _ (zI (cO up1) ?_);have μ:∀f∈r,Y1y 12 5:=λf d=>(m f d).1;have tk:KY r:=uC μ Dd (Y74 (show 12<2^10 by decide)) Oo (Y4j (show 5<=2^10 by decide));refine Y9;refine uO.i (Sw _ _ hcq) (wE.of (rcq.same Sw)) tk λvt Hx sx rx=>?_;have ft:=Fn.tot r μ;refine Y6 (oH.i (iZ.of rx) (iZ.of ((S.same sw).same sx)) (BH ft Dd Dd (by rw[R];have:=bO 5 m2;exact Oo)) (z1 p1 rfl) ?_);have ev:rv (oG r)=kW M (cS r) 0:=by
    rw[MH r λf d=>(μ f d).low,pQ,R];unfold kW;exact bR λi _=>by rw[Nat.zero_add]
   have no:¬((oG r).1*(fJ p1).2<(fJ p1).1*(oG r).2):=λh=>by
    rw[WK ft.low.pos (bZ p1).pos,dC,ev]at h;exact absurd cb2 (Rat.not_le.mpr h)
   refine Y9;rw[bT no];exact k _
end
def PV{K:Aa}{C:Addr}:∀f∈([]:Ah),oC K C f:=λ_ h=>by cases h
def nT{K:Aa}{C:Addr}{g:Str}{fs:Ah}(h:oC K C g)(r:∀f∈fs,oC K C f):∀f∈g::fs,oC K C f:=λf a=>by
 rcases bN.mp a with rfl | a
 ·exact h
 ·exact r f a
def aIx{α:Type}{us:Yu}(h:Y3d 1):∃a,us=[a]:=match us,h with | [a],_=>⟨a,rfl⟩
def aGf{α:Type}{us:Yu}(h:Y3d 2):∃a b,us=[a,b]:=match us,h with | [a,b],_=>⟨a,b,rfl⟩
def aBF{α:Type}{us:Yu}(h:Y3d 3):∃a b c,us=[a,b,c]:=match us,h with | [a,b,c],_=>⟨a,b,c,rfl⟩
def aIw{α:Type}{us:Yu}(h:Y3d 4):∃a b c d,us=[a,b,c,d]:=match us,h with | [a,b,c,d],_=>⟨a,b,c,d,rfl⟩
def aIv{α:Type}{us:Yu}(h:Y3d 5):∃a b c d e,us=[a,b,c,d,e]:=match us,h with | [a,b,c,d,e],_=>⟨a,b,c,d,e,rfl⟩
def aE3{K:Aa}{x q:Str}{st:Stmt}{f:Addr}{fd:FuncData}(F:Yb x q st)(P:Y0C FuncData)(h:P fd):∃fd,P fd:=⟨fd,h⟩
inductive Dn (K:Aa) (n:Str) (st:Stmt):Prop
 | mk {f:Addr} {oc:Value} {od:Y3v} {kV dc pm:Value} {an:Y3v} {cd ct:Value} {sl:Y60} (a:PySem.W.nsIn K mainGlobals n=Y4t f) (l:K.lookup f=some (Y82 oc od (PySem.W.fnOf n n (nI st) (kN st) (bA st) .none kV dc pm an cd ct) sl)) (c:Yc3 cd n=true) (k:Y94 K f=true):Yk n st
def fnd(l:PySem.W.OpenLaw)(w:World){K:Aa}{h:Heap}{mg:Y0H}(X:K.In h)(G:YbZ mg)(base:Heap){n:Str}{st:Stmt}{L:Nat}{ps:Ah}{sp:Sp}(d:Yk n st)(o:∀{f:Addr}{fd:FuncData},Yb n n st->dO l.prog w K mg base cV L f fd ps sp)(b:∀(kV doc pm:Value) (an:Y3v) (cdv ct:Value) (us:Ag),Y3d ps.length->bindArgs (PySem.W.fnOf n n (nI st) (kN st) (bA st) .none kV doc pm an cdv ct) ⟨us,[]⟩=pure (Y9N):=by intro _ _ _ _ _ _ us hl;first | (obtain⟨_,rfl⟩:=aIx hl;rfl) | (obtain⟨_,_,rfl⟩:=aGf hl;rfl) | (obtain⟨_,_,_,rfl⟩:=aBF hl;rfl) | (obtain⟨_,_,_,_,rfl⟩:=aIw hl;rfl) | (obtain⟨_,_,_,_,_,rfl⟩:=aIv hl;rfl)):fI cV l.prog w K mg base L n ps sp:=by
 obtain⟨a,e,c,k⟩:=d;exact⟨_,_,o (vZ e c k),PySem.W.mg_of X G a,k,(vZ e c k).binds b⟩
open PySem.W (nsIn fnOf codeIn keepIn mg_of mg_none_of) in
def aFk{l:PySem.W.OpenLaw}{w:World}{K:Aa}{h:Heap}{mg:Y0H}{fa:Addr}{c_ONE:Addr}{c_NOUGHT:Addr}{c_Weighing:Addr}{c_Master:Addr}{tok_LOOKS_ON:Tok}{tok_ROOM:Tok}{tok_LACK:Tok}{tok_RULE:Tok}{tok_NONE:Tok}(X:K.In h)(G:YbZ mg)(hfa:mg "law" = Y3 fa)
  (u_ONE:Y1P "ONE" = Y4t c_ONE)
  (u_NOUGHT:Y1P "NOUGHT" = Y4t c_NOUGHT)
  (u_Weighing:Y1P "Weighing" = Y4t c_Weighing)
  (u_Master:Y1P "Master" = Y4t c_Master)
  (u_LOOKS_ON:Y1P "LOOKS_ON" = some (some (.int 0 tok_LOOKS_ON)))
  (u_ROOM:Y1P "ROOM" = some (Y8r "room" tok_ROOM))
  (u_LACK:Y1P "LACK" = some (Y8r "lack" tok_LACK))
  (u_RULE:Y1P "RULE" = some (Y8r "rule" tok_RULE))
  (u_NONE:Y1P "NONE" = some (Y8r "none" tok_NONE))
  (mi_Master:YbV c_Master=true)
  (pg_Master:Yax c_Master Str.empty=true)
  (hd_Master:YbA c_Master=true)
  (po_Master:YbK c_Master=true)
  (sa_Master:Y8v K "__setattr__" = some (Y6O "object.__setattr__"))
  (n0_Master:Y8v K "rows" = Y1u)
  (n1_Master:Y8v K "parts" = Y1u)
  (n2_Master:Y8v K "standing" = Y1u)
  (mi_Weighing:YbV c_Weighing=true)
  (pg_Weighing:Yax c_Weighing Str.empty=true)
  (hd_Weighing:YbA c_Weighing=true)
  (po_Weighing:YbK c_Weighing=true)
  (sa_Weighing:Y9e K "__setattr__" = some (Y6O "object.__setattr__"))
  (n0_Weighing:Y9e K "rising" = Y1u)
  (n1_Weighing:Y9e K "units" = Y1u)
  (n2_Weighing:Y9e K "weights" = Y1u)
  (n3_Weighing:Y9e K "cost_unit" = Y1u)
  (n4_Weighing:Y9e K "costs" = Y1u)
  (o_ONE:vX K c_ONE [1,1]=true)
  (o_NOUGHT:vX K c_NOUGHT [0,1]=true)
  (d0:Yk "common_divisor" aDU)
  (d1:Yk "plus" aDr)
  (d2:Yk "less" aDD)
  (d3:Yk "times" aDg)
  (d4:Yk "is_less" aDJ)
  (d5:Yk "total" aDe)
  (d6:Yk "least_place" aDF)
  (d7:Yk "faces_of" aDO)
  (d8:Yk "ways_of" aDc)
  (d9:Yk "way_shares" aDd)
  (d10:Yk "power" aDq)
  (d11:Yk "weight" aDb)
  (d12:Yk "counts_that_are" aAT)
  (d13:Yk "all_counts" aD1)
  (d14:Yk "one_more" aDx)
  (d15:Yk "ones_more" aDw)
  (d16:Yk "sums_at" aDh)
  (d17:Yk "worths" aC8)
  (d18:Yk "common_lower" aDT)
  (d19:Yk "times_whole" aDf)
  (d20:Yk "in_units" aDK)
  (d21:Yk "look_cost" aDC)
  (a22:Y9e K "__init__" = Y4t f22) (l22:K.lookup f22=some (Y82 oc22 od22 (fnOf "__init__" "Weighing.__init__" (nI sQ3) (kN sQ3) (bA sQ3) .none kV22 dc22 pm22 an22 cd22 ct22) sl22)) (c22:codeIn K cd22 "Weighing.__init__" = true) (k22:Y8o K f22=true) (fn22:Y97 K f22=true) (kp22:Y8o K c_Weighing=true)
  (d23:Yk "weights_at" aDa)
  (d24:Yk "best_places" aDZ)
  (d25:Yk "looks_on" aDB)
  (d26:Yk "noughts" aDz)
  (d27:Yk "counts_behind" aDR)
  (d28:Yk "counts_come_to" aDQ)
  (d29:Yk "rule_within" aDl)
  (d30:Yk "plain_table" aDs)
  (d31:Yk "one_among" aDy)
  (d32:Yk "product" aDo)
  (d33:Yk "is_sooner" aDI)
  (d34:Yk "leaving" aDE)
  (d35:Yk "exchanged" aDP)
  (a36:Y8v K "__init__" = Y4t f36) (l36:K.lookup f36=some (Y82 oc36 od36 (fnOf "__init__" "Master.__init__" (nI sQ0) (kN sQ0) (bA sQ0) .none kV36 dc36 pm36 an36 cd36 ct36) sl36)) (c36:codeIn K cd36 "Master.__init__" = true) (k36:Y8o K f36=true) (fn36:Y97 K f36=true) (kp36:Y8o K c_Master=true)
  (a37:Y8v K "rates" = Y4t f37) (l37:K.lookup f37=some (Y82 oc37 od37 (fnOf "rates" "Master.rates" (nI sQ2) (kN sQ2) (bA sQ2) .none kV37 dc37 pm37 an37 cd37 ct37) sl37)) (c37:codeIn K cd37 "Master.rates" = true) (k37:Y8o K f37=true) (fn37:Y97 K f37=true) (kp37:Y8o K c_Master=true)
  (a38:Y8v K "enter" = Y4t f38) (l38:K.lookup f38=some (Y82 oc38 od38 (fnOf "enter" "Master.enter" (nI sQ1) (kN sQ1) (bA sQ1) .none kV38 dc38 pm38 an38 cd38 ct38) sl38)) (c38:codeIn K cd38 "Master.enter" = true) (k38:Y8o K f38=true) (fn38:Y97 K f38=true) (kp38:Y8o K c_Master=true)
  (d39:Yk "lacks" aDH)
  (d40:Yk "rates_of" aDn)
  (d41:Yk "factors_of" aDN)
  (d42:Yk "column_by" aDW)
  (d43:Yk "better" aDX)
  (d44:Yk "settled" aDk)
  (d45:Yk "rule_faces" aDm)
  (d46:Yk "amounts" aD0)
  (d47:Yk "comings" aDV)
  (d48:Yk "onwards" aDv)
  (d49:Yk "spent" aDj)
  (d50:Yk "over" aDu)
  (d51:Yk "parts_of" aDt)
  (d52:Yk "says_of_parts" aAR)
  (d53:Yk "mixed" aDA)
  (d54:Yk "fraction" aDL)
  (d55:Yk "standing_mixed" aDi)
  (d56:Yk "prices_of" aDp)
  (d57:Yk "without_costs" aC9)
  (d58:Yk "cost" aDS)
  (d59:Yk "fewest" aDM)
  (d60:Yk "least_cost" aDG)
  (d61:Yk "_law_feed" sQ8)
  (d62:Yk "_law_draw" sQ7)
  (d63:Yk "_law_frac" sQ9)
  (d64:Yk "_law_plus" aD6)
  (d65:Yk "_law_times" aD4)
  (d66:Yk "_law_below" sQ5)
  (d67:Yk "_law_total" aD3)
  (d68:Yk "_law_shares" aD5)
  (d69:Yk "_law_trial" aD2)
  (d70:Yk "_law_little" aD8)
  (d71:Yk "_law_bound" sQ6)
  (d72:Yk "_law_aim" sQ4)
  (d73:Yk "_law_no_more" aD7)
  (d74:Yk "law" aAS) (z0:Y1P "list" = Y1u) (z1:Y1P "len" = Y1u) (z2:Y1P "abs" = Y1u) (z3:Y1P "range" = Y1u) (z4:Y1P "sum" = Y1u) (z5:Y1P "zip" = Y1u) (z6:Y1P "reversed" = Y1u) (z7:Y1P "tuple" = Y1u) (z8:Y1P "sorted" = Y1u) (z9:Y1P "int" = Y1u) (z10:Y1P "min" = Y1u) (z11:Y1P "enumerate" = Y1u) (z12:Y1P "any" = Y1u) :
  ∃fd:FuncData,(∀(s:Shared) (v:Value),Ya0 s ⟨[v],[]⟩ [("_law_script",v)])/\∀base:Heap,K.In base->Ybz mg->dO l.prog w K mg base cV 11 fa fd a25 (yA K):=by
 obtain⟨m,u,y,j⟩:=d74;have e:=hfa.symm.trans (Y6C G m);cases e;generalize hcl:(⟨c_ONE,c_NOUGHT,c_Weighing,c_Master,tok_LOOKS_ON,tok_ROOM,tok_LACK,tok_RULE,tok_NONE⟩:Cl)=c;have T:Ye:=by rw[<-hcl];exact⟨Y4Z G z0,Y4Z G z1,Y4Z G z2,Y4Z G z3,Y4Z G z4,Y4Z G z5,Y4Z G z6,Y4Z G z7,Y4Z G z8,Y4Z G z9,Y4Z G z10,Y4Z G z11,Y4Z G z12,Y6C G u_ONE,Y6C G u_NOUGHT,Y6C G u_LOOKS_ON,Y6C G u_ROOM,Y6C G u_LACK,Y6C G u_RULE,Y6C G u_NONE,Y6C G u_Master,⟨⟨pg_Master,hd_Master,po_Master,sa_Master⟩,(nT n0_Master (nT n1_Master (nT n2_Master PV)))⟩,Y6C G u_Weighing,⟨⟨pg_Weighing,hd_Weighing,po_Weighing,sa_Weighing⟩,(nT n0_Weighing (nT n1_Weighing (nT n2_Weighing (nT n3_Weighing (nT n4_Weighing PV)))))⟩,o_ONE,o_NOUGHT⟩
 have F74:=vZ (st:=aAS) u y j;refine aE3 F74 _ ⟨λs v=>.of_eq rfl,λbase _ _=>?_⟩;have N:=@fnd l w K h mg X G base;have GQ23:=Ym d0 (aIc F T);have GQ54:=Ym d1 (aHH F T GQ23);have GQ42:=Ym d2 (aHT F T GQ54);have GQ66:=Ym d3 (aHv F T GQ23);have GQ35:=Ym d4 (aH0 F T);have GQ68:=Ym d5 (aHt F T GQ54);have GQ40:=Ym d6 (aHV F T GQ35);have GQ30:=Ym d7 (aH5 F T);have GQ70:=Ym d8 (aHr F T);have GQ69:=Ym d9 (aHs F T);have GQ55:=Ym d10 (aHG F T);have GQ71:=Ym d11 (aHq F T GQ69 GQ66 GQ55);have GQ28:∀n:Nat,fI cV l.prog w K mg base (1+n) "counts_that_are" a28 (oX n):=λn=>by
  induction n with
  | zero=>exact Ym d12 (aG6 F T)
  | succ n ih=>exact Ym d12 (aH7 n F T ih)
 have GQ17:=Ym d13 (aIi F T (GQ28 4));have GQ48:=Ym d14 (aHN F T);have GQ49:=Ym d15 (aHM F T GQ48);have GQ65:=Ym d16 (aHw F T GQ71 GQ70 GQ66 GQ68 GQ42 GQ49 GQ54);have GQ74:=Ym d17 (aHn F T GQ17 GQ30 GQ65 GQ40);have GQ24:=Ym d18 (aIb F T GQ23);have GQ67:=Ym d19 (aHu F T);have GQ34:=Ym d20 (aH1 F T GQ67);have GQ43:=Ym d21 (aHS F T GQ66 GQ71 GQ70 GQ68);have F22:=vZ (st:=sQ3) l22 c22 k22;have i:=F22.binds (ps:=a21) λ_ _ _ _ _ _ a d=>by obtain⟨_,_,_,rfl⟩:=aBF (show a.length=3 from d);rfl
 have GQ3:FnO l.prog w K mg base 7 c.Weighing a21 (wN K c.Weighing):=⟨_,_,oQ3 F22 T GQ17 GQ30 GQ70 GQ71 GQ24 GQ34 GQ43,⟨(by rw[<-hcl];exact mi_Weighing),(by rw[<-hcl];exact a22),fn22,(by rw[<-hcl];exact kp22)⟩,i⟩;have GQ72:=Ym d23 (aHp F T);have GQ19:=Ym d24 (aIg F T GQ72 GQ49);have GQ44:=Ym d25 (aHR F T);have GQ46:=Ym d26 (aHP F T);have GQ26:=Ym d27 (aH9 F T GQ44 GQ49);have GQ27:=Ym d28 (aH8 F T GQ46 GQ26);have GQ60:=Ym d29 (aHB F T GQ27);have GQ53:=Ym d30 (aHI F T);have GQ47:=Ym d31 (aHO F T);have GQ57:=Ym d32 (aHE F T);have GQ36:=Ym d33 (aHZ F T);have GQ41:=Ym d34 (aHU F T GQ36);have GQ29:=Ym d35 (aH6 F T);have F36:=vZ (st:=sQ0) l36 c36 k36;have g:=F36.binds (ps:=a16) λ_ _ _ _ _ _ a d=>by obtain⟨_,_,_,rfl⟩:=aBF (show a.length=3 from d);rfl
 have GQ0:FnO l.prog w K mg base 2 c.Master a16 (wS c.Master):=⟨_,_,oQ0 F36 T GQ47,⟨(by rw[<-hcl];exact mi_Master),(by rw[<-hcl];exact a36),fn36,(by rw[<-hcl];exact kp36)⟩,g⟩;have F37:=vZ (st:=sQ2) l37 c37 k37;have r:=F37.binds (ps:=a39) λ_ _ _ _ _ _ a d=>by obtain⟨_,_,rfl⟩:=aGf (show a.length=2 from d);rfl
 have GQ2:FnM l.prog w K mg base 2 c.Master "rates" a39 (qQ c.Master):=⟨_,_,oQ2 F37 T GQ57,⟨(by rw[<-hcl];exact a37),fn37,k37⟩,r⟩;have F38:=vZ (st:=sQ1) l38 c38 k38;have p:=F38.binds (ps:=a17) λ_ _ _ _ _ _ a d=>by obtain⟨_,_,_,rfl⟩:=aBF (show a.length=3 from d);rfl
 have GQ1:FnM l.prog w K mg base 3 c.Master "enter" a17 (tP c.Master):=⟨_,_,oQ1 F38 T GQ57 GQ41 GQ29,⟨(by rw[<-hcl];exact a38),fn38,k38⟩,p⟩;have GQ37:=Ym d39 (aHY F T);have GQ58:=Ym d40 (aHD F T GQ37 GQ2);have GQ31:=Ym d41 (aH4 F T);have GQ21:=Ym d42 (aIe F T GQ49);have GQ20:=Ym d43 (aIf F T GQ58 GQ31 GQ47 GQ19 GQ37 GQ21);have GQ62:=Ym d44 (aHz F T GQ67 GQ0 GQ20 GQ1);have GQ59:=Ym d45 (aHC F T);have GQ18:=Ym d46 (aIh F T GQ46 GQ59 GQ44 GQ66 GQ49 GQ54);have GQ22:=Ym d47 (aId F T GQ18 GQ66 GQ71);have GQ50:=Ym d48 (aHL F T GQ22 GQ66 GQ44);have GQ63:=Ym d49 (aHy F T GQ68 GQ66 GQ50);have GQ51:=Ym d50 (aHK F T GQ66);have GQ52:=Ym d51 (aHJ F T GQ18 GQ66);have GQ61:∀n:Nat,fI cV l.prog w K mg base (4+n) "says_of_parts" a00 (qC K n):=λn=>by
  induction n with
  | zero=>exact Ym d52 (aG5 F T)
  | succ n ih=>exact Ym d52 (aHA n F T GQ51 GQ54 ih)
 have GQ45:=Ym d53 (aHQ F T GQ52 GQ42 (GQ61 2) GQ60 GQ59);have GQ33:=Ym d54 (aH2 F T GQ23);have GQ64:=Ym d55 (aHx F T GQ60 GQ53 GQ45 GQ33);have GQ56:=Ym d56 (aHF F T GQ58 GQ31 GQ33);have GQ73:=Ym d57 (aHo F T);have GQ25:=Ym d58 (aIa F T GQ70 GQ68 GQ66 GQ63);have GQ32:=Ym d59 (aH3 F T GQ3 GQ62 GQ37 GQ56 GQ74 GQ73 GQ64 GQ30);have GQ39:=Ym d60 (aHW F T GQ32 GQ25);have GQ8:=Ym d61 (oQ8 F T);have GQ7:=Ym d62 (oQ7 F T);have GQ9:=Ym d63 (oQ9 F T);have GQ12:=Ym d64 (aIn F T GQ9);have GQ14:=Ym d65 (aIl F T GQ9);have GQ5:=Ym d66 (oQ5 F T);have GQ15:=Ym d67 (aIk F T GQ12);have GQ13:=Ym d68 (aIm F T GQ7 GQ9);have GQ16:=Ym d69 (aIj F T GQ7 GQ13);have GQ10:=Ym d70 (aIp F T GQ7 GQ9);have GQ6:=Ym d71 (oQ6 F T GQ7 GQ9);have GQ4:=Ym d72 (oQ4 F T GQ6 GQ13 GQ10);have GQ11:=Ym d73 (aIo F T GQ5);exact aHX F74 T GQ8 GQ7 GQ16 GQ4 GQ10 GQ9 GQ12 GQ14 GQ5 GQ15 GQ11 GQ39
end Kw
namespace PySem.W.Fast
def tw11494902721752349472:=()
def tw882703562004364002:=()
def tw4777861761995940912:=()
def tw320584636628360391:=()
def tw15013862987518601246:=()
def tw15652331742299013236:=()
def tw6460322163491417768:=()
def tw1809949813568151383:=()
def tw16753164826317895175:=()
def tw10510362301117089022:=()
def tw15532100379991897501:=()
def tw13263948725590313449:=()
def tw17143293055165844217:=()
def tw8970008740294407644:=()
def tw11075000842375405661:=()
def tw13065896307624828657:=()
def tw15871570175294951308:=()
def tw364710421073343119:=()
def tw3192980943481012559:=()
def tw2866127133233800253:=()
def tw631684101666400194:=()
def tw1531732502826837413:=()
def tw13622287191572271205:=()
def tw5518094695821217124:=()
def tw11605428915228242869:=()
def tw15017478748890747229:=()
def tw79338349781943024:=()
def tw16317932579731671906:=()
def tw10658091348711062488:=()
def tw8471153081931379944:=()
def tw52726723291098417:=()
def tw2192252608369391423:=()
def tw1582533119981274482:=()
def tw11940146971563606375:=()
def tw17581321569972922868:=()
def tw15093382273963607807:=()
def tw3216868624733197837:=()
def tw2336533463660491017:=()
def tw15627921643481719855:=()
def tw10374834935005277813:=()
def tw3688667302950576740:=()
def tw9356397174201439050:=()
def tw1092754516468424663:=()
def tw9098856660037490354:=()
def tw2353988967876399721:=()
def tw9535475846622159984:=()
def tw14291040670000587255:=()
def tw14579485933050438012:=()
def tw1707239430132873697:=()
def tw13843656644664159435:=()
def tw13616877117135602043:=()
def tw17800862329453661318:=()
def tw5762126127641346626:=()
def tw7146340428951900268:=()
def tw1081951790038430231:=()
def tw8997003048131312055:=()
def tw5260512184327330081:=()
def tw6334646201500546187:=()
def tw1406442608774135478:=()
def tw15486169406328430162:=()
def tw14322451485080333024:=()
def tw15912831715819960914:=()
def tw4380218445194703251:=()
def tw15605668261399866004:=()
def tw12459391442549148799:=()
def tw15862830853349646063:=()
def tw5604861099358452806:=()
def tw18351774205387259614:=()
def tw1104666531299776845:=()
def tw8072069190209243885:=()
def tw15421604114585465978:=()
def tw6092508152291578445:=()
def tw13999906870450011042:=()
def tw2043752845838944721:=()
def tw4274553086949189934:=()
def tw3771548199389428702:=()
def tw15675253411618166813:=()
def tw2911598415710065276:=()
def tw13385885177192280355:=()
def tw7009362004899928226:=()
def tw1507765029960415377:=()
def tw1532115692653643291:=()
def tw14969388396910963934:=()
def tw14299768324319221021:=()
def tw16770573808021689365:=()
def tw11655325854096595051:=()
def tw7193374183186982277:=()
def tw11545420282473526775:=()
def tw3176601920791596985:=()
def tw2738960949009644530:=()
def tw10998206650097512102:=()
def tw8436601655621422359:=()
def tw9791399438652337041:=()
def tw5046658946064374796:=()
def tw11536333242440496361:=()
def tw6232044007078912973:=()
def tw959197181129662271:=()
def tw13287141955928252950:=()
def tw4133115608290627617:=()
def tw12448534834098306606:=()
def tw15009190206188881206:=()
def tw11467743572828986348:=()
def tw12946681759860491787:=()
def tw16878080590171047343:=()
def tw1484445344177387150:=()
def tw7059685702740246069:=()
def tw10047952058263144019:=()
def tw11421199627658928950:=()
def tw13731764418878900473:=()
def tw8566898741330686559:=()
def tw15599318096720853576:=()
def tw17279310434163488165:=()
def tw7465668765200199700:=()
def tw3926838014228569414:=()
def tw2033173016898065422:=()
def tw13282670370556934472:=()
def tw11208041415580021039:=()
def tw2804533251977442013:=()
def tw10799262781627443454:=()
def tw8302896129248549153:=()
def tw6320430337687290054:=()
def tw14391216858744925670:=()
def tw11548328010303324821:=()
def tw18091543826862535800:=()
def tw13950097521416229932:=()
def tw889291953857690498:=()
def tw3027652921836935374:=()
def tw11000504595114101548:=()
def tw5463223838984349620:=()
def tw13128641803478004603:=()
def tw5258458105175304917:=()
def tw12335343977810015846:=()
def tw11827368018722238245:=()
def tw9037466438727616253:=()
def tw16700913127477780344:=()
def tw6950869901758579553:=()
def tw11678535060099787060:=()
def tw17239598565988239586:=()
def tw16401159203338675436:=()
def tw15796337703197858932:=()
def tw8235821693091846157:=()
def tw15307838846633425849:=()
def tw9682124757148195423:=()
def tw7842865491625036396:=()
def tw14443907961079230482:=()
def tw10626309531628657812:=()
def tw4325489188364067412:=()
def tw13123260605863178908:=()
def tw17376797044873471448:=()
def tw15993077555726875125:=()
def tw13946424452939564247:=()
def tw12647673795104779980:=()
def tw6897406962191748970:=()
def tw930512593850915518:=()
def tw11358726184559532804:=()
def tw4416602029345232994:=()
def tw4939481978838697312:=()
def tw6972188015624429694:=()
def tw428348504332971835:=()
def tw17367667119470393482:=()
def tw379614297832202258:=()
def tw14849876819316691654:=()
def tw5513671527162341471:=()
def tw667751601895695435:=()
def tw6966837910352949839:=()
def tw4062852019599745421:=()
def tw8429431555391620684:=()
def tw7548268670296079380:=()
def tw6375683541689932047:=()
def tw12513659111420435692:=()
def tw9861587083552650401:=()
def tw16147421291833663127:=()
def tw16367409901493881618:=()
def tw9569443295266248199:=()
def tw7246854233040244865:=()
def tw2929394640996922208:=()
def tw6862691563122975607:=()
def tw6490598735285478442:=()
def tw15068606148064342623:=()
def tw12442159888643357714:=()
def tw16159152787418849039:=()
def tw3214490373414673364:=()
def tw2590337810509879477:=()
def tw12213755888768458166:=()
def tw15024832008678504270:=()
def tw18269314231226143282:=()
def tw16582971681374143027:=()
def tw15670411872405676943:=()
def tw9537028680955458065:=()
def tw8810921183819942690:=()
def tw9363925704979721809:=()
def tw8967588602201626715:=()
def tw11732276134630465659:=()
def tw18359149814988407473:=()
def tw1668845100927758435:=()
def tw11040190444432399143:=()
def tw8712892261681434977:=()
def tw2383422529323155806:=()
def tw14189721401039826372:=()
def tw14660398131111443235:=()
def tw16685669934760315863:=()
def tw17548941375399059980:=()
def tw17016872917847804426:=()
def tw15623017176099515027:=()
def tw11211545459127587409:=()
def tw9327736686676482323:=()
def tw16596320891031227339:=()
def tw11629682383470550508:=()
def tw8808035314129279838:=()
def tw4337193289171491745:=()
def tw3744287394065381952:=()
def tw4398688320760806987:=()
def tw2168642123580207234:=()
def tw5605742618251688897:=()
def tw1832352691576173527:=()
def tw14434893871208221562:=()
def tw12453604049024018393:=()
def tw8488855959973683699:=()
def tw13681385653266773465:=()
def tw1191063498024539083:=()
def tw5092029721339422707:=()
def tw13211632286069964653:=()
def tw9370665914607051569:=()
def tw15722967340048509160:=()
def tw9007006196656919304:=()
def tw8516575573387421071:=()
def tw10869572669468897401:=()
def tw16245410623162282562:=()
def tw9478305442045610254:=()
def tw9340835267503268476:=()
def tw459936361167442304:=()
def tw15409986751054715368:=()
def tw8020984857021816670:=()
def tw5785169372129694684:=()
def tw4637891281177093638:=()
def tw331564755558297938:=()
def tw2404588440313979903:=()
def tw17843330576328085167:=()
def tw14804308414466562786:=()
def tw11775373280090855008:=()
def tw423972501561366727:=()
def tw4740595291441977419:=()
def tw3502119534359880703:=()
def tw10651740820032788794:=()
def tw17721446129431663310:=()
def tw14496534987475752252:=()
def tw6063593772711262742:=()
def tw14329522489010993006:=()
def tw13419323191923474183:=()
def tw6933136170062827954:=()
def tw5778733866377013352:=()
def tw17837802711876698753:=()
def tw17036497090612544483:=()
def tw16586956900209030723:=()
def tw15113181359365714288:=()
def tw14611936987520807076:=()
def tw11867943852129359863:=()
def tw5070866437196480854:=()
def tw9511811757473567530:=()
def tw2697037290091130135:=()
def tw17090339902230081645:=()
def tw8284185468106980467:=()
def tw16075081149143284983:=()
def tw17113614570406146982:=()
def tw15584391574048179351:=()
def tw4325288666352608278:=()
def tw17469576319216421755:=()
def tw16824499046093560247:=()
def tw14313338384641185589:=()
def tw10280817672853999031:=()
def tw3405378514995453497:=()
def tw12673139348029242065:=()
def tw7813271410674415814:=()
def tw4582891460495665238:=()
def tw5597771855219333426:=()
def tw321954293047563639:=()
def tw16825786577349781095:=()
def tw15476455641612325250:=()
def tw10159269122075530537:=()
def tw3139098287269649787:=()
def tw13694510436384168180:=()
def tw11575396109321158038:=()
def tw10357844536655006293:=()
def tw7418346921078618410:=()
def tw6514211956361754123:=()
def tw2578747948092776837:=()
def tw13049948058096585355:=()
def tw17621459232339224063:=()
def tw17645851973261230843:=()
def tw15490680489253830517:=()
def tw12824135739939115893:=()
def tw16296106148704472545:=()
def tw8786271700034861444:=()
def tw6282336886192844395:=()
def tw7993080479992534462:=()
def tw5857141319293078985:=()
def tw4291086069579509161:=()
def tw1614030222175942449:=()
def tw6954705135319194689:=()
def tw4176371632121257154:=()
def tw870278495431682869:=()
def tw7220148855051888752:=()
def tw4560742997763191954:=()
def tw3384064286460672567:=()
def tw5042915229188878762:=()
end PySem.W.Fast
open PySem PySem.W PyProof.Rows
set_option maxRecDepth 100000 in
set_option maxHeartbeats 0 in
theorem PySem.Challenge.cw_earlystop_k57_whole_costs_and_looks_more_holds : PySem.Challenge.rw_earlystop_k57_whole_costs_and_looks_more.Holds := by
  w_on;o_law;k_head;(case hw=>w_witness2)
  k_fill
  refine L2.VB (l:=PySem.Challenge.rw_earlystop_k57_whole_costs_and_looks_more) (n:=63) (k:=11) (x := "_law_script") (CX:=L2.cV) (sp:=λK=>Kw.yA K) rfl Dd rfl ⟨rfl,Dd,Dd,rfl⟩ (λw h Y=>PySem.W.kIn_of Y) ?F (λK H a j e _ g=>Kw.VX g e) (λ_ _ _ _ z=>z)
  case F =>
    intro w m i h KX G d
    refine' Kw.aFk KX G d ?u_ONE ?u_NOUGHT ?u_Weighing ?u_Master ?u_LOOKS_ON ?u_ROOM ?u_LACK ?u_RULE ?u_NONE ?mi_Master ?pg_Master ?hd_Master ?po_Master ?sa_Master ?n0_Master ?n1_Master ?n2_Master ?mi_Weighing ?pg_Weighing ?hd_Weighing ?po_Weighing ?sa_Weighing ?n0_Weighing ?n1_Weighing ?n2_Weighing ?n3_Weighing ?n4_Weighing ?o_ONE ?o_NOUGHT ?d0 ?d1 ?d2 ?d3 ?d4 ?d5 ?d6 ?d7 ?d8 ?d9 ?d10 ?d11 ?d12 ?d13 ?d14 ?d15 ?d16 ?d17 ?d18 ?d19 ?d20 ?d21 ?a22 ?l22 ?c22 ?k22 ?fn22 ?kp22 ?d23 ?d24 ?d25 ?d26 ?d27 ?d28 ?d29 ?d30 ?d31 ?d32 ?d33 ?d34 ?d35 ?a36 ?l36 ?c36 ?k36 ?fn36 ?kp36 ?a37 ?l37 ?c37 ?k37 ?fn37 ?kp37 ?a38 ?l38 ?c38 ?k38 ?fn38 ?kp38 ?d39 ?d40 ?d41 ?d42 ?d43 ?d44 ?d45 ?d46 ?d47 ?d48 ?d49 ?d50 ?d51 ?d52 ?d53 ?d54 ?d55 ?d56 ?d57 ?d58 ?d59 ?d60 ?d61 ?d62 ?d63 ?d64 ?d65 ?d66 ?d67 ?d68 ?d69 ?d70 ?d71 ?d72 ?d73 ?d74 ?z0 ?z1 ?z2 ?z3 ?z4 ?z5 ?z6 ?z7 ?z8 ?z9 ?z10 ?z11 ?z12
    (case u_ONE|u_NOUGHT|u_Weighing|u_Master|u_LOOKS_ON|u_ROOM|u_LACK|u_RULE|u_NONE|mi_Master|pg_Master|hd_Master|po_Master|sa_Master|n0_Master|n1_Master|n2_Master|mi_Weighing|pg_Weighing|hd_Weighing|po_Weighing|sa_Weighing|n0_Weighing|n1_Weighing|n2_Weighing|n3_Weighing|n4_Weighing|a22|l22|c22|k22|fn22|kp22|a36|l36|c36|k36|fn36|kp36|a37|l37|c37|k37|fn37|kp37|a38|l38|c38|k38|fn38|kp38|z0|z1|z2|z3|z4|z5|z6|z7|z8|z9|z10|z11|z12=>k_is);(case d0|d1|d2|d3|d4|d5|d6|d7|d8|d9|d10|d11|d12|d13|d14|d15|d16|d17|d18|d19|d20|d21|d23|d24|d25|d26|d27|d28|d29|d30|d31|d32|d33|d34|d35|d39|d40|d41|d42|d43|d44|d45|d46|d47|d48|d49|d50|d51|d52|d53|d54|d55|d56|d57|d58|d59|d60|d61|d62|d63|d64|d65|d66|d67|d68|d69|d70|d71|d72|d73|d74=>refine' Kw.Dn.mk ?a ?l ?c ?k;(case a=>k_is);(case l=>k_is);(case c=>k_is);(case k=>k_is));(case o_ONE=>kernel_rfl);(case o_NOUGHT=>kernel_rfl)
