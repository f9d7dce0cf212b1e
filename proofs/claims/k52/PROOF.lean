import PyProof.Rows.All
import Wide.All
import OpenK.AllK
import Wide.FinOn
import Lean
import PyProof.EqAt
import PyProof.EqKinds
import PyProof.TupleCall
import KE.IntBitsLaws
import PyProof.ZipIter
import KE.KRevIter
import PyProof.ListMulRoad
import PyProof.AutoListH
import PyProof.Rows.SeqMore
import PyProof.Rows.SumAny
import PyProof.SliceStr2
import PyProof.WalksMore
import KE.KSortTup
import PyProof.AttrMissHeap
import PyProof.TupleIter
import KE.KDictOf
import PyProof.DictWalks
import PyProof.DictValues
import KE.KDictList
import PyProof.Rows.MinMaxN
import PyProof.Rows.TupDisplay
import PyProof.DictTruth
import PyProof.Rows.SortRev
import PyProof.Rows.CallKwBuiltin
import PyProof.ListRange
import PyProof.StationsW
import PyProof.Rows.CatchBare
import OpenK.KRaise
import KE.KIsAll
import OpenK.KOwn
import PyProof.ExcInit
import PyProof.StrBlockG
import PyProof.Rows.Digits
import PyProof.Rows.StrOr
import PyProof.StrCalls2
import PyProof.StrBlock2
import KE.KIntText
import KE.LcSums
import PyProof.EnumMake
import PyProof.Rows.StrJoin2
import KE.KEqDict
import PySem.Challenge.RW_earlystop_k52_papers_of_other_shapes
set_option Elab.async false
set_option compiler.extract_closed false
set_option linter.all false
set_option maxHeartbeats 0
set_option maxRecDepth 100000
set_option hygiene false
abbrev zs:=Lean.Syntax
def zn(k:Lean.Name)(a:Array zs):zs:=.node .none k a
def zm(k:String)(a:Array zs):zs:=zn (`Lean.Parser.Term++k.toName) a
def za(s:String):zs:=.atom .none s
def zT:Array String:=#["(aaV,H,H')","(aY0Q,_$0)","(aY5r,s)","(aY1,?_)","(asome(a.ref$0))","(asome,o)","(=$0false)","(a.ref,a)","(aY1Q,Value)","(asome,x)","(aList,PyData)","(ahJ,K$0$1$2f,fd)","(abO$0$1(abA$2))","(aiH,K,mg,c)","(afR,X$0$1)","(aDn,K$0$1)","(aN$0(fF$1))","(aY0l,?_)","(>Al(>Hp(>VK(aY18,XK))))","(aPE,X$0$1)","(aaO,_)","(asome(a.tup$0))","(asome(a.int$0))","(aList,α)","(aeP,?_)","(a.ref,C)","(asome,v)","(adecide(=$0$1))","(amE,Yo)","(asome,u)","(as0,e)","(aY0K,1$0$1$2)","(aaC,0)","(aaV.refl,_)","(a.tuple,ds)","(aList,Expr)","","","","","","","","","","","","","","","","","","","","","","","","","","","(asome,y)","(aList,PySem.Str)","(t$0?_)","(>Str,Y7P)","(aY36,Y4N,V)","(asome(a.lst$0))","(aY3z,_,rfl,_$0)","(a.int,i)","(aY05,ys)","(acI,_)","(a.tuple(l$0$1))","(acE,F,es$0)","(asome,c)","(aY1M,Ak)","(aList.replicate,F,0)","(aaC,1)","(aeval$0X.env)","(~$0sizeLine)","(aY1(aY5X$0))","(aY4O,_$0)","(aH',D)","(trfl$0)","(aList,Addr)","(ah'.get?,b)","(ansIn,K,mainGlobals$0)","(t_$0)","(akM,Yg7$0)","(abL,H$0$1)","(abB,p,H,H')","(aY1Z,i)","(aOption,Addr)","(t$0$1rfl$2$3)","(t$0$1?_)","(a.ref,p)","(aY05,xs)","(=(aInt.gcd$0$1)1)","(adM,f)","(aArray,Nat)","(aY1(anH$0rfl,?_))","(aList,eJ)","(a.ref,b)","(aY06,?_)","(aY3A,0)","(aQ(a.bl$0)H)","(Ab,o(>$0$1))","(aeO,I,q$0)","(adS,cN,P,w,K,mg,base$0$1$2$3)","(aY2c$0H')","(ah.get?,b)","(aslots,σ,js)","(aYl,xs)","(to$0$1)","(t$0rfl$1)","(aaS(abT$0))","(aI.tok,_)","(aaB,_$0)","(awpAny(amodel,prog,w)A$0Q,E,s)","(aY4U$0_)","(>Al(>Hp(aY18,VK)))","(t$0rfl$1$2)","(aY6(qx$0))","(aQ,v,H')","(aOption,Int)","(acA(:i,3)$0$1)","(asome,none)","(a.ref,l)","(aaZ,_,rfl)","(aaJ,H$0$1)","(aY3A,1)","(>$0(aY18$1))","(>$0Prop)","(a.ref,s.heap.objs.size)","(aY1O$0$1(aaC$2))","(>Nat,Rat)","(aY3G,a$0)","(aFn(aoU,M$0$1$2$3)$4$5)","(t_(aY0R$0)$1)","(agA,?_)","(aY0L,D)","(aY3E,M)","(gys,i)","(aaC,3)","(aF.oky$0(fvs,H,Q,E,h,?_))","(>$0(aY18,Hp))","(aY1l,St)","(anbD,N$0$1)","(t_$0$1)","(aY0g,e)","(aH',b)","(aaR$0aH)","(aupd$0$1(a.lst$2))","(aList,Env)","(adens,ps)","(a.ref,x)","(aY0K,2$0$1$2)","(anQ,ws)","(aY4,a)","(acK,_)","(asome,.local)","(awpAny_pure,?_)","(alL$0s.heap$1$2)","(adecide(~$0$1))","(aY0p,rfl)","(amodel,prog,w)","(>Ae,Rat)","(aY54,?_)","(aY0K,3$0$1$2)","(acF,X$0σ$1$2)","(ahZ,n,p)","(aGl,X,x)","(aY36,Str$0)","(acF,X,pins,σ$0$1)","(acB$0(aaC$1)$2)","(aif_pos,rfl)","(>$0(aY18,Shared))","(aY60,Bool)","(aeval$0env)","(adG$0us)","(abV$0$1(aaC$2))","(=X.calm,true)","(gX.N,i)","(adA,H,p,L$0)","(t$0$1$2$3rfl$4$5$6)","(gxs$0)","(astarEach$0X.env)","(a.inl,rfl)","(avW,Y2g)","(aY0r(ajK$0)$1)","(aY92$0(asome$1))","(aY2d,kvs)","(aY36,fF,V)","(>$0Bool)","(amg_none_of,X,G$0)","(arX,X(acompareOp$0)$1)","(amD,P,w,H,h)","(acU,_)","(aQ(a.ref$0)$1)","(asome(a.dT$0))","(asome,true)","(abL,H'(aeZ$0)$1)","(anZ,?_)","(t$0Oo)","(aQ(a.bl$0)H')","(aY3z$0_$1$2)","(adC.i(:n$0)$1Dd,Kk$2)","(aaJ,H'$0$1)","(aY4,p)","(aY3K,x)","(aDV$0$1$2wo)","(eb$0)","(t$0$1$2rfl$3$4$5)","(aY1r(aaC$0))","(aaR$0(aaR$1aH))","(acA(:i,2)$0$1)","(+X.A.units$0)","(=xs.length$0)","(aaL,Dd$0)","(aiV(aaC$0))","(adY$0(aaC$1)$2)","(aeA,PassesOwn.never,rfl$0(aY6T$1$2)(aaS$3))","(adecide(<$0$1))","(asome,d)","(a.str,s)","(aY0T,e)","(aY1l,V)","(aY6c,i)","(adN,v,u)","(^8,Y53)","(ahU$0$1$2xs)","(ads.getD$0.none)","(aX.env.cells.lookup,x)","(acD(aY2s$0$1))","(akT(aci$0))","(aeB$0(aaC$1))","(asome(aY4$0))","(=ds.length$0)","(AD,ys,H'(>$0$1))","(t$0$1$2rfl$3$4$5$6$7)","(aaK.mp,a)","(agJ(:v(a.ref$0))rfl$1rfl)","(aY95,b)","(a.ref,e)","(aY20,es)","(aY36,κ,V)","(<i.natAbs$0)","(adJ,n,lt$0$1)","(lY7)","(aY3A,2)","(aY4U$0s)","(abJ,bE$0$1)","(aY4Q$0_$1)","(ajU,X(a.builtin$0)$1)","(aList(x$0$1))","(aPyData.canLay0(a.str$0))","(aList.replicate,k$0)","(awpAny_bind,?_)","(aYan$0$1(a.ref$2))","(aList,Stmt)","(a.Tuple$0$1pt)","(aY0p(aaD$0))","(a.inl(t$0$1))","(aif_neg,q)","(abL.str,_)","(aY0R(aaC$0))","(=(aSeqAt.shaped$0)true)","(aYbD(a.int$0)$1)","(aY61$0Y5)","(aY0w$0?_)","(aY6X,H)","(adN,y,u)","(aFn,gD,1,f)","(aFn,N,B,f)","(aY2N$00)","(aY2f$0v)","(amg_of,X,G$0)","(fσ,H,Q(at,σ,H$0))","(aFX,X,scope,C,fp,s₀,H₀,N')","(abL,H(aeZ$0)$1)","(ak$0_,Y21$1)","(apP,X,pins$0$1)","(aY0v,_,_$0$1)","(t$0$1$2rfl$3)","(aY4M$0aE)","(astarEach$0env)","(+s.heap.objs.size$0)","(-999999000000$0)","(arise,F$0)","(aK.In,s.heap)","(aupd,H$0$1)","(~ds.length$0)","(=ys.length$0)","(aY1Q,Unit)","(aY0r,d$0)","(a.inr(t$0$1$2))","(aHS$0scope$1$2$3$4$5$6$7)","(t$0rfl$1$2$3)","(acT,fH$0T.b_len,Kk(aY2r$1))","(aY9b,_$0rfl(aY0p(afS.of$1))$2)","(aY3z(a.bl$0)$1$2$3)","(aY2q$0$1rfl$2rfl$3)","(asome,e)","(aX.mg,x)","(aY3d,Oo)","(aY2L,aE,aE)","(aYe$0ta)","(abA,st)","(aiI,ds)","(aY95,c)","(aY5A,t)","(a.Name,y,py)","(aY20(#e,es))","(<c.sum,M)","(aY2c,p$0)","(aQ(a.int$0)H)","(adQ,X,scope$0N',js)","(fe,?_)","(%$0X.env.locals)","(arX$0(abinaryOp$1)$2)","(=vs.length$0)","(aValue.ref,a)","(axO,4000$0)","(asome(aY93$0))","(aabsurd,rfl$0)","(<$0xs.length)","(aList,Rat)","(aY18,Heap)","(=A.handled,none)","(abD$0Y5x)","(a.ref,it)","(a.str,wd)","(abQ.mp,a)","(a.ListComp,elt$0scope,pos)","(t$0iter,ifs$1)","(abV(aiW$0)$1$2)","(aY98$0$1s)","(aY3B,es)","(>α,Rat)","(aY8f,vs)","(aY7X$0xs)","(acH(acM$0hn))","(fσ2,H2(atb$0σ2,H2))","(abL,H'$0$1)","(t$0$1rfl$2$3$4)","(akB,kvs$0$1)","(ta$0$1)","(aY0C,j)","(aY4c,f)","(aY6Z,k)","(=c.length,F)","(aq,H,Yx)","(adH,H,H')","(aQ'$0H5)","(axM,xs$0)","(acta,F$0)","(aY20(l$0))","(afindIn,K,Yp$0)","(abJ,bE(aaC$0)$1)","(aList,fF)","(t$0$1rfl)","(acongrArg,List.length$0)","(t$0$1rfl$2)","(aaJ.cons$0aJ.nil)","(acA(:i$0)oR.nd$1)","(aY0h,xs.length)","(awpAny,_,_$0_,_$1)","(afield(a.ref$0)$1)","(acE$0(aes.take$1)$2)","(asome,.cell)","(~xs.length$0)","(~$0xs.length)","(aabsurd$0bZ)","(-xs.length$0)","(acD(aY1r$0))","(-M,c.sum)","(aY2q,_,rfl,_,_,rfl$0)","(aaR$0(aaR(aaC$1)$2))","(abV$0(aaC$1)(aaC$2))","(adens,cs)","(aIt$0100$1)","(aY2j$0rfl$1)","(aY94,px)","(aY9b$0$1$2rfl$3)","(~c.sum$0)","(aiJ$0X.A)","(aY1N,H'$0)","(aY0r(asQ$0bs,mix,cs)av)","(awpAny,M$0$1$2$3$4)","(aaV,H',H5)","(aPaired(fc,y$0)$1ys)","(abJ(afY,K)(aaC$0)$1)","(=$0(a.tuple$1))","(aY2R$0rfl$1$2$3$4$5$6)","(aI.hok.fresh(aaO,_))","(aY7j,n)","(afS,K,H,a,xs)","(#b,rest)","(awpAny_bind(awpAny_pure$0))","(aY1N,H$0)","(ans.map,V.int)","(ap.getD$00)","(aaV.upd(:o(a.tup$0))$1)","(<$0s.heap.objs.size)","(acW,rfl,T.b_range(aY1r$0))","(aY2w,Dd)","(apure,false)","(aY0T(aY0T$0))","(aY0r(awW,fs,ws)$0)","(ads.take,i)","(aY36$0Value)","(aY3e(ahU.of$0)$1)","(=$0xs.length)","(aY1M,Addr)","(aY92$0none)","(alt(aY5t$0)(aY5t$1))","(aIt$046264$1)","(aY94,pos)","(aI.pin,p$0)","(aYg8$0Y1A)","(aI.hok$0_$1)","(afJ,?_)","(p(avs.map,some)Y0N)","(aY9b,_$0rfl(aY7Z$1)$2)","(asome,b)","(a.int,n)","(aY97$0Oo)","(aEN$0(ad46,Oo))","(aY8j(aqZ(alS(aiD(adX$0))$1))kJ)","(awpAny_bind(awpAny_field$0rfl(:x$1)rfl,?_))","(agU$0(adL$1)?_)","(agU$0rfl,?_)","(aY2s(aaC$0)$1)","(aList.cons.inj,h)","(>PyData$0)","(=(ah'.get?$0)$1)","(aInstAt,s.heap$0$1$2$3)","(f_,_,q,q)","(+xs.length$0)","(a.bool,true)","(~ns.length$0)","(acA(:i,4)$0$1)","(=(aX.env.kindOf$0)$1)","(awT$0$1$2(a.type$3))","(aY6Z(aY2M$0))","(amodel,X.prog,X.w)","(aPv$0σ,H)","(AD(aY1n$0$1))","(asome(akS$0$1$2))","(aWX,Yo)","(a.inr,rfl)","(aif_pos,q)","(aif_neg,h)","(aif_neg,e)","(fz,?_)","(aY6S,.And$0)","(=(aPyData.showable$0)true)","(aY0r(agB$0)$1)","(abV$0$1(aY9B$2))","(xStr,Int)","(acV(ajK$0))","(~$0100000)","(aY06(aY5X$0))","(aY4q$0(aEP$1pins$2$3))","(asome,n)","(aJ.yld,i$0$1$2)","(aGR$0?_)","(ajO,items.size,items.size,hi)","(aY1T,xs)","(aY36,Fr,Nat)","(Em(aW$0$1$2$3))","(aJ.go,i$0)","(amV(:i$0)$1rfl(aOr.inr,rfl)$2)","(aYj$0ta)","(abV,eE(aaC$0)aE)","(aY4y$0$1rfl$2$3)","(aY17,Hp$0)","(aY1(arK$0?_))","(f_,_,_,_,dE)","(aInt.mul_ediv_cancel_left$0Oo)","(awpAny_bind(awpAny_seqItems$0$1$2))","(awpAny(amodel,X.prog,X.w)$0$1$2$3$4)","(aYaj$0$1aJ.nil)","(aNat.pow_lt_pow_right,Dd$0)","(awpAny_bind(awpAny_mono$0$1$2))","(aList.mem_of_mem_take,a)","(abL.tup$0(aY6M$1$2))","(aY6L,X.A$0$1$2$3)","(a.BoolOp$0$1pos)","(acS(:i$0)$1rfl(aOr.inl,rfl))","(aPyData.depthAll,ds)","(=(ascope.names.lookup$0)$1)","(abootBuiltins,x)","(aD.nx,σ$0)","(aY6(q$0sysModules))","(afK,kvs$0)","(acodeAny$0$1(a.call$2$3)$4$5)","(afrs,X.stack)","(asome(a.own$0))","(aY15(afs.map$0)$1)","(aY15(acs.map$0)$1)","(aY1Q,Result)","(aaU.mpr(aY4O$0$1))","(aSem,Value)","(acW,rfl,T.b_range(aY2r$0))","(=us.length$0)","(=fs.length$0)","(aabsurd$0Dd)","(anR,Y47,Y47)","(afJ,Y2g)","(abL$0$1(a.ref$2))","(ah.get?,a)","(fd,?_)","(a.list,ds)","(afoldedSetIterable,iter,X.env$0)","(adA,H',p,L$0)","(aval(acC$0$1))","(aY1w$0a00(adW$1))","(t$0rfl)","(alvl$0best$1)","(afU(aY6T$0$1)$2)","(agI(aoW,PySem.F.plainAttrs_list,PySem.F.slot_list_append,PySem.F.type_list_append$0(aaC$1)(aY1r$2)))","(aaK.mp,c)","(aaU.mp,a)","(aaN.mp,a)","(aY4,at_)","(aY27,Nat)","(adH,H1,H2)","(aYaO$0Y14)","(aY0I,Y2U$0)","(+A.units$0)","(amD,X.prog,X.w$0$1)","(aList,V)","(asome,f)","(aX.fn,x)","(apure,x)","(aYl,ys)","(aY1T,vs)","(xStr,Ak)","(a.Name,x1,p1)","(a.Name,x2,p2)","(aKV,kvs,vs)","(t$0$1$2q)","(aKU$0$1iter$2)","(a.int,i$0)","(ajO,items.size$0lo)","(aY6(adI$0))","(aOption,Value)","(awpAny_bind(awpAny_bind$0))","(aPySem.W.kia_one$0I.kIn$1$2$3$4)","(awpAny_bind(awpAny_attempt$0))","(aList.mem_of_mem_drop,a)","(~X.s₀.heap.objs.size$0)","(aeK(adO.o$0$1)$2Y6I(f_,_,_,_$3))","(aY6(aPyData.hasDictAll$0))","(asome(axT$0$1))","(fi,σ,H',_,p,?_)","(aY0p(ahU.of$0))","(asc.names.lookup,x)","(aY1r(aY7V$0$1$2$3))","(f_,_,_,False)","(f_,_,e,e)","(acall(a.builtin$0)$1)","(as.TypeIs(a.ref$0)$1)","(aList(aOption$0))","(t$0(fx,H3,y$1))","(abL.tup$0aJ.nil)","(awpAny_callSpecial?_slot(:name(aStr.ofString$0))$1$2(awpAny_call_entry$3$4$5$6$7))","(a.Constant$0$1pos)","(fi,j(a.int$0))","(agU$0(adL(:j$1)$2)$3)","(aArray,Y7P)","(areprQuote,s)","(aY15,ds$0)","(asome(a.frz$0$1))","(a.Assign$0$1pos)","(a.fields,vs)","(aeX$0(aY0R$1)cY)","(~ps.length$0)","(aY3G$0(a.tup$1))","(aList,Bool)","(fon,?_)","(aB.mono,Dd)","(=bs.length$0)","(aIsEnum$0$1$2$3old)","(avW,Yo)","(aFnP,27720$0$1)","(asome(asT$0$1$2))","(aif_pos,h)","(aaU.mp,hd)","(ahU.of(as$0$1$2))","(afJ,Y5N)","(aabsurd,z$0)","(ad.getD$00)","(aYe(a.Call(aY94$0)$1$2pos)$3)","(afK$0(aY2M$1))","(akA$0Y09$1)","(akW$0(aY2J$1))","(aI.cell$0c$1)","(f_,0)","(abX.mp,a)","(aY1Q,Y7P)","(>Y10(>Hp(aY18,VK)))","(aUn$0$1$2$3s.heap$4)","(>$0PyData)","(acP$0this)","(Ai,y,H1,H2(>Y7v$0))","(aY17,Nat$0)","(afG$0(fi$1))","(afP.i$0$1?_)","(aYr(aYax$0)$1)","(a.inl,h)","(asome,_)","(asome,g)","(a.ref,t)","(a.ref,d)","(a.str,x)","(afG$0(fv$1))","(afO,mix)","(adens,l)","(aY05,zs)","(aY5q,?_)","(=(as.heap.get?$0)$1)","(asome(a.builtin$0))","(a.Name,x$0)","(aY92$0Y5)","(awpAny_bind(awpAny_setField_rec$0$1$2))","(fh(aabsurd$0$1))","(aY6R$0$1X.xe$2)","(awpAny_bind(awpAny_rule$0))","(awpAny_passesOwn$0(athn$1$2))","(t$0rfl$1$2$3$4)","(aI.turned(:t',s.toks)$0$1$2$3$4$5)","(aY1s$0s.heap.objs.size$1)","(awpAny_mono$0$1(f_,_,f$2))","(aHeap.SameBut$0s.heap$1)","(aoM(:xs$0)(fi,σ,H'$1)$2$3$4$5)","(asome(a.dK$0))","(abL.tup$0(aaJ.cons$1$2))","(aLoc,X.env.scope$0)","(a.ref,c_NoPaper)","(a.Attribute$0$1apos)","(a.Subscript$0$1pos)","(aY4a,ps.length)","(aOption(xAddr,Value))","(aA.deeper(aenvOfC$0$1s.heap.objs.size$2$3))","(aFalse.elim,c)","(aS.cells,I.ok)","(agH(fi,σ,H'$0)$1$2$3)","(atypeIs_int$0$1t)","(abs.map,V.bl)","(ad.map,V.int)","(amJ$0(aα.mono$1)$2)","(alJ(fi,y,H'$0)$1$2$3$4)","(a.Tuple,elts$0$1)","(aI.ok.hd,hc)","(aY18,PyData)","(aY1O,FQ6$0aE)","(aLooks,Y1F$0$1$2)","(~fs.length$0)","(a.cons$0.nil)","(aif_neg,Dd)","(aif_neg,Oo)","(f_,q,q)","(aaV.refl,H)","(acs.map,gB)","(acA(:i,1)$0$1)","(adW.i(aiN.of$0)$1$2$3$4$5$6)","(&(Aσ',H'$0)(Ax,H'$1))","(=ps.length$0)","(=cs.length$0)","(a.str,name$0)","(fd(afE(ajI$0)))","(a.Call$0$1$2cpos)","(asome(aIU$0$1))","(ads.drop(+$0$1))","(aAn3$0Y0$1)","(ajZ$0(asS.of$1)$2$3)","(aYam(aY2J$0)$1)","(aif_pos,e)","(a.bl,true)","(aY1l,Bool)","(aaM$0Y5x)","(aeZ(aval$0))","(akY(aiD(adX$0)))","(aY1e(ajL$0(akI$1))$2)","(aY1o$0(fv,q$1))","(tDd$0)","(a.cons$0ih)","(astart$0vs)","(aO$0(fi,q$1)(fc,q$2))","(=(akvs.any$0)$1)","(t$0(fh$1))","(asome,av)","(ahU.of,h)","(aY0l,rfl)","(aY36,Y4N(xAddr,Value))","(aY9h,kvs)","(aY15$0xs)","(gitems$0)","(aY1(aY6w$0))","(aaJ.cons$0(aaJ.cons$1$2))","(agK(:v$0)(:u(a.type$1))$2$3$4$5)","(aHeap.get?_update_self$0$1(aObj.isFreed_of_fields$2))","(aPyData.eqv$0(a.str$1))","(abL$0(a.tuple$1)$2)","(aBuiltin.SmallTypes.nextOf(a.ref$0))","(a.ok(a.ret$0))","(aI1.fpOk$0(aI1.hok.fresh$1))","(aPyData.showableAll,ds)","(abL.int,_)","(aPySem.W.kitOne$0$1(a.type$2))","(arB$0$1Nat.one_le_two_pow)","(%$0s.heap.objs.size)","(aA.under(a.builtin$0$1))","(aInt.gcd,n$0)","(~$01000000000000000)","(f_,_,a,a.elim)","(aPyData.canLay0,d)","(aAllBare,s'.gens)","(aI.tuple(afS.of$0))","(aHT.jO,xs.length$0$1)","(aMeets$0(f_,R,s$1))","(aPySem.W.subIn,K$0$1)","(qapos.endLine,cpos.line)","(aHeap.SameBut,e$0$1)","(aIsZip$0$1$2$3.ellipsis)","(amin,xs.length,ys.length)","(aaJ.ofRange,Oo$0)","(aYr,ds.length$0)","(aY0w(fi,m,σ,H$0)$1)","(aI.base.there,b$0$1$2)","(aY4Q$0$1rfl)","(aY1M,NameKind)","(akvs.map(fkv$0))","(ahZ,vs.length$0)","(a.inl(a.inl$0))","(a.UnaryOp$0$1pos)","(aYl(ak.map$0))","(<$0sizeLine)","(~kvs.length$0)","(aC.getD$0.non)","(a.Compare$0$1$2pos)","(aK,w.params)","(a.flat(fc,q$0))","(aIntsAre$0ns)","(aYeR$0(asome$1)pos.line)","(aY58$0(a.str$1))","(aps.zip,us)","(aX.suite,a)","(adgT$0(:c(aci$1))$2$3$4)","(aY1M,Value)","(a.Call(a.Name$0$1)$2$3pos)","(a.Tuple$0$1pt2)","(acA(:i,5)$0$1)","(aY0U(apyNext(a.ref$0)))","(abL.tup$0?_)","(ajP,Ydq)","(aBindsTo$0fd$1$2)","(al.extBut,_$0$1$2)","(aIS,vs.length(aMS,cs))","(aBU(aMS,cs)$0vs.length)","(aY3G$0(a.dT$1))","(aY5w(aY3O$0$1))","(fq,?_)","(aaK.mp,hd)","(acL.get,C)","(aY94,pos')","(aYeQ(ac.map,.int))","(aI.freeC$0c$1)","(fσ,H,Q(ata$0$1(fx,H1$2)))","(aY2Z(fr$0)$1)","(-a.length$0)","(a.dict,es$0)","(aIC$0scope)","(aok.low,_$0)","(=(as1.heap.get?$0)none)","(aIsPair$0TO$1$2)","(abV$0Y0G,Y16)","(aenvOfC$0scope,s.heap.objs.size$1$2)","(aPyProof.Rows.callWith_type1(athn$0$1)$2$3)","(aInt.pos_of_mul_pos_right,this$0)","(awpAny_bind(awpAny_standAt$0))","(aY0a$0(a.int$1))","(aI.laid(:t',s.toks)(:o$0)$1$2$3)","(aI1.kept(:t'$0)(fb,o,e$1))","(aPySem.W.keepIn$0(a.ref$1))","(acl,s3.heap.objs.size)","(aPyData.shown(a.list$0))","(as.heap.IsTupleIter,it$0$1)","(awpAny_loadPart_at$0?_)","(aY3G,s.heap.objs.size$0)","(ac.map,V.int)","(AC,fp,s₀,H₀(afR$0$1$2))","(AC,fp,s₀,H₀(aKR$0$1$2))","(qX.env.scope.kind$0)","(abase.Ns,mainGlobals$0)","(aInt.gcd_dvd_right$0d)","(fi,σ,H',_,q,?_)","(aNat.le_add_right,_$0)","(aY6(aPyData.hasDict$0))","(ajT(:xs$0)(fi,σ,H'$1)$2$3$4$5)","(awpAny_holding,?_)","(aY6(abehindInMarks$0$1))","(aArray,DictEntry)","(aVis,X.env.scope$0)","(=(aX.env.cells.lookup$0)$1)","(a.ref,c.NoPaper)","(aHeap.MadeExcOf$0h'$1$2$3)","(aY0h,kvs.length)","(awpAny_pure(aYd2$0))","(aPassesOwn,Y6b$0$1$2)","(aX.base.get?,b)","(f_,_,False)","(atupleKind(aeW$0$1))","(f_,_,q(aY0T$0))","(aγ.getD,c.sum$0)","(=(aenv.cells.lookup$0)$1)","(aoA,c.NoPaper)","(aσ.set$0Yq)","(a.done(a.ret$0))","(asome(aseqObj$0$1$2))","(afs.lookup,f)","(fl,hl,?_)","(aY7R$0True.intro$1$2$3)","(asome,Yq)","(aIsTup,s.heap$0$1)","(aIsTup.new$0_)","(fi,j(a.bl$0))","(aX.tryW,pins$0)","(aaJ.flat$0(alQ$1)$2)","(=(as₁.heap.get?$0)$1)","(aOption,Nat)","(aI.base.free,b$0$1$2$3)","(fd,d)","(aK.lookup,a)","(f_,none)","(abY$0(aaN.mpr$1))","(acall(a.ref$0)$1)","(aF'.less,Oo)","(fH,Q,_,k(ak$0$1$2$3))","(aF3.less,Oo)","(fx,a,?_)","(aYl,YbM)","(aif_neg(fq$0))","(aI.base.keep,b$0$1$2$3$4)","(aI.base.slot$0o$1$2$3$4)","(ajD(:n,n)$0)","(aif_pos,h2)","(aif_pos,Dd)","(aif_pos,Oo)","(aif_neg,h2)","(ah1.get?,b)","(ads.map,jJ)","(abs.any,id)","(adpT$0(:c$1)$2Oo$3)","(aIt.wdB,Kk)","(aYd0(aaJ.flat$0$1$2)$3$4$5)","(aaV.thru,hp$0$1)","(=ws.length$0)","(fd(arv(aval$0)))","(aJ.stop$0H')","(avalueAt$0k)","(acs.getD,i$0)","(aQn.zero,_$0)","(aY11,KK.nd$0)","(aHeap.get?_update_other,_$0$1)","(aX.s₀.heap.get?,s.heap.objs.size)","(aaJ.snoc$0(abL.flat$1$2$3))","(awpAny_typeNameOfWhole_keyiter$0?_)","(aY1(awpAny_pure$0))","(avs.toArray.zip,vs.toArray)","(aList.toArray(aList.range$0))","(awpAny_bind(awpAny_setField$0$1$2$3))","(awpAny_bind(awpAny_letGo$0))","(awpAny_isOneOf_keyiter$0?_)","(ad46(:Np$0)(:Nc$1)(:a$2)Dd)","(awpAny_pure(awpAny_pure$0))","(a.ref,c.heap.objs.size)","(atupleKind_room_in1,hu)","(aAround.under_plainId$0_)","(awpAny_bind(awpAny_field$0$1$2$3))","(awpAny_bind(:m(aBuiltin.Tuple.tupleExact$0))(awpAny_newObj_type$1$2))","(as.heap.FunFrames,base$0)","(aof_decide_eq_true,ht)","(adA.like(:p$0)(:L$1)(fi$2))","(aoS$0$1$2Nat.one_le_two_pow)","(fb,o,e,n,L,hx,?_)","(f_,_,x,x)","(awpAny_newObj_type,?_$0)","(as.heap.IsSliceOf$0$1$2.none)","(aCode.quiet_builtin,_$0)","(aList.all_eq_true.mp,h$0$1)","(aList.all_eq_true.mp$0e$1)","(afs.take,i)","(agW.set,T.st_NoPaper)","(aY7Q(awpAny_onRaise$0))","(aZV(f_,_,_,_,_,_,_,q$0))","(fj,σ,H',_,q,?_)","(ascope.names.all(fy$0))","(%s.heap.objs.size$0)","(awpAny_execs_nil(t$0$1$2$3))","(ans.map,PyData.int)","(avs.getD$0Value.none)","(acodeAny_builtin$0?_)","(aF.oky$0(fL,H,Q,E,h$1))","(aF.oky$0(fN,H,Q,E,h$1))","(f_,_,_,_,_,h,h)","(agW.no,T.st_NoPaper$0)","(atypeOf(a.builtin$0))","(ayB(:n$0)(:g$1)(fi,a$2))","(aHeap.ExtBut$0s.heap$1)","(aI.type(:M,Y1F))","(aInt.emod_nonneg,_$0)","(aPyData.str(awdD$0))","(aOption,NameKind)","(+c.heap.objs.size$0)","(*1000000000000000,1000000000000000)","(ah.Ns,mainGlobals$0)","(aY0h,rest.length)","(adC.i(:n$0)$1$2(abitsle$3)$4)","(f_,_,_,_(aY1a$0$1$2))","(aw.toList.map(fi$0))","(=(aX.s₀.heap.get?$0)$1)","(aPySem.Within,mA$0)","(aPySem.W.findIn,K$0$1)","(aPySem.W.kitOne,K$0$1)","(aPySem.W.codeIn,K$0$1)","(asubscripted$0false$1$2)","(aaV.upd(:o(a.dT$0))$1)","(aPyData.depth,d)","(aNat.toDigits,10$0)","(aY3M$0$1$2s3.heap.objs.size$3$4$5$6)","(aYaV,kvs.length)","(fx,H',y,?_)","(aList.replicate(-$0$1)$2)","(a.Subscript$0$1pos')","(abK(:m,100000)$0$1)","(aY6,d.hasDict)","(aY64,zs.length)","(aY6c,xs.length)","(acodeAny$0$1(a.builtin$2$3)$4$5)","(fi,H(Exs,x$0))","(q$0items.size)","(awpAny_mono$0$1Y83)","(awpAny_mono$0$1Ydk)","(a.str,d.shown)","(aHT.jO,d.length$0$1)","(aPlainAttrs,T)","(fy,a,e,?_)","(aPyData.eqv$0d')","(acs.getD,c.sum$0)","(acA(:i$0)FL.nd$1)","(ajQ,fs.length)","(asome(a.type$0))","(az.sameBut$0(acne$1$2$3))","(apure(a.type$0))","(awpAny_bind(ayF$0$1$2$3))","(ahU.of(ab'.at$0$1))","(acL.of(acL.ne$0)$1)","(aYcY$0(aNe.symm$1))","(e$0scope.names)","(aOption,Expr)","(acongrArg,not$0)","(f_,false)","(amin$0d.length)","(arsT(:ns$0)$1?_)","(aYag(aas.map$0))","(asome(a.tbl$0))","(aY2l(ags.map$0)$1)","(asome,.free)","(<$0h.objs.size)","(aaM,I.ok.bsz$0)","(fσ,H,Q(awi$0$1$2))","(aK.lookup,f)","(f_,true)","(fσ,H,R(ata$0$1$2))","(a.Attribute$0g$1)","(ads.map,Ycs)","(ahasDictIn$0C)","(aU.flat$0Y2b)","(areprText,s)","(fc(aPyData.tuple$0))","(aswapsWith$0$1$2X.env)","(aBuiltin.SmallTypes.ownedTupleIsFree(a.ref$0))","(awpAny_isInstance(:T$0)(:b$1)$2isSubtype_stop$3)","(awpAny_bind(awpAny_updateSeq_pair$0$1))","(aPySem.W.callWith_K(:h₀$0)I.ok.mod.kin$1$2$3$4)","(aList.getElem?_set_ne(aNe.symm$0))","(aHeap.get?_none_of_le,Yk)","(abootBuiltins(aStr.ofString$0))","(aList.toArray(ap.toList.map$0))","(aList.drop_of_length_le,Oo)","(aCalls.Name_function_global$0hg$1$2)","(aPySem.F.args_tuple_add_2,_$0)","(awpAny_bind(awpAny_typeOf$0$1))","(awpAny_call(acodeAny_mono$0$1))","(aNat.le_mul_of_pos_left,_$0)","(aoW,PySem.F.plainAttrs_list,PySem.F.slot_list_extend,PySem.F.type_list_extend$0$1$2)","(as.heap.FunFrames,X.base$0)","(acall_meets$0$1$2(aF.args_tuple_mul_2$3$4)$5$6)","(aList.ext_getElem?(fi$0))","(aY6(aBuiltin.Str.tooLong$0))","(asome,s.heap.objs.size)","(aI.mod.glob.keeps,I.bk)","(awpAny_bind(awpAny_load$0$1))","(aqY.some_of(:v,v)(:o$0)$1)","(aInt.emod_nonneg$0(:b$1)Oo)","(fx,y,H1,H2,s,r(ar.flat$0$1))","(awpAny_bind(aseqEpoch_at$0$1$2))","(acall_meets$0$1$2(aF.args_int_rmul_2$3$4)$5$6)","(aI.turnedL(:t',s.toks)$0$1)","(aI.hok.fresh(aaO,s.heap.objs.size))","(acongrArg,PyData.tuple$0)","(aObj.data_mapFields,hd$0)","(aI1.hok.fresh,Yk)","(aof_decide_eq_true,e)","(aof_decide_eq_true,g)","(aaDZ$0$1$2$3(fv,u,g,x,y,H2,I2,d,e,q$4))","(aInt.emod_lt_of_pos,_$0)","(aY61,s.heap.objs.size$0)","(ld.heap.objs.size)","(awpAny_dictEntries,hod$0$1)","(aY0h,d.shown.length)","(AC,fp,s₀,H₀(aPTs$0$1$2))","(a.ref,c_EarlyError)","(aI.write(:x$0)(:e$1)$2Y21$3$4$5)","(aget?_update_seq$0(f_$1))","(asome(aValue.type$0))","(aNat.ne_of_gt(aaY$0))","(aI1.laid(:t'$0)$1Yk$2)","(awpAny_Call_Name_kw(avA$0$1$2$3$4))","(AC,fp,s₀,H₀(aPE$0$1$2))","(aInt.gcd_dvd_left$0d)","(atypeLookup(a.type$0)$1)","(ff,vs(aPySem.call$0$1))","(awpAny_dictEpoch,hod$0$1)","(aF.oky$0(fR,H,Q,E,h$1))","(aF.oky$0(fI,H,Q,E,h$1))","(~s.heap.objs.size$0)","(+s1.heap.objs.size$0)","(atypeLookup,Yp$0)","(aaJ.append(aaJ.drop$0$1)$2)","(abS$0(aNat.mul_le_mul$1$2))","(aNat.pow_dvd_pow,_$0)","(q(ascope.names.lookup$0)$1)","(asome,Value.none)","(aAllBare,s2.gens)","(aHeap.get?_update_ne,_$0$1$2$3)","(=$0d.heap.objs.size)","(a.tuple(afs.map$0))","(arN(:n$0)(:d,d))","(aArray,GenState)","(aNat.ne_of_gt,U)","(as.heap.push(aXB$0$1))","(aaV.upd(:o(a.lst$0))$1)","(ajD(aInt.mul_pos$0$1))","(aNat.pow_pos,Dd)","(aoperate$0(agetItem$1$2))","(fi,x,H',Q',c,_,s,k(ahs$0$1$2$3$4$5$6))","(fj,σ,H'(aEx4$0))","(aNat.le_of_ble_eq_true,rfl)","(=(aX.env.scope.names.lookup$0)$1)","(aNat.mul_le_mul(aNat.mul_le_mul$0$1)$2)"]
def zK:List (Char × String × String):=[('x',"«term_×_»","×"),('>',"Lean.Parser.Term.arrow","->"),('=',"«term_=_»","="),('|',"«term_∨_»","\\/"),('&',"«term_∧_»","/\\"),('q',"«term_==_»","=="),('p',"«term_++_»","++"),('%',"«term_≠_»","≠"),('<',"«term_<_»","<"),('~',"«term_≤_»","<="),('e',"«term_∈_»","∈"),('#',"«term_::_»","::"),('+',"«term_+_»","+"),('*',"«term_*_»","*"),('-',"«term_-_»","-"),('^',"«term_^_»","^"),('/',"«term_/_»","/")]
def zW(c:Char):Bool:=c.isAlphanum||c.val>127||"_.'!?".contains c
def zI(s:String):zs:=if s=="_" then zm "hole" #[za "_"] else if s=="?_" then zm "syntheticHole" #[za "?",za "_"] else if s=="Prop" then zm "prop" #[za s] else if s.front=='.' then zm "dotIdent" #[za ".",Lean.mkIdent (s.drop 1).toString.toName] else if s.front.isDigit then Lean.Syntax.mkNumLit s else Lean.mkIdent s.toName
def zS(x:Array zs):zs:=zn `null ((x.foldl (fun a y=>(a.push y).push (za ",")) #[]).pop)
def zB(o:Char)(b:Array zs):zs:=
 let l:=zn `null b.pop
 match o with
 |'a'=>zm "app" #[b[0]!,zn `null (b.extract 1 b.size)]
 |'t'=>zm "anonymousCtor" #[za "⟨",zS b,za "⟩"]
 |'l'=>zn `«term[_]» #[za "[",zS b,za "]"]
 |'g'=>zn `«term__[_]_?» #[b[0]!,zn `group #[],za "[",b[1]!,za "]",zn `group #[],za "?"]
 |':'=>zm "namedArgument" #[za "(",b[0]!,za ":=",b[1]!,za ")"]
 |'f'=>zm "fun" #[za "fun",zm "basicFun" #[l,zn `null #[],za "=>",b.back!]]
 |'A'=>zm "forall" #[za "∀",l,zn `null #[],za ",",b.back!]
 |'E'=>zn `«term∃_,_» #[za "∃",zn `Lean.explicitBinders #[zn `Lean.unbracketedExplicitBinders #[zn `null (b.pop.map fun x=>zn `Lean.binderIdent #[x]),zn `null #[]]],za ",",b.back!]
 |_=>match zK.find? (·.1==o) with
 |some (_,k,s)=>zn k.toName #[b[0]!,za s,b[1]!]
 |none=>.missing
def zL(x:Array zs):Nat->List Char->Array zs->Array zs × List Char
|0,r,a=>(a,r)
|_,[],a=>(a,[])
|n+1,c::r,a=>
 if c==')' then(a,r)
 else if c==',' then zL x n r a
 else if c=='$' then zL x n r.tail (a.push (x[r.head!.toNat-48]!))
 else if c=='(' then
  let (b,q):=zL x n r.tail #[]
  zL x n q (a.push (zB r.head! b))
 else
  let w:=(c::r).takeWhile zW
  zL x n ((c::r).drop w.length) (a.push (zI (String.ofList w)))
def zX(f:zs)(x:Array zs):Lean.MacroM zs:=
 let s:=f.getId.toString.toList
 let d:=fun c:Char=>if c.isDigit then c.toNat-48 else if c.isLower then c.toNat-87 else c.toNat-29
 let i:=match s with |['Y',a]=>d a |['Y',a,b]=>62+62*d a+d b |_=>99999
 if i<zT.size&&zT[i]!!="" then return (zL x 999 zT[i]!.toList #[]).1[0]! else Lean.Macro.throwUnsupported
local macro_rules
|`($f:ident $x*)=>zX f x
|`($f:ident)=>zX f #[]
set_option hygiene true
def Oo{p:Prop}(h:p:=by first|lia|omega):p:=h
def Dd{p:Prop}(h:p:=by decide):p:=h
def Kk{p:Prop}(h:p:=by decide +kernel):p:=h
abbrev Aa:=PySem.W.Frag
abbrev Ab:=List (List Nat)
abbrev Ac:=List (List Int)
abbrev Ad:=Y36 PySem.Addr PySem.Obj
abbrev Ae:=List Nat
abbrev Af:=List Int
abbrev Ag:=List PySem.Value
abbrev Ah:=Y01
abbrev Ai:=Array PySem.Value
namespace PySem
abbrev aA:=@List.length_map
abbrev aB:=@Heap.get?_push_of_some
abbrev aD:=@List.getElem?_eq_getElem
abbrev aF:=@List.mem_of_getElem?
abbrev aG:=@List.mem_cons_self
abbrev aK:=@List.mem_cons
abbrev aL:=@Nat.pow_le_pow_right
abbrev aM:=@Nat.le_trans
abbrev aN:=@List.mem_singleton
abbrev aO:=@Nat.le_refl
abbrev aP:=@Bool.and_eq_true
abbrev aQ:=@List.mem_cons_of_mem
abbrev aT:=@List.getElem?_eq_some_iff
abbrev aU:=@List.mem_map
abbrev aW:=@List.length_append
abbrev aX:=@List.getElem?_map
abbrev aY:=@Heap.lt_size
abbrev aZ:=@Heap.get?_push_size
abbrev bC:=@List.map_cons
abbrev bD:=@Nat.lt_of_lt_of_le
abbrev bF:=@List.size_toArray
abbrev bG:=@List.length_range
abbrev bH:=@decide_eq_true
abbrev bI:=@List.getD_eq_getElem?_getD
abbrev bK:=@Nat.lt_of_le_of_lt
abbrev bM:=@List.length_cons
abbrev bN:=@List.map_append
abbrev bP:=@decide_eq_false
abbrev bQ:=@List.mem_append
abbrev bS:=@Nat.mul_le_mul_right
abbrev bU:=@List.length_take
abbrev bX:=@List.mem_range
abbrev bY:=@List.mem_append_right
abbrev bZ:=@Bool.false_ne_true
abbrev cG:=@List.length_replicate
abbrev cJ:=@Nat.ne_of_lt
abbrev cK:=@Nat.zero_le
abbrev cO:=@List.mem_append_left
abbrev cP:=@Nat.lt_irrefl
abbrev cZ:=@List.take_length
abbrev dD:=@List.map_congr_left
abbrev dP:=@Classical.byContradiction
abbrev dZ:=@List.getElem?_eq_none
abbrev eS:=@List.getElem?_range
abbrev gE:=@Nat.mul_pos
abbrev gF:=@Int.natAbs_mul
abbrev gY:=@Option.some.inj
abbrev gZ:=@List.mem_filter
abbrev iM:=@beq_iff_eq
abbrev iO:=@List.mem_iff_getElem?
abbrev iX:=@List.take_add_one
abbrev lM:=@Heap.size_push
end PySem
open PySem
namespace L2
open PySem PySem.Spec PyProof.Rows
abbrev fF:=Sum Int Str
def CN:fF->Y27 Value
 | .inl k,v=>Value.isInt k v
 | .inr x,v=>Value.isStrOf x v
def aGX(w:World):fF->Int
 | .inl k=>hashInt k
 | .inr x=>hashStr w x
def gS:∀{k:fF}{v:Value},CN k v=true->(∃i t,k=Sum.inl i/\v=Value.int i t)\/(∃x t,k=Sum.inr x/\v=Value.str x t)
 | .inl i,v,h=>by
  obtain⟨t,e⟩:=Value.isInt_shape (k:=i) (v:=v) h;exact .inl ⟨i,t,rfl,e⟩
 | .inr x,v,h=>by
  obtain⟨t,e⟩:=Value.isStrOf_shape (x:=x) (v:=v) h;exact .inr ⟨x,t,rfl,e⟩
def PX(i:Int)(t:Tok):CN (.inl i) (Y7M t)=true:=by simp[CN,Value.isInt]
def PV(x:Str)(t:Tok):CN (.inr x) (.str x t)=true:=by simp[CN,Value.isStrOf]
def aDB(a b:Int):Yr (Sum.inl a:fF) (Sum.inl b)=(a == b):=by
 by_cases e:a=b
 ·subst e;simp
 ·have h:¬(Sum.inl a:fF)=Sum.inl b:=λq=>e (Sum.inl.inj q);rw[bP h];exact(beq_eq_false_iff_ne.mpr e).symm
def aDy(a b:Str):Yr (Sum.inr a:fF) (Sum.inr b)=Yr a b:=by
 by_cases e:a=b
 ·subst e;simp
 ·have h:¬(Sum.inr a:fF)=Sum.inr b:=λq=>e (Sum.inr.inj q);rw[bP h,bP e]
def aDA(a:Int)(b:Str):Y6 (Yr (Sum.inl a:fF) (Sum.inr b)):=bP (λq=>nomatch q)
def aDz(a:Str)(b:Int):Y6 (Yr (Sum.inr a:fF) (Sum.inl b)):=bP (λq=>nomatch q)
def eW(prog:Program)(w:World):PySem.KeyKind prog w fF where
 is:=CN
 hash:=aGX w
 inj:=λv a b ha hb=>by
  rcases gS ha with⟨i,t,rfl,rfl⟩ | ⟨x,t,rfl,rfl⟩
  ·rcases gS hb with⟨j,u,rfl,e⟩ | ⟨y,u,rfl,e⟩
   ·injection e with e1 _;rw[e1]
   ·exact nomatch e
  ·rcases gS hb with⟨j,u,rfl,e⟩ | ⟨y,u,rfl,e⟩
   ·exact nomatch e
   ·injection e with e1 _;rw[e1]
 byValue:=λk v h=>by
  rcases gS h with⟨i,t,rfl,rfl⟩ | ⟨x,t,rfl,rfl⟩ <;> rfl
 pyHash:=λhv h=>by
  rcases gS hv with⟨i,t,rfl,rfl⟩ | ⟨x,t,rfl,rfl⟩
  ·exact wpAny_pyHash_int h
  ·exact wpAny_pyHash_str h
 eqBool:=λhu hv h=>by
  rcases gS hu with⟨i,t,rfl,rfl⟩ | ⟨x,t,rfl,rfl⟩
  ·rcases gS hv with⟨j,u,rfl,rfl⟩ | ⟨y,u,rfl,rfl⟩
   ·rw[aDB]at h;exact wpAny_eqBool_int h
   ·rw[aDA]at h;exact SeqAt.EqAt.int_str i t y u _ _ _ _ h
  ·rcases gS hv with⟨j,u,rfl,rfl⟩ | ⟨y,u,rfl,rfl⟩
   ·rw[aDz]at h;exact SeqAt.EqAt.str_int x t j u _ _ _ _ h
   ·rw[aDy]at h;exact wpAny_eqBool_str h
 «strs» := λk x t v h=>by
  rcases gS h with⟨i,u,rfl,e⟩ | ⟨y,u,rfl,e⟩
  ·exact nomatch e
  ·injection e with e1 _;subst e1;cases v <;> rfl
def HC(prog:Program)(w:World)(i:Int)(t:Tok):(eW prog w).is (.inl i) (Y7M t)=true:=PX i t
def HB(prog:Program)(w:World)(x:Str)(t:Tok):(eW prog w).is (.inr x) (.str x t)=true:=PV x t
inductive V where
 | non | bl (b:Bool) | int (i:Int) | str (x:Str) | byt (b:Array UInt8) | flt (b:UInt64) | ref (a:Addr) | ty (n:String)
 deriving DecidableEq
def dN:Y17 V Value
 | .non,u=>u=Value.none
 | .bl b,u=>u=Value.bool b
 | .int i,u=>∃t,u=Value.int i t
 | .str x,u=>∃t,u=Value.str x t
 | .byt b,u=>∃t,u=Value.bytes b t
 | .flt b,u=>∃t,u=Value.float b t
 | .ref a,u=>u=Value.ref a
 | .ty n,u=>u=Value.type n
abbrev dG:Y17 Y7A Ag:=Paired dN
theorem dG.length{xs:Y7A}{us:Ag}(r:Y6y):Y2v us.length:=Paired.length r
theorem dG.get:∀{xs:Y7A}{us:Ag}{i:Nat}{x:V},Y6y->Y0t=Y9->∃u,us[i]?=Yt/\dN x u
 | _,_,_,_,.nil,e=>by simp at e
 | _,_,0,_,.cons r _,e=>by simp at e;subst e;exact⟨_,rfl,r⟩
 | _,_,i+1,x,.cons _ t,e=>by
  obtain⟨u,h1,h2⟩:=dG.get (i:=i) (x:=x) t (by simpa using e);exact⟨u,by simpa using h1,h2⟩
theorem dG.append:∀{xs ys:Y7A}{us ws:Ag},Y6y->dG ys ws->dG (xs++ys) (us++ws)
 | _,_,_,_,.nil,s=>s
 | _,_,_,_,.cons r t,s=>.cons r (dG.append t s)
theorem dG.take:∀{xs:Y7A}{us:Ag}(n:Nat),Y6y->dG (xs.take n) (us.take n)
 | _,_,0,_=>.nil
 | _,_,_+1,.nil=>.nil
 | _,_,n+1,.cons r t=>.cons r (dG.take n t)
theorem dG.drop:∀{xs:Y7A}{us:Ag}(n:Nat),Y6y->dG (xs.drop n) (us.drop n)
 | _,_,0,r=>r
 | _,_,_+1,.nil=>.nil
 | _,_,n+1,.cons _ t=>dG.drop n t
def qY:Y17 (Option V) Y7P
 | some v,some u=>dN v u
 | none,none=>True
 | _,_=>False
def KV{κ:Type}:Y17 Y2X (Y5C κ):=Paired λ(p:κ × V) (q:κ × Value)=>p.1=q.1/\dN p.2 q.2
def kV:fF->V
 | .inl i=>.int i
 | .inr x=>.str x
inductive HO where
 /-- a list -/
 | lst (xs:Y7A)
 /-- a tuple (never changes) -/
 | tup (xs:Y7A)
 /-- a dict whose keys are ints and texts;one whose keys are tuples of ints and texts (the empty one is both) -/
 | dK (kvs:Y26) | dT (kvs:Y04)
 /-- a set of ints: its members,its size -/
 | set (S:Y27 Int) (n:Nat)
 /-- an instance of the class at C,its dict at dx,its attributes -/
 | ins (C dx:Addr) (fs:Y1M V)
 /-- the dict of the instance at x -/
 | own (x:Addr)
 /-- the dict of an exception -/
 | xd (fs:Y1M V)
 /-- a bound method,f of x -/
 | met (f x:Addr)
 /-- a range object lo,lo+1,.. below hi -/
 | rng (lo hi:Int)
 /-- a thing that is known to the object (the script;a dict while a loop walks it): read,never written while it is so -/
 | frz (o:Obj) (u:HO)
 /-- a code object's table -/
 | tbl (ps:Ai)
 /-- any other thing,by what is true of its one object (a def of one's own: SetO a S n:=HO.ext λh=>..) -/
 | ext (φ:Y4h)
abbrev Hp:=Addr->Option HO
def upd(H:Hp)(a:Addr)(o:HO):Hp:=λb=>if b=a then Y5 else H b
def bR{H:Hp}{a:Addr}{o:HO}:upd H a o a=Y5:=by unfold upd;rw[Y1P]
def cH{H:Hp}{a b:Addr}{o:HO}(h:b≠a):upd H a o b=H b:=by unfold upd;rw[Y6i]
def XS{H:Hp}{a:Addr}{o u:HO}:upd (Y1c o) a u=Y1c u:=by
 funext b;unfold upd;split <;> rfl
def CK{H:Hp}{a b:Addr}{o u:HO}(h:H a=Y5)(h':H b=Yt)(d:o≠u):a≠b:=by
 intro e;subst e;rw[h]at h';exact d (gY h')
def cM{H:Hp}{a b:Addr}{o:HO}(h:H a=Y5)(h':H b=none):a≠b:=by
 intro e;subst e;rw[h]at h';cases h'
section
variable(P:Program)(w:World)
def dU(H:Hp)(h:Heap)(a:Addr):Y18 HO
 | .lst xs=>xs.length<=sizeLine/\∃(its:Ag) (n:Nat),dG xs its/\h.get? a=some { cls:=.type "list",data:=.seq its.toArray n }
 | .tup xs=>(xs.length<=sizeLine/\∃o,h.get? a=some o/\o.dict=none)/\∃its:Ag,dG xs its/\IsTup h a its.toArray
 | .dK kvs=>kvs.length<=sizeLine/\(a == sysModules)=false/\∃vs,KV kvs vs/\h.DictOf (eW P w) a vs
 | .dT kvs=>kvs.length<=sizeLine/\(a == sysModules)=false/\∃xs:List (List fF × Addr × Value),
   Paired (λ(p:List fF × V) (q:List fF × Addr × Value)=>p.1=q.1/\H q.2.1=some (.tup (p.1.map kV))/\dN p.2 q.2.2) kvs xs /\
   ∃o es ep,h.get? a=some o/\o.ExactDict/\o.data=.dict es ep/\es.toList=xs.map (entryOfKey (tupleKind (eW P w)))/\(xs.map (·.1)).Nodup
 | .set S n=>h.SetOf (intKind P w) a S n
 | .ins C dx fs=>H dx=some (.own a)/\fs.length<=1000/\dx≠a/\h.get? a=some (PySem.W.instObj C dx) /\
   ∃mA,h.Ns1 dx mA/\(∀f,qY (fs.lookup f) (mA f))/\PySem.Within mA (fs.map (·.1))
 | .own _=>∃o,h.get? a=some o
 | .xd fs=>∃mA,h.Ns1 a mA/\∀f,qY (fs.lookup f) (mA f)
 | .rng lo hi=>∃t u v,h.get? a=some { cls:=.type "range",data:=.fields #[.int lo t,.int hi u,.int 1 v] }
 | .frz o u=>h.get? a=some o/\dU H h a u
 | .tbl ps=>h.get? a=some { cls:=.none,data:=.fields ps }
 | .met f x=>h.get? a=some (PySem.W.methodObj (.ref f) (.ref x))
 | .ext φ=>φ h/\(∃o,h.get? a=some o)/\∀h1 h2:Heap,φ h1->(∀o,h1.get? a=some o->h2.get? a=some o)->φ h2
def mD(H:Hp)(h:Heap):Prop:=∀a o,H a=Y5->dU P w H h a o
end
section
variable{P:Program}{w:World}{H H':Hp}{h h':Heap}{a:Addr}{o:HO}
theorem dU.lt(x:dU P w H h a o):YeF a:=by
 cases o with
 | lst xs=>obtain⟨_,_,_,_,e⟩:=x;exact aY e
 | tup xs=>obtain⟨_,_,_,p⟩:=x;exact p.lt
 | dK kvs=>obtain⟨_,_,_,_,o,_,_,e,_⟩:=x;exact aY e
 | dT kvs=>obtain⟨_,_,_,_,o,_,_,e,_⟩:=x;exact aY e
 | set S n=>obtain⟨o,_,_,_,e,_⟩:=x;exact aY e
 | ins C dx fs=>obtain⟨_,_,_,e,_⟩:=x;exact aY e
 | own y=>obtain⟨_,e⟩:=x;exact aY e
 | xd fs=>obtain⟨_,⟨_,_,_,e,_⟩,_⟩:=x;exact aY e
 | rng lo hi=>obtain⟨_,_,_,e⟩:=x;exact aY e
 | frz ob u=>obtain⟨e,_⟩:=x;exact aY e
 | tbl ps=>exact aY (show h.get? a=some _ from x)
 | met f y=>exact aY (show h.get? a=some _ from x)
 | ext φ=>obtain⟨_,⟨_,e⟩,_⟩:=x;exact aY e
theorem Paired.mapP{α β:Type}{F G:Y17 α β}:∀{l₁:Yn}{l₂:List β},Paired F l₁ l₂->(∀a b,F a b->G a b)->Paired G l₁ l₂
 | _,_,.nil,_=>.nil
 | _,_,.cons r t,f=>.cons (f _ _ r) (Paired.mapP t f)
def dU.stay(x:dU P w H h a o)(k:∀b u,(b=a\/H b=Y72 a)->Y0M=Yt->Y0n=Yt)
  (ho:∀b,H b=Y72 a->Y1q=Y72 a) (ht:∀b xs,H b=Y0O->Y1q=Y0O):dU P w H' h' a o:=by
 induction o with
 | lst xs=>obtain⟨z,l,n,r,e⟩:=x;exact⟨z,l,n,r,Y3w _ e⟩
 | tup xs=>obtain⟨⟨z,D,G,I⟩,l,r,g,e,c⟩:=x;exact⟨⟨z,D,Y3w _ G,I⟩,l,r,g,Y3w _ e,c⟩
 | dK kvs=>obtain⟨z,y,J,r,g,i,j,e,c⟩:=x;exact⟨z,y,J,r,g,i,j,Y3w _ e,c⟩
 | dT kvs =>
  obtain⟨z,y,xs,r,g,i,j,e,c⟩:=x;exact⟨z,y,xs,Paired.mapP r λp q z=>⟨z.1,ht _ _ z.2.1,z.2.2⟩,g,i,j,Y3w _ e,c⟩
 | set S n=>obtain⟨g,i,j,t,e,c⟩:=x;exact⟨g,i,j,t,Y3w _ e,c⟩
 | ins C dx fs =>
  obtain⟨d,z,ne,e,m,⟨A,i,j,L,c⟩,r⟩:=x;exact⟨ho _ d,z,ne,Y3w _ e,m,⟨A,i,j,k _ _ (.inr d) L,c⟩,r⟩
 | own y=>obtain⟨g,e⟩:=x;exact⟨g,Y3w _ e⟩
 | xd fs=>obtain⟨m,⟨A,i,j,e,c⟩,r⟩:=x;exact⟨m,⟨A,i,j,Y3w _ e,c⟩,r⟩
 | rng lo hi=>obtain⟨t,u,v,e⟩:=x;exact⟨t,u,v,Y3w _ e⟩
 | frz g u ih=>obtain⟨e,q⟩:=x;exact⟨Y3w _ e,ih q⟩
 | tbl ps =>
  have e:Y7f=some { cls:=.none,data:=.fields ps }:=x;show Y61 a (some { cls:=.none,data:=.fields ps });exact Y3w a e
 | met f y =>
  have e:Y7f=some (PySem.W.methodObj (.ref f) (.ref y)):=x;show Y61 a (some (PySem.W.methodObj (.ref f) (.ref y)));exact Y3w a e
 | ext φ=>obtain⟨p,⟨o,e⟩,B⟩:=x;exact⟨B _ _ p λo q=>Y3w _ q,⟨o,Y3w _ e⟩,B⟩
theorem mD.lt(x:Y2a)(e:H a=Y5):YeF a:=(x a o e).lt
def mD.fresh(x:Y2a)(e:h.objs.size<=a):H a=none:=by
 cases q:H a with
 | none=>rfl
 | some u=>exact absurd (bD (x.lt q) e) (cP _)
def mD.kept(x:Y2a)(k:∀b u,Y0M=Yt->Y0n=Yt):mD P w H h':=λa o e =>
 (x a o e).stay (λb u _ q=>k b u q) (Y9H) Y63
def mD.laid(x:Y2a)(k:∀b u,Y0M=Yt->Y0n=Yt)(hp:h.objs.size<=a)(new:dU P w (Y1c o) h' a o):mD P w (Y1c o) h':=λb u e=>by
 have d:=x.fresh hp;by_cases hb:b=a
 ·subst hb;rw[bR]at e;cases e;exact new
 ·rw[cH hb]at e;exact(x b u e).stay (λc v _ q=>k c v q) (λc q=>by rw[cH (cM q d)];exact q) λc g q=>by rw[cH (cM q d)];exact q
end
def Rd(H:Hp)(a:Addr)(u:HO):Prop:=H a=Yt\/∃o,H a=Y8g o u
def Rd.ok{P:Program}{w:World}{H:Hp}{h:Heap}{a:Addr}{u:HO}(r:Rd H a u)(x:Y2a):dU P w H h a u:=by
 rcases r with r | ⟨o,r⟩
 ·exact x a u r
 ·obtain⟨_,q⟩:=x a _ r;exact q
def Mut:Y18 (Option HO)
 | some (.lst _)=>True
 | some (.dK _)=>True
 | some (.dT _)=>True
 | some (.set _ _)=>True
 | some (.ins _ _ _)=>True
 | some (.ext _)=>True
 | _=>False
section
variable{P:Program}{w:World}{H:Hp}{h h':Heap}{x e:Addr}{o':HO}
def mD.write(ok:Y2a)(mu:Mut (H x))(he:e=x\/H e=Y72 x)(k:∀b u,b≠e->Y0M=Yt->Y0n=Yt)(heo:∃u,Y61 e Yt)
  (new:dU P w (Y3G x o') h' x o'):mD P w (Y3G x o') h':=λb u q=>by
 have a:∀c y,H c=Y72 y->c≠x:=λc y r z=>by subst z;rw[r]at mu;exact mu
 have d:∀c i,H c=Yl i->c≠x:=λc i r z=>by subst z;rw[r]at mu;exact mu
 by_cases hb:b=x
 ·subst hb;rw[bR]at q;cases q;exact new
 ·rw[cH hb]at q;by_cases hbe:b=e
  ·have j:H b=Y72 x:=by
    rcases he with z | z
    ·exact absurd (hbe.trans z) hb
    ·rw[hbe];exact z
   rw[q]at j;cases j;obtain⟨v,l⟩:=heo;exact⟨v,by rw[hbe];exact l⟩
  ·refine(ok b u q).stay (λc v g r=>k c v ?_ r) (λc r=>by rw[cH (a c b r)];exact r) λc i r=>by rw[cH (d c i r)];exact r
   rcases g with rfl | g
   ·exact hbe
   ·rintro rfl;rcases he with z | z
    ·exact a c b g z
    ·rw[g]at z;cases z;exact hb rfl
end
structure Un(fs ex:Y0m)(H H':Hp)(h h':Heap):Prop where
 keep:Y0I (Y0M=Y5) (H b=none->b ∉ fs->b ∉ ex->Y0n=Y5)
 slot:Y0I (Y0M=Y5) (H b=none->Y2p fs->b ∉ ex->∃sl,Y0n=some { o with slots:=sl })
 free:Y0I (Y0M=Y5) (H b=none->b ∉ ex->Y1q=none)
 there:Y0I (Y0M=Y5) (b ∉ ex->∃o',Y0n=some o')
 tups:∀b xs,H b=Y0O->Y1q=Y0O
 frzs:∀b o u,H b=Y8g o u->Y1q=Y8g o u
 tbls:∀b ps,H b=YeC ps->∃more,Y1q=YeC (ps++more)
section
variable{fs fs' ex ex':Y0m}{H H1 H2:Hp}{h h1 h2 h':Heap}{a x e:Addr}{o:HO}
def Un.any(u:Un fs ex H H1 h h1){b:Addr}{ob:Obj}(q:Y0M=some ob)(n:H b=none)(hx:b ∉ ex):∃sl,YcK=some { ob with slots:=sl }:=by
 by_cases hb:Y2p fs
 ·exact u.slot b ob q n hb hx
 ·exact⟨ob.slots,u.keep b ob q n hb hx⟩
def Un.kept(k:∀b u,Y0M=Yt->Y0n=Yt):Un fs ex H H h h' :=
 ⟨λb a q _ _ _=>k b a q,λb a q _ _ _=>⟨a.slots,k b a q⟩,λ_ _ _ n _=>n,λb a q _=>⟨a,k b a q⟩,Y63,λ_ _ _ q=>q,λ_ c q=>⟨#[],by rw[q];simp⟩⟩
def Un.refl:Un fs ex H H h h:=Un.kept Y63
def Un.laid(k:∀b u,Y0M=Yt->Y0n=Yt)(hp:h.objs.size<=a)(hn:H a=none):Un fs ex H (Y1c o) h h' where
 keep:=λb u q _ _ _=>k b u q
 slot:=λb u q _ _ _=>⟨u.slots,k b u q⟩
 free:=λb u q n _=>by rw[cH (cJ (bD (aY q) hp))];exact n
 there:=λb u q _=>⟨u,k b u q⟩
 tups:=λb c q=>by rw[Y4v q];exact q
 frzs:=λb u c q=>by rw[Y4v q];exact q
 tbls:=λb d q=>⟨#[],by rw[Y4v q,q];simp⟩
def Un.write(mu:Mut (H x))(he:e=x\/H e=Y72 x)(k:∀b u,b≠e->Y0M=Yt->Y0n=Yt)(heo:∃u,Y61 e Yt):Un fs ex H (Y3G x o) h h':=by
 have d:∀b,H b=none->b≠x:=λb n z=>by subst z;rw[n]at mu;exact mu
 have c:∀b,H b=none->b≠e:=λb n z=>by
  subst z;rcases he with r | r
  ·exact d b n r
  ·rw[n]at r;cases r
 have a:∀b u,H b=Yt->¬Mut (Yt)->b≠x:=λb u q g z=>by subst z;rw[q]at mu;exact g mu
 refine⟨λb u q n _ _=>k b u (c b n) q,λb u q n _ _=>⟨u.slots,k b u (c b n) q⟩,λb u q n _=>by rw[cH (d b n)];exact n,λb u q _=>?_,
  λb i q=>by rw[cH (a b _ q λz=>z)];exact q,λb u i q=>by rw[cH (a b _ q λz=>z)];exact q,λb j q=>⟨#[],by rw[cH (a b _ q λz=>z),q];simp⟩⟩
 by_cases hbe:b=e
 ·subst hbe;exact heo
 ·exact⟨u,k b u hbe q⟩
end
def trk(h:Heap)(H:Hp):Y0m:=(List.range h.objs.size).filter λa=>(H a).isSome
def FC(h:Heap)(H:Hp):Heap:=PySem.W.hideAll h (trk h H)
def QA(h:Heap)(H:Hp):(FC h H).objs.size=h.objs.size:=PySem.W.hideAll_size _ _
def VC{h:Heap}{H:Hp}{b:Addr}{o:Obj}(e:Y0M=Y5)(n:H b=none):(FC h H).get? b=Y5 :=
 PySem.W.hideAll_get _ e λa=>by
  have q:(H b).isSome=true:=(gZ.mp a).2;rw[n]at q;simp at q
def ZW{h:Heap}{H:Hp}{b:Addr}{o:Obj}(e:(FC h H).get? b=Y5):Y0M=Y5/\H b=none:=by
 have a:Y0M=Y5:=PySem.W.of_hideAll (trk h H) e;refine Y02 a;cases q:H b with
 | none=>rfl
 | some x =>
  have c:Y2p (trk h H):=gZ.mpr ⟨bX.mpr (aY a),by simp[q]⟩;have z:(FC h H).get? b=none:=PySem.W.hideAll_none (trk h H) c;rw[z]at e;cases e
structure Mod(K:Aa)(mg:Y03)(base:Heap):Prop where
 kin:K.In base
 glob:YbQ mg
 blt:∃mb,base.Ns builtinsNs mb/\∀x:Str,x ≠ "__name__" -> mb x=Y6W
 nolimit:base.NoLimit
/-- the context: a def's body (or a comprehension's block) running. base: fixed through the whole law;s₀,H₀: the entry;outer: the frames whose slots others may change (a def's callers);stack: all frames that run;
   ex: iterators that were made ahead of the entry and are walked here (a comprehension's);fn: the names whose cells were made at the entry (a def: all;a comprehension's block: its own);calm: not within an except suite;pn: pins that every state bears;xe: what is wanted of an exception that leaves the code -/
structure Cx where
 prog:Program
 w:World
 K:Aa
 mg:Y03
 base:Heap
 A:Around
 N:Ah
 s₀:Shared
 H₀:Hp
 env:Env
 outer:Y1t
 stack:Y1t
 ex:Y0m
 fn:Y27 Str
 calm:Bool
 pn:Ad
 xe:Y8
def frs(l:Y1t):Y0m:=l.filterMap (·.frame)
abbrev Cx.fs(X:Cx):Y0m:=frs X.outer
def Vis(sc:Scope)(x:Str):Prop:=Y80=Y1A\/Y80=Y4X\/Y80=YeE
def Loc(sc:Scope)(x:Str):Prop:=Y80=Y1A\/Y80=Y4X
def aFl(env:Env)(h:Heap)(m:Y03)(x:Str)(u:Value):Prop :=
 (env.kindOf x=Y1A/\m x=Yt)\/((env.kindOf x=Y4X\/env.kindOf x=YeE)/\∃c,Ycb x Y0c/\h.IsCell c (Yt))
structure Cx.Ok(X:Cx):Prop where
 mod:Mod X.K X.mg X.base
 kind:X.env.scope.kind=.function
 glob:X.env.globals=mainGlobals
 blt:X.env.builtins=builtinsNs
 above:Y7U X.env.locals
 inj:∀x y c,Y2K=Y0c->Yc0 y Y0c->x=y
 has:∀x,(Y68 x Y4X\/Y68 x YeE)->∃c,Y2K=Y0c
 cab:∀x c,Y7C=true->Y2K=Y0c->Y7U c
 hd:Y1V->X.A.handled=none
 frames:X.A.frames=some X.stack
 stk:X.stack=X.outer\/(X.stack=X.env::X.outer/\X.env.frame=some X.env.locals)
 exf:∀b∈X.ex,Y48 b/\∀x c,Y2K=Y0c->c≠b
 bs:Y0I (Yc6=Y5) (YdT b Y5/\X.H₀ b=none)
 bsz:X.base.objs.size<=X.s₀.heap.objs.size
 noex:Y0I (Yc6=Y5) (b ∉ X.ex)
 exfs:∀b∈X.ex,b ∉ X.fs
 funs:X.s₀.heap.FunFrames X.base X.outer
 frf:∀b∈X.fs,X.H₀ b=none
structure cF(X:Cx)(pins:Ad)(σ:Y86 V)(H:Hp)(s:Shared):Prop where
 ok:X.Ok
 os:s.os=X.s₀.os
 bare:AllBare s.gens
 base:Un X.fs X.ex X.H₀ H X.s₀.heap s.heap
 loc:∃m,s.heap.Ns X.env.locals m/\∀(i:Nat) (x:Str) (v:V),Y1W=Y9->σ[i]?=Ycj->YbZ x->∃u,Y2G/\aFl X.env s.heap m x u
 cell:∀x c,Y2K=Y0c->∃v,s.heap.IsCell c v
 free:H X.env.locals=none
 freeC:∀x c,Y2K=Y0c->H c=none
 pin:∀p∈X.pn++pins,Y24 p.1 p.2/\H p.1=none/\Y48 p.1/\p.1 ∉ X.fs/\∀v,p.2.data ≠ .cell v
 hok:Y7z H s.heap
 len:σ.length=X.N.length
section
variable{X:Cx}{pins:Ad}{σ:Y86 V}{H H':Hp}{s:Shared}{h':Heap}
def Cx.Ok.nofr(ok:X.Ok){b:Addr}{o:Obj}(e:Yc6=Y5):b ∉ X.fs:=λa=>by
 have:=(ok.funs.mem a).1;rw[e]at this;cases this
theorem cF.bs(I:Y2):Y0I (Yc6=Y5) (Y2U/\H b=none):=λb o e =>
 ⟨YcD o ((I.ok.bs b o e).1) ((I.ok.bs b o e).2) (I.ok.nofr e) (I.ok.noex b o e),Ycr o ((I.ok.bs b o e).1) ((I.ok.bs b o e).2) (I.ok.noex b o e)⟩
def cF.bk(I:Y2):Y0I (Yc6=Y5) Y2U:=λb o e=>(I.bs b o e).1
theorem cF.mod(I:Y2):Mod X.K X.mg X.base:=I.ok.mod
def cF.kIn(I:Y2):X.K.In s.heap:=I.ok.mod.kin.keeps I.bk
theorem cF.lt(I:Y2):Y5v X.env.locals:=let ⟨_,hn,_⟩:=I.loc;hn.lt
def cF.sz(I:Y2):Y7U s.heap.objs.size:=aM I.ok.above (Nat.le_of_lt I.lt)
def cF.nofs(I:Y2){a:Addr}(h:YfL a):a ∉ X.fs:=λd=>by
 obtain⟨_,o,c,_⟩:=I.ok.funs.mem d;exact absurd (bD (aY c) (aM I.sz h)) (cP _)
def cF.cne(I:Y2):∀x c,Y2K=Y0c->Y48 c:=λx c e z=>by
 obtain⟨v,o,g,hd⟩:=Y8E x e;obtain⟨m,⟨j,h,i,d,a,_⟩,_⟩:=I.loc;rw[z,d]at g;cases g;rw[a]at hd;cases hd
theorem cF.funs(I:Y2):Yf7 X.outer:=by
 have all:∀(l:Y1t),(∀b∈frs l,Y2p X.fs)->X.s₀.heap.FunFrames X.base l->Yf7 l:=by
  intro l
  induction l with
  | nil=>intro _ _;trivial
  | cons env r ih =>
   intro hs m;obtain⟨g,⟨L,o,d,i,h,hd⟩,j⟩:=m;have c:L∈X.fs:=hs L (by unfold frs;rw[List.filterMap_cons,d];exact aG);obtain⟨p,e⟩:=YcE L h (I.ok.frf L c) c (λz=>I.ok.exfs L z c);exact⟨g,⟨L,_,d,i,e,hd⟩,ih (λb a=>hs b (by unfold frs;rw[List.filterMap_cons,d];exact aQ _ a)) j⟩
 exact all X.outer (λ_ a=>a) I.ok.funs
theorem cF.stack(I:Y2):Yf7 X.stack:=by
 rcases I.ok.stk with e | ⟨e,c⟩
 ·rw[e];exact I.funs
 ·rw[e];obtain⟨m,a,_⟩:=I.loc;refine .cons (by rw[I.ok.kind];decide) c a ?_ I.funs;exact Heap.get?_none_of_le (YeG I.ok.above)
def cF.stkSub(I:Y2):∀b∈frs X.stack,Y2p (X.env.locals::X.fs):=λb a=>by
 rcases I.ok.stk with e | ⟨e,c⟩
 ·rw[e]at a;exact aQ _ a
 ·rw[e]at a;unfold frs at a;rw[List.filterMap_cons,c]at a;exact a
def cF.stkFree(I:Y2):∀b∈frs X.stack,H b=none:=λb a=>by
 rcases aK.mp (I.stkSub b a)with e | a
 ·rw[e];exact I.free
 ·obtain⟨_,o,c,_⟩:=I.ok.funs.mem a;exact Ycr o c (I.ok.frf b a) (λz=>I.ok.exfs b z a)
def cF.step{g':YfY}{t':Nat}{d':Drawn}{ch:Y0m}(I:Y2)
  (hch:∀b∈ch,(Y2p X.ex\/Y7U b)/\Y48 b/\(∀x c,Y2K=Y0c->c≠b)/\∀p∈X.pn++pins,p.1≠b)
  (keep:Y0I (Y48 b) (b ∉ X.fs->b ∉ ch->Y2U->H b=none->Y0n=Y5))
  (slot:Y0I (Y48 b) (Y2p X.fs->b ∉ ch->Y2U->H b=none->∃sl,Y0n=some { o with slots:=sl })) (free:Y0I (b ∉ ch) (Y2U->H b=none->Y1q=none))
  (there:Y0I (b ∉ ch) (Y2U->∃o',Y0n=some o'))
  (tups:∀b xs,H b=Y0O->Y1q=Y0O) (frzs:∀b o u,H b=Y8g o u->Y1q=Y8g o u) (tbls:∀b ps,H b=YeC ps->∃more,Y1q=YeC (ps++more))
  (ns:∀m,s.heap.Ns X.env.locals m->h'.Ns X.env.locals m) (hok:Y7z H' h') (hg:AllBare g') :
  Y5e ({ s with heap:=h',gens:=g',drawn:=d',toks:=t' }):=by
 have neL:Y0I (YdT b Y5) (Y48 b):=λb o e=>cJ (bD (aY e) I.ok.above);have j:Y0I (YdT b Y5) (b ∉ X.ex->b ∉ ch):=λb o e a A=>by
  rcases(hch b A).1 with z | z
  ·exact a z
  ·exact absurd (bD (aY e) z) (cP _)
 have g:∀x c,Y2K=Y0c->∀v,s.heap.IsCell c v->h'.IsCell c v:=λx c e v ⟨o,B,hd⟩=>by
  have h:c ∉ ch:=λz=>(hch c z).2.2.1 x c e rfl;by_cases hc:c∈X.fs
  ·obtain⟨sl,q⟩:=slot c o (I.cne x c e) hc h B (Ybp x e);exact Y1o q hd
  ·exact Y0P (keep c o (I.cne x c e) hc h B (Ybp x e)) hd
 refine⟨I.ok,I.os,hg,⟨λb o e n A a=>?_,λb o e n A a=>?_,λb o e n a=>?_,λb o e a=>?_,λb xs e=>tups b xs (I.base.tups b xs e),λb o xs e=>frzs b o xs (I.base.frzs b o xs e),λb ps e=>?_⟩,?_,λx c e=>?_,?_,λx c e=>?_,λp G=>?_,hok,I.len⟩
 ·exact keep b o (neL b o e) A (j b o e a) (YcD o e n A a) (Ycr o e n a)
 ·obtain⟨sl,y⟩:=YcE b e n A a;obtain⟨D,C⟩:=slot b _ (neL b o e) A (j b o e a) y (Ycr o e n a);exact⟨D,C⟩
 ·obtain⟨o',y⟩:=YaN o e a;exact free b o' (j b o e a) y (Ycr o e n a)
 ·obtain⟨o',y⟩:=YaN o e a;exact there b o' (j b o e a) y
 ·obtain⟨N,y⟩:=I.base.tbls b ps e;obtain⟨P,C⟩:=tbls b _ y;exact⟨N++P,by rw[C,Array.append_assoc]⟩
 ·obtain⟨m,M,O⟩:=I.loc;refine⟨m,ns m M,λi x v y C L=>?_⟩;obtain⟨u,r,l⟩:=O i x v y C L;refine Y0w u r;rcases l with l | ⟨k,c,e,z⟩
  ·exact .inl l
  ·exact .inr ⟨k,c,e,g x c e _ z⟩
 ·obtain⟨v,z⟩:=Y8E x e;exact⟨v,g x c e v z⟩
 ·obtain⟨m,⟨o,_,_,B,_⟩,_⟩:=I.loc;exact free _ o (λz=>(hch _ z).2.1 rfl) B I.free
 ·obtain⟨v,o,B,hd⟩:=Y8E x e;exact free c o (λz=>(hch c z).2.2.1 x c e rfl) B (Ybp x e)
 ·obtain⟨e,n,ne,J,d⟩:=Y5K G;have h:p.1 ∉ ch:=λz=>(hch p.1 z).2.2.2 p G rfl;exact⟨keep p.1 p.2 ne J h e n,free p.1 p.2 h e n,ne,J,d⟩
def cF.un{t':Nat}(I:Y2)(u:Y8J X.fs [] H H' h')(hok:Y7z H' h'):Y5e ({ s with heap:=h',toks:=t' }):=by
 obtain⟨m,⟨o,p,x,h,r⟩,_⟩:=id I.loc;obtain⟨B,j⟩:=u.any h I.free (by simp);exact I.step (g':=s.gens) (d':=s.drawn) (ch:=[]) (λ_ z=>nomatch z) (λb o _ g _ e n=>u.keep b o e n g (by simp)) (λb o _ g _ e n=>u.slot b o e n g (by simp)) (λb o _ e n=>u.free b o e n (by simp)) (λb o _ e=>u.there b o e (by simp)) u.tups u.frzs u.tbls (λy l=>by
  obtain⟨A,c,d,a,i⟩:=l;rw[h]at a;cases a;exact⟨_,c,d,j,i⟩) hok I.bare
def cF.call{g':YfY}{t':Nat}{d':Drawn}{ch:Y0m}(I:Y2)(u:Y8J Y71 ch H H' h')(hok:Y7z H' h')(hg:AllBare g')
  (hch:∀b∈ch,(Y2p X.ex\/Y7U b)/\Y48 b/\(∀x c,Y2K=Y0c->c≠b)/\∀p∈X.pn++pins,p.1≠b) :
  Y5e ({ s with heap:=h',gens:=g',drawn:=d',toks:=t' }):=by
 obtain⟨m,⟨o,B,C,j,r⟩,_⟩:=id I.loc;obtain⟨J,i⟩:=u.any j I.free λz=>(hch _ z).2.1 rfl;exact I.step (ch:=ch) hch (λb o i y a e n=>u.keep b o e n (λz=>(aK.mp (I.stkSub b z)).elim i y) a) (λb o _ _ a e n=>u.any e n a) (λb o a e n=>u.free b o e n a) (λb o a e=>u.there b o e a) u.tups u.frzs u.tbls (λD A=>by
  obtain⟨G,g,h,d,l⟩:=A;rw[j]at d;cases d;exact⟨_,g,h,i,l⟩) hok hg
def cF.turned{t':Nat}{it:Addr}(I:Y2)(k:Y0I (b≠it) (Y2U->Y0n=Y5))(hn:H it=none)(hL:Y48 it)
  (h1:it∈X.ex\/Y7U it) (h2:∀x c,Y2K=Y0c->c≠it) (h3:∀p∈X.pn++pins,p.1≠it):Y5r ({ s with heap:=h',toks:=t' }):=by
 have d:∀b u,H b=Yt->b≠it:=λb u e z=>by rw[z,hn]at e;cases e
 refine I.step (g':=s.gens) (d':=s.drawn) (ch:=[it]) (λb j=>?_) (λb o _ _ a e _=>k b o (λz=>a (by simp[z])) e) (λb o _ _ a e _=>⟨o.slots,k b o (λz=>a (by simp[z])) e⟩) (λ_ _ _ _ n=>n)
  (λb o a e=>⟨o,k b o (λz=>a (by simp[z])) e⟩) (Y83) (λ_ _ _ e=>e) (λb w e=>⟨#[],by rw[e];simp⟩) (λm l=>?_) (λb u e=>?_) I.bare
 ·have e:b=it:=by simpa using j
  subst e;exact⟨h1,hL,h2,h3⟩
 ·obtain⟨o,g,h,i,r⟩:=l;exact⟨o,g,h,k _ o (Ne.symm hL) i,r⟩
 ·refine(I.hok b u e).stay (λc v a q=>k c v ?_ q) (Y9H) Y63;rcases a with z | z
  ·rw[z];exact d b u e
  ·exact d c _ z
def cF.tok(I:Y2)(t:Nat):Y5r ({ s with toks:=t }):=I.un (h':=s.heap) (t':=t) Un.refl I.hok
theorem cF.kept{t':Nat}(I:Y2)(k:∀b u,Y92 b Yt->Y0n=Yt):Y5r ({ s with heap:=h',toks:=t' }):=I.un (Un.kept k) (I.hok.kept k)
theorem cF.laid{a:Addr}{o:HO}{t':Nat}(I:Y2)(k:∀b u,Y92 b Yt->Y0n=Yt)(hp:YfL a)(new:dU X.prog X.w (Y1c o) h' a o) :
  Y1N (Y1c o) ({ s with heap:=h',toks:=t' }):=I.un (Un.laid k hp (I.hok.fresh hp)) (I.hok.laid k hp new)
theorem cF.write{x e:Addr}{o:HO}{t':Nat}(I:Y2)(mu:Mut (H x))(he:e=x\/H e=Y72 x)(k:∀b u,b≠e->Y92 b Yt->Y0n=Yt)(heo:∃u,Y61 e Yt)
  (new:dU X.prog X.w (Y3G x o) h' x o):Y1N (Y3G x o) ({ s with heap:=h',toks:=t' }):=I.un (Un.write mu he k heo) (I.hok.write mu he k heo new)
def cF.pins_of{pins':Ad}(I:Y2)(h:∀p∈pins',Y24 p.1 p.2/\H p.1=none/\Y48 p.1/\p.1 ∉ X.fs/\∀v,p.2.data ≠ .cell v):Y1J pins' H s :=
 ⟨I.ok,I.os,I.bare,I.base,I.loc,I.cell,I.free,I.freeC,λp a=>(bQ.mp a).elim (λz=>Y5K (cO _ z)) (h p),I.hok,I.len⟩
def AO{N:Ah}(hN:N.Nodup){i j:Nat}{x:Str}(a:N[i]?=Y9)(b:N[j]?=Y9):i=j:=by
 obtain⟨e,d⟩:=aT.mp a;obtain⟨g,c⟩:=aT.mp b;exact(List.getElem_inj hN).mp (d.trans c.symm)
def CC{M:Model}{A:Around}{E:Y8}{i:Nat}{x:Str}{v:V}{u:Value}{Q:Y3J}(I:Y2)(hN:X.N.Nodup)(hi:Y1W=Y9)(hx:Y9j x)(r:Y2G)
  (h:∀s',cF X pins (Ycd i) H s'->(∃a,Y9f a s'.heap/\(a=X.env.locals\/Y2K=some a))->Q () s') (hf:Y7C=true\/Y5L x:=by first | exact .inl rfl | exact .inr rfl | assumption):Y5g A (storeName X.env x u) Q E s:=by
 obtain⟨m,δ,ν⟩:=id I.loc;have T:Y6 (YbP .class || (YbP .module&&X.env.locals != X.env.globals)):=by rw[I.ok.kind];rfl
 have U:i<σ.length:=by rw[I.len];exact(aT.mp hi).1
 have cne:=I.cne;have g:∀{a:Addr} {O:Heap},(∃o,Y95 a/\H a=none)->Y9f a O->Y7z H O:=λ{a O} χ hs b ψ e=>by
  obtain⟨_,_,C⟩:=χ;refine(I.hok b ψ e).stay (λc W B q=>(hs.2 c ?_).trans q) (Y9H) Y63;rintro rfl;rcases B with rfl | B
  ·rw[C]at e;cases e
  ·rw[C]at B;cases B
 rcases hx with G | G
 ·refine wpAny_storeName_local G δ (λO β hs=>?_) T;obtain⟨υ,_,_,ζ,_⟩:=id δ;refine h _ ⟨I.ok,I.os,I.bare,⟨Ydj,Ydj,I.base.free,λb o e hx=>?_,I.base.tups,I.base.frzs,I.base.tbls⟩,Y1o β (λj y ι l D α=>?_),λy c e=>?_,I.free,I.freeC,λp γ=>?_,g ⟨υ,ζ,I.free⟩ hs,by simpa using I.len⟩ (Y1o hs Y21)
  ·exact(hs.2 b (cJ (bD (aY e) I.ok.above))).trans (YcD o e n L hx)
  ·obtain⟨κ,l⟩:=YcE b e n L hx;exact⟨κ,(hs.2 b (cJ (bD (aY e) I.ok.above))).trans l⟩
  ·obtain⟨ε,l⟩:=YaN o e hx;exact⟨ε,(hs.2 b (cJ (bD (aY e) I.ok.above))).trans l⟩
  ·by_cases hj:j=i
   ·subst hj;rw[hi]at l;cases l;rw[List.getElem?_set_self U]at D;cases D;exact⟨u,r,Y3e G (by simp)⟩
   ·rw[YeW hj]at D;obtain⟨θ,η,q⟩:=ν j y ι l D α;refine Y0w θ η;rcases q with⟨k,e⟩ | ⟨k,c,e,z⟩
    ·refine .inl (Y02 k);have:y≠x:=λe=>hj (AO hN l (e ▸ hi));simp[this,e]
    ·exact .inr ⟨k,c,e,Yep hs y c e⟩
  ·obtain⟨W,z⟩:=Y8E y e;exact⟨W,Yep hs y c e⟩
  ·obtain⟨e,n,ne,μ,d⟩:=Y5K γ;exact⟨(hs.2 p.1 ne).trans e,n,ne,μ,d⟩
 ·have J:Y7C=true:=by
   rcases hf with z | z
   ·exact z
   ·rw[z]at G;cases G
  obtain⟨c,B⟩:=I.ok.has x (.inl G);obtain⟨W,z⟩:=Y8E x B;refine wpAny_storeName_cell I.ok.kind G B z (λO S hs=>?_);obtain⟨ξ,P,R⟩:=id z;refine h { s with heap:=O } ⟨I.ok,I.os,I.bare,⟨Ydj,Ydj,I.base.free,λb o e hx=>?_,I.base.tups,I.base.frzs,I.base.tbls⟩,⟨m,δ.sameBut hs (Ne.symm (cne x c B)),λj y ι l D α=>?_⟩,λy Z e=>?_,I.free,I.freeC,λp γ=>?_,g ⟨ξ,P,Ybp x B⟩ hs,by simpa using I.len⟩ ⟨c,hs,.inr B⟩
  ·exact(hs.2 b (cJ (bD (aY e) (I.ok.cab x c J B)))).trans (YcD o e n L hx)
  ·obtain⟨κ,l⟩:=YcE b e n L hx;exact⟨κ,(hs.2 b (cJ (bD (aY e) (I.ok.cab x c J B)))).trans l⟩
  ·obtain⟨ε,l⟩:=YaN o e hx;exact⟨ε,(hs.2 b (cJ (bD (aY e) (I.ok.cab x c J B)))).trans l⟩
  ·by_cases hj:j=i
   ·subst hj;rw[hi]at l;cases l;rw[List.getElem?_set_self U]at D;cases D;exact⟨u,r,.inr ⟨.inl G,c,B,S⟩⟩
   ·rw[YeW hj]at D;obtain⟨θ,η,q⟩:=ν j y ι l D α;refine Y0w θ η;rcases q with q | ⟨k,Z,e,τ⟩
    ·exact .inl q
    ·refine .inr ⟨k,Z,e,τ.sameBut hs ?_⟩;rintro rfl;exact hj (AO hN l (I.ok.inj _ _ _ e B ▸ hi))
  ·by_cases hcc:Z=c
   ·subst hcc;exact Y0p S
   ·obtain⟨φ,ο⟩:=I.cell y Z e;exact⟨φ,ο.sameBut hs hcc⟩
  ·obtain⟨e,n,ne,μ,d⟩:=Y5K γ;refine⟨(hs.2 p.1 ?_).trans e,n,ne,μ,d⟩;intro q;rw[q,P]at e;have ρ:ξ=p.2:=gY e;exact d W (by rw[<-ρ];exact R)
def rE{M:Model}{A:Around}{E:Y8}{i:Nat}{x:Str}{v:V}{u:Value}{Q:Y3J}(I:Y2)(hN:X.N.Nodup)(hi:Y1W=Y9)(hx:Y9j x)(r:Y2G)
  (h:∀s',cF X pins (Ycd i) H s'->Q () s') (hf:Y7C=true\/Y5L x:=by first | exact .inl rfl | exact .inr rfl | assumption):Y5g A (storeName X.env x u) Q E s :=
 CC I hN hi hx r (λs' I' _=>h s' I') hf
def cF.call'{s':Shared}{ch:Y0m}(I:Y2)(ho:s'.os=s.os)(u:Y8J Y71 ch H H' s'.heap)(hok:Y7z H' s'.heap)(hg:YaB)
  (hch:∀b∈ch,(Y2p X.ex\/Y7U b)/\Y48 b/\(∀x c,Y2K=Y0c->c≠b)/\∀p∈X.pn++pins,p.1≠b):Y5e s':=by
 obtain⟨d,g',d',t',a⟩:=s';have e:a=s.os:=ho;subst e;exact I.call (g':=g') (t':=t') (d':=d') u hok hg hch
end
abbrev XK:=Value->Y1l Y0u
abbrev St:=Y86 V
abbrev _root_.An:=Option V
abbrev _root_.Al:=Y7A
abbrev VK:=Y2E
abbrev TE:=St->(Hp->(Y18 VK))
abbrev TT:=St->Y6G Y9Z
abbrev TA:=St->Y6G (Y1l Al)
structure mH where
 nx:Y1m
 rt:VK
 bk:Y1m:=Yc7
 ct:Y1m:=Yc7
abbrev TS:=mH->Y1m
def EP(X:Cx)(pins:Ad)(σ:St)(Q:VK)(u:Value)(s':Shared):Prop:=∃v H',Y5e s'/\Y2G/\Y0Z
def TP(X:Cx)(pins:Ad)(σ:St)(Q:Y9Z)(b:Bool)(s':Shared):Prop:=∃H',Y5e s'/\Q b H'
def AP(X:Cx)(pins:Ad)(σ:St)(Q:Y1l Al)(us:Ag)(s':Shared):Prop:=∃vs H',Y5e s'/\Y7F/\Q vs H'
def SP(X:Cx)(pins:Ad)(D:mH)(f:Flow)(s':Shared):Prop :=
 match f with
 | .next=>∃σ' H',cF X pins σ' H' s'/\D.nx σ' H'
 | .brk=>∃σ' H',cF X pins σ' H' s'/\D.bk σ' H'
 | .cont=>∃σ' H',cF X pins σ' H' s'/\D.ct σ' H'
 | .ret u=>∃v σ' H',cF X pins σ' H' s'/\dN v u/\D.rt v H'
def PE(X:Cx)(e:Expr)(t:TE):Prop :=
 ∀(pins:Ad) (s:Shared) (σ:St) (H:Hp) (Q:VK),Y2->t σ H Q->Y6t Y1p X σ Q
def PT(X:Cx)(e:Expr)(t:TT):Prop :=
 ∀(pins:Ad) (s:Shared) (σ:St) (H:Hp) (Q:Y9Z),Y2->t σ H Q->Y4q (isTrue e X.env (Y1p)) (TP X pins σ Q)
def PW(X:Cx)(e:Expr)(t:TT):Prop :=
 ∀(whole:Y77) (pins:Ad) (s:Shared) (σ:St) (H:Hp) (Q:Y9Z),Y2->t σ H Q->Y4q (isTrue e X.env whole) (TP X pins σ Q)
def PW.pt{X:Cx}{e:Expr}{t:TT}(h:PW X e t):PT X e t:=h _
def PA(X:Cx)(es:Yz)(t:TA):Prop :=
 ∀(pos:Pos) (pins:Ad) (s:Shared) (σ:St) (H:Hp) (Q:Y1l Al),Y2->t σ H Q->Y4q (spliced (backTo pos (Y2W))) (AP X pins σ Q)
def PS(X:Cx)(st:Stmt)(t:TS):Prop :=
 ∀(pins:Ad) (s:Shared) (σ:St) (H:Hp) (D:mH),Y2->t D σ H->Y4q (exec st X.env) (SP X pins D)
def KS(X:Cx)(st:Y3b)(t:TS):Prop :=
 ∀(pins:Ad) (s:Shared) (σ:St) (H:Hp) (D:mH),Y2->t D σ H->Y4q (execs st X.env) (SP X pins D)
def thn{α:Type}{t:Sem α}{Q Q':Y1Q α}{M:Model}{A:Around}{E:Y8}{s:Shared}(h:Y5g A t Q E s)(hQ:∀a s,Q a s->Q' a s):Y5g A t Q' E s:=Yef h hQ
section
variable{X:Cx}
def aBP(i:Nat):TE:=λσ H Q=>∃v,σ[i]?=Ycj/\Q v H
def tC(v:V):TE:=λ_ H Q=>Q v H
def aDd{i:Nat}{x:Str}{pos:Pos}(hN:Y1W=Y9)(hv:YbZ x)(hd:Y0Y ("__debug__" : Str):=by decide)(hcd:Y0Y ("__classdict__" : Str):=by decide):Yj Y5J (aBP i):=by
 intro j s σ H Q I h;obtain⟨v,e,h⟩:=h;obtain⟨m,w,y⟩:=I.loc;obtain⟨u,r,l⟩:=y i x v hN e hv;have g:EP X j σ Q u s:=⟨v,H,I,r,h⟩;rcases l with⟨d,A⟩ | ⟨d,c,p,a⟩
 ·exact wpAny_Name (wpAny_loadName_local I.ok.kind d w A g) hd
 ·rcases d with d | d
  ·exact wpAny_Name (wpAny_loadName_cell I.ok.kind d p a g) hd
  ·exact wpAny_Name (wpAny_loadName_free I.ok.kind d p a g hcd) hd
def pe_int{i j pos}:Yj (Y8a Y07 j) (tC (Y07)):=λ_ _ _ H _ I h=>wpAny_Constant_int ⟨Y07,H,Y0S,Y1E,h⟩
def pe_bl{b j pos}:Yj (Y8a (.bool b) j) (tC (.bl b)):=λ_ _ _ H _ I h=>Constant_bool (Y3Q b H I h)
def pe_non{j pos}:Yj (Y8a .none j) (tC .non):=λ_ _ _ H _ I h=>Constant_none (Y3z .non H I h)
def pe_str{x j pos}:Yj (Y8a Y8W j) (tC (Y8W)):=λ_ _ _ H _ I h=>Calls.Constant_str ⟨Y8W,H,Y0S,Y1E,h⟩
def Gl(X:Cx)(x:Str):Prop:=Y68 x (some .globalImplicit)
def vA{E:Y8}{pins:Ad}{s:Shared}{σ:St}{H:Hp}{x:Str}{u:Value}{pos:Pos}{Q:Y8}(I:Y2)(hg:Y1L)(hm:Y3T=Yt)(h:Q u s)
  (hd:Y0Y ("__debug__" : Str):=by decide):Y6R (Y0g Y5J) Q E s :=
 Yf1 I.ok.kind (Calls.loadGlobal_global (by rw[I.ok.glob];exact Yfc) hm h) hd
def tV{E:Y8}{pins:Ad}{s:Shared}{σ:St}{H:Hp}{x:Str}{u:Value}{pos:Pos}{Q:Y8}(I:Y2)(hg:Y1L)(hm:Y3T=none)(hv:Y6W=Yt)(h:Q u s)
  (hn:x ≠ "__name__" := by decide) (hd:Y0Y ("__debug__" : Str):=by decide):Y6R (Y0g Y5J) Q E s:=by
 obtain⟨d,a,c⟩:=I.mod.blt;exact Yf1 I.ok.kind (Calls.loadGlobal_builtin (by rw[I.ok.glob];exact Yfc) hm (by rw[I.ok.blt];exact a.keeps I.bk) ((c x hn).trans hv) h) hd
def ZN{x:Str}{v:V}{u:Value}{pos:Pos}(hg:Y1L)(hm:Y3T=Yt)(r:Y2G)(hd:Y0Y ("__debug__" : Str):=by decide):Yj Y5J (tC v) :=
 λ_ _ _ H _ I h=>vA I hg hm ⟨v,H,I,r,h⟩ hd
def ZS{x:Str}{v:V}{u:Value}{pos:Pos}(hg:Y1L)(hm:Y3T=none)(hv:Y6W=Yt)(r:Y2G)(hn:x ≠ "__name__" := by decide)(hd:Y0Y ("__debug__" : Str):=by decide):Yj Y5J (tC v) :=
 λ_ _ _ H _ I h=>tV I hg hm hv ⟨v,H,I,r,h⟩ hn hd
variable{a b:Expr}{ta tb:TE}{pos:Pos}
def tB(t:TE):TT:=Y3t (λx H1=>∃c,x=.bl c/\Q c H1)
def aC3{e:Expr}{t:TE}(h:Yj e t)(he:∀whole,isTrue e X.env whole=(do let v <-whole;standAt e.pos;holding [v] (truthy v)):=by intro _;rfl):PT X e (tB t):=by
 intro a s σ H Q I c;refine isTrue_plain (thn (h a s σ H _ I c) λv j ⟨x,H1,I1,i,g⟩=>?_) (he _);obtain⟨d,rfl,q⟩:=g;cases i;exact wpAny_truthy_bool ⟨H1,I1,q⟩
variable{tA tB':TT}{rest:Yz}
def aED(t u:TT):TT:=Y3t (λc H1=>if c=true then u σ H1 Q else Q false H1)
def tOr(t u:TT):TT:=Y3t (λc H1=>if c=true then Q true H1 else u σ H1 Q)
def aEx(t:TT):TT:=Y3t (λc H1=>Q (! c) H1)
def ZE(ha:PT X a tA):PW X (Y6l [a]) tA:=by
 intro g d s σ H Q I h;refine isTrue_and (thn (ha d s σ H Q I h) λc i e=>?_);cases c with
 | true=>exact isTrue_and_nil e
 | false=>exact e
def aC1(ha:PT X a tA):PW X (Y6S .Or [a]) tA:=by
 intro g d s σ H Q I h;refine isTrue_or (thn (ha d s σ H Q I h) λc i e=>?_);cases c with
 | false=>exact isTrue_or_nil e
 | true=>exact e
def aC2(ha:PT X a tA)(hb:PW X (Y6l Y5p) tB'):PW X (Y6l (a::Y5p)) (aED tA tB'):=by
 intro g d s σ H Q I h;refine isTrue_and (thn (ha d s σ H _ I h) λc i ⟨H1,I1,e⟩=>?_);cases c with
 | true=>exact hb g d i σ H1 Q I1 e
 | false=>exact⟨H1,I1,e⟩
def aEN(ha:PT X a tA)(hb:PW X (Y6S .Or Y5p) tB'):PW X (Y6S .Or (a::Y5p)) (tOr tA tB'):=by
 intro g d s σ H Q I h;refine isTrue_or (thn (ha d s σ H _ I h) λc i ⟨H1,I1,e⟩=>?_);cases c with
 | true=>exact⟨H1,I1,e⟩
 | false=>exact hb g d i σ H1 Q I1 e
def aC4(ha:PT X a tA):PT X (YaT .Not a) (aEx tA):=by
 intro d s σ H Q I h;exact isTrue_not (ha d s σ H (λc H1=>Q (! c) H1) I h)
def aA8(ta tb:TE):TE:=Ybq σ H (∃c,x=.bl c/\if c=true then tb σ H1 Q else Q (.bl false) H1)
def aA2(ta:TE):TE:=Ybq σ H (∃c,x=.bl c/\Q (.bl (! c)) H1)
def aDf{op}{t:TE}(h:Yj a t):Yj (Y6S op [a]) t:=λc s σ H Q I d=>BoolOp_one (h c s σ H Q I d)
def aDj(ha:Y6D a)(hb:Yj (Y6l Y5p) tb):Yj (Y6l (a::Y5p)) (aA8 ta tb):=by
 intro d s σ H Q I h;refine BoolOp_and (thn (ha d s σ H _ I h) λv g ⟨x,H1,I1,i,e⟩=>?_);obtain⟨c,rfl,e⟩:=e;cases i;refine wpAny_truthy_bool ?_;cases c with
 | true=>exact hb d g σ H1 Q I1 e
 | false=>exact Y3Q false H1 I1 e
def aDg(ha:Y6D a):Yj (YaT .Not a) (aA2 ta):=by
 intro d s σ H Q I h;refine UnaryOp_ (thn (ha d s σ H _ I h) λv i ⟨x,H1,I1,g,e⟩=>?_);obtain⟨c,rfl,e⟩:=e;cases g;exact not_of (wpAny_truthy_bool (Y3Q (! c) H1 I1 e))
def tIf(t:TT)(ta tb:TE):TE:=Y3t (λc H1=>if c=true then ta σ H1 Q else tb σ H1 Q)
def UD{c:Expr}(hc:PT X c tA)(ha:Y6D a)(hb:Yj b tb):Yj (.IfExp c a b pos) (tIf tA ta tb):=by
 intro e s σ H Q I h;refine wpAny_IfExp (thn (hc e s σ H _ I h) λd i ⟨H1,I1,g⟩=>?_);cases d with
 | true=>exact ha e i σ H1 Q I1 g
 | false=>exact hb e i σ H1 Q I1 g
end
def hU(K:Aa)(H:Hp)(a:Addr)(xs:Al):Prop :=
 Rd H a (.lst xs) \/
  ∃(o:Obj) (its:Ai) (n:Nat),Yct=Y5/\o.cls=.type "list" /\ o.dict=none/\o.data=.seq its n/\Y0h its.size/\dG xs its.toList
def fS(K:Aa)(H:Hp)(a:Addr)(xs:Al):Prop :=
 Rd H a (.tup xs) \/
  ∃(o:Obj) (its:Ai) (n:Nat),Yct=Y5/\o.cls=.type "tuple" /\ o.data=.seq its n/\Y0h its.size/\dG xs its.toList
def aHF:Value->An
 | .none=>some .non
 | .bool b=>some (.bl b)
 | .int i _=>some (.int i)
 | .str x _=>some (.str x)
 | .bytes b _=>some (.byt b)
 | .float b _=>some (.flt b)
 | .ref a=>some (.ref a)
 | .type n=>some (.ty n)
 | _=>none
def dN.abs{x:V}{u:Value}(r:dN x u):aHF u=Y9:=by
 cases x with
 | non=>cases r;rfl
 | bl _=>cases r;rfl
 | int _=>obtain⟨t,rfl⟩:=r;rfl
 | str _=>obtain⟨t,rfl⟩:=r;rfl
 | byt _=>obtain⟨t,rfl⟩:=r;rfl
 | flt _=>obtain⟨t,rfl⟩:=r;rfl
 | ref _=>cases r;rfl
 | ty _=>cases r;rfl
def dN.inj{x y:V}{u:Value}(r:dN x u)(q:Y3n):x=y:=gY (r.abs.symm.trans q.abs)
theorem dG.inj:∀{xs ys:Al}{us:Ag},Y6y->Y1T ys->xs=ys
 | _,_,_,.nil,.nil=>rfl
 | _,_,_,.cons r t,.cons r' t'=>by rw[r.inj r',dG.inj t t']
section
variable{X:Cx}{pins:Ad}{σ:St}{H:Hp}{s:Shared}{a:Addr}{xs ys:Al}
def hU.of{K:Aa}(h:H a=Y0y):Y2I K H a:=YaS h
def fS.of{K:Aa}(h:H a=Y0O):Y5o:=YaS h
def cF.list(I:Y2)(h:Y2I X.K H a):∃its:Ag,dG xs its/\PlainL s.heap a its.toArray/\Y4T:=by
 rcases h with h | ⟨o,its,n,c,d,hd,hs,g,r⟩
 ·obtain⟨z,its,n,r,e⟩:=h.ok I.hok;exact⟨its,r,⟨_,n,e,rfl,rfl,rfl⟩,z⟩
 ·refine⟨its.toList,r,⟨o,n,I.kIn a o c,d,hd,by simpa using hs⟩,?_⟩;have e:=r.length;simp only[Array.length_toList]at e;exact Oo
def cF.tuple(I:Y2)(h:fS X.K H a xs):∃its:Ag,dG xs its/\Yck a its.toArray/\Y4T:=by
 rcases h with h | ⟨o,its,n,c,d,hs,g,r⟩
 ·obtain⟨⟨z,_⟩,its,r,p⟩:=h.ok I.hok;exact⟨its,r,p,z⟩
 ·refine⟨its.toList,r,⟨o,I.kIn a o c,d,n,by simpa using hs⟩,?_⟩;have e:=r.length;simp only[Array.length_toList]at e;exact Oo
def cF.list_inj(I:Y2)(h:Y2I X.K H a)(h':hU X.K H a ys):xs=ys:=by
 obtain⟨g,r,⟨o,n,e,_,_,d⟩,_⟩:=I.list h;obtain⟨c,l,⟨m,p,j,_,_,i⟩,_⟩:=I.list h';rw[e]at j;cases j;rw[d]at i;injection i with d1 _;have:g=c:=by simpa using congrArg Array.toList d1
 subst this;exact r.inj l
def cF.tuple_inj(I:Y2)(h:fS X.K H a xs)(h':fS X.K H a ys):xs=ys:=by
 obtain⟨g,r,⟨o,e,_,n,d⟩,_⟩:=I.tuple h;obtain⟨c,l,⟨m,j,_,p,i⟩,_⟩:=I.tuple h';rw[e]at j;cases j;rw[d]at i;injection i with d1 _;have:g=c:=by simpa using congrArg Array.toList d1
 subst this;exact r.inj l
end
abbrev Cx.wish(X:Cx)(E:Y8):Cx:={ X with xe:=E }
abbrev Cx.nox(X:Cx):Cx:=X.wish Yc7
theorem Cx.Ok.wish{X:Cx}(ok:X.Ok)(E:Y8):(X.wish E).Ok :=
 ⟨ok.mod,ok.kind,ok.glob,ok.blt,ok.above,ok.inj,ok.has,ok.cab,ok.hd,ok.frames,ok.stk,ok.exf,ok.bs,ok.bsz,ok.noex,ok.exfs,ok.funs,ok.frf⟩
def Cx.Ok.unwish{X:Cx}{E:Y8}(ok:(X.wish E).Ok):X.Ok :=
 ⟨ok.mod,ok.kind,ok.glob,ok.blt,ok.above,ok.inj,ok.has,ok.cab,ok.hd,ok.frames,ok.stk,ok.exf,ok.bs,ok.bsz,ok.noex,ok.exfs,ok.funs,ok.frf⟩
section
variable{X:Cx}{pins:Ad}{σ:St}{H:Hp}{s:Shared}{E:Y8}
theorem cF.wish(I:Y2)(E:Y8):cF (X.wish E) pins σ H s:=⟨I.ok.wish E,I.os,I.bare,I.base,I.loc,I.cell,I.free,I.freeC,I.pin,I.hok,I.len⟩
theorem cF.unwish(I:cF (X.wish E) pins σ H s):Y2:=⟨I.ok.unwish,I.os,I.bare,I.base,I.loc,I.cell,I.free,I.freeC,I.pin,I.hok,I.len⟩
theorem SP.unwish{D:mH}{f:Flow}{s':Shared}(h:SP (X.wish E) pins D f s'):SP X pins D f s':=by
 cases f with
 | next=>obtain⟨a,H',I,q⟩:=h;exact Y7K a H' I.unwish
 | brk=>obtain⟨a,H',I,q⟩:=h;exact Y7K a H' I.unwish
 | cont=>obtain⟨a,H',I,q⟩:=h;exact Y7K a H' I.unwish
 | ret u=>obtain⟨v,a,H',I,r,q⟩:=h;exact⟨v,a,H',I.unwish,r,q⟩
theorem KS.nox{st:Y3b}{t:TS}(h:KS X.nox st t):KS X st t:=λa s σ H D I c =>
 wpAny_mono (h a s σ H D (I.wish _) c) (λ_ _ q=>q.unwish) λ_ _ z=>False.elim z
end
section
variable{X:Cx}{st:Stmt}{rest:Y3b}{t u:TS}{e:Expr}{te:TE}{pos:Pos}
def aA3:TS:=λD σ H=>Y3m
def XY(t u:TS):TS:=λD σ H=>t { D with nx:=u D } σ H
def pss_nil:KS X [] aA3:=λ_ _ σ H _ I h=>Ydx σ H I h
def TV(h1:PS X st t)(h2:KS X rest u):KS X (st :: rest) (XY t u):=by
 intro a s σ H D I h;refine wpAny_execs_cons (thn (h1 a s σ H { D with nx:=u D } I h) λf d q=>?_);cases f with
 | next =>
  obtain⟨c,H',I',q⟩:=q;exact h2 a d c H' D I' q
 | ret v=>exact q
 | brk=>exact q
 | cont=>exact q
def ZH(h1:PS X st t):KS X [st] t:=by
 intro a s σ H D I h;refine wpAny_execs_cons (thn (h1 a s σ H D I h) λf c q=>?_);cases f with
 | next=>exact wpAny_execs_nil q
 | ret v=>exact q
 | brk=>exact q
 | cont=>exact q
def cF.quiet{pins:Ad}{σ:St}{H:Hp}{s:Shared}(I:Y2):Y6 (interactive X.env):=by simp[interactive,I.ok.kind]
def aA5(te:TE):TS:=λD σ H=>te σ H λ_ H1=>Y6X H1
def ZI(he:Yj e te)(hs:YeR e none pos.line=Y5y:=by rfl):PS X (.Expr e pos) (aA5 te):=by
 intro a s σ H D I h;exact wpAny_Expr_any (thn (he a s σ H _ I h) λv d ⟨x,H1,I1,g,c⟩=>⟨σ,H1,I1,c⟩) I.quiet hs
def aEv(te:TE):TS:=λD σ H=>te σ H D.rt
def aC6(he:Yj e te):PS X (.Return (Y3S) pos) (aEv te):=by
 intro a s σ H D I h;exact wpAny_Return_some (thn (he a s σ H _ I h) λv g ⟨x,H1,I1,d,c⟩=>⟨x,σ,H1,I1,d,c⟩)
def aEy(c:TT)(t u:TS):TS:=λD σ H=>c σ H λb H1=>if b=true then t D σ H1 else u D σ H1
def aEO{c:Expr}{a b:Y3b}{tc:TT}(hc:PT X c tc)(ha:KS X a t)(hb:KS X b u):PS X (.If c a b pos) (aEy tc t u):=by
 intro e s σ H D I h;refine wpAny_If (thn (hc e s σ H _ I h) λd i ⟨H1,I1,g⟩=>?_);cases d with
 | true=>exact ha e i σ H1 D I1 g
 | false=>exact hb e i σ H1 D I1 g
end
abbrev TG:=V->St->Y6G Y1m
abbrev WP:=Al->St->Y6G Y1m
def PG(X:Cx)(target:Expr)(t:TG):Prop :=
 ∀(pins:Ad) (s:Shared) (σ:St) (H:Hp) (v:V) (u:Value) (Q:Y1m),Y2->Y2G->t v σ H Q ->
  Y4q (assign target X.env u) (λ_ s'=>∃σ' H',cF X pins σ' H' s'/\Q σ' H')
def PGs(X:Cx)(ts:Yz)(t:WP):Prop :=
 ∀(pins:Ad) (s:Shared) (σ:St) (H:Hp) (vs:Al) (us:Ag) (Q:Y1m),Y2->Y7F->t vs σ H Q ->
  Y4q (assignInOrder ((assignEach ts X.env).map (·.2)) us) (λ_ s'=>∃σ' H',cF X pins σ' H' s'/\Q σ' H')
section
variable{X:Cx}{pos:Pos}
def nJ(i:Nat):TG:=λv σ H Q=>Q (Ycd i) H
def MH{i:Nat}{x:Str}(hN:X.N.Nodup)(hi:Y1W=Y9)(hx:Y9j x)(hf:Y7C=true\/Y5L x:=by first | exact .inl rfl | exact .inr rfl | assumption):PG X (Y5J) (nJ i):=by
 intro a s σ H v u Q I r h;exact wpAny_assign_Name (rE I hN hi hx r (λc I'=>⟨_,H,I',h⟩) hf)
def aDJ:WP:=λvs σ H Q=>vs=[]/\Q σ H
def VD(t:TG)(u:WP):WP:=λvs σ H Q=>∃v r,vs=v::r/\t v σ H λσ' H'=>u r σ' H' Q
def pgs_nil:PGs X [] aDJ:=by
 intro a s σ H c d Q I r h;obtain⟨e,h⟩:=h;subst e;cases r;exact assignInOrder_nil ⟨σ,H,I,h⟩
def UB{e:Expr}{es:Yz}{t:TG}{u:WP}(h1:PG X e t)(h2:PGs X es u)
  (hs:(assignEach (e::es) X.env).map (·.2)=assign e X.env::(assignEach es X.env).map (·.2):=by rfl):PGs X (e::es) (VD t u):=by
 intro a s σ H m j Q I r h;obtain⟨v,l,d,h⟩:=h;subst d;cases r with
 | cons r rr =>
  rw[hs];refine assignInOrder_cons (thn (h1 a s σ H _ _ _ I r h) λ_ g ⟨i,H1,I1,c⟩=>?_);exact h2 a g i H1 _ _ Q I1 rr c
def aDI(K:Aa)(n:Nat)(t:WP):TG:=λv σ H Q=>∃a xs,v=Y7/\Y5o/\Y2v n/\t xs σ H Q
def aDc{es:Yz}{k:Nat}{t:WP}{n:Nat}(hc:Y1V)(h:PGs X es t)
  (hn:(assignEach es X.env).length=n:=by rfl) (hst:(assignEach es X.env).findIdx? (·.1)=none:=by rfl):PG X (.Tuple es k pos) (aDI X.K n t):=by
 intro c s σ H v u Q I r d;obtain⟨a,w,x,l,p,d⟩:=d;subst x;cases r;obtain⟨j,rv,m,y⟩:=I.tuple l;refine assign_Tuple_tuple (Y9z) m (by simp[hn,<-p,rv.length]) hst λg i=>?_;have I1:Y1J c H ({ s with heap:=g }):=I.kept (t':=s.toks) λb o e=>i b o (cJ (aY e)) e;exact h c _ σ H w _ Q I1 (by simpa using rv) d
def JH(te:TE)(g:TG):TS:=λD σ H=>te σ H λx H1=>g x σ H1 D.nx
def aC5{i:Nat}{x:Str}{e:Expr}{te:TE}{pos':Pos}(hN:X.N.Nodup)(hi:Y1W=Y9)(hx:Y9j x)(he:Yj e te)(hs:Yb2 e Ybn=Y5y:=by rfl)(hf:Y7C=true\/Y5L x:=by first | exact .inl rfl | exact .inr rfl | assumption) :
  PS X (Y8h [Ybn] e) (JH te (nJ i)):=by
 intro a s σ H D I h;refine wpAny_Assign_Name (thn (he a s σ H _ I h) λv j ⟨y,H1,I1,d,c⟩=>?_) hs;exact rE I1 hN hi hx d (λg I2=>⟨_,H1,I2,c⟩) hf
def aEw(i j:Nat)(ta:TA):TS:=λD σ H=>ta σ H λvs H1=>∃v w,vs=[v,w]/\D.nx ((σ.set i (some v)).set j (some w)) H1
def aC7{i j:Nat}{x y:Str}{a b:Expr}{ta:TA}{px py pt:Pos}{kt k2 pt2}(hc:Y1V)(hN:X.N.Nodup)(hi:Y1W=Y9)(hj:X.N[j]?=Y00)(hij:i≠j)
  (hx:Y5L x) (hy:Y5L y) (ha:PA X [a,b] ta)
  (hw:swappedStores [Y3c [Y5a,Y41] kt] (Yb9 [a,b] k2) X.env=pure (some [x,y]))
  (hs:swapsWithSole [Y3c [Y5a,Y41] kt] (Yb9 [a,b] k2) pos.line X.env=Y5y:=by rfl) :
  PS X (Y8h [Y3c [Y5a,Y41] kt] (Yb9 [a,b] k2)) (aEw i j ta):=by
 intro c s σ H D I h;rw[exec_Assign_arm];refine YbC ?_;rw[hs];refine Y91;rw[Y9F];refine wpAny_bind (Tuple_ (thn (ha _ c s σ H _ I h) λB g ⟨L,H1,I1,u,r⟩=>?_));obtain⟨v,w,C,r⟩:=r;subst C;obtain⟨u1,d,rfl,rv,l⟩:∃u1 d,B=[u1,d]/\dN v u1/\dN w d:=by
  cases u with
  | cons p q =>
   cases q with
   | cons p' q' =>
    cases q';exact Y3y p p'
 refine Ydl (by show Y0h 2;decide);have I2:Y1J c H1 ({ g with heap:=g.heap.push { cls:=.type "tuple",data:=.seq [u1,d].toArray } }):=YbF g.toks Y2D;rw[hw];refine Y91;show wpAny (Y6b) X.A (do rule "assign.swapped-stores";let items <-unpackItems (.ref g.heap.objs.size) 2 none;assignInOrder [λv=>bindName X.env y v,λv=>bindName X.env x v] items.reverse;pure Flow.next) _ _ _;refine Y99 (wpAny_bind (unpackItems_tuple (items:=#[u1,d]) (Y9z) (Ycl g.heap) λh' m=>?_));have I3:=I2.kept (h':=h') (t':=g.toks) λb o e=>m b o (cJ (aY e)) e;show Y0V (assignInOrder [λv=>bindName X.env y v,λv=>bindName X.env x v] [d,u1] >>= λ_=>pure Flow.next);refine wpAny_bind (assignInOrder_cons (wpAny_bindName (rE I3 hN hj (.inl hy) l (λG I4=>?_) (.inr hy))));refine assignInOrder_cons (wpAny_bindName (rE I4 hN hi (.inl hx) rv (λJ I5=>assignInOrder_nil (Y1B)) (.inr hx)));rw[List.set_comm _ _ (Ne.symm hij)]at I5;exact⟨_,H1,I5,r⟩
end
section
variable{X:Cx}{pos:Pos}
def DX(c:TT)(tb:TS):TS:=λD σ H=>∃W:Nat->St->Hp->Prop,(∃m,W m σ H)/\∀m σ H,W m σ H ->
 c σ H λb H1=>if b=true then ∃N:St->Hp->Prop,(∀σ' H',N σ' H'->∃m',m' < m/\W m' σ' H')/\(tb { D with nx:=N,ct:=N,bk:=D.nx } σ H1) else Y6X H1
def TW{c:Expr}{body:Y3b}{tc:TT}{tb:TS}(hp:Yc5 X.A X.env X.xe)(hc:PT X c tc)(hb:KS X body tb):PS X (.While c body [] pos) (DX tc tb):=by
 intro a s σ H D I h;obtain⟨W,⟨y,C⟩,e⟩:=h;refine wpAny_While (codeAny_whileLoop (λn G=>∃σ' H',cF X a σ' H' G/\W n σ' H') ?_ y ⟨σ,H,I,C⟩);rintro n J ⟨j,H1,I1,B⟩;refine Y9a hp (hc a J j H1 _ I1 (e n j H1 B)) (λb x ⟨H2,I2,i⟩=>?_);cases b with
 | true =>
  obtain⟨N,u,i⟩:=i;rw[Y1P];refine Y9a hp (hb a x j H2 _ I2 i) (λf L g=>?_);cases f with
  | next =>
   obtain⟨d,H3,I3,p⟩:=g;obtain⟨m,r,l⟩:=u d H3 p;exact⟨m,r,d,H3,I3,l⟩
  | cont =>
   obtain⟨d,H3,I3,p⟩:=g;obtain⟨m,r,l⟩:=u d H3 p;exact⟨m,r,d,H3,I3,l⟩
  | brk=>exact g
  | ret v=>exact g
 | false =>
  rw[if_neg bZ];exact Ydx j H2 I2 i
end
structure It where
 go:Y1l Nat
 yld:Nat->Hp->Y2E
 stop:Y1l Nat
def pP(X:Cx)(pins:Ad)(H:Hp)(b:Addr):Prop :=
 H b=none/\Y48 b/\b ∉ X.fs/\(Y2p X.ex\/Y7U b)/\(∀x c,Y2K=Y0c->c≠b)/\∀p∈X.pn++pins,p.1≠b
def cF.fpOk{X:Cx}{pins:Ad}{σ:St}{H H':Hp}{s:Shared}{b:Addr}(I:Y2)(hb:YfL b)(hn:Y1q=none):Y3x H' b:=by
 refine⟨hn,Nat.ne_of_gt (bD I.lt hb),I.nofs hb,.inr (aM I.sz hb),λx c e z=>?_,λp a z=>?_⟩
 ·obtain⟨v,q⟩:=Y8E x e;exact absurd (bD q.lt (by rw[z];exact hb)) (cP _)
 ·exact absurd (bD (aY (Y5K a).1) (by rw[z];exact hb)) (cP _)
structure IM(P:Program)(w:World)(K:Aa)(tg:Expr)(J:It)(fp:Y0m)(it:Addr)(tn:Nat->Y4h):Prop where
 mem:it∈fp
 obj:∀i h,tn i h->∀b∈fp,∃o,Y0M=Y5/\∀v,o.data ≠ .cell v
 keep:∀i h h',tn i h->(∀b∈fp,∀o,Y0M=Y5->Y0n=Y5)->tn i h'
 item:∀(X:Cx),X.prog=P->X.w=w->X.K=K->Y1V->∀(i:Nat) (pins:Ad) (s:Shared) (σ:St) (H:Hp) (E:Y8),Y2->(∀b∈fp,Y3x H b)->tn i s.heap->Y6B H ->
  wpAny (model P w) X.A (pyNext (.ref it)) (λr s1=>∃u,r=Yt /\
   wpAny (model P w) X.A (letOwnedTupleGo tg (Y4k) u) (λ_ s2=>∃x H',Y5e s2/\dN x u/\Y6v H x H'/\tn (i+1) s2.heap/\∀b∈fp,Y1q=none) E s1) E s
 done:∀(X:Cx),X.prog=P->X.w=w->X.K=K->Y1V->∀(i:Nat) (pins:Ad) (s:Shared) (σ:St) (H:Hp) (E:Y8),Y2->(∀b∈fp,Y3x H b)->tn i s.heap->J.stop i H ->
  wpAny (model P w) X.A (pyNext (.ref it)) (λr s1=>r=none/\Y5r s1) E s
 self:∀(A:Around) (i:Nat) (s:Shared) (Q:Y8) (E:Y8),tn i s.heap->Y2c it s->wpAny (model P w) A (pyIter (Y4k)) Q E s
abbrev TI:=St->Y6G (Y1l It)
def PIE(X:Cx)(pins:Ad)(σ:St)(tg:Expr)(R:Y1l It)(itv:Value)(s2:Shared):Prop :=
 ∃(it:Addr) (fp:Y0m) (tn:Nat->Y4h) (J:It) (H':Hp),itv=Y4k/\Y5e s2/\IM X.prog X.w X.K tg J fp it tn/\tn 0 s2.heap/\(∀b∈fp,Y3x H' b)/\R J H'
def PI(X:Cx)(tg iter:Expr)(wi:TI):Prop :=
 ∀(pins:Ad) (s:Shared) (σ:St) (H:Hp) (R:Y1l It),Y2->wi σ H R ->
  Y4q (Y0g iter) (λv s1=>Y98 (pyIter v) (PIE X pins σ tg R) s1)
def MZ{M:Model}{A:Around}{E:Y8}{s:Shared}{tg:Expr}{it:Addr}{u:Value}{o:Obj}{n:String}{vs:Ai}{Q:Y3J}(ho:Y95 it)(hc:o.cls=.type n)(hd:o.data=Y8i)
    (hn:Y6 (["enumerate","zip","dict_itemiterator","dict_reverseitemiterator","odict_iterator","itertools.zip_longest","itertools.pairwise"].contains n)) (hQ:Q () s):Y5g A (letOwnedTupleGo tg (Y4k) u) Q E s:=by
  unfold letOwnedTupleGo;cases tg <;> first
    | exact wpAny_pure hQ
    | (cases u <;> first
        | exact wpAny_pure hQ
        | (refine Yfd ho ?_
           rw[hc,hd];show Y5g A (if(["enumerate","zip","dict_itemiterator","dict_reverseitemiterator","odict_iterator","itertools.zip_longest","itertools.pairwise"].contains n&&vs[0]? == some (rawInt _))=true then _ else _) Q E s;rw[if_neg (by intro h;rw[hn,Bool.false_and]at h;cases h)];exact wpAny_pure hQ))
def Itl(K:Aa)(a:Addr):It :=
 ⟨Yec (Y2I K H a/\Y0t=Y9),λi H x H'=>H'=H/\∀xs,Y2I K H a->Y0t=Y9,λi H=>∃xs,Y2I K H a/\Y4Y i⟩
def Itt(K:Aa)(a:Addr):It :=
 ⟨Yec (Y5o/\Y0t=Y9),λi H x H'=>H'=H/\∀xs,Y5o->Y0t=Y9,λi H=>∃xs,Y5o/\Y4Y i⟩
def WU(lo:Int)(n:Nat):It:=⟨λi _=>i<n,λi H x H'=>H'=H/\x=.int (lo+i),λi _=>n<=i⟩
def ON{P:Program}{w:World}{K:Aa}{tg:Expr}(a it:Addr):IM P w K tg (Itl K a) [it] it (λi h=>h.IsListIter it a i) where
 mem:=by simp
 obj:=λi h g b l=>by
  have e:b=it:=by simpa using l
  subst e;obtain⟨o,e,c,d⟩:=g;exact Y0P e (λv z=>by rw[d]at z;cases z)
 keep:=λi h r g k=>g.at λo e=>k it (by simp) o e
 item:=by
  intro X G B R T i j s σ H E I y g C;subst G B R;obtain⟨β,x,A,J⟩:=C;obtain⟨L,rv,p,U⟩:=I.list A;obtain⟨u,α,ru⟩:=rv.get J;obtain⟨M,O,Z,S,N,D⟩:=y it (by simp);refine wpAny_pyNext_list_item g p.isList (x:=u) (by simpa using α) λr m δ=>?_;have I1:Y1J j H ({ s with heap:=r }):=Y9c (λb o l e=>(δ.2 b l).trans e) M O S N D;obtain⟨o,e,c,d⟩:=id m;exact Y0Q u (MZ (s:={ s with heap:=r }) e c d Dd ⟨x,H,I1,ru,Y0l (λζ γ=>by rw[I.list_inj γ A];exact J),m,λb l=>(y b l).1⟩)
 done:=by
  intro X G B R T i j s σ H E I y g C;subst G B R;obtain⟨β,A,J⟩:=C;obtain⟨L,rv,p,U⟩:=I.list A;obtain⟨M,O,Z,S,N,D⟩:=y it (by simp);have η:=rv.length;exact wpAny_pyNext_list_end (I.ok.hd T) g p.isList (by simp;exact Oo) λr ε=>Y0l (Y9c (λb o l e=>ε b o l e) M O S N D)
 self:=λ_ _ _ _ _ g h=>wpAny_pyIter_listiter g h
def IZ{P:Program}{w:World}{K:Aa}{tg:Expr}(a it:Addr):IM P w K tg (Itt K a) [it] it (λi h=>h.IsTupleIter it a i) where
 mem:=by simp
 obj:=λi h g b m=>by
  have e:b=it:=by simpa using m
  subst e;obtain⟨o,e,c,d⟩:=g;exact Y0P e (λv z=>by rw[d]at z;cases z)
 keep:=λi h y g k=>g.at λo e=>k it (by simp) o e
 item:=by
  intro X J C R T i j s σ H E I A g D;subst J C R;obtain⟨β,x,B,L⟩:=D;obtain⟨l,rv,p,U⟩:=I.tuple B;obtain⟨u,α,ru⟩:=rv.get L;obtain⟨M,O,Z,S,N,G⟩:=A it (by simp);refine wpAny_pyNext_tuple_item g (show s.heap.IsTuple a l.toArray from p) (x:=u) (by simpa using α) λy r δ=>?_;have I1:Y1J j H ({ s with heap:=y }):=Y9c (λb o m e=>(δ.2 b m).trans e) M O S N G;obtain⟨o,e,c,d⟩:=id r;exact Y0Q u (MZ (s:={ s with heap:=y }) e c d Dd ⟨x,H,I1,ru,Y0l (λζ γ=>by rw[I.tuple_inj γ B];exact L),r,λb m=>(A b m).1⟩)
 done:=by
  intro X J C R T i j s σ H E I A g D;subst J C R;obtain⟨β,B,L⟩:=D;obtain⟨l,rv,p,U⟩:=I.tuple B;obtain⟨M,O,Z,S,N,G⟩:=A it (by simp);have η:=rv.length;exact wpAny_pyNext_tuple_end (I.ok.hd T) g (show s.heap.IsTuple a l.toArray from p) (by simp;exact Oo) λy ε=>Y0l (Y9c (λb o m e=>ε b o m e) M O S N G)
 self:=λ_ _ _ _ _ g h=>wpAny_pyIter_tupleiter g h
def JA{P:Program}{w:World}{K:Aa}{tg:Expr}(it:Addr)(lo:Int)(n:Nat):IM P w K tg (WU lo n) [it] it (λi h=>IsRangeIter h it (lo+(i:Nat)*1) ((n:Int)-(i:Nat)) 1) where
 mem:=by simp
 obj:=λi h a b d=>by
  have e:b=it:=by simpa using d
  subst e;exact⟨_,a,λv z=>by
   have N:Data.fields _=Data.cell v:=z;cases N⟩
 keep:=λi h j a k=>k it (by simp) _ a
 item:=by
  intro X x m C r i c s σ H E I l a p;subst x m C;obtain⟨y,B,M,D,A,u⟩:=l it (by simp);have W:=Walks.range (prog:=X.prog) (w:=X.w) (I.ok.hd r) it lo 1 n;refine W.item i s _ _ p a λv j G J g L=>?_;obtain⟨t,rfl⟩:=J;have I1:Y1J c H ({ s with heap:=j,toks:=G }):=I.turned (λb o d e=>L b o (by simpa using d) e) y B D A u;refine Y1 (MZ (s:={ s with heap:=j,toks:=G }) (n := "range_iterator") g rfl rfl Dd ⟨.int (lo+i),H,I1,Y02 t,Yad,g,λb d=>(l b d).1⟩);rw[Int.mul_one]
 done:=by
  intro X x m C r i c s σ H E I l a p;subst x m C;obtain⟨y,B,M,D,A,u⟩:=l it (by simp);exact wpAny_pyNext_range_end (I.ok.hd r) a (by have:n<=i:=p;exact Oo) λj O=>Y0l (Y9c (λb o d e=>O b o d e) y B D A u)
 self:=λ_ _ _ _ _ a h=>wpAny_pyIter_rangeiter a h
section
variable{X:Cx}{tg:Expr}
def aBl(K:Aa)(tl:TE):TI:=λσ H R=>tl σ H λx H1=>∃a,x=Y7/\(∃xs,Y2I K H1 a)/\R (Itl K a) H1
def aE2(K:Aa)(tl:TE):TI:=λσ H R=>tl σ H λx H1=>∃a,x=Y7/\(∃xs,fS K H1 a xs)/\R (Itt K a) H1
def ZM{l:Expr}{tl:TE}(hl:Yj l tl):PI X tg l (aBl X.K tl):=by
 intro c s σ H R I h;refine thn (hl c s σ H _ I h) λv d ⟨x,H1,I1,g,i⟩=>?_;obtain⟨a,e,⟨w,m⟩,q⟩:=i;subst e;cases g;obtain⟨j,rv,p,u⟩:=I1.list m;refine wpAny_pyIter_list p.isList ⟨d.heap.objs.size,Yft,_,_,H1,rfl,YbF d.toks Y2D,ON a _,Y7w _,λb r=>?_,q⟩;have e:YfV b:=by simpa using r
 subst e;exact Yaq Yk Yk
def aDb{l:Expr}{tl:TE}(hl:Yj l tl):PI X tg l (aE2 X.K tl):=by
 intro c s σ H R I h;refine thn (hl c s σ H _ I h) λv d ⟨x,H1,I1,i,j⟩=>?_;obtain⟨a,e,⟨w,m⟩,q⟩:=j;subst e;cases i;obtain⟨g,rv,p,u⟩:=I1.tuple m;refine wpAny_pyIter_tuple (show d.heap.IsTuple a g.toArray from p) ⟨d.heap.objs.size,Yft,_,_,H1,rfl,YbF d.toks Y2D,IZ a _,Y7w _,λb r=>?_,q⟩;have e:YfV b:=by simpa using r
 subst e;exact Yaq Yk Yk
def TR{pins:Ad}{σ:St}{H:Hp}{s:Shared}{R:Y1l It}{E:Y8}{lo hi:Int}{t u v:Tok}{tk:Nat}(I:Y2)(h1:-(2^62)<=lo)(h2:lo<2^62)(h3:-(2^62)<=hi)(h4:hi<2^62)
  (q:R (WU lo (hi-lo).toNat) H):Y6R (pyIter (Y19)) (PIE X pins σ tg R) E ({ s with heap:=s.heap.push { cls:=.type "range",data:=.fields #[.int lo t,.int hi u,.int 1 v] },toks:=tk }):=by
 refine wpAny_pyIter_range (IsRange.new ..) (small_one h1 h2 h3 h4) ?_;have I1:Y5r ({ s with heap:=s.heap.push { cls:=.type "range",data:=.fields #[.int lo t,.int hi u,.int 1 v] },toks:=tk }):=I.kept λb o e=>Y2D;refine⟨(s.heap.push { cls:=.type "range",data:=.fields #[.int lo t,.int hi u,.int 1 v] }).objs.size,[(s.heap.push { cls:=.type "range",data:=.fields #[.int lo t,.int hi u,.int 1 v] }).objs.size],_,_,H,rfl,
  YbF tk Y2D,JA _ lo (hi-lo).toNat,?_,λb c=>?_,q⟩
 ·have d:lo+((0:Nat):Int)*1=lo:=by simp
  have a:(((hi-lo).toNat:Nat):Int)-((0:Nat):Int)=Builtin.Range.rangeSize lo hi 1:=by rw[rangeSize_one];split <;> exact Oo
  show IsRangeIter _ _ (lo+((0:Nat):Int)*1) ((((hi-lo).toNat:Nat):Int)-((0:Nat):Int)) 1;rw[d,a];exact Y14
 ·have e:b=(s.heap.push { cls:=.type "range",data:=.fields #[.int lo t,.int hi u,.int 1 v] }).objs.size:=by simpa using c
  subst e;exact Yaq Yk Yk
def aBk(ta:TA):TI:=YeK σ H (λvs H1=>∃j:Int,vs=[.int j]/\-(2^62)<=j/\j<2^62/\R (WU 0 j.toNat) H1)
def PF{a:Expr}{ta:TA}{p pos:Pos}(hg:Gl X "range")(hm:X.mg "range" = none)(ha:PA X [a] ta)(hs:Y4K a=[(false,Y0g a)]:=by rfl):PI X tg (Yb8 "range" p [a] []) (aBk ta):=by
 intro c s σ H R I h;refine Call_ (tV I hg hm boot_range (YbA (ha pos c s σ H _ I h) (λl u ⟨m,H1,I1,g,d⟩=>?_) hs rfl));obtain⟨j,e,d,i,q⟩:=d;subst e;cases g with
 | cons r rr =>
  cases rr;obtain⟨t,rfl⟩:=r;exact call_range_1 (TR I1 Oo Oo d i (by simpa using q))
def aEz(wi:TI)(g:TG)(tb:TS):TS:=λD σ H=>wi σ H λJ H1=>∃W:Nat->Nat->St->Hp->Prop,(Y6A 0 m σ H1)/\∀i m σ H,W i m σ H ->
 (J.stop i H/\Y3m)\/(Y6B H/\∃N:St->Hp->Prop,Y9M (N σ' H'->∃m',m' < m/\W (i+1) m' σ' H') (Y6v H x H'->g x σ H' (Y4w ({ D with nx:=N,ct:=N,bk:=D.nx }))))
def AE(fp:Y0m)(h:Heap):Ad:=fp.filterMap λb=>(h.get? b).map λo=>(b,o)
def qF{fp:Y0m}{h:Heap}{b:Addr}{o:Obj}(hb:Y2p fp)(e:Y0M=Y5):(b,o)∈AE fp h:=List.mem_filterMap.mpr ⟨b,hb,by rw[e];rfl⟩
def PM{fp:Y0m}{h:Heap}{p:Addr × Obj}(hp:p∈AE fp h):p.1∈fp/\h.get? p.1=some p.2:=by
 obtain⟨b,c,e⟩:=List.mem_filterMap.mp hp;cases q:Y0M with
 | none=>rw[q]at e;cases e
 | some o =>
  rw[q]at e;have a:(b,o)=p:=gY e;subst a;exact⟨c,q⟩
def cF.pinned{pins:Ad}{σ:St}{H:Hp}{s:Shared}{fp:Y0m}(I:Y2)(hf:∀b∈fp,Y3x H b)(ho:∀b∈fp,∃o,Y2U/\∀v,o.data ≠ .cell v):Y1J (pins++AE fp s.heap) H s :=
 I.pins_of λp i=>(bQ.mp i).elim (λz=>Y5K (bY _ z)) λz=>by
  obtain⟨a,e⟩:=PM z;obtain⟨h,g,j,_⟩:=hf p.1 a;obtain⟨o,c,d⟩:=ho p.1 a;rw[e]at c;cases c;exact⟨e,h,g,j,d⟩
def cF.unpinned{pins pl:Ad}{σ:St}{H:Hp}{s:Shared}(I:Y1J (pins++pl) H s):Y2:=I.pins_of λp a=>Y5K (bY _ (cO _ a))
def aC8{iter:Expr}{body:Y3b}{wi:TI}{g:TG}{tb:TS}{pos:Pos}(hp:Yc5 X.A X.env X.xe)(hc:Y1V)(hi:PI X tg iter wi)(hg:PG X tg g)(hb:KS X body tb)
  (hs:∀x,Y7i x=Y7D:=by intro _;rfl):PS X (.For tg iter body [] pos) (aEz wi g tb):=by
 intro a s σ H D I h;refine wpAny_For (thn (hi a s σ H _ I h) λv s1 χ=>thn χ λθ s2 υ=>?_) hs;obtain⟨it,L,ε,J,H2,e,I2,T,Z,α,W,⟨ζ,w0⟩,O⟩:=υ;subst e;have l:∀{H':Hp},(∀b∈L,Y1q=none)->∀b∈L,pP X a H' b:=λhn b hb=>⟨hn b hb,(α b hb).2⟩;refine codeAny_forLoop_any (λn γ=>∃i σ' H',cF X a σ' H' γ/\ε i γ.heap/\(∀b∈L,Y1q=none)/\W i n σ' H') ?_ ζ ⟨0,σ,H2,I2,Z,λb hb=>(α b hb).1,w0⟩;rintro n δ ⟨i,C,H3,I3,P,G,ρ⟩;rcases O i n C H3 ρ with⟨M,qn⟩ | ⟨ψ,N,κ,step⟩
 ·refine Y9a hp (T.done X rfl rfl rfl hc i a δ C H3 X.xe I3 (l G) P M) (λr ι ⟨U,I4⟩=>?_);subst U;exact Ydx C H3 I4 qn
 ·refine Y9a hp (T.item X rfl rfl rfl hc i a δ C H3 X.xe I3 (l G) P ψ) (λr ι ⟨u,U,τ⟩=>?_);subst U;refine Y9a hp τ (λ_ β ⟨x,H5,I5,ο,y5,y,R⟩=>?_);have I5':=I5.pinned (l R) (T.obj _ _ y);refine Y9a hp (hg _ β C H5 x u _ I5' ο (step x H5 y5)) (λ_ ω ⟨σ6,H6,I6,μ⟩=>?_);refine Y9a hp (hb _ ω σ6 H6 _ I6 μ) (λf S p=>?_);have c:∀{j:St} {H7:Hp},cF X (a++AE L β.heap) j H7 S->N j H7->∃m,m<n/\∃i σ' H',cF X a σ' H' S/\ε i S.heap/\(∀b∈L,Y1q=none)/\W i m σ' H':=λ{j H7} I7 B=>by
   obtain⟨m',ν,φ⟩:=κ j H7 B;refine⟨m',ν,i+1,j,H7,I7.unpinned,T.keep _ _ _ y λb hb o e=>(I7.pin (b,o) (bY _ (bY _ (qF hb e)))).1,λb hb=>?_,φ⟩;obtain⟨o,e,d⟩:=T.obj _ _ y b hb;exact(I7.pin (b,o) (bY _ (bY _ (qF hb e)))).2.1
  cases f with
  | next=>obtain⟨j,H7,I7,B⟩:=p;exact c I7 B
  | cont=>obtain⟨j,H7,I7,B⟩:=p;exact c I7 B
  | brk=>obtain⟨j,H7,I7,p⟩:=p;exact⟨j,H7,I7.unpinned,p⟩
  | ret v=>obtain⟨ξ,j,H7,I7,η,p⟩:=p;exact⟨ξ,j,H7,I7.unpinned,η,p⟩
end
def jT{K:Aa}{a:Addr}{xs:Al}{g:TG}{tb:TS}{D:mH}{σ:St}{H:Hp}(Pv:Nat->Y1m)(h0:Y6c 0)(hl:∀i σ H,Y4Z i->Y2F->Y2I K H a)
  (hs:∀i x σ H,Y0t=Y9->Y2F->g x σ H (Y4w ({ D with nx:=Pv (i+1),ct:=Pv (i+1),bk:=D.nx }))) (hd:∀σ H,Yea->Y3m) :
  ∃W:Nat->Nat->St->Hp->Prop,(Y6A 0 m σ H)/\∀i m σ H,W i m σ H ->
   ((Itl K a).stop i H/\Y3m)\/((Itl K a).go i H/\∃N:St->Hp->Prop,Y9M (N σ' H'->∃m',m' < m/\W (i+1) m' σ' H') ((Itl K a).yld i H x H'->g x σ H' (Y4w ({ D with nx:=N,ct:=N,bk:=D.nx })))):=by
 refine YaM (m=Y51 i/\Y4Z i/\Y2F) ⟨xs.length,by simp,Y1z,h0⟩;rintro i m σ H ⟨rfl,d,p⟩;have q:=hl i σ H d p;by_cases hlt:Y4f i
 ·refine .inr ⟨⟨xs,xs[i],q,by simp[hlt]⟩,Pv (i+1),λσ' H' c=>Y0v (Y51 (i+1)) Oo hlt c,Ye4⟩;obtain⟨e,y⟩:=y;subst e;exact hs i x σ _ (y xs q) p
 ·have e:Y5E i:=Oo;subst e;exact Y3e ⟨xs,q,Yk⟩ (hd σ H p)
def oM{K:Aa}{a:Addr}{xs:Al}{g:TG}{tb:TS}{D:mH}{σ:St}{H:Hp}(Pv:Nat->Y1m)(h0:Y6c 0)(hl:∀i σ H,Y4Z i->Y2F->Y5o)
  (hs:∀i x σ H,Y0t=Y9->Y2F->g x σ H (Y4w ({ D with nx:=Pv (i+1),ct:=Pv (i+1),bk:=D.nx }))) (hd:∀σ H,Yea->Y3m) :
  ∃W:Nat->Nat->St->Hp->Prop,(Y6A 0 m σ H)/\∀i m σ H,W i m σ H ->
   ((Itt K a).stop i H/\Y3m)\/((Itt K a).go i H/\∃N:St->Hp->Prop,Y9M (N σ' H'->∃m',m' < m/\W (i+1) m' σ' H') ((Itt K a).yld i H x H'->g x σ H' (Y4w ({ D with nx:=N,ct:=N,bk:=D.nx })))):=by
 refine YaM (m=Y51 i/\Y4Z i/\Y2F) ⟨xs.length,by simp,Y1z,h0⟩;rintro i m σ H ⟨rfl,d,p⟩;have q:=hl i σ H d p;by_cases hlt:Y4f i
 ·refine .inr ⟨⟨xs,xs[i],q,by simp[hlt]⟩,Pv (i+1),λσ' H' c=>Y0v (Y51 (i+1)) Oo hlt c,Ye4⟩;obtain⟨e,y⟩:=y;subst e;exact hs i x σ _ (y xs q) p
 ·have e:Y5E i:=Oo;subst e;exact Y3e ⟨xs,q,Yk⟩ (hd σ H p)
def gH{lo:Int}{n:Nat}{g:TG}{tb:TS}{D:mH}{σ:St}{H:Hp}(Pv:Nat->Y1m)(h0:Y6c 0)
  (hs:∀i σ H,i<n->Y2F->g (.int (lo+i)) σ H (Y4w ({ D with nx:=Pv (i+1),ct:=Pv (i+1),bk:=D.nx }))) (hd:∀σ H,Y6c n->Y3m) :
  ∃W:Nat->Nat->St->Hp->Prop,(Y6A 0 m σ H)/\∀i m σ H,W i m σ H ->
   ((WU lo n).stop i H/\Y3m)\/((WU lo n).go i H/\∃N:St->Hp->Prop,Y9M (N σ' H'->∃m',m' < m/\W (i+1) m' σ' H') ((WU lo n).yld i H x H'->g x σ H' (Y4w ({ D with nx:=N,ct:=N,bk:=D.nx })))):=by
 refine YaM (m=n-i/\i<=n/\Y2F) ⟨n,by simp,Y1z,h0⟩;rintro i m σ H ⟨rfl,c,p⟩;by_cases hlt:i<n
 ·refine .inr ⟨hlt,Pv (i+1),λσ' H' a=>Y0v (n-(i+1)) Oo hlt a,Ye4⟩;obtain⟨e,y⟩:=y;subst e y;exact hs i σ _ hlt p
 ·have e:i=n:=Oo;subst e;exact Y3e Yk (hd σ H p)
abbrev R2:=V->V->(Hp->(Y18 VK))
def rX(X:Cx)(f:Value->Value->Y77)(r:R2):Prop :=
 ∀(pins:Ad) (s:Shared) (σ:St) (H:Hp) (x y:V) (v u:Value) (Q:VK),Y2->dN x v->Y3n->r x y H Q ->
  Y6t (f v u) X σ Q
def UnR(X:Cx)(f:Value->Y77)(r:V->(Hp->(Y18 VK))):Prop :=
 ∀(pins:Ad) (s:Shared) (σ:St) (H:Hp) (x:V) (v:Value) (Q:VK),Y2->dN x v->r x H Q ->
  Y6t (f v) X σ Q
def jU(X:Cx)(f:Value)(r:Y0W):Prop :=
 ∀(pins:Ad) (s:Shared) (σ:St) (H:Hp) (xs:Al) (us:Ag) (Q:VK),Y2->Y6y->r xs H Q ->
  Y6t (call f us) X σ Q
def YA(r:R2)(ta tb:TE):TE:=Ybq σ H (tb σ H1 λy H2=>r x y H2 Q)
def tUn(r:V->(Hp->(Y18 VK)))(ta:TE):TE:=Ybq σ H (r x H1 Q)
def rI(C:Y17 Int Int)(g:Int->Int->V):R2:=λx y H Q=>∃i j,x=Y07/\y=.int j/\C i j/\Q (g i j) H
def rI0(g:Int->Int->V):R2:=λx y H Q=>∃i j,x=Y07/\y=.int j/\Q (g i j) H
def rU(g:Int->V):V->(Hp->(Y18 VK)):=λx H Q=>∃i,x=Y07/\Q (g i) H
section
variable{X:Cx}{a b c:Expr}{ta tb tc:TE}{pos:Pos}
def aDZ(ha:Y6D a)(hb:Yj b tb){pins:Ad}{s:Shared}{σ:St}{H:Hp}{R:V->Y2E}(I:Y2)
  (h:ta σ H λx H1=>tb σ H1 λy H2=>R x y H2) {Q:Y8} {f:Value->Value->Y77}
  (hf:∀v u s2 x y H2,Y1N H2 s2->dN x v->Y3n->R x y H2->Y98 (f v u) Q s2) :
  Y4q (Y0g a) (λv s₁=>Y98 (Y0g b) (λu s₂=>Y98 (f v u) Q s₂) s₁):=by
 exact thn (ha pins s σ H _ I h) λv d ⟨x,H1,I1,i,e⟩=>thn (hb pins d σ H1 _ I1 e) λu s2 ⟨y,H2,I2,g,c⟩=>hf v u s2 x y H2 I2 i g c
def aEQ{op:Operator}{r:R2}(ho:Y49 X op r)(ha:Y6D a)(hb:Yj b tb):Yj (.BinOp a op b pos) (YA r ta tb):=by
 intro c s σ H Q I h;exact wpAny_BinOp (Yfq ha hb I h (ho c g σ H2 x y v u Q I2 d e q))
def aEP{op:UnaryOp}{r:V->(Hp->(Y18 VK))}(ho:UnR X (unaryOp op) r)(ha:Y6D a):Yj (YaT op a) (tUn r ta):=by
 intro c s σ H Q I h;exact UnaryOp_ (thn (ha c s σ H _ I h) λv d ⟨x,H1,I1,g,e⟩=>ho c d σ H1 x v Q I1 g e)
def opI{f:Value->Value->Y77}{C:Y17 Int Int}{g:Int->Int->Int}
  (rule:∀(i j:Int) (t u:Tok) (s:Shared) (Q:Y8) (E:Y8),C i j->Q (.int (g i j) s.toks) { s with toks:=s.toks+1 }->Y6R (f (Y7M t) (.int j u)) Q E s) :
  rX X f (rI C (Y8b (g i j))):=by
 intro a s σ H x y v u Q I c l h;obtain⟨i,j,rfl,rfl,e,q⟩:=h;obtain⟨t,rfl⟩:=c;obtain⟨d,rfl⟩:=l;exact rule i j t d s _ _ e ⟨.int (g i j),H,Y0S,Y1E,q⟩
def aEV{f:Value->Value->Y77}{g:Int->Int->Int}
  (rule:∀(i j:Int) (t u:Tok) (s:Shared) (Q:Y8) (E:Y8),Q (.int (g i j) s.toks) { s with toks:=s.toks+1 }->Y6R (f (Y7M t) (.int j u)) Q E s) :
  rX X f (rI0 (Y8b (g i j))):=by
 intro a s σ H x y v u Q I c e h;obtain⟨i,j,rfl,rfl,q⟩:=h;obtain⟨t,rfl⟩:=c;obtain⟨d,rfl⟩:=e;exact rule i j t d s _ _ ⟨.int (g i j),H,Y0S,Y1E,q⟩
def ZV{f:Value->Value->Y77}{g:Int->Y27 Int}
  (rule:∀(i j:Int) (t u:Tok) (s:Shared) (Q:Y8) (E:Y8),Q (.bool (g i j)) s->Y6R (f (Y7M t) (.int j u)) Q E s) :
  rX X f (rI0 (Ycm (g i j))):=by
 intro a s σ H x y v u Q I c e h;obtain⟨i,j,rfl,rfl,q⟩:=h;obtain⟨t,rfl⟩:=c;obtain⟨d,rfl⟩:=e;exact rule i j t d s _ _ (Y3Q (g i j) H I q)
def aHM(i j:Int):Prop:=0<=j/\j<=1000000/\Y2Y (2^64)
def eE:Y49 X .Add (rI0 (Y8b (i+j))):=aEV λ_ _ _ _ _ _ _ q=>add_int q
def wG:Y49 X .Sub (rI0 (Y8b (i-j))):=aEV λ_ _ _ _ _ _ _ q=>sub_int q
def nG:Y49 X .Mod (rI (λ_ j=>0<j) (Y8b (i % j))):=opI λi j _ _ _ _ _ a q=>by
 exact mod_int' Oo (by rw[Int.fmod_eq_emod_of_nonneg i Oo];exact q)
def aDm:Y49 X .Pow (rI aHM (Y8b (i^j.toNat))):=opI λ_ _ _ _ _ _ _ a q=>pow_int_small a.1 a.2.1 a.2.2 q
def unI{f:Value->Y77}{g:Int->Int}
  (rule:∀(i:Int) (t:Tok) (s:Shared) (Q:Y8) (E:Y8),Q (.int (g i) s.toks) { s with toks:=s.toks+1 }->Y6R (f (Y7M t)) Q E s) :
  UnR X f (rU λi=>.int (g i)):=by
 intro a s σ H x v Q I c h;obtain⟨i,rfl,q⟩:=h;obtain⟨t,rfl⟩:=c;exact rule i t s _ _ ⟨.int (g i),H,Y0S,Y1E,q⟩
def tI:UnR X (unaryOp .USub) (rU λi=>.int (-i)):=unI λ_ _ _ _ _ q=>neg_int q
end
def scal:V->Y27 V
 | .non,.non=>true | .non,.int _=>true | .int _,.non=>true | .non,.bl _=>true | .bl _,.non=>true | .non,.str _=>true | .str _,.non=>true
 | .int _,.int _=>true | .bl _,.bl _=>true | .str _,.str _=>true | .byt _,.byt _=>true
 | .int _,.str _=>true | .str _,.int _=>true | .bl _,.str _=>true | .str _,.bl _=>true
 | _,_=>false
def rEq:R2:=λx y H Q=>scal x y=true/\Y0H (Yr x y)
def rNe:R2:=λx y H Q=>scal x y=true/\Y0H (! Yr x y)
def NM{i j:Int}:Yr (V.int i) (V.int j)=(i == j):=by
 rw[Bool.eq_iff_iff];simp
def VR{i j:Bool}:Yr (V.bl i) (V.bl j)=(i == j):=by
 rw[Bool.eq_iff_iff];simp
def NL{i j:Str}:Yr (V.str i) (V.str j)=(i == j):=by
 rw[Bool.eq_iff_iff];simp
def NN{i j:Array UInt8}:Yr (V.byt i) (V.byt j)=(i.toList == j.toList):=by
 rw[Bool.eq_iff_iff];cases i;cases j;simp
section
variable{X:Cx}{a b c:Expr}{ta tb tc:TE}{pos:Pos}
def eO{pins:Ad}{σ:St}{H:Hp}{s:Shared}{Q:VK}{k k':Bool}(I:Y2)(q:Y0H k)(e:k=k'):EP X pins σ Q (.bool k') s:=by
 subst e;exact Y3Q k H I q
def sX:Y29 .Eq rEq:=by
 intro e s σ H x y v u Q I d a h;obtain⟨hs,q⟩:=h;cases x with
 | non =>
  cases d;cases y with
  | non=>cases a;exact PySem.EqNone.eq_none_none (Y0J (by simp))
  | bl j=>cases a;exact PySem.EqNone.eq_none_bool (Y0J (by simp))
  | int j=>obtain⟨c,rfl⟩:=a;exact PySem.EqNone.eq_none_int (Y0J (by simp))
  | str j=>obtain⟨c,rfl⟩:=a;exact PySem.EqNone.eq_none_str (Y0J (by simp))
  | _=>exact Y50 (show false=true from hs)
 | bl i =>
  cases d;cases y with
  | non=>cases a;exact PySem.EqNone.eq_bool_none (Y0J (by simp))
  | bl j=>cases a;exact eq_bool (Y0J VR)
  | str j=>obtain⟨c,rfl⟩:=a;exact PySem.EqMixed.eq_bool_str (Y0J (by simp))
  | _=>exact Y50 (show false=true from hs)
 | int i =>
  obtain⟨t,rfl⟩:=d;cases y with
  | non=>cases a;exact PySem.EqNone.eq_int_none (Y0J (by simp))
  | int j=>obtain⟨c,rfl⟩:=a;exact eq_int (Y0J NM)
  | str j=>obtain⟨c,rfl⟩:=a;exact PySem.EqMixed.eq_int_str (Y0J (by simp))
  | _=>exact Y50 (show false=true from hs)
 | str i =>
  obtain⟨t,rfl⟩:=d;cases y with
  | non=>cases a;exact PySem.EqNone.eq_str_none (Y0J (by simp))
  | bl j=>cases a;exact PySem.EqMixed.eq_str_bool (Y0J (by simp))
  | int j=>obtain⟨c,rfl⟩:=a;exact PySem.EqMixed.eq_str_int (Y0J (by simp))
  | str j=>obtain⟨c,rfl⟩:=a;exact eq_str (Y0J NL)
  | _=>exact Y50 (show false=true from hs)
 | byt i =>
  obtain⟨t,rfl⟩:=d;cases y with
  | byt j=>obtain⟨c,rfl⟩:=a;exact PySem.W.eq_bytes (Y0J NN)
  | _=>exact Y50 (show false=true from hs)
 | _=>cases y <;> exact Y50 (show false=true from hs)
def AJ:Y29 .NotEq rNe:=by
 intro e s σ H x y v u Q I d a h;obtain⟨hs,q⟩:=h;cases x with
 | non =>
  cases d;cases y with
  | non=>cases a;exact PySem.EqNone.ne_none_none (Y0J (by simp))
  | bl j=>cases a;exact PySem.EqNone.ne_none_bool (Y0J (by simp))
  | int j=>obtain⟨c,rfl⟩:=a;exact PySem.EqNone.ne_none_int (Y0J (by simp))
  | str j=>obtain⟨c,rfl⟩:=a;exact PySem.EqNone.ne_none_str (Y0J (by simp))
  | _=>exact Y50 (show false=true from hs)
 | bl i =>
  cases d;cases y with
  | non=>cases a;exact PySem.EqNone.ne_bool_none (Y0J (by simp))
  | bl j=>cases a;exact ne_bool (Y0J (Yex VR))
  | str j=>obtain⟨c,rfl⟩:=a;exact PySem.EqMixed.ne_bool_str (Y0J (by simp))
  | _=>exact Y50 (show false=true from hs)
 | int i =>
  obtain⟨t,rfl⟩:=d;cases y with
  | non=>cases a;exact PySem.EqNone.ne_int_none (Y0J (by simp))
  | int j=>obtain⟨c,rfl⟩:=a;exact ne_int (Y0J (Yex NM))
  | str j=>obtain⟨c,rfl⟩:=a;exact PySem.EqMixed.ne_int_str (Y0J (by simp))
  | _=>exact Y50 (show false=true from hs)
 | str i =>
  obtain⟨t,rfl⟩:=d;cases y with
  | non=>cases a;exact PySem.EqNone.ne_str_none (Y0J (by simp))
  | bl j=>cases a;exact PySem.EqMixed.ne_str_bool (Y0J (by simp))
  | int j=>obtain⟨c,rfl⟩:=a;exact PySem.EqMixed.ne_str_int (Y0J (by simp))
  | str j=>obtain⟨c,rfl⟩:=a;exact ne_str (Y0J (Yex NL))
  | _=>exact Y50 (show false=true from hs)
 | byt i =>
  obtain⟨t,rfl⟩:=d;cases y with
  | byt j=>obtain⟨c,rfl⟩:=a;exact PySem.W.ne_bytes (Y0J (Yex NN))
  | _=>exact Y50 (show false=true from hs)
 | _=>cases y <;> exact Y50 (show false=true from hs)
def AK:Y29 .Lt (rI0 (Ycm (Y2A i j))):=Ydt (lt_int q)
def aBc:Y29 .LtE (rI0 (Ycm (Y1D i j))):=Ydt (le_int q)
def xC:Y29 .Gt (rI0 (Ycm (Y2A j i))):=Ydt (gt_int q)
def ML:Y29 .GtE (rI0 (Ycm (Y1D j i))):=Ydt (ge_int q)
def nomark(b:Expr){op:CmpOp}(h:op ≠ .In:=by decide)(h2:op ≠ .NotIn:=by decide):YbX op b:=by
 have c:Y6 (op == CmpOp.In):=by cases op <;> first | rfl | exact Y4e h
 have a:Y6 (op == CmpOp.NotIn):=by cases op <;> first | rfl | exact Y4e h2
 cases b <;> simp[behindInMarks,c,a]
def ZQ{op:CmpOp}{r:R2}(ho:Y29 op r)(ha:Y6D a)(hb:Yj b tb)(hm:YbX op b):Yj (YaY a [op] [b]) (YA r ta tb):=by
 intro c s σ H Q I h;exact wpAny_Compare1 (Yfq ha hb I h (ho c g σ H2 x y v u Q I2 d e q)) hm
def aA0(t:TE):TT:=Y3t (λx H'=>∃k,x=.bl k/\Q k H')
def ZG{op:CmpOp}{r:R2}(ho:Y29 op r)(ha:Y6D a)(hb:Yj b tb)(hm:YbX op b):PT X (YaY a [op] [b]) (aA0 (YA r ta tb)):=by
 intro d s σ H Q I h;refine wpAny_isTrue_Compare1 (thn (ha d s σ H _ I h) λv A ⟨x,H1,I1,l,m⟩=>thn (hb d A σ H1 _ I1 m) λu i ⟨y,H2,I2,j,p⟩ =>
  thn (ho d i σ H2 x y v u _ I2 l j p) λc B ⟨z,H3,I3,w,k,e,g⟩=>?_) hm
 subst e;cases w;exact wpAny_truthy_bool ⟨H3,I3,g⟩
def SG(r r':R2)(ta tb tc:TE):TE:=λσ H Q=>ta σ H λx H1=>tb σ H1 λy H2=>r x y H2 λz H3=>∃k,z=.bl k /\
 (if k=true then tc σ H3 λw' H4=>r' y w' H4 Q else Q (.bl false) H3)
def UF{op op':CmpOp}{r r':R2}(ho:Y29 op r)(ho':Y29 op' r')(ha:Y6D a)(hb:Yj b tb)(hc:Yj c tc)
  (hm:Y6 (lastMarks [op,op'] [b,c]):=by with_unfolding_all rfl):Yj (YaY a [op,op'] [b,c]) (SG r r' ta tb tc):=by
 intro g s σ H Q I h;refine Compare_chain (thn (ha g s σ H _ I h) λv M ⟨x,H1,I1,w,A⟩=>chain_link (thn (hb g M σ H1 _ I1 A) λu m ⟨y,H2,I2,j,D⟩ =>
  thn (ho g m σ H2 x y v u _ I2 w j D) λd C ⟨z,H3,I3,J,k,e,i⟩=>?_)) hm
 subst e;cases J;refine wpAny_truthy_bool ?_;cases k with
 | false=>exact ite_ff (Y3Q false H3 I3 i)
 | true=>exact ite_tt (chain_last (thn (hc g C σ H3 _ I3 i) λl G ⟨B,H4,I4,L,p⟩=>ho' g G σ H4 y B u l Q I4 j L p))
def JY:(sizeLine:Nat)<2^63:=by rw[sizeLine_eq];decide
def nV{x:V}{us:Ag}(r:Y1T [x]):∃u,us=[u]/\dN x u:=by
 cases r with
 | cons r1 r2=>cases r2;exact Y1 r1
def LM{x y:V}{us:Ag}(r:Y1T [x,y]):∃u w',us=[u,w']/\dN x u/\dN y w':=by
 cases r with
 | cons r1 r2 =>
  cases r2 with
  | cons r3 r4=>cases r4;exact Y3y r1 r3
def WA:Y35 "abs" (λxs H Q=>∃i,xs=[Y07]/\Y45 (if i<0 then -i else i)):=by
 intro a s σ H xs d Q I r h;obtain⟨i,rfl,q⟩:=h;obtain⟨u,rfl,t,rfl⟩:=nV r;exact call_abs_int λu c=>⟨.int (if i<0 then -i else i),H,Y0S,Y1E,q⟩
def aFm(K:Aa)(x:V)(H:Hp)(n:Nat):Prop :=
 match x with
 | .str y=>y.length<=sizeLine/\n=y.length
 | .byt y=>y.size<=sizeLine/\n=y.size
 | .ref p=>(∃xs,hU K H p xs/\n=xs.length)\/∃xs,fS K H p xs/\n=xs.length
 | _=>False
def VZ:Y35 "len" (λxs H Q=>∃x n,xs=[x]/\aFm X.K x H n/\Y45 n):=by
 intro m s σ H xs B Q I r h;obtain⟨x,n,rfl,e,q⟩:=h;obtain⟨u,rfl,d⟩:=nV r;have hs:sizeLine=16777216:=sizeLine_eq;cases x with
 | str y =>
  obtain⟨t,rfl⟩:=d;obtain⟨A,c⟩:Y0h y.length/\n=y.length:=e;subst c;exact len_str Oo ⟨.int _,H,Y0S,Y1E,q⟩
 | byt y =>
  obtain⟨t,rfl⟩:=d;obtain⟨A,c⟩:Y0h y.size/\n=y.size:=e;subst c;exact PySem.W.len_bytes Oo ⟨.int _,H,Y0S,Y1E,q⟩
 | ref p =>
  cases d;have c:(∃xs,Y2I X.K H p/\Y5E n)\/∃xs,fS X.K H p xs/\Y5E n:=e;rcases c with⟨xs,g,c⟩ | ⟨xs,g,c⟩
  ·subst c;obtain⟨i,j,l,w⟩:=I.list g;have a:=j.length;exact Calls.call_len_list l.isList (by simp only[bF];exact Oo) ⟨.int xs.length,H,Y0S,Y0p (by simp only[bF];rw[a]),q⟩
  ·subst c;obtain⟨i,j,l,w⟩:=I.tuple g;have a:=j.length;exact len_tuple l (by simp only[bF];exact Oo) ⟨.int xs.length,H,Y0S,Y0p (by simp only[bF];rw[a]),q⟩
 | _=>exact(show False from e).elim
end
structure aD8(h:Heap)(x dx C:Addr)(mA:Y03):Prop where
 obj:h.get? x=some (PySem.W.instObj C dx)
 ns:h.Ns1 dx mA
 ne:dx≠x
def CM{h:Heap}{dx:Addr}{mA:Y03}(n:h.Ns1 dx mA):∃od,h.get? dx=some od/\∀name,PySem.W.lookIn name od=some (mA name):=by
 obtain⟨o,d,p,i,hd,g,_,m⟩:=n;refine Y0P i (λname=>?_);have e:=m name;unfold nsFind findBy at e;rw[<-Array.find?_toList]at e;unfold PySem.W.lookIn;rw[hd];dsimp only;split
 ·rename_i y q
  rw[q]at e;exact congrArg some e
 ·rename_i q
  rw[q]at e;have a:Y6 (d.toList.any (·.refKey)):=by
   rw[List.any_eq_false];intro y l;obtain⟨z,t,c⟩:=g y (Array.mem_toList_iff.mp l);simp[DictEntry.refKey,c]
  have j:¬d.toList.any (·.refKey)=true:=by rw[a];exact bZ
  rw[if_neg j];exact congrArg some e
def aD8.look{h:Heap}{x dx C:Addr}{mA:Y03}(I:aD8 h x dx C mA):∃od,PySem.W.InstAt h x (PySem.W.instObj C dx) C (some od)/\∀name,PySem.W.lookIn name od=some (mA name) :=
 let ⟨od,ho,hl⟩:=CM I.ns
 ⟨od,Y4Q I.obj rfl ho,hl⟩
section
variable{prog:Program}{w:World}{A:Around}{E:Y8}{s:Shared}{K:Aa}{x dx C f:Addr}{mA:Y03}{name:Str}{v:Value}
end
def xP(f:Str)(v:V):Y1M V->Y1M V
 | []=>[(f,v)]
 | (g,x)::r=>if g=f then(g,v)::r else(g,x)::xP f v r
theorem xE(f g:Str)(v:V):∀fs:List (Str × V),(xP f v fs).lookup g=if g=f then Yq else fs.lookup g
 | []=>by
  show List.lookup g [(f,v)]=_;by_cases h:g=f
  ·have hb:(g == f)=true:=iM.mpr h;simp only[List.lookup,hb,if_pos h]
  ·have hb:(g == f)=false:=beq_eq_false_iff_ne.mpr h;simp only[List.lookup,hb,if_neg h]
 | (k,x)::r=>by
  have a:=xE f g v r;rw[show xP f v ((k,x)::r)=(if k=f then(k,v)::r else(k,x)::xP f v r)from rfl];by_cases hk:k=f
  ·rw[if_pos hk];by_cases h:g=k
   ·have hb:(g == k)=true:=iM.mpr h;simp only[List.lookup,hb,if_pos (h.trans hk)]
   ·have hb:(g == k)=false:=beq_eq_false_iff_ne.mpr h;simp only[List.lookup,hb,if_neg (λe:g=f=>h (e.trans hk.symm))]
  ·rw[if_neg hk];by_cases h:g=k
   ·have hb:(g == k)=true:=iM.mpr h;simp only[List.lookup,hb,if_neg (λe:g=f=>hk (h.symm.trans e))]
   ·have hb:(g == k)=false:=beq_eq_false_iff_ne.mpr h;simp only[List.lookup,hb];exact a
theorem wJ(f:Str)(v:V):∀fs:List (Str × V),f∈(xP f v fs).map (·.1)/\∀g,g∈fs.map (·.1)->g∈(xP f v fs).map (·.1)
 | []=>⟨by simp[xP],λg h=>by simp at h⟩
 | (k,x)::r=>by
  obtain⟨i1,i2⟩:=wJ f v r;rw[show xP f v ((k,x)::r)=(if k=f then(k,v)::r else(k,x)::xP f v r)from rfl];by_cases hk:k=f
  ·rw[if_pos hk];subst hk;exact⟨by simp,λg h=>by simpa using h⟩
  ·rw[if_neg hk];refine⟨?_,λg h=>?_⟩
   ·rw[bC];exact aQ _ i1
   ·rw[bC]at h ⊢;rcases aK.mp h with e | e
    ·exact aK.mpr (.inl e)
    ·exact aQ _ (i2 g e)
def qY.some_of{v:V}{o:Y7P}(r:qY (Yq) o):∃u,o=Yt/\Y2G:=by
 cases o with
 | none=>exact(show False from r).elim
 | some u=>exact Y0Q u r
def QB{v:V}{u:Value}(r:Y2G):PySem.W.handedIn u=true:=by
 cases v with
 | non=>cases(show u=Value.none from r);rfl
 | bl b=>cases(show u=Value.bool b from r);rfl
 | int i=>obtain⟨t,e⟩:=(show ∃t,u=Value.int i t from r);cases e;rfl
 | str x=>obtain⟨t,e⟩:=(show ∃t,u=Value.str x t from r);cases e;rfl
 | byt b=>obtain⟨t,e⟩:=(show ∃t,u=Value.bytes b t from r);cases e;rfl
 | flt b=>obtain⟨t,e⟩:=(show ∃t,u=Value.float b t from r);cases e;rfl
 | ref a=>cases(show u=Value.ref a from r);rfl
 | ty n=>cases(show u=Value.type n from r);rfl
section
variable{P:Program}{w:World}{H H':Hp}{h h':Heap}{a C dx:Addr}{fs fs':Y1M V}
def aAm(hok:Y2a)(e:H a=some (.ins C dx fs)):∃mA,aD8 h a dx C mA/\(∀f,qY (Ycg) (mA f))/\YdU (fs.map (·.1))/\Y9D 1000/\H dx=Y72 a:=by
 obtain⟨d,z,ne,c,mA,n,r,q⟩:=(show dU P w H h a (.ins C dx fs)from hok a _ e);exact⟨mA,⟨c,n,ne⟩,r,q,z,d⟩
end
structure Cls(K:Aa)(C:Addr):Prop where
 pg:PySem.W.plainGet K C Str.empty=true
 hd:PySem.W.hasDictIn K C=true
 po:PySem.W.plainOver K C=true
 sa:YdV Yp "__setattr__" = Y4d "object.__setattr__"
def Cls.get{K:Aa}{C:Addr}(c:Cls K C)(f:Str):PySem.W.plainGet K C f=true:=c.pg
def wV(K:Aa)(C:Addr)(f:Str):Prop:=YdV Yp f=Y12
section
variable{X:Cx}{pins:Ad}{σ:St}{H:Hp}{s:Shared}{a C dx:Addr}{fs:Y1M V}{f:Str}{v:V}{A:Around}{E:Y8}
def aAJ{prog:Program}{w:World}{env:Env}{e:Expr}{f:Str}{pos:Pos}{s:Shared}{Q:Y8}(hb:attributeBase e f env (Y1S e)=Y1S e)
  (h:wpAny (model prog w) A (Y1S e) (λo s₁=>wpAny (model prog w) A (getAttr o f true) Q E s₁) E s):Y0U (Y1S (.Attribute e f pos)) :=
 Attribute_any_ h (by rw[arm_eval_Attribute,hb])
end
section
variable{X:Cx}{o e value:Expr}{f:Str}{pos pos' tpos:Pos}{ta tv:TE}
end
section
variable{X:Cx}{pins:Ad}{σ:St}{H:Hp}{s:Shared}{A:Around}{E:Y8}{Q:Y8}{c:Value}{b:Bool}
inductive wT (K:Aa) (H:Hp):Y17 V Value where
 | non:Y69 K H .non "NoneType"
 | bl (x:Bool):Y69 K H (.bl x) "bool"
 | int (i:Int):Y69 K H Y07 "int"
 | str (x:Str):Y69 K H Y8W "str"
 | flt (x:UInt64):Y69 K H (.flt x) "float"
 | lst {a:Addr} {xs:Al} (e:H a=Y0y):Y69 K H Y7 "list"
 | frz {a:Addr} {o:Obj} {xs:Al} (e:H a=Y8g o (.lst xs)):Y69 K H Y7 "list"
 | tup {a:Addr} {xs:Al} (e:H a=Y0O):Y69 K H Y7 "tuple"
 | dK {a:Addr} {kvs:Y26} (e:H a=Yaf):Y69 K H Y7 "dict"
 | dT {a:Addr} {kvs:Y04} (e:H a=Y25):Y69 K H Y7 "dict"
 | ins {a C dx:Addr} {fs:Y1M V} (e:H a=some (.ins C dx fs)) (cl:Cls K C) (ha:YdV Yp "__class__" = Y4d "object.__class__")
   (hn:PySem.W.specialIn K (.builtin "object.__class__") "__get__" = Y4d "getset_descriptor.__get__") (htk:PySem.W.takesIn K (.builtin "object.__class__")=Y2e)
   (hm:PySem.W.mroIn K C (.type "object")=Y2e):wT K H (Y7) (Yp)
def PY{x:V}{u t:Value}(I:Y2)(rx:dN x u)(ty:wT X.K H x t)(e:PySem.W.kitOne X.K t c=Y5Q)(h:∀tk,Q (.bool b) { s with toks:=tk }) :
  Y6L A (Y84 "isinstance" [u,c]) Q E s:=by
 cases ty with
 | non=>cases(show u=Value.none from rx);exact Yci PySem.W.kitx_none e (λz=>nomatch z) h
 | bl y=>cases(show u=Value.bool y from rx);exact Yci PySem.W.kitx_bool e (λz=>nomatch z) h
 | int i=>obtain⟨t,q⟩:=(show ∃t,u=Value.int i t from rx);cases q;exact Yci PySem.W.kitx_int e (λz=>nomatch z) h
 | str y=>obtain⟨t,q⟩:=(show ∃t,u=Value.str y t from rx);cases q;exact Yci PySem.W.kitx_str e (λz=>nomatch z) h
 | flt y=>obtain⟨t,q⟩:=(show ∃t,u=Value.float y t from rx);cases q;exact Yci PySem.W.kitx_float e (λz=>nomatch z) h
 | @lst a g ea =>
  cases(show u=Value.ref a from rx);obtain⟨_,_,n,_,d⟩:=(show dU X.prog X.w H s.heap a (.lst g)from I.hok a _ ea);exact Y7R PySem.W.kitx_list (Y0j d) e (λz=>nomatch z) h
 | @frz a ob g ea =>
  cases(show u=Value.ref a from rx);obtain⟨_,_,_,n,_,d⟩:=(show dU X.prog X.w H s.heap a (.frz ob (.lst g))from I.hok a _ ea);exact Y7R PySem.W.kitx_list (Y0j d) e (λz=>nomatch z) h
 | @tup a g ea =>
  cases(show u=Value.ref a from rx);obtain⟨_,_,_,p⟩:=(show dU X.prog X.w H s.heap a (.tup g)from I.hok a _ ea);obtain⟨o,d,j,_⟩:=p;exact Y7R PySem.W.kitx_tuple (Y0P d j) e (λz=>nomatch z) h
 | @dK a kvs ea =>
  cases(show u=Value.ref a from rx);obtain⟨_,_,B,_,p⟩:=(show dU X.prog X.w H s.heap a (.dK kvs)from I.hok a _ ea);obtain⟨o,l,m,d,j,_⟩:=p;exact Y7R PySem.W.kitx_dict (Y0P d j.1) e (λz=>nomatch z) h
 | @dT a kvs ea =>
  cases(show u=Value.ref a from rx);obtain⟨_,_,g,_,o,l,m,d,j,_⟩:=(show dU X.prog X.w H s.heap a (.dT kvs)from I.hok a _ ea);exact Y7R PySem.W.kitx_dict (Y0P d j.1) e (λz=>nomatch z) h
 | @ins a C dx fs ea cl ha hn htk hm =>
  cases(show u=Value.ref a from rx);obtain⟨r,O,_⟩:=aAm I.hok ea;obtain⟨D,J,_⟩:=O.look;exact Y7R (PySem.W.kitx_own (cl.get _) cl.hd ha hn htk hm) J e (λz=>nomatch z) h
end
structure iJ(k:Nat)(A:Around):Prop where
 hd:Y4i
 dp:A.depth+3*k+5<recursionLimit
 un:Y7y (16*k)+200<cLine
 gd:A.guards=some []
def iJ.mono{j k:Nat}{A:Around}(r:iJ k A)(h:j<=k):iJ j A:=⟨r.hd,by have:=r.dp;exact Oo,by have:=r.un;exact Oo,r.gd⟩
theorem iJ.deeper{k:Nat}{A:Around}(r:iJ (k+1) A)(env:Env):iJ k (A.deeper env) :=
 ⟨r.hd,by have:=r.dp;show A.depth+1+3*k+5<_;exact Oo,by have:=r.un;show Y7y 3+16*k+200<_;exact Oo,r.gd⟩
def JX{A:Around}{C:Addr}{us:Ag}{kw:Yb7}:(Yaw "type.__call__" ⟨Yp::us,kw⟩).depth=A.depth+1:=by
 first | rfl | simp[Around.under,Code.weight,Code.isCreation,Code.isGuard,Code.isCaller,Code.frames,Code.isFrame,guardIds]
def JW{A:Around}{C:Addr}{us:Ag}{kw:Yb7}:(Yaw "type.__call__" ⟨Yp::us,kw⟩).units=Y7y 1:=by
 first | rfl | simp[Around.under,Code.cUnits,Code.frames,Code.isFrame]
def iJ.make{k:Nat}{A:Around}(r:iJ (k+1) A)(C:Addr)(us:Ag)(kw:Yb7):iJ k (Yaw "type.__call__" ⟨Yp::us,kw⟩) :=
 ⟨r.hd,by have:=r.dp;rw[JX];exact Oo,by have:=r.un;rw[JW];exact Oo,by first | exact r.gd | (simpa[Around.under,Code.guards,Code.isGuard,guardIds,pushGuards]using r.gd)⟩
theorem iJ.depth{k:Nat}{A:Around}(r:iJ k A):A.depth<recursionLimit:=by have:=r.dp;exact Oo
theorem iJ.units{k:Nat}{A:Around}(r:iJ k A):Y7y 64<cLine:=by have:=r.un;exact Oo
def GG:TA:=λ_ H Q=>Q [] H
def mX(ta:TE)(tr:TA):TA:=Ybq σ H (tr σ H1 λxs H2=>Q (x::xs) H2)
section
variable{X:Cx}{e:Expr}{es:Yz}{te:TE}{t:TA}{pos:Pos}
def pa_nil:PA X [] GG:=λ_ _ _ _ H Q I h=>Calls.spliced_nil ⟨[],H,I,.nil,h⟩
def ZT(ha:Yj e te)(hr:PA X es t)(hs:Y42=(false,Y1p)::Y2W:=by rfl):PA X (e::es) (mX te t):=by
 intro pos a s σ H Q I h;rw[hs];show Y32 (spliced ((false,Y1p)::backTo pos (Y2W)));refine Calls.spliced_cons (thn (ha a s σ H _ I h) λu l ⟨x,H1,I1,d,g⟩=>?_);exact thn (hr pos a l σ H1 _ I1 g) λp m ⟨j,H2,I2,c,i⟩=>⟨x::j,H2,I2,.cons d c,i⟩
def aFE(t:TA):TE:=Y3t (λxs H1=>Y4T/\∀p,H1 p=none->Y44 (upd H1 p (.tup xs)))
def aFG(t:TA):TE:=Y3t (λxs H1=>Y4T/\∀p,H1 p=none->Y44 (Y1s H1 p xs))
def aDe{x1}(h:PA X es t):Yj (.Tuple es x1 pos) (aFE t):=by
 intro a s σ H Q I g;refine wpAny_Tuple_spliced (thn (h pos a s σ H _ I g) λd c ⟨i,H1,I1,r,z,q⟩=>Y02 (by rw[<-r.length];exact z));have j:H1 c.heap.objs.size=none:=Yfn;refine Y3z Yda (upd H1 c.heap.objs.size (.tup i)) (YfC c.toks (λb u e=>Y2D) ?_) (q _ j);exact⟨⟨z,_,Y14,rfl⟩,d,r,Y0v _ Y14 _ rfl⟩
def aDh(h:PA X es t):Yj (.List es pos) (aFG t):=by
 intro a s σ H Q I g;refine wpAny_List_spliced (thn (h pos a s σ H _ I g) λd c ⟨i,H1,I1,r,z,q⟩=>Y02 (by rw[<-r.length];exact z));have j:H1 c.heap.objs.size=none:=Yfn;refine Y3z Yda (Y1s H1 c.heap.objs.size i) (YfC c.toks (λb u e=>Y2D) ?_) (q _ j);exact⟨z,d,0,r,Y14⟩
end
abbrev Sp:=Yi
abbrev LB:=Y1t->Hp->Shared->XK->Y8
structure LA(P:Program)(w:World)(K:Aa)(mg:Y03)(base:Heap)(A:Around)(outer:Y1t)(s:Shared)(H:Hp):Prop where
 frames:A.frames=some outer
 mod:Mod K mg base
 bs:Y0I (base.get? b=Y5) (Y2U/\H b=none)
 bsz:base.objs.size<=s.heap.objs.size
 funs:Ydf outer
 frf:∀b∈frs outer,H b=none
 hok:mD P w H s.heap
 bare:AllBare s.gens
def CE(outer:Y1t)(P:Program)(w:World)(H:Hp)(s:Shared)(Q:VK)(u:Value)(s':Shared):Prop :=
 ∃v H',s'.os=s.os/\YaB/\Y8J (frs outer) [] H H' s'.heap/\mD P w H' s'.heap/\Y2G/\Y0Z
def CR(CX:LB)(outer:Y1t)(P:Program)(w:World)(H:Hp)(s:Shared)(Q:VK)(E:XK)(r:Result)(s':Shared):Prop :=
 match r with
 | .ok (.ret u)=>CE outer P w H s Q u s'
 | .ok _=>False
 | .error e=>CX outer H s E e s'
structure cX(P:Program)(w:World)(K:Aa)(mg:Y03)(base:Heap)(CX:LB)(k:Nat)(f:Addr)(fd:FuncData)(ps:Ah)(sp:Sp):Prop where
 len:∀vs H Q E,sp vs H Q E->Y9n
 run:∀(A:Around) (outer:Y1t) (s:Shared) (H:Hp) (args:Args) (us:Ag) (vs:Al) (Q:VK) (E:XK),iJ k A->LA P w K mg base A outer s H->Ybe s args Yb4->Y7F->sp vs H Q E ->
  Y70 (model P w) A (.ref f) args (CR CX outer P w H s Q E) s
def LA.make{P:Program}{w:World}{K:Aa}{mg:Y03}{base:Heap}{A:Around}{outer:Y1t}{s:Shared}{H:Hp}(e:LA P w K mg base A outer s H)(C:Addr)(us:Ag)(kw:Yb7) :
  LA P w K mg base (Yaw "type.__call__" ⟨Yp::us,kw⟩) outer s H:=⟨by first | exact e.frames | (simpa[Around.under,Code.envs,Code.isFrame,pushEnvs]using e.frames),e.mod,e.bs,e.bsz,e.funs,e.frf,e.hok,e.bare⟩
section
variable{X:Cx}{pins:Ad}{σ:St}{H:Hp}{s s':Shared}
def cF.env0(I:Y2):LA X.prog X.w X.K X.mg X.base X.A X.stack s H :=
 ⟨I.ok.frames,I.ok.mod,I.bs,YeG I.sz,I.stack,I.stkFree,I.hok,I.bare⟩
def cF.after{Q:VK}{u:Value}(I:Y2)(h:CE X.stack X.prog X.w H s Q u s'):EP X pins σ Q u s':=by
 obtain⟨v,H',os,a,un,e,r,q⟩:=h;obtain⟨i,g,d,t,c⟩:=s';obtain rfl:c=s.os:=os;exact⟨v,H',I.call (h':=i) (g':=g) (d':=d) (t':=t) (ch:=[]) un e a (λb z=>Y8y (by simp)),r,q⟩
end
def zM(sp:Sp)(dvs:Al)(E:XK)(t:TA):TE:=Y3t (λvs H1=>sp (vs++dvs) H1 Q E)
def vN(K:Aa)(fd:FuncData)(ps:Ah)(ds:Ag):Prop :=
 ∀(s:Shared) (us:Ag),Y3F->(us++ds).length=ps.length->Ybe s ⟨us,[]⟩ (ps.zip (us++ds))
def vN.all{K:Aa}{fd:FuncData}{ps:Ah}(h:∀us:Ag,Y79 ps.length->bindArgs fd ⟨us,[]⟩=pure (Yb4)):vN K fd ps []:=λs us _ a=>by
 rw[List.append_nil]at a ⊢;exact .of_eq (h us a)
def KP(CX:LB)(X:Cx)(E:XK):Prop:=∀(pins:Ad) (σ:St) (H:Hp) (s:Shared) (e:Value) (s':Shared),Y2->CX X.stack H s E e s'->X.xe e s'
section
variable{X:Cx}{CX:LB}{k:Nat}{f C:Addr}{fd:FuncData}{ps:Ah}{sp:Sp}{dvs:Al}{ds:Ag}{E:XK}{x m:Str}{p pos apos:Pos}{e o:Expr}{es:Yz}{ta:TE}{t:TA}
def aCY{pins:Ad}{σ:St}{H:Hp}{s:Shared}{Q:VK}{us:Ag}{vs:Al}(F:cX X.prog X.w X.K X.mg X.base CX k f fd ps sp)(hr:Y5d k)(hb:vN X.K fd ps ds)(hd:dG dvs ds)(hx:KP CX X E)
  (I:Y2) (r:Y7F) (h:sp (vs++dvs) H Q E):Y6t (Ycw f us) X σ Q:=by
 have c:dG (vs++dvs) (us++ds):=r.append hd;have g:(us++ds).length=ps.length:=by rw[<-c.length];exact F.len _ _ _ _ h
 refine Yf4 (F.run X.A X.stack s H ⟨us,[]⟩ (us++ds) (vs++dvs) Q E hr I.env0 (hb s us I.kIn g) c h) (λr d a=>?_);cases r with
 | error e=>exact hx pins σ H s e d I a
 | ok fl =>
  cases fl with
  | ret u=>exact I.after a
  | next=>exact False.elim a
  | brk=>exact False.elim a
  | cont=>exact False.elim a
def ZR(F:cX X.prog X.w X.K X.mg X.base CX k f fd ps sp)(hr:Y5d k)(hg:Y1L)(hm:Y3T=Y4 f)(hk:YbG X.K f=true)(hb:vN X.K fd ps ds)(hd:dG dvs ds)(hx:KP CX X E)
  (ha:PA X (e::es) t) (hdb:Y0Y ("__debug__" : Str):=by decide) (he:Y42=(false,Y1p)::Y2W:=by rfl) (hpl:Y6 ((backTo pos (starEach es X.env)).any (·.1)):=by rfl) :
  Yj (.Call (Y94 p) (e::es) [] pos) (zM sp dvs E t):=by
 intro a s σ H Q I h;refine YfD I hg hm ?_ hdb;refine YeV X.base hk (thn (ha pos a s σ H _ I h) λd g ⟨c,H1,I1,r,q⟩=>Y02 I1.kIn) he hpl;exact aCY F hr hb hd hx I1 r q
end
section
variable{X:Cx}{CX:LB}{k:Nat}{f C:Addr}{fd:FuncData}{ps ks:Ah}{sp:Sp}{E:XK}{x m:Str}{p pos apos kpos:Pos}{e o:Expr}{es:Yz}{kws:List Keyword}{te ta:TE}{t tk:TA}{nm:Option Str}
variable{g:Ag->Ag->Ag}{gV:Al->Al->Al}
end
structure bO(N P:Ah)(sc:Scope):Prop where
 kind:sc.kind=.function:=by rfl
 co:Y6 sc.isCoroutine:=by rfl
 gen:Y6 sc.isGenerator:=by rfl
 nd:N.Nodup:=by exact Kk
 pre:N.take P.length=P:=by rfl
 par:∀x∈P,Y80=Y1A\/Y80=Y4X:=by exact Kk
 nofree:∀y∈sc.names,y.2 ≠ .free:=by exact Kk
theorem DD{kindOf:Str->YdL}{x:Str}:∀{binds:Yb7}{m:Y03},(∀v,(x,v) ∉ binds)->bindL kindOf binds m x=m x
 | [],_,_=>rfl
 | (n,v)::r,m,h=>by
  unfold bindL;rw[DD λw hw=>h w (aQ _ hw)];split
  ·have:x≠n:=by rintro rfl;exact h v aG
   simp[this]
  ·rfl
theorem DF{kindOf:Str->YdL}{x:Str}:∀{binds:Yb7}{m:Y03},(∀v,(x,v) ∉ binds)->bindC kindOf binds m x=m x
 | [],_,_=>rfl
 | (n,v)::r,m,h=>by
  unfold bindC;rw[DF λw hw=>h w (aQ _ hw)];split
  ·rfl
  ·have:x≠n:=by rintro rfl;exact h v aG
   simp[this]
theorem DE{kindOf:Str->YdL}{x:Str}{v:Value}:∀{P:Ah}{vs:Ag}{i:Nat}{m:Y03},P.Nodup->P[i]?=Y9->vs[i]?=Yq->kindOf x=Y1A ->
  bindL kindOf (P.zip vs) m x=Yq
 | [],_,_,_,_,h,_,_=>by simp at h
 | _::_,[],_,_,_,_,h,_=>by simp at h
 | p::P,w::vs,0,m,nd,h1,h2,hk=>by
  simp at h1 h2;subst h1;subst h2;show bindL kindOf ((p,w)::P.zip vs) m p=_;unfold bindL;rw[DD λv hv=>(List.nodup_cons.mp nd).1 (List.of_mem_zip hv).1,if_pos hk];simp
 | p::P,w::vs,i+1,m,nd,h1,h2,hk=>by
  show bindL kindOf ((p,w)::P.zip vs) m x=_;unfold bindL;exact DE (i:=i) (List.nodup_cons.mp nd).2 (by simpa using h1) (by simpa using h2) hk
theorem DG{kindOf:Str->YdL}{x:Str}{v:Value}:∀{P:Ah}{vs:Ag}{i:Nat}{m:Y03},P.Nodup->P[i]?=Y9->vs[i]?=Yq->kindOf x≠Y1A ->
  bindC kindOf (P.zip vs) m x=Yq
 | [],_,_,_,_,h,_,_=>by simp at h
 | _::_,[],_,_,_,_,h,_=>by simp at h
 | p::P,w::vs,0,m,nd,h1,h2,hk=>by
  simp at h1 h2;subst h1;subst h2;show bindC kindOf ((p,w)::P.zip vs) m p=_;unfold bindC;rw[DF λv hv=>(List.nodup_cons.mp nd).1 (List.of_mem_zip hv).1,if_neg hk];simp
 | p::P,w::vs,i+1,m,nd,h1,h2,hk=>by
  show bindC kindOf ((p,w)::P.zip vs) m x=_;unfold bindC;exact DG (i:=i) (List.nodup_cons.mp nd).2 (by simpa using h1) (by simpa using h2) hk
def start(N:Ah)(vs:Al):St:=(vs.map some) ++ (Ye5 N.length vs.length none)
def oQ(CX:LB)(P:Program)(w:World)(K:Aa)(mg:Y03)(base:Heap)(N:Ah)(qual:Str)(scope:Scope)(f:Addr)(cd:Value)(A:Around)(outer:Y1t)(s:Shared)(H:Hp)(E:XK):Cx where
 prog:=P
 w:=w
 K:=K
 mg:=mg
 base:=base
 A:=Y9p qual scope f cd
 N:=N
 s₀:=s
 H₀:=H
 env:=Ybz qual f cd
 outer:=outer
 stack:=Ybz qual f cd::outer
 ex:=[]
 calm:=true
 fn:=YeJ
 pn:=[]
 xe:=λe s'=>wpAny (model P w) (Y9p qual scope f cd) (leaving (Ybz qual f cd) e) (λ_ s''=>CX outer H s E e s'') (λe' s''=>CX outer H s E e' s'') s'
def IF{sc:Scope}{n:Nat}{x:Str}(h:Y80=Y4X):∃c,(cellsFrom n sc.names []).lookup x=Y0c:=by
 have q:=PySem.W.cellsFrom_some sc.names n [] (Y8R);exact Option.isSome_iff_exists.mp q
def PZ{CX:LB}{P:Program}{w:World}{K:Aa}{mg:Y03}{base:Heap}{N ps:Ah}{qual:Str}{scope:Scope}{f:Addr}{cd:Value}{A:Around}{outer:Y1t}{s s1:Shared}{H:Hp}{E:XK}{us:Ag}{vs:Al}
  (S:bO N ps scope) (hd:Y4i) (e0:LA P w K mg base A outer s H) (hl:Y9n) (r:Y7F)
  (x:InCallC s s.heap.objs.size (bindL (Ybz qual f cd).kindOf (Yb4) Ycu) (cellsFrom (Y3C 1) scope.names []) (bindC (Ybz qual f cd).kindOf (Yb4) Ycu) s1) :
  cF (oQ CX P w K mg base N qual scope f cd A outer s H E) [] (Ya7 N) H s1:=by
 have I:Y8k N.length:=by have:=Y4P S.pre;rw[bU]at this;exact Oo
 obtain⟨C,L,rfl,D⟩:=x.done;have j:∀b:Addr,b ∉ (oQ CX P w K mg base N qual scope f cd A outer s H E).ex:=λb z=>absurd (show b∈([]:List Addr)from z) (by simp);refine⟨⟨e0.mod,S.kind,rfl,rfl,Yk,λy z c C d=>?_,λy g=>?_,λy c _ h=>?_,λ_=>hd,Around.frames_deeper e0.frames,.inr Yad,λb z=>Y8y (j b),e0.bs,e0.bsz,λb _ _=>j b,λb z=>Y8y (j b),e0.funs,e0.frf⟩,
  rfl,e0.bare,Un.kept D,Y1o x.toInCall.ns (λi y v C d M=>?_),λy c h=>Y0p (x.cell y c h),e0.hok.fresh (Yk),λy c h=>?_,λp l=>absurd (show p∈([]:Ad)from l) (by simp),e0.hok.kept D,?_⟩
 ·exact name_of_addr x.apart (PySem.mem_of_lookup C) (PySem.mem_of_lookup d)
 ·have g:Y6V y Y4X\/Y6V y YeE:=g;rcases g with g | g
  ·exact IF g
  ·exact Y4e (S.nofree _ (PySem.mem_of_lookup g))
 ·exact Nat.le_of_lt (x.above y c (PySem.mem_of_lookup h))
 ·have B:i<vs.length:=by
   unfold start at d;by_cases B:i<vs.length
   ·exact B
   ·rw[List.getElem?_append_right (by simpa using B)]at d;rw[List.getElem?_replicate]at d;split at d <;> cases d
  have J:vs[i]?=Yq:=by
   unfold start at d;rw[List.getElem?_append_left (by simpa using B),aX]at d;cases e:vs[i]? with
   | none=>rw[e]at d;cases d
   | some a=>rw[e]at d;cases d;rfl
  obtain⟨u,G,rv⟩:=r.get J;have l:ps[i]?=Y00:=by
   rw[<-S.pre,List.getElem?_take_of_lt Oo];exact C
  have m:ps.Nodup:=by rw[<-S.pre];exact S.nd.sublist (List.take_sublist _ _)
  refine Y0w u rv;rcases S.par y (aF l)with k | k
  ·exact Y3e k (DE m l G k)
  ·obtain⟨c,e⟩:=IF (n:=Y3C 1) k;refine .inr ⟨.inl k,c,e,?_⟩;have q:=x.cell y c e;rw[DG m l G (by show scope.names.lookup y≠_;rw[k];decide)]at q;exact q
 ·exact e0.hok.fresh (Nat.le_of_lt (x.above y c (PySem.mem_of_lookup h)))
 ·unfold start;show _=N.length;rw[aW,aA,cG];exact Oo
def aBm{CX:LB}{P:Program}{w:World}{K:Aa}{mg:Y03}{base:Heap}{k:Nat}{f:Addr}{name qual:Str}{params:Arguments}{body:Y3b}{scope:Scope}{dV kV doc pm cdv ct oc:Value}{an od:Y0u}
  {osl:Y8d} {N ps:Ah} {sp:Sp} (lk:YeI=some ⟨oc,od,.func (PySem.W.fnOf name qual params body scope dV kV doc pm an cdv ct),osl⟩) (hcd:YdX cdv qual=true) (S:bO N ps scope)
  (len:∀vs H Q E,sp vs H Q E->Y9n)
  (hbody:∀(A:Around) (outer:Y1t) (s:Shared) (H:Hp) (vs:Al) (Q:VK) (E:XK),iJ k (Y9p qual scope f cdv)->sp vs H Q E ->
   ∃t,KS (oQ CX P w K mg base N qual scope f cdv A outer s H E) body t/\t { nx:=λ_ H'=>Q .non H',rt:=Q } (Ya7 N) H) :
  cX P w K mg base CX (k+1) f (PySem.W.fnOf name qual params body scope dV kV doc pm an cdv ct) ps sp:=by
 refine⟨len,λA outer s H m C vs Q E i g O r d=>?_⟩;have L:=len _ _ _ _ d;have KX:Y3F:=g.mod.kin.keeps λb o e=>(g.bs b o e).1;have j:s.heap.NoLimit:=g.mod.nolimit.keeps λb o e=>(g.bs b o e).1;have a:∀y∈ps.zip C,Y6V y.1 Y1A\/(Y6V y.1 Y4X/\((cellsFrom (s.heap.objs.size+1) scope.names []).lookup y.1).isSome=true):=λ⟨n,v⟩ M=>by
  rcases S.par n (List.of_mem_zip M).1 with q | q
  ·exact .inl q
  ·exact .inr ⟨q,PySem.W.cellsFrom_some _ _ _ (.inl q)⟩
 refine codeAny_call_function i.depth (KX _ _ lk) rfl S.co S.gen rfl (PySem.W.codeRec_of KX hcd) (O _ _ _ _ ?_);refine wpAny_newFunctionEnv_cells S.kind a λB R p x=>?_;subst R;refine⟨j.keeps x.toInCall.keep,codeAny_func ?_⟩;obtain⟨t,G,D⟩:=hbody A outer s H vs Q E (i.deeper _) d;have I:cF (oQ CX P w K mg base N qual scope f cdv A outer s H E) [] (Ya7 N) H p:=PZ S i.hd g L r x;refine wpAny_mono (G [] p (Ya7 N) H _ I D) (λfl l hs=>?_) λe l hs=>hs;have c:∀{h:St} {H':Hp} {v:V} {u:Value},cF (oQ CX P w K mg base N qual scope f cdv A outer s H E) [] h H' l->Y2G->Y0Z->CE outer P w H s Q u l :=
  λ{h H' v u} J rv q=>⟨v,H',J.os,J.bare,J.base,J.hok,rv,q⟩
 cases fl with
 | ret u =>
  obtain⟨v,h,H',J,rv,q⟩:=hs;exact c J rv q
 | next =>
  obtain⟨h,H',J,q⟩:=hs;exact c (v:=V.non) (u:=Value.none) J rfl q
 | brk =>
  obtain⟨_,_,_,q⟩:=hs;exact False.elim q
 | cont =>
  obtain⟨_,_,_,q⟩:=hs;exact False.elim q
section
variable{X:Cx}{x:Str}{p pos:Pos}{e:Expr}{es:Yz}{t:TA}{id T:String}{r:Y0W}
def tCB(r:Y0W)(t:TA):TE:=Y3t (λvs H1=>r vs H1 Q)
def UG(hc:Y35 id r)(hg:Y1L)(hm:Y3T=none)(hv:Y6W=Y93 id)(ha:PA X (e::es) t)(hn:x ≠ "__name__" := by decide)(hdb:Y0Y ("__debug__" : Str):=by decide)
  (he:Y42=(false,Y1p)::Y2W:=by rfl) (hpl:Y6 ((backTo pos (starEach es X.env)).any (·.1)):=by rfl):Yj (.Call (Y94 p) (e::es) [] pos) (tCB r t):=by
 intro a s σ H Q I h;refine wpAny_Call_Name_kw (tV I hg hm hv ?_ hn hdb);exact PyProof.Rows.callWith_builtin1 (thn (ha pos a s σ H _ I h) λg i ⟨c,H1,I1,j,d⟩=>hc a i σ H1 c g Q I1 j d) he hpl
def PH(hc:jU X (.type T) r)(hg:Y1L)(hm:Y3T=none)(hv:Y6W=Yeo T)(ha:PA X (e::es) t)(hn:x ≠ "__name__" := by decide)(hdb:Y0Y ("__debug__" : Str):=by decide)
  (he:Y42=(false,Y1p)::Y2W:=by rfl) (hpl:Y6 ((backTo pos (starEach es X.env)).any (·.1)):=by rfl):Yj (.Call (Y94 p) (e::es) [] pos) (tCB r t):=by
 intro a s σ H Q I h;refine wpAny_Call_Name_kw (tV I hg hm hv ?_ hn hdb);exact YbA (ha pos a s σ H _ I h) (λg i ⟨c,H1,I1,j,d⟩=>hc a i σ H1 c g Q I1 j d) he hpl
end
end L2
namespace HT
open PySem PyProof.Rows
section
open PySem.SeqAt
open PySem.AutoSeq1 (wpAny_loadPart')
open PySem.MeetsSeq PySem.MeetsSeq2 PySem.MeetsSeq3
end
section
variable{prog:Program}{w:World}{A:Around}{E:Y8}{s:Shared}
def aAv{t b:Addr}{vs ws:Ag}{Q:Y8}(ht:Yck t vs.toArray)(hb:Yck b ws.toArray)(hv:vs≠[])
  (h1:ws=[]->Y2c t s) (h2:ws≠[]->Q (Y19) { s with heap:=s.heap.push { cls:=.type "tuple",data:=.seq (vs++ws).toArray } })
  (hsz:Y0h (vs.length+ws.length)):Y0U (binaryOp .Add (Y8U) (Y0E)):=by
 obtain⟨⟨cls,l,data,r⟩,i,m,n,hd⟩:=id ht;obtain⟨⟨u,h,j,d⟩,a,c,p,g⟩:=id hb;simp only at m hd c g;subst m hd c g;have e:vs.toArray++ws.toArray=(vs++ws).toArray:=by simp
 by_cases hw:ws=[]
 ·exact concat_meets (Y0j i) (Y0j a) noFill_tuple_add seq_tuple_add PySem.F.slot_tuple_add PySem.F.entry_tuple_add (Yf2 _)
   (tuple_addW1 t b vs.toArray ws.toArray n p l h r d (by simpa using hv) (by simp[hw])) ⟨i,a,h1 hw⟩
 ·refine concat_meets (Y0j i) (Y0j a) noFill_tuple_add seq_tuple_add PySem.F.slot_tuple_add PySem.F.entry_tuple_add (Yf2 _)
   (tuple_addW2 t b vs.toArray ws.toArray n p l h r d (by simpa using hv) (by simpa using hw) (by rw[bF,bF];exact hsz)) (Y0w i a)
  rw[e];exact h2 hw
def jO(n d:Nat):Y10->Nat
 | none=>d
 | some v=>if v<0 then(v+(n:Int)).toNat else min v.toNat n
def zY(n d:Nat):jO n d none=d:=rfl
def EG(n d k:Nat):jO n d (some (k:Int))=min k n:=by
 show(if(k:Int)<0 then((k:Int)+(n:Int)).toNat else min (k:Int).toNat n)=min k n;rw[Y9G,Int.toNat_natCast]
def aCX(n d:Nat)(hd:d<=n)(o:Y10):jO n d o<=n:=by
 cases o with
 | none=>exact hd
 | some v =>
  show(if v<0 then(v+(n:Int)).toNat else min v.toNat n)<=n;by_cases hv:v<0
  ·rw[if_pos hv];exact Oo
  ·rw[if_neg hv];exact Nat.min_le_right _ _
def NV(v:Int)(n d:Nat):(if v<0 then max (v+(n:Int)) 0 else min v (n:Int))=((jO n d (some v):Nat):Int):=by
 show(if v<0 then max (v+(n:Int)) 0 else min v (n:Int))=(((if v<0 then(v+(n:Int)).toNat else min v.toNat n):Nat):Int);by_cases hv:v<0
 ·simp only[if_pos hv];exact Oo
 ·simp only[if_neg hv];exact Oo
def KN(lo hi:Y10)(n:Nat):Builtin.Slice.sliceAdjust lo hi 1 (n:Int)=(((jO n 0 lo:Nat):Int),((jO n n hi:Nat):Int)):=by
 have a:¬((1:Int)<0):=Oo;unfold Builtin.Slice.sliceAdjust;simp only[a,if_false];refine Prod.ext ?_ ?_
 ·cases lo with
  | none=>rfl
  | some v=>exact NV v n 0
 ·cases hi with
  | none=>rfl
  | some v=>exact NV v n n
def JP(i j:Nat):Builtin.Slice.slicePlaces (i:Int) (j:Int) 1=j-i:=by
 unfold Builtin.Slice.slicePlaces;have a:(1:Int) > 0:=Oo;simp only[a,if_true,Int.ediv_one];split <;> exact Oo
def zR{v:Value}{o:Y10}{Q:Y1Q Y10}(p:IsPart v o)(h:Q o s):Y0U (Builtin.Slice.slicePartIndex v):=by
 cases p with
 | none=>exact slicePart_none h
 | int i t=>exact slicePart_int h
def pA{sl:Addr}{vl vu:Value}{lo hi:Y10}{n:Nat}{Q:Y1Q (Int × Int × Nat)}(hs:Ydm sl vl vu)(pl:IsPart vl lo)(pu:IsPart vu hi)
  (h:Q (((jO n 0 lo:Nat):Int),1,jO n n hi-jO n 0 lo) s):Y0U (Builtin.Slice.sliceApplied (.ref sl) (pure (n:Int))):=by
 obtain⟨e,a,d,c⟩:=id hs;unfold Builtin.Slice.sliceApplied Builtin.Slice.sliceFields;refine wpAny_bind (wpAny_bind (wpAny_field a c (x:=vl) rfl (wpAny_bind (wpAny_field a c (x:=vu) rfl (wpAny_bind (wpAny_field a c (x:=.none) rfl Y1B))))));refine wpAny_bind (slicePart_none ?_);show Y32 (if((1:Int) == 0)=true then _ else _);rw[Y9F];refine wpAny_bind (zR pl (wpAny_bind (zR pu (Y91))));show wpAny _ _ (match Builtin.Slice.sliceAdjust lo hi 1 (n:Int)with | (lo,hi)=>pure (lo,(1:Int),Builtin.Slice.slicePlaces lo hi 1)) _ _ s;rw[KN lo hi n];show Y32 (pure (((jO n 0 lo:Nat):Int),(1:Int),Builtin.Slice.slicePlaces ((jO n 0 lo:Nat):Int) ((jO n n hi:Nat):Int) 1));rw[JP];exact wpAny_pure h
def UA(xs:Ai)(i k:Nat):((List.range k).filterMap λ(m:Nat)=>Y1Z (((i:Int)+(m:Int)*1).toNat)).toArray=((xs.toList.drop i).take k).toArray:=by
 have e:(λ(m:Nat)=>Y1Z (((i:Int)+(m:Int)*1).toNat))=λm=>Y1Z (i+m):=by
  funext m
  have:((i:Int)+(m:Int)*1).toNat=i+m:=Oo;rw[this]
 rw[e];have:=pick_run xs i k;rw[List.filterMap_map]at this;have a:((λx=>xs[x]?) ∘ λx=>i+x)=λm=>xs[i+m]?:=rfl;rw[a]at this;rw[this]
def vB{t sl:Addr}{items:Ai}{vl vu:Value}{lo hi:Y10}{Q:Y8}(ht:Yck t items)(hs:Ydm sl vl vu)(pl:IsPart vl lo)(pu:IsPart vu hi)
  (hw:¬(Y7N 0=0/\Y6x=items.size))
  (h:Q (Y19) { s with heap:=s.heap.push { cls:=.type "tuple",data:=.seq ((items.toList.drop (jO items.size 0 lo)).take (jO items.size items.size hi-jO items.size 0 lo)).toArray } })
  (hsz:Y0h items.size):Y0U (getItem (Y8U) (.ref sl)):=by
 have a:sizeOk (.seq ((items.toList.drop (jO items.size 0 lo)).take (Y6x-Y7N 0)).toArray):=by
  show Y0h (((items.toList.drop (jO items.size 0 lo)).take (Y6x-Y7N 0)).toArray.size);rw[bF,bU,List.length_drop,Array.length_toList];exact Oo
 have l:Y6x<=items.size:=aCX _ _ (Yk) hi;obtain⟨j,d,g,i⟩:=id hs;have e:Y85 sl "slice" := ⟨j,d,g⟩;unfold getItem
 try with_reducible refine YbW
 first | refine Y91 | skip
 refine wpAny_bind (wpAny_sequenceKey ht.typeIs Dd ?_);refine wpAny_bind (wpAny_callSpecial?_slot (name:=Str.ofString "__getitem__") ht.typeIs PyProof.Rows.slot_tuple_getitem
  (wpAny_call_entry PyProof.Rows.slot_tuple_getitem ht.typeIs entry_tuple_getitem ?_ (args_tuple_getitem _ _)))
 show Y32 (Builtin.Tuple.tupleItemsOf (Y8U) >>= _);refine wpAny_bind (tupleItemsOf_ ht ?_);refine Yf3 e ?_;rw[YcH];refine wpAny_bind (pA hs pl pu ?_);have c:¬((((jO items.size 0 lo:Nat):Int) == 0&&(1:Int) == 1&&Yed (Y6x-Y7N 0))=true):=by
  intro q;rw[aP,aP]at q;have r:((jO items.size 0 lo:Nat):Int)=0:=eq_of_beq q.1.1;have p:Y6x-Y7N 0=items.size:=eq_of_beq q.2;exact hw (Y2h Oo)
 show Y32 (if(((jO items.size 0 lo:Nat):Int) == 0&&(1:Int) == 1&&Yed (Y6x-Y7N 0))=true then _ else _);rw[if_neg c,UA]
 first
  | exact Yde _ (Yc4 h) a
  | exact Yde _ (Y5q (Yc4 h)) a
  | exact wpAny_bind (Yde _ (Yd9 (Yd2 h)) a)
  | exact wpAny_bind (Yde _ (Yc4 h) a)
end
end HT
namespace L2
open PySem PySem.Spec PyProof.Rows
abbrev TO:=St->Y6G (Y1l Y10)
def PO(X:Cx)(e:Yew)(t:TO):Prop :=
 ∀(pins:Ad) (s:Shared) (σ:St) (H:Hp) (Q:Y1l Y10),Y2->t σ H Q ->
  Y4q (evalPart e X.env) (λu s'=>∃o H',Y5e s'/\IsPart u o/\Q o H')
def LQ:TO:=λ_ H Q=>Q none H
def aA1(t:TE):TO:=Y3t (λx H1=>∃i,x=Y07/\Q (some i) H1)
def JZ{ns:Af}:∀{us:Ag},Y1T Y5s->Yb1 us:=by
 induction ns with
 | nil=>intro us r;rw[List.map_nil]at r;cases r;exact .nil
 | cons n ns ih =>
  intro us r;rw[bC]at r;cases r with
  | cons r1 r2 =>
   obtain⟨t,e⟩:=r1;subst e;exact .cons n t (ih r2)
section
variable{X:Cx}{e:Expr}{te:TE}{lo hi:Yew}{tl th:TO}{pos p2:Pos}
def po_none:PO X none LQ:=by
 intro a s σ H Q I h;rw[evalPart_none];exact wpAny_pure ⟨none,H,I,.none,h⟩
def ZK(h:Yj e te):PO X (Y3S) (aA1 te):=by
 intro a s σ H Q I c;rw[evalPart_some];refine thn (h a s σ H _ I c) λu j ⟨x,H1,I1,g,d⟩=>?_;obtain⟨i,rfl,q⟩:=d;obtain⟨t,rfl⟩:=g;exact⟨some i,H1,I1,Y7M t,q⟩
def SlR(X:Cx)(r:V->Y10->Y8I):Prop :=
 ∀(pins:Ad) (s:Shared) (σ:St) (H:Hp) (x:V) (v vl vu:Value) (lo hi:Y10) (sl:Addr) (Q:VK),Y2->dN x v->Ydm sl vl vu->IsPart vl lo->IsPart vu hi->r x lo hi H Q ->
  ∃T id,YfG T "__getitem__" = pure (Y93 id)/\s.TypeIs v T/\Y6t (getItem v (.ref sl)) X σ Q
def tSl(r:V->Y10->Y8I)(te:TE)(tl th:TO):TE:=λσ H Q=>te σ H λx H1=>tl σ H1 λl H2=>th σ H2 λu H3=>r x l u H3 Q
def UC{r:V->Y10->Y8I}(hr:SlR X r)(he:Yj e te)(hl:PO X lo tl)(hu:PO X hi th):Yj (Y9m e (.Slice lo hi none p2)) (tSl r te tl th):=by
 intro a s σ H Q I h;refine Subscript_ (thn (he a s σ H _ I h) λv L ⟨x,H1,I1,y,B⟩=>?_);refine wpAny_Slice (thn (hl a L σ H1 _ I1 B) λg m ⟨l,H2,I2,D,C⟩=>thn (hu a m σ H2 _ I2 C) λd c ⟨u,H3,I3,J,i⟩=>?_);rw[evalPart_none];refine Y1B;have I4:Y1J a H3 ({ c with heap:=c.heap.push { cls:=.type "slice",data:=.fields #[g,d,.none] } }):=I3.kept (t':=c.toks) λb N q=>Y0T q;obtain⟨T,M,p,G,j⟩:=hr a { c with heap:=c.heap.push { cls:=.type "slice",data:=.fields #[g,d,.none] } } σ H3 x v g d l u c.heap.objs.size Q I4 y (Heap.IsSliceOf.new ..) D J i;show Y98 (subscriptTail e (.Slice lo hi none p2) v (Yda)) (EP X a σ Q) ({ c with heap:=c.heap.push { cls:=.type "slice",data:=.fields #[g,d,.none] } });exact tail_any (ops:=[Yda,v]) G p j (by with_unfolding_all rfl)
def nS(xs:Al)(lo hi:Y10):Al:=(xs.drop (HT.jO xs.length 0 lo)).take (YaD xs.length hi-YaD 0 lo)
def xK(xs:Al)(lo hi:Y10):Y4Z ((nS xs lo hi).length):=by
 unfold nS;rw[bU,List.length_drop];exact Oo
def aFR(K:Aa):V->Y10->Y8I:=λx lo hi H Q=>∃a xs,x=Y7/\Y5o /\
 ¬(YaD 0 lo=0/\Y5E (YaD xs.length hi))/\∀p,H p=none->Y44 (Y8l p (nS xs lo hi))
def aBX:SlR X (aFR X.K):=by
 intro j s σ H x v G B e g C Q I p hs y A h;obtain⟨a,d,rfl,w,u,q⟩:=h;cases p;obtain⟨i,r,m,l⟩:=I.tuple w;have c:i.toArray.size=d.length:=by rw[bF];exact r.length.symm
 refine⟨"tuple",_,PyProof.Rows.slot_tuple_getitem.lookup,m.typeIs,HT.vB m hs y A (by rw[c];exact u) ?_ (by rw[c];exact l)⟩;rw[c];refine Y2j Y19 (YbE (.tup (nS d e g)) (λb D q=>Y0T q) Yk ?_) (q _ (Y5m));exact⟨⟨aM (xK d e g) l,_,Y14,rfl⟩,_,(r.drop (HT.jO d.length 0 e)).take (Yeh d.length g-Yeh 0 e),Ycl _⟩
def aEL(K:Aa):R2:=λx y H Q=>∃a b xs ys,x=Y7/\y=Y0E/\Y5o/\fS K H b ys/\xs≠[]/\Y0h (Y64 ys.length) /\
 (ys=[]->Y2c a H)/\(ys≠[]->∀p,H p=none->Y44 (Y8l p (xs++ys)))
def dG.nil_iff{xs:Al}{us:Ag}(r:Y6y):us=[]↔xs=[]:=by
 cases r with
 | nil=>simp
 | cons _ _=>simp
def ZU:Y49 X .Add (aEL X.K):=by
 intro e s σ H x y v u Q I l B h;obtain⟨a,b,G,j,rfl,rfl,J,L,r,g,p,C⟩:=h;cases l;cases B;obtain⟨A,d,D,_⟩:=I.tuple J;obtain⟨i,c,m,_⟩:=I.tuple L;refine HT.aAv D m (λz=>r (d.nil_iff.mp z)) (λz=>Y3z Y7 H I (p (c.nil_iff.mp z))) (Y6k) (by rw[<-d.length,<-c.length];exact g);refine Y2j Y19 (YbE (.tup (G++j)) (λb M q=>Y0T q) Yk ?_) (C (λw=>z (c.nil_iff.mpr w)) _ (Y5m));exact⟨⟨by rw[aW];exact g,_,Y14,rfl⟩,_,d.append c,Ycl _⟩
end
def ixN(n:Nat)(i:Int):Ycq:=if 0<=i then(if i<n then some i.toNat else none) else if -(n:Int)<=i then some (i+n).toNat else none
def xM{α:Type}(xs:Yn)(i:Int):Option α:=(ixN xs.length i).bind λj=>Y1Z j
def aAi{n:Nat}{i:Int}{j:Nat}(h:ixN n i=some j):seqIndex? i n=some j/\j<n/\-(n:Int)<=i/\i<n:=by
 unfold ixN at h;by_cases h0:0<=i
 ·rw[if_pos h0]at h;by_cases h1:i<n
  ·rw[if_pos h1]at h;have e:i.toNat=j:=gY h;exact⟨by rw[seqIndex_of h0 h1,e],Oo,Oo,h1⟩
  ·rw[if_neg h1]at h;cases h
 ·rw[if_neg h0]at h;by_cases h1:-(n:Int)<=i
  ·rw[if_pos h1]at h;have e:(i+n).toNat=j:=gY h;exact⟨by rw[seqIndex_neg Oo h1,e],Oo,h1,Oo⟩
  ·rw[if_neg h1]at h;cases h
def FO{α:Type}{xs:Yn}{i:Int}{v:α}(h:Y4I i=Yq):∃j,seqIndex? i xs.length=some j/\Y1Z j=Yq/\Y4f j/\-(xs.length:Int)<=i/\Y4f i:=by
 unfold xM at h;cases e:ixN xs.length i with
 | none=>rw[e]at h;cases h
 | some j =>
  rw[e]at h;obtain⟨c,g,a,d⟩:=aAi e;exact⟨j,c,h,g,a,d⟩
def dL{α:Type}{xs:Yn}{j:Nat}{v:α}(h:Y1Z j=Yq):Y4I (j:Int)=Yq:=by
 have a:Y4f j:=(aT.mp h).1;have e:ixN xs.length (j:Int)=some j:=by
  unfold ixN;rw[YcI,YcI];simp
 unfold xM;rw[e];exact h
def OC(b:Expr):Prop:=∀o i,YdY b o i=Yg4 [o,i] o i
def WS(X:Cx)(r:R2):Prop :=
 ∀(value slice:Expr) (pins:Ad) (s:Shared) (σ:St) (H:Hp) (x y:V) (v u:Value) (Q:VK),Y2->dN x v->Y3n->r x y H Q ->
  YdY slice v u=Yg4 [v,u] v u->Y6t (subscriptTail value slice v u) X σ Q
def MtR(X:Cx)(id:String)(r:V->Y0W):Prop :=
 ∀(pins:Ad) (s:Shared) (σ:St) (H:Hp) (x:V) (xs:Al) (v:Value) (us:Ag) (Q:VK),Y2->dN x v->Y6y->r x xs H Q ->
  Y6t (Y84 id (v::us)) X σ Q
section
variable{X:Cx}{a b:Expr}{ta tb:TE}{pos:Pos}
def WS.or{r r':R2}(h:WS X r)(h':WS X r'):WS X (λx y H Q=>r x y H Q\/r' x y H Q):=by
 intro c a d s σ H x y v u Q I e g q hs;rcases q with q | q
 ·exact h c a d s σ H x y v u Q I e g q hs
 ·exact h' c a d s σ H x y v u Q I e g q hs
def aER{r:R2}(hr:WS X r)(ha:Y6D a)(hb:Yj b tb)(hs:OC b):Yj (Y9m a b) (YA r ta tb):=by
 intro c s σ H Q I h;exact Subscript_ (Yfq ha hb I h (hr a b c g σ H2 x y v u Q I2 d e q (hs _ _)))
def aEJ(K:Aa):R2:=λx y H Q=>∃p xs i v,x=Y0x/\y=Y07/\Y2I K H p/\Y4I i=Yq/\Q v H
def aEH(K:Aa):R2:=λx y H Q=>∃p xs i v,x=Y0x/\y=Y07/\fS K H p xs/\Y4I i=Yq/\Q v H
def aEI:R2:=λx y H Q=>∃z i c,x=.str z/\y=Y07/\Y0h z.length/\xM z.cps.toList i=Y0c/\Q (.str ⟨#[c]⟩) H
def aAh:WS X (aEJ X.K):=by
 intro B l a s σ H x y v u Q I D N h hs;obtain⟨p,W,i,z,rfl,rfl,L,R,q⟩:=h;cases D;obtain⟨t,rfl⟩:=N;obtain⟨m,r,A,S⟩:=I.list L;obtain⟨j,d,J,U,G,M⟩:=FO R;obtain⟨w,C,e⟩:=r.get J;have O:=r.length;have T:=JY;have c:EP X a σ Q w s:=⟨z,H,I,e,q⟩;by_cases h0:0<=i
 ·have g:i.toNat=j:=by
   rw[seqIndex_of h0 M]at d;exact gY d
  exact item_listR A.isList h0 Oo (by rw[g];simpa using C) c hs
 ·have g:(i+(m.toArray.size:Int)).toNat=j:=by
   rw[seqIndex_neg Oo G]at d;rw[bF,<-O];exact gY d
  exact subscriptTail_builtinR (x:=w) A.isList.typeIs slot_list_getitem.lookup
   (wpAny_getItem_list_neg (Q:=λr P=>r=w/\EP X a σ Q r P) A.isList Oo (by rw[bF] <;> exact Oo) Oo (by rw[g];simpa using C) (Y0l c)) hs
def aDC:WS X (aEH X.K):=by
 intro g d a s σ H x y v u Q I m D h hs;obtain⟨p,U,i,z,rfl,rfl,C,N,q⟩:=h;cases m;obtain⟨t,rfl⟩:=D;obtain⟨A,r,l,P⟩:=I.tuple C;obtain⟨j,L,B,T,O,S⟩:=FO N;obtain⟨w,J,c⟩:=r.get B;have G:=r.length;have R:=JY;have e:EP X a σ Q w s:=⟨z,H,I,c,q⟩;exact subscriptTail_builtinR (x:=w) l.typeIs slot_tuple_getitem.lookup
  (getItem_tuple (j:=j) (Q:=λr M=>r=w/\EP X a σ Q r M) l Oo Oo (by rw[bF,<-G];exact L) (by simpa using J) (Y0l e)) hs
def aDD:WS X aEI:=by
 intro d a e s σ H x y v u Q I l w h hs;obtain⟨z,i,c,rfl,rfl,J,D,q⟩:=h;obtain⟨t,rfl⟩:=l;obtain⟨G,rfl⟩:=w;obtain⟨j,g,p,M,m,r⟩:=FO D;have A:z.cps.toList.length=z.length:=by simp[Str.length]
 rw[A]at g m r;have L:=JY;exact tail_any (typeIs_str s z t) slot_str_getitem.lookup (getItem_str (c:=c) (by
  have B:Y6 (Y2A i (-(2^63:Int))):=bP Oo;have C:Y6 (decide (i ≥ 2^63)):=bP Oo;rw[B,C,Bool.or_false]) (by rw[g];simpa using p) ⟨.str ⟨#[c]⟩,H,Y0S,Y1E,q⟩) hs
def rIx(K:Aa):R2:=λx y H Q=>aEJ K x y H Q\/aEH K x y H Q\/aEI x y H Q
def bE:WS X (rIx X.K):=aAh.or (aDC.or aDD)
def ED(lo hi:Y10)(n:Nat):(sliceBounds lo hi none n).1=((HT.jO n 0 lo:Nat):Int)/\(sliceBounds lo hi none n).2.1=((HT.jO n n hi:Nat):Int)/\(sliceBounds lo hi none n).2.2=1:=by
 refine Y4O ?_ ?_
 ·cases lo with
  | none=>simp[sliceBounds,HT.jO]
  | some i =>
   simp only[sliceBounds,HT.jO,Option.getD_none,show(1:Int) > 0 by decide,if_true];by_cases h:i<0
   ·simp only[h,if_true] <;> exact Oo
   ·simp only[h,if_false] <;> exact Oo
 ·cases hi with
  | none=>simp[sliceBounds,HT.jO]
  | some i =>
   simp only[sliceBounds,HT.jO,Option.getD_none,show(1:Int) > 0 by decide,if_true];by_cases h:i<0
   ·simp only[h,if_true] <;> exact Oo
   ·simp only[h,if_false] <;> exact Oo
def BP(its:Ag)(lo hi:Y10):slicePick its.toArray lo hi none=((its.drop (HT.jO its.length 0 lo)).take (HT.jO its.length its.length hi-HT.jO its.length 0 lo)).toArray:=by
 obtain⟨c,d,a⟩:=ED lo hi its.toArray.size;unfold slicePick;rw[c,d,a];simp only[sliceRange_one,pick_run,bF] <;> rfl
def aEG(K:Aa):V->Y10->Y8I:=λx lo hi H Q=>∃a xs,x=Y7/\Y2I K H a/\∀p,H p=none->Y44 (Y1s H p (nS xs lo hi))
def LW:SlR X (aEG X.K):=by
 intro i s σ H x v D A e g B Q I l hs w y h;obtain⟨a,c,rfl,p,q⟩:=h;cases l;obtain⟨u,r,j,m⟩:=I.list p;have d:=r.length;refine⟨"list",_,slot_list_getitem.lookup,j.isList.typeIs,wpAny_getItem_list_slice j.isList hs w y .none (by simp) ?_ (by rw[bF] <;> exact Oo)⟩;rw[BP,<-d];refine Y2j Y19 (YbE (.lst (nS c e g)) (λb C q=>Y0T q) Yk ?_) (q _ (Y5m));exact⟨aM (xK c e g) m,_,0,(r.drop (HT.jO c.length 0 e)).take (HT.jO c.length c.length g-HT.jO c.length 0 e),Y14⟩
def qS:jU X (.type "list") (λxs H Q=>∃p ys,xs=[Y0x]/\(hU X.K H p ys\/fS X.K H p ys)/\∀l,H l=none->Y2c l (Y1s H l ys)):=by
 intro j s σ H xs G Q I r h;obtain⟨p,ys,rfl,x,q⟩:=h;obtain⟨u,rfl,D⟩:=nV r;cases D;have y:∀(a:Ag),dG ys a->Y0h ys.length->∀(c:Heap) (g:Nat),(∀b o',Y24 b o'->c.get? b=some o') ->
   c.get? s.heap.objs.size=some { cls:=.type "list",dict:=none,data:=.seq a.toArray g,slots:=#[] }->EP X j σ Q (Y19) { s with heap:=c }:=λa d m c g kp e =>
  Y2j Y19 (I.laid (t':=s.toks) kp (Yk) (show dU X.prog X.w _ c _ (.lst ys)from⟨m,a,g,d,e⟩)) (q _ (Y5m))
 rcases x with x | x
 ·obtain⟨a,d,C,m⟩:=I.list x;have i:=d.length;obtain⟨o,B,A,n,hd⟩:=C.isList;exact call_list_seq p (Y21) B A hd (λc g kp e=>y a d m c g kp e) (by simp only[bF] <;> exact Oo)
 ·obtain⟨a,d,C,m⟩:=I.tuple x;have i:=d.length;obtain⟨o,B,A,n,hd⟩:=C;exact call_list_seq p (Y6g) B A hd (λc g kp e=>y a d m c g kp e) (by simp only[bF] <;> exact Oo)
def eG:jU X (.type "tuple") (λxs H Q=>∃p ys,xs=[Y0x]/\((hU X.K H p ys/\∀l,H l=none->Y2c l (Y8l l ys))\/(fS X.K H p ys/\Y44 H))):=by
 intro a s σ H xs A Q I r h;obtain⟨p,ys,rfl,h⟩:=h;obtain⟨u,rfl,y⟩:=nV r;cases y;rcases h with⟨i,q⟩ | ⟨i,q⟩
 ·obtain⟨c,g,j,x⟩:=I.list i;have m:=g.length;refine call_tuple_list j.isList (λd kp=>?_) (by simp only[bF] <;> exact Oo);have I1:Y1J a H ({ s with heap:=d }):=I.kept (t':=s.toks) kp;have I2:Y1J a (Y8l d.objs.size ys) ({ s with heap:=d.push { cls:=.type "tuple",data:=.seq c.toArray } }) :=
   YfC s.toks (λb o e=>Y2D) (show dU X.prog X.w _ _ _ (.tup ys)from⟨⟨x,_,aZ _ rfl,rfl⟩,c,g,IsTup.new _ _⟩)
  exact Y2j (.ref d.objs.size) I2 (q _ (Yfn))
 ·obtain⟨c,g,j,x⟩:=I.tuple i;exact call_tuple_same j (Y3z Y0x H I q)
def tyV(K:Aa)(T:String)(x:V)(H:Hp):Prop:=match x with
 | .str _=>T = "str"
 | .int _=>T = "int"
 | .ref p=>(T = "list" /\ ∃xs,hU K H p xs)\/(T = "tuple" /\ ((∃o,K.lookup p=some o/\o.cls=.type "tuple" /\ o.dict=none)\/∃xs,H p=some (.tup xs))) \/
   (T = "dict" /\ ((∃kvs,H p=some (.dK kvs))\/∃kvs,H p=some (.dT kvs)))\/(T = "set" /\ ∃S n,H p=some (.set S n))
 | _=>False
def RV{pins:Ad}{σ:St}{H:Hp}{s:Shared}{T:String}{x:V}{v:Value}(I:Y2)(r:dN x v)(ty:tyV X.K T x H) :
  s.TypeIs v T/\∀a,v=Y7->∃ob,Y24 a ob/\ob.dict=none:=by
 cases x with
 | str z =>
  obtain⟨t,rfl⟩:=r;cases(show T = "str" from ty);exact⟨typeIs_str s z t,λ_ e=>nomatch e⟩
 | int i =>
  obtain⟨t,rfl⟩:=r;cases(show T = "int" from ty);exact⟨Y9t s i,λ_ e=>nomatch e⟩
 | ref p =>
  cases r;rcases ty with⟨rfl,u,l⟩ | ⟨rfl,⟨o,d,y,hd⟩ | ⟨u,l⟩⟩ | ⟨rfl,d⟩ | ⟨rfl,S,n,d⟩
  ·obtain⟨B,_,m,_⟩:=I.list l;refine⟨m.isList.typeIs,λa e=>?_⟩;cases e;obtain⟨o,n,e,c,hd,_⟩:=m;exact Y0P e hd
  ·refine⟨Y0P (I.kIn p o d) y,λa e=>?_⟩;cases e;exact Y0P (I.kIn _ o d) hd
  ·obtain⟨⟨_,A,C,D⟩,_,_,o,G,h,_⟩:=(show dU X.prog X.w H s.heap p (.tup u)from I.hok p _ l);refine⟨Y0P G h,λa e=>?_⟩;cases e;exact⟨A,C,D⟩
  ·have z:∃o,Y95 p/\o.ExactDict:=by
    rcases d with⟨j,d⟩ | ⟨j,d⟩
    ·obtain⟨_,_,_,_,o,_,_,e,g,_⟩:=Y5M p d;exact Y0P e g
    ·obtain⟨_,_,_,_,o,_,_,e,g,_⟩:=Y5M p d;exact Y0P e g
   obtain⟨o,e,g⟩:=z;refine⟨Y0P e g.1,λa h=>?_⟩;cases h;exact Y0P e g.2.1
  ·obtain⟨o,_,_,_,e,g,_⟩:=Y5M p d;refine⟨Y0P e g.1,λa h=>?_⟩;cases h;exact Y0P e g.2.1
 | _=>exact False.elim ty
def aEC(K:Aa)(T:String)(r:V->Y0W)(to:TE):TE:=λσ H Q=>to σ H λx H1=>tyV K T x H1/\r x [] H1 Q
def tBM(K:Aa)(T:String)(r:V->Y0W)(to:TE)(t:TA):TE:=λσ H Q=>to σ H λx H1=>tyV K T x H1/\t σ H1 λxs H2=>r x xs H2 Q
variable{o e:Expr}{es:Yz}{to:TE}{t:TA}{name:Str}{apos cpos:Pos}{T id:String}{r:V->Y0W}
def aDi(pa:Yei)(slot:Slot T name id)(hty:YdF id=Yeq "method_descriptor")(hm:MtR X id r)(ho:Yj o to)
  (hbase:attributeBase o name X.env (Y0g o)=Y0g o:=by rfl) (hline:(YaG)=true:=by rfl):Yj (Y9R (Y9l o name) [] []) (aEC X.K T r to):=by
 intro a s σ H Q I h;refine wpAny_Call_method0_late hbase hline (thn (ho a s σ H _ I h) λv e ⟨x,H1,I1,c,g,i⟩=>?_);obtain⟨d,j⟩:=RV I1 c g;exact⟨T,id,pa,slot,hty,d,j,Calls.callWith_builtin rfl (PySem.evalArgs_none (hm a e σ H1 x [] v [] Q I1 c .nil i))⟩
def aET(pa:Yei)(slot:Slot T name id)(hty:YdF id=Yeq "method_descriptor")(hm:MtR X id r)(ho:Yj o to)(ha:PA X (e::es) t)
  (hbase:attributeBase o name X.env (Y0g o)=Y0g o:=by rfl)
  (hfew:((backTo cpos (starEach (e::es) X.env)).all (λx=>! x.1)&&(backToKw cpos (keywordEach [] X.env)).all (λx=>x.1.isSome)
   && Y2A ((e::es).length+([]:List Keyword).length+(if([]:List Keyword).isEmpty then 0 else 1)) 30)=true:=by rfl)
  (hline:(YaG)=true:=by rfl) (hs:Y42=(false,Y1p)::Y2W:=by rfl) (hplain:Y6 ((backTo cpos (starEach es X.env)).any (·.1)):=by rfl) :
  Yj (Y9R (Y9l o name) (e::es) []) (tBM X.K T r to t):=by
 intro c s σ H Q I h;refine wpAny_Call_method_late hbase hfew hline rfl (thn (ho c s σ H _ I h) λv C ⟨x,H1,I1,g,y,l⟩=>?_);obtain⟨A,u⟩:=RV I1 g y;refine⟨T,id,pa,slot,hty,A,u,?_⟩;have d:=ha cpos c C σ H1 _ I1 l;rw[hs]at d ⊢;refine Calls.callWith_builtin (by show Y6 (false || (backTo cpos (starEach es X.env)).any (·.1));rw[hplain] <;> rfl) (Calls.evalArgs_plain ?_);exact thn d λp i ⟨B,H2,I2,j,w⟩=>hm c i σ H2 x B v p Q I2 g j w
/- xs.append(e),list.index on a module's tuple .. are MtR facts of 06m -/
end
def MtM(X:Cx)(id:String)(r:V->Y0W):Prop :=
 ∀(pins:Ad) (s:Shared) (σ:St) (H:Hp) (x:V) (xs:Al) (v:Value) (us:Ag) (Q:VK),Y2->dN x v->Y6y->r x xs H Q ->
  Y6t (Y84 id (v::us)) X σ Q
def dG.one:∀{x:V}{us:Ag},Y1T [x]->∃u,us=[u]/\dN x u
 | _,_,.cons r .nil=>⟨_,rfl,r⟩
def dG.zero:∀{us:Ag},Y1T []->us=[]
 | _,.nil=>rfl
theorem CT(its:Ag):∀(k:Nat) (acc:Ag),
  List.foldl (λx1 x2=>x1++x2) acc.toArray (Y38 its.toArray)=(acc++(Y38 its).flatten).toArray
 | 0,acc=>by simp
 | k+1,acc=>by
  have e:acc.toArray++its.toArray=(acc++its).toArray:=by simp
  have a:(acc++its)++(List.replicate k its).flatten=acc++(List.replicate (k+1) its).flatten:=by
   rw[List.replicate_succ,List.flatten_cons,List.append_assoc]
  rw[<-a,<-CT its k (acc++its),<-e,List.replicate_succ,List.foldl_cons]
section
variable{X:Cx}{pins:Ad}{σ:St}{H:Hp}{s:Shared}{l b:Addr}{xs ys zs:Al}
def cF.lset{its its':Ag}{n:Nat}{f:Ai->Ai}{t':Nat}(I:Y2)(hH:H l=Y0y)
  (e:Y24 l ({ cls:=.type "list",data:=.seq its.toArray n })) (hf:f its.toArray=its'.toArray) (hv:dG ys its') (hz:Y0h ys.length) :
  Y1N (Y1s H l ys) ({ s with heap:=s.heap.update l (Obj.mapSeq f),toks:=t' }):=by
 have q:=PySem.IsL.update e f;rw[hf]at q;refine Yfy l l (by rw[hH];exact trivial) (λd u a c=>(Heap.get?_update_other s.heap (Obj.mapSeq f) (Ne.symm a)).trans c) (Y0p q) ?_;exact⟨hz,its',_,hv,q⟩
def cF.lnew{its:Ag}{t':Nat}(I:Y2)(hv:dG ys its)(hz:Y0h ys.length) :
  Y1N (Y9d H ys) ({ s with heap:=s.heap.push { cls:=.type "list",data:=.seq its.toArray },toks:=t' }) :=
 I.laid (Yc9 q) (Yk) ⟨hz,its,0,hv,Y14⟩
theorem cF.fresh(I:Y2):H s.heap.objs.size=none:=Y5m
def cF.lstM(I:Y2)(hH:H l=Y0y):Y4T/\∃(its:Ag) (n:Nat),dG xs its/\Y2v its.length/\Y24 l ({ cls:=.type "list",data:=.seq its.toArray n }):=by
 obtain⟨z,its,n,r,e⟩:=Y5M l hH;exact⟨z,its,n,r,r.length,e⟩
def UI{n:Nat}(h:Y0h n):Y6 (Builtin.List.listTooLong n):=by
 unfold Builtin.List.listTooLong;exact bP Oo
end
section
variable{X:Cx}
def MG:V->Y0W:=λx vs H Q=>∃l xs y,x=Y13/\vs=[y]/\H l=Y0y/\YaV xs.length/\Q .non (Y1s H l (xs++[y]))
def CL:MtM X "list.append" MG:=by
 intro c s σ H x w v j Q I g rv h;obtain⟨l,p,y,rfl,rfl,d,i,q⟩:=h;cases g;obtain⟨u,rfl,ru⟩:=rv.one;obtain⟨z,a,n,r,m,e⟩:=I.lstM d;refine call_meets F.slot_list_append (Y0j e) F.entry_list_append (F.args_list_append_2 _ _) (PySem.list_append l a.toArray n u (by rw[bF];exact Oo)) ⟨e,Y2j .non (I.lset (its':=a++[u]) d e (by simp) (r.append (Y9E ru)) ?_) q⟩;rw[aW,List.length_singleton];exact Oo
def ME:V->Y0W:=λx vs H Q=>∃l b xs zs,x=Y13/\vs=[Y0E]/\H l=Y0y/\H b=Y90/\Y0h Ye9/\Q .non (Y1s H l (xs++zs))
def PR:MtM X "list.extend" ME:=by
 intro i s σ H x N v G Q I m rv h;obtain⟨l,b,M,J,rfl,rfl,j,y,D,q⟩:=h;cases m;obtain⟨u,rfl,ru⟩:=rv.one;cases ru;obtain⟨z,c,n,r,L,e⟩:=I.lstM j;obtain⟨C,a,B,p,w,A⟩:=I.lstM y;have g:Y0h (c.toArray.size+a.toArray.size):=by rw[bF,bF];exact Oo
 have d:¬(! c.toArray.isEmpty&&Builtin.List.listTooLong (c.toArray.size+a.toArray.size))=true:=by
  rw[UI g,Bool.and_false];exact bZ
 refine call_meets F.slot_list_extend (Y0j e) F.entry_list_extend (F.args_list_extend_2 _ _)
  (AutoSeq1.list_extend_list_list_0 l c.toArray n b a.toArray B d (by rw[bF];exact Oo) Oo) (Y0w e A)
 refine Y2j .non (I.lset (its':=c++a) j e (by simp) (r.append p) ?_) q;rw[aW];exact Oo
def aEM:R2:=λx y H Q=>∃l b xs zs,x=Y13/\y=Y0E/\H l=Y0y/\H b=Y90/\Y0h Ye9/\∀p,H p=none->Y44 (Y1s H p (xs++zs))
def AM:Y49 X .Add aEM:=by
 intro d s σ H x y v u Q I g w h;obtain⟨l,b,L,G,rfl,rfl,p,m,D,q⟩:=h;cases g;cases w;obtain⟨z,c,n,r,J,e⟩:=I.lstM p;obtain⟨C,a,M,i,j,A⟩:=I.lstM m;refine PySem.P.add_list e A ?_ (by rw[bF,bF];exact Oo);have B:c.toArray++a.toArray=(c++a).toArray:=by simp
 rw[B];exact Y2j (.ref _) (I.lnew (t':=s.toks) (r.append i) (by rw[aW];exact Oo)) (q _ I.fresh)
end
section
variable{prog:Program}{w:World}{A:Around}{E:Y8}{s:Shared}
end
section
variable{X:Cx}
end
end L2
namespace Att
open PySem PySem.W PySem.Calls PyProof.Rows
def xQ{P:Params}{h:Heap}:∀(ns:Af) (vs:Ag),WellAll P h vs (ns.map WData.int)->Yb1 vs:=by
 intro ns
 induction ns with
 | nil =>
  intro vs w;rw[List.map_nil]at w;cases w;exact .nil
 | cons n ns ih =>
  intro vs w;rw[bC]at w;cases w with
  | cons a b =>
   cases a;exact .cons _ _ (ih _ b)
def OW{l:OpenLaw}{n:Nat}(hn:l.most=Y6u){P:Params}{h:Heap}{args:List WData}{vals:Ag}
  (hpre:l.row.toRowW.claim.pre args=true) (hwl:WellAll P h vals args) :
  ∃a vs ns,vals=[Y4b]/\args=[WData.list (ns.map WData.int)]/\Y7f=some { cls:=.type "list",data:=.seq vs.toArray }/\Yb1 vs/\Y66 n:=by
 have i:WShape.hasAll [] args [.list .int]=true:=(pre_splitW hpre).1;have j:l.pre.holds [] { args:=args }=true:=(pre_splitW hpre).2;obtain⟨d,r,rfl,m,w⟩:=hasAllW_cons i;obtain rfl:=hasAllW_nil w;obtain⟨x,rfl,p⟩:=hasW_list m;obtain⟨ns,rfl⟩:=items_int p;have c:Y66 n:=by
  unfold OpenLaw.pre at j;have e:(WTm.not (.lt (.lit (.int (n:Int))) (.len (.arg 0)))).holds [] { args:=[.list (ns.map .int)] }=true:=by
   have e:=(holds_andW j).1;rw[hn]at e;exact e
  have g:=condW_of e (w_not (w_lt w_lit (w_len_list (w_arg rfl))));rw[aA]at g;refine Nat.le_of_not_lt Ybk;have u:(n:Int)<((ns.length:Nat):Int):=Oo
  first
   | (rw[bH u]at g;exact Y7b g)
   | (simp at g;exact Oo)
 cases hwl with
 | cons w1 w2 =>
  cases w2;cases w1 with
  | list ho hall=>exact Y1Y _ _ ns rfl ho (xQ ns _ hall) c
def PD(l:OpenLaw)(args:List WData):l.row.toRowW.claim.post args (Y65) args=true :=
 postW_of (r:=l.row.toRowW) (X:=(true == true))
  (show WShape.has [] (.bool true) .bool=true by first | rfl | decide | simp[WShape.has,WShape.arms,WShape.armsAll])
  (show(WTm.eq .res (.lit (.bool true))).value [] { args:=args,res:=some (.bool true),after:=args }=some (.bool (true == true))from w_eq_bool (w_res rfl) w_lit) rfl
def IJ{l:OpenLaw}{n:Nat}{q:Program}{loose:Ah}{XP:(Y03)->Y4h}{YP:World->Y4h}{d:DefRec}
  (hn:l.most=Y6u) (hdf:d.params.defaults=[])
  (call:∀(w:World) (s₀ s₁:Shared) (mg mb:Y03) (fa:Addr) (o:Obj) (pm cd doc:Value) (a:Addr) (vs:Ag) (ns:Af),
   Ground q loose [] XP w s₀ mg mb s₁.heap->YP w s₁.heap ->
   Ycp fa Y5->o.data=.func (docDef d.name d.params d.body d.scope pm cd doc)->s₁.heap.CodeRec cd d.name->mg d.name=Y4 fa ->
   Ycp a (some { cls:=.type "list",data:=.seq vs.toArray })->Yb1 vs->Y66 n->s₁.gens=#[] ->
   Y70 (model l.prog w) callerA (.ref fa) ⟨Y30,[]⟩ (λr s'=>r=Yap Y65/\OldK s₁.heap s'.heap/\s'.os=s₁.os/\YaB) s₁) :
  WalkO q loose XP YP l.row.toRowW d [] (YfH f vs):=by
 intro w s₀ s₁ mg mb G Y fa o pm cd doc y kV C hd i x m A u vals O h p D j M;obtain rfl:y=.none:=Dflts.none x hdf;obtain rfl:kV=.none:=Dflts.noKw x;obtain⟨a,vs,ns,rfl,rfl,g,c,e⟩:=OW hn h j;refine enter_call (codeAny_mono (call w s₀ s₁ mg mb fa o pm cd doc a vs ns G Y C (fd_plain hd) i m g c e A) λr s' J=>?_);obtain⟨rfl,I,L,B⟩:=J;exact⟨.inl ⟨Y65,Y65,[],rfl,λ_=>rfl,Y65,PD l _,λ_=>⟨List.Pairwise.nil,λ_ N=>(nomatch N)⟩⟩,I,L,B⟩
section
variable{prog:Program}{w:World}{A:Around}{E:Y8}{s:Shared}{K:Frag}
end
end Att
namespace L2
open PySem PySem.Spec PyProof.Rows
theorem BW:∀{vs:Ag}{ns:Af},Yb1 vs->dG (Y5s) vs
 | _,_,.nil=>.nil
 | _,_,.cons n t h=>.cons ⟨t,rfl⟩ (BW h)
def aAR(H:Hp):Prop:=∀b,H b=none\/∃o xs,H b=Y8g o (.lst xs)
def UT{P:Program}{w:World}{K:Aa}{mg mb:Y03}{CX:LB}{k:Nat}{fa a:Addr}{fd:FuncData}{x:Str}{sp:Sp}{s₁:Shared}{vs:Ag}{ns:Af}
  (KX:K.In s₁.heap) (hns:s₁.heap.Ns mainGlobals mg) (hb:s₁.heap.Ns builtinsNs mb) (hbb:∀x:Str,x ≠ "__name__" -> mb x=Y6W) (hlim:s₁.heap.NoLimit) (hg:s₁.gens=#[])
  (ha:Ycp a (some { cls:=.type "list",data:=.seq vs.toArray })) (hi:Yb1 vs) (hl:Y0h ns.length) (hr:iJ k callerA)
  (F:∀base:Heap,K.In base->YbQ mg->cX P w K mg base CX k fa fd [x] sp) (hbind:∀(s:Shared) (u:Value),Ybe s ⟨[u],[]⟩ [(x,u)])
  (hsp:∀H:Hp,aAR H->hU K H a Y5s->sp Y30 H (λv _=>v=Y9Y) Y82)
  (hCX:∀H e s',CX [] H s₁ (Y82) e s'->False) :
  Y70 (model P w) callerA (.ref fa) ⟨Y30,[]⟩ (λr s'=>r=Yap Y65/\OldK s₁.heap s'.heap/\s'.os=s₁.os/\YaB) s₁:=by
 have rv:=BW hi;have A:=hi.length;have i:∀H:Hp,aAR H->hU K H a Y5s->mD P w H s₁.heap->(∀b,H b≠none->b=a)->(H a≠none->Yct=none) ->
   Y70 (model P w) callerA (.ref fa) ⟨Y30,[]⟩ (λr s'=>r=Yap Y65/\OldK s₁.heap s'.heap/\s'.os=s₁.os/\YaB) s₁:=by
  intro H L T p J Z;have c:∀{b:Addr} {o:Obj},Ycp b Y5->H b=none->(FC s₁.heap H).get? b=Y5:=λe n=>VC e n;have G:∀{b:Addr} {o:Obj} {j:YbY} {l:Nat},Ycp b Y5->o.data=.dict j l->H b=none:=λ{b o j l} e d=>by
   cases q:H b with
   | none=>rfl
   | some u =>
    have I:b=a:=J b (by rw[q];simp);subst I;rw[ha]at e;cases e;have U:Data.seq vs.toArray _=Data.dict j l:=d;cases U
  have g:∀{b:Addr} {m:Y03},s₁.heap.Ns b m->(FC s₁.heap H).Ns b m:=λ{b m} ⟨o,j,l,e,d,r⟩=>⟨o,j,l,c e (G e d),d,r⟩;have D:K.In (FC s₁.heap H):=λb o e=>c (KX b o e) (by
   cases q:H b with
   | none=>rfl
   | some u =>
    have I:b=a:=J b (by rw[q];simp);subst I;rw[Z (by rw[q];simp)]at e;cases e)
  have N:Mod K mg (FC s₁.heap H):=⟨D,g hns,⟨mb,g hb,hbb⟩,let ⟨mc,h1,h2⟩:=hlim;⟨mc,g h1,h2⟩⟩;have β:LA P w K mg (FC s₁.heap H) callerA [] s₁ H:=⟨rfl,N,λb o e=>ZW e,Nat.le_of_eq (QA _ _),trivial,λb hb=>absurd (show b∈([]:List Addr)from hb) (by simp),p,.of_eq hg⟩;refine codeAny_mono ((F _ D (g hns)).run callerA [] s₁ H ⟨Y30,[]⟩ Y30 Y30 _ _ hr β (hbind s₁ (Y7)) (Y9E rfl) (hsp H L T)) λr s' h=>?_;cases r with
  | error e=>exact(hCX H e s' h).elim
  | ok fl =>
   cases fl with
   | next=>exact False.elim h
   | brk=>exact False.elim h
   | cont=>exact False.elim h
   | ret u =>
    obtain⟨v,H',os,B,un,C,S,q⟩:=h;have R:v=Y9Y:=q;subst R;obtain rfl:u=Value.bool true:=S;refine⟨rfl,OldK.of_keep λb o e=>?_,os,B⟩;cases q:H b with
    | none=>exact un.keep b o e q (by intro z;exact absurd (show b∈([]:List Addr)from z) (by simp)) (by simp)
    | some u =>
     rcases L b with z | ⟨α,γ,z⟩
     ·rw[q]at z;cases z
     ·have O:=un.frzs b α _ z;obtain⟨M,_⟩:=p b _ z;obtain⟨X,_⟩:=C b _ O;rw[e]at M;cases M;exact X
 cases hk:Yct with
 | some o =>
  have e:=KX a o hk;rw[ha]at e;cases e;refine i (Ycu) (λ_=>Y21) (.inr ⟨_,vs.toArray,_,hk,rfl,rfl,rfl,by rw[bF,A];exact hl,by simpa using rv⟩) (λb u z=>by have y:(none:Option HO)=Yt:=z;cases y) (λb z=>Y4e z) λz=>Y4e z
 | none =>
  refine i (λb=>if b=a then Y8g ({ cls:=.type "list",data:=.seq vs.toArray }) (.lst (Y5s)) else none) (λb=>?_) (.inl (.inr ⟨{ cls:=.type "list",data:=.seq vs.toArray },Y1P⟩)) (λb u z=>?_) (λb z=>?_) λ_=>hk
  ·by_cases hb:b=a
   ·exact Y3L _ _ (if_pos hb)
   ·exact .inl (if_neg hb)
  ·by_cases hb:b=a
   ·have y:=(if_pos hb).symm.trans z;cases y;subst hb;exact⟨ha,by rw[aA];exact hl,vs,_,rv,ha⟩
   ·have y:=(if_neg hb).symm.trans z;cases y
  ·by_cases hb:b=a
   ·exact hb
   ·exact absurd (if_neg hb) z
def LJ{l:PySem.W.OpenLaw}{n k:Nat}{q:Program}{loose:Ah}{XP:(Y03)->Y4h}{YP:World->Y4h}{d:DefRec}{K:Params->Aa}{CX:World->LB}{sp:World->Sp}{x:Str}
  (hn:l.most=Y6u) (hn2:Y0h n) (hdf:d.params.defaults=[]) (hr:iJ k callerA)
  (hY:∀(w:World) (h:Heap),YP w h->(K w.params).In h)
  (F:∀(w:World) (mg:Y03) (fa:Addr) (h:Heap),(K w.params).In h->YdO mg->mg d.name=Y4 fa ->
   ∃fd:FuncData,(∀(s:Shared) (u:Value),Ybe s ⟨[u],[]⟩ [(x,u)]) /\
    ∀base:Heap,(K w.params).In base->YbQ mg->cX l.prog w (YaZ) mg base (CX w) k fa fd [x] (sp w))
  (hsp:∀(w:World) (H:Hp) (a:Addr) (ns:Af),Y66 n->aAR H->hU YaZ H a Y5s->sp w Y30 H (λv _=>v=Y9Y) Y82)
  (hCX:∀(w:World) (H:Hp) (s:Shared) (e:Value) (s':Shared),CX w [] H s (Y82) e s'->False) :
  PySem.W.WalkO q loose XP YP l.row.toRowW d [] (YfH f vs):=by
 refine Att.IJ hn hdf λw L p mg N fa o J O B a vs ns G Y M hd A m j i c y=>?_;have KX:=hY w _ Y;obtain⟨fd,I,r⟩:=F w mg fa _ KX G.T.g m;exact UT KX G.T.g G.T.b G.T.builtins G.T.nolimit y j i (aM c hn2) hr r I (λH D C=>hsp w H a ns c D C) λH e s'=>hCX w H p e s'
def RQ{l:PySem.W.OpenLaw}{n k:Nat}{q:Program}{loose:Ah}{XP:(Y03)->Y4h}{YP:World->Y4h}{d:DefRec}{K:Params->Aa}{CX:LB}{sp:Aa->Sp}{x:Str}
  (hn:l.most=Y6u) (hn2:Y0h n) (hdf:d.params.defaults=[]) (hr:iJ k callerA)
  (hY:∀(w:World) (h:Heap),YP w h->(K w.params).In h)
  (F:∀(w:World) (mg:Y03) (fa:Addr) (h:Heap),(K w.params).In h->YdO mg->mg d.name=Y4 fa ->
   ∃fd:FuncData,(∀(s:Shared) (u:Value),Ybe s ⟨[u],[]⟩ [(x,u)]) /\
    ∀base:Heap,(K w.params).In base->YbQ mg->cX l.prog w (YaZ) mg base CX k fa fd [x] (sp (YaZ)))
  (hsp:∀(K:Aa) (H:Hp) (a:Addr) (ns:Af),Y66 n->aAR H->hU K H a Y5s->sp K Y30 H (λv _=>v=Y9Y) Y82)
  (hCX:∀(H:Hp) (s:Shared) (e:Value) (s':Shared),CX [] H s (Y82) e s'->False) :
  PySem.W.WalkO q loose XP YP l.row.toRowW d [] (YfH f vs) :=
 LJ (K:=K) (CX:=λ_=>CX) (sp:=λw=>sp (YaZ)) hn hn2 hdf hr hY F (λw H a ns c i g=>hsp (YaZ) H a ns c i g) λ_ H s e s'=>hCX H s e s'
end L2
/- THE LAST THEOREM (shape;LID,My.* are yours):
   My.Adr: a structure of the addresses that your layer names (classes,functions);My.Txt K t: a structure (Prop) of the equations over K;
   My.txt_mk:{K} {implicit addresses ..} (e1:nsIn K mainGlobals "law" = some (some (.ref f))) (e2:K.lookup f=some ⟨oc,od,.func (fnOf "law" "law" params body scope dV kV doc pm an cdv ct),sl⟩) (e3:codeIn K cdv "law" = true) .. : ∃t,My.Txt K t
set_option maxRecDepth 100000 in
set_option maxHeartbeats 0 in
theorem PySem.Challenge.cw_LID_holds : PySem.Challenge.rw_LID.Holds := by
  w_on;o_law;k_head;(case hw=>w_witness2)
  k_fill
  refine L2.LJ (l:=PySem.Challenge.rw_LID) (n:=63) (k:=40) (x := "script") (CX:=λw=>..) (sp:=λ_=>My.sp_law) rfl Dd rfl ⟨rfl,Dd,Dd⟩ (λw h Y=>PySem.W.kIn_of Y) ?F ?S ?C
  case F =>
    intro w p e h KX G d;have T:∃t,My.Txt (L2.KOf KX) t:=by
      dsimp only[L2.KOf]                          -- K must stand as «<heap const> w.params» for k_is
      refine' My.txt_mk ?e1 ?e2 ?e3 ..
      (case e1=>PySem.W.k_is)                    -- in the order: a name -> its address -> its object -> its parts
      (case e2=>PySem.W.k_is)
      ..
    obtain⟨t,T⟩:=T;have g:=d.symm.trans (PySem.W.mg_of KX G T.law);cases g                                       -- e is the law's own address;exact⟨_,λs u=>.of_eq rfl,λbase c nb=>My.law_fn T c nb⟩     -- if «.of_eq rfl» comes too early: refine' ⟨_,?b,λbase c nb=>My.law_fn T c nb⟩;exact λs u=>.of_eq rfl
  case S=>exact λw H a j r m i=>..
  case C=>exact ..
(the tactic k_is has no namespace: write k_is) -/
namespace L2
open PySem PySem.Spec PyProof.Rows
def aAn(s:Stmt)(j:Nat):Stmt:=match s with
 | .ClassDef _ _ _ body _ _ _ _ _ _ _=>body.getD j (.Pass ⟨0,0,0,0⟩)
 | _=>.Pass ⟨0,0,0,0⟩
def qO(s:Stmt):Arguments:=match s with
 | .FunctionDef _ a _ _ _ _ _ _ _ _=>a
 | _=>{ posonlyargs:=[],args:=[],vararg:=none,kwonlyargs:=[],kw_defaults:=[],kwarg:=none,defaults:=[] }
def kO(s:Stmt):Y3b:=match s with
 | .FunctionDef _ _ b _ _ _ _ _ _ _=>b
 | _=>[]
def bA(s:Stmt):Scope:=match s with
 | .FunctionDef _ _ _ _ _ _ sc _ _ _=>sc
 | _=>{ kind:=.function,names:=[],isGenerator:=false,isCoroutine:=false }
abbrev cN:LB:=λ_ _ _ _ _ _=>False
abbrev E0:XK:=Y82
def aEU{X:Cx}:KP cN X E0:=λ_ _ _ _ _ _ _ h=>h.elim
structure hJ(K:Aa)(x qual:Str)(st:Stmt)(f:Addr)(fd:FuncData):Prop where
 ex:∃(oc:Value) (od:Y0u) (kV doc pm:Value) (an:Y0u) (cdv ct:Value) (osl:Y8d),
  fd=PySem.W.fnOf x qual (qO st) (kO st) (Y3X) .none kV doc pm an cdv ct/\YeI=some ⟨oc,od,.func fd,osl⟩/\YdX cdv qual=true
 kp:YbG K f=true
section
variable{P:Program}{w:World}{K:Aa}{mg:Y03}{base:Heap}
def hJ.ok{x qual:Str}{st:Stmt}{f:Addr}{fd:FuncData}{N ps:Ah}{k:Nat}{sp:Sp}(F:Yb x qual st)(S:Yc N ps st)(len:∀vs H Q E,sp vs H Q E->Y9n)
  (hbody:∀(cdv:Value) (A:Around) (outer:Y1t) (s:Shared) (H:Hp) (vs:Al) (Q:VK) (E:XK),iJ k (Y9p qual Y3X f cdv)->sp vs H Q E ->
   ∃t,KS (oQ cN P w K mg base N qual (Y3X) f cdv A outer s H E).nox (kO st) t/\t { nx:=λ_ H'=>Q .non H',rt:=Q } (Ya7 N) H):cX P w K mg base cN (k+1) f fd ps sp:=by
 obtain⟨m,p,kV,e,j,l,cdv,ct,d,rfl,i,a⟩:=F.ex;refine aBm i a S len λA outer s H vs Q E g c=>?_;obtain⟨t,h,q⟩:=hbody cdv A outer s H vs Q E g c;exact⟨t,h.nox,q⟩
def hJ.binds{x qual:Str}{st:Stmt}{f:Addr}{fd:FuncData}{ps:Ah}(F:Yb x qual st)
  (h:∀(kV doc pm:Value) (an:Y0u) (cdv ct:Value) (us:Ag),Y79 ps.length->bindArgs (PySem.W.fnOf x qual (qO st) (kO st) (Y3X) .none kV doc pm an cdv ct) ⟨us,[]⟩=pure (Yb4)):vN K fd ps []:=by
 obtain⟨d,e,kV,doc,pm,an,cdv,ct,c,rfl,g,a⟩:=F.ex;exact .all (h kV doc pm an cdv ct)
def FE{x qual:Str}{st:Stmt}{f:Addr}{oc:Value}{od an:Y0u}{osl:Y8d}{kV doc pm cdv ct:Value}(l:YeI=some ⟨oc,od,.func (PySem.W.fnOf x qual (qO st) (kO st) (Y3X) .none kV doc pm an cdv ct),osl⟩)
  (c:YdX cdv qual=true) (k:YbG K f=true):hJ K x qual st f (PySem.W.fnOf x qual (qO st) (kO st) (Y3X) .none kV doc pm an cdv ct):=⟨⟨oc,od,kV,doc,pm,an,cdv,ct,osl,rfl,l,c⟩,k⟩
end
def vY{n:Nat}(h:n<=1000):YaV n:=bK h Dd
section
variable{X:Cx}
def pv(i:Nat){x:Str}{pos:Pos}(hN:Y1W=Y9:=by rfl)(hv:YbZ x:=by first | exact Or.inl rfl | exact Or.inr (Or.inl rfl) | exact Or.inr (Or.inr rfl))(hd:Y0Y ("__debug__" : Str):=by decide)
  (hcd:Y0Y ("__classdict__" : Str):=by decide):Yj Y5J (aBP i):=aDd hN hv hd hcd
end
def gA{A B:Prop}(h:B):if false=true then A else B:=by
 rw[if_neg bZ];exact h
def fJ{A B:Prop}(h:A):if true=true then A else B:=by
 rw[Y1P];exact h
def aE0{c A B:Prop}[Decidable c](h1:c->A)(h2:¬c->B):if c then A else B:=by
 by_cases h:c
 ·rw[Y8u];exact h1 h
 ·rw[Y6i];exact h2 h
def aV(H H':Hp):Prop:=Y0I (H b=Y5) (Y1q=Y5)
def aV.refl(H:Hp):aV H H:=λ_ _ h=>h
def aV.trans{H H1 H2:Hp}(a:aV H H1)(b:aV H1 H2):aV H H2:=λc o h=>b c o (a c o h)
def aV.free{H H':Hp}(e:Y0){l:Addr}(h:H' l=Option.none):H l=Option.none:=by
 cases q:H l with
 | none=>rfl
 | some o =>
  rw[e l o q]at h;cases h
section
variable{κ:Type}[DecidableEq κ]
def fK(kvs:Y2X)(k:κ):An:=(kvs.find? λkv=>decide (kv.1=k)).map (·.2)
def kB(kvs:Y2X)(k:κ)(v:V):Y2X :=
 if Ya9 (λkv=>Yr kv.1 k) true then YaQ (if kv.1=k then(kv.1,v) else kv) else kvs++[(k,v)]
def iP{p:κ × V}{r:Y2X}{k:κ}(e:p.1=k):fK (p::r) k=some p.2:=by simp[fK,List.find?_cons,e]
def iQ{p:κ × V}{r:Y2X}{k:κ}(e:¬p.1=k):fK (p::r) k=fK r k:=by simp[fK,List.find?_cons,e]
theorem lU(k:κ):∀kvs:List (κ × V),Ya9 (λkv=>Yr kv.1 k) ((Y4D).isSome)
 | []=>rfl
 | p::r=>by
  rw[List.any_cons];by_cases e:p.1=k
  ·simp only[iP e,bH e,Bool.true_or,Option.isSome_some]
  ·rw[iQ e,bP e,Bool.false_or];exact lU k r
theorem GE(k j:κ)(y:V):∀kvs:List (κ × V),fK (YaQ (if kv.1=k then(kv.1,y) else kv)) j=(fK kvs j).map λx=>if j=k then y else x
 | []=>rfl
 | p::r=>by
  have ih:=GE k j y r;rw[bC];by_cases h:p.1=k
  ·rw[if_pos h];by_cases e:p.1=j
   ·rw[iP (p:=(p.1,y)) e,iP e,Option.map_some,if_pos (e.symm.trans h)]
   ·rw[iQ (p:=(p.1,y)) e,iQ e,ih]
  ·rw[if_neg h];by_cases e:p.1=j
   ·rw[iP (p:=p) e,iP e,Option.map_some,if_neg (λz=>h (e.trans z))]
   ·rw[iQ (p:=p) e,iQ e,ih]
theorem BY(k j:κ)(y:V):∀kvs:List (κ × V),Y4D=none->fK (kvs++[(k,y)]) j=if j=k then Y00 else Y6Z j
 | [],_=>by
  by_cases e:k=j
  ·rw[if_pos e.symm];exact iP (p:=(k,y)) e
  ·rw[if_neg (λz=>e z.symm)];exact iQ (p:=(k,y)) e
 | p::r,hn=>by
  rw[List.cons_append];have hk:¬p.1=k:=λz=>by rw[iP z]at hn;cases hn
  rw[iQ hk]at hn;have a:=BY k j y r hn;by_cases e:p.1=j
  ·rw[iP e,iP e,if_neg (λz=>hk (e.trans z))]
  ·rw[iQ e,iQ e,a]
def uE(kvs:Y2X)(k j:κ)(y:V):fK (Y4z k y) j=if j=k then Y00 else Y6Z j:=by
 unfold kB;by_cases a:Ya9 (λc=>Yr c.1 k) true
 ·rw[if_pos a,GE];rw[lU]at a;by_cases e:j=k
  ·obtain⟨x,d⟩:=Option.isSome_iff_exists.mp a;rw[Y9X,e,d,Option.map_some,Y1P]
  ·rw[Y6j];cases Y6Z j with
   | none=>rfl
   | some x=>rw[Option.map_some,Y6j]
 ·rw[if_neg a];refine BY k j y kvs ?_;rw[lU]at a;cases q:Y4D with
  | none=>rfl
  | some x=>rw[q]at a;exact(a rfl).elim
def kE(kvs:Y2X)(k:κ)(v:V):(Y4z k v).length<=kvs.length+1:=by
 unfold kB;split
 ·rw[aA];exact Oo
 ·rw[aW,bM,List.length_nil];exact Oo
def GY{kvs:Y2X}{k:κ}(v:V)(h:Y4D=none):Y4z k v=kvs++[(k,v)]:=by
 unfold kB;rw[lU,h];exact Y9F
def qY.isSome_eq{o:An}{u:Y7P}(r:qY o u):o.isSome=u.isSome:=by
 cases o with
 | none=>cases u with
  | none=>rfl
  | some _=>exact(show False from r).elim
 | some _=>cases u with
  | none=>exact(show False from r).elim
  | some _=>rfl
theorem qY.getD{o:An}{u:Y7P}{d:V}{d':Value}(r:qY o u)(rd:dN d d'):dN (o.getD d) (u.getD d'):=by
 cases o with
 | none=>cases u with
  | none=>exact rd
  | some _=>exact(show False from r).elim
 | some _=>cases u with
  | none=>exact(show False from r).elim
  | some _=>exact r
def KV.val{kvs:Y2X}{vs:Y5C κ}(r:Y7J)(k:κ):qY (Y4D) (YcU vs):=by
 unfold KV at r
 induction r with
 | nil=>exact True.intro
 | @cons p q ps qs h t ih =>
  obtain⟨c,d⟩:=h;by_cases e:p.1=k
  ·have a:q.1=k:=c.symm.trans e;have b:YcU (q::qs)=some q.2:=by simp[valueAt,List.find?_cons,a]
   rw[iP e,b];exact d
  ·have a:¬q.1=k:=λz=>e (c.trans z);have b:YcU (q::qs)=YcU qs:=by simp[valueAt,List.find?_cons,a]
   rw[iQ e,b];exact ih
theorem KV.any{kvs:Y2X}{vs:Y5C κ}(r:Y7J)(k:κ):Ya9 (λkv=>Yr kv.1 k) (vs.any λkv=>Yr kv.1 k):=by
 unfold KV at r
 induction r with
 | nil=>rfl
 | cons h t ih=>rw[List.any_cons,List.any_cons,ih,h.1]
def KV.repl{kvs:Y2X}{vs:Y5C κ}(r:Y7J)(k:κ){y:V}{u:Value}(ry:Y3n) :
  KV (YaQ (if kv.1=k then(kv.1,y) else kv)) (vs.map λkv=>if kv.1=k then(kv.1,u) else kv):=by
 unfold KV at r ⊢
 induction r with
 | nil=>exact .nil
 | @cons p q ps qs h t ih =>
  rw[bC,bC];refine Ya6 ?_;obtain⟨a,c⟩:=h;by_cases e:p.1=k
  ·rw[Y9X,if_pos (a.symm.trans e)];exact⟨a,ry⟩
  ·rw[Y6j,if_neg (λz=>e (a.trans z))];exact⟨a,c⟩
def KV.put{kvs:Y2X}{vs:Y5C κ}(r:Y7J)(k:κ){y:V}{u:Value}(ry:Y3n):KV (Y4z k y) (stored vs k u):=by
 unfold kB stored;rw[r.any k];by_cases e:(vs.any λa=>Yr a.1 k)=true
 ·rw[Y9X,Y9X];exact r.repl k ry
 ·rw[Y6j,Y6j];exact Paired.snoc r (Y0l ry)
theorem KV.length{kvs:Y2X}{vs:Y5C κ}(r:Y7J):kvs.length=vs.length:=Paired.length r
end
def CO{P:Program}{w:World}{k:fF}{u:Value}(r:dN (kV k) u):(eW P w).is k u=true:=by
 cases k with
 | inl i=>obtain⟨t,e⟩:=(show ∃t,u=Value.int i t from r);subst e;exact HC P w i t
 | inr x=>obtain⟨t,e⟩:=(show ∃t,u=Value.str x t from r);subst e;exact HB P w x t
theorem CP{P:Program}{w:World}:∀{ks:Y4N}{us:Ag},Y1T (ks.map kV)->ItemsAre (eW P w) ks us
 | [],_,r=>by rw[List.map_nil]at r;cases r;exact .nil
 | k::ks,_,r=>by
  rw[bC]at r;cases r with
  | cons h t=>exact .cons (CO h) (CP t)
abbrev KT(H:Hp):Y17 Y04 Yae:=Paired λp q=>p.1=q.1/\H q.2.1=Yl (p.1.map kV)/\dN p.2 q.2.2
def KT.val{H:Hp}{kvs:Y04}{xs:Yae}(r:KT H kvs xs)(k:Y4N):qY (Y4D) ((atKey xs k).map (·.2)):=by
 induction r with
 | nil=>exact True.intro
 | @cons p q ps qs h t ih =>
  obtain⟨c,_,d⟩:=h;by_cases e:p.1=k
  ·have a:q.1=k:=c.symm.trans e;have b:atKey (q::qs) k=some q.2:=by simp[atKey,List.find?_cons,a]
   rw[iP e,b];exact d
  ·have a:¬q.1=k:=λz=>e (c.trans z);have b:atKey (q::qs) k=atKey qs k:=by simp[atKey,List.find?_cons,a]
   rw[iQ e,b];exact ih
def KT.repl{H:Hp}{kvs:Y04}{xs:Yae}(r:KT H kvs xs)(k:Y4N){y:V}{u:Value}(ry:Y3n) :
  KT H (YaQ (if kv.1=k then(kv.1,y) else kv)) (xs.map (putAt k u)):=by
 induction r with
 | nil=>exact .nil
 | @cons p q ps qs h t ih =>
  rw[bC,bC];refine Ya6 ?_;obtain⟨a,c,d⟩:=h;unfold putAt;by_cases e:p.1=k
  ·rw[Y9X,if_pos (a.symm.trans e)];exact Y4A c ry
  ·rw[Y6j,if_neg (λz=>e (a.trans z))];exact Y4A c d
def KT.put{H:Hp}{kvs:Y04}{xs:Yae}(r:KT H kvs xs)(k:Y4N){b:Addr}{y:V}{u:Value}(hb:H b=YaU kV)(ry:Y3n) :
  KT H (Y4z k y) (storedH xs k b u):=by
 have e:Ya9 (λa=>Yr a.1 k) ((atKey xs k).isSome):=by
  rw[lU,(r.val k).isSome_eq,Option.isSome_map]
 unfold kB storedH;rw[e];by_cases q:(atKey xs k).isSome=true
 ·rw[Y6h,Y6h];exact r.repl k ry
 ·rw[Y3f,Y3f];exact Paired.snoc r ⟨rfl,hb,ry⟩
def KT.keeps{H H':Hp}{kvs:Y04}{xs:Yae}(r:KT H kvs xs)(ht:∀b ys,H b=Y7E->Y1q=Y7E):KT H' kvs xs :=
 Paired.mapP r λ_ _ z=>⟨z.1,ht _ _ z.2.1,z.2.2⟩
section
variable{P:Program}{w:World}{H:Hp}{h:Heap}{a:Addr}
def aBa{u:HO}(ok:Y2a)(e:Rd H a u):dU P w H h a u:=e.ok ok
def DA{kvs:Y26}(ok:Y2a)(e:Rd H a (.dK kvs)):Yc3/\Y6Y a/\∃vs,Y7J/\h.DictOf (eW P w) a vs :=
 show dU P w H h a (.dK kvs)from aBa ok e
def aBp{kvs:Y26}(ok:Y2a)(e:H a=Yaf):Yc3/\Y6Y a/\∃vs,Y7J/\h.DictOf (eW P w) a vs:=DA ok (.inl e)
def rO{ks:Y4N}(ok:Y2a)(e:H a=Yl (ks.map kV)):(tupleKind (eW P w)).is h ks a:=by
 obtain⟨_,c,r,o,d,i,n,g⟩:=(show dU P w H h a (.tup (ks.map kV))from ok a _ e);exact⟨o,c.toArray,n,d,i,g,by simpa using CP r⟩
def CZ{kvs:Y04}(ok:Y2a)(e:Rd H a (.dT kvs)):Yc3/\Y6Y a /\
  ∃xs,KT H kvs xs/\h.DictOfH (Yc8 P w) a xs:=by
 obtain⟨z,y,xs,r,o,d,g,B,j,A,i,u⟩:=(show dU P w H h a (.dT kvs)from aBa ok e);refine⟨z,y,xs,r,o,d,g,B,j,A,i,λx c=>?_,u⟩;have all:∀{l:Y04} {m:Yae},KT H l m->∀x∈m,(tupleKind (eW P w)).is h x.1 x.2.1:=by
  intro l m q
  induction q with
  | nil=>intro x c;exact nomatch c
  | @cons p q ps qs hq t ih =>
   intro x c;rcases Y7q with e | c
   ·subst e;exact rO ok (by rw[<-hq.1];exact hq.2.1)
   ·exact ih x c
 exact all r x c
def aBo{kvs:Y04}(ok:Y2a)(e:H a=Y25):Yc3/\Y6Y a /\
  ∃xs,KT H kvs xs/\h.DictOfH (Yc8 P w) a xs:=CZ ok (.inl e)
end
def pR(H:Hp)(a:Addr)(y:V)(r:An):Prop :=
 (∃kvs k,Rd H a (.dK kvs)/\y=kV k/\r=Y4D)\/∃kvs k b,Rd H a (.dT kvs)/\y=Y0E/\H b=YaU kV/\r=Y4D
def FU(H:Hp)(a:Addr)(y v:V)(H':Hp):Prop :=
 (∃kvs k,H a=Yaf/\y=kV k/\Ye3/\H'=Y1c (.dK (Y4z k v))) \/
 ∃kvs k b,H a=Y25/\y=Y0E/\H b=YaU kV/\Ye3/\H'=Y1c (.dT (Y4z k v))
theorem pR.k{H:Hp}{a:Addr}{kvs:Y26}{k:fF}(e:H a=Yaf):pR H a (kV k) (Y4D):=.inl (Y3z kvs k (.inl e) rfl)
def pR.t{H:Hp}{a b:Addr}{kvs:Y04}{k:Y4N}(e:H a=Y25)(eb:H b=YaU kV):pR H a (Y0E) (Y4D):=.inr ⟨kvs,k,b,.inl e,rfl,eb,rfl⟩
theorem FU.k{H:Hp}{a:Addr}{kvs:Y26}{k:fF}{v:V}(e:H a=Yaf)(hl:Ye3):FU H a (kV k) v (Y1c (.dK (Y4z k v))):=.inl ⟨kvs,k,e,rfl,hl,rfl⟩
def FU.t{H:Hp}{a b:Addr}{kvs:Y04}{k:Y4N}{v:V}(e:H a=Y25)(eb:H b=YaU kV)(hl:Ye3) :
  FU H a (Y0E) v (Y1c (.dT (Y4z k v))):=.inr (Y1Y kvs k b e eb hl rfl)
section
variable{X:Cx}{pins:Ad}{σ:St}{H:Hp}{s:Shared}{a:Addr}{y v:V}{u r:Value}{o:An}{A:Around}{E:Y8}
def cF.big(I:Y2):Y5v sysModules:=by
 have h:Y5v mainGlobals:=(Yfc).lt;exact Nat.lt_trans Dd h
def QI{Q:Y8}(hu:Y7y 1<cLine)(I:Y2)(g:pR H a y (Yq))(ry:Y3n)(h:∀w' s',Y5r s'->dN v w'->Q w' s') :
  Y6L A (getItem (Y7) u) Q E s:=by
 rcases g with⟨j,k,e,r,l⟩ | ⟨j,k,b,e,r,C,l⟩
 ·subst r;obtain⟨z,hd,G,d,m⟩:=DA I.hok e;obtain⟨w',i,c⟩:=Yfe (YcU G) (by rw[l];exact d.val k);exact wpAny_getItem_of (CO ry) m.mapOf i (h w' _ (Y0S) c)
 ·subst r;cases(show u=Value.ref b from ry);obtain⟨z,hd,D,d,m⟩:=CZ I.hok e;obtain⟨w',i,c⟩:=Yfe ((atKey D k).map (·.2)) (by rw[l];exact d.val k);obtain⟨p,B,x⟩:=Option.map_eq_some_iff.mp i;refine wpAny_getItem_heap (Ydb) (rO I.hok C) m B ?_;rw[x];exact h w' _ (Y0S) c
def aG4{Q:Y8}(hu:Y7y 1<cLine)(I:Y2)(g:pR H a y o)(ry:Y3n)(h:∀s',Y5r s'->Q (.bool o.isSome) s') :
  Y6L A (compareOp .In u (Y7)) Q E s:=by
 rcases g with⟨i,k,e,j,l⟩ | ⟨i,k,b,e,j,m,l⟩
 ·subst j;obtain⟨z,hd,p,c,d⟩:=DA I.hok e;refine wpAny_in_of (CO ry) hd d.mapOf ?_;rw[<-(c.val k).isSome_eq,<-l];exact h _ (Y0S)
 ·subst j;cases(show u=Value.ref b from ry);obtain⟨z,hd,r,c,d⟩:=CZ I.hok e;refine wpAny_in_heap (Ydb) (rO I.hok m) hd d ?_;have q:=(c.val k).isSome_eq;rw[Option.isSome_map]at q;rw[<-q,<-l];exact h _ (Y0S)
def vF{h':Heap}{t':Nat}{ob:HO}(I:Y2)(mu:Mut (H a))(hs:Y9f a h')(he:∃q,Y61 a (some q))(new:dU X.prog X.w (Y1c ob) h' a ob) :
  Y1N (Y1c ob) ({ s with heap:=h',toks:=t' }) :=
 Yfy a a mu (λb q c z=>(hs.2 b c).trans z) he new
def VN{P:Program}{w:World}{H':Hp}{h':Heap}{kvs:Y26}{vs:Y5C fF}(z:Yc3)(hd:Y6Y a)(rel:Y7J)(dd:h'.DictOf (eW P w) a vs) :
  dU P w H' h' a (.dK kvs):=⟨z,hd,vs,rel,dd⟩
def QH{H':Hp}{Q:Y3J}(hu:Y7y 1<cLine)(I:Y2)(g:FU H a y v H')(ry:Y3n)(rv:dN v r)(h:∀s',Y5e s'->Q () s') :
  Y6L A (setItem (Y7) u r) Q E s:=by
 rcases g with⟨d,k,e,D,l,p⟩ | ⟨d,k,b,e,D,L,l,p⟩
 ·subst D p;obtain⟨z,hd,U,i,B⟩:=aBp I.hok e;have x:Y0h U.length:=by rw[<-i.length];exact z
  have C:Y0h ((kB d k v).length):=by have:=kE d k v;exact Oo
  refine wpAny_setItem_pairs (hsz:=x) (CO ry) B λG j hs=>h _ ?_;have W:∃q,G.get? a=some q:=let ⟨q,_,_,m,_⟩:=j;⟨q,m⟩;exact vF I (by rw[e];exact True.intro) hs W (VN C hd (i.put k rv) j)
 ·subst D p;cases(show u=Value.ref b from ry);obtain⟨z,hd,T,i,B⟩:=aBo I.hok e;have x:Y0h T.length:=by rw[<-Paired.length i];exact z
  have C:Y0h ((kB d k v).length):=by have:=kE d k v;exact Oo
  refine wpAny_setItem_heap (hsz:=x) (Ydb) (rO I.hok L) B λG j hs=>h _ ?_;obtain⟨q,M,N,m,P,S,O,_,R⟩:=j;refine vF I (by rw[e];exact True.intro) hs ⟨q,m⟩ ⟨C,hd,_,(i.put k L rv).keeps λc Z J=>?_,q,M,N,m,P,S,O,R⟩;rw[cH (CK J e (λz=>nomatch z))];exact J
end
section
variable{X:Cx}{pins:Ad}{σ:St}{H:Hp}{s:Shared}{a:Addr}{kvs:Y26}{k:fF}{u:Value}{A:Around}{E:Y8}
end
def aD9(i:Expr):Prop:=∀ov iv,YdY i ov iv=Yg4 [ov,iv] ov iv
def YE{prog:Program}{w:World}{A:Around}{E:Y8}{s:Shared}{env:Env}{value slice:Expr}{pos:Pos}{T id:String}{Q:Y8}
  (hl:YfG T "__getitem__" = pure (Y93 id)) (hs:aD9 slice)
  (h:wpAny (model prog w) A (Y1S value) (λo s₁=>wpAny (model prog w) A (Y1S slice) (λi s₂=>s₂.TypeIs o T/\wpAny (model prog w) A (getItem o i) Q E s₂) E s₁) E s) :
  Y0U (Y1S (Y9m value slice)):=by
 refine Subscript_ (Yef h (λo s₁ j=>Yef j (λi s₂ c=>?_)));obtain⟨e,c⟩:=c;unfold subscriptTail;refine Y39;rw[getitemInPython_of_ne e.not_modules];refine wpAny_bind (wpAny_specialOf e hl ?_);have a:wpAny (model prog w) A (YdY slice o i) (λr d=>wpAny (model prog w) A (letTemporaryGo value o r >>= λ_=>pure r) Q E d) E s₂:=by
  rw[hs o i];exact wpAny_operating (Yef c (λr d g=>wpAny_bind (wpAny_letTemporaryGo (wpAny_pure g))))
 first
  | exact wpAny_pure (wpAny_bind a)
  | exact Y5q (wpAny_bind a)
  | exact wpAny_bind a
def HP{X:Cx}{pins:Ad}{σ:St}{H:Hp}{s:Shared}{a:Addr}{y:V}{o:An}(I:Y2)(g:pR H a y o):s.TypeIs (Y7) "dict" := by
 rcases g with⟨d,k,e,_,_⟩ | ⟨d,k,b,e,_,_,_⟩
 ·obtain⟨_,_,h,_,c⟩:=DA I.hok e;exact c.typeIs
 ·obtain⟨_,_,i,_,c⟩:=CZ I.hok e;exact c.typeIs
def aEA(td ty:TE):TE:=λσ H Q=>td σ H λx H1=>ty σ H1 λy H2=>∃a v,x=Y7/\pR H2 a y (Yq)/\Q v H2
def aEF(td ty tv:TE):TS:=λD σ H=>tv σ H λv H1=>td σ H1 λx H2=>ty σ H2 λy H3=>∃a H4,x=Y7/\FU H3 a y v H4/\Y6X H4
section
variable{X:Cx}{o i e value:Expr}{pos pos' tpos:Pos}{td ty tv:TE}
def ZP(hu:Y2u 1<cLine)(ho:Yj o td)(hi:Yj i ty)(hs:aD9 i):Yj (Y9m o i) (aEA td ty):=by
 intro c s σ H Q I h;refine YE PySem.F.slot_dict_getitem.lookup hs (thn (ho c s σ H _ I h) λu r ⟨x,H1,I1,e,j⟩=>thn (hi c r σ H1 _ I1 j) λD B ⟨y,H2,I2,m,a,v,l,g,p⟩=>?_);subst l;obtain rfl:u=Y4b:=e;exact⟨HP I2 g,QI hu I2 g m λw C I3 d=>⟨v,H2,I3,d,p⟩⟩
def ZJ(hu:Y2u 1<cLine)(ho:Yj o td)(hi:Yj i ty)(hv:Yj value tv)(hs:Yb2 value (Ye6 o i)=Y5y) :
  PS X (Y8h [Ye6 o i] value) (aEF td ty tv):=by
 intro c s σ H D I h;refine wpAny_Assign_Subscript (thn (hv c s σ H _ I h) λr B ⟨v,H1,I1,rv,l⟩=>thn (ho c B σ H1 _ I1 l) λu j ⟨x,H2,I2,e,w⟩=>thn (hi c j σ H2 _ I2 w) λJ C ⟨y,H3,I3,p,a,H4,m,g,d⟩=>?_) hs;subst m;obtain rfl:u=Y4b:=e;exact QH hu I3 g p rv λG I4=>⟨σ,H4,I4,d⟩
end
def VO{P:Program}{w:World}{H:Hp}(h:Heap)(hb:YeF sysModules):dU P w H (h.push { cls:=.type "dict",data:=.dict #[] }) h.objs.size (.dK []) :=
 ⟨Y1z,beq_eq_false_iff_ne.mpr (Ne.symm (cJ hb)),[],.nil,Heap.DictOf.new h⟩
def BD{P:Program}{w:World}{H:Hp}(h:Heap)(hb:YeF sysModules):dU P w H (h.push { cls:=.type "dict",data:=.dict #[] }) h.objs.size (.dT []) :=
 ⟨Y1z,beq_eq_false_iff_ne.mpr (Ne.symm (cJ hb)),[],.nil,_,#[],0,Y14,Y0Q rfl rfl,rfl,rfl,List.nodup_nil⟩
def SB:TE:=λ_ H Q=>∀p,H p=none->Y44 (Ybi p [])
section
variable{X:Cx}{pos:Pos}
def pe_dnewT:Yj (.Dict [] [] pos) SB:=λc s σ H Q I h =>
 wpAny_Dict_empty (Y2j Y19 (I.laid (a:=s.heap.objs.size) (o:=.dT []) (t':=s.toks) (Yc9 q) (Yk) (BD s.heap I.big)) (h _ (Y5m)))
end
def JF:Y36 TE TE->St->Y6G (Y1l (Y36 V V))
 | [],_,H,Q=>Q [] H
 | (tk,tv)::r,σ,H,Q=>tk σ H λx H1=>tv σ H1 λy H2=>JF r σ H2 λps H3=>Q ((x,y)::ps) H3
abbrev VV:Y17 (Y36 V V) (Y5C Value):=Paired λp q=>dN p.1 q.1/\dN p.2 q.2
def PPs(X:Cx)(pos:Pos)(keys:Y86 Expr)(values:Yz)(trs:Y36 TE TE):Prop :=
 ∀(pins:Ad) (s:Shared) (σ:St) (H:Hp) (Q:Y1l (Y36 V V)),Y2->JF trs σ H Q ->
  Y4q (evalPairs (pairTrees keys values X.env pos)) (λvs s'=>∃ps H',Y5e s'/\VV ps vs/\Q ps H')
def pps_nil{X:Cx}{pos:Pos}:PPs X pos [] [] []:=λa s σ H Q I h=>pairTrees_nil_walk ⟨[],H,I,.nil,h⟩
def TY{X:Cx}{pos:Pos}{k v:Expr}{ks:Y86 Expr}{vs:Yz}{tk tv:TE}{trs:Y36 TE TE}(hk:Yj k tk)(hv:Yj v tv)(hr:PPs X pos ks vs trs) :
  PPs X pos (some k::ks) (v::vs) ((tk,tv)::trs):=λa s σ H Q I h =>
 pairTrees_cons_walk (thn (hk a s σ H _ I h) λu p ⟨x,H1,I1,e,j⟩=>thn (hv a p σ H1 _ I1 j) λA g ⟨y,H2,I2,l,m⟩ =>
  thn (hr a g σ H2 _ I2 m) λr w ⟨i,H3,I3,c,d⟩=>⟨(x,y)::i,H3,I3,.cons ⟨e,l⟩ c,d⟩)
def AT(kvs more:Y26):Y26:=more.foldl (λacc kv=>kB acc kv.1 kv.2) kvs
def KV.merge:∀{more:Y26}{rs:Y5C fF}{kvs:Y26}{vs:Y5C fF},KV more rs->Y7J->KV (AT kvs more) (merged vs rs):=by
 intro more rs kvs vs r;unfold KV at r
 induction r generalizing kvs vs with
 | nil=>intro q;exact q
 | @cons p q ps qs h t ih =>
  intro a;have e:KV (Y4z p.1 p.2) (stored vs q.1 q.2):=by
   have:=a.put p.1 h.2;rw[<-h.1];exact this
  exact ih e
theorem sY:∀(more kvs:Y26),(AT kvs more).length<=kvs.length+more.length
 | [],kvs=>by show kvs.length<=kvs.length+0;exact Oo
 | p::r,kvs=>by
  have h1:=sY r (kB kvs p.1 p.2);have a:=kE kvs p.1 p.2;show(AT (kB kvs p.1 p.2) r).length<=_;rw[bM];exact Oo
theorem BI{P:Program}{w:World}:∀{kvs:Y26}{ws:Y5C Value},VV (YaQ (kV kv.1,kv.2)) ws->∃rs,Carries (eW P w) ws rs/\KV kvs rs
 | [],_,r=>by rw[List.map_nil]at r;cases r;exact⟨[],True.intro,.nil⟩
 | p::kvs,_,r=>by
  rw[bC]at r;cases r with
  | @cons a b as bs h t =>
   obtain⟨rs,c,q⟩:=BI (P:=P) (w:=w) t;obtain⟨e,d⟩:=b;exact⟨(p.1,d)::rs,⟨CO h.1,rfl,c⟩,.cons ⟨rfl,h.2⟩ q⟩
def aA6(trs:Y36 TE TE):TE:=λσ H Q=>∀p,H p=none->JF trs σ (Y3G p (.dK [])) λps H2=>H2 p=Y9h []/\∃kvs:List (fF × V),ps=YaQ (kV kv.1,kv.2)/\YaW 15/\Y44 (upd H2 p (.dK (AT [] kvs)))
def ZO{X:Cx}{pos:Pos}{keys:Y86 Expr}{values:Yz}{trs:Y36 TE TE}(h:PPs X pos keys values trs)(hall:keys.all (·.isSome)=true)(hl:keys.length=values.length)(h0:keys≠[])
  (h15:keys.length<=15):Yj (.Dict keys values pos) (aA6 trs):=by
 intro i s σ H Q I q;have u:=Yfk;have I1:=I.laid (a:=s.heap.objs.size) (o:=.dK []) (h':=s.heap.push { cls:=.type "dict",data:=.dict #[] }) (t':=s.toks) (Yc9 q) (Yk) (VO s.heap I.big);refine wpAny_Dict_walk (knd:=eW X.prog X.w) hall hl h0 h15 (thn (h i _ σ _ _ I1 (q _ u)) λJ G ⟨L,H2,I2,j,e,d,l,M,y⟩=>?_);subst l;obtain⟨r,c,x⟩:=BI (P:=X.prog) (w:=X.w) j;obtain⟨z,hd,m,B,A⟩:=aBp I2.hok e;cases B;refine⟨r,c,A,λh' g hs=>Y2j Y19 ?_ y⟩;have p:Y0h ((AT [] d).length):=by
  have C:=sY d [];rw[List.length_nil]at C;rw[sizeLine_eq];exact Oo
 have D:∃q,Yfs (some q):=let ⟨q,_,_,hq,_⟩:=g;⟨q,hq⟩;exact vF I2 (by rw[e];exact True.intro) hs D (VN p hd (x.merge .nil) g)
structure M2(X:Cx)(o:Expr)(m:Str)(apos:Pos)(e f:Expr)(cpos:Pos):Prop where
 base:attributeBase o m X.env (Y0g o)=Y0g o
 few:((backTo cpos (starEach [e,f] X.env)).all (λx=>! x.1)&&(backToKw cpos (keywordEach [] X.env)).all (λx=>x.1.isSome)
  && Y2A (([e,f]:List Expr).length+([]:List Keyword).length+(if([]:List Keyword).isEmpty then 0 else 1)) 30)=true
 line:(YaG)=true
 trees:backTo cpos (Y20 [e,f])=[(false,Y1p),(false,Y0g f)]
def IsD(H:Hp)(a:Addr):Prop:=(∃kvs,Rd H a (.dK kvs))\/∃kvs,Rd H a (.dT kvs)
def aDF{X:Cx}{pins:Ad}{σ:St}{H:Hp}{s:Shared}{a:Addr}(I:Y2)(d:IsD H a) :
  s.TypeIs (Y7) "dict" /\ (∀b,Y4b=Y0E->∃ob,Y24 b ob/\ob.dict=none)/\Y6Y a:=by
 rcases d with⟨h,e⟩ | ⟨h,e⟩
 ·obtain⟨_,hd,j,_,c⟩:=DA I.hok e;refine⟨c.typeIs,λb q=>?_,hd⟩;cases q;obtain⟨ob,_,_,g,i,_⟩:=c;exact⟨ob,g,i.2.1⟩
 ·obtain⟨_,hd,l,_,c⟩:=CZ I.hok e;refine⟨c.typeIs,λb q=>?_,hd⟩;cases q;obtain⟨ob,_,_,g,i,_⟩:=c;exact⟨ob,g,i.2.1⟩
section
variable{X:Cx}{pins:Ad}{σ:St}{H:Hp}{s:Shared}{a:Addr}{y d:V}{u r:Value}{o:An}{A:Around}{E:Y8}
def aDQ{Q:Y8}(hu:Y7y 1<cLine)(I:Y2)(g:pR H a y o)(ry:Y3n)(rd:dN d r)(h:∀w' s',Y5r s'->dN (o.getD d) w'->Q w' s') :
  Y6L A (Y84 "dict.get" [Y7,u,r]) Q E s:=by
 rcases g with⟨j,k,e,m,l⟩ | ⟨j,k,b,e,m,x,l⟩
 ·subst m;obtain⟨z,hd,B,c,i⟩:=DA I.hok e;refine call_meetsIn PySem.F.slot_dict_get i.typeIs PySem.F.entry_dict_get (PySem.F.args_dict_get_3 _ _ _) (meets_dict_get_default (eW X.prog X.w) a (CO ry) hd r) (Y1o i.mapOf (h _ _ (Y0S) ?_));rw[l];exact(c.val k).getD rd
 ·subst m;cases(show u=Value.ref b from ry);obtain⟨z,hd,p,c,i⟩:=CZ I.hok e;refine call_meetsIn PySem.F.slot_dict_get i.typeIs PySem.F.entry_dict_get (PySem.F.args_dict_get_3 _ _ _) (meetsH_dict_get_default (Yc8 X.prog X.w) a b hd r) ⟨Ydb,k,p,rO I.hok x,i,h _ _ (Y0S) ?_⟩;rw[l];exact(c.val k).getD rd
end
def SD(td ty tx:TE):TE:=λσ H Q=>td σ H λx H1=>∃a,x=Y7/\IsD H1 a/\ty σ H1 λy H2=>tx σ H2 λz H3=>∃o,pR H3 a y o/\Q (o.getD z) H3
section
variable{X:Cx}{o e f:Expr}{apos cpos:Pos}{td ty tx:TE}
def UE(hu:Y2u 1<cLine)(ho:Yj o td)(he:Yj e ty)(hf:Yj f tx)(m:M2 X o "get" apos e f cpos):Yj (Y9R (Y9l o "get") [e,f] []) (SD td ty tx):=by
 intro c s σ H Q I h;refine wpAny_Call_method m.base m.few m.line PySem.F.plainAttrs_dict PySem.F.slot_dict_get PySem.F.type_dict_get (thn (ho c s σ H _ I h) λu L ⟨x,H1,I1,l,a,C,d,B⟩=>?_);subst C;obtain rfl:u=Y4b:=l;obtain⟨r,w,_⟩:=aDF I1 d;refine Y0w r w;rw[m.trees];refine Calls.callWith_builtin rfl (Calls.evalArgs_plain (Calls.spliced_cons (thn (he c L σ H1 _ I1 B) λR p ⟨y,H2,I2,D,J⟩ =>
  Calls.spliced_cons (thn (hf c p σ H2 _ I2 J) λN O ⟨z,H3,I3,G,S,g,j⟩=>Calls.spliced_nil ?_))))
 exact aDQ hu I3 g D G λM P I4 i=>⟨_,H3,I4,i,j⟩
end
section
variable{X:Cx}{pins:Ad}{σ:St}{H:Hp}{s:Shared}{a:Addr}{kvs:Y26}{A:Around}{E:Y8}
end
section
variable{X:Cx}{pins:Ad}{σ:St}{H:Hp}{s:Shared}{a:Addr}{y:V}{u:Value}{A:Around}{E:Y8}
end
section
variable{κ:Type}[DecidableEq κ]
def RS{kvs:Y2X}{k:κ}(h:Y4D=none):¬k∈kvs.map (·.1):=by
 intro m;obtain⟨p,c,e⟩:=aU.mp m;have q:Ya9 (λa=>Yr a.1 k) true:=List.any_eq_true.mpr ⟨p,c,bH e⟩;rw[lU,h]at q;exact absurd q (by simp)
def DR{kvs:Y2X}{k:κ}{v:V}(h:Y4D=Yq):k∈kvs.map (·.1):=by
 have q:Ya9 (λa=>Yr a.1 k) true:=by
  rw[lU,h]
  all_goals rfl
 obtain⟨p,c,e⟩:=List.any_eq_true.mp q;exact aU.mpr ⟨p,c,Yfo⟩
end
abbrev bits(i:Int):Nat:=Builtin.Int.intBits i
def WW(i j:Int):Prop:=0<j/\bits j<=9000
def xF{j:Int}{n:Nat}(h:bits j<=n)(hn:0<n):j.natAbs.log2<n:=by
 unfold bits Builtin.Int.intBits at h;by_cases hj:(j == 0)=true
 ·have:j=0:=by simpa using hj
  subst this;exact bK (by decide +kernel:(0:Int).natAbs.log2<=0) hn
 ·rw[if_neg hj]at h;exact Oo
section
variable{X:Cx}
def gQ:Y49 X .FloorDiv (rI WW (Y8b (i/j))):=opI λi j _ _ _ _ _ a q=>by
 refine floordiv_int (by have:=a.1;exact Oo) ?_ (.inl (PyProof.noPylong_of_log2 (xF a.2 Dd)));rw[Int.fdiv_eq_ediv_of_nonneg i (by have:=a.1;exact Oo)];exact q
def eM:Y49 X .Mult (rI IntMulOk (Y8b (i*j))):=opI λ_ _ _ _ _ _ _ a q=>mul_int q a
end
mutual
def bL(H:Hp):Y60 (Y18 V)
 | .none,v=>v=.non
 | .bool b,v=>v=.bl b
 | .int i,v=>v=.int i
 | .str x,v=>v=.str x
 | .list ds,v=>∃a xs,v=.ref a/\H a=some (.lst xs)/\aJ H ds xs
 | .tuple ds,v=>∃a xs,v=.ref a/\H a=some (.tup xs)/\aJ H ds xs
 | .dict kvs,v=>kvs=[]/\∃a,v=.ref a/\H a=some (.dK [])
def aJ(H:Hp):Y17 Ya Al
 | [],vs=>vs=[]
 | d::ds,vs=>∃x xs,vs=x::xs/\bL H d x/\aJ H ds xs
end
mutual
theorem bL.same{H H':Hp}(e:Y0):∀{d:PyData}{v:V},Y3K v->Y4x d v
 | .none,_,h=>h
 | .bool _,_,h=>h
 | .int _,_,h=>h
 | .str _,_,h=>h
 | .list ds,_,h=>by
  unfold bL at h ⊢;obtain⟨a,xs,rfl,h1,h2⟩:=h;exact⟨a,xs,rfl,e _ _ h1,aJ.same e h2⟩
 | .tuple ds,_,h=>by
  unfold bL at h ⊢;obtain⟨a,xs,rfl,h1,h2⟩:=h;exact⟨a,xs,rfl,e _ _ h1,aJ.same e h2⟩
 | .dict kvs,_,h=>by
  unfold bL at h ⊢;obtain⟨c,a,rfl,h1⟩:=h;exact⟨c,a,rfl,e _ _ h1⟩
theorem aJ.same{H H':Hp}(e:Y0):∀{ds:Ya}{vs:Al},Y4t->Y2l ds vs
 | [],_,h=>h
 | d::ds,_,h=>by
  unfold aJ at h ⊢;obtain⟨x,xs,rfl,h1,h2⟩:=h;exact⟨x,xs,rfl,bL.same e h1,aJ.same e h2⟩
end
theorem bL.tup{H:Hp}{a:Addr}{xs:Al}{ds:Ya}(h:H a=Y0O)(r:Y8f xs):Y0r Yy Y7:=by
 unfold bL;exact Y0v a xs h r
theorem bL.lst{H:Hp}{a:Addr}{xs:Al}{ds:Ya}(h:H a=Y0y)(r:Y8f xs):Y0r Y7h Y7:=by
 unfold bL;exact Y0v a xs h r
theorem bL.int{H:Hp}(i:Int):Y0r Y07 Y07:=by unfold bL;rfl
theorem bL.bl{H:Hp}(i:Bool):Y0r (.bool i) (.bl i):=by unfold bL;rfl
theorem bL.str{H:Hp}(i:Str):Y0r (.str i) (.str i):=by unfold bL;rfl
theorem bL.non{H:Hp}:Y0r .none .non:=by unfold bL;rfl
def aJ.nil{H:Hp}:Y15 [] []:=by unfold aJ;rfl
def aJ.cons{H:Hp}{d:PyData}{ds:Ya}{x:V}{xs:Al}(h:Y2n)(hs:Y8f xs):Y15 (d::ds) (x::xs):=by
 unfold aJ;exact Y0v x xs h hs
section
variable{X:Cx}{pins:Ad}{σ:St}{H:Hp}{s:Shared}
mutual
theorem bL.reads(I:Y2):∀{d:PyData}{v:V}{u:Value},Y3K v->Y2G->∃as,Reads s.heap u d as
 | .none,_,u,h,r=>by
  cases(show _=V.non from h);cases(show u=Value.none from r);exact⟨_,.none⟩
 | .bool b,_,u,h,r=>by
  cases(show _=V.bl b from h);cases(show u=Value.bool b from r);exact⟨_,.bool b⟩
 | .int b,_,u,h,r=>by
  cases(show _=V.int b from h);obtain⟨t,q⟩:=(show ∃t,u=Value.int b t from r);cases q;exact⟨_,.int b t⟩
 | .str b,_,u,h,r=>by
  cases(show _=V.str b from h);obtain⟨t,q⟩:=(show ∃t,u=Value.str b t from r);cases q;exact⟨_,.str b t⟩
 | .list ds,v,u,h,r=>by
  unfold bL at h;obtain⟨a,m,rfl,g,l⟩:=h;cases(show u=Value.ref a from r);obtain⟨_,i,n,j,e⟩:=(show dU X.prog X.w H s.heap a (.lst m)from I.hok a _ g);obtain⟨as,q⟩:=aJ.reads I l j;exact⟨_,.list e rfl rfl (by simpa using q)⟩
 | .tuple ds,v,u,h,r=>by
  unfold bL at h;obtain⟨a,m,rfl,g,l⟩:=h;cases(show u=Value.ref a from r);obtain⟨_,i,j,o,e,A,n,hd⟩:=(show dU X.prog X.w H s.heap a (.tup m)from I.hok a _ g);obtain⟨as,q⟩:=aJ.reads I l j;exact⟨_,.tuple e A hd (by simpa using q)⟩
 | .dict kvs,v,u,h,r=>by
  unfold bL at h;obtain⟨rfl,a,rfl,g⟩:=h;cases(show u=Value.ref a from r);obtain⟨_,_,G,C,o,p,D,e,B,hd,_,c,_⟩:=(show dU X.prog X.w H s.heap a (.dK [])from I.hok a _ g);cases C;have x:p.toList=[]:=by
   cases q:p.toList with
   | nil=>rfl
   | cons y ys=>rw[q]at c;cases c
  exact⟨_,.dict e B.1 hd (by rw[x];exact .nil) (by rw[x];exact .nil)⟩
theorem aJ.reads(I:Y2):∀{ds:Ya}{vs:Al}{us:Ag},Y4t->Y7F->∃as,ReadsAll s.heap us ds as
 | [],_,us,h,r=>by
  cases(show _=[]from h);cases r;exact⟨_,.nil⟩
 | d::ds,_,us,h,r=>by
  unfold aJ at h;obtain⟨x,xs,rfl,h1,h2⟩:=h;cases r with
  | cons r1 r2 =>
   obtain⟨as,c⟩:=bL.reads I h1 r1;obtain⟨bs,a⟩:=aJ.reads I h2 r2;exact⟨_,.cons c a⟩
end
end
section
variable{X:Cx}
def QL(hg:X.A.guards=some [])(hu:Y2u 64<cLine):Y35 "repr" (λxs H Q=>∃x d,xs=[x]/\Y2n/\d.showable=true/\Ye8/\d.depth<=60/\Yfv/\Q (Yeg) H):=by
 intro j s σ H xs C Q I r h;obtain⟨x,d,rfl,w,hs,a,p,g,q⟩:=h;obtain⟨u,rfl,ru⟩:=nV r;obtain⟨D,B⟩:=w.reads I ru;cases B with
 | none=>exact PySem.P.repr_of_none ⟨.str _,H,Y0S,Y1E,q⟩
 | bool b=>exact PySem.P.repr_of_bool ⟨.str _,H,Y0S,Y1E,q⟩
 | int i t=>exact PySem.P.repr_of_int (by simpa[PyData.showable]using hs) ⟨.str _,H,Y0S,Y1E,q⟩
 | str y t=>exact PySem.P.repr_of_str ⟨.str _,H,Y0S,Y1E,q⟩ g
 | list a1 a2 a3 a4=>exact repr_of_reads' (.list a1 a2 a3 a4) hs (PyData.noDict_hsm a) hg Oo (Y83) (λl u m c=>⟨.str _,H,I.kept c,Y1E,q⟩) g
 | tuple a1 a2 a3 a4=>exact repr_of_reads' (.tuple a1 a2 a3 a4) hs (PyData.noDict_hsm a) hg Oo (Y83) (λl u m c=>⟨.str _,H,I.kept c,Y1E,q⟩) g
 | dict a1 a2 a3 a4 a5=>simp[PyData.hasDict]at a
end
def XW:Y60 String
 | .none => "NoneType"
 | .bool _ => "bool"
 | .int _ => "int"
 | .str _ => "str"
 | .list _ => "list"
 | .tuple _ => "tuple"
 | .dict _ => "dict"
def UY(T:String)(d:PyData):Bool:=XW d == T || (T == "int" && XW d == "bool")
def aDx : ∀ T ∈ ["int", "bool", "tuple", "str", "list", "dict"], ∀ S ∈ ["NoneType", "bool", "int", "str", "list", "tuple", "dict"],
      Yat [] (.type S) T=some (S == T || (T == "int" && S == "bool")):=Kk
def aAe(K:Aa)(S T:String):Yat K (.type S) T=Yat [] (.type S) T:=rfl
def aBi(K:Aa)(d:PyData)(T:String)(hT:T = "int" \/ T = "bool" \/ T = "tuple" \/ T = "str" \/ T = "list" \/ T = "dict"):Yat K (.type (XW d)) T=some (UY T d):=by
 rw[aAe];refine aDx T ?_ (XW d) ?_
 ·rcases hT with rfl | rfl | rfl | rfl | rfl | rfl <;> decide
 ·cases d <;> simp[XW]
section
variable{X:Cx}
end
structure dS(CX:LB)(P:Program)(w:World)(K:Aa)(mg:Y03)(base:Heap)(k:Nat)(x:Str)(ps:Ah)(sp:Sp):Prop where
 ex:∃(f:Addr) (fd:FuncData),cX P w K mg base CX k f fd ps sp/\mg x=Y4 f/\YbG K f=true/\vN K fd ps []
section
variable{X:Cx}{k:Nat}{ps:Ah}{sp:Sp}{x:Str}{p pos:Pos}{e:Expr}{es:Yz}{t:TA}
def aES(F:dS cN X.prog X.w X.K X.mg X.base k x ps sp)(hr:Y5d k)(ha:PA X (e::es) t)(hg:Y1L:=by rfl)
  (hdb:Y0Y ("__debug__" : Str):=by decide) (he:Y42=(false,Y1p)::Y2W:=by rfl) (hpl:Y6 ((backTo pos (starEach es X.env)).any (·.1)):=by rfl) :
  Yj (.Call (Y94 p) (e::es) [] pos) (zM sp [] E0 t):=by
 obtain⟨f,h,a,d,c,g⟩:=F.ex;exact ZR a hr hg d c g .nil aEU ha hdb he hpl
end
section
variable{K:Aa}{H:Hp}{p:Addr}{xs:Al}{i:Int}{v:V}{Q:VK}
def ixL(h:H p=Y0y)(e:Y4I i=Yq)(q:Q v H):rIx K (Y0x) (Y07) H Q:=.inl ⟨p,xs,i,v,rfl,rfl,Yac,e,q⟩
def gU(h:H p=Y0O)(e:Y4I i=Yq)(q:Q v H):rIx K (Y0x) (Y07) H Q:=.inr (.inl ⟨p,xs,i,v,rfl,rfl,fS.of h,e,q⟩)
end
def jF(p:Addr)(H:Hp):Hp:=λb=>if b=p then none else H b
def jF.at{p b:Addr}{H:Hp}(h:b≠p):jF p H b=H b:=by unfold jF;rw[Y6i]
def jF.self{p:Addr}{H:Hp}:jF p H p=none:=by unfold jF;rw[Y1P]
def jF.same{p:Addr}{H:Hp}:aV (jF p H) H:=λb o h=>by
 unfold jF at h;by_cases e:b=p
 ·rw[Y9X]at h;cases h
 ·rw[Y6j]at h;exact h
def jF.ne{p b:Addr}{H:Hp}{o:HO}(h:jF p H b=Y5):b≠p:=λe=>by
 subst e;rw[jF.self]at h;cases h
def jF.of{p b:Addr}{H:Hp}{o:HO}(n:b≠p)(h:H b=Y5):jF p H b=Y5:=by rw[jF.at n];exact h
def jF.upd_self{p:Addr}{H:Hp}{o:HO}:jF p (Y3G p o)=jF p H:=by
 funext b
 by_cases e:b=p
 ·subst e;rw[jF.self,jF.self]
 ·rw[jF.at e,jF.at e,L2.cH e]
abbrev bB(p:Addr)(H H':Hp):Prop:=aV (jF p H) (jF p H')
def aV.but{p:Addr}{H H':Hp}(h:Y0):Y0s:=λb o e=>by
 have n:=jF.ne e;exact jF.of n (h _ _ (jF.same _ _ e))
theorem aV.upd{H:Hp}{q:Addr}{o:HO}(h:H q=none):aV H (Y3G q o):=λb u e=>by
 rw[L2.cH (cM e h)];exact e
def bB.self{p:Addr}{H:Hp}{o:HO}:bB p H (Y3G p o):=by unfold bB;rw[jF.upd_self];exact Yx
def bB.free{p q:Addr}{H H':Hp}(e:Y0s)(hp:∃o,H' p=Y5)(h:H' q=none):H q=none:=by
 cases k:H q with
 | none=>rfl
 | some o =>
  by_cases n:q=p
  ·subst n;obtain⟨c,a⟩:=hp;rw[a]at h;cases h
  ·have:=jF.same _ _ (e q o (jF.of n k));rw[this]at h;cases h
section
variable{K:Aa}{H:Hp}{p:Addr}{xs:Al}{i:Int}{v:V}{Q:VK}
def alT{Q:Y2E}(hz:Y4T)(k:∀q H',H q=none->H' q=Y0O->Y0->Y0L q):Y4T/\∀p,H p=none->Y44 (Y8l p xs) :=
 ⟨hz,λq a=>k q _ a bR (aV.upd a)⟩
def alL{Q:Y2E}(hz:Y4T)(k:∀q H',H q=none->H' q=Y0y->Y0->Y0L q):Y4T/\∀p,H p=none->Y44 (Y1s H p xs) :=
 ⟨hz,λq a=>k q _ a bR (aV.upd a)⟩
def bB.at{p b:Addr}{H H':Hp}{o:HO}(s:Y0s)(n:b≠p)(h:H b=Y5):Y1q=Y5:=jF.same _ _ (s _ _ (jF.of n h))
end
def oE{n:Nat}(h:n<=64):Y0h n:=aM h Dd
def nR{c A B:Prop}[Decidable c](h1:c->A)(h2:¬c->B):if decide c=true then A else B :=
 aE0 (λh=>h1 (of_decide_eq_true h)) (λh=>h2 (λk=>h (bH k)))
def CS{c A B:Prop}[Decidable c](h1:¬c->A)(h2:c->B):if(! decide c)=true then A else B :=
 aE0 (λh=>h1 (λk=>by rw[bH k]at h;exact Y7b h)) (λh=>h2 (Decidable.of_not_not λk=>h (by rw[bP k];rfl)))
def sU(c:TT):TT:=λσ H Q=>∃Q':Bool->Hp->Prop,c σ H Q'/\∀b H1,Q' b H1->Q b H1
def PT.mono{X:Cx}{e:Expr}{c:TT}(h:PT X e c):PT X e (sU c):=λa s σ H Q I ⟨Q',d,g⟩ =>
 thn (h a s σ H Q' I d) λb i ⟨H',I',q⟩=>⟨H',I',g _ _ q⟩
def PC{X:Cx}{pos:Pos}{c:Expr}{body:Y3b}{tc:TT}{tb:TS}(hp:Yc5 X.A X.env X.xe)(hc:PT X c tc)(hb:KS X body tb):PS X (.While c body [] pos) (DX (sU tc) tb) :=
 TW hp hc.mono hb
@[irreducible] def GW(K:Aa):Y0W:=λxs H Q=>∃x n,xs=[x]/\aFm K x H n/\Y45 n
@[irreducible] def ZC:Y0W:=λxs H Q=>∃i,xs=[Y07]/\Y45 (i.natAbs:Int)
@[irreducible] def GU:Y0W:=λxs H Q=>∃x d,xs=[x]/\Y2n/\d.showable=true/\Ye8/\d.depth<=60/\Yfv/\Q (Yeg) H
section
variable{X:Cx}{K:Aa}{H:Hp}{p:Addr}{xs:Al}{Q:VK}
def fH:Y35 "len" (GW X.K):=by unfold GW;exact VZ
def aDV:Y35 "abs" ZC:=by
 unfold ZC;exact λa s σ H d c Q I r ⟨i,e,q⟩=>WA a s σ H d c Q I r ⟨i,e,by
 have:(if i<0 then -i else i)=(i.natAbs:Int):=by split <;> exact Oo
 rw[this];exact q⟩
def yL(hg:X.A.guards=some [])(hu:Y2u 64<cLine):Y35 "repr" GU:=by unfold GU;exact QL hg hu
def rlL(h:H p=Y0y)(q:Y45 xs.length):GW K [V.ref p] H Q:=by unfold GW;exact Y3y (.inl (Y4O xs Yac)) q
def GR(h:H p=Y0O)(q:Y45 xs.length):GW K [V.ref p] H Q:=by unfold GW;exact Y3y (.inr (Y4O xs (fS.of h))) q
def raI{i:Int}(q:Y45 (i.natAbs:Int)):ZC [V.int i] H Q:=by unfold ZC;exact Y0Q i q
def rrI{x:V}{d:PyData}(r:Y2n)(h1:d.showable=true)(h2:Ye8)(h3:d.depth<=60)(h4:Yfv)(q:Q (Yeg) H):GU [x] H Q:=by unfold GU;exact⟨x,d,rfl,r,h1,h2,h3,h4,q⟩
end
def DO{c:TT}{tb:TS}{D:mH}{σ:St}{H:Hp}(W:Nat->Y1m)(R:Y1m)(m:Nat)(h0:W m σ H)
  (hs:∀m σ H,W m σ H->c σ H λb H1=>if b=true then tb { D with nx:=λσ' H'=>∃m',m' < m/\W m' σ' H',ct:=λσ' H'=>∃m',m' < m/\W m' σ' H',bk:=D.nx } σ H1 else R σ H1)
  (hd:∀σ H,R σ H->Y3m):DX (sU c) tb D σ H :=
 ⟨W,⟨m,h0⟩,λm σ H a=>⟨_,hs m σ H a,λb H1 q=>by
  by_cases hb:b=true
  ·rw[if_pos hb]at q ⊢;exact Y1o (λ_ _ h=>h) q
  ·rw[if_neg hb]at q ⊢;exact hd _ _ q⟩⟩
def aEB(t:TS):TS:=λD σ H=>∃R:St->Hp->Prop,(∀σ' H',R σ' H'->D.nx σ' H')/\(t { D with nx:=R } σ H)
def aC9{X:Cx}{st:Stmt}{t:TS}(h:PS X st t):PS X st (aEB t):=λa s σ H D I ⟨R,d,q⟩ =>
 thn (h a s σ H _ I q) λf e z=>by
  cases f with
  | next=>obtain⟨c,H',I',r⟩:=z;exact⟨c,H',I',d _ _ r⟩
  | brk=>exact z
  | cont=>exact z
  | ret u=>exact z
section
variable{es:Yz}{env:Env}
def zV{a b c d}:Y3B (.BinOp a b c d::es)=(false,Y1S (.BinOp a b c d))::Y4r:=by rw[starEach] <;> (intros;contradiction)
def JJ{a b c}:Y3B (.UnaryOp a b c::es)=(false,Y1S (.UnaryOp a b c))::Y4r:=by rw[starEach] <;> (intros;contradiction)
def GO{a b c d}:Y3B (.ListComp a b c d::es)=(false,Y1S (.ListComp a b c d))::Y4r:=by rw[starEach] <;> (intros;contradiction)
def oG{a b c d}:Y3B (.Call a b c d::es)=(false,Y1S (.Call a b c d))::Y4r:=by rw[starEach] <;> (intros;contradiction)
def lY{a b c}:Y3B (.Constant a b c::es)=(false,Y1S (.Constant a b c))::Y4r:=by rw[starEach] <;> (intros;contradiction)
def EF{a b c}:Y3B (.Attribute a b c::es)=(false,Y1S (.Attribute a b c))::Y4r:=by rw[starEach] <;> (intros;contradiction)
def gP{a b c}:Y3B (.Subscript a b c::es)=(false,Y1S (.Subscript a b c))::Y4r:=by rw[starEach] <;> (intros;contradiction)
def oF{a b}:Y3B (.Name a b::es)=(false,Y1S (.Name a b))::Y4r:=by rw[starEach] <;> (intros;contradiction)
def YK{a b}:Y3B (.List a b::es)=(false,Y1S (.List a b))::Y4r:=by rw[starEach] <;> (intros;contradiction)
def rJ{a b c}:Y3B (.Tuple a b c::es)=(false,Y1S (.Tuple a b c))::Y4r:=by rw[starEach] <;> (intros;contradiction)
end
section
variable{X:Cx}{k:Nat}{ps:Ah}{sp:Sp}{x:Str}{p pos:Pos}{e:Expr}{es:Yz}{te:TE}{t:TA}{id T:String}{r:Y0W}
def nO{env:Env}:Y6 ((backTo pos (starEach [] env)).any (·.1)):=rfl
def kQ{env:Env}(hs:Y3B (e::es)=(false,Y1S e)::Y4r)(h:Y6 ((backTo pos (starEach es env)).any (·.1))):Y6 ((backTo pos (starEach (e::es) env)).any (·.1)):=by
 rw[hs];show Y6 (false || (backTo pos (starEach es env)).any (·.1));rw[h];rfl
end
structure fR(X:Cx)(e:Expr)(t:TE):Prop where p:Yj e t
structure KQ(X:Cx)(e:Expr)(t:TT):Prop where p:PT X e t
structure PWw(X:Cx)(e:Expr)(t:TT):Prop where p:PW X e t
structure IR(X:Cx)(es:Yz)(t:TA):Prop where p:PA X es t
structure FZ(X:Cx)(st:Stmt)(t:TS):Prop where p:PS X st t
structure wU(X:Cx)(st:Y3b)(t:TS):Prop where p:KS X st t
structure PGw(X:Cx)(e:Expr)(t:TG):Prop where p:PG X e t
structure aAQ(X:Cx)(es:Yz)(t:WP):Prop where p:PGs X es t
structure KU(X:Cx)(tg iter:Expr)(t:TI):Prop where p:PI X tg iter t
structure POw(X:Cx)(e:Yew)(t:TO):Prop where p:PO X e t
@[irreducible] def MB(xs:Al)(H:Hp)(Q:VK):Prop:=Y4T/\∀p,H p=none->Y44 (Y8l p xs)
@[irreducible] def MC(xs:Al)(H:Hp)(Q:VK):Prop:=Y4T/\∀p,H p=none->Y44 (Y1s H p xs)
def kM{xs:Al}{H:Hp}{Q:VK}(hz:Y4Y 64)(k:∀q H',H q=none->H' q=Y0O->Y0->Y0L q):MB xs H Q:=by unfold MB;exact alT (oE hz) k
def AN{xs:Al}{H:Hp}{Q:VK}(hz:Y4Y 64)(k:∀q H',H q=none->H' q=Y0y->Y0->Y0L q):MC xs H Q:=by unfold MC;exact alL (oE hz) k
def tTu(t:TA):TE:=Y3t (λxs H1=>MB xs H1 Q)
def tLs(t:TA):TE:=Y3t (λxs H1=>MC xs H1 Q)
def aFS{ts us:TS}{D:mH}{σ:St}{H:Hp}(h:ts { D with nx:=us D } σ H):XY ts us D σ H:=h
def aGT{te:TE}{g:TG}{D:mH}{σ:St}{H:Hp}(h:te σ H λx H1=>g x σ H1 D.nx):JH te g D σ H:=h
section
variable{X:Cx}{a b c e o tg:Expr}{es rest:Yz}{ta tb tc te to:TE}{tA tB':TT}{t:TA}{pos p p2:Pos}{st:Stmt}{sts body orelse:Y3b}{ts us:TS}{x:Str}{r r':R2}{id T:String}{rl:Y0W}{k i j:Nat}{ps:Ah}{sp:Sp}{n:Nat}
def aC(i:Nat){x:Str}{pos:Pos}(hN:Y1W=Y9:=by rfl)(hv:YbZ x:=by first | exact Or.inl rfl | exact Or.inr (Or.inl rfl) | exact Or.inr (Or.inr rfl))(hd:Y0Y ("__debug__" : Str):=by decide)
  (hcd:Y0Y ("__classdict__" : Str):=by decide):Ye Y5J (aBP i):=⟨pv i hN hv hd hcd⟩
def aE{i j pos}:Ye (Y8a Y07 j) (tC (Y07)):=⟨pe_int⟩
def kJ{b j pos}:Ye (Y8a (.bool b) j) (tC (.bl b)):=⟨pe_bl⟩
def rA{j pos}:Ye (Y8a .none j) (tC .non):=⟨pe_non⟩
def dB{x j pos}:Ye (Y8a Y8W j) (tC (Y8W)):=⟨pe_str⟩
def gJ{v:V}{u:Value}(hg:Y1L)(hm:Y3T=Yt)(r:Y2G)(hd:Y0Y ("__debug__" : Str):=by decide):Ye Y5J (tC v):=⟨ZN hg hm r hd⟩
def gK{v:V}{u:Value}(hg:Y1L)(hm:Y3T=none)(hv:Y6W=Yt)(r:Y2G)(hn:x ≠ "__name__" := by decide)(hd:Y0Y ("__debug__" : Str):=by decide):Ye Y5J (tC v):=⟨ZS hg hm hv r hn hd⟩
def bV{op:Operator}(ho:Y49 X op r)(ha:Y3W a)(hb:Ye b tb):Ye (.BinOp a op b pos) (YA r ta tb):=⟨aEQ ho ha.p hb.p⟩
def yW{op:UnaryOp}{r:V->(Hp->(Y18 VK))}(ho:UnR X (unaryOp op) r)(ha:Y3W a):Ye (YaT op a) (tUn r ta):=⟨aEP ho ha.p⟩
def jY{op:CmpOp}(ho:Y29 op r)(ha:Y3W a)(hb:Ye b tb)(hm:YbX op b:=by exact nomark _):Ye (YaY a [op] [b]) (YA r ta tb):=⟨ZQ ho ha.p hb.p hm⟩
def dY{op:CmpOp}(ho:Y29 op r)(ha:Y3W a)(hb:Ye b tb)(hm:YbX op b:=by exact nomark _):KQ X (YaY a [op] [b]) (aA0 (YA r ta tb)):=⟨ZG ho ha.p hb.p hm⟩
def RN{op op':CmpOp}(ho:Y29 op r)(ho':Y29 op' r')(ha:Y3W a)(hb:Ye b tb)(hc:Ye c tc)
  (hm:Y6 (lastMarks [op,op'] [b,c]):=by with_unfolding_all rfl):Ye (YaY a [op,op'] [b,c]) (SG r r' ta tb tc):=⟨UF ho ho' ha.p hb.p hc.p hm⟩
def dX(h:Ye e te)(he:∀whole,isTrue e X.env whole=(do let v <-whole;standAt e.pos;holding [v] (truthy v)):=by intro _;rfl):KQ X e (tB te):=⟨aC3 h.p he⟩
def xR(ha:KQ X a tA):PWw X (Y6l [a]) tA:=⟨ZE ha.p⟩
def kY(ha:KQ X a tA):PWw X (Y6S .Or [a]) tA:=⟨aC1 ha.p⟩
def vP(ha:KQ X a tA)(hb:PWw X (Y6l Y5p) tB'):PWw X (Y6l (a::Y5p)) (aED tA tB'):=⟨aC2 ha.p hb.p⟩
def lS(ha:KQ X a tA)(hb:PWw X (Y6S .Or Y5p) tB'):PWw X (Y6S .Or (a::Y5p)) (tOr tA tB'):=⟨aEN ha.p hb.p⟩
def qZ(h:PWw X e tA):KQ X e tA:=⟨h.p.pt⟩
def iD(ha:KQ X a tA):KQ X (YaT .Not a) (aEx tA):=⟨aC4 ha.p⟩
def kI{op}(h:Y3W a):Y3W (Y6S op [a]):=⟨aDf h.p⟩
def jL(ha:Y3W a)(hb:Ye (Y6l Y5p) tb):Ye (Y6l (a::Y5p)) (aA8 ta tb):=⟨aDj ha.p hb.p⟩
def aBK(ha:Y3W a):Ye (YaT .Not a) (aA2 ta):=⟨aDg ha.p⟩
def RK(hc:KQ X c tA)(ha:Y3W a)(hb:Ye b tb):Ye (.IfExp c a b pos) (tIf tA ta tb):=⟨UD hc.p ha.p hb.p⟩
def Se{e:Expr}{es:Yz}{env:Env}(h:Y3B (e::es)=(false,Y1S e)::Y4r:=by first | exact oF | exact lY | exact se_BoolOp | exact zV | exact JJ | exact se_IfExp | exact se_Dict | exact GO | exact se_Compare | exact oG | exact EF | exact gP | exact YK | exact rJ | exact se_JoinedStr | exact se_GeneratorExp):Y3B (e::es)=(false,Y1S e)::Y4r:=h
def aH:IR X [] GG:=⟨pa_nil⟩
def aR(ha:Ye e te)(hr:IR X es t)(hs:Y42=(false,Y1p)::Y2W:=by exact Se):IR X (e::es) (mX te t):=⟨ZT ha.p hr.p hs⟩
def cD{x1}(h:IR X es t):Ye (.Tuple es x1 pos) (tTu t):=⟨by unfold tTu MB;exact aDe h.p⟩
def fV(h:IR X es t):Ye (.List es pos) (tLs t):=⟨by unfold tLs MC;exact aDh h.p⟩
def yX:Ye (.Dict [] [] pos) SB:=⟨pe_dnewT⟩
def bJ(hr:WS X r)(ha:Y3W a)(hb:Ye b tb)(hs:OC b:=by exact λ_ _=>rfl):Ye (Y9m a b) (YA r ta tb):=⟨aER hr ha.p hb.p hs⟩
def iB:POw X none LQ:=⟨po_none⟩
def iA(h:Ye e te):POw X (Y3S) (aA1 te):=⟨ZK h.p⟩
def fN{lo hi:Yew}{tl th:TO}{r:V->Y10->Y8I}(hr:SlR X r)(he:Ye e te)(hl:POw X lo tl)(hu:POw X hi th):Ye (Y9m e (.Slice lo hi none p2)) (tSl r te tl th):=⟨UC hr he.p hl.p hu.p⟩
def mJ(F:dS cN X.prog X.w X.K X.mg X.base k x ps sp)(hr:Y5d k)(ha:IR X (e::es) t)(hg:Y1L:=by rfl)
  (hdb:Y0Y ("__debug__" : Str):=by decide) (he:Y42=(false,Y1p)::Y2W:=by exact Se)
  (hpl:Y6 ((backTo pos (starEach es X.env)).any (·.1)):=by repeat (first | exact nO | refine kQ Se ?_)) :
  Y8A p (e::es) [] (zM sp [] E0 t):=⟨aES F hr ha.p hg hdb he hpl⟩
def eB{e1:Expr}{t1:TE}(F:dS cN X.prog X.w X.K X.mg X.base k x ps sp)(h1:Ye e1 t1)(s1:Y4K e1=(false,Y0g e1)::Y20 []:=by exact Se)(hr:Y5d k:=by exact iJ.mono ‹_› Dd)(hg:Y1L:=by rfl)(hdb:Y0Y ("__debug__" : Str):=by decide)(hpl:Y6 ((backTo pos (starEach [] X.env)).any (·.1)):=by repeat (first | exact nO | refine kQ Se ?_)):Y8A p [e1] [] (zM sp [] E0 (mX t1 GG)):=mJ F hr (aR h1 aH s1) hg hdb s1 hpl
def cB{e1 e2:Expr}{t1 t2:TE}(F:dS cN X.prog X.w X.K X.mg X.base k x ps sp)(h1:Ye e1 t1)(h2:Ye e2 t2)(s1:Y20 [e1,e2]=(false,Y0g e1)::Y4K e2:=by exact Se)(s2:Y4K e2=(false,Y0g e2)::Y20 []:=by exact Se)(hr:Y5d k:=by exact iJ.mono ‹_› Dd)(hg:Y1L:=by rfl)(hdb:Y0Y ("__debug__" : Str):=by decide)(hpl:Y6 ((backTo pos (starEach [e2] X.env)).any (·.1)):=by repeat (first | exact nO | refine kQ Se ?_)):Y8A p [e1,e2] [] (zM sp [] E0 (mX t1 (mX t2 GG))):=mJ F hr (aR h1 (aR h2 aH s2) s1) hg hdb s1 hpl
def mK{e1 e2 e3:Expr}{t1 t2 t3:TE}(F:dS cN X.prog X.w X.K X.mg X.base k x ps sp)(h1:Ye e1 t1)(h2:Ye e2 t2)(h3:Ye e3 t3)(s1:Y20 [e1,e2,e3]=(false,Y0g e1)::Y20 [e2,e3]:=by exact Se)(s2:Y20 [e2,e3]=(false,Y0g e2)::Y4K e3:=by exact Se)(s3:Y4K e3=(false,Y0g e3)::Y20 []:=by exact Se)(hr:Y5d k:=by exact iJ.mono ‹_› Dd)(hg:Y1L:=by rfl)(hdb:Y0Y ("__debug__" : Str):=by decide)(hpl:Y6 ((backTo pos (starEach [e2,e3] X.env)).any (·.1)):=by repeat (first | exact nO | refine kQ Se ?_)):Y8A p [e1,e2,e3] [] (zM sp [] E0 (mX t1 (mX t2 (mX t3 GG)))):=mJ F hr (aR h1 (aR h2 (aR h3 aH s3) s2) s1) hg hdb s1 hpl
def aEu{e1 e2 e3 e4:Expr}{t1 t2 t3 t4:TE}(F:dS cN X.prog X.w X.K X.mg X.base k x ps sp)(h1:Ye e1 t1)(h2:Ye e2 t2)(h3:Ye e3 t3)(h4:Ye e4 t4)(s1:Y20 [e1,e2,e3,e4]=(false,Y0g e1)::Y20 [e2,e3,e4]:=by exact Se)(s2:Y20 [e2,e3,e4]=(false,Y0g e2)::Y20 [e3,e4]:=by exact Se)(s3:Y20 [e3,e4]=(false,Y0g e3)::Y4K e4:=by exact Se)(s4:Y4K e4=(false,Y0g e4)::Y20 []:=by exact Se)(hr:Y5d k:=by exact iJ.mono ‹_› Dd)(hg:Y1L:=by rfl)(hdb:Y0Y ("__debug__" : Str):=by decide)(hpl:Y6 ((backTo pos (starEach [e2,e3,e4] X.env)).any (·.1)):=by repeat (first | exact nO | refine kQ Se ?_)):Y8A p [e1,e2,e3,e4] [] (zM sp [] E0 (mX t1 (mX t2 (mX t3 (mX t4 GG))))):=mJ F hr (aR h1 (aR h2 (aR h3 (aR h4 aH s4) s3) s2) s1) hg hdb s1 hpl
def cT(hc:Y35 id rl)(hg:Y1L)(hm:Y3T=none)(hv:Y6W=Y93 id)(ha:IR X (e::es) t)(hn:x ≠ "__name__" := by decide)(hdb:Y0Y ("__debug__" : Str):=by decide)
  (he:Y42=(false,Y1p)::Y2W:=by exact Se) (hpl:Y6 ((backTo pos (starEach es X.env)).any (·.1)):=by repeat (first | exact nO | refine kQ Se ?_)):Y8A p (e::es) [] (tCB rl t) :=
 ⟨UG hc hg hm hv ha.p hn hdb he hpl⟩
def mL(hc:jU X (.type T) rl)(hg:Y1L)(hm:Y3T=none)(hv:Y6W=Yeo T)(ha:IR X (e::es) t)(hn:x ≠ "__name__" := by decide)(hdb:Y0Y ("__debug__" : Str):=by decide)
  (he:Y42=(false,Y1p)::Y2W:=by exact Se) (hpl:Y6 ((backTo pos (starEach es X.env)).any (·.1)):=by repeat (first | exact nO | refine kQ Se ?_)):Y8A p (e::es) [] (tCB rl t) :=
 ⟨PH hc hg hm hv ha.p hn hdb he hpl⟩
def oW{name:Str}{apos cpos:Pos}{r:V->Y0W}(pa:Yei)(slot:Slot T name id)(hty:YdF id=Yeq "method_descriptor")(hm:MtR X id r)(ho:Ye o to)(ha:IR X (e::es) t)
  (hbase:attributeBase o name X.env (Y0g o)=Y0g o:=by rfl)
  (hfew:((backTo cpos (starEach (e::es) X.env)).all (λx=>! x.1)&&(backToKw cpos (keywordEach [] X.env)).all (λx=>x.1.isSome)
   && Y2A ((e::es).length+([]:List Keyword).length+(if([]:List Keyword).isEmpty then 0 else 1)) 30)=true:=by rfl)
  (hline:(YaG)=true:=by rfl) (hs:Y42=(false,Y1p)::Y2W:=by exact Se) (hplain:Y6 ((backTo cpos (starEach es X.env)).any (·.1)):=by repeat (first | exact nO | refine kQ Se ?_)) :
  Ye (Y9R (Y9l o name) (e::es) []) (tBM X.K T r to t):=⟨aET pa slot hty hm ho.p ha.p hbase hfew hline hs hplain⟩
def aBL{name:Str}{apos cpos:Pos}{r:V->Y0W}(pa:Yei)(slot:Slot T name id)(hty:YdF id=Yeq "method_descriptor")(hm:MtR X id r)(ho:Ye o to)
  (hbase:attributeBase o name X.env (Y0g o)=Y0g o:=by rfl) (hline:(YaG)=true:=by rfl):Ye (Y9R (Y9l o name) [] []) (aEC X.K T r to):=⟨aDi pa slot hty hm ho.p hbase hline⟩
def cY:wU X [] aA3:=⟨pss_nil⟩
def aI(h1:FZ X st ts)(h2:wU X sts us):wU X (st::sts) (XY ts us):=⟨TV h1.p h2.p⟩
def aS(h1:FZ X st ts):wU X [st] ts:=⟨ZH h1.p⟩
def gI(he:Ye e te)(hs:YeR e none pos.line=Y5y:=by rfl):FZ X (.Expr e pos) (aA5 te):=⟨ZI he.p hs⟩
def bT(he:Ye e te):FZ X (.Return (Y3S) pos) (aEv te):=⟨aC6 he.p⟩
def eX{c:Expr}{a b:Y3b}(hc:KQ X c tA)(ha:wU X a ts)(hb:wU X b us):FZ X (.If c a b pos) (aEy tA ts us):=⟨aEO hc.p ha.p hb.p⟩
def yS(h:FZ X st ts):FZ X st (aEB ts):=⟨aC9 h.p⟩
def cS{i:Nat}{x:Str}(hN:X.N.Nodup)(hi:Y1W=Y9)(hx:Y9j x)(hf:Y7C=true\/Y5L x:=by first | exact .inl rfl | exact .inr rfl | assumption):PGw X (Y5J) (nJ i):=⟨MH hN hi hx hf⟩
def pT:aAQ X [] aDJ:=⟨pgs_nil⟩
def fU{t:TG}{u:WP}(h1:PGw X e t)(h2:aAQ X es u)
  (hs:(assignEach (e::es) X.env).map (·.2)=assign e X.env::(assignEach es X.env).map (·.2):=by rfl):aAQ X (e::es) (VD t u):=⟨UB h1.p h2.p hs⟩
def tH{k:Nat}{t:WP}{n:Nat}(hc:Y1V)(h:aAQ X es t)
  (hn:(assignEach es X.env).length=n:=by rfl) (hst:(assignEach es X.env).findIdx? (·.1)=none:=by rfl):PGw X (.Tuple es k pos) (aDI X.K n t):=⟨aDc hc h.p hn hst⟩
def mV{i:Nat}{pos':Pos}(hN:X.N.Nodup)(hi:Y1W=Y9)(hx:Y9j x)(he:Ye e te)(hs:Yb2 e Ybn=Y5y:=by rfl)(hf:Y7C=true\/Y5L x:=by first | exact .inl rfl | exact .inr rfl | assumption) :
  FZ X (Y8h [Ybn] e) (JH te (nJ i)):=⟨aC5 hN hi hx he.p hs hf⟩
def cA{i:Nat}{pos':Pos}(hN:X.N.Nodup)(he:Ye e te)(hi:Y1W=Y9:=by rfl)(hx:Y9j x:=by exact Or.inl rfl)(hs:Yb2 e Ybn=Y5y:=by rfl)(hf:Y7C=true\/Y5L x:=by first | exact .inl rfl | exact .inr rfl | assumption) :
  FZ X (Y8h [Ybn] e) (JH te (nJ i)):=mV hN hi hx he hs hf
def aBH{i j:Nat}{x y:Str}{ta:TA}{px py pt:Pos}{kt k2 pt2}(hc:Y1V)(hN:X.N.Nodup)(hi:Y1W=Y9)(hj:X.N[j]?=Y00)(hij:i≠j)
  (hx:Y5L x) (hy:Y5L y) (ha:IR X [a,b] ta)
  (hw:swappedStores [Y3c [Y5a,Y41] kt] (Yb9 [a,b] k2) X.env=pure (some [x,y]))
  (hs:swapsWithSole [Y3c [Y5a,Y41] kt] (Yb9 [a,b] k2) pos.line X.env=Y5y:=by rfl) :
  FZ X (Y8h [Y3c [Y5a,Y41] kt] (Yb9 [a,b] k2)) (aEw i j ta):=⟨aC7 hc hN hi hj hij hx hy ha.p hw hs⟩
def yR{c:Expr}{tc:TT}{tb:TS}(hp:Yc5 X.A X.env X.xe)(hc:KQ X c tc)(hb:wU X body tb):FZ X (.While c body [] pos) (DX (sU tc) tb):=⟨PC hp hc.p hb.p⟩
def fX{l:Expr}{tl:TE}(hl:Ye l tl):KU X tg l (aBl X.K tl):=⟨ZM hl.p⟩
def iV{l:Expr}{tl:TE}(hl:Ye l tl):KU X tg l (aE2 X.K tl):=⟨aDb hl.p⟩
def cW{a:Expr}{ta:TA}{p pos:Pos}(hg:Gl X "range")(hm:X.mg "range" = none)(ha:IR X [a] ta)(hs:Y4K a=[(false,Y0g a)]:=by exact Se):KU X tg (Yb8 "range" p [a] []) (aBk ta):=⟨PF hg hm ha.p hs⟩
def eA{iter:Expr}{wi:TI}{g:TG}{tb:TS}{pos:Pos}(hp:Yc5 X.A X.env X.xe)(hc:Y1V)(hi:Y7L X tg wi)(hg:PGw X tg g)(hb:wU X body tb)
  (hs:∀x,Y7i x=Y7D:=by intro _;rfl):FZ X (.For tg iter body [] pos) (aEz wi g tb):=⟨aC8 hp hc hi.p hg.p hb.p hs⟩
end
def hJ.okw{P:Program}{w:World}{K:Aa}{mg:Y03}{base:Heap}{x qual:Str}{st:Stmt}{f:Addr}{fd:FuncData}{N ps:Ah}{k:Nat}{sp:Sp}(F:Yb x qual st)(S:Yc N ps st)(len:∀vs H Q E,sp vs H Q E->Y9n)
  (hbody:∀(cdv:Value) (A:Around) (outer:Y1t) (s:Shared) (H:Hp) (vs:Al) (Q:VK) (E:XK),iJ k (Y9p qual Y3X f cdv)->sp vs H Q E ->
   ∃t,wU (oQ cN P w K mg base N qual (Y3X) f cdv A outer s H E).nox (kO st) t/\t { nx:=λ_ H'=>Q .non H',rt:=Q } (Ya7 N) H):cX P w K mg base cN (k+1) f fd ps sp :=
 F.ok S len λcdv A outer s H vs Q E c h=>by
  obtain⟨t,a,d⟩:=hbody cdv A outer s H vs Q E c h;exact⟨t,a.p,d⟩
def hJ.oky{P:Program}{w:World}{K:Aa}{mg:Y03}{base:Heap}{x qual:Str}{st:Stmt}{f:Addr}{fd:FuncData}{N ps:Ah}{k:Nat}{sp:Sp}(F:Yb x qual st)(S:Yc N ps st)
  (h:∀(vs:Al) (H:Hp) (Q:VK) (E:XK),sp vs H Q E->Y9n/\∀(cdv:Value) (A:Around) (outer:Y1t) (s:Shared),iJ k (A.deeper (envOfC qual (bA st) s.heap.objs.size f cdv)) ->
   let X:=(oQ cN P w K mg base N qual (bA st) f cdv A outer s H E).nox;∃t,wU X (kO st) t/\t { nx:=λ_ H'=>Q .non H',rt:=Q } (start N vs) H):cX P w K mg base cN (k+1) f fd ps sp :=
 F.okw S (λvs H Q E q=>(h vs H Q E q).1) λcdv A outer s H vs Q E a q=>(h vs H Q E q).2 cdv A outer s a
def HJ(a b:Int):(Int.gcd b (a % b))=(Int.gcd a b):=by
 have h:=Int.gcd_add_mul_right_right b (a % b) (a/b);rw[show a % b+a/b*b=a from by have:=Int.emod_add_mul_ediv a b;rw[Int.mul_comm];exact this]at h;rw[<-h,Int.gcd_comm]
def NA{a:Int}(h:0<a):(Int.gcd a 0:Int)=a:=by rw[Int.gcd_zero_right];exact Oo
def KH:Y1R | .tuple _=>true | _=>false
def aDS:Y1R | .int _=>true | .bool _=>true | _=>false
def VS:Y1R | .bool _=>true | _=>false
def aDR:Y1R | .int _=>true | _=>false
def aAk(d:PyData):UY "tuple" d=KH d:=by cases d <;> simp[UY,XW,KH]
def aAl(d:PyData):UY "int" d=aDS d:=by cases d <;> simp[UY,XW,aDS]
def UX(d:PyData):UY "bool" d=VS d:=by cases d <;> simp[UY,XW,VS]
section
variable{H:Hp}{x:V}{d:PyData}{Q:VK}
end
theorem aJ.len{H:Hp}:∀{ds:Ya}{vs:Al},Y4t->Y4a ds.length
 | [],_,h=>by cases(show _=[]from h);rfl
 | d::ds,_,h=>by
  unfold aJ at h;obtain⟨x,xs,rfl,_,h2⟩:=h;simp[aJ.len h2]
section
variable{p:Addr}{σ:St}{t:TE}{ta:TA}{d:PyData}{ds:Ya}
end
def NY{α:Type}{xs:Yn}{x:Int}(h0:0<=x)(h1:Y4f x):∃v,Y4I x=Yq/\v∈xs/\Y1Z x.toNat=Yq:=by
 have h:Y4f x.toNat:=Oo;have e:=aD h;have:=dL e;rw[Int.toNat_of_nonneg h0]at this;exact⟨_,this,List.getElem_mem h,e⟩
theorem aJ.mem{H:Hp}:∀{ds:Ya}{vs:Al}{v:V},Y4t->v∈vs->∃d,d∈ds/\Y3K v
 | [],_,_,h,hv=>by cases(show _=[]from h);cases hv
 | d::ds,_,v,h,hv=>by
  unfold aJ at h;obtain⟨x,xs,rfl,h1,h2⟩:=h;rcases aK.mp hv with rfl | hv
  ·exact⟨d,aG ..,h1⟩
  ·obtain⟨a,m,r⟩:=aJ.mem h2 hv;exact⟨a,aQ _ m,r⟩
theorem aJ.append{H:Hp}{es:Ya}{ws:Al}(h':Y15 es ws):∀{ds:Ya}{vs:Al},Y4t->Y15 (ds++es) (vs++ws)
 | [],_,h=>by cases(show _=[]from h);exact h'
 | d::ds,_,h=>by
  unfold aJ at h;obtain⟨x,xs,rfl,h1,h2⟩:=h;exact aJ.cons h1 (aJ.append h' h2)
end L2
namespace L2
end L2
namespace L2
open PySem PySem.Spec PyProof.Rows
def aV.thru{l:Addr}{H0 H1 H2:Hp}(hl:H0 l=none)(s:aV H0 H1)(b:bB l H1 H2):aV H0 H2:=λc o e=>by
 have n:c≠l:=cM e hl;exact b.at n (s _ _ e)
def VY{H:Hp}{l b:Addr}{xs zs:Al}{Q:VK}(h1:H l=Y0y)(h2:H b=Y90)(hz:Ye9<=1000)(k:∀q H',H q=none->H' q=Y05 (xs++zs)->Y0->Y0L q):aEM (Y13) (Y0E) H Q :=
 ⟨l,b,xs,zs,rfl,rfl,h1,h2,Nat.le_of_lt (vY hz),λq a=>k q _ a bR (aV.upd a)⟩
@[irreducible] def YZ:V->Y0W:=MG
def oO{X:Cx}:MtR X "list.append" YZ:=by unfold YZ;exact CL
def BS{H:Hp}{l:Addr}{xs:Al}{y:V}{Q:VK}(h:H l=Y0y)(hz:Y4Y 1000)(k:∀H',H' l=Y05 (xs++[y])->bB l H H'->Q .non H'):YZ (Y13) [y] H Q:=by
 unfold YZ;exact Y1Y l xs y rfl h (vY hz) (k _ bR bB.self)
def OM{K:Aa}{H:Hp}{l:Addr}{xs:Al}(h:H l=Y0y):tyV K "list" (Y13) H:=.inl ⟨rfl,xs,Yac⟩
inductive Ex1 {A0:Sort _} (p:Y18 A0):Prop | mk (a0:A0) (h:p a0)
inductive Ex2 {A0 A1:Sort _} (p:Y17 A0 A1):Prop | mk (a0:A0) (a1:A1) (h:p a0 a1)
inductive Ex3 {A0 A1 A2:Sort _} (p:A0->Y17 A1 A2):Prop | mk (a0:A0) (a1:A1) (a2:A2) (h:p a0 a1 a2)
inductive Ex4 {A0 A1 A2 A3:Sort _} (p:A0->A1->Y17 A2 A3):Prop | mk (a0:A0) (a1:A1) (a2:A2) (a3:A3) (h:p a0 a1 a2 a3)
inductive Ex5 {A0 A1 A2 A3 A4:Sort _} (p:A0->A1->A2->Y17 A3 A4):Prop | mk (a0:A0) (a1:A1) (a2:A2) (a3:A3) (a4:A4) (h:p a0 a1 a2 a3 a4)
inductive Ex6 {A0 A1 A2 A3 A4 A5:Sort _} (p:A0->A1->A2->A3->Y17 A4 A5):Prop | mk (a0:A0) (a1:A1) (a2:A2) (a3:A3) (a4:A4) (a5:A5) (h:p a0 a1 a2 a3 a4 a5)
inductive Ex8 {A0 A1 A2 A3 A4 A5 A6 A7:Sort _} (p:A0->A1->A2->A3->A4->A5->Y17 A6 A7):Prop | mk (a0:A0) (a1:A1) (a2:A2) (a3:A3) (a4:A4) (a5:A5) (a6:A6) (a7:A7) (h:p a0 a1 a2 a3 a4 a5 a6 a7)
inductive An2 (A0 A1:Prop):Prop | mk (h0:A0) (h1:A1)
inductive An3 (A0 A1 A2:Prop):Prop | mk (h0:A0) (h1:A1) (h2:A2)
inductive An4 (A0 A1 A2 A3:Prop):Prop | mk (h0:A0) (h1:A1) (h2:A2) (h3:A3)
inductive An5 (A0 A1 A2 A3 A4:Prop):Prop | mk (h0:A0) (h1:A1) (h2:A2) (h3:A3) (h4:A4)
inductive An6 (A0 A1 A2 A3 A4 A5:Prop):Prop | mk (h0:A0) (h1:A1) (h2:A2) (h3:A3) (h4:A4) (h5:A5)
inductive An7 (A0 A1 A2 A3 A4 A5 A6:Prop):Prop | mk (h0:A0) (h1:A1) (h2:A2) (h3:A3) (h4:A4) (h5:A5) (h6:A6)
inductive An8 (A0 A1 A2 A3 A4 A5 A6 A7:Prop):Prop | mk (h0:A0) (h1:A1) (h2:A2) (h3:A3) (h4:A4) (h5:A5) (h6:A6) (h7:A7)
inductive An9 (A0 A1 A2 A3 A4 A5 A6 A7 A8:Prop):Prop | mk (h0:A0) (h1:A1) (h2:A2) (h3:A3) (h4:A4) (h5:A5) (h6:A6) (h7:A7) (h8:A8)
inductive aHN (A0 A1 A2 A3 A4 A5 A6 A7 A8 A9:Prop):Prop | mk (h0:A0) (h1:A1) (h2:A2) (h3:A3) (h4:A4) (h5:A5) (h6:A6) (h7:A7) (h8:A8) (h9:A9)
def eP{t u:TS}{D:mH}{σ:St}{H:Hp}(h:let D':=D;let N:=u D';t { D' with nx:=N } σ H):XY t u D σ H:=h
def mE{N b c:Y1m}{r:VK}{σ:St}{H:Hp}{i:Nat}{v:V}(h:N (Ycd i) H):nJ i v σ H (mH.mk N r b c).nx:=h
def vW{N:Y1m}{σ:St}{H:Hp}{i:Nat}{v:V}(h:N (Ycd i) H):nJ i v σ H N:=h
def WX{N b c:Y1m}{r:VK}{σ:St}{H:Hp}(h:N σ H):(mH.mk N r b c).nx σ H:=h
def nZ{t:TS}{D:mH}{σ:St}{H:Hp}(h:let D':=D;t D' σ H):t D σ H:=h
def pI(env:Env):YaP->Y5F->Y5F
 | [],cs=>cs
 | (n,k)::r,cs=>if k == .free then pI env r ((n,(env.cells.lookup n).getD 0)::cs) else pI env r cs
theorem NU(env:Env):∀(l:YaP) (cs:Y5F),(∀y∈l,y.2=.free->∃c,Ycb y.1 Y0c) ->
  (forIn l cs λ(x:Str × NameKind) r=>if x.2 == .free then(do let c <-cellOf env x.1;pure (ForInStep.yield ((x.1,c)::r)):Sem _) else pure (ForInStep.yield r))=pure (pI env l cs)
 | [],cs,_=>rfl
 | (n,k)::r,cs,h=>by
  rw[List.forIn_cons];have ih:=λcs=>NU env r cs λy d=>h y (aQ _ d);by_cases hk:(k == NameKind.free)=true
  ·obtain⟨c,a⟩:=h (n,k) aG (by simpa using hk);dsimp only at a;simp only[hk,if_true,pI,a,Option.getD_some,cellOf,pure_bind];exact ih _
  ·simp only[hk,pI,pure_bind];exact ih _
def tF{env:Env}{scope:Scope}(h:∀y∈scope.names,y.2=.free->∃c,Ycb y.1 Y0c):closureFor scope env=pure (pI env scope.names []):=by
 have e:=NU env scope.names [] h;unfold closureFor;simp only[bind_pure];exact e
theorem wO{env:Env}:∀(l:YaP) (cs:Y5F),(∀y∈l,y.2=.free->∃c,Ycb y.1 Y0c)->∀p∈pI env l cs,p∈cs\/Ycb p.1 (some p.2)
 | [],cs,_,p,hp=>.inl hp
 | (n,k)::r,cs,h,p,hp=>by
  have h':∀y∈r,y.2=.free->∃c,env.cells.lookup y.1=some c:=λy e=>h y (aQ _ e);unfold pI at hp;by_cases hk:(k == NameKind.free)=true
  ·rw[if_pos hk]at hp;obtain⟨c,d⟩:=h (n,k) aG (by simpa using hk);rcases wO r _ h' p hp with a | a
   ·rcases aK.mp a with rfl | a
    ·exact .inr (by dsimp only at d ⊢;rw[d];rfl)
    ·exact .inl a
   ·exact .inr a
  ·rw[if_neg hk]at hp;exact wO r cs h' p hp
theorem wQ{env:Env}:∀(l:YaP) (cs:Y5F),∀p∈cs,p∈pI env l cs
 | [],_,_,hp=>hp
 | (n,k)::r,cs,p,hp=>by
  unfold pI;by_cases hk:(k == NameKind.free)=true
  ·rw[if_pos hk];exact wQ r _ p (aQ _ hp)
  ·rw[if_neg hk];exact wQ r _ p hp
theorem wP{env:Env}:∀(l:YaP) (cs:Y5F) (y:Str),(y,NameKind.free)∈l->∃a,(y,a)∈pI env l cs
 | (n,k)::r,cs,y,hy=>by
  unfold pI;rcases aK.mp hy with e | hm
  ·cases e;rw[if_pos (by rfl)];exact⟨_,wQ r _ _ aG⟩
  ·by_cases hk:(k == NameKind.free)=true
   ·rw[if_pos hk];exact wP r _ y hm
   ·rw[if_neg hk];exact wP r _ y hm
theorem tU{α β:Type}[BEq α][LawfulBEq α]{x:α}{c:β}:∀{l:Y36 α β},l.lookup x=Y0c->(x,c)∈l
 | [],h=>by cases h
 | (a,b)::r,h=>by
  rw[List.lookup_cons]at h;by_cases e:(x == a)=true
  ·rw[e]at h;have:x=a:=by simpa using e
   subst this;cases h;exact aG
  ·have d:(x == a)=false:=by simpa using e
   rw[d]at h;exact aQ _ (tU h)
theorem tS{α β:Type}[BEq α][LawfulBEq α]{x:α}{c:β}:∀{l:Y36 α β},(x,c)∈l->∃c',l.lookup x=some c'
 | (a,b)::r,h=>by
  rw[List.lookup_cons];by_cases e:(x == a)=true
  ·rw[e];exact⟨_,rfl⟩
  ·have e':(x == a)=false:=by simpa using e
   rw[e'];rcases aK.mp h with q | q
   ·cases q;simp at e
   ·exact tS q
def IC(X:Cx)(scope:Scope):Y5F:=pI X.env scope.names []
def pJ{X:Cx}{scope:Scope}(h:∀y∈scope.names,y.2=.free->∃c,Yc0 y.1 Y0c){x:Str}{c:Addr}(e:(IC X scope).lookup x=Y0c):Y2K=Y0c:=by
 rcases wO scope.names [] h _ (tU e)with a | a
 ·cases a
 ·exact a
def IB{X:Cx}{scope:Scope}(h:∀y∈scope.names,y.2=.free->∃c,Yc0 y.1 Y0c){x:Str}(hx:Yev (x,NameKind.free)){c:Addr}(e:Y2K=Y0c):(IC X scope).lookup x=Y0c:=by
 obtain⟨a,g⟩:=wP (env:=X.env) scope.names [] x hx;obtain⟨i,d⟩:=tS g;have:=pJ h d;rw[e]at this;cases this;exact d
def FX(X:Cx)(scope:Scope)(C:Addr)(fp:Y0m)(s₀:Shared)(H₀:Hp)(N':Ah):Cx where
 prog:=X.prog
 w:=X.w
 K:=X.K
 mg:=X.mg
 base:=X.base
 A:=X.A
 N:=N'
 s₀:=s₀
 H₀:=H₀
 env:=compEnvC scope (Ybu X) C X.env
 outer:=X.stack
 stack:=X.stack
 ex:=fp
 fn:=Yey
 calm:=true
 pn:=[]
 xe:=Yc7
def slots(σ:St)(js:Ae):St:=js.map λj=>(σ[j]?).getD none
def PTs(X:Cx)(ifs:Yz)(t:TT):Prop :=
 ∀(pins:Ad) (s:Shared) (σ:St) (H:Hp) (Q:Y9Z),Y2->t σ H Q ->
  Y4q (forIn ifs true λc r=>if r=true then do let ok <-isTrue c X.env (eval c X.env);pure (ForInStep.yield ok) else pure (ForInStep.yield r)) (TP X pins σ Q)
def vU:TT:=λ_ H Q=>Q true H
def pts_nil{X:Cx}:PTs X [] vU:=λa s σ H Q I h=>wpAny_tests_nil ⟨H,I,h⟩
def ZF{X:Cx}{c:Expr}{t:TT}(h:PT X c t):PTs X [c] t:=λa s σ H Q I q=>wpAny_tests_one (h a s σ H Q I q)
structure dQ(X:Cx)(scope:Scope)(xs:Ah)(N':Ah)(js:Ae):Prop where
 calm:Y1V
 free:∀y∈scope.names,y.2=.free->Y68 y.1 Y4X
 cell:∀y∈scope.names,y.2 ≠ .cell
 kind:scope.kind=.function
 names:∀y∈scope.names,y.2=.local->Y6V y.1 Y1A
 own:∀x∈xs,Y6V x Y1A
 nofl:∀y,Yev (y,NameKind.free)->Y6V y Y1A->False
 len:N'.length=Y64 js.length
 pre:∀(i:Nat) x,Y0t=Y9->N'[i]?=Y9
 nd:N'.Nodup
 slot:∀(i:Nat) (j:Nat),js[i]?=some j->∃y,N'[Y64 i]?=Y00/\X.N[j]?=Y00/\Yev (y,NameKind.free)
abbrev dO(X:Cx)(scope:Scope)(x:Str)(N':Ah)(js:Ae):Prop:=Y46 [x]
def HS(X:Cx)(scope:Scope)(cl:Y5F)(φ:Y27 Str)(C:Addr)(fp:Y0m)(s₀:Shared)(H₀:Hp)(N':Ah):Cx:={ FX X scope C fp s₀ H₀ N' with env:=compEnvC scope cl C X.env,fn:=φ }
section
variable{X:Cx}{pins:Ad}{σ:St}{H:Hp}{s:Shared}{scope:Scope}{xs:Ah}{N':Ah}{js:Ae}{fp:Y0m}
theorem oN{env:Env}:∀{names:YaP}{y:Str}{k:NameKind},(names.map λ(n,k)=>if(k == NameKind.free&&env.scope.kind == .function&&env.kindOf n == some .cell) then(n,NameKind.cell) else(n,k)).lookup y=some k ->
  (k=.cell\/k=.free)->(∀z∈names,z.2 ≠ .cell)->(y,NameKind.free)∈names
 | [],_,_,h,_,_=>by cases h
 | (n,q)::r,y,k,h,hk,hc=>by
  rw[bC,List.lookup_cons]at h;have ih:=λh=>@oN env r y k h hk λz d=>hc z (aQ _ d);by_cases hq:(q == NameKind.free&&env.scope.kind == .function&&env.kindOf n == some .cell)=true
  ·dsimp only at h;rw[if_pos hq]at h;have g:q=.free:=by
    rw[aP,aP]at hq;simpa using hq.1.1
   subst g;by_cases e:(y == n)=true
   ·have:y=n:=by simpa using e
    subst this;exact aG
   ·have c:(y == n)=false:=by simpa using e
    dsimp only at h;rw[c]at h;exact aQ _ (ih h)
  ·dsimp only at h;rw[if_neg hq]at h;by_cases e:(y == n)=true
   ·have:y=n:=by simpa using e
    subst this;dsimp only at h;rw[e]at h;have a:k=q:=by injection h with h;exact h.symm
    subst a;rcases hk with rfl | rfl
    ·exact absurd rfl (hc _ aG)
    ·exact aG
   ·have c:(y == n)=false:=by simpa using e
    dsimp only at h;rw[c]at h;exact aQ _ (ih h)
theorem dQ.cells(S:Y46 xs)(ok:X.Ok):∀y∈scope.names,y.2=.free->∃c,Yc0 y.1 Y0c:=λy a d=>ok.has _ (.inl (S.free y a d))
def aAq(S:Y46 xs)(I:Y2)(hf:∀b∈fp,Y3x H b)(hb:∀b∈fp,Y5v b):(FX X scope s.heap.objs.size fp s H N').Ok where
 mod:=I.ok.mod
 kind:=S.kind
 glob:=I.ok.glob
 blt:=I.ok.blt
 above:=Yk
 inj:=λy z c j d=>I.ok.inj y z c (pJ (Y9r) j) (pJ (Y9r) d)
 has:=λy g=>by
  have i:Yev (y,NameKind.free):=by
   rcases g with g | g
   ·exact oN (env:=X.env) g (Y21) S.cell
   ·exact oN (env:=X.env) g (Y6g) S.cell
  obtain⟨c,l⟩:=S.cells I.ok _ i rfl;exact⟨c,IB (Y9r) i l⟩
 cab:=λ_ _ h=>by cases h
 hd:=λ_=>I.ok.hd S.calm
 frames:=I.ok.frames
 stk:=Y21
 exf:=λb a=>⟨λe=>by have:=hb b a;rw[e]at this;exact Y8L _,λy c h=>(hf b a).2.2.2.2.1 y c (pJ (Y9r) h)⟩
 bs:=I.bs
 bsz:=YeG I.sz
 noex:=λb o e a=>by
  rcases(hf b a).2.2.2.1 with h | h
  ·exact I.ok.noex b o e h
  ·exact absurd (bD (aY e) (YeG h)) (cP _)
 exfs:=λb a hs=>by
  have d:=I.stkSub b hs;rcases aK.mp d with d | d
  ·exact(hf b a).2.1 d
  ·exact(hf b a).2.2.1 d
 funs:=I.stack
 frf:=I.stkFree
def OT{i j:Nat}(h:js[i]?=some j):(Y0N)[i]?=some ((σ[j]?).getD none):=by
 unfold slots;rw[aX,h];rfl
def VT{h':Heap}{tk:Nat}(S:Y46 xs)(I:Y2)(hf:∀b∈fp,Y3x H b)(hb:∀b∈fp,Y5v b)
  (hn:h'.Ns s.heap.objs.size (Ycu)) (hk:Y7x (Y0n=Y5)):cF (FX X scope s.heap.objs.size fp s H N') [] (List.replicate xs.length none++Y0N) H { s with heap:=h',toks:=tk } where
 ok:=aAq S I hf hb
 os:=rfl
 bare:=I.bare
 base:=Un.kept hk
 loc:=by
  refine Y1o hn (λi y v P C a=>?_);by_cases hlt0:Y4f i
  ·rw[List.getElem?_append_left (by rw[cG];exact hlt0),List.getElem?_replicate,if_pos hlt0]at C;cases C
  ·obtain⟨i,rfl⟩:∃k,i=Y64 k:=Y2h (i-xs.length);rw[List.getElem?_append_right (by rw[cG];exact Oo),cG,Nat.add_sub_cancel_left]at C;have d:(Y0N)[i]?=Ycj:=C;have J:i<js.length:=by
    have:=(aT.mp d).1;unfold slots at this
    rwa [aA]at this
   have N:js[i]?=some js[i]:=aD J;obtain⟨z,α,U,D⟩:=S.slot i _ N;have M:z=y:=by
    have:N'[Y64 i]?=Y00:=P;rw[α]at this;cases this;rfl
   subst M;rw[OT N]at d;have O:σ[js[i]]?=Ycj:=by
    cases q:σ[js[i]]? with
    | none=>rw[q]at d;cases d
    | some o=>rw[q]at d;cases d;rfl
   have A:Y68 z Y4X:=S.free _ D rfl;obtain⟨m,γ,W⟩:=I.loc;obtain⟨u,ru,Z⟩:=W _ z v U O (.inr (.inl A));rcases Z with⟨x,_⟩ | ⟨_,c,R,g⟩
   ·rw[A]at x;cases x
   ·refine⟨u,ru,.inr ⟨?_,c,IB (Y9r) D R,?_⟩⟩
    ·rcases a with a | a | a
     ·exfalso;have w:=tU (l:=(relabel scope X.env).names) a;unfold relabel at w;obtain⟨⟨n,k⟩,j,B⟩:=aU.mp w;dsimp only at B;by_cases hq:(k == NameKind.free&&YbP .function&&X.env.kindOf n == Y4X)=true
      ·rw[if_pos hq]at B;cases B
      ·rw[if_neg hq]at B;cases B;have:=S.names _ j rfl;have G:=tS D;obtain⟨β,G⟩:=G;dsimp only at this;rw[this]at G;have L:Y6V z Y1A:=this;exact S.nofl z D L
     ·exact .inl a
     ·exact .inr a
    ·obtain⟨o,e,r⟩:=g;exact Y0P (hk _ _ e) r
 cell:=λy c h=>by
  obtain⟨v,o,e,r⟩:=Y8E y (pJ (Y9r) h);exact⟨v,o,hk _ _ e,r⟩
 free:=Y5m
 freeC:=λy c h=>Ybp y (pJ (Y9r) h)
 pin:=λp T=>by cases T
 hok:=I.hok.kept hk
 len:=by
  rw[aW,cG];unfold slots;rw[aA];exact S.len.symm
def mD.but{P:Program}{w:World}{H:Hp}{h h':Heap}{C:Addr}(x:Y2a)(hC:H C=none)(k:∀b u,b≠C->Y0M=Yt->Y0n=Yt):mD P w H h':=λa o e =>
 (x a o e).stay (λb u c q=>k b u (by
  rcases c with rfl | c
  ·exact cM e hC
  ·exact cM c hC) q) (Y9H) Y63
def NO{cl:Y5F}{φ:Y27 Str}{H2:Hp}{σ':St}{s2:Shared}{h'':Heap}(I:Y2)(hf:∀b∈fp,Y3x H b)
  (J:cF (Y3M X cl φ s.heap.objs.size fp s H N') [] σ' H2 s2) (hs:Heap.SameBut s.heap.objs.size s2.heap h''):Y1N H2 ({ s2 with heap:=h'' }):=by
 have g:H2 s.heap.objs.size=none:=J.free;have ne:∀{b:Addr} {o:Obj},Y2U->Yav b:=λe q=>by
  have:=aY e;rw[q]at this;exact Y8L _
 refine I.call' (s':={ s2 with heap:=h'' }) (ch:=fp) (by rw[show({ s2 with heap:=h'' }:Shared).os=s2.os from rfl];exact J.os) ?_ (J.hok.but g λb u a q=>hs.extBut b u a q) J.bare λb a=>⟨(hf b a).2.2.2.1,(hf b a).2.1,(hf b a).2.2.2.2.1,(hf b a).2.2.2.2.2⟩;have U:=J.base;exact {
  keep:=λb o e n d c=>hs.extBut b o (ne e) (U.keep b o e n d c)
  slot:=λb o e n d c=>by
   obtain⟨i,q⟩:=U.slot b o e n d c;exact⟨i,hs.extBut b _ (ne e) q⟩
  free:=U.free
  there:=λb o e c=>by
   obtain⟨h,q⟩:=U.there b o e c;exact⟨h,hs.extBut b _ (ne e) q⟩
  tups:=U.tups
  frzs:=U.frzs
  tbls:=U.tbls }
end
abbrev NoX:Y8:=Yc7
def FJ{prog:Program}{w:World}{A:Around}{R:Y75}{s:Shared}{elt target iter:Expr}{ifs:Yz}{scope:Scope}{pos:Pos}{it acc:Value}{env:Env}(I:Y1Q Nat)
  (turn:∀n s,I n s->wpAny (Y1F) A (pyNext it) (λr s₁=>match r with
   | none=>R (.ok .next) s₁
   | some v=>wpAny (model prog w) A (letOwnedTupleGo target it v) (λ_ s₁'=>wpAny (model prog w) A (assign target env v) (λ_ s₂ =>
     wpAny (model prog w) A (forIn ifs true λc r=>if r=true then do let ok <-isTrue c env (eval c env);pure (ForInStep.yield ok) else pure (ForInStep.yield r)) (λok s₃ =>
      if ok=true then wpAny (model prog w) A (eval elt env) (λx s₄=>wpAny (model prog w) A (call (.builtin "list.append") [acc,x]) (λ_ s₅=>∃m,m<n/\I m s₅) NoX s₄) NoX s₃
      else ∃m,m<n/\I m s₃) NoX s₂) NoX s₁') NoX s₁) NoX s)
  (n:Nat) (h:I n s):codeAny (Y1F) A (.compLoop (Y4n [Y4o target 0]) 0 it acc env) R s:=by
 refine codeAny_loop rfl I (λn s j=>?_) n h;show wpAny _ A ((compTurn (.ListComp elt [⟨target,iter,ifs,0⟩] scope pos) 0 it acc env).onRaise (λx=>do noteFrame x env;theTreesLotGoes x)) _ _ s;refine wpAny_noted ?_;rw[compTurn_list];refine YbC (Y6O (turn n s j) (λr s₁ e=>?_) Yaz);cases r with
 | none=>exact wpAny_pure e
 | some v =>
  refine Y6O e (λ_ s₁' d=>?_) Yaz;refine Y6O d (λ_ s₂ p=>Y6O p (λok s₃ g=>?_) Yaz) Yaz;cases ok with
  | false=>exact wpAny_pure (Y0l g)
  | true =>
   exact Y7Q (wpAny_mono g (λx s₄ i=>Y6O i (λ_ s₅ l=>Yd9 (Y0l l)) Yaz) Yaz)
def IL(GX:V->Y6G Al)(J:It)(σ:St)(js:Ae)(tc:TT)(te:TE)(H:Hp)(Q:VK):Prop:=∀D,H D=none->∃W:Nat->Nat->Al->Hp->Prop,(Y6A 0 m [] (Y1s H D [])) /\
 ∀i m ys H2,W i m ys H2->H2 D=Y08/\((J.stop i H2/\Y2c D H2)\/(Y6B H2/\YaV ys.length/\∀x H3,Y6v H2 x H3->∃vs,GX x H3 vs /\
  tc (Y5O) H3 λb H4=>if b=true then te (Y5O) H4 λy H5=>H5 D=Y08/\∃m',m' < m/\W (i+1) m' (ys++[y]) (Y1s H5 D (ys++[y]))
   else H4 D=Y08/\∃m',m' < m/\W (i+1) m' ys H4))
structure RB(X:Cx)(scope:Scope)(tg:Expr)(k:Nat)(cl:Addr->Y5F)(φ:Y27 Str)(N':Ah)(js:Ae)(GX:V->Y6G Al)(gg:TG):Prop where
 cells:X.Ok->∀y∈scope.names,y.2=.free->∃c,Yc0 y.1 Y0c
 kind:scope.kind=.function
 names:∀y∈scope.names,y.2=.local->Y6V y.1 Y1A
 len:∀{x:V} {H:Hp} {vs:Al},GX x H vs->Y4a k
 beg:∀{pins:Ad} {σ:St} {H:Hp} {s:Shared} {fp:Y0m} {E:Y8} {Q:Y1Q Env},Y2->(∀b∈fp,Y3x H b)->(∀b∈fp,Y5v b) ->
  (∀(e:Env) (s4:Shared),{ e with scope:=relabel scope X.env }=compEnvC scope (cl s.heap.objs.size) s.heap.objs.size X.env->e.locals=s.heap.objs.size->cF (Y3M X (cl s.heap.objs.size) φ s.heap.objs.size fp s H N') [] (Y38 none++Y0N) H s4->(Y7x (s4.heap.get? b=Y5))->Q e s4) ->
  Y6R (newFunctionEnv scope X.env.globals (Ybu X) [] X.env.qual none .none (some X.env)) Q E s
 hg:∀C fp s₀ H₀,PG (Y3M X (cl C) φ C fp s₀ H₀ N') tg gg
 hx:∀{x:V} {H:Hp} {vs:Al} {os σ:St} {Q:Y1m},GX x H vs->os.length=k->Q (Y5O) H->gg x (os++Y0N) H Q
section
variable{X:Cx}{pins:Ad}{σ:St}{H:Hp}{s:Shared}{scope:Scope}{k:Nat}{cl:Addr->Y5F}{φ:Y27 Str}{GX:V->Y6G Al}{gg:TG}{N':Ah}{js:Ae}{fp:Y0m}{elt iter tg:Expr}{pos:Pos}{ifs:Yz}{tc:TT}{te:TE}
def xL{J:It}{it:Addr}{tn:Nat->Y4h}{RR:Value->Addr->Y75}{E:Y8}{Q:VK}
  (B:RB X scope tg k cl φ N' js GX gg) (I:Y2) (T:IM X.prog X.w X.K tg J fp it tn) (h0:tn 0 s.heap) (hf:∀b∈fp,Y3x H b)
  (ht:Yfw (Y3M X (cl C) φ C fp s₀ H₀ N') ifs tc) (he:YfE (Y3M X (cl C) φ C fp s₀ H₀ N') elt te) (R:IL GX J σ js tc te H Q)
  (hRR:∀(D:Addr) (H3:Hp) (s3:Shared) (σ':St) (H':Hp) (s':Shared),Y1N H3 s3->(∀b∈fp,Y3x H3 b)->cF (Ye2 X YbH φ fp s3 H3 N') [] σ' H' s'->Y1g->RR (.ref D) s3.heap.objs.size (.ok .next) s') :
  wpAny (Y6b) X.A (newList []) (λacc s₃=>wpAny (Y6b) X.A (newFunctionEnv scope X.env.globals (Ybu X) [] X.env.qual none .none (some X.env)) (λcenv s₄ =>
   codeAny (Y6b) X.A (.compStart (Y4n [Y4o tg 0]) 0 (Y4k) acc { cenv with scope:=relabel scope X.env }) (RR acc cenv.locals) s₄) E s₃) E s:=by
 have O:∀b∈fp,Y5v b:=λb O=>by
  obtain⟨o,e,_⟩:=T.obj 0 _ h0 b O;exact aY e
 have S:H s.heap.objs.size=none:=Y5m;obtain⟨W,⟨ψ,U⟩,hW⟩:=R _ S;have I3:Y1N (Y9d H []) ({ s with heap:=s.heap.push { cls:=.type "list",dict:=none,data:=.seq ([]:Ag).toArray } }):=I.lnew (its:=[]) (ys:=[]) (t':=s.toks) .nil (Y1z);have g:∀b∈fp,Y3x (Y9d H []) b:=λb a =>
  ⟨by rw[cH (λe=>by have:=O b a;rw[e]at this;exact Y8L _)];exact(hf b a).1,(hf b a).2⟩
 have G:tn 0 ({ s with heap:=s.heap.push { cls:=.type "list",dict:=none,data:=.seq ([]:Ag).toArray } }:Shared).heap:=T.keep 0 _ _ h0 λb a o e=>Y2D;have M:∀b∈fp,b<({ s with heap:=s.heap.push { cls:=.type "list",dict:=none,data:=.seq ([]:Ag).toArray } }:Shared).heap.objs.size:=λb a=>by
  show b<(s.heap.push _).objs.size;rw[lM];exact Nat.lt_succ_of_lt (O b a)
 refine wpAny_newObj_type ?_;show Y4U _ ({ s with heap:=s.heap.push { cls:=.type "list",dict:=none,data:=.seq ([]:Ag).toArray } });generalize ({ s with heap:=s.heap.push { cls:=.type "list",dict:=none,data:=.seq ([]:Ag).toArray } }:Shared)=s3 at I3 G M ⊢;refine B.beg I3 g M λcenv ρ ec el J4 j=>?_;rw[ec,el];have τ:tn 0 ρ.heap:=T.keep 0 _ _ G λb a o e=>j b o e;have d:codeAny (Y6b) X.A (.compLoop (Y4n [Y4o tg 0]) 0 (Y4k) (Y19) (compEnvC scope (YbH) s3.heap.objs.size X.env)) (RR (Y19) s3.heap.objs.size) ρ:=by
  refine FJ (λn s'=>∃(i:Nat) (ys:Al) (H2:Hp) (N:St),N.length=k/\cF (Y3M X _ φ _ fp _ _ N') [] (N++Y0N) H2 s'/\tn i s'.heap/\(∀b∈fp,H2 b=none)/\W i n ys H2) ?_ ψ ⟨0,[],_,_,cG,J4,τ,λb a=>(g b a).1,U⟩;rintro n s' ⟨i,ys,H2,N,α,J2,ν,ω,w2⟩;obtain⟨hD,l⟩:=hW i n ys H2 w2;have ξ:∀b∈fp,pP (Ye2 X YbH φ fp s3 (Y9d H []) N') [] H2 b:=λb a =>
   ⟨ω b a,(J2.ok.exf b a).1,J2.ok.exfs b a,.inl a,(J2.ok.exf b a).2,λp γ=>by cases γ⟩
  rcases l with⟨h,hq⟩ | ⟨β,hz,m⟩
  ·refine Y9e (T.done (Y3M X _ φ _ fp _ _ N') rfl rfl rfl rfl i [] s' _ H2 NoX J2 ξ ν h) (λr s1 ⟨ζ,J5⟩=>?_) f;subst ζ;exact hRR _ _ _ _ _ _ I3 g J5 hq
  ·refine Y9e (T.item (Y3M X _ φ _ fp _ _ N') rfl rfl rfl rfl i [] s' _ H2 NoX J2 ξ ν β) (λr s1 ⟨u,ζ,hx⟩=>?_) f;subst ζ;refine Y9e hx (λ_ s2 ⟨v,H3,J3,rv,hy,G,f3⟩=>?_) f;have η:∀b∈fp,pP (Ye2 X YbH φ fp s3 (Y9d H []) N') [] H3 b:=λb a =>
    ⟨f3 b a,(J3.ok.exf b a).1,J3.ok.exfs b a,.inl a,(J3.ok.exf b a).2,λp γ=>by cases γ⟩
   have P3:=J3.pinned η (T.obj (i+1) _ G);have c:∀{σ':St} {Hx:Hp} {sx:Shared},cF (Ye2 X YbH φ fp s3 (Y9d H []) N') ([]++AE fp s2.heap) σ' Hx sx->tn (i+1) sx.heap/\∀b∈fp,Hx b=none:=λυ =>
    ⟨T.keep (i+1) _ _ G λb a μ e=>(υ.pin (b,μ) (bY _ (bY _ (qF a e)))).1,λb a=>by
     obtain⟨μ,e,_⟩:=T.obj (i+1) _ G b a;exact(υ.pin (b,μ) (bY _ (bY _ (qF a e)))).2.1⟩
   obtain⟨κ,χ,qe⟩:=m v H3 hy;have ο:=B.len χ;refine Y9e (B.hg _ _ _ _ _ _ (N++Y0N) H3 v u (λσ' H'=>σ'=κ.map some++Y0N/\H'=H3) P3 rv (B.hx χ α Yad)) (λ_ s5 ⟨σ5,H5,J5,e5,e6⟩=>?_) f;subst e5 e6;refine Y9e (ht _ _ _ _ _ _ _ _ _ J5 qe) (λok s6 ⟨H6,J6,L⟩=>?_) f;dsimp only at L;by_cases hok:ok=true
   ·rw[if_pos hok]at L ⊢;refine Y9e (he _ _ _ _ _ _ _ _ _ J6 L) (λy s7 ⟨P,H7,J7,r7,Z,ι,x,ε⟩=>?_) f;refine Y9e (CL (X:=Y3M X _ φ _ fp _ _ N') _ _ _ _ (Y19) [P] (Y19) [y] (λ_ H8=>H8=Y9d H7 (ys++[P])) J7 rfl (Y9E r7) (Y1Y _ _ _ rfl Z hz rfl)) (λ_ s8 ⟨_,H8,J8,_,e8⟩=>?_) f;subst e8;obtain⟨θ,δ⟩:=c J8;exact⟨ι,x,i+1,ys++[P],_,κ.map some,by rw[aA,ο],J8.unpinned,θ,δ,ε⟩
   ·rw[if_neg hok]at L ⊢;obtain⟨_,ι,x,ε⟩:=L;obtain⟨θ,δ⟩:=c J6;exact⟨ι,x,i+1,ys,_,κ.map some,by rw[aA,ο],J6.unpinned,θ,δ,ε⟩
 refine codeAny_compStart_list d (T.self X.A 0 _ _ _ τ d)
def AF{wi:TI}{TC:It->St->(Hp->(Y18 VK))}(B:RB X scope tg k cl φ N' js GX gg)(hi:PI X tg iter wi)(ht:Yfw (Y3M X (cl C) φ C fp s₀ H₀ N') ifs tc)(he:YfE (Y3M X (cl C) φ C fp s₀ H₀ N') elt te)
  (hc:∀{J σ H Q},TC J σ H Q->IL GX J σ js tc te H Q) (hs:∀x,Y7i x=Y7D):Yj (Y4n [Y4o tg 0]) (YeH σ H (λJ H1=>TC J σ H1 Q)):=by
 intro a s σ H Q I h;rw[eval_ListComp];refine wpAny_comprehension_free (use:=none) rfl hs (tF (B.cells I.ok)) B.kind B.names (Yee (hi a s σ H _ I h) (λv L j=>?_));refine Yee j (λi r ⟨it,fp,A,J,H2,e,I2,T,g,l,R⟩=>?_);subst e;refine xL B I2 T g l ht he (hc R) ?_;intro D H3 y w H' G I3 d J3 q;obtain⟨m,p,_⟩:=J3.loc;exact⟨m,p,λu c=>Y3z (.ref D) H' (NO I3 d J3 c) q⟩
def xB{wi:TI}{TC:It->St->(Hp->(Y18 VK))}{y:Str}{py spos:Pos}{i:Nat}(B:RB X scope tg k cl φ N' js GX gg)(hN:X.N.Nodup)(hiN:Y1W=Y00)(hy:Y68 y Y1A)(hi:PI X tg iter wi)(ht:Yfw (Y3M X (cl C) φ C fp s₀ H₀ N') ifs tc)(he:YfE (Y3M X (cl C) φ C fp s₀ H₀ N') elt te)
  (hc:∀{J σ H Q},TC J σ H Q->IL GX J σ js tc te H Q) (hsw:YeR (Y4n [Y4o tg 0]) (some (Y41)) spos.line=pure true) (hs:∀x,Y7i x=Y7D) :
  PS X (.Assign [Y41] (Y4n [Y4o tg 0]) spos) (JH (YeH σ H (λJ H1=>TC J σ H1 Q)) (nJ i)):=by
 intro d s σ H D0 I h;rw[exec_Assign_Name_used _ _ _ _ hsw];refine YbC Y39;show wpAny _ X.A (do let _ <-comprehension (.ListComp elt [⟨tg,iter,ifs,0⟩] scope pos) scope X.env _ (newList []) false (eval iter X.env) (some (assign (.Name y py) X.env))) _ _ s;refine Y6O (wpAny_comprehension_free (use:=some (assign (Y41) X.env)) (Q:=λ_ l=>SP X d D0 .next l) rfl hs (tF (B.cells I.ok)) B.kind B.names (Yee (hi d s σ H _ I h) (λv θ Z=>?_))) (λ_ l U=>Yd9 U) Y83;refine Yee Z (λW δ ⟨it,fp,η,J,H2,e,I2,T,P,β,R⟩=>?_);subst e;refine xL (Q:=λv H'=>nJ i v σ H' D0.nx) B I2 T P β ht he (hc R) ?_;intro D H3 G ζ H' l I3 w J3 q;obtain⟨m,γ,_⟩:=J3.loc;have IX:Y1J d H' l:=NO I3 w J3 (Heap.SameBut.refl ..);have j:Y48 G.heap.objs.size:=λe=>by have:=I3.lt;rw[e]at this;exact Y8L _
 show wpAny _ X.A (assign (Y41) X.env (.ref D)) _ _ _;refine wpAny_assign_Name (CC IX hN hiN (.inl hy) (v:=.ref D) rfl (λα I5 g=>?_) (.inr hy));obtain⟨a,g,L⟩:=g;have M:G.heap.objs.size≠a:=by
  rcases L with rfl | L
  ·exact j
  ·intro e;obtain⟨v,o,u,_⟩:=I3.cell y a L;have:=aY u;rw[<-e]at this;exact Y8L _
 refine⟨m,γ.sameBut g M,λε r=>Y7K _ H' ?_⟩;exact I5.turned (it:=G.heap.objs.size) (t':=α.toks) (λb o n e=>r.extBut b o n e) J3.free j (.inr I3.sz)
  (λz c O e=>by
   obtain⟨v,o,u,_⟩:=I3.cell z c O;have:=aY u;rw[e]at this;exact Y8L _)
  (λp S e=>by
   have:=aY (I3.pin p S).1;rw[e]at this;exact Y8L _)
def dQ.blk{xs:Ah}(S:Y46 xs)(hl:∀{x:V}{H:Hp}{vs:Al},GX x H vs->Y4a xs.length)(hg:∀C fp s₀ H₀,PG (Y3u) tg gg)(hx:∀{x:V}{H:Hp}{vs:Al}{os σ:St}{Q:Y1m},GX x H vs->Y5E os.length->Q (Y5O) H->gg x (os++Y0N) H Q):RB X scope tg xs.length (λ_=>Ybu X) (Yey) N' js GX gg :=
 ⟨S.cells,S.kind,S.names,hl,λ{a σ H s fp E Q} I j i k=>wpAny_newFunctionEnv S.cell (by intro y h;simp at h) (λg d hs=>by
  have c:Y7x (g.get? b=Y5):=λb o e=>hs.extBut b o (λq=>by have:=aY e;rw[q]at this;exact Y8L _) (Y2D);exact k _ _ rfl rfl (VT S I j i d c) c) S.kind,hg,hx⟩
end
structure KR(X:Cx)(ifs:Yz)(t:TT):Prop where p:PTs X ifs t
def zJ(t:TE):TE:=λσ H Q=>∃Q':VK,t σ H Q'/\∀v H1,Q' v H1->Q v H1
def PE.mono{X:Cx}{e:Expr}{t:TE}(h:Yj e t):Yj e (zJ t):=λa s σ H Q I ⟨Q',c,d⟩ =>
 thn (h a s σ H Q' I c) λb g ⟨v,H',I',r,q⟩=>⟨v,H',I',r,d _ _ q⟩
def PTs.mono{X:Cx}{es:Yz}{t:TT}(h:PTs X es t):PTs X es (sU t):=λa s σ H Q I ⟨Q',c,d⟩ =>
 thn (h a s σ H Q' I c) λb e ⟨H',I',q⟩=>⟨H',I',d _ _ q⟩
@[irreducible] def kG(J:It)(σ:St)(js:Ae)(tc:TT)(te:TE)(H1:Hp)(Q:VK):Prop:=∀D,H1 D=none->∃W:Nat->Nat->Al->Hp->Prop,(Y6A 0 m [] (Y1s H1 D [])) /\
 ∀i m ys H2,W i m ys H2->H2 D=Y08/\((J.stop i H2/\Y2c D H2)\/(Y6B H2/\YaV ys.length/\∀x H3,Y6v H2 x H3 ->
  sU tc (Y9::Y0N) H3 λb H4=>if b=true then zJ te (Y9::Y0N) H4 λy H5=>H5 D=Y08/\∃m',m' < m/\W (i+1) m' (ys++[y]) (Y1s H5 D (ys++[y]))
   else H4 D=Y08/\∃m',m' < m/\W (i+1) m' ys H4))
def SE(wi:TI)(js:Ae)(tc:TT)(te:TE):TE:=YeH σ H (λJ H1=>kG J σ js tc te H1 Q)
section
variable{X:Cx}{scope:Scope}{x y:Str}{N':Ah}{js:Ae}{elt iter c:Expr}{px py pos spos:Pos}{ifs:Yz}{tc:TT}{te:TE}{wi:TI}{i:Nat}
def dE:KR X [] vU:=⟨pts_nil⟩
def LD{t:TT}(h:KQ X c t):KR X [c] t:=⟨ZF h.p⟩
def kG.turns{J:It}{σ:St}{H:Hp}{Q:VK}(h:kG J σ js tc te H Q):IL (λv _ vs=>vs=[v]) J σ js (sU tc) (zJ te) H Q:=λD g=>by
 unfold kG at h;obtain⟨W,e,j⟩:=h D g;refine⟨W,e,λi m d H2 w=>?_⟩;obtain⟨hd,l⟩:=j i m d H2 w;exact⟨hd,l.imp_right λ⟨a,b,c⟩=>Y4A b (λx H3 y=>Y0Q [x] (c x H3 y))⟩
def aDG{x:V}{H:Hp}{vs:Al}{os σ:St}{Q:Y1m}(h:vs=[x])(hl:os.length=1)(q:Q (Y5O) H):nJ 0 x (os++Y0N) H Q:=by
 subst h
 match os,hl with
 | [o],_=>exact q
def dQ.one(S:dO X scope x N' js):RB X scope (Y5a) 1 (λ_=>Ybu X) (Yey) N' js (λv _ vs=>vs=[v]) (nJ 0) :=
 have l:=lookup_relabel_local (S.own x aG)
 S.blk (λh=>by rw[h];rfl) (λC a c H₀=>MH S.nd (S.pre 0 x rfl) (.inl l) (.inr l)) aDG
def eK(S:dO X scope x N' js)(hi:Y7L X Y5a wi)(ht:YbO Y3u ifs tc)(he:YbN Y3u elt te)
  (hs:∀x,Y7i x=Y7D:=by intro _;rfl):Ye (Y4n [Y4o Y5a 0]) (SE wi js tc te) :=
 ⟨AF S.one hi.p (λC fp s₀ H₀=>(ht C fp s₀ H₀).p.mono) (λC fp s₀ H₀=>(he C fp s₀ H₀).p.mono) kG.turns hs⟩
def pS(S:dO X scope x N' js)(hN:X.N.Nodup)(hiN:Y1W=Y00)(hy:Y68 y Y1A)(hi:Y7L X Y5a wi)(ht:YbO Y3u ifs tc)(he:YbN Y3u elt te)
  (hsw:YeR (Y4n [Y4o Y5a 0]) (some (Y41)) spos.line=pure true:=by rfl) (hs:∀x,Y7i x=Y7D:=by intro _;rfl) :
  FZ X (.Assign [Y41] (Y4n [Y4o Y5a 0]) spos) (JH (SE wi js tc te) (nJ i)) :=
 ⟨xB S.one hN hiN hy hi.p (λC fp s₀ H₀=>(ht C fp s₀ H₀).p.mono) (λC fp s₀ H₀=>(he C fp s₀ H₀).p.mono) kG.turns hsw hs⟩
end
def BF(psc scope:Scope)(N:Ah)(xs N':Ah)(js:Ae):Bool :=
 (Ydv (!(y.2 == .free) || psc.names.lookup y.1 == Y4X))&&(Ydv (!(y.2 == .cell)))&&scope.kind == .function &&
 (Ydv (!(y.2 == .local) || YfR y.1 Y1A))&&(xs.all λx=>YfR x Y1A) &&
 (Ydv (!(y.2 == .free) || !(YfR y.1 Y1A)))&&N'.length == Y64 js.length&&N'.take xs.length == xs&&decide N'.Nodup &&
 ((List.range js.length).all λi=>match js[i]?,N'[xs.length+i]? with
  | some j,some y=>N[j]? == some y&&scope.names.contains (y,NameKind.free)
  | _,_=>false)
def dQ.of{X:Cx}{psc scope:Scope}{N:Ah}{xs N':Ah}{js:Ae}(h:BF psc scope N xs N' js=true)(hX:X.env.scope=psc)(hN:X.N=N)(hc:Y1V):Y46 xs:=by
 unfold BF at h;simp only[aP]at h;obtain⟨⟨⟨⟨⟨⟨⟨⟨⟨u,p⟩,C⟩,l⟩,r⟩,w⟩,A⟩,B⟩,D⟩,c⟩:=h;rw[List.all_eq_true]at u p l r w c;refine⟨hc,Yej,Yej,by simpa using C,Yej,λx d=>by simpa using r x d,Yej,by simpa using A,λi x d=>?_,of_decide_eq_true D,λi j m=>?_⟩
 ·have:=u y a;rw[e]at this;show Yg8 y.1 _;rw[hX];simpa using this
 ·have:=p y a;rw[e]at this;simp at this
 ·have:=l y a;rw[e]at this;simpa using this
 ·have:=w _ a;rw[e]at this;simp at this
 ·have G:N'.take xs.length=xs:=by simpa using B
  have g:Y4f i:=(aT.mp d).1;rw[<-d]
  conv=>rhs;rw[<-G]
  rw[List.getElem?_take,if_pos g]
 ·have g:i<js.length:=(aT.mp m).1;have:=c i (bX.mpr g);rw[m]at this;cases q:N'[Y64 i]? with
  | none=>rw[q]at this;simp at this
  | some y =>
   rw[q]at this;simp only[aP]at this;exact Y0X y (by rw[hN];simpa using this.1) (List.contains_iff_mem.mp this.2)
def dQ.o{X:Cx}{scope:Scope}(xs N':Ah)(js:Ae)(h:BF X.env.scope scope X.N xs N' js=true:=by exact Eq.refl true)(hc:Y1V:=by rfl):Y46 xs:=dQ.of h rfl rfl hc
theorem dO.of{X:Cx}{psc scope:Scope}{N:Ah}{x:Str}{N':Ah}{js:Ae}(h:BF psc scope N [x] N' js=true)(hX:X.env.scope=psc)(hN:X.N=N)(hc:Y1V):dO X scope x N' js:=dQ.of h hX hN hc
def dO.o{X:Cx}{scope:Scope}{x:Str}(N':Ah)(js:Ae)(h:BF X.env.scope scope X.N [x] N' js=true:=by exact Eq.refl true)(hc:Y1V:=by rfl):dO X scope x N' js:=dO.of h rfl rfl hc
section
variable{js:Ae}{te:TE}{tc:TT}{σ:St}{H:Hp}{Q:VK}
def BG{J:It}{n:Nat}(src:Y8N V)(hz:Y6r n)(Pv:Addr->Nat->Y1l Al)
  (h0:∀D H1,H D=none->H1 D=Y05 []->aV H H1->Pv D 0 [] H1)
  (hg:∀D i ys H',i<n->Y0k=Y08->Pv D i ys H'->Y6B H'/\∀x H3,Y6v H' x H3->H3=H'/\src i x)
  (hst:Y2Q (Y0k=Y08) (Pv D n ys H'->YcT n))
  (hs:∀D i x ys H',src i x->i<n->Y3I i->Y0k=Y08->Pv D i ys H'->te (Y9::Y0N) H' λy H5=>H5 D=Y08/\∀H6,H6 D=Y05 (ys++[y])->bB D H5 H6->Pv D (i+1) (ys++[y]) H6)
  (hd:Y2Q (Y3I n) (H D=none->Y0k=Y08->Pv D n ys H'->Y1g)) :
  kG J σ js vU te H Q:=by
 unfold kG;intro D g;refine Y0w (λi m ys H'=>m=n-i/\i<=n/\Y3I i/\Y0k=Y08/\Pv D i ys H') ⟨n,by simp,Y1z,rfl,bR,h0 D _ g bR (aV.upd g)⟩;rintro i m ys H2 ⟨rfl,u,h,a,p⟩;refine Y02 a;by_cases hlt:i<n
 ·obtain⟨l,r⟩:=hg D i ys H2 hlt a p;refine Y3L l (Ye7 Oo Dd) (λx H3 c=>?_);obtain⟨rfl,j⟩:=r x H3 c;refine Y0w (λb H4=>b=true/\H4=H3) Yad;rintro b H4 ⟨rfl,rfl⟩;rw[Y1P];refine Y0w _ (hs D i x ys H4 j hlt h a p);rintro v H5 ⟨d,k⟩;exact⟨d,n-(i+1),Oo,rfl,hlt,by rw[aW,h];rfl,bR,k _ bR bB.self⟩
 ·have e:i=n:=Oo;subst e;exact Y3e (hst D ys H2 a p) (hd D ys H2 h g a p)
end
@[irreducible] def PB(b:Bool):R2:=λx y H Q=>∃d d',Y2n/\Y0r d' y/\Y3i d/\Y3i d'/\Y0H (b == Yek d)
section
variable{X:Cx}
def AL(hu:Y2u 64<cLine):Y29 .Eq (PB true):=by
 unfold PB;intro a s σ H x y v u Q I c j h;obtain⟨d,w,m,i,p,e,q⟩:=h;obtain⟨r,l⟩:=m.reads I c;obtain⟨bs,g⟩:=i.reads I j;exact SeqAt.compareEq_shaped l g p e hu ⟨.bl _,H,I,by show _=_;simp,q⟩
def EO(hu:Y2u 64<cLine):Y29 .NotEq (PB false):=by
 unfold PB;intro a s σ H x y v u Q I c j h;obtain⟨d,w,m,i,p,e,q⟩:=h;obtain⟨r,l⟩:=m.reads I c;obtain⟨bs,g⟩:=i.reads I j;exact SeqAt.compareNe_shaped l g p e hu ⟨.bl _,H,I,by show _=_;simp,q⟩
def YR{b:Bool}{x y:V}{d d':PyData}{H:Hp}{Q:VK}(h1:Y2n)(h2:Y0r d' y)(s1:Y3i d)(s2:Y3i d')(q:Y0H (b == Yek d)):PB b x y H Q:=by
 unfold PB;exact⟨d,d',h1,h2,s1,s2,q⟩
end
mutual
def cV:Y1R
 | .list _=>false
 | .dict _=>false
 | .tuple ds=>fM ds
 | _=>true
def fM:Y27 Ya
 | []=>true
 | d::ds=>cV d&&fM ds
end
def dH(H H':Hp):Prop:=∀b xs,H b=Y0O->Y1q=Y0O
def dH.trans{H H1 H2:Hp}(a:dH H H1)(b:Y7v):dH H H2:=λc o h=>b c o (a c o h)
def aV.t{H H':Hp}(s:Y0):Y4G:=λb a h=>s _ _ h
def bB.t{H H':Hp}{p:Addr}(s:Y0s){xs:Al}(hp:H p=Y0y):Y4G:=λb a h=>s.at (CK h hp (by intro z;cases z)) h
mutual
theorem bL.flat{H H':Hp}(s:Y4G):∀{d:PyData}{v:V},cV d=true->Y3K v->Y4x d v
 | .none,_,_,h=>h
 | .bool _,_,_,h=>h
 | .int _,_,_,h=>h
 | .str _,_,_,h=>h
 | .list _,_,f,_=>by simp[cV]at f
 | .dict _,_,f,_=>by simp[cV]at f
 | .tuple ds,_,f,h=>by
  unfold bL at h ⊢;obtain⟨a,ys,rfl,h1,h2⟩:=h;exact⟨a,ys,rfl,s _ _ h1,aJ.flat s (by simpa[cV]using f) h2⟩
theorem aJ.flat{H H':Hp}(s:Y4G):∀{ds:Ya}{vs:Al},fM ds=true->Y4t->Y2l ds vs
 | [],_,_,h=>h
 | d::ds,_,f,h=>by
  unfold aJ at h ⊢;obtain⟨x,ys,rfl,h1,h2⟩:=h;simp only[fM,aP]at f;exact⟨x,ys,rfl,bL.flat s f.1 h1,aJ.flat s f.2 h2⟩
end
theorem aJ.get{H:Hp}:∀{ds:Ya}{vs:Al}{i:Nat}{v:V},Y4t->vs[i]?=Yq->∃d,ds[i]?=Y2B/\Y3K v
 | [],_,i,v,h,e=>by cases(show _=[]from h);simp at e
 | d::ds,_,i,v,h,e=>by
  unfold aJ at h;obtain⟨x,ys,rfl,h1,h2⟩:=h;cases i with
  | zero=>simp at e;subst e;exact⟨d,rfl,h1⟩
  | succ i =>
   rw[List.getElem?_cons_succ]at e ⊢;exact aJ.get h2 e
theorem aJ.get'{H:Hp}:∀{ds:Ya}{vs:Al}{i:Nat}{d:PyData},Y4t->ds[i]?=Y2B->∃v,vs[i]?=Yq/\Y3K v
 | [],_,i,d,h,e=>by simp at e
 | d' :: ds,_,i,d,h,e=>by
  unfold aJ at h;obtain⟨x,ys,rfl,h1,h2⟩:=h;cases i with
  | zero=>simp at e;subst e;exact⟨x,rfl,h1⟩
  | succ i =>
   rw[List.getElem?_cons_succ]at e ⊢;exact aJ.get' h2 e
def aJ.snoc{H:Hp}{ds:Ya}{vs:Al}{d:PyData}{v:V}(h:Y4t)(r:Y3K v):Y15 (ds++[d]) (vs++[v]):=aJ.append (Y4R r) h
def FM{i:Int}{n:Nat}(h:Y2Y (2^n)):bits i<=n:=PySem.intBits_le_iff.mpr h
def sO{i j:Int}{n m:Nat}(h1:Y2Y (2^n))(h2:j.natAbs<2^m)(hn:n<=1048576:=by decide)(hm:m<=1048576:=by decide):IntMulOk i j:=by
 refine IntMulOk.of_bits ?_ ?_
 ·exact aM (FM h1) hn
 ·exact aM (FM h2) hm
mutual
def vZ:Y60 Nat
 | .none=>4
 | .bool _=>5
 | .int _=>1921
 | .str x=>(reprText x).length
 | .list xs=>iI xs+4
 | .tuple xs=>iI xs+4
 | .dict _=>0
def iI:Ya->Nat
 | []=>0
 | x::xs=>vZ x+2+iI xs
end
theorem wX:∀(ts:Ah) (k:Nat) (acc:Str),(textFrom k acc ts).length<=acc.length+piled ts
 | [],k,acc=>by show acc.length<=_;exact Oo
 | t::r,k,acc=>by
  have h:=wX r (k+1) (acc++(if k > 0 then ", " else "" : String)++t);have e:(acc++(if k > 0 then ", " else "" : String)++t).length=acc.length+(if k > 0 then 2 else 0)+t.length:=by
   rw[strLen_append,strLen_append];split <;> rfl
  rw[e]at h;rw[piled_cons];show(textFrom (k+1) _ r).length<=_;refine aM h ?_;split <;> exact Oo
def DT(ts:Ah):(tupleText ts).length<=piled ts+4:=by
 unfold tupleText;rw[strLen_append,strLen_append];have a:(("(" : Str)).length=1:=rfl;have c:((if ts.length == 1 then ",)" else ")" : String):Str).length<=2:=by split <;> decide
 rw[a];by_cases h:ts=[]
 ·subst h;have:(Str.join ", " []).length=0:=rfl;exact Oo
 ·have:=join_length_add ts h;exact Oo
def HF(ts:Ah):(listText ts).length<=piled ts+4:=by
 unfold listText;rw[strLen_append];have:=wX ts 0 "[";have c:(("[" : String):Str).length=1:=rfl;have a:(("]" : String):Str).length=1:=rfl;rw[c]at this;rw[a];exact Oo
mutual
theorem GM:∀d:PyData,d.showable=true->Ye8->d.shown.length<=vZ d
 | .none,_,_=>by simp only[PyData.shown,vZ];decide
 | .bool b,_,_=>by cases b <;> (simp only[PyData.shown,vZ];decide)
 | .int i,h,_=>by
  simp only[PyData.shown,vZ];exact int_text_len_1921 (by simpa[PyData.showable]using h)
 | .str x,_,_=>by simp only[PyData.shown,vZ];exact aO _
 | .list xs,h,h2=>by
  simp only[PyData.shown,vZ];have:=rH xs (by simpa[PyData.showable]using h) (by simpa[PyData.hasDict]using h2);have:=HF (PyData.shownAll xs);exact Oo
 | .tuple xs,h,h2=>by
  simp only[PyData.shown,vZ];have:=rH xs (by simpa[PyData.showable]using h) (by simpa[PyData.hasDict]using h2);have:=DT (PyData.shownAll xs);exact Oo
 | .dict _,_,h=>by simp[PyData.hasDict]at h
theorem rH:∀ds:List PyData,Yar=true->Y7W ds->piled (PyData.shownAll ds)<=Y3Y
 | [],_,_=>by simp only[PyData.shownAll,iI];exact aO _
 | d::ds,h,h2=>by
  simp only[PyData.showableAll,aP]at h;simp only[PyData.hasDictAll,Bool.or_eq_false_iff]at h2;have:=GM d h.1 h2.1;have:=rH ds h.2 h2.2;simp only[PyData.shownAll,iI,piled_cons];exact Oo
end
def LX{i:Int}{n:Nat}(h:Y2Y (2^n))(hn:n<=1920:=by decide):Y6m Y07:=by
 simp only[PyData.showable];refine bH (xF (aM (FM h) hn) Dd)
section
variable{X:Cx}(K:Aa)
def fY(h:X.K=K:=by rfl):WS X (rIx K):=by subst h;exact bE
end
end L2
namespace L2
open PySem
def pO(b:Bool)(h:Heap)(i l:Addr)(k:Nat):Prop:=∃o,h.get? i=Y5/\o.cls=.type (bif b then "tuple_iterator" else "list_iterator")/\o.data=.fields #[Y13,.int k 0]
def lL(b:Bool)(h:Heap)(l:Addr)(xs:Ai):Prop:=∃o,h.get? l=Y5/\o.cls=.type (bif b then "tuple" else "list")/\∃n,o.data=.seq xs n
def pO.at{b:Bool}{h h':Heap}{i l:Addr}{k:Nat}(x:pO b h i l k)(f:∀o,h.get? i=Y5->Y3k i):pO b h' i l k:=let ⟨o,ho,r⟩:=x;Y0P (f o ho) r
def lL.at{b:Bool}{h h':Heap}{l:Addr}{xs:Ai}(x:lL b h l xs)(f:∀o,h.get? l=Y5->Y3k l):lL b h' l xs:=let ⟨o,ho,r⟩:=x;Y0P (f o ho) r
section
variable{prog:Program}{w:World}{A:Around}{E:Y8}{s:Shared}
def yF{b:Bool}{it l:Addr}{i:Nat}{items:Ai}{x:Value}{Q:Y8}(hit:pO b s.heap it l i)(hl:Y1C b l items)(hx:Yah i=Y9)
  (hQ:∀h',pO b h' it l (i+1)->Y9f it h'->Q x { s with heap:=h' }):Y0U (Yao it):=by
 cases b with
 | false=>exact wpAny_nextOf_list_item hit hl hx hQ
 | true =>
  have c:YbJ l i:=hit;obtain⟨o,a,g,hd⟩:=id c;obtain⟨j,d,_,h,e⟩:=hl;unfold Builtin.SmallTypes.nextOf;refine wpAny_bind (Y89 "__next__" c.typeIs F.slot_tuple_iterator_next F.slot_tuple_iterator_next c.typeIs F.entry_tuple_iterator_next ?_ (F.args_tuple_iterator_next_1 _));show Y32 (Y4V it 0 >>= _);refine wpAny_bind (wpAny_field a hd (x:=Y13) rfl ?_);show Y32 (if(Value.ref l == Value.none)=true then _ else _);rw[if_neg (show ¬((Value.ref l == Value.none)=true)from bZ)];show Y32 (Y4V it 1 >>= _);refine wpAny_bind (wpAny_field a hd (x:=Y7M 0) rfl ?_);show Y32 (seqItems? (Y13) >>= _);refine Y6K d e ?_;simp only[Int.toNat_natCast,hx];refine Yd5 a hd (by simp) (wpAny_pure (Y0Q x (wpAny_pure (hQ _ ?_ (Heap.SameBut.update ..)))));refine⟨_,Yal _ a (Yfm _),(Obj.cls_mapFields ..).trans g,?_⟩;rw[Obj.data_mapFields hd];simp[rawInt]
def JT{b:Bool}{it l:Addr}{i:Nat}{items:Ai}{Q:Y8}(hh:Y4i)(hit:pO b s.heap it l i)(hl:Y1C b l items)(hx:Yah i=none)
  (hE:∀h' e,YdH it h'->(∃o,Y3k e/\o.cls=.type "StopIteration")->E (Y2V) { s with heap:=h' }):Y0U (Yao it):=by
 cases b with
 | false=>exact wpAny_nextOf_list_end hh hit hl hx hE
 | true =>
  have d:YbJ l i:=hit;obtain⟨o,c,r,hd⟩:=id d;obtain⟨p,g,_,j,h⟩:=hl;unfold Builtin.SmallTypes.nextOf;refine wpAny_bind (Y89 "__next__" d.typeIs F.slot_tuple_iterator_next F.slot_tuple_iterator_next d.typeIs F.entry_tuple_iterator_next ?_ (F.args_tuple_iterator_next_1 _));show Y32 (Y4V it 0 >>= _);refine wpAny_bind (wpAny_field c hd (x:=Y13) rfl ?_);show Y32 (if(Value.ref l == Value.none)=true then _ else _);rw[if_neg (show ¬((Value.ref l == Value.none)=true)from bZ)];show Y32 (Y4V it 1 >>= _);refine wpAny_bind (wpAny_field c hd (x:=Y7M 0) rfl ?_);show Y32 (seqItems? (Y13) >>= _);refine Y6K g h ?_;simp only[Int.toNat_natCast,hx];refine Y99 (Yd5 c hd (by simp) ?_);show Y0V (newExc (.type "StopIteration") [] >>= _);refine Y39;simp only[newExc,newTuple];refine wpAny_bind (Ydl (by size_fits));refine wpAny_bind (m:=firstArgMember _ _) (wpAny_of_eq (a:=Value.none) (by first | rfl | (simp only[firstArgMember];rfl)) ?_);refine Ydl (by size_fits);simp only[raiseNew];refine wpAny_bind (wpAny_handled ?_)
  first | rw[show A.in1.handled=none from hh] | rw[hh]
  refine Y5q (wpAny_throw ?_);exact hE _ _ (((Heap.SameBut.update ..).extBut.push _).push _) (Y0j Y14)
structure ZAt(b1 b2:Bool)(z TI TO i1 i2 l1 l2:Addr)(f:Value)(k:Nat)(h:Heap):Prop where
 z:IsZip h z TI TO f
 ti:IsPair h TI (.ref i1) (.ref i2)
 to:∃a b,Ybx h a b
 i1:pO b1 h i1 l1 k
 i2:pO b2 h i2 l2 k
def OH{b1 b2:Bool}{z TI TO i1 i2 l1 l2:Addr}{k:Nat}{xs ys:Ai}{x y:Value}{Q:Y8}(D:ZipApart z TI TO i1 i2 l1 l2)(Z:ZAt b1 b2 z TI TO i1 i2 l1 l2 .none k s.heap)
  (hl1:Y1C b1 l1 xs) (hl2:Y1C b2 l2 ys) (hx:Y1Z k=Y9) (hy:ys[k]?=Y00)
  (hQ:∀h',ZAt b1 b2 z TI TO i1 i2 l1 l2 (rawInt s.heap.objs.size) (k+1) h'->IsPair h' s.heap.objs.size x y->(∀c o,c≠z->c≠TO->c≠i1->c≠i2->Y3Z->Y3k c)->Q (Y19) { s with heap:=h' }) :
  wpAny (model prog w) A (Builtin.«zip.__next__» ⟨[.ref z],[]⟩) (λfin s'=>∃v,fin=Yce v/\Q v s') E s:=by
 obtain⟨I,T,⟨a,b,η⟩,φ,τ⟩:=Z;show Y0V (Y4V z 2 >>= _);refine Y5V I (.bool false);show Y0V (Y4V z 3 >>= _);refine Y5V I (.ref TI);refine Y6K T rfl ?_;show Y0V (YeS z >>= _);refine Y39;unfold Builtin.SmallTypes.ownedTupleIsFree;refine wpAny_bind (wpAny_field I rfl (x:=.none) rfl Y1B);simp only[if_true];refine Y99 ?_;refine Y5V I (.ref TO);refine Y96 I (by simp) (λρ p J=>?_);have B:=J.extBut;replace p:YaI ρ z TI TO:=p;refine Y39;simp only[List.zipIdx_cons,List.zipIdx_nil,List.forIn_cons,List.forIn_nil];refine Yds ?_;show Y0V (Yao i1 >>= _);refine Yer (φ.at λo e=>B _ o D.i1z e) (hl1.at λo e=>B _ o D.l1z e) hx (λχ κ L=>Y1B);have M:=L.extBut;have j:Ybx χ a b:=M _ _ D.TOi1 (B _ _ D.TOz η);refine Y6K j rfl ?_;refine YeU j (λυ h X=>?_);have S:=X.extBut;replace h:Ybx υ x b:=h;refine Yd6 Y1B;refine Yds ?_;show Y0V (Yao i2 >>= _)
 refine Yer (τ.at λo e=>S _ o D.TOi2.symm (M _ o D.i12.symm (B _ o D.i2z e))) (hl2.at λo e=>S _ o D.l2TO (M _ o D.l2i1 (B _ o D.l2z e))) hy (λξ ε G=>Y1B);have γ:=G.extBut;have m:Ybx ξ x b:=γ _ _ D.TOi2 h;refine Y6K m rfl ?_;refine YeU m (λg d O=>?_);have α:=O.extBut;replace d:Ybx g x y:=d;refine Yd6 (wpAny_pure (Y1B));refine Y6K d rfl ?_;refine wpAny_bind (wpAny_newTuple ?_);have C:g.objs.size=s.heap.objs.size:=by rw[O.1,G.1,X.1,L.1,J.1]
 have R:YaI g z TI TO:=α _ _ D.TOz.symm (γ _ _ D.i2z.symm (S _ _ D.TOz.symm (M _ _ D.i1z.symm p)));have W:∀c o,c≠z->c≠TO->c≠i1->c≠i2->Y3Z->g.get? c=Y5:=λc o u δ θ ν e=>α _ _ δ (γ _ _ ν (S _ _ δ (M _ _ θ (B _ _ u e))));have ι:pO b1 g i1 l1 (k+1):=κ.at λo e=>α _ o D.TOi1.symm (γ _ o D.i12 (S _ o D.TOi1.symm e));have ζ:pO b2 g i2 l2 (k+1):=ε.at λo e=>α _ o D.TOi2.symm e;have l:=aY R;show Y0V (Builtin.SmallTypes.ownedTupleHandOut (.ref z) (.ref g.objs.size) >>= _);refine Y39;unfold Builtin.SmallTypes.ownedTupleHandOut;have μ:YaI (g.push { cls:=.type "tuple",data:=.seq #[x,y] }) z TI TO:=Y0T R;refine Y96 μ (by simp) (λο r P=>?_);replace r:IsZip ο z TI TO (rawInt g.objs.size):=r;refine wpAny_setField_rec r (by simp) λβ i N=>?_;replace i:IsZip β z TI TO (rawInt g.objs.size):=i;have up:∀c o,c≠z->g.get? c=Y5->β.get? c=Y5:=λc o u e=>N.extBut _ _ u (P.extBut _ _ u (Y2D));have U:IsPair β g.objs.size x y:=N.extBut _ _ (Nat.ne_of_gt l) (P.extBut _ _ (Nat.ne_of_gt l) (Y14));rw[C]at i U;refine wpAny_pure Y3;show Y2c g.objs.size _;rw[C]
 exact hQ β ⟨i,up _ _ D.TIz (W _ _ D.TIz D.TITO D.TIi1 D.TIi2 T),Y1o _ (up _ _ D.TOz d),ι.at λo e=>up _ o D.i1z e,ζ.at λo e=>up _ o D.i2z e⟩ U λc o u δ θ ν e=>up c o u (W c o u δ θ ν e)
def RC{b1 b2:Bool}{z TI TO i1 i2 l1 l2:Addr}{k:Nat}{xs ys:Ai}{Q:Y1Q Fin}(hh:Y4i)(D:ZipApart z TI TO i1 i2 l1 l2)(Z:ZAt b1 b2 z TI TO i1 i2 l1 l2 .none k s.heap)
  (hl1:Y1C b1 l1 xs) (hl2:Y1C b2 l2 ys) (hend:Y1Z k=none\/ys[k]?=none)
  (hE:∀h' e,(∀c o,c≠z->c≠TO->c≠i1->c≠i2->Y3Z->Y3k c)->(∃o,Y3k e/\o.cls=.type "StopIteration")->E (Y2V) { s with heap:=h' }) :
  Y0U (Builtin.«zip.__next__» ⟨[.ref z],[]⟩):=by
 obtain⟨y,R,⟨a,b,O⟩,X,γ⟩:=Z;show Y0V (Y4V z 2 >>= _);refine Y5V y (.bool false);show Y0V (Y4V z 3 >>= _);refine Y5V y (.ref TI);refine Y6K R rfl ?_;show Y0V (YeS z >>= _);refine Y39;unfold Builtin.SmallTypes.ownedTupleIsFree;refine wpAny_bind (wpAny_field y rfl (x:=.none) rfl Y1B);simp only[if_true];refine Y99 ?_;refine Y5V y (.ref TO);refine Y96 y (by simp) (λβ i N=>?_);have j:=N.extBut;replace i:YaI β z TI TO:=i;refine Y39;simp only[List.zipIdx_cons,List.zipIdx_nil,List.forIn_cons,List.forIn_nil];refine Yds ?_;show Y0V (Yao i1 >>= _);cases hx:Y1Z k with
 | none =>
  refine wpAny_bind (JT hh (X.at λo e=>j _ o D.i1z e) (hl1.at λo e=>j _ o D.l1z e) hx λT e l S=>?_);obtain⟨M,d,g⟩:=S;have C:YaI T z TI TO:=l _ _ D.i1z.symm i;have r:e≠z:=λx=>by subst x;rw[C]at d;cases d;simp at g
  exact wpAny_setField_rec C (by simp) λW _ m=>hE W e (λc o J _ P _ x=>m.extBut _ _ J (l _ _ P (j _ _ J x))) ⟨M,m.extBut _ _ r d,g⟩
 | some x =>
  have ε:ys[k]?=none:=by
   rcases hend with h | h
   ·rw[hx]at h;cases h
   ·exact h
  refine Yer (X.at λo e=>j _ o D.i1z e) (hl1.at λo e=>j _ o D.l1z e) hx (λT ζ l=>Y1B);have G:=l.extBut;have p:Ybx T a b:=G _ _ D.TOi1 (j _ _ D.TOz O);refine Y6K p rfl ?_;refine YeU p (λW U m=>?_);have L:=m.extBut;refine Yd6 Y1B;refine Yds ?_;show Y0V (Yao i2 >>= _);refine wpAny_bind (JT hh (γ.at λo e=>L _ o D.TOi2.symm (G _ o D.i12.symm (j _ o D.i2z e))) (hl2.at λo e=>L _ o D.l2TO (G _ o D.l2i1 (j _ o D.l2z e))) ε λα e u S=>?_);obtain⟨M,d,g⟩:=S;have B:YaI α z TI TO:=u _ _ D.i2z.symm (L _ _ D.TOz.symm (G _ _ D.i1z.symm i));have r:e≠z:=λx=>by subst x;rw[B]at d;cases d;simp at g
  exact wpAny_setField_rec B (by simp) λδ _ I=>hE δ e (λc o J η P θ x=>I.extBut _ _ J (u _ _ θ (L _ _ η (G _ _ P (j _ _ J x))))) ⟨M,I.extBut _ _ r d,g⟩
def OG{b1 b2:Bool}{z TI TO i1 i2 l1 l2:Addr}{k:Nat}{xs ys:Ai}{x y:Value}{Q:Y8H}(D:ZipApart z TI TO i1 i2 l1 l2)(Z:ZAt b1 b2 z TI TO i1 i2 l1 l2 .none k s.heap)
  (hl1:Y1C b1 l1 xs) (hl2:Y1C b2 l2 ys) (hx:Y1Z k=Y9) (hy:ys[k]?=Y00)
  (hQ:∀h',ZAt b1 b2 z TI TO i1 i2 l1 l2 (rawInt s.heap.objs.size) (k+1) h'->IsPair h' s.heap.objs.size x y->(∀c o,c≠z->c≠TO->c≠i1->c≠i2->Y3Z->Y3k c)->Q (Y4 s.heap.objs.size) { s with heap:=h' }) :
  Ybb z:=by
 have a:Y85 z "zip" := Y0j Z.z;unfold pyNext;refine Y7S (Y89 "__next__" a F.slot_zip_next F.slot_zip_next a F.entry_zip_next ?_ (F.args_zip_next_1 _));exact OH D Z hl1 hl2 hx hy λh' g e d=>wpAny_pure (hQ h' g e d)
def OF{b1 b2:Bool}{z TI TO i1 i2 l1 l2:Addr}{k:Nat}{xs ys:Ai}{Q:Y8H}(hh:Y4i)(D:ZipApart z TI TO i1 i2 l1 l2)(Z:ZAt b1 b2 z TI TO i1 i2 l1 l2 .none k s.heap)
  (hl1:Y1C b1 l1 xs) (hl2:Y1C b2 l2 ys) (hend:Y1Z k=none\/ys[k]?=none)
  (hQ:∀h',(∀c o,c≠z->c≠TO->c≠i1->c≠i2->Y3Z->Y3k c)->Q none { s with heap:=h' }):Ybb z:=by
 have a:Y85 z "zip" := Y0j Z.z;unfold pyNext;refine Y7S (Y89 "__next__" a F.slot_zip_next F.slot_zip_next a F.entry_zip_next ?_ (F.args_zip_next_1 _));refine RC hh D Z hl1 hl2 hend λh' e d i=>?_;obtain⟨o,g,h⟩:=i;refine wpAny_bind (YeT "StopIteration" true (Y0P g h) ?_);exact wpAny_pure (hQ _ d)
abbrev XB(b:Bool)(l:Addr):Obj:={ cls:=.type (bif b then "tuple_iterator" else "list_iterator"),data:=.fields #[.ref l,.int 0 0] }
def MV{b:Bool}{l:Addr}{xs:Ai}{Q:Y8}(h:Y1C b l xs)(q:Q (Y19) { s with heap:=s.heap.push (XB b l) }):Y0U (pyIter (Y13)):=by
 cases b with
 | false=>exact wpAny_pyIter_list h q
 | true=>exact wpAny_pyIter_tuple h q
end
end L2
namespace L2
open PySem PySem.Spec PyProof.Rows
section
variable{X:Cx}{pins:Ad}{σ:St}{H:Hp}{s:Shared}{h':Heap}
def cF.turnedL{t':Nat}{fp:Y0m}(I:Y2)(k:Y0I (b ∉ fp) (Y2U->Y0n=Y5))(hf:∀b∈fp,Y3x H b):Y5r ({ s with heap:=h',toks:=t' }):=by
 have d:∀b u,H b=Yt->b ∉ fp:=λb u e z=>by rw[(hf b z).1]at e;cases e
 refine I.step (g':=s.gens) (d':=s.drawn) (ch:=fp) (λb w=>?_) (λb o _ _ a e _=>k b o a e) (λb o _ _ a e _=>⟨o.slots,k b o a e⟩) (λ_ _ _ _ n=>n)
  (λb o a e=>⟨o,k b o a e⟩) (Y83) (λ_ _ _ e=>e) (λb A e=>⟨#[],by rw[e];simp⟩) (λm y=>?_) (λb u e=>?_) I.bare
 ·obtain⟨C,p,B,x,l,i⟩:=hf b w;exact⟨x,p,l,i⟩
 ·obtain⟨o,g,h,j,r⟩:=y;exact⟨o,g,h,k _ o (λz=>(hf _ z).2.1 rfl) j,r⟩
 ·refine(I.hok b u e).stay (λc v a q=>k c v ?_ q) (Y9H) Y63;rcases a with z | z
  ·rw[z];exact d b u e
  ·exact d c _ z
def Un.putE{fs ex:Y0m}{H H1:Hp}{h h1:Heap}{a:Addr}{u:HO}(x:Un fs ex H H1 h h1)(ha:Y7f=none)(hn:H1 a=none):Un fs ex H (upd H1 a u) h h1 where
 keep:=x.keep
 slot:=x.slot
 free:=λb d e n m=>by rw[cH (λz=>by subst z;rw[ha]at e;cases e)];exact x.free b d e n m
 there:=x.there
 tups:=λb c e=>by rw[Y4v (x.tups b c e)];exact x.tups b c e
 frzs:=λb d c e=>by rw[Y4v (x.frzs b d c e)];exact x.frzs b d c e
 tbls:=λb g e=>by
  obtain⟨m,q⟩:=x.tbls b g e;exact⟨m,by rw[Y4v q];exact q⟩
def mD.putE{P:Program}{w:World}{h:Heap}{a:Addr}{u:HO}(x:Y2a)(hn:H a=none)(new:dU P w (Y1c u) h a u):mD P w (Y1c u) h:=λb v e=>by
 by_cases hb:b=a
 ·subst hb;rw[bR]at e;cases e;exact new
 ·rw[cH hb]at e;exact(x b v e).stay (λc q _ r=>r) (λc q=>by rw[Y4v q];exact q) λc d q=>by rw[Y4v q];exact q
def cF.put{a:Addr}{o:HO}(I:Y2)(f:Y3x H a)(hs:YdT a none)(new:dU X.prog X.w (Y1c o) s.heap a o):Y1N (Y1c o) s :=
 ⟨I.ok,I.os,I.bare,I.base.putE hs f.1,I.loc,I.cell,by rw[cH (Ne.symm f.2.1)];exact I.free,λx c e=>by rw[cH (f.2.2.2.2.1 x c e)];exact Ybp x e,λp d=>by
  obtain⟨i,h,g⟩:=Y5K d;exact⟨i,by rw[cH (f.2.2.2.2.2 p d)];exact h,g⟩,mD.putE I.hok f.1 new,I.len⟩
def xT(b:Bool)(xs:Al):HO:=bif b then .tup xs else .lst xs
def xT.inj{b:Bool}{xs ys:Al}(h:Y4u b=Y7X b ys):xs=ys:=by
 cases b <;> (injection h with h;injection h)
def cF.sq{b:Bool}{a:Addr}{xs:Al}(I:Y2)(h:H a=Y4u b):∃its:Ag,dG xs its/\Y1C b a its.toArray:=by
 cases b with
 | false=>obtain⟨its,r,p,_⟩:=I.list (Yac);exact⟨its,r,p.isList⟩
 | true=>obtain⟨its,r,p,_⟩:=YaC h;exact⟨its,r,p⟩
end
def Itz(b1 b2:Bool)(l1 l2:Addr):It :=
  ⟨λi H=>∃xs ys x y,H l1=Y4u b1/\H l2=Y7X b2 ys/\Y0t=Y9/\Y1i=Y00,
   λi H v H'=>∃q x y,v=.ref q/\H q=none/\H'=Y8l q [x,y]/\∀xs ys,H l1=Y4u b1->H l2=Y7X b2 ys->Y0t=Y9/\Y1i=Y00,
   λi H=>∃xs ys,H l1=Y4u b1/\H l2=Y7X b2 ys/\(Y4Y i\/ys.length<=i)⟩
structure ZD(z TI TO i1 i2:Addr):Prop where
 TIz:TI≠z
 TOz:TO≠z
 i1z:i1≠z
 i2z:i2≠z
 TITO:TI≠TO
 TIi1:TI≠i1
 TIi2:TI≠i2
 TOi1:TO≠i1
 TOi2:TO≠i2
 i12:i1≠i2
def ZD.seq(n:Nat):ZD (n+4) (n+2) (n+3) n (n+1) where
 TIz:=Y5S (show(n+2:Nat)=n+4 from h)
 TOz:=Y5S (show(n+3:Nat)=n+4 from h)
 i1z:=Y5S (show(n:Nat)=n+4 from h)
 i2z:=Y5S (show(n+1:Nat)=n+4 from h)
 TITO:=Y5S (show(n+2:Nat)=n+3 from h)
 TIi1:=Y5S (show(n+2:Nat)=n from h)
 TIi2:=Y5S (show(n+2:Nat)=n+1 from h)
 TOi1:=Y5S (show(n+3:Nat)=n from h)
 TOi2:=Y5S (show(n+3:Nat)=n+1 from h)
 i12:=Y5S (show(n:Nat)=n+1 from h)
def ZD.all{z TI TO i1 i2 l1 l2:Addr}(d:ZD z TI TO i1 i2){H:Hp}{o1 o2:HO}(e1:H l1=some o1)(e2:H l2=some o2)(h:∀b∈[z,TI,TO,i1,i2],H b=none):ZipApart z TI TO i1 i2 l1 l2 :=
 ⟨d.TIz,d.TOz,d.i1z,d.i2z,d.TITO,d.TIi1,d.TIi2,d.TOi1,d.TOi2,d.i12,cM e1 (h _ (by simp)),cM e1 (h _ (by simp)),cM e1 (h _ (by simp)),cM e1 (h _ (by simp)),cM e2 (h _ (by simp)),cM e2 (h _ (by simp)),cM e2 (h _ (by simp)),cM e2 (h _ (by simp))⟩
def RX{P:Program}{w:World}{K:Aa}{elts:Yz}{x1}{tp:Pos}{b1 b2:Bool}{z TI TO i1 i2 l1 l2:Addr}(d:ZD z TI TO i1 i2):IM P w K (Y9y x1 tp) (Itz b1 b2 l1 l2) [z,TI,TO,i1,i2] z (λi h=>ZAt b1 b2 z TI TO i1 i2 l1 l2 .none i h) where
 mem:=by simp
 obj:=λi h g b j=>by
  obtain⟨a,b',A⟩:=g.to;obtain⟨ω,p,_,d1⟩:=g.i1;obtain⟨o2,r,_,υ⟩:=g.i2;simp only[aK,List.not_mem_nil,or_false]at j;rcases j with rfl | rfl | rfl | rfl | rfl
  ·exact Ya4 g.z (by cases q)
  ·exact Ya4 g.ti (by cases q)
  ·exact Ya4 A (by cases q)
  ·exact Ya4 p (by rw[d1]at q;cases q)
  ·exact Ya4 r (by rw[υ]at q;cases q)
 keep:=λi h ε g k=>by
  obtain⟨a,b,A⟩:=g.to;exact⟨k _ (by simp) _ g.z,k _ (by simp) _ g.ti,Y4A b (k _ (by simp) _ A),g.i1.at λo e=>k _ (by simp) o e,g.i2.at λo e=>k _ (by simp) o e⟩
 item:=by
  intro X C S U θ i m s σ H E I u g α;subst C S U;obtain⟨xs,ys,x,y,p,r,ζ,ρ⟩:=α;obtain⟨u1,L,G⟩:=I.sq p;obtain⟨ο,J,β⟩:=I.sq r;obtain⟨δ,γ,τ⟩:=L.get ζ;obtain⟨ν,Z,ry⟩:=J.get ρ;have D:=d.all p r λb j=>(u b j).1;refine OG D g G β (x:=δ) (y:=ν) (by simpa using γ) (by simpa using Z) λε Z' ι N=>Y1 (wpAny_letOwnedTupleGo_zip Z'.z λμ O l=>?_);have ψ:Y0I (b ∉ [z,TI,TO,i1,i2]) (Y2U->μ.get? b=Y5):=λb o j e=>by
   simp only[aK,List.not_mem_nil,or_false,not_or]at j;exact l.extBut b o j.1 (N b o j.1 j.2.2.1 j.2.2.2.1 j.2.2.2.2 e)
  have I1:Y1J m H ({ s with heap:=μ }):=Yfj ψ u;have fq:pP X m H s.heap.objs.size:=I.fpOk (Yk) (Y5m);have e0:YcZ=none:=by
   cases q:YcZ with
   | none=>rfl
   | some o=>exact absurd (bD (aY q) I.sz) (cP _)
  have ξ:Ydw z:=λq=>absurd (aY g.z) (by rw[<-q];exact cP _);obtain⟨a,b,A⟩:=Z'.to;refine⟨Y19,YbL (.tup [x,y]),I1.put fq e0 ⟨⟨oE (by show 2<=64;decide),_,Ybf _ ξ ι,rfl⟩,[δ,ν],.cons τ (Y9E ry),Y0v _ (Ybf _ ξ ι) _ rfl⟩,rfl,Y2q _ x y fq.1 rfl (λaa χ κ η=>?_),
   ⟨O,Ybf _ d.TIz Z'.ti,Y4A b (Ybf _ d.TOz A),Z'.i1.at λo e=>Ybf o d.i1z e,Z'.i2.at λo e=>Ybf o d.i2z e⟩,λb j=>?_⟩
  ·rw[p]at κ;rw[r]at η;rw[<-xT.inj κ,<-xT.inj η];exact⟨ζ,ρ⟩
  ·have nb:Yav b:=λq=>by
    obtain⟨a',b',M⟩:=g.to;obtain⟨ω,T,_⟩:=g.i1;obtain⟨o2,R,_⟩:=g.i2;have lt:∀{c o},Y3Z->Yav c:=λe=>cJ (aY e);simp only[aK,List.not_mem_nil,or_false]at j;rcases j with rfl | rfl | rfl | rfl | rfl
    ·exact lt g.z q
    ·exact lt g.ti q
    ·exact lt M q
    ·exact lt T q
    ·exact lt R q
   rw[cH nb];exact(u b j).1
 done:=by
  intro X C S U θ i m s σ H E I u g α;subst C S U;obtain⟨xs,ys,p,r,φ⟩:=α;obtain⟨u1,L,G⟩:=I.sq p;obtain⟨ο,J,β⟩:=I.sq r;have D:=d.all p r λb j=>(u b j).1;have l1:=L.length;have l2:=J.length;have B:u1.toArray[i]?=none\/ο.toArray[i]?=none:=by
   rcases φ with h | h
   ·left;simp;exact Oo
   ·right;simp;exact Oo
  refine OF (I.ok.hd θ) D g G β B λε N=>Y0l (Yfj (λb o j e=>?_) u);simp only[aK,List.not_mem_nil,or_false,not_or]at j;exact N b o j.1 j.2.2.1 j.2.2.2.1 j.2.2.2.2 e
 self:=λ_ _ _ _ _ g h=>wpAny_pyIter_zip g.z h
abbrev zA(b:Bool)(h:Heap)(l:Addr):Heap:=h.push (XB b l)
abbrev zB(b1 b2:Bool)(h:Heap)(l1 l2:Addr):Heap:=(zA b1 h l1).push (XB b2 l2)
abbrev zC(b1 b2:Bool)(h:Heap)(l1 l2:Addr):Heap:=(zB b1 b2 h l1 l2).push { cls:=.type "tuple",data:=.seq #[.ref h.objs.size,.ref (zA b1 h l1).objs.size] }
abbrev zE(b1 b2:Bool)(h:Heap)(l1 l2:Addr):Heap:=(zC b1 b2 h l1 l2).push { cls:=.type "tuple",data:=.seq #[.none,.none] }
abbrev zF(b1 b2:Bool)(h:Heap)(l1 l2:Addr):Heap:=(zE b1 b2 h l1 l2).push { cls:=.type "zip",data:=.fields #[.none,.bool false,.bool false,.ref (zB b1 b2 h l1 l2).objs.size,.ref (zC b1 b2 h l1 l2).objs.size] }
def aDt(b1 b2:Bool)(l1 l2:Addr)(xs ys:Ai):YaE (Builtin.«zip.__new__» ⟨[.type "zip",.ref l1,.ref l2],[]⟩) (Y1C b1 l1 xs/\Y1C b2 l2 ys/\R (Yap (.ref (zE b1 b2 s.heap l1 l2).objs.size)) ({ s with heap:=zF b1 b2 s.heap l1 l2 })) :=
 .of_wp λp w A R s h=>by
  obtain⟨r,g,d,l,u⟩:=s;obtain⟨c,i,h⟩:=h;have m:=sub_zip;have a:lL b1 (Shared.heap ⟨r,g,d,l,u⟩) l1 xs:=c;have j:lL b2 (Shared.heap ⟨r.push (XB b1 l1),g,d,l,u⟩) l2 ys:=i.at λo e=>Y2D
  wp_walk using MV a,MV j
  exact Y1 h
section
variable{prog:Program}{w:World}{A:Around}{E:Y8}{s:Shared}
def aE9{b1 b2:Bool}{l1 l2:Addr}{xs ys:Ai}{Q:Y8}(hl1:Y1C b1 l1 xs)(hl2:Y1C b2 l2 ys)
  (h:∀h',ZAt b1 b2 (Y3C 4) (Y3C 2) (Y3C 3) s.heap.objs.size (Y3C 1) l1 l2 .none 0 h'->(∀c o,Y3Z->Y3k c)->Y2c (Y3C 4) ({ s with heap:=h' })) :
  Y0U (call (.type "zip") [.ref l1,.ref l2]):=by
 refine callType_new F.called_zip Dd (F.typeCall_zip_2 _ _) (F.newCall_zip_2 _ _) (λa=>F.args_object_init_3 a _ _) F.entry_zip_new (aDt b1 b2 l1 l2 xs ys) (Y0w hl1 hl2);have i:(zA b1 s.heap l1).objs.size=Y3C 1:=lM ..;have d:(zB b1 b2 s.heap l1 l2).objs.size=Y3C 2:=by rw[lM,i]
 have e:(zC b1 b2 s.heap l1 l2).objs.size=Y3C 3:=by rw[lM,d]
 have p:(zE b1 b2 s.heap l1 l2).objs.size=Y3C 4:=by rw[lM,e]
 have g:(zF b1 b2 s.heap l1 l2).get? (zE b1 b2 s.heap l1 l2).objs.size=Y8S:=Y14;have l:(zF b1 b2 s.heap l1 l2).get? (zC b1 b2 s.heap l1 l2).objs.size=Y8S:=Y0T Y14;have j:(zF b1 b2 s.heap l1 l2).get? (zB b1 b2 s.heap l1 l2).objs.size=Y8S:=Y5z Y14;have m:(zF b1 b2 s.heap l1 l2).get? (zA b1 s.heap l1).objs.size=Y8S:=Y5z (Y0T Y14);have r:(zF b1 b2 s.heap l1 l2).get? s.heap.objs.size=Y8S:=Y5z (Y5z Y14);show _/\_;rw[d,e,p]at g;rw[i,d]at j;rw[e]at l;rw[i]at m;rw[p];exact⟨Y0j g,h _ ⟨g,j,Y1o _ l,YaO _ r,YaO _ m⟩ λc o x=>Y5z (Y5z (Y0T x))⟩
end
def aE1(b1 b2:Bool)(ta:TA):TI:=YeK σ H (λvs H1=>∃l1 l2 xs ys,vs=[.ref l1,.ref l2]/\H1 l1=Y4u b1/\H1 l2=Y7X b2 ys/\R (Itz b1 b2 l1 l2) H1)
def WJ:YeY "zip"=YfA "zip":=Kk
section
variable{X:Cx}
def aDa{a b:Expr}{ta:TA}{p pos tp:Pos}{elts:Yz}{x1}{b1 b2:Bool}(hg:Gl X "zip")(hm:X.mg "zip" = none)(ha:PA X [a,b] ta)(hs:Y20 [a,b]=[(false,Y0g a),(false,Y0g b)])(hs2:Y4K b=[(false,Y0g b)]) :
  PI X (Y9y x1 tp) (Yb8 "zip" p [a,b] []) (aE1 b1 b2 ta):=by
 intro g s σ H R I h;refine Call_ (tV I hg hm WJ (YbA (ha pos g s σ H _ I h) (λD c ⟨L,H1,I1,l,m⟩=>?_) (by rw[hs,hs2]) (by rw[hs2];rfl)));obtain⟨M,B,J,A,e,x,y,q⟩:=m;subst e;cases l with
 | cons r rr =>
  cases rr with
  | cons r' rr =>
   cases rr;cases r;cases r';obtain⟨u1,_,w⟩:=I1.sq x;obtain⟨G,_,j⟩:=I1.sq y;refine aE9 w j λC Z u=>wpAny_pyIter_zip Z.z ?_;refine⟨_,[YdM 4,YdM 2,YdM 3,c.heap.objs.size,YdM 1],_,_,H1,rfl,I1.kept (t':=c.toks) u,RX (ZD.seq _),Z,λb i=>?_,q⟩;have d:c.heap.objs.size<=b:=by
    simp only[aK,List.not_mem_nil,or_false]at i;rcases i with rfl | rfl | rfl | rfl | rfl
    ·exact YbT _
    ·exact YbT _
    ·exact YbT _
    ·exact Yk
    ·exact YbT _
   exact Yaq d d
def yU(b1 b2:Bool){a b:Expr}{ta:TA}{p pos tp:Pos}{elts:Yz}{x1}(hg:Gl X "zip")(hm:X.mg "zip" = none)(ha:IR X [a,b] ta)(hs:Y20 [a,b]=[(false,Y0g a),(false,Y0g b)]:=by rfl)(hs2:Y4K b=[(false,Y0g b)]:=by first | exact oF | exact oG | exact gP | rfl) :
  KU X (Y9y x1 tp) (Yb8 "zip" p [a,b] []) (aE1 b1 b2 ta):=⟨aDa hg hm ha.p hs hs2⟩
end
def ND{b1 b2:Bool}{l1 l2:Addr}{xs ys:Al}{g:TG}{tb:TS}{D:mH}{σ:St}{H:Hp}(Pv:Nat->Y1m)(h0:Y6c 0)(hl:∀i σ H,Y2F->H l1=Y4u b1/\H l2=Y7X b2 ys)
  (hs:∀i x y q σ H H',Y0t=Y9->Y1i=Y00->Y2F->H q=none->H' q=Yl [x,y]->Y0->g (.ref q) σ H' (Y4w ({ D with nx:=Pv (i+1),ct:=Pv (i+1),bk:=D.nx }))) (hd:∀σ H,Y6c YaJ->Y3m) :
  ∃W:Nat->Nat->St->Hp->Prop,(Y6A 0 m σ H)/\∀i m σ H,W i m σ H ->
   ((Itz b1 b2 l1 l2).stop i H/\Y3m)\/((Itz b1 b2 l1 l2).go i H/\∃N:St->Hp->Prop,Y9M (N σ' H'->∃m',m' < m/\W (i+1) m' σ' H') ((Itz b1 b2 l1 l2).yld i H x H'->g x σ H' (Y4w ({ D with nx:=N,ct:=N,bk:=D.nx })))):=by
 refine YaM (m=YaJ-i/\i<=YaJ/\Y2F) (Y0X _ Y1z h0);rintro i m σ H ⟨rfl,A,p⟩;obtain⟨a,c⟩:=hl i σ H p;by_cases hlt:i<YaJ
 ·have l:Y0t=some xs[i]:=aD Oo;have w:Y1i=some ys[i]:=aD Oo;refine .inr ⟨⟨xs,ys,_,_,a,c,l,w⟩,Pv (i+1),λσ' H' h=>Y0v _ Oo hlt h,λv H' y=>?_⟩;obtain⟨q,x,y,rfl,d,rfl,j⟩:=y;obtain⟨u,r⟩:=j xs ys a c;exact hs i x y q σ H _ u r p d bR (aV.upd d)
 ·have e:i=YaJ:=Oo;subst e;refine Y3e ⟨xs,ys,a,c,?_⟩ (hd σ H p);exact Oo
end L2
namespace L2
open PySem
def qI:Ag->Y27 Af
 | [],[]=>true
 | .int i _::vs,n::ns=>decide (i=n)&&qI vs ns
 | _,_=>false
def uA(K:Aa)(a:Addr)(ns:Af):Bool :=
 match Yct with
 | some o=>(match o.cls with | .type n=>n == "tuple" | _=>false)&&(match o.data with | .seq xs _=>decide (xs.size<=64)&&qI xs.toList ns | _=>false)
 | none=>false
theorem qI.vals:∀{vs:Ag}{ns:Af},qI vs ns=true->dG (Y5s) vs
 | [],[],_=>.nil
 | v::vs,n::ns,h=>by
  cases v with
  | int i t =>
   have h':(decide (i=n)&&qI vs ns)=true:=h;rw[aP]at h';have e:=of_decide_eq_true h'.1;subst e;exact .cons ⟨t,rfl⟩ (qI.vals h'.2)
  | _=>cases h
 | [],_::_,h=>by cases h
 | v::_,[],h=>by cases v <;> cases h
def uI{K:Aa}{H:Hp}{a:Addr}{ns:Af}(h:uA K a ns=true):fS K H a (Y5s):=by
 unfold uA at h;split at h
 ·rename_i o ho
  rw[aP]at h;obtain⟨d,c⟩:=h;split at d
  ·rename_i n hn
   split at c
   ·rename_i xs m hx
    rw[aP]at c;have e:n = "tuple" := by simpa using d
    subst e;exact .inr ⟨o,xs,m,ho,hn,hx,oE (of_decide_eq_true c.1),qI.vals c.2⟩
   ·cases c
  ·cases d
 ·cases h
def fS.keep{K:Aa}{H H':Hp}{a:Addr}{xs:Al}(s:Y0)(h:Y5o):fS K H' a xs:=by
 rcases h with(h | ⟨o,h⟩) | h
 ·exact YaS (s _ _ h)
 ·exact .inl (.inr ⟨o,s _ _ h⟩)
 ·exact .inr h
mutual
def eQ(K:Aa)(H:Hp):Y60 (Y18 V)
 | .none,v=>v=.non
 | .bool b,v=>v=.bl b
 | .int i,v=>v=.int i
 | .str x,v=>v=.str x
 | .list ds,v=>∃a xs,v=.ref a/\H a=some (.lst xs)/\eY K H ds xs
 | .tuple ds,v=>∃a xs,v=.ref a/\fS K H a xs/\eY K H ds xs
 | .dict kvs,v=>kvs=[]/\∃a,v=.ref a/\H a=some (.dK [])
def eY(K:Aa)(H:Hp):Y17 Ya Al
 | [],vs=>vs=[]
 | d::ds,vs=>∃x xs,vs=x::xs/\eQ K H d x/\eY K H ds xs
end
mutual
theorem bL.k{K:Aa}{H:Hp}:∀{d:PyData}{v:V},Y3K v->eQ K H d v
 | .none,_,h=>h
 | .bool _,_,h=>h
 | .int _,_,h=>h
 | .str _,_,h=>h
 | .list ds,_,h=>by
  unfold bL at h;unfold eQ;obtain⟨a,xs,rfl,h1,h2⟩:=h;exact⟨a,xs,rfl,h1,aJ.k h2⟩
 | .tuple ds,_,h=>by
  unfold bL at h;unfold eQ;obtain⟨a,xs,rfl,h1,h2⟩:=h;exact⟨a,xs,rfl,fS.of h1,aJ.k h2⟩
 | .dict kvs,_,h=>by unfold bL at h;unfold eQ;exact h
theorem aJ.k{K:Aa}{H:Hp}:∀{ds:Ya}{vs:Al},Y4t->eY K H ds vs
 | [],_,h=>h
 | d::ds,_,h=>by
  unfold aJ at h;unfold eY;obtain⟨x,xs,rfl,h1,h2⟩:=h;exact⟨x,xs,rfl,bL.k h1,aJ.k h2⟩
end
def eQ.tup{K:Aa}{H:Hp}{a:Addr}{xs:Al}{ds:Ya}(h:Y5o)(r:eY K H ds xs):eQ K H (Yy) (Y7):=by
 unfold eQ;exact Y0v a xs h r
theorem eY.ints{K:Aa}{H:Hp}:∀ns:Af,eY K H (Ydy) (Y5s)
 | []=>by unfold eY;rfl
 | n::ns=>by unfold eY;exact⟨_,_,rfl,by unfold eQ;rfl,eY.ints ns⟩
section
variable{X:Cx}{pins:Ad}{σ:St}{H:Hp}{s:Shared}
mutual
theorem eQ.reads(I:Y2):∀{d:PyData}{v:V}{u:Value},eQ X.K H d v->Y2G->∃as,Reads s.heap u d as
 | .none,_,u,h,r=>by
  cases(show _=V.non from h);cases(show u=Value.none from r);exact⟨_,.none⟩
 | .bool b,_,u,h,r=>by
  cases(show _=V.bl b from h);cases(show u=Value.bool b from r);exact⟨_,.bool b⟩
 | .int b,_,u,h,r=>by
  cases(show _=V.int b from h);obtain⟨t,q⟩:=(show ∃t,u=Value.int b t from r);cases q;exact⟨_,.int b t⟩
 | .str b,_,u,h,r=>by
  cases(show _=V.str b from h);obtain⟨t,q⟩:=(show ∃t,u=Value.str b t from r);cases q;exact⟨_,.str b t⟩
 | .list ds,v,u,h,r=>by
  unfold eQ at h;obtain⟨a,l,rfl,c,i⟩:=h;cases(show u=Value.ref a from r);obtain⟨_,g,n,j,e⟩:=(show dU X.prog X.w H s.heap a (.lst l)from I.hok a _ c);obtain⟨as,q⟩:=eY.reads I i j;exact⟨_,.list e rfl rfl (by simpa using q)⟩
 | .tuple ds,v,u,h,r=>by
  unfold eQ at h;obtain⟨a,l,rfl,c,i⟩:=h;cases(show u=Value.ref a from r);obtain⟨g,j,⟨o,e,m,n,hd⟩,_⟩:=I.tuple c;obtain⟨as,q⟩:=eY.reads I i j;exact⟨_,.tuple e m hd (by simpa using q)⟩
 | .dict kvs,v,u,h,r=>bL.reads I (d:=.dict kvs) (by unfold bL;unfold eQ at h;exact h) r
theorem eY.reads(I:Y2):∀{ds:Ya}{vs:Al}{us:Ag},eY X.K H ds vs->Y7F->∃as,ReadsAll s.heap us ds as
 | [],_,us,h,r=>by
  cases(show _=[]from h);cases r;exact⟨_,.nil⟩
 | d::ds,_,us,h,r=>by
  unfold eY at h;obtain⟨x,xs,rfl,h1,h2⟩:=h;cases r with
  | cons r1 r2 =>
   obtain⟨as,c⟩:=eQ.reads I h1 r1;obtain⟨bs,a⟩:=eY.reads I h2 r2;exact⟨_,.cons c a⟩
end
end
@[irreducible] def YX(K:Aa)(b:Bool):R2:=λx y H Q=>∃d d',eQ K H d x/\eQ K H d' y/\Y3i d/\Y3i d'/\Y0H (b == Yek d)
section
variable{X:Cx}
def aDo(K:Aa)(hu:Y2u 64<cLine)(hK:X.K=K:=by rfl):Y29 .Eq (YX K true):=by
 subst hK;unfold YX;intro a s σ H x y v u Q I c j h;obtain⟨d,w,m,i,p,e,q⟩:=h;obtain⟨r,l⟩:=m.reads I c;obtain⟨bs,g⟩:=i.reads I j;exact SeqAt.compareEq_shaped l g p e hu ⟨.bl _,H,I,by show _=_;simp,q⟩
end
section
variable{K:Aa}{H:Hp}{p:Addr}{xs:Al}{i:Int}{v:V}{Q:VK}
def reK{b:Bool}{x y:V}{d d':PyData}(h1:eQ K H d x)(h2:eQ K H d' y)(s1:Y3i d)(s2:Y3i d')(q:Y0H (b == Yek d)):YX K b x y H Q:=by
 unfold YX;exact⟨d,d',h1,h2,s1,s2,q⟩
def nH(h:fS K H p xs)(e:Y4I i=Yq)(q:Q v H):rIx K (Y0x) (Y07) H Q:=.inr (.inl ⟨p,xs,i,v,rfl,rfl,h,e,q⟩)
def rlK(h:fS K H p xs)(q:Y45 xs.length):GW K [V.ref p] H Q:=by unfold GW;exact Y3y (.inr (Y4O xs h)) q
end
def NP(xs:Al)(k:Nat):nS xs (some (k:Int)) none=xs.drop k:=by
 unfold nS;rw[HT.EG,HT.zY];by_cases h:Y4Z k
 ·rw[Nat.min_eq_left h];exact List.take_of_length_le (by rw[List.length_drop];exact Yk)
 ·rw[Nat.min_eq_right Oo,List.drop_of_length_le (Yk),Yf0,List.take_nil]
def NQ(xs:Al)(k:Nat):nS xs none (some (k:Int))=xs.take k:=by
 unfold nS;rw[HT.EG,HT.zY,List.drop_zero,Nat.sub_zero];by_cases h:Y4Z k
 ·rw[Nat.min_eq_left h]
 ·rw[Nat.min_eq_right Oo,List.take_of_length_le (Yk),List.take_of_length_le Oo]
@[irreducible] def YS(K:Aa):V->Y10->Y8I:=aEG K
def GL{X:Cx}(K:Aa)(h:X.K=K:=by rfl):SlR X (YS K):=by subst h;unfold YS;exact LW
def slL{K:Aa}{H:Hp}{a:Addr}{xs ys:Al}{lo hi:Y10}{Q:VK}(h:H a=Y0y)(e:nS xs lo hi=ys)(k:∀q H',H q=none->H' q=Y08->Y0->Y0L q):YS K (Y7) lo hi H Q:=by
 unfold YS;exact Y0v a xs Yac (λp c=>by rw[e];exact k p _ c bR (aV.upd c))
section
variable{σ:St}{js:Ae}{te:TE}{H:Hp}{Q:VK}
def zO{R:Y8N V}{ys:Al}{y:V}(h:∀(j:Nat) z,ys[j]?=some z->R j z)(r:R ys.length y):∀(j:Nat) z,(ys++[y])[j]?=some z->R j z:=λj z a=>by
 by_cases hji:j<ys.length
 ·rw[List.getElem?_append_left hji]at a;exact h j z a
 ·rw[List.getElem?_append_right Oo]at a;have:j-ys.length=0:=by
   by_cases q:j-ys.length=0
   ·exact q
   ·rw[dZ (by simp;exact Oo)]at a;cases a
  rw[this]at a;have c:y=z:=by simpa using a
  have:j=ys.length:=Oo;subst this c;exact r
def sI{J:It}{n:Nat}(src:Y8N V)(R:Nat->Y2E)(hR:Y8M (R i y H1->R i y H2))(hz:Y6r n)
  (hg:∀i H',Y0->i<n->Y6B H'/\∀x H3,Y6v H' x H3->H3=H'/\src i x) (hst:∀H',Y0->YcT n)
  (hs:∀i x H' (Q':VK),src i x->i<n->Y0->(∀y H5,Y5h->R i y H5->Y4H y)->te (Y9::Y0N) H' Q')
  (hd:Y2Q (H D=none) (Y0k=Y08->Y0->Y3I n->(∀(i:Nat) (y:V),Y1i=Y00->R i y H')->Y1g)):kG J σ js vU te H Q:=by
 refine BG (J:=J) (n:=n) src hz (λD i ys H'=>H D=none/\Y0/\∀(i:Nat) (y:V),Y1i=Y00->R i y H') (λD H1 a _ s=>Y4A s (λi y h=>by simp at h))
  (λD i ys H' d _ p=>hg i H' p.2.1 d) (λD ys H' _ p=>hst H' p.2.1) (λD i x ys H' A d g a p=>?_) (λD ys H' g a e p=>hd D ys H' a e p.2.1 g p.2.2)
 refine hs i x H' _ A d p.2.1 λy H5 c r=>⟨c _ _ a,λH6 w m=>Y0w p.1 (aV.thru p.1 (p.2.1.trans c) m)⟩;have l:=m.t (c _ _ a);exact zO (R:=λj z=>R j z H6) (λj z u=>hR j z _ _ (c.t.trans l) (p.2.2 j z u)) (by rw[g];exact hR i y _ _ l r)
def pH{K:Aa}{a:Addr}{xs:Al}(R:Nat->Y2E)(hR:Y8M (R i y H1->R i y H2))(hz:Y4Y 100000)(hl:H a=Y0y)
  (hs:∀i x H' (Q':VK),Y0t=Y9->Y0->(∀y H5,Y5h->R i y H5->Y4H y)->te (Y9::Y0N) H' Q')
  (hd:Y2Q (H D=none) (Y0k=Y08->Y0->Y3I xs.length->(∀(i:Nat) (y:V),Y1i=Y00->R i y H')->Y1g)):kG (Itl K a) σ js vU te H Q :=
 sI (λi x=>Y0t=Y9) R hR hz (λi H' s d=>Y87 ⟨xs,xs[i],Y8w _ _ hl,by simp[d]⟩ ⟨y.1,y.2 xs (Y8w _ _ hl)⟩) (λH' s=>⟨xs,Y8w _ _ hl,Yk⟩)
  (Yg5 i x H' Q' c s k) hd
def mU{K:Aa}{a:Addr}{xs:Al}(R:Nat->Y2E)(hR:Y8M (R i y H1->R i y H2))(hz:Y4Y 100000)(hl:H a=Y0O)
  (hs:∀i x H' (Q':VK),Y0t=Y9->Y0->(∀y H5,Y5h->R i y H5->Y4H y)->te (Y9::Y0N) H' Q')
  (hd:Y2Q (H D=none) (Y0k=Y08->Y0->Y3I xs.length->(∀(i:Nat) (y:V),Y1i=Y00->R i y H')->Y1g)):kG (Itt K a) σ js vU te H Q :=
 sI (λi x=>Y0t=Y9) R hR hz (λi H' s d=>Y87 ⟨xs,xs[i],fS.of (s _ _ hl),by simp[d]⟩ ⟨y.1,y.2 xs (fS.of (s _ _ hl))⟩) (λH' s=>⟨xs,fS.of (s _ _ hl),Yk⟩)
  (Yg5 i x H' Q' c s k) hd
def lJ{lo:Int}{n:Nat}(R:Nat->Y2E)(hR:Y8M (R i y H1->R i y H2))(hz:Y6r n)
  (hs:∀i H' (Q':VK),i<n->Y0->(∀y H5,Y5h->R i y H5->Y4H y)->te (Ym (lo+(i:Nat))::Y0N) H' Q')
  (hd:Y2Q (H D=none) (Y0k=Y08->Y0->Y3I n->(∀(i:Nat) (y:V),Y1i=Y00->R i y H')->Y1g)):kG (WU lo n) σ js vU te H Q :=
 sI (λi x=>x=.int (lo+(i:Nat))) R hR hz (λi H' s a=>Y87 a y) (λH' s=>Yk)
  (λi x H' Q' c a s k=>by subst c;exact hs i H' Q' a s k) hd
def bB.thru{p l:Addr}{H0 H1 H2:Hp}(hl:H0 l=none)(s:bB p H0 H1)(b:bB l H1 H2):bB p H0 H2:=λc o e=>by
 have n:=jF.ne e;have a:H0 c=Y5:=by rw[jF.at n]at e;exact e
 have d:c≠l:=λz=>by subst z;rw[hl]at a;cases a
 exact jF.of n (b.at d (s.at n a))
end
theorem aJ.ofIdx{H:Hp}:∀{ds:Ya}{ys:Al},Y3I ds.length->(∀(i:Nat) (y:V),Y1i=Y00->∃d,ds[i]?=Y2B/\Y3K y)->Y8f ys
 | [],[],_,_=>aJ.nil
 | d::ds,y::ys,hl,h=>by
  obtain⟨d',e,r⟩:=h 0 y rfl;cases(show d=d' by simpa using e);exact aJ.cons r (aJ.ofIdx (by simpa using hl) λi z a=>by simpa using h (i+1) z (by simpa using a))
 | [],_::_,hl,_=>by simp at hl
 | _::_,[],hl,_=>by simp at hl
theorem MY{P:Y8N Int}:∀{ys:Al},(∀(i:Nat) (y:V),Y1i=Y00->∃n,y=Y5R/\P i n)->∃ns:Af,ys=Y5s/\∀(i:Nat) n,ns[i]?=Y6u->P i n
 | [],_=>⟨[],rfl,λi n h=>by simp at h⟩
 | y::ys,h=>by
  obtain⟨n,rfl,hn⟩:=h 0 y rfl;obtain⟨ns,rfl,hs⟩:=MY (P:=λi=>P (i+1)) (ys:=ys) λi z c=>h (i+1) z (by simpa using c);refine⟨n::ns,rfl,λi m a=>?_⟩;cases i with
  | zero=>cases(show n=m by simpa using a);exact hn
  | succ i=>exact hs i m (by simpa using a)
end L2
namespace L2
open PySem PySem.Spec PyProof.Rows
def iJ.u1{k:Nat}{A:Around}(r:iJ k A):Y7y 1<cLine:=by have:=r.units;exact Oo
@[irreducible] def rDG:R2:=λx y H Q=>∃a v,x=Y7/\pR H a y (Yq)/\Q v H
@[irreducible] def rDP(D:mH)(σ:St)(x y v:V)(H:Hp):Prop:=∃a H4,x=Y7/\FU H a y v H4/\Y6X H4
def aA7(td ty tv:TE):TS:=λD σ H=>tv σ H λv H1=>td σ H1 λx H2=>ty σ H2 λy H3=>rDP D σ x y v H3
structure aAP(X:Cx)(pos:Pos)(keys:Y86 Expr)(values:Yz)(trs:Y36 TE TE):Prop where p:PPs X pos keys values trs
section
variable{X:Cx}{o i value k v:Expr}{td ty tv tk:TE}{pos pos':Pos}{ks:Y86 Expr}{vs:Yz}{trs:Y36 TE TE}
def jV(hu:Y2u 1<cLine)(ho:Ye o td)(hi:Ye i ty)(hs:aD9 i:=by intro _ _;rfl):Ye (Y9m o i) (YA rDG td ty):=⟨by unfold rDG;exact ZP hu ho.p hi.p hs⟩
def nU(hu:Y2u 1<cLine)(ho:Ye o td)(hi:Ye i ty)(hv:Ye value tv)(hs:Yb2 value (Ye6 o i)=Y5y:=by rfl) :
  FZ X (Y8h [Ye6 o i] value) (aA7 td ty tv):=⟨by unfold aA7 rDP;exact ZJ hu ho.p hi.p hv.p hs⟩
def XI:aAP X pos [] [] []:=⟨pps_nil⟩
def yT(hk:Ye k tk)(hv:Ye v tv)(hr:aAP X pos ks vs trs):aAP X pos (some k::ks) (v::vs) ((tk,tv)::trs):=⟨TY hk.p hv.p hr.p⟩
def XQ(h:aAP X pos ks vs trs)(hall:ks.all (·.isSome)=true:=by rfl)(hl:ks.length=vs.length:=by rfl)(h0:ks≠[]:=by intro h;cases h)(h15:ks.length<=15:=by decide):Ye (.Dict ks vs pos) (aA6 trs):=⟨ZO h.p hall hl h0 h15⟩
end
def dgS{H:Hp}{p:Addr}{kvs:Y26}{x:Str}{v:V}{Q:VK}(e:H p=Yaf)(hv:Y6Z (.inr x)=Yq)(q:Q v H):rDG (Y0x) (Y8W) H Q:=by
 unfold rDG;exact⟨p,v,rfl,hv ▸ pR.k (k:=.inr x) e,q⟩
def dpS{H:Hp}{p:Addr}{kvs kvs2:Y26}{x:Str}{v:V}{D:mH}{σ:St}(e:H p=Yaf)(hl:YaW 64)(hk:Y4z (.inr x) v=kvs2)(q:∀H',H' p=Y9h kvs2->Y0s->Y6X H') :
  rDP D σ (Y0x) (Y8W) v H:=by
 unfold rDP;exact Y0v p _ (FU.k (k:=.inr x) e (bK hl Dd)) (q _ (by rw[hk];exact bR) bB.self)
def bB.tD{H H':Hp}{p:Addr}(s:Y0s){xs:Y26}(hp:H p=Y9h xs):Y4G:=λb a h=>s.at (CK h hp (by intro z;cases z)) h
section
variable{σ:St}{js:Ae}{te:TE}{H:Hp}{Q:VK}
end
structure KZ(p L:Addr)(Fd:Y1l Nat):Prop where
 but:∀n D H1 H2,D≠p->D≠L->bB D H1 H2->Fd n H1->Fd n H2
 same:∀n H1 H2,aV H1 H2->Fd n H1->Fd n H2
 dic:∀n H',Fd n H'->∃xs,H' p=Y9h xs
 np:∀n H' D,Fd n H'->Y0k=none->D≠p/\D≠L
section
variable{σ:St}{js:Ae}{te:TE}{H:Hp}{Q:VK}
def aAs{J:It}{n:Nat}{p L:Addr}{Fd:Y1l Nat}(fl:KZ p L Fd)(F0:Fd 0 H)(src:Y8N V)(R:Nat->Y2E)(hR:Y8M (R i y H1->R i y H2))(hz:Y6r n)
  (hg:∀i H',Y0s->i<n->Y6B H'/\∀x H3,Y6v H' x H3->H3=H'/\src i x) (hst:∀H',Y0s->YcT n)
  (hs:∀i x H' (Q':VK),src i x->i<n->Fd i H'->Y0s->(∀y H5,Fd (i+1) H5->bB p H' H5->R i y H5->Y4H y)->te (Y9::Y0N) H' Q')
  (hd:Y2Q (H D=none) (Y0k=Y08->Fd n H'->Y0s->Y3I n->(∀(i:Nat) (y:V),Y1i=Y00->R i y H')->Y1g)):kG J σ js vU te H Q:=by
 refine BG (J:=J) (n:=n) src hz (λD i ys H'=>H D=none/\Fd i H'/\Y0s/\∀(i:Nat) (y:V),Y1i=Y00->R i y H') (λD H1 c _ s=>⟨c,fl.same _ _ _ s F0,s.but,λi y h=>by simp at h⟩)
  (λD i ys H' d _ q=>hg i H' q.2.2.1 d) (λD ys H' _ q=>hst H' q.2.2.1) (λD i x ys H' C d g c q=>?_) (λD ys H' g c e q=>hd D ys H' c e q.2.1 q.2.2.1 g q.2.2.2)
 obtain⟨np,G⟩:=fl.np _ _ _ F0 q.1;refine hs i x H' _ C d q.2.1 q.2.2.1 λy H5 F5 l r=>?_;obtain⟨I,B⟩:=fl.dic _ H' q.2.1;have a:=l.at np c;refine⟨a,λH6 A m=>⟨q.1,fl.but _ D _ _ np G m F5,bB.thru q.1 (q.2.2.1.trans l) m,?_⟩⟩;have u:=m.t a;exact zO (R:=λj z=>R j z H6) (λj z w=>hR j z _ _ ((l.tD B).trans u) (q.2.2.2 j z w)) (by rw[g];exact hR i y _ _ u r)
def vI{lo:Int}{n:Nat}{p L:Addr}{Fd:Y1l Nat}(fl:KZ p L Fd)(F0:Fd 0 H)(R:Nat->Y2E)(hR:Y8M (R i y H1->R i y H2))(hz:Y6r n)
  (hs:∀i H' (Q':VK),i<n->Fd i H'->Y0s->(∀y H5,Fd (i+1) H5->bB p H' H5->R i y H5->Y4H y)->te (Ym (lo+(i:Nat))::Y0N) H' Q')
  (hd:Y2Q (H D=none) (Y0k=Y08->Fd n H'->Y0s->Y3I n->(∀(i:Nat) (y:V),Y1i=Y00->R i y H')->Y1g)):kG (WU lo n) σ js vU te H Q :=
 aAs fl F0 (λi x=>x=.int (lo+(i:Nat))) R hR hz (λi H' s a=>Y87 a y) (λH' s=>Yk)
  (λi x H' Q' c a f s k=>by subst c;exact hs i H' Q' a f s k) hd
end
def WT(K:Aa)(a:Addr)(n:Nat):It :=
 ⟨Yec (Y2I K H a/\Y2v n/\i<n/\Y1Z (n-1-i)=Y9),λi H x H'=>H'=H/\∀xs,Y2I K H a->Y1Z (n-1-i)=Y9,λi H=>i=n⟩
def RY{P:Program}{w:World}{K:Aa}{tg:Expr}(a it:Addr)(n:Nat):IM P w K tg (WT K a n) [it] it (λi h=>h.IsRevIter it a ((n:Int)-1-(i:Nat))) where
 mem:=by simp
 obj:=λi h g b m=>by
  have e:b=it:=by simpa using m
  subst e;obtain⟨o,e,c,d⟩:=g;exact Y0P e (λv z=>by rw[d]at z;cases z)
 keep:=λi h r g k=>g.at λo e=>k it (by simp) o e
 item:=by
  intro X D A M R i j s σ H E I y g B;subst D A M;obtain⟨κ,x,T,ι,O,S⟩:=B;obtain⟨U,rv,p,θ⟩:=I.list T;obtain⟨u,α,ru⟩:=rv.get S;obtain⟨G,L,Z,N,J,C⟩:=y it (by simp);have β:(n:Int)-1-(i:Nat)=((n-1-i:Nat):Int):=Oo;have g:s.heap.IsRevIter it a ((n:Int)-1-(i:Nat)):=g;rw[β]at g;refine wpAny_pyNext_rev_item g p.isList (x:=u) (by simpa using α) λr l δ=>?_;have I1:Y1J j H ({ s with heap:=r }):=Y9c (λb o m e=>(δ.2 b m).trans e) G L N J C;have ε:((n-1-i:Nat):Int)-1=(n:Int)-1-((i+1:Nat):Int):=Oo;rw[ε]at l;obtain⟨o,e,c,d⟩:=id l;exact Y0Q u (MZ (s:={ s with heap:=r }) e c d Dd ⟨x,H,I1,ru,Y0l (λη γ=>by rw[I.list_inj γ T];exact S),l,λb m=>(y b m).1⟩)
 done:=by
  intro X D A M R i j s σ H E I y g B;subst D A M;have O:i=n:=B;subst O;obtain⟨G,L,Z,N,J,C⟩:=y it (by simp);have g:s.heap.IsRevIter it a ((i:Int)-1-(i:Nat)):=g;rw[show(i:Int)-1-(i:Nat)=-1 by exact Oo]at g;exact wpAny_pyNext_rev_end (I.ok.hd R) g λr ζ=>Y0l (Y9c (λb o m e=>ζ b o m e) G L N J C)
 self:=λ_ _ _ _ _ g h=>wpAny_pyIter_revIter g h
def aGY(K:Aa)(ta:TA):TI:=YeK σ H (λvs H1=>∃l xs,vs=[Y13]/\Y2I K H1 l/\R (WT K l xs.length) H1)
def QS:YeY "reversed"=YfA "reversed":=Kk
section
variable{X:Cx}{tg:Expr}
def aBI{a:Expr}{ta:TA}{p pos:Pos}(hg:Gl X "reversed")(hm:X.mg "reversed" = none)(ha:IR X [a] ta)(hs:Y4K a=[(false,Y0g a)]:=by first | exact oF | exact oG | exact gP | rfl) :
  KU X tg (Yb8 "reversed" p [a] []) (aGY X.K ta):=⟨by
 intro c s σ H R I h;refine Call_ (tV I hg hm QS (YbA (ha.p pos c s σ H _ I h) (λA d ⟨C,H1,I1,m,r⟩=>?_) (by rw[hs];rfl) (by rfl)));obtain⟨l,j,e,w,q⟩:=r;subst e;obtain⟨u,rfl,ru⟩:=nV m;cases ru;obtain⟨g,rv,p,y⟩:=I1.list w;have B:=rv.length;refine call_reversed_list p.isList ?_;have e:((g.toArray.size:Nat):Int)-1=(j.length:Int)-1-((0:Nat):Int):=by simp;exact Oo
 rw[e];refine wpAny_pyIter_revIter (l:=l) (i:=(j.length:Int)-1-((0:Nat):Int)) (Y7w _) ⟨d.heap.objs.size,Yft,_,_,H1,rfl,YbF d.toks Y2D,RY l _ j.length,Y7w _,λb x=>?_,q⟩;have e:YfV b:=by simpa using x
 subst e;exact Yaq Yk Yk⟩
end
def aAp{K:Aa}{a:Addr}{xs:Al}{g:TG}{tb:TS}{D:mH}{σ:St}{H:Hp}(Pv:Nat->Y1m)(h0:Y6c 0)(hl:∀i σ H,Y4Z i->Y2F->Y2I K H a)
  (hs:∀i x σ H,Y4f i->Y1Z (Y51 1-i)=Y9->Y2F->g x σ H (Y4w ({ D with nx:=Pv (i+1),ct:=Pv (i+1),bk:=D.nx }))) (hd:∀σ H,Yea->Y3m) :
  ∃W:Nat->Nat->St->Hp->Prop,(Y6A 0 m σ H)/\∀i m σ H,W i m σ H ->
   ((WT K a xs.length).stop i H/\Y3m)\/((WT K a xs.length).go i H/\∃N:St->Hp->Prop,Y9M (N σ' H'->∃m',m' < m/\W (i+1) m' σ' H') ((WT K a xs.length).yld i H x H'->g x σ H' (Y4w ({ D with nx:=N,ct:=N,bk:=D.nx })))):=by
 refine YaM (m=Y51 i/\Y4Z i/\Y2F) ⟨xs.length,by simp,Y1z,h0⟩;rintro i m σ H ⟨rfl,h,p⟩;have q:=hl i σ H h p;by_cases hlt:Y4f i
 ·have c:Y1Z (Y51 1-i)=some (xs[xs.length-1-i]'Oo):=aD Oo;refine .inr ⟨⟨xs,_,q,rfl,hlt,c⟩,Pv (i+1),λσ' H' d=>Y0v (Y51 (i+1)) Oo hlt d,Ye4⟩;obtain⟨e,y⟩:=y;subst e;exact hs i x σ _ hlt (y xs q) p
 ·have e:Y5E i:=Oo;subst e;exact .inl (Y0l (hd σ H p))
def FD:Nat->Nat->WP
 | _,0=>aDJ
 | i,n+1=>VD (nJ i) (FD (i+1) n)
def gN(K:Aa)(n:Nat):TG:=aDI K n (FD 0 n)
theorem BA{H:Hp}{r:St}{Q:Y1m}:∀(vs:Al) (pre os:St),os.length=vs.length->Q (pre++((vs.map some) ++ r)) H->FD pre.length vs.length vs (pre++(os++r)) H Q
 | [],pre,[],_,q=>⟨rfl,q⟩
 | v::vs,pre,o::os,hl,q=>by
  refine⟨v,vs,rfl,?_⟩;show FD (pre.length+1) vs.length vs ((pre++(o::os++r)).set pre.length (some v)) H Q;have e1:(pre++(o::os++r)).set pre.length (some v)=(pre++[some v])++(os++r):=by
   rw[List.set_append_right _ _ (aO _),Nat.sub_self,List.append_assoc];rfl
  have a:pre.length+1=(pre++[some v]).length:=by rw[aW];rfl
  rw[e1,a];refine BA vs (pre++[some v]) os (by simpa using hl) ?_;rw[List.append_assoc];exact q
@[irreducible] def qV(K:Aa)(n:Nat)(J:It)(σ:St)(js:Ae)(tc:TT)(te:TE)(H1:Hp)(Q:VK):Prop:=∀D,H1 D=none->∃W:Nat->Nat->Al->Hp->Prop,(Y6A 0 m [] (Y1s H1 D [])) /\
 ∀i m ys H2,W i m ys H2->H2 D=Y08/\((J.stop i H2/\Y2c D H2)\/(Y6B H2/\YaV ys.length/\∀x H3,Y6v H2 x H3->∃a vs,x=Y7/\fS K H3 a vs/\Y4a n /\
  sU tc (Y5O) H3 λb H4=>if b=true then zJ te (Y5O) H4 λy H5=>H5 D=Y08/\∃m',m' < m/\W (i+1) m' (ys++[y]) (Y1s H5 D (ys++[y]))
   else H4 D=Y08/\∃m',m' < m/\W (i+1) m' ys H4))
def JG(K:Aa)(n:Nat)(wi:TI)(js:Ae)(tc:TT)(te:TE):TE:=YeH σ H (λJ H1=>qV K n J σ js tc te H1 Q)
section
variable{X:Cx}{scope:Scope}{xs:Ah}{N':Ah}{js:Ae}{elt iter:Expr}{pos:Pos}{tg:Expr}{ifs:Yz}{tc:TT}{te:TE}{wi:TI}
def qV.turns{K:Aa}{n:Nat}{J:It}{σ:St}{H:Hp}{Q:VK}(h:qV K n J σ js tc te H Q):IL (λx H vs=>∃a,x=Y7/\fS K H a vs/\Y4a n) J σ js (sU tc) (zJ te) H Q:=λD r=>by
 unfold qV at h;obtain⟨W,j,p⟩:=h D r;refine⟨W,j,λi m d H2 w=>?_⟩;obtain⟨hd,g⟩:=p i m d H2 w;refine⟨hd,g.imp_right λ⟨a,b,c⟩=>Y4A b (λx H3 y=>?_)⟩;obtain⟨a,vs,e,q,l,t⟩:=c x H3 y;exact⟨vs,⟨a,e,q,l⟩,t⟩
def dQ.many(S:Y46 xs)(hg:∀C fp s₀ H₀,PGw (Y3u) tg (gN X.K xs.length)):RB X scope tg xs.length (λ_=>Ybu X) (Yey) N' js (λx H vs=>∃a,x=Y7/\fS X.K H a vs/\Y4a xs.length) (gN X.K xs.length) :=
 S.blk (λ⟨_,_,_,l⟩=>l) (λC fp s₀ H₀=>(hg C fp s₀ H₀).p) (λ{x H vs d σ Q} ⟨a,e,q,l⟩ c h=>⟨a,vs,e,q,l,by rw[<-l];exact BA (r:=Y0N) vs [] d (by rw[c,l]) h⟩)
end
section
variable{X:Cx}{scope:Scope}{x1 x2 x3 y:Str}{N':Ah}{js:Ae}{elt iter tg:Expr}{ifs:Yz}{py pos spos:Pos}{tc:TT}{te:TE}{wi:TI}{i:Nat}
def GC{xs:Ah}{k:Nat}{x:Str}{p:Pos}(S:Y46 xs)(h:Y1Z k=Y9)(C:Addr)(fp:Y0m)(s₀:Shared)(H₀:Hp):PGw (Y3u) (Y94 p) (nJ k) :=
 have l:=S.own x (aF h)
 cS S.nd (S.pre k x h) (.inl (lookup_relabel_local l)) (.inr (lookup_relabel_local l))
def RI{p1 p2 pt:Pos}{kk:Nat}(S:Y46 [x1,x2])(C:Addr)(fp:Y0m)(s₀:Shared)(H₀:Hp):PGw (Y3u) (Y3c [Y7H,Y7I] kk) (gN X.K 2) :=
 tH rfl (fU (GC S rfl C fp s₀ H₀) (fU (GC S rfl C fp s₀ H₀) pT))
def RJ{p1 p2 p3 pt:Pos}{kk:Nat}(S:Y46 [x1,x2,x3])(C:Addr)(fp:Y0m)(s₀:Shared)(H₀:Hp):PGw (Y3u) (Y3c [Y7H,Y7I,.Name x3 p3] kk) (gN X.K 3) :=
 tH rfl (fU (GC S rfl C fp s₀ H₀) (fU (GC S rfl C fp s₀ H₀) (fU (GC S rfl C fp s₀ H₀) pT)))
def vS{p1 p2 pt:Pos}{kk:Nat}(S:Y46 [x1,x2])(hi:Y7L X (Y3c [Y7H,Y7I] kk) wi)(ht:YbO Y3u ifs tc)(he:YbN Y3u elt te)
  (hs:∀x,Y7i x=Y7D:=by intro _;rfl):Ye (Y4n [Y4o (Y3c [Y7H,Y7I] kk) 0]) (JG X.K 2 wi js tc te) :=
 ⟨AF (S.many (RI S)) hi.p (λC fp s₀ H₀=>(ht C fp s₀ H₀).p.mono) (λC fp s₀ H₀=>(he C fp s₀ H₀).p.mono) qV.turns hs⟩
def BV{p1 p2 p3 pt:Pos}{kk:Nat}(S:Y46 [x1,x2,x3])(hi:Y7L X (Y3c [Y7H,Y7I,.Name x3 p3] kk) wi)(ht:YbO Y3u ifs tc)(he:YbN Y3u elt te)
  (hs:∀x,Y7i x=Y7D:=by intro _;rfl):Ye (Y4n [Y4o (Y3c [Y7H,Y7I,.Name x3 p3] kk) 0]) (JG X.K 3 wi js tc te) :=
 ⟨AF (S.many (RJ S)) hi.p (λC fp s₀ H₀=>(ht C fp s₀ H₀).p.mono) (λC fp s₀ H₀=>(he C fp s₀ H₀).p.mono) qV.turns hs⟩
def DN{p1 p2 pt:Pos}{kk:Nat}(S:Y46 [x1,x2])(hN:X.N.Nodup)(hiN:Y1W=Y00)(hy:Y68 y Y1A)(hi:Y7L X (Y3c [Y7H,Y7I] kk) wi)(ht:YbO Y3u ifs tc)(he:YbN Y3u elt te)
  (hsw:YeR (Y4n [Y4o (Y3c [Y7H,Y7I] kk) 0]) (some (Y41)) spos.line=pure true:=by rfl) (hs:∀x,Y7i x=Y7D:=by intro _;rfl) :
  FZ X (.Assign [Y41] (Y4n [Y4o (Y3c [Y7H,Y7I] kk) 0]) spos) (JH (JG X.K 2 wi js tc te) (nJ i)) :=
 ⟨xB (S.many (RI S)) hN hiN hy hi.p (λC fp s₀ H₀=>(ht C fp s₀ H₀).p.mono) (λC fp s₀ H₀=>(he C fp s₀ H₀).p.mono) qV.turns hsw hs⟩
end
theorem CI{α β:Type}{R:Y17 α β}:∀{l:Yn}{m:List β}{i:Nat}{b:β},Paired R l m->m[i]?=Y5Q->∃a,l[i]?=some a/\R a b
 | _,_,_,_,.nil,h=>by simp at h
 | _,_,0,b,.cons h t,e=>⟨_,rfl,by cases(show _=b by simpa using e);exact h⟩
 | _,_,i+1,b,.cons h t,e=>by
  obtain⟨a,h1,h2⟩:=CI t (i:=i) (by simpa using e);exact⟨a,by simpa using h1,h2⟩
section
variable{js:Ae}{te:TE}{tc:TT}{σ:St}{H:Hp}{Q:VK}
def QK{K:Aa}{n:Nat}{J:It}{α:Type}{as:Yn}(p:Y27 α)(Src:Y17 α V)(R:α->Y2E)(hR:∀c y H1 H2,Y7v->R c y H1->R c y H2)(hz:Y6r as.length)
  (hg:∀i H',Y0->i<as.length->Y6B H'/\∀x H3,Y6v H' x H3->H3=H'/\∃c,as[i]?=Y0c/\Src c x) (hst:∀H',Y0->YcT as.length)
  (hs:∀x c H',c∈as->Src c x->Y0->∃a vs,x=Y7/\fS K H' a vs/\Y4a n/\(∀Q':Bool->Hp->Prop,(∀H5,Y5h->Y4H (p c))->tc (Y5O) H' Q') /\
   ∀H5 (Q':VK),Y5h->p c=true->(∀y H6,aV H5 H6->R c y H6->Q' y H6)->te (Y5O) H5 Q')
  (hd:Y2Q (H D=none) (Y0k=Y08->Y0->Y5i (R c y H') (as.filter p)->Y1g)):qV K n J σ js tc te H Q:=by
 unfold qV;intro D G;have mono:∀{H1 H2:Hp} {l:Yn} {ys:Al},Y7v->Y5i (R c y H1) l->Y5i (R c y H2) l:=by
  intro H1 H2 l ys s h
  induction h with
  | nil=>exact .nil
  | cons h t ih=>exact Ya6 (hR _ _ _ _ s h)
 have snoc:∀{H1:Hp} {l:Yn} {ys:Al} {c:α} {y:V},Y5i (R c y H1) l->R c y H1->Paired (λc y=>R c y H1) (l++[c]) (ys++[y]):=by
  intro H1 l ys c y h r
  induction h with
  | nil=>exact Y9E r
  | cons h t ih=>exact Ya6 h
 refine Y0w (λi m ys H'=>m=as.length-i/\i<=as.length/\Y0k=Y08/\Y0/\ys.length<=i/\Y5i (R c y H') ((as.take i).filter p)) ⟨as.length,by simp,Y1z,bR,aV.upd G,Yk,.nil⟩;rintro i m ys H2 ⟨rfl,Z,d,j,β,A⟩;refine Y02 d;by_cases hlt:i<as.length
 ·obtain⟨B,I⟩:=hg i H2 j hlt;refine Y3L B (Ye7 Oo Dd) (λx H3 C=>?_);obtain⟨rfl,c,L,N⟩:=I x H3 C;have u:as.take (i+1)=as.take i++[c]:=by rw[iX,L];rfl
  obtain⟨a,vs,e,O,T,S,X⟩:=hs x c H3 (aF L) N j;refine⟨a,vs,e,O,T,λb H4=>b=p c/\aV H3 H4,S _ λH5 w=>Y0l w,?_⟩;rintro b H4 ⟨rfl,g⟩;by_cases hp:p c=true
  ·rw[if_pos hp];refine Y0w (λy H5=>aV H4 H5/\R c y H5) (X H4 _ g hp λy H6 U r=>⟨U,r⟩);rintro y H5 ⟨w,r⟩;have M:=w _ _ (g _ _ d);refine Y2R M _ ?_ hlt bR (aV.thru G ((j.trans g).trans w) bB.self) ?_ ?_
   ·exact Oo
   ·rw[aW,List.length_singleton];exact Oo
   ·rw[u,List.filter_append,show List.filter p [c]=[c]by simp[hp]];have P:dH H5 (Y1s H5 D (ys++[y])):=bB.t bB.self M;exact mono P (snoc (mono (g.trans w).t A) r)
  ·rw[if_neg hp];refine Y2R (g _ _ d) _ ?_ hlt (g _ _ d) (j.trans g) Oo ?_
   ·exact Oo
   ·rw[u,List.filter_append,show List.filter p [c]=[]by simp[hp],List.append_nil];exact mono g.t A
 ·have e:i=as.length:=Oo;subst e;refine Y3e (hst H2 j) (hd D ys H2 G d j ?_);rw[cZ]at A;exact A
def wM{K:Aa}{n:Nat}{a0:Addr}{xs:Al}{α:Type}{as:Yn}(p:Y27 α)(Src:Y17 α V)(R:α->Y2E)(hR:∀c y H1 H2,Y7v->R c y H1->R c y H2)(hz:Y6r as.length)(ha:H a0=Y0y)(pr:Paired Src as xs)
  (hs:∀x c H',c∈as->Src c x->Y0->∃a vs,x=Y7/\fS K H' a vs/\Y4a n/\(∀Q':Bool->Hp->Prop,(∀H5,Y5h->Y4H (p c))->tc (Y5O) H' Q') /\
   ∀H5 (Q':VK),Y5h->p c=true->(∀y H6,aV H5 H6->R c y H6->Q' y H6)->te (Y5O) H5 Q')
  (hd:Y2Q (H D=none) (Y0k=Y08->Y0->Y5i (R c y H') (as.filter p)->Y1g)):qV K n (Itl K a0) σ js tc te H Q:=by
 have h:Y2v as.length:=pr.length.symm;refine QK p Src R hR hz (λi H' s j=>Y87 ⟨xs,xs[i]'Oo,Y8w _ _ ha,by simp⟩ (Y02 y.1)) (λH' s=>⟨xs,Y8w _ _ ha,Oo⟩) hs hd;have e:=y.2 xs (Y8w _ _ ha);obtain⟨c,d,g⟩:=CI pr e;exact⟨c,d,g⟩
end
end L2
namespace L2
open PySem
section
variable{js:Ae}{te:TE}{σ:St}{H:Hp}{Q:VK}
def wL{K:Aa}{b1 b2:Bool}{l1 l2:Addr}{xs ys:Al}(R:Nat->Y2E)(hR:Y8M (R i y H1->R i y H2))(hz:Y4Y 100000)(h1:H l1=Y4u b1)(h2:H l2=Y7X b2 ys)(hl:Y2v ys.length)
  (hs:∀i x y H' (Q':VK),Y0t=Y9->Y1i=Y00->Y0->(∀z H6,aV H' H6->R i z H6->Q' z H6)->te (Y9::Y00::Y0N) H' Q')
  (hd:∀D zs H',H D=none->Y0k=Y90->Y0->Y5E zs.length->(∀(i:Nat) (z:V),zs[i]?=some z->R i z H')->Y1g):qV K 2 (Itz b1 b2 l1 l2) σ js vU te H Q:=by
 unfold qV;intro D l;refine Y0w (λi m zs H'=>m=Y51 i/\Y4Z i/\zs.length=i/\Y0k=Y90/\Y0/\∀(i:Nat) (z:V),zs[i]?=some z->R i z H') (Y2q xs.length (by simp) Y1z bR (aV.upd l) (λi z h=>by simp at h));rintro i m zs H2 ⟨rfl,S,p,c,a,G⟩;refine Y02 c;by_cases hlt:Y4f i
 ·have L:Y0t=some xs[i]:=aD Oo;have g:Y1i=some (ys[i]'Oo):=aD Oo;refine Y3L ⟨xs,ys,_,_,a _ _ h1,a _ _ h2,L,g⟩ (Ye7 Oo Dd) (λv H3 y=>?_);obtain⟨q,x,y,rfl,M,rfl,J⟩:=y;obtain⟨N,P⟩:=J xs ys (a _ _ h1) (a _ _ h2);have d:=Y5u [x,y] M;have A:(upd H2 q (.tup [x,y])) q=Yl [x,y]:=bR;generalize upd H2 q (.tup [x,y])=H3 at d A;refine Y1Y q [x,y] rfl (fS.of A) (λb H4=>b=true/\H4=H3) Yad ?_;rintro b H4 ⟨rfl,rfl⟩;rw[Y1P];refine Y0w (λz H5=>aV H4 H5/\R i z H5) (hs i x y H4 _ N P (a.trans d) λz H6 O r=>⟨O,r⟩);rintro z H5 ⟨u,r⟩;have C:=u _ _ (d _ _ c);have B:dH H5 (Y1s H5 D (zs++[z])):=bB.t bB.self C;exact Y2R C (Y51 (i+1)) Oo hlt (by rw[aW,p];rfl) bR (aV.thru l ((a.trans d).trans u) bB.self) (zO (R:=λj z=>R j z _) (λj w I=>hR j w _ _ ((d.trans u).t.trans B) (G j w I)) (by rw[p];exact hR i z _ _ B r))
 ·have e:Y5E i:=Oo;subst e;exact Y3e ⟨xs,ys,a _ _ h1,a _ _ h2,.inl (Yk)⟩ (hd D zs H2 l c a p G)
end
theorem Paired.ofRepL{H:Hp}{α:Type}{g:Y8K α}:∀{as:Yn}{xs:Al},YeB g->Paired (λa x=>Y0r (g a) x) as xs
 | [],xs,r=>by
  unfold aJ at r;cases(show xs=[]from r);exact .nil
 | a::as,xs,r=>by
  rw[bC]at r;unfold aJ at r;obtain⟨x,xs',rfl,r1,r2⟩:=r;exact .cons r1 (Paired.ofRepL r2)
theorem Paired.toRepL{H:Hp}{α:Type}{g:Y8K α}:∀{as:Yn}{xs:Al},Paired (λa x=>Y0r (g a) x) as xs->YeB g
 | _,_,.nil=>aJ.nil
 | _,_,.cons h t=>aJ.cons h (Paired.toRepL t)
section
variable{X:Cx}{scope:Scope}{x1 x2 x3 y:Str}{N':Ah}{js:Ae}{elt iter tg:Expr}{ifs:Yz}{py pos spos:Pos}{tc:TT}{te:TE}{wi wj:TI}{i:Nat}
def iOr(wi wj:TI):TI:=λσ H R=>wi σ H R\/wj σ H R
def aAW(h1:Y7L X tg wi)(h2:Y7L X tg wj):Y7L X tg (iOr wi wj):=⟨λa s σ H R I h=>h.elim (h1.p a s σ H R I) (h2.p a s σ H R I)⟩
end
end L2
namespace L2
open PySem PySem.Spec PyProof.Rows
section
variable{X:Cx}
@[irreducible] def MF(K:Aa):R2:=λx y H Q=>∃a b xs ys,x=Y7/\y=Y0E/\H a=Y0O/\H b=Y7E/\Y64 ys.length<=1000/\∀c H',Y0->H' c=Yl (xs++ys)->Y0L c
def vJ{K:Aa}{H:Hp}{Q:VK}{a b:Addr}{xs ys:Al}(h1:H a=Y0O)(h2:H b=Y7E)(hz:Y64 ys.length<=1000)(k:∀c H',Y0->H' c=Yl (xs++ys)->Y0L c):MF K (Y7) (Y0E) H Q:=by
 unfold MF;exact⟨a,b,xs,ys,rfl,rfl,h1,h2,hz,k⟩
def iW(K:Aa)(hK:X.K=K:=by rfl):Y49 X .Add (MF K):=by
 subst hK;unfold MF;intro c s σ H x y v u Q I A D h;obtain⟨a,b,J,N,rfl,rfl,l,m,R,q⟩:=h;by_cases hx:J=[]
 ·cases A;cases D;subst hx;obtain⟨T,P,Z,_⟩:=YaC l;obtain⟨M,γ,O,_⟩:=YaC m;cases P;obtain⟨⟨cls,U,G,α⟩,C,B,n,hd⟩:=id Z;obtain⟨⟨L,r,w,j⟩,d,i,β,g⟩:=id O;simp only at B hd i g;subst B hd i g;exact concat_meets (Y0j C) (Y0j d) noFill_tuple_add seq_tuple_add PySem.F.slot_tuple_add PySem.F.entry_tuple_add (Yf2 _)
   (tuple_addW0 a b _ _ n β U r α j rfl) ⟨C,d,Y3z Y0E H I (q b H (Yx) m)⟩
 ·refine ZU c s σ H _ _ v u Q I A D ⟨a,b,J,N,rfl,rfl,fS.of l,fS.of m,hx,aM R Dd,Y47,λ_ p S=>q p _ (aV.upd S) bR⟩;subst e;exact q a H (Yx) (by rw[List.append_nil];exact l)
end
def nI(a:Int)(t:Tok)(l:Addr)(items:Ai)(n:Nat)(dd:Y0u)(sl:Y8d) :
  YaE (Builtin.«int.__rmul__» ⟨[.int a t,Y13],[]⟩) (Y24 l ({ cls:=.type "tuple",dict:=dd,data:=.seq items n,slots:=sl })/\R (Yap Value.notImplemented) s) :=
 .of_wp λc w A R s h=>by
  obtain⟨i,g,d,e,m⟩:=s;obtain⟨j,h⟩:=h
  wp_walk
  exact Y1 h
def JB(l:Addr)(items:Ai)(n:Nat)(dd:Y0u)(sl:Y8d)(k:Int)(u:Tok)(h0:2<=k)(h1:k<=64)(he:Y6 items.isEmpty)(hz:items.size<=64)(hsz:Y0h (((List.replicate k.toNat items).foldl (· ++ ·) #[]).size)) :
  YaE (Builtin.«tuple.__mul__» ⟨[Y13,.int k u],[]⟩) (Y24 l ({ cls:=.type "tuple",dict:=dd,data:=.seq items n,slots:=sl })/\R (Yap Y19) ({ s with heap:=s.heap.push { cls:=.type "tuple",data:=.seq ((List.replicate k.toNat items).foldl (· ++ ·) #[]) } })) :=
 .of_wp λc w A R s h=>by
  obtain⟨p,g,d,j,r⟩:=s;obtain⟨e,h⟩:=h;have m:=AutoSeq1.idx_int
  wp_walk using wpAny_loadPart' e
  rw[if_neg (by simp;exact Oo)]
  wp_walk using wpAny_loadPart' e
  have a:¬items=#[]:=λz=>by simp[z]at he
  have i:(items.size:Int)*k<=4096:=by
   have x:(items.size:Int)*k<=64*64:=Int.mul_le_mul Oo h1 Oo Oo;exact Oo
  rw[if_neg (by simp;exact Y2h a)];rw[if_neg (by simp;exact⟨Oo,a⟩)];show Y0V (if(items.size:Int)*k > (2^63-1)/8 then _ else _);rw[Y9G];show Y0V (if Builtin.Tuple.tupleTooMany (items.size*k)=true then _ else _);rw[if_neg (by unfold Builtin.Tuple.tupleTooMany;simp;exact Int.le_trans i Dd)]
  wp_walk
  exact Y1 h
def lG:fillsNumberSlot (.type "tuple") "mul" = Y5y:=PySem.fillsNumberSlot_seq (id := "tuple.__mul__") (r:=Y93 "tuple.__rmul__") F.slot_tuple_mul.lookup Kk F.slot_tuple_rmul.lookup Kk
def qD:seqRepeat? (.type "tuple")=pure (Y93 "tuple.__mul__"):=by
 unfold seqRepeat?;rw[PySem.seqSlot_of (T := "tuple") (name := "__mul__") (id := "tuple.__mul__") F.slot_tuple_mul.lookup Kk,PySem.seqSlot_of (T := "tuple") (name := "__rmul__") (id := "tuple.__rmul__") F.slot_tuple_rmul.lookup Kk];rfl
@[irreducible] def MD:R2:=λx y H Q=>∃a z,∃k:Nat,x=Y7/\y=.int (k:Int)/\H a=Yl [z]/\2<=k/\k<=64/\∀c H',Y0->H' c=Yl (Y38 z)->Y0L c
def aEW{H:Hp}{Q:VK}{a:Addr}{z:V}{k:Nat}(h:H a=Yl [z])(h2:2<=k)(hk:k<=64)(q:∀c H',Y0->H' c=Yl (Y38 z)->Y0L c):MD (Y7) (.int (k:Int)) H Q:=by
 unfold MD;exact Y2R a z k rfl h h2 hk q
section
variable{X:Cx}
def MJ:Y49 X .Mult MD:=by
 unfold MD;intro w s σ H x y v u Q I G N h;obtain⟨a,z,k,rfl,rfl,M,S,m,q⟩:=h;cases G;obtain⟨t,rfl⟩:=(show ∃t,u=Value.int (k:Int) t from N);obtain⟨J,r,p,_⟩:=YaC M;obtain⟨c,rfl,j⟩:=nV r;obtain⟨⟨cls,B,C,D⟩,g,l,n,hd⟩:=id p;simp only at l hd;subst l hd;have d:∀k:Nat,(Y38 [c]).flatten=Y38 c:=λk=>by
  induction k with
  | zero=>rfl
  | succ k ih=>rw[List.replicate_succ,List.flatten_cons,ih,List.replicate_succ];rfl
 have A:List.foldl (λO R=>O++R) #[] (Y38 ([c].toArray))=(Y38 c).toArray:=by
  have:=CT [c] k [];rw[List.nil_append,d]at this;exact this
 have L:∀k:Nat,dG (Y38 z) (Y38 c):=λk=>by
  induction k with
  | zero=>exact .nil
  | succ k ih=>exact Ya6 j
 generalize hk':(k:Int)=i;have e:i.toNat=k:=Oo;refine wpAny_binaryOp_repeat_ref (T := "tuple") (U := "int") Dd (Y0j g) (λP=>Y9t P i) lG F.fills_int_mul F.slot_int_rmul qD F.slot_int_index.lookup
  (Yfi F.slot_int_rmul (Y9t s i) F.entry_int_rmul _ _ (nI i t a [c].toArray n B D) (Y0X g (Y0j g) ?_))
 refine Yf8 F.slot_tuple_mul (Y0j g) F.entry_tuple_mul _ _ (JB a [c].toArray n B D i t Oo Oo rfl (by show 1<=64;decide) (by rw[e,A,bF,cG];exact aM m Dd)) (Y02 g);rw[e,A];refine Y2j (.ref _) (YbE (.tup (Y38 z)) (λb W q=>Y0T q) Yk ?_) (q _ _ (aV.upd (Y5m)) bR);exact⟨⟨by rw[cG];exact oE m,_,Y14,rfl⟩,_,L k,Ycl _⟩
end
@[irreducible] def YW:V->Y0W:=ME
def JV{X:Cx}:MtR X "list.extend" YW:=by unfold YW;exact PR
def aDM{H:Hp}{l b:Addr}{xs zs:Al}{Q:VK}(h:H l=Y0y)(h2:H b=Y90)(hz:Ye9<=1000)(k:∀H',H' l=Y05 (xs++zs)->bB l H H'->Q .non H'):YW (Y13) [Y0E] H Q:=by
 unfold YW;exact⟨l,b,xs,zs,rfl,rfl,h,h2,Nat.le_of_lt (vY hz),k _ bR bB.self⟩
section
variable{prog:Program}{w:World}{A:Around}{E:Y8}{s:Shared}{l:Addr}{xs:Array (Int × Tok)}
def SJ{Q:Y8}(hh:Y4i)(hl:s.heap.IsTuple l (intItems xs))
  (h:∀h' tk t',(Y7x (Y0n=Y5))->Q (.int (preSum (numAt xs) xs.size) t') { s with heap:=h',toks:=tk }) :
  Y0U (Y84 "sum" [Y13]):=by
 have a:Y5v l:=by obtain⟨_,e,_⟩:=hl;exact aY e
 refine call_sum_walkG (wpAny_pyIter_tuple hl ?_);refine⟨_,[_,l],[_],_,_,_,numAt xs,rfl,Walks.tuple (A:=A.in1) hh _ l (cJ a) (intItems xs),⟨Y7w _,hl.push _⟩,λc d=>?_,(λ_ _=>intItems_at),λh' tk t' i=>?_⟩
 ·show c<(s.heap.push _).objs.size;rw[lM];rcases aK.mp d with rfl | d
  ·exact Nat.lt_succ_self _
  ·rcases aK.mp d with rfl | d
   ·exact Nat.lt_succ_of_lt a
   ·cases d
 ·have:=h h' tk t' λc o e=>by
   refine i c o (λg=>?_) (Y2D);rcases aK.mp g with j | g
   ·exact absurd (j ▸ aY e) (cP _)
   ·cases g
  simpa[intItems]using this
end
@[irreducible] def MA(K:Aa):Y0W:=λxs H Q=>∃(p:Addr) (ns:Af),xs=[Y0x]/\fS K H p (Y5s)/\Y45 ns.sum
def rsT{K:Aa}{H:Hp}{p:Addr}{ns:Af}{Q:VK}(h:fS K H p (Y5s))(q:Y45 ns.sum):MA K [Y0x] H Q:=by unfold MA;exact Y0v p ns h q
def yK{X:Cx}(K:Aa)(hc:Y1V)(hK:X.K=K:=by rfl):Y35 "sum" (MA K):=by
 subst hK;unfold MA;intro g s σ H J D Q I r h;obtain⟨p,y,rfl,x,q⟩:=h;obtain⟨u,rfl,j⟩:=nV r;cases j;obtain⟨a,w,i,C⟩:=I.tuple x;have d:=JZ w;obtain⟨c,e⟩:=d.allInts.items;rw[e]at i;refine SJ (Y9z) i λB G l m=>⟨.int y.sum,H,I.kept m,Y02 l,q⟩;rw[preSum_eq,List.take_of_length_le (by simp)];rw[<-d.numsOf];have A:a=(intItems c).toList:=by rw[<-e]
 rw[A,nums_intItems]
section
variable{js:Ae}{te:TE}{tc:TT}{σ:St}{H:Hp}{Q:VK}
def aJ.atI{α:Type}{g:Y8K α}:∀{as:Yn}{xs:Al},YeB g->∀{i:Nat}{x:V},Y0t=Y9->∃a,as[i]?=some a/\Y0r (g a) x:=by
 intro as xs r i x e;obtain⟨d,c,h⟩:=r.get e;rw[aX]at c;cases q:as[i]? with
 | none=>rw[q]at c;cases c
 | some a=>rw[q]at c;cases c;exact Y0Q a h
end
def uD{X:Cx}{e:Expr}{t:TT}(h:KQ X e t):KQ X e (sU t):=⟨h.p.mono⟩
end L2
namespace HT
open PySem PyProof.Rows
section
variable{prog:Program}{w:World}{A:Around}{E:Y8}{s:Shared}
def sP{t sl:Addr}{items:Ai}{vl vu:Value}{lo hi:Y10}{Q:Y8}(ht:Yck t items)(hs:Ydm sl vl vu)(pl:IsPart vl lo)(pu:IsPart vu hi)
  (h0:Y7N 0=0) (h1:Y6x=items.size) (h:Y2c t s):Y0U (getItem (Y8U) (.ref sl)):=by
 obtain⟨j,c,g,i⟩:=id hs;have d:Y85 sl "slice" := ⟨j,c,g⟩;have e:Y85 t "tuple" := ht.typeIs;unfold getItem
 try with_reducible refine YbW
 first | refine Y91 | skip
 refine wpAny_bind (wpAny_sequenceKey ht.typeIs Dd ?_);refine wpAny_bind (wpAny_callSpecial?_slot (name:=Str.ofString "__getitem__") ht.typeIs PyProof.Rows.slot_tuple_getitem
  (wpAny_call_entry PyProof.Rows.slot_tuple_getitem ht.typeIs entry_tuple_getitem ?_ (args_tuple_getitem _ _)))
 show Y32 (Builtin.Tuple.tupleItemsOf (Y8U) >>= _);refine wpAny_bind (tupleItemsOf_ ht ?_);refine Yf3 d ?_;rw[YcH];refine wpAny_bind (pA hs pl pu ?_);have a:(((jO items.size 0 lo:Nat):Int) == 0&&(1:Int) == 1&&Yed (Y6x-Y7N 0))=true:=by
  rw[h0,h1];simp
 show Y32 (if(((jO items.size 0 lo:Nat):Int) == 0&&(1:Int) == 1&&Yed (Y6x-Y7N 0))=true then _ else _);rw[if_pos a];unfold Builtin.Tuple.tupleIsExact;refine Y7Q (wpAny_typeOf e (Y1B));rw[YcH];refine Y99 ?_
 first
  | exact Yc4 h
  | exact Y5q (Yc4 h)
end
end HT
namespace L2
open PySem PySem.W PySem.Spec PySem.Calls PyProof.Rows
def KI{xs:Al}{lo hi:Y10}(h0:YaD 0 lo=0)(h1:Y5E (YaD xs.length hi)):nS xs lo hi=xs:=by
 unfold nS;rw[h0,h1];simp
section
variable{X:Cx}
@[irreducible] def JO(K:Aa):V->Y10->Y8I:=λx lo hi H Q=>∃a xs,x=Y7/\H a=Y0O/\∀c H',Y0->H' c=Yl (nS xs lo hi)->Y0L c
def jH(K:Aa)(hK:X.K=K:=by rfl):SlR X (JO K):=by
 unfold JO;subst hK;intro e s σ H x v D B l m C Q I j hs w y h;obtain⟨a,d,rfl,g,q⟩:=h;by_cases hw:Yeh 0 l=0/\Yeh d.length m=d.length
 ·cases j;obtain⟨i,r,u,G⟩:=YaC g;have c:i.toArray.size=d.length:=by rw[bF];exact r.length.symm
  refine⟨"tuple",_,PyProof.Rows.slot_tuple_getitem.lookup,u.typeIs,HT.sP u hs w y (by rw[c];exact hw.1) (by rw[c];exact hw.2) ?_⟩;exact Y3z Y7 H I (q a H (Yx) (by rw[KI hw.1 hw.2];exact g))
 ·exact aBX e s σ H (Y7) v D B l m C Q I j hs w y (Y4y a d (fS.of g) hw (λp A=>q p _ (aV.upd A) bR))
def zU{K:Aa}{H:Hp}{a:Addr}{xs:Al}{k:Nat}{Q:VK}(h:H a=Y0O)(q:∀c H',Y0->H' c=Yl (xs.take k)->Y0L c):JO K (Y7) none (some (k:Int)) H Q:=by
 unfold JO;exact Y0v a xs h (λc H' s e=>q c H' s (by rw[e,NQ]))
def SX{K:Aa}{H:Hp}{a:Addr}{xs:Al}{k:Nat}{Q:VK}(h:H a=Y0O)(q:∀c H',Y0->H' c=Yl (xs.drop k)->Y0L c):JO K (Y7) (some (k:Int)) none H Q:=by
 unfold JO;exact Y0v a xs h (λc H' s e=>q c H' s (by rw[e,NP]))
def JC(l:Addr)(items:Ai)(n:Nat)(dd:Y0u)(sl:Y8d)(u:Tok) :
  YaE (Builtin.«tuple.__mul__» ⟨[Y13,.int 1 u],[]⟩) (Y24 l ({ cls:=.type "tuple",dict:=dd,data:=.seq items n,slots:=sl })/\R (Yap Y13) s) :=
 .of_wp λa w A R s h=>by
  obtain⟨j,g,d,e,m⟩:=s;obtain⟨c,h⟩:=h;have i:=AutoSeq1.idx_int
  wp_walk using wpAny_loadPart' c
  all_goals first | exact Y1 h | skip
def JD(l:Addr)(items:Ai)(n:Nat)(dd:Y0u)(sl:Y8d)(u:Tok)(he:Y6 items.isEmpty) :
  YaE (Builtin.«tuple.__mul__» ⟨[Y13,.int 0 u],[]⟩) (Y24 l ({ cls:=.type "tuple",dict:=dd,data:=.seq items n,slots:=sl })/\R (Yap Y19) ({ s with heap:=s.heap.push { cls:=.type "tuple",data:=.seq #[] } })) :=
 .of_wp λa w A R s h=>by
  obtain⟨j,g,d,e,m⟩:=s;obtain⟨c,h⟩:=h;have i:=AutoSeq1.idx_int
  wp_walk using wpAny_loadPart' c
  all_goals first | exact Y1 h | skip
@[irreducible] def GV:R2:=λx y H Q=>∃a z,∃k:Nat,x=Y7/\y=.int (k:Int)/\H a=Yl [z]/\k<=64/\∀c H',Y0->H' c=Yl (Y38 z)->Y0L c
def aEX{H:Hp}{Q:VK}{a:Addr}{z:V}{k:Nat}(h:H a=Yl [z])(hk:k<=64)(q:∀c H',Y0->H' c=Yl (Y38 z)->Y0L c):GV (Y7) (.int (k:Int)) H Q:=by
 unfold GV;exact Y1Y a z k rfl h hk q
def MK:Y49 X .Mult GV:=by
 unfold GV;intro d s σ H x y v u Q I w B h;obtain⟨a,z,k,rfl,rfl,l,G,q⟩:=h;by_cases h2:2<=k
 ·exact MJ d s σ H _ _ v u Q I w B (aEW l h2 G q)
 cases w;obtain⟨t,rfl⟩:=(show ∃t,u=Value.int (k:Int) t from B);obtain⟨J,r,p,_⟩:=YaC l;obtain⟨e,rfl,D⟩:=nV r;obtain⟨⟨cls,g,C,i⟩,c,A,n,hd⟩:=id p;simp only at A hd;subst A hd;have j:k=0\/k=1:=Oo;rcases j with rfl | rfl
 ·refine wpAny_binaryOp_repeat_ref (T := "tuple") (U := "int") Dd (Y0j c) (λm=>Y9t m 0) lG F.fills_int_mul F.slot_int_rmul qD F.slot_int_index.lookup
   (Yfi F.slot_int_rmul (Y9t s 0) F.entry_int_rmul _ _ (nI 0 t a [e].toArray n g i) (Y0X c (Y0j c) ?_))
  refine Yf8 F.slot_tuple_mul (Y0j c) F.entry_tuple_mul _ _ (JD a [e].toArray n g i t rfl) ⟨c,Y2j (.ref _) (YbE (.tup []) (λb L q=>Y0T q) Yk ?_) (q _ _ (aV.upd (Y5m)) bR)⟩;exact⟨⟨Y1z,_,Y14,rfl⟩,[],.nil,Ycl _⟩
 ·refine wpAny_binaryOp_repeat_ref (T := "tuple") (U := "int") Dd (Y0j c) (λm=>Y9t m 1) lG F.fills_int_mul F.slot_int_rmul qD F.slot_int_index.lookup
   (Yfi F.slot_int_rmul (Y9t s 1) F.entry_int_rmul _ _ (nI 1 t a [e].toArray n g i) (Y0X c (Y0j c) ?_))
  exact Yf8 F.slot_tuple_mul (Y0j c) F.entry_tuple_mul _ _ (JC a [e].toArray n g i t) ⟨c,Y3z Y7 H I (q a H (Yx) l)⟩
end
end L2
namespace HT
open PySem PySem.W PyProof.Rows
def dJ{α:Type}(n:Nat)(lt:Nat->Y7u)(R:Y18 α):Y18 (KasT α)
 | .ret a=>R a
 | .ask i j k=>i<n/\j<n/\dJ n lt R (k (lt i j))
section
variable{n:Nat}{lt:Nat->Y7u}
theorem dJ.bind{α β:Type}{R:Y18 α}{S:Y18 β}{f:α->KasT β}:∀{t:KasT α},Y2Z R t->(∀a,R a->Y2Z S (f a))->Y2Z S (t.bind f)
 | .ret a,h,k=>k a h
 | .ask i j t,⟨h1,h2,h3⟩,k=>⟨h1,h2,dJ.bind (t:=t (lt i j)) h3 k⟩
theorem dJ.wp{α:Type}{R:Y18 α}{cmp:Nat->Nat->Y1Q (Y1Q Bool)}{Q:Y1Q α}{s:Shared}(hc:∀i j C,i<n->j<n->C (lt i j) s->cmp i j C s)(q:∀a,R a->Q a s) :
  ∀{t:KasT α},Y2Z R t->t.kasWp cmp Q s
 | .ret a,h=>q a h
 | .ask i j t,⟨h1,h2,h3⟩=>hc i j _ h1 h2 (dJ.wp (t:=t (lt i j)) hc q h3)
def hZ(n:Nat)(p:Y0B):Prop:=p.Perm (Yd4 n)
def hZ.bd{p:Y0B}(g:Y1K)(hn:0<n)(i:Nat):Y5t i<n:=by
 by_cases hi:i<p.size
 ·have e:Y5t i=p[i]:=by simp[Array.getD,hi]
  rw[e];have m:p[i]∈Yd4 n:=(Array.Perm.mem_iff g).mp (Array.getElem_mem hi);simpa using m
 ·have e:Y5t i=0:=by simp[Array.getD,hi]
  rw[e];exact hn
def hZ.rev{p:Y0B}(g:Y1K)(i j:Nat):hZ n (kas_rev p i j):=(mirror_perm p i j _).trans g
def hZ.bub{p:Y0B}(g:Y1K)(i j:Nat):hZ n (bubble p i j):=(bubble_perm p i j).trans g
theorem FQ{p:Y0B}(g:Y1K)(hn:0<n):∀(f m:Nat),Y2Z (λ_=>True) (kas_asc p f m)
 | 0,m=>True.intro
 | f+1,m=>⟨g.bd hn _,g.bd hn _,by
  cases lt (p.getD m 0) (p.getD (m-1) 0)with
  | true=>exact True.intro
  | false=>exact FQ g hn f (m+1)⟩
theorem vL(hn:0<n):∀(f:Nat) {p:Y0B}(g:Y1K) (m q:Nat),Ybr (hZ n r.1) (kas_desc f p m q)
 | 0,p,g,m,q=>g
 | f+1,p,g,m,q=>by
  refine⟨g.bd hn _,g.bd hn _,?_⟩;cases lt (p.getD m 0) (p.getD (m-1) 0)with
  | true =>
   show dJ n lt _ (if q > 0 then _ else _);split
   ·exact vL hn f (g.rev _ _) _ _
   ·exact vL hn f g _ _
  | false =>
   refine⟨g.bd hn _,g.bd hn _,?_⟩;cases lt (p.getD (m-1) 0) (p.getD m 0)with
   | true=>exact g
   | false=>exact vL hn f g _ _
def DH{p:Y0B}(g:Y1K)(hn:0<n)(m r:Nat):Ybr (hZ n r.2) (kas_tail3 m r p):=by
 unfold kas_tail3;exact(FQ (g.rev 0 m) hn _ _).bind λ_ _=>g.rev 0 m
def vK{p:Y0B}(g:Y1K)(hn:0<n)(m r:Nat):Ybr (hZ n r.2) (kas_descPart m r p):=by
 unfold kas_descPart;refine(vL hn _ g _ _).bind λr a=>?_;split
 ·exact DH (hZ.rev a _ _) hn _ _
 ·exact DH a hn _ _
def QV{p:Y0B}(g:Y1K)(hn:0<n)(m:Nat):Ybr (hZ n r.2) (kas_count m p):=by
 unfold kas_count;refine(FQ g hn _ _).bind λk _=>?_;split
 ·exact g
 ·split
  ·refine Y0w (g.bd hn _) (g.bd hn _);cases Y5H 0 (k-1)with
   | true=>exact g
   | false=>exact vK (g.rev _ _) hn _ _
  ·exact vK g hn _ _
theorem wS{p:Y0B}(g:Y1K)(hn:0<n)(k:Nat):∀(f l r:Nat),Y2Z (λ_=>True) (kas_place p k f l r)
 | 0,l,r=>True.intro
 | f+1,l,r=>by
  unfold kas_place;split
  ·exact True.intro
  ·refine⟨g.bd hn _,g.bd hn _,?_⟩;cases lt (p.getD k 0) (p.getD ((l+r)/2) 0)with
   | true=>exact wS g hn k f _ _
   | false=>exact wS g hn k f _ _
theorem OA(hn:0<n):∀(f:Nat) {p:Y0B}(g:Y1K) (k:Nat),Y2Z (hZ n) (kas_bin f p k)
 | 0,p,g,k=>g
 | f+1,p,g,k=>by
  unfold kas_bin;exact(wS g hn k _ _ _).bind λl _=>OA hn f (g.bub _ _) _
def WO(hn:0<n):Y2Z (hZ n) (kas_sort n):=by
 unfold kas_sort;refine(QV (Array.Perm.refl _) hn n).bind λr a=>?_;split
 ·exact OA hn _ a _
 ·exact a
end
structure IS(n:Nat)(lt:Nat->Y7u):Prop where
 tot:∀i j,i<n->j<n->i≠j->Y6 (lt i j)->lt j i=true
 tra:∀i j k,lt i j=true->lt j k=true->lt i k=true
def BU(lt:Nat->Y7u)(p:Y0B)(m:Nat):Prop:=∀a b,a<b->b<m->Y5H a b=true
def Dsc(lt:Nat->Y7u)(p:Y0B)(m:Nat):Prop:=∀a b,a<b->b<m->Y5H b a=true
section
variable{n:Nat}{lt:Nat->Y7u}
theorem dJ.mono{α:Type}{R S:Y18 α}(k:∀a,R a->S a):∀{t:KasT α},Y2Z R t->Y2Z S t
 | .ret a,h=>k a h
 | .ask i j t,⟨h1,h2,h3⟩=>⟨h1,h2,dJ.mono k (t:=t (lt i j)) h3⟩
theorem hZ.size{p:Y0B}(g:Y1K):p.size=n:=by
 have:=(Array.perm_iff_toList_perm.mp g).length_eq;simpa using this
def hZ.ne{p:Y0B}(g:Y1K){i j:Nat}(hi:i<n)(hj:j<n)(h:i≠j):Y5t i≠Y5t j:=by
 have c:p.toList.Nodup:=(Array.perm_iff_toList_perm.mp g).nodup_iff.mpr (by simpa using List.nodup_range);have hs:=g.size;have d:p.getD i 0=p.toList[i]'(by simpa[hs]using hi):=by simp[Array.getD,hs,hi]
 have a:p.getD j 0=p.toList[j]'(by simpa[hs]using hj):=by simp[Array.getD,hs,hj]
 rw[d,a];intro e;exact h ((List.getElem_inj c).mp e)
def BU.one{p:Y0B}:BU lt p 1:=λa b c d=>Oo
def BU.more(O:IS n lt){p:Y0B}(g:Y1K){m:Nat}(h:BU lt p m)(h1:1<=m)(hm:m<n)(e:Y6 (Y5H m (m-1))):BU lt p (m+1):=λa b c j=>by
 by_cases q:b<m
 ·exact h a b c q
 ·have i:b=m:=Oo;subst i;have d:Y5H (b-1) b=true:=O.tot _ _ (g.bd Oo _) (g.bd Oo _) (g.ne Oo Oo Oo) e;by_cases r:a=b-1
  ·rw[r];exact d
  ·exact O.tra _ _ _ (h a (b-1) Oo Oo) d
theorem FP(O:IS n lt){p:Y0B}(g:Y1K):∀(f m:Nat),1<=m->m+f<=n->BU lt p m->Y2Z (λk=>m<=k/\k<=m+f/\BU lt p k/\(k<m+f->Y5H k (k-1)=true)) (kas_asc p f m)
 | 0,m,_,_,h=>⟨aO _,aO _,h,λq=>Oo⟩
 | f+1,m,h1,hm,h=>by
  refine⟨g.bd Oo _,g.bd Oo _,?_⟩;cases e:lt (p.getD m 0) (p.getD (m-1) 0)with
  | true=>exact⟨aO _,Oo,h,λ_=>e⟩
  | false =>
   refine(show dJ n lt _ (kas_asc p f (m+1))from ?_);have ih:=FP O g f (m+1) Oo Oo (h.more O g h1 Oo e);exact dJ.mono (λk ⟨i,d,a,c⟩=>⟨Oo,Oo,a,λq=>c Oo⟩) ih
def Dsc.more(O:IS n lt){p:Y0B}{m:Nat}(h:Dsc lt p m)(h1:1<=m)(e:Y5H m (m-1)=true):Dsc lt p (m+1):=λa b c g=>by
 by_cases q:b<m
 ·exact h a b c q
 ·have d:b=m:=Oo;subst d;by_cases r:a=b-1
  ·rw[r];exact e
  ·exact O.tra _ _ _ e (h a (b-1) Oo Oo)
theorem HQ(O:IS n lt){p:Y0B}(g:Y1K):∀(f m:Nat),1<=m->m+f<=n->Dsc lt p m->Ybr (r.1=p/\r.2.2=0/\m<=r.2.1/\r.2.1<=m+f/\Dsc lt p r.2.1) (kas_desc f p m 0)
 | 0,m,_,_,h=>⟨rfl,rfl,aO _,aO _,h⟩
 | f+1,m,h1,hm,h=>by
  refine⟨g.bd Oo _,g.bd Oo _,?_⟩;cases e:lt (p.getD m 0) (p.getD (m-1) 0)with
  | true =>
   refine(show dJ n lt _ (kas_desc f p (m+1) 0)from ?_);exact dJ.mono (λr ⟨a1,a2,a3,a4,a5⟩=>⟨a1,a2,Oo,Oo,a5⟩) (HQ O g f (m+1) Oo Oo (h.more O h1 e))
  | false =>
   refine⟨g.bd Oo _,g.bd Oo _,?_⟩;rw[O.tot _ _ (g.bd Oo _) (g.bd Oo _) (g.ne Oo Oo Oo) e];exact⟨rfl,rfl,aO _,(show m<=m+(f+1)by exact Oo),h⟩
def TN{p:Y0B}{m i:Nat}(hm:m<=p.size):(kas_rev p 0 m).getD i 0=if i<m then Y5t (m-1-i) else Y5t i:=by
 have e:=getElem?_mirror (xs:=p) (i:=0) (j:=m) hm (m/2) Oo i;have a:(kas_rev p 0 m)[i]?=if(0<=i/\i<0+m/2)\/(m-m/2<=i/\i<m) then p[0+m-1-i]? else p[i]?:=e
 have g:∀(q:Y0B) (k:Nat),q.getD k 0=q[k]?.getD 0:=λq k=>by simp[Array.getD_eq_getD_getElem?]
 rw[g,a,g,g];by_cases h:i<m
 ·rw[Y8u];by_cases h2:(0<=i/\i<0+m/2)\/(m-m/2<=i/\i<m)
  ·rw[YcG,show 0+m-1-i=m-1-i by exact Oo]
  ·rw[YcJ,show m-1-i=i by exact Oo]
 ·rw[Y6i,Y9G]
def Dsc.rev{p:Y0B}{m:Nat}(h:Dsc lt p m)(hm:m<=p.size):BU lt (kas_rev p 0 m) m:=λa b d c=>by
 rw[TN hm,TN hm,YcI,if_pos c];exact h _ _ Oo Oo
def QJ(O:IS n lt){p:Y0B}(g:Y1K)(hn:2<=n):Ybr (hZ n r.2/\1<=r.1/\r.1<=n/\BU lt r.2 r.1) (kas_count n p):=by
 unfold kas_count;refine(FP O g (n-1) 1 (aO _) Oo BU.one).bind λk ⟨l,J,c,u⟩=>?_;split
 ·exact⟨g,l,by show k<=n;exact Oo,c⟩
 ·rename_i hk
  have D:k≠n:=λe=>hk (by simp[e]);split
  ·refine Y0w (g.bd Oo _) (g.bd Oo _);rw[c 0 (k-1) Oo Oo];exact⟨g,l,by show k<=n;exact Oo,c⟩
  ·have A:k=1:=Oo;subst A;unfold kas_descPart;have x:Dsc lt p 2:=λa b y M=>by
    have e:a=0/\b=1:=Oo;rw[e.1,e.2];exact u Oo
   refine(HQ O g (n-2) 2 Oo Oo x).bind λr ⟨j,h,B,C,d⟩=>?_;obtain⟨G,m,q⟩:=r;dsimp only at j h B C d ⊢;subst j h;rw[Y9F];unfold kas_tail3;have hs:=g.size;exact(FP O (g.rev 0 m) (n-m) m Oo Oo (d.rev Oo)).bind λi ⟨I,L,w,_⟩=>⟨g.rev 0 m,(show 1<=i by exact Oo),(show i<=n by exact Oo),w⟩
theorem wF(O:IS n lt){p:Y0B}(g:Y1K){k:Nat}(hk:k<n)(h:BU lt p k):∀(f l r:Nat),l<=r->r<=k->r-l<=f->(∀a,a<l->Y5H a k=true)->(∀a,r<=a->a<k->Y5H k a=true) ->
  Y2Z (λm=>m<=k/\(∀a,a<m->Y5H a k=true)/\∀a,m<=a->a<k->Y5H k a=true) (kas_place p k f l r)
 | 0,l,r,h1,h2,h3,h4,h5=>⟨Oo,h4,λa q1 q2=>h5 a Oo q2⟩
 | f+1,l,r,h1,h2,h3,h4,h5=>by
  unfold kas_place;split
  ·exact⟨Oo,h4,λa q1 q2=>h5 a Oo q2⟩
  ·refine⟨g.bd Oo _,g.bd Oo _,?_⟩;cases e:lt (p.getD k 0) (p.getD ((l+r)/2) 0)with
   | true =>
    refine(show dJ n lt _ (kas_place p k f l ((l+r)/2))from ?_);refine wF O g hk h f l ((l+r)/2) Oo Oo Oo h4 λa q1 q2=>?_;by_cases q:a=(l+r)/2
    ·rw[q];exact e
    ·exact O.tra _ _ _ e (h _ _ Oo q2)
   | false =>
    refine(show dJ n lt _ (kas_place p k f ((l+r)/2+1) r)from ?_);have e2:=O.tot _ _ (g.bd Oo _) (g.bd Oo _) (g.ne hk Oo Oo) e;refine wF O g hk h f ((l+r)/2+1) r Oo Oo Oo (λa q1=>?_) h5;by_cases q:a=(l+r)/2
    ·rw[q];exact e2
    ·exact O.tra _ _ _ (h a ((l+r)/2) Oo Oo) e2
def WI{p:Y0B}{k m i:Nat}(hk:k<p.size)(hm:m<=k):(bubble p k (k-m)).getD i 0=if i=m then Y5t k else if m<i/\i<=k then Y5t (i-1) else Y5t i:=by
 have e:=getElem?_bubble (xs:=p) hk (k-m) Oo i;have g:∀(q:Y0B) (k:Nat),q.getD k 0=q[k]?.getD 0:=λq k=>by simp[Array.getD_eq_getD_getElem?]
 rw[g,e,g,g,g,show k-(k-m)=m by exact Oo];by_cases h:i=m
 ·rw[Y8u,Y8u]
 ·rw[Y6i,Y6i];by_cases h2:m<i/\i<=k
  ·rw[YcG,YcG]
  ·rw[YcJ,YcJ]
theorem NX(O:IS n lt):∀(f:Nat) {p:Y0B}(g:Y1K) (k:Nat),k+f=n->BU lt p k->Y2Z (λp=>Y1K/\BU lt p n) (kas_bin f p k)
 | 0,p,g,k,hk,h=>⟨g,by rw[<-hk];exact h⟩
 | f+1,p,g,k,hk,h=>by
  unfold kas_bin;refine(wF O g Oo h k 0 k Oo Oo Oo (λa q=>Oo) (λa q1 q2=>Oo)).bind λm ⟨m1,m2,m3⟩=>?_;have hs:=g.size;refine NX O f (g.bub _ _) (k+1) Oo λa b c d=>?_;rw[WI Oo m1,WI Oo m1];by_cases ha:a=m
  ·rw[if_pos ha,if_neg Oo,if_pos Oo];exact m3 _ Oo Oo
  ·rw[if_neg ha];by_cases hb':b=m
   ·rw[if_pos hb',if_neg Oo];exact m2 a Oo
   ·rw[if_neg hb'];by_cases q1:m<a/\a<=k
    ·rw[if_pos q1,if_pos Oo];exact h _ _ Oo Oo
    ·rw[if_neg q1];by_cases q2:m<b/\b<=k
     ·rw[if_pos q2];exact h _ _ Oo Oo
     ·rw[if_neg q2];exact h _ _ c Oo
def SU(O:IS n lt)(hn:2<=n):Y2Z (λp=>Y1K/\BU lt p n) (kas_sort n):=by
 unfold kas_sort;refine(QJ O (Array.Perm.refl _) hn).bind λr ⟨a,d,g,c⟩=>?_;split
 ·rename_i q
  rw[Nat.max_eq_left d];exact NX O _ a _ Oo c
 ·rename_i q
  have e:r.1=n:=Oo;exact⟨a,e ▸ c⟩
end
end HT
namespace L2
open PySem PySem.Spec PySem.W PyProof.Rows HT
def BX{x:V}{xs:Al}{us:Ag}(r:Y1T (x::xs)):∃u us',us=u::us'/\dN x u/\dG xs us':=by
 cases r with
 | cons h t=>exact Y3y h t
def HG(fin:Bool):Af->Y27 Af
 | x::a,y::b=>if x=y then HG fin a b else decide (x<y)
 | _,_=>fin
def qG(a b:Af):Bool:=HG (Y2A a.length b.length) a b
def AV(a:Af):Y6 (qG a []):=by
 unfold qG;cases a <;> rfl
def EW(y:Int)(b:Af):qG [] (y::b)=true:=by unfold qG;rfl
def EX(x y:Int)(a b:Af):qG (x::a) (y::b)=if x=y then qG a b else Y2A x y:=by
 show(if x=y then HG (Y2A ((x::a).length) ((y::b).length)) a b else Y2A x y)=_;rw[bM,bM,show decide (a.length+1<b.length+1)=decide (a.length<b.length)by simp]
 rfl
theorem MU:∀{a b:Af},a≠b->Y6 (qG a b)->qG b a=true
 | [],[],h,_=>absurd rfl h
 | [],y::b,_,e=>by rw[EW]at e;cases e
 | x::a,[],_,_=>EW _ _
 | x::a,y::b,h,e=>by
  rw[EX]at e ⊢;by_cases q:x=y
  ·subst q;rw[if_pos rfl]at e ⊢;exact MU (λz=>h (by rw[z])) e
  ·rw[if_neg q]at e;rw[if_neg (Ne.symm q)];have:=of_decide_eq_false e;exact bH Oo
theorem EU:∀{a b c:Af},qG a b=true->qG b c=true->qG a c=true
 | a,b,[],_,h=>by rw[AV]at h;cases h
 | [],b,z::c,_,_=>EW _ _
 | x::a,[],z::c,h,_=>by rw[AV]at h;cases h
 | x::a,y::b,z::c,h1,h2=>by
  rw[EX]at h1 h2 ⊢;by_cases q1:x=y
  ·subst q1;rw[if_pos rfl]at h1;by_cases q2:x=z
   ·subst q2;rw[if_pos rfl]at h2 ⊢;exact EU h1 h2
   ·rw[if_neg q2]at h2 ⊢;exact h2
  ·rw[if_neg q1]at h1;have h1:=of_decide_eq_true h1;by_cases q2:y=z
   ·subst q2;rw[if_neg q1];exact bH h1
   ·rw[if_neg q2]at h2;have h2:=of_decide_eq_true h2;rw[if_neg Oo];exact bH Oo
def EV{a:Af}:Y6 (qG a a):=by
 induction a with
 | nil=>exact AV _
 | cons x a ih=>rw[EX,Y1P];exact ih
theorem AU:∀{l m:Ac},l.Pairwise (λa b=>qG a b=true)->m.Pairwise (λa b=>qG a b=true)->(∀x,x∈l↔x∈m)->l=m
 | [],[],_,_,_=>rfl
 | [],y::m,_,_,h=>by have:=(h y).mpr (aG ..);cases this
 | x::l,[],_,_,h=>by have:=(h x).mp (aG ..);cases this
 | x::l,y::m,h1,h2,h=>by
  obtain⟨c,i⟩:=List.pairwise_cons.mp h1;obtain⟨d,g⟩:=List.pairwise_cons.mp h2;have e:x=y:=by
   rcases aK.mp ((h x).mp (aG ..))with q | q
   ·exact q
   ·rcases aK.mp ((h y).mpr (aG ..))with r | r
    ·exact r.symm
    ·have:=EU (d x q) (c y r);rw[EV]at this;cases this
  subst e;rw[AU i g λz=>?_];constructor
  ·intro q;rcases aK.mp ((h z).mp (aQ _ q))with r | r
   ·subst r;have:=c z q;rw[EV]at this;cases this
   ·exact r
  ·intro q;rcases aK.mp ((h z).mpr (aQ _ q))with r | r
   ·subst r;have:=d z q;rw[EV]at this;cases this
   ·exact r
abbrev MS(cs:Ac):Nat->Y7u:=λi j=>qG (YcV []) (cs.getD j [])
def aDl{cs:Ac}(h:cs.Nodup):IS cs.length (MS cs):=⟨λi j g a ne e=>MU (λz=>by
  have m:YcV []=cs[i]:=by simp[g]
  have d:cs.getD j []=cs[j]:=by simp[a]
  rw[m,d]at z;exact ne ((List.getElem_inj h).mp z)) e,λi j k c l=>EU c l⟩
section
variable{prog:Program}{w:World}{A:Around}{E:Y8}{s:Shared}{Q:Y1Q Bool}
theorem xG{fin:Bool}:∀{a b:Af}{us vs:Ag}{i:Nat},Y1T (a.map V.int)->dG (b.map V.int) vs->Q (HG fin a b) s->KatLex prog w A true fin Q (us.zip vs) i s
 | [],b,us,vs,i,ha,hb,q=>by cases ha;exact kat_nil (by unfold HG at q;exact q)
 | x::a,[],us,vs,i,ha,hb,q=>by
  cases hb;cases us with
  | nil=>exact kat_nil (by unfold HG at q;exact q)
  | cons u us=>exact kat_nil (by unfold HG at q;exact q)
 | x::a,y::b,us,vs,i,ha,hb,q=>by
  rw[bC]at ha hb;obtain⟨u,us',rfl,⟨t,rfl⟩,ra⟩:=BX ha;obtain⟨v,d,rfl,⟨e,rfl⟩,c⟩:=BX hb;rw[List.zip_cons_cons];refine kat_cons (wpAny_eqBool_int ?_);unfold HG at q;by_cases h:x=y
  ·rw[if_pos h]at q;rw[show(x == y)=true by simp[h]];exact kat_yes (xG ra c q)
  ·rw[if_neg h]at q;rw[show(x == y)=false by simp[h]];refine kat_no ?_;cases(true&&i == 0)with
   | true=>exact oneLt_int q
   | false=>exact kat_one _ _ (lt_int q)
def aBt(h:Heap)(v:Value)(c:Af):Prop:=∃b its,v=Y0E/\IsTup h b (List.toArray its)/\dG (YbM) its/\c≠[]
abbrev kR(h:Heap):Y17 Ag Ac:=Paired (aBt h)
theorem kR.get{h:Heap}:∀{vs:Ag}{cs:Ac}{i:Nat},kR h vs cs->i<vs.length->aBt h (Ydz i) (YcV [])
 | _,_,_,.nil,hi=>by simp at hi
 | _,_,0,.cons t r,hi=>t
 | v::vs,c::cs,i+1,.cons t r,hi=>by
  have:=kR.get (i:=i) r (by simpa using hi);simpa using this
theorem kR.firsts{h:Heap}:∀{vs:Ag}{cs:Ac},kR h vs cs->∃fs,KatTups h vs fs/\Y7a vs.length/\∀v∈fs,∃i t,v=Value.int i t
 | _,_,.nil=>⟨[],KatTups.nil,rfl,λv hv=>by cases hv⟩
 | v::vs,c::cs,.cons t r=>by
  obtain⟨fs,h1,h2,h3⟩:=kR.firsts r;obtain⟨b,e,rfl,⟨o,d,g,n,hd⟩,hv,a⟩:=t;cases c with
  | nil=>exact absurd rfl a
  | cons x c =>
   rw[bC]at hv;obtain⟨u,j,rfl,⟨t,rfl⟩,_⟩:=BX hv;exact⟨.int x t::fs,KatTups.cons d g hd (by simp) h1,by simp[h2],λv hv=>by
    rcases aK.mp hv with rfl | hv
    ·exact⟨_,_,rfl⟩
    ·exact h3 v hv⟩
theorem kR.keep{h h':Heap}(k:Y0I (Y0M=Y5) (o.cls=.type "tuple" -> Y0n=Y5)):∀{vs:Ag}{cs:Ac},kR h vs cs->kR h' vs cs
 | _,_,.nil=>.nil
 | _,_,.cons ⟨b,its,e,⟨o,ho,hc,hd⟩,hv,hne⟩ r=>.cons ⟨b,its,e,⟨o,k b o ho hc,hc,hd⟩,hv,hne⟩ (kR.keep k r)
def SV{n:Nat}{lt:Nat->Y7u}(hn:2<=n):Y2Z (λp=>Y1K/\(IS n lt->BU lt p n)) (kas_sort n):=by
 by_cases O:IS n lt
 ·exact dJ.mono (λp h=>⟨h.1,λ_=>h.2⟩) (SU O hn)
 ·exact dJ.mono (λp h=>⟨h,λz=>Y8y O⟩) (WO Oo)
def OS{a:Addr}{vs:Ag}{cs:Ac}{n:Nat}{P:Y1Q PySem.Fin}(ho:Y24 a (seqObj "list" vs.toArray n))(ht:kR s.heap vs cs)(h64:vs.length<64)
  (h:∀p:Array Nat,YaR p->(Ybg->Ybh p)->P (Yce .none) { s with heap:=sortedHeap s.heap a vs (List.toArray (p.toList.map λi=>vs.getD i Value.none)) }) :
  wpAny (model prog w) A (Builtin.«list.sort» ⟨Y30,[]⟩) P E s:=by
 rw[list_sort_plain];have α:Y5v a:=aY ho;refine wpAny_bind (listItems_at ho rfl ?_);refine wpAny_bind (listUpdate_at ho rfl ?_ (by rw[bF,sizeLine_eq];exact Oo) (Y1z));obtain⟨U,u⟩:∃U,(s.heap.update a (Obj.mapSeq λ_=>#[])).get? a=Ycf "list" (#[]) U:=Y0p (Yfz ho (#[]));refine Yfh u rfl ?_;refine wpAny_bind (wpAny_newTuple ?_ (by show vs.length<=_;rw[sizeLine_eq];exact Oo));refine wpAny_bind (wpAny_newList ?_ (Y1z));refine YbW;have d:(((s.heap.update a (Obj.mapSeq λ_=>#[])).push (seqObj "tuple" vs.toArray 0)).push (seqObj "list" #[] 0)).get? a=Ycf "list" (#[]) U:=by
  rw[Heap.get?_push_ne _ _ _ (by rw[size_push',Heap.size_update];exact cJ (Nat.lt_succ_of_lt α)),Heap.get?_push_ne _ _ _ (by rw[Heap.size_update];exact cJ α)];exact u
 show wpAny (model prog w) A _ P E ({ s with heap:=((s.heap.update a (Obj.mapSeq λ_=>#[])).push (seqObj "tuple" vs.toArray 0)).push (seqObj "list" #[] 0) });dsimp only;have x:∀c:SortSt,∀p:Array Nat,YaR p->(Ybg->Ybh p)->(arrOf c).map (·.2)=YeZ (λi=>Ydz i) ->
   P (Yce .none) { s with heap:=sortedHeap s.heap a vs ((arrOf c).map (·.2)) }:=by
  intro c p r ho hs;rw[hs];exact h p r ho
 have l:kR (((s.heap.update a (Obj.mapSeq λ_=>#[])).push (seqObj "tuple" vs.toArray 0)).push (seqObj "list" #[] 0)) vs cs:=ht.keep λb o D Z=>by
  have L:b≠a:=λe=>by
   subst e;rw[ho]at D;cases D;exact Y7b (show Value.type "list" = Value.type "tuple" from Z)
  exact Y5z (by rw[YfU _ _ _ L];exact D)
 by_cases h2:vs.toArray.size<2
 ·rw[YcG,YcG];refine Y91;rw[StateT.run_pure];refine Y91;dsimp only;refine Yfh d rfl ?_;refine wpAny_bind (listUpdate_at d rfl ?_ (hsz2:=by rw[Array.size_map];show(pairsOf vs).size<=_;rw[pairsOf_size,sizeLine_eq];exact Oo));simp only[bne_self_eq_false,Bool.false_eq_true,if_false];refine wpAny_pure (x (SortSt.mk' general' (Yd3) #[] 7 none) (Yd4 vs.length) (Array.Perm.refl _) (λ_ a b ω ψ=>by rw[bF]at h2;exact Oo) ?_);have e:=kat_snds (ks:=vs) (vs:=vs) (st:=SortSt.mk' general' (Yd3) #[] 7 none) (p:=Yd4 vs.length) rfl (by
   have e:=kas_range (Yd3);rw[show(vs.toArray.zip vs.toArray).size=vs.length by simp]at e;exact e.symm)
  exact e
 ·rw[YcJ,YcJ];have m:2<=vs.length:=by rw[bF]at h2;exact Oo
  obtain⟨fs,ρ,φ,θ⟩:=l.firsts;refine wpAny_bind (kat_kind (T:=.type "int") ρ Oo (λv I=>?_) rfl ?_)
  ·obtain⟨i,t,rfl⟩:=θ v I;exact .now
  refine wpAny_bind (wpAny_mono (kat_run (ks:=vs) (vs:=vs) (G:=λp B=>B={ s with heap:=((s.heap.update a (Obj.mapSeq λ_=>#[])).push (seqObj "tuple" vs.toArray 0)).push (seqObj "list" #[] 0) }/\YaR p/\(Ybg->Ybh p))
   (Q:=λc B=>B={ s with heap:=((s.heap.update a (Obj.mapSeq λ_=>#[])).push (seqObj "tuple" vs.toArray 0)).push (seqObj "list" #[] 0) }/\failedOf c=none/\∃p:Array Nat,p.size=vs.length/\(YaR p/\(Ybg->Ybh p))/\arrOf c=p.map (kas_item (Yd3)))
   rfl m h64 (λζ c B μ ο κ β=>⟨β.1,κ,ζ,μ,β.2,ο⟩)
   (dJ.wp (n:=vs.length) (lt:=MS cs) (R:=λp=>YaR p/\(Ybg->Ybh p)) (λi j C η ι ε=>?_) (λp r=>Y0l r) (SV m))) ?_ Y83)
  ·obtain⟨b,ν,N,⟨o,D,Z,χ,hd⟩,I,_⟩:=l.get η;obtain⟨υ,γ,M,⟨o2,S,ξ,n2,O⟩,y,_⟩:=l.get ι;unfold kas_ask;rw[N,M];refine kat_lt D hd S O (xG I y ?_);have δ:=I.length;have X:=y.length;rw[aA]at δ X;rw[bF,bF,<-δ,<-X];exact ε
  rintro⟨⟨⟩,c⟩ B ⟨rfl,τ,p,r,W,J⟩;dsimp only;have g:=kat_snds rfl J;refine Yfh d rfl ?_;refine wpAny_bind (listUpdate_at d rfl ?_ (hsz2:=by rw[g,bF,aA,Array.length_toList,r,sizeLine_eq];exact Oo));rw[τ];simp only[bne_self_eq_false,Bool.false_eq_true,if_false];exact wpAny_pure (x c p W.1 W.2 g)
end
theorem LO{X:Cx}{pins:Ad}{σ:St}{H:Hp}{s:Shared}(I:Y2):∀{cs:Ac}{ys:Al}{us:Ag},Y74 Ybo ys->(∀c∈cs,c≠[])->Y1T ys->kR s.heap us cs
 | [],ys,us,r,hc,v=>by
  unfold aJ at r;cases(show ys=[]from r);cases v;exact .nil
 | c::cs,ys,us,r,hc,v=>by
  rw[bC]at r;unfold aJ at r;obtain⟨y,ys',rfl,r1,r2⟩:=r;obtain⟨u,p,rfl,rv,B⟩:=BX v;refine .cons ?_ (LO I r2 (λc h=>hc c (aQ _ h)) B);unfold bL at r1;obtain⟨a,j,rfl,l,d⟩:=r1;cases rv;obtain⟨e,i,D,g⟩:=I.tuple (fS.of l);have w:j=c.map V.int:=by
   clear i l hc g
   induction c generalizing j with
   | nil=>unfold aJ at d;exact d
   | cons z c ih =>
    rw[bC]at d;unfold aJ at d;obtain⟨x,A,rfl,C,m⟩:=d;cases(show x=V.int z from C);rw[ih _ m];rfl
  subst w;exact⟨a,e,rfl,D,i,hc c (aG ..)⟩
theorem LL{ys:Al}{us:Ag}(v:Y1T ys):∀ix:Ae,(∀i∈ix,i<ys.length)->dG (ix.map λi=>ys.getD i .non) (ix.map λi=>us.getD i Value.none)
 | [],_=>.nil
 | i::ix,h=>by
  have hi:=h i (aG ..);obtain⟨u,d,ru⟩:=v.get (i:=i) (x:=ys[i]) (by simp[hi]);refine .cons ?_ (LL v ix λj a=>h j (aQ _ a));have e:ys.getD i .non=ys[i]:=by simp[hi]
  have c:us.getD i Value.none=u:=by rw[bI,d];rfl
  show dN (ys.getD i .non) (us.getD i Value.none);rw[e,c];exact ru
def aG1(x y:Int):PyData.eqv (.int x) (.int y)=Yr x y:=by
 show(x == y)=_;rw[Bool.beq_eq_decide_eq]
open Classical in
section
variable{X:Cx}{pins:Ad}{σ:St}{H:Hp}{s:Shared}
end
section
variable{X:Cx}
end
end L2
namespace HT
open PySem PySem.Spec PyProof.Rows PySem.Builtin
def BO:YfG "tuple" "keys" = pure none:=am_miss_of_fast Kk
section
variable{prog:Program}{w:World}{A:Around}{E:Y8}{s:Shared}
def PU{a:Addr}{o:Obj}{xs:Ai}{k:Nat}{Q:Y8H}(hx:Y95 a)(hc:o.cls=.type "tuple")(hdat:o.data=.seq xs k)(hd:o.dict=none)(hA:Y4i)
  (h:∀h' tk,(∀b u,Y92 b Yt->Y0n=Yt)->Q none { s with heap:=h',toks:=tk }):Y0U (getAttr? (Y7) "keys"):=by
 obtain⟨c,y,x,r⟩:=o;simp only at hc hdat hd;subst hc hdat hd;obtain⟨p,g,d,tk,m⟩:=s;have l:∀j,(⟨p,g,d,j,m⟩:Shared).TypeIs (Y7) "tuple" := λ_=>Y0j hx;have I:=sub_AttributeError;have L:=F.slot_tuple_getattribute.lookup;have G:=F.slot_tuple_getattribute.bind (Y7);have C:=am_tuple_getattr_none;unfold getAttr? getAttrBy? getAttrBy
 repeat (any_goals (first | assumption | exact l _ | ((with_reducible show Y0V (call (Value.builtin "tuple.__getattribute__") _ _));refine call_meets F.slot_tuple_getattribute (l _) am_entry_tuple_getattribute (F.args_tuple_getattribute_2 _ _) (meets_getattribute_miss_tuple a xs k r "keys" _ BO Dd) ⟨hx,hA,λh' j e i=>?_⟩) | wp_step))
 obtain⟨B,D,J⟩:=i.there;show Y0V (getattributeRaised _ _ _ _ _ _ _);unfold getattributeRaised
 repeat (any_goals (first | assumption | wp_step))
 exact h _ _ i.keeps
end
def tE:entryFor table "dict.update.loop" = some Builtin.«dict.update.loop» := entryFor_of_tree (by kernel_rfl)
def sW:plainId "dict.update.loop" = true:=Kk
section
variable{prog:Program}{w:World}{A:Around}{E:Y8}{s:Shared}{K:Type}[DecidableEq K]{knd:HeapKind prog w K}
def XT{d it t:Addr}{i:Nat}{items:Ai}{R:Y75}(hA:Y4i)(hit:YbJ t i)(ht:s.heap.IsTuple t items)(hx:Yah i=none)
  (h:∀h',YdH it h'->R (Yap .none) ({ s with heap:=h' })) :
  Yeb Y1F A "dict.update.loop" ⟨[Y8V,Y4k,rawInt i,.none],[]⟩ R s:=by
 refine YdA tE;rw[Ydc sW];unfold Builtin.«dict.update.loop»;refine wpAny_bind (wpAny_pyNext_tuple_end hA hit ht hx λh' e=>?_);show Y0V (Dict.addKeywords d [] >>= λ_=>ret Value.none);exact Y5q (wpAny_pure (h h' e))
def BQ{b:Addr}{its:Ai}{Q:Y1Q Ag}(hb:s.heap.IsTuple b its)(h:Q its.toList s):Y0U (Dict.pairItems (Y0E)):=by
 obtain⟨o,a,c,n,hd⟩:=id hb;unfold Dict.pairItems;refine Yf3 hb.typeIs ?_;rw[YcH];exact Y6K a hd (wpAny_pure h)
def RU{d it t b a:Addr}{i:Nat}{items:Ai}{xs:Y36 K (Addr × Value)}{k:K}{v:Value}{R:Y75}(hu:knd.room A.in1)(hit:YbJ t i)(ht:s.heap.IsTuple t items)(hx:Yah i=Y4 b)
  (hb:s.heap.IsTuple b #[Y7,v]) (nb:b≠it) (hk:∀h',(∀c o,c≠it->Y3Z->Y3k c)->knd.is h' k a/\h'.DictOfH knd d xs) (nd:d≠it) (hz:Y4T)
  (h:∀h1 h' tk,(∀c o,c≠it->Y3Z->h1.get? c=Y5)->Heap.SameBut d h1 h'->h'.DictOfH knd d (storedH xs k a v)->h'.IsTupleIter it t (i+1) ->
   Yeb Y1F A "dict.update.loop" ⟨[Y8V,Y4k,rawInt ((i+1:Nat):Int),.none],[]⟩ R ({ s with heap:=h',toks:=tk })) :
  Yeb Y1F A "dict.update.loop" ⟨[Y8V,Y4k,rawInt i,.none],[]⟩ R s:=by
 refine YdA tE;rw[Ydc sW];unfold Builtin.«dict.update.loop»;refine wpAny_bind (wpAny_pyNext_tuple_item hit ht hx λh' x hs=>?_);have g:∀c o,c≠it->Y3Z->Y3k c:=λc o B e=>(hs.2 c B).trans e;refine wpAny_bind (YbW);refine wpAny_bind (wpAny_tryCatch ?_);have p:h'.IsTuple b #[Y7,v]:=by
  obtain⟨o,l,r⟩:=hb;exact Y0P (g b o nb l) r
 refine BQ (s:={ s with heap:=h' }) p ?_;show Y0V (holding [Y4b,v] (dictSet d (Y7) v));have u:=(hk h' g).2;refine wpAny_holding (wpAny_dictSet_heap (s:={ s with heap:=h' }) hu (hk h' g).1 u (λC m j=>?_) hz);refine wpAny_pure (Y02 (Ydn Kk));have y:=h h' C (s.toks+knd.draws k) g j m (by
  obtain⟨o,l,r⟩:=x;exact Y0P ((j.2 it (Ne.symm nd)).trans l) r)
 rw[show((i+1:Nat):Int)=(i:Int)+1 from Oo]at y;exact y
end
end HT
namespace L2
open PySem PySem.Spec PySem.W PyProof.Rows HT
def OD(H:Hp)(y:V)(p:Y4N × V):Prop:=∃b a,y=Y0E/\H b=Yl [Y7,p.2]/\H a=Yl (p.1.map kV)
section
variable{X:Cx}{pins:Ad}{σ:St}{H:Hp}
def KT.isAll{P:Program}{w:World}{H:Hp}{h:Heap}(ok:Y2a){l:Y04}{m:Yae}(q:KT H l m):∀x∈m,(tupleKind (eW P w)).is h x.1 x.2.1:=by
 unfold KT at q
 induction q with
 | nil=>intro x a;exact nomatch a
 | @cons p q ps qs hq t ih =>
  intro x a;rcases Y2S with e | a
  ·subst e;exact rO ok (by rw[<-hq.1];exact hq.2.1)
  ·exact ih x a
theorem DB{D it t:Addr}{ys:Al}{R:Y75}(hu:Y2u 8<cLine)(hA:X.A.handled=none)(hD:H D=none)(ht:H t=Y7E)(nit:it≠D) :
  ∀(rest:Y04) (i:Nat) (kvs:Y04) (s:Shared),Y1N (Ybi D kvs) s->Y3x (Ybi D kvs) it->YbJ t i->Paired (OD H) (ys.drop i) rest->((kvs++rest).map (·.1)).Nodup->(kvs++rest).length<=1000 ->
   (∀s',Y1N (Ybi D (kvs++rest)) s'->R (Yap .none) s')->Yeb Y6b X.A.in1 "dict.update.loop" ⟨[.ref D,Y4k,rawInt i,.none],[]⟩ R s
 | [],i,kvs,s,I,fp,hit,pr,nd,hz,k=>by
  have ntD:t≠D:=λe=>by subst e;rw[hD]at ht;cases ht
  obtain⟨δ,r,η,_⟩:=I.tuple (fS.of (show upd H D (.dT kvs) t=some (.tup ys)by rw[cH ntD];exact ht));have hl:ys.length<=i:=by
   generalize hq:ys.drop i=l at pr;cases pr;exact List.drop_eq_nil_iff.mp hq
  have υ:=r.length;rw[List.append_nil]at k;refine XT hA hit η (by rw[Array.getElem?_eq_none];simp;exact Oo) λm e=>k _ ?_;exact I.turnedL (t':=s.toks) (fp:=[it]) (λb o g x=>e b o (by simpa using g) x) (λb g=>by
   cases(show b=it by simpa using g);exact fp)
 | p::rest,i,kvs,s,I,fp,hit,pr,nd,hz,k=>by
  have ntD:t≠D:=λe=>by subst e;rw[hD]at ht;cases ht
  obtain⟨δ,r,η,_⟩:=I.tuple (fS.of (show upd H D (.dT kvs) t=some (.tup ys)by rw[cH ntD];exact ht));generalize hq:ys.drop i=l at pr;cases pr with
  | @cons y _ ys' _ hy pr' =>
   obtain⟨b,a,rfl,g,ι⟩:=hy;have W:i<ys.length:=by
    by_cases h:i<ys.length
    ·exact h
    ·rw[List.drop_eq_nil_iff.mpr Oo]at hq;cases hq
   have S:ys[i]?=some (.ref b):=by
    have:=List.drop_eq_getElem_cons W;rw[hq]at this;injection this with P O;rw[aD W,<-P]
   have N:ys.drop (i+1)=ys':=by
    have:=List.drop_eq_getElem_cons W;rw[hq]at this;injection this with P O;exact O.symm
   obtain⟨u,U,ru⟩:=r.get S;cases ru;have nbD:b≠D:=λe=>by subst e;rw[hD]at g;cases g
   have ε:a≠D:=λe=>by subst e;rw[hD]at ι;cases ι
   have M:upd H D (.dT kvs) b=some (.tup [.ref a,p.2]):=by rw[cH nbD];exact g
   have G:upd H D (.dT kvs) a=some (.tup (p.1.map kV)):=by rw[cH ε];exact ι
   obtain⟨itb,φ,Z,_⟩:=I.tuple (fS.of M);obtain⟨ua,uv,rfl,ra,rv⟩:=LM φ;cases ra;have nb:b≠it:=λe=>by have:=fp.1;rw[<-e,M]at this;cases this
   obtain⟨z,β,xs,j,o,ο,ρ,P,O,h3,τ,h5⟩:=(show dU X.prog X.w (upd H D (.dT kvs)) s.heap D (.dT kvs)from I.hok D _ bR);have d:∀m L,(∀c o,c≠it->s.heap.get? c=some o->m.get? c=some o)->cF X pins σ (upd H D (.dT kvs)) { s with heap:=m,toks:=L }:=λm L kp =>
    I.turnedL (t':=L) (fp:=[it]) (λb o g x=>kp b o (by simpa using g) x) (λb g=>by
     cases(show b=it by simpa using g);exact fp)
   have ψ:xs.length=kvs.length:=(Paired.length j).symm;refine RU (knd:=tupleKind (eW X.prog X.w)) (xs:=xs) (k:=p.1) (v:=uv) (b:=b) (a:=a) (show _<_ by show X.A.in1.in1.units<cLine;exact bK (show X.A.in1.in1.units<=X.A.units+2 from aO _) Oo) hit η (by simpa using U) Z nb (λm kp=>⟨rO (d m s.toks kp).hok G,o,ο,ρ,kp D o (Ne.symm nit) P,O,h3,τ,KT.isAll (d m s.toks kp).hok j,h5⟩) (Ne.symm nit) Oo λθ ξ L kp γ κ B=>?_;have I1:=d θ s.toks kp;obtain⟨q,T,α,C,g2,χ,ω,_,g5⟩:=κ;have μ:fK kvs p.1=none:=by
    rw[bN,bC]at nd;have J:=(List.nodup_append.mp nd).2.2;cases hv:fK kvs p.1 with
    | none=>rfl
    | some v=>exact absurd rfl (J _ (DR hv) p.1 (aG ..))
   have ζ:(kB kvs p.1 p.2).length<=sizeLine:=by
    have h6:=kE kvs p.1 p.2;rw[aW,bM]at hz;have h7:(1000:Nat)<=sizeLine:=Dd;exact Oo
   have I2:=vF (t':=L) (ob:=.dT (kB kvs p.1 p.2)) I1 (by rw[bR];exact True.intro) γ ⟨q,C⟩ ⟨ζ,β,_,(KT.put (show KT (upd H D (.dT kvs)) kvs xs from j) p.1 G rv).keeps λc ys ν=>(by rw[cH (CK ν bR (λz=>nomatch z))];exact ν),q,T,α,C,g2,χ,ω,g5⟩;rw[XS,GY p.2 μ]at I2;refine DB hu hA hD ht nit rest (i+1) (kvs++[p]) _ I2 ?_ B (by rw[N];exact pr') (by rw[List.append_assoc];exact nd) (by rw[List.append_assoc];exact hz) (by rw[List.append_assoc];exact k);refine⟨?_,fp.2⟩;rw[cH nit];have:=fp.1;rw[cH nit]at this;exact this
@[irreducible] def EL:Y0W:=λxs H Q=>∃(t:Addr) (ys:Al) (kvs:Y04),xs=[Y8U]/\H t=Y7E/\Paired (OD H) ys kvs/\(kvs.map (·.1)).Nodup/\YaW 1000/\∀D,H D=none->Y2c D (Ybi D kvs)
def rdcp{H:Hp}{Q:VK}{t:Addr}{ys:Al}{kvs:Y04}(ht:H t=Y7E)(pr:Paired (OD H) ys kvs)(nd:(kvs.map (·.1)).Nodup)(hz:YaW 1000)(q:∀D H',H D=none->Y0k=Y25->Y0->Y1g):EL [Y8U] H Q:=by
 unfold EL;exact Y2R t ys kvs ht pr nd hz (λD a=>q D _ a bR (aV.upd a))
def IA(hu:Y2u 64<cLine)(hc:Y1V):jU X (.type "dict") EL:=by
 unfold EL;intro d s σ H θ ζ Q I r h;obtain⟨t,ys,C,rfl,y,δ,γ,α,q⟩:=h;obtain⟨u,rfl,U⟩:=nV r;cases U;have R:=Y9z;refine callType_codes (Q₁:=λm P=>m=Y19/\P={ s with heap:=s.heap.push { cls:=.type "dict",data:=.dict #[] } }) F.kt_called_dict (F.kt_typeCall_dict_1 _) F.entry_dict_init (kt_code_dict_new _ Yad) ?_;rintro m P ⟨rfl,rfl⟩;have L:=Yfk;have I1:Y1J d (YbL (.dT [])) ({ s with heap:=s.heap.push { cls:=.type "dict",data:=.dict #[] } }):=I.laid (a:=s.heap.objs.size) (o:=.dT []) (t':=s.toks) (Yc9 q) (Yk) (BD s.heap I.big);have B:Yav t:=λe=>by subst e;rw[L]at y;cases y
 have N:upd H s.heap.objs.size (.dT []) t=Y7E:=by rw[cH B];exact y
 obtain⟨⟨η,S,g,O⟩,J,ε,Z,i,j,β,x⟩:=(show dU X.prog X.w (upd H s.heap.objs.size (.dT [])) (s.heap.push { cls:=.type "dict",data:=.dict #[] }) t (.tup ys)from I1.hok t _ N);rw[g]at i;cases i;have c:(s.heap.push { cls:=.type "dict",data:=.dict #[] }).DictOf (eW X.prog X.w) s.heap.objs.size []:=Heap.DictOf.new s.heap;refine Y0w c.typeIs (F.args_dict_init_2 _ _);unfold Builtin.«dict.__init__»;refine Y39;unfold Builtin.Dict.selfAndRest;refine wpAny_bind (wpAny_notOrdered_dict c.typeIs ?_);show Y0V (pure (s.heap.objs.size,[Value.ref t]));refine Y1B;show Y0V (Builtin.Dict.updateFrom "dict.__init__" s.heap.objs.size (Y8U) [] .none);unfold Builtin.Dict.updateFrom;refine wpAny_bind (wpAny_typeOf (T := "tuple") (Y1o g j) ?_);rw[YcH];refine wpAny_bind (PU (s:={ s with heap:=s.heap.push { cls:=.type "dict",data:=.dict #[] } }) g j x O R λl p kp=>?_);rw[if_pos (by rfl)];refine Y99 ?_;refine wpAny_bind (wpAny_pyIter_tuple (s:={ s with heap:=l,toks:=p }) (items:=J.toArray) ⟨S,kp t S g,j,β,x⟩ ?_);refine wpAny_pure (Y02 (Ydn Kk));have I2:Y1J d (YbL (.dT [])) ({ s with heap:=l,toks:=p }):=I1.kept (t':=p) kp;have I3:Y1J d (YbL (.dT [])) ({ s with heap:=l.push { cls:=.type "tuple_iterator",data:=.fields #[.ref t,.int 0 0] },toks:=p }):=I2.kept (t':=p) λb o e=>Y2D
 have G:s.heap.objs.size<l.objs.size:=by
  obtain⟨_,_,_,W,_⟩:=c;exact aY (kp _ _ W)
 have M:upd H s.heap.objs.size (.dT []) l.objs.size=none:=I2.hok.fresh (Yk);refine DB (D:=s.heap.objs.size) (it:=l.objs.size) (t:=t) (ys:=ys) Oo R L y (Nat.ne_of_gt G) C 0 [] _ I3 (I2.fpOk (Yk) M) (Y7w _) (by simpa using δ) (by simpa using γ) (by simpa using α) λι I'=>⟨rfl,.ref _,_,I',rfl,?_⟩;rw[List.nil_append];exact q _ L
end
end L2
namespace HT
open PySem PySem.Spec PyProof.Rows
section
variable{prog:Program}{w:World}{A:Around}{E:Y8}{s:Shared}{it d:Addr}{es:YbY}{ep i:Nat}{od:Obj}
def aAd{Q:Y8H}(hit:s.heap.IsKeyIter it d i es.size ep)(hod:Y24 d od)(hdd:od.data=Ybt ep)(hi:i<es.size)
  (h:∀h',h'.IsKeyIter it d (i+1) es.size ep->Y9f it h'->Q (some es[i].key) { s with heap:=h' }):Ybb it:=by
 obtain⟨⟨x,u,j,r⟩,l,p,hd⟩:=id hit;simp only at p hd;subst p hd;have c:=hit.typeIs;unfold pyNext;refine Y7S (Y89 "__next__" c F.slot_dict_keyiterator_next F.slot_dict_keyiterator_next c F.entry_dict_keyiterator_next ?_ (F.args_dict_keyiterator_next_1 _));have g:Y6 (Builtin.Dict_items.ownsTuple "dict_keyiterator"):=Dd
 repeat (any_goals (first | assumption | (with_reducible refine Yd1 c) | (with_reducible refine Yd7 c) | (with_reducible refine wpAny_fieldsOf l rfl ?_) | (with_reducible refine Yfu hdd ?_) | (with_reducible refine YfI hdd ?_) | wp_step))
 rw[if_neg (show ¬((i:Int)<0)by exact Oo),Int.toNat_natCast,Array.getElem?_eq_getElem hi];have a:(s.heap.update it (Obj.mapFields (·.setIfInBounds 1 (rawInt ((i:Int)+1))))).IsKeyIter it d (i+1) es.size ep :=
  ⟨_,Yal _ l (Obj.data_mapFields rfl _),(Obj.cls_mapFields ..).trans rfl,by rw[Obj.data_mapFields rfl];simp[rawInt]⟩
 have m:({ s with heap:=s.heap.update it (Obj.mapFields (·.setIfInBounds 1 (rawInt ((i:Int)+1)))) }:Shared).TypeIs (Y4k) "dict_keyiterator" := a.typeIs;have e:=h _ a (Heap.SameBut.update ..)
 repeat (any_goals (first | assumption | (with_reducible refine Yd1 c) | (with_reducible refine Yd7 c) | (with_reducible refine Yd7 m) | (with_reducible refine wpAny_setField l rfl (by rw[g];simp) ?_) | wp_step))
 exact Yd2 e
def aDw{Q:Y8H}(hh:Y4i)(hit:s.heap.IsKeyIter it d i es.size ep)(hod:Y24 d od)(hdd:od.data=Ybt ep)(hi:es.size<=i)
  (h:∀h',YdH it h'->Q none { s with heap:=h' }):Ybb it:=by
 obtain⟨⟨p,m,e,l⟩,g,j,hd⟩:=id hit;simp only at j hd;subst j hd;have c:=hit.typeIs;have a:Y6 (Builtin.Dict_items.ownsTuple "dict_keyiterator"):=Dd;unfold pyNext;refine Y7S (Y89 "__next__" c F.slot_dict_keyiterator_next F.slot_dict_keyiterator_next c F.entry_dict_keyiterator_next ?_ (F.args_dict_keyiterator_next_1 _))
 repeat (any_goals (first | assumption | (with_reducible refine Yd1 c) | (with_reducible refine Yd7 c) | (with_reducible refine wpAny_fieldsOf g rfl ?_) | (with_reducible refine Yfu hdd ?_) | (with_reducible refine YfI hdd ?_) | wp_step))
 rw[if_neg (show ¬((i:Int)<0)by exact Oo),Int.toNat_natCast,Array.getElem?_eq_none hi]
 repeat (any_goals (first | assumption | (with_reducible refine Yd1 c) | (with_reducible refine wpAny_setField g rfl (by rw[a];simp) ?_) | wp_step))
 simp only[raiseNew];refine wpAny_bind (wpAny_handled ?_);rw[show A.in1.handled=none from hh];refine Y5q (wpAny_throw ?_);refine wpAny_bind (YeT "StopIteration" true (Y0j Y14) ?_);exact wpAny_pure (h _ (((Heap.SameBut.update ..).extBut.push _).push _))
def aAf{Q:Y8}(hd:Y6Y d)(hod:Y24 d od)(hex:od.ExactDict)(hdd:od.data=Ybt ep)
  (hQ:Q (Y19) { s with heap:=s.heap.push { cls:=.type "dict_keyiterator",data:=.fields #[.ref d,.int 0 0,.int es.size 0,.int ep 0] } }):Y0U (pyIter (Y8V)):=by
 have a:Y85 d "dict" := ⟨od,hod,hex.1⟩;refine wpAny_pyIter_slot a F.slot_dict_iter (wpAny_call_entry F.slot_dict_iter a F.entry_dict_iter ?_ (F.args_dict_iter_1 _));unfold Builtin.«dict.__iter__»;refine Y39;unfold Builtin.Dict.dictSlotNone;refine wpAny_bind (wpAny_notOrdered_dict a ?_);show Y32 (pure (Value.ref d));refine Y1B
 repeat (any_goals (first | assumption | (with_reducible refine Yfu hdd ?_) | (with_reducible refine YfI hdd ?_) | wp_step))
 exact⟨_,rfl, "dict_keyiterator",_,Y0j Y14,F.slot_dict_keyiterator_next.lookup,hQ⟩
end
end HT
namespace L2
open PySem PySem.Spec PySem.W PyProof.Rows HT
section
variable{X:Cx}{pins:Ad}{σ:St}{H:Hp}{s:Shared}
theorem AG{α β:Type}{R:Y17 α β}:∀{l:Yn}{m:List β}{i:Nat}{a:α},Paired R l m->l[i]?=some a->∃b,m[i]?=Y5Q/\R a b
 | _,_,i,a,.nil,h=>by simp at h
 | _,_,0,a,.cons r t,h=>by
  cases(show _=a by simpa using h);exact⟨_,rfl,r⟩
 | _,_,i+1,a,.cons r t,h=>by
  obtain⟨b,h1,h2⟩:=AG t (by simpa using h);exact⟨b,by simpa using h1,h2⟩
end
section
variable{X:Cx}{tg:Expr}
end
end L2
namespace HT
open PySem PySem.Spec PyProof.Rows PySem.W
section
variable{prog:Program}{w:World}{A:Around}{d:Addr}{o:Obj}{es:YbY}{ep:Nat}
def OJ(hh:Y4i)(I:Addr)(hne:d≠I)(hdat:o.data=Ybt ep) :
  Walks prog w A I [I,d] [I] es.size (λi v=>∃hi:i<es.size,v=es[i].key) (λi h=>h.IsKeyIter I d i es.size ep/\h.get? d=Y5) where
 sub:=λb c=>by simp at c;simp[c]
 frame:=λ_ _ _ a r=>⟨a.1.at λo e=>r I (by simp) o e,r d (by simp) o a.2⟩
 item:=λi s Q E hi a j=>aAd a.1 a.2 hdat hi λm l g =>
  j _ m s.toks (Y7m hi) ⟨l,(g.2 d hne).trans a.2⟩ λb o c e=>(g.2 b (λh=>c (by simp[h]))).trans e
 done:=λs Q E a j=>aDw hh a.1 a.2 hdat (Yk) λm p=>j m s.toks λb o c e=>p b o (λh=>c (by simp[h])) e
 self:=λ_ _ _ _ a j=>wpAny_pyIter_keyiter a.1 j
def aAg(lo:Y6Y d)(hex:o.ExactDict)(hdat:o.data=Ybt ep):KdlSrc prog w "dict" d d es.size (λi v=>∃hi:i<es.size,v=es[i].key) (λh=>h.get? d=Y5) where
 type:=λ_ a=>Y0P a hex.1
 there:=λ_ a=>⟨aY a,aY a⟩
 keep:=λ_ _ a c=>c d (Y21) o a
 notList:=Dd
 notTuple:=Dd
 hint:=λ_ _ _ _ a j=>kdl_hint_dict (Y0P a hex.1) j
 iter:=λA s e a=>⟨_,_,λE Q g=>aAf lo a hex hdat g,OJ e _ (cJ (aY a)) hdat,Y7w _,Y0T a⟩
end
end HT
namespace L2
open PySem PySem.Spec PySem.W PyProof.Rows HT
end L2
namespace HT
open PySem PySem.Spec PyProof.Rows PySem.W
section
variable{prog:Program}{w:World}{A:Around}{E:Y8}{s:Shared}{it d:Addr}{es:YbY}{ep i:Nat}{od:Obj}
end
end HT
namespace L2
open PySem PySem.Spec PySem.W PyProof.Rows HT
section
variable{X:Cx}{tg:Expr}
end
section
variable{X:Cx}{o e:Expr}{apos cpos:Pos}{td ty:TE}
end
end L2
namespace L2
open PySem
section
variable{js:Ae}{te:TE}{tc:TT}{σ:St}{H:Hp}{Q:VK}
end
end L2
namespace L2
open PySem PySem.Spec PyProof.Rows
section
variable{X:Cx}{pins:Ad}{σ:St}{H:Hp}{s:Shared}{scope:Scope}{x x2:Str}{N':Ah}{js:Ae}{fp:Y0m}
end
section
variable{X:Cx}{pins:Ad}{σ:St}{H:Hp}{s:Shared}{scope:Scope}{x:Str}{N':Ah}{js:Ae}{fp:Y0m}{elt iter:Expr}{px pos:Pos}{tg:Expr}{x2:Str}{te:TE}
end
section
variable{X:Cx}{scope:Scope}{x x2 y:Str}{N':Ah}{js:Ae}{elt iter tg:Expr}{py pos spos:Pos}{te:TE}{wi:TI}{i:Nat}
end
end L2
namespace HT
open PySem PySem.Spec PyProof.Rows
section
variable{prog:Program}{w:World}{A:Around}{E:Y8}{s:Shared}{d:Addr}{o:Obj}{es:YbY}{ep:Nat}
end
end HT
namespace L2
open PySem PySem.Spec PySem.W PyProof.Rows HT
def AX(c:Af):(c.map (Sum.inl:Int->fF)).map kV=YbM:=by rw[List.map_map];rfl
abbrev kT(c:Af):Y4N:=c.map Sum.inl
def tW{a b:Af}(h:kT a=kT b):a=b:=by
 have:∀{a b:Af},kT a=kT b->a=b:=by
  intro a
  induction a with
  | nil=>intro b h;cases b with
   | nil=>rfl
   | cons _ _=>cases h
  | cons x a ih=>intro b h;cases b with
   | nil=>cases h
   | cons y b =>
    injection h with h1 h2;injection h1 with h1;rw[h1,ih h2]
 exact this h
section
variable{X:Cx}{o e f k v:Expr}{apos cpos pos:Pos}{td ty tx tk tv:TE}
@[irreducible] def YY(p:Addr)(x y:V)(H2:Hp)(Q:VK):Prop:=∃b k,x=Y0E/\H2 b=YaU kV/\H2 p=Y2d []/\Y44 (upd H2 p (.dT [(k,y)]))
def aBQ(tk tv:TE):TE:=λσ H Q=>∀p,H p=none->tk σ (Ybi p []) λx H1=>tv σ H1 λy H2=>YY p x y H2 Q
def aFQ{p b:Addr}{y:V}{H:Hp}{Q:VK}{c:Af}(hb:H b=YcB)(hp:H p=Y2d [])(q:∀H',H' p=Y2d [(kT c,y)]->Y0s->Y0L p):YY p (Y0E) y H Q:=by
 unfold YY;exact Y4y b (kT c) (by rw[AX];exact hb) hp (q _ bR bB.self)
def RM(hu:Y2u 1<cLine)(hk:Ye k tk)(hv:Ye v tv):Ye (.Dict [some k] [v] pos) (aBQ tk tv):=⟨by
 intro d s σ H Q I q;have L:=Yfk;have I1:=I.laid (a:=s.heap.objs.size) (o:=.dT []) (h':=s.heap.push { cls:=.type "dict",data:=.dict #[] }) (t':=s.toks) (Yc9 q) (Yk) (BD s.heap I.big);refine wpAny_Dict_any rfl rfl (by simp) (show 1<=15 by decide) (pairTrees_cons_walk (thn (hk.p d _ σ _ _ I1 (q _ L)) λu T ⟨x,H1,I1,w,J⟩=>thn (hv.p d T σ H1 _ I1 J) λα W ⟨y,H2,I2,O,l⟩=>pairTrees_nil_walk ?_));unfold YY at l;obtain⟨b,i,rfl,r,e,B⟩:=l;cases(show u=Value.ref b from w);obtain⟨z,hd,Z,g,R⟩:=aBo I2.hok e;unfold storeAll;rw[List.forIn_cons];refine Y7Q (wpAny_dictSet_heap (show X.A.units<cLine by exact Oo) (rO I2.hok r) R (λh' h hs=>Y1B) (by rw[<-Paired.length g];exact z));dsimp only;rw[List.forIn_nil];refine Y1B;obtain⟨q,C,D,j,M,P,G,_,N⟩:=h;refine Y2j (.ref _) ?_ B;have S:Y0h (([(i,y)]:List (List fF × V)).length):=by show Y0h 1;decide
 refine vF I2 (by rw[e];exact True.intro) hs ⟨q,j⟩ ⟨S,hd,_,(g.put i r O).keeps λc U m=>?_,q,C,D,j,M,P,G,N⟩;rw[cH (CK m e (λz=>nomatch z))];exact m⟩
def XN(hu:Y2u 1<cLine)(ho:Ye o td)(he:Ye e ty)(hf:Ye f tx)(base:attributeBase o "get" X.env (Y0g o)=Y0g o:=by rfl)
  (few:((backTo cpos (starEach [e,f] X.env)).all (λx=>! x.1)&&(backToKw cpos (keywordEach [] X.env)).all (λx=>x.1.isSome)&&Y2A (([e,f]:List Expr).length+([]:List Keyword).length+(if([]:List Keyword).isEmpty then 0 else 1)) 30)=true:=by rfl)
  (line:(YaG)=true:=by rfl) (trees:backTo cpos (Y20 [e,f])=[(false,Y1p),(false,Y0g f)]:=by rfl):Ye (Y9R (Y9l o "get") [e,f] []) (SD td ty tx):=⟨UE hu ho.p he.p hf.p ⟨base,few,line,trees⟩⟩
@[irreducible] def YV(b:Bool):R2:=λx y H Q=>∃a o,y=Y7/\pR H a x o/\Y0H (xor b o.isSome)
def rind{b:Bool}{x:V}{a:Addr}{o:An}{H:Hp}{Q:VK}(g:pR H a x o)(q:Y0H (xor b o.isSome)):YV b x (Y7) H Q:=by unfold YV;exact Y0v a o g q
def aDn(hu:Y2u 1<cLine):Y29 .In (YV false):=by
 intro c s σ H x y v u Q I d e h;unfold YV at h;obtain⟨a,o,rfl,g,q⟩:=h;cases(show u=Value.ref a from e);exact aG4 hu I g d λi I3=>Y3Q _ H I3 (by simpa using q)
end
def dpT{H:Hp}{p b:Addr}{kvs:Y04}{c:Af}{v:V}{D:mH}{σ:St}(e:H p=Y25)(eb:H b=YcB)(hl:YaW 100000)(q:∀H',H' p=Y2d (Y4z (kT c) v)->Y0s->Y6X H') :
  rDP D σ (Y0x) (Y0E) v H:=by
 unfold rDP;exact Y0v p _ (FU.t (k:=kT c) e (by rw[AX];exact eb) (bK hl Dd)) (q _ bR bB.self)
def pR.ct{H:Hp}{p b:Addr}{kvs:Y04}{c:Af}(e:H p=Y25)(eb:H b=YcB):pR H p (Y0E) (Y6Z (kT c)):=pR.t e (by rw[AX];exact eb)
def dgT{H:Hp}{p b:Addr}{kvs:Y04}{c:Af}{v:V}{Q:VK}(e:H p=Y25)(eb:H b=YcB)(hv:Y6Z (kT c)=Yq)(q:Q v H):rDG (Y0x) (Y0E) H Q:=by
 unfold rDG;exact⟨p,v,rfl,hv ▸ pR.ct e eb,q⟩
mutual
theorem eQ.keep{K:Aa}{H H':Hp}(s:Y0):∀{d:PyData}{v:V},eQ K H d v->eQ K H' d v
 | .none,_,h=>h
 | .bool _,_,h=>h
 | .int _,_,h=>h
 | .str _,_,h=>h
 | .list ds,_,h=>by
  unfold eQ at h ⊢;obtain⟨a,xs,rfl,h1,h2⟩:=h;exact⟨a,xs,rfl,s _ _ h1,eY.keep s h2⟩
 | .tuple ds,_,h=>by
  unfold eQ at h ⊢;obtain⟨a,xs,rfl,h1,h2⟩:=h;exact⟨a,xs,rfl,h1.keep s,eY.keep s h2⟩
 | .dict kvs,_,h=>by
  unfold eQ at h ⊢;obtain⟨e,a,rfl,h1⟩:=h;exact⟨e,a,rfl,s _ _ h1⟩
theorem eY.keep{K:Aa}{H H':Hp}(s:Y0):∀{ds:Ya}{vs:Al},eY K H ds vs->eY K H' ds vs
 | [],_,h=>h
 | d::ds,_,h=>by
  unfold eY at h ⊢;obtain⟨x,xs,rfl,h1,h2⟩:=h;exact⟨x,xs,rfl,eQ.keep s h1,eY.keep s h2⟩
end
def sZ{kvs:Y04}{k:Y4N}{v:V}(h:(Y4D).isSome=true):(kB kvs k v).map (·.1)=kvs.map (·.1):=by
 unfold kB;rw[lU,Y8u,List.map_map];refine dD λp _=>?_;show(if p.1=k then(p.1,v) else p).1=p.1;split <;> rfl
end L2
namespace L2
open PySem
section
variable{js:Ae}{te:TE}{tc:TT}{σ:St}{H:Hp}{Q:VK}
def aAr{J:It}{α:Type}{as:Yn}(p:Y27 α)(Src:Y17 α V)(R:α->Y2E)(hR:∀c y H1 H2,Y7v->R c y H1->R c y H2)(hz:Y6r as.length)
  (hg:∀i H',Y0->i<as.length->Y6B H'/\∀x H3,Y6v H' x H3->H3=H'/\∃c,as[i]?=Y0c/\Src c x) (hst:∀H',Y0->YcT as.length)
  (ht:∀x c H' (Q':Y9Z),c∈as->Src c x->Y0->(∀H5,Y5h->Y4H (p c))->tc (Y9::Y0N) H' Q')
  (he:∀x c H' (Q':VK),c∈as->p c=true->Src c x->Y0->(∀y H6,aV H' H6->R c y H6->Q' y H6)->te (Y9::Y0N) H' Q')
  (hd:Y2Q (H D=none) (Y0k=Y08->Y0->Y5i (R c y H') (as.filter p)->Y1g)):kG J σ js tc te H Q:=by
 have mono:∀{H1 H2:Hp} {l:Yn} {ys:Al},Y7v->Y5i (R c y H1) l->Y5i (R c y H2) l:=by
  intro H1 H2 l ys s h
  induction h with
  | nil=>exact .nil
  | cons h t ih=>exact Ya6 (hR _ _ _ _ s h)
 have snoc:∀{H1:Hp} {l:Yn} {ys:Al} {c:α} {y:V},Y5i (R c y H1) l->R c y H1->Paired (λc y=>R c y H1) (l++[c]) (ys++[y]):=by
  intro H1 l ys c y h r
  induction h with
  | nil=>exact Y9E r
  | cons h t ih=>exact Ya6 h
 unfold kG;intro D I;refine Y0w (λi m ys H'=>m=as.length-i/\i<=as.length/\Y0k=Y08/\Y0/\Y5i (R c y H') ((as.take i).filter p)/\ys.length<=i) ⟨as.length,by simp,Y1z,bR,aV.upd I,.nil,Yk⟩;rintro i m ys H2 ⟨rfl,S,a,g,B,T⟩;refine Y02 a;by_cases hlt:i<as.length
 ·obtain⟨C,L⟩:=hg i H2 g hlt;refine Y3L C (Ye7 Oo Dd) (λx H3 G=>?_);obtain⟨rfl,c,M,N⟩:=L x H3 G;have A:=aF M;have u:as.take (i+1)=as.take i++[c]:=by rw[iX,M];rfl
  refine Y0w (λb H4=>b=p c/\aV H3 H4) (ht x c H3 _ A N g λH5 w=>Y0l w);rintro b H4 ⟨rfl,d⟩;by_cases hp:p c=true
  ·rw[if_pos hp];refine Y0w (λy H5=>aV H4 H5/\R c y H5) (he x c H4 _ A hp N (g.trans d) λy H6 P r=>⟨P,r⟩);rintro y H5 ⟨w,r⟩;have j:=w _ _ (d _ _ a);have O:dH H5 (Y1s H5 D (ys++[y])):=bB.t bB.self j;refine Y2R j _ ?_ hlt bR (aV.thru I ((g.trans d).trans w) bB.self) ?_ ?_
   ·exact Oo
   ·rw[u,List.filter_append];have:List.filter p [c]=[c]:=by simp[hp]
    rw[this];exact snoc (mono ((d.trans w).t.trans O) B) (hR _ _ _ _ O r)
   ·rw[aW,List.length_singleton];exact Oo
  ·rw[if_neg hp];refine Y2R (d _ _ a) _ ?_ hlt (d _ _ a) (g.trans d) ?_ ?_
   ·exact Oo
   ·rw[u,List.filter_append];have:List.filter p [c]=[]:=by simp[hp]
    rw[this,List.append_nil];exact mono d.t B
   ·exact Oo
 ·have e:i=as.length:=Oo;subst e;refine Y3e (hst H2 g) (hd D ys H2 I a g ?_);rw[cZ]at B;exact B
def VW{lo:Int}{n:Nat}(p:Y7u)(R:Nat->Y2E)(hR:∀c y H1 H2,Y7v->R c y H1->R c y H2)(hz:Y6r n)
  (ht:∀i H' (Q':Y9Z),i<n->Y0->(∀H5,Y5h->Y4H (p i))->tc (Ym (lo+(i:Nat))::Y0N) H' Q')
  (he:∀i H' (Q':VK),i<n->p i=true->Y0->(∀y H6,aV H' H6->R i y H6->Q' y H6)->te (Ym (lo+(i:Nat))::Y0N) H' Q')
  (hd:Y2Q (H D=none) (Y0k=Y08->Y0->Y5i (R c y H') ((List.range n).filter p)->Y1g)):kG (WU lo n) σ js tc te H Q:=by
 refine aAr (as:=List.range n) p (λi x=>x=.int (lo+(i:Nat))) R hR (by rw[bG];exact hz) (λi H' s a=>?_) (λH' s=>by rw[bG];exact Yk) (λx c H' Q' d e s q=>?_) (λx c H' Q' d g e s q=>?_) hd
 ·rw[bG]at a;exact Y87 a ⟨y.1,i,by rw[eS a],y.2⟩
 ·subst e;exact ht c H' Q' (bX.mp d) s q
 ·subst e;exact he c H' Q' (bX.mp d) g s q
end
end L2
namespace L2
open PySem PySem.Spec PySem.W PyProof.Rows HT
section
variable{prog:Program}{w:World}{A:Around}{E:Y8}{s:Shared}
def HV{T:String}{r d:Addr}{n:Nat}{P:Y8N Value}{OK:Y4h}{Q:Y1Q Ag}(K:KdlSrc prog w T r d n P OK)(hh:Y4i)(hok:OK s.heap)(hn:Y0h n)
  (hQ:∀h' tk (acc':Ai),(Y7x (Y0n=Y5))->ItemsOf P acc' n->Q acc'.toList { s with heap:=h',toks:=tk }) :
  Y0U (collect (.ref r)):=by
 have lt:=K.there _ hok;have i:(s.heap.push (seqObj "list" #[] 0)).get? s.heap.objs.size=some { cls:=.type "list",data:=.seq #[] 0 }:=Y14
 let G:Y75:=λa z=>∃g m l e,a=Yap Y19/\z={ s with heap:=g,toks:=m }/\(Y7x (g.get? b=Y5))/\g.get? s.heap.objs.size=some { cls:=.type "list",dict:=none,data:=.seq l e,slots:=#[] }/\ItemsOf P l n
 have ext:=kdl_extend (A:=A) (s:={ s with heap:=s.heap.push (seqObj "list" #[] 0) }) (R:=G) K hh (K.keep _ _ hok λb _ o e=>Y2D) s.heap.objs.size (Nat.ne_of_gt lt.1) (Nat.ne_of_gt lt.2) (Y19) 0 i
  (λg m l e kp h it=>⟨g,m,l,e,rfl,rfl,λb o z=>kp b o (cJ (aY z)) (Y0T z),h,it⟩) hn
 unfold collect;refine wpAny_bind (wpAny_runValue (YdA entry_proto_collect'));rw[Ydc PySem.F.plain_proto_collect];refine wpAny_bind (m:=newList []) (wpAny_newList (wpAny_pure ⟨plainId_quiet PySem.F.plain_list_iadd _,YdA entry_list_iadd'⟩));rw[Ydc PySem.F.plain_list_iadd];refine wpAny_mono ext (λj z y=>?_) λe z ⟨_,_,_,_,q,_⟩=>by cases q
 cases j with
 | done f=>obtain⟨g,m,l,e,q,rfl,kp,h,it⟩:=y;cases q;exact Yfd h (wpAny_pure (hQ g m l kp it))
 | again c=>exact⟨y.1,codeAny_mono y.2 λq z ⟨g,m,l,e,eq,p,kp,h,it⟩=>by subst eq p;exact Yfd h (wpAny_pure (hQ g m l kp it))⟩
def JI{x:Value}{Q:Y8}
  (h:wpAny (Y1F) A.in1 (collect x) (λvs s1=>∃h1 tk cs,s1={ s with heap:=h1,toks:=tk }/\(Y7x (YcK=Y5))/\kR h1 vs cs/\vs.length<64 /\
   ∀(p:Y0B) (h':Heap) (D:Addr) (c:Nat),YaR p->(Ybg->Ybh p)->(Y0I (YcK=Y5) (Y0n=Y5))->h1.objs.size<=D->Y61 D (Ycf "list" (YeZ (λi=>Ydz i)) c)->Y2c D ({ s with heap:=h',toks:=tk })) E s) :
  Y0U (Y84 "sorted" [x]):=by
 refine Calls.call_function_entry kind_sorted plain_sorted entry_sorted (args_sorted1 _) ?_;unfold Builtin.«sorted»;refine wpAny_bind (m:=checkCount "sorted" 1 1 _) (Y1B);refine Y6O h (λvs s1 ⟨h1,tk,cs,e,g,B,l,q⟩=>?_) Y83;subst e;refine wpAny_bind (wpAny_newList ?_ (by rw[sizeLine_eq];exact Oo));have a:(h1.push (seqObj "list" vs.toArray 0)).get? h1.objs.size=Ycf "list" vs.toArray 0:=Y14;have keep:Y0I (YcK=Y5) ((h1.push (seqObj "list" vs.toArray 0)).get? b=Y5):=λb o q=>Y0T q;show Y4U _ ({ s with heap:=h1.push (seqObj "list" vs.toArray 0),toks:=tk });refine wpAny_bind (wpAny_holding (wpAny_call_entry slot_list_sort (Y0j a) entry_list_sort ?body (args_list_sort _)));refine OS (s:={ s with heap:=h1.push (seqObj "list" vs.toArray 0),toks:=tk }) a (B.keep λb o G _=>keep b o G) l λp u r=>Yd2 Y3;unfold sortedHeap;have y:((h1.push (seqObj "list" vs.toArray 0)).update h1.objs.size (Obj.mapSeq λ_=>#[])).get? h1.objs.size=Ycf "list" (#[]) _:=Yfz a (#[]);have C:=aB (seqObj "list" #[] 0) (aB (seqObj "tuple" vs.toArray 0) y);refine q p _ h1.objs.size _ u r (λb o e=>?_) (Yk) (Yfz C (YeZ (λi=>Ydz i)));have j:b<h1.objs.size:=aY e;have d:b≠h1.objs.size:=cJ j;rw[YfU _ _ _ d]
 exact Y5z (by rw[YfU _ _ _ d];exact keep b o e)
end
def aE7{X:Cx}{pins:Ad}{σ:St}{H:Hp}{s:Shared}(I:Y2){d:Addr}{kvs:Y04}(e:H d=Y25):Y6Y d/\(kvs.map (·.1)).Nodup/\∃o,Y95 d/\o.ExactDict/\∃es ep,o.data=Ybt ep/\es.size=kvs.length /\
  ∀(i:Nat) (hi:i<es.size) p,kvs[i]?=some p->∃b,es[i].key=Y0E/\H b=Yl (p.1.map kV):=by
 obtain⟨z,hd,D,a,o,es,ep,G,B,C,g,h⟩:=(show dU X.prog X.w H s.heap d (.dT kvs)from I.hok d _ e);have j:es.size=kvs.length:=by
  have:=Y4P g;rw[aA,<-Paired.length a]at this;simpa using this
 have u:kvs.map (·.1)=D.map (·.1):=by
  clear g h j e z
  induction a with
  | nil=>rfl
  | cons r t ih=>rw[bC,bC,r.1,ih]
 refine⟨hd,u ▸ h,o,G,B,es,ep,C,j,λi hi p y=>?_⟩;obtain⟨x,A,J,m,L⟩:=AG a y;have l:es.toList[i]?=some (entryOfKey (Yc8 X.prog X.w) x):=by rw[g,aX,A];rfl
 have c:es[i]=entryOfKey (Yc8 X.prog X.w) x:=by
  have:es.toList[i]?=some es[i]:=by simp[hi]
  rw[this]at l;injection l
 rw[c];exact Y0Q x.2.1 m
abbrev kyI(c:Af):Y4N:=c.map Sum.inl
def kyV(c:Af):(kyI c).map kV=YbM:=by rw[List.map_map];rfl
@[irreducible] def EK:Y0W:=λxs H Q=>∃(d:Addr) (kvs:Y04) (cs:Ac),xs=[Y8V]/\H d=Y25/\kvs.map (·.1)=cs.map kyI/\(∀c∈cs,c≠[])/\cs.length<64 /\
 ∀q (ys:Al) (ds:Ac) H',ds.Perm cs->ds.Pairwise (λa b=>qG a b=true)->H q=none->H' q=Y08->Y2l (ds.map Ybo) ys->Y0->Y0L q
def rsrd{H:Hp}{Q:VK}{d:Addr}{kvs:Y04}{cs:Ac}(h:H d=Y25)(hk:kvs.map (·.1)=cs.map kyI)(hc:∀c∈cs,c≠[])(hz:cs.length<64)
  (q:∀q (ys:Al) (ds:Ac) H',ds.Perm cs->ds.Pairwise (λa b=>qG a b=true)->H q=none->H' q=Y08->Y2l (ds.map Ybo) ys->Y0->Y0L q):EK [Y8V] H Q:=by
 unfold EK;exact Y2R d kvs cs h hk hc hz q
def NW{X:Cx}(hc:Y1V):Y35 "sorted" EK:=by
 unfold EK;intro U s σ H xs us Q I r h;obtain⟨d,M,g,rfl,hq,P,τ,hz,q⟩:=h;obtain⟨u,rfl,θ⟩:=nV r;cases θ;obtain⟨N,S,o,ν,υ,es,ep,ψ,ι,aa⟩:=aE7 I hq;have lk:M.length=g.length:=by have:=Y4P P;simpa using this
 refine JI (HV (aAg N υ ψ) (show X.A.in1.handled=none from I.ok.hd hc) ν (by rw[sizeLine_eq];exact Oo) λL χ T kp J=>?_);obtain⟨la,J⟩:=J;have I1:Y1J U H ({ s with heap:=L,toks:=χ }):=I.kept kp;have ο:∀(n:Nat) (l:Ag),l.length=n->∀(m:Ac),m.length=n->(∀(i:Nat) v c,l[i]?=Yq->m[i]?=Y0c->∃b,v=Y0E/\H b=YcB)->∃C:Al,dG C l/\Y15 (m.map Ybo) C:=by
  intro n
  induction n with
  | zero =>
   intro l ζ m N _;cases l with
   | nil=>cases m with
    | nil=>exact⟨[],.nil,aJ.nil⟩
    | cons _ _=>simp at N
   | cons _ _=>simp at ζ
  | succ n ih =>
   intro l ζ m N P;cases l with
   | nil=>simp at ζ
   | cons v l=>cases m with
    | nil=>simp at N
    | cons c m =>
     obtain⟨b,rfl,hb⟩:=P 0 v c rfl rfl;obtain⟨C,η,δ⟩:=ih l (by simpa using ζ) m (by simpa using N) λi v p L φ=>P (i+1) v p (by simpa using L) (by simpa using φ);have rb:∀c:Af,Y15 (c.map PyData.int) YbM:=λc=>by
      induction c with
      | nil=>exact aJ.nil
      | cons x c ih=>exact aJ.cons (Yas) ih
     exact⟨Y0E::C,.cons rfl η,aJ.cons (bL.tup hb (rb c)) δ⟩
 have G:T.toList.length=g.length:=by rw[Array.length_toList,la,ι,lk]
 obtain⟨C,η,δ⟩:=ο g.length T.toList G g rfl λi v c ξ ε=>by
  obtain⟨B,e⟩:=J i v (by rw[<-Array.getElem?_toList];exact ξ);have hp:∃p,M[i]?=some p/\p.1=kyI c:=by
   have:(M.map (·.1))[i]?=some (kyI c):=by rw[P,aX,ε];rfl
   rw[aX]at this;obtain⟨p,L,φ⟩:=Option.map_eq_some_iff.mp this;exact⟨p,L,φ⟩
  obtain⟨p,hp1,ω⟩:=hp;obtain⟨b,k1,k2⟩:=aa i B p hp1;rw[ω,kyV]at k2;exact⟨b,by rw[e,k1],k2⟩
 have α:g.Nodup:=by
  rw[P]at S;exact List.Pairwise.of_map _ (λa b h e=>h (by rw[e])) S
 have γ:C.length=g.length:=by rw[δ.len,aA]
 refine⟨L,χ,g,rfl,kp,LO I1 δ τ η,Oo,λw h' D c hg ho keep hD β=>?_⟩;have y:w.toList.Perm (List.range g.length):=by
  have:=(Array.perm_iff_toList_perm.mp hg);rw[<-G];simpa using this
 have W:∀i∈w.toList,i<C.length:=λi B=>by
  have:=y.mem_iff.mp B;rw[γ];simpa using this
 have κ:(YdS (YaX i)).length=g.length:=by rw[aA,y.length_eq,bG]
 have hn:=I1.hok.fresh hD;have sm:aV H (Y1s H D (YdS (YaX i))):=aV.upd hn;refine Y3z (.ref D) (Y1s H D (YdS (YaX i))) (I1.laid (t':=χ) keep hD ⟨by rw[κ,sizeLine_eq];exact Oo,_,c,LL η _ W,β⟩) ?_;have ha:=ho (G ▸ aDl α);have Z:=hg.size;have μ:(w.toList.map λi=>g.getD i []).Perm g:=by
  have L:=y.map λi=>g.getD i [];have e:(List.range g.length).map (λi=>g.getD i [])=g:=by
   apply List.ext_getElem?;intro i;rw[aX];by_cases B:i<g.length
   ·rw[eS B,aD B,Option.map_some,bI,aD B];rfl
   ·rw[dZ (by simpa using B),dZ Oo];rfl
  rwa [e]at L
 refine q D _ (YdS (g.getD i [])) _ μ ?_ hn bR ?_ sm
 ·rw[List.pairwise_map,List.pairwise_iff_getElem];intro i j B hj hij;have ρ:i<w.size:=by simpa using B
  have R:j<w.size:=by simpa using hj
  have ξ:w.toList[i]=w.getD i 0:=by rw[Array.getElem_toList];exact(by simp[Array.getD,ρ]:w.getD i 0=w[i]).symm
  have ε:w.toList[j]=w.getD j 0:=by rw[Array.getElem_toList];exact(by simp[Array.getD,R]:w.getD j 0=w[j]).symm
  rw[ξ,ε];exact ha i j hij (by rw[<-Z];exact R)
 ·have rep:∀O:Ae,(∀i∈O,i<g.length)->Y15 ((O.map λi=>g.getD i []).map Ybo) (O.map λi=>YaX i):=λO=>by
   induction O with
   | nil=>exact λ_=>aJ.nil
   | cons i O ih =>
    intro h;have B:=h i (aG ..);have hd:(g.map Ybo)[i]?=some (PyData.tuple ((g.getD i []).map .int)):=by
     rw[aX,bI,aD B];rfl
    obtain⟨x,hx,θ⟩:=δ.get' hd;have ε:YaX i=x:=by rw[bI,hx];rfl
    refine aJ.cons ?_ (ih λj hj=>h j (aQ _ hj));show Y0r _ (YaX i);rw[ε];exact θ
  exact(rep w.toList λi B=>by rw[<-γ];exact W i B).same sm
end L2
namespace L2
open PySem PySem.Spec PyProof.Rows
section
variable{X:Cx}
end
section
variable{X:Cx}
end
end L2
namespace L2
open PySem PySem.Spec PySem.W PyProof.Rows HT
end L2
namespace L2
open PySem PySem.Spec PyProof.Rows
section
variable{X:Cx}{a:Expr}{ta:TA}{p1 np p2 pos:Pos}
end
end L2
namespace Mf
def lw(n d:Int):Int × Int:=(n/(Int.gcd n d:Int),d/(Int.gcd n d:Int))
structure XF(n d:Int):Prop where
 pos:0<d
 low:Y0z n d
def jW{n d:Int}(h:0<d):0<(Int.gcd n d:Int):=by
 have:=Int.gcd_pos_of_ne_zero_right n (Int.ne_of_gt h);exact Oo
def jD{n d:Int}(h:0<d):XF (lw n d).1 (lw n d).2:=by
 have g:=jW (n:=n) h;refine Y02 ?_
 ·exact Int.ediv_pos_of_pos_of_dvd h (Int.le_of_lt g) (YbR n)
 ·exact Int.gcd_ediv_gcd_ediv_gcd Oo
def aBh{n d:Int}:(lw n d).1*(Int.gcd n d:Int)=n/\(lw n d).2*(Int.gcd n d:Int)=d :=
 ⟨Int.ediv_mul_cancel (YfF n),Int.ediv_mul_cancel (YbR n)⟩
def rN{n d:Int}:(lw n d).1*d=n*(lw n d).2:=by
 obtain⟨e,c⟩:=aBh (n:=n) (d:=d);generalize (lw n d).1=a at *;generalize (lw n d).2=b at *;generalize (Int.gcd n d:Int)=g at *;rw[<-e,<-c];rw[Int.mul_assoc,Int.mul_comm g b]
def NJ{b a d:Int}(h:b ∣ a*d)(g:Y0z b a):b ∣ d:=by
 rw[<-Int.natAbs_dvd_natAbs,gF]at h;rw[<-Int.natAbs_dvd_natAbs];rw[Int.gcd_eq_natAbs_gcd_natAbs]at g;exact Nat.Coprime.dvd_of_dvd_mul_left g h
def HE{a b c d:Int}(h1:XF a b)(h2:XF c d)(e:a*d=c*b):a=c/\b=d:=by
 have g:b ∣ d:=by
  have:b ∣ a*d:=by rw[e];exact Int.dvd_mul_left c b
  exact NJ this (by rw[Int.gcd_comm];exact h1.low)
 have i:d ∣ b:=by
  have:d ∣ c*b:=by rw[<-e];exact Int.dvd_mul_left a d
  exact NJ this (by rw[Int.gcd_comm];exact h2.low)
 have h:=h1.pos;have hd:=h2.pos;have j:b=d:=Int.dvd_antisymm (Int.le_of_lt h) (Int.le_of_lt hd) g i;subst j;exact Y7m (Int.eq_of_mul_eq_mul_right Oo e)
def ET{a b n d:Int}(h:XF a b)(hd:0<d)(e:a*d=n*b):lw n d=(a,b):=by
 have c:=YfX n;have q:=HE (YcF hd) h (by
  have g:d≠0:=Oo;apply Int.eq_of_mul_eq_mul_right g
  calc (lw n d).1*b*d=((lw n d).1*d)*b:=by rw[Int.mul_assoc,Int.mul_comm b d,<-Int.mul_assoc]
   _=(n*(lw n d).2)*b:=by rw[c]
   _=(n*b)*(lw n d).2:=by rw[Int.mul_assoc,Int.mul_comm (lw n d).2 b,<-Int.mul_assoc]
   _=(a*d)*(lw n d).2:=by rw[e]
   _=a*(lw n d).2*d:=by rw[Int.mul_assoc,Int.mul_comm d,<-Int.mul_assoc])
 exact Prod.ext q.1 q.2
def ER{a b:Int}(h:XF a b):lw a b=(a,b):=ET h h.pos rfl
def qQ{u a b:Int}(h1:Y0z u a)(h2:Y0z u b):Y0z u (a*b):=by
 rw[Int.gcd_eq_natAbs_gcd_natAbs]at *;rw[gF];exact Nat.Coprime.mul_right h1 h2
def nK{a b c:Int}(h:Y0z a b)(d:c ∣ b):Y0z a c:=by
 have:=Int.gcd_dvd_gcd_of_dvd_right a d;rw[h]at this;exact Nat.eq_one_of_dvd_one this
def jX{a b c:Int}(h:Y0z a b)(d:c ∣ a):Y0z c b:=by
 rw[Int.gcd_comm]at *;exact nK h d
def ZL{a b c d:Int}(h1:XF a b)(h2:XF c d) :
  let g:Int:=Int.gcd b d
  let u:=a*(d/g)+c*(b/g)
  let l:Int:=Int.gcd u g
  lw (a*d+c*b) (b*d)=(u/l,(b/g)*(d/l)):=by
 intro g u l;have J:0<g:=jW h2.pos;have X:0<l:=jW J;obtain⟨x,w⟩:=YfF b;obtain⟨r,p⟩:=YbR b;have w:b=g*x:=w;have p:d=g*r:=p;have D:b/g=x:=by rw[w];exact Y6J _
 have T:d/g=r:=by rw[p];exact Y6J _
 have O:u=a*r + c*x:=by show a*(d/g)+c*(b/g)=_;rw[D,T]
 have A:Y0z x r:=by
  have:=Int.gcd_ediv_gcd_ediv_gcd (i:=b) (j:=d) (by have:0<(Int.gcd b d:Int):=J;exact Oo);have h:Y0z (b/g) (d/g):=this
  rwa [D,T]at h
 have M:Y0z a x:=nK h1.low ⟨g,by rw[w,Int.mul_comm]⟩;have R:Y0z c r:=nK h2.low ⟨g,by rw[p,Int.mul_comm]⟩;have W:Y0z u x:=by
  rw[O,Int.add_comm,Int.gcd_mul_right_add_left,Int.gcd_mul_right_left_of_gcd_eq_one M,Int.gcd_comm];exact A
 have Z:Y0z u r:=by
  rw[O,Int.gcd_mul_right_add_left,Int.gcd_mul_right_left_of_gcd_eq_one R];exact A
 obtain⟨B,m⟩:=Int.gcd_dvd_left u g;obtain⟨C,e⟩:=Int.gcd_dvd_right u g;have m:u=l*B:=m;have e:g=l*C:=e;have U:u/l=B:=by rw[m];exact Y6J _
 have P:d/l=C * r:=by rw[p,e,Int.mul_assoc];exact Y6J _
 have L:Y0z B C:=by
  have:=Int.gcd_ediv_gcd_ediv_gcd (i:=u) (j:=g) (by have:0<(Int.gcd u g:Int):=X;exact Oo);have h:Y0z (u/l) (g/l):=this;rw[U]at h
  rwa [show g/l=C from by rw[e];exact Y6J _]at h
 rw[U,D,P];have y:B ∣ u:=⟨l,by rw[m,Int.mul_comm]⟩;have S:0<x:=by
  have:=h1.pos;rw[w]at this;exact YbB Oo
 have I:0<r:=by
  have:=h2.pos;rw[p]at this;exact YbB Oo
 have N:0<C:=by
  have:=J;rw[e]at this;exact YbB Oo
 refine ET (Y02 (Int.mul_pos S (Int.mul_pos N I))) (Int.mul_pos h1.pos h2.pos) ?_
 ·exact qQ (jX W y) (qQ L (jX Z y))
 ·have α:a*d+c*b=g*(l*B):=by
   rw[<-m,O,w,p];rw[Int.mul_add,Int.mul_left_comm a,Int.mul_left_comm c]
  rw[α,w,p];generalize hG:g=G at *;rw[e];simp only[Int.mul_assoc,Int.mul_left_comm,Int.mul_comm]
def RZ{a b c d:Int}(h1:XF a b)(h2:XF c d) :
  let f:Int:=Int.gcd a d
  let s:Int:=Int.gcd c b
  lw (a*c) (b*d)=((a/f)*(c/s),(b/s)*(d/f)):=by
 intro f s;have O:0<f:=jW h2.pos;have hs:0<s:=jW h1.pos;obtain⟨p,u⟩:=YfF a;obtain⟨e,l⟩:=YbR a;obtain⟨w,r⟩:=Int.gcd_dvd_left c b;obtain⟨g,m⟩:=Int.gcd_dvd_right c b;have u:a=f*p:=u;have l:d=f*e:=l;have r:c=s*w:=r;have m:b=s*g:=m;have N:a/f=p:=by rw[u];exact Y6J _
 have I:d/f=e:=by rw[l];exact Y6J _
 have J:c/s=w:=by rw[r];exact Y6J _
 have G:b/s=g:=by rw[m];exact Y6J _
 have A:Y0z p e:=by
  have:=Int.gcd_ediv_gcd_ediv_gcd (i:=a) (j:=d) (by have:0<(Int.gcd a d:Int):=O;exact Oo);have h:Y0z (a/f) (d/f):=this
  rwa [N,I]at h
 have B:Y0z w g:=by
  have:=Int.gcd_ediv_gcd_ediv_gcd (i:=c) (j:=b) (by have:0<(Int.gcd c b:Int):=hs;exact Oo);have h:Y0z (c/s) (b/s):=this
  rwa [J,G]at h
 have y:Y0z p g:=jX (nK h1.low ⟨s,by rw[m,Int.mul_comm]⟩) ⟨f,by rw[u,Int.mul_comm]⟩;have C:Y0z w e:=jX (nK h2.low ⟨f,by rw[l,Int.mul_comm]⟩) ⟨s,by rw[r,Int.mul_comm]⟩;have D:0<g:=by
  have:=h1.pos;rw[m]at this;exact YbB Oo
 have x:0<e:=by
  have:=h2.pos;rw[l]at this;exact YbB Oo
 rw[N,G,J,I];refine ET (Y02 (Int.mul_pos D x)) (Int.mul_pos h1.pos h2.pos) ?_
 ·have L:Y0z p (g * e):=qQ y A;have M:Y0z w (g * e):=qQ B C;rw[Int.gcd_comm]at L M ⊢;exact qQ L M
 ·rw[u,m,r,l];simp only[Int.mul_assoc,Int.mul_left_comm,Int.mul_comm]
end Mf
namespace Mf
abbrev Fr:=Int × Int
abbrev _root_.Ak:=List Fr
abbrev _root_.Aj:=List Ak
def pL(x y:Fr):Fr:=lw (x.1*y.2+y.1*x.2) (x.2*y.2)
def jP(fs:Ak):Fr:=fs.foldl pL (0,1)
def dM(f:Fr):Prop:=XF f.1 f.2
def qC{α:Type}{P:Y18 Yn}(h0:P [])(hs:∀l a,P l->P (l++[a]))(l:Yn):P l:=by
 have:∀r:List α,P r.reverse:=by
  intro r
  induction r with
  | nil=>exact h0
  | cons a r ih=>rw[List.reverse_cons];exact hs _ _ ih
 have:=this l.reverse
 rwa [List.reverse_reverse]at this
def lA(l:Ak)(a:Fr):jP (l++[a])=pL (jP l) a:=by unfold jP;rw[List.foldl_append];rfl
def uF(l:Ak):(∀f∈l,Y0A)->dM (jP l):=by
 refine qC (P:=λl=>(∀f∈l,Y0A)->dM (jP l)) (λ_=>Ya5 Dd) (λl a d h=>?_) l;rw[lA];have c:=d λf g=>h f (cO _ g);have e:=h a (bY _ aG);exact Yg2 c.pos e.pos
def MR{n d:Int}(h:0<d):(lw n d).2<=d/\(lw n d).1.natAbs<=n.natAbs:=by
 obtain⟨e,c⟩:=aBh (n:=n) (d:=d);have g:=jW (n:=n) h;have p:=(YcF h).pos;generalize (lw n d).1=a at *;generalize (lw n d).2=b at *;generalize (Int.gcd n d:Int)=G at *;refine Y02 ?_
 ·rw[<-c];have:=Int.mul_le_mul_of_nonneg_left (show(1:Int)<=G by exact Oo) (Int.le_of_lt p);simpa using this
 ·rw[<-e,gF];exact Nat.le_mul_of_pos_right _ Oo
end Mf
namespace Mf
def UP{n d n' d':Int}(hd:0<d)(hd':0<d')(e:n*d'=n' * d):lw n d=lw n' d':=by
 have h:=jD (n:=n') hd';have c:=rN (n:=n') (d:=d');generalize lw n' d'=L at c h;refine ET (a:=L.1) (b:=L.2) h hd (Int.eq_of_mul_eq_mul_right (a:=d') Oo ?_)
 calc L.1*d*d'=(L.1*d')*d:=by ac_rfl
  _=n' * L.2*d:=by rw[c]
  _=(n' * d)*L.2:=by ac_rfl
  _=n*d' * L.2:=by rw[e]
  _=n*L.2*d':=by ac_rfl
def kH(f g:Fr):Fr:=lw (f.1*g.1) (f.2*g.2)
def iS{f g:Fr}(h:Y0A)(h':dM g):dM (kH f g):=Yg2 h.pos h'.pos
def aDs{a b c d:Int}(hb:0<b)(hd:0<d):kH (lw a b) (lw c d)=lw (a*c) (b*d):=by
 have e:=(jD (n:=a) hb).pos;have h:=(jD (n:=c) hd).pos;refine UP (Int.mul_pos e h) (Int.mul_pos hb hd) ?_;have i:=rN (n:=a) (d:=b);have g:=YfX c;generalize lw a b=L at *;generalize lw c d=M at *
 calc L.1*M.1*(b*d)=(L.1*b)*(M.1*d):=by ac_rfl
  _=(a*L.2)*(c*M.2):=by rw[i,g]
  _=a*c*(L.2*M.2):=by ac_rfl
def AD(f:Fr)(c:Nat):Fr:=(f.1^c,f.2^c)
theorem nF{f:Fr}(h:Y0A):∀c:Nat,dM (AD f c)
 | 0=>⟨by show 0<f.2^0;rw[Int.pow_zero];decide,by show Int.gcd (f.1^0) (f.2^0)=1;rw[Int.pow_zero,Int.pow_zero];decide⟩
 | c+1=>by
  have ih:=nF h c;have k:∀n:Nat,Int.gcd f.1 (f.2^n)=1:=λn=>by
   induction n with
   | zero=>rw[Int.pow_zero];exact Int.gcd_one_right _
   | succ n ih=>rw[Int.pow_succ];exact qQ ih h.low
  refine⟨?_,?_⟩
  ·show 0<f.2^(c+1);rw[Int.pow_succ];exact Int.mul_pos ih.pos h.pos
  ·show Int.gcd (f.1^(c+1)) (f.2^(c+1))=1;have a:∀n:Nat,Int.gcd (f.2^(c+1)) (f.1^n)=1:=λn=>by
    induction n with
    | zero=>rw[Int.pow_zero];exact Int.gcd_one_right _
    | succ n ih=>rw[show f.1^(n+1)=f.1^n*f.1 from Int.pow_succ ..];exact qQ ih (by rw[Int.gcd_comm];exact k (c+1))
   rw[Int.gcd_comm];exact a (c+1)
def vR(zs:Y6z):Fr:=zs.foldl (λp q=>(p.1*q.1.1^q.2,p.2*q.1.2^q.2)) (1,1)
def mW(zs:Y6z):Fr:=zs.foldl (λp q=>kH p (AD q.1 q.2)) (1,1)
def vQ(l:Y6z)(a:Fr × Nat):vR (l++[a])=((vR l).1*a.1.1^a.2,(vR l).2*a.1.2^a.2):=by unfold vR;rw[List.foldl_append];rfl
def rY(l:Y6z)(a:Fr × Nat):mW (l++[a])=kH (mW l) (AD a.1 a.2):=by unfold mW;rw[List.foldl_append];rfl
def yV(l:Y6z):(∀z∈l,dM z.1)->0<(vR l).2:=by
 induction l using qC with
 | h0=>intro _;decide
 | hs l a ih =>
  intro h;rw[vQ];exact Int.mul_pos (ih λf c=>h f (cO _ c)) (nF (h a (by simp)) a.2).pos
def LH(l:Y6z):(∀z∈l,dM z.1)->mW l=lw (vR l).1 (vR l).2:=by
 induction l using qC with
 | h0=>intro _;rfl
 | hs l a ih =>
  intro h;have d:∀f∈l,dM f.1:=λf g=>h f (cO _ g);have c:=nF (h a (by simp)) a.2;rw[rY,vQ,ih d];have e:AD a.1 a.2=lw (a.1.1^a.2) (a.1.2^a.2):=(ER c).symm;rw[e,aDs (yV l d) (show 0<a.1.2^a.2 from c.pos)]
def oV(l:Y6z)(h:∀z∈l,dM z.1):dM (mW l):=by rw[LH l h];exact jD (yV l h)
def wE{x:Int}{B:Nat}(h:x.natAbs<=2^B)(c:Nat):(x^c).natAbs<=2^(B*c):=by
 rw[Int.natAbs_pow,Nat.pow_mul];exact Nat.pow_le_pow_left h c
def XL{B:Nat}(l:Y6z):(∀z∈l,z.1.1.natAbs<=2^B/\z.1.2.natAbs<=2^B)->(vR l).1.natAbs<=2^(B*(l.map (·.2)).sum)/\(vR l).2.natAbs<=2^(B*(l.map (·.2)).sum):=by
 induction l using qC with
 | h0=>intro _;exact⟨Nat.one_le_two_pow,Nat.one_le_two_pow⟩
 | hs l a ih =>
  intro h;obtain⟨c,g⟩:=ih λf i=>h f (cO _ i);obtain⟨e,d⟩:=h a (by simp);rw[vQ,bN,List.sum_append,show([a].map (·.2)).sum=a.2 by simp,Nat.mul_add,Nat.pow_add];exact⟨by show((vR l).1*a.1.1^a.2).natAbs<=_;rw[gF];exact Nat.mul_le_mul c (wE e _),by show((vR l).2*a.1.2^a.2).natAbs<=_;rw[gF];exact Nat.mul_le_mul g (wE d _)⟩
def XM{B:Nat}(l:Y6z)(hl:∀z∈l,dM z.1)(h:∀z∈l,z.1.1.natAbs<=2^B/\z.1.2.natAbs<=2^B):(mW l).1.natAbs<=2^(B*(l.map (·.2)).sum)/\(mW l).2.natAbs<=2^(B*(l.map (·.2)).sum):=by
 obtain⟨c,g⟩:=XL l h;rw[LH l hl];have a:=yV l hl;obtain⟨e,d⟩:=MR (n:=(vR l).1) a;have:=(jD (n:=(vR l).1) a).pos;exact Y2h (aM d c)
end Mf
namespace Mf
def rv(f:Fr):Rat:=(f.1:Rat)/(f.2:Rat)
def KA{d:Int}(h:0<d):(0:Rat)<(d:Rat):=by exact_mod_cast h
def qU{d:Int}(h:0<d):(d:Rat)≠0:=by have:=KA h;grind
def AA{f:Fr}(h:0<f.2):rv f*(f.2:Rat)=(f.1:Rat):=by
 have:=qU h;unfold rv;grind
def LZ{n d:Int}(h:0<d):rv (lw n d)=(n:Rat)/(d:Rat):=by
 have e:=YfX n;have p:=(YcF h).pos;have c:=qU h;have g:=qU p;have i:((lw n d).1:Rat)*(d:Rat)=(n:Rat)*((lw n d).2:Rat):=by exact_mod_cast e
 unfold rv;generalize ((lw n d).1:Rat)=a at *;generalize ((lw n d).2:Rat)=b at *;grind
def wC{f g:Fr}(hf:0<f.2)(hg:0<g.2):rv (pL f g)=rv f+rv g:=by
 unfold pL;rw[LZ (Int.mul_pos hf hg)];have a:=qU hf;have c:=qU hg;unfold rv;rw[Rat.intCast_add,Rat.intCast_mul,Rat.intCast_mul,Rat.intCast_mul];grind
def jM{f g:Fr}(hf:0<f.2)(hg:0<g.2):rv (kH f g)=rv f*rv g:=by
 unfold kH;rw[LZ (Int.mul_pos hf hg)];have a:=qU hf;have c:=qU hg;unfold rv;rw[Rat.intCast_mul,Rat.intCast_mul];grind
def JK(f:Fr):rv (-f.1,f.2)=- rv f:=by
 unfold rv;rw[show(((-f.1,f.2):Fr).1:Rat)=-(f.1:Rat)by rw[<-Rat.intCast_neg]];grind
def kA{f g:Fr}(hf:Y0A)(hg:dM g)(e:rv f=rv g):f=g:=by
 have c:(f.1:Rat)*(g.2:Rat)=(g.1:Rat)*(f.2:Rat):=by
  have a:=AA hf.pos;have b:=AA hg.pos;rw[<-a,<-b,e];grind
 have q:=HE hf hg (by exact_mod_cast c);exact Prod.ext q.1 q.2
def TD{f g:Fr}(hf:0<f.2)(hg:0<g.2):f.1*g.2<g.1*f.2↔rv f<rv g:=by
 have c:=KA hf;have e:=KA hg;have a:=AA hf;have b:=AA hg;have p:(0:Rat)<(f.2:Rat)*(g.2:Rat):=Rat.mul_pos c e;have i:((f.1*g.2:Int):Rat)=rv f*((f.2:Rat)*(g.2:Rat)):=by rw[Rat.intCast_mul,<-a];grind
 have d:((g.1*f.2:Int):Rat)=rv g*((f.2:Rat)*(g.2:Rat)):=by rw[Rat.intCast_mul,<-b];grind
 rw[<-Rat.intCast_lt_intCast,i,d];constructor
 ·intro h;exact Rat.lt_of_mul_lt_mul_right h (Rat.le_of_lt p)
 ·intro h;exact Rat.mul_lt_mul_of_pos_right h p
def uY:rv (0,1)=0:=by unfold rv;grind
def zZ:rv (1,1)=1:=by unfold rv;grind
def sL(l:Y4g):Rat:=l.foldr (· + ·) 0
def uH:sL []=0:=rfl
def mQ(x:Rat)(l:Y4g):sL (x::l)=x+sL l:=rfl
theorem rC:∀(a b:Y4g),sL (a++b)=sL a+sL b
 | [],b=>by rw[uH,List.nil_append];grind
 | x::a,b=>by rw[List.cons_append,mQ,mQ,rC a b];grind
def wA(l:Ak):(∀f∈l,Y0A)->rv (jP l)=sL (l.map rv):=by
 induction l using qC with
 | h0=>intro _;exact uY
 | hs l a ih =>
  intro h;have c:∀f∈l,Y0A:=λf d=>h f (cO _ d);rw[lA,wC (uF l c).pos (h a (by simp)).pos,ih c,bN,rC,bC,List.map_nil,mQ,uH];grind
def Fn(N B:Nat)(f:Fr):Prop:=Y0A/\∃x:Int,rv f*(N:Rat)=(x:Rat)/\x.natAbs<=B*N
def Fn.low{N B:Nat}{f:Fr}(h:Y3p):Y0A:=h.1
def Fn.le{N B C:Nat}{f:Fr}(h:Y3p)(hB:B<=C):Fn N C f:=by
 obtain⟨l,x,a,c⟩:=h;exact⟨l,x,a,aM c (bS _ hB)⟩
def BK{f g:Fr}(h:Y0A)(h':dM g):dM (pL f g):=Yg2 h.pos h'.pos
def Fn.add{N B C:Nat}{f g:Fr}(h:Y3p)(h':Fn N C g):Fn N (B+C) (pL f g):=by
 obtain⟨l,x,c,e⟩:=h;obtain⟨a,y,d,i⟩:=h';refine⟨BK l a,x+y,?_,?_⟩
 ·rw[wC l.pos a.pos,Rat.intCast_add,<-c,<-d];grind
 ·rw[Nat.add_mul];exact Oo
def Fn.mul{N M B C:Nat}{f g:Fr}(h:Y3p)(h':Fn M C g):Fn (N*M) (B*C) (kH f g):=by
 obtain⟨l,x,c,e⟩:=h;obtain⟨a,y,d,i⟩:=h';refine⟨iS l a,x*y,?_,?_⟩
 ·rw[jM l.pos a.pos,Rat.intCast_mul,<-c,<-d,Rat.natCast_mul];grind
 ·rw[gF];have:=Nat.mul_le_mul e i;rw[Nat.mul_mul_mul_comm]at this;exact this
def Fn.neg{N B:Nat}{f:Fr}(h:Y3p):Fn N B (-f.1,f.2):=by
 obtain⟨l,x,a,c⟩:=h;refine⟨⟨l.pos,by show Y0z (-f.1) f.2;rw[Int.neg_gcd];exact l.low⟩,-x,?_,?_⟩
 ·rw[JK,Rat.intCast_neg,<-a];grind
 ·rw[Int.natAbs_neg];exact c
def Fn.up{N B:Nat}{f:Fr}(h:Y3p)(M:Nat):Fn (N*M) B f:=by
 obtain⟨l,x,a,c⟩:=h;refine⟨l,x*(M:Int),?_,?_⟩
 ·rw[Rat.intCast_mul,<-a,Rat.natCast_mul];have:((M:Int):Rat)=(M:Rat):=rfl;rw[this];grind
 ·rw[gF,<-Nat.mul_assoc];exact bS _ c
def Fn.dvd{N M B:Nat}{f:Fr}(h:Y3p)(d:N ∣ M):Fn M B f:=by
 obtain⟨e,rfl⟩:=d;exact h.up e
def rM(N:Nat):((N:Int):Rat)=(N:Rat):=rfl
def UQ:dM (0,1):=Ya5 Dd
def aAb:dM (1,1):=Ya5 Dd
def Fn.zero(N:Nat):Fn N 0 (0,1):=⟨UQ,0,by rw[uY];grind,by simp⟩
def Fn.one(N:Nat):Fn N 1 (1,1):=⟨aAb,N,by rw[zZ,rM];grind,by simp⟩
def Fn.eq{N B:Nat}{f:Fr}(h:Y3p)(hN:0<N):∃x:Int,f=lw x (N:Int)/\x.natAbs<=B*N:=by
 obtain⟨l,x,c,d⟩:=h;have a:(0:Int)<(N:Int):=Oo;refine⟨x,kA l (jD a) ?_,d⟩;rw[LZ a,<-c,rM];have:=qU a;rw[rM]at this;grind
def Fn.of{n d:Int}{B:Nat}(h:0<d)(hB:n.natAbs<=B*d.natAbs):Fn d.natAbs B (lw n d):=by
 refine⟨jD h,n,?_,hB⟩;have e:(d.natAbs:Int)=d:=Oo;rw[LZ h,<-rM,e];have:=qU h;grind
def Fn.num{N B:Nat}{f:Fr}(h:Y3p)(hN:0<N):f.1.natAbs<=B*N/\f.2.natAbs<=N:=by
 obtain⟨x,rfl,a⟩:=h.eq hN;have q:=MR (n:=x) (d:=(N:Int)) Oo;have p:=(jD (n:=x) (d:=(N:Int)) Oo).pos;exact Oo
def Fn.tot{N B:Nat}:∀(fs:Ak),(∀f∈fs,Y3p)->Fn N (fs.length*B) (jP fs):=by
 intro fs
 induction fs using qC with
 | h0=>intro _;exact(Fn.zero N).le (Y1z)
 | hs l a ih =>
  intro h;rw[lA,aW,List.length_singleton,Nat.add_mul,Nat.one_mul];exact(ih λf c=>h f (cO _ c)).add (h a (Ycv _ rfl))
end Mf
namespace Mf
def wI:Y4g->Rat
 | []=>0
 | [x]=>x
 | x::y::l=>if x<=wI (y::l) then x else wI (y::l)
theorem MP:∀{l:Y4g}{x:Rat},x∈l->wI l<=x
 | [],x,h=>by cases h
 | [y],x,h=>by
  rw[aN.mp h];exact Rat.le_refl
 | a::b::l,x,h=>by
  have ih:=λx h=>MP (l:=b::l) (x:=x) h;unfold wI;rcases aK.mp h with rfl | h
  ·split
   ·exact Rat.le_refl
   ·grind
  ·have:=ih x h;split <;> grind
theorem AR:∀{l:Y4g},l≠[]->wI l∈l
 | [],h=>absurd rfl h
 | [y],_=>aN.mpr rfl
 | a::b::l,_=>by
  have ih:=AR (l:=b::l) (by simp);unfold wI;split
  ·exact aG ..
  ·exact aQ _ ih
def aAa{l:Y4g}{m:Rat}(h:m∈l)(k:∀x∈l,m<=x):wI l=m:=by
 have a:=MP h;have c:=k _ (AR (l:=l) (λe=>by rw[e]at h;cases h));grind
def fG(n:Nat)(f:Y1b):Rat:=sL ((List.range n).map f)
def jG(f:Y1b):fG 0 f=0:=rfl
def fA(n:Nat)(f:Y1b):fG (n+1) f=fG n f+f n:=by
 unfold fG;rw[List.range_succ,bN,rC,bC,List.map_nil,mQ,uH];grind
def fL{n:Nat}{f g:Y1b}(h:∀i,i<n->f i=g i):fG n f=fG n g:=by
 induction n with
 | zero=>rfl
 | succ n ih=>rw[fA,fA,ih λi a=>h i Oo,h n Oo]
def SL(n:Nat)(f g:Y1b):Y8O n (f i+g i)=fG n f+fG n g:=by
 induction n with
 | zero=>rw[jG,jG,jG];grind
 | succ n ih=>rw[fA,fA,fA,ih];grind
def SK(n:Nat)(a:Rat)(f:Y1b):Y8O n (a*f i)=a*fG n f:=by
 induction n with
 | zero=>rw[jG,jG];grind
 | succ n ih=>rw[fA,fA,ih];grind
def BZ{n:Nat}{f g:Y1b}(h:∀i,i<n->f i<=g i):fG n f<=fG n g:=by
 induction n with
 | zero=>rw[jG,jG];exact Rat.le_refl
 | succ n ih =>
  have a:=ih λi c=>h i Oo;have d:=h n Oo;rw[fA,fA];grind
def uG(n:Nat):fG n (Y8F)=0:=by
 induction n with
 | zero=>rfl
 | succ n ih=>rw[fA,ih];grind
def YD{n:Nat}{f:Y1b}(h:∀i,i<n->0<=f i):0<=fG n f:=by
 have:=BZ (n:=n) (f:=Y8F) (g:=f) h
 rwa [uG]at this
def GH{n:Nat}(f:Y1b){w:Nat}(h:w<n):fG n f-f w=Y8O n (if i=w then 0 else f i):=by
 induction n with
 | zero=>exact Oo
 | succ n ih =>
  rw[fA,fA];by_cases e:w=n
  ·subst e;rw[Y1P,fL (g:=f) λi a=>Y9G];grind
  ·rw[YcC (e q.symm),<-ih Oo];grind
def cC(c:Ae)(i:Nat):Ae:=c.set i (c.getD i 0+1)
def sN(W:Nat)(d:Y1b):Y4g:=(List.range W).map λw=>fG W d-d w
def GP{W:Nat}{d:Y1b}{x:Rat}:x∈sN W d ↔ ∃w,w<W/\x=fG W d-d w:=by
 unfold sN;rw[aU];constructor
 ·rintro⟨w,h,rfl⟩;exact Y4O w (bX.mp h)
 ·rintro⟨w,h,rfl⟩;exact Y4O w (bX.mpr h)
def IW(W F:Nat)(q:Nat->Y1G)(mix ps cs:Y1b):Nat->Y1G
 | 0,c=>wI (sN W λv=>ps v*q v c)
 | n+1,c=>wI (sN W (λv=>ps v*q v c)++[cs c.sum*fG W (λv=>mix v*q v c)+fG F (λj=>IW W F q mix ps cs n (cC c j))])
section
variable{W F:Nat}{q:Nat->Y1G}{mix ps ps' cs:Y1b}
def OI(n:Nat)(c:Ae):IW W F q mix ps cs (n+1) c=wI (sN W (λv=>ps v*q v c)++[cs c.sum*Y8X W (mix v*q v c)+fG F (λj=>IW W F q mix ps cs n (cC c j))]):=rfl
def aBY(hW:0<W)(d:Y1b):sN W d≠[]:=λe=>by
 have:fG W d-d 0∈sN W d:=GP.mpr (Y4O 0 hW);rw[e]at this;cases this
end
end Mf
namespace Mf
theorem DZ:∀(l:Ae) (j v x:Nat),l[j]?=Y9->(l.set j v).sum+x=l.sum+v
 | [],j,v,x,h=>by simp at h
 | a::l,0,v,x,h=>by
  have:a=x:=by simpa using h
  subst this;simp only[List.set_cons_zero,List.sum_cons];exact Oo
 | a::l,j+1,v,x,h=>by
  have:=DZ l j v x (by simpa using h);simp only[List.set_cons_succ,List.sum_cons];exact Oo
def cta:Nat->Nat->Ab
 | 0,_=>[]
 | 1,m=>[[m]]
 | F+2,m=>(List.range (m+1)).flatMap λk=>(cta (F+1) (m-k)).map λc=>k::c
theorem iC:∀{F m:Nat}{c:Ae},c∈Y4J m->Y4E/\c.sum=m
 | 0,m,c,h=>by cases h
 | 1,m,c,h=>by
  have:c=[m]:=by simpa[cta]using h
  subst this;simp
 | F+2,m,c,h=>by
  obtain⟨k,a,h⟩:=List.mem_flatMap.mp h;obtain⟨d,hd,rfl⟩:=aU.mp h;have a:=bX.mp a;obtain⟨e,g⟩:=iC hd;refine⟨by simp[e],?_⟩;rw[List.sum_cons];exact Oo
end Mf
namespace Mf
def Qn(N B:Nat)(x:Rat):Prop:=∃z:Int,x*(N:Rat)=(z:Rat)/\z.natAbs<=B*N
def Fn.q{N B:Nat}{f:Fr}(h:Y3p):Qn N B (rv f):=h.2
theorem Qn.f{N B:Nat}{f:Fr}(l:Y0A)(h:Qn N B (rv f)):Y3p:=⟨l,h⟩
def jS(x:Rat):Fr:=(x.num,(x.den:Int))
def cI(x:Rat):dM (jS x):=by
 refine Y02 ?_
 ·show(0:Int)<(x.den:Int);have:=x.den_pos;exact Oo
 ·show Y0z x.num (x.den:Int);rw[Int.gcd_eq_natAbs_gcd_natAbs,Int.natAbs_natCast];exact x.reduced
def fD(x:Rat):rv (jS x)=x:=by
 unfold rv jS;show(x.num:Rat)/((x.den:Int):Rat)=x;rw[<-Rat.divInt_eq_div,Rat.num_divInt_den]
def aDK{f:Fr}(h:Y0A):jS (rv f)=f:=kA (Y09) h (fD _)
def Qn.fq{N B:Nat}{x:Rat}(h:Qn N B x):Fn N B (jS x):=⟨cI x,by rw[fD];exact h⟩
def Qn.le{N B C:Nat}{x:Rat}(h:Qn N B x)(hB:B<=C):Qn N C x:=by
 obtain⟨z,a,c⟩:=h;exact⟨z,a,aM c (bS _ hB)⟩
def Qn.add{N B C:Nat}{x y:Rat}(h:Qn N B x)(h':Qn N C y):Qn N (B+C) (x+y):=by
 obtain⟨z,a,d⟩:=h;obtain⟨u,c,e⟩:=h';refine Y3l (z+u)
 ·rw[Rat.intCast_add,<-a,<-c];grind
 ·rw[Nat.add_mul];exact Oo
def Qn.neg{N B:Nat}{x:Rat}(h:Qn N B x):Qn N B (-x):=by
 obtain⟨z,a,c⟩:=h;refine⟨-z,?_,by rw[Int.natAbs_neg];exact c⟩;rw[Rat.intCast_neg,<-a];grind
def Qn.sub{N B C:Nat}{x y:Rat}(h:Qn N B x)(h':Qn N C y):Qn N (B+C) (x-y):=by
 have:=h.add h'.neg
 rwa [<-Rat.sub_eq_add_neg]at this
def Qn.mul{N M B C:Nat}{x y:Rat}(h:Qn N B x)(h':Qn M C y):Qn (N*M) (B*C) (x*y):=by
 obtain⟨z,a,d⟩:=h;obtain⟨u,c,e⟩:=h';refine Y3l (z*u)
 ·rw[Rat.intCast_mul,<-a,<-c,Rat.natCast_mul];grind
 ·rw[gF];have:=Nat.mul_le_mul d e;rw[Nat.mul_mul_mul_comm]at this;exact this
def Qn.dvd{N M B:Nat}{x:Rat}(h:Qn N B x)(d:N ∣ M):Qn M B x:=by
 obtain⟨e,rfl⟩:=d;obtain⟨z,a,c⟩:=h;refine Y3l (z*(e:Int))
 ·rw[Rat.intCast_mul,<-a,Rat.natCast_mul,rM];grind
 ·rw[gF,<-Nat.mul_assoc];exact bS _ c
def Qn.zero(N B:Nat):Qn N B 0:=⟨0,by grind,by simp⟩
theorem Qn.sumR{N B:Nat}{f:Y1b}:∀{n:Nat},(∀i,i<n->Qn N B (f i))->Qn N (n*B) (fG n f)
 | 0,_=>by rw[jG];exact Qn.zero _ _
 | n+1,h=>by
  rw[fA,Nat.add_mul,Nat.one_mul];exact(Qn.sumR λi hi=>h i Oo).add (h n Oo)
def Qn.min{N B:Nat}{l:Y4g}(h:∀x∈l,Qn N B x)(ne:l≠[]):Qn N B (wI l):=h _ (AR ne)
def TB{f:Fr}(h:Y0A)(n:Nat):rv (AD f n)=rv f^n:=by
 have c:=qU h.pos
 induction n with
 | zero=>unfold AD rv;grind
 | succ n ih =>
  have e:rv (AD f (n+1))=rv (AD f n)*rv f:=by
   have a:=qU (nF h n).pos;unfold AD rv at *;simp only[Int.pow_succ,Rat.intCast_mul]at *;generalize ((f.1^n:Int):Rat)=u at *;generalize ((f.2^n:Int):Rat)=v at *;grind
  rw[e,ih,Rat.pow_succ]
theorem Qn.pow{N:Nat}{x:Rat}(h:Qn N 1 x):∀n:Nat,Qn (N^n) 1 (x^n)
 | 0=>⟨1,by rw[Rat.pow_zero,Nat.pow_zero];grind,by simp⟩
 | n+1=>by
  rw[Rat.pow_succ,Nat.pow_succ];exact(Qn.pow h n).mul h
def aBJ{N:Nat}(l:Y6z):(∀z∈l,Fn N 1 z.1)->Qn (N^(l.map (·.2)).sum) 1 (rv (mW l)):=by
 induction l using qC with
 | h0=>intro _;exact⟨1,by show rv (1,1)*_=_;rw[zZ];simp,by simp⟩
 | hs l a ih =>
  intro h;have e:∀z∈l,Fn N 1 z.1:=λz c=>h z (cO _ c);have d:=h a (by simp);rw[rY,jM (oV l λz c=>(e z c).low).pos (nF d.low a.2).pos,TB d.low,bN,List.sum_append,Nat.pow_add];have:=(ih e).mul (d.q.pow a.2);simpa using this
def OE{α:Type}(l:Yn)(m:Ae):((l.zip m).map (·.2)).sum<=m.sum:=by
 induction l generalizing m with
 | nil=>simp
 | cons a l ih =>
  cases m with
  | nil=>simp
  | cons b m =>
   have:=ih m;simp only[List.zip_cons_cons,bC,List.sum_cons];exact Oo
def wq(fs:Ak)(c:Ae):Rat:=rv (mW (fs.zip c))
def RF{N M:Nat}{fs:Ak}{c:Ae}(h:∀f∈fs,Fn N 1 f)(hc:Y5c M):Qn (N^M) 1 (wq fs c):=by
 have d:=aBJ (fs.zip c) (λz e=>h z.1 (List.of_mem_zip (a:=z.1) (b:=z.2) e).1);have g:=OE fs c;exact d.dvd (YfQ Oo)
@[irreducible] def WB:Nat:=2^680
def aAN:1000000000000000000000<=WB:=by unfold WB;exact Ya0 (show 1000000000000000000000<=2^70 by decide)
def aHG:4*WB<=2^690:=by unfold WB;exact Ya0 (Nat.le_of_eq (show 4*2^680=2^682 by rw[show(4:Nat)=2^2 from rfl,<-Nat.pow_add]))
structure kC(F W M:Nat)(ss:Aj)(mix ps cs:Ak)(Ns Nm Np Nc B:Nat):Prop where
 f1:1<=F
 f4:F<=4
 w1:1<=W
 w4:W<=4
 m5:M<=5
 sl:ss.length=W
 ml:mix.length=W
 pl:Y9N W
 cl:Y9O M
 sh:∀s∈ss,s.length=F/\∀f∈s,Fn Ns 1 f
 mx:∀f∈mix,Fn Nm 1 f
 pr:∀f∈ps,Fn Np B f
 co:∀f∈cs,Fn Nc B f
 pos:0<Np*Nc*Nm*Ns^M
 sz:Np*Nc*Nm*Ns^M<2^3000
 b:2097152*B<=WB
def qW(ss:Aj)(v:Nat)(c:Ae):Rat:=wq (ss.getD v []) c
def fO(ps:Ak)(v:Nat):Rat:=rv (ps.getD v (0,1))
def wor(F W M:Nat)(ss:Aj)(mix ps cs:Ak)(c:Ae):Rat:=IW W F (qW ss) (Y8Y) (fO ps) (fO cs) (Y53) c
def iF{α:Type}{l:Yn}{j:Nat}{a:α}(h:j<l.length):l.getD j a∈l:=by
 rw[bI,aD h];exact List.getElem_mem h
section
variable{F W M:Nat}{ss:Aj}{mix ps cs:Ak}{Ns Nm Np Nc B:Nat}
def kC.qn(I:kC F W M ss mix ps cs Ns Nm Np Nc B){v:Nat}(hv:v<W){c:Ae}(hc:Y5c M):Qn (Ns^M) 1 (qW ss v c):=RF (I.sh _ (iF (by rw[I.sl];exact hv))).2 hc
def kC.due(I:kC F W M ss mix ps cs Ns Nm Np Nc B){v:Nat}(hv:v<W){c:Ae}(hc:Y5c M):Qn (Np*Nc*Nm*Ns^M) B (fO ps v*qW ss v c):=by
 have h:=(I.pr _ (iF (a:=(0,1)) (by rw[I.pl];exact hv))).q.mul (I.qn hv hc);rw[Nat.mul_one]at h;exact h.dvd ⟨Nc*Nm,by ac_rfl⟩
def kC.met(I:kC F W M ss mix ps cs Ns Nm Np Nc B){v:Nat}(hv:v<W){c:Ae}(hc:Y5c M):Qn (Nm*Ns^M) 1 (fO mix v*qW ss v c):=by
 have h:=(I.mx _ (iF (a:=(0,1)) (by rw[I.ml];exact hv))).q.mul (I.qn hv hc)
 rwa [Nat.mul_one]at h
def kC.paid(I:kC F W M ss mix ps cs Ns Nm Np Nc B){c:Ae}(hc:Y43):Qn (Np*Nc*Nm*Ns^M) (4*B) (fO cs c.sum*Y8X W (fO mix v*qW ss v c)):=by
 have d:=(I.co _ (iF (a:=(0,1)) (show c.sum<cs.length by rw[I.cl];exact hc))).q;have h:=Qn.sumR (n:=W) λv g=>I.met g (Nat.le_of_lt hc);have e:=d.mul h;have i:B*(W*1)<=4*B:=by
  have:=Nat.mul_le_mul_left B I.w4;rw[Nat.mul_one];exact Oo
 exact(e.le i).dvd ⟨Np,by ac_rfl⟩
def iT{c:Ae}{j:Nat}(h:j<c.length):(cC c j).sum=c.sum+1:=by
 unfold cC;have a:c[j]?=some (c.getD j 0):=by rw[bI,aD h];rfl
 have:=DZ c j (c.getD j 0+1) _ a;exact Oo
def pK(c:Ae)(j:Nat):(cC c j).length=c.length:=by unfold cC;rw[List.length_set]
def kC.says(I:kC F W M ss mix ps cs Ns Nm Np Nc B){c:Ae}(hc:Y5c M):∀x∈sN W (λv=>fO ps v*qW ss v c),Qn (Np*Nc*Nm*Ns^M) (5*B) x:=by
 intro x g;obtain⟨w,d,rfl⟩:=GP.mp g;have a:=Qn.sumR (n:=W) λv e=>I.due e hc;have h:=a.sub (I.due d hc);refine h.le ?_;have:=bS B I.w4;exact Oo
theorem kC.worn(I:kC F W M ss mix ps cs Ns Nm Np Nc B):∀(n:Nat) (c:Ae),Y4E->c.sum+n=M->Qn (Np*Nc*Nm*Ns^M) (8^(n+1)*B) (IW W F (qW ss) (Y8Y) (fO ps) (fO cs) n c)
 | 0,c,hl,hn=>Qn.min (λx hx=>(I.says Oo x hx).le Oo) (aBY I.w1 _)
 | n+1,c,hl,hn=>by
  rw[OI];have hp:8^(n+1+1)=8*8^(n+1):=by rw[Nat.pow_succ];exact Oo
  have a:1<=8^(n+1):=Nat.one_le_pow _ _ Dd;have l:B<=8^(n+1)*B:=Nat.le_mul_of_pos_left _ a;have h:8^(n+1+1)*B=8*(8^(n+1)*B):=by rw[hp,Nat.mul_assoc]
  refine Qn.min (λx hx=>?_) (by simp);rcases bQ.mp hx with hx | hx
  ·exact(I.says Oo x hx).le Oo
  ·rw[aN.mp hx];have e:=I.paid (c:=c) Oo;have d:=Qn.sumR (n:=F) λj g=>I.worn n (cC c j) (by rw[pK];exact hl) (by rw[iT Oo];exact Oo);refine(e.add d).le ?_;have i:F*(8^(n+1)*B)<=4*(8^(n+1)*B):=bS _ I.f4;exact Oo
end
def rise(F M:Nat):Ab:=(List.range (M+1)).flatMap (cta F)
theorem yG:∀{F m:Nat}{c:Ae},1<=F->Y4E->c.sum=m->c∈Y4J m
 | 0,m,c,h,_,_=>Oo
 | 1,m,c,_,hl,hs=>by
  obtain⟨x,rfl⟩:∃x,c=[x]:=by
   match c,hl with
   | [x],_=>exact⟨x,rfl⟩
  have:x=m:=by simpa using hs
  subst this;simp[cta]
 | F+2,m,c,_,hl,hs=>by
  cases c with
  | nil=>simp at hl
  | cons x c =>
   rw[List.sum_cons]at hs;unfold cta;refine List.mem_flatMap.mpr ⟨x,bX.mpr Oo,aU.mpr ⟨c,yG Oo (by simpa using hl) Oo,rfl⟩⟩
def jC{F M:Nat}{c:Ae}(hF:1<=F):c∈Y1h↔Y4E/\Y5c M:=by
 unfold rise;rw[List.mem_flatMap];constructor
 ·rintro⟨m,g,d⟩;have:=bX.mp g;obtain⟨a,e⟩:=iC d;exact Y2h a
 ·rintro⟨a,e⟩;exact⟨c.sum,bX.mpr Oo,yG hF a rfl⟩
theorem xA(F:Nat):∀M:Nat,(rise F M).Pairwise λa b=>a.sum<=b.sum
 | 0=>by
  unfold rise;rw[List.range_succ,List.range_zero,List.nil_append,List.flatMap_singleton];refine List.pairwise_iff_forall_sublist.mpr λ{a b} h=>?_;have ha:a∈cta F 0:=h.subset (by simp);have:=(iC ha).2;exact Oo
 | M+1=>by
  have e:=xA F M;unfold rise at *;rw[List.range_succ,List.flatMap_append,List.flatMap_singleton];refine List.pairwise_append.mpr ⟨e,?_,λa ha b c=>?_⟩
  ·refine List.pairwise_iff_forall_sublist.mpr λ{a b} h=>?_;have ha:a∈cta F (M+1):=h.subset (by simp);have c:b∈cta F (M+1):=h.subset (by simp);have d:=(iC ha).2;have g:=(iC c).2;exact Oo
  ·obtain⟨m,i,ha⟩:=List.mem_flatMap.mp ha;have:=bX.mp i;have d:=(iC ha).2;have g:=(iC c).2;exact Oo
def GT{F M k:Nat}{c d:Ae}(h:(Y1h)[k]?=Y0c)(hd:d∈Y1h)(hs:c.sum < d.sum):d∈(rise F M).drop (k+1):=by
 obtain⟨i,j⟩:=iO.mp hd;have u:k<i:=by
  refine dP Ybk;have m:=(aT.mp h);have e:=(aT.mp j);obtain⟨r,l⟩:=m;obtain⟨p,g⟩:=e;rcases Nat.lt_or_eq_of_le (Nat.le_of_not_lt q)with a | a
  ·have:=(List.pairwise_iff_getElem.mp (xA F M)) i k p r a;rw[l,g]at this;exact Oo
  ·subst a;rw[l]at g;subst g;exact Oo
 refine iO.mpr (Y02 (i-(k+1)));rw[List.getElem?_drop,show k+1+(i-(k+1))=i by exact Oo];exact j
end Mf
namespace Mf
theorem wY(d:Y1b)(s:Nat):∀W:Nat,sL (((List.range W).filter λi=>i != s).map d)=Y8O W (if i=s then 0 else d i)
 | 0=>rfl
 | W+1=>by
  rw[List.range_succ,List.filter_append,bN,rC,wY d s W,fA];by_cases e:W=s
  ·subst e;rw[if_pos rfl,show List.filter (λi=>i != W) [W]=[]by simp]
   rfl
  ·rw[if_neg e,show List.filter (λi=>i != s) [W]=[W]by simp[e]];rw[bC,List.map_nil,mQ,uH];grind
def SM(d:Y1b){s W:Nat}(h:s<W):sL (((List.range W).filter λi=>i != s).map d)=fG W d-d s:=by rw[wY,GH d h]
theorem vG:∀F:Nat,1<=F->Y4J 0=[Y0e]
 | 1,_=>rfl
 | F+2,_=>by
  unfold cta;rw[List.range_succ,List.range_zero,List.nil_append,List.flatMap_singleton,Nat.sub_zero,vG (F+1) Oo]
  rfl
def OZ(F M:Nat):Y3E (M+1)=Y1h++Y4J (M+1):=by
 unfold rise;rw[List.range_succ,List.flatMap_append,List.flatMap_singleton]
def OY(F:Nat):Y3E 0=Y4J 0:=by
 unfold rise;rw[List.range_succ,List.range_zero,List.nil_append,List.flatMap_singleton]
def vH{F m:Nat}(hF:1<=F){d:Ae}:d∈Y4J (m+1) ↔ ∃c∈cta F m,∃j,j<F/\d=cC c j:=by
 constructor
 ·intro h;obtain⟨g,A⟩:=iC h;obtain⟨j,a,B⟩:∃j,j<d.length/\0<Y8z j:=by
   refine dP Ybk;have z:d=List.replicate d.length 0:=by
    refine List.eq_replicate_iff.mpr (Y0l (λx w=>?_));obtain⟨j,a⟩:=iO.mp w;have r:=(aT.mp a).1;have:Y8z j=x:=by rw[bI,a];rfl
    refine dP λu=>q ⟨j,r,Oo⟩
   have:d.sum=0:=by rw[z];simp
   exact Oo
  have p:d[j]?=some (Y8z j):=by rw[bI,aD a];rfl
  have C:=DZ d j (Y8z j-1) _ p;refine⟨d.set j (Y8z j-1),yG hF (by rw[List.length_set];exact g) Oo,j,Oo,?_⟩;unfold cC;rw[bI (l:=d.set j _),List.getElem?_set_self a,List.set_set];show d=d.set j (Y8z j-1+1);rw[show d.getD j 0-1+1=d.getD j 0 by exact Oo];refine(Yf9 ?_);rw[List.getElem?_set];by_cases e:j=i
  ·subst e;rw[Y1P,if_pos a];exact p
  ·rw[Y6j]
 ·rintro⟨c,y,j,a,rfl⟩;obtain⟨g,A⟩:=iC y;exact yG hF (by rw[pK];exact g) (by rw[iT Oo];exact Oo)
def yE:∀F,F<=4->∀M,M<=5->(Y1h).Nodup:=Kk
def yQ(f:Fr):Prop:=Y0A/\0<=f.1/\f.1<=999/\f.2<=999
def dens(l:Ak):Nat:=l.foldr (λf n=>f.2.natAbs*n) 1
theorem rS:∀{l:Ak},(∀f∈l,yQ f)->0<Y8Z
 | [],_=>Nat.one_pos
 | f::l,h=>gE (by have:=(h f (aG ..)).1.pos;exact Oo) (rS λg hg=>h g (aQ _ hg))
theorem yI:∀{l:Ak},(∀f∈l,yQ f)->Y8Z<=999^l.length
 | [],_=>aO _
 | f::l,h=>by
  have h1:=yI λg e=>h g (aQ f e);obtain⟨a,b,c,d⟩:=h f (aG ..);have:=a.pos;rw[bM,Nat.pow_succ,Nat.mul_comm];exact Nat.mul_le_mul (show f.2.natAbs<=999 by exact Oo) h1
theorem HR:∀{l:Ak}{f:Fr},f∈l->f.2.natAbs ∣ Y8Z
 | g::l,f,h=>by
  rcases aK.mp h with rfl | h
  ·exact Nat.dvd_mul_right _ _
  ·exact Nat.dvd_trans (HR h) (Nat.dvd_mul_left _ _)
def yQ.fn{f:Fr}(h:yQ f):Fn f.2.natAbs 999 f:=by
 obtain⟨a,b,c,d⟩:=h;have p:=a.pos;have:=Fn.of (n:=f.1) (d:=f.2) (B:=999) p (by
  have:1<=f.2.natAbs:=Oo;have:=Nat.mul_le_mul_left 999 this;exact Oo)
 rwa [ER a]at this
def yJ{l:Ak}(h:∀f∈l,yQ f):∀f∈l,Fn Y8Z 999 f:=λf a=>(h f a).fn.dvd (HR a)
def vD{l:Ak}(h:∀f∈l,yQ f)(hl:l.length<=5):Yay Y8Z:=by
 have a:=yI h;have c:999^l.length<=999^5:=Y2w hl;exact Oo
end Mf
namespace Mf
abbrev eJ:=List Nat × Ak
def s0(e:eJ):Rat:=fO e.2 0
def rQ(F:Nat)(c d:Ae):Rat:=fG F λf=>if cC c f=d then 1 else 0
def cE(F:Nat)(es:Y0D):Y1G:=es.foldl (λg e=>λd=>g d+g e.1*Yu*rQ F e.1 d) (λd=>if d=Y0e then 1 else 0)
def sG(F:Nat)(d:Ae):cE F [] d=if d=Y0e then 1 else 0:=rfl
def lI(F:Nat)(l:Y0D)(e:eJ)(d:Ae):cE F (l++[e]) d=cE F l d+cE F l e.1*Yu*rQ F e.1 d:=by unfold cE;rw[List.foldl_append];rfl
def iR{α:Type}(l:Yn)(f:Y4s):Rat:=sL (l.map f)
def lW{α:Type}(f:Y4s):iR [] f=0:=rfl
def eV{α:Type}(a:α)(l:Yn)(f:Y4s):iR (a::l) f=f a+iR l f:=rfl
def GI{α:Type}(a b:Yn)(f:Y4s):iR (a++b) f=iR a f+iR b f:=by unfold iR;rw[bN,rC]
def OQ{α:Type}(l:Yn)(a:α)(f:Y4s):iR (l++[a]) f=iR l f+f a:=by rw[GI,eV,lW];grind
def mY{α:Type}{l:Yn}{f g:Y4s}(h:∀a∈l,f a=g a):iR l f=iR l g:=by unfold iR;rw[dD h]
def SO{α:Type}(l:Yn)(f g:Y4s):iR l (λa=>f a+g a)=iR l f+iR l g:=by
 induction l with
 | nil=>rw[lW,lW,lW];grind
 | cons a l ih=>rw[eV,eV,eV,ih];grind
def SN{α:Type}(l:Yn)(x:Rat)(f:Y4s):iR l (λa=>x*f a)=x*iR l f:=by
 induction l with
 | nil=>rw[lW,lW];grind
 | cons a l ih=>rw[eV,eV,ih];grind
def CA{α:Type}(l:Yn):iR l (Y8F)=0:=by
 induction l with
 | nil=>rfl
 | cons a l ih=>rw[eV,ih];grind
def OR{α:Type}{l:Yn}{f g:Y4s}(h:∀a∈l,f a<=g a):iR l f<=iR l g:=by
 induction l with
 | nil=>exact Rat.le_refl
 | cons a l ih =>
  have d:=h a (aG ..);have e:=ih λx c=>h x (aQ _ c);rw[eV,eV];grind
def xS{α:Type}{l:Yn}{f:Y4s}(h:∀a∈l,0<=f a):0<=iR l f:=by
 have:=OR (l:=l) (f:=Y8F) (g:=f) h
 rwa [CA]at this
def OP{α:Type}(l:Yn)(n:Nat)(f:α->Y1b):iR l (λa=>fG n (f a))=Y8O n (iR l λa=>f a i):=by
 induction l with
 | nil=>show 0=fG n (Y8F);rw[uG]
 | cons a l ih =>
  rw[eV,ih,<-SL];exact fL λi _=>rfl
def vV{es:Y0D}(nd:(es.map (·.1)).Nodup){b:Ae}(hb:Y2p (es.map (·.1)))(Φ:Y1G):iR es (λx=>(if b=x.1 then 1 else 0)*Φ x.1)=Φ b:=by
 induction es with
 | nil=>cases hb
 | cons a es ih =>
  rw[bC,List.nodup_cons]at nd;rw[eV];by_cases e:b=a.1
  ·rw[Y9X,e,mY (g:=Y8F) λx c=>?_,CA]
   ·grind
   ·rw[YcC (nd.1 (by rw[q];exact Y76 x c))];grind
  ·rw[Y6j,ih nd.2 (by rw[bC]at hb;exact(aK.mp hb).resolve_left e)];grind
structure IP(F:Nat)(es:Y0D):Prop where
 root:∃e r,es=e::r/\e.1=Y0e
 len:∀e∈es,e.1.length=F
 nd:(es.map (·.1)).Nodup
 srt:es.Pairwise λa b=>a.1.sum<=b.1.sum
 fwd:∀e∈es,Yu≠0->∀f,f<F->cC e.1 f∈es.map (·.1)
 bwd:∀d∈es.map (·.1),d≠List.replicate F 0->∃e∈es,s0 e≠0/\∃f,f<F/\cC e.1 f=d
 nn:∀e∈es,0<=Yu
section
variable{F:Nat}{es:Y0D}
def HI{c d:Ae}(hc:Y4E)(h:d.sum≠c.sum+1):rQ F c d=0:=by
 unfold rQ;rw[fL (g:=Y8F) λf a=>YcC (h ?_),uG];rw[<-q,iT Oo]
theorem IP.at(R:IP F es){i:Nat}{e:eJ}(h:es[i]?=Y3S):Y4W F i e.1=Y0b e.1:=by
 have c:∀k,i+k<=es.length->Y4W F (i+k) e.1=Y4W F i e.1:=by
  intro k
  induction k with
  | zero=>intro _;rfl
  | succ k ih =>
   intro p;obtain⟨x,a⟩:∃x,es[i+k]?=Y9:=Y3U;have j:es.take (i+k+1)=es.take (i+k)++[x]:=by rw[iX,a];rfl
   rw[<-Nat.add_assoc,j,lI,ih Oo,HI (R.len x (aF a)) ?_]
   ·grind
   ·obtain⟨l,g⟩:=aT.mp h;obtain⟨m,d⟩:=aT.mp a;have:e.1.sum<=x.1.sum:=by
     by_cases q:k=0
     ·subst q;have:e=x:=by rw[<-g,<-d];rfl
      rw[this];exact Yk
     ·have:=(List.pairwise_iff_getElem.mp R.srt) i (i+k) l m Oo
      rwa [g,d]at this
    exact Oo
 have r:=(aT.mp h).1;have:=c (es.length-i) Oo;rw[show i+(es.length-i)=es.length by exact Oo,cZ]at this;exact this.symm
def IP.cons(R:IP F es)(Φ:Y1G):∀n,n<=es.length->iR es (λx=>Y4W F n x.1*Φ x.1)=Φ (Y0e)+iR (es.take n) λe=>Y0b e.1*Yu*fG F λf=>Φ (cC e.1 f):=by
 intro n
 induction n with
 | zero =>
  intro _;rw[List.take_zero,lW];obtain⟨e,r,a,c⟩:=R.root;have:=vV R.nd (b:=Y0e) (by rw[a,<-c];exact aG ..) Φ;rw[mY (g:=λx=>(if Y0e=x.1 then 1 else 0)*Φ x.1) λx _=>?_,this]
  ·grind
  ·rw[sG];by_cases q:x.1=Y0e
   ·rw[Y6h,if_pos q.symm]
   ·rw[Y3f,if_neg λz=>q z.symm]
 | succ n ih =>
  intro l;obtain⟨e,a⟩:∃x,es[n]?=Y9:=Y3U;have d:es.take (n+1)=es.take n++[e]:=by rw[iX,a];rfl
  have j:=aF a;rw[d,OQ,<-Rat.add_assoc,<-ih Oo];rw[mY (g:=λx=>Y4W F n x.1*Φ x.1+Y0b e.1*Yu*(rQ F e.1 x.1*Φ x.1)) λx _=>by rw[lI,R.at a];grind];rw[SO,SN];by_cases z:Yu=0
  ·rw[z];grind
  ·congr 2;have:(λx:eJ=>rQ F e.1 x.1*Φ x.1)=λx=>fG F λf=>(if cC e.1 f=x.1 then 1 else 0)*Φ x.1:=by
    funext x
    unfold rQ;rw[Rat.mul_comm,<-SK];exact fL λi _=>Rat.mul_comm _ _
   rw[this,OP];exact fL λf h=>vV R.nd (R.fwd e j z f h) Φ
def IP.all(R:IP F es)(Φ:Y1G):iR es (λx=>Y0b x.1*Φ x.1)=Φ (Y0e)+iR es λe=>Y0b e.1*Yu*fG F λf=>Φ (cC e.1 f):=by
 have:=R.cons Φ es.length (Yk)
 rwa [cZ]at this
def VB(F:Nat)(c d:Ae):0<=rQ F c d:=YD λf _=>by split <;> grind
def IP.fnn(R:IP F es):∀n,n<=es.length->∀d,0<=Y4W F n d:=by
 intro n
 induction n with
 | zero=>intro _ d;rw[List.take_zero,sG];split <;> grind
 | succ n ih =>
  intro j d;obtain⟨e,a⟩:∃x,es[n]?=Y9:=Y3U;have c:es.take (n+1)=es.take n++[e]:=by rw[iX,a];rfl
  rw[c,lI];have h:=ih Oo d;have g:=ih Oo e.1;have i:=Rat.mul_nonneg (Rat.mul_nonneg g (R.nn e (aF a))) (VB F e.1 d);grind
def IP.nnf(R:IP F es)(d:Ae):0<=Y0b d:=by
 have:=R.fnn es.length (Yk) d
 rwa [cZ]at this
def IP.pos(R:IP F es):∀(k:Nat) (d:Ae),d∈es.map (·.1)->d.sum<=k->0<Y0b d:=by
 have m:∀d∈es.map (·.1),Y0b d=(if d=Y0e then 1 else 0)+iR es λe=>Y0b e.1*Yu*rQ F e.1 d:=λd hd=>by
  have h:=R.all λx=>if d=x then 1 else 0
  have B:=vV R.nd hd (cE F es);have J:iR es (λx=>Y0b x.1*(if d=x.1 then 1 else 0))=Y0b d:=by rw[<-B];exact mY λx _=>Rat.mul_comm _ _
  rw[<-J,h];congr 1;exact mY λe _=>by
   congr 1;unfold rQ;exact fL λf _=>by
    by_cases q:d=cC e.1 f
    ·rw[Y6h,if_pos q.symm]
    ·rw[Y3f,if_neg λz=>q z.symm]
 have r:∀d,∀e∈es,0<=Y0b e.1*Yu*rQ F e.1 d:=λd e a=>Rat.mul_nonneg (Rat.mul_nonneg (R.nnf _) (R.nn e a)) (VB F e.1 d);intro k
 induction k with
 | zero =>
  intro d hd hs;have p:d=Y0e:=by
   refine dP Ybk;obtain⟨e,a,_,f,u,rfl⟩:=R.bwd d hd q;rw[iT (by rw[R.len e a];exact u)]at hs;exact Oo
  rw[m d hd,if_pos p];have:=xS (r d);grind
 | succ k ih =>
  intro d hd hs;by_cases p:d=Y0e
  ·rw[m d hd,if_pos p];have:=xS (r d);grind
  ·obtain⟨e,a,M,f,u,rfl⟩:=R.bwd d hd p;have bs:=iT (c:=e.1) (j:=f) (by rw[R.len e a];exact u);have C:=ih e.1 (Y76 e a) Oo;have w:0<Yu:=by have:=R.nn e a;grind
   have N:1<=rQ F e.1 (cC e.1 f):=by
    unfold rQ;have B:=BZ (n:=F) (f:=λi=>if i=f then 1 else 0) (g:=λi=>if cC e.1 i=cC e.1 f then 1 else 0) λi _=>by
     by_cases q:i=f
     ·subst q;rw[Y1P,Y1P];exact Rat.le_refl
     ·rw[Y3f];split <;> grind
    have G:=GH (n:=F) (λi=>if i=f then(1:Rat) else 0) u;have I:Y8O F (if i=f then 0 else if i=f then(1:Rat) else 0)=0:=by
     rw[fL (g:=Y8F) λi _=>?_,uG];by_cases q:i=f
     ·rw[Y6h]
     ·rw[Y3f,Y3f]
    rw[Y1P,I]at G;grind
   have one:0<Y0b e.1*Yu*rQ F e.1 (cC e.1 f):=Rat.mul_pos (Rat.mul_pos C w) (by grind);rw[m _ hd,if_neg p];have:Y0b e.1*Yu*rQ F e.1 (cC e.1 f)<=iR es λA=>Y0b A.1*s0 A * rQ F A.1 (cC e.1 f):=by
    obtain⟨L,D,rfl⟩:=List.append_of_mem a;rw[GI,eV];have O:=xS (l:=L) λx y=>r (cC e.1 f) x (cO _ y);have P:=xS (l:=D) λx y=>r (cC e.1 f) x (bY _ (aQ _ y));grind
   grind
def IP.posf(R:IP F es){e:eJ}(h:e∈es):0<Y0b e.1:=R.pos _ e.1 (Y76 e h) (Yk)
def Qn.one'(N:Nat):Qn N 1 1:=⟨N,by rw[rM];grind,by simp⟩
def IP.qn(R:IP F es){N:Nat}(hN:∀e∈es,Qn N 1 (Yu))(f4:F<=4):∀n,n<=es.length->∀d,Qn (N^d.sum) (5^n) (Y4W F n d):=by
 intro n
 induction n with
 | zero =>
  intro _ d;rw[List.take_zero,sG];split
  ·exact Qn.one' _
  ·exact YcW _
 | succ n ih =>
  intro r d;obtain⟨e,g⟩:∃x,es[n]?=Y9:=Y3U;have j:es.take (n+1)=es.take n++[e]:=by rw[iX,g];rfl
  rw[j,lI];have a:=ih Oo d;have h:=aF g;have p:5^(n+1)=5*5^n:=by rw[Nat.pow_succ];exact Oo
  by_cases hs:d.sum=e.1.sum+1
  ·have l:=(ih Oo e.1).mul (hN e h);have i:Qn 1 4 (rQ F e.1 d):=by
    have:=Qn.sumR (N:=1) (B:=1) (n:=F) (f:=λf=>if cC e.1 f=d then 1 else 0) λf _=>by
     split
     ·exact Qn.one' _
     ·exact YcW _
    exact this.le Oo
   have c:=l.mul i;have m:N^e.1.sum*N=N^d.sum:=by rw[hs,Nat.pow_succ]
   rw[Nat.mul_one,m]at c;exact(a.add c).le Oo
  ·rw[HI (R.len e h) hs];have:Y4W F n d+Y4W F n e.1*Yu*0=Y4W F n d:=by grind
   rw[this];exact a.le Oo
end
def YB(fs:Ak):sL (fs.map rv)=fG fs.length (fO fs):=by
 unfold fG;congr 1;refine Yf9 ?_;rw[aX,aX];by_cases hi:i<fs.length
 ·rw[eS hi,aD hi];show Y8S=some (fO fs i);unfold fO;rw[bI,aD hi];rfl
 ·rw[dZ Oo,dZ (by rw[bG];exact Oo)];rfl
section
variable{F W M:Nat}{es:Y0D}{q:Nat->Y1G}{mix ps cs:Y1b}
def CH(F:Nat)(es:Y0D)(q:Y1G)(w:Nat):Rat:=iR es λe=>Y0b e.1*q e.1*fO e.2 (1+w)
def lB(F:Nat)(es:Y0D)(q:Y1G)(cs:Y1b):Rat:=iR es λe=>cs e.1.sum*(Y0b e.1*q e.1*Yu)
def aE8(F W:Nat)(es:Y0D)(q:Nat->Y1G)(mix cs:Y1b):Rat:=fG W λw=>mix w*lB F es (q w) cs
end
end Mf
namespace Mf
end Mf
namespace L2
def aG5:Nat:=82
end L2
namespace L2
open PySem
def CzV(cls:Value)(vs:Ai):Prop:=5<vs.size/\(vs[2]?=some .none\/cls=.ref aG5)
def CzV.sz{cls:Value}{vs:Ai}(h:CzV cls vs):1<vs.size:=bK Dd h.1
def CzV.set{cls:Value}{vs:Ai}{i:Nat}{v:Value}(h:CzV cls vs)(hi:i≠2):CzV cls (vs.setIfInBounds i v):=⟨by simpa using h.1,h.2.imp (λe=>by rw[Array.getElem?_setIfInBounds_ne hi];exact e) id⟩
def kF(h:Heap)(a:Addr)(cls:Value)(od:Y0u)(st:Y9o):Prop :=
 ∃oe vs,Y7f=some oe/\oe.cls=cls/\oe.dict=od/\oe.data=Y8i/\CzV cls vs /\
  match st with
  | none=>vs[1]?=some .none
  | some (T,fl)=>vs[1]?=some (.ref T)/\T≠a/\∃oT ts,h.get? T=some oT/\oT.data=.fields ts/\3<ts.size/\ts[3]?=some fl
structure Kp(fs ex:Y0m)(h h':Heap):Prop where
 keep:Y0I (Y0M=Y5) (b ∉ fs->b ∉ ex->Y0n=Y5)
 slot:Y0I (Y0M=Y5) (Y2p fs->b ∉ ex->∃sl,Y0n=some { o with slots:=sl })
def Kp.any{fs ex:Y0m}{h h':Heap}(k:Kp fs ex h h'){b:Addr}{o:Obj}(e:Y0M=Y5)(n:b ∉ ex):∃sl,Y0n=some { o with slots:=sl }:=by
 by_cases m:Y2p fs
 ·exact k.slot b o e m n
 ·exact⟨o.slots,k.keep b o e m n⟩
def stT:Y9o->Y0m
 | none=>[]
 | some (T,_)=>[T]
section
variable{M:Model}{A:Around}{E:Y8}{s:Shared}{env:Env}{outer:Y1t}{base:Heap}{L a:Addr}{cls:Value}{od:Y0u}
def HL{oe:Obj}{vs:Ai}{head:Value}{had:Bool}{Q:Y3J}(hfr:A.frames=some (env::outer))(hl:Ydf (env::outer))(hf:env.frame=some L)
  (he:Y24 a oe) (hc:oe.cls=cls) (ho:oe.dict=od) (hd:oe.data=Y8i) (hz:CzV cls vs)
  (k:∀h' T',kF h' a cls od (some (T',rawInt L))->Y5G T'->Kp ((env::outer).filterMap (·.frame)) [a] s.heap h'->Q () { s with heap:=h' }) :
  wpAny M A (do
   let fo <-frameOf env
   let pl <-entryPlaceOf L had
   let en <-EntryCells.newEntry head fo .none (rawInt L) .none pl
   setField (.ref a) 1 en) Q E s:=by
 have w:a ∉ (env::outer).filterMap (·.frame):=λm=>by
  obtain⟨_,o,e,y⟩:=hl.mem m;rw[he]at e;cases e;exact y vs hd
 refine wpAny_bind (wpAny_frameOf_fun hfr hl hf λc d=>?_);refine wpAny_bind (wpAny_entryPlaceOf λpl u=>?_);unfold EntryCells.newEntry newFields;refine wpAny_bind (Ydl (u.sizeOk5 ..));have l:c.get? a=some oe:=(d.2.1 a w).trans he;generalize hT:({ cls:=.type "traceback",dict:=none,data:=.fields ([head,Value.ref L,Value.none,rawInt L,Value.none]++(if pl.isEmpty then List.replicate 6 Value.none else pl)).toArray }:Obj)=oT;have p:(c.push oT).get? a=some oe:=Y0T l;refine wpAny_setField p hd hz.sz (k _ c.objs.size ?_ ?_ ?_)
 ·have ne:c.objs.size≠a:=YfB l;have i:=Yfm (·.setIfInBounds 1 (Value.ref c.objs.size));refine⟨_,_,Yal _ p i,?_,?_,i,hz.set Dd,by simp[hz.sz],ne,oT,_,?_,by rw[<-hT],?_,?_⟩
  ·rw[Obj.cls_mapFields];exact hc
  ·rw[<-ho];obtain⟨_,_,r,_⟩:=oe;cases r <;> rfl
  ·rw[Yeu _ ne];exact aZ c (by rw[<-hT];rfl)
  ·simp only[bF,aW,bM,List.length_nil] <;> exact Oo
  ·simp
 ·cases q:s.heap.get? c.objs.size with
  | none=>rfl
  | some o=>exact absurd (aY q) (by rw[d.1];exact cP _)
 ·refine⟨λb o e j h=>?_,λb o e j h=>?_⟩
  ·have g:c.get? b=Y5:=(d.2.1 b j).trans e;have nb:a≠b:=λz=>h (by rw[z];exact aG);rw[YcY _ nb];exact Y0T g
  ·obtain⟨x,g⟩:=d.2.2 b o e;have nb:a≠b:=λz=>h (by rw[z];exact aG);refine Y02 x;rw[YcY _ nb];exact Y0T g
def MN{st:Y9o}{Q:Y3J}(hfr:A.frames=some (env::outer))(hl:Ydf (env::outer))(hf:env.frame=some L)
  (x:kF s.heap a cls od st) (hst:st=none\/∃T,st=some (T,.none))
  (k:∀h' T',kF h' a cls od (some (T',rawInt L))->Y5G T'->Kp ((env::outer).filterMap (·.frame)) (a::stT st) s.heap h'->Q () { s with heap:=h' }) :
  Y5g A (noteFrame (Y7) env) Q E s:=by
 obtain⟨O,P,j,r,u,hd,w,x⟩:=x;unfold noteFrame;simp only[hf];rcases hst with rfl | ⟨T,rfl⟩
 ·refine Ydd j hd x ?_;rw[Y9F];exact HL hfr hl hf j r u hd w k
 ·obtain⟨D,G,R,B,i,h,I,N⟩:=x;refine Ydd j hd D ?_;rw[if_pos (by simp)];refine Ydd i h N ?_;rw[if_neg (by simp[rawInt])];refine Yd5 i h I ?_;have c:∀b,b≠T->(s.heap.update T (Obj.mapFields (·.setIfInBounds 3 Value.none))).get? b=s.heap.get? b:=λb J=>Yeu _ J;have d:Y7x ((∀ws,o.data ≠ .fields ws)->b≠T):=λb o e p z=>by
   subst z;rw[i]at e;cases e;exact p B h
  refine HL (hfr:=hfr) (hl:=hl.of_keeps λb o e p=>Y4O o ((c b (d b o e p)).trans e)) hf ((c a (Ne.symm G)).trans j) r u hd w λh' T' C l y=>k h' T' C ?_ ?_
  ·by_cases z:T'=T
   ·subst z;have:=Yal (Obj.mapFields (·.setIfInBounds 3 Value.none)) i (Obj.data_mapFields h _);rw[this]at l;cases l
   ·rw[<-c T' z];exact l
  ·refine⟨λb o e m g=>y.keep b o ((c b λz=>g (by rw[z];simp[stT])).trans e) m λz=>g (aK.mpr (.inl (aN.mp z))),λb o e m g=>y.slot b o ((c b λz=>g (by rw[z];simp[stT])).trans e) m λz=>g (aK.mpr (.inl (aN.mp z)))⟩
def EY{T:Addr}{fl:Value}{Q:Y3J}(x:kF s.heap a cls od (some (T,fl)))
  (k:∀h',kF h' a cls od (some (T,.none))->(Y0I (b≠T) (Y2U->Y0n=Y5))->Q () { s with heap:=h' }):Y5g A (setFlight (Y7) none) Q E s:=by
 obtain⟨p,w,l,m,r,hd,u,i,j,C,B,g,d,c,D⟩:=x;unfold setFlight;refine Ydd l hd i ?_;rw[if_pos (by simp)];refine wpAny_setField g d c (k _ ?_ λb o y e=>?_)
 ·have h:=Obj.data_mapFields d (·.setIfInBounds 3 Value.none);exact⟨p,w,by rw[YcY _ j];exact l,m,r,hd,u,i,j,_,_,Yal _ g h,h,by simpa using c,by simp[c]⟩
 ·rw[Yeu _ y];exact e
def UR{st:Y9o}{Q:Y3J}(hfr:A.frames=some (env::outer))(hl:Ydf (env::outer))(hf:env.frame=some L)
  (x:kF s.heap a cls od st) (hst:st=none\/∃T,st=some (T,.none))
  (k:∀h' T',kF h' a cls od (some (T',.none))->Y5G T'->Kp ((env::outer).filterMap (·.frame)) (a::stT st) s.heap h'->Q () { s with heap:=h' }) :
  Y5g A (leaving env (Y7)) Q E s:=by
 unfold leaving;refine wpAny_bind (MN hfr hl hf x hst λu T1 l c i=>?_);refine EY l λm r h=>k m T1 r c ⟨λb o e d g=>h b o (Ybk) (i.keep b o e d g),λb o e d g=>?_⟩
 ·subst q;rw[c]at e;cases e
 ·obtain⟨p,j⟩:=i.slot b o e d g;exact⟨p,h b _ (λq=>by subst q;rw[c]at e;cases e) j⟩
end
end L2
namespace L2
open PySem PySem.Spec PyProof.Rows
section
variable{P:Program}{w:World}{H H1 H2:Hp}{h h1 h2 base:Heap}{fs fs2 ex:Y0m}{a:Addr}{o:HO}
theorem dU.get(x:dU P w H h a o):∃ob,Y7f=some ob:=by
 cases o with
 | lst xs=>obtain⟨_,_,_,_,e⟩:=x;exact Y0p e
 | tup xs=>obtain⟨_,_,_,o,e,_⟩:=x;exact Y0p e
 | dK kvs=>obtain⟨_,_,_,_,o,_,_,e,_⟩:=x;exact Y0p e
 | dT kvs=>obtain⟨_,_,_,_,o,_,_,e,_⟩:=x;exact Y0p e
 | set S n=>obtain⟨o,_,_,_,e,_⟩:=x;exact Y0p e
 | ins C dx fs=>obtain⟨_,_,_,e,_⟩:=x;exact Y0p e
 | own y=>obtain⟨_,e⟩:=x;exact Y0p e
 | xd fs=>obtain⟨_,⟨_,_,_,e,_⟩,_⟩:=x;exact Y0p e
 | rng lo hi=>obtain⟨_,_,_,e⟩:=x;exact Y0p e
 | frz ob u=>obtain⟨e,_⟩:=x;exact Y0p e
 | tbl ps=>exact Y0p (show h.get? a=some _ from x)
 | met f y=>exact Y0p (show h.get? a=some _ from x)
 | ext φ=>obtain⟨_,e,_⟩:=x;exact e
def mD.kp(x:Y2a)(k:Kp fs ex h h1)(hf:∀b∈fs,H b=none)(he:∀b∈ex,H b=none):mD P w H h1:=λa o e =>
 (x a o e).stay (λb u c q=>by
  have nb:H b≠none:=by
   rcases c with rfl | c
   ·rw[e];simp
   ·rw[c];simp
  exact k.keep b u q (λz=>nb (hf b z)) λz=>nb (he b z)) (Y9H) Y63
def Un.tr(u:Un fs [] H H1 h h1)(v:Un fs2 [] H1 H2 h1 h2)(hf:∀b∈fs2,Y2p fs\/Y0M=none):Un fs [] H H2 h h2 where
 keep:=λb o e n m _=>v.keep b o (u.keep b o e n m (by simp)) (u.free b o e n (by simp)) (λz=>(hf b z).elim m λq=>by rw[e]at q;cases q) (by simp)
 slot:=λb o e n m _=>by
  obtain⟨w,a⟩:=u.slot b o e n m (by simp);obtain⟨l,d⟩:=v.any a (u.free b o e n (by simp)) (by simp);exact⟨l,d⟩
 free:=λb o e n _=>by
  obtain⟨g,a⟩:=u.there b o e (by simp);exact v.free b g a (u.free b o e n (by simp)) (by simp)
 there:=λb o e _=>by
  obtain⟨g,a⟩:=u.there b o e (by simp);exact v.there b g a (by simp)
 tups:=λb c e=>v.tups b c (u.tups b c e)
 frzs:=λb i c e=>v.frzs b i c (u.frzs b i c e)
 tbls:=λb j e=>by
  obtain⟨r,a⟩:=u.tbls b j e;obtain⟨p,d⟩:=v.tbls b _ a;exact⟨r++p,by rw[d,Array.append_assoc]⟩
def Un.kp(u:Un fs [] H H1 h h1)(k:Kp fs2 ex h1 h2)(hf:∀b∈fs2,Y2p fs\/Y0M=none)(he:∀b∈ex,Y0M=none):Un fs [] H H1 h h2 where
 keep:=λb o e n m _=>k.keep b o (u.keep b o e n m (by simp)) (λz=>(hf b z).elim m λq=>by rw[e]at q;cases q) λz=>by rw[he b z]at e;cases e
 slot:=λb o e n m _=>by
  obtain⟨i,c⟩:=u.slot b o e n m (by simp);obtain⟨d,a⟩:=k.any c λz=>by rw[he b z]at e;cases e
  exact⟨d,a⟩
 free:=u.free
 there:=λb o e _=>by
  obtain⟨g,c⟩:=u.there b o e (by simp);obtain⟨d,a⟩:=k.any c λz=>by rw[he b z]at e;cases e
  exact Y0p a
 tups:=u.tups
 frzs:=u.frzs
 tbls:=u.tbls
def Un.put{u:HO}(x:Un fs [] H H1 h h1)(ha:Y7f=none)(hn:H1 a=none):Un fs [] H (upd H1 a u) h h1 where
 keep:=x.keep
 slot:=x.slot
 free:=λb d e n m=>by rw[cH (λz=>by subst z;rw[ha]at e;cases e)];exact x.free b d e n m
 there:=x.there
 tups:=λb c e=>by rw[Y4v (x.tups b c e)];exact x.tups b c e
 frzs:=λb d c e=>by rw[Y4v (x.frzs b d c e)];exact x.frzs b d c e
 tbls:=λb g e=>by
  obtain⟨m,q⟩:=x.tbls b g e;exact⟨m,by rw[Y4v q];exact q⟩
def mD.put{u:HO}(x:Y2a)(hn:H a=none)(new:dU P w (Y1c u) h a u):mD P w (Y1c u) h:=λb v e=>by
 by_cases hb:b=a
 ·subst hb;rw[bR]at e;cases e;exact new
 ·rw[cH hb]at e;exact(x b v e).stay (λc q _ r=>r) (λc q=>by rw[Y4v q];exact q) λc d q=>by rw[Y4v q];exact q
theorem qJ:∀{l:Y1t},(∀b∈frs l,∀o,Y0M=Y5->∃sl,YcK=some { o with slots:=sl })->h.FunFrames base l->h1.FunFrames base l
 | [],_,_=>trivial
 | env::r,k,⟨hk,⟨L,o,hf,hn,ho,hd⟩,hr⟩=>by
  have hL:L∈frs (env::r):=List.mem_filterMap.mpr ⟨env,aG,hf⟩;obtain⟨sl,e⟩:=k L hL o ho;refine⟨hk,⟨L,_,hf,hn,e,hd⟩,qJ (λb a=>k b ?_) hr⟩;obtain⟨c,m,q⟩:=List.mem_filterMap.mp a;exact List.mem_filterMap.mpr ⟨c,aQ _ m,q⟩
end
def BM(P:Program)(w:World):LB:=λouter H s E e s'=>∃(a T:Addr) (cls:Value) (od:Y0u) (H':Hp),e=Y7/\s'.os=s.os/\YaB/\Y8J (frs outer) [] H H' s'.heap/\mD P w H' s'.heap /\
 Y5G a/\Y5G T/\H' a=none/\H' T=none/\kF s'.heap a cls od (some (T,.none))/\E cls od H'
structure DI(X:Cx)(Ex:St->XK):Prop where
 p:∀(pins:Ad) (σ:St) (H:Hp) (s:Shared) (e:Value) (s':Shared),Y2->BM X.prog X.w X.stack H s (Ex σ) e s'->X.xe e s'
structure aBs(X:Cx)(Ex:St->XK):Prop where
 p:∀(pins:Ad) (σ:St) (H:Hp) (s:Shared) (h':Heap) (tk:Nat) (a:Addr) (cls:Value) (od:Y0u),Y2->(Y7x (Y0n=Y5))->Y5G a->H a=none ->
  kF h' a cls od none->Ex σ cls od H->X.xe (Y7) { s with heap:=h',toks:=tk }
section
variable{P:Program}{w:World}{K:Aa}{mg:Y03}{base:Heap}{N:Ah}{qual:Str}{scope:Scope}{f:Addr}{cd:Value}{A:Around}{outer:Y1t}{s:Shared}{H:Hp}{E:XK}
def AW{pins:Ad}{σ:St}{H1 H2:Hp}{s1 s2:Shared}{a:Addr}{cls:Value}{od:Y0u}{st:Y9o}
  (I:cF (oQ (BM P w) P w K mg base N qual scope f cd A outer s H E) pins σ H1 s1) (os:s2.os=s1.os) (bare:YfT)
  (un:Un (frs (oQ (BM P w) P w K mg base N qual scope f cd A outer s H E).stack) [] H1 H2 s1.heap s2.heap) (hok:mD P w H2 s2.heap) (x:kF s2.heap a cls od st) (hst:st=none\/∃T,st=some (T,.none))
  (fa:Ybw a) (na:H2 a=none) (fT:∀T∈stT st,Ybw T) (nT:∀T∈stT st,H2 T=none) (q:E cls od H2) :
  (oQ (BM P w) P w K mg base N qual scope f cd A outer s H E).xe (Y7) s2:=by
 have m:s2.heap.FunFrames (oQ (BM P w) P w K mg base N qual scope f cd A outer s H E).base (oQ (BM P w) P w K mg base N qual scope f cd A outer s H E).stack :=
  qJ (λb c o e=>un.any e (I.stkFree b c) (by simp)) I.stack
 have g:∀b,Ybw b->Y5G b:=λb e=>by
  cases q:s.heap.get? b with
  | none=>rfl
  | some o =>
   obtain⟨D,j⟩:=YaN o q (by intro z;cases z);rw[e]at j;cases j
 have h:∀b,s2.heap.get? b=none->Ybw b:=λb e=>by
  cases q:s1.heap.get? b with
  | none=>rfl
  | some o =>
   obtain⟨D,j⟩:=un.there b o q (by simp);rw[e]at j;cases j
 have i:∀b∈frs (oQ (BM P w) P w K mg base N qual scope f cd A outer s H E).stack,Y2p (frs outer)\/Y5G b:=λb c=>by
  have p:Y2p (s.heap.objs.size::frs outer):=c;rcases aK.mp p with z | z
  ·right
   rw[z];exact YeX
  ·exact .inl z
 show wpAny (model P w) (Y9p qual scope f cd) (leaving (Ybz qual f cd) (Y7)) _ _ s2;refine UR I.ok.frames m rfl x hst λJ T3 G r y=>?_;have d:∀b∈frs (oQ (BM P w) P w K mg base N qual scope f cd A outer s H E).stack,H2 b=none:=λb c=>by
  have B:=I.stack;obtain⟨_,o,C,_⟩:=B.mem c;exact un.free b o C (I.stkFree b c) (by simp)
 have l:∀b∈a::stT st,Ybw b:=λb c=>by
  rcases Y7q with rfl | c
  ·exact fa
  ·exact fT b c
 refine⟨a,T3,cls,od,H2,rfl,os.trans I.os,bare,((I.base.tr un i).kp y i λb c=>g b (l b c)),hok.kp y d (λb c=>?_),g a fa,g T3 (h T3 r),na,?_,G,q⟩
 ·rcases Y7q with rfl | c
  ·exact na
  ·exact nT b c
 ·cases z:H2 T3 with
  | none=>rfl
  | some u =>
   obtain⟨L,e⟩:=(hok T3 u z).get;rw[r]at e;cases e
def RD:DI (oQ (BM P w) P w K mg base N qual scope f cd A outer s H E) (λ_=>E):=⟨λh σ H1 B e u I j=>by
 obtain⟨a,T,cls,y,H2,rfl,l,c,un,d,p,i,m,r,x,q⟩:=j;exact AW I l c un d x (.inr (Y7m T)) p m (λb g=>by cases aN.mp g;exact i) (λb g=>by cases aN.mp g;exact r) q⟩
def RE:aBs (oQ (BM P w) P w K mg base N qual scope f cd A outer s H E) (λ_=>E):=⟨λd σ H1 h j e a cls l I k i g x q =>
 AW (s2:={ h with heap:=j,toks:=e }) I rfl I.bare (Un.kept k) (I.hok.kept k) x (Y21) i g (λb c=>by cases c) (λb c=>by cases c) q⟩
end
def aBR(sp:Sp)(Ex:St->XK)(t:TA):TE:=Y3t (λvs H1=>sp vs H1 Q (Ex σ))
section
variable{X:Cx}{k:Nat}{f C:Addr}{fd:FuncData}{ps:Ah}{sp:Sp}{Ex:St->XK}{x:Str}{p pos np cpos:Pos}{e:Expr}{es:Yz}{t:TA}
def YO{pins:Ad}{σ:St}{H:Hp}{s:Shared}{Q:VK}{us:Ag}{vs:Al}(F:cX X.prog X.w X.K X.mg X.base (BM X.prog X.w) k f fd ps sp)(hr:Y5d k)(hb:vN X.K fd ps [])(hx:DI X Ex)
  (I:Y2) (r:Y7F) (h:sp vs H Q (Ex σ)):Y6t (Ycw f us) X σ Q:=by
 have g:(us++[]).length=ps.length:=by rw[List.append_nil,<-r.length];exact F.len _ _ _ _ h
 have a:=hb s us I.kIn g;rw[List.append_nil]at a;refine Yf4 (F.run X.A X.stack s H ⟨us,[]⟩ us vs Q (Ex σ) hr I.env0 a r h) (λr d c=>?_);cases r with
 | error e=>exact hx.p pins σ H s e d I c
 | ok fl =>
  cases fl with
  | ret u=>exact I.after c
  | next=>exact Y9q
  | brk=>exact Y9q
  | cont=>exact Y9q
def DP(F:dS (BM X.prog X.w) X.prog X.w X.K X.mg X.base k x ps sp)(hr:Y5d k)(hx:DI X Ex)(ha:IR X (e::es) t)(hg:Y1L:=by rfl)
  (hdb:Y0Y ("__debug__" : Str):=by decide) (he:Y42=(false,Y1p)::Y2W:=by exact Se)
  (hpl:Y6 ((backTo pos (starEach es X.env)).any (·.1)):=by repeat (first | exact nO | refine kQ Se ?_)) :
  Y8A p (e::es) [] (aBR sp Ex t):=⟨by
 obtain⟨f,l,i,d,g,c⟩:=F.ex;intro a s σ H Q I h;refine YfD I hg d ?_ hdb;refine YeV X.base g (thn (ha.p pos a s σ H _ I h) λj u ⟨m,H1,I1,r,q⟩=>Y02 I1.kIn) he hpl;exact YO i hr c hx I1 r q⟩
end
def hJ.okx{P:Program}{w:World}{K:Aa}{mg:Y03}{base:Heap}{x qual:Str}{st:Stmt}{f:Addr}{fd:FuncData}{N ps:Ah}{k:Nat}{sp:Sp}(F:Yb x qual st)(S:Yc N ps st)(len:∀vs H Q E,sp vs H Q E->Y9n)
  (hbody:∀(cdv:Value) (A:Around) (outer:Y1t) (s:Shared) (H:Hp) (vs:Al) (Q:VK) (E:XK),iJ k (Y9p qual Y3X f cdv)->sp vs H Q E ->
   DI (oQ (BM P w) P w K mg base N qual (Y3X) f cdv A outer s H E) (λ_=>E)->aBs (oQ (BM P w) P w K mg base N qual (Y3X) f cdv A outer s H E) (λ_=>E) ->
   ∃t,wU (oQ (BM P w) P w K mg base N qual (Y3X) f cdv A outer s H E) (kO st) t/\t { nx:=λ_ H'=>Q .non H',rt:=Q } (Ya7 N) H):cX P w K mg base (BM P w) (k+1) f fd ps sp:=by
 obtain⟨m,r,kV,e,j,l,cdv,ct,d,rfl,i,a⟩:=F.ex;refine aBm i a S len λA outer s H vs Q E g c=>?_;obtain⟨t,h,q⟩:=hbody cdv A outer s H vs Q E g c RD RE;exact⟨t,h.p,q⟩
def MadeExcOf.at{h h':Heap}{a:Addr}{cls:Value}{args:Ag}(x:Yc2 h a cls args):kF h' a cls none none:=by
 obtain⟨t,e,_,_⟩:=x.there;exact Y1Y _ _ e rfl rfl ⟨by show 5<6;decide,Y21⟩ rfl
abbrev xD:Ag:=[.type "ValueError",.type "Exception",.type "BaseException",.type "object"]
section
variable{X:Cx}{C:Addr}{Ex:St->XK}{x:Str}{pos np cpos:Pos}{e:Expr}{es:Yz}{t:TA}
end
end L2
namespace L2
open PySem PySem.W PySem.Spec PySem.Calls PyProof.Rows
structure kU(K:Frag)(C:Addr):Prop where
 ga:Y4L "__getattribute__" = Y4d "BaseException.__getattribute__"
 gt:Y4L "__getattr__" = Y12
 sub:subIn K (Yp) (.type "BaseException")=Y2e
 cls:(clsIn K C).isSome=true
 kc:Y4L "__class__" = Y4d "object.__class__"
 kg:specialIn K (.builtin "object.__class__") "__get__" = Y4d "getset_descriptor.__get__"
 kt:takesIn K (.builtin "object.__class__")=Y2e
 ob:mroIn K C (.type "object")=Y2e
section
variable{prog:Program}{w:World}{A:Around}{E:Y8}{s:Shared}{K:Frag}{x C:Addr}{ox:Obj}{od:Option Obj}{name:Str}
def CW{nv:Value}{Q:Y3J}(c:kU K C)(X:Y3F)(I:Y62 x ox C od)(h:Q () s):Y0U (checkBuiltinCall "BaseException.__getattribute__" ⟨[Y1v,nv],[]⟩):=by
 have e:builtinKind "BaseException.__getattribute__" = some .slot:=Kk;have a:splitId "BaseException.__getattribute__" = some ("BaseException","__getattribute__"):=Kk;have LT:=YdI;have LS:=looks_subIn (M:=Y1F) X c.sub;have LI:Y9C s.heap (isInstance (Y1v) (.type "BaseException")) true:=LT.andThen LS;have i:=F.args_bexc_ga (Y1v) nv;obtain⟨j,g,d,t,l⟩:=s;simp only[checkBuiltinCall,e,a];refine wpAny_bind (LI.at ?_)
 repeat (any_goals (first | assumption | wp_step))
def VI{v:Value}{tk:Tok}{R:Y75}(c:kU K C)(X:Y3F)(I:Y62 x ox C od)(hf:findObj K C od name=some (.value v))(h:R (Yap v) s) :
  Y70 Y1F A (.builtin "BaseException.__getattribute__") ⟨[Y1v,Y9P tk],[]⟩ R s:=by
 refine codeAny_call_builtin F.attr_ValueError.ga.plain F.entry_bexc_ga (CW c X I ?_);have LT:=YdI;have LF:=looks_find (M:=Y1F) X I hf;obtain⟨a,g,d,t,e⟩:=s;unfold Builtin.«object.__getattribute__»;refine Y39
 repeat (any_goals (first | assumption | (refine LT.at ?_) | (refine LF.at ?_) | wp_step))
def QE{g a v:Value}{tk:Tok}{R:Y75}(c:kU K C)(X:Y3F)(I:Y62 x ox C od)(hf:findObj K C od name=some (.bind g a))
  (h:∀A' R',(R' (Yap v) s)->Y70 Y1F A' g ⟨[a,Y1v,Yp],[]⟩ R' s) (hq:R (Yap v) s) :
  Y70 Y1F A (.builtin "BaseException.__getattribute__") ⟨[Y1v,Y9P tk],[]⟩ R s:=by
 refine codeAny_call_builtin F.attr_ValueError.ga.plain F.entry_bexc_ga (CW c X I ?_);have LT:=YdI;have LF:=looks_find (M:=Y1F) X I hf;obtain⟨e,j,d,t,i⟩:=s;unfold Builtin.«object.__getattribute__»;refine Y39
 repeat (any_goals (first | assumption | (refine LT.at ?_) | (refine LF.at ?_) | (refine h _ _ ?_) | wp_step))
def VJ{v:Value}{nv:Value}{fill expr:Bool}{Q:Y8}(c:kU K C)(X:Y3F)(I:Y62 x ox C od)
  (hc:∀A' R',(R' (Yap v) s)->Y70 Y1F A' (.builtin "BaseException.__getattribute__") ⟨[Y1v,nv],[]⟩ R' s) (hv:handedIn v=true) (h:Q v s):Y0U (getAttrBy (Y1v) nv fill expr):=by
 have LT:=YdI;have L1:=looks_findIn (M:=Y1F) X c.ga;have L2:=looks_findIn (M:=Y1F) X c.gt;have e:=F.attr_ValueError.ga.bind (Y1v);have a:Y6 (expr&&onTheHeap (Value.builtin "BaseException.__getattribute__")):=by cases expr <;> rfl
 have i:Y6 (onTheHeap (Value.ref C)&&Value.builtin "BaseException.__getattribute__" == Value.builtin "object.__getattribute__"):=by
  rw[show(Value.builtin "BaseException.__getattribute__" == Value.builtin "object.__getattribute__")=false by decide +kernel];rfl
 obtain⟨j,g,d,t,l⟩:=s;unfold getAttrBy;refine wpAny_holding (wpAny_bind (LT.at (wpAny_bind (L1.at ?_))));dsimp only;rw[if_neg (by rw[i];exact bZ)];unfold getAttrByItsOwn hookBefore;rw[if_pos (show onTheHeap (Value.ref C)=true from rfl)];refine wpAny_bind (L2.at (Y7S YbW));unfold callGetattribute;rw[if_neg (by rw[a];exact bZ)];unfold boundAndCalled;refine wpAny_bind (wpAny_of_eq e (wpAny_call (hc _ _ ?_)));exact handed_on hv h
def VL{v:Value}{expr:Bool}{Q:Y8}(c:kU K C)(X:Y3F)(I:Y62 x ox C od)(hf:findObj K C od name=some (.value v))(hv:handedIn v=true)(h:Q v { s with toks:=s.toks+1 }) :
  Y0U (getAttr (Y1v) name expr):=by
 unfold getAttr;refine wpAny_bind (wpAny_mkText ?_);exact VJ (s:={ s with toks:=s.toks+1 }) c X I (λA' R' q=>VI (s:={ s with toks:=s.toks+1 }) c X I hf q) hv h
def QD{Q:Y8H}(c:kU K C)(X:Y3F)(I:Y62 x ox C od)(h:Q (Y4 C) { s with toks:=s.toks+1 }):Y0U (getAttr? (Y1v) "__class__"):=by
 have e:findObj K C od "__class__" = some (.bind (.builtin "getset_descriptor.__get__") (.builtin "object.__class__")):=by
  obtain⟨g,d⟩:=Option.isSome_iff_exists.mp c.cls;unfold findObj;rw[d,Option.bind_some,c.kc,Option.bind_some];simp[c.kg,c.kt]
 unfold getAttr? getAttrBy?;refine wpAny_bind (wpAny_mkText (Y7S ?_));exact VJ (s:={ s with toks:=s.toks+1 }) c X I (λA' R' q=>QE (s:={ s with toks:=s.toks+1 }) (v:=Yp) c X I e (λA'' R'' a=>class_get (s:={ s with toks:=s.toks+1 }) (ox:=ox) (od:=od) X I c.ob a) q) rfl (wpAny_pure h)
def HH(c:kU K C):KitX K (Y1v) (Yp) (λh=>∃ox od,InstAt h x ox C od) where
 ty:=λ_ _ _ ⟨_,_,I⟩=>I.type
 it:=λM h X _=>by
  have e:=c.cls;unfold clsIn at e;split at e
  ·rename_i ho
   intro A' Q' E' l k q;unfold isType loadHead;exact wpAny_bind (wpAny_loadPart (k _ _ (X _ _ ho)) (wpAny_pure q))
  ·cases e
 ne:=λh g i d n j X a=>by
  refine Bool.eq_false_iff.mpr Ybk;obtain rfl:C=g:=Value.ref.inj (iM.mp q);have e:=c.cls;unfold clsIn at e;split at e
  ·rename_i ho
   have z:=(X _ _ ho).symm.trans a;cases z
  ·cases e
 ca:=λX ⟨_,_,I⟩ k=>QD c X I k
end
end L2
namespace L2
open PySem PySem.Spec PyProof.Rows
def sT(a C:Addr)(od:Y0u):HO:=.ext λh=>∃oe vs,Y7f=some oe/\oe.cls=Yp/\oe.dict=od/\oe.data=Y8i/\1<vs.size
def sT.ok{P:Program}{w:World}{H:Hp}{h:Heap}{a C:Addr}{od:Y0u}{st:Y9o}(x:kF h a Yp od st):dU P w H h a (sT a C od):=by
 obtain⟨c,d,e,j,g,l,m,_⟩:=x;refine Y0w ⟨c,d,e,j,g,l,m.sz⟩ ⟨c,e⟩;rintro A B ⟨c,d,r,i,p,y,u⟩ k;exact⟨c,d,k _ r,i,p,y,u⟩
def Cx.tryW(X:Cx)(pins:Ad)(xe:Y8):Cx:={ X with pn:=X.pn++pins,xe:=xe }
def Cx.suite(X:Cx)(a:Addr):Cx:={ X with A:=X.A.mark (some (.ref a)),calm:=false,xe:=λ_ _=>False }
def mH.drop(D:mH)(i:Nat):mH:={ nx:=λσ H=>D.nx (σ.set i none) H,rt:=D.rt,bk:=λσ H=>D.bk (σ.set i none) H,ct:=λσ H=>D.ct (σ.set i none) H }
structure WV(K:Aa)(C2:Addr):Prop where
 ty:PySem.W.typeIn K (.ref C2)=Yeo "type"
 cls:(PySem.W.clsIn K C2).isSome=true
 sub:YaF (.ref C2) (.type "BaseException")=Y2e
def aFF(K:Aa)(C2:Addr)(i:Nat)(tb:(St->XK)->TS)(th:TS):TS:=λD σ H=>∃Ex:St->XK,tb Ex D σ H /\
 ∀σ' cls od H',Ex σ' cls od H'->∃C,cls=Yp/\YaF Yp (.ref C2)=Y2e/\∀a,H' a=none->th (D.drop i) (σ'.set i (Y1y)) (upd H' a (sT a C od))
section
variable{X:Cx}{pins:Ad}{σ:St}{H:Hp}{s:Shared}
theorem cF.tryW(I:Y2)(xe:Y8):cF (Ycn xe) [] σ H s :=
 ⟨⟨I.ok.mod,I.ok.kind,I.ok.glob,I.ok.blt,I.ok.above,I.ok.inj,I.ok.has,I.ok.cab,I.ok.hd,I.ok.frames,I.ok.stk,I.ok.exf,I.ok.bs,I.ok.bsz,I.ok.noex,I.ok.exfs,I.ok.funs,I.ok.frf⟩,I.os,I.bare,I.base,I.loc,I.cell,I.free,I.freeC,
  λp a=>Y5K (by have:p∈(X.pn++pins)++[]:=a;rwa [List.append_nil]at this),I.hok,I.len⟩
def cF.untry{xe:Y8}{pins':Ad}(I:cF (Ycn xe) pins' σ H s):Y2 :=
 ⟨⟨I.ok.mod,I.ok.kind,I.ok.glob,I.ok.blt,I.ok.above,I.ok.inj,I.ok.has,I.ok.cab,I.ok.hd,I.ok.frames,I.ok.stk,I.ok.exf,I.ok.bs,I.ok.bsz,I.ok.noex,I.ok.exfs,I.ok.funs,I.ok.frf⟩,I.os,I.bare,I.base,I.loc,I.cell,I.free,I.freeC,
  λp a=>Y5K (cO _ a),I.hok,I.len⟩
theorem cF.suite(I:Y2)(a:Addr):cF Yb5 pins σ H s :=
 ⟨⟨I.ok.mod,I.ok.kind,I.ok.glob,I.ok.blt,I.ok.above,I.ok.inj,I.ok.has,I.ok.cab,(λz=>by cases z),I.ok.frames,I.ok.stk,I.ok.exf,I.ok.bs,I.ok.bsz,I.ok.noex,I.ok.exfs,I.ok.funs,I.ok.frf⟩,I.os,I.bare,I.base,I.loc,I.cell,I.free,I.freeC,I.pin,I.hok,I.len⟩
def cF.unsuite{a:Addr}(I:cF Yb5 pins σ H s)(ok:X.Ok):Y2:=⟨ok,I.os,I.bare,I.base,I.loc,I.cell,I.free,I.freeC,I.pin,I.hok,I.len⟩
def cF.forget{h':Heap}{tk:Nat}{i:Nat}{x:Str}{v:Y7P}{m:Y03}(I:Y2)(hN:X.N.Nodup)(hi:Y1W=Y9)
  (hl:∀(i:Nat) (x:Str) (v:V),Y1W=Y9->σ[i]?=Ycj->YbZ x->∃u,Y2G/\aFl X.env s.heap m x u)
  (hn:h'.Ns X.env.locals (λy=>if y=x then v else m y)) (hs:Y9f X.env.locals h'):cF X pins (σ.set i none) H ({ s with heap:=h',toks:=tk }):=by
 have l:i<σ.length:=by rw[I.len];exact(aT.mp hi).1
 have cne:=I.cne;refine⟨I.ok,I.os,I.bare,⟨λb o e n h a=>?_,λb o e n h a=>?_,I.base.free,λb o e a=>?_,I.base.tups,I.base.frzs,I.base.tbls⟩,Y1o hn (λj y w A g D=>?_),λy c e=>?_,I.free,I.freeC,λp G=>?_,?_,by simpa using I.len⟩
 ·exact(hs.2 b (cJ (bD (aY e) I.ok.above))).trans (YcD o e n h a)
 ·obtain⟨L,q⟩:=YcE b e n h a;exact⟨L,(hs.2 b (cJ (bD (aY e) I.ok.above))).trans q⟩
 ·obtain⟨J,q⟩:=YaN o e a;exact⟨J,(hs.2 b (cJ (bD (aY e) I.ok.above))).trans q⟩
 ·by_cases hj:j=i
  ·subst hj;rw[List.getElem?_set_self l]at g;cases g
  ·rw[YeW hj]at g;obtain⟨u,r,q⟩:=hl j y w A g D;refine Y0w u r;rcases q with⟨k,e⟩ | ⟨k,c,e,z⟩
   ·have B:y≠x:=λz=>hj (AO hN A (z ▸ hi));exact Y3e k (by simp[B,e])
   ·exact .inr ⟨k,c,e,Yep hs y c e⟩
 ·obtain⟨w,z⟩:=Y8E y e;exact⟨w,Yep hs y c e⟩
 ·obtain⟨e,n,ne,M,d⟩:=Y5K G;exact⟨(hs.2 p.1 ne).trans e,n,ne,M,d⟩
 ·exact λb u e=>(I.hok b u e).stay (λc o C q=>(hs.2 c (λz=>by
   subst z;rcases C with z | z
   ·subst z;rw[I.free]at e;cases e
   ·rw[I.free]at z;cases z)).trans q) (Y9H) Y63
def cF.landed{a T:Addr}{C:Addr}{od:Y0u}{H2:Hp}{s2:Shared}{h':Heap}{st:Y9o}(I:Y2)(os:s2.os=s.os)(bare:YfT)(un:Y8J Y71 [] H H2 s2.heap)(hok:Y7z H2 s2.heap)
  (fa:Y5G a) (fT:Y5G T) (na:H2 a=none) (nT:H2 T=none) (k:Kp (Y71) [a,T] s2.heap h') (x:kF h' a Yp od st):Y1N (upd H2 a (sT a C od)) ({ s2 with heap:=h' }):=by
 have d:∀b∈frs X.stack,H2 b=none:=λb c=>by
  have i:=I.stack;obtain⟨_,o,h,_⟩:=i.mem c;exact un.free b o h (I.stkFree b c) (by simp)
 have g:∀b∈[a,T],Y5G b:=λb c=>by
  rcases Y7q with rfl | c
  ·exact fa
  ·cases aN.mp c;exact fT
 have e:∀b∈[a,T],H2 b=none:=λb c=>by
  rcases Y7q with rfl | c
  ·exact na
  ·cases aN.mp c;exact nT
 exact I.call' (s':={ s2 with heap:=h' }) (ch:=[]) os ((un.kp k (λb c=>.inl c) g).put fa na) ((hok.kp k d e).put na (sT.ok x)) bare λb c=>by cases c
end
section
variable{M:Model}{A:Around}{E:Y8}{K:Aa}{s:Shared}{a C C2:Addr}{ox:Obj}{od:Option Obj}
def QC{Q:Y1Q Bool}(X:Y3F)(L4:PySem.W.Looks M s.heap (typeOf (Y7)) (Yp))(c2:WV K C2)(hsub:YaF Yp (.ref C2)=Y2e)(h:Q true s):Y5g A (excMatches (Y7) (.ref C2)) Q E s:=by
 have L1:=PySem.W.looks_typeIn (M:=M) X c2.ty;have L2:=PySem.W.looks_subIn (M:=M) X c2.sub;have L3:=PySem.W.looks_subIn (M:=M) X hsub;have L5:PySem.W.Looks M s.heap (isType (.ref C2)) true:=by
  have e:=c2.cls;unfold PySem.W.clsIn at e;split at e
  ·rename_i ho
   intro A' Q' E' i k q;unfold isType loadHead;exact wpAny_bind (wpAny_loadPart (k _ _ (X _ _ ho)) (wpAny_pure q))
  ·cases e
 have f:=tc_notTuple;obtain⟨c,g,d,t,j⟩:=s;unfold excMatches
 repeat (any_goals (first | assumption | (refine L1.at ?_) | (refine L2.at ?_) | (refine L3.at ?_) | (refine L4.at ?_) | (refine L5.at ?_) | wp_step))
end
section
variable{X:Cx}{x n:Str}{np hpos pos:Pos}{b₀:Stmt}{body suite:Y3b}{i:Nat}{C2:Addr}{tb:(St->XK)->TS}{th:TS}
def FN{pins:Ad}{a:Addr}{D:mH}{f:Flow}{s:Shared}(ok:X.Ok)(hN:X.N.Nodup)(hi:Y1W=Y6u)(hl:Y68 n Y1A)
  (q:SP (Yb5) pins (D.drop i) f s):wpAny (Y6b) X.A (do bindName X.env n .none;unbindBehindTheSuite X.env n hpos) (λ_ s'=>SP X pins D f s') X.xe s:=by
 have g:Y6 (YbP .class || (YbP .module&&X.env.locals != X.env.globals)):=by rw[ok.kind];rfl
 have c:∀{σ:St} {H:Hp} (J:cF Yb5 pins σ H s) {Q:Y3J},(∀s',cF X pins (σ.set i none) H s'->Q () s')->wpAny (Y6b) X.A (do bindName X.env n .none;unbindBehindTheSuite X.env n hpos) Q X.xe s:=by
  intro σ H J Q k;have J':=J.unsuite ok;obtain⟨m,h,e⟩:=J'.loc;exact wpAny_nameGoes_keeps hl h g λj v d hs=>k _ (J'.forget hN hi e d hs)
 cases f with
 | next=>obtain⟨σ,H,J,q⟩:=q;exact c J λs' J'=>Y7K _ H J'
 | brk=>obtain⟨σ,H,J,q⟩:=q;exact c J λs' J'=>Y7K _ H J'
 | cont=>obtain⟨σ,H,J,q⟩:=q;exact c J λs' J'=>Y7K _ H J'
 | ret u=>obtain⟨v,σ,H,J,r,q⟩:=q;exact c J λs' J'=>⟨v,_,H,J',r,q⟩
def aBG(hst:X.stack=X.env::X.outer)(hfm:X.env.frame=some X.env.locals)(hg:Y1L)(hm:Y3T=Y4 C2)(c2:WV X.K C2)(hN:X.N.Nodup)(hi:Y1W=Y6u)(hl:Y68 n Y1A)
  (hb:∀pins xe Ex,DI (Ycn xe) Ex->wU (Ycn xe) body (tb Ex)) (hs:∀a,wU (Yb5) (b₀::suite) th) (hd:Y0Y ("__debug__" : Str):=by decide) :
  FZ X (.Try body [.ExceptHandler (some (Y94 np)) (Y6u) (b₀::suite) hpos] [] [] pos) (aFF X.K C2 i tb th):=⟨by
 intro pins s σ H D I h;obtain⟨Ex,ψ,φ⟩:=h;refine wpAny_Try_except ?_;generalize hxe:(λ(e:Value) (s₁:Shared)=>wpAny (model X.prog X.w) X.A (noteFrame e X.env) (λ_ ν=>wpAny (model X.prog X.w) X.A (setFlight e none) (λ_ s₃ =>
  wpAny (model X.prog X.w) X.A (handleBy e X.env [.ExceptHandler (some (.Name x np)) (some n) (b₀::suite) hpos]) (SP X pins D) X.xe s₃) X.xe ν) X.xe s₁)=xe
 have ι:DI (Ycn xe) Ex:=⟨λL c H1 θ e y I' ρ=>by
  obtain⟨a,T,cls,υ,H2,rfl,γ,d,un,l,α,ε,R,β,τ,q⟩:=ρ;obtain⟨C,rfl,B,k⟩:=φ c cls υ H2 q;have I1:cF X pins c H1 θ:=I'.untry;have un:Un (Y71) [] H1 H2 θ.heap y.heap:=un;have S:y.heap.FunFrames X.base (X.env::X.outer):=by
   rw[<-hst];exact qJ (λb hb o e=>un.any e (I1.stkFree b hb) (by simp)) I1.stack
  show xe (Y7) y;rw[<-hxe];refine MN (by rw[<-hst];exact I1.ok.frames) S hfm τ (.inr (Y7m T)) λh3 T3 χ G η=>EY χ λO P ζ=>?_;have M:Kp (Y71) [a,T] y.heap O:=by
   rw[hst];refine⟨λb o e g j=>ζ b o (λq=>by subst q;rw[G]at e;cases e) (η.keep b o e g j),λb o e g j=>?_⟩;obtain⟨U,m⟩:=η.slot b o e g j;exact⟨U,ζ b _ (λq=>by subst q;rw[G]at e;cases e) m⟩
  have I4:=I1.landed (h':=O) γ d un l α ε R β M P;refine wpAny_handleBy_cons (codeAny_handlers_test ?_) (by intro q;cases q);refine Yf1 I4.ok.kind (Calls.loadGlobal_global (by rw[I4.ok.glob];exact I4.mod.glob.keeps I4.bk) hm ?_) hd;have LT:PySem.W.Looks (Y6b) O (typeOf (Y7)) (Yp):=by
   obtain⟨oe,vs,m,e2,_⟩:=P;exact e2 ▸ (PySem.W.Looks.ld m).andThen .now
  refine QC I4.kIn LT c2 B (codeAny_handlers_suite_as ?_);refine EY P λZ μ δ=>?_;have κ:Kp (Y71) [a,T] y.heap Z:=by
   refine⟨λb o e g j=>δ b o (λq=>by subst q;rw[G]at e;cases e) (M.keep b o e g j),λb o e g j=>?_⟩;obtain⟨U,m⟩:=M.slot b o e g j;exact⟨U,δ b _ (λq=>by subst q;rw[G]at e;cases e) m⟩
  have I5:=(I1.landed (h':=Z) γ d un l α ε R β κ μ).suite a;refine rE (X:=Yb5) I5 hN hi (.inl hl) (v:=Y7) rfl (λω I6=>?_) (.inr hl);refine wpAny_mono ((hs a).p pins ω _ _ (D.drop i) I6 (k a R)) (λf s7 ο=>?_) λ_ _ z=>False.elim z;exact FN I1.ok hN hi hl ο⟩
 refine wpAny_mono ((hb pins xe Ex ι).p [] s σ H D (I.tryW xe) ψ) (λf ξ q=>?_) λe ξ q=>q;cases f with
 | next=>obtain⟨c,H',J,q⟩:=q;exact Ydx c H' J.untry q
 | brk=>obtain⟨c,H',J,q⟩:=q;exact Y7K c H' J.untry
 | cont=>obtain⟨c,H',J,q⟩:=q;exact Y7K c H' J.untry
 | ret u=>obtain⟨v,c,H',J,r,q⟩:=q;exact⟨v,c,H',J.untry,r,q⟩⟩
end
end L2
namespace L2
open PySem PySem.W PySem.Spec PySem.Calls PyProof.Rows
section
variable{prog:Program}{w:World}{A:Around}{E:Y8}{h:Heap}{g:YfY}{d:Drawn}{t:Nat}{os:OsState}
variable{nm q:Str}{C N:Addr}{bs bm bmB:Ag}{hdct:Bool}{sn:Ah}{sub:Ag}{ab:Bool}{col:Option Bool}{dd:Y0u}{k0 k1 k2 k3 k5:Y7P}{B newId initId:String}
def yY(F:ExcBaseFacts B newId initId bmB)(T:OwnTail h bmB bm){rest:Ag}{fI:Addr}{Q:Y1Q Fin}
  (hC:h.get? C=some (excClassObj nm q C N bs bm hdct sn sub ab col dd k0 k1 k2 k3 k5 newId)) (hi:Y9C h (YfN "__init__") (Y4 fI))
  (hf:∀self,Y9C h (bindSpecial (.ref fI) self) (.ref fI,[self]))
  (hq:∀h' e,Yc2 h e Yp rest ->
   wpAny (model prog w) A (Ycw fI (Y2V :: rest)) (λr s'=>r=.none/\Q (Yce Y2V) s') E ⟨h',g,d,t,os⟩) (hrest:YdP:=by size_fits) :
  wpAny (model prog w) A (Builtin.«type.__call__» ⟨Yp :: rest,[]⟩) Q E ⟨h,g,d,t,os⟩:=by
 repeat (first | with_reducible refine YbK hC | with_reducible refine wpAny_madeBy_exc hC ?_ | wp_step)
 refine codeAny_call_builtin_code (Ydn F.quiet) (wpAny_check_new_subT F T hC ?_);refine codeAny_exc_new_subT F T hC ?_ hrest;show Y0V _;have c:=aB { cls:=.ref C,data:=.fields #[.ref h.objs.size,.none,.none,.none,.bool false,.none] }
  (aB { cls:=.type "tuple",data:=.seq rest.toArray } hC)
 have j:Y0I (Y0M=Y5) (((h.push { cls:=.type "tuple",data:=.seq rest.toArray }).push { cls:=.ref C,data:=.fields #[.ref h.objs.size,.none,.none,.none,.bool false,.none] }).get? b=Y5):=λb o e=>Y5z e;have a:((h.push { cls:=.type "tuple",data:=.seq rest.toArray }).push
   { cls:=.ref C,data:=.fields #[.ref h.objs.size,.none,.none,.none,.bool false,.none] }).get? (h.objs.size+1)=some
   { cls:=.ref C,data:=.fields #[.ref h.objs.size,.none,.none,.none,.bool false,.none] }:=by heap_get
 have i:(Value.ref C::bm).contains (Yp)=true:=by simp
 unfold isInstance
 repeat (first | with_reducible refine YbK a | (with_reducible refine wpAny_isSubtype_exc c ?_;rw[i]) | wp_step)
 show Y0V (YfN _);refine(hi.keeps j).at (wpAny_holding (wpAny_bind (((hf _).keeps j).at ?_)));refine Y6O (hq _ (h.objs.size+1) ⟨λb o m=>Y5z m,Heap.get?_none_of_le (Nat.le_succ _),h.objs.size,a,YeX,?_⟩) (λr s' l=>?_) Ydk
 ·exact Y0T (Heap.get?_push_at rfl rfl)
 ·obtain⟨rfl,p⟩:=l
  wp_walk
  exact p
def QM(F:ExcBaseFacts B newId initId bmB)(T:OwnTail h bmB bm){rest:Ag}{fI:Addr}{Q:Y8}
  (hC:h.get? C=some (excClassObj nm q C N bs bm hdct sn sub ab col dd k0 k1 k2 k3 k5 newId)) (hi:Y9C h (YfN "__init__") (Y4 fI))
  (hf:∀self,Y9C h (bindSpecial (.ref fI) self) (.ref fI,[self]))
  (hq:∀h' e,Yc2 h e Yp rest ->
   wpAny (model prog w) (Yaw "type.__call__" ⟨Yp :: rest,[]⟩) (Ycw fI (Y2V :: rest)) (λr s'=>r=.none/\Y2c e s') E ⟨h',g,d,t,os⟩) (hrest:YdP:=by size_fits) :
  wpAny (model prog w) A (call (Yp) rest) Q E ⟨h,g,d,t,os⟩:=by
 have c:=tc_lookup;have i:=tc_bind (Yp);have j:(⟨h,g,d,t,os⟩:Shared).TypeIs (Yp) "type" := Y0j hC;refine wpAny_call (codeAny_of_tree ?_);show Y0V (callAny (Yp) _)
 repeat (any_goals (first | assumption | with_reducible refine YbK hC | wp_step))
 refine Y0l (codeAny_call_builtin_at (Ydn Kk) entry_typeCall (wpAny_check_type_call_sub hC (yY (hrest:=hrest) F T hC hi hf λh' e a=>?_)));exact hq h' e a
end
def mB(K:Frag)(C:Addr)(bmB:Ag)(newId:String):Bool:=match K.lookup C with
 | some ⟨.type "type",_,.cls cd,sl⟩=>(match cd.mro,sl.toList with
  | .ref C' :: bm,[_,_,_,_,some (.builtin n),_]=>C' == C&&n == newId && !cd.hasDel&&tailIn K bmB bm&&nsOkIn K cd.ns
  | _,_=>false)
 | _=>false
def qK{K:Frag}{h:Heap}{C:Addr}{bmB:Ag}{newId:String}(X:K.In h)(q:mB K C bmB newId=true) :
  ∃bm N nm qn bs hdct sn sub ab col dd k0 k1 k2 k3 k5,h.get? C=some (excClassObj nm qn C N bs bm hdct sn sub ab col dd k0 k1 k2 k3 k5 newId)/\OwnTail h bmB bm:=by
 unfold mB at q;cases e:K.lookup C with
 | none=>rw[e]at q;cases q
 | some o =>
  rw[e]at q;obtain⟨u,dd,p,m⟩:=o;split at q
  ·rename_i _ dd' cd sl' ho
   cases ho;split at q
   ·rename_i C' bm k0 k1 k2 k3 n k5 hm hs
    rw[aP,aP,aP,aP]at q;obtain⟨⟨⟨⟨c,d⟩,a⟩,g⟩,r⟩:=q;have c:C'=C:=by simpa using c
    have d:n=newId:=by simpa using d
    have a:Y6 cd.hasDel:=by simpa using a
    subst c d;obtain⟨nm,bs,i,j,qn,hd,sn,sub,ab,col,del⟩:=cd;cases hm;cases a;obtain⟨l⟩:=m;cases hs;exact⟨bm,j,nm,qn,bs,hd,sn,sub,ab,col,dd,k0,k1,k2,k3,k5,X _ _ e,tail_of_in X g⟩
   ·cases q
  ·cases q
structure MkX(K:Frag)(C f:Addr):Prop where
 shape:mB K C xD "ValueError.__new__" = true
 init:Y4L "__init__" = Y2O f
 fn:isFn K (.ref f)=true
 kp:keepIn K (Yp)=true
section
variable{prog:Program}{w:World}{A:Around}{E:Y8}{s:Shared}{K:Frag}{C f:Addr}{rest:Ag}
def UN{Q:Y8}(M:MkX K C f)(X:Y3F)
  (hq:∀h' e,Yc2 s.heap e Yp rest ->
   wpAny (model prog w) (Yaw "type.__call__" ⟨Yp :: rest,[]⟩) (Ycw f (Y2V :: rest)) (λr s'=>r=.none/\Y2c e s') E ({ s with heap:=h' })) (hrest:YdP) :
  Y0U (call (Yp) rest):=by
 obtain⟨m,N,D,qn,bs,a,u,sub,i,h,B,G,I,x,l,y,c,TL⟩:=qK X M.shape;obtain⟨p,g,d,t,j⟩:=s;exact QM (hrest:=hrest) PySem.F.excBase_ValueError TL c (looks_findIn X M.init) (λself=>bind_fn X self (iM.mp M.fn)) hq
end
end L2
namespace L2
open PySem PySem.W PySem.Spec PySem.Calls PyProof.Rows Builtin Builtin.ObjectAttr
def IU(d:Addr)(fs:Y1M V):HO:=.ext λh=>∃mA,h.Ns1 d mA/\(∀f,qY (Ycg) (mA f))/\YdU (fs.map (·.1))
def IU.ok{P:Program}{w:World}{H:Hp}{h:Heap}{d:Addr}{fs:Y1M V}{mA:Y03}(n:h.Ns1 d mA)(r:∀f,qY (Ycg) (mA f))(wi:YdU (fs.map (·.1))):dU P w H h d (IU d fs):=by
 refine⟨⟨mA,n,r,wi⟩,(let ⟨o,_,_,e,_⟩:=n;⟨o,e⟩),?_⟩;rintro a c ⟨mA,n,r,wi⟩ k;exact⟨mA,n.at λo e=>k o e,r,wi⟩
def QW(H:Hp):Y18 Y0u
 | none=>True
 | some d=>∃fs,H d=some (IU d fs)
def NF{X:Cx}{pins:Ad}{σ:St}{H:Hp}{s:Shared}{a C:Addr}{od:Y0u}(I:Y2)(h:H a=Y8t a C od)(hd:QW H od):∃ox d,Y62 a ox C d:=by
 obtain⟨⟨c,m,j,g,i,l,_⟩,_⟩:=Y5M a h;cases od with
 | none=>exact⟨c,none,⟨j,g,by unfold notCls;rw[l],by rw[i];trivial⟩⟩
 | some d =>
  obtain⟨fs,hd⟩:=hd;obtain⟨_,⟨o,e⟩,_⟩:=Y5M d hd;exact⟨c,Y5,⟨j,g,by unfold notCls;rw[l],by rw[i];exact e⟩⟩
def qE:Y27 Ag
 | [.type a,.type b,.type c,.type d]=>a == "ValueError" && b == "Exception" && c == "BaseException" && d == "object"
 | .ref _::r=>qE r
 | _=>false
def JS{c:Addr}{r:Ag}(e:qE (.ref c::r)=true):qE r=true:=by
 unfold qE at e;exact e
def GZ{l:Ag}(e:qE l=true)(n:∀c r,l ≠ .ref c::r):l=xD:=by
 unfold qE at e;split at e
 ·simp only[aP,iM]at e;obtain⟨⟨⟨rfl,rfl⟩,rfl⟩,rfl⟩:=e
  rfl
 ·exact Y4e (n _ _)
 ·cases e
def tN{P:Y18 Ag}(hb:P xD)(hs:∀c r,P r->P (.ref c::r)):∀{l:Ag},qE l=true->P l:=by
 intro l
 induction l with
 | nil=>intro e;exact Y7b e
 | cons v r ih =>
  intro e;cases v with
  | ref c=>exact hs c r (ih (JS e))
  | _=>rw[GZ e (λc r z=>by cases z)];exact hb
structure uC(K:Frag)(C:Addr):Prop where
 hd:YeN K=true
 po:((clsIn K C).any λcd=>qE cd.mro)=true
 sa:Y4L "__setattr__" = Y4d "object.__setattr__"
section
variable{prog:Program}{w:World}{A:Around}{E:Y8}{s:Shared}{K:Frag}{x C:Addr}{R:Y75}
def CJ{ox:Obj}{od:Option Obj}{name:Str}{tk:Tok}{v:Value}(X:Y3F)(I:Y62 x ox C od)(c:uC K C)(ht:Y4L name=Y12)
  (h:∀b,wpAny (Y1F) A.in1 (storeInOwnDict (Y1v) (Yp) (Y9P tk) name v b)
   (λfin s'=>match fin with | .done f=>R (.ok f) s' | .again c'=>c'.quiet=true/\codeAny (model prog w) A c' R s') (λe s'=>R (.error e) s') s) :
  Y70 Y1F A (.builtin "object.__setattr__") ⟨[Y1v,Y9P tk,v],[]⟩ R s:=by
 have SF:=PySem.F.store_object;obtain⟨a,j,g⟩:=any_some c.po;have ne:Y6 a.mro.isEmpty:=tN (P:=λl=>Y6 l.isEmpty) rfl (λ_ _ _=>rfl) g;have i:a.mro.contains (.type "object")=true:=tN (P:=λl=>l.contains (.type "object")=true) Kk (λc r z=>by rw[List.contains_cons,z,Bool.or_true]) g;have d:refuseLoop (Y1v) "__setattr__" a.mro=pure ():=tN (P:=λl=>refuseLoop (Y1v) "__setattr__" l=pure ()) (PySem.F.store_ValueError.passes _) (λc r z=>by rw[refuseLoop_ref];exact z) g;have sub:Y9C s.heap (isInstance (Y1v) (.type "object")) true:=I.type.andThen (looks_mroIn X (by unfold mroIn;rw[j,Option.bind_some,if_neg (by rw[ne];decide),i]));refine codeAny_call_builtin SF.slot.plain SF.entry (@check_slot (Y1F) _ _ s "object.__setattr__" "object" "__setattr__" (Y1v) [Y9P tk,v] [] _ SF.kind SF.split sub (SF.args (Y1v) (Y9P tk) v) ?_);have m:Y9C s.heap (mroOf (Yp)) a.mro:=(looks_clsIn X j).andThen .now;rw[osa_eq,refuse_eq];refine Y7Q (I.type.here (wpAny_bind (m.here ?_)));rw[d];refine wpAny_pure (wpAny_bind (I.type.here (wpAny_bind ((looks_findIn X ht).here (Y91)))));exact h _
def SZ{ox:Obj}{vs:Ai}{name:Str}{v:Value}{Q:Y3J}(X:Y3F)(c:uC K C)(na:Y4L name=Y12)(hx:Y24 x ox)(hc:ox.cls=Yp)(hd:ox.data=Y8i)(ho:ox.dict=none)
    (h:∀h',Y61 x (some { ox with dict:=some s.heap.objs.size })->h'.Ns1 s.heap.objs.size (λy=>if y=name then Yq else none)->(Y0I (b≠x) (Y2U->Y0n=Y5))->Q () { s with heap:=h',toks:=s.toks+2 }) :
    Y0U (setAttr (Y1v) name v):=by
  have I:Y62 x ox C none:=⟨hx,hc,by unfold notCls;rw[hd],by rw[ho];trivial⟩;refine set_plain X I c.sa (CJ (s:={ s with toks:=s.toks+1 }) X I c na λb=>?_);obtain⟨U,m,j⟩:=any_some c.hd;obtain⟨R,S,P,L⟩:=ox;dsimp only at hc hd ho;subst hc hd ho;refine Y5q (Y7Q (wpAny_loadPart hx (wpAny_bind (Looks.here (s:={ s with toks:=s.toks+1 }) (looks_clsIn X m) ?_))));rw[j];show wpAny (Y1F) A.in1 (do
                let d <-alloc { cls:=Value.type "dict",data:=Data.dict #[] }
                update x λo=>{ cls:=o.cls,dict:=some d,data:=o.data,slots:=o.slots }
                pure (some d)) _ _ _
  have i:(s.heap.push { cls:=.type "dict",data:=.dict #[] }).get? x=some { cls:=Value.ref C,data:=Data.fields vs,slots:=L }:=Y0T hx;have g:Yav x:=cJ (aY hx);refine wpAny_bind (wpAny_alloc' ?_);refine wpAny_bind (wpAny_update' i ?_);refine Y1B;have D:((s.heap.push { cls:=.type "dict",data:=.dict #[] }).update x λo=>{ cls:=o.cls,dict:=some s.heap.objs.size,data:=o.data,slots:=o.slots }).get? s.heap.objs.size
      = some { cls:=.type "dict",data:=.dict #[] } :=
    (Heap.get?_update_ne _ _ _ _ g.symm).trans (Heap.get?_push_at rfl rfl)
  have p:((s.heap.push { cls:=.type "dict",data:=.dict #[] }).update x λo=>{ cls:=o.cls,dict:=some s.heap.objs.size,data:=o.data,slots:=o.slots }).Ns s.heap.objs.size (Ycu) :=
    ⟨_,#[],_,D,rfl,λe N=>absurd N (by simp),λ_=>rfl⟩
  show Y0V (storeInDict s.heap.objs.size (Y9P s.toks) name v);unfold storeInDict newKeyGuard;refine Y5q (wpAny_bind (wpAny_nsSet1 (Heap.Ns1.of_empty p) λh' a hs=>?_));obtain⟨O,M,J,l,u,r⟩:=a.count (Within.cons name v Within.nil);refine wpAny_bind (wpAny_lookBehind l (by rw[u];exact pastItsLine_dict (aM r (by rw[bM,List.length_nil,sizeLine_eq];exact Oo))) ?_);refine wpAny_pure (h h' ?_ a λb T B G=>?_)
  · refine(hs.2 x g).trans (Heap.get?_update_self _ i ?_)
    rfl
  · exact(hs.2 b (cJ (aY G))).trans ((Heap.get?_update_ne _ _ _ _ B).trans (Y0T G))
def SY{ox:Obj}{vs:Ai}{d:Addr}{mA:Y03}{ns:Ah}{name:Str}{v:Value}{Q:Y3J}(X:Y3F)(c:uC K C)(na:Y4L name=Y12)(hx:Y24 x ox)(hc:ox.cls=Yp)(hd:ox.data=Y8i)(ho:ox.dict=Y2B)
  (hn:s.heap.Ns1 d mA) (hw:YdU ns) (hsz:Y66 1000)
  (h:∀h',h'.Ns1 d (λy=>if y=name then Yq else mA y)->Y9f d h'->Q () { s with heap:=h',toks:=s.toks+2 }) :
  Y0U (setAttr (Y1v) name v):=by
 have I:∃u,Y62 x ox C Yt:=by
  obtain⟨o,_,_,e,_⟩:=id hn;exact⟨o,hx,hc,by unfold notCls;rw[hd],by rw[ho];exact e⟩
 obtain⟨o,I⟩:=I;refine set_plain X I c.sa (CJ (s:={ s with toks:=s.toks+1 }) X I c na λb=>?_);obtain⟨N,l,i⟩:=any_some c.hd;obtain⟨M,u,J,L⟩:=ox;dsimp only at hc hd ho;subst hc hd ho;refine Y5q (Y7Q (wpAny_loadPart hx (wpAny_bind (Looks.here (s:={ s with toks:=s.toks+1 }) (looks_clsIn X l) ?_))));rw[i];refine wpAny_pure (a:=Y2B) (Y5q Y39);refine wpAny_nsSet1 (s:={ s with toks:=s.toks+1 }) hn λh' g m=>?_;obtain⟨G,D,B,j,r,p⟩:=g.count (PySem.Within.cons name v hw);refine wpAny_bind (wpAny_lookBehind j (by rw[r];exact pastItsLine_dict (aM p (by rw[bM,sizeLine_eq];exact Oo))) ?_);exact wpAny_pure (h _ g m)
end
section
variable{X:Cx}{pins:Ad}{σ:St}{H:Hp}{s:Shared}{a C d:Addr}{fs:Y1M V}{f:Str}{v:V}{A:Around}{E:Y8}
def RT{o:HO}(h:H a=Y5):Y1c o=H:=by
 funext b
 by_cases e:b=a
 ·subst e;rw[bR,h]
 ·rw[cH e]
def VH{b:Bool}{Q:Y8}(I:Y2)(e:H a=Y8t a C Y2B)(ed:H d=Y9S d fs)(c:kU X.K C)(hh:YeN X.K=true)(n:wV X.K C f)(l:Ycg=Yq)
  (h:∀u s',Y5r s'->Y2G->Q u s'):Y6L A (getAttr (Y7) f b) Q E s:=by
 obtain⟨⟨G,J,B,i,y,D,_⟩,_⟩:=Y5M a e;obtain⟨⟨x,p,r,_⟩,_⟩:=Y5M d ed;obtain⟨od,g,j⟩:=CM p;obtain⟨u,m,ru⟩:=Yfe (x f) (by rw[<-l];exact r f);exact VL (od:=some od) c I.kIn ⟨B,i,by unfold notCls;rw[D],by rw[y];exact g⟩ (findObj_own hh n rfl (by rw[j,m])) (QB ru) (h u _ (Y0S) ru)
end
def OL{x:V}{xs:Al}{us:Ag}(r:Y1T (x::xs)):∃u ur,us=u::ur/\dN x u/\dG xs ur:=by cases r with | cons a b=>exact Y3y a b
def aA4(K:Frag)(ta:TE)(f:Str):TE:=Ybq σ H (∃a C d fs v,x=Y7/\H1 a=Y8t a C Y2B/\H1 d=Y9S d fs/\kU K C/\YeN K=true/\wV K C f/\Ycg=Yq/\Q v H1)
structure FnI(P:Program)(w:World)(K:Frag)(mg:Y03)(base:Heap)(k:Nat)(C:Addr)(ps:Ah)(sp:Sp):Prop where
 ex:∃f fd,cX P w K mg base cN k f fd ps sp/\MkX K C f/\vN K fd ps []
structure FV(K:Frag)(C:Addr):Prop where
 rd:readsIn K C (.type "type")=true
 fd:findCls K (Yp) (.type "type") "__init__" = some (.val (.builtin "ValueError.__init__"))
 ga:specialIn K (Yp) "__getattribute__" = Y4d "type.__getattribute__"
section
variable{X:Cx}{k:Nat}{f C:Addr}{fd:FuncData}{ps:Ah}{sp:Sp}{x g:Str}{p pos np apos pos':Pos}{e o value:Expr}{es:Yz}{t:TA}{ta tv:TE}
def XO(he:Y3W e)(hb:attributeBase e g X.env Y1p=Y1p:=by rfl):Ye (YeL e pos) (aA4 X.K ta g):=⟨by
 intro i s σ H Q I h;refine aAJ hb (thn (he.p i s σ H _ I h) λu D ⟨x,H1,I1,j,a,C,d,fs,v,w,y,m,c,r,n,l,q⟩=>?_);subst w;obtain rfl:u=Y4b:=j;exact VH I1 y m c r n l λB A I2 ru=>⟨v,H1,I2,ru,q⟩⟩
@[irreducible] def TU(K:Aa):Y0W:=λxs H Q=>∃a C od c u b,xs=[Y7,c]/\H a=Y8t a C od/\QW H od/\kU K C/\dN c u/\YdW Yp u=Y5Q/\Y0H b
def ryI{K:Aa}{H:Hp}{Q:VK}{a C:Addr}{od:Y0u}{c:V}{b:Bool}(ha:H a=Y8t a C od)(hx:QW H od)(ec:kU K C)(u:Value)(ru:dN c u)(e:YdW Yp u=Y5Q)(q:Y0H b):TU K [Y7,c] H Q:=by
 unfold TU;exact⟨a,C,od,c,u,b,rfl,ha,hx,ec,ru,e,q⟩
def aAt:Y35 "isinstance" (TU X.K):=by
 unfold TU;intro g s σ H D A Q I r h;obtain⟨a,C,G,c,u,b,rfl,y,w,x,ru,e,q⟩:=h;obtain⟨u1,j,rfl,m,d⟩:=LM r;cases(show u1=Value.ref a from m);have l:=NF I y w;have:j=u:=by
  cases c with
  | ref p=>cases ru;cases d;rfl
  | ty n=>cases ru;cases d;rfl
  | non=>cases ru;cases d;rfl
  | bl _=>cases ru;cases d;rfl
  | int i=>obtain⟨t,rfl⟩:=ru;simp[PySem.W.kitOne,PySem.W.kitCls]at e
  | str i=>obtain⟨t,rfl⟩:=ru;simp[PySem.W.kitOne,PySem.W.kitCls]at e
  | byt i=>obtain⟨t,rfl⟩:=ru;simp[PySem.W.kitOne,PySem.W.kitCls]at e
  | flt i=>obtain⟨t,rfl⟩:=ru;simp[PySem.W.kitOne,PySem.W.kitCls]at e
 subst this;exact Y7R (HH x) l e (λz=>nomatch z) (λB=>Y3Q b H Y0S q)
end
end L2
namespace L2
open PySem PySem.W PySem.Spec PySem.Calls PyProof.Rows
def wK(K:Frag)(C:Addr):Bool:=Y4L "__getattribute__" == Y4d "BaseException.__getattribute__"&&Y4L "__getattr__" == Y12&&subIn K (Yp) (.type "BaseException") == Y2e &&
 (clsIn K C).isSome&&Y4L "__class__" == Y4d "object.__class__"&&specialIn K (.builtin "object.__class__") "__get__" == Y4d "getset_descriptor.__get__" &&
 takesIn K (.builtin "object.__class__") == Y2e&&mroIn K C (.type "object") == Y2e
def wK.cls{K:Frag}{C:Addr}(h:wK K C=true):kU K C:=by
 unfold wK at h;simp only[aP,iM]at h;obtain⟨⟨⟨⟨⟨⟨⟨a,b⟩,c⟩,d⟩,e⟩,f⟩,g⟩,i⟩:=h;exact⟨a,b,c,d,e,f,g,i⟩
def gW(K:Frag)(C:Addr)(ns:Ah):Bool:=YeN K&&(clsIn K C).any (λcd=>qE cd.mro)&&Y4L "__setattr__" == Y4d "object.__setattr__"&&mB K C xD "ValueError.__new__" &&
 ns.all λn=>Y4L n == Y12
def gW.set{K:Frag}{C:Addr}{ns:Ah}(h:gW K C ns=true):uC K C:=by
 unfold gW at h;simp only[aP,iM]at h;obtain⟨⟨⟨⟨a,b⟩,c⟩,d⟩,e⟩:=h;exact Y4A b c
def gW.shape{K:Frag}{C:Addr}{ns:Ah}(h:gW K C ns=true):mB K C xD "ValueError.__new__" = true:=by
 unfold gW at h;simp only[aP,iM]at h;exact h.1.2
def gW.no{K:Frag}{C:Addr}{ns:Ah}(h:gW K C ns=true){n:Str}(hn:n∈ns):wV K C n:=by
 unfold gW at h;simp only[aP,iM]at h;have:=List.all_eq_true.mp h.2 n hn;exact iM.mp this
def sJ(K:Frag)(C:Addr):Bool:=readsIn K C (.type "type")&&specialIn K (Yp) "__getattribute__" == Y4d "type.__getattribute__" &&
 (match findCls K (.ref C) (.type "type") "__init__" with | some (.val (.builtin i))=>i == "ValueError.__init__" | _=>false)
def sJ.base{K:Frag}{C:Addr}(h:sJ K C=true):FV K C:=by
 unfold sJ at h;simp only[aP,iM]at h;obtain⟨⟨a,b⟩,c⟩:=h;refine Y4A ?_ b;split at c
 ·rename_i i e
  rw[e,iM.mp c]
 ·cases c
end L2
namespace L2
open PySem PySem.W PySem.Spec PySem.Calls PyProof.Rows Builtin Builtin.ObjectAttr
def kS(a C:Addr)(od:Y0u):HO:=.ext λh=>∃oe vs,Y7f=some oe/\oe.cls=Yp/\oe.dict=od/\oe.data=Y8i/\CzV (Yp) vs/\vs[1]?=YfS
section
variable{P:Program}{w:World}{H:Hp}{h:Heap}{a C:Addr}{od:Y0u}
def kS.ok(x:kF h a Yp od none):dU P w H h a (kS a C od):=by
 obtain⟨c,e,d,g,j,m,l,i⟩:=x;refine Y0w ⟨c,e,d,g,j,m,l,i⟩ ⟨c,d⟩;rintro p r ⟨c,e,d,g,j,m,l,i⟩ k;exact⟨c,e,k _ d,g,j,m,l,i⟩
def kS.exc(x:dU P w H h a (kS a C od)):kF h a Yp od none:=by
 obtain⟨⟨c,d,j,e,i,m,l,g⟩,_⟩:=x;exact⟨c,d,j,e,i,m,l,g⟩
end
section
variable{prog:Program}{w:World}{A:Around}{E:Y8}{s:Shared}{K:Frag}{x C:Addr}
def KL{oe:Obj}{vs:Ai}{rest:Ag}{Q:Y8}(X:Y3F)(sh:mB K C xD "ValueError.__new__" = true)(he:Y24 x oe)(hc:oe.cls=Yp)(hd:oe.data=Y8i)(hz':CzV (Yp) vs)(hv:vs[1]?=YfS)(hr:YdP)
  (k:∀h',kF h' x Yp oe.dict none->(Y0I (b≠x) (Y2U->Y0n=Y5))->Q .none { s with heap:=h' }) :
  Y0U (Y84 "ValueError.__init__" (Y1v :: rest)):=by
 obtain⟨G,N,O,qn,bs,l,I,sub,y,p,M,P,R,J,B,L,j,TL⟩:=qK X sh;have F:=PySem.F.excBase_ValueError;have D:=hz'.sz;obtain⟨h,g,d,t,os⟩:=s;refine wpAny_call (codeAny_call_builtin F.init.plain F.initEntry (wpAny_check_init_subT F TL j he hc ?_));unfold Builtin.«BaseException.__init__»;dsimp only;refine wpAny_bind (wpAny_newTuple ?_ hr);dsimp only at he j k ⊢;have a:(h.push { cls:=Value.type "tuple",data:=Data.seq rest.toArray }).get? x=some oe:=Y0T he;have r:vs[0]?=some vs[0]:=Array.getElem?_eq_getElem Oo;unfold BaseException.bexcPut;refine Y7Q (wpAny_field a hd r ?_);refine Yd5 a hd Oo ?_;have i:=Yfm (·.setIfInBounds 0 (Value.ref h.objs.size));have c:Q .none { heap:=(h.push { cls:=Value.type "tuple",data:=Data.seq rest.toArray }).update x (Obj.mapFields (·.setIfInBounds 0 (Value.ref h.objs.size))),gens:=g,drawn:=d,toks:=t,os:=os }:=by
  refine k _ ⟨_,_,Yal _ a i,?_,?_,i,hz'.set Dd,?_⟩ λb o u e=>?_
  ·rw[Obj.cls_mapFields];exact hc
  ·obtain⟨_,_,m,_⟩:=oe;cases m <;> rfl
  ·show(vs.setIfInBounds 0 _)[1]?=YfS;rw[Array.getElem?_setIfInBounds_ne Dd];exact hv
  ·rw[Yeu _ u];exact Y2D
 split
 ·exact wpAny_letGo (wpAny_pure c)
 ·exact Yd9 c
end
section
variable{X:Cx}{pins:Ad}{σ:St}{H:Hp}{s:Shared}{a C d:Addr}{fs:Y1M V}{f:Str}{v:V}{A:Around}{E:Y8}
def QG{y:V}{u:Value}{Q:Y3J}(I:Y2)(e:H a=Y6e a C none)(c:uC X.K C)(n:wV X.K C f)(ry:Y3n)
  (h:∀d s',H d=none->d≠a->Y1N (upd (Y1c (kS a C (Y2B))) d (IU d [(f,y)])) s'->Q () s'):Y6L A (setAttr (Y7) f u) Q E s:=by
 obtain⟨⟨R,S,i,x,G,p,L,N⟩,_⟩:=Y5M a e;refine SZ I.kIn c n i x p G λl j P B=>h s.heap.objs.size _ I.fresh (YfB i) ?_;have J:Ydw a:=YfB i;have m:upd H a (kS a C (Yfb)) s.heap.objs.size=none:=by rw[cH J];exact I.fresh
 have r:Mut (H a):=by rw[e];exact True.intro
 have M:Y7z (Y1c (kS a C (Yfb))) l:=I.hok.write r (Y21) B (Y0p j) (kS.ok (Y1Y _ _ j x p L N));have O:Y8J X.fs [] H (Y1c (kS a C (Yfb))) l:=Un.write r (Y21) B (Y0p j);refine I.un (O.put (YeX) m) (M.put m (IU.ok P (λg=>?_) λg D=>?_))
 ·show qY (List.lookup g [(f,y)]) _;by_cases q:g=f
  ·rw[Y6h,q];simp only[List.lookup,beq_self_eq_true];exact ry
  ·rw[Y3f];have:Y6 (g == f):=beq_eq_false_iff_ne.mpr q;simp only[List.lookup,this]
   trivial
 ·by_cases q:g=f
  ·subst q;simp
  ·exact absurd (Y3f) D
def QF{y:V}{u:Value}{Q:Y3J}(I:Y2)(e:H a=Y6e a C Y2B)(ed:H d=Y9S d fs)(c:uC X.K C)(n:wV X.K C f)(hl:fs.length<1000)(ry:Y3n)
  (h:∀s',Y1N (Y3G d (IU d (xP f y fs))) s'->Q () s'):Y6L A (setAttr (Y7) f u) Q E s:=by
 obtain⟨⟨N,R,G,L,p,D,O,P⟩,_⟩:=Y5M a e;obtain⟨⟨i,m,r,j⟩,_⟩:=Y5M d ed;refine SY I.kIn c n G L D p m j (by rw[aA];exact Oo) λB O' J=>h _ ?_;have hd:∃o,B.get? d=Y5:=let ⟨o,_,_,e',_⟩:=O';⟨o,e'⟩;refine Yfy d d (by rw[ed];exact True.intro) (λb q M z=>(J.2 b M).trans z) hd (IU.ok O' (λg=>?_) λg l=>?_)
 ·show qY ((xP f y fs).lookup g) (if g=f then Yt else i g);rw[xE];by_cases q:g=f
  ·rw[Y6h,Y6h];exact ry
  ·rw[Y3f,Y3f];exact r g
 ·by_cases q:g=f
  ·rw[q];exact(wJ f y fs).1
  ·refine(wJ f y fs).2 g (j g λz=>l ?_);show(if g=f then Yt else i g)=none;rw[Y3f];exact z
def cF.excMadeN{h':Heap}{args:Ag}(I:Y2)(x:Yc2 s.heap a Yp args):H a=none/\Y1N (Y1c (kS a C none)) ({ s with heap:=h' }):=by
 have c:H a=none:=by
  cases z:H a with
  | none=>rfl
  | some u=>obtain⟨d,e⟩:=(I.hok a u z).get;rw[x.new]at e;cases e
 exact⟨c,I.un (t':=s.toks) ((Un.kept x.keeps).put x.new c) ((I.hok.kept x.keeps).put c (kS.ok (MadeExcOf.at x)))⟩
end
def aBS(K:Frag)(t:TA):TE:=Y3t (λvs H1=>∃a C od r,vs=Y7::r/\vs.length<=64/\H1 a=Y6e a C od/\mB K C xD "ValueError.__new__" = true/\Q .non H1)
def aEE(K:Frag)(ta tv:TE)(f:Str):TS:=λD σ H=>tv σ H λy H1=>ta σ H1 λx H2=>∃a C,x=Y7/\uC K C/\wV K C f /\
 ((H2 a=Y6e a C none/\∀d,H2 d=none->d≠a->Y6X (upd (upd H2 a (kS a C (Y2B))) d (IU d [(f,y)]))) \/
  ∃d fs,H2 a=Y6e a C Y2B/\H2 d=Y9S d fs/\fs.length<1000/\Y6X (upd H2 d (IU d (xP f y fs))))
section
variable{X:Cx}{k:Nat}{f C:Addr}{fd:FuncData}{ps:Ah}{sp:Sp}{x g:Str}{p pos np apos pos':Pos}{e o value:Expr}{es:Yz}{t:TA}{ta tv:TE}
def RP{E0a:Addr}{pl:Sem Bool}(B:FV X.K E0a)(hm:Y3T=Y4 E0a)(ha:IR X (e::es) t)(hg:Y1L:=by rfl)
  (hdb:Y0Y ("__debug__" : Str):=by decide) (he:Y42=(false,Y1p)::Y2W:=by first | exact oF | exact lY | exact oG | exact gP | exact rJ)
  (hpl:Y6 ((backTo pos (starEach es X.env)).any (·.1)):=by repeat (first | exact nO | refine kQ (by first | exact oF | exact lY | exact oG | exact gP | exact rJ) ?_))
  (ht:eval (.Call (.Attribute (.Name x np) "__init__" apos) (e::es) [] pos) X.env=(do
   let ov <-eval (.Name x np) X.env
   standAt apos.atName
   let (f,first) <-holding [ov] (getMethod ov "__init__" pl)
   callWith pos f first (backTo pos (starEach (e::es) X.env)) (backToKw pos (keywordEach [] X.env))):=by rfl) :
  Ye (.Call (Y9l (Y94 np) "__init__") (e::es) [] pos) (aBS X.K t):=⟨by
 intro c s σ H Q I h;refine PySem.W.methodCall_KW (pl:=pl) (vA I hg hm ?_ hdb) ht;refine method_cls I.kIn B.ga (cls_value I.kIn B.rd B.fd rfl ?_);have I0:Y1J c H ({ s with toks:=s.toks+1 }):=Y0S;have i:=ha.p pos c _ σ H _ I0 h;rw[he]at i ⊢;refine Calls.callWith_builtin (by show Y6 (false || (backTo pos (starEach es X.env)).any (·.1));rw[hpl] <;> rfl) (Calls.evalArgs_plain (thn i λα m ⟨l,H1,I1,r,a,C,R,g,U,G,e,J,q⟩=>?_));subst U;obtain⟨u,Z,rfl,w,g⟩:=OL r
 ·cases(show u=Value.ref a from w);obtain⟨⟨j,l,P,S,D,O,L,N⟩,_⟩:=I1.hok a _ e;refine KL I1.kIn J P S O L N (by rw[<-g.length];exact oE (aM (Nat.le_succ _) G)) λA d M=>?_;rw[D]at d;have I2:Y1J c (upd H1 a (kS a C R)) ({ m with heap:=A }):=I1.write (x:=a) (e:=a) (t':=m.toks) (by rw[e];exact True.intro) (Y21) (λb o T q=>M b o T q) (let ⟨j,l,y,_⟩:=d;⟨j,y⟩) (kS.ok d);rw[RT e]at I2;exact Y3z V.non H1 I2 q⟩
def LE(ha:Y3W o)(hv:Ye value tv)(hs:Yb2 value (YeL o pos')=Y5y:=by rfl):FZ X (Y8h [YeL o pos'] value) (aEE X.K ta tv g):=⟨by
 intro e s σ H D I h;refine plainObj_wpAny_Assign_Attribute (thn (hv.p e s σ H _ I h) λu L ⟨y,H1,I1,m,q⟩=>thn (ha.p e L σ H1 _ I1 q) λM N ⟨x,H2,I2,r,a,C,G,c,n,i⟩=>?_) hs;subst G;obtain rfl:M=Y4b:=r;rcases i with⟨j,i⟩ | ⟨d,fs,j,w,l,i⟩
 ·exact QG I2 j c n m λd B A J I3=>⟨σ,_,I3,i d A J⟩
 ·exact QF I2 j w c n l m λB I3=>⟨σ,_,I3,i⟩⟩
end
def del(H:Hp)(a:Addr):Hp:=λb=>if b=a then none else H b
def BE{H:Hp}{a:Addr}:del H a a=none:=Y1P
def qN{H:Hp}{a b:Addr}(h:b≠a):del H a b=H b:=Y6i
theorem mD.del{P:Program}{w:World}{H:Hp}{h:Heap}{a:Addr}{F:Y4h}(x:Y2a)(e:H a=some (.ext F)):mD P w (del H a) h:=λb o q=>by
 by_cases hb:b=a
 ·subst hb;rw[BE]at q;cases q
 ·rw[qN hb]at q;refine(x b o q).stay (λc u _ r=>r) (λc r=>?_) λc d r=>?_
  ·rw[qN (λz=>by subst z;rw[e]at r;cases r)];exact r
  ·rw[qN (λz=>by subst z;rw[e]at r;cases r)];exact r
theorem Un.del{fs:Y0m}{H H1:Hp}{h h1:Heap}{a:Addr}{F:Y4h}(x:Un fs [] H H1 h h1)(e:H1 a=some (.ext F)):Un fs [] H (L2.del H1 a) h h1 where
 keep:=x.keep
 slot:=x.slot
 free:=λb c q n m=>by
  by_cases hb:b=a
  ·subst hb;exact BE
  ·rw[qN hb];exact x.free b c q n m
 there:=x.there
 tups:=λb d q=>by have r:=x.tups b d q;rw[qN (λz=>by subst z;rw[e]at r;cases r)];exact r
 frzs:=λb c d q=>by have r:=x.frzs b c d q;rw[qN (λz=>by subst z;rw[e]at r;cases r)];exact r
 tbls:=λb g q=>by
  obtain⟨m,r⟩:=x.tbls b g q;exact⟨m,by rw[qN (λz=>by subst z;rw[e]at r;cases r)];exact r⟩
structure KO(X:Cx)(Ex:St->XK):Prop where
 p:∀(pins:Ad) (σ:St) (H1 H2:Hp) (s1 s2:Shared) (a:Addr) (cls:Value) (od:Y0u),Y1N H1 s1->s2.os=s1.os->YfT->Un (Y71) [] H1 H2 s1.heap s2.heap->Y7z H2 s2.heap ->
  kF s2.heap a cls od none->Ybw a->H2 a=none->Ex σ cls od H2->X.xe (Y7) s2
def kX{P:Program}{w:World}{K:Aa}{mg:Y03}{base:Heap}{N:Ah}{qual:Str}{scope:Scope}{f:Addr}{cd:Value}{A:Around}{outer:Y1t}{s:Shared}{H:Hp}{E:XK} :
  KO (oQ (BM P w) P w K mg base N qual scope f cd A outer s H E) (λ_=>E):=⟨λg σ H1 H2 p l a cls m I h c un d x j i q =>
 AW I h c un d x (Y21) j i (λb e=>by cases e) (λb e=>by cases e) q⟩
section
variable{M:Model}{A:Around}{E:Y8}{env:Env}{K:Frag}{C:Addr}
def JN{s:Shared}{x:Y77}{Q:Y1Q Flow}(sh:mB K C xD "ValueError.__new__" = true)(hh:Y4i)
  (h:Y5g A x (λv s₁=>∃e od,v=Y2V/\K.In s₁.heap/\kF s₁.heap e Yp od none/\E (Y2V) s₁) E s) :
  Y5g A (raiseStmt env (Y9) none) Q E s:=by
 unfold raiseStmt;refine Y6O h (λv s₁ D=>?_) Ydk;obtain⟨e,od,rfl,X,⟨y,γ,r,j,B,hd,O,u⟩,p⟩:=D;obtain⟨m,N,Z,qn,bs,l,R,sub,I,w,W,β,ε,S,L,T,c,TL⟩:=qK X sh;have a:m.contains (.type "BaseException")=true:=TL.hasType PySem.F.excBase_ValueError.hasBase;have i:(Value.ref C::m).contains (.type "BaseException")=true:=by rw[List.contains_cons,a,Bool.or_true]
 obtain⟨P,g,d,U,J⟩:=s₁;obtain⟨δ,odd,G,α⟩:=y;dsimp only at j B hd r c p;subst j hd
 repeat (first | with_reducible refine YbK r | with_reducible refine YbK c | (with_reducible refine wpAny_isSubtype_exc c ?_;rw[i]) | wp_step)
 rw[u];refine Y1B;rw[Y9F];exact wpAny_pure (wpAny_raiseNew_none hh p)
end
def XZ(C:Addr)(sp:Sp)(Ex:St->XK)(t:TA):TS:=λ_ σ H=>t σ H λvs H1=>vs.length<=64/\∀a,H1 a=none ->
 sp (Y7::vs) (upd H1 a (kS a C none)) (λv H2=>v=.non/\∃od,H2 a=Y6e a C od/\Ex σ (Yp) od (del H2 a)) E0
section
variable{X:Cx}{k:Nat}{f C:Addr}{fd:FuncData}{ps:Ah}{sp:Sp}{Ex:St->XK}{x:Str}{pos np cpos:Pos}{e:Expr}{es:Yz}{t:TA}
def OX{pins:Ad}{σ:St}{H:Hp}{s:Shared}{us:Ag}{vs:Al}(M:MkX X.K C f)(F:cX X.prog X.w X.K X.mg X.base cN k f fd ps sp)(hr:Y5d (k+1))(hb:vN X.K fd ps [])(hx:KO X Ex)
  (I:Y2) (r:Y7F) (hz:vs.length<=64)
  (h:∀a,H a=none->sp (Y7::vs) (Y1c (kS a C none)) (λv H2=>v=.non/\∃od,H2 a=Y6e a C od/\Ex σ (Yp) od (del H2 a)) E0) :
  Y4q (call (Yp) us) (λv s₁=>∃e od,v=Y2V/\X.K.In s₁.heap/\kF s₁.heap e Yp od none/\X.xe (Y2V) s₁):=by
 refine UN M I.kIn (λP a x=>?_) (by rw[<-r.length];exact oE hz);obtain⟨B,I2⟩:=I.excMadeN x;have y:=h a B;have m:dG (V.ref a::vs) (Y4b::us):=.cons rfl r;have N:(Y4b::us++[]).length=ps.length:=by
  have e:=m.length;rw[F.len _ _ _ _ y]at e;rw[List.append_nil];exact e.symm
 have i:=hb _ (Y4b::us) I2.kIn N;rw[List.append_nil]at i;refine Yf4 (F.run _ X.stack _ _ ⟨Y4b::us,[]⟩ (Y4b::us) _ _ E0 (hr.make C us []) (I2.env0.make C us []) i m y) (λr D c=>?_);cases r with
 | error e=>exact Y9q
 | ok fl =>
  cases fl with
  | ret u =>
   have J:=c;obtain⟨v,H',L,g,un,d,rv,O,od,j,G⟩:=c;subst O;obtain⟨_,_,I3,_,_⟩:=I2.after J;have l:Y8J Y71 [] H H' D.heap:=((Un.kept x.keeps).put x.new B).tr un λb hb=>.inl hb;exact Y2q rv a od I3.kIn (kS.exc (d a _ j)) (hx.p pins σ H (del H' a) s D a _ od I L g (l.del j) (d.del j) (kS.exc (d a _ j)) x.new BE G)
  | next=>exact Y9q
  | brk=>exact Y9q
  | cont=>exact Y9q
def kZ(F:FnI X.prog X.w X.K X.mg X.base k C ps sp)(hm:Y3T=Y4 C)(hc:Y1V)(hr:Y5d (k+1))(hx:KO X Ex)(ha:IR X (e::es) t)(hg:Y1L:=by rfl)
  (hdb:Y0Y ("__debug__" : Str):=by decide) (he:Y42=(false,Y1p)::Y2W:=by first | exact oF | exact lY | exact zV | exact oG | exact gP | exact rJ)
  (hpl:Y6 ((backTo cpos (starEach es X.env)).any (·.1)):=by repeat (first | exact nO | refine kQ (by first | exact oF | exact lY | exact zV | exact oG | exact gP | exact rJ) ?_)) :
  FZ X (.Raise (some (Y9R (Y94 np) (e::es) [])) none pos) (XZ C sp Ex t):=⟨by
 obtain⟨f,u,l,d,j⟩:=F.ex;intro a s σ H D I h;rw[arm_exec_Raise];refine YbC ?_;show Y0V (raiseStmt X.env (some (do let v <-eval (.Call (.Name x np) (e::es) [] cpos) X.env;standAt pos;pure v)) none);refine JN d.shape (Y9z) (wpAny_bind (wpAny_mono (Q:=λv c=>∃e od,v=Y2V/\X.K.In c.heap/\kF c.heap e Yp od none/\X.xe (Y2V) c) ?_ (λv c i=>YbC (wpAny_pure i)) Ydk));refine YfD I hg hm ?_ hdb;refine YeV X.base d.kp (thn (ha.p cpos a s σ H _ I h) λm B ⟨y,H1,I1,r,g,q⟩=>Y02 I1.kIn) he hpl;exact OX d l hr j hx I1 r g q⟩
end
end L2
namespace L2
open PySem PySem.Spec PySem.W PyProof.Rows HT
@[irreducible] def YT(K:Aa):Y0W:=λxs H Q=>∃a C od tp cs b,xs=[Y7,.ref tp]/\H a=Y8t a C od/\QW H od/\kU K C/\H tp=Yl cs/\(∀us,Y1T cs->kitAny K (Yp) us=Y5Q)/\Y0H b
def rwI{K:Aa}{H:Hp}{Q:VK}{a C tp:Addr}{od:Y0u}{cs:Al}{b:Bool}(ha:H a=Y8t a C od)(hx:QW H od)(ec:kU K C)(ht:H tp=Yl cs)(e:∀us,Y1T cs->kitAny K (Yp) us=Y5Q)(q:Y0H b):YT K [Y7,.ref tp] H Q:=by
 unfold YT;exact⟨a,C,od,tp,cs,b,rfl,ha,hx,ec,ht,e,q⟩
def aAu{X:Cx}(K:Aa)(hK:X.K=K:=by rfl):Y35 "isinstance" (YT K):=by
 subst hK;unfold YT;intro g s σ H R O Q I r h;obtain⟨a,C,T,d,y,b,rfl,L,B,D,G,e,q⟩:=h;obtain⟨u,i,rfl,p,l⟩:=LM r;cases(show u=Value.ref a from p);cases(show i=Value.ref d from l);have m:=NF I L B;obtain⟨_,c,A,o,J,N,n,x⟩:=(show dU X.prog X.w H s.heap d (.tup y)from I.hok d _ G);obtain⟨S,odd,M,j⟩:=o;cases N;cases x;exact kia_tup (HH D) I.kIn m J (e c A) (λz=>nomatch z) λP=>Y3Q b H Y0S q
def HZ{X:Cx}(K:Aa)(hK:X.K=K:=by rfl):Y35 "isinstance" (TU K):=by subst hK;exact aAt
@[irreducible] def AC(K:Aa):Y0W:=λxs H Q=>∃x d T,xs=[x,.ty T]/\eQ K H d x/\(T = "int" \/ T = "bool" \/ T = "tuple" \/ T = "str" \/ T = "list" \/ T = "dict")/\Y0H (UY T d)
def fQ{X:Cx}(K:Aa)(hK:X.K=K:=by rfl):Y35 "isinstance" (AC K):=by
 subst hK;unfold AC;intro i s σ H J N Q I r h;obtain⟨x,d,T,rfl,c,l,q⟩:=h;obtain⟨u,y,rfl,m,B⟩:=LM r;cases(show y=Value.type T from B);have g:∀{t:Value},wT X.K H x t->t=.type (XW d)->Y4q (Y84 "isinstance" [u,.type T]) (EP X i σ Q):=λG e=>by
  subst e;exact PY I m G (aBi _ d T l) λD=>Y3Q _ H Y0S q
 cases d with
 | none=>cases(show x=V.non from c);exact g .non rfl
 | bool b=>cases(show x=V.bl b from c);exact g (.bl b) rfl
 | int b=>cases(show x=V.int b from c);exact g (.int b) rfl
 | str b=>cases(show x=V.str b from c);exact g (.str b) rfl
 | list ds=>unfold eQ at c;obtain⟨a,J,rfl,j,p⟩:=c;exact g (.lst j) rfl
 | dict ds=>unfold eQ at c;obtain⟨_,a,rfl,j⟩:=c;exact g (.dK j) rfl
 | tuple ds =>
  unfold eQ at c;obtain⟨a,M,rfl,L,_⟩:=c;cases(show u=Value.ref a from m);obtain⟨C,_,⟨o,j,p,_⟩,_⟩:=I.tuple L;exact kia_one kitx_tuple I.kIn (Y0P j p) (aBi _ (Yy) T l) (λz=>nomatch z) λD=>Y3Q _ H Y0S q
section
variable{K:Aa}{H:Hp}{x:V}{d:PyData}{Q:VK}
def rkI{T:String}(r:eQ K H d x)(q:Y0H (UY T d))(hT:(T = "int" \/ T = "bool" \/ T = "tuple" \/ T = "str" \/ T = "list" \/ T = "dict"):=by decide):AC K [x,.ty T] H Q:=by unfold AC;exact Y2q x d T r hT q
def rK(r:eQ K H d x)(q:Y0H (KH d)):AC K [x,.ty "tuple"] H Q:=rkI r (by rw[aAk];exact q)
def aA9(r:eQ K H d x)(q:Y0H (aDS d)):AC K [x,.ty "int"] H Q:=rkI r (by rw[aAl];exact q)
def EH(r:eQ K H d x)(q:Y0H (VS d)):AC K [x,.ty "bool"] H Q:=rkI r (by rw[UX];exact q)
end
theorem eY.len{K:Aa}{H:Hp}:∀{ds:Ya}{vs:Al},eY K H ds vs->Y4a ds.length
 | [],_,h=>by cases(show _=[]from h);rfl
 | d::ds,_,h=>by
  unfold eY at h;obtain⟨x,xs,rfl,_,h2⟩:=h;rw[bM,bM,h2.len]
theorem eY.at{K:Aa}{H:Hp}:∀{ds:Ya}{vs:Al}{i:Nat}{x:V},eY K H ds vs->vs[i]?=Y9->∃d,ds[i]?=Y2B/\eQ K H d x
 | [],_,i,x,h,e=>by cases(show _=[]from h);simp at e
 | d::ds,_,0,x,h,e=>by
  unfold eY at h;obtain⟨y,xs,rfl,h1,_⟩:=h;cases(show y=x by simpa using e);exact⟨d,rfl,h1⟩
 | d::ds,_,i+1,x,h,e=>by
  unfold eY at h;obtain⟨y,xs,rfl,_,a⟩:=h;simpa using a.at (i:=i) (by simpa using e)
section
variable{σ:St}{js:Ae}{te:TE}{H:Hp}{Q:VK}
def KJ{K:Aa}{a:Addr}{xs:Al}(R:Nat->Y2E)(hR:Y8M (R i y H1->R i y H2))(hz:Y4Y 100000)(hl:Y5o)
  (hs:∀i x H' (Q':VK),Y0t=Y9->Y0->(∀y H5,Y5h->R i y H5->Y4H y)->te (Y9::Y0N) H' Q')
  (hd:Y2Q (H D=none) (Y0k=Y08->Y0->Y3I xs.length->(∀(i:Nat) (y:V),Y1i=Y00->R i y H')->Y1g)):kG (Itt K a) σ js vU te H Q :=
 sI (λi x=>Y0t=Y9) R hR hz (λi H' s d=>Y87 ⟨xs,xs[i],hl.keep s,by simp[d]⟩ ⟨y.1,y.2 xs (hl.keep s)⟩) (λH' s=>⟨xs,hl.keep s,Yk⟩)
  (Yg5 i x H' Q' c s k) hd
def qR{K:Aa}{a:Addr}{xs:Al}{ds:Ya}(p:Y1R)(hz:Y3H 100000)(hl:Y5o)(hr:eY K H ds xs)
  (hs:∀x d H' (Q':VK),d∈ds->eQ K H' d x->Y0->(∀H5,Y5h->Y4H (.bl (p d)))->te (Y9::Y0N) H' Q')
  (hd:∀D H',H D=none->Y0k=Y05 ((ds.map p).map V.bl)->Y0->Y1g):kG (Itt K a) σ js vU te H Q:=by
 have J:=hr.len;refine KJ (λi y _=>∃d,ds[i]?=Y2B/\y=.bl (p d)) (λi y H1 H2 s h=>h) Oo hl (λi x H' Q' u l m=>?_) (λD g H8 A c B C j=>?_)
 ·obtain⟨d,e,r⟩:=hr.at u;exact hs x d H' Q' (aF e) (r.keep l) l λH5 I=>m _ H5 I (Y4O d e)
 ·have:g=(ds.map p).map V.bl:=by
   apply List.ext_getElem?;intro i;rw[aX,aX];cases q:g[i]? with
   | none =>
    have:g.length<=i:=List.getElem?_eq_none_iff.mp q;rw[dZ Oo];rfl
   | some y =>
    obtain⟨d,G,w⟩:=j i y q;rw[G,w];rfl
  rw[this]at c;exact hd D H8 A c B
end
end L2
namespace L2
open PySem PySem.W PySem.Spec PySem.Calls PyProof.Rows
section
variable{X:Cx}
@[irreducible] def ZB:Y0W:=λxs H Q=>∃(p:Addr) (bs:Y8m),xs=[Y0x]/\H p=Y05 Y9u/\Y0H (bs.all id)
def rall{p:Addr}{bs:Y8m}{H:Hp}{Q:VK}(e:H p=Y05 Y9u)(q:Y0H (bs.all id)):ZB [Y0x] H Q:=by unfold ZB;exact Y0v p bs e q
def WK{bs:Y8m}:∀{us:Ag},Y1T Y9u->LSm.BoolsAre us bs:=by
 induction bs with
 | nil=>intro us r;cases r;exact .nil
 | cons b bs ih =>
  intro us r;cases r with
  | cons r t=>cases(show _=Value.bool b from r);exact .cons b (ih t)
def BH(hc:Y1V):Y35 "all" ZB:=by
 unfold ZB;intro g s σ H G B Q I r h;obtain⟨p,bs,rfl,e,q⟩:=h;obtain⟨_,rfl,u⟩:=nV r;cases u;obtain⟨z,a,n,rv,D,j⟩:=I.lstM e;have m:s.heap.IsList p a.toArray:=Y0v _ j n rfl;have l:=WK rv;have c:Y5v p:=aY j;refine call_all_walk (wpAny_pyIter_list m ?_);refine⟨s.heap.objs.size,[s.heap.objs.size,p],[s.heap.objs.size],a.toArray.size,_,_,λi=>(bs[i]?).getD true,rfl,Walks.list (A:=X.A.in1) (Y9z) _ p (cJ c) a.toArray,
  ⟨Y7w _,m.push _⟩,λi v J Q' E' x d=>?_,λy C w=>?_⟩
 ·obtain⟨b,e,rfl⟩:=l.get i v (by simpa using x);simp only[e,Option.getD_some]at d;exact wpAny_truthy_bool d
 ·have e:((List.range a.toArray.size).all λi=>(bs[i]?).getD true)=bs.all id:=by
   rw[bF,l.length];exact LSm.range_all bs
  rw[e];exact Y3Q _ H (I.kept (LSm.kept_iter w)) q
end
end L2
namespace L2
open PySem PySem.Spec PyProof.Rows
def pO.ext{b:Bool}{h h':Heap}{i l c:Addr}{k:Nat}(x:pO b h i l k)(s:Heap.ExtBut c h h')(n:i≠c):pO b h' i l k:=x.at λo e=>s i o n e
section
variable{prog:Program}{w:World}{A:Around}{E:Y8}{s:Shared}
def KG{b:Bool}{e it l:Addr}{i:Nat}{n:Int}{items:Ai}{x old:Value}{Q:Y8}(he:Y8q s.heap e it n)(hit:pO b s.heap it l i)(hl:Y1C b l items)(hx:Yah i=Y9)(hne:e≠it)
  (hQ:∀h' t,IsEnumOut h' e it (n+1) x s.heap.objs.size->pO b h' it l (i+1)->Yfs (some { cls:=.type "tuple",data:=.seq #[.int n t,x] })->(∀c o,c≠e->c≠it->Y3Z->Y3k c)->Q (Y19) { s with heap:=h',toks:=s.toks+1 }) :
  wpAny (model prog w) A (Builtin.«enumerate.__next__» ⟨[Y2V],[]⟩) (λfin s'=>∃v,fin=Yce v/\Q v s') E s:=by
 obtain⟨L,g,d,m,J⟩:=s;show Y0V (Y4V e 2 >>= _);refine Y5V he Y4k;refine Yer hit hl hx (λM I h=>?_);replace h:Heap.SameBut it L M:=h;have G:Y8q M e it n:=(h.2 e hne).trans he;show Y4U (Y4V e 3 >>= _) ⟨M,g,d,m,J⟩;refine Y5V G (rawInt n);show Y4U (Y4V e 4 >>= _) ⟨M,g,d,m,J⟩;refine Y5V G .none;show Y4U (mkInt n >>= _) ⟨M,g,d,m,J⟩;refine wpAny_bind (wpAny_mkInt ?_);show Y4U (setField (Y2V) 3 (rawInt (n+1)) >>= _) ⟨M,g,d,m+1,J⟩;refine Y96 G (by simp) (λZ D j=>?_);replace j:YaH M Z:=j;replace D:Y8q Z e it (n+1):=D;show Y4U (setField (Y2V) 4 .none >>= _) ⟨Z,g,d,m+1,J⟩;refine Y96 D (by simp) (λS B p=>?_);replace p:YaH Z S:=p;replace B:Y8q S e it (n+1):=B;show Y4U (newTuple [.int n m,x] >>= _) ⟨S,g,d,m+1,J⟩;refine wpAny_bind (wpAny_newTuple ?_);have C:Y8q (S.push { cls:=.type "tuple",data:=.seq #[.int n m,x] }) e it (n+1):=Y0T B;generalize hh₄:S.push { cls:=.type "tuple",data:=.seq #[.int n m,x] }=X at C;have N:S.objs.size=L.objs.size:=by rw[p.1,j.1,h.1]
 have U:e<L.objs.size:=aY he;have ε:X.get? L.objs.size=some { cls:=.type "tuple",data:=.seq #[.int n m,x] }:=by rw[<-hh₄,<-N];exact Y14
 have δ:∀c o,c≠e->c≠it->L.get? c=Y5->X.get? c=Y5:=λc o a O ζ=>by rw[<-hh₄];exact Y0T (p.extBut c o a (j.extBut c o a (h.extBut c o O ζ)))
 have W:pO b X it l (i+1):=by rw[<-hh₄];exact((I.ext j.extBut (Ne.symm hne)).ext p.extBut (Ne.symm hne)).at λo η=>Y0T η
 show Y4U (YeS e >>= _) ⟨X,g,d,m+1,J⟩;rw[N];clear hh₄ B p D j G h I N S Z M;refine Y39;unfold Builtin.SmallTypes.ownedTupleIsFree;refine wpAny_bind (wpAny_field C rfl (x:=.none) rfl Y1B);simp only[if_true];refine Y99 ?_;refine Y5V C old;refine Y96 C (by simp) (λα T u=>?_);replace u:YaH X α:=u;replace T:IsEnum α e it (n+1) x:=T;show Y4U (Builtin.SmallTypes.ownedTupleHandOut (Y2V) (.ref L.objs.size) >>= _) ⟨α,g,d,m+1,J⟩;refine Y39;unfold Builtin.SmallTypes.ownedTupleHandOut;refine Y96 T (by simp) (λβ R r=>?_);replace r:YaH α β:=r;replace R:IsEnumOut β e it (n+1) x L.objs.size:=R;refine wpAny_setField_rec R (by simp) λγ P y=>?_;replace y:YaH β γ:=y;replace P:IsEnumOut γ e it (n+1) x L.objs.size:=P;refine Yd6 (wpAny_pure (Y1 (hQ γ m P ?_ ?_ ?_)))
 ·exact((W.ext u.extBut (Ne.symm hne)).ext r.extBut (Ne.symm hne)).ext y.extBut (Ne.symm hne)
 ·exact y.extBut _ _ (YfZ) (r.extBut _ _ (YfZ) (u.extBut _ _ (YfZ) ε))
 ·exact λc o a O ζ=>y.extBut c o a (r.extBut c o a (u.extBut c o a (δ c o a O ζ)))
def KF{b:Bool}{e it l:Addr}{i:Nat}{n:Int}{items:Ai}{x old:Value}{Q:Y8H}(he:Y8q s.heap e it n)(hit:pO b s.heap it l i)(hl:Y1C b l items)(hx:Yah i=Y9)(hne:e≠it)
  (hQ:∀h' t,IsEnumOut h' e it (n+1) x s.heap.objs.size->pO b h' it l (i+1)->Yfs (some { cls:=.type "tuple",data:=.seq #[.int n t,x] })->(∀c o,c≠e->c≠it->Y3Z->Y3k c)->Q (Y4 s.heap.objs.size) { s with heap:=h',toks:=s.toks+1 }) :
  Ybb e:=by
 have d:Y85 e "enumerate" := Y0j he;unfold pyNext;refine Y7S (Y89 "__next__" d F.slot_enumerate_next F.slot_enumerate_next d F.entry_enumerate_next ?_ (F.args_enumerate_next_1 _));exact KG he hit hl hx hne λh' t a b c k=>wpAny_pure (hQ h' t a b c k)
def KD{b:Bool}{e it l:Addr}{i:Nat}{n:Int}{items:Ai}{old:Value}{Q:Y8H}(hh:Y4i)(he:Y8q s.heap e it n)(hit:pO b s.heap it l i)(hl:Y1C b l items)(hx:Yah i=none)
  (hQ:∀h',YdH it h'->Q none { s with heap:=h' }):Ybb e:=by
 have d:Y85 e "enumerate" := Y0j he;unfold pyNext;refine Y7S (Y89 "__next__" d F.slot_enumerate_next F.slot_enumerate_next d F.entry_enumerate_next ?_ (F.args_enumerate_next_1 _));show Y0V (Y4V e 2 >>= _);refine Y5V he Y4k;refine wpAny_bind (JT hh hit hl hx λh' x c a=>?_);obtain⟨o,g,h⟩:=a;refine wpAny_bind (YeT "StopIteration" true (Y0P g h) ?_);exact wpAny_pure (hQ _ c)
abbrev enO(it:Addr)(n:Int):Obj:={ cls:=.type "enumerate",data:=.fields #[.none,.bool false,.ref it,rawInt n,.none,.none] }
def aDu(b:Bool)(l:Addr)(xs:Ai):YaE (Builtin.«enumerate.__new__» ⟨[.type "enumerate",Y13],[]⟩) (Y1C b l xs/\R (Yap (.ref (Yg0 b l).objs.size)) ({ s with heap:=(s.heap.push (XB b l)).push (enO s.heap.objs.size 0) })) :=
 .of_wp λe w A R s h=>by
  obtain⟨m,g,d,j,r⟩:=s;obtain⟨p,h⟩:=h;have a:=sub_enumerate;have i:lL b (Shared.heap ⟨m,g,d,j,r⟩) l xs:=p
  wp_walk
  refine wpAny_stack_any λu=>Y1B;split
  ·rename_i c _ _ _ _ _
   cases(c == Value.type "enumerate") <;> (wp_walk using MV i) <;> exact Y1 h
  ·wp_walk using MV i
   exact Y1 h
end
section
variable{prog:Program}{w:World}{A:Around}{E:Y8}{s:Shared}
structure EAt(b:Bool)(e it l:Addr)(n:Int)(k:Nat)(h:Heap):Prop where
 e:∃old,Y8q h e it (n+k)
 i:pO b h it l k
def aFa{b:Bool}{l:Addr}{xs:Ai}{Q:Y8}(hl:Y1C b l xs)
  (h:∀h',EAt b (Y3C 1) s.heap.objs.size l 0 0 h'->(∀c o,Y3Z->Y3k c)->Y2c (Y3C 1) ({ s with heap:=h' })) :
  Y0U (call (.type "enumerate") [Y13]):=by
 refine callType_new F.called_enumerate Dd (F.typeCall_enumerate_1 _) (F.newCall_enumerate_1 _) (λa=>F.args_object_init_2 a _) F.entry_enumerate_new (aDu b l xs) (Y02 hl);have g:(Yg0 b l).objs.size=Y3C 1:=lM ..;have d:((s.heap.push (XB b l)).push (enO s.heap.objs.size 0)).get? (Yg0 b l).objs.size=Y8S:=Y14;have e:((s.heap.push (XB b l)).push (enO s.heap.objs.size 0)).get? s.heap.objs.size=Y8S:=Y0T Y14;show _/\_;rw[g]at d ⊢;exact⟨Y0j d,h _ ⟨Y0p d,YaO _ e⟩ λc o x=>Y5z x⟩
end
def Ite(b:Bool)(l:Addr)(n:Int):It :=
  ⟨Yec (H l=Y4u b/\Y0t=Y9),
   λi H v H'=>∃q x,v=.ref q/\H q=none/\H'=Y8l q [.int (n+(i:Nat)),x]/\∀xs,H l=Y4u b->Y0t=Y9,
   λi H=>∃xs,H l=Y4u b/\Y4Y i⟩
def OO{P:Program}{w:World}{K:Aa}{elts:Yz}{x1}{tp:Pos}{b:Bool}{e it l:Addr}{n:Int}(hne:e≠it):IM P w K (Y9y x1 tp) (Ite b l n) [e,it] e (λi h=>EAt b e it l n i h) where
 mem:=by simp
 obj:=λi h d c a=>by
  obtain⟨m,p⟩:=d.e;obtain⟨ξ,R,_,θ⟩:=d.i;simp only[aK,List.not_mem_nil,or_false]at a;rcases a with rfl | rfl
  ·exact Ya4 p (by cases q)
  ·exact Ya4 R (by rw[θ]at q;cases q)
 keep:=λi h G d k=>by
  obtain⟨m,p⟩:=d.e;exact⟨⟨m,k _ (by simp) _ p⟩,d.i.at λo e=>k _ (by simp) o e⟩
 item:=by
  intro X J A S α i j s σ H E I y d B;subst J A S;obtain⟨ν,x,p,δ⟩:=B;obtain⟨u1,D,O⟩:=I.sq p;obtain⟨Z,C,ε⟩:=D.get δ;obtain⟨m,u⟩:=d.e;refine KF u d.i O (x:=Z) (by simpa using C) hne λG t ι U β ζ=>Y1 (wpAny_letOwnedTupleGo_enum ι λM L g=>?_);have g:YaH G M:=g;have κ:∀c o,c ∉ [e,it]->Y3Z->M.get? c=Y5:=λc o a T=>by
   simp only[aK,List.not_mem_nil,or_false,not_or]at a;exact g.extBut c o a.1 (ζ c o a.1 a.2 T)
  have I1:Y1J j H ({ s with heap:=M,toks:=s.toks+1 }):=I.turnedL (t':=s.toks+1) κ y;have fq:pP X j H s.heap.objs.size:=I.fpOk (Yk) (Y5m);have ο:YcZ=none:=by
   cases q:YcZ with
   | none=>rfl
   | some o=>exact absurd (bD (aY q) I.sz) (cP _)
  have N:Ydw e:=λq=>absurd (aY u) (by rw[<-q];exact cP _);have η:Ydw it:=λq=>by obtain⟨ξ,R,_⟩:=d.i;exact absurd (aY R) (by rw[<-q];exact cP _)
  have r:n+((i+1:Nat):Int)=n+(i:Nat)+1:=Oo;refine⟨Y19,YbL (.tup [.int (n+(i:Nat)),x]),I1.put fq ο ⟨⟨oE (by show 2<=64;decide),_,g.extBut _ _ N β,rfl⟩,[.int (n+(i:Nat)) t,Z],.cons (Y7m t) (Y9E ε),Y0v _ (g.extBut _ _ N β) _ rfl⟩,rfl,Y4y _ x fq.1 rfl (λμ γ=>?_),
   ⟨Y0p (by rw[r];exact L),U.ext g.extBut (Ne.symm hne)⟩,λc a=>?_⟩
  ·rw[p]at γ;rw[<-xT.inj γ];exact δ
  ·have nb:Yav c:=λq=>by
    simp only[aK,List.not_mem_nil,or_false]at a;rcases a with rfl | rfl
    ·exact N q.symm
    ·exact η q.symm
   rw[cH nb];exact(y c a).1
 done:=by
  intro X J A S α i j s σ H E I y d B;subst J A S;obtain⟨ν,p,τ⟩:=B;obtain⟨u1,D,O⟩:=I.sq p;have υ:=D.length;obtain⟨m,u⟩:=d.e;refine KD (I.ok.hd α) u d.i O (by simp;exact Oo) λG ρ=>Y0l (Yfj (λc o a T=>?_) y);simp only[aK,List.not_mem_nil,or_false,not_or]at a;exact ρ c o a.2 T
 self:=λ_ _ _ _ _ d h=>by
  obtain⟨m,u⟩:=d.e;exact wpAny_pyIter_enum u h
def aE3(b:Bool)(n:Int)(ta:TA):TI:=YeK σ H (λvs H1=>∃l xs,vs=[Y13]/\H1 l=Y4u b/\R (Ite b l n) H1)
def QT:YeY "enumerate"=YfA "enumerate":=Kk
section
variable{X:Cx}
def TZ{pins:Ad}{σ:St}{tg:Expr}{elts:Yz}{x1}{tp:Pos}{b:Bool}{l:Addr}{n:Int}{H1:Hp}{s1:Shared}{R:Y1l It}{h':Heap}(I1:Y1N H1 s1)(Z:EAt b (YfM 1) s1.heap.objs.size l n 0 h')(kk:∀c o,(s1.heap.get? c)=Y5->Y3k c)(q:R (Ite b l n) H1) :
  Y98 (pyIter (.ref (YfM 1))) (PIE X pins σ (Y9y x1 tp) R) ({ s1 with heap:=h' }):=by
 obtain⟨g,i⟩:=Z.e;refine wpAny_pyIter_enum i ⟨_,[YfM 1,s1.heap.objs.size],_,_,H1,rfl,I1.kept (t':=s1.toks) kk,OO (Y5S (show(s1.heap.objs.size+1:Nat)=s1.heap.objs.size from h)),Z,λc d=>?_,q⟩;have a:s1.heap.objs.size<=c:=by
  simp only[aK,List.not_mem_nil,or_false]at d;rcases d with rfl | rfl
  ·exact YbT _
  ·exact Yk
 exact Yaq a a
def XJ(b:Bool){a:Expr}{ta:TA}{p pos tp:Pos}{elts:Yz}{x1}(hg:Gl X "enumerate")(hm:X.mg "enumerate" = none)(ha:IR X [a] ta)(hs:Y4K a=[(false,Y0g a)]:=by first | exact oF | exact oG | exact gP | rfl) :
  KU X (Y9y x1 tp) (Yb8 "enumerate" p [a] []) (aE3 b 0 ta):=⟨by
 intro c s σ H R I h;refine Call_ (tV I hg hm QT (YbA (ha.p pos c s σ H _ I h) (λw A ⟨y,H1,I1,d,g⟩=>?_) (by rw[hs];rfl) (by rfl)));obtain⟨l,x,e,m,q⟩:=g;subst e;obtain⟨u,rfl,ru⟩:=nV d;cases ru;obtain⟨u1,_,j⟩:=I1.sq m;exact aFa j λr Z i=>TZ (tg:=Y9y x1 tp) I1 Z i q⟩
def VG{b:Bool}{l:Addr}{n:Int}{xs:Al}{g:TG}{tb:TS}{D:mH}{σ:St}{H:Hp}(Pv:Nat->Y1m)(h0:Y6c 0)(hl:∀i σ H,Y2F->H l=Y4u b)
  (hs:∀i x q σ H H',Y0t=Y9->Y2F->H q=none->H' q=Yl [.int (n+(i:Nat)),x]->Y0->g (.ref q) σ H' (Y4w ({ D with nx:=Pv (i+1),ct:=Pv (i+1),bk:=D.nx }))) (hd:∀σ H,Yea->Y3m) :
  ∃W:Nat->Nat->St->Hp->Prop,(Y6A 0 m σ H)/\∀i m σ H,W i m σ H ->
   ((Ite b l n).stop i H/\Y3m)\/((Ite b l n).go i H/\∃N:St->Hp->Prop,Y9M (N σ' H'->∃m',m' < m/\W (i+1) m' σ' H') ((Ite b l n).yld i H x H'->g x σ H' (Y4w ({ D with nx:=N,ct:=N,bk:=D.nx })))):=by
 refine YaM (m=Y51 i/\Y4Z i/\Y2F) (Y0X _ Y1z h0);rintro i m σ H ⟨rfl,r,p⟩;have a:=hl i σ H p;by_cases hlt:Y4f i
 ·have j:Y0t=some xs[i]:=aD hlt;refine .inr ⟨⟨xs,_,a,j⟩,Pv (i+1),λσ' H' d=>Y0v _ Oo hlt d,λv H' y=>?_⟩;obtain⟨q,x,rfl,c,rfl,h⟩:=y;exact hs i x q σ H _ (h xs a) p c bR (aV.upd c)
 ·have e:Y5E i:=Oo;subst e;exact Y3e ⟨xs,a,Yk⟩ (hd σ H p)
end
end L2
namespace L2
open PySem PySem.W PySem.Spec PySem.Calls PyProof.Rows
section
variable{X:Cx}
@[irreducible] def ZA:Y0W:=λxs H Q=>∃(p:Addr) (bs:Y8m),xs=[Y0x]/\H p=Y05 Y9u/\Y0H YcM
def rany{p:Addr}{bs:Y8m}{H:Hp}{Q:VK}(e:H p=Y05 Y9u)(q:Y0H YcM):ZA [Y0x] H Q:=by unfold ZA;exact Y0v p bs e q
def WL{bs:Y8m}:∀{us:Ag},Y1T Y9u->LSm.BoolsAre us bs:=by
 induction bs with
 | nil=>intro us r;cases r;exact .nil
 | cons b bs ih =>
  intro us r;cases r with
  | cons r t=>cases(show _=Value.bool b from r);exact .cons b (ih t)
def JM(bs:Y8m):((List.range bs.length).any λi=>(bs[i]?).getD false)=YcM:=by
 apply Bool.eq_iff_iff.mpr;rw[List.any_eq_true,List.any_eq_true];constructor
 ·rintro⟨i,c,h⟩;have a:=bX.mp c;rw[aD a]at h;exact⟨bs[i],List.getElem_mem a,h⟩
 ·rintro⟨b,d,h⟩;obtain⟨i,c,rfl⟩:=List.getElem_of_mem d;exact⟨i,bX.mpr c,by rw[aD c];exact h⟩
def aDU(hc:Y1V):Y35 "any" ZA:=by
 unfold ZA;intro g s σ H G B Q I r h;obtain⟨p,bs,rfl,e,q⟩:=h;obtain⟨_,rfl,u⟩:=nV r;cases u;obtain⟨z,a,n,rv,D,j⟩:=I.lstM e;have m:s.heap.IsList p a.toArray:=Y0v _ j n rfl;have l:=WL rv;have c:Y5v p:=aY j;refine call_any_walk (wpAny_pyIter_list m ?_);refine⟨s.heap.objs.size,[s.heap.objs.size,p],[s.heap.objs.size],a.toArray.size,_,_,λi=>(bs[i]?).getD false,rfl,Walks.list (A:=X.A.in1) (Y9z) _ p (cJ c) a.toArray,
  ⟨Y7w _,m.push _⟩,λi v J Q' E' x d=>?_,λy C w=>?_⟩
 ·obtain⟨b,e,rfl⟩:=l.get i v (by simpa using x);simp only[e,Option.getD_some]at d;exact wpAny_truthy_bool d
 ·have e:((List.range a.toArray.size).any λi=>(bs[i]?).getD false)=YcM:=by
   rw[bF,l.length];exact JM bs
  rw[e];exact Y3Q _ H (I.kept (LSm.kept_iter w)) q
end
end L2
namespace HT
open PySem PySem.Spec PySem.W PyProof.Rows
section
variable{prog:Program}{w:World}{K:Type}[DecidableEq K]{knd:HeapKind prog w K}{A:Around}{E:Y8}{s:Shared}
end
end HT
namespace L2
open PySem PySem.Spec PySem.W PyProof.Rows HT
section
variable{X:Cx}
end
section
variable{X:Cx}{tg:Expr}
end
section
variable{σ:St}{js:Ae}{te:TE}{H:Hp}{Q:VK}
end
section
variable{X:Cx}
end
end L2
namespace L2
open PySem PySem.Spec PyProof.Rows
section
variable{X:Cx}{x:Str}{np hpos pos:Pos}{b₀:Stmt}{body suite:Y3b}{C2:Addr}{tb:(St->XK)->TS}{th:TS}
end
end L2
namespace L2
open PySem PySem.W PySem.Spec PySem.Calls PyProof.Rows Builtin Builtin.ObjectAttr
section
variable{prog:Program}{w:World}{M:Model}{A:Around}{E:Y8}{s:Shared}{env:Env}{outer:Y1t}{base:Heap}{L a:Addr}{cls:Value}{od:Y0u}
end
section
variable{M:Model}{A:Around}{E:Y8}{s:Shared}{env:Env}{L a:Addr}{cls:Value}{od:Y0u}
end
section
variable{X:Cx}{k:Nat}{f C:Addr}{fd:FuncData}{ps:Ah}{sp:Sp}{x:Str}
end
section
variable{X:Cx}{k:Nat}{C C2:Addr}{ps:Ah}{sp:Sp}{x y:Str}{np np2 cpos rpos qpos hpos pos:Pos}{j:Nat}{e:Expr}{es:Yz}{body:Y3b}{t:TA}{tb:(St->XK)->TS}{Ex':St->XK}
end
end L2
abbrev a00:Y01:=["one","other"]
abbrev a01:Y01:=["_law_feed_here","_law_many"]
abbrev a02:Y01:=["thing","many"]
abbrev a03:Y01:=["_law_one","_law_other"]
abbrev a04:Y01:=["_law_trial_here","_law_aim_here","_law_thing"]
abbrev a05:Y01:=["_law_feed_here","_law_thing","_law_deep"]
abbrev a06:Y01:=["_law_trial_here","_law_aim_here","_law_prices","_law_known","_law_counts_here"]
abbrev a07:Y01:=["_law_feed_here"]
abbrev a08:Y01:=["faces","ways","thing"]
abbrev a09:Y01:=["a","ab","b","abc","faced","ways","z","bb"]
abbrev a10:Y01:=["trial","aim","thing"]
abbrev a12:Y01:=["_law_counts_here","_law_face"]
abbrev a13:Y01:=["self","word","at"]
abbrev a15:Y01:=["trial","rule","way"]
abbrev a16:Y01:=["faces","thing"]
abbrev a17:Y01:=["_law_n","_law_d"]
abbrev a18:Y01:=["trial","aim","thing","word","many"]
abbrev a19:Y01:=["_law_trial_here","_law_way","_law_counts_here"]
abbrev a20:Y01:=["_law_trial_here","_law_aim_here","_law_prices"]
abbrev a21:Y01:=["thing"]
abbrev a22:Y01:=["trial","aim","prices","counts","worth_of"]
abbrev a23:Y01:=["_law_faces","_law_most"]
abbrev a24:Y01:=["_law_feed_here","_law_faces","_law_ways"]
abbrev a25:Y01:=["_law_feed_here","_law_ways","_law_most"]
abbrev a26:Y01:=["number","above_nought"]
abbrev a27:Y01:=["trial","rule","way","costs"]
abbrev a28:Y01:=["trial"]
abbrev a29:Y01:=["_law_script"]
abbrev a30:Y01:=["trial","aim","prices","worths"]
abbrev a31:Y01:=["trial","way","counts"]
abbrev a32:Y01:=["faces","many"]
abbrev a33:Y01:=["_law_k","_law_feed_here"]
abbrev a34:Y01:=["counts","says","share"]
abbrev a35:Y01:=["counts","face"]
abbrev a36:Y01:=["trial","thing"]
abbrev a37:Y01:=["trial","rule","aim"]
abbrev a38:Y01:=["trial","aim","rule"]
abbrev a39:Y01:=["aim","prices"]
abbrev a40:Y01:=["ways","thing"]
namespace Kw
open PySem L2 Mf
def top(i:Nat):Stmt:=PySem.Challenge.pw_earlystop_k52_papers_of_other_shapes.main.body.getD i (.Pass ⟨0,0,0,0⟩)
structure Cl where
 EarlyError:Addr
 NoPaper:Addr
 NoBack:Addr
 NoBounds:Addr
 NoFraction:Addr
 NoLines:Addr
 NoLook:Addr
 NoOrder:Addr
 NoRow:Addr
 NoRule:Addr
 NoTrial:Addr
 ONE:Addr
 NOUGHT:Addr
 tok_LOOKS_ON:Tok
structure iH(K:Aa)(mg:Y03)(c:Cl):Prop where
 b_list:mg "list" = none
 b_len:mg "len" = none
 b_abs:mg "abs" = none
 b_range:mg "range" = none
 b_sum:mg "sum" = none
 b_zip:mg "zip" = none
 b_reversed:mg "reversed" = none
 b_tuple:mg "tuple" = none
 b_isinstance:mg "isinstance" = none
 b_bool:mg "bool" = none
 b_all:mg "all" = none
 b_any:mg "any" = none
 b_dict:mg "dict" = none
 b_enumerate:mg "enumerate" = none
 b_ValueError:mg "ValueError" = none
 b_sorted:mg "sorted" = none
 b_int:mg "int" = none
 b_str:mg "str" = none
 b_repr:mg "repr" = none
 g_EarlyError:mg "EarlyError" = Y4 c.EarlyError
 g_NoPaper:mg "NoPaper" = Y4 c.NoPaper
 g_NoBack:mg "NoBack" = Y4 c.NoBack
 g_NoBounds:mg "NoBounds" = Y4 c.NoBounds
 g_NoFraction:mg "NoFraction" = Y4 c.NoFraction
 g_NoLines:mg "NoLines" = Y4 c.NoLines
 g_NoLook:mg "NoLook" = Y4 c.NoLook
 g_NoOrder:mg "NoOrder" = Y4 c.NoOrder
 g_NoRow:mg "NoRow" = Y4 c.NoRow
 g_NoRule:mg "NoRule" = Y4 c.NoRule
 g_NoTrial:mg "NoTrial" = Y4 c.NoTrial
 g_ONE:mg "ONE" = Y4 c.ONE
 g_NOUGHT:mg "NOUGHT" = Y4 c.NOUGHT
 g_LOOKS_ON:mg "LOOKS_ON" = some (.int 0 c.tok_LOOKS_ON)
 c_EarlyError:WV K c.EarlyError
 bb_EarlyError:sJ K c.EarlyError=true
 ec_NoPaper:wK K c.NoPaper=true
 st_NoPaper:gW K c.NoPaper ["word","at"]=true
 sub_NoPaper:YaF Yc1 (.ref c.EarlyError)=Y2e
 y1:PySem.W.kitAny K (Yc1) [.ref c.NoBack,.ref c.NoBounds,.ref c.NoFraction,.ref c.NoLines,.ref c.NoLook,.ref c.NoOrder,.ref c.NoRow,.ref c.NoRule,.ref c.NoTrial]=some false
 y2:YdW Yc1 Yc1=Y2e
 y3:Yat K Yc1 "ValueError"=Y2e
 o_ONE:uA K c.ONE [1,1]=true
 o_NOUGHT:uA K c.NOUGHT [0,1]=true
def iH.bc_EarlyError{K:Aa}{mg:Y03}{c:Cl}(T:Yd):FV K c.EarlyError:=sJ.base T.bb_EarlyError
abbrev sQ7:Stmt:=(top 75)
def cQ7:Yc a29 a29 sQ7:={}
abbrev sQ6:Stmt:=(top 76)
def cQ6:Yc ["_law_feed_here","_law_many","_law_found","_law_at","_law_cells","_law_cell","_law_number"] a01 sQ6:={}
abbrev sQ8:Stmt:=(top 77)
def cQ8:Yc ["_law_n","_law_d","_law_one","_law_other"] a17 sQ8:={}
abbrev aCS:Stmt:=(top 83)
def IH:Yc ["_law_feed_here","_law_many","_law_whole","_law_found","_law_left","_law_k","_law_part","_law_at"] a01 aCS:={}
def CQ{b:Bool}{A B:Prop}(h:b=true)(k:A):if b=true then A else B:=by rw[h,Y1P];exact k
def AY{b:Bool}{A B:Prop}(h:Y6 b)(k:B):if b=true then A else B:=by rw[h,Y9F];exact k
def SQ{K:Aa}{H H':Hp}{a:Addr}{xs:Al}(s:Y0)(h:Y2I K H a):Y2I K H' a:=by
 rcases h with(h | ⟨o,h⟩) | h
 ·exact YaS (s _ _ h)
 ·exact .inl (.inr ⟨o,s _ _ h⟩)
 ·exact .inr h
theorem aJ.take{H:Hp}:∀{ds:Ya}{vs:Al}(n:Nat),Y4t->Y15 (ds.take n) (vs.take n)
 | [],_,n,h=>by cases(show _=[]from h);rw[List.take_nil,List.take_nil];exact aJ.nil
 | d::ds,_,0,h=>aJ.nil
 | d::ds,_,n+1,h=>by
  unfold aJ at h;obtain⟨x,xs,rfl,h1,h2⟩:=h;exact aJ.cons h1 (aJ.take n h2)
theorem aJ.drop{H:Hp}:∀{ds:Ya}{vs:Al}(n:Nat),Y4t->Y15 (ds.drop n) (vs.drop n)
 | [],_,n,h=>by cases(show _=[]from h);rw[List.drop_nil,List.drop_nil];exact aJ.nil
 | d::ds,_,0,h=>h
 | d::ds,_,n+1,h=>by
  unfold aJ at h;obtain⟨x,xs,rfl,h1,h2⟩:=h;exact aJ.drop n h2
def mG(n:Nat)(d:PyData):Prop:=YaA=true/\Ye0<=n
theorem mG.all{n:Nat}:∀{ds:Ya},(∀d∈ds,mG n d)->PyData.canLayAll0 ds=true/\Y6U<=n
 | [],_=>⟨rfl,cK _⟩
 | d::ds,h=>by
  obtain⟨h1,h2⟩:=h d (aG ..);obtain⟨a,g⟩:=mG.all λe c=>h e (aQ _ c);refine⟨?_,?_⟩
  ·show(PyData.canLay0 d&&PyData.canLayAll0 ds)=true;rw[h1,a];rfl
  ·show max (PyData.depth d) (PyData.depthAll ds)<=n;exact Oo
def mG.tup{n:Nat}{ds:Ya}(h:∀d∈ds,mG n d):mG (n+1) (Yy):=⟨(mG.all h).1,by have:=(mG.all h).2;show Y6U+1<=n+1;exact Oo⟩
def mG.lst{n:Nat}{ds:Ya}(h:∀d∈ds,mG n d):mG (n+1) (Y7h):=⟨(mG.all h).1,by have:=(mG.all h).2;show Y6U+1<=n+1;exact Oo⟩
theorem mG.int(i:Int):mG 1 (Y07):=Y0l (by simp[PyData.depth])
def mG.ok{n:Nat}{d:PyData}(h:mG n d)(hn:n<=64:=by decide):Y3i d:=by
 unfold SeqAt.shaped;rw[h.1,Bool.true_and];exact bH (by have:=h.2;exact Oo)
def aD0{z:Int}(h:(10:Int)^Int.toNat 18<=z):0<=z:=Int.le_trans Dd h
abbrev fdD(L:Addr)(t l:Int):Y26:=[(.inr "cells",.ref L),(.inr "at",.int t),(.inr "left",.int l)]
structure dA(H:Hp)(p L:Addr)(n:Nat):Prop where
 ex:∃(ns:Af) (t l:Int),H p=Y9h (fdD L t l)/\H L=Y05 Y5s/\Y66 63/\0<=l/\0<=t/\t+n<=1000000000000
def dA.there{H:Hp}{p L:Addr}{n:Nat}(F:Y1X n):∃o,H p=Y5:=by obtain⟨a,t,l,h,_⟩:=F.ex;exact Y0p h
def dA.ne{H:Hp}{p L q:Addr}{n:Nat}(F:Y1X n)(hq:H q=none):q≠p:=λe=>by
 subst e;obtain⟨o,h⟩:=F.there;rw[h]at hq;cases hq
def dA.neL{H:Hp}{p L q:Addr}{n:Nat}(F:Y1X n)(hq:H q=none):q≠L:=λe=>by
 subst e;obtain⟨c,t,l,h,a,_⟩:=F.ex;rw[a]at hq;cases hq
def dA.same{H H':Hp}{p L:Addr}{n:Nat}(F:Y1X n)(s:Y0):Y5n:=by
 obtain⟨a,t,l,c,e,d⟩:=F.ex;exact⟨a,t,l,s _ _ c,s _ _ e,d⟩
def dA.but{H H':Hp}{p L D:Addr}{n:Nat}(F:Y1X n)(s:bB D H H')(n1:D≠p)(n2:D≠L):Y5n:=by
 obtain⟨a,t,l,c,e,d⟩:=F.ex;exact⟨a,t,l,s.at (Ne.symm n1) c,s.at (Ne.symm n2) e,d⟩
def dA.less{H:Hp}{p L:Addr}{n m:Nat}(F:Y1X n)(h:m<=n):Y1X m:=by
 obtain⟨a,t,l,e,d,i,g,c,r⟩:=F.ex;exact⟨a,t,l,e,d,i,g,c,Oo⟩
theorem dA.t{H H':Hp}{p L:Addr}{n:Nat}(F:Y1X n)(s:Y0s):Y4G:=by
 obtain⟨a,t,l,h,_⟩:=F.ex;exact s.tD h
def dA.like{p L:Addr}(f:Nat->Nat):KZ p L (λi H=>Y1X (f i)) :=
 ⟨λ_ D H1 H2 a c s F=>F.but s a c,λ_ H1 H2 s F=>F.same s,λ_ H' F=>by obtain⟨d,t,l,h,_⟩:=F.ex;exact Y0p h,λ_ H' D F h=>⟨F.ne h,F.neL h⟩⟩
inductive xX (K:Aa):Yi
 | i {H:Hp} {Q:VK} {E:XK} {a:Addr} {ns:Af} (h:hU K H a Y5s) (hl:Y66 63) (k:∀p L H',Y7j 1000000000000->Y0->H p=none->H L=none->Y0L p):xX K Y30 H Q E
inductive dC:Yi
 | i {H:Hp} {Q:VK} {E:XK} {p L:Addr} {n:Nat} {m:Int} (F:Y1X (n+1)) (h:0<m) (hb:bits m<=64) (k:∀x H',0<=x->x<m->Y5n->Y0s->Q (.int x) H'):dC [Y0x,.int m] H Q E
def bitsle{i:Int}{n:Nat}(h:Y2Y (2^n)):bits i<=n:=PySem.intBits_le_iff.mpr h
@[irreducible] def vX(K:Aa):Sp:=λvs H Q _=>∃(a:Addr) (ns:Af),vs=Y30/\hU K H a Y5s/\Y66 63/\∀H',Y2i true
def SR{K:Aa}{H:Hp}{a:Addr}{ns:Af}(h:hU K H a Y5s)(hl:Y66 63):vX K Y30 H (λv _=>v=Y9Y) (Y82):=by
 unfold vX;exact Y4y a ns h hl (λ_=>rfl)
theorem DM{H:Hp}:∀ns:Af,Y15 Ydy Y5s
 | []=>aJ.nil
 | n::ns=>aJ.cons (bL.int n) (DM ns)
def VA{ns:Af}:PyData.eqv (.list (Ydy)) (.list [])=Yr ns []:=by
 cases ns <;> simp[PyData.eqv,PyData.eqvAll]
def GN(ns:Af):Y3i (.list (Ydy)):=(mG.lst (n:=1) λd hd=>by
 obtain⟨i,_,rfl⟩:=Y8v;exact mG.int i).ok
section
def oQ7(F:Yb "_law_feed" "_law_feed" sQ7)(T:Yd):cX P w K mg base cN 1 f fd a29 (xX K):=by
 refine F.oky cQ7 λM H Q E h=>?_;obtain @⟨H,Q,E,a,d,C,D,k⟩:=h;refine Yh;intro G A u s L _;refine Y1e (XQ (yT dB (mL qS (by rfl) T.b_list Kk (Y1r (fN LW (Yw) iB (iA aE)))) (yT dB aE (yT dB aE XI)))) ?_;intro p l;have s0:=aV.upd (o:=.dK []) l;have r:(upd H p (.dK [])) p=Y9h []:=bR;generalize upd H p (.dK [])=H0 at s0 r;refine Y5l _ _ a _ rfl (SQ s0 C) (λj y=>?_);refine Y0v j _ (.inl (hU.of bR)) (λg x=>?_);have I:nS (Y9v) none (some 63)=Y9v:=by
  unfold nS;have:HT.jO (Y9v).length (Y9v).length (some 63)=(Y9v).length:=by
   rw[show((63:Int))=((63:Nat):Int)from rfl,HT.EG,aA];exact Oo
  rw[this,HT.zY,List.drop_zero,Nat.sub_zero];exact List.take_of_length_le (Yk)
 have i:=(aV.upd (o:=.lst (nS (d.map V.int) none (some 63))) y).trans (Yg1 (nS (Y9v) none (some 63)) x);have B:(upd (upd H0 j (.lst (nS (d.map V.int) none (some 63)))) g (.lst (nS (d.map V.int) none (some 63)))) g=Y05 Y9v:=by rw[bR,I]
 have m:H0 g=none:=(aV.upd y).free x;generalize upd (upd H0 j (.lst (nS (d.map V.int) none (some 63)))) g (.lst (nS (d.map V.int) none (some 63)))=H2 at i B;have J:g≠p:=λz=>by rw[z,r]at m;cases m
 refine Y0v (i _ _ r) (fdD g 0 0) (by show 3<=15;decide) (k p g _ ⟨d,0,0,?_,?_,D,Dd,Dd,Dd⟩ ?_ l (s0.free m))
 ·rw[bR];rfl
 ·rw[L2.cH J];exact B
 ·intro b o h;have nb:b≠p:=λe=>by subst e;rw[l]at h;cases h
  rw[L2.cH nb];exact i _ _ (s0 _ _ h)
def oQ6(F:Yb "_law_draw" "_law_draw" sQ6)(T:Yd):cX P w K mg base cN 1 f fd a01 dC:=by
 refine F.oky cQ6 λψ H Q E h=>?_;obtain @⟨H,Q,E,p,L,n,m,F,B,ζ,k⟩:=h;refine Yh;intro κ A α s g _;obtain⟨a,t,l,u,G,U,β,χ,τ⟩:=F.ex;refine⟨_,(aI (eX (dY xC (jV g.u1 (Yw) dB) aE) (aI (Y2t cQ6.nd (Y1U nG (jV g.u1 (Yw) dB) 1))
  (aI (nU g.u1 (Yw) dB (Y1U gQ (jV g.u1 (Yw) dB) 1))
  (Y3h 2))) cY)
  (aI (Y11 cQ6.nd (jV g.u1 (Yw) dB))
  (aI (nU g.u1 (Yw) dB (Y6E 3))
  (aI (Y67 cQ6.nd (jV g.u1 (Yw) dB))
  (aI (yS (Yba cQ6.nd (RK (Y2y (EO g.units) 4 (fV aH)) (Y4M 4 (bV nG (aC 3) (Y3O (by rfl) 4))) (Y56 eM 3 3))))
  (aI (eX (uD (qZ (vP (Y2y ML 5 (bV aDm aE aE)) (xR (Y2y AK 3 (Y3O (by rfl) 4)))))) (aI (nU g.u1 (Yw) dB (Y56 gQ 5 1))
  (Y0R (Y56 nG 5 1))) cY)
  (aI (cA (i:=6) cQ6.nd (bV nG (bV eM (bV eE (bV nG (aC 5) aE) aE) (bV eE aE (Y1U eM aE 3))) aE))
  (Y0R (Y1U nG (bV gQ (bV nG (bV eE (bV eM (aC 6) aE) (bV eM (Y56 eM 3 3) aE)) aE) aE) 1))))))))),?_⟩
 refine Yo;intro J M;refine Y1 (dgS u rfl ?_);refine Y3R _ _ _ (nR (λν=>?_) (λν=>?_))
 ·refine Y1 (dgS u rfl ?_);refine Y1Y _ rfl _ _ rfl B (Y1 (dgS u rfl ?_));refine Y1Y _ rfl _ _ rfl ⟨B,aM ζ Dd⟩ Y3;refine dpS (kvs2:=fdD L t (l/m)) u (by show 3<=64;decide) rfl λH2 Z r=>?_;have N:L≠p:=λz=>by rw[z,u]at G;cases G
  exact Y1 (k _ H2 (YdJ Oo) (Yfr B) ⟨a,t,l/m,Z,r.at N G,U,Int.ediv_nonneg β Oo,Oo,Oo⟩ r)
 ·have N:L≠p:=λz=>by rw[z,u]at G;cases G
  refine Y1 (dgS u rfl ?_);refine Ys;intro J M;refine⟨_,rfl,_,_,rfl,rfl,_,rfl,?_⟩;refine dpS (kvs2:=fdD L (t+1) l) u (by show 3<=64;decide) rfl λH1 D X=>Y6f;intro J M;have e:=X.at N G;refine Y1 (dgS D rfl ?_);refine Ys;intro J M;have γ:bits t<=64:=PySem.intBits_le_64 Oo Oo;have O:bits (7919:Int)<=64:=Kk;have F2:∀{H3:Hp},aV H1 H3->dA H3 p L n:=λx=>⟨a,t+1,l,x _ _ D,x _ _ e,U,β,Oo,Oo⟩;refine Y3l (λσ H3=>∃y:Int,σ=[Y2m,Ym m,none,Ym t,Y4 L,Ym y,none]/\aV H1 H3)
  ·rintro σ H3 ⟨y,rfl,x⟩;refine Y6f;intro J M;have W:=x _ _ D;have I:=x _ _ e;refine Y3l (λb H4=>H4=H3/\(b=true->0<=y))
   ·refine⟨_,rfl,_,_,rfl,rfl,⟨Dd,Dd,Dd⟩,_,_,rfl,rfl,_,rfl,nR (λδ=>?_) (λδ=>?_)⟩
    ·refine Y06 (rlL I ?_);exact⟨_,_,rfl,rfl,_,rfl,rfl,λ_=>aD0 δ⟩
    ·exact Y0l (λh=>by cases h)
   ·rintro b H4 ⟨rfl,C⟩;cases b with
    | true =>
     have C:=C rfl;refine fJ (Yo);intro J M;refine⟨_,rfl,_,rfl,_,_,rfl,rfl,⟨B,aM ζ Dd⟩,Y3⟩;refine dpS (kvs2:=fdD L (t+1) (y/m)) W (by show 3<=64;decide) rfl λH5 S ε=>⟨_,rfl,_,rfl,_,_,rfl,rfl,B,?_⟩;exact k _ H5 (YdJ Oo) (Yfr B) ⟨a,t+1,y/m,S,ε.at N I,U,Int.ediv_nonneg C Oo,Oo,Oo⟩ ((X.trans x.but).trans ε)
    | false =>
     refine Y1f;have ρ:=Int.emod_nonneg y (b:=2147483629) Dd;have φ:=Int.emod_lt_of_pos y (b:=2147483629) Dd;refine⟨_,rfl,_,_,rfl,rfl,(by show(0:Int)<2147483629;decide),_,_,rfl,rfl,_,rfl,_,_,rfl,rfl,IntMulOk.of_left O,_,_,rfl,rfl,_,_,rfl,rfl,IntMulOk.of_left (PySem.intBits_le_64 Oo Oo),_,_,rfl,rfl,(by show(0:Int)<2147483647;decide),?_⟩;generalize (y % 2147483629+1)*(48271+7919*t) % 2147483647=z;exact⟨_,rfl,_,_,rfl,rfl,IntMulOk.of_right Kk,_,rfl,_,rfl,_,_,rfl,rfl,IntMulOk.of_left γ,_,_,rfl,rfl,IntMulOk.of_right Kk,_,_,rfl,rfl,_,_,rfl,rfl,(by show(0:Int)<2147483399;decide),_,_,rfl,rfl,Ya5 Kk,_,rfl,_,_,rfl,rfl,B,k _ H4 (YdJ Oo) (Yfr B) (F2 x) (X.trans x.but)⟩
  ·refine Y3;refine AN (by show 0<=64;decide) λυ H2 ι μ r=>YR (d:=.list (a.map PyData.int)) (d':=.list []) (bL.lst (r _ _ e) (DM a)) (bL.lst μ aJ.nil) (GN a) rfl ?_;rw[VA];refine Y3;by_cases ens:a=[]
   ·exact AY (by rw[bH ens];rfl) ⟨_,rfl,_,rfl,_,_,rfl,rfl,IntMulOk.of_left γ,Y1 r⟩
   ·refine CQ (by rw[bP ens];rfl) ?_;have ο:0<a.length:=List.length_pos_iff.mpr ens;refine Y54 (rlL (r _ _ e) ?_);rw[aA];refine Y6F _ _ Oo ?_;have ξ:=Yff t (a.length:Int);have ω:=Int.emod_lt_of_pos t (b:=(a.length:Int)) Oo;have η:∃z,a[(t % (a.length:Int)).toNat]?=some z:=Y3U;obtain⟨z,θ⟩:=η;have R:xM (a.map V.int) (t % (a.length:Int))=Ym z:=by
     have:=dL (xs:=a.map V.int) (j:=(t % (a.length:Int)).toNat) (v:=V.int z) (by rw[aX,θ];rfl)
     rwa [Int.toNat_of_nonneg ξ]at this
    exact ixL (r _ _ e) R (Y1 r)
end
abbrev eZ(f:Fr):PyData:=Y3j f.1 f.2
def FG{H:Hp}{f:Fr}{v:V}(h:Y3v f v):∃a,v=Y7/\H a=Yl [.int f.1,.int f.2]:=by
 unfold bL aJ aJ aJ at h;obtain⟨a,_,rfl,c,x,_,rfl,e,y,_,rfl,d,rfl⟩:=h;cases(show x=V.int f.1 from e);cases(show y=V.int f.2 from d);exact Y0Q a c
def dR{H:Hp}{f:Fr}{a:Addr}(h:H a=Yl [.int f.1,.int f.2]):Y3v f Y7:=Y6Q h Yas Yas
def cU(f:Fr):cV (eZ f)=true:=rfl
def iN(K:Aa)(H:Hp)(f:Fr)(x:V):Prop:=∃a,x=Y7/\fS K H a [.int f.1,.int f.2]
theorem iN.of{K:Aa}{H:Hp}{f:Fr}{x:V}(h:Y3v f x):iN K H f x:=by
 obtain⟨a,e,h⟩:=FG h;exact Y4A e (fS.of h)
def iN.new{K:Aa}{H:Hp}{f:Fr}{a:Addr}(h:H a=Yl [.int f.1,.int f.2]):iN K H f (Y7):=Y0Q a (fS.of h)
def iN.same{K:Aa}{H H':Hp}{f:Fr}{x:V}(s:Y0)(h:iN K H f x):iN K H' f x:=by
 obtain⟨a,e,h⟩:=h;exact Y4A e (h.keep s)
def xO(k:Nat)(f:Fr):Prop:=f.1.natAbs<2^k/\f.2.natAbs<2^k
inductive sV:Yi
 | i {H:Hp} {Q:VK} {E:XK} {n d:Int} (h:0<d) (q:Y45 (Yax d)):sV [Y5R,.int d] H Q E
def BT(H:Hp)(Q:VK)(f:Fr):Prop:=∀q H',H q=none->H' q=Yl [.int f.1,.int f.2]->Y0->Y0L q
inductive kK (K:Aa):Yi
 | i {H:Hp} {Q:VK} {E:XK} {x y:V} {f g:Fr} (h1:iN K H f x) (h2:iN K H g y) (l1:Y0A) (l2:dM g) (z1:Y4C) (z2:Y4c g) (q:BT H Q (pL f g)):kK K [x,y] H Q E
inductive kL (K:Aa):Yi
 | i {H:Hp} {Q:VK} {E:XK} {x y:V} {f g:Fr} (h1:iN K H f x) (h2:iN K H g y) (z1:Y4C) (z2:Y4c g) (q:Y0H (Y2A (f.1*g.2) (g.1*f.2))):kL K [x,y] H Q E
def aDH{n d:Int}(h:0<d):(Int.gcd n d:Int)<=d:=Int.le_of_dvd h (YbR n)
def AZ{n d:Int}{k:Nat}(h:0<d)(z:d.natAbs<2^k):(Int.gcd n d:Int).natAbs<2^k:=by
 have:=aDH (n:=n) h;have:=jW (n:=n) h;exact Oo
def vC{n d:Int}(h:0<d)(z:d.natAbs<2^9000):WW n d:=⟨h,FM z⟩
def lN{i:Int}{n m:Nat}(h:Y2Y (2^n))(k:n<=m:=by decide):Y2Y (2^m):=bD h (Y2w k)
def tK{i j:Int}{n:Nat}(h:Y2Y (2^n))(hj:0<j):(i/j).natAbs<2^n:=bK (by
 have:=Int.natAbs_ediv_le_natAbs i j;exact this) h
def DY{i j:Int}{n m:Nat}(h1:Y2Y (2^n))(h2:j.natAbs<2^m):(i*j).natAbs<2^(n+m):=by
 rw[gF,Nat.pow_add];exact Nat.mul_lt_mul'' h1 h2
abbrev jK(fs:Ak):PyData:=YfW eZ
theorem jR:∀fs:Ak,fM (fs.map eZ)=true
 | []=>rfl
 | f::fs=>by show(cV (eZ f)&&fM (fs.map eZ))=true;rw[jR fs];rfl
def fW(fs:Ak):Y6q fs=true:=jR fs
inductive fP:Yi
 | i {H:Hp} {Q:VK} {E:XK} {n d:Int} (h:0<d) (z:d.natAbs<2^9000) (q:BT H Q (lw n d)):fP [Y5R,.int d] H Q E
section
def oQ8(F:Yb "_law_frac" "_law_frac" sQ8)(T:Yd):cX P w K mg base cN 1 f fd a17 fP:=by
 refine YfJ cQ8 ?_;obtain @⟨H,Q,E,n,d,hd,G,q⟩:=h;refine Yh;intro M A r s O _;refine⟨_,(aI (Y2t cQ8.nd (cT aDV (by rfl) T.b_abs Kk (Y2r 0)))
  (aI (Y11 cQ8.nd Y0f)
  (aI (yR PassesOwn.never (Y2y xC 3 aE) (aS (aBH (i:=2) (j:=3) rfl cQ8.nd rfl rfl Dd rfl rfl (Y5Y 3 (Y56 nG 2 3)) rfl)))
  (Y0R (Y2L (Y56 gQ 0 2) (Y56 gQ 1 2)))))),?_⟩
 refine Yo;intro y B;refine Y1 (raI ?_);refine Ys;intro y B;refine Y1 Ys;intro y B;refine DO (λm σ H'=>Ex2 λ(u v:Int)=>An6 (σ=[Ym n,Ym d,Ym u,Ym v]) (0<=v) ((Int.gcd u v)=(Yax d)) ((v=0->0<u)) (H'=H) (m=v.toNat))
  (λσ H'=>σ=[Ym n,Ym d,Ym (Yax d),Ym 0]/\H'=H)
  _ ⟨(n.natAbs:Int),d,rfl,Oo,by rw[Int.gcd_eq_natAbs_gcd_natAbs,Int.gcd_eq_natAbs_gcd_natAbs,Int.natAbs_natCast],Oo,rfl,rfl⟩ ?_ ?_
 ·rintro m σ H2 ⟨u,v,rfl,S,a,D,rfl,rfl⟩;refine⟨_,rfl,_,_,rfl,rfl,_,rfl,Y7c⟩
  ·refine⟨_,rfl,_,rfl,_,rfl,_,_,rfl,rfl,e,_,_,rfl,?_⟩;have g:=Int.emod_lt_of_pos u e;have N:=Yff u v;exact⟨_,Oo,v,u % v,rfl,N,by rw[HJ,a],λ_=>e,rfl,rfl⟩
  ·have l:v=0:=Oo;subst l;have L:=D rfl;have g:=NA L;rw[a]at g;rw[g];exact Yad
 ·rintro σ H2 ⟨rfl,rfl⟩;have a:=jW (n:=n) hd;have x:WW n (Int.gcd n d:Int):=vC a (AZ hd G);refine⟨_,rfl,_,rfl,_,_,rfl,rfl,x,⟨_,rfl,_,rfl,_,_,rfl,rfl,x,?_⟩⟩;exact kM (by show 2<=64;decide) λp H3 I C J=>q p H3 I C J
end
def gD:Nat:=2512440
structure IV(m:Nat)(fs:Ak):Prop where
 ex:∃(ps:Af) (W:Int),Y9N m/\(∀x∈ps,0<=x/\x<=W)/\ps.sum=W/\0<W/\W<=997/\W.natAbs ∣ gD/\fs=ps.map λx=>lw x W
def IV.len{m:Nat}{fs:Ak}(h:IV m fs):Y7a m:=by
 obtain⟨c,W,a,_,_,_,_,_,rfl⟩:=h.ex;rw[aA,a]
def IV.at{m:Nat}{fs:Ak}(h:IV m fs):∀f∈fs,Y3o/\0<=f.1:=by
 obtain⟨i,W,j,d,_,e,l,a,rfl⟩:=h.ex;intro f g;obtain⟨x,c,rfl⟩:=aU.mp g;have:=d x c;exact⟨(Fn.of e Oo).dvd a,Int.ediv_nonneg this.1 (Int.natCast_nonneg _)⟩
def IV.bits{m:Nat}{fs:Ak}(h:IV m fs):∀f∈fs,f.1.natAbs<=997/\f.2.natAbs<=997:=by
 obtain⟨g,W,i,d,_,a,l,j,rfl⟩:=h.ex;intro f e;obtain⟨x,c,rfl⟩:=aU.mp e;have:=d x c;have q:=MR (n:=x) a;have p:=(jD (n:=x) a).pos;exact Oo
def YJ:∀x:Nat,1<=x->x<=10->x ∣ gD:=by
 intro x a c;have:∀x,x<=10->1<=x->x ∣ gD:=by unfold gD;decide
 exact this x c a
def OV{W:Int}(h:(1<=W/\W<=10)\/W=997):W.natAbs ∣ gD:=by
 rcases h with h | rfl
 ·exact YJ _ Oo Oo
 ·show 997 ∣ 2512440;decide
inductive mS:Yi
 | i {H:Hp} {Q:VK} {E:XK} {p L:Addr} {n m:Nat} (F:Y1X (n+12)) (m0:0<m) (m5:m<=5) (k:∀v fs H',Y5n->Y0s->Y4x (jK fs) v->IV m fs->Y0Z):mS [Y0x,.int (m:Int)] H Q E
def YQ(l:Af)(a:Nat):(l.drop a++l.take a).sum=l.sum:=by
 rw[List.sum_append,Int.add_comm,<-List.sum_append,List.take_append_drop]
section
def aGO(F:Yb "_law_shares" "_law_shares" aCS)(T:Yd)
  (FQ6:Yv "_law_draw" a01 dC) (FQ8:Yv "_law_frac" a17 fP):cX P w K mg base cN 2 f fd a01 mS:=by
 refine F.oky IH λG H Q E h=>?_;obtain @⟨H,Q,E,p,L,n,m,F,m0,m5,k⟩:=h;refine Yh;intro cdv A outer s hr _;refine⟨_,(aI (Y2t IH.nd (Y33 (fV (aR (Y6o eE aE 0) (aR (Y6o eE aE 0) (Y2s (Y6o eE aE 0) aE)))) (Y9B 0)))
  (aI (Y11 IH.nd (fV aH))
  (aI (Y67 IH.nd (aC 2))
  (aI (eA PassesOwn.never rfl (Y5w (bV wG (aC 1) aE)) (Y6T 5 IH.nd) (aI (cA (i:=6) IH.nd (Y1O FQ6 0 (Y6E 4)))
  (aI (Y7p oO 3 (Y1a FQ8 6 2))
  (aS (Y67 IH.nd (Y56 wG 4 6))))))
  (aI (Y7p oO 3 (Y1a FQ8 4 2))
  (aI (cA (i:=7) IH.nd (Y1a FQ6 0 1))
  (Y0R (mL eG (by rfl) T.b_tuple Kk (Y1r (bV AM (fN (GL K) (Y1j) (iA (aC 7)) iB) (fN (GL K) (Y1j) iB (iA (aC 7))))))))))))),?_⟩
 refine Yo;intro U R;refine Y3;refine Y2k (n+11) F (λx1 H1 a1 b1 F1 s1=>Y3R _ _ _ ?_);refine Y2k (n+10) F1 (λx2 H2 a2 b2 F2 s2=>Y3R _ _ _ ?_);refine Y2k (n+9) F2 (λx3 H3 a3 b3 F3 s3=>Y59 _ ?_);refine AN (by show 4<=64;decide) λq4 H4 χ e4 ψ=>Y3;refine Y2k (n+8) (F3.same ψ) (λθ H5 a5 b5 F5 s5=>?_);have hW:∃W:Int,xM [V.int (1+x1),V.int (2+x2),V.int (2+x3),V.int 997] θ=Ym W/\((1<=W/\W<=10)\/W=997):=by
  have:θ=0\/θ=1\/θ=2\/θ=3:=Oo;rcases this with rfl | rfl | rfl | rfl
  ·exact Y1 (.inl Oo)
  ·exact Y1 (.inl Oo)
  ·exact Y1 (.inl Oo)
  ·exact Y1 Y6g
 obtain⟨W,ζ,hW⟩:=hW;refine ixL (s5.at (F3.ne χ) e4) ζ (Ys);intro U R;have W0:0<W/\W<=997:=Oo;have b5:bB p H H5:=((((s1.trans s2).trans s3).trans ψ.but).trans s5);clear s1 s2 s3 ψ s5 e4 ζ F1 F2 F3;refine AN (by show 0<=64;decide) λD H6 hD e6 s6=>Ys;intro U R;have F6:=F5.same s6;have ρ:=F5.ne hD;have β:=F5.neL hD;have κ:H D=none:=bB.free b5 F5.there hD;refine⟨_,rfl,_,rfl,_,_,rfl,rfl,((m-1:Nat):Int),by show[V.int ((m:Int)-1)]=_;rw[show((m:Int)-1)=((m-1:Nat):Int)by exact Oo],Oo,Oo,?_⟩;rw[Int.toNat_natCast];have wz:W.natAbs<2^9000:=Y4j (show W.natAbs<2^10 by show W.natAbs<1024;exact Oo);refine gH (λi σ H'=>Ex6 λ(o5 o6 o7:An) (u:Af) (G:Al) (left:Int)=>aHN (σ=[Y2m,Ym (m:Int),Ym W,Y4 D,Ym left,o5,o6,o7]) (Y7j (n+8-i)) (Y0s) (Y0k=Y05 G) (Y2l ((u.map λx=>lw x W).map eZ) G) (u.length=i) ((∀x∈u,0<=x/\x<=W)) (u.sum+left=W) (0<=left) (left<=W))
  ⟨_,_,_,[],[],W,rfl,F6,b5.trans s6.but,e6,aJ.nil,rfl,(λx h=>by cases h),by simp,Oo,Oo⟩ ?_ ?_
 ·rintro i σ H7 hi ⟨o5,o6,o7,u,G,left,rfl,F7,ξ,δ,O,X,M,ι,l0,l1⟩;refine Y8r;intro U R;refine Y5l _ _ _ _ rfl rfl ?_;refine YdQ (n+8-(i+1)) (F7.less Oo) Oo (bK (show(left+1).natAbs<=998 by exact Oo) Dd) (λx8 H8 a8 b8 F8 s8=>Ys);intro U R;have e8:=s8.at ρ δ;refine Y1Y _ rfl (OM e8) _ _ rfl (Y8P W0.1 wz);intro ν H9 υ μ C;have j:=C _ _ e8;have lv:G.length=i:=by rw[O.len,aA,aA,X]
  refine BS j Oo λH10 I e=>Y5l _ _ _ _ rfl rfl ?_;have τ:=F7.t s8;have g:=e.t j;refine⟨_,_,_,u++[x8],G++[.ref ν],left-x8,rfl,(F8.same C).but e ρ β,bB.thru κ ((ξ.trans s8).trans C.but) e,I,?_,by rw[aW,X];rfl,?_,?_,Oo,Oo⟩
  ·rw[bN,bN];exact Yd0 (O.flat ((τ.trans C.t).trans g) (jR _)) g Y2b (dR μ)
  ·intro x d;rcases bQ.mp d with d | d
   ·exact M x d
   ·rw[aN.mp d];exact Oo
  ·rw[List.sum_append,List.sum_singleton];exact Oo
 ·rintro σ H7 ⟨o5,o6,o7,u,G,left,rfl,F7,ξ,δ,O,X,M,ι,l0,l1⟩;refine Y6f;intro U R;refine Y1Y _ rfl (OM δ) _ _ rfl (Y8P W0.1 wz);intro ν H9 υ μ C;have j:=C _ _ δ;have lv:G.length=m-1:=by rw[O.len,aA,aA,X]
  refine BS j Oo λH10 I e=>Y6f;intro U R;have g:=e.t j;have F10:=(F7.same C).but e ρ β;have B10:bB p H H10:=bB.thru κ (ξ.trans C.but) e;have J:aJ H10 (((u++[left]).map λx=>lw x W).map eZ) (G++[.ref ν]):=by
   rw[bN,bN];exact Yd0 (O.flat (C.t.trans g) (jR _)) g Y2b (dR μ)
  have y:(u++[left]).length=m/\(∀x∈u++[left],0<=x/\x<=W)/\(u++[left]).sum=W:=by
   refine⟨by rw[aW,X];show m-1+1=m;exact Oo,λx d=>?_,by rw[List.sum_append,List.sum_singleton];exact Oo⟩;rcases bQ.mp d with d | d
   ·exact M x d
   ·rw[aN.mp d];exact Oo
  generalize u++[left]=ο at J y;generalize G++[V.ref ν]=B at J I;clear O M ι l0 l1 X δ μ j e g F7 ξ C;have lu:B.length=m:=by rw[J.len,aA,aA,y.1]
  refine Y0F;refine YdQ n (F10.less Oo) Oo (bK (show((m:Int)).natAbs<=5 by exact Oo) Dd) (λx H11 a11 b11 F11 N=>?_);obtain⟨a,rfl⟩:∃a:Nat,x=(a:Int):=Y2h x.toNat;have γ:=N.at ρ I;have r11:=J.flat (F10.t N) (jR _);refine Y1H;refine slL γ (ys:=B.drop a) (NP _ _) λq12 H12 hq12 e12 ε=>Y1H;refine slL (ε _ _ γ) (ys:=B.take a) (NQ _ _) λq13 H13 hq13 φ α=>VY (α _ _ e12) φ (by rw[List.length_drop,bU];exact Oo) λq14 H14 hq14 ω aa=>Y34 q14 (Y5D ω Ych);have Z:=Y5u (B.drop a++B.take a) hl;have η:(upd H14 l (.tup (B.drop a++B.take a))) l=Yl (B.drop a++B.take a):=bR;generalize upd H14 l (.tup (B.drop a++B.take a))=H15 at Z η;have S:=((ε.trans α).trans aa).trans Z;refine k _ ((ο.drop a++ο.take a).map λx=>lw x W) H15 (F11.same S) ((B10.trans N).trans S.but) (Ybc η) ⟨ο.drop a++ο.take a,W,?_,?_,?_,W0.1,W0.2,OV hW,rfl⟩
  ·have r:=r11.same S;rw[bN,bN];refine aJ.append ?_ ?_
   ·rw[List.map_take,List.map_take];exact aJ.take a r
   ·rw[List.map_drop,List.map_drop];exact aJ.drop a r
  ·rw[aW,List.length_drop,bU];exact Oo
  ·intro x d;rcases bQ.mp d with d | d
   ·exact y.2.1 x (List.mem_of_mem_drop d)
   ·exact y.2.1 x (List.mem_of_mem_take d)
  ·rw[YQ];exact y.2.2
end
abbrev aCM:Stmt:=(top 84)
def WG:Yc ["_law_feed_here","_law_faces","_law_ways","_law_names","_law_start","_law_told_here"] a24 aCM:={}
abbrev aCR:Stmt:=(top 85)
def aFe:Yc ["_law_feed_here","_law_way"] a07 aCR:={}
abbrev sQ4:Stmt:=(top 86)
def cQ4:Yc ["_law_feed_here","_law_whole","_law_part"] a07 sQ4:={}
abbrev sQ1:Stmt:=(top 87)
def cQ1:Yc ["_law_feed_here","_law_ways","_law_most","_law_bounds","_law_mix"] a25 sQ1:={}
def aJ.atX{H:Hp}{α:Type}{g:Y8K α}{as:Yn}{xs:Al}(r:YeB g){i:Nat}{a:α}(h:as[i]?=some a):∃x,Y0t=Y9/\Y0r (g a) x:=by
 induction as generalizing xs i with
 | nil=>simp at h
 | cons b as ih =>
  rw[bC]at r;unfold aJ at r;obtain⟨x,e,rfl,d,c⟩:=r;cases i with
  | zero=>cases(show b=a by simpa using h);exact Y0Q x d
  | succ i=>exact ih c (by simpa using h)
def jB{H:Hp}{fs:Ak}{v:V}(h:Y23 fs v):∃a xs,v=Y7/\H a=Y0O/\Y73 eZ xs:=by
 unfold bL at h;exact h
abbrev wD(w:Y7G):PyData:=Y0a (.str w.1) (jK w.2)
abbrev wW(fs:Ah)(ws:Y0d):PyData:=Y0a (YfW .str) (.tuple (ws.map wD))
theorem CB:∀fs:Ah,fM (fs.map PyData.str)=true
 | []=>rfl
 | f::fs=>by show(cV (.str f)&&fM (fs.map PyData.str))=true;rw[CB fs];rfl
def LK(w:Y7G):cV (wD w)=true:=by
 show(cV (.str w.1)&&(Y6q w.2&&true))=true;rw[fW];rfl
theorem LG:∀ws:List (Str × Ak),fM (ws.map wD)=true
 | []=>rfl
 | w::ws=>by show(cV (wD w)&&fM (ws.map wD))=true;rw[LK w,LG ws];rfl
def lV(fs:Ah)(ws:Y0d):cV (wW fs ws)=true:=by
 show(cV (YfW .str)&&(cV (.tuple (ws.map wD))&&true))=true;rw[show cV (.tuple (fs.map PyData.str))=fM (fs.map PyData.str)from rfl,CB,show cV (.tuple (ws.map wD))=fM (ws.map wD)from rfl,LG];rfl
theorem DK{H:Hp}:∀fs:Ah,Y73 PyData.str (fs.map V.str)
 | []=>aJ.nil
 | f::fs=>aJ.cons (bL.str f) (DK fs)
def dF{H:Hp}{ds:Ya}{v:V}(h:Y0r Yy v):∃a xs,v=Y7/\H a=Y0O/\Y8f xs:=by unfold bL at h;exact h
def aDv{H:Hp}{ds:Ya}{v:V}(h:Y0r Y7h v):∃a xs,v=Y7/\H a=Y0y/\Y8f xs:=by unfold bL at h;exact h
def iU{H:Hp}{d e:PyData}{xs:Al}(h:Yag [d,e]):∃x y,xs=[x,y]/\Y2n/\Y0r e y:=by
 unfold aJ aJ aJ at h;obtain⟨x,_,rfl,a,y,_,rfl,c,rfl⟩:=h;exact Y0v x y a c
def cR{α:Type}{H:Hp}{g:Y8K α}{fs:Yn}{vs:Al}(h:Y73 g vs){i:Nat}{v:V}(e:vs[i]?=Yq):∃f,fs[i]?=Y7B/\Y0r (g f) v:=by
 obtain⟨d,a,c⟩:=h.get e;rw[aX]at a;cases q:fs[i]? with
 | none=>rw[q]at a;cases a
 | some f=>rw[q]at a;cases a;exact Y0Q f c
def iE{α:Type}{H:Hp}{g:Y8K α}{fs:Yn}{vs:Al}(h:Y73 g vs){i:Nat}{f:α}(e:fs[i]?=Y7B):∃v,vs[i]?=Yq/\Y0r (g f) v :=
 h.get' (by rw[aX,e];rfl)
def cQ{α:Type}{H:Hp}{g:Y8K α}{fs:Yn}{vs:Al}(h:Y73 g vs):Y4a fs.length:=by rw[h.len,aA]
def eU{α:Type}{l:Yn}{i:Nat}{x:α}(h:l[i]?=Y9):l.take (i+1)=l.take i++[x]:=by
 rw[iX,h];rfl
structure XD(F W:Nat)(fs:Ah)(ws:Y0d):Prop where
 f:Y7a F
 w:YcR W
 sh:∀x∈ws,IV F x.2
 nf:∀s∈fs,(YeP).length<=20
 nw:∀x∈ws,(reprText x.1).length<=20
def ZZ:∀s∈(a09:Ah),(YeP).length<=20:=Kk
inductive sB:Yi
 | i {H:Hp} {Q:VK} {E:XK} {p L:Addr} {n F W:Nat} (T:Y1X (n+64)) (h1:2<=F) (h2:F<=4) (h3:2<=W) (h4:W<=4) (k:∀v fs ws H',Y5n->Y0s->Y4x (wW fs ws) v->XD F W fs ws->Y0Z):sB [Y0x,.int (F:Int),.int (W:Int)] H Q E
def aAK{α:Type}{xs:Yn}{x:Int}(h:Y2v 8):∃v,Y4I (x % 8)=Yq/\v∈xs:=by
 obtain⟨v,a,c,_⟩:=NY (xs:=xs) (x:=x % 8) (YdJ Dd) (by have:=Int.emod_lt_of_pos x (b:=8) Dd;exact Oo);exact⟨v,a,c⟩
def YF{P:Y18 Str}{ys:Al}(h:∀(i:Nat) (y:V),Y1i=Y00->∃s,y=Y2C/\P s):∃ts:Ah,ys=ts.map V.str/\∀t∈ts,P t:=by
 induction ys with
 | nil=>exact Y0Q [] (λt h=>by cases h)
 | cons y ys ih =>
  obtain⟨s,rfl,hs⟩:=h 0 y rfl;obtain⟨ts,rfl,a⟩:=ih λi z d=>h (i+1) z (by simpa using d);refine Y0Q (s::ts) (λt c=>?_);rcases Y7q with rfl | c
  ·exact hs
  ·exact a t c
section
def aGI(F:Yb "_law_trial" "_law_trial" aCM)(T:Yd)
  (FQ6:Yv "_law_draw" a01 dC) (FQ14:Y1w "_law_shares" a01 mS):cX P w K mg base cN 3 f fd a24 sB:=by
 refine Y1k WG;obtain @⟨H,Q,E,p,L,n,F,W,T0,f2,f4,w2,w4,k⟩:=h;refine Yh;intro cdv A α s hr _;refine⟨_,(aI (Y6C 3 WG.nd (fV (aR dB (aR dB (aR dB (aR dB (aR dB (aR dB (Y2s dB dB)))))))))
  (aI (Y6C 4 WG.nd (Y9B 0))
  (aI (Yba WG.nd (mL eG (by rfl) T.b_tuple Kk (Y81 ["_law_k","_law_names","_law_start"] [3,4] (Y78 1) (Y5j 1 (bV nG (bV eE (aC 2) (Y1U eM aE 0)) aE)))))
  (aI (Y6C 4 WG.nd (Y9B 0))
  (Y0R (Y2L (aC 5) (mL eG (by rfl) T.b_tuple Kk (Y81 ["_law_k","_law_feed_here","_law_faces","_law_names","_law_start"] [0,1,3,4] (Y78 2) (Y2L (Y5j 3 (bV nG (bV eE (aC 4) (Y1U eM aE 0)) aE)) (Y1a FQ14 1 2)))))))))),?_⟩
 refine Yo;intro δ Z;refine AN (by show 8<=64;decide) λN1 H1 hN e1 ψ=>Ys;intro δ Z;have β:H1 N1=Y05 ((a09:Ah).map V.str):=e1;have κ:N1≠p:=T0.ne hN;refine Y3;refine Y2k (n+63) (T0.same ψ) (λx2 H2 a2 b2 T2 φ=>Ys);intro δ Z;have χ:=φ.at κ β;have e:∀x:Int,∃t:Str,(reprText t).length<=20/\xM ((a09:Ah).map V.str) (x % 8)=some (V.str t):=λx=>by
  obtain⟨v,I,G⟩:=aAK (xs:=(a09:Ah).map V.str) (x:=x) rfl;obtain⟨t,M,rfl⟩:=aU.mp G;exact⟨t,ZZ t (by assumption),I⟩
 refine Y2q _ rfl _ Oo Oo (Y9x (∃s,y=Y2C/\(YeP).length<=20) YdD Oo (λi H' Q' hi U η=>?_) (λD ys H3 hD ι s3 u ν=>?_))
 ·refine⟨_,rfl,_,rfl,_,rfl,_,_,rfl,rfl,IntMulOk.of_left Kk,_,_,rfl,rfl,_,_,rfl,rfl,(by show(0:Int)<8;decide),?_⟩;obtain⟨t,d,M⟩:=e (x2+3*(0+(i:Nat)));exact ixL (U _ _ χ) M (η _ H' (Yx) (Y0Q t d))
 ·obtain⟨B,rfl,X⟩:=YF ν;rw[aA]at u;refine Y34 D (Y5D ι Ych);refine Ys;intro δ Z;have ο:=Y5u (B.map V.str) hl;have ρ:(upd H3 l (.tup (B.map V.str))) l=Yl (B.map V.str):=bR;generalize upd H3 l (.tup (B.map V.str))=H4 at ο ρ;have S4:=s3.trans ο;have T4:=T2.same S4;have B4:bB p H H4:=(ψ.but.trans φ).trans S4.but;refine Y3;refine Y2k (n+62) T4 (λx5 H5 a5 b5 T5 S=>?_);have e5:=S.at κ (S4 _ _ χ);have ε:=T4.t S _ _ ρ;have B5:=B4.trans S;refine Y5l _ _ _ rfl Oo Oo (vI (Ydh p L (n+62-12*i)) T5 (λi y H'=>∃x:Str × Ak,Y4x (wD x) y/\IV F x.2/\(reprText x.1).length<=20) (λi y Ha Hb s ⟨x,I,G⟩=>⟨x,I.flat s (LK x),G⟩) Oo (λi H' Q' hi F' U η=>?_) (λD6 j H6 hD6 ξ T6 υ hz J=>?_))
  ·refine⟨_,rfl,_,rfl,_,rfl,_,_,rfl,rfl,IntMulOk.of_left Kk,_,_,rfl,rfl,_,_,rfl,rfl,(by show(0:Int)<8;decide),?_⟩;obtain⟨t,d,M⟩:=e (x5+5*(0+(i:Nat)));refine ixL (U.at κ e5) M Y0F;exact mS.i (n:=n+62-12*(i+1)) (Ycx) Oo Oo λv fs H7 T7 m ω ζ=>kM (by show 2<=64;decide) λq8 H8 R γ g=>η _ H8 (T7.same g) (m.trans g.but) ⟨(t,fs),Y6Q γ Y3g (ω.same g),ζ,d⟩
  ·obtain⟨r,aa,r6,C⟩:∃r:List (Str × Ak),r.length=j.length/\aJ H6 (r.map wD) j/\∀x∈r,IV F x.2/\(reprText x.1).length<=20:=by
    clear ξ hz
    induction j with
    | nil=>exact Y0X [] aJ.nil (λx h=>by cases h)
    | cons z j ih =>
     obtain⟨x,I,G⟩:=J 0 z rfl;obtain⟨r,g1,g2,g3⟩:=ih λi y u=>J (i+1) y (by simpa using u);refine⟨x::r,by rw[bM,bM,g1],aJ.cons I g2,λy u=>?_⟩;rcases aK.mp u with rfl | u
     ·exact G
     ·exact g3 y u
   refine Y34 D6 (Y5D ξ (λθ μ=>?_));have m:=Y5u j μ;have τ:(upd H6 θ (.tup j)) θ=Yl j:=bR;generalize upd H6 θ (.tup j)=H7 at m τ;refine kM (by show 2<=64;decide) λq8 H8 R γ g=>?_;have N:=g _ _ (m _ _ (T5.t υ _ _ ε));refine k _ B r H8 (((T6.same m).same g).less Oo) ((B5.trans υ).trans (m.trans g).but) ?_ ⟨Oo,Oo,λx O=>(C x O).1,X,λx O=>(C x O).2⟩;refine Y6Q γ (bL.tup N (DK B)) (bL.tup (g _ _ τ) ((r6.same m).same g))
end
abbrev sQ(M:Nat)(bs mix cs:Ak):PyData:=.tuple [.int (M:Int),jK bs,jK mix,jK cs]
def sK(M:Nat)(bs mix cs:Ak):cV (sQ M bs mix cs)=true:=by
 show(cV (.int (M:Int))&&(Y6q bs&&(Y6q mix&&(Y6q cs&&true))))=true;rw[fW,fW,fW];rfl
def FnP(N B:Nat)(f:Fr):Prop:=Y3p/\0<=f.1
inductive uW:Yi
 | i {H:Hp} {Q:VK} {E:XK} {p L:Addr} {n:Nat} (F:Y1X (n+4)) (k:∀v f H',Y5n->Y0s->Y3r f->Y8s 1 f->Y0Z):uW [Y0x] H Q E
def aBg{n d:Int}(h:0<=n):0<=(lw n d).1:=Int.ediv_nonneg h (Int.natCast_nonneg _)
def smallz{d:Int}(h:d.natAbs<1024):d.natAbs<2^9000:=Y4j (show d.natAbs<2^10 from h)
section
def oQ4(F:Yb "_law_bound" "_law_bound" sQ4)(T:Yd)
  (FQ6:Yv "_law_draw" a01 dC) (FQ8:Yv "_law_frac" a17 fP):cX P w K mg base cN 2 f fd a07 uW:=by
 refine F.oky cQ4 λη H Q E h=>?_;obtain @⟨H,Q,E,p,L,n,F,k⟩:=h;refine Yh;intro I A j s ε _;refine⟨_,(aI (Y9K cQ4.nd (Y6o eE aE 0))
  (aI (Y2t cQ4.nd (Y33 (fV (aR (Y1O FQ6 0 (Y6E 1)) (aR (bV gQ (Y1O FQ6 0 (Y6E 1)) aE) (Y1r aE)))) (Y9B 0)))
  (Y0R (Y1a FQ8 2 1)))),?_⟩
 refine Yo;intro N S;refine Y3;refine Y2k (n+3) F (λd H1 β κ F1 U=>Y59 _ ?_);refine Ys;intro N S;have u:bits (1+d+1)<=64:=bitsle (bK (show(1+d+1).natAbs<=13 by exact Oo) Dd);refine Y5l _ _ _ _ rfl rfl ?_;refine dC.i (n:=n+2) F1 Oo u λO H2 θ Z F2 x=>Y5l _ _ _ _ rfl rfl ?_;refine dC.i (n:=n+1) F2 Oo u λR H3 α X F3 G=>Y6F _ _ (Ya5 Kk) ?_;refine AN (by show 3<=64;decide) λW H4 g M l=>Y3;refine Y2k n (F3.same l) (λa H5 γ δ F5 m=>?_);have D:∃y:Int,xM [V.int O,V.int (R/2),V.int 0] a=Ym y/\0<=y/\y<=1+d:=by
  have:a=0\/a=1\/a=2:=Oo;rcases this with rfl | rfl | rfl
  ·exact Y0X _ Oo Oo
  ·exact Y0X _ Oo Oo
  ·exact Y0X _ Oo Oo
 obtain⟨y,e,B,ζ⟩:=D;refine ixL (m.at (F3.ne g) M) e (Y06 (Y8P Oo (smallz Oo)));intro ι H6 C J r;have hd:(1+d).natAbs ∣ 27720:=by
  have:∀z:Nat,z<=12->1<=z->z ∣ 27720:=Dd;exact this _ Oo Oo
 exact k _ _ H6 (F5.same r) (((((U.trans x).trans G).trans l.but).trans m).trans r.but) (dR J) ⟨(Fn.of Oo Oo).dvd hd,aBg B⟩
end
theorem FF{H:Hp}{P:Y18 Fr}:∀{ys:Al},(∀(i:Nat) (y:V),Y1i=Y00->∃f,Y3v f y/\P f)->∃fs:Ak,Y7a ys.length/\Y73 eZ ys/\∀f∈fs,P f
 | [],_=>⟨[],rfl,aJ.nil,λf h=>by cases h⟩
 | y::ys,h=>by
  obtain⟨f,h1,h2⟩:=h 0 y rfl;obtain⟨fs,e,g,c⟩:=FF (ys:=ys) λi z d=>h (i+1) z (by simpa using d);refine⟨f::fs,by rw[bM,bM,e],aJ.cons h1 g,λy a=>?_⟩;rcases aK.mp a with rfl | a
  ·exact h2
  ·exact c y a
inductive sA:Yi
 | i {H:Hp} {Q:VK} {E:XK} {p L:Addr} {n:Nat} (F:Y1X (n+3)) (k:∀v f H',Y5n->Y0s->Y3r f->yQ f->Y0Z):sA [Y0x] H Q E
def UO{n d:Int}(n0:0<=n)(n1:n<=999)(d0:0<d)(d1:d<=999):yQ (lw n d):=by
 have h:=YcF d0;have q:=MR (n:=n) d0;have a:=aBg (n:=n) (d:=d) n0;exact⟨h,a,Oo,Oo⟩
inductive xW:Yi
 | i {H:Hp} {Q:VK} {E:XK} {p L:Addr} {n W M:Nat} (T:Y1X (n+64)) (h1:1<=W) (h2:W<=4) (h3:M<=6) (k:∀v bs mix cs H',Y5n->Y0s->Y4x (sQ M bs mix cs) v->Y8p W->(∀f∈bs,Y8s 1 f)->IV W mix->Y9O M->(∀f∈cs,yQ f)->Y0Z):xW [Y0x,.int (W:Int),.int (M:Int)] H Q E
section
def aGN(F:Yb "_law_some" "_law_some" aCR)(T:Yd)
  (FQ6:Yv "_law_draw" a01 dC) (FQ8:Yv "_law_frac" a17 fP):cX P w K mg base cN 2 f fd a07 sA:=by
 refine F.oky aFe λX H Q E h=>?_;obtain @⟨H,Q,E,p,L,n,F,k⟩:=h;refine Yh;intro D A r s U _;refine⟨_,(aI (Y9K aFe.nd (Y9B 0))
  (aI (Y8j (Y2y sX 1 aE) Y3V)
  (aI (Y8j (Y2y sX 1 aE) (cB FQ8 (Y6o eE aE 0) (Y6o eE aE 0)))
  (Y0R (cB FQ8 (Y6o eE aE 0) (Y6o eE aE 0)))))),?_⟩
 refine Yo;intro G O;refine Y3;refine Y2k (n+2) F (λW H1 R Z F1 m=>Ys);intro G O;refine Y5b _ rfl _ Y7c
 ·exact kM (by show 2<=64;decide) λS H2 C I a=>k _ (0,1) H2 ((F1.same a).less Oo) (m.trans a.but) (dR I) ⟨UQ,Dd,Dd,Dd⟩
 refine Y5b _ rfl _ Y7c
 ·refine Y3;refine Y2k (n+1) F1 (λM H2 J y F2 a=>Y3R _ _ _ ?_);refine Y2k n F2 (λN H3 B x F3 g=>Y59 _ ?_);refine Y8P Oo (smallz Oo);intro u H4 j l d;exact k _ _ H4 (F3.same d) (((m.trans a).trans g).trans d.but) (dR l) (UO Oo Oo Oo Oo)
 ·refine Y3;refine Y2k (n+1) F1 (λM H2 J y F2 a=>Y3R _ _ _ ?_);refine Y2k n F2 (λN H3 B x F3 g=>Y59 _ ?_);refine Y8P Oo (smallz Oo);intro u H4 j l d;exact k _ _ H4 (F3.same d) (((m.trans a).trans g).trans d.but) (dR l) (UO Oo Oo Oo Oo)
def oQ1(F:Yb "_law_aim" "_law_aim" sQ1)(T:Yd)
  (FQ4:Y1w "_law_bound" a07 uW) (FQ14:Y1w "_law_shares" a01 mS) (FQ15:Y1w "_law_some" a07 sA):cX P w K mg base cN 3 f fd a25 xW:=by
 refine Y1k cQ1;obtain @⟨H,Q,E,p,L,n,W,M,T0,w1,w4,m6,k⟩:=h;refine Yh;intro ξ A G s hr _;refine⟨_,(aI (Y11 cQ1.nd (mL eG (by rfl) T.b_tuple Kk (Y81 a33 [0] (Y78 1) (Y2N FQ4 1))))
  (aI (Y67 cQ1.nd (Y1a FQ14 0 1))
  (Y0R (cD (aR (aC 2) (Y55 Y1j 4 (Y1r (mL eG (by rfl) T.b_tuple Kk (Y81 a33 [0] (Y78 2) (Y2N FQ15 1)))))))))),?_⟩
 refine Yo;intro d_ ψ;refine Y2q _ rfl _ Oo Oo (vI (Ydh p L (n+64-4*i)) T0 (λi y H'=>∃f:Fr,Y2f f y/\Y8s 1 f) (λi y χ κ s ⟨x,J,I⟩=>⟨x,J.flat s (cU x),I⟩) Oo (λi H' Q' φ F' τ O=>?_) (λD j H1 ω δ T1 η hy e=>?_))
 ·refine Y3;exact uW.i (n:=n+64-4*(i+1)) (Ycx) λv f H2 T2 a d u=>O _ H2 T2 a ⟨f,d,u⟩
 ·obtain⟨bs,lb,Z,υ⟩:=FF e;refine Y34 D (Y5D δ (λl μ=>?_));refine Ys;intro d_ ψ;have a:=Y5u j μ;have X:(upd H1 l (.tup j)) l=Yl j:=bR;generalize upd H1 l (.tup j)=H2 at a X;have T2:=T1.same a;have d:bL H2 (jK bs) (Y13):=bL.tup X (Z.same a);refine Y0F;refine mS.i (n:=n+30) (T2.less Oo) Oo Oo λv3 m H3 T3 γ ρ B=>?_;have C:=d.flat (T2.t γ) (fW _);have B3:bB p H H3:=(η.trans a.but).trans γ;have r:Y8p W:=Oo;clear δ e Z hy η a X T1 d;refine⟨_,rfl,_,rfl,_,rfl,_,rfl,_,rfl,Oo,Oo,vI (Ydh p L (n+30-3*i)) T3 (λi y H'=>∃f:Fr,Y2f f y/\yQ f) (λi y χ κ s ⟨x,J,I⟩=>⟨x,J.flat s (cU x),I⟩) Oo (λi H' Q' φ F' τ O=>?_) (λD g H4 ω ο T4 α hz R=>?_)⟩
  ·refine Y3;exact sA.i (n:=n+30-3*(i+1)) (Ycx) λv f H2 T2 a d u=>O _ H2 T2 a ⟨f,d,u⟩
  ·obtain⟨θ,lc,ι,fc⟩:=FF R;refine Y34 D (Y5D ο (λU N=>?_));have β:=Y5u g N;have ζ:(upd H4 U (.tup g)) U=Yl g:=bR;generalize upd H4 U (.tup g)=H5 at β ζ;refine kM (by show 4<=64;decide) λq6 H6 hq6 ν ε=>?_;have S:=β.trans ε;have t:=T3.t α;refine k _ bs m θ H6 ((T4.same S).less Oo) ((B3.trans α).trans S.but) ?_ r υ B Oo fc;exact bL.tup ν (Yaj Yas ((C.flat t (fW _)).same S) (Y6M ((ρ.flat t (fW _)).same S) (bL.tup (ε _ _ ζ) (ι.same S))))
end
abbrev aCx:Stmt:=(top 14)
def QP:Yc ["number","above_nought","divided","divisor","rest"] a26 aCx:={}
abbrev aCb:Stmt:=(top 18)
def QO:Yc ["one","other","common","one_part","other_part","upper","left"] a00 aCb:={}
abbrev aCi:Stmt:=(top 19)
def aHi:Yc a00 a00 aCi:={}
abbrev aB5:Stmt:=(top 20)
def aDX:Yc ["one","other","first","second"] a00 aB5:={}
abbrev aCo:Stmt:=(top 21)
def aHo:Yc a00 a00 aCo:={}
abbrev aB4:Stmt:=(top 22)
def aAw:Yc ["some","whole","one"] ["some"] aB4:={}
abbrev aCt:Stmt:=(top 31)
def aHt:Yc a28 a28 aCt:={}
abbrev aB2:Stmt:=(top 32)
def aG8:Yc a28 a28 aB2:={}
abbrev aB3:Stmt:=(top 33)
def aG9:Yc ["trial","way"] ["trial","way"] aB3:={}
abbrev aB1:Stmt:=(top 39)
def WC:Yc ["trial","way","counts","product","share","count"] a31 aB1:={}
abbrev aCa:Stmt:=(top 40)
def QN:Yc ["share","count","upper","lower","step"] ["share","count"] aCa:={}
abbrev aCJ:Stmt:=(top 41)
def aDY:Yc ["faces","most","found","many"] ["faces","most"] aCJ:={}
abbrev YM:Stmt:=(top 42)
def aAy:Yc ["faces","many","found","first"] a32 YM:={}
abbrev aCe:Stmt:=(top 44)
def aHe:Yc a35 a35 aCe:={}
abbrev aCd:Stmt:=(top 45)
def aHd:Yc ["counts"] ["counts"] aCd:={}
def BT.of{H H1:Hp}{Q:VK}{f:Fr}(s:aV H H1)(q:BT H Q f):BT H1 Q f:=λp H' c e a=>q p H' (s.free c) e (s.trans a)
inductive dW (K:Aa):Yi
 | i {H:Hp} {Q:VK} {E:XK} {x y:V} {f g:Fr} (h1:iN K H f x) (h2:iN K H g y) (l1:Y0A) (l2:dM g) (z1:Y4C) (z2:Y4c g) (q:BT H Q (kH f g)):dW K [x,y] H Q E
def wH(f:Fr):Fr:=(-f.1,f.2)
def uZ{f:Fr}(h:Y0A):dM (wH f):=⟨h.pos,by show Y0z (-f.1) f.2;rw[Int.neg_gcd];exact h.low⟩
inductive lX (K:Aa):Yi
 | i {H:Hp} {Q:VK} {E:XK} {x y:V} {f g:Fr} (h1:iN K H f x) (h2:iN K H g y) (l1:Y0A) (l2:dM g) (z1:Y4C) (z2:Y4c g) (q:BT H Q (pL f (wH g))):lX K [x,y] H Q E
section
def aGt(F:Yb "common_divisor" "common_divisor" aCx)(T:Yd):cX P w K mg base cN 1 f fd a26 sV:=by
 refine F.oky QP λJ H Q E h=>?_;obtain @⟨H,Q,E,n,d,hd,q⟩:=h;refine Yh;intro x A p s I _;refine⟨_,(aI (Y2t QP.nd Yw)
  (aI (Y11 QP.nd Y0f)
  (aI (yR PassesOwn.never (Y2y AJ 3 aE) (aI (Y67 QP.nd (Y56 nG 2 3))
  (aI (Y2t QP.nd Y1j)
  (aS (Y11 QP.nd (aC 4))))))
  (Y3h 2)))),?_⟩
 refine Yo;intro B G;refine Y0F;refine DO (λm σ H'=>Ex3 λ(a b:Int) (c:An)=>An6 (σ=[Ym n,Ym d,Ym a,Ym b,c]) (0<=b) ((Int.gcd a b)=(Yax d)) ((b=0->0<a)) (H'=H) (m=b.toNat))
  (λσ H'=>∃(c:An),σ=[Ym n,Ym d,Ym (Yax d),Ym 0,c]/\H'=H)
  _ (Y2R n d none Oo rfl Oo rfl rfl) ?_ ?_
 ·rintro m σ H2 ⟨a,b,c,rfl,D,r,u,rfl,rfl⟩;refine Y5b _ rfl _ (CS (Y47) (Y47))
  ·have g:0<b:=by
    rcases Int.lt_or_eq_of_le D with h | h
    ·exact h
    ·exact absurd (congrArg V.int h.symm) e
   refine Yo;intro B G;refine⟨_,rfl,_,rfl,_,_,rfl,rfl,g,_,rfl,_,rfl,?_⟩;have j:=Int.emod_lt_of_pos a g;have C:=Yff a b;exact⟨_,Oo,b,a % b,_,rfl,C,by rw[HJ,r],λ_=>g,rfl,rfl⟩
  ·have l:b=0:=by injection e
   subst l;have y:=u rfl;have j:=NA y;rw[r]at j;rw[j];exact Y0Q c rfl
 ·rintro σ H2 ⟨c,rfl,rfl⟩;exact Y1 q
def aF5(F:Yb "plus" "plus" aCb)(T:Yd)
  (FQ35:Yv "common_divisor" a26 sV):cX P w K mg base cN 2 f fd a00 (kK K):=by
 refine F.oky QO λι H Q E h=>?_;obtain @⟨H,Q,E,x,y,⟨a,b⟩,⟨c,d⟩,γ,X,R,M,Z,U,q⟩:=h;refine Yh;intro β A L s ε _;obtain⟨η,rfl,m⟩:=γ;obtain⟨δ,rfl,l⟩:=X;have θ:0<b:=R.pos;have C:0<d:=M.pos;obtain⟨J,O⟩:=Z;obtain⟨D,u⟩:=U;dsimp only at J O D u m l;have e:=jW (n:=b) C;have G:=AZ (n:=b) C u;have g:=tK O e;have j:=tK u e;have u1:=DY J j;have ζ:=DY D g;have I:=jW (n:=a*(d/(Int.gcd b d:Int))+c*(b/(Int.gcd b d:Int))) e;have N:=AZ (n:=a*(d/(Int.gcd b d:Int))+c*(b/(Int.gcd b d:Int))) e G;have eq:pL (a,b) (c,d)=_:=ZL R M;refine⟨_,(aI (Y2t QO.nd (cB FQ35 (Y0G) (Y16)))
  (aI (Y11 QO.nd (Y1U gQ Y0G 2))
  (aI (Y67 QO.nd (Y1U gQ Y16 2))
  (aI (Yba QO.nd (bV eE (Y1U eM Y0G 4) (Y1U eM Y16 3)))
  (aI (cA (i:=6) QO.nd (Y1a FQ35 5 2))
  (Y0R (Y2L (Y56 gQ 5 6) (bV eM (aC 3) (Y1U gQ Y16 6))))))))),?_⟩
 refine Yo;intro r B;refine Y0C m;refine Y0C l;refine sV.i C (Ys);intro r B;refine Y0C m;refine Y1Y _ rfl _ _ rfl (vC e (lN G)) Ys;intro r B;refine Y0C l;refine Y1Y _ rfl _ _ rfl (vC e (lN G)) Ys;intro r B;refine Y0C m;refine Y1Y _ rfl _ _ rfl (sO J j) (Y0C l);refine⟨_,rfl,_,_,rfl,rfl,sO D g,_,_,rfl,rfl,Ys⟩;intro r B;refine Y06 (sV.i e ?_);refine⟨_,rfl,_,rfl,_,_,rfl,rfl,vC I (lN N),Y06 (nH l rfl ?_)⟩;refine⟨_,rfl,_,_,rfl,rfl,vC I (lN N),_,_,rfl,rfl,sO g (tK u I),?_⟩;refine kM (by show 2<=64;decide) λp H3 W S α=>q p H3 W ?_ α;rw[eq];exact S
def aFZ(F:Yb "times" "times" aB5)(T:Yd)
  (FQ35:Yv "common_divisor" a26 sV):cX P w K mg base cN 2 f fd a00 (dW K):=by
 refine F.oky aDX λε H Q E h=>?_;obtain @⟨H,Q,E,x,y,⟨a,b⟩,⟨m,d⟩,X,S,M,I,⟨N,u⟩,⟨L,C⟩,q⟩:=h;refine Yh;intro W A D s γ _;obtain⟨δ,rfl,e⟩:=X;obtain⟨β,rfl,g⟩:=S;have B:0<b:=M.pos;have r:0<d:=I.pos;dsimp only at N u L C e g;have l:=jW (n:=a) r;have j:=jW (n:=m) B;have J:=AZ (n:=a) r C;have G:=AZ (n:=m) B u;have eq:kH (a,b) (m,d)=_:=RZ M I;refine⟨_,(aI (Y2t aDX.nd (cB FQ35 (Y0G) (Y16)))
  (aI (Y11 aDX.nd (cB FQ35 (Y16) (Y0G)))
  (Y0R (Y2L (bV eM (Y1U gQ Y0G 2) (Y1U gQ Y16 3)) (bV eM (Y1U gQ Y0G 3) (Y1U gQ Y16 2)))))),?_⟩
 refine Yo;intro Z α;refine Y0C e;refine Y0C g;refine sV.i r (Ys);intro Z α;refine Y0C g;refine Y0C e;refine sV.i B (Y0C e);refine Y1Y _ rfl _ _ rfl (vC l (lN J)) (Y0C g);refine⟨_,rfl,_,_,rfl,rfl,vC j (lN G),_,_,rfl,rfl,sO (tK N l) (tK L j),Y0C e⟩;refine Y1Y _ rfl _ _ rfl (vC j (lN G)) (Y0C g);refine⟨_,rfl,_,_,rfl,rfl,vC l (lN J),_,_,rfl,rfl,sO (tK u j) (tK C l),?_⟩;refine kM (by show 2<=64;decide) λp H3 R O U=>q p H3 R ?_ U;rw[eq];exact O
def aGc(F:Yb "less" "less" aCi)(T:Yd)
  (FQ59:Y1w "plus" a00 (kK K)):cX P w K mg base cN 3 f fd a00 (lX K):=by
 refine YdB aHi ?_;obtain @⟨H,Q,E,x,y,f,g,C,r,D,l,u,d,q⟩:=h;refine Yh;intro B A a s J _;obtain⟨G,rfl,j⟩:=r;refine Y1e (Y1O FQ59 0 (Y2L (yW tI (Y16)) Y16)) (Y06 (nH j rfl ?_));refine Y1 Y4B;refine kM (by show 2<=64;decide) λp H3 I m e=>kK.i (iN.same e C) (iN.new (f:=wH g) m) D (uZ l) u ⟨by show(-g.1).natAbs<_;rw[Int.natAbs_neg];exact d.1,d.2⟩ ?_;exact q.of e
def aGj(F:Yb "is_less" "is_less" aCo)(T:Yd):cX P w K mg base cN 1 f fd a00 (kL K):=by
 refine YfK aHo ?_;obtain @⟨H,Q,E,x,y,⟨a,b⟩,⟨c,d⟩,r,j,⟨B,l⟩,⟨p,u⟩,q⟩:=h;refine Yh;intro m A e s D _;obtain⟨G,rfl,g⟩:=r;obtain⟨C,rfl,i⟩:=j;refine Y1e (jY AK (Yby eM) (bV eM (Y16) (Y0G))) (Y0C g);refine Y0C i;refine Y6F _ _ (sO B u) (Y0C i);refine Y0C g;exact⟨_,_,rfl,rfl,sO p l,_,_,rfl,rfl,q⟩
end
def oS{N B:Nat}{f:Fr}(h:Y3p)(hN:0<N)(hz:N<2^3000)(hB:B<=2^700):Y4C:=by
 obtain⟨d,a⟩:=h.num hN;refine⟨?_,bK a (Y4j hz)⟩;have c:B*N<=2^700*2^3000:=Nat.mul_le_mul hB (Nat.le_of_lt hz);have e:(2:Nat)^500*2^3000<2^4000:=by rw[<-Nat.pow_add];exact Y6N Dd
 exact Oo
structure DJ(fs:Ak):Prop where
 low:∀f∈fs,Y0A
 sz:∀f∈fs,Y4C
 part:∀i,dM (Ybd)/\Y4c Ybd
def pQ{N B:Nat}{fs:Ak}(h:∀f∈fs,Y3p)(hN:0<N)(hz:N<2^3000)(hl:Y9D 64)(hB:B<=2^690):DJ fs:=by
 have d:(2:Nat)^690<=2^700:=Y5x;have c:64*(2:Nat)^690<=2^700:=by rw[show(64:Nat)=2^6 from rfl,<-Nat.pow_add];exact Y5x
 refine⟨λf a=>(h f a).low,λf a=>oS (h f a) hN hz (aM hB d),λi=>?_⟩;have t:=Fn.tot (Ydq) λf a=>h f (Y6P);have l:(Ydq).length<=64:=by rw[bU];exact Oo
 have:(Ydq).length*B<=64*2^690:=Nat.mul_le_mul l hB;exact⟨t.low,oS t hN hz (aM this c)⟩
structure sS(K:Aa)(H:Hp)(fs:Ak)(xs:Al):Prop where
 len:Y2v fs.length
 at_:∀(i:Nat) (x:V),Y0t=Y9->∃f,fs[i]?=Y7B/\iN K H f x
theorem sS.of{K:Aa}{H:Hp}{fs:Ak}{xs:Al}(r:Y73 eZ xs):sS K H fs xs:=⟨cQ r,λi x e=>by
 obtain⟨f,a,c⟩:=cR r e;exact⟨f,a,iN.of c⟩⟩
inductive iY (K:Aa):Yi
 | i {H:Hp} {Q:VK} {E:XK} {a:Addr} {xs:Al} {fs:Ak} (h:H a=Y0y\/H a=Y0O) (r:sS K H fs xs) (ok:DJ fs) (q:∀v H',Y0->Y3r (jP fs)->Y0Z):iY K Y30 H Q E
def jZ{K:Aa}{H:Hp}{Q:VK}{E:XK}{a:Addr}{xs:Al}{fs:Ak}(h:H a=Y0y)(r:sS K H fs xs)(ok:DJ fs)(q:∀v H',Y0->Y3r (jP fs)->Y0Z):iY K Y30 H Q E:=iY.i (Y8R) r ok q
section
def aFY(F:Yb "total" "total" aB4)(T:Yd)
  (FQ59:Y1w "plus" a00 (kK K)):cX P w K mg base cN 3 f fd ["some"] (iY K):=by
 refine YdB aAw ?_;obtain @⟨H,Q,E,a,L,fs,m,B,ok,q⟩:=h;refine Yh;intro U A N s X _;have l:=B.len;refine⟨_,(aI (Y9K aAw.nd Y3V)
  (aI (Y2z (aAW (fX (Yw)) (Y2x 0)) 2 aAw.nd (Y9K aAw.nd (Y1a FQ59 1 2)))
  (Y3h 1))),?_⟩
 refine Yo;intro W α;refine kM (by show 2<=64;decide) λZ H0 S O s0=>?_;rcases m with m | m
 ·refine .inl (Y5P a (s0 _ _ m) (YbV L (Ex2 λw j=>Y9U (σ=[Y1y,some w,j]) (Y2f Ybd w)) (Y3y s0 (dR O)) Y7Y ?_ ?_))
  ·obtain⟨w,j,rfl,d,_⟩:=p;exact hU.of (d _ _ m)
  ·rintro i x σ H1 G ⟨w,j,rfl,d,e⟩;refine Y22;intro W;obtain⟨g,r,I⟩:=B.at_ i x G;have u:=aF r;obtain⟨C,D⟩:=ok.part i;refine Y06 (kK.i (iN.of e) (iN.same d I) C (Ybv u) D (ok.sz _ u) ?_);intro R H2 J M y;refine Y3y (d.trans y) ?_;rw[eU r,lA];exact dR M
  ·rintro σ H1 ⟨w,j,rfl,d,e⟩;refine Y3;rw[l,cZ]at e;exact q _ H1 d e
 ·refine .inr (Y3P a (s0 _ _ m) (Y9g L (Ex2 λw j=>Y9U (σ=[Y1y,some w,j]) (Y2f Ybd w)) (Y3y s0 (dR O)) Y7Y ?_ ?_))
  ·obtain⟨w,j,rfl,d,_⟩:=p;exact fS.of (d _ _ m)
  ·rintro i x σ H1 G ⟨w,j,rfl,d,e⟩;obtain⟨g,r,I⟩:=B.at_ i x G;have u:=aF r;obtain⟨C,D⟩:=ok.part i;refine Y06 (kK.i (iN.of e) (iN.same d I) C (Ybv u) D (ok.sz _ u) ?_);intro R H2 J M y;refine Y3y (d.trans y) ?_;rw[eU r,lA];exact dR M
  ·rintro σ H1 ⟨w,j,rfl,d,e⟩;refine Y3;rw[l,cZ]at e;exact q _ H1 d e
end
section
end
abbrev gB(cs:Ae):PyData:=.tuple (cs.map λ(n:Nat)=>PyData.int (n:Int))
theorem HU:∀cs:Ae,fM (cs.map λ(n:Nat)=>PyData.int (n:Int))=true
 | []=>rfl
 | f::fs=>by show(cV (.int f)&&fM (fs.map λ(n:Nat)=>PyData.int (n:Int)))=true;rw[HU fs];rfl
def gT(cs:Ae):cV (gB cs)=true:=HU cs
def FT(K:Aa)(H:Hp)(f:Fr)(x:V):Prop:=Y3v f x\/∃a,x=Y7/\uA K a [f.1,f.2]=true
def FT.v{K:Aa}{H:Hp}{f:Fr}{x:V}(h:FT K H f x):iN K H f x:=by
 rcases h with h | ⟨a,e,h⟩
 ·exact iN.of h
 ·exact Y4A e (uI h)
def FT.t{K:Aa}{H H':Hp}{f:Fr}{x:V}(s:Y4G)(h:FT K H f x):FT K H' f x:=by
 rcases h with h | h
 ·exact .inl (h.flat s (cU f))
 ·exact .inr h
def FT.same{K:Aa}{H H':Hp}{f:Fr}{x:V}(s:Y0)(h:FT K H f x):FT K H' f x:=h.t s.t
def zH{H:Hp}{fs:Ah}{ws:Y0d}{v:V}(h:Y5A v):∃a af aw xf xw,v=Y7/\H a=Yl [.ref af,.ref aw]/\H af=Yl xf/\H aw=Yl xw/\Y73 .str xf/\Y15 (ws.map wD) xw:=by
 obtain⟨a,p,rfl,e,g⟩:=dF h;obtain⟨x,y,rfl,j,d⟩:=iU g;obtain⟨af,xf,rfl,c,l⟩:=dF j;obtain⟨aw,xw,rfl,i,m⟩:=dF d;exact⟨a,af,aw,xf,xw,rfl,e,c,i,l,m⟩
inductive gG:Yi
 | i {H:Hp} {Q:VK} {E:XK} {v:V} {fs:Ah} {ws:Y0d} (h:Y5A v) (q:Y45 (ws.length:Nat)):gG [v] H Q E
inductive EA:Yi
 | i {H:Hp} {Q:VK} {E:XK} {v:V} {fs:Ah} {ws:Y0d} {w:Y7G} {i:Nat} (h:Y5A v) (hw:ws[i]?=some w) (q:∀x,Y23 w.2 x->Q x H):EA [v,.int (i:Int)] H Q E
structure BOk(B:Nat)(fs:Ak):Prop where
 low:∀f∈fs,Y0A
 up:∀f∈fs,f.1.natAbs<=2^B
 dn:∀f∈fs,f.2.natAbs<=2^B
inductive uM (K:Aa):Yi
 | i {H:Hp} {Q:VK} {E:XK} {x:V} {f:Fr} {c B:Nat} (h:iN K H f x) (h1:f.1.natAbs<=2^B) (h2:f.2.natAbs<=2^B) (h3:B<=4000) (h5:c<=4000) (h4:B*c<=4000) (q:BT H Q (AD f c)):uM K [x,.int (c:Int)] H Q E
def ES{x:Int}{n:Nat}(h:x.natAbs<=2^n)(hn:n<=4000):x.natAbs<2^4001:=bK h (Y6N Oo)
def SH{f:Fr}{n:Nat}(h1:f.1.natAbs<=2^n)(h2:f.2.natAbs<=2^n){k:Nat}(hk:n<k):xO k f:=⟨bK h1 (Y6N hk),bK h2 (Y6N hk)⟩
inductive mR (K:Aa):Yi
 | i {H:Hp} {Q:VK} {E:XK} {v cv:V} {fs:Ah} {ws:Y0d} {w:Y7G} {cs:Ae} {i:Nat} (h:Y5A v) (hw:ws[i]?=some w) (hc:Y6n cs cv) (ok:BOk 10 w.2) (hs:cs.sum<=390) (q:∀x H',Y0->FT K H' (mW (w.2.zip cs)) x->Q x H'):mR K [v,.int (i:Int),cv] H Q E
def LC{α β:Type}{l:Yn}{m:List β}{i:Nat}{a:α}{b:β}(h1:l[i]?=some a)(h2:m[i]?=Y5Q):(l.zip m)[i]?=some (a,b):=by rw[List.getElem?_zip_eq_some];exact⟨h1,h2⟩
def XH{α:Type}(l:Yn)(m:Ae)(i:Nat):(((l.zip m).take i).map (·.2)).sum<=m.sum:=by
 induction l generalizing m i with
 | nil=>simp
 | cons a l ih =>
  cases m with
  | nil=>simp
  | cons b m =>
   cases i with
   | zero=>simp
   | succ i =>
    have:=ih m i;simp only[List.zip_cons_cons,List.take_succ_cons,bC,List.sum_cons];exact Oo
def mO{α β:Type}{l:Yn}{m:List β}{i:Nat}{z:α × β}(h:z∈(l.zip m).take i):z.1∈l:=(List.of_mem_zip (a:=z.1) (b:=z.2) (List.mem_of_mem_take h)).1
def YC{m:Ae}{i c:Nat}(h:m[i]?=Y0c):c<=m.sum:=by
 induction m generalizing i with
 | nil=>simp at h
 | cons a m ih =>
  rw[List.sum_cons];cases i with
  | zero=>cases(show a=c by simpa using h);exact Oo
  | succ i=>have:=ih (i:=i) (by simpa using h);exact Oo
section
def aFW(F:Yb "ways_of" "ways_of" aB2)(T:Yd):cX P w K mg base cN 1 f fd a28 gG:=by
 refine F.oky aG8 λB H Q E h=>?_;obtain @⟨H,Q,E,v,fs,m,h,q⟩:=h;refine Yh;intro i A e s u _;obtain⟨a,l,p,y,r,rfl,j,C,g,x,d⟩:=zH h;refine Y1e (cT fH (by rfl) T.b_len Kk (Y1r Y0G)) (Y0i j);refine Y6w g;rw[cQ d];exact q
def aFX(F:Yb "way_shares" "way_shares" aB3)(T:Yd):cX P w K mg base cN 1 f fd ["trial","way"] EA:=by
 refine F.oky aG9 λS H Q E h=>?_;obtain @⟨H,Q,E,v,fs,G,w,i,h,g,q⟩:=h;refine Yh;intro x A l s L _;obtain⟨a,D,I,O,J,rfl,B,U,m,N,e⟩:=zH h;obtain⟨u,r,ru⟩:=iE e g;obtain⟨b,M,rfl,C,d⟩:=dF ru;obtain⟨y,z,rfl,R,p⟩:=iU d;refine Y1e (Y33 (Y33 Y0G Y0f) aE) (Y0i B);refine Y1 (Y8c m i r ?_);exact gU C rfl (q _ p)
def aF4(F:Yb "power" "power" aCa)(T:Yd):cX P w K mg base cN 1 f fd ["share","count"] (uM K):=by
 refine F.oky QN λO H Q E h=>?_;obtain @⟨H,Q,E,x,f,n,B,⟨a,rfl,r⟩,p,j,m,M,y,q⟩:=h;refine Yh;intro G A e s N _;refine⟨_,(aI (Y2t QN.nd aE)
  (aI (Y11 QN.nd aE)
  (aI (eA PassesOwn.never rfl (Y78 1) (Y6T 4 QN.nd) (aI (Y2t QN.nd (bV eM (aC 2) Y0G))
  (aS (Y11 QN.nd (bV eM (aC 3) Y0G)))))
  (Y0R (Y2L (aC 2) Y1j))))),?_⟩
 refine Yo;intro I J;refine Y2q _ rfl _ Oo Oo (Y9s (Ex1 λd=>An2 (σ=[Y1y,Ym (n:Int),Ym (f.1^i),Ym (f.2^i),d]) (H'=H)) (Y0j (by rw[Int.pow_zero,Int.pow_zero];rfl)) ?_ ?_)
 ·rintro i σ H1 L ⟨d,rfl,rfl⟩;refine Y8r;intro I J;have l:B*i<=4000:=aM (Nat.mul_le_mul_left _ Oo) y;refine Y06 (nH r rfl ?_);refine Y6F _ _ (sO (ES (wE p i) l) (ES p m)) (Y06 (nH r rfl ?_));exact Y6F _ _ (sO (ES (wE j i) l) (ES j m)) (Y0j (by rw[Int.pow_succ,Int.pow_succ];rfl))
 ·rintro σ H1 ⟨d,rfl,rfl⟩;refine Y0F;exact kM (by show 2<=64;decide) λu H3 g C D=>q u H3 g (by rw[C];rfl) D
def aFV(F:Yb "weight" "weight" aB1)(T:Yd)
  (FQ67:Yv "way_shares" ["trial","way"] EA) (FQ65:Y7l "times" K) (FQ60:Yv "power" ["share","count"] (uM K)):cX P w K mg base cN 3 f fd a31 (mR K):=by
 refine Y1k WC;obtain @⟨H,Q,E,v,cv,fs,ws,w,a,j,h,ν,θ,ok,hs,q⟩:=h;refine Yh;intro δ A D s hr _;refine⟨_,(aI (Y11 WC.nd (Y2T c.ONE T.g_ONE))
  (aI (eA PassesOwn.never rfl (yU true true rfl T.b_zip (Y2s (Y1a FQ67 0 1) (aC 2))) (tH rfl (Y7o 4 WC.nd (Y7o 5 WC.nd pT))) (aS (Y11 WC.nd (Y1O FQ65 3 (Y1a FQ60 4 5)))))
  (Y3h 3))),?_⟩
 refine Yo;intro ο n_;refine Y0F;refine EA.i h ν λx Z=>?_;obtain⟨ρ,X,rfl,S,M⟩:=dF Z;obtain⟨J,O,rfl,R,L⟩:=dF θ;refine⟨_,rfl,ρ,J,X,O,rfl,S,R,?_⟩;have η:=cQ M;have ι:=cQ L;have N:∀i,∀z∈(w.2.zip a).take i,dM z.1:=λi z d=>Ybv (mO d);have κ:∀i,∀z∈(w.2.zip a).take i,z.1.1.natAbs<=2^10/\z.1.2.natAbs<=2^10:=λi z d=>⟨ok.up _ (mO d),ok.dn _ (mO d)⟩;refine ND (λi σ H'=>Ex3 λx m p=>Y9U (σ=[Yq,Ym (j:Int),Y4 J,Y9,m,p]) (FT K H' (mW ((w.2.zip a).take i)) x)) ⟨_,_,_,rfl,Yx,.inr (Y1 T.o_ONE)⟩ (λi σ H' ⟨x,m,p,_,I,_⟩=>⟨I _ _ S,I _ _ R⟩) ?_ ?_
 ·rintro i y z μ σ H1 H2 ω d ⟨x,m,p,rfl,u,r⟩ hq3 υ C;obtain⟨g,U,β⟩:=cR M ω;obtain⟨n,W,φ⟩:=cR L d;cases(show z=V.int (n:Int)from φ);have l:=aF U;have nn:=YC W;refine⟨μ,_,rfl,fS.of υ,rfl,_,_,rfl,_,_,rfl,rfl,Y2g⟩;intro ο;refine Y54 (uM.i (B:=10) (iN.of (β.same (u.trans C))) (ok.up _ l) (ok.dn _ l) Dd Oo Oo ?_);intro q4 H4 γ ε G;obtain⟨τ,χ⟩:=XM ((w.2.zip a).take i) (N i) (κ i);have zs:=XH w.2 a i;have ξ:=wE (ok.up _ l) n;have c2:=wE (ok.dn _ l) n;refine dW.i (iN.same (C.trans G) r.v) (iN.new (f:=AD g n) ε) (oV _ (N i)) (nF (Ybv l) n) (SH τ χ Oo) (SH ξ c2 Oo) ?_;intro q5 H5 α ψ ζ;refine⟨_,_,_,rfl,((u.trans C).trans G).trans ζ,?_⟩;rw[eU (LC U W),rY];exact .inl (dR ψ)
 ·rintro σ H1 ⟨x,m,p,rfl,u,r⟩;refine Y1 (q _ H1 u ?_);have e:(w.2.zip a).take (min X.length O.length)=w.2.zip a:=List.take_of_length_le (by rw[List.length_zip];exact Oo)
  rwa [e]at r
end
inductive lE:Yi
 | i {H:Hp} {Q:VK} {E:XK} {v:V} {fs:Ah} {ws:Y0d} (h:Y5A v) (q:Y45 (fs.length:Nat)):lE [v] H Q E
section
def aGo(F:Yb "faces_of" "faces_of" aCt)(T:Yd):cX P w K mg base cN 1 f fd a28 lE:=by
 refine F.oky aHt λC H Q E h=>?_;obtain @⟨H,Q,E,v,fs,r,h,q⟩:=h;refine Yh;intro g A d s y _;obtain⟨a,p,u,B,x,rfl,j,l,m,i,e⟩:=zH h;refine Y1e (cT fH (by rfl) T.b_len Kk (Y1r Y0G)) (Y0i j);refine Y6w l;rw[cQ i];exact q
end
def sR(H:Hp)(a:Addr)(cs:Ab):Prop:=∃vs,H a=Y05 vs/\Y74 gB vs
theorem lQ:∀cs:Ab,fM (Y9J)=true
 | []=>rfl
 | c::cs=>by show(cV (gB c)&&fM (cs.map gB))=true;rw[lQ cs,gT];rfl
def sR.len{H:Hp}{a:Addr}{cs:Ab}(h:sR H a cs):∃vs,H a=Y05 vs/\Y74 gB vs/\Y4a cs.length:=by
 obtain⟨vs,d,c⟩:=h;exact⟨vs,d,c,cQ c⟩
theorem aJ.app{H:Hp}:∀{ds es:Ya}{xs ys:Al},Y8f xs->Y15 es ys->Y15 (ds++es) (xs++ys)
 | [],es,xs,ys,h1,h2=>by
  have:xs=[]:=h1;subst this;exact h2
 | d::ds,es,xs,ys,h1,h2=>by
  unfold aJ at h1;obtain⟨x,a,rfl,e,c⟩:=(show ∃x a,xs=x::a/\bL H d x/\aJ H ds a from h1);exact aJ.cons e (aJ.app c h2)
def pE{α:Type}(g:Nat->Yn)(i:Nat):(List.range (i+1)).flatMap g=(List.range i).flatMap g++g i:=by
 rw[List.range_succ,List.flatMap_append];simp
@[irreducible] def nB(n:Nat):Sp:=λvs H Q _=>∃F m:Nat,vs=[.int (F:Int),.int (m:Int)]/\1<=F/\F<=n/\F<=4/\m<=5/\∀a H',Y0->H a=none->sR H' a (Y4J m)->Y0L a
def SS{n:Nat}{H:Hp}{Q:VK}{E:XK}{F m:Nat}(h1:1<=F)(h2:F<=n)(h4:F<=4)(h3:m<=5)(q:∀a H',Y0->H a=none->sR H' a (Y4J m)->Y0L a):nB n [.int (F:Int),.int (m:Int)] H Q E:=by unfold nB;exact⟨F,m,rfl,h1,h2,h4,h3,q⟩
def GK{n:Nat}{H:Hp}{Q:VK}{E:XK}{F m:Nat}{x y:Int}(ex:x=(F:Int))(ey:y=(m:Int))(h1:1<=F)(h2:F<=n)(h4:F<=4)(h3:m<=5)(q:∀a H',Y0->H a=none->sR H' a (Y4J m)->Y0L a):nB n [.int x,.int y] H Q E:=by
 subst ex ey;exact SS h1 h2 h4 h3 q
inductive xZ:Yi
 | i {H:Hp} {Q:VK} {E:XK} {F m:Nat} (h1:1<=F) (h4:F<=4) (h3:m<=5) (q:∀a H',Y0->H a=none->sR H' a ((List.range (m+1)).flatMap (cta F))->Y0L a):xZ [.int (F:Int),.int (m:Int)] H Q E
def pG:∀F,F<=4->∀m,m<=5->(Y4J m).length<=56:=Kk
def JQ:∀F,F<=3->∀m,m<=5->∀i,i<=6->((List.range i).flatMap λk=>(cta F (m-k)).map λc=>k::c).length<=400:=Kk
def wR:∀F,F<=4->∀i,i<=6->((List.range i).flatMap (cta F)).length<=400:=Kk
def VU{F m:Nat}{c:Ae}(h:c∈Y4J m):Y4E:=(iC h).1
section
def aFC(F:Yb "counts_that_are" "counts_that_are" YM)(T:Yd):cX P w K mg base cN 1 f fd a32 (nB 0):=by
 refine F.okw aAy (λe H Q E h=>?_) (λg A a s H e Q E j h=>?_)
 ·unfold nB at h;obtain⟨F,m,_,d,i,_⟩:=h;exact Oo
 ·unfold nB at h;obtain⟨F,m,_,d,i,_⟩:=h;exact Oo
def aGp(n:Nat)(F:Yb "counts_that_are" "counts_that_are" YM)(T:Yd)(FQ39:Y0K (1+n) "counts_that_are" a32 (nB n)) :
  cX P w K mg base cN (1+n+1) f fd a32 (nB (n+1)):=by
 refine F.oky aAy λζ H Q E h=>?_;unfold nB at h;obtain⟨F,m,rfl,α,X,h4,φ,q⟩:=h;refine Yh;intro ν A C s hr _;refine⟨_,(aI (Y8j (Y2y sX 0 aE) (fV (Y1r (cD (Y2r 1)))))
  (aI (Y2t aAy.nd (fV aH))
  (aI (eA PassesOwn.never rfl (Y5w (Y6E 1)) (cS (i:=3) aAy.nd rfl (Or.inr rfl)) (aS (gI (Yf6 JV (aC 2) (Y81 ["rest","first"] [3] (fX (mJ FQ39 (hr.mono Oo) (Y2s (bV wG (aC 0) aE) (Y56 wG 1 3)))) (Y1U (iW K) (cD (Y2r 1)) 0))))))
  (Y3h 2)))),?_⟩
 refine Yo;intro β n_;refine Y5b _ rfl _ Y7c
 ·have W:F=1:=by injection e with e;exact Oo
  refine Y2g;intro β;subst W;refine Y3;refine kM (by show 1<=64;decide) λp0 H0 hp0 ω s0=>AN (by show 1<=64;decide) λι H1 O B p=>q ι H1 (s0.trans p) (s0.free O) (Y0w _ B);exact Y4R (bL.tup (p _ _ ω) (Y4R Yas))
 ·have W:F≠1:=λz=>e (by rw[z];rfl);obtain⟨G,rfl⟩:∃G,F=G+2:=Y2h (F-2);refine AN (by show 0<=64;decide) λL H1 γ B p=>⟨_,rfl,_,_,rfl,rfl,_,rfl,Oo,Oo,?_⟩;rw[show((m:Int)+1).toNat=m+1 by exact Oo];refine Y9s (Ex1 λu=>Y9U (σ=[Ym ((G+2:Nat):Int),Ym (m:Int),Y4 L,u]) (sR H' L ((List.range i).flatMap λk=>(cta (G+1) (m-k)).map λc=>k::c))) (Y9b _ p [] B aJ.nil) ?_ ?_
  ·rintro i σ H2 hi ⟨u,rfl,I,ζ,l,S⟩;refine Y22;intro β;have lv:=cQ S;have ψ:=JQ (G+1) Oo m φ i Oo;refine Y0X _ (OM l) ⟨_,rfl,_,_,rfl,rfl,Y5l _ _ _ _ rfl rfl ?_⟩;refine GK (F:=G+1) (m:=m-i) Oo Oo Oo Oo Oo Oo λb H3 U hb υ=>?_;obtain⟨ws,ε,ο,ρ⟩:=υ.len;have η:=pG (G+1) Oo (m-i) Oo;refine Y0X b (Y7Z ε) (pH (λj y H'=>∃c,(cta (G+1) (m-i))[j]?=Y0c/\Y4x (gB (i::c)) y) (λj y H1 H2 s ⟨c,α,X⟩=>⟨c,α,X.flat s (gT _)⟩) Oo ε (λj x H' Q' θ τ k'=>?_) (λD ys H4 Z N μ hy J=>?_))
   ·obtain⟨c,g,r⟩:=cR ο θ;obtain⟨ac,xc,rfl,M,d⟩:=dF (r.same τ);have lc:=cQ d;have lc2:=VU (aF g);refine Y3;refine kM (by show 1<=64;decide) λp4 H5 hp4 ξ a=>Y3;refine vJ ξ (a _ _ M) (by simp only[bM,List.length_nil];exact Oo) λp5 H6 δ κ=>k' _ H6 (a.trans δ) ⟨c,g,Ybc κ⟩;rw[show(0:Int)+(i:Int)=(i:Int)by exact Oo];exact aJ.cons (Yas) (d.same (a.trans δ))
   ·have S4:=U.trans μ;have nLD:D≠L:=λz=>by subst z;rw[U _ _ l]at Z;cases Z
    refine aDM (S4 _ _ l) N Oo λH5 e5 a=>?_;have R:=a.t (S4 _ _ l);refine Y9b _ (aV.thru γ (I.trans S4) a) (ζ++ys) e5 ?_;rw[pE,bN];refine aJ.app (Yco R _ (S.same S4)) (Yco R _ ?_);refine aJ.ofIdx (by rw[hy,aA,aA];exact Oo) λj y hj=>?_;obtain⟨c,g,r⟩:=J j y hj;exact Y1o (by rw[aX,aX,g];rfl) r
  ·rintro σ H2 ⟨u,rfl,I,χ⟩;exact Y1 (q L H2 I γ χ)
def aGF(F:Yb "all_counts" "all_counts" aCJ)(T:Yd)(FQ39:Y0K 5 "counts_that_are" a32 (nB 4)) :
  cX P w K mg base cN 6 f fd ["faces","most"] xZ:=by
 refine F.oky aDY λx H Q E h=>?_;obtain @⟨H,Q,E,F,m,O,a,ε,q⟩:=h;refine Yh;intro J A l s β _;refine⟨_,(aI (Y2t aDY.nd (fV aH))
  (aI (Y2z (Y5w (Y6E 1)) 3 aDY.nd (gI (Yf6 JV (aC 2) (Y1r (Y1a FQ39 0 3)))))
  (Y3h 2))),?_⟩
 refine Yo;intro S δ;refine AN (by show 0<=64;decide) λL H1 y M W=>⟨_,rfl,_,_,rfl,rfl,_,rfl,Oo,Oo,?_⟩;rw[show((m:Int)+1).toNat=m+1 by exact Oo];refine Y9s (Ex1 λg=>Y9U (σ=[Ym (F:Int),Ym (m:Int),Y4 L,g]) (sR H' L ((List.range i).flatMap (cta F)))) (Y9b _ W [] M aJ.nil) ?_ ?_
 ·rintro i σ H2 Z ⟨g,rfl,e,x,j,p⟩;refine Y22;intro S;have α:=cQ p;have U:=wR F a i Oo;refine Y0X _ (OM j) Y0F;refine GK (F:=F) (m:=i) rfl Oo O a a Oo λb H3 d γ X=>?_;obtain⟨C,D,N,R⟩:=X.len;have G:=pG F a i Oo;refine aDM (d _ _ j) D Oo λH5 I u=>?_;have r:=u.t (d _ _ j);refine Y9b _ (aV.thru y (e.trans d) u) (x++C) I ?_;rw[pE,bN];exact aJ.app (Yco r _ (p.same d)) (Yco r _ N)
 ·rintro σ H2 ⟨g,rfl,e,B⟩;exact Y1 (q L H2 e y B)
end
abbrev NT(n:Nat):V:=.int (n:Int)
theorem HW{H:Hp}:∀cs:Ae,Y74 (λ(n:Nat)=>PyData.int (n:Int)) (cs.map NT)
 | []=>aJ.nil
 | n::cs=>aJ.cons (bL.int _) (HW cs)
theorem DL{H:Hp}:∀{cs:Ae}{xs:Al},Y74 (λ(n:Nat)=>PyData.int (n:Int)) xs->xs=cs.map NT
 | [],xs,h=>h
 | n::cs,xs,h=>by
  unfold aJ at h;obtain⟨x,xs',rfl,hx,hr⟩:=(show ∃x xs',xs=x::xs'/\bL H (PyData.int (n:Int)) x/\aJ H (cs.map λ(n:Nat)=>PyData.int (n:Int)) xs' from h);rw[DL hr];cases(show x=V.int (n:Int)from hx)
  rfl
def gX{H:Hp}{cs:Ae}{v:V}(h:Y6n cs v):∃a,v=Y7/\H a=Yl (cs.map NT):=by
 obtain⟨a,e,rfl,c,d⟩:=dF h;rw[DL d]at c;exact Y0Q a c
def wN{H:Hp}{cs:Ae}{a:Addr}(h:H a=Yl (cs.map NT)):Y6n cs Y7:=bL.tup h (HW cs)
def II{cs:Ae}{i:Nat}(h:i<cs.length):cC cs i=cs.take i++[YcV 0+1]++cs.drop (i+1):=by
 unfold cC;rw[List.set_eq_take_append_cons_drop,Y8u,List.append_assoc]
 rfl
def qB{K:Aa}{H:Hp}{a:Addr}{xs:Al}{k:Nat}{z:Int}{Q:VK}(hz:z=(k:Int))(h:H a=Y0O)(q:∀c H',Y0->H' c=Yl (xs.drop k)->Y0L c):JO K (Y7) (some z) none H Q:=by
 subst hz;exact SX h q
inductive gO:Yi
 | i {H:Hp} {Q:VK} {E:XK} {x:V} {cs:Ae} {i:Nat} (h1:Y6n cs x) (h2:i<cs.length) (h3:cs.length<=64) (k:∀v H',Y0->Y4x (gB (cC cs i)) v->Y0Z):gO [x,.int (i:Int)] H Q E
inductive gM:Yi
 | i {H:Hp} {Q:VK} {E:XK} {x:V} {cs:Ae} (h1:Y6n cs x) (h3:cs.length<=64) (k:Y2Q (H D=none) (Y0k=Y08->Y2l (((List.range cs.length).map (cC cs)).map gB) ys->Y0->Y1g)):gM [x] H Q E
section
def aF8(F:Yb "one_more" "one_more" aCe)(T:Yd):cX P w K mg base cN 1 f fd a35 gO:=by
 refine F.oky aHe λW H Q E h=>?_;obtain @⟨H,Q,E,x,d,i,y,p,R,k⟩:=h;refine Yh;intro I A m s O _;obtain⟨a,rfl,l⟩:=gX y;refine Y1e (Y4p K (Y4p K (fN (jH K) Yw iB (iA (Y0f))) (Y52 (bV eE (Y4M 0 Y0f) aE))) (fN (jH K) Yw (iA (Y6E 1)) iB)) Y1H;refine zU l λX H2 e L=>Y0F;have g:xM (d.map NT) (i:Int)=some (NT (Y8z i)):=dL (by rw[aX,bI,aD p];rfl);refine gU (e _ _ l) g (Y59 _ ?_);refine kM (by show 1<=64;decide) λS H3 B C j=>vJ (j _ _ L) C (by rw[bU,aA];show Yez i+1<=1000;exact Oo) λZ H4 r J=>Y5l _ _ _ _ rfl rfl ?_;refine Y3;refine qB (k:=i+1) Oo (r _ _ (j _ _ (e _ _ l))) λU H5 u D=>vJ (u _ _ J) D (by rw[aW,bU,List.length_drop,aA];show Yez i+1+(d.length-(i+1))<=1000;exact Oo) λN H6 M G=>k _ H6 ((((e.trans j).trans r).trans u).trans M) (wN ?_);rw[G,II p,bN,bN,List.map_take,List.map_drop]
 rfl
def aF7(F:Yb "ones_more" "ones_more" aCd)(T:Yd)(FQ56:Yv "one_more" a35 gO):cX P w K mg base cN 2 f fd ["counts"] gM:=by
 refine F.oky aHd λU H Q E h=>?_;obtain @⟨H,Q,E,x,e,r,J,k⟩:=h;refine Yh;intro M A p s S _;obtain⟨a,rfl,O⟩:=gX r;refine Y1e (Y7V ["face","counts"] [0] (Ybj (by rfl) 0) (Y1a FQ56 1 0)) ?_;refine Yai O;rw[aA];refine Y3N _ Oo Oo (Y9x (i<e.length/\Y4x (gB (cC e i)) y) (λi y H1 H2 s ⟨m,g⟩=>⟨m,g.flat s (gT _)⟩) Oo (λi H' Q' u R G=>?_) (λD B H4 I l L j d=>?_))
 ·rw[Int.zero_add];refine Y0F;exact gO.i (r.same R) Oo J λv H5 N C=>G _ H5 N ⟨Oo,C⟩
 ·refine k D B H4 I l ?_ L;refine aJ.ofIdx (by rw[j,aA,aA,bG];exact Oo) λi y u=>?_;obtain⟨m,g⟩:=d i y u;exact⟨gB (cC e i),by rw[aX,aX,eS m];rfl,g⟩
end
abbrev aB6:Stmt:=(top 65)
def IG:Yc ["trial","aim","prices","counts","worth_of","weights","dues","all_dues","sums","looks","met","worths_behind"] a22 aB6:={}
abbrev nQ(ws:Y0d):Aj:=ws.map λx=>x.2
def ci(c:Ae):Af:=c.map λ(n:Nat)=>(n:Int)
def iG(c:Ae):(ci c).map V.int=c.map NT:=by unfold ci;rw[List.map_map];rfl
def FK(c:Ae):(ci c).sum=(c.sum:Nat):=by
 induction c with
 | nil=>rfl
 | cons a c ih =>
  have e:ci (a::c)=(a:Int)::ci c:=rfl;rw[e,List.sum_cons,List.sum_cons,ih];exact Oo
theorem uB:∀{a b:Ae},ci a=ci b->a=b
 | [],[],_=>rfl
 | [],b::bs,h=>by cases h
 | a::as,[],h=>by cases h
 | a::as,b::bs,h=>by
  have h:(a:Int)::ci as=(b:Int)::ci bs:=h;injection h with h1 h2;rw[uB h2,show a=b by exact Oo]
structure DW(H:Hp)(kvs:Y04)(S:Ab)(val:Ae->Fr):Prop where
 yes:∀c∈S,∃v,Y6a c=Yq/\Y3v (val c) v
 len:YaW S.length
def bB.tT{H H':Hp}{p:Addr}(s:Y0s){kvs:Y04}(hp:H p=Y25):Y4G:=λb a h=>s.at (CK h hp (by intro z;cases z)) h
def smQ(W F:Nat)(q:Nat->Y1G)(mix ps cs:Y1b):Nat->Ae->Y4g
 | 0,c=>sN W λv=>ps v*q v c
 | n+1,c=>sN W (λv=>ps v*q v c)++[cs c.sum*fG W (λv=>mix v*q v c)+fG F (λj=>IW W F q mix ps cs n (cC c j))]
def SW(W F M:Nat)(q:Nat->Y1G)(mix ps cs:Y1b)(val:Y1G)(c:Ae):Y4g:=sN W (λv=>ps v*q v c)++if Y43 then[cs c.sum*Y8X W (mix v*q v c)+fG F (λj=>Y7k c j)] else[]
def RG{W F:Nat}{q:Nat->Y1G}{mix ps cs:Y1b}(n:Nat)(c:Ae):IW W F q mix ps cs n c=wI (smQ W F q mix ps cs n c):=by cases n <;> rfl
abbrev oU(M Ns Nm Np Nc:Nat):Nat:=Np*Nc*Nm*Ns^M
section
variable{F W M:Nat}{ss:Aj}{mix ps cs:Ak}{Ns Nm Np Nc B:Nat}
def fZ(I:kC F W M ss mix ps cs Ns Nm Np Nc B){C:Nat}{f:Fr}(h:Y1d Ns Nm Np Nc C f)(hC:C<=2^690):Y4C:=oS h I.pos I.sz (Ya0 hC)
def pM(I:kC F W M ss mix ps cs Ns Nm Np Nc B){C:Nat}{fs:Ak}(h:∀f∈fs,Y1d Ns Nm Np Nc C f)(hl:Y9D 64)(hC:C<=2^690):DJ fs:=pQ h I.pos I.sz hl hC
def BJ:1000000000000<=2^690:=Ya0 (show 1000000000000<=2^40 by decide)
def tG:4*WB<=2^690:=aHG
def yP(I:kC F W M ss mix ps cs Ns Nm Np Nc B){n:Nat}(hn:n<=5):8^(n+1)*B<=WB :=
 aM (bS _ (Y2w Oo)) (aM (Nat.le_of_eq (show 8^7*B=2097152*B from rfl)) I.b)
def hV(ss:Aj)(ps:Ak)(c:Ae)(i:Nat):Fr:=kH (ps.getD i (0,1)) (mW ((ss.getD i []).zip c))
def qT(I:kC F W M ss mix ps cs Ns Nm Np Nc B){i:Nat}(hi:i<W)(c:Ae):dM (mW ((ss.getD i []).zip c)) :=
 oV _ λz d=>((I.sh _ (iF (by rw[I.sl];exact hi))).2 z.1 (List.of_mem_zip (a:=z.1) (b:=z.2) d).1).low
def yN(I:kC F W M ss mix ps cs Ns Nm Np Nc B){i:Nat}(hi:i<W){c:Ae}(hc:Y5c M):Y1d Ns Nm Np Nc 1 (mW ((ss.getD i []).zip c)) :=
 Qn.f (qT I hi c) ((I.qn hi hc).dvd ⟨Np*Nc*Nm,by unfold oU;ac_rfl⟩)
def FR(I:kC F W M ss mix ps cs Ns Nm Np Nc B){i:Nat}(hi:i<W):Y1d Ns Nm Np Nc B (ps.getD i (0,1)) :=
 (I.pr _ (iF (by rw[I.pl];exact hi))).dvd ⟨Nc*Nm*Ns^M,by unfold oU;ac_rfl⟩
def FS(I:kC F W M ss mix ps cs Ns Nm Np Nc B){i:Nat}(hi:i<W):Y1d Ns Nm Np Nc 1 (mix.getD i (0,1)) :=
 (I.mx _ (iF (by rw[I.ml];exact hi))).dvd ⟨Np*Nc*Ns^M,by unfold oU;ac_rfl⟩
def OB(I:kC F W M ss mix ps cs Ns Nm Np Nc B){i:Nat}(hi:i<M):Y1d Ns Nm Np Nc B (YcV (0,1)) :=
 (I.co _ (iF (by rw[I.cl];exact hi))).dvd ⟨Np*Nm*Ns^M,by unfold oU;ac_rfl⟩
def mC(I:kC F W M ss mix ps cs Ns Nm Np Nc B){i:Nat}(hi:i<W)(c:Ae):dM (hV ss ps c i)/\rv (hV ss ps c i)=fO ps i*qW ss i c:=by
 have a:=(FR I hi).low;have d:=qT I hi c;exact⟨iS a d,jM a.pos d.pos⟩
def yO(I:kC F W M ss mix ps cs Ns Nm Np Nc B){i:Nat}(hi:i<W){c:Ae}(hc:Y5c M):Y1d Ns Nm Np Nc B (hV ss ps c i) :=
 Qn.f (mC I hi c).1 (by rw[(mC I hi c).2];exact I.due hi hc)
def pN(I:kC F W M ss mix ps cs Ns Nm Np Nc B){i:Nat}(hi:i<W)(c:Ae):dM (hV ss mix c i)/\rv (hV ss mix c i)=fO mix i*qW ss i c:=by
 have a:=(FS I hi).low;have d:=qT I hi c;exact⟨iS a d,jM a.pos d.pos⟩
def IK(I:kC F W M ss mix ps cs Ns Nm Np Nc B){i:Nat}(hi:i<W){c:Ae}(hc:Y5c M):Y1d Ns Nm Np Nc 1 (hV ss mix c i) :=
 Qn.f (pN I hi c).1 (by rw[(pN I hi c).2];exact(I.met hi hc).dvd ⟨Np*Nc,by unfold oU;ac_rfl⟩)
end
def yB{n:Nat}{g:Nat->Fr}(h:∀i,i<n->dM (g i)):dM (jP ((List.range n).map g))/\rv (jP ((List.range n).map g))=Y8O n (rv (g i)):=by
 have a:∀f∈(List.range n).map g,Y0A:=λf d=>by
  obtain⟨i,c,rfl⟩:=aU.mp d;exact h i (bX.mp c)
 refine Y02 (uF _ a);rw[wA _ a,List.map_map];rfl
abbrev woD(rs:Ab)(val:Ae->Fr):PyData:=.tuple (rs.map λc=>Y0a (gB c) (Ya1 c))
abbrev FW(F W M:Nat)(ss:Aj)(mix ps cs:Ak)(c:Ae):Fr:=jS (wor F W M ss mix ps cs c)
structure QX(N:Nat)(qs:Y4g)(gs:Ak):Prop where
 v:gs.map rv=qs
 n:∀g∈gs,Fn N WB g
 l0:0<gs.length
 l1:gs.length<=5
structure RA(K:Aa)(H:Hp)(fs:Ak)(xs:Al):Prop where
 len:Y2v fs.length
 at_:∀(i:Nat) (x:V),Y0t=Y9->∃f,fs[i]?=Y7B/\FT K H f x
theorem RA.t{K:Aa}{H H':Hp}{fs:Ak}{xs:Al}(s:Y4G)(h:RA K H fs xs):RA K H' fs xs:=⟨h.len,λi x e=>by
 obtain⟨f,a,c⟩:=h.at_ i x e;exact⟨f,a,c.t s⟩⟩
def SaW(K:Aa)(H:Hp)(fs:Ak)(z:V):Prop:=∃sa sx,z=.ref sa/\H sa=Yl sx/\RA K H fs sx
theorem SaW.t{K:Aa}{H H':Hp}{fs:Ak}{z:V}(s:Y4G)(h:SaW K H fs z):SaW K H' fs z:=by
 obtain⟨e,d,a,g,c⟩:=h;exact⟨e,d,a,s _ _ g,c.t s⟩
def RA.get{K:Aa}{H:Hp}{fs:Ak}{xs:Al}(h:RA K H fs xs){i:Nat}{f:Fr}(e:fs[i]?=Y7B):∃x,Y0t=Y9/\FT K H f x:=by
 have c:=(aT.mp e).1;have d:Y0t=some (xs[i]'(by rw[h.len];exact c)):=aD (by rw[h.len];exact c);obtain⟨g,a,j⟩:=h.at_ i _ d;rw[e]at a;cases a;exact Y1o d j
def SaW.of{K:Aa}{H:Hp}{fs:Ak}{v:V}(h:Y23 fs v):SaW K H fs v:=by
 obtain⟨a,j,rfl,d,r⟩:=jB h;refine Y4y a j d (cQ r) (λi x e=>?_);obtain⟨f,c,g⟩:=cR r e;exact⟨f,c,.inl g⟩
def vO(K:Aa)(H:Hp)(M:Nat)(bs mix cs:Ak)(v:V):Prop:=∃a x1 x2 x3,v=Y7/\H a=Yl [.int (M:Int),x1,x2,x3]/\Y23 bs x1/\Y23 mix x2/\SaW K H cs x3
theorem vO.t{K:Aa}{H H':Hp}{M:Nat}{bs mix cs:Ak}{v:V}(h:vO K H M bs mix cs v)(s:Y4G):vO K H' M bs mix cs v:=by
 obtain⟨a,m,e,g,c,i,d,j,l⟩:=h;exact⟨a,m,e,g,c,s _ _ i,d.flat s (fW _),j.flat s (fW _),l.t s⟩
def vO.same{K:Aa}{H H':Hp}{M:Nat}{bs mix cs:Ak}{v:V}(h:vO K H M bs mix cs v)(s:Y0):vO K H' M bs mix cs v:=h.t s.t
inductive xU (K:Aa):Yi
 | i {H:Hp} {Q:VK} {E:XK} {tv av pv cv:V} {p:Addr} {fs:Ah} {ws:Y0d} {bs mix ps cs:Ak} {c:Ae} {kvs:Y04} {val:Ae->Fr} {F W M Ns Nm Np Nc B:Nat} (h1:Y5A tv) (h2:vO K H M bs mix cs av) (h3:Y23 ps pv) (h4:Y6n c cv) (h5:H p=Y25) (I:kC F W M (Y1x) mix ps cs Ns Nm Np Nc B) (b:∀x∈ws,BOk 10 x.2) (cl:Y4E) (cm:Y5c M) (nv:Y43->∀j,j<F->Y1d Ns Nm Np Nc (Y2H*B) (Y7k c j)) (kn:Y43->∀j,j<F->∃v,Y6a (cC c j)=Yq/\Y3v (Y7k c j) v) (k:∀D xs gs H',Y0->H D=none->Y0k=Y0y->YeD eZ xs->QX (oU M Ns Nm Np Nc) (SW W F M (qW (Y1x)) (Y8Y) (fO ps) (fO cs) (YcS d) c) gs->Y1g):xU K [tv,av,pv,cv,Y0x] H Q E
def aJ.ofRange{H:Hp}{n:Nat}{g:Nat->Fr}{ys:Al}(hl:Y3I n)(h:∀(i:Nat) (y:V),Y1i=Y00->i<n/\Y3v (g i) y):Y15 (((List.range n).map g).map eZ) ys:=by
 refine aJ.ofIdx (by rw[aA,aA,bG,hl]) λi y c=>?_;obtain⟨a,d⟩:=h i y c;exact Y1o (by rw[aX,aX,eS a];rfl) d
def rV{H:Hp}{M:Nat}{bs mix cs:Ak}{v:V}(h:Y0r (sQ M bs mix cs) v):∃a x1 x2 x3,v=Y7/\H a=Yl [.int (M:Int),x1,x2,x3]/\Y23 bs x1/\Y23 mix x2/\Y23 cs x3:=by
 obtain⟨a,m,rfl,e,c⟩:=dF h;unfold aJ aJ aJ aJ aJ at c;obtain⟨i,_,rfl,j,x1,_,rfl,l,x2,_,rfl,g,x3,_,rfl,d,rfl⟩:=c;cases(show i=V.int (M:Int)from j);exact⟨a,x1,x2,x3,rfl,e,l,g,d⟩
def mP{α:Type}{l:Yn}{i:Nat}{a d:α}(h:l[i]?=some a):l.getD i d=a:=by rw[bI,h];rfl
section
def aF0(F:Yb "sums_at" "sums_at" aB6)(T:Yd)
  (FQ69:Y1I "weight" a31 (mR K)) (FQ68:Yv "ways_of" a28 gG) (FQ65:Y7l "times" K) (FQ66:Y1I "total" ["some"] (iY K))
  (FQ52:Y1I "less" a00 (lX K)) (FQ57:Y1w "ones_more" ["counts"] gM) (FQ59:Y1w "plus" a00 (kK K)):cX P w K mg base cN 4 f fd a22 (xU K):=by
 refine Y1k IG;obtain @⟨H,Q,E,tv,av,pv,cv,p,fs,ws,bs,m,r,γ,c,kvs,val,F,W,M,ρ,ξ,φ,ο,B,rt,ra,rp,rc,hp,I,hb,hcl,G,nv,kn,k⟩:=h;refine Yh;intro cdv A outer s hr _;generalize hss:nQ ws=l at I kn k;have lws:YcR W:=by have:=I.sl;rw[<-hss,aA]at this;exact this
 have hbB:=I.b;have hW1:=aAN;have w4:=I.w4;have w1:=I.w1;have S:B<=2^690:=aM Oo tG;obtain⟨ap,vp,rfl,hap,rvp⟩:=jB rp;obtain⟨ac,rfl,hac⟩:=gX rc;obtain⟨aa,xb,xm,xc,rfl,ε,rxb,rxm,rxc⟩:=ra;obtain⟨am,vm,rfl,ω,rvm⟩:=jB rxm;obtain⟨ak,vk,rfl,hak,rvk⟩:=rxc;have lvp:vp.length=W:=by rw[cQ rvp,I.pl]
 have lvm:vm.length=W:=by rw[cQ rvm,I.ml]
 refine⟨_,(aI (pS (i:=5) (dO.o ["way","trial","counts"] [0,3]) IG.nd rfl rfl (Y5w (Y3q FQ68)) (Y6I) (λ_ _ _ _=>(mK FQ69 Y0f Yw (aC 2))))
  (aI (DN (i:=6) (dQ.o ["price","one"] ["price","one"] []) IG.nd rfl rfl (yU true false rfl T.b_zip (Y5Y 2 (aC 5))) (Y6I) (YdR FQ65 0 1))
  (aI (Y6C 7 IG.nd (Y2N FQ66 6))
  (aI (pS (i:=8) (dO.o ["due","all_dues"] [7]) IG.nd rfl rfl (fX (aC 6)) (Y6I) (YdR FQ52 1 0))
  (aI (cA (i:=9) IG.nd (cT (yK K rfl) (by rfl) T.b_sum Kk (Y2r 3)))
  (aI (yS (eX (Y2y AK 9 Y16) (aI (cA (i:=10) IG.nd (eB FQ66 (vS (dQ.o ["share","one"] ["share","one"] []) (yU true false rfl T.b_zip (Y2s Y16 (aC 5))) (Y6I) (YdR FQ65 0 1))))
  (aI (cA (i:=11) IG.nd (eB FQ66 (Y7V ["more","worth_of"] [4] (fX (Y2N FQ57 3)) (jV hr.u1 Y0f Yw))))
  (aS (Y7p oO 8 (cB FQ59 (cB FQ65 (Y33 Y16 (aC 9)) (aC 10)) (aC 11)))))) cY))
  (Y3h 8))))))),?_⟩
 refine Yo;intro υ τ;refine Y1 (gG.i rt ?_);rw[lws];refine Y3N _ Oo Oo (Y9x (i<W/\FT K H' (mW ((l.getD i []).zip c)) y) (λi y H1 H2 s ⟨L,U⟩=>⟨L,U.t s⟩) Oo (λi H' Q' a u Z=>?_) (λD5 zs H5 hD5 e5 s5 hz5 χ=>?_))
 ·rw[Int.zero_add];have a:i<W:=Oo;obtain⟨x,J⟩:∃x,ws[i]?=Y9:=Y3U;refine Y1H;refine mR.i (rt.same u) J (rc.same u) (hb x (aF J)) (by have:=I.m5;exact Oo) λy H6 s6 r6=>Z _ H6 s6 (Y02 a);have e:l.getD i []=x.2:=mP (by rw[<-hss,aX,J];rfl);rw[e];exact r6
 have lz:zs.length=W:=Oo;refine Ys;intro υ τ;refine⟨_,rfl,_,rfl,ap,D5,vp,zs,rfl,s5 _ _ hap,e5,wL (xs:=vp) (ys:=zs) (λi y H'=>i<W/\Y2f (hV l r c i) y) (λi y H1 H2 s ⟨L,U⟩=>⟨L,YeO s⟩) Oo (s5 _ _ hap) e5 Oo (λi x y H' Q' J hy u Z=>?_) (λD6 us H6 hD6 e6 s6 hu6 hr6=>?_)⟩
 ·obtain⟨f1,θ,ν⟩:=rvp.atI J;obtain⟨a,fy⟩:=χ i y hy;have e1:r.getD i (0,1)=f1:=mP θ;refine Y0F;have ι:=FR I a;rw[e1]at ι;refine Y9L (ν.same (s5.trans u)) ((fy.same u).v) ι.low (qT I a c) (fZ I ι S) (fZ I (yN I a G) (aM Dd BJ)) ?_;intro q7 H7 hq7 e7 N;refine Z _ H7 N ⟨a,dR ?_⟩;rw[e7];unfold hV;rw[e1]
 have r6:aJ H6 (((List.range W).map (hV l r c)).map eZ) us:=YaK hr6;refine Ys;intro υ τ;have S6:=s5.trans s6;obtain⟨tl,tvq⟩:=YdG W (hV l r c) ((mC I a c).1);have dn:∀g∈(List.range W).map (hV l r c),Y1d ρ ξ φ ο B g:=λg D=>by
  obtain⟨i,a,rfl⟩:=aU.mp D;exact yO I (Y8G) G
 refine Y3;refine Y9V e6 r6 (pM I dn (by rw[aA,bG];exact Oo) S) (λv7 H7 N r7=>Ys);intro υ τ;have tn:=Fn.tot _ dn;rw[aA,bG]at tn;have wB:W*B<=4*B:=bS _ w4;generalize htot:jP ((List.range W).map (hV l r c))=tot at r7 tl tvq tn;refine Y5P D6 (N _ _ e6) (pH (λi y H'=>i<W/\Y2f (pL tot (wH (hV l r c i))) y) (λi y H1 H2 s ⟨L,U⟩=>⟨L,YeO s⟩) Oo (N _ _ e6) (λi x H' Q' J u Z=>?_) (λD8 ys H8 hD8 e8 s8 hy8 hr8=>?_))
 ·obtain⟨a,rx⟩:=hr6 i x J;refine Y06 (lX.i (iN.of (r7.same u)) (iN.of (rx.same (N.trans u))) tl (mC I a c).1 (fZ I tn (aM Oo tG)) (fZ I (yO I a G) S) ?_);intro q9 H9 hq9 ψ s9;exact Z _ H9 s9 ⟨a,dR ψ⟩
 have r8:aJ H8 (((List.range W).map λi=>pL tot (wH (hV l r c i))).map eZ) ys:=YaK hr8;refine Ys;intro υ τ;have sv:((List.range W).map λi=>pL tot (wH (hV l r c i))).map rv=sN W λv=>fO r v*qW l v c:=by
  unfold sN;rw[List.map_map];refine dD λi a=>?_;have a:=Y8G;obtain⟨d1,d2⟩:=mC I a c;show rv (pL tot (wH (hV l r c i)))=_;rw[wC tl.pos (uZ d1).pos,show wH (hV l r c i)=(-(hV l r c i).1,(hV l r c i).2)from rfl,JK,tvq,d2,<-Rat.sub_eq_add_neg];congr 1;exact fL λj hj=>(mC I hj c).2
 have sn:∀g∈(List.range W).map (λi=>pL tot (wH (hV l r c i))),Y1d ρ ξ φ ο (W*B+B) g:=λg D=>by
  obtain⟨i,a,rfl⟩:=aU.mp D;exact tn.add (yO I (Y8G) G).neg
 have S8:=(S6.trans N).trans s8;have α:H D8=none:=(S6.trans N).free hD8;refine Y1 (YeA (ci c) (by rw[iG];exact fS.of (S8 _ _ hac)));rw[FK];refine Y3l (λσ H'=>∃(o10 o11:An) (xs:Al) (gs:Ak),σ=[some tv,Y4 aa,Y4 ap,Y4 ac,Y2m,Y4 D5,Y4 D6,some v7,Y4 D8,Ym ((c.sum:Nat):Int),o10,o11]/\Y0/\H' D8=Y0y/\YeD eZ xs/\QX (oU M ρ ξ φ ο) (SW W F M (qW l) (fO m) (fO r) (fO γ) (YcS d) c) gs)
 ·rintro σ H9 ⟨o10,o11,xs,gs,rfl,S9,ψ,r9,ok9⟩;exact Y1 (k D8 xs gs H9 S9 α ψ r9 ok9)
 refine Y6s (S8 _ _ ε);refine Y3R _ _ _ (nR (Y8n) (Y8n))
 ·have C:Y43:=Oo;refine Yo;intro υ τ;have S86:aV H5 H8:=(s6.trans N).trans s8;refine Y0i (S8 _ _ ε);refine⟨_,rfl,am,D5,vm,zs,rfl,S8 _ _ ω,S86 _ _ e5,wL (xs:=vm) (ys:=zs) (λi y H'=>i<W/\Y2f (hV l m c i) y) (λi y H1 H2 s ⟨L,U⟩=>⟨L,YeO s⟩) Oo (S8 _ _ ω) (S86 _ _ e5) Oo (λi x y H' Q' J hy u Z=>?_) (λD9 us9 H9 hD9 ψ s9 hu9 hr9=>?_)⟩
  ·obtain⟨f1,θ,ν⟩:=rvm.atI J;obtain⟨a,fy⟩:=χ i y hy;have e1:m.getD i (0,1)=f1:=mP θ;refine Y0F;have ι:=FS I a;rw[e1]at ι;refine Y9L (ν.same (S8.trans u)) ((fy.same (S86.trans u)).v) ι.low (qT I a c) (fZ I ι (aM Dd BJ)) (fZ I (yN I a G) (aM Dd BJ)) ?_;intro q7 H7 hq7 e7 N;refine Z _ H7 N ⟨a,dR ?_⟩;rw[e7];unfold hV;rw[e1]
  have r9:aJ H9 (((List.range W).map (hV l m c)).map eZ) us9:=YaK hr9;have S9:=S8.trans s9;obtain⟨ml,mv⟩:=YdG W (hV l m c) ((pN I a c).1);have mn:∀g∈(List.range W).map (hV l m c),Y1d ρ ξ φ ο 1 g:=λg D=>by
   obtain⟨i,a,rfl⟩:=aU.mp D;exact IK I (Y8G) G
  refine Y9V ψ r9 (pM I mn (by rw[aA,bG];exact Oo) (aM Dd BJ)) (λv10 H10 s10 r10=>Ys);intro υ τ;have κ:=Fn.tot _ mn;rw[aA,bG]at κ;generalize hmet:jP ((List.range W).map (hV l m c))=met at r10 ml mv κ;have S10:=S9.trans s10;refine Y3;refine gM.i (rc.same S10) (by have:=I.f4;exact Oo) λD11 ms H11 hD11 e11 r11 η=>?_;have S11:=S10.trans η;have lms:ms.length=F:=by rw[r11.len,aA,aA,bG,hcl]
  refine Y0X D11 (Y7Z e11) (pH (λi y H'=>i<F/\Y2f (Y7k c i) y) (λi y H1 H2 s ⟨L,U⟩=>⟨L,YeO s⟩) (by have:=I.f4;exact Oo) e11 (λi x H' Q' J u Z=>?_) (λD12 us H12 hD12 e12 μ hy12 hr12=>?_))
  ·obtain⟨d,hd,rd⟩:=cR r11 J;have a:i<F:=by rw[<-lms];exact(aT.mp J).1
   have ed:d=cC c i:=by
    rw[aX,eS Oo]at hd;simpa using hd.symm
   subst ed;obtain⟨ad,rfl,had⟩:=gX (rd.same u);obtain⟨v,hv,rvv⟩:=kn C i a;refine Y06 (dgT ((S11.trans u) _ _ hp) (by rw[iG];exact had) hv ?_);exact Z _ H' (Yx) ⟨a,rvv.same (S11.trans u)⟩
  have r12:aJ H12 (((List.range F).map λi=>val (cC c i)).map eZ) us:=YaK hr12;have S12:=S11.trans μ;have wn:∀g∈(List.range F).map (λi=>val (cC c i)),Y1d ρ ξ φ ο (Y2H*B) g:=λg D=>by
   obtain⟨i,a,rfl⟩:=aU.mp D;have a:=Y8G;exact nv C i a
  have b8:Y2H*B<=WB:=by
   have:=yP I (n:=Y53-1) (by have:=I.m5;exact Oo)
   rwa [show M-c.sum-1+1=M-c.sum by exact Oo]at this
  obtain⟨wl,wv⟩:=YdG F (λi=>Y7k c i) ((nv C i a).low);refine Y9V e12 r12 (pM I wn (by rw[aA,bG];have:=I.f4;exact Oo) (aM Oo tG)) (λv13 H13 ζ r13=>?_);have R:=Fn.tot _ wn;rw[aA,bG]at R;generalize htw:jP ((List.range F).map λi=>val (cC c i))=tw at r13 wl wv R;have S13:=S12.trans ζ;have S8_13:aV H8 H13:=((((s9.trans s10).trans η).trans μ).trans ζ);obtain⟨vkk,hvk,rvkk⟩:=rvk.get (i:=c.sum) (f:=Yca (0,1)) (by rw[bI,aD (by rw[I.cl];exact C)];rfl);have cn:=OB I C;refine Y5b _ (OM (S8_13 _ _ e8)) _ (Y5X (S13 _ _ ε));refine Y1 (Y5W (S13 _ _ hak) hvk);refine Y3;have hp14:=I.paid C;have em:rv met=Y8X W (fO m v*qW l v c):=by rw[mv];exact fL λj hj=>(pN I hj c).2
  have vpd:rv (kH (Yca (0,1)) met)=fO γ c.sum*Y8X W (fO m v*qW l v c):=by rw[jM cn.low.pos ml.pos,em];rfl
  have X:Y1d ρ ξ φ ο (4*B) (kH (Yca (0,1)) met):=Qn.f (iS cn.low ml) (by rw[vpd];exact hp14);refine dW.i (rvkk.t S13.t).v (iN.of (((r10.same η).same μ).same ζ)) cn.low ml (fZ I cn S) (fZ I κ (aM Oo BJ)) ?_;intro q14 H14 hq14 e14 O;refine Y3;have f4:=I.f4;have fB:F*(Y2H*B)<=4*(Y2H*B):=bS _ f4;refine kK.i (iN.new (f:=kH (Yca (0,1)) met) e14) (iN.of (r13.same O)) X.low wl (fZ I X (aM Oo tG)) (fZ I R (aM Oo tG)) ?_;intro q15 H15 hq15 e15 δ;have β:=δ _ _ (O _ _ (S8_13 _ _ e8));refine BS β Oo λH16 e16 b16=>?_;have t16:=b16.t β;have S15:=(S13.trans O).trans δ;refine⟨_,_,_,((List.range W).map λi=>pL tot (wH (hV l r c i)))++[pL (kH (Yca (0,1)) met) tw],rfl,aV.thru α S15 b16,e16,?_,?_,?_,?_,?_⟩
  ·rw[bN];exact Yd0 (r8.flat (((S8_13.trans O).trans δ).t.trans t16) (jR _)) t16 Y2b (dR e15)
  ·unfold SW;rw[bN,sv,if_pos C];congr 1;rw[bC,List.map_nil];congr 1;rw[wC X.low.pos wl.pos,vpd,wv]
  ·intro g D;rcases bQ.mp D with D | D
   ·exact(sn g D).le Oo
   ·rw[aN.mp D];refine(X.add R).le ?_;have b9:=yP I (n:=Y53) (by have:=I.m5;exact Oo);rw[Nat.pow_succ,Nat.mul_comm (8^_) 8,Nat.mul_assoc]at b9;have L:1<=Y2H:=Nat.one_le_pow _ _ Dd;have hB:B<=Y2H*B:=Yf5 L;exact Oo
  ·simp
  ·rw[aW,aA,bG];show W+1<=5;exact Oo
 ·have e0:Y53=0:=Oo;refine⟨_,_,_,_,rfl,S8,e8,r8,?_,λg D=>(sn g D).le Oo,by rw[aA,bG];exact Oo,by rw[aA,bG];exact Oo⟩;unfold SW;rw[sv,Y9G,List.append_nil]
end
abbrev aCT:Stmt:=(top 79)
def aHC:Yc a03 a03 aCT:={}
abbrev aCP:Stmt:=(top 80)
def aHB:Yc a03 a03 aCP:={}
abbrev aCV:Stmt:=(top 78)
def aHD:Yc a12 a12 aCV:={}
abbrev sQ2:Stmt:=(top 81)
def cQ2:Yc a03 a03 sQ2:={}
abbrev aCN:Stmt:=(top 82)
def aAD:Yc ["_law_some_here","_law_found","_law_one"] ["_law_some_here"] aCN:={}
abbrev aCL:Stmt:=(top 88)
def WF:Yc ["_law_trial_here","_law_way","_law_counts_here","_law_found","_law_face","_law_k"] a19 aCL:={}
abbrev sQ5:Stmt:=(top 89)
def cQ5:Yc ["_law_faces","_law_most","_law_found","_law_level","_law_k","_law_more_here","_law_counts_here","_law_face"] a23 sQ5:={}
inductive rF (K:Aa):Yi
 | i {H:Hp} {Q:VK} {E:XK} {x y:V} {f g:Fr} (h1:iN K H f x) (h2:iN K H g y) (l1:Y0A) (l2:dM g) (z1:Y4C) (z2:Y4c g) (q:BT H Q (pL f g)):rF K [x,y] H Q E
inductive kD (K:Aa):Yi
 | i {H:Hp} {Q:VK} {E:XK} {x y:V} {f g:Fr} (h1:iN K H f x) (h2:iN K H g y) (l1:Y0A) (l2:dM g) (z1:Y4C) (z2:Y4c g) (q:BT H Q (kH f g)):kD K [x,y] H Q E
section
def aGP(F:Yb "_law_plus" "_law_plus" aCT)(T:Yd)(FQ8:Yv "_law_frac" a17 fP):cX P w K mg base cN 2 f fd a03 (rF K):=by
 refine YfK aHC ?_;obtain @⟨H,Q,E,x,y,f,g,u,p,B,m,d,a,q⟩:=h;refine Yh;intro r A l s D _;obtain⟨G,rfl,e⟩:=u;obtain⟨C,rfl,j⟩:=p;refine Y1e (cB FQ8 (bV eE (Yby eM) (bV eM (Y16) (Y0G))) (Yby eM)) (Y0C e);refine Y4B;refine Y6F _ _ (sO d.1 a.2) Y4B;refine Y0C e;refine⟨_,_,rfl,rfl,sO a.1 d.2,_,_,rfl,rfl,Y0C e⟩;refine Y4B;refine Y6F _ _ (sO d.2 a.2) (Y8P (Int.mul_pos B.pos m.pos) (lN (DY d.2 a.2)));exact q
def aGL(F:Yb "_law_times" "_law_times" aCP)(T:Yd)(FQ8:Yv "_law_frac" a17 fP):cX P w K mg base cN 2 f fd a03 (kD K):=by
 refine YfK aHB ?_;obtain @⟨H,Q,E,x,y,f,g,u,p,B,m,d,a,q⟩:=h;refine Yh;intro r A e s D _;obtain⟨G,rfl,j⟩:=u;obtain⟨C,rfl,l⟩:=p;refine Y1e (cB FQ8 (Yby eM) (Yby eM)) Y4B;refine Y0C l;refine Y6F _ _ (sO d.1 a.1) Y4B;refine Y0C l;refine Y6F _ _ (sO d.2 a.2) (Y8P (Int.mul_pos B.pos m.pos) (lN (DY d.2 a.2)));exact q
end
inductive mT (K:Aa):Yi
 | i {H:Hp} {Q:VK} {E:XK} {a:Addr} {xs:Al} {fs:Ak} (h:H a=Y0y\/H a=Y0O) (r:sS K H fs xs) (ok:DJ fs) (q:∀v H',Y0->Y3r (jP fs)->Y0Z):mT K Y30 H Q E
section
def aGJ(F:Yb "_law_total" "_law_total" aCN)(T:Yd)
  (FQ13:Y1w "_law_plus" a03 (rF K)):cX P w K mg base cN 3 f fd ["_law_some_here"] (mT K):=by
 refine YdB aAD ?_;obtain @⟨H,Q,E,a,L,fs,m,B,ok,q⟩:=h;refine Yh;intro U A N s X _;have l:=B.len;refine⟨_,(aI (Y9K aAD.nd Y3V)
  (aI (Y2z (aAW (fX (Yw)) (Y2x 0)) 2 aAD.nd (Y9K aAD.nd (Y1a FQ13 1 2)))
  (Y3h 1))),?_⟩
 refine Yo;intro W α;refine kM (by show 2<=64;decide) λZ H0 S O s0=>?_;rcases m with m | m
 ·refine .inl (Y5P a (s0 _ _ m) (YbV L (Ex2 λw j=>Y9U (σ=[Y1y,some w,j]) (Y2f Ybd w)) (Y3y s0 (dR O)) Y7Y ?_ ?_))
  ·obtain⟨w,j,rfl,d,_⟩:=p;exact hU.of (d _ _ m)
  ·rintro i x σ H1 G ⟨w,j,rfl,d,e⟩;refine Y22;intro W;obtain⟨g,r,I⟩:=B.at_ i x G;have u:=aF r;obtain⟨C,D⟩:=ok.part i;refine Y06 (rF.i (iN.of e) (iN.same d I) C (Ybv u) D (ok.sz _ u) ?_);intro R H2 J M y;refine Y3y (d.trans y) ?_;rw[eU r,lA];exact dR M
  ·rintro σ H1 ⟨w,j,rfl,d,e⟩;refine Y3;rw[l,cZ]at e;exact q _ H1 d e
 ·refine .inr (Y3P a (s0 _ _ m) (Y9g L (Ex2 λw j=>Y9U (σ=[Y1y,some w,j]) (Y2f Ybd w)) (Y3y s0 (dR O)) Y7Y ?_ ?_))
  ·obtain⟨w,j,rfl,d,_⟩:=p;exact fS.of (d _ _ m)
  ·rintro i x σ H1 G ⟨w,j,rfl,d,e⟩;obtain⟨g,r,I⟩:=B.at_ i x G;have u:=aF r;obtain⟨C,D⟩:=ok.part i;refine Y06 (rF.i (iN.of e) (iN.same d I) C (Ybv u) D (ok.sz _ u) ?_);intro R H2 J M y;refine Y3y (d.trans y) ?_;rw[eU r,lA];exact dR M
  ·rintro σ H1 ⟨w,j,rfl,d,e⟩;refine Y3;rw[l,cZ]at e;exact q _ H1 d e
end
section
def oQ2(F:Yb "_law_below" "_law_below" sQ2)(T:Yd):cX P w K mg base cN 1 f fd a03 (kL K):=by
 refine F.oky cQ2 λu H Q E h=>?_;obtain @⟨H,Q,E,x,y,f,g,⟨r,rfl,i⟩,⟨m,rfl,j⟩,e,d,q⟩:=h;refine Yh;intro l A a s p _;refine Y1e (jY AK (Yby eM) (bV eM (Y16) (Y0G))) (Y0C i);refine Y4B;refine Y6F _ _ (sO e.1 d.2) Y4B;refine Y0C i;exact⟨_,_,rfl,rfl,sO d.1 e.2,_,_,rfl,rfl,q⟩
end
section
def aGR(F:Yb "_law_more" "_law_more" aCV)(T:Yd):cX P w K mg base cN 1 f fd a12 gO:=by
 refine F.oky aHD λW H Q E h=>?_;obtain @⟨H,Q,E,x,d,i,y,p,R,k⟩:=h;refine Yh;intro I A m s O _;obtain⟨a,rfl,l⟩:=gX y;refine Y1e (Y4p K (Y4p K (fN (jH K) Yw iB (iA (Y0f))) (Y52 (bV eE (Y4M 0 Y0f) aE))) (fN (jH K) Yw (iA (Y6E 1)) iB)) Y1H;refine zU l λX H2 e L=>Y0F;have g:xM (d.map NT) (i:Int)=some (NT (Y8z i)):=dL (by rw[aX,bI,aD p];rfl);refine gU (e _ _ l) g (Y59 _ ?_);refine kM (by show 1<=64;decide) λS H3 B C j=>vJ (j _ _ L) C (by rw[bU,aA];show Yez i+1<=1000;exact Oo) λZ H4 r J=>Y5l _ _ _ _ rfl rfl ?_;refine Y3;refine qB (k:=i+1) Oo (r _ _ (j _ _ (e _ _ l))) λU H5 u D=>vJ (u _ _ J) D (by rw[aW,bU,List.length_drop,aA];show Yez i+1+(d.length-(i+1))<=1000;exact Oo) λN H6 M G=>k _ H6 ((((e.trans j).trans r).trans u).trans M) (wN ?_);rw[G,II p,bN,bN,List.map_take,List.map_drop]
 rfl
end
theorem pC{α:Type}[DecidableEq α]:∀{l m:Yn},l.Nodup->(∀x∈l,x∈m)->l.length<=m.length
 | [],m,_,_=>cK _
 | x::l,m,h,hs=>by
  rw[List.nodup_cons]at h;have hx:=hs x (aG ..);have c:=pC (l:=l) (m:=m.erase x) h.2 λy a=>(List.mem_erase_of_ne (λe=>by subst e;exact h.1 a)).mpr (hs y (aQ _ a));rw[List.length_erase_of_mem hx]at c;have:0<m.length:=List.length_pos_of_mem hx;rw[bM];exact Oo
def UU{kvs:Y04}{ks:Ac}{v:V}(c:Af)(hk:kvs.map (·.1)=ks.map kT)(nd:ks.Nodup):∃ks2:Ac,(kB kvs (kT c) v).map (·.1)=ks2.map kT/\ks2.Nodup/\∀x,x∈ks2↔x∈ks\/x=c:=by
 cases e:Y6Z (kT c)with
 | some u =>
  refine⟨ks,by rw[sZ (by rw[e];rfl),hk],nd,λx=>Yaa .inl ?_⟩;rcases h with h | rfl
  ·exact h
  ·have:kT x∈kvs.map (·.1):=DR e;rw[hk]at this;obtain⟨y,d,l⟩:=aU.mp this;rw[<-tW l];exact d
 | none =>
  have j:c ∉ ks:=λh=>by
   have:kT c∈kvs.map (·.1):=by rw[hk];exact List.mem_map_of_mem h
   exact RS e this
  refine⟨ks++[c],by rw[GY v e,bN,bN,hk];rfl,List.nodup_append.mpr ⟨nd,by simp,λa g b i e=>by cases aN.mp i;subst e;exact j g⟩,λx=>by rw[bQ,aN]⟩
def NR:∀F,F<=4->∀m,m<=5->((cta F m).map ci).Pairwise (λa b=>qG a b=true):=Kk
def GS:∀F,F<=4->∀M,M<=5->(Y1h).length<=400:=λF a M c=>wR F a (M+1) Oo
inductive pX:Yi
 | i {H:Hp} {Q:VK} {E:XK} {tv cv:V} {fs:Ah} {ws:Y0d} {x:Y7G} {cs:Ae} {i N:Nat} (h1:Y5A tv) (h2:ws[i]?=Y9) (h3:Y6n cs cv) (h4:x.2.length=cs.length) (h5:∀f∈x.2,Fn N 1 f) (h6:0<N) (h7:N^cs.sum<2^3000) (h8:cs.length<=4) (h9:cs.sum<=100) (k:∀v H',Y0->Y3r (mW (x.2.zip cs))->Y0Z):pX [tv,.int (i:Int),cv] H Q E
def SA{cs:Ae}{i n:Nat}(h:cs[i]?=Y6u):(cs.take i).sum+n<=cs.sum:=by
 have e:cs.take (i+1)=cs.take i++[n]:=eU h;have:=List.take_append_drop (i+1) cs;have a:=congrArg List.sum this;rw[e,List.sum_append,List.sum_append,List.sum_singleton]at a;exact Oo
inductive iZ:Yi
 | i {H:Hp} {Q:VK} {E:XK} {F M:Nat} (h1:2<=F) (h2:F<=4) (h3:M<=5) (k:∀a H',Y0->H a=none->sR H' a (Y1h)->Y0L a):iZ [.int (F:Int),.int (M:Int)] H Q E
def ctI(c:Ae):PyData.tuple ((ci c).map .int)=gB c:=by unfold ci;rw[List.map_map];rfl
section
def aGH(F:Yb "_law_weight" "_law_weight" aCL)(T:Yd)(FQ17:Y1w "_law_times" a03 (kD K)):cX P w K mg base cN 3 f fd a19 pX:=by
 refine Y1k WF;obtain @⟨H,Q,E,tv,cv,fs,ws,x,d,μ,N,ω,υ,τ,hl,O,N0,Nz,c4,κ,k⟩:=h;refine Yh;intro φ A X s hr _;obtain⟨at_,af,aw,xf,xw,rfl,ζ,hf,hw,rf,η⟩:=zH ω;obtain⟨u,hu,ru⟩:=iE η υ;obtain⟨b,us,rfl,hb,W⟩:=dF ru;obtain⟨y,z,rfl,hy,C⟩:=iU W;obtain⟨aa,xs,rfl,δ,β⟩:=jB C;obtain⟨ρ,rfl,B⟩:=gX τ;refine⟨_,(aI (Y11 WF.nd Y3V)
  (aI (Y2z (Ybj (by rfl) 2) 4 WF.nd (Y2z (Y5w (Y4M 2 (aC 4))) 5 WF.nd (Y11 WF.nd (Y1O FQ17 3 (Y33 (Y33 (Y33 Y0G Y0f) aE) (aC 4))))))
  (Y3h 3))),?_⟩
 refine Yo;intro ο n_;refine kM (by show 2<=64;decide) λq0 H0 hq0 e0 s0=>Y3;refine Y6w (s0 _ _ B);rw[aA];refine Y3N _ Oo Oo ?_;rw[Int.toNat_natCast];have low:∀i,∀z∈(x.2.zip d).take i,dM z.1:=λi z C=>(O _ (mO C)).low;refine Y9s (Ex4 λ(v:V) (f:Fr) (R r:An)=>An6 (σ=[Y7t,Ym (μ:Int),Y4 ρ,Yq,R,r]) (Y0) (Y3r f) (Y0A) (Qn (N^(d.take i).sum) 1 (rv f)) (rv f=rv (mW ((x.2.zip d).take i)))) ⟨_,(1,1),_,_,rfl,s0,dR e0,aAb,?_,rfl⟩ ?_ ?_
 ·rw[List.take_zero];exact⟨1,by rw[zZ];simp,by simp⟩
 ·rintro i σ H1 ψ ⟨v,f,R,r,rfl,S1,I,γ,ν,J⟩;refine Y22;intro ο;obtain⟨n,L⟩:∃n,d[i]?=Y6u:=Y3d ψ;obtain⟨g,ε⟩:∃g,x.2[i]?=Y8T:=Y3U;have e:=O g (aF ε);obtain⟨vg,U,Z⟩:=iE β ε;have ts:=SA L;rw[show(0:Int)+(i:Int)=(i:Int)by exact Oo];refine Y0F;have p:xM (d.map NT) (i:Int)=some (NT n):=dL (by rw[aX,L];rfl);refine gU (S1 _ _ B) p (Y3N _ Oo Oo ?_);rw[Int.toNat_natCast];refine gH (λj σ H'=>Ex3 λ(v:V) (f:Fr) (r:An)=>An6 (σ=[Y7t,Ym (μ:Int),Y4 ρ,Yq,Ym (i:Int),r]) (Y0) (Y3r f) (Y0A) (Qn (N^((d.take i).sum+j)) 1 (rv f)) (rv f=rv (mW ((x.2.zip d).take i))*rv g^j)) (Y2R v f _ S1 I γ ν (by rw[J,Rat.pow_zero];grind)) ?_ ?_
  ·rintro j σ H2 hj ⟨ξ,D,M,rfl,S2,S,l,G,ι⟩;refine Y22;intro ο;refine Y6s (S2 _ _ ζ);refine Y1 (Y5W (S2 _ _ hw) hu);refine gU (S2 _ _ hb) rfl (Y1 (Y5W (S2 _ _ δ) U));have θ:∀{m:Nat},m<=d.sum->0<N^m/\N^m<2^3000:=λχ=>⟨Nat.pow_pos N0,bK (aL N0 χ) Nz⟩;have z1:Y4c D:=Ydi (Qn.f l G) ((θ Oo).1) ((θ Oo).2);have z2:Y4c g:=by
    have α:=θ (m:=1) Oo;rw[Nat.pow_one]at α;exact Ydi e α.1 α.2
   refine kD.i (iN.of S) (iN.of (Z.same S2)) l e.low z1 z2 ?_;intro q3 H3 hq3 e3 s3;refine Y2R _ (kH D g) _ (S2.trans s3) (dR e3) (iS l e.low) ?_ ?_
   ·rw[jM l.pos e.low.pos,<-Nat.add_assoc,Nat.pow_succ];exact G.mul e.q
   ·rw[jM l.pos e.low.pos,ι,Rat.pow_succ];grind
  ·rintro σ H2 ⟨ξ,D,M,rfl,S2,S,l,G,ι⟩;refine⟨ξ,D,_,_,rfl,S2,S,l,?_,?_⟩
   ·rw[eU L,List.sum_append,List.sum_singleton];exact G
   ·rw[eU (LC ε L),rY,jM (oV _ (low i)).pos (nF e.low n).pos,TB e.low,ι]
 ·rintro σ H1 ⟨v,f,R,r,rfl,S1,I,γ,ν,J⟩;refine Y3;rw[List.take_of_length_le (by rw[List.length_zip];exact Oo)]at J;have:f=mW (x.2.zip d):=kA γ (oV _ λz C=>(O z.1 (List.of_mem_zip (a:=z.1) (b:=z.2) C).1).low) J;rw[this]at I;exact k v H1 S1 I
def oQ5(F:Yb "_law_counts" "_law_counts" sQ5)(T:Yd)(FQ11:Yv "_law_more" a12 gO):cX P w K mg base cN 2 f fd a23 iZ:=by
 refine Y1k cQ5;obtain @⟨H,Q,E,F,M,f2,μ,m5,k⟩:=h;refine Yh;intro cdv A outer s hr _;refine⟨_,(aI (Y2t cQ5.nd (fV (Y1r (Y1U MJ (Y52 aE) 0))))
  (aI (Y11 cQ5.nd (mL qS (by rfl) T.b_list Kk (Y2r 2)))
  (aI (eA PassesOwn.never rfl (Y78 1) (Y6T 4 cQ5.nd) (aI (Yba cQ5.nd yX)
  (aI (Y2z (fX (Y1j)) 6 cQ5.nd (Y2z (Y78 0) 7 cQ5.nd (nU hr.u1 (aC 5) (Y1a FQ11 6 7) kJ)))
  (aI (Y11 cQ5.nd (cT (NW rfl) (by rfl) T.b_sorted Kk (Y2r 5)))
  (aS (Y2t cQ5.nd (Y56 AM 2 3)))))))
  (Y3h 2)))),?_⟩
 refine Yo;intro Z ρ;refine kM (by show 1<=64;decide) λq1 H1 hq1 e1 s1=>Y3;refine aEW (k:=F) e1 f2 Oo λα H2 s2 e2=>AN (by show 1<=64;decide) λq3 H3 hq3 e3 s3=>Ys;intro Z ρ;have r3:aJ H3 ((cta F 0).map gB) [.ref α]:=by
  rw[vG F Oo];refine Y4R (wN ?_);rw[s3 _ _ e2,List.map_replicate];rfl
 have S3:=(s1.trans s2).trans s3;refine⟨_,rfl,q3,_,rfl,.inl (hU.of e3),λι hq4=>?_⟩;have β:=Yg1 [V.ref α] hq4;have e4:(upd H3 ι (.lst [V.ref α])) ι=Y05 [V.ref α]:=bR;generalize upd H3 ι (.lst [V.ref α])=H4 at β e4;refine Y2q _ rfl _ Oo Oo ?_;rw[Int.toNat_natCast];refine gH (λi σ H'=>Ex8 λ(a b:Addr) (xs W:Al) (o4 o5 δ O:An)=>An7 (σ=[Ym (F:Int),Ym (M:Int),Y1y,Y4 b,o4,o5,δ,O]) (Y0) (H a=none) (H' a=Y0y) (Y2l ((rise F i).map gB) xs) (Y1q=Y05 W) (Y2l ((cta F i).map gB) W))
  ⟨q3,ι,_,_,_,_,_,_,rfl,S3.trans β,(s1.trans s2).free hq3,β _ _ e3,by rw[OY];exact r3.same β,e4,r3.same β⟩ ?_ ?_
 ·rintro i σ H5 hi ⟨a,b,xs,W,o4,o5,δ,O,rfl,S5,θ,γ,χ,ζ,rb⟩;refine Y8r;intro Z ρ;have cs1:=pG F μ i Oo;have ω:=pG F μ (i+1) Oo;have lys:W.length=(Y4J i).length:=cQ rb;intro p υ;refine Ys;intro Z ρ;have R:=YdZ [] υ;have κ:(upd H5 p (.dT [])) p=Y2d []:=bR;generalize upd H5 p (.dT [])=H6 at R κ;have nap:a≠p:=λz=>by rw[z,υ]at γ;cases γ
  have nbp:b≠p:=λz=>by rw[z,υ]at ζ;cases ζ
  refine Y5P b (R _ _ ζ) ?_;have η:∀(j:Nat) (d:Af),(∃c∈(cta F i).take j,∃f,f<F/\d=ci (cC c f))->d∈(cta F (i+1)).map ci:=λj d ⟨c,u,f,r,e⟩=>aU.mpr ⟨cC c f,(vH Oo).mpr ⟨c,List.mem_of_mem_take u,f,r,rfl⟩,e.symm⟩;refine jT (xs:=W) (Yg6 (λ(δ O:An) (l:List (List fF × V)) (y:Ac)=>An6 (σ=[Ym (F:Int),Ym (M:Int),Y1y,Y4 b,Ym (0+(i:Nat)),Y2m,δ,O]) (bB p H6 H') (H' p=Y2d l) (l.map (·.1)=y.map kT) (y.Nodup) (∀d,d∈y ↔ ∃c∈(cta F i).take j,∃f,f<F/\d=ci (cC c f))))
   ⟨_,_,[],[],rfl,(Yx).but,κ,rfl,List.nodup_nil,λd=>⟨(λh=>by cases h),λ⟨c,u,_⟩=>by rw[List.take_zero]at u;cases u⟩⟩ (Ydu) ?_ ?_
  ·obtain⟨_,_,_,_,_,b',_⟩:=q;exact Yes nbp (R _ _ ζ)
  ·rintro j x σ H7 hx ⟨o6',o7',l,y,rfl,U,φ,hk,nd,ν⟩;refine Y22;intro Z;obtain⟨S,u,rc⟩:=cR rb hx;have t7:dH H6 H7:=bB.tT U κ;have rc7:bL H7 (gB S) x:=(rc.same R).flat t7 (gT _);obtain⟨lc,_⟩:=iC (aF u);refine Y2q _ rfl _ Oo Oo ?_;rw[Int.toNat_natCast];refine gH (λg σ H'=>Ex3 λ(O:An) (l:List (List fF × V)) (y:Ac)=>An6 (σ=[Ym (F:Int),Ym (M:Int),Y1y,Y4 b,Ym (0+(i:Nat)),Y2m,Y9,O]) (bB p H7 H') (H' p=Y2d l) (l.map (·.1)=y.map kT) (y.Nodup) (∀d,d∈y↔(∃c∈(cta F i).take j,∃f,f<F/\d=ci (cC c f))\/∃f,f<g/\d=ci (cC S f)))
    (Y2R _ l y ((Yx).but) φ hk nd (λd=>by rw[ν];exact Yaa .inl (by rcases h with h | ⟨f,r,_⟩;exact h;exact Oo))) ?_ ?_
   ·rintro g σ H8 hg ⟨ε,C,D,rfl,ο,X,J,I,G⟩;refine Y22;intro Z;have t8:dH H7 H8:=bB.tT ο φ;rw[show(0:Int)+(g:Int)=(g:Int)by exact Oo];refine Y1H;refine gO.i (i:=g) (rc7.flat t8 (gT _)) Oo Oo λv9 H9 L r9=>?_;obtain⟨a9,rfl,h9⟩:=gX r9;have lk:D.length<=56:=by
     have:=pC I (m:=(cta F (i+1)).map ci) λd hd=>by
      rcases(G d).mp hd with h | ⟨f,r,e⟩
      ·exact η j d h
      ·exact η (j+1) d ⟨S,by rw[eU u];exact Ycv _ rfl,f,Oo,e⟩
     rw[aA]at this;exact Oo
    have lkv:C.length=D.length:=by have:=Y4P J;simpa using this
    have e9p:=L _ _ X;refine YcN e9p (ci (cC S g)) (by rw[iG];exact h9) (λH10 e10 b10=>?_);obtain⟨ks2,k1,k2,k3⟩:=UU (v:=Y9Y) (ci (cC S g)) J I;refine Y2R _ _ ks2 ((ο.trans L.but).trans b10) e10 k1 k2 Y7g;rw[k3,G];constructor
    ·rintro((h | ⟨f,r,e⟩) | h)
     ·exact Y8R
     ·exact Y3L f Oo e
     ·exact Y3L g Oo h
    ·rintro(h | ⟨f,r,e⟩)
     ·exact YaS h
     ·by_cases q:f=g
      ·subst q;exact .inr e
      ·exact .inl (Y3L f Oo e)
   ·rintro σ H8 ⟨ε,C,D,rfl,ο,X,J,I,G⟩;refine⟨_,_,C,D,rfl,U.trans ο,X,J,I,Y7g⟩;rw[G,eU u];constructor
    ·rintro(⟨c,N,f,r,e⟩ | ⟨f,r,e⟩)
     ·exact⟨c,cO _ N,f,r,e⟩
     ·exact⟨S,Ycv _ rfl,f,r,e⟩
    ·rintro⟨c,N,f,r,e⟩;rcases bQ.mp N with h | h
     ·exact .inl ⟨c,h,f,r,e⟩
     ·rw[aN.mp h]at e;exact Y3L f r e
  ·rintro σ H7 ⟨o6',o7',l,y,rfl,U,φ,hk,nd,ν⟩;refine Y6f;intro Z ρ;rw[lys,cZ]at ν;have B:∀d,d∈y↔d∈(cta F (i+1)).map ci:=λd=>by
    rw[ν,aU];constructor
    ·rintro⟨c,u,f,r,e⟩;exact⟨cC c f,(vH Oo).mpr ⟨c,u,f,r,rfl⟩,e.symm⟩
    ·rintro⟨d',hd',rfl⟩;obtain⟨c,u,f,r,rfl⟩:=(vH Oo).mp hd';exact⟨c,u,f,r,rfl⟩
   have lk:y.length<=56:=by
    have:=pC nd (m:=(cta F (i+1)).map ci) λd hd=>(B d).mp hd;rw[aA]at this;exact Oo
   refine Y3;refine rsrd (cs:=y) φ hk (λc u=>?_) Oo λq8 ys8 ds H8 pm pw hq8 X τ ξ=>?_
   ·obtain⟨d,hd,rfl⟩:=aU.mp ((B c).mp u);obtain⟨l1,_⟩:=iC hd;intro z;have e:(ci d).length=d.length:=by unfold ci;rw[aA]
    rw[z,List.length_nil]at e;exact Oo
   have eds:ds=(cta F (i+1)).map ci:=AU pw (NR F μ (i+1) Oo) λd=>by rw[pm.mem_iff];exact B d
   rw[eds,List.map_map,show(cta F (i+1)).map ((λc:Af=>PyData.tuple (c.map .int)) ∘ ci)=(cta F (i+1)).map gB from dD λc _=>ctI c]at τ;have t7:dH H5 H7:=R.t.trans (bB.tT U κ);have S7:aV H H7:=aV.thru (S5.free υ) (S5.trans R) U;have ea8:H8 a=Y0y:=ξ _ _ (U.at nap (R _ _ γ));have ψ:=(aJ.flat t7 (lQ _) χ).same ξ;have l8:ys8.length<=56:=by rw[cQ τ];exact ω
   have lxs:Y4Y 400:=by rw[cQ χ];exact GS F μ i Oo
   refine Y0F;refine VY ea8 X Oo λq9 H9 aa e9 L=>⟨q9,q8,_,_,_,_,_,_,rfl,(S7.trans ξ).trans L,(S7.trans ξ).free aa,e9,?_,L _ _ X,τ.same L⟩;rw[OZ,bN];exact aJ.app (ψ.same L) (τ.same L)
 ·rintro σ H5 ⟨a,b,xs,W,o4,o5,δ,O,rfl,S5,θ,γ,χ,ζ,rb⟩;exact Y1 (k a H5 S5 θ ⟨xs,γ,χ⟩)
end
abbrev aCQ:Stmt:=(top 90)
def FL:Yc ["_law_trial_here","_law_aim_here","_law_prices","_law_known","_law_counts_here","_law_weights","_law_found","_law_say","_law_parts","_law_k","_law_share","_law_some_here","_law_face"] a06 aCQ:={}
abbrev aCK:Stmt:=(top 91)
def WE:Yc ["_law_trial_here","_law_aim_here","_law_prices","_law_known","_law_counts_here","_law_some_here","_law_one"] a20 aCK:={}
inductive uO:Yi
 | i {H:Hp} {Q:VK} {E:XK} {tv av pv cv:V} {p:Addr} {fs:Ah} {ws:Y0d} {bs mix ps cs:Ak} {c:Ae} {kvs:Y04} {val:Ae->Fr} {F W M Ns Nm Np Nc B:Nat} (h1:Y5A tv) (h2:Y5f M) (h3:Y23 ps pv) (h4:Y6n c cv) (h5:H p=Y25) (I:kC F W M (Y1x) mix ps cs Ns Nm Np Nc B) (b:0<Ns) (cl:Y4E) (cm:Y5c M) (nv:Y43->∀j,j<F->Y1d Ns Nm Np Nc (Y2H*B) (Y7k c j)) (kn:Y43->∀j,j<F->∃v,Y6a (cC c j)=Yq/\Y3v (Y7k c j) v) (k:∀D xs gs H',Y0->H D=none->Y0k=Y0y->YeD eZ xs->QX (oU M Ns Nm Np Nc) (SW W F M (qW (Y1x)) (Y8Y) (fO ps) (fO cs) (YcS d) c) gs->Y1g):uO [tv,av,pv,Y0x,cv] H Q E
def YN{l:Ae}{g:Nat->Fr}(h:∀i∈l,dM (g i)):dM (jP (l.map g))/\rv (jP (l.map g))=sL (l.map λi=>rv (g i)):=by
 have a:∀f∈l.map g,Y0A:=λf d=>by
  obtain⟨i,c,rfl⟩:=aU.mp d;exact h i c
 refine Y02 (uF _ a);rw[wA _ a,List.map_map];rfl
def JR{H:Hp}{g:Nat->Fr}:∀{as:Ae}{ys:Al},Paired (λi y=>Y3v (g i) y) as ys->Y15 ((as.map g).map eZ) ys:=λa=>by
 rw[List.map_map];exact Paired.toRepL a
section
def aGM(F:Yb "_law_sums" "_law_sums" aCQ)(T:Yd)
  (FQ21:Y1I "_law_weight" a19 pX) (FQ17:Y1w "_law_times" a03 (kD K)) (FQ19:Y1I "_law_total" ["_law_some_here"] (mT K)) (FQ11:Yv "_law_more" a12 gO):cX P w K mg base cN 4 f fd a06 uO:=by
 refine Y1k FL;obtain @⟨H,Q,E,tv,av,pv,cv,p,fs,ws,bs,C,J,cs,c,kvs,val,F,W,M,L,Z,θ,β,B,rt,ra,rp,rc,hp,I,hNs,hcl,ζ,nv,kn,k⟩:=h;refine Yh;intro cdv A outer s hr _;generalize hss:nQ ws=u at I kn k;have lws:YcR W:=by have:=I.sl;rw[<-hss,aA]at this;exact this
 have hbB:=I.b;have w4:=I.w4;have w1:=I.w1;have f4:=I.f4;have ξ:B<=2^690:=aM (show B<=4*WB by exact Oo) tG;have m:1<=2^690:=Nat.one_le_two_pow;obtain⟨ap,vp,rfl,hap,rvp⟩:=jB rp;obtain⟨ac,rfl,hac⟩:=gX rc;obtain⟨aa,xb,xm,xc,rfl,ad,rxb,rxm,rxc⟩:=rV ra;obtain⟨am,vm,rfl,ham,rvm⟩:=jB rxm;obtain⟨ak,vk,rfl,hak,rvk⟩:=jB rxc;obtain⟨at_,af,aw,xf,xw,rfl,hat,hf,hw,rf,rw'⟩:=zH rt;have lxw:xw.length=W:=by rw[cQ rw',lws]
 have lvp:vp.length=W:=by rw[cQ rvp,I.pl]
 have lvm:vm.length=W:=by rw[cQ rvm,I.ml]
 refine⟨_,(aI (Y6C 5 FL.nd (Y7V ["_law_way","_law_trial_here","_law_counts_here"] [0,4] (Y5w (cT fH (by rfl) T.b_len Kk (Y1r Y0G))) (mK FQ21 Y0f Yw (aC 2))))
  (aI (Yem 6 (fV aH))
  (aI (eA PassesOwn.never rfl (Ybj (by rfl) 5) (cS (i:=7) FL.nd rfl (Or.inr rfl)) (aI (pS (i:=8) (dO.o ["_law_way","_law_prices","_law_weights","_law_say"] [2,5,7]) FL.nd rfl rfl (Ybj (by rfl) 5) (λ_ _ _ _=>LD (Y2y AJ 0 Y1j)) (λ_ _ _ _=>(cB FQ17 (Y5j 1 Yw) (Y5j 2 Yw))))
  (aS (Y7p oO 6 (Y2N FQ19 8)))))
  (aI (Yem 9 (cT (yK K rfl) (by rfl) T.b_sum Kk (Y2r 4)))
  (aI (yS (eX (Y2y AK 9 Y16) (aI (Yem 10 (eB FQ19 (Y7V ["_law_way","_law_aim_here","_law_weights"] [1,5] (Ybj (by rfl) 5) (cB FQ17 (bJ (fY K) (Y5j 1 aE) (Yw)) (Y5j 2 Yw)))))
  (aI (Yem 11 (fV (Y1r (Y1O FQ17 10 (Y33 Y16 (aC 9))))))
  (aI (Y2z (Ybj (by rfl) 4) 12 FL.nd (Y7p oO 11 (jV hr.u1 Y1j (Y1a FQ11 4 12))))
  (aS (Y7p oO 6 (Y2N FQ19 11)))))) cY))
  (Y3h 6)))))),?_⟩
 refine Yo;intro φ n_;refine Y0i hat;refine Y6w hw;rw[lxw];refine Y3N _ Oo Oo ?_;have Nz:L^c.sum<2^3000:=by
  have ι:L^c.sum<=L^M:=aL hNs ζ;have h2:L^M<=θ*β*Z*L^M:=Yf5 (Nat.pos_of_ne_zero λz=>by have:=I.pos;rw[z]at this;simp at this);have:=I.sz;exact Oo
 refine Y9x (i<W/\Y2f (mW ((u.getD i []).zip c)) y) (λi y H1 H2 s ⟨ι,h2⟩=>⟨ι,h2.flat s (Y2b)⟩) Oo (λi H' Q' a S k'=>?_) (λD5 zs H5 hD5 e5 s5 hz5 hr5=>?_)
 ·rw[Int.zero_add];have a:i<W:=Oo;obtain⟨x,hx⟩:∃x,ws[i]?=Y9:=Y3U;have e:u.getD i []=x.2:=mP (by rw[<-hss,aX,hx];rfl);have hxs:=I.sh x.2 (by rw[<-hss];exact Y76 x (aF hx));refine Y1H;refine pX.i (rt.same S) hx (rc.same S) (by rw[hxs.1,hcl]) hxs.2 hNs Nz Oo (by have:=I.m5;exact Oo) λy H6 s6 r6=>k' _ H6 s6 (Y02 a);rw[e];exact r6
 have lz:zs.length=W:=Oo;refine Ys;intro φ n_;refine AN (by show 0<=64;decide) λD H6 hD e6 s6=>Ys;intro φ n_;have S6:=s5.trans s6;have hD0:H D=none:=s5.free hD;have ae:=s6 _ _ e5;refine Y1 (rlL ae ?_);rw[lz];refine Y3N _ Oo Oo ?_;rw[Int.toNat_natCast];have nD5:D5≠D:=λz=>by rw[<-z,e5]at hD;cases hD
 have η:∀i,i<W->Y1d L Z θ β B (hV u J c i):=λi a=>yO I a ζ;have wB:W*B<=4*B:=bS _ w4
 let sayF:Nat->Fr:=λs=>jP (((List.range W).filter λi=>i != s).map (hV u J c))
 have say:∀s,s<W->dM (sayF s)/\rv (sayF s)=Y8X W (fO J v*qW u v c)-fO J s*qW u s c/\Y1d L Z θ β (4*B) (sayF s):=λs hs=>by
  have hlow:∀i∈(List.range W).filter λi=>i != s,dM (hV u J c i):=λi a=>(mC I (bX.mp (gZ.mp a).1) c).1;obtain⟨t1,t2⟩:=YN hlow;refine Y3l t1
  ·show rv (jP _)=_;rw[t2];have:((List.range W).filter λi=>i != s).map (λi=>rv (hV u J c i))=((List.range W).filter λi=>i != s).map λi=>fO J i*qW u i c:=dD λi a=>(mC I (bX.mp (gZ.mp a).1) c).2;rw[this];exact SM _ hs
  ·have:=Fn.tot (((List.range W).filter λi=>i != s).map (hV u J c)) (N:=oU M L Z θ β) (B:=B) λf hf=>by
    obtain⟨i,a,rfl⟩:=aU.mp hf;exact η i (bX.mp (gZ.mp a).1)
   refine this.le ?_;rw[aA];have ι:=List.length_filter_le (λi=>i != s) (List.range W);rw[bG]at ι;exact bS _ Oo
 refine Y9s (Ex3 λ(o7 o8:An) (κ:Al)=>An4 (σ=[Y7t,Y4 aa,Y4 ap,Y2m,Y4 ac,Y4 D5,Y4 D,o7,o8,none,none,none,none]) (bB D H6 H') (Y0k=Y05 κ) (Y2l (((List.range i).map sayF).map eZ) κ)) (Y2q _ _ [] ((Yx).but) e6 aJ.nil) ?_ ?_
 ·rintro i σ H7 a ⟨o7,o8,κ,rfl,b7,e7,r7⟩;refine Y8r;intro φ n_;have t7:dH H6 H7:=b7.t e6;have γ:H7 D5=Y90:=b7.at nD5 ae;refine Y1 (rlL γ ?_);rw[lz];refine Y3N _ Oo Oo ?_;rw[Int.toNat_natCast];refine VW (λj=>j != i) (λj y H'=>Y2f (hV u J c j) y) (λj y Ha Hb s r=>r.flat s (Y2b)) Oo (λj H' Q' R S k'=>?_) (λj H' Q' R hp S k'=>?_) (λD8 ys H8 hD8 e8 s8 pr8=>?_)
  ·refine Y1Y _ rfl _ rfl _ rfl ?_;have e:(!decide (V.int (0+(j:Nat))=V.int (0+(i:Nat))))=(j != i):=by
    by_cases q:j=i
    ·subst q;simp
    ·have:¬V.int (0+(j:Nat))=V.int (0+(i:Nat)):=λz=>q (by injection z with z;exact Oo);rw[bP this];simp[q]
   rw[e];exact k' H' (Yx)
  ·obtain⟨f1,ε⟩:∃f,J[j]?=Y7B:=Y3d (by rw[I.pl];exact R);obtain⟨v1,ω,ab⟩:=iE rvp ε;obtain⟨v2,δ⟩:∃v,zs[j]?=Yq:=Y3U;obtain⟨_,rv2⟩:=hr5 j v2 δ;have e1:J.getD j (0,1)=f1:=mP ε;have n1:=FR I R;rw[e1]at n1;rw[show(0:Int)+(j:Int)=(j:Int)by exact Oo];refine Y06 (Y5W (S _ _ (t7 _ _ (S6 _ _ hap))) ω);refine Y06 (ixL (S _ _ γ) (dL δ) ?_);refine kD.i (iN.of (((ab.same S6).flat t7 (cU _)).same S)) (iN.of (((rv2.same s6).flat t7 (cU _)).same S)) n1.low (qT I R c) (fZ I n1 ξ) (fZ I (yN I R ζ) m) ?_;intro q9 H9 hq9 ψ ρ;refine k' _ H9 ρ (dR ?_);rw[ψ];unfold hV;rw[e1]
  have r8:=JR pr8;have fl:∀f∈((List.range W).filter λj=>j != i).map (hV u J c),Y1d L Z θ β B f:=λf hf=>by
   obtain⟨j,R,rfl⟩:=aU.mp hf;exact η j (bX.mp (gZ.mp R).1)
  have ll:(((List.range W).filter λj=>j != i).map (hV u J c)).length<=64:=by
   rw[aA];have ι:=List.length_filter_le (λj=>j != i) (List.range W);rw[bG]at ι;exact Oo
  have e8D:=s8 _ _ e7;refine Y5b _ (OM e8D) _ ?_;refine mT.i (.inl e8) (sS.of r8) (pM I fl ll ξ) λv9 H9 ρ r9=>?_;have e9D:=ρ _ _ e8D;have lus:κ.length=i:=by rw[r7.len,aA,aA,bG]
  refine BS e9D Oo λH10 e10 b10=>?_;have t10:=b10.t e9D;refine Y2q _ _ (κ++[v9]) ((b7.trans (s8.trans ρ).but).trans b10) e10 ?_;rw[List.range_succ,bN,bN];exact YcP ((s8.trans ρ).t.trans t10) (jR _) r7 t10 Y2b r9
 ·rintro σ H7 ⟨o7,o8,κ,rfl,b7,e7,r7⟩;refine Y6f;intro φ n_;have t7:dH H6 H7:=b7.t e6;have γ:H7 D5=Y90:=b7.at nD5 ae;have S7:aV H H7:=aV.thru hD0 S6 b7;have lus:κ.length=W:=by rw[r7.len,aA,aA,bG]
  have sv:((List.range W).map sayF).map rv=sN W λv=>fO J v*qW u v c:=by
   unfold sN;rw[List.map_map];exact dD λi a=>(say i (bX.mp a)).2.1
  have sn:∀g∈(List.range W).map sayF,Y1d L Z θ β (4*B) g:=λg G=>by
   obtain⟨i,a,rfl⟩:=aU.mp G;exact(say i (bX.mp a)).2.2
  refine Y1 (YeA (ci c) (by rw[iG];exact fS.of (S7 _ _ hac)));rw[FK];refine Y3l (λσ H'=>∃(o10 o11 U:An) (μ:Al) (gs:Ak),σ=[Y7t,Y4 aa,Y4 ap,Y2m,Y4 ac,Y4 D5,Y4 D,o7,o8,Ym ((c.sum:Nat):Int),o10,o11,U]/\Y0/\Y0k=Y05 μ/\YeD eZ μ/\QX (oU M L Z θ β) (SW W F M (qW u) (fO C) (fO J) (fO cs) (YcS d) c) gs)
  ·rintro σ H9 ⟨o10,o11,U,μ,gs,rfl,S9,ψ,r9,ok9⟩;exact Y1 (k D μ gs H9 S9 hD0 ψ r9 ok9)
  refine Y6s (S7 _ _ ad);refine Y3R _ _ _ (nR (Y8n) (Y8n))
  ·have X:Y43:=Oo;refine Yo;intro φ n_;refine Y1 (rlL γ ?_);rw[lz];refine Y3N _ Oo Oo (Y9x (i<W/\Y2f (hV u C c i) y) (λi y H1 H2 s ⟨ι,h2⟩=>⟨ι,h2.flat s (Y2b)⟩) Oo (λi H' Q' a S k'=>?_) (λD9 us9 H9 hD9 ψ ρ hu9 hr9=>?_))
   ·have R:i<W:=Oo;obtain⟨f1,ε⟩:∃f,C[i]?=Y7B:=Y3d (by rw[I.ml];exact R);obtain⟨v1,ω,ab⟩:=iE rvm ε;obtain⟨v2,δ⟩:∃v,zs[i]?=Yq:=Y3U;obtain⟨_,rv2⟩:=hr5 i v2 δ;have e1:C.getD i (0,1)=f1:=mP ε;have n1:=FS I R;rw[e1]at n1;rw[show(0:Int)+(i:Int)=(i:Int)by exact Oo];refine Y0i (S _ _ (S7 _ _ ad));refine Y1 (Y5W (S _ _ (S7 _ _ ham)) ω);refine Y06 (ixL (S _ _ γ) (dL δ) ?_);refine kD.i (iN.of ((ab.same S7).same S)) (iN.of (((rv2.same s6).flat t7 (cU _)).same S)) n1.low (qT I R c) (fZ I n1 m) (fZ I (yN I R ζ) m) ?_;intro q9 H9 hq9 ψ ρ;refine k' _ H9 ρ ⟨R,dR ?_⟩;rw[ψ];unfold hV;rw[e1]
   have r9:aJ H9 (((List.range W).map (hV u C c)).map eZ) us9:=YaK hr9;obtain⟨ml,mv⟩:=YdG W (hV u C c) ((pN I a c).1);have mn:∀g∈(List.range W).map (hV u C c),Y1d L Z θ β 1 g:=λg G=>by
    obtain⟨i,a,rfl⟩:=aU.mp G;exact IK I (Y8G) ζ
   refine mT.i (.inl ψ) (sS.of r9) (pM I mn (by rw[aA,bG];exact Oo) m) λv10 H10 s10 r10=>Ys;intro φ n_;have mtn:=Fn.tot _ mn;rw[aA,bG]at mtn;generalize hmet:jP ((List.range W).map (hV u C c))=met at r10 ml mv mtn;have S10:aV H7 H10:=ρ.trans s10;obtain⟨vkk,hvk,rvkk⟩:=iE rvk (i:=c.sum) (f:=Yel (0,1)) (by rw[bI,aD (by rw[I.cl];exact X)];rfl);have cn:=OB I X;have hp14:=I.paid X;have em:rv met=Y8X W (fO C v*qW u v c):=by rw[mv];exact fL λj R=>(pN I R c).2
   have vpd:rv (kH met (Yel (0,1)))=fO cs c.sum*Y8X W (fO C v*qW u v c):=by
    rw[jM ml.pos cn.low.pos,em,Rat.mul_comm];rfl
   have pdn:Y1d L Z θ β (4*B) (kH met (Yel (0,1))):=Qn.f (iS ml cn.low) (by rw[vpd];exact hp14);refine Y6s (S10 _ _ (S7 _ _ ad));refine Y1 (Y5W (S10 _ _ (S7 _ _ hak)) hvk);refine kD.i (iN.of r10) (iN.of ((rvkk.same S7).same S10)) ml cn.low (fZ I mtn (aM (show W*1<=4*WB by have:=aAN;clear ξ m;exact Oo) tG)) (fZ I cn ξ) ?_;intro q11 H11 hq11 e11 s11;refine AN (by show 1<=64;decide) λD12 H12 hD12 e12 s12=>Ys;intro φ n_;have S12:aV H7 H12:=(S10.trans s11).trans s12;refine Yai (S12 _ _ (S7 _ _ hac));rw[aA,hcl];refine Y3N _ Oo Oo ?_;rw[Int.toNat_natCast];have l:H7 D12=none:=(S10.trans s11).free hD12;have nDD:D≠D12:=λz=>by rw[z]at e7;rw[e7]at l;cases l
   have hp12:H12 p=Y25:=S12 _ _ (S7 _ _ hp);have npD:p≠D12:=λz=>by rw[<-z,S7 _ _ hp]at l;cases l
   refine Y9s (Ex2 λ(U:An) (μ:Al)=>An4 (σ=[Y7t,Y4 aa,Y4 ap,Y2m,Y4 ac,Y4 D5,Y4 D,o7,o8,Ym ((c.sum:Nat):Int),some v10,Y4 D12,U]) (bB D12 H12 H') (H' D12=Y05 μ) (Y2l (((kH met (cs.getD c.sum (0,1)))::(List.range i).map λj=>val (cC c j)).map eZ) μ)) (Y4y _ _ ((Yx).but) e12 (Y4R (dR (s12 _ _ e11)))) ?_ ?_
   ·rintro i σ H13 a ⟨U,μ,rfl,O,ν,ο⟩;refine Y22;intro φ;have τ:dH H12 H13:=O.t e12;rw[show(0:Int)+(i:Int)=(i:Int)by exact Oo];refine⟨_,rfl,OM ν,_,rfl,_,rfl,_,rfl,?_⟩;refine gO.i (i:=i) (cs:=c) ((rc.same (S7.trans S12)).flat τ (gT _)) Oo Oo λv14 H14 α r14=>?_;obtain⟨a14,rfl,h14⟩:=gX r14;obtain⟨v,hv,rvv⟩:=kn X i a;refine Yb6 (α _ _ (O.at npD hp12)) (cC c i) (by rw[iG];exact h14) hv ?_;have e14:=α _ _ ν;have lxs:μ.length=i+1:=by rw[ο.len,aA,bM,aA,bG]
    refine BS e14 Oo λH15 e15 b15=>?_;have t15:=b15.t e14;refine Y4y _ _ ((O.trans α.but).trans b15) e15 ?_;rw[List.range_succ,bN,<-List.cons_append,bN];exact YcP (α.t.trans t15) (jR _) ο ((τ.trans α.t).trans t15) Y2b (rvv.same (S7.trans S12))
   ·rintro σ H13 ⟨U,μ,rfl,O,ν,ο⟩;have τ:dH H12 H13:=O.t e12;have wn:∀g∈(List.range F).map (λi=>val (cC c i)),Y1d L Z θ β (Y2H*B) g:=λg G=>by
     obtain⟨i,a,rfl⟩:=aU.mp G;have a:=Y8G;exact nv X i a
    have b8:Y2H*B<=4*WB:=by
     have:=yP I (n:=Y53-1) (by have:=I.m5;exact Oo);rw[show M-c.sum-1+1=M-c.sum by exact Oo]at this;exact aM this (Nat.le_mul_of_pos_left WB Dd)
    have ι:8<=Y2H:=by
     have:=aL (n:=8) Dd (show 1<=M-c.sum by exact Oo);simpa using this
    have hB:8*B<=Y2H*B:=bS _ ι;have an:∀g∈(kH met (cs.getD c.sum (0,1)))::(List.range F).map (λi=>val (cC c i)),Y1d L Z θ β (Y2H*B) g:=λg G=>by
     rcases aK.mp G with rfl | G
     ·exact pdn.le Oo
     ·exact wn g G
    have χ:H13 D=Y05 κ:=O.at nDD (S12 _ _ e7);refine Y5b _ (OM χ) _ ?_;refine mT.i (.inl ν) (sS.of ο) (pM I an (by rw[bM,aA,bG];exact Oo) (aM b8 tG)) λv16 H16 ag r16=>?_;have υ:=ag _ _ χ;refine BS υ Oo λH17 e17 b17=>?_;have t17:=b17.t υ;have al:∀g∈(kH met (cs.getD c.sum (0,1)))::(List.range F).map (λi=>val (cC c i)),dM g:=λg G=>(an g G).low;have S13:aV H H13:=aV.thru ((S7).free l) (S7.trans S12) O;have tA:dH H7 H13:=S12.t.trans τ;refine⟨_,_,_,κ++[v16],(List.range W).map sayF++[jP ((kH met (Yel (0,1)))::(List.range F).map λi=>Y7k c i)],rfl,aV.thru hD0 (S13.trans ag) b17,e17,?_,?_,?_,?_,?_⟩
    ·rw[bN];exact YcP ((tA.trans ag.t).trans t17) (jR _) r7 t17 Y2b r16
    ·unfold SW;rw[bN,sv,if_pos X];congr 1;rw[bC,List.map_nil];congr 1;rw[wA _ al,bC,mQ,vpd,List.map_map]
     rfl
    ·intro g G;rcases bQ.mp G with G | G
     ·exact(sn g G).le Oo
     ·rw[aN.mp G];refine(Fn.tot _ an).le ?_;rw[bM,aA,bG];have b9:=yP I (n:=Y53) (by have:=I.m5;exact Oo);rw[Nat.pow_succ,Nat.mul_comm (8^_) 8,Nat.mul_assoc]at b9;have fB:(F+1)*(Y2H*B)<=8*(Y2H*B):=bS _ Oo;exact Oo
    ·simp
    ·rw[aW,aA,bG];show W+1<=5;exact Oo
  ·have e0:Y53=0:=Oo;refine⟨_,_,_,κ,(List.range W).map sayF,rfl,S7,e7,r7,?_,λg G=>(sn g G).le Oo,by rw[aA,bG];exact Oo,by rw[aA,bG];exact Oo⟩;unfold SW;rw[sv,Y9G,List.append_nil]
end
def JL:∀F,F<=4->∀M,M<=5->(Y1h).length<=400:=Kk
def YG{F W M:Nat}{ss:Aj}{mix ps cs:Ak}{c:Ae}(hc:Y4E):SW W F M (qW ss) (Y8Y) (fO ps) (fO cs) (λd=>rv (FW F W M ss mix ps cs d)) c=smQ W F (qW ss) (Y8Y) (fO ps) (fO cs) (Y53) c:=by
 unfold SW;by_cases h:Y43
 ·obtain⟨n,a⟩:∃n,Y53=n+1:=Y2h (Y53-1);rw[Y8u,a];show _=sN W (λv=>fO ps v*qW ss v c)++[_];congr 3;refine fL λj e=>?_;show rv (jS _)=_;rw[fD];unfold wor;rw[iT Oo,show M-(c.sum+1)=n by exact Oo]
 ·rw[Y6i,List.append_nil,show M-c.sum=0 by exact Oo];rfl
def aAM{F W M:Nat}{ss:Aj}{mix ps cs:Ak}{Ns Nm Np Nc B:Nat}(I:kC F W M ss mix ps cs Ns Nm Np Nc B){c:Ae}(hcl:Y4E)(hlt:Y43){i:Nat}(hi:i<F):Y1d Ns Nm Np Nc (Y2H*B) (FW F W M ss mix ps cs (cC c i)):=by
 refine Qn.fq ?_;have bs:=iT (c:=c) (j:=i) Oo;have:=I.worn (M-(cC c i).sum) (cC c i) (by rw[pK];exact hcl) Oo;rw[show M-(cC c i).sum+1=M-c.sum by exact Oo]at this;exact this
inductive pW:Yi
 | i {H:Hp} {Q:VK} {E:XK} {tv av pv:V} {fs:Ah} {ws:Y0d} {bs mix ps cs:Ak} {F W M Ns Nm Np Nc B:Nat} (h1:Y5A tv) (h0:Y7a F) (h2:Y5f M) (h3:Y23 ps pv) (I:kC F W M (Y1x) mix ps cs Ns Nm Np Nc B) (b:0<Ns) (f2:2<=F) (k:∀p kvs H',Y0->H p=none->H' p=Y25->DW H' kvs (Y1h) (FW F W M (Y1x) mix ps cs)->Y0L p):pW [tv,av,pv] H Q E
section
def aGG(F:Yb "_law_worths" "_law_worths" aCK)(T:Yd)
  (FQ5:Y1w "_law_counts" a23 iZ) (FQ16:Y0K 4 "_law_sums" a06 uO) (FQ2:Yv "_law_below" a03 (kL K)):cX P w K mg base cN 5 f fd a20 pW:=by
 refine F.oky WE λa H Q E h=>?_;obtain @⟨H,Q,E,tv,av,pv,fs,β,bs,m,X,Z,F,W,M,Ns,Nm,Np,Nc,B,rt,hF,ra,rp,I,hNs,f2,k⟩:=h;refine Yh;intro cdv A outer s hr _;have f1:=I.f1;have f4:=I.f4;have m5:=I.m5;obtain⟨aa,xb,xm,xc,rfl,haa,rxb,rxm,rxc⟩:=rV ra;obtain⟨at_,af,aw,xf,xw,rfl,hat,hf,hw,rf,rw'⟩:=zH rt;have small:=JL F f4 M m5;refine⟨_,(aI (Y11 WE.nd yX)
  (aI (eA PassesOwn.never rfl (aBI rfl T.b_reversed (Y1r (cB FQ5 (cT fH (by rfl) T.b_len Kk (Y1r Y0G)) (Y16)))) (Y6T 4 WE.nd) (aI (Yba WE.nd (mJ FQ16 (hr.mono Dd) (Y55 Yw 1 (Y55 (aC 2) 3 (Y2r 4)))))
  (aI (nU hr.u1 (Y1j) (aC 4) (Y3A 5))
  (aS (Y2z (fX (aC 5)) 6 WE.nd (eX (dX (Y1O FQ2 6 (jV hr.u1 Y1j (aC 4)))) (aS (nU hr.u1 (Y1j) (aC 4) (aC 6))) cY))))))
  (Y3h 3))),?_⟩
 refine Yo;intro d_ n_;intro p hp;have s1:=YdZ [] hp;have e1:(upd H p (.dT [])) p=Y2d []:=bR;generalize upd H p (.dT [])=H1 at s1 e1;refine Y0i (s1 _ _ hat);refine Y6w (s1 _ _ hf);rw[cQ rf,hF];refine Y0i (s1 _ _ haa);refine iZ.i f2 f4 m5 λR H2 s2 hR LR=>?_;obtain⟨a,eR,rR,lR⟩:=LR.len;have S2:=s1.trans s2;have nRp:R≠p:=λz=>by rw[z,e1]at hR;cases hR
 refine Y0v R a (hU.of eR) ?_;have nd:=yE F f4 M m5;refine aAp (xs:=a) (λi σ H'=>Ex4 λ(o4 o5 χ:An) (C:List (List fF × V))=>An6 (σ=[Y7t,Y4 aa,some pv,Y2m,o4,o5,χ]) (Y0) (H' R=Y05 a) (Y2l ((rise F M).map gB) a) (H' p=Y2d C) (DW H' C ((rise F M).drop (Ybs i)) (FW F W M (nQ β) m X Z))) ⟨_,_,_,[],rfl,S2,eR,rR,s2 _ _ e1,?_⟩ (YbS) ?_ ?_
 ·rw[Nat.sub_zero,lR,List.drop_length];exact⟨λc τ=>(by cases τ),by simp⟩
 ·obtain⟨_,_,_,_,_,_,h,_⟩:=q;exact Yac
 ·rintro i x σ H3 hi hx ⟨o4,o5,χ,C,rfl,S3,υ,δ,e3,D3⟩;refine Y8r;intro d_ n_;obtain⟨c,τ,rc⟩:=cR δ hx;have O:=(jC f1).mp (aF τ);have dl:=D3.len;rw[List.length_drop]at dl;have hd:(rise F M).drop (Ybs (i+1))=c::(rise F M).drop (Ybs i):=by
   obtain⟨hc1,hc2⟩:=aT.mp τ;rw[show a.length-(i+1)=a.length-1-i by exact Oo,List.drop_eq_getElem_cons hc1,hc2,show a.length-1-i+1=a.length-i by exact Oo]
  have hcS:c ∉ (rise F M).drop (Ybs i):=λq=>by
   have h1:((rise F M).drop (Ybs (i+1))).Nodup:=List.Sublist.nodup (List.drop_sublist _ _) nd;rw[hd,List.nodup_cons]at h1;exact h1.1 q
  refine⟨_,rfl,_,rfl,_,rfl,_,rfl,_,rfl,?_⟩;refine uO.i (rt.same S3) (ra.same S3) (rp.same S3) rc e3 I hNs O.1 O.2 (val:=FW F W M (nQ β) m X Z) (λφ j hj=>aAM I O.1 φ hj) (λφ j hj=>?_) λD xs κ H4 ι hD e4 r4 U=>?_
  ·have bs:=iT (c:=c) (j:=j) Oo;have hin:cC c j∈Y1h:=(jC f1).mpr (Y2h (by rw[pK];exact O.1));have:=GT τ hin Oo;rw[show a.length-1-i+1=a.length-i by exact Oo]at this;exact D3.yes _ this
  have ω:∀g∈κ,dM g/\Y4c g:=λg S=>⟨(U.n g S).low,fZ I (U.n g S) (aM (Nat.le_mul_of_pos_left WB Dd) tG)⟩;refine Ys;intro d_ n_;obtain⟨g0,ο⟩:∃g,κ[0]?=Y8T:=Y3d U.l0;obtain⟨v0,hv0,rv0⟩:=iE r4 ο;refine Y1 (ixL e4 (dL (j:=0) hv0) ?_);obtain⟨ac,rfl,hac⟩:=gX (rc.same ι);refine Y0F;have e4p:=ι _ _ e3;refine YcN e4p (ci c) (by rw[iG];exact hac) (λH5 e5 ψ=>?_);have ν:=bB.tT ψ e4p;have η:D≠p:=λz=>by rw[z,e3]at hD;cases hD
  have S5:aV H H5:=YcQ (S3.trans ι) ψ;have ρ:H5 ac=Yl (c.map NT):=ν _ _ hac;have lxs:Y2v κ.length:=by rw[cQ r4]
  refine Y5P D (ψ.at η e4) ?_;have put:∀{Ha:Hp} {l:Y04} {v:V},(∀d∈(rise F M).drop (a.length-i),∃v,Y8B l d=Yq/\bL Ha (eZ (FW F W M (nQ β) m X Z d)) v)->∀d∈(rise F M).drop (a.length-i),∃u,Y8B (kB l (Y2M c) v) d=Yt/\bL Ha (eZ (FW F W M (nQ β) m X Z d)) u:=λh d hd=>by
   rw[uE,YcC (hcS (by rw[<-uB (tW q)];exact hd))];exact h d hd
  have self:∀{l:Y04} {v:V},Y8B (kB l (Y2M c) v) c=Yq:=by
   intro l v;rw[uE,Y1P]
  have keep:∀{Ha Hb:Hp} {l:Y04},dH Ha Hb->(∀d∈(rise F M).drop (a.length-i),∃v,Y8B l d=Yq/\bL Ha (eZ (FW F W M (nQ β) m X Z d)) v)->∀d∈(rise F M).drop (a.length-i),∃v,Y8B l d=Yq/\bL Hb (eZ (FW F W M (nQ β) m X Z d)) v:=λt h d hd=>by
   obtain⟨v,h1,h2⟩:=h d hd;exact⟨v,h1,h2.flat t (Y2b)⟩
  have len1:=kE C (Y2M c) v0;refine jT (xs:=xs) (Yg6 (λ(χ:An) (l:List (List fF × V)) (v:V) (y:Fr)=>An9 (σ=[Y7t,Y4 aa,some pv,Y2m,Y4 ac,Y4 D,χ]) (bB p H5 H') (H' p=Y2d l) (l.length<=((rise F M).drop (Ybs i)).length+1) ((∀d∈(rise F M).drop (a.length-i),∃v,Y8B l d=Yq/\Y3r (FW F W M (nQ β) m X Z d))) (Y8B l c=Yq) (Y3r y) (y∈κ) (∀g∈κ.take j,rv y<=rv g)))
   ⟨_,_,v0,g0,rfl,(Yx).but,e5,by rw[List.length_drop];exact Oo,put (keep (ι.t.trans ν) D3.yes),self,rv0.flat ν (Y2b),aF ο,λg S=>by rw[List.take_zero]at S;cases S⟩ (Ydu) ?_ ?_
  ·obtain⟨_,_,_,_,_,b',_⟩:=q;exact Yes η (ψ.at η e4)
  ·rintro j x2 σ H6 hx2 ⟨o6',l,v,y,rfl,ε,θ,l6,d6,L,N,r,J⟩;refine Y22;intro d_;obtain⟨g,S,rg⟩:=cR r4 hx2;have t6:dH H5 H6:=bB.tT ε e5;have ζ:=aF S;have α:H6 ac=Yl (c.map NT):=t6 _ _ ρ;have μ:bL H6 (eZ g) x2:=rg.flat (ν.trans t6) (Y2b);refine Y54 (Yb6 θ c (by rw[iG];exact α) L ?_);refine kL.i (iN.of μ) (iN.of N) (ω g ζ).2 (ω y r).2 Y3;have ξ:=TD (ω g ζ).1.pos (ω y r).1.pos;refine nR (λlt=>?_) (λlt=>?_)
   ·have lt':=ξ.mp lt;refine Y2g;intro d_;refine Y1H;rw[List.length_drop]at l6;refine YcN θ (ci c) (by rw[iG];exact α) (λH7 e7 b7=>?_);have t7:=bB.tT b7 θ;refine⟨_,_,x2,g,rfl,ε.trans b7,e7,?_,put (keep t7 d6),self,μ.flat t7 (Y2b),ζ,λz G=>?_⟩
    ·have:(kB l (kT (ci c)) x2).map (·.1)=l.map (·.1):=sZ (by rw[L];rfl);have h2:=Y4P this;rw[aA,aA]at h2;rw[List.length_drop];exact Oo
    ·rw[eU S]at G;rcases bQ.mp G with G | G
     ·have:=J z G;grind
     ·rw[aN.mp G];exact Rat.le_refl
   ·refine⟨_,l,v,y,rfl,ε,θ,l6,d6,L,N,r,λz G=>?_⟩;rw[eU S]at G;rcases bQ.mp G with G | G
    ·exact J z G
    ·rw[aN.mp G];exact Rat.not_lt.mp λq=>lt (ξ.mpr q)
  ·rintro σ H6 ⟨o6',l,v,y,rfl,ε,θ,l6,d6,L,N,r,J⟩;have t6:dH H5 H6:=bB.tT ε e5;rw[lxs,cZ]at J;have ey:y=FW F W M (nQ β) m X Z c:=by
    have e:rv y=wI (κ.map rv):=(aAa (Y76 y r) λx hx=>by
     obtain⟨g,S,rfl⟩:=aU.mp hx;exact J g S).symm
    rw[U.v,YG O.1,<-RG]at e;rw[<-aDK (ω y r).1,e];rfl
   rw[ey]at N;refine⟨_,_,_,l,rfl,YcQ S5 ε,ε.at nRp (ψ.at nRp (ι _ _ υ)),Yco (ν.trans t6) _ (δ.same ι),θ,?_⟩;rw[hd];refine⟨λd γ=>?_,by rw[bM];exact l6⟩;rcases aK.mp γ with rfl | γ
   ·exact⟨v,L,N⟩
   ·exact d6 d γ
 ·rintro σ H3 ⟨o4,o5,χ,C,rfl,S3,υ,δ,e3,D3⟩;rw[Nat.sub_self,List.drop_zero]at D3;exact Y1 (k p C H3 S3 hp e3 D3)
end
theorem NB{H:Hp}:∀{P:Y8N Fr}{ys:Al},(∀(i:Nat) (y:V),Y1i=Y00->∃f,Y3v f y/\P i f)->∃fs:Ak,Y7a ys.length/\Y73 eZ ys/\∀(i:Nat) (f:Fr),fs[i]?=Y7B->P i f
 | P,[],_=>⟨[],rfl,aJ.nil,λi f h=>by simp at h⟩
 | P,y::ys,h=>by
  obtain⟨f,h1,h2⟩:=h 0 y rfl;obtain⟨fs,e,j,c⟩:=NB (P:=λi=>P (i+1)) (ys:=ys) λi z d=>h (i+1) z (by simpa using d);refine⟨f::fs,by rw[bM,bM,e],aJ.cons h1 j,λi g a=>?_⟩;cases i with
  | zero=>cases(show f=g by simpa using a);exact h2
  | succ i=>exact c i g (by simpa using a)
def vT{fs:Ak}{i:Nat}{f:Fr}(h:fs[i]?=Y7B):fO fs i=rv f:=by unfold fO;rw[mP h]
def XR{fs:Ak}{i:Nat}(h:Y9D i):fO fs i=0:=by
 unfold fO;rw[bI,dZ h];exact uY
def XD.b{F W:Nat}{fs:Ah}{ws:Y0d}(T:XD F W fs ws):∀x∈ws,BOk 10 x.2:=λx c =>
 ⟨λf a=>((T.sh x c).at f a).1.low,λf a=>by have:=(T.sh x c).bits f a;show f.1.natAbs<=1024;exact Oo,λf a=>by have:=(T.sh x c).bits f a;show f.2.natAbs<=1024;exact Oo⟩
def VE(f g:Fr):PyData.eqv (eZ f) (eZ g)=Yr f g:=by
 obtain⟨a,b⟩:=f;obtain⟨c,d⟩:=g;simp[PyData.eqv,PyData.eqvAll,Prod.ext_iff];rfl
def BC{α:Type}(l:Yn):l.filter (YeJ)=l:=List.filter_eq_self.mpr λ_ _=>rfl
def AH{H:Hp}{α:Type}{g:α->Fr}{as:Yn}{ys:Al}(pr:Paired (λa y=>Y3v (g a) y) as ys):Y15 ((as.map g).map eZ) ys:=by
 rw[List.map_map];exact Paired.toRepL pr
abbrev cfD(e:List Nat × Fr):PyData:=Y0a (gB e.1) (eZ e.2)
def IE(e:List Nat × Fr):cV (cfD e)=true:=by show(cV (gB e.1)&&(cV (eZ e.2)&&true))=true;rw[gT];rfl
def RH(rs:Ab)(val:Ae->Fr):(rs.map (YeQ [gB c,Ya1 c]))=(rs.map λc=>(c,val c)).map cfD:=by rw[List.map_map];rfl
def n45{M Np Nc:Nat}(hM:M<=5)(p1:0<Np)(p2:Yay Np)(c1:0<Nc)(c2:Yay Nc):0<oU M gD gD Np Nc/\oU M gD gD Np Nc<2^300:=by
 refine Y02 (gE (gE (gE p1 c1) Dd) (Yg3));have a:gD^M<=gD^5:=Y2w hM;have d:oU M gD gD Np Nc<=YdN*gD*gD^5:=Nat.mul_le_mul (YfP _ p2 c2) a;have c:YdN*gD*gD^5<2^300:=Kk;exact Oo
structure KY(H:Hp)(tv av pv:V)(fs:Ah)(ws:Y0d)(bs mix ps cs:Ak)(F W M:Nat):Prop where
 rt:Y5A tv
 ra:Y5f M
 rp:Y23 ps pv
 T:XD F W fs ws
 f:2<=F/\F<=4
 w:2<=W/\W<=4
 m:M<=5/\(Y1h).length<=20
 bl:Y8p W
 b:∀f∈bs,Y8s 1 f
 mx:IV W mix
 pl:Y9N W
 p:∀f∈ps,yQ f
 cl:Y9O M
 c:∀f∈cs,yQ f
section
variable{H H':Hp}{tv av pv:V}{fs:Ah}{ws:Y0d}{bs mix ps cs:Ak}{F W M:Nat}
def KY.n(I:KY H tv av pv fs ws bs mix ps cs F W M):0<oU M gD gD (Y1u) (Y57)/\oU M gD gD (Y1u) (Y57)<2^300 :=
 n45 I.m.1 (rS I.p) (vD I.p (by have:=I.pl;have:=I.w;exact Oo)) (rS I.c) (vD I.c (by have:=I.cl;have:=I.m;exact Oo))
def KY.wo(I:KY H tv av pv fs ws bs mix ps cs F W M):kC F W M (Y1x) mix ps cs gD gD (Y1u) (Y57) 999 where
 f1:=by have:=I.f;exact Oo
 f4:=I.f.2
 w1:=by have:=I.w;exact Oo
 w4:=I.w.2
 m5:=I.m.1
 sl:=by rw[aA];exact I.T.w
 ml:=I.mx.len
 pl:=I.pl
 cl:=I.cl
 sh:=λs hs=>by
  obtain⟨x,d,rfl⟩:=aU.mp hs;exact⟨(I.T.sh x d).len,λf a=>((I.T.sh x d).at f a).1⟩
 mx:=λf a=>(I.mx.at f a).1
 pr:=yJ I.p
 co:=yJ I.c
 pos:=I.n.1
 sz:=Y4j I.n.2
 b:=aM Dd aAN
end
abbrev aCf:Stmt:=(top 43)
def aHf:Yc ["faces"] ["faces"] aCf:={}
abbrev aCg:Stmt:=(top 49)
def aHg:Yc ["says"] ["says"] aCg:={}
abbrev aB9:Stmt:=(top 54)
def aHc:Yc ["rule"] ["rule"] aB9:={}
abbrev aCI:Stmt:=(top 56)
def QQ:Yc ["rule","amount_of","counts","says","onward","more"] ["rule"] aCI:={}
abbrev enD(e:eJ):PyData:=Y0a (gB e.1) (jK e.2)
abbrev WY(es:Y0D):PyData:=.tuple (es.map enD)
def HN(e:eJ):cV (enD e)=true:=by show(cV (gB e.1)&&(Y6q e.2&&true))=true;rw[gT,fW];rfl
theorem HM:∀es:List eJ,fM (es.map enD)=true
 | []=>rfl
 | e::es=>by show(cV (enD e)&&fM (es.map enD))=true;rw[HM es,HN];rfl
def TH(es:Y0D):cV (WY es)=true:=HM es
structure WQ(n:Nat)(fs:Ak):Prop where
 len:Y7a n
 at_:∀f∈fs,Y3o/\0<=f.1
 one:sL (fs.map rv)=1
structure BN(F W M:Nat)(es:Y0D):Prop where
 rl:IP F es
 sum:∀e∈es,e.1.sum<=M
 sy:∀e∈es,WQ (1+W) e.2
 few:es.length<=64
 on:∀e∈es,Yu≠0->e.1.sum<M
def CY{H:Hp}{e:eJ}{v:V}(h:Y0r (enD e) v):∃b u z,v=Y0E/\H b=Yl [u,z]/\Y6n e.1 u/\Y23 e.2 z:=by
 obtain⟨b,g,rfl,c,r⟩:=dF h;obtain⟨u,z,rfl,a,d⟩:=iU r;exact Y2q b u z c a d
def WQ.hd{n:Nat}{fs:Ak}(h:WQ (1+n) fs):∃f r,fs=f::r/\Y3o/\0<=f.1/\fO fs 0=rv f/\(0<f.1↔fO fs 0≠0):=by
 cases fs with
 | nil=>have:=h.len;simp at this;exact Oo
 | cons f r =>
  obtain⟨a,g⟩:=h.at_ f (aG ..);refine⟨f,r,rfl,a,g,rfl,?_⟩;have e:fO (f::r) 0=rv f:=rfl;rw[e];constructor
  ·intro c q;have:=kA a.low UQ (by rw[q,uY]);rw[this]at c;exact Y7b c
  ·intro q;refine dP λz=>q ?_;have i:f.1=0:=Oo;have d:=AA a.low.pos;rw[i]at d;have j:=qU a.low.pos;have:rv f=0:=by grind
   exact this
def WQ.qn{n:Nat}{fs:Ak}(h:WQ n fs)(v:Nat):Qn gD 1 (fO fs v):=by
 by_cases hv:v<fs.length
 ·exact(h.at_ _ (iF (a:=(0,1)) hv)).1.q
 ·rw[XR Oo];exact YcW _
def KC:5^64<=2^150:=Kk
def YI(n:Nat):0<gD^n:=Yg3
abbrev vM(Np Nc:Nat):Nat:=Np*Nc*gD^15
structure QY(Np Nc:Nat):Prop where
 p0:0<Np
 p1:Yay Np
 c0:0<Nc
 c1:Yay Nc
def QY.big{Np Nc:Nat}(h:QY Np Nc):0<vM Np Nc/\vM Np Nc<2^500:=by
 refine Y02 (gE (gE h.p0 h.c0) (YI _));have a:vM Np Nc<=YdN*gD^15:=YfP _ h.p1 h.c1;have c:YdN*gD^15<2^500:=Kk;exact Oo
def tQ:QY 1 1:=⟨Dd,Dd,Dd,Dd⟩
def EN{Np Nc N B:Nat}{x:Rat}(h:Qn N B x)(d:N ∣ vM Np Nc):Qn (vM Np Nc) B x:=h.dvd d
def rB{Np Nc B:Nat}{f:Fr}(ok:QY Np Nc)(h:Fn (vM Np Nc) B f)(hB:B<=2^400):Y4C :=
 oS h ok.big.1 (Y4j ok.big.2) (Ya0 hB)
def d46{Np Nc a:Nat}(h:a<=15):gD^a ∣ vM Np Nc:=Nat.dvd_trans (YfQ h) (Nat.dvd_mul_left _ _)
def aDT{Np Nc a:Nat}(h:a<=15):Nc*gD^a ∣ vM Np Nc:=by
 obtain⟨r,c⟩:=Nat.pow_dvd_pow gD h;exact⟨Np*r,by unfold vM;rw[c];ac_rfl⟩
def AI{n:Nat}(h:n<=400):(2:Nat)^n<=2^400:=Y2w h
section
variable{F W M:Nat}{es:Y0D}
def BN.fl(R:BN F W M es)(f4:F<=4){e:eJ}(h:e∈es):Qn (gD^M) (2^150) (Y0b e.1):=by
 have a:=R.rl.qn (N:=gD) (λe c=>(R.sy e c).qn 0) f4 es.length (Yk) e.1;rw[cZ]at a;have d:5^es.length<=5^64:=Y2w R.few;exact(a.le (aM d KC)).dvd (YfQ (R.sum e h))
end
structure DQ(K:Aa)(H:Hp)(kvs:Y04)(g:Y1G):Prop where
 at_:∀d:Ae,(Y6a d=none/\g d=0)\/∃v,Y6a d=Yq/\FT K H (jS (g d)) v
def VF:jS 0=(0,1):=kA (Y09) UQ (by rw[fD,uY])
def NC:jS 1=(1,1):=kA (Y09) aAb (by rw[fD,zZ])
theorem DQ.t{K:Aa}{H H':Hp}{kvs:Y04}{g:Y1G}(s:Y4G)(h:DQ K H kvs g):DQ K H' kvs g:=⟨λd=>by
 rcases h.at_ d with h | ⟨v,a,c⟩
 ·exact Y8R
 ·exact Y3L v a (c.t s)⟩
def DQ.eq{K:Aa}{H:Hp}{kvs:Y04}{g g':Y1G}(h:DQ K H kvs g)(e:∀d,g' d=g d):DQ K H kvs g':=by
 have:g'=g:=funext e;rw[this];exact h
def DQ.get{K:Aa}{H:Hp}{kvs:Y04}{g:Y1G}(h:DQ K H kvs g)(d:Ae){z:V}(hz:iN K H (0,1) z):iN K H (jS (g d)) ((fK kvs (kT (ci d))).getD z):=by
 rcases h.at_ d with⟨a,c⟩ | ⟨v,a,c⟩
 ·rw[a,c,VF];exact hz
 ·rw[a];exact c.v
def DQ.val{K:Aa}{H:Hp}{kvs:Y04}{g:Y1G}(h:DQ K H kvs g){d:Ae}(hd:g d≠0):∃v,Y6a d=Yq/\FT K H (jS (g d)) v:=by
 rcases h.at_ d with⟨_,a⟩ | h
 ·exact absurd a hd
 ·exact h
def DQ.put{K:Aa}{H:Hp}{kvs:Y04}{g:Y1G}(h:DQ K H kvs g){c:Ae}{v:V}{y:Rat}(r:FT K H (jS (g c+y)) v):DQ K H (Y4z (Y2M c) v) λd=>g d+if c=d then y else 0:=⟨λd=>by
 rw[uE];by_cases e:c=d
 ·subst e;rw[Y1P,Y1P];exact .inr (Y0Q v r)
 ·rw[YcC (e (uB (tW q)).symm),Y6j,show g d+0=g d by grind];exact h.at_ d⟩
inductive iK:Yi
 | i {H:Hp} {Q:VK} {E:XK} {x:V} {f:Fr} {fs:Ak} (h1:Y23 (f::fs) x) (k:Y0H (Y2A 0 f.1)):iK [x] H Q E
inductive lC:Yi
 | i {H:Hp} {Q:VK} {E:XK} {F:Nat} (h:F<=64) (k:∀v H',Y0->Y4x (gB Y0e) v->Y0Z):lC [.int (F:Int)] H Q E
inductive lO:Yi
 | i {H:Hp} {Q:VK} {E:XK} {x:V} {e:eJ} {es:Y0D} (h1:Y0r (WY (e::es)) x) (k:Y45 (e.1.length:Nat)):lO [x] H Q E
inductive pZ (K:Aa):Yi
 | i {H:Hp} {Q:VK} {E:XK} {x:V} {es:Y0D} {F W M:Nat} (h1:Y0r (WY es) x) (h2:BN F W M es) (h3:1<=F) (h4:F<=4) (h5:M<=6) (k:∀a ys H',Y0->H' a=Y7E->Y3I es.length->(∀(i:Nat) (e:eJ),es[i]?=Y3S->∃b cu va,Y1i=Y4 b/\Y1q=Yl [cu,va]/\FT K H' (jS (Y0b e.1)) va)->Y0L a):pZ K [x] H Q E
section
def aGa(F:Yb "looks_on" "looks_on" aCg)(T:Yd):cX P w K mg base cN 1 f fd ["says"] iK:=by
 refine F.oky aHg λC H Q E h=>?_;obtain @⟨H,Q,E,x,f,fs,g,k⟩:=h;refine Yh;intro l A e s u _;obtain⟨a,B,rfl,p,d⟩:=jB g;obtain⟨y,m,j⟩:=aJ.atX (i:=0) d rfl;obtain⟨b,rfl,r⟩:=FG j;refine Y1e (jY xC (Y33 (Y4M 0 (gJ (v:=.int 0) rfl T.g_LOOKS_ON Y1E)) aE) aE) (Y1 (Y5W p m));exact gU r rfl (Y59 _ k)
def aF3(F:Yb "rule_faces" "rule_faces" aB9)(T:Yd):cX P w K mg base cN 1 f fd ["rule"] lO:=by
 refine YdC aHc ?_;obtain @⟨H,Q,E,x,e,G,m,k⟩:=h;refine Yh;intro r A l s L _;obtain⟨a,M,rfl,C,g⟩:=dF m;obtain⟨y,B,p⟩:=iE g (i:=0) (f:=e) rfl;obtain⟨b,u,z,rfl,D,ru,I⟩:=CY p;obtain⟨J,rfl,d⟩:=gX ru;refine Y1e (cT fH (by rfl) T.b_len Kk (Y1r (Y33 Y0G aE))) (Y1 (Y8c C 0 B ?_));refine gU D rfl (Y6w d);rw[aA];exact k
def aF9(F:Yb "noughts" "noughts" aCf)(T:Yd):cX P w K mg base cN 1 f fd ["faces"] lC:=by
 refine YdC aHf ?_;obtain @⟨H,Q,E,F,I,k⟩:=h;refine Yh;intro p A d s M _;refine Y1e (mL eG (by rfl) T.b_tuple Kk (Y81 ["face"] [] (Y78 0) aE)) ?_;refine Y2q _ rfl _ Oo Oo (Y9x (∃n,y=Y5R/\n=0) YdD Oo (λi H' Q' J O e=>e _ H' (Yx) (Y0Q 0 rfl)) (λD G H1 L r C x a=>?_));obtain⟨j,rfl,g⟩:=MY (P:=λ_ n=>n=0) a;have u:j=Y0e:=by
  rw[aA]at x;exact List.eq_replicate_iff.mpr ⟨Oo,λb B=>by obtain⟨i,h⟩:=iO.mp B;exact g i b h⟩
 subst u;refine Y34 D (Y5D r (λl m=>?_));refine k _ _ (C.trans (aV.upd m)) (wN ?_);rw[bR,List.map_replicate,List.map_replicate];rfl
def aGE(F:Yb "amounts" "amounts" aCI)(T:Yd)(FQ55:Yv "noughts" ["faces"] lC)(FQ61:Yv "rule_faces" ["rule"] lO)
  (FQ54:Yv "looks_on" ["says"] iK) (FQ65:Y7l "times" K) (FQ57:Y1w "ones_more" ["counts"] gM) (FQ59:Y1w "plus" a00 (kK K)):cX P w K mg base cN 3 f fd ["rule"] (pZ K):=by
 refine Y1k QQ;obtain @⟨H,Q,E,x,es,F,W,M,rx,RO,f1,f4,m6,k⟩:=h;refine Yh;intro cdv A outer s hr _;obtain⟨a,xs,rfl,ha,ζ⟩:=dF rx;have RL:=RO.rl;have lx:Y2v es.length:=cQ ζ;have few:=RO.few;obtain⟨e0,er,ees,ez0⟩:=RL.root;refine⟨_,(aI (Y6C 1 QQ.nd (RM hr.u1 (eB FQ55 (Y3q FQ61)) (Y2T c.ONE T.g_ONE)))
  (aI (eA PassesOwn.never rfl (Y2x 0) (tH rfl (Y7o 2 QQ.nd (Y7o 3 QQ.nd pT))) (aS (eX (dX (Y2N FQ54 3)) (aI (Y67 QQ.nd (cB FQ65 (jV hr.u1 Y0f (aC 2)) (Y3A 3)))
  (aS (Y2z (fX (Y2N FQ57 2)) 5 QQ.nd (nU hr.u1 (Y0f) (aC 5) (cB FQ59 (XN hr.u1 (Y0f) (aC 5) (Y2T c.NOUGHT T.g_NOUGHT)) (aC 4)))))) cY)))
  (Y0R (mL eG (by rfl) T.b_tuple Kk (Y81 ["entry","amount_of"] [1] (Y2x 0) (Y2L (Y5j 0 aE) (jV hr.u1 Y0f (Y5j 0 aE)))))))),?_⟩
 refine Yo;intro d_ n_;intro p hp;have R:=YdZ [] hp;have ε:(upd H p (.dT [])) p=Y2d []:=bR;generalize upd H p (.dT [])=H0 at R ε;refine Y1 (lO.i (e:=e0) (es:=er) (by rw[<-ees];exact rx.same R) ?_);rw[ez0,cG];refine lC.i (F:=F) Oo λv1 H1 s1 r1=>?_;obtain⟨cz,rfl,ν⟩:=gX r1;refine aFQ (c:=ci (Y0e)) (by rw[iG];exact ν) (s1 _ _ ε) λH2 e2 b2=>Ys;intro d_ n_;have S2:aV H H2:=YcQ (R.trans s1) b2;have D2:DQ K H2 [(Y2M Y0e,V.ref c.ONE)] (cE F (es.take 0)):=⟨λd=>by
  rw[List.take_zero,sG];by_cases q:d=Y0e
  ·subst q;rw[Y1P];exact Y3L _ (by simp[fK]) (.inr (Y0Q c.ONE (by rw[NC];exact T.o_ONE)))
  ·rw[Y3f];refine Y3e ?_ rfl;have:¬Y2M d=Y2M Y0e:=λz=>q (uB (tW z));have e:=uE (κ:=Y4N) [] (Y2M Y0e) (Y2M d) (V.ref c.ONE);rw[if_neg this]at e;exact e⟩
 clear b2 R ε r1 ν s1;refine Y3P a (S2 _ _ ha) (Y9g xs (Ex5 λ(o2 o3 o4 φ:An) (g:List (List fF × V))=>An5 (σ=[Y1y,Y2m,o2,o3,o4,φ]) (Y0) (H' p=Y2d g) (g.length<=1+4*i) (DQ K H' g (cE F (es.take i)))) ⟨_,_,_,_,_,rfl,S2,e2,by simp,D2⟩ YbS ?_ ?_)
 ·obtain⟨_,_,_,_,_,_,ρ,_⟩:=q;exact fS.of (ρ _ _ ha)
 ·rintro i x σ H3 hx ⟨o2,o3,o4,φ,g,rfl,S3,θ,l3,D3⟩;obtain⟨e,C,re⟩:=cR ζ hx;have hi:i<es.length:=(aT.mp C).1;have r:=aF C;have hkey:e.1∈es.map (·.1):=Y76 e r;have hel:=RL.len e r;have δ:=RL.at C;have fpos:=RL.posf r;obtain⟨f0,fr,ef,G,nn0,v0,μ⟩:=(RO.sy e r).hd;have es0:Yu=rv f0:=v0;obtain⟨b,u,z,rfl,hb,ru,rz⟩:=CY (re.same S3);obtain⟨I,rfl,O⟩:=gX ru;refine⟨b,[.ref I,z],rfl,fS.of hb,rfl,.ref I,[z],rfl,z,[],rfl,rfl,Y2g⟩;intro d_;refine Y1 (iK.i (f:=f0) (fs:=fr) (by rw[<-ef];exact rz) ?_);refine Y1 (nR (Y8n) (Y8n))
  ·have sne:Yu≠0:=μ.mp on;refine Yo;intro d_ n_;obtain⟨Z,β,S⟩:=D3.val (d:=e.1) (by rw[δ];grind);rw[δ]at S;refine Y06 (Yb6 θ e.1 (by rw[iG];exact O) β ?_);obtain⟨av,vs,rfl,hav,χ⟩:=jB rz;rw[ef]at χ;obtain⟨y0,hy0,ry0⟩:=aJ.atX (i:=0) χ rfl;refine Y1 (Y8c hav 0 hy0 ?_);have qA:Qn (gD^e.1.sum) (2^150) (Y0b e.1):=by
    have X:=RL.qn (N:=gD) (λe C=>(RO.sy e C).qn 0) f4 es.length (Yk) e.1;rw[cZ]at X;exact X.le (aM (Y2w few) KC)
   have hsM:=RO.sum e r;have nA:Fn (vM 1 1) (2^150) (jS (Y0b e.1)):=(Y5T qA).fq;have n0:Fn (vM 1 1) 1 f0:=Qn.f G.low (EN G.q (by have:=Yd8 1 1 1;rwa [Nat.pow_one]at this));refine dW.i S.v (iN.of ry0) (Y09) G.low (rB tQ nA (AI Dd)) (Yau tQ n0) λq4 H4 hq4 e4 ο=>?_;have τ:kH (jS (Y0b e.1)) f0=jS (Y0b e.1*Yu):=Y8C (iS (Y09) G.low) (by rw[jM (Y09).pos G.low.pos,fD,fD,es0]);rw[τ]at e4;have qy:Qn (gD^(e.1.sum+1)) (2^150) (Y0b e.1*Yu):=by
    have h:=qA.mul ((RO.sy e r).qn 0);rw[Nat.mul_one,<-Nat.pow_succ]at h;exact h
   refine Y3;refine gM.i (wN (ο _ _ O)) Oo λL J H5 hL e5 ι γ=>?_;have S5:=(S3.trans ο).trans γ;have ly:J.length=F:=by rw[ι.len,aA,aA,bG,hel]
   have ω:bL H5 (eZ (jS (Y0b e.1*Yu))) (.ref q4):=dR (γ _ _ e4);have ψ:H5 p=Y2d g:=γ _ _ (ο _ _ θ);have nLp:L≠p:=λz=>by rw[z,ο _ _ θ]at hL;cases hL
   refine Y0X L (Y7Z e5) ?_;refine jT (xs:=J) (λj σ H'=>Ex2 λ(φ:An) (g:List (List fF × V))=>An5 (σ=[Y1y,Y2m,Y4 I,Y4 av,Y4 q4,φ]) (bB p H5 H') (H' p=Y2d g) (g.length<=1+4*i+j) (DQ K H' g λd=>Y4W F i d+Y0b e.1*Yu*fG j λf=>if cC e.1 f=d then 1 else 0))
    ⟨_,g,rfl,(Yx).but,ψ,Oo,(D3.t (ο.trans γ).t).eq λd=>by rw[jG];grind⟩ (Ydu) ?_ ?_
   ·obtain⟨_,_,_,b',_⟩:=q;exact Yes nLp e5
   ·rintro j y σ H6 hy ⟨o5',U,rfl,b6,ξ,l6,D6⟩;refine Y22;intro d_;have hj:j<F:=by rw[<-ly];exact(aT.mp hy).1
    obtain⟨m,hm,rm⟩:=cR ι hy;have τ:m=cC e.1 j:=by
     rw[aX,eS Oo]at hm;simpa using hm.symm
    have aa:m.sum=e.1.sum+1:=by rw[τ];exact iT Oo
    have mks:m∈es.map (·.1):=by rw[τ];exact RL.fwd e r sne j hj
    have mM:m.sum<=M:=by obtain⟨e',he',rfl⟩:=aU.mp mks;exact RO.sum e' he'
    obtain⟨cm,rfl,hcm⟩:=gX rm;have t6:dH H5 H6:=bB.tT b6 ψ;have α:=t6 _ _ hcm;have hnz:iN K H6 (0,1) (.ref c.NOUGHT):=Y0Q c.NOUGHT (uI T.o_NOUGHT);have hg:=D6.get m hnz;have qX:Qn (gD^m.sum) (2^155) (Y4W F i m+Y0b e.1*Yu*fG j λf=>if cC e.1 f=m then 1 else 0):=by
     have X:=RL.qn (N:=gD) (λe C=>(RO.sy e C).qn 0) f4 i Oo m;have h1':=X.le (aM (Y2w (show i<=64 by exact Oo)) KC);have υ:Qn 1 4 (fG j λf=>if cC e.1 f=m then 1 else 0):=by
      have:=Qn.sumR (N:=1) (B:=1) (n:=j) (f:=λf=>if cC e.1 f=m then 1 else 0) λf _=>by
       split
       ·exact Qn.one' _
       ·exact YcW _
      exact this.le Oo
     have η:=qy.mul υ;rw[Nat.mul_one,<-aa]at η;refine(h1'.add η).le ?_;have:(2:Nat)^150+2^150*4<=2^155:=Kk;exact this
    generalize hX:cE F (es.take i) m+cE F es e.1*s0 e*(fG j λf=>if cC e.1 f=m then 1 else 0)=Xm at qX hg;have nX:Fn (vM 1 1) (2^155) (jS Xm):=(Y5T qX).fq;have nY:Fn (vM 1 1) (2^150) (jS (Y0b e.1*Yu)):=(Y5T qy).fq;refine⟨_,rfl,p,rfl,.inr ⟨U,.inl ξ⟩,_,rfl,_,pR.ct (c:=ci m) ξ (by rw[iG];exact α),Y3⟩;refine kK.i hg (iN.of (ω.flat t6 (Y2b))) (Y09) (Y09) (rB tQ nX (AI Dd)) (rB tQ nY (AI Dd)) λq7 H7 hq7 e7 s7=>?_;have ea:pL (jS Xm) (jS (Y0b e.1*Yu))=jS (Xm+Y0b e.1*Yu):=Y8C (BK (Y09) (Y09)) (by rw[wC (Y09).pos (Y09).pos,fD,fD,fD]);rw[ea]at e7;refine Y0F;have e7p:=s7 _ _ ξ;refine YcN e7p (ci m) (by rw[iG];exact s7 _ _ α) (λH8 e8 b8=>?_);have t8:dH H7 H8:=bB.tT b8 e7p;refine⟨_,_,rfl,(b6.trans s7.but).trans b8,e8,?_,?_⟩
    ·have:=kE U (Y2M m) (V.ref q7);exact Oo
    ·have D7:=D6.t s7.t;have D8:=(D7.put (c:=m) (v:=.ref q7) (y:=cE F es e.1*s0 e) (by rw[hX];exact .inl (dR e7))).t t8;refine D8.eq Y7g;rw[fA,<-τ];by_cases q:m=d
     ·rw[Y6h,Y6h];grind
     ·rw[Y3f,Y3f];grind
   ·rintro σ H6 ⟨o5',U,rfl,b6,ξ,l6,D6⟩;rw[ly]at l6 D6;refine⟨_,_,_,_,U,rfl,YcQ S5 b6,ξ,Oo,D6.eq Y7g⟩;rw[eU C,lI,δ];rfl
  ·have z0:Yu=0:=dP λq=>on (μ.mpr q);refine⟨_,_,_,_,g,rfl,S3,θ,Oo,D3.eq Y7g⟩;rw[eU C,lI,z0];grind
 ·rintro σ H3 ⟨o2,o3,o4,φ,g,rfl,S3,θ,l3,D3⟩;rw[lx,cZ]at D3;refine Y3P a (S3 _ _ ha) (mU (λi y H'=>∃(e:eJ) (b:Addr) (I Z:V),es[i]?=Y3S/\y=Y0E/\Y1q=Yl [I,Z]/\FT K H' (jS (Y0b e.1)) Z) (λi y H1 H2 s ⟨e,b,I,Z,X,h2,υ,η⟩=>⟨e,b,I,Z,X,h2,s _ _ υ,η.t s⟩) Oo (S3 _ _ ha) (λi x H' Q' hx ρ k'=>?_) (λD J H8 hD hD8 s8 hy8 hr8=>?_))
  ·obtain⟨e,C,re⟩:=cR ζ hx;have r:=aF C;obtain⟨b,u,z,rfl,hb,ru,rz⟩:=CY ((re.same S3).same ρ);obtain⟨I,rfl,O⟩:=gX ru;obtain⟨Z,β,S⟩:=D3.val (d:=e.1) (by have:=RL.posf r;grind);refine Y0i hb;refine Y6s hb;refine Yb6 (ρ _ _ θ) e.1 (by rw[iG];exact O) β (kM (by show 2<=64;decide) λq5 H5 hq5 e5 γ=>?_);exact k' _ H5 γ ⟨e,q5,_,Z,C,rfl,e5,(S.same ρ).same γ⟩
  ·refine Y4Q D J (Y5D hD8 Ych);have sl:=Y5u J hl;have el:(upd H8 l (.tup J)) l=Yl J:=bR;generalize upd H8 l (.tup J)=H9 at sl el;refine k l J H9 ((S3.trans s8).trans sl) el Oo λi e hi=>?_;obtain⟨y,hy⟩:∃y,J[i]?=Y00:=Y3d (by have:=(aT.mp hi).1;exact Oo);obtain⟨e',b,I,Z,X,rfl,υ,η⟩:=hr8 i y hy;rw[hi]at X;cases X;exact⟨b,I,Z,hy,sl _ _ υ,η.same sl⟩
end
abbrev aCy:Stmt:=(top 58)
def aAB:Yc ["trial","rule","way","found","entry","amount"] a15 aCy:={}
abbrev aB8:Stmt:=(top 59)
def aHb:Yc ["came","way"] ["came","way"] aB8:={}
abbrev aCc:Stmt:=(top 60)
def aFb:Yc ["trial","rule","way","came"] a15 aCc:={}
abbrev aB7:Stmt:=(top 61)
def aHa:Yc a27 a27 aB7:={}
def NZ(F:Nat)(es:Y0D)(s:Ak)(e:eJ):Fr:=jS (Y0b e.1*wq s e.1)
abbrev XC(x:eJ × Fr):PyData:=.tuple [gB x.1.1,jK x.1.2,eZ x.2]
def HY(x:eJ × Fr):cV (XC x)=true:=by show(cV (gB x.1.1)&&(Y6q x.1.2&&(cV (eZ x.2)&&true)))=true;rw[gT,fW];rfl
theorem HX:∀l:List (eJ × Fr),fM (l.map XC)=true
 | []=>rfl
 | x::l=>by show(cV (XC x)&&fM (l.map XC))=true;rw[HX l,HY];rfl
def came(F:Nat)(es:Y0D)(s:Ak):Y36 eJ Fr:=es.map λe=>(e,NZ F es s e)
def aBq{H:Hp}{x:eJ × Fr}{v:V}(h:Y0r (XC x) v):∃b u z y,v=Y0E/\H b=Yl [u,z,y]/\Y6n x.1.1 u/\Y23 x.1.2 z/\Y3v x.2 y:=by
 obtain⟨b,g,rfl,d,r⟩:=dF h;unfold aJ aJ aJ aJ at r;obtain⟨u,_,rfl,a,z,_,rfl,e,y,_,rfl,c,rfl⟩:=r;exact⟨b,u,z,y,rfl,d,a,e,c⟩
section
variable{F W M:Nat}{es:Y0D}{s:Ak}
def BN.aq(R:BN F W M es)(f4:F<=4)(hs:∀f∈s,Y3o){e:eJ}(h:e∈es):Qn (gD^(M+M)) (2^150) (Y0b e.1*wq s e.1):=by
 have a:=(R.fl f4 h).mul (RF (M:=M) hs (R.sum e h));rw[Nat.mul_one,<-Nat.pow_add]at a;exact a
def BN.aqs(R:BN F W M es)(f4:F<=4)(hs:∀f∈s,Y3o){e:eJ}(h:e∈es)(v:Nat):Qn (gD^(M+M+1)) (2^150) (Y0b e.1*wq s e.1*fO e.2 v):=by
 have a:=(R.aq f4 hs h).mul ((R.sy e h).qn v);rw[Nat.mul_one,<-Nat.pow_succ]at a;exact a
theorem Qn.sumL{α:Type}{N B:Nat}{f:Y4s}:∀{l:Yn},(∀a∈l,Qn N B (f a))->Qn N (l.length*B) (iR l f)
 | [],_=>by rw[lW];exact Qn.zero _ _
 | a::l,h=>by
  rw[eV,bM,Nat.add_mul,Nat.one_mul,Nat.add_comm];exact(h a (aG ..)).add (Qn.sumL λx hx=>h x (aQ _ hx))
def BN.said(R:BN F W M es)(f4:F<=4)(hs:∀f∈s,Y3o)(w:Nat):Qn (gD^(M+M+1)) (2^160) (CH F es (wq s) w):=by
 have h:=Qn.sumL (l:=es) λe a=>R.aqs f4 hs a (1+w);refine h.le ?_;have c:es.length*2^150<=64*2^150:=bS _ R.few;exact aM c Kk
def BN.spent(R:BN F W M es)(f4:F<=4)(hs:∀f∈s,Y3o){cs:Y1b}{Nc:Nat}(hc:∀e∈es,Yu≠0->Qn Nc 1000 (cs e.1.sum)):Qn (Nc*gD^(M+M+1)) (2^170) (lB F es (wq s) cs):=by
 have h:=Qn.sumL (l:=es) (N:=Nc*gD^(M+M+1)) (B:=1000*2^150) (f:=λe=>cs e.1.sum*(Y0b e.1*wq s e.1*Yu)) λe a=>by
  by_cases z:Yu=0
  ·rw[z,show cs e.1.sum*(cE F es e.1*wq s e.1*0)=0 by grind];exact YcW _
  ·exact(hc e a z).mul (R.aqs f4 hs a 0)
 refine h.le ?_;have c:es.length*(1000*2^150)<=64*(1000*2^150):=bS _ R.few;exact aM c Kk
end
theorem wZ{α:Type}{p:Y27 α}{f:Y4s}:∀{l:Yn},(∀a∈l,Y6 (p a)->f a=0)->iR (l.filter p) f=iR l f
 | [],_=>rfl
 | a::l,h=>by
  have ih:=wZ λx c=>h x (aQ a c);cases q:p a with
  | true=>rw[List.filter_cons_of_pos q,eV,eV,ih]
  | false=>rw[List.filter_cons_of_neg (by rw[q];decide),eV,ih,h a (aG ..) q];grind
def JE{α:Type}{l:Yn}{g:α->Fr}{f:Y4s}(h:∀a∈l,dM (g a)/\rv (g a)=f a):jP (l.map g)=jS (iR l f):=by
 have d:∀x∈l.map g,dM x:=λx e=>by
  obtain⟨a,c,rfl⟩:=aU.mp e;exact(h a c).1
 refine Y8C (uF _ d) ?_;rw[wA _ d,fD,List.map_map];exact congrArg sL (dD λa c=>(h a c).2)
def aBT(x y:Rat):pL (jS x) (wH (jS y))=jS (x-y):=kA (BK (Y09) (uZ (Y09))) (Y09) (by
 rw[wC (Y09).pos (uZ (Y09)).pos,show wH (jS y)=(-(jS y).1,(jS y).2)from rfl,JK,fD,fD,fD,Rat.sub_eq_add_neg])
inductive lF:Yi
 | i {H:Hp} {Q:VK} {E:XK} {t r:V} {es:Y0D} {F W M:Nat} {fs:Ah} {ws:Y0d} {i:Nat} {x:Y7G} (h1:Y40) (h2:Y0r (WY es) r) (h3:BN F W M es) (h4:1<=F) (h5:F<=4) (h6:M<=6) (h7:ws[i]?=Y9) (h8:∀f∈x.2,Y3o) (h9:BOk 10 x.2) (k:Y2Q (H D=none) (Y0k=Y08->Y2l ((came F es x.2).map XC) ys->Y0->Y1g)):lF [t,r,.int (i:Int)] H Q E
inductive pU:Yi
 | i {H:Hp} {Q:VK} {E:XK} {D:Addr} {ys:Al} {es:Y0D} {F W M w:Nat} {s:Ak} (h1:H D=Y08) (h2:Y15 ((came F es s).map XC) ys) (h3:BN F W M es) (h4:F<=4) (h5:M<=6) (h6:w<W) (h7:∀f∈s,Y3o) (k:∀v H',Y0->Y3r (jS (CH F es (wq s) w))->Y0Z):pU [.ref D,.int (w:Int)] H Q E
abbrev XA(e:eJ):Bool:=decide (Yu≠0)
abbrev onD(x:Nat × Fr):PyData:=Y0a (.int (x.1:Int)) (eZ x.2)
def onw(F:Nat)(es:Y0D)(s:Ak):Y36 Nat Fr:=(es.filter XA).map λe=>(e.1.sum,jS (Y0b e.1*wq s e.1*Yu))
inductive pV:Yi
 | i {H:Hp} {Q:VK} {E:XK} {t r:V} {es:Y0D} {F W M:Nat} {fs:Ah} {ws:Y0d} {i:Nat} {x:Y7G} (h1:Y40) (h2:Y0r (WY es) r) (h3:BN F W M es) (h4:1<=F) (h5:F<=4) (h6:M<=6) (h7:ws[i]?=Y9) (h8:∀f∈x.2,Y3o) (h9:BOk 10 x.2) (k:Y2Q (H D=none) (Y0k=Y08->Y2l ((onw F es x.2).map onD) ys->Y0->Y1g)):pV [t,r,.int (i:Int)] H Q E
structure CoC(Nc:Nat)(es:Y0D)(cs:Ak):Prop where
 c0:0<Nc
 c1:Yay Nc
 at_:∀f∈cs,Fn Nc 1000 f
 len:∀e∈es,Yu≠0->e.1.sum<cs.length
def CoC.qn{Nc:Nat}{es:Y0D}{cs:Ak}(h:CoC Nc es cs){e:eJ}(he:e∈es)(hs:Yu≠0):Qn Nc 1000 (fO cs e.1.sum):=(h.at_ _ (iF (a:=(0,1)) (h.len e he hs))).q
inductive uK:Yi
 | i {H:Hp} {Q:VK} {E:XK} {t r cv:V} {es:Y0D} {F W M Nc:Nat} {fs:Ah} {ws:Y0d} {i:Nat} {x:Y7G} {cs:Ak} (h1:Y40) (h2:Y0r (WY es) r) (h3:BN F W M es) (h4:1<=F) (h5:F<=4) (h6:M<=6) (h7:ws[i]?=Y9) (h8:∀f∈x.2,Y3o) (h9:BOk 10 x.2) (h10:Y23 cs cv) (h11:CoC Nc es cs) (k:∀v H',Y0->Y3r (jS (lB F es (wq x.2) (fO cs)))->Y0Z):uK [t,r,.int (i:Int),cv] H Q E
section
def aGu(F:Yb "comings" "comings" aCy)(T:Yd)(FQ24:Y1I "amounts" ["rule"] (pZ K))(FQ65:Y7l "times" K)(FQ69:Y1I "weight" a31 (mR K)):cX P w K mg base cN 4 f fd a15 lF:=by
 refine Y1k aAB;obtain @⟨H,Q,E,t,r,g,F,W,M,fs,ws,iw,x,rt,ω,RO,f1,φ,m6,hx,I,τ,k⟩:=h;refine Yh;intro cdv A κ s hr _;obtain⟨a,xs,rfl,Z,R⟩:=dF ω;have lx:Y2v g.length:=cQ R;have few:=RO.few;refine⟨_,(aI (Y11 aAB.nd (fV aH))
  (aI (eA PassesOwn.never rfl (yU true true rfl T.b_zip (Y5Y 1 (Y2N FQ24 1))) (tH rfl (Y7o 4 aAB.nd (Y7o 5 aAB.nd pT))) (aS (Y7p oO 3 (cD (aR (Y3A 4) (aR (Y3A 4) (Y1r (cB FQ65 (Y3A 5) (mK FQ69 (Yw) (aC 2) (Y3A 4))))))))))
  (Y3h 3))),?_⟩
 refine Yo;intro d_ n_;refine AN (by show 0<=64;decide) λL H1 ν ζ S=>Y0F;refine pZ.i (ω.same S) RO f1 φ m6 λam ys H2 m α ly k2=>Y1Y a am xs ys (m _ _ (S _ _ Z)) α ?_;refine ND (xs:=xs) (ys:=ys) (λi σ H'=>∃(γ η:An) (l:Al),σ=[some t,Y1y,Ym (iw:Int),Y4 L,γ,η]/\bB L H2 H'/\H' L=Y05 l/\Y2l (((came F g x.2).take i).map XC) l) (Y2q _ _ [] ((Yx).but) (m _ _ ζ) aJ.nil) (λi σ H' ⟨_,_,_,_,b',_⟩=>?_) ?_ ?_
 ·have na:a≠L:=λz=>by rw[z,ν]at Z;cases Z
  have ε:am≠L:=λz=>by rw[z,m _ _ ζ]at α;cases α
  exact⟨b'.at na (m _ _ (S _ _ Z)),b'.at ε α⟩
 ·rintro i y z q3 σ H3 H4 hy ρ ⟨γ,η,l,rfl,X,ο,D⟩ hq3 e4 U;obtain⟨e,ι,re⟩:=cR R hy;have G:=aF ι;have β:=X.t (m _ _ ζ);have B:=β.trans U.t;have N:=(S.trans m).t.trans B;obtain⟨b,u,v,rfl,μ,ru,ξ⟩:=CY (re.flat N (HN e));obtain⟨bz,cz,va,O,J,θ⟩:=k2 i e ι;rw[ρ]at O;cases O;have p:H4 L=Y05 l:=U _ _ ο;have lz:l.length<=64:=by
   rw[cQ D,bU];unfold came;rw[aA];exact Oo
  refine⟨q3,_,rfl,fS.of e4,rfl,_,_,rfl,_,_,rfl,rfl,Y2g⟩;intro d_;refine Y5b _ (OM p) _ (Y5X μ);refine Y0i μ;refine Y0i (B _ _ J);refine Y54 (Y5X μ);have δ:=RO.sum e G;refine mR.i (rt.flat N (lV fs ws)) hx ru τ Oo λxw H5 χ fw=>?_;have nA:Fn (vM 1 1) (2^150) (jS (cE F g e.1)):=(Y5T (RO.fl φ G)).fq;have j:dM (mW (x.2.zip e.1)):=oV _ λz ρ=>(I z.1 (List.of_mem_zip (a:=z.1) (b:=z.2) ρ).1).low;have nW:Fn (vM 1 1) 1 (mW (x.2.zip e.1)):=Qn.f j (Y5T (RF (M:=M) I δ));refine dW.i ((θ.t B).same χ).v fw.v (Y09) j (rB tQ nA (AI Dd)) (Yau tQ nW) λq6 H6 hq6 υ s6=>?_;have em:kH (jS (cE F g e.1)) (mW (x.2.zip e.1))=NZ F g x.2 e:=Y8C (iS (Y09) j) (by rw[jM (Y09).pos j.pos,fD];unfold NZ;rw[fD];rfl);rw[em]at υ;refine kM (by show 3<=64;decide) λq7 H7 hq7 e7 ψ=>?_;have d:=(χ.trans s6).trans ψ;refine BS (d _ _ p) Oo λH8 e8 b8=>?_;have C:=b8.t (d _ _ p);refine Y2q _ _ (l++[.ref q7]) ((X.trans (U.trans d).but).trans b8) e8 ?_;have ec:(came F g x.2)[i]?=some (e,NZ F g x.2 e):=by unfold came;rw[aX,ι];rfl
  rw[eU ec,bN];refine YcP ((U.trans d).t.trans C) (HX _) D C (HY _) (Y9i e7 (ru.same d) (Y6M (ξ.same d) (dR (ψ _ _ υ))))
 ·rintro σ H3 ⟨γ,η,l,rfl,X,ο,D⟩;refine Y3;have hc:(came F g x.2).take (YaJ)=came F g x.2:=List.take_of_length_le (by unfold came;rw[aA];exact Oo);rw[hc]at D;exact k L l H3 ν ο D (aV.thru ν (S.trans m) X)
def aF2(F:Yb "said_of" "said_of" aB8)(T:Yd)(FQ66:Y1I "total" ["some"] (iY K))(FQ65:Y7l "times" K):cX P w K mg base cN 4 f fd ["came","way"] pU:=by
 refine Y1k aHb;obtain @⟨H,Q,E,D,ys,d,F,W,M,j,s,β,R,RO,X,m6,hw,m,k⟩:=h;refine Yh;intro ζ A I s9 hr _;have few:=RO.few;refine Y1e (eB FQ66 (BV (dQ.o a34 ["counts","says","share","way"] [1]) (fX (Yw)) (Y6I) (λ_ _ _ _=>(Y1O FQ65 2 (Y5j 1 (Y1U eE aE 3)))))) ?_;refine Y5P D β (wM (as:=came F d s) (YeJ) (λx v=>Y0r (XC x) v) (λx y H'=>Y2f (jS (cE F d x.1.1*wq s x.1.1*fO x.1.2 (1+j))) y) (Yfg s Y2b) (by unfold came;rw[aA];exact Oo) β (Paired.ofRepL R) (λv x H' δ γ η=>?_) (λL zs H2 hL ψ ρ S=>?_))
 ·obtain⟨e,B,rfl⟩:=aU.mp δ;obtain⟨b,u,z,y,rfl,ξ,ru,ν,χ⟩:=aBq (γ.same η);refine⟨b,[u,z,y],rfl,fS.of ξ,rfl,λQ' h=>h H' (Yx),λH5 Q' Z _ τ=>?_⟩;obtain⟨az,vz,rfl,C,N⟩:=jB (ν.same Z);have p:=RO.sy e B;obtain⟨g,O⟩:∃g,e.2[1+j]?=Y8T:=Y3d (by rw[p.len];exact Oo);obtain⟨vg,G,J⟩:=iE N O;have l:=(p.at_ g (aF O)).1;refine⟨_,rfl,_,rfl,_,rfl,_,_,rfl,rfl,gU C (by have:=dL G;rwa [show((1+j:Nat):Int)=1+(j:Int)by exact Oo]at this) ?_⟩;have μ:Fn (vM 1 1) (2^150) (NZ F d s e):=(Y5T (RO.aq X m B)).fq;have ω:Fn (vM 1 1) 1 g:=Qn.f l.low (EN l.q (by have:=Yd8 1 1 1;rwa [Nat.pow_one]at this));refine Y9L (χ.same Z) (iN.of J) Y09 l.low (rB tQ μ (AI Dd)) (Yau tQ ω) (λq6 H6 φ ε ο=>τ _ H6 ο (dR ?_));have θ:kH (NZ F d s e) g=jS (cE F d e.1*wq s e.1*fO e.2 (1+j)):=Y8C (iS (Y09) l.low) (by rw[jM (f:=NZ F d s e) (Y09).pos l.low.pos,vT O];unfold NZ;rw[fD,fD]);rw[<-θ];exact ε
 ·rw[BC]at S;have α:=AH (g:=λx:eJ × Fr=>jS (cE F d x.1.1*wq s x.1.1*fO x.1.2 (1+j))) S;have υ:(came F d s).map (λx:eJ × Fr=>jS (cE F d x.1.1*wq s x.1.1*fO x.1.2 (1+j)))=d.map λe=>jS (cE F d e.1*wq s e.1*fO e.2 (1+j)):=by unfold came;rw[List.map_map];rfl
  rw[υ]at α;have fl:∀f∈d.map (λe=>jS (cE F d e.1*wq s e.1*fO e.2 (1+j))),Fn (vM 1 1) (2^150) f:=λf κ=>by
   obtain⟨e,B,rfl⟩:=aU.mp κ;exact(Y5T (RO.aqs X m B _)).fq
  refine Y9V ψ α (pQ fl tQ.big.1 (Y4j tQ.big.2) (by rw[aA];exact few) (Y5x)) (λv H3 ι U=>?_);rw[JE (f:=λe:eJ=>cE F d e.1*wq s e.1*fO e.2 (1+j)) λe _=>⟨Y09,fD _⟩]at U;exact k v H3 (ρ.trans ι) U
def aF6(F:Yb "onwards" "onwards" aCc)(T:Yd)(FQ34:Y0K 4 "comings" a15 lF)(FQ65:Y7l "times" K)(FQ54:Yv "looks_on" ["says"] iK):cX P w K mg base cN 5 f fd a15 pV:=by
 refine Y1k aFb;obtain @⟨H,Q,E,t,r,d,F,W,M,fs,ws,iw,x,φ,ρ,RO,χ,β,m6,ι,p,X,k⟩:=h;refine Yh;intro μ A R s hr _;have few:=RO.few;refine⟨_,(aI (Y11 aFb.nd (mK FQ34 Yw Y0f (aC 2)))
  (Y0R (BV (dQ.o a34 a34 []) (fX (Y1j)) (λ_ _ _ _=>LD (dX (Y2N FQ54 1))) (λ_ _ _ _=>(Y2L (cT (yK K rfl) (by rfl) T.b_sum Kk (Y2r 0)) (Y1O FQ65 2 (Y5j 1 aE))))))),?_⟩
 refine Yo;intro d_ n_;refine Y1H;refine lF.i φ ρ RO χ β m6 ι p X λD ys H1 hD G υ θ=>Y5P D G (wM (as:=came F d x.2) (λy=>XA y.1) (λy v=>bL H1 (XC y) v) (λy v H'=>Y4x (onD (y.1.1.sum,jS (cE F d y.1.1*wq x.2 y.1.1*s0 y.1))) v) (Yfg s rfl) (by unfold came;rw[aA];exact Oo) G (Paired.ofRepL υ) (λv y H' hy S ξ=>?_) (λL α H2 hL e2 s2 ν=>?_))
 ·obtain⟨e,ε,rfl⟩:=aU.mp hy;obtain⟨b,u,z,y,rfl,hb,ru,ζ,S⟩:=aBq (S.same ξ);obtain⟨l,fr,η,g,nn0,κ,m⟩:=(RO.sy e ε).hd;have Z:Yu=rv l:=κ;refine⟨b,[u,z,y],rfl,fS.of hb,rfl,λQ' h=>?_,λH5 Q' N hp k'=>?_⟩
  ·refine Y1 (iK.i (f:=l) (fs:=fr) (by rw[<-η];exact ζ) ?_);refine Y3;have G:Y2A 0 l.1=XA e:=by
    by_cases q:0<l.1
    ·rw[bH q];exact(bH (m.mp q)).symm
    ·rw[bP q];exact(bP λz=>q (m.mpr z)).symm
   rw[G];exact h H' (Yx)
  ·obtain⟨cu,rfl,I⟩:=gX (ru.same N);obtain⟨az,vz,rfl,J,B⟩:=jB (ζ.same N);rw[η]at B;obtain⟨y0,O,U⟩:=aJ.atX (i:=0) B rfl;refine Y1 (YeA (ci e.1) (by rw[iG];exact fS.of I));rw[FK];refine Y06 (Y8c J 0 O ?_);have ω:Fn (vM 1 1) (2^150) (NZ F d x.2 e):=(Y5T (RO.aq β p ε)).fq;have n2:Fn (vM 1 1) 1 l:=Qn.f g.low (EN g.q (by have:=Yd8 1 1 1;rwa [Nat.pow_one]at this));refine Y9L (S.same N) (iN.of U) Y09 g.low (rB tQ ω (AI Dd)) (Yau tQ n2) (λο H6 hq6 C s6=>?_);have τ:kH (NZ F d x.2 e) l=jS (cE F d e.1*wq x.2 e.1*Yu):=Y8C (iS (Y09) g.low) (by rw[jM (f:=NZ F d x.2 e) (Y09).pos g.low.pos,Z];unfold NZ;rw[fD,fD]);have C:H6 ο=Yl [.int (kH (NZ F d x.2 e) l).1,.int (kH (NZ F d x.2 e) l).2]:=C;rw[τ]at C;exact kM (by show 2<=64;decide) λq7 H7 ψ e7 γ=>k' _ H7 (s6.trans γ) (Y6Q e7 Yas (dR (γ _ _ C)))
 ·refine k L α H2 (θ.free hL) e2 ?_ (θ.trans s2);have δ:aJ H2 (((came F d x.2).filter λy=>XA y.1).map λy=>onD (y.1.1.sum,jS (cE F d y.1.1*wq x.2 y.1.1*s0 y.1))) α:=Paired.toRepL ν;have e3:((came F d x.2).filter λy=>XA y.1).map (λy=>onD (y.1.1.sum,jS (cE F d y.1.1*wq x.2 y.1.1*s0 y.1)))=(onw F d x.2).map onD:=by
   unfold came onw;rw[List.filter_map,List.map_map,List.map_map];rfl
  rw[e3]at δ;exact δ
def aF1(F:Yb "spent" "spent" aB7)(T:Yd)(FQ66:Y1I "total" ["some"] (iY K))(FQ65:Y7l "times" K)(FQ58:Y0K 5 "onwards" a15 pV):cX P w K mg base cN 6 f fd a27 uK:=by
 refine Y1k aHa;obtain @⟨H,Q,E,t,r,cv,a,F,W,M,I,fs,ws,iw,x,j,χ,τ,RO,ω,N,m6,ν,l,η,θ,C,k⟩:=h;refine Yh;intro ο A α s hr _;have few:=RO.few;have ok:QY 1 I:=⟨Dd,Dd,C.c0,C.c1⟩;obtain⟨ac,vc,rfl,ζ,γ⟩:=jB θ;refine Y1e (eB FQ66 (vS (dQ.o ["looks","share"] ["looks","share","costs"] [3]) (fX (mK FQ58 Yw Y0f (aC 2))) (Y6I) (λ_ _ _ _=>(cB FQ65 (Y5j 2 Yw) (Y0f))))) ?_;refine Y1H;refine pV.i χ τ RO ω N m6 ν l η λD ys H1 hD μ S ι=>Y0X D (Y7Z μ) ?_;have X:aJ H1 ((a.filter XA).map λe=>onD (e.1.sum,jS (cE F a e.1*wq x.2 e.1*Yu))) ys:=by unfold onw at S;rw[List.map_map]at S;exact S
 have ρ:=List.length_filter_le XA a;refine wM (as:=a.filter XA) (YeJ) (λe v=>bL H1 (onD (e.1.sum,jS (cE F a e.1*wq x.2 e.1*Yu))) v) (λe v H'=>Y3r (jS (fO j e.1.sum*(cE F a e.1*wq x.2 e.1*Yu)))) (Yfg s Y2b) Oo μ (Paired.ofRepL X) (λv e H' G re R=>?_) (λL zs H2 hL e2 s2 κ=>?_)
 ·obtain⟨d,m⟩:=gZ.mp G;have β:Yu≠0:=of_decide_eq_true m;obtain⟨b,us,rfl,hb,Z⟩:=dF (re.same R);obtain⟨u,y,rfl,ru,ry⟩:=iU Z;cases(show u=V.int (e.1.sum:Nat)from ru);refine⟨b,_,rfl,fS.of hb,rfl,λQ' h=>h H' (Yx),λH5 Q' O _ k'=>?_⟩;have p:=C.len e d β;obtain⟨g,ε⟩:∃g,j[e.1.sum]?=Y8T:=Y3d p;obtain⟨vg,U,δ⟩:=iE γ ε;have B:=C.at_ g (aF ε);refine Y06 (Y5W ((ι.trans R).trans O _ _ ζ) U);refine Y3;have n1:Fn (vM 1 I) 1000 g:=Qn.f B.low (EN B.q ⟨gD^15,by unfold vM;ac_rfl⟩);have n2:Fn (vM 1 I) (2^150) (jS (cE F a e.1*wq x.2 e.1*Yu)):=(Y5T (RO.aqs N l d 0)).fq;refine Y9L (δ.same ((ι.trans R).trans O)) (iN.of (ry.same O)) B.low Y09 (rB ok n1 (aM (show 1000<=2^10 by decide) (AI Dd))) (rB ok n2 (AI Dd)) (λq6 H6 hq6 ξ s6=>k' _ H6 s6 (dR ?_));have φ:kH g (jS (cE F a e.1*wq x.2 e.1*Yu))=jS (fO j e.1.sum*(cE F a e.1*wq x.2 e.1*Yu)):=Y8C (iS B.low (Y09)) (by rw[jM B.low.pos (Y09).pos,fD,fD,vT ε]);rw[ξ,φ]
 ·rw[BC]at κ;have υ:=AH (g:=λe:eJ=>jS (fO j e.1.sum*(cE F a e.1*wq x.2 e.1*Yu))) κ;have fl:∀f∈(a.filter XA).map (λe=>jS (fO j e.1.sum*(cE F a e.1*wq x.2 e.1*s0 e))),Fn (vM 1 I) (2^160) f:=λf hf=>by
   obtain⟨e,G,rfl⟩:=aU.mp hf;obtain⟨d,m⟩:=gZ.mp G;have h:=(C.qn d (of_decide_eq_true m)).mul (RO.aqs N l d 0);exact(EN (h.le (show 1000*2^150<=2^160 by decide +kernel)) (aDT Oo)).fq
  refine Y9V e2 υ (pQ fl ok.big.1 (Y4j ok.big.2) (by rw[aA];exact Oo) (Y5x)) (λv H3 ψ J=>?_);rw[JE (f:=λe:eJ=>fO j e.1.sum*(cE F a e.1*wq x.2 e.1*Yu)) λe _=>⟨Y09,fD _⟩]at J;have ef:iR (a.filter XA) (λe:eJ=>fO j e.1.sum*(cE F a e.1*wq x.2 e.1*Yu))=lB F a (wq x.2) (fO j):=by
   unfold lB;exact wZ λe _ G=>by rw[Classical.not_not.mp (of_decide_eq_false G)];grind
  rw[ef]at J;exact k v H3 ((ι.trans s2).trans ψ) J
end
abbrev aBZ:Stmt:=(top 62)
def aDW:Yc ["trial","rule","found","way"] ["trial","rule"] aBZ:={}
abbrev aCw:Stmt:=(top 63)
def aFc:Yc ["trial","rule","aim","mix"] a37 aCw:={}
structure TrQ(W:Nat)(ws:Y0d):Prop where
 w:YcR W
 sh:∀x∈ws,∀f∈x.2,Y3o
 b:∀x∈ws,BOk 10 x.2
def EM{ws:Y0d}{i:Nat}{x:Y7G}(h:ws[i]?=Y9):qW (Y1x) i=wq x.2:=by
 funext c
 unfold qW;rw[mP (show(nQ ws)[i]?=some x.2 by rw[aX,h];rfl)]
def wrF(F W:Nat)(es:Y0D)(ss:Aj)(w:Nat):Fr:=jS (1-CH F es (qW ss w) w)
inductive uJ:Yi
 | i {H:Hp} {Q:VK} {E:XK} {t r:V} {es:Y0D} {F W M:Nat} {fs:Ah} {ws:Y0d} (h1:Y40) (h2:Y0r (WY es) r) (h3:BN F W M es) (h4:1<=F) (h5:F<=4) (h6:M<=6) (h7:W<=4) (h8:TrQ W ws) (k:∀v H',Y0->Y4x (jK ((List.range W).map (wrF F W es (Y1x)))) v->Y0Z):uJ [t,r] H Q E
structure aEd(Nc W M:Nat)(es:Y0D)(mix cs:Ak):Prop where
 ml:mix.length=W
 mx:∀f∈mix,Y3o
 co:CoC Nc es cs
inductive xY:Yi
 | i {H:Hp} {Q:VK} {E:XK} {t r av:V} {es:Y0D} {F W M A Nc:Nat} {fs:Ah} {ws:Y0d} {bs mix cs:Ak} (h1:Y40) (h2:Y0r (WY es) r) (h0:Y5f A) (h3:BN F W M es) (h4:1<=F) (h5:F<=4) (h6:M<=6) (h7:W<=4) (h8:TrQ W ws) (h9:aEd Nc W M es mix cs) (k:∀v H',Y0->Y3r (jS (aE8 F W es (qW (Y1x)) (Y8Y) (fO cs)))->Y0Z):xY [t,r,av] H Q E
section
variable{F W M Nc:Nat}{es:Y0D}{fs:Ah}{ws:Y0d}{mix cs:Ak}
def BN.wr(R:BN F W M es)(f4:F<=4)(T:TrQ W ws){w:Nat}(hw:w<W):Qn (gD^(M+M+1)) (2^161) (1-CH F es (qW (Y1x) w) w):=by
 obtain⟨x,a⟩:∃x,ws[w]?=Y9:=Y3d (by rw[T.w];exact hw);rw[EM a];have h:=(Qn.one' (gD^(M+M+1))).sub (R.said f4 (T.sh x (aF a)) w);exact h.le Kk
def BN.ms(R:BN F W M es)(f4:F<=4)(T:TrQ W ws)(A:aEd Nc W M es mix cs){w:Nat}(hw:w<W):Qn (Nc*gD^(M+M+2)) (2^170) (fO mix w*lB F es (qW (Y1x) w) (fO cs)):=by
 obtain⟨x,c⟩:∃x,ws[w]?=Y9:=Y3d (by rw[T.w];exact hw);rw[EM c];have h:=(A.mx _ (iF (a:=(0,1)) (show w<mix.length by rw[A.ml];exact hw))).q.mul (R.spent f4 (T.sh x (aF c)) λe d hs=>A.co.qn d hs);rw[Nat.one_mul]at h;exact h.dvd ⟨1,by rw[Nat.mul_one,Nat.pow_succ (n:=gD) (m:=M+M+1)];ac_rfl⟩
end
section
def aFT(F:Yb "wrong" "wrong" aBZ)(T:Yd)(FQ68:Yv "ways_of" a28 gG)(FQ52:Y1I "less" a00 (lX K))(FQ62:Y0K 4 "said_of" ["came","way"] pU)(FQ34:Y0K 4 "comings" a15 lF):cX P w K mg base cN 5 f fd ["trial","rule"] uJ:=by
 refine Y1k aDW;obtain @⟨H,Q,E,t,r,g,F,W,M,fs,B,S,μ,RO,ο,y,γ,ω,TQ,k⟩:=h;refine Yh;intro θ A G s hr _;refine⟨_,(aI (Y2t aDW.nd (fV aH))
  (aI (Y2z (Y5w (Y3q FQ68)) 3 aDW.nd (Y7p oO 2 (cB FQ52 (Y2T c.ONE T.g_ONE) (cB FQ62 (mK FQ34 Yw Y0f (aC 3)) (Y1j)))))
  (Y0R (mL eG (by rfl) T.b_tuple Kk (Y2r 2))))),?_⟩
 refine Yo;intro Z ρ;refine AN (by show 0<=64;decide) λL H1 τ X p=>Ys;intro Z ρ;refine Y1 (gG.i (S.same p) ?_);rw[TQ.w];refine Y3N _ Oo Oo ?_;rw[Int.toNat_natCast];refine Y9s (Ex2 λ(C:An) (a:Al)=>An4 (σ=[some t,some r,Y4 L,C]) (bB L H1 H') (H' L=Y05 a) (Y2l (((List.range i).map (wrF F W g (nQ B))).map eZ) a)) (Y4y _ [] ((Yx).but) X aJ.nil) ?_ ?_
 ·rintro i σ H2 R ⟨C,a,rfl,m,e,j⟩;refine Y22;intro Z;obtain⟨x,u⟩:∃x,B[i]?=Y9:=Y3d (by rw[TQ.w];exact R);have d:=aF u;have N:Y7v:=m.t X;rw[show(0:Int)+(i:Int)=(i:Int)by exact Oo];refine⟨_,rfl,OM e,_,rfl,_,rfl,_,rfl,?_⟩;refine lF.i ((S.same p).flat N (lV _ _)) ((μ.same p).flat N (TH _)) RO ο y γ u (TQ.sh x d) (TQ.b x d) λD ys H3 hD φ ι ν=>Y3;refine pU.i φ ι RO y γ R (TQ.sh x d) λv4 H4 η χ=>?_;have υ:Fn (vM 1 1) (2^160) (jS (CH F g (wq x.2) i)):=(Y5T (RO.said y (TQ.sh x d) i)).fq;have I:iN K H4 (1,1) (.ref c.ONE):=Y0Q c.ONE (uI T.o_ONE);refine lX.i I (iN.of χ) aAb (Y09) (Yau tQ (Fn.one _)) (rB tQ υ (AI Dd)) λq5 H5 δ α κ=>?_;have ξ:pL (1,1) (wH (jS (CH F g (wq x.2) i)))=wrF F W g (nQ B) i:=by
   unfold wrF;rw[EM u,<-NC,aBT]
  rw[ξ]at α;have S5:=(ν.trans η).trans κ;have ψ:a.length=i:=by rw[j.len,aA,aA,bG]
  refine BS (S5 _ _ e) Oo λH6 ζ β=>?_;have U:=β.t (S5 _ _ e);refine Y4y _ _ ((m.trans S5.but).trans β) ζ ?_;rw[List.range_succ,bN,bN];exact YcP (S5.t.trans U) (jR _) j U Y2b (dR α)
 ·rintro σ H2 ⟨C,a,rfl,m,e,j⟩;refine Y5b _ L a (Y5D e (λl ε=>?_));have J:=Y5u a ε;have O:(upd H2 l (.tup a)) l=Yl a:=bR;generalize upd H2 l (.tup a)=H3 at J O;exact k _ H3 ((aV.thru τ p m).trans J) (bL.tup O (j.same J))
def aGs(F:Yb "cost" "cost" aCw)(T:Yd)(FQ68:Yv "ways_of" a28 gG)(FQ66:Y1I "total" ["some"] (iY K))(FQ65:Y7l "times" K)(FQ63:Y0K 6 "spent" a27 uK):cX P w K mg base cN 7 f fd a37 xY:=by
 refine Y1k aFc;obtain @⟨H,Q,E,t,r,av,j,F,W,M,A,Nc,fs,B,bs,d,l,δ,θ,ra,RO,ξ,L,m6,w4,TQ,AQ,k⟩:=h;refine Yh;intro ζ A U s hr _;have ok:QY 1 Nc:=⟨Dd,Dd,AQ.co.c0,AQ.co.c1⟩;obtain⟨aa,xb,xm,xc,rfl,C,η,β,Z⟩:=rV ra;obtain⟨am,vm,rfl,J,S⟩:=jB β;refine⟨_,(aI (Y6C 3 aFc.nd Y31)
  (Y0R (eB FQ66 (Y7V ["way","trial","rule","aim","mix"] [0,1,2,3] (Y5w (Y3q FQ68)) (cB FQ65 (Y5j 4 Yw) (aEu FQ63 (Y0f) (aC 2) (Yw) (Y5j 3 aE))))))),?_⟩
 refine Yo;intro d_ n_;refine Y0i C;refine Y1 (gG.i δ ?_);rw[TQ.w];refine Y3N _ Oo Oo (Y9x (i<W/\Y2f (jS (fO d i*lB F j (qW (nQ B) i) (fO l))) y) (λi y H1 H2 s ⟨χ,φ⟩=>⟨χ,φ.flat s (Y2b)⟩) Oo (λi H' Q' u p ψ=>?_) (λD τ H1 hD ν s1 hy O=>?_))
 ·have u:i<W:=Oo;obtain⟨x,I⟩:∃x,B[i]?=Y9:=Y3d (by rw[TQ.w];exact u);have m:=aF I;obtain⟨g,α⟩:∃g,d[i]?=Y8T:=Y3d (by rw[AQ.ml];exact u);obtain⟨vg,N,X⟩:=iE S α;have G:=AQ.mx g (aF α);rw[Int.zero_add];refine Y06 (Y5W (p _ _ J) N);refine Y5l _ _ _ rfl _ rfl (Y5X (p _ _ C));refine uK.i (δ.same p) (θ.same p) RO ξ L m6 I (TQ.sh x m) (TQ.b x m) (Z.same p) AQ.co λv2 H2 ε ι=>?_;have υ:Fn (vM 1 Nc) 1 g:=Qn.f G.low (EN G.q (by have:=Yd8 1 Nc 1;rwa [Nat.pow_one]at this));have n2:Fn (vM 1 Nc) (2^170) (jS (lB F j (wq x.2) (fO l))):=(EN (RO.spent L (TQ.sh x m) λe ο hs=>AQ.co.qn ο hs) (aDT Oo)).fq;refine Y9L ((X.same p).same ε) (iN.of ι) G.low Y09 (Yau ok υ) (rB ok n2 (AI Dd)) (λq3 H3 hq3 ω R=>ψ _ H3 (ε.trans R) ⟨u,dR ?_⟩);have κ:kH g (jS (lB F j (wq x.2) (fO l)))=jS (fO d i*lB F j (qW (nQ B) i) (fO l)):=Y8C (iS G.low (Y09)) (by rw[jM G.low.pos (Y09).pos,fD,fD,vT α,EM I]);rw[ω,κ]
 have μ:aJ H1 (((List.range W).map λi=>jS (fO d i*lB F j (qW (nQ B) i) (fO l))).map eZ) τ:=YaK O;have fl:∀f∈(List.range W).map (λi=>jS (fO d i*lB F j (qW (nQ B) i) (fO l))),Fn (vM 1 Nc) (2^170) f:=λf ρ=>by
  obtain⟨i,u,rfl⟩:=aU.mp ρ;exact(EN (RO.ms L TQ AQ (bX.mp u)) (aDT Oo)).fq
 refine Y9V ν μ (pQ fl ok.big.1 (Y4j ok.big.2) (by rw[aA,bG];exact Oo) (Y5x)) (λv H3 R γ=>?_);rw[JE (f:=λi=>fO d i*lB F j (qW (nQ B) i) (fO l)) λe _=>⟨Y09,fD _⟩]at γ;exact k v H3 (s1.trans R) γ
end
abbrev aCB:Stmt:=(top 73)
def aHv:Yc a39 a39 aCB:={}
inductive nC (K:Aa):Yi
 | i {H:Hp} {Q:VK} {E:XK} {av pv:V} {M:Nat} {bs mix cs ps:Ak} {N:Nat} (h1:Y5f M) (h2:Y23 ps pv) (h3:Y9N bs.length) (h4:bs.length<=4) (h5:0<N) (h6:N<=2^1000) (h7:∀f∈ps,Fn N (2^150) f) (h8:∀f∈bs,Fn N 1 f) (k:∀v g H',Y0->Y3r g->Fn (N*N) (2^152) g->rv g=Y8O bs.length (fO ps i*fO bs i)->Y0Z):nC K [av,pv] H Q E
section
def aGx(F:Yb "bounds_priced" "bounds_priced" aCB)(T:Yd)(FQ65:Y7l "times" K)(FQ66:Y1I "total" ["some"] (iY K)):cX P w K mg base cN 4 f fd a39 (nC K):=by
 refine Y1k aHv;obtain @⟨H,Q,E,av,pv,M,bs,ι,cs,J,N,ra,υ,lp,l4,G,X,ψ,hb,k⟩:=h;refine Yh;intro ν A W s hr _;obtain⟨aa,xb,xm,xc,rfl,S,O,rxm,χ⟩:=rV ra;obtain⟨θ,I,rfl,e,m⟩:=jB O;obtain⟨ο,β,rfl,j,u⟩:=jB υ;have lvb:I.length=bs.length:=cQ m;have lvp:β.length=J.length:=cQ u;have η:N<2^3000:=bK X (Y6N Dd);refine Y1e (eB FQ66 (vS (dQ.o ["price","bound"] ["price","bound"] []) (yU true true rfl T.b_zip (Y5Y 1 Y0G)) (Y6I) (YdR FQ65 0 1))) ?_;refine Y6s S;refine Y1Y ο θ β I j e (wL (b1:=true) (b2:=true) (xs:=β) (ys:=I) (λi y H'=>∃g:Fr,Y2f g y/\Fn (N*N) (2^150*1) g/\rv g=fO J i*fO bs i) (λi y Ha Hb s ⟨x,h1,ω⟩=>⟨x,h1.flat s (cU x),ω⟩) Oo j e Oo (λi x y H' Q' κ hy δ k'=>?_) (λD us Hk hD ek μ ρ Z=>?_))
 ·obtain⟨a,ζ,L⟩:=cR u κ;obtain⟨b,r,U⟩:=cR m hy;have B:=ψ a (aF ζ);have C:=hb b (aF r);refine Y0F;exact Y9L (L.same δ) (iN.of (U.same δ)) B.low C.low (oS B G η (Y5x)) (Ydi C G η) (λq1 H1 hq1 τ s1=>k' _ H1 s1 ⟨_,dR τ,B.mul C,by rw[jM B.low.pos C.low.pos,vT ζ,vT r]⟩)
 obtain⟨p,lgs,R,d⟩:=NB (P:=λi g=>Fn (N*N) (2^150*1) g/\rv g=fO J i*fO bs i) Z;have lg:p.length=bs.length:=Oo;have γ:∀g∈p,Fn (N*N) (2^150) g:=λg α=>by
  obtain⟨i,ε⟩:=List.getElem?_of_mem α;exact(d i g ε).1
 have φ:N*N<2^3000:=bK (Nat.mul_le_mul X X) (by rw[<-Nat.pow_add];exact Y6N Dd);refine Y9V ek R (pQ γ (gE G G) φ Oo (Y5x)) (λv H2 s2 ξ=>k v _ H2 (μ.trans s2) ξ ((Fn.tot p γ).le (by rw[show(2:Nat)^152=4*2^150 by rw[show(152:Nat)=2+150 from rfl,Nat.pow_add]];exact bS _ Oo)) ?_);rw[wA p λg α=>(γ g α).low,YB,lg];exact fL λi ε=>by
  have h:=aD (l:=p) (i:=i) Oo;rw[vT h,(d i _ h).2]
end
abbrev aCv:Stmt:=(top 53)
def aAA:Yc ["level","table","found","counts","more"] ["level","table"] aCv:={}
abbrev aCu:Stmt:=(top 52)
def aAz:Yc ["faces","table","found","level"] ["faces","table"] aCu:={}
def sR.butL{H H':Hp}{x:Addr}{xs:Al}{a:Addr}{cs:Ab}(s:bB x H H')(hx:H x=Y0y)(n:a≠x)(h:sR H a cs):sR H' a cs:=by
 obtain⟨e,c,d⟩:=h;exact⟨e,s.at n c,d.flat (s.t hx) (lQ _)⟩
def dgI{H:Hp}{p b:Addr}{kvs:Y04}{cc:Ae}(e:H p=Y25)(hb:H b=Yl (cc.map NT)):pR H p (Y0E) (Y6a cc):=.inr ⟨kvs,Y2M cc,b,.inl e,rfl,by rw[AX,iG];exact hb,rfl⟩
section
variable{F W M:Nat}{best:Ae->Nat}
def lvl(F:Nat)(best:Ae->Nat):Nat->Ab
 | 0=>[List.replicate F 0]
 | k+1=>(cta F (k+1)).filter λd=>(lvl F best k).any λc=>best c == 0&&(List.range F).any λj=>d == cC c j
def oJ(hF:1<=F):∀k,(lvl F best k).Sublist (Y4J k)
 | 0=>by unfold lvl;rw[vG F hF];exact List.Sublist.refl _
 | k+1=>by unfold lvl;exact List.filter_sublist
def oI(hF:1<=F){k:Nat}{d:Ae}:d∈Y7n F (k+1) ↔ ∃c∈lvl F best k,best c=0/\∃j,j<F/\d=cC c j:=by
 have g:d∈Y7n F (k+1)↔d∈cta F (k+1)/\∃c∈lvl F best k,best c=0/\∃j,j<F/\d=cC c j:=by
  show d∈List.filter _ _↔_;rw[gZ];simp
 rw[g];refine Yaa (λh=>h.2) ⟨?_,h⟩;obtain⟨c,i,_,j,a,e⟩:=h;exact(vH hF).mpr ⟨c,(oJ hF k).subset i,j,a,e⟩
def WZ(F M:Nat)(best:Ae->Nat):Ab:=(List.range (M+1)).flatMap (lvl F best)
theorem HK{α:Type}{f g:Nat->Yn}(h:∀k,(f k).Sublist (g k)):∀l:Ae,(l.flatMap f).Sublist (l.flatMap g)
 | []=>List.Sublist.refl _
 | a::l=>by rw[List.flatMap_cons,List.flatMap_cons];exact(h a).append (HK h l)
def MQ{c:Ae}:c∈WZ F M best ↔ ∃k,k<=M/\c∈Y7n F k:=by
 unfold WZ;rw[List.mem_flatMap];constructor
 ·rintro⟨k,a,h⟩;exact⟨k,by have:=Y8G;exact Oo,h⟩
 ·rintro⟨k,a,h⟩;exact⟨k,bX.mpr Oo,h⟩
def TK(hF:1<=F)(on:∀c,best c=0->Y43){c:Ae}(hc:c∈WZ F M best)(h:best c=0){j:Nat}(hj:j<F):cC c j∈WZ F M best:=by
 obtain⟨k,d,a⟩:=MQ.mp hc;have g:=(iC ((oJ hF k).subset a)).2;have e:=on c h;exact MQ.mpr ⟨k+1,Oo,(oI hF).mpr ⟨c,a,h,j,hj,rfl⟩⟩
def TJ:∃r,WZ F M best=Y0e::r:=by
 unfold WZ;rw[List.range_succ_eq_map,List.flatMap_cons];exact Y1E
end
structure aD3(F M:Nat)(best:Ae->Nat):Prop where
 f1:1<=F
 f4:F<=4
 m5:M<=5
 on:∀c,best c=0->Y43
def TbP(H:Hp)(d:Addr)(F:Nat)(best:Ae->Nat):Prop:=∃kvs,H d=Y25/\∀k,∀c∈lvl F best k,(Y6a c=none/\best c≠0)\/∃v f fs,Y6a c=Yq/\Y23 (f::fs) v/\(0<f.1↔best c=0)
theorem TbP.same{H H':Hp}{d:Addr}{F:Nat}{best:Ae->Nat}(s:Y0)(h:TbP H d F best):TbP H' d F best:=by
 obtain⟨a,e,m⟩:=h;exact⟨a,s _ _ e,λk c l=>by
  rcases m k c l with h | ⟨v,f,fs,j,i,g⟩
  ·exact Y8R
  ·exact .inr ⟨v,f,fs,j,i.same s,g⟩⟩
inductive uV:Yi
 | i {H:Hp} {Q:VK} {E:XK} {L d:Addr} {F M k:Nat} {best:Ae->Nat} (h1:sR H L (Y7n F k)) (h2:TbP H d F best) (h3:aD3 F M best) (h4:k<=M) (q:∀D H',Y0->H D=none->sR H' D (Y7n F (k+1))->Y1g):uV [.ref L,Y8V] H Q E
inductive uS:Yi
 | i {H:Hp} {Q:VK} {E:XK} {d:Addr} {F M:Nat} {best:Ae->Nat} (h2:TbP H d F best) (h3:aD3 F M best) (q:∀D H',Y0->H D=none->sR H' D (WZ F M best)->Y1g):uS [.int (F:Int),Y8V] H Q E
theorem yH{F M:Nat}{best:Ae->Nat}(hF:1<=F)(on:∀c,best c=0->Y43):∀j,Y7n F (M+1+j)=[]
 | 0=>by
  refine List.eq_nil_iff_forall_not_mem.mpr λd hd=>?_;obtain⟨c,hc,h0,_⟩:=(oI hF).mp hd;have a:=(iC ((oJ hF M).subset hc)).2;have:=on c h0;exact Oo
 | j+1=>by
  refine List.eq_nil_iff_forall_not_mem.mpr λd hd=>?_;obtain⟨c,hc,_⟩:=(oI (k:=M+1+j) hF).mp hd;rw[yH hF on j]at hc;cases hc
theorem HD{F k:Nat}{best:Ae->Nat}(hF:1<=F)(h:Y7n F k=[]):∀j,Y7n F (k+j)=[]
 | 0=>h
 | j+1=>by
  refine List.eq_nil_iff_forall_not_mem.mpr λd hd=>?_;obtain⟨c,hc,_⟩:=(oI (k:=k+j) hF).mp hd;rw[HD hF h j]at hc;cases hc
theorem CU{F k:Nat}{best:Ae->Nat}(hF:1<=F)(h:Y7n F k=[]):∀j,(List.range (k+j)).flatMap (lvl F best)=(List.range k).flatMap (lvl F best)
 | 0=>rfl
 | j+1=>by rw[<-Nat.add_assoc,pE,HD hF h j,List.append_nil,CU hF h j]
section
def aGr(F:Yb "counts_behind" "counts_behind" aCv)(T:Yd)(FQ54:Yv "looks_on" ["says"] iK)(FQ57:Y1w "ones_more" ["counts"] gM):cX P w K mg base cN 3 f fd ["level","table"] uV:=by
 refine Y1k aAA;obtain @⟨H,Q,E,L,d,F,M,r,l,LS,tb,I,hk,q⟩:=h;refine Yh;intro cdv A aa s hr _;obtain⟨ys,hL,ry,ly⟩:=LS.len;have f1:=I.f1;have f4:=I.f4;have m5:=I.m5;have ε:∀(j:Nat) (d:Af),(∃c∈(lvl F l r).take j,l c=0/\∃f,f<F/\d=ci (cC c f))->d∈(lvl F l (r+1)).map ci:=λj d ⟨c,B,J,f,O,e⟩=>aU.mpr ⟨cC c f,(oI f1).mpr ⟨c,List.mem_of_mem_take B,J,f,O,rfl⟩,e.symm⟩;have ω:(lvl F l (r+1)).length<=56:=by
  by_cases z:r+1<=5
  ·exact aM (oJ f1 (r+1)).length_le (pG F f4 (r+1) z)
  ·have e:=yH f1 I.on (r-M);rw[show M+1+(r-M)=r+1 by exact Oo]at e;rw[e];exact Y1z
 refine⟨_,(aI (Y2t aAA.nd yX)
  (aI (Y2z (fX (Yw)) 3 aAA.nd (eX (qZ (vP (dY (aDn hr.u1) (Y1j) (Y0f) (by with_unfolding_all rfl)) (xR (dX (eB FQ54 (jV hr.u1 Y0f Y1j)))))) (aS (Y2z (fX (Y2N FQ57 3)) 4 aAA.nd (nU hr.u1 (aC 2) (aC 4) kJ))) cY))
  (Y0R (cT (NW rfl) (by rfl) T.b_sorted Kk (Y2r 2))))),?_⟩
 refine Yo;intro d_ n_;intro p hp;have s1:=YdZ [] hp;have e1:(upd H p (.dT [])) p=Y2d []:=bR;generalize upd H p (.dT [])=H1 at s1 e1 ⊢;refine Y5P L (s1 _ _ hL) ?_;refine jT (xs:=ys) (Yg6 (λ(χ γ:An) (u:List (List fF × V)) (y:Ac)=>An6 (σ=[Y4 L,Y4 d,Y2m,χ,γ]) (Y0) (H' p=Y2d u) (u.map (·.1)=y.map kT) (y.Nodup) (∀d,d∈y ↔ ∃c∈(lvl F l r).take j,l c=0/\∃f,f<F/\d=ci (cC c f))))
  ⟨_,_,[],[],rfl,s1,e1,rfl,List.nodup_nil,λd=>⟨(λh=>by cases h),λ⟨c,B,_⟩=>by rw[List.take_zero]at B;cases B⟩⟩ (Ydu) ?_ ?_
 ·obtain⟨_,_,_,_,_,S',_⟩:=q;exact hU.of (S' _ _ hL)
 ·rintro j x σ H2 hx ⟨χ,γ,u,y,rfl,S2,α,G,nd,β⟩;refine Y22;intro d_;obtain⟨cc,B,rc⟩:=cR ry hx;obtain⟨ac,rfl,U⟩:=gX rc;have θ:=aF B;obtain⟨lc,sc⟩:=iC ((oJ f1 r).subset θ);have hcr:cc∈Y1h:=(jC f1).mpr (Y2h lc);obtain⟨tk,ψ,ab⟩:=tb.same S2;have step:∀d,(∃c∈(lvl F l r).take (j+1),l c=0/\∃f,f<F/\d=ci (cC c f))↔(∃c∈(lvl F l r).take j,l c=0/\∃f,f<F/\d=ci (cC c f))\/(l cc=0/\∃f,f<F/\d=ci (cC cc f)):=λd=>by
   rw[eU B];constructor
   ·rintro⟨c,X,h⟩;rcases bQ.mp X with μ | μ
    ·exact .inl ⟨c,μ,h⟩
    ·rw[aN.mp μ]at h;exact .inr h
   ·rintro(⟨c,X,h⟩ | h)
    ·exact⟨c,cO _ X,h⟩
    ·exact⟨cc,Ycv _ rfl,h⟩
  rcases ab r cc θ with⟨ι,hb⟩ | ⟨v,hf0,hfs,ι,sv,ζ⟩
  ·refine Y06 (rind (dgI (cc:=cc) ψ (S2 _ _ U)) ?_);rw[ι];refine Y1 Y1f;refine gA ⟨_,_,u,y,rfl,S2,α,G,nd,Y7g⟩;rw[β,step];exact Yaa .inl (by rcases h with h | h;exact h;exact absurd h.1 hb)
  refine Y06 (rind (dgI (cc:=cc) ψ (S2 _ _ U)) ?_);rw[ι];refine Y1 Y5N;refine Y06 (Yb6 ψ cc (by rw[iG];exact S2 _ _ U) ι ?_);refine iK.i sv (Y1 (nR (Y8n) (Y8n)))
  ·have J:l cc=0:=ζ.mp on;refine Y2g;intro d_;refine Y3;refine gM.i (wN (S2 _ _ U)) Oo λD zs H3 hD e3 r3 φ=>Y0X D (Y7Z e3) ?_;have lz:zs.length=F:=by rw[r3.len,aA,aA,bG];exact lc
   have nDp:D≠p:=λz=>by rw[z,α]at hD;cases hD
   refine jT (xs:=zs) (λg σ H'=>Ex3 λ(γ:An) (u:List (List fF × V)) (y:Ac)=>An6 (σ=[Y4 L,Y4 d,Y2m,Y4 ac,γ]) (bB p H3 H') (H' p=Y2d u) (u.map (·.1)=y.map kT) (y.Nodup) (∀d,d∈y↔(∃c∈(lvl F l r).take j,l c=0/\∃f,f<F/\d=ci (cC c f))\/∃f,f<g/\d=ci (cC cc f)))
    (Y2R _ u y ((Yx).but) (φ _ _ α) G nd (λd=>by rw[β];exact Yaa .inl (by rcases h with h | ⟨f,O,_⟩;exact h;exact Oo))) (λg σ H' _ q=>?_) ?_ ?_
   ·obtain⟨_,_,_,_,b',_⟩:=q;exact Yes nDp e3
   ·rintro g z σ H4 hz ⟨υ,Z,W,rfl,κ,ρ,R,N,S⟩;refine Y22;intro d_;have hg:g<F:=by have:=(aT.mp hz).1;exact Oo
    obtain⟨c2,δ,rc2⟩:=cR r3 hz;rw[aX,eS Oo]at δ;cases δ;have t4:dH H3 H4:=bB.tT κ (φ _ _ α);obtain⟨a2,rfl,ο⟩:=gX (rc2.flat t4 (gT _));have lk:W.length<=56:=by
     have:=pC N (m:=(lvl F l (r+1)).map ci) λd hd=>by
      rcases(S d).mp hd with h | ⟨f,O,e⟩
      ·exact ε j d h
      ·exact ε (j+1) d ((step d).mpr (.inr ⟨J,f,Oo,e⟩))
     rw[aA]at this;exact Oo
    have lkv:Z.length=W.length:=by have:=Y4P R;simpa using this
    refine Y0F;refine YcN ρ (ci (cC cc g)) (by rw[iG];exact ο) (λH5 e5 b5=>?_);obtain⟨ks2,k1,k2,k3⟩:=UU (v:=Y9Y) (ci (cC cc g)) R N;refine Y2R _ _ ks2 (κ.trans b5) e5 k1 k2 Y7g;rw[k3,S];constructor
    ·rintro((h | ⟨f,O,e⟩) | h)
     ·exact Y8R
     ·exact Y3L f Oo e
     ·exact Y3L g Oo h
    ·rintro(h | ⟨f,O,e⟩)
     ·exact YaS h
     ·by_cases q:f=g
      ·subst q;exact .inr e
      ·exact .inl (Y3L f Oo e)
   ·rintro σ H4 ⟨υ,Z,W,rfl,κ,ρ,R,N,S⟩;refine⟨_,_,Z,W,rfl,YcQ (S2.trans φ) κ,ρ,R,N,Y7g⟩;rw[S,step,lz];constructor
    ·rintro(h | h)
     ·exact Y8R
     ·exact .inr ⟨J,h⟩
    ·rintro(h | h)
     ·exact Y8R
     ·exact .inr h.2
  ·have J:¬l cc=0:=λz=>on (ζ.mpr z);refine⟨_,_,u,y,rfl,S2,α,G,nd,Y7g⟩;rw[β,step];exact Yaa .inl (by rcases h with h | h;exact h;exact absurd h.1 J)
 ·rintro σ H2 ⟨χ,γ,u,y,rfl,S2,α,G,nd,β⟩;rw[ly,cZ]at β;have C:∀d,d∈y↔d∈(lvl F l (r+1)).map ci:=λd=>by
   rw[β,aU];constructor
   ·rintro⟨c,B,J,f,O,e⟩;exact⟨cC c f,(oI f1).mpr ⟨c,B,J,f,O,rfl⟩,e.symm⟩
   ·rintro⟨d',τ,rfl⟩;obtain⟨c,B,J,f,O,rfl⟩:=(oI f1).mp τ;exact⟨c,B,J,f,O,rfl⟩
  have lk:y.length<=56:=by
   have:=pC nd (m:=(lvl F l (r+1)).map ci) λd hd=>(C d).mp hd;rw[aA]at this;exact Oo
  refine Y3;refine rsrd (cs:=y) α G (λc B=>?_) Oo λq8 ys8 ds H8 pm pw ν e8 r8 s8=>?_
  ·obtain⟨d,hd,rfl⟩:=aU.mp ((C c).mp B);obtain⟨l1,_⟩:=iC ((oJ f1 (r+1)).subset hd);intro z;have e:(ci d).length=d.length:=by unfold ci;rw[aA]
   rw[z,List.length_nil]at e;exact Oo
  have η:((lvl F l (r+1)).map ci).Pairwise λa b=>qG a b=true:=by
   by_cases z:r+1<=5
   ·exact(NR F f4 (r+1) z).sublist ((oJ f1 (r+1)).map ci)
   ·have e:=yH f1 I.on (r-M);rw[show M+1+(r-M)=r+1 by exact Oo]at e;rw[e];exact List.Pairwise.nil
  have ξ:ds=(lvl F l (r+1)).map ci:=AU pw η λd=>by rw[pm.mem_iff];exact C d
  rw[ξ,List.map_map,show(lvl F l (r+1)).map ((λc:Af=>PyData.tuple (c.map .int)) ∘ ci)=(lvl F l (r+1)).map gB from dD λc _=>ctI c]at r8;exact q q8 H8 (S2.trans s8) (S2.free ν) ⟨ys8,e8,r8⟩
def aGq(F:Yb "counts_come_to" "counts_come_to" aCu)(T:Yd)(FQ55:Yv "noughts" ["faces"] lC)(FQ37:Y1I "counts_behind" ["level","table"] uV):cX P w K mg base cN 4 f fd ["faces","table"] uS:=by
 refine F.oky aAz λe H Q E h=>?_;obtain @⟨H,Q,E,d,F,M,a,η,I,q⟩:=h;refine Yh;intro ζ A S s μ _;have f1:=I.f1;have f4:=I.f4;have m5:=I.m5;refine⟨_,(aI (Y2t aAz.nd (fV aH))
  (aI (Y11 aAz.nd (fV (Y1r (Y3q FQ55))))
  (aI (yR PassesOwn.never (dY xC (Y3O (by rfl) 3) aE) (aI (gI (Yf6 JV (aC 2) (Y2r 3)))
  (aS (Y11 aAz.nd (Y1a FQ37 3 1)))))
  (Y3h 2)))),?_⟩
 refine Yo;intro Z β;refine AN (by show 0<=64;decide) λu H1 G l γ=>Ys;intro Z β;refine Y3;refine lC.i Oo λv H2 J L=>AN (by show 1<=64;decide) λle H3 x y r=>?_;have C:=(γ.trans J).trans r;have p:le≠u:=λz=>by subst z;rw[J _ _ l]at x;cases x
 have g:∀i,i<=M+1->((List.range i).flatMap (lvl F a)).length<=400:=λi ι=>aM (HK (oJ f1) (List.range i)).length_le (wR F f4 i Oo);refine DO (λm σ H'=>Ex3 λ(le:Addr) (e:Al) (j:Nat)=>An8 (σ=[Ym (F:Int),Y4 d,Y4 u,Y4 le]) (Y0) (H' u=Y05 e) (Y2l (((List.range j).flatMap (lvl F a)).map gB) e) (sR H' le (lvl F a j)) (le≠u) (j<=M+1) (m=M+1-j))
  (λσ H'=>∃(le:Addr) (e:Al),σ=[Ym (F:Int),Y4 d,Y4 u,Y4 le]/\Y0/\H' u=Y05 e/\Y2l ((WZ F M a).map gB) e)
  _ ⟨le,[],0,rfl,C,r _ _ (J _ _ l),aJ.nil,Y1o y (Y4R (L.same r)),p,Y1z,rfl⟩ ?_ ?_
 ·clear l γ J r C y x p L;rintro m σ H1 ⟨le,e,j,rfl,S1,l,B,L1,p,ε,rfl⟩;obtain⟨U,α,L,lw⟩:=L1.len;have κ:e.length=((List.range j).flatMap (lvl F a)).length:=cQ B;have ν:=g j ε;refine Y1 (rlL α ?_);refine Y3R _ _ _ ?_;by_cases hz:lvl F a j=[]
  ·have ξ:U.length=0:=by rw[lw,hz];rfl
   refine AY (bP Oo) (Y4y le e S1 l ?_);have:=CU f1 hz (M+1-j);rw[show j+(M+1-j)=M+1 by exact Oo]at this;unfold WZ;rw[this];exact B
  ·have θ:0<(lvl F a j).length:=List.length_pos_iff.mpr hz;have R:j<=M:=dP λz=>hz (by
    have:=yH f1 I.on (j-(M+1))
    rwa [show M+1+(j-(M+1))=j by exact Oo]at this)
   refine CQ (bH Oo) (Yo);intro Z β;have O:=g (j+1) Oo;rw[pE,aW]at O;refine Y5b _ (OM l) _ ?_;refine aDM l α Oo λH2 y N=>?_;have W:=N.t l;have S2:aV H H2:=aV.thru G S1 N;refine Y0F;refine uV.i (L1.butL N l p) (η.same S2) I R λD H3 r X L3=>?_;have δ:D≠u:=λz=>by subst z;rw[y]at X;cases X
   refine⟨_,Oo,D,e++U,j+1,rfl,S2.trans r,r _ _ y,?_,L3,δ,Oo,rfl⟩;rw[pE,bN];exact aJ.app ((B.flat W (lQ _)).same r) ((L.flat W (lQ _)).same r)
 ·rintro σ H1 ⟨le,e,rfl,S1,l,B⟩;exact Y1 (q u H1 S1 G ⟨e,l,B⟩)
end
abbrev aCk:Stmt:=(top 13)
def aHk:Yc a21 a21 aCk:={}
abbrev aCp:Stmt:=(top 16)
def aHp:Yc a21 a21 aCp:={}
abbrev aCm:Stmt:=(top 17)
def aHm:Yc a21 a21 aCm:={}
abbrev aCl:Stmt:=(top 26)
def aHl:Yc a02 a02 aCl:={}
abbrev aCD:Stmt:=(top 27)
def aHw:Yc a02 a02 aCD:={}
abbrev aCG:Stmt:=(top 28)
def aHz:Yc a02 a02 aCG:={}
abbrev aCE:Stmt:=(top 48)
def aHx:Yc a40 a40 aCE:={}
abbrev aCr:Stmt:=(top 38)
def aHr:Yc a16 a16 aCr:={}
def dI:Y1R
 | .tuple [.int n,.int k]=>decide (1<=k)&&decide (Int.gcd n k=1)
 | _=>false
def eI:Y1R
 | .tuple [.int n,.int k]=>(decide (1<=k)&&decide (Int.gcd n k=1))&&(decide (0<=n)&&decide (n<=k))
 | _=>false
def jN(n:Int):Y1R
 | .tuple ds=>decide ((ds.length:Int)=n)
 | _=>false
def jJ:Y60 Fr
 | .tuple [.int n,.int k]=>(n,k)
 | _=>(0,1)
def xN(n:Int):Y1R
 | .tuple ds=>decide ((ds.length:Int)=n)&&ds.all eI
 | _=>false
def kP(n:Int):Y1R
 | .tuple ds=>(decide ((ds.length:Int)=n)&&ds.all eI)&&decide (jP (ds.map jJ)=(1,1))
 | _=>false
def xJ:Y1R
 | .int n=>decide (0<=n)
 | _=>false
def lZ(n:Int):Y1R
 | .tuple ds=>decide ((ds.length:Int)=n)&&ds.all xJ
 | _=>false
def SmD:Y9A
 | .tuple ds=>∀e∈ds,eI e=true->(jJ e).2<=10
 | _=>True
inductive mZ (K:Aa):Yi
 | i {H:Hp} {Q:VK} {E:XK} {x:V} {d:PyData} (r:eQ K H d x) (q:Y0H (aDR d)):mZ K [x] H Q E
inductive oB (K:Aa):Yi
 | i {H:Hp} {Q:VK} {E:XK} {x:V} {d:PyData} (r:eQ K H d x) (q:Y0H (dI d)):oB K [x] H Q E
inductive uL (K:Aa):Yi
 | i {H:Hp} {Q:VK} {E:XK} {x:V} {d:PyData} (r:eQ K H d x) (q:Y0H (eI d)):uL K [x] H Q E
inductive gL (K:Aa):Yi
 | i {H:Hp} {Q:VK} {E:XK} {x:V} {d:PyData} {n:Int} (r:eQ K H d x) (q:Y0H (jN n d)):gL K [x,Y5R] H Q E
inductive uX (K:Aa):Yi
 | i {H:Hp} {Q:VK} {E:XK} {x:V} {d:PyData} {n:Int} (r:eQ K H d x) (h:n<=64) (q:∀H',Y0->Y2i (xN n d)):uX K [x,Y5R] H Q E
inductive uN (K:Aa):Yi
 | i {H:Hp} {Q:VK} {E:XK} {x:V} {d:PyData} {n:Int} (r:Y2n) (h:n<=6) (sm:SmD d) (q:∀H',Y0->Y2i (kP n d)):uN K [x,Y5R] H Q E
inductive pY (K:Aa):Yi
 | i {H:Hp} {Q:VK} {E:XK} {x:V} {d:PyData} {W:Nat} (r:Y2n) (h:W<=4) (sm:SmD d) (q:∀H',Y0->Y2i (kP (1+(W:Int)) d)):pY K [.int (W:Int),x] H Q E
inductive oZ (K:Aa):Yi
 | i {H:Hp} {Q:VK} {E:XK} {x:V} {d:PyData} {F:Nat} (r:eQ K H d x) (h:F<=64) (q:∀H',Y0->Y2i (lZ (F:Int) d)):oZ K [.int (F:Int),x] H Q E
def oK{d:PyData}(h:dI d=true):∃n k:Int,d=Y3j n k/\1<=k/\Y0z n k:=by
 unfold dI at h;split at h
 ·rename_i n k
  rw[aP]at h;exact Y0v n k (of_decide_eq_true h.1) (of_decide_eq_true h.2)
 ·cases h
def BR{d:PyData}(h:Y7O d):Y6 (eI d):=by
 unfold eI;split
 ·rename_i n k
  have a:Y6 (Y1D 1 k&&Y8Q k 1):=h;rw[a,Bool.false_and]
 ·rfl
def kN{d:PyData}(h:eI d=true):d=eZ (jJ d)/\dM (jJ d)/\0<=(jJ d).1/\(jJ d).1<=(jJ d).2:=by
 unfold eI at h;split at h
 ·rename_i n k
  rw[aP,aP,aP]at h;obtain⟨⟨c,g⟩,a,e⟩:=h;exact⟨rfl,⟨by have:=of_decide_eq_true c;show 0<k;exact Oo,Yfp⟩,of_decide_eq_true a,Yfo⟩
 ·cases h
theorem tM:∀{ds:Ya},ds.all eI=true->ds=(ds.map jJ).map eZ
 | [],_=>rfl
 | d::ds,h=>by
  rw[List.all_cons,aP]at h;rw[bC,bC,<-tM h.2,<-(kN h.1).1]
def yD{K:Aa}{H:Hp}{a:Addr}{xs:Al}{ds:Ya}(r:eY K H ds xs)(h:Y2P 2):∃d0 d1 x0 x1,ds=[d0,d1]/\xs=[x0,x1]/\eQ K H d0 x0/\eQ K H d1 x1:=by
 match ds,h with
 | [d0,d1],_ =>
  unfold eY eY eY at r;obtain⟨x0,_,rfl,c,x1,_,rfl,d,rfl⟩:=r;exact⟨d0,d1,x0,x1,rfl,rfl,c,d⟩
def XX{d:Int}(h0:0<d)(h:d<=10):d.natAbs ∣ gD:=by
 have:∀x,x<=10->1<=x->x ∣ gD:=by unfold gD;decide
 exact this _ Oo Oo
def aBO{f:Fr}(l:Y0A)(h0:0<=f.1)(h1:f.1<=f.2)(h:f.2<=10):Y3o:=by
 have p:=l.pos;have q:Fn f.2.natAbs 1 f:=Qn.f l ⟨f.1,by
  have:=AA p;have e:((f.2.natAbs:Nat):Rat)=(f.2:Rat):=by
   have:((f.2.natAbs:Nat):Int)=f.2:=Oo;rw[<-rM,this]
  rw[e];exact this,Oo⟩
 exact q.dvd (XX p h)
def CF{ds:Ya}(h:ds.all eI=true)(sm:∀e∈ds,eI e=true->(jJ e).2<=10):∀f∈ds.map jJ,Y3o:=λf g=>by
 obtain⟨d,hd,rfl⟩:=aU.mp g;have hs:=Ydo d hd;obtain⟨_,a,b,c⟩:=kN hs;exact aBO a b c (sm d hd hs)
section
def aGf(F:Yb "is_whole" "is_whole" aCk)(T:Yd):cX P w K mg base cN 1 f fd a21 (mZ K):=by
 refine F.oky aHk λg H Q E h=>?_;obtain @⟨H,Q,E,x,d,r,q⟩:=h;refine Yh;intro e A a s j _;refine Ya3 (cT (fQ K) (by rfl) T.b_isinstance Kk (Y5Y 0 (Yak (.ty "int") "int" rfl T.b_int Kk rfl))) (aBK (cT (fQ K) (by rfl) T.b_isinstance Kk (Y5Y 0 (Yak (.ty "bool") "bool" rfl T.b_bool Kk rfl)))) (Y1 (aA9 r ?_));refine Y3;cases d
 case int i=>exact fJ (Y1 (EH r (Y1 q)))
 case bool i=>exact fJ (Y1 (EH r (Y1 q)))
 all_goals exact gA q
def aGk(F:Yb "is_fraction" "is_fraction" aCp)(T:Yd)(FQ49:Yv "is_whole" a21 (mZ K))(FQ35:Yv "common_divisor" a26 sV):cX P w K mg base cN 2 f fd a21 (oB K):=by
 refine F.oky aHp λX H Q E h=>?_;obtain @⟨H,Q,E,x,d,r,q⟩:=h;refine Yh;intro N A G s U _;refine⟨_,(aI (Y5U (cT (fQ K) (by rfl) T.b_isinstance Kk (Y5Y 0 (Yak (.ty "tuple") "tuple" rfl T.b_tuple Kk rfl))) (kY (dY AJ (Y3O (by rfl) 0) aE)))
  (aI (Y5U (eB FQ49 (Y0G)) (Ya2 (eB FQ49 (Y0G))))
  (Y0R (jL (jY ML (Y0G) aE) (kI (jY sX (cB FQ35 (Y0G) (Y0G)) aE)))))),?_⟩
 refine Yo;intro J Z;refine Y6H r;refine Y3;by_cases ht:KH d=true
 ·rw[ht];refine Y1f;cases d with
  | tuple ds =>
   unfold eQ at r;obtain⟨a,W,rfl,j,I⟩:=r;have l:=I.len;refine Y1 (rlK j ?_);refine Y34 rfl (CS (Y47) (Y47))
   ·have D:Y7O Yy:=by
     unfold dI;split
     ·rename_i n k z
      injection z with z;subst z;exact absurd (congrArg V.int (by rw[l];rfl)) e
     ·rfl
    refine Y2g;intro J;rw[D]at q;exact q
   ·have R:Y2P 2:=by injection e with e;exact Oo
    obtain⟨L,S,M,O,rfl,rfl,p,y⟩:=yD (a:=a) I R;refine Y4B;refine mZ.i p Y3;cases L
    case int n =>
     refine gA Y4B;refine mZ.i y Y3;cases S
     case int k =>
      refine Y1f;cases(show M=V.int n from p);cases(show O=V.int k from y);refine Y4B;refine Y3R _ _ _ (nR (λB=>?_) (λB=>?_))
      ·refine Y4B;refine Y4B;refine sV.i Oo Yh;have C:dI (Y3j n k)=Yr (V.int (Int.gcd n k:Int)) (V.int 1):=by
        show(Y1D 1 k&&Y8Q k 1)=_;rw[bH B,Bool.true_and];by_cases g:Y0z n k
        ·rw[bH g,g];rfl
        ·rw[bP g,bP];intro z;injection z with z;exact Oo
       rw[C]at q;exact q
      ·have C:Y7O (Y3j n k):=by
        show(Y1D 1 k&&Y8Q k 1)=_;rw[bP B,Bool.false_and]
       rw[C]at q;exact q
     all_goals exact fJ q
    all_goals exact fJ (fJ q)
  | _=>cases ht
 ·have m:Y6 (KH d):=by simpa using ht
  rw[m];refine Y8x;refine Y2g;intro J;have D:Y7O d:=by cases d <;> first | rfl | cases m
  rw[D]at q;exact q
def aGh(F:Yb "is_share" "is_share" aCm)(T:Yd)(FQ44:Y1w "is_fraction" a21 (oB K)):cX P w K mg base cN 3 f fd a21 (uL K):=by
 refine F.oky aHm λO H Q E h=>?_;obtain @⟨H,Q,E,x,d,r,q⟩:=h;refine Yh;intro C A j s L _;refine Ya3 (Y3q FQ44) (RN aBc aBc aE (Y0G) (Y0G)) (Y1 (oB.i r ?_));refine Y3;by_cases hf:dI d=true
 ·obtain⟨n,k,rfl,I,y⟩:=oK hf;rw[hf];refine Y5N;unfold eQ at r;obtain⟨a,M,rfl,l,m⟩:=r;obtain⟨J,N,u,D,e,rfl,B,p⟩:=yD (a:=a) m rfl;injection e with e0 e;injection e with e1 _;subst e0 e1;cases(show u=V.int n from B);cases(show D=V.int k from p);have G:eI (Y3j n k)=(Y1D 0 n&&Y1D n k):=by
   show((Y1D 1 k&&Y8Q k 1)&&(Y1D 0 n&&Y1D n k))=_;rw[bH I,bH y,Bool.true_and,Bool.true_and]
  rw[G]at q;refine Y0C l;refine Y3R _ _ _ Y7c
  ·rw[bH e,Bool.true_and]at q;refine Y0C l;exact Y59 _ q
  ·rw[bP e,Bool.false_and]at q;exact q
 ·have g:Y7O d:=by simpa using hf
  rw[BR g]at q;rw[g];exact gA q
def aGg(F:Yb "is_tuple_of" "is_tuple_of" aCl)(T:Yd):cX P w K mg base cN 1 f fd a02 (gL K):=by
 refine F.oky aHl λy H Q E h=>?_;obtain @⟨H,Q,E,x,d,n,r,q⟩:=h;refine Yh;intro j A g s p _;refine Ya3 (cT (fQ K) (by rfl) T.b_isinstance Kk (Y5Y 0 (Yak (.ty "tuple") "tuple" rfl T.b_tuple Kk rfl))) (jY sX (Y3O (by rfl) 0) (Y0f)) (Y6H r);refine Y3;cases d with
 | tuple ds =>
  refine Y5N;unfold eQ at r;obtain⟨a,l,rfl,m,i⟩:=r;refine Y1 (rlK m ?_);refine Y4Q _ rfl ?_;have e:Yr (V.int (l.length:Int)) (V.int n)=jN n (Yy):=by
   show _=Yr (ds.length:Int) n;rw[i.len];exact decide_eq_decide.mpr ⟨λz=>by injection z,λz=>by rw[z]⟩
  rw[e];exact q
 | _=>exact gA q
def aGz(F:Yb "are_shares" "are_shares" aCD)(T:Yd)(FQ48:Yv "is_tuple_of" a02 (gL K))(FQ47:Y1I "is_share" a21 (uL K)):cX P w K mg base cN 4 f fd a02 (uX K):=by
 refine YdC aHw ?_;obtain @⟨H,Q,E,x,d,n,r,I,q⟩:=h;refine Yh;intro y A j s L _;refine Ya3 (Y1a FQ48 0 1) (cT (BH rfl) (by rfl) T.b_all Kk (Y81 ["one"] [] (Y2x 0) (Y3q FQ47))) ?_;refine Y06 (gL.i r ?_);refine Y3;by_cases ht:jN n d=true
 ·cases d with
  | tuple ds =>
   have u:(ds.length:Int)=n:=Ydg;refine CQ ht ?_;unfold eQ at r;obtain⟨a,M,rfl,l,p⟩:=r;refine Y9b _ a rfl (Y0p l) (qR eI Oo l p (λx d H' Q' hd G O m=>?_) (λD H1 J B C=>?_))
   ·exact Y1 (uL.i G (m H' (Yx)))
   ·refine rall B ?_;have:=q H1 C;rw[show xN n (.tuple ds)=((ds.map eI).all id)by show(decide ((ds.length:Int)=n)&&ds.all eI)=_;rw[bH u,Bool.true_and,List.all_map];rfl]at this;exact this
  | _=>cases ht
 ·have g:Y6 (jN n d):=by simpa using ht
  refine AY g ?_;have e:Y6 (xN n d):=by
   cases d with
   | tuple ds=>show Y6 (Yr (ds.length:Int) n&&ds.all eI);rw[show decide ((ds.length:Int)=n)=false from g,Bool.false_and]
   | _=>rfl
  have:=Y4F;rw[e]at this;exact this
def aGC(F:Yb "are_parts" "are_parts" aCG)(T:Yd)(FQ29:Y0K 4 "are_shares" a02 (uX K))(FQ66:Y1I "total" ["some"] (iY K)):cX P w K mg base cN 5 f fd a02 (uN K):=by
 refine YdB aHz ?_;obtain @⟨H,Q,E,x,d,n,r,G,sm,q⟩:=h;refine Yh;intro C A m s B _;refine Ya3 (Y1a FQ29 0 1) (jY (aDo K B.units) (Y3q FQ66) (Y2T c.ONE T.g_ONE)) Y0F;refine uX.i r.k Oo λH1 l=>Y3;by_cases ht:xN n d=true
 ·cases d with
  | tuple ds =>
   refine CQ ht ?_;have g:=ht;rw[show xN n (.tuple ds)=(decide ((ds.length:Int)=n)&&ds.all eI)from rfl,aP]at g;have I:(ds.length:Int)=n:=of_decide_eq_true g.1;have fn:=CF g.2 sm;have ok:DJ (YcL):=pQ fn Dd (Y4j (show gD<2^30 by decide)) (by rw[aA];exact Oo) Nat.one_le_two_pow;obtain⟨a,J,rfl,D,p⟩:=dF (r.same l);rw[tM g.2]at p;refine Y3;refine iY.i (fs:=YcL) (.inr D) (sS.of p) ok λv H2 u y=>reK y.k (eQ.tup (K:=K) (uI (H:=H2) T.o_ONE) (eY.ints [1,1])) rfl rfl ?_;have:=q H2 (l.trans u);rw[show kP n (.tuple ds)=(xN n (.tuple ds)&&decide (jP (ds.map jJ)=(1,1)))from rfl,ht,Bool.true_and]at this;rw[Bool.true_beq];show Q (.bl (PyData.eqv (eZ (jP (YcL))) (eZ (1,1)))) H2;rw[VE];exact this
  | _=>cases ht
 ·have j:Y6 (xN n d):=by simpa using ht
  refine AY j ?_;have e:Y6 (kP n d):=by
   cases d with
   | tuple ds=>show Y6 (xN n (Yy)&&_);rw[j,Bool.false_and]
   | _=>rfl
  have:=q H1 l;rw[e]at this;exact this
def aGA(F:Yb "are_says" "are_says" aCE)(T:Yd)(FQ26:Y0K 5 "are_parts" a02 (uN K)):cX P w K mg base cN 6 f fd a40 (pY K):=by
 refine F.oky aHx λg H Q E h=>?_;obtain @⟨H,Q,E,x,d,W,r,l,sm,q⟩:=h;refine Yh;intro e A a s j _;exact Y1e (Y1O FQ26 1 (Y1U eE aE 0)) (Y5l _ _ _ _ rfl rfl (uN.i r Oo sm q))
def aGm(F:Yb "is_counts" "is_counts" aCr)(T:Yd)(FQ48:Yv "is_tuple_of" a02 (gL K))(FQ49:Yv "is_whole" a21 (mZ K)):cX P w K mg base cN 2 f fd a16 (oZ K):=by
 refine YdC aHr ?_;obtain @⟨H,Q,E,x,d,F,r,I,q⟩:=h;refine Yh;intro B A j s L _;refine Ya3 (Y1a FQ48 1 0) (cT (BH rfl) (by rfl) T.b_all Kk (Y81 ["one"] [] (Y2x 1) (jL (Y3q FQ49) (kI (jY ML (Yw) aE))))) ?_;refine Y06 (gL.i r ?_);refine Y3;by_cases ht:jN (F:Int) d=true
 ·cases d with
  | tuple ds =>
   have y:(ds.length:Int)=(F:Int):=Ydg;refine CQ ht ?_;unfold eQ at r;obtain⟨a,M,rfl,m,u⟩:=r;refine Y9b _ a rfl (Y0p m) (qR xJ Oo m u (λx d H' Q' hd p O l=>?_) (λD H1 J C G=>?_))
   ·refine Y1 (mZ.i p ?_);refine Y3;cases d
    case int z =>
     cases(show x=V.int z from p);exact fJ ⟨_,rfl,_,_,rfl,rfl,l H' (Yx)⟩
    all_goals exact gA (l H' (Yx))
   ·refine rall C ?_;have:=q H1 G;rw[show lZ (F:Int) (.tuple ds)=((ds.map xJ).all id)by show(decide ((ds.length:Int)=(F:Int))&&ds.all xJ)=_;rw[bH y,Bool.true_and,List.all_map];rfl]at this;exact this
  | _=>cases ht
 ·have g:Y6 (jN (F:Int) d):=by simpa using ht
  refine AY g ?_;have e:Y6 (lZ (F:Int) d):=by
   cases d with
   | tuple ds=>show Y6 (Yr (ds.length:Int) (F:Int)&&ds.all xJ);rw[show decide ((ds.length:Int)=(F:Int))=false from g,Bool.false_and]
   | _=>rfl
  have:=Y4F;rw[e]at this;exact this
end
abbrev aCq:Stmt:=(top 51)
def aHq:Yc a08 a08 aCq:={}
abbrev aCn:Stmt:=(top 50)
def aHn:Yc a08 a08 aCn:={}
def fE:Y60 Ae
 | .tuple ds=>ds.map λd=>match d with | .int i=>i.toNat | _=>0
 | _=>[]
def jE:Y60 Ya
 | .tuple ds=>ds
 | _=>[]
def mF(F W:Nat):Y1R
 | .tuple [a,b]=>lZ (F:Int) a&&kP (1+(W:Int)) b
 | _=>false
def SmE:Y9A
 | .tuple [_,b]=>SmD b
 | _=>True
def XE:Y9A
 | .tuple ds=>ds.length<=64/\(∀e∈ds,SmE e)/\((∀e∈ds,∃a b,e=.tuple [.tuple a,.tuple b])->ds.length<=1)
 | _=>True
def FH{F:Nat}{d:PyData}(h:lZ (F:Int) d=true):d=gB (fE d)/\(fE d).length=F:=by
 cases d with
 | tuple ds =>
  have h:(Yr (ds.length:Int) (F:Int)&&ds.all xJ)=true:=h;rw[aP,decide_eq_true_eq]at h;have:∀l:List PyData,l.all xJ=true->l=(l.map λd=>match d with | .int i=>i.toNat | _=>0).map λ(n:Nat)=>PyData.int (n:Int):=λl=>by
   induction l with
   | nil=>intro _;rfl
   | cons a l ih =>
    intro c;rw[List.all_cons,aP]at c;rw[bC,bC,<-ih c.2];cases a with
    | int i =>
     have e:0<=i:=of_decide_eq_true c.1;show PyData.int i::l=PyData.int ((i.toNat:Nat):Int)::l;rw[show((i.toNat:Nat):Int)=i by exact Oo]
    | _=>cases c.1
  refine Y02 (Yfl (this ds h.2));show(ds.map _).length=F;rw[aA];exact Oo
 | _=>cases h
def UH{W:Nat}{d:PyData}(h:kP (1+(W:Int)) d=true)(sm:SmD d):d=jK ((jE d).map jJ)/\WQ (1+W) ((jE d).map jJ):=by
 cases d with
 | tuple ds =>
  have h:((Yr (ds.length:Int) (1+(W:Int))&&ds.all eI)&&Yr (jP (YcL)) (1,1))=true:=h;rw[aP,aP,decide_eq_true_eq,decide_eq_true_eq]at h;obtain⟨⟨j,c⟩,g⟩:=h;have fn:=CF c sm;have lw:∀f∈ds.map jJ,Y0A:=λf a=>(fn f a).low;refine⟨Yfl (tM c),Y0w (by rw[aA];show Y2P (1+W);exact Oo) (λf a=>Y02 (fn f a))⟩
  ·obtain⟨e,i,rfl⟩:=Y7r;exact(kN (List.all_eq_true.mp c e i)).2.2.1
  ·show sL ((ds.map jJ).map rv)=1;rw[<-wA _ lw,g,zZ]
 | _=>cases h
theorem NS:∀a b:Ae,PyData.eqvAll (a.map λ(n:Nat)=>PyData.int (n:Int)) (b.map λ(n:Nat)=>PyData.int (n:Int))=Yr a b
 | [],[]=>by simp[PyData.eqvAll]
 | [],_::_=>by simp[PyData.eqvAll]
 | _::_,[]=>by simp[PyData.eqvAll]
 | x::a,y::b=>by
  have ih:=NS a b;rw[bC,bC];show(PyData.eqv (.int (x:Int)) (.int (y:Int))&&PyData.eqvAll _ _)=_;rw[ih];have e:PyData.eqv (.int (x:Int)) (.int (y:Int))=decide (x=y):=by
   show decide ((x:Int)=(y:Int))=_;exact decide_eq_decide.mpr ⟨λh=>Oo,λh=>by rw[h]⟩
  rw[e];by_cases h:x=y <;> by_cases h':a=b <;> simp[h,h']
theorem FI:∀a b:Ab,PyData.eqvAll (a.map gB) (b.map gB)=Yr a b
 | [],[]=>by simp[PyData.eqvAll]
 | [],_::_=>by simp[PyData.eqvAll]
 | _::_,[]=>by simp[PyData.eqvAll]
 | x::a,y::b=>by
  rw[bC,bC];show(PyData.eqvAll _ _&&PyData.eqvAll _ _)=_;rw[FI a b,NS];by_cases h:x=y <;> by_cases h':a=b <;> simp[h,h']
def qP(cs:Ab):Y3i (.list (Y9J)):=(mG.lst (n:=2) λd a=>by
 obtain⟨c,_,rfl⟩:=Y7r;refine mG.tup (n:=1) λd a=>?_;obtain⟨z,_,rfl⟩:=Y7r;exact mG.int z).ok
def TX{α:Type}(ky:α->Ae)(dv:Y8K α){H2:Hp}:∀(es:Yn) (xs:Al),aJ H2 (es.map λe=>PyData.tuple [gB (ky e),dv e]) xs->∃kvs:List (List fF × V),Paired (OD H2) xs kvs/\kvs.map (·.1)=es.map (λe=>Y2M (ky e))/\((es.map ky).Nodup->∀e∈es,∃v,Y6a (ky e)=Yq/\bL H2 (dv e) v):=λes=>by
 induction es with
 | nil =>
  intro xs r;cases(show xs=[]by have:=cQ r;simpa using this);exact Y4Q [] .nil (λ_ e h=>by cases h)
 | cons d es ih =>
  intro xs r;rw[bC]at r;unfold aJ at r;obtain⟨x,xs,rfl,l,j⟩:=r;obtain⟨b,I,rfl,C,y⟩:=dF l;obtain⟨u,z,rfl,A,p⟩:=iU y;obtain⟨i,rfl,c⟩:=gX A;obtain⟨kvs,B,G,m⟩:=ih xs j;refine⟨(Y2M (ky d),z)::kvs,.cons (Y0v b i C ?_) B,by rw[bC,bC,G],λg e a=>?_⟩
  ·show H2 i=Yl ((kT (ci (ky d))).map kV);rw[AX,iG];exact c
  ·rw[bC,List.nodup_cons]at g;rcases Y2S with rfl | a
   ·exact⟨z,iP rfl,p⟩
   ·obtain⟨v,D,w⟩:=m g.2 e a;refine⟨v,?_,w⟩;rw[iQ (show ¬kT (ci (ky d))=kT (ci (ky e))from λq=>g.1 (by rw[uB (tW q)];exact Y76 e a))];exact D
def aBe{α:Type}{ky:α->Ae}{es:Yn}(h:(es.map ky).Nodup):(es.map λe=>Y2M (ky e)).Nodup:=by
 rw[show(es.map λe=>kT (ci (ky e)))=(es.map ky).map λc=>kT (ci c)by rw[List.map_map];rfl];exact List.Pairwise.map _ (λ_ _ q z=>q (uB (tW z))) h
inductive uR:Yi
 | i {H:Hp} {Q:VK} {E:XK} {x:V} {d:PyData} {F W:Nat} (h0:Y2n) (h1:F<=64) (h2:W<=4) (h3:SmE d) (q0:∀H',Y0->Y2i (mF F W d)):uR [.int (F:Int),.int (W:Int),x] H Q E
inductive uQ:Yi
 | i {H:Hp} {Q:VK} {E:XK} {x:V} {d:PyData} {F W:Nat} (h0:Y2n) (h1:1<=F) (h2:F<=4) (h3:W<=4) (h4:XE d) (q0:∀(b:Bool) H',Y0->(b=true->∃fs,d=WY [(Y0e,fs)]/\WQ (1+W) fs/\fO fs 0=0)->Y2i b):uQ [.int (F:Int),.int (W:Int),x] H Q E
section
def aGl(F:Yb "is_entry" "is_entry" aCq)(T:Yd)(FQ48:Yv "is_tuple_of" a02 (gL K))(FQ42:Y1w "is_counts" a16 (oZ K))(FQ28:Y0K 6 "are_says" a40 (pY K)):cX P w K mg base cN 7 f fd a08 uR:=by
 refine YfJ aHq ?_;obtain @⟨H,Q,E,x,d,F,W,r,y,D,sm,q⟩:=h;refine Yh;intro J A p s M _;refine Y1e (jL (Y1O FQ48 2 aE) (jL (Y1O FQ42 0 Y31) (kI (Y1O FQ28 1 Y31)))) (Y1 (gL.i r.k ?_));refine Y3;by_cases g:jN 2 d=true
 ·rw[g];refine Y5N;cases d with
  | tuple ds =>
   obtain⟨a,N,rfl,u,j⟩:=dF r;have G:(ds.length:Int)=2:=Yfp
   match ds,G,j,sm,q with
   | [d0,d1],_,j,sm,q =>
    obtain⟨L,O,rfl,I,C⟩:=iU j;refine⟨_,rfl,_,rfl,gU u rfl ?_⟩;refine oZ.i I.k y λH1 m=>⟨_,rfl,?_⟩;by_cases l:lZ (F:Int) d0=true
    ·rw[l];refine fJ ⟨_,rfl,_,rfl,gU (m _ _ u) rfl ?_⟩;refine pY.i (C.same m) D sm λH2 B=>?_;have:=q H2 (m.trans B);rw[show mF F W (.tuple [d0,d1])=(lZ (F:Int) d0&&kP (1+(W:Int)) d1)from rfl,l,Bool.true_and]at this;exact this
    ·have l:lZ (F:Int) d0=false:=by simpa using l
     rw[l];refine gA ?_;have:=q H1 m;rw[show mF F W (.tuple [d0,d1])=(lZ (F:Int) d0&&kP (1+(W:Int)) d1)from rfl,l,Bool.false_and]at this;exact this
  | _=>cases g
 ·have g:Y6 (jN 2 d):=by simpa using g
  rw[g];refine Y1f;have e:Y6 (mF F W d):=by
   unfold mF;split
   ·exact absurd g (by simp[jN])
   ·rfl
  have:=Y4F;rw[e]at this;exact this
def xI{F W:Nat}{e:PyData}(h:mF F W e=true):∃a b,e=Y0a a b/\lZ (F:Int) a=true/\kP (1+(W:Int)) b=true:=by
 unfold mF at h;split at h
 ·rename_i a b
  rw[aP]at h;exact Y0v a b h.1 h.2
 ·cases h
def QR(h:Bool)(F:Nat)(c:Ae):Nat:=if h=true/\c=Y0e then 0 else 1
def lK{h:Bool}{F:Nat}{c:Ae}:QR h F c=0↔h=true/\c=Y0e:=by
 unfold QR;split
 ·rename_i g;exact⟨λ_=>g,λ_=>rfl⟩
 ·rename_i g;exact⟨λz=>(by cases z),λz=>Y8y g⟩
def aFg{F:Nat}(f1:1<=F)(f4:F<=4)(h:Bool):aD3 F 1 (QR h F):=⟨f1,f4,Dd,λc a=>by rw[(lK.mp a).2];simp⟩
def aGi(F:Yb "is_rule" "is_rule" aCn)(T:Yd)(FQ43:Y0K 7 "is_entry" a08 uR)(FQ38:Y0K 4 "counts_come_to" ["faces","table"] uS):cX P w K mg base cN 8 f fd a08 uQ:=by
 refine Y1k aHn;obtain @⟨H,Q,E,x,d,F,W,r,f1,f4,hW,sm,q⟩:=h;refine Yh;intro cdv A outer s ζ _;have no:∀{H':Hp},Y0->Y2i false:=λs=>q false _ s λe=>by cases e
 refine⟨_,(aI (Y5U (cT (fQ K) (by rfl) T.b_isinstance Kk (Y5Y 2 (Yak (.ty "tuple") "tuple" rfl T.b_tuple Kk rfl))) (Ya2 (cT (BH rfl) (by rfl) T.b_all Kk (Y81 ["one","faces","ways"] [0,1] (Y2x 2) (mK FQ43 (Y0f) (aC 2) (Yw))))))
  (Y0R (jY (AL ζ.units) (Y7V ["entry"] [] (Y2x 2) (Y5j 0 aE)) (Y1O FQ38 0 (mL (IA ζ.units rfl) (by rfl) T.b_dict Kk (Y2r 2)))))),?_⟩
 refine Yo;intro d_ n_;refine Y6H r.k;refine Y3;by_cases θ:KH d=true
 case neg =>
  have θ:Y6 (KH d):=by simpa using θ
  rw[θ];refine Y8x;refine Y2g;intro d_;exact no (Yx)
 rw[θ];refine Y1f;cases d with
 | tuple ds =>
  obtain⟨a,xs,rfl,ο,γ⟩:=dF r;have lx:Y2v ds.length:=γ.len;obtain⟨s1_,β,μ⟩:=sm;refine Y3P a ο ?_;have S:Yag YeM:=by rw[List.map_id'];exact γ
  refine mU (λi y _=>∃e,ds[i]?=Y3S/\y=.bl (mF F W e)) (YdD) Oo ο (λi y H' Q' hy χ k'=>?_) (λD ys H1 hD e1 ρ hy η=>?_)
  ·obtain⟨e,g,re⟩:=cR S hy;refine Y1H;exact uR.i (re.same χ) Oo hW (β e (aF g)) λH2 s2=>k' _ H2 s2 (Y4O e g)
  ·have ey:ys=(ds.map (mF F W)).map V.bl:=by
    refine Yf9 ?_;by_cases hi:i<ds.length
    ·obtain⟨y,ι⟩:∃y,Y1i=Y00:=Y3U;obtain⟨e,B,C⟩:=η i y ι;rw[ι,C,aX,aX,B];rfl
    ·rw[dZ Oo,dZ (by rw[aA,aA];exact Oo)]
   rw[ey]at e1;refine rall e1 Y3;by_cases l:(ds.map (mF F W)).all id=true
   case neg =>
    have l:Y6 ((ds.map (mF F W)).all id):=by simpa using l
    rw[l];exact fJ (no ρ)
   rw[l];refine Y1f;rw[List.all_map]at l;have α:∀e∈ds,mF F W e=true:=λe g=>Ydp l g;have L:=μ λe g=>by
    obtain⟨a,b,h,B,C⟩:=xI (α e g);cases a with
    | tuple as=>cases b with
     | tuple bs=>exact⟨as,bs,h⟩
     | _=>cases C
    | _=>cases B
   have κ:=ρ _ _ ο;refine Y3P a κ ?_;have R:∀e∈ds,∃c fs,e=Y0a (gB c) (jK fs)/\Y4E/\WQ (1+W) fs:=λe g=>by
    obtain⟨a,b,rfl,B,C⟩:=xI (α e g);obtain⟨g1,g2⟩:=FH B;obtain⟨g3,g4⟩:=UH C (β _ g);exact⟨fE a,_,by rw[<-g1,<-g3],g2,g4⟩
   obtain⟨m,ψ,O,N⟩:∃m:List eJ,ds=m.map enD/\m.length<=1/\∀e∈m,e.1.length=F/\WQ (1+W) e.2:=by
    match ds,L,R with
    | [],_,_=>exact⟨[],rfl,cK 1,λe g=>by cases g⟩
    | [d],_,R =>
     obtain⟨c,fs,B,C,h3⟩:=R d (aN.mpr rfl);exact⟨[(c,fs)],by rw[B];rfl,aO 1,λe g=>by rw[aN.mp g];exact⟨C,h3⟩⟩
    | _::_::_,L,_=>exact absurd L (by simp)
   subst ψ;have U:=γ;clear S η R α L β μ ey l;refine mU (λi y H'=>∃e,m[i]?=Y3S/\Y4x (gB e.1) y) (λi y H1 H2 s ⟨e,B,C⟩=>⟨e,B,C.flat s (gT _)⟩) Oo κ (λi y H' Q' Z χ k'=>?_) (λD2 υ H2 hD2 e2 s2 Z hr2=>?_)
   ·obtain⟨e,g,re⟩:=cR U Z;obtain⟨b,u,v,rfl,J,τ,sv⟩:=CY ((re.same ρ).same χ);refine Y0i J;exact k' _ H' (Yx) ⟨e,g,τ⟩
   ·have δ:=ρ.trans s2;have nd:(m.map (·.1)).Nodup:=by
     match m,O with
     | [],_=>exact List.nodup_nil
     | [e],_=>simp
    obtain⟨ε,p1,p2,p3⟩:=TX (·.1) (λe:eJ=>jK e.2) m xs (aJ.same δ U);have p3:=p3 nd;have lkv:ε.length=m.length:=by have:=Y4P p2;rwa [aA,aA]at this
    refine Y0F;refine rdcp (δ _ _ ο) p1 (by rw[p2];exact aBe nd) Oo λD3 H3 hD3 e3 ξ=>?_;obtain⟨J,I⟩:∃J:Bool,J=m.any λe=>Yr e.1 Y0e&&decide (Yu≠0):=Y1E;have TP:=aFg f1 f4 J;have tb:TbP H3 D3 F (QR J F):=by
     refine⟨ε,e3,λk c hc=>?_⟩;have X:J=true->∃e∈m,e.1=List.replicate F 0/\s0 e≠0:=λh=>by
      rw[I,List.any_eq_true]at h;obtain⟨e,g,h⟩:=h;rw[aP,decide_eq_true_eq,decide_eq_true_eq]at h;exact⟨e,g,h⟩
     by_cases hce:∃e∈m,e.1=c
     ·obtain⟨e,g,rfl⟩:=hce;have hz:e.1=Y0e:=by
       cases k with
       | zero=>exact aN.mp hc
       | succ k =>
        obtain⟨c',_,hc0,_⟩:=(oI f1).mp hc;obtain⟨e',p,B,_⟩:=X (lK.mp hc0).1;have:e'=e:=by
         match m,O,g,p with
         | [x],_,g,p=>rw[aN.mp g,aN.mp p]
        rw[<-this];exact B
      obtain⟨v,k1,k2⟩:=p3 e g;obtain⟨f,r,ω,_,_,_,on⟩:=(N e g).2.hd;refine .inr ⟨v,f,r,k1,by rw[<-ω];exact k2.same ξ,?_⟩;rw[on];constructor
      ·intro h;refine lK.mpr ⟨?_,hz⟩;rw[I,List.any_eq_true];exact⟨e,g,by rw[aP,decide_eq_true_eq,decide_eq_true_eq];exact⟨hz,h⟩⟩
      ·intro h;obtain⟨e',p,_,C⟩:=X (lK.mp h).1;have:e'=e:=by
        match m,O,g,p with
        | [x],_,g,p=>rw[aN.mp g,aN.mp p]
       rw[<-this];exact C
     ·refine .inl (Y02 ?_)
      ·cases hv:Y8B ε c with
       | none=>rfl
       | some v =>
        have:=DR hv;rw[p2]at this;obtain⟨e,g,h⟩:=aU.mp this;exact absurd ⟨e,g,uB (tW h)⟩ hce
      ·intro h;obtain⟨e,g,B,_⟩:=X (lK.mp h).1;exact hce ⟨e,g,by rw[B,(lK.mp h).2]⟩
    refine uS.i tb TP λD4 H4 φ hD4 L4=>?_;obtain⟨zs,e4,r4⟩:=L4;have rl:aJ H4 ((m.map (·.1)).map gB) υ:=aJ.ofIdx (by rw[Z,lx,aA,aA,aA]) λi y hi=>by
     obtain⟨e,B,C⟩:=hr2 i y hi;exact⟨gB e.1,by rw[aX,aX,B];rfl,(C.same ξ).same φ⟩
    refine YR (bL.lst (φ _ _ (ξ _ _ e2)) rl) (bL.lst e4 r4) (qP _) (qP _) ?_;rw[Bool.true_beq];refine q _ H4 ((δ.trans ξ).trans φ) λG=>?_;have G:PyData.eqvAll ((m.map (·.1)).map gB) ((WZ F 1 _).map gB)=true:=G;rw[FI,decide_eq_true_eq]at G;obtain⟨r,ζ⟩:=TJ (F:=F) (M:=1) (best:=QR J F)
    match m,O,N,G,I with
    | [],_,_,G,_=>rw[ζ]at G;cases G
    | [e],_,N,G,I =>
     have h0:e.1=List.replicate F 0:=by rw[ζ]at G;exact(List.cons.inj G).1
     refine⟨e.2,by rw[<-h0],(N e (aN.mpr rfl)).2,?_⟩;refine dP λz=>?_;have aa:J=true:=by
      rw[I,List.any_eq_true];exact⟨e,aN.mpr rfl,by rw[aP,decide_eq_true_eq,decide_eq_true_eq];exact⟨h0,z⟩⟩
     have ν:=TK (F:=F) (M:=1) (best:=QR J F) f1 TP.on (c:=List.replicate F 0) (by rw[ζ];exact aG ..) (lK.mpr ⟨aa,rfl⟩) (j:=0) Oo;rw[<-G]at ν;have hs:=iT (c:=List.replicate F 0) (j:=0) (by rw[cG];exact Oo);have ν:cC (List.replicate F 0) 0=e.1:=aN.mp ν;rw[ν,h0]at hs;exact Oo
 | _=>cases θ
end
abbrev aCH:Stmt:=(top 29)
def aHA:Yc a02 a02 aCH:={}
abbrev aCF:Stmt:=(top 35)
def aHy:Yc a36 a36 aCF:={}
abbrev aB0:Stmt:=(top 36)
def aG7:Yc ["aim"] ["aim"] aB0:={}
abbrev aCj:Stmt:=(top 70)
def aHj:Yc a16 a16 aCj:={}
abbrev aCC:Stmt:=(top 69)
def aFd:Yc ["trial","aim","thing","faces"] a10 aCC:={}
abbrev aCs:Stmt:=(top 68)
def aHs:Yc a18 a18 aCs:={}
def tZ:Y1R
 | .tuple [.int n,.int k]=>(decide (1<=k)&&decide (Int.gcd n k=1))&&decide (0<=n)
 | _=>false
def kW(n:Int):Y1R
 | .tuple ds=>decide ((ds.length:Int)=n)&&ds.all tZ
 | _=>false
def jQ(F:Nat):Y1R
 | .tuple [a,b]=>lZ (F:Int) a&&dI b
 | _=>false
def jI:Y60 PyData
 | .tuple (a::_)=>a
 | _=>.none
def mN(F M:Nat):Y1R
 | .tuple ds=>ds.all (jQ F)&&decide (ds.map (λd=>fE (jI d))=rise F M)
 | _=>false
def FB{d:PyData}(h:dI d=true):∃n k:Int,d=Y3j n k/\tZ d=Y1D 0 n:=by
 obtain⟨n,k,rfl,a,c⟩:=oK h;refine Y4Q n k ?_;show((Y1D 1 k&&Y8Q k 1)&&Y1D 0 n)=_;rw[bH a,bH c];rfl
def tY{d:PyData}(h:Y7O d):Y6 (tZ d):=by
 unfold tZ;split
 ·rename_i n k
  have a:Y6 (Y1D 1 k&&Y8Q k 1):=h;rw[a,Bool.false_and]
 ·rfl
def qH{F:Nat}{e:PyData}(h:jQ F e=true):∃a b,e=Y0a a b/\lZ (F:Int) a=true/\dI b=true:=by
 unfold jQ at h;split at h
 ·rename_i a b
  rw[aP]at h;exact Y0v a b h.1 h.2
 ·cases h
inductive yA (K:Aa):Yi
 | i {H:Hp} {Q:VK} {E:XK} {x:V} {d:PyData} {n:Int} (h0:eQ K H d x) (h1:n<=64) (q0:∀H',Y0->Y2i (kW n d)):yA K [x,Y5R] H Q E
inductive sE (K:Aa):Yi
 | i {H:Hp} {Q:VK} {E:XK} {t x:V} {d:PyData} {fs:Ah} {ws:Y0d} (h0:Y40) (h1:eQ K H d x) (h2:ws.length<=64) (q0:∀H',Y0->Y2i (kW (ws.length:Nat) d)):sE K [t,x] H Q E
inductive sC (K:Aa):Yi
 | i {H:Hp} {Q:VK} {E:XK} {x:V} {d:PyData} {F:Nat} (h0:eQ K H d x) (h1:F<=64) (q0:∀H',Y0->Y2i (jQ F d)):sC K [.int (F:Int),x] H Q E
section
def aGD(F:Yb "are_from_nought" "are_from_nought" aCH)(T:Yd)(FQ48:Yv "is_tuple_of" a02 (gL K))(FQ44:Y1w "is_fraction" a21 (oB K)):cX P w K mg base cN 3 f fd a02 (yA K):=by
 refine F.oky aHA λβ H Q E h=>?_;obtain @⟨H,Q,E,x,d,n,r,U,q⟩:=h;refine Yh;intro L A p s X _;refine Ya3 (Y1a FQ48 0 1) (cT (BH rfl) (by rfl) T.b_all Kk (Y81 ["one"] [] (Y2x 0) (jL (Y3q FQ44) (kI (jY ML (Y5j 0 aE) aE))))) ?_;refine Y06 (gL.i r ?_);refine Y3;by_cases ht:jN n d=true
 ·cases d with
  | tuple ds =>
   have I:(ds.length:Int)=n:=Ydg;refine CQ ht ?_;unfold eQ at r;obtain⟨a,M,rfl,l,m⟩:=r;refine Y9b _ a rfl (Y0p l) (qR tZ Oo l m (λx d H' Q' hd u γ y=>?_) (λD H1 W N O=>?_))
   ·refine Y1 (oB.i u ?_);refine Y3;by_cases g:dI d=true
    ·obtain⟨G,k,rfl,e⟩:=FB g;rw[g];refine Y5N;unfold eQ at u;obtain⟨a,M,rfl,l,m⟩:=u;obtain⟨S,α,C,Z,B,rfl,J,R⟩:=yD (a:=a) m rfl;injection B with e0 B;subst e0;cases(show C=V.int G from J);refine Y0C l;refine Y59 _ ?_;have:=y H' (Yx);rw[e]at this;exact this
    ·have g:Y7O d:=by simpa using g
     rw[g];refine Y1f;have:=y H' (Yx);rw[tY g]at this;exact this
   ·refine rall N ?_;have:=q H1 O;rw[show kW n (.tuple ds)=((ds.map tZ).all id)by show(decide ((ds.length:Int)=n)&&ds.all tZ)=_;rw[bH I,Bool.true_and,List.all_map];rfl]at this;exact this
  | _=>cases ht
 ·have j:Y6 (jN n d):=by simpa using ht
  refine AY j ?_;have e:Y6 (kW n d):=by
   cases d with
   | tuple ds=>show Y6 (Yr (ds.length:Int) n&&ds.all tZ);rw[show decide ((ds.length:Int)=n)=false from j,Bool.false_and]
   | _=>rfl
  have:=Y4F;rw[e]at this;exact this
def aGB(F:Yb "are_prices" "are_prices" aCF)(T:Yd)(FQ25:Y1I "are_from_nought" a02 (yA K))(FQ68:Yv "ways_of" a28 gG):cX P w K mg base cN 4 f fd a36 (sE K):=by
 refine F.oky aHy λp H Q E h=>?_;obtain @⟨H,Q,E,t,x,d,fs,j,e,r,m,q⟩:=h;refine Yh;intro g A a s l _;refine Y1e (Y1O FQ25 1 (Y3q FQ68)) (Y06 (gG.i e ?_));exact yA.i r Oo q
def aGe(F:Yb "is_worth" "is_worth" aCj)(T:Yd)(FQ48:Yv "is_tuple_of" a02 (gL K))(FQ42:Y1w "is_counts" a16 (oZ K))(FQ44:Y1w "is_fraction" a21 (oB K)):cX P w K mg base cN 3 f fd a16 (sC K):=by
 refine YfJ aHj ?_;obtain @⟨H,Q,E,x,d,F,r,B,q⟩:=h;refine Yh;intro I A p s M _;refine Y1e (jL (Y1O FQ48 1 aE) (jL (Y1O FQ42 0 Y16) (kI (eB FQ44 (Y16))))) (Y1 (gL.i r ?_));refine Y3;by_cases g:jN 2 d=true
 ·rw[g];refine Y5N;cases d with
  | tuple ds =>
   have L:(ds.length:Int)=2:=Yfp;unfold eQ at r;obtain⟨a,N,rfl,y,C⟩:=r;obtain⟨l,u,J,O,rfl,rfl,G,D⟩:=yD (a:=a) C Oo;refine Y06 (nH y rfl ?_);refine oZ.i G B λH1 m=>Y3;have e:jQ F (Y0a l u)=(lZ (F:Int) l&&dI u):=rfl;rw[e]at q;by_cases j:lZ (F:Int) l=true
   ·rw[j]at q ⊢;refine fJ (Y0C (y.keep m));exact oB.i (D.keep m) (q H1 m)
   ·have j:Y6 (lZ (F:Int) l):=by simpa using j
    rw[j]at q ⊢;exact gA (q H1 m)
  | _=>cases g
 ·have g:Y6 (jN 2 d):=by simpa using g
  rw[g];refine Y1f;have e:Y6 (jQ F d):=by
   unfold jQ;split
   ·exact absurd g (by simp[jN])
   ·rfl
  have:=Y4F;rw[e]at this;exact this
end
inductive rZ (K:Aa):Yi
 | i {H:Hp} {Q:VK} {E:XK} {v:V} {M:Nat} {bs mix cs:Ak} (h1:vO K H M bs mix cs v) (h2:cs.length<=64) (k:∀v' H',Y0->vO K H' M bs mix (List.replicate cs.length (0,1)) v'->Q v' H'):rZ K [v] H Q E
section
def aFU(F:Yb "without_costs" "without_costs" aB0)(T:Yd):cX P w K mg base cN 1 f fd ["aim"] (rZ K):=by
 refine F.oky aG7 λκ H Q E h=>?_;obtain @⟨H,Q,E,v,M,bs,L,η,⟨a,β,δ,ξ,rfl,e,R,J,U,I,rfl,B,S⟩,γ,q⟩:=h;refine Yh;intro Z A x s ι _;have X:=S.len;refine Y1e (cD (aR Y0G (aR Y0G (Y2s Y0G (mL eG (by rfl) T.b_tuple Kk (Y81 ["one"] [] (iV (Y0G)) (Y2T c.NOUGHT T.g_NOUGHT))))))) ?_;refine Y0i e;refine Y0i e;refine Y0i e;refine Y0i e;refine Y0X U (Y0p (fS.of B)) (mU (xs:=I) (λi y H'=>FT K H' (0,1) y) (λi y H1 H2 s r=>r.t s) Oo B (λi y H' Q' u ν N=>?_) (λD d H1 θ α ε W j=>?_))
 ·exact N _ H' (Yx) (.inr (Y1 T.o_NOUGHT))
 ·refine Y4Q D d (Y5D α (λl g=>?_));have p:=Y5u d g;have C:(upd H1 l (.tup d)) l=Yl d:=bR;generalize upd H1 l (.tup d)=H2 at p C;refine kM (by show 4<=64;decide) λG H3 ζ O m=>?_;have S3:=(ε.trans p).trans m;refine q _ H3 S3 ⟨G,β,δ,Y13,rfl,O,R.same S3,J.same S3,l,d,rfl,m _ _ C,by rw[cG,W,X],λi y u=>?_⟩;have μ:=(aT.mp u).1;exact⟨(0,1),by rw[List.getElem?_replicate,YcI],(j i y u).t (p.trans m).t⟩
end
def rP(F W M:Nat)(wd:Str)(n:Nat):Y1R
 | .tuple ds=>decide (ds.length=n)&&(PyData.eqv (ds.getD 0 .none) (.str wd)&&(kW (W:Nat) (ds.getD (n-2) .none)&&mN F M (ds.getD (n-1) .none)))
 | _=>false
def WdD:Y9A
 | .tuple ds=>ds.length<=64/\(∀e∈ds,SeqAt.shaped e=true)/\∀e∈ds,∀es,e=.tuple es->es.length<=64
 | _=>True
theorem CV{F:Nat}:∀{ds:Ya},ds.all (jQ F)=true->ds.map jI=(ds.map λd=>fE (jI d)).map gB
 | [],_=>rfl
 | d::ds,h=>by
  rw[List.all_cons,aP]at h;obtain⟨a,b,rfl,h1,_⟩:=qH h.1;rw[bC,bC,bC,<-CV h.2];congr 1;exact(FH h1).1
inductive sD:Yi
 | i {H:Hp} {Q:VK} {E:XK} {t av x:V} {d:PyData} {fs:Ah} {ws:Y0d} {M:Nat} {bs mix cs:Ak} (h0:Y40) (h1:Y5f M) (h2:Y2n) (h3:1<=fs.length) (h4:Y9D 4) (h5:M<=5) (h6:∀es,Y5k d es->es.length<=64) (q0:∀H',Y0->Y2i (mN fs.length M d)):sD [t,av,x] H Q E
inductive oX:Yi
 | i {H:Hp} {Q:VK} {E:XK} {t av x:V} {d:PyData} {wd:Str} {n:Nat} {fs:Ah} {ws:Y0d} {M:Nat} {bs mix cs:Ak} (h0:Y40) (h1:Y5f M) (h2:Y2n) (h3:2<=n) (h4:1<=fs.length) (h5:Y9D 4) (h6:M<=5) (h7:ws.length<=64) (h8:WdD d) (h9:Y3i Y4l) (q0:∀H',Y0->Y2i (rP fs.length ws.length M wd n d)):oX [t,av,x,Y4l,.int (n:Nat)] H Q E
def yM{α:Type}{xs:Yn}{k:Nat}{y:α}(k1:1<=k)(hk:Y4Z k)(h:Y1Z (Y51 k)=Y00):Y4I (-(k:Int))=Y00:=by
 unfold xM ixN;rw[Y9G,YcI];show Y1Z ((-(k:Int)+(xs.length:Int)).toNat)=Y00;rw[show(-(k:Int)+(xs.length:Int)).toNat=xs.length-k by exact Oo];exact h
section
def aGy(F:Yb "are_worths" "are_worths" aCC)(T:Yd)(FQ40:Yv "faces_of" a28 lE)(FQ50:Y1I "is_worth" a16 (sC K))(FQ23:Y0K 6 "all_counts" ["faces","most"] xZ):cX P w K mg base cN 7 f fd a10 sD:=by
 refine Y1k aFd;obtain @⟨H,Q,E,t,av,x,d,fs,ws,M,bs,γ,cs,κ,ra,r,ν,θ,ψ,sm,q⟩:=h;refine Yh;intro ε A N s χ _;obtain⟨aa,x1,x2,x3,rfl,L,_⟩:=rV ra;refine⟨_,(aI (Y6C 3 aFd.nd (Y3q FQ40))
  (aI (Y5U (cT (fQ K) (by rfl) T.b_isinstance Kk (Y5Y 2 (Yak (.ty "tuple") "tuple" rfl T.b_tuple Kk rfl))) (Ya2 (cT (BH rfl) (by rfl) T.b_all Kk (Y81 ["one","faces"] [3] (Y2x 2) (Y1a FQ50 1 0)))))
  (Y0R (jY (AL χ.units) (Y7V ["one"] [] (Y2x 2) (Y5j 0 aE)) (Y1O FQ23 3 Y16))))),?_⟩
 refine Yo;intro α ξ;refine Y1 (lE.i κ ?_);refine Ys;intro α ξ;refine Y6H r.k;refine Y3;cases d with
 | tuple ds =>
  refine Y1f;obtain⟨a,β,rfl,R,l⟩:=dF r;have η:=sm ds rfl;have τ:β.length=ds.length:=l.len;have m:Y15 YeM β:=by rw[List.map_id'];exact l
  refine Y3P a R (qR (Yen) Oo (fS.of R) l.k (λx d H' Q' hd rd W S=>?_) (λD H1 hD μ G=>?_))
  ·exact Y06 (sC.i rd Oo S)
  ·refine rall μ Y3;have e:mN fs.length M (Yy)=(ds.all (Yen)&&Yr (ds.map (Y9Q d)) (rise fs.length M)):=rfl;rw[e]at q;rw[List.all_map];by_cases g:ds.all (Yen)=true
   case neg =>
    have g:Y6 (ds.all (Yen)):=by simpa using g
    rw[show ds.all (id ∘ jQ fs.length)=ds.all (jQ fs.length)from rfl,g];rw[g]at q;refine Y7d;intro α;exact q H1 G
   rw[show ds.all (id ∘ jQ fs.length)=ds.all (jQ fs.length)from rfl,g];rw[g]at q;refine Y1f;have p:=G _ _ R;refine Y3P a p (mU (λi y H'=>∃e,ds[i]?=Y3S/\jQ fs.length e=true/\Y4x (gB (fE (jI e))) y) (λi y H1 H2 s ⟨e,B,h0,O⟩=>⟨e,B,h0,O.flat s (gT _)⟩) Oo p (λi y H' Q' j W S=>?_) (λD2 I H2 υ e2 s2 j U=>?_))
   ·obtain⟨e,X,re⟩:=cR m j;have Z:=Ydp g (aF X);obtain⟨ο,b0,rfl,B,_⟩:=qH Z;obtain⟨b,δ,rfl,ω,φ⟩:=dF ((re.same G).same W);obtain⟨u,v,rfl,hu,hv⟩:=iU φ;refine Y0i ω;exact S _ H' (Yx) ⟨_,X,Z,by show Y4x (gB (fE ο)) u;rw[<-(FH B).1];exact hu⟩
   ·have C:=G.trans s2;refine Y6s (C _ _ L);refine xZ.i ν θ ψ λD4 H4 J hD4 L4=>?_;obtain⟨δ,ζ,r4⟩:=L4;have ρ:aJ H4 ((ds.map λd=>fE (jI d)).map gB) I:=aJ.ofIdx (by rw[j,τ,aA,aA]) λi y ι=>by
     obtain⟨e,B,_,O⟩:=U i y ι;exact⟨gB (fE (jI e)),by rw[aX,aX,B];rfl,O.same J⟩
    refine YR (bL.lst (J _ _ e2) ρ) (bL.lst ζ r4) (qP _) (qP _) ?_;rw[Bool.true_beq];show Q (.bl (PyData.eqvAll ((ds.map λd=>fE (jI d)).map gB) ((rise fs.length M).map gB))) H4;rw[FI];have:=q H4 (C.trans J);rw[Bool.true_and]at this;exact this
 | _ =>
  refine Y8x;exact Y4F
def aGn(F:Yb "has_shape" "has_shape" aCs)(T:Yd)(FQ48:Yv "is_tuple_of" a02 (gL K))(FQ27:Y0K 4 "are_prices" a36 (sE K))(FQ30:Y0K 7 "are_worths" a10 sD):cX P w K mg base cN 8 f fd a18 oX:=by
 refine Y1k aHs;obtain @⟨H,Q,E,t,av,x,d,wd,n,fs,p,M,bs,W,cs,R,ra,r,n2,θ,β,τ,O,ζ,N,q⟩:=h;refine Yh;intro α A I s ξ _;refine⟨_,(aI (Y5U (Y1a FQ48 2 4) (kY (dY (EO ξ.units) (Y31) (Y1j))))
  (Y0R (jL (Y1O FQ27 0 (Y4M 2 (yW tI aE))) (kI (mK FQ30 (Yw) (Y0f) (Y4M 2 (yW tI aE))))))),?_⟩
 refine Yo;intro φ n_;refine Y06 (gL.i r.k ?_);refine Y3;by_cases ht:jN (n:Nat) d=true
 ·cases d with
  | tuple ds =>
   have L:Y2P n:=by have:((ds.length:Nat):Int)=(n:Nat):=Ydg;exact Oo
   have e:rP fs.length p.length M wd n (Yy)=(Y9W 0 wd&&(Y8D (p.length:Nat) (n-2)&&mN fs.length M (Y2J (n-1)))):=by
    show(YaL n&&_)=_;rw[bH L,Bool.true_and]
   rw[e]at q;obtain⟨w1,η,ι⟩:=ζ;rw[ht];refine Y1f;obtain⟨a,g,rfl,J,B⟩:=dF r;have S:g.length=ds.length:=B.len;have at_:∀i,i<n->∃y,g[i]?=Y00/\Y0r (Y2J i) y/\Y2J i∈ds:=λi hi=>by
    have m:Y15 YeM g:=by rw[List.map_id'];exact B
    obtain⟨y,U⟩:∃y,g[i]?=Y00:=Y3U;obtain⟨e,G,ψ⟩:=cR m U;exact⟨y,U,by rw[bI,G];exact ψ,by rw[bI,G];exact aF G⟩
   obtain⟨y0,ω,ρ,X⟩:=at_ 0 Oo;obtain⟨κ,ν,δ,m2⟩:=at_ (n-2) Oo;obtain⟨ο,υ,ε,m1⟩:=at_ (n-1) Oo;have γ:xM g (-2)=some κ:=yM (k:=2) Oo Oo (by rw[S,L];exact ν);have μ:xM g (-1)=some ο:=yM (k:=1) Oo Oo (by rw[S,L];exact υ);refine Y1 (Y8c J 0 ω ?_);refine Y1 (YR ρ (bL.str wd) (η _ X) N ?_);refine Y3;by_cases C:Y9W 0 wd=true
   ·rw[C]at q ⊢;refine gA (Y06 (Y1 (gU J γ ?_)));refine sE.i R δ.k O λH1 l=>Y3;rw[Bool.true_and]at q;by_cases D:Y8D (p.length:Nat) (n-2)=true
    ·rw[D]at q ⊢;refine fJ (Y54 (Y1 (gU (l _ _ J) μ ?_)));exact sD.i (R.same l) (ra.same l) (ε.same l) θ β τ (ι _ m1) λH2 χ=>q H2 (l.trans χ)
    ·have D:Y6 (Y8D (p.length:Nat) (n-2)):=by simpa using D
     rw[D]at q ⊢;exact gA (q H1 l)
   ·have C:Y6 (Y9W 0 wd):=by simpa using C
    rw[C]at q ⊢;refine Y7d;intro φ;exact Y4F
  | _=>cases ht
 ·have u:Y6 (jN (n:Nat) d):=by simpa using ht
  rw[u];refine Y5N;have e:Y6 (rP fs.length p.length M wd n d):=by
   cases d with
   | tuple ds =>
    show Y6 (YaL n&&_);have:¬Y2P n:=λh=>by
     have Z:Y6 (Yr ((ds.length:Nat):Int) (n:Nat)):=u;exact absurd (show((ds.length:Nat):Int)=(n:Nat)by exact Oo) (of_decide_eq_false Z)
    rw[bP this,Bool.false_and]
   | _=>rfl
  have:=Y4F;rw[e]at this;exact this
end
abbrev sQ0:Stmt:=(aAn (top 6) 0)
def cQ0:Yc a13 a13 sQ0:={}
abbrev aCA:Stmt:=(top 71)
def aAC:Yc ["trial","aim","rule","entry","way","share"] a38 aCA:={}
inductive oA (C:Addr):Yi
 | i {H:Hp} {Q:VK} {E:XK} {a:Addr} {x y:V} (e:H a=Y6e a C none) (q:∀d H',H d=none->d≠a->H' a=Y6e a C Y2B->H' d=Y9S d [("word",x),("at",y)]->(Y0I (b≠a) (b≠d->H b=Y5->Y1q=Y5))->Q .non H'):oA C [Y7,x,y] H Q E
section
def oQ0(F:Yb "__init__" "NoPaper.__init__" sQ0)(T:Yd):cX P w K mg base cN 1 f fd a13 (Ycc):=by
 refine F.oky cQ0 λD H Q E h=>?_;obtain @⟨H,Q,E,a,x,y,l,q⟩:=h;refine Yh;intro r A i s C _;refine⟨_,(aI (gI (RP T.bc_EarlyError T.g_EarlyError (Y55 Yw 1 (Y2r 2))))
  (aI (LE (Yw) (Y0f))
  (aS (LE (Yw) (aC 2))))),?_⟩
 refine Yo;intro u B;refine⟨_,rfl,_,rfl,_,rfl,a,c.NoPaper,none,_,rfl,by show 3<=64;decide,l,(gW.shape T.st_NoPaper),Y6f⟩;intro u B;refine⟨_,rfl,_,rfl,a,c.NoPaper,rfl,(Ydr),(YdE (by simp)),Y3e l (λd m g=>?_)⟩;refine⟨_,rfl,_,rfl,a,c.NoPaper,rfl,(Ydr),(YdE (by simp)),.inr ⟨d,_,(cH (Ne.symm g)).trans bR,bR,?_,?_⟩⟩
 ·show 1<1000;decide
 ·refine q d _ m g ?_ ?_ λb o p j e=>?_
  ·rw[cH (Ne.symm g),cH (Ne.symm g),bR]
  ·rw[bR];congr 2
  ·rw[cH j,cH j,cH p];exact e
end
abbrev RfE(C:Addr)(H:Hp)(E:XK)(wd:Str)(d:PyData):Prop:=∀H' x v,Y0->H' x=Y9S x [("word",Y4l),("at",v)]->Y4x d v->E (Yp) (Y9) H'
def RfE.same{C:Addr}{H H':Hp}{E:XK}{wd:Str}{d:PyData}(h:RfE C H E wd d)(s:Y0):RfE C H' E wd d:=λH2 x v a=>h H2 x v (s.trans a)
def rzP{C:Addr}{wd:Str}{d:PyData}{v:V}{H1:Hp}{Ex:XK}(h:RfE C H1 Ex wd d)(r:bL H1 d v):[V.str wd,v].length<=64/\∀a,H1 a=none->oA C (Y7::[Y4l,v]) (upd H1 a (kS a C none)) (λv H2=>v=.non/\∃od,H2 a=Y6e a C od/\Ex (Yp) od (del H2 a)) E0:=by
 refine⟨by show 2<=64;decide,λm g=>?_⟩;refine oA.i bR λd H' hd c x u p=>?_;have sm:aV H1 (del H' m):=λb o e=>by
  have l:b≠m:=λz=>by subst z;rw[g]at e;cases e
  have j:H1 d=none:=by rw[cH c]at hd;exact hd
  have w:b≠d:=λz=>by subst z;rw[j]at e;cases e
  rw[qN l];exact p b o l w (by rw[cH l];exact e)
 exact⟨rfl,Y2B,x,h _ d _ sm ((qN c).trans u) (r.same sm)⟩
def Fst(n:Nat)(bad:Y18 Nat)(o:Ycq):Prop:=(∀i,o=some i->i<n/\bad i/\∀j,j<i->¬bad j)/\(o=none->∀j,j<n->¬bad j)
def Fst.at_{n:Nat}{bad:Y18 Nat}{o:Ycq}(h:Fst n bad o){i:Nat}(hi:i<n)(b:bad i)(f:∀j,j<i->¬bad j):o=some i:=by
 cases o with
 | none=>exact absurd b (h.2 rfl i hi)
 | some k =>
  obtain⟨d,c,a⟩:=h.1 k rfl;rcases Nat.lt_trichotomy k i with q | q | q
  ·exact absurd c (f k q)
  ·rw[q]
  ·exact absurd b (a i q)
def Fst.no{n:Nat}{bad:Y18 Nat}{o:Ycq}(h:Fst n bad o)(f:∀j,j<n->¬bad j):o=none:=by
 cases o with
 | none=>rfl
 | some k=>obtain⟨a,c,_⟩:=h.1 k rfl;exact absurd c (f k a)
structure aFh(F W M:Nat)(ss:Aj)(mix ps cs:Ak)(val:Ae->Fr)(Ns Nm Np Nc B:Nat):Prop where
 I:kC F W M ss mix ps cs Ns Nm Np Nc B
 nv:∀c∈rise F M,Y43->∀j,j<F->Y1d Ns Nm Np Nc (Y2H*B) (Y7k c j)
 lw:∀c∈rise F M,dM (val c)/\Y4c (val c)
def aD1(W F M:Nat)(ss:Aj)(mix ps cs:Ak)(val:Ae->Fr)(c:Ae):Prop:=∃q∈SW W F M (qW ss) (Y8Y) (fO ps) (fO cs) (YcS d) c,q<rv (val c)
def KM(W F M:Nat)(ss:Aj)(mix ps cs:Ak)(val:Ae->Fr)(i:Nat):Prop:=aD1 W F M ss mix ps cs val ((rise F M).getD i [])
inductive uT (K:Aa) (C:Addr):Yi
 | i {H:Hp} {Q:VK} {E:XK} {t av pv wv:V} {F W M:Nat} {fs:Ah} {ws:Y0d} {bs mix ps cs:Ak} {val:Ae->Fr} {Ns Nm Np Nc B:Nat} {o:Ycq} (h0:Y40) (h1:vO K H M bs mix cs av) (h2:Y23 ps pv) (h3:Y0r (woD (Y1h) val) wv) (h4:aFh F W M (Y1x) mix ps cs val Ns Nm Np Nc B) (h5:∀x∈ws,BOk 10 x.2) (h6:Fst (Y1h).length (KM W F M (Y1x) mix ps cs val) o) (q0:∀i,o=some i->RfE C H E "worth" (gB ((rise F M).getD i []))) (q1:o=none->∀H',Y0->Q .non H'):uT K C [t,av,pv,wv] H Q E
abbrev XG(wd:Str)(d:PyData):Prop:=cV d=true/\Y3i (Y0a Y4l d)
def XG.of{wd:Str}{d:PyData}{n:Nat}(h:cV d=true)(hw:Y37 wd=true)(hd:mG n d)(hn:n<=60):XG wd d:=⟨h,(mG.tup (n:=n+1) λe a=>by
 rcases Y2S with rfl | a
 ·exact⟨hw,by simp[PyData.depth]⟩
 ·rw[Y7s];exact⟨hd.1,Nat.le_succ_of_le hd.2⟩).ok Oo⟩
def XG.ct{wd:Str}(c:Ae)(hw:Y37 wd=true):XG wd (gB c):=XG.of (n:=2) (gT c) hw (mG.tup (n:=1) λd a=>by
 obtain⟨z,_,rfl⟩:=Y7r;exact mG.int z) Dd
abbrev RfX(C:Addr)(H:Hp)(E:XK):Prop:=∀wd d,XG wd d->wd≠Str.ofString "shape" -> RfE C H E wd d
def TF{F W:Nat}{fs:Ak}(h:WQ (1+W) fs)(h0:fO fs 0=0):BN F W 0 [(Y0e,fs)]:=by
 have z:∀e∈[((List.replicate F 0,fs):eJ)],Yu=0:=λe a=>by rw[Y7s];exact h0
 refine⟨⟨YaO _ [],λe a=>?_,by simp,by simp,λe a h=>absurd (z e a) h,λd hd h=>absurd (by simpa using hd) h,λe a=>by rw[z e a];exact Rat.le_refl⟩,λe a=>?_,λe a=>?_,by simp,λe a h=>absurd (z e a) h⟩
 ·rw[Y7s];simp
 ·rw[Y7s];simp
 ·rw[Y7s];exact h
inductive uU (C:Addr):Yi
 | i {H:Hp} {Q:VK} {E:XK} {t av x:V} {d:PyData} {F W A:Nat} {fs:Ah} {ws:Y0d} {bs mix cs:Ak} (h0:Y40) (h1:Y5f A) (h2:Y2n) (h3:XE d) (h4:Y7a F) (h5:1<=F) (h6:F<=4) (h7:W<=4) (h8:TrQ W ws) (h9:Y8p W) (h10:∀f∈bs,Y0A/\Y4C) (q0:RfX C H E) (q1:∀hs H',d=WY [(Y0e,hs)]->WQ (1+W) hs->fO hs 0=0->Y0->Q .non H'):uU C [t,av,x] H Q E
section
def aGw(F:Yb "check_rule" "check_rule" aCA)(T:Yd)(FQ0:FnI P w K mg base 1 c.NoPaper a13 (Ycc))(FQ46:Y0K 8 "is_rule" a08 uQ)(FQ40:Yv "faces_of" a28 lE)(FQ68:Yv "ways_of" a28 gG)(FQ71:Y0K 5 "wrong" ["trial","rule"] uJ)(FQ45:Yv "is_less" a00 (kL K)):cX P w K mg base (BM P w) 9 f fd a38 (uU c.NoPaper):=by
 refine F.okx aAC (λvs H Q E h=>?_) (λcdv A δ s H vs Q E ε h C hmd=>?_)
 ·obtain @⟨H,Q,E,t,av,x,d,F,W,Am,fs,ν,bs,O,ω,_,_,_,_,_,_,_,_,_,_,_,_,_⟩:=h
  rfl
 ·obtain @⟨H,Q,E,t,av,x,d,F,W,Am,fs,ν,bs,O,ω,β,ra,j,sm,hf,ξ,f4,ο,TQ,bl,bz,κ,qn⟩:=h;obtain⟨τ,xb,xm,xc,rfl,I,Z,rxm,rxc⟩:=rV ra;obtain⟨ab,vb,rfl,S,γ⟩:=jB Z;refine⟨_,(aI (eX (iD (dX (mK FQ46 (Y3q FQ40) (Y3q FQ68) (aC 2)))) (aS (kZ FQ0 T.g_NoPaper rfl (ε.mono Dd) kX (Y2s dB rA))) cY)
   (aI (eA PassesOwn.leaving rfl (Y2x 2) (Y6T 3 aAC.nd) (aS (eX (dY xC (cT (yK K rfl) (by rfl) T.b_sum Kk (Y1r (Y3A 3))) (Y16)) (aS (kZ FQ0 T.g_NoPaper rfl (ε.mono Dd) kX (Y2s dB (Y3A 3)))) cY)))
   (aS (eA PassesOwn.leaving rfl (XJ true rfl T.b_enumerate (Y1r (Y1a FQ71 0 2))) (tH rfl (Y7o 4 aAC.nd (Y7o 5 aAC.nd pT))) (aS (eX (dX (cB FQ45 (Y33 Y16 (aC 4)) (aC 5))) (aS (kZ FQ0 T.g_NoPaper rfl (ε.mono Dd) kX (Y2s dB (aC 4)))) cY)))))),?_⟩
  refine Yo;intro ζ n_;refine Y1 (lE.i β ?_);refine Y1 (gG.i β ?_);rw[hf,TQ.w];refine Y3;refine uQ.i j ξ f4 ο sm λb H1 θ η=>Y3;cases b with
  | false =>
   refine Y7d;intro ζ;exact rzP ((κ "rule" .none ⟨rfl,Kk⟩ Dd).same θ) bL.non
  | true =>
  refine Y1f;obtain⟨hs,rfl,φ,υ⟩:=η rfl;have R:=TF (F:=F) φ υ;obtain⟨a,xs,rfl,ρ,L⟩:=dF j;have lx:Y2v 1:=cQ L;refine Y3P a (θ _ _ ρ) (Y9g xs (∃m l r:An,σ=[some t,Y4 τ,Y1y,m,l,r]/\Y0) (Y2j _ _ θ) Y7Y ?_ ?_)
  ·obtain⟨_,_,_,_,X⟩:=p;exact fS.of (X _ _ ρ)
  ·rintro i x σ H2 C ⟨m,l,r,rfl,B⟩;refine Y22;intro ζ;obtain⟨e,he,re⟩:=cR L C;have α:=aF he;obtain⟨b,u,z,rfl,η,ru,rz⟩:=CY (re.same B);obtain⟨cu,rfl,N⟩:=gX ru;refine Y0i η;refine YeA (ci e.1) (by rw[iG];exact fS.of N);rw[FK];refine Y0i (B _ _ I);refine Y3R _ _ _ ?_;have:=R.sum e α;exact AY (bP Oo) (Y2j _ _ B)
  ·rintro σ H2 ⟨m,l,r,rfl,B⟩;refine Y0F;refine uJ.i (β.same B) (j.same B) R ξ Oo Oo ο TQ λv3 H3 s3 r3=>?_;obtain⟨aw,ι,rfl,J,G⟩:=jB r3;have lvw:ι.length=W:=by rw[cQ G,aA,bG]
   have S3:=B.trans s3;refine Y0v aw ι J (VG (n:=0) (xs:=ι) (λi σ H'=>∃m l r:An,σ=[some t,Y4 τ,Y1y,m,l,r]/\aV H3 H') (Y2j _ _ Yx) (λi σ H' p=>?_) ?_ ?_)
   ·obtain⟨_,_,_,_,X⟩:=p;exact X _ _ J
   ·rintro i x χ σ H4 H5 C ⟨m,l,r,rfl,D⟩ hq4 e5 U;have μ:i<W:=by have:=(aT.mp C).1;exact Oo
    obtain⟨g,M,rg⟩:=cR G C;rw[aX,eS μ]at M;cases M;obtain⟨g,M⟩:∃g,bs[i]?=Y8T:=Y3U;obtain⟨gl,ψ⟩:=bz g (aF M);obtain⟨y,hy,ry⟩:=aJ.atX γ M;have n2:Fn (vM 1 1) (2^161) (wrF F W [(Y0e,hs)] (nQ ν) i):=(Y5T (R.wr Oo TQ μ)).fq;have S5:=(S3.trans D).trans U;refine⟨χ,_,rfl,fS.of e5,rfl,_,_,rfl,_,_,rfl,rfl,Y2g⟩;intro ζ;rw[show(0:Int)+(i:Int)=(i:Int)by exact Oo];refine Y0i (S5 _ _ I);refine Y1 (Y5W (S5 _ _ S) hy);refine Y1 (kL.i (iN.of (ry.same S5)) (iN.of ((rg.same D).same U)) ψ (rB tQ n2 (AI Dd)) ?_);refine Y1 (nR (Y6k) (Y6k))
    ·exact Y1 (rzP ((κ "wrong" (.int (i:Nat)) (XG.of (n:=1) rfl Kk (mG.int _) Dd) Dd).same S5) (Yas))
    ·exact Y2j _ _ (D.trans U)
   ·rintro σ H4 ⟨m,l,r,rfl,D⟩;exact qn hs H4 rfl φ υ (S3.trans D)
end
abbrev aCz:Stmt:=(top 72)
def WD:Yc ["trial","aim","prices","worths","worth_of","counts","worth","sums"] a30 aCz:={}
theorem QX.any{N:Nat}{qs:Y4g}{gs:Ak}(h:QX N qs gs){v:Fr}(hv:dM v){bs:Y8m}(hl:Y8p gs.length)(hb:∀(i:Nat) (b:Bool),bs[i]?=Y5Q->∃g,gs[i]?=Y8T/\b=Y2A (g.1*v.2) (v.1*g.2)):YcM=true ↔ ∃q∈qs,q<rv v:=by
 rw[List.any_eq_true];constructor
 ·rintro⟨b,a,e⟩;obtain⟨i,m⟩:=iO.mp a;obtain⟨g,j,rfl⟩:=hb i b m;have a:=aF j;exact⟨rv g,by rw[<-h.v];exact Y76 g a,(TD (h.n g a).low.pos hv.pos).mp (Yfo)⟩
 ·rintro⟨q,l,lt⟩;rw[<-h.v]at l;obtain⟨g,a,rfl⟩:=aU.mp l;obtain⟨i,j⟩:=iO.mp a;obtain⟨b,c⟩:∃b,bs[i]?=Y5Q:=Y3d (by have:=(aT.mp j).1;exact Oo);obtain⟨p,d,rfl⟩:=hb i b c;rw[j]at d;cases d;exact Y1o (aF c) (bH ((TD (h.n g a).low.pos hv.pos).mpr lt))
theorem DC{β:Type}{P:Y8N Bool}:∀{ys:Al},(∀(i:Nat) (y:V),Y1i=Y00->∃b,y=.bl b/\P i b)->∃bs:List Bool,ys=Y9u/\∀(i:Nat) (b:Bool),bs[i]?=Y5Q->P i b
 | [],_=>⟨[],rfl,λi b h=>by simp at h⟩
 | y::ys,h=>by
  obtain⟨b,rfl,hb⟩:=h 0 y rfl;obtain⟨bs,rfl,a⟩:=DC (β:=β) (P:=λi=>P (i+1)) (ys:=ys) λi z e=>h (i+1) z (by simpa using e);refine⟨b::bs,rfl,λi c d=>?_⟩;cases i with
  | zero=>cases(show b=c by simpa using d);exact hb
  | succ i=>exact a i c (by simpa using d)
section
def aGv(F:Yb "check_worths" "check_worths" aCz)(T:Yd)(FQ0:FnI P w K mg base 1 c.NoPaper a13 (Ycc))(FQ64:Y0K 4 "sums_at" a22 (xU K))(FQ45:Yv "is_less" a00 (kL K)):cX P w K mg base (BM P w) 5 f fd a30 (uT K c.NoPaper):=by
 refine F.okx WD (λψ H Q E h=>?_) (λcdv A ι s H ψ Q E ξ h hx hmd=>?_)
 ·obtain @⟨H,Q,E,t,av,pv,wv,F,W,M,fs,δ,bs,e,X,Z,val,Ns,Nm,Np,Nc,B,o,_,_,_,_,_,_,_,_,_⟩:=h
  rfl
 ·obtain @⟨H,Q,E,t,av,pv,wv,F,W,M,fs,δ,bs,e,X,Z,val,Ns,Nm,Np,Nc,B,o,rt,ra,rp,ω,V0,hb,fo,qe,qn⟩:=h;have I:=V0.I;have f1:=I.f1;have f4:=I.f4;have m5:=I.m5;have r4:=GS F f4 M m5;obtain⟨a,xs,rfl,τ,d⟩:=dF ω;have r:Yag ((rise F M).map (YeQ [gB c,Ya1 c])):=d;clear d;have lx:Y2v ((Y1h).length):=cQ r;obtain⟨υ,p1,p2,κ⟩:=TX (λc:Ae=>c) (λc=>Ya1 c) (Y1h) xs r;have κ:=κ (by rw[List.map_id'];exact yE F f4 M m5);have lkv:υ.length=(Y1h).length:=by have:=Y4P p2;rwa [aA,aA]at this
  refine⟨_,(aI (Y67 WD.nd (mL (IA ξ.units rfl) (by rfl) T.b_dict Kk (Y2r 3)))
   (aS (eA PassesOwn.leaving rfl (Y2x 3) (tH rfl (Y7o 5 WD.nd (fU (cS (i:=6) WD.nd rfl (Or.inr rfl)) pT))) (aI (cA (i:=7) WD.nd (mJ FQ64 (ξ.mono Dd) (Y55 Yw 1 (Y55 (aC 2) 5 (Y2r 4)))))
   (aS (eX (dX (cT (aDU rfl) (by rfl) T.b_any Kk (Y81 ["one","worth"] [6] (fX (aC 7)) (Y1a FQ45 0 1)))) (aS (kZ FQ0 T.g_NoPaper rfl (ξ.mono Dd) kX (Y2s dB (aC 5)))) cY)))))),?_⟩
  refine Yo;intro d_ n_;refine Y3;refine rdcp τ p1 (by rw[p2];exact aBe (ky:=λc:Ae=>c) (by rw[List.map_id'];exact yE F f4 M m5)) Oo λD H1 hD e1 U=>Y3P a (U _ _ τ) (Y9g xs (∃ζ ε ρ:An,σ=[some t,Yab,some pv,Y1y,Y4 D,ζ,ε,ρ]/\aV H1 H'/\∀j,j<i->¬KM W F M (nQ δ) e X Z val j) ⟨_,_,_,rfl,Yx,λj S=>Oo⟩ Y7Y ?_ ?_)
  ·obtain⟨_,_,_,_,O,_⟩:=p;exact fS.of (O _ _ (U _ _ τ))
  ·rintro i x σ H2 hx ⟨ζ,ε,ρ,rfl,N,hs⟩;have S2:=U.trans N;obtain⟨C,m,re⟩:=cR r hx;have γ:=aF m;have θ:=(aT.mp m).1;have l:(rise F M).getD i []=C:=mP m;obtain⟨lc,sc⟩:=(jC f1).mp γ;obtain⟨b,zs,rfl,ο,ν⟩:=dF (re.same S2);obtain⟨u,z,rfl,ru,ν⟩:=iU ν;obtain⟨vl,vz⟩:=V0.lw C γ;refine⟨b,[u,z],rfl,fS.of ο,rfl,u,[z],rfl,z,[],rfl,rfl,Yo⟩;intro d_ n_;refine⟨_,rfl,_,rfl,_,rfl,_,rfl,_,rfl,?_⟩;refine xU.i (rt.same S2) (ra.same S2) (rp.same S2) ru (N _ _ e1) I hb lc sc (λlt j S=>V0.nv C γ lt j S) (λlt j S=>?_) λL ψ gs H3 R hL e3 r3 ok=>?_
   ·have η:cC C j∈Y1h:=(jC f1).mpr ⟨by rw[pK];exact lc,by rw[iT Oo];exact Oo⟩;obtain⟨v,k1,k2⟩:=κ _ η;exact⟨v,k1,k2.same S2⟩
   ·have lv:ψ.length=gs.length:=cQ r3;have l5:=ok.l1;refine Y5P L e3 (pH (λi y _=>∃b,y=V.bl b/\∃g,gs[i]?=Y8T/\b=Y2A (g.1*(val C).2) ((val C).1*g.2)) (YdD) Oo e3 (λi y H' Q' χ O k'=>?_) (λD4 ys H4 hD4 e4 α χ φ=>?_))
    ·obtain⟨g,hg,rg⟩:=cR r3 χ;have gn:=ok.n g (aF hg);refine Y06 (kL.i (iN.of (rg.same O)) (iN.of ((ν.same R).same O)) (fZ I gn (aM (by have:=aAN;exact Oo) tG)) vz ?_);exact k' _ H' (Yx) (Y3N _ g hg rfl)
    ·obtain⟨tb,rfl,μ⟩:=DC (β:=Unit) φ;rw[aA]at χ;have J:=ok.any vl (bs:=tb) Oo μ;refine rany e4 Y3;by_cases z:tb.any id=true
     ·rw[z];refine Y7d;intro d_;refine Y3;have G:KM W F M (nQ δ) e X Z val i:=by unfold KM aD1;rw[l];exact J.mp z
      have:=qe i (fo.at_ θ G hs);rw[l]at this;exact rzP ((this.same S2).same (R.trans α)) ((ru.same R).same α)
     ·rw[Bool.not_eq_true]at z;rw[z];refine gA ⟨_,_,_,rfl,(N.trans R).trans α,λj S=>?_⟩;by_cases ej:j=i
      ·subst ej;intro q;unfold KM aD1 at q;rw[l]at q;have:=J.mpr q;rw[z]at this;cases this
      ·exact hs j Oo
  ·rintro σ H2 ⟨ζ,ε,ρ,rfl,N,hs⟩;rw[lx]at hs;exact qn (fo.no hs) H2 (U.trans N)
end
def gC(f:Fr):Prop:=Y0A/\f.1.natAbs<2^140/\f.2.natAbs<2^140
theorem sH{f:Fr}:∀{l:Ak},f∈l->f.2.natAbs ∣ Y8Z
 | g::l,h=>by
  show _ ∣ g.2.natAbs*dens l;rcases aK.mp h with rfl | h
  ·exact Nat.dvd_mul_right _ _
  ·exact Nat.dvd_trans (sH h) (Nat.dvd_mul_left _ _)
theorem vE:∀{l:Ak},(∀f∈l,gC f)->0<Y8Z/\Y8Z<=(2^140)^l.length
 | [],_=>⟨Nat.one_pos,aO _⟩
 | g::l,h=>by
  obtain⟨h1,h2⟩:=vE (l:=l) λf c=>h f (aQ _ c);obtain⟨a,_,d⟩:=h g (aG ..);have p:=a.pos;refine⟨gE Oo h1,?_⟩;show g.2.natAbs*dens l<=(2^140)^(l.length+1);rw[Nat.pow_succ,Nat.mul_comm];exact Nat.mul_le_mul h2 Oo
def gC.fn{f:Fr}(h:gC f):Fn f.2.natAbs (2^140) f:=by
 obtain⟨l,a,c⟩:=h;have p:=l.pos;refine Qn.f l (Y3l f.1)
 ·have:=AA p;have e:((f.2.natAbs:Nat):Rat)=(f.2:Rat):=by
   have:((f.2.natAbs:Nat):Int)=f.2:=Oo;rw[<-rM,this]
  rw[e];exact this
 ·have:2^140<=2^140*f.2.natAbs:=Nat.le_mul_of_pos_right _ Oo;exact Oo
def gC.sz{f:Fr}(h:gC f):Y4C:=by
 obtain⟨l,a,c⟩:=h;have:(2:Nat)^140<2^4000:=Y6N Dd;exact Y2h Oo
def aEs{F W M:Nat}{fs:Ah}{ws:Y0d}{mix ps cs:Ak}{val:Ae->Fr}(T:XD F W fs ws)(f1:2<=F)(f2:F<=2)(w1:1<=W)(w3:W<=3)(m2:M<=2)(hm:IV W mix)(pl:Y9N W)(hp:∀f∈ps,gC f)(cl:Y9O M)(hc:∀f∈cs,yQ f)(hv:∀c∈rise F M,gC (val c)):aFh F W M (Y1x) mix ps cs val gD gD (Y1u*dens ((rise F M).map val)) (Y57) (2^140):=by
 have m:∀f∈(rise F M).map val,gC f:=λf a=>by
  obtain⟨c,hc,rfl⟩:=Y7r;exact hv c hc
 obtain⟨L,G⟩:=vE hp;obtain⟨C,D⟩:=vE m;have P:(Y1h).length<=6:=by
  have:∀F,F<=2->∀M,M<=2->(Y1h).length<=6:=Kk;exact this F f2 M m2
 have h:Y1u<=2^420:=aM G (by rw[<-Nat.pow_mul];exact Y2w Oo);have i:dens ((rise F M).map val)<=2^840:=aM D (by rw[<-Nat.pow_mul,aA];exact Y2w Oo);have A:=rS hc;have J:=vD hc Oo;have s0:0<gD:=Dd;have u:gD<=2^22:=Dd;have y:gD^M<=2^44:=aM (Nat.pow_le_pow_left u M) (by rw[<-Nat.pow_mul];exact Y2w Oo);have g:Y57<=2^50:=aM J Dd;have big:Y1u*dens ((rise F M).map val)*Y57*gD*gD^M<=2^420*2^840*2^50*2^22*2^44:=Yg9 (Yg9 h i g) u y;have e:0<Y1u*dens ((rise F M).map val)*Y57*gD*gD^M:=gE (gE (gE (gE L C) A) s0) (Nat.pow_pos s0);have I:kC F W M (Y1x) mix ps cs gD gD (Y1u*dens ((rise F M).map val)) (Y57) (2^140):={
  f1:=Oo
  f4:=Oo
  w1:=w1
  w4:=Oo
  m5:=Oo
  sl:=by rw[aA];exact T.w
  ml:=hm.len
  pl:=pl
  cl:=cl
  sh:=λs hs=>by
   obtain⟨x,p,rfl⟩:=aU.mp hs;exact⟨(T.sh x p).len,λf a=>((T.sh x p).at f a).1⟩
  mx:=λf a=>(hm.at f a).1
  pr:=λf a=>(hp f a).fn.dvd (Nat.dvd_trans (sH a) (Nat.dvd_mul_right _ _))
  co:=λf a=>(yJ hc f a).le (aM (show 999<=2^10 by decide) (aL Dd Dd))
  pos:=e
  sz:=bK big (by rw[<-Nat.pow_add,<-Nat.pow_add,<-Nat.pow_add,<-Nat.pow_add];exact Y6N Dd)
  b:=by
   unfold WB;exact Ya0 (show 2097152*2^140<=2^161 by decide +kernel) }
 refine⟨I,λc d lt j O=>?_,λc d=>⟨(hv c d).1,(hv c d).sz⟩⟩;have l:=((jC I.f1).mp d).1;have r:cC c j∈Y1h:=(jC I.f1).mpr ⟨by rw[pK];exact l,by rw[iT Oo];exact Oo⟩;have N:=(hv _ r).fn.dvd (sH (aU.mpr ⟨_,r,rfl⟩):_ ∣ dens ((rise F M).map val));have B:dens ((rise F M).map val) ∣ oU M gD gD (Y1u*dens ((rise F M).map val)) (Y57):=by
  unfold oU;exact⟨Y1u*Y57*gD*gD^M,by ac_rfl⟩
 exact(N.dvd B).le (Yf5 Yg3)
def EI{F A:Nat}(f1:1<=F):(Y3E A)[0]?=some (Y0e):=by
 unfold rise;rw[List.range_succ_eq_map,List.flatMap_cons,vG F f1];rfl
def GB{H:Hp}{F A:Nat}{val:Ae->Fr}{v:V}(f1:1<=F)(h:Y0r (woD (Y3E A) val) v):∃a xs b u z,v=Y7/\H a=Y0O/\Y4I 0=Y4 b/\H b=Yl [u,z]/\Y3v (val (Y0e)) z:=by
 obtain⟨a,xs,rfl,g,d⟩:=dF h;have d:Yag ((rise F A).map (YeQ [gB c,Ya1 c])):=d;obtain⟨x,j,r⟩:=aJ.atX d (EI f1);obtain⟨b,m,rfl,i,e⟩:=dF r;obtain⟨u,z,rfl,_,l⟩:=iU e;exact⟨a,xs,b,u,z,rfl,g,dL j,i,l⟩
theorem vO.of{K:Aa}{H:Hp}{M:Nat}{bs mix cs:Ak}{v:V}(h:Y0r (sQ M bs mix cs) v):vO K H M bs mix cs v:=by
 obtain⟨a,m,e,g,c,i,d,j,l⟩:=rV h;exact⟨a,m,e,g,c,i,d,j,SaW.of l⟩
structure OkP(d:PyData):Prop where
 wd:WdD d
 ru:∀x1 x2 x3,Y5k d [.str "rule",x1,x2,x3]->XE x1
 nu:∀e∈jE d,(∀x∈jE e,dI x=true->gC (jJ x))/\∀x∈jE e,∀a b,x=Y0a a b->dI b=true->gC (jJ b)
def NG{d:PyData}{s:Str}(h:Yam d s=true):d=Y2C:=by
 cases d with
 | str t =>
  have h:Yr t s=true:=h;rw[of_decide_eq_true h]
 | _=>first | (exact absurd h (by simp[PyData.eqv])) | (exact absurd h (by simp[PyData.eqv,PyData.numEq]))
def aBn{W:Nat}{d:PyData}(h:kW (W:Nat) d=true)(nu:∀x∈jE d,dI x=true->gC (jJ x)):∃ps,d=jK ps/\Y9N W/\∀f∈ps,gC f/\0<=f.1:=by
 cases d with
 | tuple ds =>
  have h:(Yr ((ds.length:Nat):Int) (W:Nat)&&ds.all tZ)=true:=h;rw[aP,decide_eq_true_eq]at h;have all:∀e∈ds,e=eZ (jJ e)/\gC (jJ e)/\0<=(jJ e).1:=λe a=>by
   have c:=Ydp h.2 a;have g:dI e=true:=by
    cases hh:dI e with
    | true=>rfl
    | false=>rw[tY hh]at c;cases c
   obtain⟨n,k,rfl,i⟩:=FB g;rw[i]at c;exact⟨rfl,nu _ a g,of_decide_eq_true c⟩
  refine⟨YcL,Yfl ?_,by rw[aA];exact Oo,λf g=>?_⟩
  ·rw[List.map_map]
   conv=>lhs;rw[<-List.map_id ds]
   exact dD λe a=>(all e a).1
  ·obtain⟨e,a,rfl⟩:=aU.mp g;exact(all e a).2
 | _=>cases h
def aAU{F M:Nat}(f4:F<=4)(m5:M<=5){d:PyData}(h:mN F M d=true)(nu:∀x∈jE d,∀a b,x=Y0a a b->dI b=true->gC (jJ b)):∃val,d=woD (Y1h) val/\∀c∈rise F M,gC (val c):=by
 cases d with
 | tuple g =>
  have h:(g.all (jQ F)&&Yr (g.map (Y9Q d)) Y1h)=true:=h;rw[aP,decide_eq_true_eq]at h;obtain⟨B,p⟩:=h;have l:(g.map (Y9Q d)).Nodup:=by rw[p];exact yE F f4 M m5
  obtain⟨j,r⟩:∃j:PyData->Fr,∀a b,j (Y0a a b)=jJ b:=⟨λd=>match d with | .tuple [_,b]=>jJ b | _=>(0,1),λ_ _=>rfl⟩;obtain⟨val,m⟩:∃val:Ae->Fr,∀e∈g,val (fE (jI e))=j e:=by
   refine Y02 (λc=>((g.find? λe=>decide (fE (jI e)=c)).map j).getD (0,1));have:∀(g:Ya),(g.map (Y9Q d)).Nodup->∀e∈g,((g.find? λA=>decide (fE (jI A)=fE (jI e))).map j).getD (0,1)=j e:=λg=>by
    induction g with
    | nil=>intro _ e i;cases i
    | cons x g ih =>
     intro l e i;rw[bC,List.nodup_cons]at l;rw[List.find?_cons];rcases aK.mp i with rfl | i
     ·rw[bH rfl];rfl
     ·rw[bP λq=>l.1 (by rw[q];exact Y76 e i)];exact ih l.2 e i
   exact this g l
  have all:∀e∈g,e=Y0a (gB (fE (jI e))) (Ya1 (fE (jI e)))/\gC (val (fE (jI e))):=λe i=>by
   obtain⟨a,b,rfl,C,y⟩:=qH (Ydp B i);have u:=m _ i;rw[r]at u;rw[u];obtain⟨n,k,rfl,_⟩:=oK y;refine⟨?_,nu _ i _ _ rfl y⟩;show PyData.tuple [a,_]=Y0a (gB (fE a)) (eZ (n,k));rw[<-(FH C).1]
  refine⟨val,?_,λc w=>?_⟩
  ·show Y5k (PyData.tuple g) ((rise F M).map λc=>Y0a (gB c) (Ya1 c));rw[<-p,List.map_map];congr 1
   conv=>lhs;rw[<-List.map_id g]
   exact dD λe i=>(all e i).1
  ·rw[<-p]at w;obtain⟨e,i,rfl⟩:=aU.mp w;exact(all e i).2
 | _=>cases h
abbrev aCh:Stmt:=(top 67)
def aHh:Yc a10 a10 aCh:={}
def XD.trq{F W:Nat}{fs:Ah}{ws:Y0d}(T:XD F W fs ws):TrQ W ws:=⟨T.w,λx a f c=>((T.sh x a).at f c).1,T.b⟩
theorem KB(bad:Y18 Nat):∀n,∃o,Fst n bad o
 | 0=>⟨none,λi h=>by simp at h,λ_ j hj=>Oo⟩
 | n+1=>by
  obtain⟨o,h1,h2⟩:=KB bad n;cases o with
  | some i =>
   obtain⟨a,b,c⟩:=h1 i rfl;exact⟨some i,λj hj=>by cases hj;exact⟨Oo,b,c⟩,λq=>by cases q⟩
  | none =>
   have h2:=h2 rfl;by_cases z:bad n
   ·exact⟨some n,λj hj=>by cases hj;exact⟨Oo,z,h2⟩,λq=>by cases q⟩
   ·refine⟨none,λi h=>by simp at h,λ_ j hj=>?_⟩;by_cases e:j=n
    ·rw[e];exact z
    ·exact h2 j Oo
def MW{F W M:Nat}{wd:Str}{d:PyData}(h:rP F W M wd 4 d=true):∃x1 x2 x3,Y5k d [Y4l,x1,x2,x3]/\kW (W:Nat) x2=true/\mN F M x3=true:=by
 cases d with
 | tuple ds =>
  have h:(YaL 4&&(Y9W 0 wd&&(Y8D (W:Nat) 2&&mN F M (Y2J 3))))=true:=h;rw[aP,aP,aP,decide_eq_true_eq]at h;obtain⟨e,a,g,c⟩:=h
  match ds,e with
  | [x0,x1,x2,x3],_=>exact⟨x1,x2,x3,by rw[NG (d:=x0) a],g,c⟩
 | _=>cases h
def MX{F W M:Nat}{wd:Str}{d:PyData}(h:rP F W M wd 3 d=true):∃x2 x3,Y5k d [Y4l,x2,x3]/\kW (W:Nat) x2=true/\mN F M x3=true:=by
 cases d with
 | tuple ds =>
  have h:(YaL 3&&(Y9W 0 wd&&(Y8D (W:Nat) 1&&mN F M (Y2J 2))))=true:=h;rw[aP,aP,aP,decide_eq_true_eq]at h;obtain⟨e,a,g,c⟩:=h
  match ds,e with
  | [x0,x2,x3],_=>exact⟨x2,x3,by rw[NG (d:=x0) a],g,c⟩
 | _=>cases h
def oP(F W A:Nat)(d:PyData):Bool:=rP F W A "rule" 4 d || rP F W A "none" 3 d
def VQ{ps bs:Ak}(l:Y8k 3)(hp:∀f∈ps,gC f/\0<=f.1)(hb:∀f∈bs,Y8s 1 f):0<Y1u*27720/\Y1u*27720<=2^1000/\(∀f∈ps,Fn (Y1u*27720) (2^150) f)/\∀f∈bs,Fn (Y1u*27720) 1 f:=by
 have c:=λf a=>(hp f a).1;obtain⟨g,e⟩:=vE c;have d:Y1u<=2^420:=aM e (by rw[<-Nat.pow_mul];exact Y2w Oo);refine⟨Oo,?_,λf a=>((c f a).fn.dvd (Nat.dvd_trans (sH a) (Nat.dvd_mul_right _ _))).le (Y5x),λf a=>(hb f a).1.dvd (Nat.dvd_mul_left _ _)⟩;have:Y1u*27720<=2^420*2^15:=Nat.mul_le_mul d Dd;rw[<-Nat.pow_add]at this;exact Ya0 this
def VP{ps:Ak}{g:Fr}(h0:0<Y1u*27720)(l:Y8k 3)(hp:∀f∈ps,gC f/\0<=f.1)(h:Fn (Y1u*27720*(Y1u*27720)) (2^152) g):Y4c g:=by
 obtain⟨i,e⟩:=vE λf d=>(hp f d).1;have a:Y1u<=2^420:=aM e (by rw[<-Nat.pow_mul];exact Y2w Oo);have q:Y1u*27720<=2^420*2^15:=Nat.mul_le_mul a Dd;have c:=Nat.mul_le_mul q q;rw[<-Nat.pow_add,<-Nat.pow_add]at c;exact oS h (gE h0 h0) (bK c (Y6N Dd)) (Y5x)
def GA:yQ ((0,1):Fr):=by
 exact⟨UQ,Dd,Dd⟩
inductive uP (K:Aa) (C:Addr):Yi
 | i {H:Hp} {Q:VK} {E:XK} {t av th:V} {d:PyData} {F W A:Nat} {fs:Ah} {ws:Y0d} {bs mix cs:Ak} (h0:Y40) (h1:Y5f A) (h2:Y3K th) (h3:OkP d) (h4:XD F W fs ws) (h5:F=2) (h6:1<=W) (h7:W<=3) (h8:A<=2) (h9:IV W mix) (h10:Y8p W) (h11:∀f∈bs,Y8s 1 f) (h12:Y9O A) (h13:∀f∈cs,yQ f) (q0:Y6 (oP F W A d)->RfE C H E "shape" .none) (q1:oP F W A d=true->RfX C H E) (q2:oP F W A d=true->∀H',Y0->Y2i true):uP K C [t,av,th] H Q E
section
def aGb(F:Yb "lets_paper" "lets_paper" aCh)(T:Yd)(FQ0:FnI P w K mg base 1 c.NoPaper a13 (Ycc))(FQ41:Y0K 8 "has_shape" a18 oX)(FQ32:dS (BM P w) P w K mg base 9 "check_rule" a38 (uU c.NoPaper))(FQ33:dS (BM P w) P w K mg base 5 "check_worths" a30 (uT K c.NoPaper))(FQ36:Y0K 7 "cost" a37 xY)(FQ52:Y1I "less" a00 (lX K))(FQ31:Y0K 4 "bounds_priced" a39 (nC K))(FQ70:Yv "without_costs" ["aim"] (rZ K))(FQ45:Yv "is_less" a00 (kL K)):cX P w K mg base (BM P w) 10 f fd a10 (uP K c.NoPaper):=by
 refine F.okx aHh (λvs H Q E h=>?_) (λcdv A φ s H vs Q E B h ξ hmd=>?_)
 ·obtain @⟨H,Q,E,t,av,th,d,F,W,l,fs,τ,bs,x,cs,_,_,_,_,_,_,_,_,_,_,_,_,_,_,_,_,_⟩:=h
  rfl
 ·obtain @⟨H,Q,E,t,av,th,d,F,W,l,fs,τ,bs,x,cs,L,C,ε,ok,TC,f2,w1,w3,a2,θ,bl,κ,cl,ι,qs,y,qn⟩:=h;have fl:=TC.f;have wl:=TC.w;have η:F<=4:=Oo;have M:1<=F:=Oo;have w4:W<=4:=Oo;have bz:∀f∈bs,Y0A/\Y4C:=λf a=>⟨(κ f a).1.low,Ydi ((κ f a).1) Dd (Y4j (show 27720<2^15 by decide))⟩;refine⟨_,(aI (yS (eX (dX (mJ FQ41 (Y8o) (aR (Yw) (Y55 Y0f 2 (Y2s dB aE))))) (aI (gI (DP FQ32 (Y8o) ξ (aR (Yw) (Y5Y 1 Y31))))
   (aI (gI (DP FQ33 (Y8o) ξ (Y55 Yw 1 (Y2s Y31 Y31))))
   (aS (eX (dY (EO B.units) (mK FQ36 (Yw) (Y31) (Y0f)) (cB FQ52 (Y33 (Y33 Y31 aE) aE) (Y1O FQ31 1 Y31))) (aS (kZ FQ0 T.g_NoPaper rfl Y8o kX (Y2s dB rA))) cY)))) (aS (eX (dX (mJ FQ41 (Y8o) (aR (Yw) (Y55 Y0f 2 (Y2s dB aE))))) (aI (gI (DP FQ33 (Y8o) ξ (aR Yw (aR (Y2N FQ70 1) (Y2s Y31 Y31)))))
   (aS (eX (iD (dX (cB FQ45 (Y1O FQ31 1 Y31) (Y33 (Y33 Y31 aE) aE)))) (aS (kZ FQ0 T.g_NoPaper rfl Y8o kX (Y2s dB rA))) cY))) (aS (kZ FQ0 T.g_NoPaper rfl Y8o kX (Y2s dB rA)))))))
   (Y0R kJ)),?_⟩
  refine Y0w (λ_ H'=>Y2i true) Y63;refine Y1H;refine oX.i L C ε Dd Oo Oo Oo Oo ok.wd Kk λH1 m=>?_;rw[fl,wl];refine Y3;cases z1:rP F W l "rule" 4 d with
  | true =>
   have j:oP F W l d=true:=by unfold oP;rw[z1];rfl
   replace y:=y j;replace qn:=qn j;clear qs;obtain⟨x1,δ,β,rfl,a,ψ⟩:=MW z1;have sm:=ok.ru _ _ _ rfl;obtain⟨ν,rfl,O,J⟩:=aBn a (ok.nu δ (by simp[jE])).1;obtain⟨val,rfl,S⟩:=aAU η Oo ψ (ok.nu β (by simp[jE])).2;have V0:=aEs TC Oo Oo w1 w3 a2 θ O (λf a=>(J f a).1) cl ι S;obtain⟨γ,ω,n2,n3⟩:=VQ Oo J κ;obtain⟨p,xs,rfl,r,N⟩:=dF ε;unfold aJ aJ aJ aJ aJ at N;obtain⟨x0,_,rfl,r0,x1',_,rfl,r1,δ,_,rfl,Z,β,_,rfl,U,rfl⟩:=N;refine fJ (Yo);intro d_ n_;refine Y54 (Y5X (m _ _ r));refine uU.i (L.same m) (C.same m) (r1.same m) sm fl M η w4 TC.trq bl bz (λwd d h1 h2=>(y wd d h1 h2).same m) λhs H2 e sy h0 s2=>Y6f;intro d_ n_;subst e;have R:=TF (F:=F) sy h0;have S2:=m.trans s2;refine Y54 (Y5X (S2 _ _ r));refine Y0i (S2 _ _ r);obtain⟨oC,fC⟩:=KB (KM W F l (nQ τ) x ν cs val) (Y3E l).length;refine uT.i (L.same S2) (vO.of (C.same S2)) (Z.same S2) (U.same S2) V0 TC.trq.b fC (λi hi=>(y "worth" _ (XG.ct _ Kk) Dd).same S2) λeC H3 υ=>?_;have S3:=S2.trans υ;refine Y6s (S3 _ _ r);refine Y3;have AQ:aEd (Y57) W 0 [(Y0e,hs)] x cs:=⟨θ.len,λf a=>(θ.at f a).1,⟨rS ι,vD ι Oo,λf a=>(yJ ι f a).le Dd,λe he hs=>by have:=R.on e he hs;exact Oo⟩⟩;refine xY.i (L.same S3) (r1.same S3) (C.same S3) R M η Oo w4 TC.trq AQ λv4 H4 s4 r4=>?_
   have S4:=S3.trans s4;obtain⟨aw,xw,b,u,z,rfl,G,I,D,rz⟩:=GB M (U.same S4);refine Y0i (S4 _ _ r);refine gU G I (Y5X D);refine Y6s (S4 _ _ r);refine nC.i (C.same S4) (Z.same S4) (by rw[O,bl]) Oo γ ω n2 n3 λv5 g H5 X χ μ g5=>?_;have ρ:Y0e∈Y3E l:=aF (EI M);have ζ:=S _ ρ;refine lX.i (iN.of (rz.same X)) (iN.of χ) ζ.1 μ.low ζ.sz (VP γ Oo J μ) λq6 H6 hq6 e6 s6=>?_;have S6:=(S4.trans X).trans s6;refine YR (d:=eZ _) (d':=eZ _) ((r4.same X).same s6) (dR e6) rfl rfl (Y1 (nR (Y6k) (Y6k)))
   ·exact rzP ((y "sum" .none ⟨rfl,Kk⟩ Dd).same S6) bL.non
   ·exact qn H6 S6
  | false =>
   refine gA Y1H;refine oX.i (L.same m) (C.same m) (ε.same m) Dd Oo Oo Oo Oo ok.wd Kk λH1' ο=>?_;rw[fl,wl];refine Y3;have m:=m.trans ο;cases z2:rP F W l "none" 3 d with
   | false =>
    have j:Y6 (oP F W l d):=by unfold oP;rw[z1,z2];rfl
    exact gA (rzP ((qs j).same m) bL.non)
   | true =>
    have j:oP F W l d=true:=by unfold oP;rw[z1,z2];rfl
    replace y:=y j;replace qn:=qn j;clear qs;obtain⟨δ,β,rfl,a,ψ⟩:=MX z2;obtain⟨ν,rfl,O,J⟩:=aBn a (ok.nu δ (by simp[jE])).1;obtain⟨val,rfl,S⟩:=aAU η Oo ψ (ok.nu β (by simp[jE])).2;have V0:=aEs TC Oo Oo w1 w3 a2 θ O (λf a=>(J f a).1) (cs:=List.replicate l (0,1)) (cG ..) (λf a=>by rw[List.eq_of_mem_replicate a];exact GA) S;obtain⟨γ,ω,n2,n3⟩:=VQ Oo J κ;obtain⟨p,xs,rfl,r,N⟩:=dF ε;unfold aJ aJ aJ aJ at N;obtain⟨x0,_,rfl,r0,δ,_,rfl,Z,β,_,rfl,U,rfl⟩:=N;refine fJ (Yo);intro d_ n_;refine Y0F;refine rZ.i (vO.of (C.same m)) Oo λv2 H2 s2 α=>?_;have S2:=m.trans s2;rw[cl]at α;refine Y0i (S2 _ _ r);refine Y0i (S2 _ _ r);obtain⟨oC,fC⟩:=KB (KM W F l (nQ τ) x ν (List.replicate l (0,1)) val) (Y3E l).length;refine uT.i (L.same S2) α (Z.same S2) (U.same S2) V0 TC.trq.b fC (λi hi=>(y "worth" _ (XG.ct _ Kk) Dd).same S2) λeC H3 υ=>?_;have S3:=S2.trans υ;refine Y6s (S3 _ _ r);refine nC.i (C.same S3) (Z.same S3) (by rw[O,bl]) Oo γ ω n2 n3 λv5 g H5 X χ μ g5=>?_;have S5:=S3.trans X;obtain⟨aw,xw,b,u,z,rfl,G,I,D,rz⟩:=GB M (U.same S5);refine Y0i (S5 _ _ r);refine gU G I (Y5X D);have ρ:Y0e∈Y3E l:=aF (EI M);have ζ:=S _ ρ;refine kL.i (iN.of χ) (iN.of rz) (VP γ Oo J μ) ζ.sz Y3
    by_cases z:g.1*(val (Y0e)).2<(val (Y0e)).1*g.2
    ·rw[bH z];exact gA (qn H5 S5)
    ·rw[bP z];exact fJ (rzP ((y "sum" .none ⟨rfl,Kk⟩ Dd).same S5) bL.non)
end
abbrev aCO:Stmt:=(top 92)
def KK:Yc ["_law_trial_here","_law_aim_here","_law_thing","_law_found","e"] a04 aCO:={}
def GD{X:Cx}{e:Expr}{g:Str}{pos:Pos}{ta:TE}(K:Aa)(he:Y3W e)(hK:X.K=K:=by rfl)(hb:attributeBase e g X.env Y1p=Y1p:=by rfl):Ye (YeL e pos) (aA4 K ta g):=by subst hK;exact XO he hb
def TE(C:Addr)(H:Hp)(Q:VK):XK:=λcls od H'=>Y0/\∃x wd d v,cls=Yp/\od=Y9/\H' x=Y9S x [("word",Y4l),("at",v)]/\Y4x d v/\cV d=true/\∀v2 H2,aV H' H2->Yan H2 [Y4l,d] v2->Q v2 H2
def LP{C:Addr}{H:Hp}{Q:VK}{wd:Str}{d:PyData}(h:∀v H',Y0->Yan H' [Y4l,d] v->Y0Z)(fd:cV d=true):RfE C H (TE C H Q) wd d:=λH' x v s e r=>⟨s,x,wd,d,v,rfl,rfl,e,r,fd,λa H2 c g=>h a H2 (s.trans c) g⟩
inductive oY:Yi
 | i {H:Hp} {Q:VK} {E:XK} {t av th:V} {d:PyData} {F W A:Nat} {fs:Ah} {ws:Y0d} {bs mix cs:Ak} (h0:Y40) (h1:Y5f A) (h2:Y3K th) (h3:OkP d) (h4:XD F W fs ws) (h5:F=2) (h6:1<=W) (h7:W<=3) (h8:A<=2) (h9:IV W mix) (h10:Y8p W) (h11:∀f∈bs,Y8s 1 f) (h12:Y9O A) (h13:∀f∈cs,yQ f) (q0:Y6 (oP F W A d)->∀v H',Y0->Yan H' [.str "shape",.none] v->Y0Z) (q1:oP F W A d=true->∀wd e v H',XG wd e->wd≠Str.ofString "shape" -> Y0->Yan H' [Y4l,e] v->Y0Z) (q2:oP F W A d=true->∀H',Y0->Y2i true):oY [t,av,th] H Q E
section
def aGK(F:Yb "_law_told" "_law_told" aCO)(T:Yd)(FQ53:dS (BM P w) P w K mg base 10 "lets_paper" a10 (uP K c.NoPaper)):cX P w K mg base cN 11 f fd a04 oY:=by
 refine Y1k KK;obtain @⟨H,Q,E,t,L,U,d,F,W,Am,fs,ws,bs,X,cs,θ,ψ,Z,ok,TC,α,β,μ,δ,ζ,bl,υ,φ,η,τ,ι,qn⟩:=h;refine Yh;intro γ A D s ρ _;refine⟨_,(aI (YcX rA)
  (aI (aBG (i:=4) rfl rfl rfl T.g_EarlyError T.c_EarlyError KK.nd rfl rfl (λ_ _ _ p=>(aS (YcX (DP FQ53 (ρ.mono Dd) p (Y55 Yw 1 (Y2r 2)))))) (λ_=>(aI (YcX dB)
  (aI (yS (eX (uD (qZ (vP (dX (cT (HZ K) (by rfl) T.b_isinstance Kk (Y5Y 4 (Y2T c.NoPaper T.g_NoPaper)))) (xR (dX (cT (HZ K) (by rfl) T.b_isinstance Kk (Y5Y 4 (Yak (.ty "ValueError") "ValueError" rfl T.b_ValueError Kk rfl)))))))) (aS (YcX (Y2L (GD K (aC 4)) (GD K (aC 4))))) cY))
  (aS (eX (dX (cT (aAu K) (by rfl) T.b_isinstance Kk (Y5Y 4 (cD (aR (Y2T c.NoBack T.g_NoBack) (aR (Y2T c.NoBounds T.g_NoBounds) (aR (Y2T c.NoFraction T.g_NoFraction) (aR (Y2T c.NoLines T.g_NoLines) (aR (Y2T c.NoLook T.g_NoLook) (aR (Y2T c.NoOrder T.g_NoOrder) (aR (Y2T c.NoRow T.g_NoRow) (Y2s (Y2T c.NoRule T.g_NoRule) (Y2T c.NoTrial T.g_NoTrial))))))))))))) (aS (YcX dB)) cY))))))
  (Y3h 3))),?_⟩
 refine Yo;intro R κ;refine Y3l (λN cls M H'=>N=[some t,some L,some U,some .non,none]/\TE c.NoPaper H Q cls M H')
 ·refine Y1H;exact uP.i θ ψ Z ok TC α β μ δ ζ bl υ φ η (λe H' x v s a r=>Y0l (LP (τ e) rfl H' x v s a r)) (λe wd d O ν H' x v s a r=>Y0l (LP (λv H' s r=>ι e wd d v H' O ν s r) O.1 H' x v s a r)) λe H' s=>Y1 (qn e H' s)
 ·rintro N cls M H' ⟨rfl,s1,x,wd,ο,v,rfl,rfl,m,rv,fd,q⟩;refine Y0X c.NoPaper T.sub_NoPaper (λb ξ=>?_);refine Yo;intro R κ;have l:(upd H' b (sT b c.NoPaper (some x))) b=Y8t b c.NoPaper Y9:=bR;have B:=aV.upd (o:=sT b c.NoPaper (Y9)) ξ;generalize upd H' b (sT b c.NoPaper (some x))=H1 at l B;have m:=B _ _ m;have y:=wK.cls T.ec_NoPaper;have p:∀H2,aV H1 H2->QW H2 (Y9):=λH2 ε=>Y0p (ε _ _ m);refine Y3l (λσ H2=>aV H1 H2/\∃G,Yan H2 [Y4l,ο] G/\σ=[some t,some L,some U,some G,Y4 b])
  case refine_2 =>
   refine Y3l (λS H2=>H2=H1/\S=true)
   ·refine Y1 (ryI (b:=true) l (p H1 (Yx)) y _ rfl T.y2 ?_);refine Y1 Y5N;refine Y1 (ryI (b:=true) l (p H1 (Yx)) y _ rfl T.y3 ?_);exact YaO _ rfl
   ·rintro S H2 ⟨rfl,rfl⟩;refine Y7d;intro R;refine⟨_,rfl,b,c.NoPaper,x,_,_,rfl,l,m,y,(Ydr).hd,YdE (by simp),rfl,⟨_,rfl,b,c.NoPaper,x,_,_,rfl,l,m,y,(Ydr).hd,YdE (by simp),rfl,?_⟩⟩;exact kM (by show 2<=64;decide) λq3 H3 ω J j=>⟨j,_,Y6Q J Y3g ((rv.same B).same j),rfl⟩
  rintro σ H2 ⟨I,G,C,rfl⟩;refine Y3;refine kM (by show 9<=64;decide) λtp H3 χ J j=>rwI (b:=false) (j _ _ (I _ _ l)) (p H3 (I.trans j)) y J (λus g=>?_) ?_
  ·cases g with | cons r1 g=>cases g with | cons C g=>cases g with | cons r3 g=>cases g with | cons r4 g=>cases g with | cons r5 g=>cases g with | cons r6 g=>cases g with | cons r7 g=>cases g with | cons r8 g=>cases g with | cons r9 g=>cases g;cases r1;cases C;cases r3;cases r4;cases r5;cases r6;cases r7;cases r8;cases r9;exact T.y1
  refine Y1 Y1f;exact Y1 (q _ H3 ((B.trans I).trans j) (C.same j))
end
abbrev sQ9:Stmt:=(top 93)
def cQ9:Yc ["_law_one","_law_number"] ["_law_one"] sQ9:={}
def NmD(d:PyData):Prop:=∀n k:Int,d=Y3j n k->n.natAbs<2^140/\k.natAbs<2^140
inductive rG:Yi
 | i {H:Hp} {Q:VK} {E:XK} {x:V} {d:PyData} (r:Y2n) (h:NmD d) (q:∀H',Y0->Y2i (dI d)):rG [x] H Q E
section
def oQ9(F:Yb "_law_is_fraction" "_law_is_fraction" sQ9)(T:Yd)(FQ8:Yv "_law_frac" a17 fP):cX P w K mg base cN 2 f fd ["_law_one"] rG:=by
 refine F.oky cQ9 λμ H Q E h=>?_;obtain @⟨H,Q,E,x,d,r,β,q⟩:=h;refine Yh;intro γ A N s α _;have R:=q;have Z:eQ K H d x:=r.k;refine⟨_,(aI (Y5U (cT (fQ K) (by rfl) T.b_isinstance Kk (Y5Y 0 (Yak (.ty "tuple") "tuple" rfl T.b_tuple Kk rfl))) (kY (dY AJ (Y3O (by rfl) 0) aE)))
  (aI (Y2z (Y2x 0) 1 cQ9.nd (Y5U (cT (fQ K) (by rfl) T.b_isinstance Kk (Y5Y 1 (Yak (.ty "int") "int" rfl T.b_int Kk rfl))) (kY (dX (cT (fQ K) (by rfl) T.b_isinstance Kk (Y5Y 1 (Yak (.ty "bool") "bool" rfl T.b_bool Kk rfl)))))))
  (Y0R (jL (jY xC (Y0G) aE) (kI (jY (AL α.units) (cB FQ8 (Y0G) (Y0G)) (Yw))))))),?_⟩
 refine Yo;intro L ν;refine Y6H Z;refine Y3;cases d
 case tuple ds =>
  refine Y1f;obtain⟨a,xs,rfl,M,C⟩:=dF r;have U:Y2v ds.length:=C.len;refine Yai M;refine Y34 rfl ?_;rw[C.len];refine CS (Y47) (Y47)
  ·have:=Y4F;refine Y2g;intro L;rw[show dI (.tuple ds)=false by
    unfold dI;split
    ·rename_i n k z
     injection z with z;subst z;exact absurd rfl e
    ·rfl]at this
   exact this
  ·obtain⟨l,m,rfl⟩:∃l m,ds=[l,m]:=by
    have δ:Y2P 2:=by injection e with e;exact Oo
    match ds,δ with
    | [l,m],_=>exact⟨l,m,rfl⟩
   have I:Yag ([l,m].map Ycs):=by rw[List.map_id'];exact C
   refine Y3P a M (Y9g xs (∃o:An,σ=[Y1y,o]/\H'=H/\∀j e,j<i->[l,m][j]?=Y3S->∃n,e=Y5R) (Y4Q _ rfl (λj e h=>Oo)) Y7Y ?_ ?_)
   ·obtain⟨_,_,rfl,_⟩:=p;exact fS.of M
   ·rintro i y σ H' ε ⟨o,rfl,rfl,hs⟩;refine Y22;intro L;obtain⟨J,g,D⟩:=cR I ε;have D:eQ K H' J y:=D.k;have G:(∀n,J ≠ Y5R)->Y7O (Y0a l m):=λh=>by
     unfold dI;split
     ·rename_i n k z
      injection z with z;rw[z]at g
      match i,g with
      | 0,g=>cases g;exact absurd rfl (h n)
      | 1,g=>cases g;exact absurd rfl (h k)
      | _+2,g=>simp at g
     ·rfl
    refine Y1 (aA9 D ?_);refine Y3;cases J
    case int n =>
     refine gA (Y1 (EH D ?_));refine Y1 Y1f;refine Y4Q _ rfl (λj e θ h=>?_);by_cases ej:j=i
     ·subst ej;rw[g]at h;cases h;exact Y1E
     ·exact hs j e Oo h
    case bool b =>
     refine gA (Y1 (EH D ?_));refine Y1 Y5N;refine Y2g;intro L;have:=R H' (Yx);rw[G (λn z=>by cases z)]at this;exact this
    all_goals
     refine Y8x;have:=R H' (Yx);rw[G (λn z=>by cases z)]at this;exact this
   ·rintro σ H' ⟨o,rfl,rfl,hs⟩;rw[U]at hs;obtain⟨n,rfl⟩:=hs 0 l (by simp) rfl;obtain⟨k,rfl⟩:=hs 1 m (by simp) rfl;obtain⟨ι,W,B⟩:=FG (f:=(n,k)) r;cases W;have ζ:=(β n k rfl).2;have J:dI (Y3j n k)=(Y1D 1 k&&Y8Q k 1):=rfl;rw[J]at q;refine Y0i B;refine Y3R _ _ _ Y7c
    ·rw[bH (show 1<=k by exact Oo),Bool.true_and]at q;refine Y0i B;refine Y0i B;refine Y8P e (Y4j ζ);intro κ H2 X η O;refine Y1 (YR (dR η) (d':=eZ (n,k)) (r.same O) rfl rfl ?_);rw[VE];have S:Yr (lw n k) (n,k)=Y8Q k 1:=by
      by_cases h:Y0z n k
      ·rw[bH h,bH (ER (a:=n) (b:=k) ⟨e,h⟩)]
      ·rw[bP h,bP λz=>h ?_];have:=(YcF e).2;rw[z]at this;exact this
     rw[S,Bool.true_beq];exact q H2 O
    ·have:=q H' Yx;rw[bP (show ¬1<=k by exact Oo),Bool.false_and]at this;exact this
 all_goals
  refine Y8x;refine Y2g;intro L;exact Y4F
end
end Kw
namespace L2
open PySem
abbrev AS:=Y18 Addr
open Classical in
noncomputable def cL (Z:AS) (H:Hp):Hp:=λb=>if Z b then none else H b
section
variable{Z Z':AS}{H H' H1:Hp}{b l p:Addr}{o:HO}
def cL.at(h:¬Z b):cL Z H b=H b:=by unfold cL;rw[Y6i]
def cL.of(n:¬Z b)(h:H b=Y5):cL Z H b=Y5:=by rw[cL.at n];exact h
def cL.ne(h:cL Z H b=Y5):¬Z b:=λz=>by unfold cL at h;rw[if_pos z]at h;cases h
def cL.get(h:cL Z H b=Y5):H b=Y5:=by rw[cL.at (cL.ne h)]at h;exact h
def cL.same:aV (cL Z H) H:=λb o h=>cL.get h
def aV.hs(s:Y0):aV (cL Z H) (cL Z H'):=λb o h=>Yet h (s _ _ (cL.get h))
def bB.hs(s:Y0s)(zp:Z p):aV (cL Z H) (cL Z H'):=λb o h=>Yet h (s.at (λe=>cL.ne h (e ▸ zp)) (cL.get h))
def ZIn(Z:AS)(H:Hp):Prop:=∀b,Z b->∃o,H b=Y5
def ZIn.same(h:ZIn Z H)(s:Y0):ZIn Z H':=λb z=>let ⟨o,e⟩:=h b z;⟨o,s _ _ e⟩
def ZIn.new(h:ZIn Z H)(hq:H b=none):¬Z b:=λz=>by obtain⟨o,e⟩:=h b z;rw[hq]at e;cases e
end
def BL(Z:AS)(σ:St)(t:TE)(d:PyData):Prop:=∀(H:Hp) (Q:VK),ZIn Z H->(∀v H',Y0->bL (cL Z H') d v->Y0Z)->t σ H Q
def QZ(Z:AS)(σ:St)(t:TA)(ds:Ya):Prop:=∀(H:Hp) (Q:Y1l Al),ZIn Z H->(∀vs H',Y0->aJ (cL Z H') ds vs->Q vs H')->t σ H Q
section
variable{Z:AS}{σ:St}{t:TE}{ta:TA}{d:PyData}{ds:Ya}
def lH{i:Int}:BL Z σ (tC (Y07)) (Y07):=Ycy _ H Y9I (bL.int i)
def aBf{i:Bool}:BL Z σ (tC (.bl i)) (.bool i):=Ycy _ H Y9I (bL.bl i)
def UK{i:Str}:BL Z σ (tC (.str i)) (.str i):=Ycy _ H Y9I (bL.str i)
def aDq:BL Z σ (tC .non) .none:=Ycy _ H Y9I bL.non
def UL{i:Int}:BL Z σ (tUn (rU λi=>.int (-i)) (tC (Y07))) (.int (-i)):=λH Q _ k=>Y0Q i (k _ H (Y9I) (bL.int (-i)))
def EQ:QZ Z σ GG []:=Ycy _ H Y9I aJ.nil
def gR(h:BL Z σ t d)(hs:QZ Z σ ta ds):QZ Z σ (mX t ta) (d::ds):=λH Q c k =>
 h H _ c λv H1 e g=>hs H1 _ (c.same e) λj H2 a i=>k _ H2 (e.trans a) (aJ.cons (g.same a.hs) i)
def UJ(h:QZ Z σ ta ds)(hz:Y3H 64):BL Z σ (tTu ta) (Yy):=λH Q d k =>
 h H _ d λj H1 e a=>kM (by rw[a.len];exact hz) λq H2 i g c=>k _ H2 (e.trans c) (bL.tup (cL.of ((d.same e).new i) g) (a.same c.hs))
def aDr(h:QZ Z σ ta ds)(hz:Y3H 64):BL Z σ (tLs ta) (Y7h):=λH Q d k =>
 h H _ d λj H1 e a=>AN (by rw[a.len];exact hz) λq H2 i g c=>k _ H2 (e.trans c) (bL.lst (cL.of ((d.same e).new i) g) (a.same c.hs))
end
def okS(s:Str):Bool:=Y1D s.length 64&&(Y1D ((YeP).length) 66&&s.cps.toList.all λc=>Y2A c 128)
mutual
def sm(N:Nat):Nat->Y1R
 | _,.none=>true
 | _,.bool _=>true
 | _,.int i=>decide (i.natAbs<2^200)
 | _,.str s=>okS s
 | 0,.list _=>false
 | D+1,.list ds=>decide (ds.length<=N)&&sms N D ds
 | 0,.tuple _=>false
 | D+1,.tuple ds=>decide (ds.length<=N)&&sms N D ds
 | _,.dict kvs=>kvs.isEmpty
def sms(N:Nat):Nat->Y27 Ya
 | _,[]=>true
 | D,d::ds=>sm N D d&&sms N D ds
end
theorem EB{N D:Nat}:∀{ds:Ya},sms N D ds=true ↔ ∀d∈ds,sm N D d=true
 | []=>by simp[sms]
 | d::ds=>by
  show(sm N D d&&sms N D ds)=true↔_;rw[aP,EB (ds:=ds)];simp
mutual
theorem LV{N M D E:Nat}(hN:N<=M)(hD:D<=E):∀{d:PyData},sm N D d=true->sm M E d=true
 | .none,_=>by unfold sm;rfl
 | .bool _,_=>by unfold sm;rfl
 | .int i,h=>by unfold sm at h ⊢;exact h
 | .str i,h=>by unfold sm at h ⊢;exact h
 | .dict i,h=>by unfold sm at h ⊢;exact h
 | .list ds,h=>by
  cases D with
  | zero=>unfold sm at h;cases h
  | succ D =>
   cases E with
   | zero=>exact Oo
   | succ E =>
    unfold sm at h ⊢;rw[aP]at h ⊢;exact⟨bH (aM (of_decide_eq_true h.1) hN),zQ hN Oo h.2⟩
 | .tuple ds,h=>by
  cases D with
  | zero=>unfold sm at h;cases h
  | succ D =>
   cases E with
   | zero=>exact Oo
   | succ E =>
    unfold sm at h ⊢;rw[aP]at h ⊢;exact⟨bH (aM (of_decide_eq_true h.1) hN),zQ hN Oo h.2⟩
theorem zQ{N M D E:Nat}(hN:N<=M)(hD:D<=E):∀{ds:Ya},sms N D ds=true->sms M E ds=true
 | [],_=>by unfold sms;rfl
 | d::ds,h=>by
  unfold sms at h ⊢;rw[aP]at h ⊢;exact⟨LV hN hD h.1,zQ hN hD h.2⟩
end
def EC{N D:Nat}{ds:Ya}:sm N (D+1) (Yy)=true↔Y3H N/\∀d∈ds,sm N D d=true:=by
 rw[show sm N (D+1) (.tuple ds)=(decide (ds.length<=N)&&sms N D ds)by rw[sm],aP,EB,decide_eq_true_iff]
def aBW{N D:Nat}{ds:Ya}:sm N (D+1) (Y7h)=true↔Y3H N/\∀d∈ds,sm N D d=true:=by
 rw[show sm N (D+1) (.list ds)=(decide (ds.length<=N)&&sms N D ds)by rw[sm],aP,EB,decide_eq_true_iff]
end L2
namespace Kw
open PySem L2 Mf
abbrev aCU:Stmt:=(top 95)
def aFf:Yc ["_law_feed_here","_law_some_here"] a07 aCU:={}
def ZY:Ya:=[.none,Y65,.int 0,.int (-1),.str "rule",.str "none",.tuple [],.list [],Y3j 1 2,Y3j 2 4,Y3j (-1) 2,Y3j 1 0,Y3j 0 2,YbD Y65 1,Y3j 0 0]
def tO:Ya:=ZY++[.str "1/2"]
def PN:∀d∈ZY,cV d=true\/d=.list []:=λd hd=>by
 unfold ZY at hd;simp only[aK,List.not_mem_nil,or_false]at hd;rcases hd with rfl | rfl | rfl | rfl | rfl | rfl | rfl | rfl | rfl | rfl | rfl | rfl | rfl | rfl | rfl <;> first | exact Y21 | exact Y6g
def aGZ{Z:AS}{H H':Hp}{a:Addr}{xs:Al}(h:H a=Y0y)(s:bB a H H'):dH (cL Z H) (cL Z H'):=λb d e=>by
 have c:=cL.get e;have n:b≠a:=λz=>by rw[z,h]at c;cases c
 exact Yet e (s.at n c)
inductive tL:Yi
 | i {H:Hp} {Q:VK} {E:XK} {p L:Addr} {n:Nat} {Z:AS} (F:Y1X (n+1)) (zp:Z p) (zi:ZIn Z H) (k:∀v d H',Y5n->Y0s->bL (cL Z H') d v->d∈tO->Y0Z):tL [Y0x] H Q E
section
def tR{Z:AS}{σ:St}{t t':L2.TE}{d d':PyData}(h:BL Z σ t d)(h':BL Z σ t' d'):BL Z σ (tTu (mX t (mX t' GG))) (Y0a d d'):=UJ (gR h (gR h' EQ)) (show 2<=64 by decide)
def aGQ(F:Yb "_law_odd" "_law_odd" aCU)(T:Yd)(FQ6:Yv "_law_draw" a01 dC):cX P w K mg base cN 2 f fd a07 tL:=by
 refine F.oky aFf λm H Q E h=>?_;obtain @⟨H,Q,E,p,L,n,Z,F,X,θ,k⟩:=h;refine Yh;intro β A J s ι _;refine⟨_,(aI (Y9K aFf.nd (fV (aR rA (aR kJ (aR aE (aR (yW tI aE) (aR dB (aR dB (aR (cD aH) (aR (fV aH) (aR Y3V (aR Y3V (aR (Y2L (yW tI aE) aE) (aR Y3V (aR Y3V (Y2s (Y2L kJ aE) Y3V))))))))))))))))
  (aI (gI (oW PySem.F.plainAttrs_list PySem.F.slot_list_append PySem.F.type_list_append oO Y0f (Y1r dB)))
  (Y0R (Y4M 1 (Y1O FQ6 0 (Y3O (by rfl) 1)))))),?_⟩
 refine Yo;intro ζ η;refine aFS (aGT ?_);refine(gR aDq (gR aBf (gR lH (gR UL (gR UK (gR UK (gR (UJ EQ Dd) (gR (aDr EQ Dd) (gR (tR lH lH) (gR (tR lH lH) (gR (tR UL lH) (gR (tR lH lH) (gR (tR lH lH) (gR (tR aBf lH) (gR (tR lH lH) EQ)))))))))))))):QZ Z _ _ ZY) H _ θ λm H1 S O=>?_;have g:m.length=15:=O.len;refine AN (by rw[g];decide) λa H2 ε r N=>Ys;intro ζ η;refine Y0X _ (OM r) ?_;refine BS r (by rw[g];decide) λH3 R D=>?_;have S2:=S.trans N;have j:H a=none:=S.free ε;have S3:aV H H3:=aV.thru j S2 D;have F3:=F.same S3;have α:a≠p:=F.ne j;refine Y54 (rlL R ?_);rw[aW,g];refine dC.i F3 Dd Kk λx H4 W γ F4 G=>?_;obtain⟨v,C,e,_⟩:=NY (xs:=m++[V.str "1/2"]) W (by rw[aW,List.length_singleton,g];exact γ);refine ixL (G.at α R) C ?_;have U:∃d∈tO,bL (cL Z H4) d v:=by
  rcases bQ.mp e with u | u
  ·obtain⟨d,hd,y⟩:=O.mem u;refine Y0w d (cO _ hd);have l:=y.same N.hs;refine bL.same (G.hs X) ?_;rcases PN d hd with h | rfl
   ·exact l.flat (aGZ r D) h
   ·obtain⟨b,M,rfl,I,δ⟩:=aDv l;have B:=δ.len;have nb:b≠a:=λz=>by
     have:=cL.get I;rw[z,r]at this;have:m=M:=by injection this with this;injection this
     rw[<-this,g]at B;simp at B
    cases(show M=[]by simpa using B);exact bL.lst (Yet I (D.at nb (cL.get I))) aJ.nil
  ·rw[aN]at u;subst u;exact Y1o (Ycv _ rfl) Y3g
 obtain⟨d,hd,y⟩:=U;exact k v d H4 F4 (S3.but.trans G) y hd
end
abbrev sQ3:Stmt:=(top 96)
def cQ3:Yc ["_law_feed_here","_law_thing","_law_deep","_law_at","_law_inner","_law_way"] a05 sQ3:={}
theorem nM:∀{ds:Ya},PyData.canLayAll0 ds=true->∀d∈ds,YaA=true
 | [],_,d,h=>by cases h
 | e::ds,h,d,hd=>by
  have h:(PyData.canLay0 e&&PyData.canLayAll0 ds)=true:=h;rw[aP]at h;rcases aK.mp hd with rfl | hd
  ·exact h.1
  ·exact nM h.2 d hd
def aBV{N:Nat}:∀(D:Nat) (d:PyData),sm N D d=true->YaA=true->mG (D+1) d:=λD=>by
 induction D with
 | zero =>
  intro d h c;cases d with
  | list ds=>unfold L2.sm at h;cases h
  | tuple ds=>unfold L2.sm at h;cases h
  | dict kvs =>
   unfold L2.sm at h;cases kvs with
   | nil=>exact⟨c,by simp[PyData.depth,PyData.depthKv]⟩
   | cons=>cases h
  | _=>exact⟨c,by simp[PyData.depth]⟩
 | succ D ih =>
  intro d h c;cases d with
  | list ds=>exact mG.lst λe a=>ih e ((aBW.mp h).2 e a) (nM c e a)
  | tuple ds=>exact mG.tup λe a=>ih e ((EC.mp h).2 e a) (nM c e a)
  | dict kvs =>
   unfold L2.sm at h;cases kvs with
   | nil=>exact⟨c,by simp[PyData.depth,PyData.depthKv]⟩
   | cons=>cases h
  | _=>exact⟨c,by simp[PyData.depth]⟩
inductive mI:Y60 Y9A
 | odd {d o:PyData}:o∈tO->mI d o
 | lst {ds:Ya}:mI (Yy) (Y7h)
 | del {ds:Ya} (i:Nat):mI (Yy) (.tuple (Y5B++Y9T i 1))
 | ins {ds:Ya} (i:Nat) {o:PyData}:o∈tO->mI (Yy) (.tuple (Y5B++o::ds.drop i))
 | sub {ds:Ya} (i:Nat) {d e:PyData}:ds[i]?=Y2B->mI d e->mI (Yy) (.tuple (Y5B++e::Y9T i 1))
def FY(Z:AS)(H:Hp):Prop:=∀b,Z b->∃o,H b=Y5/\∀xs,o ≠ .tup xs
def FY.zin{Z:AS}{H:Hp}(h:FY Z H):ZIn Z H:=λb z=>let ⟨o,e,_⟩:=h b z;⟨o,e⟩
def FY.same{Z:AS}{H H':Hp}(h:FY Z H)(s:Y0):FY Z H':=λb z=>let ⟨o,e,n⟩:=h b z;⟨o,s _ _ e,n⟩
def FY.feed{Z:AS}{H H':Hp}{p L:Addr}{n:Nat}(h:FY Z H)(s:Y0s)(F:Y5n):FY Z H':=λb z=>by
 by_cases e:b=p
 ·subst e;obtain⟨c,t,l,a,_⟩:=F.ex;exact Y1o a (λd q=>by cases q)
 ·obtain⟨o,q,n⟩:=h b z;exact Y0P (s.at e q) n
theorem FY.tup{Z:AS}{H:Hp}{a:Addr}{xs:Al}(h:FY Z H)(e:H a=Y0O):cL Z H a=Y0O:=cL.of (λz=>by obtain⟨o,q,n⟩:=h a z;rw[e]at q;cases q;exact n xs rfl) e
@[irreducible] def lP(m : Nat) : Sp := λvs H Q _ => ∃ (p L : Addr) (n : Nat) (Z : AS) (x : V) (d : PyData) (N D k : Nat), vs = [Y0x, x, .int (k : Nat)] /\ k < m /\ Y1X (n + (2 * k + 4)) /\ Z p /\ FY Z H /\ bL (cL Z H) d x /\ sm N D d = true /\ YaA = true /\ N <= 60 /\ D <= 60 /\
      ∀v d' H',Y5n->Y0s->bL (cL Z H') d' v->mI d d'->Y0Z
def CD{H:Hp}{Q:VK}{E:XK}{p L:Addr}{n:Nat}{Z:AS}{x:V}{d:PyData}{N D k m:Nat}{kk:Int}(hk:kk=(k:Nat))(lt:k<m)(F:Y1X (n+(2*k+4)))(zp:Z p)(zi:FY Z H)(r:bL (cL Z H) d x)(hs:sm N D d=true)(hc:YaA=true)(hN:N<=60)(hD:D<=60)
  (q:∀v d' H',Y5n->Y0s->bL (cL Z H') d' v->mI d d'->Y0Z):lP m [Y0x,x,.int kk] H Q E:=by subst hk;unfold lP;exact⟨p,L,n,Z,x,d,N,D,k,rfl,lt,F,zp,zi,r,hs,hc,hN,hD,q⟩
section
def zQ3(F:Yb "_law_bent" "_law_bent" sQ3)(T:Yd):cX P w K mg base cN 3 f fd a05 (lP 0):=by
 refine F.okw cQ3 (λd H Q E h=>?_) (λe A a s H d Q E g h=>?_)
 ·unfold lP at h;obtain⟨_,_,_,_,_,_,_,_,k,_,lt,_⟩:=h;exact Oo
 ·unfold lP at h;obtain⟨_,_,_,_,_,_,_,_,k,_,lt,_⟩:=h;exact Oo
def oQ3(m:Nat){f:Addr}{fd:FuncData}(F:Yb "_law_bent" "_law_bent" sQ3)(T:Yd)(FQ6:Yv "_law_draw" a01 dC)(FQ12:Y1w "_law_odd" a07 tL)(FQ3:Y0K (3+m) "_law_bent" a05 (lP m)):cX P w K mg base cN (3+m+1) f fd a05 (lP (m+1)):=by
 refine Y1k cQ3;unfold lP at h;obtain⟨p,L,n,Z,x,d,N,D,k,rfl,lt,F,I,zi,r,G,φ,hN,hD,q⟩:=h;refine Yh;intro cdv A outer s α _;have X:∀g,Y5k d g->g.length<=60:=λg e=>by
  subst e;cases D with
  | zero=>unfold L2.sm at G;cases G
  | succ D=>exact aM (EC.mp G).1 hN
 have shp:Y3i d:=(aBV D d G φ).ok Oo;have rT:Y2n:=r.same cL.same;refine⟨_,(aI (eX (uD (qZ (vP (dX (cT (fQ K) (by rfl) T.b_isinstance Kk (Y5Y 1 (Yak (.ty "tuple") "tuple" rfl T.b_tuple Kk rfl)))) (vP (Y2y (EO α.units) 1 (cD aH)) (vP (Y2y xC 2 aE) (xR (dY xC (Y9w FQ6 Oo (Y5Y 0 aE)) aE))))))) (aI (Y11 cQ3.nd (Y9w FQ6 Oo (Y5Y 0 (Y3O (by rfl) 1))))
  (aI (Y67 cQ3.nd (Y9w FQ3 Oo (aR (Yw) (Y2s (Y4M 1 Y1j) (bV wG (aC 2) aE)))))
  (Y0R (Y4p K (Y4p K (fN (jH K) Y0f iB (iA (Y1j))) (cD (Y2r 4))) (fN (jH K) Y0f (iA (Y6E 3)) iB))))) cY)
  (aI (Yba cQ3.nd (Y9w FQ6 Oo (Y5Y 0 aE)))
  (aI (Y8j (uD (qZ (lS (Y2y AK 5 aE) (Ya2 (cT (fQ K) (by rfl) T.b_isinstance Kk (Y5Y 1 (Yak (.ty "tuple") "tuple" rfl T.b_tuple Kk rfl))))))) (Y9w FQ12 Oo (Y2r 0)))
  (aI (Y11 cQ3.nd (Y9w FQ6 Oo (Y5Y 0 (bV eE (Y3O (by rfl) 1) aE))))
  (aI (Y8j (Y2y sX 5 aE) (mL qS (by rfl) T.b_list Kk (Y2r 1)))
  (aI (Y8j (Y2y sX 5 aE) (Y4p K (fN (jH K) Y0f iB (iA (Y1j))) (fN (jH K) Y0f (iA (Y6E 3)) iB)))
  (Y0R (Y4p K (Y4p K (fN (jH K) Y0f iB (iA (Y1j))) (Y52 (Y9w FQ12 Oo (Y2r 0)))) (fN (jH K) Y0f (iA Y1j) iB))))))))),?_⟩
 refine Yo;intro ξ n_;refine Y3l (λb H2=>dA H2 p L (n+(2*k+3))/\bB p H H2/\(b=true->0<k/\∃g,Y5k d g/\g≠[]))
 ·refine Y6H rT.k;refine Y3;cases d
  case tuple g =>
   refine fJ Y3;refine kM Dd λq1 H1 hq1 e1 ψ=>YR (rT.same ψ) (Y88 e1) shp rfl ?_;refine Y3;have F1:=F.same ψ;cases g with
   | nil=>exact gA ⟨F1.less Oo,ψ.but,λz=>nomatch z⟩
   | cons μ g =>
    refine fJ ⟨_,rfl,_,_,rfl,rfl,_,rfl,nR Y47 (λe=>⟨F1.less Oo,ψ.but,λz=>nomatch z⟩)⟩;refine Y3;refine Y2k (n+(2*k+3)) (F1.less Oo) (λx1 H2 a1 b1 F2 s2=>Y3R _ _ _ ?_);exact⟨F2,ψ.but.trans s2,λ_=>Y34 Oo (by simp)⟩
  all_goals exact gA ⟨F.less Oo,(Y9I).but,λz=>nomatch z⟩
 ·rintro b H2 ⟨F2,S2,hb⟩;have ε:=zi.feed S2 F2;have r2:=r.same (S2.hs I);cases b with
  | true =>
   refine fJ (Yo);intro ξ n_;obtain⟨k0,g,rfl,ne⟩:=hb rfl;have hw:=X g rfl;have hpos:0<g.length:=List.length_pos_iff.mpr ne;obtain⟨a,O,rfl,ο,U⟩:=dF r2;have lx:O.length=g.length:=U.len;have zl:(0:Int)<O.length:=Oo;refine Y06 (Y6w (cL.get ο));refine YdQ (n+(2*k+2)) F2 zl (bK (show(O.length:Int).natAbs<=60 by exact Oo) Dd) (λx1 H3 a1 b1 F3 W=>Ys);intro ξ n_;obtain⟨j,rfl⟩:∃j:Nat,x1=j:=Y2h x1.toNat;have hj:j<g.length:=Oo;obtain⟨μ,δ⟩:∃μ,g[j]?=some μ:=Y3d hj;have β:=U.same (W.hs I);have ρ:=W.hs I _ _ ο;obtain⟨x0,hx0,rx0⟩:=aJ.atX (by rw[List.map_id'];exact β:aJ (cL Z H3) (g.map λd=>d) O) δ;obtain⟨D',rfl⟩:∃D',D=D' + 1:=by
    cases D with
    | zero=>unfold L2.sm at G;cases G
    | succ D=>exact Y7m D
   have χ:=aF δ;refine Y54 (Y5W (cL.get ρ) hx0);refine⟨_,rfl,_,_,rfl,rfl,?_⟩;refine CD (n:=n) (k:=k-1) Oo Oo (Ycz) I (ε.feed W F3) rx0 ((EC.mp G).2 μ χ) (nM φ μ χ) hN Oo λv d' H4 F4 R r4 η=>?_;have y:=β.same (R.hs I);have C:=R.hs I _ _ ρ;have J:=(ε.feed W F3).feed R F4;refine Y1 Y0F;refine zU (Ybm) λc1 H5 M υ=>Y3;refine kM (show 1<=64 by decide) λc2 H6 hc2 e6 γ=>vJ (γ _ _ υ) e6 (by rw[bU];simp;exact Oo) λc3 H7 ω e7=>?_;have S7:=(M.trans γ).trans ω;refine⟨_,rfl,_,rfl,_,_,rfl,rfl,_,rfl,?_⟩;refine qB (show(j:Int)+1=((j+1:Nat):Int)by exact Oo) (S7 _ _ (Ybm)) λc4 H8 ζ ν=>vJ (ζ _ _ e7) ν (by rw[aW,bU,List.length_drop];simp;exact Oo) λc5 H9 θ ι=>?_;have S9:=(S7.trans ζ).trans θ;have zi9:=J.same S9;have B:=y.same S9.hs;refine q _ _ H9 ((F4.same S9).less Oo) (((S2.trans W).trans R).trans S9.but) ?_ (mI.sub j δ η);refine Ybc (zi9.tup ι);rw[List.append_assoc];exact aJ.append (YfO (j+1) B (Y4R (r4.same S9.hs))) (aJ.take j B)
  | false =>
   refine gA Y3;refine Y2k (n+(2*k+2)) F2 (λx1 H3 a1 b1 F3 W=>Ys);intro ξ n_;have κ:=ε.feed W F3;have r3:=r2.same (W.hs I);have S3:=S2.trans W;refine Y3l (λb H'=>H'=H3/\(Y6 b->∃g,Y5k d g))
   ·refine⟨_,rfl,_,_,rfl,rfl,_,rfl,nR (λe=>Y0l (λz=>nomatch z)) (Y47)⟩;refine Y6H ((r3.same cL.same).k);refine Y3;cases d
    case tuple g=>exact Y0l (λ_=>Y7m g)
    all_goals exact Y0l (λz=>Y7b (show true=false from z))
   ·rintro b H' ⟨rfl,η⟩;cases b with
    | true =>
     refine Y7d;intro ξ;refine Y3;exact tL.i (n:=n) (Ycz) I κ.zin λv d' H4 F4 R r4 hd=>q v d' H4 F4 (S3.trans R) r4 (.odd hd)
    | false =>
     refine Y1f;obtain⟨g,rfl⟩:=η rfl;have hw:=X g rfl;obtain⟨a,O,rfl,ο,U⟩:=dF r3;have lx:O.length=g.length:=U.len;refine Y06 (Y6w (cL.get ο));refine Y59 _ ?_;refine YdQ (n+(2*k+1)) F3 Oo (bK (show((O.length:Int)+1).natAbs<=61 by exact Oo) Dd) (λx2 H4 a2 b2 F4 R=>Ys);intro ξ n_;obtain⟨j,rfl⟩:∃j:Nat,x2=j:=Y2h x2.toNat;have J:=κ.feed R F4;have y:=U.same (R.hs I);have C:=R.hs I _ _ ο;have S4:=S3.trans R;refine Y5b _ rfl _ Y7c
     ·refine⟨_,rfl,a,O,rfl,.inr (fS.of (Ybm)),Ych⟩;have sl:=Yg1 O hl;have el:(upd H4 l (.lst O)) l=Y05 O:=bR;generalize upd H4 l (.lst O)=H5 at sl el;exact q _ (.list g) H5 ((F4.same sl).less Oo) (S4.trans sl.but) (bL.lst (cL.of (J.zin.new hl) el) (y.same sl.hs)) .lst
     ·refine Y5b _ rfl _ Y7c
      ·refine Y1H;refine zU (Ybm) λc1 H5 M υ=>⟨_,rfl,_,rfl,_,_,rfl,rfl,_,rfl,?_⟩;refine qB (show(j:Int)+1=((j+1:Nat):Int)by exact Oo) (M _ _ (Ybm)) λc4 H8 ζ ν=>vJ (ζ _ _ υ) ν (by rw[bU,List.length_drop];exact Oo) λc5 H9 θ ι=>?_;have S9:=(M.trans ζ).trans θ;have B:=y.same S9.hs;refine q _ _ H9 ((F4.same S9).less Oo) (S4.trans S9.but) (Ybc ((J.same S9).tup ι)) (mI.del j);exact YfO (j+1) B (aJ.take j B)
      ·refine Y1H;refine zU (Ybm) λc1 H5 M υ=>Y3;refine tL.i (n:=n) ((F4.same M).less Oo) I (J.same M).zin λv d' H6 F6 γ r6 hd=>?_;have F5:=F4.same M;have e6:=F5.t γ _ _ υ;have ha6:=γ.hs I _ _ (M.hs _ _ C);have τ:=(y.same M.hs).same (γ.hs I);have zi6:=(J.same M).feed γ F6;have S6:=(S4.trans M.but).trans γ;refine kM (show 1<=64 by decide) λc2 H7 hc2 e7 ω=>vJ (ω _ _ e6) e7 (by rw[bU];simp;exact Oo) λc3 H8 ζ ν=>?_;have S8:=ω.trans ζ;refine Y1H;refine SX (S8 _ _ (cL.get ha6)) λc4 H9 θ ι=>vJ (θ _ _ ν) ι (by rw[aW,bU,List.length_drop];simp;exact Oo) λc5 H10 s10 e10=>?_;have S10:=(S8.trans θ).trans s10;have S:=τ.same S10.hs;refine q _ _ H10 (F6.same S10) (S6.trans S10.but) (Ybc ((zi6.same S10).tup e10)) (mI.ins j hd);rw[List.append_assoc];exact aJ.append (YfO j S (Y4R (r6.same S10.hs))) (aJ.take j S)
end
def nbD(N:Nat):Nat->Y9A
 | 0,d=>(∀i,d=.int i->i.natAbs<2^140)/\∀ds,d=.tuple ds->ds.length<=N
 | D+1,d=>(∀i,d=.int i->i.natAbs<2^140)/\∀ds,d=.tuple ds->ds.length<=N/\∀e∈ds,nbD N D e
def nbD.zero{N:Nat}{d:PyData}(h1:∀i,d=Y07->Y2Y (2^140))(h2:∀ds,d=Yy->Y3H N):Y1n 0 d:=by unfold nbD;exact⟨h1,h2⟩
def nbD.succ{N D:Nat}{d:PyData}(h1:∀i,d=Y07->Y2Y (2^140))(h2:∀ds,d=Yy->Y3H N/\∀e∈ds,Y1n D e):Y1n (D+1) d:=by unfold nbD;exact⟨h1,h2⟩
def nbD.s{N D:Nat}{d:PyData}(h:Y1n (D+1) d):(∀i,d=Y07->Y2Y (2^140))/\∀ds,d=Yy->Y3H N/\∀e∈ds,Y1n D e:=by unfold nbD at h;exact h
def nbD.z{N:Nat}{d:PyData}(h:Y1n 0 d):(∀i,d=Y07->Y2Y (2^140))/\∀ds,d=Yy->Y3H N:=by unfold nbD at h;exact h
def nbD.tup{N D:Nat}{ds:Ya}(h:Y3H N)(he:∀D',D=D' + 1->∀e∈ds,Y1n D' e):Y1n D Yy:=by
 cases D with
 | zero=>exact .zero (λi q=>by cases q) (λa q=>by cases q;exact h)
 | succ D=>exact .succ (λi q=>by cases q) (λa q=>by cases q;exact⟨h,he D rfl⟩)
theorem nbD.int{N D:Nat}{i:Int}(h:Y2Y (2^140)):Y1n D Y07:=by
 cases D with
 | zero=>exact .zero (λj q=>by cases q;exact h) (λa q=>by cases q)
 | succ D=>exact .succ (λj q=>by cases q;exact h) (λa q=>by cases q)
def nbD.oth{N D:Nat}{d:PyData}(h1:∀i,d ≠ Y07)(h2:∀ds,d ≠ Yy):Y1n D d:=by
 cases D with
 | zero=>exact .zero (λj q=>absurd q (h1 j)) (λa q=>absurd q (h2 a))
 | succ D=>exact .succ (λj q=>absurd q (h1 j)) (λa q=>absurd q (h2 a))
def nbD.len{N D:Nat}{ds:Ya}(h:Y1n D Yy):Y3H N:=by
 cases D with
 | zero=>exact h.z.2 ds rfl
 | succ D=>exact(h.s.2 ds rfl).1
def nbD.mem{N D:Nat}{ds:Ya}(h:Y1n (D+1) Yy){e:PyData}(he:e∈ds):Y1n D e:=(h.s.2 ds rfl).2 e he
def nbD.big{N D:Nat}{i:Int}(h:Y1n D Y07):Y2Y (2^140):=by
 cases D with
 | zero=>exact h.z.1 i rfl
 | succ D=>exact h.s.1 i rfl
theorem nbD.mono{N M:Nat}(hN:N<=M):∀{D:Nat}{d:PyData},Y1n D d->nbD M D d
 | 0,d,h=>.zero h.z.1 λds e=>aM (h.z.2 ds e) hN
 | D+1,d,h=>.succ h.s.1 λds e=>⟨aM (h.s.2 ds e).1 hN,λx hx=>((h.s.2 ds e).2 x hx).mono hN⟩
def MO{N D:Nat}{a b:PyData}(h2:2<=N)(ha:Y6d D a)(hb:Y6d D b):Y1n D (Y0a a b):=nbD.tup h2 λD' _ e c=>by
 rcases Y7q with rfl | c
 ·exact ha D'
 ·rw[aN.mp c];exact hb D'
def JU{N:Nat}(h2:2<=N):∀o∈tO,Y6d D o:=by
 have I:∀i:Int,i.natAbs<=9->Y6d D Y07:=λi h D=>nbD.int (bK h Dd);have O:∀d:PyData,(∀i,d ≠ Y07)->(∀c,d ≠ .tuple c)->Y6d D d:=λd m h2 D=>nbD.oth m h2;have P:∀i j:Int,i.natAbs<=9->j.natAbs<=9->Y6d D (YbD Y07 j):=λi j h p D=>MO h2 (I i h) (I j p);have A:∀(l:Ya) (a:PyData),(Y6d D a)->(∀o∈l,Y6d D o)->∀o∈a::l,Y6d D o:=λl a m h2 o g=>by
  rcases aK.mp g with rfl | g
  ·exact m
  ·exact h2 o g
 show ∀o∈([.none,.bool true,.int 0,.int (-1),.str "rule",.str "none",.tuple [],.list [],.tuple [.int 1,.int 2],.tuple [.int 2,.int 4],.tuple [.int (-1),.int 2],.tuple [.int 1,.int 0],.tuple [.int 0,.int 2],.tuple [.bool true,.int 1],.tuple [.int 0,.int 0],.str "1/2"]:List PyData),Y6d D o;refine A _ _ (Ya8 _ (by cases q) (by cases q)) <| A _ _ (Ya8 _ (by cases q) (by cases q)) <| A _ _ (I _ Dd) <| A _ _ (I _ Dd) <| A _ _ (Ya8 _ (by cases q) (by cases q)) <| A _ _ (Ya8 _ (by cases q) (by cases q)) <| A _ _ (λD=>nbD.tup (Y1z) λ_ _ e r=>by cases r) <| A _ _ (Ya8 _ (by cases q) (by cases q)) <| A _ _ (P _ _ Dd Dd) <| A _ _ (P _ _ Dd Dd) <| A _ _ (P _ _ Dd Dd) <| A _ _ (P _ _ Dd Dd) <| A _ _ (P _ _ Dd Dd) <| A _ _ (λD=>MO h2 (Ya8 _ (by cases q) (by cases q)) (I _ Dd)) <| A _ _ (P _ _ Dd Dd) <| A _ _ (Ya8 _ (by cases q) (by cases q)) λo g=>by cases g
def mI.nb{d d':PyData}(h:mI d d'):∀{N D:Nat},1<=N->Y1n D d->nbD (N+1) D d':=by
 induction h with
 | odd ho=>intro N D c _;exact JU Oo _ ho D
 | lst=>intro N D _ _;exact nbD.oth (λi q=>by cases q) (λg q=>by cases q)
 | @del g i =>
  intro N D c h;have j:=h.len;refine nbD.tup (by rw[aW,bU,List.length_drop];exact Oo) λD' e x a=>?_;subst e;refine(h.mem ?_).mono Oo;rcases Y4m with a | a
  ·exact Y6P
  ·exact Y7T
 | @ins g i o ho =>
  intro N D c h;have j:=h.len;refine nbD.tup (by rw[aW,bM,bU,List.length_drop];exact Oo) λD' e x a=>?_;subst e;rcases Y4m with a | a
  ·exact(h.mem (List.mem_of_mem_take a)).mono Oo
  ·rcases Y2S with rfl | a
   ·exact JU Oo _ ho D'
   ·exact(h.mem (List.mem_of_mem_drop a)).mono Oo
 | @sub g i d e hd _ ih =>
  intro N D c h;have j:=h.len;have l:=(aT.mp hd).1;refine nbD.tup (by rw[aW,bM,bU,List.length_drop];exact Oo) λD' q x a=>?_;subst q;rcases Y4m with a | a
  ·exact(h.mem (List.mem_of_mem_take a)).mono Oo
  ·rcases Y2S with rfl | a
   ·exact ih c (h.mem (aF hd))
   ·exact(h.mem (List.mem_of_mem_drop a)).mono Oo
def mG.mono{n m:Nat}{d:PyData}(h:mG n d)(hn:n<=m):mG m d:=⟨h.1,aM h.2 hn⟩
theorem qM{n:Nat}:∀{ds:Ya},Y6U<=n->∀d∈ds,Ye0<=n
 | [],_,d,h=>by cases h
 | e::ds,h,d,hd=>by
  have h:max (PyData.depth e) (PyData.depthAll ds)<=n:=h;rcases aK.mp hd with rfl | hd
  ·exact Oo
  ·exact qM Oo d hd
def mG.mem{n:Nat}{ds:Ya}(h:mG n (Yy)):∃m,n=m+1/\∀e∈ds,mG m e:=by
 have c:Y6U+1<=n:=h.2;exact⟨n-1,Oo,λe a=>⟨nM h.1 e a,qM Oo e a⟩⟩
def EE:∀o∈tO,mG 3 o:=λo a=>by
 have h:tO.all (λd=>YaA&&Y1D Ye0 3)=true:=Kk;have:=Ydo o a;rw[aP,decide_eq_true_eq]at this;exact this
def mI.shp{d d':PyData}(h:mI d d'):∀{k:Nat},mG k d->mG (k+3) d':=by
 induction h with
 | odd ho=>intro k _;exact(EE _ ho).mono Oo
 | lst =>
  intro k h;obtain⟨m,rfl,c⟩:=h.mem;exact(mG.lst c).mono Oo
 | @del ds i =>
  intro k h;obtain⟨m,rfl,c⟩:=h.mem;refine(mG.tup λx a=>c x ?_).mono Oo;rcases Y4m with a | a
  ·exact Y6P
  ·exact Y7T
 | @ins ds i o ho =>
  intro k h;obtain⟨m,rfl,c⟩:=h.mem;refine mG.mono (n:=m+3+1) (mG.tup YcA) Oo;rcases Y4m with a | a
  ·exact(c x (List.mem_of_mem_take a)).mono Oo
  ·rcases Y2S with rfl | a
   ·exact(EE _ ho).mono Oo
   ·exact(c x (List.mem_of_mem_drop a)).mono Oo
 | @sub ds i d e hd _ ih =>
  intro k h;obtain⟨m,rfl,c⟩:=h.mem;refine mG.mono (n:=m+3+1) (mG.tup YcA) Oo;rcases Y4m with a | a
  ·exact(c x (List.mem_of_mem_take a)).mono Oo
  ·rcases Y2S with rfl | a
   ·exact ih (c d (aF hd))
   ·exact(c x (List.mem_of_mem_drop a)).mono Oo
def HA{N D:Nat}{x:PyData}(h:Y1n (D+1) x)(f:dI x=true):gC (jJ x):=by
 obtain⟨n,k,rfl,c,a⟩:=oK f;exact⟨⟨by show 0<k;exact Oo,a⟩,(h.mem (aG ..)).big,(h.mem (aQ _ (aG ..))).big⟩
def tX{N D:Nat}{d e:PyData}(h:Y1n (D+1) d)(he:e∈jE d):Y1n D e:=by
 cases d with
 | tuple ds=>exact h.mem he
 | _=>cases he
def OkP.of{N k:Nat}{d:PyData}(hN:N<=64)(hk:k<=64)(h:Y1n 4 d)(s:mG k d)(ru:∀x1 x2 x3,Y5k d [.str "rule",x1,x2,x3]->XE x1):OkP d where
 wd:=by
  cases d with
  | tuple ds =>
   obtain⟨m,rfl,j⟩:=s.mem;exact⟨aM h.len hN,λe c=>(j e c).ok Oo,λe c l q=>by subst q;exact aM (h.mem c).len hN⟩
  | _=>trivial
 ru:=ru
 nu:=λe c=>by
  have i:=tX h c;refine⟨λx g f=>HA (tX i g) f,λx g a b q f=>?_⟩;subst q;exact HA ((tX i g).mem (aQ _ (aG ..))) f
end Kw
namespace L2
open PySem PySem.Spec PySem.W PyProof.Rows HT
abbrev pD(c:Y6p):PyData:=YbD (.str c.1) c.2
def aG0(a b:Y6p):PyData.eqv (pD a) (pD b)=Yr a b:=by
 show(Yam (.str a.1) b.1&&(PyData.eqv (.int a.2) (.int b.2)&&true))=_;rw[aG1,show PyData.eqv (.str a.1) (.str b.1)=decide (a.1=b.1)from rfl];by_cases h:a.1=b.1 <;> by_cases h':a.2=b.2 <;> simp[h,h',Prod.ext_iff]
def US{c:Y6p}(h:Y37 c.1=true):PyData.canLay0 (pD c)=true:=by
 show(Y37 c.1&&(PyData.canLay0 (.int c.2)&&true))=true;rw[h];rfl
def aDk{H:Hp}{c:Y6p}{v:V}(h:Y0r (pD c) v):∃a,v=Y7/\H a=Yl [.str c.1,.int c.2]:=by
 unfold bL at h;obtain⟨a,j,rfl,e,d⟩:=h;unfold aJ aJ aJ at d;obtain⟨x,_,rfl,i,y,_,rfl,g,rfl⟩:=d;cases(show x=V.str c.1 from i);cases(show y=V.int c.2 from g);exact Y0Q a e
open Classical in
noncomputable def eqP (H:Hp) (c:Y6p) (u:Value):Bool:=decide (∃b,u=Y0E/\H b=Yl [.str c.1,.int c.2])
section
variable{X:Cx}{pins:Ad}{σ:St}{H:Hp}{s:Shared}
def VM{c c':Y6p}{y:V}{u:Value}(h:Y0r (pD c') y)(r:Y3n):eqP H c u=Yr c' c:=by
 obtain⟨a,rfl,e⟩:=aDk h;cases r;unfold eqP;rw[Bool.eq_iff_iff];simp only[decide_eq_true_eq];constructor
 ·rintro⟨b,g,d⟩;cases g;rw[e]at d;injection d with d;injection d with d;injection d with h1 d;injection d with h2 d;injection h1 with h1;injection h2 with h2;exact Prod.ext h1 h2
 ·rintro rfl;exact Y0Q a e
theorem NI{c:Y6p}:∀{cs:Y1M Int}{ys:Al}{us:Ag},Y74 pD ys->Y1T ys->us.any (eqP H c)=decide (c∈cs)
 | [],ys,us,r,v=>by
  unfold aJ at r;cases(show ys=[]from r);cases v
  rfl
 | c' :: cs,ys,us,r,v=>by
  rw[bC]at r;unfold aJ at r;obtain⟨y,ys',rfl,r1,r2⟩:=r;obtain⟨u,a,rfl,rv,d⟩:=BX v;rw[List.any_cons,VM r1 rv,NI r2 d];by_cases h:c'=c
  ·subst h;simp
  ·have g:¬c=c':=λe=>h e.symm;simp[h,g]
theorem NH(I:Y2)(hu:Y2u 64<cLine){c:Y6p}{v:Value}{as:Y0m}(rc:Reads s.heap v (pD c) as)(hc:Y37 c.1=true):∀{cs:Y1M Int}{ys:Al}{us:Ag},(∀c' ∈ cs,Y37 c'.1=true)->Y74 pD ys->Y1T ys ->
  ∀u∈us,SeqAt.EqAt X.A.in1 s u v (eqP H c u)
 | [],ys,us,_,r,vv=>by
  unfold aJ at r;cases(show ys=[]from r);cases vv;exact λu hu=>by cases hu
 | c' :: cs,ys,us,hk,r,vv=>by
  rw[bC]at r;unfold aJ at r;obtain⟨y,ys',rfl,r1,r2⟩:=r;obtain⟨u,d,rfl,rv,g⟩:=BX vv;intro i a;rcases aK.mp a with rfl | a
  ·obtain⟨bs,e⟩:=r1.reads I rv;rw[VM r1 rv,<-aG0];refine SeqAt.eqAt_reads (pD c') (pD c) _ s _ _ bs as e rc (US (hk c' (aG ..))) (US hc) ?_;have j:(pD c').depth<=2:=by
    simp[PyData.depth,PyData.depthAll]
   have:X.A.in1.units<=X.A.units+1:=by
    first
     | exact aO _
     | (unfold Around.in1;simp)
   exact Oo
  ·exact NH I hu rc hc (λx h=>hk x (aQ _ h)) r2 g i a
end
@[irreducible] def YU(K:Aa):R2:=λx y H Q=>∃(p:Addr) (ys:Al) (cs:Y1M Int) (c:Y6p),y=Y0x/\hU K H p ys/\Y74 pD ys/\Y0r (pD c) x/\Y37 c.1=true/\(∀c' ∈ cs,Y37 c'.1=true)/\Y0H (! decide (c∈cs))
def riP{K:Aa}{x:V}{p:Addr}{ys:Al}(cs:Y1M Int){c:Y6p}{H:Hp}{Q:VK}(h:H p=Y08)(r:Y74 pD ys)(rx:Y0r (pD c) x)(hc:Y37 c.1=true)(hk:∀c' ∈ cs,Y37 c'.1=true)(q:Y0H (! decide (c∈cs))):YU K x (Y0x) H Q:=by
 unfold YU;exact⟨p,ys,cs,c,rfl,Yac,r,rx,hc,hk,q⟩
section
variable{X:Cx}
def PJ(K:Aa)(hu:Y2u 64<cLine)(hK:X.K=K:=by rfl):Y29 .NotIn (YU K):=by
 subst hK;unfold YU;intro d s σ H x y v u Q I g C h;obtain⟨p,J,L,c,rfl,B,r,m,j,l,q⟩:=h;cases C;obtain⟨N,G⟩:=m.reads I g;obtain⟨a,e,D,M⟩:=I.list B;refine SeqAt.notIn_listAt (eqP H c) D.isList (λw i=>NH I hu G j l r e w (by simpa using i)) (Y3Q _ H I ?_);rw[show a.toArray.any (eqP H c)=a.any (eqP H c)by simp,NI r e];exact q
end
@[irreducible] def EJ:V->Y0W:=λx xs H Q=>∃a,x=.str a/\xs=[]/\Yfa ((PySem.Txt.upper a).length)/\Q (.str (PySem.Txt.upper a)) H
def rupper{a b:Str}{H:Hp}{Q:VK}(e:PySem.Txt.upper a=b)(h:Yfa b.length)(q:Q (.str b) H):EJ (.str a) [] H Q:=by subst e;unfold EJ;exact Y0v a rfl h q
def UM{X:Cx}:MtR X "str.upper" EJ:=by
 unfold EJ;intro d s σ H x j v i Q I e rv h;obtain⟨a,rfl,rfl,g,q⟩:=h;obtain⟨t,rfl⟩:=e;have c:=rv.zero;subst c;exact SC.upper g ⟨.str _,H,Y0S,Y1E,q⟩
def XU:PySem.Txt.upper "rule" = ("RULE" : String):=Kk
def XV:PySem.Txt.upper "none" = ("NONE" : String):=Kk
end L2
namespace Kw
open PySem L2 Mf
abbrev aCW:Stmt:=(top 94)
def WH:Yc ["_law_trial_here","_law_aim_here","_law_thing","_law_prices","_law_told_here","_law_one"] a04 aCW:={}
structure Sw(n w:Nat)(d:PyData):Prop where
 sh:Y6m d
 nd:YbU d
 dp:Ye0<=n
 wd:vZ d<=w
theorem Sw.all{n w:Nat}:∀{ds:Ya},(∀d∈ds,Sw n w d)->Yar=true/\Y7W ds/\Y6U<=n/\Y3Y<=ds.length*(w+2)
 | [],_=>⟨rfl,rfl,cK _,cK _⟩
 | d::ds,h=>by
  obtain⟨a,b,c,e⟩:=h d (aG ..);obtain⟨g,j,l,m⟩:=Sw.all λx i=>h x (aQ d i);refine⟨?_,?_,?_,?_⟩
  ·show(PyData.showable d&&PyData.showableAll ds)=true;rw[a,g];rfl
  ·show(PyData.hasDict d || PyData.hasDictAll ds)=false;rw[b,j];rfl
  ·show max (PyData.depth d) (PyData.depthAll ds)<=n;exact Oo
  ·show vZ d+2+iI ds<=(ds.length+1)*(w+2);rw[Nat.add_mul,Nat.one_mul];exact Oo
def Sw.tup{n w k:Nat}{ds:Ya}(h:∀d∈ds,Sw n w d)(hl:Y3H k):Sw (n+1) (k*(w+2)+4) (Yy):=by
 obtain⟨a,b,c,e⟩:=Sw.all h;refine⟨a,b,by show Y6U+1<=n+1;exact Oo,?_⟩;show Y3Y+4<=_;have:=bS (w+2) hl;exact Oo
def Sw.le{n w m v:Nat}{d:PyData}(h:Sw n w d)(hn:n<=m:=by decide)(hw:w<=v:=by decide):Sw m v d:=⟨h.sh,h.nd,aM h.dp hn,aM h.wd hw⟩
theorem Sw.int{x:Int}{k:Nat}(h:x.natAbs<2^k)(hk:k<=1900:=by decide):Sw 1 1921 (.int x) :=
 Y0X (LX (n:=1900) (bD h (Y2w hk))) (by simp[PyData.depth]) Yk
def Sw.cts{c:Ae}(h:∀x∈c,x<1000){k:Nat}(hl:c.length<=k):Sw 2 (k*1923+4) (gB c):=Sw.tup (n:=1) (w:=1921) (λd hd=>by
 obtain⟨x,a,rfl⟩:=Y8v;exact Sw.int (k:=10) (by have:=h x a;show(x:Int).natAbs<1024;exact Oo)) (by rw[aA];exact hl)
def rrW{H:Hp}{Q:VK}{x:V}{d:PyData}{n w:Nat}(r:Y2n)(h:Sw n w d)(hn:n<=60)(hw:w<=16000000)(q:Q (Yeg) H):GU [x] H Q :=
 rrI r h.sh h.nd (aM h.dp hn) (aM (GM _ h.sh h.nd) (aM h.wd (aM hw Dd))) q
def tx(d:PyData):Ae:=(PyData.shown d).cps.toList
def tJ(n:Nat):tx (.int (n:Int))=(Nat.toDigits 10 n).map Char.toNat:=by
 show(PyData.shown (.int (n:Int))).cps.toList=_;rw[PyData.shown_int,PyProof.Rows.signs_ofString];congr 1;show(Int.repr (n:Int)).toList=_;show(Nat.repr n).toList=_;rw[Nat.repr_eq_ofList_toDigits,String.toList_ofList]
def aBN(n:Nat):∃r,tx (.int (Int.negSucc n))=45::r:=by
 show ∃r,(PyData.shown (.int (Int.negSucc n))).cps.toList=45::r;rw[PyData.shown_int,PyProof.Rows.signs_ofString];show ∃r,("-" ++ Nat.repr (n+1):String).toList.map Char.toNat=45::r;rw[String.toList_append];exact Y1E
def qL(n:Nat):∀x∈(Nat.toDigits 10 n).map Char.toNat,48<=x/\x<=57:=λx a=>by
 obtain⟨c,d,rfl⟩:=Y7r;exact PyProof.Rows.digit_range (Nat.isDigit_of_mem_toDigits Dd Dd d)
def NK{n m:Nat}(h:(Nat.toDigits 10 n).map Char.toNat=(Nat.toDigits 10 m).map Char.toNat):n=m:=by
 have c:Ye1 n=Ye1 m:=List.map_inj_right (λ_ _ e=>Char.toNat_inj.mp e) |>.mp h;have a:=Nat.ofDigitChars_toDigits (b:=10) (n:=n) Dd Dd;rw[c,Nat.ofDigitChars_toDigits Dd Dd]at a;exact a.symm
def upto{a b s t:Ae}(ha:∀x∈a,x≠44)(hb:∀x∈b,x≠44)(h:a++44::s=b++44::t):a=b/\s=t:=by
 induction a generalizing b with
 | nil =>
  cases b with
  | nil=>exact Y0l (by simpa using h)
  | cons y b=>exact absurd (List.cons.inj h).1.symm (hb y (aG ..))
 | cons x a ih =>
  cases b with
  | nil=>exact absurd (Y5Z).1 (ha x (aG ..))
  | cons y b =>
   obtain⟨e,q⟩:=Y5Z;obtain⟨g,d⟩:=ih (λz c=>ha z (aQ _ c)) (λz c=>hb z (aQ _ c)) q;exact⟨by rw[e,g],d⟩
def aAY{a b s t:Ae}(ha:∀x∈a,48<=x/\x<=57)(hb:∀x∈b,48<=x/\x<=57){c:Nat}(hc:c<48)(h:a++c::s=b++41::t):a=b/\c=41/\s=t:=by
 induction a generalizing b with
 | nil =>
  cases b with
  | nil =>
   obtain⟨e,q⟩:=Y5Z;exact⟨rfl,e,q⟩
  | cons y b =>
   have e:=(Y5Z).1;have:=hb y (aG ..);exact Oo
 | cons x a ih =>
  cases b with
  | nil =>
   have e:=(Y5Z).1;have:=ha x (aG ..);exact Oo
  | cons y b =>
   obtain⟨e,q⟩:=Y5Z;obtain⟨i,g⟩:=ih (λz d=>ha z (aQ _ d)) (λz d=>hb z (aQ _ d)) q;exact⟨by rw[e,i],g⟩
def jn:Ya->Ae
 | []=>[]
 | [d]=>tx d
 | d::e::r=>tx d++44::32::jn (e::r)
theorem EZ:∀ds:List PyData,(Str.join (", " : String) (PyData.shownAll ds)).cps.toList=jn ds
 | []=>rfl
 | [d]=>rfl
 | d::e::r=>by
  have ih:=EZ (e::r);show(PyData.shown d++((", " : String):Str)++Str.join (", " : String) (PyData.shownAll (e::r))).cps.toList=_;rw[PyProof.Rows.cps_toList_append,PyProof.Rows.cps_toList_append,ih,PyProof.Rows.signs_sep,List.append_assoc]
  rfl
def yZ(ds:Ya):tx (Yy)=40::(jn ds++if Y2P 1 then[44,41] else[41]):=by
 show(PyData.shown (Yy)).cps.toList=_;rw[PyData.shown_tuple,PyProof.Rows.cps_toList_append,PyProof.Rows.cps_toList_append,EZ,PyProof.Rows.signs_ofString,PyProof.Rows.signs_ofString];by_cases h:Y2P 1
 ·rw[Y8u,if_pos (by simpa using h)];rfl
 ·rw[Y6i,if_neg (by simpa using h)];rfl
def IY(ds:Ya):tx (Y7h)=91::(jn ds++[93]):=by
 show(YbI ds).cps.toList=_;rw[PyData.shown_list,PyProof.Rows.cps_toList_append,PyProof.Rows.cps_toList_append,EZ,PyProof.Rows.signs_ofString,PyProof.Rows.signs_ofString]
 rfl
theorem BB(q:Nat)(f:Nat->Ae):∀(l:Ae) (acc:Y0B),acc.toList.head?=some q->((l.foldl (λout c=>out++(f c).toArray) acc).toList.head?=some q)
 | [],acc,h=>h
 | c::r,acc,h=>BB q f r _ (by
  rw[Array.toList_append];cases hl:acc.toList with
  | nil=>rw[hl]at h;cases h
  | cons x l=>rw[hl]at h;exact h)
def aBM(s:Str):∃x r,tx (Y2C)=x::r/\(x=34\/x=39):=by
 have h:(tx (Y2C)).head?=some (Y8e):=by
  show(PyData.shown (Y2C)).cps.toList.head?=_;rw[PyData.shown_str];show((s.cps.foldl (λa c=>a++(Builtin.Str.reprChar (reprQuote s) c).toArray) #[reprQuote s]).push (Y8e)).toList.head?=_;rw[Array.toList_push,<-Array.foldl_toList];have:=BB (Y8e) (Builtin.Str.reprChar (Y8e)) s.cps.toList #[Y8e] rfl;cases hl:(s.cps.toList.foldl (λa c=>a++(Builtin.Str.reprChar (Y8e) c).toArray) #[Y8e]).toList with
  | nil=>rw[hl]at this;cases this
  | cons x l=>rw[hl]at this;exact this
 cases hl:tx (Y2C)with
 | nil=>rw[hl]at h;cases h
 | cons x l =>
  rw[hl]at h;have e:x=Y8e:=gY h;refine Y4Q x l ?_;rw[e];unfold reprQuote;split
  ·exact Y21
  ·exact Y6g
def zD(d:PyData)(nd:YbU d):∃x r,tx d=x::r/\(48<=x->x<=57->∃n:Nat,d=Y5R)/\(x=40->∃ds,d=Yy)/\x≠93:=by
 cases d with
 | none=>exact Y4y 78 _ (λ_ h=>Y7b h) (Y97 h Dd) Dd
 | bool b=>cases b <;> exact Y4y _ _ (λ_ h=>Y7b h) (Y97 h Dd) Dd
 | int i =>
  cases i with
  | ofNat n =>
   cases hl:Ye1 n with
   | nil=>exact absurd hl Nat.toDigits_ne_nil
   | cons c l =>
    have e:tx (.int (n:Int))=(Nat.toDigits 10 n).map Char.toNat:=tJ n;have hd:=qL n;rw[hl]at e hd;have:=hd c.toNat (aG ..);exact⟨c.toNat,l.map Char.toNat,e,λ_ _=>Y7m n,λz=>Oo,Oo⟩
  | negSucc n =>
   obtain⟨r,e⟩:=aBN n;exact⟨45,r,e,Y97 h Dd,Y97 h Dd,Dd⟩
 | str s =>
  obtain⟨x,r,e,h⟩:=aBM s;exact⟨x,r,e,λa b=>Oo,λa=>Oo,Oo⟩
 | list ds=>exact⟨91,_,IY ds,λ_ h=>Y7b h,Y97 h Dd,Dd⟩
 | tuple ds=>exact⟨40,_,yZ ds,Y97 h Dd,λ_=>Y7m ds,Dd⟩
 | dict kvs=>cases nd
theorem tP:∀{ds:Ya},Y7W ds->∀d∈ds,YbU d
 | [],_,d,h=>by cases h
 | e::ds,h,d,hd=>by
  have h:(PyData.hasDict e || PyData.hasDictAll ds)=false:=h;rw[Bool.or_eq_false_iff]at h;rcases aK.mp hd with rfl | hd
  ·exact h.1
  ·exact tP h.2 d hd
def RW{n:Nat}:∃x r,(Nat.toDigits 10 n).map Char.toNat=x::r/\48<=x/\x<=57:=by
 cases hl:Ye1 n with
 | nil=>exact absurd hl Nat.toDigits_ne_nil
 | cons c l =>
  have hd:=qL n;rw[hl]at hd;exact Y34 _ (hd c.toNat (aG ..))
def DS{d:PyData}{n:Nat}{s t:Ae}(nd:YbU d)(h:tx d++s=(Nat.toDigits 10 n).map Char.toNat++t):∃m:Nat,d=.int m:=by
 obtain⟨x,r,e,a,_,_⟩:=zD d nd;obtain⟨y,i,c,j,g⟩:=RW (n:=n);rw[e,c]at h;obtain⟨q,_⟩:=Y5Z;exact a Oo Oo
def LN{d:PyData}{a b:Nat}{s t:Ae}(nd:YbU d)(h:tx d++s=tx (gB [a,b])++t):d=gB [a,b]/\s=t:=by
 have e:tx (gB [a,b])=40::((Nat.toDigits 10 a).map Char.toNat++44::32::((Nat.toDigits 10 b).map Char.toNat++[41])):=by
  show tx (Y3j (a:Int) (b:Int))=_;rw[yZ];show 40::((tx (.int (a:Int))++44::32::tx (.int (b:Int)))++[41])=_;rw[tJ,tJ,List.append_assoc];rfl
 obtain⟨x,r,G,_,B,_⟩:=zD d nd;have i:x=40:=by
  rw[e,G]at h;exact(Y5Z).1
 obtain⟨w,rfl⟩:=B i;rw[e,yZ]at h;have h:=(Y5Z).2;have nd:Y7W w:=nd;have c:∀n,∀x∈(Nat.toDigits 10 n).map Char.toNat,x≠44:=λn x i=>by have:=qL n x i;exact Oo
 match w,nd,h with
 | [],_,h =>
  obtain⟨y,I,D,j,l⟩:=RW (n:=a);rw[D]at h;have:=(List.cons.inj h).1;exact Oo
 | [d0],nd,h =>
  have g:=tP nd d0 (aG ..);have h:(tx d0++[44,41])++s=((Nat.toDigits 10 a).map Char.toNat++44::32::((Nat.toDigits 10 b).map Char.toNat++[41]))++t:=h;rw[List.append_assoc,List.append_assoc]at h;obtain⟨m,rfl⟩:=DS g h;rw[tJ]at h;have:=(upto (c m) (c a) h).2;exact absurd (List.cons.inj this).1 Dd
 | d0::d1::r,nd,h =>
  have g:=tP nd d0 (aG ..);have u:=tP nd d1 (aQ _ (aG ..));have h:((tx d0++44::32::jn (d1::r))++(if(r.length+2)=1 then[44,41] else[41]))++s=((Nat.toDigits 10 a).map Char.toNat++44::32::((Nat.toDigits 10 b).map Char.toNat++[41]))++t:=h;rw[if_neg Oo,List.append_assoc,List.append_assoc,List.append_assoc]at h;obtain⟨m,rfl⟩:=DS g h;rw[tJ]at h;obtain⟨p,j⟩:=upto (c m) (c a) h;have l:=(List.cons.inj j).2;clear h j;have p:=NK p;subst p;cases r with
  | nil =>
   have h:tx d1++([41]++s)=((Nat.toDigits 10 b).map Char.toNat++[41])++t:=l;rw[List.append_assoc]at h;obtain⟨k,rfl⟩:=DS u h;rw[tJ]at h;obtain⟨C,_,A⟩:=aAY (qL k) (qL b) Dd h;rw[NK C];exact⟨rfl,A⟩
  | cons d2 r =>
   have h:(tx d1++44::32::jn (d2::r))++([41]++s)=((Nat.toDigits 10 b).map Char.toNat++[41])++t:=l;rw[List.append_assoc,List.append_assoc]at h;obtain⟨k,rfl⟩:=DS u h;rw[tJ]at h;have:=(aAY (qL k) (qL b) Dd h).2.1;exact absurd this Dd
theorem aBj:∀{ds:Ya}{cs:Ab},Y7W ds->(∀c∈cs,c.length=2)->jn ds++[93]=jn (Y9J)++[93]->ds=Y9J
 | [],[],_,_,_=>rfl
 | [],c::cs,_,_,h=>by
  exfalso;have e:∃r,jn ((c::cs).map gB)=40::r:=by
   rw[bC];cases cs with
   | nil=>exact⟨_,yZ _⟩
   | cons c' cs=>exact⟨_,congrArg (· ++ _) (yZ _)⟩
  obtain⟨r,e⟩:=e;rw[e]at h;exact absurd (List.cons.inj h).1 Dd
 | d::ds,[],g,_,h=>by
  exfalso;obtain⟨x,r,e,_,_,p⟩:=zD d (tP g d (aG ..));have i:∃r,jn (d::ds)=x::r:=by
   cases ds with
   | nil=>exact⟨_,e⟩
   | cons c' cs=>exact⟨_,congrArg (· ++ _) e⟩
  obtain⟨r,i⟩:=i;rw[i]at h;exact p (List.cons.inj h).1
 | d::ds,c::cs,g,hc,h=>by
  have j:=tP g d (aG ..);have l:PyData.hasDictAll ds=false:=by
   have g:(PyData.hasDict d || PyData.hasDictAll ds)=false:=g;rw[Bool.or_eq_false_iff]at g;exact g.2
  have w:=hc c (aG ..);have u:=@aBj ds cs l λx y=>hc x (aQ _ y)
  match c,w with
  | [a,b],_ =>
   rw[bC]at h ⊢;cases ds with
   | nil =>
    cases cs with
    | nil=>rw[(LN j h).1];rfl
    | cons c' cs =>
     have h:tx d++[93]=(tx (gB [a,b])++44::32::jn ((c' :: cs).map gB))++[93]:=h;rw[List.append_assoc]at h;exact absurd (List.cons.inj (LN j h).2).1 Dd
   | cons d' ds =>
    have m:jn (d::d' :: ds)=tx d++44::32::jn (d' :: ds):=rfl;rw[m,List.append_assoc]at h;cases cs with
    | nil=>exact absurd (List.cons.inj (LN (t:=[93]) j h).2).1 Dd
    | cons c' cs =>
     have h:tx d++(44::32::jn (d' :: ds)++[93])=(tx (gB [a,b])++44::32::jn ((c' :: cs).map gB))++[93]:=h;rw[List.append_assoc]at h;obtain⟨A,i⟩:=LN j h;rw[A,u (List.cons.inj (List.cons.inj i).2).2]
def OU{ds:Ya}{cs:Ab}(nd:Y7W ds)(hc:∀c∈cs,c.length=2):(YbI ds=YbI Y9J)↔ds=Y9J:=by
 refine Yaa (λh=>?_) (by rw[h]);have h:tx (Y7h)=tx (.list (Y9J)):=congrArg (·.cps.toList) h;rw[IY,IY]at h;exact aBj nd hc (Y5Z).2
def wds:Y1M Int:=[("rule",4),("none",3)]
def FA{F W A:Nat}{ds:Ya}(h:∀s,Y2J 0=Y2C->(s,((ds.length:Nat):Int)) ∉ wds):Y6 (oP F W A (Yy)):=by
 unfold oP;cases h1:rP F W A "rule" 4 (Yy)with
 | true =>
  obtain⟨d,a,c,e,_⟩:=MW h1;cases e;exact absurd (aG ..) (h _ rfl)
 | false =>
  cases h2:rP F W A "none" 3 (Yy)with
  | true =>
   obtain⟨a,c,e,_⟩:=MX h2;cases e;exact absurd (aQ _ (aG ..)) (h _ rfl)
  | false=>rfl
def UV{F W A:Nat}{ds:Ya}{s:Str}(h0:Y2J 0=Y2C)(h:(s,((ds.length:Nat):Int))∈wds):3<=ds.length/\oP F W A (Yy)=(Y8D (W:Nat) (ds.length-2)&&mN F A (Y2J (ds.length-1))):=by
 have e:oP F W A (Yy)=((YaL 4&&(Y9W 0 "rule"&&(Y8D (W:Nat) (4-2)&&mN F A (Y2J (4-1))))) || (YaL 3&&(Y9W 0 "none"&&(Y8D (W:Nat) (3-2)&&mN F A (Y2J (3-1)))))):=rfl;have q:∀t:Str,Yam (.str t) t=true:=λt=>by show Yr t t=true;simp
 rw[e,h0];rcases aK.mp h with z | z
 ·obtain⟨c,d⟩:=Prod.mk.inj z;have a:Y2P 4:=Oo;subst c;refine Y02 Oo;rw[a,q];simp
 ·have z:=aN.mp z;obtain⟨c,d⟩:=Prod.mk.inj z;have a:Y2P 3:=Oo;subst c;refine Y02 Oo;rw[a,q];simp
def PQ(c:Ae):fE (gB c)=c:=by
 show(c.map λ(n:Nat)=>PyData.int (n:Int)).map _=c;rw[List.map_map]
 conv=>rhs;rw[<-List.map_id c]
 exact dD λn _=>by show((n:Int)).toNat=n;exact Oo
def UZ{F:Nat}{c:Ae}(h:Y4E):lZ (F:Int) (gB c)=true:=by
 show(Yr ((c.map λ(n:Nat)=>PyData.int (n:Int)).length:Int) (F:Int)&&(c.map λ(n:Nat)=>PyData.int (n:Int)).all xJ)=true;rw[aA,h,bH rfl,Bool.true_and,List.all_eq_true];intro x a;obtain⟨n,_,rfl⟩:=Y7r;show Y1D 0 (n:Int)=true;rw[bH (Int.natCast_nonneg n)]
def WN{F A:Nat}(f2:F=2){es:Ya}(nd:Y7W (es.map jI))(h:∀e∈es,∃a b,e=Y0a a b/\dI b=true):mN F A (.tuple es)=Yr (YbI (es.map jI)) (YbI ((rise F A).map gB)):=by
 have len:∀c∈rise F A,Y4E:=λc g=>((jC Oo).mp g).1;have l:=OU (cs:=Y3E A) nd λc g=>by rw[len c g,f2]
 have e:mN F A (.tuple es)=(es.all (jQ F)&&Yr (es.map (Y9Q d)) (Y3E A)):=rfl;rw[e];by_cases z:es.map jI=(rise F A).map gB
 ·rw[bH (l.mpr z),aP,decide_eq_true_eq];constructor
  ·rw[List.all_eq_true];intro x j;obtain⟨a,b,rfl,m⟩:=h x j;have:jI (Y0a a b)∈(rise F A).map gB:=by rw[<-z];exact aU.mpr (Y0j j)
   obtain⟨c,g,i⟩:=aU.mp this;have i:gB c=a:=i;show(lZ (F:Int) a&&dI b)=true;rw[<-i,UZ (len c g),m];rfl
  ·have:es.map (Y9Q d)=(es.map jI).map fE:=by rw[List.map_map];rfl
   rw[this,z,List.map_map]
   conv=>rhs;rw[<-List.map_id (Y3E A)]
   exact dD λc _=>PQ c
 ·rw[bP λq=>z (l.mp q)];cases h1:es.all (jQ F)with
  | false=>rfl
  | true =>
   rw[Bool.true_and,bP];intro q;refine z ?_;rw[CV h1,q]
def Sw.mem{n w:Nat}{ds:Ya}(h:Sw n w (Yy)):∃m,n=m+1/\∀d∈ds,Sw m w d:=by
 obtain⟨g,l,a,c⟩:=h;have a:Y6U+1<=n:=a;have c:Y3Y+4<=w:=c;have j:∀{ds:Ya},Yar=true->∀d∈ds,Y6m d:=λ{ds}=>by
  induction ds with
  | nil=>intro _ d h;cases h
  | cons e ds ih =>
   intro h d hd;have h:(PyData.showable e&&Yar)=true:=h;rw[aP]at h;rcases Ybl with rfl | hd
   ·exact h.1
   ·exact ih h.2 d hd
 have i:∀(ds:Ya),∀d∈ds,vZ d<=Y3Y:=λds=>by
  induction ds with
  | nil=>intro d h;cases h
  | cons e ds ih =>
   intro d hd;show vZ d<=vZ e+2+Y3Y;rcases Ybl with rfl | hd
   ·exact Oo
   ·have:=ih d hd;exact Oo
 exact⟨n-1,Oo,λd hd=>⟨j g d hd,tP l d hd,qM Oo d hd,by have:=i ds d hd;exact Oo⟩⟩
def Sw.lst{n w k:Nat}{ds:Ya}(h:∀d∈ds,Sw n w d)(hl:Y3H k):Sw (n+1) (k*(w+2)+4) (Y7h):=by
 obtain⟨a,b,c,e⟩:=Sw.all h;refine⟨a,b,by show Y6U+1<=n+1;exact Oo,?_⟩;show Y3Y+4<=_;have:=bS (w+2) hl;exact Oo
def zN{c:Ae}{x:Nat}(h:x∈c):x<=c.sum:=by
 induction c with
 | nil=>cases h
 | cons y c ih =>
  rw[List.sum_cons];rcases aK.mp h with rfl | h
  ·exact Oo
  ·have:=ih h;exact Oo
def QU{W:Nat}{es:Ya}(hl:es.length=W):kW (W:Nat) (.tuple es)=es.all tZ:=by
 show(Yr ((es.length:Nat):Int) (W:Nat)&&es.all tZ)=_;rw[hl,bH rfl,Bool.true_and]
def UW{d:PyData}(h:∀s,d ≠ Y2C):Y6 (UY "str" d):=by
 cases d with
 | str s=>exact Y4e (h s)
 | _=>rfl
def aBd{N D:Nat}{d:PyData}(h:Y1n (D+1) d):NmD d:=λn k z=>by
 subst z;exact⟨(h.mem (aG ..)).big,(h.mem (aQ _ (aG ..))).big⟩
def aAc:∀c∈wds,Y37 c.1=true:=Kk
inductive xV:Yi
 | i {H:Hp} {Q:VK} {E:XK} {t av x:V} {d:PyData} {F W A:Nat} {fs:Ah} {ws:Y0d} {bs mix cs:Ak} (h0:Y40) (h1:Y5f A) (h2:Y2n) (h3:∃D,nbD 8 (D+4) d) (h4:Sw 20 400000 d) (h5:∀s,jE d≠[]->(jE d).getD 0 .none=Y2C->Y37 s=true) (h6:Y7a F) (h7:YcR W) (h8:F=2) (h9:W<=4) (h10:A<=2) (q0:∀H',Y0->Y2i (oP F W A d)):xV [t,av,x] H Q E
section
def aGS(F:Yb "_law_is_shaped" "_law_is_shaped" aCW)(T:Yd)(FQ9:Y1w "_law_is_fraction" ["_law_one"] rG)(FQ5:Y1w "_law_counts" a23 iZ):cX P w K mg base cN 3 f fd a04 xV:=by
 refine Y1k WH;obtain @⟨H,Q,E,t,av,x,d,F,W,L,fs,ws,bs,mix,cs,rt,ra,r,⟨D,nb⟩,sw,hs,fl,wl,f2,w4,a2,q⟩:=h;refine Yh;intro cdv A outer s ω _;have rk:eQ K H d x:=r.k;refine⟨_,(aI (Y5U (cT (fQ K) (by rfl) T.b_isinstance Kk (Y5Y 2 (Yak (.ty "tuple") "tuple" rfl T.b_tuple Kk rfl))) (lS (dY sX (Y3O (by rfl) 2) aE) (Ya2 (cT (fQ K) (by rfl) T.b_isinstance Kk (Y2s Y31 (Yak (.ty "str") "str" rfl T.b_str Kk rfl))))))
  (aI (Y8j (dY (PJ K ω.units) (Y2L Y31 (Y3O (by rfl) 2)) (fV (Y2s (Y2L dB aE) (Y2L dB aE))) (by with_unfolding_all rfl)) kJ)
  (aI (Y11 WH.nd (Y4M 2 (yW tI aE)))
  (aI (Y67 WH.nd (Y4M 2 (yW tI aE)))
  (aI (Y5U (cT (fQ K) (by rfl) T.b_isinstance Kk (Y5Y 3 (Yak (.ty "tuple") "tuple" rfl T.b_tuple Kk rfl))) (lS (dY AJ (Y3O (by rfl) 3) (cT fH (by rfl) T.b_len Kk (Y1r Y0G))) (Ya2 (cT (fQ K) (by rfl) T.b_isinstance Kk (Y5Y 4 (Yak (.ty "tuple") "tuple" rfl T.b_tuple Kk rfl))))))
  (aI (Y2z (Y2x 3) 5 WH.nd (Y5U (Y2N FQ9 5) (kY (dY AK (Y3A 5) aE))))
  (aI (Y2z (Y2x 4) 5 WH.nd (Y5U (cT (fQ K) (by rfl) T.b_isinstance Kk (Y5Y 5 (Yak (.ty "tuple") "tuple" rfl T.b_tuple Kk rfl))) (lS (dY AJ (Y3O (by rfl) 5) aE) (Ya2 (eB FQ9 (Y3A 5))))))
  (Y0R (jY sX (cT (yL ω.gd ω.units) (by rfl) T.b_repr Kk (Y81 ["_law_one"] [] (Y2x 4) (Y5j 0 aE))) (cT (yL ω.gd ω.units) (by rfl) T.b_repr Kk (Y1r (cB FQ5 (cT fH (by rfl) T.b_len Kk (Y1r Y0G)) (Y16))))))))))))),?_⟩
 refine Yo;intro I n_;refine Y6H rk;refine Y3;cases d
 case tuple ds =>
  refine Y1f;obtain⟨a,xs,rfl,ε,ξ⟩:=dF r;have lx:Y2v ds.length:=ξ.len;have hs:∀s,ds≠[]->Y2J 0=Y2C->Y37 s=true:=hs;refine Yai ε;refine Y34 rfl ?_;rw[lx];refine Y7c
  ·have h0:ds=[]:=by
    have:((ds.length:Nat):Int)=0:=V.int.inj e;exact List.length_eq_zero_iff.mp Oo
   have:=Y4F;rw[FA (λs h=>by rw[h0]at h;cases h)]at this;exact this
  have n0:0<ds.length:=by
   rcases Nat.eq_zero_or_pos ds.length with z | z
   ·exact absurd (by rw[z];rfl) e
   ·exact z
  have at_:∀i,i<ds.length->∃y,Y0t=Y00/\Y0r (Y2J i) y/\Y2J i∈ds:=λi hi=>by
   have μ:Yag YeM:=by rw[List.map_id'];exact ξ
   obtain⟨y,ζ⟩:∃y,Y0t=Y00:=Y3U;obtain⟨e,g,m⟩:=cR μ ζ;exact⟨y,ζ,by rw[bI,g];exact m,by rw[bI,g];exact aF g⟩
  obtain⟨y0,h0,r0,m0⟩:=at_ 0 n0;refine Y1 (Y8c ε 0 h0 ?_);refine rkI r0.k Y3;by_cases l:∃S,Y2J 0=.str S
  case neg =>
   rw[UW λS e=>l ⟨S,e⟩];refine Y7d;intro I;have:=Y4F;rw[FA (λs h=>absurd ⟨s,h⟩ l)]at this;exact this
  obtain⟨S,l⟩:=l;rw[show UY "str" (ds.getD 0 .none)=true by rw[l];rfl];refine Y1f;have lst:=hs S (λz=>by rw[z]at n0;cases n0) l;rw[l]at r0;cases(show y0=.str S from r0);refine Y1 (Y8c ε 0 h0 ?_);refine Yai ε;refine Y0q (λp1 H1 hp1 e1 s1=>Y0q (λp2 H2 hp2 e2 s2=>Y0q (λp3 H3 hp3 e3 s3=>AN Yg7 (λp4 H4 hp4 e4 s4=>?_))));have S4:=((s1.trans s2).trans s3).trans s4;have α:aJ H4 (wds.map pD) [.ref p2,.ref p3]:=Y6M (Y6Q (((s3.trans s4)) _ _ e2) Y3g Yas) (Y6Q (s4 _ _ e3) Y3g Yas);have rx1:Y7e H4 (pD (S,((xs.length:Nat):Int))) p1:=Y6Q (((s2.trans s3).trans s4) _ _ e1) Y3g Yas;refine riP wds e4 α rx1 lst aAc ?_;rw[lx];refine Y1 (CS (Y47) (Y47))
  ·have:=q H4 S4;refine Y2g;intro I;rw[FA (λs h=>by rw[l]at h;cases h;exact e)]at this;exact this
  obtain⟨n3,ep⟩:=UV (F:=F) (W:=W) (A:=L) l e;rw[ep]at q;clear ep;obtain⟨y2,h2,ν,m2⟩:=at_ (ds.length-2) Oo;obtain⟨y1,h1,ο,m1⟩:=at_ (ds.length-1) Oo;have a2':Y4I (-2)=some y2:=yM (k:=2) Oo Oo (by rw[lx];exact h2);have a1':Y4I (-1)=some y1:=yM (k:=1) Oo Oo (by rw[lx];exact h1);have ab:=nb.mem m2;have γ:=nb.mem m1;obtain⟨k1,ek1,sws⟩:=sw.mem;have φ:=sws _ m1;generalize hp_:ds.getD (ds.length-2) .none=pd at ν ab q;generalize ht_:ds.getD (ds.length-1) .none=td at ο γ φ q;refine Y06 (gU (S4 _ _ ε) a2' ?_);refine Ys;intro I n_;refine Y06 (gU (S4 _ _ ε) a1' ?_);refine Ys;intro I n_;refine Y3;replace ν:=ν.same S4;replace ο:=ο.same S4;refine rK ν.k Y3;cases pd
  case tuple es =>
   refine Y1f;obtain⟨b,ps,rfl,R,ι⟩:=dF ν;have lp:Y9N es.length:=ι.len;obtain⟨at_,af,aw,xf,xw,rfl,ac,hf,hw,rf,α⟩:=zH rt;refine Yai R;refine Y0i (S4 _ _ ac);refine GR (S4 _ _ hw) (Y34 rfl ?_);rw[lp,show xw.length=W by rw[cQ α,wl]];refine CS (Y47) (Y47)
   ·have:=q H4 S4;rw[show kW (W:Nat) (.tuple es)=false by
     show(decide (((es.length:Nat):Int)=(W:Nat))&&_)=false;rw[bP λz=>e (by rw[z]),Bool.false_and]]at this
    exact this
   have el:es.length=W:=by have:=V.int.inj e;exact Oo
   rw[QU el]at q;refine Y6H ο.k;refine Y3;cases td
   case tuple ds' =>
    refine Y1f;obtain⟨tb,us,rfl,Z,υ⟩:=dF ο;have lu:Y79 ds'.length:=υ.len;have ρ:aJ H4 (es.map Ycs) ps:=by rw[List.map_id'];exact ι
    have O:aJ H4 (ds'.map Ycs) us:=by rw[List.map_id'];exact υ
    refine Y3P b R (Y9g ps (∃o:An,σ=[Y7t,Yab,Y1y,Y4 b,Y4 tb,o]/\aV H4 H'/\∀j e,j<i->es[j]?=Y3S->tZ e=true) (Y0X _ Yx (λj e h=>Oo)) Y7Y ?_ ?_)
    ·obtain⟨_,_,s,_⟩:=p;exact fS.of (s _ _ R)
    ·rintro i y σ H' ζ ⟨o,rfl,C,M⟩;refine Y22;intro I;obtain⟨X,g,m⟩:=cR ρ ζ;have δ:=ab.mem (aF g);have B:Y6 (tZ X)->Y6 (es.all tZ):=λh=>by
      rw[List.all_eq_false];exact⟨X,aF g,by rw[h];exact bZ⟩
     refine Y3;refine rG.i (m.same C) (aBd δ) λH6 G=>Y3;cases zf:dI X with
     | false =>
      refine Y5N;have:=q H6 (S4.trans (C.trans G));rw[B (tY zf),Bool.false_and]at this;exact this
     | true =>
      refine Y1f;obtain⟨n,k,rfl,ef⟩:=FB zf;obtain⟨b0,eb0,hb0⟩:=FG (f:=(n,k)) ((m.same C).same G);subst eb0;refine Y0i hb0;refine Y3R _ _ _ (nR (Y6k) (Y6k))
      ·have:=q H6 (S4.trans (C.trans G));refine Y2g;intro I;rw[B (by rw[ef];exact bP (by have:n<0:=z;exact Oo)),Bool.false_and]at this;exact this
      ·refine Y0X _ (C.trans G) (λj e β h=>?_);by_cases ej:j=i
       ·subst ej;rw[g]at h;cases h;rw[ef];exact bH (by have:¬n<0:=z;exact Oo)
       ·exact M j e Oo h
    ·rintro σ H' ⟨o,rfl,C,M⟩;refine Y6f;intro I n_;rw[lp]at M;rw[show es.all tZ=true by
      rw[List.all_eq_true];intro x hx;obtain⟨j,β⟩:=List.getElem?_of_mem hx;exact M j x (aT.mp β).1 β,Bool.true_and]at q
     have S5:=S4.trans C;refine Y3P tb (C _ _ Z) (oM (xs:=us) (λi σ H2=>∃o:An,σ=[Y7t,Yab,Y1y,Y4 b,Y4 tb,o]/\aV H' H2/\∀j e,j<i->ds'[j]?=Y3S->∃a b,e=Y0a a b/\dI b=true) (Y0X _ Yx (λj e h=>Oo)) (λi σ H2 _ p=>?_) ?_ ?_)
     ·obtain⟨_,_,s,_⟩:=p;exact fS.of (s _ _ (C _ _ Z))
     ·rintro i y σ H6 ζ ⟨o,rfl,G,J⟩;refine Y22;intro I;obtain⟨X,g,m⟩:=cR O ζ;replace m:=(m.same C).same G;have δ:=γ.mem (aF g);have S6:=S5.trans G;have B:(∀a b,X=Y0a a b->Y7O b)->Y6 (mN F L (.tuple ds')):=λh=>by
       cases z:mN F L (.tuple ds')with
       | false=>rfl
       | true =>
        have z:(ds'.all (jQ F)&&Yr (ds'.map (Y9Q d)) (Y3E L))=true:=z;rw[aP]at z;obtain⟨a,b,e,_,R⟩:=qH (List.all_eq_true.mp z.1 X (aF g));rw[h a b e]at R;cases R
      refine Y6H m.k;refine Y3;cases X
      case tuple ls =>
       refine Y1f;obtain⟨lb,zs,rfl,θ,ψ⟩:=dF m;refine Yai θ;refine Y34 rfl ?_;rw[ψ.len];refine CS (Y6k) (Y6k)
       ·have:=q H6 S6;rw[B (λa b e=>by cases e;exact Y4e z)]at this;exact this
       obtain⟨d0,τ,rfl⟩:∃d0 τ,ls=[d0,τ]:=by
        have e1:ls.length=2:=by have:=V.int.inj z;exact Oo
        match ls,e1 with
        | [d0,τ],_=>exact⟨d0,τ,rfl⟩
       obtain⟨z0,z1,rfl,rz0,rz1⟩:=iU ψ;refine Y0i θ;refine rG.i rz1 (aBd (δ.mem (aQ _ (aG ..)))) λH7 κ=>Y3;cases zf:dI τ with
       | false =>
        refine Y7d;intro I;have:=q H7 (S6.trans κ);rw[B (λa b e=>by cases e;exact zf)]at this;exact this
       | true =>
        refine gA (Y0X _ (G.trans κ) (λj e β h=>?_));by_cases ej:j=i
        ·subst ej;rw[g]at h;cases h;exact Y34 _ zf
        ·exact J j e Oo h
      all_goals
       refine Y8x;have:=q H6 S6;rw[B (λa b e=>by cases e)]at this;exact this
     ·rintro σ H6 ⟨o,rfl,G,J⟩;rw[lu]at J;have S6:=S5.trans G;have al:∀e∈ds',∃a b,e=Y0a a b/\dI b=true:=λe g=>by
       obtain⟨j,β⟩:=List.getElem?_of_mem g;exact J j e (aT.mp β).1 β
      obtain⟨k2,ek2,sw2⟩:=φ.mem;have few:=γ.len;have swf:∀d∈ds'.map jI,Sw 18 400000 d:=λd hd=>by
       obtain⟨e,g,rfl⟩:=Y8v;obtain⟨a,b,rfl,_⟩:=al e g;obtain⟨k3,ek3,sw3⟩:=(sw2 _ g).mem;exact(sw3 a (aG ..)).le Oo (Yk)
      have χ:Sw 19 (8*400002+4) (.list (ds'.map jI)):=Sw.lst swf (by rw[aA];exact few);have ndl:Y7W (ds'.map jI):=χ.nd;rw[WN f2 ndl al]at q;have N:=(C.trans G) _ _ Z;refine Y3P tb N (mU (λi y _=>∃e,ds'[i]?=Y3S/\bL H6 (jI e) y) (λi y H1 H2 s h=>h) Oo N (λi y H' Q' U s' k'=>?_) (λD2 ys2 H7 hD2 e2 κ U hr2=>?_))
      ·obtain⟨e,g,m⟩:=cR O U;have m:=(m.same C).same G;obtain⟨a0,b0,rfl,_⟩:=al e (aF g);obtain⟨b,zs,rfl,R,rz⟩:=dF m;obtain⟨u,v,rfl,hu,hv⟩:=iU rz;refine Y0i (s' _ _ R);exact k' _ H' (Yx) (Y1o g hu)
      ·have rl:aJ H7 (ds'.map jI) ys2:=aJ.ofIdx (by rw[U,lu,aA]) λi y hi=>by
        obtain⟨e,h1,h2⟩:=hr2 i y hi;exact⟨jI e,by rw[aX,h1];rfl,h2.same κ⟩
       refine rrW (bL.lst e2 rl) χ Oo Oo Y3;have S7:=S6.trans κ;refine gU (S7 _ _ ac) rfl (Y6w (S7 _ _ hf));rw[show xf.length=F by rw[rf.len,aA,fl]];obtain⟨aa,x1,x2,x3,rfl,haa,_⟩:=rV ra;refine Y0i (S7 _ _ haa);refine iZ.i Oo Oo Oo λD4 H8 s8 hD4 L4=>?_;obtain⟨zs,e4,r4⟩:=L4;have η:(Y3E L).length<=6:=by
        have:∀A,A<=2->(rise 2 A).length<=6:=Kk;rw[f2];exact this L a2
       have swc:Sw 3 (6*(2*1923+6)+4) (.list ((rise F L).map gB)):=Sw.lst (n:=2) (w:=2*1923+4) (λd hd=>by
        obtain⟨c,hc,rfl⟩:=Y8v;obtain⟨c1,c2⟩:=(jC Oo).mp hc;exact Sw.cts (k:=2) (λx hx=>by have:=zN hx;exact Oo) Oo) (by rw[aA];exact η)
       refine rrW (bL.lst e4 r4) swc Oo Oo Yh;have:=q H8 (S7.trans s8);rw[show decide (V.str (PyData.list (ds'.map jI)).shown=V.str (PyData.list ((rise F L).map gB)).shown)=decide ((PyData.list (ds'.map jI)).shown=(PyData.list ((rise F L).map gB)).shown)from decide_eq_decide.mpr ⟨λh=>V.str.inj h,λh=>by rw[h]⟩];exact this
   all_goals
    refine Y7d;intro I;have:=q H4 S4;rw[Bool.and_comm]at this;exact this
  all_goals
   refine Y8x;exact q H4 S4
 all_goals
  refine Y8x;refine Y2g;intro I;exact Y4F
end
structure It(k w:Nat)(d:PyData):Prop where
 nb:∀D,nbD 6 D d
 sp:mG k d
 sh:Y6m d
 wd:vZ d<=w
 sm:L2.sm 6 k d=true
theorem jA:∀{ds:Ya},(∀d∈ds,Y6m d)->Yar=true
 | [],_=>rfl
 | d::ds,h=>by
  show(PyData.showable d&&PyData.showableAll ds)=true;rw[h d (aG ..),jA λx hx=>h x (aQ _ hx)];rfl
theorem iL:∀{ds:Ya},Yar=true->∀d∈ds,Y6m d
 | [],_,d,h=>by cases h
 | e::ds,h,d,hd=>by
  have h:(PyData.showable e&&PyData.showableAll ds)=true:=h;rw[aP]at h;rcases aK.mp hd with rfl | hd
  ·exact h.1
  ·exact iL h.2 d hd
theorem pB:∀a b:List PyData,iI (a++b)=iI a+iI b
 | [],b=>by show iI b=0+iI b;exact Oo
 | x::a,b=>by
  show vZ x+2+iI (a++b)=(vZ x+2+iI a)+iI b;rw[pB a b];exact Oo
theorem LY{w:Nat}:∀{ds:Ya},(∀d∈ds,vZ d<=w)->Y3Y<=ds.length*(w+2)
 | [],_=>cK _
 | d::ds,h=>by
  have h1:=h d (aG ..);have c:=LY λx a=>h x (aQ d a);show vZ d+2+iI ds<=(ds.length+1)*(w+2);rw[Nat.add_mul,Nat.one_mul];exact Oo
def It.le{k w k' w':Nat}{d:PyData}(h:It k w d)(hk:k<=k':=by decide)(hw:w<=w':=by decide):It k' w' d:=⟨h.nb,h.sp.mono hk,h.sh,aM h.wd hw,LV (Yk) hk h.sm⟩
theorem It.tup{k w n:Nat}{ds:Ya}(h:∀d∈ds,It k w d)(hl:Y3H n)(hn:n<=6:=by decide):It (k+1) (n*(w+2)+4) (Yy) where
 nb:=λD=>nbD.tup Oo λD' _ e a=>(h e a).nb D'
 sp:=mG.tup λe a=>(h e a).sp
 sh:=jA λe a=>(h e a).sh
 wd:=by
  have:=LY λe a=>(h e a).wd;have:=bS (w+2) hl;show Y3Y+4<=_;exact Oo
 sm:=EC.mpr ⟨Oo,λe a=>(h e a).sm⟩
theorem It.int{i:Int}(h:Y2Y (2^140)):It 1 1921 (Y07) where
 nb:=λD=>nbD.int h
 sp:=mG.int i
 sh:=LX (n:=1900) (Y4j h)
 wd:=Yk
 sm:=bH (Y4j h)
def It.two{k w:Nat}{a b:PyData}(ha:It k w a)(hb:It k w b):It (k+1) (2*(w+2)+4) (Y0a a b):=It.tup (λd hd=>by
 rcases Ybl with rfl | hd
 ·exact ha
 ·rw[aN.mp hd];exact hb) (Yk)
def It.fr{f:Fr}(h:gC f):It 2 3850 (eZ f):=It.two (It.int h.2.1) (It.int h.2.2)
def It.frs{fs:Ak}(h:∀f∈fs,gC f)(hl:Y9D 4):It 3 15412 (jK fs):=It.tup (n:=4) (λd hd=>by
 obtain⟨f,a,rfl⟩:=Y8v;exact It.fr (h f a)) (by rw[aA];exact hl)
def It.ct{c:Ae}(hl:c.length<=2)(hs:Y5c 2):It 2 3850 (gB c):=It.tup (n:=2) (λd hd=>by
 obtain⟨n,a,rfl⟩:=Y8v;have:n<=c.sum:=zN a;exact It.int (bK (show(n:Int).natAbs<=2 by exact Oo) Dd)) (by rw[aA];exact hl)
def It.wo{F M:Nat}{val:Ae->Fr}(f2:F=2)(m2:M<=2)(h:∀c∈rise F M,gC (val c)):Y5I 4 (woD (Y1h) val):=It.tup (n:=6) (λd hd=>by
 obtain⟨c,a,rfl⟩:=Y8v;obtain⟨g,e⟩:=(jC (F:=F) (M:=M) Oo).mp a;exact It.two (It.ct (c:=c) Oo Oo) (It.fr (h c a))) (by
  rw[aA];have:∀A,A<=2->(rise 2 A).length<=6:=Kk;rw[f2];exact this M m2)
def YH{f:Fr}(h:f=(0,1)\/f=(1,1)):gC f:=by
 rcases h with rfl | rfl <;> exact⟨Ya5 Dd,Dd,Dd⟩
def sy0(W:Nat):Ak:=(0,1)::(1,1)::Ye5 W 1 (0,1)
def ru0(W:Nat):PyData:=.tuple [Y0a (gB [0,0]) (jK (sy0 W))]
def LU{W:Nat}:∀f∈sy0 W,f=(0,1)\/f=(1,1):=λf a=>by
 rcases Y2S with rfl | a
 ·exact Y21
 ·rcases Y2S with rfl | a
  ·exact Y6g
  ·exact .inl (List.eq_of_mem_replicate a)
def It.ru{W:Nat}(w3:W<=3):It 5 30838 (ru0 W):=It.tup (n:=1) (λd hd=>by
 rw[aN.mp hd];exact It.two (It.le (It.ct (c:=[0,0]) Dd Dd)) (It.frs (λf a=>YH (LU f a)) (by show(Ye5 W 1 ((0,1):Fr)).length+1+1<=4;rw[cG];exact Oo))) (Yk)
def It.wdB{s:Str}(h:(Yr (L2.sm 6 1 (Y2C)) true&&(Y1D (vZ (Y2C)) 100&&Yr (Y37 s) true))=true):Y58 1 Y2C:=by
 rw[aP,aP,decide_eq_true_eq,decide_eq_true_eq,decide_eq_true_eq]at h;exact Y0v (λD=>nbD.oth (λi q=>by cases q) (λa q=>by cases q)) ⟨h.2.2,by simp[PyData.depth]⟩ h.2.1 h.1
def It.non:Y58 1 .none:=Y0v (λD=>nbD.oth (λi q=>by cases q) (λa q=>by cases q)) (Y0l (by simp[PyData.depth])) Dd Dd
theorem It.rule:Yb3 1 "rule":=YcO
theorem It.none:Yb3 1 "none":=YcO
theorem It.RULE:Yb3 1 "RULE":=YcO
theorem It.NONE:Yb3 1 "NONE":=YcO
theorem It.may:Yb3 1 "may":=YcO
def DV(b:Bool)(W:Nat)(ps:Ak)(wo:PyData):Ya:=if b then[ru0 W,jK ps,wo] else[jK ps,wo]
def wdD(b:Bool):Str:=if b then "rule" else "none"
def IT(b:Bool)(W:Nat)(ps:Ak)(wo:PyData):PyData:=.tuple (.str (wdD b)::Y2o b W ps)
section
variable{W:Nat}{ps:Ak}{wo:PyData}
def aAZ(b:Bool)(w3:W<=3)(pl:Y8k 3)(hp:∀f∈ps,gC f)(hw:Y5I 4 wo):∀e∈DV b W ps wo,Y5I 5 e:=λe a=>by
 have c:Y5I 5 (jK ps):=It.le (It.frs hp Oo);have g:Y5I 5 (ru0 W):=It.le (It.ru w3);have d:Y5I 5 wo:=It.le hw;cases b with
 | true =>
  rcases Y2S with rfl | a
  ·exact g
  ·rcases Y2S with rfl | a
   ·exact c
   ·rw[Y7s];exact d
 | false =>
  rcases Y2S with rfl | a
  ·exact c
  ·rw[Y7s];exact d
def DU(b:Bool):(Y2o b W ps).length<=3:=by cases b <;> exact Yg7
def MI{x:PyData}(b:Bool)(w3:W<=3)(pl:Y8k 3)(hp:∀f∈ps,gC f)(hw:Y5I 4 wo)(hx:Y58 1 x):It 6 185068 (.tuple (x::Y2o b W ps)):=It.tup (n:=4) (k:=5) (w:=46264) (λd hd=>by
 rcases Ybl with rfl | hd
 ·exact hx.le
 ·exact aAZ b w3 pl hp hw d hd) (by rw[bM];have:=DU (W:=W) (ps:=ps) (wo:=wo) b;exact Oo)
end
def MM:∀o∈tO,Y6m o/\vZ o<=3850:=λo a=>by
 have h:tO.all (λd=>PyData.showable d&&Y1D (vZ d) 3850)=true:=Kk;have:=Ydo o a;rw[aP,decide_eq_true_eq]at this;exact this
def CG{ds:Ya}{i:Nat}{d:PyData}(h:ds[i]?=Y2B):Y3Y=iI (Y5B)+(vZ d+2+iI (Y9T i 1)):=by
 have a:=(aT.mp h).1;have e:ds=Y5B++d::Y9T i 1:=by
  conv=>lhs;rw[<-List.take_append_drop i ds]
  rw[List.drop_eq_getElem_cons a];rw[(aT.mp h).2]
 conv=>lhs;rw[e]
 rw[pB];rfl
def mI.wd{d d':PyData}(h:mI d d'):Y6m d->Y6m d'/\vZ d'<=vZ d+4000:=by
 induction h with
 | odd ho=>intro _;have:=MM _ ho;exact Y2h this.1
 | lst=>intro h;exact⟨h,by show iI _+4<=iI _+4+4000;exact Oo⟩
 | @del ds i =>
  intro h;refine Y02 (jA λx a=>iL h x ?_)
  ·rcases Y4m with a | a
   ·exact Y6P
   ·exact Y7T
  ·show iI (Y5B++Y9T i 1)+4<=Y3Y+4+4000;rw[pB];cases q:ds[i]? with
   | none =>
    have g:=List.getElem?_eq_none_iff.mp q;rw[List.take_of_length_le g,Yf0];show Y3Y+0+4<=_;exact Oo
   | some d=>rw[CG q];exact Oo
 | @ins ds i o ho =>
  intro h;have:=MM _ ho;refine Y02 (jA YcA)
  ·rcases Y4m with a | a
   ·exact iL h x (Y6P)
   ·rcases Y2S with rfl | a
    ·exact this.1
    ·exact iL h x (Y7T)
  ·show iI (Y5B++o::ds.drop i)+4<=Y3Y+4+4000;rw[pB];show iI (Y5B)+(vZ o+2+iI (ds.drop i))+4<=_;have e:=pB (Y5B) (ds.drop i);rw[List.take_append_drop]at e;exact Oo
 | @sub ds i d e hd _ ih =>
  intro h;obtain⟨c,j⟩:=ih (iL h d (aF hd));refine Y02 (jA YcA)
  ·rcases Y4m with a | a
   ·exact iL h x (Y6P)
   ·rcases Y2S with rfl | a
    ·exact c
    ·exact iL h x (Y7T)
  ·show iI (Y5B++e::Y9T i 1)+4<=Y3Y+4+4000;rw[pB,CG hd];show iI (Y5B)+(vZ e+2+iI (Y9T i 1))+4<=_;exact Oo
structure KW(o:PyData):Prop where
 pr:∀n k,o=Y0a n k->Y6 (eI n)/\Y6 (eI k)/\∀ds,n ≠ Yy
 r:XE o
 e:SmE o
 d:SmD o
 f:eI o=true->(jJ o).2<=10
 l:(jE o).length<=2
def KW.flat{o:PyData}(h:∀ds,o ≠ Yy):KW o:=by
 cases o with
 | tuple ds=>exact Y4e (h ds)
 | _=>exact⟨(λn k e=>by cases e),trivial,trivial,trivial,(λe=>by cases e),Y1z⟩
def KW.nil:KW (.tuple []):=⟨(λn k e=>by cases e),⟨Dd,(λe h=>by cases h),λ_=>Dd⟩,trivial,(λe h=>by cases h),(λe=>by cases e),Dd⟩
def sF{o:PyData}(h:∀ds,o ≠ Yy):Y6 (eI o):=by
 cases o with
 | tuple ds=>exact Y4e (h ds)
 | _=>rfl
def IN{o:PyData}(h:∀ds,o ≠ Yy):SmE o:=(KW.flat h).e
def WR{o:PyData}(h:∀ds,o ≠ Yy):SmD o:=(KW.flat h).d
def KW.two{n k:PyData}(hn:∀ds,n ≠ Yy)(hk:∀ds,k ≠ Yy)(hf:(jJ (Y0a n k)).2<=10):KW (Y0a n k) where
 pr:=λi g e=>by cases e;exact⟨sF hn,sF hk,hn⟩
 r:=⟨by show 2<=64;decide,λe c=>by
  rcases Y7q with rfl | c
  ·exact IN hn
  ·rw[aN.mp c];exact IN hk,λh=>by
  obtain⟨a,b,e⟩:=h n (aG ..);exact absurd e (hn _)⟩
 e:=WR hk
 d:=λe c=>by
  rcases Y7q with rfl | c
  ·intro q;rw[sF hn]at q;cases q
  ·rw[aN.mp c];intro q;rw[sF hk]at q;cases q
 f:=λ_=>hf
 l:=by show 2<=2;decide
def oH:∀o∈tO,KW o:=by
 have I:∀i:Int,∀c,PyData.int i ≠ .tuple c:=λi c q=>by cases q
 have P:∀i j:Int,j<=10->KW (YbD Y07 j):=λi j h=>KW.two (I i) (I j) h;have A:∀(l:Ya) (a:PyData),KW a->(∀o∈l,KW o)->∀o∈a::l,KW o:=λl a e g o d=>by
  rcases aK.mp d with rfl | d
  ·exact e
  ·exact g o d
 show ∀o∈([.none,.bool true,.int 0,.int (-1),.str "rule",.str "none",.tuple [],.list [],.tuple [.int 1,.int 2],.tuple [.int 2,.int 4],.tuple [.int (-1),.int 2],.tuple [.int 1,.int 0],.tuple [.int 0,.int 2],.tuple [.bool true,.int 1],.tuple [.int 0,.int 0],.str "1/2"]:List PyData),KW o;refine A _ _ (Yb0 (by cases q)) <| A _ _ (Yb0 (by cases q)) <| A _ _ (.flat (I _)) <| A _ _ (.flat (I _)) <| A _ _ (Yb0 (by cases q)) <| A _ _ (Yb0 (by cases q)) <| A _ _ .nil <| A _ _ (Yb0 (by cases q)) <| A _ _ (P _ _ Dd) <| A _ _ (P _ _ Dd) <| A _ _ (P _ _ Dd) <| A _ _ (P _ _ Dd) <| A _ _ (P _ _ Dd) <| A _ _ (.two (λc q=>by cases q) (I _) Dd) <| A _ _ (P _ _ Dd) <| A _ _ (Yb0 (by cases q)) λo d=>by cases d
def WM{i:Int}{d:PyData}(h:mI (Y07) d):d∈tO:=by
 cases h with
 | odd h=>exact h
def xH{ds:Ya}(h:eI (Yy)=true):Y2P 2:=by
 obtain⟨a,_⟩:=kN h;injection a with a;rw[a];rfl
def ZX:∀o∈tO,∀j,o=.int j->j<=10:=λo a j e=>by
 have h:tO.all (λo=>match o with | .int j=>decide (j<=10) | _=>true)=true:=Kk;have:=Ydo o a;rw[e]at this;exact of_decide_eq_true this
def aAH{f:Fr}(hf:f.2<=10){d:PyData}(h:mI (eZ f) d):eI d=true->(jJ d).2<=10:=by
 generalize e:eZ f=x at h;cases h with
 | odd h=>exact(oH _ h).f
 | lst=>intro q;cases q
 | @del ds i =>
  cases e;intro q;have:=xH q;rw[aW,bU,List.length_drop]at this;have c:[PyData.int f.1,.int f.2].length=2:=rfl;rw[show[PyData.int f.1,.int f.2].take i=[.int f.1,.int f.2]from List.take_of_length_le Oo,show[PyData.int f.1,.int f.2].drop (i+1)=[]from List.drop_of_length_le Oo];exact hf
 | @ins ds i o a =>
  cases e;intro q;have:=xH q;rw[aW,bM,bU,List.length_drop]at this;have c:[PyData.int f.1,.int f.2].length=2:=rfl;exact Oo
 | @sub ds i d e' hd hb =>
  cases e;intro q
  match i,hd with
  | 0,hd =>
   cases hd;cases e' with
   | int j=>exact hf
   | _=>cases q
  | 1,hd =>
   cases hd;have a:=WM hb;obtain⟨l,g⟩:=kN q;cases e' with
   | int j =>
    exact ZX _ a j rfl
   | _=>cases q
  | i+2,hd=>cases hd
def aAE{fs:Ak}(hf:∀f∈fs,f.2<=10){d:PyData}(h:mI (jK fs) d):SmD d:=by
 have c:∀x∈fs.map eZ,eI x=true->(jJ x).2<=10:=λx a _=>by
  obtain⟨f,g,rfl⟩:=Y7r;exact hf f g
 generalize e:jK fs=x at h;cases h with
 | odd h=>exact(oH _ h).d
 | lst=>trivial
 | @del ds i =>
  cases e;intro x a;refine c x ?_;rcases Y4m with a | a
  ·exact Y6P
  ·exact Y7T
 | @ins ds i o ho =>
  cases e;intro x a;rcases Y4m with a | a
  ·exact c x (Y6P)
  ·rcases Y2S with rfl | a
   ·exact(oH _ ho).f
   ·exact c x (Y7T)
 | @sub ds i d e' hd hb =>
  cases e;intro x a;rcases Y4m with a | a
  ·exact c x (Y6P)
  ·rcases Y2S with rfl | a
   ·obtain⟨f,g,rfl⟩:=aU.mp (aF hd);exact aAH (hf f g) hb
   ·exact c x (Y7T)
def aAI{c:PyData}{fs:Ak}(hf:∀f∈fs,f.2<=10){d:PyData}(h:mI (Y0a c (jK fs)) d):SmE d:=by
 have hs:SmD (jK fs):=λx j _=>by
  obtain⟨f,g,rfl⟩:=aU.mp j;exact hf f g
 have two:∀a:List PyData,a.length≠2->SmE (.tuple a):=λa h=>by
  match a,h with
  | [],_=>trivial
  | [_],_=>trivial
  | [_,_],h=>exact absurd rfl h
  | _::_::_::_,_=>trivial
 have l:[c,jK fs].length=2:=rfl;generalize e:PyData.tuple [c,jK fs]=x at h;cases h with
 | odd h=>exact(oH _ h).e
 | lst=>trivial
 | @del a i =>
  cases e;by_cases hi:i<2
  ·refine two _ ?_;rw[aW,bU,List.length_drop];exact Oo
  ·rw[show[c,jK fs].take i=[c,jK fs]from List.take_of_length_le Oo,show[c,jK fs].drop (i+1)=[]from List.drop_of_length_le Oo];exact hs
 | @ins a i o ho =>
  cases e;refine two _ ?_;rw[aW,bM,bU,List.length_drop];exact Oo
 | @sub a i d e' hd hb =>
  cases e
  match i,hd with
  | 0,hd=>exact hs
  | 1,hd =>
   cases hd;exact aAE hf hb
  | i+2,hd=>cases hd
def aAF{c:PyData}{fs:Ak}(hf:∀f∈fs,f.2<=10){d:PyData}(h:mI (.tuple [Y0a c (jK fs)]) d):XE d:=by
 have hs:SmE (Y0a c (jK fs)):=λx g _=>by
  obtain⟨f,j,rfl⟩:=aU.mp g;exact hf f j
 generalize e:PyData.tuple [PyData.tuple [c,jK fs]]=x at h;have m:[PyData.tuple [c,jK fs]].length=1:=rfl;cases h with
 | odd h=>exact(oH _ h).r
 | lst=>trivial
 | @del ds i =>
  cases e;have l:([PyData.tuple [c,jK fs]].take i++[PyData.tuple [c,jK fs]].drop (i+1)).length<=1:=by
   rw[aW,bU,List.length_drop];exact Oo
  refine⟨Oo,λx g=>?_,λ_=>l⟩;have:x∈[PyData.tuple [c,jK fs]]:=by
   rcases bQ.mp g with g | g
   ·exact List.mem_of_mem_take g
   ·exact List.mem_of_mem_drop g
  rw[aN.mp this];exact hs
 | @ins ds i o ho =>
  cases e;have O:=oH _ ho;refine⟨?_,λx g=>?_,λh=>?_⟩
  ·rw[aW,bM,bU,List.length_drop];exact Oo
  ·rcases bQ.mp g with g | g
   ·rw[aN.mp (List.mem_of_mem_take g)];exact hs
   ·rcases aK.mp g with rfl | g
    ·exact O.e
    ·rw[aN.mp (List.mem_of_mem_drop g)];exact hs
  ·obtain⟨a,b,e⟩:=h o (bY _ (aG ..));exact Y4e ((O.pr _ _ e).2.2 a)
 | @sub ds i d e' hd hb =>
  cases e
  match i,hd with
  | 0,hd =>
   cases hd;refine⟨by show 1<=64;decide,λx g=>?_,λ_=>by show 1<=1;decide⟩;rw[aN.mp g];exact aAI hf hb
  | i+1,hd=>cases hd
def SI{W:Nat}:∀f∈sy0 W,f.2<=10:=λf a=>by
 rcases LU f a with rfl | rfl <;> decide
def yC(W:Nat):XE (ru0 W):=⟨by show 1<=64;decide,λx a=>by
 rw[Y7s];exact λx a _=>by
  obtain⟨f,c,rfl⟩:=Y7r;exact SI f c,λ_=>by show 1<=1;decide⟩
def aAG{W:Nat}{ps:Ak}{wo:PyData}{b:Bool}{d:PyData}(h:mI (IT b W ps wo) d):∀x1 x2 x3,Y5k d [.str "rule",x1,x2,x3]->XE x1:=λx1 x2 x3 a=>by
 generalize e:IT b W ps wo=x at h;cases h with
 | odd h =>
  subst a;have:=(oH _ h).l;exact absurd this (by show ¬4<=2;decide)
 | lst=>cases a
 | @del ds i =>
  injection a with a;have g:=Y4P a;rw[aW,bU,List.length_drop]at g;have j:([PyData.str "rule",x1,x2,x3]:List PyData).length=4:=rfl;cases b with
  | true =>
   cases e;have c:(YdK true::Y2o true W ps).length=4:=rfl;rw[List.take_of_length_le Oo,Yf0]at a;injection a with _ a;injection a with a _;rw[<-a];exact yC W
  | false =>
   cases e;have c:(YdK false::Y2o false W ps).length=3:=rfl;exact Oo
 | @ins ds i o ho =>
  injection a with a;have g:=Y4P a;rw[aW,bM,bU,List.length_drop]at g;have j:([PyData.str "rule",x1,x2,x3]:List PyData).length=4:=rfl;cases b with
  | true =>
   cases e;have c:(YdK true::Y2o true W ps).length=4:=rfl;exact Oo
  | false =>
   cases e
   match i,a with
   | 0,a =>
    injection a with _ a;injection a with a _;rw[<-a];trivial
   | i+1,a =>
    injection a with a _;injection a with a;exact absurd a Kk
 | @sub ds i d0 e0 hd hb =>
  injection a with a;have g:=Y4P a;rw[aW,bM,bU,List.length_drop]at g;have j:([PyData.str "rule",x1,x2,x3]:List PyData).length=4:=rfl;have m:=(aT.mp hd).1;cases b with
  | true =>
   cases e
   match i,hd,a with
   | 0,hd,a =>
    injection a with _ a;injection a with a _;rw[<-a];exact yC W
   | 1,hd,a =>
    cases hd;injection a with _ a;injection a with a _;rw[<-a];exact aAF SI hb
   | i+2,hd,a =>
    injection a with _ a;injection a with a _;rw[<-a];exact yC W
  | false =>
   cases e;have c:(YdK false::Y2o false W ps).length=3:=rfl;exact Oo
structure Th(d:PyData):Prop where
 ok:OkP d
 sw:Sw 20 400000 d
 nb:∃D,nbD 8 (D+4) d
 ly:∀s,jE d≠[]->(jE d).getD 0 .none=Y2C->Y37 s=true
 sp:mG 20 d
theorem Th.of{d:PyData}(nb:nbD 8 4 d)(sp:mG 20 d)(sh:Y6m d)(wd:vZ d<=400000)(ru:∀x1 x2 x3,Y5k d [.str "rule",x1,x2,x3]->XE x1):Th d where
 ok:=OkP.of Dd Dd nb sp ru
 sw:=⟨sh,PyData.hasDict_of_canLay d sp.1,sp.2,wd⟩
 nb:=⟨0,nb⟩
 ly:=λs c a=>by
  cases d with
  | tuple ds =>
   obtain⟨m,_,e⟩:=sp.mem;cases ds with
   | nil=>exact Y4e c
   | cons x ds =>
    have a:x=Y2C:=a;rw[<-a];exact(e x (aG ..)).1
  | _=>exact Y4e c
 sp:=sp
def Th.odd{o:PyData}(h:o∈tO):Th o:=Th.of (JU Dd o h 4) ((EE o h).mono Dd) (MM o h).1 (aM (MM o h).2 Dd) λc d a e=>by
 subst e;have:=(oH _ h).l;exact absurd this (by show ¬4<=2;decide)
def Th.it{k:Nat}{d:PyData}(h:It k 185068 d)(hk:k<=20)(ru:∀x1 x2 x3,Y5k d [.str "rule",x1,x2,x3]->XE x1):Th d:=Th.of ((h.nb 4).mono Dd) (h.sp.mono hk) h.sh (aM h.wd Dd) ru
def Th.bent{W:Nat}{ps:Ak}{wo:PyData}{b:Bool}{d:PyData}(h:mI (IT b W ps wo) d)(i:It 6 185068 (IT b W ps wo)):Th d:=by
 obtain⟨a,c⟩:=h.wd i.sh;exact Th.of ((h.nb Dd (i.nb 4)).mono Dd) ((h.shp i.sp).mono Dd) a (by have:=i.wd;exact Oo) (aAG h)
def zP(p D:Addr):AS:=λb=>b=p\/b=D
def aAo{Z:AS}{H:Hp}{d:PyData}{v:V}(z:FY Z H)(r:Y3K v)(f:cV d=true):bL (cL Z H) d v:=r.flat (λb a e=>z.tup e) f
theorem FY.zP{H:Hp}{p L D:Addr}{n:Nat}{vs:Al}(F:Y1X n)(h:H D=Y05 vs):FY (zP p D) H:=λb z=>by
 rcases z with rfl | rfl
 ·obtain⟨d,t,l,a,_⟩:=F.ex;exact Y1o a (λc q=>by cases q)
 ·exact Y1o h (λc q=>by cases q)
section
variable{σ:St}{js:Ae}{te:L2.TE}{H:Hp}{Q:VK}
def VX{lo:Int}{n:Nat}{p L:Addr}(f:Nat->Nat)(F0:Y1X (f 0))(R:Y9A)(hz:Y6r n)
  (hs:∀i H' (Q':VK) (D:Addr) (ys:Al),i<n->Y7j (f i)->Y0s->Y0k=Y08->(∀y d H5,dA H5 p L (f (i+1))->bB p H' H5->bL (cL (zP p D) H5) d y->R d->Y4H y)->te (Ym (lo+(i:Nat))::Y0N) H' Q')
  (hd:∀D ys ds H',H D=none->Y0k=Y08->Y7j (f n)->Y0s->Y3I n->aJ (cL (zP p D) H') ds ys->(∀d∈ds,R d)->Y1g):kG (WU lo n) σ js vU te H Q:=by
 refine BG (J:=WU lo n) (n:=n) (λi x=>x=.int (lo+(i:Nat))) hz (λD i ys H'=>H D=none/\Y7j (f i)/\Y0s/\∃ds,aJ (cL (zP p D) H') ds ys/\∀d∈ds,R d) (λD H1 a _ s=>⟨a,F0.same s,s.but,[],aJ.nil,λd h=>by cases h⟩)
  (λD i ys H' A _ q=>Y87 A y) (λD ys H' _ q=>Yk) (λD i x ys H' S A O a q=>?_) (λD ys H' O a C q=>?_)
 ·subst S;obtain⟨m,c,j,ds,w,G⟩:=q;have W:=c.ne (q:=D);have M:D≠p:=λz=>by
   obtain⟨U,t,l,N,_⟩:=c.ex;rw[<-z,a]at N;cases N
  refine hs i H' _ D ys A c j a λy d H5 F5 I r T=>?_;have B:=I.at M a;refine⟨B,λH6 P u=>⟨m,F5.but u M (F0.neL m),bB.thru m (j.trans I) u,ds++[d],?_,λe g=>?_⟩⟩
  ·exact aJ.snoc ((w.same (I.hs (.inl rfl))).same (u.hs (Y6g))) (r.same (u.hs (Y6g)))
  ·rcases bQ.mp g with g | g
   ·exact G e g
   ·rw[aN.mp g];exact T
 ·obtain⟨m,c,j,ds,w,G⟩:=q;exact hd D ys ds H' a C c j O w G
end
def Pp(W:Nat)(d:PyData):Prop:=∃b ps wo,d=IT b W ps wo/\Y8k 3/\(∀f∈ps,gC f)/\Y5I 4 wo/\cV wo=true
def GQ(W:Nat):cV (ru0 W)=true:=by
 show((cV (gB [0,0])&&(Y6q (sy0 W)&&true))&&true)=true;rw[gT,fW];rfl
def GF{b:Bool}{W:Nat}{ps:Ak}{wo:PyData}(h:cV wo=true):fM (Y2o b W ps)=true:=by
 cases b with
 | true =>
  show(cV (ru0 W)&&(Y6q ps&&(cV wo&&true)))=true;rw[GQ,fW,h];rfl
 | false =>
  show(Y6q ps&&(cV wo&&true))=true;rw[fW,h];rfl
def Pp.flat{W:Nat}{d:PyData}(h:Pp W d):cV d=true:=by
 obtain⟨b,a,wo,rfl,_,_,_,c⟩:=h;show(cV (.str (wdD b))&&fM (Y2o b W a))=true;rw[GF c];rfl
theorem pF:∀{ds:Ya},(∀d∈ds,cV d=true)->fM ds=true
 | [],_=>rfl
 | d::ds,h=>by
  show(cV d&&fM ds)=true;rw[h d (aG ..),pF λx hx=>h x (aQ _ hx)];rfl
def IQ(H:Hp)(a:Addr)(W n:Nat):Prop:=∃vs ds,H a=Y05 vs/\Y4t/\Y2P n/\∀d∈ds,Pp W d
def rW(H:Hp)(p D:Addr)(n:Nat):Prop:=∃vs ds,H D=Y05 vs/\aJ (cL (zP p D) H) ds vs/\Y2P n/\∀d∈ds,Th d
def rW.cat{H H':Hp}{p L D E:Addr}{n k m:Nat}{vs us:Al}{ds es:Ya}(hr:aJ (cL (zP p D) H) ds vs)(hE:H E=none)(e:H' E=Y05 (vs++us))(s:Y0)(F:Y7j k)(hu:Y15 es us)(hf:∀d∈es,cV d=true)(l1:Y2P n)(l2:es.length=m)(h1:∀d∈ds,Th d)(h2:∀d∈es,Th d):rW H' p E (n+m):=by
 refine⟨_,ds++es,e,aJ.append ?_ ?_,by rw[aW,l1,l2],λd hd=>?_⟩
 ·refine aJ.flat (λb g q=>(FY.zP F e).tup q) (pF hf) (hu.same s)
 ·refine hr.same λb o q=>?_;have a:=cL.get q;have c:=cL.ne q;refine cL.of (Y6k) (s _ _ a);rcases z with z | z
  ·exact c (.inl z)
  ·rw[z,hE]at a;cases a
 ·rcases bQ.mp hd with hd | hd
  ·exact h1 d hd
  ·exact h2 d hd
def rW.app{H H':Hp}{p D:Addr}{n:Nat}{vs:Al}{v:V}{ds:Ya}{d:PyData}(hr:aJ (cL (zP p D) H) ds vs)(r:bL (cL (zP p D) H) d v)(e:Y0k=Y05 (vs++[v]))(s:bB D H H')(l:Y2P n)(h1:∀d∈ds,Th d)(h2:Th d):rW H' p D (n+1):=by
 refine⟨_,ds++[d],e,aJ.snoc (hr.same (s.hs (Y6g))) (r.same (s.hs (Y6g))),by rw[aW,l];rfl,YcA⟩;rcases Y4m with a | a
 ·exact h1 x a
 ·rw[Y7s];exact h2
theorem IQ.t{H H':Hp}{a:Addr}{W n:Nat}(h:IQ H a W n)(t:Y4G)(e:∀o,H a=Y5->H' a=Y5):IQ H' a W n:=by
 obtain⟨i,l,g,m,j,c⟩:=h;exact⟨i,l,e _ g,m.flat t (pF λd hd=>(c d hd).flat),j,c⟩
def KY.s140{H:Hp}{tv av pv:V}{fs:Ah}{ws:Y0d}{bs mix ps cs:Ak}{F W M:Nat}(I:KY H tv av pv fs ws bs mix ps cs F W M)(w3:W<=3)(m2:M<=2):∀c∈rise F M,gC (FW F W M (Y1x) mix ps cs c):=λc m=>by
 have J:=I.wo;obtain⟨a,y⟩:=(jC J.f1).mp m;have e:=Qn.fq (J.worn (Y53) c a Oo);have i:=J.pos;have g:8^(Y53+1)*999<=8^3*999:=bS _ (Y2w Oo);obtain⟨h,l⟩:=(e.le g).num i;have j:=aM (yI I.p) (aL (show 0<999 by decide) (show ps.length<=3 by have:=I.pl;exact Oo));have u:=aM (yI I.c) (aL (show 0<999 by decide) (show cs.length<=2 by have:=I.cl;exact Oo));have x:gD^M<=gD^2:=Y2w m2;have big:Y1u*Y57*gD*gD^M<=999^3*999^2*gD*gD^2:=Nat.mul_le_mul (YfP _ j u) x;have d:=Nat.mul_le_mul_left (8^3*999) big;have w:999^3*999^2*gD*gD^2<2^140:=Kk;have r:8^3*999*(999^3*999^2*gD*gD^2)<2^140:=Kk;exact⟨Y09,bK (aM h d) r,bK (aM l big) w⟩
def yQ.s140{f:Fr}(h:yQ f):gC f:=by
 obtain⟨a,b,c,d⟩:=h;have:=a.pos;have k:1000<2^140:=Kk;exact Y4A Oo Oo
def Pp.self{W:Nat}{d:PyData}(w3:W<=3)(h:Pp W d):Th d/\∀d',mI d d'->Th d':=by
 obtain⟨b,a,wo,rfl,g,l,c,_⟩:=h;have i:It 6 185068 (IT b W a wo):=MI b w3 g l c (by cases b;exact It.none;exact It.rule);refine⟨Th.it i Dd λr m p e=>?_,λd' j=>Th.bent j i⟩;cases b with
 | true=>cases e;exact yC W
 | false=>cases e
def Th.front{W:Nat}{b:Bool}{ps:Ak}{wo x:PyData}(w3:W<=3)(pl:Y8k 3)(hp:∀f∈ps,gC f)(hw:Y5I 4 wo)(hx:Y58 1 x)(nx:x ≠ .str "rule"):Th (.tuple (x::Y2o b W ps)):=Th.it (MI b w3 pl hp hw hx) Dd λc d a e=>by
 injection e with e;injection e with e _;exact absurd e nx
def Th.tail{W:Nat}{b:Bool}{ps:Ak}{wo:PyData}(w3:W<=3)(pl:Y8k 3)(hp:∀f∈ps,gC f)(hw:Y5I 4 wo):Th (.tuple (Y2o b W ps)):=Th.it (k:=6) (It.le (It.tup (n:=3) (aAZ b w3 pl hp hw) (DU b))) Dd λd a c e=>by
 injection e with e;have:=Y4P e;have h:=DU (W:=W) (ps:=ps) (wo:=wo) b;rw[this]at h;exact absurd h (by show ¬4<=3;decide)
def NE:Ya:=[.tuple [.str "rule"],Y0a (.str "none") (.tuple []),.tuple [.str "none",.tuple [],.tuple []],.tuple [.str "may",.tuple [],.tuple []],Y0a (.tuple []) (.tuple [])]
def Th.five:∀d∈NE,Th d:=by
 have E:Y58 1 (.tuple []):=Y0v (λD=>nbD.tup (Y1z) λ_ _ e m=>by cases m) (Y0l (by simp[PyData.depth,PyData.depthAll])) Dd Dd;have one:∀{g:Ya},(∀d∈g,Y58 1 d)->g.length<=3->Th (.tuple g):=λ{g} h i=>Th.it (k:=2) (It.le (It.tup (n:=3) h i)) Dd λu p r e=>by
  injection e with e;rw[e]at i;exact absurd i (by show ¬4<=3;decide)
 have c:∀{x:PyData},Y58 1 x->∀d∈[x],Y58 1 d:=λh d hd=>by rw[aN.mp hd];exact h
 have a:∀{x:PyData} {l:Ya},Y58 1 x->(∀d∈l,Y58 1 d)->∀d∈x::l,Y58 1 d:=λh j d hd=>by
  rcases Ybl with rfl | hd
  ·exact h
  ·exact j d hd
 intro d hd;simp only[NE,aK,List.not_mem_nil,or_false]at hd;rcases hd with rfl | rfl | rfl | rfl | rfl
 ·exact one (c It.rule) Dd
 ·exact one (a It.none (c E)) Dd
 ·exact one (a It.none (a E (c E))) Dd
 ·exact one (a It.may (a E (c E))) Dd
 ·exact one (a E (c E)) Dd
def GJ{H:Hp}{Q:VK}{E:XK}{t:V}{av:V}{th:V}{d:PyData}{F:Nat}{W:Nat}{A:Nat}{fs:Ah}{ws:Y0d}{bs:Ak}{mix:Ak}{cs:Ak}(h0:Y40)(h1:Y5f A)(h2:Y3K th)(h3:OkP d)(h4:XD F W fs ws)(h5:F=2)(h6:1<=W)(h7:W<=3)(h8:A<=2)(h9:IV W mix)(h10:Y8p W)(h11:∀f∈bs,Y8s 1 f)(h12:Y9O A)(h13:∀f∈cs,yQ f)
  (q:∀dt v H',Y0->Y4x dt v->Y3i dt->PyData.eqv dt (Y0a (.str "shape") .none)=(! oP F W A d)->Y6 (Yam dt "other")->Y0Z):oY [t,av,th] H Q E:=by
 refine oY.i h0 h1 h2 h3 h4 h5 h6 h7 h8 h9 h10 h11 h12 h13 (λa v H' s r=>?_) (λa wd e v H' c g s r=>?_) (λa H' s=>?_)
 ·exact q _ v H' s r Kk (by rw[a];decide +kernel) rfl
 ·refine q _ v H' s r c.2 ?_ rfl;rw[a];show Y6 (Yam Y4l "shape"&&_);rw[show PyData.eqv (.str wd) (.str "shape")=false from bP g];rfl
 ·exact q (Y65) _ H' s (bL.bl true) Kk (by rw[a];rfl) rfl
abbrev YL:Stmt:=(top 97)
def oR:Yc ["_law_script","_law_feed_here","_law_ways","_law_trial_here","_law_most","_law_aim_here","_law_rule","_law_papers","_law_prices","_law_known","_law_told_here","_law_things","_law_paper","_law_k","_law_thing","_law_kept","_law_shaped"] a29 YL:={}
theorem AB{H:Hp}{f:Fr}{z:V}(r:Y3v f z):∀k,Y15 ((List.replicate k f).map eZ) (Y38 z)
 | 0=>aJ.nil
 | k+1=>by rw[List.replicate_succ,List.replicate_succ];exact aJ.cons r (AB r k)
def TM:∀A,A<=2->(rise 2 A).length<=6:=Kk
section
def aGd(F:Yb "law" "law" YL)(T:Yd)(FQ7:Yv "_law_feed" a29 (xX K))(FQ6:Yv "_law_draw" a01 dC)(FQ20:Y1I "_law_trial" a24 sB)(FQ1:Y1I "_law_aim" a25 xW)(FQ15:Y1w "_law_some" a07 sA)(FQ22:Y0K 5 "_law_worths" a20 pW)(FQ5:Y1w "_law_counts" a23 iZ)(FQ12:Y1w "_law_odd" a07 tL)(FQ3:Y0K 9 "_law_bent" a05 (lP 6))(FQ18:Y0K 11 "_law_told" a04 oY)(FQ10:Y1I "_law_is_shaped" a04 xV):cX P w K mg base cN 12 f fd a29 (vX K):=by
 refine Y1k oR;unfold vX at h;obtain⟨a,ns,rfl,hS,hl,k⟩:=h;refine Yh;intro cdv A outer s hr _;refine⟨_,(aI (Y6C 1 oR.nd (Y3q FQ7))
  (aI (Y4S 2 (Y6o eE aE 1))
  (aI (Y11 oR.nd (mK FQ20 Y0f aE (aC 2)))
  (aI (Y4S 4 (Y9B 1))
  (aI (Y4S 5 (mK FQ1 Y0f (aC 2) (aC 4)))
  (aI (Y4S 6 (Y52 (Y2L Y3V (Y4p K (Y4p K (Y52 Y3V) (Y52 Y3V)) (bV MK (Y52 Y3V) (bV wG (aC 2) aE))))))
  (aI (Y4S 7 (fV aH))
  (aI (eA PassesOwn.never rfl (fX (fV (Y2s (Y1U MK (Y52 Y3V) 2) (mL eG (by rfl) T.b_tuple Kk (Y81 ["_law_way","_law_feed_here"] [1] (Y78 2) (Y2N FQ15 1)))))) (Y6T 8 oR.nd) (aI (Y6C 9 oR.nd (mK FQ22 Y1j (aC 5) (aC 8)))
  (aI (Y4S 10 (mL eG (by rfl) T.b_tuple Kk (Y81 ["_law_one","_law_known"] [9] (fX (cB FQ5 aE (aC 4))) (Y2L Yw (jV hr.u1 Y0f Yw)))))
  (aS (Y4S 7 (bV AM (aC 7) (fV (Y2s (cD (Y55 dB 6 (Y5Y 8 (aC 10)))) (cD (Y55 dB 8 (Y2r 10)))))))))))
  (aI (pS (i:=11) (dO.o a33 [1]) oR.nd rfl rfl (Y5w aE) (Y6I) (λ_ _ _ _=>(Y2N FQ12 1)))
  (aI (Y4S 11 (bV AM (aC 11) (fV (aR (Y52 dB) (aR (Y2L dB (cD aH)) (aR (cD (aR dB (Y2s (cD aH) (cD aH)))) (aR (cD (aR dB (aR (cD aH) (Y1r (cD aH))))) (Y1r (Y2L (cD aH) (cD aH))))))))))
  (aI (eA PassesOwn.never rfl (fX (aC 7)) (Y6T 12 oR.nd) (aI (Y4S 11 (bV AM (aC 11) (fV (aR (aC 12) (aR (Y4p K (Y52 (aBL PySem.F.plainAttrs_str PySem.F.slot_str_upper PySem.F.type_str_upper UM (Y3A 12))) (fN (jH K) (aC 12) (iA aE) iB)) (aR (fN (jH K) (aC 12) (iA aE) iB) (Y1r (Y4p K (Y52 rA) (fN (jH K) (aC 12) (iA aE) iB)))))))))
  (aS (Y2z (Y5w aE) 13 oR.nd (Y7p oO 11 (mK FQ3 (Y0f) (aC 12) (Y6o eE aE 1)))))))
  (aI (eA PassesOwn.never rfl (fX (aC 11)) (Y6T 14 oR.nd) (aI (Y4S 15 (cT (yL hr.gd hr.units) (by rfl) T.b_repr Kk (Y2r 14)))
  (aI (Y4S 10 (mK FQ18 Y1j (aC 5) (aC 14)))
  (aI (Y4S 16 (mK FQ10 Y1j (aC 5) (aC 14)))
  (aS (Y8j (uD (qZ (lS (dY sX (jY (AL hr.units) (aC 10) (Y2L dB rA)) (aC 16)) (lS (Y2y (AL hr.units) 10 dB) (kY (dY AJ (cT (yL hr.gd hr.units) (by rfl) T.b_repr Kk (Y2r 14)) (aC 15))))))) kJ))))))
  (Y0R kJ))))))))))))),?_⟩
 refine Yo;intro X α;refine Y3;refine xX.i hS hl λp L H1 F1 N hp1 hL1=>Ys;intro X α;refine Y3;refine Y2k 999999000000 (F1.less Dd) (λx2 H2 a2 b2 F2 m=>?_);obtain⟨e,rfl⟩:∃b:Nat,x2=(b:Int):=Y2h x2.toNat;refine Y59 _ Ys;intro X α;refine Y0F;have wc:2<=2+e/\2+e<=3:=Oo;refine sB.i (n:=Y3D 100) (F:=2) (W:=2+e) (F2.less Dd) Oo Oo Oo Oo λtv fs ws H3 F3 C rt TT=>Ys;intro X α;refine Y3;refine Y2k (Y3D 101) F3 (λx4 H4 a4 b4 F4 B=>Ys);intro X α;obtain⟨M,rfl⟩:∃b:Nat,x4=(b:Int):=Y2h x4.toNat;refine Y1H;refine xW.i (n:=Y3D 200) (W:=2+e) (M:=M) (F4.less Dd) Oo Oo Oo λav bs β cs H5 F5 g ra lbs fbs shm lcs fcs=>Ys;intro X α;have rt5:=(rt.flat (F3.t B) (lV _ _)).flat (F4.t g) (lV _ _);clear rt N m C B g F1 F2 F3 F4 hp1 hL1;refine Y0q (λq1 I1 θ ζ N=>Y0q (λq2 I2 hq2 e2 m=>Y0q (λq3 I3 hq3 e3 C=>Y0q (λq4 I4 hq4 e4 B=>Y0q (λq5 I5 hq5 e5 g=>vJ (((B.trans g)) _ _ e3) e5 (by show 1+1<=1000;decide) λq6 I6 u ο=>Y0q (λq7 I7 hq7 e7 J=>Y0q (λq8 I8 hq8 e8 U=>?_)))))))
 refine⟨_,rfl,_,_,rfl,rfl,?_⟩;have e1':(2:Int)+(e:Int)-1=((e+1:Nat):Int):=Oo;show GV _ (V.int ((2:Int)+(e:Int)-1)) _ _;rw[e1'];refine aEX e8 Oo λq9 I9 γ e9=>vJ (((J.trans U).trans γ) _ _ ο) e9 (by rw[cG];show 2+(e+1)<=1000;exact Oo) λq10 I10 S e10=>Y0q (λq11 I11 hq11 e11 ac=>Y0q (λρ I12 hq12 e12 ι=>Ys));intro X α;have z7:aV I2 I12:=(((((((((C.trans B).trans g).trans u).trans J).trans U).trans γ).trans S).trans ac).trans ι);have r2:bL I2 (eZ (0,1)) (.ref q2):=Y6Q e2 Yas Yas;have r4:bL I4 (eZ (1,1)) (.ref q4):=Y6Q e4 Yas Yas;have r7:bL I7 (eZ (0,1)) (.ref q7):=Y6Q e7 Yas Yas;have r1:Y7e I1 (gB [0,0]) q1:=Y6Q ζ Yas Yas;have rr:Y7e I12 (ru0 (2+e)) ρ:=by
  have e0:sy0 (2+e)=(0,1)::(1,1)::List.replicate (e+1) (0,1):=by
   show _::_::Ye5 (2+e) 1 _=_;rw[show 2+e-1=e+1 by exact Oo]
  have z4:=(((((((g.trans u).trans J).trans U).trans γ).trans S).trans ac).trans ι);have z10:=ac.trans ι;have rs:Y7e I12 (jK (sy0 (2+e))) q10:=by
   rw[e0];exact bL.tup (z10 _ _ e10) (Yaj (r2.same z7) (r4.same z4) (AB (r7.same ((((U.trans γ).trans S).trans ac).trans ι)) (e+1)))
  exact bL.tup e12 (Y4R (Y6Q (ι _ _ e11) (r1.same (m.trans z7)) rs))
 have F12:dA I12 p L (Y3D 200):=((F5.same N).same m).same z7;have rt12:=((rt5.same N).same m).same z7;have ra12:=((ra.same N).same m).same z7;clear r1 r2 r4 r7 ζ e2 e3 e4 e5 ο e7 e8 e9 e10 e11 e12 N m C B g u J U γ S ac ι z7 F5 rt5 ra θ hq2 hq3 hq4 hq5 hq7 hq8 hq11 hq12 e1';refine AN Yg7 (λP0 J0 hP0 eP0 s0=>Ys);intro X α;refine Y0q (λq1 J1 θ ζ N=>Y0q (λq2 J2 hq2 e2 m=>Y3));refine aEX (k:=2+e) e2 Oo λq3 J3 C e3=>?_;have rz:Y7e J3 (jK (List.replicate (2+e) (0,1))) q3:=bL.tup e3 (AB (((bL.tup ζ (aJ.cons (bL.int _) (aJ.cons (bL.int _) aJ.nil)):bL J1 (eZ (0,1)) (.ref q1)).same m).same C) _);have S3:=((s0.trans N).trans m).trans C;have F3:=F12.same S3;refine Y2q _ rfl _ Oo Oo (vI (Ydh p L (Y3D 200-3*i)) (Ycz) (λi y H'=>∃f:Fr,Y2f f y/\yQ f) (λi y Ha Hb s ⟨x,h1,η⟩=>⟨x,h1.flat s (cU x),η⟩) Oo (λi H' Q' hi F' s' k'=>?_) (λD μ J4 hD e4 F4 B hy4 hr4=>?_))
 ·refine Y3;exact sA.i (n:=Y3D 200-3*(i+1)) (Ycx) λv f H2 T2 m r2 f2=>k' _ H2 T2 m ⟨f,r2,f2⟩
 obtain⟨δ,lps,rps,fps⟩:=FF hr4;refine Y34 D (Y5D e4 (λl5 hl5=>?_));have g:=Y5u μ hl5;have e5:(upd J4 l5 (.tup μ)) l5=Yl μ:=bR;generalize upd J4 l5 (.tup μ)=J5 at g e5;have rp5:Y7e J5 (jK δ) l5:=bL.tup e5 (rps.same g);refine AN Yg7 (λPL J6 hPL ο u=>?_);have φ:dH J3 J6:=((F3.t B).trans g.t).trans u.t;have F6:dA J6 p L (Y3D 300):=((F4.same g).same u).less Oo;have rt6:=(rt12.same S3).flat φ (lV _ _);have ra6:=(ra12.same S3).flat φ (sK _ _ _ _);have rr6:=(rr.same S3).flat φ (GQ _);have rz6:=rz.flat φ (fW _);have rp6:=rp5.same u;have eP6:J6 P0=Y05 []:=by
  have nP:P0≠p:=F12.ne hP0;exact u _ _ (g _ _ (B.at nP (((N.trans m).trans C) _ _ eP0)))
 have lps':δ.length=2+e:=Oo;clear rz rp5 rps hr4 e5 e4 e3 e2 ζ φ F3 F4 F12 rt12 ra12 rr s0 N m C B g u S3 hl5 θ hq2 hD eP0 hP0 lps hy4;refine Y0X PL (Y7Z ο) ?_;have In:∀{H':Hp} {pv:V} {G:Ak},dH J6 H'->Y4x (jK G) pv->G.length=2+e->(∀f∈G,yQ f)->KY H' tv av pv fs ws bs β G cs 2 (2+e) M:=λt r l h=>⟨rt6.flat t (lV _ _),ra6.flat t (sK _ _ _ _),r,TT,Ya5 Dd,Y2h Oo,⟨Oo,aM (TM M Oo) Dd⟩,lbs,fbs,shm,l,h,lcs,fcs⟩;refine YbV [V.ref q3,V.ref l5] (Ex4 λ(Dp:Addr) (o8 o9 O:An)=>An3 (σ=[Y1y,Y2m,Ym ((2+e:Nat):Int),some tv,Ym (M:Int),Yab,Y4 ρ,Y4 Dp,o8,o9,O,none,none,none,none,none,none]) (aV J6 H') (IQ H' Dp (2+e) (2*i))) ⟨P0,_,_,_,rfl,Yx,[],[],eP6,aJ.nil,rfl,λd h=>by cases h⟩ YbS ?_ ?_
 ·obtain⟨_,_,_,_,_,s,_⟩:=q;exact Y8w _ _ ο
 ·rintro i x σ H2 ε ⟨Dp,o8,o9,O,rfl,m,PA⟩;refine Y8r;intro X α;obtain⟨G,rq,lq,hq⟩:∃G,bL H2 (jK G) x/\G.length=2+e/\∀f∈G,yQ f:=by
   match i,ε with
   | 0,ε=>cases ε;exact⟨_,rz6.same m,by rw[cG],λf hf=>by rw[List.eq_of_mem_replicate hf];exact GA⟩
   | 1,ε=>cases ε;exact⟨_,rp6.same m,lps',fps⟩
  have I:=In m.t rq lq hq;refine Y1H;refine pW.i I.rt TT.f I.ra rq I.wo Dd Dd λpd kvs H3 C hpd e3 dw3=>Ys;intro X α;refine Y3;refine iZ.i (F:=2) (M:=M) Dd Dd Oo λcl H4 B hcl ls4=>?_;obtain⟨vs,eL,rL⟩:=ls4;refine Y0X cl (Y7Z eL) ?_;have lvs:Y4a ((rise 2 M).length):=by have:=rL.len;rw[aA]at this;exact this
  have few:=TM M Oo;refine pH (λi y H'=>∃c,(rise 2 M)[i]?=Y0c/\Y4x (cfD (c,FW 2 (2+e) M (Y1x) β G cs c)) y) (λi y Ha Hb s ⟨c,h1,η⟩=>⟨c,h1,η.flat s (IE _)⟩) Oo eL (λi x H' Q' ε s' k'=>?_) (λD6 μ H5 hD6 e5 g hy hr5=>?_)
  ·obtain⟨c,hc,rc⟩:=cR (rL.same s') ε;obtain⟨b,rfl,hb⟩:=gX rc;have hcm:=aF hc;obtain⟨v,hv,rv_⟩:=dw3.yes c hcm;refine Y54 (Yb6 (s' _ _ (B _ _ e3)) c (by rw[iG];exact hb) hv ?_);exact Y0q (λq7 H7 hq7 e7 J=>k' _ H7 J ⟨c,hc,Y6Q e7 (rc.same J) (((rv_.same B).same s').same J)⟩)
  refine Y4Q D6 μ (Y5D e5 Ych);have sl:=Y5u μ hl;have el:(upd H5 l (.tup μ)) l=Yl μ:=bR;generalize upd H5 l (.tup μ)=H6 at sl el;have rwo:bL H6 (woD (rise 2 M) (FW 2 (2+e) M (Y1x) β G cs)) (Y13):=by
   refine Ybc el;rw[RH];refine aJ.ofIdx (by rw[aA,aA];exact Oo) λi y hi=>?_;obtain⟨c,h1,η⟩:=hr5 i y hi;exact Y1o (by rw[aX,aX,h1];rfl) (η.same sl)
  have S26:=((C.trans B).trans g).trans sl;have i140:=I.s140 wc.2 Oo;have iwo:Y5I 4 (woD (rise 2 M) (FW 2 (2+e) M (Y1x) β G cs)):=It.wo rfl Oo i140;have fwo:cV (woD (rise 2 M) (FW 2 (2+e) M (Y1x) β G cs))=true:=pF λd hd=>by
   obtain⟨c,_,rfl⟩:=Y8v;exact IE (c,FW 2 (2+e) M (Y1x) β G cs c)
  generalize hwo:woD (rise 2 M) (FW 2 (2+e) M (nQ ws) β G cs)=wo at rwo iwo fwo;obtain⟨ω,pds,eD,rD,lD,hD⟩:=PA;refine Y5l _ _ _ rfl _ rfl ?_;refine Y0q (λp1 H7 hp1 e7 J=>Y0F);refine Y0q (λp2 H8 hp2 e8 U=>AN Yg7 (λp3 H9 hp3 e9 γ=>?_));have S69:=(J.trans U).trans γ;have S29:=S26.trans S69;have lpv:ω.length=2*i:=by rw[rD.len,lD]
  have i2:i<2:=(aT.mp ε).1;refine VY (S29 _ _ eD) e9 (by rw[lpv];show 2*i+2<=1000;exact Oo) λE H10 hE e10 S=>?_;have S2:=S29.trans S;have hp:Pp (2+e) (IT true (2+e) G wo)/\Pp (2+e) (IT false (2+e) G wo):=⟨⟨true,G,wo,rfl,Oo,λf hf=>yQ.s140 (hq f hf),iwo,fwo⟩,⟨false,G,wo,rfl,Oo,λf hf=>yQ.s140 (hq f hf),iwo,fwo⟩⟩;have rr7:Y7e H7 (IT true (2+e) G wo) p1:=Y9i e7 Y3g (Yaj (((rr6.same m).same S26).same J) ((rq.same S26).same J) (Y4R (rwo.same J)));have rn8:Y7e H8 (IT false (2+e) G wo) p2:=Y9i e8 Y3g (Y6M (((rq.same S26).same J).same U) ((rwo.same J).same U));refine⟨E,_,_,_,rfl,m.trans S2,_,pds++[IT true (2+e) G wo,IT false (2+e) G wo],e10,aJ.append (Y6M (rr7.same ((U.trans γ).trans S)) (rn8.same (γ.trans S))) (rD.same S2),by rw[aW,lD];show 2*i+2=_;exact Oo,λd hd=>?_⟩;rcases bQ.mp hd with hd | hd
  ·exact hD d hd
  ·rcases Ybl with rfl | hd
   ·exact hp.1
   ·rw[aN.mp hd];exact hp.2
 rintro σ H2 ⟨Dp,o8,o9,O,rfl,m,PA⟩;refine Y6f;intro X α;have F2:=F6.same m;have ν:=rt6.same m;have τ:=ra6.same m;clear rt6 ra6 rr6 rz6 rp6 eP6 ο F6 m In fps lps';refine Y3N _ Dd Dd (VX (p:=p) (L:=L) (λi=>Y3D 300-i) (F2.less Oo) (λd=>d∈tO) Dd (λi H' Q' D μ hi F' s' hD k'=>?_) (λD μ ds J1 hD ζ F1 N hy rds hds=>?_))
 ·refine Y3;exact tL.i (n:=Y3D 300-(i+1)) (Z:=zP p D) (Ycx) (Y21) (FY.zP F' hD).zin λv d H3 F3 C r3 hd=>k' v d H3 F3 C r3 hd
 refine Y3;refine Y0q (λa1 K1 ha1 c1 t1=>Y0q (λb2 K2 hb2 c2 t2=>Y0q (λa2 K3 ha2 c3 t3=>Y0q (λb3 K4 hb3 c4 t4=>Y0q (λb3' K5 hb3' c5 t5=>Y0q (λa3 K6 ha3 c6 t6=>Y0q (λb4 K7 hb4 c7 t7=>Y0q (λb4' K8 hb4' c8 t8=>Y0q (λa4 K9 ha4 c9 t9=>Y0q (λb5 K10 hb5 c10 t10=>Y0q (λb5' K11 hb5' c11 t11=>Y0q (λa5 K12 ha5 c12 t12=>AN Yg7 (λl6 K13 hl6 c13 t13=>?_)))))))))))));have v2:Y3a K2 [] b2:=Y88 c2;have v3:Y3a K4 [] b3:=Y88 c4;have v3':Y3a K5 [] b3':=Y88 c5;have v4:Y3a K7 [] b4:=Y88 c7;have v4':Y3a K8 [] b4':=Y88 c8;have v5:Y3a K10 [] b5:=Y88 c10;have v5':Y3a K11 [] b5':=Y88 c11;have u1:Y3a K1 [.str "rule"] a1:=bL.tup c1 (Y4R Y3g);have u2:Y3a K3 [.str "none",.tuple []] a2:=Y6Q c3 Y3g (v2.same t3)
 have u3:Y3a K6 [.str "none",.tuple [],.tuple []] a3:=Y9i c6 Y3g (Y6M ((v3.same t5).same t6) (v3'.same t6));have u4:Y3a K9 [.str "may",.tuple [],.tuple []] a4:=Y9i c9 Y3g (Y6M ((v4.same t8).same t9) (v4'.same t9));have u5:Y3a K12 [.tuple [],.tuple []] a5:=Y6Q c12 ((v5.same t11).same t12) (v5'.same t12);have w5:=t13;have w4:=((t10.trans t11).trans t12).trans w5;have w3:=((t7.trans t8).trans t9).trans w4;have w2:=((t4.trans t5).trans t6).trans w3;have w1:=(t2.trans t3).trans w2;have ru5:aJ K13 NE [.ref a1,.ref a2,.ref a3,.ref a4,.ref a5]:=Yaj (u1.same w1) (u2.same w2) (aJ.cons (u3.same w3) (Y6M (u4.same w4) (u5.same w5)));have S1:=t1.trans w1;refine VY (S1 _ _ ζ) c13 (by rw[hy];show 6+5<=1000;decide) λE1 K14 hE1 c14 ab=>Ys;intro X α;have TA:rW K14 p E1 (6+5):=by
  have hl:Y2P 6:=by rw[<-rds.len,hy];rfl
  exact rW.cat (rds.same S1.hs) hE1 c14 ab ((F1.same S1).same ab) ru5 (λd hd=>by
   simp only[NE,aK,List.not_mem_nil,or_false]at hd;rcases hd with rfl | rfl | rfl | rfl | rfl <;> rfl) hl rfl (λd hd=>Th.odd (hds d hd)) Th.five
 have B14:bB p H2 K14:=N.trans (S1.trans ab).but;have F14:dA K14 p L (Y3D 400):=((F1.same S1).same ab).less Oo;have PA14:IQ K14 Dp (2+e) 4:=PA.t (F2.t B14) λo q=>B14.at (λz=>by
  obtain⟨vs,ds,h1,_⟩:=PA;obtain⟨ns,t,l,η,_⟩:=F2.ex;rw[z,η]at h1;cases h1) q
 have rt14:=ν.flat (F2.t B14) (lV _ _);have ra14:=τ.flat (F2.t B14) (sK _ _ _ _);clear u1 u2 u3 u4 u5 v2 v3 v3' v4 v4' v5 v5' w1 w2 w3 w4 w5 ru5 S1 t1 t2 t3 t4 t5 t6 t7 t8 t9 t10 t11 t12 t13 ab c1 c2 c3 c4 c5 c6 c7 c8 c9 c10 c11 c12 c13 c14 rds hds hy ζ F1 N B14 F2 ν τ PA ha1 ha2 ha3 ha4 ha5 hb2 hb3 hb3' hb4 hb4' hb5 hb5' hl6 hD;obtain⟨ω,pds,eD,rD,lD,hD⟩:=PA14;have lpv:ω.length=4:=by rw[rD.len,lD]
 refine Y5P Dp eD ?_;have nDp:Dp≠p:=λz=>by
  obtain⟨ns,t,l,η,_⟩:=F14.ex;rw[z,η]at eD;cases eD
 refine YbV ω (Ex3 λ(E:Addr) (o12 R:An)=>An4 (σ=[Y1y,Y2m,Ym ((2+e:Nat):Int),some tv,Ym (M:Int),Yab,Y4 ρ,Y4 Dp,o8,o9,O,Y4 E,o12,R,none,none,none]) (Y7j (Y3D 400-100*i)) (bB p K14 H') (rW H' p E (11+9*i))) (Y2q E1 _ _ (F14.less Oo) ((Yx).but) TA) YbS ?_ ?_
 ·obtain⟨_,_,_,_,_,s,_⟩:=q;exact hU.of (s.at nDp eD)
 ·rintro i x σ H2 ε ⟨E,o12,R,rfl,F2,b2,TA2⟩;refine Y8r;intro X α;have i4:i<4:=by have:=(aT.mp ε).1;exact Oo
  have rD2:aJ H2 pds ω:=rD.flat (F14.t b2) (pF λd hd=>(hD d hd).flat);obtain⟨d,hd,rx⟩:=rD2.get ε;have PP:=hD d (aF hd);have aa:=PP.self wc.2;have fl:=PP.flat;obtain⟨b,δ,wo,rfl,pl,hp,hw,fw⟩:=PP;obtain⟨pa,xs,rfl,hpa,χ⟩:=dF rx;have χ:=χ;unfold aJ at χ;obtain⟨x0,xr,rfl,r0,υ⟩:=χ;cases(show x0=.str (wdD b)from r0);have lxr:xr.length<=3:=by rw[υ.len];exact DU b
  obtain⟨κ,tds,eT,rT,lT,hT⟩:=TA2;refine Y54 (Y8c hpa 0 rfl ?_);obtain⟨up,eup,lup,iup,nup⟩:∃up,PySem.Txt.upper (wdD b)=up/\Yfa up.length/\Yb3 1 up/\PyData.str up ≠ .str "rule" := by
   cases b with
   | true=>exact⟨_,XU,Kk,It.RULE,λz=>by injection z with z;exact Y8y Kk⟩
   | false=>exact⟨_,XV,Kk,It.NONE,λz=>by injection z with z;exact Y8y Kk⟩
  refine Y0l (rupper eup lup ?_);refine Y0q (λq1 G1 θ ζ N=>Y0F);refine qB (k:=1) rfl (N _ _ hpa) λq2 G2 m e2=>vJ (m _ _ ζ) e2 (by show 1+xr.length<=1000;exact Oo) λq3 G3 C e3=>Y0F;refine qB (k:=1) rfl (((N.trans m).trans C) _ _ hpa) λq4 G4 B e4=>Y0q (λq5 G5 hq5 e5 g=>Y0F);refine qB (k:=1) rfl ((((N.trans m).trans C).trans (B.trans g)) _ _ hpa) λq6 G6 u ο=>vJ (u _ _ e5) ο (by show 1+xr.length<=1000;exact Oo) λq7 G7 J e7=>AN Yg7 (λq8 G8 hq8 e8 U=>?_);have S8:=(((N.trans m).trans C).trans (B.trans g)).trans ((u.trans J).trans U);have S3:=(N.trans m).trans C;have S4:=S3.trans B;have S7:=(S4.trans g).trans (u.trans J);have ltv:κ.length=11+9*i:=by rw[rT.len,lT]
  refine VY (S8 _ _ eT) e8 (by rw[ltv];show 11+9*i+4<=1000;exact Oo) λE2 G9 ψ e9 γ=>?_;have z3:=((B.trans g).trans (u.trans J)).trans U;have z4:=(g.trans (u.trans J)).trans U;have g1:Y3a G8 (.str up::Y2o b (2+e) δ) q3:=Y9i (z3 _ _ e3) Y3g (υ.same S8);have g2:Y3a G8 (Y2o b (2+e) δ) q4:=bL.tup (z4 _ _ e4) (υ.same S8);have g3:Y3a G8 (.none::Y2o b (2+e) δ) q7:=Y9i (U _ _ e7) bL.non (υ.same S8);have ru4:aJ G8 [IT b (2+e) δ wo,.tuple (.str up::Y2o b (2+e) δ),.tuple (Y2o b (2+e) δ),.tuple (.none::Y2o b (2+e) δ)] [.ref pa,.ref q3,.ref q4,.ref q7]:=aJ.cons (rx.same S8) (Yaj g1 g2 (Y4R g3));have ftl:fM (Y2o b (2+e) δ)=true:=GF fw;have F9:=(F2.same S8).same γ;have TA9:rW G9 p E2 (11+9*i+4):=rW.cat (rT.same S8.hs) ψ e9 γ F9 ru4 (λd hd=>by
   simp only[aK,List.not_mem_nil,or_false]at hd;rcases hd with rfl | rfl | rfl | rfl
   ·exact fl
   ·exact ftl
   ·exact ftl
   ·exact ftl) lT rfl hT (λd hd=>by
   simp only[aK,List.not_mem_nil,or_false]at hd;rcases hd with rfl | rfl | rfl | rfl
   ·exact aa.1
   ·exact Th.front wc.2 pl hp hw iup nup
   ·exact Th.tail wc.2 pl hp hw
   ·exact Th.front wc.2 pl hp hw It.non (λz=>by cases z))
  have B9:bB p K14 G9:=b2.trans (S8.trans γ).but;have hE2':K14 E2=none:=by
   cases q:K14 E2 with
   | none=>rfl
   | some o =>
    exfalso;by_cases z:E2=p
    ·obtain⟨ns,t,l,η,_⟩:=(F2.same S8).ex;rw[z,η]at ψ;cases ψ
    ·rw[S8 _ _ (b2.at z q)]at ψ;cases ψ
  have rx9:=rx.same (S8.trans γ);clear g1 g2 g3 ru4 z3 z4 S3 S4 S7 S8 N m C B g u J U γ ζ e2 e3 e4 e5 ο e7 e8 θ hq5 hq8 υ χ r0 hpa eT rT hT F2 b2 rD2 eup lup iup nup;refine Y3N _ Dd Dd (gH (λj σ H'=>∃R:An,σ=[Y1y,Y2m,Ym ((2+e:Nat):Int),some tv,Ym (M:Int),Yab,Y4 ρ,Y4 Dp,o8,o9,O,Y4 E2,Y4 pa,R,none,none,none]/\Y7j (Y3D 400-100*i-20*j)/\bB p K14 H'/\Y7e H' (IT b (2+e) δ wo) pa/\rW H' p E2 (11+9*i+4+j)) (Y9b _ (F9.less Oo) B9 rx9 TA9) ?_ ?_)
  ·rintro j σ H3 hj ⟨R,rfl,F3,b3,ξ,TA3⟩;refine Y22;intro X;have hj5:j<5:=hj;obtain⟨κ,tds,eT,rT,lT,hT⟩:=TA3;refine⟨_,rfl,OM eT,_,rfl,_,rfl,_,rfl,?_⟩;refine Y2k (Y3D 400-100*i-20*j-1) Ycz (λy H4 ya yb F4 B=>?_);obtain⟨y0,rfl⟩:∃b:Nat,y=(b:Int):=Y2h y.toNat;refine Y59 _ ?_;have nE:E2≠p:=λz=>by
    obtain⟨ns,t,l,η,_⟩:=F3.ex;rw[z,η]at eT;cases eT
   have eT4:=B.at nE eT;have Z4:=FY.zP F4 eT4;have rx4:=ξ.flat (F3.t B) fl;have it:L2.sm 6 6 (IT b (2+e) δ wo)=true:=(MI b wc.2 pl hp hw (by cases b;exact It.none;exact It.rule)).sm;have ly:PyData.canLay0 (IT b (2+e) δ wo)=true:=(MI b wc.2 pl hp hw (by cases b;exact It.none;exact It.rule)).sp.1;refine CD (n:=Y3D 400-100*i-20*(j+1)) (k:=1+y0) (Z:=zP p E2) rfl Oo (F4.less Oo) (Y21) Z4 (aAo Z4 rx4 fl) it ly Dd Dd λv d' H5 F5 g r5 hb=>?_;have eT5:=g.at nE eT4;have rT5:=(rT.same (B.hs (.inl rfl))).same (g.hs (Y21));have ltv:κ.length=11+9*i+4+j:=by rw[rT.len,lT]
   refine BS eT5 (by rw[ltv];exact Oo) λH6 ο u=>?_;have nEL:E2≠L:=F14.neL hE2';have B3:bB p K14 H6:=bB.thru hE2' ((b3.trans B).trans g) u;refine Y9b _ (F5.but u nE nEL) B3 ?_ (rW.app rT5 r5 ο u lT hT (aa.2 d' hb));exact(rx4.flat (F4.t g) fl).flat (u.t eT5) fl
  ·rintro σ H3 ⟨R,rfl,F3,b3,ξ,TA3⟩;exact Y2q E2 _ _ Ycz b3 TA3
 ·rintro σ H2 ⟨E,o12,R,rfl,F2,b2,TA2⟩;obtain⟨κ,tds,eT,rT,lT,hT⟩:=TA2;have ν:=rt14.flat (F14.t b2) (lV _ _);have τ:=ra14.flat (F14.t b2) (sK _ _ _ _);have rT2:aJ H2 (tds.map Ycs) κ:=by rw[List.map_id'];exact rT.same cL.same
  refine Y5P E eT (YbV κ (Ex4 λ(O o14 o15 o16:An)=>An2 (σ=[Y1y,Y2m,Ym ((2+e:Nat):Int),some tv,Ym (M:Int),Yab,Y4 ρ,Y4 Dp,o8,o9,O,Y4 E,o12,R,o14,o15,o16]) (aV H2 H')) ⟨_,_,_,_,rfl,Yx⟩ YbS ?_ ?_)
  ·obtain⟨_,_,_,_,_,s⟩:=q;exact Y8w _ _ eT
  ·rintro i x σ H3 ε ⟨O,o14,o15,o16,rfl,C⟩;refine Y8r;intro X α;obtain⟨d,hd,rx⟩:=cR rT2 ε;have Td:=hT d (aF hd);have ξ:=rx.same C;refine Y1 (rrW ξ Td.sw Dd Dd ?_);refine Ys;intro X α;generalize hkept:PyData.shown d=kept;refine Y1H;refine GJ (F:=2) (W:=2+e) (A:=M) (ν.same C) (τ.same C) ξ Td.ok TT rfl Oo wc.2 Oo shm lbs fbs lcs fcs λdt v H4 B r4 g1 g2 g3=>Ys;intro X α;refine Y1H;have S4:=C.trans B;refine xV.i (ν.same S4) (τ.same S4) (rx.same S4) Td.nb Td.sw Td.ly TT.f TT.w rfl Oo Oo λH5 g=>?_;have S5:=S4.trans g;refine Y3l (λbb H6=>Y6 bb/\aV H5 H6)
   ·refine Y3;refine Y0q (λq1 H6 θ ζ u=>YR ((r4.same g).same u) (Y6Q ζ Y3g bL.non) g1 Kk ?_);rw[g2,Bool.true_beq];refine Y1 (Y34 rfl ?_);rw[show decide (V.bl (!oP 2 (2+e) M d)=V.bl (oP 2 (2+e) M d))=false from bP λz=>by injection z with z;exact Y8y (by cases oP 2 (2+e) M d <;> decide)];refine gA (Y1 (YR ((r4.same g).same u) (Y3g) g1 Kk ?_));rw[g3,Bool.true_beq];refine Y1 Y1f;refine Y1 (rrW ((rx.same S5).same u) Td.sw Dd Dd ?_);refine Y1 (Y0v rfl _ ?_ u);rw[hkept,bH rfl];rfl
   ·rintro bb H6 ⟨rfl,u⟩;exact gA ⟨_,_,_,_,rfl,S5.trans u⟩
  ·rintro σ H3 ⟨O,o14,o15,o16,rfl,C⟩;exact k H3
end
def len1{α:Type}{us:Yn}(h:Y79 1):∃a,us=[a]:=match us,h with | [a],_=>⟨a,rfl⟩
def aGW{α:Type}{us:Yn}(h:Y79 2):∃a b,us=[a,b]:=match us,h with | [a,b],_=>⟨a,b,rfl⟩
def aEY{α:Type}{us:Yn}(h:Y79 3):∃a b c,us=[a,b,c]:=match us,h with | [a,b,c],_=>⟨a,b,c,rfl⟩
def aGV{α:Type}{us:Yn}(h:Y79 4):∃a b c d,us=[a,b,c,d]:=match us,h with | [a,b,c,d],_=>⟨a,b,c,d,rfl⟩
def aGU{α:Type}{us:Yn}(h:Y79 5):∃a b c d e,us=[a,b,c,d,e]:=match us,h with | [a,b,c,d,e],_=>⟨a,b,c,d,e,rfl⟩
def aDL{K:Aa}{x q:Str}{st:Stmt}{f:Addr}{fd:FuncData}(F:Yb x q st)(P:Y18 FuncData)(h:P fd):∃fd,P fd:=⟨fd,h⟩
inductive Dn (K:Aa) (n:Str) (st:Stmt):Prop
 | mk {f:Addr} {oc:Value} {od:Y0u} {kV dc pm:Value} {an:Y0u} {cd ct:Value} {sl:Y8d} (a:PySem.W.nsIn K mainGlobals n=Y2O f) (l:YeI=some ⟨oc,od,.func (PySem.W.fnOf n n (qO st) (kO st) (Y3X) .none kV dc pm an cd ct),sl⟩) (c:YdX cd n=true) (k:YbG K f=true):Yf n st
def fnd(l:PySem.W.OpenLaw)(w:World){K:Aa}{h:Heap}{mg:Y03}(X:K.In h)(G:YdO mg)(base:Heap){n:Str}{st:Stmt}{C:LB}{L:Nat}{ps:Ah}{sp:Sp}(d:Yf n st)(o:∀{f:Addr}{fd:FuncData},Yb n n st->cX l.prog w K mg base C L f fd ps sp)(b:∀(kV doc pm:Value) (an:Y0u) (cdv ct:Value) (us:Ag),Y79 ps.length->bindArgs (PySem.W.fnOf n n (qO st) (kO st) (Y3X) .none kV doc pm an cdv ct) ⟨us,[]⟩=pure (Yb4):=by intro _ _ _ _ _ _ us hl;first | (obtain⟨_,rfl⟩:=len1 hl;rfl) | (obtain⟨_,_,rfl⟩:=aGW hl;rfl) | (obtain⟨_,_,_,rfl⟩:=aEY hl;rfl) | (obtain⟨_,_,_,_,rfl⟩:=aGV hl;rfl) | (obtain⟨_,_,_,_,_,rfl⟩:=aGU hl;rfl)):dS C l.prog w K mg base L n ps sp:=by
 obtain⟨a,e,c,k⟩:=d;exact⟨_,_,o (FE e c k),PySem.W.mg_of X G a,k,(FE e c k).binds b⟩
open PySem.W (nsIn fnOf codeIn keepIn mg_of mg_none_of) in
def aD2{l:PySem.W.OpenLaw}{w:World}{K:Aa}{h:Heap}{mg:Y03}{fa:Addr}{c_EarlyError:Addr}{c_NoPaper:Addr}{c_NoBack:Addr}{c_NoBounds:Addr}{c_NoFraction:Addr}{c_NoLines:Addr}{c_NoLook:Addr}{c_NoOrder:Addr}{c_NoRow:Addr}{c_NoRule:Addr}{c_NoTrial:Addr}{c_ONE:Addr}{c_NOUGHT:Addr}{tok_LOOKS_ON:Tok}{ce_EarlyError:ClassData}(X:K.In h)(G:YdO mg)(hfa:mg "law" = Y4 fa)
  (u_EarlyError:Y0o "EarlyError" = Y2O c_EarlyError)
  (u_NoPaper:Y0o "NoPaper" = Y2O c_NoPaper)
  (u_NoBack:Y0o "NoBack" = Y2O c_NoBack)
  (u_NoBounds:Y0o "NoBounds" = Y2O c_NoBounds)
  (u_NoFraction:Y0o "NoFraction" = Y2O c_NoFraction)
  (u_NoLines:Y0o "NoLines" = Y2O c_NoLines)
  (u_NoLook:Y0o "NoLook" = Y2O c_NoLook)
  (u_NoOrder:Y0o "NoOrder" = Y2O c_NoOrder)
  (u_NoRow:Y0o "NoRow" = Y2O c_NoRow)
  (u_NoRule:Y0o "NoRule" = Y2O c_NoRule)
  (u_NoTrial:Y0o "NoTrial" = Y2O c_NoTrial)
  (u_ONE:Y0o "ONE" = Y2O c_ONE)
  (u_NOUGHT:Y0o "NOUGHT" = Y2O c_NOUGHT)
  (u_LOOKS_ON:Y0o "LOOKS_ON" = some (some (.int 0 tok_LOOKS_ON)))
  (ty_EarlyError:PySem.W.typeIn K (Yfx)=Yeo "type")
  (cm_EarlyError:PySem.W.clsIn K c_EarlyError=some ce_EarlyError)
  (sb_EarlyError:YaF Yfx (.type "BaseException")=Y2e)
  (t0:sJ K c_EarlyError=true)
  (t1:wK K c_NoPaper=true)
  (t2:gW K c_NoPaper ["word","at"]=true)
  (t3:YaF Y9k Yfx=Y2e)
  (y1:PySem.W.kitAny K (Y9k) [.ref c_NoBack,.ref c_NoBounds,.ref c_NoFraction,.ref c_NoLines,.ref c_NoLook,.ref c_NoOrder,.ref c_NoRow,.ref c_NoRule,.ref c_NoTrial]=some false)
  (y2:YdW Y9k Y9k=Y2e)
  (y3:Yat K Y9k "ValueError"=Y2e)
  (o_ONE:uA K c_ONE [1,1]=true)
  (o_NOUGHT:uA K c_NOUGHT [0,1]=true)
  (d0:Yf "_law_feed" sQ7)
  (d1:Yf "_law_draw" sQ6)
  (d2:Yf "_law_frac" sQ8)
  (d3:Yf "_law_shares" aCS)
  (d4:Yf "_law_trial" aCM)
  (d5:Yf "_law_bound" sQ4)
  (d6:Yf "_law_some" aCR)
  (d7:Yf "_law_aim" sQ1)
  (d8:Yf "common_divisor" aCx)
  (d9:Yf "plus" aCb)
  (d10:Yf "times" aB5)
  (d11:Yf "less" aCi)
  (d12:Yf "is_less" aCo)
  (d13:Yf "total" aB4)
  (d14:Yf "ways_of" aB2)
  (d15:Yf "way_shares" aB3)
  (d16:Yf "power" aCa)
  (d17:Yf "weight" aB1)
  (d18:Yf "faces_of" aCt)
  (d19:Yf "counts_that_are" YM)
  (d20:Yf "all_counts" aCJ)
  (d21:Yf "one_more" aCe)
  (d22:Yf "ones_more" aCd)
  (d23:Yf "sums_at" aB6)
  (d24:Yf "_law_plus" aCT)
  (d25:Yf "_law_times" aCP)
  (d26:Yf "_law_total" aCN)
  (d27:Yf "_law_below" sQ2)
  (d28:Yf "_law_more" aCV)
  (d29:Yf "_law_weight" aCL)
  (d30:Yf "_law_counts" sQ5)
  (d31:Yf "_law_sums" aCQ)
  (d32:Yf "_law_worths" aCK)
  (d33:Yf "looks_on" aCg)
  (d34:Yf "rule_faces" aB9)
  (d35:Yf "noughts" aCf)
  (d36:Yf "amounts" aCI)
  (d37:Yf "comings" aCy)
  (d38:Yf "said_of" aB8)
  (d39:Yf "onwards" aCc)
  (d40:Yf "spent" aB7)
  (d41:Yf "wrong" aBZ)
  (d42:Yf "cost" aCw)
  (d43:Yf "bounds_priced" aCB)
  (d44:Yf "counts_behind" aCv)
  (d45:Yf "counts_come_to" aCu)
  (d46:Yf "is_whole" aCk)
  (d47:Yf "is_fraction" aCp)
  (d48:Yf "is_share" aCm)
  (d49:Yf "is_tuple_of" aCl)
  (d50:Yf "are_shares" aCD)
  (d51:Yf "are_parts" aCG)
  (d52:Yf "are_says" aCE)
  (d53:Yf "is_counts" aCr)
  (d54:Yf "is_entry" aCq)
  (d55:Yf "is_rule" aCn)
  (d56:Yf "are_from_nought" aCH)
  (d57:Yf "are_prices" aCF)
  (d58:Yf "is_worth" aCj)
  (d59:Yf "without_costs" aB0)
  (d60:Yf "are_worths" aCC)
  (d61:Yf "has_shape" aCs)
  (a62:YdV Y9k "__init__" = Y2O f62) (l62:K.lookup f62=some ⟨oc62,od62,.func (fnOf "__init__" "NoPaper.__init__" (qO sQ0) (kO sQ0) (bA sQ0) .none kV62 dc62 pm62 an62 cd62 ct62),sl62⟩) (c62:codeIn K cd62 "NoPaper.__init__" = true) (k62:keepIn K (.ref f62)=true) (fn62:PySem.W.isFn K (.ref f62)=true) (kp62:keepIn K (Y9k)=true)
  (d63:Yf "check_rule" aCA)
  (d64:Yf "check_worths" aCz)
  (d65:Yf "lets_paper" aCh)
  (d66:Yf "_law_told" aCO)
  (d67:Yf "_law_is_fraction" sQ9)
  (d68:Yf "_law_odd" aCU)
  (d69:Yf "_law_bent" sQ3)
  (d70:Yf "_law_is_shaped" aCW)
  (d71:Yf "law" YL) (z0:Y0o "list" = Y12) (z1:Y0o "len" = Y12) (z2:Y0o "abs" = Y12) (z3:Y0o "range" = Y12) (z4:Y0o "sum" = Y12) (z5:Y0o "zip" = Y12) (z6:Y0o "reversed" = Y12) (z7:Y0o "tuple" = Y12) (z8:Y0o "isinstance" = Y12) (z9:Y0o "bool" = Y12) (z10:Y0o "all" = Y12) (z11:Y0o "any" = Y12) (z12:Y0o "dict" = Y12) (z13:Y0o "enumerate" = Y12) (z14:Y0o "ValueError" = Y12) (z15:Y0o "sorted" = Y12) (z16:Y0o "int" = Y12) (z17:Y0o "str" = Y12) (z18:Y0o "repr" = Y12) :
  ∃fd:FuncData,(∀(s:Shared) (v:Value),Ybe s ⟨[v],[]⟩ [("_law_script",v)])/\∀base:Heap,K.In base->YbQ mg->cX l.prog w K mg base cN 12 fa fd a29 (vX K):=by
 obtain⟨a,g,i,d⟩:=d71;have e:=hfa.symm.trans (Y3s a);cases e;generalize hcl:(⟨c_EarlyError,c_NoPaper,c_NoBack,c_NoBounds,c_NoFraction,c_NoLines,c_NoLook,c_NoOrder,c_NoRow,c_NoRule,c_NoTrial,c_ONE,c_NOUGHT,tok_LOOKS_ON⟩:Cl)=c;have T:Yd:=by rw[<-hcl];exact⟨Y28 z0,Y28 z1,Y28 z2,Y28 z3,Y28 z4,Y28 z5,Y28 z6,Y28 z7,Y28 z8,Y28 z9,Y28 z10,Y28 z11,Y28 z12,Y28 z13,Y28 z14,Y28 z15,Y28 z16,Y28 z17,Y28 z18,Y3s u_EarlyError,Y3s u_NoPaper,Y3s u_NoBack,Y3s u_NoBounds,Y3s u_NoFraction,Y3s u_NoLines,Y3s u_NoLook,Y3s u_NoOrder,Y3s u_NoRow,Y3s u_NoRule,Y3s u_NoTrial,Y3s u_ONE,Y3s u_NOUGHT,Y3s u_LOOKS_ON,⟨ty_EarlyError,(by rw[cm_EarlyError];rfl),sb_EarlyError⟩,t0,t1,t2,t3,y1,y2,y3,o_ONE,o_NOUGHT⟩
 have F71:=FE (st:=YL) g i d;refine aDL F71 _ ⟨λs v=>.of_eq rfl,λbase _ _=>?_⟩;have N:=@fnd l w K h mg X G base;have GQ7:=Yg d0 (oQ7 F T);have GQ6:=Yg d1 (oQ6 F T);have GQ8:=Yg d2 (oQ8 F T);have GQ14:=Yg d3 (aGO F T GQ6 GQ8);have GQ20:=Yg d4 (aGI F T GQ6 GQ14);have GQ4:=Yg d5 (oQ4 F T GQ6 GQ8);have GQ15:=Yg d6 (aGN F T GQ6 GQ8);have GQ1:=Yg d7 (oQ1 F T GQ4 GQ14 GQ15);have GQ35:=Yg d8 (aGt F T);have GQ59:=Yg d9 (aF5 F T GQ35);have GQ65:=Yg d10 (aFZ F T GQ35);have GQ52:=Yg d11 (aGc F T GQ59);have GQ45:=Yg d12 (aGj F T);have GQ66:=Yg d13 (aFY F T GQ59);have GQ68:=Yg d14 (aFW F T);have GQ67:=Yg d15 (aFX F T);have GQ60:=Yg d16 (aF4 F T);have GQ69:=Yg d17 (aFV F T GQ67 GQ65 GQ60);have GQ40:=Yg d18 (aGo F T);have GQ39:∀n:Nat,dS cN l.prog w K mg base (1+n) "counts_that_are" a32 (nB n):=λn=>by
  induction n with
  | zero=>exact Yg d19 (aFC F T)
  | succ n ih=>exact Yg d19 (aGp n F T ih)
 have GQ23:=Yg d20 (aGF F T (GQ39 4));have GQ56:=Yg d21 (aF8 F T);have GQ57:=Yg d22 (aF7 F T GQ56);have GQ64:=Yg d23 (aF0 F T GQ69 GQ68 GQ65 GQ66 GQ52 GQ57 GQ59);have GQ13:=Yg d24 (aGP F T GQ8);have GQ17:=Yg d25 (aGL F T GQ8);have GQ19:=Yg d26 (aGJ F T GQ13);have GQ2:=Yg d27 (oQ2 F T);have GQ11:=Yg d28 (aGR F T);have GQ21:=Yg d29 (aGH F T GQ17);have GQ5:=Yg d30 (oQ5 F T GQ11);have GQ16:=Yg d31 (aGM F T GQ21 GQ17 GQ19 GQ11);have GQ22:=Yg d32 (aGG F T GQ5 GQ16 GQ2);have GQ54:=Yg d33 (aGa F T);have GQ61:=Yg d34 (aF3 F T);have GQ55:=Yg d35 (aF9 F T);have GQ24:=Yg d36 (aGE F T GQ55 GQ61 GQ54 GQ65 GQ57 GQ59);have GQ34:=Yg d37 (aGu F T GQ24 GQ65 GQ69);have GQ62:=Yg d38 (aF2 F T GQ66 GQ65);have GQ58:=Yg d39 (aF6 F T GQ34 GQ65 GQ54);have GQ63:=Yg d40 (aF1 F T GQ66 GQ65 GQ58);have GQ71:=Yg d41 (aFT F T GQ68 GQ52 GQ62 GQ34);have GQ36:=Yg d42 (aGs F T GQ68 GQ66 GQ65 GQ63);have GQ31:=Yg d43 (aGx F T GQ65 GQ66);have GQ37:=Yg d44 (aGr F T GQ54 GQ57);have GQ38:=Yg d45 (aGq F T GQ55 GQ37);have GQ49:=Yg d46 (aGf F T);have GQ44:=Yg d47 (aGk F T GQ49 GQ35);have GQ47:=Yg d48 (aGh F T GQ44);have GQ48:=Yg d49 (aGg F T);have GQ29:=Yg d50 (aGz F T GQ48 GQ47);have GQ26:=Yg d51 (aGC F T GQ29 GQ66);have GQ28:=Yg d52 (aGA F T GQ26);have GQ42:=Yg d53 (aGm F T GQ48 GQ49);have GQ43:=Yg d54 (aGl F T GQ48 GQ42 GQ28);have GQ46:=Yg d55 (aGi F T GQ43 GQ38)
 have GQ25:=Yg d56 (aGD F T GQ48 GQ44);have GQ27:=Yg d57 (aGB F T GQ25 GQ68);have GQ50:=Yg d58 (aGe F T GQ48 GQ42 GQ44);have GQ70:=Yg d59 (aFU F T);have GQ30:=Yg d60 (aGy F T GQ40 GQ50 GQ23);have GQ41:=Yg d61 (aGn F T GQ48 GQ27 GQ30);have F62:=FE (st:=sQ0) l62 c62 k62;have j:=F62.binds (ps:=a13) λ_ _ _ _ _ _ p m=>by obtain⟨_,_,_,rfl⟩:=aEY (show p.length=3 from m);rfl
 have GQ0:FnI l.prog w K mg base 1 c.NoPaper a13 (Ycc):=⟨_,_,oQ0 F62 T,⟨(gW.shape T.st_NoPaper),(by rw[<-hcl];exact a62),fn62,(by rw[<-hcl];exact kp62)⟩,j⟩;have GQ32:=Yg d63 (aGw F T GQ0 GQ46 GQ40 GQ68 GQ71 GQ45);have GQ33:=Yg d64 (aGv F T GQ0 GQ64 GQ45);have GQ53:=Yg d65 (aGb F T GQ0 GQ41 GQ32 GQ33 GQ36 GQ52 GQ31 GQ70 GQ45);have GQ18:=Yg d66 (aGK F T GQ53);have GQ9:=Yg d67 (oQ9 F T GQ8);have GQ12:=Yg d68 (aGQ F T GQ6);have GQ3:∀n:Nat,dS cN l.prog w K mg base (3+n) "_law_bent" a05 (lP n):=λn=>by
  induction n with
  | zero=>exact Yg d69 (zQ3 F T)
  | succ n ih=>exact Yg d69 (oQ3 n F T GQ6 GQ12 ih)
 have GQ10:=Yg d70 (aGS F T GQ9 GQ5);exact aGd F71 T GQ7 GQ6 GQ20 GQ1 GQ15 GQ22 GQ5 GQ12 (GQ3 6) GQ18 GQ10
end Kw
namespace PySem.W.Fast
def tw12646747044780804284:=()
def tw85356219444401604:=()
def tw3945683815650156004:=()
def tw10919997908510692970:=()
def tw7704052023192422646:=()
def tw10331877408370906217:=()
def tw11902823788445301468:=()
def tw8858676456262986180:=()
def tw6559211519173502433:=()
def tw12708502919857863291:=()
def tw14307413151231764818:=()
def tw1108970466462903238:=()
def tw1972656424720137177:=()
def tw15029006284796497037:=()
def tw7216402098068836620:=()
def tw7943553974565335563:=()
def tw1543941285929681221:=()
def tw12551843378116215589:=()
def tw4862898831945081325:=()
def tw5179216978289816928:=()
def tw7702546762089329019:=()
def tw14518519795009455974:=()
def tw9248574948603250757:=()
def tw4256703691264590509:=()
def tw12836069695027175378:=()
def tw1984275223962038120:=()
def tw474802782914430712:=()
def tw16901805303920305979:=()
def tw14677320824920317370:=()
def tw12861744747498125907:=()
def tw10904116989049656782:=()
def tw6869141312822916545:=()
def tw5849060760605602429:=()
def tw17290390259714139693:=()
def tw10065818058911957455:=()
def tw10354455533959021341:=()
def tw10695777958046807091:=()
def tw6152846180970409472:=()
def tw10556848294378031065:=()
def tw12894025666130814328:=()
def tw570217758750651567:=()
def tw13073533667983389511:=()
def tw13714363088949254032:=()
def tw5106338024016431021:=()
def tw18095836852179309264:=()
def tw16990815527299838395:=()
def tw1363294536555580372:=()
def tw6069246755272759462:=()
def tw11284340959421134519:=()
def tw6076242485138311302:=()
def tw10772953518597965741:=()
def tw2242852296126626385:=()
def tw11549042693102666562:=()
def tw4145775401039764987:=()
def tw783650020386024872:=()
def tw11431891692125674940:=()
def tw555355253022452850:=()
def tw15447971488396652576:=()
def tw3180539099195194747:=()
def tw13425049045778546516:=()
def tw13716595720255720854:=()
def tw6013994132479375109:=()
def tw7797653160041346505:=()
def tw7469985021425380051:=()
def tw10942323050125339897:=()
def tw11296798721489801327:=()
def tw1009601754488173999:=()
def tw5637057145549169462:=()
def tw15065222894000751013:=()
def tw5566408473706529:=()
def tw13568806598056928494:=()
def tw9216458984292269227:=()
def tw3352975572664428567:=()
def tw12432062040962627037:=()
def tw15842042674374215493:=()
def tw3923213336605251494:=()
def tw4007085314032949353:=()
def tw12184547289298135187:=()
def tw11059805177731219236:=()
def tw14674198272858271542:=()
def tw1922624636298072968:=()
def tw177258322282633778:=()
def tw10865550398043985733:=()
def tw11420671924729991102:=()
def tw14482230721366654429:=()
def tw6745281628139140394:=()
def tw13690035256967645071:=()
def tw7349913513069434147:=()
def tw1605872272996963358:=()
def tw3904365112214404080:=()
def tw9843921386074968819:=()
def tw13039607108376985410:=()
def tw16945232993187610364:=()
def tw5403038559800710310:=()
def tw14866779187099360477:=()
def tw15168720586409610096:=()
def tw15101682186563231526:=()
def tw11610661454179889748:=()
def tw13126906578163426524:=()
def tw3950067914259847395:=()
def tw12073578188043600337:=()
def tw10591671403876985035:=()
def tw3933330769527529146:=()
def tw12829305059639734112:=()
def tw5667185123393297273:=()
def tw8541961881765004245:=()
def tw16338040938900921956:=()
def tw14005346328534612963:=()
def tw16176844318823304436:=()
def tw7361501774847930738:=()
def tw11060126041276405160:=()
def tw1694230427737817011:=()
def tw1156863086987267740:=()
def tw12167128070001241754:=()
def tw8311717634003815481:=()
def tw6396823749431125471:=()
def tw13530180156573669787:=()
def tw1000846385218380956:=()
def tw8915874923641724860:=()
def tw5288266027907703908:=()
def tw15224606418498237915:=()
def tw12059909710067058736:=()
def tw8449448248410927659:=()
def tw3205637705342970550:=()
def tw6743215937073796356:=()
def tw3744980603170868163:=()
def tw3833768228874602758:=()
def tw482931089820550690:=()
def tw14379717608059258075:=()
def tw6408011790782609003:=()
def tw12129945910718541983:=()
def tw10518415055045273736:=()
def tw5683644095356215407:=()
def tw6269241160454293610:=()
def tw8635621047983599176:=()
def tw14278057600462820000:=()
def tw9580262216902842693:=()
def tw18311070382152086189:=()
def tw1494993435580929305:=()
def tw8048978821244925515:=()
def tw5892605960919995697:=()
def tw17790414563954076632:=()
def tw13527180804421824605:=()
def tw9513321455786925682:=()
def tw13672181936768807208:=()
def tw6299371801575733382:=()
def tw6241926223184192533:=()
def tw7832140477672581765:=()
def tw11004465874555820155:=()
def tw12261628825009160097:=()
def tw18105452763757089616:=()
def tw1295273568401977214:=()
def tw13806395749138513959:=()
def tw2815702728656752332:=()
def tw1623884848553362324:=()
def tw11851443439297986962:=()
def tw7731277048144962884:=()
def tw2937804996373055017:=()
def tw17797240307046497550:=()
def tw9056029575856013157:=()
def tw13889558124968050424:=()
def tw9178004088670205764:=()
def tw17051341789867303884:=()
def tw1889484196967992241:=()
def tw4705577193910274691:=()
def tw12925105127181784742:=()
def tw3369242451671387801:=()
def tw14302000761658804001:=()
def tw4809920723672972489:=()
def tw12370994651315900598:=()
def tw4642652392093557504:=()
def tw15867015808895911634:=()
def tw8565717506545661178:=()
def tw4911524237344999175:=()
def tw8225071610004254019:=()
def tw15155969435515622745:=()
def tw8914546368825186987:=()
def tw12907470372435124698:=()
def tw9963155256327960543:=()
def tw6595571376944525632:=()
def tw5145554511876211073:=()
def tw7678442448013903876:=()
def tw588529153975621586:=()
def tw2499469931758907941:=()
def tw13064369566468219120:=()
def tw10798015195155380859:=()
def tw3705552618001787345:=()
def tw12346541385752815480:=()
def tw7074769581206929970:=()
def tw16031958589696863600:=()
def tw12282639772081341652:=()
def tw7414943987419031725:=()
def tw6661133258359187672:=()
def tw2676336127031031141:=()
def tw729687955690476721:=()
def tw10954519048677761362:=()
def tw13915570156774880870:=()
def tw1927016193739086537:=()
def tw12386722589524737948:=()
def tw15809307964918299998:=()
def tw7356154695168012257:=()
def tw7354784233584559904:=()
def tw515230784386139155:=()
def tw11478410702383722433:=()
def tw10869633591296243377:=()
def tw12609326023150544049:=()
def tw2565069977524544726:=()
def tw12571641382867288122:=()
def tw10668649109252726256:=()
def tw8861361003760675494:=()
def tw6706262212644934456:=()
def tw17329835666357439322:=()
def tw15245077942191047086:=()
def tw1385875960226875023:=()
def tw13832278732446383135:=()
def tw559428487562807206:=()
def tw13914915865671232712:=()
def tw4750950220558488771:=()
def tw3574806821548630389:=()
def tw9931985382771386895:=()
def tw2396509966445755892:=()
def tw9970736279549884275:=()
def tw4872585300522278827:=()
def tw8063358359615219125:=()
def tw5420313414797052193:=()
def tw11507148948214951410:=()
def tw10113699154238173306:=()
def tw16458375026059013675:=()
def tw11436203995204325915:=()
def tw8158829557271938370:=()
def tw9969533559095428491:=()
def tw4065600719193195399:=()
def tw3156134324167374636:=()
def tw4043681483195220469:=()
def tw14785938375085796310:=()
def tw5222747829668473204:=()
def tw16187294099640759799:=()
def tw7049538182143521851:=()
def tw5827075641410623752:=()
def tw3495117201036765593:=()
def tw6812032568121262145:=()
def tw17754427626006476207:=()
def tw1169468785146959466:=()
def tw10406932605042365463:=()
def tw2235540346398678802:=()
def tw16225479525085681161:=()
def tw4304539048466150814:=()
def tw7163281639770298585:=()
def tw17385280358421274975:=()
def tw18369117019034407535:=()
def tw7598604483737915779:=()
def tw6037530462033172250:=()
def tw2432342316758515420:=()
def tw11435511757008503642:=()
def tw18111523188061876281:=()
def tw18444240683456242591:=()
def tw3655849661971916535:=()
def tw1237474059660567026:=()
def tw16968978350501217737:=()
def tw17714169462703566041:=()
def tw7645141193912121295:=()
def tw8777058409946738103:=()
def tw18095339781306243077:=()
def tw5661322147674313487:=()
def tw18081404345919147650:=()
def tw5482292235494390612:=()
def tw11327137048100451095:=()
def tw274041005884574239:=()
def tw12106313574448242871:=()
def tw5721744383214855548:=()
def tw8865244962807818066:=()
def tw14407212528991787636:=()
def tw11193978462553124638:=()
def tw3846700667799400728:=()
def tw14804246041512799433:=()
def tw6986171325644927629:=()
def tw15301973469178852856:=()
def tw15286074227242511386:=()
def tw12338058171805336820:=()
def tw8554846457964005423:=()
def tw14875671705167075543:=()
def tw13056617446681403422:=()
def tw2439518585571602800:=()
def tw15639224671078991377:=()
def tw9260663532293671481:=()
def tw5064010133171379681:=()
def tw15476509581477842746:=()
def tw12240842764572381657:=()
def tw9014429282613640170:=()
def tw7824098424726573727:=()
def tw15924689711792817558:=()
def tw13935538310387637078:=()
def tw9680663444186559123:=()
def tw8438752931632075678:=()
def tw6753673239867530593:=()
def tw6705490534782540997:=()
def tw619596529302194085:=()
def tw17641181555952836324:=()
def tw154683632687235618:=()
def tw10252280609618587606:=()
def tw8947038858487635465:=()
def tw4268493209705758363:=()
def tw3843910306858899209:=()
def tw15586832846646763724:=()
def tw13885557468584083695:=()
def tw10501894346748518450:=()
def tw4369243352726178766:=()
def tw2110971883657181757:=()
def tw1861262765100670164:=()
def tw54720253281817052:=()
def tw3871234389446376341:=()
def tw13354247384582299359:=()
def tw121472122286013643:=()
def tw8319269076759604812:=()
def tw6274681515914129159:=()
def tw16624757800883691914:=()
def tw16897674164375589039:=()
def tw11725667118542786403:=()
def tw4615039641991616656:=()
def tw2033426940895532324:=()
def tw10818986505935651324:=()
def tw12890886432211410631:=()
def tw12459472171777462336:=()
def tw18419219804414212481:=()
def tw4484631993932667124:=()
def tw2524692261868296333:=()
def tw17812571229413225753:=()
def tw2292512661330379113:=()
def tw13996972289248364173:=()
def tw16966481475118605236:=()
def tw8631693262912771091:=()
def tw11921710762780235530:=()
def tw8346635262642560046:=()
def tw4848293389738787008:=()
def tw5529900508671024936:=()
def tw1568487710701857182:=()
def tw12049108170428102459:=()
def tw10357847828535254244:=()
def tw9610500611187698580:=()
def tw10809431979101618660:=()
def tw13324859558136812783:=()
def tw8170802047984940330:=()
def tw11290634863248554890:=()
def tw5852088640890967851:=()
def tw10768890349954807547:=()
def tw6570719034084933295:=()
def tw5070851430138386310:=()
def tw9596715644056827476:=()
def tw7974707457101864123:=()
def tw8303338894680206156:=()
def tw11799250205609117883:=()
def tw4505472509491047755:=()
def tw10326228868686446383:=()
def tw7010489719246559919:=()
def tw4661314206588791846:=()
def tw11455134771777888994:=()
def tw1126489769310142593:=()
def tw2594535987839248318:=()
def tw6757318370379531:=()
def tw841505922348044285:=()
def tw4349690088434865278:=()
def tw7851089208150593717:=()
def tw1468217180315463421:=()
def tw2234314849221451373:=()
def tw17157499667079071566:=()
def tw11134648120108534391:=()
def tw9620936924554490020:=()
def tw11710586332431739996:=()
def tw3322065791112135702:=()
def tw1292768257975683863:=()
def tw6069680490216903145:=()
end PySem.W.Fast
open PySem PySem.W PyProof.Rows
set_option maxRecDepth 100000 in
set_option maxHeartbeats 0 in
theorem PySem.Challenge.cw_earlystop_k52_papers_of_other_shapes_holds : PySem.Challenge.rw_earlystop_k52_papers_of_other_shapes.Holds := by
  w_on;o_law;k_head;(case hw=>w_witness2)
  k_fill
  refine L2.RQ (l:=PySem.Challenge.rw_earlystop_k52_papers_of_other_shapes) (n:=63) (k:=12) (x := "_law_script") (CX:=L2.cN) (sp:=λK=>Kw.vX K) rfl Dd rfl ⟨rfl,Dd,Dd,rfl⟩ (λw h Y=>PySem.W.kIn_of Y) ?F (λK H a i e _ g=>Kw.SR g e) (λ_ _ _ _ z=>z)
  case F =>
    intro w j m h KX G d
    refine' Kw.aD2 KX G d ?u_EarlyError ?u_NoPaper ?u_NoBack ?u_NoBounds ?u_NoFraction ?u_NoLines ?u_NoLook ?u_NoOrder ?u_NoRow ?u_NoRule ?u_NoTrial ?u_ONE ?u_NOUGHT ?u_LOOKS_ON ?ty_EarlyError ?cm_EarlyError ?sb_EarlyError ?t0 ?t1 ?t2 ?t3 ?y1 ?y2 ?y3 ?o_ONE ?o_NOUGHT ?d0 ?d1 ?d2 ?d3 ?d4 ?d5 ?d6 ?d7 ?d8 ?d9 ?d10 ?d11 ?d12 ?d13 ?d14 ?d15 ?d16 ?d17 ?d18 ?d19 ?d20 ?d21 ?d22 ?d23 ?d24 ?d25 ?d26 ?d27 ?d28 ?d29 ?d30 ?d31 ?d32 ?d33 ?d34 ?d35 ?d36 ?d37 ?d38 ?d39 ?d40 ?d41 ?d42 ?d43 ?d44 ?d45 ?d46 ?d47 ?d48 ?d49 ?d50 ?d51 ?d52 ?d53 ?d54 ?d55 ?d56 ?d57 ?d58 ?d59 ?d60 ?d61 ?a62 ?l62 ?c62 ?k62 ?fn62 ?kp62 ?d63 ?d64 ?d65 ?d66 ?d67 ?d68 ?d69 ?d70 ?d71 ?z0 ?z1 ?z2 ?z3 ?z4 ?z5 ?z6 ?z7 ?z8 ?z9 ?z10 ?z11 ?z12 ?z13 ?z14 ?z15 ?z16 ?z17 ?z18
    (case t0=>kernel_rfl);(case t1=>kernel_rfl);(case t2=>kernel_rfl);(case u_EarlyError|u_NoPaper|u_NoBack|u_NoBounds|u_NoFraction|u_NoLines|u_NoLook|u_NoOrder|u_NoRow|u_NoRule|u_NoTrial|u_ONE|u_NOUGHT|u_LOOKS_ON|ty_EarlyError|cm_EarlyError|sb_EarlyError|t3|a62|l62|c62|k62|fn62|kp62|z0|z1|z2|z3|z4|z5|z6|z7|z8|z9|z10|z11|z12|z13|z14|z15|z16|z17|z18=>k_is);(case y1=>kit_is);(case y2=>kit_is);(case y3=>kit_is);(case d0|d1|d2|d3|d4|d5|d6|d7|d8|d9|d10|d11|d12|d13|d14|d15|d16|d17|d18|d19|d20|d21|d22|d23|d24|d25|d26|d27|d28|d29|d30|d31|d32|d33|d34|d35|d36|d37|d38|d39|d40|d41|d42|d43|d44|d45|d46|d47|d48|d49|d50|d51|d52|d53|d54|d55|d56|d57|d58|d59|d60|d61|d63|d64|d65|d66|d67|d68|d69|d70|d71=>refine' Kw.Dn.mk ?a ?l ?c ?k;(case a=>k_is);(case l=>k_is);(case c=>k_is);(case k=>k_is));(case o_ONE=>kernel_rfl);(case o_NOUGHT=>kernel_rfl)
