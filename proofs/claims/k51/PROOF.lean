import PyProof.Rows.All
import Wide.All
import OpenK.AllK
import Wide.FinOn
import Lean
import PyProof.EqAt
import PyProof.EqKinds
import PyProof.TupleCall
import KE.IntBitsLaws
import PyProof.ZipIter
import KE.KRevIter
import PyProof.ListMulRoad
import PyProof.AutoListH
import PyProof.Rows.SeqMore
import PyProof.Rows.SumAny
import PyProof.SliceStr2
import PyProof.WalksMore
import KE.KSortTup
import PyProof.AttrMissHeap
import PyProof.TupleIter
import KE.KDictOf
import PyProof.DictWalks
import PyProof.DictValues
import KE.KDictList
import PyProof.Rows.MinMaxN
import PyProof.Rows.TupDisplay
import PyProof.DictTruth
import PyProof.Rows.SortRev
import PyProof.Rows.CallKwBuiltin
import PyProof.ListRange
import PyProof.StationsW
import PyProof.Rows.CatchBare
import OpenK.KRaise
import KE.KIsAll
import OpenK.KOwn
import PyProof.ExcInit
import PyProof.StrBlockG
import PyProof.Rows.Digits
import PyProof.Rows.StrOr
import PyProof.StrCalls2
import PyProof.StrBlock2
import KE.KIntText
import KE.LcSums
import PyProof.EnumMake
import PyProof.Rows.StrJoin2
import KE.KEqDict
import PySem.Challenge.RW_earlystop_k51_other_right_papers
set_option Elab.async false
set_option compiler.extract_closed false
set_option linter.all false
set_option maxHeartbeats 0
set_option maxRecDepth 100000
set_option hygiene false
abbrev zs:=Lean.Syntax
def zn(k:Lean.Name)(a:Array zs):zs:=.node .none k a
def zm(k:String)(a:Array zs):zs:=zn (`Lean.Parser.Term++k.toName) a
def za(s:String):zs:=.atom .none s
def zT:Array String:=#["(aaX,H,H')","(aY5Q,s)","(asome(a.ref$0))","(a.ref,a)","(aY6,?_)","(aY26,Value)","(aY0K,_$0)","(asome,o)","(asome,x)","(ahZ,K$0$1$2f,fd)","(abM$0$1(abB$2))","(aiR,K,mg,c)","(agJ,X$0$1)","(aDn,K$0$1)","(aN$0(fF$1))","(aY1b,?_)","(ajJ,Yp)","(>An(>Hp(>VK(aY0Z,XK))))","(asome,v)","(as0,e)","(asome(a.int$0))","(aPE,X$0$1)","(asome(a.tup$0))","(aaL,_)","(aList,α)","(adX,?_)","(=$0false)","(abL,_)","(aList,dE)","(aY2S,_,rfl,_$0)","(aY6(aY3R$0))","(asome,u)","(aY3j(aList,fK)V)","(aYdh,F)","(aY2W,M)","(a.ref,C)","","","","","","","","","","","","","","","","","","","","","","","","","","","(aY0G,es$0)","(acT,f)","(aList,PySem.Str)","(aY3k,Al)","(aList,Expr)","(asome(a.lst$0))","(aY0e,1$0$1$2)","(aaX.refl,_)","(t$0$1?_)","(asome,c)","(>Str,Y8q)","(t$0?_)","(aY6(apJ$0rfl,?_))","(aeval$0X.env)","(adP,cN,P,w,K,mg,base$0$1$2$3)","(aY05,ys)","(aYt,?_)","(aaC,_$0)","(aY10$0H')","(asome,y)","(aYm,xs)","(aY5U,p,H)","(aY5P,_$0)","(ah'.get?,b)","(aY05,xs)","(aH',D)","(abN$0f)","(~$0sizeLine)","(>Nat,Rat)","(aList,Addr)","(>$0(aY0Z$1))","(arv,f)","(aY0O$0$1(aaA$2))","(abI,H$0$1)","(a.ref,p)","(a.ref,b)","(aY2g,1)","(anM,F,W,M,es)","(t_$0)","(aList,PyData)","(aArray,Nat)","(abP$0$1(aaA$2))","(abQ,F$0$1)","(=(aInt.gcd$0$1)1)","(Ab,o(>$0$1))","(afQ,I,q$0)","(t$0rfl$1)","(aaK(abR$0))","(ah.get?,b)","(^8,Y2H)","(abO$0(aaA$1)$2)","(asome(a.dT$0))","(adecide(=$0$1))","(aY2g,0)","(>Af,Rat)","(aeE,ws)","(to$0$1)","(awpAny(amodel,prog,w)A$0Q,E,s)","(aY4A$0_)","(acF,_)","(aY2F,i)","(>$0Prop)","(aQ(a.ref$0)$1)","(aOption,Addr)","(aif_pos,rfl)","(abX(:i,3)$0$1)","(aY0x(alK$0)$1)","(a.int,i)","(aY2g,2)","(abA,_,rfl)","(aaH,H$0$1)","(aYq(qx$0))","(aQ,v,H')","(trfl$0)","(aOption,Int)","(t$0$1rfl$2$3)","(aF.oky$0(fvs,H,Q,E,h,?_))","(aY2,p)","(aY0G,l$0)","(aaM$0aI)","(aY0C(aaD$0))","(t$0Oo)","(a.ref,l)","(aY2J,?_)","(aaH,H'$0$1)","(aY3X,a$0)","(>An(>Hp(aY0Z,VK)))","(asome,none)","(arT,4000$0)","(aY0i,D)","(aQ(a.bl$0)H)","(gys,i)","(aif_neg,q)","(aaS$0Y9x)","(aY1M,St)","(t_$0$1)","(aY0d,e)","(<c.sum,M)","(aY2G,H$0$1)","(aY0e,3$0$1$2)","(aY1d,_$0$1$2)","(acL,X$0σ$1$2)","(aH',b)","(awpAny_pure,?_)","(aList,Env)","(aI.tok,_)","(aY0P,kvs)","(=X.calm,true)","(arS$0(ad46,Oo))","(t$0rfl$1$2)","(>$0YaG)","(acS,cs)","(acS$0i)","(ansIn,K,mainGlobals$0)","(acL,X,pins,σ$0$1)","(asome,.local)","(aupd$0$1(a.lst$2))","(abX(:i,2)$0$1)","(amI$0s.heap$1$2)","(aeval$0env)","(aY9i$0(asome$1))","(aYaL,H')","(acZ.i(:n$0)$1Dd,Kk$2)","(t$0$1$2$3rfl$4$5$6)","(adJ,H,p,L$0)","(t_(aY0L$0)$1)","(aGl,X,x)","(aiL,n,p)","(a.ref,s.heap.objs.size)","(akT(aci$0))","(>$0(aY0Z,Shared))","(aYt(aY3R$0))","(aaW,aN$0aE)","(acS,mix)","(>$0Bool)","(aY2,a)","(gX.N,i)","(arW,X(acompareOp$0)$1)","(arX,F,W,C(aeE,G)$0)","(astarEach$0X.env)","(aaW,aN(aaA$0)aE)","(+s.heap.objs.size$0)","(afP$0(aY25$1))","(a.inr(t$0$1$2))","(-a.length$0)","(aY2S$0_$1$2)","(aY3j,fK,V)","(aY08$0?_)","(aFn(alF,M,Ns,Nm,Np,Nc)$0$1)","(aFn(anO,1$0)$1$2)","(anC,P,w,H,h)","(awpAny_bind(awpAny_pure$0))","(aY1h(aaA$0))","(acG(aY2V$0$1))","(aslots,σ,js)","(=xs.length$0)","(t$0$1$2rfl$3$4$5$6$7)","(AD,ys,H'(>$0$1))","(a.ref,x)","(auQ(atG,?_))","(amodel,prog,w)","(=c.length,F)","(aeI,v,u)","(%Yj,0)","(abI,H'$0v)","(gxs$0)","(abI$0(aeA$1)$2)","(-M,c.sum)","(aY2V(aaA$0)$1)","(aY2T,_,rfl,_,_,rfl$0)","(aY0x(amY$0bs,mix,cs)av)","(aY1M,V)","(aY6L,i)","(acta,F$0)","(amg_none_of,X,G$0)","(agW$0$1$2xs)","(aY2T,_,_,rfl,_,rfl$0)","(aY6C,_,_,rfl$0$1)","(t$0$1$2rfl$3)","(t$0$1$2rfl$3$4$5)","(aX.env.cells.lookup,x)","(aY4r$0$1aI)","(arise,F$0)","(aa.mono,Dd)","(=ys.length$0)","(aY0e,2$0$1$2)","(afV(aaA$0))","(aY6C,_,rfl$0(aY9s$1)$2)","(aY9m,b)","(aeO,PassesOwn.never,rfl$0(aY5R$1$2)(aaK$3))","(adecide(<$0$1))","(a.ref,e)","(aY2f,es)","(aY3j,κ,V)","(~c.sum$0)","(aY1O,bs)","(adY,n,lt$0$1)","(lY3)","(aY40,t)","(aY7V,n)","(adG,H1,H2)","(auE,xs$0)","(aY0x,d$0)","(aY7v,W$0)","(aY4A$0s)","(aList(x$0$1))","(aY3j,Str$0)","(astarEach$0env)","(aaX.upd(:o(a.tup$0))$1)","(agI(aeE$0))","(afL$0(aaA$1))","(a.inl(t$0$1))","(aaQ.mpr(aY5P$0$1))","(aList,Stmt)","(a.Tuple$0$1pt)","(aJD,Yp)","(aList,Rat)","(aY0L(aaA$0))","(aY7w$0(aaA$1)$2)","(adO$0us)","(aiT$0(aaA$1)(aaA$2)(aaA$3))","(aY0C,rfl)","(aY5V$0Y7)","(ak$0$1Y3T$2)","(aqD$0pins$1$2)","(afN$0$1(aaP$2$3))","(aiY,ok$0(amW,Dd))","(l(a.ref$0))","(atG,?_)","(aY7z,H)","(aFn,N,B,f)","(aGJ$0?_)","(aY2G,H'$0y)","(aY3o$00)","(aQ(a.int$0)H)","(fσ,H,Q(at,σ,H$0))","(aFH,X,scope,C,fp,s₀,H₀,N')","(aY2f(l$0))","(aeX$0rfl$1)","(aY3Q$0?_)","(aList.replicate,W$0)","(a.inl,rfl)","(aaH.cons$0aH.nil)","(awpAny_bind,?_)","(akL$0(a.builtin$1)$2)","(aupd,H$0$1)","(abX(:i,4)$0$1)","(asome,true)","(aY0x(atK,fs,ws)$0)","(<$0xs.length)","(arv,Y8t)","(aif_pos,q)","(a.bl,true)","(fd,?_)","(aY26,Unit)","(aHK$0scope$1$2$3$4$5$6$7)","(aY2,at_)","(akD(aaA$0))","(akF$0(alG$1))","(aY6C,_,rfl$0(aY0C(afY.of$1))$2)","(aY9q$0$1s)","(aX.mg,x)","(aY3l,es)","(aY3j,Fr,Nat)","(aYc$0ta)","(adD$0(ff$1))","(abB,st)","(aY9m,c)","(a.Name,y,py)","(aeI,y,u)","(aY2f(#e,es))","(adG,H,H')","(aY2G,H'$0v)","(aeJ,X,scope$0N',js)","(afY,K,H$0xs)","(aaM$0(aaM$1$2))","(aList.replicate,k$0)","(acongrArg,List.length$0)","(aI.hok.fresh(aaL$0))","(<$0s.heap.objs.size)","(%$0X.env.locals)","(aY0r,xs.length)","(arW$0(abinaryOp$1)$2)","(afindIn$0Yz$1)","(awpAny,_,_$0_,_$1)","(aValue.ref,a)","(apure,false)","(asome(aY9l$0))","(+X.A.units$0)","(-xs.length$0)","(aY0Z,Heap)","(=A.handled,none)","(=(aSeqAt.shaped$0)true)","(aList,fK)","(a.ref,it)","(aY2t,aE,aE)","(aY7L,YeV)","(aFn$01,f)","(a.ListComp,elt$0scope,pos)","(t$0iter,ifs$1)","(agI(aeE$0)$1$2)","(aeM$0(aaA$1)$2)","(abP(ajK$0)$1$2)","(aY6,Y93)","(asome,d)","(aY2S(a.bl$0)$1$2$3)","(aY3n,ws)","(aY6A$0$1(aY3p(agW.of$2)$3))","(>α,Rat)","(aY4N,iI)","(t$0rfl$1$2rfl$3)","(aY1Q,H'$0)","(aY8u$0xs)","(acP(acV$0hn))","(fσ2,H2(atb$0σ2,H2))","(ajL,kvs$0$1)","(aY2w$0rfl$1$2$3$4rfl$5)","(aY7e(a.str$0)$1)","(aY1q,f)","(aeA(aval,c))","(aY8N,k)","(ee,es)","(t$0$1$2$3rfl$4$5$6$7)","(ta$0$1)","(aiY$0$1Nat.one_le_two_pow)","(aY0G(aes.take$0)$1)","(abI$0$1(a.ref$2))","(adC,rfl,T.b_range(aY1h$0))","(=vs.length$0)","(afield(a.ref$0)$1)","(aaJ,Dd$0)","(aK.In,s.heap)","(asome,.cell)","(aOption,Nat)","(abX(:i,6)$0$1)","(aif_pos,Oo)","(=fs.length$0)","(aabsurd$0cH)","(aY9v$0aE)","(fz,?_)","(aval(abN$0$1))","(aY0F$0(aaA$1)$2)","(agY(akN$0)(aaA$1)$2$3)","(agI(aeE$0)$1)","(asome,g)","(a.int,n)","(aY2,aa)","(aYaM,px)","(aY1i,Oo)","(alU(:i$0)$1rfl(aOr.inr,rfl)$2)","(aiS$0X.A)","(aY6(alL,?_))","(aY0u,Hp$0)","(e$0Yy)","(awpAny,M$0$1$2$3$4)","(aaX,H',H5)","(aFn(anO,1,Nc)$0(agM$1))","(t$0rfl,Oo,Oo$1)","(tv$0$1)","(lY0y)","(alF$0Ns$1Np,Nc)","(t$0$1rfl)","(aY1Q,H$0)","(acQ(:i$0)$1rfl(aOr.inl,rfl))","(ans.map,V.int)","(ap.getD$00)","(aaT$0$1H')","(=(ah'.get?$0)$1)","(f_,_,q,q)","(+xs.length$0)","(aUK$0(:c$1)$2Oo$3)","(~xs.length$0)","(~$0xs.length)","(aQR$0(:c(aci$1))$2$3$4)","(abX(:i,5)$0$1)","(axA$0$1$2(a.type$3))","(aYbW$0$1$2$3pos)","(aY7n$0Y7o,Y7o)","(aY0h(aY0h$0))","(aY3j$0Value)","(=$0xs.length)","(auQ,Yp)","(aif_neg,e)","(fe,?_)","(aY3k,Addr)","(aaP$0Y9x)","(aY9i$0none)","(afE(al.take$0)(aDU$1$2(aY3n$3)$4))","(alt(aY5T$0)(aY5T$1))","(aY0x(agX$0)$1)","(aYbX$0$1$2(aY8y$3$4$5$6))","(a.str,wd)","(aY1b,rfl)","(aYaM,pos)","(aI.pin,p$0)","(aYg2$0Y1R)","(akH$0(apQ$1))","(aaM(aaA$0)$1)","(adD$0(fv$1))","(aYm,ys)","(aY3x,xs)","(aYa0,vs)","(aY0I,Y32$0)","(fh(aabsurd$0Oo))","(abP,eB(aaA$0)aE)","(awpAny_bind(awpAny_field$0rfl(:x$1)rfl,?_))","(f_,_,_,_,dL)","(fc(aPyData.tuple$0))","(t$0$1rfl$2)","(aVT(:d$0)(:d'$1)$2$3$4$5?_)","(t$0$1$2rfl$3$4)","(a.Assign$0$1pos)","(acG(aY1h$0))","(afZ.i$0(agD.of$1)$2$3$4$5$6)","(~ns.length$0)","(aY2G$0$1(a.ref$2))","(=(aX.env.kindOf$0)$1)","(adC,rfl,T.b_range(aY2s$0))","(amodel,X.prog,X.w)","(aPv$0σ,H)","(aY08$0(aY0L$1))","(asome(alO$0$1$2))","(aeP$0$1T.b_len$2(aY9A$3))","(a.inr(t$0$1))","(ad.getD$00)","(aY7t,.And$0)","(aaW,aN(aaA$0)(aaA$1))","(aY0x(aGI$0)$1)","(avput,val$0$1)","(abP$0$1(aY5s$2))","(ajG$0T.g_NoPaper$1$2$3(aY2V$4$5))","(a.type,T)","(acB.mp,a)","(aY4c$0(aEP$1pins$2$3))","(aI.hok$0_$1)","(aPaired(fc,y$0)$1ys)","(aList,V)","(asome,i)","(asome,w)","(asome,n)","(aJ.yld,i$0$1$2)","(aY05,zs)","(aY7m,items.size,hi)","(aY1O,ps)","(aY2l,_,rfl,?_)","(a.int$0t)","(Em(aW$0$1$2$3))","(aJ.go,i$0)","(a.tuple(l$0$1))","(aYl$0ta)","(aiY,sH$0(amW,Dd))","(aY9V,es$0)","(aY06$0a01,cZ)","(aaW(agU,K)(aaA$0)aE)","(aInt.mul_ediv_cancel_left$0Oo)","(awpAny_bind(awpAny_seqItems$0$1$2))","(akI,items.size$0$1)","(aY9j$0$1$2aH.nil)","(abI.int,_)","(awpAny(amodel,X.prog,X.w)$0$1$2$3$4)","(awpAny_bind(awpAny_mono$0$1$2))","(afH(adZ.o$0$1)$2Y6y(f_,_,_,_$3))","(aY7p,X.A$0$1$2$3)","(a.BoolOp$0$1pos)","(aY1S$0s.heap.objs.size$1)","(adD$0(fi$1))","(aY4r(aaA$0)$1$2)","(=(ascope.names.lookup$0)$1)","(abootBuiltins,x)","(aD.nx,σ$0)","(aYq(q$0sysModules))","(a.Subscript$0$1pos)","(adF(:g(f_$0))$1)","(aaH.ofRange,Oo$0)","(aaH.flat$0(aiO$1)$2)","(afrs,X.stack)","(asome(a.own$0))","(aY18(afs.map$0)$1)","(aif_neg(fq$0))","(aY6(aeX$0$1?_))","(~fs.length$0)","(p$0Y2u)","(aif_neg,Dd)","(aSem,Value)","(aes.take,i)","(e$0(aes.map$1))","(agL(afR,Yr$0)Yr$1)","(~$0100000)","(aQn.f$0(arS$1$2))","(aif_neg,h)","(ah.get?,a)","(adJ,H',p,L$0)","(afoldedSetIterable,iter,X.env$0)","(aaK(aY92$0$1))","(aFO$0val)","(aY2G,H'(agM$0)$1)","(aiC,hr.u1(aaA$0)(aaA$1))","(aY7J$0(acU$1))","(aY2Z$0a02(aeY$1))","(aYc(aY64$0$1$2$3)$4)","(alvl$0best$1)","(agS(arL,PySem.F.plainAttrs_list,PySem.F.slot_list_append,PySem.F.type_list_append$0(aaA$1)(aY1h$2)))","(aY2a,Nat)","(fz(aq$0))","(aY2i,kvs$0)","(aY6A$0Y17,rfl)","(+A.units$0)","(aY06$0a08$1)","(aY2Z$0a00$1)","(anC,X.prog,X.w$0$1)","(t$0Dd)","(asome,e)","(asome,j)","(asome,f)","(aX.fn,x)","(apure,x)","(aY3x,vs)","(a.Name,x1,p1)","(a.Name,x2,p2)","(aKV,kvs,vs)","(t$0$1$2q)","(aKW$0$1iter$2)","(aOption,Value)","(awpAny_bind(awpAny_bind$0))","(~X.s₀.heap.objs.size$0)","(aval,Yx)","(asome(axZ$0$1))","(fj,σ,H',_,q,?_)","(asc.names.lookup,x)","(f_,_,_,_,_,h,h)","(aY1h(aY7r$0$1$2$3))","(f_,_,_,False)","(acU(:j,0)$0)","(acall(a.builtin$0)$1)","(as.TypeIs(a.ref$0)$1)","(aList(aOption$0))","(awpAny_callSpecial?_slot(:name(aStr.ofString$0))$1$2(awpAny_call_entry$3$4$5$6$7))","(agC(fi,σ,H'$0)$1$2$3)","(a.Constant$0$1pos)","(asome(aseqObj$0$1$2))","(fi,j(a.int$0))","(aY18(acs.map$0)$1)","(aArray,Y8q)","(aaH.flat$0(aiH$1)$2)","(alA(fi,y,H'$0)$1$2$3$4)","(afP,kvs$0)","(~kvs.length$0)","(asome(a.frz$0$1))","(aI.ok.hd,hc)","(a.fields,vs)","(aY26,Result)","(aY3X$0(a.tup$1))","(abX(:i,1)$0$1)","(aList,Bool)","(aif_neg,Oo)","(flt,?_)","(a.Compare,a$0$1$2)","(al.extBut,_$0$1$2)","(=us.length$0)","(=ps.length$0)","(afG$0(aaK$1)dB)","(alD,?_)","(aIsEnum$0$1$2$3old)","(aY6z(ac.map,.int))","(apR(fon,?_)(fon,?_))","(abP$0Y0R,Y0A)","(aeP,gO$0T.b_len,Kk(aY2s$1))","(aI.cell$0c$1)","(asome,pv)","(agW.of,h)","(>Y1c(>Hp(aY0Z,VK)))","(aUn$0$1$2$3s.heap$4)","(>$0PyData)","(acY$0this)","(aY0u,Nat$0)","(aeQ.i$0$1?_)","(=(as.heap.get?$0)$1)","(abI.tup$0(aYbV$1$2$3))","(aenvOfC$0$1s.heap.objs.size$2$3)","(asome(a.builtin$0))","(aY9i$0Y7)","(aPySem.W.kia_one$0I.kIn$1$2$3$4)","(awpAny_bind(awpAny_setField_rec$0$1$2))","(awpAny_bind(awpAny_attempt$0))","(aY7s$0$1X.xe$2)","(ad46(:Np$0)(:Nc$1)(:a$2)Dd)","(aY0C(agW.of$0))","(awpAny_bind(awpAny_rule$0))","(awpAny_passesOwn$0(athn$1$2))","(aY0O,FQ5$0$1)","(aI.turned(:t',s.toks)$0$1$2$3$4$5)","(aY5k,Dd)","(awpAny_mono$0$1(f_,_,f$2))","(aHeap.SameBut$0s.heap$1)","(aY1h(aY2g$0))","(asome(a.dK$0))","(~$01000000000000000)","(afA(:c$0)(:j$1)Oo)","(aaX.upd(:o(a.dT$0))$1)","(aLoc,X.env.scope$0)","(aes.Pairwise,JR)","(aY5i,ps.length)","(aOption(xAddr,Value))","(aA.deeper(aY9k$0$1$2$3))","(acodeAny$0$1(a.call$2$3)$4$5)","(t$0(fx,H3,y$1))","(aFalse.elim,c)","(aS.cells,I.ok)","(aiL,vs.length$0)","(agZ.i(afY.of$0)$1)","(atypeIs_int$0$1t)","(aInstAt,s.heap$0$1$2$3)","(abs.map,V.bl)","(ad.map,V.int)","(a.inl(a.inl$0))","(afE$0(fe$1))","(anE$0(ahr.mono$1)$2)","(aY7n$0(abI.str$1)$2)","(=(as1.heap.get?$0)$1)","(aqH(:v$0)rfl$1$2)","(aY18,ds$0)","(a.bool,true)","(a.Tuple,elts$0$1)","(asome(aY2$0))","(aLooks,Y2A$0$1$2)","(agD.of(acO$0))","(a.cons$0.nil)","(aY25,Yx)","(aix.map(fi$0))","(f_,q,q)","(aeY.i(agD.of$0)$1$2$3$4$5$6)","(aiN.i(agD.of$0)(agD.of$1)$2$3$4)","(&(Aσ',H'$0)(Ax,H'$1))","(=cs.length$0)","(aInt.gcd$0d)","(acs.getD,i$0)","(abI.tup$0?_)","(aQn.zero,_$0)","(asome(aKM$0$1))","(Ai,y,H1,H2(>$0$1))","(aAn3$0Y0$1)","(akU$0(asO.of$1)$2$3)","(aY0L(aY2t$0$1))","(aif_pos,h)","(aif_pos,e)","(aFL,vs.length(aIN,cs))","(aBD(aIN,cs)$0vs.length)","(al.take,i)","(aY5h(aY98$0$1))","(aY1M,Bool)","(acT(aval$0))","(aaH.snoc$0(abI.flat$1Y0X$2))","(aY1x$0(fv,q$1))","(a.cons$0ih)","(astart$0vs)","(ar.set$0tg)","(=(akvs.any$0)$1)","(f_,0)","(aY3j(aList,fK)(xAddr,Value))","(aY26,Y8q)","(aY9B,kvs)","(aY18$0xs)","(aY0Z,Hp)","(aHeap.get?_update_self$0$1(aObj.isFreed_of_fields$2))","(aBuiltin.SmallTypes.nextOf(a.ref$0))","(aPyProof.Rows.callWith_type1(athn$0$1)$2$3)","(aList.getElem?_set_ne(aNe.symm$0))","(aQ(a.bl,true)$0)","(a.Name,x$0)","(awpAny_bind(awpAny_holding$0))","(awpAny_bind(awpAny_standAt$0))","(aI1.fpOk$0(aI1.hok.fresh$1))","(aY10,s.heap.objs.size$0)","(fb,o,e(aaC$0$1))","(fi,σ,H',_,p,?_)","(aF.oky$0(fC,H,Q,E,h$1))","(%$0s.heap.objs.size)","(avs.getD$0Value.none)","(aattributeBase$0$1X.env$2)","(aA.under(a.builtin$0$1))","(acZ.i(:n$0)$1$2(abitsle$3)$4)","(asS(:v$0)(:u(a.type$1))$2$3$4$5)","(f_,_,a,a.elim)","(f_,_,e,e)","(aList.replicate,M$0)","(aAllBare,s'.gens)","(aI.tuple(afY.of$0))","(aeP$0$1T.b_isinstance$2$3)","(a.ref,c_NoPaper)","(aHT.kI,xs.length$0$1)","(aMeets$0(f_,R,s$1))","(aPySem.W.subIn,K$0$1)","(aHeap.SameBut,e$0$1)","(abX(:i$0)vX.nd$1)","(aIsZip$0$1$2$3.ellipsis)","(amin,xs.length,ys.length)","(aY08(fi,m,σ,H$0)$1)","(aI.base.there,b$0$1$2)","(agW.of(ab'.at$0$1))","(aY3k,NameKind)","(akvs.map(fkv$0))","(arsT(:ns$0)$1?_)","(fl,hl,?_)","(a.UnaryOp$0$1pos)","(aYm(ak.map$0))","(<$0sizeLine)","(aB.getD$0.non)","(aK,w.params)","(aaU.mpr,rfl)","(aIntsAre$0ns)","(aYeW$0(asome$1)pos.line)","(aif_pos,Dd)","(aps.zip,us)","(aX.suite,a)","(aY3k,Value)","(a.Tuple$0$1pt2)","(abX(:i,7)$0$1)","(aYbV$0$1aH.nil)","(aY0V(apyNext(a.ref$0)))","(=bs.length$0)","(a.str,name$0)","(fd(arv(aval$0)))","(ajQ,YdM)","(aBindsTo$0fd$1$2)","(aiP.i(agD.of$0)$1$2$3$4$5$6)","(aY0O$0$1Y16)","(aY0x(aY7Y$0)$1)","(aY3X$0(a.dT$1))","(aY7J$0(aY8A$1))","(afG(auJ(auH(alE(afO$0))(aqF$1)))(aY0L,jP)dB)","(aYaM,pos')","(aPaired$0as$1)","(aI.freeC$0c$1)","(fσ,H,Q(ata$0$1(fx,H1$2)))","(aY3a(fr$0)$1)","(t$0(fh$1))","(a.dict,es$0)","(aHV$0scope)","(aok.low,_$0)","(aaH.cons$0(aaH.cons$1$2))","(a.Call(a.Name$0$1)$2$3$4)","(ajO$0$1T.b_tuple$2$3)","(aInt.pos_of_mul_pos_right,this$0)","(abootBuiltins(aStr.ofString$0))","(aList.toArray(ap.toList.map$0))","(a.ok(a.ret$0))","(aNat.le_mul_of_pos_left,WB$0)","(aY6(awpAny_pure$0))","(aI.laid(:t',s.toks)(:o$0)$1$2$3)","(aPySem.W.keepIn$0(a.ref$1))","(acl,s3.heap.objs.size)","(as.heap.IsTupleIter,it$0$1)","(awpAny_loadPart_at$0?_)","(aY3X,s.heap.objs.size$0)","(ac.map,V.int)","(AC,fp,s₀,H₀(agJ$0$1$2))","(AC,fp,s₀,H₀(aKS$0$1$2))","(aget?_update_seq$0(f_$1))","(qX.env.scope.kind$0)","(abase.Ns,mainGlobals$0)","(aInt.gcd_dvd_right$0d)","(aF.oky$0(fG,H,Q,E,h$1))","(aNat.le_add_right,_$0)","(asome(aValue.type$0))","(asX(:xs$0)(fi,σ,H'$1)$2$3$4$5)","(aI1.kept(:t'$0)(aYaR$1$2))","(aNat.one_le_pow$0$1Dd)","(aYq(abehindInMarks$0$1))","(aArray,DictEntry)","(aVis,X.env.scope$0)","(fj,σ,H'(aEx4$0))","(=(aX.env.cells.lookup$0)$1)","(a.Call(a.Attribute$0$1$2)$3$4$5)","(aHeap.MadeExcOf$0h'$1$2$3)","(aY0r,kvs.length)","(awpAny_pure(aYc3$0))","(aPassesOwn,Y6K$0$1$2)","(arise,fs.length$0)","(aX.base.get?,b)","(f_,_,False)","(atupleKind(afX$0$1))","(fb,z(aabsurd$0$1))","(f_,_,q(aY0h$0))","(aι.getD,c.sum$0)","(apO(:v',val)$0)","(=(aenv.cells.lookup$0)$1)","(aoU,c.NoPaper)","(aσ.set$0Yi)","(a.done(a.ret$0))","(aassign$0X.env)","(aPJ,xs.length$0)","(aPyData.eqv,d$0)","(afs.lookup,f)","(aY9n$0True.intro$1$2$3)","(aY0x(a.tuple$0)$1)","(arN(afs.zip$0))","(asome,Yi)","(fz(aabsurd$0$1))","(aIsTup,s.heap$0$1)","(aIsTup.new$0_)","(fi,j(a.bl$0))","(aX.tryW,pins$0)","(=(as₁.heap.get?$0)$1)","(a.ref,c.ONE)","(aI.base.free,b$0$1$2$3)","(aK.lookup,a)","(f_,true)","(f_,none)","(acall(a.ref$0)$1)","(aYm,Yca)","(aY6E,Y4L)","(aY28,Y16)","(aI.base.keep,b$0$1$2$3$4)","(aI.base.slot$0o$1$2$3$4)","(aif_pos,h2)","(aif_pos,lt)","(aif_neg,h2)","(ah1.get?,b)","(f_,rfl)","(acs.map,gX)","(abs.any,id)","(aput(akeep$0$1))","(aaX.thru,hp$0$1)","(aList.replicate$00)","(aHeap.get?_update_other,_$0$1)","(aX.s₀.heap.get?,s.heap.objs.size)","(awpAny_typeNameOfWhole_keyiter$0?_)","(aList.getElem?_set_self,Oo)","(avs.toArray.zip,vs.toArray)","(aList.toArray(aList.range$0))","(awpAny_bind(awpAny_setField$0$1$2$3))","(awpAny_bind(awpAny_letGo$0))","(awpAny_isOneOf_keyiter$0?_)","(awpAny_pure(awpAny_pure$0))","(aFn.of(:n$0)(:d$1)(:B$2)Dd$3)","(aNat.pow_lt_pow_right,Dd$0)","(a.ref,c.heap.objs.size)","(atupleKind_room_in1,hu)","(aAround.under_plainId$0_)","(awpAny_bind(awpAny_field$0$1$2$3))","(awpAny_bind(:m(aBuiltin.Tuple.tupleExact$0))(awpAny_newObj_type$1$2))","(as.heap.FunFrames,base$0)","(aY4u,s.heap.objs.size)","(aPySem.W.kitOne$0(a.type$1)$2)","(aI.write(:x$0)(:e$1)$2Y3T$3$4$5)","(adJ.like(:p$0)(:L$1)(fi$2))","(amK$0$1$2Nat.one_le_two_pow)","(fb,o,e,n,L,hx,?_)","(f_,_,x,x)","(aswapsWithSole$0$1pos.line$2)","(awpAny_newObj_type,?_$0)","(as.heap.IsSliceOf$0$1$2.none)","(aCode.quiet_builtin,_$0)","(aIntMulOk.of_left,Kk)","(afs.take,i)","(aiJ.set,T.st_NoPaper)","(aY8r(awpAny_onRaise$0))","(aYG(f_,_,_,_,_,_,_,q$0))","(fi,σ,H',_,q,?_)","(ascope.names.all(fy$0))","(%s.heap.objs.size$0)","(awpAny_execs_nil(t$0$1$2$3))","(aswappedStores$0$1X.env)","(ans.map,PyData.int)","(awpAny_loadPart',c)","(acodeAny_builtin$0?_)","(aInt.ediv_nonneg$0Oo)","(aiJ.no,T.st_NoPaper$0)","(ayJ(:n$0)(:g$1)(fi,a$2))","(~s.heap.objs.size$0)","(awpAny_holding,?_)","(aHeap.ExtBut$0s.heap$1)","(aHeap.get?_push_ne,_$0$1$2)","(aInt.emod_nonneg,_$0)","(aRat.not_lt.mp(fq$0))","(aOption,NameKind)","(+c.heap.objs.size$0)","(*1000000000000000,1000000000000000)","(aList.replicate,A$0)","(ah.Ns,mainGlobals$0)","(aY0r,rest.length)","(f_,_,_,_(aY0w$0$1$2))","(aw.toList.map(fi$0))","(=(aX.s₀.heap.get?$0)$1)","(aPySem.Within,mA$0)","(aPySem.W.findIn,K$0$1)","(aPySem.W.codeIn,K$0$1)","(asubscripted$0false$1$2)","(aY47$0$1$2s3.heap.objs.size$3$4$5$6)","(aYbn,kvs.length)","(a.Subscript$0$1pos')","(fx,H',y,?_)","(abS(:m,100000)$0$1)","(aNat.mul_comm$08)","(aY0r,ys.length)","(aY71$0(aas.filter$1))","(aY5X,zs.length)","(aY6L,xs.length)","(aY7R,as.length)","(qapos.endLine,cpos.line)","(acodeAny$0$1(a.builtin$2$3)$4$5)","(aaH.cons,Y7o$0)","(ah2.flat$0Y0X)","(fi,H(Exs,x$0))","(q$0items.size)","(awpAny_mono$0$1Yb1)","(awpAny_mono$0$1YdG)","(aHT.kI,d.length$0$1)","(fy,a,e,?_)","(acs.getD,c.sum$0)","(abX(:i$0)vY.nd$1)","(az.sameBut$0(acne$1$2$3))","(awpAny_bind(ayN$0$1$2$3))","(aO.flat$0Y0X)","(aYdi$0(aNe.symm$1))","(e$0scope.names)","(aOption,Expr)","(acongrArg,not$0)","(f_,false)","(amin$0d.length)","(atX,hr.units)","(aYaF(aas.map$0))","(asome(a.tbl$0))","(aYm(ac.map$0))","(aY1m(ags.map$0)$1)","(avs.map,some)","(aswapsWith$0$1$2X.env)","(aBuiltin.SmallTypes.ownedTupleIsFree(a.ref$0))","(awpAny_isInstance(:T$0)(:b$1)$2isSubtype_stop$3)","(aInt.ediv_nonneg$0(aInt.natCast_nonneg$1))","(awpAny_bind(awpAny_updateSeq_pair$0$1))","(aPySem.W.callWith_K(:h₀$0)I.ok.mod.kin$1$2$3$4)","(aHeap.get?_none_of_le,Yn)","(aList.of_mem_zip(:a$0)(:b$1)d)","(aList.eq_of_mem_replicate,G)","(aList.eq_of_mem_replicate,J)","(aCalls.Name_function_global$0hg$1$2)","(aPySem.F.args_tuple_add_2,_$0)","(awpAny_bind(awpAny_newList$0$1))","(awpAny_bind(awpAny_typeOf$0$1))","(awpAny_call(acodeAny_mono$0$1))","(aNat.le_mul_of_pos_left,_$0)","(arL,PySem.F.plainAttrs_list,PySem.F.slot_list_extend,PySem.F.type_list_extend$0$1$2)","(acK(aNat.lt_succ_of_lt$0))","(as.heap.FunFrames,X.base$0)","(acall_meets$0$1$2(aF.args_tuple_mul_2$3$4)$5$6)","(asome,s.heap.objs.size)","(aI.mod.glob.keeps,I.bk)","(awpAny_bind(awpAny_load$0$1))","(arV.some_of(:v,v)(:o$0)$1)","(aInt.emod_nonneg$0(:b$1)Oo)","(fx,y,H1,H2,s,r(ar.flat$0$1))","(awpAny_bind(aseqEpoch_at$0$1$2))","(acall_meets$0$1$2(aF.args_int_rmul_2$3$4)$5$6)","(aI.turnedL(:t',s.toks)$0$1)","(aObj.data_mapFields,hd$0)","(aix.Perm(aList.range$0))","(aYq(aPyData.hasDictAll$0))","(aI1.hok.fresh,Yn)","(aaCT$0$1$2$3(fv,u,g,x,y,H2,I2,d,e,q$4))","(aInt.emod_lt_of_pos,_$0)","(aY5V,s.heap.objs.size$0)","(awpAny_dictEntries,hod$0$1)","(aPyData.depthAll,ds)","(aList.nodup_append.mpr(t$0$1$2))","(aList.drop_sublist$0_)","(ajT$0(fq7,H7,hq7,e7,s7$1))","(aNat.ne_of_gt(aaY$0))","(aI1.laid(:t'$0)$1Yn$2)","(awpAny_Call_Name_kw(avO$0$1$2$3$4))","(AC,fp,s₀,H₀(aPE$0$1$2))","(AC,fp,s₀,H₀(aZP$0$1$2))","(aInt.gcd_dvd_left$0d)","(ff,vs(aPySem.call$0$1))","(awpAny_dictEpoch,hod$0$1)","(aI.type(:M,Y2A))","(fM,H,Q,E,h,?_)","(aF.oky$0(fn,H,Q,E,h$1))","(ajT$0(fq3,H3,hq3,e3,s3$1))","(+s1.heap.objs.size$0)","(atypeLookup,Yz$0)","(aInt.mul_pos,m.pos$0)","(aNat.pow_dvd_pow,_$0)","(q(ascope.names.lookup$0)$1)","(asome,Value.none)","(aAllBare,s2.gens)","(aO.first',f1(:l2$0)$1)","(a.tuple(afs.map$0))","(asI(:n$0)(:d,d))","(aArray,GenState)","(aNat.ne_of_gt,M)","(as.heap.push(aVW$0$1))","(aseqObj$0vs.toArray$1)","(akG(aInt.mul_pos$0$1))","(=(aX.env.scope.names.lookup$0)$1)"]
def zK:List (Char × String × String):=[('x',"«term_×_»","×"),('>',"Lean.Parser.Term.arrow","->"),('=',"«term_=_»","="),('|',"«term_∨_»","\\/"),('&',"«term_∧_»","/\\"),('q',"«term_==_»","=="),('p',"«term_++_»","++"),('%',"«term_≠_»","≠"),('<',"«term_<_»","<"),('~',"«term_≤_»","<="),('e',"«term_∈_»","∈"),('#',"«term_::_»","::"),('+',"«term_+_»","+"),('*',"«term_*_»","*"),('-',"«term_-_»","-"),('^',"«term_^_»","^"),('/',"«term_/_»","/")]
def zW(c:Char):Bool:=c.isAlphanum||c.val>127||"_.'!?".contains c
def zI(s:String):zs:=if s=="_" then zm "hole" #[za "_"] else if s=="?_" then zm "syntheticHole" #[za "?",za "_"] else if s=="Prop" then zm "prop" #[za s] else if s.front=='.' then zm "dotIdent" #[za ".",Lean.mkIdent (s.drop 1).toString.toName] else if s.front.isDigit then Lean.Syntax.mkNumLit s else Lean.mkIdent s.toName
def zS(x:Array zs):zs:=zn `null ((x.foldl (fun a y=>(a.push y).push (za ",")) #[]).pop)
def zB(o:Char)(b:Array zs):zs:=
 let l:=zn `null b.pop
 match o with
 |'a'=>zm "app" #[b[0]!,zn `null (b.extract 1 b.size)]
 |'t'=>zm "anonymousCtor" #[za "⟨",zS b,za "⟩"]
 |'l'=>zn `«term[_]» #[za "[",zS b,za "]"]
 |'g'=>zn `«term__[_]_?» #[b[0]!,zn `group #[],za "[",b[1]!,za "]",zn `group #[],za "?"]
 |':'=>zm "namedArgument" #[za "(",b[0]!,za ":=",b[1]!,za ")"]
 |'f'=>zm "fun" #[za "fun",zm "basicFun" #[l,zn `null #[],za "=>",b.back!]]
 |'A'=>zm "forall" #[za "∀",l,zn `null #[],za ",",b.back!]
 |'E'=>zn `«term∃_,_» #[za "∃",zn `Lean.explicitBinders #[zn `Lean.unbracketedExplicitBinders #[zn `null (b.pop.map fun x=>zn `Lean.binderIdent #[x]),zn `null #[]]],za ",",b.back!]
 |_=>match zK.find? (·.1==o) with
 |some (_,k,s)=>zn k.toName #[b[0]!,za s,b[1]!]
 |none=>.missing
def zL(x:Array zs):Nat->List Char->Array zs->Array zs × List Char
|0,r,a=>(a,r)
|_,[],a=>(a,[])
|n+1,c::r,a=>
 if c==')' then(a,r)
 else if c==',' then zL x n r a
 else if c=='$' then zL x n r.tail (a.push (x[r.head!.toNat-48]!))
 else if c=='(' then
  let (b,q):=zL x n r.tail #[]
  zL x n q (a.push (zB r.head! b))
 else
  let w:=(c::r).takeWhile zW
  zL x n ((c::r).drop w.length) (a.push (zI (String.ofList w)))
def zX(f:zs)(x:Array zs):Lean.MacroM zs:=
 let s:=f.getId.toString.toList
 let d:=fun c:Char=>if c.isDigit then c.toNat-48 else if c.isLower then c.toNat-87 else c.toNat-29
 let i:=match s with |['Y',a]=>d a |['Y',a,b]=>62+62*d a+d b |_=>99999
 if i<zT.size&&zT[i]!!="" then return (zL x 999 zT[i]!.toList #[]).1[0]! else Lean.Macro.throwUnsupported
local macro_rules
|`($f:ident $x*)=>zX f x
|`($f:ident)=>zX f #[]
set_option hygiene true
def Oo{p:Prop}(h:p:=by first|lia|omega):p:=h
def Dd{p:Prop}(h:p:=by decide):p:=h
def Kk{p:Prop}(h:p:=by decide +kernel):p:=h
abbrev Aa:=PySem.W.Frag
abbrev Ab:=List (List Nat)
abbrev Ac:=List (List Int)
abbrev Ae:=Y3j PySem.Addr PySem.Obj
abbrev Af:=List Nat
abbrev Ag:=List Int
abbrev Ah:=List PySem.Value
abbrev Ai:=Y02
abbrev Aj:=Array PySem.Value
namespace PySem
abbrev aB:=@List.length_map
abbrev aC:=@Heap.get?_push_of_some
abbrev aD:=@List.getElem?_eq_getElem
abbrev aF:=@List.mem_of_getElem?
abbrev aJ:=@Nat.pow_le_pow_right
abbrev aL:=@Nat.le_refl
abbrev aO:=@List.getElem?_eq_some_iff
abbrev aP:=@Nat.le_trans
abbrev aQ:=@List.mem_map
abbrev aR:=@List.getElem?_map
abbrev aS:=@Nat.lt_of_lt_of_le
abbrev aU:=@List.mem_singleton
abbrev aV:=@List.mem_cons_self
abbrev aY:=@Heap.lt_size
abbrev aZ:=@List.mem_cons_of_mem
abbrev bA:=@Heap.get?_push_size
abbrev bC:=@List.length_range
abbrev bD:=@List.mem_cons
abbrev bE:=@List.size_toArray
abbrev bF:=@List.length_append
abbrev bG:=@List.map_append
abbrev bH:=@List.getD_eq_getElem?_getD
abbrev bJ:=@List.map_cons
abbrev bS:=@Nat.lt_of_le_of_lt
abbrev bT:=@Nat.mul_le_mul_right
abbrev bU:=@Classical.byContradiction
abbrev bV:=@decide_eq_true
abbrev bY:=@List.mem_append
abbrev bZ:=@List.mem_append_right
abbrev cA:=@List.length_replicate
abbrev cB:=@List.mem_range
abbrev cD:=@List.mem_append_left
abbrev cE:=@List.length_cons
abbrev cH:=@Bool.false_ne_true
abbrev cI:=@decide_eq_false
abbrev cJ:=@Bool.and_eq_true
abbrev cK:=@Nat.ne_of_lt
abbrev cM:=@List.take_length
abbrev cW:=@List.length_take
abbrev cX:=@List.getElem?_range
abbrev cY:=@Nat.lt_irrefl
abbrev dH:=@Nat.zero_le
abbrev fD:=@List.map_congr_left
abbrev fF:=@List.getElem?_eq_none
abbrev fU:=@Rat.mul_nonneg
abbrev gP:=@Heap.get?_update_ne
abbrev gR:=@Option.some.inj
abbrev hV:=@Int.natAbs_mul
abbrev iK:=@List.mem_filter
abbrev jA:=@List.mem_iff_getElem?
abbrev jM:=@List.take_add_one
abbrev jX:=@beq_iff_eq
abbrev kR:=@Nat.mul_pos
abbrev mJ:=@Heap.size_push
end PySem
open PySem
namespace L2
open PySem PySem.Spec PyProof.Rows
abbrev fK:=Sum Int Str
def CB:fK->Y2a Value
 | .inl k,v=>Value.isInt k v
 | .inr x,v=>Value.isStrOf x v
def aFO(w:World):fK->Int
 | .inl k=>hashInt k
 | .inr x=>hashStr w x
def iG:∀{k:fK}{v:Value},CB k v=true->(∃i t,k=Sum.inl i/\v=Value.int i t)\/(∃x t,k=Sum.inr x/\v=Value.str x t)
 | .inl i,v,h=>by
  obtain⟨t,e⟩:=Value.isInt_shape (k:=i) (v:=v) h;exact .inl ⟨i,t,rfl,e⟩
 | .inr x,v,h=>by
  obtain⟨t,e⟩:=Value.isStrOf_shape (x:=x) (v:=v) h;exact .inr ⟨x,t,rfl,e⟩
def PH(i:Int)(t:Tok):CB (.inl i) (Y7b i)=true:=by simp[CB,Value.isInt]
def PF(x:Str)(t:Tok):CB (.inr x) (.str x t)=true:=by simp[CB,Value.isStrOf]
def aCz(a b:Int):Y0Q (Sum.inl a:fK) (Sum.inl b)=(a == b):=by
 by_cases e:a=b
 ·subst e;simp
 ·have h:¬(Sum.inl a:fK)=Sum.inl b:=λq=>e (Sum.inl.inj q);rw[cI h];exact(beq_eq_false_iff_ne.mpr e).symm
def aCw(a b:Str):Y0Q (Sum.inr a:fK) (Sum.inr b)=Y0Q a b:=by
 by_cases e:a=b
 ·subst e;simp
 ·have h:¬(Sum.inr a:fK)=Sum.inr b:=λq=>e (Sum.inr.inj q);rw[cI h,cI e]
def aCy(a:Int)(b:Str):Yq (Y0Q (Sum.inl a:fK) (Sum.inr b)):=cI (λq=>nomatch q)
def aCx(a:Str)(b:Int):Yq (Y0Q (Sum.inr a:fK) (Sum.inl b)):=cI (λq=>nomatch q)
def fX(prog:Program)(w:World):PySem.KeyKind prog w fK where
 is:=CB
 hash:=aFO w
 inj:=λv a b ha hb=>by
  rcases iG ha with⟨i,t,rfl,rfl⟩ | ⟨x,t,rfl,rfl⟩
  ·rcases iG hb with⟨j,u,rfl,e⟩ | ⟨y,u,rfl,e⟩
   ·injection e with e1 _;rw[e1]
   ·exact nomatch e
  ·rcases iG hb with⟨j,u,rfl,e⟩ | ⟨y,u,rfl,e⟩
   ·exact nomatch e
   ·injection e with e1 _;rw[e1]
 byValue:=λk v h=>by
  rcases iG h with⟨i,t,rfl,rfl⟩ | ⟨x,t,rfl,rfl⟩ <;> rfl
 pyHash:=λhv h=>by
  rcases iG hv with⟨i,t,rfl,rfl⟩ | ⟨x,t,rfl,rfl⟩
  ·exact wpAny_pyHash_int h
  ·exact wpAny_pyHash_str h
 eqBool:=λhu hv h=>by
  rcases iG hu with⟨i,t,rfl,rfl⟩ | ⟨x,t,rfl,rfl⟩
  ·rcases iG hv with⟨j,u,rfl,rfl⟩ | ⟨y,u,rfl,rfl⟩
   ·rw[aCz]at h;exact wpAny_eqBool_int h
   ·rw[aCy]at h;exact SeqAt.EqAt.int_str i t y u _ _ _ _ h
  ·rcases iG hv with⟨j,u,rfl,rfl⟩ | ⟨y,u,rfl,rfl⟩
   ·rw[aCx]at h;exact SeqAt.EqAt.str_int x t j u _ _ _ _ h
   ·rw[aCw]at h;exact wpAny_eqBool_str h
 «strs» := λk x t v h=>by
  rcases iG h with⟨i,u,rfl,e⟩ | ⟨y,u,rfl,e⟩
  ·exact nomatch e
  ·injection e with e1 _;subst e1;cases v <;> rfl
def GT(prog:Program)(w:World)(i:Int)(t:Tok):(fX prog w).is (.inl i) (Y7b i)=true:=PH i t
def GS(prog:Program)(w:World)(x:Str)(t:Tok):(fX prog w).is (.inr x) (.str x t)=true:=PF x t
inductive V where
 | non | bl (b:Bool) | int (i:Int) | str (x:Str) | byt (b:Array UInt8) | flt (b:UInt64) | ref (a:Addr) | ty (n:String)
 deriving DecidableEq
def eI:Y0u V Value
 | .non,u=>u=Value.none
 | .bl b,u=>u=Value.bool b
 | .int i,u=>∃t,u=Value.int i t
 | .str x,u=>∃t,u=Value.str x t
 | .byt b,u=>∃t,u=Value.bytes b t
 | .flt b,u=>∃t,u=Value.float b t
 | .ref a,u=>u=Value.ref a
 | .ty n,u=>u=Value.type n
abbrev dO:Y0u Y72 Ah:=Paired eI
theorem dO.length{xs:Y72}{us:Ah}(r:Y6s):Y2v us.length:=Paired.length r
theorem dO.get:∀{xs:Y72}{us:Ah}{i:Nat}{x:V},Y6s->Y0Y=Y8->∃u,us[i]?=Yv/\eI x u
 | _,_,_,_,.nil,e=>by simp at e
 | _,_,0,_,.cons r _,e=>by simp at e;subst e;exact⟨_,rfl,r⟩
 | _,_,i+1,x,.cons _ t,e=>by
  obtain⟨u,h1,h2⟩:=dO.get (i:=i) (x:=x) t (by simpa using e);exact⟨u,by simpa using h1,h2⟩
theorem dO.set{x:V}{u:Value}(r:eI x u):∀{xs:Y72}{us:Ah}(i:Nat),Y6s->dO (xs.set i x) (us.set i u)
 | _,_,_,.nil=>.nil
 | _,_,0,.cons _ t=>.cons r t
 | _,_,i+1,.cons q t=>.cons q (dO.set r i t)
theorem dO.append:∀{xs ys:Y72}{us ws:Ah},Y6s->dO ys ws->dO (xs++ys) (us++ws)
 | _,_,_,_,.nil,s=>s
 | _,_,_,_,.cons r t,s=>.cons r (dO.append t s)
theorem dO.take:∀{xs:Y72}{us:Ah}(n:Nat),Y6s->dO (xs.take n) (us.take n)
 | _,_,0,_=>.nil
 | _,_,_+1,.nil=>.nil
 | _,_,n+1,.cons r t=>.cons r (dO.take n t)
theorem dO.drop:∀{xs:Y72}{us:Ah}(n:Nat),Y6s->dO (xs.drop n) (us.drop n)
 | _,_,0,r=>r
 | _,_,_+1,.nil=>.nil
 | _,_,n+1,.cons _ t=>dO.drop n t
def rV:Y0u (Option V) Y8q
 | some v,some u=>eI v u
 | none,none=>True
 | _,_=>False
def KV{κ:Type}:Y0u Y37 (Y67 κ):=Paired λ(p:κ × V) (q:κ × Value)=>p.1=q.1/\eI p.2 q.2
def kV:fK->V
 | .inl i=>.int i
 | .inr x=>.str x
inductive HO where
 /-- a list -/
 | lst (xs:Y72)
 /-- a tuple (never changes) -/
 | tup (xs:Y72)
 /-- a dict whose keys are ints and texts;one whose keys are tuples of ints and texts (the empty one is both) -/
 | dK (kvs:Y2m) | dT (kvs:Yw)
 /-- a set of ints: its members,its size -/
 | set (S:Y2a Int) (n:Nat)
 /-- an instance of the class at C,its dict at dx,its attributes -/
 | ins (C dx:Addr) (fs:Y3k V)
 /-- the dict of the instance at x -/
 | own (x:Addr)
 /-- the dict of an exception -/
 | xd (fs:Y3k V)
 /-- a bound method,f of x -/
 | met (f x:Addr)
 /-- a range object lo,lo+1,.. below hi -/
 | rng (lo hi:Int)
 /-- a thing that is known to the object (the script;a dict while a loop walks it): read,never written while it is so -/
 | frz (o:Obj) (u:HO)
 /-- a code object's table -/
 | tbl (ps:Aj)
 /-- any other thing,by what is true of its one object (a def of one's own: SetO a S n:=HO.ext λh=>..) -/
 | ext (φ:Y4G)
abbrev Hp:=Addr->Option HO
def upd(H:Hp)(a:Addr)(o:HO):Hp:=λb=>if b=a then Y7 else H b
def bK{H:Hp}{a:Addr}{o:HO}:upd H a o a=Y7:=by unfold upd;rw[Y12]
def cP{H:Hp}{a b:Addr}{o:HO}(h:b≠a):upd H a o b=H b:=by unfold upd;rw[Y7T]
def WL{H:Hp}{a:Addr}{o u:HO}:upd (Y1n o) a u=Y1n u:=by
 funext b;unfold upd;split <;> rfl
def BX{H:Hp}{a b:Addr}{o u:HO}(h:H a=Y7)(h':H b=Yv)(d:o≠u):a≠b:=by
 intro e;subst e;rw[h]at h';exact d (gR h')
def cV{H:Hp}{a b:Addr}{o:HO}(h:H a=Y7)(h':H b=none):a≠b:=by
 intro e;subst e;rw[h]at h';cases h'
section
variable(P:Program)(w:World)
def eU(H:Hp)(h:Heap)(a:Addr):Y0Z HO
 | .lst xs=>xs.length<=sizeLine/\∃(its:Ah) (n:Nat),dO xs its/\h.get? a=some { cls:=.type "list",data:=.seq its.toArray n }
 | .tup xs=>(xs.length<=sizeLine/\∃o,h.get? a=some o/\o.dict=none)/\∃its:Ah,dO xs its/\IsTup h a its.toArray
 | .dK kvs=>kvs.length<=sizeLine/\(a == sysModules)=false/\∃vs,KV kvs vs/\h.DictOf (fX P w) a vs
 | .dT kvs=>kvs.length<=sizeLine/\(a == sysModules)=false/\∃xs:List (List fK × Addr × Value),
   Paired (λ(p:List fK × V) (q:List fK × Addr × Value)=>p.1=q.1/\H q.2.1=some (.tup (p.1.map kV))/\eI p.2 q.2.2) kvs xs /\
   ∃o es ep,h.get? a=some o/\o.ExactDict/\o.data=.dict es ep/\es.toList=xs.map (entryOfKey (tupleKind (fX P w)))/\(xs.map (·.1)).Nodup
 | .set S n=>h.SetOf (intKind P w) a S n
 | .ins C dx fs=>H dx=some (.own a)/\fs.length<=1000/\dx≠a/\h.get? a=some (PySem.W.instObj C dx) /\
   ∃mA,h.Ns1 dx mA/\(∀f,rV (fs.lookup f) (mA f))/\PySem.Within mA (fs.map (·.1))
 | .own _=>∃o,h.get? a=some o
 | .xd fs=>∃mA,h.Ns1 a mA/\∀f,rV (fs.lookup f) (mA f)
 | .rng lo hi=>∃t u v,h.get? a=some { cls:=.type "range",data:=.fields #[.int lo t,.int hi u,.int 1 v] }
 | .frz o u=>h.get? a=some o/\eU H h a u
 | .tbl ps=>h.get? a=some { cls:=.none,data:=.fields ps }
 | .met f x=>h.get? a=some (PySem.W.methodObj (.ref f) (.ref x))
 | .ext φ=>φ h/\(∃o,h.get? a=some o)/\∀h1 h2:Heap,φ h1->(∀o,h1.get? a=some o->h2.get? a=some o)->φ h2
def nC(H:Hp)(h:Heap):Prop:=∀a o,H a=Y7->eU P w H h a o
end
section
variable{P:Program}{w:World}{H H':Hp}{h h':Heap}{a:Addr}{o:HO}
theorem eU.lt(x:eU P w H h a o):a<h.objs.size:=by
 cases o with
 | lst xs=>obtain⟨_,_,_,_,e⟩:=x;exact aY e
 | tup xs=>obtain⟨_,_,_,p⟩:=x;exact p.lt
 | dK kvs=>obtain⟨_,_,_,_,o,_,_,e,_⟩:=x;exact aY e
 | dT kvs=>obtain⟨_,_,_,_,o,_,_,e,_⟩:=x;exact aY e
 | set S n=>obtain⟨o,_,_,_,e,_⟩:=x;exact aY e
 | ins C dx fs=>obtain⟨_,_,_,e,_⟩:=x;exact aY e
 | own y=>obtain⟨_,e⟩:=x;exact aY e
 | xd fs=>obtain⟨_,⟨_,_,_,e,_⟩,_⟩:=x;exact aY e
 | rng lo hi=>obtain⟨_,_,_,e⟩:=x;exact aY e
 | frz ob u=>obtain⟨e,_⟩:=x;exact aY e
 | tbl ps=>exact aY (show h.get? a=some _ from x)
 | met f y=>exact aY (show h.get? a=some _ from x)
 | ext φ=>obtain⟨_,⟨_,e⟩,_⟩:=x;exact aY e
theorem Paired.mapP{α β:Type}{F G:Y0u α β}:∀{l₁:Yo}{l₂:List β},Paired F l₁ l₂->(∀a b,F a b->G a b)->Paired G l₁ l₂
 | _,_,.nil,_=>.nil
 | _,_,.cons r t,f=>.cons (f _ _ r) (Paired.mapP t f)
def eU.stay(x:eU P w H h a o)(k:∀b u,(b=a\/H b=Y7G a)->Y0M=Yv->Y0n=Yv)
  (ho:∀b,H b=Y7G a->Y1E=Y7G a) (ht:∀b xs,H b=Y0k->Y1E=Y0k):eU P w H' h' a o:=by
 induction o with
 | lst xs=>obtain⟨z,l,n,r,e⟩:=x;exact⟨z,l,n,r,Y3B _ _ e⟩
 | tup xs=>obtain⟨⟨z,B,G,J⟩,l,r,g,e,c⟩:=x;exact⟨⟨z,B,Y3B _ _ G,J⟩,l,r,g,Y3B _ _ e,c⟩
 | dK kvs=>obtain⟨z,y,I,r,g,j,i,e,c⟩:=x;exact⟨z,y,I,r,g,j,i,Y3B _ _ e,c⟩
 | dT kvs =>
  obtain⟨z,y,xs,r,g,j,i,e,c⟩:=x;exact⟨z,y,xs,Paired.mapP r λp q z=>⟨z.1,ht _ _ z.2.1,z.2.2⟩,g,j,i,Y3B _ _ e,c⟩
 | set S n=>obtain⟨g,j,i,t,e,c⟩:=x;exact⟨g,j,i,t,Y3B _ _ e,c⟩
 | ins C dx fs =>
  obtain⟨d,z,ne,e,s,⟨m,j,i,D,c⟩,r⟩:=x;exact⟨ho _ d,z,ne,Y3B _ _ e,s,⟨m,j,i,k _ _ (.inr d) D,c⟩,r⟩
 | own y=>obtain⟨g,e⟩:=x;exact⟨g,Y3B _ _ e⟩
 | xd fs=>obtain⟨s,⟨m,j,i,e,c⟩,r⟩:=x;exact⟨s,⟨m,j,i,Y3B _ _ e,c⟩,r⟩
 | rng lo hi=>obtain⟨t,u,v,e⟩:=x;exact⟨t,u,v,Y3B _ _ e⟩
 | frz g u ih=>obtain⟨e,q⟩:=x;exact⟨Y3B _ _ e,ih q⟩
 | tbl ps =>
  have e:Y7U=some { cls:=.none,data:=.fields ps }:=x;show Y5V a (some { cls:=.none,data:=.fields ps });exact Y3B a _ e
 | met f y =>
  have e:Y7U=some (PySem.W.methodObj (.ref f) (.ref y)):=x;show Y5V a (some (PySem.W.methodObj (.ref f) (.ref y)));exact Y3B a _ e
 | ext φ=>obtain⟨p,⟨o,e⟩,A⟩:=x;exact⟨A _ _ p λo q=>Y3B _ _ q,⟨o,Y3B _ _ e⟩,A⟩
theorem nC.lt(x:Y2q)(e:H a=Y7):a<h.objs.size:=(x a o e).lt
def nC.fresh(x:Y2q)(e:h.objs.size<=a):H a=none:=by
 cases q:H a with
 | none=>rfl
 | some u=>exact absurd (aS (x.lt q) e) (cY _)
def nC.kept(x:Y2q)(k:∀b u,Y0M=Yv->Y0n=Yv):nC P w H h':=λa o e =>
 (x a o e).stay (λb u _ q=>k b u q) (Ya9) Y5W
def nC.laid(x:Y2q)(k:∀b u,Y0M=Yv->Y0n=Yv)(hp:h.objs.size<=a)(new:eU P w (Y1n o) h' a o):nC P w (Y1n o) h':=λb u e=>by
 have d:=x.fresh hp;by_cases hb:b=a
 ·subst hb;rw[bK]at e;cases e;exact new
 ·rw[cP hb]at e;exact(x b u e).stay (λc v _ q=>k c v q) (λc q=>by rw[cP (cV q d)];exact q) λc g q=>by rw[cP (cV q d)];exact q
end
def Rd(H:Hp)(a:Addr)(u:HO):Prop:=H a=Yv\/∃o,H a=Y8P o u
def Rd.ok{P:Program}{w:World}{H:Hp}{h:Heap}{a:Addr}{u:HO}(r:Rd H a u)(x:Y2q):eU P w H h a u:=by
 rcases r with r | ⟨o,r⟩
 ·exact x a u r
 ·obtain⟨_,q⟩:=x a _ r;exact q
def Mut:Y0Z (Option HO)
 | some (.lst _)=>True
 | some (.dK _)=>True
 | some (.dT _)=>True
 | some (.set _ _)=>True
 | some (.ins _ _ _)=>True
 | some (.ext _)=>True
 | _=>False
section
variable{P:Program}{w:World}{H:Hp}{h h':Heap}{x e:Addr}{o':HO}
def nC.write(ok:Y2q)(mu:Mut (H x))(he:e=x\/H e=Y7G x)(k:∀b u,b≠e->Y0M=Yv->Y0n=Yv)(heo:∃u,Y5V e Yv)
  (new:eU P w (Y3X x o') h' x o'):nC P w (Y3X x o') h':=λb u q=>by
 have a:∀c y,H c=Y7G y->c≠x:=λc y r z=>by subst z;rw[r]at mu;exact mu
 have d:∀c g,H c=Ym g->c≠x:=λc g r z=>by subst z;rw[r]at mu;exact mu
 by_cases hb:b=x
 ·subst hb;rw[bK]at q;cases q;exact new
 ·rw[cP hb]at q;by_cases hbe:b=e
  ·have j:H b=Y7G x:=by
    rcases he with z | z
    ·exact absurd (hbe.trans z) hb
    ·rw[hbe];exact z
   rw[q]at j;cases j;obtain⟨v,l⟩:=heo;exact⟨v,by rw[hbe];exact l⟩
  ·refine(ok b u q).stay (λc v i r=>k c v ?_ r) (λc r=>by rw[cP (a c b r)];exact r) λc g r=>by rw[cP (d c g r)];exact r
   rcases i with rfl | i
   ·exact hbe
   ·rintro rfl;rcases he with z | z
    ·exact a c b i z
    ·rw[i]at z;cases z;exact hb rfl
end
structure Un(fs ex:Y0t)(H H':Hp)(h h':Heap):Prop where
 keep:Y0I (Y0M=Y7) (H b=none->b ∉ fs->b ∉ ex->Y0n=Y7)
 slot:Y0I (Y0M=Y7) (H b=none->b∈fs->b ∉ ex->∃sl,Y0n=some { o with slots:=sl })
 free:Y0I (Y0M=Y7) (H b=none->b ∉ ex->Y1E=none)
 there:Y0I (Y0M=Y7) (b ∉ ex->∃o',Y0n=some o')
 tups:∀b xs,H b=Y0k->Y1E=Y0k
 frzs:∀b o u,H b=Y8P o u->Y1E=Y8P o u
 tbls:∀b ps,H b=YeS ps->∃more,Y1E=YeS (ps++more)
section
variable{fs fs' ex ex':Y0t}{H H1 H2:Hp}{h h1 h2 h':Heap}{a x e:Addr}{o:HO}
def Un.any(u:Un fs ex H H1 h h1){b:Addr}{ob:Obj}(q:Y0M=some ob)(n:H b=none)(hx:b ∉ ex):∃sl,Ydb=some { ob with slots:=sl }:=by
 by_cases hb:b∈fs
 ·exact u.slot b ob q n hb hx
 ·exact⟨ob.slots,u.keep b ob q n hb hx⟩
def Un.kept(k:∀b u,Y0M=Yv->Y0n=Yv):Un fs ex H H h h' :=
 ⟨λb a q _ _ _=>k b a q,λb a q _ _ _=>⟨a.slots,k b a q⟩,λ_ _ _ n _=>n,λb a q _=>⟨a,k b a q⟩,Y5W,λ_ _ _ q=>q,λ_ c q=>⟨#[],by rw[q];simp⟩⟩
def Un.refl:Un fs ex H H h h:=Un.kept Y5W
def Un.laid(k:∀b u,Y0M=Yv->Y0n=Yv)(hp:h.objs.size<=a)(hn:H a=none):Un fs ex H (Y1n o) h h' where
 keep:=λb u q _ _ _=>k b u q
 slot:=λb u q _ _ _=>⟨u.slots,k b u q⟩
 free:=λb u q n _=>by rw[cP (cK (aS (aY q) hp))];exact n
 there:=λb u q _=>⟨u,k b u q⟩
 tups:=λb c q=>by rw[Y53 q];exact q
 frzs:=λb u c q=>by rw[Y53 q];exact q
 tbls:=λb d q=>⟨#[],by rw[Y53 q,q];simp⟩
def Un.write(mu:Mut (H x))(he:e=x\/H e=Y7G x)(k:∀b u,b≠e->Y0M=Yv->Y0n=Yv)(heo:∃u,Y5V e Yv):Un fs ex H (Y3X x o) h h':=by
 have c:∀b,H b=none->b≠x:=λb n z=>by subst z;rw[n]at mu;exact mu
 have d:∀b,H b=none->b≠e:=λb n z=>by
  subst z;rcases he with r | r
  ·exact c b n r
  ·rw[n]at r;cases r
 have a:∀b u,H b=Yv->¬Mut (Yv)->b≠x:=λb u q g z=>by subst z;rw[q]at mu;exact g mu
 refine⟨λb u q n _ _=>k b u (d b n) q,λb u q n _ _=>⟨u.slots,k b u (d b n) q⟩,λb u q n _=>by rw[cP (c b n)];exact n,λb u q _=>?_,
  λb i q=>by rw[cP (a b _ q λz=>z)];exact q,λb u i q=>by rw[cP (a b _ q λz=>z)];exact q,λb j q=>⟨#[],by rw[cP (a b _ q λz=>z),q];simp⟩⟩
 by_cases hbe:b=e
 ·subst hbe;exact heo
 ·exact⟨u,k b u hbe q⟩
end
def trk(h:Heap)(H:Hp):Y0t:=(List.range h.objs.size).filter λa=>(H a).isSome
def EM(h:Heap)(H:Hp):Heap:=PySem.W.hideAll h (trk h H)
def PP(h:Heap)(H:Hp):(EM h H).objs.size=h.objs.size:=PySem.W.hideAll_size _ _
def UC{h:Heap}{H:Hp}{b:Addr}{o:Obj}(e:Y0M=Y7)(n:H b=none):(EM h H).get? b=Y7 :=
 PySem.W.hideAll_get _ e λa=>by
  have q:(H b).isSome=true:=(iK.mp a).2;rw[n]at q;simp at q
def YH{h:Heap}{H:Hp}{b:Addr}{o:Obj}(e:(EM h H).get? b=Y7):Y0M=Y7/\H b=none:=by
 have a:Y0M=Y7:=PySem.W.of_hideAll (trk h H) e;refine Y0b a;cases q:H b with
 | none=>rfl
 | some x =>
  have c:b∈trk h H:=iK.mpr ⟨cB.mpr (aY a),by simp[q]⟩;have z:(EM h H).get? b=none:=PySem.W.hideAll_none (trk h H) c;rw[z]at e;cases e
structure Mod(K:Aa)(mg:Y0a)(base:Heap):Prop where
 kin:K.In base
 glob:Ycf mg
 blt:∃mb,base.Ns builtinsNs mb/\∀x:Str,x ≠ "__name__" -> mb x=Y7y
 nolimit:base.NoLimit
/-- the context: a def's body (or a comprehension's block) running. base: fixed through the whole law;s₀,H₀: the entry;outer: the frames whose slots others may change (a def's callers);stack: all frames that run;
   ex: iterators that were made ahead of the entry and are walked here (a comprehension's);fn: the names whose cells were made at the entry (a def: all;a comprehension's block: its own);calm: not within an except suite;pn: pins that every state bears;xe: what is wanted of an exception that leaves the code -/
structure Cx where
 prog:Program
 w:World
 K:Aa
 mg:Y0a
 base:Heap
 A:Around
 N:Ai
 s₀:Shared
 H₀:Hp
 env:Env
 outer:Y1G
 stack:Y1G
 ex:Y0t
 fn:Y2a Str
 calm:Bool
 pn:Ae
 xe:Y5
def frs(l:Y1G):Y0t:=l.filterMap (·.frame)
abbrev Cx.fs(X:Cx):Y0t:=frs X.outer
def Vis(sc:Scope)(x:Str):Prop:=Y8w=Y1R\/Y8w=Y5m\/Y8w=some .free
def Loc(sc:Scope)(x:Str):Prop:=Y8w=Y1R\/Y8w=Y5m
def aEa(env:Env)(h:Heap)(m:Y0a)(x:Str)(u:Value):Prop :=
 (env.kindOf x=Y1R/\m x=Yv)\/((env.kindOf x=Y5m\/env.kindOf x=some .free)/\∃c,YcF x Y09/\h.IsCell c (Yv))
structure Cx.Ok(X:Cx):Prop where
 mod:Mod X.K X.mg X.base
 kind:X.env.scope.kind=.function
 glob:X.env.globals=mainGlobals
 blt:X.env.builtins=builtinsNs
 above:Y8s X.env.locals
 inj:∀x y c,Y2U=Y09->Ycr y Y09->x=y
 has:∀x,(Y6I x Y5m\/Y6I x (some .free))->∃c,Y2U=Y09
 cab:∀x c,Y8i=true->Y2U=Y09->Y8s c
 hd:Y1J->X.A.handled=none
 frames:X.A.frames=some X.stack
 stk:X.stack=X.outer\/(X.stack=X.env::X.outer/\X.env.frame=some X.env.locals)
 exf:∀b∈X.ex,Y4w b/\∀x c,Y2U=Y09->c≠b
 bs:Y0I (Ycy=Y7) (Yef b Y7/\X.H₀ b=none)
 bsz:X.base.objs.size<=X.s₀.heap.objs.size
 noex:Y0I (Ycy=Y7) (b ∉ X.ex)
 exfs:∀b∈X.ex,b ∉ X.fs
 funs:X.s₀.heap.FunFrames X.base X.outer
 frf:∀b∈X.fs,X.H₀ b=none
structure cL(X:Cx)(pins:Ae)(σ:Y8D V)(H:Hp)(s:Shared):Prop where
 ok:X.Ok
 os:s.os=X.s₀.os
 bare:AllBare s.gens
 base:Un X.fs X.ex X.H₀ H X.s₀.heap s.heap
 loc:∃m,s.heap.Ns X.env.locals m/\∀(i:Nat) (x:Str) (v:V),Y2c=Y8->σ[i]?=YcQ->Ycp x->∃u,Y2C/\aEa X.env s.heap m x u
 cell:∀x c,Y2U=Y09->∃v,s.heap.IsCell c v
 free:H X.env.locals=none
 freeC:∀x c,Y2U=Y09->H c=none
 pin:∀p∈X.pn++pins,Y1W p.1 p.2/\H p.1=none/\Y4w p.1/\p.1 ∉ X.fs/\∀v,p.2.data ≠ .cell v
 hok:Y8d H s.heap
 len:σ.length=X.N.length
section
variable{X:Cx}{pins:Ae}{σ:Y8D V}{H H':Hp}{s:Shared}{h':Heap}
def Cx.Ok.nofr(ok:X.Ok){b:Addr}{o:Obj}(e:Ycy=Y7):b ∉ X.fs:=λa=>by
 have:=(ok.funs.mem a).1;rw[e]at this;cases this
theorem cL.bs(I:Y1):Y0I (Ycy=Y7) (Y32/\H b=none):=λb o e =>
 ⟨Yd6 o ((I.ok.bs b o e).1) ((I.ok.bs b o e).2) (I.ok.nofr e) (I.ok.noex b o e),YcY o ((I.ok.bs b o e).1) ((I.ok.bs b o e).2) (I.ok.noex b o e)⟩
def cL.bk(I:Y1):Y0I (Ycy=Y7) Y32:=λb o e=>(I.bs b o e).1
theorem cL.mod(I:Y1):Mod X.K X.mg X.base:=I.ok.mod
def cL.kIn(I:Y1):X.K.In s.heap:=I.ok.mod.kin.keeps I.bk
theorem cL.lt(I:Y1):Y4v X.env.locals:=let ⟨_,hn,_⟩:=I.loc;hn.lt
def cL.sz(I:Y1):Y8s s.heap.objs.size:=aP I.ok.above (Nat.le_of_lt I.lt)
def cL.nofs(I:Y1){a:Addr}(h:Ye1 a):a ∉ X.fs:=λc=>by
 obtain⟨_,o,d,_⟩:=I.ok.funs.mem c;exact absurd (aS (aY d) (aP I.sz h)) (cY _)
def cL.cne(I:Y1):∀x c,Y2U=Y09->Y4w c:=λx c e z=>by
 obtain⟨v,o,g,hd⟩:=Y99 x e;obtain⟨m,⟨i,j,h,a,d,_⟩,_⟩:=I.loc;rw[z,a]at g;cases g;rw[d]at hd;cases hd
theorem cL.funs(I:Y1):Yfe X.outer:=by
 have all:∀(l:Y1G),(∀b∈frs l,b∈X.fs)->X.s₀.heap.FunFrames X.base l->Yfe l:=by
  intro l
  induction l with
  | nil=>intro _ _;trivial
  | cons env r ih =>
   intro g n;obtain⟨i,⟨L,o,d,m,j,hd⟩,h⟩:=n;have a:L∈X.fs:=g L (by unfold frs;rw[List.filterMap_cons,d];exact aV);obtain⟨p,e⟩:=Yd7 L j (I.ok.frf L a) a (λz=>I.ok.exfs L z a);exact⟨i,⟨L,_,d,m,e,hd⟩,ih (λb c=>g b (by unfold frs;rw[List.filterMap_cons,d];exact aZ _ c)) h⟩
 exact all X.outer (λ_ c=>c) I.ok.funs
theorem cL.stack(I:Y1):Yfe X.stack:=by
 rcases I.ok.stk with e | ⟨e,a⟩
 ·rw[e];exact I.funs
 ·rw[e];obtain⟨m,c,_⟩:=I.loc;refine .cons (by rw[I.ok.kind];decide) a c ?_ I.funs;exact Heap.get?_none_of_le (aP I.ok.bsz I.ok.above)
def cL.stkSub(I:Y1):∀b∈frs X.stack,b∈X.env.locals::X.fs:=λb a=>by
 rcases I.ok.stk with e | ⟨e,c⟩
 ·rw[e]at a;exact aZ _ a
 ·rw[e]at a;unfold frs at a;rw[List.filterMap_cons,c]at a;exact a
def cL.stkFree(I:Y1):∀b∈frs X.stack,H b=none:=λb a=>by
 rcases bD.mp (I.stkSub b a)with e | a
 ·rw[e];exact I.free
 ·obtain⟨_,o,c,_⟩:=I.ok.funs.mem a;exact YcY o c (I.ok.frf b a) (λz=>I.ok.exfs b z a)
def cL.step{g':YfX}{t':Nat}{d':Drawn}{ch:Y0t}(I:Y1)
  (hch:∀b∈ch,(b∈X.ex\/Y8s b)/\Y4w b/\(∀x c,Y2U=Y09->c≠b)/\∀p∈X.pn++pins,p.1≠b)
  (keep:Y0I (Y4w b) (b ∉ X.fs->b ∉ ch->Y32->H b=none->Y0n=Y7))
  (slot:Y0I (Y4w b) (b∈X.fs->b ∉ ch->Y32->H b=none->∃sl,Y0n=some { o with slots:=sl })) (free:Y0I (b ∉ ch) (Y32->H b=none->Y1E=none))
  (there:Y0I (b ∉ ch) (Y32->∃o',Y0n=some o'))
  (tups:∀b xs,H b=Y0k->Y1E=Y0k) (frzs:∀b o u,H b=Y8P o u->Y1E=Y8P o u) (tbls:∀b ps,H b=YeS ps->∃more,Y1E=YeS (ps++more))
  (ns:∀m,s.heap.Ns X.env.locals m->h'.Ns X.env.locals m) (hok:Y8d H' h') (hg:AllBare g') :
  Y51 ({ s with heap:=h',gens:=g',drawn:=d',toks:=t' }):=by
 have neL:Y0I (Yef b Y7) (Y4w b):=λb o e=>cK (aS (aY e) I.ok.above);have y:Y0I (Yef b Y7) (b ∉ X.ex->b ∉ ch):=λb o e a A=>by
  rcases(hch b A).1 with z | z
  ·exact a z
  ·exact absurd (aS (aY e) z) (cY _)
 have h:∀x c,Y2U=Y09->∀v,s.heap.IsCell c v->h'.IsCell c v:=λx c e v ⟨o,B,hd⟩=>by
  have g:c ∉ ch:=λz=>(hch c z).2.2.1 x c e rfl;by_cases hc:c∈X.fs
  ·obtain⟨sl,q⟩:=slot c o (I.cne x c e) hc g B (YbO x e);exact Y1x q hd
  ·exact Y0U (keep c o (I.cne x c e) hc g B (YbO x e)) hd
 refine⟨I.ok,I.os,hg,⟨λb o e n A a=>?_,λb o e n A a=>?_,λb o e n a=>?_,λb o e a=>?_,λb xs e=>tups b xs (I.base.tups b xs e),λb o xs e=>frzs b o xs (I.base.frzs b o xs e),λb ps e=>?_⟩,?_,λx c e=>?_,?_,λx c e=>?_,λp J=>?_,hok,I.len⟩
 ·exact keep b o (neL b o e) A (y b o e a) (Yd6 o e n A a) (YcY o e n a)
 ·obtain⟨sl,j⟩:=Yd7 b e n A a;obtain⟨D,C⟩:=slot b _ (neL b o e) A (y b o e a) j (YcY o e n a);exact⟨D,C⟩
 ·obtain⟨o',j⟩:=Ybf o e a;exact free b o' (y b o e a) j (YcY o e n a)
 ·obtain⟨o',j⟩:=Ybf o e a;exact there b o' (y b o e a) j
 ·obtain⟨M,j⟩:=I.base.tbls b ps e;obtain⟨P,C⟩:=tbls b _ j;exact⟨M++P,by rw[C,Array.append_assoc]⟩
 ·obtain⟨m,N,O⟩:=I.loc;refine⟨m,ns m N,λi x v j C L=>?_⟩;obtain⟨u,r,l⟩:=O i x v j C L;refine Y08 u r;rcases l with l | ⟨k,c,e,z⟩
  ·exact .inl l
  ·exact .inr ⟨k,c,e,h x c e _ z⟩
 ·obtain⟨v,z⟩:=Y99 x e;exact⟨v,h x c e v z⟩
 ·obtain⟨m,⟨o,_,_,B,_⟩,_⟩:=I.loc;exact free _ o (λz=>(hch _ z).2.1 rfl) B I.free
 ·obtain⟨v,o,B,hd⟩:=Y99 x e;exact free c o (λz=>(hch c z).2.2.1 x c e rfl) B (YbO x e)
 ·obtain⟨e,n,ne,G,d⟩:=Y6m J;have g:p.1 ∉ ch:=λz=>(hch p.1 z).2.2.2 p J rfl;exact⟨keep p.1 p.2 ne G g e n,free p.1 p.2 g e n,ne,G,d⟩
def cL.un{t':Nat}(I:Y1)(u:Y9d X.fs [] H H' h')(hok:Y8d H' h'):Y51 ({ s with heap:=h',toks:=t' }):=by
 obtain⟨m,⟨o,B,x,h,r⟩,_⟩:=id I.loc;obtain⟨p,i⟩:=u.any h I.free (by simp);exact I.step (g':=s.gens) (d':=s.drawn) (ch:=[]) (λ_ z=>nomatch z) (λb o _ d _ e n=>u.keep b o e n d (by simp)) (λb o _ d _ e n=>u.slot b o e n d (by simp)) (λb o _ e n=>u.free b o e n (by simp)) (λb o _ e=>u.there b o e (by simp)) u.tups u.frzs u.tbls (λy j=>by
  obtain⟨A,g,c,a,l⟩:=j;rw[h]at a;cases a;exact⟨_,g,c,i,l⟩) hok I.bare
def cL.call{g':YfX}{t':Nat}{d':Drawn}{ch:Y0t}(I:Y1)(u:Y9d Y7F ch H H' h')(hok:Y8d H' h')(hg:AllBare g')
  (hch:∀b∈ch,(b∈X.ex\/Y8s b)/\Y4w b/\(∀x c,Y2U=Y09->c≠b)/\∀p∈X.pn++pins,p.1≠b) :
  Y51 ({ s with heap:=h',gens:=g',drawn:=d',toks:=t' }):=by
 obtain⟨m,⟨o,J,C,j,r⟩,_⟩:=id I.loc;obtain⟨B,g⟩:=u.any j I.free λz=>(hch _ z).2.1 rfl;exact I.step (ch:=ch) hch (λb o g l a e n=>u.keep b o e n (λz=>(bD.mp (I.stkSub b z)).elim g l) a) (λb o _ _ a e n=>u.any e n a) (λb o a e n=>u.free b o e n a) (λb o a e=>u.there b o e a) u.tups u.frzs u.tbls (λD y=>by
  obtain⟨G,i,h,d,A⟩:=y;rw[j]at d;cases d;exact⟨_,i,h,g,A⟩) hok hg
def cL.turned{t':Nat}{it:Addr}(I:Y1)(k:Y0I (b≠it) (Y32->Y0n=Y7))(hn:H it=none)(hL:Y4w it)
  (h1:it∈X.ex\/Y8s it) (h2:∀x c,Y2U=Y09->c≠it) (h3:∀p∈X.pn++pins,p.1≠it):Y5Q ({ s with heap:=h',toks:=t' }):=by
 have d:∀b u,H b=Yv->b≠it:=λb u e z=>by rw[z,hn]at e;cases e
 refine I.step (g':=s.gens) (d':=s.drawn) (ch:=[it]) (λb h=>?_) (λb o _ _ a e _=>k b o (λz=>a (by simp[z])) e) (λb o _ _ a e _=>⟨o.slots,k b o (λz=>a (by simp[z])) e⟩) (λ_ _ _ _ n=>n)
  (λb o a e=>⟨o,k b o (λz=>a (by simp[z])) e⟩) (Yb1) (λ_ _ _ e=>e) (λb w e=>⟨#[],by rw[e];simp⟩) (λm i=>?_) (λb u e=>?_) I.bare
 ·have e:b=it:=by simpa using h
  subst e;exact⟨h1,hL,h2,h3⟩
 ·obtain⟨o,l,g,j,r⟩:=i;exact⟨o,l,g,k _ o (Ne.symm hL) j,r⟩
 ·refine(I.hok b u e).stay (λc v a q=>k c v ?_ q) (Ya9) Y5W;rcases a with z | z
  ·rw[z];exact d b u e
  ·exact d c _ z
def cL.tok(I:Y1)(t:Nat):Y5Q ({ s with toks:=t }):=I.un (h':=s.heap) (t':=t) Un.refl I.hok
theorem cL.kept{t':Nat}(I:Y1)(k:∀b u,Y9i b Yv->Y0n=Yv):Y5Q ({ s with heap:=h',toks:=t' }):=I.un (Un.kept k) (I.hok.kept k)
theorem cL.laid{a:Addr}{o:HO}{t':Nat}(I:Y1)(k:∀b u,Y9i b Yv->Y0n=Yv)(hp:Ye1 a)(new:eU X.prog X.w (Y1n o) h' a o) :
  Y1Q (Y1n o) ({ s with heap:=h',toks:=t' }):=I.un (Un.laid k hp (I.hok.fresh hp)) (I.hok.laid k hp new)
theorem cL.write{x e:Addr}{o:HO}{t':Nat}(I:Y1)(mu:Mut (H x))(he:e=x\/H e=Y7G x)(k:∀b u,b≠e->Y9i b Yv->Y0n=Yv)(heo:∃u,Y5V e Yv)
  (new:eU X.prog X.w (Y3X x o) h' x o):Y1Q (Y3X x o) ({ s with heap:=h',toks:=t' }):=I.un (Un.write mu he k heo) (I.hok.write mu he k heo new)
def cL.pins_of{pins':Ae}(I:Y1)(h:∀p∈pins',Y1W p.1 p.2/\H p.1=none/\Y4w p.1/\p.1 ∉ X.fs/\∀v,p.2.data ≠ .cell v):Y1D pins' H s :=
 ⟨I.ok,I.os,I.bare,I.base,I.loc,I.cell,I.free,I.freeC,λp a=>(bY.mp a).elim (λz=>Y6m (cD _ z)) (h p),I.hok,I.len⟩
def AE{N:Ai}(hN:N.Nodup){i j:Nat}{x:Str}(a:N[i]?=Y8)(b:N[j]?=Y8):i=j:=by
 obtain⟨g,d⟩:=aO.mp a;obtain⟨e,c⟩:=aO.mp b;exact(List.getElem_inj hN).mp (d.trans c.symm)
def BS{M:Model}{A:Around}{E:Y5}{i:Nat}{x:Str}{v:V}{u:Value}{Q:Y46}(I:Y1)(hN:X.N.Nodup)(hi:Y2c=Y8)(hx:Y9F x)(r:Y2C)
  (h:∀s',cL X pins (YcH i) H s'->(∃a,Y9z a s'.heap/\(a=X.env.locals\/Y2U=some a))->Q () s') (hf:Y8i=true\/Y6n x:=by first | exact .inl rfl | exact .inr rfl | assumption):Y5I A (storeName X.env x u) Q E s:=by
 obtain⟨m,ι,ξ⟩:=id I.loc;have S:Yq (Yce .class || (Yce .module&&X.env.locals != X.env.globals)):=by rw[I.ok.kind];rfl
 have T:i<σ.length:=by rw[I.len];exact(aO.mp hi).1
 have cne:=I.cne;have B:∀{a:Addr} {P:Heap},(∃o,Y9m a/\H a=none)->Y9z a P->Y8d H P:=λ{a P} χ g b ω e=>by
  obtain⟨_,_,D⟩:=χ;refine(I.hok b ω e).stay (λc α C q=>(g.2 c ?_).trans q) (Ya9) Y5W;rintro rfl;rcases C with rfl | C
  ·rw[D]at e;cases e
  ·rw[D]at C;cases C
 rcases hx with J | J
 ·refine wpAny_storeName_local J ι (λP γ g=>?_) S;obtain⟨τ,_,_,ζ,_⟩:=id ι;refine h _ ⟨I.ok,I.os,I.bare,⟨YdF,YdF,I.base.free,λb o e hx=>?_,I.base.tups,I.base.frzs,I.base.tbls⟩,Y1x γ (λj y δ l G ε=>?_),λy c e=>?_,I.free,I.freeC,λp ν=>?_,B ⟨τ,ζ,I.free⟩ g,by simpa using I.len⟩ (Y1x g Y3T)
  ·exact(g.2 b (cK (aS (aY e) I.ok.above))).trans (Yd6 o e n L hx)
  ·obtain⟨β,l⟩:=Yd7 b e n L hx;exact⟨β,(g.2 b (cK (aS (aY e) I.ok.above))).trans l⟩
  ·obtain⟨μ,l⟩:=Ybf o e hx;exact⟨μ,(g.2 b (cK (aS (aY e) I.ok.above))).trans l⟩
  ·by_cases hj:j=i
   ·subst hj;rw[hi]at l;cases l;rw[List.getElem?_set_self T]at G;cases G;exact⟨u,r,Y3p J (by simp)⟩
   ·rw[YaK hj]at G;obtain⟨κ,η,q⟩:=ξ j y δ l G ε;refine Y08 κ η;rcases q with⟨k,e⟩ | ⟨k,c,e,z⟩
    ·refine .inl (Y0b k);have:y≠x:=λe=>hj (AE hN l (e ▸ hi));simp[this,e]
    ·exact .inr ⟨k,c,e,YeH g y c e⟩
  ·obtain⟨α,z⟩:=Y99 y e;exact⟨α,YeH g y c e⟩
  ·obtain⟨e,n,ne,θ,d⟩:=Y6m ν;exact⟨(g.2 p.1 ne).trans e,n,ne,θ,d⟩
 ·have O:Y8i=true:=by
   rcases hf with z | z
   ·exact z
   ·rw[z]at J;cases J
  obtain⟨c,C⟩:=I.ok.has x (.inl J);obtain⟨α,z⟩:=Y99 x C;refine wpAny_storeName_cell I.ok.kind J C z (λP W g=>?_);obtain⟨ο,R,U⟩:=id z;refine h { s with heap:=P } ⟨I.ok,I.os,I.bare,⟨YdF,YdF,I.base.free,λb o e hx=>?_,I.base.tups,I.base.frzs,I.base.tbls⟩,⟨m,ι.sameBut g (Ne.symm (cne x c C)),λj y δ l G ε=>?_⟩,λy Z e=>?_,I.free,I.freeC,λp ν=>?_,B ⟨ο,R,YbO x C⟩ g,by simpa using I.len⟩ ⟨c,g,.inr C⟩
  ·exact(g.2 b (cK (aS (aY e) (I.ok.cab x c O C)))).trans (Yd6 o e n L hx)
  ·obtain⟨β,l⟩:=Yd7 b e n L hx;exact⟨β,(g.2 b (cK (aS (aY e) (I.ok.cab x c O C)))).trans l⟩
  ·obtain⟨μ,l⟩:=Ybf o e hx;exact⟨μ,(g.2 b (cK (aS (aY e) (I.ok.cab x c O C)))).trans l⟩
  ·by_cases hj:j=i
   ·subst hj;rw[hi]at l;cases l;rw[List.getElem?_set_self T]at G;cases G;exact⟨u,r,.inr ⟨.inl J,c,C,W⟩⟩
   ·rw[YaK hj]at G;obtain⟨κ,η,q⟩:=ξ j y δ l G ε;refine Y08 κ η;rcases q with q | ⟨k,Z,e,ψ⟩
    ·exact .inl q
    ·refine .inr ⟨k,Z,e,ψ.sameBut g ?_⟩;rintro rfl;exact hj (AE hN l (I.ok.inj _ _ _ e C ▸ hi))
  ·by_cases hcc:Z=c
   ·subst hcc;exact Y0C W
   ·obtain⟨ρ,υ⟩:=I.cell y Z e;exact⟨ρ,υ.sameBut g hcc⟩
  ·obtain⟨e,n,ne,θ,d⟩:=Y6m ν;refine⟨(g.2 p.1 ?_).trans e,n,ne,θ,d⟩;intro q;rw[q,R]at e;have φ:ο=p.2:=gR e;exact d α (by rw[<-φ];exact U)
def sD{M:Model}{A:Around}{E:Y5}{i:Nat}{x:Str}{v:V}{u:Value}{Q:Y46}(I:Y1)(hN:X.N.Nodup)(hi:Y2c=Y8)(hx:Y9F x)(r:Y2C)
  (h:∀s',cL X pins (YcH i) H s'->Q () s') (hf:Y8i=true\/Y6n x:=by first | exact .inl rfl | exact .inr rfl | assumption):Y5I A (storeName X.env x u) Q E s :=
 BS I hN hi hx r (λs' I' _=>h s' I') hf
def cL.call'{s':Shared}{ch:Y0t}(I:Y1)(ho:s'.os=s.os)(u:Y9d Y7F ch H H' s'.heap)(hok:Y8d H' s'.heap)(hg:Yb3)
  (hch:∀b∈ch,(b∈X.ex\/Y8s b)/\Y4w b/\(∀x c,Y2U=Y09->c≠b)/\∀p∈X.pn++pins,p.1≠b):Y51 s':=by
 obtain⟨d,g',d',t',a⟩:=s';have e:a=s.os:=ho;subst e;exact I.call (g':=g') (t':=t') (d':=d') u hok hg hch
end
abbrev XK:=Value->Y1M Y11
abbrev St:=Y8D V
abbrev _root_.Ao:=Option V
abbrev _root_.An:=Y72
abbrev VK:=Y2L
abbrev TE:=St->(Hp->(Y0Z VK))
abbrev TT:=St->Y5G Yat
abbrev TA:=St->Y5G (Y1M An)
structure oR where
 nx:Y1w
 rt:VK
 bk:Y1w:=Ycz
 ct:Y1w:=Ycz
abbrev TS:=oR->Y1w
def EP(X:Cx)(pins:Ae)(σ:St)(Q:VK)(u:Value)(s':Shared):Prop:=∃v H',Y51 s'/\Y2C/\Y1a
def TP(X:Cx)(pins:Ae)(σ:St)(Q:Yat)(b:Bool)(s':Shared):Prop:=∃H',Y51 s'/\Q b H'
def AP(X:Cx)(pins:Ae)(σ:St)(Q:Y1M An)(us:Ah)(s':Shared):Prop:=∃vs H',Y51 s'/\Y8k/\Q vs H'
def SP(X:Cx)(pins:Ae)(D:oR)(f:Flow)(s':Shared):Prop :=
 match f with
 | .next=>∃σ' H',cL X pins σ' H' s'/\D.nx σ' H'
 | .brk=>∃σ' H',cL X pins σ' H' s'/\D.bk σ' H'
 | .cont=>∃σ' H',cL X pins σ' H' s'/\D.ct σ' H'
 | .ret u=>∃v σ' H',cL X pins σ' H' s'/\eI v u/\D.rt v H'
def PE(X:Cx)(e:Expr)(t:TE):Prop :=
 ∀(pins:Ae) (s:Shared) (σ:St) (H:Hp) (Q:VK),Y1->t σ H Q->Y6Z Y1y X σ Q
def PT(X:Cx)(e:Expr)(t:TT):Prop :=
 ∀(pins:Ae) (s:Shared) (σ:St) (H:Hp) (Q:Yat),Y1->t σ H Q->Y4c (isTrue e X.env (Y1y)) (TP X pins σ Q)
def PW(X:Cx)(e:Expr)(t:TT):Prop :=
 ∀(whole:Y7N) (pins:Ae) (s:Shared) (σ:St) (H:Hp) (Q:Yat),Y1->t σ H Q->Y4c (isTrue e X.env whole) (TP X pins σ Q)
def PW.pt{X:Cx}{e:Expr}{t:TT}(h:PW X e t):PT X e t:=h _
def PA(X:Cx)(es:Y04)(t:TA):Prop :=
 ∀(pos:Pos) (pins:Ae) (s:Shared) (σ:St) (H:Hp) (Q:Y1M An),Y1->t σ H Q->Y4c (spliced (backTo pos (Y36))) (AP X pins σ Q)
def PS(X:Cx)(st:Stmt)(t:TS):Prop :=
 ∀(pins:Ae) (s:Shared) (σ:St) (H:Hp) (D:oR),Y1->t D σ H->Y4c (exec st X.env) (SP X pins D)
def KU(X:Cx)(st:Y3r)(t:TS):Prop :=
 ∀(pins:Ae) (s:Shared) (σ:St) (H:Hp) (D:oR),Y1->t D σ H->Y4c (execs st X.env) (SP X pins D)
def thn{α:Type}{t:Sem α}{Q Q':Y26 α}{M:Model}{A:Around}{E:Y5}{s:Shared}(h:Y5I A t Q E s)(hQ:∀a s,Q a s->Q' a s):Y5I A t Q' E s:=YeC h hQ
section
variable{X:Cx}
def aAL(i:Nat):TE:=λσ H Q=>∃v,σ[i]?=YcQ/\Q v H
def tC(v:V):TE:=λ_ H Q=>Q v H
def aCf{i:Nat}{x:Str}{pos:Pos}(hN:Y2c=Y8)(hv:Ycp x)(hd:Y19 ("__debug__" : Str):=by decide)(hcd:Y19 ("__classdict__" : Str):=by decide):Yl Y6l (aAL i):=by
 intro j s σ H Q I h;obtain⟨v,e,h⟩:=h;obtain⟨m,w,y⟩:=I.loc;obtain⟨u,r,l⟩:=y i x v hN e hv;have d:EP X j σ Q u s:=⟨v,H,I,r,h⟩;rcases l with⟨g,p⟩ | ⟨g,c,n,a⟩
 ·exact wpAny_Name (wpAny_loadName_local I.ok.kind g w p d) hd
 ·rcases g with g | g
  ·exact wpAny_Name (wpAny_loadName_cell I.ok.kind g n a d) hd
  ·exact wpAny_Name (wpAny_loadName_free I.ok.kind g n a d hcd) hd
def pe_int{i j pos}:Yl (Y8G Y15 j) (tC (Y15)):=λ_ _ _ H _ I h=>wpAny_Constant_int ⟨Y15,H,Y1H,Y3z,h⟩
def pe_bl{b j pos}:Yl (Y8G (.bool b) j) (tC (.bl b)):=λ_ _ _ H _ I h=>Constant_bool (Y4V b H I h)
def pe_non{j pos}:Yl (Y8G .none j) (tC .non):=λ_ _ _ H _ I h=>Constant_none (Y2S .non H I h)
def pe_str{x j pos}:Yl (Y8G (.str x) j) (tC (.str x)):=λ_ _ _ H _ I h=>Calls.Constant_str ⟨.str x,H,Y1H,Y3z,h⟩
def Gl(X:Cx)(x:Str):Prop:=Y6I x (some .globalImplicit)
def vO{E:Y5}{pins:Ae}{s:Shared}{σ:St}{H:Hp}{x:Str}{u:Value}{pos:Pos}{Q:Y5}(I:Y1)(hg:Y22)(hm:Y4d=Yv)(h:Q u s)
  (hd:Y19 ("__debug__" : Str):=by decide):Y7s (Y0d Y6l) Q E s :=
 Yf6 I.ok.kind (Calls.loadGlobal_global (by rw[I.ok.glob];exact Yfh) hm h) hd
def qY{E:Y5}{pins:Ae}{s:Shared}{σ:St}{H:Hp}{x:Str}{u:Value}{pos:Pos}{Q:Y5}(I:Y1)(hg:Y22)(hm:Y4d=none)(hv:Y7y=Yv)(h:Q u s)
  (hn:x ≠ "__name__" := by decide) (hd:Y19 ("__debug__" : Str):=by decide):Y7s (Y0d Y6l) Q E s:=by
 obtain⟨d,c,a⟩:=I.mod.blt;exact Yf6 I.ok.kind (Calls.loadGlobal_builtin (by rw[I.ok.glob];exact Yfh) hm (by rw[I.ok.blt];exact c.keeps I.bk) ((a x hn).trans hv) h) hd
def XY{x:Str}{v:V}{u:Value}{pos:Pos}(hg:Y22)(hm:Y4d=Yv)(r:Y2C)(hd:Y19 ("__debug__" : Str):=by decide):Yl Y6l (tC v) :=
 λ_ _ _ H _ I h=>vO I hg hm ⟨v,H,I,r,h⟩ hd
def YD{x:Str}{v:V}{u:Value}{pos:Pos}(hg:Y22)(hm:Y4d=none)(hv:Y7y=Yv)(r:Y2C)(hn:x ≠ "__name__" := by decide)(hd:Y19 ("__debug__" : Str):=by decide):Yl Y6l (tC v) :=
 λ_ _ _ H _ I h=>qY I hg hm hv ⟨v,H,I,r,h⟩ hn hd
variable{a b:Expr}{ta tb:TE}{pos:Pos}
def tB(t:TE):TT:=Y3N (λx H1=>∃c,x=.bl c/\Q c H1)
def aB3{e:Expr}{t:TE}(h:Yl e t)(he:∀whole,isTrue e X.env whole=(do let v <-whole;standAt e.pos;holding [v] (truthy v)):=by intro _;rfl):PT X e (tB t):=by
 intro a s σ H Q I c;refine isTrue_plain (thn (h a s σ H _ I c) λv j ⟨x,H1,I1,i,g⟩=>?_) (he _);obtain⟨d,rfl,q⟩:=g;cases i;exact wpAny_truthy_bool ⟨H1,I1,q⟩
variable{tA tB':TT}{rest:Y04}
def aDo(t u:TT):TT:=Y3N (λc H1=>if c=true then u σ H1 Q else Q false H1)
def tOr(t u:TT):TT:=Y3N (λc H1=>if c=true then Q true H1 else u σ H1 Q)
def aDj(t:TT):TT:=Y3N (λc H1=>Q (! c) H1)
def XN(ha:PT X a tA):PW X (Y6R [a]) tA:=by
 intro i d s σ H Q I h;refine isTrue_and (thn (ha d s σ H Q I h) λc g e=>?_);cases c with
 | true=>exact isTrue_and_nil e
 | false=>exact e
def aB1(ha:PT X a tA):PW X (Y7t .Or [a]) tA:=by
 intro i d s σ H Q I h;refine isTrue_or (thn (ha d s σ H Q I h) λc g e=>?_);cases c with
 | false=>exact isTrue_or_nil e
 | true=>exact e
def aB2(ha:PT X a tA)(hb:PW X (Y6R (b::rest)) tB'):PW X (Y6R (a::b::rest)) (aDo tA tB'):=by
 intro i d s σ H Q I h;refine isTrue_and (thn (ha d s σ H _ I h) λc g ⟨H1,I1,e⟩=>?_);cases c with
 | true=>exact hb i d g σ H1 Q I1 e
 | false=>exact⟨H1,I1,e⟩
def aDA(ha:PT X a tA)(hb:PW X (Y7t .Or (b::rest)) tB'):PW X (Y7t .Or (a::b::rest)) (tOr tA tB'):=by
 intro i d s σ H Q I h;refine isTrue_or (thn (ha d s σ H _ I h) λc g ⟨H1,I1,e⟩=>?_);cases c with
 | true=>exact⟨H1,I1,e⟩
 | false=>exact hb i d g σ H1 Q I1 e
def aB4(ha:PT X a tA):PT X (Ybl .Not a) (aDj tA):=by
 intro d s σ H Q I h;exact isTrue_not (ha d s σ H (λc H1=>Q (! c) H1) I h)
def aAg(ta tb:TE):TE:=YbP σ H (∃c,x=.bl c/\if c=true then tb σ H1 Q else Q (.bl false) H1)
def aAa(ta:TE):TE:=YbP σ H (∃c,x=.bl c/\Q (.bl (! c)) H1)
def aCh{op}{t:TE}(h:Yl a t):Yl (Y7t op [a]) t:=λc s σ H Q I d=>BoolOp_one (h c s σ H Q I d)
def aCk(ha:Y7f a)(hb:Yl (Y6R (b::rest)) tb):Yl (Y6R (a::b::rest)) (aAg ta tb):=by
 intro d s σ H Q I h;refine BoolOp_and (thn (ha d s σ H _ I h) λv g ⟨x,H1,I1,i,e⟩=>?_);obtain⟨c,rfl,e⟩:=e;cases i;refine wpAny_truthy_bool ?_;cases c with
 | true=>exact hb d g σ H1 Q I1 e
 | false=>exact Y4V false H1 I1 e
def aCi(ha:Y7f a):Yl (Ybl .Not a) (aAa ta):=by
 intro d s σ H Q I h;refine UnaryOp_ (thn (ha d s σ H _ I h) λv i ⟨x,H1,I1,g,e⟩=>?_);obtain⟨c,rfl,e⟩:=e;cases g;exact not_of (wpAny_truthy_bool (Y4V (! c) H1 I1 e))
def tIf(t:TT)(ta tb:TE):TE:=Y3N (λc H1=>if c=true then ta σ H1 Q else tb σ H1 Q)
def SY{c:Expr}(hc:PT X c tA)(ha:Y7f a)(hb:Yl b tb):Yl (.IfExp c a b pos) (tIf tA ta tb):=by
 intro e s σ H Q I h;refine wpAny_IfExp (thn (hc e s σ H _ I h) λd g ⟨H1,I1,i⟩=>?_);cases d with
 | true=>exact ha e g σ H1 Q I1 i
 | false=>exact hb e g σ H1 Q I1 i
end
def gW(K:Aa)(H:Hp)(a:Addr)(xs:An):Prop :=
 Rd H a (.lst xs) \/
  ∃(o:Obj) (its:Aj) (n:Nat),YcZ=Y7/\o.cls=.type "list" /\ o.dict=none/\o.data=.seq its n/\Y0r its.size/\dO xs its.toList
def fY(K:Aa)(H:Hp)(a:Addr)(xs:An):Prop :=
 Rd H a (.tup xs) \/
  ∃(o:Obj) (its:Aj) (n:Nat),YcZ=Y7/\o.cls=.type "tuple" /\ o.data=.seq its n/\Y0r its.size/\dO xs its.toList
def aGu:Value->Ao
 | .none=>some .non
 | .bool b=>some (.bl b)
 | .int i _=>some (.int i)
 | .str x _=>some (.str x)
 | .bytes b _=>some (.byt b)
 | .float b _=>some (.flt b)
 | .ref a=>some (.ref a)
 | .type n=>some (.ty n)
 | _=>none
def eI.abs{x:V}{u:Value}(r:eI x u):aGu u=Y8:=by
 cases x with
 | non=>cases r;rfl
 | bl _=>cases r;rfl
 | int _=>obtain⟨t,rfl⟩:=r;rfl
 | str _=>obtain⟨t,rfl⟩:=r;rfl
 | byt _=>obtain⟨t,rfl⟩:=r;rfl
 | flt _=>obtain⟨t,rfl⟩:=r;rfl
 | ref _=>cases r;rfl
 | ty _=>cases r;rfl
def eI.inj{x y:V}{u:Value}(r:eI x u)(q:Y4l):x=y:=gR (r.abs.symm.trans q.abs)
theorem dO.inj:∀{xs ys:An}{us:Ah},Y6s->Y3x ys->xs=ys
 | _,_,_,.nil,.nil=>rfl
 | _,_,_,.cons r t,.cons r' t'=>by rw[r.inj r',dO.inj t t']
section
variable{X:Cx}{pins:Ae}{σ:St}{H:Hp}{s:Shared}{a:Addr}{xs ys:An}
def gW.of{K:Aa}(h:H a=Y0o):Y2P K H a:=Y9U h
def fY.of{K:Aa}(h:H a=Y0k):Y4q a:=Y9U h
def cL.list(I:Y1)(h:Y2P X.K H a):∃its:Ah,dO xs its/\PlainL s.heap a its.toArray/\Y4x:=by
 rcases h with h | ⟨o,its,n,g,d,hd,c,i,r⟩
 ·obtain⟨z,its,n,r,e⟩:=h.ok I.hok;exact⟨its,r,Y6C _ n e rfl rfl,z⟩
 ·refine⟨its.toList,r,⟨o,n,I.kIn a o g,d,hd,by simpa using c⟩,?_⟩;have e:=r.length;simp only[Array.length_toList]at e;exact Oo
def cL.tuple(I:Y1)(h:fY X.K H a xs):∃its:Ah,dO xs its/\YcS a its.toArray/\Y4x:=by
 rcases h with h | ⟨o,its,n,g,d,c,i,r⟩
 ·obtain⟨⟨z,_⟩,its,r,p⟩:=h.ok I.hok;exact⟨its,r,p,z⟩
 ·refine⟨its.toList,r,⟨o,I.kIn a o g,d,n,by simpa using c⟩,?_⟩;have e:=r.length;simp only[Array.length_toList]at e;exact Oo
def cL.list_inj(I:Y1)(h:Y2P X.K H a)(h':gW X.K H a ys):xs=ys:=by
 obtain⟨g,r,⟨o,n,e,_,_,d⟩,_⟩:=I.list h;obtain⟨c,l,⟨p,m,i,_,_,j⟩,_⟩:=I.list h';rw[e]at i;cases i;rw[d]at j;injection j with d1 _;have:g=c:=by simpa using congrArg Array.toList d1
 subst this;exact r.inj l
def cL.tuple_inj(I:Y1)(h:fY X.K H a xs)(h':fY X.K H a ys):xs=ys:=by
 obtain⟨g,r,⟨o,e,_,n,d⟩,_⟩:=I.tuple h;obtain⟨c,l,⟨p,i,_,m,j⟩,_⟩:=I.tuple h';rw[e]at i;cases i;rw[d]at j;injection j with d1 _;have:g=c:=by simpa using congrArg Array.toList d1
 subst this;exact r.inj l
end
abbrev Cx.wish(X:Cx)(E:Y5):Cx:={ X with xe:=E }
abbrev Cx.nox(X:Cx):Cx:=X.wish Ycz
theorem Cx.Ok.wish{X:Cx}(ok:X.Ok)(E:Y5):(X.wish E).Ok :=
 ⟨ok.mod,ok.kind,ok.glob,ok.blt,ok.above,ok.inj,ok.has,ok.cab,ok.hd,ok.frames,ok.stk,ok.exf,ok.bs,ok.bsz,ok.noex,ok.exfs,ok.funs,ok.frf⟩
def Cx.Ok.unwish{X:Cx}{E:Y5}(ok:(X.wish E).Ok):X.Ok :=
 ⟨ok.mod,ok.kind,ok.glob,ok.blt,ok.above,ok.inj,ok.has,ok.cab,ok.hd,ok.frames,ok.stk,ok.exf,ok.bs,ok.bsz,ok.noex,ok.exfs,ok.funs,ok.frf⟩
section
variable{X:Cx}{pins:Ae}{σ:St}{H:Hp}{s:Shared}{E:Y5}
theorem cL.wish(I:Y1)(E:Y5):cL (X.wish E) pins σ H s:=⟨I.ok.wish E,I.os,I.bare,I.base,I.loc,I.cell,I.free,I.freeC,I.pin,I.hok,I.len⟩
theorem cL.unwish(I:cL (X.wish E) pins σ H s):Y1:=⟨I.ok.unwish,I.os,I.bare,I.base,I.loc,I.cell,I.free,I.freeC,I.pin,I.hok,I.len⟩
theorem SP.unwish{D:oR}{f:Flow}{s':Shared}(h:SP (X.wish E) pins D f s'):SP X pins D f s':=by
 cases f with
 | next=>obtain⟨a,H',I,q⟩:=h;exact Y8o a H' I.unwish
 | brk=>obtain⟨a,H',I,q⟩:=h;exact Y8o a H' I.unwish
 | cont=>obtain⟨a,H',I,q⟩:=h;exact Y8o a H' I.unwish
 | ret u=>obtain⟨v,a,H',I,r,q⟩:=h;exact⟨v,a,H',I.unwish,r,q⟩
theorem KU.nox{st:Y3r}{t:TS}(h:KU X.nox st t):KU X st t:=λa s σ H D I c =>
 wpAny_mono (h a s σ H D (I.wish _) c) (λ_ _ q=>q.unwish) λ_ _ z=>False.elim z
end
section
variable{X:Cx}{st:Stmt}{rest:Y3r}{t u:TS}{e:Expr}{te:TE}{pos:Pos}
def aAb:TS:=λD σ H=>Y3H
def aAM(t u:TS):TS:=λD σ H=>t { D with nx:=u D } σ H
def pss_nil:KU X [] aAb:=λ_ _ σ H _ I h=>YdT σ H I h
def SQ(h1:PS X st t)(h2:KU X rest u):KU X (st::rest) (aAM t u):=by
 intro a s σ H D I h;refine wpAny_execs_cons (thn (h1 a s σ H { D with nx:=u D } I h) λf c q=>?_);cases f with
 | next =>
  obtain⟨d,H',I',q⟩:=q;exact h2 a c d H' D I' q
 | ret v=>exact q
 | brk=>exact q
 | cont=>exact q
def XR(h1:PS X st t):KU X [st] t:=by
 intro a s σ H D I h;refine wpAny_execs_cons (thn (h1 a s σ H D I h) λf c q=>?_);cases f with
 | next=>exact wpAny_execs_nil q
 | ret v=>exact q
 | brk=>exact q
 | cont=>exact q
def cL.quiet{pins:Ae}{σ:St}{H:Hp}{s:Shared}(I:Y1):Yq (interactive X.env):=by simp[interactive,I.ok.kind]
def aAd(te:TE):TS:=λD σ H=>te σ H λ_ H1=>Y7z H1
def XS(he:Yl e te)(hs:YeW e none pos.line=Y4C:=by rfl):PS X (.Expr e pos) (aAd te):=by
 intro a s σ H D I h;exact wpAny_Expr_any (thn (he a s σ H _ I h) λv d ⟨x,H1,I1,g,c⟩=>⟨σ,H1,I1,c⟩) I.quiet hs
def aDh(te:TE):TS:=λD σ H=>te σ H D.rt
def aB6(he:Yl e te):PS X (.Return (Y8f) pos) (aDh te):=by
 intro a s σ H D I h;exact wpAny_Return_some (thn (he a s σ H _ I h) λv g ⟨x,H1,I1,d,c⟩=>⟨x,σ,H1,I1,d,c⟩)
def aDk(c:TT)(t u:TS):TS:=λD σ H=>c σ H λb H1=>if b=true then t D σ H1 else u D σ H1
def aDB{c:Expr}{a b:Y3r}{tc:TT}(hc:PT X c tc)(ha:KU X a t)(hb:KU X b u):PS X (.If c a b pos) (aDk tc t u):=by
 intro e s σ H D I h;refine wpAny_If (thn (hc e s σ H _ I h) λd g ⟨H1,I1,i⟩=>?_);cases d with
 | true=>exact ha e g σ H1 D I1 i
 | false=>exact hb e g σ H1 D I1 i
end
abbrev TG:=V->St->Y5G Y1w
abbrev VN:=An->St->Y5G Y1w
def PG(X:Cx)(target:Expr)(t:TG):Prop :=
 ∀(pins:Ae) (s:Shared) (σ:St) (H:Hp) (v:V) (u:Value) (Q:Y1w),Y1->Y2C->t v σ H Q ->
  Y4c (assign target X.env u) (λ_ s'=>∃σ' H',cL X pins σ' H' s'/\Q σ' H')
def PGs(X:Cx)(ts:Y04)(t:VN):Prop :=
 ∀(pins:Ae) (s:Shared) (σ:St) (H:Hp) (vs:An) (us:Ah) (Q:Y1w),Y1->Y8k->t vs σ H Q ->
  Y4c (assignInOrder ((assignEach ts X.env).map (·.2)) us) (λ_ s'=>∃σ' H',cL X pins σ' H' s'/\Q σ' H')
abbrev ZO:=V->V->V->Y5G YaG
def aCY(X:Cx)(t:ZO):Prop :=
 ∀(pins:Ae) (s:Shared) (σ:St) (H:Hp) (o i v:V) (ov iv u:Value) (Q:YaG),Y1->eI o ov->eI i iv->Y2C->t o i v H Q ->
  Y4c (setItem ov iv u) (λ_ s'=>∃H',Y51 s'/\Q H')
section
variable{X:Cx}{pos:Pos}
def oK(i:Nat):TG:=λv σ H Q=>Q (YcH i) H
def MN{i:Nat}{x:Str}(hN:X.N.Nodup)(hi:Y2c=Y8)(hx:Y9F x)(hf:Y8i=true\/Y6n x:=by first | exact .inl rfl | exact .inr rfl | assumption):PG X (Y6l) (oK i):=by
 intro a s σ H v u Q I r h;exact wpAny_assign_Name (sD I hN hi hx r (λc I'=>⟨_,H,I',h⟩) hf)
def aCG:VN:=λvs σ H Q=>vs=[]/\Q σ H
def UD(t:TG)(u:VN):VN:=λvs σ H Q=>∃v r,vs=v::r/\t v σ H λσ' H'=>u r σ' H' Q
def pgs_nil:PGs X [] aCG:=by
 intro a s σ H d c Q I r h;obtain⟨e,h⟩:=h;subst e;cases r;exact assignInOrder_nil ⟨σ,H,I,h⟩
def SW{e:Expr}{es:Y04}{t:TG}{u:VN}(h1:PG X e t)(h2:PGs X es u)
  (hs:(assignEach (e::es) X.env).map (·.2)=YcJ e::(assignEach es X.env).map (·.2):=by rfl):PGs X (e::es) (UD t u):=by
 intro a s σ H j m Q I r h;obtain⟨v,l,i,h⟩:=h;subst i;cases r with
 | cons r rr =>
  rw[hs];refine assignInOrder_cons (thn (h1 a s σ H _ _ _ I r h) λ_ c ⟨g,H1,I1,d⟩=>?_);exact h2 a c g H1 _ _ Q I1 rr d
def aCF(K:Aa)(n:Nat)(t:VN):TG:=λv σ H Q=>∃a xs,v=Y3/\Y4q a/\Y2v n/\t xs σ H Q
def aCd{es:Y04}{k:Nat}{t:VN}{n:Nat}(hc:Y1J)(h:PGs X es t)
  (hn:(assignEach es X.env).length=n:=by rfl) (hst:(assignEach es X.env).findIdx? (·.1)=none:=by rfl):PG X (.Tuple es k pos) (aCF X.K n t):=by
 intro c s σ H v u Q I r d;obtain⟨a,i,m,w,p,d⟩:=d;subst m;cases r;obtain⟨g,rv,x,y⟩:=I.tuple w;refine assign_Tuple_tuple (Y8Q) x (by simp[hn,<-p,rv.length]) hst λl j=>?_;have I1:Y1D c H ({ s with heap:=l }):=I.kept (t':=s.toks) λb o e=>j b o (cK (aY e)) e;exact h c _ σ H i _ Q I1 (by simpa using rv) d
def aDS(to ti:TE)(t:ZO):TG:=λv σ H Q=>to σ H λo H1=>ti σ H1 λi H2=>t o i v H2 λH3=>Q σ H3
def aCe{o i:Expr}{to ti:TE}{t:ZO}(ho:Yl o to)(hi:Yl i ti)(hs:aCY X t)
  (ha:∀v,assign (.Subscript o i pos) X.env v=(do
   let ov <-holding [v] (eval o X.env)
   let iv <-holding [v,ov] (eval i X.env)
   standAt pos
   holding [v,ov,iv] (setItem ov iv v)
   release [v,ov,iv] []):=by intro _;rfl):PG X (Y7B o i) (aDS to ti t):=by
 intro a s σ H v u Q I r h;rw[ha];refine YaN (thn (ho a s σ H _ I h) λov e ⟨x,H1,I1,j,g⟩=>?_);refine YaN (thn (hi a e σ H1 _ I1 g) λiv d ⟨y,H2,I2,c,l⟩=>?_);refine YaO (YaN (thn (hs a d σ H2 x y v ov iv u _ I2 j c r l) λ_ n ⟨H3,I3,m⟩=>?_));exact wpAny_release ⟨σ,H3,I3,m⟩
def FX(te:TE)(g:TG):TS:=λD σ H=>te σ H λx H1=>g x σ H1 D.nx
def aCa{tg e:Expr}{te:TE}{g:TG}(he:Yl e te)(hg:PG X tg g)(hs:YdH [tg] e X.env=Y4C:=by rfl)(hw:YdU [tg] e=pure none:=by rfl)
  (h1:(assignEach [tg] X.env).map (·.2)=[YcJ tg]:=by rfl):PS X (Y6D [tg] e) (FX te g):=by
 intro a s σ H D I h;refine wpAny_Assign_stores (thn (he a s σ H _ I h) λv c ⟨x,H1,I1,i,d⟩=>?_) hs hw;rw[h1];exact thn (hg a c σ H1 x v _ I1 i d) λ_ j q=>q
def aB5{i:Nat}{x:Str}{e:Expr}{te:TE}{pos':Pos}(hN:X.N.Nodup)(hi:Y2c=Y8)(hx:Y9F x)(he:Yl e te)(hs:Ybs e YbM=Y4C:=by rfl)(hf:Y8i=true\/Y6n x:=by first | exact .inl rfl | exact .inr rfl | assumption) :
  PS X (Y6D [YbM] e) (FX te (oK i)):=by
 intro a s σ H D I h;refine wpAny_Assign_Name (thn (he a s σ H _ I h) λv g ⟨y,H1,I1,d,c⟩=>?_) hs;exact sD I1 hN hi hx d (λj I2=>⟨_,H1,I2,c⟩) hf
def aDi(i j:Nat)(ta:TA):TS:=λD σ H=>ta σ H λvs H1=>∃v w,vs=[v,w]/\D.nx ((σ.set i (some v)).set j (Y74)) H1
def aB7{i j:Nat}{x y:Str}{a b:Expr}{ta:TA}{px py pt:Pos}{kt k2 pt2}(hc:Y1J)(hN:X.N.Nodup)(hi:Y2c=Y8)(hj:X.N[j]?=Y0j)(hij:i≠j)
  (hx:Y6n x) (hy:Y6n y) (ha:PA X [a,b] ta)
  (hw:YdU [Y3s [Y5B,Y4k] kt] (Ybx [a,b] k2)=pure (some [x,y]))
  (hs:YdH [Y3s [Y5B,Y4k] kt] (Ybx [a,b] k2) X.env=Y4C:=by rfl) :
  PS X (Y6D [Y3s [Y5B,Y4k] kt] (Ybx [a,b] k2)) (aDi i j ta):=by
 intro c s σ H D I h;rw[exec_Assign_arm];refine YaO ?_;rw[hs];refine Y2r ?_;rw[Y7M];refine wpAny_bind (Tuple_ (thn (ha _ c s σ H _ I h) λu d ⟨C,H1,I1,z,l⟩=>?_));obtain⟨v,w,r,l⟩:=l;subst r;obtain⟨u1,g,rfl,rv,m⟩:∃u1 g,u=[u1,g]/\eI v u1/\eI w g:=by
  cases z with
  | cons p q =>
   cases q with
   | cons p' q' =>
    cases q';exact Y1C _ p p'
 refine YdI (by show Y0r 2;decide);have I2:Y1D c H1 ({ d with heap:=d.heap.push { cls:=.type "tuple",data:=.seq [u1,g].toArray } }):=Ycl d.toks _ e;rw[hw];refine Y2r ?_;show wpAny (Y6K) X.A (do rule "assign.swapped-stores";let items <-unpackItems (.ref d.heap.objs.size) 2 none;assignInOrder [λv=>bindName X.env y v,λv=>bindName X.env x v] items.reverse;pure Flow.next) _ _ _;refine Y9t (wpAny_bind (unpackItems_tuple (items:=#[u1,g]) (Y8Q) (YcT d.heap) λh' n=>?_));have I3:=I2.kept (h':=h') (t':=d.toks) λb o e=>n b o (cK (aY e)) e;show Y0W (assignInOrder [λv=>bindName X.env y v,λv=>bindName X.env x v] [g,u1] >>= λ_=>pure Flow.next);refine wpAny_bind (assignInOrder_cons (wpAny_bindName (sD I3 hN hj (.inl hy) m (λB I4=>?_) (.inr hy))));refine assignInOrder_cons (wpAny_bindName (sD I4 hN hi (.inl hx) rv (λG I5=>assignInOrder_nil (Y1F)) (.inr hx)));rw[List.set_comm _ _ (Ne.symm hij)]at I5;exact⟨_,H1,I5,l⟩
end
section
variable{X:Cx}{pos:Pos}
def DJ(c:TT)(tb:TS):TS:=λD σ H=>∃W:Nat->St->Hp->Prop,(∃m,W m σ H)/\∀m σ H,W m σ H ->
 c σ H λb H1=>if b=true then ∃N:St->Hp->Prop,(∀σ' H',N σ' H'->∃m',m' < m/\W m' σ' H')/\(tb { D with nx:=N,ct:=N,bk:=D.nx } σ H1) else Y7z H1
def SR{c:Expr}{body:Y3r}{tc:TT}{tb:TS}(hp:Ycw X.A X.env X.xe)(hc:PT X c tc)(hb:KU X body tb):PS X (.While c body [] pos) (DJ tc tb):=by
 intro a s σ H D I h;obtain⟨W,⟨B,y⟩,d⟩:=h;refine wpAny_While (codeAny_whileLoop (λn z=>∃σ' H',cL X a σ' H' z/\W n σ' H') ?_ B ⟨σ,H,I,y⟩);rintro n x ⟨g,H1,I1,C⟩;refine Y9u hp (hc a x g H1 _ I1 (d n g H1 C)) (λb u ⟨H2,I2,i⟩=>?_);cases b with
 | true =>
  obtain⟨N,r,i⟩:=i;rw[Y12];refine Y9u hp (hb a u g H2 _ I2 i) (λf G j=>?_);cases f with
  | next =>
   obtain⟨e,H3,I3,n3⟩:=j;obtain⟨m,l,p⟩:=r e H3 n3;exact⟨m,l,e,H3,I3,p⟩
  | cont =>
   obtain⟨e,H3,I3,n3⟩:=j;obtain⟨m,l,p⟩:=r e H3 n3;exact⟨m,l,e,H3,I3,p⟩
  | brk=>exact j
  | ret v=>exact j
 | false =>
  rw[if_neg cH];exact YdT g H2 I2 i
end
structure It where
 go:Y1M Nat
 yld:Nat->Hp->Y2L
 stop:Y1M Nat
def qD(X:Cx)(pins:Ae)(H:Hp)(b:Addr):Prop :=
 H b=none/\Y4w b/\b ∉ X.fs/\(b∈X.ex\/Y8s b)/\(∀x c,Y2U=Y09->c≠b)/\∀p∈X.pn++pins,p.1≠b
def cL.fpOk{X:Cx}{pins:Ae}{σ:St}{H H':Hp}{s:Shared}{b:Addr}(I:Y1)(hb:Ye1 b)(hn:Y1E=none):Y3C X H' b:=by
 refine⟨hn,Nat.ne_of_gt (aS I.lt hb),I.nofs hb,.inr (aP I.sz hb),λx c e z=>?_,λp a z=>?_⟩
 ·obtain⟨v,q⟩:=Y99 x e;exact absurd (aS q.lt (by rw[z];exact hb)) (cY _)
 ·exact absurd (aS (aY (Y6m a).1) (by rw[z];exact hb)) (cY _)
structure IJ(P:Program)(w:World)(K:Aa)(tg:Expr)(J:It)(fp:Y0t)(it:Addr)(tn:Nat->Y4G):Prop where
 mem:it∈fp
 obj:∀i h,tn i h->∀b∈fp,∃o,Y0M=Y7/\∀v,o.data ≠ .cell v
 keep:∀i h h',tn i h->(∀b∈fp,∀o,Y0M=Y7->Y0n=Y7)->tn i h'
 item:∀(X:Cx),X.prog=P->X.w=w->X.K=K->Y1J->∀(i:Nat) (pins:Ae) (s:Shared) (σ:St) (H:Hp) (E:Y5),Y1->(∀b∈fp,Y3C X H b)->tn i s.heap->Y7d H ->
  wpAny (model P w) X.A (pyNext (.ref it)) (λr s1=>∃u,r=Yv /\
   wpAny (model P w) X.A (letOwnedTupleGo tg (Y4K) u) (λ_ s2=>∃x H',Y51 s2/\eI x u/\Y76 H x H'/\tn (i+1) s2.heap/\∀b∈fp,Y1E=none) E s1) E s
 done:∀(X:Cx),X.prog=P->X.w=w->X.K=K->Y1J->∀(i:Nat) (pins:Ae) (s:Shared) (σ:St) (H:Hp) (E:Y5),Y1->(∀b∈fp,Y3C X H b)->tn i s.heap->J.stop i H ->
  wpAny (model P w) X.A (pyNext (.ref it)) (λr s1=>r=none/\Y5Q s1) E s
 self:∀(A:Around) (i:Nat) (s:Shared) (Q:Y5) (E:Y5),tn i s.heap->Y10 it s->wpAny (model P w) A (pyIter (Y4K)) Q E s
abbrev TI:=St->Y5G (Y1M It)
def PIE(X:Cx)(pins:Ae)(σ:St)(tg:Expr)(R:Y1M It)(itv:Value)(s2:Shared):Prop :=
 ∃(it:Addr) (fp:Y0t) (tn:Nat->Y4G) (J:It) (H':Hp),itv=Y4K/\Y51 s2/\IJ X.prog X.w X.K tg J fp it tn/\tn 0 s2.heap/\(∀b∈fp,Y3C X H' b)/\R J H'
def PI(X:Cx)(tg iter:Expr)(wi:TI):Prop :=
 ∀(pins:Ae) (s:Shared) (σ:St) (H:Hp) (R:Y1M It),Y1->wi σ H R ->
  Y4c (Y0d iter) (λv s1=>Y9q (pyIter v) (PIE X pins σ tg R) s1)
def NC{M:Model}{A:Around}{E:Y5}{s:Shared}{tg:Expr}{it:Addr}{u:Value}{o:Obj}{n:String}{vs:Aj}{Q:Y46}(ho:Y9m it)(hc:o.cls=.type n)(hd:o.data=Y8R)
    (hn:Yq (["enumerate","zip","dict_itemiterator","dict_reverseitemiterator","odict_iterator","itertools.zip_longest","itertools.pairwise"].contains n)) (hQ:Q () s):Y5I A (letOwnedTupleGo tg (Y4K) u) Q E s:=by
  unfold letOwnedTupleGo;cases tg <;> first
    | exact wpAny_pure hQ
    | (cases u <;> first
        | exact wpAny_pure hQ
        | (refine Yfi ho ?_
           rw[hc,hd];show Y5I A (if(["enumerate","zip","dict_itemiterator","dict_reverseitemiterator","odict_iterator","itertools.zip_longest","itertools.pairwise"].contains n&&vs[0]? == some (rawInt _))=true then _ else _) Q E s;rw[if_neg (by intro h;rw[hn,Bool.false_and]at h;cases h)];exact wpAny_pure hQ))
def Itl(K:Aa)(a:Addr):It :=
 ⟨Yez (Y2P K H a/\Y0Y=Y8),λi H x H'=>H'=H/\∀xs,Y2P K H a->Y0Y=Y8,λi H=>∃xs,Y2P K H a/\Y5Z i⟩
def Itt(K:Aa)(a:Addr):It :=
 ⟨Yez (Y4q a/\Y0Y=Y8),λi H x H'=>H'=H/\∀xs,Y4q a->Y0Y=Y8,λi H=>∃xs,Y4q a/\Y5Z i⟩
def ZT(lo:Int)(n:Nat):It:=⟨λi _=>i<n,λi H x H'=>H'=H/\x=.int (lo+i),λi _=>n<=i⟩
def OL{P:Program}{w:World}{K:Aa}{tg:Expr}(a it:Addr):IJ P w K tg (Itl K a) [it] it (λi h=>h.IsListIter it a i) where
 mem:=by simp
 obj:=λi h g b l=>by
  have e:b=it:=by simpa using l
  subst e;obtain⟨o,e,c,d⟩:=g;exact Y0U e (λv z=>by rw[d]at z;cases z)
 keep:=λi h n g k=>g.at λo e=>k it (by simp) o e
 item:=by
  intro X M N D S i j s σ H E I r g B;subst M N D;obtain⟨T,x,y,G⟩:=B;obtain⟨A,rv,p,ε⟩:=I.list y;obtain⟨u,U,Z⟩:=rv.get G;obtain⟨R,L,γ,J,O,C⟩:=r it (by simp);refine wpAny_pyNext_list_item g p.isList (x:=u) (by simpa using U) λn m α=>?_;have I1:Y1D j H ({ s with heap:=n }):=Y9w (λb o l e=>(α.2 b l).trans e) R L J O C;obtain⟨o,e,c,d⟩:=id m;exact Y0K u (NC (s:={ s with heap:=n }) e c d Dd ⟨x,H,I1,Z,Y1b (λζ δ=>by rw[I.list_inj δ y];exact G),m,λb l=>(r b l).1⟩)
 done:=by
  intro X M N D S i j s σ H E I r g B;subst M N D;obtain⟨T,y,G⟩:=B;obtain⟨A,rv,p,ε⟩:=I.list y;obtain⟨R,L,γ,J,O,C⟩:=r it (by simp);have η:=rv.length;exact wpAny_pyNext_list_end (I.ok.hd S) g p.isList (by simp;exact Oo) λn β=>Y1b (Y9w (λb o l e=>β b o l e) R L J O C)
 self:=λ_ _ _ _ _ g h=>wpAny_pyIter_listiter g h
def IU{P:Program}{w:World}{K:Aa}{tg:Expr}(a it:Addr):IJ P w K tg (Itt K a) [it] it (λi h=>h.IsTupleIter it a i) where
 mem:=by simp
 obj:=λi h g b m=>by
  have e:b=it:=by simpa using m
  subst e;obtain⟨o,e,c,d⟩:=g;exact Y0U e (λv z=>by rw[d]at z;cases z)
 keep:=λi h r g k=>g.at λo e=>k it (by simp) o e
 item:=by
  intro X M N D S i j s σ H E I y g B;subst M N D;obtain⟨T,x,A,G⟩:=B;obtain⟨l,rv,p,ε⟩:=I.tuple A;obtain⟨u,U,Z⟩:=rv.get G;obtain⟨R,L,γ,J,O,C⟩:=y it (by simp);refine wpAny_pyNext_tuple_item g (show s.heap.IsTuple a l.toArray from p) (x:=u) (by simpa using U) λr n α=>?_;have I1:Y1D j H ({ s with heap:=r }):=Y9w (λb o m e=>(α.2 b m).trans e) R L J O C;obtain⟨o,e,c,d⟩:=id n;exact Y0K u (NC (s:={ s with heap:=r }) e c d Dd ⟨x,H,I1,Z,Y1b (λζ δ=>by rw[I.tuple_inj δ A];exact G),n,λb m=>(y b m).1⟩)
 done:=by
  intro X M N D S i j s σ H E I y g B;subst M N D;obtain⟨T,A,G⟩:=B;obtain⟨l,rv,p,ε⟩:=I.tuple A;obtain⟨R,L,γ,J,O,C⟩:=y it (by simp);have η:=rv.length;exact wpAny_pyNext_tuple_end (I.ok.hd S) g (show s.heap.IsTuple a l.toArray from p) (by simp;exact Oo) λr β=>Y1b (Y9w (λb o m e=>β b o m e) R L J O C)
 self:=λ_ _ _ _ _ g h=>wpAny_pyIter_tupleiter g h
def IV{P:Program}{w:World}{K:Aa}{tg:Expr}(it:Addr)(lo:Int)(n:Nat):IJ P w K tg (ZT lo n) [it] it (λi h=>IsRangeIter h it (lo+(i:Nat)*1) ((n:Int)-(i:Nat)) 1) where
 mem:=by simp
 obj:=λi h a b d=>by
  have e:b=it:=by simpa using d
  subst e;exact⟨_,a,λv z=>by
   have O:Data.fields _=Data.cell v:=z;cases O⟩
 keep:=λi h j a k=>k it (by simp) _ a
 item:=by
  intro X y A r B i c s σ H E I l a m;subst y A r;obtain⟨D,x,N,u,C,p⟩:=l it (by simp);have W:=Walks.range (prog:=X.prog) (w:=X.w) (I.ok.hd B) it lo 1 n;refine W.item i s _ _ m a λv j G L g J=>?_;obtain⟨t,rfl⟩:=L;have I1:Y1D c H ({ s with heap:=j,toks:=G }):=I.turned (λb o d e=>J b o (by simpa using d) e) D x u C p;refine Y6 (NC (s:={ s with heap:=j,toks:=G }) (n := "range_iterator") g rfl rfl Dd ⟨.int (lo+i),H,I1,Y0b t,Y6k,g,λb d=>(l b d).1⟩);rw[Int.mul_one]
 done:=by
  intro X y A r B i c s σ H E I l a m;subst y A r;obtain⟨D,x,N,u,C,p⟩:=l it (by simp);exact wpAny_pyNext_range_end (I.ok.hd B) a (by have:n<=i:=m;exact Oo) λj M=>Y1b (Y9w (λb o d e=>M b o d e) D x u C p)
 self:=λ_ _ _ _ _ a h=>wpAny_pyIter_rangeiter a h
section
variable{X:Cx}{tg:Expr}
def aAp(K:Aa)(tl:TE):TI:=λσ H R=>tl σ H λx H1=>∃a,x=Y3/\(∃xs,Y2P K H1 a)/\R (Itl K a) H1
def aDQ(K:Aa)(tl:TE):TI:=λσ H R=>tl σ H λx H1=>∃a,x=Y3/\(∃xs,fY K H1 a xs)/\R (Itt K a) H1
def XW{l:Expr}{tl:TE}(hl:Yl l tl):PI X tg l (aAp X.K tl):=by
 intro c s σ H R I h;refine thn (hl c s σ H _ I h) λv d ⟨x,H1,I1,m,j⟩=>?_;obtain⟨a,e,⟨r,n⟩,q⟩:=j;subst e;cases m;obtain⟨g,rv,p,u⟩:=I1.list n;refine wpAny_pyIter_list p.isList ⟨d.heap.objs.size,[d.heap.objs.size],_,_,H1,rfl,Ycl d.toks _ e,OL a _,Y89 _,λb i=>?_,q⟩;have e:b=d.heap.objs.size:=by simpa using i
 subst e;exact YaP Yn Yn
def aCc{l:Expr}{tl:TE}(hl:Yl l tl):PI X tg l (aDQ X.K tl):=by
 intro d s σ H R I h;refine thn (hl d s σ H _ I h) λv c ⟨x,H1,I1,m,j⟩=>?_;obtain⟨a,e,⟨r,n⟩,q⟩:=j;subst e;cases m;obtain⟨g,rv,p,u⟩:=I1.tuple n;refine wpAny_pyIter_tuple (show c.heap.IsTuple a g.toArray from p) ⟨c.heap.objs.size,[c.heap.objs.size],_,_,H1,rfl,Ycl c.toks _ e,IU a _,Y89 _,λb i=>?_,q⟩;have e:b=c.heap.objs.size:=by simpa using i
 subst e;exact YaP Yn Yn
def SN{pins:Ae}{σ:St}{H:Hp}{s:Shared}{R:Y1M It}{E:Y5}{lo hi:Int}{t u v:Tok}{tk:Nat}(I:Y1)(h1:-(2^62)<=lo)(h2:lo<2^62)(h3:-(2^62)<=hi)(h4:hi<2^62)
  (q:R (ZT lo (hi-lo).toNat) H):Y7s (pyIter (Y24)) (PIE X pins σ tg R) E ({ s with heap:=s.heap.push { cls:=.type "range",data:=.fields #[.int lo t,.int hi u,.int 1 v] },toks:=tk }):=by
 refine wpAny_pyIter_range (IsRange.new ..) (small_one h1 h2 h3 h4) ?_;have I1:Y5Q ({ s with heap:=s.heap.push { cls:=.type "range",data:=.fields #[.int lo t,.int hi u,.int 1 v] },toks:=tk }):=I.kept (YaR _ e);refine⟨(s.heap.push { cls:=.type "range",data:=.fields #[.int lo t,.int hi u,.int 1 v] }).objs.size,[(s.heap.push { cls:=.type "range",data:=.fields #[.int lo t,.int hi u,.int 1 v] }).objs.size],_,_,H,rfl,
  Ycl tk _ e,IV _ lo (hi-lo).toNat,?_,λb d=>?_,q⟩
 ·have a:lo+((0:Nat):Int)*1=lo:=by simp
  have c:(((hi-lo).toNat:Nat):Int)-((0:Nat):Int)=Builtin.Range.rangeSize lo hi 1:=by rw[rangeSize_one];split <;> exact Oo
  show IsRangeIter _ _ (lo+((0:Nat):Int)*1) ((((hi-lo).toNat:Nat):Int)-((0:Nat):Int)) 1;rw[a,c];exact Y17
 ·have e:b=(s.heap.push { cls:=.type "range",data:=.fields #[.int lo t,.int hi u,.int 1 v] }).objs.size:=by simpa using d
  subst e;exact YaP Yn Yn
def aAo(ta:TA):TI:=λσ H R=>ta σ H λvs H1=>∃j:Int,vs=[.int j]/\-(2^62)<=j/\j<2^62/\R (ZT 0 j.toNat) H1
def OY{a:Expr}{ta:TA}{p pos:Pos}(hg:Gl X "range")(hm:X.mg "range" = none)(ha:PA X [a] ta)(hs:Y3P a=[(false,Y0d a)]:=by rfl):PI X tg (Y64 "range" p [a] []) (aAo ta):=by
 intro c s σ H R I h;refine Call_ (qY I hg hm boot_range (YaJ (ha pos c s σ H _ I h) (λn l ⟨m,H1,I1,g,d⟩=>?_) hs rfl));obtain⟨j,e,d,i,q⟩:=d;subst e;cases g with
 | cons r rr =>
  cases rr;obtain⟨t,rfl⟩:=r;exact call_range_1 (SN I1 Oo Oo d i (by simpa using q))
def aDl(wi:TI)(g:TG)(tb:TS):TS:=λD σ H=>wi σ H λJ H1=>∃W:Nat->Nat->St->Hp->Prop,(Y7c 0 m σ H1)/\∀i m σ H,W i m σ H ->
 (J.stop i H/\Y3H)\/(Y7d H/\∃N:St->Hp->Prop,Yac (N σ' H'->∃m',m' < m/\W (i+1) m' σ' H') (Y76 H x H'->g x σ H' (Y54 ({ D with nx:=N,ct:=N,bk:=D.nx }))))
def AA(fp:Y0t)(h:Heap):Ae:=fp.filterMap λb=>(h.get? b).map λo=>(b,o)
def qW{fp:Y0t}{h:Heap}{b:Addr}{o:Obj}(hb:b∈fp)(e:Y0M=Y7):(b,o)∈AA fp h:=List.mem_filterMap.mpr ⟨b,hb,by rw[e];rfl⟩
def PB{fp:Y0t}{h:Heap}{p:Addr × Obj}(hp:p∈AA fp h):p.1∈fp/\h.get? p.1=some p.2:=by
 obtain⟨b,c,e⟩:=List.mem_filterMap.mp hp;cases q:Y0M with
 | none=>rw[q]at e;cases e
 | some o =>
  rw[q]at e;have a:(b,o)=p:=gR e;subst a;exact⟨c,q⟩
def cL.pinned{pins:Ae}{σ:St}{H:Hp}{s:Shared}{fp:Y0t}(I:Y1)(hf:∀b∈fp,Y3C X H b)(ho:∀b∈fp,∃o,Y32/\∀v,o.data ≠ .cell v):Y1D (pins++AA fp s.heap) H s :=
 I.pins_of λp g=>(bY.mp g).elim (λz=>Y6m (bZ _ z)) λz=>by
  obtain⟨c,e⟩:=PB z;obtain⟨h,i,j,_⟩:=hf p.1 c;obtain⟨o,a,d⟩:=ho p.1 c;rw[e]at a;cases a;exact⟨e,h,i,j,d⟩
def cL.unpinned{pins pl:Ae}{σ:St}{H:Hp}{s:Shared}(I:Y1D (pins++pl) H s):Y1:=I.pins_of λp a=>Y6m (bZ _ (cD _ a))
def aB8{iter:Expr}{body:Y3r}{wi:TI}{g:TG}{tb:TS}{pos:Pos}(hp:Ycw X.A X.env X.xe)(hc:Y1J)(hi:PI X tg iter wi)(hg:PG X tg g)(hb:KU X body tb)
  (hs:∀x,Y7W x=Y8j:=by intro _;rfl):PS X (.For tg iter body [] pos) (aDl wi g tb):=by
 intro a s σ H D I h;refine wpAny_For (thn (hi a s σ H _ I h) λv s1 ι=>thn ι λτ s2 κ=>?_) hs;obtain⟨it,C,δ,J,H2,e,I2,T,R,γ,W,⟨φ,w0⟩,M⟩:=κ;subst e;have j:∀{H':Hp},(∀b∈C,Y1E=none)->∀b∈C,qD X a H' b:=λυ b hb=>⟨υ b hb,(γ b hb).2⟩;refine codeAny_forLoop_any (λn β=>∃i σ' H',cL X a σ' H' β/\δ i β.heap/\(∀b∈C,Y1E=none)/\W i n σ' H') ?_ φ ⟨0,σ,H2,I2,R,λb hb=>(γ b hb).1,w0⟩;rintro n α ⟨i,z,H3,I3,L,O,ρ⟩;rcases M i n z H3 ρ with⟨G,qn⟩ | ⟨ω,N,ν,step⟩
 ·refine Y9u hp (T.done X rfl rfl rfl hc i a α z H3 X.xe I3 (j O) L G) (λr s4 ⟨S,I4⟩=>?_);subst S;exact YdT z H3 I4 qn
 ·refine Y9u hp (T.item X rfl rfl rfl hc i a α z H3 X.xe I3 (j O) L ω) (λr s4 ⟨u,S,ξ⟩=>?_);subst S;refine Y9u hp ξ (λ_ Z ⟨x,H5,I5,ο,ψ,y,U⟩=>?_);have I5':=I5.pinned (j U) (T.obj _ _ y);refine Y9u hp (hg _ Z z H5 x u _ I5' ο (step x H5 ψ)) (λ_ s6 ⟨ε,H6,I6,η⟩=>?_);refine Y9u hp (hb _ s6 ε H6 _ I6 η) (λf P p=>?_);have c:∀{l:St} {H7:Hp},cL X (a++AA C Z.heap) l H7 P->N l H7->∃m,m<n/\∃i σ' H',cL X a σ' H' P/\δ i P.heap/\(∀b∈C,Y1E=none)/\W i m σ' H':=λ{l H7} I7 B=>by
   obtain⟨μ,χ,ζ⟩:=ν l H7 B;refine⟨μ,χ,i+1,l,H7,I7.unpinned,T.keep _ _ _ y λb hb o e=>(I7.pin (b,o) (bZ _ (bZ _ (qW hb e)))).1,λb hb=>?_,ζ⟩;obtain⟨o,e,d⟩:=T.obj _ _ y b hb;exact(I7.pin (b,o) (bZ _ (bZ _ (qW hb e)))).2.1
  cases f with
  | next=>obtain⟨l,H7,I7,B⟩:=p;exact c I7 B
  | cont=>obtain⟨l,H7,I7,B⟩:=p;exact c I7 B
  | brk=>obtain⟨l,H7,I7,p⟩:=p;exact⟨l,H7,I7.unpinned,p⟩
  | ret v=>obtain⟨x7,l,H7,I7,θ,p⟩:=p;exact⟨x7,l,H7,I7.unpinned,θ,p⟩
end
def jU{K:Aa}{a:Addr}{xs:An}{g:TG}{tb:TS}{D:oR}{σ:St}{H:Hp}(Pv:Nat->Y1w)(h0:Y6L 0)(hl:∀i σ H,Y60 i->Y2M->Y2P K H a)
  (hs:∀i x σ H,Y0Y=Y8->Y2M->g x σ H (Y54 ({ D with nx:=Pv (i+1),ct:=Pv (i+1),bk:=D.nx }))) (hd:∀σ H,Yet->Y3H) :
  ∃W:Nat->Nat->St->Hp->Prop,(Y7c 0 m σ H)/\∀i m σ H,W i m σ H ->
   ((Itl K a).stop i H/\Y3H)\/((Itl K a).go i H/\∃N:St->Hp->Prop,Yac (N σ' H'->∃m',m' < m/\W (i+1) m' σ' H') ((Itl K a).yld i H x H'->g x σ H' (Y54 ({ D with nx:=N,ct:=N,bk:=D.nx })))):=by
 refine Ybe (m=Y4F i/\Y60 i/\Y2M) ⟨xs.length,by simp,dH _,h0⟩;rintro i m σ H ⟨rfl,d,p⟩;have q:=hl i σ H d p;by_cases hlt:Y41 i
 ·refine .inr ⟨⟨xs,xs[i],q,by simp[hlt]⟩,Pv (i+1),λσ' H' c=>Y1d (Y4F (i+1)) Oo hlt c,Yen⟩;obtain⟨e,y⟩:=y;subst e;exact hs i x σ _ (y xs q) p
 ·have e:Y68 i:=Oo;subst e;exact Y3p ⟨xs,q,Yn⟩ (hd σ H p)
def sX{K:Aa}{a:Addr}{xs:An}{g:TG}{tb:TS}{D:oR}{σ:St}{H:Hp}(Pv:Nat->Y1w)(h0:Y6L 0)(hl:∀i σ H,Y60 i->Y2M->Y4q a)
  (hs:∀i x σ H,Y0Y=Y8->Y2M->g x σ H (Y54 ({ D with nx:=Pv (i+1),ct:=Pv (i+1),bk:=D.nx }))) (hd:∀σ H,Yet->Y3H) :
  ∃W:Nat->Nat->St->Hp->Prop,(Y7c 0 m σ H)/\∀i m σ H,W i m σ H ->
   ((Itt K a).stop i H/\Y3H)\/((Itt K a).go i H/\∃N:St->Hp->Prop,Yac (N σ' H'->∃m',m' < m/\W (i+1) m' σ' H') ((Itt K a).yld i H x H'->g x σ H' (Y54 ({ D with nx:=N,ct:=N,bk:=D.nx })))):=by
 refine Ybe (m=Y4F i/\Y60 i/\Y2M) ⟨xs.length,by simp,dH _,h0⟩;rintro i m σ H ⟨rfl,d,p⟩;have q:=hl i σ H d p;by_cases hlt:Y41 i
 ·refine .inr ⟨⟨xs,xs[i],q,by simp[hlt]⟩,Pv (i+1),λσ' H' c=>Y1d (Y4F (i+1)) Oo hlt c,Yen⟩;obtain⟨e,y⟩:=y;subst e;exact hs i x σ _ (y xs q) p
 ·have e:Y68 i:=Oo;subst e;exact Y3p ⟨xs,q,Yn⟩ (hd σ H p)
def gC{lo:Int}{n:Nat}{g:TG}{tb:TS}{D:oR}{σ:St}{H:Hp}(Pv:Nat->Y1w)(h0:Y6L 0)
  (hs:∀i σ H,i<n->Y2M->g (.int (lo+i)) σ H (Y54 ({ D with nx:=Pv (i+1),ct:=Pv (i+1),bk:=D.nx }))) (hd:∀σ H,Y6L n->Y3H) :
  ∃W:Nat->Nat->St->Hp->Prop,(Y7c 0 m σ H)/\∀i m σ H,W i m σ H ->
   ((ZT lo n).stop i H/\Y3H)\/((ZT lo n).go i H/\∃N:St->Hp->Prop,Yac (N σ' H'->∃m',m' < m/\W (i+1) m' σ' H') ((ZT lo n).yld i H x H'->g x σ H' (Y54 ({ D with nx:=N,ct:=N,bk:=D.nx })))):=by
 refine Ybe (m=n-i/\i<=n/\Y2M) ⟨n,by simp,dH _,h0⟩;rintro i m σ H ⟨rfl,c,p⟩;by_cases hlt:i<n
 ·refine .inr ⟨hlt,Pv (i+1),λσ' H' a=>Y1d (n-(i+1)) Oo hlt a,Yen⟩;obtain⟨e,y⟩:=y;subst e y;exact hs i σ _ hlt p
 ·have e:i=n:=Oo;subst e;exact Y3p Yn (hd σ H p)
abbrev R2:=V->V->(Hp->(Y0Z VK))
def rW(X:Cx)(f:Value->Value->Y7N)(r:R2):Prop :=
 ∀(pins:Ae) (s:Shared) (σ:St) (H:Hp) (x y:V) (v u:Value) (Q:VK),Y1->eI x v->Y4l->r x y H Q ->
  Y6Z (f v u) X σ Q
def UnR(X:Cx)(f:Value->Y7N)(r:V->(Hp->(Y0Z VK))):Prop :=
 ∀(pins:Ae) (s:Shared) (σ:St) (H:Hp) (x:V) (v:Value) (Q:VK),Y1->eI x v->r x H Q ->
  Y6Z (f v) X σ Q
def kL(X:Cx)(f:Value)(r:Y1o):Prop :=
 ∀(pins:Ae) (s:Shared) (σ:St) (H:Hp) (xs:An) (us:Ah) (Q:VK),Y1->Y6s->r xs H Q ->
  Y6Z (call f us) X σ Q
def WO(r:R2)(ta tb:TE):TE:=YbP σ H (tb σ H1 λy H2=>r x y H2 Q)
def tUn(r:V->(Hp->(Y0Z VK)))(ta:TE):TE:=YbP σ H (r x H1 Q)
def rI(C:Y0u Int Int)(g:Int->Int->V):R2:=λx y H Q=>∃i j,x=Y15/\y=.int j/\C i j/\Q (g i j) H
def rI0(g:Int->Int->V):R2:=λx y H Q=>∃i j,x=Y15/\y=.int j/\Q (g i j) H
def rU(g:Int->V):V->(Hp->(Y0Z VK)):=λx H Q=>∃i,x=Y15/\Q (g i) H
section
variable{X:Cx}{a b c:Expr}{ta tb tc:TE}{pos:Pos}
def aCT(ha:Y7f a)(hb:Yl b tb){pins:Ae}{s:Shared}{σ:St}{H:Hp}{R:V->Y2L}(I:Y1)
  (h:ta σ H λx H1=>tb σ H1 λy H2=>R x y H2) {Q:Y5} {f:Value->Value->Y7N}
  (hf:∀v u s2 x y H2,Y1Q H2 s2->eI x v->Y4l->R x y H2->Y9q (f v u) Q s2) :
  Y4c (Y0d a) (λv s₁=>Y9q (Y0d b) (λu s₂=>Y9q (f v u) Q s₂) s₁):=by
 exact thn (ha pins s σ H _ I h) λv c ⟨x,H1,I1,g,e⟩=>thn (hb pins c σ H1 _ I1 e) λu s2 ⟨y,H2,I2,i,d⟩=>hf v u s2 x y H2 I2 g i d
def aDD{op:Operator}{r:R2}(ho:Y4y X op r)(ha:Y7f a)(hb:Yl b tb):Yl (.BinOp a op b pos) (WO r ta tb):=by
 intro c s σ H Q I h;exact wpAny_BinOp (Yft ha hb I h (ho c g σ H2 x y v u Q I2 d e q))
def aDC{op:UnaryOp}{r:V->(Hp->(Y0Z VK))}(ho:UnR X (unaryOp op) r)(ha:Y7f a):Yl (Ybl op a) (tUn r ta):=by
 intro c s σ H Q I h;exact UnaryOp_ (thn (ha c s σ H _ I h) λv d ⟨x,H1,I1,g,e⟩=>ho c d σ H1 x v Q I1 g e)
def opI{f:Value->Value->Y7N}{C:Y0u Int Int}{g:Int->Int->Int}
  (rule:∀(i j:Int) (t u:Tok) (s:Shared) (Q:Y5) (E:Y5),C i j->Q (.int (g i j) s.toks) { s with toks:=s.toks+1 }->Y7s (f (Y7b i) (.int j u)) Q E s) :
  rW X f (rI C (Y8I (g i j))):=by
 intro a s σ H x y v u Q I l e h;obtain⟨i,j,rfl,rfl,d,q⟩:=h;obtain⟨t,rfl⟩:=l;obtain⟨c,rfl⟩:=e;exact rule i j t c s _ _ d ⟨.int (g i j),H,Y1H,Y3z,q⟩
def aDI{f:Value->Value->Y7N}{g:Int->Int->Int}
  (rule:∀(i j:Int) (t u:Tok) (s:Shared) (Q:Y5) (E:Y5),Q (.int (g i j) s.toks) { s with toks:=s.toks+1 }->Y7s (f (Y7b i) (.int j u)) Q E s) :
  rW X f (rI0 (Y8I (g i j))):=by
 intro a s σ H x y v u Q I e d h;obtain⟨i,j,rfl,rfl,q⟩:=h;obtain⟨t,rfl⟩:=e;obtain⟨c,rfl⟩:=d;exact rule i j t c s _ _ ⟨.int (g i j),H,Y1H,Y3z,q⟩
def YG{f:Value->Value->Y7N}{g:Int->Y2a Int}
  (rule:∀(i j:Int) (t u:Tok) (s:Shared) (Q:Y5) (E:Y5),Q (.bool (g i j)) s->Y7s (f (Y7b i) (.int j u)) Q E s) :
  rW X f (rI0 (YcU (g i j))):=by
 intro a s σ H x y v u Q I e d h;obtain⟨i,j,rfl,rfl,q⟩:=h;obtain⟨t,rfl⟩:=e;obtain⟨c,rfl⟩:=d;exact rule i j t c s _ _ (Y4V (g i j) H I q)
def aGF(i j:Int):Prop:=0<=j/\j<=1000000/\i.natAbs<2^64
def eB:Y4y X .Add (rI0 (Y8I (i+j))):=aDI λ_ _ _ _ _ _ _ q=>add_int q
def oG:Y4y X .Sub (rI0 (Y8I (i-j))):=aDI λ_ _ _ _ _ _ _ q=>sub_int q
def oH:Y4y X .Mod (rI (λ_ j=>0<j) (Y8I (i % j))):=opI λi j _ _ _ _ _ a q=>by
 exact mod_int' Oo (by rw[Int.fmod_eq_emod_of_nonneg i Oo];exact q)
def TJ:Y4y X .Pow (rI aGF (Y8I (i^j.toNat))):=opI λ_ _ _ _ _ _ _ a q=>pow_int_small a.1 a.2.1 a.2.2 q
def unI{f:Value->Y7N}{g:Int->Int}
  (rule:∀(i:Int) (t:Tok) (s:Shared) (Q:Y5) (E:Y5),Q (.int (g i) s.toks) { s with toks:=s.toks+1 }->Y7s (f (Y7b i)) Q E s) :
  UnR X f (rU λi=>.int (g i)):=by
 intro a s σ H x v Q I c h;obtain⟨i,rfl,q⟩:=h;obtain⟨t,rfl⟩:=c;exact rule i t s _ _ ⟨.int (g i),H,Y1H,Y3z,q⟩
def nQ:UnR X (unaryOp .USub) (rU λi=>.int (-i)):=unI λ_ _ _ _ _ q=>neg_int q
end
def scal:V->Y2a V
 | .non,.non=>true | .non,.int _=>true | .int _,.non=>true | .non,.bl _=>true | .bl _,.non=>true | .non,.str _=>true | .str _,.non=>true
 | .int _,.int _=>true | .bl _,.bl _=>true | .str _,.str _=>true | .byt _,.byt _=>true
 | .int _,.str _=>true | .str _,.int _=>true | .bl _,.str _=>true | .str _,.bl _=>true
 | _,_=>false
def rEq:R2:=λx y H Q=>scal x y=true/\Y1s (Y0Q x y)
def rNe:R2:=λx y H Q=>scal x y=true/\Y1s (! Y0Q x y)
def NM{i j:Int}:Y0Q (V.int i) (V.int j)=(i == j):=by
 rw[Bool.eq_iff_iff];simp
def UN{i j:Bool}:Y0Q (V.bl i) (V.bl j)=(i == j):=by
 rw[Bool.eq_iff_iff];simp
def NL{i j:Str}:Y0Q (V.str i) (V.str j)=(i == j):=by
 rw[Bool.eq_iff_iff];simp
def NN{i j:Array UInt8}:Y0Q (V.byt i) (V.byt j)=(i.toList == j.toList):=by
 rw[Bool.eq_iff_iff];cases i;cases j;simp
section
variable{X:Cx}{a b c:Expr}{ta tb tc:TE}{pos:Pos}
def fQ{pins:Ae}{σ:St}{H:Hp}{s:Shared}{Q:VK}{k k':Bool}(I:Y1)(q:Y1s k)(e:k=k'):EP X pins σ Q (.bool k') s:=by
 subst e;exact Y4V k H I q
def tO:Y2d .Eq rEq:=by
 intro g s σ H x y v u Q I e a h;obtain⟨d,q⟩:=h;cases x with
 | non =>
  cases e;cases y with
  | non=>cases a;exact PySem.EqNone.eq_none_none (Y0J (by simp))
  | bl j=>cases a;exact PySem.EqNone.eq_none_bool (Y0J (by simp))
  | int j=>obtain⟨c,rfl⟩:=a;exact PySem.EqNone.eq_none_int (Y0J (by simp))
  | str j=>obtain⟨c,rfl⟩:=a;exact PySem.EqNone.eq_none_str (Y0J (by simp))
  | _=>exact Y5r (show false=true from d)
 | bl i =>
  cases e;cases y with
  | non=>cases a;exact PySem.EqNone.eq_bool_none (Y0J (by simp))
  | bl j=>cases a;exact eq_bool (Y0J UN)
  | str j=>obtain⟨c,rfl⟩:=a;exact PySem.EqMixed.eq_bool_str (Y0J (by simp))
  | _=>exact Y5r (show false=true from d)
 | int i =>
  obtain⟨t,rfl⟩:=e;cases y with
  | non=>cases a;exact PySem.EqNone.eq_int_none (Y0J (by simp))
  | int j=>obtain⟨c,rfl⟩:=a;exact eq_int (Y0J NM)
  | str j=>obtain⟨c,rfl⟩:=a;exact PySem.EqMixed.eq_int_str (Y0J (by simp))
  | _=>exact Y5r (show false=true from d)
 | str i =>
  obtain⟨t,rfl⟩:=e;cases y with
  | non=>cases a;exact PySem.EqNone.eq_str_none (Y0J (by simp))
  | bl j=>cases a;exact PySem.EqMixed.eq_str_bool (Y0J (by simp))
  | int j=>obtain⟨c,rfl⟩:=a;exact PySem.EqMixed.eq_str_int (Y0J (by simp))
  | str j=>obtain⟨c,rfl⟩:=a;exact eq_str (Y0J NL)
  | _=>exact Y5r (show false=true from d)
 | byt i =>
  obtain⟨t,rfl⟩:=e;cases y with
  | byt j=>obtain⟨c,rfl⟩:=a;exact PySem.W.eq_bytes (Y0J NN)
  | _=>exact Y5r (show false=true from d)
 | _=>cases y <;> exact Y5r (show false=true from d)
def GN:Y2d .NotEq rNe:=by
 intro g s σ H x y v u Q I e a h;obtain⟨d,q⟩:=h;cases x with
 | non =>
  cases e;cases y with
  | non=>cases a;exact PySem.EqNone.ne_none_none (Y0J (by simp))
  | bl j=>cases a;exact PySem.EqNone.ne_none_bool (Y0J (by simp))
  | int j=>obtain⟨c,rfl⟩:=a;exact PySem.EqNone.ne_none_int (Y0J (by simp))
  | str j=>obtain⟨c,rfl⟩:=a;exact PySem.EqNone.ne_none_str (Y0J (by simp))
  | _=>exact Y5r (show false=true from d)
 | bl i =>
  cases e;cases y with
  | non=>cases a;exact PySem.EqNone.ne_bool_none (Y0J (by simp))
  | bl j=>cases a;exact ne_bool (Y0J (YeN UN))
  | str j=>obtain⟨c,rfl⟩:=a;exact PySem.EqMixed.ne_bool_str (Y0J (by simp))
  | _=>exact Y5r (show false=true from d)
 | int i =>
  obtain⟨t,rfl⟩:=e;cases y with
  | non=>cases a;exact PySem.EqNone.ne_int_none (Y0J (by simp))
  | int j=>obtain⟨c,rfl⟩:=a;exact ne_int (Y0J (YeN NM))
  | str j=>obtain⟨c,rfl⟩:=a;exact PySem.EqMixed.ne_int_str (Y0J (by simp))
  | _=>exact Y5r (show false=true from d)
 | str i =>
  obtain⟨t,rfl⟩:=e;cases y with
  | non=>cases a;exact PySem.EqNone.ne_str_none (Y0J (by simp))
  | bl j=>cases a;exact PySem.EqMixed.ne_str_bool (Y0J (by simp))
  | int j=>obtain⟨c,rfl⟩:=a;exact PySem.EqMixed.ne_str_int (Y0J (by simp))
  | str j=>obtain⟨c,rfl⟩:=a;exact ne_str (Y0J (YeN NL))
  | _=>exact Y5r (show false=true from d)
 | byt i =>
  obtain⟨t,rfl⟩:=e;cases y with
  | byt j=>obtain⟨c,rfl⟩:=a;exact PySem.W.ne_bytes (Y0J (YeN NN))
  | _=>exact Y5r (show false=true from d)
 | _=>cases y <;> exact Y5r (show false=true from d)
def GO:Y2d .Lt (rI0 (YcU (Y34 i j))):=YdP (lt_int q)
def aAj:Y2d .LtE (rI0 (YcU (decide (i<=j)))):=YdP (le_int q)
def sG:Y2d .Gt (rI0 (YcU (Y34 j i))):=YdP (gt_int q)
def MO:Y2d .GtE (rI0 (YcU (decide (j<=i)))):=YdP (ge_int q)
def nomark(b:Expr){op:CmpOp}(h:op ≠ .In:=by decide)(h2:op ≠ .NotIn:=by decide):Ycn op b:=by
 have c:Yq (op == CmpOp.In):=by cases op <;> first | rfl | exact absurd rfl h
 have a:Yq (op == CmpOp.NotIn):=by cases op <;> first | rfl | exact absurd rfl h2
 cases b <;> simp[behindInMarks,c,a]
def YB{op:CmpOp}{r:R2}(ho:Y2d op r)(ha:Y7f a)(hb:Yl b tb)(hm:Ycn op b):Yl (Y8Y [op] [b] pos) (WO r ta tb):=by
 intro c s σ H Q I h;exact wpAny_Compare1 (Yft ha hb I h (ho c g σ H2 x y v u Q I2 d e q)) hm
def ZY(t:TE):TT:=Y3N (λx H'=>∃k,x=.bl k/\Q k H')
def XQ{op:CmpOp}{r:R2}(ho:Y2d op r)(ha:Y7f a)(hb:Yl b tb)(hm:Ycn op b):PT X (Y8Y [op] [b] pos) (ZY (WO r ta tb)):=by
 intro d s σ H Q I h;refine wpAny_isTrue_Compare1 (thn (ha d s σ H _ I h) λv j ⟨x,H1,I1,n,l⟩=>thn (hb d j σ H1 _ I1 l) λu i ⟨y,H2,I2,g,p⟩ =>
  thn (ho d i σ H2 x y v u _ I2 n g p) λc A ⟨z,H3,I3,m,k,e,w⟩=>?_) hm
 subst e;cases m;exact wpAny_truthy_bool ⟨H3,I3,w⟩
def RT(r r':R2)(ta tb tc:TE):TE:=λσ H Q=>ta σ H λx H1=>tb σ H1 λy H2=>r x y H2 λz H3=>∃k,z=.bl k /\
 (if k=true then tc σ H3 λw' H4=>r' y w' H4 Q else Q (.bl false) H3)
def TB{op op':CmpOp}{r r':R2}(ho:Y2d op r)(ho':Y2d op' r')(ha:Y7f a)(hb:Yl b tb)(hc:Yl c tc)
  (hm:Yq (lastMarks [op,op'] [b,c]):=by with_unfolding_all rfl):Yl (Y8Y [op,op'] [b,c] pos) (RT r r' ta tb tc):=by
 intro g s σ H Q I h;refine Compare_chain (thn (ha g s σ H _ I h) λv n ⟨x,H1,I1,C,p⟩=>chain_link (thn (hb g n σ H1 _ I1 p) λu m ⟨y,H2,I2,i,G⟩ =>
  thn (ho g m σ H2 x y v u _ I2 C i G) λd D ⟨z,H3,I3,A,k,e,j⟩=>?_)) hm
 subst e;cases A;refine wpAny_truthy_bool ?_;cases k with
 | false=>exact ite_ff (Y4V false H3 I3 j)
 | true=>exact ite_tt (chain_last (thn (hc g D σ H3 _ I3 j) λL B ⟨J,H4,I4,w,l⟩=>ho' g B σ H4 y J u L Q I4 i w l))
def EF:(sizeLine:Nat)<2^63:=by rw[sizeLine_eq];decide
def lS{x:V}{us:Ah}(r:Y3x [x]):∃u,us=[u]/\eI x u:=by
 cases r with
 | cons r1 r2=>cases r2;exact Y6 r1
def RF{x y:V}{us:Ah}(r:Y3x [x,y]):∃u w',us=[u,w']/\eI x u/\eI y w':=by
 cases r with
 | cons r1 r2 =>
  cases r2 with
  | cons r3 r4=>cases r4;exact Y1C _ r1 r3
def UV:Y3W X "abs" (λxs H Q=>∃i,xs=[Y15]/\Y3M (if i<0 then -i else i)):=by
 intro a s σ H xs c Q I r h;obtain⟨i,rfl,q⟩:=h;obtain⟨u,rfl,t,rfl⟩:=lS r;exact call_abs_int λu d=>⟨.int (if i<0 then -i else i),H,Y1H,Y3z,q⟩
def CL:kL X (.type "int") (λxs H Q=>(∃i,xs=[Y15]/\Q (Y15) H)\/∃k,xs=[.bl k]/\Y3M (if k then 1 else 0)):=by
 intro a s σ H xs d Q I r h;rcases h with⟨i,rfl,q⟩ | ⟨k,rfl,q⟩
 ·obtain⟨u,rfl,t,rfl⟩:=lS r;exact call_int_int ⟨Y15,H,I,Y3z,q⟩
 ·obtain⟨u,rfl,c⟩:=lS r;cases c;exact call_int_bool ⟨.int (if k then 1 else 0),H,Y1H,Y3z,q⟩
def aEb(K:Aa)(x:V)(H:Hp)(n:Nat):Prop :=
 match x with
 | .str y=>y.length<=sizeLine/\n=y.length
 | .byt y=>y.size<=sizeLine/\n=y.size
 | .ref p=>(∃xs,gW K H p xs/\n=xs.length)\/∃xs,fY K H p xs/\n=xs.length
 | _=>False
def UU:Y3W X "len" (λxs H Q=>∃x n,xs=[x]/\aEb X.K x H n/\Y3M n):=by
 intro m s σ H xs A Q I r h;obtain⟨x,n,rfl,e,q⟩:=h;obtain⟨u,rfl,j⟩:=lS r;have B:sizeLine=16777216:=sizeLine_eq;cases x with
 | str y =>
  obtain⟨t,rfl⟩:=j;obtain⟨w,c⟩:Y0r y.length/\n=y.length:=e;subst c;exact len_str Oo ⟨.int _,H,Y1H,Y3z,q⟩
 | byt y =>
  obtain⟨t,rfl⟩:=j;obtain⟨w,c⟩:Y0r y.size/\n=y.size:=e;subst c;exact PySem.W.len_bytes Oo ⟨.int _,H,Y1H,Y3z,q⟩
 | ref p =>
  cases j;have c:(∃xs,Y2P X.K H p/\Y68 n)\/∃xs,fY X.K H p xs/\Y68 n:=e;rcases c with⟨xs,g,c⟩ | ⟨xs,g,c⟩
  ·subst c;obtain⟨d,i,l,z⟩:=I.list g;have a:=i.length;exact Calls.call_len_list l.isList (by simp only[bE];exact Oo) ⟨.int xs.length,H,Y1H,Y0C (by simp only[bE];rw[a]),q⟩
  ·subst c;obtain⟨d,i,l,z⟩:=I.tuple g;have a:=i.length;exact len_tuple l (by simp only[bE];exact Oo) ⟨.int xs.length,H,Y1H,Y0C (by simp only[bE];rw[a]),q⟩
 | _=>exact(show False from e).elim
end
structure aCZ(h:Heap)(x dx C:Addr)(mA:Y0a):Prop where
 obj:h.get? x=some (PySem.W.instObj C dx)
 ns:h.Ns1 dx mA
 ne:dx≠x
def BZ{h:Heap}{dx:Addr}{mA:Y0a}(n:h.Ns1 dx mA):∃od,h.get? dx=some od/\∀name,PySem.W.lookIn name od=some (mA name):=by
 obtain⟨o,d,p,j,hd,m,_,g⟩:=n;refine Y0U j (λname=>?_);have e:=g name;unfold nsFind findBy at e;rw[<-Array.find?_toList]at e;unfold PySem.W.lookIn;rw[hd];dsimp only;split
 ·rename_i y q
  rw[q]at e;exact congrArg some e
 ·rename_i q
  rw[q]at e;have a:Yq (d.toList.any (·.refKey)):=by
   rw[List.any_eq_false];intro y i;obtain⟨z,t,c⟩:=m y (Array.mem_toList_iff.mp i);simp[DictEntry.refKey,c]
  have l:¬d.toList.any (·.refKey)=true:=by rw[a];exact cH
  rw[if_neg l];exact congrArg some e
def aCZ.look{h:Heap}{x dx C:Addr}{mA:Y0a}(I:aCZ h x dx C mA):∃od,PySem.W.InstAt h x (PySem.W.instObj C dx) C (some od)/\∀name,PySem.W.lookIn name od=some (mA name) :=
 let ⟨od,ho,hl⟩:=BZ I.ns
 ⟨od,Y6A I.obj rfl ho,hl⟩
section
variable{prog:Program}{w:World}{A:Around}{E:Y5}{s:Shared}{K:Aa}{x dx C f:Addr}{mA:Y0a}{name:Str}{v:Value}
end
def xR(f:Str)(v:V):Y3k V->Y3k V
 | []=>[(f,v)]
 | (g,x)::r=>if g=f then(g,v)::r else(g,x)::xR f v r
theorem xL(f g:Str)(v:V):∀fs:List (Str × V),(xR f v fs).lookup g=if g=f then Yi else fs.lookup g
 | []=>by
  show List.lookup g [(f,v)]=_;by_cases h:g=f
  ·have hb:(g == f)=true:=jX.mpr h;simp only[List.lookup,hb,if_pos h]
  ·have hb:(g == f)=false:=beq_eq_false_iff_ne.mpr h;simp only[List.lookup,hb,if_neg h]
 | (k,x)::r=>by
  have a:=xL f g v r;rw[show xR f v ((k,x)::r)=(if k=f then(k,v)::r else(k,x)::xR f v r)from rfl];by_cases hk:k=f
  ·rw[if_pos hk];by_cases h:g=k
   ·have hb:(g == k)=true:=jX.mpr h;simp only[List.lookup,hb,if_pos (h.trans hk)]
   ·have hb:(g == k)=false:=beq_eq_false_iff_ne.mpr h;simp only[List.lookup,hb,if_neg (λe:g=f=>h (e.trans hk.symm))]
  ·rw[if_neg hk];by_cases h:g=k
   ·have hb:(g == k)=true:=jX.mpr h;simp only[List.lookup,hb,if_neg (λe:g=f=>hk (h.symm.trans e))]
   ·have hb:(g == k)=false:=beq_eq_false_iff_ne.mpr h;simp only[List.lookup,hb];exact a
theorem wQ(f:Str)(v:V):∀fs:List (Str × V),f∈(xR f v fs).map (·.1)/\∀g,g∈fs.map (·.1)->g∈(xR f v fs).map (·.1)
 | []=>⟨by simp[xR],λg h=>by simp at h⟩
 | (k,x)::r=>by
  obtain⟨i1,i2⟩:=wQ f v r;rw[show xR f v ((k,x)::r)=(if k=f then(k,v)::r else(k,x)::xR f v r)from rfl];by_cases hk:k=f
  ·rw[if_pos hk];subst hk;exact⟨by simp,λg h=>by simpa using h⟩
  ·rw[if_neg hk];refine⟨?_,λg h=>?_⟩
   ·rw[bJ];exact aZ _ i1
   ·rw[bJ]at h ⊢;rcases bD.mp h with e | e
    ·exact bD.mpr (.inl e)
    ·exact aZ _ (i2 g e)
def rV.some_of{v:V}{o:Y8q}(r:rV (Yi) o):∃u,o=Yv/\Y2C:=by
 cases o with
 | none=>exact(show False from r).elim
 | some u=>exact Y0K u r
def PQ{v:V}{u:Value}(r:Y2C):PySem.W.handedIn u=true:=by
 cases v with
 | non=>cases(show u=Value.none from r);rfl
 | bl b=>cases(show u=Value.bool b from r);rfl
 | int i=>obtain⟨t,e⟩:=(show ∃t,u=Value.int i t from r);cases e;rfl
 | str x=>obtain⟨t,e⟩:=(show ∃t,u=Value.str x t from r);cases e;rfl
 | byt b=>obtain⟨t,e⟩:=(show ∃t,u=Value.bytes b t from r);cases e;rfl
 | flt b=>obtain⟨t,e⟩:=(show ∃t,u=Value.float b t from r);cases e;rfl
 | ref a=>cases(show u=Value.ref a from r);rfl
 | ty n=>cases(show u=Value.type n from r);rfl
section
variable{P:Program}{w:World}{H H':Hp}{h h':Heap}{a C dx:Addr}{fs fs':Y3k V}
def YQ(hok:Y2q)(e:H a=some (.ins C dx fs)):∃mA,aCZ h a dx C mA/\(∀f,rV (YcM) (mA f))/\Yeg (fs.map (·.1))/\Y7K 1000/\H dx=Y7G a:=by
 obtain⟨d,z,ne,c,mA,n,r,q⟩:=(show eU P w H h a (.ins C dx fs)from hok a _ e);exact⟨mA,⟨c,n,ne⟩,r,q,z,d⟩
end
structure Cls(K:Aa)(C:Addr):Prop where
 pg:PySem.W.plainGet K C Str.empty=true
 hd:PySem.W.hasDictIn K C=true
 po:PySem.W.plainOver K C=true
 sa:Yeh Yz "__setattr__" = Y4D "object.__setattr__"
def Cls.get{K:Aa}{C:Addr}(c:Cls K C)(f:Str):PySem.W.plainGet K C f=true:=c.pg
def xD(K:Aa)(C:Addr)(f:Str):Prop:=Yeh Yz f=Y1p
section
variable{X:Cx}{pins:Ae}{σ:St}{H:Hp}{s:Shared}{a C dx:Addr}{fs:Y3k V}{f:Str}{v:V}{A:Around}{E:Y5}
def ZK{prog:Program}{w:World}{env:Env}{e:Expr}{f:Str}{pos:Pos}{s:Shared}{Q:Y5}(hb:attributeBase e f env (Y1V e)=Y1V e)
  (h:wpAny (model prog w) A (Y1V e) (λo s₁=>wpAny (model prog w) A (getAttr o f true) Q E s₁) E s):Y0V (Y1V (.Attribute e f pos)) :=
 Attribute_any_ h (by rw[arm_eval_Attribute,hb])
end
section
variable{X:Cx}{o e value:Expr}{f:Str}{pos pos' tpos:Pos}{ta tv:TE}
end
section
variable{X:Cx}{pins:Ae}{σ:St}{H:Hp}{s:Shared}{A:Around}{E:Y5}{Q:Y5}{c:Value}{b:Bool}
inductive xA (K:Aa) (H:Hp):Y0u V Value where
 | non:Y63 K H .non "NoneType"
 | bl (x:Bool):Y63 K H (.bl x) "bool"
 | int (i:Int):Y63 K H Y15 "int"
 | str (x:Str):Y63 K H (.str x) "str"
 | flt (x:UInt64):Y63 K H (.flt x) "float"
 | lst {a:Addr} {xs:An} (e:H a=Y0o):Y63 K H Y3 "list"
 | frz {a:Addr} {o:Obj} {xs:An} (e:H a=Y8P o (.lst xs)):Y63 K H Y3 "list"
 | tup {a:Addr} {xs:An} (e:H a=Y0k):Y63 K H Y3 "tuple"
 | dK {a:Addr} {kvs:Y2m} (e:H a=YaE):Y63 K H Y3 "dict"
 | dT {a:Addr} {kvs:Yw} (e:H a=Y1I):Y63 K H Y3 "dict"
 | ins {a C dx:Addr} {fs:Y3k V} (e:H a=some (.ins C dx fs)) (cl:Cls K C) (ha:Yeh Yz "__class__" = Y4D "object.__class__")
   (hn:PySem.W.specialIn K (.builtin "object.__class__") "__get__" = Y4D "getset_descriptor.__get__") (htk:PySem.W.takesIn K (.builtin "object.__class__")=Y3Z)
   (hm:PySem.W.mroIn K C (.type "object")=Y3Z):xA K H (Y3) (Yz)
def PL{x:V}{u t:Value}(I:Y1)(rx:eI x u)(ty:xA X.K H x t)(e:PySem.W.kitOne X.K t c=some b)(h:∀tk,Q (.bool b) { s with toks:=tk }) :
  Y7p A (Y8B "isinstance" [u,c]) Q E s:=by
 cases ty with
 | non=>cases(show u=Value.none from rx);exact YcN PySem.W.kitx_none e (λz=>nomatch z) h
 | bl y=>cases(show u=Value.bool y from rx);exact YcN PySem.W.kitx_bool e (λz=>nomatch z) h
 | int i=>obtain⟨t,q⟩:=(show ∃t,u=Value.int i t from rx);cases q;exact YcN PySem.W.kitx_int e (λz=>nomatch z) h
 | str y=>obtain⟨t,q⟩:=(show ∃t,u=Value.str y t from rx);cases q;exact YcN PySem.W.kitx_str e (λz=>nomatch z) h
 | flt y=>obtain⟨t,q⟩:=(show ∃t,u=Value.float y t from rx);cases q;exact YcN PySem.W.kitx_float e (λz=>nomatch z) h
 | @lst a g ea =>
  cases(show u=Value.ref a from rx);obtain⟨_,_,n,_,d⟩:=(show eU X.prog X.w H s.heap a (.lst g)from I.hok a _ ea);exact Y9n PySem.W.kitx_list (Y0m d) e (λz=>nomatch z) h
 | @frz a ob g ea =>
  cases(show u=Value.ref a from rx);obtain⟨_,_,_,n,_,d⟩:=(show eU X.prog X.w H s.heap a (.frz ob (.lst g))from I.hok a _ ea);exact Y9n PySem.W.kitx_list (Y0m d) e (λz=>nomatch z) h
 | @tup a g ea =>
  cases(show u=Value.ref a from rx);obtain⟨_,_,_,p⟩:=(show eU X.prog X.w H s.heap a (.tup g)from I.hok a _ ea);obtain⟨o,d,j,_⟩:=p;exact Y9n PySem.W.kitx_tuple (Y0U d j) e (λz=>nomatch z) h
 | @dK a kvs ea =>
  cases(show u=Value.ref a from rx);obtain⟨_,_,D,_,p⟩:=(show eU X.prog X.w H s.heap a (.dK kvs)from I.hok a _ ea);obtain⟨o,m,l,d,j,_⟩:=p;exact Y9n PySem.W.kitx_dict (Y0U d j.1) e (λz=>nomatch z) h
 | @dT a kvs ea =>
  cases(show u=Value.ref a from rx);obtain⟨_,_,g,_,o,m,l,d,j,_⟩:=(show eU X.prog X.w H s.heap a (.dT kvs)from I.hok a _ ea);exact Y9n PySem.W.kitx_dict (Y0U d j.1) e (λz=>nomatch z) h
 | @ins a C dx fs ea cl ha hn htk hm =>
  cases(show u=Value.ref a from rx);obtain⟨B,O,_⟩:=YQ I.hok ea;obtain⟨r,J,_⟩:=O.look;exact Y9n (PySem.W.kitx_own (cl.get _) cl.hd ha hn htk hm) J e (λz=>nomatch z) h
end
structure iS(k:Nat)(A:Around):Prop where
 hd:Y4H
 dp:A.depth+3*k+5<recursionLimit
 un:Y8a (16*k)+200<cLine
 gd:A.guards=some []
def iS.mono{j k:Nat}{A:Around}(r:iS k A)(h:j<=k):iS j A:=⟨r.hd,by have:=r.dp;exact Oo,by have:=r.un;exact Oo,r.gd⟩
theorem iS.deeper{k:Nat}{A:Around}(r:iS (k+1) A)(env:Env):iS k (A.deeper env) :=
 ⟨r.hd,by have:=r.dp;show A.depth+1+3*k+5<_;exact Oo,by have:=r.un;show Y8a 3+16*k+200<_;exact Oo,r.gd⟩
def JX{A:Around}{C:Addr}{us:Ah}{kw:Ybw}:(YaX "type.__call__" ⟨Yz::us,kw⟩).depth=A.depth+1:=by
 first | rfl | simp[Around.under,Code.weight,Code.isCreation,Code.isGuard,Code.isCaller,Code.frames,Code.isFrame,guardIds]
def JW{A:Around}{C:Addr}{us:Ah}{kw:Ybw}:(YaX "type.__call__" ⟨Yz::us,kw⟩).units=Y8a 1:=by
 first | rfl | simp[Around.under,Code.cUnits,Code.frames,Code.isFrame]
def iS.make{k:Nat}{A:Around}(r:iS (k+1) A)(C:Addr)(us:Ah)(kw:Ybw):iS k (YaX "type.__call__" ⟨Yz::us,kw⟩) :=
 ⟨r.hd,by have:=r.dp;rw[JX];exact Oo,by have:=r.un;rw[JW];exact Oo,by first | exact r.gd | (simpa[Around.under,Code.guards,Code.isGuard,guardIds,pushGuards]using r.gd)⟩
theorem iS.depth{k:Nat}{A:Around}(r:iS k A):A.depth<recursionLimit:=by have:=r.dp;exact Oo
theorem iS.units{k:Nat}{A:Around}(r:iS k A):Y8a 64<cLine:=by have:=r.un;exact Oo
def ON:TA:=λ_ H Q=>Q [] H
def rM(ta:TE)(tr:TA):TA:=YbP σ H (tr σ H1 λxs H2=>Q (x::xs) H2)
section
variable{X:Cx}{e:Expr}{es:Y04}{te:TE}{t:TA}{pos:Pos}
def pa_nil:PA X [] ON:=λ_ _ _ _ H Q I h=>Calls.spliced_nil ⟨[],H,I,.nil,h⟩
def YE(ha:Yl e te)(hr:PA X es t)(hs:Y4m=(false,Y1y)::Y36:=by rfl):PA X (e::es) (rM te t):=by
 intro pos a s σ H Q I h;rw[hs];show Y3i (spliced ((false,Y1y)::backTo pos (Y36)));refine Calls.spliced_cons (thn (ha a s σ H _ I h) λu g ⟨x,H1,I1,j,i⟩=>?_);exact thn (hr pos a g σ H1 _ I1 i) λn m ⟨c,H2,I2,d,l⟩=>⟨x::c,H2,I2,.cons j d,l⟩
def aEs(t:TA):TE:=Y3N (λxs H1=>Y4x/\∀p,H1 p=none->Y10 p (upd H1 p (.tup xs)))
def aEu(t:TA):TE:=Y3N (λxs H1=>Y4x/\∀p,H1 p=none->Y10 p (Y1S H1 p xs))
def aCg{x1}(h:PA X es t):Yl (.Tuple es x1 pos) (aEs t):=by
 intro a s σ H Q I j;refine wpAny_Tuple_spliced (thn (h pos a s σ H _ I j) λg c ⟨d,H1,I1,r,z,q⟩=>Y0b (by rw[<-r.length];exact z));have i:H1 c.heap.objs.size=none:=Yfs;refine Y2S Ydu (upd H1 c.heap.objs.size (.tup d)) (YfC c.toks (λb u e=>Y0h e) ?_) (q _ i);exact⟨⟨z,_,Y17,rfl⟩,g,r,Y1C Y17 _ rfl⟩
def aCj(h:PA X es t):Yl (.List es pos) (aEu t):=by
 intro a s σ H Q I j;refine wpAny_List_spliced (thn (h pos a s σ H _ I j) λg c ⟨d,H1,I1,r,z,q⟩=>Y0b (by rw[<-r.length];exact z));have i:H1 c.heap.objs.size=none:=Yfs;refine Y2S Ydu (Y1S H1 c.heap.objs.size d) (YfC c.toks (λb u e=>Y0h e) ?_) (q _ i);exact⟨z,g,0,r,Y17⟩
end
abbrev Sp:=Yh
abbrev LB:=Y1G->Hp->Shared->XK->Y5
structure LA(P:Program)(w:World)(K:Aa)(mg:Y0a)(base:Heap)(A:Around)(outer:Y1G)(s:Shared)(H:Hp):Prop where
 frames:A.frames=some outer
 mod:Mod K mg base
 bs:Y0I (base.get? b=Y7) (Y32/\H b=none)
 bsz:base.objs.size<=s.heap.objs.size
 funs:Ydz outer
 frf:∀b∈frs outer,H b=none
 hok:nC P w H s.heap
 bare:AllBare s.gens
def CE(outer:Y1G)(P:Program)(w:World)(H:Hp)(s:Shared)(Q:VK)(u:Value)(s':Shared):Prop :=
 ∃v H',s'.os=s.os/\Yb3/\Y9d (frs outer) [] H H' s'.heap/\nC P w H' s'.heap/\Y2C/\Y1a
def CR(CX:LB)(outer:Y1G)(P:Program)(w:World)(H:Hp)(s:Shared)(Q:VK)(E:XK)(r:Result)(s':Shared):Prop :=
 match r with
 | .ok (.ret u)=>CE outer P w H s Q u s'
 | .ok _=>False
 | .error e=>CX outer H s E e s'
structure dI(P:Program)(w:World)(K:Aa)(mg:Y0a)(base:Heap)(CX:LB)(k:Nat)(f:Addr)(fd:FuncData)(ps:Ai)(sp:Sp):Prop where
 len:∀vs H Q E,sp vs H Q E->Y9H
 run:∀(A:Around) (outer:Y1G) (s:Shared) (H:Hp) (args:Args) (us:Ah) (vs:An) (Q:VK) (E:XK),iS k A->LA P w K mg base A outer s H->YbF s args Ybu->Y8k->sp vs H Q E ->
  Y9K (model P w) A (.ref f) args (CR CX outer P w H s Q E) s
def LA.make{P:Program}{w:World}{K:Aa}{mg:Y0a}{base:Heap}{A:Around}{outer:Y1G}{s:Shared}{H:Hp}(e:LA P w K mg base A outer s H)(C:Addr)(us:Ah)(kw:Ybw) :
  LA P w K mg base (YaX "type.__call__" ⟨Yz::us,kw⟩) outer s H:=⟨by first | exact e.frames | (simpa[Around.under,Code.envs,Code.isFrame,pushEnvs]using e.frames),e.mod,e.bs,e.bsz,e.funs,e.frf,e.hok,e.bare⟩
section
variable{X:Cx}{pins:Ae}{σ:St}{H:Hp}{s s':Shared}
def cL.env0(I:Y1):LA X.prog X.w X.K X.mg X.base X.A X.stack s H :=
 ⟨I.ok.frames,I.ok.mod,I.bs,aP I.ok.bsz I.sz,I.stack,I.stkFree,I.hok,I.bare⟩
def cL.after{Q:VK}{u:Value}(I:Y1)(h:CE X.stack X.prog X.w H s Q u s'):EP X pins σ Q u s':=by
 obtain⟨v,H',os,a,un,c,r,q⟩:=h;obtain⟨i,g,d,t,e⟩:=s';obtain rfl:e=s.os:=os;exact⟨v,H',I.call (h':=i) (g':=g) (d':=d) (t':=t) (ch:=[]) un c a (YcB z (by simp)),r,q⟩
end
def zH(sp:Sp)(dvs:An)(E:XK)(t:TA):TE:=Y3N (λvs H1=>sp (vs++dvs) H1 Q E)
def wE(K:Aa)(fd:FuncData)(ps:Ai)(ds:Ah):Prop :=
 ∀(s:Shared) (us:Ah),Y5l->(us++ds).length=ps.length->YbF s ⟨us,[]⟩ (ps.zip (us++ds))
def wE.all{K:Aa}{fd:FuncData}{ps:Ai}(h:∀us:Ah,Y90 ps.length->bindArgs fd ⟨us,[]⟩=pure (Ybu)):wE K fd ps []:=λs us _ a=>by
 rw[List.append_nil]at a ⊢;exact .of_eq (h us a)
def KQ(CX:LB)(X:Cx)(E:XK):Prop:=∀(pins:Ae) (σ:St) (H:Hp) (s:Shared) (e:Value) (s':Shared),Y1->CX X.stack H s E e s'->X.xe e s'
section
variable{X:Cx}{CX:LB}{k:Nat}{f C:Addr}{fd:FuncData}{ps:Ai}{sp:Sp}{dvs:An}{ds:Ah}{E:XK}{x m:Str}{p pos apos:Pos}{e o:Expr}{es:Y04}{ta:TE}{t:TA}
def aBY{pins:Ae}{σ:St}{H:Hp}{s:Shared}{Q:VK}{us:Ah}{vs:An}(F:dI X.prog X.w X.K X.mg X.base CX k f fd ps sp)(hr:Y5E k)(hb:wE X.K fd ps ds)(hd:dO dvs ds)(hx:KQ CX X E)
  (I:Y1) (r:Y8k) (h:sp (vs++dvs) H Q E):Y6Z (Yd2 f us) X σ Q:=by
 have c:dO (vs++dvs) (us++ds):=r.append hd;have d:(us++ds).length=ps.length:=by rw[<-c.length];exact F.len _ _ _ _ h
 refine Yfa (F.run X.A X.stack s H ⟨us,[]⟩ (us++ds) (vs++dvs) Q E hr I.env0 (hb s us I.kIn d) c h) (λr g a=>?_);cases r with
 | error e=>exact hx pins σ H s e g I a
 | ok fl =>
  cases fl with
  | ret u=>exact I.after a
  | next=>exact False.elim a
  | brk=>exact False.elim a
  | cont=>exact False.elim a
def YC(F:dI X.prog X.w X.K X.mg X.base CX k f fd ps sp)(hr:Y5E k)(hg:Y22)(hm:Y4d=Y2 f)(hk:Yc5 X.K f=true)(hb:wE X.K fd ps ds)(hd:dO dvs ds)(hx:KQ CX X E)
  (ha:PA X (e::es) t) (hdb:Y19 ("__debug__" : Str):=by decide) (he:Y4m=(false,Y1y)::Y36:=by rfl) (hpl:Yq ((backTo pos (starEach es X.env)).any (·.1)):=by rfl) :
  Yl (Y64 x p (e::es) []) (zH sp dvs E t):=by
 intro a s σ H Q I h;refine YfD I hg hm ?_ hdb;refine Yf1 X.base hk (thn (ha pos a s σ H _ I h) λd c ⟨g,H1,I1,r,q⟩=>Y0b I1.kIn) he hpl;exact aBY F hr hb hd hx I1 r q
end
section
variable{X:Cx}{CX:LB}{k:Nat}{f C:Addr}{fd:FuncData}{ps ks:Ai}{sp:Sp}{E:XK}{x m:Str}{p pos apos kpos:Pos}{e o:Expr}{es:Y04}{kws:List Keyword}{te ta:TE}{t tk:TA}{nm:Option Str}
variable{g:Ah->Ah->Ah}{gV:An->An->An}
end
structure bM(N P:Ai)(sc:Scope):Prop where
 kind:sc.kind=.function:=by rfl
 co:Yq sc.isCoroutine:=by rfl
 gen:Yq sc.isGenerator:=by rfl
 nd:N.Nodup:=by exact Kk
 pre:N.take P.length=P:=by rfl
 par:∀x∈P,Y8w=Y1R\/Y8w=Y5m:=by exact Kk
 nofree:∀y∈sc.names,y.2 ≠ .free:=by exact Kk
theorem CN{kindOf:Str->Ye7}{x:Str}:∀{binds:Ybw}{m:Y0a},(∀v,(x,v) ∉ binds)->bindL kindOf binds m x=m x
 | [],_,_=>rfl
 | (n,v)::r,m,h=>by
  unfold bindL;rw[CN λw hw=>h w (aZ _ hw)];split
  ·have:x≠n:=by rintro rfl;exact h v aV
   simp[this]
  ·rfl
theorem CP{kindOf:Str->Ye7}{x:Str}:∀{binds:Ybw}{m:Y0a},(∀v,(x,v) ∉ binds)->bindC kindOf binds m x=m x
 | [],_,_=>rfl
 | (n,v)::r,m,h=>by
  unfold bindC;rw[CP λw hw=>h w (aZ _ hw)];split
  ·rfl
  ·have:x≠n:=by rintro rfl;exact h v aV
   simp[this]
theorem CO{kindOf:Str->Ye7}{x:Str}{v:Value}:∀{P:Ai}{vs:Ah}{i:Nat}{m:Y0a},P.Nodup->P[i]?=Y8->vs[i]?=Yi->kindOf x=Y1R ->
  bindL kindOf (P.zip vs) m x=Yi
 | [],_,_,_,_,h,_,_=>by simp at h
 | _::_,[],_,_,_,_,h,_=>by simp at h
 | p::P,w::vs,0,m,nd,h1,h2,hk=>by
  simp at h1 h2;subst h1;subst h2;show bindL kindOf ((p,w)::P.zip vs) m p=_;unfold bindL;rw[CN λv hv=>(List.nodup_cons.mp nd).1 (List.of_mem_zip hv).1,if_pos hk];simp
 | p::P,w::vs,i+1,m,nd,h1,h2,hk=>by
  show bindL kindOf ((p,w)::P.zip vs) m x=_;unfold bindL;exact CO (i:=i) (List.nodup_cons.mp nd).2 (by simpa using h1) (by simpa using h2) hk
theorem CQ{kindOf:Str->Ye7}{x:Str}{v:Value}:∀{P:Ai}{vs:Ah}{i:Nat}{m:Y0a},P.Nodup->P[i]?=Y8->vs[i]?=Yi->kindOf x≠Y1R ->
  bindC kindOf (P.zip vs) m x=Yi
 | [],_,_,_,_,h,_,_=>by simp at h
 | _::_,[],_,_,_,_,h,_=>by simp at h
 | p::P,w::vs,0,m,nd,h1,h2,hk=>by
  simp at h1 h2;subst h1;subst h2;show bindC kindOf ((p,w)::P.zip vs) m p=_;unfold bindC;rw[CP λv hv=>(List.nodup_cons.mp nd).1 (List.of_mem_zip hv).1,if_neg hk];simp
 | p::P,w::vs,i+1,m,nd,h1,h2,hk=>by
  show bindC kindOf ((p,w)::P.zip vs) m x=_;unfold bindC;exact CQ (i:=i) (List.nodup_cons.mp nd).2 (by simpa using h1) (by simpa using h2) hk
def start(N:Ai)(vs:An):St:=YeV++List.replicate (N.length-vs.length) none
def pK(CX:LB)(P:Program)(w:World)(K:Aa)(mg:Y0a)(base:Heap)(N:Ai)(qual:Str)(scope:Scope)(f:Addr)(cd:Value)(A:Around)(outer:Y1G)(s:Shared)(H:Hp)(E:XK):Cx where
 prog:=P
 w:=w
 K:=K
 mg:=mg
 base:=base
 A:=Y9J qual scope f cd
 N:=N
 s₀:=s
 H₀:=H
 env:=Y9k qual scope f cd
 outer:=outer
 stack:=Y9k qual scope f cd::outer
 ex:=[]
 calm:=true
 fn:=Yd0
 pn:=[]
 xe:=λe s'=>wpAny (model P w) (Y9J qual scope f cd) (leaving (Y9k qual scope f cd) e) (λ_ s''=>CX outer H s E e s'') (λe' s''=>CX outer H s E e' s'') s'
def HX{sc:Scope}{n:Nat}{x:Str}(h:Y8w=Y5m):∃c,(cellsFrom n sc.names []).lookup x=Y09:=by
 have q:=PySem.W.cellsFrom_some sc.names n [] (.inl h);exact Option.isSome_iff_exists.mp q
def PM{CX:LB}{P:Program}{w:World}{K:Aa}{mg:Y0a}{base:Heap}{N ps:Ai}{qual:Str}{scope:Scope}{f:Addr}{cd:Value}{A:Around}{outer:Y1G}{s s1:Shared}{H:Hp}{E:XK}{us:Ah}{vs:An}
  (S:bM N ps scope) (hd:Y4H) (e0:LA P w K mg base A outer s H) (hl:Y9H) (r:Y8k)
  (x:InCallC s s.heap.objs.size (bindL (Y9k qual scope f cd).kindOf (Ybu) Yd1) (cellsFrom (Y2h 1) scope.names []) (bindC (Y9k qual scope f cd).kindOf (Ybu) Yd1) s1) :
  cL (pK CX P w K mg base N qual scope f cd A outer s H E) [] (Yay N) H s1:=by
 have J:ps.length<=N.length:=by have:=Y4t S.pre;rw[cW]at this;exact Oo
 obtain⟨B,M,rfl,G⟩:=x.done;have j:∀b:Addr,b ∉ (pK CX P w K mg base N qual scope f cd A outer s H E).ex:=YcB (show b∈([]:List Addr)from z) (by simp);refine⟨⟨e0.mod,S.kind,rfl,rfl,Yn,λy z c B d=>?_,λy g=>?_,λy c _ h=>?_,λ_=>hd,Around.frames_deeper e0.frames,.inr Y6k,YcB z (j b),e0.bs,e0.bsz,λb _ _=>j b,YcB z (j b),e0.funs,e0.frf⟩,
  rfl,e0.bare,Un.kept G,Y1x x.toInCall.ns (λi y v B d L=>?_),λy c h=>Y0C (x.cell y c h),e0.hok.fresh (Yn),λy c h=>?_,λp l=>absurd (show p∈([]:Ae)from l) (by simp),e0.hok.kept G,?_⟩
 ·exact name_of_addr x.apart (PySem.mem_of_lookup B) (PySem.mem_of_lookup d)
 ·have g:Y7x y Y5m\/Y7x y (some .free):=g;rcases g with g | g
  ·exact HX g
  ·exact absurd rfl (S.nofree _ (PySem.mem_of_lookup g))
 ·exact Nat.le_of_lt (x.above y c (PySem.mem_of_lookup h))
 ·have C:i<vs.length:=by
   unfold start at d;by_cases C:i<vs.length
   ·exact C
   ·rw[List.getElem?_append_right (by simpa using C)]at d;rw[List.getElem?_replicate]at d;split at d <;> cases d
  have I:vs[i]?=Yi:=by
   unfold start at d;rw[List.getElem?_append_left (by simpa using C),aR]at d;cases e:vs[i]? with
   | none=>rw[e]at d;cases d
   | some a=>rw[e]at d;cases d;rfl
  obtain⟨u,D,rv⟩:=r.get I;have l:ps[i]?=Y0j:=by
   rw[<-S.pre,List.getElem?_take_of_lt Oo];exact B
  have m:ps.Nodup:=by rw[<-S.pre];exact S.nd.sublist (List.take_sublist _ _)
  refine Y08 u rv;rcases S.par y (aF l)with k | k
  ·exact Y3p k (CO m l D k)
  ·obtain⟨c,e⟩:=HX (n:=Y2h 1) k;refine .inr ⟨.inl k,c,e,?_⟩;have q:=x.cell y c e;rw[CQ m l D (by show scope.names.lookup y≠_;rw[k];decide)]at q;exact q
 ·exact e0.hok.fresh (Nat.le_of_lt (x.above y c (PySem.mem_of_lookup h)))
 ·unfold start;show _=N.length;rw[bF,aB,cA];exact Oo
def aAq{CX:LB}{P:Program}{w:World}{K:Aa}{mg:Y0a}{base:Heap}{k:Nat}{f:Addr}{name qual:Str}{params:Arguments}{body:Y3r}{scope:Scope}{dV kV doc pm cdv ct oc:Value}{an od:Y11}
  {osl:Y8K} {N ps:Ai} {sp:Sp} (lk:K.lookup f=some ⟨oc,od,.func (PySem.W.fnOf name qual params body scope dV kV doc pm an cdv ct),osl⟩) (hcd:Yei cdv qual=true) (S:bM N ps scope)
  (len:∀vs H Q E,sp vs H Q E->Y9H)
  (hbody:∀(A:Around) (outer:Y1G) (s:Shared) (H:Hp) (vs:An) (Q:VK) (E:XK),iS k (Y9J qual scope f cdv)->sp vs H Q E ->
   ∃t,KU (pK CX P w K mg base N qual scope f cdv A outer s H E) body t/\t { nx:=λ_ H'=>Q .non H',rt:=Q } (Yay N) H) :
  dI P w K mg base CX (k+1) f (PySem.W.fnOf name qual params body scope dV kV doc pm an cdv ct) ps sp:=by
 refine⟨len,λA outer s H p D vs Q E j h C r g=>?_⟩;have G:=len _ _ _ _ g;have KX:Y5l:=h.mod.kin.keeps λb o e=>(h.bs b o e).1;have m:s.heap.NoLimit:=h.mod.nolimit.keeps λb o e=>(h.bs b o e).1;have a:∀y∈ps.zip D,Y7x y.1 Y1R\/(Y7x y.1 Y5m/\((cellsFrom (s.heap.objs.size+1) scope.names []).lookup y.1).isSome=true):=λ⟨n,v⟩ O=>by
  rcases S.par n (List.of_mem_zip O).1 with q | q
  ·exact .inl q
  ·exact Y6P q (PySem.W.cellsFrom_some _ _ _ (.inl q))
 refine codeAny_call_function j.depth (KX _ _ lk) rfl S.co S.gen rfl (PySem.W.codeRec_of KX hcd) (C _ _ _ _ ?_);refine wpAny_newFunctionEnv_cells S.kind a λL B z x=>?_;subst B;refine⟨m.keeps x.toInCall.keep,codeAny_func ?_⟩;obtain⟨t,R,M⟩:=hbody A outer s H vs Q E (j.deeper _) g;have I:cL (pK CX P w K mg base N qual scope f cdv A outer s H E) [] (Yay N) H z:=PM S j.hd h G r x;refine wpAny_mono (R [] z (Yay N) H _ I M) (λfl l c=>?_) λe l c=>c;have d:∀{i:St} {H':Hp} {v:V} {u:Value},cL (pK CX P w K mg base N qual scope f cdv A outer s H E) [] i H' l->Y2C->Y1a->CE outer P w H s Q u l :=
  λ{i H' v u} J rv q=>⟨v,H',J.os,J.bare,J.base,J.hok,rv,q⟩
 cases fl with
 | ret u =>
  obtain⟨v,i,H',J,rv,q⟩:=c;exact d J rv q
 | next =>
  obtain⟨i,H',J,q⟩:=c;exact d (v:=V.non) (u:=Value.none) J rfl q
 | brk =>
  obtain⟨_,_,_,q⟩:=c;exact False.elim q
 | cont =>
  obtain⟨_,_,_,q⟩:=c;exact False.elim q
section
variable{X:Cx}{x:Str}{p pos:Pos}{e:Expr}{es:Y04}{t:TA}{id T:String}{r:Y1o}
def tCB(r:Y1o)(t:TA):TE:=Y3N (λvs H1=>r vs H1 Q)
def TD(hc:Y3W X id r)(hg:Y22)(hm:Y4d=none)(hv:Y7y=Y9l id)(ha:PA X (e::es) t)(hn:x ≠ "__name__" := by decide)(hdb:Y19 ("__debug__" : Str):=by decide)
  (he:Y4m=(false,Y1y)::Y36:=by rfl) (hpl:Yq ((backTo pos (starEach es X.env)).any (·.1)):=by rfl):Yl (Y64 x p (e::es) []) (tCB r t):=by
 intro a s σ H Q I h;refine wpAny_Call_Name_kw (qY I hg hm hv ?_ hn hdb);exact PyProof.Rows.callWith_builtin1 (thn (ha pos a s σ H _ I h) λd c ⟨g,H1,I1,j,i⟩=>hc a c σ H1 g d Q I1 j i) he hpl
def OZ(hc:kL X (Y6X) r)(hg:Y22)(hm:Y4d=none)(hv:Y7y=some (Y6X))(ha:PA X (e::es) t)(hn:x ≠ "__name__" := by decide)(hdb:Y19 ("__debug__" : Str):=by decide)
  (he:Y4m=(false,Y1y)::Y36:=by rfl) (hpl:Yq ((backTo pos (starEach es X.env)).any (·.1)):=by rfl):Yl (Y64 x p (e::es) []) (tCB r t):=by
 intro a s σ H Q I h;refine wpAny_Call_Name_kw (qY I hg hm hv ?_ hn hdb);exact YaJ (ha pos a s σ H _ I h) (λd c ⟨g,H1,I1,j,i⟩=>hc a c σ H1 g d Q I1 j i) he hpl
end
end L2
namespace HT
open PySem PyProof.Rows
section
open PySem.SeqAt
open PySem.AutoSeq1 (wpAny_loadPart')
open PySem.MeetsSeq PySem.MeetsSeq2 PySem.MeetsSeq3
end
section
variable{prog:Program}{w:World}{A:Around}{E:Y5}{s:Shared}
def YZ{t b:Addr}{vs ws:Ah}{Q:Y5}(ht:YcS t vs.toArray)(hb:YcS b ws.toArray)(hv:vs≠[])
  (h1:ws=[]->Y10 t s) (h2:ws≠[]->YaQ ({ s with heap:=s.heap.push { cls:=.type "tuple",data:=.seq (vs++ws).toArray } }))
  (hsz:Y0r (vs.length+ws.length)):Y0V (binaryOp .Add (.ref t) (Y0z)):=by
 obtain⟨⟨cls,p,data,m⟩,i,r,n,hd⟩:=id ht;obtain⟨⟨u,h,j,d⟩,a,g,l,c⟩:=id hb;simp only at r hd g c;subst r hd g c;have e:vs.toArray++ws.toArray=(vs++ws).toArray:=by simp
 by_cases hw:ws=[]
 ·exact concat_meets (Y0m i) (Y0m a) noFill_tuple_add seq_tuple_add PySem.F.slot_tuple_add PySem.F.entry_tuple_add (Yf7 _)
   (tuple_addW1 t b vs.toArray ws.toArray n l p h m d (by simpa using hv) (by simp[hw])) ⟨i,a,h1 hw⟩
 ·refine concat_meets (Y0m i) (Y0m a) noFill_tuple_add seq_tuple_add PySem.F.slot_tuple_add PySem.F.entry_tuple_add (Yf7 _)
   (tuple_addW2 t b vs.toArray ws.toArray n l p h m d (by simpa using hv) (by simpa using hw) (by rw[bE,bE];exact hsz)) (Y08 i a)
  rw[e];exact h2 hw
def kI(n d:Nat):Y1c->Nat
 | none=>d
 | some v=>if v<0 then(v+(n:Int)).toNat else min v.toNat n
def vG(n d:Nat):kI n d none=d:=rfl
def DT(n d k:Nat):kI n d (some (k:Int))=min k n:=by
 show(if(k:Int)<0 then((k:Int)+(n:Int)).toNat else min (k:Int).toNat n)=min k n;rw[Y8W,Int.toNat_natCast]
def aBX(n d:Nat)(hd:d<=n)(o:Y1c):kI n d o<=n:=by
 cases o with
 | none=>exact hd
 | some v =>
  show(if v<0 then(v+(n:Int)).toNat else min v.toNat n)<=n;by_cases hv:v<0
  ·rw[if_pos hv];exact Oo
  ·rw[if_neg hv];exact Nat.min_le_right _ _
def NT(v:Int)(n d:Nat):(if v<0 then max (v+(n:Int)) 0 else min v (n:Int))=((kI n d (some v):Nat):Int):=by
 show(if v<0 then max (v+(n:Int)) 0 else min v (n:Int))=(((if v<0 then(v+(n:Int)).toNat else min v.toNat n):Nat):Int);by_cases hv:v<0
 ·simp only[if_pos hv];exact Oo
 ·simp only[if_neg hv];exact Oo
def KK(lo hi:Y1c)(n:Nat):Builtin.Slice.sliceAdjust lo hi 1 (n:Int)=(((kI n 0 lo:Nat):Int),((kI n n hi:Nat):Int)):=by
 have a:¬((1:Int)<0):=Oo;unfold Builtin.Slice.sliceAdjust;simp only[a,if_false];refine Prod.ext ?_ ?_
 ·cases lo with
  | none=>rfl
  | some v=>exact NT v n 0
 ·cases hi with
  | none=>rfl
  | some v=>exact NT v n n
def JO(i j:Nat):Builtin.Slice.slicePlaces (i:Int) (j:Int) 1=j-i:=by
 unfold Builtin.Slice.slicePlaces;have a:(1:Int) > 0:=Oo;simp only[a,if_true,Int.ediv_one];split <;> exact Oo
def zR{v:Value}{o:Y1c}{Q:Y26 Y1c}(p:IsPart v o)(h:Q o s):Y0V (Builtin.Slice.slicePartIndex v):=by
 cases p with
 | none=>exact slicePart_none h
 | int i t=>exact slicePart_int h
def pP{sl:Addr}{vl vu:Value}{lo hi:Y1c}{n:Nat}{Q:Y26 (Int × Int × Nat)}(hs:YdJ sl vl vu)(pl:IsPart vl lo)(pu:IsPart vu hi)
  (h:Q (((kI n 0 lo:Nat):Int),1,kI n n hi-kI n 0 lo) s):Y0V (Builtin.Slice.sliceApplied (.ref sl) (pure (n:Int))):=by
 obtain⟨e,c,d,a⟩:=id hs;unfold Builtin.Slice.sliceApplied Builtin.Slice.sliceFields;refine wpAny_bind (wpAny_bind (wpAny_field c a (x:=vl) rfl (wpAny_bind (wpAny_field c a (x:=vu) rfl (wpAny_bind (wpAny_field c a (x:=.none) rfl Y1F))))));refine wpAny_bind (slicePart_none ?_);show Y3i (if((1:Int) == 0)=true then _ else _);rw[Y7M];refine wpAny_bind (zR pl (wpAny_bind (zR pu (Y2r ?_))));show wpAny _ _ (match Builtin.Slice.sliceAdjust lo hi 1 (n:Int)with | (lo,hi)=>pure (lo,(1:Int),Builtin.Slice.slicePlaces lo hi 1)) _ _ s;rw[KK lo hi n];show Y3i (pure (((kI n 0 lo:Nat):Int),(1:Int),Builtin.Slice.slicePlaces ((kI n 0 lo:Nat):Int) ((kI n n hi:Nat):Int) 1));rw[JO];exact wpAny_pure h
def SV(xs:Aj)(i k:Nat):((List.range k).filterMap λ(m:Nat)=>Y2F (((i:Int)+(m:Int)*1).toNat)).toArray=((xs.toList.drop i).take k).toArray:=by
 have e:(λ(m:Nat)=>Y2F (((i:Int)+(m:Int)*1).toNat))=λm=>Y2F (i+m):=by
  funext m
  have:((i:Int)+(m:Int)*1).toNat=i+m:=Oo;rw[this]
 rw[e];have:=pick_run xs i k;rw[List.filterMap_map]at this;have a:((λx=>xs[x]?) ∘ λx=>i+x)=λm=>xs[i+m]?:=rfl;rw[a]at this;rw[this]
def vP{t sl:Addr}{items:Aj}{vl vu:Value}{lo hi:Y1c}{Q:Y5}(ht:YcS t items)(hs:YdJ sl vl vu)(pl:IsPart vl lo)(pu:IsPart vu hi)
  (hw:¬(Y7m 0 lo=0/\Y78=items.size))
  (h:YaQ ({ s with heap:=s.heap.push { cls:=.type "tuple",data:=.seq ((items.toList.drop (kI items.size 0 lo)).take (kI items.size items.size hi-kI items.size 0 lo)).toArray } }))
  (hsz:Y0r items.size):Y0V (getItem (.ref t) (.ref sl)):=by
 have a:sizeOk (.seq ((items.toList.drop (kI items.size 0 lo)).take (Y78-Y7m 0 lo)).toArray):=by
  show Y0r (((items.toList.drop (kI items.size 0 lo)).take (Y78-Y7m 0 lo)).toArray.size);rw[bE,cW,List.length_drop,Array.length_toList];exact Oo
 have l:Y78<=items.size:=aBX _ _ (Yn) hi;obtain⟨j,d,e,i⟩:=id hs;have c:Y8C sl "slice" := ⟨j,d,e⟩;unfold getItem
 try with_reducible refine Ye2
 first | refine Y2r ?_ | skip
 refine wpAny_bind (wpAny_sequenceKey ht.typeIs Dd ?_);refine wpAny_bind (wpAny_callSpecial?_slot (name:=Str.ofString "__getitem__") ht.typeIs PyProof.Rows.slot_tuple_getitem
  (wpAny_call_entry PyProof.Rows.slot_tuple_getitem ht.typeIs entry_tuple_getitem ?_ (args_tuple_getitem _ _)))
 show Y3i (Builtin.Tuple.tupleItemsOf (.ref t) >>= _);refine wpAny_bind (tupleItemsOf_ ht ?_);refine Yf9 c ?_;rw[Ybt];refine wpAny_bind (pP hs pl pu ?_);have g:¬((((kI items.size 0 lo:Nat):Int) == 0&&(1:Int) == 1&&YeA (Y78-Y7m 0 lo))=true):=by
  intro q;rw[cJ,cJ]at q;have p:((kI items.size 0 lo:Nat):Int)=0:=eq_of_beq q.1.1;have n:Y78-Y7m 0 lo=items.size:=eq_of_beq q.2;exact hw (Y1j Oo)
 show Y3i (if(((kI items.size 0 lo:Nat):Int) == 0&&(1:Int) == 1&&YeA (Y78-Y7m 0 lo))=true then _ else _);rw[if_neg g,SV]
 first
  | exact Ydy _ (Ycv h) a
  | exact Ydy _ (Y2r (Ycv h)) a
  | exact wpAny_bind (Ydy _ (Ydr (Yc3 h)) a)
  | exact wpAny_bind (Ydy _ (Ycv h) a)
end
end HT
namespace L2
open PySem PySem.Spec PyProof.Rows
abbrev TO:=St->Y5G (Y1M Y1c)
def PO(X:Cx)(e:YeM)(t:TO):Prop :=
 ∀(pins:Ae) (s:Shared) (σ:St) (H:Hp) (Q:Y1M Y1c),Y1->t σ H Q ->
  Y4c (evalPart e X.env) (λu s'=>∃o H',Y51 s'/\IsPart u o/\Q o H')
def LQ:TO:=λ_ H Q=>Q none H
def ZZ(t:TE):TO:=Y3N (λx H1=>∃i,x=Y15/\Q (Y73) H1)
def KA{ns:Ag}:∀{us:Ah},Y3x Y5S->Ybr us:=by
 induction ns with
 | nil=>intro us r;rw[List.map_nil]at r;cases r;exact .nil
 | cons n ns ih =>
  intro us r;rw[bJ]at r;cases r with
  | cons r1 r2 =>
   obtain⟨t,e⟩:=r1;subst e;exact .cons n t (ih r2)
section
variable{X:Cx}{e:Expr}{te:TE}{lo hi:YeM}{tl th:TO}{pos p2:Pos}
def po_none:PO X none LQ:=by
 intro a s σ H Q I h;rw[evalPart_none];exact wpAny_pure ⟨none,H,I,.none,h⟩
def XU(h:Yl e te):PO X (Y8f) (ZZ te):=by
 intro a s σ H Q I c;rw[evalPart_some];refine thn (h a s σ H _ I c) λu j ⟨x,H1,I1,g,d⟩=>?_;obtain⟨i,rfl,q⟩:=d;obtain⟨t,rfl⟩:=g;exact⟨Y73,H1,I1,Y7b i,q⟩
def SlR(X:Cx)(r:V->Y1c->Y9c):Prop :=
 ∀(pins:Ae) (s:Shared) (σ:St) (H:Hp) (x:V) (v vl vu:Value) (lo hi:Y1c) (sl:Addr) (Q:VK),Y1->eI x v->YdJ sl vl vu->IsPart vl lo->IsPart vu hi->r x lo hi H Q ->
  ∃T id,typeLookup (Y6X) "__getitem__" = pure (Y9l id)/\s.TypeIs v T/\Y6Z (getItem v (.ref sl)) X σ Q
def tSl(r:V->Y1c->Y9c)(te:TE)(tl th:TO):TE:=λσ H Q=>te σ H λx H1=>tl σ H1 λl H2=>th σ H2 λu H3=>r x l u H3 Q
def SX{r:V->Y1c->Y9c}(hr:SlR X r)(he:Yl e te)(hl:PO X lo tl)(hu:PO X hi th):Yl (Y7B e (.Slice lo hi none p2)) (tSl r te tl th):=by
 intro a s σ H Q I h;refine Subscript_ (thn (he a s σ H _ I h) λv m ⟨x,H1,I1,z,n⟩=>?_);refine wpAny_Slice (thn (hl a m σ H1 _ I1 n) λd j ⟨l,H2,I2,C,B⟩=>thn (hu a j σ H2 _ I2 B) λg c ⟨u,H3,I3,p,G⟩=>?_);rw[evalPart_none];refine Y1F;have I4:Y1D a H3 ({ c with heap:=c.heap.push { cls:=.type "slice",data:=.fields #[d,g,.none] } }):=I3.kept (t':=c.toks) λb L q=>Y0h q;obtain⟨T,J,y,D,i⟩:=hr a { c with heap:=c.heap.push { cls:=.type "slice",data:=.fields #[d,g,.none] } } σ H3 x v d g l u c.heap.objs.size Q I4 z (Heap.IsSliceOf.new ..) C p G;show Y9q (subscriptTail e (.Slice lo hi none p2) v (Ydu)) (EP X a σ Q) ({ c with heap:=c.heap.push { cls:=.type "slice",data:=.fields #[d,g,.none] } });exact tail_any (ops:=[Ydu,v]) D y i (by with_unfolding_all rfl)
def nI(xs:An)(lo hi:Y1c):An:=(xs.drop (HT.kI xs.length 0 lo)).take (Yb7 xs.length hi-Yb7 0 lo)
def xO(xs:An)(lo hi:Y1c):Y60 ((nI xs lo hi).length):=by
 unfold nI;rw[cW,List.length_drop];exact Oo
def aEF(K:Aa):V->Y1c->Y9c:=λx lo hi H Q=>∃a xs,x=Y3/\Y4q a /\
 ¬(Yb7 0 lo=0/\Y68 (Yb7 xs.length hi))/\∀p,H p=none->Y10 p (Y8T p (nI xs lo hi))
def aAS:SlR X (aEF X.K):=by
 intro j s σ H x v B C e i A Q I y w z p h;obtain⟨a,d,rfl,n,u,q⟩:=h;cases y;obtain⟨g,r,m,l⟩:=I.tuple n;have c:g.toArray.size=d.length:=by rw[bE];exact r.length.symm
 refine⟨"tuple",_,PyProof.Rows.slot_tuple_getitem.lookup,m.typeIs,HT.vP m w z p (by rw[c];exact u) ?_ (by rw[c];exact l)⟩;rw[c];refine Y2l Y24 (Yc4 (.tup (nI d e i)) (λb D q=>Y0h q) Yn ?_) (q _ (Y4u _));exact⟨⟨aP (xO d e i) l,_,Y17,rfl⟩,_,(r.drop (HT.kI d.length 0 e)).take (YeD d.length i-YeD 0 e),YcT _⟩
def aDy(K:Aa):R2:=λx y H Q=>∃a b xs ys,x=Y3/\y=Y0z/\Y4q a/\fY K H b ys/\xs≠[]/\Y0r (Y5X ys.length) /\
 (ys=[]->Y10 a H)/\(ys≠[]->∀p,H p=none->Y10 p (Y8T p (xs++ys)))
def dO.nil_iff{xs:An}{us:Ah}(r:Y6s):us=[]↔xs=[]:=by
 cases r with
 | nil=>simp
 | cons _ _=>simp
def YF:Y4y X .Add (aDy X.K):=by
 intro g s σ H x y v u Q I G C h;obtain⟨a,b,l,B,rfl,rfl,D,m,r,i,p,J⟩:=h;cases G;cases C;obtain⟨j,d,n,_⟩:=I.tuple D;obtain⟨e,c,A,_⟩:=I.tuple m;refine HT.YZ n A (λz=>r (d.nil_iff.mp z)) (λz=>Y2S Y3 H I (p (c.nil_iff.mp z))) (Y5t) (by rw[<-d.length,<-c.length];exact i);refine Y2l Y24 (Yc4 (.tup (l++B)) (λb L q=>Y0h q) Yn ?_) (J (λw=>z (c.nil_iff.mpr w)) _ (Y4u _));exact⟨⟨by rw[bF];exact i,_,Y17,rfl⟩,_,d.append c,YcT _⟩
end
def PJ(n:Nat)(i:Int):Y5n:=if 0<=i then(if i<n then some i.toNat else none) else if -(n:Int)<=i then some (i+n).toNat else none
def uE{α:Type}(xs:Yo)(i:Int):Option α:=(PJ xs.length i).bind λj=>Y2F j
def MX{n:Nat}{i:Int}{j:Nat}(h:PJ n i=Y8g):seqIndex? i n=Y8g/\j<n/\-(n:Int)<=i/\i<n:=by
 unfold PJ at h;by_cases h0:0<=i
 ·rw[if_pos h0]at h;by_cases h1:i<n
  ·rw[if_pos h1]at h;have e:i.toNat=j:=gR h;exact⟨by rw[seqIndex_of h0 h1,e],Oo,Oo,h1⟩
  ·rw[if_neg h1]at h;cases h
 ·rw[if_neg h0]at h;by_cases h1:-(n:Int)<=i
  ·rw[if_pos h1]at h;have e:(i+n).toNat=j:=gR h;exact⟨by rw[seqIndex_neg Oo h1,e],Oo,h1,Oo⟩
  ·rw[if_neg h1]at h;cases h
def EV{α:Type}{xs:Yo}{i:Int}{v:α}(h:Y3f i=Yi):∃j,seqIndex? i xs.length=Y8g/\Y2F j=Yi/\Y41 j/\-(xs.length:Int)<=i/\Y41 i:=by
 unfold uE at h;cases e:YcK i with
 | none=>rw[e]at h;cases h
 | some j =>
  rw[e]at h;obtain⟨c,a,d,g⟩:=MX e;exact⟨j,c,h,a,d,g⟩
def cU{α:Type}{xs:Yo}{j:Nat}{v:α}(h:Y2F j=Yi):Y3f (j:Int)=Yi:=by
 have a:Y41 j:=(aO.mp h).1;have e:YcK (j:Int)=Y8g:=by
  unfold PJ;rw[Y5p,Y5p];simp
 unfold uE;rw[e];exact h
def VH{α:Type}(xs:Yo)(v:α):uE (xs++[v]) (-1)=Yi:=by
 have a:(xs++[v]).length=Y5X 1:=by simp
 have e:PJ (xs++[v]).length (-1)=some xs.length:=by
  unfold PJ;rw[a,Y7M,Y5p];congr 1;exact Oo
 unfold uE;rw[e];show(xs++[v])[xs.length]?=Yi;simp
def OB(b:Expr):Prop:=∀o i,Yej b o i=operate [o,i] (getItem o i)
def VO(X:Cx)(r:R2):Prop :=
 ∀(value slice:Expr) (pins:Ae) (s:Shared) (σ:St) (H:Hp) (x y:V) (v u:Value) (Q:VK),Y1->eI x v->Y4l->r x y H Q ->
  Yej slice v u=operate [v,u] (getItem v u)->Y6Z (subscriptTail value slice v u) X σ Q
def MtR(X:Cx)(id:String)(r:V->Y1o):Prop :=
 ∀(pins:Ae) (s:Shared) (σ:St) (H:Hp) (x:V) (xs:An) (v:Value) (us:Ah) (Q:VK),Y1->eI x v->Y6s->r x xs H Q ->
  Y6Z (Y8B id (v::us)) X σ Q
section
variable{X:Cx}{a b:Expr}{ta tb:TE}{pos:Pos}
def VO.or{r r':R2}(h:VO X r)(h':VO X r'):VO X (λx y H Q=>r x y H Q\/r' x y H Q):=by
 intro a c d s σ H x y v u Q I g i q e;rcases q with q | q
 ·exact h a c d s σ H x y v u Q I g i q e
 ·exact h' a c d s σ H x y v u Q I g i q e
def aDE{r:R2}(hr:VO X r)(ha:Y7f a)(hb:Yl b tb)(hs:OB b):Yl (Y7B a b) (WO r ta tb):=by
 intro c s σ H Q I h;exact Subscript_ (Yft ha hb I h (hr a b c g σ H2 x y v u Q I2 d e q (hs _ _)))
def aDw(K:Aa):R2:=λx y H Q=>∃p xs i v,x=Y0y/\y=Y15/\Y2P K H p/\Y3f i=Yi/\Q v H
def aDu(K:Aa):R2:=λx y H Q=>∃p xs i v,x=Y0y/\y=Y15/\Y4q p/\Y3f i=Yi/\Q v H
def aDv:R2:=λx y H Q=>∃z i c,x=.str z/\y=Y15/\Y0r z.length/\uE z.cps.toList i=Y09/\Q (.str ⟨#[c]⟩) H
def YO:VO X (aDw X.K):=by
 intro g m a s σ H x y v u Q I O M h C;obtain⟨p,S,i,z,rfl,rfl,N,D,q⟩:=h;cases O;obtain⟨t,rfl⟩:=M;obtain⟨e,r,A,W⟩:=I.list N;obtain⟨j,d,G,U,R,P⟩:=EV D;obtain⟨w,B,l⟩:=r.get G;have J:=r.length;have T:=EF;have c:EP X a σ Q w s:=⟨z,H,I,l,q⟩;by_cases h0:0<=i
 ·have n:i.toNat=j:=by
   rw[seqIndex_of h0 P]at d;exact gR d
  exact item_listR A.isList h0 Oo (by rw[n];simpa using B) c C
 ·have n:(i+(e.toArray.size:Int)).toNat=j:=by
   rw[seqIndex_neg Oo R]at d;rw[bE,<-J];exact gR d
  exact subscriptTail_builtinR (x:=w) A.isList.typeIs slot_list_getitem.lookup
   (wpAny_getItem_list_neg (Q:=λr L=>r=w/\EP X a σ Q r L) A.isList Oo (by rw[bE] <;> exact Oo) Oo (by rw[n];simpa using B) (Y1b c)) C
def aCA:VO X (aDu X.K):=by
 intro c g a s σ H x y v u Q I N J h M;obtain⟨p,O,i,z,rfl,rfl,L,n,q⟩:=h;cases N;obtain⟨t,rfl⟩:=J;obtain⟨m,r,l,S⟩:=I.tuple L;obtain⟨j,B,C,R,U,T⟩:=EV n;obtain⟨w,A,e⟩:=r.get C;have D:=r.length;have P:=EF;have d:EP X a σ Q w s:=⟨z,H,I,e,q⟩;exact subscriptTail_builtinR (x:=w) l.typeIs slot_tuple_getitem.lookup
  (getItem_tuple (j:=j) (Q:=λr G=>r=w/\EP X a σ Q r G) l Oo Oo (by rw[bE,<-D];exact B) (by simpa using A) (Y1b d)) M
def aCB:VO X aDv:=by
 intro a d g s σ H x y v u Q I B w h A;obtain⟨z,i,c,rfl,rfl,M,l,q⟩:=h;obtain⟨t,rfl⟩:=B;obtain⟨G,rfl⟩:=w;obtain⟨j,e,n,L,D,C⟩:=EV l;have r:z.cps.toList.length=z.length:=by simp[Str.length]
 rw[r]at e D C;have J:=EF;exact tail_any (typeIs_str s z t) slot_str_getitem.lookup (getItem_str (c:=c) (by
  have p:Yq (Y34 i (-(2^63:Int))):=cI Oo;have m:Yq (decide (i ≥ 2^63)):=cI Oo;rw[p,m,Bool.or_false]) (by rw[e];simpa using n) ⟨.str ⟨#[c]⟩,H,Y1H,Y3z,q⟩) A
def rIx(K:Aa):R2:=λx y H Q=>aDw K x y H Q\/aDu K x y H Q\/aDv x y H Q
def aN:VO X (rIx X.K):=YO.or (aCA.or aCB)
def JV(its:Ah)(n j:Nat)(u:Value):Obj.mapSeq (·.setIfInBounds j u) { cls:=.type "list",data:=.seq its.toArray n }={ cls:=.type "list",data:=.seq (its.set j u).toArray n }:=by
 simp[Obj.mapSeq]
theorem cL.lst{pins:Ae}{σ:St}{H:Hp}{s:Shared}{p:Addr}{xs:An}(I:Y1)(h:H p=Y0o) :
  ∃(its:Ah) (n:Nat),dO xs its/\Y1W p ({ cls:=.type "list",data:=.seq its.toArray n })/\Y4x:=by
 obtain⟨z,its,n,r,e⟩:=Y70 p h;exact⟨its,n,r,e,z⟩
def cL.lstUpd{pins:Ae}{σ:St}{H:Hp}{s:Shared}{p:Addr}{xs ys:An}{its its':Ah}{n n':Nat}{f:Obj->Obj}(I:Y1)(h:H p=Y0o)
  (ho:Y1W p ({ cls:=.type "list",data:=.seq its.toArray n })) (hf:f { cls:=.type "list",data:=.seq its.toArray n }={ cls:=.type "list",data:=.seq its'.toArray n' }) (r:dO ys its') (hz:Yeq) (t:Nat) :
  Y1Q (Y1S H p ys) ({ s with heap:=s.heap.update p f,toks:=t }):=by
 have e:(s.heap.update p f).get? p=some { cls:=.type "list",data:=.seq its'.toArray n' }:=by
  rw[Heap.get?_update_self f ho (by rw[hf] <;> rfl),hf]
 refine YdC p p (by rw[h];trivial) (λb u a q=>(Heap.get?_update_other _ _ (Ne.symm a)).trans q) (Y0C e) ?_;exact⟨hz,its',n',r,e⟩
def SO:V->V->V->Y5G YaG:=λo i v H Q=>∃p xs k j,o=Y0y/\i=.int k/\H p=Y0o/\YcK k=Y8g/\Q (Y1S H p (xs.set j v))
def SH:aCY X SO:=by
 intro c s σ H o i v D G u Q I A z rv h;obtain⟨p,y,k,j,rfl,rfl,w,B,q⟩:=h;cases A;obtain⟨t,rfl⟩:=z;obtain⟨a,n,r,g,C⟩:=I.lst w;obtain⟨d,L,m,x⟩:=MX B;have l:=r.length;have J:=EF;have I':Y1D c (Y1S H p (y.set j v)) ({ s with heap:=s.heap.update p (Obj.mapSeq (·.setIfInBounds j u)) }) :=
  I.lstUpd w g (JV a n j u) (r.set rv j) (by rw[List.length_set];exact C) s.toks
 by_cases h0:0<=k
 ·have e:k.toNat=j:=by
   rw[seqIndex_of h0 x]at d;exact gR d
  exact PySem.W.ki_setAt g h0 Oo (by rw[bE,<-l];exact x) (by rw[e];exact Y1x I' q)
 ·have e:(k+(a.toArray.size:Int)).toNat=j:=by
   rw[seqIndex_neg Oo m]at d;rw[bE,<-l];exact gR d
  exact PySem.W.ki_setBack g Oo (by rw[bE,<-l];exact m) Oo (by rw[e];exact Y1x I' q)
def DR(lo hi:Y1c)(n:Nat):(sliceBounds lo hi none n).1=((HT.kI n 0 lo:Nat):Int)/\(sliceBounds lo hi none n).2.1=((HT.kI n n hi:Nat):Int)/\(sliceBounds lo hi none n).2.2=1:=by
 refine Y5P ?_ ?_
 ·cases lo with
  | none=>simp[sliceBounds,HT.kI]
  | some i =>
   simp only[sliceBounds,HT.kI,Option.getD_none,show(1:Int) > 0 by decide,if_true];by_cases h:i<0
   ·simp only[h,if_true] <;> exact Oo
   ·simp only[h,if_false] <;> exact Oo
 ·cases hi with
  | none=>simp[sliceBounds,HT.kI]
  | some i =>
   simp only[sliceBounds,HT.kI,Option.getD_none,show(1:Int) > 0 by decide,if_true];by_cases h:i<0
   ·simp only[h,if_true] <;> exact Oo
   ·simp only[h,if_false] <;> exact Oo
def BG(its:Ah)(lo hi:Y1c):slicePick its.toArray lo hi none=((its.drop (HT.kI its.length 0 lo)).take (HT.kI its.length its.length hi-HT.kI its.length 0 lo)).toArray:=by
 obtain⟨c,a,d⟩:=DR lo hi its.toArray.size;unfold slicePick;rw[c,a,d];simp only[sliceRange_one,pick_run,bE] <;> rfl
def aDt(K:Aa):V->Y1c->Y9c:=λx lo hi H Q=>∃a xs,x=Y3/\Y2P K H a/\∀p,H p=none->Y10 p (Y1S H p (nI xs lo hi))
def LX:SlR X (aDt X.K):=by
 intro i s σ H x v A B e g z Q I u p w n h;obtain⟨a,c,rfl,m,q⟩:=h;cases u;obtain⟨l,r,j,y⟩:=I.list m;have d:=r.length;refine⟨"list",_,slot_list_getitem.lookup,j.isList.typeIs,wpAny_getItem_list_slice j.isList p w n .none (by simp) ?_ (by rw[bE] <;> exact Oo)⟩;rw[BG,<-d];refine Y2l Y24 (Yc4 (.lst (nI c e g)) (λb C q=>Y0h q) Yn ?_) (q _ (Y4u _));exact⟨aP (xO c e g) y,_,0,(r.drop (HT.kI c.length 0 e)).take (HT.kI c.length c.length g-HT.kI c.length 0 e),Y17⟩
def vW:kL X (.type "list") (λxs H Q=>∃p ys,xs=Y5N/\(gW X.K H p ys\/fY X.K H p ys)/\∀l,H l=none->Y10 l (Y1S H l ys)):=by
 intro m s σ H xs D Q I r h;obtain⟨p,ys,rfl,x,q⟩:=h;obtain⟨u,rfl,C⟩:=lS r;cases C;have j:∀(a:Ah),dO ys a->Yeq->∀(c:Heap) (g:Nat),(∀b o',Y1W b o'->c.get? b=some o') ->
   c.get? s.heap.objs.size=some { cls:=.type "list",dict:=none,data:=.seq a.toArray g,slots:=#[] }->EP X m σ Q (Y24) { s with heap:=c }:=λa d y c g kp e =>
  Y2l Y24 (I.laid (t':=s.toks) kp (Yn) (show eU X.prog X.w _ c _ (.lst ys)from⟨y,a,g,d,e⟩)) (q _ (Y4u _))
 rcases x with x | x
 ·obtain⟨a,d,B,y⟩:=I.list x;have i:=d.length;obtain⟨o,z,A,n,hd⟩:=B.isList;exact call_list_seq p (Y3T) z A hd (λc g kp e=>j a d y c g kp e) (by simp only[bE] <;> exact Oo)
 ·obtain⟨a,d,B,y⟩:=I.tuple x;have i:=d.length;obtain⟨o,z,A,n,hd⟩:=B;exact call_list_seq p (.inr rfl) z A hd (λc g kp e=>j a d y c g kp e) (by simp only[bE] <;> exact Oo)
def dN:kL X (.type "tuple") (λxs H Q=>∃p ys,xs=Y5N/\((gW X.K H p ys/\∀l,H l=none->Y10 l (Y8T l ys))\/(fY X.K H p ys/\Y10 p H))):=by
 intro a s σ H xs y Q I r h;obtain⟨p,ys,rfl,h⟩:=h;obtain⟨u,rfl,x⟩:=lS r;cases x;rcases h with⟨i,q⟩ | ⟨i,q⟩
 ·obtain⟨c,g,j,n⟩:=I.list i;have m:=g.length;refine call_tuple_list j.isList (λd kp=>?_) (by simp only[bE] <;> exact Oo);have I1:Y1D a H ({ s with heap:=d }):=I.kept (t':=s.toks) kp;have I2:Y1D a (Y8T d.objs.size ys) ({ s with heap:=d.push { cls:=.type "tuple",data:=.seq c.toArray } }) :=
   YfC s.toks (YaR _ e) (show eU X.prog X.w _ _ _ (.tup ys)from⟨⟨n,_,bA _ rfl,rfl⟩,c,g,IsTup.new _ _⟩)
  exact Y2l (.ref d.objs.size) I2 (q _ (Yfs))
 ·obtain⟨c,g,j,n⟩:=I.tuple i;exact call_tuple_same j (Y2S Y0y H I q)
def tyV(K:Aa)(T:String)(x:V)(H:Hp):Prop:=match x with
 | .str _=>T = "str"
 | .int _=>T = "int"
 | .ref p=>(T = "list" /\ ∃xs,gW K H p xs)\/(T = "tuple" /\ ((∃o,K.lookup p=some o/\o.cls=.type "tuple" /\ o.dict=none)\/∃xs,H p=some (.tup xs))) \/
   (T = "dict" /\ ((∃kvs,H p=some (.dK kvs))\/∃kvs,H p=some (.dT kvs)))\/(T = "set" /\ ∃S n,H p=some (.set S n))
 | _=>False
def aAK{pins:Ae}{σ:St}{H:Hp}{s:Shared}{T:String}{x:V}{v:Value}(I:Y1)(r:eI x v)(ty:tyV X.K T x H) :
  s.TypeIs v T/\∀a,v=Y3->∃ob,Y1W a ob/\ob.dict=none:=by
 cases x with
 | str z =>
  obtain⟨t,rfl⟩:=r;cases(show T = "str" from ty);exact⟨typeIs_str s z t,λ_ e=>nomatch e⟩
 | int i =>
  obtain⟨t,rfl⟩:=r;cases(show T = "int" from ty);exact⟨Y9Q s i,λ_ e=>nomatch e⟩
 | ref p =>
  cases r;rcases ty with⟨rfl,m,l⟩ | ⟨rfl,⟨o,d,D,hd⟩ | ⟨m,l⟩⟩ | ⟨rfl,d⟩ | ⟨rfl,S,n,d⟩
  ·obtain⟨y,_,u,_⟩:=I.list l;refine⟨u.isList.typeIs,λa e=>?_⟩;cases e;obtain⟨o,n,e,c,hd,_⟩:=u;exact Y0U e hd
  ·refine⟨Y0U (I.kIn p o d) D,λa e=>?_⟩;cases e;exact Y0U (I.kIn _ o d) hd
  ·obtain⟨⟨_,A,B,G⟩,_,_,o,C,h,_⟩:=(show eU X.prog X.w H s.heap p (.tup m)from I.hok p _ l);refine⟨Y0U C h,λa e=>?_⟩;cases e;exact⟨A,B,G⟩
  ·have z:∃o,Y9m p/\o.ExactDict:=by
    rcases d with⟨j,d⟩ | ⟨j,d⟩
    ·obtain⟨_,_,_,_,o,_,_,e,g,_⟩:=Y70 p d;exact Y0U e g
    ·obtain⟨_,_,_,_,o,_,_,e,g,_⟩:=Y70 p d;exact Y0U e g
   obtain⟨o,e,g⟩:=z;refine⟨Y0U e g.1,λa h=>?_⟩;cases h;exact Y0U e g.2.1
  ·obtain⟨o,_,_,_,e,g,_⟩:=Y70 p d;refine⟨Y0U e g.1,λa h=>?_⟩;cases h;exact Y0U e g.2.1
 | _=>exact False.elim ty
def tBM(K:Aa)(T:String)(r:V->Y1o)(to:TE)(t:TA):TE:=λσ H Q=>to σ H λx H1=>tyV K T x H1/\t σ H1 λxs H2=>r x xs H2 Q
variable{o e:Expr}{es:Y04}{to:TE}{t:TA}{name:Str}{apos cpos:Pos}{T id:String}{r:V->Y1o}
def aDG(pa:PlainAttrs T)(slot:Slot T name id)(hty:typeOf (.builtin id)=pure (.type "method_descriptor"))(hm:MtR X id r)(ho:Yl o to)(ha:PA X (e::es) t)
  (hbase:YaW o name (Y0d o)=Y0d o:=by rfl)
  (hfew:((backTo cpos (starEach (e::es) X.env)).all (λx=>! x.1)&&(backToKw cpos (keywordEach [] X.env)).all (λx=>x.1.isSome)
   && Y34 ((e::es).length+([]:List Keyword).length+(if([]:List Keyword).isEmpty then 0 else 1)) 30)=true:=by rfl)
  (hline:(Yev)=true:=by rfl) (hs:Y4m=(false,Y1y)::Y36:=by rfl) (hplain:Yq ((backTo cpos (starEach es X.env)).any (·.1)):=by rfl) :
  Yl (Ycs o name apos (e::es) [] cpos) (tBM X.K T r to t):=by
 intro c s σ H Q I h;refine wpAny_Call_method_late hbase hfew hline rfl (thn (ho c s σ H _ I h) λv l ⟨x,H1,I1,d,ty,p⟩=>?_);obtain⟨u,y⟩:=aAK I1 d ty;refine⟨T,id,pa,slot,hty,u,y,?_⟩;have g:=ha cpos c l σ H1 _ I1 p;rw[hs]at g ⊢;refine Calls.callWith_builtin (by show Yq (false || (backTo cpos (starEach es X.env)).any (·.1));rw[hplain] <;> rfl) (Calls.evalArgs_plain ?_);exact thn g λw j ⟨n,H2,I2,i,z⟩=>hm c j σ H2 x n v w Q I2 d i z
/- xs.append(e),list.index on a module's tuple .. are MtR facts of 06m -/
end
def MtM(X:Cx)(id:String)(r:V->Y1o):Prop :=
 ∀(pins:Ae) (s:Shared) (σ:St) (H:Hp) (x:V) (xs:An) (v:Value) (us:Ah) (Q:VK),Y1->eI x v->Y6s->r x xs H Q ->
  Y6Z (Y8B id (v::us)) X σ Q
def dO.one:∀{x:V}{us:Ah},Y3x [x]->∃u,us=[u]/\eI x u
 | _,_,.cons r .nil=>⟨_,rfl,r⟩
theorem CF(its:Ah):∀(k:Nat) (acc:Ah),
  List.foldl (λx1 x2=>x1++x2) acc.toArray (Y4s its.toArray)=(acc++(Y4s its).flatten).toArray
 | 0,acc=>by simp
 | k+1,acc=>by
  have e:acc.toArray++its.toArray=(acc++its).toArray:=by simp
  have a:(acc++its)++(List.replicate k its).flatten=acc++(List.replicate (k+1) its).flatten:=by
   rw[List.replicate_succ,List.flatten_cons,List.append_assoc]
  rw[<-a,<-CF its k (acc++its),<-e,List.replicate_succ,List.foldl_cons]
section
variable{X:Cx}{pins:Ae}{σ:St}{H:Hp}{s:Shared}{l b:Addr}{xs ys zs:An}
def cL.lset{its its':Ah}{n:Nat}{f:Aj->Aj}{t':Nat}(I:Y1)(hH:H l=Y0o)
  (e:Y1W l ({ cls:=.type "list",data:=.seq its.toArray n })) (hf:f its.toArray=its'.toArray) (hv:dO ys its') (hz:Yeq) :
  Y1Q (Y1S H l ys) ({ s with heap:=s.heap.update l (Obj.mapSeq f),toks:=t' }):=by
 have q:=PySem.IsL.update e f;rw[hf]at q;refine YdC l l (by rw[hH];exact trivial) (λd u c a=>(Heap.get?_update_other s.heap (Obj.mapSeq f) (Ne.symm c)).trans a) (Y0C q) ?_;exact⟨hz,its',_,hv,q⟩
def cL.lnew{its:Ah}{t':Nat}(I:Y1)(hv:dO ys its)(hz:Yeq) :
  Y1Q (Y7u H ys) ({ s with heap:=s.heap.push { cls:=.type "list",data:=.seq its.toArray },toks:=t' }) :=
 I.laid (YcC q) (Yn) ⟨hz,its,0,hv,Y17⟩
theorem cL.fresh(I:Y1):H s.heap.objs.size=none:=Y4u _
def cL.lstM(I:Y1)(hH:H l=Y0o):Y4x/\∃(its:Ah) (n:Nat),dO xs its/\Y2v its.length/\Y1W l ({ cls:=.type "list",data:=.seq its.toArray n }):=by
 obtain⟨z,its,n,r,e⟩:=Y70 l hH;exact⟨z,its,n,r,r.length,e⟩
def TM{n:Nat}(h:Y0r n):Yq (Builtin.List.listTooLong n):=by
 unfold Builtin.List.listTooLong;exact cI Oo
end
section
variable{X:Cx}
def MM:V->Y1o:=λx vs H Q=>∃l xs y,x=Y1k/\vs=[y]/\H l=Y0o/\Ybn xs.length/\Q .non (Y1S H l (xs++[y]))
def BY:MtM X "list.append" MM:=by
 intro c s σ H x m v p Q I i rv h;obtain⟨l,j,y,rfl,rfl,d,A,q⟩:=h;cases i;obtain⟨u,rfl,g⟩:=rv.one;obtain⟨z,a,n,r,w,e⟩:=I.lstM d;refine call_meets F.slot_list_append (Y0m e) F.entry_list_append (F.args_list_append_2 _ _) (PySem.list_append l a.toArray n u (by rw[bE];exact Oo)) ⟨e,Y2l .non (I.lset (its':=a++[u]) d e (by simp) (r.append (Ya6 g)) ?_) q⟩;rw[bF,List.length_singleton];exact Oo
def MK:V->Y1o:=λx vs H Q=>∃l b xs zs,x=Y1k/\vs=[Y0z]/\H l=Y0o/\H b=Y77/\Y0r Yes/\Q .non (Y1S H l (xs++zs))
def PC:MtM X "list.extend" MK:=by
 intro i s σ H x G v M Q I C rv h;obtain⟨l,b,D,L,rfl,rfl,j,B,O,q⟩:=h;cases C;obtain⟨u,rfl,y⟩:=rv.one;cases y;obtain⟨z,c,n,r,N,e⟩:=I.lstM j;obtain⟨J,a,A,p,m,w⟩:=I.lstM B;have g:Y0r (c.toArray.size+a.toArray.size):=by rw[bE,bE];exact Oo
 have d:¬(! c.toArray.isEmpty&&Builtin.List.listTooLong (c.toArray.size+a.toArray.size))=true:=by
  rw[TM g,Bool.and_false];exact cH
 refine call_meets F.slot_list_extend (Y0m e) F.entry_list_extend (F.args_list_extend_2 _ _)
  (AutoSeq1.list_extend_list_list_0 l c.toArray n b a.toArray A d (by rw[bE];exact Oo) Oo) (Y08 e w)
 refine Y2l .non (I.lset (its':=c++a) j e (by simp) (r.append p) ?_) q;rw[bF];exact Oo
def aDz:R2:=λx y H Q=>∃l b xs zs,x=Y1k/\y=Y0z/\H l=Y0o/\H b=Y77/\Y0r Yes/\∀p,H p=none->Y10 p (Y1S H p (xs++zs))
def TK:Y4y X .Add aDz:=by
 intro d s σ H x y v u Q I B w h;obtain⟨l,b,C,G,rfl,rfl,A,p,M,q⟩:=h;cases B;cases w;obtain⟨z,c,n,r,L,e⟩:=I.lstM A;obtain⟨D,a,J,j,g,m⟩:=I.lstM p;refine PySem.P.add_list e m ?_ (by rw[bE,bE];exact Oo);have i:c.toArray++a.toArray=(c++a).toArray:=by simp
 rw[i];exact Y2l (.ref _) (I.lnew (t':=s.toks) (r.append j) (by rw[bF];exact Oo)) (q _ I.fresh)
end
section
variable{prog:Program}{w:World}{A:Around}{E:Y5}{s:Shared}
end
section
variable{X:Cx}
end
end L2
namespace Att
open PySem PySem.W PySem.Calls PyProof.Rows
def xT{P:Params}{h:Heap}:∀(ns:Ag) (vs:Ah),WellAll P h vs (ns.map WData.int)->Ybr vs:=by
 intro ns
 induction ns with
 | nil =>
  intro vs w;rw[List.map_nil]at w;cases w;exact .nil
 | cons n ns ih =>
  intro vs w;rw[bJ]at w;cases w with
  | cons a b =>
   cases a;exact .cons _ _ (ih _ b)
def OR{l:OpenLaw}{n:Nat}(hn:l.most=Y75){P:Params}{h:Heap}{args:List WData}{vals:Ah}
  (hpre:l.row.toRowW.claim.pre args=true) (hwl:WellAll P h vals args) :
  ∃a vs ns,vals=[Y4B]/\args=[WData.list (ns.map WData.int)]/\Y7U=some { cls:=.type "list",data:=.seq vs.toArray }/\Ybr vs/\Y6G n:=by
 have i:WShape.hasAll [] args [.list .int]=true:=(pre_splitW hpre).1;have j:l.pre.holds [] { args:=args }=true:=(pre_splitW hpre).2;obtain⟨d,r,rfl,u,p⟩:=hasAllW_cons i;obtain rfl:=hasAllW_nil p;obtain⟨w,rfl,m⟩:=hasW_list u;obtain⟨ns,rfl⟩:=items_int m;have c:Y6G n:=by
  unfold OpenLaw.pre at j;have g:(WTm.not (.lt (.lit (.int (n:Int))) (.len (.arg 0)))).holds [] { args:=[.list (ns.map .int)] }=true:=by
   have g:=(holds_andW j).1;rw[hn]at g;exact g
  have e:=condW_of g (w_not (w_lt w_lit (w_len_list (w_arg rfl))));rw[aB]at e;refine Nat.le_of_not_lt λq=>?_;have s:(n:Int)<((ns.length:Nat):Int):=Oo
  first
   | (rw[bV s]at e;exact absurd e Dd)
   | (simp at e;exact Oo)
 cases hwl with
 | cons w1 w2 =>
  cases w2;cases w1 with
  | list ho hall=>exact Y1Z _ _ ns rfl ho (xT ns _ hall) c
def OX(l:OpenLaw)(args:List WData):l.row.toRowW.claim.post args (Ya1) args=true :=
 postW_of (r:=l.row.toRowW) (X:=(true == true))
  (show WShape.has [] (.bool true) .bool=true by first | rfl | decide | simp[WShape.has,WShape.arms,WShape.armsAll])
  (show(WTm.eq .res (.lit (.bool true))).value [] { args:=args,res:=some (.bool true),after:=args }=some (.bool (true == true))from w_eq_bool (w_res rfl) w_lit) rfl
def IG{l:OpenLaw}{n:Nat}{q:Program}{loose:Ai}{XP:(Y0a)->Y4G}{YP:World->Y4G}{d:DefRec}
  (hn:l.most=Y75) (hdf:d.params.defaults=[])
  (call:∀(w:World) (s₀ s₁:Shared) (mg mb:Y0a) (fa:Addr) (o:Obj) (pm cd doc:Value) (a:Addr) (vs:Ah) (ns:Ag),
   Ground q loose [] XP w s₀ mg mb s₁.heap->YP w s₁.heap ->
   YcW fa Y7->o.data=.func (docDef d.name d.params d.body d.scope pm cd doc)->s₁.heap.CodeRec cd d.name->mg d.name=Y2 fa ->
   YcW a (some { cls:=.type "list",data:=.seq vs.toArray })->Ybr vs->Y6G n->s₁.gens=#[] ->
   Y9K (model l.prog w) callerA (.ref fa) ⟨Y3b,[]⟩ (λr s'=>r=Yc1 Ya1/\OldK s₁.heap s'.heap/\s'.os=s₁.os/\Yb3) s₁) :
  WalkO q loose XP YP l.row.toRowW d [] (YfH f vs):=by
 intro w s₀ s₁ mg mb G Y fa o pm cd doc J kV A hd i u m x p vals M h s y j C;obtain rfl:J=.none:=Dflts.none u hdf;obtain rfl:kV=.none:=Dflts.noKw u;obtain⟨a,vs,ns,rfl,rfl,g,c,e⟩:=OR hn h j;refine enter_call (codeAny_mono (call w s₀ s₁ mg mb fa o pm cd doc a vs ns G Y A (fd_plain hd) i m g c e x) λr s' D=>?_);obtain⟨rfl,B,I,L⟩:=D;exact⟨.inl ⟨Ya1,Ya1,[],rfl,Ydc,Ya1,OX l _,λ_=>⟨List.Pairwise.nil,λ_ z=>(nomatch z)⟩⟩,B,I,L⟩
section
variable{prog:Program}{w:World}{A:Around}{E:Y5}{s:Shared}{K:Frag}
end
end Att
namespace L2
open PySem PySem.Spec PyProof.Rows
theorem BN:∀{vs:Ah}{ns:Ag},Ybr vs->dO (Y5S) vs
 | _,_,.nil=>.nil
 | _,_,.cons n t h=>.cons ⟨t,rfl⟩ (BN h)
def ZS(H:Hp):Prop:=∀b,H b=none\/∃o xs,H b=Y8P o (.lst xs)
def TY{P:Program}{w:World}{K:Aa}{mg mb:Y0a}{CX:LB}{k:Nat}{fa a:Addr}{fd:FuncData}{x:Str}{sp:Sp}{s₁:Shared}{vs:Ah}{ns:Ag}
  (KX:K.In s₁.heap) (hns:s₁.heap.Ns mainGlobals mg) (hb:s₁.heap.Ns builtinsNs mb) (hbb:∀x:Str,x ≠ "__name__" -> mb x=Y7y) (hlim:s₁.heap.NoLimit) (hg:s₁.gens=#[])
  (ha:YcW a (some { cls:=.type "list",data:=.seq vs.toArray })) (hi:Ybr vs) (hl:Y0r ns.length) (hr:iS k callerA)
  (F:∀base:Heap,K.In base->Ycf mg->dI P w K mg base CX k fa fd [x] sp) (hbind:∀(s:Shared) (u:Value),YbF s ⟨[u],[]⟩ [(x,u)])
  (hsp:∀H:Hp,ZS H->gW K H a Y5S->sp Y3b H (λv _=>v=Y44) Y8z)
  (hCX:∀H e s',CX [] H s₁ (Y8z) e s'->False) :
  Y9K (model P w) callerA (.ref fa) ⟨Y3b,[]⟩ (λr s'=>r=Yc1 Ya1/\OldK s₁.heap s'.heap/\s'.os=s₁.os/\Yb3) s₁:=by
 have rv:=BN hi;have p:=hi.length;have i:∀H:Hp,ZS H->gW K H a Y5S->nC P w H s₁.heap->(∀b,H b≠none->b=a)->(H a≠none->YcZ=none) ->
   Y9K (model P w) callerA (.ref fa) ⟨Y3b,[]⟩ (λr s'=>r=Yc1 Ya1/\OldK s₁.heap s'.heap/\s'.os=s₁.os/\Yb3) s₁:=by
  intro H M Z B L O;have c:∀{b:Addr} {o:Obj},YcW b Y7->H b=none->(EM s₁.heap H).get? b=Y7:=λe n=>UC e n;have G:∀{b:Addr} {o:Obj} {y:Yco} {l:Nat},YcW b Y7->o.data=.dict y l->H b=none:=λ{b o y l} e d=>by
   cases q:H b with
   | none=>rfl
   | some u =>
    have I:b=a:=L b (by rw[q];simp);subst I;rw[ha]at e;cases e;have T:Data.seq vs.toArray _=Data.dict y l:=d;cases T
  have g:∀{b:Addr} {m:Y0a},s₁.heap.Ns b m->(EM s₁.heap H).Ns b m:=λ{b m} ⟨o,y,l,e,d,r⟩=>⟨o,y,l,c e (G e d),d,r⟩;have C:K.In (EM s₁.heap H):=λb o e=>c (KX b o e) (by
   cases q:H b with
   | none=>rfl
   | some u =>
    have I:b=a:=L b (by rw[q];simp);subst I;rw[O (by rw[q];simp)]at e;cases e)
  have α:Mod K mg (EM s₁.heap H):=⟨C,g hns,⟨mb,g hb,hbb⟩,let ⟨mc,h1,h2⟩:=hlim;⟨mc,g h1,h2⟩⟩;have X:LA P w K mg (EM s₁.heap H) callerA [] s₁ H:=⟨rfl,α,λb o e=>YH e,Nat.le_of_eq (PP _ _),trivial,λb hb=>absurd (show b∈([]:List Addr)from hb) (by simp),B,.of_eq hg⟩;refine codeAny_mono ((F _ C (g hns)).run callerA [] s₁ H ⟨Y3b,[]⟩ Y3b Y3b _ _ hr X (hbind s₁ (Y3)) (Ya6 rfl) (hsp H M Z)) λr s' h=>?_;cases r with
  | error e=>exact(hCX H e s' h).elim
  | ok fl =>
   cases fl with
   | next=>exact False.elim h
   | brk=>exact False.elim h
   | cont=>exact False.elim h
   | ret u =>
    obtain⟨v,H',os,j,un,A,R,q⟩:=h;have U:v=Y44:=q;subst U;obtain rfl:u=Value.bool true:=R;refine⟨rfl,OldK.of_keep λb o e=>?_,os,j⟩;cases q:H b with
    | none=>exact un.keep b o e q (by intro z;exact absurd (show b∈([]:List Addr)from z) (by simp)) (by simp)
    | some u =>
     rcases M b with z | ⟨β,γ,z⟩
     ·rw[q]at z;cases z
     ·have S:=un.frzs b β _ z;obtain⟨J,_⟩:=B b _ z;obtain⟨N,_⟩:=A b _ S;rw[e]at J;cases J;exact N
 cases hk:YcZ with
 | some o =>
  have e:=KX a o hk;rw[ha]at e;cases e;refine i (Yd1) (λ_=>Y3T) (.inr (Y5c _ vs.toArray _ hk rfl rfl (by rw[bE,p];exact hl) (by simpa using rv))) (λb u z=>by have D:(none:Option HO)=Yv:=z;cases D) (YcB rfl z) (YcR rfl z)
 | none =>
  refine i (λb=>if b=a then Y8P ({ cls:=.type "list",data:=.seq vs.toArray }) (.lst (Y5S)) else none) (λb=>?_) (.inl (Y6P ({ cls:=.type "list",data:=.seq vs.toArray }) Y12)) (λb u z=>?_) (λb z=>?_) λ_=>hk
  ·by_cases hb:b=a
   ·exact Y2j _ _ (if_pos hb)
   ·exact .inl (if_neg hb)
  ·by_cases hb:b=a
   ·have D:=(if_pos hb).symm.trans z;cases D;subst hb;exact⟨ha,by rw[aB];exact hl,vs,_,rv,ha⟩
   ·have D:=(if_neg hb).symm.trans z;cases D
  ·by_cases hb:b=a
   ·exact hb
   ·exact absurd (if_neg hb) z
def LN{l:PySem.W.OpenLaw}{n k:Nat}{q:Program}{loose:Ai}{XP:(Y0a)->Y4G}{YP:World->Y4G}{d:DefRec}{K:Params->Aa}{CX:World->LB}{sp:World->Sp}{x:Str}
  (hn:l.most=Y75) (hn2:Y0r n) (hdf:d.params.defaults=[]) (hr:iS k callerA)
  (hY:∀(w:World) (h:Heap),YP w h->(K w.params).In h)
  (F:∀(w:World) (mg:Y0a) (fa:Addr) (h:Heap),(K w.params).In h->Yeb mg->mg d.name=Y2 fa ->
   ∃fd:FuncData,(∀(s:Shared) (u:Value),YbF s ⟨[u],[]⟩ [(x,u)]) /\
    ∀base:Heap,(K w.params).In base->Ycf mg->dI l.prog w (Ybp) mg base (CX w) k fa fd [x] (sp w))
  (hsp:∀(w:World) (H:Hp) (a:Addr) (ns:Ag),Y6G n->ZS H->gW Ybp H a Y5S->sp w Y3b H (λv _=>v=Y44) Y8z)
  (hCX:∀(w:World) (H:Hp) (s:Shared) (e:Value) (s':Shared),CX w [] H s (Y8z) e s'->False) :
  PySem.W.WalkO q loose XP YP l.row.toRowW d [] (YfH f vs):=by
 refine Att.IG hn hdf λw N D mg I fa o M J A a vs ns G Y L hd p m j i c r=>?_;have KX:=hY w _ Y;obtain⟨fd,y,z⟩:=F w mg fa _ KX G.T.g m;exact TY KX G.T.g G.T.b G.T.builtins G.T.nolimit r j i (aP c hn2) hr z y (λH B C=>hsp w H a ns c B C) λH e s'=>hCX w H D e s'
def RE{l:PySem.W.OpenLaw}{n k:Nat}{q:Program}{loose:Ai}{XP:(Y0a)->Y4G}{YP:World->Y4G}{d:DefRec}{K:Params->Aa}{CX:LB}{sp:Aa->Sp}{x:Str}
  (hn:l.most=Y75) (hn2:Y0r n) (hdf:d.params.defaults=[]) (hr:iS k callerA)
  (hY:∀(w:World) (h:Heap),YP w h->(K w.params).In h)
  (F:∀(w:World) (mg:Y0a) (fa:Addr) (h:Heap),(K w.params).In h->Yeb mg->mg d.name=Y2 fa ->
   ∃fd:FuncData,(∀(s:Shared) (u:Value),YbF s ⟨[u],[]⟩ [(x,u)]) /\
    ∀base:Heap,(K w.params).In base->Ycf mg->dI l.prog w (Ybp) mg base CX k fa fd [x] (sp (Ybp)))
  (hsp:∀(K:Aa) (H:Hp) (a:Addr) (ns:Ag),Y6G n->ZS H->gW K H a Y5S->sp K Y3b H (λv _=>v=Y44) Y8z)
  (hCX:∀(H:Hp) (s:Shared) (e:Value) (s':Shared),CX [] H s (Y8z) e s'->False) :
  PySem.W.WalkO q loose XP YP l.row.toRowW d [] (YfH f vs) :=
 LN (K:=K) (CX:=λ_=>CX) (sp:=λw=>sp (Ybp)) hn hn2 hdf hr hY F (λw H a ns i g c=>hsp (Ybp) H a ns i g c) λ_ H s e s'=>hCX H s e s'
end L2
/- THE LAST THEOREM (shape;LID,My.* are yours):
   My.Adr: a structure of the addresses that your layer names (classes,functions);My.Txt K t: a structure (Prop) of the equations over K;
   My.txt_mk:{K} {implicit addresses ..} (e1:nsIn K mainGlobals "law" = some (some (.ref f))) (e2:K.lookup f=some ⟨oc,od,.func (fnOf "law" "law" params body scope dV kV doc pm an cdv ct),sl⟩) (e3:codeIn K cdv "law" = true) .. : ∃t,My.Txt K t
set_option maxRecDepth 100000 in
set_option maxHeartbeats 0 in
theorem PySem.Challenge.cw_LID_holds : PySem.Challenge.rw_LID.Holds := by
  w_on;o_law;k_head;(case hw=>w_witness2)
  k_fill
  refine L2.LN (l:=PySem.Challenge.rw_LID) (n:=63) (k:=40) (x := "script") (CX:=λw=>..) (sp:=λ_=>My.sp_law) rfl Dd rfl ⟨rfl,Dd,Dd⟩ (λw h Y=>PySem.W.kIn_of Y) ?F ?S ?C
  case F =>
    intro w y g h KX G e;have T:∃t,My.Txt (L2.KOf KX) t:=by
      dsimp only[L2.KOf]                          -- K must stand as «<heap const> w.params» for k_is
      refine' My.txt_mk ?e1 ?e2 ?e3 ..
      (case e1=>PySem.W.k_is)                    -- in the order: a name -> its address -> its object -> its parts
      (case e2=>PySem.W.k_is)
      ..
    obtain⟨t,T⟩:=T;have i:=e.symm.trans (PySem.W.mg_of KX G T.law);cases i                                       -- g is the law's own address;exact⟨_,λs u=>.of_eq rfl,λbase c d=>My.law_fn T c d⟩     -- if «.of_eq rfl» comes too early: refine' ⟨_,?b,λbase c d=>My.law_fn T c d⟩;exact λs u=>.of_eq rfl
  case S=>exact λw H a p j m r=>..
  case C=>exact ..
(the tactic k_is has no namespace: write k_is) -/
namespace L2
open PySem PySem.Spec PyProof.Rows
def YR(s:Stmt)(j:Nat):Stmt:=match s with
 | .ClassDef _ _ _ body _ _ _ _ _ _ _=>body.getD j (.Pass ⟨0,0,0,0⟩)
 | _=>.Pass ⟨0,0,0,0⟩
def rF(s:Stmt):Arguments:=match s with
 | .FunctionDef _ a _ _ _ _ _ _ _ _=>a
 | _=>{ posonlyargs:=[],args:=[],vararg:=none,kwonlyargs:=[],kw_defaults:=[],kwarg:=none,defaults:=[] }
def lM(s:Stmt):Y3r:=match s with
 | .FunctionDef _ _ b _ _ _ _ _ _ _=>b
 | _=>[]
def bB(s:Stmt):Scope:=match s with
 | .FunctionDef _ _ _ _ _ _ sc _ _ _=>sc
 | _=>{ kind:=.function,names:=[],isGenerator:=false,isCoroutine:=false }
abbrev cN:LB:=λ_ _ _ _ _ _=>False
abbrev E0:XK:=Y8z
def aDH{X:Cx}:KQ cN X E0:=λ_ _ _ _ _ _ _ h=>h.elim
structure hZ(K:Aa)(x qual:Str)(st:Stmt)(f:Addr)(fd:FuncData):Prop where
 ex:∃(oc:Value) (od:Y11) (kV doc pm:Value) (an:Y11) (cdv ct:Value) (osl:Y8K),
  fd=PySem.W.fnOf x qual (rF st) (lM st) (Y4i) .none kV doc pm an cdv ct/\K.lookup f=some ⟨oc,od,.func fd,osl⟩/\Yei cdv qual=true
 kp:Yc5 K f=true
section
variable{P:Program}{w:World}{K:Aa}{mg:Y0a}{base:Heap}
def hZ.ok{x qual:Str}{st:Stmt}{f:Addr}{fd:FuncData}{N ps:Ai}{k:Nat}{sp:Sp}(F:Y9 x qual st)(S:Ya N ps st)(len:∀vs H Q E,sp vs H Q E->Y9H)
  (hbody:∀(cdv:Value) (A:Around) (outer:Y1G) (s:Shared) (H:Hp) (vs:An) (Q:VK) (E:XK),iS k (Y9J qual Y4i f cdv)->sp vs H Q E ->
   ∃t,KU (pK cN P w K mg base N qual (Y4i) f cdv A outer s H E).nox (lM st) t/\t { nx:=λ_ H'=>Q .non H',rt:=Q } (Yay N) H):dI P w K mg base cN (k+1) f fd ps sp:=by
 obtain⟨l,j,kV,i,m,n,cdv,ct,g,rfl,e,a⟩:=F.ex;refine aAq e a S len λA outer s H vs Q E d c=>?_;obtain⟨t,h,q⟩:=hbody cdv A outer s H vs Q E d c;exact⟨t,h.nox,q⟩
def hZ.binds{x qual:Str}{st:Stmt}{f:Addr}{fd:FuncData}{ps:Ai}(F:Y9 x qual st)
  (h:∀(kV doc pm:Value) (an:Y11) (cdv ct:Value) (us:Ah),Y90 ps.length->bindArgs (PySem.W.fnOf x qual (rF st) (lM st) (Y4i) .none kV doc pm an cdv ct) ⟨us,[]⟩=pure (Ybu)):wE K fd ps []:=by
 obtain⟨d,g,kV,doc,pm,an,cdv,ct,c,rfl,e,a⟩:=F.ex;exact .all (h kV doc pm an cdv ct)
def EO{x qual:Str}{st:Stmt}{f:Addr}{oc:Value}{od an:Y11}{osl:Y8K}{kV doc pm cdv ct:Value}(l:K.lookup f=some ⟨oc,od,.func (PySem.W.fnOf x qual (rF st) (lM st) (Y4i) .none kV doc pm an cdv ct),osl⟩)
  (c:Yei cdv qual=true) (k:Yc5 K f=true):hZ K x qual st f (PySem.W.fnOf x qual (rF st) (lM st) (Y4i) .none kV doc pm an cdv ct):=⟨⟨oc,od,kV,doc,pm,an,cdv,ct,osl,rfl,l,c⟩,k⟩
end
def wM{n:Nat}(h:n<=1000):Ybn n:=bS h Dd
section
variable{X:Cx}
def pv(i:Nat){x:Str}{pos:Pos}(hN:Y2c=Y8:=by rfl)(hv:Ycp x:=by first | exact Or.inl rfl | exact Or.inr (Or.inl rfl) | exact Or.inr (Or.inr rfl))(hd:Y19 ("__debug__" : Str):=by decide)
  (hcd:Y19 ("__classdict__" : Str):=by decide):Yl Y6l (aAL i):=aCf hN hv hd hcd
end
def lD{A B:Prop}(h:B):if false=true then A else B:=by
 rw[if_neg cH];exact h
def lL{A B:Prop}(h:A):if true=true then A else B:=by
 rw[Y12];exact h
def aDO{c A B:Prop}[Decidable c](h1:c->A)(h2:¬c->B):if c then A else B:=by
 by_cases h:c
 ·rw[Yan];exact h1 h
 ·rw[Y7T];exact h2 h
def aX(H H':Hp):Prop:=Y0I (H b=Y7) (Y1E=Y7)
def aX.refl(H:Hp):aX H H:=λ_ _ h=>h
def aX.trans{H H1 H2:Hp}(a:aX H H1)(b:aX H1 H2):aX H H2:=λc o h=>b c o (a c o h)
def aX.free{H H':Hp}(e:Y0){l:Addr}(h:H' l=Option.none):H l=Option.none:=by
 cases q:H l with
 | none=>rfl
 | some o =>
  rw[e l o q]at h;cases h
section
variable{κ:Type}[DecidableEq κ]
def fP(kvs:Y37)(k:κ):Ao:=(kvs.find? λkv=>decide (kv.1=k)).map (·.2)
def jL(kvs:Y37)(k:κ)(v:V):Y37 :=
 if YaA (λkv=>Y0Q kv.1 k) true then Ybi (if kv.1=k then(kv.1,v) else kv) else kvs++[(k,v)]
def jB{p:κ × V}{r:Y37}{k:κ}(e:p.1=k):fP (p::r) k=some p.2:=by simp[fP,List.find?_cons,e]
def jC{p:κ × V}{r:Y37}{k:κ}(e:¬p.1=k):fP (p::r) k=fP r k:=by simp[fP,List.find?_cons,e]
theorem mR(k:κ):∀kvs:List (κ × V),YaA (λkv=>Y0Q kv.1 k) ((Y5a).isSome)
 | []=>rfl
 | p::r=>by
  rw[List.any_cons];by_cases e:p.1=k
  ·simp only[jB e,bV e,Bool.true_or,Option.isSome_some]
  ·rw[jC e,cI e,Bool.false_or];exact mR k r
theorem FV(k j:κ)(y:V):∀kvs:List (κ × V),fP (Ybi (if kv.1=k then(kv.1,y) else kv)) j=(fP kvs j).map λx=>if j=k then y else x
 | []=>rfl
 | p::r=>by
  have ih:=FV k j y r;rw[bJ];by_cases h:p.1=k
  ·rw[if_pos h];by_cases e:p.1=j
   ·rw[jB (p:=(p.1,y)) e,jB e,Option.map_some,if_pos (e.symm.trans h)]
   ·rw[jC (p:=(p.1,y)) e,jC e,ih]
  ·rw[if_neg h];by_cases e:p.1=j
   ·rw[jB (p:=p) e,jB e,Option.map_some,if_neg (λz=>h (e.trans z))]
   ·rw[jC (p:=p) e,jC e,ih]
theorem BO(k j:κ)(y:V):∀kvs:List (κ × V),Y5a=none->fP (kvs++[(k,y)]) j=if j=k then Y0j else Y8N j
 | [],_=>by
  by_cases e:k=j
  ·rw[if_pos e.symm];exact jB (p:=(k,y)) e
  ·rw[if_neg (λz=>e z.symm)];exact jC (p:=(k,y)) e
 | p::r,hn=>by
  rw[List.cons_append];have hk:¬p.1=k:=λz=>by rw[jB z]at hn;cases hn
  rw[jC hk]at hn;have a:=BO k j y r hn;by_cases e:p.1=j
  ·rw[jB e,jB e,if_neg (λz=>hk (e.trans z))]
  ·rw[jC e,jC e,a]
def mQ(kvs:Y37)(k j:κ)(y:V):fP (Y55 k y) j=if j=k then Y0j else Y8N j:=by
 unfold jL;by_cases a:YaA (λd=>Y0Q d.1 k) true
 ·rw[if_pos a,FV];rw[mR]at a;by_cases e:j=k
  ·obtain⟨x,c⟩:=Option.isSome_iff_exists.mp a;rw[Yao,e,c,Option.map_some,Y12]
  ·rw[Y6a];cases Y8N j with
   | none=>rfl
   | some x=>rw[Option.map_some,Y6a]
 ·rw[if_neg a];refine BO k j y kvs ?_;rw[mR]at a;cases q:Y5a with
  | none=>rfl
  | some x=>rw[q]at a;exact(a rfl).elim
def iV(kvs:Y37)(k:κ)(v:V):(Y55 k v).length<=kvs.length+1:=by
 unfold jL;split
 ·rw[aB];exact Oo
 ·rw[bF,cE,List.length_nil];exact Oo
def GL{kvs:Y37}{k:κ}(v:V)(h:Y5a=none):Y55 k v=kvs++[(k,v)]:=by
 unfold jL;rw[mR,h];exact Y7M
def rV.isSome_eq{o:Ao}{u:Y8q}(r:rV o u):o.isSome=u.isSome:=by
 cases o with
 | none=>cases u with
  | none=>rfl
  | some _=>exact(show False from r).elim
 | some _=>cases u with
  | none=>exact(show False from r).elim
  | some _=>rfl
theorem rV.getD{o:Ao}{u:Y8q}{d:V}{d':Value}(r:rV o u)(rd:eI d d'):eI (o.getD d) (u.getD d'):=by
 cases o with
 | none=>cases u with
  | none=>exact rd
  | some _=>exact(show False from r).elim
 | some _=>cases u with
  | none=>exact(show False from r).elim
  | some _=>exact r
def KV.val{kvs:Y37}{vs:Y67 κ}(r:Y8n)(k:κ):rV (Y5a) (valueAt vs k):=by
 unfold KV at r
 induction r with
 | nil=>exact True.intro
 | @cons p q ps qs h t ih =>
  obtain⟨c,d⟩:=h;by_cases e:p.1=k
  ·have a:q.1=k:=c.symm.trans e;have b:valueAt (q::qs) k=some q.2:=by simp[valueAt,List.find?_cons,a]
   rw[jB e,b];exact d
  ·have a:¬q.1=k:=λz=>e (c.trans z);have b:valueAt (q::qs) k=valueAt qs k:=by simp[valueAt,List.find?_cons,a]
   rw[jC e,b];exact ih
theorem KV.any{kvs:Y37}{vs:Y67 κ}(r:Y8n)(k:κ):YaA (λkv=>Y0Q kv.1 k) (vs.any λkv=>Y0Q kv.1 k):=by
 unfold KV at r
 induction r with
 | nil=>rfl
 | cons h t ih=>rw[List.any_cons,List.any_cons,ih,h.1]
def KV.repl{kvs:Y37}{vs:Y67 κ}(r:Y8n)(k:κ){y:V}{u:Value}(ry:Y4l) :
  KV (Ybi (if kv.1=k then(kv.1,y) else kv)) (vs.map λkv=>if kv.1=k then(kv.1,u) else kv):=by
 unfold KV at r ⊢
 induction r with
 | nil=>exact .nil
 | @cons p q ps qs h t ih =>
  rw[bJ,bJ];refine Yax ?_;obtain⟨a,c⟩:=h;by_cases e:p.1=k
  ·rw[Yao,if_pos (a.symm.trans e)];exact⟨a,ry⟩
  ·rw[Y6a,if_neg (λz=>e (a.trans z))];exact⟨a,c⟩
def KV.put{kvs:Y37}{vs:Y67 κ}(r:Y8n)(k:κ){y:V}{u:Value}(ry:Y4l):KV (Y55 k y) (stored vs k u):=by
 unfold jL stored;rw[r.any k];by_cases e:(vs.any λa=>Y0Q a.1 k)=true
 ·rw[Yao,Yao];exact r.repl k ry
 ·rw[Y6a,Y6a];exact Paired.snoc r (Y1b ry)
theorem KV.length{kvs:Y37}{vs:Y67 κ}(r:Y8n):kvs.length=vs.length:=Paired.length r
end
def CC{P:Program}{w:World}{k:fK}{u:Value}(r:eI (kV k) u):(fX P w).is k u=true:=by
 cases k with
 | inl i=>obtain⟨t,e⟩:=(show ∃t,u=Value.int i t from r);subst e;exact GT P w i t
 | inr x=>obtain⟨t,e⟩:=(show ∃t,u=Value.str x t from r);subst e;exact GS P w x t
theorem CD{P:Program}{w:World}:∀{ks:Y4J}{us:Ah},Y3x (ks.map kV)->ItemsAre (fX P w) ks us
 | [],_,r=>by rw[List.map_nil]at r;cases r;exact .nil
 | k::ks,_,r=>by
  rw[bJ]at r;cases r with
  | cons h t=>exact .cons (CC h) (CD t)
abbrev KT(H:Hp):Y0u Yw YaC:=Paired λp q=>p.1=q.1/\H q.2.1=Ym (p.1.map kV)/\eI p.2 q.2.2
def KT.val{H:Hp}{kvs:Yw}{xs:YaC}(r:KT H kvs xs)(k:Y4J):rV (Y5a) ((atKey xs k).map (·.2)):=by
 induction r with
 | nil=>exact True.intro
 | @cons p q ps qs h t ih =>
  obtain⟨c,_,d⟩:=h;by_cases e:p.1=k
  ·have a:q.1=k:=c.symm.trans e;have b:atKey (q::qs) k=some q.2:=by simp[atKey,List.find?_cons,a]
   rw[jB e,b];exact d
  ·have a:¬q.1=k:=λz=>e (c.trans z);have b:atKey (q::qs) k=atKey qs k:=by simp[atKey,List.find?_cons,a]
   rw[jC e,b];exact ih
def KT.repl{H:Hp}{kvs:Yw}{xs:YaC}(r:KT H kvs xs)(k:Y4J){y:V}{u:Value}(ry:Y4l) :
  KT H (Ybi (if kv.1=k then(kv.1,y) else kv)) (xs.map (putAt k u)):=by
 induction r with
 | nil=>exact .nil
 | @cons p q ps qs h t ih =>
  rw[bJ,bJ];refine Yax ?_;obtain⟨a,c,d⟩:=h;unfold putAt;by_cases e:p.1=k
  ·rw[Yao,if_pos (a.symm.trans e)];exact Y5d c ry
  ·rw[Y6a,if_neg (λz=>e (a.trans z))];exact Y5d c d
def KT.put{H:Hp}{kvs:Yw}{xs:YaC}(r:KT H kvs xs)(k:Y4J){b:Addr}{y:V}{u:Value}(hb:H b=Ybm kV)(ry:Y4l) :
  KT H (Y55 k y) (storedH xs k b u):=by
 have e:YaA (λa=>Y0Q a.1 k) ((atKey xs k).isSome):=by
  rw[mR,(r.val k).isSome_eq,Option.isSome_map]
 unfold jL storedH;rw[e];by_cases q:(atKey xs k).isSome=true
 ·rw[Y43,Y43];exact r.repl k ry
 ·rw[Y1u,Y1u];exact Paired.snoc r ⟨rfl,hb,ry⟩
def KT.keeps{H H':Hp}{kvs:Yw}{xs:YaC}(r:KT H kvs xs)(ht:∀b ys,H b=Y6r->Y1E=Y6r):KT H' kvs xs :=
 Paired.mapP r λ_ _ z=>⟨z.1,ht _ _ z.2.1,z.2.2⟩
section
variable{P:Program}{w:World}{H:Hp}{h:Heap}{a:Addr}
def aAh{u:HO}(ok:Y2q)(e:Rd H a u):eU P w H h a u:=e.ok ok
def CI{kvs:Y2m}(ok:Y2q)(e:Rd H a (.dK kvs)):Ycu/\Y7A a/\∃vs,Y8n/\h.DictOf (fX P w) a vs :=
 show eU P w H h a (.dK kvs)from aAh ok e
def aAt{kvs:Y2m}(ok:Y2q)(e:H a=YaE):Ycu/\Y7A a/\∃vs,Y8n/\h.DictOf (fX P w) a vs:=CI ok (.inl e)
def sJ{ks:Y4J}(ok:Y2q)(e:H a=Ym (ks.map kV)):(tupleKind (fX P w)).is h ks a:=by
 obtain⟨_,c,r,o,i,g,n,d⟩:=(show eU P w H h a (.tup (ks.map kV))from ok a _ e);exact⟨o,c.toArray,n,i,g,d,by simpa using CD r⟩
def CH{kvs:Yw}(ok:Y2q)(e:Rd H a (.dT kvs)):Ycu/\Y7A a /\
  ∃xs,KT H kvs xs/\h.DictOfH (YcA P w) a xs:=by
 obtain⟨z,y,xs,r,o,j,d,g,i,n,u,s⟩:=(show eU P w H h a (.dT kvs)from aAh ok e);refine⟨z,y,xs,r,o,j,d,g,i,n,u,λx c=>?_,s⟩;have all:∀{l:Yw} {m:YaC},KT H l m->∀x∈m,(tupleKind (fX P w)).is h x.1 x.2.1:=by
  intro l m q
  induction q with
  | nil=>intro x c;exact nomatch c
  | @cons p q ps qs hq t ih =>
   intro x c;rcases bD.mp c with e | c
   ·subst e;exact sJ ok (by rw[<-hq.1];exact hq.2.1)
   ·exact ih x c
 exact all r x c
def aAs{kvs:Yw}(ok:Y2q)(e:H a=Y1I):Ycu/\Y7A a /\
  ∃xs,KT H kvs xs/\h.DictOfH (YcA P w) a xs:=CH ok (.inl e)
end
def pL(H:Hp)(a:Addr)(y:V)(r:Ao):Prop :=
 (∃kvs k,Rd H a (.dK kvs)/\y=kV k/\r=Y5a)\/∃kvs k b,Rd H a (.dT kvs)/\y=Y0z/\H b=Ybm kV/\r=Y5a
def FF(H:Hp)(a:Addr)(y v:V)(H':Hp):Prop :=
 (∃kvs k,H a=YaE/\y=kV k/\Yel/\H'=Y1n (.dK (Y55 k v))) \/
 ∃kvs k b,H a=Y1I/\y=Y0z/\H b=Ybm kV/\Yel/\H'=Y1n (.dT (Y55 k v))
theorem pL.k{H:Hp}{a:Addr}{kvs:Y2m}{k:fK}(e:H a=YaE):pL H a (kV k) (Y5a):=.inl (Y2S kvs k (.inl e) rfl)
def pL.t{H:Hp}{a b:Addr}{kvs:Yw}{k:Y4J}(e:H a=Y1I)(eb:H b=Ybm kV):pL H a (Y0z) (Y5a):=.inr ⟨kvs,k,b,.inl e,rfl,eb,rfl⟩
theorem FF.k{H:Hp}{a:Addr}{kvs:Y2m}{k:fK}{v:V}(e:H a=YaE)(hl:Yel):FF H a (kV k) v (Y1n (.dK (Y55 k v))):=.inl (Y6C kvs k e hl rfl)
def FF.t{H:Hp}{a b:Addr}{kvs:Yw}{k:Y4J}{v:V}(e:H a=Y1I)(eb:H b=Ybm kV)(hl:Yel) :
  FF H a (Y0z) v (Y1n (.dT (Y55 k v))):=.inr (Y1Z kvs k b e eb hl rfl)
section
variable{X:Cx}{pins:Ae}{σ:St}{H:Hp}{s:Shared}{a:Addr}{y v:V}{u r:Value}{o:Ao}{A:Around}{E:Y5}
def cL.big(I:Y1):Y4v sysModules:=by
 have h:Y4v mainGlobals:=(Yfh).lt;exact Nat.lt_trans Dd h
def PZ{Q:Y5}(hu:Y8a 1<cLine)(I:Y1)(g:pL H a y (Yi))(ry:Y4l)(h:∀w' s',Y5Q s'->eI v w'->Q w' s') :
  Y7p A (getItem (Y3) u) Q E s:=by
 rcases g with⟨m,k,e,i,l⟩ | ⟨m,k,b,e,i,C,l⟩
 ·subst i;obtain⟨z,hd,B,d,r⟩:=CI I.hok e;obtain⟨w',n,c⟩:=Yfj (valueAt B k) (by rw[l];exact d.val k);exact wpAny_getItem_of (CC ry) r.mapOf n (h w' _ (Y1H) c)
 ·subst i;cases(show u=Value.ref b from ry);obtain⟨z,hd,x,d,r⟩:=CH I.hok e;obtain⟨w',n,c⟩:=Yfj ((atKey x k).map (·.2)) (by rw[l];exact d.val k);obtain⟨p,D,j⟩:=Option.map_eq_some_iff.mp n;refine wpAny_getItem_heap (Ydv) (sJ I.hok C) r D ?_;rw[j];exact h w' _ (Y1H) c
def aFT{Q:Y5}(hu:Y8a 1<cLine)(I:Y1)(g:pL H a y o)(ry:Y4l)(h:∀s',Y5Q s'->Q (.bool o.isSome) s') :
  Y7p A (compareOp .In u (Y3)) Q E s:=by
 rcases g with⟨i,k,e,d,l⟩ | ⟨i,k,b,e,d,m,l⟩
 ·subst d;obtain⟨z,hd,p,c,j⟩:=CI I.hok e;refine wpAny_in_of (CC ry) hd j.mapOf ?_;rw[<-(c.val k).isSome_eq,<-l];exact h _ (Y1H)
 ·subst d;cases(show u=Value.ref b from ry);obtain⟨z,hd,n,c,j⟩:=CH I.hok e;refine wpAny_in_heap (Ydv) (sJ I.hok m) hd j ?_;have q:=(c.val k).isSome_eq;rw[Option.isSome_map]at q;rw[<-q,<-l];exact h _ (Y1H)
def vR{h':Heap}{t':Nat}{ob:HO}(I:Y1)(mu:Mut (H a))(hs:Y9z a h')(he:∃q,Y5V a (some q))(new:eU X.prog X.w (Y1n ob) h' a ob) :
  Y1Q (Y1n ob) ({ s with heap:=h',toks:=t' }) :=
 YdC a a mu (λb q c z=>(hs.2 b c).trans z) he new
def UL{P:Program}{w:World}{H':Hp}{h':Heap}{kvs:Y2m}{vs:Y67 fK}(z:Ycu)(hd:Y7A a)(rel:Y8n)(dd:h'.DictOf (fX P w) a vs) :
  eU P w H' h' a (.dK kvs):=⟨z,hd,vs,rel,dd⟩
def PY{H':Hp}{Q:Y46}(hu:Y8a 1<cLine)(I:Y1)(g:FF H a y v H')(ry:Y4l)(rv:eI v r)(h:∀s',Y51 s'->Q () s') :
  Y7p A (setItem (Y3) u r) Q E s:=by
 rcases g with⟨d,k,e,n,l,C⟩ | ⟨d,k,b,e,n,J,l,C⟩
 ·subst n C;obtain⟨z,hd,P,i,p⟩:=aAt I.hok e;have D:Y0r P.length:=by rw[<-i.length];exact z
  have x:Y0r ((jL d k v).length):=by have:=iV d k v;exact Oo
  refine wpAny_setItem_pairs (hsz:=D) (CC ry) p λG j B=>h _ ?_;have O:∃q,G.get? a=some q:=let ⟨q,_,_,m,_⟩:=j;⟨q,m⟩;exact vR I (by rw[e];exact True.intro) B O (UL x hd (i.put k rv) j)
 ·subst n C;cases(show u=Value.ref b from ry);obtain⟨z,hd,M,i,p⟩:=aAs I.hok e;have D:Y0r M.length:=by rw[<-Paired.length i];exact z
  have x:Y0r ((jL d k v).length):=by have:=iV d k v;exact Oo
  refine wpAny_setItem_heap (hsz:=D) (Ydv) (sJ I.hok J) p λG j B=>h _ ?_;obtain⟨q,S,N,m,R,T,W,_,U⟩:=j;refine vR I (by rw[e];exact True.intro) B ⟨q,m⟩ ⟨x,hd,_,(i.put k J rv).keeps λc Z L=>?_,q,S,N,m,R,T,W,U⟩;rw[cP (BX L e (λz=>nomatch z))];exact L
end
section
variable{X:Cx}{pins:Ae}{σ:St}{H:Hp}{s:Shared}{a:Addr}{kvs:Y2m}{k:fK}{u:Value}{A:Around}{E:Y5}
end
def aC0(i:Expr):Prop:=∀ov iv,Yej i ov iv=operate [ov,iv] (getItem ov iv)
def WQ{prog:Program}{w:World}{A:Around}{E:Y5}{s:Shared}{env:Env}{value slice:Expr}{pos:Pos}{T id:String}{Q:Y5}
  (hl:typeLookup (Y6X) "__getitem__" = pure (Y9l id)) (hs:aC0 slice)
  (h:wpAny (model prog w) A (Y1V value) (λo s₁=>wpAny (model prog w) A (Y1V slice) (λi s₂=>s₂.TypeIs o T/\wpAny (model prog w) A (getItem o i) Q E s₂) E s₁) E s) :
  Y0V (Y1V (Y7B value slice)):=by
 refine Subscript_ (YeC h (λo s₁ j=>YeC j (λi s₂ c=>?_)));obtain⟨e,c⟩:=c;unfold subscriptTail;refine Y3V;rw[getitemInPython_of_ne e.not_modules];refine wpAny_bind (wpAny_specialOf e hl ?_);have a:wpAny (model prog w) A (Yej slice o i) (λr d=>wpAny (model prog w) A (letTemporaryGo value o r >>= λ_=>pure r) Q E d) E s₂:=by
  rw[hs o i];exact wpAny_operating (YeC c (λr d g=>wpAny_bind (wpAny_letTemporaryGo (wpAny_pure g))))
 first
  | exact wpAny_pure (wpAny_bind a)
  | exact Y2r (wpAny_bind a)
  | exact wpAny_bind a
def HG{X:Cx}{pins:Ae}{σ:St}{H:Hp}{s:Shared}{a:Addr}{y:V}{o:Ao}(I:Y1)(g:pL H a y o):s.TypeIs (Y3) "dict" := by
 rcases g with⟨c,k,e,_,_⟩ | ⟨c,k,b,e,_,_,_⟩
 ·obtain⟨_,_,i,_,d⟩:=CI I.hok e;exact d.typeIs
 ·obtain⟨_,_,h,_,d⟩:=CH I.hok e;exact d.typeIs
def aDm(td ty:TE):TE:=λσ H Q=>td σ H λx H1=>ty σ H1 λy H2=>∃a v,x=Y3/\pL H2 a y (Yi)/\Q v H2
def aDr(td ty tv:TE):TS:=λD σ H=>tv σ H λv H1=>td σ H1 λx H2=>ty σ H2 λy H3=>∃a H4,x=Y3/\FF H3 a y v H4/\Y7z H4
section
variable{X:Cx}{o i e value:Expr}{pos pos' tpos:Pos}{td ty tv:TE}
def YA(hu:Y4E 1<cLine)(ho:Yl o td)(hi:Yl i ty)(hs:aC0 i):Yl (Y7B o i) (aDm td ty):=by
 intro c s σ H Q I h;refine WQ PySem.F.slot_dict_getitem.lookup hs (thn (ho c s σ H _ I h) λu e ⟨x,H1,I1,n,j⟩=>thn (hi c e σ H1 _ I1 j) λw r ⟨y,H2,I2,m,a,v,l,g,p⟩=>?_);subst l;obtain rfl:u=Y4B:=n;exact⟨HG I2 g,PZ hu I2 g m λB z I3 d=>⟨v,H2,I3,d,p⟩⟩
def XT(hu:Y4E 1<cLine)(ho:Yl o td)(hi:Yl i ty)(hv:Yl value tv)(hs:Ybs value (Yem o i)=Y4C) :
  PS X (Y6D [Yem o i] value) (aDr td ty tv):=by
 intro c s σ H D I h;refine wpAny_Assign_Subscript (thn (hv c s σ H _ I h) λr e ⟨v,H1,I1,rv,j⟩=>thn (ho c e σ H1 _ I1 j) λu d ⟨x,H2,I2,n,p⟩=>thn (hi c d σ H2 _ I2 p) λz C ⟨y,H3,I3,m,a,H4,l,g,w⟩=>?_) hs;subst l;obtain rfl:u=Y4B:=n;exact PY hu I3 g m rv λB I4=>⟨σ,H4,I4,w⟩
end
def UM{P:Program}{w:World}{H:Hp}(h:Heap)(hb:sysModules<h.objs.size):eU P w H (h.push { cls:=.type "dict",data:=.dict #[] }) h.objs.size (.dK []) :=
 ⟨dH _,beq_eq_false_iff_ne.mpr (Ne.symm (cK hb)),[],.nil,Heap.DictOf.new h⟩
def AO{P:Program}{w:World}{H:Hp}(h:Heap)(hb:sysModules<h.objs.size):eU P w H (h.push { cls:=.type "dict",data:=.dict #[] }) h.objs.size (.dT []) :=
 ⟨dH _,beq_eq_false_iff_ne.mpr (Ne.symm (cK hb)),[],.nil,_,#[],0,Y17,Y0K rfl rfl,rfl,rfl,List.nodup_nil⟩
def RP:TE:=λ_ H Q=>∀p,H p=none->Y10 p (YbJ p [])
section
variable{X:Cx}{pos:Pos}
def pe_dnewT:Yl (.Dict [] [] pos) RP:=λc s σ H Q I h =>
 wpAny_Dict_empty (Y2l Y24 (I.laid (a:=s.heap.objs.size) (o:=.dT []) (t':=s.toks) (YcC q) (Yn) (AO s.heap I.big)) (h _ (Y4u _)))
end
def JB:Y3j TE TE->St->Y5G (Y1M (Y3j V V))
 | [],_,H,Q=>Q [] H
 | (tk,tv)::r,σ,H,Q=>tk σ H λx H1=>tv σ H1 λy H2=>JB r σ H2 λps H3=>Q ((x,y)::ps) H3
abbrev VV:Y0u (Y3j V V) (Y67 Value):=Paired λp q=>eI p.1 q.1/\eI p.2 q.2
def PPs(X:Cx)(pos:Pos)(keys:Y8D Expr)(values:Y04)(trs:Y3j TE TE):Prop :=
 ∀(pins:Ae) (s:Shared) (σ:St) (H:Hp) (Q:Y1M (Y3j V V)),Y1->JB trs σ H Q ->
  Y4c (evalPairs (pairTrees keys values X.env pos)) (λvs s'=>∃ps H',Y51 s'/\VV ps vs/\Q ps H')
def pps_nil{X:Cx}{pos:Pos}:PPs X pos [] [] []:=λa s σ H Q I h=>pairTrees_nil_walk ⟨[],H,I,.nil,h⟩
def SS{X:Cx}{pos:Pos}{k v:Expr}{ks:Y8D Expr}{vs:Y04}{tk tv:TE}{trs:Y3j TE TE}(hk:Yl k tk)(hv:Yl v tv)(hr:PPs X pos ks vs trs) :
  PPs X pos (some k::ks) (v::vs) ((tk,tv)::trs):=λa s σ H Q I h =>
 pairTrees_cons_walk (thn (hk a s σ H _ I h) λu e ⟨x,H1,I1,l,g⟩=>thn (hv a e σ H1 _ I1 g) λp d ⟨y,H2,I2,j,m⟩ =>
  thn (hr a d σ H2 _ I2 m) λr w ⟨i,H3,I3,c,n⟩=>⟨(x,y)::i,H3,I3,.cons ⟨l,j⟩ c,n⟩)
def AF(kvs more:Y2m):Y2m:=more.foldl (λacc kv=>jL acc kv.1 kv.2) kvs
def KV.merge:∀{more:Y2m}{rs:Y67 fK}{kvs:Y2m}{vs:Y67 fK},KV more rs->Y8n->KV (AF kvs more) (merged vs rs):=by
 intro more rs kvs vs r;unfold KV at r
 induction r generalizing kvs vs with
 | nil=>intro q;exact q
 | @cons p q ps qs h t ih =>
  intro a;have e:KV (Y55 p.1 p.2) (stored vs q.1 q.2):=by
   have:=a.put p.1 h.2;rw[<-h.1];exact this
  exact ih e
theorem tP:∀(more kvs:Y2m),(AF kvs more).length<=kvs.length+more.length
 | [],kvs=>by show kvs.length<=kvs.length+0;exact Oo
 | p::r,kvs=>by
  have h1:=tP r (jL kvs p.1 p.2);have a:=iV kvs p.1 p.2;show(AF (jL kvs p.1 p.2) r).length<=_;rw[cE];exact Oo
theorem AY{P:Program}{w:World}:∀{kvs:Y2m}{ws:Y67 Value},VV (Ybi (kV kv.1,kv.2)) ws->∃rs,Carries (fX P w) ws rs/\KV kvs rs
 | [],_,r=>by rw[List.map_nil]at r;cases r;exact⟨[],True.intro,.nil⟩
 | p::kvs,_,r=>by
  rw[bJ]at r;cases r with
  | @cons a b as bs h t =>
   obtain⟨rs,c,q⟩:=AY (P:=P) (w:=w) t;obtain⟨e,d⟩:=b;exact⟨(p.1,d)::rs,⟨CC h.1,rfl,c⟩,.cons ⟨rfl,h.2⟩ q⟩
def aAe(trs:Y3j TE TE):TE:=λσ H Q=>∀p,H p=none->JB trs σ (Y3X p (.dK [])) λps H2=>H2 p=Y9B []/\∃kvs:List (fK × V),ps=Ybi (kV kv.1,kv.2)/\Y8O 15/\Y10 p (upd H2 p (.dK (AF [] kvs)))
def XZ{X:Cx}{pos:Pos}{keys:Y8D Expr}{values:Y04}{trs:Y3j TE TE}(h:PPs X pos keys values trs)(hall:keys.all (·.isSome)=true)(hl:keys.length=values.length)(h0:keys≠[])
  (h15:keys.length<=15):Yl (.Dict keys values pos) (aAe trs):=by
 intro i s σ H Q I q;have r:=YdA;have I1:=I.laid (a:=s.heap.objs.size) (o:=.dK []) (h':=s.heap.push { cls:=.type "dict",data:=.dict #[] }) (t':=s.toks) (YcC q) (Yn) (UM s.heap I.big);refine wpAny_Dict_walk (knd:=fX X.prog X.w) hall hl h0 h15 (thn (h i _ σ _ _ I1 (q _ r)) λL G ⟨J,H2,I2,j,e,d,m,M,B⟩=>?_);subst m;obtain⟨D,c,l⟩:=AY (P:=X.prog) (w:=X.w) j;obtain⟨z,hd,y,p,x⟩:=aAt I2.hok e;cases p;refine⟨D,c,x,λh' g A=>Y2l Y24 ?_ B⟩;have C:Y0r ((AF [] d).length):=by
  have u:=tP d [];rw[List.length_nil]at u;rw[sizeLine_eq];exact Oo
 have n:∃q,Yfv (some q):=let ⟨q,_,_,hq,_⟩:=g;⟨q,hq⟩;exact vR I2 (by rw[e];exact True.intro) A n (UL C hd (l.merge .nil) g)
structure M2(X:Cx)(o:Expr)(m:Str)(apos:Pos)(e f:Expr)(cpos:Pos):Prop where
 base:YaW o m (Y0d o)=Y0d o
 few:((backTo cpos (starEach [e,f] X.env)).all (λx=>! x.1)&&(backToKw cpos (keywordEach [] X.env)).all (λx=>x.1.isSome)
  && Y34 (([e,f]:List Expr).length+([]:List Keyword).length+(if([]:List Keyword).isEmpty then 0 else 1)) 30)=true
 line:(Yev)=true
 trees:backTo cpos (Y2f [e,f])=[(false,Y1y),(false,Y0d f)]
def IsD(H:Hp)(a:Addr):Prop:=(∃kvs,Rd H a (.dK kvs))\/∃kvs,Rd H a (.dT kvs)
def aCC{X:Cx}{pins:Ae}{σ:St}{H:Hp}{s:Shared}{a:Addr}(I:Y1)(d:IsD H a) :
  s.TypeIs (Y3) "dict" /\ (∀b,Y4B=Y0z->∃ob,Y1W b ob/\ob.dict=none)/\Y7A a:=by
 rcases d with⟨h,e⟩ | ⟨h,e⟩
 ·obtain⟨_,hd,j,_,c⟩:=CI I.hok e;refine⟨c.typeIs,λb q=>?_,hd⟩;cases q;obtain⟨ob,_,_,i,g,_⟩:=c;exact⟨ob,i,g.2.1⟩
 ·obtain⟨_,hd,l,_,c⟩:=CH I.hok e;refine⟨c.typeIs,λb q=>?_,hd⟩;cases q;obtain⟨ob,_,_,i,g,_⟩:=c;exact⟨ob,i,g.2.1⟩
section
variable{X:Cx}{pins:Ae}{σ:St}{H:Hp}{s:Shared}{a:Addr}{y d:V}{u r:Value}{o:Ao}{A:Around}{E:Y5}
def aCL{Q:Y5}(hu:Y8a 1<cLine)(I:Y1)(g:pL H a y o)(ry:Y4l)(rd:eI d r)(h:∀w' s',Y5Q s'->eI (o.getD d) w'->Q w' s') :
  Y7p A (Y8B "dict.get" [Y3,u,r]) Q E s:=by
 rcases g with⟨m,k,e,j,l⟩ | ⟨m,k,b,e,j,p,l⟩
 ·subst j;obtain⟨z,hd,x,c,i⟩:=CI I.hok e;refine call_meetsIn PySem.F.slot_dict_get i.typeIs PySem.F.entry_dict_get (PySem.F.args_dict_get_3 _ _ _) (meets_dict_get_default (fX X.prog X.w) a (CC ry) hd r) (Y1x i.mapOf (h _ _ (Y1H) ?_));rw[l];exact(c.val k).getD rd
 ·subst j;cases(show u=Value.ref b from ry);obtain⟨z,hd,n,c,i⟩:=CH I.hok e;refine call_meetsIn PySem.F.slot_dict_get i.typeIs PySem.F.entry_dict_get (PySem.F.args_dict_get_3 _ _ _) (meetsH_dict_get_default (YcA X.prog X.w) a b hd r) ⟨Ydv,k,n,sJ I.hok p,i,h _ _ (Y1H) ?_⟩;rw[l];exact(c.val k).getD rd
end
def RQ(td ty tx:TE):TE:=λσ H Q=>td σ H λx H1=>∃a,x=Y3/\IsD H1 a/\ty σ H1 λy H2=>tx σ H2 λz H3=>∃o,pL H3 a y o/\Q (o.getD z) H3
section
variable{X:Cx}{o e f:Expr}{apos cpos:Pos}{td ty tx:TE}
def SZ(hu:Y4E 1<cLine)(ho:Yl o td)(he:Yl e ty)(hf:Yl f tx)(m:M2 X o "get" apos e f cpos):Yl (Ycs o "get" apos [e,f] [] cpos) (RQ td ty tx):=by
 intro c s σ H Q I h;refine wpAny_Call_method m.base m.few m.line PySem.F.plainAttrs_dict PySem.F.slot_dict_get PySem.F.type_dict_get (thn (ho c s σ H _ I h) λu l ⟨x,H1,I1,C,a,r,d,n⟩=>?_);subst r;obtain rfl:u=Y4B:=C;obtain⟨B,G,_⟩:=aCC I1 d;refine Y08 B G;rw[m.trees];refine Calls.callWith_builtin rfl (Calls.evalArgs_plain (Calls.spliced_cons (thn (he c l σ H1 _ I1 n) λM j ⟨y,H2,I2,w,D⟩ =>
  Calls.spliced_cons (thn (hf c j σ H2 _ I2 D) λP O ⟨z,H3,I3,p,L,g,J⟩=>Calls.spliced_nil ?_))))
 exact aCL hu I3 g w p λR N I4 i=>⟨_,H3,I4,i,J⟩
end
section
variable{X:Cx}{pins:Ae}{σ:St}{H:Hp}{s:Shared}{a:Addr}{kvs:Y2m}{A:Around}{E:Y5}
end
section
variable{X:Cx}{pins:Ae}{σ:St}{H:Hp}{s:Shared}{a:Addr}{y:V}{u:Value}{A:Around}{E:Y5}
end
section
variable{κ:Type}[DecidableEq κ]
def RG{kvs:Y37}{k:κ}(h:Y5a=none):¬k∈kvs.map (·.1):=by
 intro m;obtain⟨p,a,e⟩:=aQ.mp m;have q:YaA (λc=>Y0Q c.1 k) true:=List.any_eq_true.mpr ⟨p,a,bV e⟩;rw[mR,h]at q;exact absurd q (by simp)
def LP{kvs:Y37}{k:κ}{v:V}(h:Y5a=Yi):k∈kvs.map (·.1):=by
 have q:YaA (λc=>Y0Q c.1 k) true:=by
  rw[mR,h]
  all_goals rfl
 obtain⟨p,a,e⟩:=List.any_eq_true.mp q;exact aQ.mpr ⟨p,a,of_decide_eq_true e⟩
end
abbrev bits(i:Int):Nat:=Builtin.Int.intBits i
def VR(i j:Int):Prop:=0<j/\bits j<=9000
def GY{j:Int}{n:Nat}(h:bits j<=n)(hn:0<n):j.natAbs.log2<n:=by
 unfold bits Builtin.Int.intBits at h;by_cases hj:(j == 0)=true
 ·have:j=0:=by simpa using hj
  subst this;exact bS (by decide +kernel:(0:Int).natAbs.log2<=0) hn
 ·rw[if_neg hj]at h;exact Oo
section
variable{X:Cx}
def gQ:Y4y X .FloorDiv (rI VR (Y8I (i/j))):=opI λi j _ _ _ _ _ a q=>by
 refine floordiv_int (by have:=a.1;exact Oo) ?_ (.inl (PyProof.noPylong_of_log2 (GY a.2 Dd)));rw[Int.fdiv_eq_ediv_of_nonneg i (by have:=a.1;exact Oo)];exact q
def eG:Y4y X .Mult (rI IntMulOk (Y8I (i*j))):=opI λ_ _ _ _ _ _ _ a q=>mul_int q a
end
mutual
def bI(H:Hp):Y0u PyData V
 | .none,v=>v=.non
 | .bool b,v=>v=.bl b
 | .int i,v=>v=.int i
 | .str x,v=>v=.str x
 | .list ds,v=>∃a xs,v=.ref a/\H a=some (.lst xs)/\aH H ds xs
 | .tuple ds,v=>∃a xs,v=.ref a/\H a=some (.tup xs)/\aH H ds xs
 | .dict kvs,v=>kvs=[]/\∃a,v=.ref a/\H a=some (.dK [])
def aH(H:Hp):Y0u Y0D An
 | [],vs=>vs=[]
 | d::ds,vs=>∃x xs,vs=x::xs/\bI H d x/\aH H ds xs
end
mutual
theorem bI.same{H H':Hp}(e:Y0):∀{d:PyData}{v:V},Y3g v->Y2E d
 | .none,_,h=>h
 | .bool _,_,h=>h
 | .int _,_,h=>h
 | .str _,_,h=>h
 | .list ds,_,h=>by
  unfold bI at h ⊢;obtain⟨a,xs,rfl,h1,h2⟩:=h;exact⟨a,xs,rfl,e _ _ h1,aH.same e h2⟩
 | .tuple ds,_,h=>by
  unfold bI at h ⊢;obtain⟨a,xs,rfl,h1,h2⟩:=h;exact⟨a,xs,rfl,e _ _ h1,aH.same e h2⟩
 | .dict kvs,_,h=>by
  unfold bI at h ⊢;obtain⟨c,a,rfl,h1⟩:=h;exact⟨c,a,rfl,e _ _ h1⟩
theorem aH.same{H H':Hp}(e:Y0):∀{ds:Y0D}{vs:An},Y6t->Y1m ds vs
 | [],_,h=>h
 | d::ds,_,h=>by
  unfold aH at h ⊢;obtain⟨x,xs,rfl,h1,h2⟩:=h;exact⟨x,xs,rfl,bI.same e h1,aH.same e h2⟩
end
theorem bI.tup{H:Hp}{a:Addr}{xs:An}{ds:Y0D}(h:H a=Y0k)(r:Ya0 xs):YcO ds Y3:=by
 unfold bI;exact Y1d a xs h r
theorem bI.lst{H:Hp}{a:Addr}{xs:An}{ds:Y0D}(h:H a=Y0o)(r:Ya0 xs):Y0x (.list ds) Y3:=by
 unfold bI;exact Y1d a xs h r
theorem bI.int{H:Hp}(i:Int):Y0x Y15 Y15:=by unfold bI;rfl
theorem bI.str{H:Hp}(i:Str):Y0x (.str i) (.str i):=by unfold bI;rfl
theorem bI.non{H:Hp}:Y0x .none .non:=by unfold bI;rfl
def aH.nil{H:Hp}:Y18 [] []:=by unfold aH;rfl
def aH.cons{H:Hp}{d:PyData}{ds:Y0D}{x:V}{xs:An}(h:Y3g x)(hs:Ya0 xs):Y18 (d::ds) (x::xs):=by
 unfold aH;exact Y1d x xs h hs
section
variable{X:Cx}{pins:Ae}{σ:St}{H:Hp}{s:Shared}
mutual
theorem bI.reads(I:Y1):∀{d:PyData}{v:V}{u:Value},Y3g v->Y2C->∃as,Reads s.heap u d as
 | .none,_,u,h,r=>by
  cases(show _=V.non from h);cases(show u=Value.none from r);exact⟨_,.none⟩
 | .bool b,_,u,h,r=>by
  cases(show _=V.bl b from h);cases(show u=Value.bool b from r);exact⟨_,.bool b⟩
 | .int b,_,u,h,r=>by
  cases(show _=V.int b from h);obtain⟨t,q⟩:=(show ∃t,u=Value.int b t from r);cases q;exact⟨_,.int b t⟩
 | .str b,_,u,h,r=>by
  cases(show _=V.str b from h);obtain⟨t,q⟩:=(show ∃t,u=Value.str b t from r);cases q;exact⟨_,.str b t⟩
 | .list ds,v,u,h,r=>by
  unfold bI at h;obtain⟨a,j,rfl,c,m⟩:=h;cases(show u=Value.ref a from r);obtain⟨_,i,n,l,e⟩:=(show eU X.prog X.w H s.heap a (.lst j)from I.hok a _ c);obtain⟨as,q⟩:=aH.reads I m l;exact⟨_,.list e rfl rfl (by simpa using q)⟩
 | .tuple ds,v,u,h,r=>by
  unfold bI at h;obtain⟨a,j,rfl,c,m⟩:=h;cases(show u=Value.ref a from r);obtain⟨_,i,l,o,e,A,n,hd⟩:=(show eU X.prog X.w H s.heap a (.tup j)from I.hok a _ c);obtain⟨as,q⟩:=aH.reads I m l;exact⟨_,.tuple e A hd (by simpa using q)⟩
 | .dict kvs,v,u,h,r=>by
  unfold bI at h;obtain⟨rfl,a,rfl,c⟩:=h;cases(show u=Value.ref a from r);obtain⟨_,_,D,B,o,x,C,e,z,hd,_,g,_⟩:=(show eU X.prog X.w H s.heap a (.dK [])from I.hok a _ c);cases B;have p:x.toList=[]:=by
   cases q:x.toList with
   | nil=>rfl
   | cons y ys=>rw[q]at g;cases g
  exact⟨_,.dict e z.1 hd (by rw[p];exact .nil) (by rw[p];exact .nil)⟩
theorem aH.reads(I:Y1):∀{ds:Y0D}{vs:An}{us:Ah},Y6t->Y8k->∃as,ReadsAll s.heap us ds as
 | [],_,us,h,r=>by
  cases(show _=[]from h);cases r;exact⟨_,.nil⟩
 | d::ds,_,us,h,r=>by
  unfold aH at h;obtain⟨x,xs,rfl,h1,h2⟩:=h;cases r with
  | cons r1 r2 =>
   obtain⟨as,c⟩:=bI.reads I h1 r1;obtain⟨bs,a⟩:=aH.reads I h2 r2;exact⟨_,.cons c a⟩
end
end
section
variable{X:Cx}
end
def tyD:PyData->String
 | .none => "NoneType"
 | .bool _ => "bool"
 | .int _ => "int"
 | .str _ => "str"
 | .list _ => "list"
 | .tuple _ => "tuple"
 | .dict _ => "dict"
def bI.ty{K:Aa}{H:Hp}{d:PyData}{v:V}(h:Y3g v):Y63 K H v (tyD d):=by
 cases d with
 | none=>cases(show v=V.non from h);exact .non
 | bool b=>cases(show v=V.bl b from h);exact .bl b
 | int b=>cases(show v=V.int b from h);exact .int b
 | str b=>cases(show v=V.str b from h);exact .str b
 | list ds=>unfold bI at h;obtain⟨a,g,rfl,c,e⟩:=h;exact .lst c
 | tuple ds=>unfold bI at h;obtain⟨a,g,rfl,c,e⟩:=h;exact .tup c
 | dict ds=>unfold bI at h;obtain⟨_,a,rfl,c⟩:=h;exact .dK c
def isD(T:String)(d:PyData):Bool:=tyD d == T || (T == "int" && tyD d == "bool")
def aCv : ∀ T ∈ ["int", "bool", "tuple", "str", "list", "dict"], ∀ S ∈ ["NoneType", "bool", "int", "str", "list", "tuple", "dict"],
      YdB [] S Y6X=some (S == T || (T == "int" && S == "bool")):=Kk
def YM(K:Aa)(S T:String):YdB K S Y6X=YdB [] S Y6X:=rfl
def aAn(K:Aa)(d:PyData)(T:String)(hT:T = "int" \/ T = "bool" \/ T = "tuple" \/ T = "str" \/ T = "list" \/ T = "dict"):YdB K (tyD d) Y6X=some (isD T d):=by
 rw[YM];refine aCv T ?_ (tyD d) ?_
 ·rcases hT with rfl | rfl | rfl | rfl | rfl | rfl <;> decide
 ·cases d <;> simp[tyD]
section
variable{X:Cx}
def HY:Y3W X "isinstance" (λxs H Q=>∃x d T,xs=[x,.ty T]/\Y3g x/\(T = "int" \/ T = "bool" \/ T = "tuple" \/ T = "str" \/ T = "list" \/ T = "dict")/\Y1s (isD T d)):=by
 intro a s σ H xs l Q I r h;obtain⟨x,d,T,rfl,c,g,q⟩:=h;obtain⟨u,j,rfl,i,e⟩:=RF r;cases(show j=Value.type T from e);exact PL I i c.ty (aAn _ d T g) λm=>Y4V _ H Y1H q
end
structure dP(CX:LB)(P:Program)(w:World)(K:Aa)(mg:Y0a)(base:Heap)(k:Nat)(x:Str)(ps:Ai)(sp:Sp):Prop where
 ex:∃(f:Addr) (fd:FuncData),dI P w K mg base CX k f fd ps sp/\mg x=Y2 f/\Yc5 K f=true/\wE K fd ps []
section
variable{X:Cx}{k:Nat}{ps:Ai}{sp:Sp}{x:Str}{p pos:Pos}{e:Expr}{es:Y04}{t:TA}
def aDF(F:dP cN X.prog X.w X.K X.mg X.base k x ps sp)(hr:Y5E k)(ha:PA X (e::es) t)(hg:Y22:=by rfl)
  (hdb:Y19 ("__debug__" : Str):=by decide) (he:Y4m=(false,Y1y)::Y36:=by rfl) (hpl:Yq ((backTo pos (starEach es X.env)).any (·.1)):=by rfl) :
  Yl (Y64 x p (e::es) []) (zH sp [] E0 t):=by
 obtain⟨f,h,g,c,a,d⟩:=F.ex;exact YC g hr hg c a d .nil aDH ha hdb he hpl
end
section
variable{K:Aa}{H:Hp}{p:Addr}{xs:An}{i:Int}{v:V}{Q:VK}
def IP(h:H p=Y0o)(e:Y3f i=Yi)(q:Q v H):rIx K (Y0y) (Y15) H Q:=.inl (Y5c p xs i v rfl Y9b e q)
def eX(h:H p=Y0k)(e:Y3f i=Yi)(q:Q v H):rIx K (Y0y) (Y15) H Q:=.inr (.inl (Y5c p xs i v rfl (fY.of h) e q))
def stL{u:V}{Q:YaG}{j:Nat}(h:H p=Y0o)(e:YcK i=Y8g)(q:Q (Y1S H p (xs.set j u))):SO (Y0y) (Y15) u H Q:=Y5c p xs i j rfl h e q
end
def jY(p:Addr)(H:Hp):Hp:=λb=>if b=p then none else H b
def jY.at{p b:Addr}{H:Hp}(h:b≠p):jY p H b=H b:=by unfold jY;rw[Y7T]
def jY.self{p:Addr}{H:Hp}:jY p H p=none:=by unfold jY;rw[Y12]
def jY.same{p:Addr}{H:Hp}:aX (jY p H) H:=λb o h=>by
 unfold jY at h;by_cases e:b=p
 ·rw[Yao]at h;cases h
 ·rw[Y6a]at h;exact h
def jY.ne{p b:Addr}{H:Hp}{o:HO}(h:jY p H b=Y7):b≠p:=λe=>by
 subst e;rw[jY.self]at h;cases h
def jY.of{p b:Addr}{H:Hp}{o:HO}(n:b≠p)(h:H b=Y7):jY p H b=Y7:=by rw[jY.at n];exact h
def jY.upd_self{p:Addr}{H:Hp}{o:HO}:jY p (Y3X p o)=jY p H:=by
 funext b
 by_cases e:b=p
 ·subst e;rw[jY.self,jY.self]
 ·rw[jY.at e,jY.at e,L2.cP e]
abbrev aT(p:Addr)(H H':Hp):Prop:=aX (jY p H) (jY p H')
def aX.but{p:Addr}{H H':Hp}(h:Y0):Y0l:=λb o e=>by
 have n:=jY.ne e;exact jY.of n (h _ _ (jY.same _ _ e))
theorem aX.upd{H:Hp}{q:Addr}{o:HO}(h:H q=none):aX H (Y3X q o):=λb u e=>by
 rw[L2.cP (cV e h)];exact e
def aT.self{p:Addr}{H:Hp}{o:HO}:aT p H (Y3X p o):=by unfold aT;rw[jY.upd_self];exact Y07
def aT.free{p q:Addr}{H H':Hp}(e:Y0l)(hp:∃o,H' p=Y7)(h:H' q=none):H q=none:=by
 cases k:H q with
 | none=>rfl
 | some o =>
  by_cases n:q=p
  ·subst n;obtain⟨c,a⟩:=hp;rw[a]at h;cases h
  ·have:=jY.same _ _ (e q o (jY.of n k));rw[this]at h;cases h
section
variable{K:Aa}{H:Hp}{p:Addr}{xs:An}{i:Int}{v:V}{Q:VK}
def stG{u:V}{Q:YaG}{j:Nat}(h:H p=Y0o)(e:YcK i=Y8g)(k:∀H',H' p=Y05 (xs.set j u)->Y0l->Q H'):SO (Y0y) (Y15) u H Q :=
 stL h e (k _ bK aT.self)
def alT{Q:Y2L}(hz:Y4x)(k:∀q H',H q=none->H' q=Y0k->Y0->Y0i q):Y4x/\∀p,H p=none->Y10 p (Y8T p xs) :=
 ⟨hz,λq a=>k q _ a bK (aX.upd a)⟩
def alL{Q:Y2L}(hz:Y4x)(k:∀q H',H q=none->H' q=Y0o->Y0->Y0i q):Y4x/\∀p,H p=none->Y10 p (Y1S H p xs) :=
 ⟨hz,λq a=>k q _ a bK (aX.upd a)⟩
def aT.at{p b:Addr}{H H':Hp}{o:HO}(s:Y0l)(n:b≠p)(h:H b=Y7):Y1E=Y7:=jY.same _ _ (s _ _ (jY.of n h))
end
def oX{n:Nat}(h:n<=64):Y0r n:=aP h Dd
def pR{c A B:Prop}[Decidable c](h1:c->A)(h2:¬c->B):if decide c=true then A else B :=
 aDO (λh=>h1 (of_decide_eq_true h)) (λh=>h2 (λk=>h (bV k)))
def aDN{c A B:Prop}[Decidable c](h1:¬c->A)(h2:c->B):if(! decide c)=true then A else B :=
 aDO (λh=>h1 (λk=>by rw[bV k]at h;exact absurd h Dd)) (λh=>h2 (Decidable.of_not_not λk=>h (by rw[cI k];rfl)))
def tL(c:TT):TT:=λσ H Q=>∃Q':Bool->Hp->Prop,c σ H Q'/\∀b H1,Q' b H1->Q b H1
def PT.mono{X:Cx}{e:Expr}{c:TT}(h:PT X e c):PT X e (tL c):=λa s σ H Q I ⟨Q',g,d⟩ =>
 thn (h a s σ H Q' I g) λb i ⟨H',I',q⟩=>⟨H',I',d _ _ q⟩
def OW{X:Cx}{pos:Pos}{c:Expr}{body:Y3r}{tc:TT}{tb:TS}(hp:Ycw X.A X.env X.xe)(hc:PT X c tc)(hb:KU X body tb):PS X (.While c body [] pos) (DJ (tL tc) tb) :=
 SR hp hc.mono hb
@[irreducible] def GK(K:Aa):Y1o:=λxs H Q=>∃x n,xs=[x]/\aEb K x H n/\Y3M n
@[irreducible] def XM:Y1o:=λxs H Q=>∃i,xs=[Y15]/\Y3M (i.natAbs:Int)
@[irreducible] def XD:Y1o:=λxs H Q=>∃x d T,xs=[x,.ty T]/\Y3g x/\(T = "int" \/ T = "bool" \/ T = "tuple" \/ T = "str" \/ T = "list" \/ T = "dict")/\Y1s (isD T d)
section
variable{X:Cx}{K:Aa}{H:Hp}{p:Addr}{xs:An}{Q:VK}
def gO:Y3W X "len" (GK X.K):=by unfold GK;exact UU
def aCO:Y3W X "abs" XM:=by
 unfold XM;exact λa s σ H c d Q I r ⟨i,e,q⟩=>UV a s σ H c d Q I r ⟨i,e,by
 have:(if i<0 then -i else i)=(i.natAbs:Int):=by split <;> exact Oo
 rw[this];exact q⟩
def UT:Y3W X "isinstance" XD:=by unfold XD;exact HY
def rlL(h:H p=Y0o)(q:Y3M xs.length):GK K [V.ref p] H Q:=by unfold GK;exact Y1C _ (.inl (Y5P xs Y9b)) q
def GJ(h:H p=Y0k)(q:Y3M xs.length):GK K [V.ref p] H Q:=by unfold GK;exact Y1C _ (.inr (Y5P xs (fY.of h))) q
def raI{i:Int}(q:Y3M (i.natAbs:Int)):XM [V.int i] H Q:=by unfold XM;exact Y0K i q
def riI{x:V}{d:PyData}{T:String}(r:Y3g x)(q:Y1s (isD T d))(hT:(T = "int" \/ T = "bool" \/ T = "tuple" \/ T = "str" \/ T = "list" \/ T = "dict"):=by decide):XD [x,.ty T] H Q:=by unfold XD;exact Y2T x d T r hT q
end
def DD{c:TT}{tb:TS}{D:oR}{σ:St}{H:Hp}(W:Nat->Y1w)(R:Y1w)(m:Nat)(h0:W m σ H)
  (hs:∀m σ H,W m σ H->c σ H λb H1=>if b=true then tb { D with nx:=λσ' H'=>∃m',m' < m/\W m' σ' H',ct:=λσ' H'=>∃m',m' < m/\W m' σ' H',bk:=D.nx } σ H1 else R σ H1)
  (hd:∀σ H,R σ H->Y3H):DJ (tL c) tb D σ H :=
 ⟨W,⟨m,h0⟩,λm σ H a=>⟨_,hs m σ H a,λb H1 q=>by
  by_cases hb:b=true
  ·rw[if_pos hb]at q ⊢;exact Y1x (λ_ _ h=>h) q
  ·rw[if_neg hb]at q ⊢;exact hd _ _ q⟩⟩
def aDn(t:TS):TS:=λD σ H=>∃R:St->Hp->Prop,(∀σ' H',R σ' H'->D.nx σ' H')/\(t { D with nx:=R } σ H)
def aB9{X:Cx}{st:Stmt}{t:TS}(h:PS X st t):PS X st (aDn t):=λa s σ H D I ⟨R,c,q⟩ =>
 thn (h a s σ H _ I q) λf e z=>by
  cases f with
  | next=>obtain⟨d,H',I',r⟩:=z;exact⟨d,H',I',c _ _ r⟩
  | brk=>exact z
  | cont=>exact z
  | ret u=>exact z
section
variable{es:Y04}{env:Env}
def zV{a b c d}:Y3l (.BinOp a b c d::es)=(false,Y1V (.BinOp a b c d))::Y4e:=by rw[starEach] <;> (intros;contradiction)
def JG{a b c}:Y3l (.UnaryOp a b c::es)=(false,Y1V (.UnaryOp a b c))::Y4e:=by rw[starEach] <;> (intros;contradiction)
def SK{a b c d}:Y3l (.IfExp a b c d::es)=(false,Y1V (.IfExp a b c d))::Y4e:=by rw[starEach] <;> (intros;contradiction)
def GH{a b c d}:Y3l (.ListComp a b c d::es)=(false,Y1V (.ListComp a b c d))::Y4e:=by rw[starEach] <;> (intros;contradiction)
def JH{a b c d}:Y3l (Y8Y b c d::es)=(false,Y1V (Y8Y b c d))::Y4e:=by rw[starEach] <;> (intros;contradiction)
def mO{a b c d}:Y3l (.Call a b c d::es)=(false,Y1V (.Call a b c d))::Y4e:=by rw[starEach] <;> (intros;contradiction)
def mU{a b c}:Y3l (.Constant a b c::es)=(false,Y1V (.Constant a b c))::Y4e:=by rw[starEach] <;> (intros;contradiction)
def DS{a b c}:Y3l (.Attribute a b c::es)=(false,Y1V (.Attribute a b c))::Y4e:=by rw[starEach] <;> (intros;contradiction)
def gT{a b c}:Y3l (.Subscript a b c::es)=(false,Y1V (.Subscript a b c))::Y4e:=by rw[starEach] <;> (intros;contradiction)
def nG{a b}:Y3l (.Name a b::es)=(false,Y1V (.Name a b))::Y4e:=by rw[starEach] <;> (intros;contradiction)
def sE{a b c}:Y3l (.Tuple a b c::es)=(false,Y1V (.Tuple a b c))::Y4e:=by rw[starEach] <;> (intros;contradiction)
end
section
variable{X:Cx}{k:Nat}{ps:Ai}{sp:Sp}{x:Str}{p pos:Pos}{e:Expr}{es:Y04}{te:TE}{t:TA}{id T:String}{r:Y1o}
def oP{env:Env}:Yq ((backTo pos (starEach [] env)).any (·.1)):=rfl
def lN{env:Env}(hs:Y3l (e::es)=(false,Y1V e)::Y4e)(h:Yq ((backTo pos (starEach es env)).any (·.1))):Yq ((backTo pos (starEach (e::es) env)).any (·.1)):=by
 rw[hs];show Yq (false || (backTo pos (starEach es env)).any (·.1));rw[h];rfl
end
structure gJ(X:Cx)(e:Expr)(t:TE):Prop where p:Yl e t
structure KR(X:Cx)(e:Expr)(t:TT):Prop where p:PT X e t
structure PWw(X:Cx)(e:Expr)(t:TT):Prop where p:PW X e t
structure FK(X:Cx)(es:Y04)(t:TA):Prop where p:PA X es t
structure FD(X:Cx)(st:Stmt)(t:TS):Prop where p:PS X st t
structure xC(X:Cx)(st:Y3r)(t:TS):Prop where p:KU X st t
structure VY(X:Cx)(e:Expr)(t:TG):Prop where p:PG X e t
structure ZR(X:Cx)(es:Y04)(t:VN):Prop where p:PGs X es t
structure KW(X:Cx)(tg iter:Expr)(t:TI):Prop where p:PI X tg iter t
structure POw(X:Cx)(e:YeM)(t:TO):Prop where p:PO X e t
@[irreducible] def MF(xs:An)(H:Hp)(Q:VK):Prop:=Y4x/\∀p,H p=none->Y10 p (Y8T p xs)
@[irreducible] def MG(xs:An)(H:Hp)(Q:VK):Prop:=Y4x/\∀p,H p=none->Y10 p (Y1S H p xs)
def jT{xs:An}{H:Hp}{Q:VK}(hz:Y5Z 64)(k:∀q H',H q=none->H' q=Y0k->Y0->Y0i q):MF xs H Q:=by unfold MF;exact alT (oX hz) k
def GR{xs:An}{H:Hp}{Q:VK}(hz:Y5Z 64)(k:∀q H',H q=none->H' q=Y0o->Y0->Y0i q):MG xs H Q:=by unfold MG;exact alL (oX hz) k
def tTu(t:TA):TE:=Y3N (λxs H1=>MF xs H1 Q)
def tLs(t:TA):TE:=Y3N (λxs H1=>MG xs H1 Q)
section
variable{X:Cx}{a b c e o tg:Expr}{es rest:Y04}{ta tb tc te to:TE}{tA tB':TT}{t:TA}{pos p p2:Pos}{st:Stmt}{sts body orelse:Y3r}{ts us:TS}{x:Str}{r r':R2}{id T:String}{rl:Y1o}{k i j:Nat}{ps:Ai}{sp:Sp}{n:Nat}
def aA(i:Nat){x:Str}{pos:Pos}(hN:Y2c=Y8:=by rfl)(hv:Ycp x:=by first | exact Or.inl rfl | exact Or.inr (Or.inl rfl) | exact Or.inr (Or.inr rfl))(hd:Y19 ("__debug__" : Str):=by decide)
  (hcd:Y19 ("__classdict__" : Str):=by decide):Yc Y6l (aAL i):=⟨pv i hN hv hd hcd⟩
def aE{i j pos}:Yc (Y8G Y15 j) (tC (Y15)):=⟨pe_int⟩
def jP{b j pos}:Yc (Y8G (.bool b) j) (tC (.bl b)):=⟨pe_bl⟩
def pF{j pos}:Yc (Y8G .none j) (tC .non):=⟨pe_non⟩
def dR{x j pos}:Yc (Y8G (.str x) j) (tC (.str x)):=⟨pe_str⟩
def qH{v:V}{u:Value}(hg:Y22)(hm:Y4d=Yv)(r:Y2C)(hd:Y19 ("__debug__" : Str):=by decide):Yc Y6l (tC v):=⟨XY hg hm r hd⟩
def sS{v:V}{u:Value}(hg:Y22)(hm:Y4d=none)(hv:Y7y=Yv)(r:Y2C)(hn:x ≠ "__name__" := by decide)(hd:Y19 ("__debug__" : Str):=by decide):Yc Y6l (tC v):=⟨YD hg hm hv r hn hd⟩
def bP{op:Operator}(ho:Y4y X op r)(ha:Y4g a)(hb:Yc b tb):Yc (.BinOp a op b pos) (WO r ta tb):=⟨aDD ho ha.p hb.p⟩
def rZ{op:UnaryOp}{r:V->(Hp->(Y0Z VK))}(ho:UnR X (unaryOp op) r)(ha:Y4g a):Yc (Ybl op a) (tUn r ta):=⟨aDC ho ha.p⟩
def kE{op:CmpOp}(ho:Y2d op r)(ha:Y4g a)(hb:Yc b tb)(hm:Ycn op b:=by exact nomark _):Yc (Y8Y [op] [b] pos) (WO r ta tb):=⟨YB ho ha.p hb.p hm⟩
def eM{op:CmpOp}(ho:Y2d op r)(ha:Y4g a)(hb:Yc b tb)(hm:Ycn op b:=by exact nomark _):KR X (Y8Y [op] [b] pos) (ZY (WO r ta tb)):=⟨XQ ho ha.p hb.p hm⟩
def RC{op op':CmpOp}(ho:Y2d op r)(ho':Y2d op' r')(ha:Y4g a)(hb:Yc b tb)(hc:Yc c tc)
  (hm:Yq (lastMarks [op,op'] [b,c]):=by with_unfolding_all rfl):Yc (Y8Y [op,op'] [b,c] pos) (RT r r' ta tb tc):=⟨TB ho ho' ha.p hb.p hc.p hm⟩
def fO(h:Yc e te)(he:∀whole,isTrue e X.env whole=(do let v <-whole;standAt e.pos;holding [v] (truthy v)):=by intro _;rfl):KR X e (tB te):=⟨aB3 h.p he⟩
def uI(ha:KR X a tA):PWw X (Y6R [a]) tA:=⟨XN ha.p⟩
def qF(ha:KR X a tA):PWw X (Y7t .Or [a]) tA:=⟨aB1 ha.p⟩
def yU(ha:KR X a tA)(hb:PWw X (Y6R (b::rest)) tB'):PWw X (Y6R (a::b::rest)) (aDo tA tB'):=⟨aB2 ha.p hb.p⟩
def uH(ha:KR X a tA)(hb:PWw X (Y7t .Or (b::rest)) tB'):PWw X (Y7t .Or (a::b::rest)) (tOr tA tB'):=⟨aDA ha.p hb.p⟩
def uJ(h:PWw X e tA):KR X e tA:=⟨h.p.pt⟩
def lE(ha:KR X a tA):KR X (Ybl .Not a) (aDj tA):=⟨aB4 ha.p⟩
def lG{op}(h:Y4g a):Y4g (Y7t op [a]):=⟨aCh h.p⟩
def kF(ha:Y4g a)(hb:Yc (Y6R (b::rest)) tb):Yc (Y6R (a::b::rest)) (aAg ta tb):=⟨aCk ha.p hb.p⟩
def aAJ(ha:Y4g a):Yc (Ybl .Not a) (aAa ta):=⟨aCi ha.p⟩
def FR(hc:KR X c tA)(ha:Y4g a)(hb:Yc b tb):Yc (.IfExp c a b pos) (tIf tA ta tb):=⟨SY hc.p ha.p hb.p⟩
def Se{e:Expr}{es:Y04}{env:Env}(h:Y3l (e::es)=(false,Y1V e)::Y4e:=by first | exact nG | exact mU | exact se_BoolOp | exact zV | exact JG | exact SK | exact se_Dict | exact GH | exact JH | exact mO | exact DS | exact gT | exact se_List | exact sE | exact se_JoinedStr | exact se_GeneratorExp):Y3l (e::es)=(false,Y1V e)::Y4e:=h
def aI:FK X [] ON:=⟨pa_nil⟩
def aM(ha:Yc e te)(hr:FK X es t)(hs:Y4m=(false,Y1y)::Y36:=by exact Se):FK X (e::es) (rM te t):=⟨YE ha.p hr.p hs⟩
def cG{x1}(h:FK X es t):Yc (.Tuple es x1 pos) (tTu t):=⟨by unfold tTu MF;exact aCg h.p⟩
def jN(h:FK X es t):Yc (.List es pos) (tLs t):=⟨by unfold tLs MG;exact aCj h.p⟩
def sA:Yc (.Dict [] [] pos) RP:=⟨pe_dnewT⟩
def aW(hr:VO X r)(ha:Y4g a)(hb:Yc b tb)(hs:OB b:=by exact λ_ _=>rfl):Yc (Y7B a b) (WO r ta tb):=⟨aDE hr ha.p hb.p hs⟩
def iX:POw X none LQ:=⟨po_none⟩
def iW(h:Yc e te):POw X (Y8f) (ZZ te):=⟨XU h.p⟩
def gY{lo hi:YeM}{tl th:TO}{r:V->Y1c->Y9c}(hr:SlR X r)(he:Yc e te)(hl:POw X lo tl)(hu:POw X hi th):Yc (Y7B e (.Slice lo hi none p2)) (tSl r te tl th):=⟨SX hr he.p hl.p hu.p⟩
def nE(F:dP cN X.prog X.w X.K X.mg X.base k x ps sp)(hr:Y5E k)(ha:FK X (e::es) t)(hg:Y22:=by rfl)
  (hdb:Y19 ("__debug__" : Str):=by decide) (he:Y4m=(false,Y1y)::Y36:=by exact Se)
  (hpl:Yq ((backTo pos (starEach es X.env)).any (·.1)):=by repeat (first | exact oP | refine lN Se ?_)) :
  Y83 x p (e::es) [] (zH sp [] E0 t):=⟨aDF F hr ha.p hg hdb he hpl⟩
def fL{e1:Expr}{t1:TE}(F:dP cN X.prog X.w X.K X.mg X.base k x ps sp)(h1:Yc e1 t1)(s1:Y3P e1=(false,Y0d e1)::Y2f []:=by exact Se)(hr:Y5E k:=by exact iS.mono ‹_› Dd)(hg:Y22:=by rfl)(hdb:Y19 ("__debug__" : Str):=by decide)(hpl:Yq ((backTo pos (starEach [] X.env)).any (·.1)):=by repeat (first | exact oP | refine lN Se ?_)):Y83 x p [e1] [] (zH sp [] E0 (rM t1 ON)):=nE F hr (aM h1 aI s1) hg hdb s1 hpl
def bO{e1 e2:Expr}{t1 t2:TE}(F:dP cN X.prog X.w X.K X.mg X.base k x ps sp)(h1:Yc e1 t1)(h2:Yc e2 t2)(s1:Y2f [e1,e2]=(false,Y0d e1)::Y3P e2:=by exact Se)(s2:Y3P e2=(false,Y0d e2)::Y2f []:=by exact Se)(hr:Y5E k:=by exact iS.mono ‹_› Dd)(hg:Y22:=by rfl)(hdb:Y19 ("__debug__" : Str):=by decide)(hpl:Yq ((backTo pos (starEach [e2] X.env)).any (·.1)):=by repeat (first | exact oP | refine lN Se ?_)):Y83 x p [e1,e2] [] (zH sp [] E0 (rM t1 (rM t2 ON))):=nE F hr (aM h1 (aM h2 aI s2) s1) hg hdb s1 hpl
def iT{e1 e2 e3:Expr}{t1 t2 t3:TE}(F:dP cN X.prog X.w X.K X.mg X.base k x ps sp)(h1:Yc e1 t1)(h2:Yc e2 t2)(h3:Yc e3 t3)(s1:Y2f [e1,e2,e3]=(false,Y0d e1)::Y2f [e2,e3]:=by exact Se)(s2:Y2f [e2,e3]=(false,Y0d e2)::Y3P e3:=by exact Se)(s3:Y3P e3=(false,Y0d e3)::Y2f []:=by exact Se)(hr:Y5E k:=by exact iS.mono ‹_› Dd)(hg:Y22:=by rfl)(hdb:Y19 ("__debug__" : Str):=by decide)(hpl:Yq ((backTo pos (starEach [e2,e3] X.env)).any (·.1)):=by repeat (first | exact oP | refine lN Se ?_)):Y83 x p [e1,e2,e3] [] (zH sp [] E0 (rM t1 (rM t2 (rM t3 ON)))):=nE F hr (aM h1 (aM h2 (aM h3 aI s3) s2) s1) hg hdb s1 hpl
def FT{e1 e2 e3 e4:Expr}{t1 t2 t3 t4:TE}(F:dP cN X.prog X.w X.K X.mg X.base k x ps sp)(h1:Yc e1 t1)(h2:Yc e2 t2)(h3:Yc e3 t3)(h4:Yc e4 t4)(s1:Y2f [e1,e2,e3,e4]=(false,Y0d e1)::Y2f [e2,e3,e4]:=by exact Se)(s2:Y2f [e2,e3,e4]=(false,Y0d e2)::Y2f [e3,e4]:=by exact Se)(s3:Y2f [e3,e4]=(false,Y0d e3)::Y3P e4:=by exact Se)(s4:Y3P e4=(false,Y0d e4)::Y2f []:=by exact Se)(hr:Y5E k:=by exact iS.mono ‹_› Dd)(hg:Y22:=by rfl)(hdb:Y19 ("__debug__" : Str):=by decide)(hpl:Yq ((backTo pos (starEach [e2,e3,e4] X.env)).any (·.1)):=by repeat (first | exact oP | refine lN Se ?_)):Y83 x p [e1,e2,e3,e4] [] (zH sp [] E0 (rM t1 (rM t2 (rM t3 (rM t4 ON))))):=nE F hr (aM h1 (aM h2 (aM h3 (aM h4 aI s4) s3) s2) s1) hg hdb s1 hpl
def eP(hc:Y3W X id rl)(hg:Y22)(hm:Y4d=none)(hv:Y7y=Y9l id)(ha:FK X (e::es) t)(hn:x ≠ "__name__" := by decide)(hdb:Y19 ("__debug__" : Str):=by decide)
  (he:Y4m=(false,Y1y)::Y36:=by exact Se) (hpl:Yq ((backTo pos (starEach es X.env)).any (·.1)):=by repeat (first | exact oP | refine lN Se ?_)):Y83 x p (e::es) [] (tCB rl t) :=
 ⟨TD hc hg hm hv ha.p hn hdb he hpl⟩
def jO(hc:kL X (Y6X) rl)(hg:Y22)(hm:Y4d=none)(hv:Y7y=some (Y6X))(ha:FK X (e::es) t)(hn:x ≠ "__name__" := by decide)(hdb:Y19 ("__debug__" : Str):=by decide)
  (he:Y4m=(false,Y1y)::Y36:=by exact Se) (hpl:Yq ((backTo pos (starEach es X.env)).any (·.1)):=by repeat (first | exact oP | refine lN Se ?_)):Y83 x p (e::es) [] (tCB rl t) :=
 ⟨OZ hc hg hm hv ha.p hn hdb he hpl⟩
def rL{name:Str}{apos cpos:Pos}{r:V->Y1o}(pa:PlainAttrs T)(slot:Slot T name id)(hty:typeOf (.builtin id)=pure (.type "method_descriptor"))(hm:MtR X id r)(ho:Yc o to)(ha:FK X (e::es) t)
  (hbase:YaW o name (Y0d o)=Y0d o:=by rfl)
  (hfew:((backTo cpos (starEach (e::es) X.env)).all (λx=>! x.1)&&(backToKw cpos (keywordEach [] X.env)).all (λx=>x.1.isSome)
   && Y34 ((e::es).length+([]:List Keyword).length+(if([]:List Keyword).isEmpty then 0 else 1)) 30)=true:=by rfl)
  (hline:(Yev)=true:=by rfl) (hs:Y4m=(false,Y1y)::Y36:=by exact Se) (hplain:Yq ((backTo cpos (starEach es X.env)).any (·.1)):=by repeat (first | exact oP | refine lN Se ?_)) :
  Yc (Ycs o name apos (e::es) [] cpos) (tBM X.K T r to t):=⟨aDG pa slot hty hm ho.p ha.p hbase hfew hline hs hplain⟩
def dB:xC X [] aAb:=⟨pss_nil⟩
def aG(h1:FD X st ts)(h2:xC X sts us):xC X (st::sts) (aAM ts us):=⟨SQ h1.p h2.p⟩
def aK(h1:FD X st ts):xC X [st] ts:=⟨XR h1.p⟩
def gS(he:Yc e te)(hs:YeW e none pos.line=Y4C:=by rfl):FD X (.Expr e pos) (aAd te):=⟨XS he.p hs⟩
def bR(he:Yc e te):FD X (.Return (Y8f) pos) (aDh te):=⟨aB6 he.p⟩
def fG{c:Expr}{a b:Y3r}(hc:KR X c tA)(ha:xC X a ts)(hb:xC X b us):FD X (.If c a b pos) (aDk tA ts us):=⟨aDB hc.p ha.p hb.p⟩
def tS(h:FD X st ts):FD X st (aDn ts):=⟨aB9 h.p⟩
def cQ{i:Nat}{x:Str}(hN:X.N.Nodup)(hi:Y2c=Y8)(hx:Y9F x)(hf:Y8i=true\/Y6n x:=by first | exact .inl rfl | exact .inr rfl | assumption):VY X (Y6l) (oK i):=⟨MN hN hi hx hf⟩
def mL:ZR X [] aCG:=⟨pgs_nil⟩
def fJ{t:TG}{u:VN}(h1:VY X e t)(h2:ZR X es u)
  (hs:(assignEach (e::es) X.env).map (·.2)=YcJ e::(assignEach es X.env).map (·.2):=by rfl):ZR X (e::es) (UD t u):=⟨SW h1.p h2.p hs⟩
def pE{k:Nat}{t:VN}{n:Nat}(hc:Y1J)(h:ZR X es t)
  (hn:(assignEach es X.env).length=n:=by rfl) (hst:(assignEach es X.env).findIdx? (·.1)=none:=by rfl):VY X (.Tuple es k pos) (aCF X.K n t):=⟨aCd hc h.p hn hst⟩
def aAI{i:Expr}{ti:TE}{t:ZO}(ho:Yc o to)(hi:Yc i ti)(hs:aCY X t)
  (ha:∀v,assign (.Subscript o i pos) X.env v=(do
   let ov <-holding [v] (eval o X.env)
   let iv <-holding [v,ov] (eval i X.env)
   standAt pos
   holding [v,ov,iv] (setItem ov iv v)
   release [v,ov,iv] []):=by intro _;rfl):VY X (Y7B o i) (aDS to ti t):=⟨aCe ho.p hi.p hs ha⟩
def IS{g:TG}(he:Yc e te)(hg:VY X tg g)(hs:YdH [tg] e X.env=Y4C:=by rfl)(hw:YdU [tg] e=pure none:=by rfl)(h1:(assignEach [tg] X.env).map (·.2)=[YcJ tg]:=by rfl):FD X (Y6D [tg] e) (FX te g):=⟨aCa he.p hg.p hs hw h1⟩
def lU{i:Nat}{pos':Pos}(hN:X.N.Nodup)(hi:Y2c=Y8)(hx:Y9F x)(he:Yc e te)(hs:Ybs e YbM=Y4C:=by rfl)(hf:Y8i=true\/Y6n x:=by first | exact .inl rfl | exact .inr rfl | assumption) :
  FD X (Y6D [YbM] e) (FX te (oK i)):=⟨aB5 hN hi hx he.p hs hf⟩
def bX{i:Nat}{pos':Pos}(hN:X.N.Nodup)(he:Yc e te)(hi:Y2c=Y8:=by rfl)(hx:Y9F x:=by exact Or.inl rfl)(hs:Ybs e YbM=Y4C:=by rfl)(hf:Y8i=true\/Y6n x:=by first | exact .inl rfl | exact .inr rfl | assumption) :
  FD X (Y6D [YbM] e) (FX te (oK i)):=lU hN hi hx he hs hf
def aAE{i j:Nat}{x y:Str}{ta:TA}{px py pt:Pos}{kt k2 pt2}(hc:Y1J)(hN:X.N.Nodup)(hi:Y2c=Y8)(hj:X.N[j]?=Y0j)(hij:i≠j)
  (hx:Y6n x) (hy:Y6n y) (ha:FK X [a,b] ta)
  (hw:YdU [Y3s [Y5B,Y4k] kt] (Ybx [a,b] k2)=pure (some [x,y]))
  (hs:YdH [Y3s [Y5B,Y4k] kt] (Ybx [a,b] k2) X.env=Y4C:=by rfl) :
  FD X (Y6D [Y3s [Y5B,Y4k] kt] (Ybx [a,b] k2)) (aDi i j ta):=⟨aB7 hc hN hi hj hij hx hy ha.p hw hs⟩
def yV{c:Expr}{tc:TT}{tb:TS}(hp:Ycw X.A X.env X.xe)(hc:KR X c tc)(hb:xC X body tb):FD X (.While c body [] pos) (DJ (tL tc) tb):=⟨OW hp hc.p hb.p⟩
def fV{l:Expr}{tl:TE}(hl:Yc l tl):KW X tg l (aAp X.K tl):=⟨XW hl.p⟩
def kD{l:Expr}{tl:TE}(hl:Yc l tl):KW X tg l (aDQ X.K tl):=⟨aCc hl.p⟩
def dC{a:Expr}{ta:TA}{p pos:Pos}(hg:Gl X "range")(hm:X.mg "range" = none)(ha:FK X [a] ta)(hs:Y3P a=[(false,Y0d a)]:=by exact Se):KW X tg (Y64 "range" p [a] []) (aAo ta):=⟨OY hg hm ha.p hs⟩
def eO{iter:Expr}{wi:TI}{g:TG}{tb:TS}{pos:Pos}(hp:Ycw X.A X.env X.xe)(hc:Y1J)(hi:Y8p X tg wi)(hg:VY X tg g)(hb:xC X body tb)
  (hs:∀x,Y7W x=Y8j:=by intro _;rfl):FD X (.For tg iter body [] pos) (aDl wi g tb):=⟨aB8 hp hc hi.p hg.p hb.p hs⟩
end
def hZ.okw{P:Program}{w:World}{K:Aa}{mg:Y0a}{base:Heap}{x qual:Str}{st:Stmt}{f:Addr}{fd:FuncData}{N ps:Ai}{k:Nat}{sp:Sp}(F:Y9 x qual st)(S:Ya N ps st)(len:∀vs H Q E,sp vs H Q E->Y9H)
  (hbody:∀(cdv:Value) (A:Around) (outer:Y1G) (s:Shared) (H:Hp) (vs:An) (Q:VK) (E:XK),iS k (Y9J qual Y4i f cdv)->sp vs H Q E ->
   ∃t,xC (pK cN P w K mg base N qual (Y4i) f cdv A outer s H E).nox (lM st) t/\t { nx:=λ_ H'=>Q .non H',rt:=Q } (Yay N) H):dI P w K mg base cN (k+1) f fd ps sp :=
 F.ok S len λcdv A outer s H vs Q E c h=>by
  obtain⟨t,d,a⟩:=hbody cdv A outer s H vs Q E c h;exact⟨t,d.p,a⟩
def hZ.oky{P:Program}{w:World}{K:Aa}{mg:Y0a}{base:Heap}{x qual:Str}{st:Stmt}{f:Addr}{fd:FuncData}{N ps:Ai}{k:Nat}{sp:Sp}(F:Y9 x qual st)(S:Ya N ps st)
  (h:∀(vs:An) (H:Hp) (Q:VK) (E:XK),sp vs H Q E->Y9H/\∀(cdv:Value) (A:Around) (outer:Y1G) (s:Shared),iS k (A.deeper (envOfC qual (bB st) s.heap.objs.size f cdv)) ->
   let X:=(pK cN P w K mg base N qual (bB st) f cdv A outer s H E).nox;∃t,xC X (lM st) t/\t { nx:=λ_ H'=>Q .non H',rt:=Q } (start N vs) H):dI P w K mg base cN (k+1) f fd ps sp :=
 F.okw S (λvs H Q E q=>(h vs H Q E q).1) λcdv A outer s H vs Q E a q=>(h vs H Q E q).2 cdv A outer s a
def HB(a b:Int):(Int.gcd b (a % b))=(Int.gcd a b):=by
 have h:=Int.gcd_add_mul_right_right b (a % b) (a/b);rw[show a % b+a/b*b=a from by have:=Int.emod_add_mul_ediv a b;rw[Int.mul_comm];exact this]at h;rw[<-h,Int.gcd_comm]
def ND{a:Int}(h:0<a):(Int.gcd a 0:Int)=a:=by rw[Int.gcd_zero_right];exact Oo
section
variable{H:Hp}{x:V}{d:PyData}{Q:VK}
end
theorem aH.len{H:Hp}:∀{ds:Y0D}{vs:An},Y6t->Y5i ds.length
 | [],_,h=>by cases(show _=[]from h);rfl
 | d::ds,_,h=>by
  unfold aH at h;obtain⟨x,xs,rfl,_,h2⟩:=h;simp[aH.len h2]
section
variable{p:Addr}{σ:St}{t:TE}{ta:TA}{d:PyData}{ds:Y0D}
end
def NX{α:Type}{xs:Yo}{x:Int}(h0:0<=x)(h1:Y41 x):∃v,Y3f x=Yi/\v∈xs/\Y2F x.toNat=Yi:=by
 have h:Y41 x.toNat:=Oo;have e:=aD h;have:=cU e;rw[Int.toNat_of_nonneg h0]at this;exact⟨_,this,List.getElem_mem h,e⟩
theorem aH.append{H:Hp}{es:Y0D}{ws:An}(h':Y18 es ws):∀{ds:Y0D}{vs:An},Y6t->Y18 (ds++es) (vs++ws)
 | [],_,h=>by cases(show _=[]from h);exact h'
 | d::ds,_,h=>by
  unfold aH at h;obtain⟨x,xs,rfl,h1,h2⟩:=h;exact aH.cons h1 (aH.append h' h2)
end L2
namespace L2
end L2
namespace L2
open PySem PySem.Spec PyProof.Rows
def aX.thru{l:Addr}{H0 H1 H2:Hp}(hl:H0 l=none)(s:aX H0 H1)(b:aT l H1 H2):aX H0 H2:=λc o e=>by
 have n:c≠l:=cV e hl;exact b.at n (s _ _ e)
def aDY{H:Hp}{l b:Addr}{xs zs:An}{Q:VK}(h1:H l=Y0o)(h2:H b=Y77)(hz:Yes<=1000)(k:∀q H',H q=none->H' q=Y05 (xs++zs)->Y0->Y0i q):aDz (Y1k) (Y0z) H Q :=
 ⟨l,b,xs,zs,rfl,rfl,h1,h2,Nat.le_of_lt (wM hz),λq a=>k q _ a bK (aX.upd a)⟩
@[irreducible] def XI:V->Y1o:=MM
def qV{X:Cx}:MtR X "list.append" XI:=by unfold XI;exact BY
def EX{H:Hp}{l:Addr}{xs:An}{y:V}{Q:VK}(h:H l=Y0o)(hz:Y5Z 1000)(k:∀H',H' l=Y05 (xs++[y])->Y5U l H->Q .non H'):XI (Y1k) [y] H Q:=by
 unfold XI;exact Y1Z l xs y rfl h (wM hz) (k _ bK aT.self)
def QQ{K:Aa}{H:Hp}{l:Addr}{xs:An}(h:H l=Y0o):tyV K "list" (Y1k) H:=.inl ⟨rfl,xs,Y9b⟩
inductive Ex1 {A0:Sort _} (p:Y0Z A0):Prop | mk (a0:A0) (h:p a0)
inductive Ex2 {A0 A1:Sort _} (p:Y0u A0 A1):Prop | mk (a0:A0) (a1:A1) (h:p a0 a1)
inductive ZU {A0 A1 A2:Sort _} (p:A0->Y0u A1 A2):Prop | mk (a0:A0) (a1:A1) (a2:A2) (h:p a0 a1 a2)
inductive Ex4 {A0 A1 A2 A3:Sort _} (p:A0->A1->Y0u A2 A3):Prop | mk (a0:A0) (a1:A1) (a2:A2) (a3:A3) (h:p a0 a1 a2 a3)
inductive Ex5 {A0 A1 A2 A3 A4:Sort _} (p:A0->A1->A2->Y0u A3 A4):Prop | mk (a0:A0) (a1:A1) (a2:A2) (a3:A3) (a4:A4) (h:p a0 a1 a2 a3 a4)
inductive Ex6 {A0 A1 A2 A3 A4 A5:Sort _} (p:A0->A1->A2->A3->Y0u A4 A5):Prop | mk (a0:A0) (a1:A1) (a2:A2) (a3:A3) (a4:A4) (a5:A5) (h:p a0 a1 a2 a3 a4 a5)
inductive Ex7 {A0 A1 A2 A3 A4 A5 A6:Sort _} (p:A0->A1->A2->A3->A4->Y0u A5 A6):Prop | mk (a0:A0) (a1:A1) (a2:A2) (a3:A3) (a4:A4) (a5:A5) (a6:A6) (h:p a0 a1 a2 a3 a4 a5 a6)
inductive Ex8 {A0 A1 A2 A3 A4 A5 A6 A7:Sort _} (p:A0->A1->A2->A3->A4->A5->Y0u A6 A7):Prop | mk (a0:A0) (a1:A1) (a2:A2) (a3:A3) (a4:A4) (a5:A5) (a6:A6) (a7:A7) (h:p a0 a1 a2 a3 a4 a5 a6 a7)
inductive aGB {A0 A1 A2 A3 A4 A5 A6 A7 A8 A9:Sort _} (p:A0->A1->A2->A3->A4->A5->A6->A7->Y0u A8 A9):Prop | mk (a0:A0) (a1:A1) (a2:A2) (a3:A3) (a4:A4) (a5:A5) (a6:A6) (a7:A7) (a8:A8) (a9:A9) (h:p a0 a1 a2 a3 a4 a5 a6 a7 a8 a9)
inductive aGA {A0 A1 A2 A3 A4 A5 A6 A7 A8 A9 A10:Sort _} (p:A0->A1->A2->A3->A4->A5->A6->A7->A8->Y0u A9 A10):Prop | mk (a0:A0) (a1:A1) (a2:A2) (a3:A3) (a4:A4) (a5:A5) (a6:A6) (a7:A7) (a8:A8) (a9:A9) (a10:A10) (h:p a0 a1 a2 a3 a4 a5 a6 a7 a8 a9 a10)
inductive An2 (A0 A1:Prop):Prop | mk (h0:A0) (h1:A1)
inductive An3 (A0 A1 A2:Prop):Prop | mk (h0:A0) (h1:A1) (h2:A2)
inductive An4 (A0 A1 A2 A3:Prop):Prop | mk (h0:A0) (h1:A1) (h2:A2) (h3:A3)
inductive An5 (A0 A1 A2 A3 A4:Prop):Prop | mk (h0:A0) (h1:A1) (h2:A2) (h3:A3) (h4:A4)
inductive WA (A0 A1 A2 A3 A4 A5:Prop):Prop | mk (h0:A0) (h1:A1) (h2:A2) (h3:A3) (h4:A4) (h5:A5)
inductive An7 (A0 A1 A2 A3 A4 A5 A6:Prop):Prop | mk (h0:A0) (h1:A1) (h2:A2) (h3:A3) (h4:A4) (h5:A5) (h6:A6)
inductive An8 (A0 A1 A2 A3 A4 A5 A6 A7:Prop):Prop | mk (h0:A0) (h1:A1) (h2:A2) (h3:A3) (h4:A4) (h5:A5) (h6:A6) (h7:A7)
inductive An9 (A0 A1 A2 A3 A4 A5 A6 A7 A8:Prop):Prop | mk (h0:A0) (h1:A1) (h2:A2) (h3:A3) (h4:A4) (h5:A5) (h6:A6) (h7:A7) (h8:A8)
inductive aGJ (A0 A1 A2 A3 A4 A5 A6 A7 A8 A9:Prop):Prop | mk (h0:A0) (h1:A1) (h2:A2) (h3:A3) (h4:A4) (h5:A5) (h6:A6) (h7:A7) (h8:A8) (h9:A9)
inductive aGI (A0 A1 A2 A3 A4 A5 A6 A7 A8 A9 A10 A11 A12:Prop):Prop | mk (h0:A0) (h1:A1) (h2:A2) (h3:A3) (h4:A4) (h5:A5) (h6:A6) (h7:A7) (h8:A8) (h9:A9) (h10:A10) (h11:A11) (h12:A12)
def dX{t u:TS}{D:oR}{σ:St}{H:Hp}(h:let D':=D;let N:=u D';t { D' with nx:=N } σ H):aAM t u D σ H:=h
def jJ{N b c:Y1w}{r:VK}{σ:St}{H:Hp}{i:Nat}{v:V}(h:N (YcH i) H):oK i v σ H (oR.mk N r b c).nx:=h
def uQ{N:Y1w}{σ:St}{H:Hp}{i:Nat}{v:V}(h:N (YcH i) H):oK i v σ H N:=h
def JD{N b c:Y1w}{r:VK}{σ:St}{H:Hp}(h:N σ H):(oR.mk N r b c).nx σ H:=h
def tG{t:TS}{D:oR}{σ:St}{H:Hp}(h:let D':=D;t D' σ H):t D σ H:=h
def pU(env:Env):Ybh->Y6c->Y6c
 | [],cs=>cs
 | (n,k)::r,cs=>if k == .free then pU env r ((n,(env.cells.lookup n).getD 0)::cs) else pU env r cs
theorem NS(env:Env):∀(l:Ybh) (cs:Y6c),(∀y∈l,y.2=.free->∃c,YcF y.1 Y09) ->
  (forIn l cs λ(x:Str × NameKind) r=>if x.2 == .free then(do let c <-cellOf env x.1;pure (ForInStep.yield ((x.1,c)::r)):Sem _) else pure (ForInStep.yield r))=pure (pU env l cs)
 | [],cs,_=>rfl
 | (n,k)::r,cs,h=>by
  rw[List.forIn_cons];have ih:=λcs=>NS env r cs λy d=>h y (aZ _ d);by_cases hk:(k == NameKind.free)=true
  ·obtain⟨c,a⟩:=h (n,k) aV (by simpa using hk);dsimp only at a;simp only[hk,if_true,pU,a,Option.getD_some,cellOf,pure_bind];exact ih _
  ·simp only[hk,pU,pure_bind];exact ih _
def tR{env:Env}{scope:Scope}(h:∀y∈scope.names,y.2=.free->∃c,YcF y.1 Y09):closureFor scope env=pure (pU env scope.names []):=by
 have e:=NS env scope.names [] h;unfold closureFor;simp only[bind_pure];exact e
theorem wV{env:Env}:∀(l:Ybh) (cs:Y6c),(∀y∈l,y.2=.free->∃c,YcF y.1 Y09)->∀p∈pU env l cs,p∈cs\/YcF p.1 (some p.2)
 | [],cs,_,p,hp=>.inl hp
 | (n,k)::r,cs,h,p,hp=>by
  have h':∀y∈r,y.2=.free->∃c,env.cells.lookup y.1=some c:=λy e=>h y (aZ _ e);unfold pU at hp;by_cases hk:(k == NameKind.free)=true
  ·rw[if_pos hk]at hp;obtain⟨c,d⟩:=h (n,k) aV (by simpa using hk);rcases wV r _ h' p hp with a | a
   ·rcases bD.mp a with rfl | a
    ·exact .inr (by dsimp only at d ⊢;rw[d];rfl)
    ·exact .inl a
   ·exact .inr a
  ·rw[if_neg hk]at hp;exact wV r cs h' p hp
theorem wX{env:Env}:∀(l:Ybh) (cs:Y6c),∀p∈cs,p∈pU env l cs
 | [],_,_,hp=>hp
 | (n,k)::r,cs,p,hp=>by
  unfold pU;by_cases hk:(k == NameKind.free)=true
  ·rw[if_pos hk];exact wX r _ p (aZ _ hp)
  ·rw[if_neg hk];exact wX r _ p hp
theorem wW{env:Env}:∀(l:Ybh) (cs:Y6c) (y:Str),(y,NameKind.free)∈l->∃a,(y,a)∈pU env l cs
 | (n,k)::r,cs,y,hy=>by
  unfold pU;rcases bD.mp hy with e | hm
  ·cases e;rw[if_pos (by rfl)];exact⟨_,wX r _ _ aV⟩
  ·by_cases hk:(k == NameKind.free)=true
   ·rw[if_pos hk];exact wW r _ y hm
   ·rw[if_neg hk];exact wW r _ y hm
theorem uB{α β:Type}[BEq α][LawfulBEq α]{x:α}{c:β}:∀{l:Y3j α β},l.lookup x=Y09->(x,c)∈l
 | [],h=>by cases h
 | (a,b)::r,h=>by
  rw[List.lookup_cons]at h;by_cases e:(x == a)=true
  ·rw[e]at h;have:x=a:=by simpa using e
   subst this;cases h;exact aV
  ·have d:(x == a)=false:=by simpa using e
   rw[d]at h;exact aZ _ (uB h)
theorem uA{α β:Type}[BEq α][LawfulBEq α]{x:α}{c:β}:∀{l:Y3j α β},(x,c)∈l->∃c',l.lookup x=some c'
 | (a,b)::r,h=>by
  rw[List.lookup_cons];by_cases e:(x == a)=true
  ·rw[e];exact⟨_,rfl⟩
  ·have e':(x == a)=false:=by simpa using e
   rw[e'];rcases bD.mp h with q | q
   ·cases q;simp at e
   ·exact uA q
def HV(X:Cx)(scope:Scope):Y6c:=pU X.env scope.names []
def pV{X:Cx}{scope:Scope}(h:∀y∈scope.names,y.2=.free->∃c,Ycr y.1 Y09){x:Str}{c:Addr}(e:(HV X scope).lookup x=Y09):Y2U=Y09:=by
 rcases wV scope.names [] h _ (uB e)with a | a
 ·cases a
 ·exact a
def HU{X:Cx}{scope:Scope}(h:∀y∈scope.names,y.2=.free->∃c,Ycr y.1 Y09){x:Str}(hx:YeL (x,NameKind.free)){c:Addr}(e:Y2U=Y09):(HV X scope).lookup x=Y09:=by
 obtain⟨a,g⟩:=wW (env:=X.env) scope.names [] x hx;obtain⟨i,d⟩:=uA g;have:=pV h d;rw[e]at this;cases this;exact d
def FH(X:Cx)(scope:Scope)(C:Addr)(fp:Y0t)(s₀:Shared)(H₀:Hp)(N':Ai):Cx where
 prog:=X.prog
 w:=X.w
 K:=X.K
 mg:=X.mg
 base:=X.base
 A:=X.A
 N:=N'
 s₀:=s₀
 H₀:=H₀
 env:=compEnvC scope (YbT X) C X.env
 outer:=X.stack
 stack:=X.stack
 ex:=fp
 fn:=YeO
 calm:=true
 pn:=[]
 xe:=Ycz
def slots(σ:St)(js:Af):St:=js.map λj=>(σ[j]?).getD none
def ZP(X:Cx)(ifs:Y04)(t:TT):Prop :=
 ∀(pins:Ae) (s:Shared) (σ:St) (H:Hp) (Q:Yat),Y1->t σ H Q ->
  Y4c (forIn ifs true λc r=>if r=true then do let ok <-isTrue c X.env (eval c X.env);pure (ForInStep.yield ok) else pure (ForInStep.yield r)) (TP X pins σ Q)
def BF:TT:=λ_ H Q=>Q true H
def pts_nil{X:Cx}:ZP X [] BF:=λa s σ H Q I h=>wpAny_tests_nil ⟨H,I,h⟩
def XO{X:Cx}{c:Expr}{t:TT}(h:PT X c t):ZP X [c] t:=λa s σ H Q I q=>wpAny_tests_one (h a s σ H Q I q)
structure eJ(X:Cx)(scope:Scope)(xs:Ai)(N':Ai)(js:Af):Prop where
 calm:Y1J
 free:∀y∈scope.names,y.2=.free->Y6I y.1 Y5m
 cell:∀y∈scope.names,y.2 ≠ .cell
 kind:scope.kind=.function
 names:∀y∈scope.names,y.2=.local->Y7x y.1 Y1R
 own:∀x∈xs,Y7x x Y1R
 nofl:∀y,YeL (y,NameKind.free)->Y7x y Y1R->False
 len:N'.length=Y5X js.length
 pre:∀(i:Nat) x,Y0Y=Y8->N'[i]?=Y8
 nd:N'.Nodup
 slot:∀(i:Nat) (j:Nat),js[i]?=Y8g->∃y,N'[Y5X i]?=Y0j/\X.N[j]?=Y0j/\YeL (y,NameKind.free)
abbrev dZ(X:Cx)(scope:Scope)(x:Str)(N':Ai)(js:Af):Prop:=Y4p [x]
def HK(X:Cx)(scope:Scope)(cl:Y6c)(φ:Y2a Str)(C:Addr)(fp:Y0t)(s₀:Shared)(H₀:Hp)(N':Ai):Cx:={ FH X scope C fp s₀ H₀ N' with env:=compEnvC scope cl C X.env,fn:=φ }
section
variable{X:Cx}{pins:Ae}{σ:St}{H:Hp}{s:Shared}{scope:Scope}{xs:Ai}{N':Ai}{js:Af}{fp:Y0t}
theorem pH{env:Env}:∀{names:Ybh}{y:Str}{k:NameKind},(names.map λ(n,k)=>if(k == NameKind.free&&env.scope.kind == .function&&env.kindOf n == some .cell) then(n,NameKind.cell) else(n,k)).lookup y=some k ->
  (k=.cell\/k=.free)->(∀z∈names,z.2 ≠ .cell)->(y,NameKind.free)∈names
 | [],_,_,h,_,_=>by cases h
 | (n,q)::r,y,k,h,hk,hc=>by
  rw[bJ,List.lookup_cons]at h;have ih:=λh=>@pH env r y k h hk λz d=>hc z (aZ _ d);by_cases hq:(q == NameKind.free&&env.scope.kind == .function&&env.kindOf n == some .cell)=true
  ·dsimp only at h;rw[if_pos hq]at h;have g:q=.free:=by
    rw[cJ,cJ]at hq;simpa using hq.1.1
   subst g;by_cases e:(y == n)=true
   ·have:y=n:=by simpa using e
    subst this;exact aV
   ·have a:(y == n)=false:=by simpa using e
    dsimp only at h;rw[a]at h;exact aZ _ (ih h)
  ·dsimp only at h;rw[if_neg hq]at h;by_cases e:(y == n)=true
   ·have:y=n:=by simpa using e
    subst this;dsimp only at h;rw[e]at h;have c:k=q:=by injection h with h;exact h.symm
    subst c;rcases hk with rfl | rfl
    ·exact absurd rfl (hc _ aV)
    ·exact aV
   ·have a:(y == n)=false:=by simpa using e
    dsimp only at h;rw[a]at h;exact aZ _ (ih h)
theorem eJ.cells(S:Y4p xs)(ok:X.Ok):∀y∈scope.names,y.2=.free->∃c,Ycr y.1 Y09:=λy a d=>ok.has _ (.inl (S.free y a d))
def YU(S:Y4p xs)(I:Y1)(hf:∀b∈fp,Y3C X H b)(hb:∀b∈fp,Y4v b):(FH X scope s.heap.objs.size fp s H N').Ok where
 mod:=I.ok.mod
 kind:=S.kind
 glob:=I.ok.glob
 blt:=I.ok.blt
 above:=Yn
 inj:=λy z c m d=>I.ok.inj y z c (pV (Y9N) m) (pV (Y9N) d)
 has:=λy g=>by
  have i:YeL (y,NameKind.free):=by
   rcases g with g | g
   ·exact pH (env:=X.env) g (Y3T) S.cell
   ·exact pH (env:=X.env) g (.inr rfl) S.cell
  obtain⟨c,l⟩:=S.cells I.ok _ i rfl;exact⟨c,HU (Y9N) i l⟩
 cab:=λ_ _ h=>by cases h
 hd:=λ_=>I.ok.hd S.calm
 frames:=I.ok.frames
 stk:=Y3T
 exf:=λb a=>⟨λe=>by have:=hb b a;rw[e]at this;exact Y9f _,λy c h=>(hf b a).2.2.2.2.1 y c (pV (Y9N) h)⟩
 bs:=I.bs
 bsz:=aP I.ok.bsz I.sz
 noex:=λb o e a=>by
  rcases(hf b a).2.2.2.1 with h | h
  ·exact I.ok.noex b o e h
  ·exact absurd (aS (aY e) (aP I.ok.bsz h)) (cY _)
 exfs:=λb a j=>by
  have d:=I.stkSub b j;rcases bD.mp d with d | d
  ·exact(hf b a).2.1 d
  ·exact(hf b a).2.2.1 d
 funs:=I.stack
 frf:=I.stkFree
def OP{i j:Nat}(h:js[i]?=Y8g):(Y2u)[i]?=some ((σ[j]?).getD none):=by
 unfold slots;rw[aR,h];rfl
def UO{h':Heap}{tk:Nat}(S:Y4p xs)(I:Y1)(hf:∀b∈fp,Y3C X H b)(hb:∀b∈fp,Y4v b)
  (hn:h'.Ns s.heap.objs.size (Yd1)) (hk:Y6u (Y0n=Y7)):cL (FH X scope s.heap.objs.size fp s H N') [] (Y7L (List.replicate xs.length none)) H { s with heap:=h',toks:=tk } where
 ok:=YU S I hf hb
 os:=rfl
 bare:=I.bare
 base:=Un.kept hk
 loc:=by
  refine Y1x hn (λi y v α C a=>?_);by_cases hlt0:Y41 i
  ·rw[List.getElem?_append_left (by rw[cA];exact hlt0),List.getElem?_replicate,if_pos hlt0]at C;cases C
  ·obtain⟨i,rfl⟩:∃k,i=Y5X k:=Y1j (i-xs.length);rw[List.getElem?_append_right (by rw[cA];exact Oo),cA,Nat.add_sub_cancel_left]at C;have d:(Y2u)[i]?=YcQ:=C;have G:i<js.length:=by
    have:=(aO.mp d).1;unfold slots at this
    rwa [aB]at this
   have N:js[i]?=some js[i]:=aD G;obtain⟨z,P,R,D⟩:=S.slot i _ N;have J:z=y:=by
    have:N'[Y5X i]?=Y0j:=α;rw[P]at this;cases this;rfl
   subst J;rw[OP N]at d;have Z:σ[js[i]]?=YcQ:=by
    cases q:σ[js[i]]? with
    | none=>rw[q]at d;cases d
    | some o=>rw[q]at d;cases d;rfl
   have B:Y6I z Y5m:=S.free _ D rfl;obtain⟨m,γ,U⟩:=I.loc;obtain⟨u,O,β⟩:=U _ z v R Z (.inr (.inl B));rcases β with⟨A,_⟩ | ⟨_,c,T,g⟩
   ·rw[B]at A;cases A
   ·refine⟨u,O,.inr ⟨?_,c,HU (Y9N) D T,?_⟩⟩
    ·rcases a with a | a | a
     ·exfalso;have x:=uB (l:=(relabel scope X.env).names) a;unfold relabel at x;obtain⟨⟨n,k⟩,w,j⟩:=aQ.mp x;dsimp only at j;by_cases hq:(k == NameKind.free&&Yce .function&&X.env.kindOf n == Y5m)=true
      ·rw[if_pos hq]at j;cases j
      ·rw[if_neg hq]at j;cases j;have:=S.names _ w rfl;have L:=uA D;obtain⟨δ,L⟩:=L;dsimp only at this;rw[this]at L;have M:Y7x z Y1R:=this;exact S.nofl z D M
     ·exact .inl a
     ·exact .inr a
    ·obtain⟨o,e,r⟩:=g;exact Y0U (hk _ _ e) r
 cell:=λy c h=>by
  obtain⟨v,o,e,r⟩:=Y99 y (pV (Y9N) h);exact⟨v,o,hk _ _ e,r⟩
 free:=Y4u _
 freeC:=λy c h=>YbO y (pV (Y9N) h)
 pin:=λp W=>by cases W
 hok:=I.hok.kept hk
 len:=by
  rw[bF,cA];unfold slots;rw[aB];exact S.len.symm
def nC.but{P:Program}{w:World}{H:Hp}{h h':Heap}{C:Addr}(x:Y2q)(hC:H C=none)(k:∀b u,b≠C->Y0M=Yv->Y0n=Yv):nC P w H h':=λa o e =>
 (x a o e).stay (λb u c q=>k b u (by
  rcases c with rfl | c
  ·exact cV e hC
  ·exact cV c hC) q) (Ya9) Y5W
def NO{cl:Y6c}{φ:Y2a Str}{H2:Hp}{σ':St}{s2:Shared}{h'':Heap}(I:Y1)(hf:∀b∈fp,Y3C X H b)
  (J:cL (Y47 X cl φ s.heap.objs.size fp s H N') [] σ' H2 s2) (hs:Heap.SameBut s.heap.objs.size s2.heap h''):Y1Q H2 ({ s2 with heap:=h'' }):=by
 have h:H2 s.heap.objs.size=none:=J.free;have ne:∀{b:Addr} {o:Obj},Y32->YaU b:=λe q=>by
  have:=aY e;rw[q]at this;exact Y9f _
 refine I.call' (s':={ s2 with heap:=h'' }) (ch:=fp) (by rw[show({ s2 with heap:=h'' }:Shared).os=s2.os from rfl];exact J.os) ?_ (J.hok.but h λb u a q=>hs.extBut b u a q) J.bare λb a=>⟨(hf b a).2.2.2.1,(hf b a).2.1,(hf b a).2.2.2.2.1,(hf b a).2.2.2.2.2⟩;have U:=J.base;exact {
  keep:=λb o e n d c=>hs.extBut b o (ne e) (U.keep b o e n d c)
  slot:=λb o e n d c=>by
   obtain⟨g,q⟩:=U.slot b o e n d c;exact⟨g,hs.extBut b _ (ne e) q⟩
  free:=U.free
  there:=λb o e c=>by
   obtain⟨i,q⟩:=U.there b o e c;exact⟨i,hs.extBut b _ (ne e) q⟩
  tups:=U.tups
  frzs:=U.frzs
  tbls:=U.tbls }
end
abbrev NoX:Y5:=Ycz
def ER{prog:Program}{w:World}{A:Around}{R:Y8S}{s:Shared}{elt target iter:Expr}{ifs:Y04}{scope:Scope}{pos:Pos}{it acc:Value}{env:Env}(I:Y26 Nat)
  (turn:∀n s,I n s->wpAny (Y2A) A (pyNext it) (λr s₁=>match r with
   | none=>R (.ok .next) s₁
   | some v=>wpAny (model prog w) A (letOwnedTupleGo target it v) (λ_ s₁'=>wpAny (model prog w) A (assign target env v) (λ_ s₂ =>
     wpAny (model prog w) A (forIn ifs true λc r=>if r=true then do let ok <-isTrue c env (eval c env);pure (ForInStep.yield ok) else pure (ForInStep.yield r)) (λok s₃ =>
      if ok=true then wpAny (model prog w) A (eval elt env) (λx s₄=>wpAny (model prog w) A (call (.builtin "list.append") [acc,x]) (λ_ s₅=>∃m,m<n/\I m s₅) NoX s₄) NoX s₃
      else ∃m,m<n/\I m s₃) NoX s₂) NoX s₁') NoX s₁) NoX s)
  (n:Nat) (h:I n s):codeAny (Y2A) A (.compLoop (Y4O [Y4P target 0]) 0 it acc env) R s:=by
 refine codeAny_loop rfl I (λn s p=>?_) n h;show wpAny _ A ((compTurn (.ListComp elt [⟨target,iter,ifs,0⟩] scope pos) 0 it acc env).onRaise (λx=>do noteFrame x env;theTreesLotGoes x)) _ _ s;refine wpAny_noted ?_;rw[compTurn_list];refine YaO (Y7q (turn n s p) (λr s₁ g=>?_) Yb0);cases r with
 | none=>exact wpAny_pure g
 | some v =>
  refine Y7q g (λ_ s₁' d=>?_) Yb0;refine Y7q d (λ_ s₂ i=>Y7q i (λok s₃ e=>?_) Yb0) Yb0;cases ok with
  | false=>exact wpAny_pure (Y1b e)
  | true =>
   exact Y8r (wpAny_mono e (λx s₄ l=>Y7q l (λ_ s₅ j=>Ydr (Y1b j)) Yb0) Yb0)
def II(GX:V->Y5G An)(J:It)(σ:St)(js:Af)(tc:TT)(te:TE)(H:Hp)(Q:VK):Prop:=∀D,H D=none->∃W:Nat->Nat->An->Hp->Prop,(Y7c 0 m [] (Y1S H D [])) /\
 ∀i m ys H2,W i m ys H2->H2 D=Y0f/\((J.stop i H2/\Y10 D H2)\/(Y7d H2/\Ybn ys.length/\∀x H3,Y76 H2 x H3->∃vs,GX x H3 vs /\
  tc (Y4M) H3 λb H4=>if b=true then te (Y4M) H4 λy H5=>H5 D=Y0f/\∃m',m' < m/\W (i+1) m' (ys++[y]) (Y1S H5 D (ys++[y]))
   else H4 D=Y0f/\∃m',m' < m/\W (i+1) m' ys H4))
structure QP(X:Cx)(scope:Scope)(tg:Expr)(k:Nat)(cl:Addr->Y6c)(φ:Y2a Str)(N':Ai)(js:Af)(GX:V->Y5G An)(gg:TG):Prop where
 cells:X.Ok->∀y∈scope.names,y.2=.free->∃c,Ycr y.1 Y09
 kind:scope.kind=.function
 names:∀y∈scope.names,y.2=.local->Y7x y.1 Y1R
 len:∀{x:V} {H:Hp} {vs:An},GX x H vs->Y5i k
 beg:∀{pins:Ae} {σ:St} {H:Hp} {s:Shared} {fp:Y0t} {E:Y5} {Q:Y26 Env},Y1->(∀b∈fp,Y3C X H b)->(∀b∈fp,Y4v b) ->
  (∀(e:Env) (s4:Shared),{ e with scope:=relabel scope X.env }=compEnvC scope (cl s.heap.objs.size) s.heap.objs.size X.env->e.locals=s.heap.objs.size->cL (Y47 X (cl s.heap.objs.size) φ s.heap.objs.size fp s H N') [] (Y7L (Y4s none)) H s4->(Y6u (s4.heap.get? b=Y7))->Q e s4) ->
  Y7s (newFunctionEnv scope X.env.globals (YbT X) [] X.env.qual none .none (some X.env)) Q E s
 hg:∀C fp s₀ H₀,PG (Y47 X (cl C) φ C fp s₀ H₀ N') tg gg
 hx:∀{x:V} {H:Hp} {vs:An} {os σ:St} {Q:Y1w},GX x H vs->os.length=k->Q (Y4M) H->gg x (Y7L os) H Q
section
variable{X:Cx}{pins:Ae}{σ:St}{H:Hp}{s:Shared}{scope:Scope}{k:Nat}{cl:Addr->Y6c}{φ:Y2a Str}{GX:V->Y5G An}{gg:TG}{N':Ai}{js:Af}{fp:Y0t}{elt iter tg:Expr}{pos:Pos}{ifs:Y04}{tc:TT}{te:TE}
def xP{J:It}{it:Addr}{tn:Nat->Y4G}{RR:Value->Addr->Y8S}{E:Y5}{Q:VK}
  (B:QP X scope tg k cl φ N' js GX gg) (I:Y1) (T:IJ X.prog X.w X.K tg J fp it tn) (h0:tn 0 s.heap) (hf:∀b∈fp,Y3C X H b)
  (ht:YfF (Y47 X (cl C) φ C fp s₀ H₀ N') ifs tc) (he:YfE (Y47 X (cl C) φ C fp s₀ H₀ N') elt te) (R:II GX J σ js tc te H Q)
  (hRR:∀(D:Addr) (H3:Hp) (s3:Shared) (σ':St) (H':Hp) (s':Shared),Y1Q H3 s3->(∀b∈fp,Y3C X H3 b)->cL (Yek X Yc6 φ fp s3 H3 N') [] σ' H' s'->Y1r->RR (.ref D) s3.heap.objs.size (.ok .next) s') :
  wpAny (Y6K) X.A (newList []) (λacc s₃=>wpAny (Y6K) X.A (newFunctionEnv scope X.env.globals (YbT X) [] X.env.qual none .none (some X.env)) (λcenv s₄ =>
   codeAny (Y6K) X.A (.compStart (Y4O [Y4P tg 0]) 0 (Y4K) acc { cenv with scope:=relabel scope X.env }) (RR acc cenv.locals) s₄) E s₃) E s:=by
 have M:∀b∈fp,Y4v b:=λb M=>by
  obtain⟨o,e,_⟩:=T.obj 0 _ h0 b M;exact aY e
 have ζ:H s.heap.objs.size=none:=Y4u _;obtain⟨W,⟨m0,P⟩,hW⟩:=R _ ζ;have I3:Y1Q (Y7u H []) ({ s with heap:=s.heap.push { cls:=.type "list",dict:=none,data:=.seq ([]:Ah).toArray } }):=I.lnew (its:=[]) (ys:=[]) (t':=s.toks) .nil (dH _);have g:∀b∈fp,Y3C X (Y7u H []) b:=λb a =>
  ⟨by rw[cP (λe=>by have:=M b a;rw[e]at this;exact Y9f _)];exact(hf b a).1,(hf b a).2⟩
 have z:tn 0 ({ s with heap:=s.heap.push { cls:=.type "list",dict:=none,data:=.seq ([]:Ah).toArray } }:Shared).heap:=T.keep 0 _ _ h0 λb a o e=>Y0h e;have L:∀b∈fp,b<({ s with heap:=s.heap.push { cls:=.type "list",dict:=none,data:=.seq ([]:Ah).toArray } }:Shared).heap.objs.size:=λb a=>by
  show b<(s.heap.push _).objs.size;rw[mJ];exact Nat.lt_succ_of_lt (M b a)
 refine wpAny_newObj_type ?_;show Y4A _ ({ s with heap:=s.heap.push { cls:=.type "list",dict:=none,data:=.seq ([]:Ah).toArray } });generalize ({ s with heap:=s.heap.push { cls:=.type "list",dict:=none,data:=.seq ([]:Ah).toArray } }:Shared)=s3 at I3 z L ⊢;refine B.beg I3 g L λcenv ρ ec el J4 m=>?_;rw[ec,el];have υ:tn 0 ρ.heap:=T.keep 0 _ _ z λb a o e=>m b o e;have d:codeAny (Y6K) X.A (.compLoop (Y4O [Y4P tg 0]) 0 (Y4K) (Y24) (compEnvC scope (Yc6) s3.heap.objs.size X.env)) (RR (Y24) s3.heap.objs.size) ρ:=by
  refine ER (λn s'=>∃(i:Nat) (ys:An) (H2:Hp) (N:St),N.length=k/\cL (Y47 X _ φ _ fp _ _ N') [] (Y7L N) H2 s'/\tn i s'.heap/\(∀b∈fp,H2 b=none)/\W i n ys H2) ?_ m0 ⟨0,[],_,_,cA,J4,υ,λb a=>(g b a).1,P⟩;rintro n s' ⟨i,ys,H2,N,Z,J2,τ,f2,ψ⟩;obtain⟨hD,j⟩:=hW i n ys H2 ψ;have ο:∀b∈fp,qD (Yek X Yc6 φ fp s3 (Y7u H []) N') [] H2 b:=λb a =>
   ⟨f2 b a,(J2.ok.exf b a).1,J2.ok.exfs b a,.inl a,(J2.ok.exf b a).2,λp δ=>by cases δ⟩
  rcases j with⟨h,χ⟩ | ⟨O,hz,l⟩
  ·refine Y9y (T.done (Y47 X _ φ _ fp _ _ N') rfl rfl rfl rfl i [] s' _ H2 NoX J2 ο τ h) (λr s1 ⟨η,J5⟩=>?_) f;subst η;exact hRR _ _ _ _ _ _ I3 g J5 χ
  ·refine Y9y (T.item (Y47 X _ φ _ fp _ _ N') rfl rfl rfl rfl i [] s' _ H2 NoX J2 ο τ O) (λr s1 ⟨u,η,hx⟩=>?_) f;subst η;refine Y9y hx (λ_ ω ⟨v,H3,J3,rv,hy,z,f3⟩=>?_) f;have S:∀b∈fp,qD (Yek X Yc6 φ fp s3 (Y7u H []) N') [] H3 b:=λb a =>
    ⟨f3 b a,(J3.ok.exf b a).1,J3.ok.exfs b a,.inl a,(J3.ok.exf b a).2,λp δ=>by cases δ⟩
   have P3:=J3.pinned S (T.obj (i+1) _ z);have c:∀{σ':St} {Hx:Hp} {sx:Shared},cL (Yek X Yc6 φ fp s3 (Y7u H []) N') ([]++AA fp ω.heap) σ' Hx sx->tn (i+1) sx.heap/\∀b∈fp,Hx b=none:=λν =>
    ⟨T.keep (i+1) _ _ z λb a α e=>(ν.pin (b,α) (bZ _ (bZ _ (qW a e)))).1,λb a=>by
     obtain⟨α,e,_⟩:=T.obj (i+1) _ z b a;exact(ν.pin (b,α) (bZ _ (bZ _ (qW a e)))).2.1⟩
   obtain⟨κ,μ,qe⟩:=l v H3 hy;have ξ:=B.len μ;refine Y9y (B.hg _ _ _ _ _ _ (Y7L N) H3 v u (λσ' H'=>σ'=Y7L (κ.map some)/\H'=H3) P3 rv (B.hx μ Z Y6k)) (λ_ s5 ⟨σ5,H5,J5,e5,e6⟩=>?_) f;subst e5 e6;refine Y9y (ht _ _ _ _ _ _ _ _ _ J5 qe) (λok s6 ⟨H6,J6,G⟩=>?_) f;dsimp only at G;by_cases hok:ok=true
   ·rw[if_pos hok]at G ⊢;refine Y9y (he _ _ _ _ _ _ _ _ _ J6 G) (λy s7 ⟨ε,H7,J7,r7,β,γ,x,U⟩=>?_) f;refine Y9y (BY (X:=Y47 X _ φ _ fp _ _ N') _ _ _ _ (Y24) [ε] (Y24) [y] (λ_ H8=>H8=Y7u H7 (ys++[ε])) J7 rfl (Ya6 r7) (Y1Z _ _ _ rfl β hz rfl)) (λ_ s8 ⟨_,H8,J8,_,e8⟩=>?_) f;subst e8;obtain⟨θ,ι⟩:=c J8;exact⟨γ,x,i+1,ys++[ε],_,κ.map some,by rw[aB,ξ],J8.unpinned,θ,ι,U⟩
   ·rw[if_neg hok]at G ⊢;obtain⟨_,γ,x,U⟩:=G;obtain⟨θ,ι⟩:=c J6;exact⟨γ,x,i+1,ys,_,κ.map some,by rw[aB,ξ],J6.unpinned,θ,ι,U⟩
 refine codeAny_compStart_list d (T.self X.A 0 _ _ _ υ d)
def AB{wi:TI}{TC:It->St->(Hp->(Y0Z VK))}(B:QP X scope tg k cl φ N' js GX gg)(hi:PI X tg iter wi)(ht:YfF (Y47 X (cl C) φ C fp s₀ H₀ N') ifs tc)(he:YfE (Y47 X (cl C) φ C fp s₀ H₀ N') elt te)
  (hc:∀{J σ H Q},TC J σ H Q->II GX J σ js tc te H Q) (hs:∀x,Y7W x=Y8j):Yl (Y4O [Y4P tg 0]) (λσ H Q=>wi σ H λJ H1=>TC J σ H1 Q):=by
 intro a s σ H Q I h;rw[eval_ListComp];refine wpAny_comprehension_free (use:=none) rfl hs (tR (B.cells I.ok)) B.kind B.names (YeB (hi a s σ H _ I h) (λv w l=>?_));refine YeB l (λj r ⟨p,fp,u,J,H2,e,I2,T,g,n,R⟩=>?_);subst e;refine xP B I2 T g n ht he (hc R) ?_;intro D H3 G y H' A I3 d J3 q;obtain⟨m,i,_⟩:=J3.loc;exact⟨m,i,λz c=>Y2S (.ref D) H' (NO I3 d J3 c) q⟩
def xJ{wi:TI}{TC:It->St->(Hp->(Y0Z VK))}{y:Str}{py spos:Pos}{i:Nat}(B:QP X scope tg k cl φ N' js GX gg)(hN:X.N.Nodup)(hiN:Y2c=Y0j)(hy:Y6I y Y1R)(hi:PI X tg iter wi)(ht:YfF (Y47 X (cl C) φ C fp s₀ H₀ N') ifs tc)(he:YfE (Y47 X (cl C) φ C fp s₀ H₀ N') elt te)
  (hc:∀{J σ H Q},TC J σ H Q->II GX J σ js tc te H Q) (hsw:YeW (Y4O [Y4P tg 0]) (some (Y4k)) spos.line=pure true) (hs:∀x,Y7W x=Y8j) :
  PS X (.Assign [Y4k] (Y4O [Y4P tg 0]) spos) (FX (λσ H Q=>wi σ H λJ H1=>TC J σ H1 Q) (oK i)):=by
 intro d s σ H D0 I h;rw[exec_Assign_Name_used _ _ _ _ hsw];refine YaO Y3V;show wpAny _ X.A (do let _ <-comprehension (.ListComp elt [⟨tg,iter,ifs,0⟩] scope pos) scope X.env _ (newList []) false (eval iter X.env) (some (assign (.Name y py) X.env))) _ _ s;refine Y7q (wpAny_comprehension_free (use:=some (YcJ Y4k)) (Q:=λ_ l=>SP X d D0 .next l) rfl hs (tR (B.cells I.ok)) B.kind B.names (YeB (hi d s σ H _ I h) (λv ζ U=>?_))) (λ_ l Z=>Ydr Z) Yb1;refine YeB U (λS δ ⟨it,fp,ε,J,H2,e,I2,T,O,W,R⟩=>?_);subst e;refine xP (Q:=λv H'=>oK i v σ H' D0.nx) B I2 T O W ht he (hc R) ?_;intro D H3 L η H' l I3 G J3 q;obtain⟨m,P,_⟩:=J3.loc;have IX:Y1D d H' l:=NO I3 G J3 (Heap.SameBut.refl ..);have j:Y4w L.heap.objs.size:=λe=>by have:=I3.lt;rw[e]at this;exact Y9f _
 show wpAny _ X.A (assign (Y4k) X.env (.ref D)) _ _ _;refine wpAny_assign_Name (BS IX hN hiN (.inl hy) (v:=.ref D) rfl (λα I5 g=>?_) (.inr hy));obtain⟨a,g,M⟩:=g;have r:L.heap.objs.size≠a:=by
  rcases M with rfl | M
  ·exact j
  ·intro e;obtain⟨v,o,u,_⟩:=I3.cell y a M;have:=aY u;rw[<-e]at this;exact Y9f _
 refine⟨m,P.sameBut g r,λθ w=>Y8o _ H' ?_⟩;exact I5.turned (it:=L.heap.objs.size) (t':=α.toks) (λb o n e=>w.extBut b o n e) J3.free j (.inr I3.sz)
  (λz c γ e=>by
   obtain⟨v,o,u,_⟩:=I3.cell z c γ;have:=aY u;rw[e]at this;exact Y9f _)
  (λp β e=>by
   have:=aY (I3.pin p β).1;rw[e]at this;exact Y9f _)
def eJ.blk{xs:Ai}(S:Y4p xs)(hl:∀{x:V}{H:Hp}{vs:An},GX x H vs->Y5i xs.length)(hg:∀C fp s₀ H₀,PG (Y3O) tg gg)(hx:∀{x:V}{H:Hp}{vs:An}{os σ:St}{Q:Y1w},GX x H vs->Y68 os.length->Q (Y4M) H->gg x (Y7L os) H Q):QP X scope tg xs.length (λ_=>YbT X) (YeO) N' js GX gg :=
 ⟨S.cells,S.kind,S.names,hl,λ{c σ H s fp E Q} I h d k=>wpAny_newFunctionEnv S.cell (by intro y l;simp at l) (λi g j=>by
  have a:Y6u (i.get? b=Y7):=λb o e=>j.extBut b o (λq=>by have:=aY e;rw[q]at this;exact Y9f _) (Y0h e);exact k _ _ rfl rfl (UO S I h d g a) a) S.kind,hg,hx⟩
end
structure KS(X:Cx)(ifs:Y04)(t:TT):Prop where p:ZP X ifs t
def wH(t:TE):TE:=λσ H Q=>∃Q':VK,t σ H Q'/\∀v H1,Q' v H1->Q v H1
def PE.mono{X:Cx}{e:Expr}{t:TE}(h:Yl e t):Yl e (wH t):=λa s σ H Q I ⟨Q',d,c⟩ =>
 thn (h a s σ H Q' I d) λb g ⟨v,H',I',r,q⟩=>⟨v,H',I',r,c _ _ q⟩
def ZP.mono{X:Cx}{es:Y04}{t:TT}(h:ZP X es t):ZP X es (tL t):=λa s σ H Q I ⟨Q',d,c⟩ =>
 thn (h a s σ H Q' I d) λb e ⟨H',I',q⟩=>⟨H',I',c _ _ q⟩
@[irreducible] def nB(J:It)(σ:St)(js:Af)(tc:TT)(te:TE)(H1:Hp)(Q:VK):Prop:=∀D,H1 D=none->∃W:Nat->Nat->An->Hp->Prop,(Y7c 0 m [] (Y1S H1 D [])) /\
 ∀i m ys H2,W i m ys H2->H2 D=Y0f/\((J.stop i H2/\Y10 D H2)\/(Y7d H2/\Ybn ys.length/\∀x H3,Y76 H2 x H3 ->
  tL tc (Y8::Y2u) H3 λb H4=>if b=true then wH te (Y8::Y2u) H4 λy H5=>H5 D=Y0f/\∃m',m' < m/\W (i+1) m' (ys++[y]) (Y1S H5 D (ys++[y]))
   else H4 D=Y0f/\∃m',m' < m/\W (i+1) m' ys H4))
def RS(wi:TI)(js:Af)(tc:TT)(te:TE):TE:=λσ H Q=>wi σ H λJ H1=>nB J σ js tc te H1 Q
section
variable{X:Cx}{scope:Scope}{x y:Str}{N':Ai}{js:Af}{elt iter c:Expr}{px py pos spos:Pos}{ifs:Y04}{tc:TT}{te:TE}{wi:TI}{i:Nat}
def dL:KS X [] BF:=⟨pts_nil⟩
def LD{t:TT}(h:KR X c t):KS X [c] t:=⟨XO h.p⟩
def nB.turns{J:It}{σ:St}{H:Hp}{Q:VK}(h:nB J σ js tc te H Q):II (λv _ vs=>vs=[v]) J σ js (tL tc) (wH te) H Q:=λD l=>by
 unfold nB at h;obtain⟨W,e,d⟩:=h D l;refine⟨W,e,λi m j H2 w=>?_⟩;obtain⟨hd,g⟩:=d i m j H2 w;exact⟨hd,g.imp_right λ⟨a,b,c⟩=>Y5d b (λx H3 y=>Y0K [x] (c x H3 y))⟩
def aCD{x:V}{H:Hp}{vs:An}{os σ:St}{Q:Y1w}(h:vs=[x])(hl:os.length=1)(q:Q (Y4M) H):oK 0 x (Y7L os) H Q:=by
 subst h
 match os,hl with
 | [o],_=>exact q
def eJ.one(S:dZ X scope x N' js):QP X scope (Y5B) 1 (λ_=>YbT X) (YeO) N' js (λv _ vs=>vs=[v]) (oK 0) :=
 have l:=lookup_relabel_local (S.own x aV)
 S.blk (λh=>by rw[h];rfl) (λC a c H₀=>MN S.nd (S.pre 0 x rfl) (.inl l) (.inr l)) aCD
def fH(S:dZ X scope x N' js)(hi:Y8p X Y5B wi)(ht:Ycc Y3O ifs tc)(he:Ycb Y3O elt te)
  (hs:∀x,Y7W x=Y8j:=by intro _;rfl):Yc (Y4O [Y4P Y5B 0]) (RS wi js tc te) :=
 ⟨AB S.one hi.p (λC fp s₀ H₀=>(ht C fp s₀ H₀).p.mono) (λC fp s₀ H₀=>(he C fp s₀ H₀).p.mono) nB.turns hs⟩
def qG(S:dZ X scope x N' js)(hN:X.N.Nodup)(hiN:Y2c=Y0j)(hy:Y6I y Y1R)(hi:Y8p X Y5B wi)(ht:Ycc Y3O ifs tc)(he:Ycb Y3O elt te)
  (hsw:YeW (Y4O [Y4P Y5B 0]) (some (Y4k)) spos.line=pure true:=by rfl) (hs:∀x,Y7W x=Y8j:=by intro _;rfl) :
  FD X (.Assign [Y4k] (Y4O [Y4P Y5B 0]) spos) (FX (RS wi js tc te) (oK i)) :=
 ⟨xJ S.one hN hiN hy hi.p (λC fp s₀ H₀=>(ht C fp s₀ H₀).p.mono) (λC fp s₀ H₀=>(he C fp s₀ H₀).p.mono) nB.turns hsw hs⟩
end
def AU(psc scope:Scope)(N:Ai)(xs N':Ai)(js:Af):Bool :=
 (YdR (!(y.2 == .free) || psc.names.lookup y.1 == Y5m))&&(YdR (!(y.2 == .cell)))&&scope.kind == .function &&
 (YdR (!(y.2 == .local) || YfR y.1 Y1R))&&(xs.all λx=>YfR x Y1R) &&
 (YdR (!(y.2 == .free) || !(YfR y.1 Y1R)))&&N'.length == Y5X js.length&&N'.take xs.length == xs&&decide N'.Nodup &&
 ((List.range js.length).all λi=>match js[i]?,N'[xs.length+i]? with
  | some j,some y=>N[j]? == some y&&scope.names.contains (y,NameKind.free)
  | _,_=>false)
def eJ.of{X:Cx}{psc scope:Scope}{N:Ai}{xs N':Ai}{js:Af}(h:AU psc scope N xs N' js=true)(hX:X.env.scope=psc)(hN:X.N=N)(hc:Y1J):Y4p xs:=by
 unfold AU at h;simp only[cJ]at h;obtain⟨⟨⟨⟨⟨⟨⟨⟨⟨l,n⟩,A⟩,r⟩,p⟩,s⟩,u⟩,z⟩,B⟩,c⟩:=h;rw[List.all_eq_true]at l n r p s c;refine⟨hc,YeE,YeE,by simpa using A,YeE,λx d=>by simpa using p x d,YeE,by simpa using u,λi x d=>?_,of_decide_eq_true B,λi j m=>?_⟩
 ·have:=l y a;rw[e]at this;show Yg2 y.1 _;rw[hX];simpa using this
 ·have:=n y a;rw[e]at this;simp at this
 ·have:=r y a;rw[e]at this;simpa using this
 ·have:=s _ a;rw[e]at this;simp at this
 ·have w:N'.take xs.length=xs:=by simpa using z
  have g:Y41 i:=(aO.mp d).1;rw[<-d]
  conv=>rhs;rw[<-w]
  rw[List.getElem?_take,if_pos g]
 ·have g:i<js.length:=(aO.mp m).1;have:=c i (cB.mpr g);rw[m]at this;cases q:N'[Y5X i]? with
  | none=>rw[q]at this;simp at this
  | some y =>
   rw[q]at this;simp only[cJ]at this;exact Y1L y (by rw[hN];simpa using this.1) (List.contains_iff_mem.mp this.2)
def eJ.o{X:Cx}{scope:Scope}(xs N':Ai)(js:Af)(h:AU X.env.scope scope X.N xs N' js=true:=by exact Eq.refl true)(hc:Y1J:=by rfl):Y4p xs:=eJ.of h rfl rfl hc
theorem dZ.of{X:Cx}{psc scope:Scope}{N:Ai}{x:Str}{N':Ai}{js:Af}(h:AU psc scope N [x] N' js=true)(hX:X.env.scope=psc)(hN:X.N=N)(hc:Y1J):dZ X scope x N' js:=eJ.of h hX hN hc
def dZ.o{X:Cx}{scope:Scope}{x:Str}(N':Ai)(js:Af)(h:AU X.env.scope scope X.N [x] N' js=true:=by exact Eq.refl true)(hc:Y1J:=by rfl):dZ X scope x N' js:=dZ.of h rfl rfl hc
section
variable{js:Af}{te:TE}{tc:TT}{σ:St}{H:Hp}{Q:VK}
def HN{J:It}{n:Nat}(src:Y9g V)(hz:Y7R n)(Pv:Addr->Nat->Y1M An)
  (h0:∀D H1,H D=none->H1 D=Y05 []->aX H H1->Pv D 0 [] H1)
  (hg:∀D i ys H',i<n->Y0p=Y0f->Pv D i ys H'->Y7d H'/\∀x H3,Y76 H' x H3->H3=H'/\src i x)
  (hst:Y2x (Y0p=Y0f) (Pv D n ys H'->J.stop n H'))
  (hs:∀D i x ys H',src i x->i<n->Y2Y i->Y0p=Y0f->Pv D i ys H'->te (Y8::Y2u) H' λy H5=>H5 D=Y0f/\∀H6,H6 D=Y05 (ys++[y])->aT D H5 H6->Pv D (i+1) (ys++[y]) H6)
  (hd:Y2x (Y2Y n) (H D=none->Y0p=Y0f->Pv D n ys H'->Y1r)) :
  nB J σ js BF te H Q:=by
 unfold nB;intro D d;refine Y08 (λi m ys H'=>m=n-i/\i<=n/\Y2Y i/\Y0p=Y0f/\Pv D i ys H') (Y6C n (by simp) (dH _) bK (h0 D _ d bK (aX.upd d)));rintro i m ys H2 ⟨rfl,s,h,a,p⟩;refine Y0b a;by_cases hlt:i<n
 ·obtain⟨j,r⟩:=hg D i ys H2 hlt a p;refine Y2j j (Yeo Oo Dd) (λx H3 c=>?_);obtain⟨rfl,l⟩:=r x H3 c;refine Y08 (λb H4=>b=true/\H4=H3) Y6k;rintro b H4 ⟨rfl,rfl⟩;rw[Y12];refine Y08 _ (hs D i x ys H4 l hlt h a p);rintro v H5 ⟨g,k⟩;exact⟨g,n-(i+1),Oo,rfl,hlt,by rw[bF,h];rfl,bK,k _ bK aT.self⟩
 ·have e:i=n:=Oo;subst e;exact Y3p (hst D ys H2 a p) (hd D ys H2 h d a p)
end
@[irreducible] def OV(b:Bool):R2:=λx y H Q=>∃d d',Y3g x/\Y0x d' y/\Y4I d/\Y4I d'/\Y1s (b == YcL d')
section
variable{X:Cx}
def DZ(hu:Y4E 64<cLine):Y2d .Eq (OV true):=by
 unfold OV;intro a s σ H x y v u Q I n m h;obtain⟨d,p,j,l,g,e,q⟩:=h;obtain⟨r,c⟩:=j.reads I n;obtain⟨bs,i⟩:=l.reads I m;exact SeqAt.compareEq_shaped c i g e hu ⟨.bl _,H,I,by show _=_;simp,q⟩
def tX(hu:Y4E 64<cLine):Y2d .NotEq (OV false):=by
 unfold OV;intro a s σ H x y v u Q I n m h;obtain⟨d,p,j,l,g,e,q⟩:=h;obtain⟨r,c⟩:=j.reads I n;obtain⟨bs,i⟩:=l.reads I m;exact SeqAt.compareNe_shaped c i g e hu ⟨.bl _,H,I,by show _=_;simp,q⟩
def VT{b:Bool}{x y:V}{d d':PyData}{H:Hp}{Q:VK}(h1:Y3g x)(h2:Y0x d' y)(s1:Y4I d)(s2:Y4I d')(q:Y1s (b == YcL d')):OV b x y H Q:=by
 unfold OV;exact⟨d,d',h1,h2,s1,s2,q⟩
end
mutual
theorem oM:∀d:PyData,Yq d.hasDict->YcL d=true
 | .none,_=>by simp[PyData.eqv]
 | .bool _,_=>by simp[PyData.eqv]
 | .int _,_=>by simp[PyData.eqv]
 | .str _,_=>by simp[PyData.eqv]
 | .list xs,h=>by simp only[PyData.eqv];exact sL xs (by simpa[PyData.hasDict]using h)
 | .tuple xs,h=>by simp only[PyData.eqv];exact sL xs (by simpa[PyData.hasDict]using h)
 | .dict _,h=>by simp[PyData.hasDict]at h
theorem sL:∀ds:List PyData,Yfr ds->PyData.eqvAll ds ds=true
 | [],_=>by simp[PyData.eqvAll]
 | d::ds,h=>by
  simp only[PyData.hasDictAll,Bool.or_eq_false_iff]at h;simp only[PyData.eqvAll,oM d h.1,sL ds h.2,Bool.and_self]
end
mutual
def dQ:Y2a PyData
 | .list _=>false
 | .dict _=>false
 | .tuple ds=>gF ds
 | _=>true
def gF:Y2a Y0D
 | []=>true
 | d::ds=>dQ d&&gF ds
end
def dG(H H':Hp):Prop:=∀b xs,H b=Y0k->Y1E=Y0k
def dG.trans{H H1 H2:Hp}(a:dG H H1)(b:Y3e):dG H H2:=λc o h=>b c o (a c o h)
def aX.t{H H':Hp}(s:Y0):Y4n:=λb a h=>s _ _ h
def aT.t{H H':Hp}{p:Addr}(s:Y0l){xs:An}(hp:H p=Y0o):Y4n:=λb a h=>s.at (BX h hp (by intro z;cases z)) h
mutual
theorem bI.flat{H H':Hp}(s:Y4n):∀{d:PyData}{v:V},dQ d=true->Y3g v->Y2E d
 | .none,_,_,h=>h
 | .bool _,_,_,h=>h
 | .int _,_,_,h=>h
 | .str _,_,_,h=>h
 | .list _,_,f,_=>by simp[dQ]at f
 | .dict _,_,f,_=>by simp[dQ]at f
 | .tuple ds,_,f,h=>by
  unfold bI at h ⊢;obtain⟨a,ys,rfl,h1,h2⟩:=h;exact⟨a,ys,rfl,s _ _ h1,aH.flat s (by simpa[dQ]using f) h2⟩
theorem aH.flat{H H':Hp}(s:Y4n):∀{ds:Y0D}{vs:An},gF ds=true->Y6t->Y1m ds vs
 | [],_,_,h=>h
 | d::ds,_,f,h=>by
  unfold aH at h ⊢;obtain⟨x,ys,rfl,h1,h2⟩:=h;simp only[gF,cJ]at f;exact⟨x,ys,rfl,bI.flat s f.1 h1,aH.flat s f.2 h2⟩
end
theorem aH.get{H:Hp}:∀{ds:Y0D}{vs:An}{i:Nat}{v:V},Y6t->vs[i]?=Yi->∃d,ds[i]?=Y4U/\Y3g v
 | [],_,i,v,h,e=>by cases(show _=[]from h);simp at e
 | d::ds,_,i,v,h,e=>by
  unfold aH at h;obtain⟨x,ys,rfl,h1,h2⟩:=h;cases i with
  | zero=>simp at e;subst e;exact⟨d,rfl,h1⟩
  | succ i =>
   rw[List.getElem?_cons_succ]at e ⊢;exact aH.get h2 e
theorem aH.get'{H:Hp}:∀{ds:Y0D}{vs:An}{i:Nat}{d:PyData},Y6t->ds[i]?=Y4U->∃v,vs[i]?=Yi/\Y3g v
 | [],_,i,d,h,e=>by simp at e
 | d' :: ds,_,i,d,h,e=>by
  unfold aH at h;obtain⟨x,ys,rfl,h1,h2⟩:=h;cases i with
  | zero=>simp at e;subst e;exact⟨x,rfl,h1⟩
  | succ i =>
   rw[List.getElem?_cons_succ]at e ⊢;exact aH.get' h2 e
def aH.snoc{H:Hp}{ds:Y0D}{vs:An}{d:PyData}{v:V}(h:Y6t)(r:Y3g v):Y18 (ds++[d]) (vs++[v]):=aH.append (Y3U r) h
def KI{i:Int}{n:Nat}(h:i.natAbs<2^n):bits i<=n:=PySem.intBits_le_iff.mpr h
def qU{i j:Int}{n m:Nat}(h1:i.natAbs<2^n)(h2:j.natAbs<2^m)(hn:n<=1048576:=by decide)(hm:m<=1048576:=by decide):IntMulOk i j:=by
 refine IntMulOk.of_bits ?_ ?_
 ·exact aP (KI h1) hn
 ·exact aP (KI h2) hm
section
variable{X:Cx}(K:Aa)
def gU(h:X.K=K:=by rfl):VO X (rIx K):=by subst h;exact aN
end
end L2
namespace L2
open PySem
def qB(b:Bool)(h:Heap)(i l:Addr)(k:Nat):Prop:=∃o,h.get? i=Y7/\o.cls=.type (bif b then "tuple_iterator" else "list_iterator")/\o.data=.fields #[Y1k,.int k 0]
def mI(b:Bool)(h:Heap)(l:Addr)(xs:Aj):Prop:=∃o,h.get? l=Y7/\o.cls=.type (bif b then "tuple" else "list")/\∃n,o.data=.seq xs n
def qB.at{b:Bool}{h h':Heap}{i l:Addr}{k:Nat}(x:qB b h i l k)(f:∀o,h.get? i=Y7->Y3A i):qB b h' i l k:=let ⟨o,ho,r⟩:=x;Y0U (f o ho) r
def mI.at{b:Bool}{h h':Heap}{l:Addr}{xs:Aj}(x:mI b h l xs)(f:∀o,h.get? l=Y7->Y3A l):mI b h' l xs:=let ⟨o,ho,r⟩:=x;Y0U (f o ho) r
section
variable{prog:Program}{w:World}{A:Around}{E:Y5}{s:Shared}
def yN{b:Bool}{it l:Addr}{i:Nat}{items:Aj}{x:Value}{Q:Y5}(hit:qB b s.heap it l i)(hl:Y1U b l items)(hx:items[i]?=Y8)
  (hQ:∀h',qB b h' it l (i+1)->Y9z it h'->Q x { s with heap:=h' }):Y0V (YaI it):=by
 cases b with
 | false=>exact wpAny_nextOf_list_item hit hl hx hQ
 | true =>
  have ty:Yc7 l i:=hit;obtain⟨o,a,e,hd⟩:=id ty;obtain⟨g,d,_,h,c⟩:=hl;unfold Builtin.SmallTypes.nextOf;refine wpAny_bind (Y8E "__next__" ty.typeIs F.slot_tuple_iterator_next F.slot_tuple_iterator_next ty.typeIs F.entry_tuple_iterator_next ?_ (F.args_tuple_iterator_next_1 _));show Y3i (Y5j it 0 >>= _);refine wpAny_bind (wpAny_field a hd (x:=Y1k) rfl ?_);show Y3i (if(Value.ref l == Value.none)=true then _ else _);rw[if_neg (show ¬((Value.ref l == Value.none)=true)from cH)];show Y3i (Y5j it 1 >>= _);refine wpAny_bind (wpAny_field a hd (x:=.int i 0) rfl ?_);show Y3i (seqItems? (Y1k) >>= _);refine Y7l d c ?_;simp only[Int.toNat_natCast,hx];refine Ydo a hd (by simp) (wpAny_pure (Y0K x (wpAny_pure (hQ _ ?_ (Heap.SameBut.update ..)))));refine⟨_,YaH _ a (Yfp _),(Obj.cls_mapFields ..).trans e,?_⟩;rw[Obj.data_mapFields hd];simp[rawInt]
def JT{b:Bool}{it l:Addr}{i:Nat}{items:Aj}{Q:Y5}(hh:Y4H)(hit:qB b s.heap it l i)(hl:Y1U b l items)(hx:items[i]?=none)
  (hE:∀h' e,Ye3 it h'->(∃o,Y3A e/\o.cls=.type "StopIteration")->E (Y35) { s with heap:=h' }):Y0V (YaI it):=by
 cases b with
 | false=>exact wpAny_nextOf_list_end hh hit hl hx hE
 | true =>
  have ty:Yc7 l i:=hit;obtain⟨o,d,j,hd⟩:=id ty;obtain⟨h,g,_,n,c⟩:=hl;unfold Builtin.SmallTypes.nextOf;refine wpAny_bind (Y8E "__next__" ty.typeIs F.slot_tuple_iterator_next F.slot_tuple_iterator_next ty.typeIs F.entry_tuple_iterator_next ?_ (F.args_tuple_iterator_next_1 _));show Y3i (Y5j it 0 >>= _);refine wpAny_bind (wpAny_field d hd (x:=Y1k) rfl ?_);show Y3i (if(Value.ref l == Value.none)=true then _ else _);rw[if_neg (show ¬((Value.ref l == Value.none)=true)from cH)];show Y3i (Y5j it 1 >>= _);refine wpAny_bind (wpAny_field d hd (x:=.int i 0) rfl ?_);show Y3i (seqItems? (Y1k) >>= _);refine Y7l g c ?_;simp only[Int.toNat_natCast,hx];refine Y9t (Ydo d hd (by simp) ?_);show Y0W (newExc (.type "StopIteration") [] >>= _);refine Y3V;simp only[newExc,newTuple];refine wpAny_bind (YdI (by size_fits));refine wpAny_bind (m:=firstArgMember _ _) (wpAny_of_eq (a:=Value.none) (by first | rfl | (simp only[firstArgMember];rfl)) ?_);refine YdI (by size_fits);simp only[raiseNew];refine wpAny_bind (wpAny_handled ?_)
  first | rw[show A.in1.handled=none from hh] | rw[hh]
  refine Y2r (wpAny_throw ?_);exact hE _ _ (((Heap.SameBut.update ..).extBut.push _).push _) (Y0m Y17)
structure ZAt(b1 b2:Bool)(z TI TO i1 i2 l1 l2:Addr)(f:Value)(k:Nat)(h:Heap):Prop where
 z:IsZip h z TI TO f
 ti:IsPair h TI (.ref i1) (.ref i2)
 to:∃a b,IsPair h TO a b
 i1:qB b1 h i1 l1 k
 i2:qB b2 h i2 l2 k
def OG{b1 b2:Bool}{z TI TO i1 i2 l1 l2:Addr}{k:Nat}{xs ys:Aj}{x y:Value}{Q:Y5}(D:ZipApart z TI TO i1 i2 l1 l2)(Z:ZAt b1 b2 z TI TO i1 i2 l1 l2 .none k s.heap)
  (hl1:Y1U b1 l1 xs) (hl2:Y1U b2 l2 ys) (hx:Y2F k=Y8) (hy:ys[k]?=Y0j)
  (hQ:∀h',ZAt b1 b2 z TI TO i1 i2 l1 l2 (rawInt s.heap.objs.size) (k+1) h'->IsPair h' s.heap.objs.size x y->(∀c o,c≠z->c≠TO->c≠i1->c≠i2->Y4j->Y3A c)->YaQ ({ s with heap:=h' })) :
  wpAny (model prog w) A (Builtin.«zip.__next__» ⟨Y3F z,[]⟩) (λfin s'=>∃v,fin=YcI v/\Q v s') E s:=by
 obtain⟨T,W,⟨a,b,ι⟩,ξ,τ⟩:=Z;show Y0W (Y5j z 2 >>= _);refine Y6x T (.bool false);show Y0W (Y5j z 3 >>= _);refine Y6x T (.ref TI);refine Y7l W rfl ?_;show Y0W (YeX z >>= _);refine Y3V;unfold Builtin.SmallTypes.ownedTupleIsFree;refine wpAny_bind (wpAny_field T rfl (x:=.none) rfl Y1F);simp only[if_true];refine Y9t ?_;refine Y6x T (.ref TO);refine Y9o T (by simp) (λφ n S=>?_);have u:=S.extBut;replace n:Ybc φ z TI TO:=n;refine Y3V;simp only[List.zipIdx_cons,List.zipIdx_nil,List.forIn_cons,List.forIn_nil];refine YdO ?_;show Y0W (YaI i1 >>= _);refine YeI (ξ.at λo e=>u _ o D.i1z e) (hl1.at λo e=>u _ o D.l1z e) hx (λν ε O=>Y1F);have I:=O.extBut;have m:IsPair ν TO a b:=I _ _ D.TOi1 (u _ _ D.TOz ι);refine Y7l m rfl ?_;refine Yf0 m (λρ h P=>?_);have N:=P.extBut;replace h:IsPair ρ TO x b:=h;refine Ydp Y1F;refine YdO ?_;show Y0W (YaI i2 >>= _)
 refine YeI (τ.at λo e=>N _ o D.TOi2.symm (I _ o D.i12.symm (u _ o D.i2z e))) (hl2.at λo e=>N _ o D.l2TO (I _ o D.l2i1 (u _ o D.l2z e))) hy (λυ κ M=>Y1F);have α:=M.extBut;have j:IsPair υ TO x b:=α _ _ D.TOi2 h;refine Y7l j rfl ?_;refine Yf0 j (λg d B=>?_);have γ:=B.extBut;replace d:IsPair g TO x y:=d;refine Ydp (wpAny_pure (Y1F));refine Y7l d rfl ?_;refine wpAny_bind (wpAny_newTuple ?_);have L:g.objs.size=s.heap.objs.size:=by rw[B.1,M.1,P.1,O.1,S.1]
 have U:Ybc g z TI TO:=γ _ _ D.TOz.symm (α _ _ D.i2z.symm (N _ _ D.TOz.symm (I _ _ D.i1z.symm n)));have J:∀c o,c≠z->c≠TO->c≠i1->c≠i2->Y4j->g.get? c=Y7:=λc o p β ζ δ e=>γ _ _ β (α _ _ δ (N _ _ β (I _ _ ζ (u _ _ p e))));have μ:qB b1 g i1 l1 (k+1):=ε.at λo e=>γ _ o D.TOi1.symm (α _ o D.i12 (N _ o D.TOi1.symm e));have η:qB b2 g i2 l2 (k+1):=κ.at λo e=>γ _ o D.TOi2.symm e;have l:=aY U;show Y0W (Builtin.SmallTypes.ownedTupleHandOut (.ref z) (.ref g.objs.size) >>= _);refine Y3V;unfold Builtin.SmallTypes.ownedTupleHandOut;have θ:Ybc (g.push { cls:=.type "tuple",data:=.seq #[x,y] }) z TI TO:=Y0h U;refine Y9o θ (by simp) (λο r G=>?_);replace r:IsZip ο z TI TO (rawInt g.objs.size):=r;refine wpAny_setField_rec r (by simp) λX i C=>?_;replace i:IsZip X z TI TO (rawInt g.objs.size):=i;have up:∀c o,c≠z->g.get? c=Y7->X.get? c=Y7:=λc o p e=>C.extBut _ _ p (G.extBut _ _ p (Y0h e));have R:IsPair X g.objs.size x y:=C.extBut _ _ (Nat.ne_of_gt l) (G.extBut _ _ (Nat.ne_of_gt l) (Y17));rw[L]at i R;refine wpAny_pure Y4;show Y10 g.objs.size _;rw[L]
 exact hQ X ⟨i,up _ _ D.TIz (J _ _ D.TIz D.TITO D.TIi1 D.TIi2 W),Y1x _ (up _ _ D.TOz d),μ.at λo e=>up _ o D.i1z e,η.at λo e=>up _ o D.i2z e⟩ R λc o p β ζ δ e=>up c o p (J c o p β ζ δ e)
def QT{b1 b2:Bool}{z TI TO i1 i2 l1 l2:Addr}{k:Nat}{xs ys:Aj}{Q:Y26 Fin}(hh:Y4H)(D:ZipApart z TI TO i1 i2 l1 l2)(Z:ZAt b1 b2 z TI TO i1 i2 l1 l2 .none k s.heap)
  (hl1:Y1U b1 l1 xs) (hl2:Y1U b2 l2 ys) (hend:Y2F k=none\/ys[k]?=none)
  (hE:∀h' e,(∀c o,c≠z->c≠TO->c≠i1->c≠i2->Y4j->Y3A c)->(∃o,Y3A e/\o.cls=.type "StopIteration")->E (Y35) { s with heap:=h' }) :
  Y0V (Builtin.«zip.__next__» ⟨Y3F z,[]⟩):=by
 obtain⟨I,S,⟨a,b,P⟩,U,γ⟩:=Z;show Y0W (Y5j z 2 >>= _);refine Y6x I (.bool false);show Y0W (Y5j z 3 >>= _);refine Y6x I (.ref TI);refine Y7l S rfl ?_;show Y0W (YeX z >>= _);refine Y3V;unfold Builtin.SmallTypes.ownedTupleIsFree;refine wpAny_bind (wpAny_field I rfl (x:=.none) rfl Y1F);simp only[if_true];refine Y9t ?_;refine Y6x I (.ref TO);refine Y9o I (by simp) (λζ i R=>?_);have m:=R.extBut;replace i:Ybc ζ z TI TO:=i;refine Y3V;simp only[List.zipIdx_cons,List.zipIdx_nil,List.forIn_cons,List.forIn_nil];refine YdO ?_;show Y0W (YaI i1 >>= _);cases hx:Y2F k with
 | none =>
  refine wpAny_bind (JT hh (U.at λo e=>m _ o D.i1z e) (hl1.at λo e=>m _ o D.l1z e) hx λN e j L=>?_);obtain⟨O,d,g⟩:=L;have C:Ybc N z TI TO:=j _ _ D.i1z.symm i;have p:e≠z:=λx=>by subst x;rw[C]at d;cases d;simp at g
  exact wpAny_setField_rec C (by simp) λW _ l=>hE W e (λc o G _ M _ x=>Y8Z _ G (j _ _ M (m _ _ G x))) ⟨O,Y8Z _ p d,g⟩
 | some x =>
  have η:ys[k]?=none:=by
   rcases hend with h | h
   ·rw[hx]at h;cases h
   ·exact h
  refine YeI (U.at λo e=>m _ o D.i1z e) (hl1.at λo e=>m _ o D.l1z e) hx (λN α j=>Y1F);have u:=j.extBut;have n:IsPair N TO a b:=u _ _ D.TOi1 (m _ _ D.TOz P);refine Y7l n rfl ?_;refine Yf0 n (λW T l=>?_);have J:=l.extBut;refine Ydp Y1F;refine YdO ?_;show Y0W (YaI i2 >>= _);refine wpAny_bind (JT hh (γ.at λo e=>J _ o D.TOi2.symm (u _ o D.i12.symm (m _ o D.i2z e))) (hl2.at λo e=>J _ o D.l2TO (u _ o D.l2i1 (m _ o D.l2z e))) η λε e B L=>?_);obtain⟨O,d,g⟩:=L;have y:Ybc ε z TI TO:=B _ _ D.i2z.symm (J _ _ D.TOz.symm (u _ _ D.i1z.symm i));have p:e≠z:=λx=>by subst x;rw[y]at d;cases d;simp at g
  exact wpAny_setField_rec y (by simp) λβ _ r=>hE β e (λc o G δ M X x=>r.extBut _ _ G (B _ _ X (J _ _ δ (u _ _ M (m _ _ G x))))) ⟨O,r.extBut _ _ p d,g⟩
def OF{b1 b2:Bool}{z TI TO i1 i2 l1 l2:Addr}{k:Nat}{xs ys:Aj}{x y:Value}{Q:YaD}(D:ZipApart z TI TO i1 i2 l1 l2)(Z:ZAt b1 b2 z TI TO i1 i2 l1 l2 .none k s.heap)
  (hl1:Y1U b1 l1 xs) (hl2:Y1U b2 l2 ys) (hx:Y2F k=Y8) (hy:ys[k]?=Y0j)
  (hQ:∀h',ZAt b1 b2 z TI TO i1 i2 l1 l2 (rawInt s.heap.objs.size) (k+1) h'->IsPair h' s.heap.objs.size x y->(∀c o,c≠z->c≠TO->c≠i1->c≠i2->Y4j->Y3A c)->Q (Y2 s.heap.objs.size) { s with heap:=h' }) :
  YbA z:=by
 have a:Y8C z "zip" := Y0m Z.z;unfold pyNext;refine Y9p (Y8E "__next__" a F.slot_zip_next F.slot_zip_next a F.entry_zip_next ?_ (F.args_zip_next_1 _));exact OG D Z hl1 hl2 hx hy λh' d e g=>wpAny_pure (hQ h' d e g)
def OE{b1 b2:Bool}{z TI TO i1 i2 l1 l2:Addr}{k:Nat}{xs ys:Aj}{Q:YaD}(hh:Y4H)(D:ZipApart z TI TO i1 i2 l1 l2)(Z:ZAt b1 b2 z TI TO i1 i2 l1 l2 .none k s.heap)
  (hl1:Y1U b1 l1 xs) (hl2:Y1U b2 l2 ys) (hend:Y2F k=none\/ys[k]?=none)
  (hQ:∀h',(∀c o,c≠z->c≠TO->c≠i1->c≠i2->Y4j->Y3A c)->Q none { s with heap:=h' }):YbA z:=by
 have a:Y8C z "zip" := Y0m Z.z;unfold pyNext;refine Y9p (Y8E "__next__" a F.slot_zip_next F.slot_zip_next a F.entry_zip_next ?_ (F.args_zip_next_1 _));refine QT hh D Z hl1 hl2 hend λh' e i h=>?_;obtain⟨o,d,g⟩:=h;refine wpAny_bind (YeY "StopIteration" true (Y0U d g) ?_);exact wpAny_pure (hQ _ i)
abbrev VW(b:Bool)(l:Addr):Obj:={ cls:=.type (bif b then "tuple_iterator" else "list_iterator"),data:=.fields #[.ref l,.int 0 0] }
def MY{b:Bool}{l:Addr}{xs:Aj}{Q:Y5}(h:Y1U b l xs)(q:YaQ ({ s with heap:=s.heap.push (VW b l) })):Y0V (pyIter (Y1k)):=by
 cases b with
 | false=>exact wpAny_pyIter_list h q
 | true=>exact wpAny_pyIter_tuple h q
end
end L2
namespace L2
open PySem PySem.Spec PyProof.Rows
section
variable{X:Cx}{pins:Ae}{σ:St}{H:Hp}{s:Shared}{h':Heap}
def cL.turnedL{t':Nat}{fp:Y0t}(I:Y1)(k:Y0I (b ∉ fp) (Y32->Y0n=Y7))(hf:∀b∈fp,Y3C X H b):Y5Q ({ s with heap:=h',toks:=t' }):=by
 have d:∀b u,H b=Yv->b ∉ fp:=λb u e z=>by rw[(hf b z).1]at e;cases e
 refine I.step (g':=s.gens) (d':=s.drawn) (ch:=fp) (λb i=>?_) (λb o _ _ a e _=>k b o a e) (λb o _ _ a e _=>⟨o.slots,k b o a e⟩) (λ_ _ _ _ n=>n)
  (λb o a e=>⟨o,k b o a e⟩) (Yb1) (λ_ _ _ e=>e) (λb A e=>⟨#[],by rw[e];simp⟩) (λm j=>?_) (λb u e=>?_) I.bare
 ·obtain⟨C,w,B,p,y,h⟩:=hf b i;exact⟨p,w,y,h⟩
 ·obtain⟨o,x,g,l,r⟩:=j;exact⟨o,x,g,k _ o (λz=>(hf _ z).2.1 rfl) l,r⟩
 ·refine(I.hok b u e).stay (λc v a q=>k c v ?_ q) (Ya9) Y5W;rcases a with z | z
  ·rw[z];exact d b u e
  ·exact d c _ z
def Un.putE{fs ex:Y0t}{H H1:Hp}{h h1:Heap}{a:Addr}{u:HO}(x:Un fs ex H H1 h h1)(ha:Y7U=none)(hn:H1 a=none):Un fs ex H (upd H1 a u) h h1 where
 keep:=x.keep
 slot:=x.slot
 free:=λb d e n m=>by rw[cP (λz=>by subst z;rw[ha]at e;cases e)];exact x.free b d e n m
 there:=x.there
 tups:=λb c e=>by rw[Y53 (x.tups b c e)];exact x.tups b c e
 frzs:=λb d c e=>by rw[Y53 (x.frzs b d c e)];exact x.frzs b d c e
 tbls:=λb g e=>by
  obtain⟨m,q⟩:=x.tbls b g e;exact⟨m,by rw[Y53 q];exact q⟩
def nC.putE{P:Program}{w:World}{h:Heap}{a:Addr}{u:HO}(x:Y2q)(hn:H a=none)(new:eU P w (Y1n u) h a u):nC P w (Y1n u) h:=λb v e=>by
 by_cases hb:b=a
 ·subst hb;rw[bK]at e;cases e;exact new
 ·rw[cP hb]at e;exact(x b v e).stay (λc q _ r=>r) (λc q=>by rw[Y53 q];exact q) λc d q=>by rw[Y53 q];exact q
def cL.put{a:Addr}{o:HO}(I:Y1)(f:Y3C X H a)(hs:Yef a none)(new:eU X.prog X.w (Y1n o) s.heap a o):Y1Q (Y1n o) s :=
 ⟨I.ok,I.os,I.bare,I.base.putE hs f.1,I.loc,I.cell,by rw[cP (Ne.symm f.2.1)];exact I.free,λx c e=>by rw[cP (f.2.2.2.2.1 x c e)];exact YbO x e,λp d=>by
  obtain⟨h,g,i⟩:=Y6m d;exact⟨h,by rw[cP (f.2.2.2.2.2 p d)];exact g,i⟩,nC.putE I.hok f.1 new,I.len⟩
def xZ(b:Bool)(xs:An):HO:=bif b then .tup xs else .lst xs
def xZ.inj{b:Bool}{xs ys:An}(h:Y52 b=Y8u b ys):xs=ys:=by
 cases b <;> (injection h with h;injection h)
def cL.sq{b:Bool}{a:Addr}{xs:An}(I:Y1)(h:H a=Y52 b):∃its:Ah,dO xs its/\Y1U b a its.toArray:=by
 cases b with
 | false=>obtain⟨its,r,p,_⟩:=I.list (Y9b);exact⟨its,r,p.isList⟩
 | true=>obtain⟨its,r,p,_⟩:=Yb4 h;exact⟨its,r,p⟩
end
def Itz(b1 b2:Bool)(l1 l2:Addr):It :=
  ⟨λi H=>∃xs ys x y,H l1=Y52 b1/\H l2=Y8u b2 ys/\Y0Y=Y8/\Y1t=Y0j,
   λi H v H'=>∃q x y,v=.ref q/\H q=none/\H'=Y8T q [x,y]/\∀xs ys,H l1=Y52 b1->H l2=Y8u b2 ys->Y0Y=Y8/\Y1t=Y0j,
   λi H=>∃xs ys,H l1=Y52 b1/\H l2=Y8u b2 ys/\(Y5Z i\/ys.length<=i)⟩
structure ZD(z TI TO i1 i2:Addr):Prop where
 TIz:TI≠z
 TOz:TO≠z
 i1z:i1≠z
 i2z:i2≠z
 TITO:TI≠TO
 TIi1:TI≠i1
 TIi2:TI≠i2
 TOi1:TO≠i1
 TOi2:TO≠i2
 i12:i1≠i2
def ZD.seq(n:Nat):ZD (n+4) (n+2) (n+3) n (n+1) where
 TIz:=Y6v (show(n+2:Nat)=n+4 from h)
 TOz:=Y6v (show(n+3:Nat)=n+4 from h)
 i1z:=Y6v (show(n:Nat)=n+4 from h)
 i2z:=Y6v (show(n+1:Nat)=n+4 from h)
 TITO:=Y6v (show(n+2:Nat)=n+3 from h)
 TIi1:=Y6v (show(n+2:Nat)=n from h)
 TIi2:=Y6v (show(n+2:Nat)=n+1 from h)
 TOi1:=Y6v (show(n+3:Nat)=n from h)
 TOi2:=Y6v (show(n+3:Nat)=n+1 from h)
 i12:=Y6v (show(n:Nat)=n+1 from h)
def ZD.all{z TI TO i1 i2 l1 l2:Addr}(d:ZD z TI TO i1 i2){H:Hp}{o1 o2:HO}(e1:H l1=some o1)(e2:H l2=some o2)(h:∀b∈[z,TI,TO,i1,i2],H b=none):ZipApart z TI TO i1 i2 l1 l2 :=
 ⟨d.TIz,d.TOz,d.i1z,d.i2z,d.TITO,d.TIi1,d.TIi2,d.TOi1,d.TOi2,d.i12,cV e1 (h _ (by simp)),cV e1 (h _ (by simp)),cV e1 (h _ (by simp)),cV e1 (h _ (by simp)),cV e2 (h _ (by simp)),cV e2 (h _ (by simp)),cV e2 (h _ (by simp)),cV e2 (h _ (by simp))⟩
def RJ{P:Program}{w:World}{K:Aa}{elts:Y04}{x1}{tp:Pos}{b1 b2:Bool}{z TI TO i1 i2 l1 l2:Addr}(d:ZD z TI TO i1 i2):IJ P w K (Ya2 x1 tp) (Itz b1 b2 l1 l2) [z,TI,TO,i1,i2] z (λi h=>ZAt b1 b2 z TI TO i1 i2 l1 l2 .none i h) where
 mem:=by simp
 obj:=λi h j b g=>by
  obtain⟨a,b',u⟩:=j.to;obtain⟨τ,p,_,d1⟩:=j.i1;obtain⟨ψ,n,_,d2⟩:=j.i2;simp only[bD,List.not_mem_nil,or_false]at g;rcases g with rfl | rfl | rfl | rfl | rfl
  ·exact Yaw j.z (by cases q)
  ·exact Yaw j.ti (by cases q)
  ·exact Yaw u (by cases q)
  ·exact Yaw p (by rw[d1]at q;cases q)
  ·exact Yaw n (by rw[d2]at q;cases q)
 keep:=λi h κ j k=>by
  obtain⟨a,b,u⟩:=j.to;exact⟨k _ (by simp) _ j.z,k _ (by simp) _ j.ti,Y5d b (k _ (by simp) _ u),j.i1.at λo e=>k _ (by simp) o e,j.i2.at λo e=>k _ (by simp) o e⟩
 item:=by
  intro X N O α μ i m s σ H E I r j J;subst N O α;obtain⟨ρ,ys,x,y,p,n,ι,ξ⟩:=J;obtain⟨u1,S,B⟩:=I.sq p;obtain⟨ο,L,R⟩:=I.sq n;obtain⟨γ,M,χ⟩:=S.get ι;obtain⟨ν,C,υ⟩:=L.get ξ;have D:=d.all p n λb g=>(r b g).1;refine OF D j B R (x:=γ) (y:=ν) (by simpa using M) (by simpa using C) λκ Z' θ U=>Y6 (wpAny_letOwnedTupleGo_zip Z'.z λζ G l=>?_);have ω:Y0I (b ∉ [z,TI,TO,i1,i2]) (Y32->ζ.get? b=Y7):=λb o g e=>by
   simp only[bD,List.not_mem_nil,or_false,not_or]at g;exact l.extBut b o g.1 (U b o g.1 g.2.2.1 g.2.2.2.1 g.2.2.2.2 e)
  have I1:Y1D m H ({ s with heap:=ζ }):=Yfo ω r;have fq:qD X m H s.heap.objs.size:=I.fpOk (Yn) (Y4u _);have e0:Ydj=none:=by
   cases q:Ydj with
   | none=>rfl
   | some o=>exact absurd (aS (aY q) I.sz) (cY _)
  have δ:YdS z:=λq=>absurd (aY j.z) (by rw[<-q];exact cY _);obtain⟨a,b,u⟩:=Z'.to;refine⟨Y24,Yc9 (.tup [x,y]),I1.put fq e0 ⟨⟨oX (by show 2<=64;decide),_,Y8Z _ δ θ,rfl⟩,[γ,ν],.cons χ (Ya6 υ),Y1C (Y8Z _ δ θ) _ rfl⟩,rfl,Y2T _ x y fq.1 rfl (λxs' φ ε η=>?_),
   ⟨G,Y8Z _ d.TIz Z'.ti,Y5d b (Y8Z _ d.TOz u),Z'.i1.at λo e=>Y8Z o d.i1z e,Z'.i2.at λo e=>Y8Z o d.i2z e⟩,λb g=>?_⟩
  ·rw[p]at ε;rw[n]at η;rw[<-xZ.inj ε,<-xZ.inj η];exact⟨ι,ξ⟩
  ·have nb:YaU b:=λq=>by
    obtain⟨a',b',Z⟩:=j.to;obtain⟨τ,β,_⟩:=j.i1;obtain⟨ψ,T,_⟩:=j.i2;have lt:∀{c o},Y4j->YaU c:=λe=>cK (aY e);simp only[bD,List.not_mem_nil,or_false]at g;rcases g with rfl | rfl | rfl | rfl | rfl
    ·exact lt j.z q
    ·exact lt j.ti q
    ·exact lt Z q
    ·exact lt β q
    ·exact lt T q
   rw[cP nb];exact(r b g).1
 done:=by
  intro X N O α μ i m s σ H E I r j J;subst N O α;obtain⟨ρ,ys,p,n,hl⟩:=J;obtain⟨u1,S,B⟩:=I.sq p;obtain⟨ο,L,R⟩:=I.sq n;have D:=d.all p n λb g=>(r b g).1;have l1:=S.length;have l2:=L.length;have A:u1.toArray[i]?=none\/ο.toArray[i]?=none:=by
   rcases hl with h | h
   ·left;simp;exact Oo
   ·right;simp;exact Oo
  refine OE (I.ok.hd μ) D j B R A λκ U=>Y1b (Yfo (λb o g e=>?_) r);simp only[bD,List.not_mem_nil,or_false,not_or]at g;exact U b o g.1 g.2.2.1 g.2.2.2.1 g.2.2.2.2 e
 self:=λ_ _ _ _ _ j h=>wpAny_pyIter_zip j.z h
abbrev zA(b:Bool)(h:Heap)(l:Addr):Heap:=h.push (VW b l)
abbrev zB(b1 b2:Bool)(h:Heap)(l1 l2:Addr):Heap:=(zA b1 h l1).push (VW b2 l2)
abbrev zC(b1 b2:Bool)(h:Heap)(l1 l2:Addr):Heap:=(zB b1 b2 h l1 l2).push { cls:=.type "tuple",data:=.seq #[.ref h.objs.size,.ref (zA b1 h l1).objs.size] }
abbrev zE(b1 b2:Bool)(h:Heap)(l1 l2:Addr):Heap:=(zC b1 b2 h l1 l2).push { cls:=.type "tuple",data:=.seq #[.none,.none] }
abbrev zF(b1 b2:Bool)(h:Heap)(l1 l2:Addr):Heap:=(zE b1 b2 h l1 l2).push { cls:=.type "zip",data:=.fields #[.none,.bool false,.bool false,.ref (zB b1 b2 h l1 l2).objs.size,.ref (zC b1 b2 h l1 l2).objs.size] }
def aCs(b1 b2:Bool)(l1 l2:Addr)(xs ys:Aj):Yb8 (Builtin.«zip.__new__» ⟨[.type "zip",.ref l1,.ref l2],[]⟩) (Y1U b1 l1 xs/\Y1U b2 l2 ys/\R (Yc1 (.ref (zE b1 b2 s.heap l1 l2).objs.size)) ({ s with heap:=zF b1 b2 s.heap l1 l2 })) :=
 .of_wp λp w A R s h=>by
  obtain⟨m,g,d,n,r⟩:=s;obtain⟨c,a,h⟩:=h;have l:=sub_zip;have i:mI b1 (Shared.heap ⟨m,g,d,n,r⟩) l1 xs:=c;have j:mI b2 (Shared.heap ⟨m.push (VW b1 l1),g,d,n,r⟩) l2 ys:=a.at λo e=>Y0h e
  wp_walk using MY i,MY j
  exact Y6 h
section
variable{prog:Program}{w:World}{A:Around}{E:Y5}{s:Shared}
def aDZ{b1 b2:Bool}{l1 l2:Addr}{xs ys:Aj}{Q:Y5}(hl1:Y1U b1 l1 xs)(hl2:Y1U b2 l2 ys)
  (h:∀h',ZAt b1 b2 (Y2h 4) (Y2h 2) (Y2h 3) s.heap.objs.size (Y2h 1) l1 l2 .none 0 h'->(∀c o,Y4j->Y3A c)->Y10 (Y2h 4) ({ s with heap:=h' })) :
  Y0V (call (.type "zip") [.ref l1,.ref l2]):=by
 refine callType_new F.called_zip Dd (F.typeCall_zip_2 _ _) (F.newCall_zip_2 _ _) (λi=>F.args_object_init_3 i _ _) F.entry_zip_new (aCs b1 b2 l1 l2 xs ys) (Y08 hl1 hl2);have e:(zA b1 s.heap l1).objs.size=Y2h 1:=mJ ..;have g:(zB b1 b2 s.heap l1 l2).objs.size=Y2h 2:=by rw[mJ,e]
 have a:(zC b1 b2 s.heap l1 l2).objs.size=Y2h 3:=by rw[mJ,g]
 have n:(zE b1 b2 s.heap l1 l2).objs.size=Y2h 4:=by rw[mJ,a]
 have d:(zF b1 b2 s.heap l1 l2).get? (zE b1 b2 s.heap l1 l2).objs.size=some _:=Y17;have m:(zF b1 b2 s.heap l1 l2).get? (zC b1 b2 s.heap l1 l2).objs.size=some _:=Y0h Y17;have l:(zF b1 b2 s.heap l1 l2).get? (zB b1 b2 s.heap l1 l2).objs.size=some _:=Y66 Y17;have j:(zF b1 b2 s.heap l1 l2).get? (zA b1 s.heap l1).objs.size=some _:=Y66 (Y0h Y17);have p:(zF b1 b2 s.heap l1 l2).get? s.heap.objs.size=some _:=Y66 (Y66 Y17);show _/\_;rw[g,a,n]at d;rw[e,g]at l;rw[a]at m;rw[e]at j;rw[n];exact⟨Y0m d,h _ ⟨d,l,Y1x _ m,Y6A _ p rfl,Y6A _ j rfl⟩ λc o x=>Y66 (Y66 (Y0h x))⟩
end
def aDP(b1 b2:Bool)(ta:TA):TI:=λσ H R=>ta σ H λvs H1=>∃l1 l2 xs ys,vs=[.ref l1,.ref l2]/\H1 l1=Y52 b1/\H1 l2=Y8u b2 ys/\R (Itz b1 b2 l1 l2) H1
def VD:YbZ "zip"=Ycj "zip":=Kk
section
variable{X:Cx}
def aCb{a b:Expr}{ta:TA}{p pos tp:Pos}{elts:Y04}{x1}{b1 b2:Bool}(hg:Gl X "zip")(hm:X.mg "zip" = none)(ha:PA X [a,b] ta)(hs:Y2f [a,b]=[(false,Y0d a),(false,Y0d b)])(hs2:Y3P b=[(false,Y0d b)]) :
  PI X (Ya2 x1 tp) (Y64 "zip" p [a,b] []) (aDP b1 b2 ta):=by
 intro g s σ H R I h;refine Call_ (qY I hg hm VD (YaJ (ha pos g s σ H _ I h) (λJ c ⟨B,H1,I1,x,n⟩=>?_) (by rw[hs,hs2]) (by rw[hs2];rfl)));obtain⟨A,G,y,L,e,w,l,q⟩:=n;subst e;cases x with
 | cons r rr =>
  cases rr with
  | cons r' rr =>
   cases rr;cases r;cases r';obtain⟨u1,_,m⟩:=I1.sq w;obtain⟨C,_,u⟩:=I1.sq l;refine aDZ m u λD Z j=>wpAny_pyIter_zip Z.z ?_;refine⟨_,[Ye8 4,Ye8 2,Ye8 3,c.heap.objs.size,Ye8 1],_,_,H1,rfl,I1.kept (t':=c.toks) j,RJ (ZD.seq _),Z,λb i=>?_,q⟩;have d:c.heap.objs.size<=b:=by
    simp only[bD,List.not_mem_nil,or_false]at i;rcases i with rfl | rfl | rfl | rfl | rfl
    ·exact Yci _
    ·exact Yci _
    ·exact Yci _
    ·exact Yn
    ·exact Yci _
   exact YaP d d
def yX(b1 b2:Bool){a b:Expr}{ta:TA}{p pos tp:Pos}{elts:Y04}{x1}(hg:Gl X "zip")(hm:X.mg "zip" = none)(ha:FK X [a,b] ta)(hs:Y2f [a,b]=[(false,Y0d a),(false,Y0d b)]:=by rfl)(hs2:Y3P b=[(false,Y0d b)]:=by first | exact nG | exact mO | exact gT | rfl) :
  KW X (Ya2 x1 tp) (Y64 "zip" p [a,b] []) (aDP b1 b2 ta):=⟨aCb hg hm ha.p hs hs2⟩
end
def NF{b1 b2:Bool}{l1 l2:Addr}{xs ys:An}{g:TG}{tb:TS}{D:oR}{σ:St}{H:Hp}(Pv:Nat->Y1w)(h0:Y6L 0)(hl:∀i σ H,Y2M->H l1=Y52 b1/\H l2=Y8u b2 ys)
  (hs:∀i x y q σ H H',Y0Y=Y8->Y1t=Y0j->Y2M->H q=none->H' q=Ym [x,y]->Y0->g (.ref q) σ H' (Y54 ({ D with nx:=Pv (i+1),ct:=Pv (i+1),bk:=D.nx }))) (hd:∀σ H,Y6L Ybd->Y3H) :
  ∃W:Nat->Nat->St->Hp->Prop,(Y7c 0 m σ H)/\∀i m σ H,W i m σ H ->
   ((Itz b1 b2 l1 l2).stop i H/\Y3H)\/((Itz b1 b2 l1 l2).go i H/\∃N:St->Hp->Prop,Yac (N σ' H'->∃m',m' < m/\W (i+1) m' σ' H') ((Itz b1 b2 l1 l2).yld i H x H'->g x σ H' (Y54 ({ D with nx:=N,ct:=N,bk:=D.nx })))):=by
 refine Ybe (m=Ybd-i/\i<=Ybd/\Y2M) (Y1L _ (dH _) h0);rintro i m σ H ⟨rfl,u,p⟩;obtain⟨a,c⟩:=hl i σ H p;by_cases hlt:i<Ybd
 ·have h:Y0Y=some xs[i]:=aD Oo;have r:Y1t=some ys[i]:=aD Oo;refine .inr ⟨⟨xs,ys,_,_,a,c,h,r⟩,Pv (i+1),λσ' H' j=>Y1C Oo hlt j,λv H' y=>?_⟩;obtain⟨q,x,y,rfl,d,rfl,s⟩:=y;obtain⟨l,n⟩:=s xs ys a c;exact hs i x y q σ H _ l n p d bK (aX.upd d)
 ·have e:i=Ybd:=Oo;subst e;refine Y3p ⟨xs,ys,a,c,?_⟩ (hd σ H p);exact Oo
end L2
namespace L2
open PySem
def rA:Ah->Y2a Ag
 | [],[]=>true
 | .int i _::vs,n::ns=>decide (i=n)&&rA vs ns
 | _,_=>false
def uC(K:Aa)(a:Addr)(ns:Ag):Bool :=
 match YcZ with
 | some o=>(match o.cls with | .type n=>n == "tuple" | _=>false)&&(match o.data with | .seq xs _=>decide (xs.size<=64)&&rA xs.toList ns | _=>false)
 | none=>false
theorem rA.vals:∀{vs:Ah}{ns:Ag},rA vs ns=true->dO (Y5S) vs
 | [],[],_=>.nil
 | v::vs,n::ns,h=>by
  cases v with
  | int i t =>
   have h':(decide (i=n)&&rA vs ns)=true:=h;rw[cJ]at h';have e:=of_decide_eq_true h'.1;subst e;exact .cons ⟨t,rfl⟩ (rA.vals h'.2)
  | _=>cases h
 | [],_::_,h=>by cases h
 | v::_,[],h=>by cases v <;> cases h
def uP{K:Aa}{H:Hp}{a:Addr}{ns:Ag}(h:uC K a ns=true):fY K H a (Y5S):=by
 unfold uC at h;split at h
 ·rename_i o ho
  rw[cJ]at h;obtain⟨d,c⟩:=h;split at d
  ·rename_i n hn
   split at c
   ·rename_i xs m hx
    rw[cJ]at c;have e:n = "tuple" := by simpa using d
    subst e;exact .inr ⟨o,xs,m,ho,hn,hx,oX (of_decide_eq_true c.1),rA.vals c.2⟩
   ·cases c
  ·cases d
 ·cases h
def fY.keep{K:Aa}{H H':Hp}{a:Addr}{xs:An}(s:Y0)(h:Y4q a):fY K H' a xs:=by
 rcases h with(h | ⟨o,h⟩) | h
 ·exact Y9U (s _ _ h)
 ·exact .inl (Y6P o (s _ _ h))
 ·exact .inr h
mutual
def qC(K:Aa)(H:Hp):Y0u PyData V
 | .none,v=>v=.non
 | .bool b,v=>v=.bl b
 | .int i,v=>v=.int i
 | .str x,v=>v=.str x
 | .list ds,v=>∃a xs,v=.ref a/\H a=some (.lst xs)/\lT K H ds xs
 | .tuple ds,v=>∃a xs,v=.ref a/\fY K H a xs/\lT K H ds xs
 | .dict kvs,v=>kvs=[]/\∃a,v=.ref a/\H a=some (.dK [])
def lT(K:Aa)(H:Hp):Y0u Y0D An
 | [],vs=>vs=[]
 | d::ds,vs=>∃x xs,vs=x::xs/\qC K H d x/\lT K H ds xs
end
mutual
theorem bI.k{K:Aa}{H:Hp}:∀{d:PyData}{v:V},Y3g v->qC K H d v
 | .none,_,h=>h
 | .bool _,_,h=>h
 | .int _,_,h=>h
 | .str _,_,h=>h
 | .list ds,_,h=>by
  unfold bI at h;unfold qC;obtain⟨a,xs,rfl,h1,h2⟩:=h;exact⟨a,xs,rfl,h1,aH.k h2⟩
 | .tuple ds,_,h=>by
  unfold bI at h;unfold qC;obtain⟨a,xs,rfl,h1,h2⟩:=h;exact⟨a,xs,rfl,fY.of h1,aH.k h2⟩
 | .dict kvs,_,h=>by unfold bI at h;unfold qC;exact h
theorem aH.k{K:Aa}{H:Hp}:∀{ds:Y0D}{vs:An},Y6t->lT K H ds vs
 | [],_,h=>h
 | d::ds,_,h=>by
  unfold aH at h;unfold lT;obtain⟨x,xs,rfl,h1,h2⟩:=h;exact⟨x,xs,rfl,bI.k h1,aH.k h2⟩
end
def qC.tup{K:Aa}{H:Hp}{a:Addr}{xs:An}{ds:Y0D}(h:Y4q a)(r:lT K H ds xs):qC K H (.tuple ds) (Y3):=by
 unfold qC;exact Y1d a xs h r
theorem lT.ints{K:Aa}{H:Hp}:∀ns:Ag,lT K H (YdV) (Y5S)
 | []=>by unfold lT;rfl
 | n::ns=>by unfold lT;exact⟨_,_,rfl,by unfold qC;rfl,lT.ints ns⟩
section
variable{X:Cx}{pins:Ae}{σ:St}{H:Hp}{s:Shared}
mutual
theorem qC.reads(I:Y1):∀{d:PyData}{v:V}{u:Value},qC X.K H d v->Y2C->∃as,Reads s.heap u d as
 | .none,_,u,h,r=>by
  cases(show _=V.non from h);cases(show u=Value.none from r);exact⟨_,.none⟩
 | .bool b,_,u,h,r=>by
  cases(show _=V.bl b from h);cases(show u=Value.bool b from r);exact⟨_,.bool b⟩
 | .int b,_,u,h,r=>by
  cases(show _=V.int b from h);obtain⟨t,q⟩:=(show ∃t,u=Value.int b t from r);cases q;exact⟨_,.int b t⟩
 | .str b,_,u,h,r=>by
  cases(show _=V.str b from h);obtain⟨t,q⟩:=(show ∃t,u=Value.str b t from r);cases q;exact⟨_,.str b t⟩
 | .list ds,v,u,h,r=>by
  unfold qC at h;obtain⟨a,l,rfl,j,g⟩:=h;cases(show u=Value.ref a from r);obtain⟨_,c,n,i,e⟩:=(show eU X.prog X.w H s.heap a (.lst l)from I.hok a _ j);obtain⟨as,q⟩:=lT.reads I g i;exact⟨_,.list e rfl rfl (by simpa using q)⟩
 | .tuple ds,v,u,h,r=>by
  unfold qC at h;obtain⟨a,l,rfl,j,g⟩:=h;cases(show u=Value.ref a from r);obtain⟨c,i,⟨o,e,m,n,hd⟩,_⟩:=I.tuple j;obtain⟨as,q⟩:=lT.reads I g i;exact⟨_,.tuple e m hd (by simpa using q)⟩
 | .dict kvs,v,u,h,r=>bI.reads I (d:=.dict kvs) (by unfold bI;unfold qC at h;exact h) r
theorem lT.reads(I:Y1):∀{ds:Y0D}{vs:An}{us:Ah},lT X.K H ds vs->Y8k->∃as,ReadsAll s.heap us ds as
 | [],_,us,h,r=>by
  cases(show _=[]from h);cases r;exact⟨_,.nil⟩
 | d::ds,_,us,h,r=>by
  unfold lT at h;obtain⟨x,xs,rfl,h1,h2⟩:=h;cases r with
  | cons r1 r2 =>
   obtain⟨as,c⟩:=qC.reads I h1 r1;obtain⟨bs,a⟩:=lT.reads I h2 r2;exact⟨_,.cons c a⟩
end
end
@[irreducible] def XG(K:Aa)(b:Bool):R2:=λx y H Q=>∃d d',qC K H d x/\qC K H d' y/\Y4I d/\Y4I d'/\Y1s (b == YcL d')
section
variable{X:Cx}
def aCn(K:Aa)(hu:Y4E 64<cLine)(hK:X.K=K:=by rfl):Y2d .Eq (XG K true):=by
 subst hK;unfold XG;intro a s σ H x y v u Q I n m h;obtain⟨d,p,j,l,g,e,q⟩:=h;obtain⟨r,c⟩:=j.reads I n;obtain⟨bs,i⟩:=l.reads I m;exact SeqAt.compareEq_shaped c i g e hu ⟨.bl _,H,I,by show _=_;simp,q⟩
end
section
variable{K:Aa}{H:Hp}{p:Addr}{xs:An}{i:Int}{v:V}{Q:VK}
def reK{b:Bool}{x y:V}{d d':PyData}(h1:qC K H d x)(h2:qC K H d' y)(s1:Y4I d)(s2:Y4I d')(q:Y1s (b == YcL d')):XG K b x y H Q:=by
 unfold XG;exact⟨d,d',h1,h2,s1,s2,q⟩
def pJ(h:Y4q p)(e:Y3f i=Yi)(q:Q v H):rIx K (Y0y) (Y15) H Q:=.inr (.inl (Y5c p xs i v rfl h e q))
def rlK(h:Y4q p)(q:Y3M xs.length):GK K [V.ref p] H Q:=by unfold GK;exact Y1C _ (.inr (Y5P xs h)) q
end
def NP(xs:An)(k:Nat):nI xs (some (k:Int)) none=xs.drop k:=by
 unfold nI;rw[HT.DT,HT.vG];by_cases h:Y60 k
 ·rw[Nat.min_eq_left h];exact List.take_of_length_le (by rw[List.length_drop];exact Yn)
 ·rw[Nat.min_eq_right Oo,List.drop_of_length_le (Yn),List.drop_of_length_le Oo,List.take_nil]
def NQ(xs:An)(k:Nat):nI xs none (some (k:Int))=xs.take k:=by
 unfold nI;rw[HT.DT,HT.vG,List.drop_zero,Nat.sub_zero];by_cases h:Y60 k
 ·rw[Nat.min_eq_left h]
 ·rw[Nat.min_eq_right Oo,List.take_of_length_le (Yn),List.take_of_length_le Oo]
@[irreducible] def XC(K:Aa):V->Y1c->Y9c:=aDt K
def GE{X:Cx}(K:Aa)(h:X.K=K:=by rfl):SlR X (XC K):=by subst h;unfold XC;exact LX
def slL{K:Aa}{H:Hp}{a:Addr}{xs ys:An}{lo hi:Y1c}{Q:VK}(h:H a=Y0o)(e:nI xs lo hi=ys)(k:∀q H',H q=none->H' q=Y0f->Y0->Y0i q):XC K (Y3) lo hi H Q:=by
 unfold XC;exact Y1d a xs Y9b (λp c=>by rw[e];exact k p _ c bK (aX.upd c))
section
variable{σ:St}{js:Af}{te:TE}{H:Hp}{Q:VK}
def zQ{R:Y9g V}{ys:An}{y:V}(h:∀(j:Nat) z,ys[j]?=some z->R j z)(r:R ys.length y):∀(j:Nat) z,(ys++[y])[j]?=some z->R j z:=λj z a=>by
 by_cases hji:j<ys.length
 ·rw[List.getElem?_append_left hji]at a;exact h j z a
 ·rw[List.getElem?_append_right Oo]at a;have:j-ys.length=0:=by
   by_cases q:j-ys.length=0
   ·exact q
   ·rw[fF (by simp;exact Oo)]at a;cases a
  rw[this]at a;have c:y=z:=by simpa using a
  have:j=ys.length:=Oo;subst this c;exact r
def wS{J:It}{n:Nat}(src:Y9g V)(R:Nat->Y2L)(hR:Yaj Y3e (R i y H1->R i y H2))(hz:Y7R n)
  (hg:∀i H',Y0->i<n->Y7d H'/\∀x H3,Y76 H' x H3->H3=H'/\src i x) (hst:∀H',Y0->J.stop n H')
  (hs:∀i x H' (Q':VK),src i x->i<n->Y0->(∀y H5,Y5J->R i y H5->Q' y H5)->te (Y8::Y2u) H' Q')
  (hd:Y2x (H D=none) (Y0p=Y0f->Y0->Y2Y n->(∀(i:Nat) (y:V),Y1t=Y0j->R i y H')->Y1r)):nB J σ js BF te H Q:=by
 refine HN (J:=J) (n:=n) src hz (λD i ys H'=>H D=none/\Y0/\∀(i:Nat) (y:V),Y1t=Y0j->R i y H') (λD H1 a _ s=>Y5d s (λi y h=>by simp at h))
  (λD i ys H' g _ p=>hg i H' p.2.1 g) (λD ys H' _ p=>hst H' p.2.1) (λD i x ys H' u g e a p=>?_) (λD ys H' e a d p=>hd D ys H' a d p.2.1 e p.2.2)
 refine hs i x H' _ u g p.2.1 λy H5 c r=>⟨c _ _ a,λH6 w m=>Y08 p.1 (aX.thru p.1 (p.2.1.trans c) m)⟩;have l:=m.t (c _ _ a);exact zQ (R:=λj z=>R j z H6) (λj z A=>hR j z _ _ (c.t.trans l) (p.2.2 j z A)) (by rw[e];exact hR i y _ _ l r)
def lB{K:Aa}{a:Addr}{xs:An}(R:Nat->Y2L)(hR:Yaj Y3e (R i y H1->R i y H2))(hz:Y5Z 100000)(hl:H a=Y0o)
  (hs:∀i x H' (Q':VK),Y0Y=Y8->Y0->(∀y H5,Y5J->R i y H5->Q' y H5)->te (Y8::Y2u) H' Q')
  (hd:Y2x (H D=none) (Y0p=Y0f->Y0->Y2Y xs.length->(∀(i:Nat) (y:V),Y1t=Y0j->R i y H')->Y1r)):nB (Itl K a) σ js BF te H Q :=
 wS (λi x=>Y0Y=Y8) R hR hz (λi H' s d=>Y9L ⟨xs,xs[i],gW.of (s _ _ hl),by simp[d]⟩ ⟨y.1,y.2 xs (gW.of (s _ _ hl))⟩) (λH' s=>⟨xs,gW.of (s _ _ hl),Yn⟩)
  (λi x H' Q' c _ s k=>hs i x H' Q' c s k) hd
def kC{K:Aa}{a:Addr}{xs:An}(R:Nat->Y2L)(hR:Yaj Y3e (R i y H1->R i y H2))(hz:Y5Z 100000)(hl:H a=Y0k)
  (hs:∀i x H' (Q':VK),Y0Y=Y8->Y0->(∀y H5,Y5J->R i y H5->Q' y H5)->te (Y8::Y2u) H' Q')
  (hd:Y2x (H D=none) (Y0p=Y0f->Y0->Y2Y xs.length->(∀(i:Nat) (y:V),Y1t=Y0j->R i y H')->Y1r)):nB (Itt K a) σ js BF te H Q :=
 wS (λi x=>Y0Y=Y8) R hR hz (λi H' s d=>Y9L ⟨xs,xs[i],fY.of (s _ _ hl),by simp[d]⟩ ⟨y.1,y.2 xs (fY.of (s _ _ hl))⟩) (λH' s=>⟨xs,fY.of (s _ _ hl),Yn⟩)
  (λi x H' Q' c _ s k=>hs i x H' Q' c s k) hd
def lA{lo:Int}{n:Nat}(R:Nat->Y2L)(hR:Yaj Y3e (R i y H1->R i y H2))(hz:Y7R n)
  (hs:∀i H' (Q':VK),i<n->Y0->(∀y H5,Y5J->R i y H5->Q' y H5)->te (Yk (lo+(i:Nat))::Y2u) H' Q')
  (hd:Y2x (H D=none) (Y0p=Y0f->Y0->Y2Y n->(∀(i:Nat) (y:V),Y1t=Y0j->R i y H')->Y1r)):nB (ZT lo n) σ js BF te H Q :=
 wS (λi x=>x=.int (lo+(i:Nat))) R hR hz (λi H' s a=>Y9L a y) (λH' s=>Yn)
  (λi x H' Q' c a s k=>by subst c;exact hs i H' Q' a s k) hd
def aT.thru{p l:Addr}{H0 H1 H2:Hp}(hl:H0 l=none)(s:aT p H0 H1)(b:aT l H1 H2):aT p H0 H2:=λc o e=>by
 have n:=jY.ne e;have a:H0 c=Y7:=by rw[jY.at n]at e;exact e
 have d:c≠l:=λz=>by subst z;rw[hl]at a;cases a
 exact jY.of n (b.at d (s.at n a))
end
theorem aH.ofIdx{H:Hp}:∀{ds:Y0D}{ys:An},Y2Y ds.length->(∀(i:Nat) (y:V),Y1t=Y0j->∃d,ds[i]?=Y4U/\Y3g y)->Ya0 ys
 | [],[],_,_=>aH.nil
 | d::ds,y::ys,hl,h=>by
  obtain⟨d',e,r⟩:=h 0 y rfl;cases(show d=d' by simpa using e);exact aH.cons r (aH.ofIdx (by simpa using hl) λi z a=>by simpa using h (i+1) z (by simpa using a))
 | [],_::_,hl,_=>by simp at hl
 | _::_,[],hl,_=>by simp at hl
theorem NB{P:Y9g Int}:∀{ys:An},(∀(i:Nat) (y:V),Y1t=Y0j->∃n,y=Y5z/\P i n)->∃ns:Ag,ys=Y5S/\∀(i:Nat) n,ns[i]?=Y75->P i n
 | [],_=>⟨[],rfl,λi n h=>by simp at h⟩
 | y::ys,h=>by
  obtain⟨n,rfl,hn⟩:=h 0 y rfl;obtain⟨ns,rfl,c⟩:=NB (P:=λi=>P (i+1)) (ys:=ys) λi z d=>h (i+1) z (by simpa using d);refine⟨n::ns,rfl,λi m a=>?_⟩;cases i with
  | zero=>cases(show n=m by simpa using a);exact hn
  | succ i=>exact c i m (by simpa using a)
end L2
namespace L2
open PySem PySem.Spec PyProof.Rows
def iS.u1{k:Nat}{A:Around}(r:iS k A):Y8a 1<cLine:=by have:=r.units;exact Oo
@[irreducible] def rDG:R2:=λx y H Q=>∃a v,x=Y3/\pL H a y (Yi)/\Q v H
@[irreducible] def rDP(D:oR)(σ:St)(x y v:V)(H:Hp):Prop:=∃a H4,x=Y3/\FF H a y v H4/\Y7z H4
def aAf(td ty tv:TE):TS:=λD σ H=>tv σ H λv H1=>td σ H1 λx H2=>ty σ H2 λy H3=>rDP D σ x y v H3
structure ZQ(X:Cx)(pos:Pos)(keys:Y8D Expr)(values:Y04)(trs:Y3j TE TE):Prop where p:PPs X pos keys values trs
section
variable{X:Cx}{o i value k v:Expr}{td ty tv tk:TE}{pos pos':Pos}{ks:Y8D Expr}{vs:Y04}{trs:Y3j TE TE}
def iC(hu:Y4E 1<cLine)(ho:Yc o td)(hi:Yc i ty)(hs:aC0 i:=by intro _ _;rfl):Yc (Y7B o i) (WO rDG td ty):=⟨by unfold rDG;exact YA hu ho.p hi.p hs⟩
def jI(hu:Y4E 1<cLine)(ho:Yc o td)(hi:Yc i ty)(hv:Yc value tv)(hs:Ybs value (Yem o i)=Y4C:=by rfl) :
  FD X (Y6D [Yem o i] value) (aAf td ty tv):=⟨by unfold aAf rDP;exact XT hu ho.p hi.p hv.p hs⟩
def WD:ZQ X pos [] [] []:=⟨pps_nil⟩
def yW(hk:Yc k tk)(hv:Yc v tv)(hr:ZQ X pos ks vs trs):ZQ X pos (some k::ks) (v::vs) ((tk,tv)::trs):=⟨SS hk.p hv.p hr.p⟩
def WK(h:ZQ X pos ks vs trs)(hall:ks.all (·.isSome)=true:=by rfl)(hl:ks.length=vs.length:=by rfl)(h0:ks≠[]:=by intro h;cases h)(h15:ks.length<=15:=by decide):Yc (.Dict ks vs pos) (aAe trs):=⟨XZ h.p hall hl h0 h15⟩
end
def dgS{H:Hp}{p:Addr}{kvs:Y2m}{x:Str}{v:V}{Q:VK}(e:H p=YaE)(hv:Y8N (.inr x)=Yi)(q:Q v H):rDG (Y0y) (.str x) H Q:=by
 unfold rDG;exact⟨p,v,rfl,hv ▸ pL.k (k:=.inr x) e,q⟩
def dpS{H:Hp}{p:Addr}{kvs kvs2:Y2m}{x:Str}{v:V}{D:oR}{σ:St}(e:H p=YaE)(hl:Y8O 64)(hk:Y55 (.inr x) v=kvs2)(q:∀H',H' p=Y9B kvs2->Y0l->Y7z H') :
  rDP D σ (Y0y) (.str x) v H:=by
 unfold rDP;exact Y1d p _ (FF.k (k:=.inr x) e (bS hl Dd)) (q _ (by rw[hk];exact bK) aT.self)
def aT.tD{H H':Hp}{p:Addr}(s:Y0l){xs:Y2m}(hp:H p=Y9B xs):Y4n:=λb a h=>s.at (BX h hp (by intro z;cases z)) h
section
variable{σ:St}{js:Af}{te:TE}{H:Hp}{Q:VK}
end
structure KZ(p L:Addr)(Fd:Y1M Nat):Prop where
 but:∀n D H1 H2,D≠p->D≠L->aT D H1 H2->Fd n H1->Fd n H2
 same:∀n H1 H2,aX H1 H2->Fd n H1->Fd n H2
 dic:∀n H',Fd n H'->∃xs,H' p=Y9B xs
 np:∀n H' D,Fd n H'->Y0p=none->D≠p/\D≠L
section
variable{σ:St}{js:Af}{te:TE}{H:Hp}{Q:VK}
def YW{J:It}{n:Nat}{p L:Addr}{Fd:Y1M Nat}(fl:KZ p L Fd)(F0:Fd 0 H)(src:Y9g V)(R:Nat->Y2L)(hR:Yaj Y3e (R i y H1->R i y H2))(hz:Y7R n)
  (hg:∀i H',Y0l->i<n->Y7d H'/\∀x H3,Y76 H' x H3->H3=H'/\src i x) (hst:∀H',Y0l->J.stop n H')
  (hs:∀i x H' (Q':VK),src i x->i<n->Fd i H'->Y0l->(∀y H5,Fd (i+1) H5->aT p H' H5->R i y H5->Q' y H5)->te (Y8::Y2u) H' Q')
  (hd:Y2x (H D=none) (Y0p=Y0f->Fd n H'->Y0l->Y2Y n->(∀(i:Nat) (y:V),Y1t=Y0j->R i y H')->Y1r)):nB J σ js BF te H Q:=by
 refine HN (J:=J) (n:=n) src hz (λD i ys H'=>H D=none/\Fd i H'/\Y0l/\∀(i:Nat) (y:V),Y1t=Y0j->R i y H') (λD H1 a _ s=>⟨a,fl.same _ _ _ s F0,s.but,λi y h=>by simp at h⟩)
  (λD i ys H' l _ q=>hg i H' q.2.2.1 l) (λD ys H' _ q=>hst H' q.2.2.1) (λD i x ys H' w l g a q=>?_) (λD ys H' g a d q=>hd D ys H' a d q.2.1 q.2.2.1 g q.2.2.2)
 obtain⟨np,C⟩:=fl.np _ _ _ F0 q.1;refine hs i x H' _ w l q.2.1 q.2.2.1 λy H5 F5 e r=>?_;obtain⟨I,G⟩:=fl.dic _ H' q.2.1;have c:=e.at np a;refine⟨c,λH6 A m=>⟨q.1,fl.but _ D _ _ np C m F5,aT.thru q.1 (q.2.2.1.trans e) m,?_⟩⟩;have u:=m.t c;exact zQ (R:=λj z=>R j z H6) (λj z B=>hR j z _ _ ((e.tD G).trans u) (q.2.2.2 j z B)) (by rw[g];exact hR i y _ _ u r)
def vU{lo:Int}{n:Nat}{p L:Addr}{Fd:Y1M Nat}(fl:KZ p L Fd)(F0:Fd 0 H)(R:Nat->Y2L)(hR:Yaj Y3e (R i y H1->R i y H2))(hz:Y7R n)
  (hs:∀i H' (Q':VK),i<n->Fd i H'->Y0l->(∀y H5,Fd (i+1) H5->aT p H' H5->R i y H5->Q' y H5)->te (Yk (lo+(i:Nat))::Y2u) H' Q')
  (hd:Y2x (H D=none) (Y0p=Y0f->Fd n H'->Y0l->Y2Y n->(∀(i:Nat) (y:V),Y1t=Y0j->R i y H')->Y1r)):nB (ZT lo n) σ js BF te H Q :=
 YW fl F0 (λi x=>x=.int (lo+(i:Nat))) R hR hz (λi H' s a=>Y9L a y) (λH' s=>Yn)
  (λi x H' Q' c a f s k=>by subst c;exact hs i H' Q' a f s k) hd
end
def VP(K:Aa)(a:Addr)(n:Nat):It :=
 ⟨Yez (Y2P K H a/\Y2v n/\i<n/\Y2F (n-1-i)=Y8),λi H x H'=>H'=H/\∀xs,Y2P K H a->Y2F (n-1-i)=Y8,λi H=>i=n⟩
def RK{P:Program}{w:World}{K:Aa}{tg:Expr}(a it:Addr)(n:Nat):IJ P w K tg (VP K a n) [it] it (λi h=>h.IsRevIter it a ((n:Int)-1-(i:Nat))) where
 mem:=by simp
 obj:=λi h g b m=>by
  have e:b=it:=by simpa using m
  subst e;obtain⟨o,e,c,d⟩:=g;exact Y0U e (λv z=>by rw[d]at z;cases z)
 keep:=λi h r g k=>g.at λo e=>k it (by simp) o e
 item:=by
  intro X J L C R i j s σ H E I y g A;subst J L C;obtain⟨θ,x,S,ι,T,O⟩:=A;obtain⟨U,rv,p,μ⟩:=I.list S;obtain⟨u,Z,β⟩:=rv.get O;obtain⟨N,G,ζ,D,M,B⟩:=y it (by simp);have δ:(n:Int)-1-(i:Nat)=((n-1-i:Nat):Int):=Oo;have g:s.heap.IsRevIter it a ((n:Int)-1-(i:Nat)):=g;rw[δ]at g;refine wpAny_pyNext_rev_item g p.isList (x:=u) (by simpa using Z) λr l γ=>?_;have I1:Y1D j H ({ s with heap:=r }):=Y9w (λb o m e=>(γ.2 b m).trans e) N G D M B;have α:((n-1-i:Nat):Int)-1=(n:Int)-1-((i+1:Nat):Int):=Oo;rw[α]at l;obtain⟨o,e,c,d⟩:=id l;exact Y0K u (NC (s:={ s with heap:=r }) e c d Dd ⟨x,H,I1,β,Y1b (λκ η=>by rw[I.list_inj η S];exact O),l,λb m=>(y b m).1⟩)
 done:=by
  intro X J L C R i j s σ H E I y g A;subst J L C;have T:i=n:=A;subst T;obtain⟨N,G,ζ,D,M,B⟩:=y it (by simp);have g:s.heap.IsRevIter it a ((i:Int)-1-(i:Nat)):=g;rw[show(i:Int)-1-(i:Nat)=-1 by exact Oo]at g;exact wpAny_pyNext_rev_end (I.ok.hd R) g λr ε=>Y1b (Y9w (λb o m e=>ε b o m e) N G D M B)
 self:=λ_ _ _ _ _ g h=>wpAny_pyIter_revIter g h
def aFP(K:Aa)(ta:TA):TI:=λσ H R=>ta σ H λvs H1=>∃l xs,vs=[Y1k]/\Y2P K H1 l/\R (VP K l xs.length) H1
def QJ:YbZ "reversed"=Ycj "reversed":=Kk
section
variable{X:Cx}{tg:Expr}
def QZ{a:Expr}{ta:TA}{p pos:Pos}(hg:Gl X "reversed")(hm:X.mg "reversed" = none)(ha:FK X [a] ta)(hs:Y3P a=[(false,Y0d a)]:=by first | exact nG | exact mO | exact gT | rfl) :
  KW X tg (Y64 "reversed" p [a] []) (aFP X.K ta):=⟨by
 intro c s σ H R I h;refine Call_ (qY I hg hm QJ (YaJ (ha.p pos c s σ H _ I h) (λz d ⟨y,H1,I1,x,r⟩=>?_) (by rw[hs];rfl) (by rfl)));obtain⟨l,j,e,w,q⟩:=r;subst e;obtain⟨u,rfl,n⟩:=lS x;cases n;obtain⟨g,rv,p,B⟩:=I1.list w;have A:=rv.length;refine call_reversed_list p.isList ?_;have e:((g.toArray.size:Nat):Int)-1=(j.length:Int)-1-((0:Nat):Int):=by simp;exact Oo
 rw[e];refine wpAny_pyIter_revIter (l:=l) (i:=(j.length:Int)-1-((0:Nat):Int)) (Y89 _) ⟨d.heap.objs.size,[d.heap.objs.size],_,_,H1,rfl,Ycl d.toks _ e,RK l _ j.length,Y89 _,λb m=>?_,q⟩;have e:b=d.heap.objs.size:=by simpa using m
 subst e;exact YaP Yn Yn⟩
end
def NG{K:Aa}{a:Addr}{xs:An}{g:TG}{tb:TS}{D:oR}{σ:St}{H:Hp}(Pv:Nat->Y1w)(h0:Y6L 0)(hl:∀i σ H,Y60 i->Y2M->Y2P K H a)
  (hs:∀i x σ H,Y41 i->Y2F (Y4F 1-i)=Y8->Y2M->g x σ H (Y54 ({ D with nx:=Pv (i+1),ct:=Pv (i+1),bk:=D.nx }))) (hd:∀σ H,Yet->Y3H) :
  ∃W:Nat->Nat->St->Hp->Prop,(Y7c 0 m σ H)/\∀i m σ H,W i m σ H ->
   ((VP K a xs.length).stop i H/\Y3H)\/((VP K a xs.length).go i H/\∃N:St->Hp->Prop,Yac (N σ' H'->∃m',m' < m/\W (i+1) m' σ' H') ((VP K a xs.length).yld i H x H'->g x σ H' (Y54 ({ D with nx:=N,ct:=N,bk:=D.nx })))):=by
 refine Ybe (m=Y4F i/\Y60 i/\Y2M) ⟨xs.length,by simp,dH _,h0⟩;rintro i m σ H ⟨rfl,h,p⟩;have q:=hl i σ H h p;by_cases hlt:Y41 i
 ·have c:Y2F (Y4F 1-i)=some (xs[xs.length-1-i]'Oo):=aD Oo;refine .inr ⟨Y6C xs _ q hlt c,Pv (i+1),λσ' H' d=>Y1d (Y4F (i+1)) Oo hlt d,Yen⟩;obtain⟨e,y⟩:=y;subst e;exact hs i x σ _ hlt (y xs q) p
 ·have e:Y68 i:=Oo;subst e;exact .inl (Y1b (hd σ H p))
def EN:Nat->Nat->VN
 | _,0=>aCG
 | i,n+1=>UD (oK i) (EN (i+1) n)
def gN(K:Aa)(n:Nat):TG:=aCF K n (EN 0 n)
theorem AK{H:Hp}{r:St}{Q:Y1w}:∀(vs:An) (pre os:St),os.length=vs.length->Q (pre++(YeV++r)) H->EN pre.length vs.length vs (pre++(os++r)) H Q
 | [],pre,[],_,q=>⟨rfl,q⟩
 | v::vs,pre,o::os,hl,q=>by
  refine⟨v,vs,rfl,?_⟩;show EN (pre.length+1) vs.length vs ((pre++(o::os++r)).set pre.length (some v)) H Q;have e1:(pre++(o::os++r)).set pre.length (some v)=(pre++[some v])++(os++r):=by
   rw[List.set_append_right _ _ (aL _),Nat.sub_self,List.append_assoc];rfl
  have a:pre.length+1=(pre++[some v]).length:=by rw[bF];rfl
  rw[e1,a];refine AK vs (pre++[some v]) os (by simpa using hl) ?_;rw[List.append_assoc];exact q
@[irreducible] def qE(K:Aa)(n:Nat)(J:It)(σ:St)(js:Af)(tc:TT)(te:TE)(H1:Hp)(Q:VK):Prop:=∀D,H1 D=none->∃W:Nat->Nat->An->Hp->Prop,(Y7c 0 m [] (Y1S H1 D [])) /\
 ∀i m ys H2,W i m ys H2->H2 D=Y0f/\((J.stop i H2/\Y10 D H2)\/(Y7d H2/\Ybn ys.length/\∀x H3,Y76 H2 x H3->∃a vs,x=Y3/\fY K H3 a vs/\Y5i n /\
  tL tc (Y4M) H3 λb H4=>if b=true then wH te (Y4M) H4 λy H5=>H5 D=Y0f/\∃m',m' < m/\W (i+1) m' (ys++[y]) (Y1S H5 D (ys++[y]))
   else H4 D=Y0f/\∃m',m' < m/\W (i+1) m' ys H4))
def JC(K:Aa)(n:Nat)(wi:TI)(js:Af)(tc:TT)(te:TE):TE:=λσ H Q=>wi σ H λJ H1=>qE K n J σ js tc te H1 Q
section
variable{X:Cx}{scope:Scope}{xs:Ai}{N':Ai}{js:Af}{elt iter:Expr}{pos:Pos}{tg:Expr}{ifs:Y04}{tc:TT}{te:TE}{wi:TI}
def qE.turns{K:Aa}{n:Nat}{J:It}{σ:St}{H:Hp}{Q:VK}(h:qE K n J σ js tc te H Q):II (λx H vs=>∃a,x=Y3/\fY K H a vs/\Y5i n) J σ js (tL tc) (wH te) H Q:=λD j=>by
 unfold qE at h;obtain⟨W,r,p⟩:=h D j;refine⟨W,r,λi m g H2 w=>?_⟩;obtain⟨hd,d⟩:=p i m g H2 w;refine⟨hd,d.imp_right λ⟨a,b,c⟩=>Y5d b (λx H3 y=>?_)⟩;obtain⟨a,vs,e,q,l,t⟩:=c x H3 y;exact⟨vs,⟨a,e,q,l⟩,t⟩
def eJ.many(S:Y4p xs)(hg:∀C fp s₀ H₀,VY (Y3O) tg (gN X.K xs.length)):QP X scope tg xs.length (λ_=>YbT X) (YeO) N' js (λx H vs=>∃a,x=Y3/\fY X.K H a vs/\Y5i xs.length) (gN X.K xs.length) :=
 S.blk (λ⟨_,_,_,l⟩=>l) (λC fp s₀ H₀=>(hg C fp s₀ H₀).p) (λ{x H vs d σ Q} ⟨a,e,q,l⟩ c h=>⟨a,vs,e,q,l,by rw[<-l];exact AK (r:=Y2u) vs [] d (by rw[c,l]) h⟩)
end
section
variable{X:Cx}{scope:Scope}{x1 x2 x3 y:Str}{N':Ai}{js:Af}{elt iter tg:Expr}{ifs:Y04}{py pos spos:Pos}{tc:TT}{te:TE}{wi:TI}{i:Nat}
def FQ{xs:Ai}{k:Nat}{x:Str}{p:Pos}(S:Y4p xs)(h:Y2F k=Y8)(C:Addr)(fp:Y0t)(s₀:Shared)(H₀:Hp):VY (Y3O) (YaM p) (oK k) :=
 have l:=S.own x (aF h)
 cQ S.nd (S.pre k x h) (.inl (lookup_relabel_local l)) (.inr (lookup_relabel_local l))
def RA{p1 p2 pt:Pos}{kk:Nat}(S:Y4p [x1,x2])(C:Addr)(fp:Y0t)(s₀:Shared)(H₀:Hp):VY (Y3O) (Y3s [Y8l,Y8m] kk) (gN X.K 2) :=
 pE rfl (fJ (FQ S rfl C fp s₀ H₀) (fJ (FQ S rfl C fp s₀ H₀) mL))
def RB{p1 p2 p3 pt:Pos}{kk:Nat}(S:Y4p [x1,x2,x3])(C:Addr)(fp:Y0t)(s₀:Shared)(H₀:Hp):VY (Y3O) (Y3s [Y8l,Y8m,.Name x3 p3] kk) (gN X.K 3) :=
 pE rfl (fJ (FQ S rfl C fp s₀ H₀) (fJ (FQ S rfl C fp s₀ H₀) (fJ (FQ S rfl C fp s₀ H₀) mL)))
def sR{p1 p2 pt:Pos}{kk:Nat}(S:Y4p [x1,x2])(hi:Y8p X (Y3s [Y8l,Y8m] kk) wi)(ht:Ycc Y3O ifs tc)(he:Ycb Y3O elt te)
  (hs:∀x,Y7W x=Y8j:=by intro _;rfl):Yc (Y4O [Y4P (Y3s [Y8l,Y8m] kk) 0]) (JC X.K 2 wi js tc te) :=
 ⟨AB (S.many (RA S)) hi.p (λC fp s₀ H₀=>(ht C fp s₀ H₀).p.mono) (λC fp s₀ H₀=>(he C fp s₀ H₀).p.mono) qE.turns hs⟩
def BM{p1 p2 p3 pt:Pos}{kk:Nat}(S:Y4p [x1,x2,x3])(hi:Y8p X (Y3s [Y8l,Y8m,.Name x3 p3] kk) wi)(ht:Ycc Y3O ifs tc)(he:Ycb Y3O elt te)
  (hs:∀x,Y7W x=Y8j:=by intro _;rfl):Yc (Y4O [Y4P (Y3s [Y8l,Y8m,.Name x3 p3] kk) 0]) (JC X.K 3 wi js tc te) :=
 ⟨AB (S.many (RB S)) hi.p (λC fp s₀ H₀=>(ht C fp s₀ H₀).p.mono) (λC fp s₀ H₀=>(he C fp s₀ H₀).p.mono) qE.turns hs⟩
def DA{p1 p2 pt:Pos}{kk:Nat}(S:Y4p [x1,x2])(hN:X.N.Nodup)(hiN:Y2c=Y0j)(hy:Y6I y Y1R)(hi:Y8p X (Y3s [Y8l,Y8m] kk) wi)(ht:Ycc Y3O ifs tc)(he:Ycb Y3O elt te)
  (hsw:YeW (Y4O [Y4P (Y3s [Y8l,Y8m] kk) 0]) (some (Y4k)) spos.line=pure true:=by rfl) (hs:∀x,Y7W x=Y8j:=by intro _;rfl) :
  FD X (.Assign [Y4k] (Y4O [Y4P (Y3s [Y8l,Y8m] kk) 0]) spos) (FX (JC X.K 2 wi js tc te) (oK i)) :=
 ⟨xJ (S.many (RA S)) hN hiN hy hi.p (λC fp s₀ H₀=>(ht C fp s₀ H₀).p.mono) (λC fp s₀ H₀=>(he C fp s₀ H₀).p.mono) qE.turns hsw hs⟩
end
theorem wP{α β:Type}{R:Y0u α β}:∀{l:Yo}{m:List β}{i:Nat}{b:β},Paired R l m->m[i]?=some b->∃a,l[i]?=some a/\R a b
 | _,_,_,_,.nil,h=>by simp at h
 | _,_,0,b,.cons h t,e=>⟨_,rfl,by cases(show _=b by simpa using e);exact h⟩
 | _,_,i+1,b,.cons h t,e=>by
  obtain⟨a,h1,h2⟩:=wP t (i:=i) (by simpa using e);exact⟨a,by simpa using h1,h2⟩
section
variable{js:Af}{te:TE}{tc:TT}{σ:St}{H:Hp}{Q:VK}
def CK{K:Aa}{n:Nat}{J:It}{α:Type}{as:Yo}(p:Y2a α)(Src:Y0u α V)(R:α->Y2L)(hR:∀c y H1 H2,Y3e->R c y H1->R c y H2)(hz:Yeu)
  (hg:∀i H',Y0->i<as.length->Y7d H'/\∀x H3,Y76 H' x H3->H3=H'/\∃c,as[i]?=Y09/\Src c x) (hst:∀H',Y0->J.stop as.length H')
  (hs:∀x c H',c∈as->Src c x->Y0->∃a vs,x=Y3/\fY K H' a vs/\Y5i n/\(∀Q':Bool->Hp->Prop,(∀H5,Y5J->Q' (p c) H5)->tc (Y4M) H' Q') /\
   ∀H5 (Q':VK),Y5J->p c=true->(∀y H6,aX H5 H6->R c y H6->Q' y H6)->te (Y4M) H5 Q')
  (hd:Y2x (H D=none) (Y0p=Y0f->Y0->Yer (R c y H') p->Y1r)):qE K n J σ js tc te H Q:=by
 unfold qE;intro D G;have mono:∀{H1 H2:Hp} {l:Yo} {ys:An},Y3e->Y71 (R c y H1) l->Y71 (R c y H2) l:=by
  intro H1 H2 l ys s h
  induction h with
  | nil=>exact .nil
  | cons h t ih=>exact Yax (hR _ _ _ _ s h)
 have snoc:∀{H1:Hp} {l:Yo} {ys:An} {c:α} {y:V},Y71 (R c y H1) l->R c y H1->Paired (λc y=>R c y H1) (l++[c]) (ys++[y]):=by
  intro H1 l ys c y h r
  induction h with
  | nil=>exact Ya6 r
  | cons h t ih=>exact Yax h
 refine Y08 (λi m ys H'=>m=as.length-i/\i<=as.length/\Y0p=Y0f/\Y0/\ys.length<=i/\Y71 (R c y H') ((as.take i).filter p)) ⟨as.length,by simp,dH _,bK,aX.upd G,Yn,.nil⟩;rintro i m ys H2 ⟨rfl,Z,d,j,X,z⟩;refine Y0b d;by_cases hlt:i<as.length
 ·obtain⟨B,A⟩:=hg i H2 j hlt;refine Y2j B (Yeo Oo Dd) (λx H3 C=>?_);obtain⟨rfl,c,L,N⟩:=A x H3 C;have u:as.take (i+1)=as.take i++[c]:=by rw[jM,L];rfl
  obtain⟨a,vs,e,S,P,T,M⟩:=hs x c H3 (aF L) N j;refine⟨a,vs,e,S,P,λb H4=>b=p c/\aX H3 H4,T _ λH5 w=>Y1b w,?_⟩;rintro b H4 ⟨rfl,g⟩;by_cases hp:p c=true
  ·rw[if_pos hp];refine Y08 (λy H5=>aX H4 H5/\R c y H5) (M H4 _ g hp λy H6 U r=>⟨U,r⟩);rintro y H5 ⟨w,r⟩;have I:=w _ _ (g _ _ d);refine Y2w I _ ?_ hlt bK (aX.thru G ((j.trans g).trans w) aT.self) ?_ ?_
   ·exact Oo
   ·rw[bF,List.length_singleton];exact Oo
   ·rw[u,List.filter_append,show List.filter p [c]=[c]by simp[hp]];have O:dG H5 (Y1S H5 D (ys++[y])):=aT.t aT.self I;exact mono O (snoc (mono (g.trans w).t z) r)
  ·rw[if_neg hp];refine Y2w (g _ _ d) _ ?_ hlt (g _ _ d) (j.trans g) Oo ?_
   ·exact Oo
   ·rw[u,List.filter_append,show List.filter p [c]=[]by simp[hp],List.append_nil];exact mono g.t z
 ·have e:i=as.length:=Oo;subst e;refine Y3p (hst H2 j) (hd D ys H2 G d j ?_);rw[cM]at z;exact z
def QD{K:Aa}{n:Nat}{a0:Addr}{xs:An}{α:Type}{as:Yo}(p:Y2a α)(Src:Y0u α V)(R:α->Y2L)(hR:∀c y H1 H2,Y3e->R c y H1->R c y H2)(hz:Yeu)(ha:H a0=Y0k)(pr:YbN Src xs)
  (hs:∀x c H',c∈as->Src c x->Y0->∃a vs,x=Y3/\fY K H' a vs/\Y5i n/\(∀Q':Bool->Hp->Prop,(∀H5,Y5J->Q' (p c) H5)->tc (Y4M) H' Q') /\
   ∀H5 (Q':VK),Y5J->p c=true->(∀y H6,aX H5 H6->R c y H6->Q' y H6)->te (Y4M) H5 Q')
  (hd:Y2x (H D=none) (Y0p=Y0f->Y0->Yer (R c y H') p->Y1r)):qE K n (Itt K a0) σ js tc te H Q:=by
 have h:Y2v as.length:=pr.length.symm;refine CK p Src R hR hz (λi H' s j=>Y9L ⟨xs,xs[i]'Oo,fY.of (s _ _ ha),by simp⟩ (Y0b y.1)) (λH' s=>⟨xs,fY.of (s _ _ ha),Oo⟩) hs hd;have e:=y.2 xs (fY.of (s _ _ ha));obtain⟨c,g,d⟩:=wP pr e;exact⟨c,g,d⟩
def wU{K:Aa}{n:Nat}{a0:Addr}{xs:An}{α:Type}{as:Yo}(p:Y2a α)(Src:Y0u α V)(R:α->Y2L)(hR:∀c y H1 H2,Y3e->R c y H1->R c y H2)(hz:Yeu)(ha:H a0=Y0o)(pr:YbN Src xs)
  (hs:∀x c H',c∈as->Src c x->Y0->∃a vs,x=Y3/\fY K H' a vs/\Y5i n/\(∀Q':Bool->Hp->Prop,(∀H5,Y5J->Q' (p c) H5)->tc (Y4M) H' Q') /\
   ∀H5 (Q':VK),Y5J->p c=true->(∀y H6,aX H5 H6->R c y H6->Q' y H6)->te (Y4M) H5 Q')
  (hd:Y2x (H D=none) (Y0p=Y0f->Y0->Yer (R c y H') p->Y1r)):qE K n (Itl K a0) σ js tc te H Q:=by
 have h:Y2v as.length:=pr.length.symm;refine CK p Src R hR hz (λi H' s j=>Y9L ⟨xs,xs[i]'Oo,gW.of (s _ _ ha),by simp⟩ (Y0b y.1)) (λH' s=>⟨xs,gW.of (s _ _ ha),Oo⟩) hs hd;have e:=y.2 xs (gW.of (s _ _ ha));obtain⟨c,g,d⟩:=wP pr e;exact⟨c,g,d⟩
end
end L2
namespace L2
open PySem
section
variable{js:Af}{te:TE}{σ:St}{H:Hp}{Q:VK}
def wT{K:Aa}{b1 b2:Bool}{l1 l2:Addr}{xs ys:An}(R:Nat->Y2L)(hR:Yaj Y3e (R i y H1->R i y H2))(hz:Y5Z 100000)(h1:H l1=Y52 b1)(h2:H l2=Y8u b2 ys)(hl:Y2v ys.length)
  (hs:∀i x y H' (Q':VK),Y0Y=Y8->Y1t=Y0j->Y0->(∀z H6,aX H' H6->R i z H6->Q' z H6)->te (Y8::Y0j::Y2u) H' Q')
  (hd:∀D zs H',H D=none->Y0p=Y77->Y0->Y68 zs.length->(∀(i:Nat) (z:V),zs[i]?=some z->R i z H')->Y1r):qE K 2 (Itz b1 b2 l1 l2) σ js BF te H Q:=by
 unfold qE;intro D l;refine Y08 (λi m zs H'=>m=Y4F i/\Y60 i/\zs.length=i/\Y0p=Y77/\Y0/\∀(i:Nat) (z:V),zs[i]?=some z->R i z H') (Y2T xs.length (by simp) (dH _) bK (aX.upd l) (λi z h=>by simp at h));rintro i m zs H2 ⟨rfl,O,n,c,a,s⟩;refine Y0b c;by_cases hlt:Y41 i
 ·have G:Y0Y=some xs[i]:=aD Oo;have g:Y1t=some (ys[i]'Oo):=aD Oo;refine Y2j ⟨xs,ys,_,_,a _ _ h1,a _ _ h2,G,g⟩ (Yeo Oo Dd) (λv H3 y=>?_);obtain⟨q,x,y,rfl,L,rfl,M⟩:=y;obtain⟨C,I⟩:=M xs ys (a _ _ h1) (a _ _ h2);have d:=Y3m [x,y] L;have u:(upd H2 q (.tup [x,y])) q=Ym [x,y]:=bK;generalize upd H2 q (.tup [x,y])=H3 at d u;refine Y1Z q [x,y] rfl (fY.of u) (λb H4=>b=true/\H4=H3) Y6k ?_;rintro b H4 ⟨rfl,rfl⟩;rw[Y12];refine Y08 (λz H5=>aX H4 H5/\R i z H5) (hs i x y H4 _ C I (a.trans d) λz H6 N r=>⟨N,r⟩);rintro z H5 ⟨p,r⟩;have B:=p _ _ (d _ _ c);have A:dG H5 (Y1S H5 D (zs++[z])):=aT.t aT.self B;exact Y2w B (Y4F (i+1)) Oo hlt (by rw[bF,n];rfl) bK (aX.thru l ((a.trans d).trans p) aT.self) (zQ (R:=λj z=>R j z _) (λj w J=>hR j w _ _ ((d.trans p).t.trans A) (s j w J)) (by rw[n];exact hR i z _ _ A r))
 ·have e:Y68 i:=Oo;subst e;exact Y3p ⟨xs,ys,a _ _ h1,a _ _ h2,.inl (Yn)⟩ (hd D zs H2 l c a n s)
end
theorem Paired.ofRepL{H:Hp}{α:Type}{g:Y9e α}:∀{as:Yo}{xs:An},YeR g->YbN (λa x=>Y0x (g a) x) xs
 | [],xs,r=>by
  unfold aH at r;cases(show xs=[]from r);exact .nil
 | a::as,xs,r=>by
  rw[bJ]at r;unfold aH at r;obtain⟨x,xs',rfl,r1,r2⟩:=r;exact .cons r1 (Paired.ofRepL r2)
theorem Paired.toRepL{H:Hp}{α:Type}{g:Y9e α}:∀{as:Yo}{xs:An},YbN (λa x=>Y0x (g a) x) xs->YeR g
 | _,_,.nil=>aH.nil
 | _,_,.cons h t=>aH.cons h (Paired.toRepL t)
section
variable{X:Cx}{scope:Scope}{x1 x2 x3 y:Str}{N':Ai}{js:Af}{elt iter tg:Expr}{ifs:Y04}{py pos spos:Pos}{tc:TT}{te:TE}{wi wj:TI}{i:Nat}
def iOr(wi wj:TI):TI:=λσ H R=>wi σ H R\/wj σ H R
def ZX(h1:Y8p X tg wi)(h2:Y8p X tg wj):Y8p X tg (iOr wi wj):=⟨λa s σ H R I h=>h.elim (h1.p a s σ H R I) (h2.p a s σ H R I)⟩
end
end L2
namespace L2
open PySem PySem.Spec PyProof.Rows
section
variable{X:Cx}
@[irreducible] def ML(K:Aa):R2:=λx y H Q=>∃a b xs ys,x=Y3/\y=Y0z/\H a=Y0k/\H b=Y6r/\Y5X ys.length<=1000/\∀c H',Y0->H' c=Ym (xs++ys)->Y0i c
def vV{K:Aa}{H:Hp}{Q:VK}{a b:Addr}{xs ys:An}(h1:H a=Y0k)(h2:H b=Y6r)(hz:Y5X ys.length<=1000)(k:∀c H',Y0->H' c=Ym (xs++ys)->Y0i c):ML K (Y3) (Y0z) H Q:=by
 unfold ML;exact⟨a,b,xs,ys,rfl,rfl,h1,h2,hz,k⟩
def jK(K:Aa)(hK:X.K=K:=by rfl):Y4y X .Add (ML K):=by
 subst hK;unfold ML;intro d s σ H x y v u Q I J G h;obtain⟨a,b,z,T,rfl,rfl,r,j,α,q⟩:=h;by_cases hx:z=[]
 ·cases J;cases G;subst hx;obtain⟨M,U,O,_⟩:=Yb4 r;obtain⟨A,β,R,_⟩:=Yb4 j;cases U;obtain⟨⟨cls,S,L,N⟩,B,D,n,hd⟩:=id O;obtain⟨⟨C,l,m,w⟩,g,c,P,i⟩:=id R;simp only at D hd c i;subst D hd c i;exact concat_meets (Y0m B) (Y0m g) noFill_tuple_add seq_tuple_add PySem.F.slot_tuple_add PySem.F.entry_tuple_add (Yf7 _)
   (tuple_addW0 a b _ _ n P S l N w rfl) ⟨B,g,Y2S Y0z H I (q b H (Y07) j)⟩
 ·refine YF d s σ H _ _ v u Q I J G ⟨a,b,z,T,rfl,rfl,fY.of r,fY.of j,hx,aP α Dd,Y6b,λ_ p Z=>q p _ (aX.upd Z) bK⟩;subst e;exact q a H (Y07) (by rw[List.append_nil];exact r)
end
def oJ(a:Int)(t:Tok)(l:Addr)(items:Aj)(n:Nat)(dd:Y11)(sl:Y8K) :
  Yb8 (Builtin.«int.__rmul__» ⟨[Y7b a,Y1k],[]⟩) (Y1W l ({ cls:=.type "tuple",dict:=dd,data:=.seq items n,slots:=sl })/\R (Yc1 Value.notImplemented) s) :=
 .of_wp λc w A R s h=>by
  obtain⟨e,g,d,i,m⟩:=s;obtain⟨j,h⟩:=h
  wp_walk
  exact Y6 h
def IW(l:Addr)(items:Aj)(n:Nat)(dd:Y11)(sl:Y8K)(k:Int)(u:Tok)(h0:2<=k)(h1:k<=64)(he:Yq items.isEmpty)(hz:items.size<=64)(hsz:Y0r (((List.replicate k.toNat items).foldl (· ++ ·) #[]).size)) :
  Yb8 (Builtin.«tuple.__mul__» ⟨[Y1k,.int k u],[]⟩) (Y1W l ({ cls:=.type "tuple",dict:=dd,data:=.seq items n,slots:=sl })/\R (Yc1 Y24) ({ s with heap:=s.heap.push { cls:=.type "tuple",data:=.seq ((List.replicate k.toNat items).foldl (· ++ ·) #[]) } })) :=
 .of_wp λe w A R s h=>by
  obtain⟨m,g,d,p,x⟩:=s;obtain⟨c,h⟩:=h;have r:=AutoSeq1.idx_int
  wp_walk using YdW
  rw[if_neg (by simp;exact Oo)]
  wp_walk using YdW
  have a:¬items=#[]:=λz=>by simp[z]at he
  have i:(items.size:Int)*k<=4096:=by
   have j:(items.size:Int)*k<=64*64:=Int.mul_le_mul Oo h1 Oo Oo;exact Oo
  rw[if_neg (by simp;exact Y1j a)];rw[if_neg (by simp;exact⟨Oo,a⟩)];show Y0W (if(items.size:Int)*k > (2^63-1)/8 then _ else _);rw[Y8W];show Y0W (if Builtin.Tuple.tupleTooMany (items.size*k)=true then _ else _);rw[if_neg (by unfold Builtin.Tuple.tupleTooMany;simp;exact Int.le_trans i Dd)]
  wp_walk
  exact Y6 h
def mE:fillsNumberSlot (.type "tuple") "mul" = Y4C:=PySem.fillsNumberSlot_seq (id := "tuple.__mul__") (r:=Y9l "tuple.__rmul__") F.slot_tuple_mul.lookup Kk F.slot_tuple_rmul.lookup Kk
def qS:seqRepeat? (.type "tuple")=pure (Y9l "tuple.__mul__"):=by
 unfold seqRepeat?;rw[PySem.seqSlot_of (T := "tuple") (name := "__mul__") (id := "tuple.__mul__") F.slot_tuple_mul.lookup Kk,PySem.seqSlot_of (T := "tuple") (name := "__rmul__") (id := "tuple.__rmul__") F.slot_tuple_rmul.lookup Kk];rfl
@[irreducible] def MH:R2:=λx y H Q=>∃a z,∃k:Nat,x=Y3/\y=.int (k:Int)/\H a=Ym [z]/\2<=k/\k<=64/\∀c H',Y0->H' c=Ym (Y4s z)->Y0i c
def YJ{H:Hp}{Q:VK}{a:Addr}{z:V}{k:Nat}(h:H a=Ym [z])(h2:2<=k)(hk:k<=64)(q:∀c H',Y0->H' c=Ym (Y4s z)->Y0i c):MH (Y3) (.int (k:Int)) H Q:=by
 unfold MH;exact Y2w a z k rfl h h2 hk q
section
variable{X:Cx}
def yM:Y4y X .Mult MH:=by
 unfold MH;intro w s σ H x y v u Q I R N h;obtain⟨a,z,k,rfl,rfl,P,S,m,q⟩:=h;cases R;obtain⟨t,rfl⟩:=(show ∃t,u=Value.int (k:Int) t from N);obtain⟨G,r,p,_⟩:=Yb4 P;obtain⟨c,rfl,j⟩:=lS r;obtain⟨⟨cls,A,C,l⟩,g,B,n,hd⟩:=id p;simp only at B hd;subst B hd;have d:∀k:Nat,(Y4s [c]).flatten=Y4s c:=λk=>by
  induction k with
  | zero=>rfl
  | succ k ih=>rw[List.replicate_succ,List.flatten_cons,ih,List.replicate_succ];rfl
 have D:List.foldl (λJ O=>J++O) #[] (Y4s ([c].toArray))=(Y4s c).toArray:=by
  have:=CF [c] k [];rw[List.nil_append,d]at this;exact this
 have L:∀k:Nat,dO (Y4s z) (Y4s c):=λk=>by
  induction k with
  | zero=>exact .nil
  | succ k ih=>exact Yax j
 generalize hk':(k:Int)=e;have i:e.toNat=k:=Oo;refine wpAny_binaryOp_repeat_ref (T := "tuple") (U := "int") Dd (Y0m g) (λM=>Y9Q M e) mE F.fills_int_mul F.slot_int_rmul qS F.slot_int_index.lookup
  (Yfn F.slot_int_rmul (Y9Q s e) F.entry_int_rmul _ _ (oJ e t a [c].toArray n A l) (Y1L g (Y0m g) ?_))
 refine Yff F.slot_tuple_mul (Y0m g) F.entry_tuple_mul _ _ (IW a [c].toArray n A l e t Oo Oo rfl (by show 1<=64;decide) (by rw[i,D,bE,cA];exact aP m Dd)) (Y0b g);rw[i,D];refine Y2l (.ref _) (Yc4 (.tup (Y4s z)) (λb W q=>Y0h q) Yn ?_) (q _ _ (aX.upd (Y4u _)) bK);exact⟨⟨by rw[cA];exact oX m,_,Y17,rfl⟩,_,L k,YcT _⟩
end
@[irreducible] def XF:V->Y1o:=MK
def JU{X:Cx}:MtR X "list.extend" XF:=by unfold XF;exact PC
def aCJ{H:Hp}{l b:Addr}{xs zs:An}{Q:VK}(h:H l=Y0o)(h2:H b=Y77)(hz:Yes<=1000)(k:∀H',H' l=Y05 (xs++zs)->Y5U l H->Q .non H'):XF (Y1k) [Y0z] H Q:=by
 unfold XF;exact⟨l,b,xs,zs,rfl,rfl,h,h2,Nat.le_of_lt (wM hz),k _ bK aT.self⟩
section
variable{prog:Program}{w:World}{A:Around}{E:Y5}{s:Shared}{l:Addr}{xs:Array (Int × Tok)}
def RV{Q:Y5}(hh:Y4H)(hl:s.heap.IsTuple l (intItems xs))
  (h:∀h' tk t',(Y6u (Y0n=Y7))->Q (.int (preSum (numAt xs) xs.size) t') { s with heap:=h',toks:=tk }) :
  Y0V (Y8B "sum" [Y1k]):=by
 have d:Y4v l:=by obtain⟨_,e,_⟩:=hl;exact aY e
 refine call_sum_walkG (wpAny_pyIter_tuple hl ?_);refine⟨_,[_,l],[_],_,_,_,numAt xs,rfl,Walks.tuple (A:=A.in1) hh _ l (cK d) (intItems xs),⟨Y89 _,hl.push _⟩,λc a=>?_,(λ_ _=>intItems_at),λh' tk t' j=>?_⟩
 ·show c<(s.heap.push _).objs.size;rw[mJ];rcases bD.mp a with rfl | a
  ·exact Nat.lt_succ_self _
  ·rcases bD.mp a with rfl | a
   ·exact Nat.lt_succ_of_lt d
   ·cases a
 ·have:=h h' tk t' λc o e=>by
   refine j c o (λg=>?_) (Y0h e);rcases bD.mp g with i | g
   ·exact absurd (i ▸ aY e) (cY _)
   ·cases g
  simpa[intItems]using this
end
@[irreducible] def ME(K:Aa):Y1o:=λxs H Q=>∃(p:Addr) (ns:Ag),xs=Y5N/\fY K H p (Y5S)/\Y3M ns.sum
def rsT{K:Aa}{H:Hp}{p:Addr}{ns:Ag}{Q:VK}(h:fY K H p (Y5S))(q:Y3M ns.sum):ME K Y5N H Q:=by unfold ME;exact Y1d p ns h q
def sY{X:Cx}(K:Aa)(hc:Y1J)(hK:X.K=K:=by rfl):Y3W X "sum" (ME K):=by
 subst hK;unfold ME;intro d s σ H z B Q I r h;obtain⟨p,x,rfl,w,q⟩:=h;obtain⟨u,rfl,y⟩:=lS r;cases y;obtain⟨a,n,g,D⟩:=I.tuple w;have i:=KA n;obtain⟨c,e⟩:=i.allInts.items;rw[e]at g;refine RV (Y8Q) g λA C m j=>⟨.int x.sum,H,I.kept j,Y0b m,q⟩;rw[preSum_eq,List.take_of_length_le (by simp)];rw[<-i.numsOf];have l:a=(intItems c).toList:=by rw[<-e]
 rw[l,nums_intItems]
section
variable{js:Af}{te:TE}{tc:TT}{σ:St}{H:Hp}{Q:VK}
def aH.atI{α:Type}{g:Y9e α}:∀{as:Yo}{xs:An},YeR g->∀{i:Nat}{x:V},Y0Y=Y8->∃a,as[i]?=some a/\Y0x (g a) x:=by
 intro as xs r i x e;obtain⟨d,c,h⟩:=r.get e;rw[aR]at c;cases q:as[i]? with
 | none=>rw[q]at c;cases c
 | some a=>rw[q]at c;cases c;exact Y0K a h
end
def xW{X:Cx}{e:Expr}{t:TT}(h:KR X e t):KR X e (tL t):=⟨h.p.mono⟩
end L2
namespace HT
open PySem PyProof.Rows
section
variable{prog:Program}{w:World}{A:Around}{E:Y5}{s:Shared}
def tH{t sl:Addr}{items:Aj}{vl vu:Value}{lo hi:Y1c}{Q:Y5}(ht:YcS t items)(hs:YdJ sl vl vu)(pl:IsPart vl lo)(pu:IsPart vu hi)
  (h0:Y7m 0 lo=0) (h1:Y78=items.size) (h:Y10 t s):Y0V (getItem (.ref t) (.ref sl)):=by
 obtain⟨j,e,g,i⟩:=id hs;have d:Y8C sl "slice" := ⟨j,e,g⟩;have c:Y8C t "tuple" := ht.typeIs;unfold getItem
 try with_reducible refine Ye2
 first | refine Y2r ?_ | skip
 refine wpAny_bind (wpAny_sequenceKey ht.typeIs Dd ?_);refine wpAny_bind (wpAny_callSpecial?_slot (name:=Str.ofString "__getitem__") ht.typeIs PyProof.Rows.slot_tuple_getitem
  (wpAny_call_entry PyProof.Rows.slot_tuple_getitem ht.typeIs entry_tuple_getitem ?_ (args_tuple_getitem _ _)))
 show Y3i (Builtin.Tuple.tupleItemsOf (.ref t) >>= _);refine wpAny_bind (tupleItemsOf_ ht ?_);refine Yf9 d ?_;rw[Ybt];refine wpAny_bind (pP hs pl pu ?_);have a:(((kI items.size 0 lo:Nat):Int) == 0&&(1:Int) == 1&&YeA (Y78-Y7m 0 lo))=true:=by
  rw[h0,h1];simp
 show Y3i (if(((kI items.size 0 lo:Nat):Int) == 0&&(1:Int) == 1&&YeA (Y78-Y7m 0 lo))=true then _ else _);rw[if_pos a];unfold Builtin.Tuple.tupleIsExact;refine Y8r (wpAny_typeOf c (Y1F));rw[Ybt];refine Y9t ?_
 first
  | exact Ycv h
  | exact Y2r (Ycv h)
end
end HT
namespace L2
open PySem PySem.W PySem.Spec PySem.Calls PyProof.Rows
def KF{xs:An}{lo hi:Y1c}(h0:Yb7 0 lo=0)(h1:Y68 (Yb7 xs.length hi)):nI xs lo hi=xs:=by
 unfold nI;rw[h0,h1];simp
section
variable{X:Cx}
@[irreducible] def BH(K:Aa):V->Y1c->Y9c:=λx lo hi H Q=>∃a xs,x=Y3/\H a=Y0k/\∀c H',Y0->H' c=Ym (nI xs lo hi)->Y0i c
def kN(K:Aa)(hK:X.K=K:=by rfl):SlR X (BH K):=by
 unfold BH;subst hK;intro e s σ H x v A B n y z Q I m l u j h;obtain⟨a,d,rfl,i,q⟩:=h;by_cases hw:YeD 0 n=0/\YeD d.length y=d.length
 ·cases m;obtain⟨g,r,w,D⟩:=Yb4 i;have c:g.toArray.size=d.length:=by rw[bE];exact r.length.symm
  refine⟨"tuple",_,PyProof.Rows.slot_tuple_getitem.lookup,w.typeIs,HT.tH w l u j (by rw[c];exact hw.1) (by rw[c];exact hw.2) ?_⟩;exact Y2S Y3 H I (q a H (Y07) (by rw[KF hw.1 hw.2];exact i))
 ·exact aAS e s σ H (Y3) v A B n y z Q I m l u j ⟨a,d,rfl,fY.of i,hw,λp C=>q p _ (aX.upd C) bK⟩
def zU{K:Aa}{H:Hp}{a:Addr}{xs:An}{k:Nat}{Q:VK}(h:H a=Y0k)(q:∀c H',Y0->H' c=Ym (xs.take k)->Y0i c):BH K (Y3) none (some (k:Int)) H Q:=by
 unfold BH;exact Y1d a xs h (λc H' s e=>q c H' s (by rw[e,NQ]))
def aAT{K:Aa}{H:Hp}{a:Addr}{xs:An}{k:Nat}{Q:VK}(h:H a=Y0k)(q:∀c H',Y0->H' c=Ym (xs.drop k)->Y0i c):BH K (Y3) (some (k:Int)) none H Q:=by
 unfold BH;exact Y1d a xs h (λc H' s e=>q c H' s (by rw[e,NP]))
def IY(l:Addr)(items:Aj)(n:Nat)(dd:Y11)(sl:Y8K)(u:Tok) :
  Yb8 (Builtin.«tuple.__mul__» ⟨[Y1k,.int 1 u],[]⟩) (Y1W l ({ cls:=.type "tuple",dict:=dd,data:=.seq items n,slots:=sl })/\R (Yc1 Y1k) s) :=
 .of_wp λa w A R s h=>by
  obtain⟨e,g,d,i,m⟩:=s;obtain⟨c,h⟩:=h;have j:=AutoSeq1.idx_int
  wp_walk using YdW
  all_goals first | exact Y6 h | skip
def IZ(l:Addr)(items:Aj)(n:Nat)(dd:Y11)(sl:Y8K)(u:Tok)(he:Yq items.isEmpty) :
  Yb8 (Builtin.«tuple.__mul__» ⟨[Y1k,.int 0 u],[]⟩) (Y1W l ({ cls:=.type "tuple",dict:=dd,data:=.seq items n,slots:=sl })/\R (Yc1 Y24) ({ s with heap:=s.heap.push { cls:=.type "tuple",data:=.seq #[] } })) :=
 .of_wp λa w A R s h=>by
  obtain⟨e,g,d,i,m⟩:=s;obtain⟨c,h⟩:=h;have j:=AutoSeq1.idx_int
  wp_walk using YdW
  all_goals first | exact Y6 h | skip
@[irreducible] def MI:R2:=λx y H Q=>∃a z,∃k:Nat,x=Y3/\y=.int (k:Int)/\H a=Ym [z]/\k<=64/\∀c H',Y0->H' c=Ym (Y4s z)->Y0i c
def TR{H:Hp}{Q:VK}{a:Addr}{z:V}{k:Nat}(h:H a=Ym [z])(hk:k<=64)(q:∀c H',Y0->H' c=Ym (Y4s z)->Y0i c):MI (Y3) (.int (k:Int)) H Q:=by
 unfold MI;exact Y1Z a z k rfl h hk q
def vJ:Y4y X .Mult MI:=by
 unfold MI;intro d s σ H x y v u Q I B A h;obtain⟨a,z,k,rfl,rfl,l,G,q⟩:=h;by_cases h2:2<=k
 ·exact yM d s σ H _ _ v u Q I B A (YJ l h2 G q)
 cases B;obtain⟨t,rfl⟩:=(show ∃t,u=Value.int (k:Int) t from A);obtain⟨D,r,p,_⟩:=Yb4 l;obtain⟨i,rfl,J⟩:=lS r;obtain⟨⟨cls,g,C,e⟩,c,w,n,hd⟩:=id p;simp only at w hd;subst w hd;have m:k=0\/k=1:=Oo;rcases m with rfl | rfl
 ·refine wpAny_binaryOp_repeat_ref (T := "tuple") (U := "int") Dd (Y0m c) (λj=>Y9Q j 0) mE F.fills_int_mul F.slot_int_rmul qS F.slot_int_index.lookup
   (Yfn F.slot_int_rmul (Y9Q s 0) F.entry_int_rmul _ _ (oJ 0 t a [i].toArray n g e) (Y1L c (Y0m c) ?_))
  refine Yff F.slot_tuple_mul (Y0m c) F.entry_tuple_mul _ _ (IZ a [i].toArray n g e t rfl) ⟨c,Y2l (.ref _) (Yc4 (.tup []) (λb L q=>Y0h q) Yn ?_) (q _ _ (aX.upd (Y4u _)) bK)⟩;exact⟨⟨dH _,_,Y17,rfl⟩,[],.nil,YcT _⟩
 ·refine wpAny_binaryOp_repeat_ref (T := "tuple") (U := "int") Dd (Y0m c) (λj=>Y9Q j 1) mE F.fills_int_mul F.slot_int_rmul qS F.slot_int_index.lookup
   (Yfn F.slot_int_rmul (Y9Q s 1) F.entry_int_rmul _ _ (oJ 1 t a [i].toArray n g e) (Y1L c (Y0m c) ?_))
  exact Yff F.slot_tuple_mul (Y0m c) F.entry_tuple_mul _ _ (IY a [i].toArray n g e t) ⟨c,Y2S Y3 H I (q a H (Y07) l)⟩
end
end L2
namespace HT
open PySem PySem.W PyProof.Rows
def dY{α:Type}(n:Nat)(lt:Nat->Y86)(R:Y0Z α):Y0Z (KasT α)
 | .ret a=>R a
 | .ask i j k=>i<n/\j<n/\dY n lt R (k (lt i j))
section
variable{n:Nat}{lt:Nat->Y86}
theorem dY.bind{α β:Type}{R:Y0Z α}{S:Y0Z β}{f:α->KasT β}:∀{t:KasT α},Y3a R t->(∀a,R a->Y3a S (f a))->Y3a S (t.bind f)
 | .ret a,h,k=>k a h
 | .ask i j t,⟨h1,h2,h3⟩,k=>⟨h1,h2,dY.bind (t:=t (lt i j)) h3 k⟩
theorem dY.wp{α:Type}{R:Y0Z α}{cmp:Nat->Nat->Y26 (Y26 Bool)}{Q:Y26 α}{s:Shared}(hc:∀i j C,i<n->j<n->C (lt i j) s->cmp i j C s)(q:∀a,R a->Q a s) :
  ∀{t:KasT α},Y3a R t->t.kasWp cmp Q s
 | .ret a,h=>q a h
 | .ask i j t,⟨h1,h2,h3⟩=>hc i j _ h1 h2 (dY.wp (t:=t (lt i j)) hc q h3)
def iL(n:Nat)(p:Y0E):Prop:=p.Perm (Ydn n)
def iL.bd{p:Y0E}(g:Y23)(hn:0<n)(i:Nat):Y5T i<n:=by
 by_cases hi:i<p.size
 ·have e:Y5T i=p[i]:=by simp[Array.getD,hi]
  rw[e];have m:p[i]∈Ydn n:=(Array.Perm.mem_iff g).mp (Array.getElem_mem hi);simpa using m
 ·have e:Y5T i=0:=by simp[Array.getD,hi]
  rw[e];exact hn
def iL.rev{p:Y0E}(g:Y23)(i j:Nat):iL n (kas_rev p i j):=(mirror_perm p i j _).trans g
def iL.bub{p:Y0E}(g:Y23)(i j:Nat):iL n (bubble p i j):=(bubble_perm p i j).trans g
theorem EY{p:Y0E}(g:Y23)(hn:0<n):∀(f m:Nat),Y3a (λ_=>True) (kas_asc p f m)
 | 0,m=>True.intro
 | f+1,m=>⟨g.bd hn _,g.bd hn _,by
  cases lt (p.getD m 0) (p.getD (m-1) 0)with
  | true=>exact True.intro
  | false=>exact EY g hn f (m+1)⟩
theorem wA(hn:0<n):∀(f:Nat) {p:Y0E}(g:Y23) (m q:Nat),YbQ (iL n r.1) (kas_desc f p m q)
 | 0,p,g,m,q=>g
 | f+1,p,g,m,q=>by
  refine⟨g.bd hn _,g.bd hn _,?_⟩;cases lt (p.getD m 0) (p.getD (m-1) 0)with
  | true =>
   show dY n lt _ (if q > 0 then _ else _);split
   ·exact wA hn f (g.rev _ _) _ _
   ·exact wA hn f g _ _
  | false =>
   refine⟨g.bd hn _,g.bd hn _,?_⟩;cases lt (p.getD (m-1) 0) (p.getD m 0)with
   | true=>exact g
   | false=>exact wA hn f g _ _
def CT{p:Y0E}(g:Y23)(hn:0<n)(m r:Nat):YbQ (iL n r.2) (kas_tail3 m r p):=by
 unfold kas_tail3;exact(EY (g.rev 0 m) hn _ _).bind λ_ _=>g.rev 0 m
def vZ{p:Y0E}(g:Y23)(hn:0<n)(m r:Nat):YbQ (iL n r.2) (kas_descPart m r p):=by
 unfold kas_descPart;refine(wA hn _ g _ _).bind λr a=>?_;split
 ·exact CT (iL.rev a _ _) hn _ _
 ·exact CT a hn _ _
def QL{p:Y0E}(g:Y23)(hn:0<n)(m:Nat):YbQ (iL n r.2) (kas_count m p):=by
 unfold kas_count;refine(EY g hn _ _).bind λk _=>?_;split
 ·exact g
 ·split
  ·refine Y08 (g.bd hn _) (g.bd hn _);cases Y6g 0 (k-1)with
   | true=>exact g
   | false=>exact vZ (g.rev _ _) hn _ _
  ·exact vZ g hn _ _
theorem wZ{p:Y0E}(g:Y23)(hn:0<n)(k:Nat):∀(f l r:Nat),Y3a (λ_=>True) (kas_place p k f l r)
 | 0,l,r=>True.intro
 | f+1,l,r=>by
  unfold kas_place;split
  ·exact True.intro
  ·refine⟨g.bd hn _,g.bd hn _,?_⟩;cases lt (p.getD k 0) (p.getD ((l+r)/2) 0)with
   | true=>exact wZ g hn k f _ _
   | false=>exact wZ g hn k f _ _
theorem NZ(hn:0<n):∀(f:Nat) {p:Y0E}(g:Y23) (k:Nat),Y3a (iL n) (kas_bin f p k)
 | 0,p,g,k=>g
 | f+1,p,g,k=>by
  unfold kas_bin;exact(wZ g hn k _ _ _).bind λl _=>NZ hn f (g.bub _ _) _
def VI(hn:0<n):Y3a (iL n) (kas_sort n):=by
 unfold kas_sort;refine(QL (Array.Perm.refl _) hn n).bind λr a=>?_;split
 ·exact NZ hn _ a _
 ·exact a
end
structure FL(n:Nat)(lt:Nat->Y86):Prop where
 tot:∀i j,i<n->j<n->i≠j->Yq (lt i j)->lt j i=true
 tra:∀i j k,lt i j=true->lt j k=true->lt i k=true
def BD(lt:Nat->Y86)(p:Y0E)(m:Nat):Prop:=∀a b,a<b->b<m->Y6g a b=true
def Dsc(lt:Nat->Y86)(p:Y0E)(m:Nat):Prop:=∀a b,a<b->b<m->Y6g b a=true
section
variable{n:Nat}{lt:Nat->Y86}
theorem dY.mono{α:Type}{R S:Y0Z α}(k:∀a,R a->S a):∀{t:KasT α},Y3a R t->Y3a S t
 | .ret a,h=>k a h
 | .ask i j t,⟨h1,h2,h3⟩=>⟨h1,h2,dY.mono k (t:=t (lt i j)) h3⟩
theorem iL.size{p:Y0E}(g:Y23):p.size=n:=by
 have:=(Array.perm_iff_toList_perm.mp g).length_eq;simpa using this
def iL.ne{p:Y0E}(g:Y23){i j:Nat}(hi:i<n)(hj:j<n)(h:i≠j):Y5T i≠Y5T j:=by
 have d:p.toList.Nodup:=(Array.perm_iff_toList_perm.mp g).nodup_iff.mpr (by simpa using List.nodup_range);have a:=g.size;have c:p.getD i 0=p.toList[i]'(by simpa[a]using hi):=by simp[Array.getD,a,hi]
 have l:p.getD j 0=p.toList[j]'(by simpa[a]using hj):=by simp[Array.getD,a,hj]
 rw[c,l];intro e;exact h ((List.getElem_inj d).mp e)
def BD.one{p:Y0E}:BD lt p 1:=λa b d c=>Oo
def BD.more(O:FL n lt){p:Y0E}(g:Y23){m:Nat}(h:BD lt p m)(h1:1<=m)(hm:m<n)(e:Yq (Y6g m (m-1))):BD lt p (m+1):=λa b c j=>by
 by_cases q:b<m
 ·exact h a b c q
 ·have i:b=m:=Oo;subst i;have d:Y6g (b-1) b=true:=O.tot _ _ (g.bd Oo _) (g.bd Oo _) (g.ne Oo Oo Oo) e;by_cases r:a=b-1
  ·rw[r];exact d
  ·exact O.tra _ _ _ (h a (b-1) Oo Oo) d
theorem EW(O:FL n lt){p:Y0E}(g:Y23):∀(f m:Nat),1<=m->m+f<=n->BD lt p m->Y3a (λk=>m<=k/\k<=m+f/\BD lt p k/\(k<m+f->Y6g k (k-1)=true)) (kas_asc p f m)
 | 0,m,_,_,h=>⟨aL _,aL _,h,λq=>Oo⟩
 | f+1,m,h1,hm,h=>by
  refine⟨g.bd Oo _,g.bd Oo _,?_⟩;cases e:lt (p.getD m 0) (p.getD (m-1) 0)with
  | true=>exact⟨aL _,Oo,h,λ_=>e⟩
  | false =>
   refine(show dY n lt _ (kas_asc p f (m+1))from ?_);have ih:=EW O g f (m+1) Oo Oo (h.more O g h1 Oo e);exact dY.mono (λk ⟨d,i,c,a⟩=>⟨Oo,Oo,c,λq=>a Oo⟩) ih
def Dsc.more(O:FL n lt){p:Y0E}{m:Nat}(h:Dsc lt p m)(h1:1<=m)(e:Y6g m (m-1)=true):Dsc lt p (m+1):=λa b c g=>by
 by_cases q:b<m
 ·exact h a b c q
 ·have d:b=m:=Oo;subst d;by_cases r:a=b-1
  ·rw[r];exact e
  ·exact O.tra _ _ _ e (h a (b-1) Oo Oo)
theorem HH(O:FL n lt){p:Y0E}(g:Y23):∀(f m:Nat),1<=m->m+f<=n->Dsc lt p m->YbQ (r.1=p/\r.2.2=0/\m<=r.2.1/\r.2.1<=m+f/\Dsc lt p r.2.1) (kas_desc f p m 0)
 | 0,m,_,_,h=>⟨rfl,rfl,aL _,aL _,h⟩
 | f+1,m,h1,hm,h=>by
  refine⟨g.bd Oo _,g.bd Oo _,?_⟩;cases e:lt (p.getD m 0) (p.getD (m-1) 0)with
  | true =>
   refine(show dY n lt _ (kas_desc f p (m+1) 0)from ?_);exact dY.mono (λr ⟨a1,a2,a3,a4,a5⟩=>⟨a1,a2,Oo,Oo,a5⟩) (HH O g f (m+1) Oo Oo (h.more O h1 e))
  | false =>
   refine⟨g.bd Oo _,g.bd Oo _,?_⟩;rw[O.tot _ _ (g.bd Oo _) (g.bd Oo _) (g.ne Oo Oo Oo) e];exact⟨rfl,rfl,aL _,(show m<=m+(f+1)by exact Oo),h⟩
def SM{p:Y0E}{m i:Nat}(hm:m<=p.size):(kas_rev p 0 m).getD i 0=if i<m then Y5T (m-1-i) else Y5T i:=by
 have e:=getElem?_mirror (xs:=p) (i:=0) (j:=m) hm (m/2) Oo i;have a:(kas_rev p 0 m)[i]?=if(0<=i/\i<0+m/2)\/(m-m/2<=i/\i<m) then p[0+m-1-i]? else p[i]?:=e
 have g:∀(q:Y0E) (k:Nat),q.getD k 0=q[k]?.getD 0:=λq k=>by simp[Array.getD_eq_getD_getElem?]
 rw[g,a,g,g];by_cases h:i<m
 ·rw[Yan];by_cases h2:(0<=i/\i<0+m/2)\/(m-m/2<=i/\i<m)
  ·rw[Yd8,show 0+m-1-i=m-1-i by exact Oo]
  ·rw[Yda,show m-1-i=i by exact Oo]
 ·rw[Y7T,Y8W]
def Dsc.rev{p:Y0E}{m:Nat}(h:Dsc lt p m)(hm:m<=p.size):BD lt (kas_rev p 0 m) m:=λa b d c=>by
 rw[SM hm,SM hm,Y5p,if_pos c];exact h _ _ Oo Oo
def QC(O:FL n lt){p:Y0E}(g:Y23)(hn:2<=n):YbQ (iL n r.2/\1<=r.1/\r.1<=n/\BD lt r.2 r.1) (kas_count n p):=by
 unfold kas_count;refine(EW O g (n-1) 1 (aL _) Oo BD.one).bind λk ⟨d,G,c,z⟩=>?_;split
 ·exact⟨g,d,by show k<=n;exact Oo,c⟩
 ·rename_i hk
  have A:k≠n:=λe=>hk (by simp[e]);split
  ·refine Y08 (g.bd Oo _) (g.bd Oo _);rw[c 0 (k-1) Oo Oo];exact⟨g,d,by show k<=n;exact Oo,c⟩
  ·have y:k=1:=Oo;subst y;unfold kas_descPart;have u:Dsc lt p 2:=λa b s D=>by
    have e:a=0/\b=1:=Oo;rw[e.1,e.2];exact z Oo
   refine(HH O g (n-2) 2 Oo Oo u).bind λr ⟨i,h,x,w,l⟩=>?_;obtain⟨I,m,q⟩:=r;dsimp only at i h x w l ⊢;subst i h;rw[Y7M];unfold kas_tail3;have J:=g.size;exact(EW O (g.rev 0 m) (n-m) m Oo Oo (l.rev Oo)).bind λj ⟨C,L,B,_⟩=>⟨g.rev 0 m,(show 1<=j by exact Oo),(show j<=n by exact Oo),B⟩
theorem wO(O:FL n lt){p:Y0E}(g:Y23){k:Nat}(hk:k<n)(h:BD lt p k):∀(f l r:Nat),l<=r->r<=k->r-l<=f->(∀a,a<l->Y6g a k=true)->(∀a,r<=a->a<k->Y6g k a=true) ->
  Y3a (λm=>m<=k/\(∀a,a<m->Y6g a k=true)/\∀a,m<=a->a<k->Y6g k a=true) (kas_place p k f l r)
 | 0,l,r,h1,h2,h3,h4,h5=>⟨Oo,h4,λa q1 q2=>h5 a Oo q2⟩
 | f+1,l,r,h1,h2,h3,h4,h5=>by
  unfold kas_place;split
  ·exact⟨Oo,h4,λa q1 q2=>h5 a Oo q2⟩
  ·refine⟨g.bd Oo _,g.bd Oo _,?_⟩;cases e:lt (p.getD k 0) (p.getD ((l+r)/2) 0)with
   | true =>
    refine(show dY n lt _ (kas_place p k f l ((l+r)/2))from ?_);refine wO O g hk h f l ((l+r)/2) Oo Oo Oo h4 λa q1 q2=>?_;by_cases q:a=(l+r)/2
    ·rw[q];exact e
    ·exact O.tra _ _ _ e (h _ _ Oo q2)
   | false =>
    refine(show dY n lt _ (kas_place p k f ((l+r)/2+1) r)from ?_);have e2:=O.tot _ _ (g.bd Oo _) (g.bd Oo _) (g.ne hk Oo Oo) e;refine wO O g hk h f ((l+r)/2+1) r Oo Oo Oo (λa q1=>?_) h5;by_cases q:a=(l+r)/2
    ·rw[q];exact e2
    ·exact O.tra _ _ _ (h a ((l+r)/2) Oo Oo) e2
def VC{p:Y0E}{k m i:Nat}(hk:k<p.size)(hm:m<=k):(bubble p k (k-m)).getD i 0=if i=m then Y5T k else if m<i/\i<=k then Y5T (i-1) else Y5T i:=by
 have e:=getElem?_bubble (xs:=p) hk (k-m) Oo i;have g:∀(q:Y0E) (k:Nat),q.getD k 0=q[k]?.getD 0:=λq k=>by simp[Array.getD_eq_getD_getElem?]
 rw[g,e,g,g,g,show k-(k-m)=m by exact Oo];by_cases h:i=m
 ·rw[Yan,Yan]
 ·rw[Y7T,Y7T];by_cases h2:m<i/\i<=k
  ·rw[Yd8,Yd8]
  ·rw[Yda,Yda]
theorem NW(O:FL n lt):∀(f:Nat) {p:Y0E}(g:Y23) (k:Nat),k+f=n->BD lt p k->Y3a (λp=>Y23/\BD lt p n) (kas_bin f p k)
 | 0,p,g,k,hk,h=>⟨g,by rw[<-hk];exact h⟩
 | f+1,p,g,k,hk,h=>by
  unfold kas_bin;refine(wO O g Oo h k 0 k Oo Oo Oo (λa q=>Oo) (λa q1 q2=>Oo)).bind λm ⟨m1,m2,m3⟩=>?_;have hs:=g.size;refine NW O f (g.bub _ _) (k+1) Oo λa b c d=>?_;rw[VC Oo m1,VC Oo m1];by_cases ha:a=m
  ·rw[if_pos ha,if_neg Oo,if_pos Oo];exact m3 _ Oo Oo
  ·rw[if_neg ha];by_cases hb':b=m
   ·rw[if_pos hb',if_neg Oo];exact m2 a Oo
   ·rw[if_neg hb'];by_cases q1:m<a/\a<=k
    ·rw[if_pos q1,if_pos Oo];exact h _ _ Oo Oo
    ·rw[if_neg q1];by_cases q2:m<b/\b<=k
     ·rw[if_pos q2];exact h _ _ Oo Oo
     ·rw[if_neg q2];exact h _ _ c Oo
def SC(O:FL n lt)(hn:2<=n):Y3a (λp=>Y23/\BD lt p n) (kas_sort n):=by
 unfold kas_sort;refine(QC O (Array.Perm.refl _) hn).bind λr ⟨c,d,g,a⟩=>?_;split
 ·rename_i q
  rw[Nat.max_eq_left d];exact NW O _ c _ Oo a
 ·rename_i q
  have e:r.1=n:=Oo;exact⟨c,e ▸ a⟩
end
end HT
namespace L2
open PySem PySem.Spec PySem.W PyProof.Rows HT
def LO{x:V}{xs:An}{us:Ah}(r:Y3x (x::xs)):∃u us',us=u::us'/\eI x u/\dO xs us':=by
 cases r with
 | cons h t=>exact Y1C _ h t
def GZ(fin:Bool):Ag->Y2a Ag
 | x::a,y::b=>if x=y then GZ fin a b else decide (x<y)
 | _,_=>fin
def lQ(a b:Ag):Bool:=GZ (Y34 a.length b.length) a b
def AG(a:Ag):Yq (lQ a []):=by
 unfold lQ;cases a <;> rfl
def EI(y:Int)(b:Ag):lQ [] (y::b)=true:=by unfold lQ;rfl
def vN(x y:Int)(a b:Ag):lQ (x::a) (y::b)=if x=y then lQ a b else Y34 x y:=by
 show(if x=y then GZ (Y34 ((x::a).length) ((y::b).length)) a b else Y34 x y)=_;rw[cE,cE,show decide (a.length+1<b.length+1)=decide (a.length<b.length)by simp]
 rfl
theorem MV:∀{a b:Ag},a≠b->Yq (lQ a b)->lQ b a=true
 | [],[],h,_=>absurd rfl h
 | [],y::b,_,e=>by rw[EI]at e;cases e
 | x::a,[],_,_=>EI _ _
 | x::a,y::b,h,e=>by
  rw[vN]at e ⊢;by_cases q:x=y
  ·subst q;rw[if_pos rfl]at e ⊢;exact MV (λz=>h (by rw[z])) e
  ·rw[if_neg q]at e;rw[if_neg (Ne.symm q)];have:=of_decide_eq_false e;exact bV Oo
theorem EG:∀{a b c:Ag},lQ a b=true->lQ b c=true->lQ a c=true
 | a,b,[],_,h=>by rw[AG]at h;cases h
 | [],b,z::c,_,_=>EI _ _
 | x::a,[],z::c,h,_=>by rw[AG]at h;cases h
 | x::a,y::b,z::c,h1,h2=>by
  rw[vN]at h1 h2 ⊢;by_cases q1:x=y
  ·subst q1;rw[if_pos rfl]at h1;by_cases q2:x=z
   ·subst q2;rw[if_pos rfl]at h2 ⊢;exact EG h1 h2
   ·rw[if_neg q2]at h2 ⊢;exact h2
  ·rw[if_neg q1]at h1;have h1:=of_decide_eq_true h1;by_cases q2:y=z
   ·subst q2;rw[if_neg q1];exact bV h1
   ·rw[if_neg q2]at h2;have h2:=of_decide_eq_true h2;rw[if_neg Oo];exact bV Oo
def EH{a:Ag}:Yq (lQ a a):=by
 induction a with
 | nil=>exact AG _
 | cons x a ih=>rw[vN,Y12];exact ih
theorem vM:∀{l m:Ac},l.Pairwise (λa b=>lQ a b=true)->m.Pairwise (λa b=>lQ a b=true)->(∀x,x∈l↔x∈m)->l=m
 | [],[],_,_,_=>rfl
 | [],y::m,_,_,h=>by have:=(h y).mpr (aV ..);cases this
 | x::l,[],_,_,h=>by have:=(h x).mp (aV ..);cases this
 | x::l,y::m,h1,h2,h=>by
  obtain⟨c,i⟩:=List.pairwise_cons.mp h1;obtain⟨d,g⟩:=List.pairwise_cons.mp h2;have e:x=y:=by
   rcases bD.mp ((h x).mp (aV ..))with q | q
   ·exact q
   ·rcases bD.mp ((h y).mpr (aV ..))with r | r
    ·exact r.symm
    ·have:=EG (d x q) (c y r);rw[EH]at this;cases this
  subst e;rw[vM i g λz=>?_];constructor
  ·intro q;rcases bD.mp ((h z).mp (aZ _ q))with r | r
   ·subst r;have:=c z q;rw[EH]at this;cases this
   ·exact r
  ·intro q;rcases bD.mp ((h z).mpr (aZ _ q))with r | r
   ·subst r;have:=d z q;rw[EH]at this;cases this
   ·exact r
abbrev IN(cs:Ac):Nat->Y86:=λi j=>lQ (Yaf []) (cs.getD j [])
def TH{cs:Ac}(h:cs.Nodup):FL cs.length (IN cs):=⟨λi j m a ne e=>MV (λz=>by
  have d:Yaf []=cs[i]:=by simp[m]
  have g:cs.getD j []=cs[j]:=by simp[a]
  rw[d,g]at z;exact ne ((List.getElem_inj h).mp z)) e,λi j k l c=>EG l c⟩
section
variable{prog:Program}{w:World}{A:Around}{E:Y5}{s:Shared}{Q:Y26 Bool}
theorem xM{fin:Bool}:∀{a b:Ag}{us vs:Ah}{i:Nat},Y3x (a.map V.int)->dO (b.map V.int) vs->Q (GZ fin a b) s->KatLex prog w A true fin Q (us.zip vs) i s
 | [],b,us,vs,i,ha,hb,q=>by cases ha;exact kat_nil (by unfold GZ at q;exact q)
 | x::a,[],us,vs,i,ha,hb,q=>by
  cases hb;cases us with
  | nil=>exact kat_nil (by unfold GZ at q;exact q)
  | cons u us=>exact kat_nil (by unfold GZ at q;exact q)
 | x::a,y::b,us,vs,i,ha,hb,q=>by
  rw[bJ]at ha hb;obtain⟨u,us',rfl,⟨t,rfl⟩,ra⟩:=LO ha;obtain⟨v,d,rfl,⟨e,rfl⟩,c⟩:=LO hb;rw[List.zip_cons_cons];refine kat_cons (wpAny_eqBool_int ?_);unfold GZ at q;by_cases h:x=y
  ·rw[if_pos h]at q;rw[show(x == y)=true by simp[h]];exact kat_yes (xM ra c q)
  ·rw[if_neg h]at q;rw[show(x == y)=false by simp[h]];refine kat_no ?_;cases(true&&i == 0)with
   | true=>exact oneLt_int q
   | false=>exact kat_one _ _ (lt_int q)
def aAy(h:Heap)(v:Value)(c:Ag):Prop:=∃b its,v=Y0z/\IsTup h b (List.toArray its)/\dO (Yca) its/\c≠[]
abbrev kW(h:Heap):Y0u Ah Ac:=Paired (aAy h)
theorem kW.get{h:Heap}:∀{vs:Ah}{cs:Ac}{i:Nat},kW h vs cs->i<vs.length->aAy h (YaV i) (Yaf [])
 | _,_,_,.nil,hi=>by simp at hi
 | _,_,0,.cons t r,hi=>t
 | v::vs,c::cs,i+1,.cons t r,hi=>by
  have:=kW.get (i:=i) r (by simpa using hi);simpa using this
theorem kW.firsts{h:Heap}:∀{vs:Ah}{cs:Ac},kW h vs cs->∃fs,KatTups h vs fs/\Y5q vs.length/\∀v∈fs,∃i t,v=Value.int i t
 | _,_,.nil=>⟨[],KatTups.nil,rfl,λv hv=>by cases hv⟩
 | v::vs,c::cs,.cons t r=>by
  obtain⟨fs,h1,h2,h3⟩:=kW.firsts r;obtain⟨b,d,rfl,⟨o,e,g,n,hd⟩,hv,a⟩:=t;cases c with
  | nil=>exact absurd rfl a
  | cons x c =>
   rw[bJ]at hv;obtain⟨u,j,rfl,⟨t,rfl⟩,_⟩:=LO hv;exact⟨.int x t::fs,KatTups.cons e g hd (by simp) h1,by simp[h2],λv hv=>by
    rcases bD.mp hv with rfl | hv
    ·exact⟨_,_,rfl⟩
    ·exact h3 v hv⟩
theorem kW.keep{h h':Heap}(k:Y0I (Y0M=Y7) (o.cls=.type "tuple" -> Y0n=Y7)):∀{vs:Ah}{cs:Ac},kW h vs cs->kW h' vs cs
 | _,_,.nil=>.nil
 | _,_,.cons ⟨b,its,e,⟨o,ho,hc,hd⟩,hv,hne⟩ r=>.cons ⟨b,its,e,⟨o,k b o ho hc,hc,hd⟩,hv,hne⟩ (kW.keep k r)
def SD{n:Nat}{lt:Nat->Y86}(hn:2<=n):Y3a (λp=>Y23/\(FL n lt->BD lt p n)) (kas_sort n):=by
 by_cases O:FL n lt
 ·exact dY.mono (λp h=>⟨h.1,λ_=>h.2⟩) (SC O hn)
 ·exact dY.mono (λp h=>⟨h,YcR z O⟩) (VI Oo)
def BT{a:Addr}{vs:Ah}{cs:Ac}{n:Nat}{P:Y26 PySem.Fin}(ho:Y1W a (Yg0 "list" n))(ht:kW s.heap vs cs)(h64:vs.length<64)
  (h:∀p:Array Nat,Y9O p->(Yap->Yaq p)->P (YcI .none) { s with heap:=sortedHeap s.heap a vs (List.toArray (p.toList.map λi=>vs.getD i Value.none)) }) :
  wpAny (model prog w) A (Builtin.«list.sort» ⟨Y3b,[]⟩) P E s:=by
 rw[list_sort_plain];have γ:Y4v a:=aY ho;refine wpAny_bind (listItems_at ho rfl ?_);refine wpAny_bind (listUpdate_at ho rfl ?_ (by rw[bE,sizeLine_eq];exact Oo) (dH _));obtain⟨M,y⟩:∃M,(s.heap.update a (Obj.mapSeq λ_=>#[])).get? a=Y8H "list" (#[]) M:=Y0C (Ycd ho (#[]));refine Yfm y rfl ?_;refine wpAny_bind (wpAny_newTuple ?_ (by show vs.length<=_;rw[sizeLine_eq];exact Oo));refine Yf8 ?_ (dH _);refine Ye2;have d:(((s.heap.update a (Obj.mapSeq λ_=>#[])).push (seqObj "tuple" vs.toArray 0)).push (seqObj "list" #[] 0)).get? a=Y8H "list" (#[]) M:=by
  rw[Ye4 _ _ (by rw[size_push',Heap.size_update];exact Yfd γ),Ye4 _ _ (by rw[Heap.size_update];exact cK γ)];exact y
 show wpAny (model prog w) A _ P E ({ s with heap:=((s.heap.update a (Obj.mapSeq λ_=>#[])).push (seqObj "tuple" vs.toArray 0)).push (seqObj "list" #[] 0) });dsimp only;have r:∀c:SortSt,∀p:Array Nat,Y9O p->(Yap->Yaq p)->(arrOf c).map (·.2)=Yc0 (λi=>YaV i) ->
   P (YcI .none) { s with heap:=sortedHeap s.heap a vs ((arrOf c).map (·.2)) }:=by
  intro c p z ho ξ;rw[ξ];exact h p z ho
 have l:kW (((s.heap.update a (Obj.mapSeq λ_=>#[])).push (seqObj "tuple" vs.toArray 0)).push (seqObj "list" #[] 0)) vs cs:=ht.keep λb o u β=>by
  have L:b≠a:=λe=>by
   subst e;rw[ho]at u;cases u;exact absurd (show Value.type "list" = Value.type "tuple" from β) Dd
  exact Y66 (by rw[gP _ _ _ _ L];exact u)
 by_cases h2:vs.toArray.size<2
 ·rw[Yd8,Yd8];refine Y2r ?_;rw[StateT.run_pure];refine Y2r ?_;dsimp only;refine Yfm d rfl ?_;refine wpAny_bind (listUpdate_at d rfl ?_ (hsz2:=by rw[Array.size_map];show(pairsOf vs).size<=_;rw[pairsOf_size,sizeLine_eq];exact Oo));simp only[bne_self_eq_false,Bool.false_eq_true,if_false];refine wpAny_pure (r (SortSt.mk' general' (Ydm) #[] 7 none) (Ydn vs.length) (Array.Perm.refl _) (λ_ a b χ h3=>by rw[bE]at h2;exact Oo) ?_);have e:=kat_snds (ks:=vs) (vs:=vs) (st:=SortSt.mk' general' (Ydm) #[] 7 none) (p:=Ydn vs.length) rfl (by
   have e:=kas_range (Ydm);rw[show(vs.toArray.zip vs.toArray).size=vs.length by simp]at e;exact e.symm)
  exact e
 ·rw[Yda,Yda];have m:2<=vs.length:=by rw[bE]at h2;exact Oo
  obtain⟨fs,ζ,υ,ν⟩:=l.firsts;refine wpAny_bind (kat_kind (T:=.type "int") ζ Oo (λv D=>?_) rfl ?_)
  ·obtain⟨i,t,rfl⟩:=ν v D;exact .now
  refine wpAny_bind (wpAny_mono (kat_run (ks:=vs) (vs:=vs) (G:=λp x=>x={ s with heap:=((s.heap.update a (Obj.mapSeq λ_=>#[])).push (seqObj "tuple" vs.toArray 0)).push (seqObj "list" #[] 0) }/\Y9O p/\(Yap->Yaq p))
   (Q:=λc x=>x={ s with heap:=((s.heap.update a (Obj.mapSeq λ_=>#[])).push (seqObj "tuple" vs.toArray 0)).push (seqObj "list" #[] 0) }/\failedOf c=none/\∃p:Array Nat,p.size=vs.length/\(Y9O p/\(Yap->Yaq p))/\arrOf c=p.map (kas_item (Ydm)))
   rfl m h64 (λθ c x δ ο ρ Z=>⟨Z.1,ρ,θ,δ,Z.2,ο⟩)
   (dY.wp (n:=vs.length) (lt:=IN cs) (R:=λp=>Y9O p/\(Yap->Yaq p)) (λi j C τ κ η=>?_) (λp z=>Y1b z) (SD m))) ?_ Yb1)
  ·obtain⟨b,ε,J,⟨o,u,β,φ,hd⟩,D,_⟩:=l.get τ;obtain⟨ω,X,O,⟨o2,I,ι,ψ,S⟩,B,_⟩:=l.get κ;unfold kas_ask;rw[J,O];refine kat_lt u hd I S (xM D B ?_);have W:=D.length;have α:=B.length;rw[aB]at W α;rw[bE,bE,<-W,<-α];exact η
  rintro⟨⟨⟩,c⟩ x ⟨rfl,μ,p,z,U,N⟩;dsimp only;have g:=kat_snds rfl N;refine Yfm d rfl ?_;refine wpAny_bind (listUpdate_at d rfl ?_ (hsz2:=by rw[g,bE,aB,Array.length_toList,z,sizeLine_eq];exact Oo));rw[μ];simp only[bne_self_eq_false,Bool.false_eq_true,if_false];exact wpAny_pure (r c p U.1 U.2 g)
def GD{l:Addr}{vs:Ah}{cs:Ac}{Q:Y5}(hl:s.heap.IsList l vs.toArray)(ht:kW s.heap vs cs)(h64:vs.length<64)
  (h:∀(p:Y0E) (h':Heap) (D:Addr) (c:Nat),Y9O p->(Yap->Yaq p)->(Y6u (Y0n=Y7))->Ye1 D->Y5V D (Y8H "list" (Yc0 (λi=>YaV i)) c)->Y10 D ({ s with heap:=h' })) :
  Y0V (Y8B "sorted" [Y1k]):=by
 refine Calls.call_function_entry kind_sorted plain_sorted entry_sorted (args_sorted1 _) ?_;unfold Builtin.«sorted»;refine wpAny_bind (m:=checkCount "sorted" 1 1 _) (Y1F);refine wpAny_bind (collect_list hl ?_ (by rw[sizeLine_eq];exact Oo));refine Yf8 ?_ (by rw[sizeLine_eq];exact Oo);have e:((s.heap.push (seqObj "list" #[] 0)).update s.heap.objs.size (Obj.mapSeq (· ++ vs.toArray))).objs.size=Y2h 1:=by
  rw[Heap.size_update,size_push']
 have d:(((s.heap.push (seqObj "list" #[] 0)).update s.heap.objs.size (Obj.mapSeq (· ++ vs.toArray))).push (seqObj "list" vs.toArray 0)).get? (Y2h 1)=Y8H "list" vs.toArray 0:=by
  rw[<-e];exact Y17
 have keep:Y6u ((((s.heap.push (seqObj "list" #[] 0)).update s.heap.objs.size (Obj.mapSeq (· ++ vs.toArray))).push (seqObj "list" vs.toArray 0)).get? b=Y7):=λb o q=>by
  have a:Y4v b:=aY q;rw[Ye4 _ _ (by rw[e];exact Yfd a),gP _ _ _ _ (cK a),Ye4 _ _ (cK a)];exact q
 show Y4A _ ({ s with heap:=((s.heap.push (seqObj "list" #[] 0)).update s.heap.objs.size (Obj.mapSeq (· ++ vs.toArray))).push (seqObj "list" vs.toArray 0) });rw[e];refine YaN (wpAny_call_entry slot_list_sort (Y0m d) entry_list_sort ?body (args_list_sort _));generalize hH:((s.heap.push (seqObj "list" #[] 0)).update s.heap.objs.size (Obj.mapSeq (· ++ vs.toArray))).push (seqObj "list" vs.toArray 0)=j at *;refine BT (s:={ s with heap:=j }) d (ht.keep λb o y _=>keep b o y) h64 λp u n=>Yc3 Y4;unfold sortedHeap;have r:(j.update (s.heap.objs.size+1) (Obj.mapSeq λ_=>#[])).get? (Y2h 1)=Y8H "list" (#[]) _:=Ycd d (#[]);have x:=aC (seqObj "list" #[] 0) (aC (Yg0 "tuple" 0) r);refine h p _ (Y2h 1) _ u n (λb o q=>?_) (Nat.le_succ _) (Ycd x (Yc0 (λi=>YaV i)));have a:Y4v b:=aY q;have g:b≠Y2h 1:=Yfd a;rw[gP _ _ _ _ g];exact Y66 (by rw[gP _ _ _ _ g];exact keep b o q)
end
@[irreducible] def yL(K:Aa):Y1o:=λxs H Q=>∃(p:Addr) (ys:An) (cs:Ac),xs=Y5N/\gW K H p ys/\Y8J Y95 ys/\(∀c∈cs,c≠[])/\ys.length<64 /\
 ∀q (ix:Af) H',Yfq ys.length->(cs.Nodup->(ix.map λi=>cs.getD i []).Pairwise λa b=>lQ a b=true)->H q=none->H' q=Y05 (Ya8 (ys.getD i .non))->Y0->Y0i q
def rsrt{K:Aa}{H:Hp}{Q:VK}{p:Addr}{ys:An}{cs:Ac}(h:gW K H p ys)(r:Y8J Y95 ys)(hc:∀c∈cs,c≠[])(hz:ys.length<64)
  (q:∀q (ix:Af) H',Yfq ys.length->(cs.Nodup->(ix.map λi=>cs.getD i []).Pairwise λa b=>lQ a b=true)->H q=none->H' q=Y05 (Ya8 (ys.getD i .non))->Y0->Y0i q):yL K Y5N H Q:=by
 unfold yL;exact Y2w p ys cs h r hc hz q
theorem DI{X:Cx}{pins:Ae}{σ:St}{H:Hp}{s:Shared}(I:Y1):∀{cs:Ac}{ys:An}{us:Ah},Y8J Y95 ys->(∀c∈cs,c≠[])->Y3x ys->kW s.heap us cs
 | [],ys,us,r,hc,v=>by
  unfold aH at r;cases(show ys=[]from r);cases v;exact .nil
 | c::cs,ys,us,r,hc,v=>by
  rw[bJ]at r;unfold aH at r;obtain⟨y,ys',rfl,r1,r2⟩:=r;obtain⟨u,w,rfl,rv,m⟩:=LO v;refine .cons ?_ (DI I r2 (λc h=>hc c (aZ _ h)) m);unfold bI at r1;obtain⟨a,i,rfl,l,d⟩:=r1;cases rv;obtain⟨e,j,B,g⟩:=I.tuple (fY.of l);have n:i=c.map V.int:=by
   clear j l hc g
   induction c generalizing i with
   | nil=>unfold aH at d;exact d
   | cons z c ih =>
    rw[bJ]at d;unfold aH at d;obtain⟨x,p,rfl,A,C⟩:=d;cases(show x=V.int z from A);rw[ih _ C];rfl
  subst n;exact⟨a,e,rfl,B,j,hc c (aV ..)⟩
theorem DG{ys:An}{us:Ah}(v:Y3x ys):∀ix:Af,(∀i∈ix,i<ys.length)->dO (Ya8 (ys.getD i .non)) (Ya8 (us.getD i Value.none))
 | [],_=>.nil
 | i::ix,h=>by
  have hi:=h i (aV ..);obtain⟨u,e,a⟩:=v.get (i:=i) (x:=ys[i]) (by simp[hi]);refine .cons ?_ (DG v ix λj c=>h j (aZ _ c));have d:ys.getD i .non=ys[i]:=by simp[hi]
  have g:us.getD i Value.none=u:=by rw[bH,e];rfl
  show eI (ys.getD i .non) (us.getD i Value.none);rw[d,g];exact a
def aCM{X:Cx}(K:Aa)(hK:X.K=K:=by rfl):Y3W X "sorted" (yL K):=by
 subst hK;unfold yL;intro T s σ H κ ν Q I r h;obtain⟨p,l,α,rfl,ζ,g,ε,ξ,q⟩:=h;obtain⟨u,rfl,θ⟩:=lS r;cases θ;obtain⟨w,A,ι,J⟩:=I.list ζ;have e:=A.length;obtain⟨o,n,z,C,β,hd⟩:=ι;refine GD ⟨o,z,C,n,hd⟩ (DI I g ε A) Oo λd μ D c R z keep Z m=>?_;have a:d.toList.Perm (List.range l.length):=by
  have:=(Array.perm_iff_toList_perm.mp R);rw[e];simpa using this
 have B:∀i∈d.toList,i<l.length:=λi O=>by
  have:=a.mem_iff.mp O;simpa using this
 have x:(d.toList.map λi=>l.getD i .non).length=l.length:=by rw[aB,a.length_eq,bC]
 refine Y2S (.ref D) (Y1S H D (d.toList.map λi=>l.getD i .non)) (I.laid (t':=s.toks) keep Z ⟨by rw[x];exact J,_,c,DG A _ B,m⟩) ?_;have S:=I.hok.fresh Z;refine q D d.toList _ a (λP=>?_) S bK (aX.upd S);have N:α.length=w.length:=by rw[<-e,g.len,aB]
 have η:=z (N ▸ TH P);have G:=R.size;rw[List.pairwise_map,List.pairwise_iff_getElem];intro i j O U L;have y:i<d.size:=by simpa using O
 have M:j<d.size:=by simpa using U
 have δ:d.toList[i]=Y6Q i:=by rw[Array.getElem_toList];exact(by simp[Array.getD,y]:d.getD i 0=d[i]).symm
 have γ:d.toList[j]=Y6Q j:=by rw[Array.getElem_toList];exact(by simp[Array.getD,M]:d.getD j 0=d[j]).symm
 rw[δ,γ];exact η i j L (by rw[<-G];simpa using U)
open Classical in
section
variable{X:Cx}{pins:Ae}{σ:St}{H:Hp}{s:Shared}
end
section
variable{X:Cx}
end
end L2
namespace HT
open PySem PySem.Spec PyProof.Rows PySem.Builtin
def BE:typeLookup (.type "tuple") "keys" = pure none:=am_miss_of_fast Kk
section
variable{prog:Program}{w:World}{A:Around}{E:Y5}{s:Shared}
def PD{a:Addr}{o:Obj}{xs:Aj}{k:Nat}{Q:YaD}(hx:Y9m a)(hc:o.cls=.type "tuple")(hdat:o.data=.seq xs k)(hd:o.dict=none)(hA:Y4H)
  (h:∀h' tk,(∀b u,Y9i b Yv->Y0n=Yv)->Q none { s with heap:=h',toks:=tk }):Y0V (getAttr? (Y3) "keys"):=by
 obtain⟨c,n,p,m⟩:=o;simp only at hc hdat hd;subst hc hdat hd;obtain⟨r,g,d,tk,x⟩:=s;have l:∀i,(⟨r,g,d,i,x⟩:Shared).TypeIs (Y3) "tuple" := λ_=>Y0m hx;have D:=sub_AttributeError;have C:=F.slot_tuple_getattribute.lookup;have I:=F.slot_tuple_getattribute.bind (Y3);have z:=am_tuple_getattr_none;unfold getAttr? getAttrBy? getAttrBy
 repeat (any_goals (first | assumption | exact l _ | ((with_reducible show Y0W (call (Value.builtin "tuple.__getattribute__") _ _));refine call_meets F.slot_tuple_getattribute (l _) am_entry_tuple_getattribute (F.args_tuple_getattribute_2 _ _) (meets_getattribute_miss_tuple a xs k m "keys" _ BE Dd) ⟨hx,hA,λh' i e j=>?_⟩) | wp_step))
 obtain⟨B,G,y⟩:=j.there;show Y0W (getattributeRaised _ _ _ _ _ _ _);unfold getattributeRaised
 repeat (any_goals (first | assumption | wp_step))
 exact h _ _ j.keeps
end
def tQ:entryFor table "dict.update.loop" = some Builtin.«dict.update.loop» := entryFor_of_tree (by kernel_rfl)
def tN:plainId "dict.update.loop" = true:=Kk
section
variable{prog:Program}{w:World}{A:Around}{E:Y5}{s:Shared}{K:Type}[DecidableEq K]{knd:HeapKind prog w K}
def WM{d it t:Addr}{i:Nat}{items:Aj}{R:Y8S}(hA:Y4H)(hit:Yc7 t i)(ht:s.heap.IsTuple t items)(hx:items[i]?=none)
  (h:∀h',Ye3 it h'->R (Yc1 .none) ({ s with heap:=h' })) :
  Yew Y2A A "dict.update.loop" ⟨[.ref d,Y4K,rawInt i,.none],[]⟩ R s:=by
 refine YdX tQ;rw[Ydw tN];unfold Builtin.«dict.update.loop»;refine wpAny_bind (wpAny_pyNext_tuple_end hA hit ht hx λh' e=>?_);show Y0W (Dict.addKeywords d [] >>= λ_=>ret Value.none);exact Y2r (wpAny_pure (h h' e))
def BI{b:Addr}{its:Aj}{Q:Y26 Ah}(hb:s.heap.IsTuple b its)(h:Q its.toList s):Y0V (Dict.pairItems (Y0z)):=by
 obtain⟨o,a,c,n,hd⟩:=id hb;unfold Dict.pairItems;refine Yf9 hb.typeIs ?_;rw[Ybt];exact Y7l a hd (wpAny_pure h)
def RI{d it t b a:Addr}{i:Nat}{items:Aj}{xs:Y3j K (Addr × Value)}{k:K}{v:Value}{R:Y8S}(hu:knd.room A.in1)(hit:Yc7 t i)(ht:s.heap.IsTuple t items)(hx:items[i]?=Y2 b)
  (hb:s.heap.IsTuple b #[Y3,v]) (nb:b≠it) (hk:∀h',(∀c o,c≠it->Y4j->Y3A c)->knd.is h' k a/\h'.DictOfH knd d xs) (nd:d≠it) (hz:Y4x)
  (h:∀h1 h' tk,(∀c o,c≠it->Y4j->h1.get? c=Y7)->Heap.SameBut d h1 h'->h'.DictOfH knd d (storedH xs k a v)->h'.IsTupleIter it t (i+1) ->
   Yew Y2A A "dict.update.loop" ⟨[.ref d,Y4K,rawInt ((i+1:Nat):Int),.none],[]⟩ R ({ s with heap:=h',toks:=tk })) :
  Yew Y2A A "dict.update.loop" ⟨[.ref d,Y4K,rawInt i,.none],[]⟩ R s:=by
 refine YdX tQ;rw[Ydw tN];unfold Builtin.«dict.update.loop»;refine wpAny_bind (wpAny_pyNext_tuple_item hit ht hx λh' p y=>?_);have g:∀c o,c≠it->Y4j->Y3A c:=λc o B e=>(y.2 c B).trans e;refine YaN ?_;refine wpAny_bind (wpAny_tryCatch ?_);have u:h'.IsTuple b #[Y3,v]:=by
  obtain⟨o,m,r⟩:=hb;exact Y0U (g b o nb m) r
 refine BI (s:={ s with heap:=h' }) u ?_;show Y0W (holding [Y4B,v] (dictSet d (Y3) v));have l:=(hk h' g).2;refine wpAny_holding (wpAny_dictSet_heap (s:={ s with heap:=h' }) hu (hk h' g).1 l (λz n j=>?_) hz);refine wpAny_pure (Y0b (YdK Kk));have x:=h h' z (s.toks+knd.draws k) g j n (by
  obtain⟨o,m,r⟩:=p;exact Y0U ((j.2 it (Ne.symm nd)).trans m) r)
 rw[show((i+1:Nat):Int)=(i:Int)+1 from Oo]at x;exact x
end
end HT
namespace L2
open PySem PySem.Spec PySem.W PyProof.Rows HT
def OC(H:Hp)(y:V)(p:Y4J × V):Prop:=∃b a,y=Y0z/\H b=Ym [Y3,p.2]/\H a=Ym (p.1.map kV)
section
variable{X:Cx}{pins:Ae}{σ:St}{H:Hp}
def KT.isAll{P:Program}{w:World}{H:Hp}{h:Heap}(ok:Y2q){l:Yw}{m:YaC}(q:KT H l m):∀x∈m,(tupleKind (fX P w)).is h x.1 x.2.1:=by
 unfold KT at q
 induction q with
 | nil=>intro x a;exact nomatch a
 | @cons p q ps qs hq t ih =>
  intro x a;rcases bD.mp a with e | a
  ·subst e;exact sJ ok (by rw[<-hq.1];exact hq.2.1)
  ·exact ih x a
theorem CJ{D it t:Addr}{ys:An}{R:Y8S}(hu:Y4E 8<cLine)(hA:X.A.handled=none)(hD:H D=none)(ht:H t=Y6r)(nit:it≠D) :
  ∀(rest:Yw) (i:Nat) (kvs:Yw) (s:Shared),Y1Q (YbJ D kvs) s->Y3C X (YbJ D kvs) it->Yc7 t i->Paired (OC H) (ys.drop i) rest->((kvs++rest).map (·.1)).Nodup->(kvs++rest).length<=1000 ->
   (∀s',Y1Q (YbJ D (kvs++rest)) s'->R (Yc1 .none) s')->Yew Y6K X.A.in1 "dict.update.loop" ⟨[.ref D,Y4K,rawInt i,.none],[]⟩ R s
 | [],i,kvs,s,I,fp,hit,pr,nd,hz,k=>by
  have ntD:t≠D:=λe=>by subst e;rw[hD]at ht;cases ht
  obtain⟨T,r,θ,_⟩:=I.tuple (fY.of (show upd H D (.dT kvs) t=some (.tup ys)by rw[cP ntD];exact ht));have hl:ys.length<=i:=by
   generalize hq:ys.drop i=l at pr;cases pr;exact List.drop_eq_nil_iff.mp hq
  have ξ:=r.length;rw[List.append_nil]at k;refine WM hA hit θ (by rw[Array.getElem?_eq_none];simp;exact Oo) λj e=>k _ ?_;exact I.turnedL (t':=s.toks) (fp:=[it]) (λb o g x=>e b o (by simpa using g) x) (λb g=>by
   cases(show b=it by simpa using g);exact fp)
 | p::rest,i,kvs,s,I,fp,hit,pr,nd,hz,k=>by
  have ntD:t≠D:=λe=>by subst e;rw[hD]at ht;cases ht
  obtain⟨T,r,θ,_⟩:=I.tuple (fY.of (show upd H D (.dT kvs) t=some (.tup ys)by rw[cP ntD];exact ht));generalize hq:ys.drop i=l at pr;cases pr with
  | @cons y _ ys' _ hy pr' =>
   obtain⟨b,a,rfl,g,η⟩:=hy;have μ:i<ys.length:=by
    by_cases h:i<ys.length
    ·exact h
    ·rw[List.drop_eq_nil_iff.mpr Oo]at hq;cases hq
   have β:ys[i]?=some (.ref b):=by
    have:=List.drop_eq_getElem_cons μ;rw[hq]at this;injection this with N O;rw[aD μ,<-N]
   have n:ys.drop (i+1)=ys':=by
    have:=List.drop_eq_getElem_cons μ;rw[hq]at this;injection this with N O;exact O.symm
   obtain⟨u,κ,χ⟩:=r.get β;cases χ;have P:b≠D:=λe=>by subst e;rw[hD]at g;cases g
   have α:a≠D:=λe=>by subst e;rw[hD]at η;cases η
   have B:upd H D (.dT kvs) b=some (.tup [.ref a,p.2]):=by rw[cP P];exact g
   have C:upd H D (.dT kvs) a=some (.tup (p.1.map kV)):=by rw[cP α];exact η
   obtain⟨itb,φ,Z,_⟩:=I.tuple (fY.of B);obtain⟨ua,uv,rfl,υ,rv⟩:=RF φ;cases υ;have nb:b≠it:=λe=>by have:=fp.1;rw[<-e,B]at this;cases this
   obtain⟨z,S,xs,m,o,es,ρ,N,O,h3,h4,h5⟩:=(show eU X.prog X.w (upd H D (.dT kvs)) s.heap D (.dT kvs)from I.hok D _ bK);have d:∀j L,(∀c o,c≠it->s.heap.get? c=some o->j.get? c=some o)->cL X pins σ (upd H D (.dT kvs)) { s with heap:=j,toks:=L }:=λj L kp =>
    I.turnedL (t':=L) (fp:=[it]) (λb o g x=>kp b o (by simpa using g) x) (λb g=>by
     cases(show b=it by simpa using g);exact fp)
   have ψ:xs.length=kvs.length:=(Paired.length m).symm;refine RI (knd:=tupleKind (fX X.prog X.w)) (xs:=xs) (k:=p.1) (v:=uv) (b:=b) (a:=a) (show _<_ by show X.A.in1.in1.units<cLine;exact bS (show X.A.in1.in1.units<=X.A.units+2 from aL _) Oo) hit θ (by simpa using κ) Z nb (λj kp=>⟨sJ (d j s.toks kp).hok C,o,es,ρ,kp D o (Ne.symm nit) N,O,h3,h4,KT.isAll (d j s.toks kp).hok m,h5⟩) (Ne.symm nit) Oo λζ ο L kp δ γ M=>?_;have I1:=d ζ s.toks kp;obtain⟨q,W,ε,J,ω,τ,g4,_,g5⟩:=γ;have ι:fP kvs p.1=none:=by
    rw[bG,bJ]at nd;have G:=(List.nodup_append.mp nd).2.2;cases hv:fP kvs p.1 with
    | none=>rfl
    | some v=>exact absurd rfl (G _ (LP hv) p.1 (aV ..))
   have U:(jL kvs p.1 p.2).length<=sizeLine:=by
    have h6:=iV kvs p.1 p.2;rw[bF,cE]at hz;have h7:(1000:Nat)<=sizeLine:=Dd;exact Oo
   have I2:=vR (t':=L) (ob:=.dT (jL kvs p.1 p.2)) I1 (by rw[bK];exact True.intro) δ ⟨q,J⟩ ⟨U,S,_,(KT.put (show KT (upd H D (.dT kvs)) kvs xs from m) p.1 C rv).keeps λc ys ν=>(by rw[cP (BX ν bK (λz=>nomatch z))];exact ν),q,W,ε,J,ω,τ,g4,g5⟩;rw[WL,GL p.2 ι]at I2;refine CJ hu hA hD ht nit rest (i+1) (kvs++[p]) _ I2 ?_ M (by rw[n];exact pr') (by rw[List.append_assoc];exact nd) (by rw[List.append_assoc];exact hz) (by rw[List.append_assoc];exact k);refine⟨?_,fp.2⟩;rw[cP nit];have:=fp.1;rw[cP nit]at this;exact this
@[irreducible] def DY:Y1o:=λxs H Q=>∃(t:Addr) (ys:An) (kvs:Yw),xs=Y3F t/\H t=Y6r/\Paired (OC H) ys kvs/\(kvs.map (·.1)).Nodup/\Y8O 1000/\∀D,H D=none->Y10 D (YbJ D kvs)
def rdcp{H:Hp}{Q:VK}{t:Addr}{ys:An}{kvs:Yw}(ht:H t=Y6r)(pr:Paired (OC H) ys kvs)(nd:(kvs.map (·.1)).Nodup)(hz:Y8O 1000)(q:∀D H',H D=none->Y0p=Y1I->Y0->Y1r):DY (Y3F t) H Q:=by
 unfold DY;exact Y2w t ys kvs ht pr nd hz (λD a=>q D _ a bK (aX.upd a))
def AV(hu:Y4E 64<cLine)(hc:Y1J):kL X (.type "dict") DY:=by
 unfold DY;intro d s σ H γ δ Q I r h;obtain⟨t,ys,y,rfl,x,Z,S,β,q⟩:=h;obtain⟨u,rfl,α⟩:=lS r;cases α;have P:=Y8Q;refine callType_codes (Q₁:=λn O=>n=Y24/\O={ s with heap:=s.heap.push { cls:=.type "dict",data:=.dict #[] } }) F.kt_called_dict (F.kt_typeCall_dict_1 _) F.entry_dict_init (kt_code_dict_new _ Y6k) ?_;rintro n O ⟨rfl,rfl⟩;have J:=YdA;have I1:Y1D d (Yc9 (.dT [])) ({ s with heap:=s.heap.push { cls:=.type "dict",data:=.dict #[] } }):=I.laid (a:=s.heap.objs.size) (o:=.dT []) (t':=s.toks) (YcC q) (Yn) (AO s.heap I.big);have G:YaU t:=λe=>by subst e;rw[J]at x;cases x
 have M:upd H s.heap.objs.size (.dT []) t=Y6r:=by rw[cP G];exact x
 obtain⟨⟨ε,N,g,L⟩,B,η,U,i,j,W,m⟩:=(show eU X.prog X.w (upd H s.heap.objs.size (.dT [])) (s.heap.push { cls:=.type "dict",data:=.dict #[] }) t (.tup ys)from I1.hok t _ M);rw[g]at i;cases i;have c:(s.heap.push { cls:=.type "dict",data:=.dict #[] }).DictOf (fX X.prog X.w) s.heap.objs.size []:=Heap.DictOf.new s.heap;refine Y08 c.typeIs (F.args_dict_init_2 _ _);unfold Builtin.«dict.__init__»;refine Y3V;unfold Builtin.Dict.selfAndRest;refine wpAny_bind (wpAny_notOrdered_dict c.typeIs ?_);show Y0W (pure (s.heap.objs.size,[Value.ref t]));refine Y1F;show Y0W (Builtin.Dict.updateFrom "dict.__init__" s.heap.objs.size (.ref t) [] .none);unfold Builtin.Dict.updateFrom;refine wpAny_bind (wpAny_typeOf (T := "tuple") (Y1x g j) ?_);rw[Ybt];refine wpAny_bind (PD (s:={ s with heap:=s.heap.push { cls:=.type "dict",data:=.dict #[] } }) g j m L P λl p kp=>?_);rw[if_pos (by rfl)];refine Y9t ?_;refine wpAny_bind (wpAny_pyIter_tuple (s:={ s with heap:=l,toks:=p }) (items:=B.toArray) ⟨N,kp t N g,j,W,m⟩ ?_);refine wpAny_pure (Y0b (YdK Kk));have I2:Y1D d (Yc9 (.dT [])) ({ s with heap:=l,toks:=p }):=I1.kept (t':=p) kp;have I3:Y1D d (Yc9 (.dT [])) ({ s with heap:=l.push { cls:=.type "tuple_iterator",data:=.fields #[.ref t,.int 0 0] },toks:=p }):=I2.kept (t':=p) (YaR _ e)
 have C:s.heap.objs.size<l.objs.size:=by
  obtain⟨_,_,_,R,_⟩:=c;exact aY (kp _ _ R)
 have z:upd H s.heap.objs.size (.dT []) l.objs.size=none:=I2.hok.fresh (Yn);refine CJ (D:=s.heap.objs.size) (it:=l.objs.size) (t:=t) (ys:=ys) Oo P J x (Nat.ne_of_gt C) y 0 [] _ I3 (I2.fpOk (Yn) z) (Y89 _) (by simpa using Z) (by simpa using S) (by simpa using β) λζ I'=>⟨rfl,.ref _,_,I',rfl,?_⟩;rw[List.nil_append];exact q _ J
end
end L2
namespace HT
open PySem PySem.Spec PyProof.Rows
section
variable{prog:Program}{w:World}{A:Around}{E:Y5}{s:Shared}{it d:Addr}{es:Yco}{ep i:Nat}{od:Obj}
def YL{Q:YaD}(hit:s.heap.IsKeyIter it d i es.size ep)(hod:Y1W d od)(hdd:od.data=YbS ep)(hi:i<es.size)
  (h:∀h',h'.IsKeyIter it d (i+1) es.size ep->Y9z it h'->Q (some es[i].key) { s with heap:=h' }):YbA it:=by
 obtain⟨⟨u,r,j,p⟩,l,n,hd⟩:=id hit;simp only at n hd;subst n hd;have c:=hit.typeIs;unfold pyNext;refine Y9p (Y8E "__next__" c F.slot_dict_keyiterator_next F.slot_dict_keyiterator_next c F.entry_dict_keyiterator_next ?_ (F.args_dict_keyiterator_next_1 _));have e:Yq (Builtin.Dict_items.ownsTuple "dict_keyiterator"):=Dd
 repeat (any_goals (first | assumption | (with_reducible refine Ydk c) | (with_reducible refine Ydq c) | (with_reducible refine wpAny_fieldsOf l rfl ?_) | (with_reducible refine Yfw hdd ?_) | (with_reducible refine YfI hdd ?_) | wp_step))
 rw[if_neg (show ¬((i:Int)<0)by exact Oo),Int.toNat_natCast,Array.getElem?_eq_getElem hi];have a:(s.heap.update it (Obj.mapFields (·.setIfInBounds 1 (rawInt ((i:Int)+1))))).IsKeyIter it d (i+1) es.size ep :=
  ⟨_,YaH _ l (Obj.data_mapFields rfl _),(Obj.cls_mapFields ..).trans rfl,by rw[Obj.data_mapFields rfl];simp[rawInt]⟩
 have m:({ s with heap:=s.heap.update it (Obj.mapFields (·.setIfInBounds 1 (rawInt ((i:Int)+1)))) }:Shared).TypeIs (Y4K) "dict_keyiterator" := a.typeIs;have g:=h _ a (Heap.SameBut.update ..)
 repeat (any_goals (first | assumption | (with_reducible refine Ydk c) | (with_reducible refine Ydq c) | (with_reducible refine Ydq m) | (with_reducible refine wpAny_setField l rfl (by rw[e];simp) ?_) | wp_step))
 exact Yc3 g
def aCu{Q:YaD}(hh:Y4H)(hit:s.heap.IsKeyIter it d i es.size ep)(hod:Y1W d od)(hdd:od.data=YbS ep)(hi:es.size<=i)
  (h:∀h',Ye3 it h'->Q none { s with heap:=h' }):YbA it:=by
 obtain⟨⟨n,m,e,l⟩,g,j,hd⟩:=id hit;simp only at j hd;subst j hd;have a:=hit.typeIs;have c:Yq (Builtin.Dict_items.ownsTuple "dict_keyiterator"):=Dd;unfold pyNext;refine Y9p (Y8E "__next__" a F.slot_dict_keyiterator_next F.slot_dict_keyiterator_next a F.entry_dict_keyiterator_next ?_ (F.args_dict_keyiterator_next_1 _))
 repeat (any_goals (first | assumption | (with_reducible refine Ydk a) | (with_reducible refine Ydq a) | (with_reducible refine wpAny_fieldsOf g rfl ?_) | (with_reducible refine Yfw hdd ?_) | (with_reducible refine YfI hdd ?_) | wp_step))
 rw[if_neg (show ¬((i:Int)<0)by exact Oo),Int.toNat_natCast,Array.getElem?_eq_none hi]
 repeat (any_goals (first | assumption | (with_reducible refine Ydk a) | (with_reducible refine wpAny_setField g rfl (by rw[c];simp) ?_) | wp_step))
 simp only[raiseNew];refine wpAny_bind (wpAny_handled ?_);rw[show A.in1.handled=none from hh];refine Y2r (wpAny_throw ?_);refine wpAny_bind (YeY "StopIteration" true (Y0m Y17) ?_);exact wpAny_pure (h _ (((Heap.SameBut.update ..).extBut.push _).push _))
def YN{Q:Y5}(hd:Y7A d)(hod:Y1W d od)(hex:od.ExactDict)(hdd:od.data=YbS ep)
  (hQ:YaQ ({ s with heap:=s.heap.push { cls:=.type "dict_keyiterator",data:=.fields #[.ref d,.int 0 0,.int es.size 0,.int ep 0] } })):Y0V (pyIter (.ref d)):=by
 have a:Y8C d "dict" := ⟨od,hod,hex.1⟩;refine wpAny_pyIter_slot a F.slot_dict_iter (wpAny_call_entry F.slot_dict_iter a F.entry_dict_iter ?_ (F.args_dict_iter_1 _));unfold Builtin.«dict.__iter__»;refine Y3V;unfold Builtin.Dict.dictSlotNone;refine wpAny_bind (wpAny_notOrdered_dict a ?_);show Y3i (pure (Value.ref d));refine Y1F
 repeat (any_goals (first | assumption | (with_reducible refine Yfw hdd ?_) | (with_reducible refine YfI hdd ?_) | wp_step))
 exact⟨_,rfl, "dict_keyiterator",_,Y0m Y17,F.slot_dict_keyiterator_next.lookup,hQ⟩
end
end HT
namespace L2
open PySem PySem.Spec PySem.W PyProof.Rows HT
section
variable{X:Cx}{pins:Ae}{σ:St}{H:Hp}{s:Shared}
theorem AC{α β:Type}{R:Y0u α β}:∀{l:Yo}{m:List β}{i:Nat}{a:α},Paired R l m->l[i]?=some a->∃b,m[i]?=some b/\R a b
 | _,_,i,a,.nil,h=>by simp at h
 | _,_,0,a,.cons r t,h=>by
  cases(show _=a by simpa using h);exact⟨_,rfl,r⟩
 | _,_,i+1,a,.cons r t,h=>by
  obtain⟨b,h1,h2⟩:=AC t (by simpa using h);exact⟨b,by simpa using h1,h2⟩
end
section
variable{X:Cx}{tg:Expr}
end
end L2
namespace HT
open PySem PySem.Spec PyProof.Rows PySem.W
section
variable{prog:Program}{w:World}{A:Around}{d:Addr}{o:Obj}{es:Yco}{ep:Nat}
def OI(hh:Y4H)(I:Addr)(hne:d≠I)(hdat:o.data=YbS ep) :
  Walks prog w A I [I,d] [I] es.size (λi v=>∃hi:i<es.size,v=es[i].key) (λi h=>h.IsKeyIter I d i es.size ep/\h.get? d=Y7) where
 sub:=λb c=>by simp at c;simp[c]
 frame:=λ_ _ _ a p=>⟨a.1.at λo e=>p I (by simp) o e,p d (by simp) o a.2⟩
 item:=λi s Q E hi a j=>YL a.1 a.2 hdat hi λm g l =>
  j _ m s.toks ⟨hi,rfl⟩ ⟨g,(l.2 d hne).trans a.2⟩ λb o c e=>(l.2 b (λh=>c (by simp[h]))).trans e
 done:=λs Q E a j=>aCu hh a.1 a.2 hdat (Yn) λm n=>j m s.toks λb o c e=>n b o (λh=>c (by simp[h])) e
 self:=λ_ _ _ _ a j=>wpAny_pyIter_keyiter a.1 j
def MW(lo:Y7A d)(hex:o.ExactDict)(hdat:o.data=YbS ep):KdlSrc prog w "dict" d d es.size (λi v=>∃hi:i<es.size,v=es[i].key) (λh=>h.get? d=Y7) where
 type:=λ_ a=>Y0U a hex.1
 there:=λ_ a=>⟨aY a,aY a⟩
 keep:=λ_ _ a g=>g d (Y3T) o a
 notList:=Dd
 notTuple:=Dd
 hint:=λ_ _ _ _ a j=>kdl_hint_dict (Y0U a hex.1) j
 iter:=λA s e a=>⟨_,_,λE Q c=>YN lo a hex hdat c,OI e _ (cK (aY a)) hdat,Y89 _,Y0h a⟩
end
end HT
namespace L2
open PySem PySem.Spec PySem.W PyProof.Rows HT
def BA(H:Hp)(kvs:Yw)(ys:An):Prop:=Y2Y kvs.length/\∀(i:Nat) p,kvs[i]?=some p->∃b,Y1t=Y2 b/\H b=Ym (p.1.map kV)
end L2
namespace HT
open PySem PySem.Spec PyProof.Rows PySem.W
section
variable{prog:Program}{w:World}{A:Around}{E:Y5}{s:Shared}{it d:Addr}{es:Yco}{ep i:Nat}{od:Obj}
end
end HT
namespace L2
open PySem PySem.Spec PySem.W PyProof.Rows HT
section
variable{X:Cx}{tg:Expr}
end
section
variable{X:Cx}{o e:Expr}{apos cpos:Pos}{td ty:TE}
end
end L2
namespace L2
open PySem
section
variable{js:Af}{te:TE}{tc:TT}{σ:St}{H:Hp}{Q:VK}
end
end L2
namespace L2
open PySem PySem.Spec PyProof.Rows
section
variable{X:Cx}{pins:Ae}{σ:St}{H:Hp}{s:Shared}{scope:Scope}{x x2:Str}{N':Ai}{js:Af}{fp:Y0t}
end
section
variable{X:Cx}{pins:Ae}{σ:St}{H:Hp}{s:Shared}{scope:Scope}{x:Str}{N':Ai}{js:Af}{fp:Y0t}{elt iter:Expr}{px pos:Pos}{tg:Expr}{x2:Str}{te:TE}
end
section
variable{X:Cx}{scope:Scope}{x x2 y:Str}{N':Ai}{js:Af}{elt iter tg:Expr}{py pos spos:Pos}{te:TE}{wi:TI}{i:Nat}
end
end L2
namespace HT
open PySem PySem.Spec PyProof.Rows
section
variable{prog:Program}{w:World}{A:Around}{E:Y5}{s:Shared}{d:Addr}{o:Obj}{es:Yco}{ep:Nat}
end
end HT
namespace L2
open PySem PySem.Spec PySem.W PyProof.Rows HT
def AI(c:Ag):(c.map (Sum.inl:Int->fK)).map kV=Yca:=by rw[List.map_map];rfl
abbrev kT(c:Ag):Y4J:=c.map Sum.inl
def qZ{a b:Ag}(h:kT a=kT b):a=b:=by
 have:∀{a b:Ag},kT a=kT b->a=b:=by
  intro a
  induction a with
  | nil=>intro b h;cases b with
   | nil=>rfl
   | cons _ _=>cases h
  | cons x a ih=>intro b h;cases b with
   | nil=>cases h
   | cons y b =>
    injection h with h1 h2;injection h1 with h1;rw[h1,ih h2]
 exact this h
section
variable{X:Cx}{o e f k v:Expr}{apos cpos pos:Pos}{td ty tx tk tv:TE}
@[irreducible] def XH(p:Addr)(x y:V)(H2:Hp)(Q:VK):Prop:=∃b k,x=Y0z/\H2 b=Ybm kV/\H2 p=Y0P []/\Y10 p (upd H2 p (.dT [(k,y)]))
def aAN(tk tv:TE):TE:=λσ H Q=>∀p,H p=none->tk σ (YbJ p []) λx H1=>tv σ H1 λy H2=>XH p x y H2 Q
def aDs{p b:Addr}{y:V}{H:Hp}{Q:VK}{c:Ag}(hb:H b=Yd3)(hp:H p=Y0P [])(q:∀H',H' p=Y0P [(kT c,y)]->Y0l->Y0i p):XH p (Y0z) y H Q:=by
 unfold XH;exact⟨b,kT c,rfl,by rw[AI];exact hb,hp,q _ bK aT.self⟩
def FU(hu:Y4E 1<cLine)(hk:Yc k tk)(hv:Yc v tv):Yc (.Dict [some k] [v] pos) (aAN tk tv):=⟨by
 intro d s σ H Q I q;have C:=YdA;have I1:=I.laid (a:=s.heap.objs.size) (o:=.dT []) (h':=s.heap.push { cls:=.type "dict",data:=.dict #[] }) (t':=s.toks) (YcC q) (Yn) (AO s.heap I.big);refine wpAny_Dict_any rfl rfl (by simp) (show 1<=15 by decide) (pairTrees_cons_walk (thn (hk.p d _ σ _ _ I1 (q _ C)) λu w ⟨x,H1,I1,P,B⟩=>thn (hv.p d w σ H1 _ I1 B) λW Z ⟨y,H2,I2,L,n⟩=>pairTrees_nil_walk ?_));unfold XH at n;obtain⟨b,i,rfl,j,e,T⟩:=n;cases(show u=Value.ref b from P);obtain⟨z,hd,U,g,G⟩:=aAs I2.hok e;unfold storeAll;rw[List.forIn_cons];refine Y8r (wpAny_dictSet_heap (show X.A.units<cLine by exact Oo) (sJ I2.hok j) G (λh' h O=>Y1F) (by rw[<-Paired.length g];exact z));dsimp only;rw[List.forIn_nil];refine Y1F;obtain⟨q,M,r,m,D,N,S,_,R⟩:=h;refine Y2l (.ref _) ?_ T;have J:Y0r (([(i,y)]:List (List fK × V)).length):=by show Y0r 1;decide
 refine vR I2 (by rw[e];exact True.intro) O ⟨q,m⟩ ⟨J,hd,_,(g.put i j L).keeps λc α l=>?_,q,M,r,m,D,N,S,R⟩;rw[cP (BX l e (λz=>nomatch z))];exact l⟩
def LL(hu:Y4E 1<cLine)(ho:Yc o td)(he:Yc e ty)(hf:Yc f tx)(base:YaW o "get" (Y0d o)=Y0d o:=by rfl)
  (few:((backTo cpos (starEach [e,f] X.env)).all (λx=>! x.1)&&(backToKw cpos (keywordEach [] X.env)).all (λx=>x.1.isSome)&&Y34 (([e,f]:List Expr).length+([]:List Keyword).length+(if([]:List Keyword).isEmpty then 0 else 1)) 30)=true:=by rfl)
  (line:(Yev)=true:=by rfl) (trees:backTo cpos (Y2f [e,f])=[(false,Y1y),(false,Y0d f)]:=by rfl):Yc (Ycs o "get" apos [e,f] [] cpos) (RQ td ty tx):=⟨SZ hu ho.p he.p hf.p ⟨base,few,line,trees⟩⟩
@[irreducible] def XE(b:Bool):R2:=λx y H Q=>∃a o,y=Y3/\pL H a x o/\Y1s (xor b o.isSome)
def rind{b:Bool}{x:V}{a:Addr}{o:Ao}{H:Hp}{Q:VK}(g:pL H a x o)(q:Y1s (xor b o.isSome)):XE b x (Y3) H Q:=by unfold XE;exact Y1d a o g q
def aCm(hu:Y4E 1<cLine):Y2d .In (XE false):=by
 intro c s σ H x y v u Q I e d h;unfold XE at h;obtain⟨a,o,rfl,g,q⟩:=h;cases(show u=Value.ref a from d);exact aFT hu I g e λi I3=>Y4V _ H I3 (by simpa using q)
end
def UK{H:Hp}{p b:Addr}{kvs:Yw}{c:Ag}{v:V}{D:oR}{σ:St}(e:H p=Y1I)(eb:H b=Yd3)(hl:Y8O 100000)(q:∀H',H' p=Y0P (Y55 (kT c) v)->Y0l->Y7z H') :
  rDP D σ (Y0y) (Y0z) v H:=by
 unfold rDP;exact Y1d p _ (FF.t (k:=kT c) e (by rw[AI];exact eb) (bS hl Dd)) (q _ bK aT.self)
def pL.ct{H:Hp}{p b:Addr}{kvs:Yw}{c:Ag}(e:H p=Y1I)(eb:H b=Yd3):pL H p (Y0z) (Y8N (kT c)):=pL.t e (by rw[AI];exact eb)
def QR{H:Hp}{p b:Addr}{kvs:Yw}{c:Ag}{v:V}{Q:VK}(e:H p=Y1I)(eb:H b=Yd3)(hv:Y8N (kT c)=Yi)(q:Q v H):rDG (Y0y) (Y0z) H Q:=by
 unfold rDG;exact⟨p,v,rfl,hv ▸ pL.ct e eb,q⟩
def pI{kvs:Yw}{k:Y4J}{v:V}(h:(Y5a).isSome=true):(jL kvs k v).map (·.1)=kvs.map (·.1):=by
 unfold jL;rw[mR,Yan,List.map_map];refine fD λp _=>?_;show(if p.1=k then(p.1,v) else p).1=p.1;split <;> rfl
end L2
namespace L2
open PySem
section
variable{js:Af}{te:TE}{tc:TT}{σ:St}{H:Hp}{Q:VK}
def YV{J:It}{α:Type}{as:Yo}(p:Y2a α)(Src:Y0u α V)(R:α->Y2L)(hR:∀c y H1 H2,Y3e->R c y H1->R c y H2)(hz:Yeu)
  (hg:∀i H',Y0->i<as.length->Y7d H'/\∀x H3,Y76 H' x H3->H3=H'/\∃c,as[i]?=Y09/\Src c x) (hst:∀H',Y0->J.stop as.length H')
  (ht:∀x c H' (Q':Yat),c∈as->Src c x->Y0->(∀H5,Y5J->Q' (p c) H5)->tc (Y8::Y2u) H' Q')
  (he:∀x c H' (Q':VK),c∈as->p c=true->Src c x->Y0->(∀y H6,aX H' H6->R c y H6->Q' y H6)->te (Y8::Y2u) H' Q')
  (hd:Y2x (H D=none) (Y0p=Y0f->Y0->Yer (R c y H') p->Y1r)):nB J σ js tc te H Q:=by
 have mono:∀{H1 H2:Hp} {l:Yo} {ys:An},Y3e->Y71 (R c y H1) l->Y71 (R c y H2) l:=by
  intro H1 H2 l ys s h
  induction h with
  | nil=>exact .nil
  | cons h t ih=>exact Yax (hR _ _ _ _ s h)
 have snoc:∀{H1:Hp} {l:Yo} {ys:An} {c:α} {y:V},Y71 (R c y H1) l->R c y H1->Paired (λc y=>R c y H1) (l++[c]) (ys++[y]):=by
  intro H1 l ys c y h r
  induction h with
  | nil=>exact Ya6 r
  | cons h t ih=>exact Yax h
 unfold nB;intro D G;refine Y08 (λi m ys H'=>m=as.length-i/\i<=as.length/\Y0p=Y0f/\Y0/\Y71 (R c y H') ((as.take i).filter p)/\ys.length<=i) ⟨as.length,by simp,dH _,bK,aX.upd G,.nil,Yn⟩;rintro i m ys H2 ⟨rfl,P,a,g,z,O⟩;refine Y0b a;by_cases hlt:i<as.length
 ·obtain⟨B,A⟩:=hg i H2 g hlt;refine Y2j B (Yeo Oo Dd) (λx H3 C=>?_);obtain⟨rfl,c,M,I⟩:=A x H3 C;have j:=aF M;have n:as.take (i+1)=as.take i++[c]:=by rw[jM,M];rfl
  refine Y08 (λb H4=>b=p c/\aX H3 H4) (ht x c H3 _ j I g λH5 w=>Y1b w);rintro b H4 ⟨rfl,d⟩;by_cases hp:p c=true
  ·rw[if_pos hp];refine Y08 (λy H5=>aX H4 H5/\R c y H5) (he x c H4 _ j hp I (g.trans d) λy H6 N r=>⟨N,r⟩);rintro y H5 ⟨w,r⟩;have u:=w _ _ (d _ _ a);have L:dG H5 (Y1S H5 D (ys++[y])):=aT.t aT.self u;refine Y2w u _ ?_ hlt bK (aX.thru G ((g.trans d).trans w) aT.self) ?_ ?_
   ·exact Oo
   ·rw[n,List.filter_append];have:List.filter p [c]=[c]:=by simp[hp]
    rw[this];exact snoc (mono ((d.trans w).t.trans L) z) (hR _ _ _ _ L r)
   ·rw[bF,List.length_singleton];exact Oo
  ·rw[if_neg hp];refine Y2w (d _ _ a) _ ?_ hlt (d _ _ a) (g.trans d) ?_ ?_
   ·exact Oo
   ·rw[n,List.filter_append];have:List.filter p [c]=[]:=by simp[hp]
    rw[this,List.append_nil];exact mono d.t z
   ·exact Oo
 ·have e:i=as.length:=Oo;subst e;refine Y3p (hst H2 g) (hd D ys H2 G a g ?_);rw[cM]at z;exact z
def UR{lo:Int}{n:Nat}(p:Y86)(R:Nat->Y2L)(hR:∀c y H1 H2,Y3e->R c y H1->R c y H2)(hz:Y7R n)
  (ht:∀i H' (Q':Yat),i<n->Y0->(∀H5,Y5J->Q' (p i) H5)->tc (Yk (lo+(i:Nat))::Y2u) H' Q')
  (he:∀i H' (Q':VK),i<n->p i=true->Y0->(∀y H6,aX H' H6->R i y H6->Q' y H6)->te (Yk (lo+(i:Nat))::Y2u) H' Q')
  (hd:Y2x (H D=none) (Y0p=Y0f->Y0->Y71 (R c y H') ((List.range n).filter p)->Y1r)):nB (ZT lo n) σ js tc te H Q:=by
 refine YV (as:=List.range n) p (λi x=>x=.int (lo+(i:Nat))) R hR (by rw[bC];exact hz) (λi H' s d=>?_) (λH' s=>by rw[bC];exact Yn) (λx c H' Q' a e s q=>?_) (λx c H' Q' a g e s q=>?_) hd
 ·rw[bC]at d;exact Y9L d ⟨y.1,i,by rw[cX d],y.2⟩
 ·subst e;exact ht c H' Q' (Y6Y) s q
 ·subst e;exact he c H' Q' (Y6Y) g s q
end
end L2
namespace L2
open PySem PySem.Spec PySem.W PyProof.Rows HT
section
variable{prog:Program}{w:World}{A:Around}{E:Y5}{s:Shared}
def HP{T:String}{r d:Addr}{n:Nat}{P:Y9g Value}{OK:Y4G}{Q:Y26 Ah}(K:KdlSrc prog w T r d n P OK)(hh:Y4H)(hok:OK s.heap)(hn:Y0r n)
  (hQ:∀h' tk (acc':Aj),(Y6u (Y0n=Y7))->ItemsOf P acc' n->Q acc'.toList { s with heap:=h',toks:=tk }) :
  Y0V (collect (.ref r)):=by
 have lt:=K.there _ hok;have j:(s.heap.push (seqObj "list" #[] 0)).get? s.heap.objs.size=some { cls:=.type "list",data:=.seq #[] 0 }:=Y17
 let G:Y8S:=λa z=>∃g m l e,a=Yc1 Y24/\z={ s with heap:=g,toks:=m }/\(Y6u (g.get? b=Y7))/\g.get? s.heap.objs.size=some { cls:=.type "list",dict:=none,data:=.seq l e,slots:=#[] }/\ItemsOf P l n
 have ext:=kdl_extend (A:=A) (s:={ s with heap:=s.heap.push (seqObj "list" #[] 0) }) (R:=G) K hh (K.keep _ _ hok λb _ o e=>Y0h e) s.heap.objs.size (Nat.ne_of_gt lt.1) (Nat.ne_of_gt lt.2) (Y24) 0 j
  (λg m l e kp h i=>Y5c g m l e rfl (λb o z=>kp b o (cK (aY z)) (Y0h z)) h i) hn
 unfold collect;refine wpAny_bind (wpAny_runValue (YdX entry_proto_collect'));rw[Ydw PySem.F.plain_proto_collect];refine wpAny_bind (m:=newList []) (wpAny_newList (wpAny_pure ⟨plainId_quiet PySem.F.plain_list_iadd _,YdX entry_list_iadd'⟩));rw[Ydw PySem.F.plain_list_iadd];refine wpAny_mono ext (λp z y=>?_) λe z ⟨_,_,_,_,q,_⟩=>by cases q
 cases p with
 | done f=>obtain⟨g,m,l,e,q,rfl,kp,h,i⟩:=y;cases q;exact Yfi h (wpAny_pure (hQ g m l kp i))
 | again c=>exact⟨y.1,codeAny_mono y.2 λq z ⟨g,m,l,e,eq,u,kp,h,i⟩=>by subst eq u;exact Yfi h (wpAny_pure (hQ g m l kp i))⟩
def JE{x:Value}{Q:Y5}
  (h:wpAny (Y2A) A.in1 (collect x) (λvs s1=>∃h1 tk cs,s1={ s with heap:=h1,toks:=tk }/\(Y6u (Ydb=Y7))/\kW h1 vs cs/\vs.length<64 /\
   ∀(p:Y0E) (h':Heap) (D:Addr) (c:Nat),Y9O p->(Yap->Yaq p)->(Y0I (Ydb=Y7) (Y0n=Y7))->h1.objs.size<=D->Y5V D (Y8H "list" (Yc0 (λi=>YaV i)) c)->Y10 D ({ s with heap:=h',toks:=tk })) E s) :
  Y0V (Y8B "sorted" [x]):=by
 refine Calls.call_function_entry kind_sorted plain_sorted entry_sorted (args_sorted1 _) ?_;unfold Builtin.«sorted»;refine wpAny_bind (m:=checkCount "sorted" 1 1 _) (Y1F);refine Y7q h (λvs s1 ⟨h1,tk,cs,e,j,B,l,q⟩=>?_) Yb1;subst e;refine Yf8 ?_ (by rw[sizeLine_eq];exact Oo);have a:(h1.push (seqObj "list" vs.toArray 0)).get? h1.objs.size=Y8H "list" vs.toArray 0:=Y17;have keep:Y0I (Ydb=Y7) ((h1.push (seqObj "list" vs.toArray 0)).get? b=Y7):=λb o q=>Y0h q;show Y4A _ ({ s with heap:=h1.push (seqObj "list" vs.toArray 0),toks:=tk });refine YaN (wpAny_call_entry slot_list_sort (Y0m a) entry_list_sort ?body (args_list_sort _));refine BT (s:={ s with heap:=h1.push (seqObj "list" vs.toArray 0),toks:=tk }) a (B.keep λb o n _=>keep b o n) l λp y r=>Yc3 Y4;unfold sortedHeap;have u:((h1.push (seqObj "list" vs.toArray 0)).update h1.objs.size (Obj.mapSeq λ_=>#[])).get? h1.objs.size=Y8H "list" (#[]) _:=Ycd a (#[]);have z:=aC (seqObj "list" #[] 0) (aC (Yg0 "tuple" 0) u);refine q p _ h1.objs.size _ y r (λb o e=>?_) (Yn) (Ycd z (Yc0 (λi=>YaV i)));have g:b<h1.objs.size:=aY e;have d:b≠h1.objs.size:=cK g;rw[gP _ _ _ _ d];exact Y66 (by rw[gP _ _ _ _ d];exact keep b o e)
end
def aAu{X:Cx}{pins:Ae}{σ:St}{H:Hp}{s:Shared}(I:Y1){d:Addr}{kvs:Yw}(e:H d=Y1I):Y7A d/\(kvs.map (·.1)).Nodup/\∃o,Y9m d/\o.ExactDict/\∃es ep,o.data=YbS ep/\es.size=kvs.length /\
  ∀(i:Nat) (hi:i<es.size) p,kvs[i]?=some p->∃b,es[i].key=Y0z/\H b=Ym (p.1.map kV):=by
 obtain⟨z,hd,m,a,o,es,ep,A,B,C,g,l⟩:=(show eU X.prog X.w H s.heap d (.dT kvs)from I.hok d _ e);have j:es.size=kvs.length:=by
  have:=Y4t g;rw[aB,<-Paired.length a]at this;simpa using this
 have u:kvs.map (·.1)=m.map (·.1):=by
  clear g l j e z
  induction a with
  | nil=>rfl
  | cons r t ih=>rw[bJ,bJ,r.1,ih]
 refine⟨hd,u ▸ l,o,A,B,es,ep,C,j,λi hi p D=>?_⟩;obtain⟨x,y,J,n,G⟩:=AC a D;have h:es.toList[i]?=some (entryOfKey (YcA X.prog X.w) x):=by rw[g,aR,y];rfl
 have c:es[i]=entryOfKey (YcA X.prog X.w) x:=by
  have:es.toList[i]?=some es[i]:=by simp[hi]
  rw[this]at h;injection h
 rw[c];exact Y0K x.2.1 n
abbrev kyI(c:Ag):Y4J:=c.map Sum.inl
def kyV(c:Ag):(kyI c).map kV=Yca:=by rw[List.map_map];rfl
@[irreducible] def DV:Y1o:=λxs H Q=>∃(d:Addr) (kvs:Yw) (cs:Ac),xs=Y3F d/\H d=Y1I/\kvs.map (·.1)=cs.map kyI/\(∀c∈cs,c≠[])/\cs.length<64 /\
 ∀q (ys:An) (ds:Ac) H',ds.Perm cs->ds.Pairwise (λa b=>lQ a b=true)->H q=none->H' q=Y0f->Y1m (ds.map Y95) ys->Y0->Y0i q
def rsrd{H:Hp}{Q:VK}{d:Addr}{kvs:Yw}{cs:Ac}(h:H d=Y1I)(hk:kvs.map (·.1)=cs.map kyI)(hc:∀c∈cs,c≠[])(hz:cs.length<64)
  (q:∀q (ys:An) (ds:Ac) H',ds.Perm cs->ds.Pairwise (λa b=>lQ a b=true)->H q=none->H' q=Y0f->Y1m (ds.map Y95) ys->Y0->Y0i q):DV (Y3F d) H Q:=by
 unfold DV;exact Y2w d kvs cs h hk hc hz q
def NU{X:Cx}(hc:Y1J):Y3W X "sorted" DV:=by
 unfold DV;intro S s σ H xs us Q I r h;obtain⟨d,L,g,rfl,hq,N,ac,hz,q⟩:=h;obtain⟨u,rfl,ρ⟩:=lS r;cases ρ;obtain⟨O,U,o,η,φ,es,ep,ξ,ad,κ⟩:=aAu I hq;have lk:L.length=g.length:=by have:=Y4t N;simpa using this
 refine JE (HP (MW O φ ξ) (show X.A.in1.handled=none from I.ok.hd hc) η (by rw[sizeLine_eq];exact Oo) λJ τ P kp G=>?_);obtain⟨la,G⟩:=G;have I1:Y1D S H ({ s with heap:=J,toks:=τ }):=I.kept kp;have aa:∀(n:Nat) (l:Ah),l.length=n->∀(m:Ac),m.length=n->(∀(i:Nat) v c,l[i]?=Yi->m[i]?=Y09->∃b,v=Y0z/\H b=Yd3)->∃B:An,dO B l/\Y18 (m.map Y95) B:=by
  intro n
  induction n with
  | zero =>
   intro l ζ m O _;cases l with
   | nil=>cases m with
    | nil=>exact⟨[],.nil,aH.nil⟩
    | cons _ _=>simp at O
   | cons _ _=>simp at ζ
  | succ n ih =>
   intro l ζ m O N;cases l with
   | nil=>simp at ζ
   | cons v l=>cases m with
    | nil=>simp at O
    | cons c m =>
     obtain⟨b,rfl,hb⟩:=N 0 v c rfl rfl;obtain⟨B,ε,α⟩:=ih l (by simpa using ζ) m (by simpa using O) λi v p J ο=>N (i+1) v p (by simpa using J) (by simpa using ο);have rb:∀c:Ag,Y18 (c.map PyData.int) Yca:=λc=>by
      induction c with
      | nil=>exact aH.nil
      | cons x c ih=>exact Yex ih
     exact⟨Y0z::B,.cons rfl ε,aH.cons (bI.tup hb (rb c)) α⟩
 have C:P.toList.length=g.length:=by rw[Array.length_toList,la,ad,lk]
 obtain⟨B,ε,α⟩:=aa g.length P.toList C g rfl λi v c ψ W=>by
  obtain⟨z,e⟩:=G i v (by rw[<-Array.getElem?_toList];exact ψ);have hp:∃p,L[i]?=some p/\p.1=kyI c:=by
   have:(L.map (·.1))[i]?=some (kyI c):=by rw[N,aR,W];rfl
   rw[aR]at this;obtain⟨p,J,ο⟩:=Option.map_eq_some_iff.mp this;exact⟨p,J,ο⟩
  obtain⟨p,μ,υ⟩:=hp;obtain⟨b,k1,k2⟩:=κ i z p μ;rw[υ,kyV]at k2;exact⟨b,by rw[e,k1],k2⟩
 have β:g.Nodup:=by
  rw[N]at U;exact List.Pairwise.of_map _ (λa b h e=>h (by rw[e])) U
 have R:B.length=g.length:=by rw[α.len,aB]
 refine⟨J,τ,g,rfl,kp,DI I1 α ac ε,Oo,λw h' D c hg ho keep hD δ=>?_⟩;have y:w.toList.Perm (List.range g.length):=by
  have:=(Array.perm_iff_toList_perm.mp hg);rw[<-C];simpa using this
 have γ:∀i∈w.toList,i<B.length:=λi z=>by
  have:=y.mem_iff.mp z;rw[R];simpa using this
 have ν:(Yee (Ybo i)).length=g.length:=by rw[aB,y.length_eq,bC]
 have hn:=I1.hok.fresh hD;have sm:aX H (Y1S H D (Yee (Ybo i))):=aX.upd hn;refine Y2S (.ref D) (Y1S H D (Yee (Ybo i))) (I1.laid (t':=τ) keep hD ⟨by rw[ν,sizeLine_eq];exact Oo,_,c,DG ε _ γ,δ⟩) ?_;have ha:=ho (C ▸ TH β);have Z:=hg.size;have ab:(w.toList.map λi=>g.getD i []).Perm g:=by
  have J:=y.map λi=>g.getD i [];have e:(List.range g.length).map (λi=>g.getD i [])=g:=by
   apply List.ext_getElem?;intro i;rw[aR];by_cases z:i<g.length
   ·rw[cX z,aD z,Option.map_some,bH,aD z];rfl
   ·rw[fF (by simpa using z),fF Oo];rfl
  rwa [e]at J
 refine q D _ (Yee (g.getD i [])) _ ab ?_ hn bK ?_ sm
 ·rw[List.pairwise_map,List.pairwise_iff_getElem];intro i j z ω ι;have θ:i<w.size:=by simpa using z
  have T:j<w.size:=by simpa using ω
  have ψ:w.toList[i]=w.getD i 0:=by rw[Array.getElem_toList];exact(by simp[Array.getD,θ]:w.getD i 0=w[i]).symm
  have W:w.toList[j]=w.getD j 0:=by rw[Array.getElem_toList];exact(by simp[Array.getD,T]:w.getD j 0=w[j]).symm
  rw[ψ,W];exact ha i j ι (by rw[<-Z];exact T)
 ·have χ:∀M:Af,(∀i∈M,i<g.length)->Y18 ((M.map λi=>g.getD i []).map Y95) (M.map λi=>Ybo i):=λM=>by
   induction M with
   | nil=>exact λ_=>aH.nil
   | cons i M ih =>
    intro h;have z:=h i (aV ..);have hd:(g.map Y95)[i]?=some (PyData.tuple ((g.getD i []).map .int)):=by
     rw[aR,bH,aD z];rfl
    obtain⟨x,hx,ρ⟩:=α.get' hd;have W:Ybo i=x:=by rw[bH,hx];rfl
    refine aH.cons ?_ (ih λj ω=>h j (aZ _ ω));show Y0x _ (Ybo i);rw[W];exact ρ
  exact(χ w.toList λi z=>by rw[<-R];exact γ i z).same sm
end L2
namespace L2
open PySem PySem.Spec PyProof.Rows
section
variable{X:Cx}
end
section
variable{X:Cx}
end
end L2
namespace L2
open PySem PySem.Spec PySem.W PyProof.Rows HT
end L2
namespace L2
open PySem PySem.Spec PyProof.Rows
@[irreducible] def rLr(vs:An)(H:Hp)(Q:VK):Prop:=∃n:Nat,vs=[.int (n:Int)]/\Y7R n/\∀l,H l=none->Y10 l (Y1S H l ((List.range n).map λ(i:Nat)=>V.int (i:Int)))
def rlr{n:Nat}{H:Hp}{Q:VK}(hn:Y7R n)(q:∀l H',H l=none->H' l=Y05 ((List.range n).map λ(i:Nat)=>V.int (i:Int))->Y0->Y0i l):rLr [.int (n:Int)] H Q:=by
 unfold rLr;exact Y1L n hn (λl a=>q l _ a bK (aX.upd a))
def tLr(ta:TA):TE:=λσ H Q=>ta σ H (λvs H1=>rLr vs H1 Q)
def KH:YbZ "list"=Ycj "list":=Kk
def IF:YbZ "range"=Ycj "range":=Kk
def IT{n:Nat}{acc:Aj}(h:ItemsOf (λi v=>∃t,v=Y7b (0+(i:Nat)*1)) acc n):dO ((List.range n).map λ(i:Nat)=>V.int (i:Int)) acc.toList:=by
 obtain⟨w,u⟩:=h;have p:∀(m:Nat) (l:Ah) (k:Nat),l.length=m->(∀i,(g:i<l.length)->∃t,l[i]=.int ((k+i:Nat):Int) t)->dO ((List.range m).map λ(i:Nat)=>V.int ((k+i:Nat):Int)) l:=by
  intro m
  induction m with
  | zero=>intro l k d _;cases l with
   | nil=>exact .nil
   | cons=>cases d
  | succ m ih =>
   intro l k d s;cases l with
   | nil=>cases d
   | cons a l =>
    rw[List.range_succ_eq_map,bJ,List.map_map];obtain⟨t,c⟩:=s 0 (by simp);refine .cons ⟨t,c⟩ ?_;have:=ih l (k+1) (by simpa using d) λi g=>by
     obtain⟨t,c⟩:=s (i+1) (by simpa using g);refine Y0b t;have e:k+(i+1)=k+1+i:=Oo;rw[e]at c;simpa using c
    have e:(λ(i:Nat)=>V.int ((k+i:Nat):Int)) ∘ Nat.succ=λ(i:Nat)=>V.int ((k+1+i:Nat):Int):=by
     funext i
     show V.int ((k+(i+1):Nat):Int)=_;rw[show k+(i+1)=k+1+i by exact Oo]
    rw[e];exact this
 have r:=p n acc.toList 0 (by simpa using w) λi g=>by
  have j:i<acc.size:=by simpa using g
  obtain⟨t,c⟩:=u i acc[i] (by simp[j]);exact⟨t,by rw[Array.getElem_toList,c,Nat.zero_add,Int.zero_add,Int.mul_one]⟩
 simpa using r
section
variable{X:Cx}{a:Expr}{ta:TA}{p1 np p2 pos:Pos}
def WI(hc:Y1J)(hg1:Gl X "list")(hm1:X.mg "list" = none)(hg:Gl X "range")(hm:X.mg "range" = none)(ha:FK X [a] ta)(hs:Y3P a=[(false,Y0d a)]:=by first | exact nG | exact mO | exact gT | rfl) :
  Y83 "list" p1 [YbW "range" np [a] [] p2] [] (tLr ta):=⟨by
 intro c s σ H Q I h;have g:Y3P (YbW "range" np [a] [] p2)=[(false,Y0d (YbW "range" np [a] [] p2))]:=mO;refine Call_ (qY I hg1 hm1 KH (PyProof.Rows.callWith_type1 ?_ (by rw[g];rfl) rfl));rw[g];refine Calls.spliced_cons (Call_ (qY I hg hm IF (YaJ (ha.p p2 c s σ H _ I h) (λJ d ⟨G,H1,I1,A,l⟩=>?_) (by rw[hs];rfl) rfl)));unfold rLr at l;obtain⟨n,rfl,y,q⟩:=l;obtain⟨u,rfl,r⟩:=lS A;obtain⟨t,rfl⟩:=r;refine call_range_1 ?_;have I2:Y1D c H1 ({ d with heap:=d.heap.push { cls:=.type "range",data:=.fields #[.int 0 d.toks,.int (n:Int) t,.int 1 (d.toks+1)] },toks:=d.toks+1+1 }):=I1.kept (YaR _ e);refine wpAny_pure (call_list_range (n:=n) (I2.ok.hd hc) (IsRange.new ..) (small_one Dd Dd Oo Oo) (by rw[rangeSize_one];split <;> exact Oo) Oo λx B j D kp e m=>?_);have z:=IT m;have C:Y0r (((List.range n).map λ(i:Nat)=>V.int (i:Int)).length):=by rw[aB,bC];exact aP y Dd
 exact Y2l (.ref _) (I2.laid (t':=B) kp (Yn) (show eU X.prog X.w _ x _ (.lst _)from⟨C,j.toList,D,z,e⟩)) (q _ (I2.hok.fresh (Yn)))⟩
end
end L2
namespace Mf
def lw(n d:Int):Int × Int:=(n/(Int.gcd n d:Int),d/(Int.gcd n d:Int))
structure VZ(n d:Int):Prop where
 pos:0<d
 low:Y0H n d
def kP{n d:Int}(h:0<d):0<(Int.gcd n d:Int):=by
 have:=Int.gcd_pos_of_ne_zero_right n (Int.ne_of_gt h);exact Oo
def kG{n d:Int}(h:0<d):VZ (lw n d).1 (lw n d).2:=by
 have g:=kP (n:=n) h;refine Y0b ?_
 ·exact Int.ediv_pos_of_pos_of_dvd h (Int.le_of_lt g) (Ycg n)
 ·exact Int.gcd_ediv_gcd_ediv_gcd Oo
def aAm{n d:Int}:(lw n d).1*(Int.gcd n d:Int)=n/\(lw n d).2*(Int.gcd n d:Int)=d :=
 ⟨Int.ediv_mul_cancel (YfG n),Int.ediv_mul_cancel (Ycg n)⟩
def sI{n d:Int}:(lw n d).1*d=n*(lw n d).2:=by
 obtain⟨c,e⟩:=aAm (n:=n) (d:=d);generalize (lw n d).1=a at *;generalize (lw n d).2=b at *;generalize (Int.gcd n d:Int)=g at *;rw[<-c,<-e];rw[Int.mul_assoc,Int.mul_comm g b]
def NI{b a d:Int}(h:b ∣ a*d)(g:Y0H b a):b ∣ d:=by
 rw[<-Int.natAbs_dvd_natAbs,hV]at h;rw[<-Int.natAbs_dvd_natAbs];rw[Int.gcd_eq_natAbs_gcd_natAbs]at g;exact Nat.Coprime.dvd_of_dvd_mul_left g h
def GV{a b c d:Int}(h1:VZ a b)(h2:VZ c d)(e:a*d=c*b):a=c/\b=d:=by
 have i:b ∣ d:=by
  have:b ∣ a*d:=by rw[e];exact Int.dvd_mul_left c b
  exact NI this (by rw[Int.gcd_comm];exact h1.low)
 have h:d ∣ b:=by
  have:d ∣ c*b:=by rw[<-e];exact Int.dvd_mul_left a d
  exact NI this (by rw[Int.gcd_comm];exact h2.low)
 have j:=h1.pos;have hd:=h2.pos;have g:b=d:=Int.dvd_antisymm (Int.le_of_lt j) (Int.le_of_lt hd) i h;subst g;exact⟨Int.eq_of_mul_eq_mul_right Oo e,rfl⟩
def EE{a b n d:Int}(h:VZ a b)(hd:0<d)(e:a*d=n*b):lw n d=(a,b):=by
 have c:=YfW n;have q:=GV (kG (n:=n) hd) h (by
  have g:d≠0:=Oo;apply Int.eq_of_mul_eq_mul_right g
  calc (lw n d).1*b*d=((lw n d).1*d)*b:=by rw[Int.mul_assoc,Int.mul_comm b d,<-Int.mul_assoc]
   _=(n*(lw n d).2)*b:=by rw[c]
   _=(n*b)*(lw n d).2:=by rw[Int.mul_assoc,Int.mul_comm (lw n d).2 b,<-Int.mul_assoc]
   _=(a*d)*(lw n d).2:=by rw[e]
   _=a*(lw n d).2*d:=by rw[Int.mul_assoc,Int.mul_comm d,<-Int.mul_assoc])
 exact Prod.ext q.1 q.2
def MR{a b:Int}(h:VZ a b):lw a b=(a,b):=EE h h.pos rfl
def rH{u a b:Int}(h1:Y0H u a)(h2:Y0H u b):Y0H u (a*b):=by
 rw[Int.gcd_eq_natAbs_gcd_natAbs]at *;rw[hV];exact Nat.Coprime.mul_right h1 h2
def oN{a b c:Int}(h:Y0H a b)(d:c ∣ b):Y0H a c:=by
 have:=Int.gcd_dvd_gcd_of_dvd_right a d;rw[h]at this;exact Nat.eq_one_of_dvd_one this
def kQ{a b c:Int}(h:Y0H a b)(d:c ∣ a):Y0H c b:=by
 rw[Int.gcd_comm]at *;exact oN h d
def XV{a b c d:Int}(h1:VZ a b)(h2:VZ c d) :
  let g:Int:=Yae b
  let u:=a*(d/g)+c*(b/g)
  let l:Int:=Int.gcd u g
  lw (a*d+c*b) (b*d)=(u/l,(b/g)*(d/l)):=by
 intro g u l;have A:0<g:=kP h2.pos;have W:0<l:=kP A;obtain⟨s,r⟩:=YfG b;obtain⟨p,n⟩:=Ycg b;have r:b=g*s:=r;have n:d=g*p:=n;have L:b/g=s:=by rw[r];exact Y7k _
 have P:d/g=p:=by rw[n];exact Y7k _
 have D:u=a*p + c*s:=by show a*(d/g)+c*(b/g)=_;rw[L,P]
 have z:Y0H s p:=by
  have:=Int.gcd_ediv_gcd_ediv_gcd (i:=b) (j:=d) (by have:0<(Int.gcd b d:Int):=A;exact Oo);have h:Y0H (b/g) (d/g):=this
  rwa [L,P]at h
 have C:Y0H a s:=oN h1.low ⟨g,by rw[r,Int.mul_comm]⟩;have I:Y0H c p:=oN h2.low ⟨g,by rw[n,Int.mul_comm]⟩;have S:Y0H u s:=by
  rw[D,Int.add_comm,Int.gcd_mul_right_add_left,Int.gcd_mul_right_left_of_gcd_eq_one C,Int.gcd_comm];exact z
 have U:Y0H u p:=by
  rw[D,Int.gcd_mul_right_add_left,Int.gcd_mul_right_left_of_gcd_eq_one I];exact z
 obtain⟨w,m⟩:=Int.gcd_dvd_left u g;obtain⟨x,e⟩:=Int.gcd_dvd_right u g;have m:u=l*w:=m;have e:g=l*x:=e;have R:u/l=w:=by rw[m];exact Y7k _
 have M:d/l=x * p:=by rw[n,e,Int.mul_assoc];exact Y7k _
 have J:Y0H w x:=by
  have:=Int.gcd_ediv_gcd_ediv_gcd (i:=u) (j:=g) (by have:0<(Int.gcd u g:Int):=W;exact Oo);have h:Y0H (u/l) (g/l):=this;rw[R]at h
  rwa [show g/l=x from by rw[e];exact Y7k _]at h
 rw[R,L,M];have y:w ∣ u:=⟨l,by rw[m,Int.mul_comm]⟩;have O:0<s:=by
  have:=h1.pos;rw[r]at this;exact YbY Oo
 have B:0<p:=by
  have:=h2.pos;rw[n]at this;exact YbY Oo
 have N:0<x:=by
  have:=A;rw[e]at this;exact YbY Oo
 refine EE (Y0b (Int.mul_pos O (Int.mul_pos N B))) (Int.mul_pos h1.pos h2.pos) ?_
 ·exact rH (kQ S y) (rH J (kQ U y))
 ·have T:a*d+c*b=g*(l*w):=by
   rw[<-m,D,r,n];rw[Int.mul_add,Int.mul_left_comm a,Int.mul_left_comm c]
  rw[T,r,n];generalize hG:g=G at *;rw[e];simp only[Int.mul_assoc,Int.mul_left_comm,Int.mul_comm]
def RM{a b c d:Int}(h1:VZ a b)(h2:VZ c d) :
  let f:Int:=Yae a
  let s:Int:=Int.gcd c b
  lw (a*c) (b*d)=((a/f)*(c/s),(b/s)*(d/f)):=by
 intro f s;have M:0<f:=kP h2.pos;have N:0<s:=kP h1.pos;obtain⟨p,n⟩:=YfG a;obtain⟨g,l⟩:=Ycg a;obtain⟨u,r⟩:=Int.gcd_dvd_left c b;obtain⟨e,m⟩:=Int.gcd_dvd_right c b;have n:a=f*p:=n;have l:d=f*g:=l;have r:c=s*u:=r;have m:b=s*e:=m;have I:a/f=p:=by rw[n];exact Y7k _
 have D:d/f=g:=by rw[l];exact Y7k _
 have L:c/s=u:=by rw[r];exact Y7k _
 have J:b/s=e:=by rw[m];exact Y7k _
 have A:Y0H p g:=by
  have:=Int.gcd_ediv_gcd_ediv_gcd (i:=a) (j:=d) (by have:0<(Int.gcd a d:Int):=M;exact Oo);have h:Y0H (a/f) (d/f):=this
  rwa [I,D]at h
 have z:Y0H u e:=by
  have:=Int.gcd_ediv_gcd_ediv_gcd (i:=c) (j:=b) (by have:0<(Int.gcd c b:Int):=N;exact Oo);have h:Y0H (c/s) (b/s):=this
  rwa [L,J]at h
 have x:Y0H p e:=kQ (oN h1.low ⟨s,by rw[m,Int.mul_comm]⟩) ⟨f,by rw[n,Int.mul_comm]⟩;have y:Y0H u g:=kQ (oN h2.low ⟨f,by rw[l,Int.mul_comm]⟩) ⟨s,by rw[r,Int.mul_comm]⟩;have B:0<e:=by
  have:=h1.pos;rw[m]at this;exact YbY Oo
 have w:0<g:=by
  have:=h2.pos;rw[l]at this;exact YbY Oo
 rw[I,J,L,D];refine EE (Y0b (Int.mul_pos B w)) (Int.mul_pos h1.pos h2.pos) ?_
 ·have C:Y0H p (e * g):=rH x A;have G:Y0H u (e * g):=rH z y;rw[Int.gcd_comm]at C G ⊢;exact rH C G
 ·rw[n,m,r,l];simp only[Int.mul_assoc,Int.mul_left_comm,Int.mul_comm]
end Mf
namespace Mf
abbrev Fr:=Int × Int
abbrev _root_.Al:=List Fr
abbrev _root_.Ak:=List Al
def kH(x y:Fr):Fr:=lw (x.1*y.2+y.1*x.2) (x.2*y.2)
def jQ(fs:Al):Fr:=fs.foldl kH (0,1)
def cT(f:Fr):Prop:=VZ f.1 f.2
def pA{α:Type}{P:Y0Z Yo}(h0:P [])(hs:∀l a,P l->P (l++[a]))(l:Yo):P l:=by
 have:∀r:List α,P r.reverse:=by
  intro r
  induction r with
  | nil=>exact h0
  | cons a r ih=>rw[List.reverse_cons];exact hs _ _ ih
 have:=this l.reverse
 rwa [List.reverse_reverse]at this
def lV(l:Al)(a:Fr):jQ (l++[a])=kH (jQ l) a:=by unfold jQ;rw[List.foldl_append];rfl
def sB(l:Al):(∀f∈l,Y01)->cT (jQ l):=by
 refine pA (P:=λl=>(∀f∈l,Y01)->cT (jQ l)) (λ_=>Y8e Dd) (λl a e h=>?_) l;rw[lV];have g:=e λf d=>h f (cD _ d);have c:=h a (bZ _ aV);exact Yg1 g.pos c.pos
def MS{n d:Int}(h:0<d):(lw n d).2<=d/\(lw n d).1.natAbs<=n.natAbs:=by
 obtain⟨c,e⟩:=aAm (n:=n) (d:=d);have g:=kP (n:=n) h;have p:=(kG (n:=n) h).pos;generalize (lw n d).1=a at *;generalize (lw n d).2=b at *;generalize (Int.gcd n d:Int)=G at *;refine Y0b ?_
 ·rw[<-e];have:=Int.mul_le_mul_of_nonneg_left (show(1:Int)<=G by exact Oo) (Int.le_of_lt p);simpa using this
 ·rw[<-c,hV];exact Nat.le_mul_of_pos_right _ Oo
end Mf
namespace Mf
def TW{n d n' d':Int}(hd:0<d)(hd':0<d')(e:n*d'=n' * d):lw n d=lw n' d':=by
 have h:=kG (n:=n') hd';have c:=sI (n:=n') (d:=d');generalize lw n' d'=L at c h;refine EE (a:=L.1) (b:=L.2) h hd (Int.eq_of_mul_eq_mul_right (a:=d') Oo ?_)
 calc L.1*d*d'=(L.1*d')*d:=by ac_rfl
  _=n' * L.2*d:=by rw[c]
  _=(n' * d)*L.2:=by ac_rfl
  _=n*d' * L.2:=by rw[e]
  _=n*L.2*d':=by ac_rfl
def jH(f g:Fr):Fr:=lw (f.1*g.1) (f.2*g.2)
def fR{f g:Fr}(h:Y01)(h':cT g):cT (jH f g):=Yg1 h.pos h'.pos
def aCr{a b c d:Int}(hb:0<b)(hd:0<d):jH (lw a b) (lw c d)=lw (a*c) (b*d):=by
 have h:=(kG (n:=a) hb).pos;have g:=(kG (n:=c) hd).pos;refine TW (Int.mul_pos h g) (Int.mul_pos hb hd) ?_;have e:=sI (n:=a) (d:=b);have i:=YfW c;generalize lw a b=L at *;generalize lw c d=M at *
 calc L.1*M.1*(b*d)=(L.1*b)*(M.1*d):=by ac_rfl
  _=(a*L.2)*(c*M.2):=by rw[e,i]
  _=a*c*(L.2*M.2):=by ac_rfl
def xS(f:Fr)(c:Nat):Fr:=(f.1^c,f.2^c)
theorem mV{f:Fr}(h:Y01):∀c:Nat,cT (xS f c)
 | 0=>⟨by show 0<f.2^0;rw[Int.pow_zero];decide,by show Int.gcd (f.1^0) (f.2^0)=1;rw[Int.pow_zero,Int.pow_zero];decide⟩
 | c+1=>by
  have ih:=mV h c;have k:∀n:Nat,Int.gcd f.1 (f.2^n)=1:=λn=>by
   induction n with
   | zero=>rw[Int.pow_zero];exact Int.gcd_one_right _
   | succ n ih=>rw[Int.pow_succ];exact rH ih h.low
  refine⟨?_,?_⟩
  ·show 0<f.2^(c+1);rw[Int.pow_succ];exact Int.mul_pos ih.pos h.pos
  ·show Int.gcd (f.1^(c+1)) (f.2^(c+1))=1;have a:∀n:Nat,Int.gcd (f.2^(c+1)) (f.1^n)=1:=λn=>by
    induction n with
    | zero=>rw[Int.pow_zero];exact Int.gcd_one_right _
    | succ n ih=>rw[show f.1^(n+1)=f.1^n*f.1 from Int.pow_succ ..];exact rH ih (by rw[Int.gcd_comm];exact k (c+1))
   rw[Int.gcd_comm];exact a (c+1)
def uK(zs:Y4f):Fr:=zs.foldl (λp q=>(p.1*q.1.1^q.2,p.2*q.1.2^q.2)) (1,1)
def lP(zs:Y4f):Fr:=zs.foldl (λp q=>jH p (xS q.1 q.2)) (1,1)
def sP(l:Y4f)(a:Fr × Nat):uK (l++[a])=((uK l).1*a.1.1^a.2,(uK l).2*a.1.2^a.2):=by unfold uK;rw[List.foldl_append];rfl
def sQ(l:Y4f)(a:Fr × Nat):lP (l++[a])=jH (lP l) (xS a.1 a.2):=by unfold lP;rw[List.foldl_append];rfl
def yY(l:Y4f):(∀z∈l,cT z.1)->0<(uK l).2:=by
 induction l using pA with
 | h0=>intro _;decide
 | hs l a ih =>
  intro h;rw[sP];exact Int.mul_pos (ih λf c=>h f (cD _ c)) (mV (h a (by simp)) a.2).pos
def DE(l:Y4f):(∀z∈l,cT z.1)->lP l=lw (uK l).1 (uK l).2:=by
 induction l using pA with
 | h0=>intro _;rfl
 | hs l a ih =>
  intro h;have d:∀f∈l,cT f.1:=λf g=>h f (cD _ g);have c:=mV (h a (by simp)) a.2;rw[sQ,sP,ih d];have e:xS a.1 a.2=lw (a.1.1^a.2) (a.1.2^a.2):=(MR c).symm;rw[e,aCr (yY l d) (show 0<a.1.2^a.2 from c.pos)]
def mP(l:Y4f)(h:∀z∈l,cT z.1):cT (lP l):=by rw[DE l h];exact kG (yY l h)
def wN{x:Int}{B:Nat}(h:x.natAbs<=2^B)(c:Nat):(x^c).natAbs<=2^(B*c):=by
 rw[Int.natAbs_pow,Nat.pow_mul];exact Nat.pow_le_pow_left h c
def WF{B:Nat}(l:Y4f):(∀z∈l,z.1.1.natAbs<=2^B/\z.1.2.natAbs<=2^B)->(uK l).1.natAbs<=2^(B*(l.map (·.2)).sum)/\(uK l).2.natAbs<=2^(B*(l.map (·.2)).sum):=by
 induction l using pA with
 | h0=>intro _;exact⟨Nat.one_le_two_pow,Nat.one_le_two_pow⟩
 | hs l a ih =>
  intro h;obtain⟨g,i⟩:=ih λf d=>h f (cD _ d);obtain⟨c,e⟩:=h a (by simp);rw[sP,bG,List.sum_append,show([a].map (·.2)).sum=a.2 by simp,Nat.mul_add,Nat.pow_add];exact⟨by show((uK l).1*a.1.1^a.2).natAbs<=_;rw[hV];exact Nat.mul_le_mul g (wN c _),by show((uK l).2*a.1.2^a.2).natAbs<=_;rw[hV];exact Nat.mul_le_mul i (wN e _)⟩
def WG{B:Nat}(l:Y4f)(hl:∀z∈l,cT z.1)(h:∀z∈l,z.1.1.natAbs<=2^B/\z.1.2.natAbs<=2^B):(lP l).1.natAbs<=2^(B*(l.map (·.2)).sum)/\(lP l).2.natAbs<=2^(B*(l.map (·.2)).sum):=by
 obtain⟨c,e⟩:=WF l h;rw[DE l hl];have a:=yY l hl;obtain⟨g,d⟩:=MS (n:=(uK l).1) a;have:=(kG (n:=(uK l).1) a).pos;exact Y1j (aP d c)
def FP(l:Y4f):(∀z∈l,0<=z.1.1)->0<=(uK l).1:=by
 induction l using pA with
 | h0=>intro _;decide
 | hs l a ih =>
  intro h;rw[sP];exact Int.mul_nonneg (ih λf c=>h f (cD _ c)) (Int.pow_nonneg (h a (by simp)))
end Mf
namespace Mf
def rv(f:Fr):Rat:=(f.1:Rat)/(f.2:Rat)
def EL{d:Int}(h:0<d):(0:Rat)<(d:Rat):=by exact_mod_cast h
def nF{d:Int}(h:0<d):(d:Rat)≠0:=by have:=EL h;grind
def xG{f:Fr}(h:0<f.2):Y0v*(f.2:Rat)=(f.1:Rat):=by
 have:=nF h;unfold rv;grind
def vH{n d:Int}(h:0<d):rv (lw n d)=(n:Rat)/(d:Rat):=by
 have e:=YfW n;have p:=(kG (n:=n) h).pos;have i:=nF h;have c:=nF p;have g:((lw n d).1:Rat)*(d:Rat)=(n:Rat)*((lw n d).2:Rat):=by exact_mod_cast e
 unfold rv;generalize ((lw n d).1:Rat)=a at *;generalize ((lw n d).2:Rat)=b at *;grind
def oE{f g:Fr}(hf:0<f.2)(hg:0<g.2):rv (kH f g)=Y0v+rv g:=by
 unfold kH;rw[vH (Int.mul_pos hf hg)];have c:=nF hf;have a:=nF hg;unfold rv;rw[Rat.intCast_add,Rat.intCast_mul,Rat.intCast_mul,Rat.intCast_mul];grind
def hJ{f g:Fr}(hf:0<f.2)(hg:0<g.2):rv (jH f g)=Y0v*rv g:=by
 unfold jH;rw[vH (Int.mul_pos hf hg)];have c:=nF hf;have a:=nF hg;unfold rv;rw[Rat.intCast_mul,Rat.intCast_mul];grind
def zY(f:Fr):rv (-f.1,f.2)=- Y0v:=by
 unfold rv;rw[show(((-f.1,f.2):Fr).1:Rat)=-(f.1:Rat)by rw[<-Rat.intCast_neg]];grind
def gL{f g:Fr}(hf:Y01)(hg:cT g)(e:Y0v=rv g):f=g:=by
 have c:(f.1:Rat)*(g.2:Rat)=(g.1:Rat)*(f.2:Rat):=by
  have a:=xG hf.pos;have b:=xG hg.pos;rw[<-a,<-b,e];grind
 have q:=GV hf hg (by exact_mod_cast c);exact Prod.ext q.1 q.2
def oB{f g:Fr}(hf:0<f.2)(hg:0<g.2):f.1*g.2<g.1*f.2↔Y0v<rv g:=by
 have i:=EL hf;have d:=EL hg;have a:=xG hf;have b:=xG hg;have p:(0:Rat)<(f.2:Rat)*(g.2:Rat):=Rat.mul_pos i d;have c:((f.1*g.2:Int):Rat)=Y0v*((f.2:Rat)*(g.2:Rat)):=by rw[Rat.intCast_mul,<-a];grind
 have e:((g.1*f.2:Int):Rat)=rv g*((f.2:Rat)*(g.2:Rat)):=by rw[Rat.intCast_mul,<-b];grind
 rw[<-Rat.intCast_lt_intCast,c,e];constructor
 ·intro h;exact Rat.lt_of_mul_lt_mul_right h (Rat.le_of_lt p)
 ·intro h;exact Rat.mul_lt_mul_of_pos_right h p
def iF:rv (0,1)=0:=by unfold rv;grind
def pG:rv (1,1)=1:=by unfold rv;grind
def rP(l:Y3u):Rat:=l.foldr (· + ·) 0
def uO:rP []=0:=rfl
def kX(x:Rat)(l:Y3u):rP (x::l)=x+rP l:=rfl
theorem sC:∀(a b:Y3u),rP (a++b)=rP a+rP b
 | [],b=>by rw[uO,List.nil_append];grind
 | x::a,b=>by rw[List.cons_append,kX,kX,sC a b];grind
def tW(l:Al):(∀f∈l,Y01)->rv (jQ l)=rP (l.map rv):=by
 induction l using pA with
 | h0=>intro _;exact iF
 | hs l a ih =>
  intro h;have c:∀f∈l,Y01:=λf d=>h f (cD _ d);rw[lV,oE (sB l c).pos (h a (by simp)).pos,ih c,bG,sC,bJ,List.map_nil,kX,uO];grind
def Fn(N B:Nat)(f:Fr):Prop:=Y01/\∃x:Int,Y0v*(N:Rat)=(x:Rat)/\x.natAbs<=B*N
def Fn.low{N B:Nat}{f:Fr}(h:Y3I):Y01:=h.1
def Fn.le{N B C:Nat}{f:Fr}(h:Y3I)(hB:B<=C):Fn N C f:=by
 obtain⟨l,x,c,a⟩:=h;exact⟨l,x,c,aP a (bT _ hB)⟩
def pX{f g:Fr}(h:Y01)(h':cT g):cT (kH f g):=Yg1 h.pos h'.pos
def Fn.add{N B C:Nat}{f g:Fr}(h:Y3I)(h':Fn N C g):Fn N (B+C) (kH f g):=by
 obtain⟨l,x,d,e⟩:=h;obtain⟨a,y,c,i⟩:=h';refine⟨pX l a,x+y,?_,?_⟩
 ·rw[oE l.pos a.pos,Rat.intCast_add,<-d,<-c];grind
 ·rw[Nat.add_mul];exact Oo
def Fn.mul{N M B C:Nat}{f g:Fr}(h:Y3I)(h':Fn M C g):Fn (N*M) (B*C) (jH f g):=by
 obtain⟨l,x,i,d⟩:=h;obtain⟨a,y,c,e⟩:=h';refine⟨fR l a,x*y,?_,?_⟩
 ·rw[hJ l.pos a.pos,Rat.intCast_mul,<-i,<-c,Rat.natCast_mul];grind
 ·rw[hV];have:=Nat.mul_le_mul d e;rw[Nat.mul_mul_mul_comm]at this;exact this
def Fn.neg{N B:Nat}{f:Fr}(h:Y3I):Fn N B (-f.1,f.2):=by
 obtain⟨l,x,c,a⟩:=h;refine⟨⟨l.pos,by show Y0H (-f.1) f.2;rw[Int.neg_gcd];exact l.low⟩,-x,?_,?_⟩
 ·rw[zY,Rat.intCast_neg,<-c];grind
 ·rw[Int.natAbs_neg];exact a
def Fn.up{N B:Nat}{f:Fr}(h:Y3I)(M:Nat):Fn (N*M) B f:=by
 obtain⟨l,x,c,a⟩:=h;refine⟨l,x*(M:Int),?_,?_⟩
 ·rw[Rat.intCast_mul,<-c,Rat.natCast_mul];have:((M:Int):Rat)=(M:Rat):=rfl;rw[this];grind
 ·rw[hV,<-Nat.mul_assoc];exact bT _ a
def Fn.dvd{N M B:Nat}{f:Fr}(h:Y3I)(d:N ∣ M):Fn M B f:=by
 obtain⟨e,rfl⟩:=d;exact h.up e
def tZ(N:Nat):((N:Int):Rat)=(N:Rat):=rfl
def GW:cT (0,1):=Y8e Dd
def JY:cT (1,1):=Y8e Dd
def Fn.zero(N:Nat):Fn N 0 (0,1):=⟨GW,0,by rw[iF];grind,by simp⟩
def Fn.one(N:Nat):Fn N 1 (1,1):=⟨JY,N,by rw[pG,tZ];grind,by simp⟩
def Fn.eq{N B:Nat}{f:Fr}(h:Y3I)(hN:0<N):∃x:Int,f=lw x (N:Int)/\x.natAbs<=B*N:=by
 obtain⟨l,x,d,c⟩:=h;have a:(0:Int)<(N:Int):=Oo;refine⟨x,gL l (kG a) ?_,c⟩;rw[vH a,<-d,tZ];have:=nF a;rw[tZ]at this;grind
def Fn.of{n d:Int}{B:Nat}(h:0<d)(hB:n.natAbs<=B*d.natAbs):Fn d.natAbs B (lw n d):=by
 refine⟨kG h,n,?_,hB⟩;have e:(d.natAbs:Int)=d:=Oo;rw[vH h,<-tZ,e];have:=nF h;grind
def Fn.num{N B:Nat}{f:Fr}(h:Y3I)(hN:0<N):f.1.natAbs<=B*N/\f.2.natAbs<=N:=by
 obtain⟨x,rfl,a⟩:=h.eq hN;have q:=MS (n:=x) (d:=(N:Int)) Oo;have p:=(kG (n:=x) (d:=(N:Int)) Oo).pos;exact Oo
def Fn.tot{N B:Nat}:∀(fs:Al),(∀f∈fs,Y3I)->Fn N (fs.length*B) (jQ fs):=by
 intro fs
 induction fs using pA with
 | h0=>intro _;exact(Fn.zero N).le (dH _)
 | hs l a ih =>
  intro h;rw[lV,bF,List.length_singleton,Nat.add_mul,Nat.one_mul];exact(ih λf c=>h f (cD _ c)).add (h a (bZ _ (Ybq)))
end Mf
namespace Mf
def vL:Y3u->Rat
 | []=>0
 | [x]=>x
 | x::y::l=>if x<=vL (y::l) then x else vL (y::l)
theorem EB:∀{l:Y3u}{x:Rat},x∈l->vL l<=x
 | [],x,h=>by cases h
 | [y],x,h=>by
  rw[aU.mp h];exact Rat.le_refl
 | a::b::l,x,h=>by
  have ih:=λx h=>EB (l:=b::l) (x:=x) h;unfold vL;rcases bD.mp h with rfl | h
  ·split
   ·exact Rat.le_refl
   ·grind
  ·have:=ih x h;split <;> grind
theorem vK:∀{l:Y3u},l≠[]->vL l∈l
 | [],h=>absurd rfl h
 | [y],_=>aU.mpr rfl
 | a::b::l,_=>by
  have ih:=vK (l:=b::l) (by simp);unfold vL;split
  ·exact aV ..
  ·exact aZ _ ih
def EC{l:Y3u}{m:Rat}(h:m∈l)(k:∀x∈l,m<=x):vL l=m:=by
 have c:=EB h;have a:=k _ (vK (l:=l) (λe=>by rw[e]at h;cases h));grind
def MQ{l:Y3u}{m:Rat}(h:l≠[])(k:∀x∈l,m<=x):m<=vL l:=k _ (vK h)
def dD(n:Nat)(f:Y0s):Rat:=rP ((List.range n).map f)
def gK(f:Y0s):dD 0 f=0:=rfl
def dU(n:Nat)(f:Y0s):dD (n+1) f=dD n f+f n:=by
 unfold dD;rw[List.range_succ,bG,sC,bJ,List.map_nil,kX,uO];grind
def dF{n:Nat}{f g:Y0s}(h:∀i,i<n->f i=g i):dD n f=dD n g:=by
 induction n with
 | zero=>rfl
 | succ n ih=>rw[dU,dU,ih λi a=>h i Oo,h n Oo]
def RW(n:Nat)(f g:Y0s):Y7v n (f i+g i)=dD n f+dD n g:=by
 induction n with
 | zero=>rw[gK,gK,gK];grind
 | succ n ih=>rw[dU,dU,dU,ih];grind
def zN(n:Nat)(a:Rat)(f:Y0s):Y7v n (a*f i)=a*dD n f:=by
 induction n with
 | zero=>rw[gK,gK];grind
 | succ n ih=>rw[dU,dU,ih];grind
def pN{n:Nat}{f g:Y0s}(h:∀i,i<n->f i<=g i):dD n f<=dD n g:=by
 induction n with
 | zero=>rw[gK,gK];exact Rat.le_refl
 | succ n ih =>
  have a:=ih λi c=>h i Oo;have d:=h n Oo;rw[dU,dU];grind
def kJ(n:Nat):dD n (YaB)=0:=by
 induction n with
 | zero=>rfl
 | succ n ih=>rw[dU,ih];grind
def DL{n:Nat}{f:Y0s}(h:∀i,i<n->0<=f i):0<=dD n f:=by
 have:=pN (n:=n) (f:=YaB) (g:=f) h
 rwa [kJ]at this
def uN{n:Nat}(f:Y0s){w:Nat}(h:w<n):dD n f-f w=Y7v n (if i=w then 0 else f i):=by
 induction n with
 | zero=>exact Oo
 | succ n ih =>
  rw[dU,dU];by_cases e:w=n
  ·subst e;rw[Y12,dF (g:=f) λi a=>Y8W];grind
  ·rw[Y7I (e q.symm),<-ih Oo];grind
def bN(c:Af)(i:Nat):Af:=c.set i (c.getD i 0+1)
def rQ(W:Nat)(d:Y0s):Y3u:=(List.range W).map λw=>dD W d-d w
def vF{W:Nat}{d:Y0s}{x:Rat}:x∈rQ W d ↔ ∃w,w<W/\x=dD W d-d w:=by
 unfold rQ;rw[aQ];constructor
 ·rintro⟨w,h,rfl⟩;exact Y5P w (cB.mp h)
 ·rintro⟨w,h,rfl⟩;exact Y5P w (cB.mpr h)
def DC(W F:Nat)(q:Nat->Y0S)(mix ps cs:Y0s):Nat->Y0S
 | 0,c=>vL (rQ W λv=>ps v*q v c)
 | n+1,c=>vL (rQ W (λv=>ps v*q v c)++[cs c.sum*dD W (λv=>mix v*q v c)+dD F (λj=>DC W F q mix ps cs n (bN c j))])
section
variable{W F:Nat}{q:Nat->Y0S}{mix ps ps' cs:Y0s}
def wG(n:Nat)(c:Af):DC W F q mix ps cs (n+1) c=vL (rQ W (λv=>ps v*q v c)++[cs c.sum*Y6q W (mix v*q v c)+dD F (λj=>DC W F q mix ps cs n (bN c j))]):=rfl
def SL(hW:0<W)(d:Y0s):rQ W d≠[]:=λe=>by
 have:dD W d-d 0∈rQ W d:=vF.mpr (Y5P 0 hW);rw[e]at this;cases this
def QX(hW:0<W)(hq:∀v c,0<=q v c)(hm:∀v,v<W->0<=mix v)(hc:∀k,0<=cs k):∀(n:Nat) (c:Af),DC W F q mix (YaB) cs n c=0:=by
 have z:∀c:Af,Y6q W (0*q v c)=0:=λc=>by
  rw[Y7C 0 (λi _=>by grind)];exact kJ W
 have says:∀(c:Af) (x:Rat),x∈rQ W (λv=>0*q v c)↔x=0:=λc x=>by
  rw[vF,z];constructor
  ·rintro⟨w,l,rfl⟩;grind
  ·rintro rfl;exact⟨0,hW,by grind⟩
 intro n
 induction n with
 | zero=>intro c;exact EC ((says c 0).mpr rfl) λx a=>by rw[(says c x).mp a];exact Rat.le_refl
 | succ n ih =>
  intro c;rw[wG];refine EC (cD _ ((says c 0).mpr rfl)) λx a=>?_;rcases bY.mp a with a | a
  ·rw[(says c x).mp a];exact Rat.le_refl
  ·rw[aU.mp a,Y7C 0 (λj _=>ih (bN c j)),kJ];have e:=DL (n:=W) λv d=>fU (hm v d) (hq v c);have h:=fU (hc c.sum) e;grind
end
end Mf
namespace Mf
theorem DK:∀(l:Af) (j v x:Nat),l[j]?=Y8->(l.set j v).sum+x=l.sum+v
 | [],j,v,x,h=>by simp at h
 | a::l,0,v,x,h=>by
  have:a=x:=by simpa using h
  subst this;simp only[List.set_cons_zero,List.sum_cons];exact Oo
 | a::l,j+1,v,x,h=>by
  have:=DK l j v x (by simpa using h);simp only[List.set_cons_succ,List.sum_cons];exact Oo
def cta:Nat->Nat->Ab
 | 0,_=>[]
 | 1,m=>[[m]]
 | F+2,m=>(List.range (m+1)).flatMap λk=>(cta (F+1) (m-k)).map λc=>k::c
theorem iZ:∀{F m:Nat}{c:Af},c∈Y2N m->Y2B/\c.sum=m
 | 0,m,c,h=>by cases h
 | 1,m,c,h=>by
  have:c=[m]:=by simpa[cta]using h
  subst this;simp
 | F+2,m,c,h=>by
  obtain⟨k,a,h⟩:=List.mem_flatMap.mp h;obtain⟨d,hd,rfl⟩:=aQ.mp h;have a:=cB.mp a;obtain⟨e,g⟩:=iZ hd;refine⟨by simp[e],?_⟩;rw[List.sum_cons];exact Oo
end Mf
namespace Mf
def Qn(N B:Nat)(x:Rat):Prop:=∃z:Int,x*(N:Rat)=(z:Rat)/\z.natAbs<=B*N
def Fn.q{N B:Nat}{f:Fr}(h:Y3I):Qn N B (Y0v):=h.2
theorem Qn.f{N B:Nat}{f:Fr}(l:Y01)(h:Qn N B (Y0v)):Y3I:=⟨l,h⟩
def gM(x:Rat):Fr:=(x.num,(x.den:Int))
def bL(x:Rat):cT (gM x):=by
 refine Y0b ?_
 ·show(0:Int)<(x.den:Int);have:=x.den_pos;exact Oo
 ·show Y0H x.num (x.den:Int);rw[Int.gcd_eq_natAbs_gcd_natAbs,Int.natAbs_natCast];exact x.reduced
def dA(x:Rat):rv (gM x)=x:=by
 unfold rv gM;show(x.num:Rat)/((x.den:Int):Rat)=x;rw[<-Rat.divInt_eq_div,Rat.num_divInt_den]
def aCH{f:Fr}(h:Y01):gM (Y0v)=f:=gL (Yr) h (dA _)
def Qn.fq{N B:Nat}{x:Rat}(h:Qn N B x):Fn N B (gM x):=⟨bL x,by rw[dA];exact h⟩
def Qn.le{N B C:Nat}{x:Rat}(h:Qn N B x)(hB:B<=C):Qn N C x:=by
 obtain⟨z,c,a⟩:=h;exact⟨z,c,aP a (bT _ hB)⟩
def Qn.add{N B C:Nat}{x y:Rat}(h:Qn N B x)(h':Qn N C y):Qn N (B+C) (x+y):=by
 obtain⟨z,c,d⟩:=h;obtain⟨u,a,e⟩:=h';refine Y2n (z+u)
 ·rw[Rat.intCast_add,<-c,<-a];grind
 ·rw[Nat.add_mul];exact Oo
def Qn.neg{N B:Nat}{x:Rat}(h:Qn N B x):Qn N B (-x):=by
 obtain⟨z,c,a⟩:=h;refine⟨-z,?_,by rw[Int.natAbs_neg];exact a⟩;rw[Rat.intCast_neg,<-c];grind
def Qn.sub{N B C:Nat}{x y:Rat}(h:Qn N B x)(h':Qn N C y):Qn N (B+C) (x-y):=by
 have:=h.add h'.neg
 rwa [<-Rat.sub_eq_add_neg]at this
def Qn.mul{N M B C:Nat}{x y:Rat}(h:Qn N B x)(h':Qn M C y):Qn (N*M) (B*C) (x*y):=by
 obtain⟨z,e,c⟩:=h;obtain⟨u,a,d⟩:=h';refine Y2n (z*u)
 ·rw[Rat.intCast_mul,<-e,<-a,Rat.natCast_mul];grind
 ·rw[hV];have:=Nat.mul_le_mul c d;rw[Nat.mul_mul_mul_comm]at this;exact this
def Qn.dvd{N M B:Nat}{x:Rat}(h:Qn N B x)(d:N ∣ M):Qn M B x:=by
 obtain⟨e,rfl⟩:=d;obtain⟨z,c,a⟩:=h;refine Y2n (z*(e:Int))
 ·rw[Rat.intCast_mul,<-c,Rat.natCast_mul,tZ];grind
 ·rw[hV,<-Nat.mul_assoc];exact bT _ a
def Qn.zero(N B:Nat):Qn N B 0:=⟨0,by grind,by simp⟩
theorem Qn.sumR{N B:Nat}{f:Y0s}:∀{n:Nat},(∀i,i<n->Qn N B (f i))->Qn N (n*B) (dD n f)
 | 0,_=>by rw[gK];exact Qn.zero _ _
 | n+1,h=>by
  rw[dU,Nat.add_mul,Nat.one_mul];exact(Qn.sumR λi hi=>h i Oo).add (h n Oo)
def Qn.min{N B:Nat}{l:Y3u}(h:∀x∈l,Qn N B x)(ne:l≠[]):Qn N B (vL l):=h _ (vK ne)
def JI{f:Fr}(h:Y01)(n:Nat):rv (xS f n)=Y0v^n:=by
 have a:=nF h.pos
 induction n with
 | zero=>unfold xS rv;grind
 | succ n ih =>
  have e:rv (xS f (n+1))=rv (xS f n)*Y0v:=by
   have c:=nF (mV h n).pos;unfold xS rv at *;simp only[Int.pow_succ,Rat.intCast_mul]at *;generalize ((f.1^n:Int):Rat)=u at *;generalize ((f.2^n:Int):Rat)=v at *;grind
  rw[e,ih,Rat.pow_succ]
theorem Qn.pow{N:Nat}{x:Rat}(h:Qn N 1 x):∀n:Nat,Qn (N^n) 1 (x^n)
 | 0=>⟨1,by rw[Rat.pow_zero,Nat.pow_zero];grind,by simp⟩
 | n+1=>by
  rw[Rat.pow_succ,Nat.pow_succ];exact(Qn.pow h n).mul h
def aAG{N:Nat}(l:Y4f):(∀z∈l,Fn N 1 z.1)->Qn (N^(l.map (·.2)).sum) 1 (rv (lP l)):=by
 induction l using pA with
 | h0=>intro _;exact⟨1,by show rv (1,1)*_=_;rw[pG];simp,by simp⟩
 | hs l a ih =>
  intro h;have e:∀z∈l,Fn N 1 z.1:=λz d=>h z (cD _ d);have c:=h a (by simp);rw[sQ,hJ (mP l λz d=>(e z d).low).pos (mV c.low a.2).pos,JI c.low,bG,List.sum_append,Nat.pow_add];have:=(ih e).mul (c.q.pow a.2);simpa using this
def LZ{f:Fr}(h:Y01)(h0:0<=f.1):0<=Y0v:=by
 have c:=EL h.pos;have a:(0:Rat)<=(f.1:Rat):=by exact_mod_cast h0
 have:Y0v=(f.1:Rat)*(f.2:Rat)⁻¹:=by unfold rv;exact Rat.div_def _ _
 rw[this];exact fU a (Rat.le_of_lt (Rat.inv_pos.mpr c))
def aAH(l:Y4f):(∀z∈l,cT z.1/\0<=z.1.1)->0<=rv (lP l):=by
 intro h;have c:∀z∈l,cT z.1:=λz a=>(h z a).1;refine LZ (mP l c) ?_;rw[DE l c];have d:=FP l λz a=>(h z a).2;exact YeZ d _
def OD{α:Type}(l:Yo)(m:Af):((l.zip m).map (·.2)).sum<=m.sum:=by
 induction l generalizing m with
 | nil=>simp
 | cons a l ih =>
  cases m with
  | nil=>simp
  | cons b m =>
   have:=ih m;simp only[List.zip_cons_cons,bJ,List.sum_cons];exact Oo
def wq(fs:Al)(c:Af):Rat:=rv (lP (fs.zip c))
def LJ{N M:Nat}{fs:Al}{c:Af}(h:∀f∈fs,Y4N N)(hc:Y38 M):Qn (N^M) 1 (wq fs c):=by
 have d:=aAG (fs.zip c) (λz e=>h z.1 (List.of_mem_zip (a:=z.1) (b:=z.2) e).1);have g:=OD fs c;exact d.dvd (YfQ Oo)
def LK{fs:Al}{c:Af}(h:∀f∈fs,Y01/\0<=f.1):0<=wq fs c :=
 aAH _ λz d=>h z.1 (Yf3 z.1 z.2).1
@[irreducible] def WB:Nat:=2^680
def ZN:1000000000000000000000<=WB:=by unfold WB;exact Y6d (show 1000000000000000000000<=2^70 by decide)
def aGv:4*WB<=2^690:=by unfold WB;exact Y6d (Nat.le_of_eq (show 4*2^680=2^682 by rw[show(4:Nat)=2^2 from rfl,<-Nat.pow_add]))
structure jE(F W M:Nat)(ss:Ak)(mix ps cs:Al)(Ns Nm Np Nc B:Nat):Prop where
 f1:1<=F
 f4:F<=4
 w1:1<=W
 w4:W<=4
 m5:M<=5
 sl:ss.length=W
 ml:mix.length=W
 pl:Y91 W
 cl:Yad M
 sh:∀s∈ss,s.length=F/\∀f∈s,Y4N Ns
 mx:∀f∈mix,Y4N Nm
 pr:∀f∈ps,Fn Np B f
 co:∀f∈cs,Fn Nc B f
 pos:0<Np*Nc*Nm*Ns^M
 sz:Np*Nc*Nm*Ns^M<2^3000
 b:2097152*B<=WB
def gI(ss:Ak)(v:Nat)(c:Af):Rat:=wq (ss.getD v []) c
def cS(ps:Al)(v:Nat):Rat:=rv (ps.getD v (0,1))
def wor(F W M:Nat)(ss:Ak)(mix ps cs:Al)(c:Af):Rat:=DC W F (gI ss) (Y29) (cS ps) (Y1N) (Y2H) c
def eV{α:Type}{l:Yo}{j:Nat}{a:α}(h:j<l.length):l.getD j a∈l:=by
 rw[bH,aD h];exact List.getElem_mem h
section
variable{F W M:Nat}{ss:Ak}{mix ps cs:Al}{Ns Nm Np Nc B:Nat}
def jE.qn(I:jE F W M ss mix ps cs Ns Nm Np Nc B){v:Nat}(hv:v<W){c:Af}(hc:Y38 M):Qn (Ns^M) 1 (gI ss v c):=LJ (I.sh _ (eV (by rw[I.sl];exact hv))).2 hc
def jE.due(I:jE F W M ss mix ps cs Ns Nm Np Nc B){v:Nat}(hv:v<W){c:Af}(hc:Y38 M):Qn (Np*Nc*Nm*Ns^M) B (cS ps v*gI ss v c):=by
 have h:=(I.pr _ (eV (a:=(0,1)) (by rw[I.pl];exact hv))).q.mul (I.qn hv hc);rw[Nat.mul_one]at h;exact h.dvd ⟨Nc*Nm,by ac_rfl⟩
def jE.met(I:jE F W M ss mix ps cs Ns Nm Np Nc B){v:Nat}(hv:v<W){c:Af}(hc:Y38 M):Qn (Nm*Ns^M) 1 (cS mix v*gI ss v c):=by
 have h:=(I.mx _ (eV (a:=(0,1)) (by rw[I.ml];exact hv))).q.mul (I.qn hv hc)
 rwa [Nat.mul_one]at h
def jE.paid(I:jE F W M ss mix ps cs Ns Nm Np Nc B){c:Af}(hc:Y1z):Qn (Np*Nc*Nm*Ns^M) (4*B) (cS cs c.sum*Y6q W (cS mix v*gI ss v c)):=by
 have h:=(I.co _ (eV (a:=(0,1)) (show c.sum<cs.length by rw[I.cl];exact hc))).q;have e:=Qn.sumR (n:=W) λv i=>I.met i (Nat.le_of_lt hc);have d:=h.mul e;have g:B*(W*1)<=4*B:=by
  have:=Nat.mul_le_mul_left B I.w4;rw[Nat.mul_one];exact Oo
 exact(d.le g).dvd ⟨Np,by ac_rfl⟩
def fA{c:Af}{j:Nat}(h:j<c.length):(bN c j).sum=c.sum+1:=by
 unfold bN;have a:c[j]?=some (c.getD j 0):=by rw[bH,aD h];rfl
 have:=DK c j (c.getD j 0+1) _ a;exact Oo
def jW(c:Af)(j:Nat):(bN c j).length=c.length:=by unfold bN;rw[List.length_set]
def jE.says(I:jE F W M ss mix ps cs Ns Nm Np Nc B){c:Af}(hc:Y38 M):∀x∈rQ W (λv=>cS ps v*gI ss v c),Qn (Np*Nc*Nm*Ns^M) (5*B) x:=by
 intro x d;obtain⟨w,h,rfl⟩:=vF.mp d;have e:=Qn.sumR (n:=W) λv g=>I.due g hc;have a:=e.sub (I.due h hc);refine a.le ?_;have:=bT B I.w4;exact Oo
theorem jE.worn(I:jE F W M ss mix ps cs Ns Nm Np Nc B):∀(n:Nat) (c:Af),Y2B->c.sum+n=M->Qn (Np*Nc*Nm*Ns^M) (8^(n+1)*B) (DC W F (gI ss) (Y29) (cS ps) (Y1N) n c)
 | 0,c,hl,hn=>Qn.min (λx hx=>(I.says Oo x hx).le Oo) (SL I.w1 _)
 | n+1,c,hl,hn=>by
  rw[wG];have hp:8^(n+1+1)=8*8^(n+1):=by rw[Nat.pow_succ];exact Oo
  have e:1<=8^(n+1):=Nat.one_le_pow _ _ Dd;have g:B<=8^(n+1)*B:=Nat.le_mul_of_pos_left _ e;have i:8^(n+1+1)*B=8*(8^(n+1)*B):=by rw[hp,Nat.mul_assoc]
  refine Qn.min (λx hx=>?_) (by simp);rcases bY.mp hx with hx | hx
  ·exact(I.says Oo x hx).le Oo
  ·rw[aU.mp hx];have d:=I.paid (c:=c) Oo;have a:=Qn.sumR (n:=F) λj h=>I.worn n (bN c j) (by rw[jW];exact hl) (by rw[fA Oo];exact Oo);refine(d.add a).le ?_;have l:F*(8^(n+1)*B)<=4*(8^(n+1)*B):=bT _ I.f4;exact Oo
end
def rise(F M:Nat):Ab:=(List.range (M+1)).flatMap (cta F)
theorem sW:∀{F m:Nat}{c:Af},1<=F->Y2B->c.sum=m->c∈Y2N m
 | 0,m,c,h,_,_=>Oo
 | 1,m,c,_,hl,hs=>by
  obtain⟨x,rfl⟩:∃x,c=[x]:=by
   match c,hl with
   | [x],_=>exact⟨x,rfl⟩
  have:x=m:=by simpa using hs
  subst this;simp[cta]
 | F+2,m,c,_,hl,hs=>by
  cases c with
  | nil=>simp at hl
  | cons x c =>
   rw[List.sum_cons]at hs;unfold cta;refine List.mem_flatMap.mpr ⟨x,cB.mpr Oo,aQ.mpr ⟨c,sW Oo (by simpa using hl) Oo,rfl⟩⟩
def eZ{F M:Nat}{c:Af}(hF:1<=F):Y5H c↔Y2B/\Y38 M:=by
 unfold rise;rw[List.mem_flatMap];constructor
 ·rintro⟨m,d,g⟩;have:=cB.mp d;obtain⟨a,e⟩:=iZ g;exact Y1j a
 ·rintro⟨a,e⟩;exact⟨c.sum,cB.mpr Oo,sW hF a rfl⟩
theorem xH(F:Nat):∀M:Nat,(rise F M).Pairwise λa b=>a.sum<=b.sum
 | 0=>by
  unfold rise;rw[List.range_succ,List.range_zero,List.nil_append,List.flatMap_singleton];refine List.pairwise_iff_forall_sublist.mpr λ{a b} h=>?_;have ha:a∈cta F 0:=h.subset (by simp);have:=(iZ ha).2;exact Oo
 | M+1=>by
  have g:=xH F M;unfold rise at *;rw[List.range_succ,List.flatMap_append,List.flatMap_singleton];refine List.pairwise_append.mpr ⟨g,?_,λa ha b c=>?_⟩
  ·refine List.pairwise_iff_forall_sublist.mpr λ{a b} h=>?_;have ha:a∈cta F (M+1):=h.subset (by simp);have c:b∈cta F (M+1):=h.subset (by simp);have i:=(iZ ha).2;have e:=(iZ c).2;exact Oo
  ·obtain⟨m,d,ha⟩:=List.mem_flatMap.mp ha;have:=cB.mp d;have i:=(iZ ha).2;have e:=(iZ c).2;exact Oo
def xI{F M k:Nat}{c d:Af}(h:(Yy)[k]?=Y09)(hd:Y5H d)(hs:c.sum < d.sum):d∈(rise F M).drop (k+1):=by
 obtain⟨i,j⟩:=jA.mp hd;have m:k<i:=by
  refine bU λq=>?_;have p:=(aO.mp h);have g:=(aO.mp j);obtain⟨r,l⟩:=p;obtain⟨n,a⟩:=g;rcases Nat.lt_or_eq_of_le (Nat.le_of_not_lt q)with e | e
  ·have:=(List.pairwise_iff_getElem.mp (xH F M)) i k n r e;rw[l,a]at this;exact Oo
  ·subst e;rw[l]at a;subst a;exact Oo
 refine jA.mpr (Y0b (i-(k+1)));rw[List.getElem?_drop,show k+1+(i-(k+1))=i by exact Oo];exact j
end Mf
namespace Mf
theorem xE(d:Y0s)(s:Nat):∀W:Nat,rP (((List.range W).filter λi=>i != s).map d)=Y3h (if i=s then 0 else d i)
 | 0=>rfl
 | W+1=>by
  rw[List.range_succ,List.filter_append,bG,sC,xE d s W,dU];by_cases e:W=s
  ·subst e;rw[if_pos rfl,show List.filter (λi=>i != W) [W]=[]by simp]
   rfl
  ·rw[if_neg e,show List.filter (λi=>i != s) [W]=[W]by simp[e]];rw[bJ,List.map_nil,kX,uO];grind
def RX(d:Y0s){s W:Nat}(h:s<W):rP (((List.range W).filter λi=>i != s).map d)=dD W d-d s:=by rw[xE,uN d h]
theorem vS:∀F:Nat,1<=F->Y2N 0=[Yx]
 | 1,_=>rfl
 | F+2,_=>by
  unfold cta;rw[List.range_succ,List.range_zero,List.nil_append,List.flatMap_singleton,Nat.sub_zero,vS (F+1) Oo]
  rfl
def OU(F M:Nat):Y2W (M+1)=Yy++Y2N (M+1):=by
 unfold rise;rw[List.range_succ,List.flatMap_append,List.flatMap_singleton]
def OT(F:Nat):Y2W 0=Y2N 0:=by
 unfold rise;rw[List.range_succ,List.range_zero,List.nil_append,List.flatMap_singleton]
def vT{F m:Nat}(hF:1<=F){d:Af}:d∈Y2N (m+1) ↔ ∃c∈cta F m,∃j,j<F/\d=bN c j:=by
 constructor
 ·intro h;obtain⟨g,p⟩:=iZ h;obtain⟨j,a,A⟩:∃j,j<d.length/\0<Y6Q j:=by
   refine bU λq=>?_;have z:d=Ydh d.length:=by
    refine List.eq_replicate_iff.mpr (Y1b (λx s=>?_));obtain⟨j,a⟩:=jA.mp s;have u:=(aO.mp a).1;have:Y6Q j=x:=by rw[bH,a];rfl
    refine bU λw=>q ⟨j,u,Oo⟩
   have:d.sum=0:=by rw[z];simp
   exact Oo
  have n:d[j]?=some (Y6Q j):=by rw[bH,aD a];rfl
  have y:=DK d j (Y6Q j-1) _ n;refine⟨d.set j (Y6Q j-1),sW hF (by rw[List.length_set];exact g) Oo,j,Oo,?_⟩;unfold bN;rw[bH (l:=d.set j _),List.getElem?_set_self a,List.set_set];show d=d.set j (Y6Q j-1+1);rw[show d.getD j 0-1+1=d.getD j 0 by exact Oo];refine(List.ext_getElem? λi=>?_);rw[List.getElem?_set];by_cases e:j=i
  ·subst e;rw[Y12,if_pos a];exact n
  ·rw[Y6a]
 ·rintro⟨c,r,j,a,rfl⟩;obtain⟨g,p⟩:=iZ r;exact sW hF (by rw[jW];exact g) (by rw[fA Oo];exact Oo)
def oY:∀F,F<=4->∀M,M<=5->(Yy).Nodup:=Kk
def QM(f:Fr):Prop:=Y01/\0<=f.1/\f.1<=999/\f.2<=999
def dens(l:Al):Nat:=l.foldr (λf n=>f.2.natAbs*n) 1
theorem AR:∀{l:Al},(∀f∈l,QM f)->0<dens l
 | [],_=>Nat.one_pos
 | f::l,h=>kR (by have:=(h f (aV ..)).1.pos;exact Oo) (AR λg hg=>h g (aZ _ hg))
theorem NJ:∀{l:Al},(∀f∈l,QM f)->dens l<=999^l.length
 | [],_=>aL _
 | f::l,h=>by
  have h1:=NJ λg e=>h g (aZ f e);obtain⟨a,b,c,d⟩:=h f (aV ..);have:=a.pos;rw[cE,Nat.pow_succ,Nat.mul_comm];exact Nat.mul_le_mul (show f.2.natAbs<=999 by exact Oo) h1
theorem HJ:∀{l:Al}{f:Fr},f∈l->f.2.natAbs ∣ dens l
 | g::l,f,h=>by
  rcases bD.mp h with rfl | h
  ·exact Nat.dvd_mul_right _ _
  ·exact Nat.dvd_trans (HJ h) (Nat.dvd_mul_left _ _)
def QM.fn{f:Fr}(h:QM f):Fn f.2.natAbs 999 f:=by
 obtain⟨a,b,c,d⟩:=h;have p:=a.pos;have:=Fn.of (n:=f.1) (d:=f.2) (B:=999) p (by
  have:1<=f.2.natAbs:=Oo;have:=Nat.mul_le_mul_left 999 this;exact Oo)
 rwa [MR a]at this
def NK{l:Al}(h:∀f∈l,QM f):∀f∈l,Fn (dens l) 999 f:=λf a=>(h f a).fn.dvd (HJ a)
def HI{l:Al}(h:∀f∈l,QM f)(hl:l.length<=5):Y9C (dens l):=by
 have c:=NJ h;have a:999^l.length<=999^5:=Y5k hl;exact Oo
end Mf
namespace Mf
abbrev dE:=List Nat × Al
def s0(e:dE):Rat:=cS e.2 0
def sK(F:Nat)(c d:Af):Rat:=Y4h F (if Y0q c=d then 1 else 0)
def bQ(F:Nat)(es:Ys):Y0S:=es.foldl (λg e=>λd=>g d+g e.1*Yj*sK F e.1 d) (λd=>if d=Yx then 1 else 0)
def pS(F:Nat)(d:Af):Y0G [] d=if d=Yx then 1 else 0:=rfl
def jV(F:Nat)(l:Ys)(e:dE)(d:Af):Y0G (l++[e]) d=Y1g d+Y1g e.1*Yj*sK F e.1 d:=by unfold bQ;rw[List.foldl_append];rfl
def fE{α:Type}(l:Yo)(f:Y4Y):Rat:=rP (l.map f)
def iD{α:Type}(f:Y4Y):fE [] f=0:=rfl
def eK{α:Type}(a:α)(l:Yo)(f:Y4Y):fE (a::l) f=f a+fE l f:=rfl
def FZ{α:Type}(a b:Yo)(f:Y4Y):fE (a++b) f=fE a f+fE b f:=by unfold fE;rw[bG,sC]
def wI{α:Type}(l:Yo)(a:α)(f:Y4Y):fE (l++[a]) f=fE l f+f a:=by rw[FZ,eK,iD];grind
def jR{α:Type}{l:Yo}{f g:Y4Y}(h:∀a∈l,f a=g a):fE l f=fE l g:=by unfold fE;rw[fD h]
def GA{α:Type}(l:Yo)(f g:Y4Y):fE l (λa=>f a+g a)=fE l f+fE l g:=by
 induction l with
 | nil=>rw[iD,iD,iD];grind
 | cons a l ih=>rw[eK,eK,eK,ih];grind
def FY{α:Type}(l:Yo)(x:Rat)(f:Y4Y):fE l (λa=>x*f a)=x*fE l f:=by
 induction l with
 | nil=>rw[iD,iD];grind
 | cons a l ih=>rw[eK,eK,ih];grind
def BP{α:Type}(l:Yo):fE l (YaB)=0:=by
 induction l with
 | nil=>rfl
 | cons a l ih=>rw[eK,ih];grind
def OO{α:Type}{l:Yo}{f g:Y4Y}(h:∀a∈l,f a<=g a):fE l f<=fE l g:=by
 induction l with
 | nil=>exact Rat.le_refl
 | cons a l ih =>
  have e:=h a (aV ..);have d:=ih λx c=>h x (aZ _ c);rw[eK,eK];grind
def xY{α:Type}{l:Yo}{f:Y4Y}(h:∀a∈l,0<=f a):0<=fE l f:=by
 have:=OO (l:=l) (f:=YaB) (g:=f) h
 rwa [BP]at this
def BQ{α:Type}(l:Yo)(n:Nat)(f:α->Y0s):fE l (λa=>dD n (f a))=Y7v n (fE l λa=>f a i):=by
 induction l with
 | nil=>show 0=dD n (YaB);rw[kJ]
 | cons a l ih =>
  rw[eK,ih,<-RW];exact dF λi _=>rfl
def wJ{es:Ys}(nd:(es.map (·.1)).Nodup){b:Af}(hb:Y7P b (·.1))(Φ:Y0S):fE es (λx=>(if b=x.1 then 1 else 0)*Φ x.1)=Φ b:=by
 induction es with
 | nil=>cases hb
 | cons a es ih =>
  rw[bJ,List.nodup_cons]at nd;rw[eK];by_cases e:b=a.1
  ·rw[Yao,e,jR (g:=YaB) λx c=>?_,BP]
   ·grind
   ·rw[Y7I (nd.1 (by rw[q];exact Y3q x c))];grind
  ·rw[Y6a,ih nd.2 (by rw[bJ]at hb;exact(bD.mp hb).resolve_left e)];grind
structure FC(F:Nat)(es:Ys):Prop where
 root:∃e r,es=e::r/\e.1=Yx
 len:∀e∈es,e.1.length=F
 nd:(es.map (·.1)).Nodup
 srt:es.Pairwise λa b=>a.1.sum<=b.1.sum
 fwd:∀e∈es,Y2D->∀f,f<F->Y7P (Y0q e.1) (·.1)
 bwd:∀d∈es.map (·.1),d≠List.replicate F 0->∃e∈es,s0 e≠0/\∃f,f<F/\bN e.1 f=d
 nn:∀e∈es,0<=Yj
section
variable{F:Nat}{es:Ys}
def HA{c d:Af}(hc:Y2B)(h:d.sum≠c.sum+1):sK F c d=0:=by
 unfold sK;rw[Y7C 0 (λf a=>Y7I (h ?_)),kJ];rw[<-q,fA Oo]
theorem FC.at(R:FC F es){i:Nat}{e:dE}(h:es[i]?=Y8f):Y5f i e.1=Y00 e.1:=by
 have c:∀k,i+k<=es.length->Y5f (i+k) e.1=Y5f i e.1:=by
  intro k
  induction k with
  | zero=>intro _;rfl
  | succ k ih =>
   intro p;obtain⟨x,a⟩:∃x,es[i+k]?=Y8:=Y5C;have l:es.take (i+k+1)=es.take (i+k)++[x]:=by rw[jM,a];rfl
   rw[<-Nat.add_assoc,l,jV,ih Oo,HA (R.len x (aF a)) ?_]
   ·grind
   ·obtain⟨j,d⟩:=aO.mp h;obtain⟨m,g⟩:=aO.mp a;have:e.1.sum<=x.1.sum:=by
     by_cases q:k=0
     ·subst q;have:e=x:=by rw[<-d,<-g];rfl
      rw[this];exact Yn
     ·have:=(List.pairwise_iff_getElem.mp R.srt) i (i+k) j m Oo
      rwa [d,g]at this
    exact Oo
 have n:=(aO.mp h).1;have:=c (es.length-i) Oo;rw[show i+(es.length-i)=es.length by exact Oo,cM]at this;exact this.symm
def FC.cons(R:FC F es)(Φ:Y0S):∀n,n<=es.length->fE es (λx=>Y5f n x.1*Φ x.1)=Φ (Yx)+Y9V (es.take n) (Y00 e.1*Yj*Y4h F (Φ (Y0q e.1))):=by
 intro n
 induction n with
 | zero =>
  intro _;rw[List.take_zero,iD];obtain⟨e,r,a,h⟩:=R.root;have:=wJ R.nd (b:=Yx) (by rw[a,<-h];exact aV ..) Φ;rw[jR (g:=λx=>(if Yx=x.1 then 1 else 0)*Φ x.1) λx _=>?_,this]
  ·grind
  ·rw[pS];by_cases q:x.1=Yx
   ·rw[Y43,if_pos q.symm]
   ·rw[Y1u,if_neg (Y87 z.symm)]
 | succ n ih =>
  intro l;obtain⟨e,a⟩:∃x,es[n]?=Y8:=Y5C;have j:es.take (n+1)=es.take n++[e]:=by rw[jM,a];rfl
  have c:=aF a;rw[j,wI,<-Rat.add_assoc,<-ih Oo];rw[jR (g:=λx=>Y5f n x.1*Φ x.1+Y00 e.1*Yj*(sK F e.1 x.1*Φ x.1)) λx _=>by rw[jV,R.at a];grind];rw[GA,FY];by_cases z:Yj=0
  ·rw[z];grind
  ·congr 2;have:(λx:dE=>sK F e.1 x.1*Φ x.1)=λx=>Y4h F ((if Y0q e.1=x.1 then 1 else 0)*Φ x.1):=by
    funext x
    unfold sK;rw[Rat.mul_comm,<-zN];exact dF λi _=>Rat.mul_comm _ _
   rw[this,BQ];exact dF λf d=>wJ R.nd (R.fwd e c z f d) Φ
def FC.all(R:FC F es)(Φ:Y0S):fE es (λx=>Y00 x.1*Φ x.1)=Φ (Yx)+Y7h (Y00 e.1*Yj*Y4h F (Φ (Y0q e.1))):=by
 have:=R.cons Φ es.length (Yn)
 rwa [cM]at this
def UB(F:Nat)(c d:Af):0<=sK F c d:=DL λf _=>by split <;> grind
def FC.fnn(R:FC F es):∀n,n<=es.length->∀d,0<=Y5f n d:=by
 intro n
 induction n with
 | zero=>intro _ d;rw[List.take_zero,pS];split <;> grind
 | succ n ih =>
  intro j d;obtain⟨e,a⟩:∃x,es[n]?=Y8:=Y5C;have g:es.take (n+1)=es.take n++[e]:=by rw[jM,a];rfl
  rw[g,jV];have i:=ih Oo d;have c:=ih Oo e.1;have h:=fU (fU c (R.nn e (aF a))) (UB F e.1 d);grind
def FC.nnf(R:FC F es)(d:Af):0<=Y00 d:=by
 have:=R.fnn es.length (Yn) d
 rwa [cM]at this
def FC.pos(R:FC F es):∀(k:Nat) (d:Af),Y7P d (·.1)->d.sum<=k->0<Y00 d:=by
 have m:∀d∈es.map (·.1),Y00 d=(if d=Yx then 1 else 0)+Y7h (Y00 e.1*Yj*sK F e.1 d):=λd hd=>by
  have h:=R.all λx=>if d=x then 1 else 0
  have A:=wJ R.nd hd (bQ F es);have G:fE es (λx=>Y00 x.1*(if d=x.1 then 1 else 0))=Y00 d:=by rw[<-A];exact jR λx _=>Rat.mul_comm _ _
  rw[<-G,h];congr 1;exact jR λe _=>by
   congr 1;unfold sK;exact dF λf _=>by
    by_cases q:d=Y0q e.1
    ·rw[Y43,if_pos q.symm]
    ·rw[Y1u,if_neg (Y87 z.symm)]
 have r:∀d,∀e∈es,0<=Y00 e.1*Yj*sK F e.1 d:=λd e a=>fU (fU (R.nnf _) (R.nn e a)) (UB F e.1 d);intro k
 induction k with
 | zero =>
  intro d hd B;have p:d=Yx:=by
   refine bU λq=>?_;obtain⟨e,a,_,f,s,rfl⟩:=R.bwd d hd q;rw[fA (by rw[R.len e a];exact s)]at B;exact Oo
  rw[m d hd,if_pos p];have:=xY (r d);grind
 | succ k ih =>
  intro d hd B;by_cases p:d=Yx
  ·rw[m d hd,if_pos p];have:=xY (r d);grind
  ·obtain⟨e,a,O,f,s,rfl⟩:=R.bwd d hd p;have bs:=fA (c:=e.1) (j:=f) (by rw[R.len e a];exact s);have L:=ih e.1 (Y3q e a) Oo;have y:0<Yj:=by have:=R.nn e a;grind
   have P:1<=sK F e.1 (Y0q e.1):=by
    unfold sK;have A:=pN (n:=F) (f:=λi=>if i=f then 1 else 0) (g:=λi=>if bN e.1 i=Y0q e.1 then 1 else 0) λi _=>by
     by_cases q:i=f
     ·subst q;rw[Y12,Y12];exact Rat.le_refl
     ·rw[Y1u];split <;> grind
    have I:=uN (n:=F) (λi=>if i=f then(1:Rat) else 0) s;have J:Y7v F (if i=f then 0 else if i=f then(1:Rat) else 0)=0:=by
     rw[Y7C 0 (λi _=>?_),kJ];by_cases q:i=f
     ·rw[Y43]
     ·rw[Y1u,Y1u]
    rw[Y12,J]at I;grind
   have one:0<Y00 e.1*Yj*sK F e.1 (Y0q e.1):=Rat.mul_pos (Rat.mul_pos L y) (by grind);rw[m _ hd,if_neg p];have:Y00 e.1*Yj*sK F e.1 (Y0q e.1)<=fE es λw=>Y00 w.1*s0 w * sK F w.1 (Y0q e.1):=by
    obtain⟨C,D,rfl⟩:=List.append_of_mem a;rw[FZ,eK];have M:=xY (l:=C) λx u=>r (Y0q e.1) x (cD _ u);have N:=xY (l:=D) λx u=>r (Y0q e.1) x (bZ _ (aZ _ u));grind
   grind
def FC.posf(R:FC F es){e:dE}(h:Y5b):0<Y00 e.1:=R.pos _ e.1 (Y3q e h) (Yn)
def Qn.one'(N:Nat):Qn N 1 1:=⟨N,by rw[tZ];grind,by simp⟩
def FC.qn(R:FC F es){N:Nat}(hN:∀e∈es,Qn N 1 (Yj))(f4:F<=4):∀n,n<=es.length->∀d,Qn (N^d.sum) (5^n) (Y5f n d):=by
 intro n
 induction n with
 | zero =>
  intro _ d;rw[List.take_zero,pS];split
  ·exact Qn.one' _
  ·exact Yah _
 | succ n ih =>
  intro r d;obtain⟨e,g⟩:∃x,es[n]?=Y8:=Y5C;have m:es.take (n+1)=es.take n++[e]:=by rw[jM,g];rfl
  rw[m,jV];have c:=ih Oo d;have a:=aF g;have p:5^(n+1)=5*5^n:=by rw[Nat.pow_succ];exact Oo
  by_cases hs:d.sum=e.1.sum+1
  ·have j:=(ih Oo e.1).mul (hN e a);have i:Qn 1 4 (sK F e.1 d):=by
    have:=Qn.sumR (N:=1) (B:=1) (n:=F) (f:=λf=>if Y0q e.1=d then 1 else 0) λf _=>by
     split
     ·exact Qn.one' _
     ·exact Yah _
    exact this.le Oo
   have h:=j.mul i;have l:N^e.1.sum*N=N^d.sum:=by rw[hs,Nat.pow_succ]
   rw[Nat.mul_one,l]at h;exact(c.add h).le Oo
  ·rw[HA (R.len e a) hs];have:Y5f n d+Y5f n e.1*Yj*0=Y5f n d:=by grind
   rw[this];exact c.le Oo
end
def rN(zs:Y4f):Rat:=zs.foldr (λz p=>rv z.1^z.2*p) 1
theorem MA:∀(zs:Y4f) (p:Fr),cT p->(∀z∈zs,cT z.1)->rv (zs.foldl (λp q=>jH p (xS q.1 q.2)) p)=rv p*rN zs
 | [],p,_,_=>by show rv p=rv p*1;grind
 | z::zs,p,hp,h=>by
  have hz:=h z (aV ..);have a:=mV hz z.2;rw[List.foldl_cons,MA zs _ (fR hp a) λy c=>h y (aZ _ c),hJ hp.pos a.pos,JI hz];show _=rv p*(rv z.1^z.2*rN zs);grind
def DB{fs:Al}(h:∀f∈fs,Y01)(c:Af):wq fs c=YcP c:=by
 unfold wq lP;rw[MA _ _ JY λz d=>h z.1 (Yf3 z.1 z.2).1];show rv (1,1)*_=_;rw[pG];grind
theorem BV:∀(fs:Al) (c:Af) (j:Nat),j<fs.length->Y5q c.length->YcP (bN c j)=YcP c*cS fs j
 | [],c,j,h,_=>by simp at h
 | f::fs,[],j,_,h=>by simp at h
 | f::fs,n::c,0,_,_=>by
  show rv f^(n+1)*rN (fs.zip c)=(rv f^n*rN (fs.zip c))*rv f;rw[Rat.pow_succ];grind
 | f::fs,n::c,j+1,hj,hl=>by
  have ih:=BV fs c j (by simpa using hj) (by simpa using hl);have e:bN (n::c) (j+1)=n::bN c j:=by unfold bN;rw[List.set_cons_succ];rfl
  have a:cS (f::fs) (j+1)=cS fs j:=rfl;rw[e,a,List.zip_cons_cons,List.zip_cons_cons];show rv f^n*rN (fs.zip (bN c j))=(rv f^n*rN (fs.zip c))*cS fs j;rw[ih];grind
theorem BU:∀(fs:Al) (n:Nat),YcP (Ydh n)=1
 | [],n=>by rfl
 | f::fs,0=>by rfl
 | f::fs,n+1=>by
  rw[List.replicate_succ,List.zip_cons_cons];show rv f^0*rN (fs.zip (List.replicate n 0))=1;rw[BU fs n,Rat.pow_zero];grind
def xX(fs:Al):rP (fs.map rv)=dD fs.length (cS fs):=by
 unfold dD;congr 1;refine List.ext_getElem? λi=>?_;rw[aR,aR];by_cases hi:i<fs.length
 ·rw[cX hi,aD hi];show some _=some (Y1O fs);unfold cS;rw[bH,aD hi];rfl
 ·rw[fF Oo,fF (by rw[bC];exact Oo)];rfl
def QW{fs:Al}(h:∀f∈fs,Y01)(h1:rP (fs.map rv)=1){c:Af}(hc:c.length=fs.length):wq fs c=Y4h fs.length (wq fs (Y0q c)):=by
 rw[DB h];rw[dF (g:=λf=>YcP c*cS fs f) λf a=>by rw[DB h,BV fs c f a hc.symm]];rw[zN,<-xX,h1];grind
def LH{fs:Al}(h:∀f∈fs,Y01)(n:Nat):wq fs (Ydh n)=1:=by rw[DB h,BU]
section
variable{F W M:Nat}{es:Ys}{q:Nat->Y0S}{mix ps cs:Y0s}
def kK(F:Nat)(es:Ys)(q:Y0S)(w:Nat):Rat:=Y7h (Y00 e.1*q e.1*cS e.2 (1+w))
def kS(F:Nat)(es:Ys)(q:Y0S)(cs:Y0s):Rat:=Y7h (cs e.1.sum*(Y00 e.1*q e.1*Yj))
def rO(F W:Nat)(es:Ys)(q:Nat->Y0S)(mix cs:Y0s):Rat:=dD W λw=>mix w*kS F es (q w) cs
def FC.stops(R:FC F es){q:Y0S}(h0:q (Yx)=1)(h1:∀c,Y2B->q c=Y4h F (q (Y0q c))):Y7h (Y00 e.1*q e.1*(1-Yj))=1:=by
 have h:=R.all q;rw[h0]at h;have e:Y7h (Y00 e.1*Yj*Y4h F (q (Y0q e.1)))=Y7h (Y00 e.1*q e.1*Yj):=jR λe a=>by rw[<-h1 e.1 (R.len e a)];grind
 rw[e]at h;have d:Y7h (Y00 e.1*q e.1*(1-Yj))+Y7h (Y00 e.1*q e.1*Yj)=fE es (λx=>Y00 x.1*q x.1):=by
  rw[<-GA];exact jR λe _=>by grind
 grind
end
end Mf
namespace Mf
end Mf
namespace L2
def aFU:Nat:=82
end L2
namespace L2
open PySem
def ZV(cls:Value)(vs:Aj):Prop:=5<vs.size/\(vs[2]?=some .none\/cls=.ref aFU)
def ZV.sz{cls:Value}{vs:Aj}(h:ZV cls vs):1<vs.size:=bS Dd h.1
def ZV.set{cls:Value}{vs:Aj}{i:Nat}{v:Value}(h:ZV cls vs)(hi:i≠2):ZV cls (vs.setIfInBounds i v):=⟨by simpa using h.1,h.2.imp (λe=>by rw[Array.getElem?_setIfInBounds_ne hi];exact e) id⟩
def lC(h:Heap)(a:Addr)(cls:Value)(od:Y11)(st:Y9I):Prop :=
 ∃oe vs,Y7U=some oe/\oe.cls=cls/\oe.dict=od/\oe.data=Y8R/\ZV cls vs /\
  match st with
  | none=>vs[1]?=some .none
  | some (T,fl)=>vs[1]?=some (.ref T)/\T≠a/\∃oT ts,h.get? T=some oT/\oT.data=.fields ts/\3<ts.size/\ts[3]?=some fl
structure Kp(fs ex:Y0t)(h h':Heap):Prop where
 keep:Y0I (Y0M=Y7) (b ∉ fs->b ∉ ex->Y0n=Y7)
 slot:Y0I (Y0M=Y7) (b∈fs->b ∉ ex->∃sl,Y0n=some { o with slots:=sl })
def Kp.any{fs ex:Y0t}{h h':Heap}(k:Kp fs ex h h'){b:Addr}{o:Obj}(e:Y0M=Y7)(n:b ∉ ex):∃sl,Y0n=some { o with slots:=sl }:=by
 by_cases m:b∈fs
 ·exact k.slot b o e m n
 ·exact⟨o.slots,k.keep b o e m n⟩
def stT:Y9I->Y0t
 | none=>[]
 | some (T,_)=>[T]
section
variable{M:Model}{A:Around}{E:Y5}{s:Shared}{env:Env}{outer:Y1G}{base:Heap}{L a:Addr}{cls:Value}{od:Y11}
def HD{oe:Obj}{vs:Aj}{head:Value}{had:Bool}{Q:Y46}(hfr:A.frames=some (env::outer))(hl:Ydz (env::outer))(hf:env.frame=some L)
  (he:Y1W a oe) (hc:oe.cls=cls) (ho:oe.dict=od) (hd:oe.data=Y8R) (hz:ZV cls vs)
  (k:∀h' T',lC h' a cls od (some (T',rawInt L))->Y6e T'->Kp ((env::outer).filterMap (·.frame)) [a] s.heap h'->Q () { s with heap:=h' }) :
  wpAny M A (do
   let fo <-frameOf env
   let pl <-entryPlaceOf L had
   let en <-EntryCells.newEntry head fo .none (rawInt L) .none pl
   setField (.ref a) 1 en) Q E s:=by
 have y:a ∉ (env::outer).filterMap (·.frame):=λm=>by
  obtain⟨_,o,e,u⟩:=hl.mem m;rw[he]at e;cases e;exact u vs hd
 refine wpAny_bind (wpAny_frameOf_fun hfr hl hf λc d=>?_);refine wpAny_bind (wpAny_entryPlaceOf λpl w=>?_);unfold EntryCells.newEntry newFields;refine wpAny_bind (YdI (w.sizeOk5 ..));have p:c.get? a=some oe:=(d.2.1 a y).trans he;generalize hT:({ cls:=.type "traceback",dict:=none,data:=.fields ([head,Value.ref L,Value.none,rawInt L,Value.none]++(if pl.isEmpty then List.replicate 6 Value.none else pl)).toArray }:Obj)=oT;have l:(c.push oT).get? a=some oe:=Y0h p;refine wpAny_setField l hd hz.sz (k _ c.objs.size ?_ ?_ ?_)
 ·have ne:c.objs.size≠a:=YfB p;have n:=Yfp (·.setIfInBounds 1 (Value.ref c.objs.size));refine⟨_,_,YaH _ l n,?_,?_,n,hz.set Dd,by simp[hz.sz],ne,oT,_,?_,by rw[<-hT],?_,?_⟩
  ·rw[Obj.cls_mapFields];exact hc
  ·rw[<-ho];obtain⟨_,_,x,_⟩:=oe;cases x <;> rfl
  ·rw[YeK _ ne];exact bA c (by rw[<-hT];rfl)
  ·simp only[bE,bF,cE,List.length_nil] <;> exact Oo
  ·simp
 ·cases q:s.heap.get? c.objs.size with
  | none=>rfl
  | some o=>exact absurd (aY q) (by rw[d.1];exact cY _)
 ·refine⟨λb o e j h=>?_,λb o e j h=>?_⟩
  ·have g:c.get? b=Y7:=(d.2.1 b j).trans e;have i:a≠b:=λz=>h (by rw[z];exact aV);rw[Ydi _ i];exact Y0h g
  ·obtain⟨r,g⟩:=d.2.2 b o e;have i:a≠b:=λz=>h (by rw[z];exact aV);refine Y0b r;rw[Ydi _ i];exact Y0h g
def MP{st:Y9I}{Q:Y46}(hfr:A.frames=some (env::outer))(hl:Ydz (env::outer))(hf:env.frame=some L)
  (x:lC s.heap a cls od st) (hst:st=none\/∃T,st=some (T,.none))
  (k:∀h' T',lC h' a cls od (some (T',rawInt L))->Y6e T'->Kp ((env::outer).filterMap (·.frame)) (a::stT st) s.heap h'->Q () { s with heap:=h' }) :
  Y5I A (noteFrame (Y3) env) Q E s:=by
 obtain⟨P,O,h,u,r,hd,w,x⟩:=x;unfold noteFrame;simp only[hf];rcases hst with rfl | ⟨T,rfl⟩
 ·refine Ydx h hd x ?_;rw[Y7M];exact HD hfr hl hf h u r hd w k
 ·obtain⟨B,I,N,G,j,i,y,C⟩:=x;refine Ydx h hd B ?_;rw[if_pos (by simp)];refine Ydx j i C ?_;rw[if_neg (by simp[rawInt])];refine Ydo j i y ?_;have c:∀b,b≠T->(s.heap.update T (Obj.mapFields (·.setIfInBounds 3 Value.none))).get? b=s.heap.get? b:=λb D=>YeK _ D;have d:Y6u ((∀ws,o.data ≠ .fields ws)->b≠T):=λb o e n z=>by
   subst z;rw[j]at e;cases e;exact n G i
  refine HD (hfr:=hfr) (hl:=hl.of_keeps λb o e n=>Y5P o ((c b (d b o e n)).trans e)) hf ((c a (Ne.symm I)).trans h) u r hd w λh' T' J m p=>k h' T' J ?_ ?_
  ·by_cases z:T'=T
   ·subst z;have:=YaH (Obj.mapFields (·.setIfInBounds 3 Value.none)) j (Obj.data_mapFields i _);rw[this]at m;cases m
   ·rw[<-c T' z];exact m
  ·refine⟨λb o e l g=>p.keep b o ((c b λz=>g (by rw[z];simp[stT])).trans e) l λz=>g (bD.mpr (.inl (aU.mp z))),λb o e l g=>p.slot b o ((c b λz=>g (by rw[z];simp[stT])).trans e) l λz=>g (bD.mpr (.inl (aU.mp z)))⟩
def EJ{T:Addr}{fl:Value}{Q:Y46}(x:lC s.heap a cls od (some (T,fl)))
  (k:∀h',lC h' a cls od (some (T,.none))->(Y0I (b≠T) (Y32->Y0n=Y7))->Q () { s with heap:=h' }):Y5I A (setFlight (Y3) none) Q E s:=by
 obtain⟨u,p,h,r,n,hd,w,d,l,z,B,j,i,c,y⟩:=x;unfold setFlight;refine Ydx h hd d ?_;rw[if_pos (by simp)];refine wpAny_setField j i c (k _ ?_ λb o m e=>?_)
 ·have g:=Obj.data_mapFields i (·.setIfInBounds 3 Value.none);exact⟨u,p,by rw[Ydi _ l];exact h,r,n,hd,w,d,l,_,_,YaH _ j g,g,by simpa using c,by simp[c]⟩
 ·rw[YeK _ m];exact e
def TX{st:Y9I}{Q:Y46}(hfr:A.frames=some (env::outer))(hl:Ydz (env::outer))(hf:env.frame=some L)
  (x:lC s.heap a cls od st) (hst:st=none\/∃T,st=some (T,.none))
  (k:∀h' T',lC h' a cls od (some (T',.none))->Y6e T'->Kp ((env::outer).filterMap (·.frame)) (a::stT st) s.heap h'->Q () { s with heap:=h' }) :
  Y5I A (leaving env (Y3)) Q E s:=by
 unfold leaving;refine wpAny_bind (MP hfr hl hf x hst λr T1 p d h=>?_);refine EJ p λj n i=>k j T1 n d ⟨λb o e c g=>i b o (λq=>?_) (h.keep b o e c g),λb o e c g=>?_⟩
 ·subst q;rw[d]at e;cases e
 ·obtain⟨l,m⟩:=h.slot b o e c g;exact⟨l,i b _ (λq=>by subst q;rw[d]at e;cases e) m⟩
end
end L2
namespace L2
open PySem PySem.Spec PyProof.Rows
section
variable{P:Program}{w:World}{H H1 H2:Hp}{h h1 h2 base:Heap}{fs fs2 ex:Y0t}{a:Addr}{o:HO}
theorem eU.get(x:eU P w H h a o):∃ob,Y7U=some ob:=by
 cases o with
 | lst xs=>obtain⟨_,_,_,_,e⟩:=x;exact Y0C e
 | tup xs=>obtain⟨_,_,_,o,e,_⟩:=x;exact Y0C e
 | dK kvs=>obtain⟨_,_,_,_,o,_,_,e,_⟩:=x;exact Y0C e
 | dT kvs=>obtain⟨_,_,_,_,o,_,_,e,_⟩:=x;exact Y0C e
 | set S n=>obtain⟨o,_,_,_,e,_⟩:=x;exact Y0C e
 | ins C dx fs=>obtain⟨_,_,_,e,_⟩:=x;exact Y0C e
 | own y=>obtain⟨_,e⟩:=x;exact Y0C e
 | xd fs=>obtain⟨_,⟨_,_,_,e,_⟩,_⟩:=x;exact Y0C e
 | rng lo hi=>obtain⟨_,_,_,e⟩:=x;exact Y0C e
 | frz ob u=>obtain⟨e,_⟩:=x;exact Y0C e
 | tbl ps=>exact Y0C (show h.get? a=some _ from x)
 | met f y=>exact Y0C (show h.get? a=some _ from x)
 | ext φ=>obtain⟨_,e,_⟩:=x;exact e
def nC.kp(x:Y2q)(k:Kp fs ex h h1)(hf:∀b∈fs,H b=none)(he:∀b∈ex,H b=none):nC P w H h1:=λa o e =>
 (x a o e).stay (λb u c q=>by
  have d:H b≠none:=by
   rcases c with rfl | c
   ·rw[e];simp
   ·rw[c];simp
  exact k.keep b u q (λz=>d (hf b z)) λz=>d (he b z)) (Ya9) Y5W
def Un.tr(u:Un fs [] H H1 h h1)(v:Un fs2 [] H1 H2 h1 h2)(hf:∀b∈fs2,b∈fs\/Y0M=none):Un fs [] H H2 h h2 where
 keep:=λb o e n m _=>v.keep b o (u.keep b o e n m (by simp)) (u.free b o e n (by simp)) (λz=>(hf b z).elim m λq=>by rw[e]at q;cases q) (by simp)
 slot:=λb o e n m _=>by
  obtain⟨s,a⟩:=u.slot b o e n m (by simp);obtain⟨r,g⟩:=v.any a (u.free b o e n (by simp)) (by simp);exact⟨r,g⟩
 free:=λb o e n _=>by
  obtain⟨d,a⟩:=u.there b o e (by simp);exact v.free b d a (u.free b o e n (by simp)) (by simp)
 there:=λb o e _=>by
  obtain⟨d,a⟩:=u.there b o e (by simp);exact v.there b d a (by simp)
 tups:=λb c e=>v.tups b c (u.tups b c e)
 frzs:=λb i c e=>v.frzs b i c (u.frzs b i c e)
 tbls:=λb l e=>by
  obtain⟨j,a⟩:=u.tbls b l e;obtain⟨p,g⟩:=v.tbls b _ a;exact⟨j++p,by rw[g,Array.append_assoc]⟩
def Un.kp(u:Un fs [] H H1 h h1)(k:Kp fs2 ex h1 h2)(hf:∀b∈fs2,b∈fs\/Y0M=none)(he:∀b∈ex,Y0M=none):Un fs [] H H1 h h2 where
 keep:=λb o e n m _=>k.keep b o (u.keep b o e n m (by simp)) (λz=>(hf b z).elim m λq=>by rw[e]at q;cases q) λz=>by rw[he b z]at e;cases e
 slot:=λb o e n m _=>by
  obtain⟨g,a⟩:=u.slot b o e n m (by simp);obtain⟨d,c⟩:=k.any a λz=>by rw[he b z]at e;cases e
  exact⟨d,c⟩
 free:=u.free
 there:=λb o e _=>by
  obtain⟨i,a⟩:=u.there b o e (by simp);obtain⟨d,c⟩:=k.any a λz=>by rw[he b z]at e;cases e
  exact Y0C c
 tups:=u.tups
 frzs:=u.frzs
 tbls:=u.tbls
def Un.put{u:HO}(x:Un fs [] H H1 h h1)(ha:Y7U=none)(hn:H1 a=none):Un fs [] H (upd H1 a u) h h1 where
 keep:=x.keep
 slot:=x.slot
 free:=λb d e n m=>by rw[cP (λz=>by subst z;rw[ha]at e;cases e)];exact x.free b d e n m
 there:=x.there
 tups:=λb c e=>by rw[Y53 (x.tups b c e)];exact x.tups b c e
 frzs:=λb d c e=>by rw[Y53 (x.frzs b d c e)];exact x.frzs b d c e
 tbls:=λb g e=>by
  obtain⟨m,q⟩:=x.tbls b g e;exact⟨m,by rw[Y53 q];exact q⟩
def nC.put{u:HO}(x:Y2q)(hn:H a=none)(new:eU P w (Y1n u) h a u):nC P w (Y1n u) h:=λb v e=>by
 by_cases hb:b=a
 ·subst hb;rw[bK]at e;cases e;exact new
 ·rw[cP hb]at e;exact(x b v e).stay (λc q _ r=>r) (λc q=>by rw[Y53 q];exact q) λc d q=>by rw[Y53 q];exact q
theorem rB:∀{l:Y1G},(∀b∈frs l,∀o,Y0M=Y7->∃sl,Ydb=some { o with slots:=sl })->h.FunFrames base l->h1.FunFrames base l
 | [],_,_=>trivial
 | env::r,k,⟨hk,⟨L,o,hf,hn,ho,hd⟩,hr⟩=>by
  have hL:L∈frs (env::r):=List.mem_filterMap.mpr ⟨env,aV,hf⟩;obtain⟨sl,e⟩:=k L hL o ho;refine⟨hk,⟨L,_,hf,hn,e,hd⟩,rB (λb c=>k b ?_) hr⟩;obtain⟨a,m,q⟩:=List.mem_filterMap.mp c;exact List.mem_filterMap.mpr ⟨a,aZ _ m,q⟩
end
def BC(P:Program)(w:World):LB:=λouter H s E e s'=>∃(a T:Addr) (cls:Value) (od:Y11) (H':Hp),e=Y3/\s'.os=s.os/\Yb3/\Y9d (frs outer) [] H H' s'.heap/\nC P w H' s'.heap /\
 Y6e a/\Y6e T/\H' a=none/\H' T=none/\lC s'.heap a cls od (some (T,.none))/\E cls od H'
structure CU(X:Cx)(Ex:St->XK):Prop where
 p:∀(pins:Ae) (σ:St) (H:Hp) (s:Shared) (e:Value) (s':Shared),Y1->BC X.prog X.w X.stack H s (Ex σ) e s'->X.xe e s'
structure aAx(X:Cx)(Ex:St->XK):Prop where
 p:∀(pins:Ae) (σ:St) (H:Hp) (s:Shared) (h':Heap) (tk:Nat) (a:Addr) (cls:Value) (od:Y11),Y1->(Y6u (Y0n=Y7))->Y6e a->H a=none ->
  lC h' a cls od none->Ex σ cls od H->X.xe (Y3) { s with heap:=h',toks:=tk }
section
variable{P:Program}{w:World}{K:Aa}{mg:Y0a}{base:Heap}{N:Ai}{qual:Str}{scope:Scope}{f:Addr}{cd:Value}{A:Around}{outer:Y1G}{s:Shared}{H:Hp}{E:XK}
def AH{pins:Ae}{σ:St}{H1 H2:Hp}{s1 s2:Shared}{a:Addr}{cls:Value}{od:Y11}{st:Y9I}
  (I:cL (pK (BC P w) P w K mg base N qual scope f cd A outer s H E) pins σ H1 s1) (os:s2.os=s1.os) (bare:YfT)
  (un:Un (frs (pK (BC P w) P w K mg base N qual scope f cd A outer s H E).stack) [] H1 H2 s1.heap s2.heap) (hok:nC P w H2 s2.heap) (x:lC s2.heap a cls od st) (hst:st=none\/∃T,st=some (T,.none))
  (fa:Y9Y a none) (na:H2 a=none) (fT:∀T∈stT st,Y9Y T none) (nT:∀T∈stT st,H2 T=none) (q:E cls od H2) :
  (pK (BC P w) P w K mg base N qual scope f cd A outer s H E).xe (Y3) s2:=by
 have m:s2.heap.FunFrames (pK (BC P w) P w K mg base N qual scope f cd A outer s H E).base (pK (BC P w) P w K mg base N qual scope f cd A outer s H E).stack :=
  rB (λb c o e=>un.any e (I.stkFree b c) (by simp)) I.stack
 have d:∀b,Y9Y b none->Y6e b:=λb e=>by
  cases q:s.heap.get? b with
  | none=>rfl
  | some o =>
   obtain⟨C,h⟩:=Ybf o q (by intro z;cases z);rw[e]at h;cases h
 have i:∀b,s2.heap.get? b=none->Y9Y b none:=λb e=>by
  cases q:s1.heap.get? b with
  | none=>rfl
  | some o =>
   obtain⟨C,h⟩:=un.there b o q (by simp);rw[e]at h;cases h
 have j:∀b∈frs (pK (BC P w) P w K mg base N qual scope f cd A outer s H E).stack,b∈frs outer\/Y6e b:=λb c=>by
  have n:b∈s.heap.objs.size::frs outer:=c;rcases bD.mp n with z | z
  ·right
   rw[z];exact Yf2
  ·exact .inl z
 show wpAny (model P w) (Y9J qual scope f cd) (leaving (Y9k qual scope f cd) (Y3)) _ _ s2;refine TX I.ok.frames m rfl x hst λG T3 D r p=>?_;have g:∀b∈frs (pK (BC P w) P w K mg base N qual scope f cd A outer s H E).stack,H2 b=none:=λb c=>by
  have B:=I.stack;obtain⟨_,o,y,_⟩:=B.mem c;exact un.free b o y (I.stkFree b c) (by simp)
 have l:∀b∈a::stT st,Y9Y b none:=λb c=>by
  rcases bD.mp c with rfl | c
  ·exact fa
  ·exact fT b c
 refine⟨a,T3,cls,od,H2,rfl,os.trans I.os,bare,((I.base.tr un j).kp p j λb c=>d b (l b c)),hok.kp p g (λb c=>?_),d a fa,d T3 (i T3 r),na,?_,D,q⟩
 ·rcases bD.mp c with rfl | c
  ·exact na
  ·exact nT b c
 ·cases z:H2 T3 with
  | none=>rfl
  | some u =>
   obtain⟨J,e⟩:=(hok T3 u z).get;rw[r]at e;cases e
def QU:CU (pK (BC P w) P w K mg base N qual scope f cd A outer s H E) (λ_=>E):=⟨λh σ H1 y e u I l=>by
 obtain⟨a,T,cls,r,H2,rfl,p,c,un,g,j,i,m,n,x,q⟩:=l;exact AH I p c un g x (Y6P T rfl) j m (λb d=>by cases aU.mp d;exact i) (λb d=>by cases aU.mp d;exact n) q⟩
def QV:aAx (pK (BC P w) P w K mg base N qual scope f cd A outer s H E) (λ_=>E):=⟨λd σ H1 g j h a cls l I k e i x q =>
 AH (s2:={ g with heap:=j,toks:=h }) I rfl I.bare (Un.kept k) (I.hok.kept k) x (Y3T) e i (λb c=>by cases c) (λb c=>by cases c) q⟩
end
def aAO(sp:Sp)(Ex:St->XK)(t:TA):TE:=Y3N (λvs H1=>sp vs H1 Q (Ex σ))
section
variable{X:Cx}{k:Nat}{f C:Addr}{fd:FuncData}{ps:Ai}{sp:Sp}{Ex:St->XK}{x:Str}{p pos np cpos:Pos}{e:Expr}{es:Y04}{t:TA}
def WY{pins:Ae}{σ:St}{H:Hp}{s:Shared}{Q:VK}{us:Ah}{vs:An}(F:dI X.prog X.w X.K X.mg X.base (BC X.prog X.w) k f fd ps sp)(hr:Y5E k)(hb:wE X.K fd ps [])(hx:CU X Ex)
  (I:Y1) (r:Y8k) (h:sp vs H Q (Ex σ)):Y6Z (Yd2 f us) X σ Q:=by
 have d:(us++[]).length=ps.length:=by rw[List.append_nil,<-r.length];exact F.len _ _ _ _ h
 have a:=hb s us I.kIn d;rw[List.append_nil]at a;refine Yfa (F.run X.A X.stack s H ⟨us,[]⟩ us vs Q (Ex σ) hr I.env0 a r h) (λr g c=>?_);cases r with
 | error e=>exact hx.p pins σ H s e g I c
 | ok fl =>
  cases fl with
  | ret u=>exact I.after c
  | next=>exact Y9M
  | brk=>exact Y9M
  | cont=>exact Y9M
def tU(F:dP (BC X.prog X.w) X.prog X.w X.K X.mg X.base k x ps sp)(hr:Y5E k)(hx:CU X Ex)(ha:FK X (e::es) t)(hg:Y22:=by rfl)
  (hdb:Y19 ("__debug__" : Str):=by decide) (he:Y4m=(false,Y1y)::Y36:=by exact Se)
  (hpl:Yq ((backTo pos (starEach es X.env)).any (·.1)):=by repeat (first | exact oP | refine lN Se ?_)) :
  Y83 x p (e::es) [] (aAO sp Ex t):=⟨by
 obtain⟨f,j,c,d,g,i⟩:=F.ex;intro a s σ H Q I h;refine YfD I hg d ?_ hdb;refine Yf1 X.base g (thn (ha.p pos a s σ H _ I h) λn l ⟨m,H1,I1,r,q⟩=>Y0b I1.kIn) he hpl;exact WY c hr i hx I1 r q⟩
end
def hZ.okx{P:Program}{w:World}{K:Aa}{mg:Y0a}{base:Heap}{x qual:Str}{st:Stmt}{f:Addr}{fd:FuncData}{N ps:Ai}{k:Nat}{sp:Sp}(F:Y9 x qual st)(S:Ya N ps st)(len:∀vs H Q E,sp vs H Q E->Y9H)
  (hbody:∀(cdv:Value) (A:Around) (outer:Y1G) (s:Shared) (H:Hp) (vs:An) (Q:VK) (E:XK),iS k (Y9J qual Y4i f cdv)->sp vs H Q E ->
   CU (pK (BC P w) P w K mg base N qual (Y4i) f cdv A outer s H E) (λ_=>E)->aAx (pK (BC P w) P w K mg base N qual (Y4i) f cdv A outer s H E) (λ_=>E) ->
   ∃t,xC (pK (BC P w) P w K mg base N qual (Y4i) f cdv A outer s H E) (lM st) t/\t { nx:=λ_ H'=>Q .non H',rt:=Q } (Yay N) H):dI P w K mg base (BC P w) (k+1) f fd ps sp:=by
 obtain⟨l,j,kV,i,m,n,cdv,ct,g,rfl,e,a⟩:=F.ex;refine aAq e a S len λA outer s H vs Q E d c=>?_;obtain⟨t,h,q⟩:=hbody cdv A outer s H vs Q E d c QU QV;exact⟨t,h.p,q⟩
def MadeExcOf.at{h h':Heap}{a:Addr}{cls:Value}{args:Ah}(x:Yct h a cls args):lC h' a cls none none:=by
 obtain⟨t,e,_,_⟩:=x.there;exact Y1Z _ _ e rfl rfl ⟨by show 5<6;decide,Y3T⟩ rfl
abbrev xK:Ah:=[.type "ValueError",.type "Exception",.type "BaseException",.type "object"]
section
variable{X:Cx}{C:Addr}{Ex:St->XK}{x:Str}{pos np cpos:Pos}{e:Expr}{es:Y04}{t:TA}
end
end L2
namespace L2
open PySem PySem.W PySem.Spec PySem.Calls PyProof.Rows
structure uG(K:Frag)(C:Addr):Prop where
 ga:Y4z K "__getattribute__" = Y4D "BaseException.__getattribute__"
 gt:Y4z K "__getattr__" = Y1p
 sub:subIn K (Yz) (.type "BaseException")=Y3Z
 cls:(clsIn K C).isSome=true
 kc:Y4z K "__class__" = Y4D "object.__class__"
 kg:specialIn K (.builtin "object.__class__") "__get__" = Y4D "getset_descriptor.__get__"
 kt:takesIn K (.builtin "object.__class__")=Y3Z
 ob:mroIn K C (.type "object")=Y3Z
section
variable{prog:Program}{w:World}{A:Around}{E:Y5}{s:Shared}{K:Frag}{x C:Addr}{ox:Obj}{od:Option Obj}{name:Str}
def PU{nv:Value}{Q:Y46}(c:uG K C)(X:Y5l)(I:Y9R x ox C od)(h:Q () s):Y0V (checkBuiltinCall "BaseException.__getattribute__" ⟨[Y2y,nv],[]⟩):=by
 have e:builtinKind "BaseException.__getattribute__" = some .slot:=Kk;have a:splitId "BaseException.__getattribute__" = some ("BaseException","__getattribute__"):=Kk;have LT:=YfJ;have LS:=looks_subIn (M:=Y2A) X c.sub;have LI:Ya4 s.heap (isInstance (Y2y) (.type "BaseException")) true:=LT.andThen LS;have i:=F.args_bexc_ga (Y2y) nv;obtain⟨j,g,d,t,l⟩:=s;simp only[checkBuiltinCall,e,a];refine wpAny_bind (LI.at ?_)
 repeat (any_goals (first | assumption | wp_step))
def UH{v:Value}{tk:Tok}{R:Y8S}(c:uG K C)(X:Y5l)(I:Y9R x ox C od)(hf:findObj K C od name=some (.value v))(h:R (Yc1 v) s) :
  Y9K Y2A A (.builtin "BaseException.__getattribute__") ⟨[Y2y,YbC tk],[]⟩ R s:=by
 refine codeAny_call_builtin F.attr_ValueError.ga.plain F.entry_bexc_ga (PU c X I ?_);have LT:=YfJ;have LF:=looks_find (M:=Y2A) X I hf;obtain⟨a,g,d,t,e⟩:=s;unfold Builtin.«object.__getattribute__»;refine Y3V
 repeat (any_goals (first | assumption | (refine LT.at ?_) | (refine LF.at ?_) | wp_step))
def aCK{v:Value}{nv:Value}{fill expr:Bool}{Q:Y5}(c:uG K C)(X:Y5l)(I:Y9R x ox C od)
  (hc:∀A' R',(R' (Yc1 v) s)->Y9K Y2A A' (.builtin "BaseException.__getattribute__") ⟨[Y2y,nv],[]⟩ R' s) (hv:handedIn v=true) (h:Q v s):Y0V (getAttrBy (Y2y) nv fill expr):=by
 have LT:=YfJ;have L1:=looks_findIn (M:=Y2A) X c.ga;have L2:=looks_findIn (M:=Y2A) X c.gt;have i:=F.attr_ValueError.ga.bind (Y2y);have e:Yq (expr&&onTheHeap (Value.builtin "BaseException.__getattribute__")):=by cases expr <;> rfl
 have a:Yq (onTheHeap (Value.ref C)&&Value.builtin "BaseException.__getattribute__" == Value.builtin "object.__getattribute__"):=by
  rw[show(Value.builtin "BaseException.__getattribute__" == Value.builtin "object.__getattribute__")=false by decide +kernel];rfl
 obtain⟨j,g,d,t,l⟩:=s;unfold getAttrBy;refine wpAny_holding (wpAny_bind (LT.at (wpAny_bind (L1.at ?_))));dsimp only;rw[if_neg (by rw[a];exact cH)];unfold getAttrByItsOwn hookBefore;rw[if_pos (show onTheHeap (Value.ref C)=true from rfl)];refine wpAny_bind (L2.at (Y9p Ye2));unfold callGetattribute;rw[if_neg (by rw[e];exact cH)];unfold boundAndCalled;refine wpAny_bind (wpAny_of_eq i (wpAny_call (hc _ _ ?_)));exact handed_on hv h
def UI{v:Value}{expr:Bool}{Q:Y5}(c:uG K C)(X:Y5l)(I:Y9R x ox C od)(hf:findObj K C od name=some (.value v))(hv:handedIn v=true)(h:Q v { s with toks:=s.toks+1 }) :
  Y0V (getAttr (Y2y) name expr):=by
 unfold getAttr;refine wpAny_bind (wpAny_mkText ?_);exact aCK (s:={ s with toks:=s.toks+1 }) c X I (λA' R' q=>UH (s:={ s with toks:=s.toks+1 }) c X I hf q) hv h
end
end L2
namespace L2
open PySem PySem.Spec PyProof.Rows
def BB(a C:Addr)(od:Y11):HO:=.ext λh=>∃oe vs,Y7U=some oe/\oe.cls=Yz/\oe.dict=od/\oe.data=Y8R/\1<vs.size
def BB.ok{P:Program}{w:World}{H:Hp}{h:Heap}{a C:Addr}{od:Y11}{st:Y9I}(x:lC h a Yz od st):eU P w H h a (BB a C od):=by
 obtain⟨c,d,e,i,g,p,n,_⟩:=x;refine Y08 ⟨c,d,e,i,g,p,n.sz⟩ ⟨c,e⟩;rintro u y ⟨c,d,j,r,l,s,m⟩ k;exact⟨c,d,k _ j,r,l,s,m⟩
def Cx.tryW(X:Cx)(pins:Ae)(xe:Y5):Cx:={ X with pn:=X.pn++pins,xe:=xe }
def Cx.suite(X:Cx)(a:Addr):Cx:={ X with A:=X.A.mark (some (.ref a)),calm:=false,xe:=λ_ _=>False }
def oR.drop(D:oR)(i:Nat):oR:={ nx:=λσ H=>D.nx (σ.set i none) H,rt:=D.rt,bk:=λσ H=>D.bk (σ.set i none) H,ct:=λσ H=>D.ct (σ.set i none) H }
structure VQ(K:Aa)(C2:Addr):Prop where
 ty:PySem.W.typeIn K (.ref C2)=some (.type "type")
 cls:(PySem.W.clsIn K C2).isSome=true
 sub:Yb9 (.ref C2) (.type "BaseException")=Y3Z
def aEt(K:Aa)(C2:Addr)(i:Nat)(tb:(St->XK)->TS)(th:TS):TS:=λD σ H=>∃Ex:St->XK,tb Ex D σ H /\
 ∀σ' cls od H',Ex σ' cls od H'->∃C,cls=Yz/\Yb9 Yz (.ref C2)=Y3Z/\∀a,H' a=none->th (D.drop i) (σ'.set i (Y2b)) (upd H' a (BB a C od))
section
variable{X:Cx}{pins:Ae}{σ:St}{H:Hp}{s:Shared}
theorem cL.tryW(I:Y1)(xe:Y5):cL (YcV xe) [] σ H s :=
 ⟨⟨I.ok.mod,I.ok.kind,I.ok.glob,I.ok.blt,I.ok.above,I.ok.inj,I.ok.has,I.ok.cab,I.ok.hd,I.ok.frames,I.ok.stk,I.ok.exf,I.ok.bs,I.ok.bsz,I.ok.noex,I.ok.exfs,I.ok.funs,I.ok.frf⟩,I.os,I.bare,I.base,I.loc,I.cell,I.free,I.freeC,
  λp a=>Y6m (by have:p∈(X.pn++pins)++[]:=a;rwa [List.append_nil]at this),I.hok,I.len⟩
def cL.untry{xe:Y5}{pins':Ae}(I:cL (YcV xe) pins' σ H s):Y1 :=
 ⟨⟨I.ok.mod,I.ok.kind,I.ok.glob,I.ok.blt,I.ok.above,I.ok.inj,I.ok.has,I.ok.cab,I.ok.hd,I.ok.frames,I.ok.stk,I.ok.exf,I.ok.bs,I.ok.bsz,I.ok.noex,I.ok.exfs,I.ok.funs,I.ok.frf⟩,I.os,I.bare,I.base,I.loc,I.cell,I.free,I.freeC,
  λp a=>Y6m (cD _ a),I.hok,I.len⟩
theorem cL.suite(I:Y1)(a:Addr):cL Ybv pins σ H s :=
 ⟨⟨I.ok.mod,I.ok.kind,I.ok.glob,I.ok.blt,I.ok.above,I.ok.inj,I.ok.has,I.ok.cab,(λz=>by cases z),I.ok.frames,I.ok.stk,I.ok.exf,I.ok.bs,I.ok.bsz,I.ok.noex,I.ok.exfs,I.ok.funs,I.ok.frf⟩,I.os,I.bare,I.base,I.loc,I.cell,I.free,I.freeC,I.pin,I.hok,I.len⟩
def cL.unsuite{a:Addr}(I:cL Ybv pins σ H s)(ok:X.Ok):Y1:=⟨ok,I.os,I.bare,I.base,I.loc,I.cell,I.free,I.freeC,I.pin,I.hok,I.len⟩
def cL.forget{h':Heap}{tk:Nat}{i:Nat}{x:Str}{v:Y8q}{m:Y0a}(I:Y1)(hN:X.N.Nodup)(hi:Y2c=Y8)
  (hl:∀(i:Nat) (x:Str) (v:V),Y2c=Y8->σ[i]?=YcQ->Ycp x->∃u,Y2C/\aEa X.env s.heap m x u)
  (hn:h'.Ns X.env.locals (λy=>if y=x then v else m y)) (hs:Y9z X.env.locals h'):cL X pins (σ.set i none) H ({ s with heap:=h',toks:=tk }):=by
 have l:i<σ.length:=by rw[I.len];exact(aO.mp hi).1
 have cne:=I.cne;refine⟨I.ok,I.os,I.bare,⟨λb o e n h a=>?_,λb o e n h a=>?_,I.base.free,λb o e a=>?_,I.base.tups,I.base.frzs,I.base.tbls⟩,Y1x hn (λj y w A g C=>?_),λy c e=>?_,I.free,I.freeC,λp M=>?_,?_,by simpa using I.len⟩
 ·exact(hs.2 b (cK (aS (aY e) I.ok.above))).trans (Yd6 o e n h a)
 ·obtain⟨B,q⟩:=Yd7 b e n h a;exact⟨B,(hs.2 b (cK (aS (aY e) I.ok.above))).trans q⟩
 ·obtain⟨L,q⟩:=Ybf o e a;exact⟨L,(hs.2 b (cK (aS (aY e) I.ok.above))).trans q⟩
 ·by_cases hj:j=i
  ·subst hj;rw[List.getElem?_set_self l]at g;cases g
  ·rw[YaK hj]at g;obtain⟨u,r,q⟩:=hl j y w A g C;refine Y08 u r;rcases q with⟨k,e⟩ | ⟨k,c,e,z⟩
   ·have G:y≠x:=λz=>hj (AE hN A (z ▸ hi));exact Y3p k (by simp[G,e])
   ·exact .inr ⟨k,c,e,YeH hs y c e⟩
 ·obtain⟨w,z⟩:=Y99 y e;exact⟨w,YeH hs y c e⟩
 ·obtain⟨e,n,ne,D,d⟩:=Y6m M;exact⟨(hs.2 p.1 ne).trans e,n,ne,D,d⟩
 ·exact λb u e=>(I.hok b u e).stay (λc o J q=>(hs.2 c (λz=>by
   subst z;rcases J with z | z
   ·subst z;rw[I.free]at e;cases e
   ·rw[I.free]at z;cases z)).trans q) (Ya9) Y5W
def cL.landed{a T:Addr}{C:Addr}{od:Y11}{H2:Hp}{s2:Shared}{h':Heap}{st:Y9I}(I:Y1)(os:s2.os=s.os)(bare:YfT)(un:Y9d Y7F [] H H2 s2.heap)(hok:Y8d H2 s2.heap)
  (fa:Y6e a) (fT:Y6e T) (na:H2 a=none) (nT:H2 T=none) (k:Kp (Y7F) [a,T] s2.heap h') (x:lC h' a Yz od st):Y1Q (upd H2 a (BB a C od)) ({ s2 with heap:=h' }):=by
 have d:∀b∈frs X.stack,H2 b=none:=λb c=>by
  have i:=I.stack;obtain⟨_,o,h,_⟩:=i.mem c;exact un.free b o h (I.stkFree b c) (by simp)
 have g:∀b∈[a,T],Y6e b:=λb c=>by
  rcases bD.mp c with rfl | c
  ·exact fa
  ·cases aU.mp c;exact fT
 have e:∀b∈[a,T],H2 b=none:=λb c=>by
  rcases bD.mp c with rfl | c
  ·exact na
  ·cases aU.mp c;exact nT
 exact I.call' (s':={ s2 with heap:=h' }) (ch:=[]) os ((un.kp k (λb c=>.inl c) g).put fa na) ((hok.kp k d e).put na (BB.ok x)) bare λb c=>by cases c
end
section
variable{M:Model}{A:Around}{E:Y5}{K:Aa}{s:Shared}{a C C2:Addr}{ox:Obj}{od:Option Obj}
def PR{Q:Y26 Bool}(X:Y5l)(L4:PySem.W.Looks M s.heap (typeOf (Y3)) (Yz))(c2:VQ K C2)(hsub:Yb9 Yz (.ref C2)=Y3Z)(h:Q true s):Y5I A (excMatches (Y3) (.ref C2)) Q E s:=by
 have L1:=PySem.W.looks_typeIn (M:=M) X c2.ty;have L2:=PySem.W.looks_subIn (M:=M) X c2.sub;have L3:=PySem.W.looks_subIn (M:=M) X hsub;have L5:PySem.W.Looks M s.heap (isType (.ref C2)) true:=by
  have e:=c2.cls;unfold PySem.W.clsIn at e;split at e
  ·rename_i ho
   intro A' Q' E' c k q;unfold isType loadHead;exact wpAny_bind (wpAny_loadPart (k _ _ (X _ _ ho)) (wpAny_pure q))
  ·cases e
 have f:=tc_notTuple;obtain⟨i,g,d,t,j⟩:=s;unfold excMatches
 repeat (any_goals (first | assumption | (refine L1.at ?_) | (refine L2.at ?_) | (refine L3.at ?_) | (refine L4.at ?_) | (refine L5.at ?_) | wp_step))
end
section
variable{X:Cx}{x n:Str}{np hpos pos:Pos}{b₀:Stmt}{body suite:Y3r}{i:Nat}{C2:Addr}{tb:(St->XK)->TS}{th:TS}
def EU{pins:Ae}{a:Addr}{D:oR}{f:Flow}{s:Shared}(ok:X.Ok)(hN:X.N.Nodup)(hi:Y2c=Y75)(hl:Y6I n Y1R)
  (q:SP (Ybv) pins (D.drop i) f s):wpAny (Y6K) X.A (do bindName X.env n .none;unbindBehindTheSuite X.env n hpos) (λ_ s'=>SP X pins D f s') X.xe s:=by
 have h:Yq (Yce .class || (Yce .module&&X.env.locals != X.env.globals)):=by rw[ok.kind];rfl
 have c:∀{σ:St} {H:Hp} (J:cL Ybv pins σ H s) {Q:Y46},(∀s',cL X pins (σ.set i none) H s'->Q () s')->wpAny (Y6K) X.A (do bindName X.env n .none;unbindBehindTheSuite X.env n hpos) Q X.xe s:=by
  intro σ H J Q k;have J':=J.unsuite ok;obtain⟨m,j,e⟩:=J'.loc;exact wpAny_nameGoes_keeps hl j h λl v d g=>k _ (J'.forget hN hi e d g)
 cases f with
 | next=>obtain⟨σ,H,J,q⟩:=q;exact c J λs' J'=>Y8o _ H J'
 | brk=>obtain⟨σ,H,J,q⟩:=q;exact c J λs' J'=>Y8o _ H J'
 | cont=>obtain⟨σ,H,J,q⟩:=q;exact c J λs' J'=>Y8o _ H J'
 | ret u=>obtain⟨v,σ,H,J,r,q⟩:=q;exact c J λs' J'=>⟨v,_,H,J',r,q⟩
def aAD(hst:X.stack=X.env::X.outer)(hfm:X.env.frame=some X.env.locals)(hg:Y22)(hm:Y4d=Y2 C2)(c2:VQ X.K C2)(hN:X.N.Nodup)(hi:Y2c=Y75)(hl:Y6I n Y1R)
  (hb:∀pins xe Ex,CU (YcV xe) Ex->xC (YcV xe) body (tb Ex)) (hs:∀a,xC (Ybv) (b₀::suite) th) (hd:Y19 ("__debug__" : Str):=by decide) :
  FD X (.Try body [.ExceptHandler (some (YaM np)) (Y75) (b₀::suite) hpos] [] [] pos) (aEt X.K C2 i tb th):=⟨by
 intro pins s σ H D I h;obtain⟨Ex,ο,ρ⟩:=h;refine wpAny_Try_except ?_;generalize hxe:(λ(e:Value) (ω:Shared)=>wpAny (model X.prog X.w) X.A (noteFrame e X.env) (λ_ ι=>wpAny (model X.prog X.w) X.A (setFlight e none) (λ_ τ =>
  wpAny (model X.prog X.w) X.A (handleBy e X.env [.ExceptHandler (some (.Name x np)) (some n) (b₀::suite) hpos]) (SP X pins D) X.xe τ) X.xe ι) X.xe ω)=xe
 have φ:CU (YcV xe) Ex:=⟨λO c H1 ζ e m I' χ=>by
  obtain⟨a,T,cls,od,H2,rfl,ε,d,un,y,α,η,S,β,μ,q⟩:=χ;obtain⟨C,rfl,l,k⟩:=ρ c cls od H2 q;have I1:cL X pins c H1 ζ:=I'.untry;have un:Un (Y7F) [] H1 H2 ζ.heap m.heap:=un;have P:m.heap.FunFrames X.base (X.env::X.outer):=by
   rw[<-hst];exact rB (λb hb o e=>un.any e (I1.stkFree b hb) (by simp)) I1.stack
  show xe (Y3) m;rw[<-hxe];refine MP (by rw[<-hst];exact I1.ok.frames) P hfm μ (Y6P T rfl) λh3 T3 y1 G Z=>EJ y1 λM U δ=>?_;have R:Kp (Y7F) [a,T] m.heap M:=by
   rw[hst];refine⟨λb o e j g=>δ b o (λq=>by subst q;rw[G]at e;cases e) (Z.keep b o e j g),λb o e j g=>?_⟩;obtain⟨L,B⟩:=Z.slot b o e j g;exact⟨L,δ b _ (λq=>by subst q;rw[G]at e;cases e) B⟩
  have I4:=I1.landed (h':=M) ε d un y α η S β R U;refine wpAny_handleBy_cons (codeAny_handlers_test ?_) (by intro q;cases q);refine Yf6 I4.ok.kind (Calls.loadGlobal_global (by rw[I4.ok.glob];exact I4.mod.glob.keeps I4.bk) hm ?_) hd;have LT:PySem.W.Looks (Y6K) M (typeOf (Y3)) (Yz):=by
   obtain⟨oe,vs,B,υ,_⟩:=U;exact υ ▸ (PySem.W.Looks.ld B).andThen .now
  refine PR I4.kIn LT c2 l (codeAny_handlers_suite_as ?_);refine EJ U λθ ξ γ=>?_;have κ:Kp (Y7F) [a,T] m.heap θ:=by
   refine⟨λb o e j g=>γ b o (λq=>by subst q;rw[G]at e;cases e) (R.keep b o e j g),λb o e j g=>?_⟩;obtain⟨L,B⟩:=R.slot b o e j g;exact⟨L,γ b _ (λq=>by subst q;rw[G]at e;cases e) B⟩
  have I5:=(I1.landed (h':=θ) ε d un y α η S β κ ξ).suite a;refine sD (X:=Ybv) I5 hN hi (.inl hl) (v:=Y3) rfl (λs6 I6=>?_) (.inr hl);refine wpAny_mono ((hs a).p pins s6 _ _ (D.drop i) I6 (k a S)) (λf s7 ν=>?_) λ_ _ z=>False.elim z;exact EU I1.ok hN hi hl ν⟩
 refine wpAny_mono ((hb pins xe Ex φ).p [] s σ H D (I.tryW xe) ο) (λf ψ q=>?_) λe ψ q=>q;cases f with
 | next=>obtain⟨c,H',J,q⟩:=q;exact YdT c H' J.untry q
 | brk=>obtain⟨c,H',J,q⟩:=q;exact Y8o c H' J.untry
 | cont=>obtain⟨c,H',J,q⟩:=q;exact Y8o c H' J.untry
 | ret u=>obtain⟨v,c,H',J,r,q⟩:=q;exact⟨v,c,H',J.untry,r,q⟩⟩
end
end L2
namespace L2
open PySem PySem.W PySem.Spec PySem.Calls PyProof.Rows
section
variable{prog:Program}{w:World}{A:Around}{E:Y5}{h:Heap}{g:YfX}{d:Drawn}{t:Nat}{os:OsState}
variable{nm q:Str}{C N:Addr}{bs bm bmB:Ah}{hdct:Bool}{sn:Ai}{sub:Ah}{ab:Bool}{col:Option Bool}{dd:Y11}{k0 k1 k2 k3 k5:Y8q}{B newId initId:String}
def zD(F:ExcBaseFacts B newId initId bmB)(T:OwnTail h bmB bm){rest:Ah}{fI:Addr}{Q:Y26 Fin}
  (hC:h.get? C=some (excClassObj nm q C N bs bm hdct sn sub ab col dd k0 k1 k2 k3 k5 newId)) (hi:Ya4 h (YfO "__init__") (Y2 fI))
  (hf:∀self,Ya4 h (bindSpecial (.ref fI) self) (.ref fI,[self]))
  (hq:∀h' e,Yct h e Yz rest ->
   wpAny (model prog w) A (Yd2 fI (Y35::rest)) (λr s'=>r=.none/\Q (YcI Y35) s') E ⟨h',g,d,t,os⟩) (hrest:Yec:=by size_fits) :
  wpAny (model prog w) A (Builtin.«type.__call__» ⟨Yz::rest,[]⟩) Q E ⟨h,g,d,t,os⟩:=by
 repeat (first | with_reducible refine Yc8 hC | with_reducible refine wpAny_madeBy_exc hC ?_ | wp_step)
 refine codeAny_call_builtin_code (YdK F.quiet) (wpAny_check_new_subT F T hC ?_);refine codeAny_exc_new_subT F T hC ?_ hrest;show Y0W _;have c:=aC { cls:=.ref C,data:=.fields #[.ref h.objs.size,.none,.none,.none,.bool false,.none] }
  (aC { cls:=.type "tuple",data:=.seq rest.toArray } hC)
 have j:Y0I (Y0M=Y7) (((h.push { cls:=.type "tuple",data:=.seq rest.toArray }).push { cls:=.ref C,data:=.fields #[.ref h.objs.size,.none,.none,.none,.bool false,.none] }).get? b=Y7):=YaR _ (Y0h e);have a:((h.push { cls:=.type "tuple",data:=.seq rest.toArray }).push
   { cls:=.ref C,data:=.fields #[.ref h.objs.size,.none,.none,.none,.bool false,.none] }).get? (h.objs.size+1)=some
   { cls:=.ref C,data:=.fields #[.ref h.objs.size,.none,.none,.none,.bool false,.none] }:=by heap_get
 have i:(Value.ref C::bm).contains (Yz)=true:=by simp
 unfold isInstance
 repeat (first | with_reducible refine Yc8 a | (with_reducible refine wpAny_isSubtype_exc c ?_;rw[i]) | wp_step)
 show Y0W (YfO _);refine(hi.keeps j).at (wpAny_holding (wpAny_bind (((hf _).keeps j).at ?_)));refine Y7q (hq _ (h.objs.size+1) ⟨λb o n=>Y66 n,Heap.get?_none_of_le (Nat.le_succ _),h.objs.size,a,Yf2,?_⟩) (λr s' m=>?_) YdG
 ·exact Y0h (Heap.get?_push_at rfl rfl)
 ·obtain⟨rfl,l⟩:=m
  wp_walk
  exact l
def QE(F:ExcBaseFacts B newId initId bmB)(T:OwnTail h bmB bm){rest:Ah}{fI:Addr}{Q:Y5}
  (hC:h.get? C=some (excClassObj nm q C N bs bm hdct sn sub ab col dd k0 k1 k2 k3 k5 newId)) (hi:Ya4 h (YfO "__init__") (Y2 fI))
  (hf:∀self,Ya4 h (bindSpecial (.ref fI) self) (.ref fI,[self]))
  (hq:∀h' e,Yct h e Yz rest ->
   wpAny (model prog w) (YaX "type.__call__" ⟨Yz::rest,[]⟩) (Yd2 fI (Y35::rest)) (λr s'=>r=.none/\Y10 e s') E ⟨h',g,d,t,os⟩) (hrest:Yec:=by size_fits) :
  wpAny (model prog w) A (call (Yz) rest) Q E ⟨h,g,d,t,os⟩:=by
 have i:=tc_lookup;have j:=tc_bind (Yz);have c:(⟨h,g,d,t,os⟩:Shared).TypeIs (Yz) "type" := Y0m hC;refine wpAny_call (codeAny_of_tree ?_);show Y0W (callAny (Yz) _)
 repeat (any_goals (first | assumption | with_reducible refine Yc8 hC | wp_step))
 refine Y1b (codeAny_call_builtin_at (YdK Kk) entry_typeCall (wpAny_check_type_call_sub hC (zD (hrest:=hrest) F T hC hi hf λh' e a=>?_)));exact hq h' e a
end
def mX(K:Frag)(C:Addr)(bmB:Ah)(newId:String):Bool:=match K.lookup C with
 | some ⟨.type "type",_,.cls cd,sl⟩=>(match cd.mro,sl.toList with
  | .ref C' :: bm,[_,_,_,_,some (.builtin n),_]=>C' == C&&n == newId && !cd.hasDel&&tailIn K bmB bm&&nsOkIn K cd.ns
  | _,_=>false)
 | _=>false
def rD{K:Frag}{h:Heap}{C:Addr}{bmB:Ah}{newId:String}(X:K.In h)(q:mX K C bmB newId=true) :
  ∃bm N nm qn bs hdct sn sub ab col dd k0 k1 k2 k3 k5,h.get? C=some (excClassObj nm qn C N bs bm hdct sn sub ab col dd k0 k1 k2 k3 k5 newId)/\OwnTail h bmB bm:=by
 unfold mX at q;cases e:K.lookup C with
 | none=>rw[e]at q;cases q
 | some o =>
  rw[e]at q;obtain⟨s,dd,r,g⟩:=o;split at q
  ·rename_i _ dd' cd sl' ho
   cases ho;split at q
   ·rename_i C' bm k0 k1 k2 k3 n k5 hm hs
    rw[cJ,cJ,cJ,cJ]at q;obtain⟨⟨⟨⟨a,c⟩,d⟩,j⟩,p⟩:=q;have a:C'=C:=by simpa using a
    have c:n=newId:=by simpa using c
    have d:Yq cd.hasDel:=by simpa using d
    subst a c;obtain⟨nm,bs,i,m,qn,hd,sn,sub,ab,col,del⟩:=cd;cases hm;cases d;obtain⟨l⟩:=g;cases hs;exact⟨bm,m,nm,qn,bs,hd,sn,sub,ab,col,dd,k0,k1,k2,k3,k5,X _ _ e,tail_of_in X j⟩
   ·cases q
  ·cases q
structure MkX(K:Frag)(C f:Addr):Prop where
 shape:mX K C xK "ValueError.__new__" = true
 init:Y4z K "__init__" = Ya3 f
 fn:isFn K (.ref f)=true
 kp:keepIn K (Yz)=true
section
variable{prog:Program}{w:World}{A:Around}{E:Y5}{s:Shared}{K:Frag}{C f:Addr}{rest:Ah}
def TU{Q:Y5}(M:MkX K C f)(X:Y5l)
  (hq:∀h' e,Yct s.heap e Yz rest ->
   wpAny (model prog w) (YaX "type.__call__" ⟨Yz::rest,[]⟩) (Yd2 f (Y35::rest)) (λr s'=>r=.none/\Y10 e s') E ({ s with heap:=h' })) (hrest:Yec) :
  Y0V (call (Yz) rest):=by
 obtain⟨i,N,p,qn,bs,a,m,sub,B,h,u,x,j,l,y,n,c,TL⟩:=rD X M.shape;obtain⟨z,g,d,t,D⟩:=s;exact QE (hrest:=hrest) PySem.F.excBase_ValueError TL c (looks_findIn X M.init) (λself=>bind_fn X self (jX.mp M.fn)) hq
end
end L2
namespace L2
open PySem PySem.W PySem.Spec PySem.Calls PyProof.Rows Builtin Builtin.ObjectAttr
def KM(d:Addr)(fs:Y3k V):HO:=.ext λh=>∃mA,h.Ns1 d mA/\(∀f,rV (YcM) (mA f))/\Yeg (fs.map (·.1))
def KM.ok{P:Program}{w:World}{H:Hp}{h:Heap}{d:Addr}{fs:Y3k V}{mA:Y0a}(n:h.Ns1 d mA)(r:∀f,rV (YcM) (mA f))(wi:Yeg (fs.map (·.1))):eU P w H h d (KM d fs):=by
 refine⟨⟨mA,n,r,wi⟩,(let ⟨o,_,_,e,_⟩:=n;⟨o,e⟩),?_⟩;rintro a c ⟨mA,n,r,wi⟩ k;exact⟨mA,n.at λo e=>k o e,r,wi⟩
def qT:Y2a Ah
 | [.type a,.type b,.type c,.type d]=>a == "ValueError" && b == "Exception" && c == "BaseException" && d == "object"
 | .ref _::r=>qT r
 | _=>false
def JS{c:Addr}{r:Ah}(e:qT (.ref c::r)=true):qT r=true:=by
 unfold qT at e;exact e
def GQ{l:Ah}(e:qT l=true)(n:∀c r,l ≠ .ref c::r):l=xK:=by
 unfold qT at e;split at e
 ·simp only[cJ,jX]at e;obtain⟨⟨⟨rfl,rfl⟩,rfl⟩,rfl⟩:=e
  rfl
 ·exact absurd rfl (n _ _)
 ·cases e
def tY{P:Y0Z Ah}(hb:P xK)(hs:∀c r,P r->P (.ref c::r)):∀{l:Ah},qT l=true->P l:=by
 intro l
 induction l with
 | nil=>intro e;exact absurd e Dd
 | cons v r ih =>
  intro e;cases v with
  | ref c=>exact hs c r (ih (JS e))
  | _=>rw[GQ e (λc r z=>by cases z)];exact hb
structure uF(K:Frag)(C:Addr):Prop where
 hd:hasDictIn K C=true
 po:((clsIn K C).any λcd=>qT cd.mro)=true
 sa:Y4z K "__setattr__" = Y4D "object.__setattr__"
section
variable{prog:Program}{w:World}{A:Around}{E:Y5}{s:Shared}{K:Frag}{x C:Addr}{R:Y8S}
def BW{ox:Obj}{od:Option Obj}{name:Str}{tk:Tok}{v:Value}(X:Y5l)(I:Y9R x ox C od)(c:uF K C)(ht:Y4z K name=Y1p)
  (h:∀b,wpAny (Y2A) A.in1 (storeInOwnDict (Y2y) (Yz) (YbC tk) name v b)
   (λfin s'=>match fin with | .done f=>R (.ok f) s' | .again c'=>c'.quiet=true/\codeAny (model prog w) A c' R s') (λe s'=>R (.error e) s') s) :
  Y9K Y2A A (.builtin "object.__setattr__") ⟨[Y2y,YbC tk,v],[]⟩ R s:=by
 have SF:=PySem.F.store_object;obtain⟨a,j,g⟩:=any_some c.po;have ne:Yq a.mro.isEmpty:=tY (P:=λl=>Yq l.isEmpty) rfl (λ_ _ _=>rfl) g;have d:a.mro.contains (.type "object")=true:=tY (P:=λl=>l.contains (.type "object")=true) Kk (λc r z=>by rw[List.contains_cons,z,Bool.or_true]) g;have i:refuseLoop (Y2y) "__setattr__" a.mro=pure ():=tY (P:=λl=>refuseLoop (Y2y) "__setattr__" l=pure ()) (PySem.F.store_ValueError.passes _) (λc r z=>by rw[refuseLoop_ref];exact z) g;have sub:Ya4 s.heap (isInstance (Y2y) (.type "object")) true:=I.type.andThen (looks_mroIn X (by unfold mroIn;rw[j,Option.bind_some,if_neg (by rw[ne];decide),d]));refine codeAny_call_builtin SF.slot.plain SF.entry (@check_slot (Y2A) _ _ s "object.__setattr__" "object" "__setattr__" (Y2y) [YbC tk,v] [] _ SF.kind SF.split sub (SF.args (Y2y) (YbC tk) v) ?_);have m:Ya4 s.heap (mroOf (Yz)) a.mro:=(looks_clsIn X j).andThen .now;rw[osa_eq,refuse_eq];refine Y8r (I.type.here (wpAny_bind (m.here ?_)));rw[i];refine wpAny_pure (wpAny_bind (I.type.here (wpAny_bind ((looks_findIn X ht).here (Y2r ?_)))));exact h _
def SJ{ox:Obj}{vs:Aj}{name:Str}{v:Value}{Q:Y46}(X:Y5l)(c:uF K C)(na:Y4z K name=Y1p)(hx:Y1W x ox)(hc:ox.cls=Yz)(hd:ox.data=Y8R)(ho:ox.dict=none)
    (h:∀h',Y5V x (some { ox with dict:=some s.heap.objs.size })->h'.Ns1 s.heap.objs.size (λy=>if y=name then Yi else none)->(Y0I (b≠x) (Y32->Y0n=Y7))->Q () { s with heap:=h',toks:=s.toks+2 }) :
    Y0V (setAttr (Y2y) name v):=by
  have I:Y9R x ox C none:=⟨hx,hc,by unfold notCls;rw[hd],by rw[ho];trivial⟩;refine set_plain X I c.sa (BW (s:={ s with toks:=s.toks+1 }) X I c na λb=>?_);obtain⟨O,j,m⟩:=any_some c.hd;obtain⟨R,N,P,G⟩:=ox;dsimp only at hc hd ho;subst hc hd ho;refine Y2r (Y8r (wpAny_loadPart hx (wpAny_bind (Looks.here (s:={ s with toks:=s.toks+1 }) (looks_clsIn X j) ?_))));rw[m];show wpAny (Y2A) A.in1 (do
                let d <-alloc { cls:=Value.type "dict",data:=Data.dict #[] }
                update x λo=>{ cls:=o.cls,dict:=some d,data:=o.data,slots:=o.slots }
                pure (some d)) _ _ _
  have g:(s.heap.push { cls:=.type "dict",data:=.dict #[] }).get? x=some { cls:=Value.ref C,data:=Data.fields vs,slots:=G }:=Y0h hx;have i:YaU x:=cK (aY hx);refine wpAny_bind (wpAny_alloc' ?_);refine wpAny_bind (wpAny_update' g ?_);refine Y1F;have r:((s.heap.push { cls:=.type "dict",data:=.dict #[] }).update x λo=>{ cls:=o.cls,dict:=some s.heap.objs.size,data:=o.data,slots:=o.slots }).get? s.heap.objs.size
      = some { cls:=.type "dict",data:=.dict #[] } :=
    (gP _ _ _ _ i.symm).trans (Heap.get?_push_at rfl rfl)
  have z:((s.heap.push { cls:=.type "dict",data:=.dict #[] }).update x λo=>{ cls:=o.cls,dict:=some s.heap.objs.size,data:=o.data,slots:=o.slots }).Ns s.heap.objs.size (Yd1) :=
    ⟨_,#[],_,r,rfl,λe J=>absurd J (by simp),Ydc⟩
  show Y0W (storeInDict s.heap.objs.size (YbC s.toks) name v);unfold storeInDict newKeyGuard;refine Y2r (wpAny_bind (wpAny_nsSet1 (Heap.Ns1.of_empty z) λh' a D=>?_));obtain⟨S,M,L,p,u,l⟩:=a.count (Within.cons name v Within.nil);refine wpAny_bind (wpAny_lookBehind p (by rw[u];exact pastItsLine_dict (aP l (by rw[cE,List.length_nil,sizeLine_eq];exact Oo))) ?_);refine wpAny_pure (h h' ?_ a λb T n B=>?_)
  · refine(D.2 x i).trans (Heap.get?_update_self _ g ?_)
    rfl
  · exact(D.2 b (cK (aY B))).trans ((gP _ _ _ _ n).trans (Y0h B))
def SI{ox:Obj}{vs:Aj}{d:Addr}{mA:Y0a}{ns:Ai}{name:Str}{v:Value}{Q:Y46}(X:Y5l)(c:uF K C)(na:Y4z K name=Y1p)(hx:Y1W x ox)(hc:ox.cls=Yz)(hd:ox.data=Y8R)(ho:ox.dict=Y4U)
  (hn:s.heap.Ns1 d mA) (hw:Yeg ns) (hsz:Y6G 1000)
  (h:∀h',h'.Ns1 d (λy=>if y=name then Yi else mA y)->Y9z d h'->Q () { s with heap:=h',toks:=s.toks+2 }) :
  Y0V (setAttr (Y2y) name v):=by
 have I:∃r,Y9R x ox C (some r):=by
  obtain⟨o,_,_,e,_⟩:=id hn;exact⟨o,hx,hc,by unfold notCls;rw[hd],by rw[ho];exact e⟩
 obtain⟨o,I⟩:=I;refine set_plain X I c.sa (BW (s:={ s with toks:=s.toks+1 }) X I c na λb=>?_);obtain⟨D,i,l⟩:=any_some c.hd;obtain⟨J,r,G,B⟩:=ox;dsimp only at hc hd ho;subst hc hd ho;refine Y2r (Y8r (wpAny_loadPart hx (wpAny_bind (Looks.here (s:={ s with toks:=s.toks+1 }) (looks_clsIn X i) ?_))));rw[l];refine wpAny_pure (a:=Y4U) (Y2r Y3V);refine wpAny_nsSet1 (s:={ s with toks:=s.toks+1 }) hn λh' g p=>?_;obtain⟨L,z,u,m,n,j⟩:=g.count (PySem.Within.cons name v hw);refine wpAny_bind (wpAny_lookBehind m (by rw[n];exact pastItsLine_dict (aP j (by rw[cE,sizeLine_eq];exact Oo))) ?_);exact wpAny_pure (h _ g p)
end
section
variable{X:Cx}{pins:Ae}{σ:St}{H:Hp}{s:Shared}{a C d:Addr}{fs:Y3k V}{f:Str}{v:V}{A:Around}{E:Y5}
def RH{o:HO}(h:H a=Y7):Y1n o=H:=by
 funext b
 by_cases e:b=a
 ·subst e;rw[bK,h]
 ·rw[cP e]
def UG{b:Bool}{Q:Y5}(I:Y1)(e:H a=some (BB a C (Y4U)))(ed:H d=Yai d fs)(c:uG X.K C)(hh:hasDictIn X.K C=true)(n:xD X.K C f)(l:YcM=Yi)
  (h:∀u s',Y5Q s'->Y2C->Q u s'):Y7p A (getAttr (Y3) f b) Q E s:=by
 obtain⟨⟨G,D,i,z,y,B,_⟩,_⟩:=Y70 a e;obtain⟨⟨j,nn,r,_⟩,_⟩:=Y70 d ed;obtain⟨od,m,x⟩:=BZ nn;obtain⟨u,p,g⟩:=Yfj (j f) (by rw[<-l];exact r f);exact UI (od:=some od) c I.kIn ⟨i,z,by unfold notCls;rw[B],by rw[y];exact m⟩ (findObj_own hh n rfl (by rw[x,p])) (PQ g) (h u _ (Y1H) g)
end
def OJ{x:V}{xs:An}{us:Ah}(r:Y3x (x::xs)):∃u ur,us=u::ur/\eI x u/\dO xs ur:=by cases r with | cons a b=>exact Y1C _ a b
def aAc(K:Frag)(ta:TE)(f:Str):TE:=YbP σ H (∃a C d fs v,x=Y3/\H1 a=some (BB a C (Y4U))/\H1 d=Yai d fs/\uG K C/\hasDictIn K C=true/\xD K C f/\YcM=Yi/\Q v H1)
structure FnI(P:Program)(w:World)(K:Frag)(mg:Y0a)(base:Heap)(k:Nat)(C:Addr)(ps:Ai)(sp:Sp):Prop where
 ex:∃f fd,dI P w K mg base cN k f fd ps sp/\MkX K C f/\wE K fd ps []
structure FG(K:Frag)(C:Addr):Prop where
 rd:readsIn K C (.type "type")=true
 fd:findCls K (Yz) (.type "type") "__init__" = some (.val (.builtin "ValueError.__init__"))
 ga:specialIn K (Yz) "__getattribute__" = Y4D "type.__getattribute__"
section
variable{X:Cx}{k:Nat}{f C:Addr}{fd:FuncData}{ps:Ai}{sp:Sp}{x g:Str}{p pos np apos pos':Pos}{e o value:Expr}{es:Y04}{t:TA}{ta tv:TE}
def WJ(he:Y4g e)(hb:YaW e g Y1y=Y1y:=by rfl):Yc (.Attribute e g pos) (aAc X.K ta g):=⟨by
 intro i s σ H Q I h;refine ZK hb (thn (he.p i s σ H _ I h) λu B ⟨x,H1,I1,y,a,C,d,fs,v,r,j,w,c,z,n,l,q⟩=>?_);subst r;obtain rfl:u=Y4B:=y;exact UG I1 j w c z n l λD A I2 m=>⟨v,H1,I2,m,q⟩⟩
end
end L2
namespace L2
open PySem PySem.W PySem.Spec PySem.Calls PyProof.Rows
def wR(K:Frag)(C:Addr):Bool:=Y4z K "__getattribute__" == Y4D "BaseException.__getattribute__"&&Y4z K "__getattr__" == Y1p&&subIn K (Yz) (.type "BaseException") == Y3Z &&
 (clsIn K C).isSome&&Y4z K "__class__" == Y4D "object.__class__"&&specialIn K (.builtin "object.__class__") "__get__" == Y4D "getset_descriptor.__get__" &&
 takesIn K (.builtin "object.__class__") == Y3Z&&mroIn K C (.type "object") == Y3Z
def wR.cls{K:Frag}{C:Addr}(h:wR K C=true):uG K C:=by
 unfold wR at h;simp only[cJ,jX]at h;obtain⟨⟨⟨⟨⟨⟨⟨a,b⟩,c⟩,d⟩,e⟩,f⟩,g⟩,i⟩:=h;exact⟨a,b,c,d,e,f,g,i⟩
def iJ(K:Frag)(C:Addr)(ns:Ai):Bool:=hasDictIn K C&&(clsIn K C).any (λcd=>qT cd.mro)&&Y4z K "__setattr__" == Y4D "object.__setattr__"&&mX K C xK "ValueError.__new__" &&
 ns.all λn=>Y4z K n == Y1p
def iJ.set{K:Frag}{C:Addr}{ns:Ai}(h:iJ K C ns=true):uF K C:=by
 unfold iJ at h;simp only[cJ,jX]at h;obtain⟨⟨⟨⟨a,b⟩,c⟩,d⟩,e⟩:=h;exact Y5d b c
def iJ.shape{K:Frag}{C:Addr}{ns:Ai}(h:iJ K C ns=true):mX K C xK "ValueError.__new__" = true:=by
 unfold iJ at h;simp only[cJ,jX]at h;exact h.1.2
def iJ.no{K:Frag}{C:Addr}{ns:Ai}(h:iJ K C ns=true){n:Str}(hn:n∈ns):xD K C n:=by
 unfold iJ at h;simp only[cJ,jX]at h;have:=List.all_eq_true.mp h.2 n hn;exact jX.mp this
def tE(K:Frag)(C:Addr):Bool:=readsIn K C (.type "type")&&specialIn K (Yz) "__getattribute__" == Y4D "type.__getattribute__" &&
 (match findCls K (.ref C) (.type "type") "__init__" with | some (.val (.builtin i))=>i == "ValueError.__init__" | _=>false)
def tE.base{K:Frag}{C:Addr}(h:tE K C=true):FG K C:=by
 unfold tE at h;simp only[cJ,jX]at h;obtain⟨⟨a,b⟩,c⟩:=h;refine Y5d ?_ b;split at c
 ·rename_i i e
  rw[e,jX.mp c]
 ·cases c
end L2
namespace L2
open PySem PySem.W PySem.Spec PySem.Calls PyProof.Rows Builtin Builtin.ObjectAttr
def lO(a C:Addr)(od:Y11):HO:=.ext λh=>∃oe vs,Y7U=some oe/\oe.cls=Yz/\oe.dict=od/\oe.data=Y8R/\ZV (Yz) vs/\vs[1]?=YfS
section
variable{P:Program}{w:World}{H:Hp}{h:Heap}{a C:Addr}{od:Y11}
def lO.ok(x:lC h a Yz od none):eU P w H h a (lO a C od):=by
 obtain⟨d,g,c,l,i,m,e,j⟩:=x;refine Y08 ⟨d,g,c,l,i,m,e,j⟩ ⟨d,c⟩;rintro n p ⟨d,g,c,l,i,m,e,j⟩ k;exact⟨d,g,k _ c,l,i,m,e,j⟩
def lO.exc(x:eU P w H h a (lO a C od)):lC h a Yz od none:=by
 obtain⟨⟨g,e,c,l,i,m,d,j⟩,_⟩:=x;exact⟨g,e,c,l,i,m,d,j⟩
end
section
variable{prog:Program}{w:World}{A:Around}{E:Y5}{s:Shared}{K:Frag}{x C:Addr}
def KJ{oe:Obj}{vs:Aj}{rest:Ah}{Q:Y5}(X:Y5l)(sh:mX K C xK "ValueError.__new__" = true)(he:Y1W x oe)(hc:oe.cls=Yz)(hd:oe.data=Y8R)(hz':ZV (Yz) vs)(hv:vs[1]?=YfS)(hr:Yec)
  (k:∀h',lC h' x Yz oe.dict none->(Y0I (b≠x) (Y32->Y0n=Y7))->Q .none { s with heap:=h' }) :
  Y0V (Y8B "ValueError.__init__" (Y2y::rest)):=by
 obtain⟨u,N,G,qn,bs,j,B,sub,O,p,I,J,y,z,L,D,i,TL⟩:=rD X sh;have F:=PySem.F.excBase_ValueError;have M:=hz'.sz;obtain⟨h,g,d,t,os⟩:=s;refine wpAny_call (codeAny_call_builtin F.init.plain F.initEntry (wpAny_check_init_subT F TL i he hc ?_));unfold Builtin.«BaseException.__init__»;dsimp only;refine wpAny_bind (wpAny_newTuple ?_ hr);dsimp only at he i k ⊢;have a:(h.push { cls:=Value.type "tuple",data:=Data.seq rest.toArray }).get? x=some oe:=Y0h he;have r:vs[0]?=some vs[0]:=Array.getElem?_eq_getElem Oo;unfold BaseException.bexcPut;refine Y8r (wpAny_field a hd r ?_);refine Ydo a hd Oo ?_;have l:=Yfp (·.setIfInBounds 0 (Value.ref h.objs.size));have c:Q .none { heap:=(h.push { cls:=Value.type "tuple",data:=Data.seq rest.toArray }).update x (Obj.mapFields (·.setIfInBounds 0 (Value.ref h.objs.size))),gens:=g,drawn:=d,toks:=t,os:=os }:=by
  refine k _ ⟨_,_,YaH _ a l,?_,?_,l,hz'.set Dd,?_⟩ λb o m e=>?_
  ·rw[Obj.cls_mapFields];exact hc
  ·obtain⟨_,_,n,_⟩:=oe;cases n <;> rfl
  ·show(vs.setIfInBounds 0 _)[1]?=YfS;rw[Array.getElem?_setIfInBounds_ne Dd];exact hv
  ·rw[YeK _ m];exact Y0h e
 split
 ·exact wpAny_letGo (wpAny_pure c)
 ·exact Ydr c
end
section
variable{X:Cx}{pins:Ae}{σ:St}{H:Hp}{s:Shared}{a C d:Addr}{fs:Y3k V}{f:Str}{v:V}{A:Around}{E:Y5}
def PX{y:V}{u:Value}{Q:Y46}(I:Y1)(e:H a=Y6N a C none)(c:uF X.K C)(n:xD X.K C f)(ry:Y4l)
  (h:∀d s',H d=none->d≠a->Y1Q (upd (Y1n (lO a C (Y4U))) d (KM d [(f,y)])) s'->Q () s'):Y7p A (setAttr (Y3) f u) Q E s:=by
 obtain⟨⟨R,P,j,p,J,r,M,L⟩,_⟩:=Y70 a e;refine SJ I.kIn c n j p r J λx i N m=>h s.heap.objs.size _ I.fresh (YfB j) ?_;have G:YdS a:=YfB j;have z:upd H a (lO a C (Yfg)) s.heap.objs.size=none:=by rw[cP G];exact I.fresh
 have l:Mut (H a):=by rw[e];exact True.intro
 have O:Y8d (Y1n (lO a C (Yfg))) x:=I.hok.write l (Y3T) m (Y0C i) (lO.ok (Y1Z _ _ i p r M L));have B:Y9d X.fs [] H (Y1n (lO a C (Yfg))) x:=Un.write l (Y3T) m (Y0C i);refine I.un (B.put (Yf2) z) (O.put z (KM.ok N (λg=>?_) λg D=>?_))
 ·show rV (List.lookup g [(f,y)]) _;by_cases q:g=f
  ·rw[Y43,q];simp only[List.lookup,beq_self_eq_true];exact ry
  ·rw[Y1u];have:Yq (g == f):=beq_eq_false_iff_ne.mpr q;simp only[List.lookup,this]
   trivial
 ·by_cases q:g=f
  ·subst q;simp
  ·exact absurd (Y1u) D
def PV{y:V}{u:Value}{Q:Y46}(I:Y1)(e:H a=Y6N a C Y4U)(ed:H d=Yai d fs)(c:uF X.K C)(n:xD X.K C f)(hl:fs.length<1000)(ry:Y4l)
  (h:∀s',Y1Q (Y3X d (KM d (xR f y fs))) s'->Q () s'):Y7p A (setAttr (Y3) f u) Q E s:=by
 obtain⟨⟨P,N,L,p,m,B,O,M⟩,_⟩:=Y70 a e;obtain⟨⟨i,nn,r,j⟩,_⟩:=Y70 d ed;refine SI I.kIn c n L p B m nn j (by rw[aB];exact Oo) λG O' J=>h _ ?_;have hd:∃o,G.get? d=Y7:=let ⟨o,_,_,e',_⟩:=O';⟨o,e'⟩;refine YdC d d (by rw[ed];exact True.intro) (λb q D z=>(J.2 b D).trans z) hd (KM.ok O' (λg=>?_) λg l=>?_)
 ·show rV ((xR f y fs).lookup g) (if g=f then Yv else i g);rw[xL];by_cases q:g=f
  ·rw[Y43,Y43];exact ry
  ·rw[Y1u,Y1u];exact r g
 ·by_cases q:g=f
  ·rw[q];exact(wQ f y fs).1
  ·refine(wQ f y fs).2 g (j g λz=>l ?_);show(if g=f then Yv else i g)=none;rw[Y1u];exact z
def cL.excMadeN{h':Heap}{args:Ah}(I:Y1)(x:Yct s.heap a Yz args):H a=none/\Y1Q (Y1n (lO a C none)) ({ s with heap:=h' }):=by
 have c:H a=none:=by
  cases z:H a with
  | none=>rfl
  | some u=>obtain⟨d,e⟩:=(I.hok a u z).get;rw[x.new]at e;cases e
 exact⟨c,I.un (t':=s.toks) ((Un.kept x.keeps).put x.new c) ((I.hok.kept x.keeps).put c (lO.ok (MadeExcOf.at x)))⟩
end
def aAP(K:Frag)(t:TA):TE:=Y3N (λvs H1=>∃a C od r,vs=Y3::r/\vs.length<=64/\H1 a=Y6N a C od/\mX K C xK "ValueError.__new__" = true/\Q .non H1)
def aDq(K:Frag)(ta tv:TE)(f:Str):TS:=λD σ H=>tv σ H λy H1=>ta σ H1 λx H2=>∃a C,x=Y3/\uF K C/\xD K C f /\
 ((H2 a=Y6N a C none/\∀d,H2 d=none->d≠a->Y7z (upd (upd H2 a (lO a C (Y4U))) d (KM d [(f,y)]))) \/
  ∃d fs,H2 a=Y6N a C Y4U/\H2 d=Yai d fs/\fs.length<1000/\Y7z (upd H2 d (KM d (xR f y fs))))
section
variable{X:Cx}{k:Nat}{f C:Addr}{fd:FuncData}{ps:Ai}{sp:Sp}{x g:Str}{p pos np apos pos':Pos}{e o value:Expr}{es:Y04}{t:TA}{ta tv:TE}
def RD{E0a:Addr}{pl:Sem Bool}(B:FG X.K E0a)(hm:Y4d=Y2 E0a)(ha:FK X (e::es) t)(hg:Y22:=by rfl)
  (hdb:Y19 ("__debug__" : Str):=by decide) (he:Y4m=(false,Y1y)::Y36:=by first | exact nG | exact mU | exact mO | exact gT | exact sE)
  (hpl:Yq ((backTo pos (starEach es X.env)).any (·.1)):=by repeat (first | exact oP | refine lN (by first | exact nG | exact mU | exact mO | exact gT | exact sE) ?_))
  (ht:eval (.Call (.Attribute (.Name x np) "__init__" apos) (e::es) [] pos) X.env=(do
   let ov <-eval (.Name x np) X.env
   standAt apos.atName
   let (f,first) <-holding [ov] (getMethod ov "__init__" pl)
   callWith pos f first (backTo pos (starEach (e::es) X.env)) (backToKw pos (keywordEach [] X.env))):=by rfl) :
  Yc (Ycs (YaM np) "__init__" apos (e::es) [] pos) (aAP X.K t):=⟨by
 intro c s σ H Q I h;refine PySem.W.methodCall_KW (pl:=pl) (vO I hg hm ?_ hdb) ht;refine method_cls I.kIn B.ga (cls_value I.kIn B.rd B.fd rfl ?_);have I0:Y1D c H ({ s with toks:=s.toks+1 }):=Y1H;have m:=ha.p pos c _ σ H _ I0 h;rw[he]at m ⊢;refine Calls.callWith_builtin (by show Yq (false || (backTo pos (starEach es X.env)).any (·.1));rw[hpl] <;> rfl) (Calls.evalArgs_plain (thn m λT g ⟨i,H1,I1,r,a,C,w,j,n,R,e,sh,q⟩=>?_));subst n;obtain⟨u,S,rfl,P,j⟩:=OJ r
 ·cases(show u=Value.ref a from P);obtain⟨⟨l,i,N,D,z,L,O,A⟩,_⟩:=I1.hok a _ e;refine KJ I1.kIn sh N D L O A (by rw[<-j.length];exact oX (aP (Nat.le_succ _) R)) λM d J=>?_;rw[z]at d;have I2:Y1D c (upd H1 a (lO a C w)) ({ g with heap:=M }):=I1.write (x:=a) (e:=a) (t':=g.toks) (by rw[e];exact True.intro) (Y3T) (λb o G q=>J b o G q) (let ⟨l,i,y,_⟩:=d;⟨l,y⟩) (lO.ok d);rw[RH e]at I2;exact Y2S V.non H1 I2 q⟩
def LE(ha:Y4g o)(hv:Yc value tv)(hs:Ybs value (.Attribute o g pos')=Y4C:=by rfl):FD X (Y6D [.Attribute o g pos'] value) (aDq X.K ta tv g):=⟨by
 intro e s σ H D I h;refine plainObj_wpAny_Assign_Attribute (thn (hv.p e s σ H _ I h) λu z ⟨y,H1,I1,m,q⟩=>thn (ha.p e z σ H1 _ I1 q) λr M ⟨x,H2,I2,L,a,C,A,c,n,i⟩=>?_) hs;subst A;obtain rfl:r=Y4B:=L;rcases i with⟨j,i⟩ | ⟨d,fs,j,B,l,i⟩
 ·exact PX I2 j c n m λd J w G I3=>⟨σ,_,I3,i d w G⟩
 ·exact PV I2 j B c n l m λJ I3=>⟨σ,_,I3,i⟩⟩
end
def del(H:Hp)(a:Addr):Hp:=λb=>if b=a then none else H b
def AS{H:Hp}{a:Addr}:del H a a=none:=Y12
def rE{H:Hp}{a b:Addr}(h:b≠a):del H a b=H b:=Y7T
theorem nC.del{P:Program}{w:World}{H:Hp}{h:Heap}{a:Addr}{F:Y4G}(x:Y2q)(e:H a=some (.ext F)):nC P w (del H a) h:=λb o q=>by
 by_cases hb:b=a
 ·subst hb;rw[AS]at q;cases q
 ·rw[rE hb]at q;refine(x b o q).stay (λc u _ r=>r) (λc r=>?_) λc d r=>?_
  ·rw[rE (λz=>by subst z;rw[e]at r;cases r)];exact r
  ·rw[rE (λz=>by subst z;rw[e]at r;cases r)];exact r
theorem Un.del{fs:Y0t}{H H1:Hp}{h h1:Heap}{a:Addr}{F:Y4G}(x:Un fs [] H H1 h h1)(e:H1 a=some (.ext F)):Un fs [] H (L2.del H1 a) h h1 where
 keep:=x.keep
 slot:=x.slot
 free:=λb d q n m=>by
  by_cases hb:b=a
  ·subst hb;exact AS
  ·rw[rE hb];exact x.free b d q n m
 there:=x.there
 tups:=λb c q=>by have r:=x.tups b c q;rw[rE (λz=>by subst z;rw[e]at r;cases r)];exact r
 frzs:=λb d c q=>by have r:=x.frzs b d c q;rw[rE (λz=>by subst z;rw[e]at r;cases r)];exact r
 tbls:=λb g q=>by
  obtain⟨m,r⟩:=x.tbls b g q;exact⟨m,by rw[rE (λz=>by subst z;rw[e]at r;cases r)];exact r⟩
structure KN(X:Cx)(Ex:St->XK):Prop where
 p:∀(pins:Ae) (σ:St) (H1 H2:Hp) (s1 s2:Shared) (a:Addr) (cls:Value) (od:Y11),Y1Q H1 s1->s2.os=s1.os->YfT->Un (Y7F) [] H1 H2 s1.heap s2.heap->Y8d H2 s2.heap ->
  lC s2.heap a cls od none->Y9Y a none->H2 a=none->Ex σ cls od H2->X.xe (Y3) s2
def jF{P:Program}{w:World}{K:Aa}{mg:Y0a}{base:Heap}{N:Ai}{qual:Str}{scope:Scope}{f:Addr}{cd:Value}{A:Around}{outer:Y1G}{s:Shared}{H:Hp}{E:XK} :
  KN (pK (BC P w) P w K mg base N qual scope f cd A outer s H E) (λ_=>E):=⟨λg σ H1 H2 n m a cls l I j c un e x h i q =>
 AH I j c un e x (Y3T) h i (λb d=>by cases d) (λb d=>by cases d) q⟩
section
variable{M:Model}{A:Around}{E:Y5}{env:Env}{K:Frag}{C:Addr}
def JM{s:Shared}{x:Y7N}{Q:Y26 Flow}(sh:mX K C xK "ValueError.__new__" = true)(hh:Y4H)
  (h:Y5I A x (λv s₁=>∃e od,v=Y35/\K.In s₁.heap/\lC s₁.heap e Yz od none/\E (Y35) s₁) E s) :
  Y5I A (raiseStmt env (Y8) none) Q E s:=by
 unfold raiseStmt;refine Y7q h (λv s₁ B=>?_) YdG;obtain⟨e,od,rfl,X,⟨y,J,l,p,u,hd,β,r⟩,m⟩:=B;obtain⟨j,N,P,qn,bs,n,L,sub,γ,z,R,U,G,I,W,O,i,TL⟩:=rD X sh;have a:j.contains (.type "BaseException")=true:=TL.hasType PySem.F.excBase_ValueError.hasBase;have c:(Value.ref C::j).contains (.type "BaseException")=true:=by rw[List.contains_cons,a,Bool.or_true]
 obtain⟨α,g,d,Z,δ⟩:=s₁;obtain⟨T,w,S,D⟩:=y;dsimp only at p u hd l i m;subst p hd
 repeat (first | with_reducible refine Yc8 l | with_reducible refine Yc8 i | (with_reducible refine wpAny_isSubtype_exc i ?_;rw[c]) | wp_step)
 rw[r];refine Y1F;rw[Y7M];exact wpAny_pure (wpAny_raiseNew_none hh m)
end
def WN(C:Addr)(sp:Sp)(Ex:St->XK)(t:TA):TS:=λ_ σ H=>t σ H λvs H1=>vs.length<=64/\∀a,H1 a=none ->
 sp (Y3::vs) (upd H1 a (lO a C none)) (λv H2=>v=.non/\∃od,H2 a=Y6N a C od/\Ex σ (Yz) od (del H2 a)) E0
section
variable{X:Cx}{k:Nat}{f C:Addr}{fd:FuncData}{ps:Ai}{sp:Sp}{Ex:St->XK}{x:Str}{pos np cpos:Pos}{e:Expr}{es:Y04}{t:TA}
def OS{pins:Ae}{σ:St}{H:Hp}{s:Shared}{us:Ah}{vs:An}(M:MkX X.K C f)(F:dI X.prog X.w X.K X.mg X.base cN k f fd ps sp)(hr:Y5E (k+1))(hb:wE X.K fd ps [])(hx:KN X Ex)
  (I:Y1) (r:Y8k) (hz:vs.length<=64)
  (h:∀a,H a=none->sp (Y3::vs) (Y1n (lO a C none)) (λv H2=>v=.non/\∃od,H2 a=Y6N a C od/\Ex σ (Yz) od (del H2 a)) E0) :
  Y4c (call (Yz) us) (λv s₁=>∃e od,v=Y35/\X.K.In s₁.heap/\lC s₁.heap e Yz od none/\X.xe (Y35) s₁):=by
 refine TU M I.kIn (λN a x=>?_) (by rw[<-r.length];exact oX hz);obtain⟨n,I2⟩:=I.excMadeN x;have z:=h a n;have m:dO (V.ref a::vs) (Y4B::us):=.cons rfl r;have G:(Y4B::us++[]).length=ps.length:=by
  have e:=m.length;rw[F.len _ _ _ _ z]at e;rw[List.append_nil];exact e.symm
 have i:=hb _ (Y4B::us) I2.kIn G;rw[List.append_nil]at i;refine Yfa (F.run _ X.stack _ _ ⟨Y4B::us,[]⟩ (Y4B::us) _ _ E0 (hr.make C us []) (I2.env0.make C us []) i m z) (λr y c=>?_);cases r with
 | error e=>exact Y9M
 | ok fl =>
  cases fl with
  | ret u =>
   have D:=c;obtain⟨v,H',L,g,un,d,rv,B,od,j,J⟩:=c;subst B;obtain⟨_,_,I3,_,_⟩:=I2.after D;have l:Y9d Y7F [] H H' y.heap:=((Un.kept x.keeps).put x.new n).tr un λb hb=>.inl hb;exact Y2T rv a od I3.kIn (lO.exc (d a _ j)) (hx.p pins σ H (del H' a) s y a _ od I L g (l.del j) (d.del j) (lO.exc (d a _ j)) x.new AS J)
  | next=>exact Y9M
  | brk=>exact Y9M
  | cont=>exact Y9M
def jG(F:FnI X.prog X.w X.K X.mg X.base k C ps sp)(hm:Y4d=Y2 C)(hc:Y1J)(hr:Y5E (k+1))(hx:KN X Ex)(ha:FK X (e::es) t)(hg:Y22:=by rfl)
  (hdb:Y19 ("__debug__" : Str):=by decide) (he:Y4m=(false,Y1y)::Y36:=by first | exact nG | exact mU | exact zV | exact mO | exact gT | exact sE)
  (hpl:Yq ((backTo cpos (starEach es X.env)).any (·.1)):=by repeat (first | exact oP | refine lN (by first | exact nG | exact mU | exact zV | exact mO | exact gT | exact sE) ?_)) :
  FD X (.Raise (some (YbW x np (e::es) [] cpos)) none pos) (WN C sp Ex t):=⟨by
 obtain⟨f,m,g,d,j⟩:=F.ex;intro a s σ H D I h;rw[arm_exec_Raise];refine YaO ?_;show Y0W (raiseStmt X.env (some (do let v <-eval (.Call (.Name x np) (e::es) [] cpos) X.env;standAt pos;pure v)) none);refine JM d.shape (Y8Q) (wpAny_bind (wpAny_mono (Q:=λv c=>∃e od,v=Y35/\X.K.In c.heap/\lC c.heap e Yz od none/\X.xe (Y35) c) ?_ (λv c i=>YaO (wpAny_pure i)) YdG));refine YfD I hg hm ?_ hdb;refine Yf1 X.base d.kp (thn (ha.p cpos a s σ H _ I h) λy n ⟨u,H1,I1,r,l,q⟩=>Y0b I1.kIn) he hpl;exact OS d g hr j hx I1 r l q⟩
end
end L2
namespace L2
open PySem PySem.Spec PySem.W PyProof.Rows HT
@[irreducible] def MJ(K:Aa):Y1o:=λxs H Q=>∃a ys,xs=[Y3,.ty "tuple"]/\fY K H a ys/\YaL H
def MB{K:Aa}{H:Hp}{Q:VK}{a:Addr}{ys:An}(h:fY K H a ys)(q:YaL H):MJ K [Y3,.ty "tuple"] H Q:=by unfold MJ;exact Y1d a ys h q
def yQ{X:Cx}(K:Aa)(hK:X.K=K:=by rfl):Y3W X "isinstance" (MJ K):=by
 subst hK;unfold MJ;intro c s σ H n p Q I r h;obtain⟨a,w,rfl,l,q⟩:=h;obtain⟨u,m,rfl,j,e⟩:=RF r;cases(show m=Value.type "tuple" from e);cases(show u=Value.ref a from j);obtain⟨d,_,⟨o,g,i,_⟩,_⟩:=I.tuple l;exact kia_one kitx_tuple I.kIn (Y0U g i) (aAn _ (.tuple []) "tuple" Dd) (λz=>nomatch z) λx=>Y4V _ H Y1H q
section
variable{K:Aa}{H:Hp}{x:V}{d:PyData}{Q:VK}
end
section
variable{σ:St}{js:Af}{te:TE}{H:Hp}{Q:VK}
end
end L2
namespace L2
open PySem PySem.W PySem.Spec PySem.Calls PyProof.Rows
section
variable{X:Cx}
@[irreducible] def XL:Y1o:=λxs H Q=>∃(p:Addr) (bs:Y8V),xs=Y5N/\H p=Y05 Y9S/\Y1s (bs.all id)
def rall{p:Addr}{bs:Y8V}{H:Hp}{Q:VK}(e:H p=Y05 Y9S)(q:Y1s (bs.all id)):XL Y5N H Q:=by unfold XL;exact Y1d p bs e q
def VE{bs:Y8V}:∀{us:Ah},Y3x Y9S->LSm.BoolsAre us bs:=by
 induction bs with
 | nil=>intro us r;cases r;exact .nil
 | cons b bs ih =>
  intro us r;cases r with
  | cons r t=>cases(show _=Value.bool b from r);exact .cons b (ih t)
def AW(hc:Y1J):Y3W X "all" XL:=by
 unfold XL;intro l s σ H y C Q I r h;obtain⟨p,bs,rfl,e,q⟩:=h;obtain⟨_,rfl,x⟩:=lS r;cases x;obtain⟨z,a,n,rv,D,j⟩:=I.lstM e;have d:s.heap.IsList p a.toArray:=Y1C j n rfl;have g:=VE rv;have c:Y4v p:=aY j;refine call_all_walk (wpAny_pyIter_list d ?_);refine⟨s.heap.objs.size,[s.heap.objs.size,p],[s.heap.objs.size],a.toArray.size,_,_,λi=>(bs[i]?).getD true,rfl,Walks.list (A:=X.A.in1) (Y8Q) _ p (cK c) a.toArray,
  ⟨Y89 _,d.push _⟩,λi v G Q' E' w m=>?_,λB J u=>?_⟩
 ·obtain⟨b,e,rfl⟩:=g.get i v (by simpa using w);simp only[e,Option.getD_some]at m;exact wpAny_truthy_bool m
 ·have e:((List.range a.toArray.size).all λi=>(bs[i]?).getD true)=bs.all id:=by
   rw[bE,g.length];exact LSm.range_all bs
  rw[e];exact Y4V _ H (I.kept (LSm.kept_iter u)) q
end
end L2
namespace L2
open PySem PySem.Spec PyProof.Rows
def qB.ext{b:Bool}{h h':Heap}{i l c:Addr}{k:Nat}(x:qB b h i l k)(s:Heap.ExtBut c h h')(n:i≠c):qB b h' i l k:=x.at λo e=>s i o n e
section
variable{prog:Program}{w:World}{A:Around}{E:Y5}{s:Shared}
def KD{b:Bool}{e it l:Addr}{i:Nat}{n:Int}{items:Aj}{x old:Value}{Q:Y5}(he:Y94 s.heap e it n)(hit:qB b s.heap it l i)(hl:Y1U b l items)(hx:items[i]?=Y8)(hne:e≠it)
  (hQ:∀h' t,IsEnumOut h' e it (n+1) x s.heap.objs.size->qB b h' it l (i+1)->Yfv (some { cls:=.type "tuple",data:=.seq #[.int n t,x] })->(∀c o,c≠e->c≠it->Y4j->Y3A c)->YaQ ({ s with heap:=h',toks:=s.toks+1 })) :
  wpAny (model prog w) A (Builtin.«enumerate.__next__» ⟨[Y35],[]⟩) (λfin s'=>∃v,fin=YcI v/\Q v s') E s:=by
 obtain⟨J,g,d,p,L⟩:=s;show Y0W (Y5j e 2 >>= _);refine Y6x he Y4K;refine YeI hit hl hx (λI G m=>?_);replace m:Heap.SameBut it J I:=m;have D:Y94 I e it n:=(m.2 e hne).trans he;show Y4A (Y5j e 3 >>= _) ⟨I,g,d,p,L⟩;refine Y6x D (rawInt n);show Y4A (Y5j e 4 >>= _) ⟨I,g,d,p,L⟩;refine Y6x D .none;show Y4A (mkInt n >>= _) ⟨I,g,d,p,L⟩;refine wpAny_bind (wpAny_mkInt ?_);show Y4A (setField (Y35) 3 (rawInt (n+1)) >>= _) ⟨I,g,d,p+1,L⟩;refine Y9o D (by simp) (λU B h=>?_);replace h:Yba I U:=h;replace B:Y94 U e it (n+1):=B;show Y4A (setField (Y35) 4 .none >>= _) ⟨U,g,d,p+1,L⟩;refine Y9o B (by simp) (λT z j=>?_);replace j:Yba U T:=j;replace z:Y94 T e it (n+1):=z;show Y4A (newTuple [.int n p,x] >>= _) ⟨T,g,d,p+1,L⟩;refine wpAny_bind (wpAny_newTuple ?_);have C:Y94 (T.push { cls:=.type "tuple",data:=.seq #[.int n p,x] }) e it (n+1):=Y0h z;generalize hh₄:T.push { cls:=.type "tuple",data:=.seq #[.int n p,x] }=X at C;have S:T.objs.size=J.objs.size:=by rw[j.1,h.1,m.1]
 have M:e<J.objs.size:=aY he;have δ:X.get? J.objs.size=some { cls:=.type "tuple",data:=.seq #[.int n p,x] }:=by rw[<-hh₄,<-S];exact Y17
 have γ:∀c o,c≠e->c≠it->J.get? c=Y7->X.get? c=Y7:=λc o a P β=>by rw[<-hh₄];exact Y0h (j.extBut c o a (h.extBut c o a (m.extBut c o P β)))
 have W:qB b X it l (i+1):=by rw[<-hh₄];exact((G.ext h.extBut (Ne.symm hne)).ext j.extBut (Ne.symm hne)).at λo ζ=>Y0h ζ
 show Y4A (YeX e >>= _) ⟨X,g,d,p+1,L⟩;rw[S];clear hh₄ z j B h D m G S T U I;refine Y3V;unfold Builtin.SmallTypes.ownedTupleIsFree;refine wpAny_bind (wpAny_field C rfl (x:=.none) rfl Y1F);simp only[if_true];refine Y9t ?_;refine Y6x C old;refine Y9o C (by simp) (λZ N u=>?_);replace u:Yba X Z:=u;replace N:IsEnum Z e it (n+1) x:=N;show Y4A (Builtin.SmallTypes.ownedTupleHandOut (Y35) (.ref J.objs.size) >>= _) ⟨Z,g,d,p+1,L⟩;refine Y3V;unfold Builtin.SmallTypes.ownedTupleHandOut;refine Y9o N (by simp) (λα R r=>?_);replace r:Yba Z α:=r;replace R:IsEnumOut α e it (n+1) x J.objs.size:=R;refine wpAny_setField_rec R (by simp) λε O y=>?_;replace y:Yba α ε:=y;replace O:IsEnumOut ε e it (n+1) x J.objs.size:=O;refine Ydp (wpAny_pure (Y6 (hQ ε p O ?_ ?_ ?_)))
 ·exact((W.ext u.extBut (Ne.symm hne)).ext r.extBut (Ne.symm hne)).ext y.extBut (Ne.symm hne)
 ·exact y.extBut _ _ (YfY) (r.extBut _ _ (YfY) (u.extBut _ _ (YfY) δ))
 ·exact λc o a P β=>y.extBut c o a (r.extBut c o a (u.extBut c o a (γ c o a P β)))
def KC{b:Bool}{e it l:Addr}{i:Nat}{n:Int}{items:Aj}{x old:Value}{Q:YaD}(he:Y94 s.heap e it n)(hit:qB b s.heap it l i)(hl:Y1U b l items)(hx:items[i]?=Y8)(hne:e≠it)
  (hQ:∀h' t,IsEnumOut h' e it (n+1) x s.heap.objs.size->qB b h' it l (i+1)->Yfv (some { cls:=.type "tuple",data:=.seq #[.int n t,x] })->(∀c o,c≠e->c≠it->Y4j->Y3A c)->Q (Y2 s.heap.objs.size) { s with heap:=h',toks:=s.toks+1 }) :
  YbA e:=by
 have d:Y8C e "enumerate" := Y0m he;unfold pyNext;refine Y9p (Y8E "__next__" d F.slot_enumerate_next F.slot_enumerate_next d F.entry_enumerate_next ?_ (F.args_enumerate_next_1 _));exact KD he hit hl hx hne λh' t a b c k=>wpAny_pure (hQ h' t a b c k)
def KB{b:Bool}{e it l:Addr}{i:Nat}{n:Int}{items:Aj}{old:Value}{Q:YaD}(hh:Y4H)(he:Y94 s.heap e it n)(hit:qB b s.heap it l i)(hl:Y1U b l items)(hx:items[i]?=none)
  (hQ:∀h',Ye3 it h'->Q none { s with heap:=h' }):YbA e:=by
 have d:Y8C e "enumerate" := Y0m he;unfold pyNext;refine Y9p (Y8E "__next__" d F.slot_enumerate_next F.slot_enumerate_next d F.entry_enumerate_next ?_ (F.args_enumerate_next_1 _));show Y0W (Y5j e 2 >>= _);refine Y6x he Y4K;refine wpAny_bind (JT hh hit hl hx λh' x c a=>?_);obtain⟨o,g,h⟩:=a;refine wpAny_bind (YeY "StopIteration" true (Y0U g h) ?_);exact wpAny_pure (hQ _ c)
abbrev enO(it:Addr)(n:Int):Obj:={ cls:=.type "enumerate",data:=.fields #[.none,.bool false,.ref it,rawInt n,.none,.none] }
def aCt(b:Bool)(l:Addr)(xs:Aj):Yb8 (Builtin.«enumerate.__new__» ⟨[.type "enumerate",Y1k],[]⟩) (Y1U b l xs/\R (Yc1 (.ref (YfZ b l).objs.size)) ({ s with heap:=(s.heap.push (VW b l)).push (enO s.heap.objs.size 0) })) :=
 .of_wp λi w A R s h=>by
  obtain⟨j,g,d,m,p⟩:=s;obtain⟨n,h⟩:=h;have e:=sub_enumerate;have a:mI b (Shared.heap ⟨j,g,d,m,p⟩) l xs:=n
  wp_walk
  refine wpAny_stack_any λr=>Y1F;split
  ·rename_i c _ _ _ _ _
   cases(c == Value.type "enumerate") <;> (wp_walk using MY a) <;> exact Y6 h
  ·wp_walk using MY a
   exact Y6 h
end
section
variable{prog:Program}{w:World}{A:Around}{E:Y5}{s:Shared}
structure EAt(b:Bool)(e it l:Addr)(n:Int)(k:Nat)(h:Heap):Prop where
 e:∃old,Y94 h e it (n+k)
 i:qB b h it l k
def aD0{b:Bool}{l:Addr}{xs:Aj}{Q:Y5}(hl:Y1U b l xs)
  (h:∀h',EAt b (Y2h 1) s.heap.objs.size l 0 0 h'->(∀c o,Y4j->Y3A c)->Y10 (Y2h 1) ({ s with heap:=h' })) :
  Y0V (call (.type "enumerate") [Y1k]):=by
 refine callType_new F.called_enumerate Dd (F.typeCall_enumerate_1 _) (F.newCall_enumerate_1 _) (λd=>F.args_object_init_2 d _) F.entry_enumerate_new (aCt b l xs) (Y0b hl);have g:(YfZ b l).objs.size=Y2h 1:=mJ ..;have a:((s.heap.push (VW b l)).push (enO s.heap.objs.size 0)).get? (YfZ b l).objs.size=some _:=Y17;have e:((s.heap.push (VW b l)).push (enO s.heap.objs.size 0)).get? s.heap.objs.size=some _:=Y0h Y17;show _/\_;rw[g]at a ⊢;exact⟨Y0m a,h _ ⟨Y0C a,Y6A _ e rfl⟩ λc o x=>Y66 x⟩
end
def Ite(b:Bool)(l:Addr)(n:Int):It :=
  ⟨Yez (H l=Y52 b/\Y0Y=Y8),
   λi H v H'=>∃q x,v=.ref q/\H q=none/\H'=Y8T q [.int (n+(i:Nat)),x]/\∀xs,H l=Y52 b->Y0Y=Y8,
   λi H=>∃xs,H l=Y52 b/\Y5Z i⟩
def OM{P:Program}{w:World}{K:Aa}{elts:Y04}{x1}{tp:Pos}{b:Bool}{e it l:Addr}{n:Int}(hne:e≠it):IJ P w K (Ya2 x1 tp) (Ite b l n) [e,it] e (λi h=>EAt b e it l n i h) where
 mem:=by simp
 obj:=λi h d c a=>by
  obtain⟨j,p⟩:=d.e;obtain⟨ρ,B,_,ζ⟩:=d.i;simp only[bD,List.not_mem_nil,or_false]at a;rcases a with rfl | rfl
  ·exact Yaw p (by cases q)
  ·exact Yaw B (by rw[ζ]at q;cases q)
 keep:=λi h G d k=>by
  obtain⟨j,p⟩:=d.e;exact⟨⟨j,k _ (by simp) _ p⟩,d.i.at λo e=>k _ (by simp) o e⟩
 item:=by
  intro X L N D α i m s σ H E I y d A;subst L N D;obtain⟨ε,x,p,Z⟩:=A;obtain⟨u1,S,C⟩:=I.sq p;obtain⟨β,R,ο⟩:=S.get Z;obtain⟨j,u⟩:=d.e;refine KC u d.i C (x:=β) (by simpa using R) hne λG t ι M γ θ=>Y6 (wpAny_letOwnedTupleGo_enum ι λO z g=>?_);have g:Yba G O:=g;have δ:∀c o,c ∉ [e,it]->Y4j->O.get? c=Y7:=λc o a J=>by
   simp only[bD,List.not_mem_nil,or_false,not_or]at a;exact g.extBut c o a.1 (θ c o a.1 a.2 J)
  have I1:Y1D m H ({ s with heap:=O,toks:=s.toks+1 }):=I.turnedL (t':=s.toks+1) δ y;have fq:qD X m H s.heap.objs.size:=I.fpOk (Yn) (Y4u _);have ξ:Ydj=none:=by
   cases q:Ydj with
   | none=>rfl
   | some o=>exact absurd (aS (aY q) I.sz) (cY _)
  have T:YdS e:=λq=>absurd (aY u) (by rw[<-q];exact cY _);have η:YdS it:=λq=>by obtain⟨ρ,B,_⟩:=d.i;exact absurd (aY B) (by rw[<-q];exact cY _)
  have r:n+((i+1:Nat):Int)=n+(i:Nat)+1:=Oo;refine⟨Y24,Yc9 (.tup [.int (n+(i:Nat)),x]),I1.put fq ξ ⟨⟨oX (by show 2<=64;decide),_,g.extBut _ _ T γ,rfl⟩,[Y7b (n+(i:Nat)),β],.cons ⟨t,rfl⟩ (Ya6 ο),Y1C (g.extBut _ _ T γ) _ rfl⟩,rfl,⟨_,x,rfl,fq.1,rfl,λκ U=>?_⟩,
   ⟨Y0C (by rw[r];exact z),M.ext g.extBut (Ne.symm hne)⟩,λc a=>?_⟩
  ·rw[p]at U;rw[<-xZ.inj U];exact Z
  ·have μ:YaU c:=λq=>by
    simp only[bD,List.not_mem_nil,or_false]at a;rcases a with rfl | rfl
    ·exact T q.symm
    ·exact η q.symm
   rw[cP μ];exact(y c a).1
 done:=by
  intro X L N D α i m s σ H E I y d A;subst L N D;obtain⟨ε,p,υ⟩:=A;obtain⟨u1,S,C⟩:=I.sq p;have τ:=S.length;obtain⟨j,u⟩:=d.e;refine KB (I.ok.hd α) u d.i C (by simp;exact Oo) λG ν=>Y1b (Yfo (λc o a J=>?_) y);simp only[bD,List.not_mem_nil,or_false,not_or]at a;exact ν c o a.2 J
 self:=λ_ _ _ _ _ d h=>by
  obtain⟨j,u⟩:=d.e;exact wpAny_pyIter_enum u h
def aDR(b:Bool)(n:Int)(ta:TA):TI:=λσ H R=>ta σ H λvs H1=>∃l xs,vs=[Y1k]/\H1 l=Y52 b/\R (Ite b l n) H1
def QK:YbZ "enumerate"=Ycj "enumerate":=Kk
section
variable{X:Cx}
def SU{pins:Ae}{σ:St}{tg:Expr}{elts:Y04}{x1}{tp:Pos}{b:Bool}{l:Addr}{n:Int}{H1:Hp}{s1:Shared}{R:Y1M It}{h':Heap}(I1:Y1Q H1 s1)(Z:EAt b (YfN 1) s1.heap.objs.size l n 0 h')(kk:∀c o,Y9Y c Y7->Y3A c)(q:R (Ite b l n) H1) :
  Y9q (pyIter (.ref (YfN 1))) (PIE X pins σ (Ya2 x1 tp) R) ({ s1 with heap:=h' }):=by
 obtain⟨i,g⟩:=Z.e;refine wpAny_pyIter_enum g ⟨_,[YfN 1,s1.heap.objs.size],_,_,H1,rfl,I1.kept (t':=s1.toks) kk,OM (Y6v (show(s1.heap.objs.size+1:Nat)=s1.heap.objs.size from h)),Z,λc d=>?_,q⟩;have a:s1.heap.objs.size<=c:=by
  simp only[bD,List.not_mem_nil,or_false]at d;rcases d with rfl | rfl
  ·exact Yci _
  ·exact Yn
 exact YaP a a
def WE(b:Bool){a:Expr}{ta:TA}{p pos tp:Pos}{elts:Y04}{x1}(hg:Gl X "enumerate")(hm:X.mg "enumerate" = none)(ha:FK X [a] ta)(hs:Y3P a=[(false,Y0d a)]:=by first | exact nG | exact mO | exact gT | rfl) :
  KW X (Ya2 x1 tp) (Y64 "enumerate" p [a] []) (aDR b 0 ta):=⟨by
 intro c s σ H R I h;refine Call_ (qY I hg hm QK (YaJ (ha.p pos c s σ H _ I h) (λz w ⟨x,H1,I1,n,j⟩=>?_) (by rw[hs];rfl) (by rfl)));obtain⟨l,r,e,m,q⟩:=j;subst e;obtain⟨u,rfl,i⟩:=lS n;cases i;obtain⟨u1,_,g⟩:=I1.sq m;exact aD0 g λy Z d=>SU (tg:=Ya2 x1 tp) I1 Z d q⟩
def UF{b:Bool}{l:Addr}{n:Int}{xs:An}{g:TG}{tb:TS}{D:oR}{σ:St}{H:Hp}(Pv:Nat->Y1w)(h0:Y6L 0)(hl:∀i σ H,Y2M->H l=Y52 b)
  (hs:∀i x q σ H H',Y0Y=Y8->Y2M->H q=none->H' q=Ym [.int (n+(i:Nat)),x]->Y0->g (.ref q) σ H' (Y54 ({ D with nx:=Pv (i+1),ct:=Pv (i+1),bk:=D.nx }))) (hd:∀σ H,Yet->Y3H) :
  ∃W:Nat->Nat->St->Hp->Prop,(Y7c 0 m σ H)/\∀i m σ H,W i m σ H ->
   ((Ite b l n).stop i H/\Y3H)\/((Ite b l n).go i H/\∃N:St->Hp->Prop,Yac (N σ' H'->∃m',m' < m/\W (i+1) m' σ' H') ((Ite b l n).yld i H x H'->g x σ H' (Y54 ({ D with nx:=N,ct:=N,bk:=D.nx })))):=by
 refine Ybe (m=Y4F i/\Y60 i/\Y2M) (Y1L _ (dH _) h0);rintro i m σ H ⟨rfl,r,p⟩;have a:=hl i σ H p;by_cases hlt:Y41 i
 ·have d:Y0Y=some xs[i]:=aD hlt;refine .inr ⟨⟨xs,_,a,d⟩,Pv (i+1),λσ' H' h=>Y1C Oo hlt h,λv H' y=>?_⟩;obtain⟨q,x,rfl,c,rfl,j⟩:=y;exact hs i x q σ H _ (j xs a) p c bK (aX.upd c)
 ·have e:Y68 i:=Oo;subst e;exact Y3p ⟨xs,a,Yn⟩ (hd σ H p)
end
end L2
namespace L2
open PySem PySem.W PySem.Spec PySem.Calls PyProof.Rows
section
variable{X:Cx}
@[irreducible] def XJ:Y1o:=λxs H Q=>∃(p:Addr) (bs:Y8V),xs=Y5N/\H p=Y05 Y9S/\Y1s Yde
def rany{p:Addr}{bs:Y8V}{H:Hp}{Q:VK}(e:H p=Y05 Y9S)(q:Y1s Yde):XJ Y5N H Q:=by unfold XJ;exact Y1d p bs e q
def VF{bs:Y8V}:∀{us:Ah},Y3x Y9S->LSm.BoolsAre us bs:=by
 induction bs with
 | nil=>intro us r;cases r;exact .nil
 | cons b bs ih =>
  intro us r;cases r with
  | cons r t=>cases(show _=Value.bool b from r);exact .cons b (ih t)
def JL(bs:Y8V):((List.range bs.length).any λi=>(bs[i]?).getD false)=Yde:=by
 apply Bool.eq_iff_iff.mpr;rw[List.any_eq_true,List.any_eq_true];constructor
 ·rintro⟨i,c,h⟩;have a:=cB.mp c;rw[aD a]at h;exact⟨bs[i],List.getElem_mem a,h⟩
 ·rintro⟨b,d,h⟩;obtain⟨i,c,rfl⟩:=List.getElem_of_mem d;exact⟨i,cB.mpr c,by rw[aD c];exact h⟩
def aCN(hc:Y1J):Y3W X "any" XJ:=by
 unfold XJ;intro l s σ H y C Q I r h;obtain⟨p,bs,rfl,e,q⟩:=h;obtain⟨_,rfl,x⟩:=lS r;cases x;obtain⟨z,a,n,rv,D,j⟩:=I.lstM e;have d:s.heap.IsList p a.toArray:=Y1C j n rfl;have g:=VF rv;have c:Y4v p:=aY j;refine call_any_walk (wpAny_pyIter_list d ?_);refine⟨s.heap.objs.size,[s.heap.objs.size,p],[s.heap.objs.size],a.toArray.size,_,_,λi=>(bs[i]?).getD false,rfl,Walks.list (A:=X.A.in1) (Y8Q) _ p (cK c) a.toArray,
  ⟨Y89 _,d.push _⟩,λi v G Q' E' w m=>?_,λB J u=>?_⟩
 ·obtain⟨b,e,rfl⟩:=g.get i v (by simpa using w);simp only[e,Option.getD_some]at m;exact wpAny_truthy_bool m
 ·have e:((List.range a.toArray.size).any λi=>(bs[i]?).getD false)=Yde:=by
   rw[bE,g.length];exact JL bs
  rw[e];exact Y4V _ H (I.kept (LSm.kept_iter u)) q
end
end L2
namespace HT
open PySem PySem.Spec PySem.W PyProof.Rows
section
variable{prog:Program}{w:World}{K:Type}[DecidableEq K]{knd:HeapKind prog w K}{A:Around}{E:Y5}{s:Shared}
end
end HT
namespace L2
open PySem PySem.Spec PySem.W PyProof.Rows HT
section
variable{X:Cx}
end
section
variable{X:Cx}{tg:Expr}
end
section
variable{σ:St}{js:Af}{te:TE}{H:Hp}{Q:VK}
end
section
variable{X:Cx}
end
end L2
namespace L2
open PySem PySem.Spec PyProof.Rows
section
variable{X:Cx}{x:Str}{np hpos pos:Pos}{b₀:Stmt}{body suite:Y3r}{C2:Addr}{tb:(St->XK)->TS}{th:TS}
end
end L2
namespace L2
open PySem PySem.W PySem.Spec PySem.Calls PyProof.Rows Builtin Builtin.ObjectAttr
section
variable{prog:Program}{w:World}{M:Model}{A:Around}{E:Y5}{s:Shared}{env:Env}{outer:Y1G}{base:Heap}{L a:Addr}{cls:Value}{od:Y11}
end
section
variable{M:Model}{A:Around}{E:Y5}{s:Shared}{env:Env}{L a:Addr}{cls:Value}{od:Y11}
end
section
variable{X:Cx}{k:Nat}{f C:Addr}{fd:FuncData}{ps:Ai}{sp:Sp}{x:Str}
end
section
variable{X:Cx}{k:Nat}{C C2:Addr}{ps:Ai}{sp:Sp}{x y:Str}{np np2 cpos rpos qpos hpos pos:Pos}{j:Nat}{e:Expr}{es:Y04}{body:Y3r}{t:TA}{tb:(St->XK)->TS}{Ex':St->XK}
end
end L2
abbrev a00:Y02:=["_law_one","_law_other"]
abbrev a01:Y02:=["_law_feed_here","_law_many"]
abbrev a02:Y02:=["one","other"]
abbrev a03:Y02:=["_law_trial_here","_law_aim_here","_law_prices","_law_known","_law_counts_here"]
abbrev a04:Y02:=["thing","many"]
abbrev a05:Y02:=["_law_feed_here","_law_trial_here","_law_aim_here","_law_prices","_law_least"]
abbrev a06:Y02:=["_law_feed_here","_law_trial_here","_law_aim_here","_law_thing"]
abbrev a07:Y02:=["_law_counts_here","_law_face"]
abbrev a08:Y02:=["_law_n","_law_d"]
abbrev a09:Y02:=["_law_feed_here","_law_faces","_law_ways","_law_most","_law_plain"]
abbrev a15:Y02:=["_law_trial_here","_law_way","_law_counts_here"]
abbrev a16:Y02:=["_law_feed_here","_law_trial_here","_law_aim_here","_law_looks"]
abbrev a18:Y02:=["faces","ways","thing"]
abbrev a19:Y02:=["_law_trial_here","_law_aim_here","_law_thing"]
abbrev a20:Y02:=["a","ab","b","abc","faced","ways","z","bb"]
abbrev a21:Y02:=["_law_feed_here","_law_ways","_law_last","_law_plain"]
abbrev a22:Y02:=["trial","aim","thing"]
abbrev a23:Y02:=["self","word","at"]
abbrev a24:Y02:=["_law_trial_here","_law_aim_here","_law_rule_here"]
abbrev a25:Y02:=["_law_feed_here","_law_trial_here","_law_aim_here"]
abbrev a26:Y02:=["trial","rule","way"]
abbrev a27:Y02:=["faces","thing"]
abbrev a28:Y02:=["trial","aim","thing","word","many"]
abbrev a29:Y02:=["_law_trial_here","_law_aim_here","_law_prices"]
abbrev a30:Y02:=["thing"]
abbrev a31:Y02:=["trial","aim","prices","counts","worth_of"]
abbrev a32:Y02:=["_law_feed_here","_law_faces","_law_ways"]
abbrev a34:Y02:=["_law_feed_here","_law_ways","_law_most"]
abbrev a35:Y02:=["number","above_nought"]
abbrev a36:Y02:=["trial","rule","way","costs"]
abbrev a37:Y02:=["trial"]
abbrev a38:Y02:=["_law_feed_here"]
abbrev a39:Y02:=["_law_thing","_law_worth"]
abbrev a40:Y02:=["_law_script"]
abbrev a41:Y02:=["_law_faces","_law_most"]
abbrev a42:Y02:=["trial","aim","prices","worths"]
abbrev a43:Y02:=["trial","way","counts"]
abbrev a44:Y02:=["faces","many"]
abbrev a45:Y02:=["counts","says","share"]
abbrev a46:Y02:=["_law_some_here"]
abbrev a47:Y02:=["counts","face"]
abbrev a48:Y02:=["trial","thing"]
abbrev a49:Y02:=["trial","rule","aim"]
abbrev a50:Y02:=["trial","aim","rule"]
abbrev a51:Y02:=["aim","prices"]
abbrev a52:Y02:=["ways","thing"]
namespace Kw
open PySem L2 Mf
def top(i:Nat):Stmt:=PySem.Challenge.pw_earlystop_k51_other_right_papers.main.body.getD i (.Pass ⟨0,0,0,0⟩)
structure Cl where
 EarlyError:Addr
 NoPaper:Addr
 ONE:Addr
 NOUGHT:Addr
 tok_LOOKS_ON:Tok
structure iR(K:Aa)(mg:Y0a)(c:Cl):Prop where
 b_list:mg "list" = none
 b_len:mg "len" = none
 b_abs:mg "abs" = none
 b_range:mg "range" = none
 b_sum:mg "sum" = none
 b_zip:mg "zip" = none
 b_reversed:mg "reversed" = none
 b_tuple:mg "tuple" = none
 b_isinstance:mg "isinstance" = none
 b_bool:mg "bool" = none
 b_all:mg "all" = none
 b_any:mg "any" = none
 b_dict:mg "dict" = none
 b_enumerate:mg "enumerate" = none
 b_ValueError:mg "ValueError" = none
 b_sorted:mg "sorted" = none
 b_int:mg "int" = none
 g_ONE:mg "ONE" = Y2 c.ONE
 g_NOUGHT:mg "NOUGHT" = Y2 c.NOUGHT
 g_LOOKS_ON:mg "LOOKS_ON" = some (.int 0 c.tok_LOOKS_ON)
 g_EarlyError:mg "EarlyError" = Y2 c.EarlyError
 g_NoPaper:mg "NoPaper" = Y2 c.NoPaper
 c_NoPaper:VQ K c.NoPaper
 bb_EarlyError:tE K c.EarlyError=true
 ec_NoPaper:wR K c.NoPaper=true
 st_NoPaper:iJ K c.NoPaper ["word","at"]=true
 sub_NoPaper:Yb9 (.ref c.NoPaper) (.ref c.NoPaper)=Y3Z
 o_ONE:uC K c.ONE [1,1]=true
 o_NOUGHT:uC K c.NOUGHT [0,1]=true
def iR.bc_EarlyError{K:Aa}{mg:Y0a}{c:Cl}(T:Yb):FG K c.EarlyError:=tE.base T.bb_EarlyError
abbrev sQ6:Stmt:=(top 66)
def cQ6:Ya a40 a40 sQ6:={}
abbrev sQ5:Stmt:=(top 67)
def cQ5:Ya ["_law_feed_here","_law_many","_law_found","_law_at","_law_cells","_law_cell","_law_number"] a01 sQ5:={}
abbrev sQ8:Stmt:=(top 68)
def cQ8:Ya ["_law_n","_law_d","_law_one","_law_other"] a08 sQ8:={}
abbrev aBO:Stmt:=(top 75)
def IB:Ya ["_law_feed_here","_law_many","_law_whole","_law_found","_law_left","_law_k","_law_part","_law_at"] a01 aBO:={}
def MZ{b:Bool}{A B:Prop}(h:b=true)(k:A):if b=true then A else B:=by rw[h,Y12];exact k
def NA{b:Bool}{A B:Prop}(h:Yq b)(k:B):if b=true then A else B:=by rw[h,Y7M];exact k
def RZ{K:Aa}{H H':Hp}{a:Addr}{xs:An}(s:Y0)(h:Y2P K H a):Y2P K H' a:=by
 rcases h with(h | ⟨o,h⟩) | h
 ·exact Y9U (s _ _ h)
 ·exact .inl (Y6P o (s _ _ h))
 ·exact .inr h
theorem aH.take{H:Hp}:∀{ds:Y0D}{vs:An}(n:Nat),Y6t->Y18 (ds.take n) (vs.take n)
 | [],_,n,h=>by cases(show _=[]from h);rw[List.take_nil,List.take_nil];exact aH.nil
 | d::ds,_,0,h=>aH.nil
 | d::ds,_,n+1,h=>by
  unfold aH at h;obtain⟨x,xs,rfl,h1,h2⟩:=h;exact aH.cons h1 (aH.take n h2)
theorem aH.drop{H:Hp}:∀{ds:Y0D}{vs:An}(n:Nat),Y6t->Y18 (ds.drop n) (vs.drop n)
 | [],_,n,h=>by cases(show _=[]from h);rw[List.drop_nil,List.drop_nil];exact aH.nil
 | d::ds,_,0,h=>h
 | d::ds,_,n+1,h=>by
  unfold aH at h;obtain⟨x,xs,rfl,h1,h2⟩:=h;exact aH.drop n h2
def xB(n:Nat)(d:PyData):Prop:=PyData.canLay0 d=true/\PyData.depth d<=n
theorem xB.all{n:Nat}:∀{ds:Y0D},(∀d∈ds,xB n d)->PyData.canLayAll0 ds=true/\Yfx<=n
 | [],_=>⟨rfl,dH _⟩
 | d::ds,h=>by
  obtain⟨h1,h2⟩:=h d (aV ..);obtain⟨c,g⟩:=xB.all λe a=>h e (aZ _ a);refine⟨?_,?_⟩
  ·show(PyData.canLay0 d&&PyData.canLayAll0 ds)=true;rw[h1,c];rfl
  ·show max (PyData.depth d) (PyData.depthAll ds)<=n;exact Oo
def xB.tup{n:Nat}{ds:Y0D}(h:∀d∈ds,xB n d):xB (n+1) (.tuple ds):=⟨(xB.all h).1,by have:=(xB.all h).2;show Yfx+1<=n+1;exact Oo⟩
def xB.lst{n:Nat}{ds:Y0D}(h:∀d∈ds,xB n d):xB (n+1) (.list ds):=⟨(xB.all h).1,by have:=(xB.all h).2;show Yfx+1<=n+1;exact Oo⟩
theorem xB.int(i:Int):xB 1 (Y15):=Y1b (by simp[PyData.depth])
def xB.ok{n:Nat}{d:PyData}(h:xB n d)(hn:n<=64:=by decide):Y4I d:=by
 unfold SeqAt.shaped;rw[h.1,Bool.true_and];exact bV (by have:=h.2;exact Oo)
def aCU{z:Int}(h:(10:Int)^Int.toNat 18<=z):0<=z:=Int.le_trans Dd h
abbrev fdD(L:Addr)(t l:Int):Y2m:=[(.inr "cells",.ref L),(.inr "at",.int t),(.inr "left",.int l)]
structure dJ(H:Hp)(p L:Addr)(n:Nat):Prop where
 ex:∃(ns:Ag) (t l:Int),H p=Y9B (fdD L t l)/\H L=Y05 Y5S/\Y6G 63/\0<=l/\0<=t/\t+n<=1000000000000
def dJ.there{H:Hp}{p L:Addr}{n:Nat}(F:Y20 n):∃o,H p=Y7:=by obtain⟨a,t,l,h,_⟩:=F.ex;exact Y0C h
def dJ.ne{H:Hp}{p L q:Addr}{n:Nat}(F:Y20 n)(hq:H q=none):q≠p:=λe=>by
 subst e;obtain⟨o,h⟩:=F.there;rw[h]at hq;cases hq
def dJ.neL{H:Hp}{p L q:Addr}{n:Nat}(F:Y20 n)(hq:H q=none):q≠L:=λe=>by
 subst e;obtain⟨c,t,l,h,a,_⟩:=F.ex;rw[a]at hq;cases hq
def dJ.same{H H':Hp}{p L:Addr}{n:Nat}(F:Y20 n)(s:Y0):Y3d:=by
 obtain⟨c,t,l,e,d,a⟩:=F.ex;exact⟨c,t,l,s _ _ e,s _ _ d,a⟩
def dJ.but{H H':Hp}{p L D:Addr}{n:Nat}(F:Y20 n)(s:Y5U D H)(n1:D≠p)(n2:D≠L):Y3d:=by
 obtain⟨c,t,l,e,d,a⟩:=F.ex;exact⟨c,t,l,s.at (Ne.symm n1) e,s.at (Ne.symm n2) d,a⟩
def dJ.less{H:Hp}{p L:Addr}{n m:Nat}(F:Y20 n)(h:m<=n):Y20 m:=by
 obtain⟨a,t,l,e,i,g,d,c,r⟩:=F.ex;exact⟨a,t,l,e,i,g,d,c,Oo⟩
theorem dJ.t{H H':Hp}{p L:Addr}{n:Nat}(F:Y20 n)(s:Y0l):Y4n:=by
 obtain⟨a,t,l,h,_⟩:=F.ex;exact s.tD h
def dJ.like{p L:Addr}(f:Nat->Nat):KZ p L (λi H=>Y20 (f i)) :=
 ⟨λ_ D H1 H2 c a s F=>F.but s c a,λ_ H1 H2 s F=>F.same s,λ_ H' F=>by obtain⟨d,t,l,h,_⟩:=F.ex;exact Y0C h,λ_ H' D F h=>⟨F.ne h,F.neL h⟩⟩
inductive yF (K:Aa):Yh
 | i {H:Hp} {Q:VK} {E:XK} {a:Addr} {ns:Ag} (h:gW K H a Y5S) (hl:Y6G 63) (k:∀p L H',Y7V 1000000000000->Y0->H p=none->H L=none->Y0i p):yF K Y3b H Q E
inductive cZ:Yh
 | i {H:Hp} {Q:VK} {E:XK} {p L:Addr} {n:Nat} {m:Int} (F:Y20 (n+1)) (h:0<m) (hb:bits m<=64) (k:∀x H',0<=x->x<m->Y3d->Y0l->Q (.int x) H'):cZ [Y0y,.int m] H Q E
def bitsle{i:Int}{n:Nat}(h:i.natAbs<2^n):bits i<=n:=PySem.intBits_le_iff.mpr h
@[irreducible] def wL(K:Aa):Sp:=λvs H Q _=>∃(a:Addr) (ns:Ag),vs=Y3b/\gW K H a Y5S/\Y6G 63/\∀H',Y1X
def SA{K:Aa}{H:Hp}{a:Addr}{ns:Ag}(h:gW K H a Y5S)(hl:Y6G 63):wL K Y3b H (λv _=>v=Y44) (Y8z):=by
 unfold wL;exact⟨a,ns,rfl,h,hl,Ydc⟩
theorem CZ{H:Hp}:∀ns:Ag,Y18 YdV Y5S
 | []=>aH.nil
 | n::ns=>aH.cons (bI.int n) (CZ ns)
def TZ{ns:Ag}:PyData.eqv (.list (YdV)) (.list [])=Y0Q ns []:=by
 cases ns <;> simp[PyData.eqv,PyData.eqvAll]
def GG(ns:Ag):Y4I (.list (YdV)):=(xB.lst (n:=1) λd hd=>by
 obtain⟨i,_,rfl⟩:=aQ.mp hd;exact xB.int i).ok
section
def oQ6(F:Y9 "_law_feed" "_law_feed" sQ6)(T:Yb):dI P w K mg base cN 1 f fd a40 (yF K):=by
 refine F.oky cQ6 YfK;obtain @⟨H,Q,E,a,d,J,I,k⟩:=h;refine Yf;intro B A i s L _;refine Y6M _ (WK (yW dR (jO vW (by rfl) T.b_list Kk (Y1h (gY LX (aA 0) iX (iW aE)))) (yW dR aE (yW dR aE WD))));intro p r;have s0:=aX.upd (o:=.dK []) r;have m:(upd H p (.dK [])) p=Y9B []:=bK;generalize upd H p (.dK [])=H0 at s0 m;refine Y2w _ rfl _ a _ rfl (RZ s0 J) (λl x=>?_);refine Y1d l _ (.inl (gW.of bK)) (λg y=>?_);have D:nI (Y9T) none (some 63)=Y9T:=by
  unfold nI;have:HT.kI (Y9T).length (Y9T).length (some 63)=(Y9T).length:=by
   rw[show((63:Int))=((63:Nat):Int)from rfl,HT.DT,aB];exact Oo
  rw[this,HT.vG,List.drop_zero,Nat.sub_zero];exact List.take_of_length_le (Yn)
 have j:=(aX.upd (o:=.lst (nI (d.map V.int) none (some 63))) x).trans (aX.upd (o:=.lst (nI (Y9T) none (some 63))) y);have u:(upd (upd H0 l (.lst (nI (d.map V.int) none (some 63)))) g (.lst (nI (d.map V.int) none (some 63)))) g=Y05 Y9T:=by rw[bK,D]
 have n:H0 g=none:=(aX.upd x).free y;generalize upd (upd H0 l (.lst (nI (d.map V.int) none (some 63)))) g (.lst (nI (d.map V.int) none (some 63)))=H2 at j u;have C:g≠p:=λz=>by rw[z,m]at n;cases n
 refine Y1d (j _ _ m) (fdD g 0 0) (by show 3<=15;decide) (k p g _ ⟨d,0,0,?_,?_,I,Dd,Dd,Dd⟩ ?_ r (s0.free n))
 ·rw[bK];rfl
 ·rw[L2.cP C];exact u
 ·intro b o h;have G:b≠p:=λe=>by subst e;rw[r]at h;cases h
  rw[L2.cP G];exact j _ _ (s0 _ _ h)
def oQ5(F:Y9 "_law_draw" "_law_draw" sQ5)(T:Yb):dI P w K mg base cN 1 f fd a01 cZ:=by
 refine F.oky cQ5 λυ H Q E h=>?_;obtain @⟨H,Q,E,p,L,n,m,F,u,β,k⟩:=h;refine Yf;intro θ A R s g _;obtain⟨a,t,l,B,G,W,ε,φ,χ⟩:=F.ex;refine⟨_,(aG (fG (eM sG (iC g.u1 (aA 0) dR) aE) (aG (Y1T cQ5.nd (Y0F oH (iC g.u1 (aA 0) dR) 1))
  (aG (jI g.u1 (aA 0) dR (Y0F gQ (iC g.u1 (aA 0) dR) 1))
  (Y3v 2))) dB)
  (aG (Y13 cQ5.nd (iC g.u1 (aA 0) dR))
  (aG (jI g.u1 (aA 0) dR (Y6w 3))
  (aG (Y3Y cQ5.nd (iC g.u1 (aA 0) dR))
  (aG (tS (Y62 cQ5.nd (FR (Y4R (tX g.units) 4 (jN aI)) (aW aN (aA 4) (bP oH (aA 3) (Y98 (by rfl) 4))) (Y5v eG 3 3))))
  (aG (fG (xW (uJ (yU (Y4R MO 5 (bP TJ aE aE)) (uI (Y4R GO 3 (Y98 (by rfl) 4)))))) (aG (jI g.u1 (aA 0) dR (Y5v gQ 5 1))
  (Y0L (Y5v oH 5 1))) dB)
  (aG (Y5o cQ5.nd (bP oH (bP eG (bP eB (bP oH (aA 5) aE) aE) (bP eB aE (Y0F eG aE 3))) aE))
  (Y0L (Y0F oH (bP gQ (bP oH (bP eB (bP eG (aA 6) aE) (bP eG (Y5v eG 3 3) aE)) aE) aE) 1))))))))),?_⟩
 refine Yp;intro J I;refine Y6 (dgS B rfl ?_);refine Y2Q (pR (λμ=>?_) (λμ=>?_))
 ·refine Y6 (dgS B rfl ?_);refine Y1Z _ rfl _ _ rfl u (Y6 (dgS B rfl ?_));refine Y1Z _ rfl _ _ rfl ⟨u,aP β Dd⟩ Y4;refine dpS (kvs2:=fdD L t (l/m)) B (by show 3<=64;decide) rfl λH2 O r=>?_;have N:L≠p:=λz=>by rw[z,B]at G;cases G
  exact Y6 (k _ H2 (Ye5 Oo) (Yfu u) ⟨a,t,l/m,O,r.at N G,W,YdY ε,Oo,Oo⟩ r)
 ·have N:L≠p:=λz=>by rw[z,B]at G;cases G
  refine Y6 (dgS B rfl ?_);refine Yg;intro J I;refine Y5c _ rfl _ _ rfl _ rfl ?_;refine dpS (kvs2:=fdD L (t+1) l) B (by show 3<=64;decide) rfl λH1 C S=>Y3t;intro J I;have e:=S.at N G;refine Y6 (dgS C rfl ?_);refine Yg;intro J I;have ζ:bits t<=64:=PySem.intBits_le_64 Oo Oo;have Z:bits (7919:Int)<=64:=Kk;have F2:∀{H3:Hp},aX H1 H3->dJ H3 p L n:=λy=>⟨a,t+1,l,y _ _ C,y _ _ e,W,ε,Oo,Oo⟩;refine Y2n (λσ H3=>∃x:Int,σ=[Y1f,Yk m,none,Yk t,Y2 L,Yk x,none]/\aX H1 H3)
  ·rintro σ H3 ⟨x,rfl,y⟩;refine Y3t;intro J I;have U:=y _ _ C;have M:=y _ _ e;refine Y2n (λb H4=>H4=H3/\(b=true->0<=x))
   ·refine⟨_,rfl,_,_,rfl,rfl,⟨Dd,Dd,Dd⟩,_,_,rfl,rfl,_,rfl,pR (λγ=>?_) (λγ=>?_)⟩
    ·refine Yt (rlL M ?_);exact⟨_,_,rfl,rfl,_,rfl,rfl,λ_=>aCU γ⟩
    ·exact Y1b (λh=>by cases h)
   ·rintro b H4 ⟨rfl,D⟩;cases b with
    | true =>
     have D:=D rfl;refine lL (Yp);intro J I;refine⟨_,rfl,_,rfl,_,_,rfl,rfl,⟨u,aP β Dd⟩,Y4⟩;refine dpS (kvs2:=fdD L (t+1) (x/m)) U (by show 3<=64;decide) rfl λH5 α δ=>⟨_,rfl,_,rfl,_,_,rfl,rfl,u,?_⟩;exact k _ H5 (Ye5 Oo) (Yfu u) ⟨a,t+1,x/m,α,δ.at N M,W,YdY D,Oo,Oo⟩ ((S.trans y.but).trans δ)
    | false =>
     refine Y93;have ο:=Int.emod_nonneg x (b:=2147483629) Dd;have ω:=Int.emod_lt_of_pos x (b:=2147483629) Dd;refine⟨_,rfl,_,_,rfl,rfl,(by show(0:Int)<2147483629;decide),_,_,rfl,rfl,_,rfl,_,_,rfl,rfl,IntMulOk.of_left Z,_,_,rfl,rfl,_,_,rfl,rfl,IntMulOk.of_left (PySem.intBits_le_64 Oo Oo),_,_,rfl,rfl,(by show(0:Int)<2147483647;decide),?_⟩;generalize (x % 2147483629+1)*(48271+7919*t) % 2147483647=z;exact⟨_,rfl,_,_,rfl,rfl,IntMulOk.of_right Kk,_,rfl,_,rfl,_,_,rfl,rfl,IntMulOk.of_left ζ,_,_,rfl,rfl,IntMulOk.of_right Kk,_,_,rfl,rfl,_,_,rfl,rfl,(by show(0:Int)<2147483399;decide),_,_,rfl,rfl,⟨Dd,Kk⟩,_,rfl,_,_,rfl,rfl,u,k _ H4 (Ye5 Oo) (Yfu u) (F2 y) (S.trans y.but)⟩
  ·refine Y4;refine GR (by show 0<=64;decide) λψ H2 ν η r=>Y6B (.list (a.map PyData.int)) (.list []) (bI.lst (r _ _ e) (CZ a)) (bI.lst η aH.nil) (GG a) rfl;rw[TZ];refine Y4;by_cases ens:a=[]
   ·exact NA (by rw[bV ens];rfl) ⟨_,rfl,_,rfl,_,_,rfl,rfl,IntMulOk.of_left ζ,Y6 r⟩
   ·refine MZ (by rw[cI ens];rfl) ?_;have ρ:0<a.length:=List.length_pos_iff.mpr ens;refine Y2J (rlL (r _ _ e) ?_);rw[aB];refine Y2R Oo ?_;have ι:=Yfk t (a.length:Int);have τ:=Int.emod_lt_of_pos t (b:=(a.length:Int)) Oo;have κ:∃z,a[(t % (a.length:Int)).toNat]?=some z:=Y5C;obtain⟨z,ξ⟩:=κ;have X:uE (a.map V.int) (t % (a.length:Int))=Yk z:=by
     have:=cU (xs:=a.map V.int) (j:=(t % (a.length:Int)).toNat) (v:=V.int z) (by rw[aR,ξ];rfl)
     rwa [Int.toNat_of_nonneg ι]at this
    exact IP (r _ _ e) X (Y6 r)
end
abbrev eA(f:Fr):PyData:=Y7e (.int f.1) (.int f.2)
def rC{H:Hp}{f:Fr}{v:V}(h:Y1A f v):∃a,v=Y3/\H a=Ym [.int f.1,.int f.2]:=by
 unfold bI aH aH aH at h;obtain⟨a,_,rfl,e,x,_,rfl,c,y,_,rfl,d,rfl⟩:=h;cases(show x=V.int f.1 from c);cases(show y=V.int f.2 from d);exact Y0K a e
def cO{H:Hp}{f:Fr}{a:Addr}(h:H a=Ym [.int f.1,.int f.2]):Y1A f Y3:=Y65 h
def cF(f:Fr):dQ (eA f)=true:=rfl
def gD(K:Aa)(H:Hp)(f:Fr)(x:V):Prop:=∃a,x=Y3/\fY K H a [.int f.1,.int f.2]
theorem gD.of{K:Aa}{H:Hp}{f:Fr}{x:V}(h:Y1A f x):gD K H f x:=by
 obtain⟨a,e,h⟩:=rC h;exact Y5d e (fY.of h)
def gD.new{K:Aa}{H:Hp}{f:Fr}{a:Addr}(h:H a=Ym [.int f.1,.int f.2]):gD K H f (Y3):=Y0K a (fY.of h)
def gD.same{K:Aa}{H H':Hp}{f:Fr}{x:V}(s:Y0)(h:gD K H f x):gD K H' f x:=by
 obtain⟨a,e,h⟩:=h;exact Y5d e (h.keep s)
def rT(k:Nat)(f:Fr):Prop:=f.1.natAbs<2^k/\f.2.natAbs<2^k
inductive tM:Yh
 | i {H:Hp} {Q:VK} {E:XK} {n d:Int} (h:0<d) (q:Y3M (Yae n)):tM [Y5z,.int d] H Q E
def BK(H:Hp)(Q:VK)(f:Fr):Prop:=∀q H',H q=none->H' q=Ym [.int f.1,.int f.2]->Y0->Y0i q
inductive lJ (K:Aa):Yh
 | i {H:Hp} {Q:VK} {E:XK} {x y:V} {f g:Fr} (h1:gD K H f x) (h2:gD K H g y) (l1:Y01) (l2:cT g) (z1:Y58) (z2:Y1q g) (q:BK H Q (kH f g)):lJ K [x,y] H Q E
inductive iN (K:Aa):Yh
 | i {H:Hp} {Q:VK} {E:XK} {x y:V} {f g:Fr} (h1:gD K H f x) (h2:gD K H g y) (z1:Y58) (z2:Y1q g) (q:Y1s (Y34 (f.1*g.2) (g.1*f.2))):iN K [x,y] H Q E
def aCE{n d:Int}(h:0<d):(Int.gcd n d:Int)<=d:=Int.le_of_dvd h (Ycg n)
def AJ{n d:Int}{k:Nat}(h:0<d)(z:d.natAbs<2^k):(Int.gcd n d:Int).natAbs<2^k:=by
 have:=aCE (n:=n) h;have:=kP (n:=n) h;exact Oo
def sM{n d:Int}(h:0<d)(z:d.natAbs<2^9000):VR n d:=⟨h,KI z⟩
def lI{i:Int}{n m:Nat}(h:i.natAbs<2^n)(k:n<=m:=by decide):i.natAbs<2^m:=aS h (Y5k k)
def tV{i j:Int}{n:Nat}(h:i.natAbs<2^n)(hj:0<j):(i/j).natAbs<2^n:=bS (by
 have:=Int.natAbs_ediv_le_natAbs i j;exact this) h
def zJ{i j:Int}{n m:Nat}(h1:i.natAbs<2^n)(h2:j.natAbs<2^m):(i*j).natAbs<2^(n+m):=by
 rw[hV,Nat.pow_add];exact Nat.mul_lt_mul'' h1 h2
abbrev lK(fs:Al):PyData:=YfV eA
theorem iH:∀fs:Al,gF (fs.map eA)=true
 | []=>rfl
 | f::fs=>by show(dQ (eA f)&&gF (fs.map eA))=true;rw[iH fs];rfl
def dM(fs:Al):dQ (lK fs)=true:=iH fs
inductive eQ:Yh
 | i {H:Hp} {Q:VK} {E:XK} {n d:Int} (h:0<d) (z:d.natAbs<2^9000) (q:BK H Q (lw n d)):eQ [Y5z,.int d] H Q E
section
def oQ8(F:Y9 "_law_frac" "_law_frac" sQ8)(T:Yb):dI P w K mg base cN 1 f fd a08 eQ:=by
 refine F.oky cQ8 λR H Q E h=>?_;obtain @⟨H,Q,E,n,d,hd,M,q⟩:=h;refine Yf;intro G A g s N _;refine⟨_,(aG (Y1T cQ8.nd (eP aCO (by rfl) T.b_abs Kk (Y2s 0)))
  (aG (Y13 cQ8.nd (aA 1))
  (aG (yV PassesOwn.never (Y4R sG 3 aE) (aK (aAE (i:=2) (j:=3) rfl cQ8.nd rfl rfl Dd rfl rfl (Y2I 3 (Y5v oH 2 3)) rfl)))
  (Yam (Y5v gQ 0 2) (Y5v gQ 1 2))))),?_⟩
 refine Yp;intro y x;refine Y6 (raI ?_);refine Yg;intro y x;refine Y6 Yg;intro y x;refine DD (λm σ H'=>Ex2 λ(u v:Int)=>WA (σ=[Yk n,Yk d,Yk u,Yk v]) (0<=v) ((Int.gcd u v)=(Yae n)) ((v=0->0<u)) (H'=H) (m=v.toNat))
  (λσ H'=>σ=[Yk n,Yk d,Yk (Yae n),Yk 0]/\H'=H)
  _ ⟨(n.natAbs:Int),d,rfl,Oo,by rw[Int.gcd_eq_natAbs_gcd_natAbs,Int.gcd_eq_natAbs_gcd_natAbs,Int.natAbs_natCast],Oo,rfl,rfl⟩ ?_ ?_
 ·rintro m σ H2 ⟨u,v,rfl,O,a,J,rfl,rfl⟩;refine Y5c _ rfl _ _ rfl _ rfl (pR (Y6b) (Y6b))
  ·refine⟨_,rfl,_,rfl,_,rfl,_,_,rfl,rfl,e,_,_,rfl,?_⟩;have l:=Int.emod_lt_of_pos u e;have D:=Yfk u v;exact⟨_,Oo,v,u % v,rfl,D,by rw[HB,a],λ_=>e,rfl,rfl⟩
  ·have r:v=0:=Oo;subst r;have B:=J rfl;have l:=ND B;rw[a]at l;rw[l];exact Y6k
 ·rintro σ H2 ⟨rfl,rfl⟩;have a:=kP (n:=n) hd;have z:VR n (Int.gcd n d:Int):=sM a (AJ hd M);refine⟨_,rfl,_,rfl,_,_,rfl,rfl,z,⟨_,rfl,_,rfl,_,_,rfl,rfl,z,?_⟩⟩;exact jT (by show 2<=64;decide) λp H3 L C I=>q p H3 L C I
end
def iI:Nat:=2512440
structure IK(m:Nat)(fs:Al):Prop where
 ex:∃(ps:Ag) (W:Int),Y91 m/\(∀x∈ps,0<=x/\x<=W)/\ps.sum=W/\0<W/\W<=997/\W.natAbs ∣ iI/\fs=ps.map λx=>lw x W
def IK.len{m:Nat}{fs:Al}(h:IK m fs):Y5q m:=by
 obtain⟨c,W,a,_,_,_,_,_,rfl⟩:=h.ex;rw[aB,a]
def IK.at{m:Nat}{fs:Al}(h:IK m fs):∀f∈fs,Y4Z/\0<=f.1:=by
 obtain⟨i,W,l,a,_,e,j,g,rfl⟩:=h.ex;intro f d;obtain⟨x,c,rfl⟩:=aQ.mp d;have:=a x c;exact⟨(Fn.of e Oo).dvd g,YeZ this.1 _⟩
def IK.bits{m:Nat}{fs:Al}(h:IK m fs):∀f∈fs,f.1.natAbs<=997/\f.2.natAbs<=997:=by
 obtain⟨g,W,j,c,_,a,i,l,rfl⟩:=h.ex;intro f e;obtain⟨x,d,rfl⟩:=aQ.mp e;have:=c x d;have q:=MS (n:=x) a;have p:=(kG (n:=x) a).pos;exact Oo
def WU:∀x:Nat,1<=x->x<=10->x ∣ iI:=by
 intro x c a;have:∀x,x<=10->1<=x->x ∣ iI:=by unfold iI;decide
 exact this x a c
def OQ{W:Int}(h:(1<=W/\W<=10)\/W=997):W.natAbs ∣ iI:=by
 rcases h with h | rfl
 ·exact WU _ Oo Oo
 ·show 997 ∣ 2512440;decide
inductive kA:Yh
 | i {H:Hp} {Q:VK} {E:XK} {p L:Addr} {n m:Nat} (F:Y20 (n+12)) (m0:0<m) (m5:m<=5) (k:∀v fs H',Y3d->Y0l->Y2E (lK fs)->IK m fs->Y1a):kA [Y0y,.int (m:Int)] H Q E
def XA(l:Ag)(a:Nat):(l.drop a++l.take a).sum=l.sum:=by
 rw[List.sum_append,Int.add_comm,<-List.sum_append,List.take_append_drop]
section
def aFC(F:Y9 "_law_shares" "_law_shares" aBO)(T:Yb)
  (FQ5:Y7i "_law_draw") (FQ8:Y8b "_law_frac" eQ):dI P w K mg base cN 2 f fd a01 kA:=by
 refine YaT IB ?_;obtain @⟨H,Q,E,p,L,n,m,F,m0,m5,k⟩:=h;refine Yf;intro cdv A ρ s hr _;refine⟨_,(aG (Y1T IB.nd (aW aN (jN (Y4r (Y6V eB aE 0) (Y6V eB aE 0) (Y2V (Y6V eB aE 0) aE))) (Y5s 0)))
  (aG (Y13 IB.nd (jN aI))
  (aG (Y3Y IB.nd (aA 2))
  (aG (eO PassesOwn.never rfl (Y5h (bP oG (aA 1) aE)) (Y5R 5 IB.nd) (aG (Y5o IB.nd (Y9v 0 (Y6w 4)))
  (aG (Y85 qV 3 (Y0w FQ8 6 2))
  (aK (Y3Y IB.nd (Y5v oG 4 6))))))
  (aG (Y85 qV 3 (Y0w FQ8 4 2))
  (aG (Yby IB.nd (Y0w FQ5 0 1))
  (Y0L (YbX dN (by rfl) Kk (Y1h (bP TK (gY (GE K) (aA 3) (iW (aA 7)) iX) (gY (GE K) (aA 3) iX (iW (aA 7))))))))))))),?_⟩
 refine Yp;intro U O;refine Y4;refine Y1Y (n+11) F (λx1 H1 a1 b1 F1 s1=>Y2Q ?_);refine Y1Y (n+10) F1 (λx2 H2 a2 b2 F2 s2=>Y2Q ?_);refine Y1Y (n+9) F2 (λx3 H3 a3 b3 F3 s3=>Y7a);refine GR (by show 4<=64;decide) λq4 H4 ab e4 s4=>Y4;refine Y1Y (n+8) (F3.same s4) (λε H5 a5 b5 F5 χ=>?_);have hW:∃W:Int,uE [V.int (1+x1),V.int (2+x2),V.int (2+x3),V.int 997] ε=Yk W/\((1<=W/\W<=10)\/W=997):=by
  have:ε=0\/ε=1\/ε=2\/ε=3:=Oo;rcases this with rfl | rfl | rfl | rfl
  ·exact Y6 (.inl Oo)
  ·exact Y6 (.inl Oo)
  ·exact Y6 (.inl Oo)
  ·exact Y6 (.inr rfl)
 obtain⟨W,γ,hW⟩:=hW;refine IP (χ.at (F3.ne ab) e4) γ (Yg);intro U O;have W0:0<W/\W<=997:=Oo;have b5:aT p H H5:=((((s1.trans s2).trans s3).trans s4.but).trans χ);clear s1 s2 s3 s4 χ e4 γ F1 F2 F3;refine GR (by show 0<=64;decide) λD H6 hD e6 s6=>Yg;intro U O;have F6:=F5.same s6;have κ:=F5.ne hD;have θ:=F5.neL hD;have α:H D=none:=aT.free b5 F5.there hD;refine⟨_,rfl,_,rfl,_,_,rfl,rfl,((m-1:Nat):Int),by show[V.int ((m:Int)-1)]=_;rw[show((m:Int)-1)=((m-1:Nat):Int)by exact Oo],Oo,Oo,?_⟩;rw[Int.toNat_natCast];have wz:W.natAbs<2^9000:=Y1v (show W.natAbs<2^10 by show W.natAbs<1024;exact Oo);refine gC (λi σ H'=>Ex6 λ(τ o6 ψ:Ao) (u:Ag) (C:An) (left:Int)=>aGJ (σ=[Y1f,Yk (m:Int),Yk W,Y2 D,Yk left,τ,o6,ψ]) (Y7V (n+8-i)) (Y0l) (Y0p=Y05 C) (Y1m ((u.map λx=>lw x W).map eA) C) (u.length=i) ((∀x∈u,0<=x/\x<=W)) (u.sum+left=W) (0<=left) (left<=W))
  ⟨_,_,_,[],[],W,rfl,F6,b5.trans s6.but,e6,aH.nil,rfl,(λx h=>by cases h),by simp,Oo,Oo⟩ ?_ ?_
 ·rintro i σ H7 hi ⟨τ,o6,ψ,u,C,left,rfl,F7,ο,X,N,R,I,η,l0,l1⟩;refine Y69;intro U O;refine Y56 _ _ _ _ rfl ?_;refine YaY (n+8-(i+1)) (F7.less Oo) Oo (bS (show(left+1).natAbs<=998 by exact Oo) Dd) (λx8 H8 a8 b8 F8 s8=>Yg);intro U O;have e8:=s8.at κ X;refine Y1Z _ rfl (QQ e8) _ _ rfl (Y9h W0.1 wz);intro ξ H9 hq9 ν B;have j:=B _ _ e8;have lv:C.length=i:=by rw[N.len,aB,aB,R]
  refine EX j Oo λH10 J e=>Y56 _ _ _ _ rfl ?_;have ω:=F7.t s8;have g:=e.t j;refine⟨_,_,_,u++[x8],C++Y3F ξ,left-x8,rfl,(F8.same B).but e κ θ,aT.thru α ((ο.trans s8).trans B.but) e,J,?_,by rw[bF,R];rfl,?_,?_,Oo,Oo⟩
  ·rw[bG,bG];exact Yav (N.flat ((ω.trans B.t).trans g) (iH _)) g (cO ν)
  ·intro x d;rcases bY.mp d with d | d
   ·exact I x d
   ·rw[aU.mp d];exact Oo
  ·rw[List.sum_append,List.sum_singleton];exact Oo
 ·rintro σ H7 ⟨τ,o6,ψ,u,C,left,rfl,F7,ο,X,N,R,I,η,l0,l1⟩;refine Y3t;intro U O;refine Y1Z _ rfl (QQ X) _ _ rfl (Y9h W0.1 wz);intro ξ H9 hq9 ν B;have j:=B _ _ X;have lv:C.length=m-1:=by rw[N.len,aB,aB,R]
  refine EX j Oo λH10 J e=>Y3t;intro U O;have g:=e.t j;have F10:=(F7.same B).but e κ θ;have B10:aT p H H10:=aT.thru α (ο.trans B.but) e;have G:aH H10 (((u++[left]).map λx=>lw x W).map eA) (C++Y3F ξ):=by
   rw[bG,bG];exact Yav (N.flat (B.t.trans g) (iH _)) g (cO ν)
  have y:(u++[left]).length=m/\(∀x∈u++[left],0<=x/\x<=W)/\(u++[left]).sum=W:=by
   refine⟨by rw[bF,R];show m-1+1=m;exact Oo,λx d=>?_,by rw[List.sum_append,List.sum_singleton];exact Oo⟩;rcases bY.mp d with d | d
   ·exact I x d
   ·rw[aU.mp d];exact Oo
  generalize u++[left]=μ at G y;generalize C++[V.ref ξ]=z at G J;clear N I η l0 l1 R X ν j e g F7 ο B;have lu:z.length=m:=by rw[G.len,aB,aB,y.1]
  refine Y0g;refine YaY n (F10.less Oo) Oo (bS (show((m:Int)).natAbs<=5 by exact Oo) Dd) (λx H11 a11 b11 F11 M=>?_);obtain⟨a,rfl⟩:∃a:Nat,x=(a:Int):=Y1j x.toNat;have ι:=M.at κ J;have υ:=G.flat (F10.t M) (iH _);refine Y1l;refine slL ι (ys:=z.drop a) (NP _ _) λq12 H12 hq12 aa ζ=>Y1l;refine slL (ζ _ _ ι) (ys:=z.take a) (NQ _ _) λq13 H13 hq13 e13 δ=>aDY (δ _ _ aa) e13 (by rw[List.length_drop,cW];exact Oo) λq14 H14 hq14 φ s14=>Y4X q14 _ φ Ybk;have Z:=Y3m (z.drop a++z.take a) hl;have β:(upd H14 l (.tup (z.drop a++z.take a))) l=Ym (z.drop a++z.take a):=bK;generalize upd H14 l (.tup (z.drop a++z.take a))=H15 at Z β;have S:=((ζ.trans δ).trans s14).trans Z;refine k _ ((μ.drop a++μ.take a).map λx=>lw x W) H15 (F11.same S) ((B10.trans M).trans S.but) (Yag β) ⟨μ.drop a++μ.take a,W,?_,?_,?_,W0.1,W0.2,OQ hW,rfl⟩
  ·have r:=υ.same S;rw[bG,bG];refine aH.append ?_ ?_
   ·rw[List.map_take,List.map_take];exact aH.take a r
   ·rw[List.map_drop,List.map_drop];exact aH.drop a r
  ·rw[bF,List.length_drop,cW];exact Oo
  ·intro x d;rcases bY.mp d with d | d
   ·exact y.2.1 x (List.mem_of_mem_drop d)
   ·exact y.2.1 x (List.mem_of_mem_take d)
  ·rw[XA];exact y.2.2
end
abbrev aBH:Stmt:=(top 76)
def VA:Ya ["_law_feed_here","_law_faces","_law_ways","_law_names","_law_start","_law_told_here"] a32 aBH:={}
abbrev aBN:Stmt:=(top 77)
def aD4:Ya ["_law_feed_here","_law_way"] a38 aBN:={}
abbrev sQ3:Stmt:=(top 78)
def cQ3:Ya ["_law_feed_here","_law_whole","_law_part"] a38 sQ3:={}
abbrev sQ1:Stmt:=(top 79)
def cQ1:Ya ["_law_feed_here","_law_ways","_law_most","_law_bounds","_law_mix"] a34 sQ1:={}
def aH.atX{H:Hp}{α:Type}{g:Y9e α}{as:Yo}{xs:An}(r:YeR g){i:Nat}{a:α}(h:as[i]?=some a):∃x,Y0Y=Y8/\Y0x (g a) x:=by
 induction as generalizing xs i with
 | nil=>simp at h
 | cons b as ih =>
  rw[bJ]at r;unfold aH at r;obtain⟨x,c,rfl,d,e⟩:=r;cases i with
  | zero=>cases(show b=a by simpa using h);exact Y0K x d
  | succ i=>exact ih e (by simpa using h)
def gA{H:Hp}{fs:Al}{v:V}(h:Y14 fs v):∃a xs,v=Y3/\H a=Y0k/\Y7H eA xs:=by
 unfold bI at h;exact h
abbrev wD(w:Str × Al):PyData:=Y57 w.1 (lK w.2)
abbrev tK(fs:Ai)(ws:Y03):PyData:=Y7e (YfV .str) (.tuple (ws.map wD))
theorem BR:∀fs:Ai,gF (fs.map PyData.str)=true
 | []=>rfl
 | f::fs=>by show(dQ (.str f)&&gF (fs.map PyData.str))=true;rw[BR fs];rfl
def DF(w:Str × Al):dQ (wD w)=true:=by
 show(dQ (.str w.1)&&(dQ (lK w.2)&&true))=true;rw[dM];rfl
theorem LG:∀ws:List (Str × Al),gF (ws.map wD)=true
 | []=>rfl
 | w::ws=>by show(dQ (wD w)&&gF (ws.map wD))=true;rw[DF w,LG ws];rfl
def gE(fs:Ai)(ws:Y03):dQ (tK fs ws)=true:=by
 show(dQ (YfV .str)&&(dQ (.tuple (ws.map wD))&&true))=true;rw[show dQ (.tuple (fs.map PyData.str))=gF (fs.map PyData.str)from rfl,BR,show dQ (.tuple (ws.map wD))=gF (ws.map wD)from rfl,LG];rfl
theorem CW{H:Hp}:∀fs:Ai,Y7H PyData.str (fs.map V.str)
 | []=>aH.nil
 | f::fs=>aH.cons (bI.str f) (CW fs)
def dW{H:Hp}{ds:Y0D}{v:V}(h:YcO ds v):∃a xs,v=Y3/\H a=Y0k/\Ya0 xs:=by unfold bI at h;exact h
def gH{H:Hp}{d e:PyData}{xs:An}(h:YaF [d,e]):∃x y,xs=[x,y]/\Y3g x/\Y0x e y:=by
 unfold aH aH aH at h;obtain⟨x,_,rfl,c,y,_,rfl,a,rfl⟩:=h;exact Y1d x y c a
def cR{α:Type}{H:Hp}{g:Y9e α}{fs:Yo}{vs:An}(h:Y7H g vs){i:Nat}{v:V}(e:vs[i]?=Yi):∃f,fs[i]?=Y8h/\Y0x (g f) v:=by
 obtain⟨d,a,c⟩:=h.get e;rw[aR]at a;cases q:fs[i]? with
 | none=>rw[q]at a;cases a
 | some f=>rw[q]at a;cases a;exact Y0K f c
def gB{α:Type}{H:Hp}{g:Y9e α}{fs:Yo}{vs:An}(h:Y7H g vs){i:Nat}{f:α}(e:fs[i]?=Y8h):∃v,vs[i]?=Yi/\Y0x (g f) v :=
 h.get' (by rw[aR,e];rfl)
def cC{α:Type}{H:Hp}{g:Y9e α}{fs:Yo}{vs:An}(h:Y7H g vs):Y5i fs.length:=by rw[h.len,aB]
def dS{α:Type}{l:Yo}{i:Nat}{x:α}(h:l[i]?=Y8):l.take (i+1)=Yar++[x]:=by
 rw[jM,h];rfl
structure VM(F W:Nat)(fs:Ai)(ws:Y03):Prop where
 f:Y5q F
 w:ws.length=W
 sh:∀x∈ws,IK F x.2
 nf:∀s∈fs,(reprText s).length<=20
 nw:∀x∈ws,(reprText x.1).length<=20
def YI:∀s∈(a20:Ai),(reprText s).length<=20:=Kk
inductive sU:Yh
 | i {H:Hp} {Q:VK} {E:XK} {p L:Addr} {n F W:Nat} (T:Y20 (n+64)) (h1:2<=F) (h2:F<=4) (h3:2<=W) (h4:W<=4) (k:∀v fs ws H',Y3d->Y0l->Y2E (tK fs ws)->VM F W fs ws->Y1a):sU [Y0y,.int (F:Int),.int (W:Int)] H Q E
def ZL{α:Type}{xs:Yo}{x:Int}(h:Y2v 8):∃v,Y3f (x % 8)=Yi/\v∈xs:=by
 obtain⟨v,a,c,_⟩:=NX (xs:=xs) (x:=x % 8) (Ye5 Dd) (by have:=Int.emod_lt_of_pos x (b:=8) Dd;exact Oo);exact Y5M a c
def WR{P:Y0Z Str}{ys:An}(h:∀(i:Nat) (y:V),Y1t=Y0j->∃s,y=.str s/\P s):∃ts:Ai,ys=ts.map V.str/\∀t∈ts,P t:=by
 induction ys with
 | nil=>exact Y0K [] (λt h=>by cases h)
 | cons y ys ih =>
  obtain⟨s,rfl,d⟩:=h 0 y rfl;obtain⟨ts,rfl,a⟩:=ih λi z e=>h (i+1) z (by simpa using e);refine Y0K (s::ts) (λt c=>?_);rcases bD.mp c with rfl | c
  ·exact d
  ·exact a t c
section
def aFv(F:Y9 "_law_trial" "_law_trial" aBH)(T:Yb)
  (FQ5:Y7i "_law_draw") (FQ18:Y2Z "_law_shares" a01 kA):dI P w K mg base cN 3 f fd a32 sU:=by
 refine Y1e VA;obtain @⟨H,Q,E,p,L,n,F,W,T0,f2,f4,w2,w4,k⟩:=h;refine Yf;intro ω A N s hr _;refine⟨_,(aG (Y5D 3 VA.nd (jN (aM dR (Y4r dR dR (Y4r dR dR (aM dR (Y2V dR dR)))))))
  (aG (Y5D 4 VA.nd (Y5s 0))
  (aG (Y62 VA.nd (Y6i dN (by rfl) Kk ["_law_k","_law_names","_law_start"] [3,4] (Y6J 1) (aW (gU K) (aA 1) (bP oH (bP eB (aA 2) (Y0F eG aE 0)) aE))))
  (aG (Y5D 4 VA.nd (Y5s 0))
  (Yam (aA 5) (Y6i dN (by rfl) Kk ["_law_k","_law_feed_here","_law_faces","_law_names","_law_start"] [0,1,3,4] (Y6J 2) (Y2t (aW (gU K) (aA 3) (bP oH (bP eB (aA 4) (Y0F eG aE 0)) aE)) (Y0w FQ18 1 2)))))))),?_⟩
 refine Yp;intro ι α;refine GR (by show 8<=64;decide) λN1 H1 hN e1 φ=>Yg;intro ι α;have η:H1 N1=Y05 ((a20:Ai).map V.str):=e1;have γ:N1≠p:=T0.ne hN;refine Y4;refine Y1Y (n+63) (T0.same φ) (λx2 H2 a2 b2 T2 ο=>Yg);intro ι α;have υ:=ο.at γ η;have e:∀x:Int,∃t:Str,(reprText t).length<=20/\uE ((a20:Ai).map V.str) (x % 8)=some (V.str t):=λx=>by
  obtain⟨v,G,I⟩:=ZL (xs:=(a20:Ai).map V.str) (x:=x) rfl;obtain⟨t,M,rfl⟩:=aQ.mp I;exact⟨t,YI t (by assumption),G⟩
 refine Y2T _ rfl _ Oo Oo (Y8M (∃s,y=.str s/\(reprText s).length<=20) Y8x Oo (λi H' Q' hi δ ν=>?_) (λD ys H3 hD R s3 u μ=>?_))
 ·refine⟨_,rfl,_,rfl,_,rfl,_,_,rfl,rfl,YdL,_,_,rfl,rfl,_,_,rfl,rfl,(by show(0:Int)<8;decide),?_⟩;obtain⟨t,d,M⟩:=e (x2+3*(0+(i:Nat)));exact IP (δ _ _ υ) M (ν _ H' (Y07) (Y0K t d))
 ·obtain⟨B,rfl,U⟩:=WR μ;rw[aB]at u;refine Y4X D _ R Ybk;refine Yg;intro ι α;have χ:=Y3m (B.map V.str) hl;have ρ:(upd H3 l (.tup (B.map V.str))) l=Ym (B.map V.str):=bK;generalize upd H3 l (.tup (B.map V.str))=H4 at χ ρ;have S4:=s3.trans χ;have T4:=T2.same S4;have B4:aT p H H4:=(φ.but.trans ο).trans S4.but;refine Y4;refine Y1Y (n+62) T4 (λx5 H5 a5 b5 T5 O=>?_);have e5:=O.at γ (S4 _ _ υ);have β:=T4.t O _ _ ρ;have B5:=B4.trans O;refine Y2w _ rfl _ _ rfl Oo Oo (vU (YdD p L (n+62-12*i)) T5 (λi y H'=>∃x:Str × Al,bI H' (wD x) y/\IK F x.2/\(reprText x.1).length<=20) (λi y Ha Hb s ⟨x,G,I⟩=>⟨x,G.flat s (DF x),I⟩) Oo (λi H' Q' hi F' δ ν=>?_) (λD6 j H6 hD6 τ T6 ψ hz J=>?_))
  ·refine⟨_,rfl,_,rfl,_,rfl,_,_,rfl,rfl,YdL,_,_,rfl,rfl,_,_,rfl,rfl,(by show(0:Int)<8;decide),?_⟩;obtain⟨t,d,M⟩:=e (x5+5*(0+(i:Nat)));refine IP (δ.at γ e5) M Y0g;exact kA.i (n:=n+62-12*(i+1)) (F'.less Oo) Oo Oo λv fs H7 T7 m r7 ε=>jT (by show 2<=64;decide) λq8 H8 ζ S g=>ν _ H8 (T7.same g) (m.trans g.but) ⟨(t,fs),Y9X S _ (r7.same g),ε,d⟩
  ·obtain⟨r,lw6,r6,C⟩:∃r:List (Str × Al),r.length=j.length/\aH H6 (r.map wD) j/\∀x∈r,IK F x.2/\(reprText x.1).length<=20:=by
    clear τ hz
    induction j with
    | nil=>exact Y1L [] aH.nil (λx h=>by cases h)
    | cons z j ih =>
     obtain⟨x,G,I⟩:=J 0 z rfl;obtain⟨r,g1,g2,g3⟩:=ih λi y u=>J (i+1) y (by simpa using u);refine⟨x::r,by rw[cE,cE,g1],aH.cons G g2,λy u=>?_⟩;rcases bD.mp u with rfl | u
     ·exact I
     ·exact g3 y u
   refine Y4X D6 _ τ (λθ X=>?_);have m:=Y3m j X;have ξ:(upd H6 θ (.tup j)) θ=Ym j:=bK;generalize upd H6 θ (.tup j)=H7 at m ξ;refine jT (by show 2<=64;decide) λq8 H8 ζ S g=>?_;have κ:=g _ _ (m _ _ (T5.t ψ _ _ β));refine k _ B r H8 (((T6.same m).same g).less Oo) ((B5.trans ψ).trans (m.trans g).but) ?_ ⟨Oo,Oo,λx Z=>(C x Z).1,U,λx Z=>(C x Z).2⟩;refine Y7n S (bI.tup κ (CW B)) (bI.tup (g _ _ ξ) ((r6.same m).same g))
end
abbrev mY(M:Nat)(bs mix cs:Al):PyData:=.tuple [.int (M:Int),lK bs,lK mix,lK cs]
def iB(M:Nat)(bs mix cs:Al):dQ (mY M bs mix cs)=true:=by
 show(dQ (.int (M:Int))&&(dQ (lK bs)&&(dQ (lK mix)&&(dQ (lK cs)&&true))))=true;rw[dM,dM,dM];rfl
def FnP(N B:Nat)(f:Fr):Prop:=Y3I/\0<=f.1
inductive vA:Yh
 | i {H:Hp} {Q:VK} {E:XK} {p L:Addr} {n:Nat} (F:Y20 (n+4)) (k:∀v f H',Y3d->Y0l->Y4o f->FnP 27720 1 f->Y1a):vA Y5N H Q E
def aAl{n d:Int}(h:0<=n):0<=(lw n d).1:=YeZ h _
def smallz{d:Int}(h:d.natAbs<1024):d.natAbs<2^9000:=Y1v (show d.natAbs<2^10 from h)
section
def oQ3(F:Y9 "_law_bound" "_law_bound" sQ3)(T:Yb)
  (FQ5:Y7i "_law_draw") (FQ8:Y8b "_law_frac" eQ):dI P w K mg base cN 2 f fd a38 vA:=by
 refine F.oky cQ3 λδ H Q E h=>?_;obtain @⟨H,Q,E,p,L,n,F,k⟩:=h;refine Yf;intro G A e s X _;refine⟨_,(aG (Y8U cQ3.nd (Y6V eB aE 0))
  (aG (Y1T cQ3.nd (aW aN (jN (Y4r (Y9v 0 (Y6w 1)) (bP gQ (Y9v 0 (Y6w 1)) aE) (Y1h aE))) (Y5s 0)))
  (Y0L (Y0w FQ8 2 1)))),?_⟩
 refine Yp;intro M J;refine Y4;refine Y1Y (n+3) F (λa H1 W ε F1 I=>Y7a);refine Yg;intro M J;have r:bits (1+a+1)<=64:=bitsle (bS (show(1+a+1).natAbs<=13 by exact Oo) Dd);refine Y56 _ _ _ _ rfl ?_;refine cZ.i (n:=n+2) F1 Oo r λR H2 θ ζ F2 B=>Y56 _ _ _ _ rfl ?_;refine cZ.i (n:=n+1) F2 Oo r λx H3 κ β F3 O=>Y2R ⟨Dd,Kk⟩ ?_;refine GR (by show 3<=64;decide) λα H4 g C l=>Y4;refine Y1Y n (F3.same l) (λd H5 η γ F5 m=>?_);have U:∃y:Int,uE [V.int R,V.int (x/2),V.int 0] d=Yk y/\0<=y/\y<=1+a:=by
  have:d=0\/d=1\/d=2:=Oo;rcases this with rfl | rfl | rfl
  ·exact Y1L _ Oo Oo
  ·exact Y1L _ Oo Oo
  ·exact Y1L _ Oo Oo
 obtain⟨y,j,S,ι⟩:=U;refine IP (m.at (F3.ne g) C) j (Yt (Y9h Oo (smallz Oo)));intro Z H6 N D u;have hd:(1+a).natAbs ∣ 27720:=by
  have:∀z:Nat,z<=12->1<=z->z ∣ 27720:=Dd;exact this _ Oo Oo
 exact k _ _ H6 (F5.same u) (((((I.trans B).trans O).trans l.but).trans m).trans u.but) (cO D) ⟨(Fn.of Oo Oo).dvd hd,aAl S⟩
end
theorem EQ{H:Hp}{P:Y0Z Fr}:∀{ys:An},(∀(i:Nat) (y:V),Y1t=Y0j->∃f,Y1A f y/\P f)->∃fs:Al,Y5q ys.length/\Y7H eA ys/\∀f∈fs,P f
 | [],_=>⟨[],rfl,aH.nil,λf h=>by cases h⟩
 | y::ys,h=>by
  obtain⟨f,h1,h2⟩:=h 0 y rfl;obtain⟨fs,c,e,g⟩:=EQ (ys:=ys) λi z d=>h (i+1) z (by simpa using d);refine⟨f::fs,by rw[cE,cE,c],aH.cons h1 e,λy a=>?_⟩;rcases bD.mp a with rfl | a
  ·exact h2
  ·exact g y a
inductive yB:Yh
 | i {H:Hp} {Q:VK} {E:XK} {p L:Addr} {n:Nat} (F:Y20 (n+3)) (k:∀v f H',Y3d->Y0l->Y4o f->QM f->Y1a):yB Y5N H Q E
def TV{n d:Int}(n0:0<=n)(n1:n<=999)(d0:0<d)(d1:d<=999):QM (lw n d):=by
 have h:=kG (n:=n) d0;have q:=MS (n:=n) d0;have a:=aAl (n:=n) (d:=d) n0;exact⟨h,a,Oo,Oo⟩
inductive yC:Yh
 | i {H:Hp} {Q:VK} {E:XK} {p L:Addr} {n W M:Nat} (T:Y20 (n+64)) (h1:1<=W) (h2:W<=4) (h3:M<=6) (k:∀v bs mix cs H',Y3d->Y0l->Y2E (mY M bs mix cs)->YbB W->(∀f∈bs,FnP 27720 1 f)->IK W mix->Yad M->(∀f∈cs,QM f)->Y1a):yC [Y0y,.int (W:Int),.int (M:Int)] H Q E
section
def aFB(F:Y9 "_law_some" "_law_some" aBN)(T:Yb)
  (FQ5:Y7i "_law_draw") (FQ8:Y8b "_law_frac" eQ):dI P w K mg base cN 2 f fd a38 yB:=by
 refine F.oky aD4 λU H Q E h=>?_;obtain @⟨H,Q,E,p,L,n,F,k⟩:=h;refine Yf;intro B A g s S _;refine⟨_,(aG (Y8U aD4.nd (Y5s 0))
  (aG (fG (Y4R tO 1 aE) (Y0L Y4L) dB)
  (aG (fG (Y4R tO 1 aE) (Y0L (bO FQ8 (Y6V eB aE 0) (Y6V eB aE 0))) dB)
  (Y0L (bO FQ8 (Y6V eB aE 0) (Y6V eB aE 0)))))),?_⟩
 refine Yp;intro D C;refine Y4;refine Y1Y (n+2) F (λR H1 O W F1 l=>Yg);intro D C;refine Y50 _ rfl _ (pR (Y6b) (Y6b))
 ·exact jT (by show 2<=64;decide) λX H2 J y a=>k _ (0,1) H2 ((F1.same a).less Oo) (l.trans a.but) (cO y) ⟨GW,Dd,Dd,Dd⟩
 refine Y50 _ rfl _ (pR (Y6b) (Y6b))
 ·refine Y4;refine Y1Y (n+1) F1 (λI H2 M G F2 a=>Y2Q ?_);refine Y1Y n F2 (λu H3 N z F3 r=>Y7a);refine Y9h Oo (smallz Oo);intro x H4 m j d;exact k _ _ H4 (F3.same d) (((l.trans a).trans r).trans d.but) (cO j) (TV Oo Oo Oo Oo)
 ·refine Y4;refine Y1Y (n+1) F1 (λI H2 M G F2 a=>Y2Q ?_);refine Y1Y n F2 (λu H3 N z F3 r=>Y7a);refine Y9h Oo (smallz Oo);intro x H4 m j d;exact k _ _ H4 (F3.same d) (((l.trans a).trans r).trans d.but) (cO j) (TV Oo Oo Oo Oo)
def oQ1(F:Y9 "_law_aim" "_law_aim" sQ1)(T:Yb)
  (FQ3:Y2Z "_law_bound" a38 vA) (FQ18:Y2Z "_law_shares" a01 kA) (FQ19:Y2Z "_law_some" a38 yB):dI P w K mg base cN 3 f fd a34 yC:=by
 refine Y1e cQ1;obtain @⟨H,Q,E,p,L,n,W,M,T0,w1,w4,m6,k⟩:=h;refine Yf;intro η A m s hr _;refine⟨_,(aG (Y13 cQ1.nd (Y6i dN (by rfl) Kk ["_law_k","_law_feed_here"] [0] (Y6J 1) (Y3o FQ3 1)))
  (aG (Y3Y cQ1.nd (Y0w FQ18 0 1))
  (Y0L (cG (Y3w 2 3 (Y2I 4 (Y6i dN (by rfl) Kk ["_law_k","_law_feed_here"] [0] (Y6J 2) (Y3o FQ19 1)))))))),?_⟩
 refine Yp;intro ψ ο;refine Y2T _ rfl _ Oo Oo (vU (YdD p L (n+64-4*i)) T0 (λi y H'=>∃f:Fr,Y3K f/\FnP 27720 1 f) (λi y μ χ s ⟨x,B,C⟩=>⟨x,B.flat s (cF x),C⟩) Oo (λi H' Q' θ F' υ U=>?_) (λD j H1 hD β T1 α φ e=>?_))
 ·refine Y4;exact vA.i (n:=n+64-4*(i+1)) (F'.less Oo) λv f H2 T2 a d R=>U _ H2 T2 a ⟨f,d,R⟩
 ·obtain⟨bs,lb,γ,ω⟩:=EQ e;refine Y4X D _ β (λl τ=>?_);refine Yg;intro ψ ο;have a:=Y3m j τ;have J:(upd H1 l (.tup j)) l=Ym j:=bK;generalize upd H1 l (.tup j)=H2 at a J;have T2:=T1.same a;have d:Y5g H2 (lK bs) l:=bI.tup J (γ.same a);refine Y0g;refine kA.i (n:=n+30) (T2.less Oo) Oo Oo λv3 O H3 T3 Z r3 z=>?_;have r:=d.flat (T2.t Z) (dM _);have B3:aT p H H3:=(α.trans a.but).trans Z;have u:YbB W:=Oo;clear β e γ φ α a J T1 d;refine⟨_,rfl,_,rfl,_,rfl,_,rfl,_,rfl,Oo,Oo,vU (YdD p L (n+30-3*i)) T3 (λi y H'=>∃f:Fr,Y3K f/\QM f) (λi y μ χ s ⟨x,B,C⟩=>⟨x,B.flat s (cF x),C⟩) Oo (λi H' Q' θ F' υ U=>?_) (λD g H4 hD ι T4 δ hz N=>?_)⟩
  ·refine Y4;exact yB.i (n:=n+30-3*(i+1)) (F'.less Oo) λv f H2 T2 a d R=>U _ H2 T2 a ⟨f,d,R⟩
  ·obtain⟨ν,lc,κ,ρ⟩:=EQ N;refine Y4X D _ ι (λG I=>?_);have X:=Y3m g I;have ε:(upd H4 G (.tup g)) G=Ym g:=bK;generalize upd H4 G (.tup g)=H5 at X ε;refine jT (by show 4<=64;decide) λq6 H6 hq6 ξ ζ=>?_;have S:=X.trans ζ;have t:=T3.t δ;refine k _ bs O ν H6 ((T4.same S).less Oo) ((B3.trans δ).trans S.but) ?_ u ω z Oo ρ;exact Y9j ξ Y7o ((r.flat t (dM _)).same S) (Ybz ((r3.flat t (dM _)).same S) (bI.tup (ζ _ _ ε) (κ.same S)))
end
abbrev aBs:Stmt:=(top 5)
def QH:Ya ["number","above_nought","divided","divisor","rest"] a35 aBs:={}
abbrev aA6:Stmt:=(top 9)
def QG:Ya ["one","other","common","one_part","other_part","upper","left"] a02 aA6:={}
abbrev aBd:Stmt:=(top 10)
def aF7:Ya a02 a02 aBd:={}
abbrev aA0:Stmt:=(top 11)
def aCQ:Ya ["one","other","first","second"] a02 aA0:={}
abbrev aBj:Stmt:=(top 12)
def aGd:Ya a02 a02 aBj:={}
abbrev aAZ:Stmt:=(top 13)
def ZA:Ya ["some","whole","one"] ["some"] aAZ:={}
abbrev aBo:Stmt:=(top 22)
def aGi:Ya a37 a37 aBo:={}
abbrev aAX:Stmt:=(top 23)
def aFX:Ya a37 a37 aAX:={}
abbrev aAY:Stmt:=(top 24)
def aFY:Ya ["trial","way"] ["trial","way"] aAY:={}
abbrev aAW:Stmt:=(top 30)
def UW:Ya ["trial","way","counts","product","share","count"] a43 aAW:={}
abbrev aA5:Stmt:=(top 31)
def QF:Ya ["share","count","upper","lower","step"] ["share","count"] aA5:={}
abbrev aBE:Stmt:=(top 32)
def aCR:Ya ["faces","most","found","many"] ["faces","most"] aBE:={}
abbrev WW:Stmt:=(top 33)
def ZB:Ya ["faces","many","found","first"] a44 WW:={}
abbrev aA9:Stmt:=(top 35)
def aF3:Ya a47 a47 aA9:={}
abbrev aA8:Stmt:=(top 36)
def aF2:Ya ["counts"] ["counts"] aA8:={}
def BK.of{H H1:Hp}{Q:VK}{f:Fr}(s:aX H H1)(q:BK H Q f):BK H1 Q f:=λp H' a e c=>q p H' (s.free a) e (s.trans c)
inductive eY (K:Aa):Yh
 | i {H:Hp} {Q:VK} {E:XK} {x y:V} {f g:Fr} (h1:gD K H f x) (h2:gD K H g y) (l1:Y01) (l2:cT g) (z1:Y58) (z2:Y1q g) (q:BK H Q (jH f g)):eY K [x,y] H Q E
def pQ(f:Fr):Fr:=(-f.1,f.2)
def oI{f:Fr}(h:Y01):cT (pQ f):=⟨h.pos,by show Y0H (-f.1) f.2;rw[Int.neg_gcd];exact h.low⟩
inductive iQ (K:Aa):Yh
 | i {H:Hp} {Q:VK} {E:XK} {x y:V} {f g:Fr} (h1:gD K H f x) (h2:gD K H g y) (l1:Y01) (l2:cT g) (z1:Y58) (z2:Y1q g) (q:BK H Q (Y6o f g)):iQ K [x,y] H Q E
section
def aFg(F:Y9 "common_divisor" "common_divisor" aBs)(T:Yb):dI P w K mg base cN 1 f fd a35 tM:=by
 refine F.oky QH λI H Q E h=>?_;obtain @⟨H,Q,E,n,d,hd,q⟩:=h;refine Yf;intro y A j s G _;refine⟨_,(aG (Y1T QH.nd (aA 0))
  (aG (Y13 QH.nd (aA 1))
  (aG (yV PassesOwn.never (Y4R GN 3 aE) (aG (Y3Y QH.nd (Y5v oH 2 3))
  (aG (Y1T QH.nd (aA 3))
  (aK (Y13 QH.nd (aA 4))))))
  (Y3v 2)))),?_⟩
 refine Yp;intro B z;refine Y0g;refine DD (λm σ H'=>ZU λ(a b:Int) (c:Ao)=>WA (σ=[Yk n,Yk d,Yk a,Yk b,c]) (0<=b) ((Int.gcd a b)=(Yae n)) ((b=0->0<a)) (H'=H) (m=b.toNat))
  (λσ H'=>∃(c:Ao),σ=[Yk n,Yk d,Yk (Yae n),Yk 0,c]/\H'=H)
  _ (Y2w n d none Oo rfl Oo rfl rfl) ?_ ?_
 ·rintro m σ H2 ⟨a,b,c,rfl,x,r,D,rfl,rfl⟩;refine Y50 _ rfl _ (aDN (Y6b) (Y6b))
  ·have g:0<b:=by
    rcases Int.lt_or_eq_of_le x with h | h
    ·exact h
    ·exact absurd (congrArg V.int h.symm) e
   refine Yp;intro B z;refine⟨_,rfl,_,rfl,_,_,rfl,rfl,g,_,rfl,_,rfl,?_⟩;have l:=Int.emod_lt_of_pos a g;have u:=Yfk a b;exact⟨_,Oo,b,a % b,_,rfl,u,by rw[HB,r],λ_=>g,rfl,rfl⟩
  ·have p:b=0:=by injection e
   subst p;have C:=D rfl;have l:=ND C;rw[r]at l;rw[l];exact Y0K c rfl
 ·rintro σ H2 ⟨c,rfl,rfl⟩;exact Y6 q
def aES(F:Y9 "plus" "plus" aA6)(T:Yb)
  (FQ40:Y06 "common_divisor" a35 tM):dI P w K mg base cN 2 f fd a02 (lJ K):=by
 refine F.oky QG λε H Q E h=>?_;obtain @⟨H,Q,E,x,y,⟨a,b⟩,⟨c,d⟩,W,X,L,M,Z,U,q⟩:=h;refine Yf;intro S A D s γ _;obtain⟨δ,rfl,z⟩:=W;obtain⟨η,rfl,j⟩:=X;have θ:0<b:=L.pos;have G:0<d:=M.pos;obtain⟨I,N⟩:=Z;obtain⟨C,m⟩:=U;dsimp only at I N C m z j;have g:=kP (n:=b) G;have J:=AJ (n:=b) G m;have e:=tV N g;have l:=tV m g;have u1:=zJ I l;have ζ:=zJ C e;have B:=kP (n:=a*(d/(Int.gcd b d:Int))+c*(b/(Int.gcd b d:Int))) g;have O:=AJ (n:=a*(d/(Int.gcd b d:Int))+c*(b/(Int.gcd b d:Int))) g J;have eq:kH (a,b) (c,d)=_:=XV L M;refine⟨_,(aG (Y1T QG.nd (bO FQ40 (Y0R) (Y0A)))
  (aG (Y13 QG.nd (Y0F gQ Y0R 2))
  (aG (Y3Y QG.nd (Y0F gQ Y0A 2))
  (aG (Y62 QG.nd (bP eB (Y0F eG Y0R 4) (Y0F eG Y0A 3)))
  (aG (Y5o QG.nd (Y0w FQ40 5 2))
  (Yam (Y5v gQ 5 6) (bP eG (aA 3) (Y0F gQ Y0A 6)))))))),?_⟩
 refine Yp;intro u r;refine Y0c z;refine Y0c j;refine tM.i G (Yg);intro u r;refine Y0c z;refine Y1Z _ rfl _ _ rfl (sM g (lI J)) Yg;intro u r;refine Y0c j;refine Y1Z _ rfl _ _ rfl (sM g (lI J)) Yg;intro u r;refine Y0c z;refine Y1Z _ rfl _ _ rfl (qU I l) (Y0c j);refine⟨_,rfl,_,_,rfl,rfl,qU C e,_,_,rfl,rfl,Yg⟩;intro u r;refine Yt (tM.i g ?_);refine⟨_,rfl,_,rfl,_,_,rfl,rfl,sM B (lI O),Yt (pJ j rfl ?_)⟩;refine⟨_,rfl,_,_,rfl,rfl,sM B (lI O),_,_,rfl,rfl,qU e (tV m B),?_⟩;refine jT (by show 2<=64;decide) λp H3 β R α=>q p H3 β ?_ α;rw[eq];exact R
def aEM(F:Y9 "times" "times" aA0)(T:Yb)
  (FQ40:Y06 "common_divisor" a35 tM):dI P w K mg base cN 2 f fd a02 (eY K):=by
 refine F.oky aCQ λγ H Q E h=>?_;obtain @⟨H,Q,E,x,y,⟨a,b⟩,⟨m,d⟩,U,W,I,J,⟨L,z⟩,⟨G,u⟩,q⟩:=h;refine Yf;intro O A r s α _;obtain⟨β,rfl,g⟩:=U;obtain⟨δ,rfl,e⟩:=W;have C:0<b:=I.pos;have B:0<d:=J.pos;dsimp only at L z G u g e;have j:=kP (n:=a) B;have l:=kP (n:=m) C;have M:=AJ (n:=a) B u;have D:=AJ (n:=m) C z;have eq:jH (a,b) (m,d)=_:=RM I J;refine⟨_,(aG (Y1T aCQ.nd (bO FQ40 (Y0R) (Y0A)))
  (aG (Y13 aCQ.nd (bO FQ40 (Y0A) (Y0R)))
  (Yam (bP eG (Y0F gQ Y0R 2) (Y0F gQ Y0A 3)) (bP eG (Y0F gQ Y0R 3) (Y0F gQ Y0A 2))))),?_⟩
 refine Yp;intro S R;refine Y0c g;refine Y0c e;refine tM.i B (Yg);intro S R;refine Y0c e;refine Y0c g;refine tM.i C (Y0c g);refine Y1Z _ rfl _ _ rfl (sM j (lI M)) (Y0c e);refine⟨_,rfl,_,_,rfl,rfl,sM l (lI D),_,_,rfl,rfl,qU (tV L j) (tV G l),Y0c g⟩;refine Y1Z _ rfl _ _ rfl (sM l (lI D)) (Y0c e);refine⟨_,rfl,_,_,rfl,rfl,sM j (lI M),_,_,rfl,rfl,qU (tV z l) (tV u j),?_⟩;refine jT (by show 2<=64;decide) λp H3 Z N X=>q p H3 Z ?_ X;rw[eq];exact N
def aEZ(F:Y9 "less" "less" aBd)(T:Yb)
  (FQ64:Y2Z "plus" a02 (lJ K)):dI P w K mg base cN 3 f fd a02 (iQ K):=by
 refine F.oky aF7 λD H Q E h=>?_;obtain @⟨H,Q,E,x,y,f,g,r,z,l,u,B,e,q⟩:=h;refine Yf;intro n A a s C _;obtain⟨G,rfl,d⟩:=z;refine Y21 (Y0O FQ64 0 (Y2t (rZ nQ (Y0A)) Y0A)) (Yt (pJ d rfl ?_));refine Y6 (Y0c d);refine jT (by show 2<=64;decide) λp H3 I m j=>lJ.i (gD.same j r) (gD.new (f:=pQ g) m) l (oI u) B ⟨by show(-g.1).natAbs<_;rw[Int.natAbs_neg];exact e.1,e.2⟩ ?_;exact q.of j
def aE6(F:Y9 "is_less" "is_less" aBj)(T:Yb):dI P w K mg base cN 1 f fd a02 (iN K):=by
 refine YaT aGd ?_;obtain @⟨H,Q,E,x,y,⟨a,b⟩,⟨c,d⟩,n,r,⟨u,p⟩,⟨j,m⟩,q⟩:=h;refine Yf;intro l A e s z _;obtain⟨B,rfl,i⟩:=n;obtain⟨D,rfl,g⟩:=r;refine Y21 (kE GO (Y97 eG) (bP eG (Y0A) (Y0R))) (Y0c i);refine Y0c g;refine Y2R (qU u m) (Y0c g);refine Y0c i;exact⟨_,_,rfl,rfl,qU j p,_,_,rfl,rfl,q⟩
end
def mK{N B:Nat}{f:Fr}(h:Y3I)(hN:0<N)(hz:N<2^3000)(hB:B<=2^700):Y58:=by
 obtain⟨c,a⟩:=h.num hN;refine⟨?_,bS a (Y1v hz)⟩;have d:B*N<=2^700*2^3000:=Nat.mul_le_mul hB (Nat.le_of_lt hz);have e:(2:Nat)^500*2^3000<2^4000:=by rw[<-Nat.pow_add];exact Ydt Dd
 exact Oo
structure CV(fs:Al):Prop where
 low:∀f∈fs,Y01
 sz:∀f∈fs,Y58
 part:∀i,cT (YbE)/\Y1q YbE
def oQ{N B:Nat}{fs:Al}(h:∀f∈fs,Y3I)(hN:0<N)(hz:N<2^3000)(hl:Y7K 64)(hB:B<=2^690):CV fs:=by
 have c:(2:Nat)^690<=2^700:=Y9x;have d:64*(2:Nat)^690<=2^700:=by rw[show(64:Nat)=2^6 from rfl,<-Nat.pow_add];exact Y9x
 refine⟨λf a=>(h f a).low,λf a=>mK (h f a) hN hz (aP hB c),λi=>?_⟩;have t:=Fn.tot (YdM) λf a=>h f (List.mem_of_mem_take a);have l:(YdM).length<=64:=by rw[cW];exact Oo
 have:(YdM).length*B<=64*2^690:=Nat.mul_le_mul l hB;exact⟨t.low,mK t hN hz (aP this d)⟩
structure sO(K:Aa)(H:Hp)(fs:Al)(xs:An):Prop where
 len:Y2v fs.length
 at_:∀(i:Nat) (x:V),Y0Y=Y8->∃f,fs[i]?=Y8h/\gD K H f x
theorem sO.of{K:Aa}{H:Hp}{fs:Al}{xs:An}(r:Y7H eA xs):sO K H fs xs:=⟨cC r,λi x e=>by
 obtain⟨f,c,a⟩:=cR r e;exact⟨f,c,gD.of a⟩⟩
inductive jS (K:Aa):Yh
 | i {H:Hp} {Q:VK} {E:XK} {a:Addr} {xs:An} {fs:Al} (h:H a=Y0o\/H a=Y0k) (r:sO K H fs xs) (ok:CV fs) (q:∀v H',Y0->Y4o (jQ fs)->Y1a):jS K Y3b H Q E
def kU{K:Aa}{H:Hp}{Q:VK}{E:XK}{a:Addr}{xs:An}{fs:Al}(h:H a=Y0o)(r:sO K H fs xs)(ok:CV fs)(q:∀v H',Y0->Y4o (jQ fs)->Y1a):jS K Y3b H Q E:=jS.i (.inl h) r ok q
section
def aEL(F:Y9 "total" "total" aAZ)(T:Yb)
  (FQ64:Y2Z "plus" a02 (lJ K)):dI P w K mg base cN 3 f fd ["some"] (jS K):=by
 refine Ych ZA ?_;obtain @⟨H,Q,E,a,G,fs,m,D,ok,q⟩:=h;refine Yf;intro N A z s U _;have l:=D.len;refine⟨_,(aG (Y8U ZA.nd Y4L)
  (aG (Y33 (ZX (Y30 0) (Y49 0)) 2 ZA.nd (Y8U ZA.nd (Y0w FQ64 1 2)))
  (Y3v 1))),?_⟩
 refine Yp;intro O W;refine jT (by show 2<=64;decide) λX H0 S M s0=>?_;rcases m with m | m
 ·refine .inl (Y31 a (s0 _ _ m) (jU (xs:=G) (λi σ H'=>Ex2 λw j=>Yak (σ=[Y2b,Y74,j]) (Y2G H' YbE w)) (Y1C _ s0 (cO M)) (YaS) ?_ ?_))
  ·obtain⟨w,j,rfl,d,_⟩:=p;exact gW.of (d _ _ m)
  ·rintro i x σ H1 I ⟨w,j,rfl,d,e⟩;refine Y2z;intro O;obtain⟨g,n,y⟩:=D.at_ i x I;have r:=aF n;obtain⟨J,L⟩:=ok.part i;refine Yt (lJ.i (gD.of e) (gD.same d y) J (YbU r) L (ok.sz _ r) ?_);intro R H2 u C B;refine Y1C _ (d.trans B) ?_;rw[dS n,lV];exact cO C
  ·rintro σ H1 ⟨w,j,rfl,d,e⟩;refine Y4;rw[l,cM]at e;exact q _ H1 d e
 ·refine .inr (Y4b a (s0 _ _ m) (Yck G (Ex2 λw j=>Yak (σ=[Y2b,Y74,j]) (Y2G H' YbE w)) (Y1C _ s0 (cO M)) YaS ?_ ?_))
  ·obtain⟨w,j,rfl,d,_⟩:=p;exact fY.of (d _ _ m)
  ·rintro i x σ H1 I ⟨w,j,rfl,d,e⟩;obtain⟨g,n,y⟩:=D.at_ i x I;have r:=aF n;obtain⟨J,L⟩:=ok.part i;refine Yt (lJ.i (gD.of e) (gD.same d y) J (YbU r) L (ok.sz _ r) ?_);intro R H2 u C B;refine Y1C _ (d.trans B) ?_;rw[dS n,lV];exact cO C
  ·rintro σ H1 ⟨w,j,rfl,d,e⟩;refine Y4;rw[l,cM]at e;exact q _ H1 d e
end
section
end
abbrev gX(cs:Af):PyData:=.tuple (cs.map λ(n:Nat)=>PyData.int (n:Int))
theorem HL:∀cs:Af,gF (cs.map λ(n:Nat)=>PyData.int (n:Int))=true
 | []=>rfl
 | f::fs=>by show(dQ (.int f)&&gF (fs.map λ(n:Nat)=>PyData.int (n:Int)))=true;rw[HL fs];rfl
def gG(cs:Af):dQ (gX cs)=true:=HL cs
def FE(K:Aa)(H:Hp)(f:Fr)(x:V):Prop:=Y1A f x\/∃a,x=Y3/\uC K a [f.1,f.2]=true
def FE.v{K:Aa}{H:Hp}{f:Fr}{x:V}(h:FE K H f x):gD K H f x:=by
 rcases h with h | ⟨a,e,h⟩
 ·exact gD.of h
 ·exact Y5d e (uP h)
def FE.t{K:Aa}{H H':Hp}{f:Fr}{x:V}(s:Y4n)(h:FE K H f x):FE K H' f x:=by
 rcases h with h | h
 ·exact .inl (h.flat s (cF f))
 ·exact .inr h
def FE.same{K:Aa}{H H':Hp}{f:Fr}{x:V}(s:Y0)(h:FE K H f x):FE K H' f x:=h.t s.t
def tJ{H:Hp}{fs:Ai}{ws:Y03}{v:V}(h:Y40 v):∃a af aw xf xw,v=Y3/\H a=Ym [.ref af,.ref aw]/\H af=Ym xf/\H aw=Ym xw/\Y7H .str xf/\Y18 (ws.map wD) xw:=by
 obtain⟨a,n,rfl,c,j⟩:=dW h;obtain⟨x,y,rfl,i,e⟩:=gH j;obtain⟨af,xf,rfl,m,g⟩:=dW i;obtain⟨aw,xw,rfl,d,l⟩:=dW e;exact⟨a,af,aw,xf,xw,rfl,c,m,d,g,l⟩
inductive iA:Yh
 | i {H:Hp} {Q:VK} {E:XK} {v:V} {fs:Ai} {ws:Y03} (h:Y40 v) (q:Y3M (ws.length:Nat)):iA [v] H Q E
inductive DM:Yh
 | i {H:Hp} {Q:VK} {E:XK} {v:V} {fs:Ai} {ws:Y03} {w:Str × Al} {i:Nat} (h:Y40 v) (hw:ws[i]?=Y74) (q:∀x,Y14 w.2 x->Q x H):DM [v,.int (i:Int)] H Q E
structure BOk(B:Nat)(fs:Al):Prop where
 low:∀f∈fs,Y01
 up:∀f∈fs,f.1.natAbs<=2^B
 dn:∀f∈fs,f.2.natAbs<=2^B
inductive uT (K:Aa):Yh
 | i {H:Hp} {Q:VK} {E:XK} {x:V} {f:Fr} {c B:Nat} (h:gD K H f x) (h1:f.1.natAbs<=2^B) (h2:f.2.natAbs<=2^B) (h3:B<=4000) (h5:c<=4000) (h4:B*c<=4000) (q:BK H Q (xS f c)):uT K [x,.int (c:Int)] H Q E
def ED{x:Int}{n:Nat}(h:x.natAbs<=2^n)(hn:n<=4000):x.natAbs<2^4001:=bS h (Ydt Oo)
def RU{f:Fr}{n:Nat}(h1:f.1.natAbs<=2^n)(h2:f.2.natAbs<=2^n){k:Nat}(hk:n<k):rT k f:=⟨bS h1 (Ydt hk),bS h2 (Ydt hk)⟩
inductive nK (K:Aa):Yh
 | i {H:Hp} {Q:VK} {E:XK} {v cv:V} {fs:Ai} {ws:Y03} {w:Str × Al} {cs:Af} {i:Nat} (h:Y40 v) (hw:ws[i]?=Y74) (hc:Y6h cs cv) (ok:BOk 10 w.2) (hs:cs.sum<=390) (q:∀x H',Y0->FE K H' (lP (w.2.zip cs)) x->Q x H'):nK K [v,.int (i:Int),cv] H Q E
def LC{α β:Type}{l:Yo}{m:List β}{i:Nat}{a:α}{b:β}(h1:l[i]?=some a)(h2:m[i]?=some b):(l.zip m)[i]?=some (a,b):=by rw[List.getElem?_zip_eq_some];exact⟨h1,h2⟩
def WC{α:Type}(l:Yo)(m:Af)(i:Nat):(((l.zip m).take i).map (·.2)).sum<=m.sum:=by
 induction l generalizing m i with
 | nil=>simp
 | cons a l ih =>
  cases m with
  | nil=>simp
  | cons b m =>
   cases i with
   | zero=>simp
   | succ i =>
    have:=ih m i;simp only[List.zip_cons_cons,List.take_succ_cons,bJ,List.sum_cons];exact Oo
def nH{α β:Type}{l:Yo}{m:List β}{i:Nat}{z:α × β}(h:z∈(l.zip m).take i):z.1∈l:=(List.of_mem_zip (a:=z.1) (b:=z.2) (List.mem_of_mem_take h)).1
def WP{m:Af}{i c:Nat}(h:m[i]?=Y09):c<=m.sum:=by
 induction m generalizing i with
 | nil=>simp at h
 | cons a m ih =>
  rw[List.sum_cons];cases i with
  | zero=>cases(show a=c by simpa using h);exact Oo
  | succ i=>have:=ih (i:=i) (by simpa using h);exact Oo
section
def aEJ(F:Y9 "ways_of" "ways_of" aAX)(T:Yb):dI P w K mg base cN 1 f fd a37 iA:=by
 refine YfL aFX ?_;obtain @⟨H,Q,E,v,fs,p,h,q⟩:=h;refine Yf;intro g A d s m _;obtain⟨a,x,y,r,z,rfl,j,u,i,l,e⟩:=tJ h;refine Y21 (Y6O gO (by rfl) Kk 0) (Yu j);refine Y3J i;rw[cC e];exact q
def aEK(F:Y9 "way_shares" "way_shares" aAY)(T:Yb):dI P w K mg base cN 1 f fd ["trial","way"] DM:=by
 refine F.oky aFY λJ H Q E h=>?_;obtain @⟨H,Q,E,v,fs,L,w,i,h,l,q⟩:=h;refine Yf;intro p A d s I _;obtain⟨a,O,S,M,U,rfl,B,N,x,G,e⟩:=tJ h;obtain⟨u,m,r⟩:=gB e l;obtain⟨b,D,rfl,n,g⟩:=dW r;obtain⟨y,z,rfl,R,C⟩:=gH g;refine Y21 (Y28 (aW aN Y0R (aA 1))) (Yu B);refine Y7J x (cU (j:=i) m);exact Y3Q n (q _ C)
def aER(F:Y9 "power" "power" aA5)(T:Yb):dI P w K mg base cN 1 f fd ["share","count"] (uT K):=by
 refine F.oky QF YfK;obtain @⟨H,Q,E,x,f,n,B,⟨a,rfl,p⟩,j,m,r,N,G,q⟩:=h;refine Yf;intro y A e s L _;refine⟨_,(aG (Y1T QF.nd aE)
  (aG (Y13 QF.nd aE)
  (aG (eO PassesOwn.never rfl (Y6J 1) (Y5R 4 QF.nd) (aG (Y1T QF.nd (bP eG (aA 2) Y0R))
  (aK (Y13 QF.nd (bP eG (aA 3) Y0R)))))
  (Yam (aA 2) (aA 3))))),?_⟩
 refine Yp;intro C z;refine Y2T _ rfl _ Oo Oo (Y8F (Ex1 λd=>An2 (σ=[Y2b,Yk (n:Int),Yk (f.1^i),Yk (f.2^i),d]) (H'=H)) (Y0m (by rw[Int.pow_zero,Int.pow_zero];rfl)) ?_ ?_)
 ·rintro i σ H1 J ⟨d,rfl,rfl⟩;refine Y69;intro C z;have l:B*i<=4000:=aP (Nat.mul_le_mul_left _ Oo) G;refine Yt (pJ p rfl ?_);refine Y2R (qU (ED (wN j i) l) (ED j r)) (Yt (pJ p rfl ?_));exact Y2R (qU (ED (wN m i) l) (ED m r)) (Y0m (by rw[Int.pow_succ,Int.pow_succ];rfl))
 ·rintro σ H1 ⟨d,rfl,rfl⟩;refine Y0g;exact jT (by show 2<=64;decide) λI H3 g u D=>q I H3 g (by rw[u];rfl) D
def aEI(F:Y9 "weight" "weight" aAW)(T:Yb)
  (FQ72:Y06 "way_shares" ["trial","way"] DM) (FQ70:Y82 "times" K) (FQ65:Y06 "power" ["share","count"] (uT K)):dI P w K mg base cN 3 f fd a43 (nK K):=by
 refine Y1e UW;obtain @⟨H,Q,E,v,cv,fs,ws,w,a,j,h,τ,υ,ok,hs,q⟩:=h;refine Yf;intro γ A C s hr _;refine⟨_,(aG (Y13 UW.nd (Y9Z YcX T.g_ONE rfl))
  (aG (eO PassesOwn.never rfl (yX true true rfl T.b_zip (Y2V (Y0w FQ72 0 1) (aA 2))) (pE rfl (fJ (Y5R 4 UW.nd) (fJ (Y5R 5 UW.nd) mL))) (aK (Y13 UW.nd (Y0O FQ70 3 (Y0w FQ65 4 5)))))
  (Y3v 3))),?_⟩
 refine Yp;intro ω n_;refine Y0g;refine DM.i h τ λx ν=>?_;obtain⟨β,G,rfl,M,W⟩:=dW ν;obtain⟨I,S,rfl,N,L⟩:=dW υ;refine⟨_,rfl,β,I,G,S,rfl,M,N,?_⟩;have Z:=cC W;have ι:=cC L;have O:∀i,∀z∈(w.2.zip a).take i,cT z.1:=λi z d=>YbU (nH d);have zb:∀i,∀z∈(w.2.zip a).take i,z.1.1.natAbs<=2^10/\z.1.2.natAbs<=2^10:=λi z d=>⟨ok.up _ (nH d),ok.dn _ (nH d)⟩;refine NF (λi σ H'=>ZU λx p m=>Yak (σ=[Yi,Yk (j:Int),Y2 I,Y8,p,m]) (FE K H' (lP ((w.2.zip a).take i)) x)) (Y6C _ _ _ Y07 (.inr (Y6 T.o_ONE))) (λi σ H' ⟨x,p,m,_,U,_⟩=>⟨U _ _ M,U _ _ N⟩) ?_ ?_
 ·rintro i y z χ σ H1 H2 φ d ⟨x,p,m,rfl,u,r⟩ ο ψ D;obtain⟨g,J,α⟩:=cR W φ;obtain⟨n,R,ζ⟩:=cR L d;cases(show z=V.int (n:Int)from ζ);have l:=aF J;have nn:=WP R;refine⟨χ,_,rfl,fY.of ψ,rfl,_,_,rfl,_,_,rfl,rfl,Y3G⟩;intro ω;refine Y2J (uT.i (B:=10) (gD.of (α.same (u.trans D))) (ok.up _ l) (ok.dn _ l) Dd Oo Oo ?_);intro q4 H4 ρ κ X;obtain⟨δ,ε⟩:=WG ((w.2.zip a).take i) (O i) (zb i);have zs:=WC w.2 a i;have μ:=wN (ok.up _ l) n;have η:=wN (ok.dn _ l) n;refine eY.i (gD.same (D.trans X) r.v) (gD.new (f:=xS g n) κ) (mP _ (O i)) (mV (YbU l) n) (RU δ ε Oo) (RU μ η Oo) ?_;intro q5 H5 ξ e5 θ;refine Y6C _ _ _ (((u.trans D).trans X).trans θ) ?_;rw[dS (LC J R),sQ];exact .inl (cO e5)
 ·rintro σ H1 ⟨x,p,m,rfl,u,r⟩;refine Y6 (q _ H1 u ?_);have e:(w.2.zip a).take (min G.length S.length)=w.2.zip a:=List.take_of_length_le (by rw[List.length_zip];exact Oo)
  rwa [e]at r
end
inductive mC:Yh
 | i {H:Hp} {Q:VK} {E:XK} {v:V} {fs:Ai} {ws:Y03} (h:Y40 v) (q:Y3M (fs.length:Nat)):mC [v] H Q E
section
def aFb(F:Y9 "faces_of" "faces_of" aBo)(T:Yb):dI P w K mg base cN 1 f fd a37 mC:=by
 refine YfL aGi ?_;obtain @⟨H,Q,E,v,fs,p,h,q⟩:=h;refine Yf;intro g A d s m _;obtain⟨a,x,y,u,z,rfl,l,j,r,e,i⟩:=tJ h;refine Y21 (Y6O gO (by rfl) Kk 0) (Yu l);refine Y3J j;rw[cC e];exact q
end
def tI(H:Hp)(a:Addr)(cs:Ab):Prop:=∃vs,H a=Y05 vs/\Y8J gX vs
theorem iO:∀cs:Ab,gF (Ydd)=true
 | []=>rfl
 | c::cs=>by show(dQ (gX c)&&gF (cs.map gX))=true;rw[iO cs,gG];rfl
def tI.len{H:Hp}{a:Addr}{cs:Ab}(h:tI H a cs):∃vs,H a=Y05 vs/\Y8J gX vs/\Y5i cs.length:=by
 obtain⟨vs,d,c⟩:=h;exact⟨vs,d,c,cC c⟩
theorem aH.app{H:Hp}:∀{ds es:Y0D}{xs ys:An},Ya0 xs->Y18 es ys->Y18 (ds++es) (xs++ys)
 | [],es,xs,ys,h1,h2=>by
  have:xs=[]:=h1;subst this;exact h2
 | d::ds,es,xs,ys,h1,h2=>by
  unfold aH at h1;obtain⟨x,a,rfl,c,e⟩:=(show ∃x a,xs=x::a/\bI H d x/\aH H ds a from h1);exact aH.cons c (aH.app e h2)
def pT{α:Type}(g:Nat->Yo)(i:Nat):(List.range (i+1)).flatMap g=(List.range i).flatMap g++g i:=by
 rw[List.range_succ,List.flatMap_append];simp
@[irreducible] def nZ(n:Nat):Sp:=λvs H Q _=>∃F m:Nat,vs=[.int (F:Int),.int (m:Int)]/\1<=F/\F<=n/\F<=4/\m<=5/\∀a H',Y0->H a=none->tI H' a (Y2N m)->Y0i a
def SB{n:Nat}{H:Hp}{Q:VK}{E:XK}{F m:Nat}(h1:1<=F)(h2:F<=n)(h4:F<=4)(h3:m<=5)(q:∀a H',Y0->H a=none->tI H' a (Y2N m)->Y0i a):nZ n [.int (F:Int),.int (m:Int)] H Q E:=by unfold nZ;exact⟨F,m,rfl,h1,h2,h4,h3,q⟩
def GC{n:Nat}{H:Hp}{Q:VK}{E:XK}{F m:Nat}{x y:Int}(ex:x=(F:Int))(ey:y=(m:Int))(h1:1<=F)(h2:F<=n)(h4:F<=4)(h3:m<=5)(q:∀a H',Y0->H a=none->tI H' a (Y2N m)->Y0i a):nZ n [.int x,.int y] H Q E:=by
 subst ex ey;exact SB h1 h2 h4 h3 q
inductive yI:Yh
 | i {H:Hp} {Q:VK} {E:XK} {F m:Nat} (h1:1<=F) (h4:F<=4) (h3:m<=5) (q:∀a H',Y0->H a=none->tI H' a ((List.range (m+1)).flatMap (cta F))->Y0i a):yI [.int (F:Int),.int (m:Int)] H Q E
def mF:∀F,F<=4->∀m,m<=5->(Y2N m).length<=56:=Kk
def JP:∀F,F<=3->∀m,m<=5->∀i,i<=6->((List.range i).flatMap λk=>(cta F (m-k)).map λc=>k::c).length<=400:=Kk
def tF:∀F,F<=4->∀i,i<=6->((List.range i).flatMap (cta F)).length<=400:=Kk
def UP{F m:Nat}{c:Af}(h:c∈Y2N m):Y2B:=(iZ h).1
section
def aEq(F:Y9 "counts_that_are" "counts_that_are" WW)(T:Yb):dI P w K mg base cN 1 f fd a44 (nZ 0):=by
 refine F.okw ZB (λg H Q E h=>?_) (λd A a s H g Q E j h=>?_)
 ·unfold nZ at h;obtain⟨F,m,_,i,e,_⟩:=h;exact Oo
 ·unfold nZ at h;obtain⟨F,m,_,i,e,_⟩:=h;exact Oo
def aFc(n:Nat)(F:Y9 "counts_that_are" "counts_that_are" WW)(T:Yb)(FQ44:Y0e (1+n) "counts_that_are" a44 (nZ n)) :
  dI P w K mg base cN (1+n+1) f fd a44 (nZ (n+1)):=by
 refine F.oky ZB λβ H Q E h=>?_;unfold nZ at h;obtain⟨F,m,rfl,W,X,h4,hm,q⟩:=h;refine Yf;intro θ A u s hr _;refine⟨_,(aG (fG (Y4R tO 0 aE) (Y0L (jN (Y1h (cG (Y2s 1))))) dB)
  (aG (Y1T ZB.nd (jN aI))
  (aG (eO PassesOwn.never rfl (Y5h (Y6w 1)) (cQ (i:=3) ZB.nd rfl (Or.inr rfl)) (aK (gS (Yfc JU (aA 2) (Y8y ["rest","first"] [3] (fV (Y9W FQ44 Oo (Y2V (bP oG (aA 0) aE) (Y5v oG 1 3)))) (Y0F (jK K) (cG (Y2s 1)) 0))))))
  (Y3v 2)))),?_⟩
 refine Yp;intro γ n_;refine Y50 _ rfl _ (pR (Y6b) (Y6b))
 ·have δ:F=1:=by injection e with e;exact Oo
  refine Y3G;intro γ;subst δ;refine Y4;refine jT (by show 1<=64;decide) λp0 H0 hp0 e0 s0=>GR (by show 1<=64;decide) λη H1 C N l=>q η H1 (s0.trans l) (s0.free C) (Y08 _ N);exact Y3U (bI.tup (l _ _ e0) (Y3U Y7o))
 ·have δ:F≠1:=λz=>e (by rw[z];rfl);obtain⟨G,rfl⟩:∃G,F=G+2:=Y1j (F-2);refine GR (by show 0<=64;decide) λL H1 R N l=>⟨_,rfl,_,_,rfl,rfl,_,rfl,Oo,Oo,?_⟩;rw[show((m:Int)+1).toNat=m+1 by exact Oo];refine Y8F (Ex1 λr=>Yak (σ=[Yk ((G+2:Nat):Int),Yk (m:Int),Y2 L,r]) (tI H' L ((List.range i).flatMap λk=>(cta (G+1) (m-k)).map λc=>k::c))) ⟨_,rfl,l,[],N,aH.nil⟩ ?_ ?_
  ·rintro i σ H2 hi ⟨r,rfl,I,β,g,U⟩;refine Y2z;intro γ;have lv:=cC U;have sml:=JP (G+1) Oo m hm i Oo;refine Y1L _ (QQ g) ⟨_,rfl,_,_,rfl,rfl,Y56 _ _ _ _ rfl ?_⟩;refine GC (F:=G+1) (m:=m-i) Oo Oo Oo Oo Oo Oo λb H3 Z hb ο=>?_;obtain⟨ws,α,r3,χ⟩:=ο.len;have μ:=mF (G+1) Oo (m-i) Oo;refine Y1L b (Y9s α) (lB (λj y H'=>∃c,(cta (G+1) (m-i))[j]?=Y09/\bI H' (gX (i::c)) y) (λj y H1 H2 s ⟨c,W,X⟩=>⟨c,W,X.flat s (gG _)⟩) Oo α (λj x H' Q' τ ψ k'=>?_) (λD φ H4 ε O s4 ω M=>?_))
   ·obtain⟨c,p,J⟩:=cR r3 τ;obtain⟨ac,xc,rfl,B,d⟩:=dW (J.same ψ);have lc:=cC d;have aa:=UP (aF p);refine Y4;refine jT (by show 1<=64;decide) λp4 H5 ν ξ a=>Y4;refine vV ξ (a _ _ B) (by simp only[cE,List.length_nil];exact Oo) λp5 H6 ζ ρ=>k' _ H6 (a.trans ζ) ⟨c,p,Yag ρ⟩;rw[show(0:Int)+(i:Int)=(i:Int)by exact Oo];exact Yex (d.same (a.trans ζ))
   ·have S4:=Z.trans s4;have κ:D≠L:=λz=>by subst z;rw[Z _ _ g]at ε;cases ε
    refine aCJ (S4 _ _ g) O Oo λH5 e5 a=>?_;have S:=a.t (S4 _ _ g);refine⟨_,rfl,aX.thru R (I.trans S4) a,β++φ,e5,?_⟩;rw[pT,bG];refine aH.app (Y7E S _ (U.same S4)) (Y7E S _ ?_);refine aH.ofIdx (by rw[ω,aB,aB];exact Oo) λj y υ=>?_;obtain⟨c,p,J⟩:=M j y υ;exact Y1x (by rw[aR,aR,p];rfl) J
  ·rintro σ H2 ⟨r,rfl,I,ι⟩;exact Y6 (q L H2 I R ι)
def aFs(F:Y9 "all_counts" "all_counts" aBE)(T:Yb)(FQ44:Y0e 5 "counts_that_are" a44 (nZ 4)) :
  dI P w K mg base cN 6 f fd ["faces","most"] yI:=by
 refine F.oky aCR λr H Q E h=>?_;obtain @⟨H,Q,E,F,m,D,d,Z,q⟩:=h;refine Yf;intro z A g s W _;refine⟨_,(aG (Y1T aCR.nd (jN aI))
  (aG (Y33 (Y5h (Y6w 1)) 3 aCR.nd (gS (Yfc JU (aA 2) (Y1h (Y0w FQ44 0 3)))))
  (Y3v 2))),?_⟩
 refine Yp;intro C α;refine GR (by show 0<=64;decide) λL H1 n M B=>⟨_,rfl,_,_,rfl,rfl,_,rfl,Oo,Oo,?_⟩;rw[show((m:Int)+1).toNat=m+1 by exact Oo];refine Y8F (Ex1 λe=>Yak (σ=[Yk (F:Int),Yk (m:Int),Y2 L,e]) (tI H' L ((List.range i).flatMap (cta F)))) ⟨_,rfl,B,[],M,aH.nil⟩ ?_ ?_
 ·rintro i σ H2 γ ⟨e,rfl,j,r,l,p⟩;refine Y2z;intro C;have β:=cC p;have U:=tF F d i Oo;refine Y1L _ (QQ l) Y0g;refine GC (F:=F) (m:=i) rfl Oo D d d Oo λb H3 a X I=>?_;obtain⟨G,y,O,R⟩:=I.len;have S:=mF F d i Oo;refine aCJ (a _ _ l) y Oo λH5 N x=>?_;have u:=x.t (a _ _ l);refine⟨_,rfl,aX.thru n (j.trans a) x,r++G,N,?_⟩;rw[pT,bG];exact aH.app (Y7E u _ (p.same a)) (Y7E u _ O)
 ·rintro σ H2 ⟨e,rfl,j,J⟩;exact Y6 (q L H2 j n J)
end
abbrev FJ(n:Nat):V:=.int (n:Int)
theorem HQ{H:Hp}:∀cs:Af,Y8J (λ(n:Nat)=>PyData.int (n:Int)) (cs.map FJ)
 | []=>aH.nil
 | n::cs=>aH.cons (bI.int _) (HQ cs)
theorem CY{H:Hp}:∀{cs:Af}{xs:An},Y8J (λ(n:Nat)=>PyData.int (n:Int)) xs->xs=cs.map FJ
 | [],xs,h=>h
 | n::cs,xs,h=>by
  unfold aH at h;obtain⟨x,xs',rfl,hx,hr⟩:=(show ∃x xs',xs=x::xs'/\bI H (PyData.int (n:Int)) x/\aH H (cs.map λ(n:Nat)=>PyData.int (n:Int)) xs' from h);rw[CY hr];cases(show x=V.int (n:Int)from hx)
  rfl
def fS{H:Hp}{cs:Af}{v:V}(h:Y6h cs v):∃a,v=Y3/\H a=Ym (cs.map FJ):=by
 obtain⟨a,e,rfl,c,d⟩:=dW h;rw[CY d]at c;exact Y0K a c
def oO{H:Hp}{cs:Af}{a:Addr}(h:H a=Ym (cs.map FJ)):Y6h cs Y3:=bI.tup h (HQ cs)
def IE{cs:Af}{i:Nat}(h:i<cs.length):bN cs i=cs.take i++[Yaf 0+1]++cs.drop (i+1):=by
 unfold bN;rw[List.set_eq_take_append_cons_drop,Yan,List.append_assoc]
 rfl
def vE{K:Aa}{H:Hp}{a:Addr}{xs:An}{k:Nat}{z:Int}{Q:VK}(hz:z=(k:Int))(h:H a=Y0k)(q:∀c H',Y0->H' c=Ym (xs.drop k)->Y0i c):BH K (Y3) (some z) none H Q:=by
 subst hz;exact aAT h q
inductive fM:Yh
 | i {H:Hp} {Q:VK} {E:XK} {x:V} {cs:Af} {i:Nat} (h1:Y6h cs x) (h2:i<cs.length) (h3:cs.length<=64) (k:∀v H',Y0->Y2E (gX (bN cs i))->Y1a):fM [x,.int (i:Int)] H Q E
inductive iE:Yh
 | i {H:Hp} {Q:VK} {E:XK} {x:V} {cs:Af} (h1:Y6h cs x) (h3:cs.length<=64) (k:Y2x (H D=none) (Y0p=Y0f->Y1m (((List.range cs.length).map (bN cs)).map gX) ys->Y0->Y1r)):iE [x] H Q E
section
def aEV(F:Y9 "one_more" "one_more" aA9)(T:Yb):dI P w K mg base cN 1 f fd a47 fM:=by
 refine F.oky aF3 λO H Q E h=>?_;obtain @⟨H,Q,E,x,d,i,I,r,U,k⟩:=h;refine Yf;intro D A e s M _;obtain⟨a,rfl,m⟩:=fS I;refine Y21 (Y4S K (Y4S K (Y5w K 0 iX (iW (aA 1))) (Y6E (bP eB (Y6S 0 1) aE))) (Y5w K 0 (iW (Y6w 1)) iX)) Y1l;refine zU m λS H2 g y=>Y0g;have j:uE (d.map FJ) (i:Int)=some (FJ (Y6Q i)):=cU (by rw[aR,bH,aD r];rfl);refine eX (g _ _ m) j Y7a;refine jT (by show 1<=64;decide) λN H3 C u l=>vV (l _ _ y) u (by rw[cW,aB];show YeP i+1<=1000;exact Oo) λL H4 n z=>Y56 _ _ _ _ rfl ?_;refine Y4;refine vE (k:=i+1) Oo (n _ _ (l _ _ (g _ _ m))) λW H5 p G=>vV (p _ _ z) G (by rw[bF,cW,List.length_drop,aB];show YeP i+1+(d.length-(i+1))<=1000;exact Oo) λR H6 J B=>k _ H6 ((((g.trans l).trans n).trans p).trans J) (oO ?_);rw[B,IE r,bG,bG,List.map_take,List.map_drop]
 rfl
def aEU(F:Y9 "ones_more" "ones_more" aA8)(T:Yb)(FQ61:Y06 "one_more" a47 fM):dI P w K mg base cN 2 f fd ["counts"] iE:=by
 refine F.oky aF2 λR H Q E h=>?_;obtain @⟨H,Q,E,x,d,p,C,k⟩:=h;refine Yf;intro u A g s O _;obtain⟨a,rfl,J⟩:=fS p;refine Y6M _ (Y7r ["face","counts"] [0] (Yas (by rfl) 0) (Y0w FQ61 1 0));refine Y6 (Y3J J);rw[aB];refine Y5L _ (Y8M (i<d.length/\bI H' (gX (bN d i)) y) (λi y H1 H2 s ⟨m,n⟩=>⟨m,n.flat s (gG _)⟩) Oo (λi H' Q' r G M=>?_) (λD B H4 I j z e l=>?_))
 ·rw[Int.zero_add];refine Y0g;exact fM.i (p.same G) Oo C λv H5 L N=>M _ H5 L ⟨Oo,N⟩
 ·refine k D B H4 I j ?_ z;refine aH.ofIdx (by rw[e,aB,aB,bC];exact Oo) λi y r=>?_;obtain⟨m,n⟩:=l i y r;exact⟨gX (bN d i),by rw[aR,aR,cX m];rfl,n⟩
end
abbrev aA1:Stmt:=(top 56)
def HZ:Ya ["trial","aim","prices","counts","worth_of","weights","dues","all_dues","sums","looks","met","worths_behind"] a31 aA1:={}
abbrev eE(ws:Y03):Ak:=ws.map λx=>x.2
def ci(c:Af):Ag:=c.map λ(n:Nat)=>(n:Int)
def eT(c:Af):(ci c).map V.int=c.map FJ:=by unfold ci;rw[List.map_map];rfl
def wY(c:Af):(ci c).sum=(c.sum:Nat):=by
 induction c with
 | nil=>rfl
 | cons a c ih =>
  have e:ci (a::c)=(a:Int)::ci c:=rfl;rw[e,List.sum_cons,List.sum_cons,ih];exact Oo
theorem mG:∀{a b:Af},ci a=ci b->a=b
 | [],[],_=>rfl
 | [],b::bs,h=>by cases h
 | a::as,[],h=>by cases h
 | a::as,b::bs,h=>by
  have h:(a:Int)::ci as=(b:Int)::ci bs:=h;injection h with h1 h2;rw[mG h2,show a=b by exact Oo]
structure DW(H:Hp)(kvs:Yw)(S:Ab)(val:Af->Fr):Prop where
 yes:∀c∈S,∃v,Y88 c=Yi/\Y1A (val c) v
 len:Y8O S.length
def DW.t{H H':Hp}{kvs:Yw}{S:Ab}{val:Af->Fr}(s:Y4n)(h:DW H kvs S val):DW H' kvs S val :=
 ⟨λc d=>by obtain⟨v,e,a⟩:=h.yes c d;exact Y5M e (a.flat s (Y0X)),h.len⟩
def aT.tT{H H':Hp}{p:Addr}(s:Y0l){kvs:Yw}(hp:H p=Y1I):Y4n:=λb a h=>s.at (BX h hp (by intro z;cases z)) h
def smQ(W F:Nat)(q:Nat->Y0S)(mix ps cs:Y0s):Nat->Af->Y3u
 | 0,c=>rQ W λv=>ps v*q v c
 | n+1,c=>rQ W (λv=>ps v*q v c)++[cs c.sum*dD W (λv=>mix v*q v c)+dD F (λj=>DC W F q mix ps cs n (bN c j))]
def LW(W F M:Nat)(q:Nat->Y0S)(mix ps cs:Y0s)(val:Y0S)(c:Af):Y3u:=rQ W (λv=>ps v*q v c)++if Y1z then[cs c.sum*Y6q W (mix v*q v c)+dD F (λj=>Y5u c j)] else[]
def FM{W F:Nat}{q:Nat->Y0S}{mix ps cs:Y0s}(n:Nat)(c:Af):DC W F q mix ps cs n c=vL (smQ W F q mix ps cs n c):=by cases n <;> rfl
abbrev lF(M Ns Nm Np Nc:Nat):Nat:=Np*Nc*Nm*Ns^M
section
variable{F W M:Nat}{ss:Ak}{mix ps cs:Al}{Ns Nm Np Nc B:Nat}
def fN(I:jE F W M ss mix ps cs Ns Nm Np Nc B){C:Nat}{f:Fr}(h:Y2o C f)(hC:C<=2^690):Y58:=mK h I.pos I.sz (Y6d hC)
def pY(I:jE F W M ss mix ps cs Ns Nm Np Nc B){C:Nat}{fs:Al}(h:∀f∈fs,Y2o C f)(hl:Y7K 64)(hC:C<=2^690):CV fs:=oQ h I.pos I.sz hl hC
def sN:1000000000000<=2^690:=Y6d (show 1000000000000<=2^40 by decide)
def pD:4*WB<=2^690:=aGv
def wC(I:jE F W M ss mix ps cs Ns Nm Np Nc B){n:Nat}(hn:n<=5):8^(n+1)*B<=WB :=
 aP (bT _ (Y5k Oo)) (aP (Nat.le_of_eq (show 8^7*B=2097152*B from rfl)) I.b)
def iM(ss:Ak)(ps:Al)(c:Af)(i:Nat):Fr:=jH (ps.getD i (0,1)) (lP ((ss.getD i []).zip c))
def rK(I:jE F W M ss mix ps cs Ns Nm Np Nc B){i:Nat}(hi:i<W)(c:Af):cT (lP ((ss.getD i []).zip c)) :=
 mP _ λz d=>((I.sh _ (eV (by rw[I.sl];exact hi))).2 z.1 (Yf3 z.1 z.2).1).low
def yR(I:jE F W M ss mix ps cs Ns Nm Np Nc B){i:Nat}(hi:i<W){c:Af}(hc:Y38 M):Y2o 1 (lP ((ss.getD i []).zip c)) :=
 Qn.f (rK I hi c) ((I.qn hi hc).dvd ⟨Np*Nc*Nm,by unfold lF;ac_rfl⟩)
def FA(I:jE F W M ss mix ps cs Ns Nm Np Nc B){i:Nat}(hi:i<W):Y2o B (ps.getD i (0,1)) :=
 (I.pr _ (eV (by rw[I.pl];exact hi))).dvd ⟨Nc*Nm*Ns^M,by unfold lF;ac_rfl⟩
def FB(I:jE F W M ss mix ps cs Ns Nm Np Nc B){i:Nat}(hi:i<W):Y2o 1 (mix.getD i (0,1)) :=
 (I.mx _ (eV (by rw[I.ml];exact hi))).dvd ⟨Np*Nc*Ns^M,by unfold lF;ac_rfl⟩
def OA(I:jE F W M ss mix ps cs Ns Nm Np Nc B){i:Nat}(hi:i<M):Y2o B (Yaf (0,1)) :=
 (I.co _ (eV (by rw[I.cl];exact hi))).dvd ⟨Np*Nm*Ns^M,by unfold lF;ac_rfl⟩
def mZ(I:jE F W M ss mix ps cs Ns Nm Np Nc B){i:Nat}(hi:i<W)(c:Af):cT (iM ss ps c i)/\rv (iM ss ps c i)=Y79*gI ss i c:=by
 have d:=(FA I hi).low;have a:=rK I hi c;exact⟨fR d a,hJ d.pos a.pos⟩
def yS(I:jE F W M ss mix ps cs Ns Nm Np Nc B){i:Nat}(hi:i<W){c:Af}(hc:Y38 M):Y2o B (iM ss ps c i) :=
 Qn.f (mZ I hi c).1 (by rw[(mZ I hi c).2];exact I.due hi hc)
def pZ(I:jE F W M ss mix ps cs Ns Nm Np Nc B){i:Nat}(hi:i<W)(c:Af):cT (iM ss mix c i)/\rv (iM ss mix c i)=Y1O mix*gI ss i c:=by
 have d:=(FB I hi).low;have a:=rK I hi c;exact⟨fR d a,hJ d.pos a.pos⟩
def IH(I:jE F W M ss mix ps cs Ns Nm Np Nc B){i:Nat}(hi:i<W){c:Af}(hc:Y38 M):Y2o 1 (iM ss mix c i) :=
 Qn.f (pZ I hi c).1 (by rw[(pZ I hi c).2];exact(I.met hi hc).dvd ⟨Np*Nc,by unfold lF;ac_rfl⟩)
end
def yJ{n:Nat}{g:Nat->Fr}(h:∀i,i<n->cT (g i)):cT (jQ ((List.range n).map g))/\rv (jQ ((List.range n).map g))=Y7v n (rv (g i)):=by
 have a:∀f∈(List.range n).map g,Y01:=λf c=>by
  obtain⟨i,d,rfl⟩:=aQ.mp c;exact h i (cB.mp d)
 refine Y0b (sB _ a);rw[tW _ a,List.map_map];rfl
abbrev FO(rs:Ab)(val:Af->Fr):PyData:=.tuple (rs.map λc=>Y7e (gX c) Y59)
abbrev OH(F W M:Nat)(ss:Ak)(mix ps cs:Al)(c:Af):Fr:=gM (wor F W M ss mix ps cs c)
structure QN(N:Nat)(qs:Y3u)(gs:Al):Prop where
 v:gs.map rv=qs
 n:∀g∈gs,Fn N WB g
 l0:0<gs.length
 l1:gs.length<=5
structure QO(K:Aa)(H:Hp)(fs:Al)(xs:An):Prop where
 len:Y2v fs.length
 at_:∀(i:Nat) (x:V),Y0Y=Y8->∃f,fs[i]?=Y8h/\FE K H f x
theorem QO.t{K:Aa}{H H':Hp}{fs:Al}{xs:An}(s:Y4n)(h:QO K H fs xs):QO K H' fs xs:=⟨h.len,λi x e=>by
 obtain⟨f,c,a⟩:=h.at_ i x e;exact⟨f,c,a.t s⟩⟩
def SaW(K:Aa)(H:Hp)(fs:Al)(z:V):Prop:=∃sa sx,z=.ref sa/\H sa=Ym sx/\QO K H fs sx
theorem SaW.t{K:Aa}{H H':Hp}{fs:Al}{z:V}(s:Y4n)(h:SaW K H fs z):SaW K H' fs z:=by
 obtain⟨g,d,e,c,a⟩:=h;exact⟨g,d,e,s _ _ c,a.t s⟩
def QO.get{K:Aa}{H:Hp}{fs:Al}{xs:An}(h:QO K H fs xs){i:Nat}{f:Fr}(e:fs[i]?=Y8h):∃x,Y0Y=Y8/\FE K H f x:=by
 have c:=(aO.mp e).1;have a:Y0Y=some (xs[i]'(by rw[h.len];exact c)):=aD (by rw[h.len];exact c);obtain⟨g,d,j⟩:=h.at_ i _ a;rw[e]at d;cases d;exact Y1x a j
def SaW.of{K:Aa}{H:Hp}{fs:Al}{v:V}(h:Y14 fs v):SaW K H fs v:=by
 obtain⟨a,d,rfl,c,r⟩:=gA h;refine⟨a,d,rfl,c,cC r,λi x e=>?_⟩;obtain⟨f,j,g⟩:=cR r e;exact⟨f,j,.inl g⟩
def wF(K:Aa)(H:Hp)(M:Nat)(bs mix cs:Al)(v:V):Prop:=∃a x1 x2 x3,v=Y3/\H a=Ym [.int (M:Int),x1,x2,x3]/\Y14 bs x1/\Y14 mix x2/\SaW K H cs x3
theorem wF.t{K:Aa}{H H':Hp}{M:Nat}{bs mix cs:Al}{v:V}(h:wF K H M bs mix cs v)(s:Y4n):wF K H' M bs mix cs v:=by
 obtain⟨a,e,m,j,l,d,c,i,g⟩:=h;exact⟨a,e,m,j,l,s _ _ d,c.flat s (dM _),i.flat s (dM _),g.t s⟩
def wF.same{K:Aa}{H H':Hp}{M:Nat}{bs mix cs:Al}{v:V}(h:wF K H M bs mix cs v)(s:Y0):wF K H' M bs mix cs v:=h.t s.t
inductive yA (K:Aa):Yh
 | i {H:Hp} {Q:VK} {E:XK} {tv av pv cv:V} {p:Addr} {fs:Ai} {ws:Y03} {bs mix ps cs:Al} {c:Af} {kvs:Yw} {val:Af->Fr} {F W M Ns Nm Np Nc B:Nat} (h1:Y40 tv) (h2:wF K H M bs mix cs av) (h3:Y14 ps pv) (h4:Y6h c cv) (h5:H p=Y1I) (I:jE F W M (Y0T) mix ps cs Ns Nm Np Nc B) (b:∀x∈ws,BOk 10 x.2) (cl:Y2B) (cm:Y38 M) (nv:Y1z->∀j,j<F->Y2o (Y0N*B) (Y5u c j)) (kn:Y1z->∀j,j<F->∃v,Y88 (bN c j)=Yi/\Y1A (Y5u c j) v) (k:∀D xs gs H',Y0->H D=none->Y0p=Y0o->YeU eA xs->QN (Y5O M Nm) (LW W F M (Y4W) (Y29) (cS ps) (Y1N) (YbD d) c) gs->Y1r):yA K [tv,av,pv,cv,Y0y] H Q E
def aH.ofRange{H:Hp}{n:Nat}{g:Nat->Fr}{ys:An}(hl:Y2Y n)(h:∀(i:Nat) (y:V),Y1t=Y0j->i<n/\Y1A (g i) y):Y18 (((List.range n).map g).map eA) ys:=by
 refine aH.ofIdx (by rw[aB,aB,bC,hl]) λi y d=>?_;obtain⟨c,a⟩:=h i y d;exact Y1x (by rw[aR,aR,cX c];rfl) a
def mH{H:Hp}{M:Nat}{bs mix cs:Al}{v:V}(h:Y0x (mY M bs mix cs) v):∃a x1 x2 x3,v=Y3/\H a=Ym [.int (M:Int),x1,x2,x3]/\Y14 bs x1/\Y14 mix x2/\Y14 cs x3:=by
 obtain⟨a,m,rfl,d,c⟩:=dW h;unfold aH aH aH aH aH at c;obtain⟨e,_,rfl,i,x1,_,rfl,j,x2,_,rfl,l,x3,_,rfl,g,rfl⟩:=c;cases(show e=V.int (M:Int)from i);exact Y5c a x1 x2 x3 d j l g
def kO{α:Type}{l:Yo}{i:Nat}{a d:α}(h:l[i]?=some a):l.getD i d=a:=by rw[bH,h];rfl
section
def aEN(F:Y9 "sums_at" "sums_at" aA1)(T:Yb)
  (FQ74:Y1B "weight" a43 (nK K)) (FQ73:Y06 "ways_of" a37 iA) (FQ70:Y82 "times" K) (FQ71:Y1B "total" ["some"] (jS K))
  (FQ57:Y1B "less" a02 (iQ K)) (FQ62:Y2Z "ones_more" ["counts"] iE) (FQ64:Y2Z "plus" a02 (lJ K)):dI P w K mg base cN 4 f fd a31 (yA K):=by
 refine Y1e HZ;obtain @⟨H,Q,E,tv,av,pv,cv,p,fs,ws,bs,m,r,ι,c,kvs,val,F,W,M,ο,υ,τ,ξ,B,rt,ra,rp,rc,hp,I,hb,hcl,D,nv,kn,k⟩:=h;refine Yf;intro cdv A outer s hr _;generalize hss:eE ws=l at I kn k;have lws:ws.length=W:=by have:=I.sl;rw[<-hss,aB]at this;exact this
 have hbB:=I.b;have hW1:=ZN;have w4:=I.w4;have w1:=I.w1;have U:B<=2^690:=aP Oo pD;obtain⟨ap,vp,rfl,hap,rvp⟩:=gA rp;obtain⟨ac,rfl,hac⟩:=fS rc;obtain⟨aa,xb,xm,xc,rfl,μ,rxb,rxm,rxc⟩:=ra;obtain⟨am,vm,rfl,ω,ai⟩:=gA rxm;obtain⟨ak,vk,rfl,hak,rvk⟩:=rxc;have lvp:vp.length=W:=by rw[cC rvp,I.pl]
 have lvm:vm.length=W:=by rw[cC ai,I.ml]
 refine⟨_,(aG (qG (i:=5) (dZ.o ["way","trial","counts"] [0,3]) HZ.nd rfl rfl (Y5h (Y3L FQ73)) (Y6y) (λ_ _ _ _=>(Y3y FQ74 1 0 2)))
  (aG (DA (i:=6) (eJ.o ["price","one"] ["price","one"] []) HZ.nd rfl rfl (yX true false rfl T.b_zip (Y2I 2 (aA 5))) (Y6y) (Yed FQ70 0 1))
  (aG (Y5D 7 HZ.nd (Y3o FQ71 6))
  (aG (qG (i:=8) (dZ.o ["due","all_dues"] [7]) HZ.nd rfl rfl (Y30 6) (Y6y) (Yed FQ57 1 0))
  (aG (bX (i:=9) HZ.nd (eP (sY K rfl) (by rfl) T.b_sum Kk (Y2s 3)))
  (aG (tS (fG (Y4R GO 9 Y0A) (aG (bX (i:=10) HZ.nd (fL FQ71 (sR (eJ.o ["share","one"] ["share","one"] []) (yX true false rfl T.b_zip (Y2V Y0A (aA 5))) (Y6y) (Yed FQ70 0 1))))
  (aG (bX (i:=11) HZ.nd (fL FQ71 (Y7r ["more","worth_of"] [4] (fV (Y3o FQ62 3)) (Y80 1 0))))
  (aK (Y85 qV 8 (bO FQ64 (bO FQ70 (aW aN Y0A (aA 9)) (aA 10)) (aA 11)))))) dB))
  (Y3v 8))))))),?_⟩
 refine Yp;intro ρ ν;refine Y6 (iA.i rt ?_);rw[lws];refine Y5L _ (Y8M (i<W/\FE K H' (lP ((l.getD i []).zip c)) y) (λi y H1 H2 s ⟨J,O⟩=>⟨J,O.t s⟩) Oo (λi H' Q' a z X=>?_) (λD5 zs H5 hD5 e5 s5 hz5 hr5=>?_))
 ·rw[Int.zero_add];have a:i<W:=Oo;obtain⟨x,G⟩:∃x,ws[i]?=Y8:=Y5C;refine Y1l;refine nK.i (rt.same z) G (rc.same z) (hb x (aF G)) (by have:=I.m5;exact Oo) λy H6 s6 r6=>X _ H6 s6 (Y0b a);have e:l.getD i []=x.2:=kO (by rw[<-hss,aR,G];rfl);rw[e];exact r6
 have lz:zs.length=W:=Oo;refine Yg;intro ρ ν;refine⟨_,rfl,_,rfl,ap,D5,vp,zs,rfl,s5 _ _ hap,e5,wT (xs:=vp) (ys:=zs) (λi y H'=>i<W/\Y3K (iM l r c i)) (λi y H1 H2 s ⟨J,O⟩=>⟨J,YeJ s⟩) Oo (s5 _ _ hap) e5 Oo (λi x y H' Q' G hy z X=>?_) (λD6 us H6 hD6 e6 s6 hu6 hr6=>?_)⟩
 ·obtain⟨f1,ζ,β⟩:=rvp.atI G;obtain⟨a,fy⟩:=hr5 i y hy;have e1:r.getD i (0,1)=f1:=kO ζ;refine Y0g;have θ:=FA I a;rw[e1]at θ;refine Yaa (β.same (s5.trans z)) ((fy.same z).v) θ.low (rK I a c) (fN I θ U) (Y3D I (yR I a D) Dd sN) ?_;intro q7 H7 hq7 e7 L;refine X _ H7 L ⟨a,cO ?_⟩;rw[e7];unfold iM;rw[e1]
 have r6:aH H6 (((List.range W).map (iM l r c)).map eA) us:=Y7D hr6;refine Yg;intro ρ ν;have S6:=s5.trans s6;obtain⟨tl,tvq⟩:=Ye0 W (iM l r c) ((mZ I a c).1);have dn:∀g∈(List.range W).map (iM l r c),Fn (lF M ο υ τ ξ) B g:=λg u=>by
  obtain⟨i,a,rfl⟩:=aQ.mp u;exact yS I (Y6Y) D
 refine Y4;refine Yal e6 r6 (pY I dn (by rw[aB,bC];exact Oo) U) (λv7 H7 L r7=>Yg);intro ρ ν;have tn:=Fn.tot _ dn;rw[aB,bC]at tn;have wB:W*B<=4*B:=bT _ w4;generalize htot:jQ ((List.range W).map (iM l r c))=tot at r7 tl tvq tn;refine Y31 D6 (L _ _ e6) (lB (λi y H'=>i<W/\Y3K (Y6o tot (iM l r c i))) (λi y H1 H2 s ⟨J,O⟩=>⟨J,YeJ s⟩) Oo (L _ _ e6) (λi x H' Q' G z X=>?_) (λD8 ys H8 hD8 e8 s8 hy8 hr8=>?_))
 ·obtain⟨a,rx⟩:=hr6 i x G;refine Yt (iQ.i (gD.of (r7.same z)) (gD.of (rx.same (L.trans z))) tl (mZ I a c).1 (Y3D I tn Oo pD) (fN I (yS I a D) U) ?_);intro q9 H9 hq9 e9 s9;exact X _ H9 s9 ⟨a,cO e9⟩
 have r8:aH H8 (((List.range W).map λi=>kH tot (pQ (iM l r c i))).map eA) ys:=Y7D hr8;refine Yg;intro ρ ν;have sv:((List.range W).map λi=>kH tot (pQ (iM l r c i))).map rv=rQ W λv=>cS r v*gI l v c:=by
  unfold rQ;rw[List.map_map];refine fD λi a=>?_;have a:=Y6Y;obtain⟨d1,d2⟩:=mZ I a c;show rv (Y6o tot (iM l r c i))=_;rw[oE tl.pos (oI d1).pos,show pQ (iM l r c i)=(-(iM l r c i).1,(iM l r c i).2)from rfl,zY,tvq,d2,<-Rat.sub_eq_add_neg];congr 1;exact dF λj hj=>(mZ I hj c).2
 have sn:∀g∈(List.range W).map (λi=>kH tot (pQ (iM l r c i))),Fn (lF M ο υ τ ξ) (W*B+B) g:=λg u=>by
  obtain⟨i,a,rfl⟩:=aQ.mp u;exact tn.add (yS I (Y6Y) D).neg
 have S8:=(S6.trans L).trans s8;have Z:H D8=none:=(S6.trans L).free hD8;refine Y6 (Ybj (ci c) (by rw[eT];exact fY.of (S8 _ _ hac)));rw[wY];refine Y2n (λσ H'=>∃(o10 af:Ao) (xs:An) (gs:Al),σ=[some tv,Y5A,Y2 ap,Y2 ac,Y1f,Y2 D5,Y2 D6,some v7,Y2 D8,Yk ((c.sum:Nat):Int),o10,af]/\Y0/\H' D8=Y0o/\YeU eA xs/\QN (lF M ο υ τ ξ) (LW W F M (gI l) (cS m) (cS r) (cS ι) (YbD d) c) gs)
 ·rintro σ H9 ⟨o10,af,xs,gs,rfl,S9,e9,r9,ok9⟩;exact Y6 (k D8 xs gs H9 S9 Z e9 r9 ok9)
 refine Y27 (S8 _ _ μ);refine Y2Q Y96
 ·have C:Y1z:=Oo;refine Yp;intro ρ ν;have S86:aX H5 H8:=(s6.trans L).trans s8;refine Yu (S8 _ _ μ);refine⟨_,rfl,am,D5,vm,zs,rfl,S8 _ _ ω,S86 _ _ e5,wT (xs:=vm) (ys:=zs) (λi y H'=>i<W/\Y3K (iM l m c i)) (λi y H1 H2 s ⟨J,O⟩=>⟨J,YeJ s⟩) Oo (S8 _ _ ω) (S86 _ _ e5) Oo (λi x y H' Q' G hy z X=>?_) (λD9 us9 H9 hD9 e9 s9 hu9 hr9=>?_)⟩
  ·obtain⟨f1,ζ,β⟩:=ai.atI G;obtain⟨a,fy⟩:=hr5 i y hy;have e1:m.getD i (0,1)=f1:=kO ζ;refine Y0g;have θ:=FB I a;rw[e1]at θ;refine Yaa (β.same (S8.trans z)) ((fy.same (S86.trans z)).v) θ.low (rK I a c) (Y3D I θ Dd sN) (Y3D I (yR I a D) Dd sN) ?_;intro q7 H7 hq7 e7 L;refine X _ H7 L ⟨a,cO ?_⟩;rw[e7];unfold iM;rw[e1]
  have r9:aH H9 (((List.range W).map (iM l m c)).map eA) us9:=Y7D hr9;have S9:=S8.trans s9;obtain⟨ml,mv⟩:=Ye0 W (iM l m c) ((pZ I a c).1);have mn:∀g∈(List.range W).map (iM l m c),Fn (lF M ο υ τ ξ) 1 g:=λg u=>by
   obtain⟨i,a,rfl⟩:=aQ.mp u;exact IH I (Y6Y) D
  refine Yal e9 r9 (pY I mn (by rw[aB,bC];exact Oo) (aP Dd sN)) (λv10 H10 s10 φ=>Yg);intro ρ ν;have κ:=Fn.tot _ mn;rw[aB,bC]at κ;generalize hmet:jQ ((List.range W).map (iM l m c))=met at φ ml mv κ;have S10:=S9.trans s10;refine Y4;refine iE.i (rc.same S10) (by have:=I.f4;exact Oo) λD11 ms H11 hD11 e11 ψ δ=>?_;have S11:=S10.trans δ;have lms:ms.length=F:=by rw[ψ.len,aB,aB,bC,hcl]
  refine Y1L D11 (Y9s e11) (lB (λi y H'=>i<F/\Y3K (Y5u c i)) (λi y H1 H2 s ⟨J,O⟩=>⟨J,YeJ s⟩) (by have:=I.f4;exact Oo) e11 (λi x H' Q' G z X=>?_) (λD12 us H12 hD12 e12 η hy12 ab=>?_))
  ·obtain⟨d,hd,rd⟩:=cR ψ G;have a:i<F:=by rw[<-lms];exact(aO.mp G).1
   have ed:d=bN c i:=by
    rw[aR,cX Oo]at hd;simpa using hd.symm
   subst ed;obtain⟨ad,rfl,had⟩:=fS (rd.same z);obtain⟨v,hv,rvv⟩:=kn C i a;refine Yt (QR ((S11.trans z) _ _ hp) (by rw[eT];exact had) hv ?_);exact X _ H' (Y07) ⟨a,rvv.same (S11.trans z)⟩
  have r12:aH H12 (((List.range F).map λi=>val (bN c i)).map eA) us:=Y7D ab;have S12:=S11.trans η;have wn:∀g∈(List.range F).map (λi=>val (bN c i)),Fn (lF M ο υ τ ξ) (Y0N*B) g:=λg u=>by
   obtain⟨i,a,rfl⟩:=aQ.mp u;have a:=Y6Y;exact nv C i a
  have b8:Y0N*B<=WB:=by
   have:=wC I (n:=Y2H-1) (by have:=I.m5;exact Oo)
   rwa [show M-c.sum-1+1=M-c.sum by exact Oo]at this
  obtain⟨wl,wv⟩:=Ye0 F (λi=>Y5u c i) ((nv C i a).low);refine Yal e12 r12 (pY I wn (by rw[aB,bC];have:=I.f4;exact Oo) (aP Oo pD)) (λv13 H13 ε ah=>?_);have R:=Fn.tot _ wn;rw[aB,bC]at R;generalize htw:jQ ((List.range F).map λi=>val (bN c i))=tw at ah wl wv R;have S13:=S12.trans ε;have S8_13:aX H8 H13:=((((s9.trans s10).trans δ).trans η).trans ε);obtain⟨vkk,hvk,ae⟩:=rvk.get (i:=c.sum) (f:=YcD (0,1)) (by rw[bH,aD (by rw[I.cl];exact C)];rfl);have cn:=OA I C;refine Y50 _ (QQ (S8_13 _ _ e8)) _ (Y3R (S13 _ _ μ));refine Y81 (S13 _ _ hak) hvk;refine Y4;have ag:=I.paid C;have em:rv met=Y6q W (cS m v*gI l v c):=by rw[mv];exact dF λj hj=>(pZ I hj c).2
  have χ:rv (jH (YcD (0,1)) met)=cS ι c.sum*Y6q W (cS m v*gI l v c):=by rw[hJ cn.low.pos ml.pos,em];rfl
  have N:Fn (lF M ο υ τ ξ) (4*B) (jH (YcD (0,1)) met):=Qn.f (fR cn.low ml) (by rw[χ];exact ag);refine eY.i (ae.t S13.t).v (gD.of (((φ.same δ).same η).same ε)) cn.low ml (fN I cn U) (Y3D I κ Oo sN) ?_;intro q14 H14 hq14 e14 S;refine Y4;have f4:=I.f4;have fB:F*(Y0N*B)<=4*(Y0N*B):=bT _ f4;refine lJ.i (gD.new (f:=jH (YcD (0,1)) met) e14) (gD.of (ah.same S)) N.low wl (Y3D I N Oo pD) (Y3D I R Oo pD) ?_;intro q15 H15 hq15 e15 γ;have α:=γ _ _ (S _ _ (S8_13 _ _ e8));refine EX α Oo λH16 e16 b16=>?_;have t16:=b16.t α;have S15:=(S13.trans S).trans γ;refine⟨_,_,_,((List.range W).map λi=>Y6o tot (iM l r c i))++[kH (jH (YcD (0,1)) met) tw],rfl,aX.thru Z S15 b16,e16,?_,?_,?_,?_,?_⟩
  ·rw[bG];exact Yav (r8.flat (((S8_13.trans S).trans γ).t.trans t16) (iH _)) t16 (cO e15)
  ·unfold LW;rw[bG,sv,if_pos C];congr 1;rw[bJ,List.map_nil];congr 1;rw[oE N.low.pos wl.pos,χ,wv]
  ·intro g u;rcases bY.mp u with u | u
   ·exact(sn g u).le Oo
   ·rw[aU.mp u];refine(N.add R).le ?_;have b9:=wC I (n:=Y2H) (by have:=I.m5;exact Oo);rw[Nat.pow_succ,Yep (8^_),Nat.mul_assoc]at b9;have J:1<=Y0N:=Ycm _ _;have hB:B<=Y0N*B:=Yfb J;exact Oo
  ·simp
  ·rw[bF,aB,bC];show W+1<=5;exact Oo
 ·have e0:Y2H=0:=Oo;refine⟨_,_,_,_,rfl,S8,e8,r8,?_,λg u=>(sn g u).le Oo,by rw[aB,bC];exact Oo,by rw[aB,bC];exact Oo⟩;unfold LW;rw[sv,Y8W,List.append_nil]
end
abbrev aBT:Stmt:=(top 70)
def aGr:Ya a00 a00 aBT:={}
abbrev aBL:Stmt:=(top 72)
def aGq:Ya a00 a00 aBL:={}
abbrev aBW:Stmt:=(top 69)
def aGs:Ya a07 a07 aBW:={}
abbrev sQ2:Stmt:=(top 73)
def cQ2:Ya a00 a00 sQ2:={}
abbrev aBI:Stmt:=(top 74)
def ZI:Ya ["_law_some_here","_law_found","_law_one"] a46 aBI:={}
abbrev aBG:Stmt:=(top 80)
def UZ:Ya ["_law_trial_here","_law_way","_law_counts_here","_law_found","_law_face","_law_k"] a15 aBG:={}
abbrev sQ4:Stmt:=(top 81)
def ZF:Ya ["_law_faces","_law_most","_law_found","_law_level","_law_k","_law_more_here","_law_counts_here","_law_face"] a41 sQ4:={}
inductive iP (K:Aa):Yh
 | i {H:Hp} {Q:VK} {E:XK} {x y:V} {f g:Fr} (h1:gD K H f x) (h2:gD K H g y) (l1:Y01) (l2:cT g) (z1:Y58) (z2:Y1q g) (q:BK H Q (kH f g)):iP K [x,y] H Q E
inductive fZ (K:Aa):Yh
 | i {H:Hp} {Q:VK} {E:XK} {x y:V} {f g:Fr} (h1:gD K H f x) (h2:gD K H g y) (l1:Y01) (l2:cT g) (z1:Y58) (z2:Y1q g) (q:BK H Q (jH f g)):fZ K [x,y] H Q E
section
def aFH(F:Y9 "_law_plus" "_law_plus" aBT)(T:Yb)(FQ8:Y8b "_law_frac" eQ):dI P w K mg base cN 2 f fd a00 (iP K):=by
 refine YaT aGr ?_;obtain @⟨H,Q,E,x,y,f,g,p,u,m,r,d,a,q⟩:=h;refine Yf;intro n A e s z _;obtain⟨B,rfl,l⟩:=p;obtain⟨D,rfl,j⟩:=u;refine Y21 (bO FQ8 (bP eB (Y97 eG) (bP eG (Y0A) (Y0R))) (Y97 eG)) (Y0c l);refine Y0c j;refine Y2R (qU d.1 a.2) (Y0c j);refine Y0c l;refine⟨_,_,rfl,rfl,qU a.1 d.2,_,_,rfl,rfl,Y0c l⟩;refine Y0c j;refine Y2R (qU d.2 a.2) (Y9h (YfP r.pos) (lI (zJ d.2 a.2)));exact q
def aFz(F:Y9 "_law_times" "_law_times" aBL)(T:Yb)(FQ8:Y8b "_law_frac" eQ):dI P w K mg base cN 2 f fd a00 (fZ K):=by
 refine YaT aGq ?_;obtain @⟨H,Q,E,x,y,f,g,p,u,m,r,e,d,q⟩:=h;refine Yf;intro n A a s z _;obtain⟨B,rfl,l⟩:=p;obtain⟨D,rfl,j⟩:=u;refine Y21 (bO FQ8 (Y97 eG) (Y97 eG)) (Y0c l);refine Y0c j;refine Y2R (qU e.1 d.1) (Y0c l);refine Y0c j;refine Y2R (qU e.2 d.2) (Y9h (YfP r.pos) (lI (zJ e.2 d.2)));exact q
end
inductive kY (K:Aa):Yh
 | i {H:Hp} {Q:VK} {E:XK} {a:Addr} {xs:An} {fs:Al} (h:H a=Y0o\/H a=Y0k) (r:sO K H fs xs) (ok:CV fs) (q:∀v H',Y0->Y4o (jQ fs)->Y1a):kY K Y3b H Q E
section
def aFw(F:Y9 "_law_total" "_law_total" aBI)(T:Yb)
  (FQ13:Y8c "_law_plus" (iP K)):dI P w K mg base cN 3 f fd a46 (kY K):=by
 refine Ych ZI ?_;obtain @⟨H,Q,E,a,G,fs,m,D,ok,q⟩:=h;refine Yf;intro N A z s U _;have l:=D.len;refine⟨_,(aG (Y8U ZI.nd Y4L)
  (aG (Y33 (ZX (Y30 0) (Y49 0)) 2 ZI.nd (Y8U ZI.nd (Y0w FQ13 1 2)))
  (Y3v 1))),?_⟩
 refine Yp;intro O W;refine jT (by show 2<=64;decide) λX H0 S M s0=>?_;rcases m with m | m
 ·refine .inl (Y31 a (s0 _ _ m) (jU (xs:=G) (λi σ H'=>Ex2 λw j=>Yak (σ=[Y2b,Y74,j]) (Y2G H' YbE w)) (Y1C _ s0 (cO M)) (YaS) ?_ ?_))
  ·obtain⟨w,j,rfl,d,_⟩:=p;exact gW.of (d _ _ m)
  ·rintro i x σ H1 I ⟨w,j,rfl,d,e⟩;refine Y2z;intro O;obtain⟨g,n,y⟩:=D.at_ i x I;have r:=aF n;obtain⟨J,L⟩:=ok.part i;refine Yt (YbG e (gD.same d y) J (YbU r) L (ok.sz _ r) ?_);intro R H2 u C B;refine Y1C _ (d.trans B) ?_;rw[dS n,lV];exact cO C
  ·rintro σ H1 ⟨w,j,rfl,d,e⟩;refine Y4;rw[l,cM]at e;exact q _ H1 d e
 ·refine .inr (Y4b a (s0 _ _ m) (Yck G (Ex2 λw j=>Yak (σ=[Y2b,Y74,j]) (Y2G H' YbE w)) (Y1C _ s0 (cO M)) YaS ?_ ?_))
  ·obtain⟨w,j,rfl,d,_⟩:=p;exact fY.of (d _ _ m)
  ·rintro i x σ H1 I ⟨w,j,rfl,d,e⟩;obtain⟨g,n,y⟩:=D.at_ i x I;have r:=aF n;obtain⟨J,L⟩:=ok.part i;refine Yt (YbG e (gD.same d y) J (YbU r) L (ok.sz _ r) ?_);intro R H2 u C B;refine Y1C _ (d.trans B) ?_;rw[dS n,lV];exact cO C
  ·rintro σ H1 ⟨w,j,rfl,d,e⟩;refine Y4;rw[l,cM]at e;exact q _ H1 d e
end
section
def oQ2(F:Y9 "_law_below" "_law_below" sQ2)(T:Yb):dI P w K mg base cN 1 f fd a00 (iN K):=by
 refine F.oky cQ2 λp H Q E h=>?_;obtain @⟨H,Q,E,x,y,f,g,⟨n,rfl,i⟩,⟨r,rfl,d⟩,j,e,q⟩:=h;refine Yf;intro l A a s m _;refine Y21 (kE GO (Y97 eG) (bP eG (Y0A) (Y0R))) (Y0c i);refine Y0c d;refine Y2R (qU j.1 e.2) (Y0c d);refine Y0c i;exact⟨_,_,rfl,rfl,qU e.1 j.2,_,_,rfl,rfl,q⟩
end
section
def aFK(F:Y9 "_law_more" "_law_more" aBW)(T:Yb):dI P w K mg base cN 1 f fd a07 fM:=by
 refine F.oky aGs λO H Q E h=>?_;obtain @⟨H,Q,E,x,d,i,I,r,U,k⟩:=h;refine Yf;intro D A e s M _;obtain⟨a,rfl,m⟩:=fS I;refine Y21 (Y4S K (Y4S K (Y5w K 0 iX (iW (aA 1))) (Y6E (bP eB (Y6S 0 1) aE))) (Y5w K 0 (iW (Y6w 1)) iX)) Y1l;refine zU m λS H2 g y=>Y0g;have j:uE (d.map FJ) (i:Int)=some (FJ (Y6Q i)):=cU (by rw[aR,bH,aD r];rfl);refine eX (g _ _ m) j Y7a;refine jT (by show 1<=64;decide) λN H3 C u l=>vV (l _ _ y) u (by rw[cW,aB];show YeP i+1<=1000;exact Oo) λL H4 n z=>Y56 _ _ _ _ rfl ?_;refine Y4;refine vE (k:=i+1) Oo (n _ _ (l _ _ (g _ _ m))) λW H5 p G=>vV (p _ _ z) G (by rw[bF,cW,List.length_drop,aB];show YeP i+1+(d.length-(i+1))<=1000;exact Oo) λR H6 J B=>k _ H6 ((((g.trans l).trans n).trans p).trans J) (oO ?_);rw[B,IE r,bG,bG,List.map_take,List.map_drop]
 rfl
end
theorem kB{α:Type}[DecidableEq α]:∀{l m:Yo},l.Nodup->(∀x∈l,x∈m)->l.length<=m.length
 | [],m,_,_=>dH _
 | x::l,m,h,hs=>by
  rw[List.nodup_cons]at h;have hx:=hs x (aV ..);have c:=kB (l:=l) (m:=m.erase x) h.2 λy a=>(List.mem_erase_of_ne (λe=>by subst e;exact h.1 a)).mpr (hs y (aZ _ a));rw[List.length_erase_of_mem hx]at c;have:0<m.length:=List.length_pos_of_mem hx;rw[cE];exact Oo
def JZ{kvs:Yw}{ks:Ac}{v:V}(c:Ag)(hk:kvs.map (·.1)=ks.map kT)(nd:ks.Nodup):∃ks2:Ac,(jL kvs (kT c) v).map (·.1)=ks2.map kT/\ks2.Nodup/\∀x,x∈ks2↔x∈ks\/x=c:=by
 cases e:Y8N (kT c)with
 | some u =>
  refine⟨ks,by rw[pI (by rw[e];rfl),hk],nd,λx=>YbR .inl ?_⟩;rcases h with h | rfl
  ·exact h
  ·have:kT x∈kvs.map (·.1):=LP e;rw[hk]at this;obtain⟨y,i,g⟩:=aQ.mp this;rw[<-qZ g];exact i
 | none =>
  have j:c ∉ ks:=λh=>by
   have:kT c∈kvs.map (·.1):=by rw[hk];exact List.mem_map_of_mem h
   exact RG e this
  refine⟨ks++[c],by rw[GL v e,bG,bG,hk];rfl,Yfy nd (by simp) (λa d b l e=>by cases aU.mp l;subst e;exact j d),λx=>by rw[bY,aU]⟩
def NR:∀F,F<=4->∀m,m<=5->((cta F m).map ci).Pairwise (λa b=>lQ a b=true):=Kk
def sF:∀F,F<=4->∀M,M<=5->(Yy).length<=400:=λF a M c=>tF F a (M+1) Oo
inductive lX:Yh
 | i {H:Hp} {Q:VK} {E:XK} {tv cv:V} {fs:Ai} {ws:Y03} {x:Str × Al} {cs:Af} {i N:Nat} (h1:Y40 tv) (h2:ws[i]?=Y8) (h3:Y6h cs cv) (h4:x.2.length=cs.length) (h5:∀f∈x.2,Y4N N) (h6:0<N) (h7:N^cs.sum<2^3000) (h8:cs.length<=4) (h9:cs.sum<=100) (k:∀v H',Y0->Y4o (lP (x.2.zip cs))->Y1a):lX [tv,.int (i:Int),cv] H Q E
def RN{cs:Af}{i n:Nat}(h:cs[i]?=Y75):(cs.take i).sum+n<=cs.sum:=by
 have e:cs.take (i+1)=cs.take i++[n]:=dS h;have:=List.take_append_drop (i+1) cs;have a:=congrArg List.sum this;rw[e,List.sum_append,List.sum_append,List.sum_singleton]at a;exact Oo
inductive mB:Yh
 | i {H:Hp} {Q:VK} {E:XK} {F M:Nat} (h1:2<=F) (h2:F<=4) (h3:M<=5) (k:∀a H',Y0->H a=none->tI H' a (Yy)->Y0i a):mB [.int (F:Int),.int (M:Int)] H Q E
def ctI(c:Af):PyData.tuple ((ci c).map .int)=gX c:=by unfold ci;rw[List.map_map];rfl
section
def aFu(F:Y9 "_law_weight" "_law_weight" aBG)(T:Yb)(FQ21:Y8c "_law_times" (fZ K)):dI P w K mg base cN 3 f fd a15 lX:=by
 refine Y1e UZ;obtain @⟨H,Q,E,tv,cv,fs,ws,x,d,κ,N,rt,hx,ω,hl,δ,N0,φ,c4,ρ,k⟩:=h;refine Yf;intro υ A M s hr _;obtain⟨at_,af,aw,xf,xw,rfl,R,hf,hw,rf,Z⟩:=tJ rt;obtain⟨u,hu,ru⟩:=gB Z hx;obtain⟨b,us,rfl,τ,β⟩:=dW ru;obtain⟨y,z,rfl,hy,B⟩:=gH β;obtain⟨as_,xs,rfl,S,ε⟩:=gA B;obtain⟨ξ,rfl,r⟩:=fS ω;refine⟨_,(aG (Y13 UZ.nd Y4L)
  (aG (Y33 (Yas (by rfl) 2) 4 UZ.nd (Y33 (Y5h (Y6S 2 4)) 5 UZ.nd (Y13 UZ.nd (Y0O FQ21 3 (aW aN (Y28 (aW aN Y0R (aA 1))) (aA 4))))))
  (Y3v 3))),?_⟩
 refine Yp;intro ο n_;refine jT (by show 2<=64;decide) λq0 H0 χ e0 s0=>Y4;refine Y3J (s0 _ _ r);rw[aB];refine Y5L _ ?_;rw[Int.toNat_natCast];have low:∀i,∀z∈(x.2.zip d).take i,cT z.1:=λi z B=>(δ _ (nH B)).low;refine Y8F (Ex4 λ(v:V) (f:Fr) (η p:Ao)=>WA (σ=[Y48,Yk (κ:Int),Y2 ξ,Yi,η,p]) (Y0) (Y4o f) (Y01) (Qn (N^(d.take i).sum) 1 (Y0v)) (Y0v=rv (lP ((x.2.zip d).take i)))) ⟨_,(1,1),_,_,rfl,s0,cO e0,JY,?_,rfl⟩ ?_ ?_
 ·rw[List.take_zero];exact⟨1,by rw[pG];simp,by simp⟩
 ·rintro i σ H1 ψ ⟨v,f,η,p,rfl,S1,J,O,ν,I⟩;refine Y2z;intro ο;obtain⟨n,G⟩:∃n,d[i]?=Y75:=Y1i ψ;obtain⟨g,W⟩:∃g,x.2[i]?=Y5y:=Y5C;have e:=δ g (aF W);obtain⟨vg,γ,ζ⟩:=gB ε W;have ts:=RN G;rw[show(0:Int)+(i:Int)=(i:Int)by exact Oo];refine Y0g;have C:uE (d.map FJ) (i:Int)=some (FJ n):=cU (by rw[aR,G];rfl);refine eX (S1 _ _ r) C (Y5L _ ?_);rw[Int.toNat_natCast];refine gC (λj σ H'=>ZU λ(v:V) (f:Fr) (p:Ao)=>WA (σ=[Y48,Yk (κ:Int),Y2 ξ,Yi,Yk (i:Int),p]) (Y0) (Y4o f) (Y01) (Qn (N^((d.take i).sum+j)) 1 (Y0v)) (Y0v=rv (lP ((x.2.zip d).take i))*rv g^j)) (Y2w v f _ S1 J O ν (by rw[I,Rat.pow_zero];grind)) ?_ ?_
  ·rintro j σ H2 hj ⟨μ,L,ι,rfl,S2,X,l,D,θ⟩;refine Y2z;intro ο;refine Y27 (S2 _ _ R);refine Y81 (S2 _ _ hw) hu;refine Y3Q (S2 _ _ τ) (Y81 (S2 _ _ S) γ);have U:∀{m:Nat},m<=d.sum->0<N^m/\N^m<2^3000:=λhm=>⟨Nat.pow_pos N0,bS (aJ N0 hm) φ⟩;have z1:Y1q L:=YdE (Qn.f l D) ((U Oo).1) ((U Oo).2);have z2:Y1q g:=by
    have α:=U (m:=1) Oo;rw[Nat.pow_one]at α;exact YdE e α.1 α.2
   refine Y6F (gD.of X) (ζ.same S2) l e.low z1 z2 ?_;intro q3 H3 hq3 e3 s3;refine Y2w _ (jH L g) _ (S2.trans s3) (cO e3) (fR l e.low) ?_ ?_
   ·rw[hJ l.pos e.low.pos,<-Nat.add_assoc,Nat.pow_succ];exact D.mul e.q
   ·rw[hJ l.pos e.low.pos,θ,Rat.pow_succ];grind
  ·rintro σ H2 ⟨μ,L,ι,rfl,S2,X,l,D,θ⟩;refine⟨μ,L,_,_,rfl,S2,X,l,?_,?_⟩
   ·rw[dS G,List.sum_append,List.sum_singleton];exact D
   ·rw[dS (LC W G),sQ,hJ (mP _ (low i)).pos (mV e.low n).pos,JI e.low,θ]
 ·rintro σ H1 ⟨v,f,η,p,rfl,S1,J,O,ν,I⟩;refine Y4;rw[List.take_of_length_le (by rw[List.length_zip];exact Oo)]at I;have:f=lP (x.2.zip d):=gL O (mP _ λz B=>(δ z.1 (List.of_mem_zip (a:=z.1) (b:=z.2) B).1).low) I;rw[this]at J;exact k v H1 S1 J
def oQ4(F:Y9 "_law_counts" "_law_counts" sQ4)(T:Yb)(FQ10:Y06 "_law_more" a07 fM):dI P w K mg base cN 2 f fd a41 mB:=by
 refine Y1e ZF;obtain @⟨H,Q,E,F,M,f2,υ,m5,k⟩:=h;refine Yf;intro cdv A χ s hr _;refine⟨_,(aG (Y1T ZF.nd (jN (Y1h (Y0F yM (Y6E aE) 0))))
  (aG (Y13 ZF.nd (jO vW (by rfl) T.b_list Kk (Y2s 2)))
  (aG (eO PassesOwn.never rfl (Y6J 1) (Y5R 4 ZF.nd) (aG (Y62 ZF.nd sA)
  (aG (Y33 (Y30 3) 6 ZF.nd (Y33 (Y6J 0) 7 ZF.nd (jI hr.u1 (aA 5) (Y0w FQ10 6 7) jP)))
  (aG (Y13 ZF.nd (eP (NU rfl) (by rfl) T.b_sorted Kk (Y2s 5)))
  (aK (Y1T ZF.nd (Y5v TK 2 3)))))))
  (Y3v 2)))),?_⟩
 refine Yp;intro X ρ;refine jT (by show 1<=64;decide) λq1 H1 hq1 e1 s1=>Y4;refine YJ (k:=F) e1 f2 Oo λβ H2 s2 e2=>GR (by show 1<=64;decide) λq3 H3 hq3 e3 s3=>Yg;intro X ρ;have r3:aH H3 ((cta F 0).map gX) (Y3F β):=by
  rw[vS F Oo];refine Y3U (oO ?_);rw[s3 _ _ e2,List.map_replicate];rfl
 have S3:=(s1.trans s2).trans s3;refine⟨_,rfl,q3,_,rfl,.inl (gW.of e3),λξ hq4=>?_⟩;have η:=aX.upd (o:=.lst [V.ref β]) hq4;have e4:(upd H3 ξ (.lst [V.ref β])) ξ=Y05 [V.ref β]:=bK;generalize upd H3 ξ (.lst [V.ref β])=H4 at η e4;refine Y2T _ rfl _ Oo Oo ?_;rw[Int.toNat_natCast];refine gC (λi σ H'=>Ex8 λ(a b:Addr) (xs U:An) (o4 ψ ζ L:Ao)=>An7 (σ=[Yk (F:Int),Yk (M:Int),Y2b,Y2 b,o4,ψ,ζ,L]) (Y0) (H a=none) (H' a=Y0o) (Y1m ((rise F i).map gX) xs) (Y1E=Y05 U) (Y1m ((cta F i).map gX) U))
  ⟨q3,ξ,_,_,_,_,_,_,rfl,S3.trans η,(s1.trans s2).free hq3,η _ _ e3,by rw[OT];exact r3.same η,e4,r3.same η⟩ ?_ ?_
 ·rintro i σ H5 hi ⟨a,b,xs,U,o4,ψ,ζ,L,rfl,S5,δ,Z,θ,α,rb⟩;refine Y69;intro X ρ;have cs1:=mF F υ i Oo;have cs2:=mF F υ (i+1) Oo;have ab:U.length=(Y2N i).length:=cC rb;intro p ν;refine Yg;intro X ρ;have O:=Y9E [] ν;have ο:(upd H5 p (.dT [])) p=Y0P []:=bK;generalize upd H5 p (.dT [])=H6 at O ο;have ae:a≠p:=λz=>by rw[z,ν]at Z;cases Z
  have nbp:b≠p:=λz=>by rw[z,ν]at α;cases α
  refine Y31 b (O _ _ α) ?_;have γ:∀(j:Nat) (d:Ag),(∃c∈(cta F i).take j,∃f,f<F/\d=ci (bN c f))->d∈(cta F (i+1)).map ci:=λj d ⟨c,r,f,n,e⟩=>aQ.mpr ⟨Y0q c,(vT Oo).mpr ⟨c,List.mem_of_mem_take r,f,n,rfl⟩,e.symm⟩;refine jU (xs:=U) (Ycq (λ(ζ L:Ao) (l:List (List fK × V)) (u:Ac)=>WA (σ=[Yk (F:Int),Yk (M:Int),Y2b,Y2 b,Yk (0+(i:Nat)),Y1f,ζ,L]) (Y5U p H6) (H' p=Y0P l) (l.map (·.1)=u.map kT) (u.Nodup) (∀d,d∈u ↔ ∃c∈(cta F i).take j,∃f,f<F/\d=ci (bN c f))))
   ⟨_,_,[],[],rfl,(Y07).but,ο,rfl,List.nodup_nil,λd=>⟨(λh=>by cases h),λ⟨c,r,_⟩=>by rw[List.take_zero]at r;cases r⟩⟩ (Y8v) ?_ ?_
  ·obtain⟨_,_,_,_,_,b',_⟩:=q;exact Ybg nbp (O _ _ α)
  ·rintro j x σ H7 hx ⟨ad,af,l,u,rfl,W,ι,hk,nd,φ⟩;refine Y2z;intro X;obtain⟨S,r,rc⟩:=cR rb hx;have t7:dG H6 H7:=aT.tT W ο;have rc7:bI H7 (gX S) x:=(rc.same O).flat t7 (gG _);obtain⟨lc,_⟩:=iZ (aF r);refine Y2T _ rfl _ Oo Oo ?_;rw[Int.toNat_natCast];refine gC (λg σ H'=>ZU λ(L:Ao) (l:List (List fK × V)) (u:Ac)=>WA (σ=[Yk (F:Int),Yk (M:Int),Y2b,Y2 b,Yk (0+(i:Nat)),Y1f,Y8,L]) (Y5U p H7) (H' p=Y0P l) (l.map (·.1)=u.map kT) (u.Nodup) (∀d,d∈u↔(∃c∈(cta F i).take j,∃f,f<F/\d=ci (bN c f))\/∃f,f<g/\d=ci (bN S f)))
    (Y2w _ l u ((Y07).but) ι hk nd (λd=>by rw[φ];exact YbR .inl (by rcases h with h | ⟨f,n,_⟩;exact h;exact Oo))) ?_ ?_
   ·rintro g σ H8 hg ⟨ε,B,I,rfl,κ,R,G,C,D⟩;refine Y2z;intro X;have t8:dG H7 H8:=aT.tT κ ι;rw[show(0:Int)+(g:Int)=(g:Int)by exact Oo];refine Y1l;refine fM.i (i:=g) (rc7.flat t8 (gG _)) Oo Oo λv9 H9 J r9=>?_;obtain⟨a9,rfl,h9⟩:=fS r9;have lk:I.length<=56:=by
     have:=kB C (m:=(cta F (i+1)).map ci) λd hd=>by
      rcases(D d).mp hd with h | ⟨f,n,e⟩
      ·exact γ j d h
      ·exact γ (j+1) d ⟨S,by rw[dS r];exact bZ _ (Ybq),f,Oo,e⟩
     rw[aB]at this;exact Oo
    have lkv:B.length=I.length:=by have:=Y4t G;simpa using this
    have e9p:=J _ _ R;refine Y5Y e9p (ci (bN S g)) (by rw[eT];exact h9) (λH10 e10 b10=>?_);obtain⟨aa,k1,k2,k3⟩:=JZ (v:=Y44) (ci (bN S g)) G C;refine Y2w _ _ aa ((κ.trans J.but).trans b10) e10 k1 k2 Y45;rw[k3,D];constructor
    ·rintro((h | ⟨f,n,e⟩) | h)
     ·exact .inl h
     ·exact Y2j f Oo e
     ·exact Y2j g Oo h
    ·rintro(h | ⟨f,n,e⟩)
     ·exact Y9U h
     ·by_cases q:f=g
      ·subst q;exact .inr e
      ·exact .inl (Y2j f Oo e)
   ·rintro σ H8 ⟨ε,B,I,rfl,κ,R,G,C,D⟩;refine⟨_,_,B,I,rfl,W.trans κ,R,G,C,Y45⟩;rw[D,dS r];constructor
    ·rintro(⟨c,N,f,n,e⟩ | ⟨f,n,e⟩)
     ·exact⟨c,cD _ N,f,n,e⟩
     ·exact⟨S,bZ _ (Ybq),f,n,e⟩
    ·rintro⟨c,N,f,n,e⟩;rcases bY.mp N with h | h
     ·exact .inl ⟨c,h,f,n,e⟩
     ·rw[aU.mp h]at e;exact Y2j f n e
  ·rintro σ H7 ⟨ad,af,l,u,rfl,W,ι,hk,nd,φ⟩;refine Y3t;intro X ρ;rw[ab,cM]at φ;have y:∀d,d∈u↔d∈(cta F (i+1)).map ci:=λd=>by
    rw[φ,aQ];constructor
    ·rintro⟨c,r,f,n,e⟩;exact⟨Y0q c,(vT Oo).mpr ⟨c,r,f,n,rfl⟩,e.symm⟩
    ·rintro⟨d',hd',rfl⟩;obtain⟨c,r,f,n,rfl⟩:=(vT Oo).mp hd';exact⟨c,r,f,n,rfl⟩
   have lk:u.length<=56:=by
    have:=kB nd (m:=(cta F (i+1)).map ci) λd hd=>(y d).mp hd;rw[aB]at this;exact Oo
   refine Y4;refine rsrd (cs:=u) ι hk (λc r=>?_) Oo λq8 ac ds H8 pm pw hq8 R μ τ=>?_
   ·obtain⟨d,hd,rfl⟩:=aQ.mp ((y c).mp r);obtain⟨l1,_⟩:=iZ hd;intro z;have e:(ci d).length=d.length:=by unfold ci;rw[aB]
    rw[z,List.length_nil]at e;exact Oo
   have eds:ds=(cta F (i+1)).map ci:=vM pw (NR F υ (i+1) Oo) λd=>by rw[pm.mem_iff];exact y d
   rw[eds,List.map_map,show(cta F (i+1)).map ((λc:Ag=>PyData.tuple (c.map .int)) ∘ ci)=(cta F (i+1)).map gX from fD λc _=>ctI c]at μ;have t7:dG H5 H7:=O.t.trans (aT.tT W ο);have S7:aX H H7:=aX.thru (S5.free ν) (S5.trans O) W;have ea8:H8 a=Y0o:=τ _ _ (W.at ae (O _ _ Z));have ω:=(aH.flat t7 (iO _) θ).same τ;have l8:ac.length<=56:=by rw[cC μ];exact cs2
   have lxs:Y5Z 400:=by rw[cC θ];exact sF F υ i Oo
   refine Y0g;refine aDY ea8 R Oo λq9 H9 hq9 e9 J=>⟨q9,q8,_,_,_,_,_,_,rfl,(S7.trans τ).trans J,(S7.trans τ).free hq9,e9,?_,J _ _ R,μ.same J⟩;rw[OU,bG];exact aH.app (ω.same J) (μ.same J)
 ·rintro σ H5 ⟨a,b,xs,U,o4,ψ,ζ,L,rfl,S5,δ,Z,θ,α,rb⟩;exact Y6 (k a H5 S5 δ ⟨xs,Z,θ⟩)
end
abbrev aBM:Stmt:=(top 82)
def ES:Ya ["_law_trial_here","_law_aim_here","_law_prices","_law_known","_law_counts_here","_law_weights","_law_found","_law_say","_law_parts","_law_k","_law_share","_law_some_here","_law_face"] a03 aBM:={}
abbrev aBF:Stmt:=(top 83)
def UY:Ya ["_law_trial_here","_law_aim_here","_law_prices","_law_known","_law_counts_here","_law_some_here","_law_one"] a29 aBF:={}
inductive mT:Yh
 | i {H:Hp} {Q:VK} {E:XK} {tv av pv cv:V} {p:Addr} {fs:Ai} {ws:Y03} {bs mix ps cs:Al} {c:Af} {kvs:Yw} {val:Af->Fr} {F W M Ns Nm Np Nc B:Nat} (h1:Y40 tv) (h2:Y2K M) (h3:Y14 ps pv) (h4:Y6h c cv) (h5:H p=Y1I) (I:jE F W M (Y0T) mix ps cs Ns Nm Np Nc B) (b:0<Ns) (cl:Y2B) (cm:Y38 M) (nv:Y1z->∀j,j<F->Y2o (Y0N*B) (Y5u c j)) (kn:Y1z->∀j,j<F->∃v,Y88 (bN c j)=Yi/\Y1A (Y5u c j) v) (k:∀D xs gs H',Y0->H D=none->Y0p=Y0o->YeU eA xs->QN (Y5O M Nm) (LW W F M (Y4W) (Y29) (cS ps) (Y1N) (YbD d) c) gs->Y1r):mT [tv,av,pv,Y0y,cv] H Q E
def WX{l:Af}{g:Nat->Fr}(h:∀i∈l,cT (g i)):cT (jQ (l.map g))/\rv (jQ (l.map g))=rP (l.map λi=>rv (g i)):=by
 have a:∀f∈l.map g,Y01:=λf c=>by
  obtain⟨i,d,rfl⟩:=aQ.mp c;exact h i d
 refine Y0b (sB _ a);rw[tW _ a,List.map_map];rfl
def JQ{H:Hp}{g:Nat->Fr}:∀{as:Af}{ys:An},YbN (λi y=>Y1A (g i) y) ys->Y18 ((as.map g).map eA) ys:=λa=>by
 rw[List.map_map];exact Paired.toRepL a
section
def aFA(F:Y9 "_law_sums" "_law_sums" aBM)(T:Yb)
  (FQ26:Y1B "_law_weight" a15 lX) (FQ21:Y8c "_law_times" (fZ K)) (FQ24:Y1B "_law_total" a46 (kY K)) (FQ10:Y06 "_law_more" a07 fM):dI P w K mg base cN 4 f fd a03 mT:=by
 refine Y1e ES;obtain @⟨H,Q,E,tv,av,pv,cv,p,fs,ws,bs,C,J,cs,c,kvs,val,F,W,M,O,θ,η,δ,B,rt,ra,rp,rc,hp,I,hNs,hcl,γ,nv,kn,k⟩:=h;refine Yf;intro cdv A outer s hr _;generalize hss:eE ws=u at I kn k;have lws:ws.length=W:=by have:=I.sl;rw[<-hss,aB]at this;exact this
 have hbB:=I.b;have w4:=I.w4;have w1:=I.w1;have f4:=I.f4;have ρ:B<=2^690:=aP (show B<=4*WB by exact Oo) pD;have l:1<=2^690:=Nat.one_le_two_pow;obtain⟨ap,vp,rfl,hap,rvp⟩:=gA rp;obtain⟨ac,rfl,hac⟩:=fS rc;obtain⟨aa,xb,xm,xc,rfl,haa,rxb,rxm,rxc⟩:=mH ra;obtain⟨am,vm,rfl,ham,rvm⟩:=gA rxm;obtain⟨ak,vk,rfl,hak,rvk⟩:=gA rxc;obtain⟨at_,af,aw,xf,xw,rfl,hat,hf,hw,rf,rw'⟩:=tJ rt;have lxw:xw.length=W:=by rw[cC rw',lws]
 have lvp:vp.length=W:=by rw[cC rvp,I.pl]
 have lvm:vm.length=W:=by rw[cC rvm,I.ml]
 refine⟨_,(aG (Y5D 5 ES.nd (Y7r ["_law_way","_law_trial_here","_law_counts_here"] [0,4] (Y5h (Y6O gO (by rfl) Kk 0)) (Y3y FQ26 1 0 2)))
  (aG (Y5o ES.nd (jN aI))
  (aG (eO PassesOwn.never rfl (Yas (by rfl) 5) (cQ (i:=7) ES.nd rfl (Or.inr rfl)) (aG (qG (i:=8) (dZ.o ["_law_way","_law_prices","_law_weights","_law_say"] [2,5,7]) ES.nd rfl rfl (Yas (by rfl) 5) (λ_ _ _ _=>LD (Y4R GN 0 (aA 3))) (λ_ _ _ _=>(bO FQ21 (aW (gU K) (aA 1) (aA 0)) (aW (gU K) (aA 2) (aA 0)))))
  (aK (Y85 qV 6 (Y3o FQ24 8)))))
  (aG (bX (i:=9) ES.nd (eP (sY K rfl) (by rfl) T.b_sum Kk (Y2s 4)))
  (aG (tS (fG (Y4R GO 9 Y0A) (aG (bX (i:=10) ES.nd (fL FQ24 (Y7r ["_law_way","_law_aim_here","_law_weights"] [1,5] (Yas (by rfl) 5) (bO FQ21 (aW (gU K) (Y7j 1) (aA 0)) (aW (gU K) (aA 2) (aA 0))))))
  (aG (bX (i:=11) ES.nd (jN (Y1h (Y0O FQ21 10 (aW aN Y0A (aA 9))))))
  (aG (Y33 (Yas (by rfl) 4) 12 ES.nd (Y85 qV 11 (iC hr.u1 (aA 3) (Y0w FQ10 4 12))))
  (aK (Y85 qV 6 (Y3o FQ24 11)))))) dB))
  (Y3v 6)))))),?_⟩
 refine Yp;intro φ n_;refine Yu hat;refine Y3J hw;rw[lxw];refine Y5L _ ?_;have Nz:O^c.sum<2^3000:=by
  have κ:O^c.sum<=O^M:=aJ hNs γ;have h2:O^M<=η*δ*θ*O^M:=Yfb (Nat.pos_of_ne_zero λz=>by have:=I.pos;rw[z]at this;simp at this);have:=I.sz;exact Oo
 refine Y8M (i<W/\Y3K (lP ((u.getD i []).zip c))) (λi y H1 H2 s ⟨κ,h2⟩=>⟨κ,Yey s⟩) Oo (λi H' Q' a S k'=>?_) (λD5 zs H5 hD5 e5 s5 hz5 hr5=>?_)
 ·rw[Int.zero_add];have a:i<W:=Oo;obtain⟨x,hx⟩:∃x,ws[i]?=Y8:=Y5C;have e:u.getD i []=x.2:=kO (by rw[<-hss,aR,hx];rfl);have hxs:=I.sh x.2 (by rw[<-hss];exact Y3q x (aF hx));refine Y1l;refine lX.i (rt.same S) hx (rc.same S) (by rw[hxs.1,hcl]) hxs.2 hNs Nz Oo (by have:=I.m5;exact Oo) λy H6 s6 r6=>k' _ H6 s6 (Y0b a);rw[e];exact r6
 have lz:zs.length=W:=Oo;refine Yg;intro φ n_;refine GR (by show 0<=64;decide) λD H6 hD e6 s6=>Yg;intro φ n_;have S6:=s5.trans s6;have ψ:H D=none:=s5.free hD;have ad:=s6 _ _ e5;refine Y6 (rlL ad ?_);rw[lz];refine Y5L _ ?_;rw[Int.toNat_natCast];have nD5:D5≠D:=λz=>by rw[<-z,e5]at hD;cases hD
 have Z:∀i,i<W->Fn (lF M O θ η δ) B (iM u J c i):=λi a=>yS I a γ;have wB:W*B<=4*B:=bT _ w4
 let sayF:Nat->Fr:=λs=>jQ (((List.range W).filter λi=>i != s).map (iM u J c))
 have say:∀s,s<W->cT (sayF s)/\rv (sayF s)=Y6q W (cS J v*gI u v c)-cS J s*gI u s c/\Fn (lF M O θ η δ) (4*B) (sayF s):=λs hs=>by
  have hlow:∀i∈(List.range W).filter λi=>i != s,cT (iM u J c i):=λi a=>(mZ I (cB.mp (iK.mp a).1) c).1;obtain⟨t1,t2⟩:=WX hlow;refine Y2n t1
  ·show rv (jQ _)=_;rw[t2];have:((List.range W).filter λi=>i != s).map (λi=>rv (iM u J c i))=((List.range W).filter λi=>i != s).map λi=>Y1O J*gI u i c:=fD λi a=>(mZ I (cB.mp (iK.mp a).1) c).2;rw[this];exact RX _ hs
  ·have:=Fn.tot (((List.range W).filter λi=>i != s).map (iM u J c)) (N:=lF M O θ η δ) (B:=B) λf hf=>by
    obtain⟨i,a,rfl⟩:=aQ.mp hf;exact Z i (cB.mp (iK.mp a).1)
   refine this.le ?_;rw[aB];have κ:=List.length_filter_le (λi=>i != s) (List.range W);rw[bC]at κ;exact bT _ Oo
 refine Y8F (ZU λ(o7 o8:Ao) (μ:An)=>An4 (σ=[Y48,Y5A,Y2 ap,Y1f,Y2 ac,Y2 D5,Y2 D,o7,o8,none,none,none,none]) (Y5U D H6) (Y0p=Y05 μ) (Y1m (((List.range i).map sayF).map eA) μ)) (Y2T _ _ [] ((Y07).but) e6 aH.nil) ?_ ?_
 ·rintro i σ H7 a ⟨o7,o8,μ,rfl,b7,e7,r7⟩;refine Y69;intro φ n_;have t7:dG H6 H7:=b7.t e6;have α:H7 D5=Y77:=b7.at nD5 ad;refine Y6 (rlL α ?_);rw[lz];refine Y5L _ ?_;rw[Int.toNat_natCast];refine UR (λj=>j != i) (λj y H'=>Y3K (iM u J c j)) (λj y Ha Hb s r=>r.flat s (Y0X)) Oo (λj H' Q' L S k'=>?_) (λj H' Q' L hp S k'=>?_) (λD8 ys H8 hD8 e8 s8 pr8=>?_)
  ·refine Y1Z _ rfl _ rfl _ rfl ?_;have e:(!decide (V.int (0+(j:Nat))=V.int (0+(i:Nat))))=(j != i):=by
    by_cases q:j=i
    ·subst q;simp
    ·have:¬V.int (0+(j:Nat))=V.int (0+(i:Nat)):=Y87 (by injection z with z;exact Oo);rw[cI this];simp[q]
   rw[e];exact k' H' (Y07)
  ·obtain⟨f1,β⟩:∃f,J[j]?=Y8h:=Y1i (by rw[I.pl];exact L);obtain⟨v1,ω,rv1⟩:=gB rvp β;obtain⟨v2,ε⟩:∃v,zs[j]?=Yi:=Y5C;obtain⟨_,rv2⟩:=hr5 j v2 ε;have e1:J.getD j (0,1)=f1:=kO β;have n1:=FA I L;rw[e1]at n1;rw[show(0:Int)+(j:Int)=(j:Int)by exact Oo];refine Yt (eX (S _ _ (t7 _ _ (S6 _ _ hap))) (cU ω) ?_);refine Yt (IP (S _ _ α) (cU ε) ?_);refine Y6F (gD.of (((rv1.same S6).flat t7 (cF _)).same S)) (((rv2.same s6).flat t7 (cF _)).same S) n1.low (rK I L c) (fN I n1 ρ) (fN I (yR I L γ) l) ?_;intro q9 H9 hq9 e9 ο;refine k' _ H9 ο (cO ?_);rw[e9];unfold iM;rw[e1]
  have r8:=JQ pr8;have fl:∀f∈((List.range W).filter λj=>j != i).map (iM u J c),Fn (lF M O θ η δ) B f:=λf hf=>by
   obtain⟨j,L,rfl⟩:=aQ.mp hf;exact Z j (cB.mp (iK.mp L).1)
  have ll:(((List.range W).filter λj=>j != i).map (iM u J c)).length<=64:=by
   rw[aB];have κ:=List.length_filter_le (λj=>j != i) (List.range W);rw[bC]at κ;exact Oo
  have e8D:=s8 _ _ e7;refine Y50 _ (QQ e8D) _ ?_;refine kY.i (.inl e8) (sO.of r8) (pY I fl ll ρ) λv9 H9 ο r9=>?_;have e9D:=ο _ _ e8D;have lus:μ.length=i:=by rw[r7.len,aB,aB,bC]
  refine EX e9D Oo λH10 e10 b10=>?_;have t10:=b10.t e9D;refine Y2T _ _ (μ++[v9]) ((b7.trans (s8.trans ο).but).trans b10) e10 ?_;rw[List.range_succ,bG,bG];exact Yav (Y8L ((s8.trans ο).t.trans t10) _ r7) t10 r9
 ·rintro σ H7 ⟨o7,o8,μ,rfl,b7,e7,r7⟩;refine Y3t;intro φ n_;have t7:dG H6 H7:=b7.t e6;have α:H7 D5=Y77:=b7.at nD5 ad;have S7:aX H H7:=aX.thru ψ S6 b7;have lus:μ.length=W:=by rw[r7.len,aB,aB,bC]
  have sv:((List.range W).map sayF).map rv=rQ W λv=>cS J v*gI u v c:=by
   unfold rQ;rw[List.map_map];exact fD λi a=>(say i (cB.mp a)).2.1
  have sn:∀g∈(List.range W).map sayF,Fn (lF M O θ η δ) (4*B) g:=λg G=>by
   obtain⟨i,a,rfl⟩:=aQ.mp G;exact(say i (cB.mp a)).2.2
  refine Y6 (Ybj (ci c) (by rw[eT];exact fY.of (S7 _ _ hac)));rw[wY];refine Y2n (λσ H'=>∃(o10 o11 U:Ao) (ι:An) (gs:Al),σ=[Y48,Y5A,Y2 ap,Y1f,Y2 ac,Y2 D5,Y2 D,o7,o8,Yk ((c.sum:Nat):Int),o10,o11,U]/\Y0/\Y0p=Y05 ι/\YeU eA ι/\QN (lF M O θ η δ) (LW W F M (gI u) (cS C) (cS J) (Y1N) (YbD d) c) gs)
  ·rintro σ H9 ⟨o10,o11,U,ι,gs,rfl,S9,e9,r9,ok9⟩;exact Y6 (k D ι gs H9 S9 ψ e9 r9 ok9)
  refine Y27 (S7 _ _ haa);refine Y2Q Y96
  ·have X:Y1z:=Oo;refine Yp;intro φ n_;refine Y6 (rlL α ?_);rw[lz];refine Y5L _ (Y8M (i<W/\Y3K (iM u C c i)) (λi y H1 H2 s ⟨κ,h2⟩=>⟨κ,Yey s⟩) Oo (λi H' Q' a S k'=>?_) (λD9 us9 H9 hD9 e9 ο hu9 hr9=>?_))
   ·have L:i<W:=Oo;obtain⟨f1,β⟩:∃f,C[i]?=Y8h:=Y1i (by rw[I.ml];exact L);obtain⟨v1,ω,rv1⟩:=gB rvm β;obtain⟨v2,ε⟩:∃v,zs[i]?=Yi:=Y5C;obtain⟨_,rv2⟩:=hr5 i v2 ε;have e1:C.getD i (0,1)=f1:=kO β;have n1:=FB I L;rw[e1]at n1;rw[show(0:Int)+(i:Int)=(i:Int)by exact Oo];refine Yu (S _ _ (S7 _ _ haa));refine Y81 (S _ _ (S7 _ _ ham)) ω;refine Yt (IP (S _ _ α) (cU ε) ?_);refine Y6F (gD.of ((rv1.same S7).same S)) (((rv2.same s6).flat t7 (cF _)).same S) n1.low (rK I L c) (fN I n1 l) (fN I (yR I L γ) l) ?_;intro q9 H9 hq9 e9 ο;refine k' _ H9 ο ⟨L,cO ?_⟩;rw[e9];unfold iM;rw[e1]
   have r9:aH H9 (((List.range W).map (iM u C c)).map eA) us9:=Y7D hr9;obtain⟨ml,mv⟩:=Ye0 W (iM u C c) ((pZ I a c).1);have mn:∀g∈(List.range W).map (iM u C c),Fn (lF M O θ η δ) 1 g:=λg G=>by
    obtain⟨i,a,rfl⟩:=aQ.mp G;exact IH I (Y6Y) γ
   refine kY.i (.inl e9) (sO.of r9) (pY I mn (by rw[aB,bC];exact Oo) l) λv10 H10 s10 r10=>Yg;intro φ n_;have mtn:=Fn.tot _ mn;rw[aB,bC]at mtn;generalize hmet:jQ ((List.range W).map (iM u C c))=met at r10 ml mv mtn;have S10:aX H7 H10:=ο.trans s10;obtain⟨vkk,hvk,rvkk⟩:=gB rvk (i:=c.sum) (f:=YeF (0,1)) (by rw[bH,aD (by rw[I.cl];exact X)];rfl);have cn:=OA I X;have hp14:=I.paid X;have em:rv met=Y6q W (cS C v*gI u v c):=by rw[mv];exact dF λj L=>(pZ I L c).2
   have vpd:rv (jH met (YeF (0,1)))=cS cs c.sum*Y6q W (cS C v*gI u v c):=by
    rw[hJ ml.pos cn.low.pos,em,Rat.mul_comm];rfl
   have pdn:Fn (lF M O θ η δ) (4*B) (jH met (YeF (0,1))):=Qn.f (fR ml cn.low) (by rw[vpd];exact hp14);refine Y27 (S10 _ _ (S7 _ _ haa));refine Y81 (S10 _ _ (S7 _ _ hak)) hvk;refine Y6F (gD.of r10) ((rvkk.same S7).same S10) ml cn.low (Y3D I mtn (show W*1<=4*WB by have:=ZN;clear ρ l;exact Oo) pD) (fN I cn ρ) ?_;intro q11 H11 hq11 e11 s11;refine GR (by show 1<=64;decide) λD12 H12 hD12 e12 s12=>Yg;intro φ n_;have S12:aX H7 H12:=(S10.trans s11).trans s12;refine Y6 (Y3J (S12 _ _ (S7 _ _ hac)));rw[aB,hcl];refine Y5L _ ?_;rw[Int.toNat_natCast];have m:H7 D12=none:=(S10.trans s11).free hD12;have nDD:D≠D12:=λz=>by rw[z]at e7;rw[e7]at m;cases m
   have hp12:H12 p=Y1I:=S12 _ _ (S7 _ _ hp);have npD:p≠D12:=λz=>by rw[<-z,S7 _ _ hp]at m;cases m
   refine Y8F (Ex2 λ(U:Ao) (ι:An)=>An4 (σ=[Y48,Y5A,Y2 ap,Y1f,Y2 ac,Y2 D5,Y2 D,o7,o8,Yk ((c.sum:Nat):Int),some v10,Y2 D12,U]) (Y5U D12 H12) (H' D12=Y05 ι) (Y1m (((jH met (cs.getD c.sum (0,1)))::(List.range i).map λj=>val (bN c j)).map eA) ι)) ⟨_,_,rfl,(Y07).but,e12,Y3U (cO (s12 _ _ e11))⟩ ?_ ?_
   ·rintro i σ H13 a ⟨U,ι,rfl,R,τ,ξ⟩;refine Y2z;intro φ;have ν:dG H12 H13:=R.t e12;rw[show(0:Int)+(i:Int)=(i:Int)by exact Oo];refine⟨_,rfl,QQ τ,_,rfl,_,rfl,_,rfl,?_⟩;refine fM.i (i:=i) (cs:=c) ((rc.same (S7.trans S12)).flat ν (gG _)) Oo Oo λv14 H14 ζ r14=>?_;obtain⟨a14,rfl,h14⟩:=fS r14;obtain⟨v,hv,rvv⟩:=kn X i a;refine Y61 (ζ _ _ (R.at npD hp12)) (bN c i) (by rw[eT];exact h14) hv ?_;have e14:=ζ _ _ τ;have lxs:ι.length=i+1:=by rw[ξ.len,aB,cE,aB,bC]
    refine EX e14 Oo λH15 e15 b15=>?_;have t15:=b15.t e14;refine⟨_,_,rfl,(R.trans ζ.but).trans b15,e15,?_⟩;rw[List.range_succ,bG,<-List.cons_append,bG];exact Yav (Y8L (ζ.t.trans t15) _ ξ) ((ν.trans ζ.t).trans t15) (rvv.same (S7.trans S12))
   ·rintro σ H13 ⟨U,ι,rfl,R,τ,ξ⟩;have ν:dG H12 H13:=R.t e12;have wn:∀g∈(List.range F).map (λi=>val (bN c i)),Fn (lF M O θ η δ) (Y0N*B) g:=λg G=>by
     obtain⟨i,a,rfl⟩:=aQ.mp G;have a:=Y6Y;exact nv X i a
    have b8:Y0N*B<=4*WB:=by
     have:=wC I (n:=Y2H-1) (by have:=I.m5;exact Oo);rw[show M-c.sum-1+1=M-c.sum by exact Oo]at this;exact aP this (Yc2 Dd)
    have κ:8<=Y0N:=by
     have:=aJ (n:=8) Dd (show 1<=M-c.sum by exact Oo);simpa using this
    have hB:8*B<=Y0N*B:=bT _ κ;have an:∀g∈(jH met (cs.getD c.sum (0,1)))::(List.range F).map (λi=>val (bN c i)),Fn (lF M O θ η δ) (Y0N*B) g:=λg G=>by
     rcases bD.mp G with rfl | G
     ·exact pdn.le Oo
     ·exact wn g G
    have υ:H13 D=Y05 μ:=R.at nDD (S12 _ _ e7);refine Y50 _ (QQ υ) _ ?_;refine kY.i (.inl τ) (sO.of ξ) (pY I an (by rw[cE,aB,bC];exact Oo) (aP b8 pD)) λv16 H16 ab r16=>?_;have χ:=ab _ _ υ;refine EX χ Oo λH17 e17 b17=>?_;have t17:=b17.t χ;have al:∀g∈(jH met (cs.getD c.sum (0,1)))::(List.range F).map (λi=>val (bN c i)),cT g:=λg G=>(an g G).low;have S13:aX H H13:=aX.thru ((S7).free m) (S7.trans S12) R;have tA:dG H7 H13:=S12.t.trans ν;refine⟨_,_,_,μ++[v16],(List.range W).map sayF++[jQ ((jH met (YeF (0,1)))::(List.range F).map λi=>Y5u c i)],rfl,aX.thru ψ (S13.trans ab) b17,e17,?_,?_,?_,?_,?_⟩
    ·rw[bG];exact Yav (Y8L ((tA.trans ab.t).trans t17) _ r7) t17 r16
    ·unfold LW;rw[bG,sv,if_pos X];congr 1;rw[bJ,List.map_nil];congr 1;rw[tW _ al,bJ,kX,vpd,List.map_map]
     rfl
    ·intro g G;rcases bY.mp G with G | G
     ·exact(sn g G).le Oo
     ·rw[aU.mp G];refine(Fn.tot _ an).le ?_;rw[cE,aB,bC];have b9:=wC I (n:=Y2H) (by have:=I.m5;exact Oo);rw[Nat.pow_succ,Yep (8^_),Nat.mul_assoc]at b9;have fB:(F+1)*(Y0N*B)<=8*(Y0N*B):=bT _ Oo;exact Oo
    ·simp
    ·rw[bF,aB,bC];show W+1<=5;exact Oo
  ·have e0:Y2H=0:=Oo;refine⟨_,_,_,μ,(List.range W).map sayF,rfl,S7,e7,r7,?_,λg G=>(sn g G).le Oo,by rw[aB,bC];exact Oo,by rw[aB,bC];exact Oo⟩;unfold LW;rw[sv,Y8W,List.append_nil]
end
def JJ:∀F,F<=4->∀M,M<=5->(Yy).length<=400:=Kk
def LV{F W M:Nat}{ss:Ak}{mix ps cs:Al}{c:Af}(hc:Y2B):LW W F M (gI ss) (Y29) (cS ps) (Y1N) (λd=>rv (OH F W M ss mix ps cs d)) c=smQ W F (gI ss) (Y29) (cS ps) (Y1N) (Y2H) c:=by
 unfold LW;by_cases h:Y1z
 ·obtain⟨n,a⟩:∃n,Y2H=n+1:=Y1j (Y2H-1);rw[Yan,a];show _=rQ W (λv=>cS ps v*gI ss v c)++[_];congr 3;refine dF λj e=>?_;show rv (gM _)=_;rw[dA];unfold wor;rw[fA Oo,show M-(c.sum+1)=n by exact Oo]
 ·rw[Y7T,List.append_nil,show M-c.sum=0 by exact Oo];rfl
def ZM{F W M:Nat}{ss:Ak}{mix ps cs:Al}{Ns Nm Np Nc B:Nat}(I:jE F W M ss mix ps cs Ns Nm Np Nc B){c:Af}(hcl:Y2B)(hlt:Y1z){i:Nat}(hi:i<F):Y2o (Y0N*B) (OH F W M ss mix ps cs (bN c i)):=by
 refine Qn.fq ?_;have bs:=Y9D c i;have:=I.worn (M-(bN c i).sum) (bN c i) (by rw[jW];exact hcl) Oo;rw[show M-(bN c i).sum+1=M-c.sum by exact Oo]at this;exact this
inductive qM:Yh
 | i {H:Hp} {Q:VK} {E:XK} {tv av pv:V} {fs:Ai} {ws:Y03} {bs mix ps cs:Al} {F W M Ns Nm Np Nc B:Nat} (h1:Y40 tv) (h0:Y5q F) (h2:Y2K M) (h3:Y14 ps pv) (I:jE F W M (Y0T) mix ps cs Ns Nm Np Nc B) (b:0<Ns) (f2:2<=F) (k:∀p kvs H',Y0->H p=none->H' p=Y1I->DW H' kvs (Yy) (OH F W M (Y0T) mix ps cs)->Y0i p):qM [tv,av,pv] H Q E
section
def aFt(F:Y9 "_law_worths" "_law_worths" aBF)(T:Yb)
  (FQ4:Y2Z "_law_counts" a41 mB) (FQ20:Y0e 4 "_law_sums" a03 mT) (FQ2:Y06 "_law_below" a00 (iN K)):dI P w K mg base cN 5 f fd a29 qM:=by
 refine F.oky UY λa H Q E h=>?_;obtain @⟨H,Q,E,tv,av,pv,fs,Z,bs,m,X,α,F,W,M,Ns,Nm,Np,Nc,B,rt,hF,ra,rp,I,hNs,f2,k⟩:=h;refine Yf;intro cdv A outer s hr _;have f1:=I.f1;have f4:=I.f4;have m5:=I.m5;obtain⟨aa,xb,xm,xc,rfl,haa,rxb,rxm,rxc⟩:=mH ra;obtain⟨at_,af,aw,xf,xw,rfl,hat,hf,hw,rf,rw'⟩:=tJ rt;have small:=JJ F f4 M m5;refine⟨_,(aG (Y13 UY.nd sA)
  (aG (eO PassesOwn.never rfl (QZ rfl T.b_reversed (Y1h (bO FQ4 (Y6O gO (by rfl) Kk 0) (Y0A)))) (Y5R 4 UY.nd) (aG (Y62 UY.nd (Y9W FQ20 Dd (Y3w 0 1 (Y3w 2 3 (Y2s 4)))))
  (aG (jI hr.u1 (aA 3) (aA 4) (Y2g 5))
  (aK (Y33 (Y30 5) 6 UY.nd (Y92 (fO (Y0O FQ2 6 (Y80 3 4))) (jI hr.u1 (aA 3) (aA 4) (aA 6))))))))
  (Y3v 3))),?_⟩
 refine Yp;intro d_ n_;intro p hp;have υ:=Y9E [] hp;have e1:(upd H p (.dT [])) p=Y0P []:=bK;generalize upd H p (.dT [])=H1 at υ e1;refine Yu (υ _ _ hat);refine Y3J (υ _ _ hf);rw[cC rf,hF];refine Yu (υ _ _ haa);refine mB.i f2 f4 m5 λR H2 s2 hR LR=>?_;obtain⟨a,eR,rR,lR⟩:=LR.len;have S2:=υ.trans s2;have ρ:R≠p:=λz=>by rw[z,e1]at hR;cases hR
 refine Y1d R a (gW.of eR) ?_;have nd:=oY F f4 M m5;refine NG (xs:=a) (λi σ H'=>Ex4 λ(o4 o5 o6:Ao) (r:List (List fK × V))=>WA (σ=[Y48,Y5A,Y9a,Y1f,o4,o5,o6]) (Y0) (H' R=Y05 a) (Y1m ((rise F M).map gX) a) (H' p=Y0P r) (DW H' r ((rise F M).drop (Y2k i)) (OH F W M (eE Z) m X α))) ⟨_,_,_,[],rfl,S2,eR,rR,s2 _ _ e1,?_⟩ (YdQ) ?_ ?_
 ·rw[Nat.sub_zero,lR,List.drop_length];exact⟨λc φ=>(by cases φ),by simp⟩
 ·obtain⟨_,_,_,_,_,_,h,_⟩:=q;exact Y9b
 ·rintro i x σ H3 hi hx ⟨o4,o5,o6,r,rfl,S3,eR3,ε,ω,D3⟩;refine Y69;intro d_ n_;obtain⟨c,φ,rc⟩:=cR ε hx;have S:=(eZ f1).mp (aF φ);have dl:=D3.len;rw[List.length_drop]at dl;have hd:(rise F M).drop (Y2k (i+1))=c::(rise F M).drop (Y2k i):=by
   obtain⟨hc1,hc2⟩:=aO.mp φ;rw[show a.length-(i+1)=a.length-1-i by exact Oo,List.drop_eq_getElem_cons hc1,hc2,show a.length-1-i+1=a.length-i by exact Oo]
  have hcS:c ∉ (rise F M).drop (Y2k i):=λq=>by
   have h1:((rise F M).drop (Y2k (i+1))).Nodup:=List.Sublist.nodup (Yfz _) nd;rw[hd,List.nodup_cons]at h1;exact h1.1 q
  refine⟨_,rfl,_,rfl,_,rfl,_,rfl,_,rfl,?_⟩;refine mT.i (rt.same S3) (ra.same S3) (rp.same S3) rc ω I hNs S.1 S.2 (val:=OH F W M (eE Z) m X α) (λhlt j hj=>ZM I S.1 hlt hj) (λhlt j hj=>?_) λD xs θ H4 κ hD e4 r4 U=>?_
  ·have bs:=Y9D c j;have hin:Y5H (bN c j):=(eZ f1).mpr (Y1j (by rw[jW];exact S.1));have:=xI φ hin Oo;rw[show a.length-1-i+1=a.length-i by exact Oo]at this;exact D3.yes _ this
  have ο:∀g∈θ,cT g/\Y1q g:=λg O=>⟨(U.n g O).low,Y3D I (U.n g O) (Yc2 Dd) pD⟩;refine Yg;intro d_ n_;obtain⟨g0,ψ⟩:∃g,θ[0]?=Y5y:=Y1i U.l0;obtain⟨v0,hv0,rv0⟩:=gB r4 ψ;refine Y6 (IP e4 (Y8A hv0) ?_);obtain⟨ac,rfl,ν⟩:=fS (rc.same κ);refine Y0g;have χ:=κ _ _ ω;refine Y5Y χ (ci c) (by rw[eT];exact ν) (λH5 e5 b5=>?_);have μ:=aT.tT b5 χ;have ζ:D≠p:=λz=>by rw[z,ω]at hD;cases hD
  have S5:aX H H5:=Ydg (S3.trans κ) b5;have ξ:H5 ac=YeT FJ:=μ _ _ ν;have lxs:Y2v θ.length:=by rw[cC r4]
  refine Y31 D (b5.at ζ e4) ?_;have put:∀{Ha:Hp} {l:Yw} {v:V},(∀d∈(rise F M).drop (a.length-i),∃v,Y2i l d=Yi/\Y2G Ha (OH F W M (eE Z) m X α d) v)->∀d∈(rise F M).drop (a.length-i),∃u,Y2i (jL l (Y25 c) v) d=Yv/\Y2G Ha (OH F W M (eE Z) m X α d) u:=λh d hd=>by
   rw[mQ,Y7I (hcS (by rw[<-mG (qZ q)];exact hd))];exact h d hd
  have self:∀{l:Yw} {v:V},Y2i (jL l (Y25 c) v) c=Yi:=by
   intro l v;rw[mQ,Y12]
  have keep:∀{Ha Hb:Hp} {l:Yw},dG Ha Hb->(∀d∈(rise F M).drop (a.length-i),∃v,Y2i l d=Yi/\Y2G Ha (OH F W M (eE Z) m X α d) v)->∀d∈(rise F M).drop (a.length-i),∃v,Y2i l d=Yi/\Y2G Hb (OH F W M (eE Z) m X α d) v:=λt h d hd=>by
   obtain⟨v,h1,h2⟩:=h d hd;exact Y5M h1 (Yey t)
  have len1:=iV r (Y25 c) v0;refine jU (xs:=xs) (Ycq (λ(o6:Ao) (l:List (List fK × V)) (v:V) (y:Fr)=>An9 (σ=[Y48,Y5A,Y9a,Y1f,Y2 ac,Y2 D,o6]) (Y5U p H5) (H' p=Y0P l) (l.length<=((rise F M).drop (Y2k i)).length+1) ((∀d∈(rise F M).drop (a.length-i),∃v,Y2i l d=Yi/\Y4o (OH F W M (eE Z) m X α d))) (Y2i l c=Yi) (Y4o y) (y∈θ) (∀g∈θ.take j,rv y<=rv g)))
   ⟨_,_,v0,g0,rfl,(Y07).but,e5,by rw[List.length_drop];exact Oo,Ydf (κ.t.trans μ) D3.yes,self,rv0.flat μ (Y0X),aF ψ,λg O=>by rw[List.take_zero]at O;cases O⟩ (Y8v) ?_ ?_
  ·obtain⟨_,_,_,_,_,b',_⟩:=q;exact Ybg ζ (b5.at ζ e4)
  ·rintro j x2 σ H6 hx2 ⟨o6',l,v,y,rfl,γ,ι,l6,d6,L,J,C,N⟩;refine Y2z;intro d_;obtain⟨g,O,rg⟩:=cR r4 hx2;have t6:dG H5 H6:=aT.tT γ e5;have δ:=aF O;have β:H6 ac=YeT FJ:=t6 _ _ ξ;have rg6:Y2G H6 g x2:=rg.flat (μ.trans t6) (Y0X);refine Y2J (Y61 ι c (by rw[eT];exact β) L ?_);refine Yab rg6 J ((ο g δ).2) ((ο y C).2) Y4;have τ:=oB (ο g δ).1.pos (ο y C).1.pos;refine pR (Y8X) (Y8X)
   ·have lt':=τ.mp lt;refine Y3G;intro d_;refine Y1l;rw[List.length_drop]at l6;refine Y5Y ι (ci c) (by rw[eT];exact β) (λH7 e7 b7=>?_);have t7:=aT.tT b7 ι;refine⟨_,_,x2,g,rfl,γ.trans b7,e7,?_,Ydf t7 d6,self,rg6.flat t7 (Y0X),δ,λz G=>?_⟩
    ·have:(jL l (kT (ci c)) x2).map (·.1)=l.map (·.1):=pI (by rw[L];rfl);have h2:=Y4t this;rw[aB,aB]at h2;rw[List.length_drop];exact Oo
    ·rw[dS O]at G;rcases bY.mp G with G | G
     ·have:=N z G;grind
     ·rw[aU.mp G];exact Rat.le_refl
   ·refine⟨_,l,v,y,rfl,γ,ι,l6,d6,L,J,C,λz G=>?_⟩;rw[dS O]at G;rcases bY.mp G with G | G
    ·exact N z G
    ·rw[aU.mp G];exact Ye6 (lt (τ.mpr q))
  ·rintro σ H6 ⟨o6',l,v,y,rfl,γ,ι,l6,d6,L,J,C,N⟩;have t6:dG H5 H6:=aT.tT γ e5;rw[lxs,cM]at N;have ey:y=OH F W M (eE Z) m X α c:=by
    have e:rv y=vL (θ.map rv):=(EC (Y3q y C) λx hx=>by
     obtain⟨g,O,rfl⟩:=aQ.mp hx;exact N g O).symm
    rw[U.v,LV S.1,<-FM]at e;rw[<-aCH (ο y C).1,e];rfl
   rw[ey]at J;refine⟨_,_,_,l,rfl,Ydg S5 γ,γ.at ρ (b5.at ρ (κ _ _ eR3)),Y7E (μ.trans t6) _ (ε.same κ),ι,?_⟩;rw[hd];refine⟨λd η=>?_,by rw[cE];exact l6⟩;rcases bD.mp η with rfl | η
   ·exact Y5M L J
   ·exact d6 d η
 ·rintro σ H3 ⟨o4,o5,o6,r,rfl,S3,eR3,ε,ω,D3⟩;rw[Nat.sub_self,List.drop_zero]at D3;exact Y6 (k p r H3 S3 hp ω D3)
end
theorem NE{H:Hp}:∀{P:Y9g Fr}{ys:An},(∀(i:Nat) (y:V),Y1t=Y0j->∃f,Y1A f y/\P i f)->∃fs:Al,Y5q ys.length/\Y7H eA ys/\∀(i:Nat) (f:Fr),fs[i]?=Y8h->P i f
 | P,[],_=>⟨[],rfl,aH.nil,λi f h=>by simp at h⟩
 | P,y::ys,h=>by
  obtain⟨f,h1,h2⟩:=h 0 y rfl;obtain⟨fs,c,e,j⟩:=NE (P:=λi=>P (i+1)) (ys:=ys) λi z d=>h (i+1) z (by simpa using d);refine⟨f::fs,by rw[cE,cE,c],aH.cons h1 e,λi g a=>?_⟩;cases i with
  | zero=>cases(show f=g by simpa using a);exact h2
  | succ i=>exact j i g (by simpa using a)
def lH{fs:Al}{i:Nat}{f:Fr}(h:fs[i]?=Y8h):Y1O fs=Y0v:=by unfold cS;rw[kO h]
def uL{fs:Al}{i:Nat}(h:Y7K i):Y1O fs=0:=by
 unfold cS;rw[bH,fF h];exact iF
def aB0{ss:Ak}(h:∀s∈ss,∀f∈s,Y01/\0<=f.1)(v:Nat)(c:Af):0<=gI ss v c:=by
 unfold gI;by_cases hv:v<ss.length
 ·exact LK (h _ (eV hv))
 ·rw[bH,fF Oo];exact LK λf a=>by cases a
def VM.b{F W:Nat}{fs:Ai}{ws:Y03}(T:VM F W fs ws):∀x∈ws,BOk 10 x.2:=λx c =>
 ⟨λf a=>((T.sh x c).at f a).1.low,λf a=>by have:=(T.sh x c).bits f a;show f.1.natAbs<=1024;exact Oo,λf a=>by have:=(T.sh x c).bits f a;show f.2.natAbs<=1024;exact Oo⟩
def VM.nn{F W:Nat}{fs:Ai}{ws:Y03}(T:VM F W fs ws)(v:Nat)(c:Af):0<=gI (Y0T) v c:=aB0 (λs e=>by
 obtain⟨x,d,rfl⟩:=aQ.mp e;exact λf a=>⟨((T.sh x d).at f a).1.low,((T.sh x d).at f a).2⟩) v c
def UE(f g:Fr):PyData.eqv (eA f) (eA g)=Y0Q f g:=by
 obtain⟨a,b⟩:=f;obtain⟨c,d⟩:=g;simp[PyData.eqv,PyData.eqvAll,Prod.ext_iff];rfl
def uD{α:Type}(l:Yo):l.filter (Yd0)=l:=List.filter_eq_self.mpr λ_ _=>rfl
def AD{H:Hp}{α:Type}{g:α->Fr}{as:Yo}{ys:An}(pr:YbN (λa y=>Y1A (g a) y) ys):Y18 ((as.map g).map eA) ys:=by
 rw[List.map_map];exact Paired.toRepL pr
abbrev YX(e:List Nat × Fr):PyData:=Y7e (gX e.1) (eA e.2)
def HW(e:List Nat × Fr):dQ (YX e)=true:=by show(dQ (gX e.1)&&(dQ (eA e.2)&&true))=true;rw[gG];rfl
def AX(es:Y3j (List Nat) Fr):gF (es.map YX)=true:=by
 induction es with
 | nil=>rfl
 | cons e es ih=>show(dQ (YX e)&&gF _)=true;rw[ih,HW];rfl
def rY(rs:Ab)(val:Af->Fr):(rs.map (Y6z [gX c,Y59]))=(rs.map λc=>(c,val c)).map YX:=by rw[List.map_map];rfl
def aAF{H:Hp}{rs:Ab}{val:Af->Fr}{v:V}(h:YbI rs v):∃a xs,v=Y3/\H a=Y0k/\YaF ((rs.map λc=>(c,val c)).map YX):=by
 obtain⟨a,xs,e,g,d⟩:=dW h;rw[rY]at d;exact⟨a,xs,e,g,d⟩
def n45{M Np Nc:Nat}(hM:M<=5)(p1:0<Np)(p2:Y9C Np)(c1:0<Nc)(c2:Y9C Nc):0<lF M iI iI Np Nc/\lF M iI iI Np Nc<2^300:=by
 refine Y0b (kR (kR (kR p1 c1) Dd) (Nat.pow_pos Dd));have a:iI^M<=iI^5:=Y5k hM;have c:lF M iI iI Np Nc<=Ye9*iI*iI^5:=Nat.mul_le_mul (bT _ (Nat.mul_le_mul p2 c2)) a;have d:Ye9*iI*iI^5<2^300:=Kk;exact Oo
section
variable{H H':Hp}{tv av pv:V}{fs:Ai}{ws:Y03}{bs mix ps cs:Al}{F W M:Nat}
end
abbrev aBa:Stmt:=(top 34)
def aF4:Ya ["faces"] ["faces"] aBa:={}
abbrev aBb:Stmt:=(top 40)
def aF5:Ya ["says"] ["says"] aBb:={}
abbrev aA4:Stmt:=(top 45)
def aF1:Ya ["rule"] ["rule"] aA4:={}
abbrev aBD:Stmt:=(top 47)
def QI:Ya ["rule","amount_of","counts","says","onward","more"] ["rule"] aBD:={}
abbrev UJ(e:dE):PyData:=Y7e (gX e.1) (lK e.2)
abbrev GI(es:Ys):PyData:=.tuple (es.map UJ)
def HE(e:dE):dQ (UJ e)=true:=by show(dQ (gX e.1)&&(dQ (lK e.2)&&true))=true;rw[gG,dM];rfl
theorem vQ:∀es:List dE,gF (es.map UJ)=true
 | []=>rfl
 | e::es=>by show(dQ (UJ e)&&gF (es.map UJ))=true;rw[vQ es,HE];rfl
def vI(es:Ys):dQ (GI es)=true:=vQ es
structure xQ(n:Nat)(fs:Al):Prop where
 len:Y5q n
 at_:∀f∈fs,Y4Z/\0<=f.1
 one:rP (fs.map rv)=1
structure nM(F W M:Nat)(es:Ys):Prop where
 rl:FC F es
 sum:∀e∈es,e.1.sum<=M
 sy:∀e∈es,xQ (1+W) e.2
 few:es.length<=64
 on:∀e∈es,Y2D->e.1.sum<M
def xN{H:Hp}{e:dE}{v:V}(h:Y0x (UJ e) v):∃b u z,v=Y0z/\H b=Ym [u,z]/\Y6h e.1 u/\Y14 e.2 z:=by
 obtain⟨b,g,rfl,d,r⟩:=dW h;obtain⟨u,z,rfl,c,a⟩:=gH r;exact Y2T b u z d c a
def xQ.hd{n:Nat}{fs:Al}(h:xQ (1+n) fs):∃f r,fs=f::r/\Y4Z/\0<=f.1/\cS fs 0=Y0v/\(0<f.1↔cS fs 0≠0):=by
 cases fs with
 | nil=>have:=h.len;simp at this;exact Oo
 | cons f r =>
  obtain⟨a,d⟩:=h.at_ f (aV ..);refine⟨f,r,rfl,a,d,rfl,?_⟩;have e:cS (f::r) 0=Y0v:=rfl;rw[e];constructor
  ·intro c q;have:=gL a.low GW (by rw[q,iF]);rw[this]at c;exact absurd c Dd
  ·intro q;refine bU (Y87 ?_);have g:f.1=0:=Oo;have i:=xG a.low.pos;rw[g]at i;have j:=nF a.low.pos;have:Y0v=0:=by grind
   exact this
def xQ.nn{n:Nat}{fs:Al}(h:xQ n fs)(v:Nat):0<=cS fs v:=by
 by_cases hv:v<fs.length
 ·have:=h.at_ _ (eV (a:=(0,1)) hv);exact LZ this.1.low this.2
 ·rw[uL Oo];exact Rat.le_refl
def xQ.qn{n:Nat}{fs:Al}(h:xQ n fs)(v:Nat):Qn iI 1 (cS fs v):=by
 by_cases hv:v<fs.length
 ·exact(h.at_ _ (eV (a:=(0,1)) hv)).1.q
 ·rw[uL Oo];exact Yah _
def xQ.rest{n:Nat}{fs:Al}(h:xQ (1+n) fs):Y6q n (cS fs (1+v))=1-cS fs 0:=by
 have a:=h.one;rw[xX,h.len]at a;have:∀n,dD (1+n) (cS fs)=cS fs 0+Y6q n (cS fs (1+v)):=by
  intro n
  induction n with
  | zero=>rw[show 1+0=0+1 from rfl,dU,gK,gK];grind
  | succ n ih=>rw[show 1+(n+1)=(1+n)+1 by exact Oo,dU,ih,dU];grind
 rw[this]at a;grind
def AN:5^64<=2^150:=Kk
def aDp:iI^15<2^350:=Kk
def WT(n:Nat):0<iI^n:=Nat.pow_pos Dd
abbrev nO(Np Nc:Nat):Nat:=Np*Nc*iI^15
structure KY(Np Nc:Nat):Prop where
 p0:0<Np
 p1:Y9C Np
 c0:0<Nc
 c1:Y9C Nc
def KY.big{Np Nc:Nat}(h:KY Np Nc):0<nO Np Nc/\nO Np Nc<2^500:=by
 refine Y0b (kR (kR h.p0 h.c0) (WT _));have c:nO Np Nc<=Ye9*iI^15:=bT _ (Nat.mul_le_mul h.p1 h.c1);have a:Ye9*iI^15<2^500:=Kk;exact Oo
def sH:KY 1 1:=⟨Dd,Dd,Dd,Dd⟩
def rS{Np Nc N B:Nat}{x:Rat}(h:Qn N B x)(d:N ∣ nO Np Nc):Qn (nO Np Nc) B x:=h.dvd d
def iY{Np Nc B:Nat}{f:Fr}(ok:KY Np Nc)(h:Fn (nO Np Nc) B f)(hB:B<=2^400):Y58 :=
 mK h ok.big.1 (Y1v ok.big.2) (Y6d hB)
def d46{Np Nc a:Nat}(h:a<=15):iI^a ∣ nO Np Nc:=Nat.dvd_trans (YfQ h) (Nat.dvd_mul_left _ _)
def QA{Np Nc a:Nat}(h:a<=15):Nc*iI^a ∣ nO Np Nc:=by
 obtain⟨r,c⟩:=Nat.pow_dvd_pow iI h;exact⟨Np*r,by unfold nO;rw[c];ac_rfl⟩
def mW{n:Nat}(h:n<=400):(2:Nat)^n<=2^400:=Y5k h
section
variable{F W M:Nat}{es:Ys}
def nM.fl(R:Y0B)(f4:F<=4){e:dE}(h:Y5b):Qn (iI^M) (2^150) (Y00 e.1):=by
 have a:=R.rl.qn (N:=iI) (λe c=>(R.sy e c).qn 0) f4 es.length (Yn) e.1;rw[cM]at a;have d:5^es.length<=5^64:=Y5k R.few;exact(a.le (aP d AN)).dvd (YfQ (R.sum e h))
end
structure DQ(K:Aa)(H:Hp)(kvs:Yw)(g:Y0S):Prop where
 at_:∀d:Af,(Y88 d=none/\g d=0)\/∃v,Y88 d=Yi/\FE K H (gM (g d)) v
def AL:gM 0=(0,1):=gL (Yr) GW (by rw[dA,iF])
def yP:gM 1=(1,1):=gL (Yr) JY (by rw[dA,pG])
theorem DQ.t{K:Aa}{H H':Hp}{kvs:Yw}{g:Y0S}(s:Y4n)(h:DQ K H kvs g):DQ K H' kvs g:=⟨λd=>by
 rcases h.at_ d with h | ⟨v,c,a⟩
 ·exact .inl h
 ·exact Y2j v c (a.t s)⟩
def DQ.eq{K:Aa}{H:Hp}{kvs:Yw}{g g':Y0S}(h:DQ K H kvs g)(e:∀d,g' d=g d):DQ K H kvs g':=by
 have:g'=g:=funext e;rw[this];exact h
def DQ.get{K:Aa}{H:Hp}{kvs:Yw}{g:Y0S}(h:DQ K H kvs g)(d:Af){z:V}(hz:gD K H (0,1) z):gD K H (gM (g d)) ((fP kvs (kT (ci d))).getD z):=by
 rcases h.at_ d with⟨c,a⟩ | ⟨v,c,a⟩
 ·rw[c,a,AL];exact hz
 ·rw[c];exact a.v
def DQ.val{K:Aa}{H:Hp}{kvs:Yw}{g:Y0S}(h:DQ K H kvs g){d:Af}(hd:g d≠0):∃v,Y88 d=Yi/\FE K H (gM (g d)) v:=by
 rcases h.at_ d with⟨_,a⟩ | h
 ·exact absurd a hd
 ·exact h
def DQ.put{K:Aa}{H:Hp}{kvs:Yw}{g:Y0S}(h:DQ K H kvs g){c:Af}{v:V}{y:Rat}(r:FE K H (gM (g c+y)) v):DQ K H (Y55 (Y25 c) v) λd=>g d+if c=d then y else 0:=⟨λd=>by
 rw[mQ];by_cases e:c=d
 ·subst e;rw[Y12,Y12];exact .inr (Y0K v r)
 ·rw[Y7I (e (mG (qZ q)).symm),Y6a,show g d+0=g d by grind];exact h.at_ d⟩
inductive iU:Yh
 | i {H:Hp} {Q:VK} {E:XK} {x:V} {f:Fr} {fs:Al} (h1:Y14 (f::fs) x) (k:Y1s (Y34 0 f.1)):iU [x] H Q E
inductive lW:Yh
 | i {H:Hp} {Q:VK} {E:XK} {F:Nat} (h:F<=64) (k:∀v H',Y0->Y2E (gX (Yx))->Y1a):lW [.int (F:Int)] H Q E
inductive mN:Yh
 | i {H:Hp} {Q:VK} {E:XK} {x:V} {e:dE} {es:Ys} (h1:Y6T (e::es) x) (k:Y3M (e.1.length:Nat)):mN [x] H Q E
inductive qR (K:Aa):Yh
 | i {H:Hp} {Q:VK} {E:XK} {x:V} {es:Ys} {F W M:Nat} (h1:Y6T es x) (h2:Y0B) (h3:1<=F) (h4:F<=4) (h5:M<=6) (k:∀a ys H',Y0->H' a=Y6r->Y2Y es.length->(∀(i:Nat) (e:dE),es[i]?=Y8f->∃b cu va,Y1t=Y2 b/\Y1E=Ym [cu,va]/\FE K H' (gM (Y00 e.1)) va)->Y0i a):qR K [x] H Q E
section
def aEX(F:Y9 "looks_on" "looks_on" aBb)(T:Yb):dI P w K mg base cN 1 f fd ["says"] iU:=by
 refine F.oky aF5 λz H Q E h=>?_;obtain @⟨H,Q,E,x,f,fs,p,k⟩:=h;refine Yf;intro j A d s u _;obtain⟨a,r,rfl,m,e⟩:=gA p;obtain⟨y,n,l⟩:=aH.atX (i:=0) e rfl;obtain⟨b,rfl,g⟩:=rC l;refine Y21 (kE sG (Y28 (aW aN (aA 0) (Y9Z (.int 0) T.g_LOOKS_ON Y3z))) aE) (Y81 m n);exact Y3Q g (Y2l _ rfl k)
def aEQ(F:Y9 "rule_faces" "rule_faces" aA4)(T:Yb):dI P w K mg base cN 1 f fd ["rule"] mN:=by
 refine F.oky aF1 λL H Q E h=>?_;obtain @⟨H,Q,E,x,e,N,D,k⟩:=h;refine Yf;intro n A d s J _;obtain⟨a,G,rfl,B,l⟩:=dW D;obtain⟨y,C,r⟩:=gB l (i:=0) (f:=e) rfl;obtain⟨b,u,z,rfl,m,p,M⟩:=xN r;obtain⟨I,rfl,g⟩:=fS p;refine Y21 (eP gO (by rfl) T.b_len Kk (Y1h (Y28 Y0R))) (YbK B C);refine Y3Q m (Y3J g);rw[aB];exact k
def aEW(F:Y9 "noughts" "noughts" aBa)(T:Yb):dI P w K mg base cN 1 f fd ["faces"] lW:=by
 refine Ych aF4 ?_;obtain @⟨H,Q,E,F,I,k⟩:=h;refine Yf;intro g A a s C _;refine Y6M _ (Y6i dN (by rfl) Kk ["face"] [] (Y6J 0) aE);refine Y2T _ rfl _ Oo Oo (Y8M (∃n,y=Y5z/\n=0) Y8x Oo (λi H' Q' N L x=>x _ H' (Y07) (Y0K 0 rfl)) (λD J H1 M p j z d=>?_));obtain⟨m,rfl,B⟩:=NB (P:=λ_ n=>n=0) d;have u:m=Yx:=by
  rw[aB]at z;exact List.eq_replicate_iff.mpr ⟨Oo,λb e=>by obtain⟨i,h⟩:=jA.mp e;exact B i b h⟩
 subst u;refine Y4X D _ p (λl r=>?_);refine k _ _ (j.trans (aX.upd r)) (oO ?_);rw[bK,List.map_replicate,List.map_replicate];rfl
def aFr(F:Y9 "amounts" "amounts" aBD)(T:Yb)(FQ60:Y06 "noughts" ["faces"] lW)(FQ66:Y06 "rule_faces" ["rule"] mN)
  (FQ59:Y06 "looks_on" ["says"] iU) (FQ70:Y82 "times" K) (FQ62:Y2Z "ones_more" ["counts"] iE) (FQ64:Y2Z "plus" a02 (lJ K)):dI P w K mg base cN 3 f fd ["rule"] (qR K):=by
 refine Y1e QI;obtain @⟨H,Q,E,x,es,F,W,M,rx,RO,f1,f4,m6,k⟩:=h;refine Yf;intro cdv A outer s hr _;obtain⟨a,xs,rfl,ha,δ⟩:=dW rx;have RL:=RO.rl;have lx:Y2v es.length:=cC δ;have few:=RO.few;obtain⟨e0,er,ees,ez0⟩:=RL.root;refine⟨_,(aG (Y5D 1 QI.nd (FU hr.u1 (fL FQ60 (Y3L FQ66)) (Y9Z YcX T.g_ONE rfl)))
  (aG (eO PassesOwn.never rfl (Y49 0) (pE rfl (fJ (Y5R 2 QI.nd) (fJ (Y5R 3 QI.nd) mL))) (aK (fG (fO (Y3o FQ59 3)) (aG (Y3Y QI.nd (bO FQ70 (Y80 1 2) (Y2g 3)))
  (aK (Y33 (fV (Y3o FQ62 2)) 5 QI.nd (jI hr.u1 (aA 1) (aA 5) (bO FQ64 (LL hr.u1 (aA 1) (aA 5) (Y9Z (.ref c.NOUGHT) T.g_NOUGHT rfl)) (aA 4)))))) dB)))
  (Y0L (Y6i dN (by rfl) Kk ["entry","amount_of"] [1] (Y49 0) (Y2t (Y7j 0) (iC hr.u1 (aA 1) (Y7j 0))))))),?_⟩
 refine Yp;intro d_ n_;intro p hp;have U:=Y9E [] hp;have ζ:(upd H p (.dT [])) p=Y0P []:=bK;generalize upd H p (.dT [])=H0 at U ζ;refine Y6 (mN.i (e:=e0) (es:=er) (by rw[<-ees];exact rx.same U) ?_);rw[ez0,cA];refine lW.i (F:=F) Oo λv1 H1 s1 r1=>?_;obtain⟨cz,rfl,ξ⟩:=fS r1;refine aDs (c:=ci (Yx)) (by rw[eT];exact ξ) (s1 _ _ ζ) λH2 e2 b2=>Yg;intro d_ n_;have S2:aX H H2:=Ydg (U.trans s1) b2;have D2:DQ K H2 [(Ya7,V.ref c.ONE)] (bQ F (es.take 0)):=⟨λd=>by
  rw[List.take_zero,pS];by_cases q:d=Yx
  ·subst q;rw[Y12];exact Y2j _ (by simp[fP]) (.inr (Y0K c.ONE (by rw[yP];exact T.o_ONE)))
  ·rw[Y1u];refine Y3p ?_ rfl;have:¬Y25 d=Ya7:=Y87 (mG (qZ z));have e:=mQ (κ:=Y4J) [] (Ya7) (Y25 d) (V.ref c.ONE);rw[if_neg this]at e;exact e⟩
 clear b2 U ζ r1 ξ s1;refine Y4b a (S2 _ _ ha) (Yck xs (Ex5 λ(o2 o3 o4 μ:Ao) (g:List (List fK × V))=>An5 (σ=[Y2b,Y1f,o2,o3,o4,μ]) (Y0) (H' p=Y0P g) (g.length<=1+4*i) (DQ K H' g (bQ F (Y7O)))) ⟨_,_,_,_,_,rfl,S2,e2,by simp,D2⟩ YdQ ?_ ?_)
 ·obtain⟨_,_,_,_,_,_,ω,_⟩:=q;exact fY.of (ω _ _ ha)
 ·rintro i x σ H3 hx ⟨o2,o3,o4,μ,g,rfl,S3,θ,l3,D3⟩;obtain⟨e,C,re⟩:=cR δ hx;have hi:i<es.length:=(aO.mp C).1;have r:=aF C;have hkey:Y7P e.1 (·.1):=Y3q e r;have hel:=RL.len e r;have ε:=RL.at C;have fpos:=RL.posf r;obtain⟨f0,fr,ef,G,nn0,v0,ο⟩:=(RO.sy e r).hd;have es0:Yj=rv f0:=v0;obtain⟨b,u,z,rfl,hb,ru,rz⟩:=xN (re.same S3);obtain⟨J,rfl,Z⟩:=fS ru;refine⟨b,[.ref J,z],rfl,fY.of hb,rfl,.ref J,[z],rfl,z,[],rfl,rfl,Y3G⟩;intro d_;refine Y6 (iU.i (f:=f0) (fs:=fr) (by rw[<-ef];exact rz) ?_);refine Y6 Y96
  ·have sne:Y2D:=ο.mp on;refine Yp;intro d_ n_;obtain⟨X,γ,R⟩:=D3.val (d:=e.1) (by rw[ε];grind);rw[ε]at R;refine Yt (Y61 θ e.1 (by rw[eT];exact Z) γ ?_);obtain⟨av,vs,rfl,hav,τ⟩:=gA rz;rw[ef]at τ;obtain⟨y0,hy0,ry0⟩:=aH.atX (i:=0) τ rfl;refine YbK hav hy0;have qA:Qn (iI^e.1.sum) (2^150) (Y00 e.1):=by
    have S:=RL.qn (N:=iI) (λe C=>(RO.sy e C).qn 0) f4 es.length (Yn) e.1;rw[cM]at S;exact S.le (aP (Y5k few) AN)
   have hsM:=RO.sum e r;have nA:Fn (nO 1 1) (2^150) (gM (Y00 e.1)):=(Y1K qA).fq;have n0:Y2p 1 1 f0:=Y7S G.low G.q (by have:=Y9r 1 1 1;rwa [Nat.pow_one]at this);refine eY.i R.v (gD.of ry0) (Yr) G.low (Y7g nA) (Y5e sH n0) λq4 H4 hq4 e4 s4=>?_;have φ:jH (gM (Y00 e.1)) f0=gM (Y00 e.1*Yj):=Y7Q G.low (by rw[hJ (Yr).pos G.low.pos,dA,dA,es0]);rw[φ]at e4;have qy:Qn (iI^(e.1.sum+1)) (2^150) (Y00 e.1*Yj):=by
    have h:=qA.mul ((RO.sy e r).qn 0);rw[Nat.mul_one,<-Nat.pow_succ]at h;exact h
   refine Y4;refine iE.i (oO (s4 _ _ Z)) Oo λL I H5 hL e5 ψ β=>?_;have S5:=(S3.trans s4).trans β;have ly:I.length=F:=by rw[ψ.len,aB,aB,bC,hel]
   have ι:Y6H H5 (gM (Y00 e.1*Yj)) q4:=cO (β _ _ e4);have e5p:H5 p=Y0P g:=β _ _ (s4 _ _ θ);have nLp:L≠p:=λz=>by rw[z,s4 _ _ θ]at hL;cases hL
   refine Y1L L (Y9s e5) ?_;refine jU (xs:=I) (λj σ H'=>Ex2 λ(μ:Ao) (g:List (List fK × V))=>An5 (σ=[Y2b,Y1f,Y2 J,Y2 av,Y2 q4,μ]) (Y5U p H5) (H' p=Y0P g) (g.length<=1+4*i+j) (DQ K H' g λd=>Y5f i d+Y00 e.1*Yj*Y4h j (if Y0q e.1=d then 1 else 0)))
    ⟨_,g,rfl,(Y07).but,e5p,Oo,(D3.t (s4.trans β).t).eq λd=>by rw[gK];grind⟩ (Y8v) ?_ ?_
   ·obtain⟨_,_,_,b',_⟩:=q;exact Ybg nLp e5
   ·rintro j y σ H6 hy ⟨o5',O,rfl,b6,χ,l6,D6⟩;refine Y2z;intro d_;have hj:j<F:=by rw[<-ly];exact(aO.mp hy).1
    obtain⟨m,hm,rm⟩:=cR ψ hy;have φ:m=bN e.1 j:=by
     rw[aR,cX Oo]at hm;simpa using hm.symm
    have ν:m.sum=e.1.sum+1:=by rw[φ];exact fA Oo
    have mks:Y7P m (·.1):=by rw[φ];exact RL.fwd e r sne j hj
    have mM:m.sum<=M:=by obtain⟨e',he',rfl⟩:=aQ.mp mks;exact RO.sum e' he'
    obtain⟨cm,rfl,hcm⟩:=fS rm;have t6:dG H5 H6:=aT.tT b6 e5p;have α:=t6 _ _ hcm;have hnz:gD K H6 (0,1) (.ref c.NOUGHT):=Y0K c.NOUGHT (uP T.o_NOUGHT);have hg:=D6.get m hnz;have qX:Qn (iI^m.sum) (2^155) (Y5f i m+Y00 e.1*Yj*Y4h j (if Y0q e.1=m then 1 else 0)):=by
     have S:=RL.qn (N:=iI) (λe C=>(RO.sy e C).qn 0) f4 i Oo m;have h1':=S.le (aP (Y5k (show i<=64 by exact Oo)) AN);have ρ:Qn 1 4 (Y4h j (if Y0q e.1=m then 1 else 0)):=by
      have:=Qn.sumR (N:=1) (B:=1) (n:=j) (f:=λf=>if Y0q e.1=m then 1 else 0) λf _=>by
       split
       ·exact Qn.one' _
       ·exact Yah _
      exact this.le Oo
     have η:=qy.mul ρ;rw[Nat.mul_one,<-ν]at η;refine(h1'.add η).le ?_;have:(2:Nat)^150+2^150*4<=2^155:=Kk;exact this
    generalize hX:bQ F (es.take i) m+bQ F es e.1*s0 e*(dD j λf=>if bN e.1 f=m then 1 else 0)=Xm at qX hg;have nX:Fn (nO 1 1) (2^155) (gM Xm):=(Y1K qX).fq;have nY:Fn (nO 1 1) (2^150) (gM (Y00 e.1*Yj)):=(Y1K qy).fq;refine⟨_,rfl,p,rfl,Y6P O (.inl χ),_,rfl,_,pL.ct (c:=ci m) χ (by rw[eT];exact α),Y4⟩;refine lJ.i hg (gD.of (ι.flat t6 (Y0X))) (Yr) (Yr) (Y7g nX) (Y7g nY) λq7 H7 hq7 e7 s7=>?_;have ea:kH (gM Xm) (gM (Y00 e.1*Yj))=gM (Xm+Y00 e.1*Yj):=gL (pX (Yr) (Yr)) Yr (by rw[oE (Yr).pos (Yr).pos,dA,dA,dA]);rw[ea]at e7;refine Y0g;have υ:=s7 _ _ χ;refine Y5Y υ (ci m) (by rw[eT];exact s7 _ _ α) (λH8 e8 b8=>?_);have t8:dG H7 H8:=aT.tT b8 υ;refine⟨_,_,rfl,(b6.trans s7.but).trans b8,e8,?_,?_⟩
    ·have:=iV O (Y25 m) (V.ref q7);exact Oo
    ·have D7:=D6.t s7.t;have D8:=(D7.put (c:=m) (v:=.ref q7) (y:=bQ F es e.1*s0 e) (by rw[hX];exact .inl (cO e7))).t t8;refine D8.eq Y45;rw[dU,<-φ];by_cases q:m=d
     ·rw[Y43,Y43];grind
     ·rw[Y1u,Y1u];grind
   ·rintro σ H6 ⟨o5',O,rfl,b6,χ,l6,D6⟩;rw[ly]at l6 D6;refine⟨_,_,_,_,O,rfl,Ydg S5 b6,χ,Oo,D6.eq Y45⟩;rw[dS C,jV,ε];rfl
  ·have z0:Yj=0:=bU λq=>on (ο.mpr q);refine⟨_,_,_,_,g,rfl,S3,θ,Oo,D3.eq Y45⟩;rw[dS C,jV,z0];grind
 ·rintro σ H3 ⟨o2,o3,o4,μ,g,rfl,S3,θ,l3,D3⟩;rw[lx,cM]at D3;refine Y4b a (S3 _ _ ha) (kC (λi y H'=>∃(e:dE) (b:Addr) (J X:V),es[i]?=Y8f/\y=Y0z/\Y1E=Ym [J,X]/\FE K H' (gM (Y00 e.1)) X) (λi y H1 H2 s ⟨e,b,J,X,S,h2,ρ,η⟩=>⟨e,b,J,X,S,h2,s _ _ ρ,η.t s⟩) Oo (S3 _ _ ha) (λi x H' Q' hx ω k'=>?_) (λD I H8 hD hD8 s8 hy8 hr8=>?_))
  ·obtain⟨e,C,re⟩:=cR δ hx;have r:=aF C;obtain⟨b,u,z,rfl,hb,ru,rz⟩:=xN ((re.same S3).same ω);obtain⟨J,rfl,Z⟩:=fS ru;obtain⟨X,γ,R⟩:=D3.val (d:=e.1) (by have:=RL.posf r;grind);refine Yu hb;refine Y27 hb;refine Y61 (ω _ _ θ) e.1 (by rw[eT];exact Z) γ (jT (by show 2<=64;decide) λq5 H5 hq5 e5 β=>?_);exact k' _ H5 β ⟨e,q5,_,X,C,rfl,e5,(R.same ω).same β⟩
  ·refine Y4X D I hD8 Ybk;have sl:=Y3m I hl;have el:(upd H8 l (.tup I)) l=Ym I:=bK;generalize upd H8 l (.tup I)=H9 at sl el;refine k l I H9 ((S3.trans s8).trans sl) el Oo λi e hi=>?_;obtain⟨y,hy⟩:∃y,I[i]?=Y0j:=Y1i (by have:=(aO.mp hi).1;exact Oo);obtain⟨e',b,J,X,S,rfl,ρ,η⟩:=hr8 i y hy;rw[hi]at S;cases S;exact⟨b,J,X,hy,sl _ _ ρ,η.same sl⟩
end
abbrev aBt:Stmt:=(top 49)
def ZG:Ya ["trial","rule","way","found","entry","amount"] a26 aBt:={}
abbrev aA3:Stmt:=(top 50)
def aF0:Ya ["came","way"] ["came","way"] aA3:={}
abbrev aA7:Stmt:=(top 51)
def aD1:Ya ["trial","rule","way","came"] a26 aA7:={}
abbrev aA2:Stmt:=(top 52)
def aFZ:Ya a36 a36 aA2:={}
def NY(F:Nat)(es:Ys)(s:Al)(e:dE):Fr:=gM (Y00 e.1*wq s e.1)
abbrev VX(x:dE × Fr):PyData:=.tuple [gX x.1.1,lK x.1.2,eA x.2]
def HS(x:dE × Fr):dQ (VX x)=true:=by show(dQ (gX x.1.1)&&(dQ (lK x.1.2)&&(dQ (eA x.2)&&true)))=true;rw[gG,dM];rfl
theorem HR:∀l:List (dE × Fr),gF (l.map VX)=true
 | []=>rfl
 | x::l=>by show(dQ (VX x)&&gF (l.map VX))=true;rw[HR l,HS];rfl
def came(F:Nat)(es:Ys)(s:Al):Y3j dE Fr:=es.map λe=>(e,NY F es s e)
def aAv{H:Hp}{x:dE × Fr}{v:V}(h:Y0x (VX x) v):∃b u z y,v=Y0z/\H b=Ym [u,z,y]/\Y6h x.1.1 u/\Y14 x.1.2 z/\Y1A x.2 y:=by
 obtain⟨b,g,rfl,e,r⟩:=dW h;unfold aH aH aH aH at r;obtain⟨u,_,rfl,d,z,_,rfl,c,y,_,rfl,a,rfl⟩:=r;exact Y5c b u z y e d c a
section
variable{F W M:Nat}{es:Ys}{s:Al}
def nM.aq(R:Y0B)(f4:F<=4)(hs:∀f∈s,Y4Z){e:dE}(h:Y5b):Qn (iI^(M+M)) (2^150) (Y00 e.1*wq s e.1):=by
 have a:=(R.fl f4 h).mul (LJ (M:=M) hs (R.sum e h));rw[Nat.mul_one,<-Nat.pow_add]at a;exact a
def nM.aqs(R:Y0B)(f4:F<=4)(hs:∀f∈s,Y4Z){e:dE}(h:Y5b)(v:Nat):Qn (iI^(M+M+1)) (2^150) (Y00 e.1*wq s e.1*cS e.2 v):=by
 have a:=(R.aq f4 hs h).mul ((R.sy e h).qn v);rw[Nat.mul_one,<-Nat.pow_succ]at a;exact a
theorem Qn.sumL{α:Type}{N B:Nat}{f:Y4Y}:∀{l:Yo},(∀a∈l,Qn N B (f a))->Qn N (l.length*B) (fE l f)
 | [],_=>by rw[iD];exact Qn.zero _ _
 | a::l,h=>by
  rw[eK,cE,Nat.add_mul,Nat.one_mul,Nat.add_comm];exact(h a (aV ..)).add (Qn.sumL λx hx=>h x (aZ _ hx))
def nM.said(R:Y0B)(f4:F<=4)(hs:∀f∈s,Y4Z)(w:Nat):Qn (iI^(M+M+1)) (2^160) (kK F es (wq s) w):=by
 have h:=Qn.sumL (l:=es) λe a=>R.aqs f4 hs a (1+w);refine h.le ?_;have c:es.length*2^150<=64*2^150:=bT _ R.few;exact aP c Kk
def nM.spent(R:Y0B)(f4:F<=4)(hs:∀f∈s,Y4Z){cs:Y0s}{Nc:Nat}(hc:∀e∈es,Y2D->Qn Nc 1000 (cs e.1.sum)):Qn (Nc*iI^(M+M+1)) (2^170) (kS F es (wq s) cs):=by
 have h:=Qn.sumL (l:=es) (N:=Nc*iI^(M+M+1)) (B:=1000*2^150) (f:=λe=>cs e.1.sum*(Y00 e.1*wq s e.1*Yj)) λe a=>by
  by_cases z:Yj=0
  ·rw[z,show cs e.1.sum*(bQ F es e.1*wq s e.1*0)=0 by grind];exact Yah _
  ·exact(hc e a z).mul (R.aqs f4 hs a 0)
 refine h.le ?_;have c:es.length*(1000*2^150)<=64*(1000*2^150):=bT _ R.few;exact aP c Kk
end
theorem xF{α:Type}{p:Y2a α}{f:Y4Y}:∀{l:Yo},(∀a∈l,Yq (p a)->f a=0)->fE (l.filter p) f=fE l f
 | [],_=>rfl
 | a::l,h=>by
  have ih:=xF λx c=>h x (aZ a c);cases q:p a with
  | true=>rw[List.filter_cons_of_pos q,eK,eK,ih]
  | false=>rw[List.filter_cons_of_neg (by rw[q];decide),eK,ih,h a (aV ..) q];grind
def JA{α:Type}{l:Yo}{g:α->Fr}{f:Y4Y}(h:∀a∈l,cT (g a)/\rv (g a)=f a):jQ (l.map g)=gM (fE l f):=by
 have d:∀x∈l.map g,cT x:=λx e=>by
  obtain⟨a,c,rfl⟩:=aQ.mp e;exact(h a c).1
 refine gL (sB _ d) Yr ?_;rw[tW _ d,dA,List.map_map];exact congrArg rP (fD λa c=>(h a c).2)
def KL(x y:Rat):kH (gM x) (gM y)=gM (x+y):=gL (pX (Yr) (Yr)) Yr (by rw[oE (Yr).pos (Yr).pos,dA,dA,dA])
def RY(x y:Rat):Y6o (gM x) (gM y)=gM (x-y):=gL (pX (Yr) (oI (Yr))) (Yr) (by
 rw[oE (Yr).pos (oI (Yr)).pos,show pQ (gM y)=(-(gM y).1,(gM y).2)from rfl,zY,dA,dA,dA,Rat.sub_eq_add_neg])
inductive mD:Yh
 | i {H:Hp} {Q:VK} {E:XK} {t r:V} {es:Ys} {F W M:Nat} {fs:Ai} {ws:Y03} {i:Nat} {x:Str × Al} (h1:Y3c) (h2:Y6T es r) (h3:Y0B) (h4:1<=F) (h5:F<=4) (h6:M<=6) (h7:ws[i]?=Y8) (h8:∀f∈x.2,Y4Z) (h9:BOk 10 x.2) (k:Y2x (H D=none) (Y0p=Y0f->Y1m ((came F es x.2).map VX) ys->Y0->Y1r)):mD [t,r,.int (i:Int)] H Q E
inductive qK:Yh
 | i {H:Hp} {Q:VK} {E:XK} {D:Addr} {ys:An} {es:Ys} {F W M w:Nat} {s:Al} (h1:H D=Y0f) (h2:Y18 ((came F es s).map VX) ys) (h3:Y0B) (h4:F<=4) (h5:M<=6) (h6:w<W) (h7:∀f∈s,Y4Z) (k:∀v H',Y0->Y7Z (kK F es (wq s) w) v->Y1a):qK [.ref D,.int (w:Int)] H Q E
abbrev VU(e:dE):Bool:=decide (Y2D)
abbrev onD(x:Nat × Fr):PyData:=Y7e (.int (x.1:Int)) (eA x.2)
def onw(F:Nat)(es:Ys)(s:Al):Y3j Nat Fr:=(es.filter VU).map λe=>(e.1.sum,gM (Y00 e.1*wq s e.1*Yj))
inductive qL:Yh
 | i {H:Hp} {Q:VK} {E:XK} {t r:V} {es:Ys} {F W M:Nat} {fs:Ai} {ws:Y03} {i:Nat} {x:Str × Al} (h1:Y3c) (h2:Y6T es r) (h3:Y0B) (h4:1<=F) (h5:F<=4) (h6:M<=6) (h7:ws[i]?=Y8) (h8:∀f∈x.2,Y4Z) (h9:BOk 10 x.2) (k:Y2x (H D=none) (Y0p=Y0f->Y1m ((onw F es x.2).map onD) ys->Y0->Y1r)):qL [t,r,.int (i:Int)] H Q E
structure CoC(Nc:Nat)(es:Ys)(cs:Al):Prop where
 c0:0<Nc
 c1:Y9C Nc
 at_:∀f∈cs,Fn Nc 1000 f
 len:∀e∈es,Y2D->e.1.sum<cs.length
def CoC.qn{Nc:Nat}{es:Ys}{cs:Al}(h:CoC Nc es cs){e:dE}(he:Y5b)(hs:Y2D):Qn Nc 1000 (cS cs e.1.sum):=(h.at_ _ (eV (a:=(0,1)) (h.len e he hs))).q
inductive uS:Yh
 | i {H:Hp} {Q:VK} {E:XK} {t r cv:V} {es:Ys} {F W M Nc:Nat} {fs:Ai} {ws:Y03} {i:Nat} {x:Str × Al} {cs:Al} (h1:Y3c) (h2:Y6T es r) (h3:Y0B) (h4:1<=F) (h5:F<=4) (h6:M<=6) (h7:ws[i]?=Y8) (h8:∀f∈x.2,Y4Z) (h9:BOk 10 x.2) (h10:Y14 cs cv) (h11:CoC Nc es cs) (k:∀v H',Y0->Y7Z (kS F es (wq x.2) (Y1N)) v->Y1a):uS [t,r,.int (i:Int),cv] H Q E
section
def aFh(F:Y9 "comings" "comings" aBt)(T:Yb)(FQ29:Y1B "amounts" ["rule"] (qR K))(FQ70:Y82 "times" K)(FQ74:Y1B "weight" a43 (nK K)):dI P w K mg base cN 4 f fd a26 mD:=by
 refine Y1e ZG;obtain @⟨H,Q,E,t,r,g,F,W,M,fs,ws,iw,x,rt,rr,RO,f1,f4,m6,hx,R,η,k⟩:=h;refine Yf;intro cdv A γ s hr _;obtain⟨a,xs,rfl,S,G⟩:=dW rr;have lx:Y2v g.length:=cC G;have few:=RO.few;refine⟨_,(aG (Y13 ZG.nd (jN aI))
  (aG (eO PassesOwn.never rfl (yX true true rfl T.b_zip (Y2I 1 (Y3o FQ29 1))) (pE rfl (fJ (Y5R 4 ZG.nd) (fJ (Y5R 5 ZG.nd) mL))) (aK (Y85 qV 3 (cG (aM (Y2g 4) (Y2V (Y2g 4) (bO FQ70 (Y2g 5) (iT FQ74 (aA 0) (aA 2) (Y2g 4)))))))))
  (Y3v 3))),?_⟩
 refine Yp;intro d_ n_;refine GR (by show 0<=64;decide) λL H1 α ο I=>Y0g;refine qR.i (rr.same I) RO f1 f4 m6 λω ys H2 n X ly k2=>Y1Z a ω xs ys (n _ _ (I _ _ S)) X ?_;refine NF (xs:=xs) (ys:=ys) (λi σ H'=>∃(ν ζ:Ao) (l:An),σ=[some t,Y2b,Yk (iw:Int),Y2 L,ν,ζ]/\Y5U L H2/\H' L=Y05 l/\Y1m (((came F g x.2).take i).map VX) l) (Y2T _ _ [] ((Y07).but) (n _ _ ο) aH.nil) (λi σ H' ⟨_,_,_,_,b',_⟩=>?_) ?_ ?_
 ·have na:a≠L:=λz=>by rw[z,α]at S;cases S
  have κ:ω≠L:=λz=>by rw[z,n _ _ ο]at X;cases X
  exact⟨b'.at na (n _ _ (I _ _ S)),b'.at κ X⟩
 ·rintro i y z q3 σ H3 H4 hy μ ⟨ν,ζ,l,rfl,U,ρ,O⟩ hq3 e4 Z;obtain⟨e,β,re⟩:=cR G hy;have B:=aF β;have ι:=U.t (n _ _ ο);have m:=ι.trans Z.t;have N:=(I.trans n).t.trans m;obtain⟨b,u,v,rfl,δ,χ,ξ⟩:=xN (re.flat N (HE e));obtain⟨bz,cz,va,C,J,θ⟩:=k2 i e β;rw[μ]at C;cases C;have p:H4 L=Y05 l:=Z _ _ ρ;have lz:l.length<=64:=by
   rw[cC O,cW];unfold came;rw[aB];exact Oo
  refine⟨q3,_,rfl,fY.of e4,rfl,_,_,rfl,_,_,rfl,rfl,Y3G⟩;intro d_;refine Y50 _ (QQ p) _ (Y3R δ);refine Yu δ;refine Yu (m _ _ J);refine Y2J (Y3R δ);have ε:=RO.sum e B;refine nK.i (rt.flat N (gE fs ws)) hx χ η Oo λxw H5 φ fw=>?_;have nA:Fn (nO 1 1) (2^150) (gM (Y0G g e.1)):=(Y1K (RO.fl f4 B)).fq;have j:cT (lP (x.2.zip e.1)):=mP _ λz μ=>(R z.1 (List.of_mem_zip (a:=z.1) (b:=z.2) μ).1).low;have nW:Y2p 1 1 (lP (x.2.zip e.1)):=Qn.f j (Y1K (LJ (M:=M) R ε));refine eY.i ((θ.t m).same φ).v fw.v (Yr) j (Y7g nA) (Y5e sH nW) λq6 H6 hq6 ψ s6=>?_;have em:jH (gM (Y0G g e.1)) (lP (x.2.zip e.1))=NY F g x.2 e:=Y7Q j (by rw[hJ (Yr).pos j.pos,dA];unfold NY;rw[dA];rfl);rw[em]at ψ;refine jT (by show 3<=64;decide) λq7 H7 hq7 e7 τ=>?_;have d:=(φ.trans s6).trans τ;refine EX (d _ _ p) Oo λH8 e8 υ=>?_;have D:=υ.t (d _ _ p);refine Y2T _ _ (l++Y3F q7) ((U.trans (Z.trans d).but).trans υ) e8 ?_;have ec:(came F g x.2)[i]?=some (e,NY F g x.2 e):=by unfold came;rw[aR,β];rfl
  rw[dS ec,bG];refine aH.snoc (aH.flat ((Z.trans d).t.trans D) (HR _) O) (bI.flat D (HS _) (Y9j e7 (χ.same d) (ξ.same d) (Y3U (cO (τ _ _ ψ)))))
 ·rintro σ H3 ⟨ν,ζ,l,rfl,U,ρ,O⟩;refine Y4;have hc:(came F g x.2).take (Ybd)=came F g x.2:=List.take_of_length_le (by unfold came;rw[aB];exact Oo);rw[hc]at O;exact k L l H3 α ρ O (aX.thru α (I.trans n) U)
def aEP(F:Y9 "said_of" "said_of" aA3)(T:Yb)(FQ71:Y1B "total" ["some"] (jS K))(FQ70:Y82 "times" K):dI P w K mg base cN 4 f fd ["came","way"] qK:=by
 refine Y1e aF0;obtain @⟨H,Q,E,D,ys,d,F,W,M,j,s,α,C,RO,X,m6,hw,n,k⟩:=h;refine Yf;intro γ A B s9 hr _;have few:=RO.few;refine Y6M _ (fL FQ71 (BM (eJ.o a45 ["counts","says","share","way"] [1]) (Y30 0) (Y6y) (λ_ _ _ _=>(Y0O FQ70 2 (aW (gU K) (aA 1) (Y0F eB aE 3))))));refine Y31 D α (wU (as:=came F d s) (Yd0) (λx v=>Y0x (VX x) v) (λx y H'=>Y7Z (Y0G d x.1.1*wq s x.1.1*cS x.1.2 (1+j)) y) (Yfl s Y0X) (by unfold came;rw[aB];exact Oo) α (Paired.ofRepL C) (λv x H' ρ μ τ=>?_) (λL zs H2 ω ο η U=>?_))
 ·obtain⟨e,p,rfl⟩:=aQ.mp ρ;obtain⟨b,u,z,y,rfl,β,ru,δ,ζ⟩:=aAv (μ.same τ);refine⟨b,[u,z,y],rfl,fY.of β,rfl,λQ' h=>h H' (Y07),λH5 Q' R _ χ=>?_⟩;obtain⟨az,vz,rfl,O,I⟩:=gA (δ.same R);have m:=RO.sy e p;obtain⟨g,G⟩:∃g,e.2[1+j]?=Y5y:=Y1i (by rw[m.len];exact Oo);obtain⟨vg,J,N⟩:=gB I G;have l:=(m.at_ g (aF G)).1;refine⟨_,rfl,_,rfl,_,rfl,_,_,rfl,rfl,eX O (by have:=cU J;rwa [show((1+j:Nat):Int)=1+(j:Int)by exact Oo]at this) ?_⟩;have ν:Y2p 1 (2^150) (NY F d s e):=(Y1K (RO.aq X n p)).fq;have θ:Y2p 1 1 g:=Y7S l.low l.q (by have:=Y9r 1 1 1;rwa [Nat.pow_one]at this);refine Yaa (ζ.same R) (gD.of N) Yr l.low (Y7g ν) (Y5e sH θ) (λq6 H6 φ ξ ψ=>χ _ H6 ψ (cO ?_));have ι:jH (NY F d s e) g=gM (Y0G d e.1*wq s e.1*cS e.2 (1+j)):=Y7Q l.low (by rw[hJ (f:=NY F d s e) (Yr).pos l.low.pos,lH G];unfold NY;rw[dA,dA]);rw[<-ι];exact ξ
 ·rw[uD]at U;have S:=AD (g:=λx:dE × Fr=>gM (Y0G d x.1.1*wq s x.1.1*cS x.1.2 (1+j))) U;have υ:(came F d s).map (λx:dE × Fr=>gM (Y0G d x.1.1*wq s x.1.1*cS x.1.2 (1+j)))=d.map λe=>gM (Y0G d e.1*wq s e.1*cS e.2 (1+j)):=by unfold came;rw[List.map_map];rfl
  rw[υ]at S;have fl:∀f∈d.map (λe=>gM (bQ F d e.1*wq s e.1*cS e.2 (1+j))),Y2p 1 (2^150) f:=λf ε=>by
   obtain⟨e,p,rfl⟩:=aQ.mp ε;exact(Y1K (RO.aqs X n p _)).fq
  refine Yal ο S (oQ fl sH.big.1 (Y1v sH.big.2) (by rw[aB];exact few) (Y9x)) (λv H3 κ Z=>?_);rw[JA (f:=λe:dE=>Y0G d e.1*wq s e.1*cS e.2 (1+j)) λe _=>⟨Yr,dA _⟩]at Z;exact k v H3 (η.trans κ) Z
def aET(F:Y9 "onwards" "onwards" aA7)(T:Yb)(FQ39:Y0e 4 "comings" a26 mD)(FQ70:Y82 "times" K)(FQ59:Y06 "looks_on" ["says"] iU):dI P w K mg base cN 5 f fd a26 qL:=by
 refine Y1e aD1;obtain @⟨H,Q,E,t,r,d,F,W,M,fs,ws,iw,x,rt,rr,RO,υ,η,m6,hx,p,R,k⟩:=h;refine Yf;intro μ A G s hr _;have few:=RO.few;refine⟨_,(aG (Y13 aD1.nd (Y3y FQ39 0 1 2))
  (Y0L (BM (eJ.o a45 a45 []) (Y30 3) (λ_ _ _ _=>LD (fO (Y3o FQ59 1))) (λ_ _ _ _=>(Y2t (eP (sY K rfl) (by rfl) T.b_sum Kk (Y2s 0)) (Y0O FQ70 2 (Y7j 1))))))),?_⟩
 refine Yp;intro d_ n_;refine Y1l;refine mD.i rt rr RO υ η m6 hx p R λD ys H1 hD C r1 ζ=>Y31 D C (wU (as:=came F d x.2) (λy=>VU y.1) (λy v=>bI H1 (VX y) v) (λy v H'=>Y2E (onD (y.1.1.sum,gM (Y0G d y.1.1*wq x.2 y.1.1*s0 y.1)))) (Yfl s rfl) (by unfold came;rw[aB];exact Oo) C (Paired.ofRepL r1) (λv y H' hy J s'=>?_) (λL ε H2 θ e2 ο pr=>?_))
 ·obtain⟨e,α,rfl⟩:=aQ.mp hy;obtain⟨b,u,z,y,rfl,κ,ρ,β,J⟩:=aAv (J.same s');obtain⟨l,ψ,γ,g,ν,τ,m⟩:=(RO.sy e α).hd;have U:Yj=rv l:=τ;refine⟨b,[u,z,y],rfl,fY.of κ,rfl,λQ' h=>?_,λH5 Q' O hp k'=>?_⟩
  ·refine Y6 (iU.i (f:=l) (fs:=ψ) (by rw[<-γ];exact β) ?_);refine Y4;have C:Y34 0 l.1=VU e:=by
    by_cases q:0<l.1
    ·rw[bV q];exact(bV (m.mp q)).symm
    ·rw[cI q];exact(cI (Y87 (m.mpr z))).symm
   rw[C];exact h H' (Y07)
  ·obtain⟨cu,rfl,S⟩:=fS (ρ.same O);obtain⟨az,vz,rfl,X,n⟩:=gA (β.same O);rw[γ]at n;obtain⟨y0,I,N⟩:=aH.atX (i:=0) n rfl;refine Y6 (Ybj (ci e.1) (by rw[eT];exact fY.of S));rw[wY];refine Yt (eX X (Y8A I) ?_);have ω:Y2p 1 (2^150) (NY F d x.2 e):=(Y1K (RO.aq η p α)).fq;have φ:Y2p 1 1 l:=Y7S g.low g.q (by have:=Y9r 1 1 1;rwa [Nat.pow_one]at this);refine Yaa (J.same O) (gD.of N) Yr g.low (Y7g ω) (Y5e sH φ) (λξ H6 hq6 B s6=>?_);have χ:jH (NY F d x.2 e) l=gM (Y0G d e.1*wq x.2 e.1*Yj):=Y7Q g.low (by rw[hJ (f:=NY F d x.2 e) (Yr).pos g.low.pos,U];unfold NY;rw[dA,dA]);have B:H6 ξ=Ym [.int (jH (NY F d x.2 e) l).1,.int (jH (NY F d x.2 e) l).2]:=B;rw[χ]at B;exact jT (by show 2<=64;decide) λq7 H7 hq7 ι Z=>k' _ H7 (s6.trans Z) (Y7n ι Y7o (cO (Z _ _ B)))
 ·refine k L ε H2 (ζ.free θ) e2 ?_ (ζ.trans ο);have δ:aH H2 (((came F d x.2).filter λy=>VU y.1).map λy=>onD (y.1.1.sum,gM (Y0G d y.1.1*wq x.2 y.1.1*s0 y.1))) ε:=Paired.toRepL pr;have e3:((came F d x.2).filter λy=>VU y.1).map (λy=>onD (y.1.1.sum,gM (Y0G d y.1.1*wq x.2 y.1.1*s0 y.1)))=(onw F d x.2).map onD:=by
   unfold came onw;rw[List.filter_map,List.map_map,List.map_map];rfl
  rw[e3]at δ;exact δ
def aEO(F:Y9 "spent" "spent" aA2)(T:Yb)(FQ71:Y1B "total" ["some"] (jS K))(FQ70:Y82 "times" K)(FQ63:Y0e 5 "onwards" a26 qL):dI P w K mg base cN 6 f fd a36 uS:=by
 refine Y1e aFZ;obtain @⟨H,Q,E,t,r,cv,a,F,W,M,C,fs,ws,iw,x,j,rt,rr,RO,φ,γ,m6,hx,m,N,ε,B,k⟩:=h;refine Yf;intro μ A G s hr _;have few:=RO.few;have ok:KY 1 C:=⟨Dd,Dd,B.c0,B.c1⟩;obtain⟨ac,vc,rfl,I,R⟩:=gA ε;refine Y6M _ (fL FQ71 (sR (eJ.o ["looks","share"] ["looks","share","costs"] [3]) (fV (Y3y FQ63 0 1 2)) (Y6y) (λ_ _ _ _=>(bO FQ70 (aW (gU K) (aA 2) (aA 0)) (aA 1)))));refine Y1l;refine qL.i rt rr RO φ γ m6 hx m N λD ys H1 hD ι β Z=>Y1L D (Y9s ι) ?_;have δ:aH H1 ((a.filter VU).map λe=>onD (e.1.sum,gM (Y0G a e.1*wq x.2 e.1*Yj))) ys:=by unfold onw at β;rw[List.map_map]at β;exact β
 have fl0:=List.length_filter_le VU a;refine wU (as:=a.filter VU) (Yd0) (λe v=>bI H1 (onD (e.1.sum,gM (Y0G a e.1*wq x.2 e.1*Yj))) v) (λe v H'=>Y7Z (cS j e.1.sum*(Y0G a e.1*wq x.2 e.1*Yj)) v) (Yfl s Y0X) Oo ι (Paired.ofRepL δ) (λv e H' p re α=>?_) (λL zs H2 hL e2 τ θ=>?_)
 ·obtain⟨d,l⟩:=iK.mp p;have η:Y2D:=of_decide_eq_true l;obtain⟨b,us,rfl,κ,S⟩:=dW (re.same α);obtain⟨u,y,rfl,υ,ξ⟩:=gH S;cases(show u=V.int (e.1.sum:Nat)from υ);refine⟨b,_,rfl,fY.of κ,rfl,λQ' h=>h H' (Y07),λH5 Q' J _ k'=>?_⟩;have n:=B.len e d η;obtain⟨g,O⟩:∃g,j[e.1.sum]?=Y5y:=Y1i n;obtain⟨vg,U,X⟩:=gB R O;have z:=B.at_ g (aF O);refine Yt (eX ((Z.trans α).trans J _ _ I) (cU U) ?_);refine Y4;have n1:Y2p C 1000 g:=Y7S z.low z.q ⟨iI^15,by unfold nO;ac_rfl⟩;have χ:Fn (nO 1 C) (2^150) (gM (Y0G a e.1*wq x.2 e.1*Yj)):=(Y1K (RO.aqs γ m d 0)).fq;refine Yaa (X.same ((Z.trans α).trans J)) (gD.of (ξ.same J)) z.low Yr (iY ok n1 (aP (show 1000<=2^10 by decide) (mW Dd))) (Y3E χ) (λq6 H6 hq6 e6 s6=>k' _ H6 s6 (cO ?_));have ψ:jH g (gM (Y0G a e.1*wq x.2 e.1*Yj))=gM (cS j e.1.sum*(Y0G a e.1*wq x.2 e.1*Yj)):=gL (fR z.low Yr) Yr (by rw[hJ z.low.pos (Yr).pos,dA,dA,lH O]);rw[e6,ψ]
 ·rw[uD]at θ;have ρ:=AD (g:=λe:dE=>gM (cS j e.1.sum*(Y0G a e.1*wq x.2 e.1*Yj))) θ;have fl:∀f∈(a.filter VU).map (λe=>gM (cS j e.1.sum*(bQ F a e.1*wq x.2 e.1*s0 e))),Y2p C (2^160) f:=λf ν=>by
   obtain⟨e,p,rfl⟩:=aQ.mp ν;obtain⟨d,l⟩:=iK.mp p;have h:=(B.qn d (of_decide_eq_true l)).mul (RO.aqs γ m d 0);exact(rS (h.le (show 1000*2^150<=2^160 by decide +kernel)) (QA Oo)).fq
  refine Yal e2 ρ (oQ fl ok.big.1 (Y1v ok.big.2) (by rw[aB];exact Oo) (Y9x)) (λv H3 ω ζ=>?_);rw[JA (f:=λe:dE=>cS j e.1.sum*(Y0G a e.1*wq x.2 e.1*Yj)) λe _=>⟨Yr,dA _⟩]at ζ;have ο:fE (a.filter VU) (λe:dE=>cS j e.1.sum*(Y0G a e.1*wq x.2 e.1*Yj))=kS F a (wq x.2) (cS j):=by
   unfold kS;exact xF λe _ p=>by rw[Classical.not_not.mp (of_decide_eq_false p)];grind
  rw[ο]at ζ;exact k v H3 ((Z.trans τ).trans ω) ζ
end
abbrev aAU:Stmt:=(top 53)
def aCP:Ya ["trial","rule","found","way"] ["trial","rule"] aAU:={}
abbrev aBr:Stmt:=(top 54)
def aD2:Ya ["trial","rule","aim","mix"] a49 aBr:={}
structure QS(W:Nat)(ws:Y03):Prop where
 w:ws.length=W
 sh:∀x∈ws,∀f∈x.2,Y4Z
 b:∀x∈ws,BOk 10 x.2
def oF{ws:Y03}{i:Nat}{x:Str × Al}(h:ws[i]?=Y8):gI Y0T i=wq x.2:=by
 funext c
 unfold gI;rw[kO (show(eE ws)[i]?=some x.2 by rw[aR,h];rfl)]
def rX(F W:Nat)(es:Ys)(ss:Ak)(w:Nat):Fr:=gM (1-kK F es (gI ss w) w)
inductive uR:Yh
 | i {H:Hp} {Q:VK} {E:XK} {t r:V} {es:Ys} {F W M:Nat} {fs:Ai} {ws:Y03} (h1:Y3c) (h2:Y6T es r) (h3:Y0B) (h4:1<=F) (h5:F<=4) (h6:M<=6) (h7:W<=4) (h8:QS W ws) (k:∀v H',Y0->Y2E (lK ((List.range W).map (rX F W es (Y0T))))->Y1a):uR [t,r] H Q E
structure IM(Nc W M:Nat)(es:Ys)(mix cs:Al):Prop where
 ml:mix.length=W
 mx:∀f∈mix,Y4Z
 co:CoC Nc es cs
inductive yG:Yh
 | i {H:Hp} {Q:VK} {E:XK} {t r av:V} {es:Ys} {F W M A Nc:Nat} {fs:Ai} {ws:Y03} {bs mix cs:Al} (h1:Y3c) (h2:Y6T es r) (h0:Y2K A) (h3:Y0B) (h4:1<=F) (h5:F<=4) (h6:M<=6) (h7:W<=4) (h8:QS W ws) (h9:IM Nc W M es mix cs) (k:∀v H',Y0->Y7Z (rO F W es (Y4W) (Y29) (Y1N)) v->Y1a):yG [t,r,av] H Q E
section
variable{F W M Nc:Nat}{es:Ys}{fs:Ai}{ws:Y03}{mix cs:Al}
def nM.wr(R:Y0B)(f4:F<=4)(T:QS W ws){w:Nat}(hw:w<W):Qn (iI^(M+M+1)) (2^161) (1-kK F es (gI Y0T w) w):=by
 obtain⟨x,a⟩:∃x,ws[w]?=Y8:=Y1i (by rw[T.w];exact hw);rw[oF a];have h:=(Qn.one' (iI^(M+M+1))).sub (R.said f4 (T.sh x (aF a)) w);exact h.le Kk
def nM.ms(R:Y0B)(f4:F<=4)(T:QS W ws)(A:IM Nc W M es mix cs){w:Nat}(hw:w<W):Qn (Nc*iI^(M+M+2)) (2^170) (cS mix w*kS F es (gI Y0T w) (Y1N)):=by
 obtain⟨x,c⟩:∃x,ws[w]?=Y8:=Y1i (by rw[T.w];exact hw);rw[oF c];have h:=(A.mx _ (eV (a:=(0,1)) (show w<mix.length by rw[A.ml];exact hw))).q.mul (R.spent f4 (T.sh x (aF c)) λe g d=>A.co.qn g d);rw[Nat.one_mul]at h;exact h.dvd ⟨1,by rw[Nat.mul_one,Nat.pow_succ (n:=iI) (m:=M+M+1)];ac_rfl⟩
end
section
def aEG(F:Y9 "wrong" "wrong" aAU)(T:Yb)(FQ73:Y06 "ways_of" a37 iA)(FQ57:Y1B "less" a02 (iQ K))(FQ67:Y0e 4 "said_of" ["came","way"] qK)(FQ39:Y0e 4 "comings" a26 mD):dI P w K mg base cN 5 f fd ["trial","rule"] uR:=by
 refine Y1e aCP;obtain @⟨H,Q,E,t,r,j,F,W,M,fs,z,α,ρ,RO,η,G,S,ω,TQ,k⟩:=h;refine Yf;intro δ A y s hr _;refine⟨_,(aG (Y1T aCP.nd (jN aI))
  (aG (Y33 (Y5h (Y3L FQ73)) 3 aCP.nd (Y85 qV 2 (bO FQ57 (Y9Z YcX T.g_ONE rfl) (bO FQ67 (Y3y FQ39 0 1 3) (aA 3)))))
  (Y0L (YbX dN (by rfl) Kk (Y2s 2))))),?_⟩
 refine Yp;intro U ν;refine GR (by show 0<=64;decide) λL H1 β R n=>Yg;intro U ν;refine Y6 (iA.i (α.same n) ?_);rw[TQ.w];refine Y5L _ ?_;rw[Int.toNat_natCast];refine Y8F (Ex2 λ(u:Ao) (a:An)=>An4 (σ=[some t,some r,Y2 L,u]) (Y5U L H1) (H' L=Y05 a) (Y1m (((List.range i).map (rX F W j (eE z))).map eA) a)) ⟨_,[],rfl,(Y07).but,R,aH.nil⟩ ?_ ?_
 ·rintro i σ H2 J ⟨u,a,rfl,g,e,m⟩;refine Y2z;intro U;obtain⟨x,C⟩:∃x,z[i]?=Y8:=Y1i (by rw[TQ.w];exact J);have d:=aF C;have Z:Y3e:=g.t R;rw[show(0:Int)+(i:Int)=(i:Int)by exact Oo];refine⟨_,rfl,QQ e,_,rfl,_,rfl,_,rfl,?_⟩;refine mD.i ((α.same n).flat Z (gE _ _)) ((ρ.same n).flat Z (vI _)) RO η G S C (TQ.sh x d) (TQ.b x d) λD ψ H3 hD ο τ ι=>Y4;refine qK.i ο τ RO G S J (TQ.sh x d) λv4 H4 υ θ=>?_;have ε:Fn (nO 1 1) (2^160) (gM (kK F j (wq x.2) i)):=(Y1K (RO.said G (TQ.sh x d) i)).fq;have B:gD K H4 (1,1) (YcX):=Y0K c.ONE (uP T.o_ONE);refine iQ.i B (gD.of θ) JY (Yr) (Y5e sH (Fn.one _)) (Y7g ε) λφ H5 μ X ζ=>?_;have γ:Y6o (1,1) (gM (kK F j (wq x.2) i))=rX F W j (eE z) i:=by
   unfold rX;rw[oF C,<-yP,RY]
  rw[γ]at X;have S5:=(ι.trans υ).trans ζ;have χ:a.length=i:=by rw[m.len,aB,aB,bC]
  refine EX (S5 _ _ e) Oo λH6 κ I=>?_;have N:=I.t (S5 _ _ e);refine⟨_,_,rfl,(g.trans S5.but).trans I,κ,?_⟩;rw[List.range_succ,bG,bG];exact Yav (Y8L (S5.t.trans N) _ m) N (cO X)
 ·rintro σ H2 ⟨u,a,rfl,g,e,m⟩;refine Y50 _ L a (Y3p (gW.of e) (λl ξ=>?_));have p:=Y3m a ξ;have O:(upd H2 l (.tup a)) l=Ym a:=bK;generalize upd H2 l (.tup a)=H3 at p O;exact k _ H3 ((aX.thru β n g).trans p) (bI.tup O (m.same p))
def aFf(F:Y9 "cost" "cost" aBr)(T:Yb)(FQ73:Y06 "ways_of" a37 iA)(FQ71:Y1B "total" ["some"] (jS K))(FQ70:Y82 "times" K)(FQ68:Y0e 6 "spent" a36 uS):dI P w K mg base cN 7 f fd a49 yG:=by
 refine Y1e aD2;obtain @⟨H,Q,E,t,r,av,j,F,W,M,A,Nc,fs,n,bs,d,m,γ,rr,ε,RO,κ,Z,m6,w4,TQ,AQ,k⟩:=h;refine Yf;intro ζ A C s hr _;have ok:KY 1 Nc:=⟨Dd,Dd,AQ.co.c0,AQ.co.c1⟩;obtain⟨aa,xb,xm,xc,rfl,B,θ,G,X⟩:=mH ε;obtain⟨am,vm,rfl,I,L⟩:=gA G;refine⟨_,(aG (Y5D 3 aD2.nd Y16)
  (Y0L (fL FQ71 (Y7r ["way","trial","rule","aim","mix"] [0,1,2,3] (Y5h (Y3L FQ73)) (bO FQ70 (aW (gU K) (aA 4) (aA 0)) (FT FQ68 (aA 1) (aA 2) (aA 0) (Y7j 3))))))),?_⟩
 refine Yp;intro d_ n_;refine Yu B;refine Y6 (iA.i γ ?_);rw[TQ.w];refine Y5L _ (Y8M (i<W/\Y7Z (Y1O d*kS F j (Y5x n i) (cS m)) y) (λi y H1 H2 s ⟨μ,ξ⟩=>⟨μ,ξ.flat s (Y0X)⟩) Oo (λi H' Q' p u k'=>?_) (λD χ H1 hD φ τ hy S=>?_))
 ·have p:i<W:=Oo;obtain⟨x,U⟩:∃x,n[i]?=Y8:=Y1i (by rw[TQ.w];exact p);have l:=aF U;obtain⟨g,J⟩:∃g,d[i]?=Y5y:=Y1i (by rw[AQ.ml];exact p);obtain⟨vg,N,R⟩:=gB L J;have z:=AQ.mx g (aF J);rw[Int.zero_add];refine Yt (eX (u _ _ I) (cU N) ?_);refine Y56 _ _ _ rfl _ (Y3R (u _ _ B));refine uS.i (γ.same u) (rr.same u) RO κ Z m6 U (TQ.sh x l) (TQ.b x l) (X.same u) AQ.co λv2 H2 α ι=>?_;have ρ:Y2p Nc 1 g:=Y7S z.low z.q (by have:=Y9r 1 Nc 1;rwa [Nat.pow_one]at this);have ν:Y5K (2^170) (kS F j (wq x.2) (cS m)):=(rS (RO.spent Z (TQ.sh x l) λe δ ω=>AQ.co.qn δ ω) (QA Oo)).fq;refine Yaa ((R.same u).same α) (gD.of ι) z.low Yr (Y5e ok ρ) (Y3E ν) (λq3 H3 υ e3 O=>k' _ H3 (α.trans O) ⟨p,cO ?_⟩);have ο:jH g (gM (kS F j (wq x.2) (cS m)))=gM (Y1O d*kS F j (Y5x n i) (cS m)):=gL (fR z.low Yr) Yr (by rw[hJ z.low.pos (Yr).pos,dA,dA,lH J,oF U]);rw[e3,ο]
 have ψ:aH H1 (((List.range W).map λi=>gM (cS d i*kS F j (gI (eE n) i) (cS m))).map eA) χ:=Y7D S;have fl:∀f∈(List.range W).map (λi=>gM (cS d i*kS F j (gI (eE n) i) (cS m))),Y2p Nc (2^170) f:=λf η=>by
  obtain⟨i,p,rfl⟩:=aQ.mp η;exact(rS (RO.ms Z TQ AQ (cB.mp p)) (QA Oo)).fq
 refine Yal φ ψ (oQ fl ok.big.1 (Y1v ok.big.2) (by rw[aB,bC];exact Oo) (Y9x)) (λv H3 O β=>?_);rw[JA (f:=λi=>Y1O d*kS F j (Y5x n i) (cS m)) λe _=>⟨Yr,dA _⟩]at β;exact k v H3 (τ.trans O) β
end
end Kw
namespace L2
open PySem PySem.Spec PySem.W PyProof.Rows HT
@[irreducible] def DX:Y1o:=λxs H Q=>∃(d:Addr) (kvs:Yw),xs=Y3F d/\H d=Y1I/\Y8O 1000/\Y2x (H D=none) (Y0p=Y0f->BA H' kvs ys->Y0->Y1r)
def rlst{H:Hp}{Q:VK}{d:Addr}{kvs:Yw}(h:H d=Y1I)(hz:Y8O 1000)(q:Y2x (H D=none) (Y0p=Y0f->BA H' kvs ys->Y0->Y1r)):DX (Y3F d) H Q:=by
 unfold DX;exact⟨d,kvs,rfl,h,hz,q⟩
def US{X:Cx}(hc:Y1J):kL X (.type "list") DX:=by
 unfold DX;intro U s σ H ν ρ Q I r h;obtain⟨d,g,rfl,G,τ,q⟩:=h;obtain⟨u,rfl,ε⟩:=lS r;cases ε;obtain⟨y,μ,o,J,M,W,ξ,L,N,O⟩:=aAu I G;have j:Y0r W.size:=aP (show W.size<=1000 by exact Oo) Dd;refine kdl_call (MW y M L) (Y8Q) J j λο ζ a ι kp C A=>?_;obtain⟨θ,P⟩:=A;have z:∃c:An,dO c a.toList/\BA H g c:=by
  have R:∀(n:Nat) (l:Ah),l.length=n->∀(m:Yw),m.length=n->(∀(i:Nat) v p,l[i]?=Yi->m[i]?=some p->∃b,v=Y0z/\H b=Ym (p.1.map kV))->∃c:An,dO c l/\BA H m c:=by
   intro n
   induction n with
   | zero =>
    intro l D m y _;cases l with
    | nil=>cases m with
     | nil=>exact Y6A [] .nil (λi p h=>by simp at h)
     | cons _ _=>simp at y
    | cons _ _=>simp at D
   | succ n ih =>
    intro l D m y S;cases l with
    | nil=>simp at D
    | cons v l=>cases m with
     | nil=>simp at y
     | cons p m =>
      obtain⟨b,rfl,β⟩:=S 0 v p rfl rfl;obtain⟨c,z,B,P⟩:=ih l (by simpa using D) m (by simpa using y) λi v p w x=>S (i+1) v p (by simpa using w) (by simpa using x);refine⟨Y0z::c,.cons rfl z,by simp[B],λi q G=>?_⟩;cases i with
      | zero=>cases(show p=q by simpa using G);exact Y0K b β
      | succ i =>
       obtain⟨δ,w,x⟩:=P i q (by simpa using G);exact⟨δ,by simpa using w,x⟩
  refine R g.length a.toList (by rw[Array.length_toList,θ,N]) g rfl λi v p w x=>?_;obtain⟨κ,e⟩:=P i v (by rw[<-Array.getElem?_toList];exact w);obtain⟨b,α,γ⟩:=O i κ p x;exact⟨b,by rw[e,α],γ⟩
 obtain⟨c,z,B⟩:=z;have T:=YdA;have Z:aX H (Y7u H c):=aX.upd T;refine Y2S Y24 (Y7u H c) (I.laid (t':=ζ) kp (Yn) ⟨by have:=B.1;exact Oo,a.toList,ι,z,by rw[Array.toArray_toList];exact C⟩) (q _ c _ T bK ⟨B.1,λi p η=>?_⟩ Z);obtain⟨b,w,x⟩:=B.2 i p η;exact⟨b,w,Z _ _ x⟩
end L2
namespace Kw
open PySem L2 Mf
abbrev aBP:Stmt:=(top 85)
def aCS:Ya ["_law_feed_here","_law_ways","_law_last","_law_plain","_law_first_here","_law_at"] a21 aBP:={}
theorem LU{W:Int}(hW:0<W):∀ps:Ag,rP ((ps.map λx=>lw x W).map rv)=(ps.sum:Rat)/(W:Rat)
 | []=>by
  have:=nF hW;show(0:Rat)=_;rw[show(([]:Ag).sum:Rat)=0 from rfl];grind
 | x::ps=>by
  have:=nF hW;rw[bJ,bJ,kX,LU hW ps,vH hW,List.sum_cons,Rat.intCast_add];grind
def IK.syc{m:Nat}{fs:Al}(h:IK m fs):xQ m fs:=by
 refine Y08 h.len h.at;obtain⟨e,W,i,d,c,a,g,j,rfl⟩:=h.ex;rw[LU a,c];have:=nF a;grind
theorem xQ.zero{n:Nat}{fs:Al}(h:xQ n fs):xQ (1+n) ((0,1)::fs):=by
 refine Y08 (by rw[cE,h.len];exact Oo) (λf a=>?_)
 ·rcases bD.mp a with rfl | a
  ·exact Y8e ((Fn.zero iI).le Dd)
  ·exact h.at_ f a
 ·rw[bJ,kX,h.one,iF];grind
def EK(a n:Nat):Al:=(List.range n).map λk=>if k=a then(1,1) else(0,1)
def UA{a n:Nat}(h:a<n):xQ n (EK a n):=by
 refine Y08 (by unfold EK;rw[aB,bC]) (λf e=>?_)
 ·obtain⟨k,_,rfl⟩:=aQ.mp e;split
  ·exact Y8e (Fn.one iI)
  ·exact Y8e ((Fn.zero iI).le Dd)
 ·unfold EK;rw[List.map_map];show dD n (λk=>rv (if k=a then(1,1) else(0,1)))=1;have c:=uN (n:=n) (λk=>rv (if k=a then((1,1):Fr) else(0,1))) h;rw[Y12,pG]at c;have d:Y7v n (if i=a then 0 else rv (if i=a then((1,1):Fr) else(0,1)))=0:=by
   rw[Y7C 0 (λi _=>?_),kJ];by_cases q:i=a
   ·rw[Y43]
   ·rw[Y1u,Y1u,iF]
  rw[d]at c;grind
def PN{a n:Nat}(h:a≠0):cS (EK a n) 0=0:=by
 by_cases hn:0<n
 ·have e:(EK a n)[0]?=some (0,1):=by
   unfold EK;rw[aR,cX hn];show some (if 0=a then _ else _)=_;rw[Y7I (h q.symm)]
  rw[lH e,iF]
 ·rw[uL (by unfold EK;rw[aB,bC];exact Oo)]
inductive uU:Yh
 | i {H:Hp} {Q:VK} {E:XK} {p L:Addr} {n W:Nat} {la pl:Bool} (F:Y20 (n+16)) (h1:1<=W) (h2:W<=4) (k:∀v fs H',Y3d->Y0l->Y2E (lK fs)->xQ (1+W) fs->(la=true->cS fs 0=0)->Y1a):uU [Y0y,.int (W:Int),.bl la,.bl pl] H Q E
section
def aFD(F:Y9 "_law_says" "_law_says" aBP)(T:Yb)(FQ5:Y7i "_law_draw")(FQ18:Y2Z "_law_shares" a01 kA):dI P w K mg base cN 3 f fd a21 uU:=by
 refine Y1e aCS;obtain @⟨H,Q,E,p,L,n,W,G,pl,F0,w1,w4,k⟩:=h;refine Yf;intro ζ A M s hr _;refine⟨_,(aG (Y3Y aCS.nd (jO CL (by rfl) T.b_int Kk (Y2s 2)))
  (aG (fG (xW (uJ (uH (fO (aA 3)) (qF (eM sG (Y5s 0) aE))))) (aG (Y5D 5 aCS.nd (bP eB (aA 4) (Y9v 0 (Y0F oG (Y0F eB aE 1) 4))))
  (Y0L (Y6i dN (by rfl) Kk ["_law_k","_law_at"] [5] (Y5h (Y0F eB aE 1)) (Y2t (jO CL (by rfl) T.b_int Kk (Y1h (kE tO (aA 0) (aA 1)))) aE)))) dB)
  (Y0L (Y4S K (Y0F vJ Yd4 4) (Y0O FQ18 0 (Y0F oG (Y0F eB aE 1) 4)))))),?_⟩
 refine Yp;intro ε γ;obtain⟨d,X,e⟩:∃d:Nat,((if G=true then 1 else 0:Int))=(d:Int)/\((G=true/\d=1)\/(Yq G/\d=0)):=by
  cases G
  ·exact Y0K 0 (.inr Y6k)
  ·exact Y0K 1 (.inl Y6k)
 refine Y6 (.inr (Y6 Yg));intro ε γ;rw[X];refine Y2n (λb H'=>Y7V (n+15)/\Y0l)
 ·refine Y0g;cases pl with
  | true=>exact lL ⟨F0.less Oo,(Y07).but⟩
  | false =>
   refine lD Y4;exact Y1Y (n+15) F0 (λx H1 a1 b1 F1 C=>⟨_,_,rfl,rfl,_,rfl,F1,C⟩)
 rintro b H1 ⟨F1,C⟩;cases b with
 | true =>
  refine lL (Yp);intro ε γ;refine⟨_,rfl,_,rfl,_,rfl,_,_,rfl,rfl,_,rfl,_,_,rfl,rfl,?_⟩;refine YaY (n+14) F1 Oo (bS (show((1:Int)+(W:Int)-(d:Int)).natAbs<=5 by exact Oo) Dd) (λx H2 a2 b2 F2 R=>Y7a);obtain⟨at_,N⟩:∃a:Nat,(d:Int)+x=(a:Int):=Y1j (((d:Int)+x).toNat);refine⟨_,rfl,_,_,rfl,rfl,((1+W:Nat):Int),(by show[V.int (1+(W:Int))]=_;rfl),Oo,Oo,?_⟩;rw[Int.toNat_natCast];refine Y8M (i<1+W/\Y3K (if i=at_ then(1,1) else(0,1))) (λi y H1 H2 s ⟨j,ι⟩=>⟨j,ι.flat s (Y0X)⟩) Oo (λi H' Q' θ s' k'=>?_) (λD m H3 hD α u hy β=>?_)
  ·refine Y6C _ rfl _ rfl (.inr Y4);refine jT (by show 2<=64;decide) λν H4 υ S I=>k' _ H4 I ⟨θ,cO ?_⟩;rw[S];by_cases q:i=at_
   ·rw[Y43,bV (show V.int (0+(i:Nat))=V.int ((d:Int)+x)by rw[N,q];congr 1;exact Oo)];rfl
   ·rw[Y1u,cI (Y87 (by injection z with z;exact Oo))];rfl
  ·refine Y4X D m α (λl φ=>?_);have B:=Y3m m φ;have δ:(upd H3 l (.tup m)) l=Ym m:=bK;generalize upd H3 l (.tup m)=H4 at B δ;have ω:aH H3 ((EK at_ (1+W)).map eA) m:=Y7D β;exact k _ (EK at_ (1+W)) H4 (((F2.same u).same B).less Oo) ((C.trans R).trans (u.trans B).but) (bI.tup δ (ω.same B)) (UA Oo) (λh=>PN (by rcases e with⟨_,j⟩ | ⟨j,_⟩;exact Oo;rw[j]at h;cases h))
 | false =>
  refine lD (jT (by show 2<=64;decide) λq2 H2 χ ξ R=>?_);refine jT (by show 1<=64;decide) λq3 H3 ρ α u=>Y4;refine TR (k:=d) α Oo λν H4 I S=>?_;have S4:=(R.trans u).trans I;refine⟨_,rfl,_,rfl,_,_,rfl,rfl,_,rfl,_,_,rfl,rfl,?_⟩;have κ:(1:Int)+(W:Int)-(d:Int)=((1+W-d:Nat):Int):=Oo;have sh:∀{Ha:Hp} {Qa:VK} {Ea:XK},dJ Ha p L (n+12)->(∀v fs H',Y3d->Y5U p Ha->Y2E (lK fs)->IK (1+W-d) fs->Qa v H')->kA [Y0y,.int ((1:Int)+(W:Int)-(d:Int))] Ha Qa Ea:=λτ ψ=>by rw[κ];exact kA.i τ Oo Oo ψ
  refine sh ((F1.same S4).less Oo) λv5 fs H5 F5 O μ g=>?_;obtain⟨a5,η,rfl,h5,r⟩:=gA μ;have U:=(F1.same S4).t O _ _ S;have Z:=(F1.same S4).t O _ _ (I _ _ (u _ _ ξ));have l5:η.length<=5:=by rw[cC r,g.len];exact Oo
  refine vV U h5 (by rw[cA];exact Oo) λq6 H6 J ο=>k _ (List.replicate d (0,1)++fs) H6 (F5.same J) (((C.trans S4.but).trans O).trans J.but) (Yag ο) ?_ ?_
  ·rw[bG];refine aH.append (r.same J) ?_;rcases e with⟨_,rfl⟩ | ⟨_,rfl⟩
   ·exact Y3U (cO (f:=(0,1)) (J _ _ Z))
   ·exact aH.nil
  ·rcases e with⟨_,rfl⟩ | ⟨_,rfl⟩
   ·have:=g.syc;rw[show 1+W-1=W by exact Oo]at this;exact this.zero
   ·exact g.syc
  ·intro h;rcases e with⟨_,rfl⟩ | ⟨j,_⟩
   ·exact iF
   ·rw[j]at h;cases h
end
abbrev aBR:Stmt:=(top 86)
def ET:Ya ["_law_feed_here","_law_faces","_law_ways","_law_most","_law_plain","_law_rule_here","_law_level","_law_k","_law_more_here","_law_counts_here","_law_says_here","_law_face"] a09 aBR:={}
def JR(a b:dE):Prop:=a.1.sum<b.1.sum\/(a.1.sum=b.1.sum/\lQ (ci a.1) (ci b.1)=true)
structure xV(F W M k:Nat)(es:Ys)(lv:Ab):Prop where
 root:(k=0/\es=[]/\lv=[Yx])\/(0<k/\∃e r,es=e::r/\e.1=Yx)
 len:∀e∈es,e.1.length=F/\e.1.sum<k
 lvl:∀d∈lv,d.length=F/\d.sum=k
 nd:(es.map (·.1)).Nodup
 ndl:lv.Nodup
 srt:Y9G
 fwd:∀e∈es,Y2D->∀f,f<F->Y7P (Y0q e.1) (·.1)\/Y0q e.1∈lv
 bwd:∀d,Y7P d (·.1)\/d∈lv->d≠List.replicate F 0->∃e∈es,s0 e≠0/\∃f,f<F/\bN e.1 f=d
 sy:∀e∈es,xQ (1+W) e.2
 on:∀e∈es,Y2D->e.1.sum<M
def xV.ruc{F W M:Nat}{es:Ys}{lv:Ab}(h:xV F W M (M+1) es lv)(few:es.length<=64):Y0B where
 rl:={
  root:=by rcases h.root with⟨q,_⟩ | ⟨_,r⟩;exact Oo;exact r
  len:=λe c=>(h.len e c).1
  nd:=h.nd
  srt:=h.srt.imp λ{a b} q=>by rcases q with q | ⟨q,_⟩ <;> exact Oo
  fwd:=λe c z f g=>by
   rcases h.fwd e c z f g with q | q
   ·exact q
   ·have j:=(h.lvl _ q).2;have l:=h.on e c z;rw[fA (by rw[(h.len e c).1];exact g)]at j;exact Oo
  bwd:=λd hd i=>h.bwd d (.inl hd) i
  nn:=λe c=>(h.sy e c).nn 0 }
 sum:=λe c=>by have:=(h.len e c).2;exact Oo
 sy:=h.sy
 few:=few
 on:=h.on
def xV.few{F W M k:Nat}{es:Ys}{lv:Ab}(h:xV F W M k es lv)(f1:1<=F)(hk:k<=M+1):es.length<=(Yy).length:=by
 have:=kB h.nd (m:=Yy) λd hd=>by
  obtain⟨e,a,rfl⟩:=aQ.mp hd;obtain⟨c,g⟩:=h.len e a;exact(eZ f1).mpr (Y1j c)
 rwa [aB]at this
def xV.fewl{F W M k:Nat}{es:Ys}{lv:Ab}(h:xV F W M k es lv)(f1:1<=F):lv.length<=(Y2N k).length :=
 kB h.ndl λd hd=>by obtain⟨c,a⟩:=h.lvl d hd;exact sW f1 c a
def xV.both{F W M i:Nat}{es:Ys}{lv:Ab}(h:xV F W M i es lv)(f1:1<=F)(hi:i<M+1):es.length+lv.length<=(Yy).length:=by
 have nd:(es.map (·.1)++lv).Nodup:=by
  refine Yfy h.nd h.ndl (λa j b p e=>?_);obtain⟨x,l,rfl⟩:=aQ.mp j;have c:=(h.len x l).2;have g:=(h.lvl b p).2;rw[<-e]at g;exact Oo
 have:=kB nd (m:=Yy) λd hd=>by
  rcases bY.mp hd with hd | hd
  ·obtain⟨e,n,rfl⟩:=aQ.mp hd;obtain⟨c,g⟩:=h.len e n;exact(eZ f1).mpr (Y1j c)
  ·obtain⟨c,g⟩:=h.lvl d hd;exact(eZ f1).mpr (Y1j c)
 rwa [bF,aB]at this
def xV.step{F W M i:Nat}{es new:Ys}{lv lv':Ab}(h:xV F W M i es lv)(hn:(new.map (·.1)).Perm lv)(hsy:∀e∈new,xQ (1+W) e.2/\(Y2D->i<M))
  (hl:∀d,d∈lv' ↔ ∃e∈new,s0 e≠0/\∃f,f<F/\d=bN e.1 f) (ndl:lv'.Nodup) (hs:(new.map (·.1)).Pairwise λa b=>lQ (ci a) (ci b)=true):xV F W M (i+1) (es++new) lv':=by
 have j:∀e∈new,e.1∈lv:=λe c=>hn.mem_iff.mp (Y3q e c);refine⟨.inr (Y0b (Nat.succ_pos _)),?_,?_,?_,ndl,?_,?_,?_,?_,?_⟩
 ·rcases h.root with⟨_,rfl,rfl⟩ | ⟨_,e,r,rfl,c⟩
  ·cases new with
   | nil=>have:=hn.length_eq;simp at this
   | cons e r=>exact Y6A e r (aU.mp (j e (aV ..)))
  ·exact Y6A e (r++new) c
 ·intro e c;rcases bY.mp c with c | c
  ·obtain⟨g,m⟩:=h.len e c;exact Y1j g
  ·obtain⟨g,m⟩:=h.lvl _ (j e c);exact Y1j g
 ·intro d hd;obtain⟨e,c,_,f,n,rfl⟩:=(hl d).mp hd;obtain⟨g,m⟩:=h.lvl _ (j e c);exact⟨by rw[jW];exact g,by rw[fA Oo];exact Oo⟩
 ·rw[bG];refine Yfy h.nd (hn.nodup_iff.mpr h.ndl) (λa u b s e=>?_);obtain⟨x,y,rfl⟩:=aQ.mp u;have g:=(h.len x y).2;have m:=(h.lvl b (hn.mem_iff.mp s)).2;rw[<-e]at m;exact Oo
 ·refine List.pairwise_append.mpr ⟨h.srt,?_,λa u b s=>?_⟩
  ·refine List.pairwise_iff_forall_sublist.mpr λ{a b} l=>?_;have u:=(h.lvl _ (j a (l.subset (aV ..)))).2;have s:=(h.lvl _ (j b (l.subset (aZ _ (aV ..))))).2;exact Y6P Oo (List.pairwise_iff_forall_sublist.mp (List.pairwise_map.mp hs) l)
  ·have g:=(h.len a u).2;have m:=(h.lvl _ (j b s)).2;exact .inl Oo
 ·intro e c z f n;rw[bG];rcases bY.mp c with c | c
  ·rcases h.fwd e c z f n with q | q
   ·exact .inl (cD _ q)
   ·exact .inl (bZ _ (hn.mem_iff.mpr q))
  ·exact .inr ((hl _).mpr ⟨e,c,z,f,n,rfl⟩)
 ·intro d hd A;have p:(d∈es.map (·.1)\/d∈lv)->∃e∈es++new,s0 e≠0/\∃f,f<F/\bN e.1 f=d:=λq=>by
   obtain⟨e,c,r⟩:=h.bwd d q A;exact⟨e,cD _ c,r⟩
  rcases hd with hd | hd
  ·rw[bG]at hd;rcases bY.mp hd with hd | hd
   ·exact p (.inl hd)
   ·exact p (.inr (hn.mem_iff.mp hd))
  ·obtain⟨e,c,q,f,n,w⟩:=(hl d).mp hd;exact⟨e,bZ _ c,q,f,n,w.symm⟩
 ·intro e c;rcases bY.mp c with c | c
  ·exact h.sy e c
  ·exact(hsy e c).1
 ·intro e c z;rcases bY.mp c with c | c
  ·exact h.on e c z
  ·have g:=(h.lvl _ (j e c)).2;have m:=(hsy e c).2 z;exact Oo
def XX{α:Type}(d:α){cs:Yo}{ix:Af}(h:Yfq cs.length):(ix.map λi=>cs.getD i d).Perm cs:=by
 have a:=h.map λi=>Yaf d;have e:(List.range cs.length).map (λi=>Yaf d)=cs:=by
  apply List.ext_getElem?;intro i;rw[aR];by_cases hi:i<cs.length
  ·rw[cX hi,aD hi,Option.map_some,bH,aD hi];rfl
  ·rw[fF (by simpa using hi),fF Oo];rfl
 rwa [e]at a
theorem MD{H:Hp}{cs:Ab}{ws:An}(r:Y8J gX ws):∀ix:Af,(∀i∈ix,i<cs.length)->Y18 ((ix.map λi=>cs.getD i []).map gX) (Ya8 (ws.getD i .non))
 | [],_=>aH.nil
 | i::ix,h=>by
  have hi:=h i (aV ..);obtain⟨x,g,c⟩:=aH.atX r (i:=i) (a:=cs[i]) (by simp[hi]);have e:cs.getD i []=cs[i]:=by simp[hi]
  have l:ws.getD i .non=x:=by rw[bH,g];rfl
  refine aH.cons ?_ (MD r ix λj d=>h j (aZ _ d));show bI H (gX (cs.getD i [])) (ws.getD i .non);rw[e,l];exact c
def aDM(d:Af):(kT (ci d)).map kV=d.map FJ:=by
 unfold kT ci;rw[List.map_map,List.map_map];rfl
theorem CA{H:Hp}:∀{lv:Ab}{kvs:Yw}{ys:An},kvs.map (·.1)=(lv.map ci).map kT->BA H kvs ys->Y18 (lv.map gX) ys
 | [],[],ys,_,h=>by
  have:=h.1;rw[List.length_eq_zero_iff.mp this];exact aH.nil
 | [],_::_,_,hk,_=>by simp at hk
 | _::_,[],_,hk,_=>by simp at hk
 | d::lv,p::kvs,ys,hk,h=>by
  simp only[bJ,List.cons.injEq]at hk;obtain⟨c,a⟩:=h;cases ys with
  | nil=>simp at c
  | cons y ys =>
   obtain⟨b,m,g⟩:=a 0 p rfl;cases(show y=.ref b by simpa using m);refine aH.cons (oO ?_) (CA hk.2 ⟨by simpa using c,λi q n=>?_⟩)
   ·rw[g,hk.1,aDM]
   ·obtain⟨j,l,e⟩:=a (i+1) q (by simpa using n);exact⟨j,by simpa using l,e⟩
theorem aAk:∀ks:Ac,(∀d∈ks,∃d',d=ci d')->∃lv:Ab,ks=lv.map ci
 | [],_=>⟨[],rfl⟩
 | k::ks,h=>by
  obtain⟨lv,e⟩:=aAk ks λd hd=>h d (aZ _ hd);obtain⟨d,a⟩:=h k (aV ..);exact⟨d::lv,by rw[bJ,<-e,<-a]⟩
def aDX:∀F,F<=4->∀m,m<=6->(Y2N m).length<=1000:=Kk
def EA{α β:Type}{g:α->β}{l:Yo}(h:(l.map g).Nodup):l.Nodup:=by
 induction l with
 | nil=>exact List.nodup_nil
 | cons a l ih =>
  rw[bJ,List.nodup_cons]at h;exact List.nodup_cons.mpr ⟨λq=>h.1 (Y3q a q),ih h.2⟩
inductive uV:Yh
 | i {H:Hp} {Q:VK} {E:XK} {p L:Addr} {n F W M:Nat} {pl:Bool} (F0:Y20 (n+1500)) (h1:2<=F) (h2:F<=4) (h3:1<=W) (h4:W<=4) (h5:M<=5) (h6:(Yy).length<=64) (k:∀v es H',Y3d->Y0l->Y2E (GI es)->Y0B->Y9G->es.length<=(Yy).length->Y1a):uV [Y0y,.int (F:Int),.int (W:Int),.int (M:Int),.bl pl] H Q E
section
def aFF(F:Y9 "_law_rule" "_law_rule" aBR)(T:Yb)(FQ17:Y1B "_law_says" a21 uU)(FQ10:Y06 "_law_more" a07 fM):dI P w K mg base cN 4 f fd a09 uV:=by
 refine Y1e ET;obtain @⟨H,Q,E,p,L,n,F,W,M,pl,F0,f2,f4,w1,w4,m5,r64,k⟩:=h;refine Yf;intro cdv A outer s hr _;refine⟨_,(aG (Y62 ET.nd (jN aI))
  (aG (Y5o ET.nd (jN (Y1h (Y0F yM (Y6E aE) 1))))
  (aG (eO PassesOwn.never rfl (Y5h (Y6w 3)) (Y5R 7 ET.nd) (aG (bX (i:=8) ET.nd sA)
  (aG (eO PassesOwn.never rfl (fV (eP (aCM K) (by rfl) T.b_sorted Kk (Y2s 6))) (Y5R 9 ET.nd) (aG (bX (i:=10) ET.nd (FT FQ17 (aA 0) (aA 2) (kE tO (aA 7) (aA 3)) (aA 4)))
  (aG (Y85 qV 5 (Y2t (aA 9) (aA 10)))
  (Y7X (eM sG (Y28 (Y2g 10)) aE) (Y33 (Y6J 1) 11 ET.nd (jI hr.u1 (aA 8) (Y0w FQ10 9 11) jP))))))
  (aK (Y5o ET.nd (jO (US rfl) (by rfl) T.b_list Kk (Y2s 8)))))))
  (Y0L (YbX dN (by rfl) Kk (Y2s 5)))))),?_⟩
 refine Yp;intro d_ n_;refine GR (by show 0<=64;decide) λR H1 hR e1 s1=>Yg;intro d_ n_;refine jT (by show 1<=64;decide) λq2 H2 hq2 O s2=>Y4;refine YJ (k:=F) O f2 Oo λq3 H3 s3 e3=>GR (by show 1<=64;decide) λq4 H4 hq4 e4 s4=>Yg;intro d_ n_;have S4:=((s1.trans s2).trans s3).trans s4;have F4:=F0.same S4;have nR:=F0.ne hR;have nRL:=F0.neL hR;refine⟨_,rfl,_,_,rfl,rfl,((M+1:Nat):Int),(by show[V.int ((M:Int)+1)]=_;rfl),Oo,Oo,?_⟩;rw[Int.toNat_natCast];refine gC (λi σ H'=>aGB λ(ζ:Addr) (o7 o8 o9 τ J:Ao) (ε ls:An) (κ:List dE) (G:Ab)=>An8 (σ=[Y1f,Yk (F:Int),Yk (W:Int),Yk (M:Int),some (.bl pl),Y2 R,Y2 ζ,o7,o8,o9,τ,J]) (Y7V (n+1500-16*κ.length)) (Y0l) (H' R=Y05 ε) (Y1m (κ.map UJ) ε) (H' ζ=Y05 ls) (Y1m (G.map gX) ls) (xV F W M i κ G))
  ⟨q4,_,_,_,_,_,[],Y3F q3,[],[Yx],rfl,F4.less (by simp),S4.but,s4 _ _ (s3 _ _ (s2 _ _ e1)),aH.nil,e4,Y3U (oO (by rw[s4 _ _ e3,List.map_replicate];rfl)),?_⟩ ?_ ?_
 ·refine⟨.inl (Y0K rfl rfl),λe u=>(by cases u),λd hd=>?_,List.nodup_nil,by simp,.nil,λe u=>(by cases u),λd hd hz=>?_,λe u=>(by cases u),λe u=>(by cases u)⟩
  ·rw[aU.mp hd];exact⟨by simp,by simp⟩
  ·rcases hd with hd | hd
   ·cases hd
   ·exact absurd (aU.mp hd) hz
 ·rintro i σ H5 hi ⟨ζ,o7,o8,o9,τ,J,ε,ls,κ,G,rfl,F5,b5,eR,rR,el,rl,HF⟩;refine Y69;intro d_ n_;have both:=HF.both Oo hi;have lls:ls.length=G.length:=cC rl;have cs1:=mF F f4 i Oo;have cs2':=mF F f4 (i+1);have fewl:=HF.fewl Oo;intro η ab;refine Yg;intro d_ n_;have s6:=Y9E [] ab;have e6:(upd H5 η (.dT [])) η=Y0P []:=bK;generalize upd H5 η (.dT [])=H6 at s6 e6;refine Y4;refine rsrt (cs:=G.map ci) (gW.of (s6 _ _ el)) (by rw[List.map_map,show G.map ((λc:Ag=>PyData.tuple (c.map .int)) ∘ ci)=G.map gX from fD λc _=>ctI c];exact rl.same s6) (λc hc z=>?_) Oo λso ix H7 aa ac μ e7 s7=>?_
  ·obtain⟨d,hd,rfl⟩:=aQ.mp hc;have:=(HF.lvl d hd).1;unfold ci at z;have:=List.map_eq_nil_iff.mp z;subst this;simp at *;exact Oo
  rw[lls]at aa;have ac:=ac (List.Pairwise.map _ (λa b n q=>n (mG q)) HF.ndl);have elx:(Ya8 ((G.map ci).getD i []))=(ix.map λi=>G.getD i []).map ci:=by
   rw[List.map_map];refine fD λi hi=>?_;have:i<G.length:=by have:=aa.mem_iff.mp hi;simpa using this
   simp[this]
  rw[elx]at ac;clear elx;have hixl:∀i∈ix,i<G.length:=λi hi=>by have:=aa.mem_iff.mp hi;simpa using this
  have ae:=XX [] aa;have ξ:=s6.trans s7;have rso:aH H7 ((ix.map λi=>G.getD i []).map gX) (Ya8 (ls.getD i .non)):=MD (rl.same ξ) ix hixl;generalize (ix.map λi=>G.getD i [])=N at *;generalize (ix.map λi=>ls.getD i V.non)=ad at *;have lys:ad.length=N.length:=cC rso;have lcs:N.length=G.length:=ae.length_eq;have ν:H η=none:=aT.free b5 F5.there ab;have hso0:H so=none:=aT.free b5 F5.there (s6.free μ);have ndp:η≠p:=F0.ne ν;have ndL:η≠L:=F0.neL ν;have nsp:so≠p:=F0.ne hso0;have ndR:η≠R:=λe=>by subst e;rw[eR]at ab;cases ab
  have nsR:so≠R:=λe=>by subst e;rw[s6 _ _ eR]at μ;cases μ
  have nsd:so≠η:=λe=>by subst e;rw[e6]at μ;cases μ
  refine Y1L so (Y9s e7) ?_;refine jU (xs:=ad) (λj σ H'=>Ex7 λ(o9 τ J:Ao) (ε:An) (new:List dE) (B:List (List fK × V)) (θ:Ac)=>aGI (σ=[Y1f,Yk (F:Int),Yk (W:Int),Yk (M:Int),some (.bl pl),Y2 R,Y2 ζ,Yk (0+(i:Nat)),Y2 η,o9,τ,J]) (Y7V (n+1500-16*(κ.length+j))) (Y0l) (H' so=Y05 ad) (Y1m (N.map gX) ad) (H' R=Y05 ε) (Y1m ((κ++new).map UJ) ε) (new.map (·.1)=N.take j) ((∀e∈new,xQ (1+W) e.2/\(Y2D->i<M))) (H' η=Y0P B) (B.map (·.1)=θ.map kT) (θ.Nodup) (∀d,d∈θ ↔ ∃e∈new,s0 e≠0/\∃f,f<F/\d=ci (bN e.1 f)))
   ⟨_,_,_,ε,[],[],[],rfl,((F5.same ξ).less Oo),b5.trans ξ.but,e7,rso,ξ _ _ eR,by rw[List.append_nil];exact rR.same ξ,by rw[List.take_zero];rfl,λe u=>(by cases u),s7 _ _ e6,rfl,List.nodup_nil,λd=>⟨(λh=>by cases h),λ⟨e,u,_⟩=>by cases u⟩⟩ (Y8v) ?_ ?_
  ·obtain⟨_,_,_,_,_,_,_,_,_,_,h,_⟩:=q;exact Y9b
  ·rintro j x σ H8 hx ⟨o9',o10',o11',χ,new,B,θ,rfl,F8,b8,eso,φ,eR8,ψ,hn,hsy,ed8,hk,nd,hm⟩;refine Y69;intro d_ n_;obtain⟨X,hc,rc⟩:=cR φ hx;have hj:j<N.length:=(aO.mp hc).1;have hcl:X∈G:=ae.mem_iff.mp (aF hc);obtain⟨lc,sc⟩:=HF.lvl X hcl;refine⟨_,rfl,_,rfl,_,rfl,_,rfl,rfl,_,rfl,?_⟩;refine uU.i (n:=n+1500-16*(κ.length+(j+1))) (F8.less Oo) w1 w4 λv9 fs H9 F9 b9 r9 sy9 la9=>Yg;intro d_ n_;have t9:=F8.t b9;have eso9:=b9.at nsp eso;have eR9:=b9.at nR eR8;have ed9:=b9.at ndp ed8;have ln:new.length=j:=by have:=Y4t hn;rw[aB,cW]at this;exact Oo
   have lz:χ.length<=64:=by rw[cC ψ,bF];exact Oo
   refine Y1Z _ rfl (QQ eR9) _ _ rfl ?_;refine jT (by show 2<=64;decide) λq10 H10 hq10 e10 U=>EX (U _ _ eR9) Oo λH11 e11 ι=>?_;have t11:=ι.t (U _ _ eR9);have t911:=U.t.trans t11;have ο:=t9.trans t911;have rc11:=rc.flat ο (gG _);have r11:=r9.flat t911 (dM _);have ren:Y5g H11 (UJ (X,fs)) q10:=Y7n (t11 _ _ e10) rc11 r11;have rR11:aH H11 ((κ++(new++[(X,fs)])).map UJ) (χ++Y3F q10):=by
    rw[<-List.append_assoc,bG];exact aH.append (Y3U ren) (ψ.flat ο (vQ _))
   have F11:=(F9.same U).but ι nR nRL;have af:aT p H H11:=aT.thru hR ((b8.trans b9).trans U.but) ι;have υ:=ι.at nsR (U _ _ eso9);have δ:=ι.at ndR (U _ _ ed9);have ρ:=φ.flat ο (iO _);have hn':(new++[(X,fs)]).map (·.1)=N.take (j+1):=by rw[bG,hn,dS hc];rfl
   have hsy':∀e∈new++[(X,fs)],xQ (1+W) e.2/\(Y2D->i<M):=λe u=>by
    rcases bY.mp u with u | u
    ·exact hsy e u
    ·rw[aU.mp u];refine⟨sy9,Y5t⟩;refine bU λq=>z (la9 (bV ?_));congr 1;exact Oo
   obtain⟨f0,fr,ef,fn0,nn0,v0,on0⟩:=sy9.hd;obtain⟨a12,xs12,rfl,h12,rx12⟩:=gA r11;obtain⟨y,hy,ry⟩:=aH.atX (i:=0) (a:=f0) rx12 (by rw[ef];rfl);obtain⟨b,rfl,hb⟩:=rC ry;refine Y81 h12 hy;refine Y3Q hb (Y2Q Y96)
   ·have sne:s0 (X,fs)≠0:=on0.mp (by simpa using on);refine Y3G;intro d_;refine Y2T _ rfl _ Oo Oo ?_;rw[Int.toNat_natCast];refine gC (λg σ H'=>ZU λ(J:Ao) (B:List (List fK × V)) (θ:Ac)=>WA (σ=[Y1f,Yk (F:Int),Yk (W:Int),Yk (M:Int),some (.bl pl),Y2 R,Y2 ζ,Yk (0+(i:Nat)),Y2 η,Y8,Y2 a12,J]) (Y5U η H11) (H' η=Y0P B) (B.map (·.1)=θ.map kT) (θ.Nodup) (∀d,d∈θ↔(∃e∈new,s0 e≠0/\∃f,f<F/\d=ci (bN e.1 f))\/∃f,f<g/\d=ci (bN X f)))
     (Y2w _ B θ ((Y07).but) δ hk nd (λd=>by rw[hm];exact YbR .inl (by rcases h with h | ⟨f,I,_⟩;exact h;exact Oo))) ?_ ?_
    ·rintro g σ H12 hg ⟨o11'',S,Z,rfl,C,e12,α,γ,β⟩;refine Y2z;intro d_;have ω:dG H11 H12:=aT.tT C δ;rw[show(0:Int)+(g:Int)=(g:Int)by exact Oo];refine Y1l;refine fM.i (i:=g) (rc11.flat ω (gG _)) Oo Oo λv13 H13 s13 r13=>?_;obtain⟨a13,rfl,h13⟩:=fS r13;have lk:Z.length<=1000:=by
      have:=kB γ (m:=(cta F (i+1)).map ci) λd hd=>by
       have key:∀(e1:Af) f,e1∈G->f<F->ci (Y0q e1)∈(cta F (i+1)).map ci:=λe1 f h1 I=>Y3q _ (sW Oo (by rw[jW];exact(HF.lvl _ h1).1) (by rw[fA (by rw[(HF.lvl _ h1).1];exact I),(HF.lvl _ h1).2]));rcases(β d).mp hd with⟨e,u,_,f,I,O⟩ | ⟨f,I,O⟩
       ·rw[O];refine key _ _ (ae.mem_iff.mp (List.mem_of_mem_take (i:=j) ?_)) I;rw[<-hn];exact Y3q e u
       ·rw[O];exact key _ _ hcl Oo
      rw[aB]at this;have:=tF F f4;have l2:(Y2N (i+1)).length<=1000:=aDX F f4 (i+1) Oo;exact Oo
     have lkv:S.length=Z.length:=by have:=Y4t α;simpa using this
     have e13p:=s13 _ _ e12;refine Y5Y e13p (ci (bN X g)) (by rw[eT];exact h13) (λH14 e14 b14=>?_);obtain⟨ks2,k1,k2,k3⟩:=JZ (v:=Y44) (ci (bN X g)) α γ;refine Y2w _ _ ks2 ((C.trans s13.but).trans b14) e14 k1 k2 Y45;rw[k3,β];constructor
     ·rintro((h | ⟨f,I,e⟩) | h)
      ·exact .inl h
      ·exact Y2j f Oo e
      ·exact Y2j g Oo h
     ·rintro(h | ⟨f,I,e⟩)
      ·exact Y9U h
      ·by_cases q:f=g
       ·subst q;exact .inr e
       ·exact .inl (Y2j f Oo e)
    ·rintro σ H12 ⟨o11'',S,Z,rfl,C,e12,α,γ,β⟩;have ω:dG H11 H12:=aT.tT C δ;refine⟨_,_,_,_,new++[(X,fs)],S,Z,rfl,F11.but C ndp ndL,aT.thru ν af C,C.at nsd υ,ρ.flat ω (iO _),C.at (Ne.symm ndR) e11,rR11.flat ω (vQ _),hn',hsy',e12,α,γ,Y45⟩;rw[β];constructor
     ·rintro(⟨e,u,r⟩ | ⟨f,I,e⟩)
      ·exact⟨e,cD _ u,r⟩
      ·exact⟨(X,fs),bZ _ (Ybq),sne,f,I,e⟩
     ·rintro⟨e,u,q,f,I,O⟩;rcases bY.mp u with h | h
      ·exact .inl ⟨e,h,q,f,I,O⟩
      ·rw[aU.mp h]at O;exact Y2j f I O
   ·refine⟨_,_,_,_,new++[(X,fs)],B,θ,rfl,F11,af,υ,ρ,e11,rR11,hn',hsy',δ,hk,nd,Y45⟩;have sne:s0 (X,fs)=0:=bU (YcR (on0.mpr z) (by simpa using on));rw[hm];constructor
    ·rintro⟨e,u,r⟩;exact⟨e,cD _ u,r⟩
    ·rintro⟨e,u,q,r⟩;rcases bY.mp u with h | h
     ·exact⟨e,h,q,r⟩
     ·rw[aU.mp h]at q;exact absurd sne q
  ·rintro σ H8 ⟨o9',o10',o11',χ,new,B,θ,rfl,F8,b8,eso,φ,eR8,ψ,hn,hsy,ed8,hk,nd,hm⟩;rw[lys,cM]at hn;have ln:new.length=N.length:=by rw[<-hn,aB]
   obtain⟨lv',hks⟩:=aAk θ λd hd=>by obtain⟨e,_,_,f,_,O⟩:=(hm d).mp hd;exact Y0C O
   subst hks;have hl':∀d,d∈lv' ↔ ∃e∈new,s0 e≠0/\∃f,f<F/\d=bN e.1 f:=λd=>by
    have h1:=hm (ci d);constructor
    ·intro hd;obtain⟨e,u,q,f,I,O⟩:=h1.mp (Y3q d hd);exact⟨e,u,q,f,I,mG O⟩
    ·rintro⟨e,u,q,f,I,O⟩;obtain⟨d',hd',e3⟩:=aQ.mp (h1.mpr ⟨e,u,q,f,I,by rw[O]⟩);rw[<-mG e3];exact hd'
   have HF':=HF.step (new:=new) (lv':=lv') (by rw[hn];exact ae) hsy hl' (EA nd) (by rw[hn];exact List.pairwise_map.mp ac);have lk:lv'.length<=1000:=by
    have h1:=HF'.fewl Oo;have l2:(Y2N (i+1)).length<=1000:=aDX F f4 (i+1) Oo;exact Oo
   have lkv:B.length=lv'.length:=by have:=Y4t hk;simpa using this
   refine Y4;refine rlst ed8 Oo λD ys H9 hD e9 ka s9=>⟨D,_,_,_,_,_,χ,ys,κ++new,lv',rfl,(F8.same s9).less (by rw[bF];exact Oo),b8.trans s9.but,s9 _ _ eR8,ψ.same s9,e9,CA hk ka,HF'⟩
 ·rintro σ H5 ⟨ζ,o7,o8,o9,τ,J,ε,ls,κ,G,rfl,F5,b5,eR,rR,el,rl,HF⟩;have few:=HF.few Oo (Yn);refine Y50 _ R ε (Y3p (gW.of eR) Ybk);have sl:=Y3m ε hl;have el':(upd H5 l (.tup ε)) l=Ym ε:=bK;generalize upd H5 l (.tup ε)=H6 at sl el';exact k _ κ H6 ((F5.same sl).less Oo) (b5.trans sl.but) (bI.tup el' (rR.same sl)) (HF.ruc Oo) HF.srt few
end
abbrev sQ9:Stmt:=(top 71)
def cQ9:Ya a00 a00 sQ9:={}
abbrev aBU:Stmt:=(top 84)
def vY:Ya ["_law_trial_here","_law_aim_here","_law_rule_here","_law_ways","_law_flows","_law_right","_law_spending","_law_counts_here","_law_says_here","_law_way","_law_share","_law_paid","_law_face","_law_later","_law_more_here"] a24 aBU:={}
def aCq(f g:Fr):lw (f.1*g.2-g.1*f.2) (f.2*g.2)=Y6o f g:=by
 show _=lw (f.1*g.2 + -g.1*f.2) (f.2*g.2);rw[Int.neg_mul,Int.sub_eq_add_neg]
section
def oQ9(F:Y9 "_law_less" "_law_less" sQ9)(T:Yb)(FQ8:Y8b "_law_frac" eQ):dI P w K mg base cN 2 f fd a00 (iQ K):=by
 refine YaT cQ9 ?_;obtain @⟨H,Q,E,x,y,f,g,p,u,m,r,d,a,q⟩:=h;refine Yf;intro n A e s z _;obtain⟨B,rfl,l⟩:=p;obtain⟨D,rfl,j⟩:=u;refine Y21 (bO FQ8 (bP oG (Y97 eG) (bP eG (Y0A) (Y0R))) (Y97 eG)) (Y0c l);refine Y0c j;refine Y2R (qU d.1 a.2) (Y0c j);refine Y0c l;refine⟨_,_,rfl,rfl,qU a.1 d.2,_,_,rfl,rfl,Y0c l⟩;refine Y0c j;refine Y2R (qU d.2 a.2) (Y9h (YfP r.pos) (lI (zJ d.2 a.2)));rw[aCq];exact q
end
inductive qN:Yh
 | i {H:Hp} {Q:VK} {E:XK} {t r av:V} {es:Ys} {F W M A Nc:Nat} {fs:Ai} {ws:Y03} {bs mix cs:Al} (h1:Y3c) (h2:Y6T es r) (h0:Y2K A) (h3:Y0B) (h4:2<=F) (h5:F<=4) (h6:M<=6) (h7:W<=4) (h70:Y5q F) (h71:∀x∈ws,x.2.length=F) (h8:QS W ws) (h9:IM Nc W M es mix cs) (k:∀a L ys sv H',Y0->H' a=Ym [.ref L,sv]->H' L=Y0f->Y1m (((List.range W).map (rX F W es (eE ws))).map eA) ys->Y7Z (rO F W es (Y4W) (Y29) (Y1N)) sv->Y0i a):qN [t,av,r] H Q E
section
variable{F W M Nc:Nat}{es:Ys}{ws:Y03}{mix cs:Al}
def DU(F:Nat)(es:Ys)(q:Nat->Y0S)(w:Nat)(e:dE):Rat:=Y00 e.1*q w e.1*cS e.2 (1+w)
def FI(F:Nat)(es:Ys)(q:Nat->Y0S)(mix cs:Y0s)(e:dE)(w:Nat):Rat:=mix w*(Y00 e.1*q w e.1*Yj*cs e.1.sum)
def UQ(q:Nat->Y0S)(mix cs:Y0s):rO F W es q mix cs=Y7h (dD W (FI F es q mix cs e)):=by
 unfold rO kS;rw[BQ];refine dF λw _=>?_;rw[<-FY];exact jR λe _=>by unfold FI;grind
end
def KP(H:Hp)(zs:An)(W:Nat)(g:Y0s):Prop:=zs.length=W/\∀w,w<W->∃v,zs[w]?=Yi/\Y1A (gM (g w)) v
def KP.t{H H':Hp}{zs:An}{W:Nat}{g:Y0s}(s:Y4n)(h:KP H zs W g):KP H' zs W g:=⟨h.1,λw d=>by
 obtain⟨v,c,a⟩:=h.2 w d;exact Y5M c (a.flat s (Y0X))⟩
def KP.eq{H:Hp}{zs:An}{W:Nat}{g g':Y0s}(h:KP H zs W g)(e:∀w,w<W->g' w=g w):KP H zs W g':=⟨h.1,λw a=>by rw[e w a];exact h.2 w a⟩
theorem KP.set{H:Hp}{zs:An}{W j:Nat}{g:Y0s}{y:Rat}{v:V}(h:KP H zs W g)(r:Y1A (gM y) v):KP H (zs.set j v) W λw=>if w=j then y else g w:=⟨by rw[List.length_set];exact h.1,λw a=>by
 by_cases q:w=j
 ·subst q;refine Y08 v (by rw[List.getElem?_set_self (by rw[h.1];exact a)]);show Y1A (gM (if w=w then y else g w)) v;rw[Y12];exact r
 ·obtain⟨u,d,c⟩:=h.2 w a;refine Y08 u (by rw[List.getElem?_set_ne (Y87 z.symm)];exact d);show Y1A (gM (if w=j then y else g w)) u;rw[Y1u];exact c⟩
section
variable{F W M Nc:Nat}{es:Ys}{ws:Y03}{mix cs:Al}
def nM.rgq(R:Y0B)(f4:F<=4)(T:QS W ws){e:dE}(h:Y5b){w:Nat}(hw:w<W):Qn (iI^(M+M+1)) (2^150) (DU F es (Y4W) w e):=by
 obtain⟨x,a⟩:∃x,ws[w]?=Y8:=Y1i (by rw[T.w];exact hw);unfold DU;rw[oF a];exact R.aqs f4 (T.sh x (aF a)) h _
def nM.coq(R:Y0B)(f4:F<=4)(T:QS W ws)(A:IM Nc W M es mix cs){e:dE}(h:Y5b){w:Nat}(hw:w<W):Qn (Nc*iI^(M+M+2)) (2^160) (FI F es (Y4W) (Y29) (Y1N) e w):=by
 obtain⟨x,d⟩:∃x,ws[w]?=Y8:=Y1i (by rw[T.w];exact hw);unfold FI;rw[oF d];by_cases z:Yj=0
 ·rw[z,show cS mix w*(bQ F es e.1*wq x.2 e.1*0*cS cs e.1.sum)=0 by grind];exact Yah _
 ·have g:=(R.aqs f4 (T.sh x (aF d)) h 0).mul (A.co.qn h z);have c:=(A.mx _ (eV (a:=(0,1)) (show w<mix.length by rw[A.ml];exact hw))).q.mul g;rw[Nat.one_mul]at c;refine(c.le (show 2^150*1000<=2^160 by decide +kernel)).dvd (Y0b 1);rw[Nat.mul_one,Nat.pow_succ (n:=iI) (m:=M+M+1)];ac_rfl
def nM.rsq(R:Y0B)(f4:F<=4)(T:QS W ws)(i:Nat){w:Nat}(hw:w<W):Qn (iI^(M+M+1)) (2^160) (fE (Y7O) (DU F es (Y3n ws) w)):=by
 have h:=Qn.sumL (l:=Y7O) λe c=>R.rgq f4 T (List.mem_of_mem_take c) hw;refine h.le ?_;have a:(Y7O).length<=64:=by rw[cW];have:=R.few;exact Oo
 have d:(Y7O).length*2^150<=64*2^150:=bT _ a;exact aP d Kk
def nM.csq(R:Y0B)(f4:F<=4)(w4:W<=4)(T:QS W ws)(A:IM Nc W M es mix cs)(i:Nat){e:dE}(he:Y5b){j:Nat}(hj:j<=W):Qn (Nc*iI^(M+M+2)) (2^175) (Y9V Y7O (dD W (FI F es (Y4W) (Y29) (Y1N) e))+dD j (FI F es (Y4W) (Y29) (Y1N) e)):=by
 have a:∀(e:dE),Y5b->∀j,j<=W->Qn (Nc*iI^(M+M+2)) (4*2^160) (dD j (FI F es (Y4W) (Y29) (Y1N) e)):=λe he j hj=>by
  have h:=Qn.sumR (n:=j) λw m=>R.coq f4 T A he (show w<W by exact Oo);exact h.le (bT _ Oo)
 have h:=Qn.sumL (l:=Y7O) λe he=>a e (List.mem_of_mem_take he) W (Yn);refine(h.add (a e he j hj)).le ?_;have c:(Y7O).length<=64:=by rw[cW];have:=R.few;exact Oo
 have g:(Y7O).length*(4*2^160)<=64*(4*2^160):=bT _ c;have d:(64*(4*2^160)+4*2^160:Nat)<=2^175:=Kk;exact aP (Nat.add_le_add_right g _) d
end
section
def aFI(F:Y9 "_law_of_rule" "_law_of_rule" aBU)(T:Yb)(FQ21:Y8c "_law_times" (fZ K))(FQ13:Y8c "_law_plus" (iP K))(FQ9:Y8c "_law_less" (iQ K))(FQ26:Y1B "_law_weight" a15 lX)(FQ10:Y06 "_law_more" a07 fM):dI P w K mg base cN 4 f fd a24 qN:=by
 refine Y1e vY;obtain @⟨H,Q,E,t,r,av,l,F,W,M,A,Nc,fs,C,bs,X,ο,rt,rr,ra,RO,f2,f4,m6,w4,lf,lx2,TQ,AQ,k⟩:=h;refine Yf;intro cdv A outer s hr _;obtain⟨a,xs,rfl,ha,rxs⟩:=dW rr;have RL:=RO.rl;have lx:Y2v l.length:=cC rxs;have few:=RO.few;obtain⟨e0,er,ees,ez0⟩:=RL.root;obtain⟨at_,af,aw,xf,xw,rfl,hat,hf,hw,rf,rw'⟩:=tJ rt;obtain⟨aa,xb,xm,xc,rfl,haa,rxb,rxm,rxc⟩:=mH ra;obtain⟨am,vm,rfl,ham,rvm⟩:=gA rxm;obtain⟨ac,vc,rfl,hac,rvc⟩:=gA rxc;refine⟨_,(aG (Y13 vY.nd (WI rfl rfl T.b_list rfl T.b_range (Y1h (Y6O gO (by rfl) Kk 0))))
  (aG (Y3Y vY.nd (FU hr.u1 (bP yM (Y6E aE) (Y6O gO (by rfl) Kk 0)) (Y4L)))
  (aG (qG (i:=5) (dZ.o ["_law_way"] []) vY.nd rfl rfl (Y30 3) (Y6y) (λ_ _ _ _=>(Y4L)))
  (aG (Y5o vY.nd Y4L)
  (aG (eO PassesOwn.never rfl (Y49 2) (pE rfl (fJ (Y5R 7 vY.nd) (fJ (Y5R 8 vY.nd) mL))) (aG (eO PassesOwn.never rfl (Y30 3) (Y5R 9 vY.nd) (aG (YeG 10 (bO FQ21 (Y80 4 7) (Y3y FQ26 0 9 7)))
  (aG (IS (bO FQ13 (Y6S 5 9) (Y0O FQ21 10 (aW aN (aA 8) (Y0F eB aE 9)))) (aAI (aA 5) (aA 9) SH))
  (aK (fG (eM sG (Y28 (Y2g 8)) aE) (aG (YeG 11 (bO FQ21 (Y0O FQ21 10 (Y2g 8)) (aW aN Y0A (eP (sY K rfl) (by rfl) T.b_sum Kk (Y2s 7)))))
  (aK (Y5o vY.nd (Y0O FQ13 6 (bO FQ21 (aW aN Y0A (aA 9)) (aA 11)))))) dB)))))
  (aK (fG (eM sG (Y28 (Y2g 8)) aE) (aK (eO PassesOwn.never rfl (Yas (by rfl) 7) (Y5R 12 vY.nd) (aG (YeG 13 (Y0w FQ10 7 12))
  (aG (YeG 14 (bO FQ21 (Y80 4 7) (Y2g 8)))
  (aK (jI hr.u1 (aA 4) (aA 13) (bO FQ13 (LL hr.u1 (aA 4) (aA 13) (Y4L)) (aA 14)))))))) dB))))
  (Yam (Y7r ["_law_one"] [] (Y30 5) (bO FQ9 Y4L (aA 0))) (aA 6))))))),?_⟩
 refine Yp;intro d_ n_;refine Yu hat;refine Y3J hw;rw[cC rw',TQ.w];refine rlr Oo λL3 H1 hL3 e1 s1=>Yg;intro d_ n_;have ok:KY 1 Nc:=⟨Dd,Dd,AQ.co.c0,AQ.co.c1⟩;intro p hp;have s2:=Y9E [] hp;have e2:(upd H1 p (.dT [])) p=Y0P []:=bK;generalize upd H1 p (.dT [])=H2 at s2 e2;refine YfM (by show 1<=64;decide) Y4;have s03:=(s1.trans s2).trans s3;refine Y3Q (s03 _ _ hat) (Y3J (s03 _ _ hf));rw[cC rf,lf];refine YJ (k:=F) e3 f2 Oo λq4 H4 s4 e4=>jT (by show 2<=64;decide) λq5 H5 hq5 e5 s5=>?_;have e4':H5 q4=Ym ((ci (List.replicate F 0)).map V.int):=by rw[s5 _ _ e4,eT,List.map_replicate];rfl
 have S35:=(s3.trans s4).trans s5;refine aDs (c:=ci (Yx)) e4' (S35 _ _ e2) λH6 e6 b6=>Yg;intro d_ n_;have hp0:H p=none:=s1.free hp;have S6:aX H H6:=aX.thru hp0 ((s1.trans s2).trans S35) b6;have t6:dG H5 H6:=aT.tT b6 (S35 _ _ e2);have D6:DQ K H6 [(Ya7,V.ref q5)] (bQ F (l.take 0)):=⟨λd=>by
  rw[List.take_zero,pS];by_cases q:d=Yx
  ·subst q;rw[Y12,yP];exact Y2j _ (by simp[fP]) (.inl (cO (f:=(1,1)) (t6 _ _ e5)))
  ·rw[Y1u];refine Y3p ?_ rfl;have:¬Y25 d=Ya7:=Y87 (mG (qZ z));have e:=mQ (κ:=Y4J) [] (Ya7) (Y25 d) (V.ref q5);rw[if_neg this]at e;exact e⟩
 have nL3p:L3≠p:=λz=>by rw[<-z,e1]at hp;cases hp
 have eL6:=b6.at nL3p (S35 _ _ (s2 _ _ e1));have hL30:H L3=none:=hL3;clear t6 e4' e5 e4 e3 hq5 s5 s4 s3 S35 s03 b6 hq3;refine Y31 L3 eL6 ?_;have lwl:((List.range W).map λ(i:Nat)=>V.int (i:Int)).length=W:=by rw[aB,bC]
 refine lB (λj y H'=>Y3K (0,1)) (λj y H1 H2 s h=>h.flat s (Y0X)) Oo eL6 (λj x H' Q' hx s' k'=>?_) (λR zs0 H7 hR eR s7 hz hr7=>?_)
 ·exact jT (by show 2<=64;decide) λq8 H8 hq8 e8 s8=>k' _ H8 s8 (cO (f:=(0,1)) e8)
 refine jT (by show 2<=64;decide) λq8 H8 hq8 e8 s8=>Yg;intro d_ n_;rw[lwl]at hz;have hR0:H R=none:=S6.free hR;have nRp:R≠p:=λz=>by rw[z,e6]at hR;cases hR
 have nRL:R≠L3:=λz=>by rw[z,eL6]at hR;cases hR
 have s68:=s7.trans s8;have S8:=S6.trans s68;have RG8:KP H8 zs0 W λw=>Y6f 0 F l C w:=⟨hz,λw hw=>by
  have hl:w<zs0.length:=Oo;refine Y08 (zs0[w]) (aD hl);show Y2G H8 (gM (Y6f 0 F l C w)) _;rw[List.take_zero,iD,AL];exact(hr7 w _ (aD hl)).same s8⟩
 refine Y4b a (S8 _ _ ha) ?_;refine sX (xs:=xs) (λi σ H'=>aGA λ(o7 o8 o9 as al ad χ φ:Ao) (I:List (List fK × V)) (zs:An) (sv:V)=>An9 (σ=[Y48,Y5A,Y2b,Y2 L3,Y1f,Y2 R,some sv,o7,o8,o9,as,al,ad,χ,φ]) (Y0) (H' L3=Y05 ((List.range W).map λ(i:Nat)=>V.int (i:Int))) (H' p=Y0P I) (I.length<=1+4*i) (DQ K H' I (bQ F (Yar))) (H' R=Y77) (KP H' zs W (λw=>Y6f i F l C w)) (Y7Z (fE (l.take i) (λe=>dD W (FI F l (Y3n C) (cS X) (cS ο) e))) sv))
  ⟨_,_,_,_,_,_,_,_,_,zs0,_,rfl,S8,s68 _ _ eL6,s68 _ _ e6,by simp,D6.t s68.t,s8 _ _ eR,RG8,by rw[List.take_zero,iD,AL];exact cO (f:=(0,1)) e8⟩ (YdQ) ?_ ?_
 ·obtain⟨_,_,_,_,_,_,_,_,_,_,_,_,s',_⟩:=q;exact fY.of (s' _ _ ha)
 ·rintro i x σ H9 hx ⟨o7,o8,o9,as,al,ad,χ,φ,I,zs,sv,rfl,S9,eL9,e9,l9,D9,ab,RG9,ak⟩;obtain⟨e,he,re⟩:=cR rxs hx;have hi:i<l.length:=(aO.mp he).1;have G:=aF he;have hel:=RL.len e G;have fat:=RL.at he;have fpos:=RL.posf G;have hsM:=RO.sum e G;have tk:=dS he;obtain⟨f0,fr,ef,η,nn0,v0,on0⟩:=(RO.sy e G).hd;have es0:Yj=rv f0:=v0;obtain⟨b,u,z,rfl,hb,ru,rz⟩:=xN (re.same S9);obtain⟨cu,rfl,a1⟩:=fS ru;obtain⟨sa,sx,rfl,ai,rsx⟩:=gA rz;obtain⟨va,hva,fva⟩:=D9.val (d:=e.1) (by rw[fat];grind);rw[fat]at fva;obtain⟨y0,hy0,ry0⟩:=aH.atX (i:=0) (a:=f0) rsx (by rw[ef];rfl);obtain⟨b0,rfl,hb0⟩:=rC ry0;have qA:Qn (iI^M) (2^150) (Y1g e.1):=RO.fl f4 G;have nA:Y5K (2^150) (Y1g e.1):=(Y1K qA).fq;have n0:Y2p Nc 1 f0:=Y7S η.low η.q (by have:=Y9r 1 Nc 1;rwa [Nat.pow_one]at this);refine⟨b,[.ref cu,.ref sa],rfl,fY.of hb,rfl,.ref cu,Y3F sa,rfl,.ref sa,[],rfl,rfl,Yp⟩;intro d_ n_;refine Y31 L3 eL9 ?_
  refine jU (xs:=(List.range W).map λ(i:Nat)=>V.int (i:Int)) (λj σ H'=>Ex5 λ(o9 as al:Ao) (zs:An) (sv:V)=>An5 (σ=[Y48,Y5A,Y2b,Y2 L3,Y1f,Y2 R,some sv,Y2 cu,Y2 sa,o9,as,al,ad,χ,φ]) (Y5U R H9) (H' R=Y77) (KP H' zs W (λw=>if w<j then Y6f (i+1) F l C w else Y6f i F l C w)) (Y7Z ((fE (l.take i) (λe=>dD W (FI F l (Y3n C) (cS X) (cS ο) e)))+dD j (FI F l (Y3n C) (cS X) (cS ο) e)) sv))
   ⟨_,_,_,zs,sv,rfl,(Y07).but,ab,RG9.eq λw _=>by rw[if_neg (Nat.not_lt_zero _)],by rw[gK,Rat.add_zero];exact ak⟩ (Y8v) ?_ ?_
  ·obtain⟨_,_,_,_,_,_,b',_⟩:=q;exact Ybg (Ne.symm nRL) eL9
  ·rintro j y σ H10 hy ⟨o9',o10',o11',L,υ,rfl,θ,τ,RG10,Z⟩;refine Y69;intro d_ n_;have ω:j<W:=by have:=(aO.mp hy).1;exact Oo
   have ey:y=V.int (j:Int):=by
    rw[aR,cX ω]at hy;simpa using hy.symm
   subst ey;obtain⟨wx,ap⟩:∃x,C[j]?=Y8:=Y1i (by rw[TQ.w];exact ω);have hwm:=aF ap;have ah:=TQ.sh wx hwm;have O:dG H9 H10:=θ.t ab;have t010:=S9.t.trans O;have β:=θ.at (Ne.symm nRp) e9;have ao:=O _ _ a1;refine Yt (Y61 β e.1 (by rw[eT];exact ao) hva ?_);refine Y1l;have hN:iI^e.1.sum<2^3000:=bS (Y5k (show e.1.sum<=15 by exact Oo)) (Y1v aDp);refine lX.i (N:=iI) (rt.flat t010 (gE fs C)) ap (oO ao) (by rw[lx2 wx hwm,hel]) ah Dd hN Oo Oo λxw H11 ε rw11=>?_;have lw':cT (lP (wx.2.zip e.1)):=mP _ λz hz=>(ah z.1 (List.of_mem_zip (a:=z.1) (b:=z.2) hz).1).low;have nW:Y2p Nc 1 (lP (wx.2.zip e.1)):=Qn.f lw' (Y1K (LJ (M:=M) ah hsM));refine Y6F (((fva.t O).same ε).v) rw11 Yr lw' (Y3E nA) (Y5e ok nW) (λq12 H12 hq12 ψ ae=>Yg);intro d_ n_;have em:jH (gM (Y1g e.1)) (lP (wx.2.zip e.1))=gM (Y1g e.1*Y4Q C j e.1):=Y7Q lw' (by rw[hJ (Yr).pos lw'.pos,dA,dA,oF ap];rfl);rw[em]at ψ;have U:=ε.trans ae;have aj:=U _ _ τ;obtain⟨vr,hvr,rvr⟩:=RG10.2 j ω;replace rvr:Y2G H10 (gM (if j<j then Y6f (i+1) F l C j else Y6f i F l C j)) vr:=rvr;rw[if_neg (cY _)]at rvr;have lsx:sx.length=1+W:=by rw[cC rsx,(RO.sy e G).len]
   obtain⟨g,hg⟩:∃g,e.2[1+j]?=Y5y:=Y1i (by rw[(RO.sy e G).len];exact Oo);obtain⟨vg,hvg,rvg⟩:=gB rsx hg;have gn:=((RO.sy e G).at_ g (aF hg)).1;have α:=O.trans U.t;refine Yt (IP aj (cU hvr) ?_);refine⟨_,rfl,_,rfl,_,rfl,_,_,rfl,rfl,eX (α _ _ ai) (by rw[show(1:Int)+(j:Int)=((1+j:Nat):Int)by exact Oo];exact cU hvg) ?_⟩;have qAq:Qn (iI^(M+M)) (2^150) (Y1g e.1*Y4Q C j e.1):=by rw[oF ap];exact RO.aq f4 ah G
   have nAq:Y5K (2^150) (Y1g e.1*Y4Q C j e.1):=(Y1K qAq).fq;have ng:Y2p Nc 1 g:=Y7S gn.low gn.q (by have:=Y9r 1 Nc 1;rwa [Nat.pow_one]at this);refine Y6F (Ya5 ψ) (rvg.flat α (Y0X)) Yr gn.low (Y3E nAq) (Y5e ok ng) (λq13 H13 hq13 az ν=>?_);have em2:jH (gM (Y1g e.1*Y4Q C j e.1)) g=gM (DU F l (Y3n C) j e):=Y7Q gn.low (by rw[hJ (Yr).pos gn.low.pos,dA,dA];unfold DU;rw[lH hg]);rw[em2]at az;have n3:Y5K (2^160) (Y6f i F l C j):=(Y1K (RO.rsq f4 TQ i ω)).fq;have n4:Y5K (2^150) (DU F l (Y3n C) j e):=(Y1K (RO.rgq f4 TQ G ω)).fq;refine YbG ((rvr.same U).same ν) (Ya5 az) Yr Yr (Y3E n3) (Y3E n4) (λa2 H14 hq14 e14 ζ=>?_);rw[KL,<-wI,<-tk]at e14;have J:=ν.trans ζ;have lz10:=RG10.1;refine Y0g;refine stG (J _ _ aj) (j:=j) (by unfold PJ;rw[Y5p,Y5p];rfl) λH15 ag b15=>?_;have t15:=b15.t (J _ _ aj);have ξ:dG H10 H15:=(U.trans J).t.trans t15;have δ:=O.trans ξ;have b915:aT R H9 H15:=(θ.trans (U.trans J).but).trans b15;have RG15:KP H15 (L.set j (.ref a2)) W λw=>if w<j+1 then Y6f (i+1) F l C w else Y6f i F l C w:=by
    refine(KP.set (j:=j) (RG10.t ξ) (bI.flat t15 (cF _) (cO e14))).eq λw hw=>?_;by_cases q:w=j
    ·subst q;rw[Y12,Y5p]
    ·rw[Y1u];by_cases q2:w<j
     ·rw[if_pos q2,Y5p]
     ·rw[if_neg q2,Y8W]
   have rs15:=Z.flat ξ (Y0X);have e12':H15 q12=Ym _:=t15 _ _ (J _ _ ψ);refine YbK (δ _ _ ai) hy0;refine Y3Q (δ _ _ hb0) (Y2Q Y96)
   ·have sne:Y2D:=on0.mp (by simpa using on);refine Yp;intro d_ n_;have hlc:=AQ.co.len e G sne;obtain⟨gc,hgc⟩:∃g,ο[e.1.sum]?=Y5y:=Y1i hlc;obtain⟨vgc,hvgc,rvgc⟩:=gB rvc hgc;have ax:=AQ.co.at_ gc (aF hgc);obtain⟨gm,hgm⟩:∃g,X[j]?=Y5y:=Y1i (by rw[AQ.ml];exact ω);obtain⟨vgm,hvgm,rvgm⟩:=gB rvm hgm;have a0:=AQ.mx gm (aF hgm);have γ:=S9.t.trans δ;refine Yt (eX (δ _ _ ai) (Y8A hy0) ?_);refine Y6F (Ya5 e12') (ry0.flat δ (Y0X)) Yr η.low (Y3E nAq) (Y5e ok n0) (λq16 H16 hq16 e16 an=>?_);have em3:jH (gM (Y1g e.1*Y4Q C j e.1)) f0=gM (Y1g e.1*Y4Q C j e.1*Yj):=Y7Q η.low (by rw[hJ (Yr).pos η.low.pos,dA,dA,es0]);rw[em3]at e16;have qAqs:Qn (iI^(M+M+1)) (2^150) (Y1g e.1*Y4Q C j e.1*Yj):=by rw[oF ap];exact RO.aqs f4 ah G 0
    have nAqs:Y5K (2^150) (Y1g e.1*Y4Q C j e.1*Yj):=(Y1K qAqs).fq;have ngc:Y2p Nc 1000 gc:=Y7S ax.low ax.q ⟨iI^15,by unfold nO;rw[Nat.one_mul]⟩;have ngm:Y2p Nc 1 gm:=Y7S a0.low a0.q (by have:=Y9r 1 Nc 1;rwa [Nat.pow_one]at this);refine Yu (an _ _ (γ _ _ haa));refine Y6 (Ybj (ci e.1) (by rw[eT];exact fY.of (an _ _ (δ _ _ a1))));rw[wY];refine eX (an _ _ (γ _ _ hac)) (cU hvgc) (Y6F (Ya5 e16) ((rvgc.flat γ (cF _)).same an) Yr ax.low (Y3E nAqs) (iY ok ngc Kk) (λq17 H17 hq17 e17 s17=>?_));have em4:jH (gM (Y1g e.1*Y4Q C j e.1*Yj)) gc=gM (Y1g e.1*Y4Q C j e.1*Yj*cS ο e.1.sum):=Y7Q ax.low (by rw[hJ (Yr).pos ax.low.pos,dA,dA,lH hgc]);rw[em4]at e17;have qP:Qn (Nc*iI^(M+M+1)) (2^160) (Y1g e.1*Y4Q C j e.1*Yj*cS ο e.1.sum):=by
     have h:=qAqs.mul (AQ.co.qn G sne);exact(h.le (show 2^150*1000<=2^160 by decide +kernel)).dvd ⟨1,by rw[Nat.mul_one];ac_rfl⟩
    have nP:Y5K (2^160) (Y1g e.1*Y4Q C j e.1*Yj*cS ο e.1.sum):=(rS qP (QA Oo)).fq;have S:=an.trans s17;refine Y27 (S _ _ (γ _ _ haa));refine Y81 (S _ _ (γ _ _ ham)) hvgm;refine Y4;refine Y6F (gD.of ((rvgm.flat γ (cF _)).same S)) (cO e17) a0.low Yr (Y5e ok ngm) (Y3E nP) (λq18 H18 hq18 e18 s18=>?_);have em5:jH gm (gM (Y1g e.1*Y4Q C j e.1*Yj*cS ο e.1.sum))=gM (FI F l (Y3n C) (cS X) (cS ο) e j):=gL (fR a0.low Yr) Yr (by rw[hJ a0.low.pos (Yr).pos,dA,dA];unfold FI;rw[lH hgm]);rw[em5]at e18;have n5:Y5K (2^175) ((fE (l.take i) (λe=>dD W (FI F l (Y3n C) (cS X) (cS ο) e)))+dD j (FI F l (Y3n C) (cS X) (cS ο) e)):=(rS (RO.csq f4 w4 TQ AQ i G Oo) (QA Oo)).fq;have n6:Y5K (2^160) (FI F l (Y3n C) (cS X) (cS ο) e j):=(rS (RO.coq f4 TQ AQ G ω) (QA Oo)).fq;refine YbG ((rs15.same S).same s18) (Ya5 e18) Yr Yr (Y3E n5) (Y3E n6) (λq19 H19 hq19 e19 s19=>?_);rw[KL]at e19;have S1519:=(S.trans s18).trans s19;refine⟨_,_,_,L.set j (.ref a2),_,rfl,b915.trans S1519.but,S1519 _ _ ag,RG15.t S1519.t,?_⟩;rw[dU,<-Rat.add_assoc];exact cO e19
   ·have sz:Yj=0:=bU (YcR (on0.mpr z) (by simpa using on));refine⟨_,_,_,L.set j (.ref a2),_,rfl,b915,ag,RG15,?_⟩;have ez:FI F l (Y3n C) (cS X) (cS ο) e j=0:=by unfold FI;rw[sz];grind
    rw[dU,ez,Rat.add_zero];exact rs15
  ·rintro σ H10 ⟨o9',o10',o11',L,υ,rfl,θ,τ,RG10,Z⟩;rw[lwl]at RG10 Z;rw[<-wI (Yar) e (λe=>dD W (FI F l (Y3n C) (cS X) (cS ο) e)),<-tk]at Z;have RG10':KP H10 L W λw=>Y6f (i+1) F l C w:=RG10.eq λw hw=>by rw[if_pos hw]
   have O:dG H9 H10:=θ.t ab;have β:=θ.at (Ne.symm nRp) e9;have eL10:=θ.at (Ne.symm nRL) eL9;have S10:aX H H10:=aX.thru hR0 S9 θ;have D10:=D9.t O;refine YbK (O _ _ ai) hy0;refine Y3Q (O _ _ hb0) (Y2Q Y96)
   ·have sne:Y2D:=on0.mp (by simpa using on);refine Y3G;intro d_;have qy:Qn (iI^(e.1.sum+1)) (2^150) (Y1g e.1*Yj):=by
     have h1:=RL.qn (N:=iI) (λe he=>(RO.sy e he).qn 0) f4 l.length (Yn) e.1;rw[cM]at h1;have h:=(h1.le (aP (aJ Dd few) AN)).mul ((RO.sy e G).qn 0);rw[Nat.mul_one,<-Nat.pow_succ]at h;exact h
    refine Y6 (Y3J (O _ _ a1));rw[aB,hel];refine Y5L _ ?_;rw[Int.toNat_natCast];refine gC (Ycq (λ(ad χ φ:Ao) (I:List (List fK × V))=>An5 (σ=[Y48,Y5A,Y2b,Y2 L3,Y1f,Y2 R,some υ,Y2 cu,Y2 sa,o9',o10',o11',ad,χ,φ]) (Y5U p H10) (H' p=Y0P I) (I.length<=1+4*i+j) (DQ K H' I λd=>Y0G Yar d+Y1g e.1*Yj*Y4h j (if Y0q e.1=d then 1 else 0))))
     (Y5c _ _ _ I ((Y07).but) β Oo (D10.eq λd=>by rw[gK];grind)) ?_ ?_
    ·rintro j σ H11 ω ⟨o12',o13',o14',ρ,rfl,μ,ι,l11,D11⟩;refine Y69;intro d_ n_;rw[show(0:Int)+(j:Int)=(j:Int)by exact Oo];have t11:dG H10 H11:=aT.tT μ β;have t911:=O.trans t11;refine Y0g;refine fM.i (i:=j) (oO (t911 _ _ a1)) Oo Oo λv12 H12 ae r12=>Yg;intro d_ n_;obtain⟨cm,rfl,hcm⟩:=fS r12;have α:=t911.trans ae.t;have ψ:=ae _ _ ι;have D12:=D11.t ae.t;generalize hm:bN e.1 j=m at hcm;have msum:m.sum=e.1.sum+1:=by rw[<-hm];exact fA Oo
     have mks:m∈l.map (·.1):=by rw[<-hm];exact RL.fwd e G sne j ω
     have mM:m.sum<=M:=by obtain⟨e',he',rfl⟩:=aQ.mp mks;exact RO.sum e' he'
     have own:Y0G Yar e.1+Y1g e.1*Yj*(Y4h j (if Y0q e.1=e.1 then 1 else 0))=Y1g e.1:=by
      rw[fat,Y7C 0 (λf hf=>?_),kJ]
      ·grind
      ·rw[Y7I ?_];have:=Y9D e.1 f;rw[q]at this;exact Oo
     obtain⟨va',hva',fva'⟩:=D12.val (d:=e.1) (by show Y0G Yar e.1+_≠0;rw[own];grind);rw[own]at fva';refine Yt (Y61 ψ e.1 (by rw[eT];exact α _ _ a1) hva' ?_);refine YbK (α _ _ ai) hy0;refine Y6F fva'.v (ry0.flat α (Y0X)) Yr η.low (Y3E nA) (Y5e ok n0) (λq13 H13 hq13 az ν=>?_);have em:jH (gM (Y1g e.1)) f0=gM (Y1g e.1*Yj):=Y7Q η.low (by rw[hJ (Yr).pos η.low.pos,dA,dA,es0]);rw[em]at az;have ar:=ν _ _ hcm;have au:=ν _ _ ψ;refine⟨_,rfl,p,rfl,Y6P ρ (.inl au),_,rfl,?_⟩;refine jT (by show 2<=64;decide) λa2 H14 hq14 e14 ζ=>?_;have D14:=D12.t (ν.trans ζ).t;have hnz:gD K H14 (0,1) (.ref a2):=gD.of (cO (f:=(0,1)) e14);have hg:=D14.get m hnz;have qX:Qn (iI^m.sum) (2^155) (Y0G Yar m+Y1g e.1*Yj*Y4h j (if Y0q e.1=m then 1 else 0)):=by
      have h1:=RL.qn (N:=iI) (λe he=>(RO.sy e he).qn 0) f4 i Oo m;have h1':=h1.le (aP (Y5k (show i<=64 by exact Oo)) AN);have h3:Qn 1 4 (Y4h j (if Y0q e.1=m then 1 else 0)):=by
       have:=Qn.sumR (N:=1) (B:=1) (n:=j) (f:=λf=>if Y0q e.1=m then 1 else 0) λf _=>by
        split
        ·exact Qn.one' _
        ·exact Yah _
       exact this.le Oo
      have h4:=qy.mul h3;rw[Nat.mul_one,<-msum]at h4;refine(h1'.add h4).le ?_;have:(2:Nat)^150+2^150*4<=2^155:=Kk;exact this
     generalize hX:bQ F (l.take i) m+bQ F l e.1*s0 e*(dD j λf=>if bN e.1 f=m then 1 else 0)=Xm at qX hg;have nX:Y5K (2^155) Xm:=(Y1K qX).fq;have nY:Y5K (2^150) (Y1g e.1*Yj):=(Y1K qy).fq;refine Y1x (pL.ct (c:=ci m) (ζ _ _ au) (by rw[eT];exact ζ _ _ ar)) Y4;refine iP.i hg (Ya5 (ζ _ _ az)) (Yr) (Yr) (Y3E nX) (Y3E nY) λq15 H15 hq15 ag s15=>?_;rw[KL]at ag;refine Y0g;have e15p:=s15 _ _ (ζ _ _ au);refine Y5Y e15p (ci m) (by rw[eT];exact s15 _ _ (ζ _ _ ar)) (λH16 e16 b16=>?_);have t16:dG H15 H16:=aT.tT b16 e15p;refine Y5c _ _ _ _ ((μ.trans (((ae.trans ν).trans ζ).trans s15).but).trans b16) e16 ?_ ?_
     ·have:=iV ρ (Y25 m) (V.ref q15);exact Oo
     ·have D15:=D14.t s15.t;have D16:=(D15.put (c:=m) (v:=.ref q15) (y:=bQ F l e.1*s0 e) (by rw[hX];exact .inl (cO ag))).t t16;refine D16.eq Y45;rw[dU,hm];by_cases q:m=d
      ·rw[Y43,Y43];grind
      ·rw[Y1u,Y1u];grind
    ·rintro σ H11 ⟨o12',o13',o14',ρ,rfl,μ,ι,l11,D11⟩;have t11:dG H10 H11:=aT.tT μ β;refine⟨_,_,_,_,_,_,_,_,ρ,L,υ,rfl,aX.thru hp0 S10 μ,μ.at nL3p eL10,ι,Oo,D11.eq Y45,μ.at nRp τ,RG10'.t t11,Z.flat t11 (Y0X)⟩;rw[tk,jV,fat];rfl
   ·have sz:Yj=0:=bU (YcR (on0.mpr z) (by simpa using on));refine⟨_,_,_,_,_,_,_,_,I,L,υ,rfl,S10,eL10,β,Oo,D10.eq Y45,τ,RG10',Z⟩;rw[tk,jV,sz];grind
 ·rintro σ H9 ⟨o7,o8,o9,as,al,ad,χ,φ,I,zs,sv,rfl,S9,eL9,e9,l9,D9,ab,RG9,ak⟩;rw[lx,cM]at RG9 ak;rw[<-UQ]at ak;have lz:=RG9.1;refine Y31 R ab (lB (λj y H'=>j<W/\Y3K (rX F W l (eE C) j)) (λj y H1 H2 s ⟨h0,h⟩=>⟨h0,h.flat s (Y0X)⟩) Oo ab (λj x H' Q' hx s' k'=>?_) (λD ys H10 hD eD ay hy hr10=>?_))
  ·have ω:j<W:=by have:=(aO.mp hx).1;exact Oo
   obtain⟨v,hv,rv'⟩:=RG9.2 j ω;rw[hx]at hv;cases hv;refine jT (by show 2<=64;decide) λq10 H10 hq10 e10 ay=>Y4;have n1:Y5K (2^160) (fE l (DU F l (Y3n C) j)):=by
    have:=RO.rsq f4 TQ l.length ω;rw[cM]at this;exact(Y1K this).fq
   refine iQ.i (gD.of (cO (f:=(1,1)) e10)) (gD.of ((rv'.same s').same ay)) JY (Yr) (Y5e ok (Fn.one _)) (Y3E n1) λq11 H11 hq11 ι ε=>?_;have ew:Y6o (1,1) (gM (fE l (DU F l (Y3n C) j)))=rX F W l (eE C) j:=by
    unfold rX;rw[<-yP,RY];rfl
   rw[ew]at ι;exact k' _ H11 (ay.trans ε) ⟨ω,cO ι⟩
  ·refine Y4;refine jT (by show 2<=64;decide) λq11 H11 hq11 ι ε=>?_;have ry:aH H10 (((List.range W).map (rX F W l (eE C))).map eA) ys:=Y7D hr10;exact k q11 D ys sv H11 ((S9.trans ay).trans ε) ι (ε _ _ eD) (ry.same ε) ((ak.same ay).same ε)
end
abbrev aBw:Stmt:=(top 64)
def aGj:Ya a51 a51 aBw:={}
inductive oA (K:Aa):Yh
 | i {H:Hp} {Q:VK} {E:XK} {av pv:V} {M:Nat} {bs mix cs ps:Al} {N:Nat} (h1:Y2K M) (h2:Y14 ps pv) (h3:Y91 bs.length) (h4:bs.length<=4) (h5:0<N) (h6:N<=1000000000000) (h7:∀f∈ps,Fn N 1000 f) (h8:∀f∈bs,Y4N N) (k:∀v g H',Y0->Y4o g->Fn (N*N) 4000 g->rv g=Y7v bs.length (Y79*Y39)->Y1a):oA K [av,pv] H Q E
section
def aFk(F:Y9 "bounds_priced" "bounds_priced" aBw)(T:Yb)(FQ70:Y82 "times" K)(FQ71:Y1B "total" ["some"] (jS K)):dI P w K mg base cN 4 f fd a51 (oA K):=by
 refine Y1e aGj;obtain @⟨H,Q,E,av,pv,M,bs,mix,cs,G,N,η,rp,lp,l4,z,R,χ,θ,k⟩:=h;refine Yf;intro ι A C s hr _;obtain⟨aa,xb,xm,xc,rfl,Z,J,ν,rxc⟩:=mH η;obtain⟨ψ,O,rfl,j,r⟩:=gA J;obtain⟨μ,I,rfl,n,m⟩:=gA rp;have lvb:O.length=bs.length:=cC r;have lvp:I.length=G.length:=cC m;have γ:N<2^3000:=bS R (Y1v (show 1000000000000<2^40 by decide));refine Y6M _ (fL FQ71 (sR (eJ.o ["price","bound"] ["price","bound"] []) (yX true true rfl T.b_zip (Y2I 1 Y0R)) (Y6y) (Yed FQ70 0 1)));refine Y27 Z;refine Y1Z μ ψ I O n j (wT (b1:=true) (b2:=true) (xs:=I) (ys:=O) (λi y H'=>∃g:Fr,Y3K g/\Fn (N*N) (1000*1) g/\rv g=Y1O G*Y39) (λi y Ha Hb s ⟨x,τ,υ⟩=>⟨x,τ.flat s (cF x),υ⟩) Oo n j Oo (λi x y H' Q' hx hy ε k'=>?_) (λD us Hk hD ζ sk κ X=>?_))
 ·obtain⟨a,β,S⟩:=cR m hx;obtain⟨b,e,α⟩:=cR r hy;have u:=χ a (aF β);have B:=θ b (aF e);refine Y0g;exact Yaa (S.same ε) (gD.of (α.same ε)) u.low B.low (mK u z γ (Y6d (show 1000<=2^10 by decide))) (YdE B z γ) (λq1 H1 ξ e1 ω=>k' _ H1 ω ⟨_,cO e1,u.mul B,by rw[hJ u.low.pos B.low.pos,lH β,lH e]⟩)
 obtain⟨d,lgs,W,p⟩:=NE (P:=λi g=>Fn (N*N) (1000*1) g/\rv g=Y1O G*Y39) X;have φ:d.length=bs.length:=Oo;have U:∀g∈d,Fn (N*N) 1000 g:=λg L=>by
  obtain⟨i,δ⟩:=List.getElem?_of_mem L;exact(p i g δ).1
 have nn:N*N<2^3000:=bS (Nat.mul_le_mul R R) (Y1v (show 1000000000000*1000000000000<2^80 by decide));refine Yal ζ W (oQ U (kR z z) nn Oo (aP Dd sN)) (λv H2 ρ ο=>k v _ H2 (sk.trans ρ) ο ((Fn.tot d U).le Oo) ?_);rw[tW d λg L=>(U g L).low,xX,φ];exact dF λi δ=>by
  have h:=aD (l:=d) (i:=i) Oo;rw[lH h,(p i _ h).2]
end
abbrev aBq:Stmt:=(top 44)
def ZE:Ya ["level","table","found","counts","more"] ["level","table"] aBq:={}
abbrev aBp:Stmt:=(top 43)
def ZC:Ya ["faces","table","found","level"] ["faces","table"] aBp:={}
def tI.butL{H H':Hp}{x:Addr}{xs:An}{a:Addr}{cs:Ab}(s:Y5U x H)(hx:H x=Y0o)(n:a≠x)(h:tI H a cs):tI H' a cs:=by
 obtain⟨e,d,c⟩:=h;exact⟨e,s.at n d,c.flat (s.t hx) (iO _)⟩
def dgI{H:Hp}{p b:Addr}{kvs:Yw}{cc:Af}(e:H p=Y1I)(hb:H b=Ym (cc.map FJ)):pL H p (Y0z) (Y88 cc):=.inr ⟨kvs,Y25 cc,b,.inl e,rfl,by rw[AI,eT];exact hb,rfl⟩
section
variable{F W M:Nat}{best:Af->Nat}
def lvl(F:Nat)(best:Af->Nat):Nat->Ab
 | 0=>[List.replicate F 0]
 | k+1=>(cta F (k+1)).filter λd=>(lvl F best k).any λc=>best c == 0&&(List.range F).any λj=>d == bN c j
def pC(hF:1<=F):∀k,(lvl F best k).Sublist (Y2N k)
 | 0=>by unfold lvl;rw[vS F hF];exact List.Sublist.refl _
 | k+1=>by unfold lvl;exact List.filter_sublist
def pB(hF:1<=F){k:Nat}{d:Af}:d∈Y84 F (k+1) ↔ ∃c∈lvl F best k,best c=0/\∃j,j<F/\d=bN c j:=by
 have g:d∈Y84 F (k+1)↔d∈cta F (k+1)/\∃c∈lvl F best k,best c=0/\∃j,j<F/\d=bN c j:=by
  show d∈List.filter _ _↔_;rw[iK];simp
 rw[g];refine YbR (λh=>h.2) ⟨?_,h⟩;obtain⟨c,i,_,j,a,e⟩:=h;exact(vT hF).mpr ⟨c,(pC hF k).subset i,j,a,e⟩
def VS(F M:Nat)(best:Af->Nat):Ab:=(List.range (M+1)).flatMap (lvl F best)
theorem AM{α:Type}{f g:Nat->Yo}(h:∀k,(f k).Sublist (g k)):∀l:Af,(l.flatMap f).Sublist (l.flatMap g)
 | []=>List.Sublist.refl _
 | a::l=>by rw[List.flatMap_cons,List.flatMap_cons];exact(h a).append (AM h l)
def WZ(hF:1<=F):(VS F M best).Sublist (Yy):=AM (pC hF) _
def YK{c:Af}:c∈VS F M best ↔ ∃k,k<=M/\c∈Y84 F k:=by
 unfold VS;rw[List.mem_flatMap];constructor
 ·rintro⟨k,a,h⟩;exact⟨k,by have:=Y6Y;exact Oo,h⟩
 ·rintro⟨k,a,h⟩;exact⟨k,cB.mpr Oo,h⟩
end
structure KO(F M:Nat)(best:Af->Nat)(sy:Af->Al)(R:Y0Z Af):Prop where
 f1:1<=F
 f4:F<=4
 m5:M<=5
 on:∀c,best c=0->Y1z
 r:(Yy).length<=400
 hd:∀c,R c->∃f fs,sy c=f::fs/\(0<f.1↔best c=0)
 root:R (Yx)
 fwd:∀c,R c->best c=0->∀f,f<F->R (Y0q c)
theorem KO.lvl{F M:Nat}{best:Af->Nat}{sy:Af->Al}{R:Y0Z Af}(I:KO F M best sy R):∀(k:Nat) {c:Af},c∈Kw.lvl F best k->R c
 | 0,c,h=>by
  have h:c∈[List.replicate F 0]:=h;rw[aU.mp h];exact I.root
 | k+1,c,h=>by
  obtain⟨d,hd,a,f,e,rfl⟩:=(pB I.f1).mp h;exact I.fwd d (I.lvl k hd) a f e
def KO.ruC{F M:Nat}{best:Af->Nat}{sy:Af->Al}{R:Y0Z Af}(I:KO F M best sy R){c:Af}(h:c∈Kw.VS F M best):R c:=by
 unfold Kw.VS at h;obtain⟨k,_,a⟩:=List.mem_flatMap.mp h;exact I.lvl k a
def TbG(H:Hp)(d:Addr)(R:Y0Z Af)(sy:Af->Al):Prop:=∃kvs,H d=Y1I/\∀c,R c->∃v,Y88 c=Yi/\Y14 (sy c) v
theorem TbG.same{H H':Hp}{d:Addr}{R:Y0Z Af}{sy:Af->Al}(s:Y0)(h:TbG H d R sy):TbG H' d R sy:=by
 obtain⟨a,l,g⟩:=h;exact Y5d (s _ _ l) (λc i=>by obtain⟨v,e,j⟩:=g c i;exact Y5M e (j.same s))
inductive uZ:Yh
 | i {H:Hp} {Q:VK} {E:XK} {L d:Addr} {F M k:Nat} {best:Af->Nat} {sy:Af->Al} {R:Y0Z Af} (h1:tI H L (Y84 F k)) (h2:TbG H d R sy) (h3:KO F M best sy R) (h4:k<=M) (q:∀D H',Y0->H D=none->tI H' D (Y84 F (k+1))->Y1r):uZ [.ref L,.ref d] H Q E
inductive uX:Yh
 | i {H:Hp} {Q:VK} {E:XK} {d:Addr} {F M:Nat} {best:Af->Nat} {sy:Af->Al} {R:Y0Z Af} (h2:TbG H d R sy) (h3:KO F M best sy R) (q:∀D H',Y0->H D=none->tI H' D (VS F M best)->Y1r):uX [.int (F:Int),.ref d] H Q E
theorem yO{F M:Nat}{best:Af->Nat}(hF:1<=F)(on:∀c,best c=0->Y1z):∀j,Y84 F (M+1+j)=[]
 | 0=>by
  refine List.eq_nil_iff_forall_not_mem.mpr λd hd=>?_;obtain⟨c,hc,h0,_⟩:=(pB hF).mp hd;have a:=(iZ ((pC hF M).subset hc)).2;have:=on c h0;exact Oo
 | j+1=>by
  refine List.eq_nil_iff_forall_not_mem.mpr λd hd=>?_;obtain⟨c,hc,_⟩:=(pB (k:=M+1+j) hF).mp hd;rw[yO hF on j]at hc;cases hc
theorem GU{F k:Nat}{best:Af->Nat}(hF:1<=F)(h:Y84 F k=[]):∀j,Y84 F (k+j)=[]
 | 0=>h
 | j+1=>by
  refine List.eq_nil_iff_forall_not_mem.mpr λd hd=>?_;obtain⟨c,hc,_⟩:=(pB (k:=k+j) hF).mp hd;rw[GU hF h j]at hc;cases hc
theorem CG{F k:Nat}{best:Af->Nat}(hF:1<=F)(h:Y84 F k=[]):∀j,(List.range (k+j)).flatMap (lvl F best)=(List.range k).flatMap (lvl F best)
 | 0=>rfl
 | j+1=>by rw[<-Nat.add_assoc,pT,GU hF h j,List.append_nil,CG hF h j]
section
def aFe(F:Y9 "counts_behind" "counts_behind" aBq)(T:Yb)(FQ59:Y06 "looks_on" ["says"] iU)(FQ62:Y2Z "ones_more" ["counts"] iE):dI P w K mg base cN 3 f fd ["level","table"] uZ:=by
 refine Y1e ZE;obtain @⟨H,Q,E,L,d,F,M,n,l,sy,R,LS,tb,I,hk,q⟩:=h;refine Yf;intro cdv A μ s hr _;obtain⟨ys,hL,ry,ly⟩:=LS.len;have f1:=I.f1;have f4:=I.f4;have m5:=I.m5;have η:∀(j:Nat) (d:Ag),(∃c∈(lvl F l n).take j,l c=0/\∃f,f<F/\d=ci (bN c f))->d∈(lvl F l (n+1)).map ci:=λj d ⟨c,y,C,f,J,e⟩=>aQ.mpr ⟨Y0q c,(pB f1).mpr ⟨c,List.mem_of_mem_take y,C,f,J,rfl⟩,e.symm⟩;have small:(lvl F l (n+1)).length<=56:=by
  by_cases z:n+1<=5
  ·exact aP (pC f1 (n+1)).length_le (mF F f4 (n+1) z)
  ·have e:=yO f1 I.on (n-M);rw[show M+1+(n-M)=n+1 by exact Oo]at e;rw[e];exact dH _
 refine⟨_,(aG (Y1T ZE.nd sA)
  (aG (Y33 (Y30 0) 3 ZE.nd (Y92 (uJ (yU (eM (aCm hr.u1) (aA 3) (aA 1) (by with_unfolding_all rfl)) (uI (fO (fL FQ59 (Y80 1 3)))))) (Y33 (fV (Y3o FQ62 3)) 4 ZE.nd (jI hr.u1 (aA 2) (aA 4) jP))))
  (Y0L (eP (NU rfl) (by rfl) T.b_sorted Kk (Y2s 2))))),?_⟩
 refine Yp;intro d_ n_;intro p hp;have s1:=Y9E [] hp;have e1:(upd H p (.dT [])) p=Y0P []:=bK;generalize upd H p (.dT [])=H1 at s1 e1 ⊢;refine Y31 L (s1 _ _ hL) ?_;refine jU (xs:=ys) (Ycq (λ(κ ε:Ao) (r:List (List fK × V)) (u:Ac)=>WA (σ=[Y2 L,Y2 d,Y1f,κ,ε]) (Y0) (H' p=Y0P r) (r.map (·.1)=u.map kT) (u.Nodup) (∀d,d∈u ↔ ∃c∈(lvl F l n).take j,l c=0/\∃f,f<F/\d=ci (bN c f))))
  ⟨_,_,[],[],rfl,s1,e1,rfl,List.nodup_nil,λd=>⟨(λh=>by cases h),λ⟨c,y,_⟩=>by rw[List.take_zero]at y;cases y⟩⟩ (Y8v) ?_ ?_
 ·obtain⟨_,_,_,_,_,S',_⟩:=q;exact gW.of (S' _ _ hL)
 ·rintro j x σ H2 hx ⟨κ,ε,r,u,rfl,S2,β,O,nd,θ⟩;refine Y2z;intro d_;obtain⟨cc,y,rc⟩:=cR ry hx;obtain⟨ac,rfl,W⟩:=fS rc;have α:=aF y;obtain⟨lc,sc⟩:=iZ ((pC f1 n).subset α);have hcr:Y5H cc:=(eZ f1).mpr (Y1j lc);obtain⟨tk,ht,hty⟩:=tb.same S2;obtain⟨v,hv,sv⟩:=hty cc (I.lvl n α);have step:∀d,(∃c∈(lvl F l n).take (j+1),l c=0/\∃f,f<F/\d=ci (bN c f))↔(∃c∈(lvl F l n).take j,l c=0/\∃f,f<F/\d=ci (bN c f))\/(l cc=0/\∃f,f<F/\d=ci (bN cc f)):=λd=>by
   rw[dS y];constructor
   ·rintro⟨c,X,h⟩;rcases bY.mp X with h' | h'
    ·exact .inl ⟨c,h',h⟩
    ·rw[aU.mp h']at h;exact .inr h
   ·rintro(⟨c,X,h⟩ | h)
    ·exact⟨c,cD _ X,h⟩
    ·exact⟨cc,bZ _ (Ybq),h⟩
  refine Yt (rind (dgI (cc:=cc) ht (S2 _ _ W)) ?_);rw[hv];refine Y5F;refine Yt (Y61 ht cc (by rw[eT];exact S2 _ _ W) hv ?_);obtain⟨hf0,hfs,ν,ζ⟩:=I.hd cc (I.lvl n α);rw[ν]at sv;refine iU.i sv (Y6 Y96)
  ·have C:l cc=0:=ζ.mp on;refine Y3G;intro d_;refine Y4;refine iE.i (oO (S2 _ _ W)) Oo λD zs H3 hD e3 r3 ψ=>Y1L D (Y9s e3) ?_;have lz:zs.length=F:=by rw[r3.len,aB,aB,bC];exact lc
   have χ:D≠p:=λz=>by rw[z,β]at hD;cases hD
   refine jU (xs:=zs) (λg σ H'=>ZU λ(ε:Ao) (r:List (List fK × V)) (u:Ac)=>WA (σ=[Y2 L,Y2 d,Y1f,Y2 ac,ε]) (Y5U p H3) (H' p=Y0P r) (r.map (·.1)=u.map kT) (u.Nodup) (∀d,d∈u↔(∃c∈(lvl F l n).take j,l c=0/\∃f,f<F/\d=ci (bN c f))\/∃f,f<g/\d=ci (bN cc f)))
    (Y2w _ r u ((Y07).but) (ψ _ _ β) O nd (λd=>by rw[θ];exact YbR .inl (by rcases h with h | ⟨f,J,_⟩;exact h;exact Oo))) (λg σ H' _ q=>?_) ?_ ?_
   ·obtain⟨_,_,_,_,b',_⟩:=q;exact Ybg χ e3
   ·rintro g z σ H4 hz ⟨τ,Z,N,rfl,ι,ρ,U,S,G⟩;refine Y2z;intro d_;have hg:g<F:=by have:=(aO.mp hz).1;exact Oo
    obtain⟨c2,δ,ξ⟩:=cR r3 hz;rw[aR,cX Oo]at δ;cases δ;have t4:dG H3 H4:=aT.tT ι (ψ _ _ β);obtain⟨a2,rfl,φ⟩:=fS (ξ.flat t4 (gG _));have lk:N.length<=56:=by
     have:=kB S (m:=(lvl F l (n+1)).map ci) λd hd=>by
      rcases(G d).mp hd with h | ⟨f,J,e⟩
      ·exact η j d h
      ·exact η (j+1) d ((step d).mpr (.inr ⟨C,f,Oo,e⟩))
     rw[aB]at this;exact Oo
    have lkv:Z.length=N.length:=by have:=Y4t U;simpa using this
    refine Y0g;refine Y5Y ρ (ci (bN cc g)) (by rw[eT];exact φ) (λH5 e5 b5=>?_);obtain⟨ο,k1,k2,k3⟩:=JZ (v:=Y44) (ci (bN cc g)) U S;refine Y2w _ _ ο (ι.trans b5) e5 k1 k2 Y45;rw[k3,G];constructor
    ·rintro((h | ⟨f,J,e⟩) | h)
     ·exact .inl h
     ·exact Y2j f Oo e
     ·exact Y2j g Oo h
    ·rintro(h | ⟨f,J,e⟩)
     ·exact Y9U h
     ·by_cases q:f=g
      ·subst q;exact .inr e
      ·exact .inl (Y2j f Oo e)
   ·rintro σ H4 ⟨τ,Z,N,rfl,ι,ρ,U,S,G⟩;refine⟨_,_,Z,N,rfl,Ydg (S2.trans ψ) ι,ρ,U,S,Y45⟩;rw[G,step,lz];constructor
    ·rintro(h | h)
     ·exact .inl h
     ·exact Y6P C h
    ·rintro(h | h)
     ·exact .inl h
     ·exact .inr h.2
  ·have C:¬l cc=0:=λz=>on (ζ.mpr z);refine⟨_,_,r,u,rfl,S2,β,O,nd,Y45⟩;rw[θ,step];exact YbR .inl (by rcases h with h | h;exact h;exact absurd h.1 C)
 ·rintro σ H2 ⟨κ,ε,r,u,rfl,S2,β,O,nd,θ⟩;rw[ly,cM]at θ;have B:∀d,d∈u↔d∈(lvl F l (n+1)).map ci:=λd=>by
   rw[θ,aQ];constructor
   ·rintro⟨c,y,C,f,J,e⟩;exact⟨Y0q c,(pB f1).mpr ⟨c,y,C,f,J,rfl⟩,e.symm⟩
   ·rintro⟨d',ω,rfl⟩;obtain⟨c,y,C,f,J,rfl⟩:=(pB f1).mp ω;exact⟨c,y,C,f,J,rfl⟩
  have lk:u.length<=56:=by
   have:=kB nd (m:=(lvl F l (n+1)).map ci) λd hd=>(B d).mp hd;rw[aB]at this;exact Oo
  refine Y4;refine rsrd (cs:=u) β O (λc y=>?_) Oo λq8 υ ds H8 pm pw hq8 e8 r8 s8=>?_
  ·obtain⟨d,hd,rfl⟩:=aQ.mp ((B c).mp y);obtain⟨l1,_⟩:=iZ ((pC f1 (n+1)).subset hd);intro z;have e:(ci d).length=d.length:=by unfold ci;rw[aB]
   rw[z,List.length_nil]at e;exact Oo
  have γ:((lvl F l (n+1)).map ci).Pairwise λa b=>lQ a b=true:=by
   by_cases z:n+1<=5
   ·exact(NR F f4 (n+1) z).sublist ((pC f1 (n+1)).map ci)
   ·have e:=yO f1 I.on (n-M);rw[show M+1+(n-M)=n+1 by exact Oo]at e;rw[e];exact List.Pairwise.nil
  have eds:ds=(lvl F l (n+1)).map ci:=vM pw γ λd=>by rw[pm.mem_iff];exact B d
  rw[eds,List.map_map,show(lvl F l (n+1)).map ((λc:Ag=>PyData.tuple (c.map .int)) ∘ ci)=(lvl F l (n+1)).map gX from fD λc _=>ctI c]at r8;exact q q8 H8 (S2.trans s8) (S2.free hq8) ⟨υ,e8,r8⟩
def aFd(F:Y9 "counts_come_to" "counts_come_to" aBp)(T:Yb)(FQ60:Y06 "noughts" ["faces"] lW)(FQ42:Y1B "counts_behind" ["level","table"] uZ):dI P w K mg base cN 4 f fd ["faces","table"] uX:=by
 refine F.oky ZC λe H Q E h=>?_;obtain @⟨H,Q,E,d,F,M,a,ι,R,ζ,I,q⟩:=h;refine Yf;intro ε A L s θ _;have f1:=I.f1;have f4:=I.f4;have m5:=I.m5;refine⟨_,(aG (Y1T ZC.nd (jN aI))
  (aG (Y13 ZC.nd (jN (Y1h (Y3L FQ60))))
  (aG (yV PassesOwn.never (eM sG (Y98 (by rfl) 3) aE) (aG (gS (Yfc JU (aA 2) (Y2s 3)))
  (aK (Y13 ZC.nd (Y0w FQ42 3 1)))))
  (Y3v 2)))),?_⟩
 refine Yp;intro Z X;refine GR (by show 0<=64;decide) λr H1 y g W=>Yg;intro Z X;refine Y4;refine lW.i Oo λv H2 J G=>GR (by show 1<=64;decide) λle H3 u x p=>?_;have C:=(W.trans J).trans p;have n:le≠r:=λz=>by subst z;rw[J _ _ g]at u;cases u
 have l:∀i,i<=M+1->((List.range i).flatMap (lvl F a)).length<=400:=λi ο=>aP (AM (pC f1) (List.range i)).length_le (tF F f4 i Oo);refine DD (λm σ H'=>ZU λ(le:Addr) (e:An) (j:Nat)=>An8 (σ=[Yk (F:Int),Y2 d,Y2 r,Y2 le]) (Y0) (H' r=Y05 e) (Y1m (((List.range j).flatMap (lvl F a)).map gX) e) (tI H' le (lvl F a j)) (le≠r) (j<=M+1) (m=M+1-j))
  (λσ H'=>∃(le:Addr) (e:An),σ=[Yk (F:Int),Y2 d,Y2 r,Y2 le]/\Y0/\H' r=Y05 e/\Y1m ((VS F M a).map gX) e)
  _ ⟨le,[],0,rfl,C,p _ _ (J _ _ g),aH.nil,Y1x x (Y3U (G.same p)),n,dH _,rfl⟩ ?_ ?_
 ·clear g W J p C x u n G;rintro m σ H1 ⟨le,e,j,rfl,S1,g,B,L1,n,η,rfl⟩;obtain⟨α,U,G,lw⟩:=L1.len;have μ:e.length=((List.range j).flatMap (lvl F a)).length:=cC B;have ν:=l j η;refine Y6 (rlL U ?_);refine Y2Q ?_;by_cases hz:lvl F a j=[]
  ·have κ:α.length=0:=by rw[lw,hz];rfl
   refine NA (cI Oo) ⟨le,e,rfl,S1,g,?_⟩;have:=CG f1 hz (M+1-j);rw[show j+(M+1-j)=M+1 by exact Oo]at this;unfold VS;rw[this];exact B
  ·have ξ:0<(lvl F a j).length:=List.length_pos_iff.mpr hz;have S:j<=M:=bU λz=>hz (by
    have:=yO f1 I.on (j-(M+1))
    rwa [show M+1+(j-(M+1))=j by exact Oo]at this)
   refine MZ (bV Oo) (Yp);intro Z X;have O:=l (j+1) Oo;rw[pT,bF]at O;refine Y50 _ (QQ g) _ ?_;refine aCJ g U Oo λH2 x N=>?_;have γ:=N.t g;have S2:aX H H2:=aX.thru y S1 N;refine Y0g;refine uZ.i (L1.butL N g n) (ζ.same S2) I S λD H3 p β L3=>?_;have δ:D≠r:=λz=>by subst z;rw[x]at β;cases β
   refine⟨_,Oo,D,e++α,j+1,rfl,S2.trans p,p _ _ x,?_,L3,δ,Oo,rfl⟩;rw[pT,bG];exact aH.app ((B.flat γ (iO _)).same p) ((G.flat γ (iO _)).same p)
 ·rintro σ H1 ⟨le,e,rfl,S1,g,B⟩;exact Y6 (q r H1 S1 y ⟨e,g,B⟩)
end
def CS(es:Ys)(c:Af):Nat:=if es.any (λe=>Y0Q e.1 c&&decide (Y2D)) then 0 else 1
def syE(es:Ys)(c:Af):Al:=((es.find? λe=>decide (e.1=c)).map (·.2)).getD []
def rJ{es:Ys}{c:Af}:CS es c=0 ↔ ∃e∈es,e.1=c/\s0 e≠0:=by
 unfold CS;split
 ·rename_i h
  rw[List.any_eq_true]at h;obtain⟨e,a,h⟩:=h;rw[cJ,decide_eq_true_eq,decide_eq_true_eq]at h;exact⟨λ_=>⟨e,a,h⟩,Ydc⟩
 ·rename_i h
  constructor
  ·intro z;cases z
  ·rintro⟨e,a,g,d⟩;refine absurd (List.any_eq_true.mpr (Y08 e a)) h;rw[cJ,decide_eq_true_eq,decide_eq_true_eq];exact⟨g,d⟩
theorem zM:∀{es:Ys},(es.map (·.1)).Nodup->∀{e:dE},Y5b->syE es e.1=e.2
 | x::es,nd,e,he=>by
  rw[bJ,List.nodup_cons]at nd;unfold syE;rw[List.find?_cons];rcases bD.mp he with rfl | he
  ·rw[bV rfl];rfl
  ·rw[cI λq=>nd.1 (by rw[q];exact aQ.mpr ⟨e,he,rfl⟩)];exact zM nd.2 he
def nM.tg{F W M:Nat}{es:Ys}(R:Y0B)(f1:1<=F)(f4:F<=4)(m5:M<=5):KO F M (CS es) (syE es) λc=>Y7P c (·.1) where
 f1:=f1
 f4:=f4
 m5:=m5
 on:=λc h=>by
  obtain⟨e,a,rfl,g⟩:=rJ.mp h;exact R.on e a g
 r:=sF F f4 M m5
 hd:=λc j=>by
  obtain⟨e,a,rfl⟩:=aQ.mp j;rw[zM R.rl.nd a];obtain⟨f,r,m,_,_,_,on⟩:=(R.sy e a).hd;refine⟨f,r,m,?_⟩;rw[on,rJ];refine⟨λq=>Y6A e a q,λ⟨s,i,l,q⟩=>?_⟩;have d:=zM R.rl.nd i;rw[l,zM R.rl.nd a]at d;show cS e.2 0≠0;rw[d];exact q
 root:=by
  obtain⟨e,r,d,n⟩:=R.rl.root;rw[d,<-n];exact aV ..
 fwd:=λc j h f p=>by
  obtain⟨e,a,rfl,g⟩:=rJ.mp h;exact R.rl.fwd e a g f p
def kyC(c:Af):Ag:=(c.sum:Int)::ci c
def MC:∀F,F<=3->∀M,M<=3->((rise F M).map kyC).Pairwise (λa b=>lQ a b=true):=Kk
theorem nM.in_lvl{F W M:Nat}{es:Ys}(R:Y0B)(f1:1<=F):∀(k:Nat) (c:Af),c.sum=k->Y7P c (·.1)->c∈lvl F (CS es) k
 | k,c,hk,hc=>by
  by_cases z:c=List.replicate F 0
  ·have:k=0:=by rw[<-hk,z];simp
   subst this;exact aU.mpr z
  ·obtain⟨e,a,g,f,d,rfl⟩:=R.rl.bwd c hc z;have h:(bN e.1 f).sum=e.1.sum+1:=fA (by rw[R.rl.len e a];exact d);obtain⟨j,rfl⟩:∃j,k=j+1:=⟨e.1.sum,Oo⟩;have:=R.in_lvl f1 j e.1 Oo (aQ.mpr ⟨e,a,rfl⟩);exact(pB f1).mpr ⟨e.1,this,rJ.mpr ⟨e,a,rfl,g⟩,f,d,rfl⟩
def nM.is{F W M:Nat}{es:Ys}(R:Y0B)(f1:1<=F)(f3:F<=3)(m3:M<=3)(o:Y9G):es.map (·.1)=VS F M (CS es):=by
 have TG:=R.tg f1 Oo Oo;have l:((es.map (·.1)).map kyC).Pairwise λa b=>lQ a b=true:=by
  rw[List.pairwise_map,List.pairwise_map];refine o.imp λ{a b} h=>?_;show lQ (_::_) (_::_)=true;rw[vN];rcases h with h | ⟨h,i⟩
  ·rw[Y8W];exact bV Oo
  ·rw[Y5p];exact i
 have g:((VS F M (CS es)).map kyC).Pairwise λa b=>lQ a b=true:=(MC F f3 M m3).sublist ((WZ f1).map kyC);have e:=vM l g λx=>by
  rw[aQ,aQ];constructor
  ·rintro⟨c,d,rfl⟩;obtain⟨e,j,rfl⟩:=aQ.mp d;exact Y0m (YK.mpr (Y1x (R.sum e j) (R.in_lvl f1 _ _ rfl d)))
  ·rintro⟨c,d,rfl⟩;exact Y5P c (TG.ruC d)
 exact List.map_inj_right (f:=kyC) (λa b h=>mG (List.cons.inj h).2) |>.mp e
abbrev aBf:Stmt:=(top 4)
def aF9:Ya a30 a30 aBf:={}
abbrev aBk:Stmt:=(top 7)
def aGe:Ya a30 a30 aBk:={}
abbrev aBh:Stmt:=(top 8)
def aGb:Ya a30 a30 aBh:={}
abbrev aBg:Stmt:=(top 17)
def aGa:Ya a04 a04 aBg:={}
abbrev aBy:Stmt:=(top 18)
def aGk:Ya a04 a04 aBy:={}
abbrev aBB:Stmt:=(top 19)
def aGn:Ya a04 a04 aBB:={}
abbrev aBz:Stmt:=(top 39)
def aGl:Ya a52 a52 aBz:={}
abbrev aBm:Stmt:=(top 29)
def aGg:Ya a27 a27 aBm:={}
abbrev aBl:Stmt:=(top 42)
def aGf:Ya a18 a18 aBl:={}
abbrev aBi:Stmt:=(top 41)
def aGc:Ya a18 a18 aBi:={}
structure ShG(f:Fr):Prop where
 low:Y01
 nn:0<=f.1
 le:f.1<=f.2
def Fn.le1{N:Nat}{f:Fr}(h:Y4N N)(h0:0<N):f.1<=f.2:=by
 have l:=h.q;obtain⟨X,e,b⟩:=l;have a:=h.low.pos;have c:=xG a;have g:(0:Rat)<(N:Rat):=by exact_mod_cast h0
 have i:(0:Rat)<(f.2:Rat):=by exact_mod_cast a
 have m:(X:Rat)<=(N:Rat):=by
  have:X<=(N:Int):=Oo;have:((X:Int):Rat)<=((N:Int):Rat):=by exact_mod_cast this
  rwa [tZ]at this
 have j:Y0v<=1:=by
  refine bU Y5t;have z:1<Y0v:=by grind
  have:=Rat.mul_lt_mul_of_pos_right z g;grind
 have d:(f.1:Rat)<=(f.2:Rat):=by
  rw[<-c];have:=Rat.mul_le_mul_of_nonneg_right j (Rat.le_of_lt i);grind
 exact_mod_cast d
def xQ.sh{n:Nat}{fs:Al}(h:xQ n fs):∀f∈fs,ShG f:=λf a=>⟨(h.at_ f a).1.low,(h.at_ f a).2,Fn.le1 (h.at_ f a).1 Dd⟩
def xQ.tot{n:Nat}{fs:Al}(h:xQ n fs)(hn:n<=64):CV fs/\jQ fs=(1,1):=by
 have lw:∀f∈fs,Y01:=λf a=>(h.at_ f a).1.low;refine⟨oQ (λf a=>(h.at_ f a).1) Dd (Y1v (show iI<2^30 by decide)) (by rw[h.len];exact hn) Nat.one_le_two_pow,gL (sB fs lw) JY (by rw[tW fs lw,h.one,pG])⟩
theorem pM:∀{ys:An},(∀(i:Nat) (y:V),Y1t=Y0j->y=Y44)->ys=(List.replicate ys.length true).map V.bl
 | [],_=>rfl
 | y::ys,h=>by
  have h0:=h 0 y rfl;have a:=pM (ys:=ys) λi z c=>h (i+1) z (by simpa using c);rw[cE,List.replicate_succ,bJ,<-a,h0]
def pW(n:Nat):(List.replicate n true).all id=true:=by rw[List.all_eq_true];intro x a;exact List.eq_of_mem_replicate a
inductive nS:Yh
 | i {H:Hp} {Q:VK} {E:XK} {n:Int} (q:YaL H):nS [Y5z] H Q E
inductive oS:Yh
 | i {H:Hp} {Q:VK} {E:XK} {x:V} {f:Fr} (h0:Y1A f x) (h1:Y01) (q:YaL H):oS [x] H Q E
inductive yE:Yh
 | i {H:Hp} {Q:VK} {E:XK} {x:V} {f:Fr} (h0:Y1A f x) (h1:ShG f) (q:YaL H):yE [x] H Q E
inductive gZ (K:Aa):Yh
 | i {H:Hp} {Q:VK} {E:XK} {a:Addr} {xs:An} {n:Int} (h0:Y4q a) (q:Y1s (Y0Q (xs.length:Int) n)):gZ K [Y3,Y5z] H Q E
inductive vC:Yh
 | i {H:Hp} {Q:VK} {E:XK} {x:V} {fs:Al} {n:Int} (h0:Y14 fs x) (h1:(fs.length:Int)=n) (h2:Y7K 64) (h3:(∀f∈fs,ShG f)) (q:∀H',Y0->Y1X):vC [x,Y5z] H Q E
inductive oV:Yh
 | i {H:Hp} {Q:VK} {E:XK} {x:V} {fs:Al} {W:Nat} {z:Int} (h0:Y14 fs x) (h1:xQ (1+W) fs) (h2:W<=4) (h3:z=1+(W:Int)) (q:∀H',Y0->Y1X):oV [x,.int z] H Q E
inductive qQ:Yh
 | i {H:Hp} {Q:VK} {E:XK} {x:V} {fs:Al} {W:Nat} (h0:Y14 fs x) (h1:xQ (1+W) fs) (h2:W<=4) (q:∀H',Y0->Y1X):qQ [.int (W:Int),x] H Q E
inductive kZ:Yh
 | i {H:Hp} {Q:VK} {E:XK} {x:V} {c:Af} {F:Nat} (h0:Y6h c x) (h1:Y2B) (h2:F<=64) (q:∀H',Y0->Y1X):kZ [.int (F:Int),x] H Q E
inductive qO:Yh
 | i {H:Hp} {Q:VK} {E:XK} {x:V} {e:dE} {F W:Nat} (h0:Y0x (UJ e) x) (h1:e.1.length=F) (h2:xQ (1+W) e.2) (h3:F<=64) (h4:W<=4) (q:∀H',Y0->Y1X):qO [.int (F:Int),.int (W:Int),x] H Q E
inductive sV:Yh
 | i {H:Hp} {Q:VK} {E:XK} {x:V} {es:Ys} {F W M:Nat} (h0:Y6T es x) (h1:Y0B) (h2:Y9G) (h3:1<=F) (h4:F<=3) (h5:M<=3) (h6:W<=4) (q:∀H',Y0->Y1X):sV [.int (F:Int),.int (W:Int),x] H Q E
def rG(cs:Ab):Y4I (.list (Ydd)):=(xB.lst (n:=2) λd a=>by
 obtain⟨c,_,rfl⟩:=aQ.mp a;refine xB.tup (n:=1) λd a=>?_;obtain⟨z,_,rfl⟩:=aQ.mp a;exact xB.int z).ok
theorem AT:∀c:Af,Yfr (c.map λ(n:Nat)=>PyData.int (n:Int))
 | []=>rfl
 | x::c=>by show(PyData.hasDict (.int x) || PyData.hasDictAll (c.map λ(n:Nat)=>PyData.int (n:Int)))=false;rw[AT c];rfl
theorem HM:∀cs:Ab,Yfr Ydd
 | []=>rfl
 | c::cs=>by show(PyData.hasDictAll (c.map λ(n:Nat)=>PyData.int (n:Int)) || PyData.hasDictAll (cs.map gX))=false;rw[HM cs,AT];rfl
def NH(cs:Ab):PyData.eqv (.list (Ydd)) (.list (Ydd))=true:=oM _ (HM cs)
def JN{α:Type}(ky:α->Af)(dv:Y9e α){H2:Hp}:∀(es:Yo) (xs:An),aH H2 (es.map λe=>PyData.tuple [gX (ky e),dv e]) xs->∃kvs:List (List fK × V),Paired (OC H2) xs kvs/\kvs.map (·.1)=es.map (λe=>Y25 (ky e))/\((es.map ky).Nodup->∀e∈es,∃v,Y88 (ky e)=Yi/\bI H2 (dv e) v):=λes=>by
 induction es with
 | nil =>
  intro xs r;cases(show xs=[]by have:=cC r;simpa using this);exact Y6A [] .nil (λ_ e h=>by cases h)
 | cons d es ih =>
  intro xs r;rw[bJ]at r;unfold aH at r;obtain⟨x,xs,rfl,B,n⟩:=r;obtain⟨b,D,rfl,p,y⟩:=dW B;obtain⟨u,z,rfl,j,C⟩:=gH y;obtain⟨i,rfl,g⟩:=fS j;obtain⟨kvs,w,A,m⟩:=ih xs n;refine⟨(Y25 (ky d),z)::kvs,.cons (Y1d b i p ?_) w,by rw[bJ,bJ,A],λc e a=>?_⟩
  ·show H2 i=Ym ((kT (ci (ky d))).map kV);rw[AI,eT];exact g
  ·rw[bJ,List.nodup_cons]at c;rcases bD.mp a with rfl | a
   ·exact⟨z,jB rfl,C⟩
   ·obtain⟨v,l,s⟩:=m c.2 e a;refine Y5M ?_ s;rw[jC (show ¬kT (ci (ky d))=kT (ci (ky e))from λq=>c.1 (by rw[mG (qZ q)];exact Y3q e a))];exact l
def TN{α:Type}{ky:α->Af}{es:Yo}(h:(es.map ky).Nodup):(es.map λe=>Y25 (ky e)).Nodup:=by
 rw[show(es.map λe=>kT (ci (ky e)))=(es.map ky).map λc=>kT (ci c)by rw[List.map_map];rfl];exact List.Pairwise.map _ (λ_ _ q z=>q (mG (qZ z))) h
section
def aE2(F:Y9 "is_whole" "is_whole" aBf)(T:Yb):dI P w K mg base cN 1 f fd a30 nS:=by
 refine F.oky aF9 λe H Q E h=>?_;obtain @⟨H,Q,E,n,q⟩:=h;refine Yf;intro d A a s g _;refine Y21 (Y4a (Yb5 UT (by rfl) Kk (Y2I 0 (YaZ (.ty "int") "int" rfl T.b_int Kk rfl))) (aAJ (Yb5 UT (by rfl) Kk (Y2I 0 (YaZ (.ty "bool") "bool" rfl T.b_bool Kk rfl))))) (Y6 (riI (bI.int n) ?_));refine Y5F;refine Y6 (riI (bI.int n) ?_);exact Y6 q
def aE7(F:Y9 "is_fraction" "is_fraction" aBk)(T:Yb)(FQ54:Y06 "is_whole" a30 nS)(FQ40:Y06 "common_divisor" a35 tM):dI P w K mg base cN 2 f fd a30 oS:=by
 refine F.oky aGe λp H Q E h=>?_;obtain @⟨H,Q,E,x,f,l,low,q⟩:=h;refine Yf;intro j A e s n _;obtain⟨a,rfl,d⟩:=rC l;refine⟨_,(aG (YbL (Yb5 (yQ K) (by rfl) Kk (Y2I 0 (YaZ (.ty "tuple") "tuple" rfl T.b_tuple Kk rfl))) (eM GN (Y98 (by rfl) 0) aE))
  (aG (YbL (fL FQ54 (Y0R)) (lE (fO (fL FQ54 (Y0R)))))
  (Y0L (Y4a (kE MO (Y0R) aE) (kE tO (bO FQ40 (Y0R) (Y0R)) aE))))),?_⟩
 refine Yp;intro y r;refine Y6 (MB (fY.of d) ?_);refine Y4T;refine Y6 (Y3J d);refine Y6A rfl _ Y93;refine Yu d;refine nS.i Y4T;refine Yu d;refine nS.i Y4T;refine Yu d;refine Y2Q ?_;have m:=low.pos;have g:=low.low;refine MZ (bV Oo) (Yu d);refine Yu d;refine tM.i m Yf;rw[g];exact q
def aE4(F:Y9 "is_share" "is_share" aBh)(T:Yb)(FQ49:Y2Z "is_fraction" a30 oS):dI P w K mg base cN 3 f fd a30 yE:=by
 refine YfL aGb ?_;obtain @⟨H,Q,E,x,f,g,sh,q⟩:=h;refine Yf;intro l A e s m _;have d:=g;obtain⟨a,rfl,j⟩:=rC g;refine Y21 (Y4a (Y3L FQ49) (RC aAj aAj aE (Y0R) (Y0R))) (Y6 (oS.i d sh.low ?_));refine Y5F;refine Yu j;refine Y2Q (MZ (bV sh.nn) ?_);refine Yu j;refine Y7a;show Y1s (decide (f.1<=f.2));rw[bV sh.le];exact q
def aE3(F:Y9 "is_tuple_of" "is_tuple_of" aBg)(T:Yb):dI P w K mg base cN 1 f fd a04 (gZ K):=by
 refine F.oky aGa λl H Q E h=>?_;obtain @⟨H,Q,E,a,i,n,g,q⟩:=h;refine Yf;intro j A d s m _;refine Y21 (Y4a (Yb5 (yQ K) (by rfl) Kk (Y2I 0 (YaZ (.ty "tuple") "tuple" rfl T.b_tuple Kk rfl))) (kE tO (Y98 (by rfl) 0) (aA 1))) (Y6 (MB g ?_));refine Y5F;refine Y6 (rlK g ?_);refine Y6A _ rfl ?_;have e:Y0Q (V.int (i.length:Int)) (V.int n)=Y0Q (i.length:Int) n:=by rw[decide_eq_decide];exact⟨λz=>V.int.inj z,λz=>by rw[z]⟩
 rw[<-e]at q;exact q
def aFm(F:Y9 "are_shares" "are_shares" aBy)(T:Yb)(FQ53:Y06 "is_tuple_of" a04 (gZ K))(FQ52:Y1B "is_share" a30 yE):dI P w K mg base cN 4 f fd a04 vC:=by
 refine F.oky aGk λN H Q E h=>?_;obtain @⟨H,Q,E,x,fs,n,L,O,I,sh,q⟩:=h;refine Yf;intro B A e s M _;obtain⟨a,m,rfl,l,p⟩:=gA L;have S:m.length=fs.length:=cC p;refine Y6M _ (Y4a (Y0w FQ53 0 1) (eP (AW rfl) (by rfl) T.b_all Kk (Y8y ["one"] [] (Y49 0) (Y3L FQ52))));refine Yt (Y9P l ?_);rw[bV (show(m.length:Int)=n by exact Oo)];refine Y5F;refine Y4b a l (kC (λi y _=>y=Y44) (Y8x) Oo l (λi y H' Q' r G J=>?_) (λD R H1 U d C r j=>?_))
 ·obtain⟨g,u,z⟩:=cR p r;refine Y6 (yE.i (z.same G) (sh g (aF u)) ?_);exact J _ H' (Y07) rfl
 ·rw[pM j]at d;refine rall d ?_;rw[pW];exact q H1 C
def aFp(F:Y9 "are_parts" "are_parts" aBB)(T:Yb)(FQ34:Y0e 4 "are_shares" a04 vC)(FQ71:Y1B "total" ["some"] (jS K)):dI P w K mg base cN 5 f fd a04 oV:=by
 refine F.oky aGn λB H Q E h=>?_;obtain @⟨H,Q,E,x,fs,W,z,j,pt,G,J,q⟩:=h;refine Yf;intro n A a s l _;have D:=pt.len;obtain⟨r,p⟩:=pt.tot Oo;refine Y21 (Y4a (Y0w FQ34 0 1) (kE (aCn K l.units) (Y3L FQ71) (Y9Z YcX T.g_ONE rfl))) Y0g;refine vC.i j Oo Oo pt.sh λH1 g=>Y4;refine lL Y4;obtain⟨C,I,rfl,d,u⟩:=gA (j.same g);refine jS.i (.inr d) (sO.of u) r λy H2 m e=>?_;rw[p]at e;exact reK e.k (qC.tup (K:=K) (uP (H:=H2) T.o_ONE) (lT.ints [1,1])) rfl rfl (q H2 (g.trans m))
def aFn(F:Y9 "are_says" "are_says" aBz)(T:Yb)(FQ31:Y0e 5 "are_parts" a04 oV):dI P w K mg base cN 6 f fd a52 qQ:=by
 refine F.oky aGl λj H Q E h=>?_;obtain @⟨H,Q,E,x,fs,W,g,pt,d,q⟩:=h;refine Yf;intro e A a s l _;exact Y21 (Y0O FQ31 1 (Y0F eB aE 0)) (Y56 _ _ _ _ rfl (oV.i g pt d rfl q))
def aE9(F:Y9 "is_counts" "is_counts" aBm)(T:Yb)(FQ53:Y06 "is_tuple_of" a04 (gZ K))(FQ54:Y06 "is_whole" a30 nS):dI P w K mg base cN 2 f fd a27 kZ:=by
 refine Ych aGg ?_;obtain @⟨H,Q,E,x,d,F,B,r,I,q⟩:=h;refine Yf;intro n A g s C _;obtain⟨a,rfl,l⟩:=fS B;refine Y6M _ (Y4a (Y0w FQ53 1 0) (eP (AW rfl) (by rfl) T.b_all Kk (Y8y ["one"] [] (Y49 1) (Y4a (Y3L FQ54) (kE MO (aA 0) aE)))));refine Yt (Y9P l ?_);rw[bV (show(((d.map FJ).length:Nat):Int)=F by rw[aB,r])];refine Y5F;refine Y4b a l (kC (λi y _=>y=Y44) (Y8x) (by rw[aB];exact Oo) l (λi y H' Q' m L u=>?_) (λD J H1 M e p m j=>?_))
 ·rw[aR]at m;obtain⟨z,N,rfl⟩:=Option.map_eq_some_iff.mp m;refine Y6 (nS.i ?_);refine Y5F;refine⟨_,rfl,_,_,rfl,rfl,u _ H' (Y07) ?_⟩;show V.bl (decide (0<=(z:Int)))=V.bl true;rw[bV Oo]
 ·rw[pM j]at e;refine rall e ?_;rw[pW];exact q H1 p
def aE8(F:Y9 "is_entry" "is_entry" aBl)(T:Yb)(FQ53:Y06 "is_tuple_of" a04 (gZ K))(FQ47:Y2Z "is_counts" a27 kZ)(FQ33:Y0e 6 "are_says" a52 qQ):dI P w K mg base cN 7 f fd a18 qO:=by
 refine YaT aGf ?_;obtain @⟨H,Q,E,x,e,F,W,y,ok,p,n,r,q⟩:=h;refine Yf;intro m A a s B _;obtain⟨b,u,v,rfl,d,j,z⟩:=xN y;refine Y21 (kF (Y0O FQ53 2 aE) (Y4a (YbH FQ47 0) (YbH FQ33 1))) (Y6 (Y9P d ?_));refine Y5F;refine Y27 d;refine kZ.i j ok n λH1 g=>Y4;refine lL (Y27 (g _ _ d));exact qQ.i (z.same g) p r λH2 l=>q H2 (g.trans l)
def aE5(F:Y9 "is_rule" "is_rule" aBi)(T:Yb)(FQ48:Y0e 7 "is_entry" a18 qO)(FQ43:Y0e 4 "counts_come_to" ["faces","table"] uX):dI P w K mg base cN 8 f fd a18 sV:=by
 refine Y1e aGc;obtain @⟨H,Q,E,v,j,F,W,M,ψ,R,o,ζ,φ,ο,hW,q⟩:=h;refine Yf;intro ξ A C s ι _;obtain⟨a,ε,rfl,r,g⟩:=dW ψ;have lx:ε.length=j.length:=cC g;have few:=R.few;have TG:=R.tg ζ Oo Oo;have O:=R.is ζ φ ο o;refine⟨_,(aG (YbL (Yb5 (yQ K) (by rfl) Kk (Y2I 2 (YaZ (.ty "tuple") "tuple" rfl T.b_tuple Kk rfl))) (lE (fO (eP (AW rfl) (by rfl) T.b_all Kk (Y8y ["one","faces","ways"] [0,1] (Y49 2) (Y3y FQ48 1 2 0))))))
  (Y0L (kE (DZ ι.units) (Y7r ["entry"] [] (Y49 2) (Y7j 0)) (Y0O FQ43 0 (jO (AV ι.units rfl) (by rfl) T.b_dict Kk (Y2s 2)))))),?_⟩
 refine Yp;intro d_ n_;refine Y6 (MB (fY.of r) ?_);refine Y4T;refine Y4b a r (kC (λi y _=>y=Y44) (Y8x) Oo r (λi y H' Q' θ Z δ=>?_) (λD ys H1 hD z S θ U=>?_))
 ·obtain⟨e,n,X⟩:=cR g θ;have κ:=aF n;refine Y1l;exact qO.i (X.same Z) (R.rl.len e κ) (R.sy e κ) Oo hW λH2 I=>δ _ H2 I rfl
 ·rw[pM U]at z;refine rall z ?_;rw[pW];refine Y4T;have x:=S _ _ r;refine Y4b a x (kC (λi y H'=>∃e,j[i]?=Y8f/\bI H' (gX e.1) y) (λi y H1 H2 s ⟨e,J,L⟩=>⟨e,J,L.flat s (gG _)⟩) Oo x (λi y H' Q' m Z δ=>?_) (λD2 α H2 hD2 e2 I m G=>?_))
  ·obtain⟨e,n,X⟩:=cR g m;obtain⟨b,u,v,rfl,μ,N,sv⟩:=xN ((X.same S).same Z);refine Yu μ;exact δ _ H' (Y07) ⟨e,n,N⟩
  ·have l:=S.trans I;obtain⟨p,ν,η,β⟩:=JN (·.1) (λe:dE=>lK e.2) j ε (aH.same l g);have β:=β R.rl.nd;have ω:p.length=j.length:=by have:=Y4t η;rwa [aB,aB]at this
   refine Y0g;refine rdcp (l _ _ r) ν (by rw[η];exact TN R.rl.nd) Oo λD3 H3 υ e3 B=>?_;refine uX.i ⟨p,e3,λcc hc=>by
    obtain⟨e,n,rfl⟩:=aQ.mp hc;obtain⟨v,k1,k2⟩:=β e n;rw[zM R.rl.nd n];exact Y5M k1 (k2.same B)⟩ TG λD4 H4 γ hD4 L4=>?_
   rw[<-O]at L4;obtain⟨zs,τ,χ⟩:=L4;have rl:aH H4 ((j.map (·.1)).map gX) α:=aH.ofIdx (by rw[m,lx,aB,aB]) λi y ρ=>by
    obtain⟨e,J,L⟩:=G i y ρ;exact⟨gX e.1,by rw[aR,aR,J];rfl,(L.same B).same γ⟩
   refine Y6B (.list ((j.map (·.1)).map gX)) (.list ((j.map (·.1)).map gX)) (bI.lst (γ _ _ (B _ _ e2)) rl) (bI.lst τ χ) (rG _) (rG _);rw[NH,Bool.true_beq];exact q H4 ((l.trans B).trans γ)
end
abbrev aBC:Stmt:=(top 20)
def aGo:Ya a04 a04 aBC:={}
abbrev aBA:Stmt:=(top 26)
def aGm:Ya a48 a48 aBA:={}
abbrev aAV:Stmt:=(top 27)
def aFW:Ya ["aim"] ["aim"] aAV:={}
abbrev aBe:Stmt:=(top 61)
def aF8:Ya a27 a27 aBe:={}
abbrev aBx:Stmt:=(top 60)
def aD3:Ya ["trial","aim","thing","faces"] a22 aBx:={}
abbrev aBn:Stmt:=(top 59)
def aGh:Ya a28 a28 aBn:={}
inductive DP:Yh
 | i {H:Hp} {Q:VK} {E:XK} {x:V} {fs:Al} {n:Int} (h0:Y14 fs x) (h1:(fs.length:Int)=n) (h2:Y7K 64) (h3:∀f∈fs,Y01/\0<=f.1) (q0:∀H',Y0->Y1X):DP [x,Y5z] H Q E
inductive vD:Yh
 | i {H:Hp} {Q:VK} {E:XK} {t x:V} {fs:Ai} {ws:Y03} {ps:Al} (h0:Y3c) (h1:Y14 ps x) (h2:Y91 ws.length) (h3:ps.length<=64) (h4:∀f∈ps,Y01/\0<=f.1) (q0:∀H',Y0->Y1X):vD [t,x] H Q E
inductive yD:Yh
 | i {H:Hp} {Q:VK} {E:XK} {x:V} {c:Af} {f:Fr} {F:Nat} (h0:YcO [gX c,eA f] x) (h1:Y2B) (h2:F<=64) (h3:Y01) (q0:∀H',Y0->Y1X):yD [.int (F:Int),x] H Q E
inductive vB:Yh
 | i {H:Hp} {Q:VK} {E:XK} {t av x:V} {fs:Ai} {ws:Y03} {M:Nat} {bs mix cs:Al} {val:Af->Fr} (h0:Y3c) (h1:Y2K M) (h2:YbI (Ycx M) x) (h3:1<=fs.length) (h4:Y7K 4) (h5:M<=5) (h6:∀c∈rise fs.length M,Yau c) (q0:∀H',Y0->Y1X):vB [t,av,x] H Q E
@[irreducible] def mS:Sp:=λvs H Q _=>(∃(t:V) (av:V) (p:Addr) (xs:An) (wd:Str) (n:Int) (fs:Ai) (ws:Y03) (M:Nat) (bs:Al) (mix:Al) (cs:Al) (ps:Al) (pv:V) (wv:V) (val:Af->Fr),vs=[t,av,Y0y,Y6j,Y5z]/\Y3c/\Y2K M/\H p=Y0k/\(xs.length:Int)=n/\1<=fs.length/\Y7K 4/\M<=5/\Y3f 0=some (Y6j)/\Y3f (-2)=Y9a/\Y3f (-1)=some wv/\Y14 ps pv/\Y91 ws.length/\ps.length<=64/\(∀f∈ps,Y01/\0<=f.1)/\YbI (Ycx M) wv/\(∀c∈rise fs.length M,Yau c)/\∀H',Y0->Y1X)\/(∃(t:V) (av:V) (p:Addr) (xs:An) (wd:Str) (n:Int),vs=[t,av,Y0y,Y6j,Y5z]/\H p=Y0k/\(xs.length:Int)≠n/\Y1s false)
def zP{H:Hp}{Q:VK}{E:XK}{t:V}{av:V}{p:Addr}{xs:An}{wd:Str}{n:Int}{fs:Ai}{ws:Y03}{M:Nat}{bs:Al}{mix:Al}{cs:Al}{ps:Al}{pv:V}{wv:V}{val:Af->Fr}(h0:Y3c)(h1:Y2K M)(h2:H p=Y0k)(h3:(xs.length:Int)=n)(h4:1<=fs.length)(h5:Y7K 4)(h6:M<=5)(h7:Y3f 0=some (Y6j))(h8:Y3f (-2)=Y9a)(h9:Y3f (-1)=some wv)(h10:Y14 ps pv)(h11:Y91 ws.length)(h12:ps.length<=64)(h13:∀f∈ps,Y01/\0<=f.1)(h14:YbI (Ycx M) wv)(h15:∀c∈rise fs.length M,Yau c)(q0:∀H',Y0->Y1X):mS [t,av,Y0y,Y6j,Y5z] H Q E:=by unfold mS;exact .inl ⟨t,av,p,xs,wd,n,fs,ws,M,bs,mix,cs,ps,pv,wv,val,rfl,h0,h1,h2,h3,h4,h5,h6,h7,h8,h9,h10,h11,h12,h13,h14,h15,q0⟩
def GB{H:Hp}{Q:VK}{E:XK}{t:V}{av:V}{p:Addr}{xs:An}{wd:Str}{n:Int}(h0:H p=Y0k)(h1:(xs.length:Int)≠n)(q0:Y1s false):mS [t,av,Y0y,Y6j,Y5z] H Q E:=by unfold mS;exact .inr ⟨t,av,p,xs,wd,n,rfl,h0,h1,q0⟩
section
def aFq(F:Y9 "are_from_nought" "are_from_nought" aBC)(T:Yb)(FQ53:Y06 "is_tuple_of" a04 (gZ K))(FQ49:Y2Z "is_fraction" a30 oS):dI P w K mg base cN 3 f fd a04 DP:=by
 refine F.oky aGo λS H Q E h=>?_;obtain @⟨H,Q,E,x,fs,n,O,U,M,nn,q⟩:=h;refine Yf;intro I A j s R _;obtain⟨a,p,rfl,m,u⟩:=gA O;have X:p.length=fs.length:=cC u;refine Y6M _ (Y4a (Y0w FQ53 0 1) (eP (AW rfl) (by rfl) T.b_all Kk (Y8y ["one"] [] (Y49 0) (Y4a (Y3L FQ49) (kE MO (Y7j 0) aE)))));refine Yt (Y9P m ?_);rw[bV (show(p.length:Int)=n by exact Oo)];refine Y5F;refine Y4b a m (kC (λi y _=>y=Y44) (Y8x) Oo m (λi y H' Q' z L N=>?_) (λD W H1 Z e J z l=>?_))
 ·obtain⟨g,B,C⟩:=cR u z;have r:=aF B;have d:=C.same L;obtain⟨b,rfl,G⟩:=rC d;refine Y6 (oS.i d (nn g r).1 ?_);refine Y5F;refine Yu G;refine Y2l _ rfl (N _ H' (Y07) ?_);show V.bl (decide (0<=g.1))=V.bl true;rw[bV (nn g r).2]
 ·rw[pM l]at e;refine rall e ?_;rw[pW];exact q H1 J
def aFo(F:Y9 "are_prices" "are_prices" aBA)(T:Yb)(FQ30:Y1B "are_from_nought" a04 DP)(FQ73:Y06 "ways_of" a37 iA):dI P w K mg base cN 4 f fd a48 vD:=by
 refine F.oky aGm λm H Q E h=>?_;obtain @⟨H,Q,E,t,x,fs,p,n,j,g,r,d,nn,q⟩:=h;refine Yf;intro e A a s l _;refine Y21 (Y0O FQ30 1 (Y3L FQ73)) (Yt (iA.i j ?_));exact DP.i g Oo d nn q
def aE1(F:Y9 "is_worth" "is_worth" aBe)(T:Yb)(FQ53:Y06 "is_tuple_of" a04 (gZ K))(FQ47:Y2Z "is_counts" a27 kZ)(FQ49:Y2Z "is_fraction" a30 oS):dI P w K mg base cN 3 f fd a27 yD:=by
 refine Ych aF8 ?_;obtain @⟨H,Q,E,x,I,g,F,B,r,j,low,q⟩:=h;refine Yf;intro n A d s D _;obtain⟨a,C,rfl,l,p⟩:=dW B;obtain⟨y,z,rfl,u,m⟩:=gH p;refine Y21 (kF (Y0O FQ53 1 aE) (Y4a (Y0O FQ47 0 Y0A) (fL FQ49 (Y0A)))) (Y6 (Y9P l ?_));refine Y5F;refine Y27 l;refine kZ.i u r j λH1 e=>Y4;refine lL (Yu (e _ _ l));exact oS.i (m.same e) low (q H1 e)
def aFl(F:Y9 "are_worths" "are_worths" aBx)(T:Yb)(FQ45:Y06 "faces_of" a37 mC)(FQ55:Y1B "is_worth" a27 yD)(FQ28:Y0e 6 "all_counts" ["faces","most"] yI):dI P w K mg base cN 7 f fd a22 vB:=by
 refine Y1e aD3;obtain @⟨H,Q,E,t,av,x,fs,ws,M,bs,ab,cs,val,rt,θ,ρ,α,δ,γ,low,q⟩:=h;refine Yf;intro κ A z s hr _;obtain⟨a,η,rfl,r,j⟩:=aAF ρ;obtain⟨aa,x1,x2,x3,rfl,X,_⟩:=mH θ;have χ:η.length=(Ycx M).length:=by have:=cC j;rwa [aB]at this
 have β:=sF fs.length δ M γ;refine⟨_,(aG (Y5D 3 aD3.nd (Y3L FQ45))
  (aG (YbL (Yb5 (yQ K) (by rfl) Kk (Y2I 2 (YaZ (.ty "tuple") "tuple" rfl T.b_tuple Kk rfl))) (lE (fO (eP (AW rfl) (by rfl) T.b_all Kk (Y8y ["one","faces"] [3] (Y49 2) (Y0w FQ55 1 0))))))
  (Y0L (kE (DZ hr.units) (Y7r ["one"] [] (Y49 2) (Y7j 0)) (Y0O FQ28 3 Y0A))))),?_⟩
 refine Yp;intro d_ ω;refine Y6 (mC.i rt ?_);refine Yg;intro d_ ω;refine Y6 (MB (fY.of r) ?_);refine Y4T;refine Y4b a r (kC (λi y _=>y=Y44) (Y8x) Oo r (λi y H' Q' ε O Z=>?_) (λD ys H1 hD p J ε L=>?_))
 ·obtain⟨e,l,N⟩:=cR j ε;rw[aR]at l;obtain⟨ψ,U,rfl⟩:=Option.map_eq_some_iff.mp l;have ζ:=aF U;refine Y0g;exact yD.i (N.same O) ((eZ α).mp ζ).1 Oo (low ψ ζ) λH2 C=>Z _ H2 C rfl
 ·rw[pM L]at p;refine rall p ?_;rw[pW];refine Y4T;have n:=J _ _ r;refine Y4b a n (kC (λi y H'=>∃e,(Ycx M)[i]?=Y8f/\bI H' (gX e) y) (λi y H1 H2 s ⟨e,G,I⟩=>⟨e,G,I.flat s (gG _)⟩) Oo n (λi y H' Q' g O Z=>?_) (λD2 R H2 ac φ C g B=>?_))
  ·obtain⟨e,l,N⟩:=cR j g;rw[aR]at l;obtain⟨e,S,rfl⟩:=Option.map_eq_some_iff.mp l;obtain⟨b,ο,rfl,ι,μ⟩:=dW ((N.same J).same O);obtain⟨u,v,rfl,υ,hv⟩:=gH μ;refine Yu ι;exact Z _ H' (Y07) ⟨e,S,υ⟩
  ·have m:=J.trans C;refine Y27 (m _ _ X);refine yI.i α δ γ λD4 H4 W hD4 L4=>?_;obtain⟨ο,ξ,β⟩:=L4;have τ:aH H4 ((rise fs.length M).map gX) R:=aH.ofIdx (by rw[g,χ,aB]) λi y ν=>by
    obtain⟨e,G,I⟩:=B i y ν;exact⟨gX e,by rw[aR,G];rfl,I.same W⟩
   refine Y6B (.list ((rise fs.length M).map gX)) (.list ((rise fs.length M).map gX)) (bI.lst (W _ _ φ) τ) (bI.lst ξ β) (rG _) (rG _);rw[NH,Bool.true_beq];exact q H4 (m.trans W)
def aFa(F:Y9 "has_shape" "has_shape" aBn)(T:Yb)(FQ53:Y06 "is_tuple_of" a04 (gZ K))(FQ32:Y0e 4 "are_prices" a48 vD)(FQ35:Y0e 7 "are_worths" a22 vB):dI P w K mg base cN 8 f fd a28 mS:=by
 refine F.okw aGh (λL H Q E h=>?_) (λI A j s H L Q E β h=>?_)
 ·unfold mS at h;rcases h with⟨t,m,p,g,x,n,fs,R,M,bs,u,B,N,pv,wv,val,rfl,_⟩ | ⟨t,m,p,g,x,n,rfl,_⟩ <;> rfl
 ·unfold mS at h;rcases h with⟨t,m,p,g,x,n,fs,R,M,bs,u,B,N,pv,wv,val,rfl,y,D,a,r,O,W,C,S,α,z,U,Z,l,X,e,J,q⟩ | ⟨t,m,p,g,x,n,rfl,a,r,q⟩
  ·refine⟨_,(aG (YbL (Y0w FQ53 2 4) (eM GN (Y16) (aA 3)))
   (Y0L (Y4a (Y0O FQ32 0 (aW aN (aA 2) (rZ nQ aE))) (iT FQ35 (aA 0) (aA 1) (aW aN (aA 2) (rZ nQ aE)))))),?_⟩
   refine Yp;intro δ γ;refine Yt (Y9P a ?_);rw[bV r];refine Y4T;refine Y7J a S;refine Y50 _ rfl _ (NA (by rw[bV rfl];rfl) ?_);refine Yt (Y7J a α);refine vD.i y U Z l X λH1 d=>Y4;refine lL (Y2J (Y7J (d _ _ a) z));exact vB.i (y.same d) (D.same d) (e.same d) O W C J λH2 G=>q H2 (d.trans G)
  ·refine⟨_,(aG (YbL (Y0w FQ53 2 4) (eM GN (Y16) (aA 3)))
   (Y0L (Y4a (Y0O FQ32 0 (aW aN (aA 2) (rZ nQ aE))) (iT FQ35 (aA 0) (aA 1) (aW aN (aA 2) (rZ nQ aE)))))),?_⟩
   refine Yt (Y9P a ?_);rw[cI r];refine Y5F;exact q
end
inductive sT (K:Aa):Yh
 | i {H:Hp} {Q:VK} {E:XK} {v:V} {M:Nat} {bs mix cs:Al} (h1:wF K H M bs mix cs v) (h2:cs.length<=64) (k:∀v' H',Y0->wF K H' M bs mix (List.replicate cs.length (0,1)) v'->Q v' H'):sT K [v] H Q E
section
def aEH(F:Y9 "without_costs" "without_costs" aAV)(T:Yb):dI P w K mg base cN 1 f fd ["aim"] (sT K):=by
 refine F.oky aFW λθ H Q E h=>?_;obtain @⟨H,Q,E,v,M,bs,U,ε,⟨a,C,Z,η,rfl,e,X,I,R,G,rfl,x,B⟩,α,q⟩:=h;refine Yf;intro L A m s ζ _;have δ:=B.len;refine Y6M _ (cG (Y4r Y0R Y0R (Y2V Y0R (Y6i dN (by rfl) Kk ["one"] [] (kD (Y0R)) (Y9Z (.ref c.NOUGHT) T.g_NOUGHT rfl)))));refine Yu e;refine Yu e;refine Yu e;refine Yu e;refine Y1L R (Y0C (fY.of x)) (kC (xs:=G) (λi y H'=>FE K H' (0,1) y) (λi y H1 H2 s r=>r.t s) Oo x (λi y H' Q' u κ β=>?_) (λD d H1 μ S N W n=>?_))
 ·exact β _ H' (Y07) (.inr (Y6 T.o_NOUGHT))
 ·refine Y4X D d S (λl j=>?_);have g:=Y3m d j;have z:(upd H1 l (.tup d)) l=Ym d:=bK;generalize upd H1 l (.tup d)=H2 at g z;refine jT (by show 4<=64;decide) λγ H3 O J p=>?_;have S3:=(N.trans g).trans p;refine q _ H3 S3 ⟨γ,C,Z,Y1k,rfl,J,X.same S3,I.same S3,l,d,rfl,p _ _ z,by rw[cA,W,δ],λi y u=>?_⟩;have ι:=(aO.mp u).1;exact⟨(0,1),by rw[List.getElem?_replicate,Y5p],(n i y u).t (g.trans p).t⟩
end
abbrev sQ0:Stmt:=(YR (top 2) 0)
def cQ0:Ya a23 a23 sQ0:={}
abbrev aBv:Stmt:=(top 62)
def ZH:Ya ["trial","aim","rule","entry","way","share"] a50 aBv:={}
inductive oU (C:Addr):Yh
 | i {H:Hp} {Q:VK} {E:XK} {a:Addr} {x y:V} (e:H a=Y6N a C none) (q:∀d H',H d=none->d≠a->H' a=Y6N a C Y4U->H' d=Yai d [("word",x),("at",y)]->(Y0I (b≠a) (b≠d->H b=Y7->Y1E=Y7))->Q .non H'):oU C [Y3,x,y] H Q E
section
def oQ0(F:Y9 "__init__" "NoPaper.__init__" sQ0)(T:Yb):dI P w K mg base cN 1 f fd a23 (YcG):=by
 refine F.oky cQ0 λB H Q E h=>?_;obtain @⟨H,Q,E,a,x,y,j,q⟩:=h;refine Yf;intro p A i s z _;refine⟨_,(aG (gS (RD T.bc_EarlyError T.g_EarlyError (Y6p 0 (Y2I 1 (aA 2)))))
  (aG (LE (aA 0) (aA 1))
  (aK (LE (aA 0) (aA 2))))),?_⟩
 refine Yp;intro u r;refine⟨_,rfl,_,rfl,_,rfl,a,c.NoPaper,none,_,rfl,by show 3<=64;decide,j,(iJ.shape T.st_NoPaper),Y3t⟩;intro u r;refine⟨_,rfl,_,rfl,a,c.NoPaper,rfl,(YdN),(YdZ (by simp)),Y3p j (λd n g=>?_)⟩;refine⟨_,rfl,_,rfl,a,c.NoPaper,rfl,(YdN),(YdZ (by simp)),.inr ⟨d,_,(cP (Ne.symm g)).trans bK,bK,?_,?_⟩⟩
 ·show 1<1000;decide
 ·refine q d _ n g ?_ ?_ λb o m l e=>?_
  ·rw[cP (Ne.symm g),cP (Ne.symm g),bK]
  ·rw[bK];congr 2
  ·rw[cP l,cP l,cP m];exact e
end
abbrev IL(C:Addr)(H:Hp)(E:XK)(wd:Str)(d:PyData):Prop:=∀H' x v,Y0->H' x=Yai x [("word",Y6j),("at",v)]->Y2E d->E (Yz) (Y8) H'
def IL.same{C:Addr}{H H':Hp}{E:XK}{wd:Str}{d:PyData}(h:IL C H E wd d)(s:Y0):IL C H' E wd d:=λH2 x v a=>h H2 x v (s.trans a)
def rzP{C:Addr}{wd:Str}{d:PyData}{v:V}{H1:Hp}{Ex:XK}(h:IL C H1 Ex wd d)(r:bI H1 d v):[V.str wd,v].length<=64/\∀a,H1 a=none->oU C (Y3::[Y6j,v]) (upd H1 a (lO a C none)) (λv H2=>v=.non/\∃od,H2 a=Y6N a C od/\Ex (Yz) od (del H2 a)) E0:=by
 refine⟨by show 2<=64;decide,λn g=>?_⟩;refine oU.i bK λd H' hd c p u s=>?_;have m:aX H1 (del H' n):=λb o e=>by
  have j:b≠n:=λz=>by subst z;rw[g]at e;cases e
  have l:H1 d=none:=by rw[cP c]at hd;exact hd
  have w:b≠d:=λz=>by subst z;rw[l]at e;cases e
  rw[rE j];exact s b o j w (by rw[cP j];exact e)
 exact⟨rfl,Y4U,p,h _ d _ m ((rE c).trans u) (r.same m)⟩
def IR(n:Nat)(bad:Y0Z Nat)(o:Y5n):Prop:=(∀i,o=Y73->i<n/\bad i/\∀j,j<i->¬bad j)/\(o=none->∀j,j<n->¬bad j)
def IR.at_{n:Nat}{bad:Y0Z Nat}{o:Y5n}(h:IR n bad o){i:Nat}(hi:i<n)(b:bad i)(f:∀j,j<i->¬bad j):o=Y73:=by
 cases o with
 | none=>exact absurd b (h.2 rfl i hi)
 | some k =>
  obtain⟨d,a,c⟩:=h.1 k rfl;rcases Nat.lt_trichotomy k i with q | q | q
  ·exact absurd a (f k q)
  ·rw[q]
  ·exact absurd b (c i q)
def IR.no{n:Nat}{bad:Y0Z Nat}{o:Y5n}(h:IR n bad o)(f:∀j,j<n->¬bad j):o=none:=by
 cases o with
 | none=>rfl
 | some k=>obtain⟨c,a,_⟩:=h.1 k rfl;exact absurd a (f k c)
structure EZ(F W M:Nat)(ss:Ak)(mix ps cs:Al)(val:Af->Fr)(Ns Nm Np Nc B:Nat):Prop where
 I:jE F W M ss mix ps cs Ns Nm Np Nc B
 nv:∀c∈rise F M,Y1z->∀j,j<F->Y2o (Y0N*B) (Y5u c j)
 lw:∀c∈rise F M,Yau c/\Y1q (val c)
def ZJ(W F M:Nat)(ss:Ak)(mix ps cs:Al)(val:Af->Fr)(c:Af):Prop:=∃q∈LW W F M (gI ss) (Y29) (cS ps) (Y1N) (YbD d) c,q<rv (val c)
def AZ(W F M:Nat)(ss:Ak)(mix ps cs:Al)(val:Af->Fr)(i:Nat):Prop:=ZJ W F M ss mix ps cs val ((rise F M).getD i [])
inductive yH (C:Addr):Yh
 | i {H:Hp} {Q:VK} {E:XK} {t av rv_:V} {es:Ys} {F W M A:Nat} {fs:Ai} {ws:Y03} {bs mix cs:Al} {o:Y5n} (h0:Y3c) (h1:Y2K A) (h2:Y6T es rv_) (h3:Y0B) (h4:Y9G) (h5:Y5q F) (h6:1<=F) (h7:F<=3) (h8:M<=3) (h9:W<=4) (h10:M<=A) (h11:QS W ws) (h12:YbB W) (h13:∀f∈bs,Y01/\Y58) (h14:IR W (λw=>cS bs w<1-kK F es (gI Y0T w) w) o) (q0:∀w,o=Y74->IL C H E "wrong" (.int (w:Nat))) (q1:o=none->∀H',Y0->Q .non H'):yH C [t,av,rv_] H Q E
inductive uY (K:Aa) (C:Addr):Yh
 | i {H:Hp} {Q:VK} {E:XK} {t av pv wv:V} {F W M:Nat} {fs:Ai} {ws:Y03} {bs mix ps cs:Al} {val:Af->Fr} {Ns Nm Np Nc B:Nat} {o:Y5n} (h0:Y3c) (h1:wF K H M bs mix cs av) (h2:Y14 ps pv) (h3:YbI Yy wv) (h4:EZ F W M (Y0T) mix ps cs val Ns Nm Np Nc B) (h5:∀x∈ws,BOk 10 x.2) (h6:IR (Yy).length (AZ W F M (Y0T) mix ps cs val) o) (q0:∀i,o=Y73->IL C H E "worth" (gX ((rise F M).getD i []))) (q1:o=none->∀H',Y0->Q .non H'):uY K C [t,av,pv,wv] H Q E
section
def aFj(F:Y9 "check_rule" "check_rule" aBv)(T:Yb)(FQ0:FnI P w K mg base 1 c.NoPaper a23 (YcG))(FQ51:Y0e 8 "is_rule" a18 sV)(FQ45:Y06 "faces_of" a37 mC)(FQ73:Y06 "ways_of" a37 iA)(FQ76:Y0e 5 "wrong" ["trial","rule"] uR)(FQ50:Y06 "is_less" a02 (iN K)):dI P w K mg base (BC P w) 9 f fd a50 (yH c.NoPaper):=by
 refine F.okx ZH (λvs H Q E h=>?_) (λcdv A α s H vs Q E ν h L hmd=>?_)
 ·obtain @⟨H,Q,E,t,av,κ,d,F,W,M,Am,fs,r,bs,θ,cs,o,_,_,_,_,_,_,_,_,_,_,_,_,_,_,_,_,_⟩:=h
  rfl
 ·obtain @⟨H,Q,E,t,av,κ,d,F,W,M,Am,fs,r,bs,θ,cs,o,ο,ra,ω,R,od,hf,υ,f3,m3,ψ,mA,TQ,bl,bz,ρ,qe,qn⟩:=h;have G:=ω;obtain⟨a,xs,rfl,τ,I⟩:=dW ω;obtain⟨χ,xb,xm,xc,rfl,X,β,rxm,rxc⟩:=mH ra;obtain⟨ab,vb,rfl,μ,ξ⟩:=gA β;have lx:Y2v d.length:=cC I;refine⟨_,(aG (Y92 (lE (fO (iT FQ51 (Y3L FQ45) (Y3L FQ73) (aA 2)))) (Y6W FQ0 rfl (ν.mono Dd) jF dR pF))
   (aG (eO PassesOwn.leaving rfl (Y49 2) (Y5R 3 ZH.nd) (Y7X (eM sG (eP (sY K rfl) (by rfl) T.b_sum Kk (Y9A 3)) (Y0A)) (Y6W FQ0 rfl (ν.mono Dd) jF dR (Y2g 3))))
   (aK (eO PassesOwn.leaving rfl (WE true rfl T.b_enumerate (Y1h (Y0w FQ76 0 2))) (pE rfl (fJ (Y5R 4 ZH.nd) (fJ (Y5R 5 ZH.nd) mL))) (Y7X (fO (bO FQ50 (aW aN Y0A (aA 4)) (aA 5))) (Y6W FQ0 rfl (ν.mono Dd) jF dR (aA 4))))))),?_⟩
  refine Yp;intro d_ n_;refine Y6 (mC.i ο ?_);refine Y6 (iA.i ο ?_);rw[hf,TQ.w];refine Y4;refine sV.i G R od υ f3 m3 ψ λH1 φ=>Y4;refine lD (Y4b a (φ _ _ τ) (Yck xs (∃l C m:Ao,σ=[some t,Y2 χ,Y2b,l,C,m]/\Y0) (Y2l _ _ φ) YaS ?_ ?_))
  ·obtain⟨_,_,_,_,ι⟩:=p;exact fY.of (ι _ _ τ)
  ·rintro i x σ H2 L ⟨l,C,m,rfl,B⟩;refine Y2z;intro d_;obtain⟨e,he,re⟩:=cR I L;have δ:=aF he;obtain⟨b,u,z,rfl,hb,ru,rz⟩:=xN (re.same B);obtain⟨cu,rfl,η⟩:=fS ru;refine Yu hb;refine Ybj (ci e.1) (by rw[eT];exact fY.of η);rw[wY];refine Yu (B _ _ X);refine Y2Q ?_;have:=R.sum e δ;exact NA (cI Oo) (Y2l _ _ B)
  ·rintro σ H2 ⟨l,C,m,rfl,B⟩;refine Y0g;refine uR.i (ο.same B) (G.same B) R υ Oo Oo ψ TQ λv3 H3 s3 r3=>?_;obtain⟨aw,ζ,rfl,N,J⟩:=gA r3;have Z:ζ.length=W:=by rw[cC J,aB,bC]
   have S3:=B.trans s3;refine Y1d aw ζ N (UF (n:=0) (xs:=ζ) (λi σ H'=>∃l C m:Ao,σ=[some t,Y2 χ,Y2b,l,C,m]/\aX H3 H'/\∀j,j<i->¬cS bs j<1-kK F d (Y5x r j) j) (Y6C _ _ _ Y07 (λj hj=>Oo)) (λi σ H' p=>?_) ?_ ?_)
   ·obtain⟨_,_,_,_,ι,_⟩:=p;exact ι _ _ N
   ·rintro i x q4 σ H4 H5 L ⟨l,C,m,rfl,U,S⟩ hq4 e5 γ;have ε:i<W:=by have:=(aO.mp L).1;exact Oo
    obtain⟨g,D,rg⟩:=cR J L;rw[aR,cX ε]at D;cases D;obtain⟨g,D⟩:∃g,bs[i]?=Y5y:=Y5C;obtain⟨gl,gz⟩:=bz g (aF D);obtain⟨y,hy,ry⟩:=aH.atX ξ D;have n2:Y2p 1 (2^161) (rX F W d (eE r) i):=(Y1K (R.wr Oo TQ ε)).fq;have S5:=(S3.trans U).trans γ;refine⟨q4,_,rfl,fY.of e5,rfl,_,_,rfl,_,_,rfl,rfl,Y3G⟩;intro d_;rw[show(0:Int)+(i:Int)=(i:Int)by exact Oo];refine Yu (S5 _ _ X);refine Y81 (S5 _ _ μ) hy;refine Y6 (Yab (ry.same S5) ((rg.same U).same γ) gz (Y7g n2) ?_);have O:g.1*(rX F W d (eE r) i).2<(rX F W d (eE r) i).1*g.2↔Y39<1-kK F d (Y5x r i) i:=by
     have h:=oB gl.pos (bL (1-kK F d (Y5x r i) i)).pos;rw[dA]at h;rw[lH D];exact h
    refine Y6 (pR (Y5t) (Y5t))
    ·exact Y6 (rzP ((qe i (ρ.at_ ε (O.mp z) S)).same S5) (Y7o))
    ·refine Y6C _ _ _ (U.trans γ) (λj hj=>?_);by_cases ej:j=i
     ·subst ej;exact λq=>z (O.mpr q)
     ·exact S j Oo
   ·rintro σ H4 ⟨l,C,m,rfl,U,S⟩;rw[Z]at S;exact qn (ρ.no S) H4 (S3.trans U)
end
abbrev aBu:Stmt:=(top 63)
def UX:Ya ["trial","aim","prices","worths","worth_of","counts","worth","sums"] a42 aBu:={}
theorem QN.any{N:Nat}{qs:Y3u}{gs:Al}(h:QN N qs gs){v:Fr}(hv:cT v){bs:Y8V}(hl:YbB gs.length)(hb:∀(i:Nat) (b:Bool),bs[i]?=some b->∃g,gs[i]?=Y5y/\b=Y34 (g.1*v.2) (v.1*g.2)):Yde=true ↔ ∃q∈qs,q<rv v:=by
 rw[List.any_eq_true];constructor
 ·rintro⟨b,a,e⟩;obtain⟨i,m⟩:=jA.mp a;obtain⟨g,j,rfl⟩:=hb i b m;have a:=aF j;exact⟨rv g,by rw[<-h.v];exact Y3q g a,(oB (h.n g a).low.pos hv.pos).mp (of_decide_eq_true e)⟩
 ·rintro⟨q,l,lt⟩;rw[<-h.v]at l;obtain⟨g,a,rfl⟩:=aQ.mp l;obtain⟨i,j⟩:=jA.mp a;obtain⟨b,d⟩:∃b,bs[i]?=some b:=Y1i (by have:=(aO.mp j).1;exact Oo);obtain⟨p,c,rfl⟩:=hb i b d;rw[j]at c;cases c;exact Y1x (aF d) (bV ((oB (h.n g a).low.pos hv.pos).mpr lt))
theorem CM{β:Type}{P:Y9g Bool}:∀{ys:An},(∀(i:Nat) (y:V),Y1t=Y0j->∃b,y=.bl b/\P i b)->∃bs:List Bool,ys=Y9S/\∀(i:Nat) (b:Bool),bs[i]?=some b->P i b
 | [],_=>⟨[],rfl,λi b h=>by simp at h⟩
 | y::ys,h=>by
  obtain⟨b,rfl,hb⟩:=h 0 y rfl;obtain⟨bs,rfl,a⟩:=CM (β:=β) (P:=λi=>P (i+1)) (ys:=ys) λi z e=>h (i+1) z (by simpa using e);refine⟨b::bs,rfl,λi c d=>?_⟩;cases i with
  | zero=>cases(show b=c by simpa using d);exact hb
  | succ i=>exact a i c (by simpa using d)
section
def aFi(F:Y9 "check_worths" "check_worths" aBu)(T:Yb)(FQ0:FnI P w K mg base 1 c.NoPaper a23 (YcG))(FQ69:Y0e 4 "sums_at" a31 (yA K))(FQ50:Y06 "is_less" a02 (iN K)):dI P w K mg base (BC P w) 5 f fd a42 (uY K c.NoPaper):=by
 refine F.okx UX (λχ H Q E h=>?_) (λcdv A α s H χ Q E υ h hx hmd=>?_)
 ·obtain @⟨H,Q,E,t,av,pv,wv,F,W,M,fs,ζ,bs,l,γ,ν,val,Ns,Nm,Np,Nc,B,o,_,_,_,_,_,_,_,_,_⟩:=h
  rfl
 ·obtain @⟨H,Q,E,t,av,pv,wv,F,W,M,fs,ζ,bs,l,γ,ν,val,Ns,Nm,Np,Nc,B,o,rt,ra,rp,μ,V0,hb,fo,qe,qn⟩:=h;have I:=V0.I;have f1:=I.f1;have f4:=I.f4;have m5:=I.m5;have r4:=sF F f4 M m5;obtain⟨a,xs,rfl,θ,d⟩:=dW μ;have e:YaF ((rise F M).map (Y6z [gX c,Y59])):=d;clear d;have lx:Y2v ((Yy).length):=cC e;obtain⟨Z,p1,p2,τ⟩:=JN (λc:Af=>c) (λc=>Y59) (Yy) xs e;have τ:=τ (by rw[List.map_id'];exact oY F f4 M m5);have lkv:Z.length=(Yy).length:=by have:=Y4t p2;rwa [aB,aB]at this
  refine⟨_,(aG (Y3Y UX.nd (jO (AV υ.units rfl) (by rfl) T.b_dict Kk (Y2s 3)))
   (aK (eO PassesOwn.leaving rfl (Y49 3) (pE rfl (fJ (Y5R 5 UX.nd) (fJ (cQ (i:=6) UX.nd rfl (Or.inr rfl)) mL))) (aG (Yby UX.nd (nE FQ69 (υ.mono Dd) (Y3w 0 1 (Y3w 2 5 (Y2s 4)))))
   (Y7X (fO (eP (aCN rfl) (by rfl) T.b_any Kk (Y8y ["one","worth"] [6] (Y30 7) (Y0w FQ50 0 1)))) (Y6W FQ0 rfl (υ.mono Dd) jF dR (aA 5))))))),?_⟩
  refine Yp;intro d_ n_;refine Y4;refine rdcp θ p1 (by rw[p2];exact TN (ky:=λc:Af=>c) (by rw[List.map_id'];exact oY F f4 M m5)) Oo λD H1 hD e1 S=>Y4b a (S _ _ θ) (Yck xs (∃ε ψ κ:Ao,σ=[some t,some av,Y9a,Y2b,Y2 D,ε,ψ,κ]/\aX H1 H'/\∀j,j<i->¬AZ W F M (eE ζ) l γ ν val j) (Y6C _ _ _ Y07 (λj U=>Oo)) YaS ?_ ?_)
  ·obtain⟨_,_,_,_,X,_⟩:=p;exact fY.of (X _ _ (S _ _ θ))
  ·rintro i x σ H2 hx ⟨ε,ψ,κ,rfl,G,N⟩;have S2:=S.trans G;obtain⟨C,m,re⟩:=cR e hx;have φ:=aF m;have η:=(aO.mp m).1;have r:(rise F M).getD i []=C:=kO m;obtain⟨lc,sc⟩:=(eZ f1).mp φ;obtain⟨b,zs,rfl,ξ,δ⟩:=dW (re.same S2);obtain⟨u,z,rfl,ru,δ⟩:=gH δ;obtain⟨vl,vz⟩:=V0.lw C φ;refine⟨b,[u,z],rfl,fY.of ξ,rfl,u,[z],rfl,z,[],rfl,rfl,Yp⟩;intro d_ n_;refine⟨_,rfl,_,rfl,_,rfl,_,rfl,_,rfl,?_⟩;refine yA.i (rt.same S2) (ra.same S2) (rp.same S2) ru (G _ _ e1) I hb lc sc (λlt j U=>V0.nv C φ lt j U) (λlt j U=>?_) λL χ gs H3 R hL e3 r3 ok=>?_
   ·have ι:Y5H (bN C j):=(eZ f1).mpr ⟨by rw[jW];exact lc,by rw[fA Oo];exact Oo⟩;obtain⟨v,k1,k2⟩:=τ _ ι;exact Y5M k1 (k2.same S2)
   ·have lv:χ.length=gs.length:=cC r3;have l5:=ok.l1;refine Y31 L e3 (lB (λi y _=>∃b,y=V.bl b/\∃g,gs[i]?=Y5y/\b=Y34 (g.1*(val C).2) ((val C).1*g.2)) (Y8x) Oo e3 (λi y H' Q' ρ X k'=>?_) (λD4 ys H4 hD4 e4 ω ρ ο=>?_))
    ·obtain⟨g,hg,rg⟩:=cR r3 ρ;have gn:=ok.n g (aF hg);refine Yt (Yab (rg.same X) ((δ.same R).same X) (Y3D I gn (by have:=ZN;exact Oo) pD) vz ?_);exact k' _ H' (Y07) ⟨_,rfl,g,hg,rfl⟩
    ·obtain⟨tb,rfl,aa⟩:=CM (β:=Unit) ο;rw[aB]at ρ;have J:=ok.any vl (bs:=tb) Oo aa;refine rany e4 Y4;by_cases z:tb.any id=true
     ·rw[z];refine lL (Y3G);intro d_;refine Y4;have O:AZ W F M (eE ζ) l γ ν val i:=by unfold AZ ZJ;rw[r];exact J.mp z
      have:=qe i (fo.at_ η O N);rw[r]at this;exact rzP ((this.same S2).same (R.trans ω)) ((ru.same R).same ω)
     ·rw[Bool.not_eq_true]at z;rw[z];refine lD (Y6C _ _ _ ((G.trans R).trans ω) (λj U=>?_));by_cases ej:j=i
      ·subst ej;intro q;unfold AZ ZJ at q;rw[r]at q;have:=J.mpr q;rw[z]at this;cases this
      ·exact N j Oo
  ·rintro σ H2 ⟨ε,ψ,κ,rfl,G,N⟩;rw[lx]at N;exact qn (fo.no N) H2 (S.trans G)
end
abbrev aBc:Stmt:=(top 58)
def aF6:Ya a22 a22 aBc:={}
abbrev paR(es:Ys)(ps:Al)(rs:Ab)(val:Af->Fr):PyData:=.tuple [.str "rule",GI es,lK ps,Y7Y rs]
abbrev paN(ps:Al)(rs:Ab)(val:Af->Fr):PyData:=.tuple [.str "none",lK ps,Y7Y rs]
def BL(rs:Ab)(val:Af->Fr):dQ (Y7Y rs)=true:=by
 show gF _=true;rw[rY];exact AX _
def TF(ps:Al)(rs:Ab)(val:Af->Fr):dQ (paN ps rs val)=true:=by
 show(dQ (.str "none")&&(dQ (lK ps)&&(dQ (Y7Y rs)&&true)))=true;rw[dM,BL];rfl
def GM(es:Ys)(ps:Al)(rs:Ab)(val:Af->Fr):dQ (paR es ps rs val)=true:=by
 show(dQ (.str "rule")&&(dQ (GI es)&&(dQ (lK ps)&&(dQ (Y7Y rs)&&true))))=true;rw[vI,dM,BL];rfl
structure BJ(F W A:Nat)(fs:Ai)(ws:Y03)(bs ps:Al)(val:Af->Fr)(N:Nat):Prop where
 fl:Y5q F
 f1:1<=F
 f3:F<=3
 w4:W<=4
 a5:A<=5
 T:QS W ws
 bl:YbB W
 pl:Y91 W
 n0:0<N
 n1:N<=1000000000000
 pn:∀f∈ps,Fn N 1000 f/\0<=f.1
 bn:∀f∈bs,Y4N N
 lw:∀c∈rise F A,Yau c/\Y1q (val c)
def BJ.n3{F W A:Nat}{fs:Ai}{ws:Y03}{bs ps:Al}{val:Af->Fr}{N:Nat}(h:BJ F W A fs ws bs ps val N):N<2^3000/\N*N<2^3000/\0<N*N:=by
 have a:=h.n1;have c:N*N<=1000000000000*1000000000000:=Nat.mul_le_mul a a;have d:1000000000000*1000000000000<2^3000:=Y1v (show 1000000000000*1000000000000<2^100 by decide);refine⟨?_,Oo,kR h.n0 h.n0⟩;have:N<=N*N:=Nat.le_mul_of_pos_left N h.n0;exact Oo
def BJ.bz{F W A:Nat}{fs:Ai}{ws:Y03}{bs ps:Al}{val:Af->Fr}{N:Nat}(h:BJ F W A fs ws bs ps val N):∀f∈bs,Y01/\Y58:=λf a=>⟨(h.bn f a).low,YdE (h.bn f a) h.n0 h.n3.1⟩
def oZ{F A:Nat}(f1:1<=F):(Y2W A)[0]?=some (Yx):=by
 unfold rise;rw[List.range_succ_eq_map,List.flatMap_cons,vS F f1];rfl
def FN{H:Hp}{F A:Nat}{val:Af->Fr}{v:V}(f1:1<=F)(h:YbI (Y2W A) v):∃a xs b u z,v=Y3/\H a=Y0k/\Y3f 0=Y2 b/\H b=Ym [u,z]/\Y1A Y8t z:=by
 obtain⟨a,xs,rfl,e,d⟩:=dW h;have d:YaF ((rise F A).map (Y6z [gX c,Y59])):=d;obtain⟨x,g,r⟩:=aH.atX d (oZ f1);obtain⟨b,m,rfl,l,i⟩:=dW r;obtain⟨u,z,rfl,_,j⟩:=gH i;exact⟨a,xs,b,u,z,rfl,e,cU g,l,j⟩
theorem wF.of{K:Aa}{H:Hp}{M:Nat}{bs mix cs:Al}{v:V}(h:Y0x (mY M bs mix cs) v):wF K H M bs mix cs v:=by
 obtain⟨a,e,m,j,l,d,c,i,g⟩:=mH h;exact⟨a,e,m,j,l,d,c,i,SaW.of g⟩
@[irreducible] def kM(K:Aa)(C:Addr):Sp:=λvs H Q E=>(∃(t:V) (av:V) (th:V) (F:Nat) (W:Nat) (A:Nat) (fs:Ai) (ws:Y03) (bs:Al) (mix:Al) (cs:Al) (ps:Al) (val:Af->Fr) (Ns:Nat) (Nm:Nat) (Np:Nat) (Nc:Nat) (B:Nat) (N:Nat) (oC:Y5n) (es:Ys) (M:Nat) (Nk:Nat) (oW:Y5n),vs=[t,av,th]/\Y3c/\Y2K A/\Y0x (paR es ps (Y2W A) val) th/\BJ F W A fs ws bs ps val N/\EZ F W A (Y0T) mix ps cs val Ns Nm Np Nc B/\IR (Y2W A).length (AZ W F A (Y0T) mix ps cs val) oC/\Y0B/\Y9G/\M<=3/\M<=A/\IM Nk W M es mix cs/\IR W (λw=>cS bs w<1-kK F es (gI Y0T w) w) oW/\(∀w,oW=Y74->IL C H E "wrong" (.int (w:Nat)))/\(oW=none->∀i,oC=Y73->IL C H E "worth" (gX ((rise F A).getD i [])))/\(oW=none->oC=none->rO F W es (Y4W) (Y29) (Y1N)≠Y42-Y3h (Y79*Y39)->IL C H E "sum" .none)/\(oW=none->oC=none->rO F W es (Y4W) (Y29) (Y1N)=Y42-Y3h (Y79*Y39)->∀H',Y0->Y1X))\/(∃(t:V) (av:V) (th:V) (F:Nat) (W:Nat) (A:Nat) (fs:Ai) (ws:Y03) (bs:Al) (mix:Al) (cs:Al) (ps:Al) (val:Af->Fr) (Ns:Nat) (Nm:Nat) (Np:Nat) (Nc:Nat) (B:Nat) (N:Nat) (oC:Y5n),vs=[t,av,th]/\Y3c/\Y2K A/\Y0x (paN ps (Y2W A) val) th/\BJ F W A fs ws bs ps val N/\Yad A/\EZ F W A (Y0T) mix ps (Yea (0,1)) val Ns Nm Np Nc B/\IR (Y2W A).length (AZ W F A (Y0T) mix ps (Yea (0,1)) val) oC/\(∀i,oC=Y73->IL C H E "worth" (gX ((rise F A).getD i [])))/\(oC=none->¬Y3h (Y79*Y39)<Y42->IL C H E "sum" .none)/\(oC=none->Y3h (Y79*Y39)<Y42->∀H',Y0->Y1X))
def nU{K:Aa}{C:Addr}{H:Hp}{Q:VK}{E:XK}{t:V}{av:V}{th:V}{F:Nat}{W:Nat}{A:Nat}{fs:Ai}{ws:Y03}{bs:Al}{mix:Al}{cs:Al}{ps:Al}{val:Af->Fr}{Ns:Nat}{Nm:Nat}{Np:Nat}{Nc:Nat}{B:Nat}{N:Nat}{oC:Y5n}{es:Ys}{M:Nat}{Nk:Nat}{oW:Y5n}(h0:Y3c)(h1:Y2K A)(h2:Y0x (paR es ps (Y2W A) val) th)(h3:BJ F W A fs ws bs ps val N)(h4:EZ F W A (Y0T) mix ps cs val Ns Nm Np Nc B)(h5:IR (Y2W A).length (AZ W F A (Y0T) mix ps cs val) oC)(h6:Y0B)(h7:Y9G)(h8:M<=3)(h9:M<=A)(h10:IM Nk W M es mix cs)(h11:IR W (λw=>cS bs w<1-kK F es (gI Y0T w) w) oW)(q0:∀w,oW=Y74->IL C H E "wrong" (.int (w:Nat)))(q1:oW=none->∀i,oC=Y73->IL C H E "worth" (gX ((rise F A).getD i [])))(q2:oW=none->oC=none->rO F W es (Y4W) (Y29) (Y1N)≠Y42-Y3h (Y79*Y39)->IL C H E "sum" .none)(q3:oW=none->oC=none->rO F W es (Y4W) (Y29) (Y1N)=Y42-Y3h (Y79*Y39)->∀H',Y0->Y1X):kM K C [t,av,th] H Q E:=by unfold kM;exact .inl ⟨t,av,th,F,W,A,fs,ws,bs,mix,cs,ps,val,Ns,Nm,Np,Nc,B,N,oC,es,M,Nk,oW,rfl,h0,h1,h2,h3,h4,h5,h6,h7,h8,h9,h10,h11,q0,q1,q2,q3⟩
def nV{K:Aa}{C:Addr}{H:Hp}{Q:VK}{E:XK}{t:V}{av:V}{th:V}{F:Nat}{W:Nat}{A:Nat}{fs:Ai}{ws:Y03}{bs:Al}{mix:Al}{cs:Al}{ps:Al}{val:Af->Fr}{Ns:Nat}{Nm:Nat}{Np:Nat}{Nc:Nat}{B:Nat}{N:Nat}{oC:Y5n}(h0:Y3c)(h1:Y2K A)(h2:Y0x (paN ps (Y2W A) val) th)(h3:BJ F W A fs ws bs ps val N)(h4:Yad A)(h5:EZ F W A (Y0T) mix ps (Yea (0,1)) val Ns Nm Np Nc B)(h6:IR (Y2W A).length (AZ W F A (Y0T) mix ps (Yea (0,1)) val) oC)(q0:∀i,oC=Y73->IL C H E "worth" (gX ((rise F A).getD i [])))(q1:oC=none->¬Y3h (Y79*Y39)<Y42->IL C H E "sum" .none)(q2:oC=none->Y3h (Y79*Y39)<Y42->∀H',Y0->Y1X):kM K C [t,av,th] H Q E:=by unfold kM;exact .inr ⟨t,av,th,F,W,A,fs,ws,bs,mix,cs,ps,val,Ns,Nm,Np,Nc,B,N,oC,rfl,h0,h1,h2,h3,h4,h5,h6,q0,q1,q2⟩
section
def aEY(F:Y9 "lets_paper" "lets_paper" aBc)(T:Yb)(FQ0:FnI P w K mg base 1 c.NoPaper a23 (YcG))(FQ46:Y0e 8 "has_shape" a28 mS)(FQ37:dP (BC P w) P w K mg base 9 "check_rule" a50 (yH c.NoPaper))(FQ38:dP (BC P w) P w K mg base 5 "check_worths" a42 (uY K c.NoPaper))(FQ41:Y0e 7 "cost" a49 yG)(FQ57:Y1B "less" a02 (iQ K))(FQ36:Y0e 4 "bounds_priced" a51 (oA K))(FQ75:Y06 "without_costs" ["aim"] (sT K))(FQ50:Y06 "is_less" a02 (iN K)):dI P w K mg base (BC P w) 10 f fd a22 (kM K c.NoPaper):=by
 refine F.okx aF6 (λvs H Q E h=>?_) (λcdv A κ s H vs Q E a h U hmd=>?_)
 ·unfold kM at h;rcases h with⟨t,av,th,F,W,β,fs,ζ,bs,x,η,m,val,Ns,Nm,Np,Nc,B,N,ω,es,M,Nk,oW,rfl,_⟩ | ⟨t,av,th,F,W,β,fs,ζ,bs,x,η,m,val,Ns,Nm,Np,Nc,B,N,ω,rfl,_⟩ <;> rfl
 ·unfold kM at h;rcases h with⟨t,av,th,F,W,β,fs,ζ,bs,x,η,m,val,Ns,Nm,Np,Nc,B,N,ω,es,M,Nk,oW,rfl,S,l,rh,I,V0,fC,R,od,m3,mA,AQ,fW,qw,qc,ρ,qn⟩ | ⟨t,av,th,F,W,β,fs,ζ,bs,x,η,m,val,Ns,Nm,Np,Nc,B,N,ω,rfl,S,l,rh,I,cl,V0,fC,qc,ρ,qn⟩
  ·obtain⟨n1,χ,n3⟩:=I.n3;have θ:F<=4:=by have:=I.f3;exact Oo
   obtain⟨p,xs,rfl,e,α⟩:=dW rh;unfold aH aH aH aH aH at α;obtain⟨ο,_,rfl,υ,x1,_,rfl,r1,x2,_,rfl,J,x3,_,rfl,O,rfl⟩:=α;cases(show ο=V.str "rule" from υ);have D:∀f∈m,Y01/\0<=f.1:=λf n=>⟨(I.pn f n).1.low,(I.pn f n).2⟩;have fl:=I.fl;refine⟨_,(aG (tS (fG (fO (nE FQ46 (Y2X) (Y3w 0 1 (Y7w 2 dR (Y1h aE))))) (aG (gS (tU FQ37 (Y2X) U (Y3w 0 1 (Y9A 2))))
   (aG (gS (tU FQ38 (Y2X) U (Y6p 0 (Y7w 1 Y16 (Y9A 2)))))
   (Y7X (eM (tX a.units) (iT FQ41 (aA 0) Y16 (aA 1)) (bO FQ57 (Y28 Yd5) (YbH FQ36 1))) (Y6W FQ0 rfl Y2X jF dR pF)))) (aK (fG (fO (nE FQ46 (Y2X) (Y3w 0 1 (Y7w 2 dR (Y1h aE))))) (aG (gS (tU FQ38 (Y2X) U (Y6p 0 (Y4r (Y3o FQ75 1) Y16 (Y9A 2)))))
   (Y7X (lE (fO (bO FQ50 (YbH FQ36 1) (Y28 Yd5)))) (Y6W FQ0 rfl Y2X jF dR pF))) (aK (Y6W FQ0 rfl Y2X jF dR pF))))))
   (Y0L jP)),?_⟩
   refine Y08 (λ_ H'=>Y1X) Y5W;refine Y1l;refine zP S l e rfl (by rw[fl];exact I.f1) (by rw[fl];exact θ) I.a5 rfl rfl rfl J (by rw[I.pl,I.T.w]) (by rw[I.pl];have:=I.w4;exact Oo) D (by rw[fl];exact O) (by rw[fl];exact λc hc=>(I.lw c hc).1) λH1 r=>Y4;refine lL (Yp);intro d_ n_;refine Y2J (Y3R (r _ _ e));refine yH.i (S.same r) (l.same r) (r1.same r) R od fl I.f1 I.f3 m3 I.w4 mA I.T I.bl I.bz fW (λw hw=>(qw w hw).same r) λeW H2 φ=>Y3t;intro d_ n_;have S2:=r.trans φ;refine Y2J (Y3R (S2 _ _ e));refine Yu (S2 _ _ e);refine uY.i (S.same S2) (wF.of (l.same S2)) (J.same S2) (O.same S2) V0 I.T.b fC (λi τ=>(qc eW i τ).same S2) λZ H3 ψ=>?_;have S3:=S2.trans ψ;refine Y27 (S3 _ _ e);refine Y4;refine yG.i (S.same S3) (r1.same S3) (l.same S3) R I.f1 θ Oo I.w4 I.T AQ λv4 H4 s4 r4=>?_;have S4:=S3.trans s4;obtain⟨aw,xw,b,u,z,rfl,L,C,μ,ν⟩:=FN I.f1 (O.same S4);refine Yu (S4 _ _ e);refine eX L C (Y3R μ);refine Y27 (S4 _ _ e);refine oA.i (l.same S4) (J.same S4) (by rw[I.pl,I.bl]) (by rw[I.bl];exact I.w4) I.n0 I.n1 (λf n=>(I.pn f n).1) I.bn λv5 g H5 X r5 G δ=>?_;rw[I.bl]at δ;have ξ:Yx∈Y2W β:=aF (oZ I.f1)
   obtain⟨j,y⟩:=I.lw _ ξ;refine iQ.i (gD.of (ν.same X)) (gD.of r5) j G.low y (mK G n3 χ (Y6d (show 4000<=2^12 by decide))) λq6 H6 hq6 e6 s6=>?_;have S6:=(S4.trans X).trans s6;have ι:cT (Y6o Y8t g):=pX j (oI G.low);have ev:rv (Y6o Y8t g)=Y42-Y3h (Y1O m*Y39):=by
    rw[oE j.pos (oI G.low).pos,show pQ g=(-g.1,g.2)from rfl,zY,δ,<-Rat.sub_eq_add_neg]
   refine Y6B (eA _) (eA _) ((r4.same X).same s6) (cO e6) rfl rfl;rw[UE];refine Y4;by_cases z:rO F W es (Y3n ζ) (cS x) (cS η)=Y42-Y3h (Y1O m*Y39)
   ·rw[bV (gL (Yr) ι (by rw[dA,ev,z]))];exact lD (qn eW Z z H6 S6)
   ·rw[cI λq=>z (by have:=congrArg rv q;rwa [dA,ev]at this)];exact lL (rzP ((ρ eW Z z).same S6) bI.non)
  ·obtain⟨n1,χ,n3⟩:=I.n3;have θ:F<=4:=by have:=I.f3;exact Oo
   obtain⟨p,xs,rfl,e,α⟩:=dW rh;unfold aH aH aH aH at α;obtain⟨ο,_,rfl,υ,x2,_,rfl,J,x3,_,rfl,O,rfl⟩:=α;cases(show ο=V.str "none" from υ);have D:∀f∈m,Y01/\0<=f.1:=λf n=>⟨(I.pn f n).1.low,(I.pn f n).2⟩;have fl:=I.fl;refine⟨_,(aG (tS (fG (fO (nE FQ46 (Y2X) (Y3w 0 1 (Y7w 2 dR (Y1h aE))))) (aG (gS (tU FQ37 (Y2X) U (Y6p 0 (Y2I 1 Y16))))
   (aG (gS (tU FQ38 (Y2X) U (Y3w 0 1 (Y2V Y16 Y16))))
   (Y7X (eM (tX a.units) (iT FQ41 (aA 0) Y16 (aA 1)) (bO FQ57 (Y28 Yd5) (YbH FQ36 1))) (Y6W FQ0 rfl Y2X jF dR pF)))) (aK (fG (fO (nE FQ46 (Y2X) (Y3w 0 1 (Y6p 2 (Y2V dR aE))))) (aG (gS (tU FQ38 (Y2X) U (Y6p 0 (Y4r (Y3o FQ75 1) Y16 (Y9A 2)))))
   (Y7X (lE (fO (bO FQ50 (YbH FQ36 1) (Y28 Yd5)))) (Y6W FQ0 rfl Y2X jF dR pF))) (aK (Y6W FQ0 rfl Y2X jF dR pF))))))
   (Y0L jP)),?_⟩
   refine Y08 (λ_ H'=>Y1X) Y5W;refine Y2J (GB e (show((3:Nat):Int)≠4 by decide) ?_);refine Y4T;refine Y1l;refine zP S l e rfl (by rw[fl];exact I.f1) (by rw[fl];exact θ) I.a5 rfl rfl rfl J (by rw[I.pl,I.T.w]) (by rw[I.pl];have:=I.w4;exact Oo) D (by rw[fl];exact O) (by rw[fl];exact λc hc=>(I.lw c hc).1) λH1 r=>Y4;refine lL (Yp);intro d_ n_;refine Y0g;refine sT.i (wF.of (l.same r)) (by rw[cl];have:=I.a5;exact Oo) λv2 H2 φ ε=>?_;have S2:=r.trans φ;rw[cl]at ε;refine Yu (S2 _ _ e);refine Yu (S2 _ _ e);refine uY.i (S.same S2) ε (J.same S2) (O.same S2) V0 I.T.b fC (λi τ=>(qc i τ).same S2) λZ H3 ψ=>?_;have S3:=S2.trans ψ;refine Y27 (S3 _ _ e);refine oA.i (l.same S3) (J.same S3) (by rw[I.pl,I.bl]) (by rw[I.bl];exact I.w4) I.n0 I.n1 (λf n=>(I.pn f n).1) I.bn λv5 g H5 X r5 G δ=>?_;rw[I.bl]at δ;have S5:=S3.trans X;obtain⟨aw,xw,b,u,z,rfl,L,C,μ,ν⟩:=FN I.f1 (O.same S5);refine Yu (S5 _ _ e);refine eX L C (Y3R μ);have ξ:Yx∈Y2W β:=aF (oZ I.f1);obtain⟨j,y⟩:=I.lw _ ξ;refine Yab r5 ν (mK G n3 χ (Y6d (show 4000<=2^12 by decide))) y ?_
   have γ:g.1*(Y8t).2<(Y8t).1*g.2↔Y3h (Y1O m*Y39)<Y42:=by rw[oB G.low.pos j.pos,δ]
   refine Y4;by_cases z:Y3h (Y1O m*Y39)<Y42
   ·rw[bV (γ.mpr z)];exact lD (qn Z z H5 S5)
   ·rw[cI λq=>z (γ.mp q)];exact lL (rzP ((ρ Z z).same S5) bI.non)
end
abbrev aBK:Stmt:=(top 87)
def VB:Ya ["_law_trial_here","_law_aim_here","_law_thing","_law_found","e"] a19 aBK:={}
def FS{X:Cx}{e:Expr}{g:Str}{pos:Pos}{ta:TE}(K:Aa)(he:Y4g e)(hK:X.K=K:=by rfl)(hb:YaW e g Y1y=Y1y:=by rfl):Yc (.Attribute e g pos) (aAc K ta g):=by subst hK;exact WJ he hb
def DO{K:Aa}{C:Addr}{vs:An}{H:Hp}{Q Q':VK}{E E':XK}(hq:∀v H',Y1a->Q' v H')(he:∀c o H',E c o H'->E' c o H')(h:kM K C vs H Q E):kM K C vs H Q' E':=by
 unfold kM at h;rcases h with⟨t,P,Z,F,W,G,fs,S,bs,j,A,O,val,J,γ,β,α,B,N,U,ζ,M,ε,η,rfl,u,g,p,I,V0,m,R,D,δ,L,AQ,X,T,l,n,qn⟩ | ⟨t,P,Z,F,W,G,fs,S,bs,j,A,O,val,J,γ,β,α,B,N,U,rfl,u,g,p,I,y,V0,m,l,n,qn⟩
 ·exact nU u g p I V0 m R D δ L AQ X (λw e H' x v s a r=>he _ _ _ (T w e H' x v s a r)) (λe i d H' x v s a r=>he _ _ _ (l e i d H' x v s a r)) (λe d z H' x v s a r=>he _ _ _ (n e d z H' x v s a r)) λe d z H' s=>hq _ _ (qn e d z H' s)
 ·exact nV u g p I y V0 m (λi d H' x v s a r=>he _ _ _ (l i d H' x v s a r)) (λd z H' x v s a r=>he _ _ _ (n d z H' x v s a r)) λd z H' s=>hq _ _ (qn d z H' s)
def TE(C:Addr)(H:Hp)(Q:VK):XK:=λcls od H'=>Y0/\∃x wd d v,cls=Yz/\od=Y8/\H' x=Yai x [("word",Y6j),("at",v)]/\Y2E d/\dQ d=true/\∀v2 H2,aX H' H2->bI H2 (Y7e Y6j d) v2->Q v2 H2
def TQ(H:Hp)(Q:VK):VK:=λv H'=>Y0/\Y1a
def uM{C:Addr}{H:Hp}{Q:VK}{wd:Str}{d:PyData}(h:∀v H',Y0->Y2E (Y7e Y6j d)->Y1a)(fd:dQ d=true):IL C H (TE C H Q) wd d:=λH' x v s e r=>⟨s,x,wd,d,v,rfl,rfl,e,r,fd,λg H2 c a=>h g H2 (s.trans c) a⟩
inductive jD (K:Aa) (C:Addr):Yh
 | i {H:Hp} {Q:VK} {E:XK} {t av th:V} (h:kM K C [t,av,th] H (TQ H Q) (TE C H Q)):jD K C [t,av,th] H Q E
section
def aFy(F:Y9 "_law_told" "_law_told" aBK)(T:Yb)(FQ58:dP (BC P w) P w K mg base 10 "lets_paper" a22 (kM K c.NoPaper)):dI P w K mg base cN 11 f fd a19 (jD K c.NoPaper):=by
 refine F.oky VB YfK;obtain @⟨H,Q,E,t,C,I,G⟩:=h;refine Yf;intro y A j s r _;refine⟨_,(aG (Y13 VB.nd pF)
  (aG (aAD (i:=4) rfl rfl rfl T.g_NoPaper T.c_NoPaper VB.nd rfl rfl (λ_ _ _ B=>(aK (Y13 VB.nd (tU FQ58 (r.mono Dd) B (Y3w 0 1 (Y2s 2)))))) (λ_=>(aK (Y13 VB.nd (Y2t (FS K (aA 4)) (FS K (aA 4)))))))
  (Y3v 3))),?_⟩
 refine Yp;intro O N;refine Y2n (λm cls l H'=>m=[some t,some C,some I,some .non,none]/\TE c.NoPaper H Q cls l H')
 ·refine Y2J (DO (λv H' q=>?_) (λJ l H' q=>Y1b q) G);exact Y6 q.2
 ·rintro m cls l H' ⟨rfl,L,x,R,d,v,rfl,rfl,a,rv,fd,q⟩;refine Y1L c.NoPaper T.sub_NoPaper (λb D=>?_);have g:(upd H' b (BB b c.NoPaper (some x))) b=some (BB b c.NoPaper (Y8)):=bK;have e:=aX.upd (o:=BB b c.NoPaper (Y8)) D;generalize upd H' b (BB b c.NoPaper (some x))=H1 at g e;have a:=e _ _ a;have p:=wR.cls T.ec_NoPaper;refine⟨_,rfl,b,c.NoPaper,x,_,_,rfl,g,a,p,(YdN).hd,YdZ (by simp),rfl,⟨_,rfl,b,c.NoPaper,x,_,_,rfl,g,a,p,(YdN).hd,YdZ (by simp),rfl,?_⟩⟩;refine jT (by show 2<=64;decide) λS H3 z u n=>Y6 (q _ H3 (e.trans n) ?_);exact Y9X u _ ((rv.same e).same n)
end
section
variable{F W M:Nat}{ss:Ak}{mix ps cs:Al}{Ns Nm Np Nc B:Nat}
abbrev JF(F W M:Nat)(ss:Ak)(mix ps cs:Al)(val:Af->Fr)(c:Af):Y3u:=LW W F M (gI ss) (Y29) (cS ps) (Y1N) (YbD d) c
def SE(I:jE F W M ss mix ps cs Ns Nm Np Nc B){c:Af}(hcl:Y2B)(hc:Y38 M){val:Af->Fr}(nv:Y1z->∀j,j<F->Y2o (Y0N*B) (Y5u c j)):∀q∈JF F W M ss mix ps cs val c,Qn (Y5O M Nm) (5*(Y0N*B)) q:=λq a=>by
 have i:1<=Y0N:=Ycm _ _;have l:B<=Y0N*B:=Yfb i;rcases bY.mp a with a | a
 ·exact(I.says hc q a).le Oo
 ·by_cases lt:Y1z
  ·rw[Yd9]at a;rw[aU.mp a];have g:=I.paid (c:=c) lt;have d:=Qn.sumR (n:=F) λj e=>(nv lt j e).q;refine(g.add d).le ?_;have m:F*(Y0N*B)<=4*(Y0N*B):=bT _ I.f4;obtain⟨n,h⟩:∃n,Y2H=n+1:=Y1j (Y2H-1);have p:8*B<=Y0N*B:=bT _ (by rw[h,Nat.pow_succ];have:1<=8^n:=Ycm _ _;exact Oo);exact Oo
  ·rw[if_neg lt]at a;cases a
def pO{c:Af}{v v':Af->Fr}(h:Y1z->∀j,j<F->v (bN c j)=v' (bN c j)):JF F W M ss mix ps cs v c=JF F W M ss mix ps cs v' c:=by
 unfold JF LW;by_cases lt:Y1z
 ·rw[Yd9,Yd9];congr 3;exact dF λj a=>by show rv (v _)=rv (v' _);rw[h lt j a]
 ·rw[if_neg lt,if_neg lt]
def SG{c:Af}{v v':Af->Fr}(h:Y1z->∀j,j<F->rv (v (bN c j))<=rv (v' (bN c j))):∀q' ∈ JF F W M ss mix ps cs v' c,∃q∈JF F W M ss mix ps cs v c,q<=q':=λq' a=>by
 rcases bY.mp a with a | a
 ·exact⟨q',cD _ a,Rat.le_refl⟩
 ·by_cases lt:Y1z
  ·rw[Yd9]at a;refine Y08 _ (bZ _ (by rw[Yd9];exact Ybq));rw[aU.mp a];have:=pN (n:=F) λj d=>h lt j d;grind
  ·rw[if_neg lt]at a;cases a
structure VL(F W M:Nat)(ss:Ak)(mix ps cs:Al)(N B:Nat)(S:Ab)(val:Af->Fr):Prop where
 le:∀d∈S,∀q∈JF F W M ss mix ps cs val d,rv (val d)<=q
 n:∀d∈S,Fn N (8^(M-d.sum+1)*B) (val d)
def vput(val:Af->Fr)(c:Af)(y:Fr):Af->Fr:=λd=>if d=c then y else val d
def jZ(val:Af->Fr)(c:Af)(y:Fr):vput val c y c=y:=Y12
def hU{val:Af->Fr}{c d:Af}{y:Fr}(h:d≠c):vput val c y d=val d:=Y7T
def sZ{c d:Af}(hl:d.length=F)(h:Y38 d.sum){j:Nat}(hj:j<F):bN d j≠c:=λe=>by
 have:=Y9D d j;rw[e]at this;exact Oo
def VL.put{N:Nat}{S:Ab}{val:Af->Fr}(h:VL F W M ss mix ps cs N B S val){c:Af}(hc:c ∉ S)(hl:∀d∈S,d.length=F/\Y38 d.sum)(hcl:Y2B){y:Fr}(hy:∀q∈JF F W M ss mix ps cs val c,rv y<=q)(ny:Fn N (8^(Y2H+1)*B) y):VL F W M ss mix ps cs N B (c::S) (Y6U c y) where
 le:=λd hd q a=>by
  rcases bD.mp hd with rfl | hd
  ·rw[YcE (λ_ j g=>hU (sZ hcl (Yn) g))]at a;rw[jZ];exact hy q a
  ·rw[YcE (λ_ j g=>hU (sZ (hl d hd).1 (hl d hd).2 g))]at a;rw[hU λe=>hc (by rw[<-e];exact hd)];exact h.le d hd q a
 n:=λd hd=>by
  rcases bD.mp hd with rfl | hd
  ·rw[jZ];exact ny
  ·rw[hU λe=>hc (by rw[<-e];exact hd)];exact h.n d hd
def VL.nv{N:Nat}{S:Ab}{val:Af->Fr}(h:VL F W M ss mix ps cs N B S val){c:Af}(hcl:Y2B)(hs:Y1z->∀j,j<F->bN c j∈S):Y1z->∀j,j<F->Fn N (Y0N*B) (Y5u c j):=λlt j a=>by
 have:=h.n _ (hs lt j a);rw[fA Oo,show M-(c.sum+1)+1=M-c.sum by exact Oo]at this;exact this
structure IQ(F W M:Nat)(ss:Ak)(mix ps cs:Al)(N B:Nat)(least:Fr)(val:Af->Fr):Prop where
 le:∀d∈rise F M,∀q∈JF F W M ss mix ps cs val d,rv (val d)<=q
 n:∀d∈rise F M,d≠Yx->Fn N (8^(M-d.sum+1)*B) (val d)
 first:Y8t=least
def yT(F:Nat):(Yx).sum=0:=by simp
def IQ.put{N:Nat}{least:Fr}{val:Af->Fr}(f1:1<=F)(h:VL F W M ss mix ps cs N B (Yy) val)(hl:rv least<=Y42):IQ F W M ss mix ps cs N B least (Y6U Yx least) where
 le:=λd hd q c=>by
  have a:=((eZ f1).mp hd).1;rw[YcE (λ_ j g=>hU (sZ a (by rw[yT];exact dH _) g))]at c;have:=h.le d hd q c;by_cases e:d=Yx
  ·subst e;rw[jZ];grind
  ·rw[hU e];exact this
 n:=λd hd i=>by rw[hU i];exact h.n d hd
 first:=jZ ..
def IQ.first'{N:Nat}{least l2:Fr}{val:Af->Fr}(f1:1<=F)(h:IQ F W M ss mix ps cs N B least val)(hl:rv l2<=rv least):IQ F W M ss mix ps cs N B l2 (Y6U Yx l2) where
 le:=λd hd q g=>by
  have a:=((eZ f1).mp hd).1;rw[YcE (λ_ j i=>hU (sZ a (by rw[yT];exact dH _) i))]at g;have:=h.le d hd q g;by_cases e:d=Yx
  ·subst e;rw[h.first]at this;rw[jZ];grind
  ·rw[hU e];exact this
 n:=λd hd c=>by rw[hU c];exact h.n d hd c
 first:=jZ ..
def IQ.nv{N:Nat}{least:Fr}{val:Af->Fr}(f1:1<=F)(h:IQ F W M ss mix ps cs N B least val){c:Af}(hc:Y5H c):Y1z->∀j,j<F->Fn N (Y0N*B) (Y5u c j):=λlt j d=>by
 have a:=((eZ f1).mp hc).1;have bs:=Y9D c j;have:=h.n (bN c j) ((eZ f1).mpr (Y1j (by rw[jW];exact a))) (sZ a (by rw[yT];exact dH _) d);rw[bs,show M-(c.sum+1)+1=M-c.sum by exact Oo]at this;exact this
def IQ.fst{N:Nat}{least:Fr}{val:Af->Fr}(h:IQ F W M ss mix ps cs N B least val):IR (Yy).length (AZ W F M ss mix ps cs val) none:=⟨λi e=>(by cases e),λ_ j c d=>by
 obtain⟨q,g,lt⟩:=d;have a:Y5H ((rise F M).getD j []):=eV c;have:=h.le _ a q g;grind⟩
def IQ.raised{N:Nat}{least y m:Fr}{val:Af->Fr}(f1:1<=F)(nd:(Yy).Nodup)(h:IQ F W M ss mix ps cs N B least val){i:Nat}{c:Af}(hi:(Yy)[i]?=Y09)(hm:rv m∈JF F W M ss mix ps cs val c)(hy:rv m<rv y):IR (Yy).length (AZ W F M ss mix ps cs (Y6U c y)) (Y73):=by
 have g:=(aO.mp hi).1;have d:=aF hi;have l:=((eZ f1).mp d).1;refine⟨λk e=>?_,λe=>(by cases e)⟩;cases e;refine⟨g,?_,λj r=>?_⟩
 ·show ZJ ..;rw[kO hi];refine⟨rv m,?_,by rw[jZ];exact hy⟩;show rv m∈JF ..;rw[YcE (λ_ j r=>hU (sZ l (Yn) r))];exact hm
 ·rintro⟨u,p,lt⟩;have a:j<(Yy).length:=Oo;have n:Y5H ((rise F M).getD j []):=eV a;have ne:(rise F M).getD j []≠c:=λe=>by
   have s:(Yy)[j]?=Y09:=by rw[<-e,bH,aD a];rfl
   have:=(List.getElem?_inj a nd).mp (s.trans hi.symm);exact Oo
  rw[hU ne]at lt;have x:rv (val c)<=rv m:=h.le c d _ hm;obtain⟨q,w,le⟩:=SG (v:=val) (λ_ k z=>by
   by_cases e:bN ((rise F M).getD j []) k=c
   ·rw[e,jZ];grind
   ·rw[hU e];exact Rat.le_refl) u p
  have:=h.le _ n q w;grind
end
abbrev aBJ:Stmt:=(top 88)
def KG:Ya ["_law_feed_here","_law_trial_here","_law_aim_here","_law_prices","_law_least","_law_counts_here","_law_known","_law_one","_law_some_here","_law_more_here"] a05 aBJ:={}
def XB{F M:Nat}(f3:F<=3)(m3:M<=3){k:Nat}{c:Af}{S:Ab}(h:(rise F M).drop k=c::S):∀d∈S,Y38 d.sum:=λd hd=>by
 have g:=(List.pairwise_map.mp (MC F f3 M m3)).sublist (Yfz k);rw[h]at g;have a:=(List.pairwise_cons.mp g).1 d hd;have a:lQ ((c.sum:Int)::ci c) ((d.sum:Int)::ci d)=true:=a;rw[vN]at a;by_cases e:(c.sum:Int)=(d.sum:Int)
 ·exact Oo
 ·rw[Y6a]at a;have:=of_decide_eq_true a;exact Oo
def sixty{N:Nat}(h:60 ∣ N){k:Int}(h0:0<=k)(h9:k<9):Fn N 1 (lw k 60)/\0<=rv (lw k 60):=by
 have a:=Yds k 60 1 Oo;refine Y0b (a.dvd h);rw[vH Dd];have:(0:Rat)<=(k:Rat):=by exact_mod_cast h0
 rw[Rat.div_def];exact fU this Kk
theorem VL.wor{F W M:Nat}{ss:Ak}{mix ps cs:Al}{Ns Nm Np Nc B:Nat}(I:jE F W M ss mix ps cs Ns Nm Np Nc B)(f1:1<=F):VL F W M ss mix ps cs (Y5O M Nm) B (Yy) (OH F W M ss mix ps cs) where
 le:=λd hd q c=>by
  have a:=(eZ f1).mp hd;show rv (gM (Mf.wor F W M ss mix ps cs d))<=q;rw[dA];unfold Mf.wor;rw[FM];have c:q∈LW W F M (gI ss) (Y29) (cS ps) (Y1N) (λd=>rv (OH F W M ss mix ps cs d)) d:=c;rw[LV a.1]at c;exact EB c
 n:=λd hd=>by
  have a:=(eZ f1).mp hd;exact(I.worn (M-d.sum) d a.1 Oo).fq
def TwI(H Hn:Hp)(p L R D:Addr)(n i:Nat)(vs:An)(F W M:Nat)(ss:Ak)(mix ps cs:Al)(N B:Nat):Prop:=∃(kvs:Yw) (val:Af->Fr),dJ Hn p L (n+2*(vs.length-i))/\aT p H Hn/\Hn R=Y05 vs/\aH Hn ((rise F M).map gX) vs/\Hn D=Y1I/\DW Hn kvs ((rise F M).drop (vs.length-i)) val/\VL F W M ss mix ps cs N B ((rise F M).drop (vs.length-i)) val
def JK:∀F,F<=3->∀M,M<=3->(Yy).length<=20:=Kk
inductive wK:Yh
 | i {H:Hp} {Q:VK} {E:XK} {p L:Addr} {n:Nat} {tv av pv lv:V} {fs:Ai} {ws:Y03} {bs mix ps cs:Al} {F W M Ns Nm Np Nc B:Nat} {least:Fr} (h0:Y20 (n+40)) (h1:Y40 tv) (h2:Y5q F) (h3:Y2K M) (h4:Y14 ps pv) (h5:Y1A least lv) (h6:jE F W M (Y0T) mix ps cs Ns Nm Np Nc B) (h7:0<Ns) (h8:2<=F) (h9:F<=3) (h10:M<=3) (h11:1<=B) (h12:60 ∣ Y5O M Nm) (h13:cT least) (h14:Y1q least) (h15:rv least<=wor F W M (Y0T) mix ps cs (Yx)) (q0:∀v val H',Y3d->Y0l->Y2E (Y7Y Yy)->IQ F W M (Y0T) mix ps cs (Y5O M Nm) B least val->Y1a):wK [Y0y,tv,av,pv,lv] H Q E
section
def aFx(F:Y9 "_law_told_worths" "_law_told_worths" aBJ)(T:Yb)(FQ5:Y7i "_law_draw")(FQ8:Y8b "_law_frac" eQ)(FQ9:Y8c "_law_less" (iQ K))(FQ4:Y2Z "_law_counts" a41 mB)(FQ20:Y0e 4 "_law_sums" a03 mT)(FQ2:Y06 "_law_below" a00 (iN K))(FQ27:Y0e 5 "_law_worths" a29 qM):dI P w K mg base cN 6 f fd a05 wK:=by
 refine F.oky KG λa H Q E h=>?_;obtain @⟨H,Q,E,p,L,n,tv,av,pv,lv,fs,ws,bs,ξ,ps,cs,F,W,M,Ns,Nm,Np,Nc,B,r,F0,rt,hF,ra,rp,rl,I,hNs,f2,f3,m3,b1,n60,ll,lz,lle,k⟩:=h;refine Yf;intro cdv A outer s hr _;have f1:=I.f1;have f4:=I.f4;have m5:=I.m5;obtain⟨aa,xb,xm,xc,rfl,haa,rxb,rxm,rxc⟩:=mH ra;obtain⟨at_,af,aw,xf,xw,rfl,hat,hf,hw,rf,rw'⟩:=tJ rt;have small:(Yy).length<=20:=JK F f3 M m3;have nd:=oY F f4 M m5;refine⟨_,(aG (Y62 KG.nd (bO FQ4 (Y6O gO (by rfl) Kk 1) (Y16)))
  (aG (Y5D 6 KG.nd sA)
  (aG (eO PassesOwn.never rfl (QZ rfl T.b_reversed (Y2s 5)) (Y5R 7 KG.nd) (aG (bX (i:=8) KG.nd (Y9W FQ20 Dd (Y6p 1 (Y3w 2 3 (Y2I 6 (aA 7))))))
  (aG (jI hr.u1 (aA 6) (aA 7) (Y2g 8))
  (aG (Y33 (Y30 8) 9 KG.nd (Y92 (fO (Y0O FQ2 9 (Y80 6 7))) (jI hr.u1 (aA 6) (aA 7) (aA 9))))
  (Y7X (uJ (yU (eM sG (eP (sY K rfl) (by rfl) T.b_sum Kk (Y2s 7)) aE) (uI (eM tO (Y5s 0) aE)))) (jI hr.u1 (aA 6) (aA 7) (bO FQ9 (Y80 6 7) (bO FQ8 (Y5s 0) aE))))))))
  (aG (tS (Y92 (fO (bO FQ2 (iC hr.u1 (aA 6) (Y2g 5)) (aA 4))) (Y5D 6 KG.nd (Y3y FQ27 1 2 3))))
  (aG (jI hr.u1 (aA 6) (Y2g 5) (aA 4))
  (Y0L (Y6i dN (by rfl) Kk ["_law_one","_law_known"] [6] (Y30 5) (Y2t (aA 0) (Y80 1 0))))))))),?_⟩
 refine Yp;intro τ n_;refine Yu hat;refine Y3J hf;rw[cC rf,hF];refine Yu haa;refine mB.i f2 f4 m5 λR H1 s1 hR LR=>Yg;intro τ n_;obtain⟨a,eR,rR,lR⟩:=LR.len;intro D hD;refine Yg;intro τ n_;have s2:=Y9E [] hD;have e2:(upd H1 D (.dT [])) D=Y0P []:=bK;generalize upd H1 D (.dT [])=H2 at s2 e2;have S2:=s1.trans s2;have α:R≠D:=λz=>by rw[<-z,eR]at hD;cases hD
 have O:=s1.free hD;have U:D≠p:=F0.ne O;have ε:D≠L:=F0.neL O;have nRp:R≠p:=F0.ne hR;refine⟨_,rfl,R,a,rfl,gW.of (s2 _ _ eR),NG (xs:=a) (λi σ H'=>∃o7 o8 o9:Ao,σ=[Y1f,Y48,Y5A,Y9a,some lv,Y2 R,Y2 D,o7,o8,o9]/\TwI H H' p L R D n i a F W M (Y0T) ξ ps cs (Y5O M Nm) B) ⟨_,_,_,rfl,[],λ_=>r,(F0.same S2).less Oo,S2.but,s2 _ _ eR,rR.same s2,e2,?_,?_⟩ (YdQ) ?_ ?_⟩
 ·rw[Nat.sub_zero,lR,List.drop_length];exact⟨λc ζ=>(by cases ζ),by simp⟩
 ·rw[Nat.sub_zero,lR,List.drop_length];exact⟨λc ζ=>(by cases ζ),λc ζ=>(by cases ζ)⟩
 ·obtain⟨_,_,_,_,_,_,_,_,h,_⟩:=q;exact Y9b
 ·rintro i x σ H3 hi hx ⟨o7,o8,o9,rfl,J,val,F3,b3,β,γ,e3,D3,W3⟩;refine Y69;intro τ n_;obtain⟨c,ζ,rc⟩:=cR γ hx;have C:=(eZ f1).mp (aF ζ);have dl:=D3.len;rw[List.length_drop]at dl;have hd:(rise F M).drop (Y2k (i+1))=c::(rise F M).drop (Y2k i):=by
   obtain⟨hc1,hc2⟩:=aO.mp ζ;rw[show a.length-(i+1)=a.length-1-i by exact Oo,List.drop_eq_getElem_cons hc1,hc2,show a.length-1-i+1=a.length-i by exact Oo]
  have hcS:c ∉ (rise F M).drop (Y2k i):=λq=>by
   have φ:((rise F M).drop (Y2k (i+1))).Nodup:=List.Sublist.nodup (Yfz _) nd;rw[hd,List.nodup_cons]at φ;exact φ.1 q
  have hle:=XB f3 m3 hd;have hS:∀d∈(rise F M).drop (a.length-i),d.length=F/\Y38 d.sum:=λd Z=>⟨((eZ f1).mp (List.mem_of_mem_drop Z)).1,hle d Z⟩;have χ:Y1z->∀j,j<F->bN c j∈(rise F M).drop (Y2k i):=λhlt j hj=>by
   have bs:=Y9D c j;have χ:Y5H (bN c j):=(eZ f1).mpr (Y1j (by rw[jW];exact C.1));have:=xI ζ χ Oo
   rwa [show a.length-1-i+1=a.length-i by exact Oo]at this
  have NV:=W3.nv C.1 χ;have t3:=F0.t b3;have rt3:=rt.flat t3 (gE _ _);have ra3:=ra.flat t3 (iB _ _ _ _);have rp3:=rp.flat t3 (dM _);refine⟨_,rfl,_,rfl,_,rfl,_,rfl,_,rfl,?_⟩;refine mT.i rt3 ra3 rp3 rc e3 I hNs C.1 C.2 (val:=val) NV (λhlt j hj=>D3.yes _ (χ hlt j hj)) λG xs gs H4 η hG e4 r4 ι=>Yg;intro τ n_;have lg:∀g∈gs,cT g/\Y1q g:=λg κ=>⟨(ι.n g κ).low,Y3D I (ι.n g κ) (Yc2 Dd) pD⟩;obtain⟨g0,hg0⟩:∃g,gs[0]?=Y5y:=Y1i ι.l0;obtain⟨v0,hv0,rv0⟩:=gB r4 hg0;refine Y6 (IP e4 (Y8A hv0) ?_);obtain⟨ac,rfl,hac⟩:=fS (rc.same η);refine Y0g;have e4p:=η _ _ e3;refine Y5Y e4p (ci c) (by rw[eT];exact hac) (λH5 e5 ο=>Y3t);intro τ n_;have t5:=aT.tT ο e4p;have nGD:G≠D:=λz=>by rw[z,e3]at hG;cases hG
  have F5:=(F3.same η).but ο U ε;have S5:aT p H H5:=aT.thru O (b3.trans η.but) ο;have N:H5 ac=YeT FJ:=t5 _ _ hac;have lxs:Y2v gs.length:=by rw[cC r4]
  refine Y31 G (ο.at nGD e4) ?_;have put:∀{Ha:Hp} {m:Yw} {v:V},(∀d∈(rise F M).drop (a.length-i),∃v,Y2i m d=Yi/\Y2G Ha (val d) v)->∀d∈(rise F M).drop (a.length-i),∃u,Y2i (jL m (Y25 c) v) d=Yv/\Y2G Ha (val d) u:=λh d hd=>by
   rw[mQ,Y7I (hcS (by rw[<-mG (qZ q)];exact hd))];exact h d hd
  have self:∀{m:Yw} {v:V},Y2i (jL m (Y25 c) v) c=Yi:=by
   intro m v;rw[mQ,Y12]
  have keep:∀{Ha Hb:Hp} {m:Yw},dG Ha Hb->(∀d∈(rise F M).drop (a.length-i),∃v,Y2i m d=Yi/\Y2G Ha (val d) v)->∀d∈(rise F M).drop (a.length-i),∃v,Y2i m d=Yi/\Y2G Hb (val d) v:=λt h d hd=>by
   obtain⟨v,φ,ρ⟩:=h d hd;exact Y5M φ (ρ.flat t (Y0X))
  have len1:=iV J (Y25 c) v0;have leng:∀{m:Yw} {v x:V},Y2i m c=Yi->m.length<=((rise F M).drop (Y2k i)).length+1->(jL m (Y25 c) x).length<=((rise F M).drop (Y2k i)).length+1:=λ{m v x} h l=>by
   have:(jL m (kT (ci c)) x).map (·.1)=m.map (·.1):=pI (by rw[h];rfl);have ρ:=Y4t this;rw[aB,aB]at ρ;rw[ρ];exact l
  have l20:((rise F M).drop (Y2k i)).length+1<=30:=by rw[List.length_drop];exact Oo
  refine jU (xs:=xs) (Ycq (λ(o9:Ao) (m:List (List fK × V)) (v:V) (y:Fr)=>An9 (σ=[Y1f,Y48,Y5A,Y9a,some lv,Y2 R,Y2 D,Y2 ac,Y2 G,o9]) (Y5U D H5) (Y0p=Y0P m) (m.length<=((rise F M).drop (Y2k i)).length+1) ((∀d∈(rise F M).drop (a.length-i),∃v,Y2i m d=Yi/\Y4o (val d))) (Y2i m c=Yi) (Y4o y) (y∈gs) (∀g∈gs.take j,rv y<=rv g)))
   ⟨_,_,v0,g0,rfl,(Y07).but,e5,by rw[List.length_drop];exact Oo,Ydf (η.t.trans t5) D3.yes,self,rv0.flat t5 (Y0X),aF hg0,λg κ=>by rw[List.take_zero]at κ;cases κ⟩ (Y8v) ?_ ?_
  ·obtain⟨_,_,_,_,_,b',_⟩:=q;exact Ybg nGD (ο.at nGD e4)
  ·rintro j x2 σ H6 hx2 ⟨o9',m,v,y,rfl,b6,e6,l6,d6,S,ν,X,θ⟩;refine Y2z;intro τ;obtain⟨g,κ,rg⟩:=cR r4 hx2;have t6:dG H5 H6:=aT.tT b6 e5;have hgm:=aF κ;have hac6:H6 ac=YeT FJ:=t6 _ _ N;have rg6:Y2G H6 g x2:=rg.flat (t5.trans t6) (Y0X);refine Y2J (Y61 e6 c (by rw[eT];exact hac6) S ?_);refine Yab rg6 ν ((lg g hgm).2) ((lg y X).2) Y4;have lts:=oB (lg g hgm).1.pos (lg y X).1.pos;refine pR (Y8X) (Y8X)
   ·have lt':=lts.mp lt;refine Y3G;intro τ;refine Y1l;refine Y5Y e6 (ci c) (by rw[eT];exact hac6) (λH7 ω b7=>?_);have t7:=aT.tT b7 e6;refine⟨_,_,x2,g,rfl,b6.trans b7,ω,leng S l6,Ydf t7 d6,self,rg6.flat t7 (Y0X),hgm,λz δ=>?_⟩;rw[dS κ]at δ;rcases bY.mp δ with δ | δ
    ·have:=θ z δ;grind
    ·rw[aU.mp δ];exact Rat.le_refl
   ·refine⟨_,m,v,y,rfl,b6,e6,l6,d6,S,ν,X,λz δ=>?_⟩;rw[dS κ]at δ;rcases bY.mp δ with δ | δ
    ·exact θ z δ
    ·rw[aU.mp δ];exact Ye6 (lt (lts.mpr q))
  ·rintro σ H6 ⟨o9',m,v,y,rfl,b6,e6,l6,d6,S,ν,X,θ⟩;have t6:dG H5 H6:=aT.tT b6 e5;rw[lxs,cM]at θ;have hyq:∀q∈JF F W M (eE ws) ξ ps cs val c,rv y<=q:=λq hq=>by
    have hq:q∈gs.map rv:=by rw[ι.v];exact hq
    obtain⟨g,κ,rfl⟩:=aQ.mp hq;exact θ g κ
   have yin:rv y∈JF F W M (Y0T) ξ ps cs val c:=by
    have:rv y∈gs.map rv:=Y3q y X;rw[ι.v]at this;exact this
   have ly:=(lg y X).1;have zy:=(lg y X).2;have yn:Y2o (5*(Y0N*B)) y:=⟨ly,SE I C.1 C.2 NV _ yin⟩;have p8:8^(Y2H+1)*B=8*(Y0N*B):=by rw[Nat.pow_succ,Yep (8^_),Nat.mul_assoc]
   have p1:1<=Y0N*B:=kR (Ycm _ _) b1;have S6:aT p H H6:=aT.thru O S5 b6;have F6:=F5.but b6 U ε;have eR6:=b6.at α (ο.at α (η _ _ β));have rR6:aH H6 ((rise F M).map gX) a:=Y7E (t5.trans t6) _ (γ.same η);have fin:∀(H7:Hp) (m:Yw) (v:V) (y':Fr),dJ H7 p L (n+2*(Y2k (i+1)))->aT p H H7->H7 R=Y05 a->aH H7 ((rise F M).map gX) a->H7 D=Y0P m->m.length<=((rise F M).drop (Y2k i)).length+1->(∀d∈(rise F M).drop (a.length-i),∃v,Y2i m d=Yi/\Y2G H7 (val d) v)->Y2i m c=Yi->Y2G H7 y' v->rv y'<=rv y->Y2o (8^(Y2H+1)*B) y'->TwI H H7 p L R D n (i+1) a F W M (Y0T) ξ ps cs (Y5O M Nm) B:=λH7 m v y' F7 b7 ab ψ ω l7 d7 v7 r7 le7 n7=>by
    refine⟨m,Y6U c y',F7,b7,ab,ψ,ω,?_,?_⟩
    ·rw[hd];refine⟨λd Z=>?_,by rw[cE];exact l7⟩;rcases bD.mp Z with rfl | Z
     ·rw[jZ];exact Y5M v7 r7
     ·rw[hU λe=>hcS (by rw[<-e];exact Z)];exact d7 d Z
    ·rw[hd];exact W3.put hcS hS C.1 (λq hq=>by have:=hyq q hq;grind) n7
   refine Y6 (Ybj (ci c) (by rw[eT];exact fY.of (t6 _ _ N)));rw[wY];have rc6:Y5g H6 (gX c) ac:=oO (t6 _ _ N);refine Y2Q Y96
   ·refine Y4;refine Y1Y (n+2*(Y2k (i+1))+1) (F6.less Oo) (λk1 H7 k0 k3 F7 b7=>Yf);have t7:=F6.t b7;have S7:=S6.trans b7;have ω:=b7.at U e6;have d7:=keep t7 d6;have ry7:=ν.flat t7 (Y0X);have ab:=b7.at nRp eR6;have ψ:=Y7E t7 _ rR6;refine Y6 (pR (Y5t) (Y5t))
    ·refine Yt (Y61 ω c (by rw[eT];exact t7 _ _ (t6 _ _ N)) S ?_);refine Y4;refine Y1Y (n+2*(Y2k (i+1))) F7 (λk2 H8 k20 k29 F8 b8=>?_);have t8:=F7.t b8;refine eQ.i Dd (Y1v (show 60<2^6 by decide)) λq9 H9 hq9 e9 s9=>?_;obtain⟨n9,nn9⟩:=sixty n60 k20 k29;refine iQ.i (gD.of ((ry7.flat t8 (cF _)).same s9)) (Ya5 e9) ly n9.low zy (Y3D I n9 Dd sN) λq10 H10 hq10 e10 μ=>?_;have S10:=((S7.trans b8).trans s9.but).trans μ.but;have t10:=(t8.trans s9.t).trans μ.t;have e10p:=μ _ _ (s9 _ _ (b8.at U ω));refine Y0g;refine Y5Y e10p (ci c) (by rw[eT];exact t10 _ _ (t7 _ _ (t6 _ _ N))) (λH11 e11 υ=>?_);have t11:=aT.tT υ e10p;have n10:=yn.add n9.neg;refine Y2l _ _ (fin H11 _ _ (Y6o y (lw k2 60)) (((F8.same s9).same μ).but υ U ε) (aT.thru O S10 υ) (υ.at α (μ _ _ (s9 _ _ (b8.at nRp ab)))) (Y7E (t10.trans t11) _ ψ) e11 (leng S l6) (Ydf (t10.trans t11) d7) self (cO (t11 _ _ e10)) ?_ (n10.le Oo));rw[oE ly.pos (oI n9.low).pos,show pQ (lw k2 60)=(-(lw k2 60).1,(lw k2 60).2)from rfl,zY];grind
    ·exact Y2l _ _ (fin H7 m v y (F7.less Oo) S7 ab ψ ω l6 d7 S ry7 Rat.le_refl (yn.le Oo))
   ·exact Y2l _ _ (fin H6 m v y (F6.less Oo) S6 eR6 rR6 e6 l6 d6 S ν Rat.le_refl (yn.le Oo))
 ·rintro σ H3 ⟨o7,o8,o9,rfl,J,val,F3,b3,β,γ,e3,D3,W3⟩;refine Y3t;intro τ n_;rw[Nat.sub_self,List.drop_zero]at D3 W3;have F3:=F3.less (show n<=n+2*(a.length-a.length)by exact Oo);have z0:Y5H Yx:=aF (oZ f1);obtain⟨x0,hx0,rx0⟩:=aH.atX γ (oZ f1);refine Y2n (λσ H'=>∃(o7 o8 o9:Ao) (D:Addr) (J:Yw) (val:Af->Fr),σ=[Y1f,Y48,Y5A,Y9a,some lv,Y2 R,Y2 D,o7,o8,o9]/\Y3d/\Y0l/\H' R=Y05 a/\Y1m ((rise F M).map gX) a/\Y0p=Y0P J/\DW H' J (Yy) val/\VL F W M (Y0T) ξ ps cs (Y5O M Nm) B (Yy) val/\rv r<=Y42/\D≠p/\D≠L/\R≠D/\H D=none)
  ·rintro σ H4 ⟨o7,o8,o9,D,J,val,rfl,F4,b4,eR4,rR4,e4,D4,W4,le4,U,ε,α,O⟩;refine Y3t;intro τ n_;obtain⟨x0,hx0,rx0⟩:=aH.atX rR4 (oZ f1);obtain⟨a0,rfl,ha0⟩:=fS rx0;have dl:=D4.len;have t4:=F0.t b4;refine Y2J (IP eR4 (Y8A hx0) ?_);refine Y5Y e4 (ci (Yx)) (by rw[eT];exact ha0) (λH5 e5 ο=>?_);have t5:=aT.tT ο e4;have D5:=D4.t t5;have eR5:=ο.at α eR4;have rR5:aH H5 ((rise F M).map gX) a:=Y7E t5 _ rR4;refine Y31 R eR5 (lB (λi y H'=>∃c,(Yy)[i]?=Y09/\bI H' (YX (c,vput val (Yx) r c)) y) (λi y Ha Hb s ⟨c,φ,ρ⟩=>⟨c,φ,ρ.flat s (HW _)⟩) Oo eR5 (λi x H' Q' hx s' k'=>?_) (λD6 ys H6 hD6 e6 s6 hy hr6=>?_))
   ·obtain⟨c,ζ,rc⟩:=cR (rR5.same s') hx;obtain⟨b,rfl,hb⟩:=fS rc;have C:=aF ζ;obtain⟨v,hv,rv_⟩:∃v,Y2i (jL J (Ya7) lv) c=Yi/\Y2G H5 (vput val (Yx) r c) v:=by
     rw[mQ];by_cases e:c=Yx
     ·subst e;rw[Y12,jZ];exact Y6 (rl.flat (t4.trans t5) (Y0X))
     ·rw[Y7I (e (mG (qZ q))),hU e];exact D5.yes c C
    refine Y2J (Y61 (s' _ _ e5) c (by rw[eT];exact hb) hv ?_);exact jT (by show 2<=64;decide) λq7 H7 hq7 ω s7=>k' _ H7 s7 ⟨c,ζ,Y7n ω (rc.same s7) ((rv_.same s').same s7)⟩
   ·refine Y4X D6 ys e6 Ybk;have sl:=Y3m ys hl;have el:(upd H6 l (.tup ys)) l=Y6r:=bK;generalize upd H6 l (.tup ys)=H7 at sl el;refine k _ (Y6U Yx r) H7 (((F4.but ο U ε).same s6).same sl) (((aT.thru O b4 ο).trans s6.but).trans sl.but) ?_ (IQ.put f1 W4 le4);refine Yag el;rw[rY];refine aH.ofIdx (by rw[aB,aB];exact Oo) λi y hi=>?_;obtain⟨c,φ,ρ⟩:=hr6 i y hi;exact Y1x (by rw[aR,aR,φ];rfl) (ρ.same sl)
  ·obtain⟨v0,hv0,rv0⟩:=D3.yes _ z0;refine Y3G;intro τ;obtain⟨a0,rfl,ha0⟩:=fS rx0;have n0:=W3.n _ z0;have zn:Y1q Y8t:=fN I n0 (by
    have φ:=I.b;have ρ:8^(M-(Yx).sum+1)<=8^6:=Y5k Oo;have h3:=bT B ρ;have h4:8^6*B=262144*B:=rfl;exact aP Oo pD)
   have t3:=F0.t b3;refine Yt (IP β (Y8A hx0) ?_);refine Y61 e3 Yx (by rw[eT];exact ha0) hv0 (Y6 (Yab rv0 (rl.flat t3 (Y0X)) zn lz ?_));have lts:=oB n0.low.pos ll.pos;refine Y6 (pR (Y8X) (Y8X))
   ·refine Y1l;refine qM.i (rt.flat t3 (gE _ _)) hF (ra.flat t3 (iB _ _ _ _)) (rp.flat t3 (dM _)) I hNs f2 λq m H4 η hq e4 D4=>?_;have hq0:H q=none:=b3.free F3.there hq;exact⟨_,_,_,q,m,_,rfl,F3.same η,b3.trans η.but,η _ _ β,γ.same η,e4,D4,VL.wor I f1,by show _<=rv (gM _);rw[dA];exact lle,F0.ne hq0,F0.neL hq0,(λz=>by rw[<-z,β]at hq;cases hq),hq0⟩
   ·exact⟨_,_,_,D,J,val,rfl,F3,b3,β,γ,e3,D3,W3,Ye6 (lt (lts.mpr q)),U,ε,α,O⟩
end
abbrev aBS:Stmt:=(top 89)
def IC:Ya ["_law_feed_here","_law_trial_here","_law_aim_here","_law_thing","_law_told_here","_law_at","_law_some_here","_law_worth","_law_one"] a06 aBS:={}
abbrev sQ7:Stmt:=(top 90)
def cQ7:Ya ["_law_thing","_law_worth","_law_told_here"] a39 sQ7:={}
def QB(xs:An):nI xs none (some (-1))=xs.take (Y4F 1):=by
 unfold nI;rw[HT.vG,List.drop_zero,Nat.sub_zero];congr 1;show(if(-1:Int)<0 then(-1+(xs.length:Int)).toNat else min (-1:Int).toNat xs.length)=_;rw[Ybt];exact Oo
def GF{K:Aa}{H:Hp}{a:Addr}{xs:An}{Q:VK}(h:H a=Y0k)(q:∀c H',Y0->H' c=Ym (xs.take (Y4F 1))->Y0i c):BH K (Y3) none (some (-1)) H Q:=by
 unfold BH;exact Y1d a xs h (λc H' s e=>q c H' s (by rw[e,QB]))
theorem zZ{H:Hp}{A B:PyData}:∀{pre:Y0D}{xs:An},YaF (pre++[A,B])->∃ys u v,xs=ys++[u,v]/\Y18 pre ys/\Y0x A u/\Y0x B v
 | [],xs,r=>by
  obtain⟨u,v,rfl,h1,h2⟩:=gH r;exact⟨[],u,v,rfl,aH.nil,h1,h2⟩
 | d::pre,xs,r=>by
  have r:aH H (d::(pre++[A,B])) xs:=r;unfold aH at r;obtain⟨x,xs,rfl,c,r⟩:=r;obtain⟨ys,u,v,rfl,h1,h2,a⟩:=zZ r;exact⟨x::ys,u,v,rfl,aH.cons c h1,h2,a⟩
def VG{ys:An}{u v:V}:uE (ys++[u,v]) (-2)=Yv/\uE (ys++[u,v]) (-1)=Yi:=by
 constructor
 ·unfold uE PJ;rw[Y7M,if_pos (by rw[bF];show -((ys.length+2:Nat):Int)<=-2;exact Oo)];show(ys++[u,v])[((-2:Int)+((ys++[u,v]).length:Nat)).toNat]?=Yv;rw[show((-2:Int)+((ys++[u,v]).length:Nat)).toNat=ys.length by rw[bF];show((-2:Int)+((ys.length+2:Nat):Int)).toNat=_;exact Oo];simp
 ·have:=VH (ys++[u]) v
  rwa [List.append_assoc]at this
def FW{ys:An}{u v:V}:(ys++[u,v]).take ((ys++[u,v]).length-1)=ys++[u]:=by
 rw[show ys++[u,v]=(ys++[u])++[v]by rw[List.append_assoc];rfl,bF,List.length_singleton,Nat.add_sub_cancel,List.take_left]
def QY{H H':Hp}(s:Y0){rs:Ab}(nd:rs.Nodup){val:Af->Fr}{xs:An}(r:YaF (rs.map (Y6z [gX c,Y59]))){i:Nat}{c:Af}{y:Fr}{q:V}(hi:rs[i]?=Y09)(rq:bI H' (YX (c,y)) q):Y1m (rs.map λd=>PyData.tuple [gX d,eA (vput val c y d)]) (xs.set i q):=by
 have l:Y2v rs.length:=cC r;refine aH.ofIdx (by rw[List.length_set,aB,l]) λj z a=>?_;by_cases e:j=i
 ·subst e;have h:Y41 j:=by have:=(aO.mp hi).1;exact Oo
  rw[List.getElem?_set_self h]at a;cases a;exact⟨PyData.tuple [gX c,eA (vput val c y c)],by rw[aR,hi];rfl,by rw[jZ];exact rq⟩
 ·rw[YaK e]at a;obtain⟨d,hd,g⟩:=cR r a;refine Y08 (PyData.tuple [gX d,eA (vput val c y d)]) (by rw[aR,hd];rfl);rw[hU λ(q:d=c)=>e ((List.getElem?_inj (aO.mp hd).1 nd).mp (by rw[hd,hi,q]))];exact g.same s
inductive lY:Yh
 | i {H:Hp} {Q:VK} {E:XK} {p L:Addr} {n:Nat} {tv av th:V} {fs:Ai} {ws:Y03} {bs mix ps cs:Al} {F W M Ns Nm Np Nc B:Nat} {least:Fr} {val:Af->Fr} {pre:Y0D} (h0:Y20 (n+2)) (h1:Y40 tv) (h2:Y2K M) (h3:YcO (pre++[lK ps,Y7Y Yy]) th) (h4:gF pre=true) (h5:pre.length<=8) (h6:jE F W M (Y0T) mix ps cs Ns Nm Np Nc B) (h7:0<Ns) (h8:F<=3) (h9:M<=3) (h10:1<=B) (h11:997 ∣ Y5O M Nm) (h12:IQ F W M (Y0T) mix ps cs (Y5O M Nm) B least val) (q0:∀(v:V) (i:Nat) (c:Af) (m y:Fr) (H':Hp),Y3d->Y0l->Y2E (Y7e (gX c) (.tuple (pre++[lK ps,FO (Yy) (Y6U c y)])))->(Yy)[i]?=Y09->rv m∈JF F W M (Y0T) mix ps cs val c->rv m<rv y->Y2o (8^(Y2H+1)*B) y->Y1a):lY [Y0y,tv,av,th] H Q E
inductive lZ:Yh
 | i {H:Hp} {Q:VK} {E:XK} {th wv:V} {F M:Nat} {val:Af->Fr} {y:Fr} {A:PyData} {pre:Y0D} (h0:YcO (pre++[A,Y7Y Yy]) th) (h1:Y1A y wv) (h2:1<=F) (h3:F<=4) (h4:M<=5) (h5:pre.length<=8) (q0:∀v H',Y0->Y2E (.tuple (pre++[A,FO (Yy) (Y6U Yx y)]))->Y1a):lZ [th,wv] H Q E
def aDT{N:Nat}(h:997 ∣ N):Fn N 1 (1,997)/\(0:Rat)<rv (1,997):=by
 have a:Fn 997 1 (1,997):=Yds 1 997 1 Dd;exact⟨a.dvd h,Kk⟩
section
def aFG(F:Y9 "_law_raised" "_law_raised" aBS)(T:Yb)(FQ5:Y7i "_law_draw")(FQ13:Y8c "_law_plus" (iP K))(FQ20:Y0e 4 "_law_sums" a03 mT)(FQ2:Y06 "_law_below" a00 (iN K)):dI P w K mg base cN 5 f fd a06 lY:=by
 refine Y1e IC;obtain @⟨H,Q,E,p,L,n,tv,av,th,fs,ws,bs,mix,ps,cs,F,W,M,Ns,Nm,Np,Nc,B,least,val,pre,F0,rt,ra,rh,fl,l8,I,hNs,f3,m3,b1,φ,O,k⟩:=h;refine Yf;intro cdv A outer s hr _;have f1:=I.f1;have f4:=I.f4;have m5:=I.m5;have nd:=oY F f4 M m5;have small:(Yy).length<=20:=JK F f3 M m3;obtain⟨a,xs,rfl,ha,rx⟩:=dW rh;obtain⟨ys,pv,wv,rfl,r1,rp,rw_⟩:=zZ rx;obtain⟨at2,at1⟩:=VG (ys:=ys) (u:=pv) (v:=wv);obtain⟨aw,m,rfl,haw,ε⟩:=dW rw_;have rxw:Y18 ((rise F M).map (Y6z [gX c,Y59])) m:=ε;clear ε;have lxw:m.length=(Yy).length:=cC rxw;have lys:Y2Y pre.length:=r1.len;refine⟨_,(aG (Y3Y IC.nd (aW aN (aA 3) (rZ nQ aE)))
  (aG (Y62 IC.nd (Y9v 0 (Y98 (by rfl) 4)))
  (aG (Y5o IC.nd (Y9W FQ20 Dd (Y6p 1 (Y7w 2 (aW aN (aA 3) (rZ nQ aE)) (Y2V (jO (AV hr.units rfl) (by rfl) T.b_dict Kk (Y2s 4)) (Y28 (Y6S 4 5)))))))
  (aG (Yby IC.nd (aW aN (aA 6) (Y9v 0 (Y98 (by rfl) 6))))
  (aG (Y33 (Y30 6) 8 IC.nd (Y92 (fO (Y0w FQ2 8 7)) (Yby IC.nd (aA 8))))
  (aG (Y3Y IC.nd (Y4S K (Y4S K (Y5w K 4 iX (iW (aA 5))) (Y6E (Y2t (Y28 (Y6S 4 5)) (Y0O FQ13 7 Y4L)))) (Y5w K 4 (iW (Y6w 5)) iX)))
  (Yam (Y28 (Y6S 4 5)) (Y4S K (Y5w K 3 iX (iW (rZ nQ aE))) (cG (Y2s 4)))))))))),?_⟩
 refine Yp;intro μ n_;refine Y6 (Y7J ha at1);refine Yg;intro μ n_;refine Yt (Y3J haw);rw[lxw];have z0:=(aO.mp (oZ (F:=F) (A:=M) f1)).1;refine YaY (n+1) F0 Oo (bS (show((rise F M).length:Int).natAbs<=20 by exact Oo) Dd) (λx H1 x0 x1 F1 χ=>Yg);intro μ n_;obtain⟨i,rfl⟩:∃i:Nat,x=i:=Y1j x.toNat;have hi:i<(Yy).length:=Oo;obtain⟨J,S⟩:∃J,(Yy)[i]?=some J:=Y1i hi;have C:=(eZ f1).mp (aF S);have ζ:=F0.t χ;have U:aH H1 ((rise F M).map (Y6z [gX c,Y59])) m:=by
  have:gF ((rise F M).map (Y6z [gX c,Y59]))=true:=by rw[rY];exact AX _
  exact aH.flat ζ this rxw
 obtain⟨xe,ν⟩:∃xe,m[i]?=some xe:=Y5C;obtain⟨c',ac,re⟩:=cR U ν;rw[S]at ac;cases ac;obtain⟨b,zs,rfl,hb,rz⟩:=dW re;obtain⟨u,z,rfl,ru,rz⟩:=gH rz;have R:=ζ _ _ haw;obtain⟨kvs,p1,p2,p3⟩:=JN (λc:Af=>c) (λc=>Y59) (Yy) m U;have p3:=p3 (by rw[List.map_id'];exact nd);have lkv:kvs.length=(Yy).length:=by have:=Y4t p2;rwa [aB,aB]at this
 refine Y2J (Y7J (ζ _ _ ha) at2);refine Y4;refine rdcp R p1 (by rw[p2];exact TN (ky:=λc:Af=>c) (by rw[List.map_id'];exact nd)) Oo λD H2 hD e2 r=>Y0g;refine eX (r _ _ R) (cU ν) (Y3R (r _ _ hb));have NV:=O.nv f1 (aF S);refine mT.i ((rt.flat ζ (gE _ _)).same r) ((ra.flat ζ (iB _ _ _ _)).same r) ((rp.flat ζ (dM _)).same r) (ru.same r) e2 I hNs C.1 C.2 (val:=val) NV (λhlt j hj=>?_) λG gx ι H3 s3 hG e3 r3 l=>?_
 ·have hbm:Y5H (bN J j):=(eZ f1).mpr ⟨by rw[jW];exact C.1,by rw[fA Oo];exact Oo⟩;obtain⟨v,k1,k2⟩:=p3 _ hbm;exact Y5M k1 (k2.same r)
 have ω:∀g∈ι,cT g/\Y1q g:=λg Z=>⟨(l.n g Z).low,Y3D I (l.n g Z) (Yc2 Dd) pD⟩;refine Yg;intro μ n_;have lgx:gx.length=ι.length:=cC r3;have g50:=l.l0;have g51:=l.l1;have S3:=χ.trans (r.trans s3).but;have F3:=(F1.same r).same s3;refine Y2J (rlL e3 ?_);rw[lgx];refine YaY n F3 Oo (bS (show(ι.length:Int).natAbs<=5 by exact Oo) Dd) (λx2 H4 x20 x21 F4 b4=>?_);obtain⟨v0,ab,_,hv0⟩:=NX (xs:=gx) x20 Oo;have t4:=F3.t b4;have nGp:G≠p:=λz=>F1.ne (r.free hG) z;have e4:=b4.at nGp e3;have r4:aH H4 (ι.map eA) gx:=Y8L t4 _ r3;obtain⟨g0,hg0,rv0⟩:=cR r4 hv0;refine IP e4 ab (Yg);intro μ n_;refine Y31 G e4 ?_;refine jU (xs:=gx) (λj σ H'=>ZU λ(o8:Ao) (v:V) (y:Fr)=>An5 (σ=[Y1f,some tv,some av,Y2b,Y2 aw,Yk (i:Nat),Y2 G,Yi,o8]) (aX H4 H') (Y4o y) (y∈ι) (∀g∈ι.take j,rv y<=rv g))
  ⟨_,v0,g0,rfl,Y07,rv0,aF hg0,λg Z=>by rw[List.take_zero]at Z;cases Z⟩ (Y8v) ?_ ?_
 ·obtain⟨_,_,_,_,s',_⟩:=q;exact gW.of (s' _ _ e4)
 ·rintro j x3 σ H5 hx3 ⟨o8,v,y,rfl,γ,ry,ξ,hm⟩;refine Y2z;intro μ;obtain⟨g,Z,rg⟩:=cR r4 hx3;have η:=aF Z;refine Yt (Yab (rg.same γ) ry ((ω g η).2) ((ω y ξ).2) ?_);refine Y4;have ae:=oB (ω g η).1.pos (ω y ξ).1.pos;refine pR (Y8X) (Y8X)
  ·have lt':=ae.mp lt;refine Y3G;intro μ;refine⟨_,rfl,_,_,g,rfl,γ,rg.same γ,η,λz e=>?_⟩;rw[dS Z]at e;rcases bY.mp e with e | e
   ·have:=hm z e;grind
   ·rw[aU.mp e];exact Rat.le_refl
  ·refine⟨_,v,y,rfl,γ,ry,ξ,λz e=>?_⟩;rw[dS Z]at e;rcases bY.mp e with e | e
   ·exact hm z e
   ·rw[aU.mp e];exact Ye6 (lt (ae.mpr q))
 ·rintro σ H5 ⟨o8,v,y,rfl,γ,ry,ξ,hm⟩;refine Y3t;intro μ n_;obtain⟨ly,zy⟩:=ω y ξ;have aa:rv y∈JF F W M (Y0T) mix ps cs val J:=by
   have:rv y∈ι.map rv:=Y3q y ξ;rw[l.v]at this;exact this
  have yn:Y2o (5*(8^(M-J.sum)*B)) y:=⟨ly,SE I C.1 C.2 NV _ aa⟩;have p8:8^(M-J.sum+1)*B=8*(8^(M-J.sum)*B):=by rw[Nat.pow_succ,Yep (8^_),Nat.mul_assoc]
  have p1':1<=8^(M-J.sum)*B:=kR (Ycm _ _) b1;have S5:=(S3.trans b4).trans γ.but;have t5:=(t4.trans γ.t);have d:=(r.trans s3).t.trans t5;have N:=d _ _ R;have hb5:=d _ _ hb;have ha5:=d _ _ (ζ _ _ ha);have ψ:aH H5 ((rise F M).map (Y6z [gX c,Y59])) m:=by
   have:gF ((rise F M).map (Y6z [gX c,Y59]))=true:=by rw[rY];exact AX _
   exact aH.flat d this U
  have t05:=ζ.trans d;have r15:=aH.flat t05 fl r1;have rp5:=rp.flat t05 (dM _);have af:=ru.flat d (gG _);obtain⟨n9,pos9⟩:=aDT φ;refine Y1l;refine zU N λq6 H6 s6 e6=>Y0g;refine eX (s6 _ _ N) (cU ν) (Y3R (s6 _ _ hb5));refine Y4;refine YfA (by show 2<=64;decide) ?_;have r7:Y6H H7 (1,997) q7:=Y65 e7;refine YbG ((ry.same s6).same s7) (gD.of r7) ly n9.low zy (Y3D I n9 Dd sN) (λq8 H8 hq8 e8 s8=>?_);have S8:=(s6.trans s7).trans s8;refine jT (by show 2<=64;decide) λq9 H9 hq9 e9 s9=>jT (by show 1<=64;decide) λq10 H10 hq10 e10 β=>?_;have S10:=(S8.trans s9).trans β;have e6':=β _ _ (s9 _ _ (s8 _ _ (s7 _ _ e6)));refine vV e6' e10 (by rw[cW];show min i m.length+1<=1000;exact Oo) λq11 H11 X e11=>Y56 _ _ _ _ rfl ?_;refine Y4;refine vE (k:=i+1) Oo (X _ _ (S10 _ _ N)) λq12 H12 α e12=>vV (α _ _ e11) e12 (by rw[bF,cW,List.length_drop];show min i m.length+1+(m.length-(i+1))<=1000;exact Oo) λq13 H13 θ e13=>?_;have S13:=((S10.trans X).trans α).trans θ;have δ:H13 q13=Ym (m.set i (.ref q9)):=by
   rw[e13,List.set_eq_take_append_cons_drop,Y5p,List.append_assoc];rfl
  have r9:Y5g H9 (YX (J,kH y (1,997))) q9:=Y7n e9 ((af.same S8).same s9) ((cO e8).same s9);have υ:=QY S13 nd ψ S (r9.same (((β.trans X).trans α).trans θ));have ρ:(m.set i (V.ref q9))[i]?=some (V.ref q9):=Ydl;refine Yt (eX δ (cU ρ) ?_);refine Y3Q ((((β.trans X).trans α).trans θ) _ _ e9) (Yt Y4);refine GF (S13 _ _ ha5) λq14 H14 s14 τ=>?_;rw[FW]at τ;refine Y4;refine jT (by show 1<=64;decide) λq15 H15 hq15 e15 ο=>vV (ο _ _ τ) e15 (by rw[bF];show ys.length+1+1<=1000;exact Oo) λq16 H16 s16 e16=>jT (by show 2<=64;decide) λq17 H17 hq17 e17 κ=>?_;have S16:=(s14.trans ο).trans s16;have S17:=(S13.trans S16).trans κ;have ad:Y5g H17 (.tuple (pre++[lK ps,FO (Yy) (Y6U J (kH y (1,997)))])) q16:=by
   refine Yag (κ _ _ e16);rw[List.append_assoc];refine aH.append ?_ (aH.same S17 r15);exact Ybz (rp5.same S17) ((bI.tup δ υ).same (S16.trans κ))
  refine k _ i J y (kH y (1,997)) H17 ((F4.same γ).same S17) (S5.trans S17.but) (Y7n e17 (af.same S17) ad) S aa ?_ ((yn.add n9).le Oo);rw[oE ly.pos n9.low.pos];grind
def oQ7(F:Y9 "_law_first" "_law_first" sQ7)(T:Yb):dI P w K mg base cN 1 f fd a39 lZ:=by
 refine Y1e cQ7;obtain @⟨H,Q,E,th,wv,F,M,val,y,Ad,O,rh,ι,ο,δ,α,l8,k⟩:=h;refine Yf;intro θ A x s hr _;have nd:=oY F δ M α;have r4:=sF F δ M α;obtain⟨a,xs,rfl,W,τ⟩:=dW rh;obtain⟨ys,pv,L,rfl,γ,rp,J⟩:=zZ τ;obtain⟨ρ,B⟩:=VG (ys:=ys) (u:=pv) (v:=L);obtain⟨aw,g,rfl,n,d⟩:=dW J;have e:Y18 ((rise F M).map (Y6z [gX c,Y59])) g:=d;clear d;have aa:g.length=(Yy).length:=cC e;have κ:Y2Y O.length:=γ.len;have Z:=oZ (F:=F) (A:=M) ο;obtain⟨x0,l,ψ⟩:=aH.atX e Z;obtain⟨b,zs,rfl,η,U⟩:=dW ψ;obtain⟨u,z,rfl,ξ,U⟩:=gH U;have l0:0<g.length:=(aO.mp l).1;refine⟨_,(aG (Y1T cQ7.nd (aW aN (aA 0) (rZ nQ aE)))
  (Y0L (Y4S K (Y5w K 0 iX (iW (rZ nQ aE))) (Y6E (Y4S K (Y6E (Y2t Yd5 (aA 1))) (Y5w K 2 (iW aE) iX)))))),?_⟩
 refine Yp;intro d_ n_;refine Y6 (Y7J W B);refine Yt Y4;refine GF W λq1 H1 m β=>?_;rw[FW]at β;refine YbK (m _ _ n) l;refine Y3Q (m _ _ η) Y4;refine jT (by show 2<=64;decide) λX H2 ω φ p=>jT (by show 1<=64;decide) λq3 H3 χ e3 G=>Y0g;have S3:=(m.trans p).trans G;refine vE (k:=1) rfl (S3 _ _ n) λq4 H4 r ν=>vV (r _ _ e3) ν (by rw[List.length_drop];show 1+(g.length-1)<=1000;exact Oo) λε H5 C e5=>?_;have S5:=(S3.trans r).trans C;have D:H5 ε=Ym (g.set 0 (.ref X)):=by
  rw[e5,List.set_eq_take_append_cons_drop,if_pos l0];rfl
 have μ:Y5g H2 (YX (Yx,y)) X:=Y7n φ ((ξ.same m).same p) ((ι.same m).same p);have I:=QY S5 nd e Z (μ.same ((G.trans r).trans C));refine jT (by show 1<=64;decide) λq6 H6 hq6 υ R=>?_;have N:=R _ _ (C _ _ (r _ _ (G _ _ (p _ _ β))));refine vV N υ (by rw[bF];show ys.length+1+1<=1000;exact Oo) λq7 H7 S ζ=>?_;have S7:=(S5.trans R).trans S;refine k _ H7 S7 (Yag ζ);rw[List.append_assoc];refine aH.append ?_ (aH.same S7 γ);exact Ybz (rp.same S7) ((bI.tup D I).same (R.trans S))
end
def zO(n:Nat)(x:Rat):dD n (λ_=>x)=(n:Rat)*x:=by
 induction n with
 | zero=>rw[gK];grind
 | succ n ih =>
  rw[dU,ih];have:((n+1:Nat):Rat)=(n:Rat)+1:=by simp
  rw[this];grind
def VJ{W F:Nat}{q:Nat->Y0S}{q0:Y0S}{mix ps cs:Y0s}(hW:0<W)(hq:∀v,v<W->q v=q0)(fl:∀c,Y2B->q0 c=dD F λj=>q0 (bN c j))(hp:∀v,v<W->ps v=1)(hc:∀k,cs k=0):∀(n:Nat) (c:Af),Y2B->((W:Rat)-1)*q0 c<=DC W F q mix ps cs n c:=by
 have d:∀(c:Af),∀x∈rQ W (λv=>ps v*q v c),((W:Rat)-1)*q0 c<=x:=λc x a=>by
  obtain⟨w,i,rfl⟩:=vF.mp a;rw[Y7C (q0 c) (λv h=>by rw[hp v h,hq v h];grind),zO,hp w i,hq w i];grind
 intro n
 induction n with
 | zero=>intro c e;exact MQ (SL hW _) (d c)
 | succ n ih =>
  intro c e;rw[wG];refine MQ (by simp) λx a=>?_;rcases bY.mp a with a | a
  ·exact d c x a
  ·rw[aU.mp a,hc,fl c e,<-zN];have:=pN (n:=F) λj l=>ih (bN c j) (by rw[jW];exact e);grind
section
variable{F W M:Nat}{es:Ys}{s:Al}
def nM.sdnn(R:Y0B)(hs:∀f∈s,Y01/\0<=f.1)(w:Nat):0<=kK F es (wq s) w:=by
 have all:∀l:List dE,(∀e∈l,Y5b)->0<=Y9V l (Y00 e.1*wq s e.1*cS e.2 (1+w)):=λl=>by
  induction l with
  | nil=>intro _;rw[iD];exact Rat.le_refl
  | cons e l ih =>
   intro h;have i:=ih λx d=>h x (aZ _ d);have a:=h e (aV ..);have g:=fU (fU (R.rl.nnf e.1) (LK (c:=e.1) hs)) ((R.sy e a).nn (1+w));rw[eK];grind
 exact all es λe a=>a
def nM.sd1(R:Y0B)(hs:∀f∈s,Y01/\0<=f.1)(h1:rP (s.map rv)=1)(hl:s.length=F){w:Nat}(hw:w<W):kK F es (wq s) w<=1:=by
 have a:∀f∈s,Y01:=λf m=>(hs f m).1;have u:=R.rl.stops (q:=wq s) (LH a F) λc j=>by
  have:=QW a h1 (c:=c) (by rw[j,hl])
  rwa [hl]at this
 have all:∀l:List dE,(∀e∈l,Y5b)->(Y9V l (Y00 e.1*wq s e.1*cS e.2 (1+w)))<=Y9V l (Y00 e.1*wq s e.1*(1-Yj)):=λl=>by
  induction l with
  | nil=>intro _;rw[iD,iD];exact Rat.le_refl
  | cons e l ih =>
   intro h;have h1:=ih λx g=>h x (aZ _ g);have d:=h e (aV ..);have sy:=R.sy e d;have y:=sy.rest;have n:cS e.2 (1+w)<=1-Yj:=by
    have A:=uN (λv=>cS e.2 (1+v)) hw;have z:0<=Y3h (if i=w then 0 else cS e.2 (1+i)):=DL λi _=>by
     split
     ·exact Rat.le_refl
     ·exact sy.nn _
    have p:Yj=cS e.2 0:=rfl;rw[p];grind
   have r:=Rat.mul_le_mul_of_nonneg_left n (fU (R.rl.nnf e.1) (LK (c:=e.1) hs));rw[eK,eK];grind
 have h:=all es λe d=>d;unfold kK;grind
def nM.free(R:Y0B){q:Nat->Y0S}{mix cs:Y0s}(h:∀e∈es,Y2D->cs e.1.sum=0):rO F W es q mix cs=0:=by
 unfold rO;rw[Y7C 0 (λw _=>?_),kJ];have all:∀l:List dE,(∀e∈l,Y5b)->(Y9V l (cs e.1.sum*(Y00 e.1*q w e.1*Yj)))=0:=λl=>by
  induction l with
  | nil=>intro _;rw[iD]
  | cons e l ih =>
   intro a;rw[eK,ih λx c=>a x (aZ _ c)];by_cases z:Yj=0
   ·rw[z];grind
   ·rw[h e (a e (aV ..)) z];grind
 unfold kS;rw[all es λe d=>d];grind
end
def YY{n d:Int}(hd:0<d)(h0:0<=n)(h1:n<=d):0<=0-(0-100*n)/d/\0-(0-100*n)/d<=100/\100*n<=(0-(0-100*n)/d)*d:=by
 have a:=Int.ediv_mul_le (0-100*n) (b:=d) Oo;have b:=Int.lt_ediv_add_one_mul_self (0-100*n) hd;generalize (0-100*n)/d=q at a b;refine Y2n ?_
 ·refine bU Y5t;have:=Int.mul_le_mul_of_nonneg_right (show 1<=q by exact Oo) (show 0<=d by exact Oo);exact Oo
 ·refine bU Y5t;have:=Int.mul_le_mul_of_nonneg_right (show q+1<=-100 by exact Oo) (show 0<=d by exact Oo);exact Oo
 ·rw[Int.sub_mul];exact Oo
def HC{n d:Int}(hd:0<d)(h0:0<n)(h1:n<=d):0<=(100*n-1)/d/\(100*n-1)/d<=100/\(100*n-1)/d*d<100*n:=by
 have a:=Int.ediv_mul_le (100*n-1) (b:=d) Oo;refine⟨YdY Oo,?_,Oo⟩;generalize (100*n-1)/d=q at a;refine bU Y5t;have:=Int.mul_le_mul_of_nonneg_right (show 101<=q by exact Oo) (show 0<=d by exact Oo);exact Oo
def hund{t:Int}(h0:0<=t)(h1:t<=100):Fn 100 1 (lw t 100)/\0<=(lw t 100).1/\rv (lw t 100)=rv (t,100):=by
 have h:=Yds t 100 1 Oo;refine⟨h,?_,vH Dd⟩;show 0<=t/_;exact YdY h0
def YT{t:Int}{f:Fr}(hf:0<f.2)(h:100*f.1<=t*f.2):¬rv (t,100)<Y0v:=λz=>by
 have:=(oB (f:=(t,100)) (show(0:Int)<100 by decide) hf).mpr z;have:t*f.2<f.1*100:=this;exact Oo
def YS{t:Int}{f:Fr}(hf:0<f.2)(h:t*f.2<100*f.1):rv (t,100)<Y0v:=(oB (f:=(t,100)) (show(0:Int)<100 by decide) hf).mp (show t*f.2<f.1*100 by exact Oo)
def aCl{X:Cx}:Y2d .Is (λx y H Q=>∃a b,x=.bl a/\y=.bl b/\Y1s (a == b)):=by
 intro c s σ H x y v u Q I d e h;obtain⟨a,b,rfl,rfl,q⟩:=h;cases d;cases e;exact PyProof.Rows.is_bool (Y4V _ H I q)
def GP{X:Cx}:Y2d .IsNot (λx y H Q=>∃a b,x=.bl a/\y=.bl b/\Y1s (!(a == b))):=by
 intro c s σ H x y v u Q I d e h;obtain⟨a,b,rfl,rfl,q⟩:=h;cases d;cases e;exact PyProof.Rows.isnot_bool (Y4V _ H I q)
section
variable{F W M:Nat}{fs:Ai}{ws:Y03}{mix ps cs:Al}{Nc:Nat}
def aDg(T:VM F W fs ws)(f2:2<=F)(f4:F<=4)(w1:1<=W)(w4:W<=4)(m5:M<=5)(hm:IK W mix)(pl:Y91 W)(hp:∀f∈ps,Fn 59820 999 f)(cl:Yad M)(c0:0<Nc)(c1:Y9C Nc)(hc:∀f∈cs,Fn Nc 999 f):jE F W M (Y0T) mix ps cs iI iI 59820 Nc 999 where
 f1:=Oo
 f4:=f4
 w1:=w1
 w4:=w4
 m5:=m5
 sl:=by rw[aB];exact T.w
 ml:=hm.len
 pl:=pl
 cl:=cl
 sh:=λs d=>by
  obtain⟨x,c,rfl⟩:=aQ.mp d;exact⟨(T.sh x c).len,λf a=>((T.sh x c).at f a).1⟩
 mx:=λf a=>(hm.at f a).1
 pr:=hp
 co:=hc
 pos:=(n45 m5 Dd Dd c0 c1).1
 sz:=Y1v ((n45 m5 Dd Dd c0 c1).2)
 b:=aP Dd ZN
def aDV:60 ∣ lF M iI iI 59820 Nc/\997 ∣ lF M iI iI 59820 Nc:=by
 have h:59820 ∣ lF M iI iI 59820 Nc:=by unfold lF;rw[Nat.mul_assoc,Nat.mul_assoc];exact Nat.dvd_mul_right _ _
 exact⟨Nat.dvd_trans Dd h,Nat.dvd_trans Dd h⟩
def VM.trq(T:VM F W fs ws):QS W ws:=⟨T.w,λx c f a=>((T.sh x c).at f a).1,T.b⟩
end
section
variable{F W M:Nat}{ss:Ak}{mix ps cs:Al}{Ns Nm Np Nc B:Nat}
def ZW(I:jE F W M ss mix ps cs Ns Nm Np Nc B){n:Nat}{f:Fr}(hn:n<=M)(h:Y2o (8^(n+1)*B) f):Y58 :=
 Y3D I h (wC I (by have:=I.m5;exact Oo)) (aP (Yc2 Dd) pD)
def IQ.wv{least:Fr}{val:Af->Fr}(O:IQ F W M ss mix ps cs (Y5O M Nm) B least val)(I:jE F W M ss mix ps cs Ns Nm Np Nc B)(hl:cT least/\Y1q least):EZ F W M ss mix ps cs val Ns Nm Np Nc B where
 I:=I
 nv:=λc a lt j d=>O.nv I.f1 a lt j d
 lw:=λc a=>by
  by_cases e:c=Yx
  ·rw[e,O.first];exact hl
  ·have:=O.n c a e;exact⟨this.low,ZW I Oo this⟩
def EZ.put{val:Af->Fr}(V:EZ F W M ss mix ps cs val Ns Nm Np Nc B){c:Af}{y:Fr}(hc:Y5H c)(hy:Y2o (8^(Y2H+1)*B) y):EZ F W M ss mix ps cs (Y6U c y) Ns Nm Np Nc B where
 I:=V.I
 nv:=λd hd lt j g=>by
  by_cases e:bN d j=c
  ·rw[e,jZ];have a:=((eZ V.I.f1).mp hd).1;have:=Y9D d j;rw[e]at this;rw[show M-d.sum=M-c.sum+1 by exact Oo];exact hy
  ·rw[hU e];exact V.nv d hd lt j g
 lw:=λd hd=>by
  by_cases e:d=c
  ·rw[e,jZ];exact⟨hy.low,ZW V.I Oo hy⟩
  ·rw[hU e];exact V.lw d hd
end
abbrev aBV:Stmt:=(top 91)
def xU:Ya ["_law_feed_here","_law_trial_here","_law_aim_here","_law_ways","_law_shares_here","_law_bounds","_law_free","_law_prices","_law_thing","_law_counts_here","_law_raised_here","_law_let"] a25 aBV:={}
def aFQ{x:Int}(h0:0<=x)(h9:x<10):Fn 20 1 (lw x 20)/\0<=rv (lw x 20)/\rv (lw x 20)<=9/20:=by
 have h:=Yds x 20 1 Oo;refine Y2n h
 ·rw[vH Dd,Rat.div_def];have:(0:Rat)<=(x:Rat):=by exact_mod_cast h0
  exact fU this Kk
 ·rw[vH Dd,Rat.div_def,Rat.div_def];have:(x:Rat)<=9:=by
   have h:x<=9:=Oo
   exact_mod_cast h
  exact Rat.mul_le_mul_of_nonneg_right this Kk
def yK{H:Hp}{f:Fr}{z:V}{k:Nat}{c:Addr}(r:Y1A f z)(h:H c=Ym (Y4s z)):Y14 (Y4s f) (.ref c) :=
 bI.tup h (aH.ofIdx (by rw[cA,aB,cA]) λi y a=>by
  rw[List.getElem?_replicate]at a;by_cases hi:i<k
  ·rw[if_pos hi]at a;cases a;exact⟨eA f,by rw[aR,List.getElem?_replicate,if_pos hi];rfl,r⟩
  ·rw[if_neg hi]at a;cases a)
def DH{k:Nat}{f:Fr}{i:Nat}(hi:i<k):Y1O (Y4s f)=Y0v:=lH (by rw[List.getElem?_replicate,if_pos hi])
def qJ(k i:Nat):Y1O (Y4s (0,1))=0:=by
 by_cases hi:i<k
 ·rw[DH hi,iF]
 ·exact uL (by rw[cA];exact Oo)
def MU(z:Int):cT (z,1):=⟨by show(0:Int)<1;decide,by show Y0H z 1;simp⟩
def LY(z:Int):rv (z,1)=(z:Rat):=by
 unfold rv;show(z:Rat)/((1:Int):Rat)=_;have:((1:Int):Rat)=1:=rfl;rw[this];grind
def nJ{z d:Int}(h1:z.natAbs<=1000)(h2:d.natAbs<=10^64):Y1q (z,d):=by
 have a:(10:Nat)^64<2^4000:=Y1v (show 10^64<2^220 by decide +kernel);have c:(1000:Nat)<=10^64:=Kk;exact⟨by show z.natAbs<2^4000;exact Oo,by show d.natAbs<2^4000;exact Oo⟩
def aCp{W:Nat}{bs:Al}(w2:2<=W)(w3:W<=3)(bl:YbB W)(hb:∀f∈bs,0<=Y0v/\Y0v<=9/20):dD W (cS bs)+1/10<=(W:Rat)-1:=by
 have h:=pN (n:=W) (f:=cS bs) (g:=λ_=>9/20) λi a=>(hb _ (eV Oo)).2;rw[zO]at h;rcases(show W=2\/W=3 by exact Oo)with rfl | rfl
 ·have:((2:Nat):Rat)=2:=rfl;rw[this]at h ⊢;grind
 ·have:((3:Nat):Rat)=3:=rfl;rw[this]at h ⊢;grind
def qI{s:Str}(hs:PyData.canLay0 (.str s)=true)(c:Af):Y4I (Y57 s (gX c)):=by
 refine(xB.tup (n:=2) λd hd=>?_).ok;rcases bD.mp hd with rfl | hd
 ·exact⟨hs,by simp[PyData.depth]⟩
 ·rw[aU.mp hd];refine xB.tup (n:=1) λd a=>?_;obtain⟨z,_,rfl⟩:=aQ.mp a;exact xB.int z
def LM(s:Str)(c:Af):Yq ((PyData.tuple [.str s,gX c]).hasDict):=by
 show Yq (PyData.hasDict (.str s) || (PyData.hasDictAll (c.map λ(n:Nat)=>PyData.int (n:Int)) || false));rw[AT];rfl
def aAr:cT (1,10^64)/\(0:Rat)<rv (1,10^64)/\rv (1,10^64)<=1/10:=by
 have p:(0:Int)<((1:Int),(10^64:Int)).2:=Kk;refine Y2n ⟨p,by show Y0H 1 _;simp⟩
 ·have:=(oB (f:=(0,1)) (g:=(1,10^64)) Dd p).mp Kk
  rwa [iF]at this
 ·have h:=(oB (f:=(1,10^64)) (g:=(1,10)) p Dd).mp Kk;have e:rv (1,10)=1/10:=by unfold rv;decide +kernel
  rw[e]at h;grind
def aAQ{f:Fr}{B:Nat}(h:Fn 20 B f)(hB:B<=2^100):Y1q (kH f (1,10^64)):=by
 have a:=aAr.1;have q:Fn (10^64) 1 (1,10^64):=Qn.f a ⟨1,by
  have:=xG a.pos;have e:(((1:Int),(10^64:Int)).2:Rat)=((10^64:Nat):Rat):=by simp
  rw[e]at this;exact this,Kk⟩
 have s:=(h.dvd (Nat.dvd_mul_right 20 (10^64))).add (q.dvd (Nat.dvd_mul_left (10^64) 20));have n3:20*10^64<2^3000:=Y1v (show 20*10^64<2^220 by decide +kernel);refine mK s Kk n3 (Y6d (show B+1<=2^101 by exact Oo))
inductive uW:Yh
 | i {H:Hp} {Q:VK} {E:XK} {p L:Addr} {n:Nat} {tv av:V} {fs:Ai} {ws:Y03} {bs mix cs:Al} {F W M:Nat} (h0:Y20 (n+60)) (h1:Y40 tv) (h2:VM F W fs ws) (h3:Y2K M) (h4:2<=F) (h5:F<=3) (h6:2<=W) (h7:W<=3) (h8:M<=3) (h9:IK W mix) (h10:Yad M) (h11:∀f∈cs,QM f) (q0:∀H',Y3d->Y0l->Y1X):uW [Y0y,tv,av] H Q E
section
def aFJ(F:Y9 "_law_none_right" "_law_none_right" aBV)(T:Yb)(FQ5:Y7i "_law_draw")(FQ8:Y8b "_law_frac" eQ)(FQ23:Y0e 6 "_law_told_worths" a05 wK)(FQ14:Y0e 5 "_law_raised" a06 lY)(FQ22:Y0e 11 "_law_told" a19 (jD K c.NoPaper))(FQ7:Y06 "_law_first" a39 lZ)(FQ24:Y1B "_law_total" a46 (kY K))(FQ13:Y8c "_law_plus" (iP K)):dI P w K mg base cN 12 f fd a25 uW:=by
 refine Y1e xU;obtain @⟨H,Q,E,p,L,n,tv,av,fs,ws,bs,mix,cs,F,W,M,F0,rt,TC,ra,f2,f3,w2,w3,m3,hm,cl,hc,k⟩:=h;refine Yf;intro cdv A outer s hr _;obtain⟨aa,xb,xm,xc,rfl,haa,rxb,rxm,rxc⟩:=mH ra;obtain⟨at_,af,aw,xf,xw,rfl,υ,G,hw,rf,rw'⟩:=tJ rt;have lxw:xw.length=W:=by have:=cC rw';rw[TC.w]at this;exact this
 obtain⟨ρ,hw0⟩:∃ρ,ws[0]?=some ρ:=Y1i (by rw[TC.w];exact Oo);have κ:=TC.sh ρ (aF hw0);obtain⟨x0,hx0,rx0⟩:=aH.atX rw' hw0;obtain⟨b0,z0,rfl,hb0,rz0⟩:=dW rx0;obtain⟨u0,sv,rfl,ru0,rs0⟩:=gH rz0;refine⟨_,(aG (Y13 xU.nd (Y6O gO (by rfl) Kk 1))
  (aG (Y5D 4 xU.nd (Y28 (Y28 Y0A)))
  (aG (Y8U xU.nd (Y2t Y0A (YbX dN (by rfl) Kk (Y1h (sR (eJ.o ["_law_name","_law_own"] ["_law_name","_law_own","_law_shares_here"] [4]) (kD (Y0A)) (Y6y) (λ_ _ _ _=>(Y2t (aA 0) (aA 2))))))))
  (aG (Y62 xU.nd (Y6i dN (by rfl) Kk ["_law_way","_law_feed_here"] [0] (Y6J 3) (bO FQ8 (Y5s 1) aE)))
  (aG (Y5o xU.nd (cG (aM (Y16) (Y7w 5 Y16 (Y1h (bP vJ (Yd4) (Y16)))))))
  (aG (Y1T xU.nd (cG (Y4r Y16 (aA 5) (Y2V Y16 Y16))))
  (aG (Yby xU.nd (Y0F vJ Yd4 3))
  (aG (bX (i:=8) xU.nd (cG (Y4r dR (aA 7) (Y1h (Y9W FQ23 Dd (Y3w 0 1 (Y6p 6 (Y2I 7 (Y2t (bP oG (aA 3) aE) aE)))))))))
  (aG (IS (FT FQ14 (aA 0) (aA 1) (aA 6) (aA 8)) (pE rfl (fJ (Y5R 9 xU.nd) (fJ (Y5R 10 xU.nd) mL))))
  (aG (fG (uJ (uH (eM GP (Y3y FQ22 1 2 8) jP) (qF (eM (YeQ) (Y3y FQ22 1 2 10) (Y2t dR (aA 9)))))) (Y0L jP) dB)
  (aG (bX (i:=11) xU.nd (Y3o FQ24 5))
  (aG (fG (eM (YeQ) (iT FQ22 (aA 1) (aA 2) (Y0w FQ7 8 11)) (Y2t dR pF)) (Y0L jP) dB)
  (Y0L (kE aCl (iT FQ22 (aA 1) (aA 2) (Y0O FQ7 8 (Y0O FQ13 11 (Y2t aE (bP TJ aE aE))))) jP)))))))))))))),?_⟩
 refine Yp;intro ο ξ;refine Yu υ;refine GJ hw (Yg);intro ο ξ;rw[lxw];refine Yu υ;refine eX hw (Y8A hx0) (Y3R hb0);refine Yg;intro ο ξ;refine Yu υ;refine Yu υ;refine Y1L aw (Y0C (fY.of hw)) (QD (Yd0) (λw x=>Y0x (wD w) x) (λw y H'=>bI H' (wD (w.1,ρ.2)) y) (λw y H1 H2 s r=>r.flat s (DF _)) (by rw[TC.w];exact Oo) hw (Paired.ofRepL rw') (λx w H' hm rw0 s'=>?_) (λD ys H1 hD e1 s1 pr=>?_))
 ·obtain⟨pa,pvs,rfl,hpa,rpv⟩:=dW (rw0.same s');obtain⟨y1,y2,rfl,ry1,ry2⟩:=gH rpv;refine⟨pa,[y1,y2],rfl,fY.of hpa,rfl,λQ' h=>h H' (Y07),λH5 Q' τ _ k'=>?_⟩;refine Y0g;exact YfA (by show 2<=64;decide) (k' _ H7 s7 (Y7n e7 ((ry1.same τ).same s7) (((rs0.same s').same τ).same s7)))
 rw[uD]at pr;refine Y4X D ys e1 Ybk;have s2:=Y3m ys hl;have e2:(upd H1 l (.tup ys)) l=Y6r:=bK;generalize upd H1 l (.tup ys)=H2 at s2 e2;refine YfM (by show 2<=64;decide) Yg;intro ο ξ;obtain⟨u,U⟩:∃u,u=ws.map λw=>(w.1,ρ.2):=Y3z;have S3:=(s1.trans s2).trans s3;have rt3:Y5g H3 (tK fs u) q3:=by
  refine Y7n e3 (bI.tup (S3 _ _ G) (aH.same S3 rf)) (Yag (s3 _ _ e2));have:=Paired.toRepL (g:=λw:Str × Al=>wD (w.1,ρ.2)) pr;rw[U,List.map_map];exact aH.same s3 (aH.same s2 this)
 have TC':VM F W fs u:=⟨TC.f,by rw[U,aB];exact TC.w,λx hx=>by
  rw[U]at hx;obtain⟨y,hy,rfl⟩:=aQ.mp hx;exact κ,TC.nf,λx hx=>by
  rw[U]at hx;obtain⟨y,hy,rfl⟩:=aQ.mp hx;exact TC.nw y hy⟩
 have hal:∀v,v<W->Y5x u v=wq ρ.2:=λv hv=>by
  obtain⟨x,hx⟩:∃x,ws[v]?=Y8:=Y1i (by rw[TC.w];exact hv);exact oF (x:=(x.1,ρ.2)) (by rw[U,aR,hx];rfl)
 clear pr U e2 e1 e3;refine Y2T _ rfl _ Oo Oo (vU (YdD p L (n+60-i)) (F0.same S3) (λi y H'=>∃f:Fr,Y3K f/\Y4N 20/\0<=Y0v/\Y0v<=9/20) (λi y Ha Hb s ⟨x,h1,h2⟩=>⟨x,h1.flat s (cF x),h2⟩) Oo (λi H' Q' hi F' s' k'=>?_) (λD2 zs H4 hD2 e4 F4 b4 hz hr4=>?_))
 ·refine Y4;exact Y1Y (n+60-(i+1)) (F'.less Oo) (λx H5 x0 x10 F5 b5=>eQ.i Dd (Y1v (show 20<2^6 by decide)) λq6 H6 hq6 e6 s6=>k' _ H6 (F5.same s6) (b5.trans s6.but) (Y1x (cO e6) (aFQ x0 x10)))
 obtain⟨a,lb,rb,fb⟩:=EQ hr4;rw[hz]at lb;have lb':a.length=W:=Oo;refine Y4X D2 _ e4 (λl5 hl5=>?_);refine Yg;intro ο ξ;have τ:=Y3m zs hl5;have e5:(upd H4 l5 (.tup zs)) l5=Ym zs:=bK;generalize upd H4 l5 (.tup zs)=H5 at τ e5;have F5:=F4.same τ;have ψ:Y5g H5 (lK a) l5:=bI.tup e5 (aH.same τ rb);have t5:dG H3 H5:=((F0.same S3).t b4).trans τ.t;have B5:aT p H H5:=(S3.but.trans b4).trans τ.but;have rt5:=rt3.flat t5 (gE _ _);have T05:=S3.t.trans t5;have B:=T05 _ _ haa;have η:=rxm.flat T05 (dM _);have ac:=rxc.flat T05 (dM _);clear e4 hr4 rb hz e5 b4 τ F4 rt3 T05 t5;have F5:=F5.less (show n+42<=n+60-((W:Nat):Int).toNat by exact Oo);refine Yu B;refine Y27 B;refine jT (by show 2<=64;decide) λq6 H6 hq6 e6 s6=>YfA (by show 1<=64;decide) Y4;refine Y3Q (s7 _ _ (s6 _ _ B)) (TR e7 Oo λq8 H8 s8 e8=>?_);refine jT (by show 4<=64;decide) λq9 H9 hq9 e9 s9=>Yg;intro ο ξ;have S9:=((s6.trans s7).trans s8).trans s9;have r6:Y6H H6 (0,1) q6:=Y65 e6;have raf:Y5g H9 (mY M a mix (Yb2 (0,1))) q9:=Y9j e9 Y7o (ψ.same S9) (Ybz (η.same S9) ((yK ((r6.same s7).same s8) e8).same s9));have N:=S9 _ _ B;refine Yu N
 refine Y27 N;refine Yu N;refine jT (by show 4<=64;decide) λq10 H10 hq10 e10 s10=>Yg;intro ο ξ;have S10:=S9.trans s10;have raa:Y5g H10 (mY M a mix cs) q10:=bI.tup e10 (Yex (YbV (ψ.same S10) (η.same S10) (Y3U (ac.same S10))));refine jT (by show 2<=64;decide) λq11 H11 hq11 e11 s11=>jT (by show 1<=64;decide) λq12 H12 hq12 e12 s12=>Y4;refine TR e12 Oo λq13 H13 s13 e13=>Yg;intro ο ξ;have r11:Y6H H11 (1,1) q11:=Y65 e11;have μ:Y5g H13 (lK (Y3S (1,1))) q13:=yK ((r11.same s12).same s13) e13;have S1013:=(s11.trans s12).trans s13;have S13:=S10.trans S1013;have J:=(raf.same s10).same S1013;have δ:=raa.same S1013;have β:=rt5.same S13;have rb13:=ψ.same S13;have F13:=F5.same S13;have B13:=B5.trans S13.but;clear r6 r11 e6 e7 e8 e9 e10 e11 e12 e13 raf raa S9 S10 N B η ac ψ rt5;refine⟨_,rfl,_,rfl,_,rfl,_,rfl,_,rfl,_,rfl,_,_,rfl,rfl,?_⟩;refine jT (by show 2<=64;decide) λq14 H14 hq14 e14 C=>?_;have ω:Y6H H14 ((W:Int)-1,1) q14:=Y65 e14
 have I:jE F W M (eE u) mix (Y3S (1,1)) (Yb2 (0,1)) iI iI 59820 1 999:=aDg TC' f2 Oo Oo Oo Oo hm (by rw[cA]) (λf G=>by rw[Yf4];exact(Fn.one _).le Dd) (by rw[cA]) Dd Dd (λf G=>by rw[Yf4];exact(Fn.zero _).le Dd);have f1:=I.f1;have nd:=oY F I.f4 M I.m5;obtain⟨d60,d997⟩:=aDV (M:=M) (Nc:=1);have ad:∀f∈ρ.2,Y01:=λf G=>(κ.at f G).1.low;have lle:rv ((W:Int)-1,1)<=wor F W M (eE u) mix (Y3S (1,1)) (Yb2 (0,1)) (Yx):=by
  have h:=VJ (W:=W) (F:=F) (q:=Y3n u) (q0:=wq ρ.2) (mix:=Y29) (ps:=cS (Y3S (1,1))) (cs:=cS (Yb2 (0,1))) Oo hal (λc hc=>by
   have:=QW ad κ.syc.one (c:=c) (by rw[hc,κ.len])
   rwa [κ.len]at this) (λv hv=>by rw[DH hv,pG]) (λk=>qJ _ _) (M-(Yx).sum) (Yx) (by simp)
  rw[LH ad]at h;rw[LY];have e:(((W:Int)-1:Int):Rat)=(W:Rat)-1:=by rw[Rat.intCast_sub];rfl
  rw[e];unfold wor;grind
 refine wK.i (n:=n+2) ((F13.same C).less Oo) (β.same C) TC'.f (J.same C) (μ.same C) ω I Dd f2 f3 m3 Dd d60 (MU _) (nJ Oo Dd) lle λv15 val H15 F15 b15 r15 O=>jT (by show 3<=64;decide) λq16 H16 hq16 e16 ε=>Yg;intro ο ξ;have F14:=F13.same C;have X:=(C.t.trans (F14.t b15)).trans ε.t;have B16:=((B13.trans C.but).trans b15).trans ε.but;have F16:=F15.same ε;have ν:=β.flat X (gE _ _);have rb16:=rb13.flat X (dM _);have θ:=J.flat X (iB _ _ _ _);have α:=δ.flat X (iB _ _ _ _);have ι:Y5g H16 (paN (Y3S (1,1)) (Yy) val) q16:=Y9j e16 (bI.str _) (μ.flat X (dM _)) (Y3U (r15.same ε));clear X ω e14 e16 r15 μ J δ β F13 F14 F15 b15 B13 C ε;refine Y56 _ _ _ rfl _ ?_;refine lY.i (n:=n) (pre:=[.str "none"]) F16 ν θ ι rfl Dd I Dd f3 m3 Dd d997 O λv17 i ca m y H17 F17 b17 r17 hi hm1 hy yn=>?_;obtain⟨a17,x17,rfl,ha17,rx17⟩:=dW r17;obtain⟨cv,Z,rfl,rc17,rr17⟩:=gH rx17;refine⟨a17,[cv,Z],rfl,fY.of ha17,rfl,cv,[Z],rfl,Z,[],rfl,rfl,Y3t⟩;intro ο ξ;have χ:=F16.t b17;have R:=ν.flat χ (gE _ _);have rb17:=rb16.flat χ (dM _);have S:=α.flat χ (iB _ _ _ _);have γ:=ι.flat χ (TF _ _ _);have B17:=B16.trans b17;have V0:=O.wv I ⟨MU _,nJ (show((W:Int)-1).natAbs<=1000 by exact Oo) Dd⟩;have φ:∀f∈a,Y4N 20:=λf G=>(fb f G).1
 have PI:∀val,(∀c∈rise F M,Yau c/\Y1q (val c))->BJ F W M fs u a (Y3S (1,1)) val 20:=λval hv=>⟨TC'.f,f1,f3,Oo,Oo,TC'.trq,lb',by rw[cA],Dd,Dd,λf G=>by rw[Yf4];exact Y8e ((Fn.one _).le Dd),φ,hv⟩;have eS:Y3h (Y1O (Y3S (1,1))*Y1O a)=dD W (cS a):=dF λi hi=>by rw[DH hi,pG];grind
 have nm:=aCp w2 Oo lb' λf G=>(fb f G).2;have eL:rv ((W:Int)-1,1)=(W:Rat)-1:=by rw[LY,Rat.intCast_sub];rfl
 clear ν α θ ι F16 B16 b17 r17 hr hal;refine Y2J (jD.i (nV R S γ (PI val V0.lw) cl V0 O.fst (λj e=>by cases e) (λ_ z=>absurd (by rw[eS,O.first,eL];grind) z) λ_ _ H18 ζ=>Y0b ζ));refine Y2Q Y93;refine Y1l;have V1:=V0.put (aF hi) yn;refine jD.i (nV (R.same ζ) (S.same ζ) (rr17.same ζ) (PI _ V1.lw) cl V1 (O.raised f1 nd hi hm1 hy) (λj e=>uM (λv19 H19 s19 r19=>?_) (gG _)) (λe=>by cases e) λe=>by cases e);cases e;rw[kO hi]at r19;have S19:=ζ.trans s19;refine Y4;refine jT (by show 2<=64;decide) λq20 H20 hq20 e20 s20=>Y6B (Y57 "worth" (gX ca)) (Y57 "worth" (gX ca)) (r19.same s20) (Y9X e20 _ ((rc17.same S19).same s20)) (qI Kk _) (qI Kk _);rw[oM _ (LM _ _)];refine Y4T;have S20:=S19.trans s20;refine Y4;obtain⟨ab,xb',eab,hab,rxb'⟩:=gA (rb17.same S20);cases eab;have tot:=Fn.tot _ φ;have te:rv (jQ a)=dD W (cS a):=by rw[tW _ λf G=>(φ f G).low,xX,lb']
 have tz:Y1q (jQ a):=mK tot Dd (Y1v (show 20<2^6 by decide)) (Y6d (show a.length*1<=2^3 by exact Oo));refine kY.i (.inr hab) (sO.of rxb') (oQ φ Dd (Y1v (show 20<2^6 by decide)) Oo Nat.one_le_two_pow) λv21 H21 s21 r21=>Yg;intro ο ξ;have S21:=S20.trans s21;refine Yt Y0g;refine lZ.i (pre:=[.str "none"]) (γ.same S21) r21 f1 I.f4 I.m5 Dd λv22 H22 s22 r22=>?_;have O2:=YfU (jQ a) (by rw[te,eL];grind)
 have V2:=O2.wv I ⟨tot.low,tz⟩;have S22:=S21.trans s22;refine jD.i (nV (R.same S22) (S.same S22) r22 (PI _ V2.lw) cl V2 O2.fst (λj e=>by cases e) (λ_ _=>uM (λv23 H23 s23 r23=>?_) rfl) λ_ z=>absurd z (by rw[eS,O2.first,te];grind));refine jT (by show 2<=64;decide) λq24 H24 hq24 e24 s24=>Y6B (Y57 "sum" .none) (Y57 "sum" .none) (r23.same s24) (Y9X e24 _ bI.non) Kk Kk;rw[oM _ rfl];refine Y4T;have S24:=(S22.trans s23).trans s24;obtain⟨el,ep,e1⟩:=aAr;refine Yt (Yt (Y2R ⟨Dd,Dd,Dd⟩ ?_));refine jT (by show 2<=64;decide) λq25 H25 hq25 e25 s25=>?_;have S25:=S24.trans s25;have r25:Y6H H25 (1,10^64) q25:=Y65 e25;have ez:Y1q (1,10^64):=nJ Dd Kk;refine YbG ((((r21.same s22).same s23).same s24).same s25) (gD.of r25) tot.low el tz ez (λq26 H26 hq26 e26 s26=>?_);have S26:=S25.trans s26;have l3:cT (kH (jQ a) (1,10^64)):=pX tot.low el;have v3:rv (kH (jQ a) (1,10^64))=dD W (cS a)+rv (1,10^64):=by rw[oE tot.low.pos el.pos,te]
 refine lZ.i (pre:=[.str "none"]) (γ.same S26) (cO e26) f1 I.f4 I.m5 Dd λv27 H27 s27 r27=>?_;have O3:=YfU (kH (jQ a) (1,10^64)) (by rw[v3,eL];grind)
 have V3:=O3.wv I ⟨l3,aAQ tot (Y6d (show a.length*1<=2^3 by exact Oo))⟩;have S27:=S26.trans s27;refine jD.i (nV (R.same S27) (S.same S27) r27 (PI _ V3.lw) cl V3 O3.fst (λj e=>by cases e) (λ_ z=>absurd (by rw[eS,O3.first,v3];grind) z) λ_ _ H28 s28=>Y0b s28);refine Y7a;have S28:=S27.trans s28;exact k H28 (F17.same S28) (B17.trans S28.but)
end
abbrev aBQ:Stmt:=(top 92)
def vX:Ya ["_law_feed_here","_law_trial_here","_law_aim_here","_law_looks","_law_ways","_law_rule_here","_law_wrongs","_law_bounds","_law_prices","_law_thing","_law_counts_here","_law_raised_here","_law_way","_law_tight","_law_small"] a16 aBQ:={}
def WH{X:Cx}{e:Expr}{t:L2.TE}(h:Yc e t):Yc e (wH t):=⟨h.p.mono⟩
def WS{K:Aa}{H:Hp}{a:Addr}{xs:An}{k:Nat}{z:Int}{Q:VK}(hz:z=(k:Int))(h:H a=Y0k)(q:∀c H',Y0->H' c=Ym (xs.take k)->Y0i c):BH K (Y3) none (some z) H Q:=by subst hz;exact zU h q
inductive DN:Yh
 | i {H:Hp} {Q:VK} {E:XK} {p L:Addr} {n:Nat} {tv av:V} {b:Bool} {fs:Ai} {ws:Y03} {bs mix cs:Al} {F W M:Nat} (h0:Y20 (n+1600)) (h1:Y40 tv) (h2:VM F W fs ws) (h3:Y2K M) (h4:2<=F) (h5:F<=3) (h6:2<=W) (h7:W<=3) (h8:M<=3) (h9:IK W mix) (h10:Yad M) (h11:∀f∈cs,QM f) (q0:∀H',Y3d->Y0l->Y1X):DN [Y0y,tv,av,.bl b] H Q E
def yZ{s:Str}(hs:PyData.canLay0 (.str s)=true)(i:Int):Y4I (Y57 s Y15):=by
 refine(xB.tup (n:=1) λd hd=>?_).ok;rcases bD.mp hd with rfl | hd
 ·exact⟨hs,by simp[PyData.depth]⟩
 ·rw[aU.mp hd];exact xB.int i
section
def aFE(F:Y9 "_law_rule_right" "_law_rule_right" aBQ)(T:Yb)(FQ5:Y7i "_law_draw")(FQ8:Y8b "_law_frac" eQ)(FQ15:Y0e 4 "_law_rule" a09 uV)(FQ12:Y0e 4 "_law_of_rule" a24 qN)(FQ23:Y0e 6 "_law_told_worths" a05 wK)(FQ14:Y0e 5 "_law_raised" a06 lY)(FQ22:Y0e 11 "_law_told" a19 (jD K c.NoPaper))(FQ7:Y06 "_law_first" a39 lZ):dI P w K mg base cN 12 f fd a16 DN:=by
 refine Y1e vX;obtain @⟨H,Q,E,p,L,n,tv,av,b,fs,G,bs,N,cs,F,W,M,F0,rt,TC,ra,f2,f3,w2,w3,m3,hm,cl,hc,k⟩:=h;refine Yf;intro cdv A outer s hr _;obtain⟨aa,xb,xm,xc,rfl,haa,rxb,rxm,rxc⟩:=mH ra;obtain⟨at_,af,aw,xf,xw,rfl,hat,J,hw,rf,rw'⟩:=tJ rt;have lxw:xw.length=W:=by have:=cC rw';rw[TC.w]at this;exact this
 have lxf:xf.length=F:=by rw[cC rf,TC.f]
 refine⟨_,(aG (Y3Y vX.nd (Y6O gO (by rfl) Kk 1))
  (aG (Y62 vX.nd (Y9W FQ15 Dd (Y7w 0 (Y6O gO (by rfl) Kk 1) (Y6p 4 (Y2V (WH (FR (fO (aA 3)) (Y16) aE)) jP)))))
  (aG (tS (Y92 (fO (aA 3)) (Y1T vX.nd (Y4S K (Y5w K 2 iX (iW aE)) (Y6E (bP vJ (Yd4) (Y16)))))))
  (aG (Y5o vX.nd (Y28 (Y3y FQ12 1 2 5)))
  (aG (Ybb 7 (Y6i dN (by rfl) Kk ["_law_one"] [] (Y30 6) (bO FQ8 (bP oG aE (bP gQ (bP oG aE (bP eG aE (Y7j 0))) (Y7j 0))) aE)))
  (aG (Y1T vX.nd (cG (aM (Y16) (Y7w 7 Y16 (Y9A 2)))))
  (aG (Ybb 8 (Y0F vJ Yd4 4))
  (aG (Ybb 9 (cG (Y4r dR (aA 5) (Y2I 8 (Y9W FQ23 Dd (Y3w 0 1 (Y6p 2 (Y2I 8 Y4L))))))))
  (aG (IS (FT FQ14 (aA 0) (aA 1) (aA 2) (aA 9)) (pE rfl (fJ (Y5R 10 vX.nd) (fJ (Y5R 11 vX.nd) mL))))
  (aG (fG (uJ (uH (eM GP (Y3y FQ22 1 2 9) jP) (qF (eM (YeQ) (Y3y FQ22 1 2 11) (Y2t dR (aA 10)))))) (Y0L jP) dB)
  (aG (fG (eM (YeQ) (iT FQ22 (aA 1) (aA 2) (Y0O FQ7 9 (Y2t (rZ nQ aE) aE))) (Y2t dR pF)) (Y0L jP) dB)
  (aG (Ybb 12 (Y0w FQ5 0 4))
  (aG (fG (eM (DZ hr.units) (Y6S 6 12) (Y4L)) (Y0L jP) dB)
  (aG (Ybb 13 (bO FQ8 (bP gQ (bP oG (bP eG aE (Y28 (Y6S 6 12))) aE) (Y28 (Y6S 6 12))) aE))
  (aG (Ybb 14 (Y4S K (Y4S K (Y5w K 7 iX (iW (aA 12))) (cG (Y2s 13))) (Y5w K 7 (iW (Y6w 12)) iX)))
  (Y0L (kE (DZ hr.units) (iT FQ22 (aA 1) (cG (Y4r Y16 (aA 14) (Y2V Y16 Y16))) (aA 9)) (Y2t dR (aA 12))))))))))))))))))),?_⟩
 refine Yp;intro ξ n_;refine Yu hat;refine GJ hw (Yg);intro ξ n_;rw[lxw];refine Y27 hat;refine Y3J J;rw[lxf];refine Y4;obtain⟨Mr,hMr⟩:∃Mr:Nat,Mr=if b then M else 0:=Y3z
 have hMM:Mr<=M:=by cases b <;> simp_all
 refine Y2n (λv H'=>v=.int (Mr:Nat)/\H'=H)
 ·cases b
  ·rw[hMr];refine Yt Y93;exact Y6k
  ·rw[hMr];refine Yt (lL ?_);refine Yu haa;exact Y6k
 rintro v H0' ⟨rfl,rfl⟩;have small:(Y2W Mr).length<=20:=JK F f3 Mr Oo;refine uV.i (n:=n+100) F0 f2 Oo Oo Oo Oo Oo λrv1 C H1 F1 b1 rr1 R od lfew=>Yg;intro ξ n_;have t1:=F0.t b1;refine Y2n (λσ H'=>∃(av2:V) (D:Al) (o6 o7 o8 o9 o10 o11 o12 o13 o14:Ao),σ=[Y1f,Y48,some av2,some (.bl b),Yk (W:Nat),some rv1,o6,o7,o8,o9,o10,o11,o12,o13,o14]/\aX H1 H'/\bI H' (mY M bs N D) av2/\D.length=M/\(∀f∈D,QM f)/\∀e∈C,Y2D->cS D e.1.sum=0)
 ·rintro σ H2 ⟨av2,D,o6,o7,o8,o9,o10,o11,o12,o13,o14,rfl,s2,ra2,cl2,γ,fr2⟩;refine Y3t;intro ξ n_;have χ:IM (dens D) W Mr C N D:=⟨hm.len,λf J=>(hm.at f J).1,⟨AR γ,HI γ Oo,λf J=>(NK γ f J).le Dd,λe he hs=>by have:=R.on e he hs;exact Oo⟩⟩;have TQ1:=TC.trq;have rt2:=(rt.flat t1 (gE _ _)).same s2;refine Y1l;refine qN.i rt2 (rr1.same s2) ra2 R f2 Oo Oo Oo TC.f (λx κ=>(TC.sh x κ).len) TQ1 χ λa3 Lw ys sv H3 s3 ha3 eL3 rL3 _=>Y3R ha3;refine Yg;intro ξ n_;have lys:Y2Y W:=by rw[cC rL3,aB,bC]
  have S13:=s2.trans s3;refine Y31 Lw eL3 ?_;have θ:∀w,w<W->cT (Y2e w)/\0<=(Y2e w).1/\(Y2e w).1<=(Y2e w).2:=λw B=>by
   obtain⟨x,κ⟩:∃x,G[w]?=Y8:=Y1i (by rw[TC.w];exact B);have sx:=TC.sh x (aF κ);have hs:∀f∈x.2,Y01/\0<=f.1:=λf J=>⟨(sx.at f J).1.low,(sx.at f J).2⟩;have h1:=R.sdnn hs w;have h2:=R.sd1 hs sx.syc.one sx.len B;unfold rX;rw[oF κ];have lo:=bL (1-kK F C (wq x.2) w);refine Y2n lo
   ·refine bU Y5t;have:=(oB (g:=(0,1)) lo.pos Dd).mp (by show _*1<0*_;exact Oo);rw[dA,iF]at this;grind
   ·refine bU Y5t;have:=(oB (f:=(1,1)) Dd lo.pos).mp (by show 1*_<_*1;exact Oo);rw[dA,pG]at this;grind
  obtain⟨tq,htq⟩:∃tq:Nat->Int,∀w,tq w=0-(0-100*(Y2e w).1)/(Y2e w).2:=⟨λw=>0-(0-100*(Y2e w).1)/(Y2e w).2,Ydc⟩;have tqs:∀w,w<W->0<=tq w/\tq w<=100/\100*(Y2e w).1<=tq w*(Y2e w).2:=λw B=>by
   obtain⟨h0,h1,h2⟩:=θ w B;rw[htq];exact YY h0.pos h1 h2
  refine lB (λi y H'=>i<W/\Y3K (lw (tq i) 100)) (λi y H1 H2 s ⟨h1,h2⟩=>⟨h1,Yey s⟩) Oo eL3 (λi x H' Q' κ s' k'=>?_) (λD4 zs H4 hD4 e4 s4 hz hr4=>?_)
  ·obtain⟨g,hg,rg⟩:=cR rL3 κ;have hi:i<W:=by rw[<-lys];exact(aO.mp κ).1
   rw[aR,cX hi]at hg;cases hg;obtain⟨bx,rfl,ρ⟩:=rC (rg.same s');obtain⟨gl,g0,g1⟩:=θ i hi;have n2:Y2p 1 (2^161) (Y2e i):=(Y1K (R.wr Oo TQ1 hi)).fq;have gz:=Y7g n2;refine Yu ρ;refine Y2R YdL (Y2l _ rfl (Yu ρ));refine Y2R (sM gl.pos (Y1v gz.2)) Y7a;exact eQ.i Dd (Y1v (show 100<2^7 by decide)) λq5 H5 hq5 e5 ε=>k' _ H5 ε ⟨hi,by rw[htq i];exact cO e5⟩
  have rz4:aH H4 (((List.range W).map λi=>lw (tq i) 100).map eA) zs:=Y7D hr4;obtain⟨r,ac⟩:∃r,r=(List.range W).map λi=>lw (tq i) 100:=Y3z;rw[<-ac]at rz4;have μ:r.length=W:=by rw[ac,aB,bC]
  have vb:∀w,w<W->cS r w=rv (tq w,100):=λw B=>by
   rw[ac,lH (f:=lw (tq w) 100) (by rw[aR,cX B];rfl)];exact(hund (tqs w B).1 (tqs w B).2.1).2.2
  have fb':∀f∈r,Y4N 100:=λf J=>by
   rw[ac]at J;obtain⟨w,B,rfl⟩:=aQ.mp J;have B:=cB.mp B;exact(hund (tqs w B).1 (tqs w B).2.1).1
  have nob:∀w,w<W->¬cS r w<1-kK F C (Y5x G w) w:=λw B=>by
   rw[vb w B];have:=YT (θ w B).1.pos (tqs w B).2.2;unfold rX at this
   rwa [dA]at this
  refine Y4X D4 zs e4 (λl5 hl5=>?_);refine Yg;intro ξ n_;have ε:=Y3m zs hl5;have e5:(upd H4 l5 (.tup zs)) l5=Ym zs:=bK;generalize upd H4 l5 (.tup zs)=H5 at ε e5;have rb5:Y5g H5 (lK r) l5:=bI.tup e5 (aH.same ε rz4);have S15:=(S13.trans s4).trans ε;have eL5:=ε _ _ (s4 _ _ eL3);have rL5:=aH.same ε (aH.same s4 rL3);obtain⟨a2,y1,y2,y3,rfl,ha2,_,ry2,ry3⟩:=mH (ra2.same ((s3.trans s4).trans ε));have rt5:=((rt2.same s3).same s4).same ε;have rr5:=rr1.same S15;have F5:=F1.same S15;have B5:=b1.trans S15.but;clear e4 e5 hr4 rz4 hz s4 ε ra2 rt2 ha3 eL3 rL3 ac htq S13;refine Yu ha2;refine Y27 ha2;refine Yu ha2;refine jT (by show 4<=64;decide) λq10 H10 hq10 e10 s10=>Yg;intro ξ n_;have raa:Y5g H10 (mY M r N D) q10:=Y9j e10 Y7o (rb5.same s10) (Ybz (ry2.same s10) (ry3.same s10));refine jT (by show 2<=64;decide) λq11 H11 hq11 e11 s11=>jT (by show 1<=64;decide) λq12 H12 hq12 e12 s12=>Y4;refine TR e12 Oo λq13 H13 s13 e13=>Yg;intro ξ n_;have r11:Y6H H11 (0,1) q11:=Y65 e11;have rp13:Y5g H13 (lK (Y3S (0,1))) q13:=yK ((r11.same s12).same s13) e13;have S1013:=(s11.trans s12).trans s13;have S13:=s10.trans S1013
  refine⟨_,rfl,_,rfl,_,rfl,_,rfl,_,rfl,_,rfl,?_⟩;refine jT (by show 2<=64;decide) λq14 H14 hq14 e14 s14=>?_;have rl14:Y6H H14 (0,1) q14:=Y65 e14;have S14:=S13.trans s14;have β:=(raa.same S1013).same s14;have υ:=rp13.same s14;have ω:=rt5.same S14;have rr14:=rr5.same S14;have rb14:=rb5.same S14;have F14:=F5.same S14;have ζ:=S14 _ _ eL5;have rL14:=aH.same S14 rL5;have B14:=B5.trans S14.but;have I:jE F W M (eE G) N (Y3S (0,1)) D iI iI 59820 (dens D) 999:=aDg TC f2 Oo Oo Oo Oo hm (by rw[cA]) (λf J=>by rw[Yf5];exact(Fn.zero _).le Dd) cl2 (AR γ) (HI γ Oo) (NK γ);have f1:=I.f1;have nd:=oY F I.f4 M I.m5;obtain⟨d60,d997⟩:=aDV (M:=M) (Nc:=dens D);have mnn:∀v,v<W->0<=cS N v:=λv hv=>by
   have κ:=hm.at _ (eV (a:=(0,1)) (show v<N.length by rw[hm.len];exact hv));exact LZ κ.1.low κ.2
  have cnn:∀k,0<=cS D k:=λk=>by
   by_cases hk:k<D.length
   ·have κ:=γ _ (eV (a:=(0,1)) hk);exact LZ κ.1 κ.2.1
   ·rw[uL Oo];exact Rat.le_refl
  have ep0:cS (Y3S (0,1))=λ_=>(0:Rat):=funext λv=>qJ _ _;have wor0:wor F W M (eE G) N (Y3S (0,1)) D (Yx)=0:=by
   unfold wor;rw[ep0];exact QX Oo (λv c=>TC.nn v c) mnn cnn _ _
  clear r11 e10 e11 e12 e13 raa rp13 ha2 rb5 ry2 ry3 rt5 rr5 F5 eL5 rL5 B5 S13 S14 S1013 S15 e14 s14 s10 s11 s12 s13;refine wK.i (n:=n+3) (F14.less Oo) ω TC.f β υ rl14 I Dd f2 f3 m3 Dd d60 GW (nJ Dd Dd) (by rw[wor0,iF];exact Rat.le_refl) λv15 val H15 F15 b15 r15 O=>jT (by show 4<=64;decide) λq16 H16 hq16 e16 ι=>Yg;intro ξ n_;have nLp:Lw≠p:=λz=>by
   obtain⟨ns,t,l,hp,_⟩:=F14.ex;rw[z,hp]at ζ;cases ζ
  have δ:=(F14.t b15).trans ι.t;have B16:=(B14.trans b15).trans ι.but;have F16:=F15.same ι;have rt16:=ω.flat δ (gE _ _);have rb16:=rb14.flat δ (dM _);have Z:=β.flat δ (iB _ _ _ _);have eL16:=ι _ _ (b15.at nLp ζ);have rL16:=Y8L δ _ rL14;have rh16:Y5g H16 (paR C (Y3S (0,1)) (Yy) val) q16:=bI.tup e16 (aH.cons (bI.str _) (YbV (rr14.flat δ (vI _)) (υ.flat δ (dM _)) (Y3U (r15.same ι))));clear δ rl14 e16 r15 rr14 υ β ω rb14 F14 F15 b15 B14 ι ζ rL14;refine Y56 _ _ _ rfl _ ?_;refine lY.i (n:=n+1) (pre:=[.str "rule",GI C]) F16 rt16 Z rh16 (by show(dQ (.str "rule")&&(dQ (GI C)&&true))=true;rw[vI];rfl) (by show 2<=8;decide) I Dd f3 m3 Dd d997 O λv17 i ca m y H17 F17 b17 r17 hi hm1 hy yn=>?_;obtain⟨a17,x17,rfl,ha17,rx17⟩:=dW r17;obtain⟨cv,ο,rfl,rc17,rr17⟩:=gH rx17;refine⟨a17,[cv,ο],rfl,fY.of ha17,rfl,cv,[ο],rfl,ο,[],rfl,rfl,Y3t⟩;intro ξ n_;have t17:=F16.t b17;have S:=rt16.flat t17 (gE _ _);have rb17:=rb16.flat t17 (dM _);have U:=Z.flat t17 (iB _ _ _ _);have η:=rh16.flat t17 (GM _ _ _ _);have eL17:=b17.at nLp eL16;have rL17:=Y8L t17 _ rL16;have B17:=B16.trans b17;have V0:=O.wv I ⟨GW,nJ Dd Dd⟩
  have PI:∀(bb:Al) val,bb.length=W->(∀f∈bb,Y4N 100)->(∀c∈rise F M,Yau c/\Y1q (val c))->BJ F W M fs G bb (Y3S (0,1)) val 100:=λbb val hl hb hv=>⟨TC.f,f1,f3,Oo,Oo,TQ1,hl,by rw[cA],Dd,Dd,λf J=>by rw[Yf5];exact Y8e ((Fn.zero _).le Dd),hb,hv⟩;have eS:∀bb:Al,Y3h (Y1O (Y3S (0,1))*Y1O bb)=0:=λbb=>by
   rw[Y7C 0 (λi hi=>by rw[qJ];grind),kJ]
  have fW:IR W (λw=>cS r w<1-kK F C (Y5x G w) w) none:=⟨λi e=>(by cases e),λ_ j hj=>nob j hj⟩;have eC:rO F W C (Y3n G) (cS N) (cS D)=0:=R.free fr2;clear rt16 Z rh16 F16 B16 b17 r17 hr rb16 eL16 rL16;refine Y2J (jD.i (nU S U η (PI r val μ fb' V0.lw) V0 O.fst R od Oo hMM χ fW (λj e=>by cases e) (λ_ j e=>by cases e) (λ_ _ z=>absurd (by rw[eS,O.first,eC,iF];grind) z) λ_ _ _ H18 ψ=>Y0b ψ));refine Y2Q Y93;refine Y1l;have V1:=V0.put (aF hi) yn;refine jD.i (nU (S.same ψ) (U.same ψ) (rr17.same ψ) (PI r _ μ fb' V1.lw) V1 (O.raised f1 nd hi hm1 hy) R od Oo hMM χ fW (λj e=>by cases e) (λ_ j e=>uM (λv19 H19 s19 r19=>?_) (gG _)) (λ_ e=>by cases e) λ_ e=>by cases e);cases e;rw[kO hi]at r19;have S19:=ψ.trans s19;refine Y4;refine jT (by show 2<=64;decide) λq20 H20 hq20 e20 s20=>Y6B (Y57 "worth" (gX ca)) (Y57 "worth" (gX ca)) (r19.same s20) (Y9X e20 _ ((rc17.same S19).same s20)) (qI Kk _) (qI Kk _);rw[oM _ (LM _ _)];refine Y4T;have S20:=S19.trans s20;clear r19 e20 V1 rr17 ha17 rc17 yn hy hm1;refine Yt (Y6 Y4);refine jT (by show 2<=64;decide) λq21 H21 hq21 e21 s21=>?_;have S21:=S20.trans s21
  have r21:Y6H H21 (-1,997) q21:=Y65 e21;have lm:cT (-1,997):=Y8e (by show(0:Int)<997;decide);have rm:rv (-1,997)<0:=by
   have:=(oB (f:=(-1,997)) (g:=(0,1)) Dd Dd).mp Dd
   rwa [iF]at this
  refine lZ.i (pre:=[.str "rule",GI C]) (η.same S21) r21 f1 I.f4 I.m5 (by show 2<=8;decide) λv22 H22 s22 r22=>?_;have O2:=YfU (-1,997) (by rw[iF];grind)
  have V2:=O2.wv I ⟨lm,nJ Dd Dd⟩;have S22:=S21.trans s22;refine jD.i (nU (S.same S22) (U.same S22) r22 (PI r _ μ fb' V2.lw) V2 O2.fst R od Oo hMM χ fW (λj e=>by cases e) (λ_ j e=>by cases e) (λ_ _ _=>uM (λv23 H23 s23 r23=>?_) rfl) λ_ _ z=>absurd z (by rw[eS,O2.first,eC];grind));refine jT (by show 2<=64;decide) λq24 H24 hq24 e24 s24=>Y6B (Y57 "sum" .none) (Y57 "sum" .none) (r23.same s24) (Y9X e24 _ bI.non) Kk Kk;rw[oM _ rfl];refine Y4T;have S24:=(S22.trans s23).trans s24;clear r21 r22 r23 e21 e24 V2 O2;refine Y0g;refine YaY n (F17.same S24) Oo (bS (show((W:Nat):Int).natAbs<=5 by exact Oo) Dd) (λx H25 x0 x1 F25 b25=>Yg);intro ξ n_;obtain⟨u,rfl⟩:∃u:Nat,x=u:=Y1j x.toNat;have φ:u<W:=Oo;have t25:=(F17.same S24).t b25;have T25:=S24.t.trans t25;have B25:=(B17.trans S24.but).trans b25;have eL25:=b25.at nLp (S24 _ _ eL17);have rL25:=Y8L T25 _ rL17;have rt25:=S.flat T25 (gE _ _);have rb25:=rb17.flat T25 (dM _);have ra25:=U.flat T25 (iB _ _ _ _);have rh25:=η.flat T25 (GM _ _ _ _);obtain⟨g,hg,rg⟩:=aH.atX rL25 (i:=u) (a:=Y2e u) (by rw[aR,cX φ];rfl);obtain⟨bx,rfl,ρ⟩:=rC rg;obtain⟨gl,g0,g1⟩:=θ u φ;clear S U η rb17 rL17 eL17 F17 b25 B17 rL25;refine Yt (IP eL25 (cU hg) ?_);refine jT (by show 2<=64;decide) λq26 H26 hq26 e26 ν=>?_
  refine Y6B (eA (Y2e u)) (eA (0,1)) (rg.same ν) (Y65 e26) rfl rfl;rw[UE];refine Y4;by_cases gz:Y2e u=(0,1)
  ·rw[bV gz];refine lL (Y3G);intro ξ;exact k H26 (F25.same ν) (B25.trans ν.but)
  rw[cI gz];refine Y93;have ad:0<(Y2e u).1:=by
   refine bU λz=>gz ?_;have h0:(Y2e u).1=0:=Oo;refine gL gl GW ?_;rw[iF];have h1:=xG gl.pos;rw[h0]at h1;have h2:=nF gl.pos;grind
  have n2:Y2p 1 (2^161) (Y2e u):=(Y1K (R.wr Oo TQ1 φ)).fq;have gsz:=Y7g n2;have nb1:=nob u φ;have ub1:rv ((100*(Y2e u).1-1)/(Y2e u).2,100)<1-kK F C (Y5x G u) u:=by
   have:=YS gl.pos (HC gl.pos ad g1).2.2;have e:rv (Y2e u)=1-kK F C (Y5x G u) u:=dA _
   rwa [e]at this
  obtain⟨u0,u1,_⟩:=HC gl.pos ad g1;obtain⟨hn,_,hv⟩:=hund u0 u1;have α:=ν _ _ ρ;generalize rX F W C (eE G) u=gw at gl g0 g1 gz ad n2 gsz ub1 u0 u1 hn hv α rg ρ;have eL26:=ν _ _ eL25;refine Yt (IP eL26 (cU hg) ?_);refine Y3Q α (Y2R YdL (Y2l _ rfl (Yt (IP eL26 (cU hg) ?_))));refine Y3Q α (Y2R (sM gl.pos (Y1v gsz.2)) ?_);refine eQ.i Dd (Y1v (show 100<2^7 by decide)) λq27 H27 hq27 e27 s27=>Yg;intro ξ n_;rw[<-hv]at ub1;generalize lw ((100*gw.1-1)/gw.2) 100=tg at hn hv ub1 e27;have S27:=ν.trans s27;obtain⟨ab,X,eab,hab,rxb⟩:=gA (rb25.same S27);cases eab;have lxb:X.length=W:=by rw[cC rxb,μ]
  refine Y1l;refine zU hab λq28 H28 s28 e28=>Y4;refine jT (by show 1<=64;decide) λq29 H29 hq29 e29 s29=>vV (s29 _ _ e28) e29 (by rw[cW];show min u X.length+1<=1000;exact Oo) λq30 H30 s30 e30=>Y56 _ _ _ _ rfl ?_;refine Y4;have S30:=(s28.trans s29).trans s30;refine vE (k:=u+1) Oo (S30 _ _ hab) λq31 H31 s31 e31=>vV (s31 _ _ e30) e31 (by rw[bF,cW,List.length_drop];show min u X.length+1+(X.length-(u+1))<=1000;exact Oo) λq32 H32 s32 e32=>?_;have S32:=(S30.trans s31).trans s32;have e32':H32 q32=Ym (X.set u (.ref q27)):=by
   rw[e32,List.set_eq_take_append_cons_drop,Y5p,List.append_assoc];rfl
  have rs32:Y5g H32 (lK (Yaz u)) q32:=by
   refine bI.tup e32' (aH.ofIdx (by rw[List.length_set,aB,List.length_set,lxb,μ]) λj z hz=>?_);by_cases e:j=u
   ·subst e;rw[Ydl]at hz;cases hz;exact⟨eA tg,by rw[aR,Ydl];rfl,(cO e27).same S32⟩
   ·rw[YaK e]at hz;obtain⟨d,hd,rd⟩:=cR rxb hz;exact⟨eA d,by rw[aR,YaK e,hd];rfl,rd.same S32⟩
  have S2532:=S27.trans S32;obtain⟨a33,z1,z2,z3,ea33,τ,_,rz2,rz3⟩:=mH (ra25.same S2532);cases ea33;refine Y27 τ;refine Y27 τ;refine Yu τ;refine jT (by show 4<=64;decide) λq34 H34 hq34 e34 s34=>?_;have ra34:Y5g H34 (mY M (Yaz u) N D) q34:=Y9j e34 Y7o (rs32.same s34) (Ybz (rz2.same s34) (rz3.same s34));have S34:=S2532.trans s34;have fW2:IR W (λw=>cS (Yaz u) w<1-kK F C (Y5x G w) w) (Yv):=by
   refine⟨λi e=>?_,λe=>(by cases e)⟩;cases e;refine⟨φ,?_,λj hj=>?_⟩
   ·have:cS (Yaz u) u=rv tg:=lH (f:=tg) (Ydl);show cS (Yaz u) u<_;rw[this];exact ub1
   ·have:cS (Yaz u) j=cS r j:=by unfold cS;rw[bH,List.getElem?_set_ne Oo,<-bH]
    show ¬cS (Yaz u) j<_;rw[this];exact nob j Oo
  have fb2:∀f∈r.set u tg,Y4N 100:=λf J=>by
   rcases List.mem_or_eq_of_mem_set J with h | h
   ·exact fb' f h
   ·rw[h];exact hn
  refine Y6 (jD.i (nU (rt25.same S34) ra34 (rh25.same S34) (PI _ val (by rw[List.length_set,μ]) fb2 V0.lw) V0 O.fst R od Oo hMM χ fW2 (λj e=>uM (λv35 H35 s35 r35=>?_) rfl) (λe=>by cases e) (λe=>by cases e) λe=>by cases e));cases e;refine Y4;refine jT (by show 2<=64;decide) λq36 H36 hq36 e36 s36=>Y6B (Y57 "wrong" (.int (u:Nat))) (Y57 "wrong" (.int (u:Nat))) (r35.same s36) (Y9X e36 _ Y7o) (yZ Kk _) (yZ Kk _);rw[oM _ rfl];have S36:=(S34.trans s35).trans s36;exact k H36 (F25.same S36) (B25.trans S36.but)
 ·cases b
  ·refine Yt Y93;refine⟨.ref aa,cs,_,_,_,_,_,_,_,_,_,rfl,Y07,ra.flat t1 (iB _ _ _ _),cl,hc,λe he h0=>?_⟩;have:=R.on e he h0;simp at hMr;exact Oo
  ·refine Yt (lL ?_);refine Y3G;intro ξ;have haa1:=t1 _ _ haa;refine Y0g;refine WS (k:=3) rfl haa1 λq2 H2 s2 e2=>YfM (by show 2<=64;decide) (jT (by show 1<=64;decide) λq4 H4 hq4 e4 s4=>?_);have S4:=(s2.trans s3).trans s4;refine Yu (S4 _ _ haa1);refine TR e4 Oo λq5 H5 ε e5=>jT (by show 1<=64;decide) λq6 H6 hq6 e6 s6=>?_;have e2':=s6 _ _ (ε _ _ (s4 _ _ (s3 _ _ e2)));refine vV e2' e6 (by show 3+1<=1000;decide) λq7 H7 s7 e7=>?_;have S7:=((S4.trans ε).trans s6).trans s7;have r3:Y6H H3 (0,1) q3:=Y65 e3;have r5:Y5g H5 (lK (Yb2 (0,1))) q5:=yK ((r3.same s4).same ε) e5;refine⟨.ref q7,Yb2 (0,1),_,_,_,_,_,_,_,_,_,rfl,S7,bI.tup e7 (Yex (YbV ((rxb.flat t1 (dM _)).same S7) ((rxm.flat t1 (dM _)).same S7) (Y3U ((r5.same s6).same s7)))),by rw[cA],λf J=>by rw[Yf5];exact⟨GW,Dd,Dd,Dd⟩,λe he h0=>qJ _ _⟩
end
abbrev WV:Stmt:=(top 93)
def IA:Ya ["_law_script","_law_feed_here","_law_turn","_law_faces","_law_ways","_law_trial_here","_law_aim_here","_law_case"] a40 WV:={}
section
def aE0(F:Y9 "law" "law" WV)(T:Yb)(FQ6:Y06 "_law_feed" a40 (yF K))(FQ5:Y7i "_law_draw")(FQ25:Y1B "_law_trial" a32 sU)(FQ1:Y1B "_law_aim" a34 yC)(FQ11:Y0e 12 "_law_none_right" a25 uW)(FQ16:Y0e 12 "_law_rule_right" a16 DN):dI P w K mg base cN 13 f fd a40 (wL K):=by
 refine Y1e IA;unfold wL at h;obtain⟨a,ns,rfl,ι,τ,k⟩:=h;refine Yf;intro θ A C s hr _;refine⟨_,(aG (Y8U IA.nd (Y3L FQ6))
  (aG (eO PassesOwn.never rfl (Y5h aE) (Y5R 2 IA.nd) (aG (Y13 IA.nd (Y6V eB aE 1))
  (aG (Y3Y IA.nd (Y6V eB aE 1))
  (aG (Y62 IA.nd (Y3y FQ25 1 3 4))
  (aG (Y5o IA.nd (iT FQ1 (aA 1) (aA 4) (Y5s 1)))
  (aG (Yby IA.nd (Y5s 1))
  (aG (fG (xW (uJ (yU (Y4R tO 7 aE) (uI (lE (fO (Y3y FQ11 1 5 6))))))) (Y0L jP) dB)
  (aK (fG (xW (uJ (yU (Y4R sG 7 aE) (uI (lE (fO (FT FQ16 (aA 1) (aA 5) (aA 6) (kE tO (aA 7) aE)))))))) (Y0L jP) dB)))))))))
  (Y0L jP))),?_⟩
 refine Yp;intro e d;refine Y4;refine yF.i ι τ λp L H1 F1 s1 μ ξ=>⟨_,rfl,Dd,Dd,?_⟩;refine Y8F (Ex6 λ(R B S D Z J:Ao)=>An2 (σ=[Y2b,Y1f,R,B,S,D,Z,J]) (Y7V (999999000000-2000*i))) ⟨_,_,_,_,_,_,rfl,F1.less Dd⟩ ?_ ?_
 ·rintro i σ H2 κ ⟨R,B,S,D,Z,J,rfl,F2⟩;refine Y69;intro e d;have χ:i<3:=κ;obtain⟨N,ν⟩:∃N,999999000000-2000*i=N+2000:=Y1j (999999000000-2000*i-2000);rw[ν]at F2;refine Y4;refine Y1Y (N+1999) F2 (λε H3 a2 b2 F3 s3=>?_);obtain⟨G,rfl⟩:∃b:Nat,ε=(b:Int):=Y1j ε.toNat;refine Y2l _ rfl Yg;intro e d;refine Y4;refine Y1Y (N+1998) F3 (λα H4 a3 b3 F4 s4=>?_);obtain⟨y,rfl⟩:∃b:Nat,α=(b:Int):=Y1j α.toNat;refine Y2l _ rfl Yg;intro e d;refine Y1l;have U:2<=2+G/\2+G<=3:=Oo;have O:2<=2+y/\2+y<=3:=Oo;refine sU.i (n:=N+1900) (F:=2+G) (W:=2+y) (F4.less Oo) U.1 Oo O.1 Oo λtv fs ws H5 F5 s5 ψ TT=>Yg;intro e d;refine Y1l;refine Y1Y (N+1899) F5 (λβ H6 a5 b5 F6 ω=>?_);obtain⟨M,rfl⟩:∃b:Nat,β=(b:Int):=Y1j β.toNat;refine yC.i (n:=N+1700) (W:=2+y) (M:=M) (F6.less Oo) Oo Oo Oo λav bs ρ cs H7 F7 ζ η υ ο j r m=>Yg;intro e d;have I:=(ψ.flat (F5.t ω) (gE _ _)).flat (F6.t ζ) (gE _ _);refine Y4;refine Y1Y (N+1690) (F7.less Oo) (λx H8 a8 b8 F8 γ=>Yg);intro e d;have u:=I.flat (F7.t γ) (gE _ _);have g:=η.flat (F7.t γ) (iB _ _ _ _);have l:∀z:Int,Y0Q (V.int x) (V.int z)=Y0Q x z:=λz=>by rw[decide_eq_decide];exact⟨λq=>V.int.inj q,λq=>by rw[q]⟩
  refine Y2n (λb H'=>Yq b/\Y7V (N+1610)/\Y5U p H8)
  ·refine Y50 _ rfl _ ?_;rw[l];by_cases z:x=0
   ·rw[bV z];refine lL Y1l;exact uW.i (n:=N+1610) (F8.less Oo) u TT g U.1 Oo O.1 Oo Oo j r m λH9 F9 X=>Y1C rfl F9 X
   ·rw[cI z];exact lD ⟨rfl,F8.less Oo,(Y07).but⟩
  rintro b H9 ⟨rfl,F9,X⟩;refine lD (Y2n (λb H'=>Yq b/\Y7V N))
  ·refine Y5c _ rfl _ _ rfl _ rfl ?_;by_cases z:0<x
   ·rw[bV z];refine lL ⟨_,rfl,_,rfl,_,rfl,_,rfl,rfl,?_⟩;have δ:=F8.t X;exact DN.i (n:=N) (F9.less Oo) (u.flat δ (gE _ _)) TT (g.flat δ (iB _ _ _ _)) U.1 Oo O.1 Oo Oo j r m λH10 F10 φ=>Y6A _ rfl F10
   ·rw[cI z];exact lD (Y1b (F9.less Oo))
  rintro b H10 ⟨rfl,F10⟩;exact lD ⟨_,_,_,_,_,_,rfl,F10.less Oo⟩
 ·rintro σ H2 ⟨R,B,S,D,Z,J,rfl,F2⟩;exact k H2
end
def len1{α:Type}{us:Yo}(h:Y90 1):∃a,us=[a]:=match us,h with | [a],_=>⟨a,rfl⟩
def aFN{α:Type}{us:Yo}(h:Y90 2):∃a b,us=[a,b]:=match us,h with | [a,b],_=>⟨a,b,rfl⟩
def aDJ{α:Type}{us:Yo}(h:Y90 3):∃a b c,us=[a,b,c]:=match us,h with | [a,b,c],_=>⟨a,b,c,rfl⟩
def aFM{α:Type}{us:Yo}(h:Y90 4):∃a b c d,us=[a,b,c,d]:=match us,h with | [a,b,c,d],_=>⟨a,b,c,d,rfl⟩
def aFL{α:Type}{us:Yo}(h:Y90 5):∃a b c d e,us=[a,b,c,d,e]:=match us,h with | [a,b,c,d,e],_=>⟨a,b,c,d,e,rfl⟩
def aCI{K:Aa}{x q:Str}{st:Stmt}{f:Addr}{fd:FuncData}(F:Y9 x q st)(P:Y0Z FuncData)(h:P fd):∃fd,P fd:=⟨fd,h⟩
inductive Dn (K:Aa) (n:Str) (st:Stmt):Prop
 | mk {f:Addr} {oc:Value} {od:Y11} {kV dc pm:Value} {an:Y11} {cd ct:Value} {sl:Y8K} (a:PySem.W.nsIn K mainGlobals n=Ya3 f) (l:K.lookup f=some ⟨oc,od,.func (PySem.W.fnOf n n (rF st) (lM st) (Y4i) .none kV dc pm an cd ct),sl⟩) (c:Yei cd n=true) (k:Yc5 K f=true):Yd n st
def fnd(l:PySem.W.OpenLaw)(w:World){K:Aa}{h:Heap}{mg:Y0a}(X:K.In h)(G:Yeb mg)(base:Heap){n:Str}{st:Stmt}{C:LB}{L:Nat}{ps:Ai}{sp:Sp}(d:Yd n st)(o:∀{f:Addr}{fd:FuncData},Y9 n n st->dI l.prog w K mg base C L f fd ps sp)(b:∀(kV doc pm:Value) (an:Y11) (cdv ct:Value) (us:Ah),Y90 ps.length->bindArgs (PySem.W.fnOf n n (rF st) (lM st) (Y4i) .none kV doc pm an cdv ct) ⟨us,[]⟩=pure (Ybu):=by intro _ _ _ _ _ _ us hl;first | (obtain⟨_,rfl⟩:=len1 hl;rfl) | (obtain⟨_,_,rfl⟩:=aFN hl;rfl) | (obtain⟨_,_,_,rfl⟩:=aDJ hl;rfl) | (obtain⟨_,_,_,_,rfl⟩:=aFM hl;rfl) | (obtain⟨_,_,_,_,_,rfl⟩:=aFL hl;rfl)):dP C l.prog w K mg base L n ps sp:=by
 obtain⟨a,e,c,k⟩:=d;exact⟨_,_,o (EO e c k),PySem.W.mg_of X G a,k,(EO e c k).binds b⟩
open PySem.W (nsIn fnOf codeIn keepIn mg_of mg_none_of) in
def aCV{l:PySem.W.OpenLaw}{w:World}{K:Aa}{h:Heap}{mg:Y0a}{fa:Addr}{c_EarlyError:Addr}{c_NoPaper:Addr}{c_ONE:Addr}{c_NOUGHT:Addr}{tok_LOOKS_ON:Tok}{ce_NoPaper:ClassData}(X:K.In h)(G:Yeb mg)(hfa:mg "law" = Y2 fa)
  (u_EarlyError:Y1P "EarlyError" = Ya3 c_EarlyError)
  (u_NoPaper:Y1P "NoPaper" = Ya3 c_NoPaper)
  (u_ONE:Y1P "ONE" = Ya3 c_ONE)
  (u_NOUGHT:Y1P "NOUGHT" = Ya3 c_NOUGHT)
  (u_LOOKS_ON:Y1P "LOOKS_ON" = some (some (.int 0 tok_LOOKS_ON)))
  (ty_NoPaper:PySem.W.typeIn K (Yb6)=some (.type "type"))
  (cm_NoPaper:PySem.W.clsIn K c_NoPaper=some ce_NoPaper)
  (sb_NoPaper:Yb9 Yb6 (.type "BaseException")=Y3Z)
  (t0:tE K c_EarlyError=true)
  (t1:wR K c_NoPaper=true)
  (t2:iJ K c_NoPaper ["word","at"]=true)
  (t3:Yb9 Yb6 Yb6=Y3Z)
  (o_ONE:uC K c_ONE [1,1]=true)
  (o_NOUGHT:uC K c_NOUGHT [0,1]=true)
  (d0:Yd "_law_feed" sQ6)
  (d1:Yd "_law_draw" sQ5)
  (d2:Yd "_law_frac" sQ8)
  (d3:Yd "_law_shares" aBO)
  (d4:Yd "_law_trial" aBH)
  (d5:Yd "_law_bound" sQ3)
  (d6:Yd "_law_some" aBN)
  (d7:Yd "_law_aim" sQ1)
  (d8:Yd "common_divisor" aBs)
  (d9:Yd "plus" aA6)
  (d10:Yd "times" aA0)
  (d11:Yd "less" aBd)
  (d12:Yd "is_less" aBj)
  (d13:Yd "total" aAZ)
  (d14:Yd "ways_of" aAX)
  (d15:Yd "way_shares" aAY)
  (d16:Yd "power" aA5)
  (d17:Yd "weight" aAW)
  (d18:Yd "faces_of" aBo)
  (d19:Yd "counts_that_are" WW)
  (d20:Yd "all_counts" aBE)
  (d21:Yd "one_more" aA9)
  (d22:Yd "ones_more" aA8)
  (d23:Yd "sums_at" aA1)
  (d24:Yd "_law_plus" aBT)
  (d25:Yd "_law_times" aBL)
  (d26:Yd "_law_total" aBI)
  (d27:Yd "_law_below" sQ2)
  (d28:Yd "_law_more" aBW)
  (d29:Yd "_law_weight" aBG)
  (d30:Yd "_law_counts" sQ4)
  (d31:Yd "_law_sums" aBM)
  (d32:Yd "_law_worths" aBF)
  (d33:Yd "looks_on" aBb)
  (d34:Yd "rule_faces" aA4)
  (d35:Yd "noughts" aBa)
  (d36:Yd "amounts" aBD)
  (d37:Yd "comings" aBt)
  (d38:Yd "said_of" aA3)
  (d39:Yd "onwards" aA7)
  (d40:Yd "spent" aA2)
  (d41:Yd "wrong" aAU)
  (d42:Yd "cost" aBr)
  (d43:Yd "_law_says" aBP)
  (d44:Yd "_law_rule" aBR)
  (d45:Yd "_law_less" sQ9)
  (d46:Yd "_law_of_rule" aBU)
  (d47:Yd "bounds_priced" aBw)
  (d48:Yd "counts_behind" aBq)
  (d49:Yd "counts_come_to" aBp)
  (d50:Yd "is_whole" aBf)
  (d51:Yd "is_fraction" aBk)
  (d52:Yd "is_share" aBh)
  (d53:Yd "is_tuple_of" aBg)
  (d54:Yd "are_shares" aBy)
  (d55:Yd "are_parts" aBB)
  (d56:Yd "are_says" aBz)
  (d57:Yd "is_counts" aBm)
  (d58:Yd "is_entry" aBl)
  (d59:Yd "is_rule" aBi)
  (d60:Yd "are_from_nought" aBC)
  (d61:Yd "are_prices" aBA)
  (d62:Yd "is_worth" aBe)
  (d63:Yd "are_worths" aBx)
  (d64:Yd "has_shape" aBn)
  (d65:Yd "without_costs" aAV)
  (a66:Yeh Yb6 "__init__" = Ya3 f66) (l66:K.lookup f66=some ⟨oc66,od66,.func (fnOf "__init__" "NoPaper.__init__" (rF sQ0) (lM sQ0) (bB sQ0) .none kV66 dc66 pm66 an66 cd66 ct66),sl66⟩) (c66:codeIn K cd66 "NoPaper.__init__" = true) (k66:keepIn K (.ref f66)=true) (fn66:PySem.W.isFn K (.ref f66)=true) (kp66:keepIn K (Yb6)=true)
  (d67:Yd "check_rule" aBv)
  (d68:Yd "check_worths" aBu)
  (d69:Yd "lets_paper" aBc)
  (d70:Yd "_law_told" aBK)
  (d71:Yd "_law_told_worths" aBJ)
  (d72:Yd "_law_raised" aBS)
  (d73:Yd "_law_first" sQ7)
  (d74:Yd "_law_none_right" aBV)
  (d75:Yd "_law_rule_right" aBQ)
  (d76:Yd "law" WV) (z0:Y1P "list" = Y1p) (z1:Y1P "len" = Y1p) (z2:Y1P "abs" = Y1p) (z3:Y1P "range" = Y1p) (z4:Y1P "sum" = Y1p) (z5:Y1P "zip" = Y1p) (z6:Y1P "reversed" = Y1p) (z7:Y1P "tuple" = Y1p) (z8:Y1P "isinstance" = Y1p) (z9:Y1P "bool" = Y1p) (z10:Y1P "all" = Y1p) (z11:Y1P "any" = Y1p) (z12:Y1P "dict" = Y1p) (z13:Y1P "enumerate" = Y1p) (z14:Y1P "ValueError" = Y1p) (z15:Y1P "sorted" = Y1p) (z16:Y1P "int" = Y1p) :
  ∃fd:FuncData,(∀(s:Shared) (v:Value),YbF s ⟨[v],[]⟩ [("_law_script",v)])/\∀base:Heap,K.In base->Ycf mg->dI l.prog w K mg base cN 13 fa fd a40 (wL K):=by
 obtain⟨a,i,d,j⟩:=d76;have e:=hfa.symm.trans (mg_of X G a);cases e;generalize hcl:(⟨c_EarlyError,c_NoPaper,c_ONE,c_NOUGHT,tok_LOOKS_ON⟩:Cl)=c;have T:Yb:=by rw[<-hcl];exact⟨Y2O z0,Y2O z1,Y2O z2,Y2O z3,Y2O z4,Y2O z5,Y2O z6,Y2O z7,Y2O z8,Y2O z9,Y2O z10,Y2O z11,Y2O z12,Y2O z13,Y2O z14,Y2O z15,Y2O z16,mg_of X G u_ONE,mg_of X G u_NOUGHT,mg_of X G u_LOOKS_ON,mg_of X G u_EarlyError,mg_of X G u_NoPaper,⟨ty_NoPaper,(by rw[cm_NoPaper];rfl),sb_NoPaper⟩,t0,t1,t2,t3,o_ONE,o_NOUGHT⟩
 have F76:=EO (st:=WV) i d j;refine aCI F76 _ ⟨λs v=>.of_eq rfl,λbase _ _=>?_⟩;have N:=@fnd l w K h mg X G base;have GQ6:=Ye d0 (oQ6 F T);have GQ5:=Ye d1 (oQ5 F T);have GQ8:=Ye d2 (oQ8 F T);have GQ18:=Ye d3 (aFC F T GQ5 GQ8);have GQ25:=Ye d4 (aFv F T GQ5 GQ18);have GQ3:=Ye d5 (oQ3 F T GQ5 GQ8);have GQ19:=Ye d6 (aFB F T GQ5 GQ8);have GQ1:=Ye d7 (oQ1 F T GQ3 GQ18 GQ19);have GQ40:=Ye d8 (aFg F T);have GQ64:=Ye d9 (aES F T GQ40);have GQ70:=Ye d10 (aEM F T GQ40);have GQ57:=Ye d11 (aEZ F T GQ64);have GQ50:=Ye d12 (aE6 F T);have GQ71:=Ye d13 (aEL F T GQ64);have GQ73:=Ye d14 (aEJ F T);have GQ72:=Ye d15 (aEK F T);have GQ65:=Ye d16 (aER F T);have GQ74:=Ye d17 (aEI F T GQ72 GQ70 GQ65);have GQ45:=Ye d18 (aFb F T);have GQ44:∀n:Nat,dP cN l.prog w K mg base (1+n) "counts_that_are" a44 (nZ n):=λn=>by
  induction n with
  | zero=>exact Ye d19 (aEq F T)
  | succ n ih=>exact Ye d19 (aFc n F T ih)
 have GQ28:=Ye d20 (aFs F T (GQ44 4));have GQ61:=Ye d21 (aEV F T);have GQ62:=Ye d22 (aEU F T GQ61);have GQ69:=Ye d23 (aEN F T GQ74 GQ73 GQ70 GQ71 GQ57 GQ62 GQ64);have GQ13:=Ye d24 (aFH F T GQ8);have GQ21:=Ye d25 (aFz F T GQ8);have GQ24:=Ye d26 (aFw F T GQ13);have GQ2:=Ye d27 (oQ2 F T);have GQ10:=Ye d28 (aFK F T);have GQ26:=Ye d29 (aFu F T GQ21);have GQ4:=Ye d30 (oQ4 F T GQ10);have GQ20:=Ye d31 (aFA F T GQ26 GQ21 GQ24 GQ10);have GQ27:=Ye d32 (aFt F T GQ4 GQ20 GQ2);have GQ59:=Ye d33 (aEX F T);have GQ66:=Ye d34 (aEQ F T);have GQ60:=Ye d35 (aEW F T);have GQ29:=Ye d36 (aFr F T GQ60 GQ66 GQ59 GQ70 GQ62 GQ64);have GQ39:=Ye d37 (aFh F T GQ29 GQ70 GQ74);have GQ67:=Ye d38 (aEP F T GQ71 GQ70);have GQ63:=Ye d39 (aET F T GQ39 GQ70 GQ59);have GQ68:=Ye d40 (aEO F T GQ71 GQ70 GQ63);have GQ76:=Ye d41 (aEG F T GQ73 GQ57 GQ67 GQ39);have GQ41:=Ye d42 (aFf F T GQ73 GQ71 GQ70 GQ68);have GQ17:=Ye d43 (aFD F T GQ5 GQ18);have GQ15:=Ye d44 (aFF F T GQ17 GQ10);have GQ9:=Ye d45 (oQ9 F T GQ8);have GQ12:=Ye d46 (aFI F T GQ21 GQ13 GQ9 GQ26 GQ10);have GQ36:=Ye d47 (aFk F T GQ70 GQ71);have GQ42:=Ye d48 (aFe F T GQ59 GQ62);have GQ43:=Ye d49 (aFd F T GQ60 GQ42);have GQ54:=Ye d50 (aE2 F T);have GQ49:=Ye d51 (aE7 F T GQ54 GQ40);have GQ52:=Ye d52 (aE4 F T GQ49);have GQ53:=Ye d53 (aE3 F T);have GQ34:=Ye d54 (aFm F T GQ53 GQ52);have GQ31:=Ye d55 (aFp F T GQ34 GQ71)
 have GQ33:=Ye d56 (aFn F T GQ31);have GQ47:=Ye d57 (aE9 F T GQ53 GQ54);have GQ48:=Ye d58 (aE8 F T GQ53 GQ47 GQ33);have GQ51:=Ye d59 (aE5 F T GQ48 GQ43);have GQ30:=Ye d60 (aFq F T GQ53 GQ49);have GQ32:=Ye d61 (aFo F T GQ30 GQ73);have GQ55:=Ye d62 (aE1 F T GQ53 GQ47 GQ49);have GQ35:=Ye d63 (aFl F T GQ45 GQ55 GQ28);have GQ46:=Ye d64 (aFa F T GQ53 GQ32 GQ35);have GQ75:=Ye d65 (aEH F T);have F66:=EO (st:=sQ0) l66 c66 k66;have g:=F66.binds (ps:=a23) λ_ _ _ _ _ _ p m=>by obtain⟨_,_,_,rfl⟩:=aDJ (show p.length=3 from m);rfl
 have GQ0:FnI l.prog w K mg base 1 c.NoPaper a23 (YcG):=⟨_,_,oQ0 F66 T,⟨(iJ.shape T.st_NoPaper),(by rw[<-hcl];exact a66),fn66,(by rw[<-hcl];exact kp66)⟩,g⟩;have GQ37:=Ye d67 (aFj F T GQ0 GQ51 GQ45 GQ73 GQ76 GQ50);have GQ38:=Ye d68 (aFi F T GQ0 GQ69 GQ50);have GQ58:=Ye d69 (aEY F T GQ0 GQ46 GQ37 GQ38 GQ41 GQ57 GQ36 GQ75 GQ50);have GQ22:=Ye d70 (aFy F T GQ58);have GQ23:=Ye d71 (aFx F T GQ5 GQ8 GQ9 GQ4 GQ20 GQ2 GQ27);have GQ14:=Ye d72 (aFG F T GQ5 GQ13 GQ20 GQ2);have GQ7:=Ye d73 (oQ7 F T);have GQ11:=Ye d74 (aFJ F T GQ5 GQ8 GQ23 GQ14 GQ22 GQ7 GQ24 GQ13);have GQ16:=Ye d75 (aFE F T GQ5 GQ8 GQ15 GQ12 GQ23 GQ14 GQ22 GQ7);exact aE0 F76 T GQ6 GQ5 GQ25 GQ1 GQ11 GQ16
end Kw
namespace PySem.W.Fast
def tw10424816618766179706:=()
def tw11603015031264287112:=()
def tw10867323613638426346:=()
def tw14847786379713884877:=()
def tw13598058263315060511:=()
def tw5316683395433111712:=()
def tw13400881445749466050:=()
def tw15656709486784438761:=()
def tw2376472537978505051:=()
def tw17009095921072521120:=()
def tw5206577259189520381:=()
def tw9582307919241225005:=()
def tw15333611091383425932:=()
def tw13854842731373976584:=()
def tw2199193952255939164:=()
def tw14868309849222810058:=()
def tw14990577400870424439:=()
def tw2044433243381938117:=()
def tw521635699830809739:=()
def tw14224764706308065583:=()
def tw15300327523605682161:=()
def tw8042347786777677198:=()
def tw6439296068144457433:=()
def tw2965653570736333991:=()
def tw3278831845538452162:=()
def tw14961060531047047651:=()
def tw10086237252601687614:=()
def tw17696022968200450476:=()
def tw2344849491480419481:=()
def tw11278879243273314670:=()
def tw13358726389921903939:=()
def tw17785397556862041590:=()
def tw13957821483468703637:=()
def tw11872968242616200967:=()
def tw9369354519131597944:=()
def tw16067970950864932813:=()
def tw16704334605533661532:=()
def tw1122930431870147952:=()
def tw15531688299878084965:=()
def tw17708446119796308289:=()
def tw3097849776834938307:=()
def tw14297922209808764133:=()
def tw1736219534398365550:=()
def tw6604837730716966028:=()
def tw4020173914677537623:=()
def tw3885924583871472222:=()
def tw5760579021184373550:=()
def tw6695721682414186511:=()
def tw9906471360513161304:=()
def tw7198063104726867657:=()
def tw1970024077190025977:=()
def tw1687383453462215046:=()
def tw11091065005175831209:=()
def tw11617021778708609491:=()
def tw11046971497885826490:=()
def tw3099262295034642381:=()
def tw3553728470588157739:=()
def tw16266448235690825565:=()
def tw17044655532003983272:=()
def tw4110837700556788758:=()
def tw15583264602401736085:=()
def tw15035722087476897460:=()
def tw931857504171690565:=()
def tw48243852085406504:=()
def tw2131708009210379840:=()
def tw400906702254959652:=()
def tw5136463494445435239:=()
def tw16244293243009635249:=()
def tw15958632980081563800:=()
def tw14325802590164102861:=()
def tw10792774483576660156:=()
def tw4834895307790854196:=()
def tw16416236085756384399:=()
def tw13051198005679106853:=()
def tw10636500288742858545:=()
def tw4524335749557791791:=()
def tw6820363615148942694:=()
def tw17048167342094081301:=()
def tw857033758708602221:=()
def tw10586585681102369794:=()
def tw8220379466456799589:=()
def tw17187729765178825596:=()
def tw9152803147699120570:=()
def tw9338391588420827302:=()
def tw12241011730684984506:=()
def tw2750575461081581282:=()
def tw3271824275621580226:=()
def tw6592805970533195307:=()
def tw10019349381683961639:=()
def tw14806628653584348087:=()
def tw1185526110665411700:=()
def tw7366136337756445931:=()
def tw9428841188120895643:=()
def tw6588310211815185496:=()
def tw17145390215798411581:=()
def tw8892112546157345409:=()
def tw17046691365421725682:=()
def tw2175789502968459121:=()
def tw13069812685443522828:=()
def tw9818083827569048332:=()
def tw12461483288773747633:=()
def tw17479495132836848339:=()
def tw17870480467679080388:=()
def tw7770912071503169545:=()
def tw7094778236071147581:=()
def tw11330698370216836055:=()
def tw13693833991237709754:=()
def tw85252914967659459:=()
def tw18115533389420081851:=()
def tw10816720416040710337:=()
def tw15096677986584242600:=()
def tw15527532513746541307:=()
def tw3821792311888929464:=()
def tw18108254469925406833:=()
def tw537106235658554088:=()
def tw8550952319352713363:=()
def tw15565602159772660534:=()
def tw2053167658461544874:=()
def tw5944152156969663477:=()
def tw15981642817066129207:=()
def tw6184376765316380921:=()
def tw7905461391047052792:=()
def tw7703983832796831148:=()
def tw18088381605810303660:=()
def tw7195240123650013195:=()
def tw6573448884613917871:=()
def tw9680474912106462161:=()
def tw2974286643432999126:=()
def tw13457048058702865245:=()
def tw12995106999633096052:=()
def tw14520862966668846074:=()
def tw9861892469701990757:=()
def tw3264275811090367259:=()
def tw13015394186296319664:=()
def tw15539624582549228970:=()
def tw4637242276379031887:=()
def tw15423904053867989573:=()
def tw4174593979518913168:=()
def tw91128369578309346:=()
def tw2476857941017330821:=()
def tw8304166721540135229:=()
def tw7315259785073025834:=()
def tw16715528343961924676:=()
def tw18166167329178115592:=()
def tw5943549783249877670:=()
def tw8242708632149948474:=()
def tw18233486049606071454:=()
def tw13316399793928080239:=()
def tw10714588183817682889:=()
def tw18043905676967225608:=()
def tw7491165779985900943:=()
def tw8725101829786920349:=()
def tw684799616039732393:=()
def tw16700031355687482432:=()
def tw3235039499483365169:=()
def tw15509596684418789446:=()
def tw14943123543681787370:=()
def tw7217453794947749508:=()
def tw14651045514827835959:=()
def tw1447847455469796231:=()
def tw14820480742610039838:=()
def tw17593750640812299724:=()
def tw13068759624532335540:=()
def tw13379154322359936476:=()
def tw9207306940633817503:=()
def tw491920697497531310:=()
def tw11575693423873124718:=()
def tw4470474836651716199:=()
def tw13380980938323463687:=()
def tw15961681330693719508:=()
def tw11940594393990155184:=()
def tw3006912590773905461:=()
def tw12681000045666666299:=()
def tw16729882828893474773:=()
def tw16958900590751055413:=()
def tw11270166205604582945:=()
def tw16721610185314414151:=()
def tw2154924390780013749:=()
def tw4979148308116602562:=()
def tw1041968871356970926:=()
def tw9849932797629041500:=()
def tw16957874841156286203:=()
def tw4977619766002902440:=()
def tw15123717446713241489:=()
def tw12332130379306500066:=()
def tw7912124784871484646:=()
def tw4090924034900617367:=()
def tw3562213622690688160:=()
def tw4616935428737111822:=()
def tw322878298376255848:=()
def tw17940316381043459062:=()
def tw17865927319074001527:=()
def tw6572682434862443629:=()
def tw13625333493409644635:=()
def tw5271366164016668848:=()
def tw7004387349153096731:=()
def tw10642622675759793812:=()
def tw6087596224081511454:=()
def tw12658042353216708371:=()
def tw16543919434068726048:=()
def tw13655559658789831451:=()
def tw9853097664217294315:=()
def tw6085143143012421745:=()
def tw12324818921409961466:=()
def tw5362531320349967019:=()
def tw13205402030313616689:=()
def tw5049204708319056512:=()
def tw15953619899849242530:=()
def tw4546931782402679036:=()
def tw7110455955064268171:=()
def tw5930871811824220468:=()
def tw4927201847148471637:=()
def tw8294031278184333675:=()
def tw4471751118774930643:=()
def tw15211131724327026055:=()
def tw13647935378088242276:=()
def tw1309923801151087762:=()
def tw2720623225976512507:=()
def tw1629148518007533840:=()
def tw12794443805741530390:=()
def tw2673050147636490309:=()
def tw976646382761988170:=()
def tw16206246225843358600:=()
def tw9645652377116583524:=()
def tw8448491273957086468:=()
def tw8321888191468031987:=()
def tw14343483485480442278:=()
def tw4487812643147264693:=()
def tw143721495758219892:=()
def tw10691007687437601750:=()
def tw5324881173277461609:=()
def tw18086305640381056429:=()
def tw13690282592671734863:=()
def tw9454674699368215091:=()
def tw6885432011582924358:=()
def tw3868572691656934662:=()
def tw206411721594082342:=()
def tw16386401684438815258:=()
def tw14897667273823267628:=()
def tw6247622400020426648:=()
def tw118887624229898866:=()
def tw9935106742677507258:=()
def tw863473652513782421:=()
def tw7416181253478874029:=()
def tw6968512269594525819:=()
def tw3603895101985316329:=()
def tw17331643242263858735:=()
def tw15294788174116104005:=()
def tw14920554505474861253:=()
def tw1236690844321982338:=()
def tw5252581409836783969:=()
def tw8047364724009515907:=()
def tw8627001683015296413:=()
def tw8090454813916061552:=()
def tw635603027553321700:=()
def tw160047899959760157:=()
def tw7199922831231767084:=()
def tw4441219730696947044:=()
def tw13470192774025928300:=()
def tw14937613252237678958:=()
def tw12987273055273602710:=()
def tw5370642302828355743:=()
def tw9929064774446224280:=()
def tw2866223266369954272:=()
def tw8327908159047848164:=()
def tw5593428777724572982:=()
def tw17739270483679141076:=()
def tw17065610616678154458:=()
def tw14256706025032723051:=()
def tw2275531732398997013:=()
def tw16741267515090509102:=()
def tw3283352559080783387:=()
def tw3170674765363370518:=()
def tw14553797611626699576:=()
def tw2659595205996799786:=()
def tw14880676090482110792:=()
def tw4377342107838499799:=()
def tw3910305829153463811:=()
def tw13912996899717490000:=()
def tw13907336150421128816:=()
def tw12680785164588072920:=()
def tw10320978964920613501:=()
def tw8951479445447741195:=()
def tw850116024782268166:=()
def tw3365623161524033835:=()
def tw15207554976001997787:=()
def tw6981183620498580428:=()
def tw16141696908727809743:=()
def tw3530431365890828863:=()
def tw4104502881608235727:=()
def tw7314998208522424300:=()
def tw7475182965960463148:=()
def tw7993228684833494189:=()
def tw7282760969938631458:=()
def tw17460004476315867883:=()
def tw14899068639864366324:=()
def tw7916842683554192321:=()
def tw15975286905496041024:=()
def tw14443873950817283997:=()
def tw9859431859775858416:=()
def tw3760093478087092893:=()
def tw7413510323651057088:=()
def tw4232344142498583594:=()
def tw14514384437707482766:=()
def tw13381140758292533953:=()
def tw17269515411407165393:=()
def tw10489012480700686350:=()
def tw2298990267835345102:=()
def tw9534780151420127761:=()
def tw15938713021101862346:=()
def tw10235011178672614661:=()
def tw7220548991695036550:=()
def tw17676223271790419891:=()
def tw15194068870814354888:=()
def tw12219353410127112371:=()
def tw496823856149137450:=()
def tw11985331646930905360:=()
def tw5180090834679981529:=()
def tw221885997255795820:=()
def tw7430126643234549320:=()
def tw9929063147752038280:=()
def tw2566612630930973522:=()
end PySem.W.Fast
open PySem PySem.W PyProof.Rows
set_option maxRecDepth 100000 in
set_option maxHeartbeats 0 in
theorem PySem.Challenge.cw_earlystop_k51_other_right_papers_holds : PySem.Challenge.rw_earlystop_k51_other_right_papers.Holds := by
  w_on;o_law;k_head;(case hw=>w_witness2)
  k_fill
  refine L2.RE (l:=PySem.Challenge.rw_earlystop_k51_other_right_papers) (n:=63) (k:=13) (x := "_law_script") (CX:=L2.cN) (sp:=λK=>Kw.wL K) rfl Dd rfl ⟨rfl,Dd,Dd,rfl⟩ (λw h Y=>PySem.W.kIn_of Y) ?F (λK H a j g _ e=>Kw.SA e g) (λ_ _ _ _ z=>z)
  case F =>
    intro w m i h KX G d
    refine' Kw.aCV KX G d ?u_EarlyError ?u_NoPaper ?u_ONE ?u_NOUGHT ?u_LOOKS_ON ?ty_NoPaper ?cm_NoPaper ?sb_NoPaper ?t0 ?t1 ?t2 ?t3 ?o_ONE ?o_NOUGHT ?d0 ?d1 ?d2 ?d3 ?d4 ?d5 ?d6 ?d7 ?d8 ?d9 ?d10 ?d11 ?d12 ?d13 ?d14 ?d15 ?d16 ?d17 ?d18 ?d19 ?d20 ?d21 ?d22 ?d23 ?d24 ?d25 ?d26 ?d27 ?d28 ?d29 ?d30 ?d31 ?d32 ?d33 ?d34 ?d35 ?d36 ?d37 ?d38 ?d39 ?d40 ?d41 ?d42 ?d43 ?d44 ?d45 ?d46 ?d47 ?d48 ?d49 ?d50 ?d51 ?d52 ?d53 ?d54 ?d55 ?d56 ?d57 ?d58 ?d59 ?d60 ?d61 ?d62 ?d63 ?d64 ?d65 ?a66 ?l66 ?c66 ?k66 ?fn66 ?kp66 ?d67 ?d68 ?d69 ?d70 ?d71 ?d72 ?d73 ?d74 ?d75 ?d76 ?z0 ?z1 ?z2 ?z3 ?z4 ?z5 ?z6 ?z7 ?z8 ?z9 ?z10 ?z11 ?z12 ?z13 ?z14 ?z15 ?z16
    (case t0=>kernel_rfl);(case t1=>kernel_rfl);(case t2=>kernel_rfl);(case u_EarlyError|u_NoPaper|u_ONE|u_NOUGHT|u_LOOKS_ON|ty_NoPaper|cm_NoPaper|sb_NoPaper|t3|a66|l66|c66|k66|fn66|kp66|z0|z1|z2|z3|z4|z5|z6|z7|z8|z9|z10|z11|z12|z13|z14|z15|z16=>k_is);(case d0|d1|d2|d3|d4|d5|d6|d7|d8|d9|d10|d11|d12|d13|d14|d15|d16|d17|d18|d19|d20|d21|d22|d23|d24|d25|d26|d27|d28|d29|d30|d31|d32|d33|d34|d35|d36|d37|d38|d39|d40|d41|d42|d43|d44|d45|d46|d47|d48|d49|d50|d51|d52|d53|d54|d55|d56|d57|d58|d59|d60|d61|d62|d63|d64|d65|d67|d68|d69|d70|d71|d72|d73|d74|d75|d76=>refine' Kw.Dn.mk ?a ?l ?c ?k;(case a=>k_is);(case l=>k_is);(case c=>k_is);(case k=>k_is));(case o_ONE=>kernel_rfl);(case o_NOUGHT=>kernel_rfl)
