import PyProof.Rows.All
import Wide.All
import OpenK.AllK
import Wide.FinOn
import Lean
import PyProof.EqAt
import PyProof.EqKinds
import PyProof.TupleCall
import KE.IntBitsLaws
import PyProof.ZipIter
import KE.KRevIter
import PyProof.ListMulRoad
import PyProof.AutoListH
import PyProof.Rows.SeqMore
import PyProof.Rows.SumAny
import PyProof.SliceStr2
import PyProof.WalksMore
import KE.KSortTup
import PyProof.AttrMissHeap
import PyProof.TupleIter
import KE.KDictOf
import PyProof.DictWalks
import PyProof.DictValues
import KE.KDictList
import PyProof.Rows.MinMaxN
import PyProof.Rows.TupDisplay
import PyProof.DictTruth
import PyProof.Rows.SortRev
import PyProof.Rows.CallKwBuiltin
import PyProof.ListRange
import PyProof.EnumMake
import PyProof.Rows.StrJoin2
import KE.LcSums
import PySem.Challenge.RW_earlystop_k58_least_costs_known
set_option Elab.async false
set_option compiler.extract_closed false
set_option linter.all false
set_option maxHeartbeats 0
set_option maxRecDepth 100000
set_option hygiene false
set_option hygiene false
def zU(c:Char):Nat:=if c.isDigit then c.toNat-48 else if c.isLower then c.toNat-87 else c.toNat-29
def zV:Nat->List Char->List Nat
|0,_=>[]
|_,[]=>[]
|n+1,l=>(l.take 11).foldl (fun a c=>62*a+zU c) 0::zV n (l.drop 11)
local macro_rules
|`(#check $s:str)=>do
 let a<-(zV 999 s.getString.toList).mapM fun n=>do
  let i:=Lean.mkIdent (.mkSimple s!"tw{n}")
  `(def $i:ident:=())
 return Lean.mkNullNode (a.toArray.map (·.raw))
set_option hygiene true
namespace PySem.W.Fast
#check "0o3guEsAA0QkvGTh1X1NEo8GeFxGCdftR5wJmChbt4Sd3DjbmFYOIVf0FkN6DW14VLkoJuGhaQ4rkhYOjFwZo1cd6pmt3z6k91n5KZ3Qp05HbGemf2Ljhqlvd7NzjFJ8zVeD9ASjYxrRWdy0zlA0MP1Qpka7XTjKDpjbhkG5G7H6ZvfQluggecJnl5x8ZTzNH4c1JDlYbz6GmPBF77vpZwLsNb6p601fQgOmqpZhzFqJ1xLpl9bhxuLRrZB47dqg1xgWkGxB8qX0yea9dqH2vthtH6uZZh9KYRyRH0ZkGeEEWOZ0rU1K65xPcvXZgqG0W8b51cCnlI4duX2F3p8DlezkHrUHkuZj6q9Tn2VY3Z2gxoABNw9PbHcZibUZVAtSG5vxZIsh5VS1552Dy7VRC4X4ODy0r3LfQS6iJlaJhO6O3l0SD9bTJqbrit6025hfVoC3LJHov2BUlu548TMbFHeA189SZHubrx9W6GxVph6gqmXlQLMSgORBFclsas8mRE6PD32mUY36VHqa36bNJnnRYmj05S6nynea70aDQ3lA36yvrfQxoo6W20Q87Jh0cZtafLSanMtymvrjESlOAGHNhOwqt8wEMmZAV1UZg9onMeHmE2ljErEq86CmyhdYhQE2Di7GohznnaEt0J3CfRuFQzg3Yh06PAIMQmEDFWgyJGe8oIEdShZJBIfkcsdc4sjujmH4xq1lfH6njKZ0R3bGuiJhjITss466sRlcdL1C4ipVx2PdiRJkH1NZFkGG0l8pwJodGHljC7QlB66xe3Yvl4P1G6K520kcNJecNNdIjZiwRQ9XsvYdak1Z5R2fCP0c8NDlhrr1zmr2H5l8PKDsgybZmMJNsXB8Nkm35zFclZVqiQ2ECXfvF2njNKpgMuLfVj4mWSmiS8xSwdR1P2YNEdiz9QwfV2QeUHN2VvaAvCsdN3kQWaY9xm7pN9VdcAqRY4M9eF4bvpuk571lI0crKumLJO6nk81X1vdNklkMnk6Iwwp2eNapA5LZAHD43UE7YGWtUXg28LwfUCDcSeKy5hflSxNl9wg09KRp1cvkrdTRDt8sEhaiMwMscXHwc9aDNm62hG7w5bNg58qKDzVlUsOBPwuv9K33a6klSSlO0jqgYVXStwdc8lyyARNctX72bQefGPoJwd6TgIIDW491CfeRiABoEJsB6tPqaY5Gn4CfPnITeDxOm91nwupFdauL69oB7XioVEzl5feYuZZz8Bj7DBNEq5xTpYhrF3b4EqXVh8Ry1muv9OsG0lla2THOHdu0LyY05CobagfeY2qBFrmQC1n9kSF9qTF7jXfginZdLTJaaFFEqwHAtW4yRzmf9i1Q32PsbxeCcSdO8bmZy6GPzxpe1ZA1x2ooKuk6Ijpwc20EH0IpTbodKCr86AD9YgM5CdE3q0zttDiTU8gHSuc94v8HS2PpV1aGMe82kOmnkvQz1myeHUucXlWhNzix4qj5Yehm3f1FC6LOrMrujxVOdXz9sDh8Se17RvQ6IP4NGvvC2DbDUitxfw12EYX54Vu4y3U2cBceukbPC4if5OdlGeu7Cewci2Sn0bE2K9ou6mhMR12U4pR6jPCjRoewAy5IqySlLIE052AYpHDetT3VlIoSQ0VjXpIgvE8i1sAmdC09tnAJhfMpk18X2CFQ9uKT4CRDv35vUdb1ma4IPqARj8cPdi6grsxcKllh347Lkzwg5dJAfS5Rc0w3w1znX1V7vIepg7xeIP5xqlVvl5MvxEPL6o8ojzqMunRg5kjZwwddzO5RmQSTFAMIJgfH3VO91mmd1UmdBvBAqxKeDe9Wi3myCQlb98rwjV9D38CEF6fwczKx8KpvMpqrWlJ7qwldDqmr0KhN5kutPsZIxljpPsrQp8hQimzpdxeWObt4DZTLj1zbHreCuXtqVyeyMlSYsgjvnSPf2gFXNspzl6HcCF8TxgVka22T3Bv3IOnZT7GWJL3W1Gig7lL2oNWRjQ5lgzAnY7EZWQbJ9vopaleCdbRPywDHTw1cd1vDciL0AUr5gxhsWlv7yg7MhaBgoK2RWhvq7IBFicfiiWkLj7IV6gs7DRMehhFOKZ9g4EgU79qhx3etgu66zbGQ5S7pbjXypDVdGwmniBUwSxeR84cCLOuhL3IUQNNmKTev71SHwyynkzbb43FIpLS3RTkExectidRYb2vMyJG1p7xSiqMbaO2Vuro7jFweJq9DsxhFrGgOXLbpn7mHjPweK1ZMcmffqSRjQxC2qgdDZOsDIF8mGfLNgsWCP1b8ymo0oiJs48ZnQtu3JLfgg0KEjFa6pf8IdJhjsAG3S5kkEywBZhNR7BziUV44K342EMeG9OyoQJ8T5hOsPdTucjtkKUVIlYLlcAwJZ1t4Xxf3onElq0h0EkgozkIXRBvNB9DYvkDhI4rH00lFV8P4zjT2lrto1GPDxLilMZiu6tkpn7vb6w6o7BQX7kJb7XHxKaX4VHorABgarI32NuGDt07jHk4V4auGqpj7hKe5JqzSzK4cx0ktXdNqLIa9uUSAYCrji99YwpAd1pEOiB6NsNX4HMHggatiFbAJW62SvYFll5RwY74HgWYFOWiJ53kQj7L4foB4UjyopdhLT4l05lbBj3xwukTjnRL5rOXIkbn3MxHgnsYjd3egTvW7VW8ipVhNeFHyS55OWbIBYPZn02fMDkZ9K9P1BZTFuKuYjVfgGFWr7zRvK3ZQOKGLVT98ejrE2PJ2mE07Dzdc5YcvIA4hIfjCSiHBDgWYkxzEIqyYatqKGKwAJNi5RJ8bwe3O469DnEEUihrfT3HKDm8Dbve5czw8vHc2YQ76o2Ve6SQe4n5KzmgMKA7dg5cMKxj3GJa92IS8KxQeAIuffLdSy751PW3EeOnaAsAgYiM1FnntRBHJgPhJZP3woWda218OMPcctD3iqsqeVY1D3auFwQ7Dw8KYiegsz4YnswhaAy5pQvBdUk8tUEJeFDidv4g2sSdzLHIZj5Ul49BTCaJcsdPplFZwrp7aSNMYC2oJhftKhS5j5XIjlt10X1y7UnScQGpFHQlppSbua19HynPWn3t4vSsq8B8gj1qqc9P12zWexsRh81uf1vcKDTza1fYbTbLjHb0LdEHM23KumNufHWbh1nZ6jlwnW8kZ3Eb32NmpK1v4e14dRPtr62wA84l8ozNaogY3Lb2JJXcP0PN8xyV148M8pbtf9ohv3r3SmlTVj3t9Av1B4llUwz8piYVxR59Gx1bLkobK3e3oh8fSfaOVqa97Ke0SBPDpThagqgD6c7Izu9hwrvCgdBrx75itxTG2A51iMi0lP0B92j46P3vTMYkNNeOTXrokCfQgj0nVdnJPo1RdD7CVEejoeW6VfZ3w4Er649pK5EeTzolr9PRD3zW9gLO71zt0E7cUBYfYGnoTjH0gvaARABX3OLuxa1TOwxl3h4Y2P1kZB2OZwb2o84OXwgF3Y4mFf1E99pCUeyfWVTjL9JWkJzUd8b3UeW2l6K5TnjVIB6VKbnoIA3tL5cNNtUhs3ki4kYiwqmQ3gEjn8r9wDBSE8d1HyUamXojP4jdhoaus4zljThTMru0UZmgodecnA44vqdVxXBYRfnschhINTXSsVicl8JR4cPDRutk1YjdiTAp2bjrY9UgYQQ9SiqhrYbqcQ908XhMk043AQEdDUz2ckd0QWlnB9Pi3ownUi1XoKr63aLnjPogWUpyXFo7xV3SZvdfYC4aoRh46njFnjwZ7RwNdJCois1lykMmaVF2Jv4689IkT21T87upoVydLdge5l5WXE1WbURZiP30jgi2cbS4KvzwiEaQGnYa4kDgf5MU5b5m2dO4"
end PySem.W.Fast
abbrev zs:=Lean.Syntax
def zn(k:Lean.Name)(a:Array zs):zs:=.node .none k a
def zm(k:String)(a:Array zs):zs:=zn (`Lean.Parser.Term++k.toName) a
def za(s:String):zs:=.atom .none s
def zT:Array String:=#["(>Nat,Int)","(aaU,H,H')","(as0,e)","(asome(a.ref$0))","(aaW,F,es$0)","(aY5k,s)","(aY7,?_)","(aY04,_$0)","(asome,x)","(asome(a.int$0))","(aYdc,F)","(asome,o)","(aiQ,K$0$1$2f,fd)","(aY64(aY1k,Shared))","(abV$0$1(abA$2))","(ajC,K,mg,c)","(aY0I,?_)","(aList,cW)","(asome(a.lst$0))","(asome(a.tup$0))","(aDn,K$0$1)","(aN$0(fF$1))","(>Al(>Hp(aY0r,VK,XK)))","(a.ref,a)","(aif_pos,rfl)","(asome,u)","(aaN,_)","(aiH,X$0$1)","(akR,Yu)","(aY9h,V)","(afH,?_)","(aList,α)","(>Nat,Rat)","(=$0false)","(asome,v)","(aPE,X$0$1)","","","","","","","","","","","","","","","","","","","","","","","","","","","(aY0W,1$0$1$2)","(>Ae,Rat)","(aaD,0)","(acF,_)","(t$0rfl$1)","(aList,PySem.Str)","(aY08,?_)","(aaD,2)","(aY0O,_,rfl,_$0)","(asome,y)","(aY9f,W$0)","(aeJ,f)","(asome(a.dT$0))","(aeval$0X.env)","(aaU.refl,_)","(aList,Expr)","(aY7(aY7A$0))","(abZ,W(fv$0))","(arise,F,M)","(t$0$1?_)","(a.ref,b)","(acB$0(+1,v))","(aaD,1)","(aps,w)","(abest,c)","(t$0?_)","(aY2u,i)","(>$0(aY1k$1))","(aList,Addr)","(aYi,ys)","(aY7z,es$0)","(alI,ws)","(>Ae,Nat)","(aH',D)","(^2,3000)","(aList,oF)","(aY3A,Str,Ak)","(aaD,3)","(>Str,Y5h)","(~$0sizeLine)","(aY2x$0H')","(afV$0(aaD$1))","(aYi,xs)","(acP,_)","(trfl$0)","(acK(:i,3)$0$1)","(t_$0$1)","(aif_neg,e)","(aY7(anW$0rfl,?_))","(aaW,F$0$1)","(t$0$1$2rfl$3)","(^2,4000)","(aArray,Nat)","(adecide(=$0$1))","(amA,F,es,fs,s,c)","(=(aInt.gcd$0$1)1)","(afW,I,q$0)","(aaR(acG$0))","(afL,cY,P,w,K,mg,base$0$1$2$3)","(aslots,σ,js)","(arv,f)","(aList,PyData)","(acK(:i,2)$0$1)","(t$0$1rfl$2$3)","(aYj,xs)","(aF.oky$0(fvs,H,Q,E,h,?_))","(aY6M,p)","(abT$0f)","(agX,F,W,M,es,fs,s)","(aY48$0aI)","(aOption,Int)","(asome,none)","(ah'.get?,b)","(aI.tok,_)","(aY0c,kvs)","(a.int,i)","(agI,ts)","(aY0d,e)","(aY0E,D)","(atG,F,es)","(aaD,4)","(>$0(aY1k,Shared))","(>$0Prop)","(aY1Z$0(aY7x$1)$2)","(a.ref,l)","(abF,_,rfl)","(aY1t,_$0)","(arul,F,W,M,best)","(abG,H$0$1)","(gys,i)","(abJ,_$0)","(t$0$1rfl)","(asome,c)","(>Al(aY5l,VK))","(aif_pos,e)","(aeB$0(aaD$1)$2)","(aY1M,St)","(=X.calm,true)","(adC,H$0$1)","(to$0$1)","(aY3a,1)","(aY3a,0)","(ansIn,K,mainGlobals$0)","(aYx(qx$0))","(apK,F,W,M,N,B,Ns,es)","(aQ,v,H')","(aH',b)","(aps,v)","(aeQ,q)","(abB$0aQ)","(aY0r$0Hp)","(aY2i,rfl)","(ah.get?,b)","(adQ,K(aaD,0))","(>$0Bool)","(aaG,_$0)","(aQ(a.int$0)H)","(<c.sum,M)","(t$0$1$2$3rfl$4$5$6)","(aY4R$0c)","(aY7(aY4i,O$0$1$2))","(astarEach$0X.env)","(a.inl(t$0$1))","(t$0rfl$1$2)","(anB$0s.heap$1$2)","(aeval$0env)","(adecide(<$0$1))","(avJ,?_)","(a.ref,x)","(aY8r,1)","(awpAny(amodel,prog,w)A$0Q,E,s)","(lYn)","(aY39,b)","(ta$0$1)","(aQn,N,B$0)","(aiT,n,p)","(aif_neg(fz$0))","(asome,.cell)","(aY3,p)","(aY0N$0d)","(aiI,F$0d)","(aeI,_)","(t_$0)","(abB$0(abB$1aQ))","(awpAny_pure,?_)","(aif_neg,Oo)","(aabsurd$0cE)","(aList,Rat)","(a.ref,p)","(aY0V(aaD$0))","(t$0Oo)","(aY3,a)","(aY5p,i,a)","(aeW,H,H')","(gxs$0)","(t$0$1$2?_)","(aY0W,2$0$1$2)","(aQ(a.ref$0)$1)","(aaU.upd(:o(a.tup$0))$1)","(akT(aci$0))","(acK(:i,4)$0$1)","(aif_neg,Dd)","(aeP$0(a.ref$1)$2)","(aif_neg,q)","(a.inr(t$0$1))","(aYbO$0(asome$1))","(acC$0(aaD$1)(aaD$2))","(aY63$0(ast$1$2$3)$4$5)","(agF,kvs(aY2z$0))","(aY9e,_,rfl,_,rfl,_$0)","(aY3A,fT,V)","(acC$0(aaD$1)aI)","(aY17,1)","(aY5p,o,a)","(amX,F,es,fs,s,c,0)","(-M,c.sum)","(adC,H'$0$1)","(a.ref,s.heap.objs.size)","(asome,.local)","(=us.length$0)","(aY3D$0(aeQ$1)$2)","(f_,0)","(aY1X,es)","(>α,Rat)","(aYap,F$0)","(aaL$0Dd)","(=c.length,F)","(aY6U,i)","(aFn,N,B,f)","(aY1X(l$0))","(aQ(a.bl$0)H)","(agE$0$1$2xs)","(aY0W,3$0$1$2)","(aGl,X,x)","(adN(aY2j$0$1))","(aYbO$0Yb)","(acB,bs$0)","(aaM.mpr(aY1t$0$1))","(=ys.length$0)","(aList,Env)","(aY3A,Str,Addr)","(aupd,H$0$1)","(AD,ys,H'(>$0$1))","(ajT(ajR$0))","(acV$0(fc$1))","(akQ$0$1(aaD$2)$3)","(aY3A,κ,V)","(aY3D,H'$0$1)","(aY1A(aGL,fs,ws)$0)","(afC.i(:n$0)$1Dd,Kk$2)","(aeZ,n,lt$0$1)","(aY6H$0$1rfl(akU$2$3)$4)","(afJ,y,u)","(gX.N,i)","(aY3f,a$0)","(aY5v$0s)","(adX,n(fi$0))","(alQ,M,cs$0)","(aY3F$00$1)","(aMd.rho$0b,R,i$1)","(aY11,_$0$1$2)","(afZ,F$0(agD,ss$1)$2)","(aList(x$0$1))","(awpAny_bind(awpAny_pure$0))","(astarEach$0env)","(adC$0(aiR$1)$2)","(t$0$1rfl$2)","(aY4a$0$1(aaD$2))","(asV,4000$0)","(aif_neg(fq$0))","(+X.A.units$0)","(aMP,Yu)","(aif_pos,h)","(aif_neg,h)","(aFL$0scope$1$2$3$4$5$6$7)","(acB,cs$0)","(aY9e$0$1rfl,rfl$2$3)","(a.Name,x,px)","(awsum$0$1$2ts$3$4)","(aMd.dot,n(aR$0)a)","(aY8z,H)","(=(aX.env.cells.lookup,x)Y1u)","(aY1R,e)","(aY1X(#e,es))","(afJ,v,u)","(aY5v$0_)","(aIQ,X,scope,C,fp,s₀,H₀,N')","(arho,n,b,R$0k)","(aqF,X,pins$0b)","(abG,H'$0$1)","(acV,l,f)","(aY5j,H$0$1)","(axY,X(acompareOp$0)$1)","(akZ,X(a.builtin$0)$1)","(ak$0_,Y62$1)","(ajQ$0H$1xs)","(abO,bC(aaD$0)$1)","(adA,X,pins,σ$0$1)","(acR$0(aaD$1)$2)","(aY1L(aaD$0))","(abQ(:g(f_$0))$1)","(aaW$0(aes.take$1)$2)","(asome(aY3$0))","(e$0(aes.map$1))","(-xs.length$0)","(aY0K(aY0V$0)$1)","(ajS$0$1$2$3?_)","(alexp,m$0)","(abZ$0(fi$1))","(a.ListComp,elt$0scope,pos)","(e$0Y0i)","(agA$0$1$2(acB$3))","(aiO$0$1(aaL$2$3))","(aY3C,es)","(aY2J,?_)","(aY3A,Fr,Nat)","(~c.sum$0)","(aY8u$0xs)","(abO,bC$0$1)","(a.Call(a.Name$0p)$1$2pos)","(afS$0$1$2(agD,ss)Y8x(acB,cs))","(aY3A,Str,V)","(aY1M,V)","(aY3G,f)","(a.Name,y,py)","(auK$0$1$2bs,mix,cs$3)","(%Y2,0)","(aY2x,p$0)","(amg_none_of,X,G$0)","(aY1A,d$0)","(t$0iter,ifs,0)","(adY,X,scope$0N',js)","(<$0s.heap.objs.size)","(%$0X.env.locals)","(=vs.length$0)","(aOption,Rat)","(apure,false)","(adR(:j,0)$0)","(aY2j(aaD$0)$1)","(~$0xs.length)","(=$0xs.length)","(agD,ss$0$1)","(abT,Ya$0)","(aY2i(aaB$0))","(akA,kvs$0$1)","(adX$0(fj$1))","(aY7H$0Yb)","(amO$0(aoK$1))","(acC,fQ$0$1)","(aY9j$0$1s)","(aY5C$0rfl$1$2$3)","(a.int$0t)","(aiZ$0X.A)","(fσ2,H2(atb$0σ2,H2))","(aaL$0(aaK,Dd,Dd))","(t$0rfl$1$2$3$4$5)","(lY2o)","(aInt.mul_ediv_cancel_left,_,Oo)","(aY0M,e)","(aYbV,i)","(aY8I,k)","(aY15,c)","(aY2g,c)","(aYz,e$0)","(aY0N,a$0)","(acB$0(+1,w))","(fσ,H,Q(at,σ,H$0))","(aOption,Value)","(ans.map,V.int)","(aupd$0$1(a.lst$2))","(aY49,H$0)","(aY0r,Hp$0)","(awpAny_bind,?_)","(aY0D,xs.length)","(acC$0(aY17$1)$2)","(adot,n(aR$0)$1)","(afield(a.ref$0)$1)","(aOption,Addr)","(asome(a.dK$0))","(aVM$0(:c(aci$1))$2$3$4)","(aNV$0(:c(aci$1))$2$3$4)","(awpAny,_,_$0_,_$1)","(aList,Stmt)","(aif_pos,Oo)","(aIP,Y23)","(aeK$0us)","(aif_pos,q)","(atH,Yaj,Yaj)","(t$0$1$2rfl$3$4)","(alvl$0best$1)","(aYam$0$1$2(aY1L(aY7B$3$4$5$6)))","(aList,fT)","(fz(ae$0))","(aworz$0$1$2ss,mix$3$4cs$5)","(t$0rfl$1$2$3)","(aY6H$0rfl$1rfl$2)","(a.int,n)","(a.int,m)","(amB$0es,fs$1)","(aY5z,xs)","(<x.natAbs$0)","(aY5o,dI$0(aY17$1))","(afZ$0es(aq$1)$2)","(aY17,0)","(aI.hok.fresh(aaN,_))","(aoS,W,best)","(aY3N,k)","(aY8K,w)","(acO,_,this)","(gus,i)","(aNat.le_mul_of_pos_left,_$0)","(ajF$0rfl$1)","(ap.getD$00)","(aNat.two_pow_pos,_)","(a.inl,rfl)","(adet$0(ast$1$2$3))","(>Value$0)","(axY$0(abinaryOp$1)$2)","(aaO$0(aaK,Dd$1))","(=xs.length$0)","(a.Assign$0$1pos)","(abG$0(afs.map$1)$2)","(fe,a,?_)","(~ns.length$0)","(aIntsAre$0ns)","(aY0W$0$1a00$2)","(acK(:i,1)$0$1)","(aY3A$0Value)","(aY0V(aY38$0$1))","(aY0j$0(aY0V$1))","(acT(fe,_$0))","(aY66$0Dd)","(fd,?_)","(ajM,Yal$0)","(azY$0Y0o)","(=(aSeqAt.shaped$0)true)","(alt(aY60$0)(aY60$1))","(aY1A(azW$0)$1)","(agE$0$1$2Y5i)","(afR$0(aY2z$1)$2)","(aYeS$0Y2S)","(abZ$0(acB$1))","(arA$0$1(aY5M$2$3))","(p(avs.map,some)Y0X)","(asome,f)","(aX.mg,x)","(e$0es)","(aYbS$0Oo)","(aY0O$0$1rfl,?_)","(avN$0(adR$1)?_)","(awpAny_bind(awpAny_field$0rfl(:x$1)rfl,?_))","(l(a.ref$0))","(aY1U$0rfl$1$2$3$4$5)","(aPySem.W.findIn$0(a.ref$1)$2)","(aaU.upd(:o(a.dT$0))$1)","(t$0$1rfl$2$3$4)","(aY1Y(agE.of$0)$1)","(~xs.length$0)","(aY3A,Str,NameKind)","(+xs.length$0)","(aaX$0H,H')","(~kvs.length$0)","(agL,PassesOwn.never,rfl$0$1(aaR$2))","(aY3f$0(a.tup$1))","(=(aX.env.kindOf$0)$1)","(aY1R(aY1R$0))","(=fs.length$0)","(aabsurd$0Dd)","(aPv$0σ,H)","(aeC,Y1P)","(=A.handled,none)","(anE,Y02$0)","(aY6O$0(aYan$1$2)$3)","(afoldedSetIterable,iter,X.env$0)","(aY6d$0$1(aeN$2))","(abR.mp,a)","(abD.mp,a)","(aY0I,rfl)","(aY0j$0?_)","(amodel,X.prog,X.w)","(acH(fq$0))","(aiE$0(aaR$1)fA)","(aY2Y(aV(aY15$0)))","(aY4Z$0(aEP$1pins$2$3))","(+A.units$0)","(arA,F,M,best)","(amg_of,X$0$1)","(aList,V)","(asome,a)","(asome,e)","(asome,_)","(asome,j)","(asome,n)","(apure,x)","(akO,items.size,items.size,hi)","(aY9O,vs)","(asome(a.ins,C,dx,fs))","(Em(aW$0$1$2$3))","(aO.no,_$0)","(aBOk,10$0)","(alkN,Dd$0)","(aoW(:i$0)$1rfl(aOr.inr,rfl)$2)","(aYz$0ta)","(aY4Y,aI(aY4a,FQ7$0aI))","(abO(aiA,K)(aaD$0)aI)","(acC,dI(aaD$0)$1)","(t$0rfl$1rfl$2$3rfl,rfl$4)","(aY2i(agE.of$0))","(awpAny(amodel,X.prog,X.w)$0$1$2$3$4)","(acV$0(fe$1))","(aY5Z$0?_)","(afM(adS.o$0$1)$2YbN(f_,_,_,_$3))","(aY7y,X.A$0$1$2$3)","(aY5j$0s.heap.objs.size$1)","(f_,_,_,False)","(aYx(q$0sysModules))","(a.Subscript$0$1pos)","(=(ah'.get?$0)$1)","(aValue.ref,a)","(asome(a.own$0))","(a.ok(a.ret$0))","(aabsurd,rfl$0)","(acK(:i,5)$0$1)","(afU,rfl,T.b_range(aY1L$0))","(afU,rfl,T.b_range(aY4b$0))","(aQn.zero,_$0)","(aY0N(aY9n$0)$1)","(akG(adY.o$0$1$2)$3YbN(f_,_,_,_$4))","(aabsurd$0h)","(ad.getD$00)","(abQ(fw,_$0))","(aY0r$0Heap)","(aaJ$0(aY6j$1))","(agU$0Y0m$1)","(aY5H$0$1$2$3$4Ya)","(aI.cell$0c$1)","(aiE$0(aY0V$1)fA)","(a.ref,it)","(aaC.mp,a)","(aaM.mp,h)","(aaM.mp,g)","(a.Name,x,pos)","(aYbQ$0Y2S)","(aY3E,rfl,_$0)","(>$0PyData)","(e$0Y7b)","(asome,t)","(aX.fn,x)","(aY1k,Ae)","(aList.ext_getElem?(fi,?_))","(aY4T,Oo)","(a.Name,x1,p1)","(a.Name,x2,p2)","(aFn,Ns,1,f)","(aKV,kvs,vs)","(aJ.yld,i$0$1$2)","(xStr,Ak)","(aJ.go,i$0)","(akO,items.size$0lo)","(aY38$0aI)","(aYr$0ta)","(aYr$0te)","(aY9u$0kk)","(+s.heap.objs.size$0)","(awpAny_bind(awpAny_seqItems$0$1$2))","(~X.s₀.heap.objs.size$0)","(asome(azU$0$1))","(acongrArg,List.length$0)","(asc.names.lookup,x)","(acB,mix)","(asome(a.builtin$0))","(aD.nx,σ$0)","(f_,_,e,e)","(as.TypeIs(a.ref$0)$1)","(aList(aOption$0))","(awpAny_callSpecial?_slot(:name(aStr.ofString$0))$1$2(awpAny_call_entry$3$4$5$6$7))","(akeepIn$0(a.ref$1))","(a.Constant$0$1pos)","(fi,j(a.int$0))","(aY6I$0(fl,hl$1))","(agF,kvs$0)","(asome(a.str$0$1))","(acB,mix$0)","(aMd.det$0(ast$1$2$3))","(aY3N,c.sum)","(aY2j(aY17$0)$1)","(aY4U(aY2z$0)$1)","(aIsEnum$0$1$2$3old)","(aupd$0$1(a.ins$2$3$4))","(adC.int,_)","(aDO$0scope)","(aaJ$0(aYeT$1))","(aYr(aY4v$0$1$2)$3)","(aY1A(auZ$0)$1)","(agE.of,h)","(aY1Q,Nat)","(>Y18(aY5l,VK))","(acV$0(fx$1))","(aI.pin,p$0)","(aY08(aY7A$0))","(asome(t$0$1(a.func$2)$3))","(aY4j(fi$0))","(a.Call(aYdd$0apos)$1$2$3)","(acR,FQ67$0$1)","(agM.i$0$1?_)","(aoS$0best$1)","(aY08(anW$0rfl$1))","(asome,z)","(asome,m)","(aY0c,kb)","(aY5z,vs)","(aY49,H',s')","(t$0$1$2$3$4rfl$5)","(abZ$0(fw$1))","(f_,_,_,_,_,r,r)","(aY3A(aList,fT)$0)","(awpAny_bind(awpAny_setField_rec$0$1$2))","(aY7C$0$1X.xe$2)","(awpAny_bind(awpAny_mono$0$1$2))","(aPySem.W.keepIn$0(a.ref$1))","(awpAny_passesOwn$0(athn$1$2))","(al.map(aoS$0best))","(awpAny_mono$0$1(f_,_,f$2))","(aPySem.W.isFn$0(a.ref$1))","(ascope.names.all(fy$0))","(fi,σ,H',_,q,?_)","(aNat.le_add_right,_$0)","(a.BoolOp$0$1pos)","(a.Tuple$0$1pt)","(t(aStr.ofString$0)$1$2)","(aLoc,X.env.scope$0)","(abootBuiltins,x)","(aY6F$0c_Weighing$1)","(aPaired(fc,y$0)$1$2)","(e$0scope.names)","(fy,a,e,?_)","(=ns.length$0)","(aArray,Y5h)","(f_,_,q,q)","(ad.map,V.int)","(afC.i(:n$0)$1Oo$2$3)","(aY6F$0c_Master$1)","(aiY(fi,y,H'$0)$1$2$3$4)","(asome(a.frz$0$1))","(a.bool,true)","(a.Tuple,elts$0$1)","(aI.ok.hd,hc)","(f_,none)","(aY1q,ds$0)","(aY0R,t.word(aStr.ofString$0))","(aYbP(a.str$0)$1Y1N)","(aiV$0$1T.b_len,Kk(aY4b$2))","(aYi,Y5i)","(aYeU$0(asome$1)pos.line)","(acK(:i,6)$0$1)","(afs.take,i)","(aY3A,Str,Value)","(&(Aσ',H'$0)(Ax,H'$1))","(=bs.length$0)","(aInt.gcd$0d)","(aY2i(ajQ.of$0))","(adC.tup$0(abG.cons$1(abG.cons$2bG.nil)))","(aY4u(aY17$0)$1)","(<$0fs.length)","(aI.freeC$0c$1)","(aY0K$0(fv,q$1))","(q$0.cell)","(tDd$0)","(-e.length$0)","(=(akvs.any$0)$1)","(aList,β)","(aY64(aSem,Value))","(~$0100000)","(aR.len,e$0)","(akN$0$1$2RO.b2)","(aY0r,Nat$0)","(aYb1$0Y1n)","(Ai,y,H1,H2(>(aeW,H1,H2)$0))","(aBuiltin.SmallTypes.nextOf(a.ref$0))","(fe,?_)","(aPyProof.Rows.callWith_type1(athn$0$1)$2$3)","(aS.cells,I.ok)","(ajU$0$1T.b_tuple$2$3)","(adG(:i$0)$1rfl(aOr.inl,rfl))","(awpAny_bind(awpAny_attempt$0))","(abZ$0(ff$1))","(awpAny_bind(awpAny_rule$0))","(aI.turned(:t'$0)(fb,o,j,e$1)$2$3$4$5$6)","(aI1.fpOk$0(aI1.hok.fresh$1))","(aY2x,s.heap.objs.size$0)","(AC,fp,s₀,H₀(aiH$0$1$2))","(AC,fp,s₀,H₀(aLX$0$1$2))","(anC$0$1$2Nat.one_le_two_pow)","(aHeap.SameBut$0s.heap$1)","(q(ascope.names.lookup$0)$1)","(f_,_,_,_,_,h,h)","(aPySem.W.plainGet,K$0$1)","(f_,_,a,a.elim)","(aList.replicate,W$0)","(fi,σ,H'(aEx2$0))","(acall(a.builtin$0)$1)","(aHT.kO,xs.length$0$1)","(awpAny_pure(aYeX$0))","(ats.set,o$0)","(atupleKind(agT$0$1))","(a.ref,c.NOUGHT)","(aY4K,ps.length)","(qapos.endLine,cpos.line)","(aHeap.SameBut,e$0$1)","(aIsZip$0$1$2$3.ellipsis)","(acongrArg,some$0)","(amin,xs.length,ys.length)","(abG.ofRange,Oo$0)","(aY0j(fi,m,σ,H$0)$1)","(aFalse.elim,a)","(acodeAny(amodel$0$1)$2$3$4$5)","(akvs.map(fkv$0))","(aiT,vs.length$0)","(a.call(a.ref$0)$1)","(aoJ$0Ns$1$2997002999)","(aK.In,s.heap)","(a.inr(a.inl$0))","(aYj(ak.map$0))","(aY3E$0$1rfl)","(asome,Yy)","(<$0sizeLine)","(aB.getD$0.non)","(acL$0(abD.mpr$1))","(aenvOfC,qual$0s.heap.objs.size$1$2)","(aK,w.params)","(ajJ.i$0(avG.of$1)$2$3)","(~fs.length$0)","(a.cons$0.nil)","(aPaired(aVN$0$1)$2$3)","(~$0es.length)","(aps.zip,us)","(ane,z.symm)","(fon,?_)","(a.Tuple$0$1pt2)","(aY26(apyNext(a.ref$0)))","(akZ$0(a.type$1)$2)","(=cs.length$0)","(aIP,Yu)","(axs.getD$00)","(a.Compare,a$0$1$2)","(aBindsTo$0fd$1$2)","(aj.extBut,_$0$1$2)","(aLZ,vs.length(aQJ,cs))","(aEF(aQJ,cs)$0vs.length)","(aAn3$0Y1$1)","(aEL(asome$0)$1)","(alF,false,false,rfl,T.b_zip(aY4O$0$1))","(aiW(aiM,Y03$0)Y03$1)","(a.inr,rfl)","(a.bl,true)","(aY1M,Bool)","(a.Name,x,pos')","(aQ,.non,H')","(fc(aPyData.tuple(ac.map,.int)))","(aY3o(fr$0)$1)","(xAddr,Value)","(astart$0vs)","(a.dict,es$0)","(aDJ,I.hok$0)","(aDH,I.hok$0)","(acV,l(fa$0))","(an.getD$00)","(aY9t,.And$0)","(aY1j,Unit)","(atK,X.prog$0$1$2)","(aIsPair$0TO$1$2)","(f_,_,_,_,cU)","(=(as.heap.get?$0)$1)","(agS(:v$0)rfl$1$2)","(=(ascope.names.lookup$0)$1)","(awpAny_bind(awpAny_bind$0))","(fh(aabsurd$0$1))","(aInt.pos_of_mul_pos_right,this$0)","(aNat.mul_le_mul$0(aNat.le_of_lt$1))","(<$0xs.length)","(aList.getElem?_set_ne(fz$0))","(afI(:xs$0)$1Y9g$2$3$4$5)","(atupleKind_room_in1,hu)","(aI1.kept(:t'$0)(fb,o,e$1))","(acl,s3.heap.objs.size)","(ac.map,V.int)","(abase.Ns,mainGlobals$0)","(aPySem.W.hasDictIn,K$0)","(aInt.gcd_dvd_right$0d)","(aF.oky$0(fz,H,Q,E,h$1))","(aA.under(a.builtin$0$1))","(aYx(abehindInMarks$0$1))","(aArray,DictEntry)","(aAllBare,s'.gens)","(aValue.ref,Y25)","(adG(:i$0)$1$2(aOr.inr$3))","(aRat.le_trans$0?_)","(aNat.succ_pos,_)","(aY0D,kvs.length)","(abG.cons$0bG.nil)","(aX.base.get?,b)","(f_,_,False)","(aYx,d.hasDict)","(aPassesOwn$0$1X.env$2)","(=(aenv.cells.lookup$0)$1)","(aA.deeper(aYb6$0$1$2))","(aσ.set$0Yy)","(t$0(fx,H3,y$1))","(asome(aseqObj$0$1$2))","(aassign$0X.env)","(aQQ,xs.length$0)","(aD.getD,c.sum$0)","(afs.lookup,f)","(fd,hd,?_)","(aY1q(aas.map$0)$1)","(aY1q(acs.map$0)$1)","(a.inl(a.inl$0))","(fσ,H,Q(ata$0$1$2))","(asZ(afs.zip$0))","(aIsTup,s.heap$0$1)","(aaL,I.ok.bsz$0)","(atN$0(aα.mono$1)$2)","(abG.flat$0(amI$1)$2)","(=(as₁.heap.get?$0)$1)","(aOption,Nat)","(a.ref,c.ONE)","(aI.base.free,b$0$1$2$3)","(aK.lookup,a)","(fi,a,?_)","(abQ(:g(fw$0))$1)","(aY1S,ns.sum)","(aY74(fχ,H'$0))","(asay,Ya)","(aYj,Yc1)","(=d.showable$0)","(akJ(:n,n)$0)","(%t.word(aStr.ofString$0))","(aif_pos,h2)","(aif_pos,is)","(aif_neg,h2)","(f_,q,q)","(afs.map,rv)","(aes.take,n)","(aws.map,wD)","(aaX.self(:p$0)(:H$1)(:o(a.ins,c.Master$2$3)))","(aiV$0$1T.b_sum,Kk(aY4b$2))","(e$0(afs.map$1))","(agR(fk,_$0)$1)","(afI(fi,y,H'$0)$1$2$3$4$5)","(aYbX$0(fi,y,_$1)$2$3$4$5)","(=ws.length$0)","(Ec(=(aX.env.cells.lookup$0)Y1u))","(fj(aY3R$0))","(avalueAt$0k)","(acs.getD,i$0)","(ays.getD,i$0)","(akW(:xs$0)$1$2$3?_$4)","(fσ,H,R(ata$0$1(fvs,H1$2)))","(aList.replicate$00)","(a.Attribute,o$0$1)","(aX.s₀.heap.get?,s.heap.objs.size)","(awpAny_typeNameOfWhole_keyiter$0?_)","(aRat.le_of_lt(aRat.inv_pos.mpr$0))","(aList.of_mem_zip(:a$0)(:b$1)d)","(awpAny_bind(awpAny_holding$0))","(awpAny_bind(awpAny_standAt$0))","(avs.toArray.zip,vs.toArray)","(aList.toArray(aList.range$0))","(aNat.le_mul_of_pos_right,_$0)","(awpAny_bind(awpAny_letGo$0))","(awpAny_isOneOf_keyiter$0?_)","(aInt.emod_nonneg$0(:b$1)Oo)","(a.ref,c.heap.objs.size)","(aAround.under_plainId$0_)","(auY(:xs$0)(:ys$1)(fi,σ,H'$2)$3$4$5$6)","(aNat.one_lt_two_pow,Dd)","(acall_meetsIn,PySem.F.slot_dict_get$0PySem.F.entry_dict_get$1$2$3)","(awpAny_bind(:m(aBuiltin.Tuple.tupleExact$0))(awpAny_newObj_type$1$2))","(ascope.names.filter(fy$0))","(fb,o,e,n,L,hx,?_)","(aswapsWithSole$0$1pos.line$2)","(as.heap.IsSliceOf$0$1$2.none)","(aYbR(awpAny_onRaise$0))","(qX.env.scope.kind$0)","(aPySem.W.plainOver,K$0)","(aY0D,d.shown.length)","(%$0s.heap.objs.size)","(awpAny_mono$0$1(f_,_,x$2))","(aswappedStores$0$1X.env)","(ans.map,PyData.int)","(avs.getD$0Value.none)","(acodeAny_builtin$0?_)","(awpAny_loadPart',j)","(awpAny_loadPart',m)","(%s.heap.objs.size$0)","(aPySem.W.instObj,C$0)","(aPySem.W.makesIn,K$0)","(aOption,NameKind)","(+c.heap.objs.size$0)","(ah.Ns,mainGlobals$0)","(axJ$0$1(fC,fp,s₀,H₀$2)(fC,fp,s₀,H₀$3)$4$5)","(aI.tuple(ajQ.of$0))","(aw.toList.map(fi$0))","(=(aX.s₀.heap.get?$0)$1)","(aVis,X.env.scope$0)","(aPySem.W.codeIn,K$0$1)","(asubscripted$0false$1$2)","(aQn.sumR(:n,W)$0)","(fi,σ,H'(aEx3$0))","(aY3M$0$1$2s3.heap.objs.size$3$4$5$6)","(aYb3,kvs.length)","(abG.snoc$0(adC.flat$1$2$3))","(a.Subscript$0$1pos')","(fx,H',y,?_)","(aaJ(:m,100000)$0$1)","(aaU.thru$0$1aX.self)","(aY0D,ys.length)","(aY67,ys.length)","(aY6L,zs.length)","(aY9C,ms.length)","(aY6U,xs.length)","(fi,H(Exs,x$0))","(q$0items.size)","(f_,_,q(aY1R$0))","(awpAny_mono$0$1Y8A)","(fb,z(aabsurd$0$1))","(aHT.kO,d.length$0$1)","(axs.map,V.int)","(aPyData.eqv$0d')","(fb,a,h(as.at$0$1))","(aHeap.ExtBut$0$1h')","(aRat.mul_pos,g$0)","(aYbP$0T.g_NOUGHT$1)","(awpAny_bind(aAX$0$1$2$3))","(agE.of(ab'.at$0$1))","(a.done(a.ret$0))","(aMd.gR(fk,_$0)$1)","(aY0U(acongrArg$0$1))","(aOption,Expr)","(aI.base.there,b$0$1$2)","(f_,false)","(aa.map,V.int)","(arsT(:ns$0)$1?_)","(alU,c.Master)","(aY9Q$0T.g_RULE)","(asome(a.tbl$0))","(aZ.sl.uz$0(aaE$1))","(fx,H1(Ea$0))","(aR.flat$0Y2h)","(=$0(aStr.ofString$1))","(fq(aabsurd$0$1))","(asome,.free)","(<$0h.objs.size)","(abackTo,cpos$0)","(fσ,H,Q(awi$0$1$2))","(a.UnaryOp$0$1pos)","(aK.lookup,f)","(fi,j(a.bl$0))","(fa,e,?_)","(fe,j,?_)","(aaX.self(:p$0)(:H$1)(:o(a.ins,c.Weighing$2$3)))","(aY6J,100000)","(=(aX.env.scope.names.lookup$0)$1)","(aNat.pow_lt_pow_right,Dd$0)","(aswapsWith$0$1$2X.env)","(aBuiltin.SmallTypes.ownedTupleIsFree(a.ref$0))","(aI.laid(:a,s.heap.objs.size)(:o$0)(:h'$1)(:t'$2)$3$4$5)","(aY7(awpAny_pure$0))","(awpAny_isInstance(:T$0)(:b$1)$2isSubtype_stop$3)","(aInt.ediv_nonneg$0(aInt.natCast_nonneg$1))","(awpAny_bind(awpAny_updateSeq_pair$0$1))","(aRat.le_of_mul_le_mul_left(:c$0)?_$1)","(abootBuiltins(aStr.ofString$0))","(aList.toArray(ap.toList.map$0))","(aPySem.F.args_tuple_add_2,_$0)","(aPySem.W.plainGet_of,hg)","(aCalls.spliced_cons(athn$0$1))","(aBY(:F,F)(:M$0)(:best$1))","(aNat.lt_of_succ_lt,this)","(asX,PySem.F.plainAttrs_list,PySem.F.slot_list_extend,PySem.F.type_list_extend$0$1$2)","(as.heap.FunFrames,X.base$0)","(aI.mod.glob.keeps,I.bk)","(awpAny_bind(awpAny_load$0$1))","(atJ.some_of(:v,v)(:o$0)$1)","(awpAny_bind(aseqEpoch_at$0$1$2))","(aI.laid(:t',s.toks)(:o$0)$1$2$3)","(aI.turnedL(:t',s.toks)$0$1)","(aI.hok.fresh(aaN,s.heap.objs.size))","(fc(adecide$0))","(aNat.pos_of_ne_zero(fz$0))","(aI1.hok.fresh,Yq)","(aList.getElem_mem,hw)","(aNat.pow_pos,I.mz.s1)","(awpAny_newObj_type,?_$0)","(aaFI$0$1$2$3(fv,u,g,x,y,H2,I2,d,e,q$4))","(aaE4(f_,_,_,_,_,_,_,q$0))","(aInt.emod_lt_of_pos,_$0)","(aeO(:l$0)(:j$1)(:a$2)Oo)","(aY7H,s.heap.objs.size$0)","(aNat.lt_succ_self,_)","(awpAny_dictEntries,hod$0$1)","(aPyData.depthAll,ds)","(fj,σ,H',_,q,?_)","(aList.replicate$0none)","(AC,fp,s₀,H₀(aPTs$0$1$2))","(aI.write(:x$0)(:e$1)$2Y62$3$4$5)","(aget?_update_seq$0(f_$1))","(aF.oky$0(fα,H,Q,E,h$1))","(asome(aValue.type$0))","(aI1.laid(:t'$0)$1Yq$2)","(AC,fp,s₀,H₀(aPE$0$1$2))","(aInt.gcd_dvd_left$0d)","(aInt.emod_nonneg$0Oo)","(awpAny_holding,?_)","(ff,vs(aPySem.call$0$1))","(awpAny_dictEpoch,hod$0$1)","(fM,H,Q,E,h,?_)","(aF.oky$0(fI,H,Q,E,h$1))","(aF.oky$0(fy,H,Q,E,h$1))","(f_,_,_,h(arN.same$0$1))","(~s.heap.objs.size$0)","(+s1.heap.objs.size$0)","(aInt.mul_pos,h.pos$0)","(aInt.mul_pos,m.pos$0)","(awpAny_execs_nil(t$0$1$2$3))","(as.heap.push(aitO$0$1))","(aHeap.get?_update_ne,_$0$1$2$3)","(acA$0(aRat.le_of_lt$1))","(fH5,e5,b5,?_)","(a.tuple(afs.map$0))","(auC(:n$0)(:d,d))","(aAT(:n$0)(:g$1)(fi,a$2))","(al2.filter(aYfi$0))","(aYbP$0T.g_LOOKS_ON,Y1N)","(aNat.ne_of_gt,P)","(aaU.upd(:o(a.lst$0))$1)","(afX(:c$0)(:j$1)Oo)","(aeM$0(aNat.pow_pos$1))","(aI.tg(:W$0)(aY2Z$1))","(aaB(:l$0)(:i$1)Oo)","(=scope.kind,.function)","(aseqIndex_neg,Oo$0)","(aoperate$0(agetItem$1$2))","(aplainId_quiet$0_)","(adC.tup$0(abG.ofIdx$1$2))","(fi,σ,H'(aEx1$0))","(aA.rl.stops$0(aQ.h1$1$2))"]
def zK:List (Char × String × String):=[('x',"«term_×_»","×"),('>',"Lean.Parser.Term.arrow","->"),('=',"«term_=_»","="),('|',"«term_∨_»","\\/"),('&',"«term_∧_»","/\\"),('q',"«term_==_»","=="),('p',"«term_++_»","++"),('%',"«term_≠_»","≠"),('<',"«term_<_»","<"),('~',"«term_≤_»","<="),('e',"«term_∈_»","∈"),('#',"«term_::_»","::"),('+',"«term_+_»","+"),('*',"«term_*_»","*"),('-',"«term_-_»","-"),('^',"«term_^_»","^"),('/',"«term_/_»","/")]
def zW(c:Char):Bool:=c.isAlphanum||c.val>127||"_.'!?".contains c
def zI(s:String):zs:=if s=="_" then zm "hole" #[za "_"] else if s=="?_" then zm "syntheticHole" #[za "?",za "_"] else if s=="Prop" then zm "prop" #[za s] else if s.front=='.' then zm "dotIdent" #[za ".",Lean.mkIdent (s.drop 1).toString.toName] else if s.front.isDigit then Lean.Syntax.mkNumLit s else Lean.mkIdent s.toName
def zS(x:Array zs):zs:=zn `null ((x.foldl (fun a y=>(a.push y).push (za ",")) #[]).pop)
def zB(o:Char)(b:Array zs):zs:=
 let l:=zn `null b.pop
 match o with
 |'a'=>zm "app" #[b[0]!,zn `null (b.extract 1 b.size)]
 |'t'=>zm "anonymousCtor" #[za "⟨",zS b,za "⟩"]
 |'l'=>zn `«term[_]» #[za "[",zS b,za "]"]
 |'g'=>zn `«term__[_]_?» #[b[0]!,zn `group #[],za "[",b[1]!,za "]",zn `group #[],za "?"]
 |':'=>zm "namedArgument" #[za "(",b[0]!,za ":=",b[1]!,za ")"]
 |'f'=>zm "fun" #[za "fun",zm "basicFun" #[l,zn `null #[],za "=>",b.back!]]
 |'A'=>zm "forall" #[za "∀",l,zn `null #[],za ",",b.back!]
 |'E'=>zn `«term∃_,_» #[za "∃",zn `Lean.explicitBinders #[zn `Lean.unbracketedExplicitBinders #[zn `null (b.pop.map fun x=>zn `Lean.binderIdent #[x]),zn `null #[]]],za ",",b.back!]
 |_=>match zK.find? (·.1==o) with
 |some (_,k,s)=>zn k.toName #[b[0]!,za s,b[1]!]
 |none=>.missing
def zL(x:Array zs):Nat->List Char->Array zs->Array zs × List Char
|0,r,a=>(a,r)
|_,[],a=>(a,[])
|n+1,c::r,a=>
 if c==')' then(a,r)
 else if c==',' then zL x n r a
 else if c=='$' then zL x n r.tail (a.push (x[r.head!.toNat-48]!))
 else if c=='(' then
  let (b,q):=zL x n r.tail #[]
  zL x n q (a.push (zB r.head! b))
 else
  let w:=(c::r).takeWhile zW
  zL x n ((c::r).drop w.length) (a.push (zI (String.ofList w)))
def zX(f:zs)(x:Array zs):Lean.MacroM zs:=
 let s:=f.getId.toString.toList
 let d:=fun c:Char=>if c.isDigit then c.toNat-48 else if c.isLower then c.toNat-87 else c.toNat-29
 let i:=match s with |['Y',a]=>d a |['Y',a,b]=>62+62*d a+d b |_=>99999
 if i<zT.size&&zT[i]!!="" then return (zL x 999 zT[i]!.toList #[]).1[0]! else Lean.Macro.throwUnsupported
local macro_rules
|`($f:ident $x*)=>zX f x
|`($f:ident)=>zX f #[]
set_option hygiene true
def Oo{p:Prop}(h:p:=by first|lia|omega):p:=h
def Dd{p:Prop}(h:p:=by decide):p:=h
def Kk{p:Prop}(h:p:=by decide +kernel):p:=h
abbrev Aa:=PySem.W.Frag
abbrev Ab:=List (List Nat)
abbrev Ac:=List (List Int)
abbrev Ad:=Y3A PySem.Addr PySem.Obj
abbrev Ae:=List Nat
abbrev Af:=List Int
abbrev Ag:=List PySem.Value
abbrev Ah:=Y05
abbrev Ai:=Array PySem.Value
namespace PySem
abbrev aA:=@List.length_map
abbrev aB:=@List.getElem?_eq_getElem
abbrev aC:=@List.getElem?_eq_some_iff
abbrev aE:=@List.mem_of_getElem?
abbrev aF:=@List.getElem?_map
abbrev aG:=@Heap.get?_push_of_some
abbrev aJ:=@Nat.lt_of_le_of_lt
abbrev aK:=@Nat.pow_le_pow_right
abbrev aL:=@Nat.le_trans
abbrev aM:=@List.mem_map
abbrev aN:=@Nat.le_refl
abbrev aO:=@Nat.lt_of_lt_of_le
abbrev aS:=@List.mem_cons_self
abbrev aT:=@List.length_range
abbrev aV:=@List.getD_eq_getElem?_getD
abbrev aY:=@List.mem_cons_of_mem
abbrev aZ:=@List.length_append
abbrev bD:=@List.mem_singleton
abbrev bE:=@List.map_cons
abbrev bF:=@Heap.get?_push_size
abbrev bH:=@List.length_replicate
abbrev bI:=@List.map_append
abbrev bJ:=@Nat.mul_le_mul_right
abbrev bK:=@List.mem_cons
abbrev bL:=@List.getElem?_range
abbrev bM:=@List.size_toArray
abbrev bN:=@Heap.lt_size
abbrev bR:=@List.mem_range
abbrev bS:=@List.getElem?_eq_none
abbrev cA:=@Rat.mul_nonneg
abbrev cD:=@decide_eq_false
abbrev cE:=@Bool.false_ne_true
abbrev cH:=@Classical.byContradiction
abbrev cI:=@List.length_cons
abbrev cJ:=@List.getElem?_append_right
abbrev cL:=@List.mem_append_right
abbrev cM:=@List.mem_append_left
abbrev cN:=@decide_eq_true
abbrev cO:=@Nat.lt_irrefl
abbrev cP:=@Nat.zero_le
abbrev cQ:=@List.getElem?_append_left
abbrev dD:=@Int.natAbs_mul
abbrev dF:=@Nat.mul_le_mul_left
abbrev dJ:=@Nat.ne_of_lt
abbrev dL:=@List.take_length
abbrev dM:=@Bool.and_eq_true
abbrev dO:=@List.mem_append
abbrev eL:=@Option.map_eq_some_iff
abbrev eM:=@Nat.mul_pos
abbrev fD:=@List.map_congr_left
abbrev fP:=@List.length_take
abbrev gB:=@Option.some.inj
abbrev gC:=@List.mem_filter
abbrev gK:=@List.mem_iff_getElem?
abbrev gY:=@Heap.size_push
abbrev jV:=@List.take_add_one
abbrev kE:=@Nat.le_of_dvd
abbrev mL:=@Nat.dvd_mul_right
end PySem
open PySem
namespace L2
open PySem PySem.Spec PyProof.Rows
abbrev fT:=Sum Int Str
def FF:fT->Y64 Bool
 | .inl k,v=>Value.isInt k v
 | .inr x,v=>Value.isStrOf x v
def aIX(w:World):fT->Int
 | .inl k=>hashInt k
 | .inr x=>hashStr w x
def iN:∀{k:fT}{v:Value},FF k v=true->(∃i t,k=Sum.inl i/\v=Value.int i t)\/(∃x t,k=Sum.inr x/\v=Value.str x t)
 | .inl i,v,h=>by
  obtain⟨t,e⟩:=Value.isInt_shape (k:=i) (v:=v) h;exact .inl ⟨i,t,rfl,e⟩
 | .inr x,v,h=>by
  obtain⟨t,e⟩:=Value.isStrOf_shape (x:=x) (v:=v) h;exact .inr ⟨x,t,rfl,e⟩
def UB(i:Int)(t:Tok):FF (.inl i) (Y51 i)=true:=by simp[FF,Value.isInt]
def UA(x:Str)(t:Tok):FF (.inr x) (.str x t)=true:=by simp[FF,Value.isStrOf]
def aFl(a b:Int):Y0R (Sum.inl a:fT) (Sum.inl b)=(a == b):=by
 by_cases e:a=b
 ·subst e;simp
 ·have h:¬(Sum.inl a:fT)=Sum.inl b:=λq=>e (Sum.inl.inj q);rw[cD h];exact(beq_eq_false_iff_ne.mpr e).symm
def aFi(a b:Str):Y0R (Sum.inr a:fT) (Sum.inr b)=Y0R a b:=by
 by_cases e:a=b
 ·subst e;simp
 ·have h:¬(Sum.inr a:fT)=Sum.inr b:=λq=>e (Sum.inr.inj q);rw[cD h,cD e]
def aFk(a:Int)(b:Str):Yx (Y0R (Sum.inl a:fT) (Sum.inr b)):=cD (λq=>nomatch q)
def aFj(a:Str)(b:Int):Yx (Y0R (Sum.inr a:fT) (Sum.inl b)):=cD (λq=>nomatch q)
def gT(prog:Program)(w:World):PySem.KeyKind prog w fT where
 is:=FF
 hash:=aIX w
 inj:=λv a b ha hb=>by
  rcases iN ha with⟨i,t,rfl,rfl⟩ | ⟨x,t,rfl,rfl⟩
  ·rcases iN hb with⟨j,u,rfl,e⟩ | ⟨y,u,rfl,e⟩
   ·injection e with e1 _;rw[e1]
   ·exact nomatch e
  ·rcases iN hb with⟨j,u,rfl,e⟩ | ⟨y,u,rfl,e⟩
   ·exact nomatch e
   ·injection e with e1 _;rw[e1]
 byValue:=λk v h=>by
  rcases iN h with⟨i,t,rfl,rfl⟩ | ⟨x,t,rfl,rfl⟩ <;> rfl
 pyHash:=λhv h=>by
  rcases iN hv with⟨i,t,rfl,rfl⟩ | ⟨x,t,rfl,rfl⟩
  ·exact wpAny_pyHash_int h
  ·exact wpAny_pyHash_str h
 eqBool:=λhu hv h=>by
  rcases iN hu with⟨i,t,rfl,rfl⟩ | ⟨x,t,rfl,rfl⟩
  ·rcases iN hv with⟨j,u,rfl,rfl⟩ | ⟨y,u,rfl,rfl⟩
   ·rw[aFl]at h;exact wpAny_eqBool_int h
   ·rw[aFk]at h;exact SeqAt.EqAt.int_str i t y u _ _ _ _ h
  ·rcases iN hv with⟨j,u,rfl,rfl⟩ | ⟨y,u,rfl,rfl⟩
   ·rw[aFj]at h;exact SeqAt.EqAt.str_int x t j u _ _ _ _ h
   ·rw[aFi]at h;exact wpAny_eqBool_str h
 «strs» := λk x t v h=>by
  rcases iN h with⟨i,u,rfl,e⟩ | ⟨y,u,rfl,e⟩
  ·exact nomatch e
  ·injection e with e1 _;subst e1;cases v <;> rfl
def JU(prog:Program)(w:World)(i:Int)(t:Tok):(gT prog w).is (.inl i) (Y51 i)=true:=UB i t
def JT(prog:Program)(w:World)(x:Str)(t:Tok):(gT prog w).is (.inr x) (.str x t)=true:=UA x t
inductive V where
 | non | bl (b:Bool) | int (i:Int) | str (x:Str) | byt (b:Array UInt8) | flt (b:UInt64) | ref (a:Addr) | ty (n:String)
 deriving DecidableEq
def fJ:Y0r V Value
 | .non,u=>u=Value.none
 | .bl b,u=>u=Value.bool b
 | .int i,u=>∃t,u=Value.int i t
 | .str x,u=>∃t,u=Value.str x t
 | .byt b,u=>∃t,u=Value.bytes b t
 | .flt b,u=>∃t,u=Value.float b t
 | .ref a,u=>u=Value.ref a
 | .ty n,u=>u=Value.type n
abbrev eK:Y0r Y7d Ag:=Paired fJ
theorem eK.length{xs:Y7d}{us:Ag}(r:Y5N):Y67 us.length:=Paired.length r
theorem eK.get:∀{xs:Y7d}{us:Ag}{i:Nat}{x:V},Y5N->Y0q=Y8->∃u,Y5X=Yp/\fJ x u
 | _,_,_,_,.nil,e=>by simp at e
 | _,_,0,_,.cons r _,e=>by simp at e;subst e;exact⟨_,rfl,r⟩
 | _,_,i+1,x,.cons _ t,e=>by
  obtain⟨u,h1,h2⟩:=eK.get (i:=i) (x:=x) t (by simpa using e);exact⟨u,by simpa using h1,h2⟩
theorem eK.set{x:V}{u:Value}(r:fJ x u):∀{xs:Y7d}{us:Ag}(i:Nat),Y5N->eK (xs.set i x) (us.set i u)
 | _,_,_,.nil=>.nil
 | _,_,0,.cons _ t=>.cons r t
 | _,_,i+1,.cons q t=>.cons q (eK.set r i t)
theorem eK.append:∀{xs ys:Y7d}{us ws:Ag},Y5N->eK ys ws->eK (xs++ys) (us++ws)
 | _,_,_,_,.nil,s=>s
 | _,_,_,_,.cons r t,s=>.cons r (eK.append t s)
theorem eK.take:∀{xs:Y7d}{us:Ag}(n:Nat),Y5N->eK (xs.take n) (us.take n)
 | _,_,0,_=>.nil
 | _,_,_+1,.nil=>.nil
 | _,_,n+1,.cons r t=>.cons r (eK.take n t)
theorem eK.drop:∀{xs:Y7d}{us:Ag}(n:Nat),Y5N->eK (xs.drop n) (us.drop n)
 | _,_,0,r=>r
 | _,_,_+1,.nil=>.nil
 | _,_,n+1,.cons _ t=>eK.drop n t
def tJ:Y0r (Option V) Y5h
 | some v,some u=>fJ v u
 | none,none=>True
 | _,_=>False
def KV{κ:Type}:Y0r Y3k (Y6f κ):=Paired λ(p:κ × V) (q:κ × Value)=>p.1=q.1/\fJ p.2 q.2
def kV:fT->V
 | .inl i=>.int i
 | .inr x=>.str x
inductive HO where
 /-- a list -/
 | lst (xs:Y7d)
 /-- a tuple (never changes) -/
 | tup (xs:Y7d)
 /-- a dict whose keys are ints and texts;one whose keys are tuples of ints and texts (the empty one is both) -/
 | dK (kvs:Y2K) | dT (kvs:Yt)
 /-- a set of ints: its members,its size -/
 | set (S:Y1Q Int) (n:Nat)
 /-- an instance of the class at C,its dict at dx,its attributes -/
 | ins (C dx:Addr) (fs:Y4x)
 /-- the dict of the instance at x -/
 | own (x:Addr)
 /-- the dict of an exception -/
 | xd (fs:Y4x)
 /-- a bound method,f of x -/
 | met (f x:Addr)
 /-- a range object lo,lo+1,.. below hi -/
 | rng (lo hi:Int)
 /-- a thing that is known to the object (the script;a dict while a loop walks it): read,never written while it is so -/
 | frz (o:Obj) (u:HO)
 /-- a code object's table -/
 | tbl (ps:Ai)
 /-- any other thing,by what is true of its one object (a def of one's own: SetO a S n:=HO.ext λh=>..) -/
 | ext (φ:Y1k Heap)
abbrev Hp:=Addr->Option HO
def upd(H:Hp)(a:Addr)(o:HO):Hp:=λb=>if b=a then Yb else H b
def bP{H:Hp}{a:Addr}{o:HO}:upd H a o a=Yb:=by unfold upd;rw[Yo]
def fF{H:Hp}{a b:Addr}{o:HO}(h:b≠a):upd H a o b=H b:=by unfold upd;rw[Y3L]
def tE{H:Hp}{a b:Addr}{o u:HO}(h:H a=Yb)(h':H b=Yp)(d:o≠u):a≠b:=by
 intro e;subst e;rw[h]at h';exact d (gB h')
def dU{H:Hp}{a b:Addr}{o:HO}(h:H a=Yb)(h':H b=none):a≠b:=by
 intro e;subst e;rw[h]at h';cases h'
section
variable(P:Program)(w:World)
def hV(H:Hp)(h:Heap)(a:Addr):Y1k HO
 | .lst xs=>xs.length<=sizeLine/\∃(its:Ag) (n:Nat),eK xs its/\h.get? a=some { cls:=.type "list",data:=.seq its.toArray n }
 | .tup xs=>(xs.length<=sizeLine/\∃o,h.get? a=some o/\o.dict=none)/\∃its:Ag,eK xs its/\IsTup h a its.toArray
 | .dK kvs=>kvs.length<=sizeLine/\(a == sysModules)=false/\∃vs,KV kvs vs/\h.DictOf (gT P w) a vs
 | .dT kvs=>kvs.length<=sizeLine/\(a == sysModules)=false/\∃xs:List (List fT × Addr × Value),
   Paired (λ(p:List fT × V) (q:List fT × Addr × Value)=>p.1=q.1/\H q.2.1=some (.tup (p.1.map kV))/\fJ p.2 q.2.2) kvs xs /\
   ∃o es ep,h.get? a=some o/\o.ExactDict/\o.data=.dict es ep/\es.toList=xs.map (entryOfKey (tupleKind (gT P w)))/\(xs.map (·.1)).Nodup
 | .set S n=>h.SetOf (intKind P w) a S n
 | .ins C dx fs=>H dx=some (.own a)/\fs.length<=1000/\dx≠a/\h.get? a=some (PySem.W.instObj C dx) /\
   ∃mA,h.Ns1 dx mA/\(∀f,tJ (fs.lookup f) (mA f))/\PySem.Within mA (fs.map (·.1))
 | .own _=>∃o,h.get? a=some o
 | .xd fs=>∃mA,h.Ns1 a mA/\∀f,tJ (fs.lookup f) (mA f)
 | .rng lo hi=>∃t u v,h.get? a=some { cls:=.type "range",data:=.fields #[.int lo t,.int hi u,.int 1 v] }
 | .frz o u=>h.get? a=some o/\hV H h a u
 | .tbl ps=>h.get? a=some { cls:=.none,data:=.fields ps }
 | .met f x=>h.get? a=some (PySem.W.methodObj (.ref f) (.ref x))
 | .ext φ=>φ h/\(∃o,h.get? a=some o)/\∀h1 h2:Heap,φ h1->(∀o,h1.get? a=some o->h2.get? a=some o)->φ h2
def tK(H:Hp)(h:Heap):Prop:=∀a o,H a=Yb->hV P w H h a o
end
section
variable{P:Program}{w:World}{H H':Hp}{h h':Heap}{a:Addr}{o:HO}
theorem hV.lt(x:hV P w H h a o):YeI a:=by
 cases o with
 | lst xs=>obtain⟨_,_,_,_,e⟩:=x;exact bN e
 | tup xs=>obtain⟨_,_,_,p⟩:=x;exact p.lt
 | dK kvs=>obtain⟨_,_,_,_,o,_,_,e,_⟩:=x;exact bN e
 | dT kvs=>obtain⟨_,_,_,_,o,_,_,e,_⟩:=x;exact bN e
 | set S n=>obtain⟨o,_,_,_,e,_⟩:=x;exact bN e
 | ins C dx fs=>obtain⟨_,_,_,e,_⟩:=x;exact bN e
 | own y=>obtain⟨_,e⟩:=x;exact bN e
 | xd fs=>obtain⟨_,⟨_,_,_,e,_⟩,_⟩:=x;exact bN e
 | rng lo hi=>obtain⟨_,_,_,e⟩:=x;exact bN e
 | frz ob u=>obtain⟨e,_⟩:=x;exact bN e
 | tbl ps=>exact bN (show h.get? a=some _ from x)
 | met f y=>exact bN (show h.get? a=some _ from x)
 | ext φ=>obtain⟨_,⟨_,e⟩,_⟩:=x;exact bN e
theorem Paired.mapP{α β:Type}{F G:Y0r α β}:∀{l₁:Yv}{l₂:Yaa},Paired F l₁ l₂->(∀a b,F a b->G a b)->Paired G l₁ l₂
 | _,_,.nil,_=>.nil
 | _,_,.cons r t,f=>.cons (f _ _ r) (Paired.mapP t f)
def Paired.imp'{α β:Type}{F G:Y0r α β}(f:∀a b,F a b->G a b){l₁:Yv}{l₂:Yaa}(r:Paired F l₁ l₂):Paired G l₁ l₂:=Paired.mapP r f
def hV.stay(x:hV P w H h a o)(k:∀b u,(b=a\/H b=Y7J a)->Y1O=Yp->Y1a=Yp)
  (ho:∀b,H b=Y7J a->Y1I=Y7J a) (ht:∀b xs,H b=Y12->Y1I=Y12):hV P w H' h' a o:=by
 induction o with
 | lst xs=>obtain⟨z,l,n,r,e⟩:=x;exact⟨z,l,n,r,Y46 _ e⟩
 | tup xs=>obtain⟨⟨z,D,B,dn⟩,l,r,g,e,c⟩:=x;exact⟨⟨z,D,Y46 _ B,dn⟩,l,r,g,Y46 _ e,c⟩
 | dK kvs=>obtain⟨z,y,A,r,g,i,j,e,c⟩:=x;exact⟨z,y,A,r,g,i,j,Y46 _ e,c⟩
 | dT kvs =>
  obtain⟨z,y,xs,r,g,i,j,e,c⟩:=x;exact⟨z,y,xs,Paired.mapP r λp q z=>⟨z.1,ht _ _ z.2.1,z.2.2⟩,g,i,j,Y46 _ e,c⟩
 | set S n=>obtain⟨g,i,j,t,e,c⟩:=x;exact⟨g,i,j,t,Y46 _ e,c⟩
 | ins C dx fs =>
  obtain⟨d,z,ne,e,mA,⟨m,i,j,s,c⟩,r⟩:=x;exact⟨ho _ d,z,ne,Y46 _ e,mA,⟨m,i,j,k _ _ (.inr d) s,c⟩,r⟩
 | own y=>obtain⟨g,e⟩:=x;exact⟨g,Y46 _ e⟩
 | xd fs=>obtain⟨mA,⟨m,i,j,e,c⟩,r⟩:=x;exact⟨mA,⟨m,i,j,Y46 _ e,c⟩,r⟩
 | rng lo hi=>obtain⟨t,u,v,e⟩:=x;exact⟨t,u,v,Y46 _ e⟩
 | frz g u ih=>obtain⟨e,q⟩:=x;exact⟨Y46 _ e,ih q⟩
 | tbl ps =>
  have e:h.get? a=some { cls:=.none,data:=.fields ps }:=x;show Y7H a (some { cls:=.none,data:=.fields ps });exact Y46 a e
 | met f y =>
  have e:h.get? a=some (PySem.W.methodObj (.ref f) (.ref y)):=x;show Y7H a (some (PySem.W.methodObj (.ref f) (.ref y)));exact Y46 a e
 | ext φ=>obtain⟨p,⟨o,e⟩,st⟩:=x;exact⟨st _ _ p λo q=>Y46 _ q,⟨o,Y46 _ e⟩,st⟩
theorem tK.lt(x:tK P w H h)(e:H a=Yb):YeI a:=(x a o e).lt
def tK.fresh(x:tK P w H h)(e:h.objs.size<=a):H a=none:=by
 cases q:H a with
 | none=>rfl
 | some u=>exact absurd (aO (x.lt q) e) (cO _)
def tK.kept(x:tK P w H h)(k:∀b u,Y1O=Yp->Y1a=Yp):tK P w H h':=λa o e =>
 (x a o e).stay (λb u _ q=>k b u q) (YcU) Y9E
def tK.laid(x:tK P w H h)(k:∀b u,Y1O=Yp->Y1a=Yp)(hp:h.objs.size<=a)(new:hV P w (Y3s o) h' a o):tK P w (Y3s o) h':=λb u e=>by
 have d:=x.fresh hp;by_cases hb:b=a
 ·subst hb;rw[bP]at e;cases e;exact new
 ·rw[fF hb]at e;exact(x b u e).stay (λc v _ q=>k c v q) (λc q=>by rw[fF (dU q d)];exact q) λc g q=>by rw[fF (dU q d)];exact q
end
def Rd(H:Hp)(a:Addr)(u:HO):Prop:=H a=Yp\/∃o,H a=Y9J o u
def Rd.ok{P:Program}{w:World}{H:Hp}{h:Heap}{a:Addr}{u:HO}(r:Rd H a u)(x:tK P w H h):hV P w H h a u:=by
 rcases r with r | ⟨o,r⟩
 ·exact x a u r
 ·obtain⟨_,q⟩:=x a _ r;exact q
def Mut:Y1k (Option HO)
 | some (.lst _)=>True
 | some (.dK _)=>True
 | some (.dT _)=>True
 | some (.set _ _)=>True
 | some (.ins _ _ _)=>True
 | some (.ext _)=>True
 | _=>False
section
variable{P:Program}{w:World}{H:Hp}{h h':Heap}{x e:Addr}{o':HO}
def tK.write(ok:tK P w H h)(mu:Mut (H x))(he:e=x\/H e=Y7J x)(k:∀b u,b≠e->Y1O=Yp->Y1a=Yp)(heo:∃u,Y7H e Yp)
  (new:hV P w (Y3f x o') h' x o'):tK P w (Y3f x o') h':=λb u q=>by
 have a:∀c y,H c=Y7J y->c≠x:=λc y r z=>by subst z;rw[r]at mu;exact mu
 have d:∀c i,H c=Yj i->c≠x:=λc i r z=>by subst z;rw[r]at mu;exact mu
 by_cases hb:b=x
 ·subst hb;rw[bP]at q;cases q;exact new
 ·rw[fF hb]at q;by_cases hbe:b=e
  ·have j:H b=Y7J x:=by
    rcases he with z | z
    ·exact absurd (hbe.trans z) hb
    ·rw[hbe];exact z
   rw[q]at j;cases j;obtain⟨v,l⟩:=heo;exact⟨v,by rw[hbe];exact l⟩
  ·refine(ok b u q).stay (λc v g r=>k c v ?_ r) (λc r=>by rw[fF (a c b r)];exact r) λc i r=>by rw[fF (d c i r)];exact r
   rcases g with rfl | g
   ·exact hbe
   ·rintro rfl;rcases he with z | z
    ·exact a c b g z
    ·rw[g]at z;cases z;exact hb rfl
end
structure Un(fs ex:Y0s)(H H':Hp)(h h':Heap):Prop where
 keep:∀b o,Y1O=Yb->H b=none->b ∉ fs->b ∉ ex->Y1a=Yb
 slot:∀b o,Y1O=Yb->H b=none->b∈fs->b ∉ ex->∃sl,Y1a=some { o with slots:=sl }
 free:∀b o,Y1O=Yb->H b=none->b ∉ ex->Y1I=none
 there:∀b o,Y1O=Yb->b ∉ ex->∃o',Y1a=some o'
 tups:∀b xs,H b=Y12->Y1I=Y12
 frzs:∀b o u,H b=Y9J o u->Y1I=Y9J o u
 tbls:∀b ps,H b=YeB ps->∃more,Y1I=YeB (ps++more)
section
variable{fs fs' ex ex':Y0s}{H H1 H2:Hp}{h h1 h2 h':Heap}{a x e:Addr}{o:HO}
def Un.any(u:Un fs ex H H1 h h1){b:Addr}{ob:Obj}(q:Y1O=some ob)(n:H b=none)(hx:b ∉ ex):∃sl,h1.get? b=some { ob with slots:=sl }:=by
 by_cases hb:b∈fs
 ·exact u.slot b ob q n hb hx
 ·exact⟨ob.slots,u.keep b ob q n hb hx⟩
def Un.kept(k:∀b u,Y1O=Yp->Y1a=Yp):Un fs ex H H h h' :=
 ⟨λb a q _ _ _=>k b a q,λb a q _ _ _=>⟨a.slots,k b a q⟩,λ_ _ _ n _=>n,λb a q _=>⟨a,k b a q⟩,Y9E,λ_ _ _ q=>q,λ_ c q=>⟨#[],by rw[q];simp⟩⟩
def Un.refl:Un fs ex H H h h:=Un.kept Y9E
def Un.laid(k:∀b u,Y1O=Yp->Y1a=Yp)(hp:h.objs.size<=a)(hn:H a=none):Un fs ex H (Y3s o) h h' where
 keep:=λb u q _ _ _=>k b u q
 slot:=λb u q _ _ _=>⟨u.slots,k b u q⟩
 free:=λb u q n _=>by rw[fF (dJ (aO (bN q) hp))];exact n
 there:=λb u q _=>⟨u,k b u q⟩
 tups:=λb c q=>by rw[fF (dU q hn)];exact q
 frzs:=λb u c q=>by rw[fF (dU q hn)];exact q
 tbls:=λb d q=>⟨#[],by rw[fF (dU q hn),q];simp⟩
def Un.write(mu:Mut (H x))(he:e=x\/H e=Y7J x)(k:∀b u,b≠e->Y1O=Yp->Y1a=Yp)(heo:∃u,Y7H e Yp):Un fs ex H (Y3f x o) h h':=by
 have d:∀b,H b=none->b≠x:=λb n z=>by subst z;rw[n]at mu;exact mu
 have c:∀b,H b=none->b≠e:=λb n z=>by
  subst z;rcases he with r | r
  ·exact d b n r
  ·rw[n]at r;cases r
 have a:∀b u,H b=Yp->¬Mut (Yp)->b≠x:=λb u q g z=>by subst z;rw[q]at mu;exact g mu
 refine⟨λb u q n _ _=>k b u (c b n) q,λb u q n _ _=>⟨u.slots,k b u (c b n) q⟩,λb u q n _=>by rw[fF (d b n)];exact n,λb u q _=>?_,
  λb i q=>by rw[fF (a b _ q λz=>z)];exact q,λb u i q=>by rw[fF (a b _ q λz=>z)];exact q,λb j q=>⟨#[],by rw[fF (a b _ q λz=>z),q];simp⟩⟩
 by_cases hbe:b=e
 ·subst hbe;exact heo
 ·exact⟨u,k b u hbe q⟩
end
def trk(h:Heap)(H:Hp):Y0s:=(List.range h.objs.size).filter λa=>(H a).isSome
def HQ(h:Heap)(H:Hp):Heap:=PySem.W.hideAll h (trk h H)
def UF(h:Heap)(H:Hp):(HQ h H).objs.size=h.objs.size:=PySem.W.hideAll_size _ _
def ZH{h:Heap}{H:Hp}{b:Addr}{o:Obj}(e:Y1O=Yb)(n:H b=none):(HQ h H).get? b=Yb :=
 PySem.W.hideAll_get _ e λa=>by
  have q:(H b).isSome=true:=(gC.mp a).2;rw[n]at q;simp at q
def aBR{h:Heap}{H:Hp}{b:Addr}{o:Obj}(e:(HQ h H).get? b=Yb):Y1O=Yb/\H b=none:=by
 have a:Y1O=Yb:=PySem.W.of_hideAll (trk h H) e;refine Y0p a;cases q:H b with
 | none=>rfl
 | some x =>
  have c:b∈trk h H:=gC.mpr ⟨bR.mpr (bN a),by simp[q]⟩;have z:(HQ h H).get? b=none:=PySem.W.hideAll_none (trk h H) c;rw[z]at e;cases e
structure Mod(K:Aa)(mg:Y0C)(base:Heap):Prop where
 kin:K.In base
 glob:Yc2 mg
 blt:∃mb,base.Ns builtinsNs mb/\∀x:Str,x ≠ "__name__" -> mb x=Y9x
 nolimit:base.NoLimit
/-- the context: a def's body (or a comprehension's block) running. base: fixed through the whole law;s₀,H₀: the entry;outer: the frames whose slots others may change (a def's callers);stack: all frames that run;
   ex: iterators that were made ahead of the entry and are walked here (a comprehension's);fn: the names whose cells were made at the entry (a def: all;a comprehension's block: its own);calm: not within an except suite;pn: pins that every state bears;xe: what is wanted of an exception that leaves the code -/
structure Cx where
 prog:Program
 w:World
 K:Aa
 mg:Y0C
 base:Heap
 A:Around
 N:Ah
 s₀:Shared
 H₀:Hp
 env:Env
 outer:Y3d
 stack:Y3d
 ex:Y0s
 fn:Y1Q Str
 calm:Bool
 pn:Ad
 xe:Yd
def frs(l:Y3d):Y0s:=l.filterMap (·.frame)
abbrev Cx.fs(X:Cx):Y0s:=frs X.outer
def Vis(sc:Scope)(x:Str):Prop:=Y8w=Y2S\/Y8w=Y2d\/Y8w=YeH
def Loc(sc:Scope)(x:Str):Prop:=Y8w=Y2S\/Y8w=Y2d
def aJA(env:Env)(h:Heap)(m:Y0C)(x:Str)(u:Value):Prop :=
 (env.kindOf x=Y2S/\m x=Yp)\/((env.kindOf x=Y2d\/env.kindOf x=YeH)/\∃c,Yck x Y1u/\h.IsCell c (Yp))
structure Cx.Ok(X:Cx):Prop where
 mod:Mod X.K X.mg X.base
 kind:X.env.scope.kind=.function
 glob:X.env.globals=mainGlobals
 blt:X.env.builtins=builtinsNs
 above:Y8t X.env.locals
 inj:∀x y c,Y3T->(X.env.cells.lookup y)=Y1u->x=y
 has:∀x,(Y6Q x Y2d\/Y6Q x YeH)->∃c,Y3T
 cab:∀x c,Y8b=true->Y3T->Y8t c
 hd:Y1z->X.A.handled=none
 frames:X.A.frames=some X.stack
 stk:X.stack=X.outer\/(X.stack=X.env::X.outer/\X.env.frame=some X.env.locals)
 exf:∀b∈X.ex,Y4J b/\∀x c,Y3T->c≠b
 bs:∀b o,Ycg=Yb->YdV b Yb/\X.H₀ b=none
 bsz:X.base.objs.size<=X.s₀.heap.objs.size
 noex:∀b o,Ycg=Yb->b ∉ X.ex
 exfs:∀b∈X.ex,b ∉ X.fs
 funs:X.s₀.heap.FunFrames X.base X.outer
 frf:∀b∈X.fs,X.H₀ b=none
structure dA(X:Cx)(pins:Ad)(σ:Y8C V)(H:Hp)(s:Shared):Prop where
 ok:X.Ok
 os:s.os=X.s₀.os
 bare:AllBare s.gens
 base:Un X.fs X.ex X.H₀ H X.s₀.heap s.heap
 loc:∃m,s.heap.Ns X.env.locals m/\∀(i:Nat) (x:Str) (v:V),Y3r=Y8->σ[i]?=Yb2->YdW x->∃u,Y3W/\aJA X.env s.heap m x u
 cell:∀x c,Y3T->∃v,s.heap.IsCell c v
 free:H X.env.locals=none
 freeC:∀x c,Y3T->H c=none
 pin:∀p∈X.pn++pins,Y2F p.1 p.2/\H p.1=none/\Y4J p.1/\p.1 ∉ X.fs/\∀v,p.2.data ≠ .cell v
 hok:YbL X.w H s.heap
 len:σ.length=X.N.length
section
variable{X:Cx}{pins:Ad}{σ:Y8C V}{H H':Hp}{s:Shared}{h':Heap}
def Cx.Ok.nofr(ok:X.Ok){b:Addr}{o:Obj}(e:Ycg=Yb):b ∉ X.fs:=λa=>by
 have:=(ok.funs.mem a).1;rw[e]at this;cases this
theorem dA.bs(I:Y5):∀b o,Ycg=Yb->Y28/\H b=none:=λb o e =>
 ⟨I.base.keep b o (I.ok.bs b o e).1 (I.ok.bs b o e).2 (I.ok.nofr e) (I.ok.noex b o e),YcG o ((I.ok.bs b o e).1) ((I.ok.bs b o e).2) (I.ok.noex b o e)⟩
def dA.bk(I:Y5):∀b o,Ycg=Yb->Y28:=λb o e=>(I.bs b o e).1
theorem dA.mod(I:Y5):Mod X.K X.mg X.base:=I.ok.mod
def dA.kIn(I:Y5):X.K.In s.heap:=I.ok.mod.kin.keeps I.bk
theorem dA.lt(I:Y5):Y4I X.env.locals:=let ⟨_,hn,_⟩:=I.loc;hn.lt
def dA.sz(I:Y5):Y8t s.heap.objs.size:=aL I.ok.above (Nat.le_of_lt I.lt)
def dA.nofs(I:Y5){a:Addr}(h:YfO a):a ∉ X.fs:=λc=>by
 obtain⟨_,o,d,_⟩:=I.ok.funs.mem c;exact absurd (aO (bN d) (aL I.sz h)) (cO _)
def dA.cne(I:Y5):∀x c,Y3T->Y4J c:=λx c e z=>by
 obtain⟨v,o,g,hd⟩:=Y7Z x e;obtain⟨m,⟨i,j,h,d,a,_⟩,_⟩:=I.loc;rw[z,d]at g;cases g;rw[a]at hd;cases hd
theorem dA.funs(I:Y5):Yfa X.outer:=by
 have all:∀(l:Y3d),(∀b∈frs l,b∈X.fs)->X.s₀.heap.FunFrames X.base l->Yfa l:=by
  intro l
  induction l with
  | nil=>intro _ _;trivial
  | cons env r ih =>
   intro g h;obtain⟨i,⟨L,o,a,j,n,hd⟩,m⟩:=h;have c:L∈X.fs:=g L (by unfold frs;rw[List.filterMap_cons,a];exact aS);obtain⟨sl,e⟩:=I.base.slot L o n (I.ok.frf L c) c λz=>I.ok.exfs L z c;exact⟨i,⟨L,_,a,j,e,hd⟩,ih (λb d=>g b (by unfold frs;rw[List.filterMap_cons,a];exact aY _ d)) m⟩
 exact all X.outer (λ_ d=>d) I.ok.funs
theorem dA.stack(I:Y5):Yfa X.stack:=by
 rcases I.ok.stk with e | ⟨e,a⟩
 ·rw[e];exact I.funs
 ·rw[e];obtain⟨m,c,_⟩:=I.loc;refine .cons (by rw[I.ok.kind];decide) a c ?_ I.funs;exact Heap.get?_none_of_le (YcA I.ok.above)
def dA.stkSub(I:Y5):∀b∈frs X.stack,b∈X.env.locals::X.fs:=λb a=>by
 rcases I.ok.stk with e | ⟨e,c⟩
 ·rw[e]at a;exact aY _ a
 ·rw[e]at a;unfold frs at a;rw[List.filterMap_cons,c]at a;exact a
def dA.stkFree(I:Y5):∀b∈frs X.stack,H b=none:=λb a=>by
 rcases bK.mp (I.stkSub b a)with e | a
 ·rw[e];exact I.free
 ·obtain⟨_,o,c,_⟩:=I.ok.funs.mem a;exact YcG o c (I.ok.frf b a) (λz=>I.ok.exfs b z a)
def dA.step{g':Array GenState}{t':Nat}{d':Drawn}{ch:Y0s}(I:Y5)
  (hch:∀b∈ch,(b∈X.ex\/Y8t b)/\Y4J b/\(∀x c,Y3T->c≠b)/\∀p∈X.pn++pins,p.1≠b)
  (keep:∀b o,Y4J b->b ∉ X.fs->b ∉ ch->Y28->H b=none->Y1a=Yb)
  (slot:∀b o,Y4J b->b∈X.fs->b ∉ ch->Y28->H b=none->∃sl,Y1a=some { o with slots:=sl }) (free:∀b o,b ∉ ch->Y28->H b=none->Y1I=none)
  (there:∀b o,b ∉ ch->Y28->∃o',Y1a=some o')
  (tups:∀b xs,H b=Y12->Y1I=Y12) (frzs:∀b o u,H b=Y9J o u->Y1I=Y9J o u) (tbls:∀b ps,H b=YeB ps->∃more,Y1I=YeB (ps++more))
  (ns:∀m,s.heap.Ns X.env.locals m->h'.Ns X.env.locals m) (hok:YbL X.w H' h') (hg:AllBare g') :
  Y49 H' ({ s with heap:=h',gens:=g',drawn:=d',toks:=t' }):=by
 have neL:∀b o,YdV b Yb->Y4J b:=λb o e=>dJ (aO (bN e) I.ok.above);have j:∀b o,YdV b Yb->b ∉ X.ex->b ∉ ch:=λb o e a A=>by
  rcases(hch b A).1 with z | z
  ·exact a z
  ·exact absurd (aO (bN e) z) (cO _)
 have h:∀x c,Y3T->∀v,s.heap.IsCell c v->h'.IsCell c v:=λx c e v ⟨o,B,hd⟩=>by
  have g:c ∉ ch:=λz=>(hch c z).2.2.1 x c e rfl;by_cases hc:c∈X.fs
  ·obtain⟨sl,q⟩:=slot c o (I.cne x c e) hc g B (Ya4 x e);exact Y0K q hd
  ·exact Y1B (keep c o (I.cne x c e) hc g B (Ya4 x e)) hd
 refine⟨I.ok,I.os,hg,⟨λb o e n A a=>?_,λb o e n A a=>?_,λb o e n a=>?_,λb o e a=>?_,λb xs e=>tups b xs (I.base.tups b xs e),λb o xs e=>frzs b o xs (I.base.frzs b o xs e),λb ps e=>?_⟩,?_,λx c e=>?_,?_,λx c e=>?_,λp J=>?_,hok,I.len⟩
 ·exact keep b o (neL b o e) A (j b o e a) (I.base.keep b o e n A a) (YcG o e n a)
 ·obtain⟨sl,y⟩:=I.base.slot b o e n A a;obtain⟨D,C⟩:=slot b _ (neL b o e) A (j b o e a) y (YcG o e n a);exact⟨D,C⟩
 ·obtain⟨o',y⟩:=Yev o e a;exact free b o' (j b o e a) y (YcG o e n a)
 ·obtain⟨o',y⟩:=Yev o e a;exact there b o' (j b o e a) y
 ·obtain⟨m1,y⟩:=I.base.tbls b ps e;obtain⟨N,C⟩:=tbls b _ y;exact⟨m1++N,by rw[C,Array.append_assoc]⟩
 ·obtain⟨m,M,L⟩:=I.loc;refine⟨m,ns m M,λi x v y C O=>?_⟩;obtain⟨u,r,l⟩:=L i x v y C O;refine Y0j u r;rcases l with l | ⟨k,c,e,z⟩
  ·exact .inl l
  ·exact .inr ⟨k,c,e,h x c e _ z⟩
 ·obtain⟨v,z⟩:=Y7Z x e;exact⟨v,h x c e v z⟩
 ·obtain⟨m,⟨o,_,_,B,_⟩,_⟩:=I.loc;exact free _ o (λz=>(hch _ z).2.1 rfl) B I.free
 ·obtain⟨v,o,B,hd⟩:=Y7Z x e;exact free c o (λz=>(hch c z).2.2.1 x c e rfl) B (Ya4 x e)
 ·obtain⟨e,n,ne,G,d⟩:=Y90 J;have g:p.1 ∉ ch:=λz=>(hch p.1 z).2.2.2 p J rfl;exact⟨keep p.1 p.2 ne G g e n,free p.1 p.2 g e n,ne,G,d⟩
def dA.un{t':Nat}(I:Y5)(u:Un X.fs [] H H' s.heap h')(hok:YbL X.w H' h'):Y49 H' ({ s with heap:=h',toks:=t' }):=by
 obtain⟨m,⟨o,A,B,h,r⟩,_⟩:=id I.loc;obtain⟨sl,j⟩:=u.any h I.free (by simp);exact I.step (g':=s.gens) (d':=s.drawn) (ch:=[]) (λ_ z=>nomatch z) (λb o _ c _ e n=>u.keep b o e n c (by simp)) (λb o _ c _ e n=>u.slot b o e n c (by simp)) (λb o _ e n=>u.free b o e n (by simp)) (λb o _ e=>u.there b o e (by simp)) u.tups u.frzs u.tbls (λy i=>by
  obtain⟨p,d,g,a,l⟩:=i;rw[h]at a;cases a;exact⟨_,d,g,j,l⟩) hok I.bare
def dA.call{g':Array GenState}{t':Nat}{d':Drawn}{ch:Y0s}(I:Y5)(u:Un (frs X.stack) ch H H' s.heap h')(hok:YbL X.w H' h')(hg:AllBare g')
  (hch:∀b∈ch,(b∈X.ex\/Y8t b)/\Y4J b/\(∀x c,Y3T->c≠b)/\∀p∈X.pn++pins,p.1≠b) :
  Y49 H' ({ s with heap:=h',gens:=g',drawn:=d',toks:=t' }):=by
 obtain⟨m,⟨o,D,G,j,r⟩,_⟩:=id I.loc;obtain⟨sl,g⟩:=u.any j I.free λz=>(hch _ z).2.1 rfl;exact I.step (ch:=ch) hch (λb o g y a e n=>u.keep b o e n (λz=>(bK.mp (I.stkSub b z)).elim g y) a) (λb o _ _ a e n=>u.any e n a) (λb o a e n=>u.free b o e n a) (λb o a e=>u.there b o e a) u.tups u.frzs u.tbls (λC l=>by
  obtain⟨B,h,i,d,A⟩:=l;rw[j]at d;cases d;exact⟨_,h,i,g,A⟩) hok hg
def dA.turned{t':Nat}{it:Addr}(I:Y5)(k:∀b o,b≠it->Y28->Y1a=Yb)(hn:H it=none)(hL:Y4J it)
  (h1:it∈X.ex\/Y8t it) (h2:∀x c,Y3T->c≠it) (h3:∀p∈X.pn++pins,p.1≠it):Y5k ({ s with heap:=h',toks:=t' }):=by
 have d:∀b u,H b=Yp->b≠it:=λb u e z=>by rw[z,hn]at e;cases e
 refine I.step (g':=s.gens) (d':=s.drawn) (ch:=[it]) (λb i=>?_) (λb o _ _ a e _=>k b o (λz=>a (by simp[z])) e) (λb o _ _ a e _=>⟨o.slots,k b o (λz=>a (by simp[z])) e⟩) (λ_ _ _ _ n=>n)
  (λb o a e=>⟨o,k b o (λz=>a (by simp[z])) e⟩) (Y8A) (λ_ _ _ e=>e) (λb w e=>⟨#[],by rw[e];simp⟩) (λm h=>?_) (λb u e=>?_) I.bare
 ·have e:b=it:=by simpa using i
  subst e;exact⟨h1,hL,h2,h3⟩
 ·obtain⟨o,g,j,l,r⟩:=h;exact⟨o,g,j,k _ o (Ne.symm hL) l,r⟩
 ·refine(I.hok b u e).stay (λc v a q=>k c v ?_ q) (YcU) Y9E;rcases a with z | z
  ·rw[z];exact d b u e
  ·exact d c _ z
def dA.tok(I:Y5)(t:Nat):Y5k ({ s with toks:=t }):=I.un (h':=s.heap) (t':=t) Un.refl I.hok
theorem dA.kept{t':Nat}(I:Y5)(k:∀b u,YbO b Yp->Y1a=Yp):Y5k ({ s with heap:=h',toks:=t' }):=I.un (Un.kept k) (I.hok.kept k)
theorem dA.laid{a:Addr}{o:HO}{t':Nat}(I:Y5)(k:∀b u,YbO b Yp->Y1a=Yp)(hp:YfO a)(new:hV X.prog X.w (Y3s o) h' a o) :
  Y49 (Y3s o) ({ s with heap:=h',toks:=t' }):=I.un (Un.laid k hp (I.hok.fresh hp)) (I.hok.laid k hp new)
theorem dA.write{x e:Addr}{o:HO}{t':Nat}(I:Y5)(mu:Mut (H x))(he:e=x\/H e=Y7J x)(k:∀b u,b≠e->YbO b Yp->Y1a=Yp)(heo:∃u,Y7H e Yp)
  (new:hV X.prog X.w (Y3f x o) h' x o):Y49 (Y3f x o) ({ s with heap:=h',toks:=t' }):=I.un (Un.write mu he k heo) (I.hok.write mu he k heo new)
def dA.pins_of{pins':Ad}(I:Y5)(h:∀p∈pins',Y2F p.1 p.2/\H p.1=none/\Y4J p.1/\p.1 ∉ X.fs/\∀v,p.2.data ≠ .cell v):dA X pins' σ H s :=
 ⟨I.ok,I.os,I.bare,I.base,I.loc,I.cell,I.free,I.freeC,λp a=>(dO.mp a).elim (λz=>Y90 (cM _ z)) (h p),I.hok,I.len⟩
def JR{N:Ah}(hN:N.Nodup){i j:Nat}{x:Str}(a:N[i]?=Y8)(b:N[j]?=Y8):i=j:=by
 obtain⟨g,c⟩:=Y82;obtain⟨e,d⟩:=aC.mp b;exact(List.getElem_inj hN).mp (c.trans d.symm)
def ES{M:Model}{A:Around}{E:Yd}{i:Nat}{x:Str}{v:V}{u:Value}{Q:YbK}(I:Y5)(hN:X.N.Nodup)(hi:Y3r=Y8)(hx:Y9w x)(r:Y3W)
  (h:∀s',dA X pins (Ycm i) H s'->(∃a,Yax a s'.heap/\(a=X.env.locals\/(X.env.cells.lookup x)=Y7e))->Q () s') (hf:Y8b=true\/Y6s x:=by first | exact .inl rfl | exact .inr rfl | assumption):wpAny M A (storeName X.env x u) Q E s:=by
 obtain⟨m,δ,ν⟩:=id I.loc;have W:Yx (YdB .class || (YdB .module&&X.env.locals != X.env.globals)):=by rw[I.ok.kind];rfl
 have U:i<σ.length:=by rw[I.len];exact(aC.mp hi).1
 have cne:=I.cne;have l:∀{a:Addr} {P:Heap},(∃o,Y39 a/\H a=none)->Yax a P->YbL X.w H P:=λ{a P} τ g b φ e=>by
  obtain⟨_,_,D⟩:=τ;refine(I.hok b φ e).stay (λc Z C q=>(g.2 c ?_).trans q) (YcU) Y9E;rintro rfl;rcases C with rfl | C
  ·rw[D]at e;cases e
  ·rw[D]at C;cases C
 rcases hx with J | J
 ·refine wpAny_storeName_local J δ (λP ζ g=>?_) W;obtain⟨ο,_,_,η,_⟩:=id δ;refine h _ ⟨I.ok,I.os,I.bare,⟨Ydx,Ydx,I.base.free,λb o e hx=>?_,I.base.tups,I.base.frzs,I.base.tbls⟩,Y0K ζ (λj y θ B G ι=>?_),λy c e=>?_,I.free,I.freeC,λp μ=>?_,l ⟨ο,η,I.free⟩ g,by simpa using I.len⟩ (Y0K g Y62)
  ·exact(g.2 b (dJ (aO (bN e) I.ok.above))).trans (I.base.keep b o e n L hx)
  ·obtain⟨sl,B⟩:=I.base.slot b o e n L hx;exact⟨sl,(g.2 b (dJ (aO (bN e) I.ok.above))).trans B⟩
  ·obtain⟨β,B⟩:=Yev o e hx;exact⟨β,(g.2 b (dJ (aO (bN e) I.ok.above))).trans B⟩
  ·by_cases hj:j=i
   ·subst hj;rw[hi]at B;cases B;rw[List.getElem?_set_self U]at G;cases G;exact⟨u,r,Y1Y J (by simp)⟩
   ·rw[List.getElem?_set_ne (Ne.symm hj)]at G;obtain⟨ε,κ,q⟩:=ν j y θ B G ι;refine Y0j ε κ;rcases q with⟨k,e⟩ | ⟨k,c,e,z⟩
    ·refine Y1Y k ?_;have:y≠x:=λe=>hj (JR hN B (e ▸ hi));simp[this,e]
    ·exact .inr ⟨k,c,e,z.sameBut g (cne y c e)⟩
  ·obtain⟨Z,z⟩:=Y7Z y e;exact⟨Z,z.sameBut g (cne y c e)⟩
  ·obtain⟨e,n,ne,γ,d⟩:=Y90 μ;exact⟨(g.2 p.1 ne).trans e,n,ne,γ,d⟩
 ·have O:Y8b=true:=by
   rcases hf with z | z
   ·exact z
   ·rw[z]at J;cases J
  obtain⟨c,C⟩:=I.ok.has x (.inl J);obtain⟨Z,z⟩:=Y7Z x C;refine wpAny_storeName_cell I.ok.kind J C z (λP S g=>?_);obtain⟨ξ,R,T⟩:=id z;refine h { s with heap:=P } ⟨I.ok,I.os,I.bare,⟨Ydx,Ydx,I.base.free,λb o e hx=>?_,I.base.tups,I.base.frzs,I.base.tbls⟩,⟨m,δ.sameBut g (Ne.symm (cne x c C)),λj y θ B G ι=>?_⟩,λy α e=>?_,I.free,I.freeC,λp μ=>?_,l ⟨ξ,R,Ya4 x C⟩ g,by simpa using I.len⟩ ⟨c,g,.inr C⟩
  ·exact(g.2 b (dJ (aO (bN e) (I.ok.cab x c O C)))).trans (I.base.keep b o e n L hx)
  ·obtain⟨sl,B⟩:=I.base.slot b o e n L hx;exact⟨sl,(g.2 b (dJ (aO (bN e) (I.ok.cab x c O C)))).trans B⟩
  ·obtain⟨β,B⟩:=Yev o e hx;exact⟨β,(g.2 b (dJ (aO (bN e) (I.ok.cab x c O C)))).trans B⟩
  ·by_cases hj:j=i
   ·subst hj;rw[hi]at B;cases B;rw[List.getElem?_set_self U]at G;cases G;exact⟨u,r,.inr ⟨.inl J,c,C,S⟩⟩
   ·rw[List.getElem?_set_ne (Ne.symm hj)]at G;obtain⟨ε,κ,q⟩:=ν j y θ B G ι;refine Y0j ε κ;rcases q with q | ⟨k,α,e,χ⟩
    ·exact .inl q
    ·refine .inr ⟨k,α,e,χ.sameBut g ?_⟩;rintro rfl;exact hj (JR hN B (I.ok.inj _ _ _ e C ▸ hi))
  ·by_cases hcc:α=c
   ·subst hcc;exact Y2i S
   ·obtain⟨ψ,ρ⟩:=I.cell y α e;exact⟨ψ,ρ.sameBut g hcc⟩
  ·obtain⟨e,n,ne,γ,d⟩:=Y90 μ;refine⟨(g.2 p.1 ?_).trans e,n,ne,γ,d⟩;intro q;rw[q,R]at e;have υ:ξ=p.2:=gB e;exact d Z (by rw[<-υ];exact T)
def wL{M:Model}{A:Around}{E:Yd}{i:Nat}{x:Str}{v:V}{u:Value}{Q:YbK}(I:Y5)(hN:X.N.Nodup)(hi:Y3r=Y8)(hx:Y9w x)(r:Y3W)
  (h:∀s',dA X pins (Ycm i) H s'->Q () s') (hf:Y8b=true\/Y6s x:=by first | exact .inl rfl | exact .inr rfl | assumption):wpAny M A (storeName X.env x u) Q E s :=
 ES I hN hi hx r (λs' I' _=>h s' I') hf
def dA.call'{s':Shared}{ch:Y0s}(I:Y5)(ho:s'.os=s.os)(u:Un (frs X.stack) ch H H' s.heap s'.heap)(hok:YbL X.w H' s'.heap)(hg:Yc9)
  (hch:∀b∈ch,(b∈X.ex\/Y8t b)/\Y4J b/\(∀x c,Y3T->c≠b)/\∀p∈X.pn++pins,p.1≠b):Y9d:=by
 obtain⟨d,g',d',t',a⟩:=s';have e:a=s.os:=ho;subst e;exact I.call (g':=g') (t':=t') (d':=d') u hok hg hch
end
abbrev XK:=Y64 (Y1M Y5r)
abbrev St:=Y8C V
abbrev _root_.Am:=Option V
abbrev _root_.Al:=Y7d
abbrev VK:=Y4y
abbrev TE:=St->(Y5l VK)
abbrev TT:=St->Y5l Ybx
abbrev TA:=St->Y5l (Y1M Al)
structure sW where
 nx:Y1y
 rt:VK
 bk:Y1y:=Ych
 ct:Y1y:=Ych
abbrev TS:=sW->Y1y
def EP(X:Cx)(pins:Ad)(σ:St)(Q:VK)(u:Value)(s':Shared):Prop:=∃v H',Y9d/\Y3W/\Y1H
def TP(X:Cx)(pins:Ad)(σ:St)(Q:Ybx)(b:Bool)(s':Shared):Prop:=∃H',Y9d/\Q b H'
def AP(X:Cx)(pins:Ad)(σ:St)(Q:Y1M Al)(us:Ag)(s':Shared):Prop:=∃vs H',Y9d/\Y9c/\Q vs H'
def SP(X:Cx)(pins:Ad)(D:sW)(f:Flow)(s':Shared):Prop :=
 match f with
 | .next=>∃σ' H',dA X pins σ' H' s'/\D.nx σ' H'
 | .brk=>∃σ' H',dA X pins σ' H' s'/\D.bk σ' H'
 | .cont=>∃σ' H',dA X pins σ' H' s'/\D.ct σ' H'
 | .ret u=>∃v σ' H',dA X pins σ' H' s'/\fJ v u/\D.rt v H'
def PE(X:Cx)(e:Expr)(t:TE):Prop :=
 ∀(pins:Ad) (s:Shared) (σ:St) (H:Hp) (Q:VK),Y5->t σ H Q->Y79 Y1f X σ Q
def PT(X:Cx)(e:Expr)(t:TT):Prop :=
 ∀(pins:Ad) (s:Shared) (σ:St) (H:Hp) (Q:Ybx),Y5->t σ H Q->Y4Z (isTrue e X.env (Y1f)) (TP X pins σ Q)
def PW(X:Cx)(e:Expr)(t:TT):Prop :=
 ∀(whole:Sem Value) (pins:Ad) (s:Shared) (σ:St) (H:Hp) (Q:Ybx),Y5->t σ H Q->Y4Z (isTrue e X.env whole) (TP X pins σ Q)
def PW.pt{X:Cx}{e:Expr}{t:TT}(h:PW X e t):PT X e t:=h _
def PA(X:Cx)(es:Y0f)(t:TA):Prop :=
 ∀(pos:Pos) (pins:Ad) (s:Shared) (σ:St) (H:Hp) (Q:Y1M Al),Y5->t σ H Q->Y4Z (spliced (backTo pos (Y2W))) (AP X pins σ Q)
def PS(X:Cx)(st:Stmt)(t:TS):Prop :=
 ∀(pins:Ad) (s:Shared) (σ:St) (H:Hp) (D:sW),Y5->t D σ H->Y4Z (exec st X.env) (SP X pins D)
def OF(X:Cx)(st:Y5w)(t:TS):Prop :=
 ∀(pins:Ad) (s:Shared) (σ:St) (H:Hp) (D:sW),Y5->t D σ H->Y4Z (execs st X.env) (SP X pins D)
def thn{α:Type}{t:Sem α}{Q Q':Y1j α}{M:Model}{A:Around}{E:Yd}{s:Shared}(h:wpAny M A t Q E s)(hQ:∀a s,Q a s->Q' a s):wpAny M A t Q' E s:=YdF h hQ x
section
variable{X:Cx}
def WJ(i:Nat):TE:=λσ H Q=>∃v,σ[i]?=Yb2/\Q v H
def tC(v:V):TE:=λ_ H Q=>Q v H
def aEV{i:Nat}{x:Str}{pos:Pos}(hN:Y3r=Y8)(hv:YdW x)(hd:Y1F ("__debug__" : Str):=by decide)(hcd:Y1F ("__classdict__" : Str):=by decide):Yz Y85 (WJ i):=by
 intro j s σ H Q I h;obtain⟨v,e,h⟩:=h;obtain⟨m,y,p⟩:=I.loc;obtain⟨u,r,l⟩:=p i x v hN e hv;have g:EP X j σ Q u s:=⟨v,H,I,r,h⟩;rcases l with⟨d,w⟩ | ⟨d,c,n,a⟩
 ·exact wpAny_Name (wpAny_loadName_local I.ok.kind d y w g) hd
 ·rcases d with d | d
  ·exact wpAny_Name (wpAny_loadName_cell I.ok.kind d n a g) hd
  ·exact wpAny_Name (wpAny_loadName_free I.ok.kind d n a g hcd) hd
def pe_int{i j pos}:Yz (Y8F Y1d j) (tC (Y1d)):=λ_ _ _ H _ I h=>wpAny_Constant_int ⟨Y1d,H,Y1b,Y1N,h⟩
def pe_bl{b j pos}:Yz (Y8F (.bool b) j) (tC (.bl b)):=λ_ _ _ H _ I h=>Constant_bool (Y0O (.bl b) H I h)
def pe_non{j pos}:Yz (Y8F .none j) (tC .non):=λ_ _ _ H _ I h=>Constant_none (Y0O .non H I h)
def pe_str{x j pos}:Yz (Y8F (.str x) j) (tC (.str x)):=λ_ _ _ H _ I h=>Calls.Constant_str ⟨.str x,H,Y1b,Y1N,h⟩
def Gl(X:Cx)(x:Str):Prop:=Y6Q x (some .globalImplicit)
def HM{E:Yd}{pins:Ad}{s:Shared}{σ:St}{H:Hp}{x:Str}{u:Value}{pos:Pos}{Q:Yd}(I:Y5)(hg:Y37)(hm:Y6x=Yp)(h:Q u s)
  (hd:Y1F ("__debug__" : Str):=by decide):Y7C (Y0d Y85) Q E s :=
 Calls.Name_function_global I.ok.kind hg (Calls.loadGlobal_global (by rw[I.ok.glob];exact Yfb) hm h) hd
def vX{E:Yd}{pins:Ad}{s:Shared}{σ:St}{H:Hp}{x:Str}{u:Value}{pos:Pos}{Q:Yd}(I:Y5)(hg:Y37)(hm:Y6x=none)(hv:Y9x=Yp)(h:Q u s)
  (hn:x ≠ "__name__" := by decide) (hd:Y1F ("__debug__" : Str):=by decide):Y7C (Y0d Y85) Q E s:=by
 obtain⟨d,c,a⟩:=I.mod.blt;exact Calls.Name_function_global I.ok.kind hg (Calls.loadGlobal_builtin (by rw[I.ok.glob];exact Yfb) hm (by rw[I.ok.blt];exact c.keeps I.bk) ((a x hn).trans hv) h) hd
def aBF{x:Str}{v:V}{u:Value}{pos:Pos}(hg:Y37)(hm:Y6x=Yp)(r:Y3W)(hd:Y1F ("__debug__" : Str):=by decide):Yz Y85 (tC v) :=
 λ_ _ _ H _ I h=>HM I hg hm ⟨v,H,I,r,h⟩ hd
variable{a b:Expr}{ta tb:TE}{pos:Pos}
def tB(t:TE):TT:=Y5g (λx H1=>∃c,x=.bl c/\Q c H1)
def aEH{e:Expr}{t:TE}(h:Y5d t)(he:∀whole,isTrue e X.env whole=(do let v <-whole;standAt e.pos;holding [v] (truthy v)):=by intro _;rfl):PT X e (tB t):=by
 intro a s σ H Q I c;refine isTrue_plain (thn (h a s σ H _ I c) λv j ⟨x,H1,I1,g,i⟩=>?_) (he _);obtain⟨d,rfl,q⟩:=i;cases g;exact wpAny_truthy_bool ⟨H1,I1,q⟩
variable{tA tB':TT}{rest:Y0f}
def aGl(t u:TT):TT:=Y5g (λc H1=>if c=true then u σ H1 Q else Q false H1)
def tOr(t u:TT):TT:=Y5g (λc H1=>if c=true then Q true H1 else u σ H1 Q)
def aGf(t:TT):TT:=Y5g (λc H1=>Q (! c) H1)
def aBu(ha:PT X a tA):PW X (YbJ [a]) tA:=by
 intro g d s σ H Q I h;refine isTrue_and (thn (ha d s σ H Q I h) λc i e=>?_);cases c with
 | true=>exact isTrue_and_nil e
 | false=>exact e
def aEE(ha:PT X a tA):PW X (Y9t .Or [a]) tA:=by
 intro g d s σ H Q I h;refine isTrue_or (thn (ha d s σ H Q I h) λc i e=>?_);cases c with
 | false=>exact isTrue_or_nil e
 | true=>exact e
def aEF(ha:PT X a tA)(hb:PW X (YbJ (b::rest)) tB'):PW X (YbJ (a::b::rest)) (aGl tA tB'):=by
 intro g d s σ H Q I h;refine isTrue_and (thn (ha d s σ H _ I h) λc i ⟨H1,I1,e⟩=>?_);cases c with
 | true=>exact hb g d i σ H1 Q I1 e
 | false=>exact⟨H1,I1,e⟩
def aGx(ha:PT X a tA)(hb:PW X (Y9t .Or (b::rest)) tB'):PW X (Y9t .Or (a::b::rest)) (tOr tA tB'):=by
 intro g d s σ H Q I h;refine isTrue_or (thn (ha d s σ H _ I h) λc i ⟨H1,I1,e⟩=>?_);cases c with
 | true=>exact⟨H1,I1,e⟩
 | false=>exact hb g d i σ H1 Q I1 e
def aEI(ha:PT X a tA):PT X (YeL .Not a) (aGf tA):=by
 intro d s σ H Q I h;exact isTrue_not (ha d s σ H (λc H1=>Q (! c) H1) I h)
def tIf(t:TT)(ta tb:TE):TE:=Y5g (λc H1=>if c=true then ta σ H1 Q else tb σ H1 Q)
def XZ{c:Expr}(hc:PT X c tA)(ha:Y7s a)(hb:Yz b tb):Yz (.IfExp c a b pos) (tIf tA ta tb):=by
 intro e s σ H Q I h;refine wpAny_IfExp (thn (hc e s σ H _ I h) λd i ⟨H1,I1,g⟩=>?_);cases d with
 | true=>exact ha e i σ H1 Q I1 g
 | false=>exact hb e i σ H1 Q I1 g
end
def gE(K:Aa)(H:Hp)(a:Addr)(xs:Al):Prop :=
 Rd H a (.lst xs) \/
  ∃(o:Obj) (its:Ai) (n:Nat),YcH=Yb/\o.cls=.type "list" /\ o.dict=none/\o.data=.seq its n/\Y0D its.size/\eK xs its.toList
def jQ(K:Aa)(H:Hp)(a:Addr)(xs:Al):Prop :=
 Rd H a (.tup xs) \/
  ∃(o:Obj) (its:Ai) (n:Nat),YcH=Yb/\o.cls=.type "tuple" /\ o.data=.seq its n/\Y0D its.size/\eK xs its.toList
def aJx:Y64 Am
 | .none=>some .non
 | .bool b=>some (.bl b)
 | .int i _=>some (.int i)
 | .str x _=>some (.str x)
 | .bytes b _=>some (.byt b)
 | .float b _=>some (.flt b)
 | .ref a=>some (.ref a)
 | .type n=>some (.ty n)
 | _=>none
def fJ.abs{x:V}{u:Value}(r:fJ x u):aJx u=Y8:=by
 cases x with
 | non=>cases r;rfl
 | bl _=>cases r;rfl
 | int _=>obtain⟨t,rfl⟩:=r;rfl
 | str _=>obtain⟨t,rfl⟩:=r;rfl
 | byt _=>obtain⟨t,rfl⟩:=r;rfl
 | flt _=>obtain⟨t,rfl⟩:=r;rfl
 | ref _=>cases r;rfl
 | ty _=>cases r;rfl
def fJ.inj{x y:V}{u:Value}(r:fJ x u)(q:Y3q):x=y:=gB (r.abs.symm.trans q.abs)
theorem eK.inj:∀{xs ys:Al}{us:Ag},Y5N->Y5z ys->xs=ys
 | _,_,_,.nil,.nil=>rfl
 | _,_,_,.cons r t,.cons r' t'=>by rw[r.inj r',eK.inj t t']
section
variable{X:Cx}{pins:Ad}{σ:St}{H:Hp}{s:Shared}{a:Addr}{xs ys:Al}
def gE.of{K:Aa}(h:H a=Y0G):Y35 K H a:=Ycw h
def jQ.of{K:Aa}(h:H a=Y12):Y47 K a:=Ycw h
def dA.list(I:Y5)(h:Y35 X.K H a):∃its:Ag,eK xs its/\PlainL s.heap a its.toArray/\Y5n:=by
 rcases h with h | ⟨o,its,n,d,c,hd,g,i,r⟩
 ·obtain⟨z,its,n,r,e⟩:=h.ok I.hok;exact⟨its,r,Y5C _ n e rfl rfl,z⟩
 ·refine Y2v its.toList r ⟨o,n,I.kIn a o d,c,hd,by simpa using g⟩;have e:=r.length;simp only[Array.length_toList]at e;exact Oo
def dA.tuple(I:Y5)(h:Y47 X.K a):∃its:Ag,eK xs its/\Ycz a its.toArray/\Y5n:=by
 rcases h with h | ⟨o,its,n,d,c,g,i,r⟩
 ·obtain⟨⟨z,_⟩,its,r,p⟩:=h.ok I.hok;exact⟨its,r,p,z⟩
 ·refine Y2v its.toList r ⟨o,I.kIn a o d,c,n,by simpa using g⟩;have e:=r.length;simp only[Array.length_toList]at e;exact Oo
def dA.list_inj(I:Y5)(h:Y35 X.K H a)(h':gE X.K H a ys):xs=ys:=by
 obtain⟨g,r,⟨o,n,e,_,_,d⟩,_⟩:=I.list h;obtain⟨c,l,⟨m,p,i,_,_,j⟩,_⟩:=I.list h';rw[e]at i;cases i;rw[d]at j;injection j with d1 _;have:g=c:=by simpa using congrArg Array.toList d1
 subst this;exact r.inj l
def dA.tuple_inj(I:Y5)(h:Y47 X.K a)(h':jQ X.K H a ys):xs=ys:=by
 obtain⟨g,r,⟨o,e,_,n,d⟩,_⟩:=I.tuple h;obtain⟨c,l,⟨m,i,_,p,j⟩,_⟩:=I.tuple h';rw[e]at i;cases i;rw[d]at j;injection j with d1 _;have:g=c:=by simpa using congrArg Array.toList d1
 subst this;exact r.inj l
end
abbrev Cx.wish(X:Cx)(E:Yd):Cx:={ X with xe:=E }
abbrev Cx.nox(X:Cx):Cx:=X.wish Ych
theorem Cx.Ok.wish{X:Cx}(ok:X.Ok)(E:Yd):(X.wish E).Ok :=
 ⟨ok.mod,ok.kind,ok.glob,ok.blt,ok.above,ok.inj,ok.has,ok.cab,ok.hd,ok.frames,ok.stk,ok.exf,ok.bs,ok.bsz,ok.noex,ok.exfs,ok.funs,ok.frf⟩
def Cx.Ok.unwish{X:Cx}{E:Yd}(ok:(X.wish E).Ok):X.Ok :=
 ⟨ok.mod,ok.kind,ok.glob,ok.blt,ok.above,ok.inj,ok.has,ok.cab,ok.hd,ok.frames,ok.stk,ok.exf,ok.bs,ok.bsz,ok.noex,ok.exfs,ok.funs,ok.frf⟩
section
variable{X:Cx}{pins:Ad}{σ:St}{H:Hp}{s:Shared}{E:Yd}
theorem dA.wish(I:Y5)(E:Yd):dA (X.wish E) pins σ H s:=⟨I.ok.wish E,I.os,I.bare,I.base,I.loc,I.cell,I.free,I.freeC,I.pin,I.hok,I.len⟩
theorem dA.unwish(I:dA (X.wish E) pins σ H s):Y5:=⟨I.ok.unwish,I.os,I.bare,I.base,I.loc,I.cell,I.free,I.freeC,I.pin,I.hok,I.len⟩
theorem SP.unwish{D:sW}{f:Flow}{s':Shared}(h:SP (X.wish E) pins D f s'):SP X pins D f s':=by
 cases f with
 | next=>obtain⟨a,H',I,q⟩:=h;exact⟨a,H',I.unwish,q⟩
 | brk=>obtain⟨a,H',I,q⟩:=h;exact⟨a,H',I.unwish,q⟩
 | cont=>obtain⟨a,H',I,q⟩:=h;exact⟨a,H',I.unwish,q⟩
 | ret u=>obtain⟨v,a,H',I,r,q⟩:=h;exact⟨v,a,H',I.unwish,r,q⟩
theorem OF.nox{st:Y5w}{t:TS}(h:OF X.nox st t):OF X st t:=λa s σ H D I c =>
 wpAny_mono (h a s σ H D (I.wish _) c) (λ_ _ q=>q.unwish) λ_ _ z=>False.elim z
end
section
variable{X:Cx}{st:Stmt}{rest:Y5w}{t u:TS}{e:Expr}{te:TE}{pos:Pos}
def aCO:TS:=λD σ H=>Y3S
def aDq(t u:TS):TS:=λD σ H=>t { D with nx:=u D } σ H
def pss_nil:OF X [] aCO:=λ_ _ σ H _ I h=>YfS σ H I h
def XM(h1:PS X st t)(h2:OF X rest u):OF X (st::rest) (aDq t u):=by
 intro a s σ H D I h;refine wpAny_execs_cons (thn (h1 a s σ H { D with nx:=u D } I h) λf d q=>?_);cases f with
 | next =>
  obtain⟨c,H',I',q⟩:=q;exact h2 a d c H' D I' q
 | ret v=>exact q
 | brk=>exact q
 | cont=>exact q
def aBx(h1:PS X st t):OF X [st] t:=by
 intro a s σ H D I h;refine wpAny_execs_cons (thn (h1 a s σ H D I h) λf c q=>?_);cases f with
 | next=>exact wpAny_execs_nil q
 | ret v=>exact q
 | brk=>exact q
 | cont=>exact q
def dA.quiet{pins:Ad}{σ:St}{H:Hp}{s:Shared}(I:Y5):Yx (interactive X.env):=by simp[interactive,I.ok.kind]
def aCR(te:TE):TS:=λD σ H=>te σ H λ_ H1=>Y8z H1
def aBy(he:Y5d te)(hs:YeU e none pos.line=Y4M:=by rfl):PS X (.Expr e pos) (aCR te):=by
 intro a s σ H D I h;exact wpAny_Expr_any (thn (he a s σ H _ I h) λv g ⟨x,H1,I1,d,c⟩=>⟨σ,H1,I1,c⟩) I.quiet hs
def aGd(te:TE):TS:=λD σ H=>te σ H D.rt
def aEK(he:Y5d te):PS X (.Return (Y7f) pos) (aGd te):=by
 intro a s σ H D I h;exact wpAny_Return_some (thn (he a s σ H _ I h) λv g ⟨x,H1,I1,c,d⟩=>⟨x,σ,H1,I1,c,d⟩)
def aGg(c:TT)(t u:TS):TS:=λD σ H=>c σ H λb H1=>if b=true then t D σ H1 else u D σ H1
def aGy{c:Expr}{a b:Y5w}{tc:TT}(hc:PT X c tc)(ha:OF X a t)(hb:OF X b u):PS X (.If c a b pos) (aGg tc t u):=by
 intro e s σ H D I h;refine wpAny_If (thn (hc e s σ H _ I h) λd i ⟨H1,I1,g⟩=>?_);cases d with
 | true=>exact ha e i σ H1 D I1 g
 | false=>exact hb e i σ H1 D I1 g
end
abbrev TG:=V->St->Y5l Y1y
abbrev TGs:=Al->St->Y5l Y1y
def PG(X:Cx)(target:Expr)(t:TG):Prop :=
 ∀(pins:Ad) (s:Shared) (σ:St) (H:Hp) (v:V) (u:Value) (Q:Y1y),Y5->Y3W->t v σ H Q ->
  Y4Z (assign target X.env u) (λ_ s'=>∃σ' H',dA X pins σ' H' s'/\Q σ' H')
def PGs(X:Cx)(ts:Y0f)(t:TGs):Prop :=
 ∀(pins:Ad) (s:Shared) (σ:St) (H:Hp) (vs:Al) (us:Ag) (Q:Y1y),Y5->Y9c->t vs σ H Q ->
  Y4Z (assignInOrder ((assignEach ts X.env).map (·.2)) us) (λ_ s'=>∃σ' H',dA X pins σ' H' s'/\Q σ' H')
abbrev aCC:=V->V->V->Y5l (Y1k Hp)
def aFO(X:Cx)(t:aCC):Prop :=
 ∀(pins:Ad) (s:Shared) (σ:St) (H:Hp) (o i v:V) (ov iv u:Value) (Q:Y1k Hp),Y5->fJ o ov->fJ i iv->Y3W->t o i v H Q ->
  Y4Z (setItem ov iv u) (λ_ s'=>∃H',Y9d/\Q H')
section
variable{X:Cx}{pos:Pos}
def mG(i:Nat):TG:=λv σ H Q=>Q (Ycm i) H
def HC{i:Nat}{x:Str}(hN:X.N.Nodup)(hi:Y3r=Y8)(hx:Y9w x)(hf:Y8b=true\/Y6s x:=by first | exact .inl rfl | exact .inr rfl | assumption):PG X (Y85) (mG i):=by
 intro a s σ H v u Q I r h;exact wpAny_assign_Name (wL I hN hi hx r (λc I'=>⟨_,H,I',h⟩) hf)
def aFq:TGs:=λvs σ H Q=>vs=[]/\Q σ H
def ZK(t:TG)(u:TGs):TGs:=λvs σ H Q=>∃v r,vs=v::r/\t v σ H λσ' H'=>u r σ' H' Q
def pgs_nil:PGs X [] aFq:=by
 intro a s σ H d c Q I r h;obtain⟨e,h⟩:=h;subst e;cases r;exact assignInOrder_nil ⟨σ,H,I,h⟩
def XW{e:Expr}{es:Y0f}{t:TG}{u:TGs}(h1:PG X e t)(h2:PGs X es u)
  (hs:(assignEach (e::es) X.env).map (·.2)=Ycp e::(assignEach es X.env).map (·.2):=by rfl):PGs X (e::es) (ZK t u):=by
 intro a s σ H l m Q I r h;obtain⟨v,j,g,h⟩:=h;subst g;cases r with
 | cons r rr =>
  rw[hs];refine assignInOrder_cons (thn (h1 a s σ H _ _ _ I r h) λ_ c ⟨i,H1,I1,d⟩=>?_);exact h2 a c i H1 _ _ Q I1 rr d
def aFp(K:Aa)(n:Nat)(t:TGs):TG:=λv σ H Q=>∃a xs,v=Yn/\Y47 K a/\Y67 n/\t xs σ H Q
def aET{es:Y0f}{k:Nat}{t:TGs}{n:Nat}(hc:Y1z)(h:PGs X es t)
  (hn:(assignEach es X.env).length=n:=by rfl) (hst:(assignEach es X.env).findIdx? (·.1)=none:=by rfl):PG X (.Tuple es k pos) (aFp X.K n t):=by
 intro c s σ H v u Q I r d;obtain⟨a,w,y,p,g,d⟩:=d;subst y;cases r;obtain⟨j,rv,m,z⟩:=I.tuple p;refine assign_Tuple_tuple (Y9M) m (by simp[hn,<-g,rv.length]) hst λl i=>?_;have I1:dA X c σ H { s with heap:=l }:=I.kept (t':=s.toks) λb o e=>i b o (dJ (bN e)) e;exact h c _ σ H w _ Q I1 (by simpa using rv) d
def aGQ(to ti:TE)(t:aCC):TG:=λv σ H Q=>to σ H λo H1=>ti σ H1 λi H2=>t o i v H2 λH3=>Q σ H3
def aEU{o i:Expr}{to ti:TE}{t:aCC}(ho:Yz o to)(hi:Yz i ti)(hs:aFO X t)
  (ha:∀v,assign (.Subscript o i pos) X.env v=(do
   let ov <-holding [v] (eval o X.env)
   let iv <-holding [v,ov] (eval i X.env)
   standAt pos
   holding [v,ov,iv] (setItem ov iv v)
   release [v,ov,iv] []):=by intro _;rfl):PG X (Y7G o i) (aGQ to ti t):=by
 intro a s σ H v u Q I r h;rw[ha];refine Ydi (thn (ho a s σ H _ I h) λov e ⟨x,H1,I1,m,g⟩=>?_);refine Ydi (thn (hi a e σ H1 _ I1 g) λiv c ⟨y,H2,I2,d,j⟩=>?_);refine Ydj (Ydi (thn (hs a c σ H2 x y v ov iv u _ I2 m d r j) λ_ n ⟨H3,I3,l⟩=>?_));exact wpAny_release ⟨σ,H3,I3,l⟩
def IY(te:TE)(g:TG):TS:=λD σ H=>te σ H λx H1=>g x σ H1 D.nx
def aEP{tg e:Expr}{te:TE}{g:TG}(he:Y5d te)(hg:PG X tg g)(hs:Ydy [tg] e X.env=Y4M:=by rfl)(hw:YdG [tg] e=pure none:=by rfl)
  (h1:(assignEach [tg] X.env).map (·.2)=[Ycp tg]:=by rfl):PS X (Y68 [tg] e) (IY te g):=by
 intro a s σ H D I h;refine wpAny_Assign_stores (thn (he a s σ H _ I h) λv i ⟨x,H1,I1,c,d⟩=>?_) hs hw;rw[h1];exact thn (hg a i σ H1 x v _ I1 c d) λ_ j q=>q
def aEJ{i:Nat}{x:Str}{e:Expr}{te:TE}{pos':Pos}(hN:X.N.Nodup)(hi:Y3r=Y8)(hx:Y9w x)(he:Y5d te)(hs:Y9T e Yby=Y4M:=by rfl)(hf:Y8b=true\/Y6s x:=by first | exact .inl rfl | exact .inr rfl | assumption) :
  PS X (Y68 [Yby] e) (IY te (mG i)):=by
 intro a s σ H D I h;refine wpAny_Assign_Name (thn (he a s σ H _ I h) λv g ⟨y,H1,I1,c,d⟩=>?_) hs;exact wL I1 hN hi hx c (λj I2=>⟨_,H1,I2,d⟩) hf
def aGe(i j:Nat)(ta:TA):TS:=λD σ H=>ta σ H λvs H1=>∃v w,vs=[v,w]/\D.nx ((σ.set i (some v)).set j (some w)) H1
def aEL{i j:Nat}{x y:Str}{a b:Expr}{ta:TA}{px py pt:Pos}{kt k2 pt2}(hc:Y1z)(hN:X.N.Nodup)(hi:Y3r=Y8)(hj:X.N[j]?=Y09)(hij:i≠j)
  (hx:Y6s x) (hy:Y6s y) (ha:PA X [a,b] ta)
  (hw:YdG [Y9u [Y3P,Y4A] kt] (Ybg [a,b] k2)=pure (some [x,y]))
  (hs:Ydy [Y9u [Y3P,Y4A] kt] (Ybg [a,b] k2) X.env=Y4M:=by rfl) :
  PS X (Y68 [Y9u [Y3P,Y4A] kt] (Ybg [a,b] k2)) (aGe i j ta):=by
 intro c s σ H D I h;rw[exec_Assign_arm];refine Ydj ?_;rw[hs];refine Y3B ?_;rw[Y2B];refine wpAny_bind (Tuple_ (thn (ha _ c s σ H _ I h) λz g ⟨C,H1,I1,r,n⟩=>?_));obtain⟨v,w,u,n⟩:=n;subst u;obtain⟨u1,d,rfl,rv,l⟩:∃u1 d,z=[u1,d]/\fJ v u1/\fJ w d:=by
  cases r with
  | cons p q =>
   cases q with
   | cons p' q' =>
    cases q';exact Y3y _ p p'
 refine Yfn (by show Y0D 2;decide);have I2:dA X c σ H1 { g with heap:=g.heap.push { cls:=.type "tuple",data:=.seq [u1,d].toArray } }:=YbZ g.toks Y3U;rw[hw];refine Y3B ?_;show wpAny (Y75) X.A (do rule "assign.swapped-stores";let items <-unpackItems (.ref g.heap.objs.size) 2 none;assignInOrder [λv=>bindName X.env y v,λv=>bindName X.env x v] items.reverse;pure Flow.next) _ _ _;refine Yaq (wpAny_bind (unpackItems_tuple (items:=#[u1,d]) (Y9M) (IsTup.new g.heap _) λh' m=>?_));have I3:=I2.kept (h':=h') (t':=g.toks) λb o e=>m b o (dJ (bN e)) e;show Y3X (assignInOrder [λv=>bindName X.env y v,λv=>bindName X.env x v] [d,u1] >>= λ_=>pure Flow.next);refine wpAny_bind (assignInOrder_cons (wpAny_bindName (wL I3 hN hj (.inl hy) l (λB I4=>?_) (.inr hy))));refine assignInOrder_cons (wpAny_bindName (wL I4 hN hi (.inl hx) rv (λG I5=>assignInOrder_nil (Y2k)) (.inr hx)));rw[List.set_comm _ _ (Ne.symm hij)]at I5;exact⟨_,H1,I5,n⟩
end
section
variable{X:Cx}{pos:Pos}
def GM(c:TT)(tb:TS):TS:=λD σ H=>∃W:Nat->St->Hp->Prop,(∃m,W m σ H)/\∀m σ H,W m σ H ->
 c σ H λb H1=>if b=true then ∃N:St->Hp->Prop,(∀σ' H',N σ' H'->∃m',m' < m/\W m' σ' H')/\(tb { D with nx:=N,ct:=N,bk:=D.nx } σ H1) else Y8z H1
def XN{c:Expr}{body:Y5w}{tc:TT}{tb:TS}(hp:Ycj Y75 X.A X.xe)(hc:PT X c tc)(hb:OF X body tb):PS X (.While c body [] pos) (GM tc tb):=by
 intro a s σ H D I h;obtain⟨W,⟨y,z⟩,d⟩:=h;refine wpAny_While (codeAny_whileLoop (λn J=>∃σ' H',dA X a σ' H' J/\W n σ' H') ?_ y ⟨σ,H,I,z⟩);rintro n G ⟨j,H1,I1,C⟩;refine Y9m hp (hc a G j H1 _ I1 (d n j H1 C)) (λb B ⟨H2,I2,g⟩=>?_);cases b with
 | true =>
  obtain⟨N,u,g⟩:=g;rw[Yo];refine Y9m hp (hb a B j H2 _ I2 g) (λf L i=>?_);cases f with
  | next =>
   obtain⟨e,H3,I3,r⟩:=i;obtain⟨l,m,p⟩:=u e H3 r;exact⟨l,m,e,H3,I3,p⟩
  | cont =>
   obtain⟨e,H3,I3,r⟩:=i;obtain⟨l,m,p⟩:=u e H3 r;exact⟨l,m,e,H3,I3,p⟩
  | brk=>exact i
  | ret v=>exact i
 | false =>
  rw[if_neg cE];exact YfS j H2 I2 g
end
structure It where
 go:Y1M Nat
 yld:Nat->Hp->Y4y
 stop:Y1M Nat
def qF(X:Cx)(pins:Ad)(H:Hp)(b:Addr):Prop :=
 H b=none/\Y4J b/\b ∉ X.fs/\(b∈X.ex\/Y8t b)/\(∀x c,Y3T->c≠b)/\∀p∈X.pn++pins,p.1≠b
def dA.fpOk{X:Cx}{pins:Ad}{σ:St}{H H':Hp}{s:Shared}{b:Addr}(I:Y5)(hb:YfO b)(hn:Y1I=none):Y40 H':=by
 refine⟨hn,Nat.ne_of_gt (aO I.lt hb),I.nofs hb,.inr (aL I.sz hb),λx c e z=>?_,λp a z=>?_⟩
 ·obtain⟨v,q⟩:=Y7Z x e;exact absurd (aO q.lt (by rw[z];exact hb)) (cO _)
 ·exact absurd (aO (bN ((Y90 a).1)) (by rw[z];exact hb)) (cO _)
structure LT(P:Program)(w:World)(K:Aa)(tg:Expr)(J:It)(fp:Y0s)(it:Addr)(tn:Y7V Nat):Prop where
 mem:it∈fp
 obj:∀i h,tn i h->∀b∈fp,∃o,Y1O=Yb/\∀v,o.data ≠ .cell v
 keep:∀i h h',tn i h->(∀b∈fp,∀o,Y1O=Yb->Y1a=Yb)->tn i h'
 item:∀(X:Cx),X.prog=P->X.w=w->X.K=K->Y1z->∀(i:Nat) (pins:Ad) (s:Shared) (σ:St) (H:Hp) (E:Yd),Y5->(∀b∈fp,Y40 H)->tn i s.heap->Y8l H ->
  wpAny (model P w) X.A (pyNext (.ref it)) (λr s1=>∃u,r=Yp /\
   wpAny (model P w) X.A (letOwnedTupleGo tg (Y81) u) (λ_ s2=>∃x H',Y49 H' s2/\fJ x u/\Y8j H x H'/\tn (i+1) s2.heap/\∀b∈fp,Y1I=none) E s1) E s
 done:∀(X:Cx),X.prog=P->X.w=w->X.K=K->Y1z->∀(i:Nat) (pins:Ad) (s:Shared) (σ:St) (H:Hp) (E:Yd),Y5->(∀b∈fp,Y40 H)->tn i s.heap->J.stop i H ->
  wpAny (model P w) X.A (pyNext (.ref it)) (λr s1=>r=none/\Y5k s1) E s
 self:∀(A:Around) (i:Nat) (s:Shared) (Q:Yd) (E:Yd),tn i s.heap->Y2x it s->wpAny (model P w) A (pyIter (Y81)) Q E s
abbrev TI:=St->Y5l (Y1M It)
def PIE(X:Cx)(pins:Ad)(σ:St)(tg:Expr)(R:Y1M It)(itv:Value)(s2:Shared):Prop :=
 ∃(it:Addr) (fp:Y0s) (tn:Y7V Nat) (J:It) (H':Hp),itv=Y81/\Y49 H' s2/\LT X.prog X.w X.K tg J fp it tn/\tn 0 s2.heap/\(∀b∈fp,Y40 H')/\R J H'
def PI(X:Cx)(tg iter:Expr)(wi:TI):Prop :=
 ∀(pins:Ad) (s:Shared) (σ:St) (H:Hp) (R:Y1M It),Y5->wi σ H R ->
  Y4Z (Y0d iter) (λv s1=>Y9j (pyIter v) (PIE X pins σ tg R) s1)
def QU{M:Model}{A:Around}{E:Yd}{s:Shared}{tg:Expr}{it:Addr}{u:Value}{o:Obj}{n:String}{vs:Ai}{Q:YbK}(ho:Y39 it)(hc:o.cls=.type n)(hd:o.data=.fields vs)
    (hn:Yx (["enumerate","zip","dict_itemiterator","dict_reverseitemiterator","odict_iterator","itertools.zip_longest","itertools.pairwise"].contains n)) (hQ:Q () s):wpAny M A (letOwnedTupleGo tg (Y81) u) Q E s:=by
  unfold letOwnedTupleGo;cases tg <;> first
    | exact wpAny_pure hQ
    | (cases u <;> first
        | exact wpAny_pure hQ
        | (refine Yfc ho ?_
           rw[hc,hd];show wpAny M A (if(["enumerate","zip","dict_itemiterator","dict_reverseitemiterator","odict_iterator","itertools.zip_longest","itertools.pairwise"].contains n&&vs[0]? == some (rawInt _))=true then _ else _) Q E s;rw[if_neg (by intro h;rw[hn,Bool.false_and]at h;cases h)];exact wpAny_pure hQ))
def Itl(K:Aa)(a:Addr):It :=
 ⟨Yed (Y35 K H a/\Y0q=Y8),λi H x H'=>H'=H/\∀xs,Y35 K H a->Y0q=Y8,λi H=>∃xs,Y35 K H a/\Y6J i⟩
def Itt(K:Aa)(a:Addr):It :=
 ⟨Yed (Y47 K a/\Y0q=Y8),λi H x H'=>H'=H/\∀xs,Y47 K a->Y0q=Y8,λi H=>∃xs,Y47 K a/\Y6J i⟩
def Itr(lo:Int)(n:Nat):It:=⟨λi _=>i<n,λi H x H'=>H'=H/\x=.int (lo+i),λi _=>n<=i⟩
def SR{P:Program}{w:World}{K:Aa}{tg:Expr}(a it:Addr):LT P w K tg (Itl K a) [it] it (λi h=>h.IsListIter it a i) where
 mem:=by simp
 obj:=λi h st b j=>by
  have e:b=it:=by simpa using j
  subst e;obtain⟨o,e,c,d⟩:=st;exact Y1B e (λv z=>by rw[d]at z;cases z)
 keep:=λi h n st k=>st.at λo e=>k it (by simp) o e
 item:=by
  intro X N L G R i g s σ H E I m st B;subst N L G;obtain⟨γ,x,r,C⟩:=B;obtain⟨J,rv,p,α⟩:=I.list r;obtain⟨u,β,ru⟩:=rv.get C;obtain⟨A,y,S,D,M,O⟩:=m it (by simp);refine wpAny_pyNext_list_item st p.isList (x:=u) (by simpa using β) λn l T=>?_;have I1:dA X g σ H { s with heap:=n }:=Yar s.toks ((T.2 b j).trans e) A y D M O;obtain⟨o,e,c,d⟩:=id l;exact Y04 u (QU (s:={ s with heap:=n }) e c d Dd ⟨x,H,I1,ru,Y0I (λε U=>by rw[I.list_inj U r];exact C),l,λb j=>(m b j).1⟩)
 done:=by
  intro X N L G R i g s σ H E I m st B;subst N L G;obtain⟨γ,r,C⟩:=B;obtain⟨J,rv,p,α⟩:=I.list r;obtain⟨A,y,S,D,M,O⟩:=m it (by simp);have δ:=rv.length;exact wpAny_pyNext_list_end (I.ok.hd R) st p.isList (by simp;exact Oo) λn Z=>Y0I (Yar s.toks (Z b o j e) A y D M O)
 self:=λ_ _ _ _ _ st h=>wpAny_pyIter_listiter st h
def MG{P:Program}{w:World}{K:Aa}{tg:Expr}(a it:Addr):LT P w K tg (Itt K a) [it] it (λi h=>h.IsTupleIter it a i) where
 mem:=by simp
 obj:=λi h st b j=>by
  have e:b=it:=by simpa using j
  subst e;obtain⟨o,e,c,d⟩:=st;exact Y1B e (λv z=>by rw[d]at z;cases z)
 keep:=λi h r st k=>st.at λo e=>k it (by simp) o e
 item:=by
  intro X N L J R i g s σ H E I n st C;subst N L J;obtain⟨γ,x,y,D⟩:=C;obtain⟨l,rv,p,α⟩:=I.tuple y;obtain⟨u,β,ru⟩:=rv.get D;obtain⟨B,A,S,G,M,O⟩:=n it (by simp);refine wpAny_pyNext_tuple_item st (show s.heap.IsTuple a l.toArray from p) (x:=u) (by simpa using β) λr m T=>?_;have I1:dA X g σ H { s with heap:=r }:=Yar s.toks ((T.2 b j).trans e) B A G M O;obtain⟨o,e,c,d⟩:=id m;exact Y04 u (QU (s:={ s with heap:=r }) e c d Dd ⟨x,H,I1,ru,Y0I (λε U=>by rw[I.tuple_inj U y];exact D),m,λb j=>(n b j).1⟩)
 done:=by
  intro X N L J R i g s σ H E I n st C;subst N L J;obtain⟨γ,y,D⟩:=C;obtain⟨l,rv,p,α⟩:=I.tuple y;obtain⟨B,A,S,G,M,O⟩:=n it (by simp);have δ:=rv.length;exact wpAny_pyNext_tuple_end (I.ok.hd R) st (show s.heap.IsTuple a l.toArray from p) (by simp;exact Oo) λr Z=>Y0I (Yar s.toks (Z b o j e) B A G M O)
 self:=λ_ _ _ _ _ st h=>wpAny_pyIter_tupleiter st h
def MH{P:Program}{w:World}{K:Aa}{tg:Expr}(it:Addr)(lo:Int)(n:Nat):LT P w K tg (Itr lo n) [it] it (λi h=>IsRangeIter h it (lo+(i:Nat)*1) ((n:Int)-(i:Nat)) 1) where
 mem:=by simp
 obj:=λi h st b c=>by
  have e:b=it:=by simpa using c
  subst e;exact⟨_,st,λv z=>by
   have O:Data.fields _=Data.cell v:=z;cases O⟩
 keep:=λi h j st k=>k it (by simp) _ st
 item:=by
  intro X C A y r i a s σ H E I g st p;subst C A y;obtain⟨m,l,M,u,B,D⟩:=g it (by simp);have W:=Walks.range (prog:=X.prog) (w:=X.w) (I.ok.hd r) it lo 1 n;refine W.item i s _ _ p st λv j G L d J=>?_;obtain⟨t,rfl⟩:=L;have I1:dA X a σ H { s with heap:=j,toks:=G }:=I.turned (λb o c e=>J b o (by simpa using c) e) m l u B D;refine Y7 (QU (s:={ s with heap:=j,toks:=G }) (n := "range_iterator") d rfl rfl Dd ⟨.int (lo+i),H,I1,Y0p t,Y73,d,λb c=>(g b c).1⟩);rw[Int.mul_one]
 done:=by
  intro X C A y r i a s σ H E I g st p;subst C A y;obtain⟨m,l,M,u,B,D⟩:=g it (by simp);exact wpAny_pyNext_range_end (I.ok.hd r) st (by have:n<=i:=p;exact Oo) λj N=>Y0I (I.turned (t':=s.toks) (λb o c e=>N b o c e) m l u B D)
 self:=λ_ _ _ _ _ st h=>wpAny_pyIter_rangeiter st h
section
variable{X:Cx}{tg:Expr}
def ZC(K:Aa)(tl:TE):TI:=λσ H R=>tl σ H (YeD (x=Yn/\(∃xs,Y35 K H1 a)/\R (Itl K a) H1))
def aGO(K:Aa)(tl:TE):TI:=λσ H R=>tl σ H (YeD (x=Yn/\(∃xs,jQ K H1 a xs)/\R (Itt K a) H1))
def aBC{l:Expr}{tl:TE}(hl:Yz l tl):PI X tg l (ZC X.K tl):=by
 intro c s σ H R I h;refine thn (hl c s σ H _ I h) λv d ⟨x,H1,I1,n,m⟩=>?_;obtain⟨a,e,⟨u,j⟩,q⟩:=m;subst e;cases n;obtain⟨i,rv,p,r⟩:=I1.list j;refine wpAny_pyIter_list p.isList ⟨d.heap.objs.size,[d.heap.objs.size],_,_,H1,rfl,YbZ d.toks Y3U,SR a _,Yag _,λb g=>?_,q⟩;have e:b=d.heap.objs.size:=by simpa using g
 subst e;exact Yas Yq Yq
def aES{l:Expr}{tl:TE}(hl:Yz l tl):PI X tg l (aGO X.K tl):=by
 intro d s σ H R I h;refine thn (hl d s σ H _ I h) λv c ⟨x,H1,I1,n,m⟩=>?_;obtain⟨a,e,⟨u,j⟩,q⟩:=m;subst e;cases n;obtain⟨g,rv,p,r⟩:=I1.tuple j;refine wpAny_pyIter_tuple (show c.heap.IsTuple a g.toArray from p) ⟨c.heap.objs.size,[c.heap.objs.size],_,_,H1,rfl,YbZ c.toks Y3U,MG a _,Yag _,λb i=>?_,q⟩;have e:b=c.heap.objs.size:=by simpa using i
 subst e;exact Yas Yq Yq
def JN{pins:Ad}{σ:St}{H:Hp}{s:Shared}{R:Y1M It}{E:Yd}{lo hi:Int}{t u v:Tok}{tk:Nat}(I:Y5)(h1:-(2^62)<=lo)(h2:lo<2^62)(h3:-(2^62)<=hi)(h4:hi<2^62)
  (q:R (Itr lo (hi-lo).toNat) H):Y7C (pyIter (Y2R)) (PIE X pins σ tg R) E ({ s with heap:=s.heap.push { cls:=.type "range",data:=.fields #[.int lo t,.int hi u,.int 1 v] },toks:=tk }):=by
 refine wpAny_pyIter_range (IsRange.new ..) (small_one h1 h2 h3 h4) ?_;have I1:Y5k ({ s with heap:=s.heap.push { cls:=.type "range",data:=.fields #[.int lo t,.int hi u,.int 1 v] },toks:=tk }):=I.kept λb o e=>Y3U;refine⟨(s.heap.push { cls:=.type "range",data:=.fields #[.int lo t,.int hi u,.int 1 v] }).objs.size,[(s.heap.push { cls:=.type "range",data:=.fields #[.int lo t,.int hi u,.int 1 v] }).objs.size],_,_,H,rfl,
  YbZ tk Y3U,MH _ lo (hi-lo).toNat,?_,λb c=>?_,q⟩
 ·have d:lo+((0:Nat):Int)*1=lo:=by simp
  have a:(((hi-lo).toNat:Nat):Int)-((0:Nat):Int)=Builtin.Range.rangeSize lo hi 1:=by rw[rangeSize_one];split <;> exact Oo
  show IsRangeIter _ _ (lo+((0:Nat):Int)*1) ((((hi-lo).toNat:Nat):Int)-((0:Nat):Int)) 1;rw[d,a];exact Y1n
 ·have e:b=(s.heap.push { cls:=.type "range",data:=.fields #[.int lo t,.int hi u,.int 1 v] }).objs.size:=by simpa using c
  subst e;exact Yas Yq Yq
def aC3(ta:TA):TI:=Ydb σ H (∃j:Int,vs=[.int j]/\-(2^62)<=j/\j<2^62/\R (Itr 0 j.toNat) H1)
def aC2(ta:TA):TI:=Ydb σ H (∃i j:Int,vs=[Y1d,.int j]/\(-(2^62)<=i/\i<2^62/\-(2^62)<=j/\j<2^62)/\R (Itr i (j-i).toNat) H1)
def TK{a:Expr}{ta:TA}{p pos:Pos}(hg:Gl X "range")(hm:X.mg "range" = none)(ha:PA X [a] ta)(hs:Y33 a=[(false,Y0d a)]:=by rfl):PI X tg (Y4v "range" [a] []) (aC3 ta):=by
 intro c s σ H R I h;refine Call_ (vX I hg hm boot_range (Yak (ha pos c s σ H _ I h) (λn m ⟨l,H1,I1,i,d⟩=>?_) hs rfl));obtain⟨j,e,d,g,q⟩:=d;subst e;cases i with
 | cons r rr =>
  cases rr;obtain⟨t,rfl⟩:=r;exact call_range_1 (JN I1 Oo Oo d g (by simpa using q))
def TJ{a b:Expr}{ta:TA}{p pos:Pos}(hg:Gl X "range")(hm:X.mg "range" = none)(ha:PA X [a,b] ta)(hs:Y1X [a,b]=[(false,Y0d a),(false,Y0d b)]:=by rfl)(hs2:Y33 b=[(false,Y0d b)]:=by rfl) :
  PI X tg (Y4v "range" [a,b] []) (aC2 ta):=by
 intro c s σ H R I h;refine Call_ (vX I hg hm boot_range (Yak (ha pos c s σ H _ I h) (λz w ⟨u,H1,I1,n,d⟩=>?_) (by rw[hs,hs2]) (by rw[hs2];rfl)));obtain⟨i,j,e,⟨d,l,m,g⟩,q⟩:=d;subst e;cases n with
 | cons r rr =>
  cases rr with
  | cons r' rr =>
   cases rr;obtain⟨t,rfl⟩:=r;obtain⟨y,rfl⟩:=r';exact call_range_2 (JN I1 d l m g q)
def aGh(wi:TI)(g:TG)(tb:TS):TS:=λD σ H=>wi σ H λJ H1=>∃W:Nat->Nat->St->Hp->Prop,(Y7n 0 m σ H1)/\∀i m σ H,W i m σ H ->
 (J.stop i H/\Y3S)\/(Y8l H/\∃N:St->Hp->Prop,Y9X (N σ' H'->∃m',m' < m/\W (i+1) m' σ' H') (Y8j H x H'->g x σ H' (Y53 ({ D with nx:=N,ct:=N,bk:=D.nx }))))
def CB(fp:Y0s)(h:Heap):Ad:=fp.filterMap λb=>(h.get? b).map λo=>(b,o)
def sK{fp:Y0s}{h:Heap}{b:Addr}{o:Obj}(hb:b∈fp)(e:Y1O=Yb):(b,o)∈CB fp h:=List.mem_filterMap.mpr ⟨b,hb,by rw[e];rfl⟩
def TM{fp:Y0s}{h:Heap}{p:Addr × Obj}(hp:p∈CB fp h):p.1∈fp/\h.get? p.1=some p.2:=by
 obtain⟨b,c,e⟩:=List.mem_filterMap.mp hp;cases q:Y1O with
 | none=>rw[q]at e;cases e
 | some o =>
  rw[q]at e;have a:(b,o)=p:=gB e;subst a;exact⟨c,q⟩
def dA.pinned{pins:Ad}{σ:St}{H:Hp}{s:Shared}{fp:Y0s}(I:Y5)(hf:∀b∈fp,Y40 H)(ho:∀b∈fp,∃o,Y28/\∀v,o.data ≠ .cell v):dA X (pins++CB fp s.heap) σ H s :=
 I.pins_of λp h=>(dO.mp h).elim (λz=>Y90 (cL _ z)) λz=>by
  obtain⟨a,e⟩:=TM z;obtain⟨j,i,g,_⟩:=hf p.1 a;obtain⟨o,c,d⟩:=ho p.1 a;rw[e]at c;cases c;exact⟨e,j,i,g,d⟩
def dA.unpinned{pins pl:Ad}{σ:St}{H:Hp}{s:Shared}(I:dA X (pins++pl) σ H s):Y5:=I.pins_of λp a=>Y90 (cL _ (cM _ a))
def aEM{iter:Expr}{body:Y5w}{wi:TI}{g:TG}{tb:TS}{pos:Pos}(hp:Ycj Y75 X.A X.xe)(hc:Y1z)(hi:PI X tg iter wi)(hg:PG X tg g)(hb:OF X body tb)
  (hs:∀x,Y6Z x=Y7j:=by intro _;rfl):PS X (.For tg iter body [] pos) (aGh wi g tb):=by
 intro a s σ H D I h;refine wpAny_For (thn (hi a s σ H _ I h) λv s1 τ=>thn τ λχ s2 ρ=>?_) hs;obtain⟨it,z,β,J,H2,e,I2,T,S,α,W,⟨ψ,ω⟩,B⟩:=ρ;subst e;have c:∀{H':Hp},(∀b∈z,Y1I=none)->∀b∈z,qF X a H' b:=λι b hb=>⟨ι b hb,(α b hb).2⟩;refine codeAny_forLoop_any (λn Z=>∃i σ' H',dA X a σ' H' Z/\β i Z.heap/\(∀b∈z,Y1I=none)/\W i n σ' H') ?_ ψ ⟨0,σ,H2,I2,S,λb hb=>(α b hb).1,ω⟩;rintro n γ ⟨i,C,H3,I3,L,G,ο⟩;rcases B i n C H3 ο with⟨O,qn⟩ | ⟨ε,N,ζ,step⟩
 ·refine Y9m hp (T.done X rfl rfl rfl hc i a γ C H3 X.xe I3 (c G) L O) (λr κ ⟨P,I4⟩=>?_);subst P;exact YfS C H3 I4 qn
 ·refine Y9m hp (T.item X rfl rfl rfl hc i a γ C H3 X.xe I3 (c G) L ε) (λr κ ⟨u,P,h4⟩=>?_);subst P;refine Y9m hp h4 (λ_ δ ⟨x,H5,I5,μ,y5,y,R⟩=>?_);have I5':=I5.pinned (c R) (T.obj _ _ y);refine Y9m hp (hg _ δ C H5 x u _ I5' μ (step x H5 y5)) (λ_ φ ⟨σ6,H6,I6,q6⟩=>?_);refine Y9m hp (hb _ φ σ6 H6 _ I6 q6) (λf U p=>?_);have j:∀{l:St} {H7:Hp},dA X (a++CB z δ.heap) l H7 U->N l H7->∃m,m<n/\∃i σ' H',dA X a σ' H' U/\β i U.heap/\(∀b∈z,Y1I=none)/\W i m σ' H':=λ{l H7} I7 M=>by
   obtain⟨θ,ξ,ν⟩:=ζ l H7 M;refine⟨θ,ξ,i+1,l,H7,I7.unpinned,T.keep _ _ _ y λb hb o e=>(I7.pin (b,o) (cL _ (cL _ (sK hb e)))).1,λb hb=>?_,ν⟩;obtain⟨o,e,d⟩:=T.obj _ _ y b hb;exact(I7.pin (b,o) (cL _ (cL _ (sK hb e)))).2.1
  cases f with
  | next=>obtain⟨l,H7,I7,M⟩:=p;exact j I7 M
  | cont=>obtain⟨l,H7,I7,M⟩:=p;exact j I7 M
  | brk=>obtain⟨l,H7,I7,p⟩:=p;exact⟨l,H7,I7.unpinned,p⟩
  | ret v=>obtain⟨η,l,H7,I7,υ,p⟩:=p;exact⟨η,l,H7,I7.unpinned,υ,p⟩
end
def kW{K:Aa}{a:Addr}{xs:Al}{g:TG}{tb:TS}{D:sW}{σ:St}{H:Hp}(Pv:Nat->Y1y)(h0:Y6U 0)(hl:∀i σ H,Y4P i->Y31->Y35 K H a)
  (hs:∀i x σ H,Y0q=Y8->Y31->g x σ H (Y53 ({ D with nx:=Pv (i+1),ct:=Pv (i+1),bk:=D.nx }))) (hd:∀σ H,Yec->Y3S) :
  ∃W:Nat->Nat->St->Hp->Prop,(Y7n 0 m σ H)/\∀i m σ H,W i m σ H ->
   ((Itl K a).stop i H/\Y3S)\/((Itl K a).go i H/\∃N:St->Hp->Prop,Y9X (N σ' H'->∃m',m' < m/\W (i+1) m' σ' H') ((Itl K a).yld i H x H'->g x σ H' (Y53 ({ D with nx:=N,ct:=N,bk:=D.nx })))):=by
 refine YaR (m=Y4g i/\Y4P i/\Y31) ⟨xs.length,by simp,Y0H,h0⟩;rintro i m σ H ⟨rfl,c,p⟩;have q:=hl i σ H c p;by_cases hlt:Y59
 ·refine .inr ⟨⟨xs,xs[i],q,by simp[hlt]⟩,Pv (i+1),λσ' H' d=>Y11 (Y4g (i+1)) Oo hlt d,Ye5⟩;obtain⟨e,y⟩:=y;subst e;exact hs i x σ _ (y xs q) p
 ·have e:Y4Q i:=Oo;subst e;exact Y1Y ⟨xs,q,Yq⟩ (hd σ H p)
def QZ{K:Aa}{a:Addr}{xs:Al}{g:TG}{tb:TS}{D:sW}{σ:St}{H:Hp}(Pv:Nat->Y1y)(h0:Y6U 0)(hl:∀i σ H,Y4P i->Y31->Y47 K a)
  (hs:∀i x σ H,Y0q=Y8->Y31->g x σ H (Y53 ({ D with nx:=Pv (i+1),ct:=Pv (i+1),bk:=D.nx }))) (hd:∀σ H,Yec->Y3S) :
  ∃W:Nat->Nat->St->Hp->Prop,(Y7n 0 m σ H)/\∀i m σ H,W i m σ H ->
   ((Itt K a).stop i H/\Y3S)\/((Itt K a).go i H/\∃N:St->Hp->Prop,Y9X (N σ' H'->∃m',m' < m/\W (i+1) m' σ' H') ((Itt K a).yld i H x H'->g x σ H' (Y53 ({ D with nx:=N,ct:=N,bk:=D.nx })))):=by
 refine YaR (m=Y4g i/\Y4P i/\Y31) ⟨xs.length,by simp,Y0H,h0⟩;rintro i m σ H ⟨rfl,c,p⟩;have q:=hl i σ H c p;by_cases hlt:Y59
 ·refine .inr ⟨⟨xs,xs[i],q,by simp[hlt]⟩,Pv (i+1),λσ' H' d=>Y11 (Y4g (i+1)) Oo hlt d,Ye5⟩;obtain⟨e,y⟩:=y;subst e;exact hs i x σ _ (y xs q) p
 ·have e:Y4Q i:=Oo;subst e;exact Y1Y ⟨xs,q,Yq⟩ (hd σ H p)
def oU{lo:Int}{n:Nat}{g:TG}{tb:TS}{D:sW}{σ:St}{H:Hp}(Pv:Nat->Y1y)(h0:Y6U 0)
  (hs:∀i σ H,i<n->Y31->g (.int (lo+i)) σ H (Y53 ({ D with nx:=Pv (i+1),ct:=Pv (i+1),bk:=D.nx }))) (hd:∀σ H,Y6U n->Y3S) :
  ∃W:Nat->Nat->St->Hp->Prop,(Y7n 0 m σ H)/\∀i m σ H,W i m σ H ->
   ((Itr lo n).stop i H/\Y3S)\/((Itr lo n).go i H/\∃N:St->Hp->Prop,Y9X (N σ' H'->∃m',m' < m/\W (i+1) m' σ' H') ((Itr lo n).yld i H x H'->g x σ H' (Y53 ({ D with nx:=N,ct:=N,bk:=D.nx })))):=by
 refine YaR (m=n-i/\i<=n/\Y31) ⟨n,by simp,Y0H,h0⟩;rintro i m σ H ⟨rfl,c,p⟩;by_cases hlt:i<n
 ·refine .inr ⟨hlt,Pv (i+1),λσ' H' a=>Y11 (n-(i+1)) Oo hlt a,Ye5⟩;obtain⟨e,y⟩:=y;subst e y;exact hs i σ _ hlt p
 ·have e:i=n:=Oo;subst e;exact Y1Y Yq (hd σ H p)
abbrev R2:=V->V->(Y5l VK)
def xY(X:Cx)(f:Y64 Yab)(r:R2):Prop :=
 ∀(pins:Ad) (s:Shared) (σ:St) (H:Hp) (x y:V) (v u:Value) (Q:VK),Y5->fJ x v->Y3q->r x y H Q ->
  Y79 (f v u) X σ Q
def UnR(X:Cx)(f:Yab)(r:V->(Y5l VK)):Prop :=
 ∀(pins:Ad) (s:Shared) (σ:St) (H:Hp) (x:V) (v:Value) (Q:VK),Y5->fJ x v->r x H Q ->
  Y79 (f v) X σ Q
def kZ(X:Cx)(f:Value)(r:Y1v):Prop :=
 ∀(pins:Ad) (s:Shared) (σ:St) (H:Hp) (xs:Al) (us:Ag) (Q:VK),Y5->Y5N->r xs H Q ->
  Y79 (call f us) X σ Q
def tOp(r:R2)(ta tb:TE):TE:=Ycx σ H (λx H1=>tb σ H1 λy H2=>r x y H2 Q)
def tUn(r:V->(Y5l VK))(ta:TE):TE:=Ycx σ H (λx H1=>r x H1 Q)
def rI(C:Y0r Int Int)(g:Int->Int->V):R2:=λx y H Q=>∃i j,x=Y1d/\y=.int j/\C i j/\Q (g i j) H
def rI0(g:Int->Int->V):R2:=λx y H Q=>∃i j,x=Y1d/\y=.int j/\Q (g i j) H
def rU(g:Int->V):V->(Y5l VK):=λx H Q=>∃i,x=Y1d/\Q (g i) H
section
variable{X:Cx}{a b c:Expr}{ta tb tc:TE}{pos:Pos}
def aFI(ha:Y7s a)(hb:Yz b tb){pins:Ad}{s:Shared}{σ:St}{H:Hp}{R:V->Y4y}(I:Y5)
  (h:ta σ H λx H1=>tb σ H1 λy H2=>R x y H2) {Q:Yd} {f:Y64 Yab}
  (hf:∀v u s2 x y H2,Y49 H2 s2->fJ x v->Y3q->R x y H2->Y9j (f v u) Q s2) :
  Y4Z (Y0d a) (λv s₁=>Y9j (Y0d b) (λu s₂=>Y9j (f v u) Q s₂) s₁):=by
 exact thn (ha pins s σ H _ I h) λv i ⟨x,H1,I1,d,g⟩=>thn (hb pins i σ H1 _ I1 g) λu s2 ⟨y,H2,I2,c,e⟩=>hf v u s2 x y H2 I2 d c e
def aGD{op:Operator}{r:R2}(ho:Y65 X op r)(ha:Y7s a)(hb:Yz b tb):Yz (.BinOp a op b pos) (tOp r ta tb):=by
 intro c s σ H Q I h;exact wpAny_BinOp (Yfo ha hb I h (ho c g σ H2 x y v u Q I2 d e q))
def aGC{op:UnaryOp}{r:V->(Y5l VK)}(ho:UnR X (unaryOp op) r)(ha:Y7s a):Yz (YeL op a) (tUn r ta):=by
 intro c s σ H Q I h;exact UnaryOp_ (thn (ha c s σ H _ I h) λv g ⟨x,H1,I1,d,e⟩=>ho c g σ H1 x v Q I1 d e)
def opI{f:Y64 Yab}{C:Y0r Int Int}{g:Int->Int->Int}
  (rule:∀(i j:Int) (t u:Tok) (s:Shared) (Q:Yd) (E:Yd),C i j->Q (.int (g i j) s.toks) { s with toks:=s.toks+1 }->Y7C (f (Y51 i) (.int j u)) Q E s) :
  xY X f (rI C (Y8G (g i j))):=by
 intro a s σ H x y v u Q I d e h;obtain⟨i,j,rfl,rfl,c,q⟩:=h;obtain⟨t,rfl⟩:=d;obtain⟨l,rfl⟩:=e;exact rule i j t l s _ _ c ⟨.int (g i j),H,Y1b,Y1N,q⟩
def aGH{f:Y64 Yab}{g:Int->Int->Int}
  (rule:∀(i j:Int) (t u:Tok) (s:Shared) (Q:Yd) (E:Yd),Q (.int (g i j) s.toks) { s with toks:=s.toks+1 }->Y7C (f (Y51 i) (.int j u)) Q E s) :
  xY X f (rI0 (Y8G (g i j))):=by
 intro a s σ H x y v u Q I c d h;obtain⟨i,j,rfl,rfl,q⟩:=h;obtain⟨t,rfl⟩:=c;obtain⟨e,rfl⟩:=d;exact rule i j t e s _ _ ⟨.int (g i j),H,Y1b,Y1N,q⟩
def aE4{f:Y64 Yab}{g:Int->Y1Q Int}
  (rule:∀(i j:Int) (t u:Tok) (s:Shared) (Q:Yd) (E:Yd),Q (.bool (g i j)) s->Y7C (f (Y51 i) (.int j u)) Q E s) :
  xY X f (rI0 (YeN (g i j))):=by
 intro a s σ H x y v u Q I c d h;obtain⟨i,j,rfl,rfl,q⟩:=h;obtain⟨t,rfl⟩:=c;obtain⟨e,rfl⟩:=d;exact rule i j t e s _ _ (Y0O (.bl (g i j)) H I q)
def aJH(i j:Int):Prop:=0<=j/\j<=1000000/\i.natAbs<2^64
def fQ:Y65 X .Add (rI0 (Y8G (i+j))):=aGH λ_ _ _ _ _ _ _ q=>add_int q
def lH:Y65 X .Sub (rI0 (Y8G (i-j))):=aGH λ_ _ _ _ _ _ _ q=>sub_int q
def qB:Y65 X .Mod (rI (λ_ j=>0<j) (Y8G (i % j))):=opI λi j _ _ _ _ _ a q=>by
 exact mod_int' Oo (by rw[Int.fmod_eq_emod_of_nonneg i Oo];exact q)
def aE0:Y65 X .Pow (rI aJH (Y8G (i^j.toNat))):=opI λ_ _ _ _ _ _ _ a q=>pow_int_small a.1 a.2.1 a.2.2 q
def unI{f:Yab}{g:Int->Int}
  (rule:∀(i:Int) (t:Tok) (s:Shared) (Q:Yd) (E:Yd),Q (.int (g i) s.toks) { s with toks:=s.toks+1 }->Y7C (f (Y51 i)) Q E s) :
  UnR X f (rU λi=>.int (g i)):=by
 intro a s σ H x v Q I c h;obtain⟨i,rfl,q⟩:=h;obtain⟨t,rfl⟩:=c;exact rule i t s _ _ ⟨.int (g i),H,Y1b,Y1N,q⟩
def vU:UnR X (unaryOp .USub) (rU λi=>.int (-i)):=unI λ_ _ _ _ _ q=>neg_int q
end
def scal:V->Y1Q V
 | .non,.non=>true | .non,.int _=>true | .int _,.non=>true | .non,.bl _=>true | .bl _,.non=>true | .non,.str _=>true | .str _,.non=>true
 | .int _,.int _=>true | .bl _,.bl _=>true | .str _,.str _=>true | .byt _,.byt _=>true
 | .int _,.str _=>true | .str _,.int _=>true | .bl _,.str _=>true | .str _,.bl _=>true
 | _,_=>false
def rEq:R2:=λx y H Q=>scal x y=true/\Y34 (Y0R x y)
def rNe:R2:=λx y H Q=>scal x y=true/\Y34 (! Y0R x y)
def xS{i j:Int}:Y0R (V.int i) (V.int j)=(i == j):=by
 rw[Bool.eq_iff_iff];simp
def ZU{i j:Bool}:Y0R (V.bl i) (V.bl j)=(i == j):=by
 rw[Bool.eq_iff_iff];simp
def RK{i j:Str}:Y0R (V.str i) (V.str j)=(i == j):=by
 rw[Bool.eq_iff_iff];simp
def RM{i j:Array UInt8}:Y0R (V.byt i) (V.byt j)=(i.toList == j.toList):=by
 rw[Bool.eq_iff_iff];cases i;cases j;simp
section
variable{X:Cx}{a b c:Expr}{ta tb tc:TE}{pos:Pos}
def fW{pins:Ad}{σ:St}{H:Hp}{s:Shared}{Q:VK}{k k':Bool}(I:Y5)(q:Y34 k)(e:k=k'):EP X pins σ Q (.bool k') s:=by
 subst e;exact Y0O (.bl k) H I q
def nP:Y44 .Eq rEq:=by
 intro g s σ H x y v u Q I e a h;obtain⟨d,q⟩:=h;cases x with
 | non =>
  cases e;cases y with
  | non=>cases a;exact PySem.EqNone.eq_none_none (Y0U (by simp))
  | bl j=>cases a;exact PySem.EqNone.eq_none_bool (Y0U (by simp))
  | int j=>obtain⟨c,rfl⟩:=a;exact PySem.EqNone.eq_none_int (Y0U (by simp))
  | str j=>obtain⟨c,rfl⟩:=a;exact PySem.EqNone.eq_none_str (Y0U (by simp))
  | _=>exact Y2m (show false=true from d)
 | bl i =>
  cases e;cases y with
  | non=>cases a;exact PySem.EqNone.eq_bool_none (Y0U (by simp))
  | bl j=>cases a;exact eq_bool (Y0U ZU)
  | str j=>obtain⟨c,rfl⟩:=a;exact PySem.EqMixed.eq_bool_str (Y0U (by simp))
  | _=>exact Y2m (show false=true from d)
 | int i =>
  obtain⟨t,rfl⟩:=e;cases y with
  | non=>cases a;exact PySem.EqNone.eq_int_none (Y0U (by simp))
  | int j=>obtain⟨c,rfl⟩:=a;exact eq_int (Y0U xS)
  | str j=>obtain⟨c,rfl⟩:=a;exact PySem.EqMixed.eq_int_str (Y0U (by simp))
  | _=>exact Y2m (show false=true from d)
 | str i =>
  obtain⟨t,rfl⟩:=e;cases y with
  | non=>cases a;exact PySem.EqNone.eq_str_none (Y0U (by simp))
  | bl j=>cases a;exact PySem.EqMixed.eq_str_bool (Y0U (by simp))
  | int j=>obtain⟨c,rfl⟩:=a;exact PySem.EqMixed.eq_str_int (Y0U (by simp))
  | str j=>obtain⟨c,rfl⟩:=a;exact eq_str (Y0U RK)
  | _=>exact Y2m (show false=true from d)
 | byt i =>
  obtain⟨t,rfl⟩:=e;cases y with
  | byt j=>obtain⟨c,rfl⟩:=a;exact PySem.W.eq_bytes (Y0U RM)
  | _=>exact Y2m (show false=true from d)
 | _=>cases y <;> exact Y2m (show false=true from d)
def aCY:Y44 .NotEq rNe:=by
 intro g s σ H x y v u Q I e a h;obtain⟨d,q⟩:=h;cases x with
 | non =>
  cases e;cases y with
  | non=>cases a;exact PySem.EqNone.ne_none_none (Y0U (by simp))
  | bl j=>cases a;exact PySem.EqNone.ne_none_bool (Y0U (by simp))
  | int j=>obtain⟨c,rfl⟩:=a;exact PySem.EqNone.ne_none_int (Y0U (by simp))
  | str j=>obtain⟨c,rfl⟩:=a;exact PySem.EqNone.ne_none_str (Y0U (by simp))
  | _=>exact Y2m (show false=true from d)
 | bl i =>
  cases e;cases y with
  | non=>cases a;exact PySem.EqNone.ne_bool_none (Y0U (by simp))
  | bl j=>cases a;exact ne_bool (Yet not ZU)
  | str j=>obtain⟨c,rfl⟩:=a;exact PySem.EqMixed.ne_bool_str (Y0U (by simp))
  | _=>exact Y2m (show false=true from d)
 | int i =>
  obtain⟨t,rfl⟩:=e;cases y with
  | non=>cases a;exact PySem.EqNone.ne_int_none (Y0U (by simp))
  | int j=>obtain⟨c,rfl⟩:=a;exact ne_int (Yet not xS)
  | str j=>obtain⟨c,rfl⟩:=a;exact PySem.EqMixed.ne_int_str (Y0U (by simp))
  | _=>exact Y2m (show false=true from d)
 | str i =>
  obtain⟨t,rfl⟩:=e;cases y with
  | non=>cases a;exact PySem.EqNone.ne_str_none (Y0U (by simp))
  | bl j=>cases a;exact PySem.EqMixed.ne_str_bool (Y0U (by simp))
  | int j=>obtain⟨c,rfl⟩:=a;exact PySem.EqMixed.ne_str_int (Y0U (by simp))
  | str j=>obtain⟨c,rfl⟩:=a;exact ne_str (Yet not RK)
  | _=>exact Y2m (show false=true from d)
 | byt i =>
  obtain⟨t,rfl⟩:=e;cases y with
  | byt j=>obtain⟨c,rfl⟩:=a;exact PySem.W.ne_bytes (Yet not RM)
  | _=>exact Y2m (show false=true from d)
 | _=>cases y <;> exact Y2m (show false=true from d)
def vK:Y44 .Lt (rI0 (YeN (Y22 i j))):=Yfp (lt_int q)
def zO:Y44 .Gt (rI0 (YeN (Y22 j i))):=Yfp (gt_int q)
def aCZ:Y44 .GtE (rI0 (YeN (decide (j<=i)))):=Yfp (ge_int q)
def CF:Y44 .Is (λx y H Q=>y=.non/\Y34 (Y0R x .non)):=by
 intro c s σ H x y v u Q I a d h;obtain⟨rfl,q⟩:=h;cases d;refine is_none_gen (Y0U ?_);cases x <;> first
  | (cases a;rfl)
  | (obtain⟨t,rfl⟩:=a;rfl)
def aBN:Y44 .IsNot (λx y H Q=>y=.non/\Y34 (! Y0R x .non)):=by
 intro c s σ H x y v u Q I a d h;obtain⟨rfl,q⟩:=h;cases d;refine isnot_none_gen (Y0U ?_);cases x <;> first
  | (cases a;rfl)
  | (obtain⟨t,rfl⟩:=a;rfl)
def nomark(b:Expr){op:CmpOp}(h:op ≠ .In:=by decide)(h2:op ≠ .NotIn:=by decide):Yc7 op b:=by
 have a:Yx (op == CmpOp.In):=by cases op <;> first | rfl | exact Y7L h
 have c:Yx (op == CmpOp.NotIn):=by cases op <;> first | rfl | exact Y7L h2
 cases b <;> simp[behindInMarks,a,c]
def aBI{op:CmpOp}{r:R2}(ho:Y44 op r)(ha:Y7s a)(hb:Yz b tb)(hm:Yc7 op b):Yz (Ybm [op] [b] pos) (tOp r ta tb):=by
 intro c s σ H Q I h;exact wpAny_Compare1 (Yfo ha hb I h (ho c g σ H2 x y v u Q I2 d e q)) hm
def aCM(t:TE):TT:=Y5g (λx H'=>∃k,x=.bl k/\Q k H')
def aBw{op:CmpOp}{r:R2}(ho:Y44 op r)(ha:Y7s a)(hb:Yz b tb)(hm:Yc7 op b):PT X (Ybm [op] [b] pos) (aCM (tOp r ta tb)):=by
 intro d s σ H Q I h;refine wpAny_isTrue_Compare1 (thn (ha d s σ H _ I h) λv l ⟨x,H1,I1,w,m⟩=>thn (hb d l σ H1 _ I1 m) λu g ⟨y,H2,I2,j,n⟩ =>
  thn (ho d g σ H2 x y v u _ I2 w j n) λc A ⟨z,H3,I3,i,k,e,p⟩=>?_) hm
 subst e;cases i;exact wpAny_truthy_bool ⟨H3,I3,p⟩
def HH:(sizeLine:Nat)<2^63:=by rw[sizeLine_eq];decide
def oH{x:V}{us:Ag}(r:Y5z [x]):∃u,us=[u]/\fJ x u:=by
 cases r with
 | cons r1 r2=>cases r2;exact Y7 r1
def aAd:Y45 "abs" (λxs H Q=>∃i,xs=[Y1d]/\Y1S (if i<0 then -i else i)):=by
 intro a s σ H xs c Q I r h;obtain⟨i,rfl,q⟩:=h;obtain⟨u,rfl,t,rfl⟩:=oH r;exact call_abs_int λu d=>⟨.int (if i<0 then -i else i),H,Y1b,Y1N,q⟩
def FQ:Ybi X "int" (λxs H Q=>(∃i,xs=[Y1d]/\Y1S i)\/∃k,xs=[.bl k]/\Y1S (if k then 1 else 0)):=by
 intro a s σ H xs d Q I r h;rcases h with⟨i,rfl,q⟩ | ⟨k,rfl,q⟩
 ·obtain⟨u,rfl,t,rfl⟩:=oH r;exact call_int_int ⟨Y1d,H,I,Y1N,q⟩
 ·obtain⟨u,rfl,c⟩:=oH r;cases c;exact call_int_bool ⟨.int (if k then 1 else 0),H,Y1b,Y1N,q⟩
def aHe(K:Aa)(x:V)(H:Hp)(n:Nat):Prop :=
 match x with
 | .str y=>y.length<=sizeLine/\n=y.length
 | .byt y=>y.size<=sizeLine/\n=y.size
 | .ref p=>(∃xs,gE K H p xs/\n=xs.length)\/∃xs,jQ K H p xs/\n=xs.length
 | _=>False
def aAc:Y45 "len" (λxs H Q=>∃x n,xs=[x]/\aHe X.K x H n/\Y1S n):=by
 intro m s σ H xs B Q I r h;obtain⟨x,n,rfl,e,q⟩:=h;obtain⟨u,rfl,g⟩:=oH r;have A:sizeLine=16777216:=sizeLine_eq;cases x with
 | str y =>
  obtain⟨t,rfl⟩:=g;obtain⟨w,c⟩:Y0D y.length/\n=y.length:=e;subst c;exact len_str Oo ⟨.int _,H,Y1b,Y1N,q⟩
 | byt y =>
  obtain⟨t,rfl⟩:=g;obtain⟨w,c⟩:Y0D y.size/\n=y.size:=e;subst c;exact PySem.W.len_bytes Oo ⟨.int _,H,Y1b,Y1N,q⟩
 | ref p =>
  cases g;have c:(∃xs,Y35 X.K H p/\Y4Q n)\/∃xs,Y47 X.K p/\Y4Q n:=e;rcases c with⟨xs,d,c⟩ | ⟨xs,d,c⟩
  ·subst c;obtain⟨i,j,l,z⟩:=I.list d;have a:=j.length;exact Calls.call_len_list l.isList (by simp only[bM];exact Oo) ⟨.int xs.length,H,Y1b,Y2i (by simp only[bM];rw[a]),q⟩
  ·subst c;obtain⟨i,j,l,z⟩:=I.tuple d;have a:=j.length;exact len_tuple l (by simp only[bM];exact Oo) ⟨.int xs.length,H,Y1b,Y2i (by simp only[bM];rw[a]),q⟩
 | _=>exact(show False from e).elim
end
structure OI(h:Heap)(x dx C:Addr)(mA:Y0C):Prop where
 obj:h.get? x=some (YdN dx)
 ns:h.Ns1 dx mA
 ne:dx≠x
def TV{h:Heap}{dx:Addr}{mA:Y0C}(n:h.Ns1 dx mA):∃od,h.get? dx=some od/\∀name,PySem.W.lookIn name od=some (mA name):=by
 obtain⟨o,d,p,l,hd,j,_,m⟩:=n;refine Y1B l (λname=>?_);have e:=m name;unfold nsFind findBy at e;rw[<-Array.find?_toList]at e;unfold PySem.W.lookIn;rw[hd];dsimp only;split
 ·rename_i y q
  rw[q]at e;exact YaO e
 ·rename_i q
  rw[q]at e;have a:Yx (d.toList.any (·.refKey)):=by
   rw[List.any_eq_false];intro y i;obtain⟨z,t,c⟩:=j y (Array.mem_toList_iff.mp i);simp[DictEntry.refKey,c]
  have g:¬d.toList.any (·.refKey)=true:=by rw[a];exact cE
  rw[if_neg g];exact YaO e
def OI.look{h:Heap}{x dx C:Addr}{mA:Y0C}(I:OI h x dx C mA):∃od,PySem.W.InstAt h x (YdN dx) C (some od)/\∀name,PySem.W.lookIn name od=some (mA name) :=
 let ⟨od,ho,hl⟩:=TV I.ns
 ⟨od,Y3E I.obj rfl ho,hl⟩
section
variable{prog:Program}{w:World}{A:Around}{E:Yd}{s:Shared}{K:Aa}{x dx C f:Addr}{mA:Y0C}{name:Str}{v:Value}
def aB4{expr:Bool}{Q:Yd}(X:YaY)(I:OI s.heap x dx C mA)(hg:YaA C name=true)(hh:Yc3 C=true)
  (ha:Y6F K C name=Y19) (hv:mA name=Yy) (hv':PySem.W.handedIn v=true) (h:Q v { s with toks:=s.toks+1 }) :
  Y26 (getAttr (Y24) name expr):=by
 obtain⟨c,J,a⟩:=I.look;exact PySem.W.get_value X J (Yf5).1 (PySem.W.findObj_own hh ha rfl (by rw[a,hv])) hv' h
def ZI{pl:Sem Bool}{Q:Y1j (Value × Ag)}(X:YaY)(I:OI s.heap x dx C mA)(hg:YaA C name=true)
  (hf:Y6F K C name=Y4e f) (ht:Y9p K f=true) (hv:mA name=none) (h:Q (.ref f,[Y24]) s) :
  Y26 (getMethod (Y24) name pl):=by
 obtain⟨c,J,a⟩:=I.look;exact PySem.W.method_fn X J (Yf5).1 (Yf5).2 hf (beq_iff_eq.mp ht) (by show(PySem.W.lookIn name c).map (·.isSome)=some false;rw[a,hv];rfl) h
def aBb{ns:Ah}{Q:YbK}(X:YaY)(I:OI s.heap x dx C mA)
  (hs:Y6F K C "__setattr__" = some (Y8y "object.__setattr__")) (hp:YdC C=true) (ht:PySem.W.takerIn K C name=Y19) (hh:Yc3 C=true)
  (hw:PySem.Within mA ns) (hsz:Y0D ns.length)
  (h:∀h',OI h' x dx C (λy=>if y=name then Yy else mA y)->Yax dx h'->Q () { s with heap:=h',toks:=s.toks+2 }) :
  Y26 (setAttr (Y24) name v):=by
 obtain⟨D,J,u⟩:=I.look;refine PySem.W.set_plain X J hs (PySem.W.osa_open (s:={ s with toks:=s.toks+1 }) (r:=none) X J hp ht λb=>?_);obtain⟨z,l,g⟩:=PySem.W.any_some hh;have p:Y2F x ⟨.ref C,some dx,.plain,#[]⟩:=I.obj;refine Y3B (YbR (wpAny_loadPart p (wpAny_bind (PySem.W.Looks.here (s:={ s with toks:=s.toks+1 }) (PySem.W.looks_clsIn X l) ?_))));rw[g];refine wpAny_pure (a:=some dx) (Y3B Y5m);refine wpAny_nsSet1 (s:={ s with toks:=s.toks+1 }) I.ns λh' c d=>?_;obtain⟨B,m,n,j,i,e⟩:=c.count (PySem.Within.cons name v hw);refine wpAny_bind (wpAny_lookBehind j (by rw[i];exact pastItsLine_dict (aL e (by rw[cI];exact Oo))) ?_);exact wpAny_pure (h _ ⟨(d.2 _ (Ne.symm I.ne)).trans I.obj,c,I.ne⟩ d)
def YM{R:Y1j Result}{vs:Ag}{kw:Y9W}(X:YaY)(hm:YdO C=true)
  (hi:Y6F K C "__init__" = Y4e f) (hf:PySem.W.typeIn K (.ref f)=some (.type "function"))
  (h:codeAny (model prog w) (Yc6 "type.__call__" ⟨.ref C::vs,kw⟩) (YaW f ⟨.ref (Y25)::vs,kw⟩) (PySem.W.InitBack (Y25) R)
   { s with heap:=(s.heap.push PySem.W.emptyDict).push (PySem.W.instObj C s.heap.objs.size) }) :
  YaT prog w A (YaW C ⟨vs,kw⟩) R s:=by
 obtain⟨a,g,d,t,c⟩:=s;exact PySem.W.make_core (PySem.W.makes_of X hm) (PySem.W.looks_findIn X hi) (λself=>PySem.W.bind_fn X self hf) (Y62) h
end
def eP(f:Str)(v:V):Y4x->Y4x
 | []=>[(f,v)]
 | (g,x)::r=>if g=f then(g,v)::r else(g,x)::eP f v r
theorem fE(f g:Str)(v:V):∀fs:List (Str × V),(eP f v fs).lookup g=if g=f then Yy else fs.lookup g
 | []=>by
  show List.lookup g [(f,v)]=_;by_cases h:g=f
  ·have hb:(g == f)=true:=beq_iff_eq.mpr h;simp only[List.lookup,hb,if_pos h]
  ·have hb:(g == f)=false:=beq_eq_false_iff_ne.mpr h;simp only[List.lookup,hb,if_neg h]
 | (k,x)::r=>by
  have a:=fE f g v r;rw[show eP f v ((k,x)::r)=(if k=f then(k,v)::r else(k,x)::eP f v r)from rfl];by_cases hk:k=f
  ·rw[if_pos hk];by_cases h:g=k
   ·have hb:(g == k)=true:=beq_iff_eq.mpr h;simp only[List.lookup,hb,if_pos (h.trans hk)]
   ·have hb:(g == k)=false:=beq_eq_false_iff_ne.mpr h;simp only[List.lookup,hb,if_neg (λe:g=f=>h (e.trans hk.symm))]
  ·rw[if_neg hk];by_cases h:g=k
   ·have hb:(g == k)=true:=beq_iff_eq.mpr h;simp only[List.lookup,hb,if_neg (λe:g=f=>hk (h.symm.trans e))]
   ·have hb:(g == k)=false:=beq_eq_false_iff_ne.mpr h;simp only[List.lookup,hb];exact a
theorem yP(f:Str)(v:V):∀fs:List (Str × V),f∈(eP f v fs).map (·.1)/\∀g,Yd0 g (·.1)->g∈(eP f v fs).map (·.1)
 | []=>⟨by simp[eP],λg h=>by simp at h⟩
 | (k,x)::r=>by
  obtain⟨i1,i2⟩:=yP f v r;rw[show eP f v ((k,x)::r)=(if k=f then(k,v)::r else(k,x)::eP f v r)from rfl];by_cases hk:k=f
  ·rw[if_pos hk];subst hk;exact⟨by simp,λg h=>by simpa using h⟩
  ·rw[if_neg hk];refine⟨?_,λg h=>?_⟩
   ·rw[bE];exact aY _ i1
   ·rw[bE]at h ⊢;rcases bK.mp h with e | e
    ·exact bK.mpr (.inl e)
    ·exact aY _ (i2 g e)
theorem lL(f:Str)(v:V):∀fs:List (Str × V),(eP f v fs).length<=fs.length+1
 | []=>by simp[eP]
 | (k,x)::r=>by
  have ih:=lL f v r;rw[show eP f v ((k,x)::r)=(if k=f then(k,v)::r else(k,x)::eP f v r)from rfl];by_cases hk:k=f
  ·rw[if_pos hk,cI,cI];exact Oo
  ·rw[if_neg hk,cI,cI];exact Oo
def tJ.some_of{v:V}{o:Y5h}(r:tJ (Yy) o):∃u,o=Yp/\Y3W:=by
 cases o with
 | none=>exact(show False from r).elim
 | some u=>exact Y04 u r
def tJ.none_of{o:Y5h}(r:tJ none o):o=none:=by
 cases o with
 | none=>rfl
 | some u=>exact(show False from r).elim
def UG{v:V}{u:Value}(r:Y3W):PySem.W.handedIn u=true:=by
 cases v with
 | non=>cases(show u=Value.none from r);rfl
 | bl b=>cases(show u=Value.bool b from r);rfl
 | int i=>obtain⟨t,e⟩:=(show ∃t,u=Value.int i t from r);cases e;rfl
 | str x=>obtain⟨t,e⟩:=(show ∃t,u=Value.str x t from r);cases e;rfl
 | byt b=>obtain⟨t,e⟩:=(show ∃t,u=Value.bytes b t from r);cases e;rfl
 | flt b=>obtain⟨t,e⟩:=(show ∃t,u=Value.float b t from r);cases e;rfl
 | ref a=>cases(show u=Value.ref a from r);rfl
 | ty n=>cases(show u=Value.type n from r);rfl
section
variable{P:Program}{w:World}{H H':Hp}{h h':Heap}{a C dx:Addr}{fs fs':Y4x}
def HN(hok:tK P w H h)(e:H a=Y7m):∃mA,OI h a dx C mA/\(∀f,tJ (Ycs) (mA f))/\PySem.Within mA (fs.map (·.1))/\Yb9 1000/\H dx=Y7J a:=by
 obtain⟨d,z,ne,c,mA,n,r,q⟩:=(show hV P w H h a (.ins C dx fs)from hok a _ e);exact⟨mA,⟨c,n,ne⟩,r,q,z,d⟩
end
structure Cls(K:Aa)(C:Addr):Prop where
 pg:YaA C Str.empty=true
 hd:Yc3 C=true
 po:YdC C=true
 sa:Y6F K C "__setattr__" = some (Y8y "object.__setattr__")
def Cls.get{K:Aa}{C:Addr}(c:Cls K C)(f:Str):YaA C f=true:=c.pg
def oG(K:Aa)(C:Addr)(f:Str):Prop:=Y6F K C f=Y19
def oG.taker{K:Aa}{C:Addr}{f:Str}(n:oG K C f):PySem.W.takerIn K C f=Y19:=by
 unfold PySem.W.takerIn;rw[show PySem.W.findIn K (.ref C) f=some none from n]
 rfl
structure aFQ(K:Aa)(C:Addr)(m:Str)(f:Addr):Prop where
 at_:Y6F K C m=Y4e f
 fn:Y9p K f=true
 kp:Y9l K f=true
section
variable{X:Cx}{pins:Ad}{σ:St}{H:Hp}{s:Shared}{a C dx:Addr}{fs:Y4x}{f:Str}{v:V}{A:Around}{E:Yd}
def NP{b:Bool}{Q:Yd}(I:Y5)(e:H a=Y7m)(c:Cls X.K C)(n:oG X.K C f)(l:Ycs=Yy)
  (h:∀u s',Y5k s'->Y3W->Q u s'):Y7y A (getAttr (Yn) f b) Q E s:=by
 obtain⟨mA,O,r,_,_,_⟩:=HN I.hok e;obtain⟨u,d,ru⟩:=Yfd (mA f) (by rw[<-l];exact r f);exact aB4 I.kIn O (c.get f) c.hd n d (UG ru) (h u _ (Y1b) ru)
def NO{m:Str}{g:Addr}{pl:Sem Bool}{Q:Y1j (Value × Ag)}(I:Y5)(e:H a=Y7m)(c:Cls X.K C)(k:aFQ X.K C m g)(l:fs.lookup m=none)
  (h:Q (.ref g,Y27) s):Y7y A (getMethod (Yn) m pl) Q E s:=by
 obtain⟨mA,O,r,_,_,_⟩:=HN I.hok e;have d:mA m=none:=tJ.none_of (by rw[<-l];exact r m);exact ZI I.kIn O (c.get m) k.at_ k.fn d h
def MR{y:V}{u:Value}{Q:YbK}(I:Y5)(e:H a=Y7m)(c:Cls X.K C)(n:oG X.K C f)(hl:fs.length<1000)(ry:Y3q)
  (h:∀s',Y49 (Y3s (.ins C dx (eP f y fs))) s'->Q () s'):Y7y A (setAttr (Yn) f u) Q E s:=by
 obtain⟨mA,O,r,i,_,d⟩:=HN I.hok e;have B:Y0D ((fs.map (·.1)).length):=by rw[aA,sizeLine_eq];exact Oo
 refine aBb I.kIn O c.sa c.po n.taker c.hd i B λp O' m=>h _ ?_;have hd:∃o,p.get? dx=Yb:=let ⟨o,_,_,e',_⟩:=O'.ns;⟨o,e'⟩;refine I.write (x:=a) (e:=dx) (by rw[e];exact True.intro) (.inr d) (λb q l z=>(m.2 b l).trans z) hd ⟨by rw[fF O.ne];exact d,?_,O.ne,O'.obj,_,O'.ns,λg=>?_,λg j=>?_⟩
 ·have:=lL f y fs;exact Oo
 ·show tJ ((eP f y fs).lookup g) (if g=f then Yp else mA g);rw[fE];by_cases q:g=f
  ·rw[Y5A,Y5A];exact ry
  ·rw[Y2D,Y2D];exact r g
 ·by_cases q:g=f
  ·rw[q];exact(yP f y fs).1
  ·refine(yP f y fs).2 g (i g λz=>j ?_);show(if g=f then Yp else mA g)=none;rw[Y2D];exact z
def dA.made(I:Y5):dA X pins σ (Y8Q (Y3f s.heap.objs.size (.own (Y25))) Y25 C s.heap.objs.size [])
  { s with heap:=(s.heap.push PySem.W.emptyDict).push (PySem.W.instObj C s.heap.objs.size) }:=by
 have c:(s.heap.push PySem.W.emptyDict).get? s.heap.objs.size=some PySem.W.emptyDict:=bF s.heap rfl;have d:((s.heap.push PySem.W.emptyDict).push (PySem.W.instObj C s.heap.objs.size)).get? (Y25)=some (YdN s.heap.objs.size):=by
  have:=bF (s.heap.push PySem.W.emptyDict) (o:=YdN s.heap.objs.size) rfl
  rwa [gY]at this
 have i:(s.heap.push PySem.W.emptyDict).Ns s.heap.objs.size (Y9N):=⟨PySem.W.emptyDict,#[],_,c,rfl,(λe g=>absurd g (by simp)),λ_=>rfl⟩;have I1:=YeW (.own (Y25)) (s.heap.push PySem.W.emptyDict) s.toks (λb u q=>Y1R q) Yq (Y2i c);refine I1.laid (a:=Y25) (o:=.ins C s.heap.objs.size []) (t':=s.toks) (λb u q=>Y1R q) (Nat.le_of_eq (gY _ _)) ?_;have ne:YdM Y25:=dJ (Yft);refine⟨by rw[fF ne,bP],Y0H,ne,d,Y9N,(Heap.Ns1.of_empty i).at λo q=>Y1R q,λ_=>True.intro,λy h=>Y7L h⟩
def aCA{prog:Program}{w:World}{env:Env}{e:Expr}{f:Str}{pos:Pos}{s:Shared}{Q:Yd}(hb:attributeBase e f env (Y21 e)=Y21 e)
  (h:wpAny (model prog w) A (Y21 e) (λo s₁=>wpAny (model prog w) A (getAttr o f true) Q E s₁) E s):Y26 (Y21 (.Attribute e f pos)) :=
 Attribute_any_ h (by rw[arm_eval_Attribute,hb])
end
def aHH(K:Aa)(ta:TE)(f:Str):TE:=Ycx σ H (λx H1=>∃a C dx fs v,x=Yn/\H1 a=Y7m/\Cls K C/\oG K C f/\Ycs=Yy/\Q v H1)
def aGm(K:Aa)(ta tv:TE)(f:Str):TS:=λD σ H=>tv σ H λy H1=>ta σ H1 λx H2=>∃a C dx fs,x=Yn/\H2 a=Y7m/\Cls K C/\oG K C f/\fs.length<1000 /\
 Y8z (Y8Q H2 a C dx (eP f y fs))
section
variable{X:Cx}{o e value:Expr}{f:Str}{pos pos' tpos:Pos}{ta tv:TE}
def aEY(he:Y7s e)(hb:attributeBase e f X.env Y1f=Y1f):Yz (.Attribute e f pos) (aHH X.K ta f):=by
 intro d s σ H Q I h;refine aCA hb (thn (he d s σ H _ I h) λu r ⟨x,H1,I1,i,a,C,w,fs,v,j,g,c,n,l,q⟩=>?_);subst j;obtain rfl:u=Y7I:=i;exact NP I1 g c n l λp m I2 ru=>⟨v,H1,I2,ru,q⟩
def aEN(ha:Y7s o)(hv:Yz value tv)(hs:Y9T value (Ydd f pos')=Y4M):PS X (Y68 [Ydd f pos'] value) (aGm X.K ta tv f):=by
 intro d s σ H D I h;refine plainObj_wpAny_Assign_Attribute (thn (hv d s σ H _ I h) λu g ⟨y,H1,I1,j,q⟩=>thn (ha d g σ H1 _ I1 q) λm w ⟨x,H2,I2,i,a,C,A,fs,r,e,c,n,l,p⟩=>?_) hs;subst r;obtain rfl:m=Y7I:=i;exact MR I2 e c n l j λz I3=>⟨σ,_,I3,p⟩
end
section
variable{X:Cx}{pins:Ad}{σ:St}{H:Hp}{s:Shared}{A:Around}{E:Yd}{Q:Yd}{c:Value}{b:Bool}
end
structure iZ(k:Nat)(A:Around):Prop where
 hd:Y6W
 dp:A.depth+3*k+5<recursionLimit
 un:Y7a (16*k)+200<cLine
 gd:A.guards=some []
def iZ.mono{j k:Nat}{A:Around}(r:iZ k A)(h:j<=k):iZ j A:=⟨r.hd,by have:=r.dp;exact Oo,by have:=r.un;exact Oo,r.gd⟩
theorem iZ.deeper{k:Nat}{A:Around}(r:iZ (k+1) A)(env:Env):iZ k (A.deeper env) :=
 ⟨r.hd,by have:=r.dp;show A.depth+1+3*k+5<_;exact Oo,by have:=r.un;show Y7a 3+16*k+200<_;exact Oo,r.gd⟩
def NK{A:Around}{C:Addr}{us:Ag}{kw:Y9W}:(Yc6 "type.__call__" ⟨.ref C::us,kw⟩).depth=A.depth+1:=by
 first | rfl | simp[Around.under,Code.weight,Code.isCreation,Code.isGuard,Code.isCaller,Code.frames,Code.isFrame,guardIds]
def NJ{A:Around}{C:Addr}{us:Ag}{kw:Y9W}:(Yc6 "type.__call__" ⟨.ref C::us,kw⟩).units=Y7a 1:=by
 first | rfl | simp[Around.under,Code.cUnits,Code.frames,Code.isFrame]
def iZ.make{k:Nat}{A:Around}(r:iZ (k+1) A)(C:Addr)(us:Ag)(kw:Y9W):iZ k (Yc6 "type.__call__" ⟨.ref C::us,kw⟩) :=
 ⟨r.hd,by have:=r.dp;rw[NK];exact Oo,by have:=r.un;rw[NJ];exact Oo,by first | exact r.gd | (simpa[Around.under,Code.guards,Code.isGuard,guardIds,pushGuards]using r.gd)⟩
theorem iZ.depth{k:Nat}{A:Around}(r:iZ k A):A.depth<recursionLimit:=by have:=r.dp;exact Oo
theorem iZ.units{k:Nat}{A:Around}(r:iZ k A):Y7a 64<cLine:=by have:=r.un;exact Oo
def MK:TA:=λ_ H Q=>Q [] H
def qI(ta:TE)(tr:TA):TA:=Ycx σ H (λx H1=>tr σ H1 λxs H2=>Q (x::xs) H2)
section
variable{X:Cx}{e:Expr}{es:Y0f}{te:TE}{t:TA}{pos:Pos}
def pa_nil:PA X [] MK:=λ_ _ _ _ H Q I h=>Calls.spliced_nil ⟨[],H,I,.nil,h⟩
def aBL(ha:Y5d te)(hr:PA X es t)(hs:Y3V=(false,Y1f)::Y2W:=by rfl):PA X (e::es) (qI te t):=by
 intro pos a s σ H Q I h;rw[hs];show Y3t (spliced ((false,Y1f)::backTo pos (Y2W)));refine Yf6 (ha a s σ H _ I h) (λu d ⟨x,H1,I1,l,g⟩=>?_);exact thn (hr pos a d σ H1 _ I1 g) λn m ⟨j,H2,I2,c,i⟩=>⟨x::j,H2,I2,.cons l c,i⟩
def aHE(t:TA):TE:=Y5g (λxs H1=>Y5n/\∀p,H1 p=none->Y4D (upd H1 p (.tup xs)))
def aHF(t:TA):TE:=Y5g (λxs H1=>Y5n/\∀p,H1 p=none->Y4D (Y5j H1 p xs))
def aEW{x1}(h:PA X es t):Yz (.Tuple es x1 pos) (aHE t):=by
 intro a s σ H Q I g;refine wpAny_Tuple_spliced (thn (h pos a s σ H _ I g) λj c ⟨i,H1,I1,r,z,q⟩=>Y0p (by rw[<-r.length];exact z));have d:H1 c.heap.objs.size=none:=Yfk;refine Y0O Ydq (upd H1 c.heap.objs.size (.tup i)) (YfD c.toks (λb u e=>Y3U) ?_) (q _ d);exact⟨⟨z,_,Y1n,rfl⟩,j,r,Y3y Y1n _ rfl⟩
def aEX(h:PA X es t):Yz (.List es pos) (aHF t):=by
 intro a s σ H Q I g;refine wpAny_List_spliced (thn (h pos a s σ H _ I g) λj c ⟨i,H1,I1,r,z,q⟩=>Y0p (by rw[<-r.length];exact z));have d:H1 c.heap.objs.size=none:=Yfk;refine Y0O Ydq (Y5j H1 c.heap.objs.size i) (YfD c.toks (λb u e=>Y3U) ?_) (q _ d);exact⟨z,j,0,r,Y1n⟩
end
abbrev Sp:=Ym
abbrev VH:=Y3d->Hp->Shared->XK->Yd
structure OM(P:Program)(w:World)(K:Aa)(mg:Y0C)(base:Heap)(A:Around)(outer:Y3d)(s:Shared)(H:Hp):Prop where
 frames:A.frames=some outer
 mod:Mod K mg base
 bs:∀b o,base.get? b=Yb->Y28/\H b=none
 bsz:base.objs.size<=s.heap.objs.size
 funs:s.heap.FunFrames base outer
 frf:∀b∈frs outer,H b=none
 hok:tK P w H s.heap
 bare:AllBare s.gens
def CE(outer:Y3d)(P:Program)(w:World)(H:Hp)(s:Shared)(Q:VK)(u:Value)(s':Shared):Prop :=
 ∃v H',s'.os=s.os/\Yc9/\Un (frs outer) [] H H' s.heap s'.heap/\tK P w H' s'.heap/\Y3W/\Y1H
def CR(CX:VH)(outer:Y3d)(P:Program)(w:World)(H:Hp)(s:Shared)(Q:VK)(E:XK)(r:Result)(s':Shared):Prop :=
 match r with
 | .ok (.ret u)=>CE outer P w H s Q u s'
 | .ok _=>False
 | .error e=>CX outer H s E e s'
structure dP(P:Program)(w:World)(K:Aa)(mg:Y0C)(base:Heap)(CX:VH)(k:Nat)(f:Addr)(fd:FuncData)(ps:Ah)(sp:Sp):Prop where
 len:∀vs H Q E,sp vs H Q E->YaK
 run:∀(A:Around) (outer:Y3d) (s:Shared) (H:Hp) (args:Args) (us:Ag) (vs:Al) (Q:VK) (E:XK),iZ k A->OM P w K mg base A outer s H->Ybn s args Ybd->Y9c->sp vs H Q E ->
  YaT P w A (YaW f args) (CR CX outer P w H s Q E) s
def OM.make{P:Program}{w:World}{K:Aa}{mg:Y0C}{base:Heap}{A:Around}{outer:Y3d}{s:Shared}{H:Hp}(e:OM P w K mg base A outer s H)(C:Addr)(us:Ag)(kw:Y9W) :
  OM P w K mg base (Yc6 "type.__call__" ⟨.ref C::us,kw⟩) outer s H:=⟨by first | exact e.frames | (simpa[Around.under,Code.envs,Code.isFrame,pushEnvs]using e.frames),e.mod,e.bs,e.bsz,e.funs,e.frf,e.hok,e.bare⟩
section
variable{X:Cx}{pins:Ad}{σ:St}{H:Hp}{s s':Shared}
def dA.env0(I:Y5):OM X.prog X.w X.K X.mg X.base X.A X.stack s H :=
 ⟨I.ok.frames,I.ok.mod,I.bs,YcA I.sz,I.stack,I.stkFree,I.hok,I.bare⟩
def dA.after{Q:VK}{u:Value}(I:Y5)(h:CE X.stack X.prog X.w H s Q u s'):EP X pins σ Q u s':=by
 obtain⟨v,H',os,a,un,e,r,q⟩:=h;obtain⟨i,g,d,t,c⟩:=s';obtain rfl:c=s.os:=os;exact⟨v,H',I.call (h':=i) (g':=g) (d':=d) (t':=t) (ch:=[]) un e a (Yeh z (by simp)),r,q⟩
end
def zJ(sp:Sp)(dvs:Al)(E:XK)(t:TA):TE:=Y5g (λvs H1=>sp (vs++dvs) H1 Q E)
def aCP(C:Addr)(m:Str)(sp:Sp)(dvs:Al)(E:XK)(ta:TE)(t:TA):TE:=λσ H Q=>ta σ H λx H1=>∃a dx fs,x=Yn/\H1 a=Y7m/\fs.lookup m=none /\
 t σ H1 λvs H2=>sp (x::(vs++dvs)) H2 Q E
def aCQ(C:Addr)(sp:Sp)(dvs:Al)(E:XK)(t:TA):TE:=λσ H Q=>t σ H λvs H1=>∀x dx,H1 x=none->H1 dx=none->dx≠x ->
 sp (Y24::(vs++dvs)) (Y8Q (upd H1 dx (.own x)) x C dx []) (λv H2=>v=.non/\Y2x x H2) E
def uJ(K:Aa)(fd:FuncData)(ps:Ah)(ds:Ag):Prop :=
 ∀(s:Shared) (us:Ag),YaY->(us++ds).length=ps.length->Ybn s ⟨us,[]⟩ (ps.zip (us++ds))
def uJ.all{K:Aa}{fd:FuncData}{ps:Ah}(h:∀us:Ag,Y2T ps.length->bindArgs fd ⟨us,[]⟩=pure (Ybd)):uJ K fd ps []:=λs us _ a=>by
 rw[List.append_nil]at a ⊢;exact .of_eq (h us a)
def zH(CX:VH)(X:Cx)(E:XK):Prop:=∀(pins:Ad) (σ:St) (H:Hp) (s:Shared) (e:Value) (s':Shared),Y5->CX X.stack H s E e s'->X.xe e s'
section
variable{X:Cx}{CX:VH}{k:Nat}{f C:Addr}{fd:FuncData}{ps:Ah}{sp:Sp}{dvs:Al}{ds:Ag}{E:XK}{x m:Str}{p pos apos:Pos}{e o:Expr}{es:Y0f}{ta:TE}{t:TA}
def XE{pins:Ad}{σ:St}{H:Hp}{s:Shared}{Q:VK}{us:Ag}{vs:Al}(F:dP X.prog X.w X.K X.mg X.base CX k f fd ps sp)(hr:Y52 k)(hb:uJ X.K fd ps ds)(hd:eK dvs ds)(hx:zH CX X E)
  (I:Y5) (r:Y9c) (h:sp (vs++dvs) H Q E):Y79 (call (.ref f) us) X σ Q:=by
 have c:eK (vs++dvs) (us++ds):=r.append hd;have d:(us++ds).length=ps.length:=by rw[<-c.length];exact F.len _ _ _ _ h
 refine wpAny_call (codeAny_mono (F.run X.A X.stack s H ⟨us,[]⟩ (us++ds) (vs++dvs) Q E hr I.env0 (hb s us I.kIn d) c h) λr g a=>?_);cases r with
 | error e=>exact hx pins σ H s e g I a
 | ok fl =>
  cases fl with
  | ret u=>exact I.after a
  | next=>exact YaS
  | brk=>exact YaS
  | cont=>exact YaS
def aBJ(F:dP X.prog X.w X.K X.mg X.base CX k f fd ps sp)(hr:Y52 k)(hg:Y37)(hm:Y6x=Y3 f)(hk:Y9l X.K f=true)(hb:uJ X.K fd ps ds)(hd:eK dvs ds)(hx:zH CX X E)
  (ha:PA X (e::es) t) (hdb:Y1F ("__debug__" : Str):=by decide) (he:Y3V=(false,Y1f)::Y2W:=by rfl) (hpl:Yx ((backTo pos (starEach es X.env)).any (·.1)):=by rfl) :
  Yz (Y4v x (e::es) []) (zJ sp dvs E t):=by
 intro a s σ H Q I h;refine wpAny_Call_Name_kw (HM I hg hm ?_ hdb);refine PySem.W.callWith_K (h₀:=X.base) I.ok.mod.kin hk (thn (ha pos a s σ H _ I h) λc g ⟨d,H1,I1,r,q⟩=>Y0p I1.kIn) he hpl;exact XE F hr hb hd hx I1 r q
def aBD{pl:Sem Bool}(he:Y7s o)(c:Cls X.K C)(hm:aFQ X.K C m f)(F:dP X.prog X.w X.K X.mg X.base CX k f fd ps sp)(hr:Y52 k)(hb:uJ X.K fd ps ds)(hd:eK dvs ds)(hx:zH CX X E)(ha:PA X (e::es) t)
  (hst:Y3V=(false,Y1f)::Y2W:=by rfl) (hpl:Yx ((backTo pos (starEach es X.env)).any (·.1)):=by rfl)
  (ht:eval (.Call (.Attribute o m apos) (e::es) [] pos) X.env=(do
   let ov <-eval o X.env
   standAt apos.atName
   let (f,first) <-holding [ov] (getMethod ov m pl)
   callWith pos f first (backTo pos (starEach (e::es) X.env)) (backToKw pos (keywordEach [] X.env))):=by rfl) :
  Yz (Y94 m (e::es) [] pos) (aCP C m sp dvs E ta t):=by
 intro d s σ H Q I h;refine PySem.W.methodCall_KW (pl:=pl) (thn (he d s σ H _ I h) λu i ⟨x,H1,I1,j,a,z,fs,p,g,l,q⟩=>?_) ht;subst p;obtain rfl:u=Y7I:=j;refine NO I1 g c hm l (PySem.W.callWith_K (first:=Y27) (h₀:=X.base) I.ok.mod.kin hm.kp (thn (ha pos d i σ H1 _ I1 q) λus y ⟨vs,H2,I2,r,n⟩=>Y0p I2.kIn) hst hpl);exact XE (us:=Yn::us) (vs:=Yn::vs) F hr hb hd hx I2 (.cons rfl r) n
structure Mk(K:Aa)(C f:Addr):Prop where
 makes:YdO C=true
 init:Y6F K C "__init__" = Y4e f
 fn:Y9p K f=true
 kp:Y9l K C=true
def XD{pins:Ad}{σ:St}{H:Hp}{s:Shared}{Q:VK}{us:Ag}{vs:Al}(M:Mk X.K C f)(F:dP X.prog X.w X.K X.mg X.base CX k f fd ps sp)(hr:Y52 (k+1))(hb:uJ X.K fd ps ds)(hd:eK dvs ds)
  (hx:zH CX X E) (I:Y5) (r:Y9c)
  (h:∀x dx,H x=none->H dx=none->dx≠x->sp (Y24::(vs++dvs)) (Y8Q (Y3f dx (.own x)) x C dx []) (λv H2=>v=.non/\Y2x x H2) E) :
  Y79 (call (.ref C) us) X σ Q:=by
 have d:=h (Y25) s.heap.objs.size (I.hok.fresh (Nat.le_succ _)) (Y5S) (dJ (Yft));have I2:=dA.made (C:=C) I;have c:eK (V.ref (Y25)::(vs++dvs)) (Yca::(us++ds)):=.cons rfl (r.append hd);have j:(Yca::us++ds).length=ps.length:=by
  have e:=c.length;rw[F.len _ _ _ _ d]at e;exact e.symm
 refine wpAny_call (YM (f:=f) I.kIn M.makes M.init (beq_iff_eq.mp M.fn) (codeAny_mono (F.run _ X.stack _ _ ⟨Yca::us,[]⟩ (Yca::(us++ds)) _ _ E (hr.make C us [])
  (I2.env0.make C us []) (hb _ (Yca::us) I2.kIn j) c d) λr l a=>?_))
 cases r with
 | error e=>exact hx pins σ _ _ e l I2 a
 | ok fl =>
  cases fl with
  | ret u =>
   obtain⟨v,H',I3,rv,i,g⟩:=I2.after a;subst i;exact⟨rv,Y0O (V.ref (Y25)) H' I3 g⟩
  | next=>exact YaS
  | brk=>exact YaS
  | cont=>exact YaS
def aBE(M:Mk X.K C f)(F:dP X.prog X.w X.K X.mg X.base CX k f fd ps sp)(hr:Y52 (k+1))(hg:Y37)(hm:Y6x=Y3 C)(hb:uJ X.K fd ps ds)(hd:eK dvs ds)(hx:zH CX X E)
  (ha:PA X (e::es) t) (hdb:Y1F ("__debug__" : Str):=by decide) (he:Y3V=(false,Y1f)::Y2W:=by rfl) (hpl:Yx ((backTo pos (starEach es X.env)).any (·.1)):=by rfl) :
  Yz (Y4v x (e::es) []) (aCQ C sp dvs E t):=by
 intro a s σ H Q I h;refine wpAny_Call_Name_kw (HM I hg hm ?_ hdb);refine PySem.W.callWith_K (h₀:=X.base) I.ok.mod.kin M.kp (thn (ha pos a s σ H _ I h) λc g ⟨d,H1,I1,r,q⟩=>Y0p I1.kIn) he hpl;exact XD M F hr hb hd hx I1 r q
end
section
variable{X:Cx}{CX:VH}{k:Nat}{f C:Addr}{fd:FuncData}{ps ks:Ah}{sp:Sp}{E:XK}{x m:Str}{p pos apos kpos:Pos}{e o:Expr}{es:Y0f}{kws:List Keyword}{te ta:TE}{t tk:TA}{nm:Option Str}
variable{g:Ag->Ag->Ag}{gV:Al->Al->Al}
end
structure bV(N P:Ah)(sc:Scope):Prop where
 kind:sc.kind=.function:=by rfl
 co:Yx sc.isCoroutine:=by rfl
 gen:Yx sc.isGenerator:=by rfl
 nd:N.Nodup:=by exact Kk
 pre:N.take P.length=P:=by rfl
 par:∀x∈P,Y8w=Y2S\/Y8w=Y2d:=by exact Kk
 nofree:∀y∈sc.names,y.2 ≠ .free:=by exact Kk
theorem FS{kindOf:Str->YdP}{x:Str}:∀{binds:Y9W}{m:Y0C},(∀v,(x,v) ∉ binds)->bindL kindOf binds m x=m x
 | [],_,_=>rfl
 | (n,v)::r,m,h=>by
  unfold bindL;rw[FS λw hw=>h w (aY _ hw)];split
  ·have:x≠n:=by rintro rfl;exact h v aS
   simp[this]
  ·rfl
theorem FU{kindOf:Str->YdP}{x:Str}:∀{binds:Y9W}{m:Y0C},(∀v,(x,v) ∉ binds)->bindC kindOf binds m x=m x
 | [],_,_=>rfl
 | (n,v)::r,m,h=>by
  unfold bindC;rw[FU λw hw=>h w (aY _ hw)];split
  ·rfl
  ·have:x≠n:=by rintro rfl;exact h v aS
   simp[this]
theorem FT{kindOf:Str->YdP}{x:Str}{v:Value}:∀{P:Ah}{vs:Ag}{i:Nat}{m:Y0C},P.Nodup->P[i]?=Y8->vs[i]?=Yy->kindOf x=Y2S ->
  bindL kindOf (P.zip vs) m x=Yy
 | [],_,_,_,_,h,_,_=>by simp at h
 | _::_,[],_,_,_,_,h,_=>by simp at h
 | p::P,w::vs,0,m,nd,h1,h2,hk=>by
  simp at h1 h2;subst h1;subst h2;show bindL kindOf ((p,w)::P.zip vs) m p=_;unfold bindL;rw[FS λv hv=>(List.nodup_cons.mp nd).1 (List.of_mem_zip hv).1,if_pos hk];simp
 | p::P,w::vs,i+1,m,nd,h1,h2,hk=>by
  show bindL kindOf ((p,w)::P.zip vs) m x=_;unfold bindL;exact FT (i:=i) (List.nodup_cons.mp nd).2 (by simpa using h1) (by simpa using h2) hk
theorem FV{kindOf:Str->YdP}{x:Str}{v:Value}:∀{P:Ah}{vs:Ag}{i:Nat}{m:Y0C},P.Nodup->P[i]?=Y8->vs[i]?=Yy->kindOf x≠Y2S ->
  bindC kindOf (P.zip vs) m x=Yy
 | [],_,_,_,_,h,_,_=>by simp at h
 | _::_,[],_,_,_,_,h,_=>by simp at h
 | p::P,w::vs,0,m,nd,h1,h2,hk=>by
  simp at h1 h2;subst h1;subst h2;show bindC kindOf ((p,w)::P.zip vs) m p=_;unfold bindC;rw[FU λv hv=>(List.nodup_cons.mp nd).1 (List.of_mem_zip hv).1,if_neg hk];simp
 | p::P,w::vs,i+1,m,nd,h1,h2,hk=>by
  show bindC kindOf ((p,w)::P.zip vs) m x=_;unfold bindC;exact FV (i:=i) (List.nodup_cons.mp nd).2 (by simpa using h1) (by simpa using h2) hk
def start(N:Ah)(vs:Al):St:=(vs.map some) ++ (Yfx (N.length-vs.length))
def KR(CX:VH)(P:Program)(w:World)(K:Aa)(mg:Y0C)(base:Heap)(N:Ah)(qual:Str)(scope:Scope)(f:Addr)(cd:Value)(A:Around)(outer:Y3d)(s:Shared)(H:Hp)(E:XK):Cx where
 prog:=P
 w:=w
 K:=K
 mg:=mg
 base:=base
 A:=Ycl scope f cd
 N:=N
 s₀:=s
 H₀:=H
 env:=Yb6 scope f cd
 outer:=outer
 stack:=Yb6 scope f cd::outer
 ex:=[]
 calm:=true
 fn:=λ_=>true
 pn:=[]
 xe:=λe s'=>wpAny (model P w) (Ycl scope f cd) (leaving (Yb6 scope f cd) e) (λ_ s''=>CX outer H s E e s'') (λe' s''=>CX outer H s E e' s'') s'
def LG{sc:Scope}{n:Nat}{x:Str}(h:Y8w=Y2d):∃c,(cellsFrom n sc.names []).lookup x=Y1u:=by
 have q:=PySem.W.cellsFrom_some sc.names n [] (.inl h);exact Option.isSome_iff_exists.mp q
def UC{CX:VH}{P:Program}{w:World}{K:Aa}{mg:Y0C}{base:Heap}{N ps:Ah}{qual:Str}{scope:Scope}{f:Addr}{cd:Value}{A:Around}{outer:Y3d}{s s1:Shared}{H:Hp}{E:XK}{us:Ag}{vs:Al}
  (S:bV N ps scope) (hd:Y6W) (e0:OM P w K mg base A outer s H) (hl:YaK) (r:Y9c)
  (x:InCallC s s.heap.objs.size (bindL (Yb6 scope f cd).kindOf (Ybd) Y9N) (cellsFrom (Y25) scope.names []) (bindC (Yb6 scope f cd).kindOf (Ybd) Y9N) s1) :
  dA (KR CX P w K mg base N qual scope f cd A outer s H E) [] (YbD N) H s1:=by
 have J:ps.length<=N.length:=by have:=Y8v S.pre;rw[fP]at this;exact Oo
 obtain⟨C,L,rfl,D⟩:=x.done;have g:∀b:Addr,b ∉ (KR CX P w K mg base N qual scope f cd A outer s H E).ex:=Yeh (show b∈([]:List Addr)from z) (by simp);refine⟨⟨e0.mod,S.kind,rfl,rfl,Yq,λy z c C d=>?_,λy j=>?_,λy c _ h=>?_,λ_=>hd,Around.frames_deeper e0.frames,.inr Y73,Yeh z (g b),e0.bs,e0.bsz,λb _ _=>g b,Yeh z (g b),e0.funs,e0.frf⟩,
  rfl,e0.bare,Un.kept D,Y0K x.toInCall.ns (λi y v C d M=>?_),λy c h=>Y2i (x.cell y c h),e0.hok.fresh (Yq),λy c h=>?_,λp m=>absurd (show p∈([]:Ad)from m) (by simp),e0.hok.kept D,?_⟩
 ·exact name_of_addr x.apart (PySem.mem_of_lookup C) (PySem.mem_of_lookup d)
 ·have j:YbQ y Y2d\/YbQ y YeH:=j;rcases j with j | j
  ·exact LG j
  ·exact Y7L (S.nofree _ (PySem.mem_of_lookup j))
 ·exact Nat.le_of_lt (x.above y c (PySem.mem_of_lookup h))
 ·have B:i<vs.length:=by
   unfold start at d;by_cases B:i<vs.length
   ·exact B
   ·rw[cJ (by simpa using B)]at d;rw[List.getElem?_replicate]at d;split at d <;> cases d
  have I:vs[i]?=Yy:=by
   unfold start at d;rw[cQ (by simpa using B),aF]at d;cases e:vs[i]? with
   | none=>rw[e]at d;cases d
   | some a=>rw[e]at d;cases d;rfl
  obtain⟨u,G,rv⟩:=r.get I;have m:ps[i]?=Y09:=by
   rw[<-S.pre,List.getElem?_take_of_lt Oo];exact C
  have l:ps.Nodup:=by rw[<-S.pre];exact S.nd.sublist (List.take_sublist _ _)
  refine Y0j u rv;rcases S.par y (aE m)with k | k
  ·exact Y1Y k (FT l m G k)
  ·obtain⟨c,e⟩:=LG (n:=Y25) k;refine .inr (Y2v (.inl k) c e);have q:=x.cell y c e;rw[FV l m G (by show scope.names.lookup y≠_;rw[k];decide)]at q;exact q
 ·exact e0.hok.fresh (Nat.le_of_lt (x.above y c (PySem.mem_of_lookup h)))
 ·unfold start;show _=N.length;rw[aZ,aA,bH];exact Oo
def aGR{CX:VH}{P:Program}{w:World}{K:Aa}{mg:Y0C}{base:Heap}{k:Nat}{f:Addr}{name qual:Str}{params:Arguments}{body:Y5w}{scope:Scope}{dV kV doc pm cdv ct oc:Value}{an od:Y5r}
  {osl:Y9D} {N ps:Ah} {sp:Sp} (lk:YeM=Y92 oc od (PySem.W.fnOf name qual params body scope dV kV doc pm an cdv ct) osl) (hcd:YdX cdv qual=true) (S:bV N ps scope)
  (len:∀vs H Q E,sp vs H Q E->YaK)
  (hbody:∀(A:Around) (outer:Y3d) (s:Shared) (H:Hp) (vs:Al) (Q:VK) (E:XK),iZ k (Ycl scope f cdv)->sp vs H Q E ->
   ∃t,OF (KR CX P w K mg base N qual scope f cdv A outer s H E) body t/\t { nx:=λ_ H'=>Q .non H',rt:=Q } (YbD N) H) :
  dP P w K mg base CX (k+1) f (PySem.W.fnOf name qual params body scope dV kV doc pm an cdv ct) ps sp:=by
 refine⟨len,λA outer s H z T vs Q E l h D r d=>?_⟩;have B:=len _ _ _ _ d;have KX:YaY:=h.mod.kin.keeps λb o e=>(h.bs b o e).1;have j:s.heap.NoLimit:=h.mod.nolimit.keeps λb o e=>(h.bs b o e).1;have a:∀y∈ps.zip T,Y86 y.1\/(YbQ y.1 Y2d/\((cellsFrom (s.heap.objs.size+1) scope.names []).lookup y.1).isSome=true):=λ⟨n,v⟩ C=>by
  rcases S.par n (List.of_mem_zip C).1 with q | q
  ·exact .inl q
  ·exact Y2E q (PySem.W.cellsFrom_some _ _ _ (.inl q))
 refine codeAny_call_function l.depth (KX _ _ lk) rfl S.co S.gen rfl (PySem.W.codeRec_of KX hcd) (D _ _ _ _ ?_);refine wpAny_newFunctionEnv_cells S.kind a λR M p x=>?_;subst M;refine⟨j.keeps x.toInCall.keep,codeAny_func ?_⟩;obtain⟨t,G,L⟩:=hbody A outer s H vs Q E (l.deeper _) d;have I:dA (KR CX P w K mg base N qual scope f cdv A outer s H E) [] (YbD N) H p:=UC S l.hd h B r x;refine wpAny_mono (G [] p (YbD N) H _ I L) (λO m c=>?_) λe m c=>c;have g:∀{i:St} {H':Hp} {v:V} {u:Value},dA (KR CX P w K mg base N qual scope f cdv A outer s H E) [] i H' m->Y3W->Y1H->CE outer P w H s Q u m :=
  λ{i H' v u} J rv q=>⟨v,H',J.os,J.bare,J.base,J.hok,rv,q⟩
 cases O with
 | ret u =>
  obtain⟨v,i,H',J,rv,q⟩:=c;exact g J rv q
 | next =>
  obtain⟨i,H',J,q⟩:=c;exact g (v:=V.non) (u:=Value.none) J rfl q
 | brk =>
  obtain⟨_,_,_,q⟩:=c;exact False.elim q
 | cont =>
  obtain⟨_,_,_,q⟩:=c;exact False.elim q
section
variable{X:Cx}{x:Str}{p pos:Pos}{e:Expr}{es:Y0f}{t:TA}{id T:String}{r:Y1v}
def tCB(r:Y1v)(t:TA):TE:=Y5g (λvs H1=>r vs H1 Q)
def YC(hc:Y45 id r)(hg:Y37)(hm:Y6x=none)(hv:Y9x=Y8y id)(ha:PA X (e::es) t)(hn:x ≠ "__name__" := by decide)(hdb:Y1F ("__debug__" : Str):=by decide)
  (he:Y3V=(false,Y1f)::Y2W:=by rfl) (hpl:Yx ((backTo pos (starEach es X.env)).any (·.1)):=by rfl):Yz (Y4v x (e::es) []) (tCB r t):=by
 intro a s σ H Q I h;refine wpAny_Call_Name_kw (vX I hg hm hv ?_ hn hdb);exact PyProof.Rows.callWith_builtin1 (thn (ha pos a s σ H _ I h) λc j ⟨i,H1,I1,d,g⟩=>hc a j σ H1 i c Q I1 d g) he hpl
def TL(hc:Ybi X T r)(hg:Y37)(hm:Y6x=none)(hv:Y9x=some (.type T))(ha:PA X (e::es) t)(hn:x ≠ "__name__" := by decide)(hdb:Y1F ("__debug__" : Str):=by decide)
  (he:Y3V=(false,Y1f)::Y2W:=by rfl) (hpl:Yx ((backTo pos (starEach es X.env)).any (·.1)):=by rfl):Yz (Y4v x (e::es) []) (tCB r t):=by
 intro a s σ H Q I h;refine wpAny_Call_Name_kw (vX I hg hm hv ?_ hn hdb);exact Yak (ha pos a s σ H _ I h) (λc j ⟨i,H1,I1,d,g⟩=>hc a j σ H1 i c Q I1 d g) he hpl
end
end L2
namespace HT
open PySem PyProof.Rows
def vL:Af->Y1Q Af
 | [],[]=>false
 | [],_::_=>true
 | _::_,[]=>false
 | x::xs,y::ys=>if x=y then vL xs ys else decide (x<y)
def CO(x y:Int)(xs ys:Af):vL (x::xs) (y::ys)=if x=y then vL xs ys else Y22 x y:=rfl
def ZP(A:Around)(s:Shared)(a:Int)(t:Tok)(c:Int)(u:Tok):∃e,SeqAt.EqAt A s (Y51 a) (.int c u) e/\(e=true↔a=c) :=
 ⟨(a == c),SeqAt.EqAt.int_int a t c u,by simp⟩
section
open PySem.SeqAt
open PySem.AutoSeq1 (wpAny_loadPart')
open PySem.MeetsSeq PySem.MeetsSeq2 PySem.MeetsSeq3
end
section
variable{prog:Program}{w:World}{A:Around}{E:Yd}{s:Shared}
def aCk{t b:Addr}{vs ws:Ag}{Q:Yd}(ht:Ycz t vs.toArray)(hb:Ycz b ws.toArray)(hv:vs≠[])
  (h1:ws=[]->Y2x t s) (h2:ws≠[]->Yat ({ s with heap:=s.heap.push { cls:=.type "tuple",data:=.seq (vs++ws).toArray } }))
  (hsz:Y0D (vs.length+ws.length)):Y26 (binaryOp .Add (.ref t) (Y0k)):=by
 obtain⟨⟨cls,m,data,sl⟩,i,l,n,hd⟩:=id ht;obtain⟨⟨r,c,j,h⟩,a,g,p,d⟩:=id hb;simp only at l hd g d;subst l hd g d;have e:vs.toArray++ws.toArray=(vs++ws).toArray:=by simp
 by_cases hw:ws=[]
 ·exact concat_meets (Y1o i) (Y1o a) noFill_tuple_add seq_tuple_add PySem.F.slot_tuple_add PySem.F.entry_tuple_add (Yf4 _)
   (tuple_addW1 t b vs.toArray ws.toArray n p m c sl h (by simpa using hv) (by simp[hw])) ⟨i,a,h1 hw⟩
 ·refine concat_meets (Y1o i) (Y1o a) noFill_tuple_add seq_tuple_add PySem.F.slot_tuple_add PySem.F.entry_tuple_add (Yf4 _)
   (tuple_addW2 t b vs.toArray ws.toArray n p m c sl h (by simpa using hv) (by simpa using hw) (by rw[bM,bM];exact hsz)) (Y0j i a)
  rw[e];exact h2 hw
def kO(n d:Nat):Y18->Nat
 | none=>d
 | some v=>if v<0 then(v+(n:Int)).toNat else min v.toNat n
def xG(n d:Nat):kO n d none=d:=rfl
def GT(n d k:Nat):kO n d (some (k:Int))=min k n:=by
 show(if(k:Int)<0 then((k:Int)+(n:Int)).toNat else min (k:Int).toNat n)=min k n;rw[Y2l,Int.toNat_natCast]
def aEA(n d:Nat)(hd:d<=n)(o:Y18):kO n d o<=n:=by
 cases o with
 | none=>exact hd
 | some v =>
  show(if v<0 then(v+(n:Int)).toNat else min v.toNat n)<=n;by_cases hv:v<0
  ·rw[if_pos hv];exact Oo
  ·rw[if_neg hv];exact Nat.min_le_right _ _
def RT(v:Int)(n d:Nat):(if v<0 then max (v+(n:Int)) 0 else min v (n:Int))=((kO n d (some v):Nat):Int):=by
 show(if v<0 then max (v+(n:Int)) 0 else min v (n:Int))=(((if v<0 then(v+(n:Int)).toNat else min v.toNat n):Nat):Int);by_cases hv:v<0
 ·simp only[if_pos hv];exact Oo
 ·simp only[if_neg hv];exact Oo
def OC(lo hi:Y18)(n:Nat):Builtin.Slice.sliceAdjust lo hi 1 (n:Int)=(((kO n 0 lo:Nat):Int),((kO n n hi:Nat):Int)):=by
 have a:¬((1:Int)<0):=Oo;unfold Builtin.Slice.sliceAdjust;simp only[a,if_false];refine Prod.ext ?_ ?_
 ·cases lo with
  | none=>rfl
  | some v=>exact RT v n 0
 ·cases hi with
  | none=>rfl
  | some v=>exact RT v n n
def NC(i j:Nat):Builtin.Slice.slicePlaces (i:Int) (j:Int) 1=j-i:=by
 unfold Builtin.Slice.slicePlaces;have a:(1:Int) > 0:=Oo;simp only[a,if_true,Int.ediv_one];split <;> exact Oo
def BV{v:Value}{o:Y18}{Q:Y1j Y18}(p:IsPart v o)(h:Q o s):Y26 (Builtin.Slice.slicePartIndex v):=by
 cases p with
 | none=>exact slicePart_none h
 | int i t=>exact slicePart_int h
def qY{sl:Addr}{vl vu:Value}{lo hi:Y18}{n:Nat}{Q:Y1j (Int × Int × Nat)}(hs:Ydz sl vl vu)(pl:IsPart vl lo)(pu:IsPart vu hi)
  (h:Q (((kO n 0 lo:Nat):Int),1,kO n n hi-kO n 0 lo) s):Y26 (Builtin.Slice.sliceApplied (.ref sl) (pure (n:Int))):=by
 obtain⟨e,a,d,c⟩:=id hs;unfold Builtin.Slice.sliceApplied Builtin.Slice.sliceFields;refine wpAny_bind (wpAny_bind (wpAny_field a c (x:=vl) rfl (wpAny_bind (wpAny_field a c (x:=vu) rfl (wpAny_bind (wpAny_field a c (x:=.none) rfl Y2k))))));refine wpAny_bind (slicePart_none ?_);show Y3t (if((1:Int) == 0)=true then _ else _);rw[Y2B];refine wpAny_bind (BV pl (wpAny_bind (BV pu (Y3B ?_))));show wpAny _ _ (match Builtin.Slice.sliceAdjust lo hi 1 (n:Int)with | (lo,hi)=>pure (lo,(1:Int),Builtin.Slice.slicePlaces lo hi 1)) _ _ s;rw[OC lo hi n];show Y3t (pure (((kO n 0 lo:Nat):Int),(1:Int),Builtin.Slice.slicePlaces ((kO n 0 lo:Nat):Int) ((kO n n hi:Nat):Int) 1));rw[NC];exact wpAny_pure h
def XV(xs:Ai)(i k:Nat):((List.range k).filterMap λ(m:Nat)=>Y2u (((i:Int)+(m:Int)*1).toNat)).toArray=((xs.toList.drop i).take k).toArray:=by
 have e:(λ(m:Nat)=>Y2u (((i:Int)+(m:Int)*1).toNat))=λm=>Y2u (i+m):=by
  funext m
  have:((i:Int)+(m:Int)*1).toNat=i+m:=Oo;rw[this]
 rw[e];have:=pick_run xs i k;rw[List.filterMap_map]at this;have a:((λx=>xs[x]?) ∘ λx=>i+x)=λm=>xs[i+m]?:=rfl;rw[a]at this;rw[this]
def xO{t sl:Addr}{items:Ai}{vl vu:Value}{lo hi:Y18}{Q:Yd}(ht:Ycz t items)(hs:Ydz sl vl vu)(pl:IsPart vl lo)(pu:IsPart vu hi)
  (hw:¬(Y8m 0=0/\Y7k=items.size))
  (h:Yat ({ s with heap:=s.heap.push { cls:=.type "tuple",data:=.seq ((items.toList.drop (kO items.size 0 lo)).take (kO items.size items.size hi-kO items.size 0 lo)).toArray } }))
  (hsz:Y0D items.size):Y26 (getItem (.ref t) (.ref sl)):=by
 have a:sizeOk (.seq ((items.toList.drop (kO items.size 0 lo)).take (Y7k-Y8m 0)).toArray):=by
  show Y0D (((items.toList.drop (kO items.size 0 lo)).take (Y7k-Y8m 0)).toArray.size);rw[bM,fP,List.length_drop,Array.length_toList];exact Oo
 have l:Y7k<=items.size:=aEA _ _ (Yq) hi;obtain⟨i,c,g,j⟩:=id hs;have e:Y8B sl "slice" := ⟨i,c,g⟩;unfold getItem
 try with_reducible refine YfH
 first | refine Y3B ?_ | skip
 refine wpAny_bind (wpAny_sequenceKey ht.typeIs Dd ?_);refine wpAny_bind (wpAny_callSpecial?_slot (name:=Str.ofString "__getitem__") ht.typeIs PyProof.Rows.slot_tuple_getitem
  (wpAny_call_entry PyProof.Rows.slot_tuple_getitem ht.typeIs entry_tuple_getitem ?_ (args_tuple_getitem _ _)))
 show Y3t (Builtin.Tuple.tupleItemsOf (.ref t) >>= _);refine wpAny_bind (tupleItemsOf_ ht ?_);refine wpAny_bind (wpAny_typeOf e ?_);rw[if_pos Dd];refine wpAny_bind (qY hs pl pu ?_);have d:¬((((kO items.size 0 lo:Nat):Int) == 0&&(1:Int) == 1&&Yee (Y7k-Y8m 0))=true):=by
  intro q;rw[dM,dM]at q;have n:((kO items.size 0 lo:Nat):Int)=0:=eq_of_beq q.1.1;have p:Y7k-Y8m 0=items.size:=eq_of_beq q.2;exact hw (Y2q Oo)
 show Y3t (if(((kO items.size 0 lo:Nat):Int) == 0&&(1:Int) == 1&&Yee (Y7k-Y8m 0))=true then _ else _);rw[if_neg d,XV]
 first
  | exact Ydv _ (YaG h) a
  | exact Ydv _ (Y3B (YaG h)) a
  | exact wpAny_bind (Ydv _ (wpAny_pure (YaG h)) a)
  | exact wpAny_bind (Ydv _ (YaG h) a)
end
end HT
namespace L2
open PySem PySem.Spec PyProof.Rows
abbrev TO:=St->Y5l (Y1M Y18)
def PO(X:Cx)(e:Yeu)(t:TO):Prop :=
 ∀(pins:Ad) (s:Shared) (σ:St) (H:Hp) (Q:Y1M Y18),Y5->t σ H Q ->
  Y4Z (evalPart e X.env) (λu s'=>∃o H',Y9d/\IsPart u o/\Q o H')
def OZ:TO:=λ_ H Q=>Q none H
def aCN(t:TE):TO:=Y5g (λx H1=>∃i,x=Y1d/\Q (some i) H1)
def wA{ns:Af}:∀{us:Ag},Y5z Y5i->Y6c us:=by
 induction ns with
 | nil=>intro us r;rw[List.map_nil]at r;cases r;exact .nil
 | cons n ns ih =>
  intro us r;rw[bE]at r;cases r with
  | cons r1 r2 =>
   obtain⟨t,e⟩:=r1;subst e;exact .cons n t (ih r2)
section
variable{X:Cx}{e:Expr}{te:TE}{lo hi:Yeu}{tl th:TO}{pos p2:Pos}
def po_none:PO X none OZ:=by
 intro a s σ H Q I h;rw[evalPart_none];exact wpAny_pure ⟨none,H,I,.none,h⟩
def aBA(h:Y5d te):PO X (Y7f) (aCN te):=by
 intro a s σ H Q I c;rw[evalPart_some];refine thn (h a s σ H _ I c) λu j ⟨x,H1,I1,d,g⟩=>?_;obtain⟨i,rfl,q⟩:=g;obtain⟨t,rfl⟩:=d;exact⟨some i,H1,I1,Y51 i,q⟩
def SlR(X:Cx)(r:V->Y18->Y8Y):Prop :=
 ∀(pins:Ad) (s:Shared) (σ:St) (H:Hp) (x:V) (v vl vu:Value) (lo hi:Y18) (sl:Addr) (Q:VK),Y5->fJ x v->Ydz sl vl vu->IsPart vl lo->IsPart vu hi->r x lo hi H Q ->
  ∃T id,typeLookup (.type T) "__getitem__" = pure (Y8y id)/\s.TypeIs v T/\Y79 (getItem v (.ref sl)) X σ Q
def tSl(r:V->Y18->Y8Y)(te:TE)(tl th:TO):TE:=λσ H Q=>te σ H λx H1=>tl σ H1 λl H2=>th σ H2 λu H3=>r x l u H3 Q
def XX{r:V->Y18->Y8Y}(hr:SlR X r)(he:Y5d te)(hl:PO X lo tl)(hu:PO X hi th):Yz (Y7G e (.Slice lo hi none p2)) (tSl r te tl th):=by
 intro a s σ H Q I h;refine Subscript_ (thn (he a s σ H _ I h) λv n ⟨x,H1,I1,G,z⟩=>?_);refine wpAny_Slice (thn (hl a n σ H1 _ I1 z) λd j ⟨l,H2,I2,D,B⟩=>thn (hu a j σ H2 _ I2 B) λg c ⟨u,H3,I3,m,C⟩=>?_);rw[evalPart_none];refine Y2k;have I4:dA X a σ H3 { c with heap:=c.heap.push { cls:=.type "slice",data:=.fields #[d,g,.none] } }:=I3.kept (t':=c.toks) λb L q=>Y1R q;obtain⟨T,J,p,y,i⟩:=hr a { c with heap:=c.heap.push { cls:=.type "slice",data:=.fields #[d,g,.none] } } σ H3 x v d g l u c.heap.objs.size Q I4 G (Heap.IsSliceOf.new ..) D m C;show Y9j (subscriptTail e (.Slice lo hi none p2) v (Ydq)) (EP X a σ Q) ({ c with heap:=c.heap.push { cls:=.type "slice",data:=.fields #[d,g,.none] } });exact tail_any (ops:=[Ydq,v]) y p i (by with_unfolding_all rfl)
def oC(xs:Al)(lo hi:Y18):Al:=(xs.drop (HT.kO xs.length 0 lo)).take (YaF xs.length hi-YaF 0 lo)
def zS(xs:Al)(lo hi:Y18):Y4P ((oC xs lo hi).length):=by
 unfold oC;rw[fP,List.length_drop];exact Oo
def aHP(K:Aa):V->Y18->Y8Y:=λx lo hi H Q=>∃a xs,x=Yn/\Y47 K a /\
 ¬(YaF 0 lo=0/\Y4Q (YaF xs.length hi))/\∀p,H p=none->Y4D (Y6P p (oC xs lo hi))
def aDt:SlR X (aHP X.K):=by
 intro m s σ H x v A B e g sl Q I u y z p h;obtain⟨a,d,rfl,n,w,q⟩:=h;cases u;obtain⟨i,r,l,j⟩:=I.tuple n;have c:i.toArray.size=d.length:=by rw[bM];exact r.length.symm
 refine⟨"tuple",_,PyProof.Rows.slot_tuple_getitem.lookup,l.typeIs,HT.xO l y z p (by rw[c];exact w) ?_ (by rw[c];exact j)⟩;rw[c];refine Y0O Y2R _ (Yff (.tup (oC d e g)) (λb C q=>Y1R q) Yq ?_) (q _ (Y5S));exact⟨⟨aL (zS d e g) j,_,Y1n,rfl⟩,_,(r.drop (HT.kO d.length 0 e)).take (Yei d.length g-Yei 0 e),IsTup.new _ _⟩
def aGv(K:Aa):R2:=λx y H Q=>∃a b xs ys,x=Yn/\y=Y0k/\Y47 K a/\jQ K H b ys/\xs≠[]/\Y0D (Y6L ys.length) /\
 (ys=[]->Y2x a H)/\(ys≠[]->∀p,H p=none->Y4D (Y6P p (xs++ys)))
def eK.nil_iff{xs:Al}{us:Ag}(r:Y5N):us=[]↔xs=[]:=by
 cases r with
 | nil=>simp
 | cons _ _=>simp
def aBO:Y65 X .Add (aGv X.K):=by
 intro i s σ H x y v u Q I p B h;obtain⟨a,b,J,n,rfl,rfl,m,r,j,e,D,G⟩:=h;cases p;cases B;obtain⟨A,d,l,_⟩:=I.tuple m;obtain⟨g,c,C,_⟩:=I.tuple r;refine HT.aCk l C (λz=>j (d.nil_iff.mp z)) (λz=>Y0O Yn H I (D (c.nil_iff.mp z))) (λz=>?_) (by rw[<-d.length,<-c.length];exact e);refine Y0O Y2R _ (Yff (.tup (J++n)) (λb L q=>Y1R q) Yq ?_) (G (λw=>z (c.nil_iff.mpr w)) _ (Y5S));exact⟨⟨by rw[aZ];exact e,_,Y1n,rfl⟩,_,d.append c,IsTup.new _ _⟩
end
def QQ(n:Nat)(i:Int):YcE:=if 0<=i then(if i<n then some i.toNat else none) else if -(n:Int)<=i then some (i+n).toNat else none
def IF{α:Type}(xs:Yv)(i:Int):Option α:=(QQ xs.length i).bind λj=>Y2u j
def QP{n:Nat}{i:Int}{j:Nat}(h:QQ n i=Y7h):seqIndex? i n=Y7h/\j<n/\-(n:Int)<=i/\i<n:=by
 unfold QQ at h;by_cases h0:0<=i
 ·rw[if_pos h0]at h;by_cases h1:i<n
  ·rw[if_pos h1]at h;have e:i.toNat=j:=gB h;exact⟨by rw[seqIndex_of h0 h1,e],Oo,Oo,h1⟩
  ·rw[if_neg h1]at h;cases h
 ·rw[if_neg h0]at h;by_cases h1:-(n:Int)<=i
  ·rw[if_pos h1]at h;have e:(i+n).toNat=j:=gB h;exact⟨by rw[Yg9 h1,e],Oo,h1,Oo⟩
  ·rw[if_neg h1]at h;cases h
def IE{α:Type}{xs:Yv}{i:Int}{v:α}(h:IF xs i=Yy):∃j,seqIndex? i xs.length=Y7h/\Y2u j=Yy/\YbV j/\-(xs.length:Int)<=i/\Y59:=by
 unfold IF at h;cases e:Ycq i with
 | none=>rw[e]at h;cases h
 | some j =>
  rw[e]at h;obtain⟨g,d,a,c⟩:=QP e;exact⟨j,g,h,d,a,c⟩
def dR{α:Type}{xs:Yv}{j:Nat}{v:α}(h:Y2u j=Yy):IF xs (j:Int)=Yy:=by
 have a:YbV j:=(aC.mp h).1;have e:Ycq (j:Int)=Y7h:=by
  unfold QQ;rw[Y5x,Y5x];simp
 unfold IF;rw[e];exact h
def SF(b:Expr):Prop:=∀o i,YdY b o i=Yga [o,i] o i
def IxR(X:Cx)(r:R2):Prop :=
 ∀(value slice:Expr) (pins:Ad) (s:Shared) (σ:St) (H:Hp) (x y:V) (v u:Value) (Q:VK),Y5->fJ x v->Y3q->r x y H Q ->
  YdY slice v u=Yga [v,u] v u->Y79 (subscriptTail value slice v u) X σ Q
def MtR(X:Cx)(id:String)(r:V->Y1v):Prop :=
 ∀(pins:Ad) (s:Shared) (σ:St) (H:Hp) (x:V) (xs:Al) (v:Value) (us:Ag) (Q:VK),Y5->fJ x v->Y5N->r x xs H Q ->
  Y79 (YaE id (v::us)) X σ Q
section
variable{X:Cx}{a b:Expr}{ta tb:TE}{pos:Pos}
def IxR.or{r r':R2}(h:IxR X r)(h':IxR X r'):IxR X (λx y H Q=>r x y H Q\/r' x y H Q):=by
 intro a c d s σ H x y v u Q I e g q i;rcases q with q | q
 ·exact h a c d s σ H x y v u Q I e g q i
 ·exact h' a c d s σ H x y v u Q I e g q i
def aGE{r:R2}(hr:IxR X r)(ha:Y7s a)(hb:Yz b tb)(hs:SF b):Yz (Y7G a b) (tOp r ta tb):=by
 intro c s σ H Q I h;exact Subscript_ (Yfo ha hb I h (hr a b c g σ H2 x y v u Q I2 d e q (hs _ _)))
def aGu(K:Aa):R2:=λx y H Q=>∃p xs i v,x=Y2o/\y=Y1d/\Y35 K H p/\IF xs i=Yy/\Q v H
def aGs(K:Aa):R2:=λx y H Q=>∃p xs i v,x=Y2o/\y=Y1d/\Y47 K p/\IF xs i=Yy/\Q v H
def aGt:R2:=λx y H Q=>∃z i c,x=.str z/\y=Y1d/\Y0D z.length/\IF z.cps.toList i=Y1u/\Q (.str ⟨#[c]⟩) H
def aB3:IxR X (aGu X.K):=by
 intro g m a s σ H x y v u Q I M N h C;obtain⟨p,U,i,z,rfl,rfl,O,R,q⟩:=h;cases M;obtain⟨t,rfl⟩:=N;obtain⟨l,r,A,T⟩:=I.list O;obtain⟨j,d,P,W,G,J⟩:=IE R;obtain⟨w,B,e⟩:=r.get P;have D:=r.length;have S:=HH;have c:EP X a σ Q w s:=⟨z,H,I,e,q⟩;by_cases h0:0<=i
 ·have n:i.toNat=j:=by
   rw[seqIndex_of h0 J]at d;exact gB d
  exact item_listR A.isList h0 Oo (by rw[n];simpa using B) c C
 ·have n:(i+(l.toArray.size:Int)).toNat=j:=by
   rw[Yg9 G]at d;rw[bM,<-D];exact gB d
  exact subscriptTail_builtinR (x:=w) A.isList.typeIs slot_list_getitem.lookup
   (wpAny_getItem_list_neg (Q:=λr L=>r=w/\EP X a σ Q r L) A.isList Oo (by rw[bM] <;> exact Oo) Oo (by rw[n];simpa using B) (Y0I c)) C
def aFm:IxR X (aGs X.K):=by
 intro d g a s σ H x y v u Q I B D h L;obtain⟨p,T,i,z,rfl,rfl,G,M,q⟩:=h;cases B;obtain⟨t,rfl⟩:=D;obtain⟨C,r,l,S⟩:=I.tuple G;obtain⟨j,N,J,U,O,R⟩:=IE M;obtain⟨w,n,c⟩:=r.get J;have m:=r.length;have P:=HH;have e:EP X a σ Q w s:=⟨z,H,I,c,q⟩;exact subscriptTail_builtinR (x:=w) l.typeIs slot_tuple_getitem.lookup
  (getItem_tuple (j:=j) (Q:=λr A=>r=w/\EP X a σ Q r A) l Oo Oo (by rw[bM,<-m];exact N) (by simpa using n) (Y0I e)) L
def aFn:IxR X aGt:=by
 intro a d g s σ H x y v u Q I r w h B;obtain⟨z,i,c,rfl,rfl,J,C,q⟩:=h;obtain⟨t,rfl⟩:=r;obtain⟨L,rfl⟩:=w;obtain⟨j,e,A,M,n,p⟩:=IE C;have m:z.cps.toList.length=z.length:=by simp[Str.length]
 rw[m]at e n p;have G:=HH;exact tail_any (typeIs_str s z t) slot_str_getitem.lookup (getItem_str (c:=c) (by
  have D:Yx (Y22 i (-(2^63:Int))):=cD Oo;have l:Yx (decide (i ≥ 2^63)):=cD Oo;rw[D,l,Bool.or_false]) (by rw[e];simpa using A) ⟨.str ⟨#[c]⟩,H,Y1b,Y1N,q⟩) B
def rIx(K:Aa):R2:=λx y H Q=>aGu K x y H Q\/aGs K x y H Q\/aGt x y H Q
def bC:IxR X (rIx X.K):=aB3.or (aFm.or aFn)
def NI(its:Ag)(n j:Nat)(u:Value):Obj.mapSeq (·.setIfInBounds j u) { cls:=.type "list",data:=.seq its.toArray n }={ cls:=.type "list",data:=.seq (its.set j u).toArray n }:=by
 simp[Obj.mapSeq]
theorem dA.lst{pins:Ad}{σ:St}{H:Hp}{s:Shared}{p:Addr}{xs:Al}(I:Y5)(h:H p=Y0G) :
  ∃(its:Ag) (n:Nat),eK xs its/\Y2F p ({ cls:=.type "list",data:=.seq its.toArray n })/\Y5n:=by
 obtain⟨z,its,n,r,e⟩:=I.hok p _ h;exact⟨its,n,r,e,z⟩
def dA.lstUpd{pins:Ad}{σ:St}{H:Hp}{s:Shared}{p:Addr}{xs ys:Al}{its its':Ag}{n n':Nat}{f:Obj->Obj}(I:Y5)(h:H p=Y0G)
  (ho:Y2F p ({ cls:=.type "list",data:=.seq its.toArray n })) (hf:f { cls:=.type "list",data:=.seq its.toArray n }={ cls:=.type "list",data:=.seq its'.toArray n' }) (r:eK ys its') (hz:Ye8) (t:Nat) :
  Y49 (Y43 p ys) ({ s with heap:=s.heap.update p f,toks:=t }):=by
 have e:(s.heap.update p f).get? p=some { cls:=.type "list",data:=.seq its'.toArray n' }:=by
  rw[Heap.get?_update_self f ho (by rw[hf] <;> rfl),hf]
 refine Yfz p p (by rw[h];trivial) (λb u a q=>(Heap.get?_update_other _ _ (Ne.symm a)).trans q) (Y2i e) ?_;exact⟨hz,its',n',r,e⟩
def PU:V->V->V->Y5l (Y1k Hp):=λo i v H Q=>∃p xs k j,o=Y2o/\i=.int k/\H p=Y0G/\Ycq k=Y7h/\Q (Y43 p (xs.set j v))
def xE:aFO X PU:=by
 intro c s σ H o i v J M u Q I D A rv h;obtain⟨p,B,k,j,rfl,rfl,w,C,q⟩:=h;cases D;obtain⟨t,rfl⟩:=A;obtain⟨a,n,r,l,z⟩:=I.lst w;obtain⟨d,L,y,m⟩:=QP C;have e:=r.length;have G:=HH;have I':dA X c σ (Y43 p (B.set j v)) { s with heap:=s.heap.update p (Obj.mapSeq (·.setIfInBounds j u)) } :=
  I.lstUpd w l (NI a n j u) (r.set rv j) (by rw[List.length_set];exact z) s.toks
 by_cases h0:0<=k
 ·have g:k.toNat=j:=by
   rw[seqIndex_of h0 m]at d;exact gB d
  exact PySem.W.ki_setAt l h0 Oo (by rw[bM,<-e];exact m) (by rw[g];exact Y0K I' q)
 ·have g:(k+(a.toArray.size:Int)).toNat=j:=by
   rw[Yg9 y]at d;rw[bM,<-e];exact gB d
  exact PySem.W.ki_setBack l Oo (by rw[bM,<-e];exact y) Oo (by rw[g];exact Y0K I' q)
def GS(lo hi:Y18)(n:Nat):(sliceBounds lo hi none n).1=((HT.kO n 0 lo:Nat):Int)/\(sliceBounds lo hi none n).2.1=((HT.kO n n hi:Nat):Int)/\(sliceBounds lo hi none n).2.2=1:=by
 refine Y1t ?_ ?_
 ·cases lo with
  | none=>simp[sliceBounds,HT.kO]
  | some i =>
   simp only[sliceBounds,HT.kO,Option.getD_none,show(1:Int) > 0 by decide,if_true];by_cases h:i<0
   ·simp only[h,if_true] <;> exact Oo
   ·simp only[h,if_false] <;> exact Oo
 ·cases hi with
  | none=>simp[sliceBounds,HT.kO]
  | some i =>
   simp only[sliceBounds,HT.kO,Option.getD_none,show(1:Int) > 0 by decide,if_true];by_cases h:i<0
   ·simp only[h,if_true] <;> exact Oo
   ·simp only[h,if_false] <;> exact Oo
def EB(its:Ag)(lo hi:Y18):slicePick its.toArray lo hi none=((its.drop (HT.kO its.length 0 lo)).take (HT.kO its.length its.length hi-HT.kO its.length 0 lo)).toArray:=by
 obtain⟨d,c,a⟩:=GS lo hi its.toArray.size;unfold slicePick;rw[d,c,a];simp only[sliceRange_one,pick_run,bM] <;> rfl
def aGr(K:Aa):V->Y18->Y8Y:=λx lo hi H Q=>∃a xs,x=Yn/\Y35 K H a/\∀p,H p=none->Y4D (Y43 p (oC xs lo hi))
def PJ:SlR X (aGr X.K):=by
 intro j s σ H x v z A e g sl Q I p w y m h;obtain⟨a,c,rfl,l,q⟩:=h;cases p;obtain⟨u,r,i,n⟩:=I.list l;have d:=r.length;refine⟨"list",_,slot_list_getitem.lookup,i.isList.typeIs,wpAny_getItem_list_slice i.isList w y m .none (by simp) ?_ (by rw[bM] <;> exact Oo)⟩;rw[EB,<-d];refine Y0O Y2R _ (Yff (.lst (oC c e g)) (λb B q=>Y1R q) Yq ?_) (q _ (Y5S));exact⟨aL (zS c e g) n,_,0,(r.drop (HT.kO c.length 0 e)).take (HT.kO c.length c.length g-HT.kO c.length 0 e),Y1n⟩
def zR:Y1Q V
 | .non=>true
 | .bl _=>true
 | .int _=>true
 | .str _=>true
 | _=>false
def eqV:V->Y1Q V
 | .non,.non=>true
 | .bl a,.bl b=>a == b
 | .bl a,.int b=>(if a then 1 else 0) == b
 | .int a,.bl b=>a == (if b then 1 else 0)
 | .int a,.int b=>a == b
 | .str a,.str b=>a == b
 | _,_=>false
def aFv{A:Around}{s:Shared}{y x:V}{u v:Value}(ry:Y3q)(rx:fJ x v)(fy:zR y=true)(fx:zR x=true):SeqAt.EqAt A s u v (eqV y x):=by
 cases y with
 | non =>
  cases ry;cases x with
  | non=>cases rx;exact SeqAt.EqAt.same _
  | bl b=>cases rx;exact SeqAt.EqAt.none_bool b
  | int b=>obtain⟨t,rfl⟩:=rx;exact SeqAt.EqAt.none_int b t
  | str b=>obtain⟨t,rfl⟩:=rx;exact SeqAt.EqAt.none_str b t
  | _=>exact Y2m (show false=true from fx)
 | bl a =>
  cases ry;cases x with
  | non=>cases rx;exact SeqAt.EqAt.bool_none a
  | bl b=>cases rx;exact SeqAt.EqAt.bool_bool a b
  | int b=>obtain⟨t,rfl⟩:=rx;exact SeqAt.EqAt.bool_int a b t
  | str b=>obtain⟨t,rfl⟩:=rx;exact SeqAt.EqAt.bool_str a b t
  | _=>exact Y2m (show false=true from fx)
 | int a =>
  obtain⟨c,rfl⟩:=ry;cases x with
  | non=>cases rx;exact SeqAt.EqAt.int_none a c
  | bl b=>cases rx;exact SeqAt.EqAt.int_bool a c b
  | int b=>obtain⟨t,rfl⟩:=rx;exact SeqAt.EqAt.int_int a c b t
  | str b=>obtain⟨t,rfl⟩:=rx;exact SeqAt.EqAt.int_str a c b t
  | _=>exact Y2m (show false=true from fx)
 | str a =>
  obtain⟨c,rfl⟩:=ry;cases x with
  | non=>cases rx;exact SeqAt.EqAt.str_none a c
  | bl b=>cases rx;exact SeqAt.EqAt.str_bool a c b
  | int b=>obtain⟨t,rfl⟩:=rx;exact SeqAt.EqAt.str_int a c b t
  | str b=>obtain⟨t,rfl⟩:=rx;exact SeqAt.EqAt.str_str a c b t
  | _=>exact Y2m (show false=true from fx)
 | _=>exact Y2m (show false=true from fy)
def eqU(x:V)(u:Value):Bool:=match u with
 | .none=>eqV .non x
 | .bool b=>eqV (.bl b) x
 | .int i _=>eqV (.int i) x
 | .str z _=>eqV (.str z) x
 | _=>false
def aFu{x y:V}{u:Value}(r:Y3q)(f:zR y=true):eqU x u=eqV y x:=by
 cases y with
 | non=>cases r;rfl
 | bl b=>cases r;rfl
 | int i=>obtain⟨t,rfl⟩:=r;rfl
 | str z=>obtain⟨t,rfl⟩:=r;rfl
 | _=>exact Y2m (show false=true from f)
theorem JV{A:Around}{s:Shared}{x:V}{v:Value}(rx:fJ x v)(fx:zR x=true):∀{xs:Al}{us:Ag},Y5N->xs.all zR=true->∀u∈us,SeqAt.EqAt A s u v (eqU x u)
 | _,_,.nil,_=>λu hu=>by cases hu
 | y::xs,u::us,.cons r t,f=>λu' hu=>by
  rw[List.all_cons,dM]at f;rcases bK.mp hu with rfl | hu
  ·rw[aFu r f.1];exact aFv r rx f.1 fx
  ·exact JV rx fx t f.2 u' hu
def sU:Ybi X "list" (λxs H Q=>∃p ys,xs=Y56/\(gE X.K H p ys\/jQ X.K H p ys)/\∀l,H l=none->Y2x l (Y43 l ys)):=by
 intro A s σ H xs J Q I r h;obtain⟨p,ys,rfl,y,q⟩:=h;obtain⟨u,rfl,G⟩:=oH r;cases G;have m:∀(a:Ag),eK ys a->Ye8->∀(c:Heap) (g:Nat),(∀b o',Y2F b o'->c.get? b=some o') ->
   c.get? s.heap.objs.size=some { cls:=.type "list",dict:=none,data:=.seq a.toArray g,slots:=#[] }->EP X A σ Q (Y2R) { s with heap:=c }:=λa d i c g z e =>
  Y0O Y2R _ (I.laid (t':=s.toks) z (Yq) (show hV X.prog X.w _ c _ (.lst ys)from⟨i,a,g,d,e⟩)) (q _ (Y5S))
 rcases y with y | y
 ·obtain⟨a,d,C,i⟩:=I.list y;have j:=d.length;obtain⟨o,D,B,n,hd⟩:=C.isList;exact call_list_seq p (Y62) D B hd (λc g z e=>m a d i c g z e) (by simp only[bM] <;> exact Oo)
 ·obtain⟨a,d,C,i⟩:=I.tuple y;have j:=d.length;obtain⟨o,D,B,n,hd⟩:=C;exact call_list_seq p (Ybv) D B hd (λc g z e=>m a d i c g z e) (by simp only[bM] <;> exact Oo)
def dH:Ybi X "tuple" (λxs H Q=>∃p ys,xs=Y56/\((gE X.K H p ys/\∀l,H l=none->Y2x l (Y6P l ys))\/(jQ X.K H p ys/\Y4D H))):=by
 intro a s σ H xs A Q I r h;obtain⟨p,ys,rfl,h⟩:=h;obtain⟨u,rfl,y⟩:=oH r;cases y;rcases h with⟨g,q⟩ | ⟨g,q⟩
 ·obtain⟨c,i,j,m⟩:=I.list g;have n:=i.length;refine call_tuple_list j.isList (λd z=>?_) (by simp only[bM] <;> exact Oo);have I1:dA X a σ H { s with heap:=d }:=I.kept (t':=s.toks) z;have I2:dA X a σ (Y6P d.objs.size ys) { s with heap:=d.push { cls:=.type "tuple",data:=.seq c.toArray } } :=
   YfD s.toks (λb o e=>Y3U) (show hV X.prog X.w _ _ _ (.tup ys)from⟨⟨m,_,bF _ rfl,rfl⟩,c,i,IsTup.new _ _⟩)
  exact Y0O (.ref d.objs.size) _ I2 (q _ (Yfk))
 ·obtain⟨c,i,j,m⟩:=I.tuple g;exact call_tuple_same j (Y0O Y2o H I q)
def tyV(K:Aa)(T:String)(x:V)(H:Hp):Prop:=match x with
 | .str _=>T = "str"
 | .int _=>T = "int"
 | .ref p=>(T = "list" /\ ∃xs,gE K H p xs)\/(T = "tuple" /\ ((∃o,K.lookup p=some o/\o.cls=.type "tuple" /\ o.dict=none)\/∃xs,H p=some (.tup xs))) \/
   (T = "dict" /\ ((∃kvs,H p=some (.dK kvs))\/∃kvs,H p=some (.dT kvs)))\/(T = "set" /\ ∃S n,H p=some (.set S n))
 | _=>False
def aDp{pins:Ad}{σ:St}{H:Hp}{s:Shared}{T:String}{x:V}{v:Value}(I:Y5)(r:fJ x v)(ty:tyV X.K T x H) :
  s.TypeIs v T/\∀a,v=Yn->∃ob,Y2F a ob/\ob.dict=none:=by
 cases x with
 | str z =>
  obtain⟨t,rfl⟩:=r;cases(show T = "str" from ty);exact⟨typeIs_str s z t,λ_ e=>nomatch e⟩
 | int i =>
  obtain⟨t,rfl⟩:=r;cases(show T = "int" from ty);exact⟨typeIs_int s i t,λ_ e=>nomatch e⟩
 | ref p =>
  cases r;rcases ty with⟨rfl,m,l⟩ | ⟨rfl,⟨o,d,y,hd⟩ | ⟨m,l⟩⟩ | ⟨rfl,d⟩ | ⟨rfl,S,n,d⟩
  ·obtain⟨C,_,u,_⟩:=I.list l;refine⟨u.isList.typeIs,YeO⟩;cases e;obtain⟨o,n,e,c,hd,_⟩:=u;exact Y1B e hd
  ·refine⟨Y1B (I.kIn p o d) y,YeO⟩;cases e;exact Y1B (I.kIn _ o d) hd
  ·obtain⟨⟨_,B,A,dn⟩,_,_,o,D,h,_⟩:=(show hV X.prog X.w H s.heap p (.tup m)from I.hok p _ l);refine⟨Y1B D h,YeO⟩;cases e;exact⟨B,A,dn⟩
  ·have z:∃o,Y39 p/\o.ExactDict:=by
    rcases d with⟨j,d⟩ | ⟨j,d⟩
    ·obtain⟨_,_,_,_,o,_,_,e,g,_⟩:=I.hok p _ d;exact Y1B e g
    ·obtain⟨_,_,_,_,o,_,_,e,g,_⟩:=I.hok p _ d;exact Y1B e g
   obtain⟨o,e,g⟩:=z;refine⟨Y1B e g.1,λa h=>?_⟩;cases h;exact Y1B e g.2.1
  ·obtain⟨o,_,_,_,e,g,_⟩:=I.hok p _ d;refine⟨Y1B e g.1,λa h=>?_⟩;cases h;exact Y1B e g.2.1
 | _=>exact False.elim ty
def tBM(K:Aa)(T:String)(r:V->Y1v)(to:TE)(t:TA):TE:=λσ H Q=>to σ H λx H1=>tyV K T x H1/\t σ H1 λxs H2=>r x xs H2 Q
variable{o e:Expr}{es:Y0f}{to:TE}{t:TA}{name:Str}{apos cpos:Pos}{T id:String}{r:V->Y1v}
def aGG(pa:PlainAttrs T)(slot:Slot T name id)(hty:typeOf (.builtin id)=pure (.type "method_descriptor"))(hm:MtR X id r)(ho:Yz o to)(ha:PA X (e::es) t)
  (hbase:attributeBase o name X.env (Y0d o)=Y0d o:=by rfl)
  (hfew:((backTo cpos (starEach (e::es) X.env)).all (λx=>! x.1)&&(backToKw cpos (keywordEach [] X.env)).all (λx=>x.1.isSome)
   && Y22 ((e::es).length+([]:List Keyword).length+(if([]:List Keyword).isEmpty then 0 else 1)) 30)=true:=by rfl)
  (hline:(YaL)=true:=by rfl) (hs:Y3V=(false,Y1f)::Y2W:=by rfl) (hplain:Yx ((backTo cpos (starEach es X.env)).any (·.1)):=by rfl) :
  Yz (Y94 name (e::es) [] cpos) (tBM X.K T r to t):=by
 intro c s σ H Q I h;refine wpAny_Call_method_late hbase hfew hline rfl (thn (ho c s σ H _ I h) λv n ⟨x,H1,I1,g,y,p⟩=>?_);obtain⟨z,u⟩:=aDp I1 g y;refine⟨T,id,pa,slot,hty,z,u,?_⟩;have d:=ha cpos c n σ H1 _ I1 p;rw[hs]at d ⊢;refine Calls.callWith_builtin (by show Yx (false || (backTo cpos (starEach es X.env)).any (·.1));rw[hplain] <;> rfl) (Calls.evalArgs_plain ?_);exact thn d λA i ⟨j,H2,I2,l,w⟩=>hm c i σ H2 x j v A Q I2 g l w
/- xs.append(e),list.index on a module's tuple .. are MtR facts of 06m -/
end
def MtM(X:Cx)(id:String)(r:V->Y1v):Prop :=
 ∀(pins:Ad) (s:Shared) (σ:St) (H:Hp) (x:V) (xs:Al) (v:Value) (us:Ag) (Q:VK),Y5->fJ x v->Y5N->r x xs H Q ->
  Y79 (YaE id (v::us)) X σ Q
def eK.one:∀{x:V}{us:Ag},Y5z [x]->∃u,us=[u]/\fJ x u
 | _,_,.cons r .nil=>⟨_,rfl,r⟩
section
variable{X:Cx}{pins:Ad}{σ:St}{H:Hp}{s:Shared}{l b:Addr}{xs ys zs:Al}
def dA.lset{its its':Ag}{n:Nat}{f:Ai->Ai}{t':Nat}(I:Y5)(hH:H l=Y0G)
  (e:Y2F l ({ cls:=.type "list",data:=.seq its.toArray n })) (hf:f its.toArray=its'.toArray) (hv:eK ys its') (hz:Ye8) :
  Y49 (Y43 l ys) ({ s with heap:=s.heap.update l (Obj.mapSeq f),toks:=t' }):=by
 have q:=PySem.IsL.update e f;rw[hf]at q;refine Yfz l l (by rw[hH];exact trivial) (λd u a c=>(Heap.get?_update_other s.heap (Obj.mapSeq f) (Ne.symm a)).trans c) (Y2i q) ?_;exact⟨hz,its',_,hv,q⟩
def dA.lnew{its:Ag}{t':Nat}(I:Y5)(hv:eK ys its)(hz:Ye8) :
  Y49 (Y7D H ys) ({ s with heap:=s.heap.push { cls:=.type "list",data:=.seq its.toArray },toks:=t' }) :=
 I.laid (Yef q) (Yq) ⟨hz,its,0,hv,Y1n⟩
theorem dA.fresh(I:Y5):H s.heap.objs.size=none:=Y5S
def dA.lstM(I:Y5)(hH:H l=Y0G):Y5n/\∃(its:Ag) (n:Nat),eK xs its/\Y67 its.length/\Y2F l ({ cls:=.type "list",data:=.seq its.toArray n }):=by
 obtain⟨z,its,n,r,e⟩:=I.hok l _ hH;exact⟨z,its,n,r,r.length,e⟩
def YH{n:Nat}(h:Y0D n):Yx (Builtin.List.listTooLong n):=by
 unfold Builtin.List.listTooLong;exact cD Oo
end
section
variable{X:Cx}
def QD:V->Y1v:=λx vs H Q=>∃l xs y,x=Y1m/\vs=[y]/\H l=Y0G/\Yb3 xs.length/\Q .non (Y43 l (xs++[y]))
def EZ:MtM X "list.append" QD:=by
 intro d s σ H x j v w Q I g rv h;obtain⟨l,p,y,rfl,rfl,c,m,q⟩:=h;cases g;obtain⟨u,rfl,ru⟩:=rv.one;obtain⟨z,a,n,r,i,e⟩:=I.lstM c;refine call_meets F.slot_list_append (Y1o e) F.entry_list_append (F.args_list_append_2 _ _) (PySem.list_append l a.toArray n u (by rw[bM];exact Oo)) ⟨e,Y0O .non _ (I.lset (its':=a++[u]) c e (by simp) (r.append (Yba ru)) ?_) q⟩;rw[aZ,List.length_singleton];exact Oo
def QB:V->Y1v:=λx vs H Q=>∃l b xs zs,x=Y1m/\vs=[Y0k]/\H l=Y0G/\H b=Yi zs/\Y0D Yea/\Q .non (Y43 l (xs++zs))
def TN:MtM X "list.extend" QB:=by
 intro j s σ H x G v N Q I y rv h;obtain⟨l,b,M,C,rfl,rfl,i,A,L,q⟩:=h;cases y;obtain⟨u,rfl,ru⟩:=rv.one;cases ru;obtain⟨z,c,n,r,D,e⟩:=I.lstM i;obtain⟨J,a,B,w,p,m⟩:=I.lstM A;have g:Y0D (c.toArray.size+a.toArray.size):=by rw[bM,bM];exact Oo
 have d:¬(! c.toArray.isEmpty&&Builtin.List.listTooLong (c.toArray.size+a.toArray.size))=true:=by
  rw[YH g,Bool.and_false];exact cE
 refine call_meets F.slot_list_extend (Y1o e) F.entry_list_extend (F.args_list_extend_2 _ _)
  (AutoSeq1.list_extend_list_list_0 l c.toArray n b a.toArray B d (by rw[bM];exact Oo) Oo) (Y0j e m)
 refine Y0O .non _ (I.lset (its':=c++a) i e (by simp) (r.append w) ?_) q;rw[aZ];exact Oo
def aGw:R2:=λx y H Q=>∃l b xs zs,x=Y1m/\y=Y0k/\H l=Y0G/\H b=Yi zs/\Y0D Yea/\∀p,H p=none->Y4D (Y43 p (xs++zs))
def vV:Y65 X .Add aGw:=by
 intro d s σ H x y v u Q I p w h;obtain⟨l,b,L,C,rfl,rfl,B,A,J,q⟩:=h;cases p;cases w;obtain⟨z,c,n,r,D,e⟩:=I.lstM B;obtain⟨G,a,M,j,i,g⟩:=I.lstM A;refine PySem.P.add_list e g ?_ (by rw[bM,bM];exact Oo);have m:c.toArray++a.toArray=(c++a).toArray:=by simp
 rw[m];exact Y0O (.ref _) _ (I.lnew (t':=s.toks) (r.append j) (by rw[aZ];exact Oo)) (q _ I.fresh)
end
section
variable{prog:Program}{w:World}{A:Around}{E:Yd}{s:Shared}
end
section
variable{X:Cx}
end
end L2
namespace Att
open PySem PySem.W PySem.Calls PyProof.Rows
def AA{P:Params}{h:Heap}:∀(ns:Af) (vs:Ag),WellAll P h vs (ns.map WData.int)->Y6c vs:=by
 intro ns
 induction ns with
 | nil =>
  intro vs w;rw[List.map_nil]at w;cases w;exact .nil
 | cons n ns ih =>
  intro vs w;rw[bE]at w;cases w with
  | cons a b =>
   cases a;exact .cons _ _ (ih _ b)
def SY{l:OpenLaw}{n:Nat}(hn:l.most=Y7i){P:Params}{h:Heap}{args:List WData}{vals:Ag}
  (hpre:l.row.toRowW.claim.pre args=true) (hwl:WellAll P h vals args) :
  ∃a vs ns,vals=[Y7I]/\args=[WData.list (ns.map WData.int)]/\h.get? a=some { cls:=.type "list",data:=.seq vs.toArray }/\Y6c vs/\Y6b n:=by
 have i:WShape.hasAll [] args [.list .int]=true:=(pre_splitW hpre).1;have j:l.pre.holds [] { args:=args }=true:=(pre_splitW hpre).2;obtain⟨d,r,rfl,p,s⟩:=hasAllW_cons i;obtain rfl:=hasAllW_nil s;obtain⟨w,rfl,u⟩:=hasW_list p;obtain⟨ns,rfl⟩:=items_int u;have c:Y6b n:=by
  unfold OpenLaw.pre at j;have e:(WTm.not (.lt (.lit (.int (n:Int))) (.len (.arg 0)))).holds [] { args:=[.list (ns.map .int)] }=true:=by
   have e:=(holds_andW j).1;rw[hn]at e;exact e
  have g:=condW_of e (w_not (w_lt w_lit (w_len_list (w_arg rfl))));rw[aA]at g;refine Nat.le_of_not_lt λq=>?_;have m:(n:Int)<((ns.length:Nat):Int):=Oo
  first
   | (rw[cN m]at g;exact Y6T g)
   | (simp at g;exact Oo)
 cases hwl with
 | cons w1 w2 =>
  cases w2;cases w1 with
  | list ho hall=>exact Y1U _ _ ns rfl ho (AA ns _ hall) c
def TH(l:OpenLaw)(args:List WData):l.row.toRowW.claim.post args (Y9K) args=true :=
 postW_of (r:=l.row.toRowW) (X:=(true == true))
  (show WShape.has [] (.bool true) .bool=true by first | rfl | decide | simp[WShape.has,WShape.arms,WShape.armsAll])
  (show(WTm.eq .res (.lit (.bool true))).value [] { args:=args,res:=some (.bool true),after:=args }=some (.bool (true == true))from w_eq_bool (w_res rfl) w_lit) rfl
def LN{l:OpenLaw}{n:Nat}{q:Program}{loose:Ah}{XP:Y7V Y0C}{YP:Y7V World}{d:DefRec}
  (hn:l.most=Y7i) (hdf:d.params.defaults=[])
  (call:∀(w:World) (s₀ s₁:Shared) (mg mb:Y0C) (fa:Addr) (o:Obj) (pm cd doc:Value) (a:Addr) (vs:Ag) (ns:Af),
   Ground q loose [] XP w s₀ mg mb s₁.heap->YP w s₁.heap ->
   YcD fa Yb->o.data=.func (docDef d.name d.params d.body d.scope pm cd doc)->s₁.heap.CodeRec cd d.name->mg d.name=Y3 fa ->
   YcD a (some { cls:=.type "list",data:=.seq vs.toArray })->Y6c vs->Y6b n->s₁.gens=#[] ->
   YaT l.prog w callerA (YaW fa ⟨Y27,[]⟩) (λr s'=>r=Y7K Y9K/\OldK s₁.heap s'.heap/\s'.os=s₁.os/\Yc9) s₁) :
  WalkO q loose XP YP l.row.toRowW d [] (YfI f vs):=by
 intro w s₀ s₁ mg mb G Y fa o pm cd doc C kV L hd j u m y s vals N h p D i B;obtain rfl:C=.none:=Dflts.none u hdf;obtain rfl:kV=.none:=Dflts.noKw u;obtain⟨a,vs,ns,rfl,rfl,e,c,g⟩:=SY hn h i;refine enter_call (codeAny_mono (call w s₀ s₁ mg mb fa o pm cd doc a vs ns G Y L (fd_plain hd) j m e c g y) λr s' I=>?_);obtain⟨rfl,J,M,z⟩:=I;exact⟨.inl ⟨Y9K,Y9K,[],rfl,λ_=>rfl,Y9K,TH l _,λ_=>⟨List.Pairwise.nil,λ_ A=>(nomatch A)⟩⟩,J,M,z⟩
section
variable{prog:Program}{w:World}{A:Around}{E:Yd}{s:Shared}{K:Frag}
end
end Att
namespace L2
open PySem PySem.Spec PyProof.Rows
theorem EI:∀{vs:Ag}{ns:Af},Y6c vs->eK (Y5i) vs
 | _,_,.nil=>.nil
 | _,_,.cons n t h=>.cons ⟨t,rfl⟩ (EI h)
def aCG(H:Hp):Prop:=∀b,H b=none\/∃o xs,H b=Y9J o (.lst xs)
def YY{P:Program}{w:World}{K:Aa}{mg mb:Y0C}{CX:VH}{k:Nat}{fa a:Addr}{fd:FuncData}{x:Str}{sp:Sp}{s₁:Shared}{vs:Ag}{ns:Af}
  (KX:K.In s₁.heap) (hns:s₁.heap.Ns mainGlobals mg) (hb:s₁.heap.Ns builtinsNs mb) (hbb:∀x:Str,x ≠ "__name__" -> mb x=Y9x) (hlim:s₁.heap.NoLimit) (hg:s₁.gens=#[])
  (ha:YcD a (some { cls:=.type "list",data:=.seq vs.toArray })) (hi:Y6c vs) (hl:Y0D ns.length) (hr:iZ k callerA)
  (F:∀base:Heap,K.In base->Yc2 mg->dP P w K mg base CX k fa fd [x] sp) (hbind:∀(s:Shared) (u:Value),Ybn s ⟨[u],[]⟩ [(x,u)])
  (hsp:∀H:Hp,aCG H->Y6q K H a->sp Y27 H (λv _=>v=Ybw) Y7E)
  (hCX:∀H e s',CX [] H s₁ (Y7E) e s'->False) :
  YaT P w callerA (YaW fa ⟨Y27,[]⟩) (λr s'=>r=Y7K Y9K/\OldK s₁.heap s'.heap/\s'.os=s₁.os/\Yc9) s₁:=by
 have rv:=EI hi;have A:=hi.length;have i:∀H:Hp,aCG H->Y6q K H a->tK P w H s₁.heap->(∀b,H b≠none->b=a)->(H a≠none->YcH=none) ->
   YaT P w callerA (YaW fa ⟨Y27,[]⟩) (λr s'=>r=Y7K Y9K/\OldK s₁.heap s'.heap/\s'.os=s₁.os/\Yc9) s₁:=by
  intro H M R D J T;have c:∀{b:Addr} {o:Obj},YcD b Yb->H b=none->(HQ s₁.heap H).get? b=Yb:=λe n=>ZH e n;have G:∀{b:Addr} {o:Obj} {p:Yc8} {B:Nat},YcD b Yb->o.data=.dict p B->H b=none:=λ{b o p B} e d=>by
   cases q:H b with
   | none=>rfl
   | some u =>
    have I:b=a:=J b (by rw[q];simp);subst I;rw[ha]at e;cases e;have α:Data.seq vs.toArray _=Data.dict p B:=d;cases α
  have g:∀{b:Addr} {m:Y0C},s₁.heap.Ns b m->(HQ s₁.heap H).Ns b m:=λ{b m} ⟨o,p,B,e,d,r⟩=>⟨o,p,B,c e (G e d),d,r⟩;have C:K.In (HQ s₁.heap H):=λb o e=>c (KX b o e) (by
   cases q:H b with
   | none=>rfl
   | some u =>
    have I:b=a:=J b (by rw[q];simp);subst I;rw[T (by rw[q];simp)]at e;cases e)
  have S:Mod K mg (HQ s₁.heap H):=⟨C,g hns,⟨mb,g hb,hbb⟩,let ⟨mc,h1,h2⟩:=hlim;⟨mc,g h1,h2⟩⟩;have β:OM P w K mg (HQ s₁.heap H) callerA [] s₁ H:=⟨rfl,S,λb o e=>aBR e,Nat.le_of_eq (UF _ _),trivial,λb hb=>absurd (show b∈([]:List Addr)from hb) (by simp),D,.of_eq hg⟩;refine codeAny_mono ((F _ C (g hns)).run callerA [] s₁ H ⟨Y27,[]⟩ Y27 Y27 _ _ hr β (hbind s₁ (Yn)) (Yba rfl) (hsp H M R)) λr s' h=>?_;cases r with
  | error e=>exact(hCX H e s' h).elim
  | ok fl =>
   cases fl with
   | next=>exact False.elim h
   | brk=>exact False.elim h
   | cont=>exact False.elim h
   | ret u =>
    obtain⟨v,H',os,l,un,j,Z,q⟩:=h;have U:v=Ybw:=q;subst U;obtain rfl:u=Value.bool true:=Z;refine⟨rfl,OldK.of_keep λb o e=>?_,os,l⟩;cases q:H b with
    | none=>exact un.keep b o e q (by intro z;exact absurd (show b∈([]:List Addr)from z) (by simp)) (by simp)
    | some u =>
     rcases M b with z | ⟨X,γ,z⟩
     ·rw[q]at z;cases z
     ·have O:=un.frzs b X _ z;obtain⟨L,_⟩:=D b _ z;obtain⟨N,_⟩:=j b _ O;rw[e]at L;cases L;exact N
 cases hk:YcH with
 | some o =>
  have e:=KX a o hk;rw[ha]at e;cases e;refine i (Y9N) (λ_=>Y62) (.inr ⟨_,vs.toArray,_,hk,rfl,rfl,rfl,by rw[bM,A];exact hl,by simpa using rv⟩) (λb u z=>by have y:(none:Option HO)=Yp:=z;cases y) (λb z=>Y7L z) λz=>Y7L z
 | none =>
  refine i (λb=>if b=a then Y9J ({ cls:=.type "list",data:=.seq vs.toArray }) (.lst (Y5i)) else none) (λb=>?_) (.inl (Y2E ({ cls:=.type "list",data:=.seq vs.toArray }) Yo)) (λb u z=>?_) (λb z=>?_) λ_=>hk
  ·by_cases hb:b=a
   ·exact .inr (Y0K _ (if_pos hb))
   ·exact .inl (if_neg hb)
  ·by_cases hb:b=a
   ·have y:=(if_pos hb).symm.trans z;cases y;subst hb;exact⟨ha,by rw[aA];exact hl,vs,_,rv,ha⟩
   ·have y:=(if_neg hb).symm.trans z;cases y
  ·by_cases hb:b=a
   ·exact hb
   ·exact absurd (if_neg hb) z
def OV{l:PySem.W.OpenLaw}{n k:Nat}{q:Program}{loose:Ah}{XP:Y7V Y0C}{YP:Y7V World}{d:DefRec}{K:Params->Aa}{CX:World->VH}{sp:World->Sp}{x:Str}
  (hn:l.most=Y7i) (hn2:Y0D n) (hdf:d.params.defaults=[]) (hr:iZ k callerA)
  (hY:∀(w:World) (h:Heap),YP w h->(K w.params).In h)
  (F:∀(w:World) (mg:Y0C) (fa:Addr) (h:Heap),(K w.params).In h->YdR mg->mg d.name=Y3 fa ->
   ∃fd:FuncData,(∀(s:Shared) (u:Value),Ybn s ⟨[u],[]⟩ [(x,u)]) /\
    ∀base:Heap,(K w.params).In base->Yc2 mg->dP l.prog w (Yb7) mg base (CX w) k fa fd [x] (sp w))
  (hsp:∀(w:World) (H:Hp) (a:Addr) (ns:Af),Y6b n->aCG H->Y6q Yb7 H a->sp w Y27 H (λv _=>v=Ybw) Y7E)
  (hCX:∀(w:World) (H:Hp) (s:Shared) (e:Value) (s':Shared),CX w [] H s (Y7E) e s'->False) :
  PySem.W.WalkO q loose XP YP l.row.toRowW d [] (YfI f vs):=by
 refine Att.LN hn hdf λw L r mg M fa o I J p a vs ns G Y N hd B m j i c y=>?_;have KX:=hY w _ Y;obtain⟨fd,C,D⟩:=F w mg fa _ KX G.T.g m;exact YY KX G.T.g G.T.b G.T.builtins G.T.nolimit y j i (aL c hn2) hr D C (λH A z=>hsp w H a ns c A z) λH e s'=>hCX w H r e s'
def WA{l:PySem.W.OpenLaw}{n k:Nat}{q:Program}{loose:Ah}{XP:Y7V Y0C}{YP:Y7V World}{d:DefRec}{K:Params->Aa}{CX:VH}{sp:Aa->Sp}{x:Str}
  (hn:l.most=Y7i) (hn2:Y0D n) (hdf:d.params.defaults=[]) (hr:iZ k callerA)
  (hY:∀(w:World) (h:Heap),YP w h->(K w.params).In h)
  (F:∀(w:World) (mg:Y0C) (fa:Addr) (h:Heap),(K w.params).In h->YdR mg->mg d.name=Y3 fa ->
   ∃fd:FuncData,(∀(s:Shared) (u:Value),Ybn s ⟨[u],[]⟩ [(x,u)]) /\
    ∀base:Heap,(K w.params).In base->Yc2 mg->dP l.prog w (Yb7) mg base CX k fa fd [x] (sp (Yb7)))
  (hsp:∀(K:Aa) (H:Hp) (a:Addr) (ns:Af),Y6b n->aCG H->Y6q K H a->sp K Y27 H (λv _=>v=Ybw) Y7E)
  (hCX:∀(H:Hp) (s:Shared) (e:Value) (s':Shared),CX [] H s (Y7E) e s'->False) :
  PySem.W.WalkO q loose XP YP l.row.toRowW d [] (YfI f vs) :=
 OV (K:=K) (CX:=λ_=>CX) (sp:=λw=>sp (Yb7)) hn hn2 hdf hr hY F (λw H a ns c g i=>hsp (Yb7) H a ns c g i) λ_ H s e s'=>hCX H s e s'
end L2
/- THE LAST THEOREM (shape;LID,My.* are yours):
   My.Adr: a structure of the addresses that your layer names (classes,functions);My.Txt K t: a structure (Prop) of the equations over K;
   My.txt_mk:{K} {implicit addresses ..} (e1:nsIn K mainGlobals "law" = some (some (.ref f))) (e2:K.lookup f=some ⟨oc,od,.func (fnOf "law" "law" params body scope dV kV doc pm an cdv ct),sl⟩) (e3:codeIn K cdv "law" = true) .. : ∃t,My.Txt K t
set_option maxRecDepth 100000 in
set_option maxHeartbeats 0 in
theorem PySem.Challenge.cw_LID_holds : PySem.Challenge.rw_LID.Holds := by
  w_on;o_law;k_head;(case hw=>w_witness2)
  k_fill
  refine L2.OV (l:=PySem.Challenge.rw_LID) (n:=63) (k:=40) (x := "script") (CX:=λw=>..) (sp:=λ_=>My.sp_law) rfl Dd rfl ⟨rfl,Dd,Dd⟩ (λw h Y=>PySem.W.kIn_of Y) ?F ?S ?C
  case F =>
    intro w y i h KX G g;have T:∃t,My.Txt (L2.KOf KX) t:=by
      dsimp only[L2.KOf]                          -- K must stand as «<heap const> w.params» for k_is
      refine' My.txt_mk ?e1 ?e2 ?e3 ..
      (case e1=>PySem.W.k_is)                    -- in the order: a name -> its address -> its object -> its parts
      (case e2=>PySem.W.k_is)
      ..
    obtain⟨t,T⟩:=T;have j:=g.symm.trans (PySem.W.mg_of KX G T.law);cases j                                       -- i is the law's own address;exact⟨_,λs u=>.of_eq rfl,λc e d=>My.law_fn T e d⟩     -- if «.of_eq rfl» comes too early: refine' ⟨_,?b,λc e d=>My.law_fn T e d⟩;exact λs u=>.of_eq rfl
  case S=>exact λw H a r m z p=>..
  case C=>exact ..
(the tactic k_is has no namespace: write k_is) -/
namespace L2
open PySem PySem.Spec PyProof.Rows
def BC(s:Stmt)(j:Nat):Stmt:=match s with
 | .ClassDef _ _ _ body _ _ _ _ _ _ _=>body.getD j (.Pass ⟨0,0,0,0⟩)
 | _=>.Pass ⟨0,0,0,0⟩
def nH(s:Stmt):Arguments:=match s with
 | .FunctionDef _ a _ _ _ _ _ _ _ _=>a
 | _=>{ posonlyargs:=[],args:=[],vararg:=none,kwonlyargs:=[],kw_defaults:=[],kwarg:=none,defaults:=[] }
def kL(s:Stmt):Y5w:=match s with
 | .FunctionDef _ _ b _ _ _ _ _ _ _=>b
 | _=>[]
def bA(s:Stmt):Scope:=match s with
 | .FunctionDef _ _ _ _ _ _ sc _ _ _=>sc
 | _=>{ kind:=.function,names:=[],isGenerator:=false,isCoroutine:=false }
abbrev cY:VH:=λ_ _ _ _ _ _=>False
abbrev E0:XK:=Y7E
def YD{X:Cx}:zH cY X E0:=λ_ _ _ _ _ _ _ h=>h.elim
structure iQ(K:Aa)(x qual:Str)(st:Stmt)(f:Addr)(fd:FuncData):Prop where
 ex:∃(oc:Value) (od:Y5r) (kV doc pm:Value) (an:Y5r) (cdv ct:Value) (osl:Y9D),
  fd=PySem.W.fnOf x qual (nH st) (kL st) (bA st) .none kV doc pm an cdv ct/\YeM=Y92 oc od fd osl/\YdX cdv qual=true
 kp:Y9l K f=true
section
variable{P:Program}{w:World}{K:Aa}{mg:Y0C}{base:Heap}
def iQ.ok{x qual:Str}{st:Stmt}{f:Addr}{fd:FuncData}{N ps:Ah}{k:Nat}{sp:Sp}(F:Yc x qual st)(S:Ye N ps st)(len:∀vs H Q E,sp vs H Q E->YaK)
  (hbody:∀(cdv:Value) (A:Around) (outer:Y3d) (s:Shared) (H:Hp) (vs:Al) (Q:VK) (E:XK),iZ k (Ycl (bA st) f cdv)->sp vs H Q E ->
   ∃t,OF (KR cY P w K mg base N qual (bA st) f cdv A outer s H E).nox (kL st) t/\t { nx:=λ_ H'=>Q .non H',rt:=Q } (YbD N) H):dP P w K mg base cY (k+1) f fd ps sp:=by
 obtain⟨m,n,kV,d,j,l,cdv,ct,i,rfl,e,a⟩:=F.ex;refine aGR e a S len λA outer s H vs Q E g c=>?_;obtain⟨t,h,q⟩:=hbody cdv A outer s H vs Q E g c;exact⟨t,h.nox,q⟩
def iQ.binds{x qual:Str}{st:Stmt}{f:Addr}{fd:FuncData}{ps:Ah}(F:Yc x qual st)
  (h:∀(kV doc pm:Value) (an:Y5r) (cdv ct:Value) (us:Ag),Y2T ps.length->bindArgs (PySem.W.fnOf x qual (nH st) (kL st) (bA st) .none kV doc pm an cdv ct) ⟨us,[]⟩=pure (Ybd)):uJ K fd ps []:=by
 obtain⟨e,g,kV,doc,pm,an,cdv,ct,a,rfl,d,c⟩:=F.ex;exact .all (h kV doc pm an cdv ct)
def wC{x qual:Str}{st:Stmt}{f:Addr}{oc:Value}{od an:Y5r}{osl:Y9D}{kV doc pm cdv ct:Value}(l:YeM=Y92 oc od (PySem.W.fnOf x qual (nH st) (kL st) (bA st) .none kV doc pm an cdv ct) osl)
  (c:YdX cdv qual=true) (k:Y9l K f=true):iQ K x qual st f (PySem.W.fnOf x qual (nH st) (kL st) (bA st) .none kV doc pm an cdv ct):=⟨⟨oc,od,kV,doc,pm,an,cdv,ct,osl,rfl,l,c⟩,k⟩
end
def yE{n:Nat}(h:n<=1000):Yb3 n:=aJ h Dd
section
variable{X:Cx}
def pv(i:Nat){x:Str}{pos:Pos}(hN:Y3r=Y8:=by rfl)(hv:YdW x:=by first | exact Or.inl rfl | exact Or.inr (Or.inl rfl) | exact Or.inr (Or.inr rfl))(hd:Y1F ("__debug__" : Str):=by decide)
  (hcd:Y1F ("__classdict__" : Str):=by decide):Yz Y85 (WJ i):=aEV hN hv hd hcd
end
def rB{A B:Prop}(h:B):if false=true then A else B:=by
 rw[if_neg cE];exact h
def sO{A B:Prop}(h:A):if true=true then A else B:=by
 rw[Yo];exact h
def aGM{c A B:Prop}[Decidable c](h1:c->A)(h2:¬c->B):if c then A else B:=by
 by_cases h:c
 ·rw[Y3K];exact h1 h
 ·rw[Y3L];exact h2 h
def aU(H H':Hp):Prop:=∀b o,H b=Yb->Y1I=Yb
def aU.refl(H:Hp):aU H H:=λ_ _ h=>h
def aU.trans{H H1 H2:Hp}(a:aU H H1)(b:aU H1 H2):aU H H2:=λc o h=>b c o (a c o h)
def aU.free{H H':Hp}(e:Y1){l:Addr}(h:H' l=Option.none):H l=Option.none:=by
 cases q:H l with
 | none=>rfl
 | some o =>
  rw[e l o q]at h;cases h
section
variable{κ:Type}[DecidableEq κ]
def gF(kvs:Y3k)(k:κ):Am:=(kvs.find? λkv=>decide (kv.1=k)).map (·.2)
def kA(kvs:Y3k)(k:κ)(v:V):Y3k :=
 if Ya9 (λkv=>Y0R kv.1 k) true then YaU (if kv.1=k then(kv.1,v) else kv) else kvs++[(k,v)]
def jG{p:κ × V}{r:Y3k}{k:κ}(e:p.1=k):gF (p::r) k=some p.2:=by simp[gF,List.find?_cons,e]
def jH{p:κ × V}{r:Y3k}{k:κ}(e:¬p.1=k):gF (p::r) k=gF r k:=by simp[gF,List.find?_cons,e]
theorem nK(k:κ):∀kvs:List (κ × V),Ya9 (λkv=>Y0R kv.1 k) ((Y5a).isSome)
 | []=>rfl
 | p::r=>by
  rw[List.any_cons];by_cases e:p.1=k
  ·simp only[jG e,cN e,Bool.true_or,Option.isSome_some]
  ·rw[jH e,cD e,Bool.false_or];exact nK k r
theorem IW(k j:κ)(y:V):∀kvs:List (κ × V),gF (YaU (if kv.1=k then(kv.1,y) else kv)) j=(gF kvs j).map λx=>if j=k then y else x
 | []=>rfl
 | p::r=>by
  have ih:=IW k j y r;rw[bE];by_cases h:p.1=k
  ·rw[if_pos h];by_cases e:p.1=j
   ·rw[jG (p:=(p.1,y)) e,jG e,Option.map_some,if_pos (e.symm.trans h)]
   ·rw[jH (p:=(p.1,y)) e,jH e,ih]
  ·rw[if_neg h];by_cases e:p.1=j
   ·rw[jG (p:=p) e,jG e,Option.map_some,if_neg (λz=>h (e.trans z))]
   ·rw[jH (p:=p) e,jH e,ih]
theorem EJ(k j:κ)(y:V):∀kvs:List (κ × V),Y5a=none->gF (kvs++[(k,y)]) j=if j=k then Y09 else Y8I j
 | [],_=>by
  by_cases e:k=j
  ·rw[if_pos e.symm];exact jG (p:=(k,y)) e
  ·rw[if_neg (λz=>e z.symm)];exact jH (p:=(k,y)) e
 | p::r,hn=>by
  rw[List.cons_append];have hk:¬p.1=k:=λz=>by rw[jG z]at hn;cases hn
  rw[jH hk]at hn;have a:=EJ k j y r hn;by_cases e:p.1=j
  ·rw[jG e,jG e,if_neg (λz=>hk (e.trans z))]
  ·rw[jH e,jH e,a]
def iF(kvs:Y3k)(k j:κ)(y:V):gF (Y4U k y) j=if j=k then Y09 else Y8I j:=by
 unfold kA;by_cases a:Ya9 (λd=>Y0R d.1 k) true
 ·rw[if_pos a,IW];rw[nK]at a;by_cases e:j=k
  ·obtain⟨x,c⟩:=Option.isSome_iff_exists.mp a;rw[Y1w,e,c,Option.map_some,Yo]
  ·rw[Y0L];cases Y8I j with
   | none=>rfl
   | some x=>rw[Option.map_some,Y0L]
 ·rw[if_neg a];refine EJ k j y kvs ?_;rw[nK]at a;cases q:Y5a with
  | none=>rfl
  | some x=>rw[q]at a;exact(a rfl).elim
def fR(kvs:Y3k)(k:κ)(v:V):(Y4U k v).length<=kvs.length+1:=by
 unfold kA;split
 ·rw[aA];exact Oo
 ·rw[aZ,cI,List.length_nil];exact Oo
def JP{kvs:Y3k}{k:κ}(v:V)(h:Y5a=none):Y4U k v=kvs++[(k,v)]:=by
 unfold kA;rw[nK,h];exact Y2B
def tJ.isSome_eq{o:Am}{u:Y5h}(r:tJ o u):o.isSome=u.isSome:=by
 cases o with
 | none=>cases u with
  | none=>rfl
  | some _=>exact(show False from r).elim
 | some _=>cases u with
  | none=>exact(show False from r).elim
  | some _=>rfl
theorem tJ.getD{o:Am}{u:Y5h}{d:V}{d':Value}(r:tJ o u)(rd:fJ d d'):fJ (o.getD d) (u.getD d'):=by
 cases o with
 | none=>cases u with
  | none=>exact rd
  | some _=>exact(show False from r).elim
 | some _=>cases u with
  | none=>exact(show False from r).elim
  | some _=>exact r
def KV.val{kvs:Y3k}{vs:Y6f κ}(r:Y8i)(k:κ):tJ (Y5a) (Yd7 vs):=by
 unfold KV at r
 induction r with
 | nil=>exact True.intro
 | @cons p q ps qs h t ih =>
  obtain⟨c,d⟩:=h;by_cases e:p.1=k
  ·have a:q.1=k:=c.symm.trans e;have b:Yd7 (q::qs)=some q.2:=by simp[valueAt,List.find?_cons,a]
   rw[jG e,b];exact d
  ·have a:¬q.1=k:=Y5G (c.trans z);have b:Yd7 (q::qs)=Yd7 qs:=by simp[valueAt,List.find?_cons,a]
   rw[jH e,b];exact ih
theorem KV.any{kvs:Y3k}{vs:Y6f κ}(r:Y8i)(k:κ):Ya9 (λkv=>Y0R kv.1 k) (vs.any λkv=>Y0R kv.1 k):=by
 unfold KV at r
 induction r with
 | nil=>rfl
 | cons h t ih=>rw[List.any_cons,List.any_cons,ih,h.1]
def KV.repl{kvs:Y3k}{vs:Y6f κ}(r:Y8i)(k:κ){y:V}{u:Value}(ry:Y3q) :
  KV (YaU (if kv.1=k then(kv.1,y) else kv)) (vs.map λkv=>if kv.1=k then(kv.1,u) else kv):=by
 unfold KV at r ⊢
 induction r with
 | nil=>exact .nil
 | @cons p q ps qs h t ih =>
  rw[bE,bE];refine .cons ?_ ih;obtain⟨a,c⟩:=h;by_cases e:p.1=k
  ·rw[Y1w,if_pos (a.symm.trans e)];exact⟨a,ry⟩
  ·rw[Y0L,Y2c (e (a.trans z))];exact⟨a,c⟩
def KV.put{kvs:Y3k}{vs:Y6f κ}(r:Y8i)(k:κ){y:V}{u:Value}(ry:Y3q):KV (Y4U k y) (stored vs k u):=by
 unfold kA stored;rw[r.any k];by_cases e:(vs.any λa=>Y0R a.1 k)=true
 ·rw[Y1w,Y1w];exact r.repl k ry
 ·rw[Y0L,Y0L];exact Paired.snoc r (Y0I ry)
theorem KV.length{kvs:Y3k}{vs:Y6f κ}(r:Y8i):kvs.length=vs.length:=Paired.length r
end
def CQ{P:Program}{w:World}{k:fT}{u:Value}(r:fJ (kV k) u):(gT P w).is k u=true:=by
 cases k with
 | inl i=>obtain⟨t,e⟩:=(show ∃t,u=Value.int i t from r);subst e;exact JU P w i t
 | inr x=>obtain⟨t,e⟩:=(show ∃t,u=Value.str x t from r);subst e;exact JT P w x t
theorem FG{P:Program}{w:World}:∀{ks:Y5F}{us:Ag},Y5z (ks.map kV)->ItemsAre (gT P w) ks us
 | [],_,r=>by rw[List.map_nil]at r;cases r;exact .nil
 | k::ks,_,r=>by
  rw[bE]at r;cases r with
  | cons h t=>exact .cons (CQ h) (FG t)
abbrev KT(H:Hp):Y0r Yt (Y9h YbC):=Paired λp q=>p.1=q.1/\H q.2.1=Yj (p.1.map kV)/\fJ p.2 q.2.2
def KT.val{H:Hp}{kvs:Yt}{xs:Y9h YbC}(r:KT H kvs xs)(k:Y5F):tJ (Y5a) ((atKey xs k).map (·.2)):=by
 induction r with
 | nil=>exact True.intro
 | @cons p q ps qs h t ih =>
  obtain⟨c,_,d⟩:=h;by_cases e:p.1=k
  ·have a:q.1=k:=c.symm.trans e;have b:atKey (q::qs) k=some q.2:=by simp[atKey,List.find?_cons,a]
   rw[jG e,b];exact d
  ·have a:¬q.1=k:=Y5G (c.trans z);have b:atKey (q::qs) k=atKey qs k:=by simp[atKey,List.find?_cons,a]
   rw[jH e,b];exact ih
def KT.repl{H:Hp}{kvs:Yt}{xs:Y9h YbC}(r:KT H kvs xs)(k:Y5F){y:V}{u:Value}(ry:Y3q) :
  KT H (YaU (if kv.1=k then(kv.1,y) else kv)) (xs.map (putAt k u)):=by
 induction r with
 | nil=>exact .nil
 | @cons p q ps qs h t ih =>
  rw[bE,bE];refine .cons ?_ ih;obtain⟨a,c,d⟩:=h;unfold putAt;by_cases e:p.1=k
  ·rw[Y1w,if_pos (a.symm.trans e)];exact Y29 c ry
  ·rw[Y0L,Y2c (e (a.trans z))];exact Y29 c d
def KT.put{H:Hp}{kvs:Yt}{xs:Y9h YbC}(r:KT H kvs xs)(k:Y5F){b:Addr}{y:V}{u:Value}(hb:H b=Yb0 kV)(ry:Y3q) :
  KT H (Y4U k y) (storedH xs k b u):=by
 have e:Ya9 (λa=>Y0R a.1 k) ((atKey xs k).isSome):=by
  rw[nK,(r.val k).isSome_eq,Option.isSome_map]
 unfold kA storedH;rw[e];by_cases q:(atKey xs k).isSome=true
 ·rw[Y5A,Y5A];exact r.repl k ry
 ·rw[Y2D,Y2D];exact Paired.snoc r ⟨rfl,hb,ry⟩
def KT.keeps{H H':Hp}{kvs:Yt}{xs:Y9h YbC}(r:KT H kvs xs)(ht:∀b ys,H b=Yj ys->Y1I=Yj ys):KT H' kvs xs :=
 Paired.mapP r λ_ _ z=>⟨z.1,ht _ _ z.2.1,z.2.2⟩
section
variable{P:Program}{w:World}{H:Hp}{h:Heap}{a:Addr}
def aCW{u:HO}(ok:tK P w H h)(e:Rd H a u):hV P w H h a u:=e.ok ok
def DJ{kvs:Y2K}(ok:tK P w H h)(e:Rd H a (.dK kvs)):Yce/\Y7F a/\∃vs,Y8i/\h.DictOf (gT P w) a vs :=
 show hV P w H h a (.dK kvs)from aCW ok e
def aC6{kvs:Y2K}(ok:tK P w H h)(e:H a=Y5s kvs):Yce/\Y7F a/\∃vs,Y8i/\h.DictOf (gT P w) a vs:=DJ ok (.inl e)
def vY{ks:Y5F}(ok:tK P w H h)(e:H a=Yj (ks.map kV)):(tupleKind (gT P w)).is h ks a:=by
 obtain⟨_,c,r,o,d,g,n,i⟩:=(show hV P w H h a (.tup (ks.map kV))from ok a _ e);exact⟨o,c.toArray,n,d,g,i,by simpa using FG r⟩
def DH{kvs:Yt}(ok:tK P w H h)(e:Rd H a (.dT kvs)):Yce/\Y7F a /\
  ∃xs,KT H kvs xs/\h.DictOfH (YaI P w) a xs:=by
 obtain⟨z,y,xs,r,o,g,n,s,j,u,d,i⟩:=(show hV P w H h a (.dT kvs)from aCW ok e);refine⟨z,y,xs,r,o,g,n,s,j,u,d,λx c=>?_,i⟩;have all:∀{l:Yt} {m:Y9h YbC},KT H l m->∀x∈m,(tupleKind (gT P w)).is h x.1 x.2.1:=by
  intro l m q
  induction q with
  | nil=>intro x c;exact nomatch c
  | @cons p q ps qs hq t ih =>
   intro x c;rcases bK.mp c with e | c
   ·subst e;exact vY ok (by rw[<-hq.1];exact hq.2.1)
   ·exact ih x c
 exact all r x c
def aC5{kvs:Yt}(ok:tK P w H h)(e:H a=Y1c):Yce/\Y7F a /\
  ∃xs,KT H kvs xs/\h.DictOfH (YaI P w) a xs:=DH ok (.inl e)
end
def oM(H:Hp)(a:Addr)(y:V)(r:Am):Prop :=
 (∃kvs k,Rd H a (.dK kvs)/\y=kV k/\r=Y5a)\/∃kvs k b,Rd H a (.dT kvs)/\y=Y0k/\H b=Yb0 kV/\r=Y5a
def IN(H:Hp)(a:Addr)(y v:V)(H':Hp):Prop :=
 (∃kvs k,H a=Y5s kvs/\y=kV k/\Ye2/\H'=Y3s (.dK (Y4U k v))) \/
 ∃kvs k b,H a=Y1c/\y=Y0k/\H b=Yb0 kV/\Ye2/\H'=Y3s (.dT (Y4U k v))
theorem oM.k{H:Hp}{a:Addr}{kvs:Y2K}{k:fT}(e:H a=Y5s kvs):oM H a (kV k) (Y5a):=.inl (Y0O kvs k (.inl e) rfl)
def oM.t{H:Hp}{a b:Addr}{kvs:Yt}{k:Y5F}(e:H a=Y1c)(eb:H b=Yb0 kV):oM H a (Y0k) (Y5a):=.inr ⟨kvs,k,b,.inl e,rfl,eb,rfl⟩
theorem IN.k{H:Hp}{a:Addr}{kvs:Y2K}{k:fT}{v:V}(e:H a=Y5s kvs)(hl:Ye2):IN H a (kV k) v (Y3s (.dK (Y4U k v))):=.inl (Y5C kvs k e hl rfl)
def IN.t{H:Hp}{a b:Addr}{kvs:Yt}{k:Y5F}{v:V}(e:H a=Y1c)(eb:H b=Yb0 kV)(hl:Ye2) :
  IN H a (Y0k) v (Y3s (.dT (Y4U k v))):=.inr (Y1U kvs k b e eb hl rfl)
section
variable{X:Cx}{pins:Ad}{σ:St}{H:Hp}{s:Shared}{a:Addr}{y v:V}{u r:Value}{o:Am}{A:Around}{E:Yd}
def dA.big(I:Y5):Y4I sysModules:=by
 have h:Y4I mainGlobals:=(Yfb).lt;exact Nat.lt_trans Dd h
def UO{Q:Yd}(hu:Y7a 1<cLine)(I:Y5)(g:oM H a y (Yy))(ry:Y3q)(h:∀w' s',Y5k s'->fJ v w'->Q w' s') :
  Y7y A (getItem (Yn) u) Q E s:=by
 rcases g with⟨j,k,e,m,l⟩ | ⟨j,k,b,e,m,C,l⟩
 ·subst m;obtain⟨z,hd,B,d,i⟩:=YbF e;obtain⟨w',n,c⟩:=Yfd (Yd7 B) (by rw[l];exact d.val k);exact wpAny_getItem_of (CQ ry) i.mapOf n (h w' _ (Y1b) c)
 ·subst m;cases(show u=Value.ref b from ry);obtain⟨z,hd,D,d,i⟩:=YbG e;obtain⟨w',n,c⟩:=Yfd ((atKey D k).map (·.2)) (by rw[l];exact d.val k);obtain⟨p,G,r⟩:=eL.mp n;refine wpAny_getItem_heap (YbY) (vY I.hok C) i G ?_;rw[r];exact h w' _ (Y1b) c
def aI3{Q:Yd}(hu:Y7a 1<cLine)(I:Y5)(g:oM H a y o)(ry:Y3q)(h:∀s',Y5k s'->Q (.bool o.isSome) s') :
  Y7y A (compareOp .In u (Yn)) Q E s:=by
 rcases g with⟨i,k,e,j,l⟩ | ⟨i,k,b,e,j,m,l⟩
 ·subst j;obtain⟨z,hd,n,c,d⟩:=YbF e;refine wpAny_in_of (CQ ry) hd d.mapOf ?_;rw[<-(c.val k).isSome_eq,<-l];exact h _ (Y1b)
 ·subst j;cases(show u=Value.ref b from ry);obtain⟨z,hd,p,c,d⟩:=YbG e;refine wpAny_in_heap (YbY) (vY I.hok m) hd d ?_;have q:=(c.val k).isSome_eq;rw[Option.isSome_map]at q;rw[<-q,<-l];exact h _ (Y1b)
def BE{h':Heap}{t':Nat}{ob:HO}(I:Y5)(mu:Mut (H a))(hs:Yax a h')(he:∃q,Y7H a (some q))(new:hV X.prog X.w (Y3s ob) h' a ob) :
  Y49 (Y3s ob) ({ s with heap:=h',toks:=t' }) :=
 Yfz a a mu (λb q c z=>(hs.2 b c).trans z) he new
def ZR{P:Program}{w:World}{H':Hp}{h':Heap}{kvs:Y2K}{vs:Y6f fT}(z:Yce)(hd:Y7F a)(rel:Y8i)(dd:h'.DictOf (gT P w) a vs) :
  hV P w H' h' a (.dK kvs):=⟨z,hd,vs,rel,dd⟩
def UN{H':Hp}{Q:YbK}(hu:Y7a 1<cLine)(I:Y5)(g:IN H a y v H')(ry:Y3q)(rv:fJ v r)(h:∀s',Y9d->Q () s') :
  Y7y A (setItem (Yn) u r) Q E s:=by
 rcases g with⟨d,k,e,C,l,D⟩ | ⟨d,k,b,e,C,J,l,D⟩
 ·subst C D;obtain⟨z,hd,P,i,p⟩:=aC6 I.hok e;have B:Y0D P.length:=by rw[<-i.length];exact z
  have n:Y0D ((kA d k v).length):=by have:=fR d k v;exact Oo
  refine wpAny_setItem_pairs (hsz:=B) (CQ ry) p λL j G=>h _ ?_;have W:∃q,L.get? a=some q:=let ⟨q,_,_,m,_⟩:=j;⟨q,m⟩;exact BE I (by rw[e];exact True.intro) G W (ZR n hd (i.put k rv) j)
 ·subst C D;cases(show u=Value.ref b from ry);obtain⟨z,hd,T,i,p⟩:=aC5 I.hok e;have B:Y0D T.length:=by rw[<-Paired.length i];exact z
  have n:Y0D ((kA d k v).length):=by have:=fR d k v;exact Oo
  refine wpAny_setItem_heap (hsz:=B) (YbY) (vY I.hok J) p λL j G=>h _ ?_;obtain⟨q,O,U,m,S,Z,N,_,R⟩:=j;refine BE I (by rw[e];exact True.intro) G ⟨q,m⟩ ⟨n,hd,_,(i.put k J rv).keeps λc α M=>?_,q,O,U,m,S,Z,N,R⟩;rw[fF (tE M e (λz=>nomatch z))];exact M
end
section
variable{X:Cx}{pins:Ad}{σ:St}{H:Hp}{s:Shared}{a:Addr}{kvs:Y2K}{k:fT}{u:Value}{A:Around}{E:Yd}
end
def aFP(i:Expr):Prop:=∀ov iv,YdY i ov iv=Yga [ov,iv] ov iv
def aA4{prog:Program}{w:World}{A:Around}{E:Yd}{s:Shared}{env:Env}{value slice:Expr}{pos:Pos}{T id:String}{Q:Yd}
  (hl:typeLookup (.type T) "__getitem__" = pure (Y8y id)) (hs:aFP slice)
  (h:wpAny (model prog w) A (Y21 value) (λo s₁=>wpAny (model prog w) A (Y21 slice) (λi s₂=>s₂.TypeIs o T/\wpAny (model prog w) A (getItem o i) Q E s₂) E s₁) E s) :
  Y26 (Y21 (Y7G value slice)):=by
 refine Subscript_ (YdF h (λo s₁ g=>YdF g (λi s₂ c=>?_) x) x);obtain⟨e,c⟩:=c;unfold subscriptTail;refine Y5m;rw[getitemInPython_of_ne e.not_modules];refine wpAny_bind (wpAny_specialOf e hl ?_);have a:wpAny (model prog w) A (YdY slice o i) (λr d=>wpAny (model prog w) A (letTemporaryGo value o r >>= λ_=>pure r) Q E d) E s₂:=by
  rw[hs o i];exact wpAny_operating (YdF c (λr d j=>wpAny_bind (wpAny_letTemporaryGo (wpAny_pure j))) x)
 first
  | exact wpAny_pure (wpAny_bind a)
  | exact Y3B (wpAny_bind a)
  | exact wpAny_bind a
def KN{X:Cx}{pins:Ad}{σ:St}{H:Hp}{s:Shared}{a:Addr}{y:V}{o:Am}(I:Y5)(g:oM H a y o):s.TypeIs (Yn) "dict" := by
 rcases g with⟨d,k,e,_,_⟩ | ⟨d,k,b,e,_,_,_⟩
 ·obtain⟨_,_,h,_,c⟩:=YbF e;exact c.typeIs
 ·obtain⟨_,_,i,_,c⟩:=YbG e;exact c.typeIs
def aGj(td ty:TE):TE:=λσ H Q=>td σ H λx H1=>ty σ H1 λy H2=>∃a v,x=Yn/\oM H2 a y (Yy)/\Q v H2
def aGn(td ty tv:TE):TS:=λD σ H=>tv σ H λv H1=>td σ H1 λx H2=>ty σ H2 λy H3=>∃a H4,x=Yn/\IN H3 a y v H4/\Y8z H4
section
variable{X:Cx}{o i e value:Expr}{pos pos' tpos:Pos}{td ty tv:TE}
def aBH(hu:Y3I 1<cLine)(ho:Yz o td)(hi:Yz i ty)(hs:aFP i):Yz (Y7G o i) (aGj td ty):=by
 intro c s σ H Q I h;refine aA4 PySem.F.slot_dict_getitem.lookup hs (thn (ho c s σ H _ I h) λu e ⟨x,H1,I1,j,m⟩=>thn (hi c e σ H1 _ I1 m) λB r ⟨y,H2,I2,l,a,v,p,g,n⟩=>?_);subst p;obtain rfl:u=Y7I:=j;exact⟨KN I2 g,UO hu I2 g l λz w I3 d=>⟨v,H2,I3,d,n⟩⟩
def aBz(hu:Y3I 1<cLine)(ho:Yz o td)(hi:Yz i ty)(hv:Yz value tv)(hs:Y9T value (Ye4 o i)=Y4M) :
  PS X (Y68 [Ye4 o i] value) (aGn td ty tv):=by
 intro c s σ H D I h;refine wpAny_Assign_Subscript (thn (hv c s σ H _ I h) λr e ⟨v,H1,I1,rv,m⟩=>thn (ho c e σ H1 _ I1 m) λu d ⟨x,H2,I2,j,n⟩=>thn (hi c d σ H2 _ I2 n) λC z ⟨y,H3,I3,l,a,H4,w,g,p⟩=>?_) hs;subst w;obtain rfl:u=Y7I:=j;exact UN hu I3 g l rv λB I4=>⟨σ,H4,I4,p⟩
end
def ZS{P:Program}{w:World}{H:Hp}(h:Heap)(hb:YeI sysModules):hV P w H (h.push { cls:=.type "dict",data:=.dict #[] }) h.objs.size (.dK []) :=
 ⟨Y0H,beq_eq_false_iff_ne.mpr (Ne.symm (dJ hb)),[],.nil,Heap.DictOf.new h⟩
def KL{P:Program}{w:World}{H:Hp}(h:Heap)(hb:YeI sysModules):hV P w H (h.push { cls:=.type "dict",data:=.dict #[] }) h.objs.size (.dT []) :=
 ⟨Y0H,beq_eq_false_iff_ne.mpr (Ne.symm (dJ hb)),[],.nil,_,#[],0,Y1n,Y04 rfl rfl,rfl,rfl,List.nodup_nil⟩
def WL:TE:=λ_ H Q=>∀p,H p=none->Y4D (Y3f p (.dT []))
section
variable{X:Cx}{pos:Pos}
def pe_dnewT:Yz (.Dict [] [] pos) WL:=λc s σ H Q I h =>
 wpAny_Dict_empty (Y0O Y2R _ (I.laid (a:=s.heap.objs.size) (o:=.dT []) (t':=s.toks) (Yef q) (Yq) (KL s.heap I.big)) (h _ (Y5S)))
end
def MJ:Y3A TE TE->St->Y5l (Y1M (Y3A V V))
 | [],_,H,Q=>Q [] H
 | (tk,tv)::r,σ,H,Q=>tk σ H λx H1=>tv σ H1 λy H2=>MJ r σ H2 λps H3=>Q ((x,y)::ps) H3
abbrev VV:Y0r (Y3A V V) (Y6f Value):=Paired λp q=>fJ p.1 q.1/\fJ p.2 q.2
def PPs(X:Cx)(pos:Pos)(keys:Y8C Expr)(values:Y0f)(trs:Y3A TE TE):Prop :=
 ∀(pins:Ad) (s:Shared) (σ:St) (H:Hp) (Q:Y1M (Y3A V V)),Y5->MJ trs σ H Q ->
  Y4Z (evalPairs (pairTrees keys values X.env pos)) (λvs s'=>∃ps H',Y9d/\VV ps vs/\Q ps H')
def pps_nil{X:Cx}{pos:Pos}:PPs X pos [] [] []:=λa s σ H Q I h=>pairTrees_nil_walk ⟨[],H,I,.nil,h⟩
def XT{X:Cx}{pos:Pos}{k v:Expr}{ks:Y8C Expr}{vs:Y0f}{tk tv:TE}{trs:Y3A TE TE}(hk:Yz k tk)(hv:Yz v tv)(hr:PPs X pos ks vs trs) :
  PPs X pos (some k::ks) (v::vs) ((tk,tv)::trs):=λa s σ H Q I h =>
 pairTrees_cons_walk (thn (hk a s σ H _ I h) λu e ⟨x,H1,I1,i,l⟩=>thn (hv a e σ H1 _ I1 l) λw d ⟨y,H2,I2,j,m⟩ =>
  thn (hr a d σ H2 _ I2 m) λp r ⟨g,H3,I3,c,n⟩=>⟨(x,y)::g,H3,I3,.cons ⟨i,j⟩ c,n⟩)
def CG(kvs more:Y2K):Y2K:=more.foldl (λacc kv=>kA acc kv.1 kv.2) kvs
def KV.merge:∀{more:Y2K}{rs:Y6f fT}{kvs:Y2K}{vs:Y6f fT},KV more rs->Y8i->KV (CG kvs more) (merged vs rs):=by
 intro more rs kvs vs r;unfold KV at r
 induction r generalizing kvs vs with
 | nil=>intro q;exact q
 | @cons p q ps qs h t ih =>
  intro a;have e:KV (Y4U p.1 p.2) (stored vs q.1 q.2):=by
   have:=a.put p.1 h.2;rw[<-h.1];exact this
  exact ih e
theorem vM:∀(more kvs:Y2K),(CG kvs more).length<=kvs.length+more.length
 | [],kvs=>by show kvs.length<=kvs.length+0;exact Oo
 | p::r,kvs=>by
  have h1:=vM r (kA kvs p.1 p.2);have a:=fR kvs p.1 p.2;show(CG (kA kvs p.1 p.2) r).length<=_;rw[cI];exact Oo
theorem DS{P:Program}{w:World}:∀{kvs:Y2K}{ws:Y6f Value},VV (YaU (kV kv.1,kv.2)) ws->∃rs,Carries (gT P w) ws rs/\KV kvs rs
 | [],_,r=>by rw[List.map_nil]at r;cases r;exact⟨[],True.intro,.nil⟩
 | p::kvs,_,r=>by
  rw[bE]at r;cases r with
  | @cons a b as bs h t =>
   obtain⟨rs,c,q⟩:=DS (P:=P) (w:=w) t;obtain⟨d,b2⟩:=b;exact⟨(p.1,b2)::rs,⟨CQ h.1,rfl,c⟩,.cons ⟨rfl,h.2⟩ q⟩
def aCS(trs:Y3A TE TE):TE:=λσ H Q=>∀p,H p=none->MJ trs σ (Y3f p (.dK [])) λps H2=>H2 p=Y5s []/\∃kvs:List (fT × V),ps=YaU (kV kv.1,kv.2)/\Y6N 15/\Y4D (upd H2 p (.dK (CG [] kvs)))
def aBG{X:Cx}{pos:Pos}{keys:Y8C Expr}{values:Y0f}{trs:Y3A TE TE}(h:PPs X pos keys values trs)(hall:keys.all (·.isSome)=true)(hl:keys.length=values.length)(h0:keys≠[])
  (h15:keys.length<=15):Yz (.Dict keys values pos) (aCS trs):=by
 intro i s σ H Q I q;have n:=Yfh;have I1:=YeW (.dK []) (s.heap.push { cls:=.type "dict",data:=.dict #[] }) s.toks (Yef q) Yq (ZS s.heap I.big);refine wpAny_Dict_walk (knd:=gT X.prog X.w) hall hl h0 h15 (thn (h i _ σ _ _ I1 (q _ n)) λJ L ⟨N,H2,I2,j,e,g,C,M,A⟩=>?_);subst C;obtain⟨l,c,B⟩:=DS (P:=X.prog) (w:=X.w) j;obtain⟨z,hd,m,u,p⟩:=aC6 I2.hok e;cases u;refine⟨l,c,p,λh' d y=>Y0O Y2R _ ?_ A⟩;have r:Y0D ((CG [] g).length):=by
  have D:=vM g [];rw[List.length_nil]at D;rw[sizeLine_eq];exact Oo
 have G:∃q,Yfs (some q):=let ⟨q,_,_,hq,_⟩:=d;⟨q,hq⟩;exact BE I2 (by rw[e];exact True.intro) y G (ZR r hd (B.merge .nil) d)
structure M1(X:Cx)(o:Expr)(m:Str)(apos:Pos)(e:Expr)(cpos:Pos):Prop where
 base:attributeBase o m X.env (Y0d o)=Y0d o
 few:((backTo cpos (starEach [e] X.env)).all (λx=>! x.1)&&(backToKw cpos (keywordEach [] X.env)).all (λx=>x.1.isSome)
  && Y22 (([e]:List Expr).length+([]:List Keyword).length+(if([]:List Keyword).isEmpty then 0 else 1)) 30)=true
 line:(YaL)=true
 trees:YeJ (Y33 e)=[(false,Y1f)]
structure M2(X:Cx)(o:Expr)(m:Str)(apos:Pos)(e f:Expr)(cpos:Pos):Prop where
 base:attributeBase o m X.env (Y0d o)=Y0d o
 few:((backTo cpos (starEach [e,f] X.env)).all (λx=>! x.1)&&(backToKw cpos (keywordEach [] X.env)).all (λx=>x.1.isSome)
  && Y22 (([e,f]:List Expr).length+([]:List Keyword).length+(if([]:List Keyword).isEmpty then 0 else 1)) 30)=true
 line:(YaL)=true
 trees:YeJ (Y1X [e,f])=[(false,Y1f),(false,Y0d f)]
def IsD(H:Hp)(a:Addr):Prop:=(∃kvs,Rd H a (.dK kvs))\/∃kvs,Rd H a (.dT kvs)
def YZ{X:Cx}{pins:Ad}{σ:St}{H:Hp}{s:Shared}{a:Addr}(I:Y5)(d:IsD H a) :
  s.TypeIs (Yn) "dict" /\ (∀b,Y7I=Y0k->∃ob,Y2F b ob/\ob.dict=none)/\Y7F a:=by
 rcases d with⟨h,e⟩ | ⟨h,e⟩
 ·obtain⟨_,hd,j,_,c⟩:=YbF e;refine⟨c.typeIs,λb q=>?_,hd⟩;cases q;obtain⟨ob,_,_,g,i,_⟩:=c;exact⟨ob,g,i.2.1⟩
 ·obtain⟨_,hd,l,_,c⟩:=YbG e;refine⟨c.typeIs,λb q=>?_,hd⟩;cases q;obtain⟨ob,_,_,g,i,_⟩:=c;exact⟨ob,g,i.2.1⟩
section
variable{X:Cx}{pins:Ad}{σ:St}{H:Hp}{s:Shared}{a:Addr}{y d:V}{u r:Value}{o:Am}{A:Around}{E:Yd}
def aFz{Q:Yd}(hu:Y7a 1<cLine)(I:Y5)(g:oM H a y o)(ry:Y3q)(h:∀w' s',Y5k s'->fJ (o.getD .non) w'->Q w' s') :
  Y7y A (YaE "dict.get" [Yn,u]) Q E s:=by
 rcases g with⟨i,k,e,j,l⟩ | ⟨i,k,b,e,j,m,l⟩
 ·subst j;obtain⟨z,hd,p,c,d⟩:=YbF e;refine Ydu d.typeIs (PySem.F.args_dict_get_2 _ _) (meets_dict_get (gT X.prog X.w) a (CQ ry) hd) (Y0K d.mapOf (h _ _ (Y1b) ?_));rw[l];exact(c.val k).getD rfl
 ·subst j;cases(show u=Value.ref b from ry);obtain⟨z,hd,n,c,d⟩:=YbG e;refine Ydu d.typeIs (PySem.F.args_dict_get_2 _ _) (meetsH_dict_get (YaI X.prog X.w) a b hd) ⟨YbY,k,n,vY I.hok m,d,h _ _ (Y1b) ?_⟩;rw[l];exact(c.val k).getD rfl
def aFy{Q:Yd}(hu:Y7a 1<cLine)(I:Y5)(g:oM H a y o)(ry:Y3q)(rd:fJ d r)(h:∀w' s',Y5k s'->fJ (o.getD d) w'->Q w' s') :
  Y7y A (YaE "dict.get" [Yn,u,r]) Q E s:=by
 rcases g with⟨j,k,e,m,l⟩ | ⟨j,k,b,e,m,n,l⟩
 ·subst m;obtain⟨z,hd,B,c,i⟩:=YbF e;refine Ydu i.typeIs (PySem.F.args_dict_get_3 _ _ _) (meets_dict_get_default (gT X.prog X.w) a (CQ ry) hd r) (Y0K i.mapOf (h _ _ (Y1b) ?_));rw[l];exact(c.val k).getD rd
 ·subst m;cases(show u=Value.ref b from ry);obtain⟨z,hd,p,c,i⟩:=YbG e;refine Ydu i.typeIs (PySem.F.args_dict_get_3 _ _ _) (meetsH_dict_get_default (YaI X.prog X.w) a b hd r) ⟨YbY,k,p,vY I.hok n,i,h _ _ (Y1b) ?_⟩;rw[l];exact(c.val k).getD rd
end
def WN(td ty:TE):TE:=λσ H Q=>td σ H (YeD (x=Yn/\IsD H1 a/\ty σ H1 λy H2=>∃o,oM H2 a y o/\Q (o.getD .non) H2))
def WM(td ty tx:TE):TE:=λσ H Q=>td σ H (YeD (x=Yn/\IsD H1 a/\ty σ H1 λy H2=>tx σ H2 λz H3=>∃o,oM H3 a y o/\Q (o.getD z) H3))
section
variable{X:Cx}{o e f:Expr}{apos cpos:Pos}{td ty tx:TE}
def YB(hu:Y3I 1<cLine)(ho:Yz o td)(he:Y5d ty)(m:M1 X o "get" apos e cpos):Yz (Y94 "get" [e] [] cpos) (WN td ty):=by
 intro c s σ H Q I h;refine wpAny_Call_method m.base m.few m.line PySem.F.plainAttrs_dict PySem.F.slot_dict_get PySem.F.type_dict_get (thn (ho c s σ H _ I h) λu n ⟨x,H1,I1,p,a,B,d,w⟩=>?_);subst B;obtain rfl:u=Y7I:=p;obtain⟨j,l,_⟩:=YZ I1 d;refine Y0j j l;rw[m.trees];refine Calls.callWith_builtin rfl (Calls.evalArgs_plain (Yf6 (he c n σ H1 _ I1 w) (λL C ⟨y,H2,I2,r,J,g,z⟩=>Calls.spliced_nil ?_)));exact aFz hu I2 g r λG D I3 i=>⟨_,H2,I3,i,z⟩
def YA(hu:Y3I 1<cLine)(ho:Yz o td)(he:Y5d ty)(hf:Yz f tx)(m:M2 X o "get" apos e f cpos):Yz (Y94 "get" [e,f] [] cpos) (WM td ty tx):=by
 intro c s σ H Q I h;refine wpAny_Call_method m.base m.few m.line PySem.F.plainAttrs_dict PySem.F.slot_dict_get PySem.F.type_dict_get (thn (ho c s σ H _ I h) λu r ⟨x,H1,I1,w,a,J,d,C⟩=>?_);subst J;obtain rfl:u=Y7I:=w;obtain⟨l,p,_⟩:=YZ I1 d;refine Y0j l p;rw[m.trees];refine Calls.callWith_builtin rfl (Calls.evalArgs_plain (Calls.spliced_cons (thn (he c r σ H1 _ I1 C) λP j ⟨y,H2,I2,B,D⟩ =>
  Yf6 (hf c j σ H2 _ I2 D) (λR L ⟨z,H3,I3,n,O,g,G⟩=>Calls.spliced_nil ?_))))
 exact aFy hu I3 g B n λN M I4 i=>⟨_,H3,I4,i,G⟩
end
section
variable{X:Cx}{pins:Ad}{σ:St}{H:Hp}{s:Shared}{a:Addr}{kvs:Y2K}{A:Around}{E:Yd}
end
section
variable{X:Cx}{pins:Ad}{σ:St}{H:Hp}{s:Shared}{a:Addr}{y:V}{u:Value}{A:Around}{E:Yd}
end
section
variable{κ:Type}[DecidableEq κ]
def WC{kvs:Y3k}{k:κ}(h:Y5a=none):¬k∈kvs.map (·.1):=by
 intro m;obtain⟨p,a,e⟩:=aM.mp m;have q:Ya9 (λc=>Y0R c.1 k) true:=List.any_eq_true.mpr ⟨p,a,cN e⟩;rw[nK,h]at q;exact absurd q (by simp)
def GH{kvs:Y3k}{k:κ}{v:V}(h:Y5a=Yy):k∈kvs.map (·.1):=by
 have q:Ya9 (λc=>Y0R c.1 k) true:=by
  rw[nK,h]
  all_goals rfl
 obtain⟨p,a,e⟩:=List.any_eq_true.mp q;exact aM.mpr ⟨p,a,of_decide_eq_true e⟩
end
abbrev bits(i:Int):Nat:=Builtin.Int.intBits i
def aAB(i j:Int):Prop:=0<j/\bits j<=9000
def zP{j:Int}{n:Nat}(h:bits j<=n)(hn:0<n):j.natAbs.log2<n:=by
 unfold bits Builtin.Int.intBits at h;by_cases hj:(j == 0)=true
 ·have:j=0:=by simpa using hj
  subst this;exact aJ (by decide +kernel:(0:Int).natAbs.log2<=0) hn
 ·rw[if_neg hj]at h;exact Oo
section
variable{X:Cx}
def gG:Y65 X .FloorDiv (rI aAB (Y8G (i/j))):=opI λi j _ _ _ _ _ a q=>by
 refine floordiv_int (by have:=a.1;exact Oo) ?_ (.inl (PyProof.noPylong_of_log2 (zP a.2 Dd)));rw[Int.fdiv_eq_ediv_of_nonneg i (by have:=a.1;exact Oo)];exact q
def dI:Y65 X .Mult (rI IntMulOk (Y8G (i*j))):=opI λ_ _ _ _ _ _ _ a q=>mul_int q a
end
mutual
def dC(H:Hp):Y0r PyData V
 | .none,v=>v=.non
 | .bool b,v=>v=.bl b
 | .int i,v=>v=.int i
 | .str x,v=>v=.str x
 | .list ds,v=>∃a xs,v=.ref a/\H a=some (.lst xs)/\bG H ds xs
 | .tuple ds,v=>∃a xs,v=.ref a/\H a=some (.tup xs)/\bG H ds xs
 | .dict kvs,v=>kvs=[]/\∃a,v=.ref a/\H a=some (.dK [])
def bG(H:Hp):Y0r Y0Z Al
 | [],vs=>vs=[]
 | d::ds,vs=>∃x xs,vs=x::xs/\dC H d x/\bG H ds xs
end
mutual
theorem dC.same{H H':Hp}(e:Y1):∀{d:PyData}{v:V},Y4F v->Y2Q d v
 | .none,_,h=>h
 | .bool _,_,h=>h
 | .int _,_,h=>h
 | .str _,_,h=>h
 | .list ds,_,h=>by
  unfold dC at h ⊢;obtain⟨a,xs,rfl,h1,h2⟩:=h;exact⟨a,xs,rfl,e _ _ h1,bG.same e h2⟩
 | .tuple ds,_,h=>by
  unfold dC at h ⊢;obtain⟨a,xs,rfl,h1,h2⟩:=h;exact⟨a,xs,rfl,e _ _ h1,bG.same e h2⟩
 | .dict kvs,_,h=>by
  unfold dC at h ⊢;obtain⟨c,a,rfl,h1⟩:=h;exact⟨c,a,rfl,e _ _ h1⟩
theorem bG.same{H H':Hp}(e:Y1):∀{ds:Y0Z}{vs:Al},Y7l->Y41 ds vs
 | [],_,h=>h
 | d::ds,_,h=>by
  unfold bG at h ⊢;obtain⟨x,xs,rfl,h1,h2⟩:=h;exact⟨x,xs,rfl,dC.same e h1,bG.same e h2⟩
end
theorem dC.tup{H:Hp}{a:Addr}{xs:Al}{ds:Y0Z}(h:H a=Y12)(r:Y9O xs):Y1A (.tuple ds) Yn:=by
 unfold dC;exact Y11 a xs h r
theorem dC.lst{H:Hp}{a:Addr}{xs:Al}{ds:Y0Z}(h:H a=Y0G)(r:Y9O xs):Y1A (.list ds) Yn:=by
 unfold dC;exact Y11 a xs h r
theorem dC.int{H:Hp}(i:Int):Y1A Y1d Y1d:=by unfold dC;rfl
theorem dC.str{H:Hp}(i:Str):Y1A (.str i) (.str i):=by unfold dC;rfl
theorem dC.non{H:Hp}:Y1A .none .non:=by unfold dC;rfl
def bG.nil{H:Hp}:Y1q [] []:=by unfold bG;rfl
def bG.cons{H:Hp}{d:PyData}{ds:Y0Z}{x:V}{xs:Al}(h:Y4F x)(hs:Y9O xs):Y1q (d::ds) (x::xs):=by
 unfold bG;exact Y11 x xs h hs
section
variable{X:Cx}{pins:Ad}{σ:St}{H:Hp}{s:Shared}
mutual
theorem dC.reads(I:Y5):∀{d:PyData}{v:V}{u:Value},Y4F v->Y3W->∃as,Reads s.heap u d as
 | .none,_,u,h,r=>by
  cases(show _=V.non from h);cases(show u=Value.none from r);exact⟨_,.none⟩
 | .bool b,_,u,h,r=>by
  cases(show _=V.bl b from h);cases(show u=Value.bool b from r);exact⟨_,.bool b⟩
 | .int b,_,u,h,r=>by
  cases(show _=V.int b from h);obtain⟨t,q⟩:=(show ∃t,u=Value.int b t from r);cases q;exact⟨_,.int b t⟩
 | .str b,_,u,h,r=>by
  cases(show _=V.str b from h);obtain⟨t,q⟩:=(show ∃t,u=Value.str b t from r);cases q;exact⟨_,.str b t⟩
 | .list ds,v,u,h,r=>by
  unfold dC at h;obtain⟨a,m,rfl,g,l⟩:=h;cases(show u=Value.ref a from r);obtain⟨_,i,n,j,e⟩:=(show hV X.prog X.w H s.heap a (.lst m)from I.hok a _ g);obtain⟨as,q⟩:=bG.reads I l j;exact⟨_,.list e rfl rfl (by simpa using q)⟩
 | .tuple ds,v,u,h,r=>by
  unfold dC at h;obtain⟨a,m,rfl,g,l⟩:=h;cases(show u=Value.ref a from r);obtain⟨_,i,j,o,e,C,n,hd⟩:=(show hV X.prog X.w H s.heap a (.tup m)from I.hok a _ g);obtain⟨as,q⟩:=bG.reads I l j;exact⟨_,.tuple e C hd (by simpa using q)⟩
 | .dict kvs,v,u,h,r=>by
  unfold dC at h;obtain⟨rfl,a,rfl,g⟩:=h;cases(show u=Value.ref a from r);obtain⟨_,_,D,A,o,p,G,e,B,hd,_,c,_⟩:=(show hV X.prog X.w H s.heap a (.dK [])from I.hok a _ g);cases A;have z:p.toList=[]:=by
   cases q:p.toList with
   | nil=>rfl
   | cons y ys=>rw[q]at c;cases c
  exact⟨_,.dict e B.1 hd (by rw[z];exact .nil) (by rw[z];exact .nil)⟩
theorem bG.reads(I:Y5):∀{ds:Y0Z}{vs:Al}{us:Ag},Y7l->Y9c->∃as,ReadsAll s.heap us ds as
 | [],_,us,h,r=>by
  cases(show _=[]from h);cases r;exact⟨_,.nil⟩
 | d::ds,_,us,h,r=>by
  unfold bG at h;obtain⟨x,xs,rfl,h1,h2⟩:=h;cases r with
  | cons r1 r2 =>
   obtain⟨as,a⟩:=dC.reads I h1 r1;obtain⟨bs,c⟩:=bG.reads I h2 r2;exact⟨_,.cons a c⟩
end
end
section
variable{X:Cx}
def UT(hg:X.A.guards=some [])(hu:Y3I 64<cLine):Y45 "repr" (λxs H Q=>∃x d,xs=[x]/\Y4F x/\YcO true/\Yci/\d.depth<=60/\YdD/\Q (.str d.shown) H):=by
 intro l s σ H xs C Q I r h;obtain⟨x,d,rfl,p,j,a,z,g,q⟩:=h;obtain⟨u,rfl,ru⟩:=oH r;obtain⟨B,m⟩:=p.reads I ru;cases m with
 | none=>exact PySem.P.repr_of_none ⟨.str _,H,Y1b,Y1N,q⟩
 | bool b=>exact PySem.P.repr_of_bool ⟨.str _,H,Y1b,Y1N,q⟩
 | int i t=>exact PySem.P.repr_of_int (by simpa[PyData.showable]using j) ⟨.str _,H,Y1b,Y1N,q⟩
 | str y t=>exact PySem.P.repr_of_str ⟨.str _,H,Y1b,Y1N,q⟩ g
 | list a1 a2 a3 a4=>exact repr_of_reads' (.list a1 a2 a3 a4) j (PyData.noDict_hsm a) hg Oo (Y8A) (λw u n c=>⟨.str _,H,I.kept c,Y1N,q⟩) g
 | tuple a1 a2 a3 a4=>exact repr_of_reads' (.tuple a1 a2 a3 a4) j (PyData.noDict_hsm a) hg Oo (Y8A) (λw u n c=>⟨.str _,H,I.kept c,Y1N,q⟩) g
 | dict a1 a2 a3 a4 a5=>simp[PyData.hasDict]at a
end
section
variable{X:Cx}
end
structure fL(CX:VH)(P:Program)(w:World)(K:Aa)(mg:Y0C)(base:Heap)(k:Nat)(x:Str)(ps:Ah)(sp:Sp):Prop where
 ex:∃(f:Addr) (fd:FuncData),dP P w K mg base CX k f fd ps sp/\mg x=Y3 f/\Y9l K f=true/\uJ K fd ps []
section
variable{X:Cx}{k:Nat}{ps:Ah}{sp:Sp}{x:Str}{p pos:Pos}{e:Expr}{es:Y0f}{t:TA}
def aGF(F:fL cY X.prog X.w X.K X.mg X.base k x ps sp)(hr:Y52 k)(ha:PA X (e::es) t)(hg:Y37:=by rfl)
  (hdb:Y1F ("__debug__" : Str):=by decide) (he:Y3V=(false,Y1f)::Y2W:=by rfl) (hpl:Yx ((backTo pos (starEach es X.env)).any (·.1)):=by rfl) :
  Yz (Y4v x (e::es) []) (zJ sp [] E0 t):=by
 obtain⟨f,h,a,d,g,c⟩:=F.ex;exact aBJ a hr hg d g c .nil YD ha hdb he hpl
end
section
variable{K:Aa}{H:Hp}{p:Addr}{xs:Al}{i:Int}{v:V}{Q:VK}
def vN(h:H p=Y0G)(e:IF xs i=Yy)(q:Q v H):rIx K (Y2o) (Y1d) H Q:=.inl ⟨p,xs,i,v,rfl,rfl,Y8W,e,q⟩
def jF(h:H p=Y12)(e:IF xs i=Yy)(q:Q v H):rIx K (Y2o) (Y1d) H Q:=YaZ ⟨p,xs,i,v,rfl,rfl,jQ.of h,e,q⟩
def stL{u:V}{Q:Y1k Hp}{j:Nat}(h:H p=Y0G)(e:Ycq i=Y7h)(q:Q (Y43 p (xs.set j u))):PU (Y2o) (Y1d) u H Q:=⟨p,xs,i,j,rfl,rfl,h,e,q⟩
end
def kF(p:Addr)(H:Hp):Hp:=λb=>if b=p then none else H b
def kF.at{p b:Addr}{H:Hp}(h:b≠p):kF p H b=H b:=by unfold kF;rw[Y3L]
def kF.self{p:Addr}{H:Hp}:kF p H p=none:=by unfold kF;rw[Yo]
def kF.same{p:Addr}{H:Hp}:aU (kF p H) H:=λb o h=>by
 unfold kF at h;by_cases e:b=p
 ·rw[Y1w]at h;cases h
 ·rw[Y0L]at h;exact h
def kF.ne{p b:Addr}{H:Hp}{o:HO}(h:kF p H b=Yb):b≠p:=λe=>by
 subst e;rw[kF.self]at h;cases h
def kF.of{p b:Addr}{H:Hp}{o:HO}(n:b≠p)(h:H b=Yb):kF p H b=Yb:=by rw[kF.at n];exact h
def kF.upd_self{p:Addr}{H:Hp}{o:HO}:kF p (Y3f p o)=kF p H:=by
 funext b
 by_cases e:b=p
 ·subst e;rw[kF.self,kF.self]
 ·rw[kF.at e,kF.at e,L2.fF e]
abbrev aX(p:Addr)(H H':Hp):Prop:=aU (kF p H) (kF p H')
def aU.but{p:Addr}{H H':Hp}(h:Y1):Y14:=λb o e=>by
 have n:=kF.ne e;exact kF.of n (h _ _ (kF.same _ _ e))
theorem aU.upd{H:Hp}{q:Addr}{o:HO}(h:H q=none):aU H (Y3f q o):=λb u e=>by
 rw[L2.fF (dU e h)];exact e
def aX.self{p:Addr}{H:Hp}{o:HO}:aX p H (Y3f p o):=by unfold aX;rw[kF.upd_self];exact Y0e
def aX.free{p q:Addr}{H H':Hp}(e:Y14)(hp:∃o,H' p=Yb)(h:H' q=none):H q=none:=by
 cases k:H q with
 | none=>rfl
 | some o =>
  by_cases n:q=p
  ·subst n;obtain⟨c,a⟩:=hp;rw[a]at h;cases h
  ·have:=kF.same _ _ (e q o (kF.of n k));rw[this]at h;cases h
section
variable{K:Aa}{H:Hp}{p:Addr}{xs:Al}{i:Int}{v:V}{Q:VK}
def stG{u:V}{Q:Y1k Hp}{j:Nat}(h:H p=Y0G)(e:Ycq i=Y7h)(k:∀H',H' p=Yi (xs.set j u)->Y14->Q H'):PU (Y2o) (Y1d) u H Q :=
 stL h e (k _ bP aX.self)
def alT{Q:Y4y}(hz:Y5n)(k:∀q H',H q=none->H' q=Y12->Y1->Y0E q):Y5n/\∀p,H p=none->Y4D (Y6P p xs) :=
 ⟨hz,λq a=>k q _ a bP (aU.upd a)⟩
def alL{Q:Y4y}(hz:Y5n)(k:∀q H',H q=none->H' q=Y0G->Y1->Y0E q):Y5n/\∀p,H p=none->Y4D (Y43 p xs) :=
 ⟨hz,λq a=>k q _ a bP (aU.upd a)⟩
def aX.at{p b:Addr}{H H':Hp}{o:HO}(s:Y14)(n:b≠p)(h:H b=Yb):Y1I=Yb:=kF.same _ _ (s _ _ (kF.of n h))
end
def xC{n:Nat}(h:n<=64):Y0D n:=Y2Z h
def tH{c A B:Prop}[Decidable c](h1:c->A)(h2:¬c->B):if decide c=true then A else B :=
 aGM (λh=>h1 (of_decide_eq_true h)) (λh=>h2 (λk=>h (cN k)))
def aGL{c A B:Prop}[Decidable c](h1:¬c->A)(h2:c->B):if(! decide c)=true then A else B :=
 aGM (λh=>h1 (λk=>by rw[cN k]at h;exact Y6T h)) (λh=>h2 (Decidable.of_not_not λk=>h (by rw[cD k];rfl)))
def vI(c:TT):TT:=λσ H Q=>∃Q':Bool->Hp->Prop,c σ H Q'/\∀b H1,Q' b H1->Q b H1
def PT.mono{X:Cx}{e:Expr}{c:TT}(h:PT X e c):PT X e (vI c):=λa s σ H Q I ⟨Q',d,g⟩ =>
 thn (h a s σ H Q' I d) λb i ⟨H',I',q⟩=>⟨H',I',g _ _ q⟩
def TF{X:Cx}{pos:Pos}{c:Expr}{body:Y5w}{tc:TT}{tb:TS}(hp:Ycj Y75 X.A X.xe)(hc:PT X c tc)(hb:OF X body tb):PS X (.While c body [] pos) (GM (vI tc) tb) :=
 XN hp hc.mono hb
@[irreducible] def NA(K:Aa):Y1v:=λxs H Q=>∃x n,xs=[x]/\aHe K x H n/\Y1S n
@[irreducible] def aBt:Y1v:=λxs H Q=>∃i,xs=[Y1d]/\Y1S (i.natAbs:Int)
@[irreducible] def PV:Y1v:=λxs H Q=>∃x d,xs=[x]/\Y4F x/\YcO true/\Yci/\d.depth<=60/\YdD/\Q (.str d.shown) H
section
variable{X:Cx}{K:Aa}{H:Hp}{p:Addr}{xs:Al}{Q:VK}
def oE:Y45 "len" (NA X.K):=by unfold NA;exact aAc
def aAb:Y45 "abs" aBt:=by
 unfold aBt;exact λa s σ H d c Q I r ⟨i,e,q⟩=>aAd a s σ H d c Q I r ⟨i,e,by
 have:(if i<0 then -i else i)=(i.natAbs:Int):=by split <;> exact Oo
 rw[this];exact q⟩
def RV(hg:X.A.guards=some [])(hu:Y3I 64<cLine):Y45 "repr" PV:=by unfold PV;exact UT hg hu
def rlL(h:H p=Y0G)(q:Y1S xs.length):NA K [V.ref p] H Q:=by unfold NA;exact Y3y _ (.inl (Y1t xs Y8W)) q
def rlT(h:H p=Y12)(q:Y1S xs.length):NA K [V.ref p] H Q:=by unfold NA;exact Y3y _ (.inr (Y1t xs (jQ.of h))) q
def raI{i:Int}(q:Y1S (i.natAbs:Int)):aBt [V.int i] H Q:=by unfold aBt;exact Y04 i q
def rrI{x:V}{d:PyData}(r:Y4F x)(h1:YcO true)(h2:Yci)(h3:d.depth<=60)(h4:YdD)(q:Q (.str d.shown) H):PV [x] H Q:=by unfold PV;exact⟨x,d,rfl,r,h1,h2,h3,h4,q⟩
end
def AJ{c:TT}{tb:TS}{D:sW}{σ:St}{H:Hp}(W:Nat->Y1y)(R:Y1y)(m:Nat)(h0:W m σ H)
  (hs:∀m σ H,W m σ H->c σ H λb H1=>if b=true then tb { D with nx:=λσ' H'=>∃m',m' < m/\W m' σ' H',ct:=λσ' H'=>∃m',m' < m/\W m' σ' H',bk:=D.nx } σ H1 else R σ H1)
  (hd:∀σ H,R σ H->Y3S):GM (vI c) tb D σ H :=
 ⟨W,⟨m,h0⟩,λm σ H a=>⟨_,hs m σ H a,λb H1 q=>by
  by_cases hb:b=true
  ·rw[if_pos hb]at q ⊢;exact Y0K (λ_ _ h=>h) q
  ·rw[if_neg hb]at q ⊢;exact hd _ _ q⟩⟩
def aGk(t:TS):TS:=λD σ H=>∃R:St->Hp->Prop,(∀σ' H',R σ' H'->D.nx σ' H')/\(t { D with nx:=R } σ H)
def aEO{X:Cx}{st:Stmt}{t:TS}(h:PS X st t):PS X st (aGk t):=λa s σ H D I ⟨R,d,q⟩ =>
 thn (h a s σ H _ I q) λf e z=>by
  cases f with
  | next=>obtain⟨c,H',I',r⟩:=z;exact⟨c,H',I',d _ _ r⟩
  | brk=>exact z
  | cont=>exact z
  | ret u=>exact z
section
variable{es:Y0f}{env:Env}
def BW{a b c d}:Y3C (.BinOp a b c d::es)=(false,Y21 (.BinOp a b c d))::Y4p:=by rw[starEach] <;> (intros;contradiction)
def MS{a b c}:Y3C (.UnaryOp a b c::es)=(false,Y21 (.UnaryOp a b c))::Y4p:=by rw[starEach] <;> (intros;contradiction)
def XA{a b c d}:Y3C (.IfExp a b c d::es)=(false,Y21 (.IfExp a b c d))::Y4p:=by rw[starEach] <;> (intros;contradiction)
def tY{a b c d}:Y3C (.ListComp a b c d::es)=(false,Y21 (.ListComp a b c d))::Y4p:=by rw[starEach] <;> (intros;contradiction)
def MU{a b c d}:Y3C (Ybm b c d::es)=(false,Y21 (Ybm b c d))::Y4p:=by rw[starEach] <;> (intros;contradiction)
def pQ{a b c d}:Y3C (.Call a b c d::es)=(false,Y21 (.Call a b c d))::Y4p:=by rw[starEach] <;> (intros;contradiction)
def tZ{a b c}:Y3C (.Constant a b c::es)=(false,Y21 (.Constant a b c))::Y4p:=by rw[starEach] <;> (intros;contradiction)
def lX{a b c}:Y3C (.Attribute a b c::es)=(false,Y21 (.Attribute a b c))::Y4p:=by rw[starEach] <;> (intros;contradiction)
def iL{a b c}:Y3C (.Subscript a b c::es)=(false,Y21 (.Subscript a b c))::Y4p:=by rw[starEach] <;> (intros;contradiction)
def pP{a b}:Y3C (.Name a b::es)=(false,Y21 (.Name a b))::Y4p:=by rw[starEach] <;> (intros;contradiction)
def WZ{a b c}:Y3C (.Tuple a b c::es)=(false,Y21 (.Tuple a b c))::Y4p:=by rw[starEach] <;> (intros;contradiction)
end
section
variable{X:Cx}{k:Nat}{ps:Ah}{sp:Sp}{x:Str}{p pos:Pos}{e:Expr}{es:Y0f}{te:TE}{t:TA}{id T:String}{r:Y1v}
def qE{env:Env}:Yx ((backTo pos (starEach [] env)).any (·.1)):=rfl
def nI{env:Env}(hs:Y3C (e::es)=(false,Y21 e)::Y4p)(h:Yx ((backTo pos (starEach es env)).any (·.1))):Yx ((backTo pos (starEach (e::es) env)).any (·.1)):=by
 rw[hs];show Yx (false || (backTo pos (starEach es env)).any (·.1));rw[h];rfl
end
structure iH(X:Cx)(e:Expr)(t:TE):Prop where p:Y5d t
structure OE(X:Cx)(e:Expr)(t:TT):Prop where p:PT X e t
structure PWw(X:Cx)(e:Expr)(t:TT):Prop where p:PW X e t
structure LY(X:Cx)(es:Y0f)(t:TA):Prop where p:PA X es t
structure IR(X:Cx)(st:Stmt)(t:TS):Prop where p:PS X st t
structure EE(X:Cx)(st:Y5w)(t:TS):Prop where p:OF X st t
structure PGw(X:Cx)(e:Expr)(t:TG):Prop where p:PG X e t
structure aCF(X:Cx)(es:Y0f)(t:TGs):Prop where p:PGs X es t
structure OH(X:Cx)(tg iter:Expr)(t:TI):Prop where p:PI X tg iter t
structure POw(X:Cx)(e:Yeu)(t:TO):Prop where p:PO X e t
@[irreducible] def PX(xs:Al)(H:Hp)(Q:VK):Prop:=Y5n/\∀p,H p=none->Y4D (Y6P p xs)
@[irreducible] def PY(xs:Al)(H:Hp)(Q:VK):Prop:=Y5n/\∀p,H p=none->Y4D (Y43 p xs)
def pJ{xs:Al}{H:Hp}{Q:VK}(hz:Y6J 64)(k:∀q H',H q=none->H' q=Y12->Y1->Y0E q):PX xs H Q:=by unfold PX;exact alT (xC hz) k
def zZ{xs:Al}{H:Hp}{Q:VK}(hz:Y6J 64)(k:∀q H',H q=none->H' q=Y0G->Y1->Y0E q):PY xs H Q:=by unfold PY;exact alL (xC hz) k
def tTu(t:TA):TE:=Y5g (λxs H1=>PX xs H1 Q)
def tLs(t:TA):TE:=Y5g (λxs H1=>PY xs H1 Q)
section
variable{X:Cx}{a b c e o tg:Expr}{es rest:Y0f}{ta tb tc te to:TE}{tA tB':TT}{t:TA}{pos p p2:Pos}{st:Stmt}{sts body orelse:Y5w}{ts us:TS}{x:Str}{r r':R2}{id T:String}{rl:Y1v}{k i j:Nat}{ps:Ah}{sp:Sp}{n:Nat}
def aD(i:Nat){x:Str}{pos:Pos}(hN:Y3r=Y8:=by rfl)(hv:YdW x:=by first | exact Or.inl rfl | exact Or.inr (Or.inl rfl) | exact Or.inr (Or.inr rfl))(hd:Y1F ("__debug__" : Str):=by decide)
  (hcd:Y1F ("__classdict__" : Str):=by decide):Yr Y85 (WJ i):=⟨pv i hN hv hd hcd⟩
def aI{i j pos}:Yr (Y8F Y1d j) (tC (Y1d)):=⟨pe_int⟩
def VZ{b j pos}:Yr (Y8F (.bool b) j) (tC (.bl b)):=⟨pe_bl⟩
def lG{j pos}:Yr (Y8F .none j) (tC .non):=⟨pe_non⟩
def gW{x j pos}:Yr (Y8F (.str x) j) (tC (.str x)):=⟨pe_str⟩
def gS{v:V}{u:Value}(hg:Y37)(hm:Y6x=Yp)(r:Y3W)(hd:Y1F ("__debug__" : Str):=by decide):Yr Y85 (tC v):=⟨aBF hg hm r hd⟩
def cC{op:Operator}(ho:Y65 X op r)(ha:Y8o a)(hb:Yr b tb):Yr (.BinOp a op b pos) (tOp r ta tb):=⟨aGD ho ha.p hb.p⟩
def BO{op:UnaryOp}{r:V->(Y5l VK)}(ho:UnR X (unaryOp op) r)(ha:Y8o a):Yr (YeL op a) (tUn r ta):=⟨aGC ho ha.p⟩
def tO{op:CmpOp}(ho:Y44 op r)(ha:Y8o a)(hb:Yr b tb)(hm:Yc7 op b:=by exact nomark _):Yr (Ybm [op] [b] pos) (tOp r ta tb):=⟨aBI ho ha.p hb.p hm⟩
def eB{op:CmpOp}(ho:Y44 op r)(ha:Y8o a)(hb:Yr b tb)(hm:Yc7 op b:=by exact nomark _):OE X (Ybm [op] [b] pos) (aCM (tOp r ta tb)):=⟨aBw ho ha.p hb.p hm⟩
def pX(h:Y8p e)(he:∀whole,isTrue e X.env whole=(do let v <-whole;standAt e.pos;holding [v] (truthy v)):=by intro _;rfl):OE X e (tB te):=⟨aEH h.p he⟩
def wG(ha:OE X a tA):PWw X (YbJ [a]) tA:=⟨aBu ha.p⟩
def aDi(ha:OE X a tA):PWw X (Y9t .Or [a]) tA:=⟨aEE ha.p⟩
def BJ(ha:OE X a tA)(hb:PWw X (YbJ (b::rest)) tB'):PWw X (YbJ (a::b::rest)) (aGl tA tB'):=⟨aEF ha.p hb.p⟩
def aGa(ha:OE X a tA)(hb:PWw X (Y9t .Or (b::rest)) tB'):PWw X (Y9t .Or (a::b::rest)) (tOr tA tB'):=⟨aGx ha.p hb.p⟩
def SL(h:PWw X e tA):OE X e tA:=⟨h.p.pt⟩
def aDj(ha:OE X a tA):OE X (YeL .Not a) (aGf tA):=⟨aEI ha.p⟩
def lP(hc:OE X c tA)(ha:Y8o a)(hb:Yr b tb):Yr (.IfExp c a b pos) (tIf tA ta tb):=⟨XZ hc.p ha.p hb.p⟩
def Se{e:Expr}{es:Y0f}{env:Env}(h:Y3C (e::es)=(false,Y21 e)::Y4p:=by first | exact pP | exact tZ | exact se_BoolOp | exact BW | exact MS | exact XA | exact se_Dict | exact tY | exact MU | exact pQ | exact lX | exact iL | exact se_List | exact WZ | exact se_JoinedStr | exact se_GeneratorExp):Y3C (e::es)=(false,Y21 e)::Y4p:=h
def aQ:LY X [] MK:=⟨pa_nil⟩
def bB(ha:Y8p e)(hr:LY X es t)(hs:Y3V=(false,Y1f)::Y2W:=by exact Se):LY X (e::es) (qI te t):=⟨aBL ha.p hr.p hs⟩
def dN{x1}(h:LY X es t):Yr (.Tuple es x1 pos) (tTu t):=⟨by unfold tTu PX;exact aEW h.p⟩
def hZ(h:LY X es t):Yr (.List es pos) (tLs t):=⟨by unfold tLs PY;exact aEX h.p⟩
def nJ:Yr (.Dict [] [] pos) WL:=⟨pe_dnewT⟩
def bO(hr:IxR X r)(ha:Y8o a)(hb:Yr b tb)(hs:SF b:=by exact λ_ _=>rfl):Yr (Y7G a b) (tOp r ta tb):=⟨aGE hr ha.p hb.p hs⟩
def rS:POw X none OZ:=⟨po_none⟩
def rQ(h:Y8p e):POw X (Y7f) (aCN te):=⟨aBA h.p⟩
def oX{lo hi:Yeu}{tl th:TO}{r:V->Y18->Y8Y}(hr:SlR X r)(he:Y8p e)(hl:POw X lo tl)(hu:POw X hi th):Yr (Y7G e (.Slice lo hi none p2)) (tSl r te tl th):=⟨XX hr he.p hl.p hu.p⟩
def tN(F:fL cY X.prog X.w X.K X.mg X.base k x ps sp)(hr:Y52 k)(ha:LY X (e::es) t)(hg:Y37:=by rfl)
  (hdb:Y1F ("__debug__" : Str):=by decide) (he:Y3V=(false,Y1f)::Y2W:=by exact Se)
  (hpl:Yx ((backTo pos (starEach es X.env)).any (·.1)):=by repeat (first | exact qE | refine nI Se ?_)) :
  Y8U x (e::es) [] (zJ sp [] E0 t):=⟨aGF F hr ha.p hg hdb he hpl⟩
def fV{e1:Expr}{t1:TE}(F:fL cY X.prog X.w X.K X.mg X.base k x ps sp)(h1:Yr e1 t1)(s1:Y33 e1=(false,Y0d e1)::Y1X []:=by exact Se)(hr:Y52 k:=by exact iZ.mono ‹_› Dd)(hg:Y37:=by rfl)(hdb:Y1F ("__debug__" : Str):=by decide)(hpl:Yx ((backTo pos (starEach [] X.env)).any (·.1)):=by repeat (first | exact qE | refine nI Se ?_)):Y8U x [e1] [] (zJ sp [] E0 (qI t1 MK)):=tN F hr (bB h1 aQ s1) hg hdb s1 hpl
def cR{e1 e2:Expr}{t1 t2:TE}(F:fL cY X.prog X.w X.K X.mg X.base k x ps sp)(h1:Yr e1 t1)(h2:Yr e2 t2)(s1:Y1X [e1,e2]=(false,Y0d e1)::Y33 e2:=by exact Se)(s2:Y33 e2=(false,Y0d e2)::Y1X []:=by exact Se)(hr:Y52 k:=by exact iZ.mono ‹_› Dd)(hg:Y37:=by rfl)(hdb:Y1F ("__debug__" : Str):=by decide)(hpl:Yx ((backTo pos (starEach [e2] X.env)).any (·.1)):=by repeat (first | exact qE | refine nI Se ?_)):Y8U x [e1,e2] [] (zJ sp [] E0 (qI t1 (qI t2 MK))):=tN F hr (bB h1 (bB h2 aQ s2) s1) hg hdb s1 hpl
def kQ{e1 e2 e3:Expr}{t1 t2 t3:TE}(F:fL cY X.prog X.w X.K X.mg X.base k x ps sp)(h1:Yr e1 t1)(h2:Yr e2 t2)(h3:Yr e3 t3)(s1:Y1X [e1,e2,e3]=(false,Y0d e1)::Y1X [e2,e3]:=by exact Se)(s2:Y1X [e2,e3]=(false,Y0d e2)::Y33 e3:=by exact Se)(s3:Y33 e3=(false,Y0d e3)::Y1X []:=by exact Se)(hr:Y52 k:=by exact iZ.mono ‹_› Dd)(hg:Y37:=by rfl)(hdb:Y1F ("__debug__" : Str):=by decide)(hpl:Yx ((backTo pos (starEach [e2,e3] X.env)).any (·.1)):=by repeat (first | exact qE | refine nI Se ?_)):Y8U x [e1,e2,e3] [] (zJ sp [] E0 (qI t1 (qI t2 (qI t3 MK)))):=tN F hr (bB h1 (bB h2 (bB h3 aQ s3) s2) s1) hg hdb s1 hpl
def VX{e1 e2 e3 e4:Expr}{t1 t2 t3 t4:TE}(F:fL cY X.prog X.w X.K X.mg X.base k x ps sp)(h1:Yr e1 t1)(h2:Yr e2 t2)(h3:Yr e3 t3)(h4:Yr e4 t4)(s1:Y1X [e1,e2,e3,e4]=(false,Y0d e1)::Y1X [e2,e3,e4]:=by exact Se)(s2:Y1X [e2,e3,e4]=(false,Y0d e2)::Y1X [e3,e4]:=by exact Se)(s3:Y1X [e3,e4]=(false,Y0d e3)::Y33 e4:=by exact Se)(s4:Y33 e4=(false,Y0d e4)::Y1X []:=by exact Se)(hr:Y52 k:=by exact iZ.mono ‹_› Dd)(hg:Y37:=by rfl)(hdb:Y1F ("__debug__" : Str):=by decide)(hpl:Yx ((backTo pos (starEach [e2,e3,e4] X.env)).any (·.1)):=by repeat (first | exact qE | refine nI Se ?_)):Y8U x [e1,e2,e3,e4] [] (zJ sp [] E0 (qI t1 (qI t2 (qI t3 (qI t4 MK))))):=tN F hr (bB h1 (bB h2 (bB h3 (bB h4 aQ s4) s3) s2) s1) hg hdb s1 hpl
def iV(hc:Y45 id rl)(hg:Y37)(hm:Y6x=none)(hv:Y9x=Y8y id)(ha:LY X (e::es) t)(hn:x ≠ "__name__" := by decide)(hdb:Y1F ("__debug__" : Str):=by decide)
  (he:Y3V=(false,Y1f)::Y2W:=by exact Se) (hpl:Yx ((backTo pos (starEach es X.env)).any (·.1)):=by repeat (first | exact qE | refine nI Se ?_)):Y8U x (e::es) [] (tCB rl t) :=
 ⟨YC hc hg hm hv ha.p hn hdb he hpl⟩
def jU(hc:Ybi X T rl)(hg:Y37)(hm:Y6x=none)(hv:Y9x=some (.type T))(ha:LY X (e::es) t)(hn:x ≠ "__name__" := by decide)(hdb:Y1F ("__debug__" : Str):=by decide)
  (he:Y3V=(false,Y1f)::Y2W:=by exact Se) (hpl:Yx ((backTo pos (starEach es X.env)).any (·.1)):=by repeat (first | exact qE | refine nI Se ?_)):Y8U x (e::es) [] (tCB rl t) :=
 ⟨TL hc hg hm hv ha.p hn hdb he hpl⟩
def sX{name:Str}{apos cpos:Pos}{r:V->Y1v}(pa:PlainAttrs T)(slot:Slot T name id)(hty:typeOf (.builtin id)=pure (.type "method_descriptor"))(hm:MtR X id r)(ho:Yr o to)(ha:LY X (e::es) t)
  (hbase:attributeBase o name X.env (Y0d o)=Y0d o:=by rfl)
  (hfew:((backTo cpos (starEach (e::es) X.env)).all (λx=>! x.1)&&(backToKw cpos (keywordEach [] X.env)).all (λx=>x.1.isSome)
   && Y22 ((e::es).length+([]:List Keyword).length+(if([]:List Keyword).isEmpty then 0 else 1)) 30)=true:=by rfl)
  (hline:(YaL)=true:=by rfl) (hs:Y3V=(false,Y1f)::Y2W:=by exact Se) (hplain:Yx ((backTo cpos (starEach es X.env)).any (·.1)):=by repeat (first | exact qE | refine nI Se ?_)) :
  Yr (Y94 name (e::es) [] cpos) (tBM X.K T r to t):=⟨aGG pa slot hty hm ho.p ha.p hbase hfew hline hs hplain⟩
def fA:EE X [] aCO:=⟨pss_nil⟩
def aH(h1:IR X st ts)(h2:EE X sts us):EE X (st::sts) (aDq ts us):=⟨XM h1.p h2.p⟩
def aR(h1:IR X st ts):EE X [st] ts:=⟨aBx h1.p⟩
def lA(he:Y8p e)(hs:YeU e none pos.line=Y4M:=by rfl):IR X (.Expr e pos) (aCR te):=⟨aBy he.p hs⟩
def cG(he:Y8p e):IR X (.Return (Y7f) pos) (aGd te):=⟨aEK he.p⟩
def iE{c:Expr}{a b:Y5w}(hc:OE X c tA)(ha:EE X a ts)(hb:EE X b us):IR X (.If c a b pos) (aGg tA ts us):=⟨aGy hc.p ha.p hb.p⟩
def tL(h:IR X st ts):IR X st (aGk ts):=⟨aEO h.p⟩
def dG{i:Nat}{x:Str}(hN:X.N.Nodup)(hi:Y3r=Y8)(hx:Y9w x)(hf:Y8b=true\/Y6s x:=by first | exact .inl rfl | exact .inr rfl | assumption):PGw X (Y85) (mG i):=⟨HC hN hi hx hf⟩
def lB:aCF X [] aFq:=⟨pgs_nil⟩
def eT{t:TG}{u:TGs}(h1:PGw X e t)(h2:aCF X es u)
  (hs:(assignEach (e::es) X.env).map (·.2)=Ycp e::(assignEach es X.env).map (·.2):=by rfl):aCF X (e::es) (ZK t u):=⟨XW h1.p h2.p hs⟩
def nY{k:Nat}{t:TGs}{n:Nat}(hc:Y1z)(h:aCF X es t)
  (hn:(assignEach es X.env).length=n:=by rfl) (hst:(assignEach es X.env).findIdx? (·.1)=none:=by rfl):PGw X (.Tuple es k pos) (aFp X.K n t):=⟨aET hc h.p hn hst⟩
def GE{i:Expr}{ti:TE}{t:aCC}(ho:Yr o to)(hi:Yr i ti)(hs:aFO X t)
  (ha:∀v,assign (.Subscript o i pos) X.env v=(do
   let ov <-holding [v] (eval o X.env)
   let iv <-holding [v,ov] (eval i X.env)
   standAt pos
   holding [v,ov,iv] (setItem ov iv v)
   release [v,ov,iv] []):=by intro _;rfl):PGw X (Y7G o i) (aGQ to ti t):=⟨aEU ho.p hi.p hs ha⟩
def GB{g:TG}(he:Y8p e)(hg:PGw X tg g)(hs:Ydy [tg] e X.env=Y4M:=by rfl)(hw:YdG [tg] e=pure none:=by rfl)(h1:(assignEach [tg] X.env).map (·.2)=[Ycp tg]:=by rfl):IR X (Y68 [tg] e) (IY te g):=⟨aEP he.p hg.p hs hw h1⟩
def oW{i:Nat}{pos':Pos}(hN:X.N.Nodup)(hi:Y3r=Y8)(hx:Y9w x)(he:Y8p e)(hs:Y9T e Yby=Y4M:=by rfl)(hf:Y8b=true\/Y6s x:=by first | exact .inl rfl | exact .inr rfl | assumption) :
  IR X (Y68 [Yby] e) (IY te (mG i)):=⟨aEJ hN hi hx he.p hs hf⟩
def cK{i:Nat}{pos':Pos}(hN:X.N.Nodup)(he:Y8p e)(hi:Y3r=Y8:=by rfl)(hx:Y9w x:=by exact Or.inl rfl)(hs:Y9T e Yby=Y4M:=by rfl)(hf:Y8b=true\/Y6s x:=by first | exact .inl rfl | exact .inr rfl | assumption) :
  IR X (Y68 [Yby] e) (IY te (mG i)):=oW hN hi hx he hs hf
def aDk{i j:Nat}{x y:Str}{ta:TA}{px py pt:Pos}{kt k2 pt2}(hc:Y1z)(hN:X.N.Nodup)(hi:Y3r=Y8)(hj:X.N[j]?=Y09)(hij:i≠j)
  (hx:Y6s x) (hy:Y6s y) (ha:LY X [a,b] ta)
  (hw:YdG [Y9u [Y3P,Y4A] kt] (Ybg [a,b] k2)=pure (some [x,y]))
  (hs:Ydy [Y9u [Y3P,Y4A] kt] (Ybg [a,b] k2) X.env=Y4M:=by rfl) :
  IR X (Y68 [Y9u [Y3P,Y4A] kt] (Ybg [a,b] k2)) (aGe i j ta):=⟨aEL hc hN hi hj hij hx hy ha.p hw hs⟩
def wH{c:Expr}{tc:TT}{tb:TS}(hp:Ycj Y75 X.A X.xe)(hc:OE X c tc)(hb:EE X body tb):IR X (.While c body [] pos) (GM (vI tc) tb):=⟨TF hp hc.p hb.p⟩
def eC{l:Expr}{tl:TE}(hl:Yr l tl):OH X tg l (ZC X.K tl):=⟨aBC hl.p⟩
def vT{l:Expr}{tl:TE}(hl:Yr l tl):OH X tg l (aGO X.K tl):=⟨aES hl.p⟩
def fU{a:Expr}{ta:TA}{p pos:Pos}(hg:Gl X "range")(hm:X.mg "range" = none)(ha:LY X [a] ta)(hs:Y33 a=[(false,Y0d a)]:=by exact Se):OH X tg (Y4v "range" [a] []) (aC3 ta):=⟨TK hg hm ha.p hs⟩
def SN{a b:Expr}{ta:TA}{p pos:Pos}(hg:Gl X "range")(hm:X.mg "range" = none)(ha:LY X [a,b] ta)(hs:Y1X [a,b]=[(false,Y0d a),(false,Y0d b)]:=by rfl)(hs2:Y33 b=[(false,Y0d b)]:=by exact Se) :
  OH X tg (Y4v "range" [a,b] []) (aC2 ta):=⟨TJ hg hm ha.p hs hs2⟩
def gL{iter:Expr}{wi:TI}{g:TG}{tb:TS}{pos:Pos}(hp:Ycj Y75 X.A X.xe)(hc:Y1z)(hi:OH X tg iter wi)(hg:PGw X tg g)(hb:EE X body tb)
  (hs:∀x,Y6Z x=Y7j:=by intro _;rfl):IR X (.For tg iter body [] pos) (aGh wi g tb):=⟨aEM hp hc hi.p hg.p hb.p hs⟩
end
def iQ.okw{P:Program}{w:World}{K:Aa}{mg:Y0C}{base:Heap}{x qual:Str}{st:Stmt}{f:Addr}{fd:FuncData}{N ps:Ah}{k:Nat}{sp:Sp}(F:Yc x qual st)(S:Ye N ps st)(len:∀vs H Q E,sp vs H Q E->YaK)
  (hbody:∀(cdv:Value) (A:Around) (outer:Y3d) (s:Shared) (H:Hp) (vs:Al) (Q:VK) (E:XK),iZ k (Ycl (bA st) f cdv)->sp vs H Q E ->
   ∃t,EE (KR cY P w K mg base N qual (bA st) f cdv A outer s H E).nox (kL st) t/\t { nx:=λ_ H'=>Q .non H',rt:=Q } (YbD N) H):dP P w K mg base cY (k+1) f fd ps sp :=
 F.ok S len λcdv A outer s H vs Q E c h=>by
  obtain⟨t,a,d⟩:=hbody cdv A outer s H vs Q E c h;exact⟨t,a.p,d⟩
def iQ.oky{P:Program}{w:World}{K:Aa}{mg:Y0C}{base:Heap}{x qual:Str}{st:Stmt}{f:Addr}{fd:FuncData}{N ps:Ah}{k:Nat}{sp:Sp}(F:Yc x qual st)(S:Ye N ps st)
  (h:∀(vs:Al) (H:Hp) (Q:VK) (E:XK),sp vs H Q E->YaK/\∀(cdv:Value) (A:Around) (outer:Y3d) (s:Shared),iZ k (A.deeper (envOfC qual (bA st) s.heap.objs.size f cdv)) ->
   let X:=(KR cY P w K mg base N qual (bA st) f cdv A outer s H E).nox;∃t,EE X (kL st) t/\t { nx:=λ_ H'=>Q .non H',rt:=Q } (start N vs) H):dP P w K mg base cY (k+1) f fd ps sp :=
 F.okw S (λvs H Q E q=>(h vs H Q E q).1) λcdv A outer s H vs Q E a q=>(h vs H Q E q).2 cdv A outer s a
def KH(a b:Int):(Int.gcd b (a % b))=(Int.gcd a b):=by
 have h:=Int.gcd_add_mul_right_right b (a % b) (a/b);rw[show a % b+a/b*b=a from by have:=Int.emod_add_mul_ediv a b;rw[Int.mul_comm];exact this]at h;rw[<-h,Int.gcd_comm]
def QV{a:Int}(h:0<a):(Int.gcd a 0:Int)=a:=by rw[Int.gcd_zero_right];exact Oo
section
variable{H:Hp}{x:V}{d:PyData}{Q:VK}
end
theorem bG.len{H:Hp}:∀{ds:Y0Z}{vs:Al},Y7l->Y4K ds.length
 | [],_,h=>by cases(show _=[]from h);rfl
 | d::ds,_,h=>by
  unfold bG at h;obtain⟨x,xs,rfl,_,h2⟩:=h;simp[bG.len h2]
section
variable{p:Addr}{σ:St}{t:TE}{ta:TA}{d:PyData}{ds:Y0Z}
end
theorem bG.append{H:Hp}{es:Y0Z}{ws:Al}(h':Y1q es ws):∀{ds:Y0Z}{vs:Al},Y7l->Y1q (ds++es) (vs++ws)
 | [],_,h=>by cases(show _=[]from h);exact h'
 | d::ds,_,h=>by
  unfold bG at h;obtain⟨x,xs,rfl,h1,h2⟩:=h;exact bG.cons h1 (bG.append h' h2)
end L2
namespace L2
end L2
namespace L2
open PySem PySem.Spec PyProof.Rows
def aU.thru{l:Addr}{H0 H1 H2:Hp}(hl:H0 l=none)(s:aU H0 H1)(b:aX l H1 H2):aU H0 H2:=λc o e=>by
 have n:c≠l:=dU e hl;exact b.at n (s _ _ e)
def NY{H:Hp}{l b:Addr}{xs zs:Al}{Q:VK}(h1:H l=Y0G)(h2:H b=Yi zs)(hz:Yea<=1000)(k:∀q H',H q=none->H' q=Yi (xs++zs)->Y1->Y0E q):aGw (Y1m) (Y0k) H Q :=
 ⟨l,b,xs,zs,rfl,rfl,h1,h2,Nat.le_of_lt (yE hz),λq a=>k q _ a bP (aU.upd a)⟩
@[irreducible] def aBr:V->Y1v:=QD
def uB{X:Cx}:MtR X "list.append" aBr:=by unfold aBr;exact EZ
def LO{H:Hp}{l:Addr}{xs:Al}{y:V}{Q:VK}(h:H l=Y0G)(hz:Y6J 1000)(k:∀H',H' l=Yi (xs++[y])->Y6M l->Ybz):aBr (Y1m) [y] H Q:=by
 unfold aBr;exact Y1U l xs y rfl h (yE hz) (k _ bP aX.self)
def VJ{K:Aa}{H:Hp}{l:Addr}{xs:Al}(h:H l=Y0G):tyV K "list" (Y1m) H:=.inl ⟨rfl,xs,Y8W⟩
inductive Ex1 {A0:Sort _} (p:Y1k A0):Prop | mk (a0:A0) (h:p a0)
inductive Ex2 {A0 A1:Sort _} (p:Y0r A0 A1):Prop | mk (a0:A0) (a1:A1) (h:p a0 a1)
inductive Ex3 {A0 A1 A2:Sort _} (p:A0->Y0r A1 A2):Prop | mk (a0:A0) (a1:A1) (a2:A2) (h:p a0 a1 a2)
inductive Ex4 {A0 A1 A2 A3:Sort _} (p:A0->A1->Y0r A2 A3):Prop | mk (a0:A0) (a1:A1) (a2:A2) (a3:A3) (h:p a0 a1 a2 a3)
inductive Ex5 {A0 A1 A2 A3 A4:Sort _} (p:A0->A1->A2->Y0r A3 A4):Prop | mk (a0:A0) (a1:A1) (a2:A2) (a3:A3) (a4:A4) (h:p a0 a1 a2 a3 a4)
inductive Ex6 {A0 A1 A2 A3 A4 A5:Sort _} (p:A0->A1->A2->A3->Y0r A4 A5):Prop | mk (a0:A0) (a1:A1) (a2:A2) (a3:A3) (a4:A4) (a5:A5) (h:p a0 a1 a2 a3 a4 a5)
inductive Ex7 {A0 A1 A2 A3 A4 A5 A6:Sort _} (p:A0->A1->A2->A3->A4->Y0r A5 A6):Prop | mk (a0:A0) (a1:A1) (a2:A2) (a3:A3) (a4:A4) (a5:A5) (a6:A6) (h:p a0 a1 a2 a3 a4 a5 a6)
inductive An2 (A0 A1:Prop):Prop | mk (h0:A0) (h1:A1)
inductive An3 (A0 A1 A2:Prop):Prop | mk (h0:A0) (h1:A1) (h2:A2)
inductive An4 (A0 A1 A2 A3:Prop):Prop | mk (h0:A0) (h1:A1) (h2:A2) (h3:A3)
inductive An5 (A0 A1 A2 A3 A4:Prop):Prop | mk (h0:A0) (h1:A1) (h2:A2) (h3:A3) (h4:A4)
inductive An6 (A0 A1 A2 A3 A4 A5:Prop):Prop | mk (h0:A0) (h1:A1) (h2:A2) (h3:A3) (h4:A4) (h5:A5)
inductive An7 (A0 A1 A2 A3 A4 A5 A6:Prop):Prop | mk (h0:A0) (h1:A1) (h2:A2) (h3:A3) (h4:A4) (h5:A5) (h6:A6)
inductive An8 (A0 A1 A2 A3 A4 A5 A6 A7:Prop):Prop | mk (h0:A0) (h1:A1) (h2:A2) (h3:A3) (h4:A4) (h5:A5) (h6:A6) (h7:A7)
inductive An9 (A0 A1 A2 A3 A4 A5 A6 A7 A8:Prop):Prop | mk (h0:A0) (h1:A1) (h2:A2) (h3:A3) (h4:A4) (h5:A5) (h6:A6) (h7:A7) (h8:A8)
inductive aJJ (A0 A1 A2 A3 A4 A5 A6 A7 A8 A9:Prop):Prop | mk (h0:A0) (h1:A1) (h2:A2) (h3:A3) (h4:A4) (h5:A5) (h6:A6) (h7:A7) (h8:A8) (h9:A9)
def fH{t u:TS}{D:sW}{σ:St}{H:Hp}(h:let D':=D;let N:=u D';t { D' with nx:=N } σ H):aDq t u D σ H:=h
def kR{N b c:Y1y}{r:VK}{σ:St}{H:Hp}{i:Nat}{v:V}(h:N (Ycm i) H):mG i v σ H (sW.mk N r b c).nx:=h
def IP{N:Y1y}{σ:St}{H:Hp}{i:Nat}{v:V}(h:N (Ycm i) H):mG i v σ H N:=h
def MP{N b c:Y1y}{r:VK}{σ:St}{H:Hp}(h:N σ H):(sW.mk N r b c).nx σ H:=h
def vJ{t:TS}{D:sW}{σ:St}{H:Hp}(h:let D':=D;t D' σ H):t D σ H:=h
def rG(env:Env):Y6K->Y3e->Y3e
 | [],cs=>cs
 | (n,k)::r,cs=>if k == .free then rG env r ((n,(env.cells.lookup n).getD 0)::cs) else rG env r cs
theorem RS(env:Env):∀(l:Y6K) (cs:Y3e),(∀y∈l,y.2=.free->∃c,Yck y.1 Y1u) ->
  (forIn l cs λ(x:Str × NameKind) r=>if x.2 == .free then(do let c <-cellOf env x.1;pure (ForInStep.yield ((x.1,c)::r)):Sem _) else pure (ForInStep.yield r))=pure (rG env l cs)
 | [],cs,_=>rfl
 | (n,k)::r,cs,h=>by
  rw[List.forIn_cons];have ih:=λcs=>RS env r cs λy d=>h y (aY _ d);by_cases hk:(k == NameKind.free)=true
  ·obtain⟨c,a⟩:=h (n,k) aS (by simpa using hk);dsimp only at a;simp only[hk,if_true,rG,a,Option.getD_some,cellOf,pure_bind];exact ih _
  ·simp only[hk,rG,pure_bind];exact ih _
def vO{env:Env}{scope:Scope}(h:∀y∈scope.names,y.2=.free->∃c,Yck y.1 Y1u):closureFor scope env=pure (rG env scope.names []):=by
 have e:=RS env scope.names [] h;unfold closureFor;simp only[bind_pure];exact e
theorem yV{env:Env}:∀(l:Y6K) (cs:Y3e),(∀y∈l,y.2=.free->∃c,Yck y.1 Y1u)->∀p∈rG env l cs,p∈cs\/Yck p.1 (some p.2)
 | [],cs,_,p,hp=>.inl hp
 | (n,k)::r,cs,h,p,hp=>by
  have h':∀y∈r,y.2=.free->∃c,env.cells.lookup y.1=some c:=λy e=>h y (aY _ e);unfold rG at hp;by_cases hk:(k == NameKind.free)=true
  ·rw[if_pos hk]at hp;obtain⟨c,d⟩:=h (n,k) aS (by simpa using hk);rcases yV r _ h' p hp with a | a
   ·rcases bK.mp a with rfl | a
    ·exact .inr (by dsimp only at d ⊢;rw[d];rfl)
    ·exact .inl a
   ·exact .inr a
  ·rw[if_neg hk]at hp;exact yV r cs h' p hp
theorem yX{env:Env}:∀(l:Y6K) (cs:Y3e),∀p∈cs,p∈rG env l cs
 | [],_,_,hp=>hp
 | (n,k)::r,cs,p,hp=>by
  unfold rG;by_cases hk:(k == NameKind.free)=true
  ·rw[if_pos hk];exact yX r _ p (aY _ hp)
  ·rw[if_neg hk];exact yX r _ p hp
theorem yW{env:Env}:∀(l:Y6K) (cs:Y3e) (y:Str),(y,NameKind.free)∈l->∃a,(y,a)∈rG env l cs
 | (n,k)::r,cs,y,hy=>by
  unfold rG;rcases bK.mp hy with e | hm
  ·cases e;rw[if_pos (by rfl)];exact⟨_,yX r _ _ aS⟩
  ·by_cases hk:(k == NameKind.free)=true
   ·rw[if_pos hk];exact yW r _ y hm
   ·rw[if_neg hk];exact yW r _ y hm
theorem sM{α β:Type}[BEq α][LawfulBEq α]{x:α}{c:β}:∀{l:Y3A α β},l.lookup x=Y1u->(x,c)∈l
 | [],h=>by cases h
 | (a,b)::r,h=>by
  rw[List.lookup_cons]at h;by_cases e:(x == a)=true
  ·rw[e]at h;have:x=a:=by simpa using e
   subst this;cases h;exact aS
  ·have d:(x == a)=false:=by simpa using e
   rw[d]at h;exact aY _ (sM h)
theorem sL{α β:Type}[BEq α][LawfulBEq α]{x:α}{c:β}:∀{l:Y3A α β},(x,c)∈l->∃c',l.lookup x=some c'
 | (a,b)::r,h=>by
  rw[List.lookup_cons];by_cases e:(x == a)=true
  ·rw[e];exact⟨_,rfl⟩
  ·have e':(x == a)=false:=by simpa using e
   rw[e'];rcases bK.mp h with q | q
   ·cases q;simp at e
   ·exact sL q
def DO(X:Cx)(scope:Scope):Y3e:=rG X.env scope.names []
def jM{X:Cx}{scope:Scope}(h:∀y∈scope.names,y.2=.free->Yd5 y.1){x:Str}{c:Addr}(e:(DO X scope).lookup x=Y1u):Y3T:=by
 rcases yV scope.names [] h _ (sM e)with a | a
 ·cases a
 ·exact a
def uG{X:Cx}{scope:Scope}(h:∀y∈scope.names,y.2=.free->Yd5 y.1){x:Str}(hx:Y9A (x,NameKind.free)){c:Addr}(e:Y3T):(DO X scope).lookup x=Y1u:=by
 obtain⟨a,g⟩:=yW (env:=X.env) scope.names [] x hx;obtain⟨i,d⟩:=sL g;have:=jM h d;rw[e]at this;cases this;exact d
def IQ(X:Cx)(scope:Scope)(C:Addr)(fp:Y0s)(s₀:Shared)(H₀:Hp)(N':Ah):Cx where
 prog:=X.prog
 w:=X.w
 K:=X.K
 mg:=X.mg
 base:=X.base
 A:=X.A
 N:=N'
 s₀:=s₀
 H₀:=H₀
 env:=compEnvC scope (Y8S X) C X.env
 outer:=X.stack
 stack:=X.stack
 ex:=fp
 fn:=Yew
 calm:=true
 pn:=[]
 xe:=Ych
def slots(σ:St)(js:Ae):St:=js.map λj=>(σ[j]?).getD none
def PTs(X:Cx)(ifs:Y0f)(t:TT):Prop :=
 ∀(pins:Ad) (s:Shared) (σ:St) (H:Hp) (Q:Ybx),Y5->t σ H Q ->
  Y4Z (forIn ifs true λc r=>if r=true then do let ok <-isTrue c X.env (eval c X.env);pure (ForInStep.yield ok) else pure (ForInStep.yield r)) (TP X pins σ Q)
def BQ:TT:=λ_ H Q=>Q true H
def pts_nil{X:Cx}:PTs X [] BQ:=λa s σ H Q I h=>wpAny_tests_nil ⟨H,I,h⟩
def aBv{X:Cx}{c:Expr}{t:TT}(h:PT X c t):PTs X [c] t:=λa s σ H Q I q=>wpAny_tests_one (h a s σ H Q I q)
structure dY(X:Cx)(scope:Scope)(xs:Ah)(N':Ah)(js:Ae):Prop where
 calm:Y1z
 free:∀y∈scope.names,y.2=.free->Y6Q y.1 Y2d
 cell:∀y∈scope.names,y.2 ≠ .cell
 kind:Yg8
 names:∀y∈scope.names,y.2=.local->Y86 y.1
 own:∀x∈xs,Y86 x
 nofl:∀y,Y9A (y,NameKind.free)->Y86 y->False
 len:N'.length=Y6L js.length
 pre:∀(i:Nat) x,Y0q=Y8->N'[i]?=Y8
 nd:N'.Nodup
 slot:∀(i:Nat) (j:Nat),js[i]?=Y7h->∃y,N'[Y6L i]?=Y09/\X.N[j]?=Y09/\Y9A (y,NameKind.free)
abbrev dS(X:Cx)(scope:Scope)(x:Str)(N':Ah)(js:Ae):Prop:=Y4H [x]
def FL(X:Cx)(scope:Scope)(cl:Y3e)(φ:Y1Q Str)(C:Addr)(fp:Y0s)(s₀:Shared)(H₀:Hp)(N':Ah):Cx:={ IQ X scope C fp s₀ H₀ N' with env:=compEnvC scope cl C X.env,fn:=φ }
section
variable{X:Cx}{pins:Ad}{σ:St}{H:Hp}{s:Shared}{scope:Scope}{xs:Ah}{N':Ah}{js:Ae}{fp:Y0s}
theorem qA{env:Env}:∀{names:Y6K}{y:Str}{k:NameKind},(names.map λ(n,k)=>if(k == NameKind.free&&env.scope.kind == .function&&env.kindOf n == some .cell) then(n,NameKind.cell) else(n,k)).lookup y=some k ->
  (k=.cell\/k=.free)->(∀z∈names,z.2 ≠ .cell)->(y,NameKind.free)∈names
 | [],_,_,h,_,_=>by cases h
 | (n,q)::r,y,k,h,hk,hc=>by
  rw[bE,List.lookup_cons]at h;have ih:=λh=>@qA env r y k h hk λz d=>hc z (aY _ d);by_cases hq:(q == NameKind.free&&env.scope.kind == .function&&env.kindOf n == some .cell)=true
  ·dsimp only at h;rw[if_pos hq]at h;have g:q=.free:=by
    rw[dM,dM]at hq;simpa using hq.1.1
   subst g;by_cases e:(y == n)=true
   ·have:y=n:=by simpa using e
    subst this;exact aS
   ·have a:(y == n)=false:=by simpa using e
    dsimp only at h;rw[a]at h;exact aY _ (ih h)
  ·dsimp only at h;rw[if_neg hq]at h;by_cases e:(y == n)=true
   ·have:y=n:=by simpa using e
    subst this;dsimp only at h;rw[e]at h;have c:k=q:=by injection h with h;exact h.symm
    subst c;rcases hk with rfl | rfl
    ·exact absurd rfl (hc _ aS)
    ·exact aS
   ·have a:(y == n)=false:=by simpa using e
    dsimp only at h;rw[a]at h;exact aY _ (ih h)
theorem dY.cells(S:Y4H xs)(ok:X.Ok):∀y∈scope.names,y.2=.free->Yd5 y.1:=λy a d=>ok.has _ (.inl (S.free y a d))
def aCc(S:Y4H xs)(I:Y5)(hf:∀b∈fp,Y40 H)(hb:∀b∈fp,Y4I b):(IQ X scope s.heap.objs.size fp s H N').Ok where
 mod:=I.ok.mod
 kind:=S.kind
 glob:=I.ok.glob
 blt:=I.ok.blt
 above:=Yq
 inj:=λy z c m d=>I.ok.inj y z c (Y6l m) (Y6l d)
 has:=λy g=>by
  have i:Y9A (y,NameKind.free):=by
   rcases g with g | g
   ·exact qA (env:=X.env) g (Y62) S.cell
   ·exact qA (env:=X.env) g (Ybv) S.cell
  obtain⟨c,j⟩:=S.cells I.ok _ i rfl;exact⟨c,uG (Yal) i j⟩
 cab:=λ_ _ h=>by cases h
 hd:=λ_=>I.ok.hd S.calm
 frames:=I.ok.frames
 stk:=Y62
 exf:=λb a=>⟨λe=>by have:=hb b a;rw[e]at this;exact Y5W,λy c h=>(hf b a).2.2.2.2.1 y c (Y6l h)⟩
 bs:=I.bs
 bsz:=YcA I.sz
 noex:=λb o e a=>by
  rcases(hf b a).2.2.2.1 with h | h
  ·exact I.ok.noex b o e h
  ·exact absurd (aO (bN e) (YcA h)) (cO _)
 exfs:=λb a l=>by
  have d:=I.stkSub b l;rcases bK.mp d with d | d
  ·exact(hf b a).2.1 d
  ·exact(hf b a).2.2.1 d
 funs:=I.stack
 frf:=I.stkFree
def EU{i j:Nat}(h:js[i]?=Y7h):(Y0X)[i]?=some ((σ[j]?).getD none):=by
 unfold slots;rw[aF,h];rfl
def ZV{h':Heap}{tk:Nat}(S:Y4H xs)(I:Y5)(hf:∀b∈fp,Y40 H)(hb:∀b∈fp,Y4I b)
  (hn:h'.Ns s.heap.objs.size (Y9N)) (hk:∀b o,Y28->Y1a=Yb):dA (IQ X scope s.heap.objs.size fp s H N') [] (Yfx xs.length++Y0X) H { s with heap:=h',toks:=tk } where
 ok:=aCc S I hf hb
 os:=rfl
 bare:=I.bare
 base:=Un.kept hk
 loc:=by
  refine Y0K hn (λi y v T D a=>?_);by_cases hlt0:Y59
  ·rw[cQ (by rw[bH];exact hlt0),List.getElem?_replicate,if_pos hlt0]at D;cases D
  ·obtain⟨i,rfl⟩:∃k,i=Y6L k:=Y2q (i-xs.length);rw[cJ (by rw[bH];exact Oo),bH,Nat.add_sub_cancel_left]at D;have d:(Y0X)[i]?=Yb2:=D;have J:i<js.length:=by
    have:=(aC.mp d).1;unfold slots at this
    rwa [aA]at this
   have O:js[i]?=some js[i]:=aB J;obtain⟨z,β,Z,G⟩:=S.slot i _ O;have L:z=y:=by
    have:N'[Y6L i]?=Y09:=T;rw[β]at this;cases this;rfl
   subst L;rw[EU O]at d;have U:σ[js[i]]?=Yb2:=by
    cases q:σ[js[i]]? with
    | none=>rw[q]at d;cases d
    | some o=>rw[q]at d;cases d;rfl
   have B:Y6Q z Y2d:=S.free _ G rfl;obtain⟨m,γ,P⟩:=I.loc;obtain⟨u,ru,W⟩:=P _ z v Z U (YaZ B);rcases W with⟨A,_⟩ | ⟨_,c,R,g⟩
   ·rw[B]at A;cases A
   ·refine⟨u,ru,.inr (Y2v ?_ c (uG (Yal) G R))⟩
    ·rcases a with a | a | a
     ·exfalso;have j:=sM (l:=(relabel scope X.env).names) a;unfold relabel at j;obtain⟨⟨n,k⟩,w,C⟩:=aM.mp j;dsimp only at C;by_cases hq:(k == NameKind.free&&YdB .function&&X.env.kindOf n == Y2d)=true
      ·rw[if_pos hq]at C;cases C
      ·rw[if_neg hq]at C;cases C;have:=S.names _ w rfl;have N:=sL G;obtain⟨δ,N⟩:=N;dsimp only at this;rw[this]at N;have M:Y86 z:=this;exact S.nofl z G M
     ·exact .inl a
     ·exact .inr a
    ·obtain⟨o,e,r⟩:=g;exact Y1B (hk _ _ e) r
 cell:=λy c h=>by
  obtain⟨v,o,e,r⟩:=Y7Z y (Y6l h);exact⟨v,o,hk _ _ e,r⟩
 free:=Y5S
 freeC:=λy c h=>Ya4 y (Y6l h)
 pin:=λp α=>by cases α
 hok:=I.hok.kept hk
 len:=by
  rw[aZ,bH];unfold slots;rw[aA];exact S.len.symm
def tK.but{P:Program}{w:World}{H:Hp}{h h':Heap}{C:Addr}(x:tK P w H h)(hC:H C=none)(k:∀b u,b≠C->Y1O=Yp->Y1a=Yp):tK P w H h':=λa o e =>
 (x a o e).stay (λb u c q=>k b u (by
  rcases c with rfl | c
  ·exact dU e hC
  ·exact dU c hC) q) (YcU) Y9E
def RN{cl:Y3e}{φ:Y1Q Str}{H2:Hp}{σ':St}{s2:Shared}{h'':Heap}(I:Y5)(hf:∀b∈fp,Y40 H)
  (J:dA (Y3M X cl φ s.heap.objs.size fp s H N') [] σ' H2 s2) (hs:Heap.SameBut s.heap.objs.size s2.heap h''):Y49 H2 ({ s2 with heap:=h'' }):=by
 have h:H2 s.heap.objs.size=none:=J.free;have ne:∀{b:Addr} {o:Obj},Y28->YdE b:=λe q=>by
  have:=bN e;rw[q]at this;exact Y5W
 refine I.call' (s':={ s2 with heap:=h'' }) (ch:=fp) (by rw[show({ s2 with heap:=h'' }:Shared).os=s2.os from rfl];exact J.os) ?_ (J.hok.but h λb u a q=>hs.extBut b u a q) J.bare λb a=>⟨(hf b a).2.2.2.1,(hf b a).2.1,(hf b a).2.2.2.2.1,(hf b a).2.2.2.2.2⟩;have U:=J.base;exact {
  keep:=λb o e n d c=>hs.extBut b o (ne e) (U.keep b o e n d c)
  slot:=λb o e n d c=>by
   obtain⟨sl,q⟩:=U.slot b o e n d c;exact⟨sl,hs.extBut b _ (ne e) q⟩
  free:=U.free
  there:=λb o e c=>by
   obtain⟨g,q⟩:=U.there b o e c;exact⟨g,hs.extBut b _ (ne e) q⟩
  tups:=U.tups
  frzs:=U.frzs
  tbls:=U.tbls }
end
abbrev NoX:Yd:=Ych
def HZ{prog:Program}{w:World}{A:Around}{R:Y1j Result}{s:Shared}{elt target iter:Expr}{ifs:Y0f}{scope:Scope}{pos:Pos}{it acc:Value}{env:Env}(I:Y1j Nat)
  (turn:∀n s,I n s->wpAny (model prog w) A (pyNext it) (λr s₁=>match r with
   | none=>R (.ok .next) s₁
   | some v=>wpAny (model prog w) A (letOwnedTupleGo target it v) (λ_ s₁'=>wpAny (model prog w) A (assign target env v) (λ_ s₂ =>
     wpAny (model prog w) A (forIn ifs true λc r=>if r=true then do let ok <-isTrue c env (eval c env);pure (ForInStep.yield ok) else pure (ForInStep.yield r)) (λok s₃ =>
      if ok=true then wpAny (model prog w) A (eval elt env) (λx s₄=>wpAny (model prog w) A (call (.builtin "list.append") [acc,x]) (λ_ s₅=>∃m,m<n/\I m s₅) NoX s₄) NoX s₃
      else ∃m,m<n/\I m s₃) NoX s₂) NoX s₁') NoX s₁) NoX s)
  (n:Nat) (h:I n s):YaT prog w A (.compLoop (Y4l [Y4G target]) 0 it acc env) R s:=by
 refine codeAny_loop rfl I (λn s i=>?_) n h;show wpAny _ A ((compTurn (.ListComp elt [⟨target,iter,ifs,0⟩] scope pos) 0 it acc env).onRaise (λx=>do noteFrame x env;theTreesLotGoes x)) _ _ s;refine wpAny_noted ?_;rw[compTurn_list];refine Ydj (Y9k (turn n s i) (λr s₁ e=>?_) YaB);cases r with
 | none=>exact wpAny_pure e
 | some v =>
  refine Y9k e (λ_ s₁' d=>?_) YaB;refine Y9k d (λ_ s₂ l=>Y9k l (λok s₃ g=>?_) YaB) YaB;cases ok with
  | false=>exact wpAny_pure (Y0I g)
  | true =>
   exact YbR (wpAny_mono g (λx s₄ j=>Y9k j (λ_ s₅ p=>wpAny_pure (wpAny_pure (Y0I p))) YaB) YaB)
def LQ(GX:V->Y5l Al)(J:It)(σ:St)(js:Ae)(tc:TT)(te:TE)(H:Hp)(Q:VK):Prop:=∀D,H D=none->∃W:Nat->Nat->Al->Hp->Prop,(Y7n 0 m [] (Y43 D [])) /\
 ∀i m ys H2,W i m ys H2->H2 D=Y0t/\((J.stop i H2/\Y2x D H2)\/(Y8l H2/\Yb3 ys.length/\∀x H3,Y8j H2 x H3->∃vs,GX x H3 vs /\
  tc (Y6v) H3 λb H4=>if b=true then te (Y6v) H4 λy H5=>H5 D=Y0t/\∃m',m' < m/\W (i+1) m' (ys++[y]) (Y5j H5 D (ys++[y]))
   else H4 D=Y0t/\∃m',m' < m/\W (i+1) m' ys H4))
structure ON(X:Cx)(scope:Scope)(tg:Expr)(k:Nat)(cl:Addr->Y3e)(φ:Y1Q Str)(N':Ah)(js:Ae)(GX:V->Y5l Al)(gg:TG):Prop where
 cells:X.Ok->∀y∈scope.names,y.2=.free->Yd5 y.1
 kind:Yg8
 names:∀y∈scope.names,y.2=.local->Y86 y.1
 len:∀{x:V} {H:Hp} {vs:Al},GX x H vs->Y4K k
 beg:∀{pins:Ad} {σ:St} {H:Hp} {s:Shared} {fp:Y0s} {E:Yd} {Q:Y1j Env},Y5->(∀b∈fp,Y40 H)->(∀b∈fp,Y4I b) ->
  (∀(e:Env) (s4:Shared),{ e with scope:=relabel scope X.env }=compEnvC scope (cl s.heap.objs.size) s.heap.objs.size X.env->e.locals=s.heap.objs.size->dA (Y3M X (cl s.heap.objs.size) φ s.heap.objs.size fp s H N') [] (Yfx k++Y0X) H s4->(∀b o,Y28->s4.heap.get? b=Yb)->Q e s4) ->
  Y7C (newFunctionEnv scope X.env.globals (Y8S X) [] X.env.qual none .none (some X.env)) Q E s
 hg:∀C fp s₀ H₀,PG (Y3M X (cl C) φ C fp s₀ H₀ N') tg gg
 hx:∀{x:V} {H:Hp} {vs:Al} {os σ:St} {Q:Y1y},GX x H vs->os.length=k->Q (Y6v) H->gg x (os++Y0X) H Q
section
variable{X:Cx}{pins:Ad}{σ:St}{H:Hp}{s:Shared}{scope:Scope}{k:Nat}{cl:Addr->Y3e}{φ:Y1Q Str}{GX:V->Y5l Al}{gg:TG}{N':Ah}{js:Ae}{fp:Y0s}{elt iter tg:Expr}{pos:Pos}{ifs:Y0f}{tc:TT}{te:TE}
def zT{J:It}{it:Addr}{tn:Y7V Nat}{RR:Y64 (Addr->Y1j Result)}{E:Yd}{Q:VK}
  (B:ON X scope tg k cl φ N' js GX gg) (I:Y5) (T:LT X.prog X.w X.K tg J fp it tn) (h0:tn 0 s.heap) (hf:∀b∈fp,Y40 H)
  (ht:Yfy (Y3M X (cl C) φ C fp s₀ H₀ N') ifs tc) (he:YfE (Y3M X (cl C) φ C fp s₀ H₀ N') elt te) (R:LQ GX J σ js tc te H Q)
  (hRR:∀(D:Addr) (H3:Hp) (s3:Shared) (σ':St) (H':Hp) (s':Shared),Y49 H3 s3->(∀b∈fp,Y40 H3)->dA (Ye1 X Yc0 φ fp s3 H3 N') [] σ' H' s'->Y1g->RR (.ref D) s3.heap.objs.size (.ok .next) s') :
  wpAny (Y75) X.A (newList []) (λacc s₃=>wpAny (Y75) X.A (newFunctionEnv scope X.env.globals (Y8S X) [] X.env.qual none .none (some X.env)) (λcenv s₄ =>
   codeAny (Y75) X.A (.compStart (Y4l [Y4G tg]) 0 (Y81) acc { cenv with scope:=relabel scope X.env }) (RR acc cenv.locals) s₄) E s₃) E s:=by
 have O:∀b∈fp,Y4I b:=λb O=>by
  obtain⟨o,e,_⟩:=T.obj 0 _ h0 b O;exact bN e
 have η:H s.heap.objs.size=none:=Y5S;obtain⟨W,⟨m0,S⟩,hW⟩:=R _ η;have I3:Y49 (Y7D H []) ({ s with heap:=s.heap.push { cls:=.type "list",dict:=none,data:=.seq ([]:Ag).toArray } }):=I.lnew (its:=[]) (ys:=[]) (t':=s.toks) .nil (Y0H);have g:∀b∈fp,Y40 (Y7D H []):=λb a =>
  ⟨by rw[fF (λe=>by have:=O b a;rw[e]at this;exact Y5W)];exact(hf b a).1,(hf b a).2⟩
 have G:tn 0 ({ s with heap:=s.heap.push { cls:=.type "list",dict:=none,data:=.seq ([]:Ag).toArray } }:Shared).heap:=T.keep 0 _ _ h0 λb a o e=>Y3U;have L:∀b∈fp,b<({ s with heap:=s.heap.push { cls:=.type "list",dict:=none,data:=.seq ([]:Ag).toArray } }:Shared).heap.objs.size:=λb a=>by
  show b<(s.heap.push _).objs.size;rw[gY];exact Nat.lt_succ_of_lt (O b a)
 refine wpAny_newObj_type ?_;show Y5v _ ({ s with heap:=s.heap.push { cls:=.type "list",dict:=none,data:=.seq ([]:Ag).toArray } });generalize ({ s with heap:=s.heap.push { cls:=.type "list",dict:=none,data:=.seq ([]:Ag).toArray } }:Shared)=s3 at I3 G L ⊢;refine B.beg I3 g L λcenv ν ec el J4 m=>?_;rw[ec,el];have τ:tn 0 ν.heap:=T.keep 0 _ _ G λb a o e=>m b o e;have d:codeAny (Y75) X.A (.compLoop (Y4l [Y4G tg]) 0 (Y81) (Y2R) (compEnvC scope (Yc0) s3.heap.objs.size X.env)) (RR (Y2R) s3.heap.objs.size) ν:=by
  refine HZ (λn s'=>∃(i:Nat) (ys:Al) (H2:Hp) (N:St),N.length=k/\dA (Y3M X _ φ _ fp _ _ N') [] (N++Y0X) H2 s'/\tn i s'.heap/\(∀b∈fp,H2 b=none)/\W i n ys H2) ?_ m0 ⟨0,[],_,_,bH,J4,τ,λb a=>(g b a).1,S⟩;rintro n s' ⟨i,ys,H2,N,ε,J2,ρ,f2,w2⟩;obtain⟨hD,l⟩:=hW i n ys H2 w2;have ο:∀b∈fp,qF (Ye1 X Yc0 φ fp s3 (Y7D H []) N') [] H2 b:=λb a =>
   ⟨f2 b a,(J2.ok.exf b a).1,J2.ok.exfs b a,.inl a,(J2.ok.exf b a).2,λp κ=>by cases κ⟩
  rcases l with⟨h,hq⟩ | ⟨μ,hz,j⟩
  ·refine Y9o (T.done (Y3M X _ φ _ fp _ _ N') rfl rfl rfl rfl i [] s' _ H2 NoX J2 ο ρ h) (λr s1 ⟨α,J5⟩=>?_) f;subst α;exact hRR _ _ _ _ _ _ I3 g J5 hq
  ·refine Y9o (T.item (Y3M X _ φ _ fp _ _ N') rfl rfl rfl rfl i [] s' _ H2 NoX J2 ο ρ μ) (λr s1 ⟨u,α,hx⟩=>?_) f;subst α;refine Y9o hx (λ_ s2 ⟨v,H3,J3,rv,hy,G,ω⟩=>?_) f;have U:∀b∈fp,qF (Ye1 X Yc0 φ fp s3 (Y7D H []) N') [] H3 b:=λb a =>
    ⟨ω b a,(J3.ok.exf b a).1,J3.ok.exfs b a,.inl a,(J3.ok.exf b a).2,λp κ=>by cases κ⟩
   have P3:=J3.pinned U (T.obj (i+1) _ G);have c:∀{σ':St} {Hx:Hp} {sx:Shared},dA (Ye1 X Yc0 φ fp s3 (Y7D H []) N') ([]++CB fp s2.heap) σ' Hx sx->tn (i+1) sx.heap/\∀b∈fp,Hx b=none:=λχ =>
    ⟨T.keep (i+1) _ _ G λb a γ e=>(χ.pin (b,γ) (cL _ (cL _ (sK a e)))).1,λb a=>by
     obtain⟨γ,e,_⟩:=T.obj (i+1) _ G b a;exact(χ.pin (b,γ) (cL _ (cL _ (sK a e)))).2.1⟩
   obtain⟨ζ,υ,ψ⟩:=j v H3 hy;have ξ:=B.len υ;refine Y9o (B.hg _ _ _ _ _ _ (N++Y0X) H3 v u (λσ' H'=>σ'=ζ.map some++Y0X/\H'=H3) P3 rv (B.hx υ ε Y73)) (λ_ s5 ⟨σ5,H5,J5,e5,e6⟩=>?_) f;subst e5 e6;refine Y9o (ht _ _ _ _ _ _ _ _ _ J5 ψ) (λok s6 ⟨H6,J6,M⟩=>?_) f;dsimp only at M;by_cases hok:ok=true
   ·rw[if_pos hok]at M ⊢;refine Y9o (he _ _ _ _ _ _ _ _ _ J6 M) (λy s7 ⟨β,H7,J7,r7,θ,P,z,δ⟩=>?_) f;refine Y9o (EZ (X:=Y3M X _ φ _ fp _ _ N') _ _ _ _ (Y2R) [β] (Y2R) [y] (λ_ H8=>H8=Y7D H7 (ys++[β])) J7 rfl (Yba r7) (Y1U _ _ _ rfl θ hz rfl)) (λ_ s8 ⟨_,H8,J8,_,e8⟩=>?_) f;subst e8;obtain⟨ι,Z⟩:=c J8;exact⟨P,z,i+1,ys++[β],_,ζ.map some,by rw[aA,ξ],J8.unpinned,ι,Z,δ⟩
   ·rw[if_neg hok]at M ⊢;obtain⟨_,P,z,δ⟩:=M;obtain⟨ι,Z⟩:=c J6;exact⟨P,z,i+1,ys,_,ζ.map some,by rw[aA,ξ],J6.unpinned,ι,Z,δ⟩
 refine codeAny_compStart_list d (T.self X.A 0 _ _ _ τ d)
def xJ{wi:TI}{TC:It->St->(Y5l VK)}(B:ON X scope tg k cl φ N' js GX gg)(hi:PI X tg iter wi)(ht:Yfy (Y3M X (cl C) φ C fp s₀ H₀ N') ifs tc)(he:YfE (Y3M X (cl C) φ C fp s₀ H₀ N') elt te)
  (hc:∀{J σ H Q},TC J σ H Q->LQ GX J σ js tc te H Q) (hs:∀x,Y6Z x=Y7j):Yz (Y4l [Y4G tg]) (YeK σ H (λJ H1=>TC J σ H1 Q)):=by
 intro a s σ H Q I h;rw[eval_ListComp];refine wpAny_comprehension_free (use:=none) rfl hs (vO (B.cells I.ok)) B.kind B.names (Yeg (hi a s σ H _ I h) (λv y l=>?_));refine Yeg l (λg r ⟨p,fp,G,J,H2,e,I2,T,n,i,R⟩=>?_);subst e;refine zT B I2 T n i ht he (hc R) ?_;intro D H3 w u H' z I3 d J3 q;obtain⟨m,j,_⟩:=J3.loc;exact⟨m,j,λA c=>Y0O (.ref D) H' (RN I3 d J3 c) q⟩
def zN{wi:TI}{TC:It->St->(Y5l VK)}{y:Str}{py spos:Pos}{i:Nat}(B:ON X scope tg k cl φ N' js GX gg)(hN:X.N.Nodup)(hiN:Y3r=Y09)(hy:Y6Q y Y2S)(hi:PI X tg iter wi)(ht:Yfy (Y3M X (cl C) φ C fp s₀ H₀ N') ifs tc)(he:YfE (Y3M X (cl C) φ C fp s₀ H₀ N') elt te)
  (hc:∀{J σ H Q},TC J σ H Q->LQ GX J σ js tc te H Q) (hsw:YeU (Y4l [Y4G tg]) (some (Y4A)) spos.line=pure true) (hs:∀x,Y6Z x=Y7j) :
  PS X (.Assign [Y4A] (Y4l [Y4G tg]) spos) (IY (YeK σ H (λJ H1=>TC J σ H1 Q)) (mG i)):=by
 intro d s σ H D0 I h;rw[exec_Assign_Name_used _ _ _ _ hsw];refine Ydj Y5m;show wpAny _ X.A (do let _ <-comprehension (.ListComp elt [⟨tg,iter,ifs,0⟩] scope pos) scope X.env _ (newList []) false (eval iter X.env) (some (assign (.Name y py) X.env))) _ _ s;refine Y9k (wpAny_comprehension_free (use:=some (Ycp Y4A)) (Q:=λ_ l=>SP X d D0 .next l) rfl hs (vO (B.cells I.ok)) B.kind B.names (Yeg (hi d s σ H _ I h) (λv ζ β=>?_))) (λ_ l Z=>wpAny_pure (wpAny_pure Z)) Y8A;refine Yeg β (λO δ ⟨it,fp,θ,J,H2,e,I2,T,γ,P,R⟩=>?_);subst e;refine zT (Q:=λv H'=>mG i v σ H' D0.nx) B I2 T γ P ht he (hc R) ?_;intro D H3 L ε H' l I3 G J3 q;obtain⟨m,S,_⟩:=J3.loc;have IX:dA X d σ H' l:=RN I3 G J3 (Heap.SameBut.refl ..);have j:Y4J L.heap.objs.size:=λe=>by have:=I3.lt;rw[e]at this;exact Y5W
 show wpAny _ X.A (assign (Y4A) X.env (.ref D)) _ _ _;refine wpAny_assign_Name (ES IX hN hiN (.inl hy) (v:=.ref D) rfl (λW I5 g=>?_) (.inr hy));obtain⟨a,g,r⟩:=g;have u:L.heap.objs.size≠a:=by
  rcases r with rfl | r
  ·exact j
  ·intro e;obtain⟨v,o,M,_⟩:=I3.cell y a r;have:=bN M;rw[<-e]at this;exact Y5W
 refine⟨m,S.sameBut g u,λη w=>⟨_,H',?_,q⟩⟩;exact I5.turned (it:=L.heap.objs.size) (t':=W.toks) (λb o n e=>w.extBut b o n e) J3.free j (.inr I3.sz)
  (λz c U e=>by
   obtain⟨v,o,M,_⟩:=I3.cell z c U;have:=bN M;rw[e]at this;exact Y5W)
  (λp α e=>by
   have:=bN (I3.pin p α).1;rw[e]at this;exact Y5W)
def dY.blk{xs:Ah}(S:Y4H xs)(hl:∀{x:V}{H:Hp}{vs:Al},GX x H vs->Y4K xs.length)(hg:∀C fp s₀ H₀,PG (Y3Y) tg gg)(hx:∀{x:V}{H:Hp}{vs:Al}{os σ:St}{Q:Y1y},GX x H vs->Y4Q os.length->Q (Y6v) H->gg x (os++Y0X) H Q):ON X scope tg xs.length (λ_=>Y8S X) (Yew) N' js GX gg :=
 ⟨S.cells,S.kind,S.names,hl,λ{c σ H s fp E Q} I d j k=>wpAny_newFunctionEnv S.cell (by intro y i;simp at i) (λh g l=>by
  have a:∀b o,Y28->Y1O=Yb:=λb o e=>l.extBut b o (λq=>by have:=bN e;rw[q]at this;exact Y5W) (Y3U);exact k _ _ rfl rfl (ZV S I d j g a) a) S.kind,hg,hx⟩
end
structure LX(X:Cx)(ifs:Y0f)(t:TT):Prop where p:PTs X ifs t
def BR(t:TE):TE:=λσ H Q=>∃Q':VK,t σ H Q'/\∀v H1,Q' v H1->Q v H1
def PE.mono{X:Cx}{e:Expr}{t:TE}(h:Y5d t):Y5d (BR t):=λa s σ H Q I ⟨Q',c,d⟩ =>
 thn (h a s σ H Q' I c) λb g ⟨v,H',I',r,q⟩=>⟨v,H',I',r,d _ _ q⟩
def PTs.mono{X:Cx}{es:Y0f}{t:TT}(h:PTs X es t):PTs X es (vI t):=λa s σ H Q I ⟨Q',c,d⟩ =>
 thn (h a s σ H Q' I c) λb e ⟨H',I',q⟩=>⟨H',I',d _ _ q⟩
@[irreducible] def nU(J:It)(σ:St)(js:Ae)(tc:TT)(te:TE)(H1:Hp)(Q:VK):Prop:=∀D,H1 D=none->∃W:Nat->Nat->Al->Hp->Prop,(Y7n 0 m [] (Y5j H1 D [])) /\
 ∀i m ys H2,W i m ys H2->H2 D=Y0t/\((J.stop i H2/\Y2x D H2)\/(Y8l H2/\Yb3 ys.length/\∀x H3,Y8j H2 x H3 ->
  vI tc (Y8::Y0X) H3 λb H4=>if b=true then BR te (Y8::Y0X) H4 λy H5=>H5 D=Y0t/\∃m',m' < m/\W (i+1) m' (ys++[y]) (Y5j H5 D (ys++[y]))
   else H4 D=Y0t/\∃m',m' < m/\W (i+1) m' ys H4))
def MM(wi:TI)(js:Ae)(tc:TT)(te:TE):TE:=YeK σ H (λJ H1=>nU J σ js tc te H1 Q)
section
variable{X:Cx}{scope:Scope}{x y:Str}{N':Ah}{js:Ae}{elt iter c:Expr}{px py pos spos:Pos}{ifs:Y0f}{tc:TT}{te:TE}{wi:TI}{i:Nat}
def cU:LX X [] BQ:=⟨pts_nil⟩
def OQ{t:TT}(h:OE X c t):LX X [c] t:=⟨aBv h.p⟩
def nU.turns{J:It}{σ:St}{H:Hp}{Q:VK}(h:nU J σ js tc te H Q):LQ (λv _ vs=>vs=[v]) J σ js (vI tc) (BR te) H Q:=λD e=>by
 unfold nU at h;obtain⟨W,g,j⟩:=h D e;refine⟨W,g,λi m l H2 w=>?_⟩;obtain⟨hd,d⟩:=j i m l H2 w;exact⟨hd,d.imp_right λ⟨a,b,c⟩=>Y29 b (λx H3 y=>Y04 [x] (c x H3 y))⟩
def ZE{x:V}{H:Hp}{vs:Al}{os σ:St}{Q:Y1y}(h:vs=[x])(hl:os.length=1)(q:Q (Y6v) H):mG 0 x (os++Y0X) H Q:=by
 subst h
 match os,hl with
 | [o],_=>exact q
def dY.one(S:dS X scope x N' js):ON X scope (Y3P) 1 (λ_=>Y8S X) (Yew) N' js (λv _ vs=>vs=[v]) (mG 0) :=
 have l:=lookup_relabel_local (S.own x aS)
 S.blk (λh=>by rw[h];rfl) (λC a c H₀=>HC S.nd (S.pre 0 x rfl) (.inl l) (.inr l)) ZE
def fM(S:dS X scope x N' js)(hi:OH X (Y3P) iter wi)(ht:Yav Y3Y ifs tc)(he:Yau Y3Y elt te)
  (hs:∀x,Y6Z x=Y7j:=by intro _;rfl):Yr (Y4l [Y4G Y3P]) (MM wi js tc te) :=
 ⟨YdS S.one hi.p ((ht C fp s₀ H₀).p.mono) ((he C fp s₀ H₀).p.mono) nU.turns hs⟩
def iD(S:dS X scope x N' js)(hN:X.N.Nodup)(hiN:Y3r=Y09)(hy:Y6Q y Y2S)(hi:OH X (Y3P) iter wi)(ht:Yav Y3Y ifs tc)(he:Yau Y3Y elt te)
  (hsw:YeU (Y4l [Y4G Y3P]) (some (Y4A)) spos.line=pure true:=by rfl) (hs:∀x,Y6Z x=Y7j:=by intro _;rfl) :
  IR X (.Assign [Y4A] (Y4l [Y4G Y3P]) spos) (IY (MM wi js tc te) (mG i)) :=
 ⟨zN S.one hN hiN hy hi.p (λC fp s₀ H₀=>(ht C fp s₀ H₀).p.mono) (λC fp s₀ H₀=>(he C fp s₀ H₀).p.mono) nU.turns hsw hs⟩
end
def DN(psc scope:Scope)(N:Ah)(xs N':Ah)(js:Ae):Bool :=
 (Y9q (!(y.2 == .free) || psc.names.lookup y.1 == Y2d))&&(Y9q (!(Ya6 y.2)))&&scope.kind == .function &&
 (Y9q (!(y.2 == .local) || Yay y.1 Y2S))&&(xs.all λx=>Yay x Y2S) &&
 (Y9q (!(y.2 == .free) || !(Yay y.1 Y2S)))&&N'.length == Y6L js.length&&N'.take xs.length == xs&&decide N'.Nodup &&
 ((List.range js.length).all λi=>match js[i]?,N'[xs.length+i]? with
  | some j,some y=>N[j]? == some y&&scope.names.contains (y,NameKind.free)
  | _,_=>false)
def dY.of{X:Cx}{psc scope:Scope}{N:Ah}{xs N':Ah}{js:Ae}(h:DN psc scope N xs N' js=true)(hX:X.env.scope=psc)(hN:X.N=N)(hc:Y1z):Y4H xs:=by
 unfold DN at h;simp only[dM]at h;obtain⟨⟨⟨⟨⟨⟨⟨⟨⟨s,p⟩,B⟩,l⟩,m⟩,n⟩,z⟩,A⟩,u⟩,c⟩:=h;rw[List.all_eq_true]at s p l m n c;refine⟨hc,Y9B,Y9B,by simpa using B,Y9B,λx d=>by simpa using m x d,Y9B,by simpa using z,λi x d=>?_,of_decide_eq_true u,λi j r=>?_⟩
 ·have:=s y a;rw[e]at this;show YeS y.1 _;rw[hX];simpa using this
 ·have:=p y a;rw[e]at this;simp at this
 ·have:=l y a;rw[e]at this;simpa using this
 ·have:=n _ a;rw[e]at this;simp at this
 ·have w:N'.take xs.length=xs:=by simpa using A
  have g:Y59:=(aC.mp d).1;rw[<-d]
  conv=>rhs;rw[<-w]
  rw[List.getElem?_take,if_pos g]
 ·have g:i<js.length:=(aC.mp r).1;have:=c i (bR.mpr g);rw[r]at this;cases q:N'[Y6L i]? with
  | none=>rw[q]at this;simp at this
  | some y =>
   rw[q]at this;simp only[dM]at this;exact Y1Z y (by rw[hN];simpa using this.1) (List.contains_iff_mem.mp this.2)
def dY.o{X:Cx}{scope:Scope}(xs N':Ah)(js:Ae)(h:DN X.env.scope scope X.N xs N' js=true:=by exact Eq.refl true)(hc:Y1z:=by rfl):Y4H xs:=dY.of h rfl rfl hc
theorem dS.of{X:Cx}{psc scope:Scope}{N:Ah}{x:Str}{N':Ah}{js:Ae}(h:DN psc scope N [x] N' js=true)(hX:X.env.scope=psc)(hN:X.N=N)(hc:Y1z):dS X scope x N' js:=dY.of h hX hN hc
def dS.o{X:Cx}{scope:Scope}{x:Str}(N':Ah)(js:Ae)(h:DN X.env.scope scope X.N [x] N' js=true:=by exact Eq.refl true)(hc:Y1z:=by rfl):dS X scope x N' js:=dS.of h rfl rfl hc
section
variable{js:Ae}{te:TE}{tc:TT}{σ:St}{H:Hp}{Q:VK}
def KW{J:It}{n:Nat}(src:Yaf V)(hz:Yac n)(Pv:Addr->Nat->Y1M Al)
  (h0:∀D H1,H D=none->H1 D=Yi []->aU H H1->Pv D 0 [] H1)
  (hg:∀D i ys H',i<n->Y0x=Y0t->Pv D i ys H'->Y8l H'/\∀x H3,Y8j H' x H3->H3=H'/\src i x)
  (hst:Y3g (Y0x=Y0t) (Pv D n ys H'->J.stop n H'))
  (hs:∀D i x ys H',src i x->i<n->Y3c i->Y0x=Y0t->Pv D i ys H'->te (Y8::Y0X) H' λy H5=>H5 D=Y0t/\∀H6,H6 D=Yi (ys++[y])->aX D H5 H6->Pv D (i+1) (ys++[y]) H6)
  (hd:Y3g (Y3c n) (H D=none->Y0x=Y0t->Pv D n ys H'->Y1g)) :
  nU J σ js BQ te H Q:=by
 unfold nU;intro D h;refine Y0j (λi m ys H'=>m=n-i/\i<=n/\Y3c i/\Y0x=Y0t/\Pv D i ys H') (Y5C n (by simp) Y0H bP (h0 D _ h bP (aU.upd h)));rintro i m ys H2 ⟨rfl,s,d,a,p⟩;refine Y0p a;by_cases hlt:i<n
 ·obtain⟨r,l⟩:=hg D i ys H2 hlt a p;refine .inr ⟨r,Ye6 Oo Dd,λx H3 g=>?_⟩;obtain⟨rfl,j⟩:=l x H3 g;refine Y0j (λb H4=>b=true/\H4=H3) Y73;rintro b H4 ⟨rfl,rfl⟩;rw[Yo];refine Y0j _ (hs D i x ys H4 j hlt d a p);rintro v H5 ⟨c,k⟩;exact⟨c,n-(i+1),Oo,rfl,hlt,by rw[aZ,d];rfl,bP,k _ bP aX.self⟩
 ·have e:i=n:=Oo;subst e;exact Y1Y (hst D ys H2 a p) (hd D ys H2 d h a p)
end
@[irreducible] def MY(K:Aa):Y1v:=λxs H Q=>∃(p:Addr) (ns:Af),xs=Y56/\Y6q K H p/\YcK
@[irreducible] def aBp(b:Bool):R2:=λx y H Q=>∃d d',Y4F x/\Y1A d' y/\Y6n d/\Y6n d'/\Y34 (b == Yek d)
section
variable{X:Cx}
def NX(hc:Y1z):Y45 "sum" (MY X.K):=by
 unfold MY;intro i s σ H D G Q I r h;obtain⟨p,m,rfl,w,q⟩:=h;obtain⟨u,rfl,n⟩:=oH r;cases n;obtain⟨a,y,g,B⟩:=I.list w;have d:=wA y;obtain⟨c,e⟩:=d.allInts.items;rw[e]at g;refine sum_intListG (Y9M) g.isList λC A z l=>⟨.int m.sum,H,I.kept l,Y0p z,q⟩;rw[preSum_eq,List.take_of_length_le (by simp)];rw[<-d.numsOf];have j:a=(intItems c).toList:=by rw[<-e]
 rw[j,nums_intItems]
def rsI{K:Aa}{H:Hp}{p:Addr}{ns:Af}{Q:VK}(h:Y6q K H p)(q:YcK):MY K Y56 H Q:=by unfold MY;exact Y11 p ns h q
def aE2(hu:Y3I 64<cLine):Y44 .NotEq (aBp false):=by
 unfold aBp;intro a s σ H x y v u Q I j l h;obtain⟨d,r,n,m,i,e,q⟩:=h;obtain⟨p,g⟩:=n.reads I j;obtain⟨bs,c⟩:=m.reads I l;exact SeqAt.compareNe_shaped g c i e hu ⟨.bl _,H,I,by show _=_;simp,q⟩
def reD{b:Bool}{x y:V}{d d':PyData}{H:Hp}{Q:VK}(h1:Y4F x)(h2:Y1A d' y)(s1:Y6n d)(s2:Y6n d')(q:Y34 (b == Yek d)):aBp b x y H Q:=by
 unfold aBp;exact⟨d,d',h1,h2,s1,s2,q⟩
end
mutual
def iS:Y1Q PyData
 | .list _=>false
 | .dict _=>false
 | .tuple ds=>kC ds
 | _=>true
def kC:Y1Q Y0Z
 | []=>true
 | d::ds=>iS d&&kC ds
end
def eW(H H':Hp):Prop:=∀b xs,H b=Y12->Y1I=Y12
def eW.trans{H H1 H2:Hp}(a:eW H H1)(b:eW H1 H2):eW H H2:=λc o h=>b c o (a c o h)
def aU.t{H H':Hp}(s:Y1):Y2t:=λb a h=>s _ _ h
def aX.t{H H':Hp}{p:Addr}(s:Y14){xs:Al}(hp:H p=Y0G):Y2t:=Yel (tE h hp (by intro z;cases z)) h
mutual
theorem dC.flat{H H':Hp}(s:Y2t):∀{d:PyData}{v:V},iS d=true->Y4F v->Y2Q d v
 | .none,_,_,h=>h
 | .bool _,_,_,h=>h
 | .int _,_,_,h=>h
 | .str _,_,_,h=>h
 | .list _,_,f,_=>by simp[iS]at f
 | .dict _,_,f,_=>by simp[iS]at f
 | .tuple ds,_,f,h=>by
  unfold dC at h ⊢;obtain⟨a,ys,rfl,h1,h2⟩:=h;exact⟨a,ys,rfl,s _ _ h1,bG.flat s (by simpa[iS]using f) h2⟩
theorem bG.flat{H H':Hp}(s:Y2t):∀{ds:Y0Z}{vs:Al},kC ds=true->Y7l->Y41 ds vs
 | [],_,_,h=>h
 | d::ds,_,f,h=>by
  unfold bG at h ⊢;obtain⟨x,ys,rfl,h1,h2⟩:=h;simp only[kC,dM]at f;exact⟨x,ys,rfl,dC.flat s f.1 h1,bG.flat s f.2 h2⟩
end
theorem bG.get{H:Hp}:∀{ds:Y0Z}{vs:Al}{i:Nat}{v:V},Y7l->vs[i]?=Yy->∃d,ds[i]?=some d/\Y4F v
 | [],_,i,v,h,e=>by cases(show _=[]from h);simp at e
 | d::ds,_,i,v,h,e=>by
  unfold bG at h;obtain⟨x,ys,rfl,h1,h2⟩:=h;cases i with
  | zero=>simp at e;subst e;exact⟨d,rfl,h1⟩
  | succ i =>
   rw[List.getElem?_cons_succ]at e ⊢;exact bG.get h2 e
theorem bG.get'{H:Hp}:∀{ds:Y0Z}{vs:Al}{i:Nat}{d:PyData},Y7l->ds[i]?=some d->∃v,vs[i]?=Yy/\Y4F v
 | [],_,i,d,h,e=>by simp at e
 | d' :: ds,_,i,d,h,e=>by
  unfold bG at h;obtain⟨x,ys,rfl,h1,h2⟩:=h;cases i with
  | zero=>simp at e;subst e;exact⟨x,rfl,h1⟩
  | succ i =>
   rw[List.getElem?_cons_succ]at e ⊢;exact bG.get' h2 e
def bG.snoc{H:Hp}{ds:Y0Z}{vs:Al}{d:PyData}{v:V}(h:Y7l)(r:Y4F v):Y1q (ds++[d]) (vs++[v]):=bG.append (Ycf r) h
def IC{i:Int}{n:Nat}(h:i.natAbs<2^n):bits i<=n:=PySem.intBits_le_iff.mpr h
def kU{i j:Int}{n m:Nat}(h1:i.natAbs<2^n)(h2:j.natAbs<2^m)(hn:n<=1048576:=by decide)(hm:m<=1048576:=by decide):IntMulOk i j:=by
 refine IntMulOk.of_bits ?_ ?_
 ·exact aL (IC h1) hn
 ·exact aL (IC h2) hm
mutual
def shW:PyData->Nat
 | .none=>4
 | .bool _=>5
 | .int _=>1921
 | .str x=>(reprText x).length
 | .list xs=>SX xs+4
 | .tuple xs=>SX xs+4
 | .dict _=>0
def SX:Y0Z->Nat
 | []=>0
 | x::xs=>shW x+2+SX xs
end
theorem zI:∀(ts:Ah) (k:Nat) (acc:Str),(textFrom k acc ts).length<=acc.length+piled ts
 | [],k,acc=>by show acc.length<=_;exact Oo
 | t::r,k,acc=>by
  have h:=zI r (k+1) (acc++(if k > 0 then ", " else "" : String)++t);have e:(acc++(if k > 0 then ", " else "" : String)++t).length=acc.length+(if k > 0 then 2 else 0)+t.length:=by
   rw[strLen_append,strLen_append];split <;> rfl
  rw[e]at h;rw[piled_cons];show(textFrom (k+1) _ r).length<=_;refine aL h ?_;split <;> exact Oo
def GK(ts:Ah):(tupleText ts).length<=piled ts+4:=by
 unfold tupleText;rw[strLen_append,strLen_append];have a:(("(" : Str)).length=1:=rfl;have c:((if ts.length == 1 then ",)" else ")" : String):Str).length<=2:=by split <;> decide
 rw[a];by_cases h:ts=[]
 ·subst h;have:(Str.join ", " []).length=0:=rfl;exact Oo
 ·have:=join_length_add ts h;exact Oo
def KA(ts:Ah):(listText ts).length<=piled ts+4:=by
 unfold listText;rw[strLen_append];have:=zI ts 0 "[";have a:(("[" : String):Str).length=1:=rfl;have c:(("]" : String):Str).length=1:=rfl;rw[a]at this;rw[c];exact Oo
mutual
theorem JJ:∀d:PyData,YcO true->Yci->d.shown.length<=shW d
 | .none,_,_=>by simp only[PyData.shown,shW];decide
 | .bool b,_,_=>by cases b <;> (simp only[PyData.shown,shW];decide)
 | .int i,h,_=>by
  simp only[PyData.shown,shW];exact int_text_len_1921 (by simpa[PyData.showable]using h)
 | .str x,_,_=>by simp only[PyData.shown,shW];exact aN _
 | .list xs,h,h2=>by
  simp only[PyData.shown,shW];have:=tW xs (by simpa[PyData.showable]using h) (by simpa[PyData.hasDict]using h2);have:=KA (PyData.shownAll xs);exact Oo
 | .tuple xs,h,h2=>by
  simp only[PyData.shown,shW];have:=tW xs (by simpa[PyData.showable]using h) (by simpa[PyData.hasDict]using h2);have:=GK (PyData.shownAll xs);exact Oo
 | .dict _,_,h=>by simp[PyData.hasDict]at h
theorem tW:∀ds:List PyData,PyData.showableAll ds=true->Yx (PyData.hasDictAll ds)->piled (PyData.shownAll ds)<=SX ds
 | [],_,_=>by simp only[PyData.shownAll,SX];exact aN _
 | d::ds,h,h2=>by
  simp only[PyData.showableAll,dM]at h;simp only[PyData.hasDictAll,Bool.or_eq_false_iff]at h2;have:=JJ d h.1 h2.1;have:=tW ds h.2 h2.2;simp only[PyData.shownAll,SX,piled_cons];exact Oo
end
def PL{i:Int}{n:Nat}(h:i.natAbs<2^n)(hn:n<=1920:=by decide):PyData.showable (Y1d)=true:=by
 simp only[PyData.showable];refine cN (zP (aL (IC h) hn) Dd)
section
variable{X:Cx}(K:Aa)
def iA(h:X.K=K:=by rfl):IxR X (rIx K):=by subst h;exact bC
def aCj(h:X.K=K:=by rfl):Y45 "len" (NA K):=by subst h;exact oE
def aCh(hc:Y1z)(h:X.K=K:=by rfl):Y45 "sum" (MY K):=by subst h;exact NX hc
end
end L2
namespace L2
open PySem
def rM(b:Bool)(h:Heap)(i l:Addr)(k:Nat):Prop:=∃o,h.get? i=Yb/\o.cls=.type (bif b then "tuple_iterator" else "list_iterator")/\o.data=.fields #[Y1m,.int k 0]
def nB(b:Bool)(h:Heap)(l:Addr)(xs:Ai):Prop:=∃o,h.get? l=Yb/\o.cls=.type (bif b then "tuple" else "list")/\∃n,o.data=.seq xs n
def rM.at{b:Bool}{h h':Heap}{i l:Addr}{k:Nat}(x:rM b h i l k)(f:∀o,h.get? i=Yb->Y4W i):rM b h' i l k:=let ⟨o,ho,r⟩:=x;Y1B (f o ho) r
def nB.at{b:Bool}{h h':Heap}{l:Addr}{xs:Ai}(x:nB b h l xs)(f:∀o,h.get? l=Yb->Y4W l):nB b h' l xs:=let ⟨o,ho,r⟩:=x;Y1B (f o ho) r
section
variable{prog:Program}{w:World}{A:Around}{E:Yd}{s:Shared}
def AX{b:Bool}{it l:Addr}{i:Nat}{items:Ai}{x:Value}{Q:Yd}(hit:rM b s.heap it l i)(hl:Y20 b l items)(hx:items[i]?=Y8)
  (hQ:∀h',rM b h' it l (i+1)->Yax it h'->Q x { s with heap:=h' }):Y26 (Yai it):=by
 cases b with
 | false=>exact wpAny_nextOf_list_item hit hl hx hQ
 | true =>
  have c:s.heap.IsTupleIter it l i:=hit;obtain⟨o,a,g,hd⟩:=id c;obtain⟨h,d,_,j,e⟩:=hl;unfold Builtin.SmallTypes.nextOf;refine wpAny_bind (Y8D "__next__" c.typeIs F.slot_tuple_iterator_next F.slot_tuple_iterator_next c.typeIs F.entry_tuple_iterator_next ?_ (F.args_tuple_iterator_next_1 _));show Y3t (Y5q it 0 >>= _);refine wpAny_bind (wpAny_field a hd (x:=Y1m) rfl ?_);show Y3t (if(Value.ref l == Value.none)=true then _ else _);rw[if_neg (show ¬((Value.ref l == Value.none)=true)from cE)];show Y3t (Y5q it 1 >>= _);refine wpAny_bind (wpAny_field a hd (x:=.int i 0) rfl ?_);show Y3t (seqItems? (Y1m) >>= _);refine Y8s d e ?_;simp only[Int.toNat_natCast,hx];refine wpAny_bind (wpAny_setField a hd (by simp) (wpAny_pure (Y04 x (wpAny_pure (hQ _ ?_ (Heap.SameBut.update ..))))));refine Y2v _ (Heap.get?_update_self _ a (Obj.isFreed_of_fields (Obj.data_mapFields hd _))) ((Obj.cls_mapFields ..).trans g);rw[Obj.data_mapFields hd];simp[rawInt]
def NF{b:Bool}{it l:Addr}{i:Nat}{items:Ai}{Q:Yd}(hh:Y6W)(hit:rM b s.heap it l i)(hl:Y20 b l items)(hx:items[i]?=none)
  (hE:∀h' e,Yem it s.heap->(∃o,Y4W e/\o.cls=.type "StopIteration")->E (.ref e) { s with heap:=h' }):Y26 (Yai it):=by
 cases b with
 | false=>exact wpAny_nextOf_list_end hh hit hl hx hE
 | true =>
  have c:s.heap.IsTupleIter it l i:=hit;obtain⟨o,h,p,hd⟩:=id c;obtain⟨j,d,_,n,g⟩:=hl;unfold Builtin.SmallTypes.nextOf;refine wpAny_bind (Y8D "__next__" c.typeIs F.slot_tuple_iterator_next F.slot_tuple_iterator_next c.typeIs F.entry_tuple_iterator_next ?_ (F.args_tuple_iterator_next_1 _));show Y3t (Y5q it 0 >>= _);refine wpAny_bind (wpAny_field h hd (x:=Y1m) rfl ?_);show Y3t (if(Value.ref l == Value.none)=true then _ else _);rw[if_neg (show ¬((Value.ref l == Value.none)=true)from cE)];show Y3t (Y5q it 1 >>= _);refine wpAny_bind (wpAny_field h hd (x:=.int i 0) rfl ?_);show Y3t (seqItems? (Y1m) >>= _);refine Y8s d g ?_;simp only[Int.toNat_natCast,hx];refine Yaq (wpAny_bind (wpAny_setField h hd (by simp) ?_));show Y3X (newExc (.type "StopIteration") [] >>= _);refine Y5m;simp only[newExc,newTuple];refine wpAny_bind (Yfn (by size_fits));refine wpAny_bind (m:=firstArgMember _ _) (wpAny_of_eq (a:=Value.none) (by first | rfl | (simp only[firstArgMember];rfl)) ?_);refine Yfn (by size_fits);simp only[raiseNew];refine wpAny_bind (wpAny_handled ?_)
  first | rw[show A.in1.handled=none from hh] | rw[hh]
  refine Y3B (wpAny_throw ?_);exact hE _ _ (((Heap.SameBut.update ..).extBut.push _).push _) (Y1o Y1n)
structure ZAt(b1 b2:Bool)(z TI TO i1 i2 l1 l2:Addr)(f:Value)(k:Nat)(h:Heap):Prop where
 z:IsZip h z TI TO f
 ti:IsPair h TI (.ref i1) (.ref i2)
 to:∃a b,YbM h a b
 i1:rM b1 h i1 l1 k
 i2:rM b2 h i2 l2 k
def SK{b1 b2:Bool}{z TI TO i1 i2 l1 l2:Addr}{k:Nat}{xs ys:Ai}{x y:Value}{Q:Yd}(D:ZipApart z TI TO i1 i2 l1 l2)(Z:ZAt b1 b2 z TI TO i1 i2 l1 l2 .none k s.heap)
  (hl1:Y20 b1 l1 xs) (hl2:Y20 b2 l2 ys) (hx:Y2u k=Y8) (hy:ys[k]?=Y09)
  (hQ:∀h',ZAt b1 b2 z TI TO i1 i2 l1 l2 (rawInt s.heap.objs.size) (k+1) h'->IsPair h' s.heap.objs.size x y->(∀c o,c≠z->c≠TO->c≠i1->c≠i2->Y39 c->Y4W c)->Yat ({ s with heap:=h' })) :
  wpAny (model prog w) A (Builtin.«zip.__next__» ⟨Y6D z,[]⟩) (λfin s'=>∃v,fin=Yer v/\Q v s') E s:=by
 obtain⟨M,I,⟨a,b,κ⟩,υ,ο⟩:=Z;show Y3X (Y5q z 2 >>= _);refine Y6C M (.bool false);show Y3X (Y5q z 3 >>= _);refine Y6C M (.ref TI);refine Y8s I rfl ?_;show Y3X (YeV z >>= _);refine Y5m;unfold Builtin.SmallTypes.ownedTupleIsFree;refine wpAny_bind (wpAny_field M rfl (x:=.none) rfl Y2k);simp only[if_true];refine Yaq ?_;refine Y6C M (.ref TO);refine Y9i M (by simp) (λν r T=>?_);have u:=T.extBut;replace r:YaN ν z TI TO:=r;refine Y5m;simp only[List.zipIdx_cons,List.zipIdx_nil,List.forIn_cons,List.forIn_nil];refine YdA ?_;show Y3X (Yai i1 >>= _);refine Yep (υ.at λo e=>u _ o D.i1z e) (hl1.at λo e=>u _ o D.l1z e) hx (λτ θ L=>Y2k);have P:=L.extBut;have l:YbM τ a b:=P _ _ D.TOi1 (u _ _ D.TOz κ);refine Y8s l rfl ?_;refine Yf0 l (λφ h J=>?_);have C:=J.extBut;replace h:YbM φ x b:=h;refine Ydn Y2k;refine YdA ?_;show Y3X (Yai i2 >>= _)
 refine Yep (ο.at λo e=>C _ o D.TOi2.symm (P _ o D.i12.symm (u _ o D.i2z e))) (hl2.at λo e=>C _ o D.l2TO (P _ o D.l2i1 (u _ o D.l2z e))) hy (λρ μ U=>Y2k);have α:=U.extBut;have j:YbM ρ x b:=α _ _ D.TOi2 h;refine Y8s j rfl ?_;refine Yf0 j (λg d W=>?_);have β:=W.extBut;replace d:YbM g x y:=d;refine Ydn (wpAny_pure (Y2k));refine Y8s d rfl ?_;refine wpAny_bind (wpAny_newTuple ?_);have B:g.objs.size=s.heap.objs.size:=by rw[W.1,U.1,J.1,L.1,T.1]
 have S:YaN g z TI TO:=β _ _ D.TOz.symm (α _ _ D.i2z.symm (C _ _ D.TOz.symm (P _ _ D.i1z.symm r)));have R:∀c o,c≠z->c≠TO->c≠i1->c≠i2->Y39 c->g.get? c=Yb:=λc o p X ε ζ e=>β _ _ X (α _ _ ζ (C _ _ X (P _ _ ε (u _ _ p e))));have ι:rM b1 g i1 l1 (k+1):=θ.at λo e=>β _ o D.TOi1.symm (α _ o D.i12 (C _ o D.TOi1.symm e));have η:rM b2 g i2 l2 (k+1):=μ.at λo e=>β _ o D.TOi2.symm e;have m:=bN S;show Y3X (Builtin.SmallTypes.ownedTupleHandOut (.ref z) (.ref g.objs.size) >>= _);refine Y5m;unfold Builtin.SmallTypes.ownedTupleHandOut;have δ:YaN (g.push { cls:=.type "tuple",data:=.seq #[x,y] }) z TI TO:=Y1R S;refine Y9i δ (by simp) (λξ n G=>?_);replace n:IsZip ξ z TI TO (rawInt g.objs.size):=n;refine wpAny_setField_rec n (by simp) λγ i O=>?_;replace i:IsZip γ z TI TO (rawInt g.objs.size):=i;have up:∀c o,c≠z->g.get? c=Yb->γ.get? c=Yb:=λc o p e=>O.extBut _ _ p (G.extBut _ _ p (Y3U));have N:IsPair γ g.objs.size x y:=O.extBut _ _ (Nat.ne_of_gt m) (G.extBut _ _ (Nat.ne_of_gt m) (Y1n));rw[B]at i N;refine wpAny_pure Y6;show Y2x g.objs.size _;rw[B]
 exact hQ γ ⟨i,up _ _ D.TIz (R _ _ D.TIz D.TITO D.TIi1 D.TIi2 I),Y0K _ (up _ _ D.TOz d),ι.at λo e=>up _ o D.i1z e,η.at λo e=>up _ o D.i2z e⟩ N λc o p X ε ζ e=>up c o p (R c o p X ε ζ e)
def VO{b1 b2:Bool}{z TI TO i1 i2 l1 l2:Addr}{k:Nat}{xs ys:Ai}{Q:Y1j Fin}(hh:Y6W)(D:ZipApart z TI TO i1 i2 l1 l2)(Z:ZAt b1 b2 z TI TO i1 i2 l1 l2 .none k s.heap)
  (hl1:Y20 b1 l1 xs) (hl2:Y20 b2 l2 ys) (hend:Y2u k=none\/ys[k]?=none)
  (hE:∀h' e,(∀c o,c≠z->c≠TO->c≠i1->c≠i2->Y39 c->Y4W c)->(∃o,Y4W e/\o.cls=.type "StopIteration")->E (.ref e) { s with heap:=h' }) :
  Y26 (Builtin.«zip.__next__» ⟨Y6D z,[]⟩):=by
 obtain⟨y,L,⟨a,b,R⟩,U,δ⟩:=Z;show Y3X (Y5q z 2 >>= _);refine Y6C y (.bool false);show Y3X (Y5q z 3 >>= _);refine Y6C y (.ref TI);refine Y8s L rfl ?_;show Y3X (YeV z >>= _);refine Y5m;unfold Builtin.SmallTypes.ownedTupleIsFree;refine wpAny_bind (wpAny_field y rfl (x:=.none) rfl Y2k);simp only[if_true];refine Yaq ?_;refine Y6C y (.ref TO);refine Y9i y (by simp) (λX l O=>?_);have m:=O.extBut;replace l:YaN X z TI TO:=l;refine Y5m;simp only[List.zipIdx_cons,List.zipIdx_nil,List.forIn_cons,List.forIn_nil];refine YdA ?_;show Y3X (Yai i1 >>= _);cases hx:Y2u k with
 | none =>
  refine wpAny_bind (NF hh (U.at λo e=>m _ o D.i1z e) (hl1.at λo e=>m _ o D.l1z e) hx λP e j S=>?_);obtain⟨M,d,g⟩:=S;have u:YaN P z TI TO:=j _ _ D.i1z.symm l;have p:e≠z:=λx=>by subst x;rw[u]at d;cases d;simp at g
  exact wpAny_setField_rec u (by simp) λW _ i=>hE W e (λc o r _ N _ x=>i.extBut _ _ r (j _ _ N (m _ _ r x))) ⟨M,i.extBut _ _ p d,g⟩
 | some x =>
  have α:ys[k]?=none:=by
   rcases hend with h | h
   ·rw[hx]at h;cases h
   ·exact h
  refine Yep (U.at λo e=>m _ o D.i1z e) (hl1.at λo e=>m _ o D.l1z e) hx (λP ζ j=>Y2k);have B:=j.extBut;have n:YbM P a b:=B _ _ D.TOi1 (m _ _ D.TOz R);refine Y8s n rfl ?_;refine Yf0 n (λW T i=>?_);have J:=i.extBut;refine Ydn Y2k;refine YdA ?_;show Y3X (Yai i2 >>= _);refine wpAny_bind (NF hh (δ.at λo e=>J _ o D.TOi2.symm (B _ o D.i12.symm (m _ o D.i2z e))) (hl2.at λo e=>J _ o D.l2TO (B _ o D.l2i1 (m _ o D.l2z e))) α λε e G S=>?_);obtain⟨M,d,g⟩:=S;have C:YaN ε z TI TO:=G _ _ D.i2z.symm (J _ _ D.TOz.symm (B _ _ D.i1z.symm l));have p:e≠z:=λx=>by subst x;rw[C]at d;cases d;simp at g
  exact wpAny_setField_rec C (by simp) λη _ I=>hE η e (λc o r β N γ x=>I.extBut _ _ r (G _ _ γ (J _ _ β (B _ _ N (m _ _ r x))))) ⟨M,I.extBut _ _ p d,g⟩
def SJ{b1 b2:Bool}{z TI TO i1 i2 l1 l2:Addr}{k:Nat}{xs ys:Ai}{x y:Value}{Q:Y1j Y5h}(D:ZipApart z TI TO i1 i2 l1 l2)(Z:ZAt b1 b2 z TI TO i1 i2 l1 l2 .none k s.heap)
  (hl1:Y20 b1 l1 xs) (hl2:Y20 b2 l2 ys) (hx:Y2u k=Y8) (hy:ys[k]?=Y09)
  (hQ:∀h',ZAt b1 b2 z TI TO i1 i2 l1 l2 (rawInt s.heap.objs.size) (k+1) h'->IsPair h' s.heap.objs.size x y->(∀c o,c≠z->c≠TO->c≠i1->c≠i2->Y39 c->Y4W c)->Q (Y3 s.heap.objs.size) { s with heap:=h' }) :
  Ybh z:=by
 have a:Y8B z "zip" := Y1o Z.z;unfold pyNext;refine Yao (Y8D "__next__" a F.slot_zip_next F.slot_zip_next a F.entry_zip_next ?_ (F.args_zip_next_1 _));exact SK D Z hl1 hl2 hx hy λh' e d g=>wpAny_pure (hQ h' e d g)
def SI{b1 b2:Bool}{z TI TO i1 i2 l1 l2:Addr}{k:Nat}{xs ys:Ai}{Q:Y1j Y5h}(hh:Y6W)(D:ZipApart z TI TO i1 i2 l1 l2)(Z:ZAt b1 b2 z TI TO i1 i2 l1 l2 .none k s.heap)
  (hl1:Y20 b1 l1 xs) (hl2:Y20 b2 l2 ys) (hend:Y2u k=none\/ys[k]?=none)
  (hQ:∀h',(∀c o,c≠z->c≠TO->c≠i1->c≠i2->Y39 c->Y4W c)->Q none { s with heap:=h' }):Ybh z:=by
 have a:Y8B z "zip" := Y1o Z.z;unfold pyNext;refine Yao (Y8D "__next__" a F.slot_zip_next F.slot_zip_next a F.entry_zip_next ?_ (F.args_zip_next_1 _));refine VO hh D Z hl1 hl2 hend λh' e h g=>?_;obtain⟨o,i,d⟩:=g;refine wpAny_bind (YeY "StopIteration" true (Y1B i d) ?_);exact wpAny_pure (hQ _ h)
abbrev itO(b:Bool)(l:Addr):Obj:={ cls:=.type (bif b then "tuple_iterator" else "list_iterator"),data:=.fields #[.ref l,.int 0 0] }
def QR{b:Bool}{l:Addr}{xs:Ai}{Q:Yd}(h:Y20 b l xs)(q:Yat ({ s with heap:=s.heap.push (itO b l) })):Y26 (pyIter (Y1m)):=by
 cases b with
 | false=>exact wpAny_pyIter_list h q
 | true=>exact wpAny_pyIter_tuple h q
end
end L2
namespace L2
open PySem PySem.Spec PyProof.Rows
section
variable{X:Cx}{pins:Ad}{σ:St}{H:Hp}{s:Shared}{h':Heap}
def dA.turnedL{t':Nat}{fp:Y0s}(I:Y5)(k:∀b o,b ∉ fp->Y28->Y1a=Yb)(hf:∀b∈fp,Y40 H):Y5k ({ s with heap:=h',toks:=t' }):=by
 have d:∀b u,H b=Yp->b ∉ fp:=λb u e z=>by rw[(hf b z).1]at e;cases e
 refine I.step (g':=s.gens) (d':=s.drawn) (ch:=fp) (λb l=>?_) (λb o _ _ a e _=>k b o a e) (λb o _ _ a e _=>⟨o.slots,k b o a e⟩) (λ_ _ _ _ n=>n)
  (λb o a e=>⟨o,k b o a e⟩) (Y8A) (λ_ _ _ e=>e) (λb D e=>⟨#[],by rw[e];simp⟩) (λm h=>?_) (λb u e=>?_) I.bare
 ·obtain⟨B,g,C,j,p,A⟩:=hf b l;exact⟨j,g,p,A⟩
 ·obtain⟨o,i,w,y,r⟩:=h;exact⟨o,i,w,k _ o (λz=>(hf _ z).2.1 rfl) y,r⟩
 ·refine(I.hok b u e).stay (λc v a q=>k c v ?_ q) (YcU) Y9E;rcases a with z | z
  ·rw[z];exact d b u e
  ·exact d c _ z
def Un.putE{fs ex:Y0s}{H H1:Hp}{h h1:Heap}{a:Addr}{u:HO}(x:Un fs ex H H1 h h1)(ha:h.get? a=none)(hn:H1 a=none):Un fs ex H (upd H1 a u) h h1 where
 keep:=x.keep
 slot:=x.slot
 free:=λb d e n m=>by rw[fF (λz=>by subst z;rw[ha]at e;cases e)];exact x.free b d e n m
 there:=x.there
 tups:=λb c e=>by rw[fF (dU (x.tups b c e) hn)];exact x.tups b c e
 frzs:=λb d c e=>by rw[fF (dU (x.frzs b d c e) hn)];exact x.frzs b d c e
 tbls:=λb g e=>by
  obtain⟨m,q⟩:=x.tbls b g e;exact⟨m,by rw[fF (dU q hn)];exact q⟩
def tK.putE{P:Program}{w:World}{h:Heap}{a:Addr}{u:HO}(x:tK P w H h)(hn:H a=none)(new:hV P w (Y3s u) h a u):tK P w (Y3s u) h:=λb v e=>by
 by_cases hb:b=a
 ·subst hb;rw[bP]at e;cases e;exact new
 ·rw[fF hb]at e;exact(x b v e).stay (λc q _ r=>r) (λc q=>by rw[fF (dU q hn)];exact q) λc d q=>by rw[fF (dU q hn)];exact q
def dA.put{a:Addr}{o:HO}(I:Y5)(f:qF X pins H a)(hs:YdV a none)(new:hV X.prog X.w (Y3s o) s.heap a o):Y49 (Y3s o) s :=
 ⟨I.ok,I.os,I.bare,I.base.putE hs f.1,I.loc,I.cell,by rw[fF (Ne.symm f.2.1)];exact I.free,λx c e=>by rw[fF (f.2.2.2.2.1 x c e)];exact Ya4 x e,λp d=>by
  obtain⟨h,i,g⟩:=Y90 d;exact⟨h,by rw[fF (f.2.2.2.2.2 p d)];exact i,g⟩,tK.putE I.hok f.1 new,I.len⟩
def zU(b:Bool)(xs:Al):HO:=bif b then .tup xs else .lst xs
def zU.inj{b:Bool}{xs ys:Al}(h:Y4t b=Y8u b ys):xs=ys:=by
 cases b <;> (injection h with h;injection h)
def dA.sq{b:Bool}{a:Addr}{xs:Al}(I:Y5)(h:H a=Y4t b):∃its:Ag,eK xs its/\Y20 b a its.toArray:=by
 cases b with
 | false=>obtain⟨its,r,p,_⟩:=I.list (Y8W);exact⟨its,r,p.isList⟩
 | true=>obtain⟨its,r,p,_⟩:=YdT h;exact⟨its,r,p⟩
end
def Itz(b1 b2:Bool)(l1 l2:Addr):It :=
  ⟨λi H=>∃xs ys x y,H l1=Y4t b1/\H l2=Y8u b2 ys/\Y0q=Y8/\Y1r=Y09,
   λi H v H'=>∃q x y,v=.ref q/\H q=none/\H'=Y6P q [x,y]/\∀xs ys,H l1=Y4t b1->H l2=Y8u b2 ys->Y0q=Y8/\Y1r=Y09,
   λi H=>∃xs ys,H l1=Y4t b1/\H l2=Y8u b2 ys/\(Y6J i\/ys.length<=i)⟩
structure ZD(z TI TO i1 i2:Addr):Prop where
 TIz:TI≠z
 TOz:TO≠z
 i1z:i1≠z
 i2z:i2≠z
 TITO:TI≠TO
 TIi1:TI≠i1
 TIi2:TI≠i2
 TOi1:TO≠i1
 TOi2:TO≠i2
 i12:i1≠i2
def ZD.seq(n:Nat):ZD (n+4) (n+2) (n+3) n (n+1) where
 TIz:=Y6z (show(n+2:Nat)=n+4 from h)
 TOz:=Y6z (show(n+3:Nat)=n+4 from h)
 i1z:=Y6z (show(n:Nat)=n+4 from h)
 i2z:=Y6z (show(n+1:Nat)=n+4 from h)
 TITO:=Y6z (show(n+2:Nat)=n+3 from h)
 TIi1:=Y6z (show(n+2:Nat)=n from h)
 TIi2:=Y6z (show(n+2:Nat)=n+1 from h)
 TOi1:=Y6z (show(n+3:Nat)=n from h)
 TOi2:=Y6z (show(n+3:Nat)=n+1 from h)
 i12:=Y6z (show(n:Nat)=n+1 from h)
def ZD.all{z TI TO i1 i2 l1 l2:Addr}(d:ZD z TI TO i1 i2){H:Hp}{o1 o2:HO}(e1:H l1=some o1)(e2:H l2=some o2)(h:∀b∈[z,TI,TO,i1,i2],H b=none):ZipApart z TI TO i1 i2 l1 l2 :=
 ⟨d.TIz,d.TOz,d.i1z,d.i2z,d.TITO,d.TIi1,d.TIi2,d.TOi1,d.TOi2,d.i12,dU e1 (h _ (by simp)),dU e1 (h _ (by simp)),dU e1 (h _ (by simp)),dU e1 (h _ (by simp)),dU e2 (h _ (by simp)),dU e2 (h _ (by simp)),dU e2 (h _ (by simp)),dU e2 (h _ (by simp))⟩
def WD{P:Program}{w:World}{K:Aa}{elts:Y0f}{x1}{tp:Pos}{b1 b2:Bool}{z TI TO i1 i2 l1 l2:Addr}(d:ZD z TI TO i1 i2):LT P w K (Y9L x1 tp) (Itz b1 b2 l1 l2) [z,TI,TO,i1,i2] z (λi h=>ZAt b1 b2 z TI TO i1 i2 l1 l2 .none i h) where
 mem:=by simp
 obj:=λi h st b g=>by
  obtain⟨a,b',r⟩:=st.to;obtain⟨o1,n,_,d1⟩:=st.i1;obtain⟨ο,m,_,ψ⟩:=st.i2;simp only[bK,List.not_mem_nil,or_false]at g;rcases g with rfl | rfl | rfl | rfl | rfl
  ·exact Ya5 st.z (by cases q)
  ·exact Ya5 st.ti (by cases q)
  ·exact Ya5 r (by cases q)
  ·exact Ya5 n (by rw[d1]at q;cases q)
  ·exact Ya5 m (by rw[ψ]at q;cases q)
 keep:=λi h γ st k=>by
  obtain⟨a,b,r⟩:=st.to;exact⟨k _ (by simp) _ st.z,k _ (by simp) _ st.ti,Y29 b (k _ (by simp) _ r),st.i1.at λo e=>k _ (by simp) o e,st.i2.at λo e=>k _ (by simp) o e⟩
 item:=by
  intro X G S Z ι i l s σ H E I p st L;subst G S Z;obtain⟨φ,ρ,x,y,n,m,β,ζ⟩:=L;obtain⟨u1,J,M⟩:=I.sq n;obtain⟨θ,O,T⟩:=I.sq m;obtain⟨κ,R,τ⟩:=J.get β;obtain⟨η,C,υ⟩:=O.get ζ;have D:=d.all n m λb g=>(p b g).1;refine SJ D st M T (x:=κ) (y:=η) (by simpa using R) (by simpa using C) λγ Z' ν U=>Y7 (wpAny_letOwnedTupleGo_zip Z'.z λε N j=>?_);have ξ:∀b o,b ∉ [z,TI,TO,i1,i2]->Y28->ε.get? b=Yb:=λb o g e=>by
   simp only[bK,List.not_mem_nil,or_false,not_or]at g;exact j.extBut b o g.1 (U b o g.1 g.2.2.1 g.2.2.2.1 g.2.2.2.2 e)
  have I1:dA X l σ H { s with heap:=ε }:=Yfg ξ p;have fq:qF X l H s.heap.objs.size:=I.fpOk (Yq) (Y5S);have e0:Yde=none:=by
   cases q:Yde with
   | none=>rfl
   | some o=>exact absurd (aO (bN q) I.sz) (cO _)
  have nz:YdM z:=YeG (bN st.z) (by rw[<-q];exact cO _);obtain⟨a,b,r⟩:=Z'.to;refine⟨Y2R,Y6P s.heap.objs.size [x,y],I1.put fq e0 ⟨⟨xC (by show 2<=64;decide),_,Ybo _ nz ν,rfl⟩,[κ,η],.cons τ (Yba υ),Y3y (Ybo _ nz ν) _ rfl⟩,rfl,Y9e _ x y rfl fq.1 (λxs' ys' δ μ=>?_),
   ⟨N,Ybo _ d.TIz Z'.ti,Y29 b (Ybo _ d.TOz r),Z'.i1.at λo e=>Ybo o d.i1z e,Z'.i2.at λo e=>Ybo o d.i2z e⟩,λb g=>?_⟩
  ·rw[n]at δ;rw[m]at μ;rw[<-zU.inj δ,<-zU.inj μ];exact⟨β,ζ⟩
  ·have ω:YdE b:=λq=>by
    obtain⟨a',b',B⟩:=st.to;obtain⟨o1,A,_⟩:=st.i1;obtain⟨ο,α,_⟩:=st.i2;have lt:∀{c o},Y39 c->YdE c:=λe=>dJ (bN e);simp only[bK,List.not_mem_nil,or_false]at g;rcases g with rfl | rfl | rfl | rfl | rfl
    ·exact lt st.z q
    ·exact lt st.ti q
    ·exact lt B q
    ·exact lt A q
    ·exact lt α q
   rw[fF ω];exact(p b g).1
 done:=by
  intro X G S Z ι i l s σ H E I p st L;subst G S Z;obtain⟨φ,ρ,n,m,χ⟩:=L;obtain⟨u1,J,M⟩:=I.sq n;obtain⟨θ,O,T⟩:=I.sq m;have D:=d.all n m λb g=>(p b g).1;have l1:=J.length;have l2:=O.length;have u:u1.toArray[i]?=none\/θ.toArray[i]?=none:=by
   rcases χ with h | h
   ·left;simp;exact Oo
   ·right;simp;exact Oo
  refine SI (I.ok.hd ι) D st M T u λγ U=>Y0I (Yfg (λb o g e=>?_) p);simp only[bK,List.not_mem_nil,or_false,not_or]at g;exact U b o g.1 g.2.2.1 g.2.2.2.1 g.2.2.2.2 e
 self:=λ_ _ _ _ _ st h=>wpAny_pyIter_zip st.z h
abbrev zA(b:Bool)(h:Heap)(l:Addr):Heap:=h.push (itO b l)
abbrev zB(b1 b2:Bool)(h:Heap)(l1 l2:Addr):Heap:=(zA b1 h l1).push (itO b2 l2)
abbrev zC(b1 b2:Bool)(h:Heap)(l1 l2:Addr):Heap:=(zB b1 b2 h l1 l2).push { cls:=.type "tuple",data:=.seq #[.ref h.objs.size,.ref (zA b1 h l1).objs.size] }
abbrev zE(b1 b2:Bool)(h:Heap)(l1 l2:Addr):Heap:=(zC b1 b2 h l1 l2).push { cls:=.type "tuple",data:=.seq #[.none,.none] }
abbrev zF(b1 b2:Bool)(h:Heap)(l1 l2:Addr):Heap:=(zE b1 b2 h l1 l2).push { cls:=.type "zip",data:=.fields #[.none,.bool false,.bool false,.ref (zB b1 b2 h l1 l2).objs.size,.ref (zC b1 b2 h l1 l2).objs.size] }
def aFd(b1 b2:Bool)(l1 l2:Addr)(xs ys:Ai):Meets (Builtin.«zip.__new__» ⟨[.type "zip",.ref l1,.ref l2],[]⟩) (λ_ R s=>Y20 b1 l1 xs/\Y20 b2 l2 ys/\R (Y7K (.ref (zE b1 b2 s.heap l1 l2).objs.size)) { s with heap:=zF b1 b2 s.heap l1 l2 }) :=
 .of_wp λp w A R s h=>by
  obtain⟨l,g,d,r,m⟩:=s;obtain⟨c,a,h⟩:=h;have n:=sub_zip;have j:nB b1 (Shared.heap ⟨l,g,d,r,m⟩) l1 xs:=c;have i:nB b2 (Shared.heap ⟨l.push (itO b1 l1),g,d,r,m⟩) l2 ys:=a.at λo e=>Y3U
  wp_walk using QR j,QR i
  exact Y7 h
section
variable{prog:Program}{w:World}{A:Around}{E:Yd}{s:Shared}
def aGY{b1 b2:Bool}{l1 l2:Addr}{xs ys:Ai}{Q:Yd}(hl1:Y20 b1 l1 xs)(hl2:Y20 b2 l2 ys)
  (h:∀h',ZAt b1 b2 (Y8r 4) (Y8r 2) (Y8r 3) s.heap.objs.size (Y25) l1 l2 .none 0 h'->(∀c o,Y39 c->Y4W c)->Y2x (Y8r 4) ({ s with heap:=h' })) :
  Y26 (call (.type "zip") [.ref l1,.ref l2]):=by
 refine callType_new F.called_zip Dd (F.typeCall_zip_2 _ _) (F.newCall_zip_2 _ _) (λa=>F.args_object_init_3 a _ _) F.entry_zip_new (aFd b1 b2 l1 l2 xs ys) (Y0j hl1 hl2);have e:(zA b1 s.heap l1).objs.size=Y25:=gY ..;have i:(zB b1 b2 s.heap l1 l2).objs.size=Y8r 2:=by rw[gY,e]
 have d:(zC b1 b2 s.heap l1 l2).objs.size=Y8r 3:=by rw[gY,i]
 have l:(zE b1 b2 s.heap l1 l2).objs.size=Y8r 4:=by rw[gY,d]
 have g:(zF b1 b2 s.heap l1 l2).get? (zE b1 b2 s.heap l1 l2).objs.size=Y7g:=Y1n;have n:(zF b1 b2 s.heap l1 l2).get? (zC b1 b2 s.heap l1 l2).objs.size=Y7g:=Y1R Y1n;have m:(zF b1 b2 s.heap l1 l2).get? (zB b1 b2 s.heap l1 l2).objs.size=Y7g:=Y6R Y1n;have j:(zF b1 b2 s.heap l1 l2).get? (zA b1 s.heap l1).objs.size=Y7g:=Y6R (Y1R Y1n);have p:(zF b1 b2 s.heap l1 l2).get? s.heap.objs.size=Y7g:=Y6R (Y6R Y1n);show _/\_;rw[i,d,l]at g;rw[e,i]at m;rw[d]at n;rw[e]at j;rw[l];exact⟨Y1o g,h _ ⟨g,m,Y0K _ n,Yb1 _ p,Yb1 _ j⟩ λc o x=>Y6R (Y1R (Y6R x))⟩
end
def aGN(b1 b2:Bool)(ta:TA):TI:=Ydb σ H (∃l1 l2 xs ys,vs=[.ref l1,.ref l2]/\H1 l1=Y4t b1/\H1 l2=Y8u b2 ys/\R (Itz b1 b2 l1 l2) H1)
def aAm:Yf2 "zip"=YfC "zip":=Kk
section
variable{X:Cx}
def aER{a b:Expr}{ta:TA}{p pos tp:Pos}{elts:Y0f}{x1}{b1 b2:Bool}(hg:Gl X "zip")(hm:X.mg "zip" = none)(ha:PA X [a,b] ta)(hs:Y1X [a,b]=[(false,Y0d a),(false,Y0d b)])(hs2:Y33 b=[(false,Y0d b)]) :
  PI X (Y9L x1 tp) (Y4v "zip" [a,b] []) (aGN b1 b2 ta):=by
 intro g s σ H R I h;refine Call_ (vX I hg hm aAm (Yak (ha pos g s σ H _ I h) (λL c ⟨A,H1,I1,w,u⟩=>?_) (by rw[hs,hs2]) (by rw[hs2];rfl)));obtain⟨C,M,J,D,e,y,l,q⟩:=u;subst e;cases w with
 | cons r rr =>
  cases rr with
  | cons r' rr =>
   cases rr;cases r;cases r';obtain⟨u1,_,m⟩:=I1.sq y;obtain⟨B,_,n⟩:=I1.sq l;refine aGY m n λG Z j=>wpAny_pyIter_zip Z.z ?_;refine⟨_,[YdQ 4,YdQ 2,YdQ 3,c.heap.objs.size,YdQ 1],_,_,H1,rfl,I1.kept (t':=c.toks) j,WD (ZD.seq _),Z,λb i=>?_,q⟩;have d:c.heap.objs.size<=b:=by
    simp only[bK,List.not_mem_nil,or_false]at i;rcases i with rfl | rfl | rfl | rfl | rfl
    ·exact Y9s _
    ·exact Y9s _
    ·exact Y9s _
    ·exact Yq
    ·exact Y9s _
   exact Yas d d
def lF(b1 b2:Bool){a b:Expr}{ta:TA}{p pos tp:Pos}{elts:Y0f}{x1}(hg:Gl X "zip")(hm:X.mg "zip" = none)(ha:LY X [a,b] ta)(hs:Y1X [a,b]=[(false,Y0d a),(false,Y0d b)]:=by rfl)(hs2:Y33 b=[(false,Y0d b)]:=by first | exact pP | exact pQ | exact iL | rfl) :
  OH X (Y9L x1 tp) (Y4v "zip" [a,b] []) (aGN b1 b2 ta):=⟨aER hg hm ha.p hs hs2⟩
end
def uY{b1 b2:Bool}{l1 l2:Addr}{xs ys:Al}{g:TG}{tb:TS}{D:sW}{σ:St}{H:Hp}(Pv:Nat->Y1y)(h0:Y6U 0)(hl:∀i σ H,Y31->H l1=Y4t b1/\H l2=Y8u b2 ys)
  (hs:∀i x y q σ H H',Y0q=Y8->Y1r=Y09->Y31->H q=none->H' q=Yj [x,y]->Y1->g (.ref q) σ H' (Y53 ({ D with nx:=Pv (i+1),ct:=Pv (i+1),bk:=D.nx }))) (hd:∀σ H,Y6U YaP->Y3S) :
  ∃W:Nat->Nat->St->Hp->Prop,(Y7n 0 m σ H)/\∀i m σ H,W i m σ H ->
   ((Itz b1 b2 l1 l2).stop i H/\Y3S)\/((Itz b1 b2 l1 l2).go i H/\∃N:St->Hp->Prop,Y9X (N σ' H'->∃m',m' < m/\W (i+1) m' σ' H') ((Itz b1 b2 l1 l2).yld i H x H'->g x σ H' (Y53 ({ D with nx:=N,ct:=N,bk:=D.nx })))):=by
 refine YaR (m=YaP-i/\i<=YaP/\Y31) (Y1Z _ Y0H h0);rintro i m σ H ⟨rfl,u,p⟩;obtain⟨a,c⟩:=hl i σ H p;by_cases hlt:i<YaP
 ·have j:Y0q=some xs[i]:=aB Oo;have n:Y1r=some ys[i]:=aB Oo;refine .inr ⟨⟨xs,ys,_,_,a,c,j,n⟩,Pv (i+1),λσ' H' l=>Y3y Oo hlt l,λv H' y=>?_⟩;obtain⟨q,x,y,rfl,d,rfl,h⟩:=y;obtain⟨s,r⟩:=h xs ys a c;exact hs i x y q σ H _ s r p d bP (aU.upd d)
 ·have e:i=YaP:=Oo;subst e;refine Y1Y ⟨xs,ys,a,c,?_⟩ (hd σ H p);exact Oo
end L2
namespace L2
open PySem
def sP:Ag->Y1Q Af
 | [],[]=>true
 | .int i _::vs,n::ns=>decide (i=n)&&sP vs ns
 | _,_=>false
def vZ(K:Aa)(a:Addr)(ns:Af):Bool :=
 match YcH with
 | some o=>(match o.cls with | .type n=>n == "tuple" | _=>false)&&(match o.data with | .seq xs _=>decide (xs.size<=64)&&sP xs.toList ns | _=>false)
 | none=>false
theorem sP.vals:∀{vs:Ag}{ns:Af},sP vs ns=true->eK (Y5i) vs
 | [],[],_=>.nil
 | v::vs,n::ns,h=>by
  cases v with
  | int i t =>
   have h':(decide (i=n)&&sP vs ns)=true:=h;rw[dM]at h';have e:=of_decide_eq_true h'.1;subst e;exact .cons ⟨t,rfl⟩ (sP.vals h'.2)
  | _=>cases h
 | [],_::_,h=>by cases h
 | v::_,[],h=>by cases v <;> cases h
def wM{K:Aa}{H:Hp}{a:Addr}{ns:Af}(h:vZ K a ns=true):jQ K H a (Y5i):=by
 unfold vZ at h;split at h
 ·rename_i o ho
  rw[dM]at h;obtain⟨d,c⟩:=h;split at d
  ·rename_i n hn
   split at c
   ·rename_i xs m hx
    rw[dM]at c;have e:n = "tuple" := by simpa using d
    subst e;exact .inr ⟨o,xs,m,ho,hn,hx,xC (of_decide_eq_true c.1),sP.vals c.2⟩
   ·cases c
  ·cases d
 ·cases h
def jQ.keep{K:Aa}{H H':Hp}{a:Addr}{xs:Al}(s:Y1)(h:Y47 K a):jQ K H' a xs:=by
 rcases h with(h | ⟨o,h⟩) | h
 ·exact Ycw (s _ _ h)
 ·exact .inl (Y2E o (s _ _ h))
 ·exact .inr h
mutual
def uH(K:Aa)(H:Hp):Y0r PyData V
 | .none,v=>v=.non
 | .bool b,v=>v=.bl b
 | .int i,v=>v=.int i
 | .str x,v=>v=.str x
 | .list ds,v=>∃a xs,v=.ref a/\H a=some (.lst xs)/\oI K H ds xs
 | .tuple ds,v=>∃a xs,v=.ref a/\jQ K H a xs/\oI K H ds xs
 | .dict kvs,v=>kvs=[]/\∃a,v=.ref a/\H a=some (.dK [])
def oI(K:Aa)(H:Hp):Y0r Y0Z Al
 | [],vs=>vs=[]
 | d::ds,vs=>∃x xs,vs=x::xs/\uH K H d x/\oI K H ds xs
end
def uH.tup{K:Aa}{H:Hp}{a:Addr}{xs:Al}{ds:Y0Z}(h:Y47 K a)(r:oI K H ds xs):uH K H (.tuple ds) (Yn):=by
 unfold uH;exact Y11 a xs h r
theorem oI.ints{K:Aa}{H:Hp}:∀ns:Af,oI K H (YdH) (Y5i)
 | []=>by unfold oI;rfl
 | n::ns=>by unfold oI;exact⟨_,_,rfl,by unfold uH;rfl,oI.ints ns⟩
section
variable{X:Cx}{pins:Ad}{σ:St}{H:Hp}{s:Shared}
mutual
theorem uH.reads(I:Y5):∀{d:PyData}{v:V}{u:Value},uH X.K H d v->Y3W->∃as,Reads s.heap u d as
 | .none,_,u,h,r=>by
  cases(show _=V.non from h);cases(show u=Value.none from r);exact⟨_,.none⟩
 | .bool b,_,u,h,r=>by
  cases(show _=V.bl b from h);cases(show u=Value.bool b from r);exact⟨_,.bool b⟩
 | .int b,_,u,h,r=>by
  cases(show _=V.int b from h);obtain⟨t,q⟩:=(show ∃t,u=Value.int b t from r);cases q;exact⟨_,.int b t⟩
 | .str b,_,u,h,r=>by
  cases(show _=V.str b from h);obtain⟨t,q⟩:=(show ∃t,u=Value.str b t from r);cases q;exact⟨_,.str b t⟩
 | .list ds,v,u,h,r=>by
  unfold uH at h;obtain⟨a,l,rfl,g,j⟩:=h;cases(show u=Value.ref a from r);obtain⟨_,c,n,i,e⟩:=(show hV X.prog X.w H s.heap a (.lst l)from I.hok a _ g);obtain⟨as,q⟩:=oI.reads I j i;exact⟨_,.list e rfl rfl (by simpa using q)⟩
 | .tuple ds,v,u,h,r=>by
  unfold uH at h;obtain⟨a,l,rfl,g,j⟩:=h;cases(show u=Value.ref a from r);obtain⟨c,i,⟨o,e,m,n,hd⟩,_⟩:=I.tuple g;obtain⟨as,q⟩:=oI.reads I j i;exact⟨_,.tuple e m hd (by simpa using q)⟩
 | .dict kvs,v,u,h,r=>dC.reads I (d:=.dict kvs) (by unfold dC;unfold uH at h;exact h) r
theorem oI.reads(I:Y5):∀{ds:Y0Z}{vs:Al}{us:Ag},oI X.K H ds vs->Y9c->∃as,ReadsAll s.heap us ds as
 | [],_,us,h,r=>by
  cases(show _=[]from h);cases r;exact⟨_,.nil⟩
 | d::ds,_,us,h,r=>by
  unfold oI at h;obtain⟨x,xs,rfl,h1,h2⟩:=h;cases r with
  | cons r1 r2 =>
   obtain⟨as,a⟩:=uH.reads I h1 r1;obtain⟨bs,c⟩:=oI.reads I h2 r2;exact⟨_,.cons a c⟩
end
end
@[irreducible] def aBo(K:Aa)(b:Bool):R2:=λx y H Q=>∃d d',uH K H d x/\uH K H d' y/\Y6n d/\Y6n d'/\Y34 (b == Yek d)
section
variable{X:Cx}
def aE1(K:Aa)(hu:Y3I 64<cLine)(hK:X.K=K:=by rfl):Y44 .NotEq (aBo K false):=by
 subst hK;unfold aBo;intro a s σ H x y v u Q I j l h;obtain⟨d,r,n,m,i,e,q⟩:=h;obtain⟨p,g⟩:=n.reads I j;obtain⟨bs,c⟩:=m.reads I l;exact SeqAt.compareNe_shaped g c i e hu ⟨.bl _,H,I,by show _=_;simp,q⟩
end
section
variable{K:Aa}{H:Hp}{p:Addr}{xs:Al}{i:Int}{v:V}{Q:VK}
def reK{b:Bool}{x y:V}{d d':PyData}(h1:uH K H d x)(h2:uH K H d' y)(s1:Y6n d)(s2:Y6n d')(q:Y34 (b == Yek d)):aBo K b x y H Q:=by
 unfold aBo;exact⟨d,d',h1,h2,s1,s2,q⟩
def nW(h:Y47 K p)(e:IF xs i=Yy)(q:Q v H):rIx K (Y2o) (Y1d) H Q:=YaZ ⟨p,xs,i,v,rfl,rfl,h,e,q⟩
end
def HY(xs:Al)(k:Nat):oC xs (some (k:Int)) none=xs.drop k:=by
 unfold oC;rw[HT.GT,HT.xG];by_cases h:Y4P k
 ·rw[Nat.min_eq_left h];exact List.take_of_length_le (by rw[List.length_drop];exact Yq)
 ·rw[Nat.min_eq_right Oo,List.drop_of_length_le (Yq),List.drop_of_length_le Oo,List.take_nil]
def RQ(xs:Al)(k:Nat):oC xs none (some (k:Int))=xs.take k:=by
 unfold oC;rw[HT.GT,HT.xG,List.drop_zero,Nat.sub_zero];by_cases h:Y4P k
 ·rw[Nat.min_eq_left h]
 ·rw[Nat.min_eq_right Oo,List.take_of_length_le (Yq),List.take_of_length_le Oo]
@[irreducible] def aBj(K:Aa):V->Y18->Y8Y:=aGr K
def xD{X:Cx}(K:Aa)(h:X.K=K:=by rfl):SlR X (aBj K):=by subst h;unfold aBj;exact PJ
def slL{K:Aa}{H:Hp}{a:Addr}{xs ys:Al}{lo hi:Y18}{Q:VK}(h:H a=Y0G)(e:oC xs lo hi=ys)(k:∀q H',H q=none->H' q=Y0t->Y1->Y0E q):aBj K (Yn) lo hi H Q:=by
 unfold aBj;exact Y11 a xs Y8W (λp c=>by rw[e];exact k p _ c bP (aU.upd c))
section
variable{σ:St}{js:Ae}{te:TE}{H:Hp}{Q:VK}
def BU{R:Yaf V}{ys:Al}{y:V}(h:∀(j:Nat) z,ys[j]?=Y99->R j z)(r:R ys.length y):∀(j:Nat) z,(ys++[y])[j]?=Y99->R j z:=λj z a=>by
 by_cases hji:j<ys.length
 ·rw[cQ hji]at a;exact h j z a
 ·rw[cJ Oo]at a;have:j-ys.length=0:=by
   by_cases q:j-ys.length=0
   ·exact q
   ·rw[bS (by simp;exact Oo)]at a;cases a
  rw[this]at a;have c:y=z:=by simpa using a
  have:j=ys.length:=Oo;subst this c;exact r
def yU{J:It}{n:Nat}(src:Yaf V)(R:Nat->Y4y)(hR:Yah (R i y H1->R i y H2))(hz:Yac n)
  (hg:∀i H',Y1->i<n->Y8l H'/\∀x H3,Y8j H' x H3->H3=H'/\src i x) (hst:∀H',Y1->J.stop n H')
  (hs:∀i x H' (Q':VK),src i x->i<n->Y1->(∀y H5,aU H' H5->R i y H5->Q' y H5)->te (Y8::Y0X) H' Q')
  (hd:Y3g (H D=none) (Y0x=Y0t->Y1->Y3c n->(∀(i:Nat) (y:V),Y1r=Y09->R i y H')->Y1g)):nU J σ js BQ te H Q:=by
 refine KW (J:=J) (n:=n) src hz (λD i ys H'=>H D=none/\Y1/\∀(i:Nat) (y:V),Y1r=Y09->R i y H') (λD H1 a _ s=>Y29 s (λi y h=>by simp at h))
  (λD i ys H' d _ p=>hg i H' p.2.1 d) (λD ys H' _ p=>hst H' p.2.1) (λD i x ys H' u d e a p=>?_) (λD ys H' e a g p=>hd D ys H' a g p.2.1 e p.2.2)
 refine hs i x H' _ u d p.2.1 λy H5 c r=>⟨c _ _ a,λH6 w l=>Y0j p.1 (aU.thru p.1 (p.2.1.trans c) l)⟩;have m:=l.t (c _ _ a);exact BU (R:=λj z=>R j z H6) (λj z A=>hR j z _ _ (c.t.trans m) (p.2.2 j z A)) (by rw[e];exact hR i y _ _ m r)
def fI{K:Aa}{a:Addr}{xs:Al}(R:Nat->Y4y)(hR:Yah (R i y H1->R i y H2))(hz:YeR)(hl:H a=Y0G)
  (hs:∀i x H' (Q':VK),Y0q=Y8->Y1->(∀y H5,aU H' H5->R i y H5->Q' y H5)->te (Y8::Y0X) H' Q')
  (hd:Y3g (H D=none) (Y0x=Y0t->Y1->Y3c xs.length->(∀(i:Nat) (y:V),Y1r=Y09->R i y H')->Y1g)):nU (Itl K a) σ js BQ te H Q :=
 yU (λi x=>Y0q=Y8) R hR hz (λi H' s c=>Ycn ⟨xs,xs[i],gE.of (s _ _ hl),by simp[c]⟩ ⟨y.1,y.2 xs (gE.of (s _ _ hl))⟩) (λH' s=>⟨xs,gE.of (s _ _ hl),Yq⟩)
  (λi x H' Q' d _ s k=>hs i x H' Q' d s k) hd
def rF{K:Aa}{a:Addr}{xs:Al}(R:Nat->Y4y)(hR:Yah (R i y H1->R i y H2))(hz:YeR)(hl:H a=Y12)
  (hs:∀i x H' (Q':VK),Y0q=Y8->Y1->(∀y H5,aU H' H5->R i y H5->Q' y H5)->te (Y8::Y0X) H' Q')
  (hd:Y3g (H D=none) (Y0x=Y0t->Y1->Y3c xs.length->(∀(i:Nat) (y:V),Y1r=Y09->R i y H')->Y1g)):nU (Itt K a) σ js BQ te H Q :=
 yU (λi x=>Y0q=Y8) R hR hz (λi H' s c=>Ycn ⟨xs,xs[i],jQ.of (s _ _ hl),by simp[c]⟩ ⟨y.1,y.2 xs (jQ.of (s _ _ hl))⟩) (λH' s=>⟨xs,jQ.of (s _ _ hl),Yq⟩)
  (λi x H' Q' d _ s k=>hs i x H' Q' d s k) hd
def iY{lo:Int}{n:Nat}(R:Nat->Y4y)(hR:Yah (R i y H1->R i y H2))(hz:Yac n)
  (hs:∀i H' (Q':VK),i<n->Y1->(∀y H5,aU H' H5->R i y H5->Q' y H5)->te (Y9 (lo+(i:Nat))::Y0X) H' Q')
  (hd:Y3g (H D=none) (Y0x=Y0t->Y1->Y3c n->(∀(i:Nat) (y:V),Y1r=Y09->R i y H')->Y1g)):nU (Itr lo n) σ js BQ te H Q :=
 yU (λi x=>x=.int (lo+(i:Nat))) R hR hz (λi H' s a=>Ycn a y) (λH' s=>Yq)
  (λi x H' Q' c a s k=>by subst c;exact hs i H' Q' a s k) hd
def aX.thru{p l:Addr}{H0 H1 H2:Hp}(hl:H0 l=none)(s:aX p H0 H1)(b:aX l H1 H2):aX p H0 H2:=λc o e=>by
 have n:=kF.ne e;have a:H0 c=Yb:=by rw[kF.at n]at e;exact e
 have d:c≠l:=λz=>by subst z;rw[hl]at a;cases a
 exact kF.of n (b.at d (s.at n a))
end
theorem bG.ofIdx{H:Hp}:∀{ds:Y0Z}{ys:Al},Y3c ds.length->(∀(i:Nat) (y:V),Y1r=Y09->∃d,ds[i]?=some d/\Y4F y)->Y9O ys
 | [],[],_,_=>bG.nil
 | d::ds,y::ys,hl,h=>by
  obtain⟨d',e,r⟩:=h 0 y rfl;cases(show d=d' by simpa using e);exact bG.cons r (bG.ofIdx (by simpa using hl) λi z a=>by simpa using h (i+1) z (by simpa using a))
 | [],_::_,hl,_=>by simp at hl
 | _::_,[],hl,_=>by simp at hl
theorem nG{P:Yaf Int}:∀{ys:Al},(∀(i:Nat) (y:V),Y1r=Y09->∃n,y=Y5K/\P i n)->∃ns:Af,ys=Y5i/\∀(i:Nat) n,ns[i]?=Y7i->P i n
 | [],_=>⟨[],rfl,λi n h=>by simp at h⟩
 | y::ys,h=>by
  obtain⟨n,rfl,hn⟩:=h 0 y rfl;obtain⟨ns,rfl,d⟩:=nG (P:=λi=>P (i+1)) (ys:=ys) λi z c=>h (i+1) z (by simpa using c);refine⟨n::ns,rfl,λi m a=>?_⟩;cases i with
  | zero=>cases(show n=m by simpa using a);exact hn
  | succ i=>exact d i m (by simpa using a)
end L2
namespace L2
open PySem PySem.Spec PyProof.Rows
def iZ.u1{k:Nat}{A:Around}(r:iZ k A):Y7a 1<cLine:=by have:=r.units;exact Oo
@[irreducible] def rDG:R2:=λx y H Q=>∃a v,x=Yn/\oM H a y (Yy)/\Q v H
@[irreducible] def rDP(D:sW)(σ:St)(x y v:V)(H:Hp):Prop:=∃a H4,x=Yn/\IN H a y v H4/\Y8z H4
def aCT(td ty tv:TE):TS:=λD σ H=>tv σ H λv H1=>td σ H1 λx H2=>ty σ H2 λy H3=>rDP D σ x y v H3
structure aCE(X:Cx)(pos:Pos)(keys:Y8C Expr)(values:Y0f)(trs:Y3A TE TE):Prop where p:PPs X pos keys values trs
section
variable{X:Cx}{o i value k v:Expr}{td ty tv tk:TE}{pos pos':Pos}{ks:Y8C Expr}{vs:Y0f}{trs:Y3A TE TE}
def gU(hu:Y3I 1<cLine)(ho:Yr o td)(hi:Yr i ty)(hs:aFP i:=by intro _ _;rfl):Yr (Y7G o i) (tOp rDG td ty):=⟨by unfold rDG;exact aBH hu ho.p hi.p hs⟩
def jA(hu:Y3I 1<cLine)(ho:Yr o td)(hi:Yr i ty)(hv:Yr value tv)(hs:Y9T value (Ye4 o i)=Y4M:=by rfl) :
  IR X (Y68 [Ye4 o i] value) (aCT td ty tv):=⟨by unfold aCT rDP;exact aBz hu ho.p hi.p hv.p hs⟩
def aAT:aCE X pos [] [] []:=⟨pps_nil⟩
def BK(hk:Yr k tk)(hv:Yr v tv)(hr:aCE X pos ks vs trs):aCE X pos (some k::ks) (v::vs) ((tk,tv)::trs):=⟨XT hk.p hv.p hr.p⟩
def aAY(h:aCE X pos ks vs trs)(hall:ks.all (·.isSome)=true:=by rfl)(hl:ks.length=vs.length:=by rfl)(h0:ks≠[]:=by intro h;cases h)(h15:ks.length<=15:=by decide):Yr (.Dict ks vs pos) (aCS trs):=⟨aBG h.p hall hl h0 h15⟩
end
def dgS{H:Hp}{p:Addr}{kvs:Y2K}{x:Str}{v:V}{Q:VK}(e:H p=Y5s kvs)(hv:Y8I (.inr x)=Yy)(q:Q v H):rDG (Y2o) (.str x) H Q:=by
 unfold rDG;exact⟨p,v,rfl,hv ▸ oM.k (k:=.inr x) e,q⟩
def dpS{H:Hp}{p:Addr}{kvs kvs2:Y2K}{x:Str}{v:V}{D:sW}{σ:St}(e:H p=Y5s kvs)(hl:Y6N 64)(hk:Y4U (.inr x) v=kvs2)(q:∀H',H' p=Y5s kvs2->Y14->Y8z H') :
  rDP D σ (Y2o) (.str x) v H:=by
 unfold rDP;exact Y11 p _ (IN.k (k:=.inr x) e (aJ hl Dd)) (q _ (by rw[hk];exact bP) aX.self)
def aX.tD{H H':Hp}{p:Addr}(s:Y14){xs:Y2K}(hp:H p=Y5s xs):Y2t:=Yel (tE h hp (by intro z;cases z)) h
section
variable{σ:St}{js:Ae}{te:TE}{H:Hp}{Q:VK}
end
structure OL(p L:Addr)(Fd:Y1M Nat):Prop where
 but:∀n D H1 H2,D≠p->D≠L->aX D H1 H2->Fd n H1->Fd n H2
 same:∀n H1 H2,aU H1 H2->Fd n H1->Fd n H2
 dic:∀n H',Fd n H'->∃xs,H' p=Y5s xs
 np:∀n H' D,Fd n H'->Y0x=none->D≠p/\D≠L
section
variable{σ:St}{js:Ae}{te:TE}{H:Hp}{Q:VK}
def aCf{J:It}{n:Nat}{p L:Addr}{Fd:Y1M Nat}(fl:OL p L Fd)(F0:Fd 0 H)(src:Yaf V)(R:Nat->Y4y)(hR:Yah (R i y H1->R i y H2))(hz:Yac n)
  (hg:∀i H',Y14->i<n->Y8l H'/\∀x H3,Y8j H' x H3->H3=H'/\src i x) (hst:∀H',Y14->J.stop n H')
  (hs:∀i x H' (Q':VK),src i x->i<n->Fd i H'->Y14->(∀y H5,Fd (i+1) H5->aX p H' H5->R i y H5->Q' y H5)->te (Y8::Y0X) H' Q')
  (hd:Y3g (H D=none) (Y0x=Y0t->Fd n H'->Y14->Y3c n->(∀(i:Nat) (y:V),Y1r=Y09->R i y H')->Y1g)):nU J σ js BQ te H Q:=by
 refine KW (J:=J) (n:=n) src hz (λD i ys H'=>H D=none/\Fd i H'/\Y14/\∀(i:Nat) (y:V),Y1r=Y09->R i y H') (λD H1 c _ s=>⟨c,fl.same _ _ _ s F0,s.but,λi y h=>by simp at h⟩)
  (λD i ys H' e _ q=>hg i H' q.2.2.1 e) (λD ys H' _ q=>hst H' q.2.2.1) (λD i x ys H' w e g c q=>?_) (λD ys H' g c l q=>hd D ys H' c l q.2.1 q.2.2.1 g q.2.2.2)
 obtain⟨np,A⟩:=fl.np _ _ _ F0 q.1;refine hs i x H' _ w e q.2.1 q.2.2.1 λy H5 F5 m r=>?_;obtain⟨I,C⟩:=fl.dic _ H' q.2.1;have a:=m.at np c;refine⟨a,λH6 B d=>Y2v q.1 (fl.but _ D _ _ np A d F5) (aX.thru q.1 (q.2.2.1.trans m) d)⟩;have u:=d.t a;exact BU (R:=λj z=>R j z H6) (λj z G=>hR j z _ _ ((m.tD C).trans u) (q.2.2.2 j z G)) (by rw[g];exact hR i y _ _ u r)
def KU{lo:Int}{n:Nat}{p L:Addr}{Fd:Y1M Nat}(fl:OL p L Fd)(F0:Fd 0 H)(R:Nat->Y4y)(hR:Yah (R i y H1->R i y H2))(hz:Yac n)
  (hs:∀i H' (Q':VK),i<n->Fd i H'->Y14->(∀y H5,Fd (i+1) H5->aX p H' H5->R i y H5->Q' y H5)->te (Y9 (lo+(i:Nat))::Y0X) H' Q')
  (hd:Y3g (H D=none) (Y0x=Y0t->Fd n H'->Y14->Y3c n->(∀(i:Nat) (y:V),Y1r=Y09->R i y H')->Y1g)):nU (Itr lo n) σ js BQ te H Q :=
 aCf fl F0 (λi x=>x=.int (lo+(i:Nat))) R hR hz (λi H' s a=>Ycn a y) (λH' s=>Yq)
  (λi x H' Q' c a f s k=>by subst c;exact hs i H' Q' a f s k) hd
end
def aAz(K:Aa)(a:Addr)(n:Nat):It :=
 ⟨Yed (Y35 K H a/\Y67 n/\i<n/\Y2u (n-1-i)=Y8),λi H x H'=>H'=H/\∀xs,Y35 K H a->Y2u (n-1-i)=Y8,λi H=>i=n⟩
def WE{P:Program}{w:World}{K:Aa}{tg:Expr}(a it:Addr)(n:Nat):LT P w K tg (aAz K a n) [it] it (λi h=>h.IsRevIter it a ((n:Int)-1-(i:Nat))) where
 mem:=by simp
 obj:=λi h st b j=>by
  have e:b=it:=by simpa using j
  subst e;obtain⟨o,e,c,d⟩:=st;exact Y1B e (λv z=>by rw[d]at z;cases z)
 keep:=λi h r st k=>st.at λo e=>k it (by simp) o e
 item:=by
  intro X L G D O i g s σ H E I m st B;subst L G D;obtain⟨ι,x,S,ζ,R,N⟩:=B;obtain⟨γ,rv,p,η⟩:=I.list S;obtain⟨u,δ,ru⟩:=rv.get N;obtain⟨A,y,U,C,J,M⟩:=m it (by simp);have ε:(n:Int)-1-(i:Nat)=((n-1-i:Nat):Int):=Oo;have st:s.heap.IsRevIter it a ((n:Int)-1-(i:Nat)):=st;rw[ε]at st;refine wpAny_pyNext_rev_item st p.isList (x:=u) (by simpa using δ) λr l Z=>?_;have I1:dA X g σ H { s with heap:=r }:=Yar s.toks ((Z.2 b j).trans e) A y C J M;have T:((n-1-i:Nat):Int)-1=(n:Int)-1-((i+1:Nat):Int):=Oo;rw[T]at l;obtain⟨o,e,c,d⟩:=id l;exact Y04 u (QU (s:={ s with heap:=r }) e c d Dd ⟨x,H,I1,ru,Y0I (λθ α=>by rw[I.list_inj α S];exact N),l,λb j=>(m b j).1⟩)
 done:=by
  intro X L G D O i g s σ H E I m st B;subst L G D;have R:i=n:=B;subst R;obtain⟨A,y,U,C,J,M⟩:=m it (by simp);have st:s.heap.IsRevIter it a ((i:Int)-1-(i:Nat)):=st;rw[show(i:Int)-1-(i:Nat)=-1 by exact Oo]at st;exact wpAny_pyNext_rev_end (I.ok.hd O) st λr β=>Y0I (Yar s.toks (β b o j e) A y C J M)
 self:=λ_ _ _ _ _ st h=>wpAny_pyIter_revIter st h
def aIZ(K:Aa)(ta:TA):TI:=Ydb σ H (∃l xs,vs=[Y1m]/\Y35 K H1 l/\R (aAz K l xs.length) H1)
def UZ:Yf2 "reversed"=YfC "reversed":=Kk
section
variable{X:Cx}{tg:Expr}
def VS{a:Expr}{ta:TA}{p pos:Pos}(hg:Gl X "reversed")(hm:X.mg "reversed" = none)(ha:LY X [a] ta)(hs:Y33 a=[(false,Y0d a)]:=by first | exact pP | exact pQ | exact iL | rfl) :
  OH X tg (Y4v "reversed" [a] []) (aIZ X.K ta):=⟨by
 intro c s σ H R I h;refine Call_ (vX I hg hm UZ (Yak (ha.p pos c s σ H _ I h) (λB d ⟨z,H1,I1,r,n⟩=>?_) (by rw[hs];rfl) (by rfl)));obtain⟨l,j,e,w,q⟩:=n;subst e;obtain⟨u,rfl,ru⟩:=oH r;cases ru;obtain⟨g,rv,p,A⟩:=I1.list w;have y:=rv.length;refine call_reversed_list p.isList ?_;have e:((g.toArray.size:Nat):Int)-1=(j.length:Int)-1-((0:Nat):Int):=by simp;exact Oo
 rw[e];refine wpAny_pyIter_revIter (l:=l) (i:=(j.length:Int)-1-((0:Nat):Int)) (Yag _) ⟨d.heap.objs.size,[d.heap.objs.size],_,_,H1,rfl,YbZ d.toks Y3U,WE l _ j.length,Yag _,λb m=>?_,q⟩;have e:b=d.heap.objs.size:=by simpa using m
 subst e;exact Yas Yq Yq⟩
end
def RC{K:Aa}{a:Addr}{xs:Al}{g:TG}{tb:TS}{D:sW}{σ:St}{H:Hp}(Pv:Nat->Y1y)(h0:Y6U 0)(hl:∀i σ H,Y4P i->Y31->Y35 K H a)
  (hs:∀i x σ H,Y59->Y2u (Y4g 1-i)=Y8->Y31->g x σ H (Y53 ({ D with nx:=Pv (i+1),ct:=Pv (i+1),bk:=D.nx }))) (hd:∀σ H,Yec->Y3S) :
  ∃W:Nat->Nat->St->Hp->Prop,(Y7n 0 m σ H)/\∀i m σ H,W i m σ H ->
   ((aAz K a xs.length).stop i H/\Y3S)\/((aAz K a xs.length).go i H/\∃N:St->Hp->Prop,Y9X (N σ' H'->∃m',m' < m/\W (i+1) m' σ' H') ((aAz K a xs.length).yld i H x H'->g x σ H' (Y53 ({ D with nx:=N,ct:=N,bk:=D.nx })))):=by
 refine YaR (m=Y4g i/\Y4P i/\Y31) ⟨xs.length,by simp,Y0H,h0⟩;rintro i m σ H ⟨rfl,c,p⟩;have q:=hl i σ H c p;by_cases hlt:Y59
 ·have d:Y2u (Y4g 1-i)=some (xs[xs.length-1-i]'Oo):=aB Oo;refine .inr ⟨Y5C xs _ q hlt d,Pv (i+1),λσ' H' h=>Y11 (Y4g (i+1)) Oo hlt h,Ye5⟩;obtain⟨e,y⟩:=y;subst e;exact hs i x σ _ hlt (y xs q) p
 ·have e:Y4Q i:=Oo;subst e;exact .inl (Y0I (hd σ H p))
def HR:Nat->Nat->TGs
 | _,0=>aFq
 | i,n+1=>ZK (mG i) (HR (i+1) n)
def gN(K:Aa)(n:Nat):TG:=aFp K n (HR 0 n)
theorem CZ{H:Hp}{r:St}{Q:Y1y}:∀(vs:Al) (pre os:St),os.length=vs.length->Q (pre++((vs.map some) ++ r)) H->HR pre.length vs.length vs (pre++(os++r)) H Q
 | [],pre,[],_,q=>⟨rfl,q⟩
 | v::vs,pre,o::os,hl,q=>by
  refine⟨v,vs,rfl,?_⟩;show HR (pre.length+1) vs.length vs ((pre++(o::os++r)).set pre.length (some v)) H Q;have e1:(pre++(o::os++r)).set pre.length (some v)=(pre++[some v])++(os++r):=by
   rw[List.set_append_right _ _ (aN _),Nat.sub_self,List.append_assoc];rfl
  have a:pre.length+1=(pre++[some v]).length:=by rw[aZ];rfl
  rw[e1,a];refine CZ vs (pre++[some v]) os (by simpa using hl) ?_;rw[List.append_assoc];exact q
@[irreducible] def pV(K:Aa)(n:Nat)(J:It)(σ:St)(js:Ae)(tc:TT)(te:TE)(H1:Hp)(Q:VK):Prop:=∀D,H1 D=none->∃W:Nat->Nat->Al->Hp->Prop,(Y7n 0 m [] (Y5j H1 D [])) /\
 ∀i m ys H2,W i m ys H2->H2 D=Y0t/\((J.stop i H2/\Y2x D H2)\/(Y8l H2/\Yb3 ys.length/\∀x H3,Y8j H2 x H3->∃a vs,x=Yn/\jQ K H3 a vs/\Y4K n /\
  vI tc (Y6v) H3 λb H4=>if b=true then BR te (Y6v) H4 λy H5=>H5 D=Y0t/\∃m',m' < m/\W (i+1) m' (ys++[y]) (Y5j H5 D (ys++[y]))
   else H4 D=Y0t/\∃m',m' < m/\W (i+1) m' ys H4))
def ML(K:Aa)(n:Nat)(wi:TI)(js:Ae)(tc:TT)(te:TE):TE:=YeK σ H (λJ H1=>pV K n J σ js tc te H1 Q)
section
variable{X:Cx}{scope:Scope}{xs:Ah}{N':Ah}{js:Ae}{elt iter:Expr}{pos:Pos}{tg:Expr}{ifs:Y0f}{tc:TT}{te:TE}{wi:TI}
def pV.turns{K:Aa}{n:Nat}{J:It}{σ:St}{H:Hp}{Q:VK}(h:pV K n J σ js tc te H Q):LQ (λx H vs=>∃a,x=Yn/\jQ K H a vs/\Y4K n) J σ js (vI tc) (BR te) H Q:=λD p=>by
 unfold pV at h;obtain⟨W,d,r⟩:=h D p;refine⟨W,d,λi m j H2 w=>?_⟩;obtain⟨hd,g⟩:=r i m j H2 w;refine⟨hd,g.imp_right λ⟨a,b,c⟩=>Y29 b (λx H3 y=>?_)⟩;obtain⟨a,vs,e,q,l,t⟩:=c x H3 y;exact⟨vs,⟨a,e,q,l⟩,t⟩
def dY.many(S:Y4H xs)(hg:∀C fp s₀ H₀,PGw (Y3Y) tg (gN X.K xs.length)):ON X scope tg xs.length (λ_=>Y8S X) (Yew) N' js (λx H vs=>∃a,x=Yn/\jQ X.K H a vs/\Y4K xs.length) (gN X.K xs.length) :=
 S.blk (λ⟨_,_,_,l⟩=>l) (λC fp s₀ H₀=>(hg C fp s₀ H₀).p) (λ{x H vs d σ Q} ⟨a,e,q,l⟩ c h=>⟨a,vs,e,q,l,by rw[<-l];exact CZ (r:=Y0X) vs [] d (by rw[c,l]) h⟩)
end
section
variable{X:Cx}{scope:Scope}{x1 x2 x3 y:Str}{N':Ah}{js:Ae}{elt iter tg:Expr}{ifs:Y0f}{py pos spos:Pos}{tc:TT}{te:TE}{wi:TI}{i:Nat}
def IT{xs:Ah}{k:Nat}{x:Str}{p:Pos}(S:Y4H xs)(h:Y2u k=Y8)(C:Addr)(fp:Y0s)(s₀:Shared)(H₀:Hp):PGw (Y3Y) (.Name x p) (mG k) :=
 have l:=S.own x (aE h)
 dG S.nd (S.pre k x h) (.inl (lookup_relabel_local l)) (.inr (lookup_relabel_local l))
def VU{p1 p2 pt:Pos}{kk:Nat}(S:Y4H [x1,x2])(C:Addr)(fp:Y0s)(s₀:Shared)(H₀:Hp):PGw (Y3Y) (Y8q [Y8f,Y8g]) (gN X.K 2) :=
 nY rfl (eT (IT S rfl C fp s₀ H₀) (eT (IT S rfl C fp s₀ H₀) lB))
def VW{p1 p2 p3 pt:Pos}{kk:Nat}(S:Y4H [x1,x2,x3])(C:Addr)(fp:Y0s)(s₀:Shared)(H₀:Hp):PGw (Y3Y) (Y8q [Y8f,Y8g,.Name x3 p3]) (gN X.K 3) :=
 nY rfl (eT (IT S rfl C fp s₀ H₀) (eT (IT S rfl C fp s₀ H₀) (eT (IT S rfl C fp s₀ H₀) lB)))
def kG{p1 p2 pt:Pos}{kk:Nat}(S:Y4H [x1,x2])(hi:OH X (Y8q [Y8f,Y8g]) iter wi)(ht:Yav Y3Y ifs tc)(he:Yau Y3Y elt te)
  (hs:∀x,Y6Z x=Y7j:=by intro _;rfl):Yr (Y4l [Y4G (Y8q [Y8f,Y8g])]) (ML X.K 2 wi js tc te) :=
 ⟨YdS (S.many (VU S)) hi.p ((ht C fp s₀ H₀).p.mono) ((he C fp s₀ H₀).p.mono) pV.turns hs⟩
def SO{p1 p2 p3 pt:Pos}{kk:Nat}(S:Y4H [x1,x2,x3])(hi:OH X (Y8q [Y8f,Y8g,.Name x3 p3]) iter wi)(ht:Yav Y3Y ifs tc)(he:Yau Y3Y elt te)
  (hs:∀x,Y6Z x=Y7j:=by intro _;rfl):Yr (Y4l [Y4G (Y8q [Y8f,Y8g,.Name x3 p3])]) (ML X.K 3 wi js tc te) :=
 ⟨YdS (S.many (VW S)) hi.p ((ht C fp s₀ H₀).p.mono) ((he C fp s₀ H₀).p.mono) pV.turns hs⟩
def wI{p1 p2 pt:Pos}{kk:Nat}(S:Y4H [x1,x2])(hN:X.N.Nodup)(hiN:Y3r=Y09)(hy:Y6Q y Y2S)(hi:OH X (Y8q [Y8f,Y8g]) iter wi)(ht:Yav Y3Y ifs tc)(he:Yau Y3Y elt te)
  (hsw:YeU (Y4l [Y4G (Y8q [Y8f,Y8g])]) (some (Y4A)) spos.line=pure true:=by rfl) (hs:∀x,Y6Z x=Y7j:=by intro _;rfl) :
  IR X (.Assign [Y4A] (Y4l [Y4G (Y8q [Y8f,Y8g])]) spos) (IY (ML X.K 2 wi js tc te) (mG i)) :=
 ⟨zN (S.many (VU S)) hN hiN hy hi.p (λC fp s₀ H₀=>(ht C fp s₀ H₀).p.mono) (λC fp s₀ H₀=>(he C fp s₀ H₀).p.mono) pV.turns hsw hs⟩
end
theorem EY{α β:Type}{R:Y0r α β}:∀{l:Yv}{m:Yaa}{i:Nat}{b:β},Paired R l m->m[i]?=some b->∃a,l[i]?=Y7e/\R a b
 | _,_,_,_,.nil,h=>by simp at h
 | _,_,0,b,.cons h t,e=>⟨_,rfl,by cases(show _=b by simpa using e);exact h⟩
 | _,_,i+1,b,.cons h t,e=>by
  obtain⟨a,h1,h2⟩:=EY t (i:=i) (by simpa using e);exact⟨a,by simpa using h1,h2⟩
section
variable{js:Ae}{te:TE}{tc:TT}{σ:St}{H:Hp}{Q:VK}
def US{K:Aa}{n:Nat}{J:It}{α:Type}{as:Yv}(p:Y1Q α)(Src:Y0r α V)(R:α->Y4y)(hR:∀c y H1 H2,eW H1 H2->R c y H1->R c y H2)(hz:Yac as.length)
  (hg:∀i H',Y1->i<as.length->Y8l H'/\∀x H3,Y8j H' x H3->H3=H'/\∃c,as[i]?=Y1u/\Src c x) (hst:∀H',Y1->J.stop as.length H')
  (hs:∀x c H',c∈as->Src c x->Y1->∃a vs,x=Yn/\jQ K H' a vs/\Y4K n/\(∀Q':Bool->Hp->Prop,(∀H5,aU H' H5->Q' (p c) H5)->tc (Y6v) H' Q') /\
   ∀H5 (Q':VK),aU H' H5->p c=true->(∀y H6,aU H5 H6->R c y H6->Q' y H6)->te (Y6v) H5 Q')
  (hd:Y3g (H D=none) (Y0x=Y0t->Y1->Y9z (R c y H') (as.filter p) ys->Y1g)):pV K n J σ js tc te H Q:=by
 unfold pV;intro D G;have mono:∀{H1 H2:Hp} {l:Yv} {ys:Al},eW H1 H2->Y9z (R c y H1) l ys->Y9z (R c y H2) l ys:=by
  intro H1 H2 l ys s h
  induction h with
  | nil=>exact .nil
  | cons h t ih=>exact .cons (hR _ _ _ _ s h) ih
 have snoc:∀{H1:Hp} {l:Yv} {ys:Al} {c:α} {y:V},Y9z (R c y H1) l ys->R c y H1->Y9z (R c y H1) (l++[c]) (ys++[y]):=by
  intro H1 l ys c y h r
  induction h with
  | nil=>exact Yba r
  | cons h t ih=>exact .cons h ih
 refine Y0j (λi m ys H'=>m=as.length-i/\i<=as.length/\Y0x=Y0t/\Y1/\ys.length<=i/\Y9z (R c y H') ((as.take i).filter p) ys) ⟨as.length,by simp,Y0H,bP,aU.upd G,Yq,.nil⟩;rintro i m ys H2 ⟨rfl,X,d,j,Z,z⟩;refine Y0p d;by_cases hlt:i<as.length
 ·obtain⟨A,B⟩:=hg i H2 j hlt;refine .inr ⟨A,Ye6 Oo Dd,λx H3 C=>?_⟩;obtain⟨rfl,c,I,N⟩:=B x H3 C;have u:as.take (i+1)=as.take i++[c]:=by rw[jV,I];rfl
  obtain⟨a,vs,e,T,O,S,U⟩:=hs x c H3 (aE I) N j;refine⟨a,vs,e,T,O,λb H4=>b=p c/\aU H3 H4,S _ λH5 w=>Y0I w,?_⟩;rintro b H4 ⟨rfl,g⟩;by_cases hp:p c=true
  ·rw[if_pos hp];refine Y0j (λy H5=>aU H4 H5/\R c y H5) (U H4 _ g hp λy H6 M r=>⟨M,r⟩);rintro y H5 ⟨w,r⟩;have L:=w _ _ (g _ _ d);refine⟨L,_,?_,rfl,hlt,bP,Ye7 G ((j.trans g).trans w),?_,?_⟩
   ·exact Oo
   ·rw[aZ,List.length_singleton];exact Oo
   ·rw[u,List.filter_append,show List.filter p [c]=[c]by simp[hp]];have P:eW H5 (Y5j H5 D (ys++[y])):=aX.t aX.self L;exact mono P (snoc (mono (g.trans w).t z) r)
  ·rw[if_neg hp];refine⟨g _ _ d,_,?_,rfl,hlt,g _ _ d,j.trans g,Oo,?_⟩
   ·exact Oo
   ·rw[u,List.filter_append,show List.filter p [c]=[]by simp[hp],List.append_nil];exact mono g.t z
 ·have e:i=as.length:=Oo;subst e;refine Y1Y (hst H2 j) (hd D ys H2 G d j ?_);rw[dL]at z;exact z
def FN{K:Aa}{n:Nat}{a0:Addr}{xs:Al}{α:Type}{as:Yv}(p:Y1Q α)(Src:Y0r α V)(R:α->Y4y)(hR:∀c y H1 H2,eW H1 H2->R c y H1->R c y H2)(hz:Yac as.length)(ha:H a0=Y0G)(pr:Paired Src as xs)
  (hs:∀x c H',c∈as->Src c x->Y1->∃a vs,x=Yn/\jQ K H' a vs/\Y4K n/\(∀Q':Bool->Hp->Prop,(∀H5,aU H' H5->Q' (p c) H5)->tc (Y6v) H' Q') /\
   ∀H5 (Q':VK),aU H' H5->p c=true->(∀y H6,aU H5 H6->R c y H6->Q' y H6)->te (Y6v) H5 Q')
  (hd:Y3g (H D=none) (Y0x=Y0t->Y1->Y9z (R c y H') (as.filter p) ys->Y1g)):pV K n (Itl K a0) σ js tc te H Q:=by
 have j:Y67 as.length:=pr.length.symm;refine US p Src R hR hz (λi H' s h=>Ycn ⟨xs,xs[i]'Oo,gE.of (s _ _ ha),by simp⟩ (Y0p y.1)) (λH' s=>⟨xs,gE.of (s _ _ ha),Oo⟩) hs hd;have e:=y.2 xs (gE.of (s _ _ ha));obtain⟨c,d,g⟩:=EY pr e;exact⟨c,d,g⟩
end
end L2
namespace L2
open PySem
section
variable{js:Ae}{te:TE}{σ:St}{H:Hp}{Q:VK}
def kM{K:Aa}{b1 b2:Bool}{l1 l2:Addr}{xs ys:Al}(R:Nat->Y4y)(hR:Yah (R i y H1->R i y H2))(hz:YeR)(h1:H l1=Y4t b1)(h2:H l2=Y8u b2 ys)(hl:Ye9)
  (hs:∀i x y H' (Q':VK),Y0q=Y8->Y1r=Y09->Y1->(∀z H6,aU H' H6->R i z H6->Q' z H6)->te (Y8::Y09::Y0X) H' Q')
  (hd:∀D zs H',H D=none->Y0x=Yi zs->Y1->Y4Q zs.length->(∀(i:Nat) (z:V),zs[i]?=Y99->R i z H')->Y1g):pV K 2 (Itz b1 b2 l1 l2) σ js BQ te H Q:=by
 unfold pV;intro D p;refine Y0j (λi m zs H'=>m=Y4g i/\Y4P i/\zs.length=i/\Y0x=Yi zs/\Y1/\∀(i:Nat) (z:V),zs[i]?=Y99->R i z H') ⟨xs.length,by simp,Y0H,rfl,bP,aU.upd p,λi z h=>by simp at h⟩;rintro i m zs H2 ⟨rfl,O,l,c,a,u⟩;refine Y0p c;by_cases hlt:Y59
 ·have I:Y0q=some xs[i]:=aB Oo;have g:Y1r=some (ys[i]'Oo):=aB Oo;refine .inr ⟨⟨xs,ys,_,_,a _ _ h1,a _ _ h2,I,g⟩,Ye6 Oo Dd,λv H3 y=>?_⟩;obtain⟨q,x,y,rfl,L,rfl,G⟩:=y;obtain⟨N,J⟩:=G xs ys (a _ _ h1) (a _ _ h2);have d:=Y2y [x,y] L;have A:(upd H2 q (.tup [x,y])) q=Yj [x,y]:=bP;generalize upd H2 q (.tup [x,y])=H3 at d A;refine Y1U q [x,y] rfl (jQ.of A) (λb H4=>b=true/\H4=H3) Y73 ?_;rintro b H4 ⟨rfl,rfl⟩;rw[Yo];refine Y0j (λz H5=>aU H4 H5/\R i z H5) (hs i x y H4 _ N J (a.trans d) λz H6 C r=>⟨C,r⟩);rintro z H5 ⟨n,r⟩;have B:=n _ _ (d _ _ c);have s:eW H5 (Y5j H5 D (zs++[z])):=aX.t aX.self B;exact⟨B,Y4g (i+1),Oo,rfl,hlt,by rw[aZ,l];rfl,bP,Ye7 p ((a.trans d).trans n),BU (R:=λj z=>R j z _) (λj w M=>hR j w _ _ ((d.trans n).t.trans s) (u j w M)) (by rw[l];exact hR i z _ _ s r)⟩
 ·have e:Y4Q i:=Oo;subst e;exact Y1Y ⟨xs,ys,a _ _ h1,a _ _ h2,.inl (Yq)⟩ (hd D zs H2 p c a l u)
end
theorem Paired.ofRepL{H:Hp}{α:Type}{g:Y88 α}:∀{as:Yv}{xs:Al},Ycu g xs->Paired (λa x=>Y1A (g a) x) as xs
 | [],xs,r=>by
  unfold bG at r;cases(show xs=[]from r);exact .nil
 | a::as,xs,r=>by
  rw[bE]at r;unfold bG at r;obtain⟨x,xs',rfl,r1,r2⟩:=r;exact .cons r1 (Paired.ofRepL r2)
theorem Paired.toRepL{H:Hp}{α:Type}{g:Y88 α}:∀{as:Yv}{xs:Al},Paired (λa x=>Y1A (g a) x) as xs->Ycu g xs
 | _,_,.nil=>bG.nil
 | _,_,.cons h t=>bG.cons h (Paired.toRepL t)
section
variable{X:Cx}{scope:Scope}{x1 x2 x3 y:Str}{N':Ah}{js:Ae}{elt iter tg:Expr}{ifs:Y0f}{py pos spos:Pos}{tc:TT}{te:TE}{wi wj:TI}{i:Nat}
end
end L2
namespace L2
open PySem PySem.Spec PyProof.Rows
section
variable{X:Cx}
@[irreducible] def QC(K:Aa):R2:=λx y H Q=>∃a b xs ys,x=Yn/\y=Y0k/\H a=Y12/\H b=Yj ys/\Y6L ys.length<=1000/\∀c H',Y1->H' c=Yj (xs++ys)->Y0E c
def aFC{K:Aa}{H:Hp}{Q:VK}{a b:Addr}{xs ys:Al}(h1:H a=Y12)(h2:H b=Yj ys)(hz:Y6L ys.length<=1000)(k:∀c H',Y1->H' c=Yj (xs++ys)->Y0E c):QC K (Yn) (Y0k) H Q:=by
 unfold QC;exact⟨a,b,xs,ys,rfl,rfl,h1,h2,hz,k⟩
def HD(K:Aa)(hK:X.K=K:=by rfl):Y65 X .Add (QC K):=by
 subst hK;unfold QC;intro g s σ H x y v u Q I B C h;obtain⟨a,b,G,R,rfl,rfl,m,w,P,q⟩:=h;by_cases hx:G=[]
 ·cases B;cases C;subst hx;obtain⟨S,Z,N,_⟩:=YdT m;obtain⟨J,β,T,_⟩:=YdT w;cases Z;obtain⟨⟨M,O,z,sl⟩,L,A,n,hd⟩:=id N;obtain⟨⟨D,j,r,l⟩,c,i,α,d⟩:=id T;simp only at A hd i d;subst A hd i d;exact concat_meets (Y1o L) (Y1o c) noFill_tuple_add seq_tuple_add PySem.F.slot_tuple_add PySem.F.entry_tuple_add (Yf4 _)
   (tuple_addW0 a b _ _ n α O j sl l rfl) ⟨L,c,Y0O Y0k H I (q b H (Y0e) w)⟩
 ·refine aBO g s σ H _ _ v u Q I B C ⟨a,b,G,R,rfl,rfl,jQ.of m,jQ.of w,hx,Y2Z P,Yaj,λ_ p U=>q p _ (aU.upd U) bP⟩;subst e;exact q a H (Y0e) (by rw[List.append_nil];exact m)
end
section
variable{X:Cx}
end
@[irreducible] def aBn:V->Y1v:=QB
def NH{X:Cx}:MtR X "list.extend" aBn:=by unfold aBn;exact TN
def aFt{H:Hp}{l b:Addr}{xs zs:Al}{Q:VK}(h:H l=Y0G)(h2:H b=Yi zs)(hz:Yea<=1000)(k:∀H',H' l=Yi (xs++zs)->Y6M l->Ybz):aBn (Y1m) [Y0k] H Q:=by
 unfold aBn;exact⟨l,b,xs,zs,rfl,rfl,h,h2,Nat.le_of_lt (yE hz),k _ bP aX.self⟩
section
variable{prog:Program}{w:World}{A:Around}{E:Yd}{s:Shared}{l:Addr}{xs:Array (Int × Tok)}
def WP{Q:Yd}(hh:Y6W)(hl:s.heap.IsTuple l (intItems xs))
  (h:∀h' tk t',(∀b o,Y28->Y1a=Yb)->Q (.int (preSum (numAt xs) xs.size) t') { s with heap:=h',toks:=tk }) :
  Y26 (YaE "sum" [Y1m]):=by
 have d:Y4I l:=by obtain⟨_,e,_⟩:=hl;exact bN e
 refine call_sum_walkG (wpAny_pyIter_tuple hl ?_);refine⟨_,[_,l],[_],_,_,_,numAt xs,rfl,Walks.tuple (A:=A.in1) hh _ l (dJ d) (intItems xs),⟨Yag _,hl.push _⟩,λc a=>?_,(λ_ _=>intItems_at),λh' tk t' i=>?_⟩
 ·show c<(s.heap.push _).objs.size;rw[gY];rcases bK.mp a with rfl | a
  ·exact Yft
  ·rcases bK.mp a with rfl | a
   ·exact Nat.lt_succ_of_lt d
   ·cases a
 ·have:=h h' tk t' λc o e=>by
   refine i c o (λg=>?_) (Y3U);rcases bK.mp g with j | g
   ·exact absurd (j ▸ bN e) (cO _)
   ·cases g
  simpa[intItems]using this
end
@[irreducible] def PR(K:Aa):Y1v:=λxs H Q=>∃(p:Addr) (ns:Af),xs=Y56/\jQ K H p (Y5i)/\YcK
def rsT{K:Aa}{H:Hp}{p:Addr}{ns:Af}{Q:VK}(h:jQ K H p (Y5i))(q:YcK):PR K Y56 H Q:=by unfold PR;exact Y11 p ns h q
def BF{X:Cx}(K:Aa)(hc:Y1z)(hK:X.K=K:=by rfl):Y45 "sum" (PR K):=by
 subst hK;unfold PR;intro i s σ H D G Q I r h;obtain⟨p,m,rfl,w,q⟩:=h;obtain⟨u,rfl,n⟩:=oH r;cases n;obtain⟨a,y,g,B⟩:=I.tuple w;have d:=wA y;obtain⟨c,e⟩:=d.allInts.items;rw[e]at g;refine WP (Y9M) g λC A z l=>⟨.int m.sum,H,I.kept l,Y0p z,q⟩;rw[preSum_eq,List.take_of_length_le (by simp)];rw[<-d.numsOf];have j:a=(intItems c).toList:=by rw[<-e]
 rw[j,nums_intItems]
section
variable{js:Ae}{te:TE}{tc:TT}{σ:St}{H:Hp}{Q:VK}
def bG.atI{α:Type}{g:Y88 α}:∀{as:Yv}{xs:Al},Ycu g xs->∀{i:Nat}{x:V},Y0q=Y8->∃a,as[i]?=Y7e/\Y1A (g a) x:=by
 intro as xs r i x e;obtain⟨d,c,h⟩:=r.get e;rw[aF]at c;cases q:as[i]? with
 | none=>rw[q]at c;cases c
 | some a=>rw[q]at c;cases c;exact Y04 a h
def UR{K:Aa}{a:Addr}{xs:Al}{α:Type}{g:Y88 α}{as:Yv}(r:Ycu g xs)(p:Y1Q α)(hz:YeR)(hl:H a=Y0G)
  (ht:∀x c H' (Q':Ybx),c∈as->Y2Q (g c) x->Y1->(∀H5,aU H' H5->Q' (p c) H5)->tc (Y8::Y0X) H' Q')
  (he:∀x H' (Q':VK),Q' x H'->te (Y8::Y0X) H' Q')
  (hd:Y3g (H D=none) (Y0x=Y0t->Y1->Y41 ((as.filter p).map g) ys->Y1g)):nU (Itl K a) σ js tc te H Q:=by
 unfold nU;intro D z;have s:Y67 as.length:=by rw[r.len,aA]
 refine Y0j (λi m ys H'=>m=Y4g i/\Y4P i/\Y0x=Y0t/\Y1/\Y1q (((as.take i).filter p).map g) ys/\ys.length<=i) ⟨xs.length,by simp,Y0H,bP,aU.upd z,bG.nil,Yq⟩;rintro i m ys H2 ⟨rfl,I,d,h,u,J⟩;refine Y0p d;by_cases hlt:Y59
 ·have C:Y0q=some xs[i]:=aB hlt;refine .inr ⟨⟨xs,_,gE.of (h _ _ hl),C⟩,Ye6 Oo Dd,λx H3 w=>?_⟩;obtain⟨rfl,j⟩:=w;have j:=j xs (gE.of (h _ _ hl));obtain⟨c,B,A⟩:=r.atI j;have l:as.take (i+1)=as.take i++[c]:=by rw[jV,B];rfl
  refine Y0j (λb H4=>b=p c/\aU H3 H4) (ht x c H3 _ (aE B) (A.same h) h λH5 G=>Y0I G);rintro b H4 ⟨rfl,n⟩;by_cases hp:p c=true
  ·rw[if_pos hp];refine Y0j (λy H5=>y=x/\H5=H4) (he x H4 _ Y73);rintro y H5 ⟨rfl,rfl⟩;refine⟨n _ _ d,_,?_,rfl,hlt,bP,Ye7 z (h.trans n),?_,?_⟩
   ·exact Oo
   ·rw[l,List.filter_append,bI];have:List.filter p [c]=[c]:=by simp[hp]
    rw[this];exact bG.snoc u A
   ·rw[aZ,List.length_singleton];exact Oo
  ·rw[if_neg hp];refine⟨n _ _ d,_,?_,rfl,hlt,n _ _ d,h.trans n,?_,?_⟩
   ·exact Oo
   ·rw[l,List.filter_append];have:List.filter p [c]=[]:=by simp[hp]
    rw[this,List.append_nil];exact u
   ·exact Oo
 ·have e:Y4Q i:=Oo;subst e;refine Y1Y ⟨xs,gE.of (h _ _ hl),Yq⟩ (hd D ys H2 z d h ?_);rw[s,dL]at u;exact u.same h
end
def OR{X:Cx}{e:Expr}{t:TT}(h:OE X e t):OE X e (vI t):=⟨h.p.mono⟩
end L2
namespace HT
open PySem PyProof.Rows
section
variable{prog:Program}{w:World}{A:Around}{E:Yd}{s:Shared}
def vE{t sl:Addr}{items:Ai}{vl vu:Value}{lo hi:Y18}{Q:Yd}(ht:Ycz t items)(hs:Ydz sl vl vu)(pl:IsPart vl lo)(pu:IsPart vu hi)
  (h0:Y8m 0=0) (h1:Y7k=items.size) (h:Y2x t s):Y26 (getItem (.ref t) (.ref sl)):=by
 obtain⟨i,c,g,j⟩:=id hs;have d:Y8B sl "slice" := ⟨i,c,g⟩;have e:Y8B t "tuple" := ht.typeIs;unfold getItem
 try with_reducible refine YfH
 first | refine Y3B ?_ | skip
 refine wpAny_bind (wpAny_sequenceKey ht.typeIs Dd ?_);refine wpAny_bind (wpAny_callSpecial?_slot (name:=Str.ofString "__getitem__") ht.typeIs PyProof.Rows.slot_tuple_getitem
  (wpAny_call_entry PyProof.Rows.slot_tuple_getitem ht.typeIs entry_tuple_getitem ?_ (args_tuple_getitem _ _)))
 show Y3t (Builtin.Tuple.tupleItemsOf (.ref t) >>= _);refine wpAny_bind (tupleItemsOf_ ht ?_);refine wpAny_bind (wpAny_typeOf d ?_);rw[if_pos Dd];refine wpAny_bind (qY hs pl pu ?_);have a:(((kO items.size 0 lo:Nat):Int) == 0&&(1:Int) == 1&&Yee (Y7k-Y8m 0))=true:=by
  rw[h0,h1];simp
 show Y3t (if(((kO items.size 0 lo:Nat):Int) == 0&&(1:Int) == 1&&Yee (Y7k-Y8m 0))=true then _ else _);rw[if_pos a];unfold Builtin.Tuple.tupleIsExact;refine YbR (wpAny_typeOf e (Y2k));rw[if_pos Dd];refine Yaq ?_
 first
  | exact YaG h
  | exact Y3B (YaG h)
end
end HT
namespace L2
open PySem PySem.W PySem.Spec PySem.Calls PyProof.Rows
def NW{xs:Al}{lo hi:Y18}(h0:YaF 0 lo=0)(h1:Y4Q (YaF xs.length hi)):oC xs lo hi=xs:=by
 unfold oC;rw[h0,h1];simp
section
variable{X:Cx}
@[irreducible] def MZ(K:Aa):V->Y18->Y8Y:=λx lo hi H Q=>∃a xs,x=Yn/\H a=Y12/\∀c H',Y1->H' c=Yj (oC xs lo hi)->Y0E c
def PH(K:Aa)(hK:X.K=K:=by rfl):SlR X (MZ K):=by
 unfold MZ;subst hK;intro e s σ H x v z A j m sl Q I n w y l h;obtain⟨a,d,rfl,g,q⟩:=h;by_cases hw:Yei 0 j=0/\Yei d.length m=d.length
 ·cases n;obtain⟨i,r,u,C⟩:=YdT g;have c:i.toArray.size=d.length:=by rw[bM];exact r.length.symm
  refine⟨"tuple",_,PyProof.Rows.slot_tuple_getitem.lookup,u.typeIs,HT.vE u w y l (by rw[c];exact hw.1) (by rw[c];exact hw.2) ?_⟩;exact Y0O Yn H I (q a H (Y0e) (by rw[NW hw.1 hw.2];exact g))
 ·exact aDt e s σ H (Yn) v z A j m sl Q I n w y l (Y6H a d (jQ.of g) hw (λp B=>q p _ (aU.upd B) bP))
def aDv{K:Aa}{H:Hp}{a:Addr}{xs:Al}{k:Nat}{Q:VK}(h:H a=Y12)(q:∀c H',Y1->H' c=Yj (xs.take k)->Y0E c):MZ K (Yn) none (some (k:Int)) H Q:=by
 unfold MZ;exact Y11 a xs h (λc H' s e=>q c H' s (by rw[e,RQ]))
def aDu{K:Aa}{H:Hp}{a:Addr}{xs:Al}{k:Nat}{Q:VK}(h:H a=Y12)(q:∀c H',Y1->H' c=Yj (xs.drop k)->Y0E c):MZ K (Yn) (some (k:Int)) none H Q:=by
 unfold MZ;exact Y11 a xs h (λc H' s e=>q c H' s (by rw[e,HY]))
end
end L2
namespace HT
open PySem PySem.W PyProof.Rows
def eZ{α:Type}(n:Nat)(lt:Nat->Y8X)(R:Y1k α):Y1k (KasT α)
 | .ret a=>R a
 | .ask i j k=>i<n/\j<n/\eZ n lt R (k (lt i j))
section
variable{n:Nat}{lt:Nat->Y8X}
theorem eZ.bind{α β:Type}{R:Y1k α}{S:Y1k β}{f:α->KasT β}:∀{t:KasT α},Y3o R t->(∀a,R a->Y3o S (f a))->Y3o S (t.bind f)
 | .ret a,h,k=>k a h
 | .ask i j t,⟨h1,h2,h3⟩,k=>⟨h1,h2,eZ.bind (t:=t (lt i j)) h3 k⟩
theorem eZ.wp{α:Type}{R:Y1k α}{cmp:Nat->Nat->Y1j (Y1j Bool)}{Q:Y1j α}{s:Shared}(hc:∀i j C,i<n->j<n->C (lt i j) s->cmp i j C s)(q:∀a,R a->Q a s) :
  ∀{t:KasT α},Y3o R t->t.kasWp cmp Q s
 | .ret a,h=>q a h
 | .ask i j t,⟨h1,h2,h3⟩=>hc i j _ h1 h2 (eZ.wp (t:=t (lt i j)) hc q h3)
def iT(n:Nat)(p:Y0Q):Prop:=p.Perm (Ydl n)
def iT.bd{p:Y0Q}(g:Y2b)(hn:0<n)(i:Nat):Y60 i<n:=by
 by_cases hi:i<p.size
 ·have e:Y60 i=p[i]:=by simp[Array.getD,hi]
  rw[e];have m:p[i]∈Ydl n:=(Array.Perm.mem_iff g).mp (Array.getElem_mem hi);simpa using m
 ·have e:Y60 i=0:=by simp[Array.getD,hi]
  rw[e];exact hn
def iT.rev{p:Y0Q}(g:Y2b)(i j:Nat):iT n (kas_rev p i j):=(mirror_perm p i j _).trans g
def iT.bub{p:Y0Q}(g:Y2b)(i j:Nat):iT n (bubble p i j):=(bubble_perm p i j).trans g
theorem IH{p:Y0Q}(g:Y2b)(hn:0<n):∀(f m:Nat),Y3o (λ_=>True) (kas_asc p f m)
 | 0,m=>True.intro
 | f+1,m=>⟨g.bd hn _,g.bd hn _,by
  cases lt (p.getD m 0) (p.getD (m-1) 0)with
  | true=>exact True.intro
  | false=>exact IH g hn f (m+1)⟩
theorem xV(hn:0<n):∀(f:Nat) {p:Y0Q}(g:Y2b) (m q:Nat),YbB (iT n r.1) (kas_desc f p m q)
 | 0,p,g,m,q=>g
 | f+1,p,g,m,q=>by
  refine⟨g.bd hn _,g.bd hn _,?_⟩;cases lt (p.getD m 0) (p.getD (m-1) 0)with
  | true =>
   show eZ n lt _ (if q > 0 then _ else _);split
   ·exact xV hn f (g.rev _ _) _ _
   ·exact xV hn f g _ _
  | false =>
   refine⟨g.bd hn _,g.bd hn _,?_⟩;cases lt (p.getD (m-1) 0) (p.getD m 0)with
   | true=>exact g
   | false=>exact xV hn f g _ _
def FW{p:Y0Q}(g:Y2b)(hn:0<n)(m r:Nat):YbB (iT n r.2) (kas_tail3 m r p):=by
 unfold kas_tail3;exact(IH (g.rev 0 m) hn _ _).bind λ_ _=>g.rev 0 m
def xU{p:Y0Q}(g:Y2b)(hn:0<n)(m r:Nat):YbB (iT n r.2) (kas_descPart m r p):=by
 unfold kas_descPart;refine(xV hn _ g _ _).bind λr a=>?_;split
 ·exact FW (iT.rev a _ _) hn _ _
 ·exact FW a hn _ _
def VB{p:Y0Q}(g:Y2b)(hn:0<n)(m:Nat):YbB (iT n r.2) (kas_count m p):=by
 unfold kas_count;refine(IH g hn _ _).bind λk _=>?_;split
 ·exact g
 ·split
  ·refine Y0j (g.bd hn _) (g.bd hn _);cases Y6o 0 (k-1)with
   | true=>exact g
   | false=>exact xU (g.rev _ _) hn _ _
  ·exact xU g hn _ _
theorem yZ{p:Y0Q}(g:Y2b)(hn:0<n)(k:Nat):∀(f l r:Nat),Y3o (λ_=>True) (kas_place p k f l r)
 | 0,l,r=>True.intro
 | f+1,l,r=>by
  unfold kas_place;split
  ·exact True.intro
  ·refine⟨g.bd hn _,g.bd hn _,?_⟩;cases lt (p.getD k 0) (p.getD ((l+r)/2) 0)with
   | true=>exact yZ g hn k f _ _
   | false=>exact yZ g hn k f _ _
theorem RY(hn:0<n):∀(f:Nat) {p:Y0Q}(g:Y2b) (k:Nat),Y3o (iT n) (kas_bin f p k)
 | 0,p,g,k=>g
 | f+1,p,g,k=>by
  unfold kas_bin;exact(yZ g hn k _ _ _).bind λl _=>RY hn f (g.bub _ _) _
def aAp(hn:0<n):Y3o (iT n) (kas_sort n):=by
 unfold kas_sort;refine(VB (Array.Perm.refl _) hn n).bind λr a=>?_;split
 ·exact RY hn _ a _
 ·exact a
end
structure LZ(n:Nat)(lt:Nat->Y8X):Prop where
 tot:∀i j,i<n->j<n->i≠j->Yx (lt i j)->lt j i=true
 tra:∀i j k,lt i j=true->lt j k=true->lt i k=true
def EF(lt:Nat->Y8X)(p:Y0Q)(m:Nat):Prop:=∀a b,a<b->b<m->Y6o a b=true
def Dsc(lt:Nat->Y8X)(p:Y0Q)(m:Nat):Prop:=∀a b,a<b->b<m->Y6o b a=true
section
variable{n:Nat}{lt:Nat->Y8X}
theorem eZ.mono{α:Type}{R S:Y1k α}(k:∀a,R a->S a):∀{t:KasT α},Y3o R t->Y3o S t
 | .ret a,h=>k a h
 | .ask i j t,⟨h1,h2,h3⟩=>⟨h1,h2,eZ.mono k (t:=t (lt i j)) h3⟩
theorem iT.size{p:Y0Q}(g:Y2b):p.size=n:=by
 have:=(Array.perm_iff_toList_perm.mp g).length_eq;simpa using this
def iT.ne{p:Y0Q}(g:Y2b){i j:Nat}(hi:i<n)(hj:j<n)(h:i≠j):Y60 i≠Y60 j:=by
 have l:p.toList.Nodup:=(Array.perm_iff_toList_perm.mp g).nodup_iff.mpr (by simpa using List.nodup_range);have a:=g.size;have d:p.getD i 0=p.toList[i]'(by simpa[a]using hi):=by simp[Array.getD,a,hi]
 have c:p.getD j 0=p.toList[j]'(by simpa[a]using hj):=by simp[Array.getD,a,hj]
 rw[d,c];intro e;exact h ((List.getElem_inj l).mp e)
def EF.one{p:Y0Q}:EF lt p 1:=λa b d c=>Oo
def EF.more(O:LZ n lt){p:Y0Q}(g:Y2b){m:Nat}(h:EF lt p m)(h1:1<=m)(hm:m<n)(e:Yx (Y6o m (m-1))):EF lt p (m+1):=λa b c j=>by
 by_cases q:b<m
 ·exact h a b c q
 ·have i:b=m:=Oo;subst i;have d:Y6o (b-1) b=true:=O.tot _ _ (g.bd Oo _) (g.bd Oo _) (g.ne Oo Oo Oo) e;by_cases r:a=b-1
  ·rw[r];exact d
  ·exact O.tra _ _ _ (h a (b-1) Oo Oo) d
theorem IG(O:LZ n lt){p:Y0Q}(g:Y2b):∀(f m:Nat),1<=m->m+f<=n->EF lt p m->Y3o (λk=>m<=k/\k<=m+f/\EF lt p k/\(k<m+f->Y6o k (k-1)=true)) (kas_asc p f m)
 | 0,m,_,_,h=>⟨aN _,aN _,h,λq=>Oo⟩
 | f+1,m,h1,hm,h=>by
  refine⟨g.bd Oo _,g.bd Oo _,?_⟩;cases e:lt (p.getD m 0) (p.getD (m-1) 0)with
  | true=>exact⟨aN _,Oo,h,λ_=>e⟩
  | false =>
   refine(show eZ n lt _ (kas_asc p f (m+1))from ?_);have ih:=IG O g f (m+1) Oo Oo (h.more O g h1 Oo e);exact eZ.mono (λk ⟨i,d,c,a⟩=>⟨Oo,Oo,c,λq=>a Oo⟩) ih
def Dsc.more(O:LZ n lt){p:Y0Q}{m:Nat}(h:Dsc lt p m)(h1:1<=m)(e:Y6o m (m-1)=true):Dsc lt p (m+1):=λa b c g=>by
 by_cases q:b<m
 ·exact h a b c q
 ·have d:b=m:=Oo;subst d;by_cases r:a=b-1
  ·rw[r];exact e
  ·exact O.tra _ _ _ e (h a (b-1) Oo Oo)
theorem KP(O:LZ n lt){p:Y0Q}(g:Y2b):∀(f m:Nat),1<=m->m+f<=n->Dsc lt p m->YbB (r.1=p/\r.2.2=0/\m<=r.2.1/\r.2.1<=m+f/\Dsc lt p r.2.1) (kas_desc f p m 0)
 | 0,m,_,_,h=>⟨rfl,rfl,aN _,aN _,h⟩
 | f+1,m,h1,hm,h=>by
  refine⟨g.bd Oo _,g.bd Oo _,?_⟩;cases e:lt (p.getD m 0) (p.getD (m-1) 0)with
  | true =>
   refine(show eZ n lt _ (kas_desc f p (m+1) 0)from ?_);exact eZ.mono (λr ⟨a1,a2,a3,a4,a5⟩=>⟨a1,a2,Oo,Oo,a5⟩) (KP O g f (m+1) Oo Oo (h.more O h1 e))
  | false =>
   refine⟨g.bd Oo _,g.bd Oo _,?_⟩;rw[O.tot _ _ (g.bd Oo _) (g.bd Oo _) (g.ne Oo Oo Oo) e];exact⟨rfl,rfl,aN _,(show m<=m+(f+1)by exact Oo),h⟩
def XH{p:Y0Q}{m i:Nat}(hm:m<=p.size):(kas_rev p 0 m).getD i 0=if i<m then Y60 (m-1-i) else Y60 i:=by
 have e:=getElem?_mirror (xs:=p) (i:=0) (j:=m) hm (m/2) Oo i;have a:(kas_rev p 0 m)[i]?=if(0<=i/\i<0+m/2)\/(m-m/2<=i/\i<m) then p[0+m-1-i]? else p[i]?:=e
 have g:∀(q:Y0Q) (k:Nat),q.getD k 0=q[k]?.getD 0:=λq k=>by simp[Array.getD_eq_getD_getElem?]
 rw[g,a,g,g];by_cases h:i<m
 ·rw[Y3K];by_cases h2:(0<=i/\i<0+m/2)\/(m-m/2<=i/\i<m)
  ·rw[YcR,show 0+m-1-i=m-1-i by exact Oo]
  ·rw[YcT,show m-1-i=i by exact Oo]
 ·rw[Y3L,Y2l]
def Dsc.rev{p:Y0Q}{m:Nat}(h:Dsc lt p m)(hm:m<=p.size):EF lt (kas_rev p 0 m) m:=λa b c d=>by
 rw[XH hm,XH hm,Y5x,if_pos d];exact h _ _ Oo Oo
def UP(O:LZ n lt){p:Y0Q}(g:Y2b)(hn:2<=n):YbB (iT n r.2/\1<=r.1/\r.1<=n/\EF lt r.2 r.1) (kas_count n p):=by
 unfold kas_count;refine(IG O g (n-1) 1 (aN _) Oo EF.one).bind λk ⟨i,G,c,u⟩=>?_;split
 ·exact⟨g,i,by show k<=n;exact Oo,c⟩
 ·rename_i hk
  have z:k≠n:=λe=>hk (by simp[e]);split
  ·refine Y0j (g.bd Oo _) (g.bd Oo _);rw[c 0 (k-1) Oo Oo];exact⟨g,i,by show k<=n;exact Oo,c⟩
  ·have A:k=1:=Oo;subst A;unfold kas_descPart;have w:Dsc lt p 2:=λa b y J=>by
    have e:a=0/\b=1:=Oo;rw[e.1,e.2];exact u Oo
   refine(KP O g (n-2) 2 Oo Oo w).bind λr ⟨l,d,s,B,j⟩=>?_;obtain⟨D,m,q⟩:=r;dsimp only at l d s B j ⊢;subst l d;rw[Y2B];unfold kas_tail3;have L:=g.size;exact(IG O (g.rev 0 m) (n-m) m Oo Oo (j.rev Oo)).bind λh ⟨M,I,C,_⟩=>⟨g.rev 0 m,(show 1<=h by exact Oo),(show h<=n by exact Oo),C⟩
theorem yL(O:LZ n lt){p:Y0Q}(g:Y2b){k:Nat}(hk:k<n)(h:EF lt p k):∀(f l r:Nat),l<=r->r<=k->r-l<=f->(∀a,a<l->Y6o a k=true)->(∀a,r<=a->a<k->Y6o k a=true) ->
  Y3o (λm=>m<=k/\(∀a,a<m->Y6o a k=true)/\∀a,m<=a->a<k->Y6o k a=true) (kas_place p k f l r)
 | 0,l,r,h1,h2,h3,h4,h5=>⟨Oo,h4,λa q1 q2=>h5 a Oo q2⟩
 | f+1,l,r,h1,h2,h3,h4,h5=>by
  unfold kas_place;split
  ·exact⟨Oo,h4,λa q1 q2=>h5 a Oo q2⟩
  ·refine⟨g.bd Oo _,g.bd Oo _,?_⟩;cases e:lt (p.getD k 0) (p.getD ((l+r)/2) 0)with
   | true =>
    refine(show eZ n lt _ (kas_place p k f l ((l+r)/2))from ?_);refine yL O g hk h f l ((l+r)/2) Oo Oo Oo h4 λa q1 q2=>?_;by_cases q:a=(l+r)/2
    ·rw[q];exact e
    ·exact O.tra _ _ _ e (h _ _ Oo q2)
   | false =>
    refine(show eZ n lt _ (kas_place p k f ((l+r)/2+1) r)from ?_);have e2:=O.tot _ _ (g.bd Oo _) (g.bd Oo _) (g.ne hk Oo Oo) e;refine yL O g hk h f ((l+r)/2+1) r Oo Oo Oo (λa q1=>?_) h5;by_cases q:a=(l+r)/2
    ·rw[q];exact e2
    ·exact O.tra _ _ _ (h a ((l+r)/2) Oo Oo) e2
def aAl{p:Y0Q}{k m i:Nat}(hk:k<p.size)(hm:m<=k):(bubble p k (k-m)).getD i 0=if i=m then Y60 k else if m<i/\i<=k then Y60 (i-1) else Y60 i:=by
 have e:=getElem?_bubble (xs:=p) hk (k-m) Oo i;have g:∀(q:Y0Q) (k:Nat),q.getD k 0=q[k]?.getD 0:=λq k=>by simp[Array.getD_eq_getD_getElem?]
 rw[g,e,g,g,g,show k-(k-m)=m by exact Oo];by_cases h:i=m
 ·rw[Y3K,Y3K]
 ·rw[Y3L,Y3L];by_cases h2:m<i/\i<=k
  ·rw[YcR,YcR]
  ·rw[YcT,YcT]
theorem RX(O:LZ n lt):∀(f:Nat) {p:Y0Q}(g:Y2b) (k:Nat),k+f=n->EF lt p k->Y3o (λp=>Y2b/\EF lt p n) (kas_bin f p k)
 | 0,p,g,k,hk,h=>⟨g,by rw[<-hk];exact h⟩
 | f+1,p,g,k,hk,h=>by
  unfold kas_bin;refine(yL O g Oo h k 0 k Oo Oo Oo (λa q=>Oo) (λa q1 q2=>Oo)).bind λm ⟨m1,m2,m3⟩=>?_;have hs:=g.size;refine RX O f (g.bub _ _) (k+1) Oo λa b c d=>?_;rw[aAl Oo m1,aAl Oo m1];by_cases ha:a=m
  ·rw[if_pos ha,if_neg Oo,if_pos Oo];exact m3 _ Oo Oo
  ·rw[if_neg ha];by_cases hb':b=m
   ·rw[if_pos hb',if_neg Oo];exact m2 a Oo
   ·rw[if_neg hb'];by_cases q1:m<a/\a<=k
    ·rw[if_pos q1,if_pos Oo];exact h _ _ Oo Oo
    ·rw[if_neg q1];by_cases q2:m<b/\b<=k
     ·rw[if_pos q2];exact h _ _ Oo Oo
     ·rw[if_neg q2];exact h _ _ c Oo
def WU(O:LZ n lt)(hn:2<=n):Y3o (λp=>Y2b/\EF lt p n) (kas_sort n):=by
 unfold kas_sort;refine(UP O (Array.Perm.refl _) hn).bind λr ⟨a,d,g,c⟩=>?_;split
 ·rename_i q
  rw[Nat.max_eq_left d];exact RX O _ a _ Oo c
 ·rename_i q
  have e:r.1=n:=Oo;exact⟨a,e ▸ c⟩
end
end HT
namespace L2
open PySem PySem.Spec PySem.W PyProof.Rows HT
def OX{x:V}{xs:Al}{us:Ag}(r:Y5z (x::xs)):∃u us',us=u::us'/\fJ x u/\eK xs us':=by
 cases r with
 | cons h t=>exact Y3y _ h t
def KG(fin:Bool):Af->Y1Q Af
 | x::a,y::b=>if x=y then KG fin a b else decide (x<y)
 | _,_=>fin
def sN(a b:Af):Bool:=KG (Y22 a.length b.length) a b
def CP(a:Af):Yx (sN a []):=by
 unfold sN;cases a <;> rfl
def HK(y:Int)(b:Af):sN [] (y::b)=true:=by unfold sN;rfl
def HL(x y:Int)(a b:Af):sN (x::a) (y::b)=if x=y then sN a b else Y22 x y:=by
 show(if x=y then KG (Y22 ((x::a).length) ((y::b).length)) a b else Y22 x y)=_;rw[cI,cI,show decide (a.length+1<b.length+1)=decide (a.length<b.length)by simp]
 rfl
theorem QL:∀{a b:Af},a≠b->Yx (sN a b)->sN b a=true
 | [],[],h,_=>absurd rfl h
 | [],y::b,_,e=>by rw[HK]at e;cases e
 | x::a,[],_,_=>HK _ _
 | x::a,y::b,h,e=>by
  rw[HL]at e ⊢;by_cases q:x=y
  ·subst q;rw[if_pos rfl]at e ⊢;exact QL (λz=>h (by rw[z])) e
  ·rw[if_neg q]at e;rw[if_neg (Ne.symm q)];have:=of_decide_eq_false e;exact cN Oo
theorem HI:∀{a b c:Af},sN a b=true->sN b c=true->sN a c=true
 | a,b,[],_,h=>by rw[CP]at h;cases h
 | [],b,z::c,_,_=>HK _ _
 | x::a,[],z::c,h,_=>by rw[CP]at h;cases h
 | x::a,y::b,z::c,h1,h2=>by
  rw[HL]at h1 h2 ⊢;by_cases q1:x=y
  ·subst q1;rw[if_pos rfl]at h1;by_cases q2:x=z
   ·subst q2;rw[if_pos rfl]at h2 ⊢;exact HI h1 h2
   ·rw[if_neg q2]at h2 ⊢;exact h2
  ·rw[if_neg q1]at h1;have h1:=of_decide_eq_true h1;by_cases q2:y=z
   ·subst q2;rw[if_neg q1];exact cN h1
   ·rw[if_neg q2]at h2;have h2:=of_decide_eq_true h2;rw[if_neg Oo];exact cN Oo
def HJ{a:Af}:Yx (sN a a):=by
 induction a with
 | nil=>exact CP _
 | cons x a ih=>rw[HL,Yo];exact ih
theorem KF:∀{l m:Ac},l.Pairwise (λa b=>sN a b=true)->m.Pairwise (λa b=>sN a b=true)->(∀x,x∈l↔x∈m)->l=m
 | [],[],_,_,_=>rfl
 | [],y::m,_,_,h=>by have:=(h y).mpr (aS ..);cases this
 | x::l,[],_,_,h=>by have:=(h x).mp (aS ..);cases this
 | x::l,y::m,h1,h2,h=>by
  obtain⟨c,g⟩:=List.pairwise_cons.mp h1;obtain⟨d,b2⟩:=List.pairwise_cons.mp h2;have e:x=y:=by
   rcases bK.mp ((h x).mp (aS ..))with q | q
   ·exact q
   ·rcases bK.mp ((h y).mpr (aS ..))with r | r
    ·exact r.symm
    ·have:=HI (d x q) (c y r);rw[HJ]at this;cases this
  subst e;rw[KF g b2 λz=>?_];constructor
  ·intro q;rcases bK.mp ((h z).mp (aY _ q))with r | r
   ·subst r;have:=c z q;rw[HJ]at this;cases this
   ·exact r
  ·intro q;rcases bK.mp ((h z).mpr (aY _ q))with r | r
   ·subst r;have:=d z q;rw[HJ]at this;cases this
   ·exact r
abbrev QJ(cs:Ac):Nat->Y8X:=λi j=>sN (Yd8 []) (cs.getD j [])
def aEZ{cs:Ac}(h:cs.Nodup):LZ cs.length (QJ cs):=⟨λi j c d ne e=>QL (λz=>by
  have l:Yd8 []=cs[i]:=by simp[c]
  have a:cs.getD j []=cs[j]:=by simp[d]
  rw[l,a]at z;exact ne ((List.getElem_inj h).mp z)) e,λi j k g m=>HI g m⟩
section
variable{prog:Program}{w:World}{A:Around}{E:Yd}{s:Shared}{Q:Y1j Bool}
theorem zQ{fin:Bool}:∀{a b:Af}{us vs:Ag}{i:Nat},Y5z Yex->eK (b.map V.int) vs->Q (KG fin a b) s->KatLex prog w A true fin Q (us.zip vs) i s
 | [],b,us,vs,i,ha,hb,q=>by cases ha;exact kat_nil (by unfold KG at q;exact q)
 | x::a,[],us,vs,i,ha,hb,q=>by
  cases hb;cases us with
  | nil=>exact kat_nil (by unfold KG at q;exact q)
  | cons u us=>exact kat_nil (by unfold KG at q;exact q)
 | x::a,y::b,us,vs,i,ha,hb,q=>by
  rw[bE]at ha hb;obtain⟨u,us',rfl,⟨t,rfl⟩,ra⟩:=OX ha;obtain⟨v,d,rfl,⟨e,rfl⟩,c⟩:=OX hb;rw[List.zip_cons_cons];refine kat_cons (wpAny_eqBool_int ?_);unfold KG at q;by_cases h:x=y
  ·rw[if_pos h]at q;rw[show(x == y)=true by simp[h]];exact kat_yes (zQ ra c q)
  ·rw[if_neg h]at q;rw[show(x == y)=false by simp[h]];refine kat_no ?_;cases(true&&i == 0)with
   | true=>exact oneLt_int q
   | false=>exact kat_one _ _ (lt_int q)
def aDa(h:Heap)(v:Value)(c:Af):Prop:=∃b its,v=Y0k/\IsTup h b (List.toArray its)/\eK (Yc1) its/\c≠[]
abbrev mK(h:Heap):Y0r Ag Ac:=Paired (aDa h)
theorem mK.get{h:Heap}:∀{vs:Ag}{cs:Ac}{i:Nat},mK h vs cs->i<vs.length->aDa h (YdI i) (Yd8 [])
 | _,_,_,.nil,hi=>by simp at hi
 | _,_,0,.cons t r,hi=>t
 | v::vs,c::cs,i+1,.cons t r,hi=>by
  have:=mK.get (i:=i) r (by simpa using hi);simpa using this
theorem mK.firsts{h:Heap}:∀{vs:Ag}{cs:Ac},mK h vs cs->∃fs,KatTups h vs fs/\Y6S vs.length/\∀v∈fs,∃i t,v=Value.int i t
 | _,_,.nil=>⟨[],KatTups.nil,rfl,λv hv=>by cases hv⟩
 | v::vs,c::cs,.cons t r=>by
  obtain⟨fs,h1,h2,h3⟩:=mK.firsts r;obtain⟨b,e,rfl,⟨o,g,d,n,hd⟩,hv,a⟩:=t;cases c with
  | nil=>exact absurd rfl a
  | cons x c =>
   rw[bE]at hv;obtain⟨u,j,rfl,⟨t,rfl⟩,_⟩:=OX hv;exact⟨.int x t::fs,KatTups.cons g d hd (by simp) h1,by simp[h2],λv hv=>by
    rcases bK.mp hv with rfl | hv
    ·exact⟨_,_,rfl⟩
    ·exact h3 v hv⟩
theorem mK.keep{h h':Heap}(k:∀b o,Y1O=Yb->o.cls=.type "tuple" -> Y1a=Yb):∀{vs:Ag}{cs:Ac},mK h vs cs->mK h' vs cs
 | _,_,.nil=>.nil
 | _,_,.cons ⟨b,its,e,⟨o,ho,hc,hd⟩,hv,hne⟩ r=>.cons ⟨b,its,e,⟨o,k b o ho hc,hc,hd⟩,hv,hne⟩ (mK.keep k r)
def WV{n:Nat}{lt:Nat->Y8X}(hn:2<=n):Y3o (λp=>Y2b/\(LZ n lt->EF lt p n)) (kas_sort n):=by
 by_cases O:LZ n lt
 ·exact eZ.mono (λp h=>⟨h.1,λ_=>h.2⟩) (WU O hn)
 ·exact eZ.mono (λp h=>⟨h,λz=>absurd z O⟩) (aAp Oo)
def SV{a:Addr}{vs:Ag}{cs:Ac}{n:Nat}{P:Y1j PySem.Fin}(ho:Y2F a (seqObj "list" vs.toArray n))(ht:mK s.heap vs cs)(h64:vs.length<64)
  (h:∀p:Array Nat,YaV p->(Ybp->Ybq p)->P (Yer .none) { s with heap:=sortedHeap s.heap a vs (List.toArray (p.toList.map λi=>vs.getD i Value.none)) }) :
  wpAny (model prog w) A (Builtin.«list.sort» ⟨Y27,[]⟩) P E s:=by
 rw[list_sort_plain];have Z:Y4I a:=bN ho;refine wpAny_bind (listItems_at ho rfl ?_);refine wpAny_bind (listUpdate_at ho rfl ?_ (by rw[bM,sizeLine_eq];exact Oo) (Y0H));obtain⟨O,D⟩:∃O,(s.heap.update a (Obj.mapSeq λ_=>#[])).get? a=Yco "list" (#[]) O:=Y2i (YfA ho (#[]));refine Yfe D rfl ?_;refine wpAny_bind (wpAny_newTuple ?_ (by show vs.length<=_;rw[sizeLine_eq];exact Oo));refine wpAny_bind (wpAny_newList ?_ (Y0H));refine YfH;have d:(((s.heap.update a (Obj.mapSeq λ_=>#[])).push (seqObj "tuple" vs.toArray 0)).push (seqObj "list" #[] 0)).get? a=Yco "list" (#[]) O:=by
  rw[Heap.get?_push_ne _ _ _ (by rw[size_push',Heap.size_update];exact dJ (Nat.lt_succ_of_lt Z)),Heap.get?_push_ne _ _ _ (by rw[Heap.size_update];exact dJ Z)];exact D
 show wpAny (model prog w) A _ P E ({ s with heap:=((s.heap.update a (Obj.mapSeq λ_=>#[])).push (seqObj "tuple" vs.toArray 0)).push (seqObj "list" #[] 0) });dsimp only;have z:∀c:SortSt,∀p:Array Nat,YaV p->(Ybp->Ybq p)->(arrOf c).map (·.2)=Yf3 (λi=>YdI i) ->
   P (Yer .none) { s with heap:=sortedHeap s.heap a vs ((arrOf c).map (·.2)) }:=by
  intro c p B ho ξ;rw[ξ];exact h p B ho
 have l:mK (((s.heap.update a (Obj.mapSeq λ_=>#[])).push (seqObj "tuple" vs.toArray 0)).push (seqObj "list" #[] 0)) vs cs:=ht.keep λb o y α=>by
  have N:b≠a:=λe=>by
   subst e;rw[ho]at y;cases y;exact Y6T (show Value.type "list" = Value.type "tuple" from α)
  exact Y6R (by rw[YfU _ _ _ N];exact y)
 by_cases h2:vs.toArray.size<2
 ·rw[YcR,YcR];refine Y3B ?_;rw[StateT.run_pure];refine Y3B ?_;dsimp only;refine Yfe d rfl ?_;refine wpAny_bind (listUpdate_at d rfl ?_ (hsz2:=by rw[Array.size_map];show(pairsOf vs).size<=_;rw[pairsOf_size,sizeLine_eq];exact Oo));simp only[bne_self_eq_false,Bool.false_eq_true,if_false];refine wpAny_pure (z (SortSt.mk' general' (Ydk) #[] 7 none) (Ydl vs.length) (Array.Perm.refl _) (λ_ a b ω h3=>by rw[bM]at h2;exact Oo) ?_);have e:=kat_snds (ks:=vs) (vs:=vs) (st:=SortSt.mk' general' (Ydk) #[] 7 none) (p:=Ydl vs.length) rfl (by
   have e:=kas_range (Ydk);rw[show(vs.toArray.zip vs.toArray).size=vs.length by simp]at e;exact e.symm)
  exact e
 ·rw[YcT,YcT];have r:2<=vs.length:=by rw[bM]at h2;exact Oo
  obtain⟨fs,ν,χ,ι⟩:=l.firsts;refine wpAny_bind (kat_kind (T:=.type "int") ν Oo (λv I=>?_) rfl ?_)
  ·obtain⟨i,t,rfl⟩:=ι v I;exact .now
  refine wpAny_bind (wpAny_mono (kat_run (ks:=vs) (vs:=vs) (G:=λp u=>u={ s with heap:=((s.heap.update a (Obj.mapSeq λ_=>#[])).push (seqObj "tuple" vs.toArray 0)).push (seqObj "list" #[] 0) }/\YaV p/\(Ybp->Ybq p))
   (Q:=λc u=>u={ s with heap:=((s.heap.update a (Obj.mapSeq λ_=>#[])).push (seqObj "tuple" vs.toArray 0)).push (seqObj "list" #[] 0) }/\failedOf c=none/\∃p:Array Nat,p.size=vs.length/\(YaV p/\(Ybp->Ybq p))/\arrOf c=p.map (kas_item (Ydk)))
   rfl r h64 (λζ c u ο κ υ W=>⟨W.1,υ,ζ,ο,W.2,κ⟩)
   (eZ.wp (n:=vs.length) (lt:=QJ cs) (R:=λp=>YaV p/\(Ybp->Ybq p)) (λi j C η ρ θ=>?_) (λp B=>Y0I B) (WV r))) ?_ Y8A)
  ·obtain⟨b,μ,J,⟨o,y,α,φ,hd⟩,I,_⟩:=l.get η;obtain⟨b2,δ,U,⟨ψ,L,τ,n2,S⟩,m,_⟩:=l.get ρ;unfold kas_ask;rw[J,U];refine kat_lt y hd L S (zQ I m ?_);have γ:=I.length;have β:=m.length;rw[aA]at γ β;rw[bM,bM,<-γ,<-β];exact θ
  rintro⟨⟨⟩,c⟩ u ⟨rfl,ε,p,B,X,M⟩;dsimp only;have g:=kat_snds rfl M;refine Yfe d rfl ?_;refine wpAny_bind (listUpdate_at d rfl ?_ (hsz2:=by rw[g,bM,aA,Array.length_toList,B,sizeLine_eq];exact Oo));rw[ε];simp only[bne_self_eq_false,Bool.false_eq_true,if_false];exact wpAny_pure (z c p X.1 X.2 g)
end
theorem OY{X:Cx}{pins:Ad}{σ:St}{H:Hp}{s:Shared}(I:Y5):∀{cs:Ac}{ys:Al}{us:Ag},Ycv YbA ys->(∀c∈cs,c≠[])->Y5z ys->mK s.heap us cs
 | [],ys,us,r,hc,v=>by
  unfold bG at r;cases(show ys=[]from r);cases v;exact .nil
 | c::cs,ys,us,r,hc,v=>by
  rw[bE]at r;unfold bG at r;obtain⟨y,ys',rfl,r1,r2⟩:=r;obtain⟨u,w,rfl,rv,p⟩:=OX v;refine .cons ?_ (OY I r2 (λc h=>hc c (aY _ h)) p);unfold dC at r1;obtain⟨a,j,rfl,l,d⟩:=r1;cases rv;obtain⟨g,i,A,e⟩:=I.tuple (jQ.of l);have n:j=c.map V.int:=by
   clear i l hc e
   induction c generalizing j with
   | nil=>unfold bG at d;exact d
   | cons z c ih =>
    rw[bE]at d;unfold bG at d;obtain⟨x,B,rfl,C,m⟩:=d;cases(show x=V.int z from C);rw[ih _ m];rfl
  subst n;exact⟨a,g,rfl,A,i,hc c (aS ..)⟩
theorem OW{ys:Al}{us:Ag}(v:Y5z ys):∀ix:Ae,(∀i∈ix,i<ys.length)->eK (ix.map λi=>Yd9 .non) (ix.map λi=>us.getD i Value.none)
 | [],_=>.nil
 | i::ix,h=>by
  have hi:=h i (aS ..);obtain⟨u,e,ru⟩:=v.get (i:=i) (x:=ys[i]) (by simp[hi]);refine .cons ?_ (OW v ix λj c=>h j (aY _ c));have d:ys.getD i .non=ys[i]:=by simp[hi]
  have a:us.getD i Value.none=u:=by rw[aV,e];rfl
  show fJ (ys.getD i .non) (us.getD i Value.none);rw[d,a];exact ru
open Classical in
section
variable{X:Cx}{pins:Ad}{σ:St}{H:Hp}{s:Shared}
end
section
variable{X:Cx}
end
end L2
namespace HT
open PySem PySem.Spec PyProof.Rows PySem.Builtin
section
variable{prog:Program}{w:World}{A:Around}{E:Yd}{s:Shared}
end
section
variable{prog:Program}{w:World}{A:Around}{E:Yd}{s:Shared}{K:Type}[DecidableEq K]{knd:HeapKind prog w K}
end
end HT
namespace L2
open PySem PySem.Spec PySem.W PyProof.Rows HT
section
variable{X:Cx}{pins:Ad}{σ:St}{H:Hp}
end
end L2
namespace HT
open PySem PySem.Spec PyProof.Rows
section
variable{prog:Program}{w:World}{A:Around}{E:Yd}{s:Shared}{it d:Addr}{es:Yc8}{ep i:Nat}{od:Obj}
def aB1{Q:Y1j Y5h}(hit:s.heap.IsKeyIter it d i es.size ep)(hod:Y2F d od)(hdd:od.data=YbE ep)(hi:i<es.size)
  (h:∀h',h'.IsKeyIter it d (i+1) es.size ep->Yax it h'->Q (some es[i].key) { s with heap:=h' }):Ybh it:=by
 obtain⟨⟨u,r,j,p⟩,l,n,hd⟩:=id hit;simp only at n hd;subst n hd;have c:=hit.typeIs;unfold pyNext;refine Yao (Y8D "__next__" c F.slot_dict_keyiterator_next F.slot_dict_keyiterator_next c F.entry_dict_keyiterator_next ?_ (F.args_dict_keyiterator_next_1 _));have g:Yx (Builtin.Dict_items.ownsTuple "dict_keyiterator"):=Dd
 repeat (any_goals (first | assumption | (with_reducible refine Ydf c) | (with_reducible refine Ydo c) | (with_reducible refine wpAny_fieldsOf l rfl ?_) | (with_reducible refine Yfu hdd ?_) | (with_reducible refine YfJ hdd ?_) | wp_step))
 rw[if_neg (show ¬((i:Int)<0)by exact Oo),Int.toNat_natCast,Array.getElem?_eq_getElem hi];have a:(s.heap.update it (Obj.mapFields (·.setIfInBounds 1 (rawInt ((i:Int)+1))))).IsKeyIter it d (i+1) es.size ep :=
  ⟨_,Heap.get?_update_self _ l (Obj.isFreed_of_fields (Obj.data_mapFields rfl _)),(Obj.cls_mapFields ..).trans rfl,by rw[Obj.data_mapFields rfl];simp[rawInt]⟩
 have m:({ s with heap:=s.heap.update it (Obj.mapFields (·.setIfInBounds 1 (rawInt ((i:Int)+1)))) }:Shared).TypeIs (Y81) "dict_keyiterator" := a.typeIs;have e:=h _ a (Heap.SameBut.update ..)
 repeat (any_goals (first | assumption | (with_reducible refine Ydf c) | (with_reducible refine Ydo c) | (with_reducible refine Ydo m) | (with_reducible refine wpAny_setField l rfl (by rw[g];simp) ?_) | wp_step))
 exact YeX e
def aFh{Q:Y1j Y5h}(hh:Y6W)(hit:s.heap.IsKeyIter it d i es.size ep)(hod:Y2F d od)(hdd:od.data=YbE ep)(hi:es.size<=i)
  (h:∀h',Yem it s.heap->Q none { s with heap:=h' }):Ybh it:=by
 obtain⟨⟨n,m,e,l⟩,j,g,hd⟩:=id hit;simp only at g hd;subst g hd;have a:=hit.typeIs;have c:Yx (Builtin.Dict_items.ownsTuple "dict_keyiterator"):=Dd;unfold pyNext;refine Yao (Y8D "__next__" a F.slot_dict_keyiterator_next F.slot_dict_keyiterator_next a F.entry_dict_keyiterator_next ?_ (F.args_dict_keyiterator_next_1 _))
 repeat (any_goals (first | assumption | (with_reducible refine Ydf a) | (with_reducible refine Ydo a) | (with_reducible refine wpAny_fieldsOf j rfl ?_) | (with_reducible refine Yfu hdd ?_) | (with_reducible refine YfJ hdd ?_) | wp_step))
 rw[if_neg (show ¬((i:Int)<0)by exact Oo),Int.toNat_natCast,Array.getElem?_eq_none hi]
 repeat (any_goals (first | assumption | (with_reducible refine Ydf a) | (with_reducible refine wpAny_setField j rfl (by rw[c];simp) ?_) | wp_step))
 simp only[raiseNew];refine wpAny_bind (wpAny_handled ?_);rw[show A.in1.handled=none from hh];refine Y3B (wpAny_throw ?_);refine wpAny_bind (YeY "StopIteration" true (Y1o Y1n) ?_);exact wpAny_pure (h _ (((Heap.SameBut.update ..).extBut.push _).push _))
def aB2{Q:Yd}(hd:Y7F d)(hod:Y2F d od)(hex:od.ExactDict)(hdd:od.data=YbE ep)
  (hQ:Yat ({ s with heap:=s.heap.push { cls:=.type "dict_keyiterator",data:=.fields #[.ref d,.int 0 0,.int es.size 0,.int ep 0] } })):Y26 (pyIter (.ref d)):=by
 have a:Y8B d "dict" := ⟨od,hod,hex.1⟩;refine wpAny_pyIter_slot a F.slot_dict_iter (wpAny_call_entry F.slot_dict_iter a F.entry_dict_iter ?_ (F.args_dict_iter_1 _));unfold Builtin.«dict.__iter__»;refine Y5m;unfold Builtin.Dict.dictSlotNone;refine wpAny_bind (wpAny_notOrdered_dict a ?_);show Y3t (pure (Value.ref d));refine Y2k
 repeat (any_goals (first | assumption | (with_reducible refine Yfu hdd ?_) | (with_reducible refine YfJ hdd ?_) | wp_step))
 exact Y55 _ "dict_keyiterator" _ (Y1o Y1n) F.slot_dict_keyiterator_next.lookup hQ
end
end HT
namespace L2
open PySem PySem.Spec PySem.W PyProof.Rows HT
section
variable{X:Cx}{pins:Ad}{σ:St}{H:Hp}{s:Shared}
theorem CD{α β:Type}{R:Y0r α β}:∀{l:Yv}{m:Yaa}{i:Nat}{a:α},Paired R l m->l[i]?=Y7e->∃b,m[i]?=some b/\R a b
 | _,_,i,a,.nil,h=>by simp at h
 | _,_,0,a,.cons r t,h=>by
  cases(show _=a by simpa using h);exact⟨_,rfl,r⟩
 | _,_,i+1,a,.cons r t,h=>by
  obtain⟨b,h1,h2⟩:=CD t (by simpa using h);exact⟨b,by simpa using h1,h2⟩
end
section
variable{X:Cx}{tg:Expr}
end
end L2
namespace HT
open PySem PySem.Spec PyProof.Rows PySem.W
section
variable{prog:Program}{w:World}{A:Around}{d:Addr}{o:Obj}{es:Yc8}{ep:Nat}
def SQ(hh:Y6W)(I:Addr)(hne:d≠I)(hdat:o.data=YbE ep) :
  Walks prog w A I [I,d] [I] es.size (λi v=>∃hi:i<es.size,v=es[i].key) (λi h=>h.IsKeyIter I d i es.size ep/\h.get? d=Yb) where
 sub:=λb a=>by simp at a;simp[a]
 frame:=λ_ _ _ st n=>⟨st.1.at λo e=>n I (by simp) o e,n d (by simp) o st.2⟩
 item:=λi s Q E hi st j=>aB1 st.1 st.2 hdat hi λl c g =>
  j _ l s.toks ⟨hi,rfl⟩ ⟨c,(g.2 d hne).trans st.2⟩ λb o a e=>(g.2 b (λh=>a (by simp[h]))).trans e
 done:=λs Q E st j=>aFh hh st.1 st.2 hdat (Yq) λl m=>j l s.toks λb o a e=>m b o (λh=>a (by simp[h])) e
 self:=λ_ _ _ _ st j=>wpAny_pyIter_keyiter st.1 j
def QO(lo:Y7F d)(hex:o.ExactDict)(hdat:o.data=YbE ep):KdlSrc prog w "dict" d d es.size (λi v=>∃hi:i<es.size,v=es[i].key) (λh=>h.get? d=Yb) where
 type:=λ_ a=>Y1B a hex.1
 there:=λ_ a=>⟨bN a,bN a⟩
 keep:=λ_ _ a e=>e d (Y62) o a
 notList:=Dd
 notTuple:=Dd
 hint:=λ_ _ _ _ a g=>kdl_hint_dict (Y1B a hex.1) g
 iter:=λA s c a=>⟨_,_,λE Q j=>aB2 lo a hex hdat j,SQ c _ (dJ (bN a)) hdat,Yag _,Y1R a⟩
end
end HT
namespace L2
open PySem PySem.Spec PySem.W PyProof.Rows HT
def DZ(H:Hp)(kvs:Yt)(ys:Al):Prop:=Y3c kvs.length/\∀(i:Nat) p,kvs[i]?=some p->∃b,Y1r=Y3 b/\H b=Yj (p.1.map kV)
end L2
namespace HT
open PySem PySem.Spec PyProof.Rows PySem.W
section
variable{prog:Program}{w:World}{A:Around}{E:Yd}{s:Shared}{it d:Addr}{es:Yc8}{ep i:Nat}{od:Obj}
end
end HT
namespace L2
open PySem PySem.Spec PySem.W PyProof.Rows HT
section
variable{X:Cx}{tg:Expr}
end
section
variable{X:Cx}{o e:Expr}{apos cpos:Pos}{td ty:TE}
def OU(hu:Y3I 1<cLine)(ho:Yr o td)(he:Yr e ty)(base:attributeBase o "get" X.env (Y0d o)=Y0d o:=by rfl)
  (few:((backTo cpos (starEach [e] X.env)).all (λx=>! x.1)&&(backToKw cpos (keywordEach [] X.env)).all (λx=>x.1.isSome)&&Y22 (([e]:List Expr).length+([]:List Keyword).length+(if([]:List Keyword).isEmpty then 0 else 1)) 30)=true:=by rfl)
  (line:(YaL)=true:=by rfl) (trees:YeJ (Y33 e)=[(false,Y1f)]:=by rfl):Yr (Y94 "get" [e] [] cpos) (WN td ty):=⟨YB hu ho.p he.p ⟨base,few,line,trees⟩⟩
end
end L2
namespace L2
open PySem
section
variable{js:Ae}{te:TE}{tc:TT}{σ:St}{H:Hp}{Q:VK}
end
end L2
namespace L2
open PySem PySem.Spec PyProof.Rows
section
variable{X:Cx}{pins:Ad}{σ:St}{H:Hp}{s:Shared}{scope:Scope}{x x2:Str}{N':Ah}{js:Ae}{fp:Y0s}
end
section
variable{X:Cx}{pins:Ad}{σ:St}{H:Hp}{s:Shared}{scope:Scope}{x:Str}{N':Ah}{js:Ae}{fp:Y0s}{elt iter:Expr}{px pos:Pos}{tg:Expr}{x2:Str}{te:TE}
end
section
variable{X:Cx}{scope:Scope}{x x2 y:Str}{N':Ah}{js:Ae}{elt iter tg:Expr}{py pos spos:Pos}{te:TE}{wi:TI}{i:Nat}
end
end L2
namespace HT
open PySem PySem.Spec PyProof.Rows
section
variable{prog:Program}{w:World}{A:Around}{E:Yd}{s:Shared}{d:Addr}{o:Obj}{es:Yc8}{ep:Nat}
end
end HT
namespace L2
open PySem PySem.Spec PySem.W PyProof.Rows HT
def CS(c:Af):(c.map (Sum.inl:Int->fT)).map kV=Yc1:=by rw[List.map_map];rfl
abbrev kT(c:Af):Y5F:=c.map Sum.inl
def jR{a b:Af}(h:kT a=kT b):a=b:=by
 have:∀{a b:Af},kT a=kT b->a=b:=by
  intro a
  induction a with
  | nil=>intro b h;cases b with
   | nil=>rfl
   | cons _ _=>cases h
  | cons x a ih=>intro b h;cases b with
   | nil=>cases h
   | cons y b =>
    injection h with h1 h2;injection h1 with h1;rw[h1,ih h2]
 exact this h
section
variable{X:Cx}{o e f k v:Expr}{apos cpos pos:Pos}{td ty tx tk tv:TE}
@[irreducible] def aBq(p:Addr)(x y:V)(H2:Hp)(Q:VK):Prop:=∃b k,x=Y0k/\H2 b=Yb0 kV/\H2 p=Y0c []/\Y4D (upd H2 p (.dT [(k,y)]))
def aDr(tk tv:TE):TE:=λσ H Q=>∀p,H p=none->tk σ (Y3f p (.dT [])) λx H1=>tv σ H1 λy H2=>aBq p x y H2 Q
def aGq{p b:Addr}{y:V}{H:Hp}{Q:VK}{c:Af}(hb:H b=YcN)(hp:H p=Y0c [])(q:∀H',H' p=Y0c [(kT c,y)]->Y14->Y0E p):aBq p (Y0k) y H Q:=by
 unfold aBq;exact Y6H b (kT c) (by rw[CS];exact hb) hp (q _ bP aX.self)
def IV(hu:Y3I 1<cLine)(hk:Yr k tk)(hv:Yr v tv):Yr (.Dict [some k] [v] pos) (aDr tk tv):=⟨by
 intro d s σ H Q I q;have C:=Yfh;have I1:=YeW (.dT []) (s.heap.push { cls:=.type "dict",data:=.dict #[] }) s.toks (Yef q) Yq (KL s.heap I.big);refine wpAny_Dict_any rfl rfl (by simp) (show 1<=15 by decide) (pairTrees_cons_walk (thn (hk.p d _ σ _ _ I1 (q _ C)) λu J ⟨x,H1,I1,L,N⟩=>thn (hv.p d J σ H1 _ I1 N) λα U ⟨y,H2,I2,M,m⟩=>pairTrees_nil_walk ?_));unfold aBq at m;obtain⟨b,i,rfl,j,e,R⟩:=m;cases(show u=Value.ref b from L);obtain⟨z,hd,Z,g,D⟩:=aC5 I2.hok e;unfold storeAll;rw[List.forIn_cons];refine YbR (wpAny_dictSet_heap (show X.A.units<cLine by exact Oo) (vY I2.hok j) D (λh' h P=>Y2k) (by rw[<-Paired.length g];exact z));dsimp only;rw[List.forIn_nil];refine Y2k;obtain⟨q,B,S,l,O,T,w,_,G⟩:=h;refine Y0O (.ref _) _ ?_ R;have r:Y0D (([(i,y)]:List (List fT × V)).length):=by show Y0D 1;decide
 refine BE I2 (by rw[e];exact True.intro) P ⟨q,l⟩ ⟨r,hd,_,(g.put i j M).keeps λc W n=>?_,q,B,S,l,O,T,w,G⟩;rw[fF (tE n e (λz=>nomatch z))];exact n⟩
def GF(hu:Y3I 1<cLine)(ho:Yr o td)(he:Yr e ty)(hf:Yr f tx)(base:attributeBase o "get" X.env (Y0d o)=Y0d o:=by rfl)
  (few:((backTo cpos (starEach [e,f] X.env)).all (λx=>! x.1)&&(backToKw cpos (keywordEach [] X.env)).all (λx=>x.1.isSome)&&Y22 (([e,f]:List Expr).length+([]:List Keyword).length+(if([]:List Keyword).isEmpty then 0 else 1)) 30)=true:=by rfl)
  (line:(YaL)=true:=by rfl) (trees:YeJ (Y1X [e,f])=[(false,Y1f),(false,Y0d f)]:=by rfl):Yr (Y94 "get" [e,f] [] cpos) (WM td ty tx):=⟨YA hu ho.p he.p hf.p ⟨base,few,line,trees⟩⟩
@[irreducible] def aBl(b:Bool):R2:=λx y H Q=>∃a o,y=Yn/\oM H a x o/\Y34 (xor b o.isSome)
def rind{b:Bool}{x:V}{a:Addr}{o:Am}{H:Hp}{Q:VK}(g:oM H a x o)(q:Y34 (xor b o.isSome)):aBl b x (Yn) H Q:=by unfold aBl;exact Y11 a o g q
def YF(hu:Y3I 1<cLine):Y44 .In (aBl false):=by
 intro c s σ H x y v u Q I d e h;unfold aBl at h;obtain⟨a,o,rfl,g,q⟩:=h;cases(show u=Value.ref a from e);exact aI3 hu I g d λi I3=>Y0O (.bl _) H I3 (by simpa using q)
end
def VM{H:Hp}{p b:Addr}{kvs:Yt}{c:Af}{v:V}{D:sW}{σ:St}(e:H p=Y1c)(eb:H b=YcN)(hl:Y6N 100000)(q:∀H',H' p=Y0c (Y4U (kT c) v)->Y14->Y8z H') :
  rDP D σ (Y2o) (Y0k) v H:=by
 unfold rDP;exact Y11 p _ (IN.t (k:=kT c) e (by rw[CS];exact eb) (aJ hl Dd)) (q _ bP aX.self)
def oM.ct{H:Hp}{p b:Addr}{kvs:Yt}{c:Af}(e:H p=Y1c)(eb:H b=YcN):oM H p (Y0k) (Y8I (kT c)):=oM.t e (by rw[CS];exact eb)
def NV{H:Hp}{p b:Addr}{kvs:Yt}{c:Af}{v:V}{Q:VK}(e:H p=Y1c)(eb:H b=YcN)(hv:Y8I (kT c)=Yy)(q:Q v H):rDG (Y2o) (Y0k) H Q:=by
 unfold rDG;exact⟨p,v,rfl,hv ▸ oM.ct e eb,q⟩
def EC{kvs:Yt}{k:Y5F}{v:V}(h:(Y5a).isSome=true):(kA kvs k v).map (·.1)=kvs.map (·.1):=by
 unfold kA;rw[nK,Y3K,List.map_map];refine fD λp _=>?_;show(if p.1=k then(p.1,v) else p).1=p.1;split <;> rfl
end L2
namespace L2
open PySem
section
variable{js:Ae}{te:TE}{tc:TT}{σ:St}{H:Hp}{Q:VK}
end
end L2
namespace L2
open PySem PySem.Spec PySem.W PyProof.Rows HT
section
variable{prog:Program}{w:World}{A:Around}{E:Yd}{s:Shared}
def KZ{T:String}{r d:Addr}{n:Nat}{P:Yaf Value}{OK:Y1k Heap}{Q:Y1j Ag}(K:KdlSrc prog w T r d n P OK)(hh:Y6W)(hok:OK s.heap)(hn:Y0D n)
  (hQ:∀h' tk (acc':Ai),(∀b o,Y28->Y1a=Yb)->ItemsOf P acc' n->Q acc'.toList { s with heap:=h',toks:=tk }) :
  Y26 (collect (.ref r)):=by
 have lt:=K.there _ hok;have u:(s.heap.push (seqObj "list" #[] 0)).get? s.heap.objs.size=some { cls:=.type "list",data:=.seq #[] 0 }:=Y1n
 let G:Y1j Result:=λa z=>∃g m l e,a=Y7K Y2R/\z={ s with heap:=g,toks:=m }/\(∀b o,Y28->g.get? b=Yb)/\g.get? s.heap.objs.size=some { cls:=.type "list",dict:=none,data:=.seq l e,slots:=#[] }/\ItemsOf P l n
 have ext:=kdl_extend (A:=A) (s:={ s with heap:=s.heap.push (seqObj "list" #[] 0) }) (R:=G) K hh (K.keep _ _ hok λb _ o e=>Y3U) s.heap.objs.size (Nat.ne_of_gt lt.1) (Nat.ne_of_gt lt.2) (Y2R) 0 u
  (λg m l e j h i=>⟨g,m,l,e,rfl,rfl,λb o z=>j b o (dJ (bN z)) (Y1R z),h,i⟩) hn
 unfold collect;refine wpAny_bind (wpAny_runValue (YdJ entry_proto_collect'));rw[Ydr PySem.F.plain_proto_collect];refine wpAny_bind (m:=newList []) (wpAny_newList (wpAny_pure ⟨Ygb PySem.F.plain_list_iadd,YdJ entry_list_iadd'⟩));rw[Ydr PySem.F.plain_list_iadd];refine wpAny_mono ext (λp z y=>?_) λe z ⟨_,_,_,_,q,_⟩=>by cases q
 cases p with
 | done f=>obtain⟨g,m,l,e,q,rfl,j,h,i⟩:=y;cases q;exact Yfc h (wpAny_pure (hQ g m l j i))
 | again c=>exact⟨y.1,codeAny_mono y.2 λq z ⟨g,m,l,e,eq,B,j,h,i⟩=>by subst eq B;exact Yfc h (wpAny_pure (hQ g m l j i))⟩
def MQ{x:Value}{Q:Yd}
  (h:wpAny (model prog w) A.in1 (collect x) (λvs s1=>∃h1 tk cs,s1={ s with heap:=h1,toks:=tk }/\(∀b o,Y28->h1.get? b=Yb)/\mK h1 vs cs/\vs.length<64 /\
   ∀(p:Y0Q) (h':Heap) (D:Addr) (c:Nat),YaV p->(Ybp->Ybq p)->(∀b o,h1.get? b=Yb->Y1a=Yb)->h1.objs.size<=D->Y7H D (Yco "list" (Yf3 (λi=>YdI i)) c)->Y2x D ({ s with heap:=h',toks:=tk })) E s) :
  Y26 (YaE "sorted" [x]):=by
 refine Calls.call_function_entry kind_sorted plain_sorted entry_sorted (args_sorted1 _) ?_;unfold Builtin.«sorted»;refine wpAny_bind (m:=checkCount "sorted" 1 1 _) (Y2k);refine Y9k h (λvs s1 ⟨h1,tk,cs,e,l,y,j,q⟩=>?_) Y8A;subst e;refine wpAny_bind (wpAny_newList ?_ (by rw[sizeLine_eq];exact Oo));have a:(h1.push (seqObj "list" vs.toArray 0)).get? h1.objs.size=Yco "list" vs.toArray 0:=Y1n;have keep:∀b o,h1.get? b=Yb->(h1.push (seqObj "list" vs.toArray 0)).get? b=Yb:=λb o q=>Y1R q;show Y5v _ ({ s with heap:=h1.push (seqObj "list" vs.toArray 0),toks:=tk });refine Ydi (wpAny_call_entry slot_list_sort (Y1o a) entry_list_sort ?body (args_list_sort _));refine SV (s:={ s with heap:=h1.push (seqObj "list" vs.toArray 0),toks:=tk }) a (y.keep λb o u _=>keep b o u) j λp z B=>YeX Y6;unfold sortedHeap;have r:((h1.push (seqObj "list" vs.toArray 0)).update h1.objs.size (Obj.mapSeq λ_=>#[])).get? h1.objs.size=Yco "list" (#[]) _:=YfA a (#[]);have n:=aG (seqObj "list" #[] 0) (aG (seqObj "tuple" vs.toArray 0) r);refine q p _ h1.objs.size _ z B (λb o e=>?_) (Yq) (YfA n (Yf3 (λi=>YdI i)));have g:b<h1.objs.size:=bN e;have d:b≠h1.objs.size:=dJ g;rw[YfU _ _ _ d]
 exact Y6R (by rw[YfU _ _ _ d];exact keep b o e)
end
def aC7{X:Cx}{pins:Ad}{σ:St}{H:Hp}{s:Shared}(I:Y5){d:Addr}{kvs:Yt}(e:H d=Y1c):Y7F d/\(kvs.map (·.1)).Nodup/\∃o,Y39 d/\o.ExactDict/\∃es ep,o.data=YbE ep/\es.size=kvs.length /\
  ∀(i:Nat) (hi:i<es.size) p,kvs[i]?=some p->∃b,es[i].key=Y0k/\H b=Yj (p.1.map kV):=by
 obtain⟨z,hd,A,a,o,es,ep,C,y,D,c,j⟩:=(show hV X.prog X.w H s.heap d (.dT kvs)from I.hok d _ e);have h:es.size=kvs.length:=by
  have:=Y8v c;rw[aA,<-Paired.length a]at this;simpa using this
 have m:kvs.map (·.1)=A.map (·.1):=by
  clear c j h e z
  induction a with
  | nil=>rfl
  | cons r t ih=>rw[bE,bE,r.1,ih]
 refine⟨hd,m ▸ j,o,C,y,es,ep,D,h,λi hi p B=>?_⟩;obtain⟨x,n,J,u,G⟩:=CD a B;have l:es.toList[i]?=some (entryOfKey (YaI X.prog X.w) x):=by rw[c,aF,n];rfl
 have g:es[i]=entryOfKey (YaI X.prog X.w) x:=by
  have:es.toList[i]?=some es[i]:=by simp[hi]
  rw[this]at l;injection l
 rw[g];exact Y04 x.2.1 u
abbrev kyI(c:Af):Y5F:=c.map Sum.inl
def kyV(c:Af):(kyI c).map kV=Yc1:=by rw[List.map_map];rfl
@[irreducible] def GZ:Y1v:=λxs H Q=>∃(d:Addr) (kvs:Yt) (cs:Ac),xs=Y6D d/\H d=Y1c/\kvs.map (·.1)=cs.map kyI/\(∀c∈cs,c≠[])/\cs.length<64 /\
 ∀q (ys:Al) (ds:Ac) H',ds.Perm cs->ds.Pairwise (λa b=>sN a b=true)->H q=none->H' q=Y0t->Y41 (ds.map YbA) ys->Y1->Y0E q
def rsrd{H:Hp}{Q:VK}{d:Addr}{kvs:Yt}{cs:Ac}(h:H d=Y1c)(hk:kvs.map (·.1)=cs.map kyI)(hc:∀c∈cs,c≠[])(hz:cs.length<64)
  (q:∀q (ys:Al) (ds:Ac) H',ds.Perm cs->ds.Pairwise (λa b=>sN a b=true)->H q=none->H' q=Y0t->Y41 (ds.map YbA) ys->Y1->Y0E q):GZ (Y6D d) H Q:=by
 unfold GZ;exact⟨d,kvs,cs,rfl,h,hk,hc,hz,q⟩
def aCi{X:Cx}(hc:Y1z):Y45 "sorted" GZ:=by
 unfold GZ;intro γ s σ H xs us Q I r h;obtain⟨d,L,g,rfl,hq,O,ab,hz,q⟩:=h;obtain⟨u,rfl,ξ⟩:=oH r;cases ξ;obtain⟨M,β,o,ψ,κ,es,ep,ο,η,φ⟩:=aC7 I hq;have lk:L.length=g.length:=by have:=Y8v O;simpa using this
 refine MQ (KZ (QO M κ ο) (show X.A.in1.handled=none from I.ok.hd hc) ψ (by rw[sizeLine_eq];exact Oo) λJ ω δ kp C=>?_);obtain⟨la,C⟩:=C;have I1:dA X γ σ H { s with heap:=J,toks:=ω }:=I.kept kp;have θ:∀(n:Nat) (l:Ag),l.length=n->∀(m:Ac),m.length=n->(∀(i:Nat) v c,l[i]?=Yy->m[i]?=Y1u->∃b,v=Y0k/\H b=YcN)->∃B:Al,eK B l/\Y1q (m.map YbA) B:=by
  intro n
  induction n with
  | zero =>
   intro l ε m M _;cases l with
   | nil=>cases m with
    | nil=>exact⟨[],.nil,bG.nil⟩
    | cons _ _=>simp at M
   | cons _ _=>simp at ε
  | succ n ih =>
   intro l ε m M O;cases l with
   | nil=>simp at ε
   | cons v l=>cases m with
    | nil=>simp at M
    | cons c m =>
     obtain⟨b,rfl,hb⟩:=O 0 v c rfl rfl;obtain⟨B,ζ,α⟩:=ih l (by simpa using ε) m (by simpa using M) λi v p J ρ=>O (i+1) v p (by simpa using J) (by simpa using ρ);have rb:∀c:Af,Y1q (c.map PyData.int) Yc1:=λc=>by
      induction c with
      | nil=>exact bG.nil
      | cons x c ih=>exact bG.cons (Y8R) ih
     exact⟨Y0k::B,.cons rfl ζ,bG.cons (dC.tup hb (rb c)) α⟩
 have G:δ.toList.length=g.length:=by rw[Array.length_toList,la,η,lk]
 obtain⟨B,ζ,α⟩:=θ g.length δ.toList G g rfl λi v c e1 U=>by
  obtain⟨z,e⟩:=C i v (by rw[<-Array.getElem?_toList];exact e1);have hp:∃p,L[i]?=some p/\p.1=kyI c:=by
   have:(L.map (·.1))[i]?=some (kyI c):=by rw[O,aF,U];rfl
   rw[aF]at this;obtain⟨p,J,ρ⟩:=eL.mp this;exact⟨p,J,ρ⟩
  obtain⟨p,ι,aa⟩:=hp;obtain⟨b,k1,k2⟩:=φ i z p ι;rw[aa,kyV]at k2;exact⟨b,by rw[e,k1],k2⟩
 have R:g.Nodup:=by
  rw[O]at β;exact List.Pairwise.of_map _ (λa b h e=>h (by rw[e])) β
 have P:B.length=g.length:=by rw[α.len,aA]
 refine⟨J,ω,g,rfl,kp,OY I1 α ab ζ,Oo,λw h' D c hg ho keep hD W=>?_⟩;have y:w.toList.Perm (List.range g.length):=by
  have:=(Array.perm_iff_toList_perm.mp hg);rw[<-G];simpa using this
 have Z:∀i∈w.toList,i<B.length:=λi z=>by
  have:=y.mem_iff.mp z;rw[P];simpa using this
 have χ:(YdU (Yb4 i)).length=g.length:=by rw[aA,y.length_eq,aT]
 have hn:=I1.hok.fresh hD;have sm:aU H (Y43 D (YdU (Yb4 i))):=aU.upd hn;refine Y0O (.ref D) (Y43 D (YdU (Yb4 i))) (I1.laid (t':=ω) keep hD ⟨by rw[χ,sizeLine_eq];exact Oo,_,c,OW ζ _ Z,W⟩) ?_;have ha:=ho (G ▸ aEZ R);have T:=hg.size;have ν:(w.toList.map λi=>g.getD i []).Perm g:=by
  have J:=y.map λi=>g.getD i [];have e:(List.range g.length).map (λi=>g.getD i [])=g:=by
   apply List.ext_getElem?;intro i;rw[aF];by_cases z:i<g.length
   ·rw[bL z,aB z,Option.map_some,aV,aB z];rfl
   ·rw[bS (by simpa using z),bS Oo];rfl
  rwa [e]at J
 refine q D _ (YdU (g.getD i [])) _ ν ?_ hn bP ?_ sm
 ·rw[List.pairwise_map,List.pairwise_iff_getElem];intro i j z τ υ;have μ:i<w.size:=by simpa using z
  have S:j<w.size:=by simpa using τ
  have e1:w.toList[i]=w.getD i 0:=by rw[Array.getElem_toList];exact(by simp[Array.getD,μ]:w.getD i 0=w[i]).symm
  have U:w.toList[j]=w.getD j 0:=by rw[Array.getElem_toList];exact(by simp[Array.getD,S]:w.getD j 0=w[j]).symm
  rw[e1,U];exact ha i j υ (by rw[<-T];exact S)
 ·have rep:∀N:Ae,(∀i∈N,i<g.length)->Y1q ((N.map λi=>g.getD i []).map YbA) (N.map λi=>Yb4 i):=λN=>by
   induction N with
   | nil=>exact λ_=>bG.nil
   | cons i N ih =>
    intro h;have z:=h i (aS ..);have hd:(g.map YbA)[i]?=some (PyData.tuple ((g.getD i []).map .int)):=by
     rw[aF,aV,aB z];rfl
    obtain⟨x,hx,ξ⟩:=α.get' hd;have U:Yb4 i=x:=by rw[aV,hx];rfl
    refine bG.cons ?_ (ih λj τ=>h j (aY _ τ));show Y1A _ (Yb4 i);rw[U];exact ξ
  exact(rep w.toList λi z=>by rw[<-P];exact Z i z).same sm
end L2
namespace L2
open PySem PySem.Spec PyProof.Rows
section
variable{X:Cx}
end
section
variable{X:Cx}
end
end L2
namespace L2
open PySem PySem.Spec PySem.W PyProof.Rows HT
@[irreducible] def PZ(K:Aa):Y1v:=λxs H Q=>∃(p:Addr) (ns:Af),xs=Y56/\Y6q K H p/\0<ns.length/\∀M,M∈ns->(∀a,a∈ns->M<=a)->Y1S M
def rmnl{K:Aa}{H:Hp}{Q:VK}{p:Addr}{ns:Af}(h:Y6q K H p)(hn:0<ns.length)(q:∀M,M∈ns->(∀a,a∈ns->M<=a)->Y1S M):PZ K Y56 H Q:=by
 unfold PZ;exact Y6H p ns h hn q
def RW{X:Cx}(K:Aa)(hc:Y1z)(hK:X.K=K:=by rfl):Y45 "min" (PZ K):=by
 subst hK;unfold PZ;intro w s σ H P S Q I r h;obtain⟨p,A,rfl,D,i,q⟩:=h;obtain⟨u,rfl,B⟩:=oH r;cases B;obtain⟨C,G,n,N⟩:=I.list D;have m:=wA G;obtain⟨d,e⟩:=m.allInts.items;have c:A=d.toList.map (·.1):=by rw[<-m.numsOf,<-nums_intItems,<-e]
 have g:0<d.size:=by rw[c,aA,Array.length_toList]at i;exact i
 rw[e]at n;refine min_intList (Y9M) n.isList g λv O M z y=>?_;obtain⟨t,rfl⟩:=intItems_at z;obtain⟨R,J⟩:=argBest_lt (numAt d) (d.size-1);refine⟨.int _,H,I.kept y,⟨t,rfl⟩,q _ ?_ λa l=>?_⟩
 ·rw[c,numAt_eq];exact getD_mem (by rw[aA,Array.length_toList];exact Oo)
 ·rw[c]at l;obtain⟨j,L,rfl⟩:=mem_getD l;rw[aA,Array.length_toList]at L;rw[<-numAt_eq];exact J j Oo
end L2
namespace L2
open PySem PySem.Spec PyProof.Rows
section
variable{X:Cx}{a:Expr}{ta:TA}{p1 np p2 pos:Pos}
end
structure FnO(P:Program)(w:World)(K:Aa)(mg:Y0C)(base:Heap)(k:Nat)(C:Addr)(ps:Ah)(sp:Sp):Prop where
 ex:∃(f:Addr) (fd:FuncData),dP P w K mg base cY k f fd ps sp/\Mk K C f/\uJ K fd ps []
structure Own(K:Aa)(C:Addr)(fs:Ah):Prop where
 cls:Cls K C
 no:∀f∈fs,oG K C f
@[irreducible] def aBm(K:Aa)(f:Str)(x:V)(H:Hp)(Q:VK):Prop:=∃a C dx fs v,x=Yn/\H a=Y7m/\Cls K C/\oG K C f/\Ycs=Yy/\Q v H
def WK(K:Aa)(ta:TE)(f:Str):TE:=Ycx σ H (λx H1=>aBm K f x H1 Q)
section
variable{X:Cx}{k:Nat}{C:Addr}{ps:Ah}{sp:Sp}{x f:Str}{p pos pos':Pos}{e o value:Expr}{es:Y0f}{t:TA}{ta tv:TE}
def IU(F:FnO X.prog X.w X.K X.mg X.base k C ps sp)(hm:Y6x=Y3 C)(hr:Y52 (k+1))(ha:LY X (e::es) t)(hg:Y37:=by rfl)
  (hdb:Y1F ("__debug__" : Str):=by decide) (he:Y3V=(false,Y1f)::Y2W:=by first | exact pP | exact pQ | exact lX | exact iL | exact BW)
  (hpl:Yx ((backTo pos (starEach es X.env)).any (·.1)):=by repeat (first | exact qE | refine nI (by first | exact pP | exact pQ | exact lX | exact iL | exact BW) ?_)) :
  Y8U x (e::es) [] (aCQ C sp [] E0 t):=⟨by
 obtain⟨f,g,a,c,d⟩:=F.ex;exact aBE c a hr hg hm d .nil YD ha.p hdb he hpl⟩
def dQ(K:Aa)(he:Y8o e)(hK:X.K=K:=by rfl)(hb:attributeBase e f X.env Y1f=Y1f:=by rfl):Yr (.Attribute e f pos) (WK K ta f):=⟨by
 subst hK;intro a s σ H Q I h;refine aEY he.p hb a s σ H Q I ?_;unfold WK aBm at h;exact h⟩
def nE(ha:Y8o o)(hv:Yr value tv)(hs:Y9T value (Ydd f pos')=Y4M:=by rfl):IR X (Y68 [Ydd f pos'] value) (aGm X.K ta tv f):=⟨aEN ha.p hv.p hs⟩
end
section
variable{K:Aa}{H:Hp}{a C dx:Addr}{fs:Y4x}{v:V}{Q:VK}{f:Str}{ns:Ah}
def jS(O:Own K C ns)(hf:f∈ns)(e:H a=Y7m)(l:Ycs=Yy)(q:Q v H):aBm K f (Yn) H Q:=by
 unfold aBm;exact⟨a,C,dx,fs,v,rfl,e,O.cls,O.no f hf,l,q⟩
end
end L2
namespace Mf
def lw(n d:Int):Int × Int:=(n/(Int.gcd n d:Int),d/(Int.gcd n d:Int))
structure Low(n d:Int):Prop where
 pos:0<d
 low:Y0T n d
def kJ{n d:Int}(h:0<d):0<(Int.gcd n d:Int):=by
 have:=Int.gcd_pos_of_ne_zero_right n (Int.ne_of_gt h);exact Oo
def kB{n d:Int}(h:0<d):Low (lw n d).1 (lw n d).2:=by
 have g:=YcP h;refine Y0p ?_
 ·exact Int.ediv_pos_of_pos_of_dvd h (Int.le_of_lt g) (Yc4 n)
 ·exact Int.gcd_ediv_gcd_ediv_gcd Oo
def aC1{n d:Int}:(lw n d).1*(Int.gcd n d:Int)=n/\(lw n d).2*(Int.gcd n d:Int)=d :=
 ⟨Int.ediv_mul_cancel (YfF n),Int.ediv_mul_cancel (Yc4 n)⟩
def uC{n d:Int}:(lw n d).1*d=n*(lw n d).2:=by
 obtain⟨e,c⟩:=aC1 (n:=n) (d:=d);generalize (lw n d).1=a at *;generalize (lw n d).2=b at *;generalize (Int.gcd n d:Int)=g at *;rw[<-e,<-c];rw[Int.mul_assoc,Int.mul_comm g b]
def RF{b a d:Int}(h:b ∣ a*d)(g:Y0T b a):b ∣ d:=by
 rw[<-Int.natAbs_dvd_natAbs,dD]at h;rw[<-Int.natAbs_dvd_natAbs];rw[Int.gcd_eq_natAbs_gcd_natAbs]at g;exact Nat.Coprime.dvd_of_dvd_mul_left g h
def JZ{a b c d:Int}(h1:Low a b)(h2:Low c d)(e:a*d=c*b):a=c/\b=d:=by
 have j:b ∣ d:=by
  have:b ∣ a*d:=by rw[e];exact Int.dvd_mul_left c b
  exact RF this (by rw[Int.gcd_comm];exact h1.low)
 have g:d ∣ b:=by
  have:d ∣ c*b:=by rw[<-e];exact Int.dvd_mul_left a d
  exact RF this (by rw[Int.gcd_comm];exact h2.low)
 have h:=h1.pos;have hd:=h2.pos;have i:b=d:=Int.dvd_antisymm (Int.le_of_lt h) (Int.le_of_lt hd) j g;subst i;exact⟨Int.eq_of_mul_eq_mul_right Oo e,rfl⟩
def HG{a b n d:Int}(h:Low a b)(hd:0<d)(e:a*d=n*b):lw n d=(a,b):=by
 have c:=YfY n;have q:=JZ (kB (n:=n) hd) h (by
  have g:d≠0:=Oo;apply Int.eq_of_mul_eq_mul_right g
  calc (lw n d).1*b*d=((lw n d).1*d)*b:=by rw[Int.mul_assoc,Int.mul_comm b d,<-Int.mul_assoc]
   _=(n*(lw n d).2)*b:=by rw[c]
   _=(n*b)*(lw n d).2:=by rw[Int.mul_assoc,Int.mul_comm (lw n d).2 b,<-Int.mul_assoc]
   _=(a*d)*(lw n d).2:=by rw[e]
   _=a*(lw n d).2*d:=by rw[Int.mul_assoc,Int.mul_comm d,<-Int.mul_assoc])
 exact Prod.ext q.1 q.2
def QF{a b:Int}(h:Low a b):lw a b=(a,b):=HG h h.pos rfl
def sT{u a b:Int}(h1:Y0T u a)(h2:Y0T u b):Y0T u (a*b):=by
 rw[Int.gcd_eq_natAbs_gcd_natAbs]at *;rw[dD];exact Nat.Coprime.mul_right h1 h2
def pH{a b c:Int}(h:Y0T a b)(d:c ∣ b):Y0T a c:=by
 have:=Int.gcd_dvd_gcd_of_dvd_right a d;rw[h]at this;exact Nat.eq_one_of_dvd_one this
def lD{a b c:Int}(h:Y0T a b)(d:c ∣ a):Y0T c b:=by
 rw[Int.gcd_comm]at *;exact pH h d
def aBB{a b c d:Int}(h1:Low a b)(h2:Low c d) :
  let g:Int:=Y9Z b
  let u:=a*(d/g)+c*(b/g)
  let l:Int:=Int.gcd u g
  lw (a*d+c*b) (b*d)=(u/l,(b/g)*(d/l)):=by
 intro g u l;have B:0<g:=kJ h2.pos;have T:0<l:=kJ B;obtain⟨r,s⟩:=YfF b;obtain⟨p,n⟩:=Yc4 b;have s:b=g*r:=s;have n:d=g*p:=n;have N:b/g=r:=by rw[s];exact Y57
 have R:d/g=p:=by rw[n];exact Y57
 have P:u=a*p + c*r:=by show a*(d/g)+c*(b/g)=_;rw[N,R]
 have y:Y0T r p:=by
  have:=Int.gcd_ediv_gcd_ediv_gcd (i:=b) (j:=d) (by have:0<(Int.gcd b d:Int):=B;exact Oo);have h:Y0T (b/g) (d/g):=this
  rwa [N,R]at h
 have I:Y0T a r:=pH h1.low ⟨g,by rw[s,Int.mul_comm]⟩;have L:Y0T c p:=pH h2.low ⟨g,by rw[n,Int.mul_comm]⟩;have U:Y0T u r:=by
  rw[P,Int.add_comm,Int.gcd_mul_right_add_left,Int.gcd_mul_right_left_of_gcd_eq_one I,Int.gcd_comm];exact y
 have W:Y0T u p:=by
  rw[P,Int.gcd_mul_right_add_left,Int.gcd_mul_right_left_of_gcd_eq_one L];exact y
 obtain⟨w,m⟩:=Int.gcd_dvd_left u g;obtain⟨A,e⟩:=Int.gcd_dvd_right u g;have m:u=l*w:=m;have e:g=l*A:=e;have S:u/l=w:=by rw[m];exact Y57
 have D:d/l=A * p:=by rw[n,e,Int.mul_assoc];exact Y57
 have J:Y0T w A:=by
  have:=Int.gcd_ediv_gcd_ediv_gcd (i:=u) (j:=g) (by have:0<(Int.gcd u g:Int):=T;exact Oo);have h:Y0T (u/l) (g/l):=this;rw[S]at h
  rwa [show g/l=A from by rw[e];exact Y57]at h
 rw[S,N,D];have z:w ∣ u:=⟨l,by rw[m,Int.mul_comm]⟩;have M:0<r:=by
  have:=h1.pos;rw[s]at this;exact YbT Oo
 have C:0<p:=by
  have:=h2.pos;rw[n]at this;exact YbT Oo
 have O:0<A:=by
  have:=B;rw[e]at this;exact YbT Oo
 refine HG (Y0p (Int.mul_pos M (Int.mul_pos O C))) (Int.mul_pos h1.pos h2.pos) ?_
 ·exact sT (lD U z) (sT J (lD W z))
 ·have X:a*d+c*b=g*(l*w):=by
   rw[<-m,P,s,n];rw[Int.mul_add,Int.mul_left_comm a,Int.mul_left_comm c]
  rw[X,s,n];generalize hG:g=G at *;rw[e];simp only[Int.mul_assoc,Int.mul_left_comm,Int.mul_comm]
def WH{a b c d:Int}(h1:Low a b)(h2:Low c d) :
  let f:Int:=Y9Z a
  let s:Int:=Int.gcd c b
  lw (a*c) (b*d)=((a/f)*(c/s),(b/s)*(d/f)):=by
 intro f s;have N:0<f:=kJ h2.pos;have O:0<s:=kJ h1.pos;obtain⟨n,p⟩:=YfF a;obtain⟨g,l⟩:=Yc4 a;obtain⟨r,u⟩:=Int.gcd_dvd_left c b;obtain⟨e,m⟩:=Int.gcd_dvd_right c b;have p:a=f*n:=p;have l:d=f*g:=l;have u:c=s*r:=u;have m:b=s*e:=m;have L:a/f=n:=by rw[p];exact Y57
 have D:d/f=g:=by rw[l];exact Y57
 have I:c/s=r:=by rw[u];exact Y57
 have J:b/s=e:=by rw[m];exact Y57
 have B:Y0T n g:=by
  have:=Int.gcd_ediv_gcd_ediv_gcd (i:=a) (j:=d) (by have:0<(Int.gcd a d:Int):=N;exact Oo);have h:Y0T (a/f) (d/f):=this
  rwa [L,D]at h
 have C:Y0T r e:=by
  have:=Int.gcd_ediv_gcd_ediv_gcd (i:=c) (j:=b) (by have:0<(Int.gcd c b:Int):=O;exact Oo);have h:Y0T (c/s) (b/s):=this
  rwa [I,J]at h
 have y:Y0T n e:=lD (pH h1.low ⟨s,by rw[m,Int.mul_comm]⟩) ⟨f,by rw[p,Int.mul_comm]⟩;have z:Y0T r g:=lD (pH h2.low ⟨f,by rw[l,Int.mul_comm]⟩) ⟨s,by rw[u,Int.mul_comm]⟩;have A:0<e:=by
  have:=h1.pos;rw[m]at this;exact YbT Oo
 have w:0<g:=by
  have:=h2.pos;rw[l]at this;exact YbT Oo
 rw[L,J,I,D];refine HG (Y0p (Int.mul_pos A w)) (Int.mul_pos h1.pos h2.pos) ?_
 ·have G:Y0T n (e * g):=sT y B;have M:Y0T r (e * g):=sT C z;rw[Int.gcd_comm]at G M ⊢;exact sT G M
 ·rw[p,m,u,l];simp only[Int.mul_assoc,Int.mul_left_comm,Int.mul_comm]
end Mf
namespace Mf
abbrev Fr:=Int × Int
abbrev _root_.Ak:=List Fr
abbrev _root_.Aj:=List Ak
def mO(x y:Fr):Fr:=lw (x.1*y.2+y.1*x.2) (x.2*y.2)
def mM(fs:Ak):Fr:=fs.foldl mO (0,1)
def eJ(f:Fr):Prop:=Low f.1 f.2
def pS{α:Type}{P:Y1k Yv}(h0:P [])(hs:∀l a,P l->P (l++[a]))(l:Yv):P l:=by
 have:∀r:List α,P r.reverse:=by
  intro r
  induction r with
  | nil=>exact h0
  | cons a r ih=>rw[List.reverse_cons];exact hs _ _ ih
 have:=this l.reverse
 rwa [List.reverse_reverse]at this
def qH(l:Ak)(a:Fr):mM (l++[a])=mO (mM l) a:=by unfold mM;rw[List.foldl_append];rfl
def BP(l:Ak):(∀f∈l,Y0b)->eJ (mM l):=by
 refine pS (P:=λl=>(∀f∈l,Y0b)->eJ (mM l)) (λ_=>Ya7 Dd) (λl a e h=>?_) l;rw[qH];have c:=e λf d=>h f (cM _ d);have g:=h a (cL _ aS);exact kB (Int.mul_pos c.pos g.pos)
def QH{n d:Int}(h:0<d):(lw n d).2<=d/\(lw n d).1.natAbs<=n.natAbs:=by
 obtain⟨e,c⟩:=aC1 (n:=n) (d:=d);have g:=YcP h;have p:=(kB (n:=n) h).pos;generalize (lw n d).1=a at *;generalize (lw n d).2=b at *;generalize (Int.gcd n d:Int)=G at *;refine Y0p ?_
 ·rw[<-c];have:=Int.mul_le_mul_of_nonneg_left (show(1:Int)<=G by exact Oo) (Int.le_of_lt p);simpa using this
 ·rw[<-e,dD];exact Ydm Oo
def QI(x y:Fr):Prop:=x.1*y.2<y.1*x.2
def JX{x y z:Fr}(hx:0<x.2)(hy:0<y.2)(hz:0<z.2)(h1:QI x y)(h2:¬QI z y):QI x z:=by
 unfold QI at *;have h2:y.1*z.2<=z.1*y.2:=Oo;have a:(x.1*y.2)*z.2<(y.1*x.2)*z.2:=Int.mul_lt_mul_of_pos_right h1 hz;have b:(y.1*z.2)*x.2<=(z.1*y.2)*x.2:=Int.mul_le_mul_of_nonneg_right h2 (Int.le_of_lt hx);have c:(x.1*z.2)*y.2<(z.1*x.2)*y.2:=by
  calc (x.1*z.2)*y.2=(x.1*y.2)*z.2:=by simp only[Int.mul_assoc,Int.mul_left_comm,Int.mul_comm]
   _<(y.1*x.2)*z.2:=a
   _=(y.1*z.2)*x.2:=by simp only[Int.mul_assoc,Int.mul_left_comm,Int.mul_comm]
   _<=(z.1*y.2)*x.2:=b
   _=(z.1*x.2)*y.2:=by simp only[Int.mul_assoc,Int.mul_left_comm,Int.mul_comm]
 exact Int.lt_of_mul_lt_mul_right c (Int.le_of_lt hy)
def TR{x y:Fr}(h:QI x y):¬QI y x:=by unfold QI at *;exact Oo
def CJ{x:Fr}:¬QI x x:=by unfold QI;exact Oo
structure jD(fs:Ak)(n p:Nat)(y:Fr):Prop where
 at_:fs[p]?=Y09
 lt:p<n
 no:∀(j:Nat) (x:Fr),j<n->fs[j]?=Y8->¬QI x y
 first:∀(j:Nat) (x:Fr),j<p->fs[j]?=Y8->QI y x
def jD.one{fs:Ak}{y:Fr}(h:fs[0]?=Y09):jD fs 1 0 y :=
 ⟨h,Oo,λj x a e=>by have:j=0:=Oo;subst this;rw[h]at e;cases e;exact CJ,λj x a _=>Oo⟩
def jD.next{fs:Ak}{n p:Nat}{y z:Fr}(L:jD fs n p y)(hp:∀f∈fs,Y0b)(hz:fs[n]?=Y99)(h:QI z y):jD fs (n+1) n z:=by
 have pos:∀{j:Nat} {x:Fr},fs[j]?=Y8->0<x.2:=λe=>(hp _ (aE e)).pos;have all:∀(j:Nat) (x:Fr),j<n->fs[j]?=Y8->QI z x:=λj x a e=>JX (pos hz) (pos L.at_) (pos e) h (L.no j x a e);refine⟨hz,Oo,λj x a e=>?_,all⟩;by_cases q:j=n
 ·subst q;rw[hz]at e;cases e;exact CJ
 ·exact TR (all j x Oo e)
def jD.stay{fs:Ak}{n p:Nat}{y z:Fr}(L:jD fs n p y)(hz:fs[n]?=Y99)(h:¬QI z y):jD fs (n+1) p y :=
 ⟨L.at_,by have:=L.lt;exact Oo,λj x a e=>by
  by_cases q:j=n
  ·subst q;rw[hz]at e;cases e;exact h
  ·exact L.no j x Oo e,L.first⟩
end Mf
namespace Mf
def YO{n d n' d':Int}(hd:0<d)(hd':0<d')(e:n*d'=n' * d):lw n d=lw n' d':=by
 have h:=kB (n:=n') hd';have c:=uC (n:=n') (d:=d');generalize lw n' d'=L at c h;refine HG (a:=L.1) (b:=L.2) h hd (Int.eq_of_mul_eq_mul_right (a:=d') Oo ?_)
 calc L.1*d*d'=(L.1*d')*d:=by ac_rfl
  _=n' * L.2*d:=by rw[c]
  _=(n' * d)*L.2:=by ac_rfl
  _=n*d' * L.2:=by rw[e]
  _=n*L.2*d':=by ac_rfl
def mZ(f g:Fr):Fr:=lw (f.1*g.1) (f.2*g.2)
def iM{f g:Fr}(h:Y0b)(h':eJ g):eJ (mZ f g):=kB (YfQ h'.pos)
def aFa{a b c d:Int}(hb:0<b)(hd:0<d):mZ (lw a b) (lw c d)=lw (a*c) (b*d):=by
 have g:=(kB (n:=a) hb).pos;have i:=(kB (n:=c) hd).pos;refine YO (Int.mul_pos g i) (Int.mul_pos hb hd) ?_;have h:=uC (n:=a) (d:=b);have e:=YfY c;generalize lw a b=L at *;generalize lw c d=M at *
 calc L.1*M.1*(b*d)=(L.1*b)*(M.1*d):=by ac_rfl
  _=(a*L.2)*(c*M.2):=by rw[h,e]
  _=a*c*(L.2*M.2):=by ac_rfl
def zX(f:Fr)(c:Nat):Fr:=(f.1^c,f.2^c)
theorem pF{f:Fr}(h:Y0b):∀c:Nat,eJ (zX f c)
 | 0=>⟨by show 0<f.2^0;rw[Int.pow_zero];decide,by show Int.gcd (f.1^0) (f.2^0)=1;rw[Int.pow_zero,Int.pow_zero];decide⟩
 | c+1=>by
  have ih:=pF h c;have k:∀n:Nat,Int.gcd f.1 (f.2^n)=1:=λn=>by
   induction n with
   | zero=>rw[Int.pow_zero];exact Int.gcd_one_right _
   | succ n ih=>rw[Int.pow_succ];exact sT ih h.low
  refine⟨?_,?_⟩
  ·show 0<f.2^(c+1);rw[Int.pow_succ];exact Int.mul_pos ih.pos h.pos
  ·show Int.gcd (f.1^(c+1)) (f.2^(c+1))=1;have a:∀n:Nat,Int.gcd (f.2^(c+1)) (f.1^n)=1:=λn=>by
    induction n with
    | zero=>rw[Int.pow_zero];exact Int.gcd_one_right _
    | succ n ih=>rw[show f.1^(n+1)=f.1^n*f.1 from Int.pow_succ ..];exact sT ih (by rw[Int.gcd_comm];exact k (c+1))
   rw[Int.gcd_comm];exact a (c+1)
def wJ(zs:Y4r):Fr:=zs.foldl (λp q=>(p.1*q.1.1^q.2,p.2*q.1.2^q.2)) (1,1)
def nX(zs:Y4r):Fr:=zs.foldl (λp q=>mZ p (zX q.1 q.2)) (1,1)
def uL(l:Y4r)(a:Fr × Nat):wJ (l++[a])=((wJ l).1*a.1.1^a.2,(wJ l).2*a.1.2^a.2):=by unfold wJ;rw[List.foldl_append];rfl
def yB(l:Y4r)(a:Fr × Nat):nX (l++[a])=mZ (nX l) (zX a.1 a.2):=by unfold nX;rw[List.foldl_append];rfl
def BN(l:Y4r):(∀z∈l,eJ z.1)->0<(wJ l).2:=by
 induction l using pS with
 | h0=>intro _;decide
 | hs l a ih =>
  intro h;rw[uL];exact Int.mul_pos (ih λf c=>h f (cM _ c)) (pF (h a (by simp)) a.2).pos
def GD(l:Y4r):(∀z∈l,eJ z.1)->nX l=lw (wJ l).1 (wJ l).2:=by
 induction l using pS with
 | h0=>intro _;rfl
 | hs l a ih =>
  intro h;have c:∀f∈l,eJ f.1:=λf g=>h f (cM _ g);have d:=pF (h a (by simp)) a.2;rw[yB,uL,ih c];have e:zX a.1 a.2=lw (a.1.1^a.2) (a.1.2^a.2):=(QF d).symm;rw[e,aFa (BN l c) (show 0<a.1.2^a.2 from d.pos)]
def tM(l:Y4r)(h:∀z∈l,eJ z.1):eJ (nX l):=by rw[GD l h];exact kB (BN l h)
def yK{x:Int}{B:Nat}(h:x.natAbs<=2^B)(c:Nat):(x^c).natAbs<=2^(B*c):=by
 rw[Int.natAbs_pow,Nat.pow_mul];exact Nat.pow_le_pow_left h c
def aAW{B:Nat}(l:Y4r):(∀z∈l,z.1.1.natAbs<=2^B/\z.1.2.natAbs<=2^B)->(wJ l).1.natAbs<=2^(B*(l.map (·.2)).sum)/\(wJ l).2.natAbs<=2^(B*(l.map (·.2)).sum):=by
 induction l using pS with
 | h0=>intro _;exact⟨Nat.one_le_two_pow,Nat.one_le_two_pow⟩
 | hs l a ih =>
  intro h;obtain⟨g,c⟩:=ih λf i=>h f (cM _ i);obtain⟨e,d⟩:=h a (by simp);rw[uL,bI,List.sum_append,show([a].map (·.2)).sum=a.2 by simp,Nat.mul_add,Nat.pow_add];exact⟨by show((wJ l).1*a.1.1^a.2).natAbs<=_;rw[dD];exact Nat.mul_le_mul g (yK e _),by show((wJ l).2*a.1.2^a.2).natAbs<=_;rw[dD];exact Nat.mul_le_mul c (yK d _)⟩
def aAX{B:Nat}(l:Y4r)(hl:∀z∈l,eJ z.1)(h:∀z∈l,z.1.1.natAbs<=2^B/\z.1.2.natAbs<=2^B):(nX l).1.natAbs<=2^(B*(l.map (·.2)).sum)/\(nX l).2.natAbs<=2^(B*(l.map (·.2)).sum):=by
 obtain⟨c,g⟩:=aAW l h;rw[GD l hl];have a:=BN l hl;obtain⟨e,d⟩:=QH (n:=(wJ l).1) a;have:=(kB (n:=(wJ l).1) a).pos;exact Y2q (aL d c)
def IS(l:Y4r):(∀z∈l,0<=z.1.1)->0<=(wJ l).1:=by
 induction l using pS with
 | h0=>intro _;decide
 | hs l a ih =>
  intro h;rw[uL];exact Int.mul_nonneg (ih λf c=>h f (cM _ c)) (Int.pow_nonneg (h a (by simp)))
end Mf
namespace Mf
def rv(f:Fr):Rat:=(f.1:Rat)/(f.2:Rat)
def CW{d:Int}(h:0<d):(0:Rat)<(d:Rat):=by exact_mod_cast h
def nS{d:Int}(h:0<d):(d:Rat)≠0:=by have:=CW h;grind
def pD{f:Fr}(h:0<f.2):Y0Y*(f.2:Rat)=(f.1:Rat):=by
 have:=nS h;unfold rv;grind
def EV{n d:Int}(h:0<d):rv (lw n d)=(n:Rat)/(d:Rat):=by
 have e:=YfY n;have p:=(kB (n:=n) h).pos;have g:=nS h;have i:=nS p;have c:((lw n d).1:Rat)*(d:Rat)=(n:Rat)*((lw n d).2:Rat):=by exact_mod_cast e
 unfold rv;generalize ((lw n d).1:Rat)=a at *;generalize ((lw n d).2:Rat)=b at *;grind
def sE{f g:Fr}(hf:0<f.2)(hg:0<g.2):rv (mO f g)=Y0Y+rv g:=by
 unfold mO;rw[EV (Int.mul_pos hf hg)];have c:=nS hf;have a:=nS hg;unfold rv;rw[Rat.intCast_add,Rat.intCast_mul,Rat.intCast_mul,Rat.intCast_mul];grind
def kP{f g:Fr}(hf:0<f.2)(hg:0<g.2):rv (mZ f g)=Y0Y*rv g:=by
 unfold mZ;rw[EV (Int.mul_pos hf hg)];have c:=nS hf;have a:=nS hg;unfold rv;rw[Rat.intCast_mul,Rat.intCast_mul];grind
def BX(f:Fr):rv (-f.1,f.2)=- Y0Y:=by
 unfold rv;rw[show(((-f.1,f.2):Fr).1:Rat)=-(f.1:Rat)by rw[<-Rat.intCast_neg]];grind
def iW{f g:Fr}(hf:Y0b)(hg:eJ g)(e:Y0Y=rv g):f=g:=by
 have c:(f.1:Rat)*(g.2:Rat)=(g.1:Rat)*(f.2:Rat):=by
  have a:=pD hf.pos;have b:=pD hg.pos;rw[<-a,<-b,e];grind
 have q:=JZ hf hg (by exact_mod_cast c);exact Prod.ext q.1 q.2
def aCU{f g:Fr}(hf:0<f.2)(hg:0<g.2):f.1*g.2<g.1*f.2↔Y0Y<rv g:=by
 have d:=CW hf;have i:=CW hg;have a:=pD hf;have b:=pD hg;have p:(0:Rat)<(f.2:Rat)*(g.2:Rat):=Rat.mul_pos d i;have c:((f.1*g.2:Int):Rat)=Y0Y*((f.2:Rat)*(g.2:Rat)):=by rw[Rat.intCast_mul,<-a];grind
 have e:((g.1*f.2:Int):Rat)=rv g*((f.2:Rat)*(g.2:Rat)):=by rw[Rat.intCast_mul,<-b];grind
 rw[<-Rat.intCast_lt_intCast,c,e];constructor
 ·intro h;exact Rat.lt_of_mul_lt_mul_right h (Rat.le_of_lt p)
 ·intro h;exact Rat.mul_lt_mul_of_pos_right h p
def lY:rv (0,1)=0:=by unfold rv;grind
def sD:rv (1,1)=1:=by unfold rv;grind
def vD(l:Y2n):Rat:=l.foldr (· + ·) 0
def BS:vD []=0:=rfl
def qK(x:Rat)(l:Y2n):vD (x::l)=x+vD l:=rfl
theorem tQ:∀(a b:Y2n),vD (a++b)=vD a+vD b
 | [],b=>by rw[BS,List.nil_append];grind
 | x::a,b=>by rw[List.cons_append,qK,qK,tQ a b];grind
def GU(l:Ak):(∀f∈l,Y0b)->rv (mM l)=vD (l.map rv):=by
 induction l using pS with
 | h0=>intro _;exact lY
 | hs l a ih =>
  intro h;have c:∀f∈l,Y0b:=λf d=>h f (cM _ d);rw[qH,sE (BP l c).pos (h a (by simp)).pos,ih c,bI,tQ,bE,List.map_nil,qK,BS];grind
def Fn(N B:Nat)(f:Fr):Prop:=Y0b/\∃x:Int,Y0Y*(N:Rat)=(x:Rat)/\x.natAbs<=B*N
def Fn.low{N B:Nat}{f:Fr}(h:Y32):Y0b:=h.1
def Fn.le{N B C:Nat}{f:Fr}(h:Y32)(hB:B<=C):Fn N C f:=by
 obtain⟨l,x,c,a⟩:=h;exact⟨l,x,c,aL a (Y1s hB)⟩
def xW{f g:Fr}(h:Y0b)(h':eJ g):eJ (mO f g):=kB (YfQ h'.pos)
def Fn.add{N B C:Nat}{f g:Fr}(h:Y32)(h':Fn N C g):Fn N (B+C) (mO f g):=by
 obtain⟨l,x,c,i⟩:=h;obtain⟨a,y,d,e⟩:=h';refine Y2v (xW l a) (x+y) ?_
 ·rw[sE l.pos a.pos,Rat.intCast_add,<-c,<-d];grind
 ·rw[Nat.add_mul];exact Oo
def Fn.mul{N M B C:Nat}{f g:Fr}(h:Y32)(h':Fn M C g):Fn (N*M) (B*C) (mZ f g):=by
 obtain⟨l,x,c,i⟩:=h;obtain⟨a,y,d,e⟩:=h';refine Y2v (iM l a) (x*y) ?_
 ·rw[kP l.pos a.pos,Rat.intCast_mul,<-c,<-d,Rat.natCast_mul];grind
 ·rw[dD];have:=Nat.mul_le_mul i e;rw[Nat.mul_mul_mul_comm]at this;exact this
def Fn.neg{N B:Nat}{f:Fr}(h:Y32):Fn N B (-f.1,f.2):=by
 obtain⟨l,x,c,a⟩:=h;refine Y2v ⟨l.pos,by show Y0T (-f.1) f.2;rw[Int.neg_gcd];exact l.low⟩ (-x) ?_
 ·rw[BX,Rat.intCast_neg,<-c];grind
 ·rw[Int.natAbs_neg];exact a
def Fn.up{N B:Nat}{f:Fr}(h:Y32)(M:Nat):Fn (N*M) B f:=by
 obtain⟨l,x,c,a⟩:=h;refine Y2v l (x*(M:Int)) ?_
 ·rw[Rat.intCast_mul,<-c,Rat.natCast_mul];have:((M:Int):Rat)=(M:Rat):=rfl;rw[this];grind
 ·rw[dD,<-Nat.mul_assoc];exact Y1s a
def Fn.dvd{N M B:Nat}{f:Fr}(h:Y32)(d:N ∣ M):Fn M B f:=by
 obtain⟨e,rfl⟩:=d;exact h.up e
def sI(N:Nat):((N:Int):Rat)=(N:Rat):=rfl
def TU:eJ (0,1):=Ya7 Dd
def NL:eJ (1,1):=Ya7 Dd
def Fn.zero(N:Nat):Fn N 0 (0,1):=⟨TU,0,by rw[lY];grind,by simp⟩
def Fn.one(N:Nat):Fn N 1 (1,1):=⟨NL,N,by rw[sD,sI];grind,by simp⟩
def Fn.eq{N B:Nat}{f:Fr}(h:Y32)(hN:0<N):∃x:Int,f=lw x (N:Int)/\x.natAbs<=B*N:=by
 obtain⟨l,x,c,d⟩:=h;have a:(0:Int)<(N:Int):=Oo;refine⟨x,iW l (kB a) ?_,d⟩;rw[EV a,<-c,sI];have:=nS a;rw[sI]at this;grind
def Fn.of{n d:Int}{B:Nat}(h:0<d)(hB:n.natAbs<=B*d.natAbs):Fn d.natAbs B (lw n d):=by
 refine⟨kB h,n,?_,hB⟩;have e:(d.natAbs:Int)=d:=Oo;rw[EV h,<-sI,e];have:=nS h;grind
def Fn.num{N B:Nat}{f:Fr}(h:Y32)(hN:0<N):f.1.natAbs<=B*N/\f.2.natAbs<=N:=by
 obtain⟨x,rfl,a⟩:=h.eq hN;have q:=QH (n:=x) (d:=(N:Int)) Oo;have p:=(kB (n:=x) (d:=(N:Int)) Oo).pos;exact Oo
def Fn.tot{N B:Nat}:∀(fs:Ak),(∀f∈fs,Y32)->Fn N (fs.length*B) (mM fs):=by
 intro fs
 induction fs using pS with
 | h0=>intro _;exact(Fn.zero N).le (Y0H)
 | hs l a ih =>
  intro h;rw[qH,aZ,List.length_singleton,Nat.add_mul,Nat.one_mul];exact(ih λf c=>h f (cM _ c)).add (h a (Yb5 _ rfl))
end Mf
namespace Mf
def mN:Y2n->Rat
 | []=>0
 | [x]=>x
 | x::y::l=>if x<=mN (y::l) then x else mN (y::l)
theorem uV:∀{l:Y2n}{x:Rat},x∈l->mN l<=x
 | [],x,h=>by cases h
 | [y],x,h=>by
  rw[bD.mp h];exact Rat.le_refl
 | a::b::l,x,h=>by
  have ih:=λx h=>uV (l:=b::l) (x:=x) h;unfold mN;rcases bK.mp h with rfl | h
  ·split
   ·exact Rat.le_refl
   ·grind
  ·have:=ih x h;split <;> grind
theorem xM:∀{l:Y2n},l≠[]->mN l∈l
 | [],h=>absurd rfl h
 | [y],_=>bD.mpr rfl
 | a::b::l,_=>by
  have ih:=xM (l:=b::l) (by simp);unfold mN;split
  ·exact aS ..
  ·exact aY _ ih
def HE{l:Y2n}{m:Rat}(h:m∈l)(k:∀x∈l,m<=x):mN l=m:=by
 have c:=uV h;have a:=k _ (xM (l:=l) (λe=>by rw[e]at h;cases h));grind
def bZ(n:Nat)(f:Yw):Rat:=vD ((List.range n).map f)
def gQ(f:Yw):bZ 0 f=0:=rfl
def dW(n:Nat)(f:Yw):bZ (n+1) f=bZ n f+f n:=by
 unfold bZ;rw[List.range_succ,bI,tQ,bE,List.map_nil,qK,BS];grind
def bQ{n:Nat}{f g:Yw}(h:∀i,i<n->f i=g i):bZ n f=bZ n g:=by
 induction n with
 | zero=>rfl
 | succ n ih=>rw[dW,dW,ih λi a=>h i Oo,h n Oo]
def jW(n:Nat)(f g:Yw):Y4k n (f i+g i)=bZ n f+bZ n g:=by
 induction n with
 | zero=>rw[gQ,gQ,gQ];grind
 | succ n ih=>rw[dW,dW,dW,ih];grind
def eE(n:Nat)(a:Rat)(f:Yw):Y4k n (a*f i)=a*bZ n f:=by
 induction n with
 | zero=>rw[gQ,gQ];grind
 | succ n ih=>rw[dW,dW,ih];grind
def lJ{n:Nat}{f g:Yw}(h:∀i,i<n->f i<=g i):bZ n f<=bZ n g:=by
 induction n with
 | zero=>rw[gQ,gQ];exact Rat.le_refl
 | succ n ih =>
  have c:=ih λi a=>h i Oo;have d:=h n Oo;rw[dW,dW];grind
def gZ(n:Nat):bZ n (Y2V)=0:=by
 induction n with
 | zero=>rfl
 | succ n ih=>rw[dW,ih];grind
def rW{n:Nat}{f:Yw}(h:∀i,i<n->0<=f i):0<=bZ n f:=by
 have:=lJ (n:=n) (f:=Y2V) (g:=f) h
 rwa [gZ]at this
def tP{n:Nat}(f:Yw){w:Nat}(h:w<n):bZ n f-f w=Y4k n (if i=w then 0 else f i):=by
 induction n with
 | zero=>exact Oo
 | succ n ih =>
  rw[dW,dW];by_cases e:w=n
  ·subst e;rw[Yo,bQ (g:=f) λi a=>Y2l];grind
  ·rw[Y3H (e q.symm),<-ih Oo];grind
def bT(c:Ae)(i:Nat):Ae:=c.set i (c.getD i 0+1)
def oB(W:Nat)(d:Yw):Y2n:=(List.range W).map λw=>bZ W d-d w
def qZ{W:Nat}{d:Yw}{x:Rat}:x∈oB W d ↔ ∃w,w<W/\x=bZ W d-d w:=by
 unfold oB;rw[aM];constructor
 ·rintro⟨w,h,rfl⟩;exact Y1t w (bR.mp h)
 ·rintro⟨w,h,rfl⟩;exact Y1t w (bR.mpr h)
def qG(W F:Nat)(q:Nat->Y01)(mix ps cs:Yw):Nat->Y01
 | 0,c=>mN (oB W λv=>ps v*q v c)
 | n+1,c=>mN (oB W (λv=>ps v*q v c)++[cs c.sum*bZ W (λv=>mix v*q v c)+bZ F (λj=>qG W F q mix ps cs n (bT c j))])
section
variable{W F:Nat}{q:Nat->Y01}{mix ps ps' cs:Yw}
def EH(n:Nat)(c:Ae):qG W F q mix ps cs (n+1) c=mN (oB W (λv=>Y1J*q v c)++[cs c.sum*Y0h (mix v*q v c)+bZ F (λj=>qG W F q mix ps cs n (bT c j))]):=rfl
def MV(hW:0<W)(d:Yw):oB W d≠[]:=λe=>by
 have:bZ W d-d 0∈oB W d:=qZ.mpr (Y1t 0 hW);rw[e]at this;cases this
end
end Mf
namespace Mf
theorem GN:∀(l:Ae) (j v x:Nat),l[j]?=Y8->(l.set j v).sum+x=l.sum+v
 | [],j,v,x,h=>by simp at h
 | a::l,0,v,x,h=>by
  have:a=x:=by simpa using h
  subst this;simp only[List.set_cons_zero,List.sum_cons];exact Oo
 | a::l,j+1,v,x,h=>by
  have:=GN l j v x (by simpa using h);simp only[List.set_cons_succ,List.sum_cons];exact Oo
def cta:Nat->Nat->Ab
 | 0,_=>[]
 | 1,m=>[[m]]
 | F+2,m=>(List.range (m+1)).flatMap λk=>(cta (F+1) (m-k)).map λc=>k::c
theorem iU:∀{F m:Nat}{c:Ae},c∈cta F m->Y30/\c.sum=m
 | 0,m,c,h=>by cases h
 | 1,m,c,h=>by
  have:c=[m]:=by simpa[cta]using h
  subst this;simp
 | F+2,m,c,h=>by
  obtain⟨k,a,h⟩:=List.mem_flatMap.mp h;obtain⟨d,hd,rfl⟩:=aM.mp h;have a:=bR.mp a;obtain⟨e,g⟩:=iU hd;refine⟨by simp[e],?_⟩;rw[List.sum_cons];exact Oo
end Mf
namespace Mf
def Qn(N B:Nat)(x:Rat):Prop:=∃z:Int,x*(N:Rat)=(z:Rat)/\z.natAbs<=B*N
def Fn.q{N B:Nat}{f:Fr}(h:Y32):Y2a Y0Y:=h.2
theorem Qn.f{N B:Nat}{f:Fr}(l:Y0b)(h:Y2a Y0Y):Y32:=⟨l,h⟩
def eQ(x:Rat):Fr:=(x.num,(x.den:Int))
def cF(x:Rat):eJ (eQ x):=by
 refine Y0p ?_
 ·show(0:Int)<(x.den:Int);have:=x.den_pos;exact Oo
 ·show Y0T x.num (x.den:Int);rw[Int.gcd_eq_natAbs_gcd_natAbs,Int.natAbs_natCast];exact x.reduced
def dB(x:Rat):rv (eQ x)=x:=by
 unfold rv eQ;show(x.num:Rat)/((x.den:Int):Rat)=x;rw[<-Rat.divInt_eq_div,Rat.num_divInt_den]
def ZL{f:Fr}(h:Y0b):eQ (Y0Y)=f:=iW (Y03) h (dB _)
def Qn.fq{N B:Nat}{x:Rat}(h:Y2a x):Fn N B (eQ x):=⟨cF x,by rw[dB];exact h⟩
def Qn.le{N B C:Nat}{x:Rat}(h:Y2a x)(hB:B<=C):Qn N C x:=by
 obtain⟨z,c,a⟩:=h;exact⟨z,c,aL a (Y1s hB)⟩
def Qn.add{N B C:Nat}{x y:Rat}(h:Y2a x)(h':Qn N C y):Qn N (B+C) (x+y):=by
 obtain⟨z,a,e⟩:=h;obtain⟨u,c,d⟩:=h';refine Y74 (z+u)
 ·rw[Rat.intCast_add,<-a,<-c];grind
 ·rw[Nat.add_mul];exact Oo
def Qn.neg{N B:Nat}{x:Rat}(h:Y2a x):Y2a (-x):=by
 obtain⟨z,c,a⟩:=h;refine⟨-z,?_,by rw[Int.natAbs_neg];exact a⟩;rw[Rat.intCast_neg,<-c];grind
def Qn.sub{N B C:Nat}{x y:Rat}(h:Y2a x)(h':Qn N C y):Qn N (B+C) (x-y):=by
 have:=h.add h'.neg
 rwa [<-Rat.sub_eq_add_neg]at this
def Qn.mul{N M B C:Nat}{x y:Rat}(h:Y2a x)(h':Qn M C y):Qn (N*M) (B*C) (x*y):=by
 obtain⟨z,a,d⟩:=h;obtain⟨u,e,c⟩:=h';refine Y74 (z*u)
 ·rw[Rat.intCast_mul,<-a,<-e,Rat.natCast_mul];grind
 ·rw[dD];have:=Nat.mul_le_mul d c;rw[Nat.mul_mul_mul_comm]at this;exact this
def Qn.dvd{N M B:Nat}{x:Rat}(h:Y2a x)(d:N ∣ M):Qn M B x:=by
 obtain⟨e,rfl⟩:=d;obtain⟨z,a,c⟩:=h;refine Y74 (z*(e:Int))
 ·rw[Rat.intCast_mul,<-a,Rat.natCast_mul,sI];grind
 ·rw[dD,<-Nat.mul_assoc];exact Y1s c
def Qn.zero(N B:Nat):Y2a 0:=⟨0,by grind,by simp⟩
theorem Qn.sumR{N B:Nat}{f:Yw}:∀{n:Nat},(∀i,i<n->Y2a (f i))->Qn N (n*B) (bZ n f)
 | 0,_=>by rw[gQ];exact Qn.zero _ _
 | n+1,h=>by
  rw[dW,Nat.add_mul,Nat.one_mul];exact(Qn.sumR λi hi=>h i Oo).add (h n Oo)
def Qn.min{N B:Nat}{l:Y2n}(h:∀x∈l,Y2a x)(ne:l≠[]):Y2a (mN l):=h _ (xM ne)
def XC{f:Fr}(h:Y0b)(n:Nat):rv (zX f n)=Y0Y^n:=by
 have a:=nS h.pos
 induction n with
 | zero=>unfold zX rv;grind
 | succ n ih =>
  have e:rv (zX f (n+1))=rv (zX f n)*Y0Y:=by
   have c:=nS (pF h n).pos;unfold zX rv at *;simp only[Int.pow_succ,Rat.intCast_mul]at *;generalize ((f.1^n:Int):Rat)=u at *;generalize ((f.2^n:Int):Rat)=v at *;grind
  rw[e,ih,Rat.pow_succ]
theorem Qn.pow{N:Nat}{x:Rat}(h:Qn N 1 x):∀n:Nat,Qn (N^n) 1 (x^n)
 | 0=>⟨1,by rw[Rat.pow_zero,Nat.pow_zero];grind,by simp⟩
 | n+1=>by
  rw[Rat.pow_succ,Nat.pow_succ];exact(Qn.pow h n).mul h
def aDn{N:Nat}(l:Y4r):(∀z∈l,Fn N 1 z.1)->Qn (N^(l.map (·.2)).sum) 1 (rv (nX l)):=by
 induction l using pS with
 | h0=>intro _;exact⟨1,by show rv (1,1)*_=_;rw[sD];simp,by simp⟩
 | hs l a ih =>
  intro h;have e:∀z∈l,Fn N 1 z.1:=λz c=>h z (cM _ c);have d:=h a (by simp);rw[yB,kP (tM l λz c=>(e z c).low).pos (pF d.low a.2).pos,XC d.low,bI,List.sum_append,Nat.pow_add];have:=(ih e).mul (d.q.pow a.2);simpa using this
def PM{f:Fr}(h:Y0b)(h0:0<=f.1):0<=Y0Y:=by
 have c:=CW h.pos;have a:(0:Rat)<=(f.1:Rat):=by exact_mod_cast h0
 have:Y0Y=(f.1:Rat)*(f.2:Rat)⁻¹:=by unfold rv;exact Rat.div_def _ _
 rw[this];exact cA a (Ydg c)
def aDo(l:Y4r):(∀z∈l,eJ z.1/\0<=z.1.1)->0<=rv (nX l):=by
 intro h;have c:∀z∈l,eJ z.1:=λz a=>(h z a).1;refine PM (tM l c) ?_;rw[GD l c];have d:=IS l λz a=>(h z a).2;exact YeZ d _
def SH{α:Type}(l:Yv)(m:Ae):((l.zip m).map (·.2)).sum<=m.sum:=by
 induction l generalizing m with
 | nil=>simp
 | cons a l ih =>
  cases m with
  | nil=>simp
  | cons b m =>
   have:=ih m;simp only[List.zip_cons_cons,bE,List.sum_cons];exact Oo
def wq(fs:Ak)(c:Ae):Rat:=rv (nX (fs.zip c))
def OT{N M:Nat}{fs:Ak}{c:Ae}(h:∀f∈fs,Fn N 1 f)(hc:Y4s M):Qn (N^M) 1 (wq fs c):=by
 have e:=aDn (fs.zip c) (λz d=>h z.1 (Ydh z.1 z.2).1);have g:=SH fs c;exact e.dvd (Nat.pow_dvd_pow _ Oo)
def aCL{fs:Ak}{c:Ae}(h:∀f∈fs,Y0b/\0<=f.1):0<=wq fs c :=
 aDo _ λz d=>h z.1 (Ydh z.1 z.2).1
@[irreducible] def WB:Nat:=2^680
def aG9:1000000000000000000000<=WB:=by unfold WB;exact Y54 (show 1000000000000000000000<=2^70 by decide)
def aJy:4*WB<=2^690:=by unfold WB;exact Y54 (Nat.le_of_eq (show 4*2^680=2^682 by rw[show(4:Nat)=2^2 from rfl,<-Nat.pow_add]))
structure kX(F W M:Nat)(ss:Aj)(mix ps cs:Ak)(Ns Nm Np Nc B:Nat):Prop where
 f1:1<=F
 f4:F<=4
 w1:1<=W
 w4:W<=4
 m5:M<=5
 sl:ss.length=W
 ml:mix.length=W
 pl:ps.length=W
 cl:Ybj M
 sh:∀s∈ss,s.length=F/\∀f∈s,Y8h
 mx:∀f∈mix,Fn Nm 1 f
 pr:∀f∈ps,Fn Np B f
 co:∀f∈cs,Fn Nc B f
 pos:0<Np*Nc*Nm*Ns^M
 sz:Np*Nc*Nm*Ns^M<Y0y
 b:2097152*B<=WB
def gD(ss:Aj)(v:Nat)(c:Ae):Rat:=wq (ss.getD v []) c
def cB(ps:Ak)(v:Nat):Rat:=rv (ps.getD v (0,1))
def wor(F W M:Nat)(ss:Aj)(mix ps cs:Ak)(c:Ae):Rat:=qG W F (gD ss) (Y8x) (cB ps) (cB cs) (Y2P) c
def eO{α:Type}{l:Yv}{j:Nat}{a:α}(h:j<l.length):l.getD j a∈l:=by
 rw[aV,aB h];exact List.getElem_mem h
section
variable{F W M:Nat}{ss:Aj}{mix ps cs:Ak}{Ns Nm Np Nc B:Nat}
def kX.qn(I:kX F W M ss mix ps cs Ns Nm Np Nc B){v:Nat}(hv:v<W){c:Ae}(hc:Y4s M):Qn (Ns^M) 1 (Y1V v):=OT (I.sh _ (eO (by rw[I.sl];exact hv))).2 hc
def kX.due(I:kX F W M ss mix ps cs Ns Nm Np Nc B){v:Nat}(hv:v<W){c:Ae}(hc:Y4s M):Qn (Np*Nc*Nm*Ns^M) B (cB ps v*Y1V v):=by
 have h:=(I.pr _ (eO (a:=(0,1)) (by rw[I.pl];exact hv))).q.mul (I.qn hv hc);rw[Nat.mul_one]at h;exact h.dvd ⟨Nc*Nm,by ac_rfl⟩
def kX.met(I:kX F W M ss mix ps cs Ns Nm Np Nc B){v:Nat}(hv:v<W){c:Ae}(hc:Y4s M):Qn (Nm*Ns^M) 1 (Y8K v*Y1V v):=by
 have h:=(I.mx _ (eO (a:=(0,1)) (by rw[I.ml];exact hv))).q.mul (I.qn hv hc)
 rwa [Nat.mul_one]at h
def kX.paid(I:kX F W M ss mix ps cs Ns Nm Np Nc B){c:Ae}(hc:Y1T):Qn (Np*Nc*Nm*Ns^M) (4*B) (Y8M*Y0h (Y8K v*Y1V v)):=by
 have d:=(I.co _ (eO (a:=(0,1)) (show c.sum<cs.length by rw[I.cl];exact hc))).q;have h:=YdZ (λv g=>I.met g (Nat.le_of_lt hc));have i:=d.mul h;have e:B*(W*1)<=4*B:=by
  have:=dF B I.w4;rw[Nat.mul_one];exact Oo
 exact(i.le e).dvd ⟨Np,by ac_rfl⟩
def fX{c:Ae}{j:Nat}(h:j<c.length):(bT c j).sum=c.sum+1:=by
 unfold bT;have a:c[j]?=some (c.getD j 0):=by rw[aV,aB h];rfl
 have:=GN c j (c.getD j 0+1) _ a;exact Oo
def pI(c:Ae)(j:Nat):(bT c j).length=c.length:=by unfold bT;rw[List.length_set]
def kX.says(I:kX F W M ss mix ps cs Ns Nm Np Nc B){c:Ae}(hc:Y4s M):∀x∈oB W (λv=>cB ps v*gD ss v c),Qn (Np*Nc*Nm*Ns^M) (5*B) x:=by
 intro x e;obtain⟨w,a,rfl⟩:=qZ.mp e;have d:=YdZ (λv g=>I.due g hc);have h:=d.sub (I.due a hc);refine h.le ?_;have:=bJ B I.w4;exact Oo
theorem kX.worn(I:kX F W M ss mix ps cs Ns Nm Np Nc B):∀(n:Nat) (c:Ae),Y30->c.sum+n=M->Qn (Np*Nc*Nm*Ns^M) (8^(n+1)*B) (qG W F (gD ss) (Y8x) (cB ps) (cB cs) n c)
 | 0,c,hl,hn=>Qn.min (λx hx=>(I.says Oo x hx).le Oo) (MV I.w1 _)
 | n+1,c,hl,hn=>by
  rw[EH];have hp:8^(n+1+1)=8*8^(n+1):=by rw[Nat.pow_succ];exact Oo
  have a:1<=8^(n+1):=Nat.one_le_pow _ _ Dd;have g:B<=8^(n+1)*B:=Nat.le_mul_of_pos_left _ a;have h:8^(n+1+1)*B=8*(8^(n+1)*B):=by rw[hp,Nat.mul_assoc]
  refine Qn.min (λx hx=>?_) (by simp);rcases dO.mp hx with hx | hx
  ·exact(I.says Oo x hx).le Oo
  ·rw[bD.mp hx];have d:=I.paid (c:=c) Oo;have e:=Qn.sumR (n:=F) λj i=>I.worn n (bT c j) (by rw[pI];exact hl) (by rw[fX Oo];exact Oo);refine(d.add e).le ?_;have l:F*(8^(n+1)*B)<=4*(8^(n+1)*B):=bJ _ I.f4;exact Oo
end
def rise(F M:Nat):Ab:=(List.range (M+1)).flatMap (cta F)
theorem AZ:∀{F m:Nat}{c:Ae},1<=F->Y30->c.sum=m->c∈cta F m
 | 0,m,c,h,_,_=>Oo
 | 1,m,c,_,hl,hs=>by
  obtain⟨x,rfl⟩:∃x,c=[x]:=by
   match c,hl with
   | [x],_=>exact⟨x,rfl⟩
  have:x=m:=by simpa using hs
  subst this;simp[cta]
 | F+2,m,c,_,hl,hs=>by
  cases c with
  | nil=>simp at hl
  | cons x c =>
   rw[List.sum_cons]at hs;unfold cta;refine List.mem_flatMap.mpr ⟨x,bR.mpr Oo,aM.mpr ⟨c,AZ Oo (by simpa using hl) Oo,rfl⟩⟩
def gH{F M:Nat}{c:Ae}(hF:1<=F):Y4m c↔Y30/\Y4s M:=by
 unfold rise;rw[List.mem_flatMap];constructor
 ·rintro⟨m,e,d⟩;have:=bR.mp e;obtain⟨a,g⟩:=iU d;exact Y2q a
 ·rintro⟨a,g⟩;exact⟨c.sum,bR.mpr Oo,AZ hF a rfl⟩
theorem pR(F:Nat):∀M:Nat,(rise F M).Pairwise λa b=>a.sum<=b.sum
 | 0=>by
  unfold rise;rw[List.range_succ,List.range_zero,List.nil_append,List.flatMap_singleton];refine List.pairwise_iff_forall_sublist.mpr λ{a b} h=>?_;have ha:a∈cta F 0:=h.subset (by simp);have:=(iU ha).2;exact Oo
 | M+1=>by
  have e:=pR F M;unfold rise at *;rw[List.range_succ,List.flatMap_append,List.flatMap_singleton];refine List.pairwise_append.mpr ⟨e,?_,λa ha b c=>?_⟩
  ·refine List.pairwise_iff_forall_sublist.mpr λ{a b} h=>?_;have ha:a∈cta F (M+1):=h.subset (by simp);have c:b∈cta F (M+1):=h.subset (by simp);have d:=(iU ha).2;have i:=(iU c).2;exact Oo
  ·obtain⟨m,g,ha⟩:=List.mem_flatMap.mp ha;have:=bR.mp g;have d:=(iU ha).2;have i:=(iU c).2;exact Oo
def uA{F M k:Nat}{c d:Ae}(h:Y0i[k]?=Y1u)(hd:Y4m d)(hs:c.sum < d.sum):d∈(rise F M).drop (k+1):=by
 obtain⟨i,j⟩:=gK.mp hd;have m:k<i:=by
  refine Y76 ?_;have p:=(aC.mp h);have g:=(aC.mp j);obtain⟨r,l⟩:=p;obtain⟨n,e⟩:=g;rcases Nat.lt_or_eq_of_le (Nat.le_of_not_lt q)with a | a
  ·have:=(List.pairwise_iff_getElem.mp (pR F M)) i k n r a;rw[l,e]at this;exact Oo
  ·subst a;rw[l]at e;subst e;exact Oo
 refine gK.mpr (Y0p (i-(k+1)));rw[List.getElem?_drop,show k+1+(i-(k+1))=i by exact Oo];exact j
end Mf
namespace Mf
theorem DM:∀F:Nat,1<=F->cta F 0=[Ya]
 | 1,_=>rfl
 | F+2,_=>by
  unfold cta;rw[List.range_succ,List.range_zero,List.nil_append,List.flatMap_singleton,Nat.sub_zero,DM (F+1) Oo]
  rfl
def ZX{F m:Nat}(hF:1<=F){d:Ae}:d∈cta F (m+1) ↔ ∃c∈cta F m,∃j,j<F/\d=bT c j:=by
 constructor
 ·intro h;obtain⟨g,w⟩:=iU h;obtain⟨j,a,y⟩:∃j,j<d.length/\0<Y7T j:=by
   refine Y76 ?_;have z:d=Ydc d.length:=by
    refine List.eq_replicate_iff.mpr (Y0I (λx u=>?_));obtain⟨j,a⟩:=gK.mp u;have s:=(Y82).1;have:Y7T j=x:=by rw[aV,a];rfl
    refine cH λp=>q ⟨j,s,Oo⟩
   have:d.sum=0:=by rw[z];simp
   exact Oo
  have n:d[j]?=some (Y7T j):=by rw[aV,aB a];rfl
  have A:=GN d j (Y7T j-1) _ n;refine⟨d.set j (Y7T j-1),AZ hF (by rw[List.length_set];exact g) Oo,j,Oo,?_⟩;unfold bT;rw[aV (l:=d.set j _),List.getElem?_set_self a,List.set_set];show d=d.set j (Y7T j-1+1);rw[show d.getD j 0-1+1=d.getD j 0 by exact Oo];refine(Y8d);rw[List.getElem?_set];by_cases e:j=i
  ·subst e;rw[Yo,if_pos a];exact n
  ·rw[Y0L]
 ·rintro⟨c,r,j,a,rfl⟩;obtain⟨g,w⟩:=iU r;exact AZ hF (by rw[pI];exact g) (by rw[fX Oo];exact Oo)
def sF:∀F,F<=4->∀M,M<=5->(Y0i).Nodup:=Kk
def VD(f:Fr):Prop:=Y0b/\0<=f.1/\f.1<=999/\f.2<=999
def dens(l:Ak):Nat:=l.foldr (λf n=>f.2.natAbs*n) 1
theorem xR:∀{l:Ak},(∀f∈l,VD f)->0<dens l
 | [],_=>Nat.one_pos
 | f::l,h=>eM (by have:=(h f (aS ..)).1.pos;exact Oo) (xR λg hg=>h g (aY _ hg))
theorem RJ:∀{l:Ak},(∀f∈l,VD f)->dens l<=999^l.length
 | [],_=>aN _
 | f::l,h=>by
  have h1:=RJ λg e=>h g (aY f e);obtain⟨a,b,c,d⟩:=h f (aS ..);have:=a.pos;rw[cI,Nat.pow_succ,Nat.mul_comm];exact Nat.mul_le_mul (show f.2.natAbs<=999 by exact Oo) h1
theorem KQ:∀{l:Ak}{f:Fr},f∈l->f.2.natAbs ∣ dens l
 | g::l,f,h=>by
  rcases bK.mp h with rfl | h
  ·exact mL _ _
  ·exact Nat.dvd_trans (KQ h) (Nat.dvd_mul_left _ _)
def VD.fn{f:Fr}(h:VD f):Fn f.2.natAbs 999 f:=by
 obtain⟨a,b,c,d⟩:=h;have p:=a.pos;have:=Fn.of (n:=f.1) (d:=f.2) (B:=999) p (by
  have:1<=f.2.natAbs:=Oo;have:=dF 999 this;exact Oo)
 rwa [QF a]at this
def aCa{l:Ak}(h:∀f∈l,VD f):∀f∈l,Fn (dens l) 999 f:=λf a=>(h f a).fn.dvd (KQ a)
end Mf
namespace Mf
abbrev cW:=List Nat × Ak
def s0(e:cW):Rat:=cB e.2 0
def iI(F:Nat)(c d:Ae):Rat:=Y2Y (if Y5b=d then 1 else 0)
def aW(F:Nat)(es:Yh):Y01:=es.foldl (λg e=>λd=>g d+g e.1*Y2*Y2g e.1) (λd=>if d=Ya then 1 else 0)
def lO(F:Nat)(d:Ae):Y2f []=if d=Ya then 1 else 0:=rfl
def gJ(F:Nat)(l:Yh)(e:cW)(d:Ae):Y2f (l++[e])=Y2f l+Y0N l e.1*Y2*Y2g e.1:=by unfold aW;rw[List.foldl_append];rfl
def cV{α:Type}(l:Yv)(f:Y2X):Rat:=vD (l.map f)
def jI{α:Type}(f:Y2X):cV [] f=0:=rfl
def cZ{α:Type}(a:α)(l:Yv)(f:Y2X):cV (a::l) f=f a+Y42:=rfl
def JD{α:Type}(a b:Yv)(f:Y2X):cV (a++b) f=cV a f+cV b f:=by unfold cV;rw[bI,tQ]
def oP{α:Type}(l:Yv)(a:α)(f:Y2X):cV (l++[a]) f=Y42+f a:=by rw[JD,cZ,jI];grind
def cT{α:Type}{l:Yv}{f g:Y2X}(h:∀a∈l,f a=g a):Y42=cV l g:=by unfold cV;rw[fD h]
def jX{α:Type}(l:Yv)(f g:Y2X):YbH (f a+g a)=Y42+cV l g:=by
 induction l with
 | nil=>rw[jI,jI,jI];grind
 | cons a l ih=>rw[cZ,cZ,cZ,ih];grind
def lS{α:Type}(l:Yv)(x:Rat)(f:Y2X):YbH (x*f a)=x*Y42:=by
 induction l with
 | nil=>rw[jI,jI];grind
 | cons a l ih=>rw[cZ,cZ,ih];grind
def oN{α:Type}(l:Yv):cV l Y2V=0:=by
 induction l with
 | nil=>rfl
 | cons a l ih=>rw[cZ,ih];grind
def qL{α:Type}{l:Yv}{f g:Y2X}(h:∀a∈l,f a<=g a):Y42<=cV l g:=by
 induction l with
 | nil=>exact Rat.le_refl
 | cons a l ih =>
  have d:=h a (aS ..);have e:=ih λx c=>h x (aY _ c);rw[cZ,cZ];grind
def rX{α:Type}{l:Yv}{f:Y2X}(h:∀a∈l,0<=f a):0<=Y42:=by
 have:=qL (l:=l) (f:=Y2V) (g:=f) h
 rwa [oN]at this
def oO{α:Type}(l:Yv)(n:Nat)(f:α->Yw):YbH (bZ n (f a))=Y4k n (YbH (f a i)):=by
 induction l with
 | nil=>show 0=bZ n (Y2V);rw[gZ]
 | cons a l ih =>
  rw[cZ,ih,<-jW];exact bQ λi _=>rfl
def uM{es:Yh}(nd:(es.map (·.1)).Nodup){b:Ae}(hb:Y4f b (·.1))(Φ:Y01):Y8Z es ((if b=x.1 then 1 else 0)*Φ x.1)=Φ b:=by
 induction es with
 | nil=>cases hb
 | cons a es ih =>
  rw[bE,List.nodup_cons]at nd;rw[cZ];by_cases e:b=a.1
  ·rw[Y1w,e,cT (g:=Y2V) λx c=>?_,oN]
   ·grind
   ·rw[Y3H (nd.1 (by rw[q];exact Y3b x c))];grind
  ·rw[Y0L,ih nd.2 (by rw[bE]at hb;exact(bK.mp hb).resolve_left e)];grind
structure tG(F:Nat)(es:Yh):Prop where
 root:∃e r,es=e::r/\e.1=Ya
 len:∀e∈es,e.1.length=F
 nd:(es.map (·.1)).Nodup
 srt:es.Pairwise λa b=>a.1.sum<=b.1.sum
 fwd:∀e∈es,Y4C->∀f,f<F->Y4f (Y15 e.1) (·.1)
 bwd:∀d∈es.map (·.1),d≠List.replicate F 0->∃e∈es,s0 e≠0/\∃f,f<F/\bT e.1 f=d
 nn:∀e∈es,0<=Y2
section
variable{F:Nat}{es:Yh}
def CY{c d:Ae}(hc:Y30)(h:d.sum≠c.sum+1):Y5c=0:=by
 unfold iI;rw[Y4c 0 (λf a=>Y3H (h ?_)),gZ];rw[<-q,fX Oo]
theorem tG.at(R:Y1h){i:Nat}{e:cW}(h:es[i]?=Y7f):Y4d F i e.1=Y4 e.1:=by
 have c:∀k,Ybc (i+k)->Y4d F (i+k) e.1=Y4d F i e.1:=by
  intro k
  induction k with
  | zero=>intro _;rfl
  | succ k ih =>
   intro p;obtain⟨x,a⟩:∃x,es[i+k]?=Y8:=Y8e;have l:es.take (i+k+1)=es.take (i+k)++[x]:=by rw[jV,a];rfl
   rw[<-Nat.add_assoc,l,gJ,ih Oo,CY (R.len x (aE a)) ?_]
   ·grind
   ·obtain⟨j,g⟩:=aC.mp h;obtain⟨m,d⟩:=Y82;have:e.1.sum<=x.1.sum:=by
     by_cases q:k=0
     ·subst q;have:e=x:=by rw[<-g,<-d];rfl
      rw[this];exact Yq
     ·have:=(List.pairwise_iff_getElem.mp R.srt) i (i+k) j m Oo
      rwa [g,d]at this
    exact Oo
 have n:=(aC.mp h).1;have:=c (es.length-i) Oo;rw[show i+(es.length-i)=es.length by exact Oo,dL]at this;exact this.symm
def tG.cons(R:Y1h)(Φ:Y01):∀n,Ybc n->Y8Z es (Y4d F n x.1*Φ x.1)=Φ (Ya)+Y7z YcW (Y4 e.1*Y2*Y2Y (Φ (Y15 e.1))):=by
 intro n
 induction n with
 | zero =>
  intro _;rw[List.take_zero,jI];obtain⟨e,r,a,c⟩:=R.root;have:=uM R.nd (b:=Ya) (by rw[a,<-c];exact aS ..) Φ;rw[cT (g:=λx=>(if Ya=x.1 then 1 else 0)*Φ x.1) λx _=>?_,this]
  ·grind
  ·rw[lO];by_cases q:x.1=Ya
   ·rw[Y5A,if_pos q.symm]
   ·rw[Y2D,Y2c (q z.symm)]
 | succ n ih =>
  intro l;obtain⟨e,a⟩:∃x,es[n]?=Y8:=Y8e;have j:es.take (n+1)=YcW++[e]:=by rw[jV,a];rfl
  have h:=aE a;rw[j,oP,<-Rat.add_assoc,<-ih Oo];rw[cT (g:=λx=>Y4d F n x.1*Φ x.1+Y4 e.1*Y2*(iI F e.1 x.1*Φ x.1)) λx _=>by rw[gJ,R.at a];grind];rw[jX,lS];by_cases z:Y2=0
  ·rw[z];grind
  ·congr 2;have:(λx:cW=>iI F e.1 x.1*Φ x.1)=λx=>Y2Y ((if Y15 e.1=x.1 then 1 else 0)*Φ x.1):=by
    funext x
    unfold iI;rw[Rat.mul_comm,<-eE];exact bQ λi _=>Rat.mul_comm _ _
   rw[this,oO];exact bQ λf d=>uM R.nd (R.fwd e h z f d) Φ
def tG.all(R:Y1h)(Φ:Y01):Y8Z es (Y4 x.1*Φ x.1)=Φ (Ya)+Y0u (Y4 e.1*Y2*Y2Y (Φ (Y15 e.1))):=by
 have:=R.cons Φ es.length (Yq)
 rwa [dL]at this
def ZF(F:Nat)(c d:Ae):0<=Y5c:=rW λf _=>by split <;> grind
def tG.fnn(R:Y1h):∀n,Ybc n->∀d,0<=Y4d F n d:=by
 intro n
 induction n with
 | zero=>intro _ d;rw[List.take_zero,lO];split <;> grind
 | succ n ih =>
  intro i d;obtain⟨e,a⟩:∃x,es[n]?=Y8:=Y8e;have c:es.take (n+1)=YcW++[e]:=by rw[jV,a];rfl
  rw[c,gJ];have h:=ih Oo d;have g:=ih Oo e.1;have j:=cA (cA g (R.nn e (aE a))) (ZF F e.1 d);grind
def tG.nnf(R:Y1h)(d:Ae):0<=Y4 d:=by
 have:=R.fnn es.length (Yq) d
 rwa [dL]at this
def tG.pos(R:Y1h):∀(k:Nat) (d:Ae),Y4f d (·.1)->d.sum<=k->0<Y4 d:=by
 have m:∀d∈es.map (·.1),Y4 d=(if d=Ya then 1 else 0)+Y0u (Y4 e.1*Y2*Y2g e.1):=λd hd=>by
  have h:=R.all λx=>if d=x then 1 else 0
  have B:=uM R.nd hd (aW F es);have I:Y8Z es (Y4 x.1*(if d=x.1 then 1 else 0))=Y4 d:=by rw[<-B];exact cT λx _=>Rat.mul_comm _ _
  rw[<-I,h];congr 1;exact cT λe _=>by
   congr 1;unfold iI;exact bQ λf _=>by
    by_cases q:d=Y15 e.1
    ·rw[Y5A,if_pos q.symm]
    ·rw[Y2D,Y2c (q z.symm)]
 have s:∀d,∀e∈es,0<=Y4 e.1*Y2*Y2g e.1:=λd e a=>cA (cA (R.nnf _) (R.nn e a)) (ZF F e.1 d);intro k
 induction k with
 | zero =>
  intro d hd A;have p:d=Ya:=by
   refine Y76 ?_;obtain⟨e,a,_,f,r,rfl⟩:=R.bwd d hd q;rw[fX (by rw[Yad a];exact r)]at A;exact Oo
  rw[m d hd,if_pos p];have:=rX (s d);grind
 | succ k ih =>
  intro d hd A;by_cases p:d=Ya
  ·rw[m d hd,if_pos p];have:=rX (s d);grind
  ·obtain⟨e,a,O,f,r,rfl⟩:=R.bwd d hd p;have bs:=fX (c:=e.1) (j:=f) (by rw[Yad a];exact r);have C:=ih e.1 (Y3b e a) Oo;have w:0<Y2:=by have:=R.nn e a;grind
   have N:1<=iI F e.1 (Y15 e.1):=by
    unfold iI;have B:=lJ (n:=F) (f:=λi=>if i=f then 1 else 0) (g:=λi=>if bT e.1 i=Y15 e.1 then 1 else 0) λi _=>by
     by_cases q:i=f
     ·subst q;rw[Yo,Yo];exact Rat.le_refl
     ·rw[Y2D];split <;> grind
    have G:=tP (n:=F) (λi=>if i=f then(1:Rat) else 0) r;have J:Y4k F (if i=f then 0 else if i=f then(1:Rat) else 0)=0:=by
     rw[Y4c 0 (λi _=>?_),gZ];by_cases q:i=f
     ·rw[Y5A]
     ·rw[Y2D,Y2D]
    rw[Yo,J]at G;grind
   have one:0<Y4 e.1*Y2*iI F e.1 (Y15 e.1):=Rat.mul_pos (Rat.mul_pos C w) (by grind);rw[m _ hd,if_neg p];have:Y4 e.1*Y2*iI F e.1 (Y15 e.1)<=cV es λy=>Y4 y.1*s0 y * iI F y.1 (Y15 e.1):=by
    obtain⟨D,L,rfl⟩:=List.append_of_mem a;rw[JD,cZ];have M:=rX (l:=D) λx u=>s (Y15 e.1) x (cM _ u);have P:=rX (l:=L) λx u=>s (Y15 e.1) x (cL _ (aY _ u));grind
   grind
def tG.posf(R:Y1h){e:cW}(h:Y6y e):0<Y4 e.1:=R.pos _ e.1 (Y3b e h) (Yq)
def Qn.one'(N:Nat):Qn N 1 1:=⟨N,by rw[sI];grind,by simp⟩
def tG.qn(R:Y1h){N:Nat}(hN:∀e∈es,Qn N 1 Y2)(f4:F<=4):∀n,Ybc n->∀d,Qn (N^d.sum) (5^n) (Y4d F n d):=by
 intro n
 induction n with
 | zero =>
  intro _ d;rw[List.take_zero,lO];split
  ·exact Qn.one' _
  ·exact Y7P _
 | succ n ih =>
  intro r d;obtain⟨e,a⟩:∃x,es[n]?=Y8:=Y8e;have j:es.take (n+1)=YcW++[e]:=by rw[jV,a];rfl
  rw[j,gJ];have c:=ih Oo d;have h:=aE a;have p:5^(n+1)=5*5^n:=by rw[Nat.pow_succ];exact Oo
  by_cases hs:d.sum=e.1.sum+1
  ·have l:=(ih Oo e.1).mul (hN e h);have m:Qn 1 4 (Y2g e.1):=by
    have:=Qn.sumR (N:=1) (B:=1) (n:=F) (f:=λf=>if Y15 e.1=d then 1 else 0) λf _=>by
     split
     ·exact Qn.one' _
     ·exact Y7P _
    exact this.le Oo
   have g:=l.mul m;have i:N^e.1.sum*N=N^d.sum:=by rw[hs,Nat.pow_succ]
   rw[Nat.mul_one,i]at g;exact(c.add g).le Oo
  ·rw[CY (Yad h) hs];have:Y4d F n d+Y4d F n e.1*Y2*0=Y4d F n d:=by grind
   rw[this];exact c.le Oo
end
def sZ(zs:Y4r):Rat:=zs.foldr (λz p=>rv z.1^z.2*p) 1
theorem PN:∀(zs:Y4r) (p:Fr),eJ p->(∀z∈zs,eJ z.1)->rv (zs.foldl (λp q=>mZ p (zX q.1 q.2)) p)=rv p*sZ zs
 | [],p,_,_=>by show rv p=rv p*1;grind
 | z::zs,p,hp,h=>by
  have hz:=h z (aS ..);have a:=pF hz z.2;rw[List.foldl_cons,PN zs _ (iM hp a) λy c=>h y (aY _ c),kP hp.pos a.pos,XC hz];show _=rv p*(rv z.1^z.2*sZ zs);grind
def AI{fs:Ak}(h:∀f∈fs,Y0b)(c:Ae):wq fs c=Ycy c:=by
 unfold wq nX;rw[PN _ _ NL λz d=>h z.1 (Ydh z.1 z.2).1];show rv (1,1)*_=_;rw[sD];grind
theorem yI:∀(fs:Ak) (c:Ae) (j:Nat),Ya3 j->Y6S c.length->Ycy (bT c j)=Ycy c*cB fs j
 | [],c,j,h,_=>by simp at h
 | f::fs,[],j,_,h=>by simp at h
 | f::fs,n::c,0,_,_=>by
  show rv f^(n+1)*sZ (fs.zip c)=(rv f^n*sZ (fs.zip c))*rv f;rw[Rat.pow_succ];grind
 | f::fs,n::c,j+1,hj,hl=>by
  have ih:=yI fs c j (by simpa using hj) (by simpa using hl);have e:bT (n::c) (j+1)=n::bT c j:=by unfold bT;rw[List.set_cons_succ];rfl
  have a:cB (f::fs) (j+1)=cB fs j:=rfl;rw[e,a,List.zip_cons_cons,List.zip_cons_cons];show rv f^n*sZ (fs.zip (bT c j))=(rv f^n*sZ (fs.zip c))*cB fs j;rw[ih];grind
theorem yH:∀(fs:Ak) (n:Nat),Ycy (Ydc n)=1
 | [],n=>by rfl
 | f::fs,0=>by rfl
 | f::fs,n+1=>by
  rw[List.replicate_succ,List.zip_cons_cons];show rv f^0*sZ (fs.zip (List.replicate n 0))=1;rw[yH fs n,Rat.pow_zero];grind
def pL(fs:Ak):vD (YcV)=Y6t fs.length fs:=by
 unfold bZ;congr 1;refine Y8d;rw[aF,aF];by_cases hi:Ya3 i
 ·rw[bL hi,aB hi];show Y7g=some (cB fs i);unfold cB;rw[aV,aB hi];rfl
 ·rw[bS Oo,bS (by rw[aT];exact Oo)];rfl
def aDl{fs:Ak}(h:∀f∈fs,Y0b)(h1:vD (YcV)=1){c:Ae}(hc:c.length=fs.length):wq fs c=Yap fs.length (wq fs (Y5b)):=by
 rw[AI h];rw[bQ (g:=λf=>Ycy c*cB fs f) λf a=>by rw[AI h,yI fs c f a hc.symm]];rw[eE,<-pL,h1];grind
def aAS{fs:Ak}(h:∀f∈fs,Y0b)(n:Nat):wq fs (Ydc n)=1:=by rw[AI h,yH]
section
variable{F W M:Nat}{es:Yh}{q:Nat->Y01}{mix ps cs:Yw}
def fZ(F:Nat)(es:Yh)(q:Y01)(w:Nat):Rat:=Y0u (Y4 e.1*q e.1*Y5f e.2)
def gA(F:Nat)(es:Yh)(q:Y01)(cs:Yw):Rat:=Y0u (cs e.1.sum*(Y4 e.1*q e.1*Y2))
def fS(F W:Nat)(es:Yh)(q:Nat->Y01)(mix cs:Yw):Rat:=Y0a (mix w*gA F es (q w) cs)
def yJ(F W:Nat)(es:Yh)(q:Nat->Y01)(mix ps cs:Yw):Rat:=fS F W es q mix cs+Y0a (Y0n*(1-Y5Q F w w))
def tG.stops(R:Y1h){q:Y01}(h0:q (Ya)=1)(h1:∀c,Y30->q c=Y2Y (q (Y5b))):Y0u (Y4 e.1*q e.1*(1-Y2))=1:=by
 have h:=R.all q;rw[h0]at h;have e:Y0u (Y4 e.1*Y2*Y2Y (q (Y15 e.1)))=Y0u (Y4 e.1*q e.1*Y2):=cT λe a=>by rw[<-h1 e.1 (Yad a)];grind
 rw[e]at h;have d:Y0u (Y4 e.1*q e.1*(1-Y2))+Y0u (Y4 e.1*q e.1*Y2)=Y8Z es (Y4 x.1*q x.1):=by
  rw[<-jX];exact Y6i (by grind)
 grind
def VQ(W F:Nat)(q:Nat->Y01)(mix ps cs:Yw)(n:Nat)(c:Ae){v:Nat}(hv:v<W):qG W F q mix ps cs n c<=Y0a (Y0n*q w c)-Y1J*q v c:=by
 cases n with
 | zero=>exact uV (qZ.mpr (Y1t v hv))
 | succ n=>exact uV (cM _ (qZ.mpr (Y1t v hv)))
def aAU(W F:Nat)(q:Nat->Y01)(mix ps cs:Yw)(n:Nat)(c:Ae):qG W F q mix ps cs (n+1) c<=cs c.sum*Y0h (mix v*q v c)+bZ F (λj=>qG W F q mix ps cs n (bT c j)):=uV (Yb5 _ rfl)
def XR(R:Y1h)(hM:∀e∈es,e.1.sum<=M)(on:∀e∈es,Y4C->e.1.sum<M)(h0:∀w,w<W->q w (Ya)=1)(h1:∀w,w<W->∀c,Y30->q w c=Y2Y (q w (Y5b)))
  (hs:∀e∈es,(∀v,0<=cB e.2 v)/\Y0h (Y0l e.2)=1-Y2):qG W F q mix ps cs M (Ya)<=yJ F W es q mix ps cs:=by
 let V:Y01:=λc=>qG W F q mix ps cs (Y2P) c
 have one:∀e∈es,V e.1<=Y2*(cs e.1.sum*Y0h (mix v*q v e.1))+Y2*Y78 e.1+((1-Y2)*Y0a (Y0n*q w e.1)-Y0h (Y0l e.2*(Y1J*q v e.1))):=by
  intro e i;obtain⟨p,a⟩:=hs e i;have says:(1-Y2)*V e.1<=(1-Y2)*Y0a (Y0n*q w e.1)-Y0h (Y0l e.2*(Y1J*q v e.1)):=by
   have h:=lJ (n:=W) (f:=λv=>Y0l e.2*V e.1) (g:=λv=>Y0l e.2*(Y0a (Y0n*q w e.1)-Y1J*q v e.1)) λv B=>Rat.mul_le_mul_of_nonneg_left (VQ W F q mix ps cs _ _ B) (p _);rw[bQ (g:=λv=>V e.1*Y0l e.2) λv _=>Rat.mul_comm _ _,eE,a]at h;have s:Y0h (Y0l e.2*(Y0a (Y0n*q w e.1)-Y1J*q v e.1))=(1-Y2)*Y0a (Y0n*q w e.1)-Y0h (Y0l e.2*(Y1J*q v e.1)):=by
    generalize bZ W (λw=>ps w*q w e.1)=D;have O:Y0h (Y0l e.2*(D-Y1J*q v e.1))+Y0h (Y0l e.2*(Y1J*q v e.1))=D*Y0h (Y0l e.2):=by
     rw[<-jW,<-eE];exact bQ λv _=>by grind
    rw[a]at O;grind
   rw[s]at h;grind
  by_cases z:Y2=0
  ·rw[z]at says ⊢;grind
  ·have A:=on e i z;obtain⟨n,C⟩:∃n,M-e.1.sum=n+1:=Y2q (M-e.1.sum-1);have look:V e.1<=cs e.1.sum*Y0h (mix v*q v e.1)+Y78 e.1:=by
    show qG W F q mix ps cs (M-e.1.sum) e.1<=_;rw[C];refine Ycc (aAU W F q mix ps cs n e.1);have G:bZ F (λj=>qG W F q mix ps cs n (bT e.1 j))=Y78 e.1:=bQ λf y=>by
     show _=qG W F q mix ps cs (M-(Y15 e.1).sum) (Y15 e.1);rw[fX (by rw[Yad i];exact y),show M-(e.1.sum+1)=n by exact Oo]
    rw[G];exact Rat.le_refl
   have L:=Rat.mul_le_mul_of_nonneg_left look (R.nn e i);grind
 have all:=R.all V;have sum1:=qL (l:=es) λe i=>Rat.mul_le_mul_of_nonneg_left (one e i) (R.nnf e.1);have m:V (Ya)=qG W F q mix ps cs M (Ya):=by
  show qG W F q mix ps cs (M-(Ya).sum) _=_;rw[show(List.replicate F 0).sum=0 by simp,Nat.sub_zero]
 rw[all,m]at sum1;have d:Y0u (Y4 e.1*(Y2*(cs e.1.sum*Y0h (mix v*q v e.1))+Y2*Y78 e.1+((1-Y2)*Y0a (Y0n*q w e.1)-Y0h (Y0l e.2*(Y1J*q v e.1))))) =
   fS F W es q mix cs+Y0u (Y4 e.1*Y2*Y78 e.1)+Y0a (Y0n*(1-Y5Q F w w)):=by
  have u:fS F W es q mix cs=Y0u (Y4 e.1*(Y2*(cs e.1.sum*Y0h (mix v*q v e.1)))):=by
   unfold fS gA;rw[YcJ (Y0u (mix w*(cs e.1.sum*(Y4 e.1*q w e.1*Y2)))) (λw _=>(lS _ _ _).symm),<-oO];refine Y6i ?_;rw[<-eE,<-eE,<-eE];exact Y7U (by grind)
  have I:Y0a (Y0n*(1-Y5Q F w w))=Y0u (Y4 e.1*((1-Y2)*Y0a (Y0n*q w e.1)-Y0h (Y0l e.2*(Y1J*q v e.1)))):=by
   have k:∀w,w<W->Y0n*(1-Y5Q F w w)=Y0u (Y0n*(Y4 e.1*q w e.1*(1-Y2)-Y4 e.1*q w e.1*Y5f e.2)):=λw r=>by
    rw[lS];congr 1;have h:=R.stops (h0 w r) (h1 w r);have L:Y0u (Y4 e.1*q w e.1*(1-Y2)-Y4 e.1*q w e.1*Y5f e.2)+Y5Q F w w=Y0u (Y4 e.1*q w e.1*(1-Y2)):=by
     unfold fZ;rw[<-jX];exact Y6i (by grind)
    grind
   rw[bQ k,<-oO];refine Y6i ?_;have N:(1-Y2)*Y0a (Y0n*q w e.1)=Y0a ((1-Y2)*(Y0n*q w e.1)):=(eE _ _ _).symm;have P:Y0a ((1-Y2)*(Y0n*q w e.1)-Y5f e.2*(Y0n*q w e.1))+Y0h (Y0l e.2*(Y1J*q v e.1))=Y0a ((1-Y2)*(Y0n*q w e.1)):=by
    rw[<-jW];exact Y7U (by grind)
   have J:(1-Y2)*Y0a (Y0n*q w e.1)-Y0h (Y0l e.2*(Y1J*q v e.1))=Y0a ((1-Y2)*(Y0n*q w e.1)-Y5f e.2*(Y0n*q w e.1)):=by rw[N];grind
   rw[J,<-eE];exact Y7U (by grind)
  rw[u,I,<-jX,<-jX];exact Y6i (by grind)
 rw[d]at sum1;unfold yJ;grind
end
end Mf
namespace Mf
section
variable{F W:Nat}{es:Yh}{q:Nat->Y01}{mix ps cs:Yw}
def qJ{n v:Nat}{f:Yw}(hv:v<n)(h:∀i,i<n->i≠v->f i=0):bZ n f=f v:=by
 have c:=tP (n:=n) f hv;have d:Y4k n (if i=v then 0 else f i)=0:=by
  rw[Y4c 0 YcI,gZ];by_cases e:i=v
  ·rw[Y1w]
  ·rw[Y0L,h i a e]
 rw[d]at c;grind
def aAC(F W:Nat)(q:Nat->Y01)(mix ps cs:Yw)(V:Y01)(e:cW):Prop :=
 (Y2=1/\(∀v,v<W->Y0l e.2=0)/\V e.1=cs e.1.sum*Y0h (mix v*q v e.1)+Y78 e.1) \/
 ∃v,v<W/\Y2=0/\Y0l e.2=1/\(∀u,u<W->u≠v->cB e.2 (1+u)=0)/\V e.1=Y0a (Y0n*q w e.1)-Y1J*q v e.1
def XS(R:Y1h)(V:Y01)(h0:∀w,w<W->q w (Ya)=1)(h1:∀w,w<W->∀c,Y30->q w c=Y2Y (q w (Y5b)))
  (hb:∀e∈es,aAC F W q mix ps cs V e):V (Ya)=yJ F W es q mix ps cs:=by
 have one:∀e∈es,V e.1=Y2*(cs e.1.sum*Y0h (mix v*q v e.1))+Y2*Y78 e.1+((1-Y2)*Y0a (Y0n*q w e.1)-Y0h (Y0l e.2*(Y1J*q v e.1))):=by
  intro e m;rcases hb e m with⟨a,b,c⟩ | ⟨v,s,a,b,d,c⟩
  ·have n:Y0h (Y0l e.2*(Y1J*q v e.1))=0:=by
    rw[Y4c 0 (λi l=>by rw[b i l];grind),gZ]
   rw[n,a,c];grind
  ·have n:Y0h (Y0l e.2*(Y1J*q v e.1))=Y1J*q v e.1:=by
    rw[qJ s λi l u=>by rw[d i l u];grind,b];grind
   rw[n,a,c];grind
 have all:=R.all V;have sum1:Y8Z es (Y4 x.1*V x.1)=Y0u (Y4 e.1*(Y2*(cs e.1.sum*Y0h (mix v*q v e.1))+Y2*Y78 e.1+((1-Y2)*Y0a (Y0n*q w e.1)-Y0h (Y0l e.2*(Y1J*q v e.1))))):=cT λe m=>by rw[<-one e m]
 rw[all]at sum1;have j:Y0u (Y4 e.1*(Y2*(cs e.1.sum*Y0h (mix v*q v e.1))+Y2*Y78 e.1+((1-Y2)*Y0a (Y0n*q w e.1)-Y0h (Y0l e.2*(Y1J*q v e.1))))) =
   fS F W es q mix cs+Y0u (Y4 e.1*Y2*Y78 e.1)+Y0a (Y0n*(1-Y5Q F w w)):=by
  have r:fS F W es q mix cs=Y0u (Y4 e.1*(Y2*(cs e.1.sum*Y0h (mix v*q v e.1)))):=by
   unfold fS gA;rw[YcJ (Y0u (mix w*(cs e.1.sum*(Y4 e.1*q w e.1*Y2)))) (λw _=>(lS _ _ _).symm),<-oO];refine Y6i ?_;rw[<-eE,<-eE,<-eE];exact Y7U (by grind)
  have y:Y0a (Y0n*(1-Y5Q F w w))=Y0u (Y4 e.1*((1-Y2)*Y0a (Y0n*q w e.1)-Y0h (Y0l e.2*(Y1J*q v e.1)))):=by
   have k:∀w,w<W->Y0n*(1-Y5Q F w w)=Y0u (Y0n*(Y4 e.1*q w e.1*(1-Y2)-Y4 e.1*q w e.1*Y5f e.2)):=λw p=>by
    rw[lS];congr 1;have h:=R.stops (h0 w p) (h1 w p);have C:Y0u (Y4 e.1*q w e.1*(1-Y2)-Y4 e.1*q w e.1*Y5f e.2)+Y5Q F w w=Y0u (Y4 e.1*q w e.1*(1-Y2)):=by
     unfold fZ;rw[<-jX];exact Y6i (by grind)
    grind
   rw[bQ k,<-oO];refine Y6i ?_;have A:(1-Y2)*Y0a (Y0n*q w e.1)=Y0a ((1-Y2)*(Y0n*q w e.1)):=(eE _ _ _).symm;have B:Y0a ((1-Y2)*(Y0n*q w e.1)-Y5f e.2*(Y0n*q w e.1))+Y0h (Y0l e.2*(Y1J*q v e.1))=Y0a ((1-Y2)*(Y0n*q w e.1)):=by
    rw[<-jW];exact Y7U (by grind)
   have z:(1-Y2)*Y0a (Y0n*q w e.1)-Y0h (Y0l e.2*(Y1J*q v e.1))=Y0a ((1-Y2)*(Y0n*q w e.1)-Y5f e.2*(Y0n*q w e.1)):=by rw[A];grind
   rw[z,<-eE];exact Y7U (by grind)
  rw[r,y,<-jX,<-jX];exact Y6i (by grind)
 rw[j]at sum1;unfold yJ;grind
end
end Mf
namespace Md
def dX:Nat->Y0->Int
 | 0,_=>0
 | n+1,f=>dX n f+f n
def eG{n:Nat}{f g:Y0}(h:∀i,i<n->f i=g i):dX n f=dX n g:=by
 induction n with
 | zero=>rfl
 | succ n ih=>rw[dX,dX,ih λi a=>h i Oo,h n Oo]
def nN(n:Nat)(f g:Y0):Y3u (f i+g i)=dX n f+dX n g:=by
 induction n with
 | zero=>rfl
 | succ n ih=>rw[dX,dX,dX,ih];exact Oo
def iG(n:Nat)(a:Int)(f:Y0):Y3u (a*f i)=a*dX n f:=by
 induction n with
 | zero=>simp[dX]
 | succ n ih=>rw[dX,dX,ih,Int.mul_add]
def yC(n:Nat):dX n (Y2V)=0:=by
 induction n with
 | zero=>rfl
 | succ n ih=>rw[dX,ih];rfl
def jY{n:Nat}{f:Y0}{w:Nat}(hw:w<n)(h:∀i,i<n->i≠w->f i=0):dX n f=f w:=by
 induction n with
 | zero=>exact Oo
 | succ n ih =>
  rw[dX];by_cases e:w=n
  ·subst e;rw[eG (g:=Y2V) λi a=>h i Oo Oo,yC];exact Oo
  ·rw[ih Oo λi a ne=>h i Oo ne,h n Oo (Y5G z.symm)];exact Oo
def JE{n:Nat}{f:Y0}{v w:Nat}(hv:v<n)(hw:w<n)(ne:v≠w)(h:∀i,i<n->i≠v->i≠w->f i=0):dX n f=f v+f w:=by
 have d:dX n f=Y3u (if i=v then f v else 0)+Y3u (if i=v then 0 else f i):=by
  rw[<-nN];refine eG λi _=>?_;by_cases e:i=v
  ·simp[e]
  ·simp[e]
 rw[d,jY hv (f:=λi=>if i=v then f v else 0) (λi _ a=>if_neg a),jY hw (f:=λi=>if i=v then 0 else f i) (λi c a=>?_)]
 ·simp[ne.symm]
 ·by_cases e:i=v
  ·simp[e]
  ·simp[e,h i c e a]
def EQ(n m:Nat)(f:Nat->Y0):Y3u (dX m (f i))=Y4V m (Y3u (f i j)):=by
 induction n with
 | zero=>rw[dX];exact(yC m).symm
 | succ n ih=>rw[dX,ih,<-nN];rfl
def sgn(j:Nat):Int:=if j % 2=0 then 1 else -1
def WY(j:Nat):sgn (j+1)=- sgn j:=by
 unfold sgn;rcases Nat.mod_two_eq_zero_or_one j with h | h
 ·rw[Y3K,if_neg (show ¬(j+1) % 2=0 by exact Oo)]
 ·rw[if_neg (show ¬j % 2=0 by exact Oo),if_pos (show(j+1) % 2=0 by exact Oo)];rfl
def skip(j i:Nat):Nat:=if i<j then i else i+1
abbrev fG:=Nat->Y0
def wo(B:fG)(j:Nat):fG:=λi=>B (skip j i)
def det:Nat->fG->Int
 | 0,_=>1
 | n+1,B=>dX (n+1) λj=>sgn (j+n)*B j n*det n (wo B j)
def st(B:fG)(i:Nat)(u:Y0):fG:=λj=>if j=i then u else B j
def iK(B:fG)(i:Nat)(u:Y0):st B i u i=u:=Yo
def lT{B:fG}{i j:Nat}{u:Y0}(h:j≠i):st B i u j=B j:=Y3L
def uO(B:fG)(i:Nat):st B i (B i)=B:=by
 funext j;unfold st;split
 ·rename_i h;rw[h]
 ·rfl
theorem yR:∀{n:Nat}{B C:fG},(∀j,j<n->∀r,r<n->B j r=C j r)->det n B=det n C
 | 0,_,_,_=>rfl
 | n+1,B,C,h=>by
  refine eG λj hj=>?_;rw[h j hj n Oo,yR (n:=n) (B:=wo B j) (C:=wo C j) λi hi r hr=>h (skip j i) (by unfold skip;split <;> exact Oo) r Oo]
def vR(B:fG)(j:Nat)(u:Y0):wo (st B j u) j=wo B j:=by
 funext i
 show st B j u (skip j i)=B (skip j i);exact lT (by unfold skip;split <;> exact Oo)
def unsk(j c:Nat):Nat:=if c<j then c else c-1
def yF{j c:Nat}(h:c≠j):skip j (unsk j c)=c:=by
 unfold skip unsk;by_cases e:c<j
 ·rw[Y1w,Y1w]
 ·rw[Y0L,Y2l];exact Oo
def WW{j a b:Nat}(h:skip j a=skip j b):a=b:=by
 unfold skip at h;split at h <;> split at h <;> exact Oo
def BM{B:fG}{j c:Nat}{u:Y0}(h:c≠j):wo (st B c u) j=st (wo B j) (unsk j c) u:=by
 funext i
 show st B c u (skip j i)=_;by_cases e:i=unsk j c
 ·subst e;rw[yF h,iK,iK]
 ·rw[lT e,lT (Y5G (WW (by rw[z,yF h])))];rfl
def aA0{n j c:Nat}(hc:c<n+1)(hj:j<n+1)(h:c≠j):unsk j c<n:=by
 unfold unsk;split <;> exact Oo
theorem HV:∀{n:Nat}(B:fG) {c:Nat},c<n->∀(a b:Int) (u v:Y0),Y63 n B c (λr=>a*u r+b*v r)=a*Y63 n B c u+b*Y63 n B c v
 | 0,_,_,h,_,_,_,_=>Oo
 | n+1,B,c,hc,a,b,u,v=>by
  show dX (n+1) _=a*dX (n+1) _+b*dX (n+1) _;rw[<-iG,<-iG,<-nN];refine eG λj hj=>?_;by_cases e:c=j
  ·subst e;rw[iK,iK,iK,vR,vR,vR];grind
  ·rw[lT (λz=>e z.symm),lT (λz=>e z.symm),lT (λz=>e z.symm),BM e,BM e,BM e,HV (wo B j) (aA0 hc hj e) a b u v];grind
theorem HW:∀{n:Nat}{B:fG}{c:Nat},c+1<n->B c=B (c+1)->det n B=0
 | 0,_,_,h,_=>Oo
 | n+1,B,c,hc,e=>by
  show dX (n+1) _=0;rw[JE (v:=c) (w:=c+1) Oo hc Oo λj hj n1 n2=>?_]
  ·have ew:wo B c=wo B (c+1):=by
    funext i
    show B (skip c i)=B (skip (c+1) i);unfold skip;by_cases h1:i<c
    ·rw[if_pos h1,if_pos Oo]
    ·by_cases h2:i=c
     ·subst h2;rw[if_neg h1,if_pos Oo,e]
     ·rw[if_neg h1,if_neg Oo]
   rw[ew,e,show c+1+n=c+n+1 by exact Oo,WY];grind
  ·rw[HW (n:=n) (B:=wo B j) (c:=unsk j c) ?_ ?_]
   ·exact Oo
   ·unfold unsk;split <;> exact Oo
   ·show B (skip j (unsk j c))=B (skip j (unsk j c+1));rw[yF (λz=>n1 z.symm),e];congr 1;unfold skip unsk;split <;> split <;> exact Oo
def oZ{B:fG}{i j:Nat}{u v:Y0}(h:i≠j):st (st B i u) j v=st (st B j v) i u:=by
 funext k;unfold st
 by_cases e:k=j
 ·have:¬k=i:=λz=>h (z.symm.trans e);rw[Y1w,if_neg this,Y1w]
 ·rw[Y0L];by_cases e2:k=i
  ·rw[if_pos e2,if_pos e2]
  ·rw[if_neg e2,if_neg e2,Y0L]
def xQ{n:Nat}(B:fG){c:Nat}(hc:c<n)(u v:Y0):Y63 n B c (λr=>u r+v r)=Y63 n B c u+Y63 n B c v:=by
 have:=HV B hc 1 1 u v;simpa using this
def DK{n:Nat}(B:fG){c:Nat}(hc:c<n)(a:Int)(u:Y0):Y63 n B c (λr=>a*u r)=a*Y63 n B c u:=by
 have:=HV B hc a 0 u u;simpa using this
def UM{n:Nat}(B:fG){c:Nat}(hc:c+1<n)(u v:Y0):Y2H n B c u (c+1) v=- Y2H n B c v (c+1) u:=by
 have a:∀x:Nat->Int,Y2H n B c x (c+1) x=0:=λx=>HW hc (by rw[lT Oo,iK,iK]);have h:=a λr=>u r+v r;have e:Y2H n B c (λr=>u r+v r) (c+1) (λr=>u r+v r)=Y2H n B c (λr=>u r+v r) (c+1) u+Y2H n B c (λr=>u r+v r) (c+1) v:=xQ _ hc _ _;have d:∀y:Nat->Int,Y2H n B c (λr=>u r+v r) (c+1) y=Y2H n B c u (c+1) y+Y2H n B c v (c+1) y:=λy=>by
  rw[oZ Oo,oZ (i:=c) (j:=c+1) Oo,oZ (i:=c) (j:=c+1) Oo];exact xQ _ Oo _ _
 rw[e,d,d,a,a]at h;exact Oo
theorem HU{n:Nat}:∀(d:Nat) {B:fG}{i:Nat},i+d+1<n->B i=B (i+d+1)->det n B=0
 | 0,B,i,h,e=>HW h e
 | d+1,B,i,h,e=>by
  have e1:B=st (st B (i+d+1) (B (i+d+1))) (i+d+1+1) (B (i+d+1+1)):=by rw[uO,uO]
  rw[e1,UM B Oo,HU d (B:=st (st B (i+d+1) (B (i+d+1+1))) (i+d+1+1) (B (i+d+1))) (i:=i) Oo ?_]
  ·rfl
  ·rw[lT Oo,lT Oo,lT Oo,iK];exact e
def yS{n:Nat}{B:fG}{i j:Nat}(hi:i<n)(hj:j<n)(h:i≠j)(e:B i=B j):det n B=0:=by
 rcases Nat.lt_or_gt_of_ne h with q | q
 ·obtain⟨d,rfl⟩:∃d,j=i+d+1:=Y2q (j-i-1);exact HU d hj e
 ·obtain⟨d,rfl⟩:∃d,i=j+d+1:=Y2q (i-j-1);exact HU d hi e.symm
def ZT{n:Nat}(B:fG){i j:Nat}(hi:i<n)(hj:j<n)(h:i≠j)(u v:Y0):Y2H n B i u j v=- Y2H n B i v j u:=by
 have a:∀x:Nat->Int,Y2H n B i x j x=0:=λx=>yS hi hj h (by rw[lT h,iK,iK]);have d:=a λr=>u r+v r;have e:Y2H n B i (λr=>u r+v r) j (λr=>u r+v r)=Y2H n B i (λr=>u r+v r) j u+Y2H n B i (λr=>u r+v r) j v:=xQ _ hj _ _;have c:∀y:Nat->Int,Y2H n B i (λr=>u r+v r) j y=Y2H n B i u j y+Y2H n B i v j y:=λy=>by
  rw[oZ h,oZ (i:=i) (j:=j) h,oZ (i:=i) (j:=j) h];exact xQ _ hi _ _
 rw[e,c,c,a,a]at d;exact Oo
theorem RI{n:Nat}(B:fG){c:Nat}(hc:c<n)(k:Y0)(v:Nat->Y0):∀m:Nat,Y63 n B c (λr=>Y4V m (k j*v j r))=Y4V m (k j*Y63 n B c (v j))
 | 0=>by
  have:=DK B hc 0 λ_=>0;simp only[Int.zero_mul]at this;show det n (st B c λ_=>0)=0;exact this
 | m+1=>by
  show det n (st B c λr=>(dX m λj=>k j*v j r)+k m*v m r)=_;rw[xQ B hc,RI B hc k v m,DK B hc];rfl
def unit(k:Nat):Y0:=λr=>if r=k then 1 else 0
def aA9(n:Nat):sgn (n+n)=1:=by unfold sgn;rw[Y5x]
theorem KO:∀n:Nat,det n unit=1
 | 0=>rfl
 | n+1=>by
  show dX (n+1) _=1;rw[jY (w:=n) Oo λj hj ne=>?_]
  ·have e:det n (wo unit n)=det n unit:=yR λi a r _=>by
    show unit (skip n i) r=unit i r;unfold skip;rw[if_pos a]
   rw[e,KO n,aA9];show 1*(if n=n then 1 else 0)*1=(1:Int);rw[if_pos rfl];rfl
  ·show sgn (j+n)*(if n=j then 1 else 0)*_=0;rw[if_neg λz=>ne z.symm];simp
def fac:Nat->Nat
 | 0=>1
 | n+1=>(n+1)*fac n
theorem tR{C:Nat}:∀{n:Nat}{f:Y0},(∀i,i<n->(f i).natAbs<=C)->(dX n f).natAbs<=n*C
 | 0,_,_=>by simp[dX]
 | n+1,f,h=>by
  rw[dX];have h1:=tR (n:=n) λi a=>h i Oo;have c:=h n Oo;have:=Int.natAbs_add_le (dX n f) (f n);rw[Nat.add_mul];exact Oo
def aBa(j:Nat):(sgn j).natAbs=1:=by unfold sgn;split <;> rfl
theorem HX{C:Nat}:∀{n:Nat}{B:fG},(∀j,j<n->∀r,r<n->(B j r).natAbs<=C)->(det n B).natAbs<=fac n*C^n
 | 0,_,_=>by show(1:Int).natAbs<=1*C^0;simp
 | n+1,B,h=>by
  have:=tR (C:=C*(fac n*C^n)) (n:=n+1) (f:=λj=>sgn (j+n)*B j n*det n (wo B j)) λj a=>by
   rw[dD,dD,aBa,Nat.one_mul];exact Nat.mul_le_mul (h j a n Oo) (HX λi c r d=>h (skip j i) (by unfold skip;split <;> exact Oo) r Oo)
  refine aL this (Nat.le_of_eq ?_);rw[fac,Nat.pow_succ];rw[Nat.mul_assoc,Nat.mul_comm C,Nat.mul_assoc (fac n)]
end Md
namespace Md
def dot(n:Nat)(x y:Y0):Int:=dX n λk=>x k*y k
structure Bs(n:Nat)(B R:fG)(p:Int):Prop where
 inv:∀r,r<n->∀k,k<n->Y4V n (B j r*R j k)=if r=k then p else 0
 det:det n B=p
 pos:0<p
section
variable{n:Nat}{B R:fG}{p:Int}
def Bs.expand(h:Bs n B R p)(v:Y0){r:Nat}(hr:r<n):Y4V n (Y5p j v*B j r)=p*v r:=by
 have c:Y4V n (Y5p j v*B j r)=dX n λk=>Y4V n (v k*(B j r*R j k)):=by
  rw[EQ];refine eG λj _=>?_;unfold dot;rw[Int.mul_comm,<-iG];exact eG λk _=>by grind
 rw[c,eG (g:=λk=>v k*if r=k then p else 0) λk a=>by rw[iG,h.inv r hr k a],jY hr λk _ ne=>by rw[Y2c Ybe];simp];rw[Yo];grind
def Bs.put(h:Bs n B R p)(C:fG){i:Nat}(hi:i<n)(v:Y0):p*Y8L n C i v=Y4V n (Y5p j v*Y8L n C i (B j)):=by
 rw[<-DK C hi,<-RI C hi (λj=>Y5p j v) (λj=>B j)];refine yR λj c r a=>?_;by_cases e:j=i
 ·subst e;rw[iK,iK];exact(h.expand v a).symm
 ·rw[lT e,lT e]
def FK{i j:Nat}(hi:i<n)(hj:j<n)(ne:j≠i):Y8L n B i (B j)=0:=yS hi hj (λz=>Ybe) (by rw[iK,lT ne])
def Bs.step_det(h:Bs n B R p){i:Nat}(hi:i<n)(v:Y0):Y8L n B i v=Y5p i v:=by
 have e:=h.put B hi v;rw[jY hi λj c ne=>by rw[FK hi c ne];simp]at e;rw[uO,h.det]at e;have a:p≠0:=by have:=h.pos;exact Oo
 rw[Int.mul_comm]at e;exact Int.eq_of_mul_eq_mul_right a e
def xP{x:Y0}{k:Nat}(hk:k<n):dot n x (unit k)=x k:=by
 unfold dot;rw[jY hk λj _ ne=>by unfold unit;rw[if_neg ne];simp];unfold unit;rw[Yo];simp
def Bs.row(h:Bs n B R p){i k:Nat}(hi:i<n)(hk:k<n):R i k=Y8L n B i (unit k):=by rw[h.step_det hi,xP hk]
def xK(n:Nat)(B R:fG)(o:Nat)(a:Y0):fG:=λi k=>if i=o then R o k else Y8L n (st B o a) i (unit k)
def Bs.exch(h:Bs n B R p){o:Nat}(ho:o<n)(a:Y0){i k:Nat}(hi:i<n)(hk:k<n)(ne:i≠o):p*xK n B R o a i k=R i k*Y2N-R o k*Y2s:=by
 unfold xK;rw[if_neg ne,h.put (st B o a) hi (unit k),JE hi ho ne λj e c g=>?_]
 ·rw[xP hk,xP hk];have l:st (st B o a) i (B i)=st B o a:=by
   rw[oZ (λz=>Ybe),uO]
  have d:Y8L n (st B o a) i (B o)=- Y8L n B i a:=by
   rw[ZT B ho hi (λz=>Ybe),uO]
  rw[l,d,h.step_det ho,h.step_det hi];grind
 ·rw[yS hi e (λz=>c z.symm) (by rw[iK,lT c,lT g])];simp
def Bs.next(h:Bs n B R p){o:Nat}(ho:o<n){a:Y0}(hs:0<Y2N):Bs n (st B o a) (xK n B R o a) (Y2N):=by
 refine⟨λr g k d=>?_,h.step_det ho a,hs⟩;have i:p≠0:=by have:=h.pos;exact Oo
 refine Int.eq_of_mul_eq_mul_right i ?_;rw[Int.mul_comm,<-iG];have c:∀j,j<n->p*(st B o a j r*xK n B R o a j k)=Y2N*(B j r*R j k)-R o k*(Y5p j a*B j r)+if j=o then p*a r*R o k else 0:=λj m=>by
  by_cases e:j=o
  ·subst e;rw[iK,Yo];have:xK n B R j a j k=R j k:=Yo;rw[this];grind
  ·rw[lT e,Y0L];have:=h.exch ho a m d e;have l:p*(B j r*xK n B R o a j k)=B j r*(p*xK n B R o a j k):=by grind
   rw[l,this];grind
 rw[eG c];have s:Y4V n (Y2N*(B j r*R j k)-R o k*(Y5p j a*B j r)+if j=o then p*a r*R o k else 0)=Y2N*Y4V n (B j r*R j k)+(-(R o k))*Y4V n (Y5p j a*B j r)+Y4V n (if j=o then p*a r*R o k else 0):=by
  rw[<-iG,<-iG,<-nN,<-nN];exact eG λj _=>by grind
 rw[s,h.inv r g k d,h.expand a g,jY ho (f:=λj=>if j=o then p*a r*R o k else 0) λj _ ne=>if_neg ne,Yo];by_cases e:r=k
 ·rw[Y1w,Y1w];grind
 ·rw[Y0L,Y0L];grind
def aCy(n:Nat):Bs n unit unit 1:=by
 refine⟨λr a k c=>?_,KO n,Dd⟩;rw[jY a λj _ ne=>by
  show(if r=j then 1 else 0)*_=(0:Int);rw[Y2c Ybe];simp]
 show(if r=r then(1:Int) else 0)*(if k=r then 1 else 0)=_;rw[Yo];by_cases e:r=k
 ·rw[Y1w,if_pos e.symm];rfl
 ·rw[Y0L,Y2c (e z.symm)];rfl
end
end Md
namespace Md
def lexp(m:Nat)(d:Y0):Prop:=∃j,j<m/\(∀i,i<j->d i=0)/\0<d j
section
variable{m:Nat}{d e:Y0}
def gR(h:∀i,i<m->d i=e i)(x:Y4j d):Y4j e:=by
 obtain⟨j,a,z,p⟩:=x;exact⟨j,a,λi c=>by rw[<-h i Oo];exact z i c,by rw[<-h j a];exact p⟩
def KB(x:Y4j d)(y:Y4j e):Y93 (d i+e i):=by
 obtain⟨j,h,g,p⟩:=x;obtain⟨k,l,c,n⟩:=y;rcases Nat.lt_trichotomy j k with q | q | q
 ·exact⟨j,h,λi a=>by show d i+e i=0;rw[g i a,c i Oo];rfl,by show 0<d j+e j;rw[c j q];exact Oo⟩
 ·subst q;exact⟨j,h,λi a=>by show d i+e i=0;rw[g i a,c i a];rfl,by show 0<d j+e j;exact Oo⟩
 ·exact⟨k,l,λi a=>by show d i+e i=0;rw[g i Oo,c i a];rfl,by show 0<d k+e k;rw[g k q];exact Oo⟩
def uE{c:Int}(hc:0<c)(x:Y4j d):Y93 (c*d i):=by
 obtain⟨j,e,z,p⟩:=x;exact⟨j,e,λi a=>by show c*d i=0;rw[z i a];simp,Int.mul_pos hc p⟩
def YU{c:Int}(hc:0<c)(x:Y93 (c*d i)):Y4j d:=by
 obtain⟨j,e,z,p⟩:=x;refine Y2v j e YcI
 ·have:=z i a;rcases Int.mul_eq_zero.mp this with q | q
  ·exact Oo
  ·exact q
 ·have p:0<c*d j:=p;rcases Int.lt_trichotomy (d j) 0 with q | q | q
  ·have:=Int.mul_neg_of_pos_of_neg hc q;exact Oo
  ·rw[q]at p;simp at p
  ·exact q
theorem CN:∀(m:Nat) (d:Y0),Y4j d\/(∀i,i<m->d i=0)\/Y93 (- d i)
 | 0,d=>.inr (.inl λi hi=>Oo)
 | m+1,d=>by
  rcases CN m d with h | h | h
  ·obtain⟨j,hj,z,p⟩:=h;exact .inl ⟨j,Oo,z,p⟩
  ·rcases Int.lt_trichotomy (d m) 0 with q | q | q
   ·exact .inr (.inr ⟨m,Oo,λi hi=>by show-d i=0;rw[h i hi];rfl,by show 0 < - d m;exact Oo⟩)
   ·refine .inr (.inl λi hi=>?_);rcases(show i<m\/i=m by exact Oo)with r | r
    ·exact h i r
    ·rw[r];exact q
   ·exact .inl ⟨m,Oo,h,q⟩
  ·obtain⟨j,hj,z,p⟩:=h;exact .inr (.inr ⟨j,Oo,z,p⟩)
def YT(x:Y4j d):¬Y93 (- d i):=λ⟨k,l,a,c⟩=>by
 obtain⟨j,g,e,h⟩:=x;have a:∀i,i<k->- d i=0:=a;have c:0 < - d k:=c;rcases Nat.lt_trichotomy j k with q | q | q
 ·have:=a j q;exact Oo
 ·subst q;exact Oo
 ·have:=e k q;exact Oo
def lexn(m:Nat)(d:Y0):Prop:=Y4j d\/∀i,i<m->d i=0
def KD{c:Int}(hc:0<=c)(x:lexn m d):lexn m λi=>c*d i:=by
 rcases Int.lt_or_eq_of_le hc with q | q
 ·rcases x with x | x
  ·exact .inl (uE q x)
  ·exact .inr λi a=>by show c*d i=0;rw[x i a];simp
 ·exact .inr λi a=>by show c*d i=0;rw[<-q];simp
def FD(x:Y4j d)(y:lexn m e):Y93 (d i+e i):=by
 rcases y with y | y
 ·exact KB x y
 ·exact gR (λi a=>by rw[y i a];exact Oo) x
def KC(h:¬Y93 (- d i)):lexn m d:=by
 rcases CN m d with q | q | q
 ·exact .inl q
 ·exact .inr q
 ·exact Y7S q
end
def rad(b:Nat):Nat->(Nat->Nat)->Nat
 | 0,_=>0
 | m+1,v=>rad b m v*b+v m
theorem EX{b:Nat}:∀{m:Nat}{v w:Nat->Nat},(∀i,i<m->v i=w i)->rad b m v=rad b m w
 | 0,_,_,_=>rfl
 | m+1,v,w,h=>by rw[rad,rad,EX (m:=m) λi hi=>h i Oo,h m Oo]
theorem XJ{b:Nat}:∀{m:Nat}{v w:Nat->Nat},(∀i,i<m->v i<b/\w i<b)->(∃j,j<m/\(∀i,i<j->v i=w i)/\v j<w j)->rad b m v<rad b m w
 | 0,_,_,_,⟨j,hj,_⟩=>Oo
 | m+1,v,w,hb,⟨j,hj,z,p⟩=>by
  rw[rad,rad];rcases(show j<m\/j=m by exact Oo)with q | q
  ·have ih:=XJ (m:=m) (λi c=>hb i Oo) ⟨j,q,z,p⟩;have d:=hb m Oo;have a:(rad b m v+1)*b<=rad b m w*b:=bJ _ ih;rw[Nat.add_mul]at a;exact Oo
  ·subst q;rw[EX (m:=j) z];exact Oo
theorem XL{b:Nat}:∀{m:Nat}{v:Nat->Nat},(∀i,i<m->v i<b)->rad b m v<b^m
 | 0,_,_=>by simp[rad]
 | m+1,v,h=>by
  have h1:=XL (m:=m) λi c=>h i Oo;have d:=h m Oo;rw[rad,Nat.pow_succ];have a:(rad b m v+1)*b<=b^m*b:=bJ _ h1;rw[Nat.add_mul]at a;exact Oo
theorem RE:∀{n p:Nat},0<p->p<=n->p ∣ fac n
 | 0,p,h,h'=>Oo
 | n+1,p,h,h'=>by
  rw[fac];rcases(show p<=n\/p=n+1 by exact Oo)with q | q
  ·exact Nat.dvd_trans (RE h q) (Nat.dvd_mul_left _ _)
  ·rw[q];exact mL _ _
theorem BD:∀n,0<fac n
 | 0=>Dd
 | n+1=>eM Oo (BD n)
def msr(Z P m:Nat)(z:Y0)(p:Int):Nat:=rad (2*(Z*fac P)+1) m λi=>(z i*((fac P:Int)/p)+(Z*fac P:Nat)).toNat
def vW{Z P:Nat}{x p:Int}(hx:x.natAbs<=Z)(p0:0<p)(p1:p<=P):∃q:Int,(fac P:Int)=p*q/\(fac P:Int)/p=q/\0<q/\(0<=x*q+(Z*fac P:Nat))/\x*q+(Z*fac P:Nat)<(2*(Z*fac P)+1:Nat):=by
 obtain⟨a,c⟩:=RE (n:=P) (p:=p.toNat) Oo Oo;have d:((p.toNat:Nat):Int)=p:=Int.toNat_of_nonneg Oo;have e:(fac P:Int)=p*(a:Int):=by rw[<-d,<-Int.natCast_mul,<-c]
 have h:=BD P;have i:0<a:=by
  rcases Nat.eq_zero_or_pos a with z | z
  ·rw[z]at c;exact Oo
  ·exact z
 have g:a<=fac P:=by rw[c];exact Y5Y Oo
 refine⟨(a:Int),e,?_,Oo,?_⟩
 ·rw[e];exact Y57
 ·have j:(x*(a:Int)).natAbs<=Z*fac P:=by
   rw[dD];exact Nat.mul_le_mul hx Oo
  exact Oo
def aFc{Z P m:Nat}{z z':Y0}{p p':Int}(hz:∀i,i<m->(z i).natAbs<=Z)(hz':∀i,i<m->(z' i).natAbs<=Z)(p0:0<p)(p1:p<=P)(q0:0<p')(q1:p'<=P)(h:Y93 (p' * z i-p*z' i)):msr Z P m z' p' < msr Z P m z p:=by
 refine XJ (λi d=>?_) ?_
 ·obtain⟨q,e,l,G,J,D⟩:=vW (hz i d) p0 p1;obtain⟨w,I,a,A,B,b2⟩:=vW (hz' i d) q0 q1;rw[l,a];exact Oo
 ·obtain⟨j,n,N,M⟩:=h;have g:∀i,i<m->∃c:Int,0<c/\c*(p' * z i-p*z' i)=p*p' * ((z i*((fac P:Int)/p))-z' i*((fac P:Int)/p')):=λi d=>by
   obtain⟨q,e,l,G,J,D⟩:=vW (hz i d) p0 p1;obtain⟨w,I,a,A,B,b2⟩:=vW (hz' i d) q0 q1;refine Y0j (fac P:Int) (by have:=BD P;exact Oo);rw[l,a,Int.mul_sub,Int.mul_sub];have O:(fac P:Int)*(p' * z i)=p*p' * (z i*q):=by rw[e];grind
   have L:(fac P:Int)*(p*z' i)=p*p' * (z' i*w):=by rw[I];grind
   rw[O,L]
  have s:0<p*p':=Int.mul_pos p0 q0;refine Y2v j n (λi d=>?_)
  ·obtain⟨c,C,e⟩:=g i Oo;have y:p' * z i-p*z' i=0:=N i d;rw[y,Int.mul_zero]at e;rcases Int.mul_eq_zero.mp e.symm with r | r
   ·exact Oo
   ·show(z' i*((fac P:Int)/p')+(Z*fac P:Nat)).toNat=(z i*((fac P:Int)/p)+(Z*fac P:Nat)).toNat;rw[show z' i*((fac P:Int)/p')=z i*((fac P:Int)/p)by exact Oo]
  ·obtain⟨c,C,e⟩:=g j n;have u:=Int.mul_pos C M;rw[show c*(p' * z j-p*z' j)=p*p' * (z j*((fac P:Int)/p)-z' j*((fac P:Int)/p'))from e]at u;have hd:0<z j*((fac P:Int)/p)-z' j*((fac P:Int)/p'):=by
    rcases Int.lt_trichotomy (z j*((fac P:Int)/p)-z' j*((fac P:Int)/p')) 0 with r | r | r
    ·have:=Int.mul_neg_of_pos_of_neg s r;exact Oo
    ·rw[r]at u;simp at u
    ·exact r
   obtain⟨q,S,l,G,J,D⟩:=vW (hz j n) p0 p1;obtain⟨w,R,a,A,B,b2⟩:=vW (hz' j n) q0 q1;show(z' j*((fac P:Int)/p')+(Z*fac P:Nat)).toNat<(z j*((fac P:Int)/p)+(Z*fac P:Nat)).toNat;rw[l,a]at hd ⊢;exact Oo
end Md
namespace Md
def rho(n:Nat)(b:Y0)(R:fG)(i k:Nat):Int:=match k with
 | 0=>dot n (R i) b
 | k+1=>R i k
structure Mst(n:Nat)(b:Y0)(B R:fG)(p:Int):Prop where
 bs:Bs n B R p
 lex:∀i,i<n->lexp (n+1) (rho n b R i)
section
variable{n:Nat}{b:Y0}{B R:fG}{p:Int}
def RG(x y:Y0)(c d:Int)(v:Y0):dot n (λk=>c*x k-d*y k) v=c*dot n x v-d*dot n y v:=by
 unfold dot;have:dX n (λk=>(c*x k-d*y k)*v k)=dX n (λk=>c*(x k*v k)+(-d)*(y k*v k)):=eG λk _=>by grind
 rw[this,nN,iG,iG];grind
def aB9(c:Int)(x v:Y0):dot n (λk=>c*x k) v=c*dot n x v:=by
 unfold dot;rw[<-iG];exact eG λk _=>by grind
def FJ{x y v:Y0}(h:∀k,k<n->x k=y k):dot n x v=dot n y v:=by
 unfold dot;exact eG λk a=>by rw[h k a]
def Bs.rho_exch(h:Bs n B R p)(b:Y0){o:Nat}(ho:o<n)(a:Y0){i k:Nat}(hi:i<n)(hk:k<n+1)(ne:i≠o) :
  p*rho n b (xK n B R o a) i k=Y2N*Y3Z i-Y2s*Y3Z o:=by
 cases k with
 | zero =>
  show p*dot n (xK n B R o a i) b=Y2N*Y5p i b-Y2s*Y5p o b;rw[<-aB9,<-RG];refine FJ λk hk=>?_;rw[h.exch ho a hi hk ne];grind
 | succ k =>
  show p*xK n B R o a i k=Y2N*R i k-Y2s*R o k;rw[h.exch ho a hi Oo ne];grind
def GY(b:Y0)(o:Nat)(a:Y0)(k:Nat):rho n b (xK n B R o a) o k=Y3Z o:=by
 have e:xK n B R o a o=R o:=by funext k;exact Yo
 cases k with
 | zero=>show dot n (xK n B R o a o) b=Y5p o b;rw[e]
 | succ k=>show xK n B R o a o k=R o k;rw[e]
def Bs.dot_col(h:Bs n B R p){i j:Nat}(hi:i<n)(hj:j<n):Y5p i (B j)=if i=j then p else 0:=by
 rw[<-h.step_det hi];by_cases e:i=j
 ·subst e;rw[uO,Yo,h.det]
 ·rw[Y0L];exact FK hi hj (Y5G z.symm)
def Bs.indep(h:Bs n B R p){i o:Nat}(hi:i<n)(ho:o<n)(ne:i≠o){c d:Int}(hc:c≠0):¬∀k,k<n->c*R i k-d*R o k=0:=λz=>by
 have e:=RG (n:=n) (R i) (R o) c d (B i);rw[h.dot_col hi hi,h.dot_col ho hi,Yo,Y2c Ybe]at e;have j:dot n (λk=>c*R i k-d*R o k) (B i)=0:=by
  rw[FJ (y:=Y2V) λk a=>z k a];unfold dot;rw[eG (g:=Y2V) λk _=>Int.zero_mul _,yC]
 rw[j]at e;have l:=h.pos;have:c*p=0:=Oo;rcases Int.mul_eq_zero.mp this with q | q
 ·exact hc q
 ·exact Oo
def aAv(n:Nat)(b:Y0)(R:fG)(a:Y0)(o:Nat):Prop:=∀i,i<n->0<Y2s->¬lexp (n+1) λk=>Y2s*Y3Z o-Y2N*Y3Z i
theorem Mst.next(h:Mst n b B R p){o:Nat}(ho:o<n){a:Y0}(hs:0<Y2N)(hl:aAv n b R a o):Mst n b (st B o a) (xK n B R o a) (Y2N):=by
 refine⟨h.bs.next ho hs,λi g=>?_⟩;by_cases e:i=o
 ·subst e;exact Yd1 ((GY b i a k).symm) (h.lex i g)
 ·refine YU h.bs.pos (gR (λk j=>(h.bs.rho_exch b ho a g j e).symm) ?_);rcases Int.lt_or_le 0 (Y2s)with q | q
  ·have nn:=hl i g q;rcases CN (n+1) (λk=>Y2N*Y3Z i-Y2s*Y3Z o)with t | t | t
   ·exact t
   ·exfalso;exact h.bs.indep g ho e (c:=Y2N) (d:=Y2s) Oo λk j=>t (k+1) Oo
   ·exact absurd (Yd1 (by show-(_-_)=_-_;exact Oo) t) nn
  ·have:=FD (uE hs (h.lex i g)) (KD (c:=- Y2s) Oo (.inl (h.lex o ho)));exact Yd1 (by show _ + - Y2s*Y3Z o=_;grind) this
def YW{ri ro rj:Y0}{m:Nat}{si so sj:Int}(hi:0<si)(ho:0<so)(hj:0<sj)(h1:Y4j (λk=>si*ro k-so*ri k))(h2:¬Y4j (λk=>sj*ro k-so*rj k)):¬Y4j (λk=>sj*ri k-si*rj k):=λe=>by
 have d:lexn m λk=>so*rj k-sj*ro k:=KC λq=>h2 (Yd1 (by show-(_-_)=_-_;exact Oo) q);have:=FD (uE hj h1) (KD (c:=si) Oo d);have a:=uE ho e;exact YT this (Yd1 (by show _=- (sj*(si*ro k-so*ri k)+si*(so*rj k-sj*ro k));grind) a)
def Bs.some(h:Bs n B R p)(hB:∀j,j<n->∀r,r<n->0<=B j r){a:Y0}{r:Nat}(hr:r<n)(ha:0<a r):∃i,i<n/\0<Y2s:=by
 refine cH Y6k;have all:∀i,i<n->Y2s<=0:=λi c=>Int.not_lt.mp λz=>d ⟨i,c,z⟩;have e:=h.expand a hr;have le:∀m,m<=n->Y4V m (Y5p j a*B j r)<=0:=by
  intro m
  induction m with
  | zero=>intro _;exact Int.le_refl 0
  | succ m ih =>
   intro s;rw[dX];have g:=ih Oo;have u:=Int.mul_nonneg (a:=- Y5p m a) (by have:=all m Oo;exact Oo) (hB m Oo r hr);have l:- Y5p m a*B m r=- (Y5p m a*B m r):=by grind
   exact Oo
 have:=le n (Yq);have:=YfQ ha;exact Oo
def zet(n:Nat)(b:Y0)(R:fG)(c:Y0)(k:Nat):Int:=Y3u (c i*Y3Z i)
def sc(c:Y0)(o:Nat)(x:Int):Y0:=λi=>if i=o then x else c i
def Bs.zet_exch(h:Bs n B R p)(b:Y0){o:Nat}(ho:o<n)(a c:Y0)(x:Int){k:Nat}(hk:k<n+1) :
  p*zet n b (xK n B R o a) (sc c o x) k=Y2N*zet n b R c k-(Y3u (c i*Y2s)-p*x)*Y3Z o:=by
 unfold zet;rw[<-iG];have d:∀i,i<n->p*(sc c o x i*rho n b (xK n B R o a) i k)=Y2N*(c i*Y3Z i)+(- Y3Z o)*(c i*Y2s)+if i=o then p*x*Y3Z o else 0:=λi j=>by
  by_cases e:i=o
  ·subst e;rw[Yo,GY];unfold sc;rw[Yo];grind
  ·rw[Y0L];unfold sc;rw[Y0L];have:=h.rho_exch b ho a j hk e;have g:p*(c i*rho n b (xK n B R o a) i k)=c i*(p*rho n b (xK n B R o a) i k):=by grind
   rw[g,this];grind
 rw[eG d,nN,nN,iG,iG,jY ho (f:=λi=>if i=o then p*x*Y3Z o else 0) λi _ ne=>if_neg ne,Yo];grind
def Mst.cheaper(h:Mst n b B R p){o:Nat}(ho:o<n){a c:Y0}{x:Int}(hd:p*x<Y3u (c i*Y2s)):lexp (n+1) λk=>Y2N*zet n b R c k-p*zet n b (xK n B R o a) (sc c o x) k:=by
 refine gR (λk d=>?_) (uE (c:=Y3u (c i*Y2s)-p*x) Oo (h.lex o ho));show(Y3u (c i*Y2s)-p*x)*Y3Z o=Y2N*zet n b R c k-p*zet n b (xK n B R o a) (sc c o x) k;rw[h.bs.zet_exch b ho a c x d];exact Oo
def Bs.size(h:Bs n B R p){C:Nat}(hB:∀j,j<n->∀r,r<n->(B j r).natAbs<=C)(c1:1<=C):p.natAbs<=fac n*C^n/\∀i,i<n->∀k,k<n->(R i k).natAbs<=fac n*C^n:=by
 refine⟨by rw[<-h.det];exact HX hB,λi a k g=>?_⟩;rw[h.row a g];refine HX λj c r d=>?_;by_cases e:j=i
 ·subst e;rw[iK];unfold unit;split
  ·exact c1
  ·exact Y0H
 ·rw[lT e];exact hB j c r d
def RH{x y:Y0}{C D:Nat}(hx:∀k,k<n->(x k).natAbs<=C)(hy:∀k,k<n->(y k).natAbs<=D):(dot n x y).natAbs<=n*(C*D):=by
 unfold dot;refine tR λk a=>?_;rw[dD];exact Nat.mul_le_mul (hx k a) (hy k a)
end
end Md
namespace Md
open Mf
def rJ(n:Nat)(f:Y0):((dX n f:Int):Rat)=Y4k n (f i:Rat):=by
 induction n with
 | zero=>rfl
 | succ n ih=>rw[dX,dW,Rat.intCast_add,ih]
section
variable{n:Nat}{b:Y0}{B R:fG}{p:Int}
def rat(n:Nat)(R:fG)(c:Y0)(k:Nat):Int:=Y3u (c i*R i k)
def BI(b:Y0)(R:fG)(c:Y0):zet n b R c 0=dot n (rat n R c) b:=by
 show Y3u (c i*Y5p i b)=dX n λk=>rat n R c k*b k;have e:∀k,rat n R c k*b k=Y3u (c i*(R i k*b k)):=λk=>by
  unfold rat;rw[Int.mul_comm,<-iG];exact eG λi _=>by grind
 rw[eG λk _=>e k,EQ];refine eG λi _=>?_;rw[iG];rfl
def aBK(R:fG)(c a:Y0):Y3u (c i*Y2s)=dot n (rat n R c) a:=by
 have:=BI (n:=n) a R c;exact this
def Mst.share(h:Mst n b B R p){i:Nat}(hi:i<n):0<=Y5p i b:=by
 obtain⟨j,a,z,q⟩:=h.lex i hi;cases j with
 | zero=>exact Int.le_of_lt q
 | succ j=>exact Int.le_of_eq (z 0 Oo).symm
def Bs.ends(h:Bs n B R p){r:Nat}(hr:r<n):Y3u (Y5p i b*B i r)=p*b r:=h.expand b hr
def JY(n:Nat){y:Y0}{p:Int}{b:Y0}(hy:∀w,w<n->y w<=0)(hb:b n=1){x:Rat}{α:Yw}(hα:∀w,w<n->α w<=(b w:Rat))(hw:(y n:Rat)<=(p:Rat)*x+Y9f n (-(y w:Rat)*α w)):((dot (n+1) y b:Int):Rat)<=(p:Rat)*x:=by
 have e:((dot (n+1) y b:Int):Rat)=Y9f n ((y w:Rat)*(b w:Rat))+(y n:Rat):=by
  show(((dX (n+1) λk=>y k*b k):Int):Rat)=_;rw[dX,Rat.intCast_add,rJ,hb,Int.mul_one];congr 1;exact Y7U (by rw[Rat.intCast_mul])
 have le:Y9f n ((y w:Rat)*(b w:Rat))+Y9f n (-(y w:Rat)*α w)<=0:=by
  rw[<-jW];have:=lJ (n:=n) (f:=λw=>(y w:Rat)*(b w:Rat) + -(y w:Rat)*α w) (g:=Y2V) λw hw=>by
   have a:(0:Rat)<=-(y w:Rat):=by
    have:=Rat.intCast_le_intCast.mpr (hy w hw);grind
   have c:=hα w hw;have d:=Rat.mul_le_mul_of_nonneg_left c a;grind
  rw[gZ]at this;exact this
 rw[e];grind
def aBV(n:Nat){y:Y0}{b:Y0}(hy:∀w,w<n->y w<=0)(hb:b n=1)(hl:lexp (n+2) λk=>match k with | 0=>dot (n+1) y b | k+1=>y k){α:Yw}(hα:∀w,w<n->α w<=(b w:Rat))(hw:(y n:Rat)<=Y9f n (-(y w:Rat)*α w)):False:=by
 have d:=JY n (p:=0) (x:=0) hy hb hα (by rw[Rat.mul_zero,Rat.zero_add];exact hw);rw[Rat.mul_zero]at d;have l:dot (n+1) y b<=0:=Rat.intCast_le_intCast.mp (by have c:((0:Int):Rat)=0:=rfl;rw[c];exact d);obtain⟨j,i,z,q⟩:=hl;cases j with
 | zero=>have q:0<dot (n+1) y b:=q;exact Oo
 | succ j =>
  have q:0<y j:=q;rcases(show j<n\/j=n by exact Oo)with r | r
  ·have:=hy j r;exact Oo
  ·subst r;have h:∀w,w<j->y w=0:=λw a=>z (w+1) Oo;have e:Y9f j (-(y w:Rat)*α w)=0:=by
    rw[bQ (g:=Y2V) λw a=>by
     rw[h w a];have c:((0:Int):Rat)=0:=rfl;rw[c];grind,gZ]
   rw[e]at hw;have c:((0:Int):Rat)=0:=rfl;rw[<-c]at hw;have:=Rat.intCast_le_intCast.mp hw;exact Oo
end
end Md
namespace L2
open PySem PySem.Spec PyProof.Rows
def aGi:TS:=Y7E
def OS{X:Cx}{st:Stmt}:IR X st aGi:=⟨λ_ _ _ _ _ _ h=>h.elim⟩
def rM.ext{b:Bool}{h h':Heap}{i l c:Addr}{k:Nat}(x:rM b h i l k)(s:Yem c h)(n:i≠c):rM b h' i l k:=x.at λo e=>s i o n e
section
variable{prog:Program}{w:World}{A:Around}{E:Yd}{s:Shared}
def NT{b:Bool}{e it l:Addr}{i:Nat}{n:Int}{items:Ai}{x old:Value}{Q:Yd}(he:Y8P s.heap e it n)(hit:rM b s.heap it l i)(hl:Y20 b l items)(hx:items[i]?=Y8)(hne:e≠it)
  (hQ:∀h' t,IsEnumOut h' e it (n+1) x s.heap.objs.size->rM b h' it l (i+1)->Yfs (some { cls:=.type "tuple",data:=.seq #[.int n t,x] })->(∀c o,c≠e->c≠it->Y39 c->Y4W c)->Yat ({ s with heap:=h',toks:=s.toks+1 })) :
  wpAny (model prog w) A (Builtin.«enumerate.__next__» ⟨Y6D e,[]⟩) (λfin s'=>∃v,fin=Yer v/\Q v s') E s:=by
 obtain⟨L,g,d,h,J⟩:=s;show Y3X (Y5q e 2 >>= _);refine Y6C he Y81;refine Yep hit hl hx (λI G p=>?_);replace p:Heap.SameBut it L I:=p;have B:Y8P I e it n:=(p.2 e hne).trans he;show Y5v (Y5q e 3 >>= _) ⟨I,g,d,h,J⟩;refine Y6C B (rawInt n);show Y5v (Y5q e 4 >>= _) ⟨I,g,d,h,J⟩;refine Y6C B .none;show Y5v (mkInt n >>= _) ⟨I,g,d,h,J⟩;refine wpAny_bind (wpAny_mkInt ?_);show Y5v (setField (.ref e) 3 (rawInt (n+1)) >>= _) ⟨I,g,d,h+1,J⟩;refine Y9i B (by simp) (λX z m=>?_);replace m:YaM I X:=m;replace z:Y8P X e it (n+1):=z;show Y5v (setField (.ref e) 4 .none >>= _) ⟨X,g,d,h+1,J⟩;refine Y9i z (by simp) (λS C j=>?_);replace j:YaM X S:=j;replace C:Y8P S e it (n+1):=C;show Y5v (newTuple [.int n h,x] >>= _) ⟨S,g,d,h+1,J⟩;refine wpAny_bind (wpAny_newTuple ?_);have D:Y8P (S.push { cls:=.type "tuple",data:=.seq #[.int n h,x] }) e it (n+1):=Y1R C;generalize hh₄:S.push { cls:=.type "tuple",data:=.seq #[.int n h,x] }=W at D;have M:S.objs.size=L.objs.size:=by rw[j.1,m.1,p.1]
 have P:e<L.objs.size:=bN he;have γ:W.get? L.objs.size=some { cls:=.type "tuple",data:=.seq #[.int n h,x] }:=by rw[<-hh₄,<-M];exact Y1n
 have ε:∀c o,c≠e->c≠it->L.get? c=Yb->W.get? c=Yb:=λc o a N δ=>by rw[<-hh₄];exact Y1R (j.extBut c o a (m.extBut c o a (p.extBut c o N δ)))
 have U:rM b W it l (i+1):=by rw[<-hh₄];exact((G.ext m.extBut (Ne.symm hne)).ext j.extBut (Ne.symm hne)).at λo ζ=>Y1R ζ
 show Y5v (YeV e >>= _) ⟨W,g,d,h+1,J⟩;rw[M];clear hh₄ C j z m B p G M S X I;refine Y5m;unfold Builtin.SmallTypes.ownedTupleIsFree;refine wpAny_bind (wpAny_field D rfl (x:=.none) rfl Y2k);simp only[if_true];refine Yaq ?_;refine Y6C D old;refine Y9i D (by simp) (λZ O y=>?_);replace y:YaM W Z:=y;replace O:IsEnum Z e it (n+1) x:=O;show Y5v (Builtin.SmallTypes.ownedTupleHandOut (.ref e) (.ref L.objs.size) >>= _) ⟨Z,g,d,h+1,J⟩;refine Y5m;unfold Builtin.SmallTypes.ownedTupleHandOut;refine Y9i O (by simp) (λα R u=>?_);replace u:YaM Z α:=u;replace R:IsEnumOut α e it (n+1) x L.objs.size:=R;refine wpAny_setField_rec R (by simp) λβ T r=>?_;replace r:YaM α β:=r;replace T:IsEnumOut β e it (n+1) x L.objs.size:=T;refine Ydn (wpAny_pure (Y7 (hQ β h T ?_ ?_ ?_)))
 ·exact((U.ext y.extBut (Ne.symm hne)).ext u.extBut (Ne.symm hne)).ext r.extBut (Ne.symm hne)
 ·exact r.extBut _ _ (Yg2) (u.extBut _ _ (Yg2) (y.extBut _ _ (Yg2) γ))
 ·exact λc o a N δ=>r.extBut c o a (u.extBut c o a (y.extBut c o a (ε c o a N δ)))
def NS{b:Bool}{e it l:Addr}{i:Nat}{n:Int}{items:Ai}{x old:Value}{Q:Y1j Y5h}(he:Y8P s.heap e it n)(hit:rM b s.heap it l i)(hl:Y20 b l items)(hx:items[i]?=Y8)(hne:e≠it)
  (hQ:∀h' t,IsEnumOut h' e it (n+1) x s.heap.objs.size->rM b h' it l (i+1)->Yfs (some { cls:=.type "tuple",data:=.seq #[.int n t,x] })->(∀c o,c≠e->c≠it->Y39 c->Y4W c)->Q (Y3 s.heap.objs.size) { s with heap:=h',toks:=s.toks+1 }) :
  Ybh e:=by
 have d:Y8B e "enumerate" := Y1o he;unfold pyNext;refine Yao (Y8D "__next__" d F.slot_enumerate_next F.slot_enumerate_next d F.entry_enumerate_next ?_ (F.args_enumerate_next_1 _));exact NT he hit hl hx hne λh' t a b c k=>wpAny_pure (hQ h' t a b c k)
def NR{b:Bool}{e it l:Addr}{i:Nat}{n:Int}{items:Ai}{old:Value}{Q:Y1j Y5h}(hh:Y6W)(he:Y8P s.heap e it n)(hit:rM b s.heap it l i)(hl:Y20 b l items)(hx:items[i]?=none)
  (hQ:∀h',Yem it s.heap->Q none { s with heap:=h' }):Ybh e:=by
 have d:Y8B e "enumerate" := Y1o he;unfold pyNext;refine Yao (Y8D "__next__" d F.slot_enumerate_next F.slot_enumerate_next d F.entry_enumerate_next ?_ (F.args_enumerate_next_1 _));show Y3X (Y5q e 2 >>= _);refine Y6C he Y81;refine wpAny_bind (NF hh hit hl hx λh' x c a=>?_);obtain⟨o,h,g⟩:=a;refine wpAny_bind (YeY "StopIteration" true (Y1B h g) ?_);exact wpAny_pure (hQ _ c)
abbrev enO(it:Addr)(n:Int):Obj:={ cls:=.type "enumerate",data:=.fields #[.none,.bool false,.ref it,rawInt n,.none,.none] }
def aFe(b:Bool)(l:Addr)(xs:Ai):Meets (Builtin.«enumerate.__new__» ⟨[.type "enumerate",Y1m],[]⟩) (λ_ R s=>Y20 b l xs/\R (Y7K (.ref (YfT b l).objs.size)) { s with heap:=(s.heap.push (itO b l)).push (enO s.heap.objs.size 0) }) :=
 .of_wp λi w A R s h=>by
  obtain⟨j,g,d,p,n⟩:=s;obtain⟨m,h⟩:=h;have e:=sub_enumerate;have a:nB b (Shared.heap ⟨j,g,d,p,n⟩) l xs:=m
  wp_walk
  refine wpAny_stack_any λst=>Y2k;split
  ·rename_i c _ _ _ _ _
   cases(c == Value.type "enumerate") <;> (wp_walk using QR a) <;> exact Y7 h
  ·wp_walk using QR a
   exact Y7 h
end
section
variable{prog:Program}{w:World}{A:Around}{E:Yd}{s:Shared}
structure EAt(b:Bool)(e it l:Addr)(n:Int)(k:Nat)(h:Heap):Prop where
 e:∃old,Y8P h e it (n+k)
 i:rM b h it l k
def aGZ{b:Bool}{l:Addr}{xs:Ai}{Q:Yd}(hl:Y20 b l xs)
  (h:∀h',EAt b (Y25) s.heap.objs.size l 0 0 h'->(∀c o,Y39 c->Y4W c)->Y2x Y25 ({ s with heap:=h' })) :
  Y26 (call (.type "enumerate") [Y1m]):=by
 refine callType_new F.called_enumerate Dd (F.typeCall_enumerate_1 _) (F.newCall_enumerate_1 _) (λd=>F.args_object_init_2 d _) F.entry_enumerate_new (aFe b l xs) (Y0p hl);have e:(YfT b l).objs.size=Y25:=gY ..;have a:((s.heap.push (itO b l)).push (enO s.heap.objs.size 0)).get? (YfT b l).objs.size=Y7g:=Y1n;have g:((s.heap.push (itO b l)).push (enO s.heap.objs.size 0)).get? s.heap.objs.size=Y7g:=Y1R Y1n;show _/\_;rw[e]at a ⊢;exact⟨Y1o a,h _ ⟨Y2i a,Yb1 _ g⟩ λc o x=>Y6R x⟩
end
def Ite(b:Bool)(l:Addr)(n:Int):It :=
  ⟨Yed (H l=Y4t b/\Y0q=Y8),
   λi H v H'=>∃q x,v=.ref q/\H q=none/\H'=Y6P q [.int (n+(i:Nat)),x]/\∀xs,H l=Y4t b->Y0q=Y8,
   λi H=>∃xs,H l=Y4t b/\Y6J i⟩
def SS{P:Program}{w:World}{K:Aa}{elts:Y0f}{x1}{tp:Pos}{b:Bool}{e it l:Addr}{n:Int}(hne:e≠it):LT P w K (Y9L x1 tp) (Ite b l n) [e,it] e (λi h=>EAt b e it l n i h) where
 mem:=by simp
 obj:=λi h st c a=>by
  obtain⟨g,m⟩:=st.e;obtain⟨θ,y,_,ε⟩:=st.i;simp only[bK,List.not_mem_nil,or_false]at a;rcases a with rfl | rfl
  ·exact Ya5 m (by cases q)
  ·exact Ya5 y (by rw[ε]at q;cases q)
 keep:=λi h M st k=>by
  obtain⟨g,m⟩:=st.e;exact⟨⟨g,k _ (by simp) _ m⟩,st.i.at λo e=>k _ (by simp) o e⟩
 item:=by
  intro X N J D T i j s σ H E I u st z;subst N J D;obtain⟨κ,x,m,S⟩:=z;obtain⟨u1,R,B⟩:=I.sq m;obtain⟨U,C,ι⟩:=R.get S;obtain⟨g,r⟩:=st.e;refine NS r st.i B (x:=U) (by simpa using C) hne λM t μ A α γ=>Y7 (wpAny_letOwnedTupleGo_enum μ λO L d=>?_);have d:YaM M O:=d;have β:∀c o,c ∉ [e,it]->Y39 c->O.get? c=Yb:=λc o a G=>by
   simp only[bK,List.not_mem_nil,or_false,not_or]at a;exact d.extBut c o a.1 (γ c o a.1 a.2 G)
  have I1:dA X j σ H { s with heap:=O,toks:=s.toks+1 }:=I.turnedL (t':=s.toks+1) β u;have fq:qF X j H s.heap.objs.size:=I.fpOk (Yq) (Y5S);have ν:Yde=none:=by
   cases q:Yde with
   | none=>rfl
   | some o=>exact absurd (aO (bN q) I.sz) (cO _)
  have nz:YdM e:=YeG (bN r) (by rw[<-q];exact cO _);have η:YdM it:=λq=>by obtain⟨θ,y,_⟩:=st.i;exact absurd (bN y) (by rw[<-q];exact cO _)
  have p:n+((i+1:Nat):Int)=n+(i:Nat)+1:=Oo;refine⟨Y2R,Y6P s.heap.objs.size [.int (n+(i:Nat)),x],I1.put fq ν ⟨⟨xC (by show 2<=64;decide),_,d.extBut _ _ nz α,rfl⟩,[Y51 (n+(i:Nat)),U],.cons ⟨t,rfl⟩ (Yba ι),Y3y (d.extBut _ _ nz α) _ rfl⟩,rfl,Y6H _ x fq.1 rfl (λξ Z=>?_),
   ⟨Y2i (by rw[p];exact L),A.ext d.extBut (Ne.symm hne)⟩,λc a=>?_⟩
  ·rw[m]at Z;rw[<-zU.inj Z];exact S
  ·have δ:YdE c:=λq=>by
    simp only[bK,List.not_mem_nil,or_false]at a;rcases a with rfl | rfl
    ·exact nz q.symm
    ·exact η q.symm
   rw[fF δ];exact(u c a).1
 done:=by
  intro X N J D T i j s σ H E I u st z;subst N J D;obtain⟨κ,m,ο⟩:=z;obtain⟨u1,R,B⟩:=I.sq m;have ρ:=R.length;obtain⟨g,r⟩:=st.e;refine NR (I.ok.hd T) r st.i B (by simp;exact Oo) λM ζ=>Y0I (Yfg (λc o a G=>?_) u);simp only[bK,List.not_mem_nil,or_false,not_or]at a;exact ζ c o a.2 G
 self:=λ_ _ _ _ _ st h=>by
  obtain⟨g,r⟩:=st.e;exact wpAny_pyIter_enum r h
def aGP(b:Bool)(n:Int)(ta:TA):TI:=Ydb σ H (∃l xs,vs=[Y1m]/\H1 l=Y4t b/\R (Ite b l n) H1)
def VA:Yf2 "enumerate"=YfC "enumerate":=Kk
section
variable{X:Cx}
def XU{pins:Ad}{σ:St}{tg:Expr}{elts:Y0f}{x1}{tp:Pos}{b:Bool}{l:Addr}{n:Int}{H1:Hp}{s1:Shared}{R:Y1M It}{h':Heap}(I1:Y49 H1 s1)(Z:EAt b (YfP 1) s1.heap.objs.size l n 0 h')(kk:∀c o,s1.heap.get? c=Yb->Y4W c)(q:R (Ite b l n) H1) :
  Y9j (pyIter (.ref (YfP 1))) (PIE X pins σ (Y9L x1 tp) R) ({ s1 with heap:=h' }):=by
 obtain⟨i,g⟩:=Z.e;refine wpAny_pyIter_enum g ⟨_,[YfP 1,s1.heap.objs.size],_,_,H1,rfl,I1.kept (t':=s1.toks) kk,SS (Y6z (show(s1.heap.objs.size+1:Nat)=s1.heap.objs.size from h)),Z,λc d=>?_,q⟩;have a:s1.heap.objs.size<=c:=by
  simp only[bK,List.not_mem_nil,or_false]at d;rcases d with rfl | rfl
  ·exact Y9s _
  ·exact Yq
 exact Yas a a
def GC(b:Bool){a:Expr}{ta:TA}{p pos tp:Pos}{elts:Y0f}{x1}(hg:Gl X "enumerate")(hm:X.mg "enumerate" = none)(ha:LY X [a] ta)(hs:Y33 a=[(false,Y0d a)]:=by first | exact pP | exact pQ | exact iL | rfl) :
  OH X (Y9L x1 tp) (Y4v "enumerate" [a] []) (aGP b 0 ta):=⟨by
 intro c s σ H R I h;refine Call_ (vX I hg hm VA (Yak (ha.p pos c s σ H _ I h) (λz r ⟨n,H1,I1,j,i⟩=>?_) (by rw[hs];rfl) (by rfl)));obtain⟨l,y,e,m,q⟩:=i;subst e;obtain⟨u,rfl,ru⟩:=oH j;cases ru;obtain⟨u1,_,g⟩:=I1.sq m;exact aGZ g λw Z d=>XU (tg:=Y9L x1 tp) I1 Z d q⟩
def KI{b:Bool}{l:Addr}{n:Int}{xs:Al}{g:TG}{tb:TS}{D:sW}{σ:St}{H:Hp}(Pv:Nat->Y1y)(h0:Y6U 0)(hl:∀i σ H,Y31->H l=Y4t b)
  (hs:∀i x q σ H H',Y0q=Y8->Y31->H q=none->H' q=Yj [.int (n+(i:Nat)),x]->Y1->g (.ref q) σ H' (Y53 ({ D with nx:=Pv (i+1),ct:=Pv (i+1),bk:=D.nx }))) (hd:∀σ H,Yec->Y3S) :
  ∃W:Nat->Nat->St->Hp->Prop,(Y7n 0 m σ H)/\∀i m σ H,W i m σ H ->
   ((Ite b l n).stop i H/\Y3S)\/((Ite b l n).go i H/\∃N:St->Hp->Prop,Y9X (N σ' H'->∃m',m' < m/\W (i+1) m' σ' H') ((Ite b l n).yld i H x H'->g x σ H' (Y53 ({ D with nx:=N,ct:=N,bk:=D.nx })))):=by
 refine YaR (m=Y4g i/\Y4P i/\Y31) (Y1Z _ Y0H h0);rintro i m σ H ⟨rfl,r,p⟩;have a:=hl i σ H p;by_cases hlt:Y59
 ·have h:Y0q=some xs[i]:=aB hlt;refine .inr ⟨⟨xs,_,a,h⟩,Pv (i+1),λσ' H' j=>Y3y Oo hlt j,λv H' y=>?_⟩;obtain⟨q,x,rfl,c,rfl,d⟩:=y;exact hs i x q σ H _ (d xs a) p c bP (aU.upd c)
 ·have e:Y4Q i:=Oo;subst e;exact Y1Y ⟨xs,a,Yq⟩ (hd σ H p)
end
end L2
namespace L2
open PySem PySem.Spec PySem.W PyProof.Rows HT
@[irreducible] def HA:Y1v:=λxs H Q=>∃(d:Addr) (kvs:Yt),xs=Y6D d/\H d=Y1c/\Y6N 1000/\Y3g (H D=none) (Y0x=Y0t->DZ H' kvs ys->Y1->Y1g)
def rlst{H:Hp}{Q:VK}{d:Addr}{kvs:Yt}(h:H d=Y1c)(hz:Y6N 1000)(q:Y3g (H D=none) (Y0x=Y0t->DZ H' kvs ys->Y1->Y1g)):HA (Y6D d) H Q:=by
 unfold HA;exact Y6H d kvs h hz q
def LE{X:Cx}(hc:Y1z):Ybi X "list" HA:=by
 unfold HA;intro α s σ H τ φ Q I r h;obtain⟨d,j,rfl,J,ο,q⟩:=h;obtain⟨u,rfl,η⟩:=oH r;cases η;obtain⟨z,ε,o,R,N,U,υ,S,L,P⟩:=aC7 I J;have g:Y0D U.size:=Y2Z (show U.size<=1000 by exact Oo);refine kdl_call (QO z N S) (Y9M) R g λρ γ a κ μ D C=>?_;obtain⟨ξ,O⟩:=C;have A:∃c:Al,eK c a.toList/\DZ H j c:=by
  have M:∀(n:Nat) (l:Ag),l.length=n->∀(m:Yt),m.length=n->(∀(i:Nat) v p,l[i]?=Yy->m[i]?=some p->∃b,v=Y0k/\H b=Yj (p.1.map kV))->∃c:Al,eK c l/\DZ H m c:=by
   intro n
   induction n with
   | zero =>
    intro l G m z _;cases l with
    | nil=>cases m with
     | nil=>exact Y3E [] .nil (λi p h=>by simp at h)
     | cons _ _=>simp at z
    | cons _ _=>simp at G
   | succ n ih =>
    intro l G m z T;cases l with
    | nil=>simp at G
    | cons v l=>cases m with
     | nil=>simp at z
     | cons p m =>
      obtain⟨b,rfl,θ⟩:=T 0 v p rfl rfl;obtain⟨c,A,B,O⟩:=ih l (by simpa using G) m (by simpa using z) λi v p y w=>T (i+1) v p (by simpa using y) (by simpa using w);refine⟨Y0k::c,.cons rfl A,by simp[B],λi q J=>?_⟩;cases i with
      | zero=>cases(show p=q by simpa using J);exact Y04 b θ
      | succ i =>
       obtain⟨β,y,w⟩:=O i q (by simpa using J);exact⟨β,by simpa using y,w⟩
  refine M j.length a.toList (by rw[Array.length_toList,ξ,L]) j rfl λi v p y w=>?_;obtain⟨δ,e⟩:=O i v (by rw[<-Array.getElem?_toList];exact y);obtain⟨b,ι,ζ⟩:=P i δ p w;exact⟨b,by rw[e,ι],ζ⟩
 obtain⟨c,A,B⟩:=A;have W:=Yfh;have Z:aU H (Y7D H c):=aU.upd W;refine Y0O Y2R (Y7D H c) (I.laid (t':=γ) μ (Yq) ⟨by have:=B.1;exact Oo,a.toList,κ,A,by rw[Array.toArray_toList];exact D⟩) (q _ c _ W bP ⟨B.1,λi p ν=>?_⟩ Z);obtain⟨b,y,w⟩:=B.2 i p ν;exact⟨b,y,Z _ _ w⟩
end L2
namespace L2
open PySem PySem.Spec PyProof.Rows
@[irreducible] def QA:V->Y1v:=λx vs H Q=>∃(l:Addr) (ns:Af) (m:Int) (j:Nat),x=Y1m/\vs=[Y5L]/\H l=Y9S/\ns[j]?=Y9a/\(∀i,i<j->ns[i]? ≠ Y9a)/\Y6b 1000/\Y1S (j:Int)
def aIY{H:Hp}{l:Addr}{ns:Af}{m:Int}{j:Nat}{Q:VK}(h:H l=Y9S)(h1:ns[j]?=Y9a)(h2:∀i,i<j->ns[i]? ≠ Y9a)(hz:Y6b 1000)(q:Y1S (j:Int)):QA (Y1m) [Y5L] H Q:=by
 unfold QA;exact⟨l,ns,m,j,rfl,rfl,h,h1,h2,hz,q⟩
theorem rT:∀{ns:Af}{us:Ag}{m:Nat},eK (ns.map V.int) us->(hm:m<us.length)->∃s t,ns[m]?=some s/\us[m]=.int s t
 | s::ns,u::us,0,h,_=>by
  cases h with
  | cons r _=>obtain⟨t,e⟩:=(show ∃t,u=Value.int s t from r);exact⟨s,t,rfl,e⟩
 | s::ns,u::us,m+1,h,hm=>by
  cases h with
  | cons _ hr =>
   obtain⟨d,t,c,a⟩:=rT hr (m:=m) (by simpa using hm);exact⟨d,t,c,a⟩
 | [],us,m,h,hm=>by cases h;simp at hm
def RD(a b:Int):eqV (.int a) (.int b)=Y0R a b:=by
 show(a == b)=_;by_cases h:a=b
 ·subst h;simp
 ·simp[h]
theorem CU:∀ns:Af,(ns.map V.int).all zR=true
 | []=>rfl
 | s::ns=>by show(zR (V.int s)&&(ns.map V.int).all zR)=true;rw[CU ns];rfl
def ZO{ns:Af}{m:Int}(h:m∈ns):∃j:Nat,ns[j]?=Y9a/\∀i,i<j->ns[i]? ≠ Y9a:=by
 induction ns with
 | nil=>cases h
 | cons a ns ih =>
  by_cases e:a=m
  ·exact⟨0,by rw[e];rfl,λi c=>Oo⟩
  ·obtain⟨j,d,g⟩:=ih ((bK.mp h).resolve_left (Y5G z.symm));refine⟨j+1,d,λi c=>?_⟩;cases i with
   | zero=>intro z;exact e (by simpa using z)
   | succ i=>exact g i Oo
section
variable{X:Cx}
def aBT:MtR X "list.index" QA:=by
 unfold QA;intro J s σ H x T v W Q I N rv h;obtain⟨l,C,m,j,rfl,rfl,S,G,O,U,q⟩:=h;cases N;obtain⟨u,rfl,ru⟩:=oH rv;obtain⟨t,rfl⟩:=(show ∃t,u=Value.int m t from ru);obtain⟨z,a,n,r,L,e⟩:=I.lstM S;have P:j<C.length:=(aC.mp G).1;have c:j<a.toArray.size:=by rw[bM,<-L,aA];exact P
 have g:eqU (Y5L) a.toArray[j]=true:=by
  obtain⟨D,R,d,A⟩:=rT r (m:=j) (by simpa using c);rw[G]at d;cases d;rw[show a.toArray[j]=a[j]'(by simpa using c)from rfl,A];show eqV (Y5L) (Y5L)=true;rw[RD];simp
 have B:∀i (w:i<a.toArray.size),i<j->Yx (eqU (Y5L) a.toArray[i]):=λi w p=>by
  obtain⟨D,R,d,A⟩:=rT r (m:=i) (by simpa using w);rw[show a.toArray[i]=a[i]'(by simpa using w)from rfl,A];show Yx (eqV (.int D) (Y5L));rw[RD];exact cD λz=>O i p (by rw[d,z])
 exact call_meets F.slot_list_index (Y1o e) F.entry_list_index (F.args_list_index_2 _ _) (SeqAt.list_indexAt l a.toArray n none #[] (Y51 m) (eqU (Y5L)) j c Oo g B) ⟨e,λy M=>JV (x:=Y5L) ⟨t,rfl⟩ rfl r (CU C) y (by simpa using M),⟨.int _,H,Y1b,Y1N,q⟩⟩
end
end L2
namespace Mf
end Mf
abbrev a00:Y05:=["one","other"]
abbrev a01:Y05:=["_law_one","_law_other"]
abbrev a02:Y05:=["_law_feed_here","_law_many"]
abbrev a03:Y05:=["_law_n","_law_d"]
abbrev a04:Y05:=["_law_trial","_law_aim_here","_law_due"]
abbrev a05:Y05:=["number","above_nought"]
abbrev a06:Y05:=["trial","way","counts"]
abbrev a07:Y05:=["faces","table"]
abbrev a08:Y05:=["trial","aim","prices","counts","worth_of"]
abbrev a09:Y05:=["weighing","best_at"]
abbrev a12:Y05:=["trial","rule","way"]
abbrev a13:Y05:=["_law_feed_here","_law_ways","_law_most"]
abbrev a14:Y05:=["self","ends","own"]
abbrev a15:Y05:=["self","column","thing"]
abbrev a16:Y05:=["rows","steps","place","out"]
abbrev a17:Y05:=["trial","rule","way","costs"]
abbrev a18:Y05:=["trial"]
abbrev a19:Y05:=["self","trial","aim"]
abbrev a20:Y05:=["master"]
abbrev a21:Y05:=["_law_feed_here"]
abbrev a23:Y05:=["weighing","factors","cost_factor"]
abbrev a24:Y05:=["_law_script"]
abbrev a25:Y05:=["trial","aim"]
abbrev a26:Y05:=["weighing","master","cost_unit"]
abbrev a27:Y05:=["some"]
abbrev a28:Y05:=["faces","many"]
abbrev a29:Y05:=["_law_feed_here","_law_faces"]
abbrev a30:Y05:=["rows","steps","out","parts"]
abbrev a31:Y05:=["faces","weighing","master"]
abbrev a32:Y05:=["some","others"]
abbrev a33:Y05:=["weighing","counts"]
abbrev a34:Y05:=["counts"]
abbrev a35:Y05:=["many","place"]
abbrev a39:Y05:=["self","costs"]
abbrev a40:Y05:=["trial","aim","prices"]
abbrev a41:Y05:=["rising","some","unit"]
abbrev a42:Y05:=["trial","aim","counts"]
abbrev a43:Y05:=["rule"]
abbrev a44:Y05:=["one","unit"]
abbrev a45:Y05:=["one","other","share"]
abbrev a46:Y05:=["counts","face"]
abbrev a47:Y05:=["trial","rule","aim"]
abbrev a48:Y05:=["faces","most"]
namespace Kw
open PySem L2 Mf
def top(i:Nat):Stmt:=PySem.Challenge.pw_earlystop_k58_least_costs_known.main.body.getD i (.Pass ⟨0,0,0,0⟩)
structure Cl where
 ONE:Addr
 NOUGHT:Addr
 Weighing:Addr
 Master:Addr
 tok_LOOKS_ON:Tok
 tok_ROOM:Tok
 tok_LACK:Tok
 tok_RULE:Tok
 tok_NONE:Tok
structure jC(K:Aa)(mg:Y0C)(c:Cl):Prop where
 b_list:mg "list" = none
 b_len:mg "len" = none
 b_abs:mg "abs" = none
 b_range:mg "range" = none
 b_sum:mg "sum" = none
 b_zip:mg "zip" = none
 b_reversed:mg "reversed" = none
 b_tuple:mg "tuple" = none
 b_sorted:mg "sorted" = none
 b_int:mg "int" = none
 b_min:mg "min" = none
 b_enumerate:mg "enumerate" = none
 b_any:mg "any" = none
 b_repr:mg "repr" = none
 g_ONE:mg "ONE" = Y3 c.ONE
 g_NOUGHT:mg "NOUGHT" = Y3 c.NOUGHT
 g_LOOKS_ON:mg "LOOKS_ON" = some (.int 0 c.tok_LOOKS_ON)
 g_ROOM:mg "ROOM" = Y8J "room" c.tok_ROOM
 g_LACK:mg "LACK" = Y8J "lack" c.tok_LACK
 g_RULE:mg "RULE" = Y8J "rule" c.tok_RULE
 g_NONE:mg "NONE" = Y8J "none" c.tok_NONE
 g_Master:mg "Master" = Y3 c.Master
 w_Master:Own K c.Master ["rows","parts","standing"]
 g_Weighing:mg "Weighing" = Y3 c.Weighing
 w_Weighing:Own K c.Weighing ["rising","units","weights","cost_unit","costs"]
 o_ONE:vZ K c.ONE [1,1]=true
 o_NOUGHT:vZ K c.NOUGHT [0,1]=true
abbrev sQ8:Stmt:=(top 83)
def cQ8:Ye a24 a24 sQ8:={}
abbrev sQ7:Stmt:=(top 84)
def cQ7:Ye ["_law_feed_here","_law_many","_law_found","_law_at","_law_cells","_law_cell","_law_number"] a02 sQ7:={}
abbrev sQ9:Stmt:=(top 85)
def cQ9:Ye ["_law_n","_law_d","_law_one","_law_other"] a03 sQ9:={}
abbrev aEw:Stmt:=(top 91)
def LJ:Ye ["_law_feed_here","_law_many","_law_whole","_law_found","_law_left","_law_k","_law_part","_law_at"] a02 aEw:={}
def CT{b:Bool}{A B:Prop}(h:b=true)(k:A):if b=true then A else B:=by rw[h,Yo];exact k
def tF{b:Bool}{A B:Prop}(h:Yx b)(k:B):if b=true then A else B:=by rw[h,Y2B];exact k
def WR{K:Aa}{H H':Hp}{a:Addr}{xs:Al}(s:Y1)(h:Y35 K H a):Y35 K H' a:=by
 rcases h with(h | ⟨o,h⟩) | h
 ·exact Ycw (s _ _ h)
 ·exact .inl (Y2E o (s _ _ h))
 ·exact .inr h
theorem bG.take{H:Hp}:∀{ds:Y0Z}{vs:Al}(n:Nat),Y7l->Y1q (ds.take n) (vs.take n)
 | [],_,n,h=>by cases(show _=[]from h);rw[List.take_nil,List.take_nil];exact bG.nil
 | d::ds,_,0,h=>bG.nil
 | d::ds,_,n+1,h=>by
  unfold bG at h;obtain⟨x,xs,rfl,h1,h2⟩:=h;exact bG.cons h1 (bG.take n h2)
theorem bG.drop{H:Hp}:∀{ds:Y0Z}{vs:Al}(n:Nat),Y7l->Y1q (ds.drop n) (vs.drop n)
 | [],_,n,h=>by cases(show _=[]from h);rw[List.drop_nil,List.drop_nil];exact bG.nil
 | d::ds,_,0,h=>h
 | d::ds,_,n+1,h=>by
  unfold bG at h;obtain⟨x,xs,rfl,h1,h2⟩:=h;exact bG.drop n h2
def EA(n:Nat)(d:PyData):Prop:=PyData.canLay0 d=true/\PyData.depth d<=n
theorem EA.all{n:Nat}:∀{ds:Y0Z},(∀d∈ds,EA n d)->PyData.canLayAll0 ds=true/\Yfv<=n
 | [],_=>⟨rfl,cP _⟩
 | d::ds,h=>by
  obtain⟨h1,h2⟩:=h d (aS ..);obtain⟨a,g⟩:=EA.all λe c=>h e (aY _ c);refine⟨?_,?_⟩
  ·show(PyData.canLay0 d&&PyData.canLayAll0 ds)=true;rw[h1,a];rfl
  ·show max (PyData.depth d) (PyData.depthAll ds)<=n;exact Oo
def EA.tup{n:Nat}{ds:Y0Z}(h:∀d∈ds,EA n d):EA (n+1) (.tuple ds):=⟨(EA.all h).1,by have:=(EA.all h).2;show Yfv+1<=n+1;exact Oo⟩
def EA.lst{n:Nat}{ds:Y0Z}(h:∀d∈ds,EA n d):EA (n+1) (.list ds):=⟨(EA.all h).1,by have:=(EA.all h).2;show Yfv+1<=n+1;exact Oo⟩
theorem EA.int(i:Int):EA 1 (Y1d):=Y0I (by simp[PyData.depth])
def EA.ok{n:Nat}{d:PyData}(h:EA n d)(hn:n<=64:=by decide):Y6n d:=by
 unfold SeqAt.shaped;rw[h.1,Bool.true_and];exact cN (by have:=h.2;exact Oo)
def aFJ{z:Int}(h:(10:Int)^Int.toNat 18<=z):0<=z:=Int.le_trans Dd h
abbrev fdD(L:Addr)(t l:Int):Y2K:=[(.inr "cells",.ref L),(.inr "at",.int t),(.inr "left",.int l)]
structure gO(H:Hp)(p L:Addr)(n:Nat):Prop where
 ex:∃(ns:Af) (t l:Int),H p=Y5s (fdD L t l)/\H L=Y9S/\Y6b 63/\0<=l/\0<=t/\t+n<=1000000000000
def gO.there{H:Hp}{p L:Addr}{n:Nat}(F:gO H p L n):∃o,H p=Yb:=by obtain⟨a,t,l,h,_⟩:=F.ex;exact Y2i h
def gO.ne{H:Hp}{p L q:Addr}{n:Nat}(F:gO H p L n)(hq:H q=none):q≠p:=λe=>by
 subst e;obtain⟨o,h⟩:=F.there;rw[h]at hq;cases hq
def gO.neL{H:Hp}{p L q:Addr}{n:Nat}(F:gO H p L n)(hq:H q=none):q≠L:=λe=>by
 subst e;obtain⟨c,t,l,h,a,_⟩:=F.ex;rw[a]at hq;cases hq
def gO.same{H H':Hp}{p L:Addr}{n:Nat}(F:gO H p L n)(s:Y1):gO H' p L n:=by
 obtain⟨c,t,l,a,e,d⟩:=F.ex;exact⟨c,t,l,s _ _ a,s _ _ e,d⟩
def gO.but{H H':Hp}{p L D:Addr}{n:Nat}(F:gO H p L n)(s:Y6M D)(n1:D≠p)(n2:D≠L):gO H' p L n:=by
 obtain⟨c,t,l,a,e,d⟩:=F.ex;exact⟨c,t,l,s.at (Ne.symm n1) a,s.at (Ne.symm n2) e,d⟩
def gO.less{H:Hp}{p L:Addr}{n m:Nat}(F:gO H p L n)(h:m<=n):gO H p L m:=by
 obtain⟨g,t,l,e,a,d,c,i,r⟩:=F.ex;exact⟨g,t,l,e,a,d,c,i,Oo⟩
theorem gO.t{H H':Hp}{p L:Addr}{n:Nat}(F:gO H p L n)(s:Y14):Y2t:=by
 obtain⟨a,t,l,h,_⟩:=F.ex;exact s.tD h
def gO.like{p L:Addr}(f:Nat->Nat):OL p L (λi H=>gO H p L (f i)) :=
 ⟨λ_ D H1 H2 a c s F=>F.but s a c,λ_ H1 H2 s F=>F.same s,λ_ H' F=>by obtain⟨d,t,l,h,_⟩:=F.ex;exact Y2i h,λ_ H' D F h=>⟨F.ne h,F.neL h⟩⟩
inductive AQ (K:Aa):Ym
 | i {H:Hp} {Q:VK} {E:XK} {a:Addr} {ns:Af} (h:Y6q K H a) (hl:Y6b 63) (k:∀p L H',gO H' p L 1000000000000->Y1->H p=none->H L=none->Y0E p):AQ K Y27 H Q E
inductive fC:Ym
 | i {H:Hp} {Q:VK} {E:XK} {p L:Addr} {n:Nat} {m:Int} (F:gO H p L (n+1)) (h:0<m) (hb:bits m<=64) (k:∀x H',0<=x->x<m->gO H' p L n->Y14->Q (.int x) H'):fC [Y2o,Y5L] H Q E
def bitsle{i:Int}{n:Nat}(h:i.natAbs<2^n):bits i<=n:=PySem.intBits_le_iff.mpr h
@[irreducible] def yD(K:Aa):Sp:=λvs H Q _=>∃(a:Addr) (ns:Af),vs=Y27/\Y6q K H a/\Y6b 63/\∀H',Q (.bl true) H'
def WS{K:Aa}{H:Hp}{a:Addr}{ns:Af}(h:Y6q K H a)(hl:Y6b 63):yD K Y27 H (λv _=>v=Ybw) (Y7E):=by
 unfold yD;exact Y6H a ns h hl (λ_=>rfl)
theorem FY{H:Hp}:∀ns:Af,Y1q YdH Y5i
 | []=>bG.nil
 | n::ns=>bG.cons (dC.int n) (FY ns)
def ZA{ns:Af}:PyData.eqv (.list (YdH)) (.list [])=Y0R ns []:=by
 cases ns <;> simp[PyData.eqv,PyData.eqvAll]
def JK(ns:Af):Y6n (.list (YdH)):=(EA.lst (n:=1) λd hd=>by
 obtain⟨i,_,rfl⟩:=aM.mp hd;exact EA.int i).ok
section
def oQ8(F:Yc "_law_feed" "_law_feed" sQ8)(T:Yf):dP P w K mg base cY 1 f fd a24 (AQ K):=by
 refine F.oky cQ8 YfK;obtain @⟨H,Q,E,a,d,G,C,k⟩:=h;refine Yg;intro I A l s N _;refine Y6h _ (aAY (BK gW (jU sU (by rfl) T.b_list Kk (Y1L (oX PJ (Y02) rS (rQ aI)))) (BK gW aI (BK gW aI aAT))));intro p n;have s0:=aU.upd (o:=.dK []) n;have r:(upd H p (.dK [])) p=Y5s []:=bP;generalize upd H p (.dK [])=H0 at s0 r;refine⟨_,rfl,_,rfl,a,_,rfl,WR s0 G,λm B=>?_⟩;refine Y11 m _ (.inl (gE.of bP)) (λg y=>?_);have J:oC (Y9F) none (some 63)=Y9F:=by
  unfold oC;have:HT.kO (Y9F).length (Y9F).length (some 63)=(Y9F).length:=by
   rw[show((63:Int))=((63:Nat):Int)from rfl,HT.GT,aA];exact Oo
  rw[this,HT.xG,List.drop_zero,Nat.sub_zero];exact List.take_of_length_le (Yq)
 have i:=(aU.upd (o:=.lst (oC (d.map V.int) none (some 63))) B).trans (Yg3 (oC (Y9F) none (some 63)) y);have u:(upd (upd H0 m (.lst (oC (d.map V.int) none (some 63)))) g (.lst (oC (d.map V.int) none (some 63)))) g=Yi Y9F:=by rw[bP,J]
 have j:H0 g=none:=(aU.upd B).free y;generalize upd (upd H0 m (.lst (oC (d.map V.int) none (some 63)))) g (.lst (oC (d.map V.int) none (some 63)))=H2 at i u;have L:g≠p:=λz=>by rw[z,r]at j;cases j
 refine Y11 (i _ _ r) (fdD g 0 0) (by show 3<=15;decide) (k p g _ ⟨d,0,0,?_,?_,C,Dd,Dd,Dd⟩ ?_ n (s0.free j))
 ·rw[bP];rfl
 ·rw[L2.fF L];exact u
 ·intro b o h;have D:b≠p:=λe=>by subst e;rw[n]at h;cases h
  rw[L2.fF D];exact i _ _ (s0 _ _ h)
def oQ7(F:Yc "_law_draw" "_law_draw" sQ7)(T:Yf):dP P w K mg base cY 1 f fd a02 fC:=by
 refine F.oky cQ7 λρ H Q E h=>?_;obtain @⟨H,Q,E,p,L,n,m,F,u,ζ,k⟩:=h;refine Yg;intro ν A U s g _;obtain⟨a,t,l,B,I,R,δ,ψ,υ⟩:=F.ex;refine⟨_,(aH (iE (eB zO (gU g.u1 Y02 gW) aI) (aH (Y10 cQ7.nd (cC qB (gU g.u1 Y02 gW) (Y0m)))
  (aH (jA g.u1 (Y02) gW (cC gG (gU g.u1 Y02 gW) (Y0m)))
  (Y2p 2))) fA)
  (aH (Y0J cQ7.nd (gU g.u1 Y02 gW))
  (aH (jA g.u1 (Y02) gW (Y2L fQ 3))
  (aH (Y2A cQ7.nd (gU g.u1 Y02 gW))
  (aH (tL (Y7M cQ7.nd (lP (Y1x (aE2 g.units) 4 (hZ aQ)) (Y48 4 (cC qB (aD 3) (Y9R oE (by rfl) 4))) (Y2G dI 3 3))))
  (aH (iE (OR (SL (BJ (Y1x aCZ 5 (cC aE0 aI aI)) (wG (Y1x vK 3 (Y9R oE (by rfl) 4)))))) (aH (jA g.u1 (Y02) gW (Y2G gG 5 1))
  (Y0V (Y2G qB 5 1))) fA)
  (aH (Y9U cQ7.nd (cC qB (cC dI (Y4Y (Y2L qB 5) aI) (Y4Y aI (cC dI aI (Y0B)))) aI))
  (Y0V (cC qB (cC gG (cC qB (Y4Y (Y2L dI 6) (cC dI (Y2G dI 3 3) aI)) aI) aI) (Y0m)))))))))),?_⟩
 refine Yu;intro M N;refine Y7 (dgS B rfl ?_);refine Y3O _ _ _ (tH (λο=>?_) (λο=>?_))
 ·refine Y7 (dgS B rfl ?_);refine Y6E _ _ _ rfl u (Y7 (dgS B rfl ?_));refine Y6E _ _ _ rfl ⟨u,Y2Z ζ⟩ Y6;refine dpS (kvs2:=fdD L t (l/m)) B (by show 3<=64;decide) rfl λH2 X r=>?_;have O:L≠p:=λz=>by rw[z,B]at I;cases I
  exact Y7 (k _ H2 (YfG _) (Yfq u) ⟨a,t,l/m,X,r.at O I,R,Int.ediv_nonneg δ Oo,Oo,Oo⟩ r)
 ·have O:L≠p:=λz=>by rw[z,B]at I;cases I
  refine Y7 (dgS B rfl ?_);refine Ys;intro M N;refine⟨_,rfl,_,_,rfl,rfl,_,rfl,?_⟩;refine dpS (kvs2:=fdD L (t+1) l) B (by show 3<=64;decide) rfl λH1 C W=>Y3J;intro M N;have e:=W.at O I;refine Y7 (dgS C rfl ?_);refine Ys;intro M N;have γ:bits t<=64:=PySem.intBits_le_64 Oo Oo;have α:bits (7919:Int)<=64:=Kk;have F2:∀{H3:Hp},aU H1 H3->gO H3 p L n:=λy=>⟨a,t+1,l,y _ _ C,y _ _ e,R,δ,Oo,Oo⟩;refine Y74 (λσ H3=>∃D:Int,σ=[Y2e,Y9 m,none,Y9 t,Y3 L,Y9 D,none]/\aU H1 H3)
  ·rintro σ H3 ⟨D,rfl,y⟩;refine Y3J;intro M N;have β:=y _ _ C;have J:=y _ _ e;refine Y74 (λb H4=>H4=H3/\(b=true->0<=D))
   ·refine⟨_,rfl,_,_,rfl,rfl,⟨Dd,Dd,Dd⟩,_,_,rfl,rfl,_,rfl,tH (λη=>?_) (λη=>?_)⟩
    ·refine Y08 (rlL J ?_);exact⟨_,_,rfl,rfl,_,rfl,rfl,λ_=>aFJ η⟩
    ·exact Y0I (λh=>by cases h)
   ·rintro b H4 ⟨rfl,G⟩;cases b with
    | true =>
     have G:=G rfl;refine sO Yu;intro M N;refine⟨_,rfl,_,rfl,_,_,rfl,rfl,⟨u,Y2Z ζ⟩,Y6⟩;refine dpS (kvs2:=fdD L (t+1) (D/m)) β (by show 3<=64;decide) rfl λH5 Z ε=>⟨_,rfl,_,rfl,_,_,rfl,rfl,u,?_⟩;exact k _ H5 (YfG _) (Yfq u) ⟨a,t+1,D/m,Z,ε.at O J,R,Int.ediv_nonneg G Oo,Oo,Oo⟩ ((W.trans y.but).trans ε)
    | false =>
     refine rB ?_;have τ:=Int.emod_nonneg D (b:=2147483629) Dd;refine⟨_,rfl,_,_,rfl,rfl,(by show(0:Int)<2147483629;decide),_,_,rfl,rfl,_,rfl,_,_,rfl,rfl,IntMulOk.of_left α,_,_,rfl,rfl,_,_,rfl,rfl,IntMulOk.of_left (PySem.intBits_le_64 Oo Oo),_,_,rfl,rfl,(by show(0:Int)<2147483647;decide),?_⟩;generalize (D % 2147483629+1)*(48271+7919*t) % 2147483647=z;exact⟨_,rfl,_,_,rfl,rfl,IntMulOk.of_right Kk,_,rfl,_,rfl,_,_,rfl,rfl,IntMulOk.of_left γ,_,_,rfl,rfl,IntMulOk.of_right Kk,_,_,rfl,rfl,_,_,rfl,rfl,(by show(0:Int)<2147483399;decide),_,_,rfl,rfl,Ya7 Kk,_,rfl,_,_,rfl,rfl,u,k _ H4 (YfG _) (Yfq u) (F2 y) (W.trans y.but)⟩
  ·refine Y6;refine zZ (by show 0<=64;decide) λφ H2 ι θ r=>reD (d:=.list (a.map PyData.int)) (d':=.list []) (dC.lst (r _ _ e) (FY a)) (dC.lst θ bG.nil) (JK a) rfl ?_;rw[ZA];refine Y6;by_cases ens:a=[]
   ·exact tF (by rw[cN ens];rfl) ⟨_,rfl,_,rfl,_,_,rfl,rfl,IntMulOk.of_left γ,Y7 r⟩
   ·refine CT (by rw[cD ens];rfl) ?_;have χ:0<a.length:=List.length_pos_iff.mpr ens;refine Y2J (rlL (r _ _ e) ?_);rw[aA];refine Y6H _ _ rfl Oo ?_;have κ:=Ydp t (a.length:Int);have ω:=Int.emod_lt_of_pos t (b:=(a.length:Int)) Oo;have ξ:∃z,a[(t % (a.length:Int)).toNat]?=Y99:=Y8e;obtain⟨z,μ⟩:=ξ;have S:IF (Yex) (t % (a.length:Int))=Y9 z:=by
     have:=dR (xs:=Yex) (j:=(t % (a.length:Int)).toNat) (v:=V.int z) (by rw[aF,μ];rfl)
     rwa [Int.toNat_of_nonneg κ]at this
    exact vN (r _ _ e) S (Y7 r)
end
abbrev iR(f:Fr):PyData:=.tuple [.int f.1,.int f.2]
def aFr{H:Hp}{f:Fr}{v:V}(h:Y3D H f v):∃a,v=Yn/\H a=Yj [.int f.1,.int f.2]:=by
 unfold dC bG bG bG at h;obtain⟨a,_,rfl,d,x,_,rfl,e,y,_,rfl,c,rfl⟩:=h;cases(show x=V.int f.1 from e);cases(show y=V.int f.2 from c);exact Y04 a d
def eV{H:Hp}{f:Fr}{a:Addr}(h:H a=Yj [.int f.1,.int f.2]):Y3D H f Yn:=Ya1 h Y8R Y8R
def eI(f:Fr):iS (iR f)=true:=rfl
def jE(K:Aa)(H:Hp)(f:Fr)(x:V):Prop:=∃a,x=Yn/\jQ K H a [.int f.1,.int f.2]
theorem jE.of{K:Aa}{H:Hp}{f:Fr}{x:V}(h:Y3D H f x):jE K H f x:=by
 obtain⟨a,e,h⟩:=aFr h;exact Y29 e (jQ.of h)
def jE.new{K:Aa}{H:Hp}{f:Fr}{a:Addr}(h:H a=Yj [.int f.1,.int f.2]):jE K H f (Yn):=Y04 a (jQ.of h)
def jE.same{K:Aa}{H H':Hp}{f:Fr}{x:V}(s:Y1)(h:jE K H f x):jE K H' f x:=by
 obtain⟨a,e,h⟩:=h;exact Y29 e (h.keep s)
def jE.k{K:Aa}{H:Hp}{f:Fr}{x:V}(h:jE K H f x):uH K H (iR f) x:=by
 obtain⟨a,rfl,h⟩:=h;exact uH.tup h (oI.ints [f.1,f.2])
def sV(k:Nat)(f:Fr):Prop:=f.1.natAbs<2^k/\f.2.natAbs<2^k
inductive sY:Ym
 | i {H:Hp} {Q:VK} {E:XK} {n d:Int} (h:0<d) (q:Y1S (Y9Z n)):sY [Y5K,.int d] H Q E
def AD(H:Hp)(Q:VK)(f:Fr):Prop:=∀q H',H q=none->H' q=Yj [.int f.1,.int f.2]->Y1->Y0E q
inductive kH (K:Aa):Ym
 | i {H:Hp} {Q:VK} {E:XK} {x y:V} {f g:Fr} (h1:jE K H f x) (h2:jE K H g y) (l1:Y0b) (l2:eJ g) (z1:Y4z) (z2:Y3G g) (q:AD H Q (mO f g)):kH K [x,y] H Q E
inductive sB (K:Aa):Ym
 | i {H:Hp} {Q:VK} {E:XK} {x y:V} {f g:Fr} (h1:jE K H f x) (h2:jE K H g y) (z1:Y4z) (z2:Y3G g) (q:Y34 (Y22 (f.1*g.2) (g.1*f.2))):sB K [x,y] H Q E
def aFo{n d:Int}(h:0<d):(Int.gcd n d:Int)<=d:=Int.le_of_dvd h (Yc4 n)
def yQ{n d:Int}{k:Nat}(h:0<d)(z:d.natAbs<2^k):(Int.gcd n d:Int).natAbs<2^k:=by
 have:=aFo (n:=n) h;have:=YcP h;exact Oo
def pU{n d:Int}(h:0<d)(z:d.natAbs<2^9000):aAB n d:=⟨h,IC z⟩
def lC{i:Int}{n m:Nat}(h:i.natAbs<2^n)(k:n<=m:=by decide):i.natAbs<2^m:=Y66 h k
def rV{i j:Int}{n:Nat}(h:i.natAbs<2^n)(hj:0<j):(i/j).natAbs<2^n:=aJ (by
 have:=Int.natAbs_ediv_le_natAbs i j;exact this) h
def MN{i j:Int}{n m:Nat}(h1:i.natAbs<2^n)(h2:j.natAbs<2^m):(i*j).natAbs<2^(n+m):=by
 rw[dD,Nat.pow_add];exact Nat.mul_lt_mul'' h1 h2
abbrev zW(fs:Ak):PyData:=YfX iR
theorem mH:∀fs:Ak,kC (fs.map iR)=true
 | []=>rfl
 | f::fs=>by show(iS (iR f)&&kC (fs.map iR))=true;rw[mH fs];rfl
def lV(fs:Ak):iS (zW fs)=true:=mH fs
inductive gM:Ym
 | i {H:Hp} {Q:VK} {E:XK} {n d:Int} (h:0<d) (z:d.natAbs<2^9000) (q:AD H Q (lw n d)):gM [Y5K,.int d] H Q E
section
def oQ9(F:Yc "_law_frac" "_law_frac" sQ9)(T:Yf):dP P w K mg base cY 1 f fd a03 gM:=by
 refine F.oky cQ9 λO H Q E h=>?_;obtain @⟨H,Q,E,n,d,hd,I,q⟩:=h;refine Yg;intro J A g s R _;refine⟨_,(aH (Y10 cQ9.nd (iV aAb (by rfl) T.b_abs Kk (Y4b 0)))
  (aH (Y0J cQ9.nd Y0m)
  (aH (wH PassesOwn.never (Y1x zO 3 aI) (aR (aDk (i:=2) (j:=3) rfl cQ9.nd rfl rfl Dd rfl rfl (Y4O 3 (Y2G qB 2 3)) rfl)))
  (Y6g (Y2G gG 0 2) (Y2G gG 1 2))))),?_⟩
 refine Yu;intro z B;refine Y7 (raI ?_);refine Ys;intro z B;refine Y7 Ys;intro z B;refine AJ (λm σ H'=>Ex2 λ(u v:Int)=>An6 (σ=[Y9 n,Y9 d,Y9 u,Y9 v]) (0<=v) ((Int.gcd u v)=(Y9Z n)) ((v=0->0<u)) (H'=H) (m=v.toNat))
  (λσ H'=>σ=[Y9 n,Y9 d,Y9 (Y9Z n),Y9 0]/\H'=H)
  _ ⟨(n.natAbs:Int),d,rfl,Oo,by rw[Int.gcd_eq_natAbs_gcd_natAbs,Int.gcd_eq_natAbs_gcd_natAbs,Int.natAbs_natCast],Oo,rfl,rfl⟩ ?_ ?_
 ·rintro m σ H2 ⟨u,v,rfl,S,a,D,rfl,rfl⟩;refine⟨_,rfl,_,_,rfl,rfl,_,rfl,Y5B⟩
  ·refine⟨_,rfl,_,rfl,_,rfl,_,_,rfl,rfl,e,_,_,rfl,?_⟩;have l:=Int.emod_lt_of_pos u e;have C:=Ydp u v;exact⟨_,Oo,v,u % v,rfl,C,by rw[KH,a],λ_=>e,rfl,rfl⟩
  ·have r:v=0:=Oo;subst r;have M:=D rfl;have l:=QV M;rw[a]at l;rw[l];exact Y73
 ·rintro σ H2 ⟨rfl,rfl⟩;have a:=YcP hd;have y:aAB n (Int.gcd n d:Int):=pU a (yQ hd I);refine⟨_,rfl,_,rfl,_,_,rfl,rfl,y,⟨_,rfl,_,rfl,_,_,rfl,rfl,y,?_⟩⟩;exact pJ (by show 2<=64;decide) λp H3 N L G=>q p H3 N L G
end
def LV:Nat:=2512440
structure MC(m:Nat)(fs:Ak):Prop where
 ex:∃(ps:Af) (W:Int),ps.length=m/\(∀x∈ps,0<=x/\x<=W)/\ps.sum=W/\0<W/\W<=997/\W.natAbs ∣ LV/\fs=ps.map λx=>lw x W
def MC.len{m:Nat}{fs:Ak}(h:MC m fs):Y6S m:=by
 obtain⟨c,W,a,_,_,_,_,_,rfl⟩:=h.ex;rw[aA,a]
def MC.at{m:Nat}{fs:Ak}(h:MC m fs):∀f∈fs,Fn LV 1 f/\0<=f.1:=by
 obtain⟨i,W,j,g,_,c,l,d,rfl⟩:=h.ex;intro f a;obtain⟨x,e,rfl⟩:=aM.mp a;have:=g x e;exact⟨(Fn.of c Oo).dvd d,YeZ this.1 _⟩
def MC.bits{m:Nat}{fs:Ak}(h:MC m fs):∀f∈fs,f.1.natAbs<=997/\f.2.natAbs<=997:=by
 obtain⟨g,W,i,e,_,a,j,l,rfl⟩:=h.ex;intro f c;obtain⟨x,d,rfl⟩:=aM.mp c;have:=e x d;have q:=QH (n:=x) a;have p:=(kB (n:=x) a).pos;exact Oo
def aA7:∀x:Nat,1<=x->x<=10->x ∣ LV:=by
 intro x c a;have:∀x,x<=10->1<=x->x ∣ LV:=by unfold LV;decide
 exact this x a c
def SW{W:Int}(h:(1<=W/\W<=10)\/W=997):W.natAbs ∣ LV:=by
 rcases h with h | rfl
 ·exact aA7 _ Oo Oo
 ·show 997 ∣ 2512440;decide
inductive mT:Ym
 | i {H:Hp} {Q:VK} {E:XK} {p L:Addr} {n m:Nat} (F:gO H p L (n+12)) (m0:0<m) (m5:m<=5) (k:∀v fs H',gO H' p L n->Y14->Y2Q (zW fs) v->MC m fs->Y1H):mT [Y2o,.int (m:Int)] H Q E
def aBh(l:Af)(a:Nat):(l.drop a++l.take a).sum=l.sum:=by
 rw[List.sum_append,Int.add_comm,<-List.sum_append,List.take_append_drop]
section
def aIQ(F:Yc "_law_shares" "_law_shares" aEw)(T:Yf)
  (FQ7:Y00 "_law_draw" a02 fC) (FQ9:Y00 "_law_frac" a03 gM):dP P w K mg base cY 2 f fd a02 mT:=by
 refine F.oky LJ λB H Q E h=>?_;obtain @⟨H,Q,E,p,L,n,m,F,m0,m5,k⟩:=h;refine Yg;intro cdv A outer s hr _;refine⟨_,(aH (Y10 LJ.nd (Y4u (hZ (bB (Y7t 0) (bB (Y7t 0) (Y2j (Y7t 0) aI)))) (Y4a FQ7 0 aI)))
  (aH (Y0J LJ.nd (hZ aQ))
  (aH (Y2A LJ.nd Y07)
  (aH (gL PassesOwn.never rfl (Y7N (Y2L lH 1)) (Yan 5 LJ.nd) (aH (Y9U LJ.nd (Y4a FQ7 0 (Y2L fQ 4)))
  (aH (lA (sX PySem.F.plainAttrs_list PySem.F.slot_list_append PySem.F.type_list_append uB Y0B (Y1L (Y3F FQ9 6 2))))
  (aR (Y2A LJ.nd (Y2G lH 4 6))))))
  (aH (lA (sX PySem.F.plainAttrs_list PySem.F.slot_list_append PySem.F.type_list_append uB Y0B (Y1L (Y3F FQ9 4 2))))
  (aH (cK (i:=7) LJ.nd (Y3w FQ7 1))
  (Y0V (Yam dH (by rfl) Kk (Y1L (cC vV (oX (xD K) (Y0B) (rQ (aD 7)) rS) (oX (xD K) (Y0B) rS (rQ (aD 7))))))))))))),?_⟩
 refine Yu;intro R U;refine Y6;refine Y3n (n+11) F (λx1 H1 a1 b1 F1 s1=>Y3O _ _ _ ?_);refine Y3n (n+10) F1 (λx2 H2 a2 b2 F2 s2=>Y3O _ _ _ ?_);refine Y3n (n+9) F2 (λx3 H3 a3 b3 F3 s3=>Y6A _ _);refine zZ (by show 4<=64;decide) λq4 H4 ρ e4 ψ=>Y6;refine Y3n (n+8) (F3.same ψ) (λα H5 a5 b5 F5 s5=>?_);have ω:∃W:Int,IF [V.int (1+x1),V.int (2+x2),V.int (2+x3),V.int 997] α=Y9 W/\((1<=W/\W<=10)\/W=997):=by
  have:α=0\/α=1\/α=2\/α=3:=Oo;rcases this with rfl | rfl | rfl | rfl
  ·exact Y7 (.inl Oo)
  ·exact Y7 (.inl Oo)
  ·exact Y7 (.inl Oo)
  ·exact Y7 Ybv
 obtain⟨W,γ,ω⟩:=ω;refine vN (s5.at (F3.ne ρ) e4) γ (Ys);intro R U;have W0:0<W/\W<=997:=Oo;have b5:aX p H H5:=((((s1.trans s2).trans s3).trans ψ.but).trans s5);clear s1 s2 s3 ψ s5 e4 γ F1 F2 F3;refine zZ (by show 0<=64;decide) λD H6 hD e6 s6=>Ys;intro R U;have F6:=F5.same s6;have κ:=F5.ne hD;have X:=F5.neL hD;have θ:H D=none:=aX.free b5 F5.there hD;refine⟨_,rfl,_,rfl,_,_,rfl,rfl,((m-1:Nat):Int),by show[V.int ((m:Int)-1)]=_;rw[show((m:Int)-1)=((m-1:Nat):Int)by exact Oo],Oo,Oo,?_⟩;rw[Int.toNat_natCast];have wz:W.natAbs<2^9000:=Y6j (show W.natAbs<2^10 by show W.natAbs<1024;exact Oo);refine oU (λi σ H'=>Ex6 λ(o5 o6 τ:Am) (u:Af) (B:Al) (left:Int)=>aJJ (σ=[Y2e,Y9 (m:Int),Y9 W,Y3 D,Y9 left,o5,o6,τ]) (gO H' p L (n+8-i)) (Y14) (Y0x=Yi B) (Y41 ((u.map λx=>lw x W).map iR) B) (u.length=i) ((∀x∈u,0<=x/\x<=W)) (u.sum+left=W) (0<=left) (left<=W))
  ⟨_,_,_,[],[],W,rfl,F6,b5.trans s6.but,e6,bG.nil,rfl,(λx h=>by cases h),by simp,Oo,Oo⟩ ?_ ?_
 ·rintro i σ H7 hi ⟨o5,o6,τ,u,B,left,rfl,F7,ξ,Z,O,N,G,ζ,l0,l1⟩;refine Ybk;intro R U;refine Y7w _ _ _ _ ?_;refine Y9G (n+8-(i+1)) (F7.less Oo) (bitsle (aJ (show(left+1).natAbs<=998 by exact Oo) Dd)) (λx8 H8 a8 b8 F8 s8=>Ys);intro R U;have e8:=s8.at κ Z;refine Y6E _ (VJ e8) _ _ rfl (Y96 W0.1 wz);intro ν H9 χ ο C;have g:=C _ _ e8;have lv:B.length=i:=by rw[O.len,aA,aA,N]
  refine LO g Oo λH10 J e=>Y7w _ _ _ _ ?_;have υ:=F7.t s8;have j:=e.t g;refine⟨_,_,_,u++[x8],B++Y6D ν,left-x8,rfl,(F8.same C).but e κ X,aX.thru θ ((ξ.trans s8).trans C.but) e,J,?_,by rw[aZ,N];rfl,?_,?_,Oo,Oo⟩
  ·rw[bI,bI];exact Ye3 (O.flat ((υ.trans C.t).trans j) (mH _)) j Y2h (eV ο)
  ·intro x d;rcases dO.mp d with d | d
   ·exact G x d
   ·rw[bD.mp d];exact Oo
  ·rw[List.sum_append,List.sum_singleton];exact Oo
 ·rintro σ H7 ⟨o5,o6,τ,u,B,left,rfl,F7,ξ,Z,O,N,G,ζ,l0,l1⟩;refine Y3J;intro R U;refine Y6E _ (VJ Z) _ _ rfl (Y96 W0.1 wz);intro ν H9 χ ο C;have g:=C _ _ Z;have lv:B.length=m-1:=by rw[O.len,aA,aA,N]
  refine LO g Oo λH10 J e=>Y3J;intro R U;have j:=e.t g;have F10:=(F7.same C).but e κ X;have B10:aX p H H10:=aX.thru θ (ξ.trans C.but) e;have I:bG H10 (((u++[left]).map λx=>lw x W).map iR) (B++Y6D ν):=by
   rw[bI,bI];exact Ye3 (O.flat (C.t.trans j) (mH _)) j Y2h (eV ο)
  have y:(u++[left]).length=m/\(∀x∈u++[left],0<=x/\x<=W)/\(u++[left]).sum=W:=by
   refine⟨by rw[aZ,N];show m-1+1=m;exact Oo,λx d=>?_,by rw[List.sum_append,List.sum_singleton];exact Oo⟩;rcases dO.mp d with d | d
   ·exact G x d
   ·rw[bD.mp d];exact Oo
  generalize u++[left]=μ at I y;generalize B++[V.ref ν]=z at I J;clear O G ζ l0 l1 N Z ο g e j F7 ξ C;have lu:z.length=m:=by rw[I.len,aA,aA,y.1]
  refine Y06;refine Y9G n (F10.less Oo) (bitsle (aJ (show((m:Int)).natAbs<=5 by exact Oo) Dd)) (λx H11 a11 b11 F11 M=>?_);obtain⟨a,rfl⟩:∃a:Nat,x=(a:Int):=Y2q x.toNat;have β:=M.at κ J;have r11:=I.flat (F10.t M) (mH _);refine Y4q;refine slL β (ys:=z.drop a) (HY _ _) λq12 H12 hq12 aa ι=>Y4q;refine slL (ι _ _ β) (ys:=z.take a) (RQ _ _) λq13 H13 hq13 e13 δ=>NY (δ _ _ aa) e13 (by rw[List.length_drop,fP];exact Oo) λq14 H14 hq14 φ s14=>Y3E q14 _ (Y8H φ ?_);have η:=Y2y (z.drop a++z.take a) hl;have ε:(upd H14 l (.tup (z.drop a++z.take a))) l=Yj (z.drop a++z.take a):=bP;generalize upd H14 l (.tup (z.drop a++z.take a))=H15 at η ε;have S:=((ι.trans δ).trans s14).trans η;refine k _ ((μ.drop a++μ.take a).map λx=>lw x W) H15 (F11.same S) ((B10.trans M).trans S.but) (dC.tup ε ?_) ⟨μ.drop a++μ.take a,W,?_,?_,?_,W0.1,W0.2,SW ω,rfl⟩
  ·have r:=r11.same S;rw[bI,bI];refine bG.append ?_ ?_
   ·rw[List.map_take,List.map_take];exact bG.take a r
   ·rw[List.map_drop,List.map_drop];exact bG.drop a r
  ·rw[aZ,List.length_drop,fP];exact Oo
  ·intro x d;rcases dO.mp d with d | d
   ·exact y.2.1 x (List.mem_of_mem_drop d)
   ·exact y.2.1 x (List.mem_of_mem_take d)
  ·rw[aBh];exact y.2.2
end
abbrev aEv:Stmt:=(top 92)
def aG5:Ye ["_law_feed_here","_law_way"] a21 aEv:={}
abbrev sQ6:Stmt:=(top 93)
def cQ6:Ye ["_law_feed_here","_law_whole","_law_part"] a21 sQ6:={}
abbrev sQ4:Stmt:=(top 94)
def cQ4:Ye ["_law_feed_here","_law_ways","_law_most","_law_bounds","_law_mix"] a13 sQ4:={}
def bG.atX{H:Hp}{α:Type}{g:Y88 α}{as:Yv}{xs:Al}(r:Ycu g xs){i:Nat}{a:α}(h:as[i]?=Y7e):∃x,Y0q=Y8/\Y1A (g a) x:=by
 induction as generalizing xs i with
 | nil=>simp at h
 | cons b as ih =>
  rw[bE]at r;unfold bG at r;obtain⟨x,e,rfl,d,c⟩:=r;cases i with
  | zero=>cases(show b=a by simpa using h);exact Y04 x d
  | succ i=>exact ih c (by simpa using h)
def oA{H:Hp}{fs:Ak}{v:V}(h:Y6p fs v):∃a xs,v=Yn/\H a=Y12/\Y69 H iR xs:=by
 unfold dC at h;exact h
abbrev wD(w:Y8k):PyData:=.tuple [.str w.1,zW w.2]
abbrev GL(fs:Ah)(ws:Y0A):PyData:=.tuple [YfX .str,.tuple (YcX)]
theorem ER:∀fs:Ah,kC (fs.map PyData.str)=true
 | []=>rfl
 | f::fs=>by show(iS (.str f)&&kC (fs.map PyData.str))=true;rw[ER fs];rfl
def GG(w:Y8k):iS (wD w)=true:=by
 show(iS (.str w.1)&&(iS (zW w.2)&&true))=true;rw[lV];rfl
theorem GA:∀ws:List (Str × Ak),kC (YcX)=true
 | []=>rfl
 | w::ws=>by show(iS (wD w)&&kC (ws.map wD))=true;rw[GG w,GA ws];rfl
def oY(fs:Ah)(ws:Y0A):iS (GL fs ws)=true:=by
 show(iS (YfX .str)&&(iS (.tuple (YcX))&&true))=true;rw[show iS (.tuple (fs.map PyData.str))=kC (fs.map PyData.str)from rfl,ER,show iS (.tuple (ws.map wD))=kC (ws.map wD)from rfl,GA];rfl
theorem zD{H:Hp}:∀fs:Ah,Y69 H PyData.str (fs.map V.str)
 | []=>bG.nil
 | f::fs=>bG.cons (dC.str f) (zD fs)
def nZ{H:Hp}{ds:Y0Z}{v:V}(h:Y1A (.tuple ds) v):∃a xs,v=Yn/\H a=Y12/\Y9O xs:=by unfold dC at h;exact h
def DV{H:Hp}{d e:PyData}{xs:Al}(h:Y1q [d,e] xs):∃x y,xs=[x,y]/\Y4F x/\Y1A e y:=by
 unfold bG bG bG at h;obtain⟨x,_,rfl,a,y,_,rfl,c,rfl⟩:=h;exact Y11 x y a c
def fK{α:Type}{H:Hp}{g:Y88 α}{fs:Yv}{vs:Al}(h:Y69 H g vs){i:Nat}{v:V}(e:vs[i]?=Yy):∃f,fs[i]?=Y6w/\Y1A (g f) v:=by
 obtain⟨d,a,c⟩:=h.get e;rw[aF]at a;cases q:fs[i]? with
 | none=>rw[q]at a;cases a
 | some f=>rw[q]at a;cases a;exact Y04 f c
def kI{α:Type}{H:Hp}{g:Y88 α}{fs:Yv}{vs:Al}(h:Y69 H g vs){i:Nat}{f:α}(e:fs[i]?=Y6w):∃v,vs[i]?=Yy/\Y1A (g f) v :=
 h.get' (by rw[aF,e];rfl)
def hJ{α:Type}{H:Hp}{g:Y88 α}{fs:Yv}{vs:Al}(h:Y69 H g vs):Y4K fs.length:=by rw[h.len,aA]
def gP{α:Type}{l:Yv}{i:Nat}{x:α}(h:l[i]?=Y8):l.take (i+1)=l.take i++[x]:=by
 rw[jV,h];rfl
structure TrC(F W:Nat)(fs:Ah)(ws:Y0A):Prop where
 f:Y6S F
 w:Yd4 W
 sh:∀x∈ws,MC F x.2
 nf:∀s∈fs,(reprText s).length<=20
 nw:∀x∈ws,(reprText x.1).length<=20
def aA5{P:Y1k Str}{ys:Al}(h:∀(i:Nat) (y:V),Y1r=Y09->∃s,y=.str s/\P s):∃ts:Ah,ys=ts.map V.str/\∀t∈ts,P t:=by
 induction ys with
 | nil=>exact Y04 [] (λt h=>by cases h)
 | cons y ys ih =>
  obtain⟨s,rfl,e⟩:=h 0 y rfl;obtain⟨ts,rfl,a⟩:=ih λi z d=>h (i+1) z (by simpa using d);refine Y04 (s::ts) (λt c=>?_);rcases bK.mp c with rfl | c
  ·exact e
  ·exact a t c
section
end
abbrev VC(M:Nat)(bs mix cs:Ak):PyData:=.tuple [.int (M:Int),zW bs,zW mix,zW cs]
def vB(M:Nat)(bs mix cs:Ak):iS (VC M bs mix cs)=true:=by
 show(iS (.int (M:Int))&&(iS (zW bs)&&(iS (zW mix)&&(iS (zW cs)&&true))))=true;rw[lV,lV,lV];rfl
def MD(N B:Nat)(f:Fr):Prop:=Y32/\0<=f.1
inductive xA:Ym
 | i {H:Hp} {Q:VK} {E:XK} {p L:Addr} {n:Nat} (F:gO H p L (n+4)) (k:∀v f H',gO H' p L n->Y14->Y3l f v->MD 27720 1 f->Y1H):xA Y56 H Q E
def QG{n d:Int}(h:0<=n):0<=(lw n d).1:=YeZ h _
def smallz{d:Int}(h:d.natAbs<1024):d.natAbs<2^9000:=Y6j (show d.natAbs<2^10 from h)
section
def oQ6(F:Yc "_law_bound" "_law_bound" sQ6)(T:Yf)
  (FQ7:Y00 "_law_draw" a02 fC) (FQ9:Y00 "_law_frac" a03 gM):dP P w K mg base cY 2 f fd a21 xA:=by
 refine F.oky cQ6 λZ H Q E h=>?_;obtain @⟨H,Q,E,p,L,n,F,k⟩:=h;refine Yg;intro M A j s δ _;refine⟨_,(aH (Y6e cQ6.nd (Y7t 0))
  (aH (Y10 cQ6.nd (Y4u (hZ (bB (Y4a FQ7 0 (Y2L fQ 1)) (bB (cC gG (Y4a FQ7 0 (Y2L fQ 1)) aI) (Y1L aI)))) (Y4a FQ7 0 aI)))
  (Y0V (Y3F FQ9 2 1)))),?_⟩
 refine Yu;intro G U;refine Y6;refine Y3n (n+3) F (λa H1 ι α F1 N=>Y6A _ _);refine Ys;intro G U;have u:bits (1+a+1)<=64:=bitsle (aJ (show(1+a+1).natAbs<=13 by exact Oo) Dd);refine Y7w _ _ _ _ ?_;refine Y9G (n+2) F1 u (λR H2 ε b2 F2 C=>Y7w _ _ _ _ ?_);refine Y9G (n+1) F2 u (λS H3 κ β F3 I=>Y6H _ _ rfl (Ya7 Kk) ?_);refine zZ (by show 3<=64;decide) λX H4 e D r=>Y6;refine Y3n n (F3.same r) (λd H5 θ ζ F5 m=>?_);have W:∃y:Int,IF [V.int R,V.int (S/2),V.int 0] d=Y9 y/\0<=y/\y<=1+a:=by
  have:d=0\/d=1\/d=2:=Oo;rcases this with rfl | rfl | rfl
  ·exact Y1Z _ Oo Oo
  ·exact Y1Z _ Oo Oo
  ·exact Y1Z _ Oo Oo
 obtain⟨y,g,J,η⟩:=W;refine vN (m.at (F3.ne e) D) g (Y08 (Y96 Oo (smallz Oo)));intro γ H6 O B l;have hd:(1+a).natAbs ∣ 27720:=by
  have:∀z:Nat,z<=12->1<=z->z ∣ 27720:=Dd;exact this _ Oo Oo
 exact k _ _ H6 (F5.same l) (((((N.trans C).trans I).trans r.but).trans m).trans l.but) (eV B) ⟨(Fn.of Oo Oo).dvd hd,QG J⟩
end
theorem HS{H:Hp}{P:Y1k Fr}:∀{ys:Al},(∀(i:Nat) (y:V),Y1r=Y09->∃f,Y3D H f y/\P f)->∃fs:Ak,Y6S ys.length/\Y69 H iR ys/\∀f∈fs,P f
 | [],_=>⟨[],rfl,bG.nil,λf h=>by cases h⟩
 | y::ys,h=>by
  obtain⟨f,h1,h2⟩:=h 0 y rfl;obtain⟨fs,g,c,e⟩:=HS (ys:=ys) λi z d=>h (i+1) z (by simpa using d);refine⟨f::fs,by rw[cI,cI,g],bG.cons h1 c,λy a=>?_⟩;rcases bK.mp a with rfl | a
  ·exact h2
  ·exact e y a
inductive AN:Ym
 | i {H:Hp} {Q:VK} {E:XK} {p L:Addr} {n:Nat} (F:gO H p L (n+3)) (k:∀v f H',gO H' p L n->Y14->Y3l f v->VD f->Y1H):AN Y56 H Q E
def YN{n d:Int}(n0:0<=n)(n1:n<=999)(d0:0<d)(d1:d<=999):VD (lw n d):=by
 have h:=kB (n:=n) d0;have q:=QH (n:=n) d0;have a:=QG (n:=n) (d:=d) n0;exact⟨h,a,Oo,Oo⟩
inductive wV:Ym
 | i {H:Hp} {Q:VK} {E:XK} {p L:Addr} {n W M:Nat} (T:gO H p L (n+64)) (h1:1<=W) (h2:W<=4) (h3:M<=6) (k:∀v bs mix cs H',gO H' p L n->Y14->Y2Q (VC M bs mix cs) v->Y9Y W->(∀f∈bs,MD 27720 1 f)->MC W mix->Ybj M->(∀f∈cs,VD f)->Y1H):wV [Y2o,.int (W:Int),.int (M:Int)] H Q E
section
def aIP(F:Yc "_law_some" "_law_some" aEv)(T:Yf)
  (FQ7:Y00 "_law_draw" a02 fC) (FQ9:Y00 "_law_frac" a03 gM):dP P w K mg base cY 2 f fd a21 AN:=by
 refine F.oky aG5 λR H Q E h=>?_;obtain @⟨H,Q,E,p,L,n,F,k⟩:=h;refine Yg;intro D A j s U _;refine⟨_,(aH (Y6e aG5.nd (Y4a FQ7 0 aI))
  (aH (iE (Y1x nP 1 aI) (Y6g aI aI) fA)
  (aH (Y80 (Y1x nP 1 aI) (cR FQ9 (Y7t 0) (Y7t 0)))
  (Y0V (cR FQ9 (Y7t 0) (Y7t 0)))))),?_⟩
 refine Yu;intro C M;refine Y6;refine Y3n (n+2) F (λO H1 X S F1 r=>Ys);intro C M;refine Y5J _ _ Y5B
 ·exact pJ (by show 2<=64;decide) λW H2 z u a=>k _ (0,1) H2 ((F1.same a).less Oo) (r.trans a.but) (eV u) ⟨TU,Dd,Dd,Dd⟩
 refine Y5J _ _ Y5B
 ·refine Y6;refine Y3n (n+1) F1 (λI H2 G b2 F2 a=>Y3O _ _ _ ?_);refine Y3n n F2 (λJ H3 N B F3 m=>Y6A _ _);refine Y96 Oo (smallz Oo);intro y H4 g l d;exact k _ _ H4 (F3.same d) (((r.trans a).trans m).trans d.but) (eV l) (YN Oo Oo Oo Oo)
 ·refine Y6;refine Y3n (n+1) F1 (λI H2 G b2 F2 a=>Y3O _ _ _ ?_);refine Y3n n F2 (λJ H3 N B F3 m=>Y6A _ _);refine Y96 Oo (smallz Oo);intro y H4 g l d;exact k _ _ H4 (F3.same d) (((r.trans a).trans m).trans d.but) (eV l) (YN Oo Oo Oo Oo)
def oQ4(F:Yc "_law_aim" "_law_aim" sQ4)(T:Yf)
  (FQ6:Y2w "_law_bound" a21 xA) (FQ13:Y2w "_law_shares" a02 mT) (FQ14:Y2w "_law_some" a21 AN):dP P w K mg base cY 3 f fd a13 wV:=by
 refine Y13 cQ4;obtain @⟨H,Q,E,p,L,n,W,M,T0,w1,w4,m6,k⟩:=h;refine Yg;intro χ A C s hr _;refine⟨_,(aH (Y0J cQ4.nd (Y5E dH (by rfl) Kk ["_law_k","_law_feed_here"] [0] (Y7O 1) (Y0F FQ6 1)))
  (aH (Y2A cQ4.nd (Y3w FQ13 1))
  (Y0V (dN (bB Y07 (bB Y0B (Y4O 4 (Y5E dH (by rfl) Kk ["_law_k","_law_feed_here"] [0] (Y7O 2) (Y0F FQ14 1))))))))),?_⟩
 refine Yu;intro υ n_;refine Y55 _ _ rfl Oo Oo (KU (gO.like (p:=p) (L:=L) λi=>n+64-4*i) T0 (λi y H'=>∃f:Fr,Y3l f y/\MD 27720 1 f) (λi y ο μ s ⟨x,J,G⟩=>⟨x,J.flat s (eI x),G⟩) Oo (λi H' Q' ω F' ι N=>?_) (λD g H1 hD ζ T1 β τ e=>?_))
 ·refine Y6;exact xA.i (n:=n+64-4*(i+1)) (F'.less Oo) λv f H2 T2 a d B=>N _ H2 T2 a ⟨f,d,B⟩
 ·obtain⟨bs,lb,γ,ρ⟩:=HS e;refine Y3E D _ (Y6I ζ (λl ν=>?_));refine Ys;intro υ n_;have a:=Y2y g ν;have z:(upd H1 l (.tup g)) l=Yj g:=bP;generalize upd H1 l (.tup g)=H2 at a z;have T2:=T1.same a;have d:dC H2 (zW bs) (Y1m):=dC.tup z (γ.same a);refine Y06;refine mT.i (n:=n+30) (T2.less Oo) Oo Oo λv3 U H3 T3 α η I=>?_;have u:=d.flat (T2.t α) (lV _);have B3:aX p H H3:=(β.trans a.but).trans α;have O:Y9Y W:=Oo;clear ζ e γ τ β a z T1 d;refine⟨_,rfl,_,rfl,_,rfl,_,rfl,_,rfl,Oo,Oo,KU (gO.like (p:=p) (L:=L) λi=>n+30-3*i) T3 (λi y H'=>∃f:Fr,Y3l f y/\VD f) (λi y ο μ s ⟨x,J,G⟩=>⟨x,J.flat s (eI x),G⟩) Oo (λi H' Q' ω F' ι N=>?_) (λD j H4 hD θ T4 X hz m=>?_)⟩
  ·refine Y6;exact AN.i (n:=n+30-3*(i+1)) (F'.less Oo) λv f H2 T2 a d B=>N _ H2 T2 a ⟨f,d,B⟩
  ·obtain⟨κ,lc,ξ,fc⟩:=HS m;refine Y3E D _ (Y6I θ (λR r=>?_));have δ:=Y2y j r;have ε:(upd H4 R (.tup j)) R=Yj j:=bP;generalize upd H4 R (.tup j)=H5 at δ ε;refine pJ (by show 4<=64;decide) λq6 H6 φ ψ Z=>?_;have S:=δ.trans Z;have t:=T3.t X;refine k _ bs U κ H6 ((T4.same S).less Oo) ((B3.trans X).trans S.but) ?_ O ρ I Oo fc;exact dC.tup ψ (bG.cons (Y8R) (bG.cons ((u.flat t (lV _)).same S) (bG.cons ((η.flat t (lV _)).same S) (Ycf (dC.tup (Z _ _ ε) (ξ.same S))))))
end
abbrev aEk:Stmt:=(top 4)
def UX:Ye ["number","above_nought","divided","divisor","rest"] a05 aEk:={}
abbrev aDR:Stmt:=(top 7)
def UW:Ye ["one","other","common","one_part","other_part","upper","left"] a00 aDR:={}
abbrev aD3:Stmt:=(top 8)
def aJl:Ye a00 a00 aD3:={}
abbrev aDG:Stmt:=(top 9)
def aFD:Ye ["one","other","first","second"] a00 aDG:={}
abbrev aD9:Stmt:=(top 11)
def aJp:Ye a00 a00 aD9:={}
abbrev aDE:Stmt:=(top 12)
def aCl:Ye ["some","whole","one"] a27 aDE:={}
abbrev aD5:Stmt:=(top 13)
def aCn:Ye ["some","place","k"] a27 aD5:={}
abbrev aEe:Stmt:=(top 17)
def aJr:Ye a18 a18 aEe:={}
abbrev aDC:Stmt:=(top 18)
def aI6:Ye a18 a18 aDC:={}
abbrev aDD:Stmt:=(top 19)
def aI7:Ye ["trial","way"] ["trial","way"] aDD:={}
abbrev aDB:Stmt:=(top 30)
def aAf:Ye ["trial","way","counts","product","share","count"] a06 aDB:={}
abbrev aDQ:Stmt:=(top 31)
def UV:Ye ["share","count","upper","lower","step"] ["share","count"] aDQ:={}
abbrev aEr:Stmt:=(top 32)
def aFH:Ye ["faces","most","found","many"] a48 aEr:={}
abbrev aBe:Stmt:=(top 33)
def aCq:Ye ["faces","many","found","first"] a28 aBe:={}
abbrev aDX:Stmt:=(top 35)
def aJh:Ye a46 a46 aDX:={}
abbrev aDW:Stmt:=(top 36)
def aJg:Ye a34 a34 aDW:={}
def AD.of{H H1:Hp}{Q:VK}{f:Fr}(s:aU H H1)(q:AD H Q f):AD H1 Q f:=λp H' a e c=>q p H' (s.free a) e (s.trans c)
inductive eN (K:Aa):Ym
 | i {H:Hp} {Q:VK} {E:XK} {x y:V} {f g:Fr} (h1:jE K H f x) (h2:jE K H g y) (l1:Y0b) (l2:eJ g) (z1:Y4z) (z2:Y3G g) (q:AD H Q (mZ f g)):eN K [x,y] H Q E
def oK(f:Fr):Fr:=(-f.1,f.2)
def xL{f:Fr}(h:Y0b):eJ (oK f):=⟨h.pos,by show Y0T (-f.1) f.2;rw[Int.neg_gcd];exact h.low⟩
inductive kS (K:Aa):Ym
 | i {H:Hp} {Q:VK} {E:XK} {x y:V} {f g:Fr} (h1:jE K H f x) (h2:jE K H g y) (l1:Y0b) (l2:eJ g) (z1:Y4z) (z2:Y3G g) (q:AD H Q (Y4X f g)):kS K [x,y] H Q E
section
def aIF(F:Yc "common_divisor" "common_divisor" aEk)(T:Yf):dP P w K mg base cY 1 f fd a05 sY:=by
 refine YfL UX ?_;obtain @⟨H,Q,E,n,d,hd,q⟩:=h;refine Yg;intro C A j s J _;refine⟨_,(aH (Y10 UX.nd Y02)
  (aH (Y0J UX.nd Y0m)
  (aH (wH PassesOwn.never (Y1x aCY 3 aI) (aH (Y2A UX.nd (Y2G qB 2 3))
  (aH (Y10 UX.nd Y0B)
  (aR (Y0J UX.nd Y1i)))))
  (Y2p 2)))),?_⟩
 refine Yu;intro B G;refine Y06;refine AJ (λm σ H'=>Ex3 λ(a b:Int) (c:Am)=>An6 (σ=[Y9 n,Y9 d,Y9 a,Y9 b,c]) (0<=b) ((Int.gcd a b)=(Y9Z n)) ((b=0->0<a)) (H'=H) (m=b.toNat))
  (λσ H'=>∃(c:Am),σ=[Y9 n,Y9 d,Y9 (Y9Z n),Y9 0,c]/\H'=H)
  _ ⟨n,d,none,rfl,Oo,rfl,Oo,rfl,rfl⟩ ?_ ?_
 ·rintro m σ H2 ⟨a,b,c,rfl,D,r,y,rfl,rfl⟩;refine Y5J _ _ (aGL (Yaj) (Yaj))
  ·have g:0<b:=by
    rcases Int.lt_or_eq_of_le D with h | h
    ·exact h
    ·exact absurd (congrArg V.int h.symm) e
   refine Yu;intro B G;refine⟨_,rfl,_,rfl,_,_,rfl,rfl,g,_,rfl,_,rfl,?_⟩;have l:=Int.emod_lt_of_pos a g;have u:=Ydp a b;exact⟨_,Oo,b,a % b,_,rfl,u,by rw[KH,r],λ_=>g,rfl,rfl⟩
  ·have p:b=0:=by injection e
   subst p;have z:=y rfl;have l:=QV z;rw[r]at l;rw[l];exact Y04 c rfl
 ·rintro σ H2 ⟨c,rfl,rfl⟩;exact Y7 q
def aIa(F:Yc "plus" "plus" aDR)(T:Yf)
  (FQ24:Y00 "common_divisor" a05 sY):dP P w K mg base cY 2 f fd a00 (kH K):=by
 refine F.oky UW λβ H Q E h=>?_;obtain @⟨H,Q,E,x,y,⟨a,b⟩,⟨c,d⟩,Z,W,O,M,α,N,q⟩:=h;refine Yg;intro S A z s δ _;obtain⟨γ,rfl,r⟩:=Z;obtain⟨ε,rfl,g⟩:=W;have G:0<d:=M.pos;obtain⟨I,zb⟩:=α;obtain⟨J,l⟩:=N;dsimp only at I zb J l r g;have e:=kJ (n:=b) G;have C:=yQ (n:=b) G l;have j:=rV zb e;have D:=rV l e;have B:=kJ (n:=a*(d/(Int.gcd b d:Int))+c*(b/(Int.gcd b d:Int))) e;have L:=yQ (n:=a*(d/(Int.gcd b d:Int))+c*(b/(Int.gcd b d:Int))) e C;have eq:mO (a,b) (c,d)=_:=aBB O M;refine⟨_,(aH (Y10 UW.nd (cR FQ24 (Y5R) (Y2M)))
  (aH (Y0J UW.nd (Y5o gG 0 Y07))
  (aH (Y2A UW.nd (Y5o gG 1 Y07))
  (aH (Y7M UW.nd (Y4Y (Y5o dI 0 Y1i) (Y5o dI 1 Y0B)))
  (aH (Y9U UW.nd (Y3F FQ24 5 2))
  (Y6g (Y2G gG 5 6) (Y7v 3 (Y5o gG 1 (aD 6))))))))),?_⟩
 refine Yu;intro m u;refine Y0M r;refine Y0M g;refine sY.i G (Ys);intro m u;refine Y0M r;refine Y6E _ _ _ rfl (pU e (lC C)) Ys;intro m u;refine Y0M g;refine Y6E _ _ _ rfl (pU e (lC C)) Ys;intro m u;refine Y0M r;refine Y6E _ _ _ rfl (kU I D) (Y0M g);refine⟨_,rfl,_,_,rfl,rfl,kU J j,_,_,rfl,rfl,Ys⟩;intro m u;refine Y08 (sY.i e ?_);refine⟨_,rfl,_,rfl,_,_,rfl,rfl,pU B (lC L),Y98 g ?_⟩;refine⟨_,rfl,_,_,rfl,rfl,pU B (lC L),_,_,rfl,rfl,kU j (rV l B),?_⟩;refine pJ (by show 2<=64;decide) λp H3 X U R=>q p H3 X ?_ R;rw[eq];exact U
def aHY(F:Yc "times" "times" aDG)(T:Yf)
  (FQ24:Y00 "common_divisor" a05 sY):dP P w K mg base cY 2 f fd a00 (eN K):=by
 refine F.oky aFD λZ H Q E h=>?_;obtain @⟨H,Q,E,x,y,⟨a,b⟩,⟨m,d⟩,W,S,C,L,⟨D,zb⟩,⟨J,r⟩,q⟩:=h;refine Yg;intro O A u s β _;obtain⟨α,rfl,g⟩:=W;obtain⟨γ,rfl,e⟩:=S;have z:0<b:=C.pos;have B:0<d:=L.pos;dsimp only at D zb J r g e;have l:=kJ (n:=a) B;have j:=kJ (n:=m) z;have G:=yQ (n:=a) B r;have I:=yQ (n:=m) z zb;have eq:mZ (a,b) (m,d)=_:=WH C L;refine⟨_,(aH (Y10 aFD.nd (cR FQ24 (Y5R) (Y2M)))
  (aH (Y0J aFD.nd (cR FQ24 (Y2M) (Y5R)))
  (Y6g (cC dI (Y5o gG 0 Y07) (Y5o gG 1 Y0B)) (cC dI (Y5o gG 0 Y0B) (Y5o gG 1 Y07))))),?_⟩
 refine Yu;intro M X;refine Y0M g;refine Y58;refine sY.i B (Ys);intro M X;refine Y58;refine Y0M g;refine sY.i z (Y0M g);refine Y6E _ _ _ rfl (pU l (lC G)) Y58;refine⟨_,rfl,_,_,rfl,rfl,pU j (lC I),_,_,rfl,rfl,kU (rV D l) (rV J j),Y0M g⟩;refine Y6E _ _ _ rfl (pU j (lC I)) Y58;refine⟨_,rfl,_,_,rfl,rfl,pU l (lC G),_,_,rfl,rfl,kU (rV zb j) (rV r l),?_⟩;refine pJ (by show 2<=64;decide) λp H3 U R N=>q p H3 U ?_ N;rw[eq];exact R
def aIm(F:Yc "less" "less" aD3)(T:Yf)
  (FQ55:Y6d 2 "plus" (kH K)):dP P w K mg base cY 3 f fd a00 (kS K):=by
 refine F.oky aJl λC H Q E h=>?_;obtain @⟨H,Q,E,x,y,f,g,u,r,l,B,z,e,q⟩:=h;refine Yg;intro m A a s D _;obtain⟨G,rfl,d⟩:=r;refine Y4h (Y4a FQ55 0 (Y38 (BO vU (Y2M)) Y2M)) (Y98 d ?_);refine Y7 (Y0M d);refine pJ (by show 2<=64;decide) λp H3 I n j=>kH.i (jE.same j u) (jE.new (f:=oK g) n) l (xL B) z ⟨by show(-g.1).natAbs<_;rw[Int.natAbs_neg];exact e.1,e.2⟩ ?_;exact q.of j
def aIt(F:Yc "is_less" "is_less" aD9)(T:Yf):dP P w K mg base cY 1 f fd a00 (sB K):=by
 refine Yc5 aJp ?_;obtain @⟨H,Q,E,x,y,⟨a,b⟩,⟨c,d⟩,p,n,⟨m,zb⟩,⟨r,j⟩,q⟩:=h;refine Yg;intro l A e s B _;obtain⟨u,rfl,i⟩:=p;obtain⟨C,rfl,g⟩:=n;refine Y4h (tO vK (Y5P 0 1) (Y5P 1 0)) (Y0M i);refine Y0M g;refine Y3p _ _ m j (Y0M g);refine Y0M i;exact⟨_,_,rfl,rfl,kU r zb,_,_,rfl,rfl,q⟩
end
def nC{N B:Nat}{f:Fr}(h:Y32)(hN:0<N)(hz:N<Y0y)(hB:B<=2^700):Y4z:=by
 obtain⟨d,a⟩:=h.num hN;refine⟨?_,Y7W a hz⟩;have c:B*N<=2^700*Y0y:=YbU hB hz;exact Oo
structure SE(fs:Ak):Prop where
 low:∀f∈fs,Y0b
 sz:∀f∈fs,Y4z
 part:∀i,eJ (mM (Y9V))/\Y3G (mM (Y9V))
def rP{N B:Nat}{fs:Ak}(h:∀f∈fs,Y32)(hN:0<N)(hz:N<Y0y)(hl:Yb9 64)(hB:B<=2^690):SE fs:=by
 have c:(2:Nat)^690<=2^700:=aK Dd Dd;have d:64*(2:Nat)^690<=2^700:=by rw[show(64:Nat)=2^6 from rfl,<-Nat.pow_add];exact aK Dd Dd
 refine⟨λf a=>(h f a).low,λf a=>nC (h f a) hN hz (aL hB c),λi=>?_⟩;have t:=Fn.tot (Y9V) λf a=>h f (List.mem_of_mem_take a);have l:(Y9V).length<=64:=by rw[fP];exact Oo
 have:(Y9V).length*B<=64*2^690:=Nat.mul_le_mul l hB;exact⟨t.low,nC t hN hz (aL this d)⟩
structure vG(K:Aa)(H:Hp)(fs:Ak)(xs:Al):Prop where
 len:Y67 fs.length
 at_:∀(i:Nat) (x:V),Y0q=Y8->∃f,fs[i]?=Y6w/\jE K H f x
theorem vG.of{K:Aa}{H:Hp}{fs:Ak}{xs:Al}(r:Y69 H iR xs):vG K H fs xs:=⟨hJ r,λi x e=>by
 obtain⟨f,a,c⟩:=fK r e;exact⟨f,a,jE.of c⟩⟩
inductive jJ (K:Aa):Ym
 | i {H:Hp} {Q:VK} {E:XK} {a:Addr} {xs:Al} {fs:Ak} (h:H a=Y0G) (r:vG K H fs xs) (ok:SE fs) (q:∀v H',Y1->Y3l (mM fs) v->Y1H):jJ K Y27 H Q E
section
def aHW(F:Yc "total" "total" aDE)(T:Yf)
  (FQ55:Y6d 2 "plus" (kH K)):dP P w K mg base cY 3 f fd a27 (jJ K):=by
 refine YfM aCl ?_;obtain @⟨H,Q,E,a,y,fs,z,r,ok,q⟩:=h;refine Yg;intro M A m s S _;have e:=r.len;refine⟨_,(aH (Y6e aCl.nd (Y8n aI))
  (aH (Y6Y (eC (Y02)) 2 aCl.nd (Y6e aCl.nd (Y3F FQ55 1 2)))
  (Y2p 1))),?_⟩
 refine Yu;intro J X;refine pJ (by show 2<=64;decide) λW H0 C O s0=>Y50 _ a (Y7x (s0 _ _ z)) (Yda y (YaD (λw j=>Ybr (σ=[Y2r,some w,j]) (Y3l (mM (Y9V)) w))) (Y3y _ s0 (eV O)) (λi σ H' _ p=>?_) ?_)
 ·obtain⟨w,j,rfl,d,_⟩:=p;exact gE.of (d _ _ z)
 ·rintro i x σ H1 D ⟨w,j,rfl,d,l⟩;refine Y5y;intro J;obtain⟨g,n,R⟩:=r.at_ i x D;have u:=aE n;obtain⟨I,L⟩:=ok.part i;refine Y08 (kH.i (jE.of l) (jE.same d R) I (ok.low _ u) L (ok.sz _ u) ?_);intro U H2 N B G;refine Y3y _ (d.trans G) ?_;rw[gP n,qH];exact eV B
 ·rintro σ H1 ⟨w,j,rfl,d,l⟩;refine Y6;rw[e,dL]at l;exact q _ H1 d l
end
@[irreducible] def qT:Sp:=λvs H Q _=>∃a fs,vs=Y27/\(∃xs,H a=Y0G/\Y69 H iR xs)/\(∀f∈fs,Y0b/\Y4z)/\Ya3 0/\Yb9 64/\∀p y,jD fs fs.length p y->Y1S (p:Nat)
def JG{H:Hp}{Q:VK}{E:XK}{a:Addr}{xs:Al}{fs:Ak}(h:H a=Y0G)(r:Y69 H iR xs)(ok:∀f∈fs,Y0b/\Y4z)(h0:Ya3 0)(h1:Yb9 64)(q:∀p y,jD fs fs.length p y->Y1S (p:Nat)):qT Y27 H Q E:=by unfold qT;exact⟨a,fs,rfl,⟨xs,h,r⟩,ok,h0,h1,q⟩
def jD.min{fs:Ak}{p:Nat}{y:Fr}(L:jD fs fs.length p y)(ok:∀f∈fs,Y0b):rv y=mN (YcV):=by
 have c:=aE L.at_;refine(HE (Y3b y c) λx e=>?_).symm;obtain⟨f,d,rfl⟩:=aM.mp e;obtain⟨j,a⟩:=gK.mp d;have:=L.no j f (Y82).1 a;exact Rat.not_lt.mp λq=>this ((aCU (ok f d).pos (ok y c).pos).mpr q)
section
def aIo(F:Yc "least_place" "least_place" aD5)(T:Yf)
  (FQ36:Y00 "is_less" a00 (sB K)):dP P w K mg base cY 2 f fd a27 qT:=by
 refine F.oky aCn λC H Q E h=>?_;unfold qT at h;obtain⟨a,fs,rfl,⟨C,l,j⟩,ok,I,W,q⟩:=h;refine Yg;intro R A m s Z _;have D:=hJ j;refine⟨_,(aH (Y6e aCn.nd aI)
  (aH (Y6Y (SN rfl T.b_range (Y2j aI (Y9R oE (by rfl) 0))) 2 aCn.nd (Y77 (pX (cR FQ36 (Y48 0 Y07) (Y48 0 Y0m))) (Y6e aCn.nd Y07)))
  (Y2p 1))),?_⟩
 refine Yu;intro M β;refine Y7 (rlL l ?_);refine Y3y _ ⟨Oo,Oo,Oo,Oo⟩ ?_;have B:∃y,fs[0]?=Y09:=Y4T I;obtain⟨N,B⟩:=B;refine oU (Ye0 (λ(p:Nat) (y:Fr) (r:Am)=>An3 (σ=[Y2r,Y9 (p:Int),r]) (H'=H) (jD fs (i+1) p y))) (Y5C 0 N _ rfl (jD.one B)) ?_ ?_
 ·rintro i σ H1 X ⟨p,y,r,rfl,rfl,L⟩;refine Y5y;intro M;have n:Ya3 (i+1):=Oo;have d:fs[i+1]?=some fs[i+1]:=aB n;generalize fs[i+1]=z at d;obtain⟨U,g,J⟩:=kI j d;obtain⟨α,u,S⟩:=kI j L.at_;have O:(1:Int)+(i:Int)=((i+1:Nat):Int):=Oo;rw[O];refine Y08 (Y6B l g);refine Y08 (Y6B l u);refine sB.i (jE.of J) (jE.of S) (ok _ (aE d)).2 (ok _ (aE L.at_)).2 (Y7 Y5B)
  ·exact Y7 (Y5C (i+1) z _ rfl (L.next (λf G=>(ok f G).1) d e))
  ·exact Y5C p y _ rfl (L.stay d e)
 ·rintro σ H1 ⟨p,y,r,rfl,rfl,L⟩;refine Y6;have:((C.length:Int)-1).toNat+1=fs.length:=Oo;rw[this]at L;exact q p y L
end
abbrev uZ(cs:Ae):PyData:=.tuple (cs.map λ(n:Nat)=>PyData.int (n:Int))
theorem KS:∀cs:Ae,kC (cs.map λ(n:Nat)=>PyData.int (n:Int))=true
 | []=>rfl
 | f::fs=>by show(iS (.int f)&&kC (fs.map λ(n:Nat)=>PyData.int (n:Int)))=true;rw[KS fs];rfl
def rE(cs:Ae):iS (uZ cs)=true:=KS cs
def BH(K:Aa)(H:Hp)(f:Fr)(x:V):Prop:=Y3D H f x\/∃a,x=Yn/\vZ K a [f.1,f.2]=true
def BH.v{K:Aa}{H:Hp}{f:Fr}{x:V}(h:BH K H f x):jE K H f x:=by
 rcases h with h | ⟨a,e,h⟩
 ·exact jE.of h
 ·exact Y29 e (wM h)
def BH.t{K:Aa}{H H':Hp}{f:Fr}{x:V}(s:Y2t)(h:BH K H f x):BH K H' f x:=by
 rcases h with h | h
 ·exact .inl (h.flat s (eI f))
 ·exact .inr h
def BH.same{K:Aa}{H H':Hp}{f:Fr}{x:V}(s:Y1)(h:BH K H f x):BH K H' f x:=h.t s.t
def WF{H:Hp}{fs:Ah}{ws:Y0A}{v:V}(h:Y3m v):∃a af aw xf xw,v=Yn/\H a=Yj [.ref af,.ref aw]/\H af=Yj xf/\H aw=Yj xw/\Y69 H .str xf/\Y1q YcX xw:=by
 obtain⟨a,n,rfl,m,j⟩:=nZ h;obtain⟨x,y,rfl,i,c⟩:=DV j;obtain⟨af,xf,rfl,d,l⟩:=nZ i;obtain⟨aw,xw,rfl,e,g⟩:=nZ c;exact⟨a,af,aw,xf,xw,rfl,m,d,e,l,g⟩
inductive jO:Ym
 | i {H:Hp} {Q:VK} {E:XK} {v:V} {fs:Ah} {ws:Y0A} (h:Y3m v) (q:Y1S (ws.length:Nat)):jO [v] H Q E
inductive GQ:Ym
 | i {H:Hp} {Q:VK} {E:XK} {v:V} {fs:Ah} {ws:Y0A} {w:Y8k} {i:Nat} (h:Y3m v) (hw:ws[i]?=some w) (q:∀x,Y6p w.2 x->Q x H):GQ [v,.int (i:Int)] H Q E
structure BOk(B:Nat)(fs:Ak):Prop where
 low:∀f∈fs,Y0b
 up:∀f∈fs,f.1.natAbs<=2^B
 dn:∀f∈fs,f.2.natAbs<=2^B
inductive wQ (K:Aa):Ym
 | i {H:Hp} {Q:VK} {E:XK} {x:V} {f:Fr} {c B:Nat} (h:jE K H f x) (h1:f.1.natAbs<=2^B) (h2:f.2.natAbs<=2^B) (h3:B<=4000) (h5:c<=4000) (h4:B*c<=4000) (q:AD H Q (zX f c)):wQ K [x,.int (c:Int)] H Q E
def HF{x:Int}{n:Nat}(h:x.natAbs<=2^n)(hn:n<=4000):Y5O (2^4001):=Y8T h Oo
def WO{f:Fr}{n:Nat}(h1:f.1.natAbs<=2^n)(h2:f.2.natAbs<=2^n){k:Nat}(hk:n<k):sV k f:=⟨Y8T h1 hk,Y8T h2 hk⟩
inductive jN (K:Aa):Ym
 | i {H:Hp} {Q:VK} {E:XK} {v cv:V} {fs:Ah} {ws:Y0A} {w:Y8k} {cs:Ae} {i:Nat} (h:Y3m v) (hw:ws[i]?=some w) (hc:Y8V cs cv) (ok:Y7p w.2) (hs:cs.sum<=390) (q:∀x H',Y1->BH K H' (nX (w.2.zip cs)) x->Q x H'):jN K [v,.int (i:Int),cv] H Q E
def aAR{α β:Type}{l:Yv}{m:Yaa}{i:Nat}{a:α}{b:β}(h1:l[i]?=Y7e)(h2:m[i]?=some b):(l.zip m)[i]?=some (a,b):=by rw[List.getElem?_zip_eq_some];exact⟨h1,h2⟩
def aAQ{α:Type}(l:Yv)(m:Ae)(i:Nat):(((l.zip m).take i).map (·.2)).sum<=m.sum:=by
 induction l generalizing m i with
 | nil=>simp
 | cons a l ih =>
  cases m with
  | nil=>simp
  | cons b m =>
   cases i with
   | zero=>simp
   | succ i =>
    have:=ih m i;simp only[List.zip_cons_cons,List.take_succ_cons,bE,List.sum_cons];exact Oo
def sJ{α β:Type}{l:Yv}{m:Yaa}{i:Nat}{z:α × β}(h:z∈(l.zip m).take i):z.1∈l:=(List.of_mem_zip (a:=z.1) (b:=z.2) (List.mem_of_mem_take h)).1
def aA3{m:Ae}{i c:Nat}(h:m[i]?=Y1u):c<=m.sum:=by
 induction m generalizing i with
 | nil=>simp at h
 | cons a m ih =>
  rw[List.sum_cons];cases i with
  | zero=>cases(show a=c by simpa using h);exact Oo
  | succ i=>have:=ih (i:=i) (by simpa using h);exact Oo
section
def aHU(F:Yc "ways_of" "ways_of" aDC)(T:Yf):dP P w K mg base cY 1 f fd a18 jO:=by
 refine F.oky aI6 λp H Q E h=>?_;obtain @⟨H,Q,E,v,fs,m,h,q⟩:=h;refine Yg;intro i A e s y _;obtain⟨a,r,z,l,u,rfl,g,n,j,B,d⟩:=WF h;refine Y4h (iV oE (by rfl) T.b_len Kk (Y1L Y5R)) (Y0g g);refine rlT j ?_;rw[hJ d];exact q
def aHV(F:Yc "way_shares" "way_shares" aDD)(T:Yf):dP P w K mg base cY 1 f fd ["trial","way"] GQ:=by
 refine F.oky aI7 λJ H Q E h=>?_;obtain @⟨H,Q,E,v,fs,G,w,i,h,g,q⟩:=h;refine Yg;intro p A e s O _;obtain⟨a,L,R,D,M,rfl,m,I,B,U,d⟩:=WF h;obtain⟨u,C,ru⟩:=kI d g;obtain⟨b,S,rfl,r,l⟩:=nZ ru;obtain⟨y,z,rfl,N,n⟩:=DV l;refine Y4h (Y4u (Ya2 0 Y0m) aI) (Y0g m);refine Y7 (jF B (dR (j:=i) C) ?_);exact Y5Z r (q _ n)
def aH9(F:Yc "power" "power" aDQ)(T:Yf):dP P w K mg base cY 1 f fd ["share","count"] (wQ K):=by
 refine F.oky UV λJ H Q E h=>?_;obtain @⟨H,Q,E,x,f,n,B,⟨a,rfl,j⟩,p,l,r,M,u,q⟩:=h;refine Yg;intro C A d s N _;refine⟨_,(aH (Y10 UV.nd aI)
  (aH (Y0J UV.nd aI)
  (aH (gL PassesOwn.never rfl (Y7O 1) (Yan 4 UV.nd) (aH (Y10 UV.nd (Y7v 2 Y5R))
  (aR (Y0J UV.nd (Y7v 3 Y5R)))))
  (Y6g Y07 Y0B)))),?_⟩
 refine Yu;intro y I;refine Y55 _ _ rfl Oo Oo (oU (Ygd (λg=>An2 (σ=[Y2r,Y9 (n:Int),Y9 (f.1^i),Y9 (f.2^i),g]) (H'=H))) (Y1o (by rw[Int.pow_zero,Int.pow_zero];rfl)) ?_ ?_)
 ·rintro i σ H1 L ⟨g,rfl,rfl⟩;refine Ybk;intro y I;have m:B*i<=4000:=aL (dF _ Oo) u;refine Y98 j ?_;refine Y3p _ _ (HF (yK p i) m) (HF p r) (Y98 j ?_);exact Y3p _ _ (HF (yK l i) m) (HF l r) (Y1o (by rw[Int.pow_succ,Int.pow_succ];rfl))
 ·rintro σ H1 ⟨g,rfl,rfl⟩;refine Y06;exact pJ (by show 2<=64;decide) λG H3 e D z=>q G H3 e (by rw[D];rfl) z
def aHT(F:Yc "weight" "weight" aDB)(T:Yf)
  (FQ70:Y00 "way_shares" ["trial","way"] GQ) (FQ67:Y70 2 "times" K) (FQ56:Y00 "power" ["share","count"] (wQ K)):dP P w K mg base cY 3 f fd a06 (jN K):=by
 refine Y13 aAf;obtain @⟨H,Q,E,v,cv,fs,ws,w,a,j,h,ξ,τ,ok,hs,q⟩:=h;refine Yg;intro ν A C s hr _;refine⟨_,(aH (Y0J aAf.nd (YbP YcF T.g_ONE rfl))
  (aH (Y6O (lF true true rfl T.b_zip (Y2j (Y3w FQ70 1) Y07)) (nY rfl (eT (Yan 4 aAf.nd) (eT (Yan 5 aAf.nd) lB))) (Y0J aAf.nd (Y4a FQ67 3 (Y3F FQ56 4 5))))
  (Y2p 3))),?_⟩
 refine Yu;intro μ n_;refine Y06;refine GQ.i h ξ λx γ=>?_;obtain⟨φ,M,rfl,X,N⟩:=nZ γ;obtain⟨O,I,rfl,W,S⟩:=nZ τ;refine⟨_,rfl,φ,O,M,I,rfl,X,W,?_⟩;have ι:=hJ N;have θ:=hJ S;have U:∀i,∀z∈(w.2.zip a).take i,eJ z.1:=λi z d=>ok.low _ (sJ d);have zb:∀i,∀z∈(w.2.zip a).take i,z.1.1.natAbs<=2^10/\z.1.2.natAbs<=2^10:=λi z d=>⟨ok.up _ (sJ d),ok.dn _ (sJ d)⟩;refine uY (Ye0 (λx m p=>Ybr (σ=[Yy,Y9 (j:Int),Y3 O,Y8,m,p]) (BH K H' (nX ((w.2.zip a).take i)) x))) (Y5C _ _ _ Y0e (.inr (Y7 T.o_ONE))) (λi σ H' ⟨x,m,p,_,J,_⟩=>⟨J _ _ X,J _ _ W⟩) ?_ ?_
 ·rintro i y z δ σ H1 H2 κ d ⟨x,m,p,rfl,u,r⟩ η ο D;obtain⟨g,R,ρ⟩:=fK N κ;obtain⟨n,G,ω⟩:=fK S d;cases(show z=V.int (n:Int)from ω);have l:=aE R;have nn:=aA3 G;refine⟨δ,_,rfl,jQ.of ο,rfl,_,_,rfl,_,_,rfl,rfl,Y23⟩;intro μ;refine Y2J (wQ.i (B:=10) (jE.of (ρ.same (u.trans D))) (ok.up _ l) (ok.dn _ l) Dd Oo Oo ?_);intro q4 H4 α β L;obtain⟨ζ,b2⟩:=aAX ((w.2.zip a).take i) (U i) (zb i);have zs:=aAQ w.2 a i;have Z:=yK (ok.up _ l) n;have υ:=yK (ok.dn _ l) n;refine eN.i (jE.same (D.trans L) r.v) (jE.new (f:=zX g n) β) (tM _ (U i)) (pF (ok.low _ l) n) (WO ζ b2 Oo) (WO Z υ Oo) ?_;intro q5 H5 ε ψ χ;refine Y5C _ _ _ (((u.trans D).trans L).trans χ) ?_;rw[gP (aAR R G),yB];exact .inl (eV ψ)
 ·rintro σ H1 ⟨x,m,p,rfl,u,r⟩;refine Y7 (q _ H1 u ?_);have e:(w.2.zip a).take (min M.length I.length)=w.2.zip a:=List.take_of_length_le (by rw[List.length_zip];exact Oo)
  rwa [e]at r
end
inductive jZ:Ym
 | i {H:Hp} {Q:VK} {E:XK} {v:V} {fs:Ah} {ws:Y0A} (h:Y3m v) (q:Y1S (fs.length:Nat)):jZ [v] H Q E
section
def aIy(F:Yc "faces_of" "faces_of" aEe)(T:Yf):dP P w K mg base cY 1 f fd a18 jZ:=by
 refine F.oky aJr λp H Q E h=>?_;obtain @⟨H,Q,E,v,fs,n,h,q⟩:=h;refine Yg;intro j A d s y _;obtain⟨a,r,B,m,u,rfl,i,g,z,l,e⟩:=WF h;refine Y4h (iV oE (by rfl) T.b_len Kk (Y1L Y5R)) (Y0g i);refine rlT g ?_;rw[hJ l];exact q
end
def nT(H:Hp)(a:Addr)(cs:Ab):Prop:=∃vs,H a=Yi vs/\Ycv uZ vs
theorem mI:∀cs:Ab,kC (cs.map uZ)=true
 | []=>rfl
 | c::cs=>by show(iS (uZ c)&&kC (cs.map uZ))=true;rw[mI cs,rE];rfl
theorem nT.same{H H':Hp}{a:Addr}{cs:Ab}(h:nT H a cs)(s:Y1):nT H' a cs:=by
 obtain⟨d,e,c⟩:=h;exact⟨d,s _ _ e,c.same s⟩
def nT.len{H:Hp}{a:Addr}{cs:Ab}(h:nT H a cs):∃vs,H a=Yi vs/\Ycv uZ vs/\Y4K cs.length:=by
 obtain⟨vs,d,c⟩:=h;exact⟨vs,d,c,hJ c⟩
theorem bG.app{H:Hp}:∀{ds es:Y0Z}{xs ys:Al},Y9O xs->Y1q es ys->Y1q (ds++es) (xs++ys)
 | [],es,xs,ys,h1,h2=>by
  have:xs=[]:=h1;subst this;exact h2
 | d::ds,es,xs,ys,h1,h2=>by
  unfold bG at h1;obtain⟨x,a,rfl,c,e⟩:=(show ∃x a,xs=x::a/\dC H d x/\bG H ds a from h1);exact bG.cons c (bG.app e h2)
def rD{α:Type}(g:Nat->Yv)(i:Nat):(List.range (i+1)).flatMap g=(List.range i).flatMap g++g i:=by
 rw[List.range_succ,List.flatMap_append];simp
@[irreducible] def pC(n:Nat):Sp:=λvs H Q _=>∃F m:Nat,vs=[.int (F:Int),.int (m:Int)]/\1<=F/\F<=n/\F<=4/\m<=5/\∀a H',Y1->H a=none->nT H' a (cta F m)->Y0E a
def WT{n:Nat}{H:Hp}{Q:VK}{E:XK}{F m:Nat}(h1:1<=F)(h2:F<=n)(h4:F<=4)(h3:m<=5)(q:∀a H',Y1->H a=none->nT H' a (cta F m)->Y0E a):pC n [.int (F:Int),.int (m:Int)] H Q E:=by unfold pC;exact⟨F,m,rfl,h1,h2,h4,h3,q⟩
def JH{n:Nat}{H:Hp}{Q:VK}{E:XK}{F m:Nat}{x y:Int}(ex:x=(F:Int))(ey:y=(m:Int))(h1:1<=F)(h2:F<=n)(h4:F<=4)(h3:m<=5)(q:∀a H',Y1->H a=none->nT H' a (cta F m)->Y0E a):pC n [.int x,.int y] H Q E:=by
 subst ex ey;exact WT h1 h2 h4 h3 q
inductive uT:Ym
 | i {H:Hp} {Q:VK} {E:XK} {F m:Nat} (h1:1<=F) (h4:F<=4) (h3:m<=5) (q:∀a H',Y1->H a=none->nT H' a ((List.range (m+1)).flatMap (cta F))->Y0E a):uT [.int (F:Int),.int (m:Int)] H Q E
def yT:∀F,F<=4->∀m,m<=5->(cta F m).length<=56:=Kk
def ND:∀F,F<=3->∀m,m<=5->∀i,i<=6->((List.range i).flatMap λk=>(cta F (m-k)).map λc=>k::c).length<=400:=Kk
def yY:∀F,F<=4->∀i,i<=6->((List.range i).flatMap (cta F)).length<=400:=Kk
def ZY{F m:Nat}{c:Ae}(h:c∈cta F m):Y30:=(iU h).1
section
def aHC(F:Yc "counts_that_are" "counts_that_are" aBe)(T:Yf):dP P w K mg base cY 1 f fd a28 (pC 0):=by
 refine F.okw aCq (λg H Q E h=>?_) (λe A a s H g Q E j h=>?_)
 ·unfold pC at h;obtain⟨F,m,_,d,i,_⟩:=h;exact Oo
 ·unfold pC at h;obtain⟨F,m,_,d,i,_⟩:=h;exact Oo
def aIA(n:Nat)(F:Yc "counts_that_are" "counts_that_are" aBe)(T:Yf)(FQ29:Y0W (1+n) "counts_that_are" a28 (pC n)) :
  dP P w K mg base cY (1+n+1) f fd a28 (pC (n+1)):=by
 refine YfB aCq ?_;unfold pC at h;obtain⟨F,m,rfl,X,W,h4,τ,q⟩:=h;refine Yg;intro cdv A I s ι _;refine⟨_,(aH (Y80 (Y1x nP 0 aI) (hZ (Y1L (dN (Y4b 1)))))
  (aH (Y10 aCq.nd (hZ aQ))
  (aH (Y6O (Y7N (Y2L fQ 1)) (Ycb 3 aCq.nd rfl rfl) (lA (Yf9 NH Y07 (Y1L (Y7B ["rest","first"] [3] (eC (tN FQ29 (ι.mono Oo) (Y2j (Y2L lH 0) (Y2G lH 1 3)))) (cC (HD K) (dN (Y4b 1)) (Y02)))))))
  (Y2p 2)))),?_⟩
 refine Yu;intro β n_;refine Y5J _ _ Y5B
 ·have S:F=1:=by injection e with e;exact Oo
  refine Y23;intro β;subst S;refine Y6;refine pJ (by show 1<=64;decide) λp0 H0 ε e0 s0=>zZ (by show 1<=64;decide) λυ H1 r N g=>q υ H1 (s0.trans g) (s0.free r) (Y0j _ N);exact Ycf (dC.tup (g _ _ e0) (Ycf Y8R))
 ·have S:F≠1:=Y5G (by rw[z];rfl);obtain⟨G,rfl⟩:∃G,F=G+2:=Y2q (F-2);refine zZ (by show 0<=64;decide) λL H1 δ N g=>⟨_,rfl,_,_,rfl,rfl,_,rfl,Oo,Oo,?_⟩;rw[show((m:Int)+1).toNat=m+1 by exact Oo];refine oU (Ygd (λO=>Ybr (σ=[Y9 ((G+2:Nat):Int),Y9 (m:Int),Y3 L,O]) (nT H' L ((List.range i).flatMap λk=>(cta (G+1) (m-k)).map λc=>k::c)))) ⟨_,rfl,g,[],N,bG.nil⟩ ?_ ?_
  ·rintro i σ H2 hi ⟨O,rfl,J,α,B,U⟩;refine Y5y;intro β;have lv:=hJ U;have θ:=ND (G+1) Oo m τ i Oo;refine Y1Z _ (VJ B) (Y9e _ rfl _ _ rfl (Y7w _ _ _ _ ?_));refine JH (F:=G+1) (m:=m-i) Oo Oo Oo Oo Oo Oo λb H3 s3 hb l3=>?_;obtain⟨ws,γ,ζ,χ⟩:=l3.len;have φ:=yT (G+1) Oo (m-i) Oo;refine Y1l b γ (fI (λj y H'=>∃c,(cta (G+1) (m-i))[j]?=Y1u/\Y2Q (uZ (i::c)) y) (λj y H1 H2 s ⟨c,X,W⟩=>⟨c,X,W.flat s (rE _)⟩) Oo γ (λj x H' Q' ρ μ ω=>?_) (λD κ H4 hD u ν hy p=>?_))
   ·obtain⟨c,l,C⟩:=fK ζ ρ;obtain⟨ac,xc,rfl,M,d⟩:=nZ (C.same μ);have lc:=hJ d;have ξ:=ZY (aE l);refine Y6;refine pJ (by show 1<=64;decide) λp4 H5 hp4 η a=>Y6;refine aFC η (a _ _ M) (by simp only[cI,List.length_nil];exact Oo) λp5 H6 Z e6=>ω _ H6 (a.trans Z) ⟨c,l,dC.tup e6 ?_⟩;rw[show(0:Int)+(i:Int)=(i:Int)by exact Oo];exact bG.cons (Y8R) (d.same (a.trans Z))
   ·have S4:=s3.trans ν;refine aFt (S4 _ _ B) u Oo λH5 e5 a=>?_;have R:=a.t (S4 _ _ B);refine⟨_,rfl,aU.thru δ (J.trans S4) a,α++κ,e5,?_⟩;rw[rD,bI];refine bG.app (YcC R _ (U.same S4)) (YcC R _ ?_);refine bG.ofIdx (by rw[hy,aA,aA];exact Oo) λj y ψ=>?_;obtain⟨c,l,C⟩:=p j y ψ;exact Y0K (by rw[aF,aF,l];rfl) C
  ·rintro σ H2 ⟨O,rfl,J,ο⟩;exact Y7 (q L H2 J δ ο)
def aIL(F:Yc "all_counts" "all_counts" aEr)(T:Yf)(FQ29:Y0W 5 "counts_that_are" a28 (pC 4)) :
  dP P w K mg base cY 6 f fd a48 uT:=by
 refine F.oky aFH λn H Q E h=>?_;obtain @⟨H,Q,E,F,m,S,a,Z,q⟩:=h;refine Yg;intro J A j s β _;refine⟨_,(aH (Y10 aFH.nd (hZ aQ))
  (aH (Y6Y (Y7N (Y2L fQ 1)) 3 aFH.nd (lA (Yf9 NH Y07 (Y1L (Y3w FQ29 3)))))
  (Y2p 2))),?_⟩
 refine Yu;intro G δ;refine zZ (by show 0<=64;decide) λL H1 p U M=>⟨_,rfl,_,_,rfl,rfl,_,rfl,Oo,Oo,?_⟩;rw[show((m:Int)+1).toNat=m+1 by exact Oo];refine oU (Ygd (λl=>Ybr (σ=[Y9 (F:Int),Y9 (m:Int),Y3 L,l]) (nT H' L ((List.range i).flatMap (cta F))))) ⟨_,rfl,M,[],U,bG.nil⟩ ?_ ?_
 ·rintro i σ H2 α ⟨l,rfl,g,n,e,r⟩;refine Y5y;intro G;have X:=hJ r;have I:=yY F a i Oo;refine Y1Z _ (VJ e) Y06;refine JH (F:=F) (m:=i) rfl Oo S a a Oo λb H3 d γ W=>?_;obtain⟨z,O,B,N⟩:=W.len;have C:=yT F a i Oo;refine aFt (d _ _ e) O Oo λH5 R y=>?_;have u:=y.t (d _ _ e);refine⟨_,rfl,aU.thru p (g.trans d) y,n++z,R,?_⟩;rw[rD,bI];exact bG.app (YcC u _ (r.same d)) (YcC u _ B)
 ·rintro σ H2 ⟨l,rfl,g,D⟩;exact Y7 (q L H2 g p D)
end
abbrev FO(n:Nat):V:=.int (n:Int)
theorem LB{H:Hp}:∀cs:Ae,Ycv (λ(n:Nat)=>PyData.int (n:Int)) (cs.map FO)
 | []=>bG.nil
 | n::cs=>bG.cons (dC.int _) (LB cs)
theorem FX{H:Hp}:∀{cs:Ae}{xs:Al},Ycv (λ(n:Nat)=>PyData.int (n:Int)) xs->xs=cs.map FO
 | [],xs,h=>h
 | n::cs,xs,h=>by
  unfold bG at h;obtain⟨x,xs',rfl,hx,hr⟩:=(show ∃x xs',xs=x::xs'/\dC H (PyData.int (n:Int)) x/\bG H (cs.map λ(n:Nat)=>PyData.int (n:Int)) xs' from h);rw[FX hr];cases(show x=V.int (n:Int)from hx)
  rfl
def iJ{H:Hp}{cs:Ae}{v:V}(h:Y8V cs v):∃a,v=Yn/\H a=Yj (cs.map FO):=by
 obtain⟨a,e,rfl,c,d⟩:=nZ h;rw[FX d]at c;exact Y04 a c
def wE{H:Hp}{cs:Ae}{a:Addr}(h:H a=Yj (cs.map FO)):Y8V cs Yn:=dC.tup h (LB cs)
def aAk{cs:Ae}{i:Nat}(h:i<cs.length):bT cs i=cs.take i++[Yd8 0+1]++cs.drop (i+1):=by
 unfold bT;rw[List.set_eq_take_append_cons_drop,Y3K,List.append_assoc]
 rfl
def aA6{K:Aa}{H:Hp}{a:Addr}{xs:Al}{k:Nat}{z:Int}{Q:VK}(hz:z=(k:Int))(h:H a=Y12)(q:∀c H',Y1->H' c=Yj (xs.drop k)->Y0E c):MZ K (Yn) (Y99) none H Q:=by
 subst hz;exact aDu h q
inductive pM:Ym
 | i {H:Hp} {Q:VK} {E:XK} {x:V} {cs:Ae} {i:Nat} (h1:Y8V cs x) (h2:i<cs.length) (h3:cs.length<=64) (k:∀v H',Y1->Y2Q (uZ (bT cs i)) v->Y1H):pM [x,.int (i:Int)] H Q E
inductive fY:Ym
 | i {H:Hp} {Q:VK} {E:XK} {x:V} {cs:Ae} (h1:Y8V cs x) (h3:cs.length<=64) (k:Y3g (H D=none) (Y0x=Y0t->Y41 (((List.range cs.length).map (bT cs)).map uZ) ys->Y1->Y1g)):fY [x] H Q E
section
def aIg(F:Yc "one_more" "one_more" aDX)(T:Yf):dP P w K mg base cY 1 f fd a46 pM:=by
 refine F.oky aJh YfK;obtain @⟨H,Q,E,x,d,i,D,n,L,k⟩:=h;refine Yg;intro C A l s O _;obtain⟨a,rfl,g⟩:=iJ D;refine Y4h (cC (HD K) (cC (HD K) (oX (PH K) (Y02) rS (rQ (Y0m))) (dN (Y1L (Y4Y (Y48 0 Y0m) aI)))) (oX (PH K) (Y02) (rQ (Y2L fQ 1)) rS)) Y4q;refine aDv g λN H2 e y=>Y06;have j:IF (d.map FO) (i:Int)=some (FO (Y7T i)):=dR (by rw[aF,aV,aB n];rfl);refine jF (e _ _ g) j (Y6A _ _);refine pJ (by show 1<=64;decide) λR H3 G I m=>aFC (m _ _ y) I (by rw[fP,aA];show min i d.length+1<=1000;exact Oo) λS H4 r B=>Y7w _ _ _ _ ?_;refine Y6;refine aA6 (k:=i+1) Oo (r _ _ (m _ _ (e _ _ g))) λW H5 p J=>aFC (p _ _ B) J (by rw[aZ,fP,List.length_drop,aA];show min i d.length+1+(d.length-(i+1))<=1000;exact Oo) λU H6 u z=>k _ H6 ((((e.trans m).trans r).trans p).trans u) (wE ?_);rw[z,aAk n,bI,bI,List.map_take,List.map_drop]
 rfl
def aIf(F:Yc "ones_more" "ones_more" aDW)(T:Yf)(FQ49:Y00 "one_more" a46 pM):dP P w K mg base cY 2 f fd a34 fY:=by
 refine F.oky aJg λO H Q E h=>?_;obtain @⟨H,Q,E,x,l,r,u,k⟩:=h;refine Yg;intro G A g s R _;obtain⟨a,rfl,z⟩:=iJ r;refine Y6h _ (Y7B ["face","counts"] [0] (Y7N (Y9R oE (by rfl) 0)) (Y3F FQ49 1 0));refine Y7 (rlT z ?_);rw[aA];refine Y5I _ Oo Oo (Y9I (i<l.length/\Y2Q (uZ (bT l i)) y) (λi y H1 H2 s ⟨m,j⟩=>⟨m,j.flat s (rE _)⟩) Oo (λi H' Q' p I B=>?_) (λD C H4 N n L e d=>?_))
 ·rw[Int.zero_add];refine Y06;exact pM.i (r.same I) Oo u λv H5 J M=>B _ H5 J ⟨Oo,M⟩
 ·refine k D C H4 N n ?_ L;refine bG.ofIdx (by rw[e,aA,aA,aT];exact Oo) λi y p=>?_;obtain⟨m,j⟩:=d i y p;exact⟨uZ (bT l i),by rw[aF,aF,bL m];rfl,j⟩
end
abbrev aDy:Stmt:=(top 66)
def aAe:Ye ["trial","aim","prices","rising","worth_of","counts","sums"] a40 aDy:={}
abbrev aDH:Stmt:=(top 67)
def LH:Ye ["trial","aim","prices","counts","worth_of","weights","dues","all_dues","sums","looks","met","worths_behind"] a08 aDH:={}
abbrev lI(ws:Y0A):Aj:=ws.map λx=>x.2
def ci(c:Ae):Af:=c.map λ(n:Nat)=>(n:Int)
def fO(c:Ae):(ci c).map V.int=c.map FO:=by unfold ci;rw[List.map_map];rfl
def IA(c:Ae):(ci c).sum=(c.sum:Nat):=by
 induction c with
 | nil=>rfl
 | cons a c ih =>
  have e:ci (a::c)=(a:Int)::ci c:=rfl;rw[e,List.sum_cons,List.sum_cons,ih];exact Oo
theorem jT:∀{a b:Ae},ci a=ci b->a=b
 | [],[],_=>rfl
 | [],b::bs,h=>by cases h
 | a::as,[],h=>by cases h
 | a::as,b::bs,h=>by
  have h:(a:Int)::ci as=(b:Int)::ci bs:=h;injection h with h1 h2;rw[jT h2,show a=b by exact Oo]
structure DW(H:Hp)(kvs:Yt)(S:Ab)(val:Ae->Fr):Prop where
 yes:∀c∈S,∃v,Y2I c=Yy/\Y3D H (val c) v
 len:Y6N S.length
def DW.t{H H':Hp}{kvs:Yt}{S:Ab}{val:Ae->Fr}(s:Y2t)(h:DW H kvs S val):DW H' kvs S val :=
 ⟨λc a=>by obtain⟨v,d,e⟩:=h.yes c a;exact⟨v,d,e.flat s (Y2h)⟩,h.len⟩
def DW.put{H:Hp}{kvs:Yt}{S:Ab}{val:Ae->Fr}(h:DW H kvs S val){c:Ae}{v:V}(r:Y3D H (val c) v):DW H (Y8O c v) (c::S) val:=by
 refine⟨Yct,by have:=h.len;have:=Y6r kvs c v;rw[cI];exact Oo⟩;rw[iF];by_cases e:d=c
 ·subst e;rw[Yo];exact Y04 v r
 ·rw[Y3H (e (Y3h q))];rcases bK.mp hd with hd | hd
  ·exact absurd hd e
  ·exact h.yes d hd
def aX.tT{H H':Hp}{p:Addr}(s:Y14){kvs:Yt}(hp:H p=Y1c):Y2t:=Yel (tE h hp (by intro z;cases z)) h
def smQ(W F:Nat)(q:Nat->Y01)(mix ps cs:Yw):Nat->Ae->Y2n
 | 0,c=>oB W λv=>ps v*q v c
 | n+1,c=>oB W (λv=>ps v*q v c)++[cs c.sum*bZ W (λv=>mix v*q v c)+bZ F (λj=>qG W F q mix ps cs n (bT c j))]
def VR{W F:Nat}{q:Nat->Y01}{mix ps cs:Yw}(n:Nat)(c:Ae):qG W F q mix ps cs n c=mN (smQ W F q mix ps cs n c):=by cases n <;> rfl
abbrev oJ(M Ns Nm Np Nc:Nat):Nat:=Np*Nc*Nm*Ns^M
section
variable{F W M:Nat}{ss:Aj}{mix ps cs:Ak}{Ns Nm Np Nc B:Nat}
def iO(I:kX F W M ss mix ps cs Ns Nm Np Nc B){C:Nat}{f:Fr}(h:Fn (oJ M Ns Nm Np Nc) C f)(hC:C<=2^690):Y4z:=nC h I.pos I.sz (Y54 hC)
def DU(I:kX F W M ss mix ps cs Ns Nm Np Nc B){C:Nat}{fs:Ak}(h:∀f∈fs,Fn (oJ M Ns Nm Np Nc) C f)(hl:Yb9 64)(hC:C<=2^690):SE fs:=rP h I.pos I.sz hl hC
def qD:1000000000000<=2^690:=Y54 (show 1000000000000<=2^40 by decide)
def vP:4*WB<=2^690:=aJy
def SD(I:kX F W M ss mix ps cs Ns Nm Np Nc B){n:Nat}(hn:n<=5):8^(n+1)*B<=WB :=
 aL (Y1s (aK Dd Oo)) (aL (Nat.le_of_eq (show 8^7*B=2097152*B from rfl)) I.b)
def kK(ss:Aj)(ps:Ak)(c:Ae)(i:Nat):Fr:=mZ (ps.getD i (0,1)) (nX ((ss.getD i []).zip c))
def vC(I:kX F W M ss mix ps cs Ns Nm Np Nc B){i:Nat}(hi:i<W)(c:Ae):eJ (nX ((ss.getD i []).zip c)) :=
 tM _ λz d=>((I.sh _ (eO (by rw[I.sl];exact hi))).2 z.1 (Ydh z.1 z.2).1).low
def BG(I:kX F W M ss mix ps cs Ns Nm Np Nc B){i:Nat}(hi:i<W){c:Ae}(hc:Y4s M):Fn (oJ M Ns Nm Np Nc) 1 (nX ((ss.getD i []).zip c)) :=
 Qn.f (vC I hi c) ((I.qn hi hc).dvd ⟨Np*Nc*Nm,by unfold oJ;ac_rfl⟩)
def SB(I:kX F W M ss mix ps cs Ns Nm Np Nc B){i:Nat}(hi:i<W):Fn (oJ M Ns Nm Np Nc) B (ps.getD i (0,1)) :=
 (I.pr _ (eO (by rw[I.pl];exact hi))).dvd ⟨Nc*Nm*Ns^M,by unfold oJ;ac_rfl⟩
def II(I:kX F W M ss mix ps cs Ns Nm Np Nc B){i:Nat}(hi:i<W):Fn (oJ M Ns Nm Np Nc) 1 (mix.getD i (0,1)) :=
 (I.mx _ (eO (by rw[I.ml];exact hi))).dvd ⟨Np*Nc*Ns^M,by unfold oJ;ac_rfl⟩
def SC(I:kX F W M ss mix ps cs Ns Nm Np Nc B){i:Nat}(hi:i<M):Fn (oJ M Ns Nm Np Nc) B (Yd8 (0,1)) :=
 (I.co _ (eO (by rw[I.cl];exact hi))).dvd ⟨Np*Nm*Ns^M,by unfold oJ;ac_rfl⟩
def rL(I:kX F W M ss mix ps cs Ns Nm Np Nc B){i:Nat}(hi:i<W)(c:Ae):eJ (kK ss ps c i)/\rv (kK ss ps c i)=cB ps i*Y1V i:=by
 have d:=(SB I hi).low;have a:=vC I hi c;exact⟨iM d a,kP d.pos a.pos⟩
def IK(I:kX F W M ss mix ps cs Ns Nm Np Nc B){i:Nat}(hi:i<W){c:Ae}(hc:Y4s M):Fn (oJ M Ns Nm Np Nc) B (kK ss ps c i) :=
 Qn.f (rL I hi c).1 (by rw[(rL I hi c).2];exact I.due hi hc)
def rK(I:kX F W M ss mix ps cs Ns Nm Np Nc B){i:Nat}(hi:i<W)(c:Ae):eJ (kK ss mix c i)/\rv (kK ss mix c i)=Y8K i*Y1V i:=by
 have d:=(II I hi).low;have a:=vC I hi c;exact⟨iM d a,kP d.pos a.pos⟩
def LP(I:kX F W M ss mix ps cs Ns Nm Np Nc B){i:Nat}(hi:i<W){c:Ae}(hc:Y4s M):Fn (oJ M Ns Nm Np Nc) 1 (kK ss mix c i) :=
 Qn.f (rK I hi c).1 (by rw[(rK I hi c).2];exact(I.met hi hc).dvd ⟨Np*Nc,by unfold oJ;ac_rfl⟩)
end
def AT{n:Nat}{g:Nat->Fr}(h:∀i,i<n->eJ (g i)):eJ (mM ((List.range n).map g))/\rv (mM ((List.range n).map g))=Y4k n (rv (g i)):=by
 have a:∀f∈(List.range n).map g,Y0b:=λf d=>by
  obtain⟨i,c,rfl⟩:=aM.mp d;exact h i (bR.mp c)
 refine Y0p (BP _ a);rw[GU _ a,List.map_map];rfl
abbrev woD(rs:Ab)(val:Ae->Fr):PyData:=.tuple (rs.map λc=>.tuple [uZ c,iR (val c)])
abbrev wvF(F W M:Nat)(ss:Aj)(mix ps cs:Ak)(c:Ae):Fr:=eQ (wor F W M ss mix ps cs c)
structure aHa(N:Nat)(qs:Y2n)(gs:Ak):Prop where
 v:gs.map rv=qs
 n:∀g∈gs,Fn N WB g
 l0:0<gs.length
 l1:gs.length<=5
structure AG(K:Aa)(H:Hp)(fs:Ak)(xs:Al):Prop where
 len:Y67 fs.length
 at_:∀(i:Nat) (x:V),Y0q=Y8->∃f,fs[i]?=Y6w/\BH K H f x
theorem AG.t{K:Aa}{H H':Hp}{fs:Ak}{xs:Al}(s:Y2t)(h:AG K H fs xs):AG K H' fs xs:=⟨h.len,λi x e=>by
 obtain⟨f,a,c⟩:=h.at_ i x e;exact⟨f,a,c.t s⟩⟩
theorem AG.v{K:Aa}{H:Hp}{fs:Ak}{xs:Al}(h:AG K H fs xs):vG K H fs xs:=⟨h.len,λi x e=>by
 obtain⟨f,a,c⟩:=h.at_ i x e;exact⟨f,a,c.v⟩⟩
def LU(K:Aa)(H:Hp)(fs:Ak)(z:V):Prop:=∃sa sx,z=.ref sa/\H sa=Yj sx/\AG K H fs sx
theorem LU.t{K:Aa}{H H':Hp}{fs:Ak}{z:V}(s:Y2t)(h:LU K H fs z):LU K H' fs z:=by
 obtain⟨a,d,c,e,g⟩:=h;exact⟨a,d,c,s _ _ e,g.t s⟩
def AG.get{K:Aa}{H:Hp}{fs:Ak}{xs:Al}(h:AG K H fs xs){i:Nat}{f:Fr}(e:fs[i]?=Y6w):∃x,Y0q=Y8/\BH K H f x:=by
 have c:=(aC.mp e).1;have d:Y0q=some (xs[i]'(by rw[h.len];exact c)):=aB (by rw[h.len];exact c);obtain⟨g,a,j⟩:=h.at_ i _ d;rw[e]at a;cases a;exact Y0K d j
def LU.of{K:Aa}{H:Hp}{fs:Ak}{v:V}(h:Y6p fs v):LU K H fs v:=by
 obtain⟨a,g,rfl,j,r⟩:=oA h;refine Y6H a g j (hJ r) (λi x e=>?_);obtain⟨f,c,d⟩:=fK r e;exact⟨f,c,.inl d⟩
def uK(K:Aa)(H:Hp)(M:Nat)(bs mix cs:Ak)(v:V):Prop:=∃a x1 x2 x3,v=Yn/\H a=Yj [.int (M:Int),x1,x2,x3]/\Y6p bs x1/\Y6p mix x2/\LU K H cs x3
theorem uK.t{K:Aa}{H H':Hp}{M:Nat}{bs mix cs:Ak}{v:V}(h:Y4B K H M v)(s:Y2t):Y4B K H' M v:=by
 obtain⟨a,c,i,d,e,l,m,g,j⟩:=h;exact⟨a,c,i,d,e,s _ _ l,m.flat s (lV _),g.flat s (lV _),j.t s⟩
def uK.same{K:Aa}{H H':Hp}{M:Nat}{bs mix cs:Ak}{v:V}(h:Y4B K H M v)(s:Y1):Y4B K H' M v:=h.t s.t
inductive AL (K:Aa):Ym
 | i {H:Hp} {Q:VK} {E:XK} {tv av pv cv:V} {p:Addr} {fs:Ah} {ws:Y0A} {bs mix ps cs:Ak} {c:Ae} {kvs:Yt} {F W M Ns Nm Np Nc B:Nat} (h1:Y3m tv) (h2:Y4B K H M av) (h3:Y6p ps pv) (h4:Y8V c cv) (h5:H p=Y1c) (I:kX F W M (Y0v) mix ps cs Ns Nm Np Nc B) (b:∀x∈ws,Y7p x.2) (cl:Y30) (cm:Y4s M) (kn:Y1T->∀j,j<F->∃v,Y2I (bT c j)=Yy/\Y3D H (wvF F W M (Y0v) mix ps cs (bT c j)) v) (k:∀D xs gs H',Y1->H D=none->Y0x=Y0G->Y41 (gs.map iR) xs->aHa (oJ M Ns Nm Np Nc) (smQ W F (gD (Y0v)) (Y8x) (cB ps) (cB cs) (Y2P) c) gs->Y1g):AL K [tv,av,pv,cv,Y2o] H Q E
def bG.ofRange{H:Hp}{n:Nat}{g:Nat->Fr}{ys:Al}(hl:Y3c n)(h:∀(i:Nat) (y:V),Y1r=Y09->i<n/\Y3D H (g i) y):Y1q (((List.range n).map g).map iR) ys:=by
 refine bG.ofIdx (by rw[aA,aA,aT,hl]) λi y a=>?_;obtain⟨c,d⟩:=h i y a;exact Y0K (by rw[aF,aF,bL c];rfl) d
def iB{α:Type}{l:Yv}{i:Nat}{a d:α}(h:l[i]?=Y7e):l.getD i d=a:=by rw[aV,h];rfl
section
def aHZ(F:Yc "sums_at" "sums_at" aDH)(T:Yf)
  (FQ72:Y36 "weight" a06 (jN K)) (FQ71:Y00 "ways_of" a18 jO) (FQ67:Y70 2 "times" K) (FQ69:Y36 "total" a27 (jJ K))
  (FQ43:Y6d 3 "less" (kS K)) (FQ50:Y2w "ones_more" a34 fY) (FQ55:Y6d 2 "plus" (kH K)):dP P w K mg base cY 4 f fd a08 (AL K):=by
 refine Y13 LH;obtain @⟨H,Q,E,tv,av,pv,cv,p,fs,ws,bs,m,r,D,c,kvs,F,W,M,ρ,ν,ξ,υ,B,rt,ra,rp,rc,hp,I,hb,ao,C,kn,k⟩:=h;refine Yg;intro cdv A outer s hr _;generalize hss:lI ws=l at I kn k;have lws:Yd4 W:=by have:=I.sl;rw[<-hss,aA]at this;exact this
 have hbB:=I.b;have hW1:=aG9;have w4:=I.w4;have w1:=I.w1;have U:B<=2^690:=aL Oo vP;obtain⟨ap,vp,rfl,aw,ω⟩:=oA rp;obtain⟨ac,rfl,hac⟩:=iJ rc;obtain⟨aa,xb,xm,xc,rfl,ε,rxb,rxm,rxc⟩:=ra;obtain⟨am,vm,rfl,χ,as⟩:=oA rxm;obtain⟨ak,vk,rfl,hak,rvk⟩:=rxc;have lvp:vp.length=W:=by rw[hJ ω,I.pl]
 have lvm:vm.length=W:=by rw[hJ as,I.ml]
 refine⟨_,(aH (iD (i:=5) (dS.o ["way","trial","counts"] [0,3]) LH.nd rfl rfl (Y7N (Y0F FQ71 0)) YbN (λ_ _ _ _=>kQ FQ72 (Y0m) (Y02) (Y07)))
  (aH (wI (i:=6) (dY.o ["price","one"] ["price","one"] []) LH.nd rfl rfl (lF true false rfl T.b_zip (Y4O 2 (aD 5))) (YbN) (λ_ _ _ _=>(Y3w FQ67 1)))
  (aH (Y7r 7 LH.nd (Y0F FQ69 6))
  (aH (iD (i:=8) (dS.o ["due","all_dues"] [7]) LH.nd rfl rfl (eC (aD 6)) YbN (λ_ _ _ _=>Y3F FQ43 1 0))
  (aH (cK (i:=9) LH.nd (YcZ (BF K rfl) (by rfl) 3))
  (aH (tL (iE (Y1x vK 9 Y2M) (aH (cK (i:=10) LH.nd (fV FQ69 (Y7R ["share","one"] ["share","one"] [] (lF true false rfl T.b_zip (Y8N 1 (aD 5))) (Y3w FQ67 1))))
  (aH (cK (i:=11) LH.nd (fV FQ69 (Y7B ["more","worth_of"] [4] (eC (Y0F FQ50 3)) (Y7X hr.u1 Y02))))
  (aR (lA (sX PySem.F.plainAttrs_list PySem.F.slot_list_append PySem.F.type_list_append uB (aD 8) (Y1L (cR FQ55 (Y95 (Y4u Y2M (aD 9)) (aD 10)) (aD 11)))))))) fA))
  (Y2p 8))))))),?_⟩
 refine Yu;intro ο τ;refine Y7 (jO.i rt ?_);rw[lws];refine Y5I _ Oo Oo (Y9I (i<W/\BH K H' (nX ((l.getD i []).zip c)) y) (λi y H1 H2 s ⟨J,R⟩=>⟨J,R.t s⟩) Oo (λi H' Q' a u X=>?_) (λD5 zs H5 hD5 e5 s5 hz5 φ=>?_))
 ·rw[Int.zero_add];have a:i<W:=Oo;obtain⟨x,G⟩:∃x,ws[i]?=Y8:=Y8e;refine Y4q;refine jN.i (rt.same u) G (rc.same u) (hb x (aE G)) (by have:=I.m5;exact Oo) λy H6 s6 r6=>X _ H6 s6 (Y0p a);have e:l.getD i []=x.2:=iB (by rw[<-hss,aF,G];rfl);rw[e];exact r6
 have lz:zs.length=W:=Oo;refine Ys;intro ο τ;refine⟨_,rfl,_,rfl,ap,D5,vp,zs,rfl,s5 _ _ aw,e5,kM (xs:=vp) (ys:=zs) (λi y H'=>i<W/\Y3l (kK l r c i) y) (λi y H1 H2 s ⟨J,R⟩=>⟨J,YeE s⟩) Oo (s5 _ _ aw) e5 Oo (λi x y H' Q' G hy u X=>?_) (λD6 us H6 hD6 e6 s6 hu6 af=>?_)⟩
 ·obtain⟨f1,γ,ζ⟩:=ω.atI G;obtain⟨a,fy⟩:=φ i y hy;have e1:r.getD i (0,1)=f1:=iB γ;refine Y06;have ι:=SB I a;rw[e1]at ι;refine eN.i (jE.of (ζ.same (s5.trans u))) (fy.same u).v ι.low (vC I a c) (iO I ι U) (Y4o I (BG I a C) Dd qD) ?_;intro q7 H7 hq7 e7 L;refine X _ H7 L ⟨a,eV ?_⟩;rw[e7];unfold kK;rw[e1]
 have r6:bG H6 (((List.range W).map (kK l r c)).map iR) us:=YaQ af;refine Ys;intro ο τ;have S6:=s5.trans s6;obtain⟨tl,ai⟩:=YfZ W (kK l r c) ((rL I a c).1);have dn:∀g∈(List.range W).map (kK l r c),Fn (oJ M ρ ν ξ υ) B g:=λg z=>by
  obtain⟨i,a,rfl⟩:=aM.mp z;exact IK I (Y71) C
 refine Y6;refine Yb8 e6 r6 (DU I dn (by rw[aA,aT];exact Oo) U) (λv7 H7 L r7=>Ys);intro ο τ;have tn:=Fn.tot _ dn;rw[aA,aT]at tn;have wB:W*B<=4*B:=Y1s w4;generalize htot:mM ((List.range W).map (kK l r c))=tot at r7 tl ai tn;refine Y50 _ D6 (Y7x (L _ _ e6)) (Yd2 (i<W/\Y3l (Y4X tot (kK l r c i)) y) (λi y H1 H2 s ⟨J,R⟩=>⟨J,YeE s⟩) Oo (L _ _ e6) (λi x H' Q' G u X=>?_) (λD8 ys H8 hD8 e8 s8 hy8 hr8=>?_))
 ·obtain⟨a,rx⟩:=af i x G;refine Y08 (kS.i (jE.of (r7.same u)) (jE.of (rx.same (L.trans u))) tl (rL I a c).1 (Y4o I tn Oo vP) (iO I (IK I a C) U) ?_);intro q9 H9 hq9 e9 s9;exact X _ H9 s9 ⟨a,eV e9⟩
 have r8:bG H8 (((List.range W).map λi=>mO tot (oK (kK l r c i))).map iR) ys:=YaQ hr8;refine Ys;intro ο τ;have sv:((List.range W).map λi=>mO tot (oK (kK l r c i))).map rv=oB W λv=>cB r v*gD l v c:=by
  unfold oB;rw[List.map_map];refine fD YcI;have a:=Y71;obtain⟨d1,d2⟩:=rL I a c;show rv (Y4X tot (kK l r c i))=_;rw[sE tl.pos (xL d1).pos,show oK (kK l r c i)=(-(kK l r c i).1,(kK l r c i).2)from rfl,BX,ai,d2,<-Rat.sub_eq_add_neg];congr 1;exact bQ λj hj=>(rL I hj c).2
 have sn:∀g∈(List.range W).map (λi=>mO tot (oK (kK l r c i))),Fn (oJ M ρ ν ξ υ) (W*B+B) g:=λg z=>by
  obtain⟨i,a,rfl⟩:=aM.mp z;exact tn.add (IK I (Y71) C).neg
 have S8:=(S6.trans L).trans s8;have β:H D8=none:=(S6.trans L).free hD8;refine Y7 (Yey (ci c) (by rw[fO];exact jQ.of (S8 _ _ hac)));rw[IA];refine Y74 (λσ H'=>∃(ae ψ:Am) (xs:Al) (gs:Ak),σ=[some tv,Y3 aa,Y3 ap,Y3 ac,Y2e,Y3 D5,Y3 D6,some v7,Y3 D8,Y9 ((c.sum:Nat):Int),ae,ψ]/\Y1/\H' D8=Y0G/\Y41 (gs.map iR) xs/\aHa (oJ M ρ ν ξ υ) (smQ W F (gD l) (cB m) (cB r) (cB D) (Y2P) c) gs)
 ·rintro σ H9 ⟨ae,ψ,xs,gs,rfl,S9,e9,r9,ok9⟩;exact Y7 (k D8 xs gs H9 S9 β e9 r9 ok9)
 refine Y91 (S8 _ _ ε);refine Y3O _ _ _ (tH (Ybf) (Ybf))
 ·have S:Y1T:=Oo;refine Yu;intro ο τ;have S86:aU H5 H8:=(s6.trans L).trans s8;refine Y0g (S8 _ _ ε);refine⟨_,rfl,am,D5,vm,zs,rfl,S8 _ _ χ,S86 _ _ e5,kM (xs:=vm) (ys:=zs) (λi y H'=>i<W/\Y3l (kK l m c i) y) (λi y H1 H2 s ⟨J,R⟩=>⟨J,YeE s⟩) Oo (S8 _ _ χ) (S86 _ _ e5) Oo (λi x y H' Q' G hy u X=>?_) (λD9 us9 H9 hD9 e9 s9 hu9 hr9=>?_)⟩
  ·obtain⟨f1,γ,ζ⟩:=as.atI G;obtain⟨a,fy⟩:=φ i y hy;have e1:m.getD i (0,1)=f1:=iB γ;refine Y06;have ι:=II I a;rw[e1]at ι;refine eN.i (jE.of (ζ.same (S8.trans u))) (fy.same (S86.trans u)).v ι.low (vC I a c) (Y4o I ι Dd qD) (Y4o I (BG I a C) Dd qD) ?_;intro q7 H7 hq7 e7 L;refine X _ H7 L ⟨a,eV ?_⟩;rw[e7];unfold kK;rw[e1]
  have r9:bG H9 (((List.range W).map (kK l m c)).map iR) us9:=YaQ hr9;have S9:=S8.trans s9;obtain⟨ml,mv⟩:=YfZ W (kK l m c) ((rK I a c).1);have mn:∀g∈(List.range W).map (kK l m c),Fn (oJ M ρ ν ξ υ) 1 g:=λg z=>by
   obtain⟨i,a,rfl⟩:=aM.mp z;exact LP I (Y71) C
  refine Yb8 e9 r9 (DU I mn (by rw[aA,aT];exact Oo) (aL Dd qD)) (λv10 H10 ag r10=>Ys);intro ο τ;have μ:=Fn.tot _ mn;rw[aA,aT]at μ;generalize hmet:mM ((List.range W).map (kK l m c))=met at r10 ml mv μ;have S10:=S9.trans ag;refine Y6;refine fY.i (rc.same S10) (by have:=I.f4;exact Oo) λD11 ms H11 hD11 an ax δ=>?_;have S11:=S10.trans δ;have lms:ms.length=F:=by rw[ax.len,aA,aA,aT,ao]
  refine Y1l D11 an (Yd2 (i<F/\Y3l (wvF F W M l m r D (bT c i)) y) (λi y H1 H2 s ⟨J,R⟩=>⟨J,YeE s⟩) (by have:=I.f4;exact Oo) an (λi x H' Q' G u X=>?_) (λD12 us H12 hD12 e12 κ hy12 ar=>?_))
  ·obtain⟨d,hd,rd⟩:=fK ax G;have a:i<F:=by rw[<-lms];exact(aC.mp G).1
   have ed:d=bT c i:=by
    rw[aF,bL Oo]at hd;simpa using hd.symm
   subst ed;obtain⟨ad,rfl,had⟩:=iJ (rd.same u);obtain⟨v,hv,rvv⟩:=kn S i a;refine Y08 (NV ((S11.trans u) _ _ hp) (by rw[fO];exact had) hv ?_);exact X _ H' (Y0e) ⟨a,rvv.same (S11.trans u)⟩
  have r12:bG H12 (((List.range F).map λi=>wvF F W M l m r D (bT c i)).map iR) us:=YaQ ar;have S12:=S11.trans κ;have wn:∀g∈(List.range F).map (λi=>wvF F W M l m r D (bT c i)),Fn (oJ M ρ ν ξ υ) (8^(Y2P)*B) g:=λg z=>by
   obtain⟨i,a,rfl⟩:=aM.mp z;have a:=Y71;refine Qn.fq ?_;have bs:=Yg4 c i;have:=I.worn (M-(bT c i).sum) (bT c i) (by rw[pI];exact ao) Oo;rw[show M-(bT c i).sum+1=M-c.sum by exact Oo]at this;exact this
  have b8:8^(Y2P)*B<=WB:=by
   have:=SD I (n:=Y2P-1) (by have:=I.m5;exact Oo)
   rwa [show M-c.sum-1+1=M-c.sum by exact Oo]at this
  obtain⟨wl,wv⟩:=YfZ F (λi=>wvF F W M l m r D (bT c i)) Y03;refine Yb8 e12 r12 (DU I wn (by rw[aA,aT];have:=I.f4;exact Oo) (aL Oo vP)) (λv13 H13 η ah=>?_);have O:=Fn.tot _ wn;rw[aA,aT]at O;generalize htw:mM ((List.range F).map λi=>wvF F W M l m r D (bT c i))=tw at ah wl wv O;have S13:=S12.trans η;have S8_13:aU H8 H13:=((((s9.trans ag).trans δ).trans κ).trans η);obtain⟨vkk,hvk,al⟩:=rvk.get (i:=c.sum) (f:=Ycr (0,1)) (by rw[aV,aB (by rw[I.cl];exact S)];rfl);have cn:=SC I S;refine⟨_,rfl,VJ (S8_13 _ _ e8),_,rfl,Y7A (S13 _ _ ε)⟩;refine Y7 (jF (S13 _ _ hak) (dR hvk) ?_);refine Y6;have au:=I.paid S;have em:rv met=Y0h (cB m v*gD l v c):=by rw[mv];exact bQ λj hj=>(rK I hj c).2
  have ab:rv (mZ (Ycr (0,1)) met)=cB D c.sum*Y0h (cB m v*gD l v c):=by rw[kP cn.low.pos ml.pos,em];rfl
  have N:Fn (oJ M ρ ν ξ υ) (4*B) (mZ (Ycr (0,1)) met):=Qn.f (iM cn.low ml) (by rw[ab];exact au);refine eN.i (al.t S13.t).v (jE.of (((r10.same δ).same κ).same η)) cn.low ml (iO I cn U) (Y4o I μ Oo qD) ?_;intro q14 H14 hq14 e14 Z;refine Y6;have f4:=I.f4;have fB:F*(8^(Y2P)*B)<=4*(8^(Y2P)*B):=Y1s f4;refine kH.i (jE.new (f:=mZ (Ycr (0,1)) met) e14) (jE.of (ah.same Z)) N.low wl (Y4o I N Oo vP) (Y4o I O Oo vP) ?_;intro q15 H15 hq15 e15 θ;have α:=θ _ _ (Z _ _ (S8_13 _ _ e8));refine LO α Oo λH16 e16 b16=>?_;have aj:=b16.t α;have S15:=(S13.trans Z).trans θ;refine⟨_,_,_,((List.range W).map λi=>Y4X tot (kK l r c i))++[mO (mZ (Ycr (0,1)) met) tw],rfl,aU.thru β S15 b16,e16,?_,?_,?_,?_,?_⟩
  ·rw[bI];exact Ye3 (r8.flat (((S8_13.trans Z).trans θ).t.trans aj) (mH _)) aj Y2h (eV e15)
  ·obtain⟨n,hn⟩:∃n,Y2P=n+1:=Y2q (Y2P-1);rw[bI,sv,hn];show _=oB W (λv=>cB r v*gD l v c)++[_];congr 1;rw[bE,List.map_nil];congr 1;rw[sE N.low.pos wl.pos,ab,wv];congr 1;refine bQ λj hj=>?_;rw[dB];unfold wor;rw[fX Oo,show M-(c.sum+1)=n by exact Oo]
  ·intro g z;rcases dO.mp z with z | z
   ·exact(sn g z).le Oo
   ·rw[bD.mp z];refine(N.add O).le ?_;have b9:=SD I (n:=Y2P) (by have:=I.m5;exact Oo);rw[Nat.pow_succ,Nat.mul_comm (8^_) 8,Nat.mul_assoc]at b9;have J:1<=8^(Y2P):=Nat.one_le_pow _ _ Dd;have hB:B<=8^(Y2P)*B:=Y5Y J;exact Oo
  ·simp
  ·rw[aZ,aA,aT];show W+1<=5;exact Oo
 ·have e0:Y2P=0:=Oo;refine⟨_,_,_,_,rfl,S8,e8,r8,?_,λg z=>(sn g z).le Oo,by rw[aA,aT];exact Oo,by rw[aA,aT];exact Oo⟩;rw[e0,sv];rfl
end
inductive qM (K:Aa):Ym
 | i {H:Hp} {Q:VK} {E:XK} {tv av pv:V} {fs:Ah} {ws:Y0A} {bs mix ps cs:Ak} {F W M Ns Nm Np Nc B:Nat} (h1:Y3m tv) (h0:Y6S F) (h2:Y4B K H M av) (h3:Y6p ps pv) (I:kX F W M (Y0v) mix ps cs Ns Nm Np Nc B) (b:∀x∈ws,Y7p x.2) (k:∀v H',Y1->Y2Q (woD (Y0i) (wvF F W M (Y0v) mix ps cs)) v->Y1H):qM K [tv,av,pv] H Q E
def CA:∀F,F<=4->∀M,M<=5->(Y0i).length<=400:=λF a M c=>yY F a (M+1) Oo
section
def aHQ(F:Yc "worths" "worths" aDy)(T:Yf)
  (FQ18:Y0W 6 "all_counts" a48 uT) (FQ31:Y00 "faces_of" a18 jZ) (FQ66:Y0W 4 "sums_at" a08 (AL K)) (FQ41:Y2w "least_place" a27 qT):dP P w K mg base cY 7 f fd a40 (qM K):=by
 refine F.oky aAe λa H Q E h=>?_;obtain @⟨H,Q,E,tv,av,pv,fs,ws,bs,J,ps,ο,F,W,M,Ns,Nm,Np,Nc,B,rt,hF,ra,rp,I,hb,k⟩:=h;refine Yg;intro cdv A υ s μ _;have f1:=I.f1;have f4:=I.f4;have m5:=I.m5;have ra0:=ra;obtain⟨aa,xb,xm,xc,rfl,ab,rxb,rxm,rxc⟩:=ra0;refine⟨_,(aH (Y0J aAe.nd (cR FQ18 (Y0F FQ31 0) (Y2M)))
  (aH (Y7r 4 aAe.nd nJ)
  (aH (gL PassesOwn.never rfl (VS rfl T.b_reversed (Y4b 3)) (Yan 5 aAe.nd) (aH (Y9U aAe.nd (tN FQ66 (μ.mono Dd) (bB Y02 (bB Y0m (bB (Y07) (Y4O 5 Y1i))))))
  (aR (jA μ.u1 Y1i (aD 5) (Y48 6 (Y0F FQ41 6))))))
  (Y0V (Y5E dH (by rfl) Kk ["counts","worth_of"] [4] (eC (Y0B)) (Y38 Y02 (Y7X μ.u1 Y02))))))),?_⟩
 refine Yu;intro d_ n_;refine Y7 (jZ.i rt ?_);rw[hF];refine Y0g ab;refine uT.i f1 f4 m5 λR H1 s1 hR LR=>Ys;intro d_ n_;obtain⟨a,Z,ψ,ζ⟩:=LR.len;have Z:H1 R=Yi a:=Z;have ψ:bG H1 ((rise F M).map uZ) a:=ψ;have ζ:a.length=(Y0i).length:=ζ;have small:=CA F f4 M m5;intro p η;refine Ys;intro d_ n_;have X:=Y6G [] η;have e2:(upd H1 p (.dT [])) p=Y0c []:=bP;generalize upd H1 p (.dT [])=H2 at X e2;have S2:=s1.trans X;have ι:H p=none:=s1.free η;have nRp:R≠p:=λz=>by rw[<-z,Z]at η;cases η
 refine Y55 _ R a rfl (gE.of (X _ _ Z)) (RC (xs:=a) (Ye0 (λ(o5 o6:Am) (u:List (List fT × V))=>An6 (σ=[some tv,Y3 aa,some pv,Y3 R,Y2e,o5,o6]) (Y1) (H' R=Yi a) (Y41 ((rise F M).map uZ) a) (H' p=Y0c u) (DW H' u ((rise F M).drop (a.length-i)) (wvF F W M (Y0v) J ps ο)))) ⟨_,_,[],rfl,S2,X _ _ Z,ψ.same X,e2,?_⟩ (Y9r) ?_ ?_)
 ·rw[Nat.sub_zero,ζ,List.drop_length];exact⟨λc G=>(by cases G),by simp⟩
 ·obtain⟨_,_,_,_,_,h,_⟩:=q;exact Y8W
 ·rintro i x σ H3 hi τ ⟨o5,o6,u,rfl,S3,m,r,ε,D3⟩;refine Ybk;intro d_ n_;obtain⟨c,G,δ⟩:=fK r τ;have N:=(gH f1).mp (aE G);have dl:=D3.len;rw[List.length_drop]at dl;refine⟨_,rfl,_,rfl,_,rfl,_,rfl,_,rfl,?_⟩;refine AL.i (rt.same S3) (ra.same S3) (rp.same S3) δ ε I hb N.1 N.2 (λhlt j hj=>?_) λD xs gs H4 C hD β r4 d=>?_
  ·have bs:=Yg4 c j;have hin:Y4m (bT c j):=(gH f1).mpr (Y2q (by rw[pI];exact N.1));have:=uA G hin Oo;rw[show a.length-1-i+1=a.length-i by exact Oo]at this;exact D3.yes _ this
  have ξ:∀g∈gs,eJ g/\Y3G g:=λg γ=>⟨(d.n g γ).low,Y4o I (d.n g γ) (Y5Y Dd) vP⟩;refine Y06;refine JG β r4 ξ d.l0 (by have:=d.l1;exact Oo) λpl y L=>?_;obtain⟨vy,φ,ry⟩:=kI r4 L.at_;refine Y6B β φ;have ey:y=wvF F W M (Y0v) J ps ο c:=by
   have e:=jD.min L λg γ=>(ξ g γ).1;rw[d.v,<-VR]at e;rw[<-ZL (ξ y (aE L.at_)).1,e];rfl
  obtain⟨ac,rfl,O⟩:=iJ (δ.same C);refine Y06;have U:=C _ _ ε;refine Y5t U c (by rw[fO];exact O) Oo YfW;have t5:=aX.tT b5 U;refine⟨_,_,_,rfl,aU.thru ι (S3.trans C) b5,b5.at nRp (C _ _ m),YcC t5 _ (r.same C),e5,?_⟩;have hd:(rise F M).drop (a.length-(i+1))=c::(rise F M).drop (a.length-i):=by
   have hc':=aC.mp G;obtain⟨hc1,ρ⟩:=hc';rw[show a.length-(i+1)=a.length-1-i by exact Oo,List.drop_eq_getElem_cons hc1,ρ,show a.length-1-i+1=a.length-i by exact Oo]
  rw[hd];refine DW.t t5 (DW.put (DW.t C.t D3) ?_);rw[<-ey];exact ry
 ·rintro σ H3 ⟨o5,o6,u,rfl,S3,m,r,ε,D3⟩;rw[Nat.sub_self,List.drop_zero]at D3;refine Y50 _ R (Y7x m) (Yd2 (∃c,Y0i[i]?=Y1u/\Y2Q (.tuple [uZ c,iR (wvF F W M (Y0v) J ps ο c)]) y) (λi y Ha Hb s ⟨c,h1,ω⟩=>⟨c,h1,ω.flat s (by show(iS (uZ c)&&(iS (iR _)&&true))=true;rw[rE];rfl)⟩) Oo m (λi x H' Q' τ ν k'=>?_) (λD S H4 hD β C κ θ=>?_))
  ·obtain⟨c,G,δ⟩:=fK r τ;obtain⟨v,hv,χ⟩:=D3.yes c (aE G);have α:=δ.same ν;obtain⟨ac,rfl,O⟩:=iJ α;refine Y2J (Y5u (ν _ _ ε) c (by rw[fO];exact O) hv ?_);exact pJ (by show 2<=64;decide) λq5 H5 hq5 e5 s5=>k' _ H5 s5 ⟨c,G,Ya1 e5 (α.same s5) ((χ.same ν).same s5)⟩
  ·refine Y3E D S (Y8H β ?_);have sl:=Y2y S hl;have el:(upd H4 l (.tup S)) l=Yj S:=bP;generalize upd H4 l (.tup S)=H5 at sl el;refine k _ H5 ((S3.trans C).trans sl) (Ygc el (by rw[κ,aA,ζ]) (λi y hi=>?_));obtain⟨c,h1,ω⟩:=θ i y hi;exact Y0K (by rw[aF,h1];rfl) (ω.same sl)
end
abbrev aEy:Stmt:=(top 86)
def aJu:Ye a01 a01 aEy:={}
abbrev aEt:Stmt:=(top 88)
def aJs:Ye a01 a01 aEt:={}
abbrev sQ5:Stmt:=(top 89)
def cQ5:Ye a01 a01 sQ5:={}
abbrev aEz:Stmt:=(top 87)
def aJv:Ye a01 a01 aEz:={}
inductive wT (K:Aa):Ym
 | i {H:Hp} {Q:VK} {E:XK} {x y:V} {f g:Fr} (h1:jE K H f x) (h2:jE K H g y) (l1:Y0b) (l2:eJ g) (z1:Y4z) (z2:Y3G g) (q:AD H Q (mO f g)):wT K [x,y] H Q E
inductive uS (K:Aa):Ym
 | i {H:Hp} {Q:VK} {E:XK} {x y:V} {f g:Fr} (h1:jE K H f x) (h2:jE K H g y) (l1:Y0b) (l2:eJ g) (z1:Y4z) (z2:Y3G g) (q:AD H Q (mZ f g)):uS K [x,y] H Q E
section
def aIS(F:Yc "_law_plus" "_law_plus" aEy)(T:Yf)(FQ9:Y00 "_law_frac" a03 gM):dP P w K mg base cY 2 f fd a01 (wT K):=by
 refine Yc5 aJu ?_;obtain @⟨H,Q,E,x,y,f,g,r,p,m,u,d,a,q⟩:=h;refine Yg;intro n A j s C _;obtain⟨B,rfl,l⟩:=r;obtain⟨D,rfl,e⟩:=p;refine Y4h (cR FQ9 (Y4Y (Y5P 0 1) (Y5P 1 0)) (Y5P 0 1)) (Y0M l);refine Y58;refine Y3p _ _ d.1 a.2 Y58;refine Y0M l;refine⟨_,_,rfl,rfl,kU a.1 d.2,_,_,rfl,rfl,Y0M l⟩;refine Y58;refine Y3p _ _ d.2 a.2 (Y96 (YfR u.pos) (lC (MN d.2 a.2)));exact q
def aIN(F:Yc "_law_times" "_law_times" aEt)(T:Yf)(FQ9:Y00 "_law_frac" a03 gM):dP P w K mg base cY 2 f fd a01 (uS K):=by
 refine Yc5 aJs ?_;obtain @⟨H,Q,E,x,y,f,g,r,p,m,u,e,a,q⟩:=h;refine Yg;intro n A d s C _;obtain⟨B,rfl,l⟩:=r;obtain⟨D,rfl,j⟩:=p;refine Y4h (cR FQ9 (Y5P 0 1) (Y5P 0 1)) (Y0M l);refine Y0M j;refine Y3p _ _ e.1 a.1 (Y0M l);refine Y0M j;refine Y3p _ _ e.2 a.2 (Y96 (YfR u.pos) (lC (MN e.2 a.2)));exact q
end
def aE8(f g:Fr):lw (f.1*g.2-g.1*f.2) (f.2*g.2)=Y4X f g:=by
 show _=lw (f.1*g.2 + -g.1*f.2) (f.2*g.2);rw[Int.neg_mul,Int.sub_eq_add_neg]
section
def aIT(F:Yc "_law_less" "_law_less" aEz)(T:Yf)(FQ9:Y00 "_law_frac" a03 gM):dP P w K mg base cY 2 f fd a01 (kS K):=by
 refine Yc5 aJv ?_;obtain @⟨H,Q,E,x,y,f,g,r,p,m,u,d,a,q⟩:=h;refine Yg;intro n A j s C _;obtain⟨B,rfl,l⟩:=r;obtain⟨D,rfl,e⟩:=p;refine Y4h (cR FQ9 (cC lH (Y5P 0 1) (Y5P 1 0)) (Y5P 0 1)) (Y0M l);refine Y58;refine Y3p _ _ d.1 a.2 Y58;refine Y0M l;refine⟨_,_,rfl,rfl,kU a.1 d.2,_,_,rfl,rfl,Y0M l⟩;refine Y58;refine Y3p _ _ d.2 a.2 (Y96 (YfR u.pos) (lC (MN d.2 a.2)));rw[aE8];exact q
end
section
def oQ5(F:Yc "_law_below" "_law_below" sQ5)(T:Yf):dP P w K mg base cY 1 f fd a01 (sB K):=by
 refine F.oky cQ5 λm H Q E h=>?_;obtain @⟨H,Q,E,x,y,f,g,⟨n,rfl,i⟩,⟨r,rfl,d⟩,j,e,q⟩:=h;refine Yg;intro l A a s p _;refine Y4h (tO vK (Y5P 0 1) (Y5P 1 0)) (Y0M i);refine Y0M d;refine Y3p _ _ j.1 e.2 (Y0M d);refine Y0M i;exact⟨_,_,rfl,rfl,kU e.1 j.2,_,_,rfl,rfl,q⟩
end
abbrev aEj:Stmt:=(top 57)
def aCt:Ye ["some","lower","one"] a27 aEj:={}
abbrev aDF:Stmt:=(top 58)
def aI8:Ye a44 a44 aDF:={}
inductive qV (K:Aa):Ym
 | i {H:Hp} {Q:VK} {E:XK} {a:Addr} {xs:Al} {fs:Ak} {N:Nat} (h1:H a=Y0G) (h2:vG K H fs xs) (h3:0<N) (h4:N<Y0y) (h5:∀f∈fs,Y0b/\f.2.natAbs ∣ N) (k:∀L:Nat,0<L->L ∣ N->(∀f∈fs,f.2.natAbs ∣ L)->Y1S (L:Int)):qV K Y27 H Q E
section
def aIE(F:Yc "common_lower" "common_lower" aEj)(T:Yf)(FQ24:Y00 "common_divisor" a05 sY):dP P w K mg base cY 2 f fd a27 (qV K):=by
 refine F.oky aCt λζ H Q E h=>?_;obtain @⟨H,Q,E,a,xs,fs,N,z,D,G,nz,p,k⟩:=h;refine Yg;intro Z A r s ι _;refine⟨_,(aH (Y6e aCt.nd aI)
  (aH (Y6Y (eC (Y02)) 2 aCt.nd (Y6e aCt.nd (Y7v 1 (Y5o gG 2 (Y4a FQ24 1 (Y17 2))))))
  (Y2p 1))),?_⟩
 refine Yu;intro X κ;refine Y50 _ a (Y7x z) (Yda xs (YaD (λ(L:Nat) (u:Am)=>An5 (σ=[Y2r,Y9 (L:Int),u]) (H'=H) (0<L) (L ∣ N) (∀f∈fs.take i,f.2.natAbs ∣ L))) ⟨1,_,rfl,rfl,Dd,Nat.one_dvd _,λf p=>by simp at p⟩ Y9r ?_)
 ·obtain⟨_,_,_,rfl,_⟩:=q;exact gE.of z
 ·rintro i x σ H2 R ⟨L,u,rfl,rfl,l,m,n⟩;refine Y5y;intro X;obtain⟨g,y,η,rfl,J⟩:=D.at_ i x R;obtain⟨γ,gN⟩:=p g (aE y);have α:=γ.pos;obtain⟨d,hd⟩:∃d:Nat,g.2=(d:Int):=Y2q g.2.toNat;have e:g.2.natAbs=d:=Oo;have B:0<d:=Oo;rw[e]at gN;have S:L<Y0y:=aJ (kE G m) nz;have I:d<Y0y:=aJ (kE G gN) nz;have δ:(Int.gcd (L:Int) g.2)=(Nat.gcd L d):=by rw[hd];rfl
  have θ:0<Nat.gcd L d:=Nat.gcd_pos_of_pos_left _ l;have W:Nat.gcd L d<=d:=Nat.gcd_le_right _ B;refine Y98 J ?_;refine Y98 J ?_;refine sY.i α ?_;rw[δ];have C:(2:Nat)^3000<=Y0P:=aK Dd Dd;have M:(2:Nat)^3000<=2^9000:=aK Dd Dd;have O:(g.2/((Nat.gcd L d:Nat):Int)).natAbs<Y0P:=rV (by rw[e];exact aO I C) Oo;refine⟨_,_,rfl,rfl,pU Oo (by show(Nat.gcd L d)<_;exact aJ W (aO I M)),_,_,rfl,rfl,kU (show(L:Int).natAbs<2^4000 from aO S C) O,?_⟩;have U:(L:Int)*(g.2/((Nat.gcd L d:Nat):Int))=((Nat.lcm L d:Nat):Int):=by
   rw[hd,<-Int.natCast_ediv,<-Int.natCast_mul];congr 1;unfold Nat.lcm;rw[Nat.mul_div_assoc _ (Nat.gcd_dvd_right L d)]
  refine⟨Nat.lcm L d,_,by rw[<-U];rfl,rfl,Nat.lcm_pos l B,Nat.lcm_dvd m gN,λε j=>?_⟩;rw[gP y]at j;rcases dO.mp j with h | h
  ·exact Nat.dvd_trans (n ε h) (Nat.dvd_lcm_left _ _)
  ·rw[bD.mp h,e];exact Nat.dvd_lcm_right _ _
 ·rintro σ H2 ⟨L,u,rfl,rfl,l,m,n⟩;have β:Y67 fs.length:=D.len;rw[β,dL]at n;exact Y7 (k L l m n)
end
inductive oQ (K:Aa):Ym
 | i {H:Hp} {Q:VK} {E:XK} {x:V} {f:Fr} {U:Nat} (h1:jE K H f x) (h2:Y0b) (h3:Y4z) (h4:U<Y0y) (h5:f.2.natAbs ∣ U) (k:∀n:Int,(n:Rat)=Y0Y*(U:Rat)->Y1S n):oQ K [x,.int (U:Int)] H Q E
section
def aHX(F:Yc "times_whole" "times_whole" aDF)(T:Yf):dP P w K mg base cY 1 f fd a44 (oQ K):=by
 refine YfM aI8 ?_;obtain @⟨H,Q,E,x,f,U,⟨z,rfl,i⟩,p,g,l,hd,k⟩:=h;refine Yg;intro n A d s B _;have a:=p.pos;obtain⟨r,e⟩:=hd;have m:(2:Nat)^3000<=Y0P:=aK Dd Dd;have j:(U:Int)=f.2*(r:Int):=by
  rw[e,Int.natCast_mul];congr 1;exact Oo
 refine Y4h (Y5o dI 0 (cC gG (aD 1) Y5R)) (Y0M i);refine Y98 i ?_;refine⟨_,_,rfl,rfl,pU a (lC g.2),_,_,rfl,rfl,kU g.1 (rV (show(U:Int).natAbs<2^4000 from aO l m) a),k _ ?_⟩;rw[j,Y57];have C:=pD a;have u:(U:Rat)=(f.2:Rat)*((r:Int):Rat):=by
  rw[<-Rat.intCast_mul,<-j];rfl
 rw[u,Rat.intCast_mul];grind
end
abbrev aEa:Stmt:=(top 59)
def aCo:Ye ["rising","some","unit","table","counts","one"] a41 aEa:={}
structure DI(kvs:Yt)(rs:Ab)(h:Y01):Prop where
 yes:∀c∈rs,∃n:Int,Y2I c=Y9 n/\(n:Rat)=h c
 no:∀c,c ∉ rs->Y2I c=none
 len:Y6N rs.length
def DI.put{kvs:Yt}{rs:Ab}{h:Y01}(D:DI kvs rs h){c:Ae}{n:Int}(e:(n:Rat)=h c):DI (Y8O c Y5K) (rs++[c]) h:=by
 refine Y0j Yct Yct
 ·rw[iF];by_cases q:d=c
  ·subst q;rw[Yo];exact Y04 n e
  ·rw[Y2c (q (Y3h z))];rcases dO.mp hd with hd | hd
   ·exact D.yes d hd
   ·exact absurd (bD.mp hd) q
 ·rw[iF,Y2c (hd (Yb5 _ (Y3h z)))];exact D.no d λz=>hd (cM _ z)
 ·have:=Y6r kvs c (V.int n);have:=D.len;rw[aZ,List.length_singleton];exact Oo
inductive pA (K:Aa):Ym
 | i {H:Hp} {Q:VK} {E:XK} {a b:Addr} {rs:Ab} {ys:Al} {g:Ae->Fr} {U:Nat} (h1:nT H a rs) (h2:H b=Y0t) (h3:AG K H (rs.map g) ys) (h4:rs.length<=400) (h5:U<Y0y) (h6:∀c∈rs,eJ (g c)/\Y3G (g c)/\(g c).2.natAbs ∣ U) (k:∀p kvs H',Y1->H p=none->H' p=Y1c->DI kvs rs (λc=>rv (g c)*(U:Rat))->Y0E p):pA K [Yn,Y0k,.int (U:Int)] H Q E
section
def aIu(F:Yc "in_units" "in_units" aEa)(T:Yf)(FQ68:Y00 "times_whole" a44 (oQ K)):dP P w K mg base cY 2 f fd a41 (pA K):=by
 refine Y13 aCo;obtain @⟨H,Q,E,a,b,L,ys,g,U,LS,u,X,l4,ο,θ,k⟩:=h;refine Yg;intro φ A M s γ _;obtain⟨xs,C,δ,lx⟩:=LS.len;refine⟨_,(aH (Y0J aCo.nd nJ)
  (aH (Y6O (Ybt 0 Y0m) (nY rfl (eT (Yan 4 aCo.nd) (eT (Yan 5 aCo.nd) lB))) (jA γ.u1 Y0B (aD 4) (Y3F FQ68 5 2)))
  (Y2p 3))),?_⟩
 refine Yu;intro τ n_;intro p r;have e:=Y6G [] r;have W:(upd H p (.dT [])) p=Y0c []:=bP;generalize upd H p (.dT [])=H1 at e W;have J:a≠p:=λz=>by rw[z,r]at C;cases C
 have N:b≠p:=λz=>by rw[z,r]at u;cases u
 refine Y08 (Y1U a b xs ys (e _ _ C) (e _ _ u) (Yds xs ys (∃(I O:Am) (d:Yt),σ=[Y2r,Y3 b,Y9 (U:Int),Y2e,I,O]/\aX p H1 H'/\H' p=Y0c d/\DI d (L.take i) (λc=>rv (g c)*(U:Rat))) ⟨_,_,[],rfl,(Y0e).but,W,⟨λc m=>by simp at m,λc _=>rfl,Y0H⟩⟩ (λi σ H' ⟨_,_,_,_,Z,_⟩=>?_) ?_ ?_))
 ·exact⟨Z.at J (e _ _ C),Z.at N (e _ _ u)⟩
 ·rintro i y z ζ σ H3 H4 ρ υ ⟨I,O,d,rfl,B,R,D3⟩ μ β G;obtain⟨D,m,κ⟩:=fK δ ρ;obtain⟨ξ,j,fw⟩:=X.at_ i z υ;have η:ξ=g D:=by rw[aF,m]at j;simpa using j.symm
  subst η;obtain⟨ε,ι,ψ⟩:=θ D (aE m);have t3:eW H1 H3:=aX.tT B W;have l:eW H H4:=(e.t.trans t3).trans G.t;obtain⟨ac,rfl,S⟩:=iJ (κ.flat l (rE _));refine⟨ζ,_,rfl,jQ.of β,rfl,_,_,rfl,_,_,rfl,rfl,Y23⟩;intro τ;refine Y06;refine oQ.i (fw.t l).v ε ι ο ψ λn α=>Y06;have χ:=D3.len;rw[fP]at χ;refine Y5t (G _ _ R) D (by rw[fO];exact S) Oo (λH5 ω ν=>⟨_,_,_,rfl,(B.trans G.but).trans ν,ω,?_⟩);rw[gP m];exact D3.put α
 ·rintro σ H3 ⟨I,O,d,rfl,B,R,D3⟩;have ly:Y3c L.length:=by rw[X.len,aA]
  rw[show min xs.length ys.length=L.length by exact Oo,dL]at D3;exact Y7 (k p d H3 (aU.thru r e B) r R D3)
end
abbrev aD2:Stmt:=(top 60)
def aG1:Ye ["trial","aim","counts","met"] a42 aD2:={}
def CM(W:Nat)(ss:Aj)(mix cs:Ak)(c:Ae):Rat:=Y8M*Y0a (Y5V*Y1V w)
def IJ{F W M:Nat}{ss:Aj}{mix ps cs:Ak}{Ns Nm Np Nc B:Nat}(I:kX F W M ss mix ps cs Ns Nm Np Nc B){c:Ae}(hc:Y1T):Fn (oJ M Ns Nm Np Nc) (B*4) (eQ (CM W ss mix cs c)):=by
 have e:=(I.co _ (eO (a:=(0,1)) (show c.sum<cs.length by rw[I.cl];exact hc))).q;have g:=YdZ (λw d=>I.met d (Nat.le_of_lt hc));have h:=(e.mul g).le (dF B (show W*1<=4 by have:=I.w4;exact Oo));exact(h.dvd ⟨Np,by unfold oJ;ac_rfl⟩).fq
inductive pO (K:Aa):Ym
 | i {H:Hp} {Q:VK} {E:XK} {tv av cv:V} {fs:Ah} {ws:Y0A} {bs mix ps cs:Ak} {c:Ae} {F W M Ns Nm Np Nc B:Nat} (h1:Y3m tv) (h2:Y4B K H M av) (h3:Y8V c cv) (I:kX F W M (Y0v) mix ps cs Ns Nm Np Nc B) (b:∀x∈ws,Y7p x.2) (hc:Y1T) (k:∀v H',Y1->Y2U H' (CM W (Y0v) mix cs c) v->Y1H):pO K [tv,av,cv] H Q E
section
def aIl(F:Yc "look_cost" "look_cost" aD2)(T:Yf)(FQ67:Y70 2 "times" K)(FQ72:Y36 "weight" a06 (jN K))(FQ71:Y00 "ways_of" a18 jO)(FQ69:Y36 "total" a27 (jJ K)):dP P w K mg base cY 4 f fd a42 (pO K):=by
 refine Y13 aG1;obtain @⟨H,Q,E,tv,av,cv,fs,j,bs,a,ps,L,d,F,W,M,Ns,χ,ψ,Nc,B,rt,ra,rc,I,R,N,k⟩:=h;refine Yg;intro cdv A Z s hr _;obtain⟨aa,xb,xm,xc,rfl,z,rxb,ι,δ⟩:=ra;obtain⟨am,vm,rfl,O,κ⟩:=oA ι;obtain⟨ac,vc,rfl,τ,ο⟩:=δ;obtain⟨cu,rfl,X⟩:=iJ rc;have υ:j.length=W:=by have:=I.sl;rw[aA]at this;exact this
 have w4:=I.w4;have m5:=I.m5;refine⟨_,(aH (iD (i:=3) (dS.o ["way","trial","aim","counts"] [0,1,2]) aG1.nd rfl rfl (Y7N (Y0F FQ71 0)) YbN (λ_ _ _ _=>Y95 (bO (iA K) (Y7u 2) (Y02)) (kQ FQ72 (Y0m) (Y02) (Y0B))))
  (Y0V (Y95 (Y4u Y2M (YcZ (BF K rfl) (by rfl) 2)) (Y0F FQ69 3)))),?_⟩
 refine Yu;intro d_ n_;refine Y7 (jO.i rt ?_);rw[υ];refine Y5I _ Oo Oo (Y9I (i<W/\Y3l (kK (lI j) a d i) y) (λi y H1 H2 s ⟨h1,h2⟩=>⟨h1,h2.flat s (Y2h)⟩) Oo (λi H' Q' e m k'=>?_) (λD ys H1 hD e1 G hy μ=>?_))
 ·have e:i<W:=Oo;obtain⟨x,U⟩:∃x,j[i]?=Y8:=Y4T (by rw[υ];exact e);have ν:=aE U;obtain⟨g,hg⟩:∃g,a[i]?=some g:=Y4T (by rw[I.ml];exact e);obtain⟨vg,α,η⟩:=kI κ hg;rw[Int.zero_add];refine Y0g (m _ _ z);refine Y7 (jF (m _ _ O) (dR α) ?_);refine Y4q;refine jN.i (rt.same m) U (rc.same m) (R x ν) Oo λxw H2 C fw=>?_;have φ:a.getD i (0,1)=g:=iB hg;have ω:(lI j).getD i []=x.2:=iB (by rw[aF,U];rfl);have ρ:=II I e;have ε:=BG I e (Nat.le_of_lt N);rw[φ]at ρ;rw[ω]at ε;refine eN.i (jE.of ((η.same m).same C)) fw.v ρ.low ε.low (Y4o I ρ (show 1<=1000000000000 by decide) qD) (Y4o I ε (show 1<=1000000000000 by decide) qD) λq3 H3 γ ξ θ=>k' _ H3 (C.trans θ) ⟨e,eV ?_⟩;unfold kK;rw[ξ,φ,ω]
 have r1:bG H1 (((List.range W).map (kK (lI j) a d)).map iR) ys:=YaQ μ;have fl:∀f∈(List.range W).map (kK (lI j) a d),Fn (oJ M Ns χ ψ Nc) 1 f:=λf hf=>by
  obtain⟨i,e,rfl⟩:=aM.mp hf;exact LP I (bR.mp e) (Nat.le_of_lt N)
 obtain⟨S,β⟩:=AT (n:=W) (g:=kK (lI j) a d) λi e=>(rK I e d).1;have tn:Fn (oJ M Ns χ ψ Nc) 4 (mM ((List.range W).map (kK (lI j) a d))):=by
  have:=Fn.tot _ fl;rw[aA,aT]at this;exact this.le Oo
 obtain⟨ζ,p⟩:∃g,L[d.sum]?=some g:=Y4T (by rw[I.cl];exact N);obtain⟨vgc,l,J⟩:=ο.get p;have u:L.getD d.sum (0,1)=ζ:=iB p;have r:=SC I N;rw[u]at r;refine Y0g (G _ _ z);refine Y7 (Yey (ci d) (by rw[fO];exact jQ.of (G _ _ X)));rw[IA];refine jF (G _ _ τ) (dR l) Y6;refine Yb8 e1 r1 (rP fl I.pos I.sz (by rw[aA,aT];exact Oo) (aL (show 1<=1000000000000 by decide) qD)) (λv2 H2 C r2=>?_);have hB:=I.b;refine eN.i (((J.t G.t).t C.t).v) (jE.of r2) r.low S (Y4o I r (show B<=4*WB by exact Oo) vP) (Y4o I tn (show 4<=1000000000000 by decide) qD) λq3 H3 γ ξ θ=>k _ H3 ((G.trans C).trans θ) (eV ?_);rw[ξ];have em:mZ ζ (mM ((List.range W).map (kK (lI j) a d)))=eQ (CM W (lI j) a L d):=iW (iM r.low S) (Y03) (by
  rw[kP r.low.pos S.pos,dB,β];unfold CM;rw[show cB L d.sum=rv ζ by unfold cB;rw[u]];congr 1;exact bQ λi e=>(rK I e d).2)
 rw[em]
end
theorem QW{H:Hp}:∀{P:Yaf Fr}{ys:Al},(∀(i:Nat) (y:V),Y1r=Y09->∃f,Y3D H f y/\P i f)->∃fs:Ak,Y6S ys.length/\Y69 H iR ys/\∀(i:Nat) (f:Fr),fs[i]?=Y6w->P i f
 | P,[],_=>⟨[],rfl,bG.nil,λi f h=>by simp at h⟩
 | P,y::ys,h=>by
  obtain⟨f,h1,h2⟩:=h 0 y rfl;obtain⟨fs,j,c,e⟩:=QW (P:=λi=>P (i+1)) (ys:=ys) λi z d=>h (i+1) z (by simpa using d);refine⟨f::fs,by rw[cI,cI,j],bG.cons h1 c,λi g a=>?_⟩;cases i with
  | zero=>cases(show f=g by simpa using a);exact h2
  | succ i=>exact e i g (by simpa using a)
def pY{fs:Ak}{i:Nat}{f:Fr}(h:fs[i]?=Y6w):cB fs i=Y0Y:=by unfold cB;rw[iB h]
def nF{fs:Ak}{i:Nat}(h:Yb9 i):cB fs i=0:=by
 unfold cB;rw[aV,bS h];exact lY
def MF{N B:Nat}{fs:Ak}(h:∀f∈fs,MD N B f)(i:Nat):0<=cB fs i:=by
 by_cases hi:Ya3 i
 ·have:=h _ (eO (a:=(0,1)) hi);exact PM this.1.low this.2
 ·rw[nF Oo];exact Rat.le_refl
def aED{ss:Aj}(h:∀s∈ss,∀f∈s,Y0b/\0<=f.1)(v:Nat)(c:Ae):0<=Y1V v:=by
 unfold gD;by_cases hv:v<ss.length
 ·exact aCL (h _ (eO hv))
 ·rw[aV,bS Oo];exact aCL λf a=>by cases a
def TrC.b{F W:Nat}{fs:Ah}{ws:Y0A}(T:TrC F W fs ws):∀x∈ws,Y7p x.2:=λx c =>
 ⟨λf a=>((T.sh x c).at f a).1.low,λf a=>by have:=(T.sh x c).bits f a;show f.1.natAbs<=1024;exact Oo,λf a=>by have:=(T.sh x c).bits f a;show f.2.natAbs<=1024;exact Oo⟩
def TrC.nn{F W:Nat}{fs:Ah}{ws:Y0A}(T:TrC F W fs ws)(v:Nat)(c:Ae):0<=gD (Y0v) v c:=aED (λs e=>by
 obtain⟨x,d,rfl⟩:=aM.mp e;exact λf a=>⟨((T.sh x d).at f a).1.low,((T.sh x d).at f a).2⟩) v c
def NQ{α:Type}(l:Yv):l.filter (λ_=>true)=l:=List.filter_eq_self.mpr λ_ _=>rfl
def NE{H:Hp}{α:Type}{g:α->Fr}{as:Yv}{ys:Al}(pr:Paired (λa y=>Y3D H (g a) y) as ys):Y1q ((as.map g).map iR) ys:=by
 rw[List.map_map];exact Paired.toRepL pr
section
variable{H H':Hp}{tv av pv:V}{fs:Ah}{ws:Y0A}{bs mix ps cs:Ak}{F W M:Nat}
end
abbrev sQ3:Stmt:=(BC (top 56) 0)
def cQ3:Ye ["self","trial","aim","way","weights","ahead","costs"] a19 sQ3:={}
def Fn.dn{N B:Nat}{f:Fr}(h:Y32)(hN:0<N):f.2.natAbs ∣ N:=by
 obtain⟨x,rfl,_⟩:=h.eq hN;unfold lw;show((N:Int)/((Int.gcd x (N:Int):Nat):Int)).natAbs ∣ N;rw[<-Int.natCast_ediv,Int.natAbs_natCast];refine Nat.div_dvd_of_dvd ?_;have:=Int.gcd_dvd_right (a:=x) (b:=(N:Int));exact Int.ofNat_dvd.mp this
def lkS{fl:Y4x}{f:Str}{v:V}:(eP f v fl).lookup f=Yy:=by rw[fE,Yo]
def lkN{fl:Y4x}{f g:Str}{v u:V}(h:g≠f)(l:fl.lookup g=Yp):(eP f v fl).lookup g=Yp:=by rw[fE,Y3L];exact l
def aX.tI{H H':Hp}{x C dx:Addr}{fl:Y4x}(s:Y6M x)(hx:H x=some (.ins C dx fl)):Y2t:=Yel (tE h hx (by intro z;cases z)) h
def nT.but{H H':Hp}{x C dx:Addr}{fl:Y4x}{a:Addr}{cs:Ab}(s:Y6M x)(hx:H x=some (.ins C dx fl))(h:nT H a cs):nT H' a cs:=by
 obtain⟨e,c,d⟩:=h;exact⟨e,s.at (tE c hx (by intro z;cases z)) c,d.flat (aX.tI s hx) (mI _)⟩
def nT.butL{H H':Hp}{x:Addr}{xs:Al}{a:Addr}{cs:Ab}(s:Y6M x)(hx:H x=Y0G)(n:a≠x)(h:nT H a cs):nT H' a cs:=by
 obtain⟨d,e,c⟩:=h;exact⟨d,s.at n e,c.flat (s.t hx) (mI _)⟩
def vQ(H:Hp)(tas:Y0s)(ss:Aj)(rs:Ab)(us:Ae):Prop:=tas.length=us.length/\∀(i:Nat) (ta:Addr) (u:Nat),tas[i]?=some ta->Y5X=Yp->∃kvs,H ta=Y1c/\DI kvs rs (λc=>Y1V i*(u:Rat))
def vQ.mono{H H':Hp}{tas:Y0s}{ss:Aj}{rs:Ab}{us:Ae}(s:∀b kvs,H b=Y1c->Y1I=Y1c)(h:vQ H tas ss rs us):vQ H' tas ss rs us:=⟨h.1,λi c u d g=>by
 obtain⟨kvs,e,a⟩:=h.2 i c u d g;exact⟨kvs,s _ _ e,a⟩⟩
def vQ.snoc{H:Hp}{tas:Y0s}{ss:Aj}{rs:Ab}{us:Ae}{p:Addr}{u:Nat}{kvs:Yt}(h:vQ H tas ss rs us)(hp:H p=Y1c)(D:DI kvs rs (λc=>Y1V us.length*(u:Rat))):vQ H (tas++[p]) ss rs (us++[u]):=by
 refine⟨by rw[aZ,aZ,h.1];rfl,λi e v d a=>?_⟩;by_cases q:i<us.length
 ·rw[cQ (by rw[h.1];exact q)]at d;rw[cQ q]at a;exact h.2 i e v d a
 ·have g:=(Y82).1;rw[aZ,List.length_singleton]at g;have j:i=us.length:=Oo;subst j;rw[cJ (Yq),Nat.sub_self]at a;rw[cJ (by rw[h.1];exact Yq),h.1,Nat.sub_self]at d;cases d;cases a;exact⟨kvs,hp,D⟩
def ahd(F M:Nat):Ab:=(rise F M).filter λc=>Y22 c.sum M
structure AB(H:Hp)(x C:Addr)(F W M:Nat)(ss:Aj)(mix cs:Ak)(us:Ae)(cu:Nat):Prop where
 ul:Y2T W
 ex:∃(dx:Addr) (fl:Y4x) (ra ua wa ca:Addr) (tas:Y0s) (kvs:Yt),H x=some (.ins C dx fl)/\fl.lookup ("rising" : Str)=Y3 ra/\fl.lookup ("units" : Str)=Y3 ua/\fl.lookup ("weights" : Str)=Y3 wa/\fl.lookup ("cost_unit" : Str)=Y9 (cu:Int)/\fl.lookup ("costs" : Str)=Y3 ca /\
  nT H ra (Y0i)/\H ua=Yi (us.map FO)/\H wa=Yi (tas.map V.ref)/\vQ H tas ss (Y0i) us/\H ca=Y1c/\DI kvs (ahd F M) (λc=>CM W ss mix cs c*(cu:Rat))
theorem AB.same{H H':Hp}{x C:Addr}{F W M:Nat}{ss:Aj}{mix cs:Ak}{us:Ae}{cu:Nat}(s:Y1)(h:AB H x C F W M ss mix cs us cu):AB H' x C F W M ss mix cs us cu:=by
 obtain⟨j,B,D,n,l,y,m,c,d,u,z,r,I,i,A,w,G,J,p,e,a⟩:=h;exact⟨j,B,D,n,l,y,m,c,d,s _ _ u,z,r,I,i,A,w.same s,s _ _ G,s _ _ J,p.mono λb k g=>s _ _ g,s _ _ e,a⟩
structure IL(bs:Ak)(N:Nat)(us:Ae):Prop where
 d:∀u∈us,0<u/\u ∣ N
 b:∀(i:Nat) (f:Fr) (u:Nat),bs[i]?=Y6w->Y5X=Yp->f.2.natAbs ∣ u
def IL.snoc{bs:Ak}{N U:Nat}{us:Ae}{g:Fr}(h:IL bs N us)(hb:bs[us.length]?=some g)(u0:0<U)(uN:U ∣ N)(hd:g.2.natAbs ∣ U):IL bs N (us++[U]):=by
 refine⟨λu a=>?_,λi f u c a=>?_⟩
 ·rcases dO.mp a with a | a
  ·exact h.d u a
  ·rw[Y72];exact⟨u0,uN⟩
 ·by_cases l:i<us.length
  ·rw[cQ l]at a;exact h.b i f u c a
  ·have e:i=us.length:=by
    have:=(Y82).1;rw[aZ,List.length_singleton]at this;exact Oo
   subst e;rw[cJ (Yq),Nat.sub_self]at a;rw[hb]at c;cases a;cases c;exact hd
structure aG8(ws:Y0A)(bs:Ak)(F W M Ns Nm Np Nc B Nb:Nat)(mix ps cs:Ak):Prop where
 wo:kX F W M (Y0v) mix ps cs Ns Nm Np Nc B
 bo:∀x∈ws,Y7p x.2
 bl:Y9Y W
 bb:∀f∈bs,Fn Nb 1 f
 nb:0<Nb
 sz:oJ M Ns Nm Np Nc*Nb<Y0y
inductive wN (K:Aa) (C:Addr):Ym
 | i {H:Hp} {Q:VK} {E:XK} {x dx:Addr} {tv av:V} {fs:Ah} {ws:Y0A} {bs mix ps cs:Ak} {F W M Ns Nm Np Nc B Nb:Nat} (h0:H x=some (.ins C dx [])) (h1:Y3m tv) (h2:Y6S F) (h3:Y4B K H M av) (h4:aG8 ws bs F W M Ns Nm Np Nc B Nb mix ps cs) (k:∀us cu H',Y6M x->AB H' x C F W M (Y0v) mix cs us cu->IL bs (Ns^M*Nb) us->0<cu->cu ∣ oJ M Ns Nm Np Nc->Ybz):wN K C [Y24,tv,av] H Q E
section
def oQ3(F:Yc "__init__" "Weighing.__init__" sQ3)(T:Yf)(FQ18:Y0W 6 "all_counts" a48 uT)(FQ31:Y00 "faces_of" a18 jZ)
  (FQ71:Y00 "ways_of" a18 jO) (FQ72:Y36 "weight" a06 (jN K)) (FQ25:Y2w "common_lower" a27 (qV K)) (FQ35:Y2w "in_units" a41 (pA K))
  (FQ44:Y0W 4 "look_cost" a42 (pO K)):dP P w K mg base cY 7 f fd a19 (wN K c.Weighing):=by
 refine Y13 cQ3;obtain @⟨H,Q,E,x,m,tv,av,fs,μ,bs,η,ps,cs,F,W,M,φ,Nm,Np,Nc,B,Nb,hx,rt,hF,ra,G,k⟩:=h;refine Yg;intro cdv A outer s hr _;have I:=G.wo;have f1:=I.f1;have f4:=I.f4;have m5:=I.m5;have w4:=I.w4;have O:=T.w_Weighing;have wl:μ.length=W:=by have:=I.sl;rw[aA]at this;exact this
 have ra0:=ra;obtain⟨aa,xb,xm,xc,rfl,haa,rxb,rxm,rxc⟩:=ra0;obtain⟨ab,vb,rfl,hab,rvb⟩:=oA rxb;have small:=CA F f4 M m5;have af:0<φ^M*Nb:=eM (by
  have:=I.pos;exact Yfj (by rw[z,Nat.mul_zero]at this;exact Y5W)) G.nb
 have nsz:φ^M*Nb<Y0y:=aJ (by
  have h0:0<Np*Nc*Nm:=Yfj (by have:=I.pos;rw[z,Nat.zero_mul]at this;exact Y5W)
  rw[show oJ M φ Nm Np Nc*Nb=Np*Nc*Nm*(φ^M*Nb)by unfold oJ;ac_rfl];exact Y5Y h0) G.sz
 refine⟨_,(aH (Y6X (cR FQ18 (Y0F FQ31 1) (Y17 2)))
  (aH (Y6X (hZ aQ))
  (aH (Y6X (hZ aQ))
  (aH (gL PassesOwn.never rfl (Y7N (Y0F FQ71 1)) (Ycb 3 cQ3.nd rfl rfl) (aH (iD (i:=4) (dS.o ["counts","trial","way"] [1,3]) cQ3.nd rfl rfl Y6V YbN (λ_ _ _ _=>Y3j FQ72 Y0m 2 Y02))
  (aH (lA (sX PySem.F.plainAttrs_list PySem.F.slot_list_append PySem.F.type_list_append uB Y1P (Y1L (fV FQ25 (cC vV (aD 4) (hZ (Y1L (Ya2 2 Y0B))))))))
  (aR (lA (sX PySem.F.plainAttrs_list PySem.F.slot_list_append PySem.F.type_list_append uB Y1P (Y1L (Y3j FQ35 Y1P 4 (Y4u Y1P Y0B)))))))))
  (aH (iD (i:=5) (dS.o ["counts","aim"] [2]) cQ3.nd rfl rfl Y6V (λ_ _ _ _=>OQ (eB vK (YcZ (BF K rfl) (by rfl) 0) (Y7u 1))) (λ_ _ _ _=>Y02))
  (aH (iD (i:=6) (dS.o ["counts","trial","aim"] [1,2]) cQ3.nd rfl rfl (eC (aD 5)) YbN (λ_ _ _ _=>Y3j FQ44 Y0m 2 Y02))
  (aH (Y6X (Y0F FQ25 6))
  (aR (Y6X (Y3j FQ35 (aD 5) 6 Y1P)))))))))),?_⟩
 refine Yu;intro d_ n_;refine Y7 (jZ.i rt ?_);rw[hF];refine Y0g haa;refine uT.i f1 f4 m5 λR H1 s1 hR LR=>?_;have LR:nT H1 R (Y0i):=LR;have hx1:=s1 _ _ hx;refine⟨_,rfl,x,c.Weighing,m,_,rfl,hx1,O.cls,Y7o (by simp),by show 0<1000;decide,Y3J⟩;intro d_ n_;have b2:aX x H1 (Y8Q H1 x c.Weighing m (Y2C "rising" R [])):=aX.self;have e2:(upd H1 x (.ins c.Weighing m (eP "rising" (.ref R) []))) x=some (.ins c.Weighing m (Y2C "rising" R [])):=bP;generalize upd H1 x (.ins c.Weighing m (eP "rising" (.ref R) []))=H2 at b2 e2 ⊢;have L2:=LR.but b2 hx1;have t2:eW H H2:=s1.t.trans (aX.tI b2 hx1);have B2:aX x H H2:=s1.but.trans b2;refine zZ (by show 0<=64;decide) λl H3 ο e3 s3=>⟨_,rfl,x,c.Weighing,m,_,rfl,s3 _ _ e2,O.cls,Y7o (by simp),by show 1<1000;decide,?_⟩;refine Y3J;intro d_ n_;have b4:=YeQ x H3 m (Y2C "units" l (Y2C "rising" R []));have e4:(upd H3 x (.ins c.Weighing m (eP "units" (.ref l) (eP "rising" (.ref R) [])))) x=_:=bP;generalize upd H3 x (.ins c.Weighing m (eP "units" (.ref l) (eP "rising" (.ref R) [])))=H4 at b4 e4 ⊢;have ε:l≠x:=λz=>by rw[z,e2]at ο;cases ο
 have e4u:=b4.at ε e3;have L4:=(L2.same s3).but b4 (s3 _ _ e2);have t4:eW H H4:=(t2.trans s3.t).trans (aX.tI b4 (s3 _ _ e2));have B4:aX x H H4:=(B2.trans s3.but).trans b4;refine zZ (by show 0<=64;decide) λJ H5 Z e5 s5=>⟨_,rfl,x,c.Weighing,m,_,rfl,s5 _ _ e4,O.cls,Y7o (by simp),by show 2<1000;decide,?_⟩;refine Y3J;intro d_ n_;have b6:=YeQ x H5 m (Y2C "weights" J (Y2C "units" l (Y2C "rising" R [])));have e6:(upd H5 x (.ins c.Weighing m (eP "weights" (.ref J) (eP "units" (.ref l) (eP "rising" (.ref R) []))))) x=_:=bP;generalize upd H5 x (.ins c.Weighing m (eP "weights" (.ref J) (eP "units" (.ref l) (eP "rising" (.ref R) []))))=H6 at b6 e6 ⊢;have ξ:J≠x:=λz=>by rw[z,e4]at Z;cases Z
 have nwu:J≠l:=λz=>by rw[z,e4u]at Z;cases Z
 have e6w:=b6.at ξ e5;have e6u:=b6.at ε (s5 _ _ e4u);have L6:=(L4.same s5).but b6 (s5 _ _ e4);have B6:aX x H H6:=(B4.trans s5.but).trans b6;have lr:(eP "weights" (V.ref J) (eP "units" (.ref l) (eP "rising" (.ref R) []))).lookup ("rising" : Str)=Y3 R:=Y7q (Y7q lkS);have lu:(eP "weights" (V.ref J) (eP "units" (.ref l) (eP "rising" (.ref R) []))).lookup ("units" : Str)=Y3 l:=Y7q lkS;have lw':(eP "weights" (V.ref J) (eP "units" (.ref l) (eP "rising" (.ref R) []))).lookup ("weights" : Str)=Y3 J:=lkS;have fle:(eP "weights" (V.ref J) (Y2C "units" l (Y2C "rising" R []))).length<=3:=by
  have N:=lL "weights" (V.ref J) (Y2C "units" l (Y2C "rising" R []));have S:=lL "units" (V.ref l) (Y2C "rising" R []);have h3:=lL "rising" (V.ref R) [];simp only[List.length_nil]at h3;exact Oo
 generalize eP "weights" (V.ref J) (eP "units" (.ref l) (eP "rising" (.ref R) []))=fl at e6 lr lu lw' fle ⊢;have hu0:H l=none:=by
  cases q:H l with
  | none=>rfl
  | some o=>exact absurd (B2.at ε q) (by rw[ο];intro z;cases z)
 have hw0:H J=none:=by
  cases q:H J with
  | none=>rfl
  | some o=>exact absurd (B4.at ξ q) (by rw[Z];intro z;cases z)
 have nRu:R≠l:=λz=>by obtain⟨vs,g,_⟩:=L2;rw[z,ο]at g;cases g
 have nRw:R≠J:=λz=>by obtain⟨vs,g,_⟩:=L4;rw[z,Z]at g;cases g
 clear ο Z e2 e3 e4 e5 e4u b2 b4 b6 s3 s5 L2 L4 LR t2 t4 B2 B4;refine Y7 (jO.i (rt.flat (aX.tI B6 hx) (oY _ _)) ?_);rw[wl];refine Y5I _ Oo Oo ?_;refine oU (λi σ H'=>Ex4 λ(o3 o4:Am) (τ:Ae) (α:List Addr)=>An9 (σ=[Y3 x,some tv,Y3 aa,o3,o4,none,none]) (Y6M x) (H' x=some (.ins c.Weighing m fl)) (nT H' R (Y0i)) (H' l=Yi (τ.map FO)) (τ.length=i) (H' J=Yi (α.map V.ref)) (vQ H' α (lI μ) (Y0i) τ) (IL bs (φ^M*Nb) τ))
  ⟨_,_,[],[],rfl,B6,e6,L6,e6u,rfl,e6w,Y0I (λi ta u h=>by simp at h),⟨λu hu=>(by cases hu),λi f u hf hu=>(by simp at hu)⟩⟩ ?_ ?_
 ·rintro i σ H7 hi ⟨o3,o4,τ,α,rfl,B7,e7,L7,ad,ul,e7w,ag,hus⟩;refine Ybk;intro d_ n_;have hi:i<W:=Oo;have t7:=aX.tI B7 hx;have rt7:=rt.flat t7 (oY _ _);obtain⟨υ,hxv⟩:∃υ,μ[i]?=some υ:=Y4T (by rw[wl];exact hi);have ex:(lI μ).getD i []=υ.2:=iB (by rw[aF,hxv];rfl);obtain⟨vs7,ν,r7,lr7⟩:=L7.len;rw[Int.zero_add];refine Y1W (by simp) e7 lr;refine Y1l R ν (fI (λj y H'=>∃a,Y0i[j]?=Y7e/\BH K H' (nX (υ.2.zip a)) y) (λj y Ha Hb s ⟨a,N,S⟩=>Y29 N (S.t s)) Oo ν (λj y H' Q' hy s' k'=>?_) (λD χ H8 hD e8 κ hy8 hr8=>?_))
  ·obtain⟨a,e,rc⟩:=fK r7 hy;have hcm:=(gH f1).mp (aE e);refine Y4q;exact jN.i (rt7.same s') hxv (rc.same s') (G.bo υ (aE hxv)) Oo λxw H9 s9 fw=>k' _ H9 s9 (Y29 e fw)
  have ρ:χ.length=(Y0i).length:=Oo;refine Ys;intro d_ n_;have fr8:AG K H8 ((rise F M).map λa=>nX (υ.2.zip a)) χ:=⟨by rw[aA];exact ρ,λj y ω=>by
   obtain⟨a,N,S⟩:=hr8 j y ω;exact Y0K (by rw[aF,N];rfl) S⟩
  have e8x:=κ _ _ e7;have e8u:=κ _ _ ad;have e8w:=κ _ _ e7w;have B8:=B7.trans κ.but;refine Y1W (by simp) e8x lu;refine⟨VJ e8u,Y6⟩;have t8:=aX.tI B8 hx;obtain⟨fb,hfb⟩:∃fb,bs[i]?=some fb:=Y4T (by rw[G.bl];exact hi);obtain⟨yb,hyb,ryb⟩:=kI rvb hfb;refine Y0g (t8 _ _ haa);refine Y7 (jF (t8 _ _ hab) (dR hyb) ?_);refine zZ (by show 1<=64;decide) λq9 H9 hq9 e9 s9=>NY (s9 _ _ e8) e9 (by rw[ρ];show(Y0i).length+1<=1000;exact Oo) λq10 H10 hq10 θ s10=>?_;have d:=s9.trans s10;have ryb10:BH K H10 fb yb:=.inl (ryb.flat (t8.trans d.t) (Y2h));have fr10:AG K H10 ((rise F M).map (λa=>nX (υ.2.zip a))++[fb]) (χ++[yb]):=⟨by rw[aZ,aZ,aA,ρ];rfl,λj y ω=>by
   by_cases q:j<χ.length
   ·rw[cQ q]at ω;obtain⟨g,N,S⟩:=fr8.at_ j y ω;exact⟨g,by rw[cQ (by rw[aA];exact Oo)];exact N,S.t d.t⟩
   ·have lj:=(aC.mp ω).1;rw[aZ,List.length_singleton]at lj;have ej:j=χ.length:=Oo;subst ej;rw[cJ (Yq),Nat.sub_self]at ω;cases ω;exact⟨fb,by rw[cJ (by rw[aA];exact Oo),aA,ρ,Nat.sub_self];rfl,ryb10⟩⟩
  have wn:∀a,Y4m a->Fn (φ^M) 1 (nX (υ.2.zip a)):=λa e=>by
   have hcm:=(gH f1).mp e;have N:=vC I hi a;have S:=I.qn hi (c:=a) Oo;rw[ex]at N;unfold gD at S;rw[ex]at S;exact Qn.f N S
  refine qV.i θ fr10.v af nsz (λg hg=>?_) λU u0 uN hU=>?_
  ·rcases dO.mp hg with hg | hg
   ·obtain⟨a,e,rfl⟩:=aM.mp hg;have:=(wn a e).dvd (mL (φ^M) Nb);exact⟨this.low,Fn.dn this af⟩
   ·rw[bD.mp hg];have:=(G.bb fb (aE hfb)).dvd (Nat.dvd_mul_left Nb (φ^M));exact⟨this.low,Fn.dn this af⟩
  have uz:U<Y0y:=aJ (kE af uN) nsz;have δ:=d _ _ e8u;refine LO δ (by rw[aA];exact Oo) λH11 e11 γ=>?_;have e11u:H11 l=Yi ((τ++[U]).map FO):=by rw[e11,bI];rfl
  have n:=γ.at (Ne.symm ε) (d _ _ e8x);have L:=γ.at nwu (d _ _ e8w);have L11:=((L7.same κ).same d).butL γ δ nRu;have t11:eW H8 H11:=d.t.trans (γ.t δ);have hDu:D≠l:=λz=>by rw[z,ad]at hD;cases hD
  have e11D:=γ.at hDu (d _ _ e8);have B11:aX x H H11:=aX.thru hu0 (B8.trans d.but) γ;have tb11:vQ H11 α (lI μ) (Y0i) τ:=ag.mono λb kv g=>γ.at (tE (d _ _ (κ _ _ g)) δ (by intro z;cases z)) (d _ _ (κ _ _ g));refine Y1W (by simp) n lw';refine⟨VJ L,Y1W (by simp) n lr⟩;refine Y7 (Y1W (by simp) n lu);refine Y7 (vN e11u (dR (j:=i) (v:=FO U) (by rw[bI,cJ (by rw[aA];exact Oo),aA,ul,Nat.sub_self];rfl)) ?_);refine pA.i (g:=λa=>nX (υ.2.zip a)) L11 e11D (fr8.t t11) small uz (YeO) λp kvs H12 C hp ψ D12=>?_
  ·have N:=(wn a e).dvd (mL (φ^M) Nb);exact⟨N.low,Y4o I (by have:=BG I hi (c:=a) ((gH f1).mp e).2;rw[ex]at this;exact this) (show 1<=1000000000000 by decide) qD,hU _ (cM _ (Y3b a e))⟩
  refine LO (C _ _ L) (by rw[aA,ag.1];exact Oo) λH13 e13 ι=>?_;have hpw:p≠J:=λz=>by rw[z,L]at hp;cases hp
  have B12:=B11.trans C.but;refine⟨_,_,τ++[U],α++[p],rfl,aX.thru hw0 B12 ι,ι.at (Ne.symm ξ) (C _ _ n),(L11.same C).butL ι (C _ _ L) nRw,ι.at (Ne.symm nwu) (C _ _ e11u),by rw[aZ,ul];rfl,by rw[e13,bI];rfl,?_,hus.snoc (by rw[ul];exact hfb) u0 uN (hU _ (Yb5 _ rfl))⟩
  ·refine vQ.snoc (kvs:=kvs) ?_ (ι.at hpw ψ) ?_
   ·exact tb11.mono λb kv g=>ι.at (tE (C _ _ g) (C _ _ L) (by intro z;cases z)) (C _ _ g)
   ·rw[ul];have:(λa=>gD (lI μ) i a*(U:Rat))=λa=>rv (nX (υ.2.zip a))*(U:Rat):=by
     funext a
     unfold gD wq;rw[ex]
    rw[this];exact D12
 ·rintro σ H7 ⟨o3,o4,τ,α,rfl,B7,e7,L7,ad,ul,e7w,ag,hus⟩;refine Y3J;intro d_ n_;have ul:τ.length=W:=Oo;have t7:=aX.tI B7 hx;have rt7:=rt.flat t7 (oY _ _);have ra7:=ra.t t7;obtain⟨vs7,ν,r7,lr7⟩:=L7.len;refine Y1W (by simp) e7 lr;refine Y1l R ν (UR (g:=uZ) r7 (λa=>Y22 a.sum M) Oo ν (λy a H' Q' e ry s' k'=>?_) (λy H' Q' q=>Y7 q) (λD χ H8 hD e8 κ r8=>?_))
  ·obtain⟨ac,rfl,hac⟩:=iJ ry;refine Y7 (Yey (ci a) (by rw[fO];exact jQ.of hac));rw[IA];refine Y0g (s' _ _ (t7 _ _ haa));refine Y3O _ _ _ ?_;rw[show decide ((a.sum:Int)<(M:Int))=decide (a.sum<M)by simp];exact k' H' (Y0e)
  have r8:bG H8 ((ahd F M).map uZ) χ:=r8;refine Ys;intro d_ n_;have ρ:χ.length=(ahd F M).length:=by rw[r8.len,aA]
  have la:(ahd F M).length<=(Y0i).length:=List.length_filter_le ..;refine Y50 _ D (Y7x e8) ?_;have mah:∀a,a∈ahd F M->a.length=F/\a.sum<M:=λa e=>by
   obtain⟨N,S⟩:=gC.mp e;exact⟨((gH f1).mp N).1,of_decide_eq_true S⟩
  refine fI (λj y H'=>∃a,(ahd F M)[j]?=Y7e/\Y2U H' (CM W (lI μ) η cs a) y) (λj y Ha Hb s ⟨a,N,S⟩=>Y29 N (S.flat s (Y2h))) Oo e8 (λj y H' Q' hy s' k'=>?_) (λD2 zs H9 hD2 e9 s9 hy9 hr9=>?_)
  ·obtain⟨a,e,rc⟩:=fK r8 hy;refine Y4q;exact pO.i ((rt7.same κ).same s') ((ra7.same κ).same s') (rc.same s') I G.bo (mah a (aE e)).2 λv H10 s10 r10=>k' _ H10 s10 (Y29 e r10)
  have lz9:zs.length=(ahd F M).length:=Oo;refine Ys;intro d_ n_;have fr9:AG K H9 ((ahd F M).map λa=>eQ (CM W (lI μ) η cs a)) zs:=⟨by rw[aA];exact lz9,λj y ω=>by
   obtain⟨a,N,S⟩:=hr9 j y ω;exact Y0K (by rw[aF,N];rfl) (.inl S)⟩
  have ln:∀a,a∈ahd F M->Fn (oJ M φ Nm Np Nc) (B*4) (eQ (CM W (lI μ) η cs a)):=λa e=>IJ I (mah a e).2;refine Y6;refine qV.i e9 fr9.v I.pos I.sz (λg hg=>?_) λU u0 uN hU=>?_
  ·obtain⟨a,e,rfl⟩:=aM.mp hg;exact⟨(ln a e).low,Fn.dn (ln a e) I.pos⟩
  have uz:U<Y0y:=aJ (kE I.pos uN) I.sz;have X:=κ.trans s9;refine⟨_,rfl,x,c.Weighing,m,_,rfl,X _ _ e7,O.cls,Y7o (by simp),Oo,?_⟩;have r:=YeQ x H9 m (eP "cost_unit" (.int (U:Int)) fl);have θ:(upd H9 x (.ins c.Weighing m (eP "cost_unit" (.int (U:Int)) fl))) x=_:=bP;generalize upd H9 x (.ins c.Weighing m (eP "cost_unit" (.int (U:Int)) fl))=H10 at r θ ⊢;have ae:=X _ _ e7;have nDx:D≠x:=tE e8 (κ _ _ e7) (by intro z;cases z);have nD2x:D2≠x:=tE e9 ae (by intro z;cases z);have t10:=aX.tI r ae;have LD:nT H10 D (ahd F M):=⟨χ,r.at nDx (s9 _ _ e8),(r8.same s9).flat t10 (mI _)⟩;refine Y2J (Y4i O (by simp) θ lkS);have hB:=I.b;refine pA.i (g:=λa=>eQ (CM W (lI μ) η cs a)) LD (r.at nD2x e9) (fr9.t t10) Oo uz (λa e=>⟨(ln a e).low,Y4o I (ln a e) (show B*4<=4*WB by exact Oo) vP,hU _ (Y3b a e)⟩) λp kvs H11 ζ hp e11 D11=>?_;have n:=ζ _ _ θ;have fle2:=lL "cost_unit" (V.int (U:Int)) fl;refine⟨_,rfl,x,c.Weighing,m,_,rfl,n,O.cls,Y7o (by simp),Oo,?_⟩;have β:=YeQ x H11 m (Y2C "costs" p (eP "cost_unit" (.int (U:Int)) fl));have ψ:(upd H11 x (.ins c.Weighing m (eP "costs" (.ref p) (eP "cost_unit" (.int (U:Int)) fl)))) x=_:=bP;generalize upd H11 x (.ins c.Weighing m (eP "costs" (.ref p) (eP "cost_unit" (.int (U:Int)) fl)))=H12 at β ψ ⊢;have npx:p≠x:=λz=>by rw[z,θ]at hp;cases hp
  refine k τ U H12 ((((B7.trans X.but).trans r).trans ζ.but).trans β) ⟨ul,m,_,R,l,J,p,α,kvs,ψ,Y7q (Y7q lr),Y7q (Y7q lu),Y7q (Y7q lw'),Y7q lkS,lkS,?_,?_,?_,?_,β.at npx e11,?_⟩ hus u0 uN
  ·exact(((L7.same X).but r ae).same ζ).but β n
  ·exact β.at ε (ζ _ _ (r.at ε (X _ _ ad)))
  ·exact β.at ξ (ζ _ _ (r.at ξ (X _ _ e7w)))
  ·refine ag.mono λb kv g=>?_;have g1:=X _ _ g;have nb:b≠x:=tE g1 ae (by intro z;cases z);exact β.at nb (ζ _ _ (r.at nb g1))
  ·have:(λa=>CM W (lI μ) η cs a*(U:Rat))=λa=>rv (eQ (CM W (lI μ) η cs a))*(U:Rat):=by
    funext a
    rw[dB]
   rw[this];exact D11
end
def FA{l:Y2n}{x:Rat}(h:l≠[]):mN (l++[x])=if x<mN l then x else mN l:=by
 refine HE ?_ λy a=>?_
 ·split
  ·exact Yb5 _ rfl
  ·exact cM _ (xM h)
 ·rcases dO.mp a with a | a
  ·have:=uV a;split <;> grind
  ·rw[Y72];split <;> grind
section
variable{F W M:Nat}{ss:Aj}{mix ps cs:Ak}
def aEB{u x y:Rat}(hu:0<u)(h:u*x<=u*y):x<=y:=by
 refine Y76 ?_;have a:y<x:=by grind
 have c:=Rat.mul_lt_mul_of_pos_left a hu;grind
def YL{d:Yw}{U:Rat}(hU:0<U){ns:Af}(hl:Y9C W)(hv:∀(i:Nat) (n:Int),ns[i]?=Y7i->(n:Rat)=U*(bZ W d-d i)){m:Int}(hm:m∈ns)(hle:∀a∈ns,m<=a):(m:Rat)=U*mN (oB W d):=by
 obtain⟨i,c⟩:=gK.mp hm;have e:=hv i m c;have r:=(aC.mp c).1;have:mN (oB W d)=bZ W d-d i:=by
  refine HE (qZ.mpr (Y1t i Oo)) λx l=>?_;obtain⟨w,p,rfl⟩:=qZ.mp l;obtain⟨n,h⟩:∃n,ns[w]?=Y7i:=Y8e;have j:=hle n (aE h);have g:(m:Rat)<=(n:Rat):=by exact_mod_cast j
  rw[e,hv w n h]at g;exact aEB hU g
 rw[this];exact e
end
def lvl(F:Nat)(best:Y0w):Nat->Ab
 | 0=>[List.replicate F 0]
 | k+1=>(cta F (k+1)).filter λd=>(lvl F best k).any λc=>best c == 0&&(List.range F).any λj=>d == bT c j
section
variable{F W M:Nat}{best:Y0w}
def mD(hF:1<=F):∀k,(lvl F best k).Sublist (cta F k)
 | 0=>by unfold lvl;rw[DM F hF];exact List.Sublist.refl _
 | k+1=>by unfold lvl;exact List.filter_sublist
def mC(hF:1<=F){k:Nat}{d:Ae}:d∈Y5D F (k+1) ↔ ∃c∈lvl F best k,best c=0/\∃j,j<F/\d=bT c j:=by
 have i:d∈Y5D F (k+1)↔d∈cta F (k+1)/\∃c∈lvl F best k,best c=0/\∃j,j<F/\d=bT c j:=by
  show d∈List.filter _ _↔_;rw[gC];simp
 rw[i];refine⟨λh=>h.2,λh=>⟨?_,h⟩⟩;obtain⟨c,a,_,j,g,e⟩:=h;exact(ZX hF).mpr ⟨c,(mD hF k).subset a,j,g,e⟩
def zY(W b:Nat):Ak:=(List.range (1+W)).map λk=>if k=b then(1,1) else(0,1)
def oS(W:Nat)(best:Y0w)(c:Ae):cW:=(c,Y6m W)
def rA(F M:Nat)(best:Y0w):Ab:=(List.range (M+1)).flatMap (lvl F best)
def rul(F W M:Nat)(best:Y0w):Yh:=(rA F M best).map (Y5T)
theorem DC{α:Type}{f g:Nat->Yv}(h:∀k,(f k).Sublist (g k)):∀l:Ae,(l.flatMap f).Sublist (l.flatMap g)
 | []=>List.Sublist.refl _
 | a::l=>by rw[List.flatMap_cons,List.flatMap_cons];exact(h a).append (DC h l)
def jB(hF:1<=F):(rA F M best).Sublist (Y0i):=DC (mD hF) _
def GV:(rul F W M best).map (·.1)=Y7b:=by unfold rul;rw[List.map_map];exact List.map_id _
def sH{b k:Nat}(h:k<1+W):cB (zY W b) k=if k=b then 1 else 0:=by
 unfold cB zY;rw[aV,aF,bL h];show rv (if k=b then(1,1) else(0,1))=_;split
 ·exact sD
 ·exact lY
def pG(c:Ae):s0 (Y97 W c)=if Y0o=0 then 1 else 0:=by
 unfold s0 oS;rw[sH Oo];by_cases h:Y0o=0
 ·rw[if_pos h.symm,Y3K]
 ·rw[Y2c (h z.symm),Y3L]
def AY{c:Ae}:Y89 c ↔ ∃k,k<=M/\c∈Y5D F k:=by
 unfold rA;rw[List.mem_flatMap];constructor
 ·rintro⟨k,a,h⟩;exact⟨k,by have:=Y71;exact Oo,h⟩
 ·rintro⟨k,a,h⟩;exact⟨k,bR.mpr Oo,h⟩
def xH(hF:1<=F)(on:∀c,Y0o=0->Y1T){c:Ae}(hc:Y89 c)(h:Y0o=0){j:Nat}(hj:j<F):Y89 (bT c j):=by
 obtain⟨k,d,a⟩:=AY.mp hc;have e:=(iU ((mD hF k).subset a)).2;have g:=on c h;exact AY.mpr ⟨k+1,Oo,(mC hF).mpr ⟨c,a,h,j,hj,rfl⟩⟩
def JL(hF:1<=F){d:Ae}(hd:Y89 d)(h:d≠Ya):∃c∈Y7b,Y0o=0/\∃j,j<F/\bT c j=d:=by
 obtain⟨k,m,a⟩:=AY.mp hd;cases k with
 | zero=>exact Y7S Y72
 | succ k =>
  obtain⟨c,g,i,j,l,e⟩:=(mC hF).mp a;exact⟨c,AY.mpr ⟨k,Oo,g⟩,i,j,l,e.symm⟩
def BY:∃r,Y7b=Ya::r:=by
 unfold rA;rw[List.range_succ_eq_map,List.flatMap_cons];exact Y1N
def AU(hF:1<=F){c:Ae}(h:Y89 c):Y30/\Y4s M:=(gH hF).mp ((jB hF).subset h)
def XF(hF:1<=F)(f4:F<=4)(m5:M<=5)(on:∀c,Y0o=0->Y1T):tG F (Y1p) where
 root:=by
  obtain⟨r,n⟩:=Yf7 M best;exact⟨_,_,by unfold rul;rw[n,bE],rfl⟩
 len:=λe g=>by
  obtain⟨c,a,rfl⟩:=Y84;exact(AU hF a).1
 nd:=by rw[GV];exact(sF F f4 M m5).sublist (jB hF)
 srt:=by
  unfold rul;rw[List.pairwise_map];exact(pR F M).sublist (jB hF)
 fwd:=λe g m f l=>by
  obtain⟨c,a,rfl⟩:=Y84;rw[GV];refine xH hF on a ?_ l;refine Y76 (m ?_);rw[pG,Y2D]
 bwd:=λd hd p=>by
  rw[GV]at hd;obtain⟨c,a,h,j,i,e⟩:=JL hF hd p;exact⟨Y97 W c,Y3b c a,by rw[pG,Y3K];exact(by decide:(1:Rat)≠0),j,i,e⟩
 nn:=λe g=>by
  obtain⟨c,a,rfl⟩:=Y84;rw[pG];split <;> grind
end
abbrev aDA:Stmt:=(top 61)
def aI5:Ye a33 a33 aDA:={}
abbrev aEo:Stmt:=(top 62)
def OA:Ye ["weighing","factors","cost_factor","best_at","worth_of","counts","dues","sums","onward"] a23 aEo:={}
def CV{N B U:Nat}{q:Rat}{n:Int}(h:Y2a q)(hN:0<N)(e:(n:Rat)=q*(U:Rat)):n.natAbs<=B*U:=by
 obtain⟨z,c,g⟩:=h;have i:n*(N:Int)=z*(U:Int):=by
  have:((n*(N:Int):Int):Rat)=((z*(U:Int):Int):Rat):=by
   rw[Rat.intCast_mul,Rat.intCast_mul,e,<-c];show q*(U:Rat)*(N:Rat)=q*(N:Rat)*(U:Rat);grind
  exact_mod_cast this
 have a:=congrArg Int.natAbs i;rw[dD,dD,Int.natAbs_natCast,Int.natAbs_natCast]at a;have d:n.natAbs*N<=(B*U)*N:=by
  rw[a,show B*U*N=B*N*U by ac_rfl];exact Y1s g
 exact Nat.le_of_mul_le_mul_right d hN
def dgI{H:Hp}{p b:Addr}{kvs:Yt}{cc:Ae}(e:H p=Y1c)(hb:H b=Yj (cc.map FO)):oM H p (Y0k) (Y2I cc):=.inr ⟨kvs,Y2z cc,b,.inl e,rfl,by rw[CS,fO];exact hb,rfl⟩
inductive GR (C:Addr):Ym
 | i {H:Hp} {Q:VK} {E:XK} {x:Addr} {cv:V} {cc:Ae} {F W M:Nat} {ss:Aj} {mix cs:Ak} {us:Ae} {cu:Nat} (h1:AB H x C F W M ss mix cs us cu) (h2:Y8V cc cv) (h3:Y4m cc) (h4:W<=64) (k:∀D (ns:Af) H',Y1->H D=none->Y0x=Y9S->Y9C W->(∀(i:Nat) (n:Int) (u:Nat),ns[i]?=Y7i->Y5X=Yp->(n:Rat)=Y4R i cc*(u:Rat))->Y1g):GR C [Y24,cv] H Q E
section
def aHS(F:Yc "weights_at" "weights_at" aDA)(T:Yf):dP P w K mg base cY 1 f fd a33 (GR c.Weighing):=by
 refine Y13 aI5;obtain @⟨H,Q,E,x,cv,e,F,W,M,I,μ,cs,B,cu,ζ,Z,r,ξ,k⟩:=h;refine Yg;intro η A j s R _;obtain⟨ul,dx,fl,ra,φ,ο,ca,δ,ν,ι,a1,a2,X,υ,a5,ω,a7,G,L,S,γ⟩:=ζ;obtain⟨ac,rfl,z⟩:=iJ Z;have O:=T.w_Weighing;have χ:=L.1;refine Y6h _ (Y7B ["table","counts"] [1] Y6V (gU R.u1 Y02 Y0m));refine Y1W (by simp) ι X;refine Y1l ο G (Yd2 (∃n,y=Y5K/\∀u,B[i]?=Yp->(n:Rat)=gD I i e*(u:Rat)) Yaz (by rw[aA];exact Oo) G (λi y H' Q' g C ε=>?_) (λD ψ H1 ρ τ θ g p=>?_))
 ·rw[aF]at g;obtain⟨κ,d,rfl⟩:=eL.mp g;have li:=(aC.mp d).1;obtain⟨u,J⟩:∃u,B[i]?=Yp:=Y8e;obtain⟨kv,U,α⟩:=L.2 i κ u d J;obtain⟨n,m,l⟩:=α.yes e r;refine Y08 (Y5u (C _ _ U) e (by rw[fO];exact C _ _ z) m ?_);exact ε _ H' (Y0e) (Y04 n (λu' a=>by rw[J]at a;cases a;exact l))
 ·obtain⟨β,rfl,N⟩:=nG (P:=λi n=>∀u,B[i]?=Yp->(n:Rat)=gD I i e*(u:Rat)) p;rw[aA,aA]at g;exact k D β H1 θ ρ τ Oo λi n u m l=>N i n m u l
end
structure DP(kvs:Yt)(S:Ab)(R:Y0r Ae V):Prop where
 yes:∀c∈S,∃v,Y2I c=Yy/\R c v
 len:Y6N (2*S.length)
def DP.put{kvs:Yt}{S:Ab}{R:Y0r Ae V}(h:DP kvs S R){c:Ae}{v:V}(r:R c v):DP (Y8O c v) (c::S) R:=by
 refine⟨Yct,by have:=h.len;have:=Y6r kvs c v;rw[cI];exact Oo⟩;rw[iF];by_cases e:d=c
 ·subst e;rw[Yo];exact Y04 v r
 ·rw[Y3H (e (Y3h q))];exact h.yes d ((bK.mp hd).resolve_left e)
def DP.put2{kvs:Yt}{S:Ab}{R:Y0r Ae V}(h:DP kvs S R){c:Ae}{u v:V}(r:R c v):DP (kA (Y8O c u) (Y2z c) v) (c::S) R:=by
 refine⟨Yct,by have:=h.len;have:=Y6r kvs c u;have:=Y6r (Y8O c u) c v;rw[cI];exact Oo⟩;rw[iF];by_cases e:d=c
 ·subst e;rw[Yo];exact Y04 v r
 ·rw[Y3H (e (Y3h q)),iF,Y3H (e (Y3h q))];exact h.yes d ((bK.mp hd).resolve_left e)
def VI(kvs:Yt)(rs:Ab)(best:Y0w):Prop:=(∀c∈rs,Y2I c=Y9 (best c:Nat))/\Y6N 1000
theorem JB:∀ns:Af,((ns.sum:Int):Rat)=vD (ns.map λ(n:Int)=>(n:Rat))
 | []=>rfl
 | a::ns=>by rw[List.sum_cons,Rat.intCast_add,JB ns];rfl
def JA{n:Nat}{ns:Af}{d:Yw}(hl:Y9C n)(h:∀(i:Nat) (m:Int),ns[i]?=Y9a->(m:Rat)=d i):((ns.sum:Int):Rat)=bZ n d:=by
 rw[JB];unfold bZ;congr 1;refine Y8d;rw[aF,aF];by_cases q:i<n
 ·obtain⟨m,a⟩:∃m,ns[i]?=Y9a:=Y8e;rw[a,bL q];show some (m:Rat)=some (d i);rw[h i m a]
 ·rw[bS Oo,bS (by rw[aT];exact Oo)];rfl
def aEG{n:Nat}(h:n<Y0y){b:Nat}(hb:b<=2^690):b*n<Y0P:=by
 have c:b*n<=2^690*n:=Y1s hb;have a:2^690*n<2^690*Y0y:=Nat.mul_lt_mul_of_pos_left h (Y61);rw[<-Nat.pow_add]at a;exact Y7W c a
section
end
abbrev aD1:Stmt:=(top 39)
def aJk:Ye ["says"] ["says"] aD1:={}
abbrev aDZ:Stmt:=(top 34)
def aJj:Ye ["faces"] ["faces"] aDZ:={}
abbrev aDS:Stmt:=(top 64)
def aCm:Ye ["weighing","best_at","ways","table","counts"] a09 aDS:={}
abbrev aEh:Stmt:=(top 41)
def aCs:Ye ["level","table","found","counts","more"] ["level","table"] aEh:={}
abbrev aEg:Stmt:=(top 40)
def aCr:Ye ["faces","table","found","level"] a07 aEg:={}
abbrev aDL:Stmt:=(top 42)
def aJa:Ye a07 a07 aDL:={}
theorem yM{α:Type}[DecidableEq α]:∀{l m:Yv},l.Nodup->(∀x∈l,x∈m)->l.length<=m.length
 | [],m,_,_=>cP _
 | x::l,m,h,hs=>by
  rw[List.nodup_cons]at h;have hx:=hs x (aS ..);have c:=yM (l:=l) (m:=m.erase x) h.2 λy a=>(List.mem_erase_of_ne (λe=>by subst e;exact h.1 a)).mpr (hs y (aY _ a));rw[List.length_erase_of_mem hx]at c;have:0<m.length:=List.length_pos_of_mem hx;rw[cI];exact Oo
def aFg{kvs:Yt}{ks:Ac}{v:V}(c:Af)(hk:kvs.map (·.1)=ks.map kT)(nd:ks.Nodup):∃ks2:Ac,(kA kvs (kT c) v).map (·.1)=ks2.map kT/\ks2.Nodup/\∀x,x∈ks2↔x∈ks\/x=c:=by
 cases e:Y8I (kT c)with
 | some u =>
  refine⟨ks,by rw[EC (by rw[e];rfl),hk],nd,λx=>⟨.inl,λh=>?_⟩⟩;rcases h with h | rfl
  ·exact h
  ·have:kT x∈kvs.map (·.1):=GH e;rw[hk]at this;obtain⟨y,i,j⟩:=aM.mp this;rw[<-jR j];exact i
 | none =>
  have l:c ∉ ks:=λh=>by
   have:kT c∈kvs.map (·.1):=by rw[hk];exact List.mem_map_of_mem h
   exact WC e this
  refine⟨ks++[c],by rw[JP v e,bI,bI,hk];rfl,List.nodup_append.mpr ⟨nd,by simp,λa d b g e=>by cases bD.mp g;subst e;exact l d⟩,λx=>by rw[dO,bD]⟩
def aCe:∀F,F<=4->∀m,m<=5->((cta F m).map ci).Pairwise (λa b=>sN a b=true):=Kk
def ctI(c:Ae):PyData.tuple ((ci c).map .int)=uZ c:=by unfold ci;rw[List.map_map];rfl
section
variable{F W M:Nat}{best:Y0w}
end
def EnW(K:Aa)(H:Hp)(e:cW)(x:V):Prop:=∃b cu z,x=Y0k/\H b=Yj [.ref cu,z]/\H cu=Yj (e.1.map FO)/\LU K H e.2 z
theorem EnW.t{K:Aa}{H H':Hp}{e:cW}{x:V}(s:Y2t)(h:EnW K H e x):EnW K H' e x:=by
 obtain⟨b,a,z,c,g,i,d⟩:=h;exact⟨b,a,z,c,s _ _ g,s _ _ i,d.t s⟩
def LW(K:Aa)(H:Hp)(es:Yh)(v:V):Prop:=∃a xs,v=Yn/\H a=Y12/\Y67 es.length/\∀(i:Nat) (x:V),Y0q=Y8->∃e,es[i]?=Y7f/\EnW K H e x
theorem LW.t{K:Aa}{H H':Hp}{es:Yh}{v:V}(s:Y2t)(h:LW K H es v):LW K H' es v:=by
 obtain⟨a,p,d,m,n,g⟩:=h;exact⟨a,p,d,s _ _ m,n,λi x j=>by obtain⟨e,l,c⟩:=g i x j;exact⟨e,l,c.t s⟩⟩
inductive lK (K:Aa):Ym
 | i {H:Hp} {Q:VK} {E:XK} {z:V} {f:Fr} {fs:Ak} (h1:LU K H (f::fs) z) (k:Y34 (Y22 0 f.1)):lK K [z] H Q E
inductive mV:Ym
 | i {H:Hp} {Q:VK} {E:XK} {F:Nat} (h:F<=64) (k:∀v H',Y1->Y2Q (uZ (Ya)) v->Y1H):mV [.int (F:Int)] H Q E
structure vF(F M:Nat)(best:Y0w)(sy:Ae->Ak)(R:Y8c):Prop where
 f1:1<=F
 f4:F<=4
 m5:M<=5
 on:∀c,Y0o=0->Y1T
 r:(Y0i).length<=400
 hd:∀c,R c->∃f fs,sy c=f::fs/\(0<f.1↔Y0o=0)
 root:R (Ya)
 fwd:∀c,R c->Y0o=0->∀f,f<F->R (Y5b)
theorem vF.lvl{F M:Nat}{best:Y0w}{sy:Ae->Ak}{R:Y8c}(I:vF F M best sy R):∀(k:Nat) {c:Ae},c∈Kw.lvl F best k->R c
 | 0,c,h=>by
  have h:c∈[List.replicate F 0]:=h;rw[bD.mp h];exact I.root
 | k+1,c,h=>by
  obtain⟨d,hd,e,f,a,rfl⟩:=(mC I.f1).mp h;exact I.fwd d (I.lvl k hd) e f a
def vF.ruC{F M:Nat}{best:Y0w}{sy:Ae->Ak}{R:Y8c}(I:vF F M best sy R){c:Ae}(h:c∈Kw.rA F M best):R c:=by
 unfold Kw.rA at h;obtain⟨k,_,a⟩:=List.mem_flatMap.mp h;exact I.lvl k a
def TbG(K:Aa)(H:Hp)(d:Addr)(R:Y8c)(sy:Ae->Ak):Prop:=∃kvs,H d=Y1c/\∀c,R c->∃v,Y2I c=Yy/\LU K H (sy c) v
def TbG.same{K:Aa}{H H':Hp}{d:Addr}{R:Y8c}{sy:Ae->Ak}(s:Y1)(h:TbG K H d R sy):TbG K H' d R sy:=by
 obtain⟨a,i,l⟩:=h;exact Y29 (s _ _ i) (λc g=>by obtain⟨v,j,e⟩:=l c g;exact⟨v,j,e.t s.t⟩)
def ruG(F M:Nat)(best:Y0w)(sy:Ae->Ak):Yh:=(rA F M best).map λc=>(c,sy c)
inductive wZ (K:Aa):Ym
 | i {H:Hp} {Q:VK} {E:XK} {L d:Addr} {F M k:Nat} {best:Y0w} {sy:Ae->Ak} {R:Y8c} (h1:nT H L (Y5D F k)) (h2:TbG K H d R sy) (h3:vF F M best sy R) (h4:k<=M) (q:∀D H',Y1->H D=none->nT H' D (Y5D F (k+1))->Y1g):wZ K [.ref L,.ref d] H Q E
inductive wX (K:Aa):Ym
 | i {H:Hp} {Q:VK} {E:XK} {d:Addr} {F M:Nat} {best:Y0w} {sy:Ae->Ak} {R:Y8c} (h2:TbG K H d R sy) (h3:vF F M best sy R) (q:∀D H',Y1->H D=none->nT H' D (Y7b)->Y1g):wX K [.int (F:Int),.ref d] H Q E
inductive qN (K:Aa):Ym
 | i {H:Hp} {Q:VK} {E:XK} {d:Addr} {F M:Nat} {best:Y0w} {sy:Ae->Ak} {R:Y8c} (h2:TbG K H d R sy) (h3:vF F M best sy R) (q:∀v H',Y1->LW K H' (ruG F M best sy) v->Y1H):qN K [.int (F:Int),.ref d] H Q E
theorem BA{F M:Nat}{best:Y0w}(hF:1<=F)(on:∀c,Y0o=0->Y1T):∀j,Y5D F (M+1+j)=[]
 | 0=>by
  refine List.eq_nil_iff_forall_not_mem.mpr λd hd=>?_;obtain⟨c,hc,h0,_⟩:=(mC hF).mp hd;have a:=(iU ((mD hF M).subset hc)).2;have:=on c h0;exact Oo
 | j+1=>by
  refine List.eq_nil_iff_forall_not_mem.mpr λd hd=>?_;obtain⟨c,hc,_⟩:=(mC (k:=M+1+j) hF).mp hd;rw[BA hF on j]at hc;cases hc
theorem JW{F k:Nat}{best:Y0w}(hF:1<=F)(h:Y5D F k=[]):∀j,Y5D F (k+j)=[]
 | 0=>h
 | j+1=>by
  refine List.eq_nil_iff_forall_not_mem.mpr λd hd=>?_;obtain⟨c,hc,_⟩:=(mC (k:=k+j) hF).mp hd;rw[JW hF h j]at hc;cases hc
theorem FI{F k:Nat}{best:Y0w}(hF:1<=F)(h:Y5D F k=[]):∀j,(List.range (k+j)).flatMap (lvl F best)=(List.range k).flatMap (lvl F best)
 | 0=>rfl
 | j+1=>by rw[<-Nat.add_assoc,rD,JW hF h j,List.append_nil,FI hF h j]
section
def aIk(F:Yc "looks_on" "looks_on" aD1)(T:Yf):dP P w K mg base cY 1 f fd ["says"] (lK K):=by
 refine F.oky aJk λr H Q E h=>?_;obtain @⟨H,Q,E,z,f,fs,⟨B,p,rfl,a,d⟩,k⟩:=h;refine Yg;intro l A e s u _;obtain⟨y,g,n⟩:=d.get (i:=0) rfl;obtain⟨b,rfl,m⟩:=n.v;refine Y4h (tO zO (Y4u (Y48 0 (Yg1 (.int 0))) aI) aI) (Y7 (jF a (Y4N g) ?_));exact nW m rfl (Y0O _ _ rfl k)
def aIi(F:Yc "noughts" "noughts" aDZ)(T:Yf):dP P w K mg base cY 1 f fd ["faces"] mV:=by
 refine F.oky aJj λG H Q E h=>?_;obtain @⟨H,Q,E,F,N,k⟩:=h;refine Yg;intro r A a s M _;refine Y6h _ (Y5E dH (by rfl) Kk ["face"] [] (Y7O 0) aI);refine Y55 _ _ rfl Oo Oo (Y9I (∃n,y=Y5K/\n=0) Yaz Oo (λi H' Q' I L j=>j _ H' (Y0e) (Y04 0 rfl)) (λD J H1 O C u m d=>?_));obtain⟨e,rfl,p⟩:=nG (P:=λ_ n=>n=0) d;have B:e=Ya:=by
  rw[aA]at m;exact List.eq_replicate_iff.mpr ⟨Oo,λb z=>by obtain⟨i,h⟩:=gK.mp z;exact p i b h⟩
 subst B;refine Y3E D _ (Y6I C (λl g=>?_));refine k _ _ (u.trans (aU.upd g)) (wE ?_);rw[bP,List.map_replicate,List.map_replicate];rfl
def aIC(F:Yc "counts_behind" "counts_behind" aEh)(T:Yf)(FQ45:Y00 "looks_on" ["says"] (lK K))(FQ50:Y2w "ones_more" a34 fY):dP P w K mg base cY 3 f fd ["level","table"] (wZ K):=by
 refine Y13 aCs;obtain @⟨H,Q,E,L,d,F,M,n,l,sy,R,LS,tb,I,hk,q⟩:=h;refine Yg;intro cdv A ρ s ν _;obtain⟨ys,hL,ry,ly⟩:=LS.len;have f1:=I.f1;have f4:=I.f4;have m5:=I.m5;have β:∀(j:Nat) (d:Af),(∃c∈(lvl F l n).take j,l c=0/\∃f,f<F/\d=ci (bT c f))->d∈(lvl F l (n+1)).map ci:=λj d ⟨c,u,B,f,C,e⟩=>aM.mpr ⟨Y5b,(mC f1).mpr ⟨c,List.mem_of_mem_take u,B,f,C,rfl⟩,e.symm⟩;have small:(lvl F l (n+1)).length<=56:=by
  by_cases z:n+1<=5
  ·exact aL (mD f1 (n+1)).length_le (yT F f4 (n+1) z)
  ·have e:=BA f1 I.on (n-M);rw[show M+1+(n-M)=n+1 by exact Oo]at e;rw[e];exact Y0H
 refine⟨_,(aH (Y10 aCs.nd nJ)
  (aH (Y6Y (eC (Y02)) 3 aCs.nd (Y77 (SL (BJ (eB (YF ν.u1) (Y0B) (Y0m) (by with_unfolding_all rfl)) (wG (pX (fV FQ45 (Y7X ν.u1 Y0B)))))) (Y6Y (eC (Y0F FQ50 3)) 4 aCs.nd (jA ν.u1 Y07 (aD 4) VZ))))
  (Y0V (iV (aCi rfl) (by rfl) T.b_sorted Kk (Y4b 2))))),?_⟩
 refine Yu;intro d_ n_;intro p hp;have s1:=Y6G [] hp;have e1:(upd H p (.dT [])) p=Y0c []:=bP;generalize upd H p (.dT [])=H1 at s1 e1 ⊢;refine Y50 _ L (Y7x (s1 _ _ hL)) ?_;refine kW (xs:=ys) (λj σ H'=>Ex4 λ(o3 δ:Am) (r:List (List fT × V)) (ks:Ac)=>An6 (σ=[Y3 L,Y3 d,Y2e,o3,δ]) (Y1) (H' p=Y0c r) (r.map (·.1)=ks.map kT) (ks.Nodup) (∀d,d∈ks ↔ ∃c∈(lvl F l n).take j,l c=0/\∃f,f<F/\d=ci (bT c f)))
  ⟨_,_,[],[],rfl,s1,e1,rfl,List.nodup_nil,λd=>⟨(λh=>by cases h),λ⟨c,u,_⟩=>by rw[List.take_zero]at u;cases u⟩⟩ (Yfw) ?_ ?_
 ·obtain⟨_,_,_,_,_,S',_⟩:=q;exact gE.of (S' _ _ hL)
 ·rintro j x σ H2 hx ⟨o3,δ,r,ks,rfl,S2,α,J,nd,ζ⟩;refine Y5y;intro d_;obtain⟨cc,u,rc⟩:=fK ry hx;obtain⟨ac,rfl,Z⟩:=iJ rc;have U:=aE u;obtain⟨lc,sc⟩:=iU ((mD f1 n).subset U);obtain⟨tk,ht,υ⟩:=tb.same S2;obtain⟨v,hv,sv⟩:=υ cc (I.lvl n U);have step:∀d,(∃c∈(lvl F l n).take (j+1),l c=0/\∃f,f<F/\d=ci (bT c f))↔(∃c∈(lvl F l n).take j,l c=0/\∃f,f<F/\d=ci (bT c f))\/(l cc=0/\∃f,f<F/\d=ci (bT cc f)):=λd=>by
   rw[gP u];constructor
   ·rintro⟨c,X,h⟩;rcases dO.mp X with χ | χ
    ·exact .inl ⟨c,χ,h⟩
    ·rw[bD.mp χ]at h;exact .inr h
   ·rintro(⟨c,X,h⟩ | h)
    ·exact⟨c,cM _ X,h⟩
    ·exact⟨cc,Yb5 _ rfl,h⟩
  refine Y08 (rind (dgI (cc:=cc) ht (S2 _ _ Z)) ?_);rw[hv];refine Y7 (sO ?_);refine Y08 (Y5u ht cc (by rw[fO];exact S2 _ _ Z) hv ?_);obtain⟨hf0,hfs,ο,η⟩:=I.hd cc (I.lvl n U);rw[ο]at sv;refine lK.i sv (Y7 (tH (Ybf) (Ybf)))
  ·have B:l cc=0:=η.mp on;refine Y23;intro d_;refine Y6;refine fY.i (wE (S2 _ _ Z)) Oo λD zs H3 hD e3 r3 s3=>Y1l D e3 ?_;have lz:zs.length=F:=by rw[r3.len,aA,aA,aT];exact lc
   have κ:D≠p:=λz=>by rw[z,α]at hD;cases hD
   refine kW (xs:=zs) (λg σ H'=>Ex3 λ(δ:Am) (r:List (List fT × V)) (ks:Ac)=>An6 (σ=[Y3 L,Y3 d,Y2e,Y3 ac,δ]) (aX p H3 H') (H' p=Y0c r) (r.map (·.1)=ks.map kT) (ks.Nodup) (∀d,d∈ks↔(∃c∈(lvl F l n).take j,l c=0/\∃f,f<F/\d=ci (bT c f))\/∃f,f<g/\d=ci (bT cc f)))
    ⟨_,r,ks,rfl,(Y0e).but,s3 _ _ α,J,nd,λd=>by rw[ζ];exact⟨.inl,λh=>by rcases h with h | ⟨f,C,_⟩;exact h;exact Oo⟩⟩ (λg σ H' _ q=>?_) ?_ ?_
   ·obtain⟨_,_,_,_,b',_⟩:=q;exact Yeq κ e3
   ·rintro g z σ H4 hz ⟨o4',W,N,rfl,θ,μ,O,S,G⟩;refine Y5y;intro d_;have hg:g<F:=by have:=(aC.mp hz).1;exact Oo
    obtain⟨c2,ε,ψ⟩:=fK r3 hz;rw[aF,bL Oo]at ε;cases ε;have t4:eW H3 H4:=aX.tT θ (s3 _ _ α);obtain⟨a2,rfl,τ⟩:=iJ (ψ.flat t4 (rE _));have lk:N.length<=56:=by
     have:=yM S (m:=(lvl F l (n+1)).map ci) λd hd=>by
      rcases(G d).mp hd with h | ⟨f,C,e⟩
      ·exact β j d h
      ·exact β (j+1) d ((step d).mpr (.inr ⟨B,f,Oo,e⟩))
     rw[aA]at this;exact Oo
    have lkv:W.length=N.length:=by have:=Y8v O;simpa using this
    refine Y06;refine Y5t μ (bT cc g) (by rw[fO];exact τ) Oo YfW;obtain⟨ξ,k1,k2,k3⟩:=aFg (v:=Ybw) (ci (bT cc g)) O S;refine⟨_,_,ξ,rfl,θ.trans b5,e5,k1,k2,Y6k⟩;rw[k3,G];constructor
    ·rintro((h | ⟨f,C,e⟩) | h)
     ·exact .inl h
     ·exact .inr ⟨f,Oo,e⟩
     ·exact .inr ⟨g,Oo,h⟩
    ·rintro(h | ⟨f,C,e⟩)
     ·exact Ycw h
     ·by_cases q:f=g
      ·subst q;exact .inr e
      ·exact .inl (.inr ⟨f,Oo,e⟩)
   ·rintro σ H4 ⟨o4',W,N,rfl,θ,μ,O,S,G⟩;refine⟨_,_,W,N,rfl,aU.thru hp (S2.trans s3) θ,μ,O,S,Y6k⟩;rw[G,step,lz];constructor
    ·rintro(h | h)
     ·exact .inl h
     ·exact Y2E B h
    ·rintro(h | h)
     ·exact .inl h
     ·exact .inr h.2
  ·have B:¬l cc=0:=λz=>on (η.mpr z);refine⟨_,_,r,ks,rfl,S2,α,J,nd,Y6k⟩;rw[ζ,step];exact⟨.inl,λh=>by rcases h with h | h;exact h;exact absurd h.1 B⟩
 ·rintro σ H2 ⟨o3,δ,r,ks,rfl,S2,α,J,nd,ζ⟩;rw[ly,dL]at ζ;have y:∀d,d∈ks↔d∈(lvl F l (n+1)).map ci:=λd=>by
   rw[ζ,aM];constructor
   ·rintro⟨c,u,B,f,C,e⟩;exact⟨Y5b,(mC f1).mpr ⟨c,u,B,f,C,rfl⟩,e.symm⟩
   ·rintro⟨d',aa,rfl⟩;obtain⟨c,u,B,f,C,rfl⟩:=(mC f1).mp aa;exact⟨c,u,B,f,C,rfl⟩
  have lk:ks.length<=56:=by
   have:=yM nd (m:=(lvl F l (n+1)).map ci) λd hd=>(y d).mp hd;rw[aA]at this;exact Oo
  refine Y6;refine rsrd (cs:=ks) α J (λc u=>?_) Oo λq8 ω ds H8 pm pw ι e8 r8 s8=>?_
  ·obtain⟨d,hd,rfl⟩:=aM.mp ((y c).mp u);obtain⟨l1,_⟩:=iU ((mD f1 (n+1)).subset hd);intro z;have e:(ci d).length=d.length:=by unfold ci;rw[aA]
   rw[z,List.length_nil]at e;exact Oo
  have γ:((lvl F l (n+1)).map ci).Pairwise λa b=>sN a b=true:=by
   by_cases z:n+1<=5
   ·exact(aCe F f4 (n+1) z).sublist ((mD f1 (n+1)).map ci)
   ·have e:=BA f1 I.on (n-M);rw[show M+1+(n-M)=n+1 by exact Oo]at e;rw[e];exact List.Pairwise.nil
  have φ:ds=(lvl F l (n+1)).map ci:=KF pw γ λd=>by rw[pm.mem_iff];exact y d
  rw[φ,List.map_map,show(lvl F l (n+1)).map ((λc:Af=>PyData.tuple (c.map .int)) ∘ ci)=(lvl F l (n+1)).map uZ from fD λc _=>ctI c]at r8;exact q q8 H8 (S2.trans s8) (S2.free ι) ⟨ω,e8,r8⟩
def aIB(F:Yc "counts_come_to" "counts_come_to" aEg)(T:Yf)(FQ47:Y00 "noughts" ["faces"] mV)(FQ27:Y36 "counts_behind" ["level","table"] (wZ K)):dP P w K mg base cY 4 f fd a07 (wX K):=by
 refine F.oky aCr λe H Q E h=>?_;obtain @⟨H,Q,E,d,F,M,a,θ,R,δ,I,q⟩:=h;refine Yg;intro ε A L s ν _;have f1:=I.f1;have f4:=I.f4;have m5:=I.m5;refine⟨_,(aH (Y10 aCr.nd (hZ aQ))
  (aH (Y0J aCr.nd (hZ (Y1L (Y0F FQ47 0))))
  (aH (wH PassesOwn.never (eB zO (Y9R oE (by rfl) 3) aI) (aH (lA (Yf9 NH Y07 (Y4b 3)))
  (aR (Y0J aCr.nd (Y3F FQ27 3 1)))))
  (Y2p 2)))),?_⟩
 refine Yu;intro X γ;refine zZ (by show 0<=64;decide) λp H1 u g Z=>Ys;intro X γ;refine Y6;refine mV.i Oo λv H2 G J=>zZ (by show 1<=64;decide) λle H3 r B l=>?_;have y:=(Z.trans G).trans l;have n:le≠p:=λz=>by subst z;rw[G _ _ g]at r;cases r
 have small:∀i,i<=M+1->((List.range i).flatMap (lvl F a)).length<=400:=λi μ=>aL (DC (mD f1) (List.range i)).length_le (yY F f4 i Oo);refine AJ (λm σ H'=>Ex3 λ(le:Addr) (e:Al) (j:Nat)=>An8 (σ=[Y9 (F:Int),Y3 d,Y2e,Y3 le]) (Y1) (H' p=Yi e) (Y41 (((List.range j).flatMap (lvl F a)).map uZ) e) (nT H' le (lvl F a j)) (le≠p) (j<=M+1) (m=M+1-j))
  (λσ H'=>∃(le:Addr) (e:Al),σ=[Y9 (F:Int),Y3 d,Y2e,Y3 le]/\Y1/\H' p=Yi e/\Y41 ((rA F M a).map uZ) e)
  _ ⟨le,[],0,rfl,y,l _ _ (G _ _ g),bG.nil,Y0K B (Ycf (J.same l)),n,Y0H,rfl⟩ ?_ ?_
 ·clear g Z G l y B r n J;rintro m σ H1 ⟨le,e,j,rfl,S1,g,C,L1,n,ξ,rfl⟩;obtain⟨W,U,J,lw⟩:=L1.len;have κ:e.length=((List.range j).flatMap (lvl F a)).length:=hJ C;refine Y7 (rlL U ?_);refine Y3O _ _ _ ?_;by_cases hz:lvl F a j=[]
  ·have ι:W.length=0:=by rw[lw,hz];rfl
   refine tF (cD Oo) (Y6H le e S1 g ?_);have:=FI f1 hz (M+1-j);rw[show j+(M+1-j)=M+1 by exact Oo]at this;unfold rA;rw[this];exact C
  ·have η:0<(lvl F a j).length:=List.length_pos_iff.mpr hz;have S:j<=M:=cH λz=>hz (by
    have:=BA f1 I.on (j-(M+1))
    rwa [show M+1+(j-(M+1))=j by exact Oo]at this)
   refine CT (cN Oo) (Yu);intro X γ;have O:=small (j+1) Oo;rw[rD,aZ]at O;refine⟨_,rfl,VJ g,_,rfl,?_⟩;refine aFt g U Oo λH2 B N=>?_;have β:=N.t g;have S2:aU H H2:=aU.thru u S1 N;refine Y06;refine wZ.i (L1.butL N g n) (δ.same S2) I S λD H3 l α L3=>?_;have ζ:D≠p:=λz=>by subst z;rw[B]at α;cases α
   refine⟨_,Oo,D,e++W,j+1,rfl,S2.trans l,l _ _ B,?_,L3,ζ,Oo,rfl⟩;rw[rD,bI];exact bG.app ((C.flat β (mI _)).same l) ((J.flat β (mI _)).same l)
 ·rintro σ H1 ⟨le,e,rfl,S1,g,C⟩;exact Y7 (q p H1 S1 u ⟨e,g,C⟩)
def aH4(F:Yc "rule_within" "rule_within" aDL)(T:Yf)(FQ28:Y0W 4 "counts_come_to" a07 (wX K)):dP P w K mg base cY 5 f fd a07 (qN K):=by
 refine F.oky aJa λφ H Q E h=>?_;obtain @⟨H,Q,E,d,F,M,a,G,R,J,I,q⟩:=h;refine Yg;intro η A j s θ _;have f1:=I.f1;refine Y6h _ (Y5E dH (by rfl) Kk ["counts","table"] [1] (eC (Y3w FQ28 1)) (Y38 Y02 (Y7X θ.u1 Y02)));refine Y06;refine wX.i J I λD H1 p ω L1=>?_;obtain⟨ρ,O,ο,ψ⟩:=L1.len;have υ:(rA F M a).length<=400:=aL (jB f1).length_le I.r;refine Y1l D O (Yd2 (∃e,(ruG F M a G)[i]?=Y7f/\EnW K H' e y) (λi y τ Hb s ⟨e,C,B⟩=>⟨e,C,B.t s⟩) Oo O (λi x H' Q' W u β=>?_) (λD2 n H2 δ S X χ z=>?_))
 ·obtain⟨g,L,ι⟩:=fK ο W;obtain⟨b,rfl,N⟩:=iJ (ι.same u);obtain⟨ε,Z,γ⟩:=J;obtain⟨v,ξ,ζ⟩:=γ g (I.ruC (aE L));refine Y2J (Y5u (u _ _ (p _ _ Z)) g (by rw[fO];exact N) ξ ?_);exact pJ (by show 2<=64;decide) λν H3 μ κ m=>β _ H3 m ⟨(g,G g),by unfold ruG;rw[aF,L];rfl,ν,b,v,rfl,κ,m _ _ N,ζ.t ((p.trans u).trans m).t⟩
 ·refine Y3E D2 n (Y6I S (λl U=>?_));have sl:=Y2y n U;refine q _ _ ((p.trans X).trans sl) (Y6H l n bP (by unfold ruG;rw[aA];exact Oo) (λi y α=>?_));obtain⟨e,C,B⟩:=z i y α;exact⟨e,C,B.t sl.t⟩
end
def TbW(K:Aa)(H:Hp)(d:Addr)(rs:Ab)(W:Nat)(best:Y0w):Prop:=∃kvs,H d=Y1c/\∀c∈rs,∃v,Y2I c=Yy/\LU K H (Y6m W) v
inductive uQ (K:Aa) (C:Addr):Ym
 | i {H:Hp} {Q:VK} {E:XK} {x bp:Addr} {kb:Yt} {F W M:Nat} {ss:Aj} {mix cs:Ak} {us:Ae} {cu:Nat} {best:Y0w} (h1:AB H x C F W M ss mix cs us cu) (h2:H bp=Y9b) (h3:VI kb Y0i best) (h4:W<=4) (h5:(Y0i).length<=400) (k:∀d H',Y1->TbW K H' d (Y0i) W best->Y0E d):uQ K C [Y24,.ref bp] H Q E
section
def aIb(F:Yc "plain_table" "plain_table" aDS)(T:Yf):dP P w K mg base cY 1 f fd a09 (uQ K c.Weighing):=by
 refine F.oky aCm λN H Q E h=>?_;obtain @⟨H,Q,E,x,τ,kb,F,W,M,ss,mix,cs,us,cu,a,wg,Z,I,w4,r4,k⟩:=h;refine Yg;intro cdv A J s δ _;obtain⟨ul,dx,fl,ra,ua,wa,ca,tas,kvs,ν,a1,a2,a3,a4,a5,⟨N,ζ,n⟩,ψ,a8,a9,χ,a11⟩:=wg;have O:=T.w_Weighing;have X:N.length=(Y0i).length:=by rw[n.len,aA]
 refine⟨_,(aH (Y10 aCm.nd (iV oE (by rfl) T.b_len Kk (Y1L Y1P)))
  (aH (Y0J aCm.nd nJ)
  (aH (Y6O Y6V (Ycb 4 aCm.nd rfl rfl) (jA δ.u1 Y0B (aD 4) (Y5E dH (by rfl) Kk ["place","best_at","counts"] [1,4] (Y7N (Y4Y aI Y07)) (lP (Y1x nP 0 (Y7X δ.u1 Y07)) (YbP YcF T.g_ONE rfl) (Yeo YaJ rfl)))))
  (Y2p 3)))),?_⟩
 refine Yu;intro μ n_;refine Y1W (by simp) ν a2;refine rlL ψ (Ys);intro μ n_;rw[aA,ul];intro p ο;have u:=Y6G [] ο;have ρ:(upd H p (.dT [])) p=Y0c []:=bP;generalize upd H p (.dT [])=H1 at u ρ ⊢;refine Y1W (by simp) (u _ _ ν) a1;refine Y1l ra (u _ _ ζ) ?_;refine kW (xs:=N) (YaD (λ(C:Am) (m:List (List fT × V))=>An5 (σ=[Y3 x,Y3 τ,Y9 (W:Int),Y2e,C]) (Y1) (H' p=Y0c m) (m.length<=i) (∀d∈(rise F M).take i,∃v,gF m (Y2z d)=Yy/\LU K H' (zY W (a d)) v)))
  ⟨_,[],rfl,u,ρ,Yq,λd B=>by simp at B⟩ (Y9r) ?_ ?_
 ·obtain⟨_,_,_,S',_⟩:=q;exact gE.of (S' _ _ ζ)
 ·rintro i y σ H2 κ ⟨C,m,rfl,S2,G,l2,D2⟩;refine Y5y;intro μ;obtain⟨d,B,α⟩:=fK n κ;have hi:=(aC.mp κ).1;obtain⟨ac,rfl,r⟩:=iJ α;have υ:=I.1 d (aE B);refine⟨_,rfl,_,_,rfl,rfl,_,rfl,Oo,Oo,iY (λq z H'=>q<1+W/\BH K H' (if q=a d then(1,1) else(0,1)) z) (λq z Ha Hb s ⟨L,g⟩=>⟨L,g.t s⟩) Oo (λq H' Q' S ε ι=>?_) (λD j H3 hD e3 R φ U=>?_)⟩
  ·have S:q<1+W:=Oo;rw[Int.zero_add];refine Y2J (Y5u (ε _ _ (S2 _ _ Z)) d (by rw[fO];exact ε _ _ (S2 _ _ r)) υ ?_);refine Y87 Y5B
   ·have e:q=a d:=by injection e with e;exact Oo
    exact ι _ H' (Y0e) ⟨S,by rw[Y1w];exact .inr (Y7 T.o_ONE)⟩
   ·have e:¬q=a d:=Y5G (by rw[z]);exact ι _ H' (Y0e) ⟨S,by rw[Y0L];exact .inr (Y7 T.o_NOUGHT)⟩
  ·refine Y3E D j (Y8H e3 ?_);have sl:=Y2y j hl;have η:(upd H3 l (.tup j)) l=Yj j:=bP;generalize upd H3 l (.tup j)=H4 at sl η ⊢;have ly:j.length=1+W:=Oo;have sa:LU K H4 (zY W (a d)) (Y1m):=⟨l,j,rfl,η,by unfold zY;rw[aA,aT];exact ly,λq z hz=>by
    obtain⟨L,g⟩:=U q z hz;exact Y0K (by unfold zY;rw[aF,bL L];rfl) (g.t sl.t)⟩
   refine Y06;have S4:=(S2.trans R).trans sl;have β:=sl _ _ (R _ _ G);refine Y5t β d (by rw[fO];exact S4 _ _ r) Oo (λH5 e5 θ=>?_);have γ:eW H4 H5:=aX.tT θ β;refine⟨_,_,rfl,aU.thru ο S4 θ,e5,by have:=Y6r m d (V.ref l);exact Oo,λξ g=>?_⟩;rw[iF];by_cases e:ξ=d
   ·subst e;rw[Yo];exact Y7 (sa.t γ)
   ·rw[Y2c (e (Y3h z))];rw[gP B]at g;rcases dO.mp g with g | g
    ·obtain⟨v,ω,g2⟩:=D2 ξ g;exact⟨v,ω,((g2.t R.t).t sl.t).t γ⟩
    ·exact absurd (bD.mp g) e
 ·rintro σ H2 ⟨C,m,rfl,S2,G,l2,D2⟩;rw[X,dL]at D2;exact Y7 (k p H2 S2 ⟨m,G,D2⟩)
end
end Kw
namespace L2
open PySem PySem.Spec PySem.W PyProof.Rows HT
section
variable{prog:Program}{w:World}{A:Around}{E:Yd}{s:Shared}
end
section
variable{X:Cx}{pins:Ad}{σ:St}{H:Hp}{s:Shared}
end
section
variable{X:Cx}{pins:Ad}{σ:St}{H:Hp}{s:Shared}
end
end L2
namespace HT
open PySem PySem.W PyProof.Rows
section
variable{A:Around}{s:Shared}
end
section
open PySem.SeqAt
open PySem.AutoSeq1 (wpAny_loadPart')
open PySem.MeetsSeq PySem.MeetsSeq2 PySem.MeetsSeq3
end
section
variable{prog:Program}{w:World}{A:Around}{E:Yd}{s:Shared}
end
end HT
namespace L2
open PySem PySem.Spec PySem.W PyProof.Rows HT
section
variable{X:Cx}
end
end L2
namespace HT
open PySem PySem.W PyProof.Rows PySem.SeqAt
open PySem.MeetsSeq PySem.MeetsSeq2 PySem.MeetsSeq3
open PySem.AutoSeq1 (wpAny_loadPart')
abbrev lsO(xs:Ai)(n:Nat)(dd:Y5r)(sl:Y9D):Obj:={ cls:=.type "list",dict:=dd,data:=.seq xs n,slots:=sl }
def QS{xs:Ai}{ns:Af}(h:Y6c xs.toList):Y9C xs.size/\∀i (hi:i<xs.size),∃t,∃hn:i<ns.length,xs[i]=Y51 (ns[i]):=by
 have d:∀{c:Ag} {ns:Af},Y6c c->Y9C c.length/\∀i (hi:i<c.length),∃t,∃hn:i<ns.length,c[i]=Y51 (ns[i]):=by
  intro c ns q
  induction q with
  | nil=>exact Y0I (λi hi=>by simp at hi)
  | cons a t q ih =>
   refine⟨by rw[cI,cI,ih.1],λi hi=>?_⟩;cases i with
   | zero=>exact Y1t t (by simp)
   | succ i =>
    obtain⟨u,hn,e⟩:=ih.2 i (by simpa using hi);exact⟨u,by simpa using hn,by simpa using e⟩
 obtain⟨g,j⟩:=d h;refine⟨by rw[g];simp,λi hi=>?_⟩;obtain⟨t,hn,e⟩:=j i (by simpa using hi);exact⟨t,hn,by rw[<-e];simp⟩
def aBU(l b:Addr){xs ys:Ai}(n n2:Nat)(dd dd2:Y5r)(sl sl2:Y9D){ns ms:Af}(hx:Y6c xs.toList)(hy:IntsAre ys.toList ms)(hz:Yeb)(k:Nat):∀i:Nat,xs.size-i=k ->
  Meets (Builtin.«list.__eq__.loop» ⟨[Y1m,Y0k,rawInt i,rawInt 0],[]⟩) (λA R s=>(Y2F l (lsO xs n dd sl)/\Y2F b (lsO ys n2 dd2 sl2))/\R (Y7K (.bool (vL (ns.drop i) (ms.drop i)))) s):=by
 obtain⟨U,P⟩:=QS hx;obtain⟨W,N⟩:=QS hy
 induction k with
 | zero =>
  intro i J a w A R s ⟨⟨j,m⟩,h⟩;obtain⟨B,g,d,p,z⟩:=s;have I:Y2u (((i:Nat):Int).toNat)=none:=by simp;exact Oo
  have n2:ys[((i:Nat):Int).toNat]?=none:=by simp;exact Oo
  rw[List.drop_eq_nil_of_le Oo,List.drop_eq_nil_of_le Oo]at h
  wp_walk using YdK,YdL
  rw[I,n2]
  wp_walk using YdK,YdL
  have O:Yx (Y22 xs.size ys.size):=cD Oo;show R (Y7K (.bool (Y22 xs.size ys.size))) _;rw[O];exact h
 | succ k ih =>
  intro i J a w A R s ⟨⟨j,m⟩,h⟩;obtain⟨B,g,d,p,z⟩:=s;have C:i<xs.size:=Oo;have y:i<ys.size:=Oo;obtain⟨t,M,T⟩:=P i C;obtain⟨u,L,G⟩:=N i y;have D:Y2u (((i:Nat):Int).toNat)=some (Y51 (ns[i])):=by rw[<-T];simp[C]
  have r:ys[((i:Nat):Int).toNat]?=some (.int ms[i] u):=by rw[<-G];simp[y]
  have up:((i:Int)+1)=((i+1:Nat):Int):=Oo;rw[List.drop_eq_getElem_cons M,List.drop_eq_getElem_cons L,CO]at h
  wp_walk using YdK,YdL
  rw[D,r];obtain⟨e,S,c⟩:=ZP A.in1 ⟨B,g,d,p,z⟩ ns[i] t ms[i] u;refine wpAny_bind (S a w _ _ ?_);cases e with
  | true =>
   rw[if_pos (c.mp rfl)]at h
   wp_walk
   rw[up];refine⟨Ygb plain_eq_loop,YdJ entry_eq_loop⟩;rw[Ydr plain_eq_loop];exact ih (i+1) Oo a w A R _ ⟨⟨j,m⟩,h⟩
  | false =>
   rw[Y3H (Y2m (c.mpr q))]at h
   wp_walk using YdK,YdL
   rw[D,r];refine wpAny_bind ((PyProof.Rows.lt_int ?_:wpAny (model a w) A.in1 (compareOp .Lt (.int ns[i] t) (.int ms[i] u)) _ _ _))
   wp_walk
   exact h
def aBX(l b:Addr){xs ys:Ai}(n n2:Nat)(dd dd2:Y5r)(sl sl2:Y9D){ns ms:Af}(hx:Y6c xs.toList)(hy:IntsAre ys.toList ms)(hz:Yeb) :
  Meets (Builtin.«list.__lt__» ⟨[Y1m,Y0k],[]⟩) (λA R s=>(Y2F l (lsO xs n dd sl)/\Y2F b (lsO ys n2 dd2 sl2))/\R (Y7K (.bool (vL ns ms))) s):=by
 intro a w A R s ⟨⟨e,c⟩,h⟩;obtain⟨i,g,d,m,j⟩:=s;have sub:=AutoSeq1.sub_list_list
 wp_walk using wpAny_loadPart' e,wpAny_loadPart' c
 refine⟨Ygb plain_eq_loop,YdJ entry_eq_loop⟩;rw[Ydr plain_eq_loop];exact aBU l b n n2 dd dd2 sl sl2 hx hy hz _ 0 rfl a w A R _ ⟨⟨e,c⟩,by rw[List.drop_zero,List.drop_zero];exact h⟩
theorem nG:∀{ns:Af}{us:Ag},L2.eK (ns.map L2.V.int) us->Y6c us
 | [],_,r=>by cases r;exact .nil
 | n::ns,_,r=>by
  cases r with
  | cons h t =>
   obtain⟨k,rfl⟩:=h;exact .cons n k (nG t)
end HT
namespace L2
open PySem PySem.Spec PySem.W PyProof.Rows HT
@[irreducible] def aBk:R2:=λx y H Q=>∃(a b:Addr) (ns ms:Af),x=Yn/\y=Y0k/\H a=Y9S/\H b=Yi (ms.map V.int)/\Yeb/\Y34 (vL ns ms)
def rltl{H:Hp}{Q:VK}{a b:Addr}{ns ms:Af}(h1:H a=Y9S)(h2:H b=Yi (ms.map V.int))(h3:Yeb)(q:Y34 (vL ns ms)):aBk (Yn) (Y0k) H Q:=by unfold aBk;exact⟨a,b,ns,ms,rfl,rfl,h1,h2,h3,q⟩
section
variable{X:Cx}
def aE3(hu:Y3I 64<cLine):Y44 .Lt aBk:=by
 unfold aBk;intro i s σ H x y v u Q I B C h;obtain⟨a,b,c,d,rfl,rfl,G,j,r,q⟩:=h;cases B;cases C;obtain⟨_,L,l,D,g⟩:=(show hV X.prog X.w H s.heap a (.lst (c.map V.int))from I.hok a _ G);obtain⟨_,m,J,n,e⟩:=(show hV X.prog X.w H s.heap b (.lst (d.map V.int))from I.hok b _ j);have p:IntsAre L.toArray.toList c:=by simpa using HT.nG D
 have z:IntsAre m.toArray.toList d:=by simpa using HT.nG n
 exact richCompare_meets_room (op:=.Lt) (Y1o g) (Y1o e) PySem.F.slot_list_lt PySem.F.entry_list_lt (PySem.F.args_list_lt_2 _ _) (aBX a b l J _ _ _ _ p z r) ⟨⟨g,e⟩,show Value.bool (vL c d)≠Value.notImplemented/\_ from⟨(λx=>nomatch x),⟨.bl _,H,I,rfl,q⟩⟩⟩ Oo
end
end L2
namespace Kw
open PySem L2 Mf
abbrev aDY:Stmt:=(top 24)
def aJi:Ye a35 a35 aDY:={}
abbrev aDO:Stmt:=(top 25)
def aJe:Ye a32 a32 aDO:={}
def ZQ(xs ys:Af):Int:=(List.zipWith (· * ·) xs ys).sum
def aE5(n k:Nat):Af:=(List.range n).map λj=>if j=k then 1 else 0
inductive qQ:Ym
 | i {H:Hp} {Q:VK} {E:XK} {n k:Nat} (h:n<=64) (q:∀D H',H D=none->Y0x=Yi ((aE5 n k).map V.int)->Y1->Y1g):qQ [.int (n:Int),.int (k:Int)] H Q E
inductive uR:Ym
 | i {H:Hp} {Q:VK} {E:XK} {a b:Addr} {xs ys:Af} (h1:H a=Yi Yej) (h2:H b=Yi (ys.map V.int)) (h3:Ye9) (h4:Y6J 64) (h5:∀x∈xs,Y5O Y0P) (h6:∀y∈ys,y.natAbs<Y0P) (q:∀H',Y1->Q (.int (ZQ xs ys)) H'):uR [Yn,Y0k] H Q E
def oT{ys:Al}{g:Y0}{n:Nat}(hl:Y3c n)(h:∀(i:Nat) (y:V),Y1r=Y09->y=.int (g i)):ys=((List.range n).map g).map V.int:=by
 refine Y8d;rw[aF,aF];by_cases hi:i<n
 ·rw[bL hi,aB Oo];exact YaO (h i _ (aB Oo))
 ·rw[bS Oo,bS (by rw[aT];exact Oo)];rfl
def sQ{xs:Af}{i:Nat}{v:V}(h:(Yej)[i]?=Yy):∃x,Y0q=Y8/\v=.int x:=by
 rw[aF]at h;obtain⟨x,a,rfl⟩:=eL.mp h;exact Y1t x a
def AH{f:Int->Int->Int}{xs ys:Af}(hl:Ye9):List.zipWith f xs ys=(List.range xs.length).map λi=>f (Ybl i) (Yd9 0):=by
 refine Y8d;rw[List.getElem?_zipWith,aF];by_cases hi:Y59
 ·have d:i<ys.length:=Oo;rw[bL hi];simp[hi,d]
 ·have a:Y0q=none:=bS Oo;have c:(List.range xs.length)[i]?=none:=bS (by rw[aT];exact Oo);rw[a,c];rfl
def aGp{K:Aa}{H:Hp}{p:Addr}{ns:Af}{Q:VK}(h:H p=Y9S)(q:YcK):MY K Y56 H Q:=by unfold MY;exact Y11 p ns Y8W q
section
def aIh(F:Yc "one_among" "one_among" aDY)(T:Yf):dP P w K mg base cY 1 f fd a35 qQ:=by
 refine Yc5 aJi ?_;obtain @⟨H,Q,E,n,k,B,q⟩:=h;refine Yg;intro p A a s g _;refine Y6h _ (Y7B ["k","place"] [1] (Y7O 0) (lP (Y1x nP 0 Y0m) aI aI));refine Y55 _ _ rfl Oo Oo ?_;rw[show((n:Nat):Int).toNat=n by exact Oo];refine iY (n:=n) (λi y _=>y=.int (if i=k then 1 else 0)) (Y9g) Oo (λi H' Q' C j d=>?_) (λD G H' u l j m g=>?_)
 ·refine Y50 _ _ rfl Y6;rw[Int.zero_add,xS];by_cases e:i=k
  ·rw[show(((i:Nat):Int) == (k:Int))=true by rw[e];simp];exact sO (d _ H' (Y0e) (by rw[Y1w]))
  ·rw[show(((i:Nat):Int) == (k:Int))=false by rw[beq_eq_false_iff_ne];exact Oo];exact rB (d _ H' (Y0e) (by rw[Y0L]))
 ·rw[oT m g]at l;exact q D H' u l j
def aH7(F:Yc "product" "product" aDO)(T:Yf):dP P w K mg base cY 1 f fd a32 uR:=by
 refine F.oky aJe λR H Q E h=>?_;obtain @⟨H,Q,E,a,b,xs,ys,l,B,j,I,N,C,q⟩:=h;refine Yg;intro M A g s n _;refine Y6h _ (iV (NX rfl) (by rfl) T.b_sum Kk (Y1L (Y7R a00 a00 [] (Ybt 0 Y0m) (Y2G dI 0 1))));refine Y08 (Y1U a b Yej (ys.map V.int) l B (kM (b1:=false) (b2:=false) (xs:=Yej) (ys:=ys.map V.int) (λi z _=>z=.int (Ybl i*Yd9 0)) (Y9g) (by rw[aA];exact Oo) l B (by rw[aA,aA];exact j) (λi x y H' Q' G J p L=>?_) (λD O H' W u p m n=>?_)))
 ·obtain⟨U,e,rfl⟩:=sQ G;obtain⟨S,d,rfl⟩:=sQ J;exact⟨_,rfl,_,rfl,_,_,rfl,rfl,kU (N _ (aE e)) (C _ (aE d)),L _ H' (Y0e) (by rw[aV,aV,e,d];rfl)⟩
 ·rw[aA]at m;rw[oT m n]at u;refine aGp u ?_;have:ZQ xs ys=((List.range xs.length).map λi=>Ybl i*Yd9 0).sum:=by unfold ZQ;rw[AH j]
  rw[<-this];exact q H' p
end
abbrev aD8:Stmt:=(top 27)
def aJo:Ye a16 a16 aD8:={}
abbrev aD4:Stmt:=(top 26)
def aAi:Ye ["rows","steps","out","place","step"] ["rows","steps"] aD4:={}
def AE(H:Hp)(a:Addr)(m:Ac):Prop:=∃las:List Addr,H a=Yi (las.map V.ref)/\las.length=m.length/\∀(i:Nat) (l:Addr) (row:Af),las[i]?=some l->m[i]?=some row->H l=Yi (row.map V.int)
def AE.same{H H':Hp}{a:Addr}{m:Ac}(h:AE H a m)(s:Y1):AE H' a m:=by
 obtain⟨c,e,j,n⟩:=h;exact⟨c,s _ _ e,j,λi l row d g=>s _ _ (n i l row d g)⟩
def AE.at_{H:Hp}{a:Addr}{m:Ac}(h:AE H a m):∃vs:Al,H a=Yi vs/\Y4K m.length/\∀(i:Nat) (row:Af),m[i]?=some row->∃l,vs[i]?=Y3 l/\H l=Yi (row.map V.int):=by
 obtain⟨c,j,n,p⟩:=h;refine⟨_,j,by rw[aA,n],λi row e=>?_⟩;have g:i<c.length:=by have:=(aC.mp e).1;exact Oo
 have d:=aB g;exact⟨c[i],by rw[aF,d];rfl,p i _ row d e⟩
structure MzK(N C:Nat)(m:Ac)(ss:Af):Prop where
 ls:ss.length=m.length
 few:m.length<=64
 row:∀r∈m,r.length=N
 n64:N<=64
 sz:∀r∈m,∀x∈r,Y5O (2^C)
 ssz:∀x∈ss,Y5O (2^C)
 c4:C<=4000
def zM(m:Ac)(ss:Af)(i o:Nat):Bool:=HT.vL ((m.getD i []).map (· * ss.getD o 0)) ((m.getD o []).map (· * ss.getD i 0))
inductive AM:Ym
 | i {H:Hp} {Q:VK} {E:XK} {ra sa:Addr} {m:Ac} {ss:Af} {i o N C:Nat} (h1:AE H ra m) (h2:H sa=Yi (ss.map V.int)) (h3:MzK N C m ss) (h4:i<m.length) (h5:o<m.length) (q:∀H',Y1->Q (.bl (zM m ss i o)) H'):AM [.ref ra,.ref sa,.int (i:Int),.int (o:Int)] H Q E
def CH(xs:Af)(s:Int):xs.map (· * s)=(List.range xs.length).map λi=>Ybl i*s:=by
 refine Y8d;rw[aF,aF];by_cases hi:Y59
 ·rw[bL hi];simp[hi]
 ·rw[bS Oo,bS (by rw[aT];exact Oo)];rfl
def lM{α:Type}{l:Yv}{i:Nat}(d:α)(h:i<l.length):l[i]?=some (l.getD i d):=by
 rw[aV,aB h];rfl
def pT{α:Type}{l:Yv}{i:Nat}{d a:α}(h:l[i]?=Y7e):l.getD i d=a:=by rw[aV,h];rfl
noncomputable def FC (m:Ac) (ss:Af):Nat->YcE
 | 0=>none
 | n+1=>@ite _ (0<ss.getD n 0/\(FC m ss n=none\/∃o,FC m ss n=some o/\zM m ss n o=true)) (Classical.propDecidable _) (some n) (FC m ss n)
abbrev oV(o:YcE):V:=match o with | none=>.non | some i=>.int (i:Int)
inductive AO:Ym
 | i {H:Hp} {Q:VK} {E:XK} {ra sa:Addr} {m:Ac} {ss:Af} {N C:Nat} (h1:AE H ra m) (h2:H sa=Yi (ss.map V.int)) (h3:MzK N C m ss) (q:∀H',Y1->Q (oV (FC m ss ss.length)) H'):AO [.ref ra,.ref sa] H Q E
theorem CI(m:Ac)(ss:Af):∀(n o:Nat),FC m ss n=Yb->o<n/\0<ss.getD o 0
 | 0,o,h=>by cases h
 | n+1,o,h=>by
  rw[FC]at h;split at h
  ·rename_i hc
   cases h;exact⟨Oo,hc.1⟩
  ·have:=CI m ss n o h;exact⟨Oo,this.2⟩
section
def aIs(F:Yc "is_sooner" "is_sooner" aD8)(T:Yf):dP P w K mg base cY 1 f fd a16 AM:=by
 refine F.oky aJo λμ H Q E h=>?_;obtain @⟨H,Q,E,ω,sa,m,e,i,o,N,C,κ,ε,Z,γ,η,q⟩:=h;refine Yg;intro ο A L s ρ _;obtain⟨μ,ζ,l1,u⟩:=κ.at_;obtain⟨ι,U,D⟩:=u i _ (lM [] γ);obtain⟨θ,J,B⟩:=u o _ (lM [] η);have δ:=eO (a:=([]:Af)) γ;have α:=eO (a:=([]:Af)) η;have υ:=Z.row _ δ;have ψ:=Z.row _ α;have n64:=Z.n64;have c4:=Z.c4;have ls:=Z.ls;have S:=Yfr e o (0:Int);have X:=Yfr e i (0:Int);have up:∀{x:Int},Y5O (2^C)->Y5O Y0P:=λh=>Y66 h c4;have R:(e.map V.int)[o]?=some (V.int (e.getD o 0)):=by rw[aF,lM 0 Oo];rfl
 have M:(e.map V.int)[i]?=some (V.int (e.getD i 0)):=by rw[aF,lM 0 Oo];rfl
 refine Y6h _ (tO (aE3 ρ.units) (Y7B ["one","steps","out"] [1,3] (eC (Y48 0 Y07)) (Y7v 0 (bO (iA K) (aD 1) Y07))) (Y7B ["one","steps","place"] [1,2] (eC (Y48 0 Y0B)) (Y7v 0 (bO (iA K) (aD 1) Y07))));refine Y08 (Y6B ζ U);refine Y1l ι D (YbX ((m.getD i []).map V.int) (λj y _=>y=.int ((m.getD i []).getD j 0*e.getD o 0)) (by rw[aA];exact Oo) D (λj x H' Q' I W O=>?_) (λD1 y1 H1 τ g z p χ=>?_))
 ·obtain⟨φ,d,rfl⟩:=sQ I;refine Y2J (Y6B (W _ _ ε) R);exact Y3p _ _ (up (Z.sz _ δ _ (aE d))) (up (Z.ssz _ S)) (O _ H' (Y0e) (by rw[pT d]))
 rw[aA]at p;rw[oT p χ,<-CH]at g;refine Y08 (Y6B (z _ _ ζ) J);refine Y1l θ (z _ _ B) (YbX ((m.getD o []).map V.int) (λj y _=>y=.int ((m.getD o []).getD j 0*e.getD i 0)) (by rw[aA];exact Oo) (z _ _ B) (λj x H' Q' I W O=>?_) (λD2 y2 H2 ξ G β n ν=>?_))
 ·obtain⟨φ,d,rfl⟩:=sQ I;refine Y2J (Y6B ((z.trans W) _ _ ε) M);exact Y3p _ _ (up (Z.sz _ α _ (aE d))) (up (Z.ssz _ X)) (O _ H' (Y0e) (by rw[pT d]))
 rw[aA]at n;rw[oT n ν,<-CH]at G;exact rltl (β _ _ g) G (by rw[aA,aA,υ,ψ]) (q H2 (z.trans β))
def aIn(F:Yc "leaving" "leaving" aD4)(T:Yf)(FQ37:Y00 "is_sooner" a16 AM):dP P w K mg base cY 2 f fd ["rows","steps"] AO:=by
 refine F.oky aAi λε H Q E h=>?_;obtain @⟨H,Q,E,S,L,m,a,N,C,R,l,Z,q⟩:=h;refine Yg;intro α A g s θ _;have ls:=Z.ls;refine⟨_,(aH (Y10 aAi.nd lG)
  (aH (Y6O (GC false rfl T.b_enumerate (Y4b 1)) (nY rfl (eT (Yan 3 aAi.nd) (eT (Yan 4 aAi.nd) lB))) (Y77 (SL (BJ (Y1x zO 4 aI) (wG (SL (aGa (Y1x CF 2 lG) (aDi (pX (VX FQ37 (Y02) (Y0m) (Y0B) (Y07))))))))) (Y10 aAi.nd Y0B)))
  (Y2p 2))),?_⟩
 refine Yu;intro W ι;refine Y55 _ L _ rfl l (KI (b:=false) (n:=0) (xs:=Yex) (YaD (λ(u r:Am)=>An2 (σ=[Y3 S,Y3 L,some (oV (FC m a i)),u,r]) (Y1))) (Y3E _ _ Y0e) (λi σ H' p=>?_) ?_ ?_)
 ·obtain⟨_,_,_,β⟩:=p;exact β _ _ l
 ·rintro i y γ σ H1 H2 U ⟨u,r,rfl,j⟩ X B O;obtain⟨x,D,rfl⟩:=sQ U;have ζ:i<a.length:=(aC.mp D).1;have M:a.getD i 0=x:=pT D;have S2:=j.trans O;rw[Int.zero_add]at B;refine⟨γ,[.int (i:Int),.int x],rfl,jQ.of B,rfl,_,_,rfl,_,_,rfl,rfl,Y23⟩;intro W;have I:∀{o:YcE},o=FC m a i->¬(0<x/\(o=none\/∃k,o=some k/\zM m a i k=true))->FC m a (i+1)=o:=λ{o} e h=>by rw[FC,<-e,M,Y3L]
  have d:∀{o:YcE},o=FC m a i->(0<x/\(o=none\/∃k,o=some k/\zM m a i k=true))->FC m a (i+1)=some i:=λ{o} e h=>by rw[FC,<-e,M,Y3K]
  refine⟨_,rfl,_,_,rfl,rfl,_,rfl,?_⟩;by_cases hp:0<x
  ·rw[show decide ((0:Int)<x)=true from cN hp];refine sO ?_;cases e:FC m a i with
   | none =>
    refine Y5J _ _ (sO ?_);refine sO (Y7 ⟨Y9 (i:Int),Y9 x,?_,S2⟩);rw[d e.symm ⟨hp,Y62⟩];rfl
   | some k =>
    have δ:=(CI m a i k e).1;refine Y5J _ _ ?_;rw[show decide (V.int (k:Int)=V.non)=false from rfl];refine rB ⟨_,rfl,_,rfl,_,rfl,_,rfl,?_⟩;refine AM.i (R.same S2) (S2 _ _ l) Z Oo Oo λH3 G=>Y6;cases eb:zM m a i k with
    | true =>
     refine sO (Y7 ⟨Y9 (i:Int),Y9 x,?_,S2.trans G⟩);rw[d e.symm ⟨hp,.inr (Y04 k eb)⟩];rfl
    | false =>
     refine rB ⟨Y9 (i:Int),Y9 x,?_,S2.trans G⟩;rw[I e.symm λh=>by
      rcases h.2 with z | ⟨η,z,J⟩
      ·cases z
      ·cases z;rw[eb]at J;cases J];rfl
  ·rw[show decide ((0:Int)<x)=false from cD hp];refine rB (rB ?_);refine⟨Y9 (i:Int),Y9 x,?_,S2⟩;rw[I rfl λh=>hp h.1];rfl
 ·rintro σ H1 ⟨u,r,rfl,j⟩;rw[aA];exact Y7 (q H1 j)
end
abbrev aEf:Stmt:=(top 28)
def aCp:Ye ["rows","steps","out","parts","found","row","step"] a30 aEf:={}
def NN{n i:Nat}(h:i<n):QQ n (i:Int)=some i:=by
 unfold QQ;rw[Y5x,Y5x]
 rfl
def aAw(H H':Hp)(a:Addr)(m:Ac):Prop:=∃las:List Addr,H' a=Yi (las.map V.ref)/\las.length=m.length/\∀(i:Nat) (l:Addr) (row:Af),las[i]?=some l->m[i]?=some row->H l=none/\H' l=Yi (row.map V.int)
def aAw.ll{H H':Hp}{a:Addr}{m:Ac}(h:aAw H H' a m):AE H' a m:=by
 obtain⟨c,e,j,n⟩:=h;exact⟨c,e,j,λi l row d g=>(n i l row d g).2⟩
def KJ(m:Ac)(ss:Af)(o:Nat)(p:Int)(i:Nat):Af:=List.zipWith (λx y=>(x*ss.getD o 0-y*ss.getD i 0)/p) (m.getD i []) (m.getD o [])
def DF(m:Ac)(ss:Af)(o:Nat)(p:Int):Ac:=((List.range m.length).map (KJ m ss o p)).set o (m.getD o [])
inductive AR:Ym
 | i {H:Hp} {Q:VK} {E:XK} {ra sa:Addr} {m:Ac} {ss:Af} {o N C:Nat} {p:Int} (h1:AE H ra m) (h2:H sa=Yi (ss.map V.int)) (h3:MzK N C m ss) (h4:o<m.length) (h5:0<p) (h6:p.natAbs<2^9000) (q:∀a H',H a=none->aAw H H' a (DF m ss o p)->Y1->Y0E a):AR [.ref ra,.ref sa,.int (o:Int),.int p] H Q E
section
def aIz(F:Yc "exchanged" "exchanged" aEf)(T:Yf):dP P w K mg base cY 1 f fd a30 AR:=by
 refine Y13 aCp;obtain @⟨H,Q,E,ra,sa,m,n,o,N,C,p,hm,ι,Z,ho,p0,pz,q⟩:=h;refine Yg;intro cdv A φ s O _;obtain⟨vs,W,l1,β⟩:=hm.at_;obtain⟨lo,η,B⟩:=β o _ (lM [] ho);have mo:=eO (a:=([]:Af)) ho;have ro:=Z.row _ mo;have n64:=Z.n64;have few:=Z.few;have c4:=Z.c4;have ls:=Z.ls;have ρ:=Yfr n o (0:Int);have up:∀{x:Int},Y5O (2^C)->Y5O Y0P:=λh=>Y66 h c4;have χ:(n.map V.int)[o]?=some (V.int (YbI o)):=by rw[aF,lM 0 Oo];rfl
 refine⟨_,(aH (Y2A aCp.nd (hZ aQ))
  (aH (Y6O (Ybt 0 Y0m) (nY rfl (eT (Yan 5 aCp.nd) (eT (Ycb 6 aCp.nd rfl rfl) lB))) (lA (sX PySem.F.plainAttrs_list PySem.F.slot_list_append PySem.F.type_list_append uB Y1i (Y1L (Y7R a00 ["one","other","steps","out","parts","step"] [1,2,3,6] (Ybt 5 (Y48 0 Y07)) (cC gG (cC lH (Y7v 0 (bO (iA K) (aD 2) Y0B)) (Y2G dI 1 5)) (Y1i)))))))
  (aH (GB (jU sU (by rfl) T.b_list Kk (Y1L (Y48 0 Y07))) (GE (Y1i) (Y07) xE))
  (Y2p 4)))),?_⟩
 refine Yu;intro d_ n_;refine zZ (by show 0<=64;decide) λL H1 U f1 g=>Ys;intro d_ n_;refine Y08 (Y1U ra sa vs (n.map V.int) (g _ _ W) (g _ _ ι) ?_);have nr:ra≠L:=λz=>by rw[z,U]at W;cases W
 have ns:sa≠L:=λz=>by rw[z,U]at ι;cases ι
 have θ:lo≠L:=λz=>by rw[z,U]at B;cases B
 refine uY (b1:=false) (b2:=false) (xs:=vs) (ys:=n.map V.int) (λi σ H'=>∃(o5 o6:Am) (d:Y0s),σ=[Y3 ra,Y3 sa,Y9 (o:Int),Y9 p,Y3 L,o5,o6]/\aX L H1 H'/\H' L=Yi (d.map V.ref)/\d.length=i/\∀(k:Nat) (l:Addr),d[k]?=some l->H l=none/\l≠L/\H' l=Yi ((KJ m n o p k).map V.int)) ⟨_,_,[],rfl,(Y0e).but,f1,rfl,λk l h=>by simp at h⟩ (λi σ H' ⟨_,_,_,_,b',_⟩=>⟨b'.at nr (g _ _ W),b'.at ns (g _ _ ι)⟩) ?_ ?_
 ·rintro i x y q2 σ H2 H3 κ hy ⟨o5,o6,d,rfl,b2,S,ll,al⟩ hq2 e3 J;obtain⟨y0,ε,rfl⟩:=sQ hy;have hi:i<m.length:=by have:=(aC.mp κ).1;exact Oo
  obtain⟨li,ζ,R⟩:=β i _ (lM [] hi);rw[κ]at ζ;cases ζ;have mi:=eO (a:=([]:Af)) hi;have ri:=Z.row _ mi;have ey:YbI i=y0:=pT ε;have ω:li≠L:=λz=>by rw[z,U]at R;cases R
  have ο:=J _ _ S;have G:=J _ _ (b2.at ω (g _ _ R));have I:=J _ _ (b2.at θ (g _ _ B));have e13:=J _ _ (b2.at nr (g _ _ W));have hs3:=J _ _ (b2.at ns (g _ _ ι));refine⟨q2,_,rfl,jQ.of e3,rfl,_,_,rfl,_,_,rfl,rfl,Y23⟩;intro d_;refine⟨_,rfl,VJ ο,_,rfl,_,rfl,_,rfl,Y6B e13 η⟩;refine Y1U li lo _ _ G I (kM (b1:=false) (b2:=false) (xs:=(m.getD i []).map V.int) (ys:=(m.getD o []).map V.int) (λj z _=>z=.int (((m.getD i []).getD j 0*YbI o-(m.getD o []).getD j 0*YbI i)/p)) (Y9g) (by rw[aA];exact Oo) G I (by rw[aA,aA];exact Oo) (λj x y H' Q' κ hy s' k'=>?_) (λD zs H4 M α τ hz ξ=>?_))
  ·obtain⟨x0,X,rfl⟩:=sQ κ;obtain⟨z0,γ,rfl⟩:=sQ hy;refine Y2J (Y6B (s' _ _ hs3) χ);exact Y3p _ _ (up (Z.sz _ mi _ (aE X))) (up (Z.ssz _ ρ)) ⟨_,rfl,_,rfl,_,_,rfl,rfl,kU (up (Z.sz _ mo _ (aE γ))) (up (Z.ssz _ (aE ε))),Y0O _ _ rfl (Y6E _ _ _ rfl (pU p0 pz) (k' _ H' Y0e (by rw[pT X,pT γ,ey])))⟩
  ·rw[aA]at hz;rw[oT hz ξ]at α;have er:KJ m n o p i=((List.range (m.getD i []).length).map λj=>((m.getD i []).getD j 0*YbI o-(m.getD o []).getD j 0*YbI i)/p):=by unfold KJ;rw[AH Oo]
   rw[<-er]at α;have f4:=τ _ _ ο;refine LO f4 (by rw[aA];exact Oo) YfW;have μ:D≠L:=λz=>by rw[z,ο]at M;cases M
   refine⟨_,_,d++[D],rfl,((b2.trans J.but).trans τ.but).trans b5,by rw[e5,bI];rfl,by rw[aZ,ll];rfl,λk l u=>?_⟩;by_cases hkl:k<d.length
   ·rw[cQ hkl]at u;obtain⟨ψ,ν,n2⟩:=al k l u;exact⟨ψ,ν,b5.at ν ((J.trans τ) _ _ n2)⟩
   ·have:k=i:=by
     have:=(aC.mp u).1;rw[aZ]at this;simp at this;exact Oo
    subst this;rw[cJ Oo,ll,Nat.sub_self]at u;cases u;exact⟨g.free (b2.free (Y2i S) (J.free M)),μ,b5.at μ α⟩
 ·rintro σ H2 ⟨o5,o6,d,rfl,b2,S,ll,al⟩;have lm:d.length=m.length:=by rw[aA]at ll;exact Oo
  have υ:=b2.at nr (g _ _ W);have δ:=b2.at θ (g _ _ B);refine Y08 (Y6B υ η);refine Y11 lo _ (.inl (gE.of δ)) (λD M=>?_);have sl:=Yg3 ((m.getD o []).map V.int) M;have eD:(upd H2 D (.lst ((m.getD o []).map V.int))) D=Yi ((m.getD o []).map V.int):=bP;generalize upd H2 D (.lst ((m.getD o []).map V.int))=H3 at sl eD ⊢;refine Y06;refine stG (j:=o) (sl _ _ S) (NN (by rw[aA];exact Oo)) λH4 α b4=>Y6;have μ:D≠L:=λz=>by rw[z,S]at M;cases M
  refine q L H4 U ⟨d.set o D,by rw[α,List.map_set],by rw[List.length_set,lm];unfold DF;rw[List.length_set,aA,aT],λk l row u O=>?_⟩ ?_
  ·unfold DF at O;by_cases e:k=o
   ·subst e;rw[List.getElem?_set_self Oo]at u;rw[List.getElem?_set_self (by rw[aA,aT];exact Oo)]at O;cases u;cases O;exact⟨g.free (b2.free (Y2i S) M),b4.at μ eD⟩
   ·rw[YbW (e z.symm)]at u O;obtain⟨ψ,ν,n2⟩:=al k l u;have hkm:k<m.length:=by have:=(aC.mp u).1;exact Oo
    rw[aF,bL hkm]at O;cases O;exact⟨ψ,b4.at ν (sl _ _ n2)⟩
  ·exact aU.thru U (g.trans (Y0e)) ((b2.trans sl.but).trans b4)
end
open Md in
def iX(n:Nat)(b:Y0)(R:fG):Ac:=(List.range n).map λi=>(List.range (n+1)).map (rho n b R i)
def dE(n:Nat)(a:Y0):Af:=(List.range n).map a
def cS(n:Nat)(a:Y0):(dE n a).length=n:=by unfold dE;rw[aA,aT]
def jL{n i:Nat}{a:Y0}(h:i<n):(dE n a).getD i 0=a i:=by
 unfold dE;rw[aV,aF,bL h];rfl
def nO(n:Nat)(b:Y0)(R:Md.fG):(iX n b R).length=n:=by unfold iX;rw[aA,aT]
def xI{n i:Nat}{b:Y0}{R:Md.fG}(h:i<n):(iX n b R).getD i []=dE (n+1) (Md.rho n b R i):=by
 unfold iX;rw[aV,aF,bL h];rfl
def MO(n:Nat)(f:Y0):((List.range n).map f).sum=Md.dX n f:=by
 induction n with
 | zero=>rfl
 | succ n ih=>rw[List.range_succ,bI,List.sum_append,ih,Md.dX];simp
def KM(n:Nat)(x y:Y0):ZQ (dE n x) (dE n y)=Md.dot n x y:=by
 unfold ZQ;rw[AH (by rw[cS,cS]),cS];unfold Md.dot;rw[<-MO];refine congrArg List.sum (fD YcI);rw[jL (Y71),jL (Y71)]
theorem FE:∀{xs ys:Af},Ye9->(HT.vL xs ys=true ↔ ∃j,YbV j/\(∀i,i<j->Ybl i=Yd9 0)/\Ybl j<ys.getD j 0)
 | [],[],_=>⟨λh=>(by cases h),λ⟨j,h,_⟩=>(by simp at h)⟩
 | x::xs,y::ys,h=>by
  rw[HT.CO];have ih:=FE (xs:=xs) (ys:=ys) (by simpa using h);by_cases e:x=y
  ·subst e;rw[if_pos rfl,ih];constructor
   ·rintro⟨j,d,c,a⟩;refine⟨j+1,by rw[cI];exact Oo,λi g=>?_,by simpa using a⟩;cases i with
    | zero=>rfl
    | succ i=>simpa using c i Oo
   ·rintro⟨j,d,c,a⟩;cases j with
    | zero=>exact absurd a (by simp)
    | succ j=>exact⟨j,by rw[cI]at d;exact Oo,λi g=>by simpa using c (i+1) Oo,by simpa using a⟩
  ·rw[if_neg e];constructor
   ·intro h;exact⟨0,by rw[cI];exact Oo,λi g=>Oo,by simpa using h⟩
   ·rintro⟨j,d,c,a⟩;cases j with
    | zero=>simpa using a
    | succ j=>exact absurd (by simpa using c 0 Oo) e
 | [],y::ys,h=>by simp at h
 | x::xs,[],h=>by simp at h
def JI{n:Nat}{b a:Y0}{R:Md.fG}{i o:Nat}(hi:i<n)(ho:o<n):zM (iX n b R) (dE n (Yd6 j)) i o=true↔Md.lexp (n+1) λk=>Y3R i*Md.rho n b R o k-Y3R o*Y3x n k:=by
 unfold zM;rw[xI hi,xI ho,jL hi,jL ho,FE (by rw[aA,aA,cS,cS]),aA,cS];have e:∀(u:Y0) (s:Int) (k:Nat),k<n+1->((dE (n+1) u).map (· * s)).getD k 0=u k*s:=λu s k d=>by
  unfold dE;rw[aV,aF,aF,bL d];rfl
 unfold Md.lexp;constructor
 ·rintro⟨j,c,g,h⟩;refine Y2v j c (λk d=>?_)
  ·have:=g k d;rw[e _ _ _ Oo,e _ _ _ Oo]at this;grind
  ·rw[e _ _ _ c,e _ _ _ c]at h;grind
 ·rintro⟨j,c,g,h⟩;refine Y2v j c (λk d=>?_)
  ·have:=g k d;rw[e _ _ _ Oo,e _ _ _ Oo];grind
  ·rw[e _ _ _ c,e _ _ _ c];grind
theorem FB{n:Nat}{b a:Y0}{R:Md.fG}:∀{k:Nat},k<=n ->
  (FC (iX n b R) (dE n (Yd6 j)) k=none->∀i,i<k->¬0<Y3R i) /\
  (∀o,FC (iX n b R) (dE n (Yd6 j)) k=Yb->∀i,i<k->0<Y3R i->¬Md.lexp (n+1) λq=>Y3R i*Md.rho n b R o q-Y3R o*Y3x n q)
 | 0,_=>⟨λ_ i h=>Oo,λo h=>(by cases h)⟩
 | k+1,hk=>by
  obtain⟨ih1,ih2⟩:=FB (n:=n) (k:=k) (b:=b) (a:=a) (R:=R) Oo;have c:k<n:=Oo;rw[FC,jL (a:=λj=>Md.dot n (R j) a) c];by_cases hc:0<Md.dot n (R k) a/\(FC (iX n b R) (dE n λj=>Md.dot n (R j) a) k=none\/∃o,FC (iX n b R) (dE n λj=>Md.dot n (R j) a) k=some o/\zM (iX n b R) (dE n λj=>Md.dot n (R j) a) k o=true)
  ·rw[if_pos hc];refine⟨λh=>(by cases h),λo g i p d=>?_⟩;cases g;obtain⟨u,l⟩:=hc;by_cases e:i=k
   ·subst e;intro⟨j,y,_,z⟩;dsimp only at z;have:Md.dot n (R i) a*Md.rho n b R i j-Md.dot n (R i) a*Md.rho n b R i j=0:=Oo;exact Oo
   ·rcases l with l | ⟨o,r,s⟩
    ·exact absurd d (ih1 l i Oo)
    ·obtain⟨w,m⟩:=CI _ _ _ _ r;rw[jL (a:=λj=>Md.dot n (R j) a) Oo]at m;rw[JI c Oo]at s;exact Md.YW u m d s (ih2 o r i Oo d)
  ·rw[if_neg hc];refine⟨λh i p=>?_,λo g i p d=>?_⟩
   ·by_cases e:i=k
    ·subst e;exact λz=>hc ⟨z,.inl h⟩
    ·exact ih1 h i Oo
   ·by_cases e:i=k
    ·subst e;intro z;obtain⟨w,m⟩:=CI _ _ _ _ g;exact hc ⟨d,.inr ⟨o,g,(JI c Oo).mpr z⟩⟩
    ·exact ih2 o g i Oo d
def aB7{n:Nat}{b a:Y0}{B R:Md.fG}{p:Int}(h:Md.Bs n B R p)(p0:0<p){o:Nat}(ho:o<n):DF (iX n b R) (dE n (Yd6 j)) o p=iX n b (Md.xK n B R o a):=by
 unfold DF;rw[nO,xI ho];refine Y8d;by_cases hi:i<n
 ·have d:(iX n b (Md.xK n B R o a))[i]?=some (dE (n+1) (Md.rho n b (Md.xK n B R o a) i)):=by
   unfold iX;rw[aF,bL hi];rfl
  rw[d];by_cases e:i=o
  ·subst e;rw[List.getElem?_set_self (by rw[aA,aT];exact hi)];refine YaO (fD λk _=>?_);rw[Md.GY]
  ·rw[YbW (e z.symm),aF,bL hi];refine YaO ?_;unfold KJ;rw[xI hi,xI ho,AH (by rw[cS,cS]),cS];refine fD λk g=>?_;have c:=bR.mp g;rw[jL c,jL c,jL ho,jL hi];have:=h.rho_exch b ho a hi c e;have l:Y3x n k*Y3R o-Md.rho n b R o k*Y3R i=p*Md.rho n b (Md.xK n B R o a) i k:=by rw[this];grind
   rw[l,Y57]
 ·rw[bS (by rw[List.length_set,aA,aT];exact Oo),bS (by rw[nO];exact Oo)]
end Kw
namespace L2
open PySem PySem.Spec PyProof.Rows
structure FnM(P:Program)(w:World)(K:Aa)(mg:Y0C)(base:Heap)(k:Nat)(C:Addr)(m:Str)(ps:Ah)(sp:Sp):Prop where
 ex:∃(f:Addr) (fd:FuncData),dP P w K mg base cY k f fd ps sp/\aFQ K C m f/\uJ K fd ps []
section
variable{X:Cx}{k:Nat}{C:Addr}{ps:Ah}{sp:Sp}{m:Str}{pos apos:Pos}{e o:Expr}{es:Y0f}{t:TA}{ta:TE}
def ME{pl:Sem Bool}(F:FnM X.prog X.w X.K X.mg X.base k C m ps sp)(c:Cls X.K C)(hr:Y52 k)(ho:Y8o o)(ha:LY X (e::es) t)
  (hst:Y3V=(false,Y1f)::Y2W:=by first | exact pP | exact tZ | exact pQ | exact lX | exact iL | exact tY)
  (hpl:Yx ((backTo pos (starEach es X.env)).any (·.1)):=by repeat (first | exact qE | refine nI (by first | exact pP | exact tZ | exact pQ | exact lX | exact iL | exact tY) ?_))
  (ht:eval (.Call (.Attribute o m apos) (e::es) [] pos) X.env=(do
   let ov <-eval o X.env
   standAt apos.atName
   let (f,first) <-holding [ov] (getMethod ov m pl)
   callWith pos f first (backTo pos (starEach (e::es) X.env)) (backToKw pos (keywordEach [] X.env))):=by rfl) :
  Yr (Y94 m (e::es) [] pos) (aCP C m sp [] E0 ta t):=⟨by
 obtain⟨f,h,a,d,g⟩:=F.ex;exact aBD ho.p c d a hr g .nil YD ha.p hst hpl ht⟩
end
end L2
namespace Kw
open PySem L2 Mf
abbrev sQ0:Stmt:=(BC (top 23) 0)
def cQ0:Ye a14 a14 sQ0:={}
def KY{K:Aa}{js:Ae}{te:TE}{σ:St}{H:Hp}{Q:VK}{l:Addr}{xs:Al}(g:Nat->Af)(h:H l=Y4t false)(hz:Y6J 1000)
  (he:∀(i:Nat) (x:V) (H':Hp) (Q':VK),Y0q=Y8->Y1->(∀m H6,H' m=none->aU H' H6->H6 m=Yi ((g i).map V.int)->Q' (.ref m) H6)->te (Y9 (i:Int)::Y8::Y0X) H' Q')
  (hd:∀D H',H D=none->AE H' D ((List.range xs.length).map g)->Y1->Y1g):pV K 2 (Ite false l 0) σ js BQ te H Q:=by
 unfold pV;intro D w;refine Y0j (λi m s H'=>m=Y4g i/\Y4P i/\Y0x=Yi s/\Y1/\∃a:List Addr,s=a.map V.ref/\a.length=i/\∀(k:Nat) (b:Addr),a[k]?=some b->b≠D/\Y1I=Yi ((g k).map V.int)) ⟨xs.length,by simp,Y0H,bP,aU.upd w,[],rfl,rfl,λk b r=>by simp at r⟩;rintro i m s H2 ⟨rfl,α,d,j,a,rfl,ll,L⟩;refine Y0p d;by_cases hlt:Y59
 ·have O:Y0q=some xs[i]:=aB hlt;refine .inr ⟨⟨_,_,j _ _ h,O⟩,aJ (m:=1000) (by rw[aA];exact Oo) Dd,λv H3 y=>?_⟩;obtain⟨q,x,rfl,P,rfl,N⟩:=y;have X:=N _ (j _ _ h);rw[show(0:Int)+((i:Nat):Int)=(i:Int)by exact Oo];have n:=Y2y [V.int (i:Int),x] P;have I:(upd H2 q (.tup [V.int (i:Int),x])) q=Yj [V.int (i:Int),x]:=bP;generalize upd H2 q (.tup [V.int (i:Int),x])=H3 at n I;refine Y1U q _ rfl (jQ.of I) (λb H4=>b=true/\H4=H3) Y73 ?_;rintro b H4 ⟨rfl,rfl⟩;rw[Yo];refine Y0j (λz H5=>∃m,z=.ref m/\H4 m=none/\aU H4 H5/\H5 m=Yi ((g i).map V.int)) (he i x H4 _ X (j.trans n) λm H6 T R Z=>Y5I m T R Z);rintro z H5 ⟨m,rfl,B,u,M⟩;have p:=n _ _ d;have S:=u _ _ p;have J:m≠D:=λz=>by rw[z,p]at B;cases B
  have C:aX D H5 (Y5j H5 D (a.map V.ref++[V.ref m])):=aX.self;refine⟨S,Y4g (i+1),Oo,rfl,hlt,bP,Ye7 w ((j.trans n).trans u),a++[m],by rw[bI];rfl,by rw[aZ,ll];rfl,λk b c=>?_⟩;by_cases hkl:k<a.length
  ·rw[cQ hkl]at c;obtain⟨A,U⟩:=L k b c;exact⟨A,C.at A ((n.trans u) _ _ U)⟩
  ·have:k=i:=by
    have:=(aC.mp c).1;rw[aZ]at this;simp at this;exact Oo
   subst this;rw[cJ Oo,ll,Nat.sub_self]at c;cases c;exact⟨J,C.at J M⟩
 ·have e:Y4Q i:=Oo;subst e;refine Y1Y (Y0K (j _ _ h) Yq) (hd D H2 w ⟨a,d,by rw[ll,aA,aT],λk b row r G=>?_⟩ j);have c:YbV k:=by have:=(aC.mp r).1;exact Oo
  rw[aF,bL c]at G;cases G;exact(L k b r).2
def mfs(ra sa:Addr)(p:Int):Y4x:=Y2C "standing" sa (eP "parts" (.int p) (Y2C "rows" ra []))
structure uI(H:Hp)(C a sa:Addr)(n:Nat)(b:Y0)(R:Md.fG)(p:Int)(ts:Al):Prop where
 ex:∃dx ra,H a=some (.ins C dx (mfs ra sa p))/\AE H ra (iX n b R)
 st:H sa=Yi ts
 len:ts.length=n
def aAx(a b:Addr)(H H':Hp):Prop:=∀x o,x≠a->x≠b->H x=Yb->H' x=Yb
inductive wS (C:Addr):Ym
 | i {H:Hp} {Q:VK} {E:XK} {x dx ea oa:Addr} {n:Nat} {b:Y0} {ts:Al} (h1:H x=some (.ins C dx [])) (h2:H ea=Yi ((dE n b).map V.int)) (h3:H oa=Yi ts) (h4:ts.length=n) (h5:n<=8) (q:∀sa H',H sa=none->Y6M x->uI H' C x sa n b Md.unit 1 ts->Ybz):wS C [Y24,.ref ea,.ref oa] H Q E
def XG{n i:Nat}(hi:i<n)(b:Y0):dE (n+1) (Md.rho n b Md.unit i)=[b i]++aE5 n i:=by
 unfold dE;rw[List.range_succ_eq_map,bE,List.map_map];have c:Md.rho n b Md.unit i 0=b i:=by
  show Md.dX n (λk=>Md.unit i k*b k)=b i;rw[Md.jY hi λk _ a=>by unfold Md.unit;rw[if_neg a,Int.zero_mul]];unfold Md.unit;rw[Yo,Int.one_mul]
 rw[c]
 rfl
section
def oQ0(F:Yc "__init__" "Master.__init__" sQ0)(T:Yf)(FQ48:Y00 "one_among" a35 qQ):dP P w K mg base cY 2 f fd a14 (wS c.Master):=by
 refine Y13 cQ0;obtain @⟨H,Q,E,x,a,θ,ε,n,b,L,δ,u,j,lt,n8,q⟩:=h;refine Yg;intro aa A N s β _;have O:=T.w_Master;have γ:=cS n b;refine⟨_,(aH (Y6X (Y7R ["place","end"] ["place","end","ends"] [1] (GC false rfl T.b_enumerate (Y4b 1)) (cC vV (hZ (Y4b 1)) (cR FQ48 (Y9R (aCj K) (by rfl) 2) (Y02)))))
  (aH (Y6X aI)
  (aR (Y6X (jU sU (by rfl) T.b_list Kk (Y4b 2)))))),?_⟩
 refine Yu;intro φ n_;refine Y55 _ θ _ rfl u (KY (xs:=(dE n b).map V.int) (λi=>dE (n+1) (Md.rho n b Md.unit i)) u (by rw[aA];exact Oo) (λi y H' Q' τ ι υ=>?_) (λD H1 hD L1 r=>?_))
 ·obtain⟨ψ,G,rfl⟩:=sQ τ;have ζ:i<n:=by have:=(aC.mp G).1;exact Oo
  have ω:b i=ψ:=by
   have h:=pT (d:=(0:Int)) G;rw[jL ζ]at h;exact h
  refine Y6;refine zZ (by show 1<=64;decide) λq1 H1 ν e1 r=>Y6;refine rlL ((ι.trans r) _ _ u) ?_;rw[aA,γ];refine Y6;refine qQ.i Oo λq2 H2 ρ J X=>NY (X _ _ e1) J (by simp[aE5];exact Oo) λκ H3 R C χ=>υ κ H3 ((r.trans X).free R) ((r.trans X).trans χ) ?_;rw[C,XG ζ,ω,bI];rfl
 ·rw[aA,γ]at L1;have L1:AE H1 D (iX n b Md.unit):=L1;have m:=r _ _ δ;refine⟨_,rfl,x,c.Master,a,_,rfl,m,O.cls,Y7o (by simp),by show 0<1000;decide,Y3J⟩;intro φ n_;have b2:=YcY x H1 a (Y2C "rows" D []);have J:(upd H1 x (.ins c.Master a (eP "rows" (.ref D) []))) x=_:=bP;generalize upd H1 x (.ins c.Master a (eP "rows" (.ref D) []))=H2 at b2 J ⊢;refine⟨_,rfl,x,c.Master,a,_,rfl,J,O.cls,Y7o (by simp),by show 1<1000;decide,?_⟩;have Z:=YcY x H2 a (eP "parts" (.int 1) (Y2C "rows" D []));have C:(upd H2 x (.ins c.Master a (eP "parts" (.int 1) (eP "rows" (.ref D) [])))) x=_:=bP;generalize upd H2 x (.ins c.Master a (eP "parts" (.int 1) (eP "rows" (.ref D) [])))=H3 at Z C ⊢;have B3:aX x H H3:=(r.but (p:=x)).trans (b2.trans Z);have no:ε≠x:=λz=>by rw[z,δ]at j;cases j
  have I:=B3.at no j;refine Y55 _ ε _ rfl (.inl (gE.of I)) (λe g=>?_);have M:=Yg3 L g;have α:(upd H3 e (.lst L)) e=Yi L:=bP;generalize upd H3 e (.lst L)=H4 at M α ⊢;refine⟨_,rfl,x,c.Master,a,_,rfl,M _ _ C,O.cls,Y7o (by simp),by show 2<1000;decide,?_⟩;have S:=YcY x H4 a (mfs D e 1);have η:(upd H4 x (.ins c.Master a (mfs D e 1))) x=_:=bP;show Q .non (Y8Q H4 x c.Master a (mfs D e 1));generalize upd H4 x (.ins c.Master a (mfs D e 1))=H5 at S η ⊢;have ξ:e≠x:=λz=>by rw[z,C]at g;cases g
  have B:aX x H1 H5:=((b2.trans Z).trans M.but).trans S;refine q e H5 ?_ (r.but.trans B) ⟨Y2v a D η,S.at ξ α,lt⟩
  ·exact B3.free (Y2i C) g
  ·obtain⟨U,W,ο,h3⟩:=L1;refine⟨U,B.at (λz=>by rw[z,m]at W;cases W) W,ο,λi l row μ β=>?_⟩;have:=h3 i l row μ β;exact B.at (λz=>by rw[z,m]at this;cases this) this
end
end Kw
namespace L2
open PySem PySem.Spec PyProof.Rows
def cxK(X:Cx)(scope:Scope)(x:Str)(C:Addr)(fp:Y0s)(s₀:Shared)(H₀:Hp)(N':Ah):Cx :=
 Y3M X ((x,C+1)::Y8S X) (λy=>y == x) C fp s₀ H₀ N'
structure lE(X:Cx)(scope:Scope)(x:Str)(N':Ah)(js:Ae):Prop where
 calm:Y1z
 free:∀y∈scope.names,y.2=.free->Y6Q y.1 Y2d
 only:(Ydw (Ya6 y.2))=[(x,NameKind.cell)]
 kind:Yg8
 names:∀y∈scope.names,y.2=.local->Y86 y.1
 own:YbQ x Y2d
 nofl:∀y,Y9A (y,NameKind.free)->Y86 y->False
 nofx:(x,NameKind.free) ∉ scope.names
 len:N'.length=js.length+1
 zero:N'[0]?=Y8
 nd:N'.Nodup
 slot:∀(i:Nat) (j:Nat),js[i]?=Y7h->∃y,N'[i+1]?=Y09/\X.N[j]?=Y09/\Y9A (y,NameKind.free)
theorem DR:∀{names:Y6K}{n:Nat}{acc:Y3e}{h:Heap},(names.filter λy=>Ya6 y.2)=[]->cellsFrom n names acc=acc/\pushCells h names=h
 | [],_,_,_,_=>⟨rfl,rfl⟩
 | (a,k)::r,n,acc,h,e=>by
  rw[List.filter_cons]at e;by_cases q:(k == NameKind.cell)=true
  ·rw[if_pos q]at e;cases e
  ·rw[if_neg q]at e;unfold cellsFrom pushCells;rw[if_neg q,if_neg q];exact DR e
theorem FP{x:Str}:∀{names:Y6K}{n:Nat}{acc:Y3e}{h:Heap},(names.filter λy=>Ya6 y.2)=[(x,NameKind.cell)]->cellsFrom n names acc=(x,n)::acc/\pushCells h names=h.push { cls:=.type "cell",data:=.cell none }
 | [],_,_,_,e=>by cases e
 | (a,k)::r,n,acc,h,e=>by
  rw[List.filter_cons]at e;by_cases q:(k == NameKind.cell)=true
  ·rw[if_pos q]at e;injection e with e1 e2;have ea:a=x:=congrArg Prod.fst e1;subst ea;unfold cellsFrom pushCells;rw[if_pos q,if_pos q];exact DR e2
  ·rw[if_neg q]at e;unfold cellsFrom pushCells;rw[if_neg q,if_neg q];exact FP e
def NG{M:Model}{A:Around}{E:Yd}{s:Shared}{scope:Scope}{g:Addr}{cl:Y3e}{q:Str}{env:Env}{x:Str}{Q:Y1j Env}(ho:(Ydw (Ya6 y.2))=[(x,NameKind.cell)])
  (h:Q { scope,locals:=s.heap.objs.size,globals:=g,cells:=(x,s.heap.objs.size+1)::cl,qual:=q,func:=none,code:=env.code,frame:=env.frame,builtins:=env.builtins } { s with heap:=(s.heap.push { cls:=.type "dict",data:=.dict #[] }).push { cls:=.type "cell",data:=.cell none } }) :
  wpAny M A (newFunctionEnv scope g cl [] q none .none (some env)) Q E s:=by
 simp only[newFunctionEnv,Option.isSome_some,if_true];refine wpAny_bind (wpAny_alloc ?_);refine wpAny_bind (wpAny_layCells _ (λc a cells=>by cases hkc:a == NameKind.cell <;> simp[hkc]) _ _ _ _ ?_);obtain⟨e,d⟩:=FP (n:=({ s with heap:=s.heap.push { cls:=.type "dict",data:=.dict #[] } }:Shared).heap.objs.size) (acc:=cl) (h:=s.heap.push { cls:=.type "dict",data:=.dict #[] }) ho;rw[e,d];rw[List.forIn_nil];refine Y3B Y2k;rw[show({ s with heap:=s.heap.push { cls:=.type "dict",data:=.dict #[] } }:Shared).heap.objs.size=s.heap.objs.size+1 from gY ..];exact h
theorem sG{env:Env}:∀{names:Y6K}{x:Str},names.lookup x=Y2d ->
  (names.map λ(n,k)=>if(k == NameKind.free&&env.scope.kind == .function&&env.kindOf n == some .cell) then(n,NameKind.cell) else(n,k)).lookup x=Y2d
 | [],_,h=>by cases h
 | (n,k)::r,x,h=>by
  rw[List.lookup_cons]at h;rw[bE];dsimp only;by_cases hq:(k == NameKind.free&&env.scope.kind == .function&&env.kindOf n == some .cell)=true
  ·rw[if_pos hq,List.lookup_cons];by_cases e:(x == n)=true
   ·rw[e]
   ·have e':(x == n)=false:=by simpa using e
    rw[e']at h ⊢;exact sG h
  ·rw[if_neg hq,List.lookup_cons];by_cases e:(x == n)=true
   ·rw[e]at h ⊢;exact h
   ·have e':(x == n)=false:=by simpa using e
    rw[e']at h ⊢;exact sG h
theorem pE{env:Env}{x:Str}:∀{names:Y6K}{y:Str}{k:NameKind},(names.map λ(n,k)=>if(k == NameKind.free&&env.scope.kind == .function&&env.kindOf n == some .cell) then(n,NameKind.cell) else(n,k)).lookup y=some k ->
  (k=.cell\/k=.free)->(∀z∈names,z.2=.cell->z.1=x)->y=x\/(y,NameKind.free)∈names
 | [],_,_,h,_,_=>by cases h
 | (n,q)::r,y,k,h,hk,hc=>by
  rw[bE,List.lookup_cons]at h;have ih:=λh=>@pE env x r y k h hk λz g=>hc z (aY _ g);have up:y=x\/(y,NameKind.free)∈r->y=x\/(y,NameKind.free)∈(n,q)::r:=λz=>z.imp id (aY _);by_cases hq:(q == NameKind.free&&env.scope.kind == .function&&env.kindOf n == some .cell)=true
  ·dsimp only at h;rw[if_pos hq]at h;have d:q=.free:=by
    rw[dM,dM]at hq;simpa using hq.1.1
   subst d;by_cases e:(y == n)=true
   ·have:y=n:=by simpa using e
    subst this;exact .inr aS
   ·have a:(y == n)=false:=by simpa using e
    dsimp only at h;rw[a]at h;exact up (ih h)
  ·dsimp only at h;rw[if_neg hq]at h;by_cases e:(y == n)=true
   ·have:y=n:=by simpa using e
    subst this;dsimp only at h;rw[e]at h;have c:k=q:=by injection h with h;exact h.symm
    subst c;rcases hk with rfl | rfl
    ·exact .inl (hc _ aS rfl)
    ·exact .inr aS
   ·have a:(y == n)=false:=by simpa using e
    dsimp only at h;rw[a]at h;exact up (ih h)
section
variable{X:Cx}{pins:Ad}{σ:St}{H:Hp}{s:Shared}{scope:Scope}{x:Str}{N':Ah}{js:Ae}{fp:Y0s}
theorem lE.cells(S:lE X scope x N' js)(ok:X.Ok):∀y∈scope.names,y.2=.free->Yd5 y.1:=λy a d=>ok.has _ (.inl (S.free y a d))
theorem lE.cell(S:lE X scope x N' js):∀z∈scope.names,z.2=.cell->z.1=x:=λz a e=>by
 have:z∈Ydw (Ya6 y.2):=gC.mpr ⟨a,by rw[e];rfl⟩;rw[S.only]at this;rw[bD.mp this]
def rH{y:Str}{C c:Addr}{cl:Y3e}(h:((x,C)::cl).lookup y=Y1u):(y=x/\c=C)\/(y≠x/\cl.lookup y=Y1u):=by
 rw[List.lookup_cons]at h;by_cases e:(y == x)=true
 ·rw[e]at h;cases h;exact Y1Y (by simpa using e) rfl
 ·have a:Yx (y == x):=by simpa using e
  rw[a]at h;exact Y2E (Y5G (by simp[z])) h
def LF{y:Str}{C c:Addr}{cl:Y3e}(n:y≠x)(h:cl.lookup y=Y1u):((x,C)::cl).lookup y=Y1u:=by
 rw[List.lookup_cons,show(y == x)=false by simpa using n];exact h
def aFA(S:lE X scope x N' js)(I:Y5)(hf:∀b∈fp,Y40 H)(hb:∀b∈fp,Y4I b):(cxK X scope x s.heap.objs.size fp s H N').Ok:=by
 have j:∀y c,(DO X scope).lookup y=Y1u->Y4I c:=λy c h=>by
  obtain⟨v,o,e,_⟩:=Y7Z y (Y6l h);exact bN e
 exact {
  mod:=I.ok.mod
  kind:=S.kind
  glob:=I.ok.glob
  blt:=I.ok.blt
  above:=aN _
  inj:=λy z c u i=>by
   rcases rH u with⟨m,d⟩ | ⟨m,d⟩ <;> rcases rH i with⟨n,b2⟩ | ⟨n,b2⟩
   ·rw[m,n]
   ·have:=j _ _ b2;rw[d]at this;exact absurd Yf8 (cO _)
   ·have:=j _ _ d;rw[b2]at this;exact absurd Yf8 (cO _)
   ·exact I.ok.inj y z c (Y6l d) (Y6l b2)
  has:=λy g=>by
   have l:y=x\/Y9A (y,NameKind.free):=by
    rcases g with g | g
    ·exact pE (env:=X.env) g (Y62) S.cell
    ·exact pE (env:=X.env) g (Ybv) S.cell
   by_cases q:y=x
   ·subst q;exact⟨Y25,by show List.lookup y ((y,_)::_)=_;rw[List.lookup_cons,show(y == y)=true by simp]⟩
   ·have l:=l.resolve_left q;obtain⟨c,p⟩:=S.cells I.ok _ l rfl;exact⟨c,LF q (uG (Yal) l p)⟩
  cab:=λy c g h=>by
   rcases rH h with⟨_,d⟩ | ⟨m,_⟩
   ·rw[d];exact Nat.le_succ _
   ·exact absurd (by simpa[cxK,FL]using g) m
  hd:=λ_=>I.ok.hd S.calm
  frames:=I.ok.frames
  stk:=.inl rfl
  exf:=λb a=>⟨λe=>by have:=hb b a;rw[e]at this;exact Y5W,λy c h=>by
   rcases rH h with⟨_,d⟩ | ⟨_,d⟩
   ·intro e;have:=hb b a;rw[<-e,d]at this;exact absurd Yf8 (cO _)
   ·exact(hf b a).2.2.2.2.1 y c (Y6l d)⟩
  bs:=I.bs
  bsz:=aL I.ok.bsz I.sz
  noex:=λb o e a=>by
   rcases(hf b a).2.2.2.1 with h | h
   ·exact I.ok.noex b o e h
   ·exact absurd (aO (bN e) (YcA h)) (cO _)
  exfs:=λb a r=>by
   have i:=I.stkSub b r;rcases bK.mp i with i | i
   ·exact(hf b a).2.1 i
   ·exact(hf b a).2.2.1 i
  funs:=I.stack
  frf:=I.stkFree }
def aCb{h':Heap}{tk:Nat}(S:lE X scope x N' js)(I:Y5)(hf:∀b∈fp,Y40 H)(hb:∀b∈fp,Y4I b)
  (hn:h'.Ns s.heap.objs.size (Y9N)) (hk:∀b o,Y28->Y1a=Yb) (hc0:h'.IsCell (Y25) none):dA (cxK X scope x s.heap.objs.size fp s H N') [] (none::Y0X) H { s with heap:=h',toks:=tk } where
 ok:=aFA S I hf hb
 os:=rfl
 bare:=I.bare
 base:=Un.kept hk
 loc:=by
  refine Y0K hn (λi y v α P a=>?_);cases i with
  | zero=>cases P
  | succ i =>
   have d:(Y0X)[i]?=Yb2:=P;have J:i<js.length:=by
    have:=(aC.mp d).1;unfold slots at this
    rwa [aA]at this
   have T:js[i]?=some js[i]:=aB J;obtain⟨z,ζ,δ,w⟩:=S.slot i _ T;have M:z=y:=by
    have:N'[i+1]?=Y09:=α;rw[ζ]at this;cases this;rfl
   subst M;rw[EU T]at d;have β:σ[js[i]]?=Yb2:=by
    cases q:σ[js[i]]? with
    | none=>rw[q]at d;cases d
    | some o=>rw[q]at d;cases d;rfl
   have D:Y6Q z Y2d:=S.free _ w rfl;obtain⟨m,η,U⟩:=I.loc;obtain⟨u,ru,γ⟩:=U _ z v δ β (YaZ D);rcases γ with⟨C,_⟩ | ⟨_,c,R,j⟩
   ·rw[D]at C;cases C
   ·have L:z≠x:=λq=>S.nofx (q ▸ w);refine⟨u,ru,.inr (Y2v ?_ c (LF L (uG (Yal) w R)))⟩
    ·rcases a with a | a | a
     ·exfalso;have Z:=uG (Yal) w R;have A:=sM (l:=(relabel scope X.env).names) a;unfold relabel at A;obtain⟨⟨n,k⟩,B,G⟩:=aM.mp A;dsimp only at G;by_cases hq:(k == NameKind.free&&YdB .function&&X.env.kindOf n == Y2d)=true
      ·rw[if_pos hq]at G;cases G
      ·rw[if_neg hq]at G;cases G;have:=S.names _ B rfl;have O:=sL w;obtain⟨θ,O⟩:=O;dsimp only at this;rw[this]at O;have W:(relabel scope X.env).names.lookup z=Y2S:=lookup_relabel_local this;have N:Y86 z:=this;exact S.nofl z w N
     ·exact .inl a
     ·exact .inr a
    ·obtain⟨o,e,r⟩:=j;exact Y1B (hk _ _ e) r
 cell:=λy c h=>by
  rcases rH h with⟨_,g⟩ | ⟨_,g⟩
  ·rw[g];exact⟨none,hc0⟩
  ·obtain⟨v,o,e,r⟩:=Y7Z y (Y6l g);exact⟨v,o,hk _ _ e,r⟩
 free:=Y5S
 freeC:=λy c h=>by
  rcases rH h with⟨_,g⟩ | ⟨_,g⟩
  ·rw[g];exact I.hok.fresh (Nat.le_succ _)
  ·exact Ya4 y (Y6l g)
 pin:=λp ε=>by cases ε
 hok:=I.hok.kept hk
 len:=by
  show(Y0X).length+1=N'.length;unfold slots;rw[aA,S.len]
def lE.blk{px:Pos}(S:lE X scope x N' js):ON X scope (Y3P) 1 (λC=>(x,C+1)::Y8S X) (λy=>y == x) N' js (λv _ vs=>vs=[v]) (mG 0) :=
 ⟨S.cells,S.kind,S.names,λh=>by rw[h];rfl,λ{d σ H s i E Q} I g j k=>NG S.only (by
  have a:=(Heap.Ns.new s.heap (.type "dict")).keeps λb o e=>aG { cls:=.type "cell",data:=.cell none } e;have c:∀b o,Y28->((s.heap.push { cls:=.type "dict",data:=.dict #[] }).push { cls:=.type "cell",data:=.cell none }).get? b=Yb:=λb o e=>Y6R e;exact k _ _ rfl rfl (aCb S I g j a c (Y1o (by rw[<-gY s.heap { cls:=.type "dict",data:=.dict #[] }];exact Y1n))) c),λC i l H₀=>HC S.nd S.zero (.inr (sG S.own)) (.inl (by simp[FL])),ZE⟩
end
section
variable{X:Cx}{pins:Ad}{σ:St}{H:Hp}{s:Shared}{scope:Scope}{x:Str}{N':Ah}{js:Ae}{fp:Y0s}{elt iter:Expr}{px pos:Pos}{ifs:Y0f}{tc:TT}{te:TE}
def VY{wi:TI}(S:lE X scope x N' js)(hi:OH X (Y3P) iter wi)(ht:Yav (cxK X scope x C fp s₀ H₀ N') ifs tc)(he:Yau (cxK X scope x C fp s₀ H₀ N') elt te)
  (hs:∀x,Y6Z x=Y7j:=by intro _;rfl):Yr (Y4l [Y4G Y3P]) (MM wi js tc te) :=
 ⟨YdS S.blk hi.p ((ht C fp s₀ H₀).p.mono) ((he C fp s₀ H₀).p.mono) nU.turns hs⟩
end
def aC8(psc scope:Scope)(N:Ah)(x:Str)(N':Ah)(js:Ae):Bool :=
 (Y9q (!(y.2 == .free) || psc.names.lookup y.1 == Y2d))&&(Ydw (Ya6 y.2)) == [(x,NameKind.cell)]&&scope.kind == .function &&
 (Y9q (!(y.2 == .local) || Yay y.1 Y2S))&&Yay x Y2d &&
 (Y9q (!(y.2 == .free) || (!(Yay y.1 Y2S) && !(y.1 == x))))&&N'.length == js.length+1&&N'[0]? == Y8&&decide N'.Nodup &&
 ((List.range js.length).all λi=>match js[i]?,N'[i+1]? with
  | some j,some y=>N[j]? == some y&&scope.names.contains (y,NameKind.free)
  | _,_=>false)
def lE.of{X:Cx}{psc scope:Scope}{N:Ah}{x:Str}{N':Ah}{js:Ae}(h:aC8 psc scope N x N' js=true)(hX:X.env.scope=psc)(hN:X.N=N)(hc:Y1z):lE X scope x N' js:=by
 unfold aC8 at h;simp only[dM]at h;obtain⟨⟨⟨⟨⟨⟨⟨⟨⟨l,z⟩,r⟩,m⟩,u⟩,d⟩,n⟩,w⟩,p⟩,c⟩:=h;rw[List.all_eq_true]at l m d c;refine⟨hc,Y9B,by simpa using z,by simpa using r,Y9B,by simpa using u,Y9B,λa=>?_,by simpa using n,by simpa using w,of_decide_eq_true p,λi j g=>?_⟩
 ·have:=l y a;rw[e]at this;show YeS y.1 _;rw[hX];simpa using this
 ·have:=m y a;rw[e]at this;simpa using this
 ·have:=d _ a;simp[e]at this
 ·have:=d _ a;simp at this
 ·have s:i<js.length:=(aC.mp g).1;have:=c i (bR.mpr s);rw[g]at this;cases q:N'[i+1]? with
  | none=>rw[q]at this;simp at this
  | some y =>
   rw[q]at this;simp only[dM]at this;exact Y1Z y (by rw[hN];simpa using this.1) (List.contains_iff_mem.mp this.2)
end L2
namespace Kw
open PySem L2 Mf
abbrev sQ2:Stmt:=(BC (top 23) 2)
def cQ2:Ye ["self","costs","many"] a39 sQ2:={}
def VT{X:Cx}{tg l:Expr}{tl:TE}(K:Aa)(hl:Yr l tl)(hK:X.K=K:=by rfl):OH X tg l (ZC K tl):=by
 subst hK;exact eC hl
def yG{n i:Nat}{b:Y0}{R:Md.fG}(h:i<n):(iX n b R)[i]?=some (dE (n+1) (Md.rho n b R i)):=by
 unfold iX;rw[aF,bL h];rfl
def LA{n i:Nat}{a:Y0}(h:i<n):(dE n a)[i]?=some (a i):=by
 unfold dE;rw[aF,bL h];rfl
def iC{n i:Nat}{a:Y0}(h:i<n):((dE n a).map V.int)[i]?=Y9 (a i):=by
 rw[aF,LA h];rfl
def mJ{n:Nat}{ys:Al}{g:Y0}(hl:Y3c n)(h:∀(i:Nat) (y:V),Y1r=Y09->y=.int (g i)):ys=(dE n g).map V.int:=oT hl h
def vA{n:Nat}{a:Y0}{x:Int}(h:x∈dE n a):∃i,i<n/\a i=x:=by
 unfold dE at h;obtain⟨i,c,e⟩:=Y83;exact⟨i,bR.mp c,e⟩
def uW(ra sa:Addr)(p:Int):(mfs ra sa p).lookup ("rows" : Str)=Y3 ra:=by unfold mfs;rw[fE,Y2B,fE,Y2B,fE,Yo]
def CL(ra sa:Addr)(p:Int):(mfs ra sa p).lookup ("parts" : Str)=Y9 p:=by unfold mfs;rw[fE,Y2B,fE,Yo]
def uD(ra sa:Addr)(p:Int):(mfs ra sa p).lookup ("standing" : Str)=Y3 sa:=by unfold mfs;rw[fE,Yo]
theorem uI.same{H H':Hp}{C a sa:Addr}{n:Nat}{b:Y0}{R:Md.fG}{p:Int}{ts:Al}(h:uI H C a sa n b R p ts)(s:Y1):uI H' C a sa n b R p ts:=by
 obtain⟨c,d,g,e⟩:=h.ex;exact⟨⟨c,d,s _ _ g,e.same s⟩,s _ _ h.st,h.len⟩
structure aAu(n:Nat)(b:Y0)(R:Md.fG)(p:Int)(C:Nat):Prop where
 n8:n<=8
 rz:∀i,i<n->∀k,k<n+1->(Y3x n k).natAbs<2^C
 pz:p.natAbs<2^C
 c4:C<=4000
inductive qO (M:Addr):Ym
 | i {H:Hp} {Q:VK} {E:XK} {x sa ca:Addr} {n:Nat} {b:Y0} {R:Md.fG} {p:Int} {ts:Al} {cs:Y0} {C:Nat} (h1:uI H M x sa n b R p ts) (h2:H ca=Yi ((dE n cs).map V.int)) (h3:aAu n b R p C) (h4:∀i,i<n->(cs i).natAbs<Y0P) (q:∀D H',H D=none->Y0x=Yi ((dE n (Md.rat n R cs)).map V.int)->Y1->Y1g):qO M [Y24,.ref ca] H Q E
section
def oQ2(F:Yc "rates" "Master.rates" sQ2)(T:Yf)(FQ58:Y00 "product" a32 uR):dP P w K mg base cY 2 f fd a39 (qO c.Master):=by
 refine F.oky cQ2 λρ H Q E h=>?_;obtain @⟨H,Q,E,x,α,τ,n,b,R,p,ξ,κ,C,β,L,Z,ν,q⟩:=h;refine Yg;intro θ A I s W _;have O:=T.w_Master;have n8:=Z.n8;obtain⟨χ,J,j,LL⟩:=β.ex;obtain⟨z,a,B,M⟩:=LL.at_;rw[nO]at B;have up:∀{x:Int},Y5O (2^C)->Y5O Y0P:=λh=>Y66 h Z.c4;refine⟨_,(aH (Y10 cQ2.nd (iV oE (by rfl) T.b_len Kk (Y1L Y1P)))
  (Y0V (VY (lE.of (psc:=bA sQ2) (N:=["self","costs","many"]) (N':=["place","self","costs"]) (js:=[0,1]) Kk rfl rfl rfl) (Y7O 2) (YbN) (λ_ _ _ _=>(cR FQ58 (fM (dS.of (N:=["place","self","costs"]) (N':=["row","place"]) (js:=[0]) (by kernel_rfl) rfl rfl rfl) (VT K (dQ K (aD 1))) YbN (λ_ _ _ _=>bO (iA K) (aD 0) (Y4Y aI Y0m))) (Y07)))))),?_⟩
 refine Yu;intro υ ψ;refine Y1W (by simp) j (uW J α p);refine rlL a ?_;rw[B];refine Y55 _ _ rfl Oo Oo ?_;rw[show((n:Nat):Int).toNat=n by exact Oo];refine iY (n:=n) (λk y _=>y=.int (Md.rat n R κ k)) (Y9g) Oo (λk H' Q' ο d δ=>?_) (λD φ H' μ X d g W=>?_)
 ·rw[Int.zero_add];refine Y1W (by simp) (d _ _ j) (uW J α p);refine Y1l J (d _ _ a) (Yd3 z (y=.int (R i k)) Oo (d _ _ a) (λi y H2 Q2 u m ε=>?_) (λD2 ι H2 η U m G S=>?_))
  ·have e:i<n:=by have:=(aC.mp u).1;exact Oo
   obtain⟨l,g,γ⟩:=M i _ (yG e);rw[u]at g;cases g;refine Y08 (Y6A _ _);show rIx K (V.ref l) (V.int ((1:Int)+(k:Int))) H2 Q2;rw[show(1:Int)+(k:Int)=((k+1:Nat):Int)by exact Oo];exact vN ((d.trans m) _ _ γ) (dR (iC Oo)) (ε _ H2 (Y0e) rfl)
  ·rw[mJ (G.trans B) S]at U;refine Y6;refine uR.i U ((d.trans m) _ _ L) (by rw[cS,cS]) (by rw[cS];exact Oo) (λx j=>?_) (λy u=>?_) λH3 ζ=>?_
   ·obtain⟨i,e,rfl⟩:=vA j;exact up (Z.rz i e (k+1) Oo)
   ·obtain⟨i,e,rfl⟩:=vA u;exact ν i e
   ·refine δ _ H3 (m.trans ζ) ?_;rw[KM];refine congrArg V.int ?_;unfold Md.dot Md.rat;exact Md.eG λi _=>Int.mul_comm ..
 ·rw[mJ g W]at X;exact q D H' μ X d
end
abbrev sQ1:Stmt:=(BC (top 23) 1)
def cQ1:Ye ["self","column","thing","steps","out"] a15 sQ1:={}
def TD(ra ra' sa:Addr)(p:Int):Y2C "rows" ra' (mfs ra sa p)=mfs ra' sa p:=by unfold mfs;rfl
def NB(ra sa:Addr)(p p':Int):eP "parts" (.int p') (mfs ra sa p)=mfs ra sa p':=by unfold mfs;rfl
def aCd(n:Nat)(b:Y0)(R:Md.fG)(i:Nat):oC ((dE (n+1) (Md.rho n b R i)).map V.int) (some 1) none=(dE n (R i)).map V.int:=by
 have h:=HY ((dE (n+1) (Md.rho n b R i)).map V.int) 1;rw[show((1:Nat):Int)=1 from rfl]at h;rw[h];unfold dE;rw[List.range_succ_eq_map,bE,List.map_map,bE,List.drop_succ_cons,List.drop_zero]
 rfl
abbrev PF(n:Nat)(R:Md.fG)(a:Y0):Af:=dE n (Yd6 j)
inductive tV (M:Addr):Ym
 | i {H:Hp} {Q:VK} {E:XK} {x sa ca:Addr} {tv:V} {n:Nat} {b a:Y0} {B R:Md.fG} {p:Int} {ts:Al} {C:Nat} (h1:uI H M x sa n b R p ts) (h2:H ca=Yi ((dE n a).map V.int)) (h3:aAu n b R p C) (h4:Md.Mst n b B R p) (h5:0<p) (h6:∀i,i<n->(a i).natAbs<Y0P) (h7:∀i,i<n->(Y3R i).natAbs<2^C) (h8:∃i,i<n/\0<Y3R i) (q:∀o H',o<n->0<Y3R o->Md.aAv n b R a o->aAx x sa H H'->uI H' M x sa n b (Md.xK n B R o a) (Y3R o) (YaH tv)->Ybz):tV M [Y24,.ref ca,tv] H Q E
section
def oQ1(F:Yc "enter" "Master.enter" sQ1)(T:Yf)(FQ58:Y00 "product" a32 uR)(FQ42:Y2w "leaving" ["rows","steps"] AO)(FQ30:Y00 "exchanged" a30 AR):dP P w K mg base cY 3 f fd a15 (tV c.Master):=by
 refine Y13 cQ1;obtain @⟨H,Q,E,x,g,ca,tv,n,b,a,B,R,p,ts,C,J,θ,Z,M,p0,za,zs,pos,q⟩:=h;refine Yg;intro cdv A μ s L _;have O:=T.w_Master;have n8:=Z.n8;obtain⟨u,γ,S,LL⟩:=J.ex;obtain⟨κ,X,lr,ν⟩:=LL.at_;rw[nO]at lr;have up:∀{x:Int},Y5O (2^C)->Y5O Y0P:=λh=>Y66 h Z.c4;have K0:MzK (n+1) C (iX n b R) (PF n R a):=by
  refine⟨by rw[cS,nO],by rw[nO];exact Oo,λr L=>?_,Oo,λr L y e=>?_,λy e=>?_,Z.c4⟩
  ·obtain⟨i,m,rfl⟩:=aM.mp L;exact cS _ _
  ·obtain⟨i,m,rfl⟩:=aM.mp L;obtain⟨k,ε,rfl⟩:=vA e;exact Z.rz i (bR.mp m) k ε
  ·obtain⟨i,m,rfl⟩:=vA e;exact zs i m
 refine⟨_,(aH (iD (i:=3) (dS.o ["row","column"] [1]) cQ1.nd rfl rfl Y6V YbN (λ_ _ _ _=>cR FQ58 (oX (xD K) (Y02) (rQ aI) rS) (Y0m)))
  (aH (Y2A cQ1.nd (cR FQ42 (Y1P) (Y0B)))
  (aH (Y6X (VX FQ30 (Y1P) (Y0B) (Y1i) (Y1P)))
  (aH (Y6X (Y48 3 Y1i))
  (aR (GB (Y07) (GE (Y1P) (Y1i) xE))))))),?_⟩
 refine Yu;intro υ n_;refine Y1W (by simp) S (uW γ g p);refine Y1l γ X (Yd3 κ (y=.int (Y3R i)) Oo X (λi y H2 Q2 e W k2=>?_) (λD ys H1 hD ζ χ N ψ=>?_))
 ·have m:i<n:=by have:=(aC.mp e).1;exact Oo
  obtain⟨l,N,el⟩:=ν i _ (yG m);rw[e]at N;cases N;refine Y06;refine slL (ys:=(dE n (R i)).map V.int) (W _ _ el) (aCd n b R i) λD3 H3 hD3 e3 α=>Y6;refine uR.i e3 ((W.trans α) _ _ θ) (by rw[cS,cS]) (by rw[cS];exact Oo) (λz φ=>?_) (λz φ=>?_) λH4 s4=>?_
  ·obtain⟨k,ε,rfl⟩:=vA φ;exact up (Z.rz i m (k+1) Oo)
  ·obtain⟨k,ε,rfl⟩:=vA φ;exact za k ε
  ·exact k2 _ H4 (α.trans s4) (by rw[KM])
 ·rw[mJ (N.trans lr) ψ]at ζ;refine Ys;intro υ n_;have ο:=χ _ _ S;refine Y1W (by simp) ο (uW γ g p);refine Y6;refine AO.i (LL.same χ) ζ K0 λH2 W=>Ys;intro υ n_;rw[cS];obtain⟨g1,g2⟩:=FB (n:=n) (b:=b) (a:=a) (R:=R) (aN n);cases eo:FC (iX n b R) (PF n R a) n with
  | none =>
   obtain⟨i,m,hp⟩:=pos;exact absurd hp (g1 eo i m)
  | some o =>
   obtain⟨U,sp⟩:=CI _ _ _ _ eo;rw[jL U]at sp;have S2:=χ.trans W;have I:=S2 _ _ S;refine Y1W (by simp) I (uW γ g p);refine Y2J (Y4i O (by simp) I (CL γ g p));refine AR.i (LL.same S2) (W _ _ ζ) K0 (by rw[nO];exact U) p0 (Y66 Z.pz (Y2Z Z.c4)) λd H3 G L3 α=>?_;rw[aB7 M.bs p0 U]at L3;have ι:=L3;have L3:=L3.ll;have S3:=S2.trans α;have hx3:=S3 _ _ S;have β:∀(r s:Addr) (z:Int),(mfs r s z).length<1000:=λr s z=>by show 3<1000;decide
   refine⟨_,rfl,x,c.Master,u,_,rfl,hx3,O.cls,Y7o (by simp),β ..,Y3J⟩;intro υ n_;rw[TD];have b4:=YcY x H3 u (mfs d g p);have e4:(upd H3 x (.ins c.Master u (mfs d g p))) x=_:=bP;generalize upd H3 x (.ins c.Master u (mfs d g p))=H4 at b4 e4 ⊢;have nD:D≠x:=λz=>by rw[z,S]at hD;cases hD
   refine Y08 (Y6B (b4.at nD ((W.trans α) _ _ ζ)) (iC U));refine⟨_,rfl,x,c.Master,u,_,rfl,e4,O.cls,Y7o (by simp),β ..,?_⟩;rw[NB];have b5:=YcY x H4 u (mfs d g (Y3R o));have e5:(upd H4 x (.ins c.Master u (mfs d g (Md.dot n (R o) a)))) x=_:=bP;generalize upd H4 x (.ins c.Master u (mfs d g (Md.dot n (R o) a)))=H5 at b5 e5 ⊢;have B5:aX x H3 H5:=b4.trans b5;have δ:g≠x:=λz=>by have:=J.st;rw[z,S]at this;cases this
   have ω:=B5.at δ (S3 _ _ J.st);refine Y08 (Y4i O (by simp) e5 (uD d g _));refine Y6;refine stG (j:=o) ω (NN (by rw[J.len];exact U)) λH6 e6 b6=>?_;have η:=b6.at (Ne.symm δ) e5;refine q o H6 U sp (λi m hp=>g2 o eo i m hp) (λy ξ n1 τ e=>b6.at τ (B5.at n1 (S3 _ _ e))) ⟨Y2v u d η,e6,by rw[List.length_set];exact J.len⟩;obtain⟨ρ,h1,h2,h3⟩:=ι;have nf:∀{y:Addr} {ξ:HO},H3 y=some ξ->y≠x->y≠g->H6 y=some ξ:=λe n1 τ=>b6.at τ (B5.at n1 e);have nn:∀{y:Addr},H2 y=none->y≠x/\y≠g:=λe=>⟨λz=>(by rw[z,I]at e;cases e),λz=>(by rw[z,S2 _ _ J.st]at e;cases e)⟩;refine⟨ρ,nf h1 (nn G).1 (nn G).2,h2,λj l row N L=>?_⟩;obtain⟨h4,h5⟩:=h3 j l row N L;exact nf h5 (nn h4).1 (nn h4).2
end
end Kw
namespace L2
open PySem PySem.W PySem.Spec PySem.Calls PyProof.Rows
section
variable{X:Cx}
@[irreducible] def aBs:Y1v:=λxs H Q=>∃(p:Addr) (bs:List Bool),xs=Y56/\H p=Yi (bs.map V.bl)/\Y34 (bs.any id)
def rany{p:Addr}{bs:List Bool}{H:Hp}{Q:VK}(e:H p=Yi (bs.map V.bl))(q:Y34 (bs.any id)):aBs Y56 H Q:=by unfold aBs;exact Y11 p bs e q
def aAn{bs:List Bool}:∀{us:Ag},Y5z (bs.map V.bl)->LSm.BoolsAre us bs:=by
 induction bs with
 | nil=>intro us r;cases r;exact .nil
 | cons b bs ih =>
  intro us r;cases r with
  | cons r t=>cases(show _=Value.bool b from r);exact .cons b (ih t)
def MX(bs:List Bool):((List.range bs.length).any λi=>(bs[i]?).getD false)=bs.any id:=by
 apply Bool.eq_iff_iff.mpr;rw[List.any_eq_true,List.any_eq_true];constructor
 ·rintro⟨i,c,h⟩;have a:=bR.mp c;rw[aB a]at h;exact⟨bs[i],List.getElem_mem a,h⟩
 ·rintro⟨b,d,h⟩;obtain⟨i,c,rfl⟩:=List.getElem_of_mem d;exact⟨i,bR.mpr c,by rw[aB c];exact h⟩
def aFB(hc:Y1z):Y45 "any" aBs:=by
 unfold aBs;intro m s σ H J L Q I r h;obtain⟨p,bs,rfl,e,q⟩:=h;obtain⟨_,rfl,y⟩:=oH r;cases y;obtain⟨z,a,n,rv,B,l⟩:=I.lstM e;have d:s.heap.IsList p a.toArray:=Y3y l n rfl;have g:=aAn rv;have c:Y4I p:=bN l;refine call_any_walk (wpAny_pyIter_list d ?_);refine⟨s.heap.objs.size,[s.heap.objs.size,p],[s.heap.objs.size],a.toArray.size,_,_,λi=>(bs[i]?).getD false,rfl,Walks.list (A:=X.A.in1) (Y9M) _ p (dJ c) a.toArray,
  ⟨Yag _,d.push _⟩,λi v D Q' E' w j=>?_,λG C u=>?_⟩
 ·obtain⟨b,e,rfl⟩:=g.get i v (by simpa using w);simp only[e,Option.getD_some]at j;exact wpAny_truthy_bool j
 ·have e:((List.range a.toArray.size).any λi=>(bs[i]?).getD false)=bs.any id:=by
   rw[bM,g.length];exact MX bs
  rw[e];exact Y0O (.bl _) H (I.kept (LSm.kept_iter u)) q
end
end L2
namespace Kw
open PySem L2 Mf
abbrev aD7:Stmt:=(top 76)
def aJn:Ye a20 a20 aD7:={}
def uF{s u:Str}:Y0R (V.str s) (V.str u)=Y0R s u:=by
 by_cases e:s=u
 ·subst e;simp
 ·rw[cD e,cD (Y5G (by injection z))]
structure oF where
 word:Str
 cost:Int
 v:V
def xX(H:Hp)(u:V)(t:oF):Prop:=∃a,u=Yn/\H a=Yj [.str t.word,.int t.cost,t.v]
structure kY(H:Hp)(us:Al)(ts:Y0z):Prop where
 len:Y2T ts.length
 at_:∀(i:Nat) (u:V) (t:oF),Y5X=Yp->ts[i]?=Y8a->xX H u t
def xX.same{H H':Hp}{u:V}{t:oF}(h:xX H u t)(s:Y1):xX H' u t:=by
 obtain⟨a,e,h⟩:=h;exact Y29 e (s _ _ h)
theorem kY.same{H H':Hp}{us:Al}{ts:Y0z}(h:kY H us ts)(s:Y1):kY H' us ts:=⟨h.len,λi u t c a=>(h.at_ i u t c a).same s⟩
def xX.keep2{H H':Hp}{x sa C dx:Addr}{fs:Y4x}{xs:Al}{u:V}{t:oF}(h:xX H u t)(k:aAx x sa H H')(hx:H x=Y7m)(hs:H sa=Y0G):xX H' u t:=by
 obtain⟨a,e,h⟩:=h;exact Y29 e (k _ _ (λz=>by rw[z,hx]at h;cases h) (λz=>by rw[z,hs]at h;cases h) h)
def kY.get{H:Hp}{us:Al}{ts:Y0z}(h:kY H us ts){i:Nat}{u:V}(hu:Y5X=Yp):∃t,ts[i]?=Y8a/\xX H u t:=by
 have a:i<ts.length:=by have:=(aC.mp hu).1;have:=h.len;exact Oo
 exact⟨ts[i],aB a,h.at_ i u _ hu (aB a)⟩
def gI(ts:Y0z):Bool:=(ts.map λt=>decide (t.word=Str.ofString "lack")).any id
inductive lU (M:Addr):Ym
 | i {H:Hp} {Q:VK} {E:XK} {x sa:Addr} {n:Nat} {b:Y0} {R:Md.fG} {p:Int} {us:Al} {ts:Y0z} (h1:uI H M x sa n b R p us) (h2:kY H us ts) (h3:n<=8) (q:∀H',Y1->Q (.bl Y1e) H'):lU M [Y24] H Q E
section
def aIr(F:Yc "lacks" "lacks" aD7)(T:Yf):dP P w K mg base cY 1 f fd a20 (Yez):=by
 refine YfB aJn ?_;obtain @⟨H,Q,E,x,B,n,b,R,p,X,m,d,z,γ,q⟩:=h;refine Yg;intro W A g s β _;have O:=T.w_Master;obtain⟨ζ,L,G,LL⟩:=d.ex;have δ:=d.len;refine Y4h (iV (aFB rfl) (by rfl) T.b_any Kk (Y1L (Y7B ["thing"] [] Y6V (tO nP (Y7u 0) (Y9Q "lack" T.g_LACK))))) (Y1W (by simp) G (uD L B p));refine Y1l B d.st (Yd3 X (∃t,m[i]?=Y8a/\y=.bl (Y9P "lack")) Oo d.st (λi y H2 Q2 M I N=>?_) (λD u H1 ε C U Z j=>?_))
 ·obtain⟨t,l,a,rfl,J⟩:=z.get M;refine Y0g (I _ _ J);exact Y0I (N _ H2 (Y0e) ⟨t,l,by rw[uF]⟩)
 ·have S:u=(m.map λt=>decide (t.word=Str.ofString "lack")).map V.bl:=by
   refine Y8d;rw[aF,aF];by_cases hi:i<u.length
   ·obtain⟨t,l,e⟩:=j i _ (aB hi);rw[l,aB hi,e];rfl
   ·rw[bS Oo,bS (by have:=z.len;exact Oo)];rfl
  rw[S]at C;exact rany C (q H1 U)
end
abbrev aDN:Stmt:=(top 77)
def aJd:Ye a20 a20 aDN:={}
def xZ(ts:Y0z)(i:Nat):Int:=if Y1e=true then(if((ts[i]?.map λt=>decide (t.word=Str.ofString "lack")).getD false)=true then 1 else 0) else(ts[i]?.map (·.cost)).getD 0
inductive mU (M:Addr):Ym
 | i {H:Hp} {Q:VK} {E:XK} {x sa:Addr} {n:Nat} {b:Y0} {R:Md.fG} {p:Int} {us:Al} {ts:Y0z} {C:Nat} (h1:uI H M x sa n b R p us) (h2:kY H us ts) (h3:aAu n b R p C) (h4:∀t∈ts,t.cost.natAbs<Y0P) (q:∀D H',H D=none->Y0x=Yi ((dE n (Md.rat n R (xZ ts))).map V.int)->Y1->Y1g):mU M [Y24] H Q E
section
def aH6(F:Yc "rates_of" "rates_of" aDN)(T:Yf)(FQ38:Y00 "lacks" a20 Yez)(FQ2:FnM P w K mg base 2 c.Master "rates" a39 (qO c.Master)):dP P w K mg base cY 3 f fd a20 (mU c.Master):=by
 refine F.oky aJd λτ H Q E h=>?_;obtain @⟨H,Q,E,x,M,n,b,R,p,ι,B,C,m,L,Z,ρ,q⟩:=h;refine Yg;intro ξ A U s δ _;have O:=T.w_Master;have n8:=Z.n8;have η:=m.len;have lt:=L.len;have ζ:∀(r s:Addr) (z:Int),(mfs r s z).lookup ("rates" : Str)=none:=λr s z=>by unfold mfs;rw[fE,Y2B,fE,Y2B,fE,Y2B];rfl
 refine⟨_,(aH (Y80 (pX (Y0F FQ38 0)) (ME FQ2 T.w_Master.cls (δ.mono Dd) (Y02) (Y1L (Y7B ["thing"] [] Y6V (lP (eB nP (Y7u 0) (Y9Q "lack" T.g_LACK)) aI aI)))))
  (Y0V (ME FQ2 T.w_Master.cls (δ.mono Dd) (Y02) (Y1L (Y7B ["thing"] [] Y6V (Y7u 0)))))),?_⟩
 refine Yu;intro μ υ;refine Y6;refine lU.i m L n8 λH1 e=>Y6;obtain⟨θ,ε,I,LL⟩:=(m.same e).ex;have g:=(m.same e).st;cases eb:gI B with
 | true =>
  refine sO (Y23);intro μ;refine⟨_,rfl,x,θ,_,rfl,I,ζ ..,_,rfl,Y4i O (by simp) I (uD ε M p)⟩;refine Y1l M g (Yd3 ι (y=.int (xZ B i)) Oo g (λi y H2 Q2 W d J=>?_) (λD ν H2 ο u d N l=>?_))
  ·obtain⟨t,β,a,rfl,S⟩:=L.get W;refine Y0g ((e.trans d) _ _ S);refine Y0I Y6;have γ:xZ B i=if Y9P "lack"=true then 1 else 0:=by unfold xZ;rw[if_pos eb,β];rfl
   rw[uF];cases ew:Y9P "lack"with
   | true =>
    exact sO (J _ H2 (Y0e) (by rw[γ,ew];rfl))
   | false =>
    exact rB (J _ H2 (Y0e) (by rw[γ,ew];rfl))
  ·rw[mJ (N.trans η) l]at u;refine qO.i (m.same (e.trans d)) u Z (λi κ=>?_) λD3 H3 j α X=>?_
   ·unfold xZ;rw[if_pos eb];split
    ·show 1<Y0P;exact Ydt
    ·show 0<Y0P;exact Y61
   ·exact q D3 H3 ((e.trans d).free j) α ((e.trans d).trans X)
 | false =>
  refine rB ⟨_,rfl,x,θ,_,rfl,I,ζ ..,_,rfl,Y4i O (by simp) I (uD ε M p)⟩;refine Y1l M g (Yd3 ι (y=.int (xZ B i)) Oo g (λi y H2 Q2 W d J=>?_) (λD ν H2 ο u d N l=>?_))
  ·obtain⟨t,β,a,rfl,S⟩:=L.get W;refine Y0g ((e.trans d) _ _ S);exact J _ H2 (Y0e) (by unfold xZ;rw[if_neg (by rw[eb];decide),β];rfl)
  ·rw[mJ (N.trans η) l]at u;refine qO.i (m.same (e.trans d)) u Z (λi κ=>?_) λD3 H3 j α X=>?_
   ·unfold xZ;rw[if_neg (by rw[eb];decide)];have G:i<B.length:=Oo;rw[aB G];exact ρ _ (List.getElem_mem G)
   ·exact q D3 H3 ((e.trans d).free j) α ((e.trans d).trans X)
end
abbrev aEd:Stmt:=(top 78)
def aJq:Ye ["rates"] ["rates"] aEd:={}
def ZW(n:Nat)(y:Y0):oC ((dE (n+1) y).map V.int) none (some (-1))=(dE n y).map V.int:=by
 have e:(dE (n+1) y).map V.int=(dE n y).map V.int++[V.int (y n)]:=by unfold dE;rw[List.range_succ,bI,bI];rfl
 have l:((dE n y).map V.int).length=n:=by rw[aA,cS]
 rw[e];generalize (dE n y).map V.int=a at l ⊢;unfold oC;rw[HT.xG];have c:HT.kO (a++[V.int (y n)]).length (a++[V.int (y n)]).length (some (-1))=n:=by
  rw[aZ,l];show(if(-1:Int)<0 then((-1:Int)+((n+1:Nat):Int)).toNat else min (-1:Int).toNat (n+1))=n;rw[if_pos Dd];exact Oo
 rw[c,Nat.sub_zero,List.drop_zero,<-l,List.take_left']
 rfl
inductive mW:Ym
 | i {H:Hp} {Q:VK} {E:XK} {a:Addr} {n:Nat} {y:Y0} (h1:H a=Yi ((dE (n+1) y).map V.int)) (h2:n<=8) (q:∀D H',H D=none->Y0x=Yi ((dE n λi=>- y i).map V.int)->Y1->Y1g):mW Y27 H Q E
section
def aIx(F:Yc "factors_of" "factors_of" aEd)(T:Yf):dP P w K mg base cY 1 f fd ["rates"] mW:=by
 refine F.oky aJq YfK;obtain @⟨H,Q,E,a,n,y,B,O,q⟩:=h;refine Yg;intro I A d s N _;refine Y6h _ (Y7B ["rate"] [] (eC (oX (xD K) (Y02) rS (rQ (BO vU aI)))) (BO vU (Y02)));refine Y08 Y6;refine slL (ys:=(dE n y).map V.int) B (ZW n y) λD1 H1 J u p=>Y1l D1 u (YbX ((dE n y).map V.int) (λi z _=>z=.int (- y i)) (by rw[aA,cS];exact Oo) u (λi z H2 Q2 e m G=>?_) (λD ys H2 L j m l g=>?_))
 ·have C:i<n:=by have:=(aC.mp e).1;rw[aA,cS]at this;exact this
  rw[iC C]at e;cases e;exact Y08 (G _ H2 (Y0e) rfl)
 ·rw[aA,cS]at l;rw[mJ l g]at j;exact q D H2 (p.free L) j (p.trans m)
end
abbrev qC(ss:Aj)(pz:Yw)(c:Ae)(v:Nat):Rat:=pz v*Y1V v
def worz(F W M:Nat)(ss:Aj)(mix:Ak)(pz:Yw)(kz:Rat)(cs:Ak)(c:Ae):Rat:=qG W F (gD ss) (Y8x) pz (λk=>kz*Y5U) (Y2P) c
def VL(F W M:Nat)(ss:Aj)(mix:Ak)(pz:Yw)(kz:Rat)(cs:Ak)(c:Ae):Rat:=kz*CM W ss mix cs c+bZ F λj=>Y5H F W M pz kz (bT c j)
def OO(F W M:Nat)(ss:Aj)(mix:Ak)(pz:Yw)(kz:Rat)(cs:Ak)(c:Ae)(b:Nat):Prop :=
 (b=0/\Y1T/\Y5H F W M pz kz c=VL F W M ss mix pz kz cs c)\/∃v,v<W/\b=1+v/\Y5H F W M pz kz c=bZ W (qC ss pz c)-qC ss pz c v
section
variable{F W M:Nat}{ss:Aj}{mix cs:Ak}{pz:Yw}{kz:Rat}
def SM{c:Ae}(h:M<=c.sum):Y5H F W M pz kz c=mN (oB W (qC ss pz c)):=by
 unfold worz;rw[Nat.sub_eq_zero_of_le h];rfl
def EG{c:Ae}(h:Y1T)(hl:Y30):Y5H F W M pz kz c=mN (oB W (qC ss pz c)++[VL F W M ss mix pz kz cs c]):=by
 obtain⟨n,a⟩:∃n,Y2P=n+1:=Y2q (Y2P-1);have e:VL F W M ss mix pz kz cs c=kz*Y8M*Y0h (Y8K v*Y1V v)+bZ F (λj=>qG W F (gD ss) (Y8x) pz (λk=>kz*Y5U) n (bT c j)):=by
  unfold VL CM;rw[<-Rat.mul_assoc];congr 1;refine bQ λj d=>?_;unfold worz;rw[fX Oo,show M-(c.sum+1)=n by exact Oo]
 rw[e];unfold worz;rw[a,EH]
def TQ{d:Yw}{ns:Af}(hl:Y9C W)(hv:∀(i:Nat) (n:Int),ns[i]?=Y7i->(n:Rat)=bZ W d-d i){m:Int}(hm:m∈ns)(hle:∀a∈ns,m<=a):(m:Rat)=mN (oB W d):=by
 have h:=YL (U:=1) Dd hl (λi n h=>by rw[hv i n h,Rat.one_mul]) hm hle;rw[Rat.one_mul]at h;exact h
def FR{c:Ae}{v:Nat}(w1:1<=W)(hl:Y30)(hv:v<W)(e:bZ W (qC ss pz c)-qC ss pz c v=mN (oB W (qC ss pz c)))(h:Y1T->¬VL F W M ss mix pz kz cs c<mN (oB W (qC ss pz c))) :
  OO F W M ss mix pz kz cs c (1+v)/\Y5H F W M pz kz c=mN (oB W (qC ss pz c)):=by
 have a:Y5H F W M pz kz c=mN (oB W (qC ss pz c)):=by
  by_cases q:Y1T
  ·rw[EG q hl,FA (MV w1 _),if_neg (h q)]
  ·exact SM Oo
 exact⟨.inr (Y3E v hv (by rw[a,e])),a⟩
def aCx{c:Ae}(w1:1<=W)(hl:Y30)(hc:Y1T)(h:VL F W M ss mix pz kz cs c<mN (oB W (qC ss pz c))):OO F W M ss mix pz kz cs c 0/\Y5H F W M pz kz c=VL F W M ss mix pz kz cs c:=by
 have a:Y5H F W M pz kz c=VL F W M ss mix pz kz cs c:=by rw[EG hc hl,FA (MV w1 _),Y3K]
 exact⟨.inl ⟨rfl,hc,a⟩,a⟩
end
structure FcZ(W:Nat)(us:Ae)(cu:Nat)(fns:Af)(cf:Int)(pz:Yw)(kz:Rat):Prop where
 fl:fns.length=W
 ul:Y2T W
 fac:∀(i:Nat) (f:Int) (u:Nat),fns[i]?=Y6w->Y5X=Yp->(f:Rat)*(u:Rat)=pz i/\f.natAbs<Y0P
 cfu:(cf:Rat)*(cu:Rat)=kz
 cz:cf.natAbs<Y0P
 uz:∀u∈us,u<Y0y
 cuz:cu<Y0y
inductive xB (C:Addr):Ym
 | i {H:Hp} {Q:VK} {E:XK} {x fa:Addr} {cf:Int} {fns:Af} {F W M Ns Nm Np Nc B:Nat} {ss:Aj} {mix ps cs:Ak} {us:Ae} {cu:Nat} {pz:Yw} {kz:Rat} (h1:AB H x C F W M ss mix cs us cu) (h2:H fa=Yi (fns.map V.int)) (h3:kX F W M ss mix ps cs Ns Nm Np Nc B) (h4:FcZ W us cu fns cf pz kz) (h5:(Y0i).length<=400) (k:∀a bp m kvs best H',Y1->H' a=Yj [.ref bp,Y5L]->H' bp=Y1c->VI kvs Y0i best->(∀c∈rise F M,OO F W M ss mix pz kz cs c (Y0o))->(m:Rat)=Y7Y F W M pz kz->Y0E a):xB C [Y24,.ref fa,.int cf] H Q E
def EW{F:Nat}(M:Nat)(hF:1<=F):Y0i[0]?=some (Ya):=by
 unfold rise;rw[List.range_succ_eq_map,List.flatMap_cons,DM F hF];rfl
section
def aIJ(F:Yc "best_places" "best_places" aEo)(T:Yf)(FQ73:Y00 "weights_at" a33 (GR c.Weighing))(FQ50:Y2w "ones_more" a34 fY):dP P w K mg base cY 3 f fd a23 (xB c.Weighing):=by
 refine F.oky OA λe H Q E h=>?_;obtain @⟨H,Q,E,x,fa,cf,fns,F,W,M,Ns,Nm,Np,Nc,B,d,mix,ps,cs,us,cu,pz,kz,wg,hfa,I,G,r4,k⟩:=h;refine Yg;intro cdv A outer s N _;have f1:=I.f1;have f4:=I.f4;have w1:=I.w1;have w4:=I.w4;have hB:=I.b;have O:=T.w_Weighing;have nsp:0<Ns^M:=Yfj (by have:=I.pos;rw[z,Nat.mul_zero]at this;exact Y5W)
 refine⟨_,(aH (Y0J OA.nd nJ)
  (aH (Y7r 4 OA.nd nJ)
  (aH (gL PassesOwn.never rfl (VS rfl T.b_reversed (Y1L Y1P)) (Yan 5 OA.nd) (aH (Y7r 6 OA.nd (Y7R ["factor","one"] ["factor","one"] [] (Ybt 1 (Y3w FQ73 5)) (Y2G dI 0 1)))
  (aH (iD (i:=7) (dS.o ["due","dues"] [6]) OA.nd rfl rfl (eC (aD 6)) YbN (λ_ _ _ _=>cC lH (YcZ (aCh K rfl) (by rfl) 1) (Y02)))
  (aH (jA N.u1 Y0B (aD 5) (Y4Y aI (sX PySem.F.plainAttrs_list PySem.F.slot_list_index PySem.F.type_list_index aBT (aD 7) (Y1L (iV (RW K rfl) (by rfl) T.b_min Kk (Y4b 7))))))
  (aH (jA N.u1 Y1i (aD 5) (iV (RW K rfl) (by rfl) T.b_min Kk (Y4b 7)))
  (aR (iE (eB (YF N.u1) (aD 5) (Y1P) (by with_unfolding_all rfl)) (aH (cK (i:=8) OA.nd (Y4Y (Y7v 2 (gU N.u1 (Y1P) (aD 5))) (iV (NX rfl) (by rfl) T.b_sum Kk (Y1L (Y7B ["more","worth_of"] [4] (eC (Y0F FQ50 5)) (Y7X N.u1 Y02))))))
  (aR (iE (Y1x vK 8 (gU N.u1 (Y1i) (aD 5))) (aH (jA N.u1 Y0B (aD 5) (Yg1 (.int 0)))
  (aR (jA N.u1 Y1i (aD 5) (aD 8)))) fA))) fA)))))))
  (Y6g Y0B (gU N.u1 (Y1i) (Y4u Y1P aI)))))),?_⟩
 refine Yu;intro κ υ;intro X ο;refine Ys;intro κ υ;have s1:=Y6G [] ο;have e1:(upd H X (.dT [])) X=Y0c []:=bP;generalize upd H X (.dT [])=H1 at s1 e1 ⊢;intro wp L;refine Ys;intro κ υ;have s2:=Y6G [] L;have e2:(upd H1 wp (.dT [])) wp=Y0c []:=bP;generalize upd H1 wp (.dT [])=H2 at s2 e2 ⊢;have S:wp≠X:=λz=>by rw[z,e1]at L;cases L
 have Z:H wp=none:=s1.free L;have ρ:=s1.trans s2;obtain⟨ul,dx,fl,ra,ua,wa,ca,tas,ckv,a0,a1,a2,a3,a4,a5,⟨e,a6,ξ⟩,a7,a8,a9,a10,a11⟩:=id wg;have lvs:e.length=(Y0i).length:=by rw[ξ.len,aA]
 refine Y1W (by simp) (ρ _ _ a0) a1;refine Y11 ra e (gE.of (ρ _ _ a6)) ?_;refine RC (xs:=e) (λi σ H'=>Ex6 λ(o5 o6 o7 o8:Am) (τ kw:List (List fT × V))=>An6 (σ=[Y3 x,Y3 fa,Y9 cf,Y3 X,Y3 wp,o5,o6,o7,o8]) (Y1) (H' X=Y0c τ) (H' wp=Y0c kw) (DP τ ((rise F M).drop (Ya8 i)) (λc v=>∃b:Nat,v=.int (b:Int)/\OO F W M d mix pz kz cs c b)) (DP kw ((rise F M).drop (Ya8 i)) (λc v=>∃n:Int,v=Y5K/\(n:Rat)=worz F W M d mix pz kz cs c)))
  ⟨_,_,_,_,[],[],rfl,ρ,s2 _ _ e1,e2,⟨(λc l=>by rw[Nat.sub_zero,lvs,List.drop_length]at l;cases l),Y0H⟩,⟨(λc l=>by rw[Nat.sub_zero,lvs,List.drop_length]at l;cases l),Y0H⟩⟩ (Y9r) ?_ ?_
 ·obtain⟨_,_,_,_,_,_,_,S',_⟩:=q;exact gE.of (S' _ _ a6)
 ·rintro i y σ H3 hi hy ⟨o5,o6,o7,o8,τ,kw,rfl,S3,U,ι,α,β⟩;refine Ybk;intro κ υ;obtain⟨cc,l,rc0⟩:=fK ξ hy;have φ:=aE l;have D:=(gH f1).mp φ;have lkb:=α.len;have lkw:=β.len;rw[List.length_drop]at lkb lkw;refine Y4q;refine GR.i (wg.same S3) (rc0.same S3) φ Oo λD1 ns H4 R hD1 e4 ln hns=>Y1U fa D1 _ _ (R _ _ (S3 _ _ hfa)) e4 ?_;refine kM (λj z _=>∃n,z=Y5K/\(n:Rat)=qC d pz cc j) (Yaz) (by rw[aA,G.fl];exact Oo) (R _ _ (S3 _ _ hfa)) e4 (by rw[aA,aA,G.fl,ln]) (λj u v H' Q' hu δ s' k'=>?_) (λD2 zs H5 hD2 e5 s5 hz5 hr5=>?_)
  ·rw[aF]at hu δ;obtain⟨fj,hfj,rfl⟩:=eL.mp hu;obtain⟨nj,hnj,rfl⟩:=eL.mp δ;have lj:=(aC.mp hfj).1;have hjW:j<W:=by rw[<-G.fl];exact lj
   obtain⟨uj,θ⟩:∃u,us[j]?=Yp:=Y4T (by rw[G.ul];exact hjW);obtain⟨g1,g2⟩:=G.fac j fj uj hfj θ;have g3:=hns j nj uj hnj θ;have g4:=CV (I.qn hjW D.2) nsp g3;refine⟨_,rfl,_,rfl,_,_,rfl,rfl,kU g2 (aJ g4 (aEG (G.uz uj (aE θ)) Dd)),k' _ H' Y0e Y6⟩;rw[Rat.intCast_mul,g3];show(fj:Rat)*(gD d j cc*(uj:Rat))=pz j*gD d j cc;rw[<-g1];grind
  obtain⟨ds,rfl,hds⟩:=nG (P:=λj n=>(n:Rat)=qC d pz cc j) hr5;refine Ys;intro κ υ;have ld:ds.length=W:=by rw[aA,aA,G.fl]at hz5;exact hz5
  have sd:=JA ld hds;refine Y50 _ D2 (Y7x e5) (fI (λj z _=>∃n,z=Y5K/\(n:Rat)=bZ W (qC d pz cc)-qC d pz cc j) (Yaz) (by rw[aA];exact Oo) e5 (λj v H' Q' δ s' k'=>?_) (λD3 zs H6 μ e6 s6 hz6 hr6=>?_))
  ·rw[aF]at δ;obtain⟨dj,hdj,rfl⟩:=eL.mp δ;refine Y7 (rsI (gE.of (s' _ _ e5)) ?_);refine Y9e _ rfl _ _ rfl (k' _ H' Y0e Y6);rw[Rat.intCast_sub,sd,hds j dj hdj]
  obtain⟨zs,rfl,hzs⟩:=nG (P:=λj n=>(n:Rat)=bZ W (qC d pz cc)-qC d pz cc j) hr6;refine Ys;intro κ υ;have lz:zs.length=W:=by rw[aA,aA]at hz6;exact Oo
  have S6:aU H H6:=((S3.trans R).trans s5).trans s6;have e6b:=s6 _ _ (s5 _ _ (R _ _ U));have e6w:=s6 _ _ (s5 _ _ (R _ _ ι));obtain⟨ac,rfl,J⟩:=iJ rc0;refine⟨_,rfl,VJ e6,_,rfl,?_⟩;refine rmnl (gE.of e6) Oo λm hm ω=>?_;obtain⟨j,ν,hj2⟩:=ZO hm;refine aIY e6 ν hj2 Oo ⟨_,_,rfl,rfl,_,rfl,_,rfl,?_⟩;have em:=TQ lz hzs hm ω;have ej:bZ W (qC d pz cc)-qC d pz cc j=mN (oB W (qC d pz cc)):=by rw[<-hzs j m ν,em]
  have aa:j<W:=by rw[<-lz];exact(aC.mp ν).1
  refine Y5t e6b cc (by rw[fO];exact S6 _ _ J) Oo (λH7 e7b b7=>Y3J);intro κ υ;have nbD:D3≠X:=λz=>by rw[z]at μ;rw[s5 _ _ (R _ _ U)]at μ;cases μ
  have e7:=b7.at nbD e6;have e7w:=b7.at S e6w;have S7:aU H H7:=aU.thru ο S6 b7;refine Y6;refine rmnl (gE.of e7) Oo λχ hm' hle'=>?_;have emm:χ=m:=Int.le_antisymm (hle' m hm) (ω χ hm');subst emm;refine Y06;refine Y5t e7w cc (by rw[fO];exact S7 _ _ J) Oo (λH8 ζ b8=>?_);have e8b:=b8.at (Ne.symm S) e7b;have S8:aU H H8:=aU.thru Z S7 b8;have C:=S8 _ _ J;have a:(rise F M).drop (Ya8 (i+1))=cc::(rise F M).drop (Ya8 i):=by
   have hk:Y0i[Ya8 1-i]?=some cc:=l;obtain⟨l1,l2⟩:=aC.mp hk;have:Ya8 (i+1)=Ya8 1-i:=Oo;rw[this,List.drop_eq_getElem_cons l1,l2,show e.length-1-i+1=e.length-i by exact Oo]
  refine Y08 (Y4i O (by simp) (S8 _ _ a0) a5);refine rind (dgI (cc:=cc) (S8 _ _ a10) C) Y6;by_cases hlt:cc.sum<M
  ·have hah:cc∈ahd F M:=gC.mpr ⟨φ,cN hlt⟩;obtain⟨m2,hm2,em2⟩:=a11.yes cc hah;rw[hm2];refine CT rfl (Yu);intro κ υ;refine Y08 (Y4i O (by simp) (S8 _ _ a0) a5);refine Y7 (Y5u (S8 _ _ a10) cc (by rw[fO];exact C) hm2 ?_);have m2z:=CV (show Qn _ (B*4) (CM W d mix cs cc)by have:=(IJ I hlt).q;rwa [dB]at this) I.pos em2;refine Y3p _ _ G.cz (aJ m2z (aEG G.cuz (aL (show B*4<=4*WB by exact Oo) vP))) Y6;refine fY.i (wE C) Oo λD4 ms H9 hD4 e9 r9 s9=>Y1l D4 e9 ?_;have lms:ms.length=cc.length:=by rw[r9.len,aA,aA,aT]
   refine fI (λq z _=>∃n,z=Y5K/\(n:Rat)=worz F W M d mix pz kz cs (bT cc q)) (Yaz) Oo e9 (λq v H' Q' δ s' k'=>?_) (λD5 ws H10 hD5 e10 η hz10 hr10=>?_)
   ·obtain⟨c2,hc2,rc2⟩:=fK (g:=λc=>uZ c) r9 δ;have hq:q<cc.length:=by have:=(aC.mp δ).1;exact Oo
    rw[aF,bL hq]at hc2;cases hc2;obtain⟨a2,rfl,ha2⟩:=iJ (rc2.same s');have bs:=fX (c:=cc) (j:=q) hq;have hin:Y4m (bT cc q):=(gH f1).mpr (Y2q (by rw[pI];exact D.1));have hbe:=uA l hin Oo;rw[show e.length-1-i+1=e.length-i by exact Oo]at hbe;obtain⟨v2,hv2,n2,rfl,en2⟩:=β.yes _ hbe;refine Y08 (NV (s' _ _ (s9 _ _ ζ)) (c:=ci (bT cc q)) (by rw[fO];exact ha2) (v:=.int n2) ?_ ?_)
    ·rw[iF,Y2c ?_]
     ·exact hv2
     ·have:=Y3h z;rw[this]at bs;exact Oo
    ·exact k' _ H' Y0e (Y04 n2 en2)
   obtain⟨ws,rfl,hws⟩:=nG (P:=λq n=>(n:Rat)=worz F W M d mix pz kz cs (bT cc q)) hr10;have lws:Yd4 F:=by rw[aA]at hz10;exact Oo
   refine rsI (gE.of e10) ?_;have sw:=JA lws hws;refine Y6A _ _;have eon:((cf*m2+ws.sum:Int):Rat)=VL F W M d mix pz kz cs cc:=by
    rw[Rat.intCast_add,Rat.intCast_mul,sw,em2];have:=G.cfu;unfold VL;grind
   have S10:=(S8.trans s9).trans η;have p:=η _ _ (s9 _ _ ζ);have γ:=η _ _ (s9 _ _ e8b);have r:=S10 _ _ J;refine Y2J (NV p (c:=ci cc) (by rw[fO];exact r) (v:=.int χ) (by rw[iF,Yo]) ?_);refine Y3O _ _ _ ?_;have ψ:(cf*m2+ws.sum<χ)↔VL F W M d mix pz kz cs cc<mN (oB W (qC d pz cc)):=by
    rw[<-eon,<-em];exact⟨λh=>by exact_mod_cast h,λh=>by exact_mod_cast h⟩
   refine tH (λhl=>?_) (λhl=>?_)
   ·obtain⟨B1,B2⟩:=aCx w1 D.1 hlt (ψ.mp hl);refine Y06;have l1:=Y6r τ cc (.int (1+(j:Int)));have l2:=Y6r kw cc (.int χ);refine Y5t γ cc (by rw[fO];exact r) (aL l1 Oo) (λH11 e11b b11=>?_);have S11:aU H H11:=aU.thru ο S10 b11;refine Y4q;refine Y5t (b11.at S p) cc (by rw[fO];exact S11 _ _ J) (aL l2 Oo) (λH12 e12w b12=>⟨_,_,_,_,_,_,rfl,aU.thru Z S11 b12,b12.at (Ne.symm S) e11b,e12w,?_,?_⟩)
    ·rw[a];exact α.put2 (Y04 0 B1)
    ·rw[a];exact β.put2 (Y7 (by rw[B2];exact eon))
   ·obtain⟨B1,B2⟩:=FR (mix:=mix) (cs:=cs) (M:=M) (kz:=kz) w1 D.1 aa ej λ_ h=>hl (ψ.mpr h);refine⟨_,_,_,_,_,_,rfl,S10,γ,p,?_,?_⟩
    ·rw[a];exact α.put ⟨1+j,by push_cast;rfl,B1⟩
    ·rw[a];exact β.put (Y7 (by rw[B2];exact em))
  ·have hno:cc ∉ ahd F M:=λz=>hlt (of_decide_eq_true (gC.mp z).2);rw[a11.no cc hno];refine tF rfl ?_;obtain⟨B1,B2⟩:=FR (mix:=mix) (cs:=cs) (M:=M) (kz:=kz) w1 D.1 aa ej (YbS h hlt);refine⟨_,_,_,_,_,_,rfl,S8,e8b,ζ,?_,?_⟩
   ·rw[a];exact α.put ⟨1+j,by push_cast;rfl,B1⟩
   ·rw[a];exact β.put (Y7 (by rw[B2];exact em))
 ·rintro σ H3 ⟨o5,o6,o7,o8,τ,kw,rfl,S3,U,ι,α,β⟩;rw[Nat.sub_self,List.drop_zero]at α β;have ε:=EW M f1;generalize ec0:List.replicate F 0=c0 at ε;obtain⟨y0,hy0,ry0⟩:=kI ξ ε;obtain⟨_,hv0,m0,rfl,em0⟩:=β.yes c0 (aE ε);obtain⟨q0,rfl,hq0⟩:=iJ ry0;refine Y2J (Y4i O (by simp) (S3 _ _ a0) a1);refine vN (S3 _ _ a6) (Y4N hy0) (Y5u ι c0 (by rw[fO];exact S3 _ _ hq0) hv0 ?_);refine pJ (by show 2<=64;decide) λq4 H4 hq4 e4 R=>?_;have lb:=α.len;have ch:∀cc:Ae,∃b:Nat,Y4m cc->gF τ (Y2z cc)=Y9 (b:Int)/\OO F W M d mix pz kz cs cc b:=λcc=>by
   by_cases q:Y4m cc
   ·obtain⟨v,h1,b,rfl,h2⟩:=α.yes cc q;exact⟨b,λ_=>⟨h1,h2⟩⟩
   ·exact⟨0,λz=>absurd z q⟩
  exact k q4 X m0 τ (λcc=>Classical.choose (ch cc)) H4 (S3.trans R) e4 (R _ _ U) (Y2q (λcc l=>(Classical.choose_spec (ch cc) l).1)) (λcc l=>(Classical.choose_spec (ch cc) l).2) (by rw[ec0];exact em0)
end
section
variable{F W M:Nat}{best:Y0w}
def TB{ss:Aj}{mix cs:Ak}{pz:Yw}{kz:Rat}(hF:1<=F)(hb:∀c∈rise F M,OO F W M ss mix pz kz cs c (Y0o)):∀e∈rul F W M best,aAC F W (gD ss) (Y8x) pz (λk=>kz*Y5U) (worz F W M ss mix pz kz cs) e:=by
 intro e j;obtain⟨c,i,rfl⟩:=aM.mp j;have d:=(jB hF).subset i;rcases hb c d with⟨a,l,g⟩ | ⟨v,h,a,g⟩
 ·refine .inl (Y0j (by rw[pG,if_pos a]) (λv h=>?_))
  ·show Y0l (Y6m W)=0;rw[sH Oo,Y2l]
  ·show Y5H F W M pz kz c=kz*Y8M*Y0h (Y8K v*Y1V v)+_;rw[g];unfold VL CM;rw[<-Rat.mul_assoc];rfl
 ·refine .inr ⟨v,h,by rw[pG,Y2l],?_,λu m n=>?_,?_⟩
  ·show Y0l (Y6m W)=1;rw[sH Oo,if_pos a.symm]
  ·show cB (Y6m W) (1+u)=0;rw[sH Oo,Y2l]
  ·show Y5H F W M pz kz c=_;rw[g];rfl
end
theorem EM{α:Type}(k:Rat)(f:Y2X):∀l:List α,YbH (k*f a)=k*Y42
 | []=>by show(0:Rat)=k*0;grind
 | a::l=>by
  show k*f a+cV l (λa=>k*f a)=k*(f a+cV l f);rw[EM k f l];grind
def FM(F W:Nat)(es:Yh)(q:Nat->Y01)(mix cs:Yw)(k:Rat):fS F W es q mix (λi=>k*cs i)=k*fS F W es q mix cs:=by
 unfold fS;rw[<-eE];refine Y7U ?_;have:gA F es (q w) (λi=>k*cs i)=k*gA F es (q w) cs:=by
  unfold gA;rw[<-EM];congr 1
  funext e
  grind
 rw[this];grind
def LM{F W M:Nat}{best:Y0w}{ss:Aj}{mix cs:Ak}{pz:Yw}{kz:Rat}(hF:1<=F)(f4:F<=4)(m5:M<=5)(on:∀c,Y0o=0->Y1T)(hb:∀c∈rise F M,OO F W M ss mix pz kz cs c (Y0o))
  (h0:∀w,w<W->Y4R w Ya=1) (h1:∀w,w<W->∀c:Ae,Y30->Y1V w=Y2Y (Y4R w Y5b)) :
  Y7Y F W M pz kz=kz*Y4w F W Y1p+Y0a (pz w*(1-Y3z Y1p w w)):=by
 have h:=XS (XF (W:=W) hF f4 m5 on) (worz F W M ss mix pz kz cs) h0 h1 (TB hF hb);rw[h];unfold yJ;rw[FM]
def BL{F W M:Nat}{es:Yh}{ss:Aj}{mix cs:Ak}{pz:Yw}{kz:Rat}(R:Y1h)(hM:∀e∈es,e.1.sum<=M)(on:∀e∈es,Y4C->e.1.sum<M)
  (h0:∀w,w<W->Y4R w Ya=1) (h1:∀w,w<W->∀c:Ae,Y30->Y1V w=Y2Y (Y4R w Y5b)) (hs:∀e∈es,(∀v,0<=cB e.2 v)/\Y0h (Y0l e.2)=1-Y2) :
  Y7Y F W M pz kz<=kz*Y4w F W es+Y0a (pz w*(1-Y3z es w w)):=by
 have h:=XR (mix:=Y8x) (ps:=pz) (cs:=λk=>kz*Y5U) R hM on h0 h1 hs;unfold yJ at h;rw[FM]at h;have e:Y7Y F W M pz kz=qG W F (gD ss) (Y8x) pz (λk=>kz*Y5U) M (Ya):=by
  unfold worz;rw[show M-(List.replicate F 0).sum=M by simp]
 rw[e];exact h
section
variable{F W M:Nat}{best:Y0w}
def QT{c d:Ae}(h:∀j,j<F->d≠bT c j):Y5c=0:=by
 unfold iI;rw[Y4c 0 (λj a=>Y2c (h j a z.symm)),gZ]
def yO{α:Type}{P:Y1k Yv}(h0:P [])(h1:∀l a,P l->P (l++[a]))(l:Yv):P l:=by
 have:∀l:List α,P l.reverse:=λl=>by
  induction l with
  | nil=>exact h0
  | cons a l ih=>rw[List.reverse_cons];exact h1 _ _ ih
 rw[<-List.reverse_reverse l];exact this _
def FH{keep:Y8c}{d:Ae}(hd:d≠Ya)(hn:∀c,keep c->Y0o=0->∀j,j<F->d≠bT c j)(l:Ab):(∀c∈l,keep c)->Y7Q W d=0:=by
 refine yO (P:=λl=>(∀c∈l,keep c)->Y7Q W d=0) (λ_=>?_) (λl a i g=>?_) l
 ·rw[List.map_nil,lO,if_neg hd]
 ·rw[bI];show Y2f (Y9n W++[Y97 W a])=0;rw[gJ,i λc h=>g c (cM _ h),pG];by_cases e:best a=0
  ·have:=QT (F:=F) (c:=a) (d:=d) (hn a (g a (by simp)) e);show 0+Y7Q W a*_*Y2g a=0;rw[this];grind
  ·rw[Y0L];grind
def UL{kb:Y1Q Ae}(l:Ab):(∀c∈l,¬kb c=true->c≠Ya/\∀b,kb b=true->best b=0->∀j,j<F->c≠bT b j)->∀d,Y7Q W d=Y2f ((l.filter kb).map (Y5T)):=by
 refine yO (P:=λl=>(∀c∈l,¬kb c=true->c≠Ya/\∀b,kb b=true->best b=0->∀j,j<F->c≠bT b j)->∀d,Y7Q W d=Y2f ((l.filter kb).map (Y5T))) (λ_ d=>rfl) (λl a g m d=>?_) l;have g:=g λc h=>m c (cM _ h);rw[bI,List.filter_append,bI];show Y2f (Y9n W++[Y97 W a])=_;rw[gJ];by_cases e:kb a=true
 ·have i:[a].filter kb=[a]:=by simp[e]
  rw[i];show _=Y2f ((l.filter kb).map (Y5T)++[Y97 W a]);rw[gJ,g,g]
 ·have i:[a].filter kb=[]:=by simp[e]
  rw[i,List.map_nil,List.append_nil,g];obtain⟨n,p⟩:=m a (by simp) e;have r:Y7Q W a=0:=by
   rw[g];exact FH (keep:=λc=>kb c=true) n p _ λc h=>(gC.mp h).2
  show _+Y7Q W a*_*_=_;rw[r];grind
def DE{l1 l2:Ab}(h:l1.Sublist l2):l2.Nodup->Yg0 (c∈l1)=l1:=by
 induction h with
 | slnil=>intro _;rfl
 | @cons l1 l2 a h ih =>
  intro d;obtain⟨e,g⟩:=List.nodup_cons.mp d;rw[List.filter_cons,if_neg (by simpa using Y5G (h.subset z)),ih g]
 | @cons_cons l1 l2 a h ih =>
  intro d;obtain⟨e,g⟩:=List.nodup_cons.mp d;rw[List.filter_cons,if_pos (by simp)];congr 1;have:Yg0 (c∈a::l1)=Yg0 (c∈l1):=by
   refine List.filter_congr λx i=>?_;have:x≠a:=λz=>e (z ▸ i);simp[this]
  rw[this,ih g]
def HP{k:Nat}{d:Ae}(hk:k<=M)(h:d∈Y5D F k):Y89 d:=by
 unfold rA;exact List.mem_flatMap.mpr ⟨k,bR.mpr Oo,h⟩
def UK(hF:1<=F)(f4:F<=4)(m5:M<=5)(d:Ae):Y2f ((rise F M).map (Y5T))=Y2f Y1p:=by
 have h:=UL (F:=F) (W:=W) (best:=best) (kb:=Yfi (Y89 c)) (Y0i) (λc i g=>?_) d
 ·rw[h,DE (jB hF) (sF F f4 M m5)];rfl
 ·have a:=(gH hF).mp i;refine⟨λz=>g (cN ?_),λb l n j m z=>g (cN ?_)⟩
  ·rw[z];exact HP (k:=0) (Y0H) (by unfold lvl;simp)
  ·obtain⟨k,p,e⟩:=List.mem_flatMap.mp (of_decide_eq_true l);have hd:c∈Y5D F (k+1):=(mC hF).mpr ⟨b,e,n,j,m,z⟩;have r:c.sum=k+1:=(iU ((mD hF _).subset hd)).2;exact HP (k:=k+1) (by have:=a.2;exact Oo) hd
end
section
variable{F W M:Nat}{best:Y0w}
def ZN{l:Yh}{d:Ae}(m:Yh):(∀e∈m,Y2g e.1=0)->Y2f (l++m)=Y2f l:=by
 refine yO (P:=λm=>(∀e∈m,Y2g e.1=0)->Y2f (l++m)=Y2f l) (λ_=>by rw[List.append_nil]) (λm a g h=>?_) m;rw[<-List.append_assoc,gJ,g λe c=>h e (cM _ c),h a (by simp)];grind
def aB6{A B:Ab}{c:Ae}(hB:∀b∈c::B,b.length=F/\Y4s b.sum):Y0N ((A++c::B).map (Y5T)) c=Y0N (A.map (Y5T)) c:=by
 rw[bI];refine ZN _ λe d=>?_;obtain⟨b,a,rfl⟩:=aM.mp d;obtain⟨h,i⟩:=hB b a;show iI F b c=0;refine QT λj g z=>?_;have:=Yg4 b j;rw[<-z]at this;exact Oo
def ZZ(l:Ab)(ss:Aj)(mix cs:Ak):Y4w F W (Y9n W)=Y3i l ((if Y0o=0 then 1 else 0)*(Y7Q W c*CM W ss mix cs c)):=by
 unfold fS gA;generalize aW F (l.map (oS W best))=a
 induction l with
 | nil =>
  show Y0a (Y5V*0)=0;rw[Y4c 0 (λw _=>by grind),gZ]
 | cons c l ih =>
  rw[cZ,<-ih,bE];have e:∀w,Y5V*Y7z (Y97 W c::Y9n W) (Y3N e.1.sum*(a e.1*Y4R w e.1*Y2))=(s0 (Y97 W c)*a c*Y8M)*(Y5V*Y1V w)+Y5V*Y7z (Y9n W) (Y3N e.1.sum*(a e.1*Y4R w e.1*Y2)):=λw=>by
   rw[cZ];show Y5V*(Y8M*(a c*Y1V w*s0 (Y97 W c))+_)=_;grind
  rw[Y7U (e w),jW,eE,pG];unfold CM;grind
def XB(l:Ab)(q:Y01){w:Nat}(hw:w<W):fZ F (Y9n W) q w=Y3i l ((if Y0o=1+w then 1 else 0)*(Y7Q W c*q c)):=by
 unfold fZ;generalize aW F (l.map (oS W best))=a
 induction l with
 | nil=>rfl
 | cons c l ih =>
  rw[bE,cZ,cZ,ih];show a c*q c*Y5f (Y6m W)+_=_;rw[sH Oo];by_cases e:Y0o=1+w
  ·rw[if_pos e.symm,Y1w];grind
  ·rw[Y2c (e z.symm),Y0L];grind
end
section
variable{F W M:Nat}{best:Y0w}
theorem EO(kb:Y1Q Ae)(f:Y01):∀l:Ab,(∀c∈l,¬kb c=true->f c=0)->Y42=cV (l.filter kb) f
 | [],_=>rfl
 | c::l,h=>by
  have ih:=EO kb f l λd hd=>h d (aY _ hd);rw[cZ,List.filter_cons];by_cases e:kb c=true
  ·rw[if_pos e,cZ,ih]
  ·rw[if_neg e,h c (aS ..) e,ih];grind
def ZM(hF:1<=F){c:Ae}(hc:Y4m c)(hn:c ∉ Y7b):Y0N Y1p c=0:=by
 have a:=(gH hF).mp hc;refine FH (keep:=λb=>Y89 b) (λz=>hn ?_) (λb d h j g z=>hn ?_) (Y7b) λb d=>d
 ·rw[z];exact HP (k:=0) (Y0H) (by unfold lvl;simp)
 ·obtain⟨k,i,e⟩:=List.mem_flatMap.mp d;have hd:c∈Y5D F (k+1):=(mC hF).mpr ⟨b,e,h,j,g,z⟩;have l:c.sum=k+1:=(iU ((mD hF _).subset hd)).2;exact HP (k:=k+1) (by have:=a.2;exact Oo) hd
def IZ(hF:1<=F)(f4:F<=4)(m5:M<=5)(g:Y01)(x:Y01):Y3i Y0i (x c*(Y0N ((rise F M).map (Y5T)) c*g c))=Y3i Y7b (x c*(Y0N Y1p c*g c)):=by
 rw[cT (g:=λc=>x c*(Y0N Y1p c*g c)) λc _=>by rw[UK hF f4 m5]];rw[EO (Yfi (Y89 c)) _ (Y0i) λc a d=>by
  rw[ZM hF a λz=>d (cN z)];grind,DE (jB hF) (sF F f4 M m5)]
def UQ(hF:1<=F)(f4:F<=4)(m5:M<=5)(ss:Aj)(mix cs:Ak):Y4w F W Y1p=Y3i Y0i ((if Y0o=0 then 1 else 0)*(Y0N ((rise F M).map (Y5T)) c*CM W ss mix cs c)):=by
 rw[IZ (W:=W) hF f4 m5 (CM W ss mix cs) λc=>if Y0o=0 then 1 else 0];exact ZZ (Y7b) ss mix cs
def SZ(hF:1<=F)(f4:F<=4)(m5:M<=5)(q:Y01){w:Nat}(hw:w<W):fZ F (Y1p) q w=Y3i Y0i ((if Y0o=1+w then 1 else 0)*(Y0N ((rise F M).map (Y5T)) c*q c)):=by
 rw[IZ (W:=W) hF f4 m5 q λc=>if Y0o=1+w then 1 else 0];exact XB (Y7b) q hw
end
def sR(kvs:Yt)(d:Ae):Int:=match Y2I d with
 | some (.int n)=>n
 | _=>0
structure AmD(kvs:Yt)(fl:Y01)(B:Nat):Prop where
 ok:∀d:Ae,((∃n:Int,Y2I d=Y9 n)\/Y2I d=none)/\(sR kvs d:Rat)=fl d/\(sR kvs d).natAbs<=2^B
 len:Y6N (B+1)
def ZJ(kvs:Yt)(d e:Ae)(n:Int):sR (Y8O d Y5K) e=if e=d then n else sR kvs e:=by
 unfold sR;rw[iF];by_cases h:e=d
 ·subst h;rw[Yo,Yo]
 ·rw[Y3H (h (Y3h q)),Y3L]
def AmD.put{kvs:Yt}{fl:Y01}{B:Nat}(h:AmD kvs fl B)(d:Ae){a:Int}(ha:a.natAbs<=2^B):AmD (Y8O d (.int (sR kvs d+a))) (λe=>fl e+(a:Rat)*(if d=e then 1 else 0)) (B+1):=by
 refine⟨Yaj,by have:=h.len;have:=Y6r kvs d (.int (sR kvs d+a));exact Oo⟩;obtain⟨g,i,l⟩:=h.ok e;obtain⟨_,c,j⟩:=h.ok d;rw[ZJ,Nat.pow_succ];refine Y74 ?_
 ·rw[iF];by_cases q:e=d
  ·rw[if_pos (by rw[q])];exact .inl Y1N
  ·rw[Y2c (q (Y3h z))];exact g
 ·by_cases q:e=d
  ·subst q;rw[Yo,Yo,Rat.intCast_add,c];grind
  ·rw[Y2D,Y2c (q z.symm),i];grind
 ·by_cases q:e=d
  ·rw[Y5A];exact Oo
  ·rw[Y2D];exact Oo
def AmD.more{kvs:Yt}{fl gl:Y01}{B C:Nat}(h:AmD kvs fl B)(e:∀d,fl d=gl d)(hB:B<=C):AmD kvs gl C :=
 ⟨λd=>⟨(h.ok d).1,by rw[(h.ok d).2.1,e],aL ((h.ok d).2.2) (aK Dd hB)⟩,by have:=h.len;exact Oo⟩
def UE(j:Nat)(c d:Ae):Rat:=Yap j (if Y5b=d then 1 else 0)
def UD(j:Nat)(c d:Ae):UE (j+1) c d=UE j c d+if bT c j=d then 1 else 0:=by
 unfold UE bZ;rw[List.range_succ,bI,tQ];congr 1;show(if bT c j=d then(1:Rat) else 0)+0=_;grind
def ZG(F:Nat)(c d:Ae):UE F c d=Y5c:=rfl
def aBi{F M:Nat}(f4:F<=4)(m5:M<=5){i j:Nat}{c b:Ae}(hi:Y0i[i]?=Y1u)(hj:Y0i[j]?=some b)(h:i<=j):Y4s b.sum:=by
 refine Y76 ?_;have l:=uA hj (aE hi) Oo;obtain⟨t,a⟩:=gK.mp l;rw[List.getElem?_drop]at a;have d:=sF F f4 M m5;obtain⟨m,g⟩:=aC.mp hi;obtain⟨n,e⟩:=Y82;have:=(List.getElem_inj d).mp (g.trans e.symm);exact Oo
def UJ{F W M:Nat}{best:Y0w}(hF:1<=F)(f4:F<=4)(m5:M<=5){i:Nat}{c:Ae}(hi:Y0i[i]?=Y1u):Y0N (((rise F M).take i).map (Y5T)) c=Y0N ((rise F M).map (Y5T)) c:=by
 obtain⟨g,j⟩:=aC.mp hi;have e:Y0i=(rise F M).take i++c::(rise F M).drop (i+1):=by
  rw[<-j,<-List.drop_eq_getElem_cons g,List.take_append_drop]
 have h:=aB6 (F:=F) (W:=W) (best:=best) (A:=(rise F M).take i) (B:=(rise F M).drop (i+1)) (c:=c) λb d=>?_
 ·rw[<-e]at h;exact h.symm
 ·rw[<-j,<-List.drop_eq_getElem_cons g]at d;obtain⟨t,a⟩:=gK.mp d;rw[List.getElem?_drop]at a;exact⟨((gH hF).mp (aE a)).1,aBi f4 m5 hi a Oo⟩
abbrev aEm:Stmt:=(top 63)
def IB:Ye ["weighing","best_at","amount_of","cost","right","counts","amount","place","more"] a09 aEm:={}
def aCg{W v:Nat}{rg:Y0}{n:Int}(hv:v<W):((dE W rg).map V.int).set v (V.int n)=(dE W λz=>if z=v then n else rg z).map V.int:=by
 refine Y8d;by_cases hi:i<W
 ·rw[iC hi];by_cases e:i=v
  ·subst e;rw[List.getElem?_set_self (by rw[aA,cS];exact hi),Yo]
  ·rw[YbW (e z.symm),iC hi,Y0L]
 ·rw[bS (by rw[List.length_set,aA,cS];exact Oo),bS (by rw[aA,cS];exact Oo)]
structure aJG(F W M:Nat)(ss:Aj)(mix cs:Ak)(us:Ae)(cu:Nat)(best:Y0w):Prop where
 f1:1<=F
 f4:F<=4
 m5:M<=5
 w4:W<=4
 r4:(Y0i).length<=400
 bw:∀c∈rise F M,Y0o<=W
 on:∀c,Y0o=0->Y1T
 zc:∀c∈ahd F M,∀n:Int,(n:Rat)=CM W ss mix cs c*(cu:Rat)->n.natAbs<Y0P
 zw:∀(v:Nat) (u:Nat),us[v]?=Yp->∀c∈rise F M,∀n:Int,(n:Rat)=Y1V v*(u:Rat)->n.natAbs<Y0P
inductive wY (C:Addr):Ym
 | i {H:Hp} {Q:VK} {E:XK} {x bp:Addr} {kb:Yt} {F W M:Nat} {ss:Aj} {mix cs:Ak} {us:Ae} {cu:Nat} {best:Y0w} (h1:AB H x C F W M ss mix cs us cu) (h2:H bp=Y9b) (h3:VI kb Y0i best) (h4:aJG F W M ss mix cs us cu best) (k:∀a D (m:Int) (ns:Y0) H',Y1->H' a=Yj [Y5L,.ref D]->Y0x=Yi ((dE W ns).map V.int)->(m:Rat)=(cu:Rat)*Y4w F W Y1p->(∀(v u:Nat),us[v]?=Yp->(ns v:Rat)=(u:Rat)*(1-Y3z Y1p v v))->Y0E a):wY C [Y24,.ref bp] H Q E
section
def aIH(F:Yc "column_by" "column_by" aEm)(T:Yf)(FQ50:Y2w "ones_more" a34 fY):dP P w K mg base cY 3 f fd a09 (wY c.Weighing):=by
 refine Y13 IB;obtain @⟨H,Q,E,x,bp,kb,F,W,M,ss,mix,cs,χ,cu,m,wg,hbp,B,I,k⟩:=h;refine Yg;intro cdv A outer s δ _;have O:=T.w_Weighing;have f1:=I.f1;have f4:=I.f4;have m5:=I.m5;have w4:=I.w4;have r4:=I.r4;obtain⟨ul,dx,fl,ra,ua,wa,ca,tas,ckv,τ,a1,a2,a3,a4,a5,⟨vs,a6,ξ⟩,a7,a8,a9,a10,a11⟩:=id wg;have lvs:Y4K ((Y0i).length):=by rw[ξ.len,aA]
 have hc0:=EW M f1;obtain⟨y0,hy0,ry0⟩:=kI ξ hc0;obtain⟨q0,rfl,hq0⟩:=iJ ry0;refine⟨_,(aH (Y10 IB.nd (IV δ.u1 (Y4u Y1P aI) aI))
  (aH (Y0J IB.nd aI)
  (aH (iD (i:=4) (dS.o ["unit"] []) IB.nd rfl rfl Y6V YbN (λ_ _ _ _=>aI))
  (aH (gL PassesOwn.never rfl (Y6V) (Yan 5 IB.nd) (aH (Y9U IB.nd (GF δ.u1 (Y07) (aD 5) aI))
  (aH (cK (i:=7) IB.nd (Y7X δ.u1 (aD 5)))
  (aR (iE (Y1x nP 7 (Yg1 (.int 0))) (aH (Y0J IB.nd (cC fQ (aD 3) (Y7v 6 (gU δ.u1 (Y1P) (aD 5)))))
  (aR (Y6Y (eC (Y0F FQ50 5)) 8 IB.nd (jA δ.u1 Y07 (aD 8) (Y4Y (GF δ.u1 (Y07) (aD 8) aI) (aD 6)))))) (aR (GB (Y4Y (Y48 4 (Y2L lH 7)) (Y7v 6 (gU δ.u1 (Y4u Y1P (Y2L lH 7)) (aD 5)))) (GE (Y1i) (Y2L lH 7) xE))))))))
  (Y6g Y0B (Y7R ["unit","one"] ["unit","one"] [] (lF false false rfl T.b_zip (Y2j Y1P Y1i)) (Y2G lH 0 1))))))),?_⟩
 refine Yu;intro η n_;intro G κ;have s1:=Y6G [] κ;have e1:(upd H G (.dT [])) G=Y0c []:=bP;generalize upd H G (.dT [])=H1 at s1 e1 ⊢;refine Y1W (by simp) (s1 _ _ τ) a1;refine vN (s1 _ _ a6) (Y4N hy0) (aGq (c:=ci (Ya)) (by rw[fO];exact s1 _ _ hq0) e1 λH2 e2 b2=>?_);refine Ys;intro η n_;have S2:aU H H2:=aU.thru κ s1 b2;refine Y1W (by simp) (S2 _ _ τ) a2;refine Y1l ua (S2 _ _ a7) (YbX (χ.map FO) (λ_ y _=>y=.int 0) (by rw[aA];exact Oo) (S2 _ _ a7) (λi y H' Q' hy s' k'=>k' _ H' Y0e rfl) (λrt ys H3 ι e3 s3 hl hr3=>?_));refine Ys;intro η n_;rw[aA,ul]at hl;rw[mJ (g:=Y2V) hl hr3]at e3;have S3:=S2.trans s3;refine Y1W (by simp) (S3 _ _ τ) a1;refine Y1l ra (S3 _ _ a6) ?_;have nra:rt≠G:=λz=>by rw[z,e2]at ι;cases ι
 have rtH:H rt=none:=S2.free ι
 let flA:Y01:=aW F ((rise F M).map (oS W m))
 refine kW (xs:=vs) (λi σ H'=>Ex7 λ(o5 o6 o7 ζ:Am) (p:List (List fT × V)) (ct:Int) (X:Nat->Int)=>An7 (σ=[Y3 x,Y3 bp,Y3 G,Y9 ct,Y3 rt,o5,o6,o7,ζ]) (Y1) (H' G=Y0c p) (H' rt=Yi ((dE W X).map V.int)) (AmD p (aW F (((rise F M).take i).map (oS W m))) (4*i)) ((ct:Rat)=(cu:Rat)*Y3i ((rise F M).take i) ((if m c=0 then 1 else 0)*(flA c*CM W ss mix cs c))) (∀(v u:Nat),χ[v]?=Yp->(X v:Rat)=(u:Rat)*Y3i ((rise F M).take i) ((if m c=1+v then 1 else 0)*(flA c*Y1V v))))
  ⟨_,_,_,_,_,0,Y2V,rfl,S3,s3 _ _ e2,e3,?_,?_,?_⟩ (Y9r) ?_ ?_
 ·refine⟨Y6k,by show 1<=_;exact Oo⟩;have R:gF [(Y2z Ya,V.int 1)] (Y2z d)=if d=Ya then Y9 1 else none:=by
   rw[show[(kT (ci (List.replicate F 0)),V.int 1)]=kA [] (kT (ci (List.replicate F 0))) (.int 1)from rfl,iF];by_cases e:d=Ya
   ·rw[if_pos (by rw[e]),Y1w]
   ·rw[Y2c (e (Y3h z)),Y0L];rfl
  unfold sR;rw[R,List.take_zero,List.map_nil,lO];by_cases e:d=Ya
  ·rw[Y1w,Y1w];exact Y04 (Y1Y 1 rfl) Dd
  ·rw[Y0L,Y0L];exact Y04 Ybv Dd
 ·rw[List.take_zero,jI];grind
 ·intro v u _;rw[List.take_zero,jI];grind
 ·obtain⟨_,_,_,_,_,_,_,_,S',_⟩:=q;exact gE.of (S' _ _ a6)
 ·rintro i y σ H4 hy ⟨o5,o6,o7,ζ,p,ct,X,rfl,S4,γ,J,β,ec,υ⟩;refine Ybk;intro η n_;obtain⟨cc,hc,rc0⟩:=fK ξ hy;obtain⟨ac,rfl,U⟩:=iJ rc0;have N:=aE hc;have μ:=(gH f1).mp N;obtain⟨hi,ei⟩:=aC.mp hc;have L:(rise F M).take (i+1)=(rise F M).take i++[cc]:=by rw[List.take_succ,hc];rfl
  have fla:(sR p cc:Rat)=flA cc:=by rw[(β.ok cc).2.1,UJ f1 f4 m5 hc]
  have b5:i<400:=Oo;have gz:(sR p cc).natAbs<Y0P:=Y8T ((β.ok cc).2.2) Oo;refine⟨_,rfl,G,rfl,?_,_,rfl,_,dgI (cc:=cc) γ (S4 _ _ U),?_⟩
  ·exact Y2E p (.inl γ)
  have eg:(gF p (kT (ci cc))).getD (.int 0)=.int (sR p cc):=by
   unfold sR;rcases(β.ok cc).1 with⟨n,e⟩ | e <;> rw[e] <;> rfl
  refine Ys;intro η n_;rw[eg];refine Y08 (Y5u (S4 _ _ hbp) cc (by rw[fO];exact S4 _ _ U) (B.1 cc N) ?_);refine Y5J _ _ ?_;by_cases hb0:m cc=0
  ·rw[show decide (V.int ((m cc:Nat):Int)=V.int 0)=true by rw[xS,hb0];rfl];refine sO Yu;intro η n_;have ψ:cc∈ahd F M:=gC.mpr ⟨N,cN (I.on cc hb0)⟩;obtain⟨m2,hm2,em2⟩:=a11.yes cc ψ;refine Y2J (Y4i O (by simp) (S4 _ _ τ) a5);refine Y7 (Y5u (S4 _ _ a10) cc (by rw[fO];exact S4 _ _ U) hm2 ?_);refine Y3p _ _ gz (I.zc cc ψ m2 em2) (Y0O _ _ rfl Y6);refine fY.i (wE (S4 _ _ U)) (by have:=μ.1;exact Oo) λD ms H5 hD ο r5 φ=>?_;have lms:ms.length=F:=by rw[r5.len,aA,aA,aT];exact μ.1
   have nDa:D≠G:=λz=>by rw[z,γ]at hD;cases hD
   refine Y1l D ο (Yda ms (λj σ H'=>Ex2 λ(ζ:Am) (C:List (List fT × V))=>An4 (σ=[Y3 x,Y3 bp,Y3 G,Y9 (ct+sR p cc*m2),Y3 rt,Y3 ac,Y9 (sR p cc),Y9 ((m cc:Nat):Int),ζ]) (aX G H5 H') (H' G=Y0c C) (AmD C (λd=>Y2f (((rise F M).take i).map (oS W m))+(sR p cc:Rat)*UE j cc d) (4*i+j))) (Y6H _ p ((Y0e).but) (φ _ _ γ) (β.more (λd=>by unfold UE;rw[gQ];grind) Oo)) Yfw ?_)
   ·obtain⟨_,_,_,b',_⟩:=q;exact Yeq nDa ο
   ·rintro j y2 σ H6 hy2 ⟨ζ,C,rfl,b6,ν,A6⟩;refine Y5y;intro η;obtain⟨c2,aa,rc2⟩:=fK (g:=λc=>uZ c) r5 hy2;have hj:j<cc.length:=by have:=(aC.mp hy2).1;have:=μ.1;exact Oo
    rw[aF,bL hj]at aa;cases aa;obtain⟨a2,rfl,ρ⟩:=iJ rc2;have n2:a2≠G:=λz=>by rw[z,φ _ _ γ]at ρ;cases ρ
    have α:=b6.at n2 ρ;refine⟨_,rfl,G,rfl,Y2E C (.inl ν),_,rfl,_,dgI (cc:=bT cc j) ν α,?_⟩;have eg2:(gF C (kT (ci (bT cc j)))).getD (.int 0)=.int (sR C (bT cc j)):=by
     unfold sR;rcases(A6.ok (bT cc j)).1 with⟨n,e⟩ | e <;> rw[e] <;> rfl
    rw[eg2];refine Y9e _ rfl _ _ rfl Y06;have l6:=A6.len;refine Y5t ν (bT cc j) (by rw[fO];exact α) Oo (λH7 e7 b7=>Y6H _ _ (b6.trans b7) e7 ?_);exact(A6.put (bT cc j) (a:=sR p cc) (aL (β.ok cc).2.2 (aK Dd Oo))).more (λd=>by rw[UD];grind) Oo
   ·rintro σ H6 ⟨ζ,C,rfl,b6,ν,A6⟩;rw[lms]at A6;refine⟨_,_,_,_,C,_,X,rfl,aU.thru κ (S4.trans φ) b6,ν,b6.at nra (φ _ _ J),A6.more (Y6k) Oo,?_,λv u R=>?_⟩
    ·rw[L,bI];show _=Y2f (((rise F M).take i).map (oS W m)++[oS W m cc]);rw[gJ,pG,if_pos hb0,ZG];show _=_+Y0N (((rise F M).take i).map (oS W m)) cc*1*Y2g cc;rw[<-(β.ok cc).2.1];grind
    ·rw[L,oP,Rat.intCast_add,Rat.intCast_mul,ec,em2,fla]
     try dsimp only
     rw[if_pos hb0];grind
    ·rw[L,oP,υ v u R]
     try dsimp only
     rw[Y2l];grind
  ·rw[show decide (V.int ((m cc:Nat):Int)=V.int 0)=false by rw[xS,beq_eq_false_iff_ne];exact Oo];refine rB (Y23);intro η;obtain⟨v,R⟩:∃v,m cc=1+v:=Y2q (m cc-1);have S:v<W:=by have:=I.bw cc N;exact Oo
   have ev:((m cc:Nat):Int)-1=(v:Int):=Oo;have ε:χ[v]?=some χ[v]:=aB Oo;have lta:=a9.1;have htv:tas[v]?=some tas[v]:=aB Oo;obtain⟨kw,hkw,Dw⟩:=a9.2 v _ _ htv ε;obtain⟨m3,hm3,ω⟩:=Dw.yes cc N;refine Y7w _ _ _ _ ?_;show rIx _ (V.ref rt) (V.int (((m cc:Nat):Int)-1)) H4 _;rw[ev];refine vN J (dR (iC S)) (Y08 (Y4i O (by simp) (S4 _ _ τ) a3));refine Y9e _ rfl _ _ rfl ?_;show rIx _ (V.ref wa) (V.int (((m cc:Nat):Int)-1)) H4 _;rw[ev];refine vN (S4 _ _ a8) (dR (by rw[aF,htv];rfl)) (Y7 (Y5u (S4 _ _ hkw) cc (by rw[fO];exact S4 _ _ U) hm3 ?_));refine Y3p _ _ gz (I.zw v _ ε cc N m3 ω) (Y0O _ _ rfl (Y7w _ _ _ _ ?_));show PU (V.ref rt) (V.int (((m cc:Nat):Int)-1)) _ H4 _;rw[ev];refine stG (j:=v) J (NN (by rw[aA,cS];exact S)) λH5 ο b5'=>?_;have nar:G≠rt:=λz=>nra z.symm;refine⟨_,_,_,_,p,ct,λz=>if z=v then X v+sR p cc*m3 else X z,rfl,aU.thru rtH S4 b5',b5'.at nar γ,?_,β.more (Y6k) Oo,?_,λz u θ=>?_⟩
   ·rw[ο];exact congrArg (λl=>some (HO.lst l)) (aCg S)
   ·rw[L,bI];show _=Y2f (((rise F M).take i).map (oS W m)++[oS W m cc]);rw[gJ,pG,if_neg hb0];grind
   ·rw[L,oP,ec]
    try dsimp only
    rw[if_neg hb0];grind
   ·rw[L,oP]
    try dsimp only
    by_cases ez:z=v
    ·subst ez;rw[Yo,if_pos R,Rat.intCast_add,Rat.intCast_mul,υ z u θ,ω,fla];rw[ε]at θ;cases θ;grind
    ·rw[if_neg ez,Y2l,υ z u θ];grind
 ·rintro σ H4 ⟨o5,o6,o7,ζ,p,ct,X,rfl,S4,γ,J,β,ec,υ⟩;rw[lvs,dL]at ec υ;refine Y08 (Y4i O (by simp) (S4 _ _ τ) a2);refine Y7 (Y1U ua rt _ _ (S4 _ _ a7) J (kM (b1:=false) (b2:=false) (xs:=χ.map FO) (ys:=(dE W X).map V.int) (λj z _=>z=.int ((χ.getD j 0:Nat)-X j)) (Y9g) (by rw[aA];exact Oo) (S4 _ _ a7) J (by rw[aA,aA,cS];exact ul) (λj u v H' Q' hu R s' k'=>?_) (λD zs H5 hD ο φ θ hr5=>?_)))
  ·have hj:j<W:=by have:=(aC.mp hu).1;rw[aA]at this;exact Oo
   rw[iC hj]at R;cases R;rw[aF,lM 0 Oo]at hu;cases hu;exact Y7w _ _ _ _ (k' _ H' Y0e rfl)
  ·rw[aA,ul]at θ;rw[mJ θ hr5]at ο;refine pJ (by show 2<=64;decide) λq6 H6 hq6 ν s6=>k q6 D ct _ H6 ((S4.trans φ).trans s6) ν (s6 _ _ ο) ?_ λv u R=>?_
   ·rw[UQ f1 f4 m5];exact ec
   ·have S:v<W:=by have:=(aC.mp R).1;exact Oo
    rw[SZ f1 f4 m5 (gD ss v) S,pT R,Rat.intCast_sub,υ v u R];have hu:(((u:Nat):Int):Rat)=((u:Nat):Rat):=by push_cast;rfl
    rw[hu];generalize cV (rise F M) (λc=>(if m c=1+v then(1:Rat) else 0)*(aW F ((rise F M).map (oS W m)) c*gD ss v c))=Z;show(u:Rat)-(u:Rat)*Z=(u:Rat)*(1-Z);grind
end
structure nV(F W M:Nat)(es:Yh):Prop where
 rl:Y1h
 hM:∀e∈es,e.1.sum<=M
 on:∀e∈es,Y4C->e.1.sum<M
 hs:∀e∈es,(∀v,0<=cB e.2 v)/\Y0h (Y0l e.2)=1-Y2
structure VF(F W:Nat)(q:Nat->Y01):Prop where
 h0:∀w,w<W->q w (Ya)=1
 h1:∀w,w<W->∀c:Ae,Y30->q w c=Y2Y (q w (Y5b))
 nn:∀w,w<W->∀c,0<=q w c
section
variable{F W M:Nat}{es:Yh}{q:Nat->Y01}
def nV.said(A:nV F W M es)(Q:VF F W q){w:Nat}(hw:w<W):0<=Y5Q F w w/\Y5Q F w w<=1:=by
 have nn:∀e∈es,0<=Y4 e.1*q w e.1:=λe _=>cA (A.rl.nnf e.1) (Q.nn w hw e.1);refine Y0p (rX λe a=>cA (nn e a) ((A.hs e a).1 _));rw[<-Yge (Q.h0 w hw) w hw];refine qL λe a=>Rat.mul_le_mul_of_nonneg_left ?_ (nn e a);obtain⟨c,d⟩:=A.hs e a;rw[<-d];have g:=tP (λv=>Y0l e.2) hw;have h:0<=Y4k W (if i=w then 0 else cB e.2 (1+i)):=rW λi _=>by
  split
  ·exact Rat.le_refl
  ·exact c _
 grind
def lQ(M:Nat)(cs:Yw)(k:Nat):Rat:=Y4k (M-k) (cs (k+i))
def WI{cs:Yw}(h:∀k,0<=cs k)(k:Nat):0<=Y3v k:=rW λi _=>h _
def MI{cs:Yw}{k:Nat}(h:k<M):Y3v k=cs k+Y3v (k+1):=by
 unfold lQ;obtain⟨n,a⟩:∃n,M-k=n+1:=Y2q (M-k-1);rw[a,show M-(k+1)=n by exact Oo];clear a h
 induction n with
 | zero=>rw[dW,gQ,gQ,Nat.add_zero];grind
 | succ n ih=>rw[dW,ih,dW n,show k+1+n=k+(n+1)by exact Oo];grind
def nV.spent(A:nV F W M es)(Q:VF F W q){cs:Yw}(hc:∀k,0<=cs k){w:Nat}(hw:w<W):0<=gA F es (q w) cs/\gA F es (q w) cs<=Y3v 0:=by
 have nn:∀e∈es,0<=Y4 e.1*q w e.1:=λe _=>cA (A.rl.nnf e.1) (Q.nn w hw e.1);refine Y0p (rX λe a=>cA (hc _) (cA (nn e a) (A.rl.nn e a)));have h:=A.rl.all λc=>q w c*Y3v c.sum;rw[show(List.replicate F 0).sum=0 by simp,Q.h0 w hw,Rat.one_mul]at h;have j:(Y0u (Y4 e.1*Y2*Y2Y (q w (Y15 e.1)*Y3v ((Y15 e.1).sum))))=Y0u (Y4 e.1*q w e.1*Y2*Y3v (e.1.sum+1)):=cT λe a=>by
  have l:=A.rl.len e a;have:(Y2Y (q w (Y15 e.1)*Y3v ((Y15 e.1).sum)))=Y3v (e.1.sum+1)*q w e.1:=by
   rw[Q.h1 w hw e.1 l,<-eE];exact bQ λf n=>by rw[fX Oo,Rat.mul_comm]
  rw[this];grind
 rw[j]at h;have le:Y0u (cs e.1.sum*(Y4 e.1*q w e.1*Y2)+Y4 e.1*q w e.1*Y2*Y3v (e.1.sum+1))<=Y8Z es (Y4 x.1*(q w x.1*Y3v x.1.sum)):=qL λe a=>by
  have d:=WI (M:=M) hc e.1.sum;have g:=nn e a;have m:Y2<=1:=by
   have:=(A.hs e a).2;have p:0<=Y4k W (cB e.2 (1+i)):=rW λi _=>(A.hs e a).1 _;grind
  by_cases z:Y2=0
  ·rw[z];have:=cA g d;grind
  ·have t:=MI (cs:=cs) (A.on e a z);have r:=Rat.mul_le_mul_of_nonneg_left m (cA g d);have:cs e.1.sum*(Y4 e.1*q w e.1*Y2)+Y4 e.1*q w e.1*Y2*Y3v (e.1.sum+1)=Y4 e.1*q w e.1*Y3v e.1.sum*Y2:=by rw[t];grind
   rw[this];grind
 rw[jX]at le;unfold gA;grind
def nV.cost(A:nV F W M es)(Q:VF F W q){mix cs:Yw}(hc:∀k,0<=cs k)(hm:∀w,0<=mix w)(h1:bZ W mix=1):0<=fS F W es q mix cs/\fS F W es q mix cs<=Y3v 0:=by
 unfold fS;refine Y0p (rW λw a=>cA (hm w) (A.spent Q hc a).1);have:Y3v 0=Y0a (Y3v 0*mix w):=by rw[eE,h1,Rat.mul_one]
 rw[this];refine lJ λw a=>?_;rw[Rat.mul_comm];exact Rat.mul_le_mul_of_nonneg_right (A.spent Q hc a).2 (hm w)
def PP{best:Y0w}(hF:1<=F)(f4:F<=4)(m5:M<=5)(on:∀c,Y0o=0->Y1T)(bw:∀c∈rise F M,Y0o<=W):nV F W M (Y1p):=by
 have mem:∀e∈rul F W M best,∃c∈rA F M best,e=oS W best c:=λe a=>by
  obtain⟨c,d,rfl⟩:=aM.mp a;exact Y1t c d
 refine⟨XF hF f4 m5 on,Y6a,λe a h=>?_,Y6a⟩
 ·obtain⟨c,d,rfl⟩:=mem e a;exact(AU hF d).2
 ·obtain⟨c,d,rfl⟩:=mem e a;rw[pG]at h;exact on c (cH λz=>h (if_neg z))
 ·obtain⟨c,d,rfl⟩:=mem e a;have b:=bw c ((jB hF).subset d);rw[pG];refine Y0p (λv=>?_)
  ·show 0<=cB (Y6m W) v;by_cases j:v<1+W
   ·rw[sH j];split <;> decide
   ·unfold cB;rw[aV,bS (by unfold zY;rw[aA,aT];exact Oo)];show 0<=rv (0,1);rw[lY];exact Rat.le_refl
  ·show Y0h (Y0l (Y6m W))=_;rw[bQ (g:=λv=>if 1+v=Y0o then 1 else 0) λv j=>sH Oo];by_cases z:Y0o=0
   ·rw[if_pos z,Y4c 0 (λv j=>Y2l),gZ];grind
   ·rw[if_neg z,qJ (v:=Y0o-1) Oo λi l m=>Y2l,Y5x];grind
end
abbrev aEn:Stmt:=(top 79)
def NZ:Ye ["weighing","master","rates","factors","way","factor","best","column"] ["weighing","master"] aEn:={}
structure VE(F W M:Nat)(ss:Aj)(mix ps cs:Ak)(Ns Nm Np Nc B:Nat)(us:Ae)(cu X:Nat):Prop where
 wo:kX F W M ss mix ps cs Ns Nm Np Nc B
 r4:(Y0i).length<=400
 ul:Y2T W
 uz:∀u∈us,0<u/\u<Y0y
 cuz:cu<Y0y
 q:VF F W (gD ss)
 cz:∀es,nV F W M es->∀n:Int,(n:Rat)=(cu:Rat)*Y4w F W es->n.natAbs<2^X
 zc:∀c∈ahd F M,∀n:Int,(n:Rat)=CM W ss mix cs c*(cu:Rat)->n.natAbs<Y0P
 zw:∀(v:Nat) (u:Nat),us[v]?=Yp->∀c∈rise F M,∀n:Int,(n:Rat)=Y1V v*(u:Rat)->n.natAbs<Y0P
structure OJ(F W M:Nat)(ss:Aj)(mix cs:Ak)(us:Ae)(cu:Nat)(best:Y0w)(a:Y0)(k:Int):Prop where
 bw:∀c∈rise F M,Y0o<=W
 on:∀c,Y0o=0->Y1T
 cost:(k:Rat)=(cu:Rat)*Y4w F W Y1p
 col:∀v u:Nat,us[v]?=Yp->(a v:Rat)=(u:Rat)*(1-Y3z Y1p v v)
 one:a W=1
def SG(H:Hp)(F W M:Nat)(ss:Aj)(mix cs:Ak)(us:Ae)(cu:Nat)(a:Y0)(t:oF):Prop :=
 (YeF t.word "room" /\ t.cost=0/\∃w,w<W/\a=Md.unit w)\/(YeF t.word "lack" /\ t.cost=0/\a=Md.unit W) \/
 (YeF t.word "rule" /\ ∃bp kb best,t.v=.ref bp/\H bp=Y9b/\VI kb Y0i best/\OJ F W M ss mix cs us cu best a t.cost)
abbrev jK(W:Nat)(R:Md.fG)(ts:Y0z):Y0:=Md.rat (W+1) R (xZ ts)
def pzY(W:Nat)(R:Md.fG)(ts:Y0z)(us:Ae)(w:Nat):Rat:=-(jK W R ts w:Rat)*((us.getD w 0:Nat):Rat)
def TZ(ts:Y0z)(p:Int)(cu:Nat):Rat:=((if gI ts=true then 0 else p:Int):Rat)*(cu:Rat)
inductive qW (G A:Addr):Ym
 | i {H:Hp} {Q:VK} {E:XK} {x m sa:Addr} {F W M:Nat} {ss:Aj} {mix ps cs:Ak} {Ns Nm Np Nc B:Nat} {us:Ae} {cu X:Nat} {b:Y0} {R:Md.fG} {p:Int} {uv:Al} {ts:Y0z} {C:Nat} (h1:AB H x G F W M ss mix cs us cu) (h2:uI H A m sa (W+1) b R p uv) (h3:kY H uv ts) (h4:VE F W M ss mix ps cs Ns Nm Np Nc B us cu X) (h5:aAu (W+1) b R p C) (h6:∀t∈ts,t.cost.natAbs<Y0P) (h7:∀k,k<W+1->(jK W R ts k).natAbs<Y0P) (q0:∀H',Y1->(∀w,w<W->jK W R ts w<=0)->((jK W R ts W:Int):Rat)<=Y7Y F W M (pzY W R ts us) (TZ ts p cu)->Ybz) (q1:∀e ca ta a t H',Y1->H' e=Yj [.ref ca,.ref ta]->H' ca=Yi ((dE (W+1) a).map V.int)->xX H' (.ref ta) t->SG H' F W M ss mix cs us cu a t->YcQ "lack" -> p*(if Y1e=true then 0 else t.cost)<Md.dot (W+1) (jK W R ts) a->Y0E e):qW G A [Y24,.ref m] H Q E
def aAa(n:Nat)(y:Y0):IF ((dE (n+1) y).map V.int) (-1)=Y9 (y n):=by
 have a:QQ ((dE (n+1) y).map V.int).length (-1)=Y7i:=by
  rw[aA,cS];unfold QQ;rw[Y2l,Y5x];congr 1;exact Oo
 unfold IF;rw[a];exact iC Oo
def aCz{W cu:Nat}{y ns:Y0}{us:Ae}{mz cf k:Int}{cq:Rat}{sd:Yw}(ul:Y2T W)(hm:(mz:Rat)=(cf:Rat)*(cu:Rat)*cq+Y0a ((-(y w:Rat)*((us.getD w 0:Nat):Rat))*(1-sd w)))(hk:(k:Rat)=(cu:Rat)*cq)(hn:∀v u:Nat,us[v]?=Yp->(ns v:Rat)=(u:Rat)*(1-sd v))(hlt:mz<y W):cf*k<Md.dot (W+1) y λr=>if r<W then ns r else 1:=by
 have d:(Y0a ((-(y w:Rat)*((us.getD w 0:Nat):Rat))*(1-sd w)))=-1*Y0a ((y w*ns w:Int):Rat):=by
  rw[<-eE];refine bQ λw a=>?_;have c:us[w]?=some (us[w]'Oo):=aB Oo;rw[iB c,Rat.intCast_mul,hn w _ c];grind
 rw[d,<-Md.rJ]at hm;have e:mz=cf*k-Md.dX W (λw=>y w*ns w):=by
  have:(mz:Rat)=((cf*k-Md.dX W (λw=>y w*ns w):Int):Rat):=by
   rw[hm,Rat.intCast_sub,Rat.intCast_mul,hk];grind
  exact_mod_cast this
 have h:Md.dot (W+1) y (λr=>if r<W then ns r else 1)=Md.dX W (λw=>y w*ns w)+y W:=by
  unfold Md.dot;rw[Md.dX,Md.eG (g:=λw=>y w*ns w) λw a=>by show _*(if w<W then ns w else 1)=_;rw[if_pos a]];show _+y W*(if W<W then ns W else 1)=_;rw[if_neg (cO _),Int.mul_one]
 exact Oo
def aFK{K:Aa}{ns:Ah}{C m sa:Addr}{H:Hp}{n:Nat}{b:Y0}{R:Md.fG}{p:Int}{uv:Al}{ts:Y0z}{σ:St}{k:VK}(O:Own K C ns)(hn:("parts" : Str)∈ns)(ma:uI H C m sa n b R p uv)(th:kY H uv ts)(n8:n<=8)(hσ:σ[1]?=Y4e m)(hk:∀H',Y1->k (.int (if Y1e=true then 0 else p)) H'):tIf (tB (zJ (lU C) [] E0 (qI (WJ 1) MK))) (tC (.int 0)) (WK K (WJ 1) "parts") σ H k:=by
 refine Y0j _ hσ;refine lU.i ma th n8 λH4 a=>Y6;have h:=hk H4 a;cases eb:Y1e with
 | true =>
  rw[eb]at h;exact sO h
 | false =>
  rw[eb]at h;refine rB ?_;obtain⟨e,c,d,LL⟩:=(ma.same a).ex;exact Y0K hσ (jS O hn d (CL c sa p) h)
section
def aII(F:Yc "better" "better" aEn)(T:Yf)(FQ59:Y36 "rates_of" a20 (mU c.Master))(FQ32:Y00 "factors_of" ["rates"] mW)(FQ48:Y00 "one_among" a35 qQ)(FQ20:Y36 "best_places" a23 (xB c.Weighing))(FQ38:Y00 "lacks" a20 Yez)(FQ22:Y36 "column_by" a09 (wY c.Weighing)):dP P w K mg base cY 4 f fd ["weighing","master"] (qW c.Weighing c.Master):=by
 refine Y13 NZ;obtain @⟨H,Q,E,x,m,χ,F,W,M,ss,mix,ps,cs,Ns,Nm,Np,Nc,B,us,ε,X,b,R,p,uv,d,C,wg,ma,th,I,Z,zt,zr,q0,q1⟩:=h;refine Yg;intro cdv A τ s hr _;have O:=T.w_Master;have w4:=I.wo.w4;refine⟨_,(aH (Y10 NZ.nd (Y0F FQ59 1))
  (aH (Y0J NZ.nd (Y0F FQ32 2))
  (aH (Y6O (GC false rfl T.b_enumerate (Y4b 3)) (nY rfl (eT (Yan 4 NZ.nd) (eT (Yan 5 NZ.nd) lB))) (iE (Y1x vK 5 aI) (Y6g (cR FQ48 (Y9R oE (by rfl) 2) (Y1i)) (dN (bB (Y9Q "room" T.g_ROOM) (Y2j aI lG)))) fA))
  (aH (Y9U NZ.nd (Y3j FQ20 Y02 3 (lP (pX (Y0F FQ38 1)) aI (dQ K (aD 1)))))
  (aH (Y80 (eB aCZ (Y17 6) (Y48 2 (BO vU aI))) lG)
  (aH (cK (i:=7) NZ.nd (Y4a FQ22 0 (Y17 6)))
  (Y6g (Y5o vV 7 (hZ (Y1L aI))) (dN (bB (YeA "rule") (Y8N 7 (Y17 6))))))))))),?_⟩
 refine Yu;intro S κ;refine Y6;refine mU.i ma th Z zt λD1 H1 hD1 e1 s1=>Ys;intro S κ;refine Y6;refine mW.i e1 Oo λD2 H2 hD2 ρ ψ=>Ys;intro S κ;have S2:=s1.trans ψ;refine Y55 _ D2 _ rfl ρ (KI (b:=false) (n:=0) (xs:=(dE W λi=>-jK W R d i).map V.int) (YaD (λ(ξ o5:Am)=>An3 (σ=[Y3 x,Y3 m,Y3 D1,Y3 D2,ξ,o5,none,none]) (aU H2 H') (∀w,w<i->jK W R d w<=0))) (Y3y _ Y0e (λw hw=>Oo)) (λi σ H' p=>?_) ?_ ?_)
 ·obtain⟨_,_,_,s',_⟩:=p;exact s' _ _ ρ
 ·rintro i y pq σ H3 H4 ω ⟨ξ,o5,rfl,G,all⟩ hpq e4 D;have η:i<W:=by have:=(aC.mp ω).1;rw[aA,cS]at this;exact this
  rw[iC η]at ω;cases ω;have S4:=(S2.trans G).trans D;rw[Int.zero_add]at e4;refine⟨pq,[.int (i:Int),.int (-jK W R d i)],rfl,jQ.of e4,rfl,_,_,rfl,_,_,rfl,rfl,Y23⟩;intro S;refine⟨_,rfl,_,_,rfl,rfl,_,rfl,?_⟩;by_cases γ:-jK W R d i<0
  ·rw[show decide (-jK W R d i<0)=true from cN γ];refine sO (Y7 (rlL ((G.trans D) _ _ (ψ _ _ e1)) ?_));rw[aA,cS];refine Y6;refine qQ.i Oo λD5 H5 hD5 J θ=>pJ (by show 3<=64;decide) λD6 H6 hD6 ζ N=>pJ (by show 2<=64;decide) λD7 H7 hD7 ο l=>?_;have J:H5 D5=Yi ((dE (W+1) (Md.unit i)).map V.int):=J;refine q1 D7 D5 D6 (Md.unit i) (Y9v "room" 0 .non) H7 (((S4.trans θ).trans N).trans l) ο ((N.trans l) _ _ J) (Y04 D6 (l _ _ ζ)) (.inl (Y5I rfl i η rfl)) Dd ?_;rw[Md.xP Oo];show p*(if gI d=true then 0 else 0)<_;rw[ite_self,Int.mul_zero];exact Oo
  ·rw[show decide (-jK W R d i<0)=false from cD γ];refine rB (Y11 (Y9 (i:Int)) (Y9 (-jK W R d i)) (G.trans D) (λw hw=>?_));by_cases e:w=i
   ·subst e;exact Oo
   ·exact all w Oo
 ·rintro σ H3 ⟨ξ,o5,rfl,G,all⟩;refine Y3J;intro S κ;rw[aA,cS]at all;have S3:=S2.trans G;refine Y06;refine aFK O (by simp) (ma.same S3) (th.same S3) Oo rfl λH4 D=>?_;have S4:=S3.trans D;generalize hcf:(if gI d=true then 0 else p:Int)=cf;have U:TZ d p ε=(cf:Rat)*(ε:Rat):=by unfold TZ;rw[hcf]
  have czf:cf.natAbs<Y0P:=by
   rw[<-hcf];split
   ·exact Y61
   ·exact Y66 Z.pz Z.c4
  have FZ:FcZ W us ε (dE W λi=>-jK W R d i) cf (pzY W R d us) (TZ d p ε):=by
   refine⟨cS _ _,I.ul,λi f u μ φ=>?_,U.symm,czf,λu φ=>(I.uz u φ).2,I.cuz⟩;have η:i<W:=by have:=(aC.mp μ).1;rw[cS]at this;exact this
   rw[LA η]at μ;cases μ;refine⟨?_,by rw[Int.natAbs_neg];exact zr i Oo⟩;unfold pzY;rw[iB φ,Rat.intCast_neg]
  refine xB.i (wg.same S4) ((G.trans D) _ _ ρ) I.wo FZ I.r4 λbt bp mz kb bs H5 θ J ep B5 hb hm=>Ys;intro S κ;have S5:=S4.trans θ;refine Y0g J;refine Y08 (vN ((G.trans (D.trans θ)) _ _ (ψ _ _ e1)) (aAa W _) ?_);refine Y3O _ _ _ ?_;by_cases hge:jK W R d W<=mz
  ·rw[show decide (jK W R d W<=mz)=true from cN hge];refine sO (Y23);intro S;exact q0 H5 S5 all (by rw[<-hm];exact_mod_cast hge)
  ·rw[show decide (jK W R d W<=mz)=false from cD hge];refine rB (Y91 J);have β:∀c∈rise F M,bs c<=W/\(bs c=0->Y1T):=λc g=>by
    rcases hb c g with⟨h1,h2,_⟩ | ⟨v,h1,h2,_⟩
    ·exact⟨Oo,λ_=>h2⟩
    ·exact⟨Oo,λz=>Oo⟩
   obtain⟨a,j⟩:∃a:Ae->Nat,a=λc=>if Y4m c then bs c else 1:=Y1N
   have ι:∀c∈rise F M,a c=bs c:=λc g=>by rw[j];exact if_pos g
   have bw:∀c∈rise F M,a c<=W:=λc g=>by rw[ι c g];exact(β c g).1
   have υ:∀c,a c=0->Y1T:=λc h=>by
    by_cases g:Y4m c
    ·rw[ι c g]at h;exact(β c g).2 h
    ·rw[j]at h;simp only[if_neg g]at h;exact Oo
   have B6:VI kb Y0i a:=⟨λc g=>by rw[ι c g];exact B5.1 c g,B5.2⟩;have γ:=LM I.wo.f1 I.wo.f4 I.wo.m5 υ (λc g=>by rw[ι c g];exact hb c g) I.q.h0 I.q.h1;rw[<-hm]at γ;refine wY.i (wg.same S5) ep B6 ⟨I.wo.f1,I.wo.f4,I.wo.m5,w4,I.r4,bw,υ,I.zc,I.zw⟩ λct D6 k ns H6 N ζ ν hk α=>Y6;refine Y5Z ζ (zZ (by show 1<=64;decide) λD7 H7 hD7 ο l=>?_);refine NY (l _ _ ν) ο (by rw[aA,cS];show W+1<=1000;exact Oo) λD8 H8 hD8 e8 δ=>Y6;refine Y5Z ((l.trans δ) _ _ ζ) (Y0g ((N.trans (l.trans δ)) _ _ J));refine pJ (by show 3<=64;decide) λD9 H9 hD9 e9 s9=>pJ (by show 2<=64;decide) λDa Ha hDa ea χ=>?_;have L:=s9.trans χ;have ec:(dE W ns).map V.int++[V.int 1]=(dE (W+1) λr=>if r<W then ns r else 1).map V.int:=by
    unfold dE;rw[List.range_succ,bI,bI,bE,List.map_nil,if_neg (cO _)];congr 2;exact fD λr hr=>(if_pos (bR.mp hr)).symm
   rw[ec]at e8;have aa:=aCz (cf:=cf) (y:=jK W R d) I.ul (by rw[γ,U];rfl) hk α Oo;refine q1 Da D8 D9 _ (Y9v "rule" k (.ref bp)) Ha ((S5.trans N).trans ((l.trans δ).trans L)) ea (L _ _ e8) (Y04 D9 (χ _ _ e9)) (.inr (.inr ⟨rfl,bp,kb,a,rfl,((N.trans (l.trans δ)).trans L) _ _ ep,B6,bw,υ,hk,λv u hv=>?_,?_⟩)) (by show (Str.ofString "rule")≠(Str.ofString "lack");decide) ?_
   ·have hvW:v<W:=by have:=(aC.mp hv).1;rw[I.ul]at this;exact this
    rw[if_pos hvW];exact α v u hv
   ·rw[if_neg (cO _)]
   ·show p*(if gI d=true then 0 else k)<_;have:p*(if gI d=true then 0 else k)=cf*k:=by
     rw[<-hcf];split
     ·rw[Int.mul_zero,Int.zero_mul]
     ·rfl
    rw[this];exact aa
end
def uX{ts:Y0z}:Y1e=true ↔ ∃t∈ts,t.word=Str.ofString "lack" := by
 unfold gI;rw[List.any_map];simp[List.any_eq_true]
def aBg{ts:Y0z}{t:oF}{o i:Nat}(ho:o<ts.length)(nl:YcQ "lack")(e:gI (YaH t)=Y1e):xZ (YaH t) i=Md.sc (xZ ts) o (if Y1e=true then 0 else t.cost) i:=by
 unfold xZ Md.sc;rw[e];by_cases h:i=o
 ·subst h;rw[Yo,List.getElem?_set_self ho];cases Y1e
  ·rfl
  ·show(if Y9P "lack"=true then(1:Int) else 0)=0;rw[if_neg (by rw[cD nl];decide)]
 ·rw[Y3L,YbW (h z.symm)]
def TY{ts:Y0z}{t:oF}{o:Nat}(nl:YcQ "lack")(h:gI (YaH t)=true):Y1e=true:=by
 obtain⟨x,a,e⟩:=uX.mp h;rcases List.mem_or_eq_of_mem_set a with g | g
 ·exact uX.mpr ⟨x,g,e⟩
 ·rw[g]at e;exact absurd e nl
structure AC(F W M:Nat)(ss:Aj)(mix ps cs:Ak)(Ns Nm Np Nc B:Nat)(us:Ae)(cu X:Nat)(U e:Nat)(b:Y0):Prop where
 sl:VE F W M ss mix ps cs Ns Nm Np Nc B us cu X
 uU:∀u∈us,u<=U
 u1:1<=U
 bU:∀r,r<W+1->0<=b r/\(b r).natAbs<=U
 bW:b W=1
 Ue:U<=2^e
 sz:6*e+X+20<=4000
structure iP(H:Hp)(F W M:Nat)(ss:Aj)(mix cs:Ak)(us:Ae)(cu:Nat)(b:Y0)(B R:Md.fG)(p:Int)(ts:Y0z):Prop where
 mst:Md.Mst (W+1) b B R p
 len:ts.length=W+1
 fit:∀i t,ts[i]?=Y8a->SG H F W M ss mix cs us cu (B i) t
section
variable{F W M:Nat}{ss:Aj}{mix ps cs:Ak}{Ns Nm Np Nc BB:Nat}{us:Ae}{cu X U e:Nat}{b:Y0}{H H':Hp}{B R:Md.fG}{p:Int}{ts:Y0z}
def SG.to(h:∀bp kb,H bp=Y9b->H' bp=Y9b){a:Y0}{t:oF}(x:SG H F W M ss mix cs us cu a t):SG H' F W M ss mix cs us cu a t:=by
 rcases x with x | x | ⟨d,bp,kb,c,g,i,e⟩
 ·exact .inl x
 ·exact YaZ x
 ·exact .inr (.inr ⟨d,bp,kb,c,g,h _ _ i,e⟩)
def GJ{w r:Nat}:0<=Md.unit w r/\(Md.unit w r).natAbs<=1:=by unfold Md.unit;split <;> decide
def OJ.any(I:VE F W M ss mix ps cs Ns Nm Np Nc BB us cu X){best:Y0w}{a:Y0}{k:Int}(h:OJ F W M ss mix cs us cu best a k):nV F W M (Y1p):=PP I.wo.f1 I.wo.f4 I.wo.m5 h.on h.bw
theorem SG.col(Z:AC F W M ss mix ps cs Ns Nm Np Nc BB us cu X U e b){a:Y0}{t:oF}(h:SG H F W M ss mix cs us cu a t){r:Nat}(hr:r<W+1):0<=a r/\(a r).natAbs<=U:=by
 have u1:=Z.u1;rcases h with⟨_,_,w,y,rfl⟩ | ⟨_,_,rfl⟩ | ⟨_,s,z,d,_,_,_,R⟩
 ·have:=GJ (w:=w) (r:=r);exact Oo
 ·have:=GJ (w:=W) (r:=r);exact Oo
 ·by_cases e:r=W
  ·subst e;rw[R.one];exact Ya7 u1
  ·have hr:r<W:=Oo;have i:us[r]?=some (us[r]'(by rw[Z.sl.ul];exact hr)):=aB _;have c:=R.col r _ i;have j:=Z.uU _ (aE i);obtain⟨s0,p⟩:=(R.any Z.sl).said Z.sl.q hr;generalize us[r]'(by rw[Z.sl.ul];exact hr)=u at c j;have g:(0:Rat)<=(u:Rat):=by exact_mod_cast cP u
   have m:(0:Rat)<=(a r:Rat):=by rw[c];exact cA g (by grind)
   have l:(a r:Rat)<=(u:Rat):=by
    rw[c];have:=Rat.mul_le_mul_of_nonneg_left (a:=1-Y3z (rul F W M d) r r) (b:=1) (by grind) g;grind
   have A:0<=a r:=by exact_mod_cast m
   have n:a r<=(u:Int):=by
    have:(a r:Rat)<=((u:Int):Rat):=by rw[Rat.intCast_natCast];exact l
    exact_mod_cast this
   exact Oo
theorem SG.one{a:Y0}{t:oF}(h:SG H F W M ss mix cs us cu a t):∃r,r<W+1/\0<a r:=by
 rcases h with⟨_,_,w,g,rfl⟩ | ⟨_,_,rfl⟩ | ⟨_,e,d,c,_,_,_,R⟩
 ·exact⟨w,Oo,by unfold Md.unit;rw[Yo];decide⟩
 ·exact⟨W,Oo,by unfold Md.unit;rw[Yo];decide⟩
 ·exact⟨W,Oo,by rw[R.one];decide⟩
theorem SG.cost(I:VE F W M ss mix ps cs Ns Nm Np Nc BB us cu X){a:Y0}{t:oF}(h:SG H F W M ss mix cs us cu a t):t.cost.natAbs<2^X:=by
 rcases h with⟨_,h,_⟩ | ⟨_,h,_⟩ | ⟨_,e,d,c,_,_,_,R⟩
 ·rw[h];exact Y61
 ·rw[h];exact Y61
 ·exact I.cz _ (R.any I) _ R.cost
abbrev PB(W U:Nat):Nat:=Md.fac (W+1)*U^(W+1)
abbrev RB(W U:Nat):Nat:=(W+1)*(PB W U*U)
abbrev ZB(W U X:Nat):Nat:=(W+1)*(2^X*RB W U)
def aI0{n:Nat}(h:n<=5):Md.fac n<=2^7:=by
 have:n=0\/n=1\/n=2\/n=3\/n=4\/n=5:=Oo;rcases this with rfl | rfl | rfl | rfl | rfl | rfl <;> decide
def AC.zb(Z:AC F W M ss mix ps cs Ns Nm Np Nc BB us cu X U e b):ZB W U X<Y0P:=by
 have w4:=Z.sl.wo.w4;have d:U^(W+1)<=2^(5*e):=by
  refine aL (Nat.pow_le_pow_left Z.Ue _) ?_;rw[<-Nat.pow_mul];exact aK Dd (by rw[Nat.mul_comm];exact Y1s Oo)
 have c:PB W U*U<=2^7*2^(5*e)*2^e:=Nat.mul_le_mul (Nat.mul_le_mul (aI0 Oo) d) Z.Ue;have a:ZB W U X<=2^3*(2^X*(2^3*(2^7*2^(5*e)*2^e))):=Nat.mul_le_mul Oo (dF _ (Nat.mul_le_mul Oo c));refine aJ a ?_;rw[<-Nat.pow_add,<-Nat.pow_add,<-Nat.pow_add,<-Nat.pow_add,<-Nat.pow_add];exact YeT (by have:=Z.sz;exact Oo)
def aDb{W U:Nat}(u1:1<=U):PB W U<=RB W U:=aL (Ydm u1) (Y5Y Ycd)
def aG6{W U X:Nat}:2^X*RB W U<=ZB W U X:=Y5Y Ycd
def aAs{W U X:Nat}:RB W U<=ZB W U X:=aL (Y5Y Y61) aG6
def iP.at(S:iP H F W M ss mix cs us cu b B R p ts){i:Nat}(hi:i<W+1):∃t,ts[i]?=Y8a/\SG H F W M ss mix cs us cu (B i) t :=
 Y0K (aB (by rw[S.len];exact hi)) (S.fit i _ (aB _))
theorem iP.size(Z:AC F W M ss mix ps cs Ns Nm Np Nc BB us cu X U e b)(S:iP H F W M ss mix cs us cu b B R p ts):p.natAbs<=PB W U/\∀i,i<W+1->∀k,k<W+1->(R i k).natAbs<=PB W U :=
 S.mst.bs.size (λj a r d=>by
  obtain⟨t,_,c⟩:=S.at a;exact(c.col Z d).2) Z.u1
theorem iP.rho(Z:AC F W M ss mix ps cs Ns Nm Np Nc BB us cu X U e b)(S:iP H F W M ss mix cs us cu b B R p ts){i k:Nat}(hi:i<W+1)(hk:k<W+2):(Y3x (W+1) k).natAbs<=RB W U:=by
 cases k with
 | zero=>exact Md.RH ((S.size Z).2 i hi) λk hk=>(Z.bU k hk).2
 | succ k=>exact aL ((S.size Z).2 i hi k Oo) (aDb Z.u1)
def iP.rt(Z:AC F W M ss mix ps cs Ns Nm Np Nc BB us cu X U e b)(S:iP H F W M ss mix cs us cu b B R p ts){i:Nat}(hi:i<W+1):(xZ ts i).natAbs<=2^X:=by
 obtain⟨t,a,f⟩:=S.at hi;unfold xZ;rw[a];split
 ·split
  ·exact Nat.one_le_two_pow
  ·exact Y0H
 ·exact Nat.le_of_lt (f.cost Z.sl)
theorem iP.zet(Z:AC F W M ss mix ps cs Ns Nm Np Nc BB us cu X U e b)(S:iP H F W M ss mix cs us cu b B R p ts){k:Nat}(hk:k<W+2):(Md.zet (W+1) b R (xZ ts) k).natAbs<=ZB W U X:=by
 unfold Md.zet;refine Md.tR YcI;rw[dD];exact Nat.mul_le_mul (S.rt Z a) (S.rho Z a hk)
def meas(W U X:Nat)(b:Y0)(R:Md.fG)(p:Int)(ts:Y0z):Nat:=(if Y1e=true then(2*(ZB W U X*Md.fac (PB W U))+1)^(W+2) else 0)+Md.msr (ZB W U X) (PB W U) (W+2) (Md.zet (W+1) b R (xZ ts)) p
theorem iP.next(Z:AC F W M ss mix ps cs Ns Nm Np Nc BB us cu X U e b)(S:iP H F W M ss mix cs us cu b B R p ts){a:Y0}{t:oF}{o:Nat}(f:SG H F W M ss mix cs us cu a t)(nl:YcQ "lack")(pay:p*(if Y1e=true then 0 else t.cost)<Md.dot (W+1) (jK W R ts) a)(ho:o<W+1)(hs:0<Md.dot (W+1) (R o) a)(hl:Md.aAv (W+1) b R a o) :
  iP H F W M ss mix cs us cu b (Md.st B o a) (Md.xK (W+1) B R o a) (Md.dot (W+1) (R o) a) (YaH t)/\meas W U X b (Md.xK (W+1) B R o a) (Md.dot (W+1) (R o) a) (YaH t)<meas W U X b R p ts:=by
 have S':iP H F W M ss mix cs us cu b (Md.st B o a) (Md.xK (W+1) B R o a) (Md.dot (W+1) (R o) a) (YaH t):=by
  refine⟨S.mst.next ho hs hl,by rw[List.length_set];exact S.len,λi x g=>?_⟩;by_cases h:i=o
  ·subst h;rw[List.getElem?_set_self (by rw[S.len];exact ho)]at g;cases g;rw[Md.iK];exact f
  ·rw[YbW (h z.symm)]at g;rw[Md.lT h];exact S.fit i x g
 refine Y0p S';have m:=S.mst.bs.pos;have y:=(S.size Z).1;have s:=(S'.size Z).1;by_cases eb:gI (YaH t)=Y1e
 ·unfold meas;rw[eb];refine Nat.add_lt_add_left (Md.aFc (λi d=>S.zet Z d) (λi d=>S'.zet Z d) m Oo hs Oo ?_) _;have h:=S.mst.cheaper ho (a:=a) (c:=xZ ts) (x:=if Y1e=true then 0 else t.cost) (by rw[Md.aBK];exact pay);refine Md.gR (λk r=>?_) h;congr 2;unfold Md.zet;exact Md.eG λi d=>by rw[aBg (by rw[S.len];exact ho) nl eb]
 ·have j:Y1e=true:=by
   cases h:Y1e with
   | true=>rfl
   | false =>
    cases h':gI (YaH t)with
    | true=>rw[TY nl h']at h;exact Y6T h
    | false=>rw[h,h']at eb;exact Y7L eb
  have n:Yx (gI (YaH t)):=by
   cases h:gI (YaH t)with
   | true=>rw[h,j]at eb;exact Y7L eb
   | false=>rfl
  unfold meas;rw[j,n,Yo,Y2B,Nat.zero_add];refine aO (Md.XL λi d=>?_) (Y9s _);obtain⟨q,_,l,_,w,u⟩:=Md.vW (S'.zet Z d) hs (P:=PB W U) Oo;rw[l];exact Oo
end
abbrev aDK:Stmt:=(top 75)
def UU:Ye ["weighing","bounds","ends","own","master","entering"] ["weighing","bounds"] aDK:={}
inductive rY (K:Aa) (G A:Addr):Ym
 | i {H:Hp} {Q:VK} {E:XK} {x ba:Addr} {bx:Al} {bs:Ak} {F W M:Nat} {ss:Aj} {mix ps cs:Ak} {Ns Nm Np Nc BB:Nat} {us:Ae} {cu X U e:Nat} {b:Y0} (h1:AB H x G F W M ss mix cs us cu) (h2:H ba=Yj bx) (h3:vG K H bs bx) (h4:Y9Y W) (h5:∀(i:Nat) (f:Fr) (u:Nat),bs[i]?=Y6w->Y5X=Yp->Y0b/\Y4z/\f.2.natAbs ∣ u/\(b i:Rat)=Y0Y*(u:Rat)) (h6:AC F W M ss mix ps cs Ns Nm Np Nc BB us cu X U e b) (k:∀m sa B R p uv ts H',Y1->uI H' A m sa (W+1) b R p uv->kY H' uv ts->iP H' F W M ss mix cs us cu b B R p ts->(∀w,w<W->jK W R ts w<=0)->((jK W R ts W:Int):Rat)<=Y7Y F W M (pzY W R ts us) (TZ ts p cu)->Y0E m):rY K G A [Y24,.ref ba] H Q E
section
variable{F W M:Nat}{ss:Aj}{mix ps cs:Ak}{Ns Nm Np Nc BB:Nat}{us:Ae}{cu X U e:Nat}{b:Y0}{H H':Hp}{B R:Md.fG}{p:Int}{ts:Y0z}
def iP.masz(Z:AC F W M ss mix ps cs Ns Nm Np Nc BB us cu X U e b)(S:iP H F W M ss mix cs us cu b B R p ts):aAu (W+1) b R p 4000 :=
 ⟨by have:=Z.sl.wo.w4;exact Oo,λi c k a=>aJ (S.rho Z c a) (aJ aAs Z.zb),aJ (S.size Z).1 (aJ (aDb Z.u1) (aJ aAs Z.zb)),Yq⟩
def iP.ratz(Z:AC F W M ss mix ps cs Ns Nm Np Nc BB us cu X U e b)(S:iP H F W M ss mix cs us cu b B R p ts){k:Nat}(hk:k<W+1):(jK W R ts k).natAbs<Y0P:=aJ (S.zet Z (k:=k+1) Oo) Z.zb
def iP.costz(Z:AC F W M ss mix ps cs Ns Nm Np Nc BB us cu X U e b)(S:iP H F W M ss mix cs us cu b B R p ts):∀t∈ts,t.cost.natAbs<Y0P:=λt c=>by
 obtain⟨i,a⟩:=List.getElem?_of_mem c;exact Y66 ((S.fit i t a).cost Z.sl) (by have:=Z.sz;exact Oo)
theorem iP.to(h:∀bp kb,H bp=Y9b->H' bp=Y9b)(S:iP H F W M ss mix cs us cu b B R p ts):iP H' F W M ss mix cs us cu b B R p ts:=⟨S.mst,S.len,λi t a=>(S.fit i t a).to h⟩
def YJ{n:Nat}(hb:∀r,r<n->0<=b r):Md.Mst n b Md.unit Md.unit 1:=by
 refine⟨Md.aCy n,λi c=>?_⟩;have d:Md.rho n b Md.unit i 0=b i:=by
  show Md.dX n (λk=>Md.unit i k*b k)=b i;rw[Md.jY c λk _ a=>by unfold Md.unit;rw[if_neg a,Int.zero_mul]];unfold Md.unit;rw[Yo,Int.one_mul]
 have e:=hb i c;by_cases h:b i=0
 ·refine⟨i+1,Oo,λk a=>?_,by show 0<Md.unit i i;unfold Md.unit;rw[Yo];decide⟩;cases k with
  | zero=>rw[d,h]
  | succ k=>show Md.unit i k=0;unfold Md.unit;rw[Y2l]
 ·exact⟨0,Oo,λk a=>Oo,by rw[d];exact Oo⟩
def aDe(H:Hp)(F W M:Nat)(ss:Aj)(mix cs:Ak)(us:Ae)(cu:Nat)(R:Md.fG)(p:Int)(ts:Y0z)(v:V):Prop :=
 (v=.non/\(∀w,w<W->jK W R ts w<=0)/\((jK W R ts W:Int):Rat)<=Y7Y F W M (pzY W R ts us) (TZ ts p cu)) \/
 ∃e ca ta a t,v=.ref e/\H e=Yj [.ref ca,.ref ta]/\H ca=Yi ((dE (W+1) a).map V.int)/\xX H (.ref ta) t/\SG H F W M ss mix cs us cu a t/\YcQ "lack" /\ p*(if Y1e=true then 0 else t.cost)<Md.dot (W+1) (jK W R ts) a
theorem kY.set{uv:Al}(h:kY H uv ts){u:V}{t:oF}(ht:xX H u t)(o:Nat):kY H (uv.set o u) (YaH t):=by
 refine⟨by rw[List.length_set,List.length_set];exact h.len,λi v x a c=>?_⟩;rw[List.getElem?_set]at a c;by_cases e:o=i
 ·rw[Y1w]at a c;have:=h.len;by_cases l:o<uv.length
  ·rw[if_pos l]at a;rw[Y5x]at c;cases a;cases c;exact ht
  ·rw[if_neg l]at a;cases a
 ·rw[Y0L]at a c;exact h.at_ i v x a c
def NM{H0:Hp}{x sa:Addr}(s:aU H0 H)(hx:H0 x=none)(hs:H0 sa=none)(k:aAx x sa H H'):aU H0 H':=λa o h =>
 k a o (λz=>by rw[z,hx]at h;cases h) (λz=>by rw[z,hs]at h;cases h) (s _ _ h)
end
section
def aH2(F:Yc "settled" "settled" aDK)(T:Yf)(FQ68:Y00 "times_whole" a44 (oQ K))(FQ0:FnO P w K mg base 2 c.Master a14 (wS c.Master))(FQ21:Y0W 4 "better" ["weighing","master"] (qW c.Weighing c.Master))(FQ1:FnM P w K mg base 3 c.Master "enter" a15 (tV c.Master)):dP P w K mg base cY 5 f fd ["weighing","bounds"] (rY K c.Weighing c.Master):=by
 refine Y13 UU;obtain @⟨H,Q,E,x,ba,bx,bs,F,W,M,μ,C,ps,θ,Ns,Nm,Np,Nc,BB,δ,κ,X,U,e,b,wg,S,fr,lb,hb,Z,q⟩:=h;refine Yg;intro cdv A outer s β _;have w4:=Z.sl.wo.w4;have OG:=T.w_Weighing;refine⟨_,(aH (wI (i:=2) (dY.o ["bound","unit"] ["bound","unit"] []) UU.nd rfl rfl (lF true false rfl T.b_zip (Y4O 1 Y1P)) (YbN) (λ_ _ _ _=>(Y3w FQ68 1)))
  (aH (iD (i:=3) (dS.o ["bound"] []) UU.nd rfl rfl (vT (Y0m)) YbN (λ_ _ _ _=>dN (bB (Y9Q "room" T.g_ROOM) (Y2j aI lG))))
  (aH (Y2A UU.nd (IU FQ0 T.g_Master (β.mono Dd) (Y2j (cC vV (aD 2) (hZ (Y1L aI))) (cC vV (aD 3) (hZ (Y1L (dN (bB (Y9Q "lack" T.g_LACK) (Y2j aI lG)))))))))
  (aH (Y7M UU.nd (Y3w FQ21 4))
  (aH (wH PassesOwn.never (Y1x aBN 5 lG) (aH (lA (ME FQ1 T.w_Master.cls (β.mono Dd) (Y1i) (Y8N 5 (Y17 5))))
  (aR (Y7M UU.nd (Y3w FQ21 4)))))
  (Y2p 4)))))),?_⟩
 refine Yu;intro d_ n_;have wg0:=wg;obtain⟨ul,dx,fl,ra,ua,wa,ca,tas,kvs,a0,a1,a2,a3,a4,a5,a6,a7,a8,a9,a10,a11⟩:=wg0;have ο:bx.length=W:=by rw[fr.len,lb]
 refine Y08 (Y4i OG (by simp) a0 a2);refine Y1U ba ua _ _ S a7 (kM (b1:=true) (b2:=false) (xs:=bx) (ys:=δ.map FO) (λi z _=>z=.int (b i)) (Y9g) Oo S a7 (by rw[aA,ul,ο]) (λi y z H' Q' hy hz s' k'=>?_) (λD1 zs H1 hD1 e1 s1 hl1 hr1=>?_))
 ·obtain⟨g,hg,fg⟩:=fr.at_ i y hy;rw[aF]at hz;obtain⟨u,J,rfl⟩:=eL.mp hz;obtain⟨g1,g2,g3,g4⟩:=hb i g u hg J;refine Y06;refine oQ.i (fg.same s') g1 g2 (YeC u J).2 g3 λn hn=>k' _ H' Y0e ?_;rw[<-g4]at hn;congr 1
  exact_mod_cast hn
 ·rw[mJ (hl1.trans ο) hr1]at e1;refine Ys;intro d_ n_;refine Y7 (Y1Z ba (Ya0 (s1 _ _ S)) (rF (xs:=bx) (λi y H'=>xX H' y (Y9v "room" 0 .non)) (λi y H1 H2 s r=>by obtain⟨a,ea,ha⟩:=r;exact Y29 ea (s _ _ ha)) Oo (s1 _ _ S) (λi y H' Q' hy s' k'=>?_) (λD2 L H2 hD2 e2 χ hl2 hr2=>?_)))
  ·exact pJ (by show 3<=64;decide) λq3 H3 hq3 e3 α=>k' _ H3 α (Y04 q3 e3)
  ·refine Y6;refine zZ (by show 1<=64;decide) λq3 H3 hq3 e3 α=>?_;have S3:=χ.trans α;refine NY (S3 _ _ e1) e3 (by rw[aA,cS];show W+1<=1000;exact Oo) λq4 H4 hq4 e4 s4=>Y6;refine pJ (by show 3<=64;decide) λq5 H5 hq5 e5 s5=>zZ (by show 1<=64;decide) λq6 H6 hq6 e6 s6=>?_;have S36:=(α.trans s4).trans (s5.trans s6);refine NY (S36 _ _ e2) e6 (by show L.length+1<=1000;exact Oo) λq7 H7 hq7 e7 s7=>?_;have S17:=(χ.trans S36).trans s7;intro m ι hm hdm ndm;have ζ:aU H7 (Y8Q (upd H7 ι (.own m)) m c.Master ι []):=(aU.upd hdm).trans (aU.upd (by rw[fF (Ne.symm ndm)];exact hm));have eA:(upd (upd H7 ι (.own m)) m (.ins c.Master ι [])) m=some (.ins c.Master ι []):=bP;generalize upd (upd H7 ι (.own m)) m (.ins c.Master ι [])=H8 at ζ eA ⊢;have ec:(dE W b).map V.int++[V.int 1]=(dE (W+1) b).map V.int:=by
    unfold dE;rw[List.range_succ,bI,bI,bE,List.map_nil,Z.bW];rfl
   rw[ec]at e4;refine wS.i eA (((s5.trans s6).trans (s7.trans ζ)) _ _ e4) (ζ _ _ e7) (n:=W+1) (b:=b) (by rw[aZ];show L.length+1=W+1;exact Oo) Oo λsa H9 hsa b9 I=>Yg;refine Ys;intro d_ n_;have hm0:H m=none:=(s1.trans S17).free hm;have hs0:H sa=none:=((s1.trans S17).trans ζ).free hsa;have S9:aU H H9:=aU.thru hm0 ((s1.trans S17).trans ζ) b9;have tk:∀{a:Addr} {xs:Al},H8 a=Y12->H9 a=Y12:=λ{a xs} h=>b9.at (λz=>by rw[z,eA]at h;cases h) h;have φ:kY H9 (L++[V.ref q5]) (YaC (Y9v "room" 0 .non)++[Y9v "lack" 0 .non]):=by
    refine⟨by rw[aZ,aZ,bH,hl2,ο];rfl,λi u t J l=>?_⟩;by_cases γ:i<L.length
    ·rw[cQ γ]at J;rw[cQ (by rw[bH];exact Oo),List.getElem?_replicate,Y5x]at l;cases l;obtain⟨a,ea,ha⟩:=hr2 i u J;exact Y29 ea (tk ((S36.trans (s7.trans ζ)) _ _ ha))
    ·rw[cJ Oo]at J;rw[cJ (by rw[bH];exact Oo),bH]at l;have e0:i-L.length=0:=by
      have:=(aC.mp J).1;simp at this;exact Oo
     rw[e0]at J;rw[show i-W=0 by exact Oo]at l;cases J;cases l;exact Y04 q5 (tk ((s6.trans (s7.trans ζ)) _ _ e5))
   have τ:iP H9 F W M μ C θ δ κ b Md.unit Md.unit 1 (YaC (Y9v "room" 0 .non)++[Y9v "lack" 0 .non]):=by
    refine⟨YJ λr β=>(Z.bU r β).1,by rw[aZ,bH];rfl,λi t l=>?_⟩;have γ:i<W+1:=by have:=(aC.mp l).1;rw[aZ,bH]at this;exact this
    by_cases h:i<W
    ·rw[cQ (by rw[bH];exact h),List.getElem?_replicate,Y3K]at l;cases l;exact .inl (Y5I rfl i h rfl)
    ·have e:i=W:=Oo;subst e;rw[cJ (by rw[bH];exact Oo),bH,Nat.sub_self]at l;cases l;exact YaZ (Y04 rfl rfl)
   have BT:∀{H':Hp} {B R:Md.fG} {p:Int} {D:Al} {d:Y0z} {Q':VK},Y1->uI H' c.Master m sa (W+1) b R p D->kY H' D d->iP H' F W M μ C θ δ κ b B R p d->(∀v H2,aU H' H2->aDe H2 F W M μ C θ δ κ R p d v->Q' v H2)->qW c.Weighing c.Master [Y24,.ref m] H' Q' E0:=λS1 m1 t1 ε k1 =>
    qW.i (wg.same S1) m1 t1 Z.sl (ε.masz Z) (ε.costz Z) (λk hk=>ε.ratz Z hk) (λH2 χ ξ ν=>k1 _ H2 χ (.inl ⟨rfl,ξ,ν⟩)) λe ca ta a t H2 χ ξ ν h3 h4 h5 h6=>k1 _ H2 χ (.inr ⟨e,ca,ta,a,t,rfl,ξ,ν,h3,h4,h5,h6⟩)
   refine Y06;refine BT S9 I φ τ λN Ha O G=>?_;have ω:∀{H1 H2:Hp},aU H1 H2->∀η υ,H1 η=Y0c υ->H2 η=Y0c υ:=λs η υ h=>s _ _ h;refine AJ (λmm σ H'=>Ex6 λ(N:V) (B R:Md.fG) (p:Int) (D:Al) (d:List oF)=>An7 (σ=[Y3 x,Y3 ba,Y3 D1,Y3 D2,Y3 m,some N]) (Y1) (uI H' c.Master m sa (W+1) b R p D) (kY H' D d) (iP H' F W M μ C θ δ κ b B R p d) (aDe H' F W M μ C θ δ κ R p d N) (mm=meas W U X b R p d))
    (λσ H'=>∃(N:Am) (B R:Md.fG) (p:Int) (D:Al) (d:Y0z),σ=[Y3 x,Y3 ba,Y3 D1,Y3 D2,Y3 m,N]/\Y1/\uI H' c.Master m sa (W+1) b R p D/\kY H' D d/\iP H' F W M μ C θ δ κ b B R p d/\(∀w,w<W->jK W R d w<=0)/\((jK W R d W:Int):Rat)<=worz F W M μ C (pzY W R d δ) (TZ d p κ) θ (Ya))
    _ ⟨N,_,_,_,_,_,rfl,S9.trans O,I.same O,φ.same O,τ.to (ω O),G,rfl⟩ ?_ ?_
   ·clear G φ τ I;rintro mm σ H1 ⟨N,B,R,p,D,d,rfl,S1,I,ψ,st,G,rfl⟩;refine Y5J _ _ ?_;rcases G with⟨rfl,ξ,ν⟩ | ⟨e,ca,ta,a,t,rfl,he,hca,l,hf,nl,pay⟩
    ·exact rB ⟨_,B,R,p,D,d,rfl,S1,I,ψ,st,ξ,ν⟩
    ·refine sO Yu;intro d_ n_;obtain⟨dx2,ra2,ρ,LL⟩:=I.ex;have ne:∀(r s:Addr) (z:Int),(mfs r s z).lookup ("enter" : Str)=none:=λr s z=>by unfold mfs;rw[fE,Y2B,fE,Y2B,fE,Y2B];rfl
     refine⟨_,rfl,m,dx2,_,rfl,ρ,ne ..,_,rfl,Y7A he⟩;refine Y0g he;obtain⟨r,β,pr⟩:=hf.one;have aa:∀i,i<W+1->(a i).natAbs<=U:=λi γ=>(hf.col Z γ).2;have U4:U<Y0P:=Y8T Z.Ue (by have:=Z.sz;exact Oo);refine tV.i (a:=a) I hca (st.masz Z) st.mst st.mst.bs.pos (λi γ=>aJ (aa i γ) U4) (λi γ=>aJ (Md.RH ((st.size Z).2 i γ) aa) (aJ aAs Z.zb)) (st.mst.bs.some (λj hj r β=>by
      obtain⟨t',_,f'⟩:=st.at hj;exact(f'.col Z β).1) β pr) λo H2 ho hs hl k2 ma2=>?_
     have kt:∀{u:V} {t:oF},xX H1 u t->xX H2 u t:=λh=>h.keep2 k2 ρ I.st;have kd:∀η υ,H1 η=Y0c υ->H2 η=Y0c υ:=λη υ h=>k2 _ _ (λz=>by rw[z,ρ]at h;cases h) (λz=>by rw[z,I.st]at h;cases h) h;obtain⟨st2,lt2⟩:=st.next Z hf nl pay ho hs hl;have S2:=NM S1 hm0 hs0 k2;have th2:kY H2 (D.set o (.ref ta)) (d.set o t):=(show kY H2 D d from⟨ψ.len,λi u t J l=>kt (ψ.at_ i u t J l)⟩).set (kt l) o;refine Y06;exact BT S2 ma2 th2 (st2.to kd) λN H3 α G=>⟨_,lt2,N,_,_,_,_,_,rfl,S2.trans α,ma2.same α,th2.same α,(st2.to kd).to (ω α),G,rfl⟩
   ·rintro σ H1 ⟨N,B,R,p,D,d,rfl,S1,I,ψ,st,ξ,ν⟩;exact Y7 (q m sa B R p D d H1 S1 I ψ st ξ ν)
end
abbrev aDM:Stmt:=(top 43)
def aJb:Ye a43 a43 aDM:={}
abbrev aEq:Stmt:=(top 45)
def UY:Ye ["rule","amount_of","counts","says","onward","more"] a43 aEq:={}
structure MB(n:Nat)(fs:Ak):Prop where
 len:Y6S n
 at_:∀f∈fs,Y0b/\0<=f.1/\sV 3000 f
 one:vD (YcV)=1
structure pK(F W M N B Ns:Nat)(es:Yh):Prop where
 rl:Y1h
 sum:∀e∈es,e.1.sum<=M
 sy:∀e∈es,MB (1+W) e.2
 few:es.length<=64
 on:∀e∈es,Y4C->e.1.sum<M
 fl:∀e∈es,Y2a (Y4 e.1)
 fs:∀e∈es,∀v,Y2a (Y4 e.1*cB e.2 v)
 n0:0<N
 s1:0<Ns
 z:N*Ns^M<2^1800
 b:B<=2^100
 m:M<=6
def MB.hd{n:Nat}{fs:Ak}(h:MB (1+n) fs):∃f r,fs=f::r/\Y0b/\sV 3000 f/\0<=f.1/\cB fs 0=Y0Y/\(0<f.1↔cB fs 0≠0):=by
 cases fs with
 | nil=>have:=h.len;simp at this;exact Oo
 | cons f r =>
  obtain⟨a,j,c⟩:=h.at_ f (aS ..);refine⟨f,r,rfl,a,c,j,rfl,?_⟩;have e:cB (f::r) 0=Y0Y:=rfl;rw[e];constructor
  ·intro d q;have:=iW a TU (by rw[q,lY]);rw[this]at d;exact Y6T d
  ·intro q;refine cH λz=>q ?_;have i:f.1=0:=Oo;have g:=pD a.pos;rw[i]at g;have l:=nS a.pos;have:Y0Y=0:=by grind
   exact this
def MB.nn{n:Nat}{fs:Ak}(h:MB n fs)(v:Nat):0<=cB fs v:=by
 by_cases hv:Ya3 v
 ·have:=h.at_ _ (eO (a:=(0,1)) hv);exact PM this.1 this.2.1
 ·rw[nF Oo];exact Rat.le_refl
def MB.rest{n:Nat}{fs:Ak}(h:MB (1+n) fs):bZ n (λv=>Y0l fs)=1-cB fs 0:=by
 have a:=h.one;rw[pL,h.len]at a;have:∀n,Y6t (1+n) fs=cB fs 0+bZ n (λv=>Y0l fs):=by
  intro n
  induction n with
  | zero=>rw[show 1+0=0+1 from rfl,dW,gQ,gQ];grind
  | succ n ih=>rw[show 1+(n+1)=(1+n)+1 by exact Oo,dW,ih,dW];grind
 rw[this]at a;grind
structure DQ(K:Aa)(H:Hp)(kvs:Yt)(g:Y01):Prop where
 at_:∀d:Ae,(Y2I d=none/\g d=0)\/∃v,Y2I d=Yy/\BH K H (eQ (g d)) v
def rC:eQ 0=(0,1):=iW (Y03) TU (by rw[dB,lY])
def QY:eQ 1=(1,1):=iW (Y03) NL (by rw[dB,sD])
theorem DQ.t{K:Aa}{H H':Hp}{kvs:Yt}{g:Y01}(s:Y2t)(h:DQ K H kvs g):DQ K H' kvs g:=⟨λd=>by
 rcases h.at_ d with h | ⟨v,a,c⟩
 ·exact .inl h
 ·exact .inr ⟨v,a,c.t s⟩⟩
def DQ.eq{K:Aa}{H:Hp}{kvs:Yt}{g g':Y01}(h:DQ K H kvs g)(e:∀d,g' d=g d):DQ K H kvs g':=by
 have:g'=g:=funext e;rw[this];exact h
def DQ.get{K:Aa}{H:Hp}{kvs:Yt}{g:Y01}(h:DQ K H kvs g)(d:Ae){z:V}(hz:jE K H (0,1) z):jE K H (eQ (g d)) ((gF kvs (kT (ci d))).getD z):=by
 rcases h.at_ d with⟨c,a⟩ | ⟨v,c,a⟩
 ·rw[c,a,rC];exact hz
 ·rw[c];exact a.v
def DQ.val{K:Aa}{H:Hp}{kvs:Yt}{g:Y01}(h:DQ K H kvs g){d:Ae}(hd:g d≠0):∃v,Y2I d=Yy/\BH K H (eQ (g d)) v:=by
 rcases h.at_ d with⟨_,a⟩ | h
 ·exact absurd a hd
 ·exact h
def DQ.put{K:Aa}{H:Hp}{kvs:Yt}{g:Y01}(h:DQ K H kvs g){c:Ae}{v:V}{y:Rat}(r:BH K H (eQ (g c+y)) v):DQ K H (Y8O c v) λd=>g d+if c=d then y else 0:=⟨λd=>by
 rw[iF];by_cases e:c=d
 ·subst e;rw[Yo,Yo];exact .inr (Y04 v r)
 ·rw[Y3H (e (Y3h q).symm),Y0L,show g d+0=g d by grind];exact h.at_ d⟩
def kN{N C:Nat}{q:Rat}(h:Qn N C q)(h0:0<N)(hN:N<2^2500)(hC:C<=2^200):Y3G Y1K:=nC h.fq h0 (Y6j hN) (Y54 hC)
def sV.up{j k:Nat}{f:Fr}(h:sV j f)(hk:j<=k):sV k f:=⟨Y66 h.1 hk,Y66 h.2 hk⟩
section
variable{F W M N B Ns:Nat}{es:Yh}{s:Ak}
def pK.nz(R:Y1G):N<2^2500:=by
 have c:0<Ns^M:=Nat.pow_pos R.s1;have a:N*1<=N*Ns^M:=dF _ c;rw[Nat.mul_one]at a;exact Y7W a R.z
def pK.pz(R:Y1G):0<N*Ns^M/\N*Ns^M<2^2500:=⟨Yg5 R.n0 R.s1,Y6j R.z⟩
def pK.b2(R:Y1G):B<=2^200:=Y54 R.b
theorem pK.part(R:Y1G)(f4:F<=4):∀i,Ybc i->∀d,Qn N (1+4*B*i) (Y4d F i d)
 | 0,_,d=>by
  rw[List.take_zero,lO,Nat.mul_zero,Nat.add_zero];split
  ·exact Qn.one' _
  ·exact Qn.zero _ _
 | i+1,hi,d=>by
  have he:=aB (show i<es.length by exact Oo);rw[gP he,gJ,R.rl.at he];have a:=aE he;have e:=R.part f4 i Oo d;have g:Qn 1 4 (iI F es[i].1 d):=by
   have:=Qn.sumR (N:=1) (B:=1) (n:=F) (f:=λf=>if bT es[i].1 f=d then 1 else 0) λf _=>by
    split
    ·exact Qn.one' _
    ·exact Qn.zero _ _
   exact this.le Oo
  have c:=(show Qn N B (aW F es es[i].1*s0 es[i])from R.fs _ a 0).mul g;rw[Nat.mul_one]at c;refine(e.add c).le ?_;rw[Nat.mul_add,Nat.mul_one,Nat.mul_comm B 4];exact Oo
def pK.bg(R:Y1G){i:Nat}(hi:i<=64):1+4*B*i+B*4<=2^200:=by
 have c:=Nat.mul_le_mul (dF 4 R.b) hi;have a:=bJ 4 R.b;exact Oo
end
inductive jP (K:Aa):Ym
 | i {H:Hp} {Q:VK} {E:XK} {x:V} {e:cW} {es:Yh} (h1:LW K H (e::es) x) (k:Y1S (e.1.length:Nat)):jP K [x] H Q E
inductive mY (K:Aa):Ym
 | i {H:Hp} {Q:VK} {E:XK} {x:V} {es:Yh} {F W M N B Ns:Nat} (h1:LW K H es x) (h2:Y1G) (h3:1<=F) (h4:F<=4) (k:∀a ys H',Y1->H' a=Yj ys->Y3c es.length->(∀(i:Nat) (e:cW),es[i]?=Y7f->∃b cu va,Y1r=Y3 b/\Y1I=Yj [.ref cu,va]/\H' cu=Yj (e.1.map FO)/\BH K H' (eQ (Y4 e.1)) va)->Y0E a):mY K [x] H Q E
section
def aH5(F:Yc "rule_faces" "rule_faces" aDM)(T:Yf):dP P w K mg base cY 1 f fd a43 (jP K):=by
 refine YfL aJb ?_;obtain @⟨H,Q,E,x,e,G,B,k⟩:=h;refine Yg;intro u A g s L _;obtain⟨a,n,rfl,p,y,l⟩:=B;have i:n[0]?=some (n[0]'(by rw[y];exact Ycd)):=aB _;obtain⟨C,m,b,J,z,r,D,d,_⟩:=l 0 _ i;cases(show e=C by simpa using m);rw[r]at i;refine Y4h (iV oE (by rfl) T.b_len Kk (Y1L (Ya2 0 aI))) (Y7 (jF p (Y4N i) ?_));refine Y5Z D (rlT d ?_);rw[aA];exact k
def aIK(F:Yc "amounts" "amounts" aEq)(T:Yf)(FQ47:Y00 "noughts" ["faces"] mV)(FQ60:Y00 "rule_faces" a43 (jP K))
  (FQ45:Y00 "looks_on" ["says"] (lK K)) (FQ67:Y70 2 "times" K) (FQ50:Y2w "ones_more" a34 fY) (FQ55:Y6d 2 "plus" (kH K)):dP P w K mg base cY 3 f fd a43 (mY K):=by
 refine Y13 UY;obtain @⟨H,Q,E,x,es,F,W,M,N,B,Ns,rx,RO,f1,f4,k⟩:=h;refine Yg;intro cdv A outer s ζ _;obtain⟨a,xs,rfl,ha,lx,ω⟩:=id rx;have RL:=RO.rl;have few:=RO.few;obtain⟨e0,er,ees,ez0⟩:=RL.root;refine⟨_,(aH (Y7r 1 UY.nd (IV ζ.u1 (fV FQ47 (Y0F FQ60 0)) (YbP YcF T.g_ONE rfl)))
  (aH (gL PassesOwn.never rfl (vT (Y02)) (nY rfl (eT (Yan 2 UY.nd) (eT (Yan 3 UY.nd) lB))) (aR (iE (pX (Y0F FQ45 3)) (aH (Y2A UY.nd (Y95 (Y7X ζ.u1 Y07) (Y17 3)))
  (aR (Y6Y (eC (Y0F FQ50 2)) 5 UY.nd (jA ζ.u1 Y0m (aD 5) (cR FQ55 (GF ζ.u1 (Y0m) (aD 5) (Yeo YaJ rfl)) (Y1i)))))) fA)))
  (Y0V (Y5E dH (by rfl) Kk ["entry","amount_of"] [1] (vT (Y02)) (Y38 (Y7u 0) (Y7X ζ.u1 (Y7u 0))))))),?_⟩
 refine Yu;intro d_ n_;intro p hp;have J:=Y6G [] hp;have α:(upd H p (.dT [])) p=Y0c []:=bP;generalize upd H p (.dT [])=H0 at J α;refine Y7 (jP.i (e:=e0) (es:=er) (by rw[<-ees];exact rx.t J.t) ?_);rw[ez0,bH];refine mV.i (F:=F) Oo λv1 H1 s1 r1=>?_;obtain⟨cz,rfl,ξ⟩:=iJ r1;refine aGq (c:=ci (Ya)) (by rw[fO];exact ξ) (s1 _ _ α) λH2 e2 b2=>Ys;intro d_ n_;have S2:aU H H2:=aU.thru hp (J.trans s1) b2;have D2:DQ K H2 [(Y2z Ya,V.ref c.ONE)] (aW F (es.take 0)):=⟨λd=>by
  rw[List.take_zero,lO];by_cases q:d=Ya
  ·subst q;rw[Yo];exact .inr (Y0K (by simp[gF]) (.inr (Y04 c.ONE (by rw[QY];exact T.o_ONE))))
  ·rw[Y2D];refine Y1Y ?_ rfl;have:¬Y2z d=Y2z Ya:=λz=>q (Y3h z);have e:=iF (κ:=Y5F) [] (Y2z Ya) (Y2z d) (V.ref c.ONE);rw[if_neg this]at e;exact e⟩
 clear b2 J α r1 ξ s1;refine Y50 _ a (Ya0 (S2 _ _ ha)) (QZ (xs:=xs) (λi σ H'=>Ex5 λ(o2 o3 o4 τ:Am) (g:List (List fT × V))=>An5 (σ=[Y2r,Y2e,o2,o3,o4,τ]) (Y1) (H' p=Y0c g) (g.length<=1+4*i) (DQ K H' g (aW F (es.take i)))) ⟨_,_,_,_,_,rfl,S2,e2,by simp,D2⟩ (Y9r) ?_ ?_)
 ·obtain⟨_,_,_,_,_,_,η,_⟩:=q;exact jQ.of (η _ _ ha)
 ·rintro i x σ H3 hx ⟨o2,o3,o4,τ,g,rfl,S3,γ,l3,D3⟩;obtain⟨e,X,re⟩:=ω i x hx;have hi:i<es.length:=(aC.mp X).1;have r:=aE X;have hel:=RL.len e r;have Z:=RL.at X;have fpos:=RL.posf r;obtain⟨f0,fr,ef,l0,z0,nn0,v0,ν⟩:=(RO.sy e r).hd;have es0:Y2=rv f0:=v0;obtain⟨b,u,z,rfl,hb,C,rz⟩:=re.t S3.t;refine⟨b,[.ref u,z],rfl,jQ.of hb,rfl,.ref u,[z],rfl,z,[],rfl,rfl,Y23⟩;intro d_;refine Y7 (lK.i (f:=f0) (fs:=fr) (by rw[<-ef];exact rz) ?_);refine Y7 (tH (Ybf) (Ybf))
  ·have sne:Y4C:=ν.mp on;refine Yu;intro d_ n_;obtain⟨O,β,R⟩:=D3.val (d:=e.1) (by rw[Z];grind);rw[Z]at R;refine Y08 (Y5u γ e.1 (by rw[fO];exact C) β ?_);obtain⟨av,vs,rfl,hav,μ⟩:=rz;rw[ef]at μ;obtain⟨y0,hy0,ry0⟩:=μ.get (i:=0) rfl;refine Y7 (jF hav (Y4N hy0) ?_);refine eN.i R.v ry0.v (Y03) l0 (Yae (RO.fl e r) RO.n0 RO.nz) (z0.up Dd) λq4 H4 hq4 e4 θ=>?_;have φ:mZ (eQ (Y4 e.1)) f0=eQ (Y4 e.1*Y2):=Ybu l0 (by rw[kP (Y03).pos l0.pos,dB,dB,es0]);rw[φ]at e4;have qy:Y2a (Y4 e.1*Y2):=RO.fs e r 0;refine Y6;refine fY.i (wE (θ _ _ C)) Oo λL G H5 hL e5 ι U=>?_;have S5:=(S3.trans θ).trans U;have ly:G.length=F:=by rw[ι.len,aA,aA,aT,hel]
   have ψ:Y2U H5 (Y4 e.1*Y2) (.ref q4):=eV (U _ _ e4);have ο:H5 p=Y0c g:=U _ _ (θ _ _ γ);have nLp:L≠p:=λz=>by rw[z,θ _ _ γ]at hL;cases hL
   refine Y1l L e5 ?_;refine kW (xs:=G) (λj σ H'=>Ex2 λ(τ:Am) (g:List (List fT × V))=>An5 (σ=[Y2r,Y2e,Y3 u,Y3 av,Y3 q4,τ]) (aX p H5 H') (H' p=Y0c g) (g.length<=1+4*i+j) (DQ K H' g λd=>Y4d F i d+Y4 e.1*Y2*Yap j (if Y15 e.1=d then 1 else 0)))
    ⟨_,g,rfl,(Y0e).but,ο,Oo,(D3.t (θ.trans U).t).eq λd=>by rw[gQ];grind⟩ (Yfw) ?_ ?_
   ·obtain⟨_,_,_,b',_⟩:=q;exact Yeq nLp e5
   ·rintro j y σ H6 ρ ⟨o5',I,rfl,b6,χ,l6,D6⟩;refine Y5y;intro d_;have hj:j<F:=by rw[<-ly];exact(aC.mp ρ).1
    obtain⟨m,hm,rm⟩:=fK ι ρ;have φ:m=bT e.1 j:=by
     rw[aF,bL Oo]at hm;simpa using hm.symm
    have msum:m.sum=e.1.sum+1:=by rw[φ];exact fX Oo
    have mks:Y4f m (·.1):=by rw[φ];exact RL.fwd e r sne j hj
    obtain⟨cm,rfl,hcm⟩:=iJ rm;have t6:eW H5 H6:=aX.tT b6 ο;have S:=t6 _ _ hcm;have hnz:jE K H6 (0,1) (YaJ):=Y04 c.NOUGHT (wM T.o_NOUGHT);have hg:=D6.get m hnz;have qX:Qn N (1+4*B*i+B*4) (Y4d F i m+Y4 e.1*Y2*Yap j (if Y15 e.1=m then 1 else 0)):=by
     have υ:Qn 1 4 (Yap j (if Y15 e.1=m then 1 else 0)):=by
      have:=Qn.sumR (N:=1) (B:=1) (n:=j) (f:=λf=>if Y15 e.1=m then 1 else 0) λf _=>by
       split
       ·exact Qn.one' _
       ·exact Y7P _
      exact this.le Oo
     have δ:=qy.mul υ;rw[Nat.mul_one]at δ;exact(RO.part f4 i Oo m).add δ
    generalize hX:aW F (es.take i) m+aW F es e.1*s0 e*(bZ j λf=>if bT e.1 f=m then 1 else 0)=Xm at qX hg;refine⟨_,rfl,p,rfl,Y2E I (.inl χ),_,rfl,_,oM.ct (c:=ci m) χ (by rw[fO];exact S),Y6⟩;refine kH.i hg (jE.of (ψ.flat t6 (Y2h))) (Y03) (Y03) (kN qX RO.n0 RO.nz (RO.bg Oo)) (Yae qy RO.n0 RO.nz) λq7 H7 hq7 e7 s7=>?_;have ea:mO (eQ Xm) (eQ (Y4 e.1*Y2))=eQ (Xm+Y4 e.1*Y2):=iW (xW (Y03) (Y03)) Y03 (by rw[sE (Y03).pos (Y03).pos,dB,dB,dB]);rw[ea]at e7;refine Y06;have ε:=s7 _ _ χ;refine Y5t ε m (by rw[fO];exact s7 _ _ S) Oo (λH8 e8 b8=>?_);have t8:eW H7 H8:=aX.tT b8 ε;refine⟨_,_,rfl,(b6.trans s7.but).trans b8,e8,?_,?_⟩
    ·have:=Y6r I m (V.ref q7);exact Oo
    ·have D7:=D6.t s7.t;have D8:=(D7.put (c:=m) (v:=.ref q7) (y:=aW F es e.1*s0 e) (by rw[hX];exact .inl (eV e7))).t t8;refine D8.eq Y6k;rw[dW,<-φ];by_cases q:m=d
     ·rw[Y5A,Y5A];grind
     ·rw[Y2D,Y2D];grind
   ·rintro σ H6 ⟨o5',I,rfl,b6,χ,l6,D6⟩;rw[ly]at l6 D6;refine⟨_,_,_,_,I,rfl,aU.thru hp S5 b6,χ,Oo,D6.eq Y6k⟩;rw[gP X,gJ,Z];rfl
  ·have z0:Y2=0:=Y76 (on (ν.mpr q));refine⟨_,_,_,_,g,rfl,S3,γ,Oo,D3.eq Y6k⟩;rw[gP X,gJ,z0];grind
 ·rintro σ H3 ⟨o2,o3,o4,τ,g,rfl,S3,γ,l3,D3⟩;rw[lx,dL]at D3;refine Y50 _ a (Ya0 (S3 _ _ ha)) (rF (λi y H'=>∃(e:cW) (b u:Addr) (O:V),es[i]?=Y7f/\y=Y0k/\Y1I=Yj [.ref u,O]/\H' u=Yj (e.1.map FO)/\BH K H' (eQ (Y4 e.1)) O) (λi y H1 H2 s ⟨e,b,u,O,h1,h2,υ,h5,δ⟩=>⟨e,b,u,O,h1,h2,s _ _ υ,s _ _ h5,δ.t s⟩) Oo (S3 _ _ ha) (λi x H' Q' hx η k'=>?_) (λD G H8 hD hD8 s8 hy8 hr8=>?_))
  ·obtain⟨e,X,re⟩:=ω i x hx;have r:=aE X;obtain⟨b,u,z,rfl,hb,C,rz⟩:=re.t (S3.trans η).t;obtain⟨O,β,R⟩:=D3.val (d:=e.1) (by have:=RL.posf r;grind);refine Y0g hb;refine Y91 hb;refine Y5u (η _ _ γ) e.1 (by rw[fO];exact C) β (pJ (by show 2<=64;decide) λq5 H5 hq5 e5 U=>?_);exact k' _ H5 U ⟨e,q5,u,O,X,rfl,e5,U _ _ C,(R.same η).same U⟩
  ·refine Y3E D G (Y8H hD8 ?_);have sl:=Y2y G hl;have el:(upd H8 l (.tup G)) l=Yj G:=bP;generalize upd H8 l (.tup G)=H9 at sl el;refine k l G H9 ((S3.trans s8).trans sl) el Oo λi e hi=>?_;obtain⟨y,ρ⟩:∃y,G[i]?=Y09:=Y4T (by have:=(aC.mp hi).1;exact Oo);obtain⟨e',b,u,O,h1,rfl,υ,h5,δ⟩:=hr8 i y ρ;rw[hi]at h1;cases h1;exact⟨b,u,O,ρ,sl _ _ υ,sl _ _ h5,δ.same sl⟩
end
abbrev aEl:Stmt:=(top 51)
def aCu:Ye ["trial","rule","way","found","entry","amount"] a12 aEl:={}
abbrev aDV:Stmt:=(top 52)
def aG0:Ye ["trial","rule","way","came"] a12 aDV:={}
abbrev aDJ:Stmt:=(top 53)
def aI9:Ye a17 a17 aDJ:={}
def aqF(F:Nat)(es:Yh)(s:Ak)(e:cW):Fr:=eQ (Y4 e.1*wq s e.1)
def came(F:Nat)(es:Yh)(s:Ak):Y3A cW Fr:=es.map λe=>(e,aqF F es s e)
def VN(K:Aa)(H:Hp)(x:cW × Fr)(v:V):Prop:=∃b cu z y,v=Y0k/\H b=Yj [.ref cu,z,y]/\H cu=Yj (x.1.1.map FO)/\LU K H x.1.2 z/\Y3D H x.2 y
theorem VN.t{K:Aa}{H H':Hp}{x:cW × Fr}{v:V}(s:Y2t)(h:VN K H x v):VN K H' x v:=by
 obtain⟨b,a,z,y,c,i,d,e,g⟩:=h;exact⟨b,a,z,y,c,s _ _ i,s _ _ d,e.t s,g.flat s (Y2h)⟩
def aGX{K:Aa}{H H':Hp}(s:Y2t){l:Y3A cW Fr}{zs:Al}(h:Ybb K H l zs):Ybb K H' l zs:=Paired.imp' (λ_ _ h=>h.t s) h
theorem LC{K:Aa}{H:Hp}:∀{l:Y3A cW Fr}{zs:Al}{x:cW × Fr}{v:V},Ybb K H l zs->VN K H x v->Ybb K H (l++[x]) (zs++[v])
 | _,_,_,_,.nil,h=>.cons h .nil
 | _,_,_,_,.cons r t,h=>.cons r (LC t h)
section
variable{F W M N B Ns:Nat}{es:Yh}{s:Ak}
def pK.aq(R:Y1G)(hs:∀f∈s,Y8h){e:cW}(h:Y6y e):Qn (N*Ns^M) B (Y4 e.1*wq s e.1):=by
 have:=(R.fl e h).mul (OT (M:=M) hs (R.sum e h))
 rwa [Nat.mul_one]at this
def pK.aqs(R:Y1G)(hs:∀f∈s,Y8h){e:cW}(h:Y6y e)(v:Nat):Qn (N*Ns^M) B (Y4 e.1*wq s e.1*cB e.2 v):=by
 have:=(R.fs e h v).mul (OT (M:=M) hs (R.sum e h));rw[Nat.mul_one]at this;rw[show aW F es e.1*wq s e.1*cB e.2 v=aW F es e.1*cB e.2 v*wq s e.1 by grind];exact this
def pK.wn(R:Y1G):Ns^M<2^2500:=by
 have a:1*Ns^M<=N*Ns^M:=Y1s R.n0;rw[Nat.one_mul]at a;exact aJ a R.pz.2
end
theorem Qn.sumL{α:Type}{N B:Nat}{f:Y2X}:∀{l:Yv},(∀a∈l,Y2a (f a))->Qn N (l.length*B) Y42
 | [],_=>by rw[jI];exact Qn.zero _ _
 | a::l,h=>by
  rw[cZ,cI,Nat.add_mul,Nat.one_mul,Nat.add_comm];exact(h a (aS ..)).add (Qn.sumL λx hx=>h x (aY _ hx))
theorem zK{α:Type}{p:Y1Q α}{f:Y2X}:∀{l:Yv},(∀a∈l,Yx (p a)->f a=0)->cV (l.filter p) f=Y42
 | [],_=>rfl
 | a::l,h=>by
  have ih:=zK λx c=>h x (aY a c);cases q:p a with
  | true=>rw[List.filter_cons_of_pos q,cZ,cZ,ih]
  | false=>rw[List.filter_cons_of_neg (by rw[q];decide),cZ,ih,h a (aS ..) q];grind
def WG{α:Type}{l:Yv}{g:α->Fr}{f:Y2X}(h:∀a∈l,eJ (g a)/\rv (g a)=f a):mM (l.map g)=eQ (Y42):=by
 have d:∀x∈l.map g,eJ x:=λx e=>by
  obtain⟨a,c,rfl⟩:=aM.mp e;exact(h a c).1
 refine iW (BP _ d) Y03 ?_;rw[GU _ d,dB,List.map_map];exact congrArg vD (fD λa c=>(h a c).2)
def aFb(x y:Rat):mZ (eQ x) (eQ y)=eQ (x*y):=Ybu Y03 (by rw[kP (Y03).pos (Y03).pos,dB,dB,dB])
def aAq(x y:Rat):mO (eQ x) (eQ y)=eQ (x+y):=iW (xW (Y03) (Y03)) Y03 (by rw[sE (Y03).pos (Y03).pos,dB,dB,dB])
def aDs(x y:Rat):Y4X (eQ x) (eQ y)=eQ (x-y):=iW (xW (Y03) (xL (Y03))) (Y03) (by
 rw[sE (Y03).pos (xL (Y03)).pos,show oK (eQ y)=(-(eQ y).1,(eQ y).2)from rfl,BX,dB,dB,dB,Rat.sub_eq_add_neg])
inductive sC (K:Aa):Ym
 | i {H:Hp} {Q:VK} {E:XK} {t r:V} {es:Yh} {F W M N B Ns:Nat} {fs:Ah} {ws:Y0A} {i:Nat} {x:Y8k} (h1:Y3m t) (h2:LW K H es r) (h3:Y1G) (h4:1<=F) (h5:F<=4) (h7:ws[i]?=Y8) (h8:∀f∈x.2,Y8h) (h9:Y7p x.2) (k:Y3g (H D=none) (Y0x=Y0t->Ybb K H' (came F es x.2) ys->Y1->Y1g)):sC K [t,r,.int (i:Int)] H Q E
abbrev onE(e:cW):Bool:=decide (Y4C)
abbrev onD(x:Nat × Fr):PyData:=.tuple [.int (x.1:Int),iR x.2]
def onw(F:Nat)(es:Yh)(s:Ak):Y3A Nat Fr:=(es.filter onE).map λe=>(e.1.sum,eQ (Y4 e.1*wq s e.1*Y2))
inductive rZ (K:Aa):Ym
 | i {H:Hp} {Q:VK} {E:XK} {t r:V} {es:Yh} {F W M N B Ns:Nat} {fs:Ah} {ws:Y0A} {i:Nat} {x:Y8k} (h1:Y3m t) (h2:LW K H es r) (h3:Y1G) (h4:1<=F) (h5:F<=4) (h7:ws[i]?=Y8) (h8:∀f∈x.2,Y8h) (h9:Y7p x.2) (k:Y3g (H D=none) (Y0x=Y0t->Y41 ((onw F es x.2).map onD) ys->Y1->Y1g)):rZ K [t,r,.int (i:Int)] H Q E
structure CoC(Nc:Nat)(es:Yh)(cs:Ak):Prop where
 c0:0<Nc
 c1:Nc<=1000000000000000
 at_:∀f∈cs,Fn Nc 1000 f
 len:∀e∈es,Y4C->e.1.sum<cs.length
def CoC.qn{Nc:Nat}{es:Yh}{cs:Ak}(h:CoC Nc es cs){e:cW}(he:Y6y e)(hs:Y4C):Qn Nc 1000 (Y3N e.1.sum):=(h.at_ _ (eO (a:=(0,1)) (h.len e he hs))).q
inductive wP (K:Aa):Ym
 | i {H:Hp} {Q:VK} {E:XK} {t r cv:V} {es:Yh} {F W M Nc N B Ns:Nat} {fs:Ah} {ws:Y0A} {i:Nat} {x:Y8k} {cs:Ak} (h1:Y3m t) (h2:LW K H es r) (h3:Y1G) (h4:1<=F) (h5:F<=4) (h7:ws[i]?=Y8) (h8:∀f∈x.2,Y8h) (h9:Y7p x.2) (h10:LU K H cs cv) (h11:CoC Nc es cs) (k:∀v H',Y1->Y2U H' (Y4n F es (wq x.2) cs) v->Y1H):wP K [t,r,.int (i:Int),cv] H Q E
section
def aIG(F:Yc "comings" "comings" aEl)(T:Yf)(FQ19:Y36 "amounts" a43 (mY K))(FQ67:Y70 2 "times" K)(FQ72:Y36 "weight" a06 (jN K)):dP P w K mg base cY 4 f fd a12 (sC K):=by
 refine Y13 aCu;obtain @⟨H,Q,E,t,r,j,F,W,M,N,B,Ns,fs,ws,iw,x,rt,rr,RO,f1,f4,hx,I,β,k⟩:=h;refine Yg;intro cdv A θ s hr _;obtain⟨a,xs,rfl,α,lx,ρ⟩:=id rr;have few:=RO.few;refine⟨_,(aH (Y0J aCu.nd (hZ aQ))
  (aH (Y6O (lF true true rfl T.b_zip (Y4O 1 (Y0F FQ19 1))) (nY rfl (eT (Yan 4 aCu.nd) (eT (Yan 5 aCu.nd) lB))) (lA (sX PySem.F.plainAttrs_list PySem.F.slot_list_append PySem.F.type_list_append uB Y0B (Y1L (dN (bB (Y17 4) (Y8N 4 (Y95 (Y17 5) (Y3j FQ72 Y02 2 (Y17 4))))))))))
  (Y2p 3))),?_⟩
 refine Yu;intro d_ n_;refine zZ (by show 0<=64;decide) λL H1 ν φ s1=>Y06;refine mY.i (rr.t s1.t) RO f1 f4 λω ys H2 u X ly k2=>Y1U a ω xs ys (u _ _ (s1 _ _ α)) X ?_;refine Yds xs ys (∃(ε κ:Am) (l:Al),σ=[Y8a,Y2r,Y9 (iw:Int),Y3 L,ε,κ]/\aX L H2 H'/\H' L=Yi l/\Ybb K H' ((came F j x.2).take i) l) ⟨_,_,[],rfl,(Y0e).but,u _ _ φ,.nil⟩ (λi σ H' ⟨_,_,_,_,b',_⟩=>?_) ?_ ?_
 ·have na:a≠L:=λz=>by rw[z,ν]at α;cases α
  have η:ω≠L:=λz=>by rw[z,u _ _ φ]at X;cases X
  exact⟨b'.at na (u _ _ (s1 _ _ α)),b'.at η X⟩
 ·rintro i y z q3 σ H3 H4 hy ι ⟨ε,κ,l,rfl,Z,μ,C⟩ hq3 e4 U;obtain⟨e,τ,re⟩:=ρ i y hy;have J:=aE τ;have ξ:=Z.t (u _ _ φ);have n:=ξ.trans U.t;have G:=(s1.trans u).t.trans n;obtain⟨b,χ,v,rfl,δ,O,ο⟩:=re.t G;have ru:dC H4 (uZ e.1) (.ref χ):=wE O;obtain⟨bz,cz,va,S,R,_,υ⟩:=k2 i e τ;rw[ι]at S;cases S;have p:H4 L=Yi l:=U _ _ μ;have lz:l.length<=64:=by
   rw[<-C.length,fP];unfold came;rw[aA];exact Oo
  refine⟨q3,_,rfl,jQ.of e4,rfl,_,_,rfl,_,_,rfl,rfl,Y23⟩;intro d_;refine⟨_,rfl,VJ p,_,rfl,Y7A δ⟩;refine Y0g δ;refine Y0g (n _ _ R);refine Y2J (Y7A δ);have ζ:=RO.sum e J;have m6:=RO.m;refine jN.i (rt.flat G (oY fs ws)) hx ru β Oo λxw H5 s5 fw=>?_;have g:eJ (nX (x.2.zip e.1)):=tM _ λz ι=>(I z.1 (List.of_mem_zip (a:=z.1) (b:=z.2) ι).1).low;refine eN.i ((υ.t n).same s5).v fw.v (Y03) g (Yae (RO.fl e J) RO.n0 RO.nz) (Yaw (Qn.f g (OT (M:=M) I ζ)) (Nat.pow_pos RO.s1) (Y6j RO.wn)) λq6 H6 hq6 e6 s6=>?_;have em:mZ (eQ (Y0N j e.1)) (nX (x.2.zip e.1))=aqF F j x.2 e:=Ybu g (by rw[kP (Y03).pos g.pos,dB];unfold aqF;rw[dB];rfl);rw[em]at e6;refine pJ (by show 3<=64;decide) λγ H7 hq7 e7 s7=>?_;have d:=(s5.trans s6).trans s7;refine LO (d _ _ p) Oo λH8 e8 ψ=>?_;have D:=ψ.t (d _ _ p);refine⟨_,_,l++Y6D γ,rfl,(Z.trans (U.trans d).but).trans ψ,e8,?_⟩;have ec:(came F j x.2)[i]?=some (e,aqF F j x.2 e):=by unfold came;rw[aF,τ];rfl
  rw[gP ec];exact LC (aGX ((U.trans d).t.trans D) C) ((show VN K H7 (e,aqF F j x.2 e) (.ref γ)from⟨γ,χ,v,_,rfl,e7,d _ _ O,ο.t d.t,eV (s7 _ _ e6)⟩).t D)
 ·rintro σ H3 ⟨ε,κ,l,rfl,Z,μ,C⟩;refine Y6;have hc:(came F j x.2).take (YaP)=came F j x.2:=List.take_of_length_le (by unfold came;rw[aA];exact Oo);rw[hc]at C;exact k L l H3 ν μ C (aU.thru ν (s1.trans u) Z)
def aIe(F:Yc "onwards" "onwards" aDV)(T:Yf)(FQ23:Y0W 4 "comings" a12 (sC K))(FQ67:Y70 2 "times" K)(FQ45:Y00 "looks_on" ["says"] (lK K)):dP P w K mg base cY 5 f fd a12 (rZ K):=by
 refine Y13 aG0;obtain @⟨H,Q,E,t,r,a,F,W,M,N,B,Ns,fs,ws,iw,x,rt,rr,RO,ρ,κ,τ,l,G,k⟩:=h;refine Yg;intro cdv A S s hr _;have few:=RO.few;refine⟨_,(aH (Y0J aG0.nd (Y3j FQ23 Y02 1 Y07))
  (Y0V (SO (dY.o ["counts","says","share"] ["counts","says","share"] []) (eC (Y0B)) (λ_ _ _ _=>OQ (pX (Y0F FQ45 1))) (λ_ _ _ _=>(Y38 (YcZ (BF K rfl) (by rfl) 0) (Y4a FQ67 2 (Y7u 1))))))),?_⟩
 refine Yu;intro d_ n_;refine Y4q;refine sC.i rt rr RO ρ κ τ l G λD ys H1 hD u ν γ=>Y50 _ D (Y7x u) (FN (as:=came F a x.2) (λy=>onE y.1) (λy v=>VN K H1 y v) (λy v H'=>Y2Q (onD (y.1.1.sum,eQ (Y5e y.1.1*wq x.2 y.1.1*s0 y.1))) v) (λx y H1 H2 s r=>r.flat s rfl) (by unfold came;rw[aA];exact Oo) u ν (λv y H' hy I η=>?_) (λL δ H2 hL ο ω φ=>?_))
 ·obtain⟨e,ζ,rfl⟩:=aM.mp hy;obtain⟨b,υ,z,y,rfl,ι,g,α,I⟩:=I.t η.t;obtain⟨d,χ,Z,C,z0,μ,θ,m⟩:=(RO.sy e ζ).hd;have J:Y2=rv d:=θ;refine⟨b,[.ref υ,z,y],rfl,jQ.of ι,rfl,λQ' h=>?_,λH5 Q' X hp k'=>?_⟩
  ·refine Y7 (lK.i (f:=d) (fs:=χ) (by rw[<-Z];exact α) ?_);refine Y6;have u:Y22 0 d.1=onE e:=by
    by_cases q:0<d.1
    ·rw[cN q];exact(cN (m.mp q)).symm
    ·rw[cD q];exact(cD λz=>q (m.mpr z)).symm
   rw[u];exact h H' (Y0e)
  ·have g:=X _ _ g;obtain⟨az,vz,rfl,O,n⟩:=α.t X.t;rw[Z]at n;obtain⟨y0,R,U⟩:=n.get (i:=0) rfl;refine Y7 (Yey (ci e.1) (by rw[fO];exact jQ.of g));rw[IA];refine Y08 (jF O (Y4N R) ?_);refine eN.i (jE.of (I.same X)) U.v (Y03) C (Yae (RO.aq l ζ) RO.pz.1 RO.pz.2) (z0.up Dd) λq6 H6 hq6 p ψ=>?_;have em:mZ (aqF F a x.2 e) d=eQ (Y5e e.1*wq x.2 e.1*Y2):=Ybu C (by rw[kP (f:=aqF F a x.2 e) (Y03).pos C.pos,J];unfold aqF;rw[dB,dB]);have p:H6 q6=Yj [.int (mZ (aqF F a x.2 e) d).1,.int (mZ (aqF F a x.2 e) d).2]:=p;rw[em]at p;exact pJ (by show 2<=64;decide) λq7 H7 hq7 ξ ε=>k' _ H7 (ψ.trans ε) (Ya1 ξ Y8R (eV (ε _ _ p)))
 ·refine k L δ H2 (γ.free hL) ο ?_ (γ.trans ω);have β:bG H2 (((came F a x.2).filter λy=>onE y.1).map λy=>onD (y.1.1.sum,eQ (Y5e y.1.1*wq x.2 y.1.1*s0 y.1))) δ:=Paired.toRepL φ;have e3:((came F a x.2).filter λy=>onE y.1).map (λy=>onD (y.1.1.sum,eQ (Y5e y.1.1*wq x.2 y.1.1*s0 y.1)))=(onw F a x.2).map onD:=by
   unfold came onw;rw[List.filter_map,List.map_map,List.map_map];rfl
  rw[e3]at β;exact β
def aH1(F:Yc "spent" "spent" aDJ)(T:Yf)(FQ69:Y36 "total" a27 (jJ K))(FQ67:Y70 2 "times" K)(FQ51:Y0W 5 "onwards" a12 (rZ K)):dP P w K mg base cY 6 f fd a17 (wP K):=by
 refine Y13 aI9;obtain @⟨H,Q,E,t,r,cv,a,F,W,M,μ,N,B,C,fs,ws,iw,x,j,rt,rr,RO,ω,φ,hx,l,O,U,G,k⟩:=h;refine Yg;intro cdv A α s hr _;have few:=RO.few;have J:0<μ*(N*C^M)/\μ*(N*C^M)<2^2500:=by
  refine Y0p (eM G.c0 RO.pz.1);have h1:=YbU G.c1 RO.z;have h2:1000000000000000*2^1800<2^2500:=Kk;exact aJ h1 h2
 obtain⟨ac,vc,rfl,κ,θ⟩:=U;refine Y6h _ (fV FQ69 (Y7R ["looks","share"] ["looks","share","costs"] [3] (eC (Y3j FQ51 Y02 1 Y07)) (Y95 (bO (iA K) (aD 2) Y02) Y0m)));refine Y4q;refine rZ.i rt rr RO ω φ hx l O λD ρ H1 hD ξ X η=>Y1l D ξ ?_;have β:bG H1 ((a.filter onE).map λe=>onD (e.1.sum,eQ (Y5e e.1*wq x.2 e.1*Y2))) ρ:=by unfold onw at X;rw[List.map_map]at X;exact X
 have fl0:=List.length_filter_le onE a;refine FN (as:=a.filter onE) (λ_=>true) (λe v=>dC H1 (onD (e.1.sum,eQ (Y5e e.1*wq x.2 e.1*Y2))) v) (λe v H'=>Y2U H' (cB j e.1.sum*(Y5e e.1*wq x.2 e.1*Y2)) v) (λx y H1 H2 s r=>r.flat s (Y2h)) Oo ξ (Paired.ofRepL β) (λv e H' I re S=>?_) (λL zs H2 hL ψ s2 ν=>?_)
 ·obtain⟨d,m⟩:=gC.mp I;have ε:Y4C:=of_decide_eq_true m;obtain⟨b,us,rfl,τ,ζ⟩:=nZ (re.same S);obtain⟨u,y,rfl,ru,υ⟩:=DV ζ;cases(show u=V.int (e.1.sum:Nat)from ru);refine⟨b,_,rfl,jQ.of τ,rfl,λQ' h=>h H' (Y0e),λH5 Q' ι _ k'=>?_⟩;have n:=G.len e d ε;obtain⟨g,Z⟩:∃g,j[e.1.sum]?=some g:=Y4T n;obtain⟨vg,γ,δ⟩:=θ.get Z;have p:=G.at_ g (aE Z);refine Y08 (jF ((η.trans S).trans ι _ _ κ) (dR γ) ?_);refine Y6;refine eN.i ((δ.t ((η.trans S).trans ι).t).v) (jE.of (υ.same ι)) p.low (Y03) (nC (Qn.f p.low (p.q.dvd (mL _ (N*C^M)))) J.1 (Y6j J.2) (Y54 (show 1000<=2^10 by decide))) (Yae (show Qn (N*C^M) B (aW F a e.1*wq x.2 e.1*s0 e)from RO.aqs l d 0) RO.pz.1 RO.pz.2) λq6 H6 hq6 e6 s6=>k' _ H6 s6 (eV ?_);have em:mZ g (eQ (Y5e e.1*wq x.2 e.1*Y2))=eQ (cB j e.1.sum*(Y5e e.1*wq x.2 e.1*Y2)):=iW (iM p.low Y03) Y03 (by rw[kP p.low.pos (Y03).pos,dB,dB,pY Z]);rw[e6,em]
 ·rw[NQ]at ν;have r2:=NE (g:=λe:cW=>eQ (cB j e.1.sum*(Y5e e.1*wq x.2 e.1*Y2))) ν;have fl:∀f∈(a.filter onE).map (λe=>eQ (cB j e.1.sum*(aW F a e.1*wq x.2 e.1*s0 e))),Fn (μ*(N*C^M)) (1000*B) f:=λf ο=>by
   obtain⟨e,I,rfl⟩:=aM.mp ο;obtain⟨d,m⟩:=gC.mp I;have h:=(G.qn d (of_decide_eq_true m)).mul (RO.aqs l d 0);exact h.fq
  refine Yb8 ψ r2 (rP fl J.1 (Y6j J.2) (by rw[aA];exact Oo) (aL (dF 1000 RO.b) (show 1000*2^100<=2^690 by decide +kernel))) (λv H3 s3 R=>?_);rw[WG (f:=λe:cW=>cB j e.1.sum*(Y5e e.1*wq x.2 e.1*Y2)) λe _=>⟨Y03,dB _⟩]at R;have χ:cV (a.filter onE) (λe:cW=>cB j e.1.sum*(Y5e e.1*wq x.2 e.1*Y2))=Y4n F a (wq x.2) j:=by
   unfold gA;exact zK λe _ I=>by rw[Classical.not_not.mp (of_decide_eq_false I)];grind
  rw[χ]at R;exact k v H3 ((η.trans s2).trans s3) R
end
section
variable{F W M N B Ns:Nat}{es fs:Yh}
def GW(R:Y1h)(d:Ae):Y4 d=(if d=Ya then 1 else 0)+Y0u (Y4 e.1*Y2*Y2g e.1):=by
 have all:∀n,Ybc n->Y4d F n d=(if d=Ya then 1 else 0)+Y7z YcW (Y4 e.1*Y2*Y2g e.1):=λn=>by
  induction n with
  | zero=>intro _;rw[List.take_zero,lO,jI];grind
  | succ n ih =>
   intro c;have a:=aB (show n<es.length by exact Oo);rw[gP a,gJ,R.at a,ih Oo,oP];grind
 have:=all es.length (Yq)
 rwa [dL]at this
def BZ(R:Y1h){d:Ae}(h:d ∉ es.map (·.1)):Y4 d=0:=by
 rw[GW R d];obtain⟨l,r,c,j⟩:=R.root;rw[Y3H (h (by rw[q,c,bE,j];exact aS ..))];rw[cT (g:=Y2V) Y6a,oN]
 ·grind
 ·by_cases z:Y2=0
  ·rw[z];grind
  ·have:Y2g e.1=0:=by
    unfold iI;rw[Y4c 0 (λf i=>Y3H (h (by rw[<-q];exact R.fwd e a z f i))),gZ]
   rw[this];grind
def lkE(es:Yh)(c:Ae):Option cW:=es.find? λe=>Y0R e.1 c
def aFf(nd:(es.map (·.1)).Nodup){e:cW}(he:Y6y e):lkE es e.1=Y7f:=by
 unfold lkE
 induction es with
 | nil=>cases he
 | cons x es ih =>
  rw[bE,List.nodup_cons]at nd;rcases bK.mp he with rfl | he
  ·rw[List.find?_cons_of_pos (by simp)]
  ·have:x.1≠e.1:=λq=>nd.1 (by rw[q];exact Y3b e he);rw[List.find?_cons_of_neg (by simpa using this),ih nd.2 he]
def aBW{c:Ae}(h:c ∉ es.map (·.1)):lkE es c=none:=by
 unfold lkE;rw[List.find?_eq_none];intro e a q;exact h (aM.mpr ⟨e,a,by simpa using q⟩)
def xF(F:Nat)(es:Yh)(c:Ae)(j:Nat):Rat:=((lkE es c).map λe=>aW F es c*cB e.2 j).getD 0
def vH(R:Y1h){e:cW}(he:Y6y e)(j:Nat):xF F es e.1 j=Y4 e.1*cB e.2 j:=by unfold xF;rw[aFf R.nd he];rfl
def pW{c:Ae}(h:c ∉ es.map (·.1))(j:Nat):xF F es c j=0:=by unfold xF;rw[aBW h];rfl
def SU{α:Type}{l m:Yv}(h:l.Perm m)(f:Y2X):Y42=cV m f:=by
 induction h with
 | nil=>rfl
 | cons x _ ih=>rw[cZ,cZ,ih]
 | swap x y l=>rw[cZ,cZ,cZ,cZ];grind
 | trans _ _ h1 h2=>exact h1.trans h2
theorem JC{α:Type}[DecidableEq α]{f:Y2X}:∀{l m:Yv},l.Nodup->(∀x∈l,x∈m)->m.Nodup->(∀x∈m,x ∉ l->f x=0)->cV m f=Y42
 | [],m,_,_,_,h=>by
  rw[cT (g:=λ_=>0) λx hx=>h x hx (by simp),oN,jI]
 | a::l,m,nd,hs,ndm,h=>by
  rw[List.nodup_cons]at nd;have ha:=hs a (aS ..);rw[SU (List.perm_cons_erase ha),cZ,cZ];have:cV (m.erase a) f=cV l f:=JC nd.2 (λx hx=>(List.mem_erase_of_ne λq=>nd.1 (by rw[<-q];exact hx)).mpr (hs x (aY _ hx))) (ndm.erase a) λx hx c=>h x (List.mem_of_mem_erase hx) λq=>by
   rcases bK.mp q with rfl | q
   ·exact(List.Nodup.not_mem_erase ndm) hx
   ·exact c q
  rw[this]
def EN(g:Y01):Y0u (g e.1)=cV (es.map (·.1)) g:=by unfold cV;rw[List.map_map];rfl
def AV(R:Y1h){m:Ab}(ndm:m.Nodup)(hs:∀c∈es.map (·.1),c∈m)(q:Y01)(j:Nat):Y0u (Y4 e.1*cB e.2 j*q e.1)=Y3i m (xF F es c j*q c):=by
 rw[JC (l:=es.map (·.1)) (f:=λc=>xF F es c j*q c) R.nd hs ndm λc _ d=>by rw[pW d];grind,<-EN];exact cT λe a=>by rw[vH R a]
def UI(R:Y1h){g:Y01}(h:∀d,g d=(if d=Ya then 1 else 0)+Y0u (g e.1*Y2*Y2g e.1)):∀(n:Nat) (d:Ae),d.sum<=n->Y4 d=g d:=by
 have step:∀(n:Nat) (d:Ae),(∀e∈es,e.1.sum+1=d.sum->Y4 e.1=g e.1)->Y4 d=g d:=λn d hd=>by
  rw[GW R d,h d];congr 1;refine cT Y6a;by_cases z:d.sum=e.1.sum+1
  ·rw[hd e a z.symm]
  ·rw[CY (Yad a) z];grind
 intro n
 induction n with
 | zero=>intro d hd;exact step 0 d λe _ q=>Oo
 | succ n ih=>intro d hd;exact step (n+1) d λe _ q=>ih e.1 Oo
def mA(F:Nat)(es fs:Yh)(s:Rat)(c:Ae):Rat:=s*Y4 c+(1-s)*Y0N fs c
def mX(F:Nat)(es fs:Yh)(s:Rat)(c:Ae)(j:Nat):Rat:=s*xF F es c j+(1-s)*xF F fs c j
noncomputable def mS (F W:Nat) (es fs:Yh) (s:Rat) (c:Ae):Ak:=(List.range (1+W)).map λj=>eQ (mX F es fs s c j/Y0S)
open Classical in
noncomputable def mB (F:Nat) (es fs:Yh) (s:Rat) (c:Ae):Nat:=if Y2O=0 then 1 else 0
def mR(F:Nat)(es fs:Yh)(s:Rat)(c:Ae):Prop:=Y0S≠0
noncomputable def mE (F W M:Nat) (es fs:Yh) (s:Rat):Yh:=ruG F M (Y5M F s) (mS F W es fs s)
structure gX(F W M:Nat)(es fs:Yh)(s:Rat):Prop where
 ra:Y1h
 rb:tG F fs
 f1:1<=F
 f4:F<=4
 m5:M<=5
 sa:∀e∈es,MB (1+W) e.2
 sb:∀e∈fs,MB (1+W) e.2
 oa:∀e∈es,e.1.sum<=M/\(Y4C->e.1.sum<M)
 ob:∀e∈fs,e.1.sum<=M/\(Y4C->e.1.sum<M)
 s0':0<=s
 s1:s<=1
def MB.sum1{n:Nat}{gs:Ak}(h:MB n gs):Y6t n gs=1:=by
 have:=h.one
 rwa [pL,h.len]at this
def OP(R:Y1h)(hs:∀e∈es,MB (1+W) e.2)(c:Ae)(j:Nat):0<=xF F es c j:=by
 by_cases h:Y4f c (·.1)
 ·obtain⟨e,a,rfl⟩:=Y83;rw[vH R a];exact cA (R.nnf _) ((hs e a).nn j)
 ·rw[pW h];exact Rat.le_refl
def VP(R:Y1h)(hs:∀e∈es,MB (1+W) e.2)(c:Ae):bZ (1+W) (xF F es c)=Y4 c:=by
 by_cases h:Y4f c (·.1)
 ·obtain⟨e,a,rfl⟩:=Y83;rw[bQ (g:=λj=>Y4 e.1*cB e.2 j) λj _=>vH R a j,eE,(hs e a).sum1];grind
 ·rw[Y4c 0 (λj _=>pW h j),gZ,BZ R h]
end
section
variable{F W M:Nat}{es fs:Yh}{s:Rat}
def gX.ann(I:Y16)(c:Ae):0<=Y0S:=by
 have d:=cA I.s0' (I.ra.nnf c);have a:=cA (show(0:Rat)<=1-s by have:=I.s1;grind) (I.rb.nnf c);unfold mA;grind
def gX.xnn(I:Y16)(c:Ae)(j:Nat):0<=mX F es fs s c j:=by
 have d:=cA I.s0' (OP I.ra I.sa c j);have a:=cA (show(0:Rat)<=1-s by have:=I.s1;grind) (OP I.rb I.sb c j);unfold mX;grind
def gX.xsum(I:Y16)(c:Ae):bZ (1+W) (mX F es fs s c)=Y0S:=by
 unfold mX mA;rw[jW,eE,eE,VP I.ra I.sa,VP I.rb I.sb]
def gX.keyA(I:Y16)(hs:s≠0){c:Ae}(h:Y4f c (·.1)):mR F es fs s c:=by
 obtain⟨e,d,rfl⟩:=Y83;have a:=I.ra.posf d;have j:=cA (show(0:Rat)<=1-s by have:=I.s1;grind) (I.rb.nnf e.1);have g:0<s:=by have:=I.s0';grind
 have i:=Yen a;unfold mR mA;grind
def gX.keyB(I:Y16)(hs:s≠1){c:Ae}(h:Yd0 c (·.1)):mR F es fs s c:=by
 obtain⟨e,d,rfl⟩:=Y83;have a:=I.rb.posf d;have j:=cA I.s0' (I.ra.nnf e.1);have g:0<1-s:=by have:=I.s1;grind
 have i:=Yen a;unfold mR mA;grind
def gX.keys(I:Y16){c:Ae}(h:mR F es fs s c):(s≠0/\Y4f c (·.1))\/(s≠1/\Yd0 c (·.1)):=by
 refine Y76 (h ?_);unfold mA;have e:s*Y4 c=0:=by
  by_cases z:s=0
  ·rw[z];grind
  ·rw[BZ I.ra λa=>q (Y1Y z a)];grind
 have d:(1-s)*Y0N fs c=0:=by
  by_cases z:s=1
  ·rw[z];grind
  ·rw[BZ I.rb λa=>q (Y2E z a)];grind
 rw[e,d];grind
def gX.onA(I:Y16)(hs:s≠0){e:cW}(he:Y6y e)(h0:Y4C):mB F es fs s e.1=0:=by
 unfold mB;rw[if_neg];have a:=I.ra.posf he;have d:0<Y2:=by have:=I.ra.nn e he;grind
 have g:0<s:=by have:=I.s0';grind
 have i:=Yen (Rat.mul_pos a d);have h:=cA (show(0:Rat)<=1-s by have:=I.s1;grind) (OP I.rb I.sb e.1 0);have c:xF F es e.1 0=Y4 e.1*Y2:=vH I.ra he 0;unfold mX;rw[c];grind
def gX.onB(I:Y16)(hs:s≠1){e:cW}(he:e∈fs)(h0:Y4C):mB F es fs s e.1=0:=by
 unfold mB;rw[if_neg];have a:=I.rb.posf he;have d:0<Y2:=by have:=I.rb.nn e he;grind
 have g:0<1-s:=by have:=I.s1;grind
 have i:=Yen (Rat.mul_pos a d);have h:=cA I.s0' (OP I.ra I.sa e.1 0);have c:xF F fs e.1 0=Y0N fs e.1*Y2:=vH I.rb he 0;unfold mX;rw[c];grind
def gX.off(I:Y16){c:Ae}(h:mB F es fs s c=0):(s≠0/\∃e∈es,e.1=c/\s0 e≠0)\/(s≠1/\∃e∈fs,e.1=c/\s0 e≠0):=by
 refine Y76 ?_;have:Y2O=0:=by
  unfold mX;have d:s*xF F es c 0=0:=by
   by_cases z:s=0
   ·rw[z];grind
   ·by_cases hc:Y4f c (·.1)
    ·obtain⟨e,a,rfl⟩:=aM.mp hc;have:Y2=0:=cH λy=>q (.inl (Y0O z e a y));rw[vH I.ra a,show cB e.2 0=s0 e from rfl,this];grind
    ·rw[pW hc];grind
  have g:(1-s)*xF F fs c 0=0:=by
   by_cases z:s=1
   ·rw[z];grind
   ·by_cases hc:Yd0 c (·.1)
    ·obtain⟨e,a,rfl⟩:=aM.mp hc;have:Y2=0:=cH λy=>q (.inr (Y0O z e a y));rw[vH I.rb a,show cB e.2 0=s0 e from rfl,this];grind
    ·rw[pW hc];grind
  rw[d,g];grind
 unfold mB at h;rw[if_pos this]at h;cases h
def gX.vS(I:Y16)(c:Ae){j:Nat}(hj:j<1+W):cB (mS F W es fs s c) j=mX F es fs s c j/Y0S:=by
 unfold cB mS;rw[aV,aF,bL hj];exact dB _
def gX.mul(I:Y16){c:Ae}(h:mR F es fs s c){j:Nat}(hj:j<1+W):Y0S*cB (mS F W es fs s c) j=mX F es fs s c j:=by
 rw[I.vS c hj,Rat.div_def];have:Y0S≠0:=h;grind
def gX.tg(I:Y16)(r:(Y0i).length<=400):vF F M (Y5M F s) (mS F W es fs s) (mR F es fs s) where
 f1:=I.f1
 f4:=I.f4
 m5:=I.m5
 on:=λc h=>by
  rcases I.off h with⟨_,e,a,rfl,d⟩ | ⟨_,e,a,rfl,d⟩
  ·exact(I.oa e a).2 d
  ·exact(I.ob e a).2 d
 r:=r
 hd:=λc l=>by
  refine Y2v (eQ (Y2O/Y0S)) ((List.range W).map λj=>eQ (mX F es fs s c (j+1)/Y0S)) ?_
  ·unfold mS;rw[Nat.add_comm,List.range_succ_eq_map,bE,List.map_map];rfl
  ·have B:0<Y0S:=by
    have p:=I.ann c;have m:Y0S≠0:=l;grind
   have A:=I.xnn c 0;have e:Y2O=Y0S*rv (eQ (Y2O/Y0S)):=by
    rw[dB,Rat.div_def];grind
   have low:=cF (Y2O/Y0S);have u:=pD low.pos;have O:=nS low.pos;unfold mB;constructor
   ·intro n;rw[if_neg];intro z;rw[z]at e;have C:rv (eQ (Y2O/Y0S))=0:=by grind
    have:=iW low TU (by rw[C,lY]);rw[this]at n;exact Y6T n
   ·intro h;split at h
    ·cases h
    ·rename_i hn
     refine Y76 (hn ?_);have nn:0<=rv (eQ (Y2O/Y0S)):=by
      rw[dB,Rat.div_def];exact cA A (Ydg B)
     have w:0<=(eQ (Y2O/Y0S)).1:=by
      have:0<=(Y2O/Y0S).num:=Rat.num_nonneg.mpr (by rw[<-dB (Y2O/Y0S)];exact nn);exact this
     have D:(eQ (Y2O/Y0S)).1=0:=Oo;rw[D]at u;have:rv (eQ (Y2O/Y0S))=0:=by grind
     rw[e,this];grind
 root:=by
  obtain⟨P,N,p,m⟩:=I.ra.root;obtain⟨L,J,G,y⟩:=I.rb.root;by_cases z:s=0
  ·exact I.keyB (by rw[z];decide) (by rw[G,bE,y];exact aS ..)
  ·exact I.keyA z (by rw[p,bE,m];exact aS ..)
 fwd:=λc l d f i=>by
  rcases I.off d with⟨z,e,a,rfl,g⟩ | ⟨z,e,a,rfl,g⟩
  ·exact I.keyA z (I.ra.fwd e a g f i)
  ·exact I.keyB z (I.rb.fwd e a g f i)
end
section
variable{F W M N B Ns Ds:Nat}{es fs:Yh}{s:Rat}
def gX.zero(I:Y16){c:Ae}(h:¬mR F es fs s c)(j:Nat):mX F es fs s c j=0:=by
 unfold mX;have e:s*xF F es c j=0:=by
  by_cases z:s=0
  ·rw[z];grind
  ·rw[pW (es:=es) λa=>h (I.keyA z a)];grind
 have d:(1-s)*xF F fs c j=0:=by
  by_cases z:s=1
  ·rw[z];grind
  ·rw[pW (es:=fs) λa=>h (I.keyB z a)];grind
 rw[e,d];grind
def gX.s0m(I:Y16)(c:Ae):s0 (c,mS F W es fs s c)=Y2O/Y0S:=I.vS c Oo
def gX.onm(I:Y16){c:Ae}(h:mR F es fs s c):s0 (c,mS F W es fs s c)≠0↔mB F es fs s c=0:=by
 have e:=I.mul h (j:=0) Oo;have e:Y0S*s0 (c,mS F W es fs s c)=Y2O:=e;have g:Y0S≠0:=h;unfold mB;constructor
 ·intro d;rw[if_neg];intro z;rw[z]at e;exact d (by grind)
 ·intro a z;rw[z]at e;rw[if_pos (by grind)]at a;cases a
def gX.all(I:Y16)(T:vF F M (Y5M F s) (mS F W es fs s) (mR F es fs s)):∀(n:Nat) {c:Ae},Y4s n->mR F es fs s c->c∈Y6u F M F s:=by
 have step:∀(n:Nat) {c:Ae},(∀d:Ae,d.sum+1=c.sum->mR F es fs s d->d∈Y6u F M F s)->mR F es fs s c->c∈Y6u F M F s:=λn c i p=>by
  by_cases z:c=Ya
  ·obtain⟨r,w⟩:=Yf7 M (Y5M F s);rw[z,w];exact aS ..
  ·rcases I.keys p with⟨g,l⟩ | ⟨g,l⟩
   ·obtain⟨e,a,m,f,j,rfl⟩:=I.ra.bwd c l z;have u:=I.ra.len e a;have hd:=i e.1 (by rw[fX Oo]) (I.keyA g (Y3b e a));exact xH I.f1 T.on hd (I.onA g a m) j
   ·obtain⟨e,a,m,f,j,rfl⟩:=I.rb.bwd c l z;have u:=I.rb.len e a;have hd:=i e.1 (by rw[fX Oo]) (I.keyB g (Y3b e a));exact xH I.f1 T.on hd (I.onB g a m) j
 intro n
 induction n with
 | zero=>intro c p h;exact step 0 (λd q=>Oo) h
 | succ n i=>intro c p h;exact step (n+1) (λd q hd=>i Oo hd) h
def yN:(mE F W M es fs s).map (·.1)=Y6u F M F s:=by unfold mE ruG;rw[List.map_map];exact List.map_id' _
def gX.mem(I:Y16)(T:vF F M (Y5M F s) (mS F W es fs s) (mR F es fs s)){c:Ae}:c∈(mE F W M es fs s).map (·.1)↔mR F es fs s c:=by
 rw[yN];exact⟨T.ruC,I.all T _ (Yq)⟩
def gX.ent(I:Y16){e:cW}(he:e∈mE F W M es fs s):e=(e.1,mS F W es fs s e.1):=by
 obtain⟨c,_,rfl⟩:=aM.mp he
 rfl
def gX.rl(I:Y16)(T:vF F M (Y5M F s) (mS F W es fs s) (mR F es fs s)):tG F (mE F W M es fs s) where
 root:=by
  obtain⟨r,n⟩:=Yf7 M (Y5M F s);exact⟨_,_,by unfold mE ruG;rw[n,bE],rfl⟩
 len:=λe g=>by
  obtain⟨c,a,rfl⟩:=Y84;exact(AU I.f1 a).1
 nd:=by rw[yN];exact(sF F I.f4 M I.m5).sublist (jB I.f1)
 srt:=by
  unfold mE ruG;rw[List.pairwise_map];exact(pR F M).sublist (jB I.f1)
 fwd:=λe g i f h=>by
  obtain⟨c,a,rfl⟩:=Y84;rw[yN];exact xH I.f1 T.on a ((I.onm (T.ruC a)).mp i) h
 bwd:=λd hd l=>by
  rw[yN]at hd;obtain⟨c,a,p,j,u,e⟩:=JL I.f1 hd l;exact⟨(c,mS F W es fs s c),Y3b c a,(I.onm (T.ruC a)).mpr p,j,u,e⟩
 nn:=λe g=>by
  obtain⟨c,a,rfl⟩:=Y84;rw[I.s0m,Rat.div_def];have m:0<Y0S:=by
   have y:=I.ann c;have w:Y0S≠0:=T.ruC a;grind
  exact cA (I.xnn c 0) (Ydg m)
def gX.flow(I:Y16)(T:vF F M (Y5M F s) (mS F W es fs s) (mR F es fs s))(d:Ae):Y2f (mE F W M es fs s)=mA F es fs s d:=by
 refine UI (I.rl T) (Y6k) _ d (Yq);have i:(Y6u F M F s).Nodup:=(sF F I.f4 M I.m5).sublist (jB I.f1);have p:Y7z (mE F W M es fs s) (mA F es fs s e.1*Y2*Y2g e.1)=Y3i (Y6u F M F s) (Y2O*Y5c):=by
  rw[<-yN (W:=W),<-EN (es:=mE F W M es fs s) λc=>Y2O*Y5c];refine cT λe l=>?_;have r:=(I.mem T).mp (Y3b e l);have:=I.mul r (j:=0) Oo;rw[I.ent l];show mA F es fs s e.1*cB (mS F W es fs s e.1) 0*Y2g e.1=_;rw[this]
 rw[p];have m:Y3i (Y6u F M F s) (Y2O*Y5c)=s*Y3i (Y6u F M F s) (xF F es c 0*Y5c)+(1-s)*Y3i (Y6u F M F s) (xF F fs c 0*Y5c):=by
  rw[<-lS,<-lS,<-jX];exact cT λc _=>by unfold mX;grind
 rw[m];have u:s*Y3i (Y6u F M F s) (xF F es c 0*Y5c)=s*(Y4 d-if d=Ya then 1 else 0):=by
  by_cases z:s=0
  ·rw[z];grind
  ·have h:=AV I.ra i (λc a=>I.all T _ (Yq) (I.keyA z a)) (λc=>Y5c) 0;have g:=GW I.ra d;rw[<-h,g];have:Y0u (Y4 e.1*cB e.2 0*Y2g e.1)=Y0u (Y4 e.1*Y2*Y2g e.1):=rfl;rw[this];grind
 have n:(1-s)*Y3i (Y6u F M F s) (xF F fs c 0*Y5c)=(1-s)*(Y2f fs-if d=Ya then 1 else 0):=by
  by_cases z:s=1
  ·rw[z];grind
  ·have h:=AV I.rb i (λc a=>I.all T _ (Yq) (I.keyB z a)) (λc=>Y5c) 0;have g:=GW I.rb d;rw[<-h,g];have:Y7z fs (Y0N fs e.1*cB e.2 0*Y2g e.1)=Y7z fs (Y0N fs e.1*Y2*Y2g e.1):=rfl;rw[this];grind
 rw[u,n];unfold mA;grind
def gX.x(I:Y16)(T:vF F M (Y5M F s) (mS F W es fs s) (mR F es fs s))(c:Ae){j:Nat}(hj:j<1+W):xF F (mE F W M es fs s) c j=mX F es fs s c j:=by
 by_cases h:mR F es fs s c
 ·have g:=(I.mem T).mpr h;obtain⟨e,a,rfl⟩:=Y84;rw[vH (I.rl T) a,I.flow T];have:=I.mul h hj;have d:=I.ent a;rw[show e.2=mS F W es fs s e.1 from congrArg Prod.snd d,this]
 ·rw[pW λq=>h ((I.mem T).mp q),I.zero h]
def XI{P C:Nat}{x y:Rat}(hx:Qn P C x)(hy:Qn P C y)(hp:0<P)(h0:0<=x)(hxy:x<=y)(hy0:0<y)(hz:C*P<Y0y):sV 3000 (eQ (x/y)):=by
 obtain⟨X,a,h⟩:=hx;obtain⟨Y,c,i⟩:=hy;have d:(0:Rat)<(P:Rat):=by exact_mod_cast hp
 have g:0<Y:=by
  have:(0:Rat)<(Y:Rat):=by rw[<-c];exact Rat.mul_pos hy0 d
  exact_mod_cast this
 have X0:0<=X:=by
  have:(0:Rat)<=(X:Rat):=by rw[<-a];exact YfV h0 d
  exact_mod_cast this
 have XY:X<=Y:=by
  have:(X:Rat)<=(Y:Rat):=by rw[<-a,<-c];exact Rat.mul_le_mul_of_nonneg_right hxy (Rat.le_of_lt d)
  exact_mod_cast this
 have f:Fn Y.toNat 1 (eQ (x/y)):=by
  refine Qn.fq ⟨X,?_,Oo⟩;have e:((Y.toNat:Nat):Rat)=(Y:Rat):=by
   have:((Y.toNat:Nat):Int)=Y:=Oo;rw[<-sI,this]
  rw[e,<-a,<-c,Rat.div_def];grind
 obtain⟨j,l⟩:=f.num Oo;exact Y2q Oo
def gX.ru(I:Y16)(T:vF F M (Y5M F s) (mS F W es fs s) (mR F es fs s))(RA:Y1G)(RB:pK F W M N B Ns fs)(hs:Qn Ds 1 s)(ds:0<Ds)(few:(Y0i).length<=64)(hz:Ds*N*Ns^M<2^1800)(hb:2*B<=2^100):pK F W M (Ds*N) (2*B) Ns (mE F W M es fs s):=by
 have p:Qn Ds 1 (1-s):=by
  obtain⟨X,D,S⟩:=hs;have P:(0:Rat)<(Ds:Rat):=by exact_mod_cast ds
  have X0:0<=X:=by
   have:(0:Rat)<=(X:Rat):=by rw[<-D];exact YfV I.s0' P
   exact_mod_cast this
  refine⟨(Ds:Int)-X,?_,Oo⟩;rw[Rat.intCast_sub,sI,<-D];grind
 have A:∀{es:Yh},Y1G->∀c,Y2a (Y4 c):=λR c=>by
  rename_i es'
  by_cases h:c∈es'.map (·.1)
  ·obtain⟨e,a,rfl⟩:=Y83;exact R.fl e a
  ·rw[BZ R.rl h];exact Y7P _
 have y:∀{es:Yh},Y1G->∀c j,Y2a (xF F es c j):=λR c j=>by
  rename_i es'
  by_cases h:c∈es'.map (·.1)
  ·obtain⟨e,a,rfl⟩:=Y83;rw[vH R.rl a];exact R.fs e a j
  ·rw[pW h];exact Y7P _
 have G:∀c,Qn (Ds*N) (2*B) (Y0S):=λc=>((hs.mul (A RA c)).add (p.mul (A RB c))).le Oo;have z:∀c j,Qn (Ds*N) (2*B) (mX F es fs s c j):=λc j=>((hs.mul (y RA c j)).add (p.mul (y RB c j))).le Oo;have n0:0<Ds*N:=eM ds RA.n0;have nz:2*B*(Ds*N)<Y0y:=by
  have r:Ds*N*1<=Ds*N*Ns^M:=dF _ (Nat.pow_pos RA.s1);rw[Nat.mul_one]at r;have C:=YbU hb (aJ r hz);exact Oo
 have l:∀e∈mE F W M es fs s,mR F es fs s e.1:=λe a=>(I.mem T).mp (Y3b e a);have d:∀c,mR F es fs s c->0<Y0S:=λc h=>by
  have r:=I.ann c;have C:Y0S≠0:=h;grind
 refine⟨I.rl T,Y6a,Y6a,?_,λe a L=>?_,Y6a,λe a v=>?_,n0,RA.s1,hz,hb,RA.m⟩
 ·obtain⟨c,O,rfl⟩:=aM.mp a;exact(AU I.f1 O).2
 ·have w:=l e a;rw[show e.2=mS F W es fs s e.1 from congrArg Prod.snd (I.ent a)];have u:∀j,j<1+W->mX F es fs s e.1 j<=mA F es fs s e.1:=λj n=>by
   rw[<-I.xsum e.1];have r:=tP (mX F es fs s e.1) n;have C:0<=Y4k (1+W) (if i=j then 0 else mX F es fs s e.1 i):=rW λi _=>by
    split
    ·exact Rat.le_refl
    ·exact I.xnn _ _
   grind
  refine Y0j (by unfold mS;rw[aA,aT]) (λf J=>?_)
  ·obtain⟨j,n,rfl⟩:=aM.mp J;have n:=bR.mp n;refine⟨Y03,?_,XI (z _ _) (G _) n0 (I.xnn _ _) (u j n) (d _ w) nz⟩;have:0<=mX F es fs s e.1 j/mA F es fs s e.1:=by
    rw[Rat.div_def];exact cA (I.xnn _ _) (Ydg (d _ w))
   exact Rat.num_nonneg.mpr this
  ·rw[pL,show(mS F W es fs s e.1).length=1+W by unfold mS;rw[aA,aT]];rw[bQ (g:=λj=>(mA F es fs s e.1)⁻¹*mX F es fs s e.1 j) λj n=>by rw[I.vS _ n,Rat.div_def];grind,eE,I.xsum];have:=d _ w;grind
 ·unfold mE ruG;rw[aA];exact aL (jB I.f1).length_le few
 ·have:=(I.onm (l e a)).mp (by rw[<-I.ent a];exact L);exact T.on e.1 this
 ·rw[I.flow T];exact G _
 ·rw[I.flow T];by_cases hv:v<1+W
  ·rw[show e.2=mS F W es fs s e.1 from congrArg Prod.snd (I.ent a),I.mul (l e a) hv];exact z _ _
  ·rw[show cB e.2 v=0 from nF (by rw[show e.2=mS F W es fs s e.1 from congrArg Prod.snd (I.ent a)];unfold mS;rw[aA,aT];exact Oo)];rw[show mA F es fs s e.1*0=0 by grind];exact Y7P _
end
abbrev aDU:Stmt:=(top 10)
def aJf:Ye a00 a00 aDU:={}
abbrev aDT:Stmt:=(top 48)
def aAg:Ye ["rule","share","parts","entry","amount","part"] ["rule","share"] aDT:={}
inductive tU (K:Aa):Ym
 | i {H:Hp} {Q:VK} {E:XK} {x y:V} {p q:Rat} (h1:jE K H (eQ p) x) (h2:jE K H (Y1K) y) (h3:0<q) (z1:Y3G (eQ p)) (z2:Y3G Y1K) (k:AD H Q (eQ (p/q))):tU K [x,y] H Q E
def aGb{q:Rat}(h:0<q):0<(Y1K).1/\eJ ((Y1K).2,(Y1K).1)/\rv ((eQ q).2,(eQ q).1)=q⁻¹:=by
 have low:=cF q;have c:0<(Y1K).1:=by
  have a:=pD low.pos;rw[dB]at a;have:(0:Rat)<(((eQ q).1:Int):Rat):=by rw[<-a];exact Rat.mul_pos h (CW low.pos)
  exact_mod_cast this
 have d:eJ ((Y1K).2,(Y1K).1):=⟨c,by show Y0T ((Y1K).2) ((Y1K).1);rw[Int.gcd_comm];exact low.low⟩;refine Y0j c d;have a:=pD low.pos;rw[dB]at a;have e:=pD d.pos;have g:=nS low.pos;grind
def rN(H:Hp)(q:Rat)(xs:Y2n)(v:V):Prop:=∃b pv L vs,v=Y0k/\H b=Yj [pv,.ref L]/\Y2U H q pv/\H L=Yi vs/\Y1q (xs.map λx=>iR (eQ x)) vs
def UH(xs:Y2n):kC (xs.map λx=>iR (eQ x))=true:=by
 have:=mH (xs.map eQ)
 rwa [List.map_map]at this
theorem rN.same{H H':Hp}{q:Rat}{xs:Y2n}{v:V}(s:Y1)(h:rN H q xs v):rN H' q xs v:=by
 obtain⟨b,pv,L,i,a,g,c,d,e⟩:=h;exact⟨b,pv,L,i,a,s _ _ g,c.same s,s _ _ d,e.same s⟩
def rN.but{H H':Hp}{p:Addr}{kvs:Yt}{q:Rat}{xs:Y2n}{v:V}(s:Y14)(hp:H p=Y1c)(h:rN H q xs v):rN H' q xs v:=by
 obtain⟨b,pv,L,i,c,g,d,a,e⟩:=h;have t:=aX.tT s hp;exact⟨b,pv,L,i,c,t _ _ g,d.flat t (Y2h),s.at (λz=>by rw[z,hp]at a;cases a) a,bG.flat t (UH _) e⟩
def prX(F:Nat)(es:Yh)(W:Nat)(s:Rat)(e:cW):Y2n:=(List.range (1+W)).map λj=>Y4 e.1*s*cB e.2 j
def IM(H:Hp)(F W:Nat)(es ds:Yh)(s:Rat)(kvs:Yt):Prop:=(s=0/\kvs=[])\/(s≠0/\Paired (λ(e:cW) (p:List fT × V)=>p.1=Y2z e.1/\rN H (Y4 e.1*s) (prX F es W s e) p.2) ds kvs)
def IM.mono{H H':Hp}{F W:Nat}{es ds:Yh}{s:Rat}{kvs:Yt}(f:∀q xs v,rN H q xs v->rN H' q xs v)(h:IM H F W es ds s kvs):IM H' F W es ds s kvs:=by
 rcases h with h | ⟨a,c⟩
 ·exact .inl h
 ·exact Y2E a (Paired.imp' (λe p r=>⟨r.1,f _ _ _ r.2⟩) c)
inductive tS (K:Aa):Ym
 | i {H:Hp} {Q:VK} {E:XK} {r sv:V} {es:Yh} {F W M N B Ns Ds:Nat} {s:Rat} (h1:LW K H es r) (h2:Y1G) (h3:1<=F) (h4:F<=4) (h5:BH K H (eQ s) sv) (h6:Qn Ds 1 s) (h7:0<Ds) (h8:N*Ds<2^2500) (h9:W<=4) (k:∀d kvs H',H d=none->Y1->H' d=Y1c->IM H' F W es es s kvs->Y0E d):tS K [r,sv] H Q E
theorem AW{R:Y0r cW (Y5F × V)}:∀{ds:Yh}{kvs:Yt},Paired (λ(e:cW) (p:List fT × V)=>p.1=Y2z e.1/\R e p) ds kvs->kvs.map (·.1)=ds.map λe=>Y2z e.1
 | _,_,.nil=>rfl
 | _,_,.cons r t=>by rw[bE,bE,AW t,r.1]
theorem CC{α β:Type}{R:Y0r α β}:∀{l:Yv}{zs:Yaa}{x:α}{v:β},Paired R l zs->R x v->Paired R (l++[x]) (zs++[v])
 | _,_,_,_,.nil,h=>.cons h .nil
 | _,_,_,_,.cons r t,h=>.cons r (CC t h)
def QX(f:Fr):Y6n (iR f):=(EA.tup (n:=1) (λd a=>by
 rcases bK.mp a with rfl | a
 ·exact EA.int _
 ·rw[Y72];exact EA.int _)).ok
def aB5(f g:Fr):PyData.eqv (iR f) (iR g)=Y0R f g:=by
 obtain⟨a,b⟩:=f;obtain⟨c,d⟩:=g;show((a == c)&&((b == d)&&true))=_;rw[Bool.eq_iff_iff];simp
section
def aId(F:Yc "over" "over" aDU)(T:Yf)(FQ67:Y70 2 "times" K):dP P w K mg base cY 3 f fd a00 (tU K):=by
 refine YfL aJf ?_;obtain @⟨H,Q,E,x,y,p,q,D,C,l,G,g,k⟩:=h;refine Yg;intro u A a s M _;obtain⟨O,d,m⟩:=aGb l;obtain⟨N,rfl,e⟩:=C;refine⟨_,(aH (Y77 (eB nP (Y2M) aI) OS)
  (aH (Y80 (eB vK (Y2M) aI) (Y4a FQ67 0 (Y38 (BO vU (Y2M)) (BO vU (Y2M)))))
  (Y0V (Y4a FQ67 0 (Y38 Y2M Y2M))))),?_⟩
 refine Yu;intro J R;refine Y58;refine Y87 (tF (cD λz=>by injection z with z;exact Oo) ?_);refine Y58;refine Y3O _ _ _ (tF (cD Oo) ?_);refine Y98 e ?_;refine Y58;refine pJ (by show 2<=64;decide) λL H3 r B j=>eN.i (jE.same j D) (jE.new (f:=((Y1K).2,(Y1K).1)) B) (Y03) d G ⟨g.2,g.1⟩ ?_;have n:mZ (eQ p) ((Y1K).2,(Y1K).1)=eQ (p/q):=Ybu d (by rw[kP (Y03).pos d.pos,m,dB,dB,Rat.div_def]);rw[n];exact k.of j
def aIc(F:Yc "parts_of" "parts_of" aDT)(T:Yf)(FQ19:Y36 "amounts" a43 (mY K))(FQ67:Y70 2 "times" K):dP P w K mg base cY 4 f fd ["rule","share"] (tS K):=by
 refine Y13 aAg;obtain @⟨H,Q,E,r,sv,l,F,W,M,N,B,Ns,η,C,rr,RO,f1,f4,rs,sq,d0,nd,w4,k⟩:=h;refine Yg;intro cdv A ab s hr _;obtain⟨a,xs,rfl,ξ,lx,rxs⟩:=id rr;have few:=RO.few;have nd0:0<N*η:=eM RO.n0 d0;refine⟨_,(aH (Y10 aAg.nd nJ)
  (aH (gL PassesOwn.never rfl (lF true true rfl T.b_zip (Y4O 0 (Y0F FQ19 0))) (nY rfl (eT (Yan 3 aAg.nd) (eT (Yan 4 aAg.nd) lB))) (aH (Y7r 5 aAg.nd (Y95 (Y17 4) Y0m))
  (aR (Y77 (Y1x (aE1 K hr.units) 5 (Yeo YaJ rfl)) (jA hr.u1 (Y07) (Y17 3) (Y38 (aD 5) (Y7B ["one","part"] [5] (vT (Y17 3)) (Y3F FQ67 1 0))))))))
  (Y2p 2))),?_⟩
 refine Yu;intro d_ n_;intro p ρ;have S:=Y6G [] ρ;have ζ:(upd H p (.dT [])) p=Y0c []:=bP;generalize upd H p (.dT [])=H0 at S ζ;refine Y06;refine mY.i (rr.t S.t) RO f1 f4 λam ys H2 s2 ν ly k2=>?_;have J:=S.trans s2;have U:=s2 _ _ ζ;refine Y1U a am xs ys (J _ _ ξ) ν ?_;have na:a≠p:=λz=>by rw[z,ρ]at ξ;cases ξ
 have ψ:am≠p:=λz=>by rw[z,U]at ν;cases ν
 refine Yds xs ys (∃(o3 χ o5:Am) (d:Yt),σ=[Y2r,some sv,Y2e,o3,χ,o5]/\aX p H2 H'/\H' p=Y0c d/\IM H' F W l (l.take i) C d) (Y1U _ _ _ [] ((Y0e).but) U (by by_cases z:C=0;exact Y1Y z rfl;exact Y2E z .nil)) (λi σ H' ⟨_,_,_,_,_,b',_⟩=>⟨b'.at na (J _ _ ξ),b'.at ψ ν⟩) ?_ ?_
 ·rintro i y z q3 σ H3 H4 hy hz ⟨o3,χ,o5,d,rfl,ι,e3,G⟩ hq3 e4 γ;obtain⟨e,α,re⟩:=rxs i y hy;have n:=aE α;have hi:i<l.length:=(aC.mp α).1;have t23:=aX.tT ι U;have R:=t23.trans γ.t;have δ:=J.t.trans R;obtain⟨b,cu,v,rfl,hb,aa,rv'⟩:=re.t δ;obtain⟨bz,cz,va,μ,θ,_,fva⟩:=k2 i e α;rw[hz]at μ;cases μ;have O:H4 p=Y0c d:=γ _ _ e3;refine⟨q3,_,rfl,jQ.of e4,rfl,_,_,rfl,_,_,rfl,rfl,Yu⟩;intro d_ n_;refine Y0g (R _ _ θ);refine Y6;have dz:η<Y0y:=by
   have L:1*η<=N*η:=Y1s RO.n0;rw[Nat.one_mul]at L;exact Y7W L nd
  refine eN.i (fva.t R).v (rs.t δ).v (Y03) (Y03) (Yae (RO.fl e n) RO.n0 RO.nz) (Yaw sq.fq d0 dz) λq5 H5 hq5 ο X=>?_;rw[aFb]at ο;have pq:Qn (N*η) B (Y0N l e.1*C):=by have:=(RO.fl e n).mul sq;rwa [Nat.mul_one]at this
  have hnz:jE K H5 (0,1) (YaJ):=Y04 c.NOUGHT (wM T.o_NOUGHT);refine Y7 (reK (jE.new ο).k hnz.k (QX _) (QX _) ?_);rw[aB5];refine Y6;have fpos:=RO.rl.posf n;by_cases z:C=0
  ·have ez:eQ (Y0N l e.1*C)=(0,1):=by rw[z,show aW F l e.1*0=0 by grind,rC]
   rw[ez];refine tF Dd (Y1U _ _ _ d (ι.trans (γ.trans X).but) (X _ _ O) ?_);rcases G with⟨_,rfl⟩ | ⟨h,_⟩
   ·exact Y1Y z rfl
   ·exact Y7S z
  ·have en:¬eQ (Y0N l e.1*C)=(0,1):=λq=>by
    have L:=congrArg rv q;rw[dB,show rv (0,1)=0 from lY]at L;have:Y0N l e.1≠0:=by grind
    rcases Rat.mul_eq_zero.mp L with h | h
    ·exact this h
    ·exact z h
   rw[cD en];refine CT Dd (Y23);intro d_;rcases G with⟨h,_⟩ | ⟨_,G⟩
   ·exact absurd h z
   obtain⟨sa,sx,rfl,κ,I⟩:=rv';have ls:e.2.length=1+W:=(RO.sy e n).len;refine Y91 (X _ _ hb);refine Y1Z sa (Ya0 (X _ _ κ)) (rF (λj y H'=>Y2U H' (Y0N l e.1*C*cB e.2 j) y) (λj y H1 H2 s r=>r.flat s (Y2h)) (by rw[I.len,ls];exact Oo) (X _ _ κ) (λj x H' Q' hx s' k'=>?_) (λD zs H6 hD e6 s6 ε ac=>?_))
   ·obtain⟨g,hg,rg⟩:=I.at_ j x hx;obtain⟨υ,_,zg⟩:=(RO.sy e n).at_ g (aE hg);refine Y06;refine eN.i (jE.new (s' _ _ ο)) ((rg.t X.t).t s'.t).v (Y03) υ (Yae pq nd0 nd) (zg.up Dd) λτ H7 hq7 ω Z=>k' _ H7 Z (eV ?_);have em:mZ (eQ (Y0N l e.1*C)) g=eQ (Y0N l e.1*C*cB e.2 j):=Ybu υ (by rw[kP (Y03).pos υ.pos,dB,dB,pY hg]);rw[<-em];exact ω
   ·refine pJ (by show 2<=64;decide) λτ H7 hq7 ω Z=>?_;have m:=(X.trans s6).trans Z;refine Y91 (m _ _ hb);have lk:d.length=(l.take i).length:=G.length.symm;refine Y5t (m _ _ O) e.1 (by rw[fO];exact m _ _ aa) (by rw[lk,fP];exact Oo) (λH8 e8 b8=>?_);have keys:=AW G;have new:gF d (Y2z e.1)=none:=by
     cases q:gF d (Y2z e.1)with
     | none=>rfl
     | some u =>
      exfalso;have L:=GH q;rw[keys]at L;obtain⟨e',h2,h3⟩:=aM.mp L;have h4:e'.1=e.1:=Y3h h3;have h5:=RO.rl.nd;rw[<-List.take_append_drop i l,bI]at h5;have h6:e.1∈(l.drop i).map (·.1):=by
       rw[List.drop_eq_getElem_cons hi,bE];have:l[i]=e:=by rw[aB hi]at α;exact gB α
       rw[this];exact aS ..
      exact(List.nodup_append.mp h5).2.2 _ (aM.mpr ⟨e',h2,h4⟩) _ h6 rfl
    rw[JP _ new]at e8;refine Y1U _ _ _ _ ((ι.trans (γ.trans m).but).trans b8) e8 (.inr (Y0p z));rw[gP α];have β:=m _ _ O;have lst:H7 D=Yi zs:=Z _ _ e6;have pt:rN H7 (Y0N l e.1*C) (prX F l W C e) (.ref τ):=by
     refine⟨τ,_,D,zs,rfl,ω,eV (Z _ _ (s6 _ _ ο)),lst,?_⟩;refine bG.ofIdx (by unfold prX;rw[ε,aA,aA,aT,I.len,ls]) λj y hj=>?_;have φ:j<1+W:=by
      have:=(aC.mp hj).1;rw[ε,I.len,ls]at this;exact this
     exact Y0K (by unfold prX;rw[aF,aF,bL φ];rfl) ((ac j y hj).same Z)
    exact CC (Paired.imp' (λe p r=>⟨r.1,((r.2.same (γ.trans m)).but b8 β)⟩) G) (Y0I (pt.but b8 β))
 ·rintro σ H3 ⟨o3,χ,o5,d,rfl,ι,e3,G⟩;refine Y6;rw[show l.take (min xs.length ys.length)=l from List.take_of_length_le Oo]at G;exact k p d H3 ρ (aU.thru ρ J ι) e3 G
end
abbrev aBc:Stmt:=(top 49)
def aFE:Ye ["one","other","whole"] a00 aBc:={}
abbrev Po:=Option (Rat × Y2n)
def PtO(H:Hp)(o:Po)(v:V):Prop:=match o with
 | none=>v=.non
 | some p=>rN H p.1 p.2 v
def ET(o:Po):Rat:=(o.map (·.1)).getD 0
def EL(o:Po)(j:Nat):Rat:=(o.map λp=>p.2.getD j 0).getD 0
structure VG(m P C:Nat)(o:Po):Prop where
 pos:∀p,o=some p->0<p.1/\Qn P C p.1/\p.2.length=m/\∀x∈p.2,Qn P C x
@[irreducible] def pZ(K:Aa)(n:Nat):Sp:=λvs H Q _=>∃(x y:V) (a b:Po) (m P C:Nat),vs=[x,y]/\PtO H a x/\PtO H b y/\1<=n/\(a≠none\/(2<=n/\b≠none))/\VG m P C a/\VG m P C b/\0<P/\P<2^2500/\C<=2^190/\m<=5/\∀v H',Y1->Y2Q (zW ((List.range m).map λj=>eQ ((EL a j+EL b j)/(ET a+ET b)))) v->Y1H
def JF{K:Aa}{n:Nat}{H:Hp}{Q:VK}{E:XK}{x y:V}{a b:Po}{m P C:Nat}(h1:PtO H a x)(h2:PtO H b y)(h3:1<=n)(h4:a≠none\/(2<=n/\b≠none))(h5:VG m P C a)(h6:VG m P C b)(h7:0<P)(h8:P<2^2500)(h9:C<=2^190)(h10:m<=5)(k:∀v H',Y1->Y2Q (zW ((List.range m).map λj=>eQ ((EL a j+EL b j)/(ET a+ET b)))) v->Y1H):pZ K n [x,y] H Q E:=by
 unfold pZ;exact⟨x,y,a,b,m,P,C,rfl,h1,h2,h3,h4,h5,h6,h7,h8,h9,h10,k⟩
def DA{H:Hp}{xs:Y2n}{vs:Al}(r:Y1q (xs.map λx=>iR (eQ x)) vs){i:Nat}{v:V}(h:vs[i]?=Yy):∃x,Y0q=Y8/\Y2U H x v:=by
 have c:Y1q ((xs.map eQ).map iR) vs:=by rw[List.map_map];exact r
 obtain⟨f,a,d⟩:=fK c h;rw[aF]at a;cases hx:Y0q with
 | none=>rw[hx]at a;cases a
 | some x=>rw[hx]at a;cases a;exact Y04 x d
section
def aHB(F:Yc "says_of_parts" "says_of_parts" aBc)(T:Yf):dP P w K mg base cY 4 f fd a00 (pZ K 0):=by
 refine F.okw aFE (λg H Q E h=>?_) (λe A d s H g Q E i h=>?_)
 ·unfold pZ at h;obtain⟨x,y,a,b,m,P,C,_,_,_,h,_⟩:=h;exact Oo
 ·unfold pZ at h;obtain⟨x,y,a,b,m,P,C,_,_,_,h,_⟩:=h;exact Oo
def aH3(n:Nat)(F:Yc "says_of_parts" "says_of_parts" aBc)(T:Yf)(FQ52:Y6d 3 "over" (tU K))(FQ55:Y6d 2 "plus" (kH K))(FQ62:Y6d (4+n) "says_of_parts" (pZ K n)):dP P w K mg base cY (4+n+1) f fd a00 (pZ K (n+1)):=by
 refine Y13 aFE;unfold pZ at h;obtain⟨x,y,a,b,m,Pn,C,rfl,pa,pb,n1,hor,oa,ob,J,B,ρ,m5,k⟩:=h;refine Yg;intro cdv A outer s α _;refine⟨_,(aH (Y80 (Y1x CF 0 lG) (YcB FQ62 Oo (Y4O 1 Y02)))
  (aH (Y80 (Y1x CF 1 lG) (Y5E dH (by rfl) Kk ["part","one"] [0] (eC (Y5R)) (YcB FQ52 Oo (Y4O 0 (Y7u 1)))))
  (aH (Y7r 2 aFE.nd (YcB FQ55 Oo (Y8N 0 Y2M)))
  (Y0V (Yam dH (by rfl) Kk (Y1L (Y7R ["first","second"] ["first","second","whole"] [2] (lF false false rfl T.b_zip (Y8N 0 Y2M)) (YcB FQ52 Oo (Y2j (YcB FQ55 Oo (Y4O 0 Y0m)) Y07))))))))),?_⟩
 refine Yu;intro d_ n_;refine Y5J _ _ ?_;cases a with
 | none =>
  have Z:x=.non:=pa;subst Z;refine CT (cN rfl) (Y23);intro d_;have hb:2<=n+1/\b≠none:=hor.resolve_left λq=>q rfl;refine Y06;refine JF pb pa Oo (.inl hb.2) ob oa J B ρ m5 λv H' N r'=>k v H' N ?_;have e1:∀j,EL b j+EL none j=EL none j+EL b j:=λj=>Rat.add_comm _ _;have γ:ET b+ET none=ET none+ET b:=Rat.add_comm _ _;rw[γ]at r';simp only[e1]at r';exact r'
 | some pr =>
  obtain⟨g,d⟩:=pr;obtain⟨hq1,X,ξ,ι⟩:=oa.pos _ rfl;have ξ:d.length=m:=ξ;obtain⟨b1,pv1,L1,S,rfl,M,θ,G,W⟩:=(show rN H g d x from pa);refine tF (cD λz=>by cases z) (Y5J _ _ ?_);have lv1:S.length=m:=by have:=bG.len W;rw[aA]at this;exact Oo
  cases b with
  | none =>
   have hy:y=.non:=pb;subst hy;refine CT (cN rfl) (Y23);intro d_;refine Y0g M;refine Y1l L1 G (fI (λj y H'=>∃x,d[j]?=Y8/\Y2U H' (x/g) y) (λj y H1 H2 s ⟨x,h1,h2⟩=>⟨x,h1,h2.flat s (Y2h)⟩) Oo G (λj v H' Q' hv N k'=>?_) (λD ν H1 hD e1 s1 hz hr1=>?_))
   ·obtain⟨x,Z,β⟩:=DA W hv;refine Y91 (N _ _ M);exact tU.i (jE.of (β.same N)) (jE.of (θ.same N)) hq1 (kN (ι x (aE Z)) J B (Y54 ρ)) (kN X J B (Y54 ρ)) λu H2 hq2 γ s2=>k' _ H2 s2 ⟨x,Z,eV γ⟩
   ·refine Y3E D ν (Y8H e1 ?_);have sl:=Y2y ν hl;refine k _ _ (s1.trans sl) (Ygc bP (by rw[hz,aA,aA,aT];exact Oo) (λj y η=>?_));obtain⟨x,Z,β⟩:=hr1 j y η;have R:j<m:=by have:=(aC.mp η).1;exact Oo
    refine Y0j _ (by rw[aF,aF,bL R];rfl);have γ:Ybs (g,d) j=x:=by show Y7T j=x;rw[aV,Z];rfl
    show Y2U _ ((Ybs (g,d) j+EL none j)/(ET (some (g,d))+ET none)) y;rw[γ,show EL none j=0 from rfl,show ET (some (g,d))=g from rfl,show ET none=0 from rfl,show x+0=x by grind,show g+0=g by grind];exact β.same sl
  | some pr2 =>
   obtain⟨u,e⟩:=pr2;obtain⟨hq2,κ,δ,nx2⟩:=ob.pos _ rfl;have δ:e.length=m:=δ;obtain⟨b2,pv2,Lb,U,rfl,ζ,rp2,ο,ε⟩:=(show rN H u e y from pb);have lv2:U.length=m:=by have:=bG.len ε;rw[aA]at this;exact Oo
   have τ:C<=2^200:=Y54 ρ;have c3:C+C<=2^200:=by
    have:(2:Nat)^190+2^190<=2^200:=Kk;exact Oo
   refine tF (cD λz=>by cases z) Y6;refine Y5Z M (Y0g ζ);refine kH.i (jE.of θ) (jE.of rp2) (Y03) (Y03) (kN X J B τ) (kN κ J B τ) λq3 H3 hq3 e3 O=>?_;rw[aAq]at e3;have ω:Qn Pn (C+C) (g+u):=X.add κ;have w0:0<g+u:=by grind
   refine Y0g (O _ _ M);refine Y0g (O _ _ ζ);refine Y1U L1 Lb S U (O _ _ G) (O _ _ ο) (kM (b1:=false) (b2:=false) (xs:=S) (ys:=U) (λj y H'=>∃p r,d[j]?=some p/\e[j]?=some r/\Y2U H' ((p+r)/(g+u)) y) (λj y H1 H2 s ⟨p,r,h1,h2,h3⟩=>⟨p,r,h1,h2,h3.flat s (Y2h)⟩) Oo (O _ _ G) (O _ _ ο) Oo (λj v1 v2 H' Q' ψ hv2 N k'=>?_) (λD ν H4 hD e4 s4 hz φ=>?_))
   ·obtain⟨p,I,χ⟩:=DA W ψ;obtain⟨r,L,rx2⟩:=DA ε hv2;have n1:=ι p (aE I);have n2:=nx2 r (aE L);have μ:=O.trans N;refine Y06;refine kH.i (jE.of (χ.same μ)) (jE.of (rx2.same μ)) (Y03) (Y03) (kN n1 J B τ) (kN n2 J B τ) λq5 H5 hq5 υ s5=>?_;rw[aAq]at υ;refine Y6;exact tU.i (jE.of (eV υ)) (jE.of (eV ((N.trans s5) _ _ e3))) w0 (kN (n1.add n2) J B c3) (kN ω J B c3) λq6 H6 hq6 e6 s6=>k' _ H6 (s5.trans s6) ⟨p,r,I,L,eV e6⟩
   ·refine Y3E D ν (Y8H e4 ?_);have sl:=Y2y ν hl;refine k _ _ ((O.trans s4).trans sl) (Ygc bP (by rw[hz,aA,aA,aT];exact Oo) (λj y η=>?_));obtain⟨p,r,I,L,β⟩:=φ j y η;have R:j<m:=by have:=(aC.mp η).1;exact Oo
    refine Y0j _ (by rw[aF,aF,bL R];rfl);show Y2U _ ((Ybs (g,d) j+Ybs (u,e) j)/(ET (some (g,d))+ET (some (u,e)))) y;have υ:Ybs (g,d) j=p:=by show Y7T j=p;rw[aV,I];rfl
    have e6:Ybs (u,e) j=r:=by show e.getD j 0=r;rw[aV,L];rfl
    rw[υ,e6,show ET (some (g,d))=g from rfl,show ET (some (u,e))=u from rfl];exact β.same sl
end
abbrev aD0:Stmt:=(top 47)
def aAh:Ye ["one","other","share","one_parts","other_parts","table","counts"] a45 aD0:={}
def aBP{Ds:Nat}{s:Rat}(hs:Qn Ds 1 s)(ds:0<Ds)(h0:0<=s)(h1:s<=1):Qn Ds 1 (1-s):=by
 obtain⟨X,a,d⟩:=hs;have c:(0:Rat)<(Ds:Rat):=by exact_mod_cast ds
 have X0:0<=X:=by
  have:(0:Rat)<=(X:Rat):=by rw[<-a];exact YfV h0 c
  exact_mod_cast this
 refine⟨(Ds:Int)-X,?_,Oo⟩;rw[Rat.intCast_sub,sI,<-a];grind
theorem XO{H:Hp}{F W:Nat}{es:Yh}{s:Rat}:∀{ds:Yh}{kvs:Yt},Paired (λ(e:cW) (p:List fT × V)=>p.1=Y2z e.1/\rN H (Y4 e.1*s) (prX F es W s e) p.2) ds kvs->(ds.map (·.1)).Nodup->∀e∈ds,∃v,Y2I e.1=Yy/\rN H (Y4 e.1*s) (prX F es W s e) v
 | _,_,.nil,_,e,he=>by cases he
 | d::ds,p::kvs,.cons r t,nd,e,he=>by
  rw[bE,List.nodup_cons]at nd;rcases bK.mp he with rfl | he
  ·exact⟨p.2,jG (by rw[r.1]),r.2⟩
  ·obtain⟨v,h1,h2⟩:=XO t nd.2 e he;refine⟨v,?_,h2⟩;have:¬p.1=kT (ci e.1):=λz=>nd.1 (by
    rw[r.1]at z;rw[show d.1=e.1 from jT (jR z)];exact aM.mpr ⟨e,he,rfl⟩)
   rw[jH this];exact h1
def IM.po{H:Hp}{F W M N B Ns Ds:Nat}{es:Yh}{s:Rat}{kvs:Yt}(h:IM H F W es es s kvs)(R:Y1G)(hs:Qn Ds 1 s)(s0':0<=s)(c:Ae) :
  ∃a:Po,PtO H a ((gF kvs (kT (ci c))).getD .non)/\ET a=s*Y4 c/\(∀j,j<1+W->EL a j=s*xF F es c j)/\VG (1+W) (N*Ds) B a/\((s≠0/\Y4f c (·.1))->a≠none):=by
 have d:(¬(s≠0/\Y4f c (·.1)))->Y2I c=none->∃a:Po,PtO H a ((gF kvs (kT (ci c))).getD .non)/\ET a=s*Y4 c/\(∀j,j<1+W->EL a j=s*xF F es c j)/\VG (1+W) (N*Ds) B a/\((s≠0/\Y4f c (·.1))->a≠none):=λm r=>by
  refine⟨none,by rw[r];rfl,?_,λj _=>?_,⟨λp q=>by cases q⟩,YeG q m⟩
  ·by_cases z:s=0
   ·rw[z];show(0:Rat)=_;grind
   ·rw[BZ R.rl λg=>m ⟨z,g⟩];show(0:Rat)=_;grind
  ·by_cases z:s=0
   ·rw[z];show(0:Rat)=_;grind
   ·rw[pW λg=>m ⟨z,g⟩];show(0:Rat)=_;grind
 rcases h with⟨z,rfl⟩ | ⟨z,h⟩
 ·exact d (λq=>q.1 z) rfl
 ·by_cases g:Y4f c (·.1)
  ·obtain⟨e,i,rfl⟩:=Y84;obtain⟨v,l,w⟩:=XO h R.rl.nd e i;refine⟨some (Y4 e.1*s,prX F es W s e),by rw[l];exact w,?_,λj y=>?_,⟨λp q=>?_⟩,λ_ q=>by cases q⟩
   ·show Y4 e.1*s=_;grind
   ·show(prX F es W s e).getD j 0=_;unfold prX;rw[aV,aF,bL y,vH R.rl i];show Y4 e.1*s*cB e.2 j=_;grind
   ·cases q;refine⟨Rat.mul_pos (R.rl.posf i) (by grind),?_,by unfold prX;rw[aA,aT],λx n=>?_⟩
    ·have:=(R.fl e i).mul hs;rwa [Nat.mul_one]at this
    ·obtain⟨j,_,rfl⟩:=aM.mp n;have:=(R.fs e i j).mul hs;rw[Nat.mul_one]at this;rw[show aW F es e.1*s*cB e.2 j=aW F es e.1*cB e.2 j*s by grind];exact this
  ·refine d (λq=>g q.2) ?_;cases q:Y2I c with
   | none=>rfl
   | some u =>
    exfalso;have l:=GH q;rw[AW h]at l;obtain⟨e,i,A⟩:=aM.mp l;exact g (by rw[<-Y3h A];exact Y3b e i)
def aDx{K:Aa}{H:Hp}{gs:Ak}{v:V}(h:Y6p gs v):LU K H gs v:=by
 obtain⟨c,e,rfl,a,r⟩:=oA h;refine Y11 c e a ⟨hJ r,λi x g=>?_⟩;obtain⟨f,d,j⟩:=fK r g;exact⟨f,d,.inl j⟩
def QN{H:Hp}{kvs:Yt}{ys:Al}{cs:Ab}(h:DZ H kvs ys)(e:kvs.map (·.1)=cs.map λc=>Y2z c){i:Nat}{v:V}(hv:Y1r=Yy):∃c b,cs[i]?=Y1u/\v=Y0k/\H b=Yj ((ci c).map V.int):=by
 have m:i<kvs.length:=by rw[<-h.1];exact(aC.mp hv).1
 have d:=aB m;obtain⟨b,g,n⟩:=h.2 i _ d;rw[hv]at g;cases g;have a:=congrArg (λl:List (List fT)=>l[i]?) e;have a:(kvs.map (·.1))[i]?=(cs.map λc=>Y2z c)[i]?:=a;rw[aF,aF,d]at a;cases hc:cs[i]? with
 | none=>rw[hc]at a;cases a
 | some c =>
  rw[hc]at a;have j:kvs[i].1=Y2z c:=gB a;refine Y6A c b;rw[n,j];congr 2;exact CS (ci c)
def ksP(s:Rat)(es:Yh):Ab:=if s=0 then[] else es.map (·.1)
def IM.ks{H:Hp}{F W:Nat}{es:Yh}{s:Rat}{kvs:Yt}(h:IM H F W es es s kvs):kvs.map (·.1)=(ksP s es).map λc=>Y2z c:=by
 unfold ksP;rcases h with⟨z,rfl⟩ | ⟨z,h⟩
 ·rw[if_pos z];rfl
 ·rw[if_neg z,AW h,List.map_map];rfl
inductive wR (K:Aa):Ym
 | i {H:Hp} {Q:VK} {E:XK} {x y sv:V} {es fs:Yh} {F W M N B Ns Ds:Nat} {s:Rat} (h1:LW K H es x) (h2:LW K H fs y) (h3:BH K H (eQ s) sv) (h4:Y16) (h5:Y1G) (h6:pK F W M N B Ns fs) (h7:Qn Ds 1 s) (h8:0<Ds) (h9:N*Ds<2^2500) (h10:W<=4) (h11:(Y0i).length<=64) (k:∀v H',Y1->LW K H' (mE F W M es fs s) v->Y1H):wR K [x,y,sv] H Q E
section
def aIj(F:Yc "mixed" "mixed" aD0)(T:Yf)(FQ53:Y0W 4 "parts_of" ["rule","share"] (tS K))(FQ43:Y6d 3 "less" (kS K))(FQ62:Y6d 6 "says_of_parts" (pZ K 2))(FQ61:Y0W 5 "rule_within" a07 (qN K))(FQ60:Y00 "rule_faces" a43 (jP K)):dP P w K mg base cY 7 f fd a45 (wR K):=by
 refine Y13 aAh;obtain @⟨H,Q,E,x,y,sv,es,fs,F,W,M,N,B,Ns,Ds,l,rx,ry,rs,I,RA,RB,sq,μ,nd,w4,few,k⟩:=h;refine Yg;intro cdv A outer s hr _;have nd0:0<N*Ds:=eM RA.n0 μ;have dz:Ds<Y0y:=by
  have α:1*Ds<=N*Ds:=Y1s RA.n0;rw[Nat.one_mul]at α;exact Y7W α nd
 have χ:=aBP sq μ I.s0' I.s1;refine⟨_,(aH (Y0J aAh.nd (Y3w FQ53 2))
  (aH (Y2A aAh.nd (Y4a FQ53 1 (cR FQ43 (YbP YcF T.g_ONE rfl) (Y07))))
  (aH (Y7M aAh.nd nJ)
  (aH (Y6Y (eC (cC vV (jU (LE rfl) (by rfl) T.b_list Kk (Y4b 3)) (jU (LE rfl) (by rfl) T.b_list Kk (Y4b 4)))) 6 aAh.nd (jA hr.u1 (aD 5) (aD 6) (cR FQ62 (OU hr.u1 (Y0B) (aD 6)) (OU hr.u1 (Y1i) (aD 6)))))
  (Y0V (cR FQ61 (Y0F FQ60 0) (aD 5))))))),?_⟩
 refine Yu;intro d_ n_;refine Y06;refine tS.i rx RA I.f1 I.f4 rs sq μ nd w4 λψ C H1 hd1 s1 e1 U=>Ys;intro d_ n_;refine Y6;have hoc:jE K H1 (1,1) (YcF):=Y04 c.ONE (wM T.o_ONE);refine Y6;refine kS.i hoc (rs.t s1.t).v NL (Y03) (Yaw (Fn.one 1) Dd Kk) (Yaw sq.fq μ dz) λq2 H2 hq2 e2 s2=>?_;have ef0:Y4X (1,1) (eQ l)=eQ (1-l):=by rw[<-QY,aDs]
 rw[ef0]at e2;refine tS.i (ry.t (s1.trans s2).t) RB I.f1 I.f4 (.inl (eV e2)) χ μ nd w4 λφ G H3 hd3 s3 e3 J=>Ys;intro d_ n_;have S:=s2.trans s3;have ω:=U.mono (YfN S h);have S3:=s1.trans S;have l1:C.length<=64:=by
  have:=Y8v U.ks;rw[aA,aA]at this;rw[this];unfold ksP;split
  ·exact Y0H
  ·rw[aA];exact RA.few
 have l3:G.length<=64:=by
  have:=Y8v J.ks;rw[aA,aA]at this;rw[this];unfold ksP;split
  ·exact Y0H
  ·rw[aA];exact RB.few
 intro p θ;refine Ys;intro d_ n_;have ε:=Y6G [] θ;have e4:(upd H3 p (.dT [])) p=Y0c []:=bP;generalize upd H3 p (.dT [])=H4 at ε e4;have ι:H4 ψ=Y0c C:=(S.trans ε) _ _ e1;have κ:H4 φ=Y0c G:=ε _ _ e3;refine Y6;refine rlst ι Oo λD5 g H5 hD5 e5 δ s5=>Y6;refine rlst (s5 _ _ κ) Oo λD6 D H6 hD6 e6 k6 s6=>NY (s6 _ _ e5) e6 (by rw[δ.1,k6.1];exact Oo) λD7 H7 υ e7 s7=>?_;obtain⟨ζ,r⟩:∃ζ,ζ=ksP l es++ksP (1-l) fs:=Y1N;have d:C.length=(ksP l es).length:=by have:=Y8v U.ks;rwa [aA,aA]at this
 have τ:G.length=(ksP (1-l) fs).length:=by have:=Y8v J.ks;rwa [aA,aA]at this
 have s67:=s6.trans s7;have at_:∀(i:Nat) (v:V),(g++D)[i]?=Yy->∃c b,ζ[i]?=Y1u/\v=Y0k/\H7 b=Yj ((ci c).map V.int):=λi v β=>by
  by_cases hi:i<g.length
  ·rw[cQ hi]at β;obtain⟨c,b,α,ξ,h3⟩:=QN δ U.ks β;exact⟨c,b,by rw[r,cQ (by rw[<-d,<-δ.1];exact hi)];exact α,ξ,s67 _ _ h3⟩
  ·rw[cJ Oo]at β;obtain⟨c,b,α,ξ,h3⟩:=QN k6 J.ks β;refine⟨c,b,?_,ξ,s7 _ _ h3⟩;rw[r,cJ (by rw[<-d,<-δ.1];exact Oo),<-d,<-δ.1];exact α
 have lcs:ζ.length=(g++D).length:=by rw[r,aZ,aZ,δ.1,k6.1,d,τ]
 have lys:(g++D).length<=128:=by rw[aZ,δ.1,k6.1];exact Oo
 have S47:=(s5.trans s6).trans s7;have L:H7 p=Y0c []:=S47 _ _ e4;have e7a:H7 ψ=Y0c C:=S47 _ _ ι;have e7b:H7 φ=Y0c G:=S47 _ _ κ;have n1:ψ≠p:=λz=>by rw[z]at e1;rw[(S _ _ e1)]at θ;cases θ
 have n3:φ≠p:=λz=>by rw[z]at e3;rw[e3]at θ;cases θ
 have nD:D7≠p:=λz=>by rw[z,(s5.trans s6) _ _ e4]at υ;cases υ
 have ps7:=ω.mono (YfN (ε.trans S47) h);have ps8:=J.mono (YfN (ε.trans S47) h);have cin:∀c∈ζ,(l≠0/\Y4f c (·.1))\/(1-l≠0/\Yd0 c (·.1)):=λc η=>by
  rw[r]at η;unfold ksP at η;rcases dO.mp η with h | h
  ·split at h
   ·cases h
   ·rename_i z;exact Y1Y z h
  ·split at h
   ·cases h
   ·rename_i z;exact Y2E z h
 refine Y1l D7 e7 (Yda (g++D) (λi σ H'=>∃(o6:Am) (a:Yt),σ=[Y8,Y09,some sv,Y3 ψ,Y3 φ,Y2e,o6]/\aX p H7 H'/\H' p=Y0c a/\a.length<=i/\∀c∈ζ.take i,∃v,gF a (Y2z c)=Yy/\LU K H' (mS F W es fs l c) v) ⟨_,[],rfl,(Y0e).but,L,Yq,λc η=>by rw[List.take_zero]at η;cases η⟩ (λi σ H' _ ⟨_,_,_,b',_⟩=>Yeq nD e7) ?_)
 ·rintro i v σ H8 β ⟨o6,a,rfl,Z,e8,l8,O⟩;refine Y5y;intro d_;obtain⟨m,bb,X,rfl,hbb⟩:=at_ i v β;have hi:i<(g++D).length:=(aC.mp β).1;have t78:=aX.tT Z L;have n:=t78 _ _ hbb;have ρ:=Z.at n1 e7a;have ν:=Z.at n3 e7b;obtain⟨pa,pa1,pa2,pa3,pa4,pa5⟩:=(ps7.mono λ_ _ _ h=>rN.but Z L h).po RA sq I.s0' m;obtain⟨pb,pb1,pb2,pb3,pb4,pb5⟩:=(ps8.mono λ_ _ _ h=>rN.but Z L h).po RB χ (by have:=I.s1;grind) m;have hin:=cin m (aE X);refine⟨_,rfl,ψ,rfl,Y2E C (.inl ρ),_,rfl,_,oM.ct (c:=ci m) ρ n,⟨_,rfl,φ,rfl,Y2E G (.inl ν),_,rfl,_,oM.ct (c:=ci m) ν n,?_⟩⟩;refine JF pa1 pb1 Dd (hin.elim (λh=>.inl (pa5 h)) λh=>Y2E Dd (pb5 h)) pa4 pb4 nd0 nd (Y54 RA.b) Oo λv9 H9 γ r9=>?_;have em:((List.range (1+W)).map λj=>eQ ((EL pa j+EL pb j)/(ET pa+ET pb)))=mS F W es fs l m:=by
   unfold mS;refine fD λj hj=>?_;have hj:=bR.mp hj;rw[pa2,pb2,pa3 j hj,pb3 j hj]
   rfl
  rw[em]at r9;refine Y06;refine Y5t (γ _ _ e8) m (γ _ _ n) Oo (λH10 e10 ο=>?_);have aa:=aX.tT ο (γ _ _ e8);refine⟨_,_,rfl,(Z.trans γ.but).trans ο,e10,?_,λc' ab=>?_⟩
  ·have:=Y6r a m v9;exact Oo
  ·rw[iF];by_cases q:c'=m
   ·subst q;rw[Yo];exact Y04 v9 ((aDx r9).t aa)
   ·rw[Y2c (q (Y3h z))];rw[gP X]at ab;rcases dO.mp ab with h | h
    ·obtain⟨u,α,ξ⟩:=O c' h;exact⟨u,α,(ξ.t γ.t).t aa⟩
    ·exact absurd (bD.mp h) q
 ·rintro σ H8 ⟨o6,a,rfl,Z,e8,l8,O⟩;rw[<-lcs,dL]at O;have S8:aU H H8:=aU.thru ((S3).free θ) ((S3.trans ε).trans S47) Z;have T':=Yg6 W few;obtain⟨e0,er,ees,ez0⟩:=RA.rl.root;refine Y7 (jP.i (e:=e0) (es:=er) (by rw[<-ees];exact rx.t S8.t) ?_);rw[ez0,bH];refine Y6;refine qN.i (R:=mR F es fs l) (sy:=mS F W es fs l) (Y29 e8 (λm X=>O m ?_)) T' λv9 H9 γ r9=>k v9 H9 (S8.trans γ) r9;rw[r];unfold ksP;rcases I.keys X with⟨z,h⟩ | ⟨z,h⟩
  ·exact cM _ (by rw[if_neg z];exact h)
  ·exact cL _ (by rw[Y3H (z (by grind))];exact h)
end
abbrev aEb:Stmt:=(top 6)
def aFG:Ye ["n","d","divisor"] ["n","d"] aEb:={}
inductive qU:Ym
 | i {H:Hp} {Q:VK} {E:XK} {n d:Int} (h:0<d) (z:d.natAbs<2^9000) (q:AD H Q (lw n d)):qU [Y5K,.int d] H Q E
section
def aIv(F:Yc "fraction" "fraction" aEb)(T:Yf)(FQ24:Y00 "common_divisor" a05 sY):dP P w K mg base cY 2 f fd ["n","d"] qU:=by
 refine F.oky aFG λD H Q E h=>?_;obtain @⟨H,Q,E,n,d,e,z,q⟩:=h;refine Yg;intro u A a s G _;have l:(d.natAbs:Int)=d:=Oo;have j:=YcP e;have g:=yQ (n:=n) e z;refine⟨_,(aH (Y77 (Y1x nP 1 aI) OS)
  (aH (Y10 aFG.nd (Y4a FQ24 0 (iV aAb (by rfl) T.b_abs Kk (Y4b 1))))
  (aH (tL (Y77 (Y1x vK 1 aI) (Y10 aFG.nd (BO vU (Y07)))))
  (Y6g (Y2G gG 0 2) (Y2G gG 1 2))))),?_⟩
 refine Yu;intro m C;refine Y5J _ _ (tF (cD λz=>by injection z with z;exact Oo) ?_);refine Y08 (raI ?_);rw[l];refine sY.i e (Ys);intro m C;refine Y74 (λσ H'=>σ=[Y9 n,Y9 d,Y9 (Int.gcd n d:Int)]/\H'=H)
 ·rintro σ H2 ⟨rfl,rfl⟩;refine⟨_,rfl,_,rfl,_,_,rfl,rfl,pU j g,_,rfl,_,rfl,_,_,rfl,rfl,pU j g,?_⟩;exact pJ (by show 2<=64;decide) λp H3 B y r=>q p H3 B y r
 ·exact⟨_,rfl,_,_,rfl,rfl,_,rfl,tF (cD Oo) Y73⟩
end
def WQ{α:Type}(l:Yv)(f g:Y2X)(s:Rat):YbH (s*f a+(1-s)*g a)=s*Y42+(1-s)*cV l g:=by
 rw[<-lS,<-lS,<-jX]
def XQ(F:Nat)(es:Yh)(m:Ab)(q:Y01)(j:Nat):Rat:=Y3i m (xF F es c j*q c)
section
variable{F W M N B Ns L:Nat}{es fs:Yh}{s:Rat}{q:Y01}{cs:Ak}{i:Nat}
def MW(R:Y1h){m:Ab}(nd:m.Nodup)(hs:∀c∈es.map (·.1),c∈m)(w:Nat):fZ F es q w=XQ F es m q (1+w):=by
 unfold fZ XQ;rw[<-AV R nd hs q (1+w)];exact Y6i (by grind)
def GP(R:Y1h){m:Ab}(nd:m.Nodup)(hs:∀c∈es.map (·.1),c∈m):Y4n F es q cs=XQ F es m (λc=>Y8M*q c) 0:=by
 unfold gA XQ;rw[<-AV R nd hs (λc=>Y8M*q c) 0];exact Y6i (by show Y3N e.1.sum*(Y4 e.1*q e.1*cB e.2 0)=_;grind)
def aC0(I:Y16)(T:vF F M (Y5M F s) (mS F W es fs s) (mR F es fs s)){m:Ab}{j:Nat}(hj:j<1+W):XQ F (mE F W M es fs s) m q j=s*XQ F es m q j+(1-s)*XQ F fs m q j:=by
 unfold XQ;rw[<-WQ];exact cT λc _=>by rw[I.x T c hj];unfold mX;grind
def JS(I:Y16)(few:(Y0i).length<=64)(q:Y01)(cs:Ak):(∀w,w<W->fZ F (mE F W M es fs s) q w=s*fZ F es q w+(1-s)*fZ F fs q w)/\Y4n F (mE F W M es fs s) q cs=s*Y4n F es q cs+(1-s)*Y4n F fs q cs:=by
 have T:=Yg6 W few;have a:=sF F I.f4 M I.m5;have i:∀c∈es.map (·.1),Y4m c:=λc d=>by
  obtain⟨e,g,rfl⟩:=aM.mp d;exact(gH I.f1).mpr ⟨I.ra.len e g,(I.oa e g).1⟩
 have h:∀c∈fs.map (·.1),Y4m c:=λc d=>by
  obtain⟨e,g,rfl⟩:=aM.mp d;exact(gH I.f1).mpr ⟨I.rb.len e g,(I.ob e g).1⟩
 have j:∀c∈(mE F W M es fs s).map (·.1),Y4m c:=λc d=>by rw[yN]at d;exact(jB I.f1).subset d
 exact⟨λw l=>by rw[MW (I.rl T) a j,MW I.ra a i,MW I.rb a h,aC0 I T Oo],by rw[GP (I.rl T) a j,GP I.ra a i,GP I.rb a h,aC0 I T Oo]⟩
def YK(I:Y16)(few:(Y0i).length<=64)(q:Nat->Y01)(mix:Yw)(cs:Ak):fS F W (mE F W M es fs s) q mix (cB cs)=s*fS F W es q mix (cB cs)+(1-s)*fS F W fs q mix (cB cs):=by
 unfold fS;rw[<-eE,<-eE,<-jW];exact bQ λw a=>by rw[(JS I few (q w) cs).2];grind
def pK.any(R:Y1G):nV F W M es:=⟨R.rl,R.sum,R.on,λe a=>⟨(R.sy e a).nn,(R.sy e a).rest⟩⟩
end
def pK.up{F W M N B Ns D C:Nat}{es:Yh}(R:Y1G)(d0:0<D)(hC:B<=C)(hz:D*N*Ns^M<2^1800)(hc:C<=2^100):pK F W M (D*N) C Ns es :=
 ⟨R.rl,R.sum,R.sy,R.few,R.on,λe a=>((R.fl e a).dvd ⟨D,Nat.mul_comm ..⟩).le hC,λe a v=>((R.fs e a v).dvd ⟨D,Nat.mul_comm ..⟩).le hC,eM d0 R.n0,R.s1,hz,hc,R.m⟩
def pK.mx{F W M N B Ns:Nat}{es fs:Yh}{s:Rat}(A:Y1G)(A':pK F W M N B Ns fs)(f1:1<=F)(f4:F<=4)(m5:M<=5)(h0:0<=s)(h1:s<=1):Y16 :=
 ⟨A.rl,A'.rl,f1,f4,m5,A.sy,A'.sy,λe a=>⟨A.sum e a,A.on e a⟩,λe a=>⟨A'.sum e a,A'.on e a⟩,h0,h1⟩
def aGA{W b:Nat}(hb:b<=W):MB (1+W) (zY W b):=by
 have l:(zY W b).length=1+W:=by unfold zY;rw[aA,aT]
 refine Y0j l (λf c=>?_)
 ·unfold zY at c;obtain⟨k,_,rfl⟩:=aM.mp c;have:1<Y0y:=Ydt;split
  ·exact⟨NL,Dd,this,this⟩
  ·exact⟨TU,Dd,Y61,this⟩
 ·rw[pL,l,bQ (g:=λk=>if k=b then 1 else 0) λk a=>sH a,qJ (v:=b) Oo λk _ a=>if_neg a,Yo]
def aGB{F W M Ns:Nat}{best:Y0w}(hF:1<=F)(f4:F<=4)(m5:M<=5)(on:∀c,Y0o=0->Y1T)(bw:∀c∈rise F M,Y0o<=W)(few:(Y0i).length<=20)(s1:0<Ns)(hz:Ns^M<2^1800):pK F W M 1 (5^20) Ns Y1p:=by
 have A:=PP (W:=W) hF f4 m5 on bw;have i:∀e∈rul F W M best,MB (1+W) e.2:=λe a=>by
  obtain⟨c,g,rfl⟩:=aM.mp a;exact aGA (bw c ((jB hF).subset g))
 have h:∀e∈rul F W M best,∀v,Qn 1 1 (cB e.2 v):=λe a v=>by
  obtain⟨c,g,rfl⟩:=aM.mp a;show Qn 1 1 (cB (Y6m W) v);by_cases hv:v<1+W
  ·rw[sH hv];split
   ·exact Qn.one' 1
   ·exact Y7P _
  ·rw[nF (by have:=(i _ a).len;show(Y6m W).length<=v;unfold zY;rw[aA,aT];exact Oo)];exact Y7P _
 have l:(Y1p).length<=20:=by
  unfold rul;rw[aA];exact aL (jB hF).length_le few
 have j:∀d,Qn 1 (5^20) (Y2f Y1p):=λd=>by
  have:=A.rl.qn (N:=1) (λe a=>h e a 0) f4 _ (Yq) d;rw[dL,Nat.one_pow]at this;exact this.le (aK Dd l)
 refine⟨A.rl,A.hM,i,Oo,A.on,λe a=>j e.1,λe a v=>?_,Dd,s1,by rw[Nat.one_mul];exact hz,Kk,Oo⟩;have:=(j e.1).mul (h e a v)
 rwa [Nat.mul_one,Nat.mul_one]at this
abbrev aDI:Stmt:=(top 81)
def LI:Ye ["faces","weighing","master","rule","share","row","thing","other"] a31 aDI:={}
def ED(ts:Y0z)(j:Nat):Bool:=(ts[j]?.map λt=>decide (t.word=Str.ofString "rule")).getD false
def wsum(W:Nat)(b:Y0)(R:Md.fG)(ts:Y0z)(i:Nat)(g:Yw):Rat:=bZ i λj=>if ED ts j=true then((Md.rho (W+1) b R j 0:Int):Rat)*g j else 0
abbrev DB(W U:Nat):Nat:=(W+1)*RB W U
structure MA(F W M U Ns:Nat):Prop where
 few:(Y0i).length<=20
 s1:0<Ns
 nz:DB W U^(W+1)*Ns^M<2^1800
structure MrQ(F W M U Ns:Nat)(ss:Aj)(mix cs:Ak)(us:Ae)(cu:Nat)(b:Y0)(B R:Md.fG)(ts:Y0z)(i:Nat)(es:Yh)(N:Nat):Prop where
 ru:pK F W M N (2^i*5^20) Ns es
 n:N<=DB W U^i
 cost:(cu:Rat)*(Y3Q W b R i (λ_=>1)*Y4w F W es)=Y3Q W b R i (λj=>(((ts[j]?.map (·.cost)).getD 0:Int):Rat))
 said:∀(w u:Nat),us[w]?=Yp->(u:Rat)*(Y3Q W b R i (λ_=>1)*(1-Y3z es w w))=Y3Q W b R i (λj=>((B j w:Int):Rat))
def aCH(K:Aa)(H:Hp)(F W M U Ns:Nat)(ss:Aj)(mix cs:Ak)(us:Ae)(cu:Nat)(b:Y0)(B R:Md.fG)(ts:Y0z)(i:Nat)(v:V):Prop:=∃es N,LW K H es v/\MrQ F W M U Ns ss mix cs us cu b B R ts i es N
def zV(W:Nat)(b:Y0)(R:Md.fG)(ts:Y0z)(i:Nat):Int:=Md.dX i λj=>if ED ts j=true then Md.rho (W+1) b R j 0 else 0
section
variable{F W M:Nat}{ss:Aj}{mix ps cs:Ak}{Ns Nm Np Nc BB Nr:Nat}{us:Ae}{cu X U e i:Nat}{b:Y0}{H:Hp}{B R:Md.fG}{p:Int}{ts:Y0z}
def mQ(g:Yw):Y3Q W b R (i+1) g=Y3Q W b R i g+if ED ts i=true then((Md.rho (W+1) b R i 0:Int):Rat)*g i else 0:=dW _ _
def tX(i:Nat):((zV W b R ts i:Int):Rat)=Y3Q W b R i (λ_=>1):=by
 unfold zV wsum;rw[Md.rJ];refine bQ λj _=>?_;split
 ·rw[Rat.mul_one]
 ·rfl
theorem WX(hr:∀j,j<W+1->0<=Md.rho (W+1) b R j 0):∀{i:Nat},i<=W+1->0<=zV W b R ts i
 | 0,_=>Int.le_refl 0
 | i+1,h=>by
  have h1:=WX hr (i:=i) Oo;have a:=hr i Oo;show 0<=zV W b R ts i+if ED ts i=true then Md.rho (W+1) b R i 0 else 0
  split <;> exact Oo
theorem yA(hr:∀j,j<W+1->0<=Md.rho (W+1) b R j 0)(g:Yw):∀{i:Nat},i<=W+1->zV W b R ts i=0->Y3Q W b R i g=0
 | 0,_,_=>rfl
 | i+1,h,z=>by
  have h1:=WX (ts:=ts) hr (i:=i) Oo;have a:=hr i Oo;have z:zV W b R ts i+(if ED ts i=true then Md.rho (W+1) b R i 0 else 0)=0:=z;rw[mQ];by_cases hi:ED ts i=true
  ·rw[if_pos hi]at z ⊢;rw[yA hr g Oo Oo,show Md.rho (W+1) b R i 0=0 by exact Oo];show 0+0*g i=0;grind
  ·rw[if_neg hi]at z ⊢;rw[yA hr g Oo Oo];grind
def OD(u1:1<=U):1<=DB W U:=eM (Ycd) (eM (Ycd) (eM (Yg5 (Md.BD _) u1) u1))
def MA.sz(mz:MA F W M U Nr)(u1:1<=U){N:Nat}(hi:i<=W+1)(hN:N<=DB W U^i):N*Nr^M<2^1800 :=
 aJ (Y1s (aL hN (aK (OD u1) hi))) mz.nz
def aCw(hi:i<=5):2^i*5^20<=2^100:=Y2Z (Y1s (aK (n:=2) Dd hi))
def aG7:DB W U<=ZB W U X:=dF _ (Y5Y Y61)
def aDw(Z:AC F W M ss mix ps cs Ns Nm Np Nc BB us cu X U e b)(S:iP H F W M ss mix cs us cu b B R p ts)(hi:i<=W+1):(zV W b R ts i).natAbs<=DB W U:=by
 refine aL (Md.tR (C:=RB W U) λj a=>?_) (Y1s hi);split
 ·exact S.rho Z Oo Oo
 ·exact Y0H
def aGz{best:Y0w}(I:VE F W M ss mix ps cs Ns Nm Np Nc BB us cu X)(on:∀c,Y0o=0->Y1T):vF F M best (λc=>Y6m W) (· ∈ rise F M):=by
 refine⟨I.wo.f1,I.wo.f4,I.wo.m5,on,I.r4,λc _=>?_,(gH I.wo.f1).mpr ⟨bH,by simp⟩,λc a h f e=>?_⟩
 ·unfold zY;rw[show 1+W=W+1 by exact Oo,List.range_succ_eq_map,bE];refine Y3E _ _ ?_;by_cases z:Y0o=0
  ·rw[if_pos z.symm];exact⟨λ_=>z,λ_=>Dd⟩
  ·rw[Y3H (z q.symm)];exact⟨λq=>Y6T q,YeG q z⟩
 ·obtain⟨d,g⟩:=(gH I.wo.f1).mp a;have:=on c h;exact(gH I.wo.f1).mpr ⟨by rw[pI];exact d,by rw[fX Oo];exact Oo⟩
def MrQ.skip(Z:AC F W M ss mix ps cs Ns Nm Np Nc BB us cu X U e b)(mz:MA F W M U Nr){es:Yh}{N:Nat}(h:MrQ F W M U Nr ss mix cs us cu b B R ts i es N)(hi:i<W+1)(z:ED ts i=true->Y3x (W+1) 0=0):MrQ F W M U Nr ss mix cs us cu b B R ts (i+1) es N:=by
 have w:∀g,Y3Q W b R (i+1) g=Y3Q W b R i g:=λg=>by
  rw[mQ];by_cases q:ED ts i=true
  ·rw[Y5A,z q];show _+0*g i=_;grind
  ·rw[Y2D];grind
 have w4:=Z.sl.wo.w4;have a:N<=DB W U^(i+1):=aL h.n (aK (OD Z.u1) Oo);refine⟨?_,a,by rw[w,w];exact h.cost,λv u c=>by rw[w,w];exact h.said v u c⟩;have:=h.ru.up (D:=1) (C:=2^(i+1)*5^20) Dd (Y1s (aK Dd Oo)) (by rw[Nat.one_mul];exact mz.sz Z.u1 Oo a) (aCw Oo)
 rwa [Nat.one_mul]at this
def JQ(Z:AC F W M ss mix ps cs Ns Nm Np Nc BB us cu X U e b)(mz:MA F W M U Nr){best:Y0w}{a:Y0}{k:Int}(f:OJ F W M ss mix cs us cu best a k):pK F W M 1 (5^20) Nr (Y1p) :=
 aGB Z.sl.wo.f1 Z.sl.wo.f4 Z.sl.wo.m5 f.on f.bw mz.few mz.s1 (by have:=mz.sz (i:=0) (N:=1) Z.u1 (Y0H) (Yq);rwa [Nat.one_mul]at this)
def MrQ.first(Z:AC F W M ss mix ps cs Ns Nm Np Nc BB us cu X U e b)(mz:MA F W M U Nr)(hr:∀j,j<W+1->0<=Md.rho (W+1) b R j 0){best:Y0w}{t:oF}(ht:ts[i]?=Y8a)(f:OJ F W M ss mix cs us cu best (B i) t.cost)(hi:i<W+1)(is:ED ts i=true)(z:zV W b R ts i=0):MrQ F W M U Nr ss mix cs us cu b B R ts (i+1) (Y1p) 1:=by
 have w:∀g,Y3Q W b R (i+1) g=((Md.rho (W+1) b R i 0:Int):Rat)*g i:=λg=>by rw[mQ,YcS,yA hr g Oo z];grind
 have w4:=Z.sl.wo.w4;have a:1<=DB W U^(i+1):=Nat.pow_pos (OD Z.u1);refine⟨?_,a,?_,λv u c=>?_⟩
 ·have:=(JQ Z mz f).up (D:=1) (C:=2^(i+1)*5^20) Dd (Y5Y Y61) (by rw[Nat.mul_one];exact mz.sz Z.u1 Oo a) (aCw Oo)
  rwa [Nat.one_mul]at this
 ·rw[w,w,ht];show _=_*((t.cost:Int):Rat);rw[f.cost];grind
 ·rw[w,w,f.col v u c];grind
def MrQ.more(Z:AC F W M ss mix ps cs Ns Nm Np Nc BB us cu X U e b)(mz:MA F W M U Nr){es:Yh}{N:Nat}(h:MrQ F W M U Nr ss mix cs us cu b B R ts i es N){best:Y0w}{t:oF}(ht:ts[i]?=Y8a)(f:OJ F W M ss mix cs us cu best (B i) t.cost)(hi:i<W+1)(is:ED ts i=true){r S:Int}{s:Rat}(er:Y3x (W+1) 0=r)(eS:zV W b R ts i=S)(r0:0<r)(S0:0<S)(hD:S+r<=(DB W U:Nat))(hs:s=(r:Rat)/((S+r:Int):Rat)) :
  gX F W M (Y1p) es s/\pK F W M N (2^i*5^20) Nr (Y1p)/\Qn (S+r).toNat 1 s/\N*(S+r).toNat<2^2500/\MrQ F W M U Nr ss mix cs us cu b B R ts (i+1) (mE F W M (Y1p) es s) ((S+r).toNat*N):=by
 have w4:=Z.sl.wo.w4;have g:(0:Rat)<((S+r:Int):Rat):=by exact_mod_cast(by exact Oo:0<S+r)
 have j:(0:Rat)<(r:Rat):=by exact_mod_cast r0
 have S0':(0:Rat)<(S:Rat):=by exact_mod_cast S0
 have a:s*((S+r:Int):Rat)=(r:Rat):=by rw[hs,Rat.div_mul_cancel (Rat.ne_of_gt g)]
 have p:((S+r:Int):Rat)=(S:Rat)+(r:Rat):=Rat.intCast_add ..;have s0:0<=s:=Rat.le_of_mul_le_mul_right (c:=((S+r:Int):Rat)) (by rw[a,Rat.zero_mul];exact Rat.le_of_lt j) g;have s1:s<=1:=Rat.le_of_mul_le_mul_right (c:=((S+r:Int):Rat)) (by rw[a,Rat.one_mul,p];grind) g;have z:(S+r).toNat*N<=DB W U^(i+1):=by
  rw[Nat.pow_succ,Nat.mul_comm];exact Nat.mul_le_mul h.n Oo
 have A:=mz.sz Z.u1 (i:=i+1) Oo z;have few:(Y0i).length<=64:=Y2Z mz.few;have RP:pK F W M N (2^i*5^20) Nr (Y1p):=by
  have:=(JQ Z mz f).up (D:=N) (C:=2^i*5^20) h.ru.n0 (Y5Y Y61) (by rw[Nat.mul_one];exact mz.sz Z.u1 Oo h.n) (aCw Oo)
  rwa [Nat.mul_one]at this
 have I:gX F W M (Y1p) es s:=RP.mx h.ru Z.sl.wo.f1 Z.sl.wo.f4 Z.sl.wo.m5 s0 s1;have w:Qn (S+r).toNat 1 s:=by
  refine⟨r,?_,Oo⟩;rw[<-a];congr 1;rw[<-Rat.intCast_natCast];congr 1;exact Oo
 have J:0<(S+r).toNat:=Oo;refine⟨I,RP,w,?_,?_,z,?_,λv u m=>?_⟩
 ·refine Y7W ?_ A;rw[Nat.mul_comm];exact Ydm (Nat.pow_pos mz.s1)
 ·have:=I.ru (Yg6 W few) RP h.ru w J few A (by have:=aCw (i:=i+1) Oo;rw[Nat.pow_succ,Nat.mul_comm (2^i) 2,Nat.mul_assoc]at this;exact this);rw[Nat.pow_succ,Nat.mul_comm (2^i) 2,Nat.mul_assoc];exact this
 ·have d:=h.cost;rw[<-tX,eS]at d;rw[mQ,mQ,YcS,YcS,er,<-tX,eS,YK I few,<-d,ht];show _=_+_*((t.cost:Int):Rat);rw[f.cost];have l:((S:Rat)+(r:Rat))*s=(r:Rat):=by rw[<-p,Rat.mul_comm];exact a
  generalize fS F W (rul F W M best) (gD ss) (cB mix) (cB cs)=x at *;generalize fS F W es (gD ss) (cB mix) (cB cs)=y at *;have:((S:Rat)+(r:Rat)*1)*(s*x+(1-s)*y)=(((S:Rat)+(r:Rat))*s)*x+((S:Rat)+(r:Rat))*y-(((S:Rat)+(r:Rat))*s)*y:=by grind
  rw[this,l];grind
 ·have d:=h.said v u m;have G:v<W:=by have:=(aC.mp m).1;rw[Z.sl.ul]at this;exact this
  rw[<-tX,eS]at d;rw[mQ,mQ,YcS,YcS,er,<-tX,eS,(JS I few (gD ss v) cs).1 v G,<-d,f.col v u m];have l:((S:Rat)+(r:Rat))*s=(r:Rat):=by rw[<-p,Rat.mul_comm];exact a
  generalize fZ F (rul F W M best) (gD ss v) v=x at *;generalize fZ F es (gD ss v) v=y at *;have:((S:Rat)+(r:Rat)*1)*(1-(s*x+(1-s)*y))=((S:Rat)+(r:Rat))-(((S:Rat)+(r:Rat))*s)*x-((S:Rat)+(r:Rat))*y+(((S:Rat)+(r:Rat))*s)*y:=by grind
  rw[this,l];grind
end
inductive wO (K:Aa) (G A:Addr):Ym
 | i {H:Hp} {Q:VK} {E:XK} {x m sa:Addr} {F W M:Nat} {ss:Aj} {mix ps cs:Ak} {Ns Nm Np Nc BB:Nat} {us:Ae} {cu X U e:Nat} {b:Y0} {B R:Md.fG} {p:Int} {uv:Al} {ts:Y0z} {Nr:Nat} (h1:AB H x G F W M ss mix cs us cu) (h2:uI H A m sa (W+1) b R p uv) (h3:kY H uv ts) (h4:AC F W M ss mix ps cs Ns Nm Np Nc BB us cu X U e b) (h5:iP H F W M ss mix cs us cu b B R p ts) (h6:MA F W M U Nr) (h7:0<Y3Q W b R (W+1) (λ_=>1)) (k:∀v H',Y1->aCH K H' F W M U Nr ss mix cs us cu b B R ts (W+1) v->Y1H):wO K G A [.int (F:Int),Y24,.ref m] H Q E
section
def aH0(F:Yc "standing_mixed" "standing_mixed" aDI)(T:Yf)(FQ61:Y0W 5 "rule_within" a07 (qN K))(FQ54:Y00 "plain_table" a09 (uQ K c.Weighing))(FQ46:Y0W 7 "mixed" a45 (wR K))(FQ34:Y2w "fraction" ["n","d"] qU):dP P w K mg base cY 8 f fd a31 (wO K c.Weighing c.Master):=by
 refine Y13 LI;obtain @⟨H,Q,E,x,m,sa,F,W,M,ο,J,ps,μ,Ns,Nm,Np,Nc,BB,χ,ξ,X,U,e,b,B,R,p,uv,C,Nr,wg,γ,th,Z,st,τ,pos,q⟩:=h;refine Yg;intro cdv A ac s hr _;have w4:=Z.sl.wo.w4;have O:=T.w_Master;refine⟨_,(aH (Y0J LI.nd lG)
  (aH (Y2A LI.nd aI)
  (aH (gL PassesOwn.never rfl (lF false false rfl T.b_zip (Y2j (dQ K (aD 2)) (dQ K (aD 2)))) (nY rfl (eT (Yan 5 LI.nd) (eT (Yan 6 LI.nd) lB))) (aR (iE (SL (BJ (eB nP (Y17 6) (YeA "rule")) (wG (eB zO (Y17 5) aI)))) (aH (cK (i:=7) LI.nd (Y4a FQ61 0 (Y4a FQ54 1 (Y17 6))))
  (aH (Y2A LI.nd (cC fQ (aD 4) (Y17 5)))
  (aR (Y0J LI.nd (lP (Y1x CF 3 lG) (aD 7) (Y3j FQ46 (aD 7) 3 (cR FQ34 (Y17 5) (Y1i)))))))) fA)))
  (Y2p 3)))),?_⟩
 refine Yu;intro d_ n_;obtain⟨dx,ra,η,LL⟩:=γ.ex;obtain⟨las,ζ,ll,atr⟩:=LL;have ε:∀j,j<W+1->0<=Md.rho (W+1) b R j 0:=λj hj=>st.mst.share hj;refine Y1W (by simp) η (uW ra sa p);refine Y1W (by simp) η (uD ra sa p);refine Y1U ra sa _ _ ζ γ.st (Yds (las.map V.ref) uv (Ex4 λ(v:V) (o5 o6 δ:Am)=>Ybr (σ=[Y9 (F:Int),Y3 x,Y3 m,Yy,Y9 (zV W b R C i),o5,o6,δ]) ((zV W b R C i=0/\v=.non)\/(0<zV W b R C i/\aCH K H' F W M U Nr ο J μ χ ξ b B R C i v))) ⟨_,_,_,_,rfl,Y0e,.inl Y73⟩ (λi σ H' ⟨_,_,_,_,_,s',_⟩=>⟨s' _ _ ζ,s' _ _ γ.st⟩) ?_ ?_)
 ·rintro i y u pq σ H1 H2 hy hu ⟨v,o5,o6,δ,rfl,s1,ρ⟩ hpq e2 s2;have ι:i<W+1:=by have:=(aC.mp hu).1;rw[γ.len]at this;exact this
  rw[aF]at hy;obtain⟨l,hl,rfl⟩:=eL.mp hy;have el:=atr i l _ hl (yG ι);obtain⟨t,κ,a,rfl,ha⟩:=th.get hu;have S2:=s1.trans s2;have sS:zV W b R C (i+1)=zV W b R C i+if ED C i=true then Y3x (W+1) 0 else 0:=rfl
  have θ:(zV W b R C i=0/\v=.non)\/(0<zV W b R C i/\aCH K H2 F W M U Nr ο J μ χ ξ b B R C i v):=by
   rcases ρ with g | ⟨L,ν,N,α,β⟩
   ·exact .inl g
   ·exact .inr ⟨L,ν,N,α.t s2.t,β⟩
  have skip:(ED C i=true->Y3x (W+1) 0=0)->zV W b R C (i+1)=zV W b R C i/\((zV W b R C (i+1)=0/\v=.non)\/(0<zV W b R C (i+1)/\aCH K H2 F W M U Nr ο J μ χ ξ b B R C (i+1) v)):=λz=>by
   have e:zV W b R C (i+1)=zV W b R C i:=by
    rw[sS];by_cases q:ED C i=true
    ·rw[Y5A,z q];exact Oo
    ·rw[Y2D];exact Oo
   refine Y0p e;rw[e];rcases θ with g | ⟨L,ν,N,α,β⟩
   ·exact .inl g
   ·exact .inr ⟨L,ν,N,α,β.skip Z τ ι z⟩
  have G:ED C i=Y9P "rule":=by unfold ED;rw[κ];rfl
  refine⟨pq,_,rfl,jQ.of e2,rfl,_,_,rfl,_,_,rfl,rfl,Y23⟩;intro d_;refine Y0g (S2 _ _ ha);refine Y87 ?_;rw[uF];by_cases hw:YeF t.word "rule"
  ·rw[cN hw]at G ⊢;refine sO (Y7 (vN (S2 _ _ el) (v:=.int (Y3x (W+1) 0)) (Y4N (iC Oo)) ?_));refine Y3O _ _ _ ?_;have nn:=ε i ι;by_cases hp:0<Y3x (W+1) 0
   ·rw[cN hp];refine sO Yu;intro d_ n_;obtain⟨ω,kb,D,aa,hbp,hB,fr⟩:∃ω kb D,t.v=.ref ω/\H ω=Y9b/\VI kb Y0i D/\OJ F W M ο J μ χ ξ D (B i) t.cost:=by
     rcases st.fit i t κ with⟨g,_⟩ | ⟨g,_⟩ | ⟨_,g⟩
     ·rw[hw]at g;exact Y6T g
     ·rw[hw]at g;exact Y6T g
     ·exact g
    rw[aa]at ha;refine Y2J (Y7A (S2 _ _ ha));refine uQ.i (wg.same S2) (S2 _ _ hbp) hB w4 Z.sl.r4 λd H3 s3 tb=>?_;have S3:=S2.trans s3;refine qN.i (R:=(· ∈ rise F M)) (sy:=λc=>zY W (D c)) tb (aGz Z.sl fr.on) λυ H4 s4 r4=>Ys;intro d_ n_;have r4:LW K H4 (rul F W M D) υ:=r4;have S4:=S3.trans s4;refine Y08 (vN (S4 _ _ el) (v:=.int (Y3x (W+1) 0)) (Y4N (iC Oo)) ?_);refine Y6A _ _;have I:zV W b R C (i+1)=zV W b R C i+Y3x (W+1) 0:=by rw[sS,if_pos G]
    refine Y5J _ _ ?_;have ab:=s3.trans s4;rcases θ with⟨L,rfl⟩ | ⟨L,ν,N,α,β⟩
    ·exact sO (Y7 ⟨υ,Y3 l,Y2r,some υ,by rw[I];rfl,S4,.inr ⟨Oo,_,_,r4,MrQ.first Z τ ε κ fr ι G L⟩⟩)
    ·have g4:=α;obtain⟨va,vxs,rfl,_⟩:=g4;rw[show decide (V.ref va=V.non)=false from rfl];refine rB (Y2J (vN (S4 _ _ el) (v:=.int (Y3x (W+1) 0)) (Y4N (iC Oo)) ?_));refine Y6;have φ:=aDw (i:=i+1) Z st Oo;rw[I]at φ;generalize er:Md.rho (W+1) b R i 0=r at hp φ I nn ⊢;generalize eS:zV W b R C i=S at L φ I ⊢;have dz:(S+r).natAbs<2^9000:=aJ φ (Y7W aG7 Z.zb);refine qU.i Oo dz λq5 H5 hq5 e5 s5=>?_;obtain⟨m1,m2,m3,m4,m5⟩:=β.more Z τ κ fr ι G er eS hp L Oo rfl;have el5:lw r (S+r)=eQ ((r:Rat)/((S+r:Int):Rat)):=iW (kB Oo) Y03 (by rw[EV Oo,dB]);rw[el5]at e5;exact wR.i (r4.t s5.t) (α.t (ab.trans s5).t) (.inl (eV e5)) m1 m2 β.ru m3 Oo m4 w4 (Y2Z τ.few) λnv H6 s6 r6=>⟨nv,Y3 l,Y2r,some υ,by rw[I];rfl,(S4.trans s5).trans s6,.inr ⟨Oo,_,_,r6,m5⟩⟩
   ·rw[cD hp];obtain⟨k1,ψ⟩:=skip λ_=>Oo;exact rB ⟨v,Y3 l,Y2r,δ,by rw[k1];rfl,S2,ψ⟩
  ·rw[cD hw]at G ⊢;obtain⟨k1,ψ⟩:=skip λz=>by rw[G]at z;cases z
   exact rB (rB ⟨v,Y3 l,Y2r,δ,by rw[k1];rfl,S2,ψ⟩)
 ·rintro σ H1 ⟨v,o5,o6,δ,rfl,s1,ρ⟩;rw[aA,ll,nO,γ.len,Nat.min_self]at ρ;refine Y6;rcases ρ with⟨g,_⟩ | ⟨_,g⟩
  ·rw[<-tX,g]at pos;exact Y6T pos
  ·exact q v H1 s1 g
end
abbrev aDP:Stmt:=(top 80)
def aFF:Ye ["weighing","master","cost_unit","factors","parts"] a26 aDP:={}
abbrev aDz:Stmt:=(top 21)
def aI4:Ye ["aim"] ["aim"] aDz:={}
def prL(W:Nat)(R:Md.fG)(ts:Y0z)(us:Ae)(p:Int)(k:Nat):Ak:=(List.range W).map λw=>lw (-jK W R ts w*((us.getD w 0:Nat):Int)) (p*(k:Int))
inductive qP (G A:Addr):Ym
 | i {H:Hp} {Q:VK} {E:XK} {x m sa:Addr} {F W M:Nat} {ss:Aj} {mix ps cs:Ak} {Ns Nm Np Nc BB:Nat} {us:Ae} {cu X U e:Nat} {b:Y0} {B R:Md.fG} {p:Int} {uv:Al} {ts:Y0z} {k:Nat} (h1:AB H x G F W M ss mix cs us cu) (h2:uI H A m sa (W+1) b R p uv) (h3:kY H uv ts) (h4:AC F W M ss mix ps cs Ns Nm Np Nc BB us cu X U e b) (h5:iP H F W M ss mix cs us cu b B R p ts) (h6:0<k) (h7:k<Y0y) (q:∀v H',Y1->Y2Q (zW (prL W R ts us p k)) v->Y1H):qP G A [Y24,.ref m,.int (k:Int)] H Q E
def aEQ{F W M:Nat}{ss:Aj}{mix ps cs:Ak}{Ns Nm Np Nc BB:Nat}{us:Ae}{cu X U e:Nat}{b:Y0}{H:Hp}{B R:Md.fG}{p:Int}{ts:Y0z}{k:Nat}(Z:AC F W M ss mix ps cs Ns Nm Np Nc BB us cu X U e b)(S:iP H F W M ss mix cs us cu b B R p ts)(k0:0<k):∀f∈prL W R ts us p k,Fn ((p*(k:Int)).natAbs) (ZB W U X*U) f:=λf g=>by
 obtain⟨w,a,rfl⟩:=Y84;have a:=Y71;have d:0<p*(k:Int):=Int.mul_pos S.mst.bs.pos Oo;refine Fn.of d (aL ?_ (Ydm Oo));rw[dD,Int.natAbs_neg];refine Nat.mul_le_mul (S.zet Z (k:=w+1) Oo) ?_;have c:us[w]?=some (us[w]'(by rw[Z.sl.ul];exact a)):=aB _;rw[iB c];exact Z.uU _ (aE c)
section
def aH8(F:Yc "prices_of" "prices_of" aDP)(T:Yf)(FQ59:Y36 "rates_of" a20 (mU c.Master))(FQ32:Y00 "factors_of" ["rates"] mW)(FQ34:Y2w "fraction" ["n","d"] qU):dP P w K mg base cY 4 f fd a26 (qP c.Weighing c.Master):=by
 refine Y13 aFF;obtain @⟨H,Q,E,x,m,φ,F,W,M,ss,mix,ps,cs,Ns,Nm,Np,Nc,BB,θ,cu,X,U,e,b,B,R,p,uv,ε,k,wg,L,ν,Z,st,k0,α,q⟩:=h;refine Yg;intro cdv A C s hr _;have w4:=Z.sl.wo.w4;have O:=T.w_Master;have OG:=T.w_Weighing;have pp:=st.mst.bs.pos;have D:=st.masz Z;obtain⟨dx,ra,G,LL⟩:=L.ex;obtain⟨ul,gx,fl,gr,κ,wa,ca,ψ,kvs,a0,a1,a2,a3,a4,a5,a6,N,a8,a9,ρ,χ⟩:=wg;refine⟨_,(aH (Y0J aFF.nd (fV FQ32 (Y0F FQ59 1)))
  (aH (Y7r 4 aFF.nd (cC dI (dQ K (aD 1)) (Y07)))
  (Y0V (Yam dH (by rfl) Kk (Y1L (Y7R ["factor","unit"] ["factor","unit","parts"] [4] (Ybt 3 Y1P) (cR FQ34 (Y2G dI 0 1) (Y07)))))))),?_⟩
 refine Yu;intro d_ n_;refine Y6;refine mU.i L ν D (st.costz Z) λD1 H1 υ e1 s1=>mW.i e1 Oo λD2 H2 hD2 S ω=>Ys;intro d_ n_;have S2:=s1.trans ω;refine Y1W (by simp) (S2 _ _ G) (CL ra φ p);refine Y6E _ _ _ rfl (kU D.pz (show((k:Nat):Int).natAbs<2^3000 from α)) ?_;have ο:0<p*(k:Int):=Int.mul_pos pp Oo;have pz:(p*(k:Int)).natAbs<2^9000:=by
  rw[dD];have δ:p.natAbs*((k:Nat):Int).natAbs<=Y0P*Y0y:=YbU (Nat.le_of_lt D.pz) α;rw[<-Nat.pow_add]at δ;exact Y8T δ Dd
 refine Y08 (Y4i OG (by simp) (S2 _ _ a0) a2);refine Y1U D2 κ _ _ S (S2 _ _ N) (kM (b1:=false) (b2:=false) (xs:=(dE W λi=>-jK W R ε i).map V.int) (ys:=θ.map FO) (λi z H'=>Y3l (lw (-jK W R ε i*((θ.getD i 0:Nat):Int)) (p*(k:Int))) z) (λ_ _ _ _ s r=>r.flat s (Y2h)) (by rw[aA,cS];exact Oo) S (S2 _ _ N) (by rw[aA,aA,cS,ul]) (λi y z H' Q' I η s' k'=>?_) (λD3 g H3 hD3 e3 s3 a J=>?_))
 ·have j:i<W:=by have:=(aC.mp I).1;rw[aA,cS]at this;exact this
  rw[iC j]at I;cases I;rw[aF]at η;obtain⟨u,γ,rfl⟩:=eL.mp η;have uz:=(YeC u γ).2;refine⟨_,rfl,_,rfl,_,_,rfl,rfl,kU (n:=4000) (m:=3000) (by rw[Int.natAbs_neg];exact st.ratz Z Oo) (show((u:Nat):Int).natAbs<2^3000 from uz),Y6⟩;refine qU.i ο pz λq4 H4 ι μ ξ=>k' _ H4 ξ (eV ?_);rw[μ,iB γ]
 ·refine Y3E D3 g (Y6I e3 (λl τ=>?_));have sl:=Y2y g τ;have β:(upd H3 l (.tup g)) l=Yj g:=bP;generalize upd H3 l (.tup g)=H5 at sl β;refine q _ H5 ((S2.trans s3).trans sl) (dC.tup β (bG.ofRange (by rw[a,aA,cS]) λi y j=>?_));have ζ:=(aC.mp j).1;rw[a,aA,cS]at ζ;exact⟨ζ,(J i y j).same sl⟩
end
inductive uP (K:Aa):Ym
 | i {H:Hp} {Q:VK} {E:XK} {v:V} {M:Nat} {bs mix cs:Ak} (h1:Y4B K H M v) (h2:cs.length<=64) (k:∀v' H',Y1->uK K H' M bs mix (List.replicate cs.length (0,1)) v'->Q v' H'):uP K [v] H Q E
section
def aHR(F:Yc "without_costs" "without_costs" aDz)(T:Yf):dP P w K mg base cY 1 f fd ["aim"] (uP K):=by
 refine F.oky aI4 λζ H Q E h=>?_;obtain @⟨H,Q,E,v,M,bs,β,ι,⟨a,B,U,κ,rfl,e,γ,G,S,W,rfl,u,J⟩,N,q⟩:=h;refine Yg;intro O A j s η _;have L:=J.len;refine Y6h _ (dN (bB Y5R (bB Y5R (Y8N 0 (Y5E dH (by rfl) Kk ["one"] [] (vT (Y5R)) (Yeo YaJ rfl))))));refine Y0g e;refine Y0g e;refine Y0g e;refine Y0g e;refine Y1Z S (Ya0 u) (rF (xs:=W) (λi y H'=>BH K H' (0,1) y) (λi y H1 H2 s r=>r.t s) Oo u (λi y H' Q' m θ I=>?_) (λD d H1 μ δ R C p=>?_))
 ·exact I _ H' (Y0e) (.inr (Y7 T.o_NOUGHT))
 ·refine Y3E D d (Y6I δ (λl g=>?_));have sl:=Y2y d g;have z:(upd H1 l (.tup d)) l=Yj d:=bP;generalize upd H1 l (.tup d)=H2 at sl z;refine pJ (by show 4<=64;decide) λα H3 Z X n=>?_;have S3:=(R.trans sl).trans n;refine q _ H3 S3 ⟨α,B,U,Y1m,rfl,X,γ.same S3,G.same S3,l,d,rfl,n _ _ z,by rw[bH,C,L],λi y m=>?_⟩;have ε:=(aC.mp m).1;exact⟨(0,1),by rw[List.getElem?_replicate,Y5x],(p i y m).t (sl.trans n).t⟩
end
abbrev aEi:Stmt:=(top 54)
def aG4:Ye ["trial","rule","aim","mix"] a47 aEi:={}
def HB{ws:Y0A}{i:Nat}{x:Y8k}(h:ws[i]?=Y8):gD (Y0v) i=wq x.2:=by
 funext c
 unfold gD;rw[iB (by rw[aF,h];rfl)]
section
variable{F W M N B Ns Nc:Nat}{es:Yh}{s:Ak}{cs:Ak}
def pK.spq(R:Y1G)(hs:∀f∈s,Y8h)(C:CoC Nc es cs):Qn (Nc*(N*Ns^M)) (64*(1000*B)) (Y4n F es (wq s) cs):=by
 refine(Qn.sumL λe a=>?_).le (Y1s R.few);by_cases z:Y2=0
 ·rw[z,Rat.mul_zero,Rat.mul_zero];exact Y7P _
 ·exact(C.qn a z).mul (R.aqs hs a 0)
end
structure aHj(F W M Ns Nm Nc:Nat)(ws:Y0A)(mix cs:Ak):Prop where
 f1:1<=F
 f4:F<=4
 w4:W<=4
 wl:Yd4 W
 sh:∀x∈ws,∀f∈x.2,Y8h
 bo:∀x∈ws,Y7p x.2
 ml:mix.length=W
 mx:∀f∈mix,Fn Nm 1 f
 m0:0<Nm
 mz:Nm<=2^100
 c0:0<Nc
 c1:Nc<=1000000000000000
 ca:∀f∈cs,Fn Nc 1000 f
 cl:Ybj M
inductive wW (K:Aa):Ym
 | i {H:Hp} {Q:VK} {E:XK} {t r av:V} {es:Yh} {F W M Nc N B Ns Nm:Nat} {fs:Ah} {ws:Y0A} {bs mix cs:Ak} (h1:Y3m t) (h2:LW K H es r) (h3:Y4B K H M av) (h4:Y1G) (h5:aHj F W M Ns Nm Nc ws mix cs) (k:∀v H',Y1->Y2U H' (fS F W es (gD Y0v) Y8x (cB cs)) v->Y3G (eQ (fS F W es (gD Y0v) Y8x (cB cs)))->(eQ (fS F W es (gD (lI ws)) (cB mix) (cB cs))).2.natAbs<2^1960->Y1H):wW K [t,r,av] H Q E
section
def aID(F:Yc "cost" "cost" aEi)(T:Yf)(FQ71:Y00 "ways_of" a18 jO)(FQ69:Y36 "total" a27 (jJ K))(FQ67:Y70 2 "times" K)(FQ64:Y0W 6 "spent" a17 (wP K)):dP P w K mg base cY 7 f fd a47 (wW K):=by
 refine Y13 aG4;obtain @⟨H,Q,E,t,r,av,p,F,W,M,l,N,B,u,C,fs,G,bs,d,m,rt,rr,ra,RO,I,k⟩:=h;refine Yg;intro cdv A β s hr _;obtain⟨aa,xb,xm,xc,rfl,S,rxb,θ,ε⟩:=ra;obtain⟨am,vm,rfl,X,ι⟩:=oA θ;have w4:=I.w4;have μ:CoC l p m:=⟨I.c0,I.c1,I.ca,λe he z=>by rw[I.cl];exact RO.on e he z⟩;have nn:0<C*(l*(N*u^M)):=eM I.m0 (eM I.c0 RO.pz.1);have nd:C*(l*(N*u^M))<2^1960:=by
  have R:l*(N*u^M)<2^50*2^1800:=aJ (Y1s (Y2Z I.c1)) (Nat.mul_lt_mul_of_pos_left RO.z (Y61));have δ:C*(l*(N*u^M))<=2^100*(2^50*2^1800):=YbU I.mz R;refine aJ δ ?_;rw[<-Nat.pow_add,<-Nat.pow_add];exact YeT Dd
 have nz:C*(l*(N*u^M))<Y0y:=Y6j nd;have Z:64*(1000*B)<=2^120:=Y2Z (dF _ (dF _ RO.b));have ξ:∀i,i<W->Qn (C*(l*(N*u^M))) (64*(1000*B)) (cB d i*Y4n F p (gD (lI G) i) m):=λi j=>by
  obtain⟨x,O⟩:∃x,G[i]?=Y8:=Y4T (by rw[I.wl];exact j);have R:=(I.mx _ (eO (a:=(0,1)) (by rw[I.ml];exact j))).q.mul (RO.spq (I.sh x (aE O)) μ);rw[Nat.one_mul]at R;rw[HB O];exact R
 refine⟨_,(aH (Y7r 3 aG4.nd (Y17 2))
  (Y0V (fV FQ69 (Y7B ["way","trial","rule","aim","mix"] [0,1,2,3] (Y7N (Y0F FQ71 0)) (Y95 (bO (iA K) (aD 4) Y02) (VX FQ64 (Y0m) (Y07) (Y02) (Y7u 3))))))),?_⟩
 refine Yu;intro d_ n_;refine Y0g S;refine Y7 (jO.i rt ?_);rw[I.wl];refine Y5I _ Oo Oo (Y9I (i<W/\Y2U H' (cB d i*Y4n F p (gD (lI G) i) m) y) (λi y H1 H2 s ⟨R,δ⟩=>⟨R,δ.flat s (Y2h)⟩) Oo (λi H' Q' j L k'=>?_) (λD υ H1 hD e1 s1 hy κ=>?_))
 ·have j:i<W:=Oo;obtain⟨x,O⟩:∃x,G[i]?=Y8:=Y4T (by rw[I.wl];exact j);have J:=aE O;obtain⟨g,α⟩:∃g,d[i]?=some g:=Y4T (by rw[I.ml];exact j);obtain⟨vg,γ,ζ⟩:=kI ι α;have U:=I.mx g (aE α);rw[Int.zero_add];refine Y08 (jF (L _ _ X) (dR γ) ?_);refine⟨_,rfl,_,rfl,_,rfl,_,rfl,Y7A (L _ _ S)⟩;refine wP.i (rt.same L) (rr.t L.t) RO I.f1 I.f4 O (I.sh x J) (I.bo x J) (ε.t L.t) μ λv2 H2 ο χ=>?_;have n1:Fn (C*(l*(N*u^M))) 1 g:=Qn.f U.low (U.q.dvd (mL _ _));have ω:Fn (C*(l*(N*u^M))) (64*(1000*B)) (eQ (Y4n F p (wq x.2) m)):=((RO.spq (I.sh x J) μ).dvd (Nat.dvd_mul_left _ _)).fq;refine eN.i (jE.of ((ζ.same L).same ο)) (jE.of χ) U.low (Y03) (Yaw n1 nn nz) (nC ω nn nz (Y54 Z)) λq3 H3 ψ e3 η=>k' _ H3 (ο.trans η) ⟨j,eV ?_⟩;have em:mZ g (eQ (Y4n F p (wq x.2) m))=eQ (cB d i*Y4n F p (gD (lI G) i) m):=iW (iM U.low Y03) Y03 (by rw[kP U.low.pos (Y03).pos,dB,dB,pY α,HB O]);rw[e3,em]
 have φ:bG H1 (((List.range W).map λi=>eQ (cB d i*gA F p (gD (lI G) i) (cB m))).map iR) υ:=YaQ κ;have fl:∀f∈(List.range W).map (λi=>eQ (cB d i*gA F p (gD (lI G) i) (cB m))),Fn (C*(l*(N*u^M))) (64*(1000*B)) f:=λf τ=>by
  obtain⟨i,j,rfl⟩:=aM.mp τ;exact(ξ i (bR.mp j)).fq
 refine Yb8 e1 φ (rP fl nn nz (by rw[aA,aT];exact Oo) (Y54 Z)) (λv H3 η ν=>?_);rw[WG (f:=λi=>cB d i*Y4n F p (gD (lI G) i) m) λe _=>⟨Y03,dB _⟩]at ν;have ρ:=YdZ (λi j=>ξ i j);refine k v H3 (s1.trans η) ν (nC ρ.fq nn nz (aL (Nat.mul_le_mul w4 Z) ?_)) (aJ (ρ.fq.num nn).2 nd);exact aL Dd (aK (n:=2) (i:=130) Dd Dd)
end
def rO(F W:Nat)(ss:Aj)(bs:Ak)(es:Yh):Prop:=∀w,w<W->1-Y3z es w w<=Y3a w
section
variable{F W M:Nat}{ss:Aj}{mix ps cs bs:Ak}{Ns Nm Np Nc BB Nr:Nat}{us:Ae}{cu X U e:Nat}{b:Y0}{H:Hp}{B R:Md.fG}{p:Int}{ts:Y0z}
def iP.nolack(S:iP H F W M ss mix cs us cu b B R p ts)(nl:Yx Y1e){i:Nat}(hi:i<W+1):∃t,ts[i]?=Y8a/\((Yx (ED ts i)/\t.cost=0/\∃w,w<W/\B i=Md.unit w)\/(ED ts i=true/\B i W=1)):=by
 obtain⟨t,d,f⟩:=S.at hi;have c:ED ts i=Y9P "rule":=by unfold ED;rw[d];rfl
 refine Y0j t d;rcases f with⟨a,g,h⟩ | ⟨a,_⟩ | ⟨a,l,j,e,_,_,_,R⟩
 ·exact .inl ⟨by rw[c,a];decide,g,h⟩
 ·have:Y1e=true:=uX.mpr ⟨t,aE d,a⟩;rw[nl]at this;cases this
 ·exact Y2E (by rw[c,a];decide) R.one
def iP.parts(Z:AC F W M ss mix ps cs Ns Nm Np Nc BB us cu X U e b)(S:iP H F W M ss mix cs us cu b B R p ts)(nl:Yx Y1e):Y3Q W b R (W+1) (λ_=>1)=(p:Rat):=by
 have h:=S.mst.bs.ends (b:=b) (r:=W) Oo;rw[Z.bW,Int.mul_one]at h;rw[<-h,Md.rJ];unfold wsum;refine bQ λi g=>?_;obtain⟨t,_,d⟩:=S.nolack nl g;rcases d with⟨a,_,w,j,c⟩ | ⟨a,c⟩
 ·rw[a,Y2B,c];unfold Md.unit;rw[Y2l,Int.mul_zero];rfl
 ·rw[a,Yo,c,Int.mul_one,Rat.mul_one];rfl
def iP.cols(S:iP H F W M ss mix cs us cu b B R p ts)(nl:Yx Y1e){w:Nat}(hw:w<W):Y3Q W b R (W+1) (λj=>((B j w:Int):Rat))<=(p:Rat)*(b w:Rat):=by
 have h:=S.mst.bs.ends (b:=b) (r:=w) Oo;rw[<-Rat.intCast_mul,<-h,Md.rJ];unfold wsum;refine lJ λi c=>?_;obtain⟨t,_,e⟩:=S.nolack nl c;rcases e with⟨a,_,v,g,d⟩ | ⟨a,d⟩
 ·rw[a,Y2B,d];have:=Int.mul_nonneg (S.mst.share c) (GJ (w:=v) (r:=w)).1
  exact_mod_cast this
 ·rw[a,Yo,Rat.intCast_mul];exact Rat.le_refl
def iP.costs(S:iP H F W M ss mix cs us cu b B R p ts)(nl:Yx Y1e):Y3Q W b R (W+1) (λj=>(((ts[j]?.map (·.cost)).getD 0:Int):Rat))=((Md.dot (W+1) (jK W R ts) b:Int):Rat):=by
 rw[<-Md.BI];unfold Md.zet;rw[Md.rJ];unfold wsum;refine bQ λi h=>?_;obtain⟨t,c,g⟩:=S.nolack nl h;have e:xZ ts i=t.cost:=by unfold xZ;rw[if_neg (by rw[nl];decide),c];rfl
 rw[e];show(if ED ts i=true then _*(((ts[i]?.map (·.cost)).getD 0:Int):Rat) else 0)=_;rw[c];show(if ED ts i=true then _*((t.cost:Int):Rat) else 0)=_;rcases g with⟨a,d,_⟩ | ⟨a,d⟩
 ·rw[a,Y2B,d,Int.zero_mul];rfl
 ·rw[a,Yo,Rat.intCast_mul,Rat.mul_comm]
def TW(Z:AC F W M ss mix ps cs Ns Nm Np Nc BB us cu X U e b)(S:iP H F W M ss mix cs us cu b B R p ts)(nl:Yx Y1e)(hb:∀(i:Nat) (u:Nat),Y5X=Yp->(b i:Rat)=Y3a i*(u:Rat))(cu0:0<cu){es:Yh}{N:Nat}(mr:MrQ F W M U Nr ss mix cs us cu b B R ts (W+1) es N)(hy:∀w,w<W->jK W R ts w<=0)(hw:((jK W R ts W:Int):Rat)<=Y7Y F W M (pzY W R ts us) (TZ ts p cu)) :
  rO F W ss bs es/\∀es',nV F W M es'->rO F W ss bs es'->Y4w F W es<=Y4w F W es':=by
 have l:(0:Rat)<(p:Rat):=by exact_mod_cast S.mst.bs.pos
 have m:(0:Rat)<(cu:Rat):=by exact_mod_cast cu0
 have d:∀w,w<W->∃u,us[w]?=Yp/\(0:Rat)<(u:Rat):=λw hw=>by
  have a:us[w]?=some (us[w]'(by rw[Z.sl.ul];exact hw)):=aB _;exact Y0K a (by exact_mod_cast(YeC _ a).1)
 refine⟨λw hw=>?_,λes' A K=>?_⟩
 ·obtain⟨u,a,h⟩:=d w hw;have h1:=mr.said w u a;have j:=S.cols nl hw;rw[S.parts Z nl]at h1;rw[<-h1,hb w u a]at j;refine Yf1 ((u:Rat)*(p:Rat)) (Rat.mul_pos h l);grind
 ·have h1:=mr.cost;rw[S.parts Z nl,S.costs nl]at h1;have j:=Rat.le_trans hw (BL A.rl A.hM A.on Z.sl.q.h0 Z.sl.q.h1 A.hs);have r:=Md.JY W (y:=jK W R ts) (p:=p) (b:=b) hy Z.bW (x:=(cu:Rat)*Y4w F W es') (α:=λw=>((us.getD w 0:Nat):Rat)*(1-Y3z es' w w)) (λw hw=>by
   obtain⟨u,a,h⟩:=d w hw;show((us.getD w 0:Nat):Rat)*_<=_;rw[iB a,hb w u a,Rat.mul_comm (Y3a w)];exact Rat.mul_le_mul_of_nonneg_left (K w hw) (Rat.le_of_lt h)) (by
   refine Ycc j;have n:TZ ts p cu=(p:Rat)*(cu:Rat):=by unfold TZ;rw[if_neg (by rw[nl];decide)]
   rw[n,YcJ (-(jK W R ts w:Rat)*(((us.getD w 0:Nat):Rat)*(1-Y3z es' w w))) (λw _=>by unfold pzY;grind)];grind)
  rw[<-h1]at r;refine Yf1 ((cu:Rat)*(p:Rat)) (Rat.mul_pos m l);grind
def aBY(S:iP H F W M ss mix cs us cu b B R p ts)(nl:Y1e=true):Md.lexp (W+2) (Md.zet (W+1) b R (xZ ts)):=by
 have c:∀i,xZ ts i=0\/xZ ts i=1:=λi=>by
  unfold xZ;rw[if_pos nl];split
  ·exact Ybv
  ·exact Y62
 have all:∀m,m<=W+1->Md.lexp (W+2) (λk=>Md.dX m λi=>xZ ts i*Y3x (W+1) k)\/((∀k,(Md.dX m λi=>xZ ts i*Y3x (W+1) k)=0)/\∀i,i<m->xZ ts i=0):=by
  intro m
  induction m with
  | zero=>intro _;exact Y2E (λk=>rfl) (λi a=>Oo)
  | succ m ih =>
   intro r;rcases c m with z | z
   ·rcases ih Oo with h | ⟨d,j⟩
    ·exact .inl (Yes (by rw[Md.dX,z,Int.zero_mul,Int.add_zero]) h)
    ·exact .inr ⟨λk=>by rw[Md.dX,d,z,Int.zero_mul];rfl,λi a=>by
      by_cases q:i=m
      ·subst q;exact z
      ·exact j i Oo⟩
   ·have l:=S.mst.lex m Oo;rcases ih Oo with h | ⟨d,j⟩
    ·exact .inl (Yes (by rw[Md.dX,z,Int.one_mul]) (Md.KB h l))
    ·exact .inl (Yes (by rw[Md.dX,d,z,Int.one_mul,Int.zero_add]) l)
 rcases all (W+1) (Yq)with h | ⟨_,h⟩
 ·exact h
 ·exfalso;obtain⟨t,n,e⟩:=uX.mp nl;obtain⟨i,a⟩:=List.getElem?_of_mem n;have:=h i (by have:=(Y82).1;rw[S.len]at this;exact this);unfold xZ at this;rw[if_pos nl,a]at this;have g:(if Y9P "lack"=true then(1:Int) else 0)=0:=this;rw[if_pos (cN e)]at g;cases g
def YI(Z:AC F W M ss mix ps cs Ns Nm Np Nc BB us cu X U e b)(S:iP H F W M ss mix cs us cu b B R p ts)(nl:Y1e=true)(hb:∀(i:Nat) (u:Nat),Y5X=Yp->(b i:Rat)=Y3a i*(u:Rat))(hy:∀w,w<W->jK W R ts w<=0)(hw:((jK W R ts W:Int):Rat)<=Y7Y F W M (pzY W R ts us) (TZ ts p cu)){es:Yh}(A:nV F W M es):¬rO F W ss bs es:=λK=>by
 have h:=Rat.le_trans hw (BL A.rl A.hM A.on Z.sl.q.h0 Z.sl.q.h1 A.hs);refine Md.aBV W (y:=jK W R ts) (b:=b) hy Z.bW (Yes ?_ (aBY S nl)) (α:=λw=>((us.getD w 0:Nat):Rat)*(1-Y3z es w w)) (λw hw=>?_) ?_
 ·cases k with
  | zero=>exact Md.BI b R (xZ ts)
  | succ k=>rfl
 ·have a:us[w]?=some (us[w]'(by rw[Z.sl.ul];exact hw)):=aB _;have c:(0:Rat)<((us[w]'(by rw[Z.sl.ul];exact hw):Nat):Rat):=by exact_mod_cast(YeC _ a).1
  show((us.getD w 0:Nat):Rat)*_<=_;rw[iB a,hb w _ a,Rat.mul_comm (Y3a w)];exact Rat.mul_le_mul_of_nonneg_left (K w hw) (Rat.le_of_lt c)
 ·refine Ycc h;have d:TZ ts p cu=0:=by
   unfold TZ;rw[if_pos nl];show(0:Rat)*_=0;rw[Rat.zero_mul]
  rw[d,YcJ (-(jK W R ts w:Rat)*(((us.getD w 0:Nat):Rat)*(1-Y3z es w w))) (λw _=>by unfold pzY;grind)];grind
end
structure AF(F W M:Nat)(fs:Ah)(ws:Y0A)(bs mix cs:Ak)(Ns Nm Nc Nb BB e X:Nat):Prop where
 wg:aG8 ws bs F W M Ns Nm 1 Nc BB Nb mix (YaC (0,1)) cs
 fl:Y6S F
 q:VF F W (gD Y0v)
 bn:∀f∈bs,0<=f.1
 mn:∀w,0<=Y5V
 m1:bZ W Y8x=1
 cn:∀k,0<=Y5U
 cg:aHj F W M Ns Nm Nc ws mix cs
 mz:MA F W M (Ns^M*Nb) Ns
 Ue:Ns^M*Nb<=2^e
 cX:oJ M Ns Nm 1 Nc*5000<2^X
 sz:6*e+X+20<=4000
 pB:2097152*(BB+ZB W (Ns^M*Nb) X*(Ns^M*Nb))<=WB
 pN:PB W (Ns^M*Nb)*oJ M Ns Nm 1 Nc*oJ M Ns Nm 1 Nc<Y0y
def DG(W:Nat)(bs:Ak)(us:Ae)(r:Nat):Int:=if r=W then 1 else(bs.getD r (0,1)).1*(((us.getD r 0:Nat):Int)/(bs.getD r (0,1)).2)
section
variable{F W M:Nat}{fs:Ah}{ws:Y0A}{bs mix cs:Ak}{Ns Nm Nc Nb BB e X:Nat}{us:Ae}{cu:Nat}
def aA1{cs:Ak}(hl:Ybj M)(m5:M<=5)(h:∀f∈cs,Fn Nc 1000 f)(c0:0<Nc):lQ M (cB cs) 0<=5000:=by
 have d:∀k,Y5U<=1000:=λk=>by
  by_cases hk:k<cs.length
  ·obtain⟨z,j,m⟩:=(h _ (eO (a:=(0,1)) hk)).q;have e:(0:Rat)<(Nc:Rat):=by exact_mod_cast c0
   refine Rat.le_of_mul_le_mul_right (c:=(Nc:Rat)) ?_ e;show rv (cs.getD k (0,1))*(Nc:Rat)<=_;rw[j];have:z<=((1000*Nc:Nat):Int):=Oo;have l:(z:Rat)<=(((1000*Nc:Nat):Int):Rat):=by exact_mod_cast this
   refine Ycc l;rw[Rat.intCast_natCast,Rat.natCast_mul];exact Rat.le_refl
  ·rw[nF Oo];decide
 unfold lQ;have g:Y4k (M-0) (Y3N (0+i))<=bZ (M-0) λ_=>1000:=lJ λi _=>d _;refine Ycc g;have:M=0\/M=1\/M=2\/M=3\/M=4\/M=5:=Oo;rcases this with rfl | rfl | rfl | rfl | rfl | rfl <;> decide +kernel
def AF.sl(I:AF F W M fs ws bs mix cs Ns Nm Nc Nb BB e X)(ul:Y2T W)(uo:IL bs (Ns^M*Nb) us)(cu0:0<cu)(cud:cu ∣ oJ M Ns Nm 1 Nc):VE F W M (Y0v) mix (YaC (0,1)) cs Ns Nm 1 Nc BB us cu X:=by
 have wo:=I.wg.wo;have h:cu<=oJ M Ns Nm 1 Nc:=kE wo.pos cud;have nn:0<Ns^M*Nb:=eM (Yfm) I.wg.nb;have l:∀u∈us,u<=Ns^M*Nb:=λu a=>kE nn (uo.d u a).2;have r:∀u∈us,0<u/\u<Y0y:=λu a=>⟨(uo.d u a).1,Y8T (aL (l u a) I.Ue) (by have:=I.sz;exact Oo)⟩;have i:cu<Y0y:=aJ h wo.sz;have c0:(0:Rat)<=(cu:Rat):=by exact_mod_cast cP cu
 refine⟨wo,Y2Z I.mz.few,ul,r,i,I.q,λD A n g=>?_,λc p n g=>?_,λv u a c p n g=>?_⟩
 ·obtain⟨B,z⟩:=A.cost I.q I.cn I.mn I.m1;have C:=Rat.le_trans z (aA1 I.cg.cl wo.m5 I.cg.ca I.cg.c0);have s:(0:Rat)<=(n:Rat):=by rw[g];exact cA c0 B
  have y:(n:Rat)<=(((cu*5000:Nat):Int):Rat):=by
   rw[g,Rat.intCast_natCast,Rat.natCast_mul];exact Rat.mul_le_mul_of_nonneg_left C c0
  have G:0<=n:=by exact_mod_cast s
  have J:n<=((cu*5000:Nat):Int):=by exact_mod_cast y
  exact aJ Oo (aJ (bJ 5000 h) I.cX)
 ·have m:=of_decide_eq_true (gC.mp p).2;have j:=CV (show Qn _ (BB*4) (CM W (lI ws) mix cs c)by have:=(IJ wo m).q;rwa [dB]at this) wo.pos g;exact aJ j (aEG i (aL (show BB*4<=4*WB by have:=wo.b;exact Oo) vP))
 ·have w:v<W:=by have:=(Y82).1;rw[ul]at this;exact this
  have:=CV (wo.qn w (c:=c) ((gH wo.f1).mp p).2) (Yfm) g;rw[Nat.one_mul]at this;exact Y7W this ((r u (aE a)).2)
def NU(I:AF F W M fs ws bs mix cs Ns Nm Nc Nb BB e X)(ul:Y2T W)(uo:IL bs (Ns^M*Nb) us){i:Nat}{f:Fr}{u:Nat}(hf:bs[i]?=Y6w)(hu:Y5X=Yp):Y0b/\Y4z/\f.2.natAbs ∣ u/\(DG W bs us i:Rat)=Y0Y*(u:Rat)/\0<=DG W bs us i/\(DG W bs us i).natAbs<=u:=by
 have n:i<W:=by have:=(aC.mp hu).1;rw[ul]at this;exact this
 have fn:=I.wg.bb f (aE hf);have l:=fn.low;have d:=uo.b i f u hf hu;have j:=I.bn f (aE hf);have h:=l.pos;obtain⟨k,m⟩:=d;have g:(u:Int)=f.2*(k:Int):=by rw[m,Int.natCast_mul];congr 1;exact Oo
 have c:DG W bs us i=f.1*(k:Int):=by
  unfold DG;rw[Y2l,iB hf,iB hu,g,Y57]
 have a:(DG W bs us i:Rat)=Y0Y*(u:Rat):=by
  have:((u:Nat):Rat)=(f.2:Rat)*(k:Rat):=by rw[<-Rat.intCast_natCast,g,Rat.intCast_mul,Rat.intCast_natCast]
  rw[c,this,Rat.intCast_mul,Rat.intCast_natCast,<-pD h];grind
 have nz:Nb<Y0y:=aJ (Y5Y I.wg.wo.pos) I.wg.sz;refine⟨l,Yaw fn I.wg.nb nz,uo.b i f u hf hu,a,by rw[c];exact Int.mul_nonneg j Oo,?_⟩;have:=CV fn.q I.wg.nb a
 rwa [Nat.one_mul]at this
def AF.st(I:AF F W M fs ws bs mix cs Ns Nm Nc Nb BB e X)(ul:Y2T W)(uo:IL bs (Ns^M*Nb) us)(cu0:0<cu)(cud:cu ∣ oJ M Ns Nm 1 Nc):AC F W M (Y0v) mix (YaC (0,1)) cs Ns Nm 1 Nc BB us cu X (Ns^M*Nb) e (DG W bs us):=by
 have nn:0<Ns^M*Nb:=eM (Yfm) I.wg.nb;refine⟨I.sl ul uo cu0 cud,λu a=>kE nn (uo.d u a).2,nn,λr j=>?_,Yo,I.Ue,I.sz⟩;by_cases h:r=W
 ·unfold DG;rw[Y3K];exact Ya7 nn
 ·have g:bs[r]?=some (bs[r]'(by rw[I.wg.bl];exact Oo)):=aB _;have a:us[r]?=some (us[r]'(by rw[ul];exact Oo)):=aB _;obtain⟨_,_,_,_,c,i⟩:=NU I ul uo g a;exact⟨c,aL i (kE nn (uo.d _ (aE a)).2)⟩
def aC4(I:AF F W M fs ws bs mix cs Ns Nm Nc Nb BB e X)(ul:Y2T W)(uo:IL bs (Ns^M*Nb) us):∀(i:Nat) (u:Nat),Y5X=Yp->(DG W bs us i:Rat)=Y3a i*(u:Rat):=λi u c=>by
 have d:i<W:=by have:=(aC.mp c).1;rw[ul]at this;exact this
 have a:bs[i]?=some (bs[i]'(by rw[I.wg.bl];exact Oo)):=aB _;rw[(NU I ul uo a c).2.2.2.1,pY a]
def AF.pw(I:AF F W M fs ws bs mix cs Ns Nm Nc Nb BB e X){Z:AC F W M (Y0v) mix (YaC (0,1)) cs Ns Nm 1 Nc BB us cu X (Ns^M*Nb) e (DG W bs us)}{H:Hp}{B R:Md.fG}{p:Int}{ts:Y0z}(S:iP H F W M (Y0v) mix cs us cu (DG W bs us) B R p ts){k:Nat}(k0:0<k)(kz:k<=oJ M Ns Nm 1 Nc){cs':Ak}(cl:cs'.length=M)(ca:∀f∈cs',Fn Nc BB f):kX F W M (Y0v) mix (prL W R ts us p k) cs' Ns Nm (p*(k:Int)).natAbs Nc (BB+ZB W (Ns^M*Nb) X*(Ns^M*Nb)):=by
 have wo:=I.wg.wo;have g:=S.mst.bs.pos;have i:0<p*(k:Int):=Int.mul_pos g Oo;have d:oJ M Ns Nm 1 Nc=Nc*Nm*Ns^M:=by unfold oJ;rw[Nat.one_mul]
 have h:0<Nc*Nm*Ns^M:=by rw[<-d];exact wo.pos
 have c:(p*(k:Int)).natAbs*Nc*Nm*Ns^M=(p*(k:Int)).natAbs*(Nc*Nm*Ns^M):=by ac_rfl
 refine⟨wo.f1,wo.f4,wo.w1,wo.w4,wo.m5,wo.sl,wo.ml,by unfold prL;rw[aA,aT],cl,wo.sh,wo.mx,λf a=>(aEQ Z S k0 f a).le (Nat.le_add_left _ _),λf a=>(ca f a).le (Y9s _),by rw[c];exact eM Oo h,?_,I.pB⟩;rw[c,<-d,dD];refine aJ (Y1s (Nat.mul_le_mul (S.size Z).1 ?_)) I.pN;exact kz
end
abbrev aEc:Stmt:=(top 73)
def aAj:Ye ["trial","aim","weighing","master","prices"] a25 aEc:={}
inductive oR (K:Aa):Ym
 | i {H:Hp} {Q:VK} {E:XK} {tv av:V} {F W M:Nat} {fs:Ah} {ws:Y0A} {bs mix cs:Ak} {Ns Nm Nc Nb BB e X:Nat} (h1:Y3m tv) (h2:Y4B K H M av) (h3:AF F W M fs ws bs mix cs Ns Nm Nc Nb BB e X) (h4:∀f∈cs,Fn Nc BB f) (q0:∀a y z H',Y1->H' a=Yj [.str "none",y,z]->(∀es,nV F W M es->¬rO F W (Y0v) bs es)->Y0E a) (q1:∀a r y z es N C H',Y1->H' a=Yj [.str "rule",r,y,z]->LW K H' es r->pK F W M N C Ns es->rO F W (Y0v) bs es->(∀es',nV F W M es'->rO F W (Y0v) bs es'->fS F W es (gD Y0v) Y8x (cB cs)<=fS F W es' (gD Y0v) Y8x (cB cs))->Y0E a):oR K [tv,av] H Q E
section
def aIw(F:Yc "fewest" "fewest" aEc)(T:Yf)(FQ3:FnO P w K mg base 7 c.Weighing a19 (wN K c.Weighing))(FQ63:Y0W 5 "settled" ["weighing","bounds"] (rY K c.Weighing c.Master))(FQ38:Y00 "lacks" a20 Yez)(FQ57:Y0W 4 "prices_of" a26 (qP c.Weighing c.Master))(FQ75:Y0W 7 "worths" a40 (qM K))(FQ74:Y00 "without_costs" ["aim"] (uP K))(FQ65:Y0W 8 "standing_mixed" a31 (wO K c.Weighing c.Master))(FQ31:Y00 "faces_of" a18 jZ):dP P w K mg base cY 9 f fd a25 (oR K):=by
 refine Y13 aAj;obtain @⟨H,Q,E,tv,av,F,W,M,fs,ws,bs,mix,cs,Ns,Nm,Nc,Nb,BB,e,X,rt,U,I,cb,q0,q1⟩:=h;refine Yg;intro cdv A ε s hr _;have O:=T.w_Weighing;refine⟨_,(aH (Y10 aAj.nd (IU FQ3 T.g_Weighing (hr.mono Dd) (Y4O 0 Y0m)))
  (aH (Y0J aAj.nd (Y4a FQ63 2 Y2M))
  (aH (iE (pX (Y0F FQ38 3)) (aH (Y2A aAj.nd (Y3j FQ57 Y07 3 aI))
  (Y0V (dN (bB (Y9Q "none" T.g_NONE) (Y4O 4 (kQ FQ75 (Y02) (Y0F FQ74 1) (Y1i))))))) fA)
  (aH (Y2A aAj.nd (Y3j FQ57 Y07 3 (dQ K (aD 2))))
  (Y0V (dN (bB (YeA "rule") (bB (Y3j FQ65 (Y0F FQ31 0) 2 Y0B) (bB Y1i (Y1L (Y3j FQ75 Y02 1 Y1i))))))))))),?_⟩
 refine Yu;intro μ φ;refine Y06;intro x l hx ι ρ;have D:aU H (Y8Q (Y3f l (.own x)) x c.Weighing l []):=(aU.upd ι).trans (aU.upd (by rw[fF (Ne.symm ρ)];exact hx));have eA:(upd (upd H l (.own x)) x (.ins c.Weighing l [])) x=some (.ins c.Weighing l []):=bP;generalize upd (upd H l (.own x)) x (.ins c.Weighing l [])=H1 at D eA ⊢;refine wN.i eA (rt.same D) I.fl (U.same D) I.wg λus ζ H2 b2 wg L a C=>Yg;refine Ys;intro μ φ;have S2:aU H H2:=aU.thru hx D b2;have ul:=wg.ul;have Z:=I.st ul L a C;obtain⟨aa,xb,xm,xc,rfl,η,υ,rxm,rxc⟩:=U.same S2;obtain⟨ab,vb,rfl,ν,θ⟩:=oA υ;refine Y91 η;refine rY.i wg ν (vG.of θ) I.wg.bl (λi f u β hu=>by obtain⟨g1,g2,g3,g4,_⟩:=NU I ul L β hu;exact⟨g1,g2,g3,g4⟩) Z λm sa B R p uv ts H3 S χ ψ st hy hw=>Ys;intro μ φ;have n8:W+1<=8:=by have:=I.wg.wo.w4;exact Oo
 refine Y6;refine lU.i χ ψ n8 λH4 j=>Y6;have S4:=(S2.trans S).trans j;have z:=wg.same (S.trans j);have g:=χ.same j;have n:=ψ.same j;have r:=st.to λbp kb h=>j _ _ h;have ξ:ζ<=oJ M Ns Nm 1 Nc:=kE I.wg.wo.pos C;have cz:ζ<Y0y:=Z.sl.cuz;cases eb:Y1e with
 | true =>
  refine sO Yu;intro μ φ;refine Y06;refine qP.i (k:=1) z g n Z r Dd (Ydt) λv5 H5 y γ=>?_;have S5:=S4.trans y;have ο:=I.cg.cl;have m5:=I.wg.wo.m5;refine Y4q;refine uP.i (U.same S5) Oo λv6 H6 d ω=>Y6;exact qM.i (rt.same (S5.trans d)) I.fl ω (γ.same d) (I.pw (Z:=Z) st (k:=1) Dd I.wg.wo.pos (by rw[bH];exact ο) λf β=>by rw[List.eq_of_mem_replicate β];exact(Fn.zero Nc).le (Y0H)) I.wg.bo λv7 H7 α _=>pJ (by show 3<=64;decide) λG H8 δ κ J=>q0 G _ _ H8 (((S5.trans d).trans α).trans J) κ λes A=>YI Z st eb (aC4 I ul L) hy hw A
 | false =>
  refine rB ?_;obtain⟨_,gx,fl,gr,ua,wa,ca,tas,kvs,a0,a1,a2,a3,a4,a5,ω,a7,G,a9,a10,a11⟩:=z;refine Y2J (Y4i O (by simp) a0 a4);refine qP.i (k:=ζ) (wg.same (S.trans j)) g n Z r a cz λv5 H5 y γ=>?_;have S5:=S4.trans y;refine Y7 (jZ.i (rt.same S5) ?_);rw[I.fl];refine Y06;refine wO.i (wg.same ((S.trans j).trans y)) (g.same y) (n.same y) Z (r.to λbp kb h=>y _ _ h) I.mz (by rw[st.parts Z eb];exact_mod_cast st.mst.bs.pos) λv6 H6 d mr=>?_;obtain⟨es,N,τ,mq⟩:=mr;refine⟨_,rfl,_,rfl,_,rfl,_,rfl,?_⟩;refine qM.i (rt.same (S5.trans d)) I.fl (U.same (S5.trans d)) (γ.same d) (I.pw (Z:=Z) st a ξ I.cg.cl cb) I.wg.bo λv7 H7 α _=>pJ (by show 4<=64;decide) λG H8 δ κ J=>?_;obtain⟨k1,k2⟩:=TW Z st eb (aC4 I ul L) a mq hy hw;exact q1 G _ _ _ es N _ H8 (((S5.trans d).trans α).trans J) κ (τ.t (α.trans J).t) mq.ru k1 k2
end
abbrev aD6:Stmt:=(top 74)
def aG2:Ye ["trial","aim","paper"] a25 aD6:={}
def LcQ(F W M:Nat)(ss:Aj)(bs mix cs:Ak):Y1k Y4L
 | none=>∀es,nV F W M es->¬rO F W ss bs es
 | some v=>∃es,nV F W M es/\rO F W ss bs es/\fS F W es (gD ss) (cB mix) (cB cs)=v/\(∀es',nV F W M es'->rO F W ss bs es'->v<=fS F W es' (gD ss) (cB mix) (cB cs))/\∀e∈es,MB (1+W) e.2
def SzO(o:Y4L):Prop:=∀q,o=some q->Y3G Y1K/\(eQ q).2.natAbs<2^1960
def DX(H:Hp):Y0r Y4L V
 | none,v=>v=.non
 | some q,v=>dC H (iR (eQ q)) v
def DX.t{H H':Hp}{o:Y4L}{v:V}(h:DX H o v)(s:Y2t):DX H' o v:=by
 cases o with
 | none=>exact h
 | some q=>exact dC.flat s (Y2h) h
inductive wU (K:Aa):Ym
 | i {H:Hp} {Q:VK} {E:XK} {tv av:V} {F W M:Nat} {fs:Ah} {ws:Y0A} {bs mix cs:Ak} {Ns Nm Nc Nb BB e X:Nat} (h1:Y3m tv) (h2:Y4B K H M av) (h3:AF F W M fs ws bs mix cs Ns Nm Nc Nb BB e X) (h4:∀f∈cs,Fn Nc BB f) (k:∀o v H',Y1->LcQ F W M (Y0v) bs mix cs o->DX H' o v->SzO o->Y1H):wU K [tv,av] H Q E
section
def aIp(F:Yc "least_cost" "least_cost" aD6)(T:Yf)(FQ33:Y0W 9 "fewest" a25 (oR K))(FQ26:Y0W 7 "cost" a47 (wW K)):dP P w K mg base cY 10 f fd a25 (wU K):=by
 refine YfB aG2 ?_;obtain @⟨H,Q,E,U,η,F,W,M,fs,S,bs,R,ζ,Z,ε,ι,β,BB,e,X,rt,l,I,L,k⟩:=h;refine Yg;intro G A j s δ _;refine⟨_,(aH (Y10 aG2.nd (Y3w FQ33 1))
  (Y0V (lP (eB nP (Y17 2) (YeA "rule")) (kQ FQ26 (Y02) (Y17 2) (Y0m)) lG))),?_⟩
 refine Yu;intro γ θ;refine Y08 (oR.i rt l I L (λa y z H1 d g O=>?_) (λa r y z p N C H1 d g J RU m le=>?_))
 ·refine Y0g g;refine Y87 (tF (by rw[uF];decide) ?_);exact k none _ H1 d O rfl λq e=>by cases e
 ·refine Y0g g;refine Y87 (CT (by rw[uF];decide) ?_);refine Y91 g;refine Y6;refine wW.i (rt.same d) J (l.same d) RU I.cg λv H2 n D u B=>?_;exact k (Y7g) v H2 (d.trans n) (Y5C p RU.any m le RU.sy) D λq e=>by cases e;exact⟨u,B⟩
end
theorem PC{W:Int}(hW:0<W):∀ps:Af,vD ((ps.map λx=>lw x W).map rv)=(ps.sum:Rat)/(W:Rat)
 | []=>by
  have:=nS hW;show(0:Rat)=_;rw[show(([]:Af).sum:Rat)=0 from rfl];grind
 | x::ps=>by
  have:=nS hW;rw[bE,bE,qK,PC hW ps,EV hW,List.sum_cons,Rat.intCast_add];grind
def MC.one{m:Nat}{fs:Ak}(h:MC m fs):vD (YcV)=1:=by
 obtain⟨d,W,e,j,c,a,g,i,rfl⟩:=h.ex;rw[PC a,c];have:=nS a;grind
def TrC.qin{F W:Nat}{fs:Ah}{ws:Y0A}(T:TrC F W fs ws):VF F W (gD Y0v):=by
 have at_:∀w,w<W->∃x,ws[w]?=Y8/\MC F x.2:=λw d=>by
  have a:ws[w]?=some (ws[w]'(by rw[T.w];exact d)):=aB _;exact Y0K a (T.sh _ (aE a))
 refine⟨λw d=>?_,λw d c g=>?_,λw _ c=>T.nn w c⟩
 ·obtain⟨x,a,s⟩:=at_ w d;rw[HB a];exact aAS (λf e=>(s.at f e).1.low) F
 ·obtain⟨x,a,s⟩:=at_ w d;have:=aDl (λf e=>(s.at f e).1.low) s.one (c:=c) (by rw[s.len];exact g);rw[s.len]at this;rw[HB a];exact this
section
variable{F W M:Nat}{es:Yh}{q:Nat->Y01}
def xT{c:Ae}{f:Nat}(hf:f<c.length):Y5b≠Ya:=λh=>by
 have a:=fX (c:=c) hf;rw[h]at a;simp at a
def PQ(R:Y1h):Y4 Ya=1:=by
 have h:=R.all λc=>if Ya=c then 1 else 0
 obtain⟨a,r,rfl,j⟩:=R.root;rw[Yo,cT (l:=a::r) (g:=Y2V) (f:=λe=>Y0N (a::r) e.1*Y2*Y2Y (if Ya=Y15 e.1 then 1 else 0)) λe d=>by
  rw[Y4c 0 (λf i=>Y3H (xT (F:=F) (c:=e.1) (by rw[Yad d];exact i) q.symm)),gZ,Rat.mul_zero],oN]at h
 have p:=uM R.nd (b:=Ya) (aM.mpr (Y29 aS j)) (aW F (a::r));rw[cT (g:=λx=>Y0N (a::r) x.1*if Ya=x.1 then 1 else 0) λx _=>by grind]at p;rw[<-p,h];grind
def JM(R:Y1h){e0:cW}{r:Yh}(he:es=e0::r)(z:∀e∈r,Y2=0)(Φ:Y01):Y8Z es (Y4 x.1*Φ x.1)=Φ (Ya)+s0 e0*Y2Y (Φ (Y4S f)):=by
 have c:e0.1=Ya:=by
  obtain⟨j,i,a,h⟩:=R.root;rw[he]at a;rw[(List.cons.inj a).1];exact h
 rw[R.all Φ];congr 1
 conv=>lhs;rw[he]
 rw[cZ,cT (l:=r) (g:=Y2V) λe d=>by rw[z e d];grind,oN,<-he,c,PQ R];grind
def nV.heads(A:nV F W M es)(Q:VF F W q):∃e0 r,es=e0::r/\e0.1=Ya/\0<=s0 e0/\∀w,w<W->Y5Q F w w<=Y5f e0.2+s0 e0/\∀{cs:Yw},(∀k,0<=cs k)->s0 e0*cs 0<=gA F es (q w) cs:=by
 obtain⟨e0,r,n,h0⟩:=A.rl.root;have u:Y6y e0:=by rw[n];exact aS
 have j:∀e∈r,Y6y e:=λe h=>by rw[n];exact aY _ h
 have p:=PQ A.rl;refine⟨e0,r,n,h0,A.rl.nn e0 u,λw m=>?_⟩;have d:=Q.h0 w m;have nn:∀e∈es,0<=Y4 e.1*q w e.1:=λe _=>cA (A.rl.nnf e.1) (Q.nn w m e.1);have st:=Yge d w m;have a:∀g:cW->Rat,cV es g=g e0+cV r g:=λg=>by
  conv=>lhs;rw[n]
  rw[cZ]
 rw[a,h0,p,d]at st;refine⟨?_,λ{cs} y=>?_⟩
 ·unfold fZ;rw[a,h0,p,d];have h:=qL (l:=r) (f:=λe=>Y4 e.1*q w e.1*Y5f e.2) (g:=λe=>Y4 e.1*q w e.1*(1-Y2)) λe c=>by
   refine Rat.mul_le_mul_of_nonneg_left ?_ (nn e (j e c));obtain⟨s,z⟩:=A.hs e (j e c);rw[<-z];have B:=tP (λv=>Y0l e.2) m;have C:0<=Y4k W (if i=w then 0 else cB e.2 (1+i)):=rW λi _=>by
    split
    ·exact Rat.le_refl
    ·exact s _
   grind
  grind
 ·unfold gA;rw[a,h0,p,d,show(List.replicate F 0).sum=0 by simp];have h:=rX (l:=r) (f:=λe=>cs e.1.sum*(Y4 e.1*q w e.1*Y2)) λe c=>cA (y _) (cA (nn e (j e c)) (A.rl.nn e (j e c)));grind
end
section
variable{F W M:Nat}{ss:Aj}{bs mix cs:Ak}{o:Y4L}
def aBQ{ts:Ak}(h0:cB ts 0=0)(hn:∀v,0<=cB ts v)(h1:Y0h (Y0l ts)=1):nV F W M [(Ya,ts)]:=by
 have z:s0 (Ya,ts)=0:=h0;refine⟨⟨Yb1 _ [],Y6a,by simp,by simp,λe a h=>?_,λd hd h=>?_,Y6a⟩,Y6a,λe a h=>?_,Y6a⟩
 ·rw[Y72];simp
 ·rw[Y72]at h;exact Y7S z
 ·exact Y7S (by simpa using hd)
 ·rw[Y72,z];exact Rat.le_refl
 ·rw[Y72];simp
 ·rw[Y72]at h;exact Y7S z
 ·rw[Y72,z];exact⟨hn,by rw[h1];grind⟩
def GI(n:Nat)(g:Yw){k:Nat}(hk:k<n):cB ((List.range n).map λk=>eQ (g k)) k=g k:=by
 rw[pY (f:=eQ (g k)) (by rw[aF,bL hk];rfl),dB]
def aAZ{n:Nat}{g:Yw}(h:∀k,k<n->0<=g k)(k:Nat):0<=cB ((List.range n).map λk=>eQ (g k)) k:=by
 by_cases hk:k<n
 ·rw[GI n g hk];exact h k hk
 ·rw[nF (by rw[aA,aT];exact Oo)];exact Rat.le_refl
def PD(n:Nat):bZ n (λ_=>1)=(n:Rat):=by
 induction n with
 | zero=>rfl
 | succ n ih=>rw[dW,ih,Rat.natCast_add];rfl
def DD{es:Yh}(A:nV F W M es)(Q:VF F W (gD ss)){say:Ae->Ak}(hs:∀e∈es,e.2=say e.1)(z:∀e∈es,e.1≠Ya->Y2=0){w:Nat}(hw:w<W)(v:Nat):Y3z es w v=Y0l YcM+cB (YcM) 0*Y2Y (Y4R w (Y4S f)*Y0l (say (Y4S f)))/\(1<=F->(∀f,f<F->cB (say (Y4S f)) 0=0\/cB (YcM) 0=0)->∀cs:Nat->Rat,gA F es (gD ss w) cs=cs 0*cB (YcM) 0):=by
 obtain⟨i,r,d,h0⟩:=A.rl.root;have p:Y6y i:=by rw[d];exact aS
 have nd:=A.rl.nd;have m:∀e∈r,Y2=0:=λe l=>z e (by rw[d];exact aY _ l) λq=>by
  rw[d,bE,List.nodup_cons]at nd;exact nd.1 (aM.mpr ⟨e,l,q.trans h0.symm⟩)
 have a:s0 i=cB (YcM) 0:=by unfold s0;rw[hs i p,h0]
 have j:=Q.h0 w hw;refine⟨?_,λu s cs=>?_⟩
 ·have t:=JM A.rl d m λc=>Y1V w*Y0l (say c);rw[a,j,Rat.one_mul]at t;exact(cT λe h=>by rw[hs e h];exact Rat.mul_assoc _ _ _).trans t
 ·have t:=JM A.rl d m λc=>Y1V w*(cs c.sum*cB (say c) 0);rw[a,j,Rat.one_mul,show(List.replicate F 0).sum=0 by simp,<-eE,Y4c 0 (λf n=>?_),gZ]at t
  ·refine Eq.trans (cT λe h=>?_) (t.trans (by grind));unfold s0;rw[hs e h];grind
  ·rcases s f n with h | h <;> rw[h] <;> grind
def QM(f1:1<=F)(w1:1<=W)(Q:VF F W (gD ss))(hm:∀w,0<=Y5V)(hc:∀k,0<=Y5U)(m1:bZ W Y8x=1)(b1:∀w,Y3a w<=1)(h:(W:Rat)<=Y6t W bs+1)(L:LcQ F W M ss bs mix cs o):o=some 0:=by
 have u:Y0a (1-Y3a w)=(W:Rat)-Y6t W bs:=by
  have:=jW W (λw=>1-Y3a w) (cB bs);rw[Y4c 1 (λi _=>by grind),PD]at this;grind
 have hd:∀w,0<=1-Y3a w:=λw=>by have:=b1 w;grind
 have m:∃g:Nat->Rat,g 0=0/\(∀w,1-Y3a w<=g (1+w))/\Y0a (g (1+w))=1:=by
  refine Y1Z (λk=>if k=0 then 0 else(1-Y3a (k-1))+if k=1 then 1-((W:Rat)-Y6t W bs) else 0) (λw=>?_) ?_
  ·dsimp only;rw[Y2l,show 1+w-1=w by exact Oo];split <;> grind
  ·rw[bQ (g:=λw=>(1-Y3a w)+if w=0 then 1-((W:Rat)-Y6t W bs) else 0) λw _=>by
    dsimp only;rw[Y2l,show 1+w-1=w by exact Oo];by_cases e:w=0
    ·rw[Y1w,Y5x]
    ·rw[Y0L,Y2l],jW,u,qJ (v:=0) Oo λi _ y=>if_neg y,Yo]
   grind
 obtain⟨g,p,r,B⟩:=m;have s:∀k,k<1+W->0<=g k:=λk _=>by
  cases k with
  | zero=>rw[p];exact Rat.le_refl
  | succ k=>have d:=r k;have j:=hd k;rw[Nat.add_comm]at d;exact Rat.le_trans j d
 let ts:=(List.range (1+W)).map λk=>eQ (g k)
 have l:cB ts 0=0:=by rw[GI _ _ Oo];exact p
 have A:nV F W M [(Ya,ts)]:=aBQ l (aAZ s) (by rw[<-B];exact bQ λv G=>GI _ _ Oo);have T:∀w,w<W->∀v,_:=λw a v=>DD A Q (say:=λ_=>ts) (λe n=>by rw[bD.mp n]) (λe n h=>Y7S (by rw[bD.mp n])) a v;have K:rO F W ss bs [(Ya,ts)]:=λw a=>by
  rw[(T w a w).1,l,Rat.zero_mul,GI _ _ Oo];have:=r w;grind
 have z:Y4w F W [(Ya,ts)]=0:=by
  unfold fS;rw[Y4c 0 (λw a=>?_),gZ];rw[(T w a w).2 f1 (λf C=>.inr l),l,Rat.mul_zero,Rat.mul_zero]
 cases o with
 | none=>exact absurd K (L _ A)
 | some v =>
  obtain⟨D,A',_,c,le,_⟩:=L;have d:=le _ A K;rw[z]at d;have j:=(A'.cost Q hc hm m1).1;rw[c]at j;rw[Rat.le_antisymm d j]
def YX(w1:1<=W)(Q:VF F W (gD ss))(al:∀w,w<W->gD ss w=gD ss 0)(h:Y6t W bs+1<(W:Rat))(L:LcQ F W M ss bs mix cs o):o=none:=by
 have j:∀a,nV F W M a->¬rO F W ss bs a:=λa A K=>by
  have st:=Yge (Q.h0 0 w1) 0 w1;have h1:Y0a (Y3z a w w)=1:=by
   rw[<-st,YcJ (Y7z a (Y5e e.1*Y4R 0 e.1*Y5f e.2)) (λw c=>by unfold fZ;rw[al w c]),<-oO];exact cT λe d=>by rw[eE,(A.hs e d).2]
  have m:=lJ (n:=W) (f:=λw=>1-Y3z a w w) (g:=cB bs) λw c=>K w c;have l:=jW W (λw=>1-Y3z a w w) (λw=>Y3z a w w);rw[Y4c 1 (λi _=>by grind),PD,h1]at l;grind
 cases o with
 | none=>rfl
 | some v =>
  obtain⟨a,A,K,_⟩:=L;exact absurd K (j a A)
end
section
variable{F M:Nat}{ss:Aj}{bs mix cs:Ak}{o:Y4L}{a b:Nat}
def GO(f:Yw):bZ 2 f=f 0+f 1:=by rw[dW,dW,gQ];grind
def EK{es:Yh}(A:nV F 2 M es)(Q:VF F 2 (gD ss))(hm:∀w,0<=Y5V)(hc:∀k,0<=Y5U)(m1:bZ 2 Y8x=1)(K:rO F 2 ss bs es):∃e0∈es,e0.1=Ya/\1-(Y1D+Y1C)<=s0 e0/\s0 e0*Y3N 0<=Y4w F 2 es:=by
 obtain⟨e0,r,d,g,s,a⟩:=A.heads Q;have c:Y6y e0:=by rw[d];exact aS
 have l:=(a 0 Dd).1;have m:=(a 1 Dd).1;have n:=K 0 Dd;have p:=K 1 Dd;have h:=(A.hs e0 c).2;rw[GO]at h;refine⟨e0,c,g,by grind,?_⟩;have j:=Rat.mul_le_mul_of_nonneg_left ((a 0 Dd).2 hc) (hm 0);have i:=Rat.mul_le_mul_of_nonneg_left ((a 1 Dd).2 hc) (hm 1);unfold fS;rw[GO];rw[GO]at m1;have e:s0 e0*Y3N 0=Y8K 0*(s0 e0*Y3N 0)+Y8K 1*(s0 e0*Y3N 0):=by
  rw[show cB mix 1=1-cB mix 0 by grind];grind
 rw[e];grind
def LK{f g:Nat}(hf:f<F)(hg:g<F)(h:Y4S f=Y4S g):f=g:=by
 have:=congrArg (λl:Ae=>l.getD f 0) h;simp only[bT]at this;grind
def mP(F:Nat)(s t u:Rat)(a:Nat)(c:Ae):Ak:=if c=Ya then[eQ s,eQ t,eQ u] else if c=Y4S a then[(0,1),(1,1),(0,1)] else[(0,1),(0,1),(1,1)]
def QK(F:Nat):Ab:=Ya::(List.range F).map (bT (Ya))
def CK(F:Nat)(s t u:Rat)(a:Nat):Yh:=(QK F).map λc=>(c,mP F s t u a c)
def nA{c:Ae}(h:c∈QK F):c=Ya\/∃f,f<F/\c=Y4S f/\c≠Ya/\c.sum=1:=by
 rcases bK.mp h with h | h
 ·exact .inl h
 ·obtain⟨f,a,rfl⟩:=Y83;have a:=Y71;exact .inr (Y11 f a (xT (by rw[bH];exact a)) (by rw[fX (by rw[bH];exact a)];simp))
def nR{s t u:Rat}{c:Ae}(h:c≠Ya)(v:Nat):cB (mP F s t u a c) v=if v=(if c=Y4S a then 1 else 2) then 1 else 0:=by
 unfold mP;rw[Y3L];have e:=lY;have d:=sD;split <;> rcases v with _ | _ | _ | v <;> first | exact e | exact d | skip
 all_goals rw[nF (by simp),Y2l]
def xN(s t u:Rat):mP F s t u a (Ya)=[eQ s,eQ t,eQ u]:=by unfold mP;rw[Yo]
def YQ{s t u:Rat}(m1:1<=M)(hs:0<s)(ht:0<=t)(hu:0<=u)(h1:s+t+u=1):nV F 2 M (CK F s t u a):=by
 have mem:∀e∈CK F s t u a,∃c,c∈QK F/\e=(c,mP F s t u a c):=λe j=>by
  obtain⟨c,i,rfl⟩:=aM.mp j;exact Y1t c i
 have A:(CK F s t u a).map (·.1)=QK F:=by unfold CK;rw[List.map_map];exact List.map_id _
 have z:s0 (Ya,mP F s t u a (Ya))=s:=by
  show cB _ 0=s;rw[xN];exact dB s
 have p:∀{c:Ae},c≠Ya->s0 (c,mP F s t u a c)=0:=λ{c} h=>by
  show cB _ 0=0;rw[nR h,if_neg];split <;> decide
 refine⟨⟨Yb1 _ _,YeP,?_,?_,λe j h f n=>?_,λd hd h=>?_,YeP⟩,YeP,λe j h=>?_,YeP⟩
 ·obtain⟨c,i,rfl⟩:=mem e j;rcases nA i with rfl | ⟨f,n,rfl,_⟩
  ·exact bH
  ·show(Y15 _).length=F;rw[pI,bH]
 ·rw[A];refine List.nodup_cons.mpr (Y0p (λh=>?_))
  ·obtain⟨f,n,e⟩:=Y83;exact xT (by rw[bH];exact bR.mp n) e
  ·refine List.pairwise_map.mpr (List.Pairwise.imp_of_mem (λ{x y} r w h e=>h (LK (bR.mp r) (bR.mp w) e)) List.nodup_range)
 ·unfold CK;rw[List.pairwise_map];refine List.pairwise_cons.mpr (Y0p (λc i=>by show(Ya).sum<=_;simp));refine List.pairwise_map.mpr (List.Pairwise.imp_of_mem (λ{x y} r w _=>?_) List.nodup_range);show(bT _ x).sum<=(bT _ y).sum;rw[fX (by rw[bH];exact bR.mp r),fX (by rw[bH];exact bR.mp w)];exact Yq
 ·obtain⟨c,i,rfl⟩:=mem e j;rw[A];rcases nA i with rfl | ⟨g,m,rfl,l,_⟩
  ·exact aY _ (Y3b f (bR.mpr n))
  ·exact Y7S (p l)
 ·rw[A]at hd;rcases nA hd with rfl | ⟨g,m,rfl,l,_⟩
  ·exact Y7L h
  ·exact⟨_,aS,by rw[z];grind,g,m,rfl⟩
 ·obtain⟨c,i,rfl⟩:=mem e j;rcases nA i with rfl | ⟨g,m,rfl,l,_⟩
  ·rw[z];exact Rat.le_of_lt hs
  ·rw[p l];exact Rat.le_refl
 ·obtain⟨c,i,rfl⟩:=mem e j;rcases nA i with rfl | ⟨g,m,rfl,l,C⟩
  ·simp
  ·show(bT _ g).sum<=M;exact Oo
 ·obtain⟨c,i,rfl⟩:=mem e j;rcases nA i with rfl | ⟨g,m,rfl,l,C⟩
  ·show(Ya).sum<M;simp;exact Oo
  ·exact Y7S (p l)
 ·obtain⟨c,i,rfl⟩:=mem e j;rw[GO];rcases nA i with rfl | ⟨g,m,rfl,l,C⟩
  ·rw[z];show(∀v,0<=cB (mP F s t u a _) v)/\cB (mP F s t u a _) 1+cB (mP F s t u a _) 2=_;rw[xN];have D:cB [eQ s,eQ t,eQ u] 1=t:=dB t;have B:cB [eQ s,eQ t,eQ u] 2=u:=dB u;have G:cB [eQ s,eQ t,eQ u] 0=s:=dB s;refine⟨λv=>?_,by rw[D,B];grind⟩;rcases v with _ | _ | _ | v
   ·rw[G];exact Rat.le_of_lt hs
   ·rw[D];exact ht
   ·rw[B];exact hu
   ·rw[nF (by simp)];exact Rat.le_refl
  ·rw[p l];show(∀v,0<=cB (mP F s t u a _) v)/\cB (mP F s t u a _) 1+cB (mP F s t u a _) 2=_;refine Y0p (λv=>?_)
   ·rw[nR l];split <;> split <;> grind
   ·rw[nR l,nR l];split <;> grind
def aB0(m1':1<=M)(Q:VF F 2 (gD ss))(hm:∀w,0<=Y5V)(hc:∀k,0<=Y5U)(m1:bZ 2 Y8x=1)(b0:∀w,0<=Y3a w)(ha:a<F)(hb:b<F)(ab:a≠b)(q0:∀f,f<F->Y4R 0 (Y4S f)=if f=a then 1 else 0)(q1:∀f,f<F->Y4R 1 (Y4S f)=if f=b then 1 else 0)(h:0<1-(Y1D+Y1C))(L:LcQ F 2 M ss bs mix cs o):o=some (Y3N 0*(1-(Y1D+Y1C))):=by
 have A:nV F 2 M (CK F (1-(Y1D+Y1C)) (Y1C) (Y1D) a):=YQ m1' h (b0 1) (b0 0) (by grind);generalize hes:CK F (1-(cB bs 0+cB bs 1)) (cB bs 1) (cB bs 0) a=j at A;have d:∀e∈j,e.2=mP F (1-(Y1D+Y1C)) (Y1C) (Y1D) a e.1:=λe l=>by
  rw[<-hes]at l;obtain⟨c,hc,rfl⟩:=aM.mp l
  rfl
 have T:∀w,w<2->∀v,_:=λw i v=>DD A Q d (λe l h=>by
  unfold s0;rw[d e l,nR h,if_neg];split <;> decide) i v
 have n:cB (mP F (1-(Y1D+Y1C)) (Y1C) (Y1D) a (Ya)) 0=1-(Y1D+Y1C):=by rw[xN];exact dB _
 have B:cB (mP F (1-(Y1D+Y1C)) (Y1C) (Y1D) a (Ya)) 1=Y1C:=by rw[xN];exact dB _
 have s:cB (mP F (1-(Y1D+Y1C)) (Y1C) (Y1D) a (Ya)) 2=Y1D:=by rw[xN];exact dB _
 have nz:∀f,f<F->Y4S f≠Ya:=λf g=>xT (by rw[bH];exact g);have K:rO F 2 ss bs j:=λw i=>by
  rcases(show w=0\/w=1 by exact Oo)with rfl | rfl
  ·rw[(T 0 i 0).1,n];show 1-(cB _ 1+_)<=_;rw[B,qJ (v:=a) ha λf g m=>by rw[q0 f g,if_neg m,Rat.zero_mul],q0 a ha,Yo];show 1-(_+_*(1*cB _ 1))<=_;rw[nR (nz a ha),Yo,Yo];grind
  ·rw[(T 1 i 1).1,n];show 1-(cB _ 2+_)<=_;rw[s,qJ (v:=b) hb λf g m=>by rw[q1 f g,if_neg m,Rat.zero_mul],q1 b hb,Yo];show 1-(_+_*(1*cB _ 2))<=_;rw[nR (nz b hb),if_pos (by rw[if_neg λe=>ab (LK ha hb e.symm)])];grind
 have z:Y4w F 2 j=Y3N 0*(1-(Y1D+Y1C)):=by
  unfold fS;have one:∀w,w<2->Y4n F j (gD ss w) cs=Y3N 0*(1-(Y1D+Y1C)):=λw i=>by
   rw[(T w i 0).2 Oo (λf g=>.inl (by rw[nR (nz f g),if_neg];split <;> decide)),n]
  rw[GO,one 0 Dd,one 1 Dd];rw[GO]at m1;rw[show cB mix 1=1-cB mix 0 by grind];grind
 cases o with
 | none=>exact absurd K (L _ A)
 | some v =>
  obtain⟨y,A',K',c,le,_⟩:=L;have p:=le _ A K;rw[z]at p;obtain⟨D,_,_,u,r⟩:=EK A' Q hm hc m1 K';rw[c]at r;have C:=Rat.mul_le_mul_of_nonneg_right u (hc 0);rw[Rat.le_antisymm p (by rw[Rat.mul_comm];exact Rat.le_trans C r)]
def TX(Q:VF F 2 (gD ss))(hm:∀w,0<=Y5V)(hc:∀k,0<=Y5U)(m1:bZ 2 Y8x=1)(h:0<1-(Y1D+Y1C))(L:LcQ F 2 0 ss bs mix cs o):o=none:=by
 cases o with
 | none=>rfl
 | some v =>
  obtain⟨e,A,K,_⟩:=L;obtain⟨c,a,_,d,_⟩:=EK A Q hm hc m1 K;have:=A.on c a (by grind);exact Oo
end
abbrev aEs:Stmt:=(top 90)
def aCv:Ye ["_law_some_here","_law_found","_law_one"] ["_law_some_here"] aEs:={}
abbrev aEx:Stmt:=(top 96)
def aJt:Ye a04 a04 aEx:={}
abbrev aEu:Stmt:=(top 95)
def OB:Ye ["_law_feed_here","_law_faces","_law_at","_law_other","_law_told","_law_ways","_law_name","_law_place"] a29 aEu:={}
inductive qR (K:Aa):Ym
 | i {H:Hp} {Q:VK} {E:XK} {a:Addr} {xs:Al} {fs:Ak} (h:H a=Y12) (r:vG K H fs xs) (ok:SE fs) (q:∀v H',Y1->Y3l (mM fs) v->Y1H):qR K Y27 H Q E
section
def aIM(F:Yc "_law_total" "_law_total" aEs)(T:Yf)
  (FQ11:Y2w "_law_plus" a01 (wT K)):dP P w K mg base cY 3 f fd ["_law_some_here"] (qR K):=by
 refine YfM aCv ?_;obtain @⟨H,Q,E,a,y,fs,z,r,ok,q⟩:=h;refine Yg;intro M A m s S _;have e:=r.len;refine⟨_,(aH (Y6e aCv.nd (Y8n aI))
  (aH (Y6Y (vT (Y02)) 2 aCv.nd (Y6e aCv.nd (Y3F FQ11 1 2)))
  (Y2p 1))),?_⟩
 refine Yu;intro J X;refine pJ (by show 2<=64;decide) λW H0 C O s0=>Y50 _ a (Ya0 (s0 _ _ z)) (QZ (xs:=y) (YaD (λw j=>Ybr (σ=[Y2r,some w,j]) (Y3l (mM (Y9V)) w))) (Y3y _ s0 (eV O)) (λi σ H' _ p=>?_) ?_ ?_)
 ·obtain⟨w,j,rfl,d,_⟩:=p;exact jQ.of (d _ _ z)
 ·rintro i x σ H1 D ⟨w,j,rfl,d,l⟩;refine Y5y;intro J;obtain⟨g,n,R⟩:=r.at_ i x D;have u:=aE n;obtain⟨I,L⟩:=ok.part i;refine Y08 (wT.i (jE.of l) (jE.same d R) I (ok.low _ u) L (ok.sz _ u) ?_);intro U H2 N B G;refine Y3y _ (d.trans G) ?_;rw[gP n,qH];exact eV B
 ·rintro σ H1 ⟨w,j,rfl,d,l⟩;refine Y6;rw[e,dL]at l;exact q _ H1 d l
end
def kD{fs:Ak}(h:∀f∈fs,VD f):∀f∈fs,Fn (dens fs) 1000 f:=λf a=>(aCa h f a).le Dd
def DL{l:Ak}(h:∀f∈l,VD f)(hl:l.length<=3):dens l<=997002999:=aL (RJ h) (Y2Z (aK Dd hl))
def aDm{M a b c n m:Nat}(h:n<=m):oJ M a b c n<=oJ M a b c m:=Y1s (Y1s (dF _ h))
def aE7:∀Ns∈[2520,997],∀Nb∈[27720,997],∀W,W<=4->∀M,M<=(if W<=2 then 3 else 2)->DB W (Ns^M*Nb)^(W+1)*Ns^M<2^1800/\Ns^M*Nb<=2^100/\YaX M LV 1*5000<2^140/\2097152*(1000+ZB W (Ns^M*Nb) 140*(Ns^M*Nb))<=2^680/\PB W (Ns^M*Nb)*YaX M LV 1*YaX M LV 1<Y0y/\YaX M LV 1*Nb<Y0y/\YaX M LV 1<Y0y:=Kk
def aAV:∀d,d<=997->d ∣ 2512440->d ∣ 2520\/d ∣ 997:=Kk
def MC.small{m:Nat}{fs:Ak}(h:MC m fs):∃N∈[2520,997],∀f∈fs,MD N 1 f:=by
 obtain⟨c,W,n,l,r,g,p,i,rfl⟩:=h.ex;have a:∀N,W.natAbs ∣ N->∀f∈c.map (λx=>lw x W),MD N 1 f:=λN d f e=>by
  obtain⟨x,j,rfl⟩:=aM.mp e;have:=l x j;exact⟨(Fn.of g Oo).dvd d,QG this.1⟩
 rcases aAV W.natAbs Oo i with d | d
 ·exact⟨2520,Dd,a _ d⟩
 ·exact⟨997,Dd,a _ d⟩
def aGS:∀F,F<=4->∀M,M<=3->(2<F->M<=2)->(Y0i).length<=20:=Kk
structure DY(F W M Ns Nb:Nat)(fs:Ah)(ws:Y0A)(bs mix cs:Ak):Prop where
 T:TrC F W fs ws
 f:2<=F/\F<=4
 w:2<=W/\W<=4
 m:M<=3
 mf:2<F->M<=2
 mw:2<W->M<=2
 ns:Ns∈[2520,997]
 nb:Nb∈[27720,997]
 sh:∀x∈ws,∀f∈x.2,Y8h
 bl:Y9Y W
 b:∀f∈bs,MD Nb 1 f
 mx:MC W mix
 cl:Ybj M
 c:∀f∈cs,VD f
section
variable{F W M Ns Nb:Nat}{fs:Ah}{ws:Y0A}{bs mix cs:Ak}
def DY.mn(L:DY F W M Ns Nb fs ws bs mix cs)(w:Nat):0<=Y5V:=MF (N:=LV) (B:=1) (λf a=>⟨(L.mx.at f a).1,(L.mx.at f a).2⟩) w
def DY.cn(L:DY F W M Ns Nb fs ws bs mix cs)(k:Nat):0<=Y5U:=MF (N:=dens cs) (B:=1000) (λf a=>⟨kD L.c f a,(L.c f a).2.1⟩) k
def DY.m1(L:DY F W M Ns Nb fs ws bs mix cs):bZ W Y8x=1:=by
 have:=pL mix;rw[L.mx.one,L.mx.len]at this;exact this.symm
def DY.fw(L:DY F W M Ns Nb fs ws bs mix cs):AF F W M fs ws bs mix cs Ns LV (dens cs) Nb 1000 100 140:=by
 obtain⟨l,C,D,r,u,B,z⟩:=aE7 Ns L.ns Nb L.nb W L.w.2 M (by have:=L.mw;have:=L.m;split <;> exact Oo);have i:=L.f;have G:=L.w;have h:=L.m;have e:=aGS F i.2 M h L.mf;have s0:0<Ns:=(show ∀n∈[2520,997],0<n by decide) Ns L.ns;have p:0<Nb:=(show ∀n∈[27720,997],0<n by decide) Nb L.nb;have y:=xR L.c;have j:dens cs<=997002999:=DL L.c (by rw[L.cl];exact h);have d:oJ M Ns LV 1 (dens cs)<=YaX M LV 1:=aDm j;have pos:0<oJ M Ns LV 1 (dens cs):=Yg5 (eM Oo Dd) s0;refine⟨⟨⟨Oo,Oo,Oo,Oo,Oo,by rw[aA];exact L.T.w,L.mx.len,bH,L.cl,λs A=>?_,λf a=>(L.mx.at f a).1,λf a=>?_,λf a=>kD L.c f a,pos,aJ d z,aL Dd aG9⟩,L.T.b,L.bl,λf a=>(L.b f a).1,p,aJ (Y1s d) B⟩,L.T.f,L.T.qin,λf a=>(L.b f a).2,L.mn,L.m1,L.cn,⟨Oo,Oo,Oo,L.T.w,L.sh,L.T.b,L.mx.len,λf a=>(L.mx.at f a).1,Dd,Kk,y,Oo,λf a=>kD L.c f a,L.cl⟩,⟨e,s0,l⟩,C,aJ (Y1s d) D,Dd,by unfold WB;exact r,aJ (Nat.mul_le_mul (dF _ d) d) u⟩
 ·obtain⟨x,g,rfl⟩:=aM.mp A;exact⟨(L.T.sh x g).len,λf a=>L.sh x g f a⟩
 ·rw[List.eq_of_mem_replicate a];exact(Fn.zero 1).le (Y0H)
end
def aBM:Y88 Y4L
 | none=>.none
 | some q=>iR (eQ q)
def DX.rep{H:Hp}{o:Y4L}{v:V}(h:DX H o v):Y1A (aBM o) v:=by
 cases o with
 | none=>rw[show v=V.non from h];exact dC.non
 | some q=>exact h
def DX.none_iff{H:Hp}{o:Y4L}{v:V}(h:DX H o v):Y0R v V.non=o.isNone:=by
 cases o with
 | none=>rw[show v=V.non from h];rfl
 | some q =>
  obtain⟨a,c,rfl,_⟩:=nZ h
  rfl
structure aFM(d:PyData):Prop where
 sh:YcO true
 nd:Yci
 dp:d.depth<=60
 ln:YdD
def YE{o:Y4L}(h:∀q,o=some q->sV 1062 (Y1K)):aFM (aBM o):=by
 cases o with
 | none=>exact Y1Z rfl Dd Kk
 | some q =>
  have z:=h q rfl;have c:PyData.showable (iR (Y1K))=true:=by
   show(PyData.showable (.int (Y1K).1)&&(PyData.showable (.int (Y1K).2)&&true))=true;rw[PL z.1,PL z.2];rfl
  have a:Yx (PyData.hasDict (iR (Y1K))):=rfl;exact⟨c,a,by simp[aBM,PyData.depth,PyData.depthAll],aL (JJ _ c a) (by rw[show shW (aBM (some q))=3850 from rfl];decide)⟩
inductive qS (K:Aa):Ym
 | i {H:Hp} {Q:VK} {E:XK} {tv av dv:V} {F W M:Nat} {fs:Ah} {ws:Y0A} {bs mix cs:Ak} {Ns Nm Nc Nb BB e X:Nat} {o:Y4L} (h1:Y3m tv) (h2:Y4B K H M av) (h0:DX H o dv) (h3:AF F W M fs ws bs mix cs Ns Nm Nc Nb BB e X) (h4:∀f∈cs,Fn Nc BB f) (h5:∀q,o=some q->sV 1062 (Y1K)) (h6:∀o',LcQ F W M (Y0v) bs mix cs o'->o'=o) (k:∀H',Y1->Q (.bl true) H'):qS K [tv,av,dv] H Q E
section
def aIR(F:Yc "_law_right" "_law_right" aEx)(T:Yf)(FQ40:Y0W 10 "least_cost" a25 (wU K))(FQ33:Y0W 9 "fewest" a25 (oR K)):dP P w K mg base cY 11 f fd a04 (qS K):=by
 refine F.oky aJt λκ H Q E h=>?_;obtain @⟨H,Q,E,θ,φ,ο,F,W,M,fs,η,bs,δ,τ,ι,ρ,ψ,μ,BB,e,X,o,rt,J,ζ,I,L,R,p,k⟩:=h;refine Yg;intro Z A u s m _;have sh:=YE R;refine⟨_,(aH (Y80 (eB aCY (iV (RV m.gd m.units) (by rfl) T.b_repr Kk (Y1L (Y3w FQ40 1))) (iV (RV m.gd m.units) (by rfl) T.b_repr Kk (Y4b 2))) VZ)
  (Y0V (tO nP (Y4u (Y3w FQ33 1) aI) (Y4u (hZ (Y2j gW gW)) (jU FQ (by rfl) T.b_int Kk (Y1L (tO CF (Y07) lG))))))),?_⟩
 refine Yu;intro ν χ;refine Y06;refine wU.i rt J I L λU υ H1 l β ε _=>?_;obtain rfl:=p U β;refine rrI ε.rep sh.sh sh.nd sh.dp sh.ln Y6;have d:=ζ.t l.t;refine rrI d.rep sh.sh sh.nd sh.dp sh.ln (Y87 (tF (by rw[cN rfl];rfl) ?_));refine Y08 (oR.i (rt.same l) (J.same l) I L (λa y z H2 g n α=>?_) (λa r y z S N C H2 g n ξ RU O le=>?_))
 ·have G:=p none α;refine Y5Z n (zZ (by show 2<=64;decide) λγ H3 D B j=>?_);refine Y3E _ rfl (.inr Y6);rw[(d.t (g.trans j).t).none_iff,<-G];exact vN B rfl (Y0I (k H3 ((l.trans g).trans j)))
 ·have G:=p (Y7g) (Y5C S RU.any O le RU.sy);refine Y5Z n (zZ (by show 2<=64;decide) λγ H3 D B j=>?_);refine Y3E _ rfl (.inr Y6);rw[(d.t (g.trans j).t).none_iff,<-G];exact vN B rfl (Y0I (k H3 ((l.trans g).trans j)))
end
def nM(F a:Nat):Ak:=(List.range F).map λf=>(if f=a then 1 else 0,1)
def aGc:∀F,F<=4->∀a,a<F->((List.range F).map λf=>if f=a then(1:Int) else 0).sum=1:=Dd
def wK{F a:Nat}(f4:F<=4)(ha:a<F):MC F (nM F a):=by
 refine⟨(List.range F).map λf=>if f=a then(1:Int) else 0,1,by rw[aA,aT],λx c=>?_,aGc F f4 a ha,Dd,Dd,⟨LV,by simp⟩,?_⟩
 ·obtain⟨f,_,rfl⟩:=aM.mp c;split <;> decide
 ·unfold nM;rw[List.map_map];refine fD λf _=>?_;show _=lw (if f=a then 1 else 0) 1;split <;> rfl
inductive AK:Ym
 | i {H:Hp} {Q:VK} {E:XK} {p L:Addr} {n F:Nat} (T:gO H p L (n+2)) (h1:2<=F) (h2:F<=4) (k:∀v fs ws a b H',gO H' p L n->Y14->Y2Q (GL fs ws) v->TrC F 2 fs ws->a<F->b<F->a≠b->ws.map (·.2)=[nM F a,nM F b]->Y1H):AK [Y2o,.int (F:Int)] H Q E
def aAo{z:Int}(h:z.natAbs<=4):bits z<=64:=bitsle (aJ h Dd)
section
def aIO(F:Yc "_law_sure" "_law_sure" aEu)(T:Yf)(FQ7:Y00 "_law_draw" a02 fC):dP P w K mg base cY 2 f fd a29 AK:=by
 refine Y13 OB;obtain @⟨H,Q,E,p,L,n,F,T0,f2,f4,k⟩:=h;refine Yg;intro cdv A ψ s hr _;refine⟨_,(aH (Y10 OB.nd (Y3w FQ7 1))
  (aH (Y0J OB.nd (cC qB (Y4Y (Y2L fQ 2) (Y4a FQ7 0 (Y2L lH 1))) (Y0m)))
  (aH (Y2A OB.nd (Y5E dH (by rfl) Kk ["_law_face"] [] (Y7O 1) (bO (iA K) (hZ (bB gW (bB gW (Y2j gW gW)))) (Y02))))
  (aH (Y7M OB.nd (hZ aQ))
  (aH (Y6O (eC (hZ (Y2j (Y38 gW Y07) (Y38 gW Y0B)))) (nY rfl (eT (Yan 6 OB.nd) (eT (Ycb 7 OB.nd rfl rfl) lB))) (lA (sX PySem.F.plainAttrs_list PySem.F.slot_list_append PySem.F.type_list_append uB (aD 5) (Y1L (Y38 (aD 6) (Y5E dH (by rfl) Kk ["_law_face","_law_place"] [7] (Y7O 1) (Y8n (jU FQ (by rfl) T.b_int Kk (Y1L (tO nP (Y02) (Y0m)))))))))))
  (Y6g Y1i (Yam dH (by rfl) Kk (Y4b 5)))))))),?_⟩
 refine Yu;intro α ν;refine Y06;refine Y9G (n+1) T0 (aAo Oo) (λu H1 a1 b1 T1 θ=>Ys);intro α ν;refine Y9e _ rfl _ _ rfl (Y7w _ _ _ _ ?_);refine Y9G n T1 (aAo Oo) (λN H2 a2 b2 T2 s2=>⟨_,_,rfl,rfl,_,rfl,_,_,rfl,rfl,Oo,?_⟩);obtain⟨a,ea,ha⟩:∃a:Nat,u=(a:Int)/\a<F:=⟨u.toNat,Oo,Oo⟩;obtain⟨b,C,τ,φ⟩:∃b:Nat,(u+1+N) % (F:Int)=(b:Int)/\b<F/\a≠b:=by
  have h1:=Ydp (u+1+N) (F:Int);have h2:=Int.emod_lt_of_pos (u+1+N) (b:=(F:Int)) Oo;refine⟨((u+1+N) % (F:Int)).toNat,Oo,Oo,Yaj⟩;have e:(u+1+N) % (F:Int)=u:=Oo;by_cases g:u+1+N<F
  ·rw[Int.emod_eq_of_lt Oo g]at e;exact Oo
  ·rw[<-Int.sub_emod_right,Int.emod_eq_of_lt Oo Oo]at e;exact Oo
 show mG 3 (V.int ((u+1+N) % (F:Int))) _ _ _;rw[C];refine Ys;intro α ν;clear C;subst ea;have J:∀i:Nat,i<4->∃t:Str,(reprText t).length<=20/\IF ((["a","ab","b","abc"]:Ah).map V.str) (0+(i:Int))=some (V.str t):=λi hi=>by
  have:i=0\/i=1\/i=2\/i=3:=Oo;rcases this with rfl | rfl | rfl | rfl
  ·exact Y1t "a" Kk
  ·exact Y1t "ab" Kk
  ·exact Y1t "b" Kk
  ·exact Y1t "abc" Kk
 refine Y55 _ _ rfl Oo Oo (Y9I (∃s,y=.str s/\(reprText s).length<=20) Yaz Oo (λi H' Q' hi s' k'=>?_) (λD m H3 hD β s3 hy γ=>?_))
 ·refine zZ (by show 4<=64;decide) λN1 H1 hN e1 θ=>?_;obtain⟨t,X,ht⟩:=J i Oo;refine Y7 (vN e1 ht ?_);exact k' _ H1 θ (Y04 t X)
 obtain⟨R,rfl,χ⟩:=aA5 γ;rw[aA]at hy;refine Y3E D _ (Y8H β ?_);refine Ys;intro α ν;have ζ:=Y2y (R.map V.str) hl;have e4:(upd H3 l (.tup (R.map V.str))) l=Yj (R.map V.str):=bP;generalize upd H3 l (.tup (R.map V.str))=H4 at ζ e4;have T4:=T2.same (s3.trans ζ);have B4:aX p H H4:=(θ.trans s2).trans (s3.trans ζ).but;clear T0 T1 T2 θ s2 s3 ζ β γ;refine zZ (by show 0<=64;decide) λD5 H5 G e5 s5=>Ys;intro α ν;have nD:=T4.ne G;have υ:=T4.neL G;refine Y6;refine pJ (by show 2<=64;decide) λq6 H6 hq6 e6 s6=>Y6;refine pJ (by show 2<=64;decide) λρ H7 hq7 e7 κ=>zZ (by show 2<=64;decide) λq8 H8 ξ e8 η=>?_;have n58:q8≠D5:=λe=>by
  have:=(s6.trans κ) _ _ e5;rw[<-e,ξ]at this;cases this
 have S8:=(s5.trans (s6.trans κ)).trans η;have B8:=B4.trans S8.but;have hDH:H D5=none:=B4.free T4.there G;refine Y1l _ e8 ?_
 let U:Y0A:=[("ab",nM F a),("z",nM F b)]
 refine Yda [V.ref q6,V.ref ρ] (Ye0 (λ(o6 ο:Am) (m:Al)=>An7 (σ=[Y2e,Y9 (F:Int),Y9 (a:Int),Y9 (b:Int),Y3 l,Y3 D5,o6,ο]) (gO H' p L n) (eW H8 H') (Y14) (H' D5=Yi m) (H' q8=Yi [V.ref q6,V.ref ρ]) (Y41 ((U.take i).map wD) m))) ⟨_,_,[],rfl,T4.same S8,λ_ _ h=>h,B8,(s6.trans κ).trans η _ _ e5,e8,bG.nil⟩ Y9r ?_
 ·obtain⟨_,_,_,_,_,_,_,_,h,_⟩:=q;exact Y8W
 ·rintro i x σ H9 r ⟨o6,ο,m,rfl,T9,S,B9,ε,W,μ⟩;have hi:i<2:=(aC.mp r).1;obtain⟨q,nm,d,hd,hq,hU⟩:∃(q:Addr) (nm:Str) (d:Nat),d<F/\(x=.ref q/\H9 q=Yj [.str nm,.int (d:Int)])/\U[i]?=some (nm,nM F d):=by
   rcases(show i=0\/i=1 by exact Oo)with rfl | rfl
   ·cases r;exact⟨q6, "ab",a,ha,Y0I (S _ _ ((κ.trans η) _ _ e6)),rfl⟩
   ·cases r;exact⟨ρ, "z",b,τ,Y0I (S _ _ (η _ _ e7)),rfl⟩
  obtain⟨rfl,hq⟩:=hq;refine Y6H _ _ (jQ.of hq) rfl ⟨_,_,rfl,_,_,rfl,rfl,Y23⟩;intro α;refine⟨_,rfl,VJ ε,_,rfl,_,rfl,_,rfl,Oo,Oo,iY (λj y H'=>Y3l (if j=d then 1 else 0,1) y) (λ_ _ _ _ s h=>h.flat s (Y2h)) Oo (λj H' Q' hj s' k'=>?_) (λD ι Ha hD hDa sa hz hra=>?_)⟩
  ·refine Y50 _ _ rfl (.inr Y6);refine pJ (by show 2<=64;decide) λqx Hx hqx ex sx=>k' _ Hx sx (eV (f:=(if j=d then 1 else 0,1)) ?_);rw[ex];by_cases h:j=d
   ·rw[Y3K,if_pos (cN (by rw[h];simp))]
   ·rw[Y3L,if_neg (by rw[decide_eq_true_eq];intro z;have:=V.int.inj z;exact Oo)]
  obtain⟨Z,lt,rt,et⟩:=QW (P:=λj f=>f=(if j=d then 1 else 0,1)) λj y h=>Y1o (hra j y h);have et':Z=nM F d:=by
   refine List.ext_getElem? λj=>?_;unfold nM;rw[aF];by_cases hj:j<F
   ·have h:=Yg7 Z j;rw[h,et j _ h,bL hj];rfl
   ·rw[bS Oo,bS (by rw[aT];exact Oo)];rfl
  subst et';refine Y3E D _ (Y6I hDa (λI M=>?_));have B:=Y2y ι M;have C:(upd Ha I (.tup ι)) I=Yj ι:=bP;generalize upd Ha I (.tup ι)=Hb at B C;refine pJ (by show 2<=64;decide) λqc Hc ω ec sc=>?_;have O:=(sa.trans B).trans sc;have lys:m.length<=2:=by rw[μ.len,aA,fP];exact Oo
  refine LO (O _ _ ε) Oo λHd ed bd=>?_;have td:=bd.t (O _ _ ε);have δ:eW H9 Hd:=O.t.trans td;refine⟨_,_,m++Y6D qc,rfl,(T9.same O).but bd nD υ,λ_ _ h=>δ _ _ (S _ _ h),aX.thru hDH (B9.trans O.but) bd,ed,bd.at n58 (O _ _ W),?_⟩;rw[gP hU,bI];exact Ye3 (μ.flat δ (GA _)) td (GG _) (Ya1 ec (dC.str _) ((dC.tup C (rt.same B)).same sc))
 ·rintro σ H9 ⟨o6,ο,m,rfl,T9,S,B9,ε,W,μ⟩;refine⟨_,rfl,_,rfl,D5,_,rfl,Y6I ε (λI M=>?_)⟩;have B:=Y2y m M;have C:(upd H9 I (.tup m)) I=Yj m:=bP;generalize upd H9 I (.tup m)=Hb at B C;refine pJ (by show 2<=64;decide) λqc Hc ω ec sc=>?_;have el:=(B.trans sc) _ _ (S _ _ (S8 _ _ e4));refine k _ R U a b Hc (T9.same (B.trans sc)) (B9.trans (B.trans sc).but) (Ya1 ec (dC.tup el (zD R)) (dC.tup (sc _ _ C) ((μ.same B).same sc))) (Y5I Oo (λx r=>?_) χ (λx r=>?_)) ha τ φ rfl
  ·rcases bK.mp r with rfl | r
   ·exact wK f4 ha
   ·rw[bD.mp r];exact wK f4 τ
  ·rcases bK.mp r with rfl | r
   ·show(reprText "ab").length<=20
    decide +kernel
   ·rw[bD.mp r];show(reprText "z").length<=20
    decide +kernel
end
abbrev aBd:Stmt:=(top 97)
def wF:Ye ["_law_script","_law_feed_here","_law_faces","_law_aim_here","_law_lacks","_law_due","_law_ways","_law_shares_here","_law_trial","_law_some_here"] a24 aBd:={}
def DT{H:Hp}{M:Nat}{bs mix cs:Ak}{v:V}(h:Y1A (VC M bs mix cs) v):∃a x1 x2 x3,v=Yn/\H a=Yj [.int (M:Int),x1,x2,x3]/\Y6p bs x1/\Y6p mix x2/\Y6p cs x3:=by
 obtain⟨a,m,rfl,l,c⟩:=nZ h;unfold bG bG bG bG bG at c;obtain⟨j,_,rfl,g,x1,_,rfl,i,x2,_,rfl,e,x3,_,rfl,d,rfl⟩:=c;cases(show j=V.int (M:Int)from g);exact⟨a,x1,x2,x3,rfl,l,i,e,d⟩
def aGo{f:Fr}(l:Y0b)(h:0<=Y0Y):0<=f.1:=by
 have a:(0:Rat)<=(f.2:Rat):=by exact_mod_cast Int.le_of_lt l.pos
 have:=cA h a;rw[pD l.pos]at this
 exact_mod_cast this
def aBS{f:Fr}(l:Y0b):0<f.1↔0<Y0Y:=by
 have a:(0:Rat)<(f.2:Rat):=by exact_mod_cast l.pos
 have e:=pD l.pos;constructor
 ·intro h;refine Rat.not_le.mp λg=>?_;have:=Rat.mul_le_mul_of_nonneg_right g (Rat.le_of_lt a);rw[e,Rat.zero_mul]at this;have:f.1<=0:=by exact_mod_cast this
  exact Oo
 ·intro h;have:=Rat.mul_pos h a;rw[e]at this
  exact_mod_cast this
def AS{N:Nat}{f:Fr}(h:MD N 1 f)(n0:0<N):0<=Y0Y/\Y0Y<=1:=by
 refine Y0p (PM h.1.low h.2);obtain⟨⟨l,x,e,z⟩,_⟩:=h;have a:(0:Rat)<(N:Rat):=by exact_mod_cast n0
 have:x<=(N:Int):=Oo;have b:(x:Rat)<=((N:Int):Rat):=by exact_mod_cast this
 rw[<-e]at b;refine Yf1 (N:Rat) a;rw[Rat.mul_comm,Rat.mul_one];exact b
def szM{m N B:Nat}{f:Fr}(h:Y32)(h0:0<N)(h1:N<=2^50)(h2:B<=2^20)(hm:71<=m):sV m f:=by
 obtain⟨a,b⟩:=h.num h0;have c:B*N<=2^20*2^50:=Nat.mul_le_mul h2 h1;have d:(2:Nat)^71<=2^m:=aK Dd hm;have e:(2:Nat)^20*2^40<2^71:=Dd;have g:(2:Nat)^50<2^71:=Dd;exact Y2q Oo
def lkF(bs:Ak):Fr:=Y4X (1,1) (mM bs)
def YS{N:Nat}{bs:Ak}(h:∀f∈bs,Fn N 1 f):Fn N (1+bs.length*1) (lkF bs):=(Fn.one N).add (Fn.tot bs h).neg
def YR{N:Nat}{bs:Ak}(h:∀f∈bs,Fn N 1 f):rv (lkF bs)=1-Y6t bs.length bs:=by
 unfold lkF;have t:=Fn.tot bs h;rw[sE (f:=(1,1)) (g:=oK (mM bs)) Dd t.low.pos,sD,show rv (oK (mM bs))=- rv (mM bs)from BX _,GU bs λf a=>(h f a).low,pL];grind
def JO{F a:Nat}{ss:Aj}{w:Nat}(f4:F<=4)(ha:a<F)(hs:ss[w]?=some (nM F a)){f:Nat}(hf:f<F):Y4R w (Y4S f)=if f=a then 1 else 0:=by
 have low:∀g∈nM F a,eJ g:=λg c=>((wK f4 ha).at g c).1.low;unfold gD;rw[iB hs,AI low,yI _ _ _ (by rw[(wK f4 ha).len];exact hf) (by rw[(wK f4 ha).len,bH]),yH,Rat.one_mul,pY (f:=(if f=a then 1 else 0,1)) (by unfold nM;rw[aF,bL hf];rfl)];split
 ·exact sD
 ·exact lY
def KK(M:Nat)(bs cs:Ak):Y4L:=if 0<1-(Y1D+Y1C) then(if M=0 then none else some (Y3N 0*(1-(Y1D+Y1C)))) else some 0
def aFx{F M Ns Nb a b:Nat}{fs:Ah}{ws:Y0A}{bs mix cs:Ak}{o:Y4L}(L:DY F 2 M Ns Nb fs ws bs mix cs)(ha:a<F)(hb:b<F)(ab:a≠b)(hw:ws.map (·.2)=[nM F a,nM F b])(q:LcQ F 2 M (Y0v) bs mix cs o):o=KK M bs cs:=by
 have g:0<Nb:=(show ∀n∈[27720,997],0<n by decide) Nb L.nb;have d:=L.f.2;have e:Y0v=[nM F a,nM F b]:=hw;have Q:=L.T.qin;rw[e]at q Q;unfold KK;by_cases h:0<1-(Y1D+Y1C)
 ·rw[Y3K];by_cases m:M=0
  ·subst m;rw[Yo];exact TX Q L.mn L.cn L.m1 h q
  ·rw[if_neg m];exact aB0 Oo Q L.mn L.cn L.m1 (λw=>MF L.b w) ha hb ab (λf c=>JO d ha rfl c) (λf c=>JO d hb rfl c) h q
 ·rw[Y3L];refine QM (by have:=L.f;exact Oo) Dd Q L.mn L.cn L.m1 (λw=>?_) ?_ q
  ·by_cases hw:w<bs.length
   ·rw[pY (aB hw)];exact(AS (L.b _ (Yfl)) g).2
   ·rw[nF Oo];decide
  ·rw[GO];have:((2:Nat):Rat)=2:=rfl;rw[this];grind
def aFw{M:Nat}{bs cs:Ak}(lb:Y9Y 2)(hb:∀f∈bs,MD 27720 1 f)(hc:∀f∈cs,VD f)(lc:Ybj M)(m3:M<=3)(q:Rat)(h:KK M bs cs=some q):sV 1062 (Y1K):=by
 have c:=YS λf a=>(hb f a).1;have e:=YR λf a=>(hb f a).1;rw[lb,GO]at e;rw[lb]at c;unfold KK at h;split at h
 ·split at h
  ·cases h
  ·cases h;have d:=Yg7 cs 0;rw[pY d,<-e];have g:=kD hc _ (aE d);refine szM (g.q.mul c.q).fq (eM (xR hc) Dd) (Y2Z (Y1s (DL hc Oo))) Dd Dd
 ·cases h;rw[rC];exact szM (Fn.zero 1) Dd Dd Dd Dd
def SA{K:Aa}{H:Hp}{M:Nat}{bs mix cs:Ak}{v:V}(h:Y1A (VC M bs mix cs) v):Y4B K H M v:=by
 obtain⟨a,c,i,d,rfl,e,j,l,g⟩:=DT h;exact⟨a,c,i,d,rfl,e,j,l,LU.of g⟩
theorem aCK{H:Hp}{P:Y1k Y8k}:∀{zs:Al},(∀(i:Nat) (y:V),zs[i]?=Y09->∃x,Y1A (wD x) y/\P x)->∃ws:List (Str × Ak),Yd4 zs.length/\Y1q YcX zs/\∀x∈ws,P x
 | [],_=>⟨[],rfl,bG.nil,λx h=>by cases h⟩
 | z::zs,h=>by
  obtain⟨x,h1,h2⟩:=h 0 z rfl;obtain⟨ws,e,c,d⟩:=aCK (zs:=zs) λi y a=>h (i+1) y (by simpa using a);refine⟨x::ws,by rw[cI,cI,e],bG.cons h1 c,λy a=>?_⟩;rcases bK.mp a with rfl | a
  ·exact h2
  ·exact d y a
def RZ{ws:Y0A}{sh:Ak}(h:∀x∈ws,x.2=sh){w:Nat}(hw:w<ws.length):gD (Y0v) w=wq sh:=by
 funext c
 show wq ((ws.map (·.2)).getD w []) c=_;rw[iB (a:=sh) (by rw[aF,aB hw];exact YaO (h _ (Yfl)))]
def YV{N:Nat}{g:Fr}(h:MD N 1 g)(n0:0<N)(p:0<g.1):MD N 1 (lw (g.1-1) g.2):=by
 have a:=h.1.low.pos;have le:g.1<=g.2:=by
  have c:(0:Rat)<=(g.2:Rat):=by exact_mod_cast Int.le_of_lt a
  have:=Rat.mul_le_mul_of_nonneg_right (AS h n0).2 c;rw[pD a,Rat.one_mul]at this
  exact_mod_cast this
 exact⟨(Fn.of a Oo).dvd (Fn.dn h.1 n0),QG Oo⟩
def YG{N:Nat}{f:Fr}(h:MD N 1 f)(n0:0<N):MD N 1 (Y4X (1,1) f):=by
 obtain⟨m,n⟩:=AS h n0;have j:Fn N (1+1) (Y4X (1,1) f):=(Fn.one N).add h.1.neg;have e:rv (Y4X (1,1) f)=1-Y0Y:=by
  rw[sE (f:=(1,1)) (g:=oK f) Dd h.1.low.pos,sD,show rv (oK f)=- rv f from BX f];grind
 have d:0<=rv (Y4X (1,1) f):=by rw[e];grind
 have u1:rv (Y4X (1,1) f)<=1:=by rw[e];grind
 obtain⟨l,x,i,_⟩:=j;have c:(0:Rat)<=(N:Rat):=Rat.natCast_nonneg;refine⟨Y2v l x i,aGo l d⟩;have a:=cA d c;have b:=Rat.mul_le_mul_of_nonneg_right u1 c;rw[i]at a b;rw[Rat.one_mul]at b;have a:0<=x:=by exact_mod_cast a
 have b:x<=(N:Int):=by exact_mod_cast b
 exact Oo
def aE9:∀i:Nat,i<4->∃t:Str,(reprText t).length<=20/\IF ((["a","ab","b","abc"]:Ah).map V.str) (0+(i:Int))=some (V.str t):=λi c=>by
 have:i=0\/i=1\/i=2\/i=3:=Oo;rcases this with rfl | rfl | rfl | rfl
 ·exact Y1t "a" Kk
 ·exact Y1t "ab" Kk
 ·exact Y1t "b" Kk
 ·exact Y1t "abc" Kk
section
def aIq(F:Yc "law" "law" aBd)(T:Yf)
  (FQ8:Y00 "_law_feed" a24 (AQ K)) (FQ7:Y00 "_law_draw" a02 fC) (FQ13:Y2w "_law_shares" a02 mT) (FQ4:Y36 "_law_aim" a13 wV) (FQ10:Y2w "_law_less" a01 (kS K)) (FQ9:Y00 "_law_frac" a03 gM) (FQ16:Y2w "_law_times" a01 (uS K)) (FQ5:Y00 "_law_below" a01 (sB K)) (FQ17:Y36 "_law_total" ["_law_some_here"] (qR K)) (FQ15:Y2w "_law_sure" a29 AK) (FQ12:Y0W 11 "_law_right" a04 (qS K)):dP P w K mg base cY 12 f fd a24 (yD K):=by
 refine Y13 wF;unfold yD at h;obtain⟨a,ns,rfl,hS,hl,k⟩:=h;refine Yg;intro cdv A outer s hr _;refine⟨_,(aH (Y6e wF.nd (Y0F FQ8 0))
  (aH (Y10 wF.nd (Y7t 1))
  (aH (Y0J wF.nd (kQ FQ4 (Y0m) aI (Y4a FQ7 1 (Y4u (hZ (bB aI (Y2j aI aI))) (Y2L lH 2)))))
  (aH (Y2A wF.nd (cR FQ10 (Y8n aI) (fV FQ17 (Y17 3))))
  (aH (tL (Y77 (eB vK (Y17 4) aI) (Y2A wF.nd (Y8n aI))))
  (aH (Y7M wF.nd (Y8n aI))
  (aH (tL (Y77 (eB zO (Y17 4) aI) (Y7M wF.nd (lP (eB nP (Y17 3) aI) lG (cR FQ16 (Ya2 3 aI) (Y1i))))))
  (aH (Y80 (aDj (pX (Y3j FQ12 (Y3F FQ15 1 2) 3 (aD 5)))) VZ)
  (aH (Y9U wF.nd (Y7t 1))
  (aH (Y7r 7 wF.nd (Y4a FQ13 1 aI))
  (aH (cK (i:=8) wF.nd (Y38 (Y38 gW gW) (Y5E dH (by rfl) Kk ["_law_way","_law_shares_here"] [7] (Y7O 6) (Y38 (bO (iA K) (hZ (bB gW (bB gW (Y2j gW gW)))) (Y02)) Y0m))))
  (aH (Y0J wF.nd (Y3j FQ4 Y0m 6 (Y4a FQ7 1 aI)))
  (aH (tL (iE (eB nP (Y4a FQ7 1 aI) aI) (aH (iD (i:=9) (dS.o ["_law_one"] []) wF.nd rfl rfl (vT (Y3F FQ13 1 6)) YbN (λ_ _ _ _=>cR FQ10 (Y8n aI) (Y02)))
  (aH (tL (Y77 (OR (SL (BJ (eB nP (Y4a FQ7 1 aI) aI) (wG (eB zO (Ya2 9 aI) aI))))) (GB (cR FQ9 (cC lH (Ya2 9 aI) aI) (Ya2 9 aI)) (GE (aD 9) aI xE))))
  (aR (Y0J wF.nd (dN (bB (Y17 3) (bB (Yam dH (by rfl) Kk (Y4b 9)) (Y8N 3 (Y17 3))))))))) fA))
  (aH (tL (Y7M wF.nd (lP (pX (cR FQ5 (fV FQ17 (Y17 3)) (Y8n (Y2L lH 6)))) lG (Y8n aI))))
  (Y0V (Y3j FQ12 (aD 8) 3 (aD 5))))))))))))))))),?_⟩
 refine Yu;intro J γ;refine Y6;refine AQ.i hS hl λp L H1 F1 Z hp1 hL1=>Ys;intro J γ;refine Y6;refine Y3n 999999 (F1.less Dd) (λx2 H2 a2 b2 F2 s2=>Y6A _ _);obtain⟨F,hF,f2,f4⟩:∃F:Nat,2+x2=(F:Int)/\2<=F/\F<=4:=⟨(2+x2).toNat,Oo,Oo,Oo⟩;show mG 2 (V.int (2+x2)) _ _ _;rw[hF];refine Ys;intro J γ;clear Z s2 a2 b2 F1 hF;refine Y06;refine zZ (by show 3<=64;decide) λq3 H3 hq3 e3 s3=>Y9e _ rfl _ _ rfl ?_;obtain⟨m,hm,m1,m4,mf⟩:∃m:Int,IF [V.int 4,V.int 3,V.int 3] ((F:Int)-2)=Y9 m/\1<=m/\m<=4/\(2<F->m<=3):=by
  have:F=2\/F=3\/F=4:=Oo;rcases this with rfl | rfl | rfl
  ·exact Y5I 4 Dd Dd Dd
  ·exact Y5I 3 Dd Dd Dd
  ·exact Y5I 3 Dd Dd Dd
 refine vN e3 hm (Y9G 999998 (F2.same s3) (aAo Oo) (λx4 H4 a4 b4 F4 s4=>?_));obtain⟨M,hM,m3,mF⟩:∃M:Nat,x4=(M:Int)/\M<=3/\(2<F->M<=2):=⟨x4.toNat,Oo,Oo,Oo⟩;subst hM;refine wV.i (n:=999900) (W:=2) (M:=M) (F4.less Dd) Dd Dd Oo λav bs κ cs H5 F5 υ τ B u φ ν I=>Ys;intro J γ;obtain⟨aa,xb,xm,xc,rfl,C,β,ι,S⟩:=DT τ;obtain⟨ab,vb,rfl,af,ad⟩:=oA β;have lf:=YS λf r=>(u f r).1;rw[B]at lf;have lv:=YR λf r=>(u f r).1;rw[B,GO]at lv;clear F2 F4 s3 s4 υ hm m1 m4 mf a4 b4 e3 hq3;refine pJ (by show 2<=64;decide) λq6 H6 hq6 e6 θ=>Y6;refine Y5Z (θ _ _ C) (qR.i (θ _ _ af) (vG.of (ad.same θ)) (rP (λf r=>(u f r).1) Dd (Y6j (show 27720<2^20 by decide)) Oo Nat.one_le_two_pow) λv7 H7 s7 r7=>?_);have tf:=Fn.tot bs λf r=>(u f r).1;rw[B]at tf;refine kS.i (jE.new (s7 _ _ e6)) (jE.of r7) NL tf.low (szM (Fn.one 1) Dd Dd Dd Dd) (szM tf Dd Dd Dd Dd) λq8 H8 hq8 e8 s8=>Ys;intro J γ;have e8:H8 q8=Yj [.int (lkF bs).1,.int (lkF bs).2]:=e8;generalize lkF bs=g at lf lv e8;have S8:=(θ.trans s7).trans s8;have F8:=F5.same S8;have ra8:=τ.same S8;clear τ F5 C β ι S af ad e6 θ s7 s8 S8 r7 tf
 refine YcL (∃(q:Addr) (g:Fr),χ=[Y2r,Y2e,Y9 (F:Int),Y3 aa,Y3 q,none,none,none,none,none]/\aU H8 H'/\H' q=Yj [.int g.1,.int g.2]/\Fn 27720 3 g/\(0<g.1↔0<1-(Y1D+Y1C))/\(0<g.1->rv g=1-(Y1D+Y1C)))
 rotate_left
 ·refine Y0g e8;refine Y3O _ _ _ ?_;have ps:=aBS lf.low;rw[lv]at ps;refine Y5B
  ·refine pJ (by show 2<=64;decide) λq9 H9 hq9 e9 ρ=>⟨q9,(0,1),rfl,ρ,e9,(Fn.zero _).le Dd,?_,YbS h Dd⟩;rw[<-ps];constructor <;> intro h <;> exact Oo
  ·exact⟨q8,g,rfl,Y0e,e8,lf,ps,λ_=>lv⟩
 rintro _ H9 ⟨q9,g9,rfl,ρ,e9,f9,p9,v9⟩;refine Y3J;intro J γ;have F9:=F8.same ρ;have ra9:=ra8.same ρ;clear e8 F8 ra8 ρ lf lv;refine pJ (by show 2<=64;decide) λqa Ha hqa ea U=>Ys;intro J γ;have Fa:=F9.same U;have R:=ra9.same U;have e9:=U _ _ e9;clear F9 ra9 U;refine YcL (∃(dv:V),χ=[Y2r,Y2e,Y9 (F:Int),Y3 aa,Y3 q9,some dv,none,none,none,none]/\aU Ha H'/\DX H' (KK M bs cs) dv)
 rotate_left
 ·refine Y0g e9;refine Y3O _ _ _ Y5B
  ·obtain⟨_,xb,xm,xc,h0,C,β,ι,S⟩:=DT R;refine Y23;intro J;cases h0;have e1:=e;have pos:=p9.mp e;refine Y0g C;refine Y87 Y5B
   ·refine Y1Z .non Y0e ?_;have m0:M=0:=by
     have:=V.int.inj e;exact Oo
    unfold KK;rw[if_pos pos,if_pos m0]
    rfl
   ·have m0:M≠0:=Y5G (by rw[z];rfl);obtain⟨ac,vc,rfl,hac,rvc⟩:=oA S;have e0:=Yg7 cs 0;obtain⟨x0,hx0,ξ⟩:=bG.atX rvc e0;generalize cs[0]=c0 at e0 ξ;have f0:=kD I _ (aE e0);refine Y0g C;refine jF hac (Y4N hx0) Y6;refine uS.i (jE.of ξ) (jE.new e9) f0.low f9.low (szM f0 (xR I) (Y2Z (DL I Oo)) Dd Dd) (szM f9 Dd Dd Dd Dd) λqc Hc hqc ec sc=>Y1Z (.ref qc) sc ?_;unfold KK;rw[if_pos pos,if_neg m0,pY e0,<-v9 e1];show Y2U Hc _ _;rw[<-kP f0.low.pos f9.low.pos,ZL (f0.mul f9).low];exact eV ec
  ·refine Y1Z (.ref qa) Y0e ?_;unfold KK;rw[if_neg λh=>e (p9.mpr h)];show Y2U Ha 0 _;rw[rC];exact eV (f:=(0,1)) ea
 rintro _ ζ ⟨dv,rfl,X,od⟩;refine Y3J;intro J γ;have Fb:=Fa.same X;have ah:=R.same X;clear Fa R X e9 ea;refine Y06;refine AK.i (n:=999890) (F:=F) (Fb.less Dd) f2 f4 λtv fs ws za zb Hc Fc sc rt TT ha hb nab hws=>?_;have L1:DY F 2 M 2520 27720 fs ws bs κ cs:=⟨TT,⟨f2,f4⟩,Dd,m3,mF,YbS h Dd,Dd,Dd,λx η f r=>?_,B,u,φ,ν,I⟩
 rotate_left
 ·have hx2:x.2∈ws.map (·.2):=Y3b x η;rw[hws]at hx2;have key:∀d,f∈nM F d->Fn 2520 1 f:=λd hd=>by
   obtain⟨j,_,rfl⟩:=aM.mp hd;split
   ·exact Fn.one _
   ·exact(Fn.zero _).le Dd
  rcases bK.mp hx2 with e | e
  ·rw[e]at r;exact key _ r
  ·rw[bD.mp e]at r;exact key _ r
 have δ:=Fb.t sc;refine Y06;refine qS.i rt (SA (ah.flat δ (vB _ _ _ _))) (od.t δ) L1.fw (λf r=>kD I f r) (λq h=>aFw B u I ν m3 q h) (λo' q=>aFx L1 ha hb nab hws q) λHd sd=>?_;have Fd:=Fc.same sd;clear Fb Fc sc rt ah od δ L1 sd f9 p9 v9 hws nab ha hb;clear u B φ ν I;refine Y7 (rB ?_);refine Y6;refine Y3n 999889 Fd (λx1 H1 a1 b1 F1 Z=>Y6A _ _);obtain⟨W,hW,w2,w4⟩:∃W:Nat,2+x1=(W:Int)/\2<=W/\W<=4:=⟨(2+x1).toNat,Oo,Oo,Oo⟩;show mG 6 (V.int (2+x1)) _ _ _;rw[hW];refine Ys;intro J γ;clear hW Fd Z a1 b1;refine Y6;refine mT.i (n:=999870) (F1.less Dd) Dd Dd λsv sh H2 F2 s2 rs ss=>Ys;intro J γ;refine pJ (by show 2<=64;decide) λq3 H3 hq3 e3 s3=>Y55 _ _ rfl Oo Oo ?_;refine Y9I (∃x:Str × Ak,Y2Q (wD x) y/\x.2=sh/\(reprText x.1).length<=20) (λi y Ha ζ s ⟨x,h1,h2⟩=>⟨x,h1.flat s (GG x),h2⟩) Oo (λi H' Q' hi s' k'=>?_) (λD zs H4 hD e4 s4 hz hr4=>?_)
 ·refine zZ (by show 4<=64;decide) λN1 H1 hN e1 Z=>?_;obtain⟨t,ht20,ht⟩:=aE9 i Oo;refine Y7 (vN e1 ht ?_);refine Y6;exact pJ (by show 2<=64;decide) λq5 H5 hq5 e5 υ=>k' _ H5 (Z.trans υ) (Y3E (t,sh) (Ya1 e5 (dC.str _) (rs.same (s3.trans (s'.trans (Z.trans υ))))) ht20)
 obtain⟨ws,lws,rws,ae⟩:=aCK hr4;refine Y3E D _ (Y8H e4 ?_);have υ:=Y2y zs hl;have e5:(upd H4 l (.tup zs)) l=Yj zs:=bP;generalize upd H4 l (.tup zs)=H5 at υ e5;refine pJ (by show 2<=64;decide) λq6 H6 hq6 e6 θ=>Ys;intro J γ;have S6:=(s3.trans s4).trans (υ.trans θ);have rt:dC H6 (GL ["z","zz"] ws) (.ref q6):=Ya1 e6 (dC.tup ((s4.trans (υ.trans θ)) _ _ e3) (zD ["z","zz"])) (dC.tup (θ _ _ e5) ((rws.same υ).same θ));have F6:=F2.same S6;have TT:TrC 2 W ["z","zz"] ws:=⟨rfl,Oo,λx η=>by rw[(ae x η).1];exact ss,Kk,λx η=>(ae x η).2⟩;have psh:∀x∈ws,x.2=sh:=λx η=>(ae x η).1;clear F1 F2 s2 rs e3 s3 e4 s4 hr4 rws υ e5 e6 θ S6 ae hz;refine Y4q;refine Y3n 999869 F6 (λx7 H7 a7 b7 F7 s7=>?_);obtain⟨M,hM,m2⟩:∃M:Nat,x7=(M:Int)/\M<=2:=⟨x7.toNat,Oo,Oo⟩;subst hM;refine wV.i (n:=999800) (W:=W) (M:=M) (F7.less Dd) Oo w4 Oo λav bs κ cs H8 F8 s8 τ B u φ ν I=>Ys;intro J γ;have rt8:=(rt.flat (F6.t s7) (oY _ _)).flat (F7.t s8) (oY _ _);clear rt F6 F7 s7 s8 a7 b7;refine YcL (∃(av:V) (o9:Am) (bs:Ak) (Nb:Nat),χ=[Y2r,Y2e,Y9 (F:Int),some av,Y3 q9,some dv,Y9 (W:Int),some sv,Y3 q6,o9]/\eW H8 H'/\Y2Q (VC M bs κ cs) av/\Y9Y W/\Nb∈[27720,997]/\∀f∈bs,MD Nb 1 f)
 rotate_left
 ·refine Y6;refine Y3n 999799 F8 (λy1 H9 a1 b1 F9 ρ=>Y87 ?_);refine Y5B
  ·refine Y06;refine mT.i (n:=999780) (F9.less Dd) Oo Oo λsw sg Ha Fa U rg sgs=>?_;obtain⟨N,hN,fN⟩:=sgs.small;obtain⟨ag,vg,rfl,hag,rvg⟩:=oA rg;have lvg:vg.length=W:=by rw[hJ rvg,sgs.len]
   have n0:0<N:=(show ∀n∈[2520,997],0<n by decide) N hN;have n1:N<=2520:=(show ∀n∈[2520,997],n<=2520 by decide) N hN;have n2:N<=2^50:=Y2Z n1;have ta:eW H8 Ha:=(F8.t ρ).trans (F9.t U);have R:=τ.flat ta (vB _ _ _ _);refine Y1Z _ (Ya0 hag) (rF (xs:=vg) (λi y H'=>∃f:Fr,Y3l f y/\MD N 1 f) (λi y Ha ζ s ⟨x,h1,h2⟩=>⟨x,h1.flat s (eI x),h2⟩) Oo hag (λi x H' Q' η s' k'=>?_) (λD ψ ζ hD eD X hy hrb=>?_))
   ·obtain⟨b,hb,rb⟩:=fK rvg η;have fb:=fN b (aE hb);refine pJ (by show 2<=64;decide) λq1 H1 hq1 e1 Z=>Y6;exact kS.i (jE.new e1) (jE.of (rb.same (s'.trans Z))) NL fb.1.low (szM (Fn.one 1) Dd Dd Dd Dd) (szM fb.1 n0 n2 Dd Dd) λq2 H2 hq2 e2 s2=>k' _ H2 (Z.trans s2) (Y0K (eV e2) (YG fb n0))
   obtain⟨ε,ω,α,O⟩:=HS hrb;refine Ys;intro J γ;have Fb:=Fa.same X;have nD:D≠p:=Fa.ne hD;have lW:ε.length=W:=Oo;clear ω;have tb:=ta.trans X.t;have ah:=R.same X;clear R τ ta U ρ F9 Fa rg hag rvg hrb hD X;obtain⟨ο,gr,rfl⟩:∃g gr,ε=g::gr:=by
    cases ε with
    | nil=>simp at lW;exact Oo
    | cons g gr=>exact Y1t g gr
   obtain⟨y0,yr,rfl,ry0,ryr⟩:∃y yr,ψ=y::yr/\Y3D ζ ο y/\bG ζ (gr.map iR) yr:=by
    rw[bE]at α;unfold bG at α;exact α
   obtain⟨a0,x0,rfl,μ,ξ⟩:=nZ ry0;have f0:=O ο aS;have μ:ζ a0=Yj [.int ο.1,.int ο.2]:=by
    unfold bG bG bG at ξ;obtain⟨u0,_,rfl,r0,u1,_,rfl,r1,rfl⟩:=ξ;cases(show u0=V.int ο.1 from r0);cases(show u1=V.int ο.2 from r1);exact μ
   refine YcL (∃(ψ:Al) (ε:Ak),χ=[Y2r,Y2e,Y9 (F:Int),some av,Y3 q9,some dv,Y9 (W:Int),some sv,Y3 q6,Y3 D]/\eW ζ H'/\Y0x=Yi ψ/\Y41 (ε.map iR) ψ/\ε.length=W/\∀f∈ε,MD N 1 f)
   rotate_left
   ·refine Y74 (λb H'=>(b=true->0<ο.1)/\eW ζ H'/\Y0x=Yi (.ref a0::yr))
    ·refine Y6;refine Y3n 999779 Fb (λy2 Hc a2 b2 Fc sc=>?_);have G:=sc.at nD eD;refine Y87 Y5B
     ·refine Y7 (vN G (Y4N rfl) ?_);exact Y5Z (Fb.t sc _ _ μ) (Y3O _ _ _ ⟨λh=>of_decide_eq_true h,Fb.t sc,G⟩)
     ·exact⟨(λh=>by cases h),Fb.t sc,G⟩
    rintro b Hc ⟨pos,δ,G⟩;cases b with
    | false=>exact rB ⟨_,ο::gr,rfl,δ,G,α.flat δ (mH _),lW,O⟩
    | true =>
     have pos:=pos rfl;refine sO (Y23);intro J;refine Y7 (vN G (Y4N rfl) ?_);refine Y5Z (δ _ _ μ) (Y0O _ _ rfl (Y7 (vN G (Y4N rfl) ?_)));refine Y7A (δ _ _ μ);have f1:=YV f0 n0 pos;have d0:=f0.1.low.pos;have d1:=(f0.1.num n0).2;refine gM.i d0 (Y7W (aL d1 n1) (show 2520<2^12 by decide)) λq1 H1 hq1 e1 Z=>Y6;refine stG (j:=0) (Z _ _ G) (by unfold QQ;simp) λH2 e2 b2=>?_;have t2:=b2.t (Z _ _ G);have tt:=(δ.trans Z.t).trans t2;refine⟨_,lw (ο.1-1) ο.2::gr,rfl,tt,e2,?_,lW,λf r=>?_⟩
     ·rw[bE];exact bG.cons (dC.flat t2 (Y2h) (eV e1)) (ryr.flat tt (mH _))
     ·rcases bK.mp r with rfl | r
      ·exact f1
      ·exact O f (aY _ r)
   rintro _ Hc ⟨ψ,ε,rfl,δ,G,α,ω,O⟩;obtain⟨aa,xb,xm,xc,rfl,C,β,ι,S⟩:=DT (ah.flat δ (vB _ _ _ _));refine Y0g C;refine⟨_,rfl,D,_,rfl,Y6I G (λl2 hl2=>?_)⟩;have sd:=Y2y ψ hl2;have ed:(upd Hc l2 (.tup ψ)) l2=Yj ψ:=bP;generalize upd Hc l2 (.tup ψ)=Hd at sd ed;refine Y0g (sd _ _ C);refine Y0g (sd _ _ C);refine pJ (by show 4<=64;decide) λqe He hqe ee se=>?_;have Se:=sd.trans se;have ra':dC He (VC M ε κ cs) (.ref qe):=dC.tup ee (bG.cons Y8R (bG.cons (dC.tup (se _ _ ed) ((α.same sd).same se)) (bG.cons (ι.same Se) (bG.cons (S.same Se) bG.nil))));have te:eW H8 He:=(tb.trans δ).trans Se.t;rcases bK.mp hN with rfl | hN
   ·exact⟨_,_,ε,27720,rfl,te,ra',ω,Dd,λf r=>⟨(O f r).1.dvd ⟨11,rfl⟩,(O f r).2⟩⟩
   ·exact⟨_,_,ε,N,rfl,te,ra',ω,aY _ hN,O⟩
  ·exact⟨_,_,bs,27720,rfl,F8.t ρ,τ.flat (F8.t ρ) (vB _ _ _ _),B,Dd,u⟩
 rintro _ H9 ⟨av,o9,bs,Nb,rfl,t9,τ,B,nb,u⟩;refine Y3J;intro J γ;have rt9:=rt8.flat t9 (oY _ _);clear rt8 t9 F8;have n0:0<Nb:=(show ∀n∈[27720,997],0<n by decide) Nb nb;have n1:Nb<=2^50:=(show ∀n∈[27720,997],n<=2^50 by decide) Nb nb;have tf:=Fn.tot bs λf r=>(u f r).1;have tv:=GU bs λf r=>(u f r).1.low;rw[pL,B]at tv;rw[B]at tf;refine YcL (∃(dw:V),χ=[Y2r,Y2e,Y9 (F:Int),some av,Y3 q9,some dw,Y9 (W:Int),some sv,Y3 q6,o9]/\aU H9 H'/\DX H' (if Y6t W bs+1<(W:Rat) then none else some 0) dw)
 rotate_left
 ·obtain⟨aa,xb,xm,xc,rfl,C,β,ι,S⟩:=DT τ;refine Y23;intro J;obtain⟨ab,vb,rfl,af,ad⟩:=oA β;refine Y0g C;refine qR.i af (vG.of ad) (rP (λf r=>(u f r).1) n0 (Y8T n1 Dd) Oo Nat.one_le_two_pow) λva Ha U ra'=>Y9e _ rfl _ _ rfl ?_;refine pJ (by show 2<=64;decide) λqb ζ hqb eb X=>?_;have iff:((mM bs).1*1<((W:Int)-1)*(mM bs).2)↔Y6t W bs+1<(W:Rat):=by
   rw[aCU (f:=mM bs) (g:=((W:Int)-1,1)) tf.low.pos (show(0:Int)<1 by decide),tv];have e:rv (((W:Int)-1,1):Fr)=(W:Rat)-1:=by
    have:=pD (f:=((W:Int)-1,1)) (show(0:Int)<1 by decide);rw[Rat.intCast_sub,Rat.intCast_natCast]at this;have o:(((1:Int)):Rat)=1:=rfl;rw[o,Rat.mul_one]at this;exact this
   rw[e];constructor <;> intro h <;> grind
  refine sB.i (jE.of (ra'.same X)) (jE.new (f:=((W:Int)-1,1)) eb) (szM tf n0 n1 Oo Dd) ?_ ?_
  ·exact⟨Y6j (show((W:Int)-1).natAbs<2^10 by exact Oo),Ydt⟩
  refine Y7 Y5B
  ·refine Y1Z .non (U.trans X) ?_;rw[if_pos (iff.mp e)];rfl
  ·refine pJ (by show 2<=64;decide) λqc Hc hqc ec sc=>Y1Z (.ref qc) ((U.trans X).trans sc) ?_;rw[Y2c (e (iff.mpr z))];show Y2U Hc 0 _;rw[rC];exact eV (f:=(0,1)) ec
 rintro _ Ha ⟨dw,rfl,U,od⟩;have al:∀w,w<W->gD (Y0v) w=gD (Y0v) 0:=λw hw=>by rw[RZ psh (by rw[TT.w];exact hw),RZ psh (by rw[TT.w];exact Oo)]
 obtain⟨Ns,ns,fsh⟩:=ss.small;have L1:DY 2 W M Ns Nb ["z","zz"] ws bs κ cs:=⟨TT,Dd,⟨w2,w4⟩,Oo,YbS h Dd,λ_=>m2,ns,nb,λx η f r=>(fsh f (by rw[<-psh x η];exact r)).1,B,u,φ,ν,I⟩;refine Y4q;refine qS.i (rt9.same U) (SA (τ.same U)) od L1.fw (λf r=>kD I f r) (λq h=>?_) (λo' q=>?_) λζ X=>k ζ
 ·split at h
  ·cases h
  ·cases h;rw[rC];exact szM (Fn.zero 1) Dd Dd Dd Dd
 ·split
  ·exact YX Oo TT.qin al (by assumption) q
  ·refine QM Dd Oo TT.qin L1.mn L1.cn L1.m1 (λw=>?_) (Rat.not_lt.mp (by assumption)) q;by_cases hw:w<bs.length
   ·rw[pY (aB hw)];exact(AS (u _ (Yfl)) n0).2
   ·rw[nF Oo];decide
end
def QE{K:Aa}{C:Addr}:∀f∈([]:Ah),oG K C f:=λ_ h=>by cases h
def nQ{K:Aa}{C:Addr}{g:Str}{fs:Ah}(h:oG K C g)(r:∀f∈fs,oG K C f):∀f∈g::fs,oG K C f:=λf a=>by
 rcases bK.mp a with rfl | a
 ·exact h
 ·exact r f a
def aIW{α:Type}{us:Yv}(h:Y2T 1):∃a,us=[a]:=match us,h with | [a],_=>⟨a,rfl⟩
def aGJ{α:Type}{us:Yv}(h:Y2T 2):∃a b,us=[a,b]:=match us,h with | [a,b],_=>⟨a,b,rfl⟩
def aBZ{α:Type}{us:Yv}(h:Y2T 3):∃a b c,us=[a,b,c]:=match us,h with | [a,b,c],_=>⟨a,b,c,rfl⟩
def aIV{α:Type}{us:Yv}(h:Y2T 4):∃a b c d,us=[a,b,c,d]:=match us,h with | [a,b,c,d],_=>⟨a,b,c,d,rfl⟩
def aIU{α:Type}{us:Yv}(h:Y2T 5):∃a b c d e,us=[a,b,c,d,e]:=match us,h with | [a,b,c,d,e],_=>⟨a,b,c,d,e,rfl⟩
def aFs{K:Aa}{x q:Str}{st:Stmt}{f:Addr}{fd:FuncData}(F:Yc x q st)(P:Y1k FuncData)(h:P fd):∃fd,P fd:=⟨fd,h⟩
inductive Dn (K:Aa) (n:Str) (st:Stmt):Prop
 | mk {f:Addr} {oc:Value} {od:Y5r} {kV dc pm:Value} {an:Y5r} {cd ct:Value} {sl:Y9D} (a:PySem.W.nsIn K mainGlobals n=Y4e f) (l:YeM=Y92 oc od (PySem.W.fnOf n n (nH st) (kL st) (bA st) .none kV dc pm an cd ct) sl) (c:YdX cd n=true) (k:Y9l K f=true):Yk n st
def fnd(l:PySem.W.OpenLaw)(w:World){K:Aa}{h:Heap}{mg:Y0C}(X:K.In h)(G:YdR mg)(base:Heap){n:Str}{st:Stmt}{L:Nat}{ps:Ah}{sp:Sp}(d:Yk n st)(o:∀{f:Addr}{fd:FuncData},Yc n n st->dP l.prog w K mg base cY L f fd ps sp)(b:∀(kV doc pm:Value) (an:Y5r) (cdv ct:Value) (us:Ag),Y2T ps.length->bindArgs (PySem.W.fnOf n n (nH st) (kL st) (bA st) .none kV doc pm an cdv ct) ⟨us,[]⟩=pure (Ybd):=by intro _ _ _ _ _ _ us hl;first | (obtain⟨_,rfl⟩:=aIW hl;rfl) | (obtain⟨_,_,rfl⟩:=aGJ hl;rfl) | (obtain⟨_,_,_,rfl⟩:=aBZ hl;rfl) | (obtain⟨_,_,_,_,rfl⟩:=aIV hl;rfl) | (obtain⟨_,_,_,_,_,rfl⟩:=aIU hl;rfl)):fL cY l.prog w K mg base L n ps sp:=by
 obtain⟨a,e,c,k⟩:=d;exact⟨_,_,o (wC e c k),PySem.W.mg_of X G a,k,(wC e c k).binds b⟩
open PySem.W (nsIn fnOf codeIn keepIn mg_of mg_none_of) in
def aFL{l:PySem.W.OpenLaw}{w:World}{K:Aa}{h:Heap}{mg:Y0C}{fa:Addr}{c_ONE:Addr}{c_NOUGHT:Addr}{c_Weighing:Addr}{c_Master:Addr}{tok_LOOKS_ON:Tok}{tok_ROOM:Tok}{tok_LACK:Tok}{tok_RULE:Tok}{tok_NONE:Tok}(X:K.In h)(G:YdR mg)(hfa:mg "law" = Y3 fa)
  (u_ONE:Y1E "ONE" = Y4e c_ONE)
  (u_NOUGHT:Y1E "NOUGHT" = Y4e c_NOUGHT)
  (u_Weighing:Y1E "Weighing" = Y4e c_Weighing)
  (u_Master:Y1E "Master" = Y4e c_Master)
  (u_LOOKS_ON:Y1E "LOOKS_ON" = some (some (.int 0 tok_LOOKS_ON)))
  (u_ROOM:Y1E "ROOM" = some (Y8J "room" tok_ROOM))
  (u_LACK:Y1E "LACK" = some (Y8J "lack" tok_LACK))
  (u_RULE:Y1E "RULE" = some (Y8J "rule" tok_RULE))
  (u_NONE:Y1E "NONE" = some (Y8J "none" tok_NONE))
  (mi_Master:YdO c_Master=true)
  (pg_Master:YaA c_Master Str.empty=true)
  (hd_Master:Yc3 c_Master=true)
  (po_Master:YdC c_Master=true)
  (sa_Master:Y9H K "__setattr__" = some (Y8y "object.__setattr__"))
  (n0_Master:Y9H K "rows" = Y19)
  (n1_Master:Y9H K "parts" = Y19)
  (n2_Master:Y9H K "standing" = Y19)
  (mi_Weighing:YdO c_Weighing=true)
  (pg_Weighing:YaA c_Weighing Str.empty=true)
  (hd_Weighing:Yc3 c_Weighing=true)
  (po_Weighing:YdC c_Weighing=true)
  (sa_Weighing:Y9y K "__setattr__" = some (Y8y "object.__setattr__"))
  (n0_Weighing:Y9y K "rising" = Y19)
  (n1_Weighing:Y9y K "units" = Y19)
  (n2_Weighing:Y9y K "weights" = Y19)
  (n3_Weighing:Y9y K "cost_unit" = Y19)
  (n4_Weighing:Y9y K "costs" = Y19)
  (o_ONE:vZ K c_ONE [1,1]=true)
  (o_NOUGHT:vZ K c_NOUGHT [0,1]=true)
  (d0:Yk "common_divisor" aEk)
  (d1:Yk "plus" aDR)
  (d2:Yk "less" aD3)
  (d3:Yk "times" aDG)
  (d4:Yk "is_less" aD9)
  (d5:Yk "total" aDE)
  (d6:Yk "least_place" aD5)
  (d7:Yk "faces_of" aEe)
  (d8:Yk "ways_of" aDC)
  (d9:Yk "way_shares" aDD)
  (d10:Yk "power" aDQ)
  (d11:Yk "weight" aDB)
  (d12:Yk "counts_that_are" aBe)
  (d13:Yk "all_counts" aEr)
  (d14:Yk "one_more" aDX)
  (d15:Yk "ones_more" aDW)
  (d16:Yk "sums_at" aDH)
  (d17:Yk "worths" aDy)
  (d18:Yk "common_lower" aEj)
  (d19:Yk "times_whole" aDF)
  (d20:Yk "in_units" aEa)
  (d21:Yk "look_cost" aD2)
  (a22:Y9y K "__init__" = Y4e f22) (l22:K.lookup f22=Y92 oc22 od22 (fnOf "__init__" "Weighing.__init__" (nH sQ3) (kL sQ3) (bA sQ3) .none kV22 dc22 pm22 an22 cd22 ct22) sl22) (c22:codeIn K cd22 "Weighing.__init__" = true) (k22:Y8E K f22=true) (fn22:Y9p K f22=true) (kp22:Y8E K c_Weighing=true)
  (d23:Yk "weights_at" aDA)
  (d24:Yk "best_places" aEo)
  (d25:Yk "looks_on" aD1)
  (d26:Yk "noughts" aDZ)
  (d27:Yk "counts_behind" aEh)
  (d28:Yk "counts_come_to" aEg)
  (d29:Yk "rule_within" aDL)
  (d30:Yk "plain_table" aDS)
  (d31:Yk "one_among" aDY)
  (d32:Yk "product" aDO)
  (d33:Yk "is_sooner" aD8)
  (d34:Yk "leaving" aD4)
  (d35:Yk "exchanged" aEf)
  (a36:Y9H K "__init__" = Y4e f36) (l36:K.lookup f36=Y92 oc36 od36 (fnOf "__init__" "Master.__init__" (nH sQ0) (kL sQ0) (bA sQ0) .none kV36 dc36 pm36 an36 cd36 ct36) sl36) (c36:codeIn K cd36 "Master.__init__" = true) (k36:Y8E K f36=true) (fn36:Y9p K f36=true) (kp36:Y8E K c_Master=true)
  (a37:Y9H K "rates" = Y4e f37) (l37:K.lookup f37=Y92 oc37 od37 (fnOf "rates" "Master.rates" (nH sQ2) (kL sQ2) (bA sQ2) .none kV37 dc37 pm37 an37 cd37 ct37) sl37) (c37:codeIn K cd37 "Master.rates" = true) (k37:Y8E K f37=true) (fn37:Y9p K f37=true) (kp37:Y8E K c_Master=true)
  (a38:Y9H K "enter" = Y4e f38) (l38:K.lookup f38=Y92 oc38 od38 (fnOf "enter" "Master.enter" (nH sQ1) (kL sQ1) (bA sQ1) .none kV38 dc38 pm38 an38 cd38 ct38) sl38) (c38:codeIn K cd38 "Master.enter" = true) (k38:Y8E K f38=true) (fn38:Y9p K f38=true) (kp38:Y8E K c_Master=true)
  (d39:Yk "lacks" aD7)
  (d40:Yk "rates_of" aDN)
  (d41:Yk "factors_of" aEd)
  (d42:Yk "column_by" aEm)
  (d43:Yk "better" aEn)
  (d44:Yk "settled" aDK)
  (d45:Yk "rule_faces" aDM)
  (d46:Yk "amounts" aEq)
  (d47:Yk "comings" aEl)
  (d48:Yk "onwards" aDV)
  (d49:Yk "spent" aDJ)
  (d50:Yk "over" aDU)
  (d51:Yk "parts_of" aDT)
  (d52:Yk "says_of_parts" aBc)
  (d53:Yk "mixed" aD0)
  (d54:Yk "fraction" aEb)
  (d55:Yk "standing_mixed" aDI)
  (d56:Yk "prices_of" aDP)
  (d57:Yk "without_costs" aDz)
  (d58:Yk "cost" aEi)
  (d59:Yk "fewest" aEc)
  (d60:Yk "least_cost" aD6)
  (d61:Yk "_law_feed" sQ8)
  (d62:Yk "_law_draw" sQ7)
  (d63:Yk "_law_frac" sQ9)
  (d64:Yk "_law_plus" aEy)
  (d65:Yk "_law_times" aEt)
  (d66:Yk "_law_below" sQ5)
  (d67:Yk "_law_less" aEz)
  (d68:Yk "_law_shares" aEw)
  (d69:Yk "_law_some" aEv)
  (d70:Yk "_law_bound" sQ6)
  (d71:Yk "_law_aim" sQ4)
  (d72:Yk "_law_total" aEs)
  (d73:Yk "_law_sure" aEu)
  (d74:Yk "_law_right" aEx)
  (d75:Yk "law" aBd) (z0:Y1E "list" = Y19) (z1:Y1E "len" = Y19) (z2:Y1E "abs" = Y19) (z3:Y1E "range" = Y19) (z4:Y1E "sum" = Y19) (z5:Y1E "zip" = Y19) (z6:Y1E "reversed" = Y19) (z7:Y1E "tuple" = Y19) (z8:Y1E "sorted" = Y19) (z9:Y1E "int" = Y19) (z10:Y1E "min" = Y19) (z11:Y1E "enumerate" = Y19) (z12:Y1E "any" = Y19) (z13:Y1E "repr" = Y19) :
  ∃fd:FuncData,(∀(s:Shared) (v:Value),Ybn s ⟨[v],[]⟩ [("_law_script",v)])/\∀base:Heap,K.In base->Yc2 mg->dP l.prog w K mg base cY 12 fa fd a24 (yD K):=by
 obtain⟨m,p,j,y⟩:=d75;have e:=hfa.symm.trans (Y7c G m);cases e;generalize hcl:(⟨c_ONE,c_NOUGHT,c_Weighing,c_Master,tok_LOOKS_ON,tok_ROOM,tok_LACK,tok_RULE,tok_NONE⟩:Cl)=c;have T:Yf:=by rw[<-hcl];exact⟨Y4E z0,Y4E z1,Y4E z2,Y4E z3,Y4E z4,Y4E z5,Y4E z6,Y4E z7,Y4E z8,Y4E z9,Y4E z10,Y4E z11,Y4E z12,Y4E z13,Y7c G u_ONE,Y7c G u_NOUGHT,Y7c G u_LOOKS_ON,Y7c G u_ROOM,Y7c G u_LACK,Y7c G u_RULE,Y7c G u_NONE,Y7c G u_Master,⟨⟨pg_Master,hd_Master,po_Master,sa_Master⟩,(nQ n0_Master (nQ n1_Master (nQ n2_Master QE)))⟩,Y7c G u_Weighing,⟨⟨pg_Weighing,hd_Weighing,po_Weighing,sa_Weighing⟩,(nQ n0_Weighing (nQ n1_Weighing (nQ n2_Weighing (nQ n3_Weighing (nQ n4_Weighing QE)))))⟩,o_ONE,o_NOUGHT⟩
 have F75:=wC (st:=aBd) p j y;refine aFs F75 _ ⟨λs v=>.of_eq rfl,λbase _ _=>?_⟩;have N:=@fnd l w K h mg X G base;have GQ24:=Yl d0 (aIF F T);have GQ55:=Yl d1 (aIa F T GQ24);have GQ43:=Yl d2 (aIm F T GQ55);have GQ67:=Yl d3 (aHY F T GQ24);have GQ36:=Yl d4 (aIt F T);have GQ69:=Yl d5 (aHW F T GQ55);have GQ41:=Yl d6 (aIo F T GQ36);have GQ31:=Yl d7 (aIy F T);have GQ71:=Yl d8 (aHU F T);have GQ70:=Yl d9 (aHV F T);have GQ56:=Yl d10 (aH9 F T);have GQ72:=Yl d11 (aHT F T GQ70 GQ67 GQ56);have GQ29:∀n:Nat,fL cY l.prog w K mg base (1+n) "counts_that_are" a28 (pC n):=λn=>by
  induction n with
  | zero=>exact Yl d12 (aHC F T)
  | succ n ih=>exact Yl d12 (aIA n F T ih)
 have GQ18:=Yl d13 (aIL F T (GQ29 4));have GQ49:=Yl d14 (aIg F T);have GQ50:=Yl d15 (aIf F T GQ49);have GQ66:=Yl d16 (aHZ F T GQ72 GQ71 GQ67 GQ69 GQ43 GQ50 GQ55);have GQ75:=Yl d17 (aHQ F T GQ18 GQ31 GQ66 GQ41);have GQ25:=Yl d18 (aIE F T GQ24);have GQ68:=Yl d19 (aHX F T);have GQ35:=Yl d20 (aIu F T GQ68);have GQ44:=Yl d21 (aIl F T GQ67 GQ72 GQ71 GQ69);have F22:=wC (st:=sQ3) l22 c22 k22;have r:=F22.binds (ps:=a19) λ_ _ _ _ _ _ d a=>by obtain⟨_,_,_,rfl⟩:=aBZ (show d.length=3 from a);rfl
 have GQ3:FnO l.prog w K mg base 7 c.Weighing a19 (wN K c.Weighing):=⟨_,_,oQ3 F22 T GQ18 GQ31 GQ71 GQ72 GQ25 GQ35 GQ44,⟨(by rw[<-hcl];exact mi_Weighing),(by rw[<-hcl];exact a22),fn22,(by rw[<-hcl];exact kp22)⟩,r⟩;have GQ73:=Yl d23 (aHS F T);have GQ20:=Yl d24 (aIJ F T GQ73 GQ50);have GQ45:=Yl d25 (aIk F T);have GQ47:=Yl d26 (aIi F T);have GQ27:=Yl d27 (aIC F T GQ45 GQ50);have GQ28:=Yl d28 (aIB F T GQ47 GQ27);have GQ61:=Yl d29 (aH4 F T GQ28);have GQ54:=Yl d30 (aIb F T);have GQ48:=Yl d31 (aIh F T);have GQ58:=Yl d32 (aH7 F T);have GQ37:=Yl d33 (aIs F T);have GQ42:=Yl d34 (aIn F T GQ37);have GQ30:=Yl d35 (aIz F T);have F36:=wC (st:=sQ0) l36 c36 k36;have g:=F36.binds (ps:=a14) λ_ _ _ _ _ _ d a=>by obtain⟨_,_,_,rfl⟩:=aBZ (show d.length=3 from a);rfl
 have GQ0:FnO l.prog w K mg base 2 c.Master a14 (wS c.Master):=⟨_,_,oQ0 F36 T GQ48,⟨(by rw[<-hcl];exact mi_Master),(by rw[<-hcl];exact a36),fn36,(by rw[<-hcl];exact kp36)⟩,g⟩;have F37:=wC (st:=sQ2) l37 c37 k37;have i:=F37.binds (ps:=a39) λ_ _ _ _ _ _ d a=>by obtain⟨_,_,rfl⟩:=aGJ (show d.length=2 from a);rfl
 have GQ2:FnM l.prog w K mg base 2 c.Master "rates" a39 (qO c.Master):=⟨_,_,oQ2 F37 T GQ58,⟨(by rw[<-hcl];exact a37),fn37,k37⟩,i⟩;have F38:=wC (st:=sQ1) l38 c38 k38;have u:=F38.binds (ps:=a15) λ_ _ _ _ _ _ d a=>by obtain⟨_,_,_,rfl⟩:=aBZ (show d.length=3 from a);rfl
 have GQ1:FnM l.prog w K mg base 3 c.Master "enter" a15 (tV c.Master):=⟨_,_,oQ1 F38 T GQ58 GQ42 GQ30,⟨(by rw[<-hcl];exact a38),fn38,k38⟩,u⟩;have GQ38:=Yl d39 (aIr F T);have GQ59:=Yl d40 (aH6 F T GQ38 GQ2);have GQ32:=Yl d41 (aIx F T);have GQ22:=Yl d42 (aIH F T GQ50);have GQ21:=Yl d43 (aII F T GQ59 GQ32 GQ48 GQ20 GQ38 GQ22);have GQ63:=Yl d44 (aH2 F T GQ68 GQ0 GQ21 GQ1);have GQ60:=Yl d45 (aH5 F T);have GQ19:=Yl d46 (aIK F T GQ47 GQ60 GQ45 GQ67 GQ50 GQ55);have GQ23:=Yl d47 (aIG F T GQ19 GQ67 GQ72);have GQ51:=Yl d48 (aIe F T GQ23 GQ67 GQ45);have GQ64:=Yl d49 (aH1 F T GQ69 GQ67 GQ51);have GQ52:=Yl d50 (aId F T GQ67);have GQ53:=Yl d51 (aIc F T GQ19 GQ67);have GQ62:∀n:Nat,fL cY l.prog w K mg base (4+n) "says_of_parts" a00 (pZ K n):=λn=>by
  induction n with
  | zero=>exact Yl d52 (aHB F T)
  | succ n ih=>exact Yl d52 (aH3 n F T GQ52 GQ55 ih)
 have GQ46:=Yl d53 (aIj F T GQ53 GQ43 (GQ62 2) GQ61 GQ60);have GQ34:=Yl d54 (aIv F T GQ24);have GQ65:=Yl d55 (aH0 F T GQ61 GQ54 GQ46 GQ34);have GQ57:=Yl d56 (aH8 F T GQ59 GQ32 GQ34);have GQ74:=Yl d57 (aHR F T);have GQ26:=Yl d58 (aID F T GQ71 GQ69 GQ67 GQ64);have GQ33:=Yl d59 (aIw F T GQ3 GQ63 GQ38 GQ57 GQ75 GQ74 GQ65 GQ31);have GQ40:=Yl d60 (aIp F T GQ33 GQ26);have GQ8:=Yl d61 (oQ8 F T);have GQ7:=Yl d62 (oQ7 F T);have GQ9:=Yl d63 (oQ9 F T);have GQ11:=Yl d64 (aIS F T GQ9);have GQ16:=Yl d65 (aIN F T GQ9);have GQ5:=Yl d66 (oQ5 F T);have GQ10:=Yl d67 (aIT F T GQ9);have GQ13:=Yl d68 (aIQ F T GQ7 GQ9);have GQ14:=Yl d69 (aIP F T GQ7 GQ9);have GQ6:=Yl d70 (oQ6 F T GQ7 GQ9);have GQ4:=Yl d71 (oQ4 F T GQ6 GQ13 GQ14);have GQ17:=Yl d72 (aIM F T GQ11);have GQ15:=Yl d73 (aIO F T GQ7);have GQ12:=Yl d74 (aIR F T GQ40 GQ33);exact aIq F75 T GQ8 GQ7 GQ13 GQ4 GQ10 GQ9 GQ16 GQ5 GQ17 GQ15 GQ12
end Kw
open PySem PySem.W PyProof.Rows
set_option maxRecDepth 100000 in
set_option maxHeartbeats 0 in
theorem PySem.Challenge.cw_earlystop_k58_least_costs_known_holds : PySem.Challenge.rw_earlystop_k58_least_costs_known.Holds := by
  w_on;o_law;k_head;(case hw=>w_witness2)
  k_fill
  refine L2.WA (l:=PySem.Challenge.rw_earlystop_k58_least_costs_known) (n:=63) (k:=12) (x := "_law_script") (CX:=L2.cY) (sp:=λK=>Kw.yD K) rfl Dd rfl ⟨rfl,Dd,Dd,rfl⟩ (λw h Y=>PySem.W.kIn_of Y) ?F (λK H a m g _ e=>Kw.WS e g) (λ_ _ _ _ z=>z)
  case F =>
    intro w j i h KX G d
    refine' Kw.aFL KX G d ?u_ONE ?u_NOUGHT ?u_Weighing ?u_Master ?u_LOOKS_ON ?u_ROOM ?u_LACK ?u_RULE ?u_NONE ?mi_Master ?pg_Master ?hd_Master ?po_Master ?sa_Master ?n0_Master ?n1_Master ?n2_Master ?mi_Weighing ?pg_Weighing ?hd_Weighing ?po_Weighing ?sa_Weighing ?n0_Weighing ?n1_Weighing ?n2_Weighing ?n3_Weighing ?n4_Weighing ?o_ONE ?o_NOUGHT ?d0 ?d1 ?d2 ?d3 ?d4 ?d5 ?d6 ?d7 ?d8 ?d9 ?d10 ?d11 ?d12 ?d13 ?d14 ?d15 ?d16 ?d17 ?d18 ?d19 ?d20 ?d21 ?a22 ?l22 ?c22 ?k22 ?fn22 ?kp22 ?d23 ?d24 ?d25 ?d26 ?d27 ?d28 ?d29 ?d30 ?d31 ?d32 ?d33 ?d34 ?d35 ?a36 ?l36 ?c36 ?k36 ?fn36 ?kp36 ?a37 ?l37 ?c37 ?k37 ?fn37 ?kp37 ?a38 ?l38 ?c38 ?k38 ?fn38 ?kp38 ?d39 ?d40 ?d41 ?d42 ?d43 ?d44 ?d45 ?d46 ?d47 ?d48 ?d49 ?d50 ?d51 ?d52 ?d53 ?d54 ?d55 ?d56 ?d57 ?d58 ?d59 ?d60 ?d61 ?d62 ?d63 ?d64 ?d65 ?d66 ?d67 ?d68 ?d69 ?d70 ?d71 ?d72 ?d73 ?d74 ?d75 ?z0 ?z1 ?z2 ?z3 ?z4 ?z5 ?z6 ?z7 ?z8 ?z9 ?z10 ?z11 ?z12 ?z13
    (case u_ONE|u_NOUGHT|u_Weighing|u_Master|u_LOOKS_ON|u_ROOM|u_LACK|u_RULE|u_NONE|mi_Master|pg_Master|hd_Master|po_Master|sa_Master|n0_Master|n1_Master|n2_Master|mi_Weighing|pg_Weighing|hd_Weighing|po_Weighing|sa_Weighing|n0_Weighing|n1_Weighing|n2_Weighing|n3_Weighing|n4_Weighing|a22|l22|c22|k22|fn22|kp22|a36|l36|c36|k36|fn36|kp36|a37|l37|c37|k37|fn37|kp37|a38|l38|c38|k38|fn38|kp38|z0|z1|z2|z3|z4|z5|z6|z7|z8|z9|z10|z11|z12|z13=>k_is);(case d0|d1|d2|d3|d4|d5|d6|d7|d8|d9|d10|d11|d12|d13|d14|d15|d16|d17|d18|d19|d20|d21|d23|d24|d25|d26|d27|d28|d29|d30|d31|d32|d33|d34|d35|d39|d40|d41|d42|d43|d44|d45|d46|d47|d48|d49|d50|d51|d52|d53|d54|d55|d56|d57|d58|d59|d60|d61|d62|d63|d64|d65|d66|d67|d68|d69|d70|d71|d72|d73|d74|d75=>refine' Kw.Dn.mk ?a ?l ?c ?k;(case a=>k_is);(case l=>k_is);(case c=>k_is);(case k=>k_is));(case o_ONE=>kernel_rfl);(case o_NOUGHT=>kernel_rfl)
