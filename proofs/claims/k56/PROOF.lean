import PyProof.Rows.All
import Wide.All
import OpenK.AllK
import Wide.FinOn
import Lean
import PyProof.EqAt
import PyProof.EqKinds
import PyProof.TupleCall
import KE.IntBitsLaws
import PyProof.ZipIter
import KE.KRevIter
import PyProof.ListMulRoad
import PyProof.AutoListH
import PyProof.Rows.SeqMore
import PyProof.Rows.SumAny
import PyProof.SliceStr2
import PyProof.WalksMore
import KE.KSortTup
import PyProof.AttrMissHeap
import PyProof.TupleIter
import KE.KDictOf
import PyProof.DictWalks
import PyProof.DictValues
import KE.KDictList
import PyProof.Rows.MinMaxN
import PyProof.Rows.TupDisplay
import PyProof.DictTruth
import PyProof.Rows.SortRev
import PyProof.Rows.CallKwBuiltin
import PyProof.ListRange
import PyProof.EnumMake
import PyProof.Rows.StrJoin2
import KE.LcSums
import PySem.Challenge.RW_earlystop_k56_whole_named_otherwise
set_option Elab.async false
set_option compiler.extract_closed false
set_option linter.all false
set_option maxHeartbeats 0
set_option maxRecDepth 100000
set_option hygiene false
set_option hygiene false
def zU(c:Char):Nat:=if c.isDigit then c.toNat-48 else if c.isLower then c.toNat-87 else c.toNat-29
def zV:Nat->List Char->List Nat
|0,_=>[]
|_,[]=>[]
|n+1,l=>(l.take 11).foldl (fun a c=>62*a+zU c) 0::zV n (l.drop 11)
local macro_rules
|`(#check $s:str)=>do
 let a<-(zV 999 s.getString.toList).mapM fun n=>do
  let i:=Lean.mkIdent (.mkSimple s!"tw{n}")
  `(def $i:ident:=())
 return Lean.mkNullNode (a.toArray.map (·.raw))
set_option hygiene true
namespace PySem.W.Fast
#check "4DMs6ukLHR505ikQayQvXqe4JI5aR8A3b40oRyisQ5GEaJNuTy2yz3LfLqhuhrQZiqccv0jyFG04taUVcflwu9Zb42IT1y4Xg2846eagHdNLc3j9FYf5LyaDRiDyGq36uoZReG80qRkoaOG2qGY0zH8DpFaJj6NsO68SWlnewzAdrJjnj9w04SbwrPD7A8ZyJ4VLdR3qz3fL9r6le3CzabGFwyJ928Pulp57saF7DSUEqk0HWfeDykQkXIjb9gcTv6R1j7BEgfLY30A7ElykcOEvVNHPkK0v5OZifD39E31bkyZCjjYD95MX6prl7khgioUHn8XrUckX2llICM5zn5wCewaOJ9l40jny44XJTiJgMONkfDaxob5C4a9EJiSyTjbKddjfQmp700EidKSYraljhzdKDb6bHg5GHFXy3ol849Rd4duEm2VLgf1QgztbeNyi6aNq3p2Y9J6rTZ1TixHNg3VumFsmzrbn8z1DltL0VhsjkStXa4popdc1Jg2Kafn3t1P1uQU2ina170JVkmYpyok4ZNbcPV1uM03EVqeCHU0mWdvU7hpbCya18kfG91JkWy127ExPjvnmKcl5YqBCobOVbchDTTJGu3eQa3JbnaDC85qdn2LO611fzA7fzsfj9wr5ueF7IstpyFZ9fmUUlN0alVA3iDdGYukZchc7lNdzYbE7z63g9DRNLNXubvFJMwHnWyMjNMUbnSG1EX53gZt6NZctVlliFf77kZ5K3orZpHrhgxpd8OLEeqhU6Q2NIjRLAAQhleAoTnbMO2FSh9gOBVeZu9egpl5mAlooj5fizp9k9faDYeOxpUkZAVl7aTYCgPXhvgYaehA28vo3ar7RLke1jbYmZdAq5cWX3uHi8SwP3zkFxjp9nIxhtCHrHp2IkyX3m8D1fety5pUhFknZ6yaX27gRKgBbMcby7z4OWnhW5mhuZ8fnO7oqcf4627hWhZOAf9ME7LT5xeS1b9N0Z9ezvxfzcxYjxkLtMh7NfXnE08toWQjbnbd1Z6xxDzqXtJcEI5hCFNClT9vz1NRq8PlOcQv84Gw4sHV4bfyrf9N5De23e0AW6J74afpXbtxcibXKfnjS1DHIJqeaj2exmZxglHlMCStXjezq5i5VcozkQUNugDSPRcF1z5nfb6uB7JuQXucNuPadFqeOdlP0UhedyiEYhlztznHQ1L51VtCVRO1AHr5pOLUlhSHZ8ax48CWDxASXgiLZSlcf2ZwhP9BCyvtH3SjE4bh5cyQwY2VGquVxqwLUdBMYqXjxwxTg80QFcu1RkbdsQrUQRtOagkxLUwezpY8HapRvbev1YDq90lTqKgN3sn05kTD2OYksI3bzB6bH4KzR6lFBVSchKHMkwRrTwEreqiiW0JO33QDMk79RsBE1N9800zDlog5XBwOiAtQLAFdhdAkbz0RyPaBbXfoMUvJJTmUT0dy5jb8cM286e9sGz3hBzN8izt0az5nLFj6Acl2DxnAelw0juFQYP5NdPfZUMmKBLghT0mcIodcKQhEeWZkQT7GK1xkPmHKotcqh3o6tZ3n5ozkuNAtFPqLx489GDSz8Nftmid8eomli6JgjK7nQBHPKmPbK4xbDTMbIN4tpToDJR0Wa224UbFiB93y1cPy7KZdcT28dnfFtCBcpg0HEdiCXu80chu1FgbnOtlf03DpqvV6NfabsgI1MLubPufICQMQGp1Tv8uVi8wDRLCBc2TfxUWwEUfeGeO1QzGjeeewP4ABPFJEicG3rBzYtdjJl3B10WPzWKN09kDYQ3USzKcQGEhH55CqVbIDzlKR0XsGjAGx9hsJhTk0plk05PRPoNcYEVg79prkIcphgQvM15vvlcWC1zlFo6QkPLOfwy0pZjbySL3wWJ0Tcb854UYfAFan0DdHd9WYEksbxsCIq4f7nCbeHrjzfDQe475hKNVZjSih9JNvED5QnWb0nBdvtV6K0EjX5OjtgOXx945hOsNrybjPcXHIcRkBE5be4AgWpMJSufdlBfIrxpL9v58LO3hSiB01eoo1ty1VxOb3k7O00SpSk4fPftUyGai4m1WaAEW0iucx4iYvk8hh2GplHeYXH7J3lk9HE3zEMhrsc0QalkMADXlRjUvpfLWrifLjuxAYyNyQwPaUaIQ74yAk97hKbaFkI5G9ijjTJG5Rjyeg1uYlvEMBT61ZQsbvgXAn9kykLYZ78I4a80wXe4ypBxv1B9aJwKdfzijSkglcBRbLtdHhHF80sDAxeeIUNGjKD8YlQ7LxiM2bi37p6goslw10d26CrfaOA93H97ng97uc8rakq9LZmLn8atgIpaaCHiGxt7Q164ZcshGG1NncC6D2CdvfrzmQlNf6wG9T18kzdcAVL29j6wZtboj8dkumV7s4JRS0YYAgWbrvqy8pHsOAK6pzegtUBFZEGIgWlaQU1EnwmKwbgSwQ9vkDNAb10YqUMGR65ap5CgdEi57ngFsUhdelA9cga6XpqFIYBeeTfxn6YMsLua1n1yQcRG0B5sAVWyESiAUj6zAgJB6Mc5eWfckyEh170dQJY3hyRPcgaaNSc6BCNFG25UilvYUe6p2AAAnUZVcys1mPaHnXkh1E4eiugl493BTinEVeJE5q95hawWEDBSOuBk6CFzzVrA7Ij7VPbKiYtoNeq0JNsKjKdIfRNPltFVPYoi5mCTmQ2EChfSefNb3g06Xdx3ciMxCyF25ry28IFf1zv32w9z8DexUd8ez4KduYm5D3yXM6LvhsY4lTmnviRwt3m2VpWmUzyIBLk7jusXtgltf73YmFWxyTYhcaGvYGnhwKHf0iJF7zhyTV2tLmZn7NGW7419IBqNreLi3s2Iwb3mGmU8itlhk2ulbi6dwAHGX65PZ1PcJ4dBQjsI1OyQiEZRnQpe3XbcaaDyPX9Ji4QmnNvLykOurP4eshMibDzrmwE9ZMbjTWVNngpuDi64rhTAEPcgh5sapiJMhjMk5YY1BzYSkRhawKoHuGHwallB4feX3Xsr25CDpGt7UKAT2yDSLubIysV7ToHOOOdn7NdrImE0dCngOlNBcCDdq5imk1hqavEUkA16gaL1yWbDDRfyrgPzv4ZPR78HqgycM88rdavaVBdzOmvbpgVtYDNWtGiYN7hW0LJGfdBxR1aljEYOa2rlZdLX1lulaNowBubWO93tnFgqYEi5qbARX9qVQE5shYopIQOJaDpbrKmfrJhXsM3etX7BYcIE8khwRQajWsOSd8n29rCV2rH6Hl15wUEIeudbSBfpuCa6132yHiqoqKtu2FQCjjKyluoc3YXrQ3kuGR6iwjjxeDylJ7FAfBmsolI02yAkodVmg6k1k8vA0eE1V66Lb5ujfO3Qk3CWwWmFOZWdkOBbcK5TupF06wCBuGAN1ujCllFMhiOCKa462OrxSkeUlpnNNhF36ge9eORkhsIaUS30lKFVt88u1cnfb1E2dyHY0putPrsbRQilCeL20K5NoVjhKtIJEO3XSh68usZ74dft67XFt17cEni62LhUtfoYWt3nFTaDfovsccAcSGgTiRSi6ccKY73ASlaiYttuzRND5Z34LVpYRtcLm"
end PySem.W.Fast
abbrev zs:=Lean.Syntax
def zn(k:Lean.Name)(a:Array zs):zs:=.node .none k a
def zm(k:String)(a:Array zs):zs:=zn (`Lean.Parser.Term++k.toName) a
def za(s:String):zs:=.atom .none s
def zT:Array String:=#["(aaT,H,H')","(aY1F,Int)","(as0,e)","(asome(a.ref$0))","(aaX,F,es$0)","(aYz,_$0)","(aY5k,s)","(asome,x)","(aY5,?_)","(asome,o)","(aY2v,Value)","(asome(a.int$0))","(asome(a.lst$0))","(a.ref,a)","(aiQ,K$0$1$2f,fd)","(asome(a.tup$0))","(aList,cZ)","(agY,X$0$1)","(aY0O,?_)","(abR$0$1(abC$2))","(ajS,K,mg,c)","(aaL,_)","(asome,u)","(aPE,X$0$1)","(aDn,K$0$1)","(aN$0(fF$1))","(>Al(>Hp(aY0u,VK,XK)))","(aY3l(aList,fJ)V)","(aif_pos,rfl)","(alB,Yv)","(aList,α)","(afI,?_)","(asome,v)","(aY1F,Rat)","(=$0false)","(t$0rfl$1)","","","","","","","","","","","","","","","","","","","","","","","","","","","(aYdc,F)","(acE,_)","(aY07,?_)","(aY10,1$0$1$2)","(aaD,0)","(t$0$1?_)","(aaT.refl,_)","(aY0H,_,rfl,_$0)","(abZ,W(fv$0))","(aList,PySem.Str)","(arise,F,M)","(asome,y)","(aaD,2)","(aeval$0X.env)","(a.ref,b)","(aaX,F$0$1)","(asome(a.dT$0))","(aList,Expr)","(t$0$1rfl$2$3)","(aY9b,W$0)","(aps,w)","(aY3l,Str,Ak)","(aeV,f)","(aY5(aY8f$0))","(t$0?_)","(aY28,i)","(~$0sizeLine)","(aY1d$0H')","(abest,c)","(aaD,1)","(>$0(aY1c$1))","(aList,Addr)","(aYc,ys)","(aY8e,es$0)","(>Ae,Rat)","(>Ae,Nat)","(^2,3000)","(aif_neg,e)","(aList,nW)","(agA$0(aaD$1))","(aY2S$0v)","(aH',D)","(>Str,Y98)","(t$0$1$2rfl$3)","(aYc,xs)","(t_$0$1)","(aiW,ws)","(acP,_)","(adA,H$0$1)","(aY3n$0aO)","(trfl$0)","(adecide(=$0$1))","(aaG,_$0)","(^2,4000)","(aArray,Nat)","(=c.length,F)","(amA,F,es,fs,s,c)","(aY3q,_$0)","(=(aInt.gcd$0$1)1)","(aaD,3)","(afU,I,q$0)","(aaV(acH$0))","(afQ,dD,P,w,K,mg,base$0$1$2$3)","(aslots,σ,js)","(aY6M,p)","(aFn$0$1f)","(ah'.get?,b)","(aY0g,kvs)","(aYf,xs)","(aF.oky$0(fvs,H,Q,E,h,?_))","(aY0r,D)","(abS$0f)","(agU,F,W,M,es,fs,s)","(aaD,4)","(>$0Prop)","(aQ(a.ref$0)$1)","(aOption,Int)","(aList,PyData)","(asome,none)","(asome,c)","(aif_pos,e)","(a.ref,l)","(agJ,ts)","(aY0d,e)","(aY0N,1)","(abD,H$0$1)","(gys,i)","(abE$0aS)","(acM(:i,2)$0$1)","(acM(:i,3)$0$1)","(a.int,i)","(=X.calm,true)","(abB,_,rfl)","(to$0$1)","(arul,F,W,M,best)","(>Al(aY5n,VK))","(aps,v)","(abJ,_$0)","(aY1F,Nat)","(t$0$1$2$3rfl$4$5$6)","(aY0N,0)","(asG,F,es)","(aY2h$0(t_(afV.of$1))$2)","(>Nat$0)","(aI.tok,_)","(aY5(avC$0rfl,?_))","(aeQ$0(aaD$1)$2)","(awpAny(amodel,prog,w)A$0Q,E,s)","(ansIn,K,mainGlobals$0)","(aYy(qx$0))","(aoZ,F,W,M,N,B,Ns,es)","(aH',b)","(arv,f)","(aY0u$0Hp)","(aeval$0env)","(acG$0$1(aaD$2))","(adN,K(aaD,0))","(aQ(a.int$0)H)","(<c.sum,M)","(>$0Bool)","(aQ,v,H')","(aY5(aY4j,O$0$1$2))","(astarEach$0X.env)","(amU$0s.heap$1$2)","(ah.get?,b)","(a.ref,p)","(adecide(<$0$1))","(a.ref,x)","(aY8d,1)","(alA,F,g$0)","(aY9e,b)","(aY5t$0_)","(gxs$0)","(acY,X$0σ$1$2)","(aQn,N,B$0)","(aiO,n,p)","(akT(aci$0))","(acM(:i$0)$1(acR$2(aaD$3)$4))","(awpAny_pure,?_)","(aY4G$0$1aS)","(asome,.cell)","(t$0rfl$1$2)","(aY2f(aaD$0)$1)","(aList,Rat)","(acR$0(aaD$1)(aaD$2))","(adA$0(awZ$1)$2)","(aeJ$0us)","(lYd)","(agX,F$0d)","(aY0f$0d)","(agS,ss$0c)","(ta$0$1)","(aupd$0$1(a.lst$2))","(aif_neg(fz$0))","(aabsurd$0cC)","(>$0(aY1c,Shared))","(=ys.length$0)","(aY0Z(aaD$0))","(afX,kvs(aY2c$0))","(aY5p,i,a)","(aY25,c)","(afG,H,H')","(aY1Y(l$0))","(a.ref,s.heap.objs.size)","(aif_neg,Dd)","(aif_neg,q)","(a.inr(t$0$1))","(aYai$0(asome$1))","(acG$0(aaD$1)(aaD$2))","(aY1P,St)","(adA,H'(aiG$0)$1)","(aY62$0(ast$1$2$3)$4$5)","(aY1F,Y0y)","(awJ,?_)","(aY3p,_,rfl,_,_,rfl$0)","(aY3l,fJ,V)","(t$0Oo)","(aY5m$0_$1)","(acT$0(+1$1))","(aY5p,o,a)","(amX,F,es,fs,s,c,0)","(-M,c.sum)","(adA,H(aiG$0)$1)","(t$0$1$2?_)","(abS,c,j)","(acY,X,pins,σ$0$1)","(asome,.local)","(aif_neg(fq$0))","(aaN.mpr(aY3q$0$1))","(=us.length$0)","(aeP$0(a.ref$1)$2)","(afD(aY2f$0$1))","(ajB(ajA$0))","(aY5l,_)","(akP$0$1(aaD$2)$3)","(aY1Y,es)","(>α,Rat)","(acT,mix$0)","(aY3,p)","(aY6R,i)","(aQ(a.bl$0)H)","(adA,H(aDX,fs,ws)$0)","(abQ,bO$0$1)","(aGl,X,x)","(afV$0$1$2xs)","(aY10,2$0$1$2)","(aY10,3$0$1$2)","(aList(x$0$1))","(awpAny_bind(awpAny_pure$0))","(abQ,bO(aaD$0)$1)","(astarEach$0env)","(t$0$1$2rfl$3$4$5)","(t$0$1rfl)","(f_,0)","(aif_neg,Oo)","(aList,Env)","(aY3l,Str,Addr)","(AD,ys,H'(>$0$1))","(acW$0(fc$1))","(ajU(:i$0)$1rfl(aOr.inr,rfl)$2)","(aY3l,κ,V)","(t_$0)","(afF.i(:n$0)$1Dd,Kk$2)","(aaK$0Dd)","(aeW,n,lt$0$1)","(afH,y,u)","(gX.N,i)","(aY5t$0s)","(aY4f,a$0)","(aeC,n(fi$0))","(alM,M,cs$0)","(aMd.rho$0b,R,i$1)","(afW,H,p,L$0)","(aY1p(aaD$0))","(+X.A.units$0)","(a.Tuple$0$1pt)","(aFS$0scope$1$2$3$4$5$6$7)","(aY7z$0Y9)","(e$0Y0a)","(aY3o,es)","(a.Name,x,px)","(aY3l,Fr,Nat)","(awsum$0$1$2ts$3$4)","(aMd.dot,n(aR$0)a)","(aaB,Oo)","(aY3,a)","(aY8o,H)","(=(aX.env.cells.lookup,x)Y1h)","(aY1Y(#e,es))","(afH,v,u)","(aY13,N,B)","(aIW,X,scope,C,fp,s₀,H₀,N')","(arho,n,b,R$0k)","(apC,X,pins$0b)","(acW,l,f)","(avV,X(acompareOp$0)$1)","(ak$0_,Y4I$1)","(ajC$0H$1xs)","(aaT.upd(:o(a.tup$0))$1)","(aaX$0(aes.take$1)$2)","(a.inl(t$0$1))","(asome(aY3$0))","(e$0(aes.map$1))","(aupd,H$0$1)","(-xs.length$0)","(a.Call(a.Name$0$1)$2$3pos)","(aPZ,Yv)","(ajR$0$1$2$3?_)","(alexp,m$0)","(aList,fJ)","(abZ$0(fi$1))","(a.ListComp,elt$0scope,pos)","(aiJ$0$1(aaK$2$3))","(aYao,F$0)","(aY2O,?_)","(a.int$0t)","(~c.sum$0)","(aY8h$0xs)","(acG$0(aaD$1)aO)","(aY3l,Str,V)","(aY9e,c)","(a.Name,y,py)","(aY8v,k)","(aY2o,c)","(atR$0$1$2bs,mix,cs$3)","(%Y2,0)","(amg_none_of,X,G$0)","(t$0iter,ifs,0)","(aeG,X,scope$0N',js)","(aPm,F,g,g')","(abE$0(abE$1$2))","(<$0s.heap.objs.size)","(a.inl,rfl)","(%$0X.env.locals)","(awpAny_bind,?_)","(aY0q,xs.length)","(alI$0(a.builtin$1)$2)","(aaJ,Dd$0)","(=vs.length$0)","(avU,4000$0)","(apure,false)","(~xs.length$0)","(~$0xs.length)","(acM(:i,4)$0$1)","(aif_pos,Oo)","(=$0xs.length)","(aif_pos,h)","(ajQ,kvs$0$1)","(a.ref,it)","(aeC$0(fj$1))","(aR.len,e$0)","(aY8i,_,rfl$0rfl$1)","(adA$0(atK$1)$2)","(aY0H$0$1rfl$2)","(aY8i,_$0rfl$1$2)","(aY9f$0$1s)","(t_(aaB$0))","(aiX$0X.A)","(aY2Z,H'$0)","(aaK$0(aY4N,Dd))","(aY6e$0rfl$1(t$2(afV.of$3))$4)","(fσ2,H2(atb$0σ2,H2))","(aY6p$0aO)","(lY21)","(aInt.mul_ediv_cancel_left,_,Oo)","(aY9j,i)","(aY19,c)","(afW,H',p,L$0)","(agS,ss$0)","(ans.map,V.int)","(aY2Z,H$0)","(t$0rfl)","(t$0$1rfl$2)","(aY0u,Hp$0)","(acodeAny(amodel$0$1)$2$3$4$5)","(adot,n(aR$0)$1)","(avV$0(abinaryOp$1)$2)","(afield(a.ref$0)$1)","(aOption,Addr)","(awpAny,_,_$0_,_$1)","(=xs.length$0)","(abD$0(afs.map$1)$2)","(asome(a.dK$0))","(aVN$0(:c(aci$1))$2$3$4)","(aMF$0(:c(aci$1))$2$3$4)","(aList,Stmt)","(aGW,Y2N)","(aif_pos,q)","(aif_neg,h)","(=A.handled,none)","(=(aSeqAt.shaped$0)true)","(alvl$0best$1)","(aworz$0$1$2ss,mix$3$4cs$5)","(a.ref,d)","(a.int,n)","(a.int,m)","(amB$0es,fs$1)","(aY2m,xs)","(aY3p$0$1rfl$2rfl$3)","(aYh$0ta)","(<x.natAbs$0)","(fσ,H,Q(at,σ$0$1))","(axH$0(adB$1)?_)","(t$0rfl$1rfl$2$3$4rfl$5)","(agC$0$1$2(agS,ss)Y6J(acT,cs))","(aI.hok.fresh(aaL,_))","(aoI,W,best)","(aY4P,f)","(acO,_,this)","(gus,i)","(#b,rest)","(aNat.le_mul_of_pos_left,_$0)","(ap.getD$00)","(aNat.two_pow_pos,_)","(adet$0(ast$1$2$3))","(aaR$0(aY4N$1))","(fb,o,e(aaG$0$1))","(a.Assign$0$1pos)","(aOption,Rat)","(a.ok(a.ret$0))","(~ns.length$0)","(aIntsAre$0ns)","(ajE$0$1$2$3(aY3L$4))","(adB(:j,0)$0)","(aY10$0$1a00$2)","(agH,PassesOwn.never,rfl$0$1(aaV$2))","(t$0$1$2rfl$3$4)","(aY3l$0Value)","(aY05$0(aY0Z$1))","(adC(fe,_$0))","(ajM,Yak$0)","(azZ$0Y0s)","(ac.getD$00)","(alt(aY60$0)(aY60$1))","(afV$0$1$2Y5j)","(afK$0(aY2c$1)$2)","(aY0O,rfl)","(abQ(afA,K)(aaD$0)$1)","(aYeW$0Y30)","(aqK$0$1(aY5K$2$3))","(aYdd,cV$0Kk(aY1p(aY7r$1$2$3$4)))","(p(avs.map,some)Y11)","(asome,j)","(asome,f)","(aX.mg,x)","(aList.ext_getElem?(fi,?_))","(acG,fS$0$1)","(fh(aabsurd$0Oo))","(aYn$0ta)","(aiR$0(aY0Z$1)fR)","(awpAny_bind(awpAny_field$0rfl(:x$1)rfl,?_))","(t$0rfl$1$2rfl$3$4)","(aY1B$0rfl$1$2$3$4$5)","(afG,H1,H2)","(aPySem.W.findIn$0(a.ref$1)$2)","(aaT.upd(:o(a.dT$0))$1)","(aY3l,Str,NameKind)","(acT,mix)","(aValue.ref,a)","(+xs.length$0)","(aaW$0H,H')","(=(aX.env.kindOf$0)$1)","(afL,rfl,T.b_range(aY3L$0))","(=fs.length$0)","(aabsurd$0Dd)","(aPv$0σ,H)","(aY0J(aY0Z$0)$1)","(adJ,Y1S)","(fd,?_)","(amW,Y04$0)","(afoldedSetIterable,iter,X.env$0)","(aY7w,.And$0)","(aY6c$0$1(aeN$2))","(aaC.mp,a)","(aaN.mp,h)","(abL.mp,a)","(acF(fq$0))","(aY4p(aV(aY19$0)))","(aY55$0(aEP$1pins$2$3))","(+A.units$0)","(aqK,F,M,best)","(amg_of,X$0$1)","(aList,V)","(asome,t)","(asome,a)","(asome,e)","(asome,_)","(asome,n)","(apure,x)","(aYf,ys)","(aY7s,items.size,hi)","(aY9J,vs)","(asome(a.ins,C,dx,fs))","(Em(aW$0$1$2$3))","(aO.no,_$0)","(aBOk,10$0)","(alkN,Dd$0)","(aY4a$0hl)","(aY4c(afV.of$0)(fl,hl,?_))","(acG,eZ(aaD$0)$1)","(awpAny_bind(awpAny_seqItems$0$1$2))","(aeI(adG.o$0$1)$2YbM(f_,_,_,_$3))","(akN,items.size$0$1)","(awpAny(amodel,X.prog,X.w)$0$1$2$3$4)","(acongrArg,List.length$0)","(aY7t,X.A$0$1$2$3)","(a.BoolOp$0$1pos)","(f_,_,_,False)","(a.Subscript$0$1pos)","(=(ah'.get?$0)$1)","(abP(:g,Y3r)$0)","(asome(a.own$0))","(fe,a,?_)","(aY99$0(a.lst$1))","(aif_neg,h2)","(aYy(q$0sysModules))","(afL,rfl,T.b_range(aY1p$0))","(aY0Q(aY0Q$0))","(aQn.zero,_$0)","(aY63$0Dd)","(aY0f(aY9m$0)$1)","(akE(aeG.o$0$1$2)$3YbM(f_,_,_,_$4))","(aY6d$0(aY9h$1$2)$3)","(acT$0c.sum)","(ad.getD$00)","(abP(fw,_$0))","(aY0u$0Heap)","(aaI$0(aY7J$1))","(agQ$0Y0t$1)","(aY2K(afZ$0)$1)","(aYh(aY4h$0$1$2$3)$4)","(aY5G$0$1$2$3$4Y00)","(aI.cell$0c$1)","(aaC.mp,r)","(a.Name,x,pos)","(~$0100000)","(aYbO$0Y30)","(>$0PyData)","(e$0Y76)","(asome,z)","(aX.fn,x)","(aY1c,Ae)","(a.Name,x1,p1)","(a.Name,x2,p2)","(aY56,Oo)","(aKV,kvs,vs)","(aJ.yld,i$0$1$2)","(aY2R$0(aY4c(afV.of$1)$2))","(aJ.go,i$0)","(+s.heap.objs.size$0)","(acW$0(fe$1))","(ajK$0rfl,?_)","(~X.s₀.heap.objs.size$0)","(asome(azW$0$1))","(t$0$1rfl$2$3$4)","(fi,σ,H',_,q,?_)","(asc.names.lookup,x)","(f_,_,_,_,_,h,h)","(~kvs.length$0)","(asome(a.builtin$0))","(aD.nx,σ$0)","(as.TypeIs(a.ref$0)$1)","(aList(aOption$0))","(awpAny_callSpecial?_slot(:name(aStr.ofString$0))$1$2(awpAny_call_entry$3$4$5$6$7))","(akeepIn$0(a.ref$1))","(a.Constant$0$1pos)","(fi,j(a.int$0))","(afX,kvs$0)","(asome(a.str$0$1))","(aI.ok.hd,hc)","(aabsurd,rfl$0)","(aMd.det$0(ast$1$2$3))","(aY4f$0(a.tup$1))","(aif_pos,h2)","(aSem,Value)","(acR,FQ6(aaD$0)aO)","(aY4f$0(a.dT$1))","(aY4X(aY2c$0)$1)","(<$0fs.length)","(aIsEnum$0$1$2$3old)","(aupd$0$1(a.ins$2$3$4))","(a.inr,rfl)","(ae,z.symm)","(adA.int,_)","(aY1F(aY1F,Bool))","(aDM$0scope)","(=d.length$0)","(aaN.mp,g)","(afV.of,h)","(aY6y$0(aY8D$1))","(amodel,X.prog,X.w)","(>Y1e(aY5n,VK))","(aY1P,V)","(aI.pin,p$0)","(abZ$0(fj$1))","(aY07(aY8f$0))","(aY07(avC$0rfl,?_))","(aY5m$0Y1u,rfl)","(asome(t$0$1(a.func$2)$3))","(aY4k(fi$0))","(a.Call(aYde$0apos)$1$2$3)","(acR,FQ62$0$1)","(aoI$0best$1)","(asome,m)","(a.ref,t)","(aY0g,kb)","(aOption,Value)","(aupd$0s.heap.objs.size$1)","(f_,_,_,_,_,r,r)","(abZ$0(fw$1))","(aPyProof.Rows.callWith_type1(athn$0$1)$2$3)","(awpAny_bind(awpAny_setField_rec$0$1$2))","(aYai$0Y9)","(aY7v$0$1X.xe$2)","(awpAny_bind(awpAny_rule$0))","(adH(:i$0)$1rfl(aOr.inl,rfl))","(awpAny_bind(awpAny_mono$0$1$2))","(<$0xs.length)","(aPySem.W.keepIn$0(a.ref$1))","(awpAny_passesOwn$0(athn$1$2))","(al.map(aoI$0best))","(aI.turned(:t',s.toks)$0$1$2$3$4$5)","(awpAny_mono$0$1(f_,_,f$2))","(aPySem.W.isFn$0(a.ref$1))","(ascope.names.all(fy$0))","(aNat.le_add_right,_$0)","(t(aStr.ofString$0)$1$2)","(aLoc,X.env.scope$0)","(abootBuiltins,x)","(aY6G$0c_Weighing$1)","(aPaired(fc,y$0)$1$2)","(e$0scope.names)","(fy,a,e,?_)","(=ns.length$0)","(aArray,Y98)","(f_,_,q,q)","(ad.map,V.int)","(aY6G$0c_Master$1)","(asome(a.frz$0$1))","(a.bool,true)","(a.Tuple,elts$0$1)","(f_,none)","(aY2v,Result)","(aY1n,ds$0)","(aY0P,t.word(aStr.ofString$0))","(aYbN(a.str$0)$1Y37)","(aYc,Y5j)","(aYeX$0(asome$1)pos.line)","(aY3l,Str,Value)","(aY6a$0$1T.b_len$2$3)","(alI$0(a.type$1)$2)","(&(Aσ',H'$0)(Ax,H'$1))","(aInt.gcd$0d)","(adA.tup$0(abD.cons$1(abD.cons$2bD.nil)))","(Ai,y,H1,H2(>$0$1))","(aGW,Yv)","(aY0f$0(aY25$1))","(aI.freeC$0c$1)","(aCall_(arQ$0$1$2$3$4))","(aY0Z(afD$0))","(aY0J$0(fv,q$1))","(q$0.cell)","(<$0l.length)","(tDd$0)","(-e.length$0)","(=(akvs.any$0)$1)","(aList,β)","(aaN.mp,d)","(adens,cs)","(aY3l(aList,fJ)(xAddr,Value))","(aY1F,Y2J)","(aY1F,Y8U)","(aY2v,Y98)","(acW$0(fx$1))","(gitems$0)","(fz(ae$0))","(akM$0$1$2RO.b2)","(aY0u,Nat$0)","(=(as.heap.get?$0)$1)","(aBuiltin.SmallTypes.nextOf(a.ref$0))","(aS.cells,I.ok)","(awpAny_bind(awpAny_attempt$0))","(aAround.under_plainId$0_)","(aI1.fpOk$0(aI1.hok.fresh$1))","(abZ$0(ff$1))","(aY1d,s.heap.objs.size$0)","(AC,fp,s₀,H₀(agY$0$1$2))","(AC,fp,s₀,H₀(aMC$0$1$2))","(amV$0$1$2Nat.one_le_two_pow)","(aHeap.SameBut$0s.heap$1)","(q(ascope.names.lookup$0)$1)","(acodeAny_builtin$0?_)","(aPySem.W.plainGet,K$0$1)","(f_,_,a,a.elim)","(f_,_,e,e)","(aList.replicate,W$0)","(adH(:i$0)$1$2(aOr.inr$3))","(fi,σ,H'(aEx2$0))","(acall(a.builtin$0)$1)","(aHT.kN,xs.length$0$1)","(awpAny_pure(aYf0$0))","(ats.set,o$0)","(atupleKind(agD$0$1))","(a.ref,c.NOUGHT)","(aY4O,ps.length)","(qapos.endLine,cpos.line)","(aHeap.SameBut,e$0$1)","(aIsZip$0$1$2$3.ellipsis)","(amin,xs.length,ys.length)","(abD.ofRange,Oo$0)","(aY05(fi,m,σ,H$0)$1)","(acongrArg$0(acU$1))","(aFalse.elim,a)","(akvs.map(fkv$0))","(aiO,vs.length$0)","(a.call(a.ref$0)$1)","(aK.In,s.heap)","(a.inr(a.inl$0))","(aYf(ak.map$0))","(asome,Yw)","(<$0sizeLine)","(aB.getD$0.non)","(acK$0(abT.mpr$1))","(aenvOfC,qual$0s.heap.objs.size$1$2)","(aK,w.params)","(fi,d,?_)","(akK(fi,y,H'$0)$1$2$3$4)","(ajI.i$0(azM.of$1)$2$3)","(~fs.length$0)","(a.cons$0.nil)","(aif_pos,Dd)","(aif_neg,h1)","(aPaired(aVO$0$1)$2$3)","(~$0es.length)","(aps.zip,us)","(ane,z.symm)","(afs.take,i)","(fon,?_)","(aPaired$0$1kvs)","(a.Tuple$0$1pt2)","(acM(:i,1)$0$1)","(aY1J(apyNext(a.ref$0)))","(axs.getD$00)","(aY3z(ajC.of$0))","(a.Compare,a$0$1$2)","(aBindsTo$0fd$1$2)","(aj.extBut,_$0$1$2)","(aMD,vs.length(aQR,cs))","(aEG(aQR,cs)$0vs.length)","(aEM(asome$0)$1)","(akZ,false,false,rfl,T.b_zip(aY2i$0$1))","(aiT(aiV,Y01$0)Y01$1)","(a.bl,true)","(aY1P,Bool)","(a.Name,x,pos')","(aY2v,Unit)","(aY8m,1000)","(aQ,.non,H')","(fc(aPyData.tuple(ac.map,.int)))","(ayR,YbW,YbW)","(fσ,H,Q(ata$0$1(fx,H1$2)))","(aY3C(fr$0)$1)","(astart$0vs)","(a.dict,es$0)","(aDH,I.hok$0)","(aDF,I.hok$0)","(acW,l(fa$0))","(an.getD$00)","(asC,X.prog$0$1$2)","(aIsPair$0TO$1$2)","(f_,_,_,_,cS)","(agP(:v$0)rfl$1$2)","(=(ascope.names.lookup$0)$1)","(awpAny_bind(awpAny_bind$0))","(aInt.pos_of_mul_pos_right,this$0)","(aNat.mul_le_mul$0(aNat.le_of_lt$1))","(abootBuiltins(aStr.ofString$0))","(awpAny_bind(awpAny_holding$0))","(aList.getElem?_set_ne(fz$0))","(adO(:xs$0)$1Y9a$2$3$4$5)","(fe,?_)","(atupleKind_room_in1,hu)","(acl,s3.heap.objs.size)","(as.heap.IsTupleIter,it$0$1)","(ac.map,V.int)","(abase.Ns,mainGlobals$0)","(aPySem.W.hasDictIn,K$0)","(aInt.gcd_dvd_right$0d)","(%$0s.heap.objs.size)","(aA.under(a.builtin$0$1))","(asome(aValue.type$0))","(aYy(abehindInMarks$0$1))","(aArray,DictEntry)","(aAllBare,s'.gens)","(aValue.ref,Y24)","(aRat.le_trans$0?_)","(aNat.succ_pos,_)","(aY0q,kvs.length)","(abD.cons$0bD.nil)","(aX.base.get?,b)","(f_,_,False)","(aPassesOwn$0$1X.env$2)","(f_,_,q(aY0Q$0))","(aRat.mul_pos$0a)","(=(aenv.cells.lookup$0)$1)","(aA.deeper(aYb1$0$1$2))","(aσ.set$0Yw)","(t$0(fx,H3,y$1))","(asome(aseqObj$0$1$2))","(aassign$0X.env)","(aNU,xs.length$0)","(aG.getD,c.sum$0)","(afs.lookup,f)","(fd,hd,?_)","(aε.flat$0(adX$1))","(aY1n(aas.map$0)$1)","(aY1n(acs.map$0)$1)","(a.inl(a.inl$0))","(fσ,H,R(ata$0$1$2))","(amH(afs.zip$0))","(aIsTup,s.heap$0$1)","(aaK,I.ok.bsz$0)","(asJ$0(aδ.mono$1)$2)","(abD.flat$0(alX$1)$2)","(art.flat$0(alL$1$2))","(=(as₁.heap.get?$0)$1)","(aOption,Nat)","(a.ref,c.ONE)","(aI.base.free,b$0$1$2$3)","(aK.lookup,a)","(fe,i,?_)","(afF.i(:n$0)$1Oo$2$3)","(areprText,s)","(aY1T,ns.sum)","(aYf,Yc0)","(akH(:n,n)$0)","(aA.rl.len,e$0)","(%t.word(aStr.ofString$0))","(aif_pos,h1)","(aif_pos,is)","(f_,q,q)","(afs.map,rv)","(aes.take,n)","(aaW.self(:p$0)(:H$1)(:o(a.ins,c.Master$2$3)))","(adO(:xs$0)(fj,y,H'$1)$2$3$4(fj,x,H',Q',r,O,U$5)$6)","(e$0(afs.map$1))","(agL(fk,_$0)$1)","(adO(fi,y,H'$0)$1$2$3$4$5)","(aYbV$0(fi,y,_$1)$2$3$4$5)","(=cs.length$0)","(=bs.length$0)","(Ec(=(aX.env.cells.lookup$0)Y1h))","(fj(aY3V$0))","(avalueAt$0k)","(acs.getD,i$0)","(ays.getD,i$0)","(akR(:xs$0)$1$2$3?_$4)","(aL.mx.at,f$0)","(aList.replicate$00)","(aiF$0$1T.b_tuple$2$3)","(a.Attribute,o$0$1)","(aX.s₀.heap.get?,s.heap.objs.size)","(awpAny_typeNameOfWhole_keyiter$0?_)","(aRat.le_of_lt(aRat.inv_pos.mpr$0))","(aList.of_mem_zip(:a$0)(:b$1)d)","(awpAny_bind(awpAny_standAt$0))","(avs.toArray.zip,vs.toArray)","(aList.toArray(aList.range$0))","(aNat.le_mul_of_pos_right,_$0)","(awpAny_bind(awpAny_letGo$0))","(awpAny_isOneOf_keyiter$0?_)","(a.ref,c.heap.objs.size)","(auO(:xs$0)(:ys$1)(fi,σ,H'$2)$3$4$5$6)","(acall_meetsIn,PySem.F.slot_dict_get$0PySem.F.entry_dict_get$1$2$3)","(awpAny_bind(:m(aBuiltin.Tuple.tupleExact$0))(awpAny_newObj_type$1$2))","(ascope.names.filter(fy$0))","(aI1.kept(:t',d.toks)$0)","(aI.hok.fresh(aaL,s.heap.objs.size))","(afW.like(:p$0)(:L$1)(fi$2))","(fb,o,e,n,O,hx,?_)","(aswapsWithSole$0$1pos.line$2)","(as.heap.IsSliceOf$0$1$2.none)","(aYbP(awpAny_onRaise$0))","(qX.env.scope.kind$0)","(aPySem.W.plainOver,K$0)","(awpAny_mono$0$1(f_,_,x$2))","(aswappedStores$0$1X.env)","(ans.map,PyData.int)","(avs.getD$0Value.none)","(aF.oky$0(fO,H,Q,E,h$1))","(awpAny_loadPart',j)","(awpAny_loadPart',m)","(%s.heap.objs.size$0)","(aPySem.W.instObj,C$0)","(aPySem.W.makesIn,K$0)","(aHeap.ExtBut$0s.heap$1)","(aInt.emod_nonneg,_$0)","(aOption,NameKind)","(+c.heap.objs.size$0)","(ah.Ns,mainGlobals$0)","(axD$0$1(fC,fp,s₀,H₀$2)(fC,fp,s₀,H₀$3)$4$5)","(aI.tuple(ajC.of$0))","(adU$0(aNat.pow_pos$1))","(aw.toList.map(fi$0))","(=(aX.s₀.heap.get?$0)$1)","(aVis,X.env.scope$0)","(aPySem.W.codeIn,K$0$1)","(asubscripted$0false$1$2)","(aQn.sumR(:n,W)$0)","(fi,σ,H'(aEx3$0))","(aY3O$0$1$2s3.heap.objs.size$3$4$5$6)","(aYaY,kvs.length)","(abD.snoc$0(adA.flat$1$2$3))","(acongrArg,V.int$0)","(a.Subscript$0$1pos')","(fx,H',y,?_)","(aaI(:m,100000)$0$1)","(aaT.thru$0$1aW.self)","(aY0q,ys.length)","(aY5u,ys.length)","(aY6L,zs.length)","(aY9z,ms.length)","(aY6R,xs.length)","(aabsurd(abT.mp$0)$1)","(fi,H(Exs,x$0))","(q$0items.size)","(awpAny_mono$0$1Yay)","(acongrArg,some$0)","(fb,z(aabsurd$0$1))","(aHT.kN,d.length$0$1)","(axs.map,V.int)","(aPyData.eqv$0d')","(fb,a,h(as.at$0$1))","(acM(:i$0)uV.nd$1)","(aYbN$0T.g_NOUGHT$1)","(asome(aV.int$0))","(awpAny_bind(aAX$0$1$2$3))","(afV.of(ab'.at$0$1))","(a.done(a.ret$0))","(aMd.gL(fk,_$0)$1)","(aY0Y(acongrArg$0$1))","(abP(:g$0)(fw,_$1))","(aOption,Expr)","(aI.base.there,b$0$1$2)","(f_,false)","(aa.map,V.int)","(arsT(:ns$0)$1?_)","(alQ,c.Master)","(aY9L$0T.g_RULE)","(a.inr(a.inr$0))","(asome(a.tbl$0))","(aZ.sl.uz$0(aaF$1))","(fx,H1(Ea$0))","(=$0(aStr.ofString$1))","(fq(aabsurd$0$1))","(asome,.free)","(<$0h.objs.size)","(abackTo,cpos$0)","(fσ,H,Q(awi$0$1$2))","(aK.lookup,f)","(fi,j(a.bl$0))","(fa,e,?_)","(fw,hw(awA$0))","(aF'.less,Oo)","(aγ.mono,Dd)","(aaW.self(:p$0)(:H$1)(:o(a.ins,c.Weighing$2$3)))","(=(aX.env.scope.names.lookup$0)$1)","(aswapsWith$0$1$2X.env)","(aBuiltin.SmallTypes.ownedTupleIsFree(a.ref$0))","(aI.laid(:a,s.heap.objs.size)(:o$0)(:h'$1)(:t'$2)$3$4$5)","(aY5(awpAny_pure$0))","(awpAny_isInstance(:T$0)(:b$1)$2isSubtype_stop$3)","(aInt.ediv_nonneg$0(aInt.natCast_nonneg$1))","(awpAny_bind(awpAny_updateSeq_pair$0$1))","(aRat.le_of_mul_le_mul_right(:c$0)$1j)","(aList.toArray(ap.toList.map$0))","(aPySem.F.args_tuple_add_2,_$0)","(awpAny_bind(awpAny_typeOf$0$1))","(aPySem.W.plainGet_of,hg)","(aCalls.spliced_cons(athn$0$1))","(aBZ(:F,F)(:M$0)(:best$1))","(aNat.lt_of_succ_lt,this)","(arZ,PySem.F.plainAttrs_list,PySem.F.slot_list_extend,PySem.F.type_list_extend$0$1$2)","(as.heap.FunFrames,X.base$0)","(aI.mod.glob.keeps,I.bk)","(awpAny_bind(awpAny_load$0$1))","(asE.some_of(:v,v)(:o$0)$1)","(aInt.emod_nonneg$0(:b$1)Oo)","(aNat.one_lt_two_pow,Dd)","(awpAny_bind(aseqEpoch_at$0$1$2))","(aI.laid(:t',s.toks)(:o$0)$1$2$3)","(aI.turnedL(:t',s.toks)$0$1)","(fc(adecide$0))","(aNat.pos_of_ne_zero(fz$0))","(aI1.hok.fresh,Yl)","(aNat.pow_pos,I.mz.s1)","(awpAny_newObj_type,?_$0)","(aaFN$0$1$2$3(fv,u,g,x,y,H2,I2,d,e,q$4))","(aaFc(f_,_,_,_,_,_,_,q$0))","(aInt.emod_lt_of_pos,_$0)","(aeE(:l$0)(:j$1)(:a$2)Oo)","(aY7z,s.heap.objs.size$0)","(ld.heap.objs.size)","(aNat.lt_succ_self,_)","(awpAny_dictEntries,hod$0$1)","(aPyData.depthAll,ds)","(fj,σ,H',_,q,?_)","(aList.replicate$0none)","(AC,fp,s₀,H₀(aPTs$0$1$2))","(aI.write(:x$0)(:e$1)$2Y4I$3$4$5)","(aget?_update_seq$0(f_$1))","(aI1.laid(:t'$0)$1Yl$2)","(AC,fp,s₀,H₀(aPE$0$1$2))","(aInt.gcd_dvd_left$0d)","(awpAny_holding,?_)","(atypeLookup(a.type$0)$1)","(ff,vs(aPySem.call$0$1))","(awpAny_dictEpoch,hod$0$1)","(aF.oky$0(fZ,H,Q,E,h$1))","(fe,H,Q,E,h,?_)","(f_,_,_,h(aqV.same$0$1))","(~s.heap.objs.size$0)","(+s1.heap.objs.size$0)","(aInt.mul_pos,h.pos$0)","(awpAny_execs_nil(t$0$1$2$3))","(as.heap.push(aitO$0$1))","(aHeap.get?_update_ne,_$0$1$2$3)","(acI$0(aRat.le_of_lt$1))","(=$0d.heap.objs.size)","(fx,y,H,Q(Ei,j$0))","(a.tuple(afs.map$0))","(atE(:n$0)(:d,d))","(aAS(:n$0)(:g$1)(fi,a$2))","(al2.filter(aYfm$0))","(aYbN$0T.g_LOOKS_ON,Y37)","(aNat.ne_of_gt,N)","(aaT.upd(:o(a.lst$0))$1)","(agR(:c$0)(:j$1)Oo)","(aI.tg(:W$0)(aY3B$1))","(=scope.kind,.function)","(aseqIndex_neg,Oo$0)","(aoperate$0(agetItem$1$2))","(aplainId_quiet$0_)","(adA.tup$0(abD.ofIdx$1$2))","(fi,σ,H'(aEx1$0))","(aNat.pow_lt_pow_right,Dd$0)"]
def zK:List (Char × String × String):=[('x',"«term_×_»","×"),('>',"Lean.Parser.Term.arrow","->"),('=',"«term_=_»","="),('|',"«term_∨_»","\\/"),('&',"«term_∧_»","/\\"),('q',"«term_==_»","=="),('p',"«term_++_»","++"),('%',"«term_≠_»","≠"),('<',"«term_<_»","<"),('~',"«term_≤_»","<="),('e',"«term_∈_»","∈"),('#',"«term_::_»","::"),('+',"«term_+_»","+"),('*',"«term_*_»","*"),('-',"«term_-_»","-"),('^',"«term_^_»","^"),('/',"«term_/_»","/")]
def zW(c:Char):Bool:=c.isAlphanum||c.val>127||"_.'!?".contains c
def zI(s:String):zs:=if s=="_" then zm "hole" #[za "_"] else if s=="?_" then zm "syntheticHole" #[za "?",za "_"] else if s=="Prop" then zm "prop" #[za s] else if s.front=='.' then zm "dotIdent" #[za ".",Lean.mkIdent (s.drop 1).toString.toName] else if s.front.isDigit then Lean.Syntax.mkNumLit s else Lean.mkIdent s.toName
def zS(x:Array zs):zs:=zn `null ((x.foldl (fun a y=>(a.push y).push (za ",")) #[]).pop)
def zB(o:Char)(b:Array zs):zs:=
 let l:=zn `null b.pop
 match o with
 |'a'=>zm "app" #[b[0]!,zn `null (b.extract 1 b.size)]
 |'t'=>zm "anonymousCtor" #[za "⟨",zS b,za "⟩"]
 |'l'=>zn `«term[_]» #[za "[",zS b,za "]"]
 |'g'=>zn `«term__[_]_?» #[b[0]!,zn `group #[],za "[",b[1]!,za "]",zn `group #[],za "?"]
 |':'=>zm "namedArgument" #[za "(",b[0]!,za ":=",b[1]!,za ")"]
 |'f'=>zm "fun" #[za "fun",zm "basicFun" #[l,zn `null #[],za "=>",b.back!]]
 |'A'=>zm "forall" #[za "∀",l,zn `null #[],za ",",b.back!]
 |'E'=>zn `«term∃_,_» #[za "∃",zn `Lean.explicitBinders #[zn `Lean.unbracketedExplicitBinders #[zn `null (b.pop.map fun x=>zn `Lean.binderIdent #[x]),zn `null #[]]],za ",",b.back!]
 |_=>match zK.find? (·.1==o) with
 |some (_,k,s)=>zn k.toName #[b[0]!,za s,b[1]!]
 |none=>.missing
def zL(x:Array zs):Nat->List Char->Array zs->Array zs × List Char
|0,r,a=>(a,r)
|_,[],a=>(a,[])
|n+1,c::r,a=>
 if c==')' then(a,r)
 else if c==',' then zL x n r a
 else if c=='$' then zL x n r.tail (a.push (x[r.head!.toNat-48]!))
 else if c=='(' then
  let (b,q):=zL x n r.tail #[]
  zL x n q (a.push (zB r.head! b))
 else
  let w:=(c::r).takeWhile zW
  zL x n ((c::r).drop w.length) (a.push (zI (String.ofList w)))
def zX(f:zs)(x:Array zs):Lean.MacroM zs:=
 let s:=f.getId.toString.toList
 let d:=fun c:Char=>if c.isDigit then c.toNat-48 else if c.isLower then c.toNat-87 else c.toNat-29
 let i:=match s with |['Y',a]=>d a |['Y',a,b]=>62+62*d a+d b |_=>99999
 if i<zT.size&&zT[i]!!="" then return (zL x 999 zT[i]!.toList #[]).1[0]! else Lean.Macro.throwUnsupported
local macro_rules
|`($f:ident $x*)=>zX f x
|`($f:ident)=>zX f #[]
set_option hygiene true
def Oo{p:Prop}(h:p:=by first|lia|omega):p:=h
def Dd{p:Prop}(h:p:=by decide):p:=h
def Kk{p:Prop}(h:p:=by decide +kernel):p:=h
abbrev Aa:=PySem.W.Frag
abbrev Ab:=List (List Nat)
abbrev Ac:=List (List Int)
abbrev Ad:=Y3l PySem.Addr PySem.Obj
abbrev Ae:=List Nat
abbrev Af:=List Int
abbrev Ag:=List PySem.Value
abbrev Ah:=Y09
abbrev Ai:=Array PySem.Value
namespace PySem
abbrev aA:=@List.length_map
abbrev aB:=@List.getElem?_eq_getElem
abbrev aC:=@List.getElem?_eq_some_iff
abbrev aE:=@List.getElem?_map
abbrev aF:=@List.mem_of_getElem?
abbrev aG:=@Heap.get?_push_of_some
abbrev aI:=@Nat.lt_of_le_of_lt
abbrev aJ:=@Nat.pow_le_pow_right
abbrev aK:=@Nat.le_trans
abbrev aL:=@Nat.le_refl
abbrev aM:=@List.getD_eq_getElem?_getD
abbrev aN:=@List.mem_map
abbrev aQ:=@List.length_range
abbrev aR:=@Nat.lt_of_lt_of_le
abbrev aU:=@List.length_append
abbrev aY:=@List.mem_cons_self
abbrev aZ:=@List.getElem?_range
abbrev bA:=@List.map_cons
abbrev bB:=@Heap.get?_push_size
abbrev bF:=@List.map_append
abbrev bG:=@List.mem_cons_of_mem
abbrev bI:=@List.getElem?_eq_none
abbrev bJ:=@Nat.mul_le_mul_right
abbrev bK:=@Heap.lt_size
abbrev bL:=@List.mem_range
abbrev bM:=@List.size_toArray
abbrev bN:=@List.mem_cons
abbrev bT:=@List.mem_singleton
abbrev bV:=@List.length_replicate
abbrev cA:=@decide_eq_false
abbrev cB:=@List.getElem?_append_right
abbrev cC:=@Bool.false_ne_true
abbrev cD:=@List.length_cons
abbrev cF:=@Classical.byContradiction
abbrev cI:=@Rat.mul_nonneg
abbrev cJ:=@List.getElem?_append_left
abbrev cK:=@List.mem_append_right
abbrev cL:=@List.mem_append_left
abbrev cN:=@decide_eq_true
abbrev cO:=@Nat.lt_irrefl
abbrev cP:=@Nat.zero_le
abbrev cU:=@List.map_congr_left
abbrev dI:=@Nat.mul_le_mul_left
abbrev dL:=@Nat.ne_of_lt
abbrev dM:=@List.mem_append
abbrev dQ:=@Int.natAbs_mul
abbrev dU:=@Nat.mul_pos
abbrev dY:=@List.take_length
abbrev eB:=@Bool.and_eq_true
abbrev eM:=@Option.map_eq_some_iff
abbrev fN:=@Option.some.inj
abbrev fP:=@List.mem_iff_getElem?
abbrev gB:=@List.mem_filter
abbrev gG:=@List.length_take
abbrev gW:=@Heap.size_push
abbrev jT:=@List.take_add_one
abbrev kB:=@Nat.le_of_dvd
abbrev mF:=@Nat.dvd_mul_right
end PySem
open PySem
namespace L2
open PySem PySem.Spec PyProof.Rows
abbrev fJ:=Sum Int Str
def FL:fJ->Y1V Value
 | .inl k,v=>Value.isInt k v
 | .inr x,v=>Value.isStrOf x v
def aI4(w:World):fJ->Int
 | .inl k=>hashInt k
 | .inr x=>hashStr w x
def iI:∀{k:fJ}{v:Value},FL k v=true->(∃i t,k=Sum.inl i/\v=Value.int i t)\/(∃x t,k=Sum.inr x/\v=Value.str x t)
 | .inl i,v,h=>by
  obtain⟨t,e⟩:=Value.isInt_shape (k:=i) (v:=v) h;exact .inl ⟨i,t,rfl,e⟩
 | .inr x,v,h=>by
  obtain⟨t,e⟩:=Value.isStrOf_shape (x:=x) (v:=v) h;exact .inr ⟨x,t,rfl,e⟩
def UE(i:Int)(t:Tok):FL (.inl i) (Y4r i)=true:=by simp[FL,Value.isInt]
def UD(x:Str)(t:Tok):FL (.inr x) (.str x t)=true:=by simp[FL,Value.isStrOf]
def aFr(a b:Int):Y0P (Sum.inl a:fJ) (Sum.inl b)=(a == b):=by
 by_cases e:a=b
 ·subst e;simp
 ·have h:¬(Sum.inl a:fJ)=Sum.inl b:=λq=>e (Sum.inl.inj q);rw[cA h];exact(beq_eq_false_iff_ne.mpr e).symm
def aFo(a b:Str):Y0P (Sum.inr a:fJ) (Sum.inr b)=Y0P a b:=by
 by_cases e:a=b
 ·subst e;simp
 ·have h:¬(Sum.inr a:fJ)=Sum.inr b:=λq=>e (Sum.inr.inj q);rw[cA h,cA e]
def aFq(a:Int)(b:Str):Yy (Y0P (Sum.inl a:fJ) (Sum.inr b)):=cA (λq=>nomatch q)
def aFp(a:Str)(b:Int):Yy (Y0P (Sum.inr a:fJ) (Sum.inl b)):=cA (λq=>nomatch q)
def gD(prog:Program)(w:World):PySem.KeyKind prog w fJ where
 is:=FL
 hash:=aI4 w
 inj:=λv a b ha hb=>by
  rcases iI ha with⟨i,t,rfl,rfl⟩ | ⟨x,t,rfl,rfl⟩
  ·rcases iI hb with⟨j,u,rfl,e⟩ | ⟨y,u,rfl,e⟩
   ·injection e with e1 _;rw[e1]
   ·exact nomatch e
  ·rcases iI hb with⟨j,u,rfl,e⟩ | ⟨y,u,rfl,e⟩
   ·exact nomatch e
   ·injection e with e1 _;rw[e1]
 byValue:=λk v h=>by
  rcases iI h with⟨i,t,rfl,rfl⟩ | ⟨x,t,rfl,rfl⟩ <;> rfl
 pyHash:=λhv h=>by
  rcases iI hv with⟨i,t,rfl,rfl⟩ | ⟨x,t,rfl,rfl⟩
  ·exact wpAny_pyHash_int h
  ·exact wpAny_pyHash_str h
 eqBool:=λhu hv h=>by
  rcases iI hu with⟨i,t,rfl,rfl⟩ | ⟨x,t,rfl,rfl⟩
  ·rcases iI hv with⟨j,u,rfl,rfl⟩ | ⟨y,u,rfl,rfl⟩
   ·rw[aFr]at h;exact wpAny_eqBool_int h
   ·rw[aFq]at h;exact SeqAt.EqAt.int_str i t y u _ _ _ _ h
  ·rcases iI hv with⟨j,u,rfl,rfl⟩ | ⟨y,u,rfl,rfl⟩
   ·rw[aFp]at h;exact SeqAt.EqAt.str_int x t j u _ _ _ _ h
   ·rw[aFo]at h;exact wpAny_eqBool_str h
 «strs» := λk x t v h=>by
  rcases iI h with⟨i,u,rfl,e⟩ | ⟨y,u,rfl,e⟩
  ·exact nomatch e
  ·injection e with e1 _;subst e1;cases v <;> rfl
def KA(prog:Program)(w:World)(i:Int)(t:Tok):(gD prog w).is (.inl i) (Y4r i)=true:=UE i t
def JZ(prog:Program)(w:World)(x:Str)(t:Tok):(gD prog w).is (.inr x) (.str x t)=true:=UD x t
inductive V where
 | non | bl (b:Bool) | int (i:Int) | str (x:Str) | byt (b:Array UInt8) | flt (b:UInt64) | ref (a:Addr) | ty (n:String)
 deriving DecidableEq
def fH:Y0u V Value
 | .non,u=>u=Value.none
 | .bl b,u=>u=Value.bool b
 | .int i,u=>∃t,u=Value.int i t
 | .str x,u=>∃t,u=Value.str x t
 | .byt b,u=>∃t,u=Value.bytes b t
 | .flt b,u=>∃t,u=Value.float b t
 | .ref a,u=>u=Value.ref a
 | .ty n,u=>u=Value.type n
abbrev eJ:Y0u Y78 Ag:=Paired fH
theorem eJ.length{xs:Y78}{us:Ag}(r:Y5L):Y5u us.length:=Paired.length r
theorem eJ.get:∀{xs:Y78}{us:Ag}{i:Nat}{x:V},Y5L->Y0p=Y7->∃u,Y5X=Ym/\fH x u
 | _,_,_,_,.nil,e=>by simp at e
 | _,_,0,_,.cons r _,e=>by simp at e;subst e;exact⟨_,rfl,r⟩
 | _,_,i+1,x,.cons _ t,e=>by
  obtain⟨u,h1,h2⟩:=eJ.get (i:=i) (x:=x) t (by simpa using e);exact⟨u,by simpa using h1,h2⟩
theorem eJ.set{x:V}{u:Value}(r:fH x u):∀{xs:Y78}{us:Ag}(i:Nat),Y5L->eJ (xs.set i x) (us.set i u)
 | _,_,_,.nil=>.nil
 | _,_,0,.cons _ t=>.cons r t
 | _,_,i+1,.cons q t=>.cons q (eJ.set r i t)
theorem eJ.append:∀{xs ys:Y78}{us ws:Ag},Y5L->eJ ys ws->eJ (xs++ys) (us++ws)
 | _,_,_,_,.nil,s=>s
 | _,_,_,_,.cons r t,s=>.cons r (eJ.append t s)
theorem eJ.take:∀{xs:Y78}{us:Ag}(n:Nat),Y5L->eJ (xs.take n) (us.take n)
 | _,_,0,_=>.nil
 | _,_,_+1,.nil=>.nil
 | _,_,n+1,.cons r t=>.cons r (eJ.take n t)
theorem eJ.drop:∀{xs:Y78}{us:Ag}(n:Nat),Y5L->eJ (xs.drop n) (us.drop n)
 | _,_,0,r=>r
 | _,_,_+1,.nil=>.nil
 | _,_,n+1,.cons _ t=>eJ.drop n t
def sE:Y0u (Option V) Y98
 | some v,some u=>fH v u
 | none,none=>True
 | _,_=>False
def KV{κ:Type}:Y0u Y3y (Y6f κ):=Paired λ(p:κ × V) (q:κ × Value)=>p.1=q.1/\fH p.2 q.2
def kV:fJ->V
 | .inl i=>.int i
 | .inr x=>.str x
inductive HO where
 /-- a list -/
 | lst (xs:Y78)
 /-- a tuple (never changes) -/
 | tup (xs:Y78)
 /-- a dict whose keys are ints and texts;one whose keys are tuples of ints and texts (the empty one is both) -/
 | dK (kvs:Y2P) | dT (kvs:Yr)
 /-- a set of ints: its members,its size -/
 | set (S:Y1V Int) (n:Nat)
 /-- an instance of the class at C,its dict at dx,its attributes -/
 | ins (C dx:Addr) (fs:Y4v)
 /-- the dict of the instance at x -/
 | own (x:Addr)
 /-- the dict of an exception -/
 | xd (fs:Y4v)
 /-- a bound method,f of x -/
 | met (f x:Addr)
 /-- a range object lo,lo+1,.. below hi -/
 | rng (lo hi:Int)
 /-- a thing that is known to the object (the script;a dict while a loop walks it): read,never written while it is so -/
 | frz (o:Obj) (u:HO)
 /-- a code object's table -/
 | tbl (ps:Ai)
 /-- any other thing,by what is true of its one object (a def of one's own: SetO a S n:=HO.ext λh=>..) -/
 | ext (φ:Y1c Heap)
abbrev Hp:=Addr->Option HO
def upd(H:Hp)(a:Addr)(o:HO):Hp:=λb=>if b=a then Y9 else H b
def bH{H:Hp}{a:Addr}{o:HO}:upd H a o a=Y9:=by unfold upd;rw[Ys]
def dR{H:Hp}{a b:Addr}{o:HO}(h:b≠a):upd H a o b=H b:=by unfold upd;rw[Y5C]
def aBc{H:Hp}{a:Addr}{o u:HO}:upd (Y3G o) a u=Y3G u:=by
 funext b;unfold upd;split <;> rfl
def qL{H:Hp}{a b:Addr}{o u:HO}(h:H a=Y9)(h':H b=Ym)(d:o≠u):a≠b:=by
 intro e;subst e;rw[h]at h';exact d (fN h')
def dS{H:Hp}{a b:Addr}{o:HO}(h:H a=Y9)(h':H b=none):a≠b:=by
 intro e;subst e;rw[h]at h';cases h'
section
variable(P:Program)(w:World)
def gO(H:Hp)(h:Heap)(a:Addr):Y1c HO
 | .lst xs=>xs.length<=sizeLine/\∃(its:Ag) (n:Nat),eJ xs its/\h.get? a=some { cls:=.type "list",data:=.seq its.toArray n }
 | .tup xs=>(xs.length<=sizeLine/\∃o,h.get? a=some o/\o.dict=none)/\∃its:Ag,eJ xs its/\IsTup h a its.toArray
 | .dK kvs=>kvs.length<=sizeLine/\(a == sysModules)=false/\∃vs,KV kvs vs/\h.DictOf (gD P w) a vs
 | .dT kvs=>kvs.length<=sizeLine/\(a == sysModules)=false/\∃xs:List (List fJ × Addr × Value),
   Paired (λ(p:List fJ × V) (q:List fJ × Addr × Value)=>p.1=q.1/\H q.2.1=some (.tup (p.1.map kV))/\fH p.2 q.2.2) kvs xs /\
   ∃o es ep,h.get? a=some o/\o.ExactDict/\o.data=.dict es ep/\es.toList=xs.map (entryOfKey (tupleKind (gD P w)))/\(xs.map (·.1)).Nodup
 | .set S n=>h.SetOf (intKind P w) a S n
 | .ins C dx fs=>H dx=some (.own a)/\fs.length<=1000/\dx≠a/\h.get? a=some (PySem.W.instObj C dx) /\
   ∃mA,h.Ns1 dx mA/\(∀f,sE (fs.lookup f) (mA f))/\PySem.Within mA (fs.map (·.1))
 | .own _=>∃o,h.get? a=some o
 | .xd fs=>∃mA,h.Ns1 a mA/\∀f,sE (fs.lookup f) (mA f)
 | .rng lo hi=>∃t u v,h.get? a=some { cls:=.type "range",data:=.fields #[.int lo t,.int hi u,.int 1 v] }
 | .frz o u=>h.get? a=some o/\gO H h a u
 | .tbl ps=>h.get? a=some { cls:=.none,data:=.fields ps }
 | .met f x=>h.get? a=some (PySem.W.methodObj (.ref f) (.ref x))
 | .ext φ=>φ h/\(∃o,h.get? a=some o)/\∀h1 h2:Heap,φ h1->(∀o,h1.get? a=some o->h2.get? a=some o)->φ h2
def sC(H:Hp)(h:Heap):Prop:=∀a o,H a=Y9->gO P w H h a o
end
section
variable{P:Program}{w:World}{H H':Hp}{h h':Heap}{a:Addr}{o:HO}
theorem gO.lt(x:gO P w H h a o):YeM a:=by
 cases o with
 | lst xs=>obtain⟨_,_,_,_,e⟩:=x;exact bK e
 | tup xs=>obtain⟨_,_,_,p⟩:=x;exact p.lt
 | dK kvs=>obtain⟨_,_,_,_,o,_,_,e,_⟩:=x;exact bK e
 | dT kvs=>obtain⟨_,_,_,_,o,_,_,e,_⟩:=x;exact bK e
 | set S n=>obtain⟨o,_,_,_,e,_⟩:=x;exact bK e
 | ins C dx fs=>obtain⟨_,_,_,e,_⟩:=x;exact bK e
 | own y=>obtain⟨_,e⟩:=x;exact bK e
 | xd fs=>obtain⟨_,⟨_,_,_,e,_⟩,_⟩:=x;exact bK e
 | rng lo hi=>obtain⟨_,_,_,e⟩:=x;exact bK e
 | frz ob u=>obtain⟨e,_⟩:=x;exact bK e
 | tbl ps=>exact bK (show h.get? a=some _ from x)
 | met f y=>exact bK (show h.get? a=some _ from x)
 | ext φ=>obtain⟨_,⟨_,e⟩,_⟩:=x;exact bK e
theorem Paired.mapP{α β:Type}{F G:Y0u α β}:∀{l₁:Yu}{l₂:Ya6},Paired F l₁ l₂->(∀a b,F a b->G a b)->Paired G l₁ l₂
 | _,_,.nil,_=>.nil
 | _,_,.cons r t,f=>.cons (f _ _ r) (Paired.mapP t f)
def Paired.imp'{α β:Type}{F G:Y0u α β}(f:∀a b,F a b->G a b){l₁:Yu}{l₂:Ya6}(r:Paired F l₁ l₂):Paired G l₁ l₂:=Paired.mapP r f
def gO.stay(x:gO P w H h a o)(k:∀b u,(b=a\/H b=Y7B a)->Y20=Ym->Y14=Ym)
  (ho:∀b,H b=Y7B a->Y1N=Y7B a) (ht:∀b xs,H b=Y16->Y1N=Y16):gO P w H' h' a o:=by
 induction o with
 | lst xs=>obtain⟨z,l,n,r,e⟩:=x;exact⟨z,l,n,r,Y48 _ e⟩
 | tup xs=>obtain⟨⟨z,B,A,dn⟩,l,r,g,e,c⟩:=x;exact⟨⟨z,B,Y48 _ A,dn⟩,l,r,g,Y48 _ e,c⟩
 | dK kvs=>obtain⟨z,y,s,r,g,j,i,e,c⟩:=x;exact⟨z,y,s,r,g,j,i,Y48 _ e,c⟩
 | dT kvs =>
  obtain⟨z,y,xs,r,g,j,i,e,c⟩:=x;exact⟨z,y,xs,Paired.mapP r λp q z=>⟨z.1,ht _ _ z.2.1,z.2.2⟩,g,j,i,Y48 _ e,c⟩
 | set S n=>obtain⟨g,j,i,t,e,c⟩:=x;exact⟨g,j,i,t,Y48 _ e,c⟩
 | ins C dx fs =>
  obtain⟨d,z,ne,e,mA,⟨m,j,i,D,c⟩,r⟩:=x;exact⟨ho _ d,z,ne,Y48 _ e,mA,⟨m,j,i,k _ _ (.inr d) D,c⟩,r⟩
 | own y=>obtain⟨g,e⟩:=x;exact⟨g,Y48 _ e⟩
 | xd fs=>obtain⟨mA,⟨m,j,i,e,c⟩,r⟩:=x;exact⟨mA,⟨m,j,i,Y48 _ e,c⟩,r⟩
 | rng lo hi=>obtain⟨t,u,v,e⟩:=x;exact⟨t,u,v,Y48 _ e⟩
 | frz g u ih=>obtain⟨e,q⟩:=x;exact⟨Y48 _ e,ih q⟩
 | tbl ps =>
  have e:h.get? a=some { cls:=.none,data:=.fields ps }:=x;show Y7z a (some { cls:=.none,data:=.fields ps });exact Y48 a e
 | met f y =>
  have e:h.get? a=some (PySem.W.methodObj (.ref f) (.ref y)):=x;show Y7z a (some (PySem.W.methodObj (.ref f) (.ref y)));exact Y48 a e
 | ext φ=>obtain⟨p,⟨o,e⟩,st⟩:=x;exact⟨st _ _ p λo q=>Y48 _ q,⟨o,Y48 _ e⟩,st⟩
theorem sC.lt(x:sC P w H h)(e:H a=Y9):YeM a:=(x a o e).lt
def sC.fresh(x:sC P w H h)(e:h.objs.size<=a):H a=none:=by
 cases q:H a with
 | none=>rfl
 | some u=>exact absurd (aR (x.lt q) e) (cO _)
def sC.kept(x:sC P w H h)(k:∀b u,Y20=Ym->Y14=Ym):sC P w H h':=λa o e =>
 (x a o e).stay (λb u _ q=>k b u q) (YcU) Y9B
def sC.laid(x:sC P w H h)(k:∀b u,Y20=Ym->Y14=Ym)(hp:h.objs.size<=a)(new:gO P w (Y3G o) h' a o):sC P w (Y3G o) h':=λb u e=>by
 have d:=x.fresh hp;by_cases hb:b=a
 ·subst hb;rw[bH]at e;cases e;exact new
 ·rw[dR hb]at e;exact(x b u e).stay (λc v _ q=>k c v q) (λc q=>by rw[dR (dS q d)];exact q) λc g q=>by rw[dR (dS q d)];exact q
end
def Rd(H:Hp)(a:Addr)(u:HO):Prop:=H a=Ym\/∃o,H a=Y9E o u
def Rd.ok{P:Program}{w:World}{H:Hp}{h:Heap}{a:Addr}{u:HO}(r:Rd H a u)(x:sC P w H h):gO P w H h a u:=by
 rcases r with r | ⟨o,r⟩
 ·exact x a u r
 ·obtain⟨_,q⟩:=x a _ r;exact q
def Mut:Y1c (Option HO)
 | some (.lst _)=>True
 | some (.dK _)=>True
 | some (.dT _)=>True
 | some (.set _ _)=>True
 | some (.ins _ _ _)=>True
 | some (.ext _)=>True
 | _=>False
section
variable{P:Program}{w:World}{H:Hp}{h h':Heap}{x e:Addr}{o':HO}
def sC.write(ok:sC P w H h)(mu:Mut (H x))(he:e=x\/H e=Y7B x)(k:∀b u,b≠e->Y20=Ym->Y14=Ym)(heo:∃u,Y7z e Ym)
  (new:gO P w (Y4f x o') h' x o'):sC P w (Y4f x o') h':=λb u q=>by
 have a:∀c y,H c=Y7B y->c≠x:=λc y r z=>by subst z;rw[r]at mu;exact mu
 have d:∀c g,H c=Yf g->c≠x:=λc g r z=>by subst z;rw[r]at mu;exact mu
 by_cases hb:b=x
 ·subst hb;rw[bH]at q;cases q;exact new
 ·rw[dR hb]at q;by_cases hbe:b=e
  ·have j:H b=Y7B x:=by
    rcases he with z | z
    ·exact absurd (hbe.trans z) hb
    ·rw[hbe];exact z
   rw[q]at j;cases j;obtain⟨v,l⟩:=heo;exact⟨v,by rw[hbe];exact l⟩
  ·refine(ok b u q).stay (λc v i r=>k c v ?_ r) (λc r=>by rw[dR (a c b r)];exact r) λc g r=>by rw[dR (d c g r)];exact r
   rcases i with rfl | i
   ·exact hbe
   ·rintro rfl;rcases he with z | z
    ·exact a c b i z
    ·rw[i]at z;cases z;exact hb rfl
end
structure Un(fs ex:Y0v)(H H':Hp)(h h':Heap):Prop where
 keep:∀b o,Y20=Y9->H b=none->b ∉ fs->b ∉ ex->Y14=Y9
 slot:∀b o,Y20=Y9->H b=none->b∈fs->b ∉ ex->∃sl,Y14=some { o with slots:=sl }
 free:∀b o,Y20=Y9->H b=none->b ∉ ex->Y1N=none
 there:∀b o,Y20=Y9->b ∉ ex->∃o',Y14=some o'
 tups:∀b xs,H b=Y16->Y1N=Y16
 frzs:∀b o u,H b=Y9E o u->Y1N=Y9E o u
 tbls:∀b ps,H b=YeG ps->∃more,Y1N=YeG (ps++more)
section
variable{fs fs' ex ex':Y0v}{H H1 H2:Hp}{h h1 h2 h':Heap}{a x e:Addr}{o:HO}
def Un.any(u:Un fs ex H H1 h h1){b:Addr}{ob:Obj}(q:Y20=some ob)(n:H b=none)(hx:b ∉ ex):∃sl,h1.get? b=some { ob with slots:=sl }:=by
 by_cases hb:b∈fs
 ·exact u.slot b ob q n hb hx
 ·exact⟨ob.slots,u.keep b ob q n hb hx⟩
def Un.kept(k:∀b u,Y20=Ym->Y14=Ym):Un fs ex H H h h' :=
 ⟨λb a q _ _ _=>k b a q,λb a q _ _ _=>⟨a.slots,k b a q⟩,λ_ _ _ n _=>n,λb a q _=>⟨a,k b a q⟩,Y9B,λ_ _ _ q=>q,λ_ c q=>⟨#[],by rw[q];simp⟩⟩
def Un.refl:Un fs ex H H h h:=Un.kept Y9B
def Un.laid(k:∀b u,Y20=Ym->Y14=Ym)(hp:h.objs.size<=a)(hn:H a=none):Un fs ex H (Y3G o) h h' where
 keep:=λb u q _ _ _=>k b u q
 slot:=λb u q _ _ _=>⟨u.slots,k b u q⟩
 free:=λb u q n _=>by rw[dR (dL (aR (bK q) hp))];exact n
 there:=λb u q _=>⟨u,k b u q⟩
 tups:=λb c q=>by rw[dR (dS q hn)];exact q
 frzs:=λb u c q=>by rw[dR (dS q hn)];exact q
 tbls:=λb d q=>⟨#[],by rw[dR (dS q hn),q];simp⟩
def Un.write(mu:Mut (H x))(he:e=x\/H e=Y7B x)(k:∀b u,b≠e->Y20=Ym->Y14=Ym)(heo:∃u,Y7z e Ym):Un fs ex H (Y4f x o) h h':=by
 have c:∀b,H b=none->b≠x:=λb n z=>by subst z;rw[n]at mu;exact mu
 have d:∀b,H b=none->b≠e:=λb n z=>by
  subst z;rcases he with r | r
  ·exact c b n r
  ·rw[n]at r;cases r
 have a:∀b u,H b=Ym->¬Mut (Ym)->b≠x:=λb u q g z=>by subst z;rw[q]at mu;exact g mu
 refine⟨λb u q n _ _=>k b u (d b n) q,λb u q n _ _=>⟨u.slots,k b u (d b n) q⟩,λb u q n _=>by rw[dR (c b n)];exact n,λb u q _=>?_,
  λb i q=>by rw[dR (a b _ q λz=>z)];exact q,λb u i q=>by rw[dR (a b _ q λz=>z)];exact q,λb j q=>⟨#[],by rw[dR (a b _ q λz=>z),q];simp⟩⟩
 by_cases hbe:b=e
 ·subst hbe;exact heo
 ·exact⟨u,k b u hbe q⟩
end
def trk(h:Heap)(H:Hp):Y0v:=(List.range h.objs.size).filter λa=>(H a).isSome
def HY(h:Heap)(H:Hp):Heap:=PySem.W.hideAll h (trk h H)
def UI(h:Heap)(H:Hp):(HY h H).objs.size=h.objs.size:=PySem.W.hideAll_size _ _
def ZP{h:Heap}{H:Hp}{b:Addr}{o:Obj}(e:Y20=Y9)(n:H b=none):(HY h H).get? b=Y9 :=
 PySem.W.hideAll_get _ e λa=>by
  have q:(H b).isSome=true:=(gB.mp a).2;rw[n]at q;simp at q
def aB3{h:Heap}{H:Hp}{b:Addr}{o:Obj}(e:(HY h H).get? b=Y9):Y20=Y9/\H b=none:=by
 have a:Y20=Y9:=PySem.W.of_hideAll (trk h H) e;refine Y0o a;cases q:H b with
 | none=>rfl
 | some x =>
  have c:b∈trk h H:=gB.mpr ⟨bL.mpr (bK a),by simp[q]⟩;have z:(HY h H).get? b=none:=PySem.W.hideAll_none (trk h H) c;rw[z]at e;cases e
structure Mod(K:Aa)(mg:Y0G)(base:Heap):Prop where
 kin:K.In base
 glob:Yc1 mg
 blt:∃mb,base.Ns builtinsNs mb/\∀x:Str,x ≠ "__name__" -> mb x=Y9u
 nolimit:base.NoLimit
/-- the context: a def's body (or a comprehension's block) running. base: fixed through the whole law;s₀,H₀: the entry;outer: the frames whose slots others may change (a def's callers);stack: all frames that run;
   ex: iterators that were made ahead of the entry and are walked here (a comprehension's);fn: the names whose cells were made at the entry (a def: all;a comprehension's block: its own);calm: not within an except suite;pn: pins that every state bears;xe: what is wanted of an exception that leaves the code -/
structure Cx where
 prog:Program
 w:World
 K:Aa
 mg:Y0G
 base:Heap
 A:Around
 N:Ah
 s₀:Shared
 H₀:Hp
 env:Env
 outer:Y3t
 stack:Y3t
 ex:Y0v
 fn:Y1V Str
 calm:Bool
 pn:Ad
 xe:Ya
def frs(l:Y3t):Y0v:=l.filterMap (·.frame)
abbrev Cx.fs(X:Cx):Y0v:=frs X.outer
def Vis(sc:Scope)(x:Str):Prop:=Y8k=Y30\/Y8k=Y2g\/Y8k=YeL
def Loc(sc:Scope)(x:Str):Prop:=Y8k=Y30\/Y8k=Y2g
def aJD(env:Env)(h:Heap)(m:Y0G)(x:Str)(u:Value):Prop :=
 (env.kindOf x=Y30/\m x=Ym)\/((env.kindOf x=Y2g\/env.kindOf x=YeL)/\∃c,Yck x Y1h/\h.IsCell c (Ym))
structure Cx.Ok(X:Cx):Prop where
 mod:Mod X.K X.mg X.base
 kind:X.env.scope.kind=.function
 glob:X.env.globals=mainGlobals
 blt:X.env.builtins=builtinsNs
 above:Y8g X.env.locals
 inj:∀x y c,Y3Z->(X.env.cells.lookup y)=Y1h->x=y
 has:∀x,(Y6N x Y2g\/Y6N x YeL)->∃c,Y3Z
 cab:∀x c,Y84=true->Y3Z->Y8g c
 hd:Y1t->X.A.handled=none
 frames:X.A.frames=some X.stack
 stk:X.stack=X.outer\/(X.stack=X.env::X.outer/\X.env.frame=some X.env.locals)
 exf:∀b∈X.ex,Y4J b/\∀x c,Y3Z->c≠b
 bs:∀b o,Ycf=Y9->YdW b Y9/\X.H₀ b=none
 bsz:X.base.objs.size<=X.s₀.heap.objs.size
 noex:∀b o,Ycf=Y9->b ∉ X.ex
 exfs:∀b∈X.ex,b ∉ X.fs
 funs:X.s₀.heap.FunFrames X.base X.outer
 frf:∀b∈X.fs,X.H₀ b=none
structure cY(X:Cx)(pins:Ad)(σ:Y8q V)(H:Hp)(s:Shared):Prop where
 ok:X.Ok
 os:s.os=X.s₀.os
 bare:AllBare s.gens
 base:Un X.fs X.ex X.H₀ H X.s₀.heap s.heap
 loc:∃m,s.heap.Ns X.env.locals m/\∀(i:Nat) (x:Str) (v:V),Y3E=Y7->σ[i]?=YaX->YdX x->∃u,Y41/\aJD X.env s.heap m x u
 cell:∀x c,Y3Z->∃v,s.heap.IsCell c v
 free:H X.env.locals=none
 freeC:∀x c,Y3Z->H c=none
 pin:∀p∈X.pn++pins,Y2H p.1 p.2/\H p.1=none/\Y4J p.1/\p.1 ∉ X.fs/\∀v,p.2.data ≠ .cell v
 hok:YbK X.w H s.heap
 len:σ.length=X.N.length
section
variable{X:Cx}{pins:Ad}{σ:Y8q V}{H H':Hp}{s:Shared}{h':Heap}
def Cx.Ok.nofr(ok:X.Ok){b:Addr}{o:Obj}(e:Ycf=Y9):b ∉ X.fs:=λa=>by
 have:=(ok.funs.mem a).1;rw[e]at this;cases this
theorem cY.bs(I:Y6):∀b o,Ycf=Y9->Y26/\H b=none:=λb o e =>
 ⟨I.base.keep b o (I.ok.bs b o e).1 (I.ok.bs b o e).2 (I.ok.nofr e) (I.ok.noex b o e),YcI o ((I.ok.bs b o e).1) ((I.ok.bs b o e).2) (I.ok.noex b o e)⟩
def cY.bk(I:Y6):∀b o,Ycf=Y9->Y26:=λb o e=>(I.bs b o e).1
theorem cY.mod(I:Y6):Mod X.K X.mg X.base:=I.ok.mod
def cY.kIn(I:Y6):X.K.In s.heap:=I.ok.mod.kin.keeps I.bk
theorem cY.lt(I:Y6):Y4H X.env.locals:=let ⟨_,hn,_⟩:=I.loc;hn.lt
def cY.sz(I:Y6):Y8g s.heap.objs.size:=aK I.ok.above (Nat.le_of_lt I.lt)
def cY.nofs(I:Y6){a:Addr}(h:YfP a):a ∉ X.fs:=λc=>by
 obtain⟨_,o,d,_⟩:=I.ok.funs.mem c;exact absurd (aR (bK d) (aK I.sz h)) (cO _)
def cY.cne(I:Y6):∀x c,Y3Z->Y4J c:=λx c e z=>by
 obtain⟨v,o,g,hd⟩:=Y7W x e;obtain⟨m,⟨h,i,j,a,d,_⟩,_⟩:=I.loc;rw[z,a]at g;cases g;rw[d]at hd;cases hd
theorem cY.funs(I:Y6):Yfd X.outer:=by
 have all:∀(l:Y3t),(∀b∈frs l,b∈X.fs)->X.s₀.heap.FunFrames X.base l->Yfd l:=by
  intro l
  induction l with
  | nil=>intro _ _;trivial
  | cons env r ih =>
   intro g i;obtain⟨m,⟨L,o,c,j,n,hd⟩,h⟩:=i;have a:L∈X.fs:=g L (by unfold frs;rw[List.filterMap_cons,c];exact aY);obtain⟨sl,e⟩:=I.base.slot L o n (I.ok.frf L a) a λz=>I.ok.exfs L z a;exact⟨m,⟨L,_,c,j,e,hd⟩,ih (λb d=>g b (by unfold frs;rw[List.filterMap_cons,c];exact bG _ d)) h⟩
 exact all X.outer (λ_ d=>d) I.ok.funs
theorem cY.stack(I:Y6):Yfd X.stack:=by
 rcases I.ok.stk with e | ⟨e,c⟩
 ·rw[e];exact I.funs
 ·rw[e];obtain⟨m,a,_⟩:=I.loc;refine .cons (by rw[I.ok.kind];decide) c a ?_ I.funs;exact Heap.get?_none_of_le (YcB I.ok.above)
def cY.stkSub(I:Y6):∀b∈frs X.stack,b∈X.env.locals::X.fs:=λb a=>by
 rcases I.ok.stk with e | ⟨e,c⟩
 ·rw[e]at a;exact bG _ a
 ·rw[e]at a;unfold frs at a;rw[List.filterMap_cons,c]at a;exact a
def cY.stkFree(I:Y6):∀b∈frs X.stack,H b=none:=λb a=>by
 rcases bN.mp (I.stkSub b a)with e | a
 ·rw[e];exact I.free
 ·obtain⟨_,o,c,_⟩:=I.ok.funs.mem a;exact YcI o c (I.ok.frf b a) (λz=>I.ok.exfs b z a)
def cY.step{g':Array GenState}{t':Nat}{d':Drawn}{ch:Y0v}(I:Y6)
  (hch:∀b∈ch,(b∈X.ex\/Y8g b)/\Y4J b/\(∀x c,Y3Z->c≠b)/\∀p∈X.pn++pins,p.1≠b)
  (keep:∀b o,Y4J b->b ∉ X.fs->b ∉ ch->Y26->H b=none->Y14=Y9)
  (slot:∀b o,Y4J b->b∈X.fs->b ∉ ch->Y26->H b=none->∃sl,Y14=some { o with slots:=sl }) (free:∀b o,b ∉ ch->Y26->H b=none->Y1N=none)
  (there:∀b o,b ∉ ch->Y26->∃o',Y14=some o')
  (tups:∀b xs,H b=Y16->Y1N=Y16) (frzs:∀b o u,H b=Y9E o u->Y1N=Y9E o u) (tbls:∀b ps,H b=YeG ps->∃more,Y1N=YeG (ps++more))
  (ns:∀m,s.heap.Ns X.env.locals m->h'.Ns X.env.locals m) (hok:YbK X.w H' h') (hg:AllBare g') :
  Y58 ({ s with heap:=h',gens:=g',drawn:=d',toks:=t' }):=by
 have neL:∀b o,YdW b Y9->Y4J b:=λb o e=>dL (aR (bK e) I.ok.above);have j:∀b o,YdW b Y9->b ∉ X.ex->b ∉ ch:=λb o e a A=>by
  rcases(hch b A).1 with z | z
  ·exact a z
  ·exact absurd (aR (bK e) z) (cO _)
 have h:∀x c,Y3Z->∀v,s.heap.IsCell c v->h'.IsCell c v:=λx c e v ⟨o,B,hd⟩=>by
  have g:c ∉ ch:=λz=>(hch c z).2.2.1 x c e rfl;by_cases hc:c∈X.fs
  ·obtain⟨sl,q⟩:=slot c o (I.cne x c e) hc g B (Y9X x e);exact Y0J q hd
  ·exact Y1v (keep c o (I.cne x c e) hc g B (Y9X x e)) hd
 refine⟨I.ok,I.os,hg,⟨λb o e n A a=>?_,λb o e n A a=>?_,λb o e n a=>?_,λb o e a=>?_,λb xs e=>tups b xs (I.base.tups b xs e),λb o xs e=>frzs b o xs (I.base.frzs b o xs e),λb ps e=>?_⟩,?_,λx c e=>?_,?_,λx c e=>?_,λp G=>?_,hok,I.len⟩
 ·exact keep b o (neL b o e) A (j b o e a) (I.base.keep b o e n A a) (YcI o e n a)
 ·obtain⟨sl,y⟩:=I.base.slot b o e n A a;obtain⟨D,C⟩:=slot b _ (neL b o e) A (j b o e a) y (YcI o e n a);exact⟨D,C⟩
 ·obtain⟨o',y⟩:=Yez o e a;exact free b o' (j b o e a) y (YcI o e n a)
 ·obtain⟨o',y⟩:=Yez o e a;exact there b o' (j b o e a) y
 ·obtain⟨m1,y⟩:=I.base.tbls b ps e;obtain⟨M,C⟩:=tbls b _ y;exact⟨m1++M,by rw[C,Array.append_assoc]⟩
 ·obtain⟨m,O,N⟩:=I.loc;refine⟨m,ns m O,λi x v y C L=>?_⟩;obtain⟨u,r,l⟩:=N i x v y C L;refine Y05 u r;rcases l with l | ⟨k,c,e,z⟩
  ·exact .inl l
  ·exact .inr ⟨k,c,e,h x c e _ z⟩
 ·obtain⟨v,z⟩:=Y7W x e;exact⟨v,h x c e v z⟩
 ·obtain⟨m,⟨o,_,_,B,_⟩,_⟩:=I.loc;exact free _ o (λz=>(hch _ z).2.1 rfl) B I.free
 ·obtain⟨v,o,B,hd⟩:=Y7W x e;exact free c o (λz=>(hch c z).2.2.1 x c e rfl) B (Y9X x e)
 ·obtain⟨e,n,ne,J,d⟩:=Y8V G;have g:p.1 ∉ ch:=λz=>(hch p.1 z).2.2.2 p G rfl;exact⟨keep p.1 p.2 ne J g e n,free p.1 p.2 g e n,ne,J,d⟩
def cY.un{t':Nat}(I:Y6)(u:Un X.fs [] H H' s.heap h')(hok:YbK X.w H' h'):Y58 ({ s with heap:=h',toks:=t' }):=by
 obtain⟨m,⟨o,B,A,h,r⟩,_⟩:=id I.loc;obtain⟨sl,j⟩:=u.any h I.free (by simp);exact I.step (g':=s.gens) (d':=s.drawn) (ch:=[]) (λ_ z=>nomatch z) (λb o _ g _ e n=>u.keep b o e n g (by simp)) (λb o _ g _ e n=>u.slot b o e n g (by simp)) (λb o _ e n=>u.free b o e n (by simp)) (λb o _ e=>u.there b o e (by simp)) u.tups u.frzs u.tbls (λy i=>by
  obtain⟨p,c,d,a,l⟩:=i;rw[h]at a;cases a;exact⟨_,c,d,j,l⟩) hok I.bare
def cY.call{g':Array GenState}{t':Nat}{d':Drawn}{ch:Y0v}(I:Y6)(u:Un (frs X.stack) ch H H' s.heap h')(hok:YbK X.w H' h')(hg:AllBare g')
  (hch:∀b∈ch,(b∈X.ex\/Y8g b)/\Y4J b/\(∀x c,Y3Z->c≠b)/\∀p∈X.pn++pins,p.1≠b) :
  Y58 ({ s with heap:=h',gens:=g',drawn:=d',toks:=t' }):=by
 obtain⟨m,⟨o,G,D,j,r⟩,_⟩:=id I.loc;obtain⟨sl,h⟩:=u.any j I.free λz=>(hch _ z).2.1 rfl;exact I.step (ch:=ch) hch (λb o h y a e n=>u.keep b o e n (λz=>(bN.mp (I.stkSub b z)).elim h y) a) (λb o _ _ a e n=>u.any e n a) (λb o a e n=>u.free b o e n a) (λb o a e=>u.there b o e a) u.tups u.frzs u.tbls (λC l=>by
  obtain⟨B,g,i,d,A⟩:=l;rw[j]at d;cases d;exact⟨_,g,i,h,A⟩) hok hg
def cY.turned{t':Nat}{it:Addr}(I:Y6)(k:∀b o,b≠it->Y26->Y14=Y9)(hn:H it=none)(hL:Y4J it)
  (h1:it∈X.ex\/Y8g it) (h2:∀x c,Y3Z->c≠it) (h3:∀p∈X.pn++pins,p.1≠it):Y5k ({ s with heap:=h',toks:=t' }):=by
 have d:∀b u,H b=Ym->b≠it:=λb u e z=>by rw[z,hn]at e;cases e
 refine I.step (g':=s.gens) (d':=s.drawn) (ch:=[it]) (λb j=>?_) (λb o _ _ a e _=>k b o (λz=>a (by simp[z])) e) (λb o _ _ a e _=>⟨o.slots,k b o (λz=>a (by simp[z])) e⟩) (λ_ _ _ _ n=>n)
  (λb o a e=>⟨o,k b o (λz=>a (by simp[z])) e⟩) (Yay) (λ_ _ _ e=>e) (λb w e=>⟨#[],by rw[e];simp⟩) (λm h=>?_) (λb u e=>?_) I.bare
 ·have e:b=it:=by simpa using j
  subst e;exact⟨h1,hL,h2,h3⟩
 ·obtain⟨o,i,g,l,r⟩:=h;exact⟨o,i,g,k _ o (Ne.symm hL) l,r⟩
 ·refine(I.hok b u e).stay (λc v a q=>k c v ?_ q) (YcU) Y9B;rcases a with z | z
  ·rw[z];exact d b u e
  ·exact d c _ z
def cY.tok(I:Y6)(t:Nat):Y5k ({ s with toks:=t }):=I.un (h':=s.heap) (t':=t) Un.refl I.hok
theorem cY.kept{t':Nat}(I:Y6)(k:∀b u,Yai b Ym->Y14=Ym):Y5k ({ s with heap:=h',toks:=t' }):=I.un (Un.kept k) (I.hok.kept k)
theorem cY.laid{a:Addr}{o:HO}{t':Nat}(I:Y6)(k:∀b u,Yai b Ym->Y14=Ym)(hp:YfP a)(new:gO X.prog X.w (Y3G o) h' a o) :
  Y2Z (Y3G o) ({ s with heap:=h',toks:=t' }):=I.un (Un.laid k hp (I.hok.fresh hp)) (I.hok.laid k hp new)
theorem cY.write{x e:Addr}{o:HO}{t':Nat}(I:Y6)(mu:Mut (H x))(he:e=x\/H e=Y7B x)(k:∀b u,b≠e->Yai b Ym->Y14=Ym)(heo:∃u,Y7z e Ym)
  (new:gO X.prog X.w (Y4f x o) h' x o):Y2Z (Y4f x o) ({ s with heap:=h',toks:=t' }):=I.un (Un.write mu he k heo) (I.hok.write mu he k heo new)
def cY.pins_of{pins':Ad}(I:Y6)(h:∀p∈pins',Y2H p.1 p.2/\H p.1=none/\Y4J p.1/\p.1 ∉ X.fs/\∀v,p.2.data ≠ .cell v):Y29 pins' H s :=
 ⟨I.ok,I.os,I.bare,I.base,I.loc,I.cell,I.free,I.freeC,λp a=>(dM.mp a).elim (λz=>Y8V (cL _ z)) (h p),I.hok,I.len⟩
def JX{N:Ah}(hN:N.Nodup){i j:Nat}{x:Str}(a:N[i]?=Y7)(b:N[j]?=Y7):i=j:=by
 obtain⟨g,d⟩:=Y6Z;obtain⟨e,c⟩:=aC.mp b;exact(List.getElem_inj hN).mp (d.trans c.symm)
def EU{M:Model}{A:Around}{E:Ya}{i:Nat}{x:Str}{v:V}{u:Value}{Q:Ybx}(I:Y6)(hN:X.N.Nodup)(hi:Y3E=Y7)(hx:Y9t x)(r:Y41)
  (h:∀s',cY X pins (Ycm i) H s'->(∃a,Yat a s'.heap/\(a=X.env.locals\/(X.env.cells.lookup x)=Y7a))->Q () s') (hf:Y84=true\/Y6q x:=by first | exact .inl rfl | exact .inr rfl | assumption):wpAny M A (storeName X.env x u) Q E s:=by
 obtain⟨m,κ,ξ⟩:=id I.loc;have U:Yy (YdB .class || (YdB .module&&X.env.locals != X.env.globals)):=by rw[I.ok.kind];rfl
 have T:i<σ.length:=by rw[I.len];exact(aC.mp hi).1
 have cne:=I.cne;have l:∀{a:Addr} {P:Heap},(∃o,Y9e a/\H a=none)->Yat a P->YbK X.w H P:=λ{a P} υ g b ο e=>by
  obtain⟨_,_,D⟩:=υ;refine(I.hok b ο e).stay (λc α C q=>(g.2 c ?_).trans q) (YcU) Y9B;rintro rfl;rcases C with rfl | C
  ·rw[D]at e;cases e
  ·rw[D]at C;cases C
 rcases hx with J | J
 ·refine wpAny_storeName_local J κ (λP ι g=>?_) U;obtain⟨τ,_,_,ε,_⟩:=id κ;refine h _ ⟨I.ok,I.os,I.bare,⟨Ydx,Ydx,I.base.free,λb o e hx=>?_,I.base.tups,I.base.frzs,I.base.tbls⟩,Y0J ι (λj y θ B G γ=>?_),λy c e=>?_,I.free,I.freeC,λp β=>?_,l ⟨τ,ε,I.free⟩ g,by simpa using I.len⟩ (Y0J g Y4I)
  ·exact(g.2 b (dL (aR (bK e) I.ok.above))).trans (I.base.keep b o e n O hx)
  ·obtain⟨sl,B⟩:=I.base.slot b o e n O hx;exact⟨sl,(g.2 b (dL (aR (bK e) I.ok.above))).trans B⟩
  ·obtain⟨δ,B⟩:=Yez o e hx;exact⟨δ,(g.2 b (dL (aR (bK e) I.ok.above))).trans B⟩
  ·by_cases hj:j=i
   ·subst hj;rw[hi]at B;cases B;rw[List.getElem?_set_self T]at G;cases G;exact⟨u,r,Y4c J (by simp)⟩
   ·rw[List.getElem?_set_ne (Ne.symm hj)]at G;obtain⟨η,μ,q⟩:=ξ j y θ B G γ;refine Y05 η μ;rcases q with⟨k,e⟩ | ⟨k,c,e,z⟩
    ·refine .inl (Y0o k);have:y≠x:=λe=>hj (JX hN B (e ▸ hi));simp[this,e]
    ·exact .inr ⟨k,c,e,z.sameBut g (cne y c e)⟩
  ·obtain⟨α,z⟩:=Y7W y e;exact⟨α,z.sameBut g (cne y c e)⟩
  ·obtain⟨e,n,ne,ζ,d⟩:=Y8V β;exact⟨(g.2 p.1 ne).trans e,n,ne,ζ,d⟩
 ·have L:Y84=true:=by
   rcases hf with z | z
   ·exact z
   ·rw[z]at J;cases J
  obtain⟨c,C⟩:=I.ok.has x (.inl J);obtain⟨α,z⟩:=Y7W x C;refine wpAny_storeName_cell I.ok.kind J C z (λP S g=>?_);obtain⟨ν,W,R⟩:=id z;refine h { s with heap:=P } ⟨I.ok,I.os,I.bare,⟨Ydx,Ydx,I.base.free,λb o e hx=>?_,I.base.tups,I.base.frzs,I.base.tbls⟩,⟨m,κ.sameBut g (Ne.symm (cne x c C)),λj y θ B G γ=>?_⟩,λy Z e=>?_,I.free,I.freeC,λp β=>?_,l ⟨ν,W,Y9X x C⟩ g,by simpa using I.len⟩ ⟨c,g,.inr C⟩
  ·exact(g.2 b (dL (aR (bK e) (I.ok.cab x c L C)))).trans (I.base.keep b o e n O hx)
  ·obtain⟨sl,B⟩:=I.base.slot b o e n O hx;exact⟨sl,(g.2 b (dL (aR (bK e) (I.ok.cab x c L C)))).trans B⟩
  ·obtain⟨δ,B⟩:=Yez o e hx;exact⟨δ,(g.2 b (dL (aR (bK e) (I.ok.cab x c L C)))).trans B⟩
  ·by_cases hj:j=i
   ·subst hj;rw[hi]at B;cases B;rw[List.getElem?_set_self T]at G;cases G;exact⟨u,r,.inr ⟨.inl J,c,C,S⟩⟩
   ·rw[List.getElem?_set_ne (Ne.symm hj)]at G;obtain⟨η,μ,q⟩:=ξ j y θ B G γ;refine Y05 η μ;rcases q with q | ⟨k,Z,e,χ⟩
    ·exact .inl q
    ·refine .inr ⟨k,Z,e,χ.sameBut g ?_⟩;rintro rfl;exact hj (JX hN B (I.ok.inj _ _ _ e C ▸ hi))
  ·by_cases hcc:Z=c
   ·subst hcc;exact Y3z S
   ·obtain⟨φ,ψ⟩:=I.cell y Z e;exact⟨φ,ψ.sameBut g hcc⟩
  ·obtain⟨e,n,ne,ζ,d⟩:=Y8V β;refine⟨(g.2 p.1 ?_).trans e,n,ne,ζ,d⟩;intro q;rw[q,W]at e;have ρ:ν=p.2:=fN e;exact d α (by rw[<-ρ];exact R)
def wH{M:Model}{A:Around}{E:Ya}{i:Nat}{x:Str}{v:V}{u:Value}{Q:Ybx}(I:Y6)(hN:X.N.Nodup)(hi:Y3E=Y7)(hx:Y9t x)(r:Y41)
  (h:∀s',cY X pins (Ycm i) H s'->Q () s') (hf:Y84=true\/Y6q x:=by first | exact .inl rfl | exact .inr rfl | assumption):wpAny M A (storeName X.env x u) Q E s :=
 EU I hN hi hx r (λs' I' _=>h s' I') hf
def cY.call'{s':Shared}{ch:Y0v}(I:Y6)(ho:s'.os=s.os)(u:Un (frs X.stack) ch H H' s.heap s'.heap)(hok:YbK X.w H' s'.heap)(hg:Yc9)
  (hch:∀b∈ch,(b∈X.ex\/Y8g b)/\Y4J b/\(∀x c,Y3Z->c≠b)/\∀p∈X.pn++pins,p.1≠b):Y58 s':=by
 obtain⟨d,g',d',t',a⟩:=s';have e:a=s.os:=ho;subst e;exact I.call (g':=g') (t':=t') (d':=d') u hok hg hch
end
abbrev XK:=Value->Y1P Y5s
abbrev St:=Y8q V
abbrev _root_.Am:=Option V
abbrev _root_.Al:=Y78
abbrev VK:=Y8U
abbrev TE:=St->(Y5n VK)
abbrev TT:=St->Y5n Ybv
abbrev TA:=St->Y5n (Y1P Al)
structure pW where
 nx:Y2J
 rt:VK
 bk:Y2J:=Ycg
 ct:Y2J:=Ycg
abbrev TS:=pW->Y2J
def EP(X:Cx)(pins:Ad)(σ:St)(Q:VK)(u:Value)(s':Shared):Prop:=∃v H',Y58 s'/\Y41/\Y1W
def TP(X:Cx)(pins:Ad)(σ:St)(Q:Ybv)(b:Bool)(s':Shared):Prop:=∃H',Y58 s'/\Q b H'
def AP(X:Cx)(pins:Ad)(σ:St)(Q:Y1P Al)(us:Ag)(s':Shared):Prop:=∃vs H',Y58 s'/\Y2m vs/\Q vs H'
def SP(X:Cx)(pins:Ad)(D:pW)(f:Flow)(s':Shared):Prop :=
 match f with
 | .next=>∃σ' H',cY X pins σ' H' s'/\D.nx σ' H'
 | .brk=>∃σ' H',cY X pins σ' H' s'/\D.bk σ' H'
 | .cont=>∃σ' H',cY X pins σ' H' s'/\D.ct σ' H'
 | .ret u=>∃v σ' H',cY X pins σ' H' s'/\fH v u/\D.rt v H'
def PE(X:Cx)(e:Expr)(t:TE):Prop :=
 ∀(pins:Ad) (s:Shared) (σ:St) (H:Hp) (Q:VK),Y6->t σ H Q->Y74 Y1l X σ Q
def PT(X:Cx)(e:Expr)(t:TT):Prop :=
 ∀(pins:Ad) (s:Shared) (σ:St) (H:Hp) (Q:Ybv),Y6->t σ H Q->Y55 (isTrue e X.env (Y1l)) (TP X pins σ Q)
def PW(X:Cx)(e:Expr)(t:TT):Prop :=
 ∀(whole:Y8C) (pins:Ad) (s:Shared) (σ:St) (H:Hp) (Q:Ybv),Y6->t σ H Q->Y55 (isTrue e X.env whole) (TP X pins σ Q)
def PW.pt{X:Cx}{e:Expr}{t:TT}(h:PW X e t):PT X e t:=h _
def PA(X:Cx)(es:Y0h)(t:TA):Prop :=
 ∀(pos:Pos) (pins:Ad) (s:Shared) (σ:St) (H:Hp) (Q:Y1P Al),Y6->t σ H Q->Y55 (spliced (backTo pos (Y39))) (AP X pins σ Q)
def PS(X:Cx)(st:Stmt)(t:TS):Prop :=
 ∀(pins:Ad) (s:Shared) (σ:St) (H:Hp) (D:pW),Y6->t D σ H->Y55 (exec st X.env) (SP X pins D)
def OO(X:Cx)(st:Y5z)(t:TS):Prop :=
 ∀(pins:Ad) (s:Shared) (σ:St) (H:Hp) (D:pW),Y6->t D σ H->Y55 (execs st X.env) (SP X pins D)
def thn{α:Type}{t:Sem α}{Q Q':Y2v α}{M:Model}{A:Around}{E:Ya}{s:Shared}(h:wpAny M A t Q E s)(hQ:∀a s,Q a s->Q' a s):wpAny M A t Q' E s:=YdD h hQ x
section
variable{X:Cx}
def WS(i:Nat):TE:=λσ H Q=>∃v,σ[i]?=YaX/\Q v H
def tC(v:V):TE:=λ_ H Q=>Q v H
def aE2{i:Nat}{x:Str}{pos:Pos}(hN:Y3E=Y7)(hv:YdX x)(hd:Y1L ("__debug__" : Str):=by decide)(hcd:Y1L ("__classdict__" : Str):=by decide):Yn Y7Y (WS i):=by
 intro j s σ H Q I h;obtain⟨v,e,h⟩:=h;obtain⟨m,y,w⟩:=I.loc;obtain⟨u,r,l⟩:=w i x v hN e hv;have d:EP X j σ Q u s:=⟨v,H,I,r,h⟩;rcases l with⟨g,p⟩ | ⟨g,c,n,a⟩
 ·exact wpAny_Name (wpAny_loadName_local I.ok.kind g y p d) hd
 ·rcases g with g | g
  ·exact wpAny_Name (wpAny_loadName_cell I.ok.kind g n a d) hd
  ·exact wpAny_Name (wpAny_loadName_free I.ok.kind g n a d hcd) hd
def pe_int{i j pos}:Yn (Y8t Y1s j) (tC (Y1s)):=λ_ _ _ H _ I h=>wpAny_Constant_int ⟨Y1s,H,Y1G,Y37,h⟩
def pe_bl{b j pos}:Yn (Y8t (.bool b) j) (tC (.bl b)):=λ_ _ _ H _ I h=>Constant_bool (Y0H (.bl b) H I h)
def pe_non{j pos}:Yn (Y8t .none j) (tC .non):=λ_ _ _ H _ I h=>Constant_none (Y0H .non H I h)
def pe_str{x j pos}:Yn (Y8t (.str x) j) (tC (.str x)):=λ_ _ _ H _ I h=>Calls.Constant_str ⟨.str x,H,Y1G,Y37,h⟩
def Gl(X:Cx)(x:Str):Prop:=Y6N x (some .globalImplicit)
def HV{E:Ya}{pins:Ad}{s:Shared}{σ:St}{H:Hp}{x:Str}{u:Value}{pos:Pos}{Q:Ya}(I:Y6)(hg:Y3h)(hm:Y6w=Ym)(h:Q u s)
  (hd:Y1L ("__debug__" : Str):=by decide):Y7v (Y0d Y7Y) Q E s :=
 Calls.Name_function_global I.ok.kind hg (Calls.loadGlobal_global (by rw[I.ok.glob];exact Yfe) hm h) hd
def rQ{E:Ya}{pins:Ad}{s:Shared}{σ:St}{H:Hp}{x:Str}{u:Value}{pos:Pos}{Q:Ya}(I:Y6)(hg:Y3h)(hm:Y6w=none)(hv:Y9u=Ym)(h:Q u s)
  (hn:x ≠ "__name__" := by decide) (hd:Y1L ("__debug__" : Str):=by decide):Y7v (Y0d Y7Y) Q E s:=by
 obtain⟨d,c,a⟩:=I.mod.blt;exact Calls.Name_function_global I.ok.kind hg (Calls.loadGlobal_builtin (by rw[I.ok.glob];exact Yfe) hm (by rw[I.ok.blt];exact c.keeps I.bk) ((a x hn).trans hv) h) hd
def aBS{x:Str}{v:V}{u:Value}{pos:Pos}(hg:Y3h)(hm:Y6w=Ym)(r:Y41)(hd:Y1L ("__debug__" : Str):=by decide):Yn Y7Y (tC v) :=
 λ_ _ _ H _ I h=>HV I hg hm ⟨v,H,I,r,h⟩ hd
variable{a b:Expr}{ta tb:TE}{pos:Pos}
def tB(t:TE):TT:=Y5P H (λx H1=>∃c,x=.bl c/\Q c H1)
def aEP{e:Expr}{t:TE}(h:Yn e t)(he:∀whole,isTrue e X.env whole=(do let v <-whole;standAt e.pos;holding [v] (truthy v)):=by intro _;rfl):PT X e (tB t):=by
 intro a s σ H Q I c;refine isTrue_plain (thn (h a s σ H _ I c) λv j ⟨x,H1,I1,g,i⟩=>?_) (he _);obtain⟨d,rfl,q⟩:=i;cases g;exact wpAny_truthy_bool ⟨H1,I1,q⟩
variable{tA tB':TT}{rest:Y0h}
def aGr(t u:TT):TT:=Y5P H (λc H1=>if c=true then u σ H1 Q else Q false H1)
def tOr(t u:TT):TT:=Y5P H (λc H1=>if c=true then Q true H1 else u σ H1 Q)
def aBH(ha:PT X a tA):PW X (Y6X [a]) tA:=by
 intro g d s σ H Q I h;refine isTrue_and (thn (ha d s σ H Q I h) λc i e=>?_);cases c with
 | true=>exact isTrue_and_nil e
 | false=>exact e
def aEM(ha:PT X a tA):PW X (Y7w .Or [a]) tA:=by
 intro g d s σ H Q I h;refine isTrue_or (thn (ha d s σ H Q I h) λc i e=>?_);cases c with
 | false=>exact isTrue_or_nil e
 | true=>exact e
def aEN(ha:PT X a tA)(hb:PW X (Y6X Y5Y) tB'):PW X (Y6X (a::Y5Y)) (aGr tA tB'):=by
 intro g d s σ H Q I h;refine isTrue_and (thn (ha d s σ H _ I h) λc i ⟨H1,I1,e⟩=>?_);cases c with
 | true=>exact hb g d i σ H1 Q I1 e
 | false=>exact⟨H1,I1,e⟩
def aGE(ha:PT X a tA)(hb:PW X (Y7w .Or Y5Y) tB'):PW X (Y7w .Or (a::Y5Y)) (tOr tA tB'):=by
 intro g d s σ H Q I h;refine isTrue_or (thn (ha d s σ H _ I h) λc i ⟨H1,I1,e⟩=>?_);cases c with
 | true=>exact⟨H1,I1,e⟩
 | false=>exact hb g d i σ H1 Q I1 e
def WX(ta tb:TE):TE:=YbC σ H (∃c,x=.bl c/\if c=true then tb σ H1 Q else Q (.bl false) H1)
def aE4{op}{t:TE}(h:Yn a t):Yn (Y7w op [a]) t:=λc s σ H Q I d=>BoolOp_one (h c s σ H Q I d)
def aE7(ha:Y6A a)(hb:Yn (Y6X Y5Y) tb):Yn (Y6X (a::Y5Y)) (WX ta tb):=by
 intro d s σ H Q I h;refine BoolOp_and (thn (ha d s σ H _ I h) λv g ⟨x,H1,I1,i,e⟩=>?_);obtain⟨c,rfl,e⟩:=e;cases i;refine wpAny_truthy_bool ?_;cases c with
 | true=>exact hb d g σ H1 Q I1 e
 | false=>exact Y0H (.bl false) H1 I1 e
def tIf(t:TT)(ta tb:TE):TE:=Y5P H (λc H1=>if c=true then ta σ H1 Q else tb σ H1 Q)
def YM{c:Expr}(hc:PT X c tA)(ha:Y6A a)(hb:Yn b tb):Yn (.IfExp c a b pos) (tIf tA ta tb):=by
 intro e s σ H Q I h;refine wpAny_IfExp (thn (hc e s σ H _ I h) λd g ⟨H1,I1,i⟩=>?_);cases d with
 | true=>exact ha e g σ H1 Q I1 i
 | false=>exact hb e g σ H1 Q I1 i
end
def fV(K:Aa)(H:Hp)(a:Addr)(xs:Al):Prop :=
 Rd H a (.lst xs) \/
  ∃(o:Obj) (its:Ai) (n:Nat),YcJ=Y9/\o.cls=.type "list" /\ o.dict=none/\o.data=.seq its n/\Y0q its.size/\eJ xs its.toList
def jC(K:Aa)(H:Hp)(a:Addr)(xs:Al):Prop :=
 Rd H a (.tup xs) \/
  ∃(o:Obj) (its:Ai) (n:Nat),YcJ=Y9/\o.cls=.type "tuple" /\ o.data=.seq its n/\Y0q its.size/\eJ xs its.toList
def aJA:Value->Am
 | .none=>some .non
 | .bool b=>some (.bl b)
 | .int i _=>some (.int i)
 | .str x _=>some (.str x)
 | .bytes b _=>some (.byt b)
 | .float b _=>some (.flt b)
 | .ref a=>some (.ref a)
 | .type n=>some (.ty n)
 | _=>none
def fH.abs{x:V}{u:Value}(r:fH x u):aJA u=Y7:=by
 cases x with
 | non=>cases r;rfl
 | bl _=>cases r;rfl
 | int _=>obtain⟨t,rfl⟩:=r;rfl
 | str _=>obtain⟨t,rfl⟩:=r;rfl
 | byt _=>obtain⟨t,rfl⟩:=r;rfl
 | flt _=>obtain⟨t,rfl⟩:=r;rfl
 | ref _=>cases r;rfl
 | ty _=>cases r;rfl
def fH.inj{x y:V}{u:Value}(r:fH x u)(q:Y3D):x=y:=fN (r.abs.symm.trans q.abs)
theorem eJ.inj:∀{xs ys:Al}{us:Ag},Y5L->Y2m ys->xs=ys
 | _,_,_,.nil,.nil=>rfl
 | _,_,_,.cons r t,.cons r' t'=>by rw[r.inj r',eJ.inj t t']
section
variable{X:Cx}{pins:Ad}{σ:St}{H:Hp}{s:Shared}{a:Addr}{xs ys:Al}
def fV.of{K:Aa}(h:H a=Y0I):Y3i K H a:=Ycx h
def jC.of{K:Aa}(h:H a=Y16):Y49 K a:=Ycx h
def cY.list(I:Y6)(h:Y3i X.K H a):∃its:Ag,eJ xs its/\PlainL s.heap a its.toArray/\Y4L:=by
 rcases h with h | ⟨o,its,n,d,g,hd,c,i,r⟩
 ·obtain⟨z,its,n,r,e⟩:=h.ok I.hok;exact⟨its,r,Y6e _ n e rfl rfl,z⟩
 ·refine Y2X its.toList r ⟨o,n,I.kIn a o d,g,hd,by simpa using c⟩;have e:=r.length;simp only[Array.length_toList]at e;exact Oo
def cY.tuple(I:Y6)(h:Y49 X.K a):∃its:Ag,eJ xs its/\YcA a its.toArray/\Y4L:=by
 rcases h with h | ⟨o,its,n,d,g,c,i,r⟩
 ·obtain⟨⟨z,_⟩,its,r,p⟩:=h.ok I.hok;exact⟨its,r,p,z⟩
 ·refine Y2X its.toList r ⟨o,I.kIn a o d,g,n,by simpa using c⟩;have e:=r.length;simp only[Array.length_toList]at e;exact Oo
def cY.list_inj(I:Y6)(h:Y3i X.K H a)(h':fV X.K H a ys):xs=ys:=by
 obtain⟨g,r,⟨o,n,e,_,_,d⟩,_⟩:=I.list h;obtain⟨c,l,⟨m,p,j,_,_,i⟩,_⟩:=I.list h';rw[e]at j;cases j;rw[d]at i;injection i with d1 _;have:g=c:=by simpa using congrArg Array.toList d1
 subst this;exact r.inj l
def cY.tuple_inj(I:Y6)(h:Y49 X.K a)(h':jC X.K H a ys):xs=ys:=by
 obtain⟨g,r,⟨o,e,_,n,d⟩,_⟩:=I.tuple h;obtain⟨c,l,⟨m,j,_,p,i⟩,_⟩:=I.tuple h';rw[e]at j;cases j;rw[d]at i;injection i with d1 _;have:g=c:=by simpa using congrArg Array.toList d1
 subst this;exact r.inj l
end
abbrev Cx.wish(X:Cx)(E:Ya):Cx:={ X with xe:=E }
abbrev Cx.nox(X:Cx):Cx:=X.wish Ycg
theorem Cx.Ok.wish{X:Cx}(ok:X.Ok)(E:Ya):(X.wish E).Ok :=
 ⟨ok.mod,ok.kind,ok.glob,ok.blt,ok.above,ok.inj,ok.has,ok.cab,ok.hd,ok.frames,ok.stk,ok.exf,ok.bs,ok.bsz,ok.noex,ok.exfs,ok.funs,ok.frf⟩
def Cx.Ok.unwish{X:Cx}{E:Ya}(ok:(X.wish E).Ok):X.Ok :=
 ⟨ok.mod,ok.kind,ok.glob,ok.blt,ok.above,ok.inj,ok.has,ok.cab,ok.hd,ok.frames,ok.stk,ok.exf,ok.bs,ok.bsz,ok.noex,ok.exfs,ok.funs,ok.frf⟩
section
variable{X:Cx}{pins:Ad}{σ:St}{H:Hp}{s:Shared}{E:Ya}
theorem cY.wish(I:Y6)(E:Ya):cY (X.wish E) pins σ H s:=⟨I.ok.wish E,I.os,I.bare,I.base,I.loc,I.cell,I.free,I.freeC,I.pin,I.hok,I.len⟩
theorem cY.unwish(I:cY (X.wish E) pins σ H s):Y6:=⟨I.ok.unwish,I.os,I.bare,I.base,I.loc,I.cell,I.free,I.freeC,I.pin,I.hok,I.len⟩
theorem SP.unwish{D:pW}{f:Flow}{s':Shared}(h:SP (X.wish E) pins D f s'):SP X pins D f s':=by
 cases f with
 | next=>obtain⟨a,H',I,q⟩:=h;exact⟨a,H',I.unwish,q⟩
 | brk=>obtain⟨a,H',I,q⟩:=h;exact⟨a,H',I.unwish,q⟩
 | cont=>obtain⟨a,H',I,q⟩:=h;exact⟨a,H',I.unwish,q⟩
 | ret u=>obtain⟨v,a,H',I,r,q⟩:=h;exact⟨v,a,H',I.unwish,r,q⟩
theorem OO.nox{st:Y5z}{t:TS}(h:OO X.nox st t):OO X st t:=λa s σ H D I c =>
 wpAny_mono (h a s σ H D (I.wish _) c) (λ_ _ q=>q.unwish) λ_ _ z=>False.elim z
end
section
variable{X:Cx}{st:Stmt}{rest:Y5z}{t u:TS}{e:Expr}{te:TE}{pos:Pos}
def aC0:TS:=λD σ H=>Y3Y
def aBh(t u:TS):TS:=λD σ H=>t { D with nx:=u D } σ H
def pss_nil:OO X [] aC0:=λ_ _ σ H _ I h=>YfS σ H I h
def YC(h1:PS X st t)(h2:OO X rest u):OO X (st :: rest) (aBh t u):=by
 intro a s σ H D I h;refine wpAny_execs_cons (thn (h1 a s σ H { D with nx:=u D } I h) λf d q=>?_);cases f with
 | next =>
  obtain⟨c,H',I',q⟩:=q;exact h2 a d c H' D I' q
 | ret v=>exact q
 | brk=>exact q
 | cont=>exact q
def aBK(h1:PS X st t):OO X [st] t:=by
 intro a s σ H D I h;refine wpAny_execs_cons (thn (h1 a s σ H D I h) λf c q=>?_);cases f with
 | next=>exact wpAny_execs_nil q
 | ret v=>exact q
 | brk=>exact q
 | cont=>exact q
def cY.quiet{pins:Ad}{σ:St}{H:Hp}{s:Shared}(I:Y6):Yy (interactive X.env):=by simp[interactive,I.ok.kind]
def aC3(te:TE):TS:=λD σ H=>te σ H λ_ H1=>Y8o H1
def aBL(he:Yn e te)(hs:YeX e none pos.line=Y4Q:=by rfl):PS X (.Expr e pos) (aC3 te):=by
 intro a s σ H D I h;exact wpAny_Expr_any (thn (he a s σ H _ I h) λv d ⟨x,H1,I1,g,c⟩=>⟨σ,H1,I1,c⟩) I.quiet hs
def aGj(te:TE):TS:=λD σ H=>te σ H D.rt
def aER(he:Yn e te):PS X (.Return (Y7b) pos) (aGj te):=by
 intro a s σ H D I h;exact wpAny_Return_some (thn (he a s σ H _ I h) λv g ⟨x,H1,I1,c,d⟩=>⟨x,σ,H1,I1,c,d⟩)
def aGl(c:TT)(t u:TS):TS:=λD σ H=>c σ H λb H1=>if b=true then t D σ H1 else u D σ H1
def aGF{c:Expr}{a b:Y5z}{tc:TT}(hc:PT X c tc)(ha:OO X a t)(hb:OO X b u):PS X (.If c a b pos) (aGl tc t u):=by
 intro e s σ H D I h;refine wpAny_If (thn (hc e s σ H _ I h) λd g ⟨H1,I1,i⟩=>?_);cases d with
 | true=>exact ha e g σ H1 D I1 i
 | false=>exact hb e g σ H1 D I1 i
end
abbrev TG:=V->St->Y5n Y2J
abbrev TGs:=Al->St->Y5n Y2J
def PG(X:Cx)(target:Expr)(t:TG):Prop :=
 ∀(pins:Ad) (s:Shared) (σ:St) (H:Hp) (v:V) (u:Value) (Q:Y2J),Y6->Y41->t v σ H Q ->
  Y55 (assign target X.env u) (λ_ s'=>∃σ' H',cY X pins σ' H' s'/\Q σ' H')
def PGs(X:Cx)(ts:Y0h)(t:TGs):Prop :=
 ∀(pins:Ad) (s:Shared) (σ:St) (H:Hp) (vs:Al) (us:Ag) (Q:Y2J),Y6->Y2m vs->t vs σ H Q ->
  Y55 (assignInOrder ((assignEach ts X.env).map (·.2)) us) (λ_ s'=>∃σ' H',cY X pins σ' H' s'/\Q σ' H')
abbrev aCN:=V->V->V->Y5n (Y1c Hp)
def aFT(X:Cx)(t:aCN):Prop :=
 ∀(pins:Ad) (s:Shared) (σ:St) (H:Hp) (o i v:V) (ov iv u:Value) (Q:Y1c Hp),Y6->fH o ov->fH i iv->Y41->t o i v H Q ->
  Y55 (setItem ov iv u) (λ_ s'=>∃H',Y58 s'/\Q H')
section
variable{X:Cx}{pos:Pos}
def nO(i:Nat):TG:=λv σ H Q=>Q (Ycm i) H
def HJ{i:Nat}{x:Str}(hN:X.N.Nodup)(hi:Y3E=Y7)(hx:Y9t x)(hf:Y84=true\/Y6q x:=by first | exact .inl rfl | exact .inr rfl | assumption):PG X (Y7Y) (nO i):=by
 intro a s σ H v u Q I r h;exact wpAny_assign_Name (wH I hN hi hx r (λc I'=>⟨_,H,I',h⟩) hf)
def aFw:TGs:=λvs σ H Q=>vs=[]/\Q σ H
def ZS(t:TG)(u:TGs):TGs:=λvs σ H Q=>∃v r,vs=v::r/\t v σ H λσ' H'=>u r σ' H' Q
def pgs_nil:PGs X [] aFw:=by
 intro a s σ H c d Q I r h;obtain⟨e,h⟩:=h;subst e;cases r;exact assignInOrder_nil ⟨σ,H,I,h⟩
def YK{e:Expr}{es:Y0h}{t:TG}{u:TGs}(h1:PG X e t)(h2:PGs X es u)
  (hs:(assignEach (e::es) X.env).map (·.2)=Ycp e::(assignEach es X.env).map (·.2):=by rfl):PGs X (e::es) (ZS t u):=by
 intro a s σ H j l Q I r h;obtain⟨v,m,i,h⟩:=h;subst i;cases r with
 | cons r rr =>
  rw[hs];refine assignInOrder_cons (thn (h1 a s σ H _ _ _ I r h) λ_ g ⟨c,H1,I1,d⟩=>?_);exact h2 a g c H1 _ _ Q I1 rr d
def aFv(K:Aa)(n:Nat)(t:TGs):TG:=λv σ H Q=>∃a xs,v=Yd/\Y49 K a/\Y5u n/\t xs σ H Q
def aE0{es:Y0h}{k:Nat}{t:TGs}{n:Nat}(hc:Y1t)(h:PGs X es t)
  (hn:(assignEach es X.env).length=n:=by rfl) (hst:(assignEach es X.env).findIdx? (·.1)=none:=by rfl):PG X (.Tuple es k pos) (aFv X.K n t):=by
 intro c s σ H v u Q I r d;obtain⟨a,m,y,l,j,d⟩:=d;subst y;cases r;obtain⟨g,rv,w,z⟩:=I.tuple l;refine assign_Tuple_tuple (Y8x) w (by simp[hn,<-j,rv.length]) hst λp i=>?_;have I1:Y29 c H ({ s with heap:=p }):=I.kept (t':=s.toks) λb o e=>i b o (dL (bK e)) e;exact h c _ σ H m _ Q I1 (by simpa using rv) d
def aGY(to ti:TE)(t:aCN):TG:=λv σ H Q=>to σ H λo H1=>ti σ H1 λi H2=>t o i v H2 λH3=>Q σ H3
def aE1{o i:Expr}{to ti:TE}{t:aCN}(ho:Yn o to)(hi:Yn i ti)(hs:aFT X t)
  (ha:∀v,assign (.Subscript o i pos) X.env v=(do
   let ov <-holding [v] (eval o X.env)
   let iv <-holding [v,ov] (eval i X.env)
   standAt pos
   holding [v,ov,iv] (setItem ov iv v)
   release [v,ov,iv] []):=by intro _;rfl):PG X (Y7y o i) (aGY to ti t):=by
 intro a s σ H v u Q I r h;rw[ha];refine YbT (thn (ho a s σ H _ I h) λov e ⟨x,H1,I1,m,c⟩=>?_);refine YbT (thn (hi a e σ H1 _ I1 c) λiv g ⟨y,H2,I2,j,l⟩=>?_);refine Ydj (YbT (thn (hs a g σ H2 x y v ov iv u _ I2 m j r l) λ_ n ⟨H3,I3,d⟩=>?_));exact wpAny_release ⟨σ,H3,I3,d⟩
def GU(te:TE)(g:TG):TS:=λD σ H=>te σ H λx H1=>g x σ H1 D.nx
def aEW{tg e:Expr}{te:TE}{g:TG}(he:Yn e te)(hg:PG X tg g)(hs:Ydy [tg] e X.env=Y4Q:=by rfl)(hw:YdE [tg] e=pure none:=by rfl)
  (h1:(assignEach [tg] X.env).map (·.2)=[Ycp tg]:=by rfl):PS X (Y65 [tg] e) (GU te g):=by
 intro a s σ H D I h;refine wpAny_Assign_stores (thn (he a s σ H _ I h) λv c ⟨x,H1,I1,d,i⟩=>?_) hs hw;rw[h1];exact thn (hg a c σ H1 x v _ I1 d i) λ_ j q=>q
def aEQ{i:Nat}{x:Str}{e:Expr}{te:TE}{pos':Pos}(hN:X.N.Nodup)(hi:Y3E=Y7)(hx:Y9t x)(he:Yn e te)(hs:Y9N e Ybw=Y4Q:=by rfl)(hf:Y84=true\/Y6q x:=by first | exact .inl rfl | exact .inr rfl | assumption) :
  PS X (Y65 [Ybw] e) (GU te (nO i)):=by
 intro a s σ H D I h;refine wpAny_Assign_Name (thn (he a s σ H _ I h) λv g ⟨y,H1,I1,c,d⟩=>?_) hs;exact wH I1 hN hi hx c (λj I2=>⟨_,H1,I2,d⟩) hf
def aGk(i j:Nat)(ta:TA):TS:=λD σ H=>ta σ H λvs H1=>∃v w,vs=[v,w]/\D.nx ((σ.set i (some v)).set j (some w)) H1
def aES{i j:Nat}{x y:Str}{a b:Expr}{ta:TA}{px py pt:Pos}{kt k2 pt2}(hc:Y1t)(hN:X.N.Nodup)(hi:Y3E=Y7)(hj:X.N[j]?=Y0b)(hij:i≠j)
  (hx:Y6q x) (hy:Y6q y) (ha:PA X [a,b] ta)
  (hw:YdE [Y3N [Y3S,Y4x] kt] (Ybh [a,b] k2)=pure (some [x,y]))
  (hs:Ydy [Y3N [Y3S,Y4x] kt] (Ybh [a,b] k2) X.env=Y4Q:=by rfl) :
  PS X (Y65 [Y3N [Y3S,Y4x] kt] (Ybh [a,b] k2)) (aGk i j ta):=by
 intro c s σ H D I h;rw[exec_Assign_arm];refine Ydj ?_;rw[hs];refine Y3m ?_;rw[Y2E];refine wpAny_bind (Tuple_ (thn (ha _ c s σ H _ I h) λr d ⟨B,H1,I1,u,l⟩=>?_));obtain⟨v,w,z,l⟩:=l;subst z;obtain⟨u1,g,rfl,rv,n⟩:∃u1 g,r=[u1,g]/\fH v u1/\fH w g:=by
  cases u with
  | cons p q =>
   cases q with
   | cons p' q' =>
    cases q';exact Y0i _ _ p p'
 refine Yfq (by show Y0q 2;decide);have I2:Y29 c H1 ({ d with heap:=d.heap.push { cls:=.type "tuple",data:=.seq [u1,g].toArray } }):=Ydu (Y64 _ e);rw[hw];refine Y3m ?_;show wpAny (Y8S) X.A (do rule "assign.swapped-stores";let items <-unpackItems (.ref d.heap.objs.size) 2 none;assignInOrder [λv=>bindName X.env y v,λv=>bindName X.env x v] items.reverse;pure Flow.next) _ _ _;refine Y9g (wpAny_bind (unpackItems_tuple (items:=#[u1,g]) (Y8x) (IsTup.new d.heap _) λh' m=>?_));have I3:=I2.kept (h':=h') (t':=d.toks) λb o e=>m b o (dL (bK e)) e;show Y27 (assignInOrder [λv=>bindName X.env y v,λv=>bindName X.env x v] [g,u1] >>= λ_=>pure Flow.next);refine wpAny_bind (assignInOrder_cons (wpAny_bindName (wH I3 hN hj (.inl hy) n (λG I4=>?_) (.inr hy))));refine assignInOrder_cons (wpAny_bindName (wH I4 hN hi (.inl hx) rv (λC I5=>assignInOrder_nil (Y2e)) (.inr hx)));rw[List.set_comm _ _ (Ne.symm hij)]at I5;exact⟨_,H1,I5,l⟩
end
section
variable{X:Cx}{pos:Pos}
def GT(c:TT)(tb:TS):TS:=λD σ H=>∃W:Nat->St->Hp->Prop,(∃m,W m σ H)/\∀m σ H,W m σ H ->
 c σ H λb H1=>if b=true then ∃N:St->Hp->Prop,(∀σ' H',N σ' H'->∃m',m' < m/\W m' σ' H')/\(tb { D with nx:=N,ct:=N,bk:=D.nx } σ H1) else Y8o H1
def YD{c:Expr}{body:Y5z}{tc:TT}{tb:TS}(hp:Ych Y8S X.A X.xe)(hc:PT X c tc)(hb:OO X body tb):PS X (.While c body [] pos) (GT tc tb):=by
 intro a s σ H D I h;obtain⟨W,⟨C,u⟩,turn⟩:=h;refine wpAny_While (codeAny_whileLoop (λn G=>∃σ' H',cY X a σ' H' G/\W n σ' H') ?_ C ⟨σ,H,I,u⟩);rintro n y ⟨e,H1,I1,z⟩;refine Y9l hp (hc a y e H1 _ I1 (turn n e H1 z)) (λb B ⟨H2,I2,i⟩=>?_);cases b with
 | true =>
  obtain⟨N,r,i⟩:=i;rw[Ys];refine Y9l hp (hb a B e H2 _ I2 i) (λf J g=>?_);cases f with
  | next =>
   obtain⟨d,H3,I3,j⟩:=g;obtain⟨l,p,m⟩:=r d H3 j;exact⟨l,p,d,H3,I3,m⟩
  | cont =>
   obtain⟨d,H3,I3,j⟩:=g;obtain⟨l,p,m⟩:=r d H3 j;exact⟨l,p,d,H3,I3,m⟩
  | brk=>exact g
  | ret v=>exact g
 | false =>
  rw[if_neg cC];exact YfS e H2 I2 i
end
structure It where
 go:Y1P Nat
 yld:Y1F (Hp->Y8U)
 stop:Y1P Nat
def pC(X:Cx)(pins:Ad)(H:Hp)(b:Addr):Prop :=
 H b=none/\Y4J b/\b ∉ X.fs/\(b∈X.ex\/Y8g b)/\(∀x c,Y3Z->c≠b)/\∀p∈X.pn++pins,p.1≠b
def cY.fpOk{X:Cx}{pins:Ad}{σ:St}{H H':Hp}{s:Shared}{b:Addr}(I:Y6)(hb:YfP b)(hn:Y1N=none):Y45 H':=by
 refine⟨hn,Nat.ne_of_gt (aR I.lt hb),I.nofs hb,.inr (aK I.sz hb),λx c e z=>?_,λp a z=>?_⟩
 ·obtain⟨v,q⟩:=Y7W x e;exact absurd (aR q.lt (by rw[z];exact hb)) (cO _)
 ·exact absurd (aR (bK ((Y8V a).1)) (by rw[z];exact hb)) (cO _)
structure LZ(P:Program)(w:World)(K:Aa)(tg:Expr)(J:It)(fp:Y0v)(it:Addr)(tn:Y7Q Nat):Prop where
 mem:it∈fp
 obj:∀i h,tn i h->∀b∈fp,∃o,Y20=Y9/\∀v,o.data ≠ .cell v
 keep:∀i h h',tn i h->(∀b∈fp,∀o,Y20=Y9->Y14=Y9)->tn i h'
 item:∀(X:Cx),X.prog=P->X.w=w->X.K=K->Y1t->∀(i:Nat) (pins:Ad) (s:Shared) (σ:St) (H:Hp) (E:Ya),Y6->(∀b∈fp,Y45 H)->tn i s.heap->Y8c H ->
  wpAny (model P w) X.A (pyNext (.ref it)) (λr s1=>∃u,r=Ym /\
   wpAny (model P w) X.A (letOwnedTupleGo tg (Y4Y) u) (λ_ s2=>∃x H',Y58 s2/\fH x u/\Y8a H x H'/\tn (i+1) s2.heap/\∀b∈fp,Y1N=none) E s1) E s
 done:∀(X:Cx),X.prog=P->X.w=w->X.K=K->Y1t->∀(i:Nat) (pins:Ad) (s:Shared) (σ:St) (H:Hp) (E:Ya),Y6->(∀b∈fp,Y45 H)->tn i s.heap->J.stop i H ->
  wpAny (model P w) X.A (pyNext (.ref it)) (λr s1=>r=none/\Y5k s1) E s
 self:∀(A:Around) (i:Nat) (s:Shared) (Q:Ya) (E:Ya),tn i s.heap->Y1d it s->wpAny (model P w) A (pyIter (Y4Y)) Q E s
abbrev TI:=St->Y5n (Y1P It)
def PIE(X:Cx)(pins:Ad)(σ:St)(tg:Expr)(R:Y1P It)(itv:Value)(s2:Shared):Prop :=
 ∃(it:Addr) (fp:Y0v) (tn:Y7Q Nat) (J:It) (H':Hp),itv=Y4Y/\Y58 s2/\LZ X.prog X.w X.K tg J fp it tn/\tn 0 s2.heap/\(∀b∈fp,Y45 H')/\R J H'
def PI(X:Cx)(tg iter:Expr)(wi:TI):Prop :=
 ∀(pins:Ad) (s:Shared) (σ:St) (H:Hp) (R:Y1P It),Y6->wi σ H R ->
  Y55 (Y0d iter) (λv s1=>Y9f (pyIter v) (PIE X pins σ tg R) s1)
def QZ{M:Model}{A:Around}{E:Ya}{s:Shared}{tg:Expr}{it:Addr}{u:Value}{o:Obj}{n:String}{vs:Ai}{Q:Ybx}(ho:Y9e it)(hc:o.cls=.type n)(hd:o.data=.fields vs)
    (hn:Yy (["enumerate","zip","dict_itemiterator","dict_reverseitemiterator","odict_iterator","itertools.zip_longest","itertools.pairwise"].contains n)) (hQ:Q () s):wpAny M A (letOwnedTupleGo tg (Y4Y) u) Q E s:=by
  unfold letOwnedTupleGo;cases tg <;> first
    | exact wpAny_pure hQ
    | (cases u <;> first
        | exact wpAny_pure hQ
        | (refine Yff ho ?_
           rw[hc,hd];show wpAny M A (if(["enumerate","zip","dict_itemiterator","dict_reverseitemiterator","odict_iterator","itertools.zip_longest","itertools.pairwise"].contains n&&vs[0]? == some (rawInt _))=true then _ else _) Q E s;rw[if_neg (by intro h;rw[hn,Bool.false_and]at h;cases h)];exact wpAny_pure hQ))
def Itl(K:Aa)(a:Addr):It :=
 ⟨Yeg (Y3i K H a/\Y0p=Y7),λi H x H'=>H'=H/\∀xs,Y3i K H a->Y0p=Y7,λi H=>∃xs,Y3i K H a/\Y4R i⟩
def Itt(K:Aa)(a:Addr):It :=
 ⟨Yeg (Y49 K a/\Y0p=Y7),λi H x H'=>H'=H/\∀xs,Y49 K a->Y0p=Y7,λi H=>∃xs,Y49 K a/\Y4R i⟩
def Itr(lo:Int)(n:Nat):It:=⟨λi _=>i<n,λi H x H'=>H'=H/\x=.int (lo+i),λi _=>n<=i⟩
def SS{P:Program}{w:World}{K:Aa}{tg:Expr}(a it:Addr):LZ P w K tg (Itl K a) [it] it (λi h=>h.IsListIter it a i) where
 mem:=by simp
 obj:=λi h st b j=>by
  have e:b=it:=by simpa using j
  subst e;obtain⟨o,e,c,d⟩:=st;exact Y1v e (λv z=>by rw[d]at z;cases z)
 keep:=λi h n st k=>st.at λo e=>k it (by simp) o e
 item:=by
  intro X N M A R i g s σ H E I r st G;subst N M A;obtain⟨γ,x,m,O⟩:=G;obtain⟨L,rv,p,Z⟩:=I.list m;obtain⟨u,β,ru⟩:=rv.get O;obtain⟨D,C,U,J,B,y⟩:=r it (by simp);refine wpAny_pyNext_list_item st p.isList (x:=u) (by simpa using β) λn l T=>?_;have I1:Y29 g H ({ s with heap:=n }):=Y9n (λb o j e=>(T.2 b j).trans e) D C J B y;obtain⟨o,e,c,d⟩:=id l;exact Yz u (QZ (s:={ s with heap:=n }) e c d Dd ⟨x,H,I1,ru,Y0O (λδ S=>by rw[I.list_inj S m];exact O),l,λb j=>(r b j).1⟩)
 done:=by
  intro X N M A R i g s σ H E I r st G;subst N M A;obtain⟨γ,m,O⟩:=G;obtain⟨L,rv,p,Z⟩:=I.list m;obtain⟨D,C,U,J,B,y⟩:=r it (by simp);have ε:=rv.length;exact wpAny_pyNext_list_end (I.ok.hd R) st p.isList (by simp;exact Oo) λn α=>Y0O (Y9n (λb o j e=>α b o j e) D C J B y)
 self:=λ_ _ _ _ _ st h=>wpAny_pyIter_listiter st h
def MK{P:Program}{w:World}{K:Aa}{tg:Expr}(a it:Addr):LZ P w K tg (Itt K a) [it] it (λi h=>h.IsTupleIter it a i) where
 mem:=by simp
 obj:=λi h st b l=>by
  have e:b=it:=by simpa using l
  subst e;obtain⟨o,e,c,d⟩:=st;exact Y1v e (λv z=>by rw[d]at z;cases z)
 keep:=λi h r st k=>st.at λo e=>k it (by simp) o e
 item:=by
  intro X N M B R i g s σ H E I y st J;subst N M B;obtain⟨γ,x,n,O⟩:=J;obtain⟨j,rv,p,Z⟩:=I.tuple n;obtain⟨u,β,ru⟩:=rv.get O;obtain⟨G,D,U,L,C,A⟩:=y it (by simp);refine wpAny_pyNext_tuple_item st (show s.heap.IsTuple a j.toArray from p) (x:=u) (by simpa using β) λr m T=>?_;have I1:Y29 g H ({ s with heap:=r }):=Y9n (λb o l e=>(T.2 b l).trans e) G D L C A;obtain⟨o,e,c,d⟩:=id m;exact Yz u (QZ (s:={ s with heap:=r }) e c d Dd ⟨x,H,I1,ru,Y0O (λδ S=>by rw[I.tuple_inj S n];exact O),m,λb l=>(y b l).1⟩)
 done:=by
  intro X N M B R i g s σ H E I y st J;subst N M B;obtain⟨γ,n,O⟩:=J;obtain⟨j,rv,p,Z⟩:=I.tuple n;obtain⟨G,D,U,L,C,A⟩:=y it (by simp);have ε:=rv.length;exact wpAny_pyNext_tuple_end (I.ok.hd R) st (show s.heap.IsTuple a j.toArray from p) (by simp;exact Oo) λr α=>Y0O (Y9n (λb o l e=>α b o l e) G D L C A)
 self:=λ_ _ _ _ _ st h=>wpAny_pyIter_tupleiter st h
def ML{P:Program}{w:World}{K:Aa}{tg:Expr}(it:Addr)(lo:Int)(n:Nat):LZ P w K tg (Itr lo n) [it] it (λi h=>IsRangeIter h it (lo+(i:Nat)*1) ((n:Int)-(i:Nat)) 1) where
 mem:=by simp
 obj:=λi h st b c=>by
  have e:b=it:=by simpa using c
  subst e;exact⟨_,st,λv z=>by
   have O:Data.fields _=Data.cell v:=z;cases O⟩
 keep:=λi h g st k=>k it (by simp) _ st
 item:=by
  intro X D C m B i a s σ H E I j st y;subst D C m;obtain⟨u,r,L,A,p,l⟩:=j it (by simp);have W:=Walks.range (prog:=X.prog) (w:=X.w) (I.ok.hd B) it lo 1 n;refine W.item i s _ _ y st λv g G J d M=>?_;obtain⟨t,rfl⟩:=J;have I1:Y29 a H ({ s with heap:=g,toks:=G }):=I.turned (λb o c e=>M b o (by simpa using c) e) u r A p l;refine Y5 (QZ (s:={ s with heap:=g,toks:=G }) (n := "range_iterator") d rfl rfl Dd ⟨.int (lo+i),H,I1,Y0o t,Y6o,d,λb c=>(j b c).1⟩);rw[Int.mul_one]
 done:=by
  intro X D C m B i a s σ H E I j st y;subst D C m;obtain⟨u,r,L,A,p,l⟩:=j it (by simp);exact wpAny_pyNext_range_end (I.ok.hd B) st (by have:n<=i:=y;exact Oo) λg N=>Y0O (Y9n (λb o c e=>N b o c e) u r A p l)
 self:=λ_ _ _ _ _ st h=>wpAny_pyIter_rangeiter st h
section
variable{X:Cx}{tg:Expr}
def ZL(K:Aa)(tl:TE):TI:=λσ H R=>tl σ H (YeI (x=Yd/\(∃xs,Y3i K H1 a)/\R (Itl K a) H1))
def aGW(K:Aa)(tl:TE):TI:=λσ H R=>tl σ H (YeI (x=Yd/\(∃xs,jC K H1 a xs)/\R (Itt K a) H1))
def aBP{l:Expr}{tl:TE}(hl:Yn l tl):PI X tg l (ZL X.K tl):=by
 intro c s σ H R I h;refine thn (hl c s σ H _ I h) λv d ⟨x,H1,I1,m,g⟩=>?_;obtain⟨a,e,⟨u,j⟩,q⟩:=g;subst e;cases m;obtain⟨i,rv,p,r⟩:=I1.list j;refine wpAny_pyIter_list p.isList ⟨d.heap.objs.size,Yfw,_,_,H1,rfl,Ydu (Y64 _ e),SS a _,Y8Z _,λb n=>?_,q⟩;have e:YfW b:=by simpa using n
 subst e;exact Yan Yl Yl
def aEZ{l:Expr}{tl:TE}(hl:Yn l tl):PI X tg l (aGW X.K tl):=by
 intro c s σ H R I h;refine thn (hl c s σ H _ I h) λv d ⟨x,H1,I1,m,i⟩=>?_;obtain⟨a,e,⟨u,j⟩,q⟩:=i;subst e;cases m;obtain⟨g,rv,p,r⟩:=I1.tuple j;refine wpAny_pyIter_tuple (show d.heap.IsTuple a g.toArray from p) ⟨d.heap.objs.size,Yfw,_,_,H1,rfl,Ydu (Y64 _ e),MK a _,Y8Z _,λb n=>?_,q⟩;have e:YfW b:=by simpa using n
 subst e;exact Yan Yl Yl
def JU{pins:Ad}{σ:St}{H:Hp}{s:Shared}{R:Y1P It}{E:Ya}{lo hi:Int}{t u v:Tok}{tk:Nat}(I:Y6)(h1:-(2^62)<=lo)(h2:lo<2^62)(h3:-(2^62)<=hi)(h4:hi<2^62)
  (q:R (Itr lo (hi-lo).toNat) H):Y7v (pyIter (Y2D)) (PIE X pins σ tg R) E ({ s with heap:=s.heap.push { cls:=.type "range",data:=.fields #[.int lo t,.int hi u,.int 1 v] },toks:=tk }):=by
 refine wpAny_pyIter_range (IsRange.new ..) (small_one h1 h2 h3 h4) ?_;have I1:Y5k ({ s with heap:=s.heap.push { cls:=.type "range",data:=.fields #[.int lo t,.int hi u,.int 1 v] },toks:=tk }):=I.kept (Y64 _ e);refine⟨(s.heap.push { cls:=.type "range",data:=.fields #[.int lo t,.int hi u,.int 1 v] }).objs.size,[(s.heap.push { cls:=.type "range",data:=.fields #[.int lo t,.int hi u,.int 1 v] }).objs.size],_,_,H,rfl,
  I1.kept (t':=tk) (Y64 _ e),ML _ lo (hi-lo).toNat,?_,λb c=>?_,q⟩
 ·have d:lo+((0:Nat):Int)*1=lo:=by simp
  have a:(((hi-lo).toNat:Nat):Int)-((0:Nat):Int)=Builtin.Range.rangeSize lo hi 1:=by rw[rangeSize_one];split <;> exact Oo
  show IsRangeIter _ _ (lo+((0:Nat):Int)*1) ((((hi-lo).toNat:Nat):Int)-((0:Nat):Int)) 1;rw[d,a];exact Y1u
 ·have e:b=(s.heap.push { cls:=.type "range",data:=.fields #[.int lo t,.int hi u,.int 1 v] }).objs.size:=by simpa using c
  subst e;exact Yan Yl Yl
def aDg(ta:TA):TI:=Ycy σ H (λvs H1=>∃j:Int,vs=[.int j]/\-(2^62)<=j/\j<2^62/\R (Itr 0 j.toNat) H1)
def aDf(ta:TA):TI:=Ycy σ H (λvs H1=>∃i j:Int,vs=[Y1s,.int j]/\(-(2^62)<=i/\i<2^62/\-(2^62)<=j/\j<2^62)/\R (Itr i (j-i).toNat) H1)
def TL{a:Expr}{ta:TA}{p pos:Pos}(hg:Gl X "range")(hm:X.mg "range" = none)(ha:PA X [a] ta)(hs:Y2C a=[(false,Y0d a)]:=by rfl):PI X tg (Y4h "range" p [a] []) (aDg ta):=by
 intro c s σ H R I h;refine Y9Y I hg hm boot_range (Y9c (ha pos c s σ H _ I h) (λm n ⟨l,H1,I1,i,d⟩=>?_) hs rfl);obtain⟨j,e,d,g,q⟩:=d;subst e;cases i with
 | cons r rr =>
  cases rr;obtain⟨t,rfl⟩:=r;exact call_range_1 (JU I1 Oo Oo d g (by simpa using q))
def TK{a b:Expr}{ta:TA}{p pos:Pos}(hg:Gl X "range")(hm:X.mg "range" = none)(ha:PA X [a,b] ta)(hs:Y1Y [a,b]=[(false,Y0d a),(false,Y0d b)]:=by rfl)(hs2:Y2C b=[(false,Y0d b)]:=by rfl) :
  PI X tg (Y4h "range" p [a,b] []) (aDf ta):=by
 intro c s σ H R I h;refine Y9Y I hg hm boot_range (Y9c (ha pos c s σ H _ I h) (λy z ⟨u,H1,I1,n,d⟩=>?_) (by rw[hs,hs2]) (by rw[hs2];rfl));obtain⟨i,j,e,⟨d,l,g,m⟩,q⟩:=d;subst e;cases n with
 | cons r rr =>
  cases rr with
  | cons r' rr =>
   cases rr;obtain⟨t,rfl⟩:=r;obtain⟨w,rfl⟩:=r';exact call_range_2 (JU I1 d l g m q)
def aGm(wi:TI)(g:TG)(tb:TS):TS:=λD σ H=>wi σ H λJ H1=>∃W:Nat->Nat->St->Hp->Prop,(Y7j 0 m σ H1)/\∀i m σ H,W i m σ H ->
 (J.stop i H/\Y3Y)\/(Y8c H/\∃N:St->Hp->Prop,Y9R (N σ' H'->∃m',m' < m/\W (i+1) m' σ' H') (Y8a H x H'->g x σ H' (Y5b ({ D with nx:=N,ct:=N,bk:=D.nx }))))
def CD(fp:Y0v)(h:Heap):Ad:=fp.filterMap λb=>(h.get? b).map λo=>(b,o)
def rM{fp:Y0v}{h:Heap}{b:Addr}{o:Obj}(hb:b∈fp)(e:Y20=Y9):(b,o)∈CD fp h:=List.mem_filterMap.mpr ⟨b,hb,by rw[e];rfl⟩
def TQ{fp:Y0v}{h:Heap}{p:Addr × Obj}(hp:p∈CD fp h):p.1∈fp/\h.get? p.1=some p.2:=by
 obtain⟨b,a,e⟩:=List.mem_filterMap.mp hp;cases q:Y20 with
 | none=>rw[q]at e;cases e
 | some o =>
  rw[q]at e;have c:(b,o)=p:=fN e;subst c;exact⟨a,q⟩
def cY.pinned{pins:Ad}{σ:St}{H:Hp}{s:Shared}{fp:Y0v}(I:Y6)(hf:∀b∈fp,Y45 H)(ho:∀b∈fp,∃o,Y26/\∀v,o.data ≠ .cell v):Y29 (pins++CD fp s.heap) H s :=
 I.pins_of λp g=>(dM.mp g).elim (λz=>Y8V (cK _ z)) λz=>by
  obtain⟨c,e⟩:=TQ z;obtain⟨i,j,h,_⟩:=hf p.1 c;obtain⟨o,a,d⟩:=ho p.1 c;rw[e]at a;cases a;exact⟨e,i,j,h,d⟩
def cY.unpinned{pins pl:Ad}{σ:St}{H:Hp}{s:Shared}(I:Y29 (pins++pl) H s):Y6:=I.pins_of λp a=>Y8V (cK _ (cL _ a))
def aET{iter:Expr}{body:Y5z}{wi:TI}{g:TG}{tb:TS}{pos:Pos}(hp:Ych Y8S X.A X.xe)(hc:Y1t)(hi:PI X tg iter wi)(hg:PG X tg g)(hb:OO X body tb)
  (hs:∀x,Y6W x=Y7e:=by intro _;rfl):PS X (.For tg iter body [] pos) (aGm wi g tb):=by
 intro a s σ H D I h;refine wpAny_For (thn (hi a s σ H _ I h) λv s1 h1=>thn h1 λθ s2 ξ=>?_) hs;obtain⟨it,z,α,J,H2,e,I2,T,R,U,W,⟨ο,ν⟩,turn⟩:=ξ;subst e;have c:∀{H':Hp},(∀b∈z,Y1N=none)->∀b∈z,pC X a H' b:=λψ b hb=>⟨ψ b hb,(U b hb).2⟩;refine codeAny_forLoop_any (λn Z=>∃i σ' H',cY X a σ' H' Z/\α i Z.heap/\(∀b∈z,Y1N=none)/\W i n σ' H') ?_ ο ⟨0,σ,H2,I2,R,λb hb=>(U b hb).1,ν⟩;rintro n γ ⟨i,C,H3,I3,M,G,ε⟩;rcases turn i n C H3 ε with⟨L,qn⟩ | ⟨κ,N,η,step⟩
 ·refine Y9l hp (T.done X rfl rfl rfl hc i a γ C H3 X.xe I3 (c G) M L) (λr δ ⟨O,I4⟩=>?_);subst O;exact YfS C H3 I4 qn
 ·refine Y9l hp (T.item X rfl rfl rfl hc i a γ C H3 X.xe I3 (c G) M κ) (λr δ ⟨u,O,τ⟩=>?_);subst O;refine Y9l hp τ (λ_ β ⟨x,H5,I5,υ,ζ,y,P⟩=>?_);have I5':=I5.pinned (c P) (T.obj _ _ y);refine Y9l hp (hg _ β C H5 x u _ I5' υ (step x H5 ζ)) (λ_ ι ⟨ω,H6,I6,q6⟩=>?_);refine Y9l hp (hb _ ι ω H6 _ I6 q6) (λf S p=>?_);have l:∀{j:St} {H7:Hp},cY X (a++CD z β.heap) j H7 S->N j H7->∃m,m<n/\∃i σ' H',cY X a σ' H' S/\α i S.heap/\(∀b∈z,Y1N=none)/\W i m σ' H':=λ{j H7} I7 B=>by
   obtain⟨φ,μ,w7⟩:=η j H7 B;refine⟨φ,μ,i+1,j,H7,I7.unpinned,T.keep _ _ _ y λb hb o e=>(I7.pin (b,o) (cK _ (cK _ (rM hb e)))).1,λb hb=>?_,w7⟩;obtain⟨o,e,d⟩:=T.obj _ _ y b hb;exact(I7.pin (b,o) (cK _ (cK _ (rM hb e)))).2.1
  cases f with
  | next=>obtain⟨j,H7,I7,B⟩:=p;exact l I7 B
  | cont=>obtain⟨j,H7,I7,B⟩:=p;exact l I7 B
  | brk=>obtain⟨j,H7,I7,p⟩:=p;exact⟨j,H7,I7.unpinned,p⟩
  | ret v=>obtain⟨ρ,j,H7,I7,χ,p⟩:=p;exact⟨ρ,j,H7,I7.unpinned,χ,p⟩
end
def kR{K:Aa}{a:Addr}{xs:Al}{g:TG}{tb:TS}{D:pW}{σ:St}{H:Hp}(Pv:Yaa)(h0:Y6R 0)(hl:∀i σ H,Y4S i->Y3d->Y3i K H a)
  (hs:∀i x σ H,Y0p=Y7->Y3d->g x σ H (Y5b ({ D with nx:=Pv (i+1),ct:=Pv (i+1),bk:=D.nx }))) (hd:∀σ H,Yee->Y3Y) :
  ∃W:Nat->Nat->St->Hp->Prop,(Y7j 0 m σ H)/\∀i m σ H,W i m σ H ->
   ((Itl K a).stop i H/\Y3Y)\/((Itl K a).go i H/\∃N:St->Hp->Prop,Y9R (N σ' H'->∃m',m' < m/\W (i+1) m' σ' H') ((Itl K a).yld i H x H'->g x σ H' (Y5b ({ D with nx:=N,ct:=N,bk:=D.nx })))):=by
 refine YaO (m=Y4g i/\Y4S i/\Y3d) ⟨xs.length,by simp,Y0L,h0⟩;rintro i m σ H ⟨rfl,d,p⟩;have q:=hl i σ H d p;by_cases hlt:Y5f
 ·refine .inr ⟨⟨xs,xs[i],q,by simp[hlt]⟩,Pv (i+1),λσ' H' c=>Y0i (Y4g (i+1)) Oo hlt c,Ye7⟩;obtain⟨e,y⟩:=y;subst e;exact hs i x σ _ (y xs q) p
 ·have e:Y4V i:=Oo;subst e;exact Y4c ⟨xs,q,Yl⟩ (hd σ H p)
def RF{K:Aa}{a:Addr}{xs:Al}{g:TG}{tb:TS}{D:pW}{σ:St}{H:Hp}(Pv:Yaa)(h0:Y6R 0)(hl:∀i σ H,Y4S i->Y3d->Y49 K a)
  (hs:∀i x σ H,Y0p=Y7->Y3d->g x σ H (Y5b ({ D with nx:=Pv (i+1),ct:=Pv (i+1),bk:=D.nx }))) (hd:∀σ H,Yee->Y3Y) :
  ∃W:Nat->Nat->St->Hp->Prop,(Y7j 0 m σ H)/\∀i m σ H,W i m σ H ->
   ((Itt K a).stop i H/\Y3Y)\/((Itt K a).go i H/\∃N:St->Hp->Prop,Y9R (N σ' H'->∃m',m' < m/\W (i+1) m' σ' H') ((Itt K a).yld i H x H'->g x σ H' (Y5b ({ D with nx:=N,ct:=N,bk:=D.nx })))):=by
 refine YaO (m=Y4g i/\Y4S i/\Y3d) ⟨xs.length,by simp,Y0L,h0⟩;rintro i m σ H ⟨rfl,d,p⟩;have q:=hl i σ H d p;by_cases hlt:Y5f
 ·refine .inr ⟨⟨xs,xs[i],q,by simp[hlt]⟩,Pv (i+1),λσ' H' c=>Y0i (Y4g (i+1)) Oo hlt c,Ye7⟩;obtain⟨e,y⟩:=y;subst e;exact hs i x σ _ (y xs q) p
 ·have e:Y4V i:=Oo;subst e;exact Y4c ⟨xs,q,Yl⟩ (hd σ H p)
def mQ{lo:Int}{n:Nat}{g:TG}{tb:TS}{D:pW}{σ:St}{H:Hp}(Pv:Yaa)(h0:Y6R 0)
  (hs:∀i σ H,i<n->Y3d->g (.int (lo+i)) σ H (Y5b ({ D with nx:=Pv (i+1),ct:=Pv (i+1),bk:=D.nx }))) (hd:∀σ H,Y6R n->Y3Y) :
  ∃W:Nat->Nat->St->Hp->Prop,(Y7j 0 m σ H)/\∀i m σ H,W i m σ H ->
   ((Itr lo n).stop i H/\Y3Y)\/((Itr lo n).go i H/\∃N:St->Hp->Prop,Y9R (N σ' H'->∃m',m' < m/\W (i+1) m' σ' H') ((Itr lo n).yld i H x H'->g x σ H' (Y5b ({ D with nx:=N,ct:=N,bk:=D.nx })))):=by
 refine YaO (m=n-i/\i<=n/\Y3d) ⟨n,by simp,Y0L,h0⟩;rintro i m σ H ⟨rfl,c,p⟩;by_cases hlt:i<n
 ·refine .inr ⟨hlt,Pv (i+1),λσ' H' a=>Y0i (n-(i+1)) Oo hlt a,Ye7⟩;obtain⟨e,y⟩:=y;subst e y;exact hs i σ _ hlt p
 ·have e:i=n:=Oo;subst e;exact Y4c Yl (hd σ H p)
abbrev R2:=V->V->(Y5n VK)
def vV(X:Cx)(f:Value->Value->Y8C)(r:R2):Prop :=
 ∀(pins:Ad) (s:Shared) (σ:St) (H:Hp) (x y:V) (v u:Value) (Q:VK),Y6->fH x v->Y3D->r x y H Q ->
  Y74 (f v u) X σ Q
def UnR(X:Cx)(f:Value->Y8C)(r:V->(Y5n VK)):Prop :=
 ∀(pins:Ad) (s:Shared) (σ:St) (H:Hp) (x:V) (v:Value) (Q:VK),Y6->fH x v->r x H Q ->
  Y74 (f v) X σ Q
def lI(X:Cx)(f:Value)(r:Y1x):Prop :=
 ∀(pins:Ad) (s:Shared) (σ:St) (H:Hp) (xs:Al) (us:Ag) (Q:VK),Y6->Y5L->r xs H Q ->
  Y74 (call f us) X σ Q
def tOp(r:R2)(ta tb:TE):TE:=YbC σ H (tb σ H1 λy H2=>r x y H2 Q)
def tUn(r:V->(Y5n VK))(ta:TE):TE:=YbC σ H (r x H1 Q)
def rI(C:Y0u Int Int)(g:Int->Int->V):R2:=YfX (x=Y1s/\y=.int j/\C i j/\Q (g i j) H)
def rI0(g:Int->Int->V):R2:=YfX (x=Y1s/\y=.int j/\Q (g i j) H)
def rU(g:Int->V):V->(Y5n VK):=λx H Q=>∃i,x=Y1s/\Q (g i) H
section
variable{X:Cx}{a b c:Expr}{ta tb tc:TE}{pos:Pos}
def aFN(ha:Y6A a)(hb:Yn b tb){pins:Ad}{s:Shared}{σ:St}{H:Hp}{R:V->Y8U}(I:Y6)
  (h:ta σ H λx H1=>tb σ H1 λy H2=>R x y H2) {Q:Ya} {f:Value->Value->Y8C}
  (hf:∀v u s2 x y H2,Y2Z H2 s2->fH x v->Y3D->R x y H2->Y9f (f v u) Q s2) :
  Y55 (Y0d a) (λv s₁=>Y9f (Y0d b) (λu s₂=>Y9f (f v u) Q s₂) s₁):=by
 exact thn (ha pins s σ H _ I h) λv e ⟨x,H1,I1,g,i⟩=>thn (hb pins e σ H1 _ I1 i) λu s2 ⟨y,H2,I2,c,d⟩=>hf v u s2 x y H2 I2 g c d
def aGL{op:Operator}{r:R2}(ho:Y5q X op r)(ha:Y6A a)(hb:Yn b tb):Yn (.BinOp a op b pos) (tOp r ta tb):=by
 intro c s σ H Q I h;exact wpAny_BinOp (Yfr ha hb I h (ho c g σ H2 x y v u Q I2 d e q))
def aGK{op:UnaryOp}{r:V->(Y5n VK)}(ho:UnR X (unaryOp op) r)(ha:Y6A a):Yn (.UnaryOp op a pos) (tUn r ta):=by
 intro c s σ H Q I h;exact UnaryOp_ (thn (ha c s σ H _ I h) λv d ⟨x,H1,I1,e,g⟩=>ho c d σ H1 x v Q I1 e g)
def opI{f:Value->Value->Y8C}{C:Y0u Int Int}{g:Int->Int->Int}
  (rule:∀(i j:Int) (t u:Tok) (s:Shared) (Q:Ya) (E:Ya),C i j->Q (.int (g i j) s.toks) { s with toks:=s.toks+1 }->Y7v (f (Y4r i) (.int j u)) Q E s) :
  vV X f (rI C (Y8u (g i j))):=by
 intro a s σ H x y v u Q I l e h;obtain⟨i,j,rfl,rfl,d,q⟩:=h;obtain⟨t,rfl⟩:=l;obtain⟨c,rfl⟩:=e;exact rule i j t c s _ _ d ⟨.int (g i j),H,Y1G,Y37,q⟩
def aGP{f:Value->Value->Y8C}{g:Int->Int->Int}
  (rule:∀(i j:Int) (t u:Tok) (s:Shared) (Q:Ya) (E:Ya),Q (.int (g i j) s.toks) { s with toks:=s.toks+1 }->Y7v (f (Y4r i) (.int j u)) Q E s) :
  vV X f (rI0 (Y8u (g i j))):=by
 intro a s σ H x y v u Q I e d h;obtain⟨i,j,rfl,rfl,q⟩:=h;obtain⟨t,rfl⟩:=e;obtain⟨c,rfl⟩:=d;exact rule i j t c s _ _ ⟨.int (g i j),H,Y1G,Y37,q⟩
def aFc{f:Value->Value->Y8C}{g:Int->Y1V Int}
  (rule:∀(i j:Int) (t u:Tok) (s:Shared) (Q:Ya) (E:Ya),Q (.bool (g i j)) s->Y7v (f (Y4r i) (.int j u)) Q E s) :
  vV X f (rI0 (YeQ (g i j))):=by
 intro a s σ H x y v u Q I e d h;obtain⟨i,j,rfl,rfl,q⟩:=h;obtain⟨t,rfl⟩:=e;obtain⟨c,rfl⟩:=d;exact rule i j t c s _ _ (Y0H (.bl (g i j)) H I q)
def aJJ(i j:Int):Prop:=0<=j/\j<=1000000/\i.natAbs<2^64
def fS:Y5q X .Add (rI0 (Y8u (i+j))):=aGP λ_ _ _ _ _ _ _ q=>add_int q
def pR:Y5q X .Sub (rI0 (Y8u (i-j))):=aGP λ_ _ _ _ _ _ _ q=>sub_int q
def oT:Y5q X .Mod (rI (λ_ j=>0<j) (Y8u (i % j))):=opI λi j _ _ _ _ _ a q=>by
 exact mod_int' Oo (by rw[Int.fmod_eq_emod_of_nonneg i Oo];exact q)
def aE9:Y5q X .Pow (rI aJJ (Y8u (i^j.toNat))):=opI λ_ _ _ _ _ _ _ a q=>pow_int_small a.1 a.2.1 a.2.2 q
def unI{f:Value->Y8C}{g:Int->Int}
  (rule:∀(i:Int) (t:Tok) (s:Shared) (Q:Ya) (E:Ya),Q (.int (g i) s.toks) { s with toks:=s.toks+1 }->Y7v (f (Y4r i)) Q E s) :
  UnR X f (rU λi=>.int (g i)):=by
 intro a s σ H x v Q I c h;obtain⟨i,rfl,q⟩:=h;obtain⟨t,rfl⟩:=c;exact rule i t s _ _ ⟨.int (g i),H,Y1G,Y37,q⟩
def vK:UnR X (unaryOp .USub) (rU λi=>.int (-i)):=unI λ_ _ _ _ _ q=>neg_int q
end
def scal:V->Y1V V
 | .non,.non=>true | .non,.int _=>true | .int _,.non=>true | .non,.bl _=>true | .bl _,.non=>true | .non,.str _=>true | .str _,.non=>true
 | .int _,.int _=>true | .bl _,.bl _=>true | .str _,.str _=>true | .byt _,.byt _=>true
 | .int _,.str _=>true | .str _,.int _=>true | .bl _,.str _=>true | .str _,.bl _=>true
 | _,_=>false
def rEq:R2:=λx y H Q=>scal x y=true/\Y3e (Y0P x y)
def rNe:R2:=λx y H Q=>scal x y=true/\Y3e (! Y0P x y)
def xO{i j:Int}:Y0P (V.int i) (V.int j)=(i == j):=by
 rw[Bool.eq_iff_iff];simp
def aAb{i j:Bool}:Y0P (V.bl i) (V.bl j)=(i == j):=by
 rw[Bool.eq_iff_iff];simp
def RQ{i j:Str}:Y0P (V.str i) (V.str j)=(i == j):=by
 rw[Bool.eq_iff_iff];simp
def RS{i j:Array UInt8}:Y0P (V.byt i) (V.byt j)=(i.toList == j.toList):=by
 rw[Bool.eq_iff_iff];cases i;cases j;simp
section
variable{X:Cx}{a b c:Expr}{ta tb tc:TE}{pos:Pos}
def fU{pins:Ad}{σ:St}{H:Hp}{s:Shared}{Q:VK}{k k':Bool}(I:Y6)(q:Y3e k)(e:k=k'):EP X pins σ Q (.bool k') s:=by
 subst e;exact Y0H (.bl k) H I q
def oU:Y47 .Eq rEq:=by
 intro g s σ H x y v u Q I e a h;obtain⟨d,q⟩:=h;cases x with
 | non =>
  cases e;cases y with
  | non=>cases a;exact PySem.EqNone.eq_none_none (Y0Y (by simp))
  | bl j=>cases a;exact PySem.EqNone.eq_none_bool (Y0Y (by simp))
  | int j=>obtain⟨c,rfl⟩:=a;exact PySem.EqNone.eq_none_int (Y0Y (by simp))
  | str j=>obtain⟨c,rfl⟩:=a;exact PySem.EqNone.eq_none_str (Y0Y (by simp))
  | _=>exact Y2u (show false=true from d)
 | bl i =>
  cases e;cases y with
  | non=>cases a;exact PySem.EqNone.eq_bool_none (Y0Y (by simp))
  | bl j=>cases a;exact eq_bool (Y0Y aAb)
  | str j=>obtain⟨c,rfl⟩:=a;exact PySem.EqMixed.eq_bool_str (Y0Y (by simp))
  | _=>exact Y2u (show false=true from d)
 | int i =>
  obtain⟨t,rfl⟩:=e;cases y with
  | non=>cases a;exact PySem.EqNone.eq_int_none (Y0Y (by simp))
  | int j=>obtain⟨c,rfl⟩:=a;exact eq_int (Y0Y xO)
  | str j=>obtain⟨c,rfl⟩:=a;exact PySem.EqMixed.eq_int_str (Y0Y (by simp))
  | _=>exact Y2u (show false=true from d)
 | str i =>
  obtain⟨t,rfl⟩:=e;cases y with
  | non=>cases a;exact PySem.EqNone.eq_str_none (Y0Y (by simp))
  | bl j=>cases a;exact PySem.EqMixed.eq_str_bool (Y0Y (by simp))
  | int j=>obtain⟨c,rfl⟩:=a;exact PySem.EqMixed.eq_str_int (Y0Y (by simp))
  | str j=>obtain⟨c,rfl⟩:=a;exact eq_str (Y0Y RQ)
  | _=>exact Y2u (show false=true from d)
 | byt i =>
  obtain⟨t,rfl⟩:=e;cases y with
  | byt j=>obtain⟨c,rfl⟩:=a;exact PySem.W.eq_bytes (Y0Y RS)
  | _=>exact Y2u (show false=true from d)
 | _=>cases y <;> exact Y2u (show false=true from d)
def aDa:Y47 .NotEq rNe:=by
 intro g s σ H x y v u Q I e a h;obtain⟨d,q⟩:=h;cases x with
 | non =>
  cases e;cases y with
  | non=>cases a;exact PySem.EqNone.ne_none_none (Y0Y (by simp))
  | bl j=>cases a;exact PySem.EqNone.ne_none_bool (Y0Y (by simp))
  | int j=>obtain⟨c,rfl⟩:=a;exact PySem.EqNone.ne_none_int (Y0Y (by simp))
  | str j=>obtain⟨c,rfl⟩:=a;exact PySem.EqNone.ne_none_str (Y0Y (by simp))
  | _=>exact Y2u (show false=true from d)
 | bl i =>
  cases e;cases y with
  | non=>cases a;exact PySem.EqNone.ne_bool_none (Y0Y (by simp))
  | bl j=>cases a;exact ne_bool (Yew not aAb)
  | str j=>obtain⟨c,rfl⟩:=a;exact PySem.EqMixed.ne_bool_str (Y0Y (by simp))
  | _=>exact Y2u (show false=true from d)
 | int i =>
  obtain⟨t,rfl⟩:=e;cases y with
  | non=>cases a;exact PySem.EqNone.ne_int_none (Y0Y (by simp))
  | int j=>obtain⟨c,rfl⟩:=a;exact ne_int (Yew not xO)
  | str j=>obtain⟨c,rfl⟩:=a;exact PySem.EqMixed.ne_int_str (Y0Y (by simp))
  | _=>exact Y2u (show false=true from d)
 | str i =>
  obtain⟨t,rfl⟩:=e;cases y with
  | non=>cases a;exact PySem.EqNone.ne_str_none (Y0Y (by simp))
  | bl j=>cases a;exact PySem.EqMixed.ne_str_bool (Y0Y (by simp))
  | int j=>obtain⟨c,rfl⟩:=a;exact PySem.EqMixed.ne_str_int (Y0Y (by simp))
  | str j=>obtain⟨c,rfl⟩:=a;exact ne_str (Yew not RQ)
  | _=>exact Y2u (show false=true from d)
 | byt i =>
  obtain⟨t,rfl⟩:=e;cases y with
  | byt j=>obtain⟨c,rfl⟩:=a;exact PySem.W.ne_bytes (Yew not RS)
  | _=>exact Y2u (show false=true from d)
 | _=>cases y <;> exact Y2u (show false=true from d)
def zR:Y47 .Lt (rI0 (YeQ (Y22 i j))):=Yfs (lt_int q)
def FD:Y47 .Gt (rI0 (YeQ (Y22 j i))):=Yfs (gt_int q)
def aDb:Y47 .GtE (rI0 (YeQ (decide (j<=i)))):=Yfs (ge_int q)
def HK:Y47 .Is (λx y H Q=>y=.non/\Y3e (Y0P x .non)):=by
 intro a s σ H x y v u Q I c d h;obtain⟨rfl,q⟩:=h;cases d;refine is_none_gen (Y0Y ?_);cases x <;> first
  | (cases c;rfl)
  | (obtain⟨t,rfl⟩:=c;rfl)
def aB0:Y47 .IsNot (λx y H Q=>y=.non/\Y3e (! Y0P x .non)):=by
 intro a s σ H x y v u Q I c d h;obtain⟨rfl,q⟩:=h;cases d;refine isnot_none_gen (Y0Y ?_);cases x <;> first
  | (cases c;rfl)
  | (obtain⟨t,rfl⟩:=c;rfl)
def nomark(b:Expr){op:CmpOp}(h:op ≠ .In:=by decide)(h2:op ≠ .NotIn:=by decide):Yc7 op b:=by
 have c:Yy (op == CmpOp.In):=by cases op <;> first | rfl | exact Y8y h
 have a:Yy (op == CmpOp.NotIn):=by cases op <;> first | rfl | exact Y8y h2
 cases b <;> simp[behindInMarks,c,a]
def aBV{op:CmpOp}{r:R2}(ho:Y47 op r)(ha:Y6A a)(hb:Yn b tb)(hm:Yc7 op b):Yn (Ybm [op] [b] pos) (tOp r ta tb):=by
 intro c s σ H Q I h;exact wpAny_Compare1 (Yfr ha hb I h (ho c g σ H2 x y v u Q I2 d e q)) hm
def aCY(t:TE):TT:=Y5P H (λx H'=>∃k,x=.bl k/\Q k H')
def aBJ{op:CmpOp}{r:R2}(ho:Y47 op r)(ha:Y6A a)(hb:Yn b tb)(hm:Yc7 op b):PT X (Ybm [op] [b] pos) (aCY (tOp r ta tb)):=by
 intro d s σ H Q I h;refine wpAny_isTrue_Compare1 (thn (ha d s σ H _ I h) λv l ⟨x,H1,I1,w,g⟩=>thn (hb d l σ H1 _ I1 g) λu m ⟨y,H2,I2,n,p⟩ =>
  thn (ho d m σ H2 x y v u _ I2 w n p) λc A ⟨z,H3,I3,i,k,e,j⟩=>?_) hm
 subst e;cases i;exact wpAny_truthy_bool ⟨H3,I3,j⟩
def HP:(sizeLine:Nat)<2^63:=by rw[sizeLine_eq];decide
def CH:Y5q X .Add (YfX (x=.str i/\y=.str j/\Y0q (i.length+j.length)/\Q (.str (i++j)) H)):=by
 intro a s σ H x y v u Q I g e h;obtain⟨i,j,rfl,rfl,d,q⟩:=h;obtain⟨t,rfl⟩:=g;obtain⟨c,rfl⟩:=e;exact add_str (λc l=>⟨.str (i++j),H,Y1G,Y37,q⟩) d
def nF{x:V}{us:Ag}(r:Y2m [x]):∃u,us=[u]/\fH x u:=by
 cases r with
 | cons r1 r2=>cases r2;exact Y5 r1
def aGh{x y:V}{us:Ag}(r:Y2m [x,y]):∃u w',us=[u,w']/\fH x u/\fH y w':=by
 cases r with
 | cons r1 r2 =>
  cases r2 with
  | cons r3 r4=>cases r4;exact Y0i _ _ r1 r3
def aAl:Y4M X "abs" (λxs H Q=>∃i,xs=[Y1s]/\Y1T (if i<0 then -i else i)):=by
 intro a s σ H xs d Q I r h;obtain⟨i,rfl,q⟩:=h;obtain⟨u,rfl,t,rfl⟩:=nF r;exact call_abs_int λu c=>⟨.int (if i<0 then -i else i),H,Y1G,Y37,q⟩
def FX:Y9Q X "int" (λxs H Q=>(∃i,xs=[Y1s]/\Y1T i)\/∃k,xs=[.bl k]/\Y1T (if k then 1 else 0)):=by
 intro a s σ H xs d Q I r h;rcases h with⟨i,rfl,q⟩ | ⟨k,rfl,q⟩
 ·obtain⟨u,rfl,t,rfl⟩:=nF r;exact call_int_int ⟨Y1s,H,I,Y37,q⟩
 ·obtain⟨u,rfl,c⟩:=nF r;cases c;exact call_int_bool ⟨.int (if k then 1 else 0),H,Y1G,Y37,q⟩
def aHk(K:Aa)(x:V)(H:Hp)(n:Nat):Prop :=
 match x with
 | .str y=>y.length<=sizeLine/\n=y.length
 | .byt y=>y.size<=sizeLine/\n=y.size
 | .ref p=>(∃xs,fV K H p xs/\n=xs.length)\/∃xs,jC K H p xs/\n=xs.length
 | _=>False
def aAk:Y4M X "len" (λxs H Q=>∃x n,xs=[x]/\aHk X.K x H n/\Y1T n):=by
 intro m s σ H xs A Q I r h;obtain⟨x,n,rfl,e,q⟩:=h;obtain⟨u,rfl,i⟩:=nF r;have B:sizeLine=16777216:=sizeLine_eq;cases x with
 | str y =>
  obtain⟨t,rfl⟩:=i;obtain⟨w,c⟩:Y0q y.length/\n=y.length:=e;subst c;exact len_str Oo ⟨.int _,H,Y1G,Y37,q⟩
 | byt y =>
  obtain⟨t,rfl⟩:=i;obtain⟨w,c⟩:Y0q y.size/\n=y.size:=e;subst c;exact PySem.W.len_bytes Oo ⟨.int _,H,Y1G,Y37,q⟩
 | ref p =>
  cases i;have c:(∃xs,Y3i X.K H p/\Y4V n)\/∃xs,Y49 X.K p/\Y4V n:=e;rcases c with⟨xs,g,c⟩ | ⟨xs,g,c⟩
  ·subst c;obtain⟨d,l,j,z⟩:=I.list g;have a:=l.length;exact Calls.call_len_list j.isList (by simp only[bM];exact Oo) ⟨.int xs.length,H,Y1G,Y3z (by simp only[bM];rw[a]),q⟩
  ·subst c;obtain⟨d,l,j,z⟩:=I.tuple g;have a:=l.length;exact len_tuple j (by simp only[bM];exact Oo) ⟨.int xs.length,H,Y1G,Y3z (by simp only[bM];rw[a]),q⟩
 | _=>exact(show False from e).elim
end
structure OQ(h:Heap)(x dx C:Addr)(mA:Y0G):Prop where
 obj:h.get? x=some (YdL dx)
 ns:h.Ns1 dx mA
 ne:dx≠x
def TY{h:Heap}{dx:Addr}{mA:Y0G}(n:h.Ns1 dx mA):∃od,h.get? dx=some od/\∀name,PySem.W.lookIn name od=some (mA name):=by
 obtain⟨o,d,p,l,hd,j,_,m⟩:=n;refine Y1v l (λname=>?_);have e:=m name;unfold nsFind findBy at e;rw[<-Array.find?_toList]at e;unfold PySem.W.lookIn;rw[hd];dsimp only;split
 ·rename_i y q
  rw[q]at e;exact Yej e
 ·rename_i q
  rw[q]at e;have a:Yy (d.toList.any (·.refKey)):=by
   rw[List.any_eq_false];intro y g;obtain⟨z,t,c⟩:=j y (Array.mem_toList_iff.mp g);simp[DictEntry.refKey,c]
  have i:¬d.toList.any (·.refKey)=true:=by rw[a];exact cC
  rw[if_neg i];exact Yej e
def OQ.look{h:Heap}{x dx C:Addr}{mA:Y0G}(I:OQ h x dx C mA):∃od,PySem.W.InstAt h x (YdL dx) C (some od)/\∀name,PySem.W.lookIn name od=some (mA name) :=
 let ⟨od,ho,hl⟩:=TY I.ns
 ⟨od,Y5m I.obj rfl ho,hl⟩
section
variable{prog:Program}{w:World}{A:Around}{E:Ya}{s:Shared}{K:Aa}{x dx C f:Addr}{mA:Y0G}{name:Str}{v:Value}
def aCg{expr:Bool}{Q:Ya}(X:YaU)(I:OQ s.heap x dx C mA)(hg:Yaw C name=true)(hh:Yc2 C=true)
  (ha:Y6G K C name=Y1g) (hv:mA name=Yw) (hv':PySem.W.handedIn v=true) (h:Q v { s with toks:=s.toks+1 }) :
  Y1J (getAttr (Y23) name expr):=by
 obtain⟨c,J,a⟩:=I.look;exact PySem.W.get_value X J (Yf8).1 (PySem.W.findObj_own hh ha rfl (by rw[a,hv])) hv' h
def ZQ{pl:Sem Bool}{Q:Y2v (Value × Ag)}(X:YaU)(I:OQ s.heap x dx C mA)(hg:Yaw C name=true)
  (hf:Y6G K C name=Y4d f) (ht:Y9p K f=true) (hv:mA name=none) (h:Q (.ref f,[Y23]) s) :
  Y1J (getMethod (Y23) name pl):=by
 obtain⟨a,J,c⟩:=I.look;exact PySem.W.method_fn X J (Yf8).1 (Yf8).2 hf (beq_iff_eq.mp ht) (by show(PySem.W.lookIn name a).map (·.isSome)=some false;rw[c,hv];rfl) h
def aBo{ns:Ah}{Q:Ybx}(X:YaU)(I:OQ s.heap x dx C mA)
  (hs:Y6G K C "__setattr__" = some (Y8n "object.__setattr__")) (hp:YdC C=true) (ht:PySem.W.takerIn K C name=Y1g) (hh:Yc2 C=true)
  (hw:PySem.Within mA ns) (hsz:Y0q ns.length)
  (h:∀h',OQ h' x dx C (λy=>if y=name then Yw else mA y)->Yat dx h'->Q () { s with heap:=h',toks:=s.toks+2 }) :
  Y1J (setAttr (Y23) name v):=by
 obtain⟨B,J,D⟩:=I.look;refine PySem.W.set_plain X J hs (PySem.W.osa_open (s:={ s with toks:=s.toks+1 }) (r:=none) X J hp ht λb=>?_);obtain⟨u,l,e⟩:=PySem.W.any_some hh;have n:Y2H x ⟨.ref C,some dx,.plain,#[]⟩:=I.obj;refine Y3m (YbP (wpAny_loadPart n (wpAny_bind (PySem.W.Looks.here (s:={ s with toks:=s.toks+1 }) (PySem.W.looks_clsIn X l) ?_))));rw[e];refine wpAny_pure (a:=some dx) (Y3m Y4K);refine wpAny_nsSet1 (s:={ s with toks:=s.toks+1 }) I.ns λh' c d=>?_;obtain⟨z,m,p,j,i,g⟩:=c.count (PySem.Within.cons name v hw);refine wpAny_bind (wpAny_lookBehind j (by rw[i];exact pastItsLine_dict (aK g (by rw[cD];exact Oo))) ?_);exact wpAny_pure (h _ ⟨(d.2 _ (Ne.symm I.ne)).trans I.obj,c,I.ne⟩ d)
def YZ{R:Y9I}{vs:Ag}{kw:Y9O}(X:YaU)(hm:YdM C=true)
  (hi:Y6G K C "__init__" = Y4d f) (hf:PySem.W.typeIn K (.ref f)=some (.type "function"))
  (h:codeAny (model prog w) (Yc5 "type.__call__" ⟨.ref C::vs,kw⟩) (YaT f ⟨.ref (Y24)::vs,kw⟩) (PySem.W.InitBack (Y24) R)
   { s with heap:=(s.heap.push PySem.W.emptyDict).push (PySem.W.instObj C s.heap.objs.size) }) :
  Y5o prog w A (YaT C ⟨vs,kw⟩) R s:=by
 obtain⟨a,g,d,t,c⟩:=s;exact PySem.W.make_core (PySem.W.makes_of X hm) (PySem.W.looks_findIn X hi) (λself=>PySem.W.bind_fn X self hf) (Y4I) h
end
def eP(f:Str)(v:V):Y4v->Y4v
 | []=>[(f,v)]
 | (g,x)::r=>if g=f then(g,v)::r else(g,x)::eP f v r
theorem fC(f g:Str)(v:V):∀fs:List (Str × V),(eP f v fs).lookup g=if g=f then Yw else fs.lookup g
 | []=>by
  show List.lookup g [(f,v)]=_;by_cases h:g=f
  ·have hb:(g == f)=true:=beq_iff_eq.mpr h;simp only[List.lookup,hb,if_pos h]
  ·have hb:(g == f)=false:=beq_eq_false_iff_ne.mpr h;simp only[List.lookup,hb,if_neg h]
 | (k,x)::r=>by
  have a:=fC f g v r;rw[show eP f v ((k,x)::r)=(if k=f then(k,v)::r else(k,x)::eP f v r)from rfl];by_cases hk:k=f
  ·rw[if_pos hk];by_cases h:g=k
   ·have hb:(g == k)=true:=beq_iff_eq.mpr h;simp only[List.lookup,hb,if_pos (h.trans hk)]
   ·have hb:(g == k)=false:=beq_eq_false_iff_ne.mpr h;simp only[List.lookup,hb,if_neg (λe:g=f=>h (e.trans hk.symm))]
  ·rw[if_neg hk];by_cases h:g=k
   ·have hb:(g == k)=true:=beq_iff_eq.mpr h;simp only[List.lookup,hb,if_neg (λe:g=f=>hk (h.symm.trans e))]
   ·have hb:(g == k)=false:=beq_eq_false_iff_ne.mpr h;simp only[List.lookup,hb];exact a
theorem yP(f:Str)(v:V):∀fs:List (Str × V),f∈(eP f v fs).map (·.1)/\∀g,YcZ g (·.1)->g∈(eP f v fs).map (·.1)
 | []=>⟨by simp[eP],λg h=>by simp at h⟩
 | (k,x)::r=>by
  obtain⟨i1,i2⟩:=yP f v r;rw[show eP f v ((k,x)::r)=(if k=f then(k,v)::r else(k,x)::eP f v r)from rfl];by_cases hk:k=f
  ·rw[if_pos hk];subst hk;exact⟨by simp,λg h=>by simpa using h⟩
  ·rw[if_neg hk];refine⟨?_,λg h=>?_⟩
   ·rw[bA];exact bG _ i1
   ·rw[bA]at h ⊢;rcases bN.mp h with e | e
    ·exact bN.mpr (.inl e)
    ·exact bG _ (i2 g e)
theorem lE(f:Str)(v:V):∀fs:List (Str × V),(eP f v fs).length<=fs.length+1
 | []=>by simp[eP]
 | (k,x)::r=>by
  have ih:=lE f v r;rw[show eP f v ((k,x)::r)=(if k=f then(k,v)::r else(k,x)::eP f v r)from rfl];by_cases hk:k=f
  ·rw[if_pos hk,cD,cD];exact Oo
  ·rw[if_neg hk,cD,cD];exact Oo
def sE.some_of{v:V}{o:Y98}(r:sE (Yw) o):∃u,o=Ym/\Y41:=by
 cases o with
 | none=>exact(show False from r).elim
 | some u=>exact Yz u r
def sE.none_of{o:Y98}(r:sE none o):o=none:=by
 cases o with
 | none=>rfl
 | some u=>exact(show False from r).elim
def UJ{v:V}{u:Value}(r:Y41):PySem.W.handedIn u=true:=by
 cases v with
 | non=>cases(show u=Value.none from r);rfl
 | bl b=>cases(show u=Value.bool b from r);rfl
 | int i=>obtain⟨t,e⟩:=(show ∃t,u=Value.int i t from r);cases e;rfl
 | str x=>obtain⟨t,e⟩:=(show ∃t,u=Value.str x t from r);cases e;rfl
 | byt b=>obtain⟨t,e⟩:=(show ∃t,u=Value.bytes b t from r);cases e;rfl
 | flt b=>obtain⟨t,e⟩:=(show ∃t,u=Value.float b t from r);cases e;rfl
 | ref a=>cases(show u=Value.ref a from r);rfl
 | ty n=>cases(show u=Value.type n from r);rfl
section
variable{P:Program}{w:World}{H H':Hp}{h h':Heap}{a C dx:Addr}{fs fs':Y4v}
def HW(hok:sC P w H h)(e:H a=Y7i):∃mA,OQ h a dx C mA/\(∀f,sE (Ycs) (mA f))/\PySem.Within mA (fs.map (·.1))/\Yb6 1000/\H dx=Y7B a:=by
 obtain⟨d,z,ne,c,mA,n,r,q⟩:=(show gO P w H h a (.ins C dx fs)from hok a _ e);exact⟨mA,⟨c,n,ne⟩,r,q,z,d⟩
end
structure Cls(K:Aa)(C:Addr):Prop where
 pg:Yaw C Str.empty=true
 hd:Yc2 C=true
 po:YdC C=true
 sa:Y6G K C "__setattr__" = some (Y8n "object.__setattr__")
def Cls.get{K:Aa}{C:Addr}(c:Cls K C)(f:Str):Yaw C f=true:=c.pg
def nX(K:Aa)(C:Addr)(f:Str):Prop:=Y6G K C f=Y1g
def nX.taker{K:Aa}{C:Addr}{f:Str}(n:nX K C f):PySem.W.takerIn K C f=Y1g:=by
 unfold PySem.W.takerIn;rw[show PySem.W.findIn K (.ref C) f=some none from n]
 rfl
structure aFV(K:Aa)(C:Addr)(m:Str)(f:Addr):Prop where
 at_:Y6G K C m=Y4d f
 fn:Y9p K f=true
 kp:Y9k K f=true
section
variable{X:Cx}{pins:Ad}{σ:St}{H:Hp}{s:Shared}{a C dx:Addr}{fs:Y4v}{f:Str}{v:V}{A:Around}{E:Ya}
def NW{b:Bool}{Q:Ya}(I:Y6)(e:H a=Y7i)(c:Cls X.K C)(n:nX X.K C f)(l:Ycs=Yw)
  (h:∀u s',Y5k s'->Y41->Q u s'):Y7t A (getAttr (Yd) f b) Q E s:=by
 obtain⟨mA,O,r,_,_,_⟩:=HW I.hok e;obtain⟨u,d,ru⟩:=Yfg (mA f) (by rw[<-l];exact r f);exact aCg I.kIn O (c.get f) c.hd n d (UJ ru) (h u _ (Y1G) ru)
def NV{m:Str}{g:Addr}{pl:Sem Bool}{Q:Y2v (Value × Ag)}(I:Y6)(e:H a=Y7i)(c:Cls X.K C)(k:aFV X.K C m g)(l:fs.lookup m=none)
  (h:Q (.ref g,Y2n) s):Y7t A (getMethod (Yd) m pl) Q E s:=by
 obtain⟨mA,O,r,_,_,_⟩:=HW I.hok e;have d:mA m=none:=sE.none_of (by rw[<-l];exact r m);exact ZQ I.kIn O (c.get m) k.at_ k.fn d h
def MW{y:V}{u:Value}{Q:Ybx}(I:Y6)(e:H a=Y7i)(c:Cls X.K C)(n:nX X.K C f)(hl:fs.length<1000)(ry:Y3D)
  (h:∀s',Y2Z (Y3G (.ins C dx (eP f y fs))) s'->Q () s'):Y7t A (setAttr (Yd) f u) Q E s:=by
 obtain⟨mA,O,r,d,_,i⟩:=HW I.hok e;have m:Y0q ((fs.map (·.1)).length):=by rw[aA,sizeLine_eq];exact Oo
 refine aBo I.kIn O c.sa c.po n.taker c.hd d m λj O' p=>h _ ?_;have hd:∃o,j.get? dx=Y9:=let ⟨o,_,_,e',_⟩:=O'.ns;⟨o,e'⟩;refine I.write (x:=a) (e:=dx) (by rw[e];exact True.intro) (.inr i) (λb q B z=>(p.2 b B).trans z) hd ⟨by rw[dR O.ne];exact i,?_,O.ne,O'.obj,_,O'.ns,λg=>?_,λg l=>?_⟩
 ·have:=lE f y fs;exact Oo
 ·show sE ((eP f y fs).lookup g) (if g=f then Ym else mA g);rw[fC];by_cases q:g=f
  ·rw[Y5B,Y5B];exact ry
  ·rw[Y2F,Y2F];exact r g
 ·by_cases q:g=f
  ·rw[q];exact(yP f y fs).1
  ·refine(yP f y fs).2 g (d g λz=>l ?_);show(if g=f then Ym else mA g)=none;rw[Y2F];exact z
def cY.made(I:Y6):cY X pins σ (Y8I (Y99 H (.own (Y24))) Y24 C s.heap.objs.size [])
  { s with heap:=(s.heap.push PySem.W.emptyDict).push (PySem.W.instObj C s.heap.objs.size) }:=by
 have c:(s.heap.push PySem.W.emptyDict).get? s.heap.objs.size=some PySem.W.emptyDict:=bB s.heap rfl;have g:((s.heap.push PySem.W.emptyDict).push (PySem.W.instObj C s.heap.objs.size)).get? (Y24)=some (YdL s.heap.objs.size):=by
  have:=bB (s.heap.push PySem.W.emptyDict) (o:=YdL s.heap.objs.size) rfl
  rwa [gW]at this
 have h:(s.heap.push PySem.W.emptyDict).Ns s.heap.objs.size (Y9H):=⟨PySem.W.emptyDict,#[],_,c,rfl,(λe i=>absurd i (by simp)),λ_=>rfl⟩;have I1:=YeZ (.own (Y24)) (s.heap.push PySem.W.emptyDict) s.toks (λb u q=>Y0Q q) Yl (Y3z c);refine I1.laid (a:=Y24) (o:=.ins C s.heap.objs.size []) (t':=s.toks) (λb u q=>Y0Q q) (Nat.le_of_eq (gW _ _)) ?_;have ne:YdK Y24:=dL (Yfx);refine⟨by rw[dR ne,bH],Y0L,ne,g,Y9H,(Heap.Ns1.of_empty h).at λo q=>Y0Q q,λ_=>True.intro,λy d=>Y8y d⟩
def aCK{prog:Program}{w:World}{env:Env}{e:Expr}{f:Str}{pos:Pos}{s:Shared}{Q:Ya}(hb:attributeBase e f env (Y1Q e)=Y1Q e)
  (h:wpAny (model prog w) A (Y1Q e) (λo s₁=>wpAny (model prog w) A (getAttr o f true) Q E s₁) E s):Y1J (Y1Q (.Attribute e f pos)) :=
 Attribute_any_ h (by rw[arm_eval_Attribute,hb])
end
def aHO(K:Aa)(ta:TE)(f:Str):TE:=YbC σ H (∃a C dx fs v,x=Yd/\H1 a=Y7i/\Cls K C/\nX K C f/\Ycs=Yw/\Q v H1)
def aGt(K:Aa)(ta tv:TE)(f:Str):TS:=λD σ H=>tv σ H λy H1=>ta σ H1 λx H2=>∃a C dx fs,x=Yd/\H2 a=Y7i/\Cls K C/\nX K C f/\fs.length<1000 /\
 Y8o (Y8I H2 a C dx (eP f y fs))
section
variable{X:Cx}{o e value:Expr}{f:Str}{pos pos' tpos:Pos}{ta tv:TE}
def aE6(he:Y6A e)(hb:attributeBase e f X.env Y1l=Y1l):Yn (.Attribute e f pos) (aHO X.K ta f):=by
 intro d s σ H Q I h;refine aCK hb (thn (he d s σ H _ I h) λu r ⟨x,H1,I1,j,a,C,p,fs,v,i,g,c,n,l,q⟩=>?_);subst i;obtain rfl:u=Y6K:=j;exact NW I1 g c n l λm w I2 ru=>⟨v,H1,I2,ru,q⟩
def aEU(ha:Y6A o)(hv:Yn value tv)(hs:Y9N value (Yde f pos')=Y4Q):PS X (Y65 [Yde f pos'] value) (aGt X.K ta tv f):=by
 intro d s σ H D I h;refine plainObj_wpAny_Assign_Attribute (thn (hv d s σ H _ I h) λu j ⟨y,H1,I1,m,q⟩=>thn (ha d j σ H1 _ I1 q) λe A ⟨x,H2,I2,p,a,C,z,fs,i,g,c,n,l,r⟩=>?_) hs;subst i;obtain rfl:e=Y6K:=p;exact MW I2 g c n l m λw I3=>⟨σ,_,I3,r⟩
end
section
variable{X:Cx}{pins:Ad}{σ:St}{H:Hp}{s:Shared}{A:Around}{E:Ya}{Q:Ya}{c:Value}{b:Bool}
end
structure iX(k:Nat)(A:Around):Prop where
 hd:Y5D
 dp:A.depth+3*k+5<recursionLimit
 un:Y75 (16*k)+200<cLine
 gd:A.guards=some []
def iX.mono{j k:Nat}{A:Around}(r:iX k A)(h:j<=k):iX j A:=⟨r.hd,by have:=r.dp;exact Oo,by have:=r.un;exact Oo,r.gd⟩
theorem iX.deeper{k:Nat}{A:Around}(r:iX (k+1) A)(env:Env):iX k (A.deeper env) :=
 ⟨r.hd,by have:=r.dp;show A.depth+1+3*k+5<_;exact Oo,by have:=r.un;show Y75 3+16*k+200<_;exact Oo,r.gd⟩
def NR{A:Around}{C:Addr}{us:Ag}{kw:Y9O}:(Yc5 "type.__call__" ⟨.ref C::us,kw⟩).depth=A.depth+1:=by
 first | rfl | simp[Around.under,Code.weight,Code.isCreation,Code.isGuard,Code.isCaller,Code.frames,Code.isFrame,guardIds]
def NQ{A:Around}{C:Addr}{us:Ag}{kw:Y9O}:(Yc5 "type.__call__" ⟨.ref C::us,kw⟩).units=Y75 1:=by
 first | rfl | simp[Around.under,Code.cUnits,Code.frames,Code.isFrame]
def iX.make{k:Nat}{A:Around}(r:iX (k+1) A)(C:Addr)(us:Ag)(kw:Y9O):iX k (Yc5 "type.__call__" ⟨.ref C::us,kw⟩) :=
 ⟨r.hd,by have:=r.dp;rw[NR];exact Oo,by have:=r.un;rw[NQ];exact Oo,by first | exact r.gd | (simpa[Around.under,Code.guards,Code.isGuard,guardIds,pushGuards]using r.gd)⟩
theorem iX.depth{k:Nat}{A:Around}(r:iX k A):A.depth<recursionLimit:=by have:=r.dp;exact Oo
theorem iX.units{k:Nat}{A:Around}(r:iX k A):Y75 64<cLine:=by have:=r.un;exact Oo
def JG:TA:=λ_ H Q=>Q [] H
def pE(ta:TE)(tr:TA):TA:=YbC σ H (tr σ H1 λxs H2=>Q (x::xs) H2)
section
variable{X:Cx}{e:Expr}{es:Y0h}{te:TE}{t:TA}{pos:Pos}
def pa_nil:PA X [] JG:=λ_ _ _ _ H Q I h=>Calls.spliced_nil ⟨[],H,I,.nil,h⟩
def aBY(ha:Yn e te)(hr:PA X es t)(hs:Y40=(false,Y1l)::Y39:=by rfl):PA X (e::es) (pE te t):=by
 intro pos a s σ H Q I h;rw[hs];show Y3F (spliced ((false,Y1l)::backTo pos (Y39)));refine Yf9 (ha a s σ H _ I h) (λu d ⟨x,H1,I1,l,c⟩=>?_);exact thn (hr pos a d σ H1 _ I1 c) λm n ⟨j,H2,I2,g,i⟩=>⟨x::j,H2,I2,.cons l g,i⟩
def aHL(t:TA):TE:=Y5P H (λxs H1=>Y4L/\∀p,H1 p=none->Y1d p (upd H1 p (.tup xs)))
def aHM(t:TA):TE:=Y5P H (λxs H1=>Y4L/\∀p,H1 p=none->Y1d p (Y2s H1 p xs))
def aE3{x1}(h:PA X es t):Yn (.Tuple es x1 pos) (aHL t):=by
 intro a s σ H Q I g;refine wpAny_Tuple_spliced (thn (h pos a s σ H _ I g) λd c ⟨i,H1,I1,r,z,q⟩=>Y0o (by rw[<-r.length];exact z));have j:H1 c.heap.objs.size=none:=Yfo;refine Y0H Ydp (upd H1 c.heap.objs.size (.tup i)) (YfF c.toks (λb u e=>Y0Q e) ?_) (q _ j);exact⟨⟨z,_,Y1u,rfl⟩,d,r,Y0i _ Y1u _ rfl⟩
def aE5(h:PA X es t):Yn (.List es pos) (aHM t):=by
 intro a s σ H Q I g;refine wpAny_List_spliced (thn (h pos a s σ H _ I g) λd c ⟨i,H1,I1,r,z,q⟩=>Y0o (by rw[<-r.length];exact z));have j:H1 c.heap.objs.size=none:=Yfo;refine Y0H Ydp (Y2s H1 c.heap.objs.size i) (YfF c.toks (λb u e=>Y0Q e) ?_) (q _ j);exact⟨z,d,0,r,Y1u⟩
end
abbrev Sp:=Yq
abbrev VI:=Y3t->Hp->Shared->XK->Ya
structure OT(P:Program)(w:World)(K:Aa)(mg:Y0G)(base:Heap)(A:Around)(outer:Y3t)(s:Shared)(H:Hp):Prop where
 frames:A.frames=some outer
 mod:Mod K mg base
 bs:∀b o,base.get? b=Y9->Y26/\H b=none
 bsz:base.objs.size<=s.heap.objs.size
 funs:s.heap.FunFrames base outer
 frf:∀b∈frs outer,H b=none
 hok:sC P w H s.heap
 bare:AllBare s.gens
def CE(outer:Y3t)(P:Program)(w:World)(H:Hp)(s:Shared)(Q:VK)(u:Value)(s':Shared):Prop :=
 ∃v H',s'.os=s.os/\Yc9/\Un (frs outer) [] H H' s.heap s'.heap/\sC P w H' s'.heap/\Y41/\Y1W
def CR(CX:VI)(outer:Y3t)(P:Program)(w:World)(H:Hp)(s:Shared)(Q:VK)(E:XK)(r:Result)(s':Shared):Prop :=
 match r with
 | .ok (.ret u)=>CE outer P w H s Q u s'
 | .ok _=>False
 | .error e=>CX outer H s E e s'
structure dW(P:Program)(w:World)(K:Aa)(mg:Y0G)(base:Heap)(CX:VI)(k:Nat)(f:Addr)(fd:FuncData)(ps:Ah)(sp:Sp):Prop where
 len:∀vs H Q E,sp vs H Q E->YaI
 run:∀(A:Around) (outer:Y3t) (s:Shared) (H:Hp) (args:Args) (us:Ag) (vs:Al) (Q:VK) (E:XK),iX k A->OT P w K mg base A outer s H->Ybn s args Ybc->Y2m vs->sp vs H Q E ->
  Y5o P w A (YaT f args) (CR CX outer P w H s Q E) s
def OT.make{P:Program}{w:World}{K:Aa}{mg:Y0G}{base:Heap}{A:Around}{outer:Y3t}{s:Shared}{H:Hp}(e:OT P w K mg base A outer s H)(C:Addr)(us:Ag)(kw:Y9O) :
  OT P w K mg base (Yc5 "type.__call__" ⟨.ref C::us,kw⟩) outer s H:=⟨by first | exact e.frames | (simpa[Around.under,Code.envs,Code.isFrame,pushEnvs]using e.frames),e.mod,e.bs,e.bsz,e.funs,e.frf,e.hok,e.bare⟩
section
variable{X:Cx}{pins:Ad}{σ:St}{H:Hp}{s s':Shared}
def cY.env0(I:Y6):OT X.prog X.w X.K X.mg X.base X.A X.stack s H :=
 ⟨I.ok.frames,I.ok.mod,I.bs,YcB I.sz,I.stack,I.stkFree,I.hok,I.bare⟩
def cY.after{Q:VK}{u:Value}(I:Y6)(h:CE X.stack X.prog X.w H s Q u s'):EP X pins σ Q u s':=by
 obtain⟨v,H',os,a,un,c,r,q⟩:=h;obtain⟨i,g,d,t,e⟩:=s';obtain rfl:e=s.os:=os;exact⟨v,H',I.call (h':=i) (g':=g) (d':=d) (t':=t) (ch:=[]) un c a (Yek z (by simp)),r,q⟩
end
def zN(sp:Sp)(dvs:Al)(E:XK)(t:TA):TE:=Y5P H (λvs H1=>sp (vs++dvs) H1 Q E)
def aC1(C:Addr)(m:Str)(sp:Sp)(dvs:Al)(E:XK)(ta:TE)(t:TA):TE:=λσ H Q=>ta σ H λx H1=>∃a dx fs,x=Yd/\H1 a=Y7i/\fs.lookup m=none /\
 t σ H1 λvs H2=>sp (x::(vs++dvs)) H2 Q E
def aC2(C:Addr)(sp:Sp)(dvs:Al)(E:XK)(t:TA):TE:=λσ H Q=>t σ H λvs H1=>∀x dx,H1 x=none->H1 dx=none->dx≠x ->
 sp (Y23::(vs++dvs)) (Y8I (upd H1 dx (.own x)) x C dx []) (λv H2=>v=.non/\Y1d x H2) E
def tQ(K:Aa)(fd:FuncData)(ps:Ah)(ds:Ag):Prop :=
 ∀(s:Shared) (us:Ag),YaU->(us++ds).length=ps.length->Ybn s ⟨us,[]⟩ (ps.zip (us++ds))
def tQ.all{K:Aa}{fd:FuncData}{ps:Ah}(h:∀us:Ag,Y33 ps.length->bindArgs fd ⟨us,[]⟩=pure (Ybc)):tQ K fd ps []:=λs us _ a=>by
 rw[List.append_nil]at a ⊢;exact .of_eq (h us a)
def zK(CX:VI)(X:Cx)(E:XK):Prop:=∀(pins:Ad) (σ:St) (H:Hp) (s:Shared) (e:Value) (s':Shared),Y6->CX X.stack H s E e s'->X.xe e s'
section
variable{X:Cx}{CX:VI}{k:Nat}{f C:Addr}{fd:FuncData}{ps:Ah}{sp:Sp}{dvs:Al}{ds:Ag}{E:XK}{x m:Str}{p pos apos:Pos}{e o:Expr}{es:Y0h}{ta:TE}{t:TA}
def XU{pins:Ad}{σ:St}{H:Hp}{s:Shared}{Q:VK}{us:Ag}{vs:Al}(F:dW X.prog X.w X.K X.mg X.base CX k f fd ps sp)(hr:Y57 k)(hb:tQ X.K fd ps ds)(hd:eJ dvs ds)(hx:zK CX X E)
  (I:Y6) (r:Y2m vs) (h:sp (vs++dvs) H Q E):Y74 (call (.ref f) us) X σ Q:=by
 have c:eJ (vs++dvs) (us++ds):=r.append hd;have g:(us++ds).length=ps.length:=by rw[<-c.length];exact F.len _ _ _ _ h
 refine wpAny_call (codeAny_mono (F.run X.A X.stack s H ⟨us,[]⟩ (us++ds) (vs++dvs) Q E hr I.env0 (hb s us I.kIn g) c h) λr d a=>?_);cases r with
 | error e=>exact hx pins σ H s e d I a
 | ok fl =>
  cases fl with
  | ret u=>exact I.after a
  | next=>exact YaQ
  | brk=>exact YaQ
  | cont=>exact YaQ
def aBW(F:dW X.prog X.w X.K X.mg X.base CX k f fd ps sp)(hr:Y57 k)(hg:Y3h)(hm:Y6w=Y3 f)(hk:Y9k X.K f=true)(hb:tQ X.K fd ps ds)(hd:eJ dvs ds)(hx:zK CX X E)
  (ha:PA X (e::es) t) (hdb:Y1L ("__debug__" : Str):=by decide) (he:Y40=(false,Y1l)::Y39:=by rfl) (hpl:Yy ((backTo pos (starEach es X.env)).any (·.1)):=by rfl) :
  Yn (Y4h x p (e::es) []) (zN sp dvs E t):=by
 intro a s σ H Q I h;refine wpAny_Call_Name_kw (HV I hg hm ?_ hdb);refine PySem.W.callWith_K (h₀:=X.base) I.ok.mod.kin hk (thn (ha pos a s σ H _ I h) λg d ⟨c,H1,I1,r,q⟩=>Y0o I1.kIn) he hpl;exact XU F hr hb hd hx I1 r q
def aBQ{pl:Sem Bool}(he:Y6A o)(c:Cls X.K C)(hm:aFV X.K C m f)(F:dW X.prog X.w X.K X.mg X.base CX k f fd ps sp)(hr:Y57 k)(hb:tQ X.K fd ps ds)(hd:eJ dvs ds)(hx:zK CX X E)(ha:PA X (e::es) t)
  (hst:Y40=(false,Y1l)::Y39:=by rfl) (hpl:Yy ((backTo pos (starEach es X.env)).any (·.1)):=by rfl)
  (ht:eval (.Call (.Attribute o m apos) (e::es) [] pos) X.env=(do
   let ov <-eval o X.env
   standAt apos.atName
   let (f,first) <-holding [ov] (getMethod ov m pl)
   callWith pos f first (backTo pos (starEach (e::es) X.env)) (backToKw pos (keywordEach [] X.env))):=by rfl) :
  Yn (Y92 m (e::es) [] pos) (aC1 C m sp dvs E ta t):=by
 intro d s σ H Q I h;refine PySem.W.methodCall_KW (pl:=pl) (thn (he d s σ H _ I h) λu j ⟨x,H1,I1,n,a,y,fs,i,g,l,q⟩=>?_) ht;subst i;obtain rfl:u=Y6K:=n;refine NV I1 g c hm l (PySem.W.callWith_K (first:=Y2n) (h₀:=X.base) I.ok.mod.kin hm.kp (thn (ha pos d j σ H1 _ I1 q) λus z ⟨vs,H2,I2,r,p⟩=>Y0o I2.kIn) hst hpl);exact XU (us:=Yd::us) (vs:=Yd::vs) F hr hb hd hx I2 (.cons rfl r) p
structure Mk(K:Aa)(C f:Addr):Prop where
 makes:YdM C=true
 init:Y6G K C "__init__" = Y4d f
 fn:Y9p K f=true
 kp:Y9k K C=true
def XT{pins:Ad}{σ:St}{H:Hp}{s:Shared}{Q:VK}{us:Ag}{vs:Al}(M:Mk X.K C f)(F:dW X.prog X.w X.K X.mg X.base CX k f fd ps sp)(hr:Y57 (k+1))(hb:tQ X.K fd ps ds)(hd:eJ dvs ds)
  (hx:zK CX X E) (I:Y6) (r:Y2m vs)
  (h:∀x dx,H x=none->H dx=none->dx≠x->sp (Y23::(vs++dvs)) (Y8I (Y4f dx (.own x)) x C dx []) (λv H2=>v=.non/\Y1d x H2) E) :
  Y74 (call (.ref C) us) X σ Q:=by
 have d:=h (Y24) s.heap.objs.size (I.hok.fresh (Nat.le_succ _)) (Y5T) (dL (Yfx));have I2:=cY.made (C:=C) I;have c:eJ (V.ref (Y24)::(vs++dvs)) (Yca::(us++ds)):=.cons rfl (r.append hd);have i:(Yca::us++ds).length=ps.length:=by
  have e:=c.length;rw[F.len _ _ _ _ d]at e;exact e.symm
 refine wpAny_call (YZ (f:=f) I.kIn M.makes M.init (beq_iff_eq.mp M.fn) (codeAny_mono (F.run _ X.stack _ _ ⟨Yca::us,[]⟩ (Yca::(us++ds)) _ _ E (hr.make C us [])
  (I2.env0.make C us []) (hb _ (Yca::us) I2.kIn i) c d) λr g a=>?_))
 cases r with
 | error e=>exact hx pins σ _ _ e g I2 a
 | ok fl =>
  cases fl with
  | ret u =>
   obtain⟨v,H',I3,rv,l,j⟩:=I2.after a;subst l;exact⟨rv,Y0H (V.ref (Y24)) H' I3 j⟩
  | next=>exact YaQ
  | brk=>exact YaQ
  | cont=>exact YaQ
def aBR(M:Mk X.K C f)(F:dW X.prog X.w X.K X.mg X.base CX k f fd ps sp)(hr:Y57 (k+1))(hg:Y3h)(hm:Y6w=Y3 C)(hb:tQ X.K fd ps ds)(hd:eJ dvs ds)(hx:zK CX X E)
  (ha:PA X (e::es) t) (hdb:Y1L ("__debug__" : Str):=by decide) (he:Y40=(false,Y1l)::Y39:=by rfl) (hpl:Yy ((backTo pos (starEach es X.env)).any (·.1)):=by rfl) :
  Yn (Y4h x p (e::es) []) (aC2 C sp dvs E t):=by
 intro a s σ H Q I h;refine wpAny_Call_Name_kw (HV I hg hm ?_ hdb);refine PySem.W.callWith_K (h₀:=X.base) I.ok.mod.kin M.kp (thn (ha pos a s σ H _ I h) λg d ⟨c,H1,I1,r,q⟩=>Y0o I1.kIn) he hpl;exact XT M F hr hb hd hx I1 r q
end
section
variable{X:Cx}{CX:VI}{k:Nat}{f C:Addr}{fd:FuncData}{ps ks:Ah}{sp:Sp}{E:XK}{x m:Str}{p pos apos kpos:Pos}{e o:Expr}{es:Y0h}{kws:List Keyword}{te ta:TE}{t tk:TA}{nm:Option Str}
variable{g:Ag->Ag->Ag}{gV:Al->Al->Al}
end
structure bR(N P:Ah)(sc:Scope):Prop where
 kind:sc.kind=.function:=by rfl
 co:Yy sc.isCoroutine:=by rfl
 gen:Yy sc.isGenerator:=by rfl
 nd:N.Nodup:=by exact Kk
 pre:N.take P.length=P:=by rfl
 par:∀x∈P,Y8k=Y30\/Y8k=Y2g:=by exact Kk
 nofree:∀y∈sc.names,y.2 ≠ .free:=by exact Kk
theorem GA{kindOf:Str->YdP}{x:Str}:∀{binds:Y9O}{m:Y0G},(∀v,(x,v) ∉ binds)->bindL kindOf binds m x=m x
 | [],_,_=>rfl
 | (n,v)::r,m,h=>by
  unfold bindL;rw[GA λw hw=>h w (bG _ hw)];split
  ·have:x≠n:=by rintro rfl;exact h v aY
   simp[this]
  ·rfl
theorem GC{kindOf:Str->YdP}{x:Str}:∀{binds:Y9O}{m:Y0G},(∀v,(x,v) ∉ binds)->bindC kindOf binds m x=m x
 | [],_,_=>rfl
 | (n,v)::r,m,h=>by
  unfold bindC;rw[GC λw hw=>h w (bG _ hw)];split
  ·rfl
  ·have:x≠n:=by rintro rfl;exact h v aY
   simp[this]
theorem GB{kindOf:Str->YdP}{x:Str}{v:Value}:∀{P:Ah}{vs:Ag}{i:Nat}{m:Y0G},P.Nodup->P[i]?=Y7->vs[i]?=Yw->kindOf x=Y30 ->
  bindL kindOf (P.zip vs) m x=Yw
 | [],_,_,_,_,h,_,_=>by simp at h
 | _::_,[],_,_,_,_,h,_=>by simp at h
 | p::P,w::vs,0,m,nd,h1,h2,hk=>by
  simp at h1 h2;subst h1;subst h2;show bindL kindOf ((p,w)::P.zip vs) m p=_;unfold bindL;rw[GA λv hv=>(List.nodup_cons.mp nd).1 (List.of_mem_zip hv).1,if_pos hk];simp
 | p::P,w::vs,i+1,m,nd,h1,h2,hk=>by
  show bindL kindOf ((p,w)::P.zip vs) m x=_;unfold bindL;exact GB (i:=i) (List.nodup_cons.mp nd).2 (by simpa using h1) (by simpa using h2) hk
theorem GD{kindOf:Str->YdP}{x:Str}{v:Value}:∀{P:Ah}{vs:Ag}{i:Nat}{m:Y0G},P.Nodup->P[i]?=Y7->vs[i]?=Yw->kindOf x≠Y30 ->
  bindC kindOf (P.zip vs) m x=Yw
 | [],_,_,_,_,h,_,_=>by simp at h
 | _::_,[],_,_,_,_,h,_=>by simp at h
 | p::P,w::vs,0,m,nd,h1,h2,hk=>by
  simp at h1 h2;subst h1;subst h2;show bindC kindOf ((p,w)::P.zip vs) m p=_;unfold bindC;rw[GC λv hv=>(List.nodup_cons.mp nd).1 (List.of_mem_zip hv).1,if_neg hk];simp
 | p::P,w::vs,i+1,m,nd,h1,h2,hk=>by
  show bindC kindOf ((p,w)::P.zip vs) m x=_;unfold bindC;exact GD (i:=i) (List.nodup_cons.mp nd).2 (by simpa using h1) (by simpa using h2) hk
def start(N:Ah)(vs:Al):St:=(vs.map some) ++ (YfB (N.length-vs.length))
def LB(CX:VI)(P:Program)(w:World)(K:Aa)(mg:Y0G)(base:Heap)(N:Ah)(qual:Str)(scope:Scope)(f:Addr)(cd:Value)(A:Around)(outer:Y3t)(s:Shared)(H:Hp)(E:XK):Cx where
 prog:=P
 w:=w
 K:=K
 mg:=mg
 base:=base
 A:=Ycl scope f cd
 N:=N
 s₀:=s
 H₀:=H
 env:=Yb1 scope f cd
 outer:=outer
 stack:=Yb1 scope f cd::outer
 ex:=[]
 calm:=true
 fn:=λ_=>true
 pn:=[]
 xe:=λe s'=>wpAny (model P w) (Ycl scope f cd) (leaving (Yb1 scope f cd) e) (λ_ s''=>CX outer H s E e s'') (λe' s''=>CX outer H s E e' s'') s'
def LN{sc:Scope}{n:Nat}{x:Str}(h:Y8k=Y2g):∃c,(cellsFrom n sc.names []).lookup x=Y1h:=by
 have q:=PySem.W.cellsFrom_some sc.names n [] (.inl h);exact Option.isSome_iff_exists.mp q
def UF{CX:VI}{P:Program}{w:World}{K:Aa}{mg:Y0G}{base:Heap}{N ps:Ah}{qual:Str}{scope:Scope}{f:Addr}{cd:Value}{A:Around}{outer:Y3t}{s s1:Shared}{H:Hp}{E:XK}{us:Ag}{vs:Al}
  (S:bR N ps scope) (hd:Y5D) (e0:OT P w K mg base A outer s H) (hl:YaI) (r:Y2m vs)
  (x:InCallC s s.heap.objs.size (bindL (Yb1 scope f cd).kindOf (Ybc) Y9H) (cellsFrom (Y24) scope.names []) (bindC (Yb1 scope f cd).kindOf (Ybc) Y9H) s1) :
  cY (LB CX P w K mg base N qual scope f cd A outer s H E) [] (YbE N) H s1:=by
 have I:ps.length<=N.length:=by have:=Y7u S.pre;rw[gG]at this;exact Oo
 obtain⟨B,L,rfl,G⟩:=x.done;have j:∀b:Addr,b ∉ (LB CX P w K mg base N qual scope f cd A outer s H E).ex:=Yek (show b∈([]:List Addr)from z) (by simp);refine⟨⟨e0.mod,S.kind,rfl,rfl,Yl,λy z c B d=>?_,λy g=>?_,λy c _ h=>?_,λ_=>hd,Around.frames_deeper e0.frames,.inr Y6o,Yek z (j b),e0.bs,e0.bsz,λb _ _=>j b,Yek z (j b),e0.funs,e0.frf⟩,
  rfl,e0.bare,Un.kept G,Y0J x.toInCall.ns (λi y v B d M=>?_),λy c h=>Y3z (x.cell y c h),e0.hok.fresh (Yl),λy c h=>?_,λp l=>absurd (show p∈([]:Ad)from l) (by simp),e0.hok.kept G,?_⟩
 ·exact name_of_addr x.apart (PySem.mem_of_lookup B) (PySem.mem_of_lookup d)
 ·have g:YbO y Y2g\/YbO y YeL:=g;rcases g with g | g
  ·exact LN g
  ·exact Y8y (S.nofree _ (PySem.mem_of_lookup g))
 ·exact Nat.le_of_lt (x.above y c (PySem.mem_of_lookup h))
 ·have C:i<vs.length:=by
   unfold start at d;by_cases C:i<vs.length
   ·exact C
   ·rw[cB (by simpa using C)]at d;rw[List.getElem?_replicate]at d;split at d <;> cases d
  have J:vs[i]?=Yw:=by
   unfold start at d;rw[cJ (by simpa using C),aE]at d;cases e:vs[i]? with
   | none=>rw[e]at d;cases d
   | some a=>rw[e]at d;cases d;rfl
  obtain⟨u,D,rv⟩:=r.get J;have l:ps[i]?=Y0b:=by
   rw[<-S.pre,List.getElem?_take_of_lt Oo];exact B
  have m:ps.Nodup:=by rw[<-S.pre];exact S.nd.sublist (List.take_sublist _ _)
  refine Y05 u rv;rcases S.par y (aF l)with k | k
  ·exact Y4c k (GB m l D k)
  ·obtain⟨c,e⟩:=LN (n:=Y24) k;refine .inr (Y2X (.inl k) c e);have q:=x.cell y c e;rw[GD m l D (by show scope.names.lookup y≠_;rw[k];decide)]at q;exact q
 ·exact e0.hok.fresh (Nat.le_of_lt (x.above y c (PySem.mem_of_lookup h)))
 ·unfold start;show _=N.length;rw[aU,aA,bV];exact Oo
def aGZ{CX:VI}{P:Program}{w:World}{K:Aa}{mg:Y0G}{base:Heap}{k:Nat}{f:Addr}{name qual:Str}{params:Arguments}{body:Y5z}{scope:Scope}{dV kV doc pm cdv ct oc:Value}{an od:Y5s}
  {osl:Y9A} {N ps:Ah} {sp:Sp} (lk:YeP=Y90 oc od (PySem.W.fnOf name qual params body scope dV kV doc pm an cdv ct) osl) (hcd:YdY cdv qual=true) (S:bR N ps scope)
  (len:∀vs H Q E,sp vs H Q E->YaI)
  (hbody:∀(A:Around) (outer:Y3t) (s:Shared) (H:Hp) (vs:Al) (Q:VK) (E:XK),iX k (Ycl scope f cdv)->sp vs H Q E ->
   ∃t,OO (LB CX P w K mg base N qual scope f cdv A outer s H E) body t/\t { nx:=λ_ H'=>Q .non H',rt:=Q } (YbE N) H) :
  dW P w K mg base CX (k+1) f (PySem.W.fnOf name qual params body scope dV kV doc pm an cdv ct) ps sp:=by
 refine⟨len,λA outer s H z G vs Q E j d T r g=>?_⟩;have O:=len _ _ _ _ g;have KX:YaU:=d.mod.kin.keeps λb o e=>(d.bs b o e).1;have l:s.heap.NoLimit:=d.mod.nolimit.keeps λb o e=>(d.bs b o e).1;have a:∀y∈ps.zip G,Y80 y.1\/(YbO y.1 Y2g/\((cellsFrom (s.heap.objs.size+1) scope.names []).lookup y.1).isSome=true):=λ⟨n,v⟩ B=>by
  rcases S.par n (List.of_mem_zip B).1 with q | q
  ·exact .inl q
  ·exact Y2G q (PySem.W.cellsFrom_some _ _ _ (.inl q))
 refine codeAny_call_function j.depth (KX _ _ lk) rfl S.co S.gen rfl (PySem.W.codeRec_of KX hcd) (T _ _ _ _ ?_);refine wpAny_newFunctionEnv_cells S.kind a λD C p x=>?_;subst C;refine⟨l.keeps x.toInCall.keep,codeAny_func ?_⟩;obtain⟨t,R,M⟩:=hbody A outer s H vs Q E (j.deeper _) g;have I:cY (LB CX P w K mg base N qual scope f cdv A outer s H E) [] (YbE N) H p:=UF S j.hd d O r x;refine wpAny_mono (R [] p (YbE N) H _ I M) (λL m c=>?_) λe m c=>c;have h:∀{i:St} {H':Hp} {v:V} {u:Value},cY (LB CX P w K mg base N qual scope f cdv A outer s H E) [] i H' m->Y41->Y1W->CE outer P w H s Q u m :=
  λ{i H' v u} J rv q=>⟨v,H',J.os,J.bare,J.base,J.hok,rv,q⟩
 cases L with
 | ret u =>
  obtain⟨v,i,H',J,rv,q⟩:=c;exact h J rv q
 | next =>
  obtain⟨i,H',J,q⟩:=c;exact h (v:=V.non) (u:=Value.none) J rfl q
 | brk =>
  obtain⟨_,_,_,q⟩:=c;exact False.elim q
 | cont =>
  obtain⟨_,_,_,q⟩:=c;exact False.elim q
section
variable{X:Cx}{x:Str}{p pos:Pos}{e:Expr}{es:Y0h}{t:TA}{id T:String}{r:Y1x}
def tCB(r:Y1x)(t:TA):TE:=Y5P H (λvs H1=>r vs H1 Q)
def YQ(hc:Y4M X id r)(hg:Y3h)(hm:Y6w=none)(hv:Y9u=Y8n id)(ha:PA X (e::es) t)(hn:x ≠ "__name__" := by decide)(hdb:Y1L ("__debug__" : Str):=by decide)
  (he:Y40=(false,Y1l)::Y39:=by rfl) (hpl:Yy ((backTo pos (starEach es X.env)).any (·.1)):=by rfl):Yn (Y4h x p (e::es) []) (tCB r t):=by
 intro a s σ H Q I h;refine wpAny_Call_Name_kw (rQ I hg hm hv ?_ hn hdb);exact PyProof.Rows.callWith_builtin1 (thn (ha pos a s σ H _ I h) λg d ⟨c,H1,I1,i,j⟩=>hc a d σ H1 c g Q I1 i j) he hpl
def TM(hc:Y9Q X T r)(hg:Y3h)(hm:Y6w=none)(hv:Y9u=some (.type T))(ha:PA X (e::es) t)(hn:x ≠ "__name__" := by decide)(hdb:Y1L ("__debug__" : Str):=by decide)
  (he:Y40=(false,Y1l)::Y39:=by rfl) (hpl:Yy ((backTo pos (starEach es X.env)).any (·.1)):=by rfl):Yn (Y4h x p (e::es) []) (tCB r t):=by
 intro a s σ H Q I h;refine wpAny_Call_Name_kw (rQ I hg hm hv ?_ hn hdb);exact Y9c (ha pos a s σ H _ I h) (λg d ⟨c,H1,I1,i,j⟩=>hc a d σ H1 c g Q I1 i j) he hpl
end
end L2
namespace HT
open PySem PyProof.Rows
def vA:Af->Y1V Af
 | [],[]=>false
 | [],_::_=>true
 | _::_,[]=>false
 | x::xs,y::ys=>if x=y then vA xs ys else decide (x<y)
def CP(x y:Int)(xs ys:Af):vA (x::xs) (y::ys)=if x=y then vA xs ys else Y22 x y:=rfl
def ZW(A:Around)(s:Shared)(a:Int)(t:Tok)(c:Int)(u:Tok):∃e,SeqAt.EqAt A s (Y4r a) (.int c u) e/\(e=true↔a=c) :=
 ⟨(a == c),SeqAt.EqAt.int_int a t c u,by simp⟩
section
open PySem.SeqAt
open PySem.AutoSeq1 (wpAny_loadPart')
open PySem.MeetsSeq PySem.MeetsSeq2 PySem.MeetsSeq3
end
section
variable{prog:Program}{w:World}{A:Around}{E:Ya}{s:Shared}
def aCv{t b:Addr}{vs ws:Ag}{Q:Ya}(ht:YcA t vs.toArray)(hb:YcA b ws.toArray)(hv:vs≠[])
  (h1:ws=[]->Y1d t s) (h2:ws≠[]->Yap ({ s with heap:=s.heap.push { cls:=.type "tuple",data:=.seq (vs++ws).toArray } }))
  (hsz:Y0q (vs.length+ws.length)):Y1J (binaryOp .Add (Y96) (Y0e)):=by
 obtain⟨⟨cls,p,data,sl⟩,i,r,n,hd⟩:=id ht;obtain⟨⟨l,h,j,g⟩,a,c,m,d⟩:=id hb;simp only at r hd c d;subst r hd c d;have e:vs.toArray++ws.toArray=(vs++ws).toArray:=by simp
 by_cases hw:ws=[]
 ·exact concat_meets (Y0V i) (Y0V a) noFill_tuple_add seq_tuple_add PySem.F.slot_tuple_add PySem.F.entry_tuple_add (Yf6 _)
   (tuple_addW1 t b vs.toArray ws.toArray n m p h sl g (by simpa using hv) (by simp[hw])) ⟨i,a,h1 hw⟩
 ·refine concat_meets (Y0V i) (Y0V a) noFill_tuple_add seq_tuple_add PySem.F.slot_tuple_add PySem.F.entry_tuple_add (Yf6 _)
   (tuple_addW2 t b vs.toArray ws.toArray n m p h sl g (by simpa using hv) (by simpa using hw) (by rw[bM,bM];exact hsz)) (Y05 i a)
  rw[e];exact h2 hw
def kN(n d:Nat):Y1e->Nat
 | none=>d
 | some v=>if v<0 then(v+(n:Int)).toNat else min v.toNat n
def xA(n d:Nat):kN n d none=d:=rfl
def HC(n d k:Nat):kN n d (some (k:Int))=min k n:=by
 show(if(k:Int)<0 then((k:Int)+(n:Int)).toNat else min (k:Int).toNat n)=min k n;rw[Y3s,Int.toNat_natCast]
def aEI(n d:Nat)(hd:d<=n)(o:Y1e):kN n d o<=n:=by
 cases o with
 | none=>exact hd
 | some v =>
  show(if v<0 then(v+(n:Int)).toNat else min v.toNat n)<=n;by_cases hv:v<0
  ·rw[if_pos hv];exact Oo
  ·rw[if_neg hv];exact Nat.min_le_right _ _
def RX(v:Int)(n d:Nat):(if v<0 then max (v+(n:Int)) 0 else min v (n:Int))=((kN n d (some v):Nat):Int):=by
 show(if v<0 then max (v+(n:Int)) 0 else min v (n:Int))=(((if v<0 then(v+(n:Int)).toNat else min v.toNat n):Nat):Int);by_cases hv:v<0
 ·simp only[if_pos hv];exact Oo
 ·simp only[if_neg hv];exact Oo
def OM(lo hi:Y1e)(n:Nat):Builtin.Slice.sliceAdjust lo hi 1 (n:Int)=(((kN n 0 lo:Nat):Int),((kN n n hi:Nat):Int)):=by
 have a:¬((1:Int)<0):=Oo;unfold Builtin.Slice.sliceAdjust;simp only[a,if_false];refine Prod.ext ?_ ?_
 ·cases lo with
  | none=>rfl
  | some v=>exact RX v n 0
 ·cases hi with
  | none=>rfl
  | some v=>exact RX v n n
def NI(i j:Nat):Builtin.Slice.slicePlaces (i:Int) (j:Int) 1=j-i:=by
 unfold Builtin.Slice.slicePlaces;have a:(1:Int) > 0:=Oo;simp only[a,if_true,Int.ediv_one];split <;> exact Oo
def BW{v:Value}{o:Y1e}{Q:Y2v Y1e}(p:IsPart v o)(h:Q o s):Y1J (Builtin.Slice.slicePartIndex v):=by
 cases p with
 | none=>exact slicePart_none h
 | int i t=>exact slicePart_int h
def qI{sl:Addr}{vl vu:Value}{lo hi:Y1e}{n:Nat}{Q:Y2v (Int × Int × Nat)}(hs:Ydz sl vl vu)(pl:IsPart vl lo)(pu:IsPart vu hi)
  (h:Q (((kN n 0 lo:Nat):Int),1,kN n n hi-kN n 0 lo) s):Y1J (Builtin.Slice.sliceApplied (.ref sl) (pure (n:Int))):=by
 obtain⟨e,c,d,a⟩:=id hs;unfold Builtin.Slice.sliceApplied Builtin.Slice.sliceFields;refine wpAny_bind (wpAny_bind (wpAny_field c a (x:=vl) rfl (wpAny_bind (wpAny_field c a (x:=vu) rfl (wpAny_bind (wpAny_field c a (x:=.none) rfl Y2e))))));refine wpAny_bind (slicePart_none ?_);show Y3F (if((1:Int) == 0)=true then _ else _);rw[Y2E];refine wpAny_bind (BW pl (wpAny_bind (BW pu (Y3m ?_))));show wpAny _ _ (match Builtin.Slice.sliceAdjust lo hi 1 (n:Int)with | (lo,hi)=>pure (lo,(1:Int),Builtin.Slice.slicePlaces lo hi 1)) _ _ s;rw[OM lo hi n];show Y3F (pure (((kN n 0 lo:Nat):Int),(1:Int),Builtin.Slice.slicePlaces ((kN n 0 lo:Nat):Int) ((kN n n hi:Nat):Int) 1));rw[NI];exact wpAny_pure h
def YJ(xs:Ai)(i k:Nat):((List.range k).filterMap λ(m:Nat)=>Y28 (((i:Int)+(m:Int)*1).toNat)).toArray=((xs.toList.drop i).take k).toArray:=by
 have e:(λ(m:Nat)=>Y28 (((i:Int)+(m:Int)*1).toNat))=λm=>Y28 (i+m):=by
  funext m
  have:((i:Int)+(m:Int)*1).toNat=i+m:=Oo;rw[this]
 rw[e];have:=pick_run xs i k;rw[List.filterMap_map]at this;have a:((λx=>xs[x]?) ∘ λx=>i+x)=λm=>xs[i+m]?:=rfl;rw[a]at this;rw[this]
def xJ{t sl:Addr}{items:Ai}{vl vu:Value}{lo hi:Y1e}{Q:Ya}(ht:YcA t items)(hs:Ydz sl vl vu)(pl:IsPart vl lo)(pu:IsPart vu hi)
  (hw:¬(Y7s 0 lo=0/\Y7g=items.size))
  (h:Yap ({ s with heap:=s.heap.push { cls:=.type "tuple",data:=.seq ((items.toList.drop (kN items.size 0 lo)).take (kN items.size items.size hi-kN items.size 0 lo)).toArray } }))
  (hsz:Y0q items.size):Y1J (getItem (Y96) (.ref sl)):=by
 have a:sizeOk (.seq ((items.toList.drop (kN items.size 0 lo)).take (Y7g-Y7s 0 lo)).toArray):=by
  show Y0q (((items.toList.drop (kN items.size 0 lo)).take (Y7g-Y7s 0 lo)).toArray.size);rw[bM,gG,List.length_drop,Array.length_toList];exact Oo
 have l:Y7g<=items.size:=aEI _ _ (Yl) hi;obtain⟨j,e,g,i⟩:=id hs;have d:Y8p sl "slice" := ⟨j,e,g⟩;unfold getItem
 try with_reducible refine YfI
 first | refine Y3m ?_ | skip
 refine wpAny_bind (wpAny_sequenceKey ht.typeIs Dd ?_);refine wpAny_bind (wpAny_callSpecial?_slot (name:=Str.ofString "__getitem__") ht.typeIs PyProof.Rows.slot_tuple_getitem
  (wpAny_call_entry PyProof.Rows.slot_tuple_getitem ht.typeIs entry_tuple_getitem ?_ (args_tuple_getitem _ _)))
 show Y3F (Builtin.Tuple.tupleItemsOf (Y96) >>= _);refine wpAny_bind (tupleItemsOf_ ht ?_);refine Yf7 d ?_;rw[Yb8];refine wpAny_bind (qI hs pl pu ?_);have c:¬((((kN items.size 0 lo:Nat):Int) == 0&&(1:Int) == 1&&Yeh (Y7g-Y7s 0 lo))=true):=by
  intro q;rw[eB,eB]at q;have p:((kN items.size 0 lo:Nat):Int)=0:=eq_of_beq q.1.1;have n:Y7g-Y7s 0 lo=items.size:=eq_of_beq q.2;exact hw (Y2Q Oo)
 show Y3F (if(((kN items.size 0 lo:Nat):Int) == 0&&(1:Int) == 1&&Yeh (Y7g-Y7s 0 lo))=true then _ else _);rw[if_neg c,YJ]
 first
  | exact Yds _ (YaE h) a
  | exact Yds _ (Y3m (YaE h)) a
  | exact wpAny_bind (Yds _ (wpAny_pure (YaE h)) a)
  | exact wpAny_bind (Yds _ (YaE h) a)
end
end HT
namespace L2
open PySem PySem.Spec PyProof.Rows
abbrev TO:=St->Y5n (Y1P Y1e)
def PO(X:Cx)(e:Yey)(t:TO):Prop :=
 ∀(pins:Ad) (s:Shared) (σ:St) (H:Hp) (Q:Y1P Y1e),Y6->t σ H Q ->
  Y55 (evalPart e X.env) (λu s'=>∃o H',Y58 s'/\IsPart u o/\Q o H')
def PU:TO:=λ_ H Q=>Q none H
def aCZ(t:TE):TO:=Y5P H (λx H1=>∃i,x=Y1s/\Q (some i) H1)
def vQ{ns:Af}:∀{us:Ag},Y2m Y5j->Y69 us:=by
 induction ns with
 | nil=>intro us r;rw[List.map_nil]at r;cases r;exact .nil
 | cons n ns ih =>
  intro us r;rw[bA]at r;cases r with
  | cons r1 r2 =>
   obtain⟨t,e⟩:=r1;subst e;exact .cons n t (ih r2)
section
variable{X:Cx}{e:Expr}{te:TE}{lo hi:Yey}{tl th:TO}{pos p2:Pos}
def po_none:PO X none PU:=by
 intro a s σ H Q I h;rw[evalPart_none];exact wpAny_pure ⟨none,H,I,.none,h⟩
def aBN(h:Yn e te):PO X (Y7b) (aCZ te):=by
 intro a s σ H Q I c;rw[evalPart_some];refine thn (h a s σ H _ I c) λu j ⟨x,H1,I1,d,g⟩=>?_;obtain⟨i,rfl,q⟩:=g;obtain⟨t,rfl⟩:=d;exact⟨some i,H1,I1,Y4r i,q⟩
def SlR(X:Cx)(r:V->Y1e->Y8T):Prop :=
 ∀(pins:Ad) (s:Shared) (σ:St) (H:Hp) (x:V) (v vl vu:Value) (lo hi:Y1e) (sl:Addr) (Q:VK),Y6->fH x v->Ydz sl vl vu->IsPart vl lo->IsPart vu hi->r x lo hi H Q ->
  ∃T id,YfJ T "__getitem__" = pure (Y8n id)/\s.TypeIs v T/\Y74 (getItem v (.ref sl)) X σ Q
def tSl(r:V->Y1e->Y8T)(te:TE)(tl th:TO):TE:=λσ H Q=>te σ H λx H1=>tl σ H1 λl H2=>th σ H2 λu H3=>r x l u H3 Q
def YL{r:V->Y1e->Y8T}(hr:SlR X r)(he:Yn e te)(hl:PO X lo tl)(hu:PO X hi th):Yn (Y7y e (.Slice lo hi none p2)) (tSl r te tl th):=by
 intro a s σ H Q I h;refine Subscript_ (thn (he a s σ H _ I h) λv p ⟨x,H1,I1,D,j⟩=>?_);refine wpAny_Slice (thn (hl a p σ H1 _ I1 j) λg z ⟨l,H2,I2,G,B⟩=>thn (hu a z σ H2 _ I2 B) λd c ⟨u,H3,I3,y,n⟩=>?_);rw[evalPart_none];refine Y2e;have I4:Y29 a H3 ({ c with heap:=c.heap.push { cls:=.type "slice",data:=.fields #[g,d,.none] } }):=I3.kept (t':=c.toks) λb J q=>Y0Q q;obtain⟨T,L,C,i,m⟩:=hr a { c with heap:=c.heap.push { cls:=.type "slice",data:=.fields #[g,d,.none] } } σ H3 x v g d l u c.heap.objs.size Q I4 D (Heap.IsSliceOf.new ..) G y n;show Y9f (subscriptTail e (.Slice lo hi none p2) v (Ydp)) (EP X a σ Q) ({ c with heap:=c.heap.push { cls:=.type "slice",data:=.fields #[g,d,.none] } });exact tail_any (ops:=[Ydp,v]) i C m (by with_unfolding_all rfl)
def mT(xs:Al)(lo hi:Y1e):Al:=(xs.drop (HT.kN xs.length 0 lo)).take (YaD xs.length hi-YaD 0 lo)
def zU(xs:Al)(lo hi:Y1e):Y4S ((mT xs lo hi).length):=by
 unfold mT;rw[gG,List.length_drop];exact Oo
def aHX(K:Aa):V->Y1e->Y8T:=λx lo hi H Q=>∃a xs,x=Yd/\Y49 K a /\
 ¬(YaD 0 lo=0/\Y4V (YaD xs.length hi))/\∀p,H p=none->Y1d p (Y8A p (mT xs lo hi))
def aDG:SlR X (aHX X.K):=by
 intro j s σ H x v C B e i sl Q I w y z u h;obtain⟨a,d,rfl,p,n,q⟩:=h;cases w;obtain⟨g,r,m,l⟩:=I.tuple p;have c:g.toArray.size=d.length:=by rw[bM];exact r.length.symm
 refine⟨"tuple",_,PyProof.Rows.slot_tuple_getitem.lookup,m.typeIs,HT.xJ m y z u (by rw[c];exact n) ?_ (by rw[c];exact l)⟩;rw[c];refine Y0H Y2D _ (Yfk (.tup (mT d e i)) (λb A q=>Y0Q q) Yl ?_) (q _ (Y5T));exact⟨⟨aK (zU d e i) l,_,Y1u,rfl⟩,_,(r.drop (HT.kN d.length 0 e)).take (Yel d.length i-Yel 0 e),IsTup.new _ _⟩
def aGC(K:Aa):R2:=λx y H Q=>∃a b xs ys,x=Yd/\y=Y0e/\Y49 K a/\jC K H b ys/\xs≠[]/\Y0q (Y6L ys.length) /\
 (ys=[]->Y1d a H)/\(ys≠[]->∀p,H p=none->Y1d p (Y8A p (xs++ys)))
def eJ.nil_iff{xs:Al}{us:Ag}(r:Y5L):us=[]↔xs=[]:=by
 cases r with
 | nil=>simp
 | cons _ _=>simp
def aB1:Y5q X .Add (aGC X.K):=by
 intro e s σ H x y v u Q I G B h;obtain⟨a,b,D,m,rfl,rfl,r,J,A,g,l,C⟩:=h;cases G;cases B;obtain⟨p,d,j,_⟩:=I.tuple r;obtain⟨i,c,n,_⟩:=I.tuple J;refine HT.aCv j n (λz=>A (d.nil_iff.mp z)) (λz=>Y0H Yd H I (l (c.nil_iff.mp z))) (λz=>?_) (by rw[<-d.length,<-c.length];exact g);refine Y0H Y2D _ (Yfk (.tup (D++m)) (λb L q=>Y0Q q) Yl ?_) (C (λw=>z (c.nil_iff.mpr w)) _ (Y5T));exact⟨⟨by rw[aU];exact g,_,Y1u,rfl⟩,_,d.append c,IsTup.new _ _⟩
end
def NU(n:Nat)(i:Int):YcG:=if 0<=i then(if i<n then some i.toNat else none) else if -(n:Int)<=i then some (i+n).toNat else none
def ED{α:Type}(xs:Yu)(i:Int):Option α:=(NU xs.length i).bind λj=>Y28 j
def QV{n:Nat}{i:Int}{j:Nat}(h:NU n i=Y6u):seqIndex? i n=Y6u/\j<n/\-(n:Int)<=i/\i<n:=by
 unfold NU at h;by_cases h0:0<=i
 ·rw[if_pos h0]at h;by_cases h1:i<n
  ·rw[YcS]at h;have e:i.toNat=j:=fN h;exact⟨by rw[seqIndex_of h0 h1,e],Oo,Oo,h1⟩
  ·rw[Yb9]at h;cases h
 ·rw[if_neg h0]at h;by_cases h1:-(n:Int)<=i
  ·rw[YcS]at h;have e:(i+n).toNat=j:=fN h;exact⟨by rw[Yg8 h1,e],Oo,h1,Oo⟩
  ·rw[Yb9]at h;cases h
def IM{α:Type}{xs:Yu}{i:Int}{v:α}(h:ED xs i=Yw):∃j,seqIndex? i xs.length=Y6u/\Y28 j=Yw/\Y9j j/\-(xs.length:Int)<=i/\Y5f:=by
 unfold ED at h;cases e:Ycq i with
 | none=>rw[e]at h;cases h
 | some j =>
  rw[e]at h;obtain⟨g,d,a,c⟩:=QV e;exact⟨j,g,h,d,a,c⟩
def dB{α:Type}{xs:Yu}{j:Nat}{v:α}(h:Y28 j=Yw):ED xs (j:Int)=Yw:=by
 have a:Y9j j:=(aC.mp h).1;have e:Ycq (j:Int)=Y6u:=by
  unfold NU;rw[Y4U,Y4U];simp
 unfold ED;rw[e];exact h
def SF(b:Expr):Prop:=∀o i,YdZ b o i=Yg9 [o,i] o i
def IxR(X:Cx)(r:R2):Prop :=
 ∀(value slice:Expr) (pins:Ad) (s:Shared) (σ:St) (H:Hp) (x y:V) (v u:Value) (Q:VK),Y6->fH x v->Y3D->r x y H Q ->
  YdZ slice v u=Yg9 [v,u] v u->Y74 (subscriptTail value slice v u) X σ Q
def MtR(X:Cx)(id:String)(r:V->Y1x):Prop :=
 ∀(pins:Ad) (s:Shared) (σ:St) (H:Hp) (x:V) (xs:Al) (v:Value) (us:Ag) (Q:VK),Y6->fH x v->Y5L->r x xs H Q ->
  Y74 (YaC id (v::us)) X σ Q
section
variable{X:Cx}{a b:Expr}{ta tb:TE}{pos:Pos}
def IxR.or{r r':R2}(h:IxR X r)(h':IxR X r'):IxR X (λx y H Q=>r x y H Q\/r' x y H Q):=by
 intro a c d s σ H x y v u Q I e i q g;rcases q with q | q
 ·exact h a c d s σ H x y v u Q I e i q g
 ·exact h' a c d s σ H x y v u Q I e i q g
def aGM{r:R2}(hr:IxR X r)(ha:Y6A a)(hb:Yn b tb)(hs:SF b):Yn (Y7y a b) (tOp r ta tb):=by
 intro c s σ H Q I h;exact Subscript_ (Yfr ha hb I h (hr a b c g σ H2 x y v u Q I2 d e q (hs _ _)))
def aGB(K:Aa):R2:=λx y H Q=>∃p xs i v,x=Y21/\y=Y1s/\Y3i K H p/\ED xs i=Yw/\Q v H
def aGz(K:Aa):R2:=λx y H Q=>∃p xs i v,x=Y21/\y=Y1s/\Y49 K p/\ED xs i=Yw/\Q v H
def aGA:R2:=λx y H Q=>∃z i c,x=.str z/\y=Y1s/\Y0q z.length/\ED z.cps.toList i=Y1h/\Q (.str ⟨#[c]⟩) H
def aCf:IxR X (aGB X.K):=by
 intro m e a s σ H x y v u Q I P M h C;obtain⟨p,T,i,z,rfl,rfl,N,G,q⟩:=h;cases P;obtain⟨t,rfl⟩:=M;obtain⟨g,r,A,S⟩:=I.list N;obtain⟨j,d,J,W,D,L⟩:=IM G;obtain⟨w,B,n⟩:=r.get J;have O:=r.length;have U:=HP;have c:EP X a σ Q w s:=⟨z,H,I,n,q⟩;by_cases h0:0<=i
 ·have l:i.toNat=j:=by
   rw[seqIndex_of h0 L]at d;exact fN d
  exact item_listR A.isList h0 Oo (by rw[l];simpa using B) c C
 ·have l:(i+(g.toArray.size:Int)).toNat=j:=by
   rw[Yg8 D]at d;rw[bM,<-O];exact fN d
  exact subscriptTail_builtinR (x:=w) A.isList.typeIs slot_list_getitem.lookup
   (wpAny_getItem_list_neg (Q:=λr R=>r=w/\EP X a σ Q r R) A.isList Oo (by rw[bM] <;> exact Oo) Oo (by rw[l];simpa using B) (Y0O c)) C
def aFs:IxR X (aGz X.K):=by
 intro d c a s σ H x y v u Q I J C h N;obtain⟨p,S,i,z,rfl,rfl,D,n,q⟩:=h;cases J;obtain⟨t,rfl⟩:=C;obtain⟨A,r,l,P⟩:=I.tuple D;obtain⟨j,m,B,U,O,R⟩:=IM n;obtain⟨w,L,e⟩:=r.get B;have G:=r.length;have T:=HP;have g:EP X a σ Q w s:=⟨z,H,I,e,q⟩;exact subscriptTail_builtinR (x:=w) l.typeIs slot_tuple_getitem.lookup
  (getItem_tuple (j:=j) (Q:=λr M=>r=w/\EP X a σ Q r M) l Oo Oo (by rw[bM,<-G];exact m) (by simpa using L) (Y0O g)) N
def aFt:IxR X aGA:=by
 intro d a e s σ H x y v u Q I B w h C;obtain⟨z,i,c,rfl,rfl,J,m,q⟩:=h;obtain⟨t,rfl⟩:=B;obtain⟨G,rfl⟩:=w;obtain⟨j,g,n,M,l,r⟩:=IM m;have A:z.cps.toList.length=z.length:=by simp[Str.length]
 rw[A]at g l r;have L:=HP;exact tail_any (typeIs_str s z t) slot_str_getitem.lookup (getItem_str (c:=c) (by
  have D:Yy (Y22 i (-(2^63:Int))):=cA Oo;have p:Yy (decide (i ≥ 2^63)):=cA Oo;rw[D,p,Bool.or_false]) (by rw[g];simpa using n) ⟨.str ⟨#[c]⟩,H,Y1G,Y37,q⟩) C
def rIx(K:Aa):R2:=λx y H Q=>aGB K x y H Q\/aGz K x y H Q\/aGA x y H Q
def bO:IxR X (rIx X.K):=aCf.or (aFs.or aFt)
def NP(its:Ag)(n j:Nat)(u:Value):Obj.mapSeq (·.setIfInBounds j u) { cls:=.type "list",data:=.seq its.toArray n }={ cls:=.type "list",data:=.seq (its.set j u).toArray n }:=by
 simp[Obj.mapSeq]
theorem cY.lst{pins:Ad}{σ:St}{H:Hp}{s:Shared}{p:Addr}{xs:Al}(I:Y6)(h:H p=Y0I) :
  ∃(its:Ag) (n:Nat),eJ xs its/\Y2H p ({ cls:=.type "list",data:=.seq its.toArray n })/\Y4L:=by
 obtain⟨z,its,n,r,e⟩:=I.hok p _ h;exact⟨its,n,r,e,z⟩
def cY.lstUpd{pins:Ad}{σ:St}{H:Hp}{s:Shared}{p:Addr}{xs ys:Al}{its its':Ag}{n n':Nat}{f:Obj->Obj}(I:Y6)(h:H p=Y0I)
  (ho:Y2H p ({ cls:=.type "list",data:=.seq its.toArray n })) (hf:f { cls:=.type "list",data:=.seq its.toArray n }={ cls:=.type "list",data:=.seq its'.toArray n' }) (r:eJ ys its') (hz:Yea) (t:Nat) :
  Y2Z (Y2s H p ys) ({ s with heap:=s.heap.update p f,toks:=t }):=by
 have e:(s.heap.update p f).get? p=some { cls:=.type "list",data:=.seq its'.toArray n' }:=by
  rw[Heap.get?_update_self f ho (by rw[hf] <;> rfl),hf]
 refine YfD p p (by rw[h];trivial) (λb u a q=>(Heap.get?_update_other _ _ (Ne.symm a)).trans q) (Y3z e) ?_;exact⟨hz,its',n',r,e⟩
def QF:V->V->V->Y5n (Y1c Hp):=λo i v H Q=>∃p xs k j,o=Y21/\i=.int k/\H p=Y0I/\Ycq k=Y6u/\Q (Y2s H p (xs.set j v))
def sR:aFT X QF:=by
 intro a s σ H o i v G L u Q I C z rv h;obtain⟨p,D,k,j,rfl,rfl,m,A,q⟩:=h;cases C;obtain⟨t,rfl⟩:=z;obtain⟨c,n,r,l,B⟩:=I.lst m;obtain⟨d,J,y,w⟩:=QV A;have g:=r.length;have M:=HP;have I':Y29 a (Y2s H p (D.set j v)) ({ s with heap:=s.heap.update p (Obj.mapSeq (·.setIfInBounds j u)) }) :=
  I.lstUpd m l (NP c n j u) (r.set rv j) (by rw[List.length_set];exact B) s.toks
 by_cases h0:0<=k
 ·have e:k.toNat=j:=by
   rw[seqIndex_of h0 w]at d;exact fN d
  exact PySem.W.ki_setAt l h0 Oo (by rw[bM,<-g];exact w) (by rw[e];exact Y0J I' q)
 ·have e:(k+(c.toArray.size:Int)).toNat=j:=by
   rw[Yg8 y]at d;rw[bM,<-g];exact fN d
  exact PySem.W.ki_setBack l Oo (by rw[bM,<-g];exact y) Oo (by rw[e];exact Y0J I' q)
def HB(lo hi:Y1e)(n:Nat):(sliceBounds lo hi none n).1=((HT.kN n 0 lo:Nat):Int)/\(sliceBounds lo hi none n).2.1=((HT.kN n n hi:Nat):Int)/\(sliceBounds lo hi none n).2.2=1:=by
 refine Y3q ?_ ?_
 ·cases lo with
  | none=>simp[sliceBounds,HT.kN]
  | some i =>
   simp only[sliceBounds,HT.kN,Option.getD_none,show(1:Int) > 0 by decide,if_true];by_cases h:i<0
   ·simp only[h,if_true] <;> exact Oo
   ·simp only[h,if_false] <;> exact Oo
 ·cases hi with
  | none=>simp[sliceBounds,HT.kN]
  | some i =>
   simp only[sliceBounds,HT.kN,Option.getD_none,show(1:Int) > 0 by decide,if_true];by_cases h:i<0
   ·simp only[h,if_true] <;> exact Oo
   ·simp only[h,if_false] <;> exact Oo
def DY(its:Ag)(lo hi:Y1e):slicePick its.toArray lo hi none=((its.drop (HT.kN its.length 0 lo)).take (HT.kN its.length its.length hi-HT.kN its.length 0 lo)).toArray:=by
 obtain⟨d,c,a⟩:=HB lo hi its.toArray.size;unfold slicePick;rw[d,c,a];simp only[sliceRange_one,pick_run,bM] <;> rfl
def aGy(K:Aa):V->Y1e->Y8T:=λx lo hi H Q=>∃a xs,x=Yd/\Y3i K H a/\∀p,H p=none->Y1d p (Y2s H p (mT xs lo hi))
def QB:SlR X (aGy X.K):=by
 intro i s σ H x v B A e g sl Q I u w y p h;obtain⟨a,c,rfl,n,q⟩:=h;cases u;obtain⟨l,r,j,m⟩:=I.list n;have d:=r.length;refine⟨"list",_,slot_list_getitem.lookup,j.isList.typeIs,wpAny_getItem_list_slice j.isList w y p .none (by simp) ?_ (by rw[bM] <;> exact Oo)⟩;rw[DY,<-d];refine Y0H Y2D _ (Yfk (.lst (mT c e g)) (λb z q=>Y0Q q) Yl ?_) (q _ (Y5T));exact⟨aK (zU c e g) m,_,0,(r.drop (HT.kN c.length 0 e)).take (HT.kN c.length c.length g-HT.kN c.length 0 e),Y1u⟩
def zT:Y1V V
 | .non=>true
 | .bl _=>true
 | .int _=>true
 | .str _=>true
 | _=>false
def eqV:V->Y1V V
 | .non,.non=>true
 | .bl a,.bl b=>a == b
 | .bl a,.int b=>(if a then 1 else 0) == b
 | .int a,.bl b=>a == (if b then 1 else 0)
 | .int a,.int b=>a == b
 | .str a,.str b=>a == b
 | _,_=>false
def aFC{A:Around}{s:Shared}{y x:V}{u v:Value}(ry:Y3D)(rx:fH x v)(fy:zT y=true)(fx:zT x=true):SeqAt.EqAt A s u v (eqV y x):=by
 cases y with
 | non =>
  cases ry;cases x with
  | non=>cases rx;exact SeqAt.EqAt.same _
  | bl b=>cases rx;exact SeqAt.EqAt.none_bool b
  | int b=>obtain⟨t,rfl⟩:=rx;exact SeqAt.EqAt.none_int b t
  | str b=>obtain⟨t,rfl⟩:=rx;exact SeqAt.EqAt.none_str b t
  | _=>exact Y2u (show false=true from fx)
 | bl a =>
  cases ry;cases x with
  | non=>cases rx;exact SeqAt.EqAt.bool_none a
  | bl b=>cases rx;exact SeqAt.EqAt.bool_bool a b
  | int b=>obtain⟨t,rfl⟩:=rx;exact SeqAt.EqAt.bool_int a b t
  | str b=>obtain⟨t,rfl⟩:=rx;exact SeqAt.EqAt.bool_str a b t
  | _=>exact Y2u (show false=true from fx)
 | int a =>
  obtain⟨c,rfl⟩:=ry;cases x with
  | non=>cases rx;exact SeqAt.EqAt.int_none a c
  | bl b=>cases rx;exact SeqAt.EqAt.int_bool a c b
  | int b=>obtain⟨t,rfl⟩:=rx;exact SeqAt.EqAt.int_int a c b t
  | str b=>obtain⟨t,rfl⟩:=rx;exact SeqAt.EqAt.int_str a c b t
  | _=>exact Y2u (show false=true from fx)
 | str a =>
  obtain⟨c,rfl⟩:=ry;cases x with
  | non=>cases rx;exact SeqAt.EqAt.str_none a c
  | bl b=>cases rx;exact SeqAt.EqAt.str_bool a c b
  | int b=>obtain⟨t,rfl⟩:=rx;exact SeqAt.EqAt.str_int a c b t
  | str b=>obtain⟨t,rfl⟩:=rx;exact SeqAt.EqAt.str_str a c b t
  | _=>exact Y2u (show false=true from fx)
 | _=>exact Y2u (show false=true from fy)
def eqU(x:V)(u:Value):Bool:=match u with
 | .none=>eqV .non x
 | .bool b=>eqV (.bl b) x
 | .int i _=>eqV (.int i) x
 | .str z _=>eqV (.str z) x
 | _=>false
def aFB{x y:V}{u:Value}(r:Y3D)(f:zT y=true):eqU x u=eqV y x:=by
 cases y with
 | non=>cases r;rfl
 | bl b=>cases r;rfl
 | int i=>obtain⟨t,rfl⟩:=r;rfl
 | str z=>obtain⟨t,rfl⟩:=r;rfl
 | _=>exact Y2u (show false=true from f)
theorem KB{A:Around}{s:Shared}{x:V}{v:Value}(rx:fH x v)(fx:zT x=true):∀{xs:Al}{us:Ag},Y5L->xs.all zT=true->∀u∈us,SeqAt.EqAt A s u v (eqU x u)
 | _,_,.nil,_=>λu hu=>by cases hu
 | y::xs,u::us,.cons r t,f=>λu' hu=>by
  rw[List.all_cons,eB]at f;rcases bN.mp hu with rfl | hu
  ·rw[aFB r f.1];exact aFC r rx f.1 fx
  ·exact KB rx fx t f.2 u' hu
def rY:Y9Q X "list" (λxs H Q=>∃p ys,xs=Y5d/\(fV X.K H p ys\/jC X.K H p ys)/\∀l,H l=none->Y1d l (Y2s H l ys)):=by
 intro i s σ H xs J Q I r h;obtain⟨p,ys,rfl,y,q⟩:=h;obtain⟨u,rfl,G⟩:=nF r;cases G;have A:∀(a:Ag),eJ ys a->Yea->∀(c:Heap) (d:Nat),(∀b o',Y2H b o'->c.get? b=some o') ->
   c.get? s.heap.objs.size=some { cls:=.type "list",dict:=none,data:=.seq a.toArray d,slots:=#[] }->EP X i σ Q (Y2D) { s with heap:=c }:=λa g m c d z e =>
  Y0H Y2D _ (I.laid (t':=s.toks) z (Yl) (show gO X.prog X.w _ c _ (.lst ys)from⟨m,a,d,g,e⟩)) (q _ (Y5T))
 rcases y with y | y
 ·obtain⟨a,g,C,m⟩:=I.list y;have j:=g.length;obtain⟨o,D,B,n,hd⟩:=C.isList;exact call_list_seq p (Y4I) D B hd (λc d z e=>A a g m c d z e) (by simp only[bM] <;> exact Oo)
 ·obtain⟨a,g,C,m⟩:=I.tuple y;have j:=g.length;obtain⟨o,D,B,n,hd⟩:=C;exact call_list_seq p (Y8J) D B hd (λc d z e=>A a g m c d z e) (by simp only[bM] <;> exact Oo)
def cV:Y9Q X "tuple" (λxs H Q=>∃p ys,xs=Y5d/\((fV X.K H p ys/\∀l,H l=none->Y1d l (Y8A l ys))\/(jC X.K H p ys/\Y1d p H))):=by
 intro a s σ H xs A Q I r h;obtain⟨p,ys,rfl,h⟩:=h;obtain⟨u,rfl,y⟩:=nF r;cases y;rcases h with⟨g,q⟩ | ⟨g,q⟩
 ·obtain⟨c,j,i,n⟩:=I.list g;have m:=j.length;refine call_tuple_list i.isList (λd z=>?_) (by simp only[bM] <;> exact Oo);have I1:Y29 a H ({ s with heap:=d }):=I.kept (t':=s.toks) z;have I2:Y29 a (Y8A d.objs.size ys) ({ s with heap:=d.push { cls:=.type "tuple",data:=.seq c.toArray } }) :=
   YfF s.toks (Y64 _ e) (show gO X.prog X.w _ _ _ (.tup ys)from⟨⟨n,_,bB _ rfl,rfl⟩,c,j,IsTup.new _ _⟩)
  exact Y0H (.ref d.objs.size) _ I2 (q _ (Yfo))
 ·obtain⟨c,j,i,n⟩:=I.tuple g;exact call_tuple_same i (Y0H Y21 H I q)
def tyV(K:Aa)(T:String)(x:V)(H:Hp):Prop:=match x with
 | .str _=>T = "str"
 | .int _=>T = "int"
 | .ref p=>(T = "list" /\ ∃xs,fV K H p xs)\/(T = "tuple" /\ ((∃o,K.lookup p=some o/\o.cls=.type "tuple" /\ o.dict=none)\/∃xs,H p=some (.tup xs))) \/
   (T = "dict" /\ ((∃kvs,H p=some (.dK kvs))\/∃kvs,H p=some (.dT kvs)))\/(T = "set" /\ ∃S n,H p=some (.set S n))
 | _=>False
def aDC{pins:Ad}{σ:St}{H:Hp}{s:Shared}{T:String}{x:V}{v:Value}(I:Y6)(r:fH x v)(ty:tyV X.K T x H) :
  s.TypeIs v T/\∀a,v=Yd->∃ob,Y2H a ob/\ob.dict=none:=by
 cases x with
 | str z =>
  obtain⟨t,rfl⟩:=r;cases(show T = "str" from ty);exact⟨typeIs_str s z t,λ_ e=>nomatch e⟩
 | int i =>
  obtain⟨t,rfl⟩:=r;cases(show T = "int" from ty);exact⟨typeIs_int s i t,λ_ e=>nomatch e⟩
 | ref p =>
  cases r;rcases ty with⟨rfl,m,j⟩ | ⟨rfl,⟨o,d,B,hd⟩ | ⟨m,j⟩⟩ | ⟨rfl,d⟩ | ⟨rfl,S,n,d⟩
  ·obtain⟨A,_,u,_⟩:=I.list j;refine⟨u.isList.typeIs,YeR⟩;cases e;obtain⟨o,n,e,c,hd,_⟩:=u;exact Y1v e hd
  ·refine⟨Y1v (I.kIn p o d) B,YeR⟩;cases e;exact Y1v (I.kIn _ o d) hd
  ·obtain⟨⟨_,C,y,dn⟩,_,_,o,D,h,_⟩:=(show gO X.prog X.w H s.heap p (.tup m)from I.hok p _ j);refine⟨Y1v D h,YeR⟩;cases e;exact⟨C,y,dn⟩
  ·have z:∃o,Y9e p/\o.ExactDict:=by
    rcases d with⟨l,d⟩ | ⟨l,d⟩
    ·obtain⟨_,_,_,_,o,_,_,e,g,_⟩:=I.hok p _ d;exact Y1v e g
    ·obtain⟨_,_,_,_,o,_,_,e,g,_⟩:=I.hok p _ d;exact Y1v e g
   obtain⟨o,e,g⟩:=z;refine⟨Y1v e g.1,λa h=>?_⟩;cases h;exact Y1v e g.2.1
  ·obtain⟨o,_,_,_,e,g,_⟩:=I.hok p _ d;refine⟨Y1v e g.1,λa h=>?_⟩;cases h;exact Y1v e g.2.1
 | _=>exact False.elim ty
def tBM(K:Aa)(T:String)(r:V->Y1x)(to:TE)(t:TA):TE:=λσ H Q=>to σ H λx H1=>tyV K T x H1/\t σ H1 λxs H2=>r x xs H2 Q
variable{o e:Expr}{es:Y0h}{to:TE}{t:TA}{name:Str}{apos cpos:Pos}{T id:String}{r:V->Y1x}
def aGO(pa:PlainAttrs T)(slot:Slot T name id)(hty:typeOf (.builtin id)=pure (.type "method_descriptor"))(hm:MtR X id r)(ho:Yn o to)(ha:PA X (e::es) t)
  (hbase:attributeBase o name X.env (Y0d o)=Y0d o:=by rfl)
  (hfew:((backTo cpos (starEach (e::es) X.env)).all (λx=>! x.1)&&(backToKw cpos (keywordEach [] X.env)).all (λx=>x.1.isSome)
   && Y22 ((e::es).length+([]:List Keyword).length+(if([]:List Keyword).isEmpty then 0 else 1)) 30)=true:=by rfl)
  (hline:(YaJ)=true:=by rfl) (hs:Y40=(false,Y1l)::Y39:=by rfl) (hplain:Yy ((backTo cpos (starEach es X.env)).any (·.1)):=by rfl) :
  Yn (Y92 name (e::es) [] cpos) (tBM X.K T r to t):=by
 intro c s σ H Q I h;refine wpAny_Call_method_late hbase hfew hline rfl (thn (ho c s σ H _ I h) λv w ⟨x,H1,I1,g,p,n⟩=>?_);obtain⟨j,u⟩:=aDC I1 g p;refine⟨T,id,pa,slot,hty,j,u,?_⟩;have d:=ha cpos c w σ H1 _ I1 n;rw[hs]at d ⊢;refine Calls.callWith_builtin (by show Yy (false || (backTo cpos (starEach es X.env)).any (·.1));rw[hplain] <;> rfl) (Calls.evalArgs_plain ?_);exact thn d λl y ⟨i,H2,I2,z,A⟩=>hm c y σ H2 x i v l Q I2 g z A
/- xs.append(e),list.index on a module's tuple .. are MtR facts of 06m -/
end
def MtM(X:Cx)(id:String)(r:V->Y1x):Prop :=
 ∀(pins:Ad) (s:Shared) (σ:St) (H:Hp) (x:V) (xs:Al) (v:Value) (us:Ag) (Q:VK),Y6->fH x v->Y5L->r x xs H Q ->
  Y74 (YaC id (v::us)) X σ Q
def eJ.one:∀{x:V}{us:Ag},Y2m [x]->∃u,us=[u]/\fH x u
 | _,_,.cons r .nil=>⟨_,rfl,r⟩
section
variable{X:Cx}{pins:Ad}{σ:St}{H:Hp}{s:Shared}{l b:Addr}{xs ys zs:Al}
def cY.lset{its its':Ag}{n:Nat}{f:Ai->Ai}{t':Nat}(I:Y6)(hH:H l=Y0I)
  (e:Y2H l ({ cls:=.type "list",data:=.seq its.toArray n })) (hf:f its.toArray=its'.toArray) (hv:eJ ys its') (hz:Yea) :
  Y2Z (Y2s H l ys) ({ s with heap:=s.heap.update l (Obj.mapSeq f),toks:=t' }):=by
 have q:=PySem.IsL.update e f;rw[hf]at q;refine YfD l l (by rw[hH];exact trivial) (λd u c a=>(Heap.get?_update_other s.heap (Obj.mapSeq f) (Ne.symm c)).trans a) (Y3z q) ?_;exact⟨hz,its',_,hv,q⟩
def cY.lnew{its:Ag}{t':Nat}(I:Y6)(hv:eJ ys its)(hz:Yea) :
  Y2Z (Y7D H ys) ({ s with heap:=s.heap.push { cls:=.type "list",data:=.seq its.toArray },toks:=t' }) :=
 I.laid (Yci q) (Yl) ⟨hz,its,0,hv,Y1u⟩
theorem cY.fresh(I:Y6):H s.heap.objs.size=none:=Y5T
def cY.lstM(I:Y6)(hH:H l=Y0I):Y4L/\∃(its:Ag) (n:Nat),eJ xs its/\Y5u its.length/\Y2H l ({ cls:=.type "list",data:=.seq its.toArray n }):=by
 obtain⟨z,its,n,r,e⟩:=I.hok l _ hH;exact⟨z,its,n,r,r.length,e⟩
def YU{n:Nat}(h:Y0q n):Yy (Builtin.List.listTooLong n):=by
 unfold Builtin.List.listTooLong;exact cA Oo
end
section
variable{X:Cx}
def QM:V->Y1x:=λx vs H Q=>∃l xs y,x=Y1j/\vs=[y]/\H l=Y0I/\YaY xs.length/\Q .non (Y2s H l (xs++[y]))
def FE:MtM X "list.append" QM:=by
 intro c s σ H x i v j Q I g rv h;obtain⟨l,w,y,rfl,rfl,d,m,q⟩:=h;cases g;obtain⟨u,rfl,ru⟩:=rv.one;obtain⟨z,a,n,r,p,e⟩:=I.lstM d;refine call_meets F.slot_list_append (Y0V e) F.entry_list_append (F.args_list_append_2 _ _) (PySem.list_append l a.toArray n u (by rw[bM];exact Oo)) ⟨e,Y0H .non _ (I.lset (its':=a++[u]) d e (by simp) (r.append (Yb7 ru)) ?_) q⟩;rw[aU,List.length_singleton];exact Oo
def QK:V->Y1x:=λx vs H Q=>∃l b xs zs,x=Y1j/\vs=[Y0e]/\H l=Y0I/\H b=Yc zs/\Y0q Yec/\Q .non (Y2s H l (xs++zs))
def TR:MtM X "list.extend" QK:=by
 intro i s σ H x C v G Q I A rv h;obtain⟨l,b,M,D,rfl,rfl,j,m,J,q⟩:=h;cases A;obtain⟨u,rfl,ru⟩:=rv.one;cases ru;obtain⟨z,c,n,r,L,e⟩:=I.lstM j;obtain⟨N,a,B,y,w,p⟩:=I.lstM m;have g:Y0q (c.toArray.size+a.toArray.size):=by rw[bM,bM];exact Oo
 have d:¬(! c.toArray.isEmpty&&Builtin.List.listTooLong (c.toArray.size+a.toArray.size))=true:=by
  rw[YU g,Bool.and_false];exact cC
 refine call_meets F.slot_list_extend (Y0V e) F.entry_list_extend (F.args_list_extend_2 _ _)
  (AutoSeq1.list_extend_list_list_0 l c.toArray n b a.toArray B d (by rw[bM];exact Oo) Oo) (Y05 e p)
 refine Y0H .non _ (I.lset (its':=c++a) j e (by simp) (r.append y) ?_) q;rw[aU];exact Oo
def aGD:R2:=λx y H Q=>∃l b xs zs,x=Y1j/\y=Y0e/\H l=Y0I/\H b=Yc zs/\Y0q Yec/\∀p,H p=none->Y1d p (Y2s H p (xs++zs))
def vN:Y5q X .Add aGD:=by
 intro d s σ H x y v u Q I B w h;obtain⟨l,b,J,C,rfl,rfl,i,j,D,q⟩:=h;cases B;cases w;obtain⟨z,c,n,r,G,e⟩:=I.lstM i;obtain⟨L,a,M,A,p,m⟩:=I.lstM j;refine PySem.P.add_list e m ?_ (by rw[bM,bM];exact Oo);have g:c.toArray++a.toArray=(c++a).toArray:=by simp
 rw[g];exact Y0H (.ref _) _ (I.lnew (t':=s.toks) (r.append A) (by rw[aU];exact Oo)) (q _ I.fresh)
end
section
variable{prog:Program}{w:World}{A:Around}{E:Ya}{s:Shared}
end
section
variable{X:Cx}
end
end L2
namespace Att
open PySem PySem.W PySem.Calls PyProof.Rows
def AA{P:Params}{h:Heap}:∀(ns:Af) (vs:Ag),WellAll P h vs (ns.map WData.int)->Y69 vs:=by
 intro ns
 induction ns with
 | nil =>
  intro vs w;rw[List.map_nil]at w;cases w;exact .nil
 | cons n ns ih =>
  intro vs w;rw[bA]at w;cases w with
  | cons a b =>
   cases a;exact .cons _ _ (ih _ b)
def SZ{l:OpenLaw}{n:Nat}(hn:l.most=Y7d){P:Params}{h:Heap}{args:List WData}{vals:Ag}
  (hpre:l.row.toRowW.claim.pre args=true) (hwl:WellAll P h vals args) :
  ∃a vs ns,vals=[Y6K]/\args=[WData.list (ns.map WData.int)]/\h.get? a=some { cls:=.type "list",data:=.seq vs.toArray }/\Y69 vs/\Y68 n:=by
 have i:WShape.hasAll [] args [.list .int]=true:=(pre_splitW hpre).1;have j:l.pre.holds [] { args:=args }=true:=(pre_splitW hpre).2;obtain⟨d,r,rfl,s,p⟩:=hasAllW_cons i;obtain rfl:=hasAllW_nil p;obtain⟨w,rfl,u⟩:=hasW_list s;obtain⟨ns,rfl⟩:=items_int u;have c:Y68 n:=by
  unfold OpenLaw.pre at j;have e:(WTm.not (.lt (.lit (.int (n:Int))) (.len (.arg 0)))).holds [] { args:=[.list (ns.map .int)] }=true:=by
   have e:=(holds_andW j).1;rw[hn]at e;exact e
  have g:=condW_of e (w_not (w_lt w_lit (w_len_list (w_arg rfl))));rw[aA]at g;refine Nat.le_of_not_lt λq=>?_;have m:(n:Int)<((ns.length:Nat):Int):=Oo
  first
   | (rw[cN m]at g;exact Y6Q g)
   | (simp at g;exact Oo)
 cases hwl with
 | cons w1 w2 =>
  cases w2;cases w1 with
  | list ho hall=>exact Y1B _ _ ns rfl ho (AA ns _ hall) c
def TJ(l:OpenLaw)(args:List WData):l.row.toRowW.claim.post args (Y9F) args=true :=
 postW_of (r:=l.row.toRowW) (X:=(true == true))
  (show WShape.has [] (.bool true) .bool=true by first | rfl | decide | simp[WShape.has,WShape.arms,WShape.armsAll])
  (show(WTm.eq .res (.lit (.bool true))).value [] { args:=args,res:=some (.bool true),after:=args }=some (.bool (true == true))from w_eq_bool (w_res rfl) w_lit) rfl
def LV{l:OpenLaw}{n:Nat}{q:Program}{loose:Ah}{XP:Y7Q Y0G}{YP:Y7Q World}{d:DefRec}
  (hn:l.most=Y7d) (hdf:d.params.defaults=[])
  (call:∀(w:World) (s₀ s₁:Shared) (mg mb:Y0G) (fa:Addr) (o:Obj) (pm cd doc:Value) (a:Addr) (vs:Ag) (ns:Af),
   Ground q loose [] XP w s₀ mg mb s₁.heap->YP w s₁.heap ->
   YcF fa Y9->o.data=.func (docDef d.name d.params d.body d.scope pm cd doc)->s₁.heap.CodeRec cd d.name->mg d.name=Y3 fa ->
   YcF a (some { cls:=.type "list",data:=.seq vs.toArray })->Y69 vs->Y68 n->s₁.gens=#[] ->
   Y5o l.prog w callerA (YaT fa ⟨Y2n,[]⟩) (λr s'=>r=Y67 Y9F/\OldK s₁.heap s'.heap/\s'.os=s₁.os/\Yc9) s₁) :
  WalkO q loose XP YP l.row.toRowW d [] (YfK f vs):=by
 intro w s₀ s₁ mg mb G Y fa o pm cd doc z kV J hd j p i C u vals N e s B m A;obtain rfl:z=.none:=Dflts.none p hdf;obtain rfl:kV=.none:=Dflts.noKw p;obtain⟨a,vs,ns,rfl,rfl,h,c,g⟩:=SZ hn e m;refine enter_call (codeAny_mono (call w s₀ s₁ mg mb fa o pm cd doc a vs ns G Y J (fd_plain hd) j i h c g C) λr s' L=>?_);obtain⟨rfl,I,M,y⟩:=L;exact⟨.inl ⟨Y9F,Y9F,[],rfl,λ_=>rfl,Y9F,TJ l _,λ_=>⟨List.Pairwise.nil,λ_ D=>(nomatch D)⟩⟩,I,M,y⟩
section
variable{prog:Program}{w:World}{A:Around}{E:Ya}{s:Shared}{K:Frag}
end
end Att
namespace L2
open PySem PySem.Spec PyProof.Rows
theorem EK:∀{vs:Ag}{ns:Af},Y69 vs->eJ (Y5j) vs
 | _,_,.nil=>.nil
 | _,_,.cons n t h=>.cons ⟨t,rfl⟩ (EK h)
def aCR(H:Hp):Prop:=∀b,H b=none\/∃o xs,H b=Y9E o (.lst xs)
def ZI{P:Program}{w:World}{K:Aa}{mg mb:Y0G}{CX:VI}{k:Nat}{fa a:Addr}{fd:FuncData}{x:Str}{sp:Sp}{s₁:Shared}{vs:Ag}{ns:Af}
  (KX:K.In s₁.heap) (hns:s₁.heap.Ns mainGlobals mg) (hb:s₁.heap.Ns builtinsNs mb) (hbb:∀x:Str,x ≠ "__name__" -> mb x=Y9u) (hlim:s₁.heap.NoLimit) (hg:s₁.gens=#[])
  (ha:YcF a (some { cls:=.type "list",data:=.seq vs.toArray })) (hi:Y69 vs) (hl:Y0q ns.length) (hr:iX k callerA)
  (F:∀base:Heap,K.In base->Yc1 mg->dW P w K mg base CX k fa fd [x] sp) (hbind:∀(s:Shared) (u:Value),Ybn s ⟨[u],[]⟩ [(x,u)])
  (hsp:∀H:Hp,aCR H->Y6m K H a->sp Y2n H (λv _=>v=Ybu) Y7x)
  (hCX:∀H e s',CX [] H s₁ (Y7x) e s'->False) :
  Y5o P w callerA (YaT fa ⟨Y2n,[]⟩) (λr s'=>r=Y67 Y9F/\OldK s₁.heap s'.heap/\s'.os=s₁.os/\Yc9) s₁:=by
 have rv:=EK hi;have y:=hi.length;have i:∀H:Hp,aCR H->Y6m K H a->sC P w H s₁.heap->(∀b,H b≠none->b=a)->(H a≠none->YcJ=none) ->
   Y5o P w callerA (YaT fa ⟨Y2n,[]⟩) (λr s'=>r=Y67 Y9F/\OldK s₁.heap s'.heap/\s'.os=s₁.os/\Yc9) s₁:=by
  intro H M Z j J R;have c:∀{b:Addr} {o:Obj},YcF b Y9->H b=none->(HY s₁.heap H).get? b=Y9:=λe n=>ZP e n;have G:∀{b:Addr} {o:Obj} {B:Yc8} {p:Nat},YcF b Y9->o.data=.dict B p->H b=none:=λ{b o B p} e d=>by
   cases q:H b with
   | none=>rfl
   | some u =>
    have I:b=a:=J b (by rw[q];simp);subst I;rw[ha]at e;cases e;have S:Data.seq vs.toArray _=Data.dict B p:=d;cases S
  have g:∀{b:Addr} {m:Y0G},s₁.heap.Ns b m->(HY s₁.heap H).Ns b m:=λ{b m} ⟨o,B,p,e,d,r⟩=>⟨o,B,p,c e (G e d),d,r⟩;have C:K.In (HY s₁.heap H):=λb o e=>c (KX b o e) (by
   cases q:H b with
   | none=>rfl
   | some u =>
    have I:b=a:=J b (by rw[q];simp);subst I;rw[R (by rw[q];simp)]at e;cases e)
  have O:Mod K mg (HY s₁.heap H):=⟨C,g hns,⟨mb,g hb,hbb⟩,let ⟨mc,h1,h2⟩:=hlim;⟨mc,g h1,h2⟩⟩;have U:OT P w K mg (HY s₁.heap H) callerA [] s₁ H:=⟨rfl,O,λb o e=>aB3 e,Nat.le_of_eq (UI _ _),trivial,λb hb=>absurd (show b∈([]:List Addr)from hb) (by simp),j,.of_eq hg⟩;refine codeAny_mono ((F _ C (g hns)).run callerA [] s₁ H ⟨Y2n,[]⟩ Y2n Y2n _ _ hr U (hbind s₁ (Yd)) (Yb7 rfl) (hsp H M Z)) λr s' h=>?_;cases r with
  | error e=>exact(hCX H e s' h).elim
  | ok fl =>
   cases fl with
   | next=>exact False.elim h
   | brk=>exact False.elim h
   | cont=>exact False.elim h
   | ret u =>
    obtain⟨v,H',os,l,un,A,β,q⟩:=h;have T:v=Ybu:=q;subst T;obtain rfl:u=Value.bool true:=β;refine⟨rfl,OldK.of_keep λb o e=>?_,os,l⟩;cases q:H b with
    | none=>exact un.keep b o e q (by intro z;exact absurd (show b∈([]:List Addr)from z) (by simp)) (by simp)
    | some u =>
     rcases M b with z | ⟨N,γ,z⟩
     ·rw[q]at z;cases z
     ·have α:=un.frzs b N _ z;obtain⟨L,_⟩:=j b _ z;obtain⟨X,_⟩:=A b _ α;rw[e]at L;cases L;exact X
 cases hk:YcJ with
 | some o =>
  have e:=KX a o hk;rw[ha]at e;cases e;refine i (Y9H) (λ_=>Y4I) (.inr ⟨_,vs.toArray,_,hk,rfl,rfl,rfl,by rw[bM,y];exact hl,by simpa using rv⟩) (λb u z=>by have D:(none:Option HO)=Ym:=z;cases D) (λb z=>Y8y z) λz=>Y8y z
 | none =>
  refine i (λb=>if b=a then Y9E ({ cls:=.type "list",data:=.seq vs.toArray }) (.lst (Y5j)) else none) (λb=>?_) (.inl (Y2G ({ cls:=.type "list",data:=.seq vs.toArray }) Ys)) (λb u z=>?_) (λb z=>?_) λ_=>hk
  ·by_cases hb:b=a
   ·exact .inr (Y0J _ (if_pos hb))
   ·exact .inl (if_neg hb)
  ·by_cases hb:b=a
   ·have D:=(if_pos hb).symm.trans z;cases D;subst hb;exact⟨ha,by rw[aA];exact hl,vs,_,rv,ha⟩
   ·have D:=(if_neg hb).symm.trans z;cases D
  ·by_cases hb:b=a
   ·exact hb
   ·exact absurd (if_neg hb) z
def PJ{l:PySem.W.OpenLaw}{n k:Nat}{q:Program}{loose:Ah}{XP:Y7Q Y0G}{YP:Y7Q World}{d:DefRec}{K:Params->Aa}{CX:World->VI}{sp:World->Sp}{x:Str}
  (hn:l.most=Y7d) (hn2:Y0q n) (hdf:d.params.defaults=[]) (hr:iX k callerA)
  (hY:∀(w:World) (h:Heap),YP w h->(K w.params).In h)
  (F:∀(w:World) (mg:Y0G) (fa:Addr) (h:Heap),(K w.params).In h->YdR mg->mg d.name=Y3 fa ->
   ∃fd:FuncData,(∀(s:Shared) (u:Value),Ybn s ⟨[u],[]⟩ [(x,u)]) /\
    ∀base:Heap,(K w.params).In base->Yc1 mg->dW l.prog w (Yb2) mg base (CX w) k fa fd [x] (sp w))
  (hsp:∀(w:World) (H:Hp) (a:Addr) (ns:Af),Y68 n->aCR H->Y6m Yb2 H a->sp w Y2n H (λv _=>v=Ybu) Y7x)
  (hCX:∀(w:World) (H:Hp) (s:Shared) (e:Value) (s':Shared),CX w [] H s (Y7x) e s'->False) :
  PySem.W.WalkO q loose XP YP l.row.toRowW d [] (YfK f vs):=by
 refine Att.LV hn hdf λw M B mg I fa o L J p a vs ns G Y N hd r m j i c y=>?_;have KX:=hY w _ Y;obtain⟨fd,D,z⟩:=F w mg fa _ KX G.T.g m;exact ZI KX G.T.g G.T.b G.T.builtins G.T.nolimit y j i (aK c hn2) hr z D (λH C A=>hsp w H a ns c C A) λH e s'=>hCX w H B e s'
def WD{l:PySem.W.OpenLaw}{n k:Nat}{q:Program}{loose:Ah}{XP:Y7Q Y0G}{YP:Y7Q World}{d:DefRec}{K:Params->Aa}{CX:VI}{sp:Aa->Sp}{x:Str}
  (hn:l.most=Y7d) (hn2:Y0q n) (hdf:d.params.defaults=[]) (hr:iX k callerA)
  (hY:∀(w:World) (h:Heap),YP w h->(K w.params).In h)
  (F:∀(w:World) (mg:Y0G) (fa:Addr) (h:Heap),(K w.params).In h->YdR mg->mg d.name=Y3 fa ->
   ∃fd:FuncData,(∀(s:Shared) (u:Value),Ybn s ⟨[u],[]⟩ [(x,u)]) /\
    ∀base:Heap,(K w.params).In base->Yc1 mg->dW l.prog w (Yb2) mg base CX k fa fd [x] (sp (Yb2)))
  (hsp:∀(K:Aa) (H:Hp) (a:Addr) (ns:Af),Y68 n->aCR H->Y6m K H a->sp K Y2n H (λv _=>v=Ybu) Y7x)
  (hCX:∀(H:Hp) (s:Shared) (e:Value) (s':Shared),CX [] H s (Y7x) e s'->False) :
  PySem.W.WalkO q loose XP YP l.row.toRowW d [] (YfK f vs) :=
 PJ (K:=K) (CX:=λ_=>CX) (sp:=λw=>sp (Yb2)) hn hn2 hdf hr hY F (λw H a ns g c i=>hsp (Yb2) H a ns g c i) λ_ H s e s'=>hCX H s e s'
end L2
/- THE LAST THEOREM (shape;LID,My.* are yours):
   My.Adr: a structure of the addresses that your layer names (classes,functions);My.Txt K t: a structure (Prop) of the equations over K;
   My.txt_mk:{K} {implicit addresses ..} (e1:nsIn K mainGlobals "law" = some (some (.ref f))) (e2:K.lookup f=some ⟨oc,od,.func (fnOf "law" "law" params body scope dV kV doc pm an cdv ct),sl⟩) (e3:codeIn K cdv "law" = true) .. : ∃t,My.Txt K t
set_option maxRecDepth 100000 in
set_option maxHeartbeats 0 in
theorem PySem.Challenge.cw_LID_holds : PySem.Challenge.rw_LID.Holds := by
  w_on;o_law;k_head;(case hw=>w_witness2)
  k_fill
  refine L2.PJ (l:=PySem.Challenge.rw_LID) (n:=63) (k:=40) (x := "script") (CX:=λw=>..) (sp:=λ_=>My.sp_law) rfl Dd rfl ⟨rfl,Dd,Dd⟩ (λw h Y=>PySem.W.kIn_of Y) ?F ?S ?C
  case F =>
    intro w m j h KX G d;have T:∃t,My.Txt (L2.KOf KX) t:=by
      dsimp only[L2.KOf]                          -- K must stand as «<heap const> w.params» for k_is
      refine' My.txt_mk ?e1 ?e2 ?e3 ..
      (case e1=>PySem.W.k_is)                    -- in the order: a name -> its address -> its object -> its parts
      (case e2=>PySem.W.k_is)
      ..
    obtain⟨t,T⟩:=T;have i:=d.symm.trans (PySem.W.mg_of KX G T.law);cases i                                       -- j is the law's own address;exact⟨_,λs u=>.of_eq rfl,λc g e=>My.law_fn T g e⟩     -- if «.of_eq rfl» comes too early: refine' ⟨_,?b,λc g e=>My.law_fn T g e⟩;exact λs u=>.of_eq rfl
  case S=>exact λw H a p y z r=>..
  case C=>exact ..
(the tactic k_is has no namespace: write k_is) -/
namespace L2
open PySem PySem.Spec PyProof.Rows
def BD(s:Stmt)(j:Nat):Stmt:=match s with
 | .ClassDef _ _ _ body _ _ _ _ _ _ _=>body.getD j (.Pass ⟨0,0,0,0⟩)
 | _=>.Pass ⟨0,0,0,0⟩
def nA(s:Stmt):Arguments:=match s with
 | .FunctionDef _ a _ _ _ _ _ _ _ _=>a
 | _=>{ posonlyargs:=[],args:=[],vararg:=none,kwonlyargs:=[],kw_defaults:=[],kwarg:=none,defaults:=[] }
def kJ(s:Stmt):Y5z:=match s with
 | .FunctionDef _ _ b _ _ _ _ _ _ _=>b
 | _=>[]
def bC(s:Stmt):Scope:=match s with
 | .FunctionDef _ _ _ _ _ _ sc _ _ _=>sc
 | _=>{ kind:=.function,names:=[],isGenerator:=false,isCoroutine:=false }
abbrev dD:VI:=λ_ _ _ _ _ _=>False
abbrev E0:XK:=Y7x
def YR{X:Cx}:zK dD X E0:=λ_ _ _ _ _ _ _ h=>h.elim
structure iQ(K:Aa)(x qual:Str)(st:Stmt)(f:Addr)(fd:FuncData):Prop where
 ex:∃(oc:Value) (od:Y5s) (kV doc pm:Value) (an:Y5s) (cdv ct:Value) (osl:Y9A),
  fd=PySem.W.fnOf x qual (nA st) (kJ st) (bC st) .none kV doc pm an cdv ct/\YeP=Y90 oc od fd osl/\YdY cdv qual=true
 kp:Y9k K f=true
section
variable{P:Program}{w:World}{K:Aa}{mg:Y0G}{base:Heap}
def iQ.ok{x qual:Str}{st:Stmt}{f:Addr}{fd:FuncData}{N ps:Ah}{k:Nat}{sp:Sp}(F:Ye x qual st)(S:Yj N ps st)(len:∀vs H Q E,sp vs H Q E->YaI)
  (hbody:∀(cdv:Value) (A:Around) (outer:Y3t) (s:Shared) (H:Hp) (vs:Al) (Q:VK) (E:XK),iX k (Ycl (bC st) f cdv)->sp vs H Q E ->
   ∃t,OO (LB dD P w K mg base N qual (bC st) f cdv A outer s H E).nox (kJ st) t/\t { nx:=λ_ H'=>Q .non H',rt:=Q } (YbE N) H):dW P w K mg base dD (k+1) f fd ps sp:=by
 obtain⟨l,n,kV,e,j,m,cdv,ct,g,rfl,i,a⟩:=F.ex;refine aGZ i a S len λA outer s H vs Q E d c=>?_;obtain⟨t,h,q⟩:=hbody cdv A outer s H vs Q E d c;exact⟨t,h.nox,q⟩
def iQ.binds{x qual:Str}{st:Stmt}{f:Addr}{fd:FuncData}{ps:Ah}(F:Ye x qual st)
  (h:∀(kV doc pm:Value) (an:Y5s) (cdv ct:Value) (us:Ag),Y33 ps.length->bindArgs (PySem.W.fnOf x qual (nA st) (kJ st) (bC st) .none kV doc pm an cdv ct) ⟨us,[]⟩=pure (Ybc)):tQ K fd ps []:=by
 obtain⟨d,e,kV,doc,pm,an,cdv,ct,c,rfl,g,a⟩:=F.ex;exact .all (h kV doc pm an cdv ct)
def vR{x qual:Str}{st:Stmt}{f:Addr}{oc:Value}{od an:Y5s}{osl:Y9A}{kV doc pm cdv ct:Value}(l:YeP=Y90 oc od (PySem.W.fnOf x qual (nA st) (kJ st) (bC st) .none kV doc pm an cdv ct) osl)
  (c:YdY cdv qual=true) (k:Y9k K f=true):iQ K x qual st f (PySem.W.fnOf x qual (nA st) (kJ st) (bC st) .none kV doc pm an cdv ct):=⟨⟨oc,od,kV,doc,pm,an,cdv,ct,osl,rfl,l,c⟩,k⟩
end
def yE{n:Nat}(h:n<=1000):YaY n:=aI h Dd
section
variable{X:Cx}
def pv(i:Nat){x:Str}{pos:Pos}(hN:Y3E=Y7:=by rfl)(hv:YdX x:=by first | exact Or.inl rfl | exact Or.inr (Or.inl rfl) | exact Or.inr (Or.inr rfl))(hd:Y1L ("__debug__" : Str):=by decide)
  (hcd:Y1L ("__classdict__" : Str):=by decide):Yn Y7Y (WS i):=aE2 hN hv hd hcd
end
def pS{A B:Prop}(h:B):if false=true then A else B:=by
 rw[if_neg cC];exact h
def sD{A B:Prop}(h:A):if true=true then A else B:=by
 rw[Ys];exact h
def aGU{c A B:Prop}[Decidable c](h1:c->A)(h2:¬c->B):if c then A else B:=by
 by_cases h:c
 ·rw[Y4W];exact h1 h
 ·rw[Y5C];exact h2 h
def aT(H H':Hp):Prop:=∀b o,H b=Y9->Y1N=Y9
def aT.refl(H:Hp):aT H H:=λ_ _ h=>h
def aT.trans{H H1 H2:Hp}(a:aT H H1)(b:aT H1 H2):aT H H2:=λc o h=>b c o (a c o h)
def aT.free{H H':Hp}(e:Y0){l:Addr}(h:H' l=Option.none):H l=Option.none:=by
 cases q:H l with
 | none=>rfl
 | some o =>
  rw[e l o q]at h;cases h
section
variable{κ:Type}[DecidableEq κ]
def fX(kvs:Y3y)(k:κ):Am:=(kvs.find? λkv=>decide (kv.1=k)).map (·.2)
def jQ(kvs:Y3y)(k:κ)(v:V):Y3y :=
 if Ya5 (λkv=>Y0P kv.1 k) true then YaR (if kv.1=k then(kv.1,v) else kv) else kvs++[(k,v)]
def jF{p:κ × V}{r:Y3y}{k:κ}(e:p.1=k):fX (p::r) k=some p.2:=by simp[fX,List.find?_cons,e]
def jG{p:κ × V}{r:Y3y}{k:κ}(e:¬p.1=k):fX (p::r) k=fX r k:=by simp[fX,List.find?_cons,e]
theorem nG(k:κ):∀kvs:List (κ × V),Ya5 (λkv=>Y0P kv.1 k) ((Y4y).isSome)
 | []=>rfl
 | p::r=>by
  rw[List.any_cons];by_cases e:p.1=k
  ·simp only[jF e,cN e,Bool.true_or,Option.isSome_some]
  ·rw[jG e,cA e,Bool.false_or];exact nG k r
theorem JE(k j:κ)(y:V):∀kvs:List (κ × V),fX (YaR (if kv.1=k then(kv.1,y) else kv)) j=(fX kvs j).map λx=>if j=k then y else x
 | []=>rfl
 | p::r=>by
  have ih:=JE k j y r;rw[bA];by_cases h:p.1=k
  ·rw[if_pos h];by_cases e:p.1=j
   ·rw[jF (p:=(p.1,y)) e,jF e,Option.map_some,if_pos (e.symm.trans h)]
   ·rw[jG (p:=(p.1,y)) e,jG e,ih]
  ·rw[if_neg h];by_cases e:p.1=j
   ·rw[jF (p:=p) e,jF e,Option.map_some,if_neg (λz=>h (e.trans z))]
   ·rw[jG (p:=p) e,jG e,ih]
theorem EL(k j:κ)(y:V):∀kvs:List (κ × V),Y4y=none->fX (kvs++[(k,y)]) j=if j=k then Y0b else Y8v j
 | [],_=>by
  by_cases e:k=j
  ·rw[if_pos e.symm];exact jF (p:=(k,y)) e
  ·rw[if_neg (λz=>e z.symm)];exact jG (p:=(k,y)) e
 | p::r,hn=>by
  rw[List.cons_append];have hk:¬p.1=k:=λz=>by rw[jF z]at hn;cases hn
  rw[jG hk]at hn;have a:=EL k j y r hn;by_cases e:p.1=j
  ·rw[jF e,jF e,if_neg (λz=>hk (e.trans z))]
  ·rw[jG e,jG e,a]
def iC(kvs:Y3y)(k j:κ)(y:V):fX (Y4X k y) j=if j=k then Y0b else Y8v j:=by
 unfold jQ;by_cases a:Ya5 (λc=>Y0P c.1 k) true
 ·rw[if_pos a,JE];rw[nG]at a;by_cases e:j=k
  ·obtain⟨x,d⟩:=Option.isSome_iff_exists.mp a;rw[Y1i,e,d,Option.map_some,Ys]
  ·rw[Y0B];cases Y8v j with
   | none=>rfl
   | some x=>rw[Option.map_some,Y0B]
 ·rw[if_neg a];refine EL k j y kvs ?_;rw[nG]at a;cases q:Y4y with
  | none=>rfl
  | some x=>rw[q]at a;exact(a rfl).elim
def fK(kvs:Y3y)(k:κ)(v:V):(Y4X k v).length<=kvs.length+1:=by
 unfold jQ;split
 ·rw[aA];exact Oo
 ·rw[aU,cD,List.length_nil];exact Oo
def CC{kvs:Y3y}{k:κ}(v:V)(h:Y4y=none):Y4X k v=kvs++[(k,v)]:=by
 unfold jQ;rw[nG,h];exact Y2E
def sE.isSome_eq{o:Am}{u:Y98}(r:sE o u):o.isSome=u.isSome:=by
 cases o with
 | none=>cases u with
  | none=>rfl
  | some _=>exact(show False from r).elim
 | some _=>cases u with
  | none=>exact(show False from r).elim
  | some _=>rfl
theorem sE.getD{o:Am}{u:Y98}{d:V}{d':Value}(r:sE o u)(rd:fH d d'):fH (o.getD d) (u.getD d'):=by
 cases o with
 | none=>cases u with
  | none=>exact rd
  | some _=>exact(show False from r).elim
 | some _=>cases u with
  | none=>exact(show False from r).elim
  | some _=>exact r
def KV.val{kvs:Y3y}{vs:Y6f κ}(r:Y89)(k:κ):sE (Y4y) (Yd7 vs):=by
 unfold KV at r
 induction r with
 | nil=>exact True.intro
 | @cons p q ps qs h t ih =>
  obtain⟨c,d⟩:=h;by_cases e:p.1=k
  ·have a:q.1=k:=c.symm.trans e;have b:Yd7 (q::qs)=some q.2:=by simp[valueAt,List.find?_cons,a]
   rw[jF e,b];exact d
  ·have a:¬q.1=k:=Yaf (c.trans z);have b:Yd7 (q::qs)=Yd7 qs:=by simp[valueAt,List.find?_cons,a]
   rw[jG e,b];exact ih
theorem KV.any{kvs:Y3y}{vs:Y6f κ}(r:Y89)(k:κ):Ya5 (λkv=>Y0P kv.1 k) (vs.any λkv=>Y0P kv.1 k):=by
 unfold KV at r
 induction r with
 | nil=>rfl
 | cons h t ih=>rw[List.any_cons,List.any_cons,ih,h.1]
def KV.repl{kvs:Y3y}{vs:Y6f κ}(r:Y89)(k:κ){y:V}{u:Value}(ry:Y3D) :
  KV (YaR (if kv.1=k then(kv.1,y) else kv)) (vs.map λkv=>if kv.1=k then(kv.1,u) else kv):=by
 unfold KV at r ⊢
 induction r with
 | nil=>exact .nil
 | @cons p q ps qs h t ih =>
  rw[bA,bA];refine .cons ?_ ih;obtain⟨a,c⟩:=h;by_cases e:p.1=k
  ·rw[Y1i,if_pos (a.symm.trans e)];exact⟨a,ry⟩
  ·rw[Y0B,Y2t (e (a.trans z))];exact⟨a,c⟩
def KV.put{kvs:Y3y}{vs:Y6f κ}(r:Y89)(k:κ){y:V}{u:Value}(ry:Y3D):KV (Y4X k y) (stored vs k u):=by
 unfold jQ stored;rw[r.any k];by_cases e:(vs.any λa=>Y0P a.1 k)=true
 ·rw[Y1i,Y1i];exact r.repl k ry
 ·rw[Y0B,Y0B];exact Paired.snoc r (Y0O ry)
theorem KV.length{kvs:Y3y}{vs:Y6f κ}(r:Y89):kvs.length=vs.length:=Paired.length r
end
def CS{P:Program}{w:World}{k:fJ}{u:Value}(r:fH (kV k) u):(gD P w).is k u=true:=by
 cases k with
 | inl i=>obtain⟨t,e⟩:=(show ∃t,u=Value.int i t from r);subst e;exact KA P w i t
 | inr x=>obtain⟨t,e⟩:=(show ∃t,u=Value.str x t from r);subst e;exact JZ P w x t
theorem FM{P:Program}{w:World}:∀{ks:Y4l}{us:Ag},Y2m (ks.map kV)->ItemsAre (gD P w) ks us
 | [],_,r=>by rw[List.map_nil]at r;cases r;exact .nil
 | k::ks,_,r=>by
  rw[bA]at r;cases r with
  | cons h t=>exact .cons (CS h) (FM t)
abbrev KT(H:Hp):Y0u Yr Ya9:=Paired λp q=>p.1=q.1/\H q.2.1=Yf (p.1.map kV)/\fH p.2 q.2.2
def KT.val{H:Hp}{kvs:Yr}{xs:Ya9}(r:KT H kvs xs)(k:Y4l):sE (Y4y) ((atKey xs k).map (·.2)):=by
 induction r with
 | nil=>exact True.intro
 | @cons p q ps qs h t ih =>
  obtain⟨c,_,d⟩:=h;by_cases e:p.1=k
  ·have a:q.1=k:=c.symm.trans e;have b:atKey (q::qs) k=some q.2:=by simp[atKey,List.find?_cons,a]
   rw[jF e,b];exact d
  ·have a:¬q.1=k:=Yaf (c.trans z);have b:atKey (q::qs) k=atKey qs k:=by simp[atKey,List.find?_cons,a]
   rw[jG e,b];exact ih
def KT.repl{H:Hp}{kvs:Yr}{xs:Ya9}(r:KT H kvs xs)(k:Y4l){y:V}{u:Value}(ry:Y3D) :
  KT H (YaR (if kv.1=k then(kv.1,y) else kv)) (xs.map (putAt k u)):=by
 induction r with
 | nil=>exact .nil
 | @cons p q ps qs h t ih =>
  rw[bA,bA];refine .cons ?_ ih;obtain⟨a,c,d⟩:=h;unfold putAt;by_cases e:p.1=k
  ·rw[Y1i,if_pos (a.symm.trans e)];exact Y2r c ry
  ·rw[Y0B,Y2t (e (a.trans z))];exact Y2r c d
def KT.put{H:Hp}{kvs:Yr}{xs:Ya9}(r:KT H kvs xs)(k:Y4l){b:Addr}{y:V}{u:Value}(hb:H b=YaW kV)(ry:Y3D) :
  KT H (Y4X k y) (storedH xs k b u):=by
 have e:Ya5 (λa=>Y0P a.1 k) ((atKey xs k).isSome):=by
  rw[nG,(r.val k).isSome_eq,Option.isSome_map]
 unfold jQ storedH;rw[e];by_cases q:(atKey xs k).isSome=true
 ·rw[Y5B,Y5B];exact r.repl k ry
 ·rw[Y2F,Y2F];exact Paired.snoc r ⟨rfl,hb,ry⟩
def KT.keeps{H H':Hp}{kvs:Yr}{xs:Ya9}(r:KT H kvs xs)(ht:∀b ys,H b=Y7f->Y1N=Y7f):KT H' kvs xs :=
 Paired.mapP r λ_ _ z=>⟨z.1,ht _ _ z.2.1,z.2.2⟩
section
variable{P:Program}{w:World}{H:Hp}{h:Heap}{a:Addr}
def aC8{u:HO}(ok:sC P w H h)(e:Rd H a u):gO P w H h a u:=e.ok ok
def DH{kvs:Y2P}(ok:sC P w H h)(e:Rd H a (.dK kvs)):Ycd/\Y7F a/\∃vs,Y89/\h.DictOf (gD P w) a vs :=
 show gO P w H h a (.dK kvs)from aC8 ok e
def aDk{kvs:Y2P}(ok:sC P w H h)(e:H a=Y5w kvs):Ycd/\Y7F a/\∃vs,Y89/\h.DictOf (gD P w) a vs:=DH ok (.inl e)
def rS{ks:Y4l}(ok:sC P w H h)(e:H a=Yf (ks.map kV)):(tupleKind (gD P w)).is h ks a:=by
 obtain⟨_,c,r,o,g,d,n,i⟩:=(show gO P w H h a (.tup (ks.map kV))from ok a _ e);exact⟨o,c.toArray,n,g,d,i,by simpa using FM r⟩
def DF{kvs:Yr}(ok:sC P w H h)(e:Rd H a (.dT kvs)):Ycd/\Y7F a /\
  ∃xs,KT H kvs xs/\h.DictOfH (YaG P w) a xs:=by
 obtain⟨z,y,xs,r,o,n,i,g,j,u,d,s⟩:=(show gO P w H h a (.dT kvs)from aC8 ok e);refine⟨z,y,xs,r,o,n,i,g,j,u,d,λx c=>?_,s⟩;have all:∀{l:Yr} {m:Ya9},KT H l m->∀x∈m,(tupleKind (gD P w)).is h x.1 x.2.1:=by
  intro l m q
  induction q with
  | nil=>intro x c;exact nomatch c
  | @cons p q ps qs hq t ih =>
   intro x c;rcases bN.mp c with e | c
   ·subst e;exact rS ok (by rw[<-hq.1];exact hq.2.1)
   ·exact ih x c
 exact all r x c
def aDj{kvs:Yr}(ok:sC P w H h)(e:H a=Y15):Ycd/\Y7F a /\
  ∃xs,KT H kvs xs/\h.DictOfH (YaG P w) a xs:=DF ok (.inl e)
end
def oE(H:Hp)(a:Addr)(y:V)(r:Am):Prop :=
 (∃kvs k,Rd H a (.dK kvs)/\y=kV k/\r=Y4y)\/∃kvs k b,Rd H a (.dT kvs)/\y=Y0e/\H b=YaW kV/\r=Y4y
def IV(H:Hp)(a:Addr)(y v:V)(H':Hp):Prop :=
 (∃kvs k,H a=Y5w kvs/\y=kV k/\Ye3/\H'=Y3G (.dK (Y4X k v))) \/
 ∃kvs k b,H a=Y15/\y=Y0e/\H b=YaW kV/\Ye3/\H'=Y8E a (Y4X k v)
theorem oE.k{H:Hp}{a:Addr}{kvs:Y2P}{k:fJ}(e:H a=Y5w kvs):oE H a (kV k) (Y4y):=.inl (Y0H kvs k (.inl e) rfl)
def oE.t{H:Hp}{a b:Addr}{kvs:Yr}{k:Y4l}(e:H a=Y15)(eb:H b=YaW kV):oE H a (Y0e) (Y4y):=.inr ⟨kvs,k,b,.inl e,rfl,eb,rfl⟩
theorem IV.k{H:Hp}{a:Addr}{kvs:Y2P}{k:fJ}{v:V}(e:H a=Y5w kvs)(hl:Ye3):IV H a (kV k) v (Y3G (.dK (Y4X k v))):=.inl (Y6e kvs k e hl rfl)
def IV.t{H:Hp}{a b:Addr}{kvs:Yr}{k:Y4l}{v:V}(e:H a=Y15)(eb:H b=YaW kV)(hl:Ye3) :
  IV H a (Y0e) v (Y8E a (Y4X k v)):=.inr (Y1B kvs k b e eb hl rfl)
section
variable{X:Cx}{pins:Ad}{σ:St}{H:Hp}{s:Shared}{a:Addr}{y v:V}{u r:Value}{o:Am}{A:Around}{E:Ya}
def cY.big(I:Y6):Y4H sysModules:=by
 have h:Y4H mainGlobals:=(Yfe).lt;exact Nat.lt_trans Dd h
def UR{Q:Ya}(hu:Y75 1<cLine)(I:Y6)(g:oE H a y (Yw))(ry:Y3D)(h:∀w' s',Y5k s'->fH v w'->Q w' s') :
  Y7t A (getItem (Yd) u) Q E s:=by
 rcases g with⟨r,k,e,j,l⟩ | ⟨r,k,b,e,j,D,l⟩
 ·subst j;obtain⟨z,hd,B,c,i⟩:=YbG e;obtain⟨w',m,d⟩:=Yfg (Yd7 B) (by rw[l];exact c.val k);exact wpAny_getItem_of (CS ry) i.mapOf m (h w' _ (Y1G) d)
 ·subst j;cases(show u=Value.ref b from ry);obtain⟨z,hd,G,c,i⟩:=YbH e;obtain⟨w',m,d⟩:=Yfg ((atKey G k).map (·.2)) (by rw[l];exact c.val k);obtain⟨p,C,n⟩:=eM.mp m;refine wpAny_getItem_heap (YbX) (rS I.hok D) i C ?_;rw[n];exact h w' _ (Y1G) d
def aJa{Q:Ya}(hu:Y75 1<cLine)(I:Y6)(g:oE H a y o)(ry:Y3D)(h:∀s',Y5k s'->Q (.bool o.isSome) s') :
  Y7t A (compareOp .In u (Yd)) Q E s:=by
 rcases g with⟨d,k,e,i,l⟩ | ⟨d,k,b,e,i,m,l⟩
 ·subst i;obtain⟨z,hd,n,c,j⟩:=YbG e;refine wpAny_in_of (CS ry) hd j.mapOf ?_;rw[<-(c.val k).isSome_eq,<-l];exact h _ (Y1G)
 ·subst i;cases(show u=Value.ref b from ry);obtain⟨z,hd,p,c,j⟩:=YbH e;refine wpAny_in_heap (YbX) (rS I.hok m) hd j ?_;have q:=(c.val k).isSome_eq;rw[Option.isSome_map]at q;rw[<-q,<-l];exact h _ (Y1G)
def xP{h':Heap}{t':Nat}{ob:HO}(I:Y6)(mu:Mut (H a))(hs:Yat a h')(he:∃q,Y7z a (some q))(new:gO X.prog X.w (Y3G ob) h' a ob) :
  Y2Z (Y3G ob) ({ s with heap:=h',toks:=t' }) :=
 YfD a a mu (λb q c z=>(hs.2 b c).trans z) he new
def ZY{P:Program}{w:World}{H':Hp}{h':Heap}{kvs:Y2P}{vs:Y6f fJ}(z:Ycd)(hd:Y7F a)(rel:Y89)(dd:h'.DictOf (gD P w) a vs) :
  gO P w H' h' a (.dK kvs):=⟨z,hd,vs,rel,dd⟩
def UQ{H':Hp}{Q:Ybx}(hu:Y75 1<cLine)(I:Y6)(g:IV H a y v H')(ry:Y3D)(rv:fH v r)(h:∀s',Y58 s'->Q () s') :
  Y7t A (setItem (Yd) u r) Q E s:=by
 rcases g with⟨i,k,e,p,l,C⟩ | ⟨i,k,b,e,p,L,l,C⟩
 ·subst p C;obtain⟨z,hd,N,d,n⟩:=aDk I.hok e;have B:Y0q N.length:=by rw[<-d.length];exact z
  have D:Y0q ((jQ i k v).length):=by have:=fK i k v;exact Oo
  refine wpAny_setItem_pairs (hsz:=B) (CS ry) n λM j G=>h _ ?_;have P:∃q,M.get? a=some q:=let ⟨q,_,_,m,_⟩:=j;⟨q,m⟩;exact xP I (by rw[e];exact True.intro) G P (ZY D hd (d.put k rv) j)
 ·subst p C;cases(show u=Value.ref b from ry);obtain⟨z,hd,W,d,n⟩:=aDj I.hok e;have B:Y0q W.length:=by rw[<-Paired.length d];exact z
  have D:Y0q ((jQ i k v).length):=by have:=fK i k v;exact Oo
  refine wpAny_setItem_heap (hsz:=B) (YbX) (rS I.hok L) n λM j G=>h _ ?_;obtain⟨q,T,R,m,S,Z,O,_,U⟩:=j;refine xP I (by rw[e];exact True.intro) G ⟨q,m⟩ ⟨D,hd,_,(d.put k L rv).keeps λc α J=>?_,q,T,R,m,S,Z,O,U⟩;rw[dR (qL J e (λz=>nomatch z))];exact J
end
section
variable{X:Cx}{pins:Ad}{σ:St}{H:Hp}{s:Shared}{a:Addr}{kvs:Y2P}{k:fJ}{u:Value}{A:Around}{E:Ya}
end
def aFU(i:Expr):Prop:=∀ov iv,YdZ i ov iv=Yg9 [ov,iv] ov iv
def aBj{prog:Program}{w:World}{A:Around}{E:Ya}{s:Shared}{env:Env}{value slice:Expr}{pos:Pos}{T id:String}{Q:Ya}
  (hl:YfJ T "__getitem__" = pure (Y8n id)) (hs:aFU slice)
  (h:wpAny (model prog w) A (Y1Q value) (λo s₁=>wpAny (model prog w) A (Y1Q slice) (λi s₂=>s₂.TypeIs o T/\wpAny (model prog w) A (getItem o i) Q E s₂) E s₁) E s) :
  Y1J (Y1Q (Y7y value slice)):=by
 refine Subscript_ (YdD h (λo s₁ g=>YdD g (λi s₂ c=>?_) x) x);obtain⟨d,c⟩:=c;unfold subscriptTail;refine Y4K;rw[getitemInPython_of_ne d.not_modules];refine wpAny_bind (wpAny_specialOf d hl ?_);have a:wpAny (model prog w) A (YdZ slice o i) (λr e=>wpAny (model prog w) A (letTemporaryGo value o r >>= λ_=>pure r) Q E e) E s₂:=by
  rw[hs o i];exact wpAny_operating (YdD c (λr e j=>wpAny_bind (wpAny_letTemporaryGo (wpAny_pure j))) x)
 first
  | exact wpAny_pure (wpAny_bind a)
  | exact Y3m (wpAny_bind a)
  | exact wpAny_bind a
def KU{X:Cx}{pins:Ad}{σ:St}{H:Hp}{s:Shared}{a:Addr}{y:V}{o:Am}(I:Y6)(g:oE H a y o):s.TypeIs (Yd) "dict" := by
 rcases g with⟨c,k,e,_,_⟩ | ⟨c,k,b,e,_,_,_⟩
 ·obtain⟨_,_,h,_,d⟩:=YbG e;exact d.typeIs
 ·obtain⟨_,_,i,_,d⟩:=YbH e;exact d.typeIs
def aGo(td ty:TE):TE:=λσ H Q=>td σ H λx H1=>ty σ H1 λy H2=>∃a v,x=Yd/\oE H2 a y (Yw)/\Q v H2
def aGu(td ty tv:TE):TS:=λD σ H=>tv σ H λv H1=>td σ H1 λx H2=>ty σ H2 λy H3=>∃a H4,x=Yd/\IV H3 a y v H4/\Y8o H4
section
variable{X:Cx}{o i e value:Expr}{pos pos' tpos:Pos}{td ty tv:TE}
def aBU(hu:Y3M 1<cLine)(ho:Yn o td)(hi:Yn i ty)(hs:aFU i):Yn (Y7y o i) (aGo td ty):=by
 intro c s σ H Q I h;refine aBj PySem.F.slot_dict_getitem.lookup hs (thn (ho c s σ H _ I h) λu l ⟨x,H1,I1,n,e⟩=>thn (hi c l σ H1 _ I1 e) λz B ⟨y,H2,I2,m,a,v,j,g,p⟩=>?_);subst j;obtain rfl:u=Y6K:=n;exact⟨KU I2 g,UR hu I2 g m λw r I3 d=>⟨v,H2,I3,d,p⟩⟩
def aBM(hu:Y3M 1<cLine)(ho:Yn o td)(hi:Yn i ty)(hv:Yn value tv)(hs:Y9N value (Ye6 o i)=Y4Q) :
  PS X (Y65 [Ye6 o i] value) (aGu td ty tv):=by
 intro c s σ H D I h;refine wpAny_Assign_Subscript (thn (hv c s σ H _ I h) λr l ⟨v,H1,I1,rv,d⟩=>thn (ho c l σ H1 _ I1 d) λu n ⟨x,H2,I2,p,w⟩=>thn (hi c n σ H2 _ I2 w) λC B ⟨y,H3,I3,m,a,H4,e,g,j⟩=>?_) hs;subst e;obtain rfl:u=Y6K:=p;exact UQ hu I3 g m rv λz I4=>⟨σ,H4,I4,j⟩
end
def ZZ{P:Program}{w:World}{H:Hp}(h:Heap)(hb:YeM sysModules):gO P w H (h.push { cls:=.type "dict",data:=.dict #[] }) h.objs.size (.dK []) :=
 ⟨Y0L,beq_eq_false_iff_ne.mpr (Ne.symm (dL hb)),[],.nil,Heap.DictOf.new h⟩
def DG{P:Program}{w:World}{H:Hp}(h:Heap)(hb:YeM sysModules):gO P w H (h.push { cls:=.type "dict",data:=.dict #[] }) h.objs.size (.dT []) :=
 ⟨Y0L,beq_eq_false_iff_ne.mpr (Ne.symm (dL hb)),[],.nil,_,#[],0,Y1u,Yz rfl rfl,rfl,rfl,List.nodup_nil⟩
def WU:TE:=λ_ H Q=>∀p,H p=none->Y1d p (Y8E p [])
section
variable{X:Cx}{pos:Pos}
def pe_dnewT:Yn (.Dict [] [] pos) WU:=λc s σ H Q I h =>
 wpAny_Dict_empty (Y0H Y2D _ (I.laid (a:=s.heap.objs.size) (o:=.dT []) (t':=s.toks) (Yci q) (Yl) (DG s.heap I.big)) (h _ (Y5T)))
end
def MQ:Y3l TE TE->St->Y5n (Y1P (Y3l V V))
 | [],_,H,Q=>Q [] H
 | (tk,tv)::r,σ,H,Q=>tk σ H λx H1=>tv σ H1 λy H2=>MQ r σ H2 λps H3=>Q ((x,y)::ps) H3
abbrev VV:Y0u (Y3l V V) (Y6f Value):=Paired λp q=>fH p.1 q.1/\fH p.2 q.2
def PPs(X:Cx)(pos:Pos)(keys:Y8q Expr)(values:Y0h)(trs:Y3l TE TE):Prop :=
 ∀(pins:Ad) (s:Shared) (σ:St) (H:Hp) (Q:Y1P (Y3l V V)),Y6->MQ trs σ H Q ->
  Y55 (evalPairs (pairTrees keys values X.env pos)) (λvs s'=>∃ps H',Y58 s'/\VV ps vs/\Q ps H')
def pps_nil{X:Cx}{pos:Pos}:PPs X pos [] [] []:=λa s σ H Q I h=>pairTrees_nil_walk ⟨[],H,I,.nil,h⟩
def YH{X:Cx}{pos:Pos}{k v:Expr}{ks:Y8q Expr}{vs:Y0h}{tk tv:TE}{trs:Y3l TE TE}(hk:Yn k tk)(hv:Yn v tv)(hr:PPs X pos ks vs trs) :
  PPs X pos (some k::ks) (v::vs) ((tk,tv)::trs):=λa s σ H Q I h =>
 pairTrees_cons_walk (thn (hk a s σ H _ I h) λu g ⟨x,H1,I1,m,d⟩=>thn (hv a g σ H1 _ I1 d) λr l ⟨y,H2,I2,j,n⟩ =>
  thn (hr a l σ H2 _ I2 n) λw p ⟨i,H3,I3,c,e⟩=>⟨(x,y)::i,H3,I3,.cons ⟨m,j⟩ c,e⟩)
def CI(kvs more:Y2P):Y2P:=more.foldl (λacc kv=>jQ acc kv.1 kv.2) kvs
def KV.merge:∀{more:Y2P}{rs:Y6f fJ}{kvs:Y2P}{vs:Y6f fJ},KV more rs->Y89->KV (CI kvs more) (merged vs rs):=by
 intro more rs kvs vs r;unfold KV at r
 induction r generalizing kvs vs with
 | nil=>intro q;exact q
 | @cons p q ps qs h t ih =>
  intro a;have e:KV (Y4X p.1 p.2) (stored vs q.1 q.2):=by
   have:=a.put p.1 h.2;rw[<-h.1];exact this
  exact ih e
theorem vB:∀(more kvs:Y2P),(CI kvs more).length<=kvs.length+more.length
 | [],kvs=>by show kvs.length<=kvs.length+0;exact Oo
 | p::r,kvs=>by
  have h1:=vB r (jQ kvs p.1 p.2);have a:=fK kvs p.1 p.2;show(CI (jQ kvs p.1 p.2) r).length<=_;rw[cD];exact Oo
theorem DO{P:Program}{w:World}:∀{kvs:Y2P}{ws:Y6f Value},VV (YaR (kV kv.1,kv.2)) ws->∃rs,Carries (gD P w) ws rs/\KV kvs rs
 | [],_,r=>by rw[List.map_nil]at r;cases r;exact⟨[],True.intro,.nil⟩
 | p::kvs,_,r=>by
  rw[bA]at r;cases r with
  | @cons a b as bs h t =>
   obtain⟨rs,c,q⟩:=DO (P:=P) (w:=w) t;obtain⟨d,b2⟩:=b;exact⟨(p.1,b2)::rs,⟨CS h.1,rfl,c⟩,.cons ⟨rfl,h.2⟩ q⟩
def aC4(trs:Y3l TE TE):TE:=λσ H Q=>∀p,H p=none->MQ trs σ (Y4f p (.dK [])) λps H2=>H2 p=Y5w []/\∃kvs:List (fJ × V),ps=YaR (kV kv.1,kv.2)/\Y8m 15/\Y1d p (upd H2 p (.dK (CI [] kvs)))
def aBT{X:Cx}{pos:Pos}{keys:Y8q Expr}{values:Y0h}{trs:Y3l TE TE}(h:PPs X pos keys values trs)(hall:keys.all (·.isSome)=true)(hl:keys.length=values.length)(h0:keys≠[])
  (h15:keys.length<=15):Yn (.Dict keys values pos) (aC4 trs):=by
 intro d s σ H Q I q;have C:=Ydv;have I1:=YeZ (.dK []) (s.heap.push { cls:=.type "dict",data:=.dict #[] }) s.toks (Yci q) Yl (ZZ s.heap I.big);refine wpAny_Dict_walk (knd:=gD X.prog X.w) hall hl h0 h15 (thn (h d _ σ _ _ I1 (q _ C)) λL M ⟨J,H2,I2,j,e,i,r,N,B⟩=>?_);subst r;obtain⟨u,c,G⟩:=DO (P:=X.prog) (w:=X.w) j;obtain⟨z,hd,p,A,m⟩:=aDk I2.hok e;cases A;refine⟨u,c,m,λh' g D=>Y0H Y2D _ ?_ B⟩;have y:Y0q ((CI [] i).length):=by
  have l:=vB i [];rw[List.length_nil]at l;rw[sizeLine_eq];exact Oo
 have n:∃q,Yfv (some q):=let ⟨q,_,_,hq,_⟩:=g;⟨q,hq⟩;exact xP I2 (by rw[e];exact True.intro) D n (ZY y hd (G.merge .nil) g)
structure M1(X:Cx)(o:Expr)(m:Str)(apos:Pos)(e:Expr)(cpos:Pos):Prop where
 base:attributeBase o m X.env (Y0d o)=Y0d o
 few:((backTo cpos (starEach [e] X.env)).all (λx=>! x.1)&&(backToKw cpos (keywordEach [] X.env)).all (λx=>x.1.isSome)
  && Y22 (([e]:List Expr).length+([]:List Keyword).length+(if([]:List Keyword).isEmpty then 0 else 1)) 30)=true
 line:(YaJ)=true
 trees:YeN (Y2C e)=[(false,Y1l)]
structure M2(X:Cx)(o:Expr)(m:Str)(apos:Pos)(e f:Expr)(cpos:Pos):Prop where
 base:attributeBase o m X.env (Y0d o)=Y0d o
 few:((backTo cpos (starEach [e,f] X.env)).all (λx=>! x.1)&&(backToKw cpos (keywordEach [] X.env)).all (λx=>x.1.isSome)
  && Y22 (([e,f]:List Expr).length+([]:List Keyword).length+(if([]:List Keyword).isEmpty then 0 else 1)) 30)=true
 line:(YaJ)=true
 trees:YeN (Y1Y [e,f])=[(false,Y1l),(false,Y0d f)]
def IsD(H:Hp)(a:Addr):Prop:=(∃kvs,Rd H a (.dK kvs))\/∃kvs,Rd H a (.dT kvs)
def ZJ{X:Cx}{pins:Ad}{σ:St}{H:Hp}{s:Shared}{a:Addr}(I:Y6)(d:IsD H a) :
  s.TypeIs (Yd) "dict" /\ (∀b,Y6K=Y0e->∃ob,Y2H b ob/\ob.dict=none)/\Y7F a:=by
 rcases d with⟨h,e⟩ | ⟨h,e⟩
 ·obtain⟨_,hd,j,_,c⟩:=YbG e;refine⟨c.typeIs,λb q=>?_,hd⟩;cases q;obtain⟨ob,_,_,i,g,_⟩:=c;exact⟨ob,i,g.2.1⟩
 ·obtain⟨_,hd,l,_,c⟩:=YbH e;refine⟨c.typeIs,λb q=>?_,hd⟩;cases q;obtain⟨ob,_,_,i,g,_⟩:=c;exact⟨ob,i,g.2.1⟩
section
variable{X:Cx}{pins:Ad}{σ:St}{H:Hp}{s:Shared}{a:Addr}{y d:V}{u r:Value}{o:Am}{A:Around}{E:Ya}
def aFE{Q:Ya}(hu:Y75 1<cLine)(I:Y6)(g:oE H a y o)(ry:Y3D)(h:∀w' s',Y5k s'->fH (o.getD .non) w'->Q w' s') :
  Y7t A (YaC "dict.get" [Yd,u]) Q E s:=by
 rcases g with⟨i,k,e,j,l⟩ | ⟨i,k,b,e,j,n,l⟩
 ·subst j;obtain⟨z,hd,p,c,d⟩:=YbG e;refine Ydr d.typeIs (PySem.F.args_dict_get_2 _ _) (meets_dict_get (gD X.prog X.w) a (CS ry) hd) (Y0J d.mapOf (h _ _ (Y1G) ?_));rw[l];exact(c.val k).getD rfl
 ·subst j;cases(show u=Value.ref b from ry);obtain⟨z,hd,m,c,d⟩:=YbH e;refine Ydr d.typeIs (PySem.F.args_dict_get_2 _ _) (meetsH_dict_get (YaG X.prog X.w) a b hd) ⟨YbX,k,m,rS I.hok n,d,h _ _ (Y1G) ?_⟩;rw[l];exact(c.val k).getD rfl
def aFD{Q:Ya}(hu:Y75 1<cLine)(I:Y6)(g:oE H a y o)(ry:Y3D)(rd:fH d r)(h:∀w' s',Y5k s'->fH (o.getD d) w'->Q w' s') :
  Y7t A (YaC "dict.get" [Yd,u,r]) Q E s:=by
 rcases g with⟨j,k,e,m,l⟩ | ⟨j,k,b,e,m,p,l⟩
 ·subst m;obtain⟨z,hd,B,c,i⟩:=YbG e;refine Ydr i.typeIs (PySem.F.args_dict_get_3 _ _ _) (meets_dict_get_default (gD X.prog X.w) a (CS ry) hd r) (Y0J i.mapOf (h _ _ (Y1G) ?_));rw[l];exact(c.val k).getD rd
 ·subst m;cases(show u=Value.ref b from ry);obtain⟨z,hd,n,c,i⟩:=YbH e;refine Ydr i.typeIs (PySem.F.args_dict_get_3 _ _ _) (meetsH_dict_get_default (YaG X.prog X.w) a b hd r) ⟨YbX,k,n,rS I.hok p,i,h _ _ (Y1G) ?_⟩;rw[l];exact(c.val k).getD rd
end
def WW(td ty:TE):TE:=λσ H Q=>td σ H (YeI (x=Yd/\IsD H1 a/\ty σ H1 λy H2=>∃o,oE H2 a y o/\Q (o.getD .non) H2))
def WV(td ty tx:TE):TE:=λσ H Q=>td σ H (YeI (x=Yd/\IsD H1 a/\ty σ H1 λy H2=>tx σ H2 λz H3=>∃o,oE H3 a y o/\Q (o.getD z) H3))
section
variable{X:Cx}{o e f:Expr}{apos cpos:Pos}{td ty tx:TE}
def YO(hu:Y3M 1<cLine)(ho:Yn o td)(he:Yn e ty)(m:M1 X o "get" apos e cpos):Yn (Y92 "get" [e] [] cpos) (WW td ty):=by
 intro c s σ H Q I h;refine wpAny_Call_method m.base m.few m.line PySem.F.plainAttrs_dict PySem.F.slot_dict_get PySem.F.type_dict_get (thn (ho c s σ H _ I h) λu p ⟨x,H1,I1,w,a,l,d,j⟩=>?_);subst l;obtain rfl:u=Y6K:=w;obtain⟨n,B,_⟩:=ZJ I1 d;refine Y05 n B;rw[m.trees];refine Calls.callWith_builtin rfl (Calls.evalArgs_plain (Yf9 (he c p σ H1 _ I1 j) (λJ L ⟨y,H2,I2,r,C,g,z⟩=>Calls.spliced_nil ?_)));exact aFE hu I2 g r λG D I3 i=>⟨_,H2,I3,i,z⟩
def YN(hu:Y3M 1<cLine)(ho:Yn o td)(he:Yn e ty)(hf:Yn f tx)(m:M2 X o "get" apos e f cpos):Yn (Y92 "get" [e,f] [] cpos) (WV td ty tx):=by
 intro c s σ H Q I h;refine wpAny_Call_method m.base m.few m.line PySem.F.plainAttrs_dict PySem.F.slot_dict_get PySem.F.type_dict_get (thn (ho c s σ H _ I h) λu r ⟨x,H1,I1,C,a,l,d,j⟩=>?_);subst l;obtain rfl:u=Y6K:=C;obtain⟨p,J,_⟩:=ZJ I1 d;refine Y05 p J;rw[m.trees];refine Calls.callWith_builtin rfl (Calls.evalArgs_plain (Calls.spliced_cons (thn (he c r σ H1 _ I1 j) λP B ⟨y,H2,I2,w,D⟩ =>
  Yf9 (hf c B σ H2 _ I2 D) (λR N ⟨z,H3,I3,G,L,g,n⟩=>Calls.spliced_nil ?_))))
 exact aFD hu I3 g w G λO M I4 i=>⟨_,H3,I4,i,n⟩
end
section
variable{X:Cx}{pins:Ad}{σ:St}{H:Hp}{s:Shared}{a:Addr}{kvs:Y2P}{A:Around}{E:Ya}
end
section
variable{X:Cx}{pins:Ad}{σ:St}{H:Hp}{s:Shared}{a:Addr}{y:V}{u:Value}{A:Around}{E:Ya}
end
section
variable{κ:Type}[DecidableEq κ]
def WE{kvs:Y3y}{k:κ}(h:Y4y=none):¬k∈kvs.map (·.1):=by
 intro m;obtain⟨p,a,e⟩:=aN.mp m;have q:Ya5 (λc=>Y0P c.1 k) true:=List.any_eq_true.mpr ⟨p,a,cN e⟩;rw[nG,h]at q;exact absurd q (by simp)
def AJ{kvs:Y3y}{k:κ}{v:V}(h:Y4y=Yw):k∈kvs.map (·.1):=by
 have q:Ya5 (λc=>Y0P c.1 k) true:=by
  rw[nG,h]
  all_goals rfl
 obtain⟨p,a,e⟩:=List.any_eq_true.mp q;exact aN.mpr ⟨p,a,of_decide_eq_true e⟩
end
abbrev bits(i:Int):Nat:=Builtin.Int.intBits i
def aAN(i j:Int):Prop:=0<j/\bits j<=9000
def KH{j:Int}{n:Nat}(h:bits j<=n)(hn:0<n):j.natAbs.log2<n:=by
 unfold bits Builtin.Int.intBits at h;by_cases hj:(j == 0)=true
 ·have:j=0:=by simpa using hj
  subst this;exact aI (by decide +kernel:(0:Int).natAbs.log2<=0) hn
 ·rw[if_neg hj]at h;exact Oo
section
variable{X:Cx}
def gI:Y5q X .FloorDiv (rI aAN (Y8u (i/j))):=opI λi j _ _ _ _ _ a q=>by
 refine floordiv_int (by have:=a.1;exact Oo) ?_ (.inl (PyProof.noPylong_of_log2 (KH a.2 Dd)));rw[Int.fdiv_eq_ediv_of_nonneg i (by have:=a.1;exact Oo)];exact q
def eZ:Y5q X .Mult (rI IntMulOk (Y8u (i*j))):=opI λ_ _ _ _ _ _ _ a q=>mul_int q a
end
mutual
def dA(H:Hp):Y0u PyData V
 | .none,v=>v=.non
 | .bool b,v=>v=.bl b
 | .int i,v=>v=.int i
 | .str x,v=>v=.str x
 | .list ds,v=>∃a xs,v=.ref a/\H a=some (.lst xs)/\bD H ds xs
 | .tuple ds,v=>∃a xs,v=.ref a/\H a=some (.tup xs)/\bD H ds xs
 | .dict kvs,v=>kvs=[]/\∃a,v=.ref a/\H a=some (.dK [])
def bD(H:Hp):Y0u Y1f Al
 | [],vs=>vs=[]
 | d::ds,vs=>∃x xs,vs=x::xs/\dA H d x/\bD H ds xs
end
mutual
theorem dA.same{H H':Hp}(e:Y0):∀{d:PyData}{v:V},Y0M d v->dA H' d v
 | .none,_,h=>h
 | .bool _,_,h=>h
 | .int _,_,h=>h
 | .str _,_,h=>h
 | .list ds,_,h=>by
  unfold dA at h ⊢;obtain⟨a,xs,rfl,h1,h2⟩:=h;exact⟨a,xs,rfl,e _ _ h1,bD.same e h2⟩
 | .tuple ds,_,h=>by
  unfold dA at h ⊢;obtain⟨a,xs,rfl,h1,h2⟩:=h;exact⟨a,xs,rfl,e _ _ h1,bD.same e h2⟩
 | .dict kvs,_,h=>by
  unfold dA at h ⊢;obtain⟨c,a,rfl,h1⟩:=h;exact⟨c,a,rfl,e _ _ h1⟩
theorem bD.same{H H':Hp}(e:Y0):∀{ds:Y1f}{vs:Al},Y7h->bD H' ds vs
 | [],_,h=>h
 | d::ds,_,h=>by
  unfold bD at h ⊢;obtain⟨x,xs,rfl,h1,h2⟩:=h;exact⟨x,xs,rfl,dA.same e h1,bD.same e h2⟩
end
theorem dA.tup{H:Hp}{a:Addr}{xs:Al}{ds:Y1f}(h:H a=Y16)(r:Y9J xs):Y0M (.tuple ds) Yd:=by
 unfold dA;exact Y0i a xs h r
theorem dA.lst{H:Hp}{a:Addr}{xs:Al}{ds:Y1f}(h:H a=Y0I)(r:Y9J xs):Y0M (.list ds) Yd:=by
 unfold dA;exact Y0i a xs h r
theorem dA.int{H:Hp}(i:Int):Y0M Y1s Y1s:=by unfold dA;rfl
theorem dA.str{H:Hp}(i:Str):Y0M (.str i) (.str i):=by unfold dA;rfl
theorem dA.non{H:Hp}:Y0M .none .non:=by unfold dA;rfl
def bD.nil{H:Hp}:Y1n [] []:=by unfold bD;rfl
def bD.cons{H:Hp}{d:PyData}{ds:Y1f}{x:V}{xs:Al}(h:Y0M d x)(hs:Y9J xs):Y1n (d::ds) (x::xs):=by
 unfold bD;exact Y0i x xs h hs
section
variable{X:Cx}{pins:Ad}{σ:St}{H:Hp}{s:Shared}
mutual
theorem dA.reads(I:Y6):∀{d:PyData}{v:V}{u:Value},Y0M d v->Y41->∃as,Reads s.heap u d as
 | .none,_,u,h,r=>by
  cases(show _=V.non from h);cases(show u=Value.none from r);exact⟨_,.none⟩
 | .bool b,_,u,h,r=>by
  cases(show _=V.bl b from h);cases(show u=Value.bool b from r);exact⟨_,.bool b⟩
 | .int b,_,u,h,r=>by
  cases(show _=V.int b from h);obtain⟨t,q⟩:=(show ∃t,u=Value.int b t from r);cases q;exact⟨_,.int b t⟩
 | .str b,_,u,h,r=>by
  cases(show _=V.str b from h);obtain⟨t,q⟩:=(show ∃t,u=Value.str b t from r);cases q;exact⟨_,.str b t⟩
 | .list ds,v,u,h,r=>by
  unfold dA at h;obtain⟨a,l,rfl,g,j⟩:=h;cases(show u=Value.ref a from r);obtain⟨_,i,n,m,e⟩:=(show gO X.prog X.w H s.heap a (.lst l)from I.hok a _ g);obtain⟨as,q⟩:=bD.reads I j m;exact⟨_,.list e rfl rfl (by simpa using q)⟩
 | .tuple ds,v,u,h,r=>by
  unfold dA at h;obtain⟨a,l,rfl,g,j⟩:=h;cases(show u=Value.ref a from r);obtain⟨_,i,m,o,e,A,n,hd⟩:=(show gO X.prog X.w H s.heap a (.tup l)from I.hok a _ g);obtain⟨as,q⟩:=bD.reads I j m;exact⟨_,.tuple e A hd (by simpa using q)⟩
 | .dict kvs,v,u,h,r=>by
  unfold dA at h;obtain⟨rfl,a,rfl,g⟩:=h;cases(show u=Value.ref a from r);obtain⟨_,_,D,C,o,z,G,e,B,hd,_,c,_⟩:=(show gO X.prog X.w H s.heap a (.dK [])from I.hok a _ g);cases C;have p:z.toList=[]:=by
   cases q:z.toList with
   | nil=>rfl
   | cons y ys=>rw[q]at c;cases c
  exact⟨_,.dict e B.1 hd (by rw[p];exact .nil) (by rw[p];exact .nil)⟩
theorem bD.reads(I:Y6):∀{ds:Y1f}{vs:Al}{us:Ag},Y7h->Y2m vs->∃as,ReadsAll s.heap us ds as
 | [],_,us,h,r=>by
  cases(show _=[]from h);cases r;exact⟨_,.nil⟩
 | d::ds,_,us,h,r=>by
  unfold bD at h;obtain⟨x,xs,rfl,h1,h2⟩:=h;cases r with
  | cons r1 r2 =>
   obtain⟨as,c⟩:=dA.reads I h1 r1;obtain⟨bs,a⟩:=bD.reads I h2 r2;exact⟨_,.cons c a⟩
end
end
section
variable{X:Cx}
end
section
variable{X:Cx}
end
structure fQ(CX:VI)(P:Program)(w:World)(K:Aa)(mg:Y0G)(base:Heap)(k:Nat)(x:Str)(ps:Ah)(sp:Sp):Prop where
 ex:∃(f:Addr) (fd:FuncData),dW P w K mg base CX k f fd ps sp/\mg x=Y3 f/\Y9k K f=true/\tQ K fd ps []
section
variable{X:Cx}{k:Nat}{ps:Ah}{sp:Sp}{x:Str}{p pos:Pos}{e:Expr}{es:Y0h}{t:TA}
def aGN(F:fQ dD X.prog X.w X.K X.mg X.base k x ps sp)(hr:Y57 k)(ha:PA X (e::es) t)(hg:Y3h:=by rfl)
  (hdb:Y1L ("__debug__" : Str):=by decide) (he:Y40=(false,Y1l)::Y39:=by rfl) (hpl:Yy ((backTo pos (starEach es X.env)).any (·.1)):=by rfl) :
  Yn (Y4h x p (e::es) []) (zN sp [] E0 t):=by
 obtain⟨f,h,d,a,g,c⟩:=F.ex;exact aBW d hr hg a g c .nil YR ha hdb he hpl
end
section
variable{K:Aa}{H:Hp}{p:Addr}{xs:Al}{i:Int}{v:V}{Q:VK}
def xH(h:H p=Y0I)(e:ED xs i=Yw)(q:Q v H):rIx K (Y21) (Y1s) H Q:=.inl ⟨p,xs,i,v,rfl,rfl,Y8Q,e,q⟩
def jK(h:H p=Y16)(e:ED xs i=Yw)(q:Q v H):rIx K (Y21) (Y1s) H Q:=YaV ⟨p,xs,i,v,rfl,rfl,jC.of h,e,q⟩
def stL{u:V}{Q:Y1c Hp}{j:Nat}(h:H p=Y0I)(e:Ycq i=Y6u)(q:Q (Y2s H p (xs.set j u))):QF (Y21) (Y1s) u H Q:=⟨p,xs,i,j,rfl,rfl,h,e,q⟩
end
def kC(p:Addr)(H:Hp):Hp:=λb=>if b=p then none else H b
def kC.at{p b:Addr}{H:Hp}(h:b≠p):kC p H b=H b:=by unfold kC;rw[Y5C]
def kC.self{p:Addr}{H:Hp}:kC p H p=none:=by unfold kC;rw[Ys]
def kC.same{p:Addr}{H:Hp}:aT (kC p H) H:=λb o h=>by
 unfold kC at h;by_cases e:b=p
 ·rw[Y1i]at h;cases h
 ·rw[Y0B]at h;exact h
def kC.ne{p b:Addr}{H:Hp}{o:HO}(h:kC p H b=Y9):b≠p:=λe=>by
 subst e;rw[kC.self]at h;cases h
def kC.of{p b:Addr}{H:Hp}{o:HO}(n:b≠p)(h:H b=Y9):kC p H b=Y9:=by rw[kC.at n];exact h
def kC.upd_self{p:Addr}{H:Hp}{o:HO}:kC p (Y4f p o)=kC p H:=by
 funext b
 by_cases e:b=p
 ·subst e;rw[kC.self,kC.self]
 ·rw[kC.at e,kC.at e,L2.dR e]
abbrev aW(p:Addr)(H H':Hp):Prop:=aT (kC p H) (kC p H')
def aT.but{p:Addr}{H H':Hp}(h:Y0):Y12:=λb o e=>by
 have n:=kC.ne e;exact kC.of n (h _ _ (kC.same _ _ e))
theorem aT.upd{H:Hp}{q:Addr}{o:HO}(h:H q=none):aT H (Y4f q o):=λb u e=>by
 rw[L2.dR (dS e h)];exact e
def aW.self{p:Addr}{H:Hp}{o:HO}:aW p H (Y4f p o):=by unfold aW;rw[kC.upd_self];exact Y06
def aW.free{p q:Addr}{H H':Hp}(e:Y12)(hp:∃o,H' p=Y9)(h:H' q=none):H q=none:=by
 cases k:H q with
 | none=>rfl
 | some o =>
  by_cases n:q=p
  ·subst n;obtain⟨c,a⟩:=hp;rw[a]at h;cases h
  ·have:=kC.same _ _ (e q o (kC.of n k));rw[this]at h;cases h
section
variable{K:Aa}{H:Hp}{p:Addr}{xs:Al}{i:Int}{v:V}{Q:VK}
def stG{u:V}{Q:Y1c Hp}{j:Nat}(h:H p=Y0I)(e:Ycq i=Y6u)(k:∀H',H' p=Yc (xs.set j u)->Y12->Q H'):QF (Y21) (Y1s) u H Q :=
 stL h e (k _ bH aW.self)
def alT{Q:Y8U}(hz:Y4L)(k:∀q H',H q=none->H' q=Y16->Y0->Y0r q):Y4L/\∀p,H p=none->Y1d p (Y8A p xs) :=
 ⟨hz,λq a=>k q _ a bH (aT.upd a)⟩
def alL{Q:Y8U}(hz:Y4L)(k:∀q H',H q=none->H' q=Y0I->Y0->Y0r q):Y4L/\∀p,H p=none->Y1d p (Y2s H p xs) :=
 ⟨hz,λq a=>k q _ a bH (aT.upd a)⟩
def aW.at{p b:Addr}{H H':Hp}{o:HO}(s:Y12)(n:b≠p)(h:H b=Y9):Y1N=Y9:=kC.same _ _ (s _ _ (kC.of n h))
end
def wX{n:Nat}(h:n<=64):Y0q n:=Y3B h
def yR{c A B:Prop}[Decidable c](h1:c->A)(h2:¬c->B):if decide c=true then A else B :=
 aGU (λh=>h1 (of_decide_eq_true h)) (λh=>h2 (λk=>h (cN k)))
def aGT{c A B:Prop}[Decidable c](h1:¬c->A)(h2:c->B):if(! decide c)=true then A else B :=
 aGU (λh=>h1 (λk=>by rw[cN k]at h;exact Y6Q h)) (λh=>h2 (Decidable.of_not_not λk=>h (by rw[cA k];rfl)))
def uY(c:TT):TT:=λσ H Q=>∃Q':Bool->Hp->Prop,c σ H Q'/\∀b H1,Q' b H1->Q b H1
def PT.mono{X:Cx}{e:Expr}{c:TT}(h:PT X e c):PT X e (uY c):=λa s σ H Q I ⟨Q',g,d⟩ =>
 thn (h a s σ H Q' I g) λb i ⟨H',I',q⟩=>⟨H',I',d _ _ q⟩
def TH{X:Cx}{pos:Pos}{c:Expr}{body:Y5z}{tc:TT}{tb:TS}(hp:Ych Y8S X.A X.xe)(hc:PT X c tc)(hb:OO X body tb):PS X (.While c body [] pos) (GT (uY tc) tb) :=
 YD hp hc.mono hb
@[irreducible] def NF(K:Aa):Y1x:=λxs H Q=>∃x n,xs=[x]/\aHk K x H n/\Y1T n
@[irreducible] def aBG:Y1x:=λxs H Q=>∃i,xs=[Y1s]/\Y1T (i.natAbs:Int)
section
variable{X:Cx}{K:Aa}{H:Hp}{p:Addr}{xs:Al}{Q:VK}
def nV:Y4M X "len" (NF X.K):=by unfold NF;exact aAk
def aAj:Y4M X "abs" aBG:=by
 unfold aBG;exact λa s σ H c d Q I r ⟨i,e,q⟩=>aAl a s σ H c d Q I r ⟨i,e,by
 have:(if i<0 then -i else i)=(i.natAbs:Int):=by split <;> exact Oo
 rw[this];exact q⟩
def rlL(h:H p=Y0I)(q:Y1T xs.length):NF K [V.ref p] H Q:=by unfold NF;exact Y0i _ _ (.inl (Y3q xs Y8Q)) q
def rlT(h:H p=Y16)(q:Y1T xs.length):NF K [V.ref p] H Q:=by unfold NF;exact Y0i _ _ (.inr (Y3q xs (jC.of h))) q
def raI{i:Int}(q:Y1T (i.natAbs:Int)):aBG [V.int i] H Q:=by unfold aBG;exact Yz i q
end
def AI{c:TT}{tb:TS}{D:pW}{σ:St}{H:Hp}(W:Yaa)(R:Y2J)(m:Nat)(h0:W m σ H)
  (hs:∀m σ H,W m σ H->c σ H λb H1=>if b=true then tb { D with nx:=λσ' H'=>∃m',m' < m/\W m' σ' H',ct:=λσ' H'=>∃m',m' < m/\W m' σ' H',bk:=D.nx } σ H1 else R σ H1)
  (hd:∀σ H,R σ H->Y3Y):GT (uY c) tb D σ H :=
 ⟨W,⟨m,h0⟩,λm σ H a=>⟨_,hs m σ H a,λb H1 q=>by
  by_cases hb:b=true
  ·rw[if_pos hb]at q ⊢;exact Y0J (λ_ _ h=>h) q
  ·rw[if_neg hb]at q ⊢;exact hd _ _ q⟩⟩
def aGp(t:TS):TS:=λD σ H=>∃R:St->Hp->Prop,(∀σ' H',R σ' H'->D.nx σ' H')/\(t { D with nx:=R } σ H)
def aEV{X:Cx}{st:Stmt}{t:TS}(h:PS X st t):PS X st (aGp t):=λa s σ H D I ⟨R,d,q⟩ =>
 thn (h a s σ H _ I q) λf e z=>by
  cases f with
  | next=>obtain⟨c,H',I',r⟩:=z;exact⟨c,H',I',d _ _ r⟩
  | brk=>exact z
  | cont=>exact z
  | ret u=>exact z
section
variable{es:Y0h}{env:Env}
def SY{a b c}:Y3o (.BoolOp a b c::es)=(false,Y1Q (.BoolOp a b c))::Y3R:=by rw[starEach] <;> (intros;contradiction)
def BX{a b c d}:Y3o (.BinOp a b c d::es)=(false,Y1Q (.BinOp a b c d))::Y3R:=by rw[starEach] <;> (intros;contradiction)
def MX{a b c}:Y3o (.UnaryOp a b c::es)=(false,Y1Q (.UnaryOp a b c))::Y3R:=by rw[starEach] <;> (intros;contradiction)
def XM{a b c d}:Y3o (.IfExp a b c d::es)=(false,Y1Q (.IfExp a b c d))::Y3R:=by rw[starEach] <;> (intros;contradiction)
def sT{a b c d}:Y3o (.ListComp a b c d::es)=(false,Y1Q (.ListComp a b c d))::Y3R:=by rw[starEach] <;> (intros;contradiction)
def MY{a b c d}:Y3o (Ybm b c d::es)=(false,Y1Q (Ybm b c d))::Y3R:=by rw[starEach] <;> (intros;contradiction)
def mY{a b c d}:Y3o (.Call a b c d::es)=(false,Y1Q (.Call a b c d))::Y3R:=by rw[starEach] <;> (intros;contradiction)
def sU{a b c}:Y3o (.Constant a b c::es)=(false,Y1Q (.Constant a b c))::Y3R:=by rw[starEach] <;> (intros;contradiction)
def lS{a b c}:Y3o (.Attribute a b c::es)=(false,Y1Q (.Attribute a b c))::Y3R:=by rw[starEach] <;> (intros;contradiction)
def gZ{a b c}:Y3o (.Subscript a b c::es)=(false,Y1Q (.Subscript a b c))::Y3R:=by rw[starEach] <;> (intros;contradiction)
def oB{a b}:Y3o (.Name a b::es)=(false,Y1Q (.Name a b))::Y3R:=by rw[starEach] <;> (intros;contradiction)
def XL{a b c}:Y3o (.Tuple a b c::es)=(false,Y1Q (.Tuple a b c))::Y3R:=by rw[starEach] <;> (intros;contradiction)
end
section
variable{X:Cx}{k:Nat}{ps:Ah}{sp:Sp}{x:Str}{p pos:Pos}{e:Expr}{es:Y0h}{te:TE}{t:TA}{id T:String}{r:Y1x}
def pV{env:Env}:Yy ((backTo pos (starEach [] env)).any (·.1)):=rfl
def nB{env:Env}(hs:Y3o (e::es)=(false,Y1Q e)::Y3R)(h:Yy ((backTo pos (starEach es env)).any (·.1))):Yy ((backTo pos (starEach (e::es) env)).any (·.1)):=by
 rw[hs];show Yy (false || (backTo pos (starEach es env)).any (·.1));rw[h];rfl
end
structure gY(X:Cx)(e:Expr)(t:TE):Prop where p:Yn e t
structure VG(X:Cx)(e:Expr)(t:TT):Prop where p:PT X e t
structure PWw(X:Cx)(e:Expr)(t:TT):Prop where p:PW X e t
structure IZ(X:Cx)(es:Y0h)(t:TA):Prop where p:PA X es t
structure IY(X:Cx)(st:Stmt)(t:TS):Prop where p:PS X st t
structure EE(X:Cx)(st:Y5z)(t:TS):Prop where p:OO X st t
structure PGw(X:Cx)(e:Expr)(t:TG):Prop where p:PG X e t
structure aCQ(X:Cx)(es:Y0h)(t:TGs):Prop where p:PGs X es t
structure OP(X:Cx)(tg iter:Expr)(t:TI):Prop where p:PI X tg iter t
structure POw(X:Cx)(e:Yey)(t:TO):Prop where p:PO X e t
@[irreducible] def QG(xs:Al)(H:Hp)(Q:VK):Prop:=Y4L/\∀p,H p=none->Y1d p (Y8A p xs)
@[irreducible] def QH(xs:Al)(H:Hp)(Q:VK):Prop:=Y4L/\∀p,H p=none->Y1d p (Y2s H p xs)
def sF{xs:Al}{H:Hp}{Q:VK}(hz:Y4R 64)(k:∀q H',H q=none->H' q=Y16->Y0->Y0r q):QG xs H Q:=by unfold QG;exact alT (wX hz) k
def EA{xs:Al}{H:Hp}{Q:VK}(hz:Y4R 64)(k:∀q H',H q=none->H' q=Y0I->Y0->Y0r q):QH xs H Q:=by unfold QH;exact alL (wX hz) k
def tTu(t:TA):TE:=Y5P H (λxs H1=>QG xs H1 Q)
def tLs(t:TA):TE:=Y5P H (λxs H1=>QH xs H1 Q)
def aHY{ts us:TS}{D:pW}{σ:St}{H:Hp}(h:ts { D with nx:=us D } σ H):aBh ts us D σ H:=h
def aI0{te:TE}{g:TG}{D:pW}{σ:St}{H:Hp}(h:te σ H λx H1=>g x σ H1 D.nx):GU te g D σ H:=h
section
variable{X:Cx}{a b c e o tg:Expr}{es rest:Y0h}{ta tb tc te to:TE}{tA tB':TT}{t:TA}{pos p p2:Pos}{st:Stmt}{sts body orelse:Y5z}{ts us:TS}{x:Str}{r r':R2}{id T:String}{rl:Y1x}{k i j:Nat}{ps:Ah}{sp:Sp}{n:Nat}
def aD(i:Nat){x:Str}{pos:Pos}(hN:Y3E=Y7:=by rfl)(hv:YdX x:=by first | exact Or.inl rfl | exact Or.inr (Or.inl rfl) | exact Or.inr (Or.inr rfl))(hd:Y1L ("__debug__" : Str):=by decide)
  (hcd:Y1L ("__classdict__" : Str):=by decide):Yh Y7Y (WS i):=⟨pv i hN hv hd hcd⟩
def aO{i j pos}:Yh (Y8t Y1s j) (tC (Y1s)):=⟨pe_int⟩
def PH{b j pos}:Yh (Y8t (.bool b) j) (tC (.bl b)):=⟨pe_bl⟩
def nS{j pos}:Yh (Y8t .none j) (tC .non):=⟨pe_non⟩
def iB{x j pos}:Yh (Y8t (.str x) j) (tC (.str x)):=⟨pe_str⟩
def gP{v:V}{u:Value}(hg:Y3h)(hm:Y6w=Ym)(r:Y41)(hd:Y1L ("__debug__" : Str):=by decide):Yh Y7Y (tC v):=⟨aBS hg hm r hd⟩
def cG{op:Operator}(ho:Y5q X op r)(ha:Y5N a)(hb:Yh b tb):Yh (.BinOp a op b pos) (tOp r ta tb):=⟨aGL ho ha.p hb.p⟩
def BO{op:UnaryOp}{r:V->(Y5n VK)}(ho:UnR X (unaryOp op) r)(ha:Y5N a):Yh (.UnaryOp op a pos) (tUn r ta):=⟨aGK ho ha.p⟩
def vI{op:CmpOp}(ho:Y47 op r)(ha:Y5N a)(hb:Yh b tb)(hm:Yc7 op b:=by exact nomark _):Yh (Ybm [op] [b] pos) (tOp r ta tb):=⟨aBV ho ha.p hb.p hm⟩
def eQ{op:CmpOp}(ho:Y47 op r)(ha:Y5N a)(hb:Yh b tb)(hm:Yc7 op b:=by exact nomark _):VG X (Ybm [op] [b] pos) (aCY (tOp r ta tb)):=⟨aBJ ho ha.p hb.p hm⟩
def sH(h:Yh e te)(he:∀whole,isTrue e X.env whole=(do let v <-whole;standAt e.pos;holding [v] (truthy v)):=by intro _;rfl):VG X e (tB te):=⟨aEP h.p he⟩
def AH(ha:VG X a tA):PWw X (Y6X [a]) tA:=⟨aBH ha.p⟩
def VR(ha:VG X a tA):PWw X (Y7w .Or [a]) tA:=⟨aEM ha.p⟩
def GI(ha:VG X a tA)(hb:PWw X (Y6X Y5Y) tB'):PWw X (Y6X (a::Y5Y)) (aGr tA tB'):=⟨aEN ha.p hb.p⟩
def aCV(ha:VG X a tA)(hb:PWw X (Y7w .Or Y5Y) tB'):PWw X (Y7w .Or (a::Y5Y)) (tOr tA tB'):=⟨aGE ha.p hb.p⟩
def SM(h:PWw X e tA):VG X e tA:=⟨h.p.pt⟩
def aDA{op}(h:Y5N a):Y5N (Y7w op [a]):=⟨aE4 h.p⟩
def aDB(ha:Y5N a)(hb:Yh (Y6X Y5Y) tb):Yh (Y6X (a::Y5Y)) (WX ta tb):=⟨aE7 ha.p hb.p⟩
def oM(hc:VG X c tA)(ha:Y5N a)(hb:Yh b tb):Yh (.IfExp c a b pos) (tIf tA ta tb):=⟨YM hc.p ha.p hb.p⟩
def Se{e:Expr}{es:Y0h}{env:Env}(h:Y3o (e::es)=(false,Y1Q e)::Y3R:=by first | exact oB | exact sU | exact SY | exact BX | exact MX | exact XM | exact se_Dict | exact sT | exact MY | exact mY | exact lS | exact gZ | exact se_List | exact XL | exact se_JoinedStr | exact se_GeneratorExp):Y3o (e::es)=(false,Y1Q e)::Y3R:=h
def aS:IZ X [] JG:=⟨pa_nil⟩
def bE(ha:Yh e te)(hr:IZ X es t)(hs:Y40=(false,Y1l)::Y39:=by exact Se):IZ X (e::es) (pE te t):=⟨aBY ha.p hr.p hs⟩
def fD{x1}(h:IZ X es t):Yh (.Tuple es x1 pos) (tTu t):=⟨by unfold tTu QG;exact aE3 h.p⟩
def iM(h:IZ X es t):Yh (.List es pos) (tLs t):=⟨by unfold tLs QH;exact aE5 h.p⟩
def nE:Yh (.Dict [] [] pos) WU:=⟨pe_dnewT⟩
def bQ(hr:IxR X r)(ha:Y5N a)(hb:Yh b tb)(hs:SF b:=by exact λ_ _=>rfl):Yh (Y7y a b) (tOp r ta tb):=⟨aGM hr ha.p hb.p hs⟩
def qY:POw X none PU:=⟨po_none⟩
def qW(h:Yh e te):POw X (Y7b) (aCZ te):=⟨aBN h.p⟩
def oK{lo hi:Yey}{tl th:TO}{r:V->Y1e->Y8T}(hr:SlR X r)(he:Yh e te)(hl:POw X lo tl)(hu:POw X hi th):Yh (Y7y e (.Slice lo hi none p2)) (tSl r te tl th):=⟨YL hr he.p hl.p hu.p⟩
def sJ(F:fQ dD X.prog X.w X.K X.mg X.base k x ps sp)(hr:Y57 k)(ha:IZ X (e::es) t)(hg:Y3h:=by rfl)
  (hdb:Y1L ("__debug__" : Str):=by decide) (he:Y40=(false,Y1l)::Y39:=by exact Se)
  (hpl:Yy ((backTo pos (starEach es X.env)).any (·.1)):=by repeat (first | exact pV | refine nB Se ?_)) :
  Y7U x p (e::es) [] (zN sp [] E0 t):=⟨aGN F hr ha.p hg hdb he hpl⟩
def gA{e1:Expr}{t1:TE}(F:fQ dD X.prog X.w X.K X.mg X.base k x ps sp)(h1:Yh e1 t1)(s1:Y2C e1=(false,Y0d e1)::Y1Y []:=by exact Se)(hr:Y57 k:=by exact iX.mono ‹_› Dd)(hg:Y3h:=by rfl)(hdb:Y1L ("__debug__" : Str):=by decide)(hpl:Yy ((backTo pos (starEach [] X.env)).any (·.1)):=by repeat (first | exact pV | refine nB Se ?_)):Y7U x p [e1] [] (zN sp [] E0 (pE t1 JG)):=sJ F hr (bE h1 aS s1) hg hdb s1 hpl
def cR{e1 e2:Expr}{t1 t2:TE}(F:fQ dD X.prog X.w X.K X.mg X.base k x ps sp)(h1:Yh e1 t1)(h2:Yh e2 t2)(s1:Y1Y [e1,e2]=(false,Y0d e1)::Y2C e2:=by exact Se)(s2:Y2C e2=(false,Y0d e2)::Y1Y []:=by exact Se)(hr:Y57 k:=by exact iX.mono ‹_› Dd)(hg:Y3h:=by rfl)(hdb:Y1L ("__debug__" : Str):=by decide)(hpl:Yy ((backTo pos (starEach [e2] X.env)).any (·.1)):=by repeat (first | exact pV | refine nB Se ?_)):Y7U x p [e1,e2] [] (zN sp [] E0 (pE t1 (pE t2 JG))):=sJ F hr (bE h1 (bE h2 aS s2) s1) hg hdb s1 hpl
def kP{e1 e2 e3:Expr}{t1 t2 t3:TE}(F:fQ dD X.prog X.w X.K X.mg X.base k x ps sp)(h1:Yh e1 t1)(h2:Yh e2 t2)(h3:Yh e3 t3)(s1:Y1Y [e1,e2,e3]=(false,Y0d e1)::Y1Y [e2,e3]:=by exact Se)(s2:Y1Y [e2,e3]=(false,Y0d e2)::Y2C e3:=by exact Se)(s3:Y2C e3=(false,Y0d e3)::Y1Y []:=by exact Se)(hr:Y57 k:=by exact iX.mono ‹_› Dd)(hg:Y3h:=by rfl)(hdb:Y1L ("__debug__" : Str):=by decide)(hpl:Yy ((backTo pos (starEach [e2,e3] X.env)).any (·.1)):=by repeat (first | exact pV | refine nB Se ?_)):Y7U x p [e1,e2,e3] [] (zN sp [] E0 (pE t1 (pE t2 (pE t3 JG)))):=sJ F hr (bE h1 (bE h2 (bE h3 aS s3) s2) s1) hg hdb s1 hpl
def WA{e1 e2 e3 e4:Expr}{t1 t2 t3 t4:TE}(F:fQ dD X.prog X.w X.K X.mg X.base k x ps sp)(h1:Yh e1 t1)(h2:Yh e2 t2)(h3:Yh e3 t3)(h4:Yh e4 t4)(s1:Y1Y [e1,e2,e3,e4]=(false,Y0d e1)::Y1Y [e2,e3,e4]:=by exact Se)(s2:Y1Y [e2,e3,e4]=(false,Y0d e2)::Y1Y [e3,e4]:=by exact Se)(s3:Y1Y [e3,e4]=(false,Y0d e3)::Y2C e4:=by exact Se)(s4:Y2C e4=(false,Y0d e4)::Y1Y []:=by exact Se)(hr:Y57 k:=by exact iX.mono ‹_› Dd)(hg:Y3h:=by rfl)(hdb:Y1L ("__debug__" : Str):=by decide)(hpl:Yy ((backTo pos (starEach [e2,e3,e4] X.env)).any (·.1)):=by repeat (first | exact pV | refine nB Se ?_)):Y7U x p [e1,e2,e3,e4] [] (zN sp [] E0 (pE t1 (pE t2 (pE t3 (pE t4 JG))))):=sJ F hr (bE h1 (bE h2 (bE h3 (bE h4 aS s4) s3) s2) s1) hg hdb s1 hpl
def jE(hc:Y4M X id rl)(hg:Y3h)(hm:Y6w=none)(hv:Y9u=Y8n id)(ha:IZ X (e::es) t)(hn:x ≠ "__name__" := by decide)(hdb:Y1L ("__debug__" : Str):=by decide)
  (he:Y40=(false,Y1l)::Y39:=by exact Se) (hpl:Yy ((backTo pos (starEach es X.env)).any (·.1)):=by repeat (first | exact pV | refine nB Se ?_)):Y7U x p (e::es) [] (tCB rl t) :=
 ⟨YQ hc hg hm hv ha.p hn hdb he hpl⟩
def iF(hc:Y9Q X T rl)(hg:Y3h)(hm:Y6w=none)(hv:Y9u=some (.type T))(ha:IZ X (e::es) t)(hn:x ≠ "__name__" := by decide)(hdb:Y1L ("__debug__" : Str):=by decide)
  (he:Y40=(false,Y1l)::Y39:=by exact Se) (hpl:Yy ((backTo pos (starEach es X.env)).any (·.1)):=by repeat (first | exact pV | refine nB Se ?_)):Y7U x p (e::es) [] (tCB rl t) :=
 ⟨TM hc hg hm hv ha.p hn hdb he hpl⟩
def rZ{name:Str}{apos cpos:Pos}{r:V->Y1x}(pa:PlainAttrs T)(slot:Slot T name id)(hty:typeOf (.builtin id)=pure (.type "method_descriptor"))(hm:MtR X id r)(ho:Yh o to)(ha:IZ X (e::es) t)
  (hbase:attributeBase o name X.env (Y0d o)=Y0d o:=by rfl)
  (hfew:((backTo cpos (starEach (e::es) X.env)).all (λx=>! x.1)&&(backToKw cpos (keywordEach [] X.env)).all (λx=>x.1.isSome)
   && Y22 ((e::es).length+([]:List Keyword).length+(if([]:List Keyword).isEmpty then 0 else 1)) 30)=true:=by rfl)
  (hline:(YaJ)=true:=by rfl) (hs:Y40=(false,Y1l)::Y39:=by exact Se) (hplain:Yy ((backTo cpos (starEach es X.env)).any (·.1)):=by repeat (first | exact pV | refine nB Se ?_)) :
  Yh (Y92 name (e::es) [] cpos) (tBM X.K T r to t):=⟨aGO pa slot hty hm ho.p ha.p hbase hfew hline hs hplain⟩
def fR:EE X [] aC0:=⟨pss_nil⟩
def aH(h1:IY X st ts)(h2:EE X sts us):EE X (st::sts) (aBh ts us):=⟨YC h1.p h2.p⟩
def aV(h1:IY X st ts):EE X [st] ts:=⟨aBK h1.p⟩
def kW(he:Yh e te)(hs:YeX e none pos.line=Y4Q:=by rfl):IY X (.Expr e pos) (aC3 te):=⟨aBL he.p hs⟩
def cH(he:Yh e te):IY X (.Return (Y7b) pos) (aGj te):=⟨aER he.p⟩
def iR{c:Expr}{a b:Y5z}(hc:VG X c tA)(ha:EE X a ts)(hb:EE X b us):IY X (.If c a b pos) (aGl tA ts us):=⟨aGF hc.p ha.p hb.p⟩
def MH(h:IY X st ts):IY X st (aGp ts):=⟨aEV h.p⟩
def dH{i:Nat}{x:Str}(hN:X.N.Nodup)(hi:Y3E=Y7)(hx:Y9t x)(hf:Y84=true\/Y6q x:=by first | exact .inl rfl | exact .inr rfl | assumption):PGw X (Y7Y) (nO i):=⟨HJ hN hi hx hf⟩
def kD:aCQ X [] aFw:=⟨pgs_nil⟩
def eK{t:TG}{u:TGs}(h1:PGw X e t)(h2:aCQ X es u)
  (hs:(assignEach (e::es) X.env).map (·.2)=Ycp e::(assignEach es X.env).map (·.2):=by rfl):aCQ X (e::es) (ZS t u):=⟨YK h1.p h2.p hs⟩
def mJ{k:Nat}{t:TGs}{n:Nat}(hc:Y1t)(h:aCQ X es t)
  (hn:(assignEach es X.env).length=n:=by rfl) (hst:(assignEach es X.env).findIdx? (·.1)=none:=by rfl):PGw X (.Tuple es k pos) (aFv X.K n t):=⟨aE0 hc h.p hn hst⟩
def BN{i:Expr}{ti:TE}{t:aCN}(ho:Yh o to)(hi:Yh i ti)(hs:aFT X t)
  (ha:∀v,assign (.Subscript o i pos) X.env v=(do
   let ov <-holding [v] (eval o X.env)
   let iv <-holding [v,ov] (eval i X.env)
   standAt pos
   holding [v,ov,iv] (setItem ov iv v)
   release [v,ov,iv] []):=by intro _;rfl):PGw X (Y7y o i) (aGY to ti t):=⟨aE1 ho.p hi.p hs ha⟩
def GK{g:TG}(he:Yh e te)(hg:PGw X tg g)(hs:Ydy [tg] e X.env=Y4Q:=by rfl)(hw:YdE [tg] e=pure none:=by rfl)(h1:(assignEach [tg] X.env).map (·.2)=[Ycp tg]:=by rfl):IY X (Y65 [tg] e) (GU te g):=⟨aEW he.p hg.p hs hw h1⟩
def jU{i:Nat}{pos':Pos}(hN:X.N.Nodup)(hi:Y3E=Y7)(hx:Y9t x)(he:Yh e te)(hs:Y9N e Ybw=Y4Q:=by rfl)(hf:Y84=true\/Y6q x:=by first | exact .inl rfl | exact .inr rfl | assumption) :
  IY X (Y65 [Ybw] e) (GU te (nO i)):=⟨aEQ hN hi hx he.p hs hf⟩
def cM{i:Nat}{pos':Pos}(hN:X.N.Nodup)(he:Yh e te)(hi:Y3E=Y7:=by rfl)(hx:Y9t x:=by exact Or.inl rfl)(hs:Y9N e Ybw=Y4Q:=by rfl)(hf:Y84=true\/Y6q x:=by first | exact .inl rfl | exact .inr rfl | assumption) :
  IY X (Y65 [Ybw] e) (GU te (nO i)):=jU hN hi hx he hs hf
def aDv{i j:Nat}{x y:Str}{ta:TA}{px py pt:Pos}{kt k2 pt2}(hc:Y1t)(hN:X.N.Nodup)(hi:Y3E=Y7)(hj:X.N[j]?=Y0b)(hij:i≠j)
  (hx:Y6q x) (hy:Y6q y) (ha:IZ X [a,b] ta)
  (hw:YdE [Y3N [Y3S,Y4x] kt] (Ybh [a,b] k2)=pure (some [x,y]))
  (hs:Ydy [Y3N [Y3S,Y4x] kt] (Ybh [a,b] k2) X.env=Y4Q:=by rfl) :
  IY X (Y65 [Y3N [Y3S,Y4x] kt] (Ybh [a,b] k2)) (aGk i j ta):=⟨aES hc hN hi hj hij hx hy ha.p hw hs⟩
def vW{c:Expr}{tc:TT}{tb:TS}(hp:Ych Y8S X.A X.xe)(hc:VG X c tc)(hb:EE X body tb):IY X (.While c body [] pos) (GT (uY tc) tb):=⟨TH hp hc.p hb.p⟩
def dJ{l:Expr}{tl:TE}(hl:Yh l tl):OP X tg l (ZL X.K tl):=⟨aBP hl.p⟩
def xZ{l:Expr}{tl:TE}(hl:Yh l tl):OP X tg l (aGW X.K tl):=⟨aEZ hl.p⟩
def fL{a:Expr}{ta:TA}{p pos:Pos}(hg:Gl X "range")(hm:X.mg "range" = none)(ha:IZ X [a] ta)(hs:Y2C a=[(false,Y0d a)]:=by exact Se):OP X tg (Y4h "range" p [a] []) (aDg ta):=⟨TL hg hm ha.p hs⟩
def SO{a b:Expr}{ta:TA}{p pos:Pos}(hg:Gl X "range")(hm:X.mg "range" = none)(ha:IZ X [a,b] ta)(hs:Y1Y [a,b]=[(false,Y0d a),(false,Y0d b)]:=by rfl)(hs2:Y2C b=[(false,Y0d b)]:=by exact Se) :
  OP X tg (Y4h "range" p [a,b] []) (aDf ta):=⟨TK hg hm ha.p hs hs2⟩
def gH{iter:Expr}{wi:TI}{g:TG}{tb:TS}{pos:Pos}(hp:Ych Y8S X.A X.xe)(hc:Y1t)(hi:OP X tg iter wi)(hg:PGw X tg g)(hb:EE X body tb)
  (hs:∀x,Y6W x=Y7e:=by intro _;rfl):IY X (.For tg iter body [] pos) (aGm wi g tb):=⟨aET hp hc hi.p hg.p hb.p hs⟩
end
def iQ.okw{P:Program}{w:World}{K:Aa}{mg:Y0G}{base:Heap}{x qual:Str}{st:Stmt}{f:Addr}{fd:FuncData}{N ps:Ah}{k:Nat}{sp:Sp}(F:Ye x qual st)(S:Yj N ps st)(len:∀vs H Q E,sp vs H Q E->YaI)
  (hbody:∀(cdv:Value) (A:Around) (outer:Y3t) (s:Shared) (H:Hp) (vs:Al) (Q:VK) (E:XK),iX k (Ycl (bC st) f cdv)->sp vs H Q E ->
   ∃t,EE (LB dD P w K mg base N qual (bC st) f cdv A outer s H E).nox (kJ st) t/\t { nx:=λ_ H'=>Q .non H',rt:=Q } (YbE N) H):dW P w K mg base dD (k+1) f fd ps sp :=
 F.ok S len λcdv A outer s H vs Q E d h=>by
  obtain⟨t,c,a⟩:=hbody cdv A outer s H vs Q E d h;exact⟨t,c.p,a⟩
def iQ.oky{P:Program}{w:World}{K:Aa}{mg:Y0G}{base:Heap}{x qual:Str}{st:Stmt}{f:Addr}{fd:FuncData}{N ps:Ah}{k:Nat}{sp:Sp}(F:Ye x qual st)(S:Yj N ps st)
  (h:∀(vs:Al) (H:Hp) (Q:VK) (E:XK),sp vs H Q E->YaI/\∀(cdv:Value) (A:Around) (outer:Y3t) (s:Shared),iX k (A.deeper (envOfC qual (bC st) s.heap.objs.size f cdv)) ->
   let X:=(LB dD P w K mg base N qual (bC st) f cdv A outer s H E).nox;∃t,EE X (kJ st) t/\t { nx:=λ_ H'=>Q .non H',rt:=Q } (start N vs) H):dW P w K mg base dD (k+1) f fd ps sp :=
 F.okw S (λvs H Q E q=>(h vs H Q E q).1) λcdv A outer s H vs Q E a q=>(h vs H Q E q).2 cdv A outer s a
def KN(a b:Int):(Int.gcd b (a % b))=(Int.gcd a b):=by
 have h:=Int.gcd_add_mul_right_right b (a % b) (a/b);rw[show a % b+a/b*b=a from by have:=Int.emod_add_mul_ediv a b;rw[Int.mul_comm];exact this]at h;rw[<-h,Int.gcd_comm]
def RC{a:Int}(h:0<a):(Int.gcd a 0:Int)=a:=by rw[Int.gcd_zero_right];exact Oo
section
variable{H:Hp}{x:V}{d:PyData}{Q:VK}
end
theorem bD.len{H:Hp}:∀{ds:Y1f}{vs:Al},Y7h->Y4O ds.length
 | [],_,h=>by cases(show _=[]from h);rfl
 | d::ds,_,h=>by
  unfold bD at h;obtain⟨x,xs,rfl,_,h2⟩:=h;simp[bD.len h2]
section
variable{p:Addr}{σ:St}{t:TE}{ta:TA}{d:PyData}{ds:Y1f}
end
def aCM{α:Type}{xs:Yu}{x:Int}(h0:0<=x)(h1:Y9j x):∃v,ED xs x=Yw/\v∈xs/\Y28 x.toNat=Yw:=by
 have h:Y9j x.toNat:=Oo;have e:=aB h;have:=dB e;rw[Int.toNat_of_nonneg h0]at this;exact⟨_,this,List.getElem_mem h,e⟩
theorem bD.append{H:Hp}{es:Y1f}{ws:Al}(h':Y1n es ws):∀{ds:Y1f}{vs:Al},Y7h->Y1n (ds++es) (vs++ws)
 | [],_,h=>by cases(show _=[]from h);exact h'
 | d::ds,_,h=>by
  unfold bD at h;obtain⟨x,xs,rfl,h1,h2⟩:=h;exact bD.cons h1 (bD.append h' h2)
end L2
namespace L2
end L2
namespace L2
open PySem PySem.Spec PyProof.Rows
def aT.thru{l:Addr}{H0 H1 H2:Hp}(hl:H0 l=none)(s:aT H0 H1)(b:aW l H1 H2):aT H0 H2:=λc o e=>by
 have n:c≠l:=dS e hl;exact b.at n (s _ _ e)
def OF{H:Hp}{l b:Addr}{xs zs:Al}{Q:VK}(h1:H l=Y0I)(h2:H b=Yc zs)(hz:Yec<=1000)(k:∀q H',H q=none->H' q=Yc (xs++zs)->Y0->Y0r q):aGD (Y1j) (Y0e) H Q :=
 ⟨l,b,xs,zs,rfl,rfl,h1,h2,Nat.le_of_lt (yE hz),λq a=>k q _ a bH (aT.upd a)⟩
@[irreducible] def aBE:V->Y1x:=QM
def sY{X:Cx}:MtR X "list.append" aBE:=by unfold aBE;exact FE
def LW{H:Hp}{l:Addr}{xs:Al}{y:V}{Q:VK}(h:H l=Y0I)(hz:Y4R 1000)(k:∀H',H' l=Yc (xs++[y])->Y6M l->Ybz):aBE (Y1j) [y] H Q:=by
 unfold aBE;exact Y1B l xs y rfl h (yE hz) (k _ bH aW.self)
def VL{K:Aa}{H:Hp}{l:Addr}{xs:Al}(h:H l=Y0I):tyV K "list" (Y1j) H:=.inl ⟨rfl,xs,Y8Q⟩
inductive Ex1 {A0:Sort _} (p:Y1c A0):Prop | mk (a0:A0) (h:p a0)
inductive Ex2 {A0 A1:Sort _} (p:Y0u A0 A1):Prop | mk (a0:A0) (a1:A1) (h:p a0 a1)
inductive Ex3 {A0 A1 A2:Sort _} (p:A0->Y0u A1 A2):Prop | mk (a0:A0) (a1:A1) (a2:A2) (h:p a0 a1 a2)
inductive Ex4 {A0 A1 A2 A3:Sort _} (p:A0->A1->Y0u A2 A3):Prop | mk (a0:A0) (a1:A1) (a2:A2) (a3:A3) (h:p a0 a1 a2 a3)
inductive Ex5 {A0 A1 A2 A3 A4:Sort _} (p:A0->A1->A2->Y0u A3 A4):Prop | mk (a0:A0) (a1:A1) (a2:A2) (a3:A3) (a4:A4) (h:p a0 a1 a2 a3 a4)
inductive Ex6 {A0 A1 A2 A3 A4 A5:Sort _} (p:A0->A1->A2->A3->Y0u A4 A5):Prop | mk (a0:A0) (a1:A1) (a2:A2) (a3:A3) (a4:A4) (a5:A5) (h:p a0 a1 a2 a3 a4 a5)
inductive Ex7 {A0 A1 A2 A3 A4 A5 A6:Sort _} (p:A0->A1->A2->A3->A4->Y0u A5 A6):Prop | mk (a0:A0) (a1:A1) (a2:A2) (a3:A3) (a4:A4) (a5:A5) (a6:A6) (h:p a0 a1 a2 a3 a4 a5 a6)
inductive An2 (A0 A1:Prop):Prop | mk (h0:A0) (h1:A1)
inductive An3 (A0 A1 A2:Prop):Prop | mk (h0:A0) (h1:A1) (h2:A2)
inductive An4 (A0 A1 A2 A3:Prop):Prop | mk (h0:A0) (h1:A1) (h2:A2) (h3:A3)
inductive An5 (A0 A1 A2 A3 A4:Prop):Prop | mk (h0:A0) (h1:A1) (h2:A2) (h3:A3) (h4:A4)
inductive An6 (A0 A1 A2 A3 A4 A5:Prop):Prop | mk (h0:A0) (h1:A1) (h2:A2) (h3:A3) (h4:A4) (h5:A5)
inductive An7 (A0 A1 A2 A3 A4 A5 A6:Prop):Prop | mk (h0:A0) (h1:A1) (h2:A2) (h3:A3) (h4:A4) (h5:A5) (h6:A6)
inductive An8 (A0 A1 A2 A3 A4 A5 A6 A7:Prop):Prop | mk (h0:A0) (h1:A1) (h2:A2) (h3:A3) (h4:A4) (h5:A5) (h6:A6) (h7:A7)
inductive An9 (A0 A1 A2 A3 A4 A5 A6 A7 A8:Prop):Prop | mk (h0:A0) (h1:A1) (h2:A2) (h3:A3) (h4:A4) (h5:A5) (h6:A6) (h7:A7) (h8:A8)
inductive aJL (A0 A1 A2 A3 A4 A5 A6 A7 A8 A9:Prop):Prop | mk (h0:A0) (h1:A1) (h2:A2) (h3:A3) (h4:A4) (h5:A5) (h6:A6) (h7:A7) (h8:A8) (h9:A9)
def fI{t u:TS}{D:pW}{σ:St}{H:Hp}(h:let D':=D;let N:=u D';t { D' with nx:=N } σ H):aBh t u D σ H:=h
def lB{N b c:Y2J}{r:VK}{σ:St}{H:Hp}{i:Nat}{v:V}(h:N (Ycm i) H):nO i v σ H (pW.mk N r b c).nx:=h
def GW{N:Y2J}{σ:St}{H:Hp}{i:Nat}{v:V}(h:N (Ycm i) H):nO i v σ H N:=h
def PZ{N b c:Y2J}{r:VK}{σ:St}{H:Hp}(h:N σ H):(pW.mk N r b c).nx σ H:=h
def wJ{t:TS}{D:pW}{σ:St}{H:Hp}(h:let D':=D;t D' σ H):t D σ H:=h
def qO(env:Env):Y6I->Y3u->Y3u
 | [],cs=>cs
 | (n,k)::r,cs=>if k == .free then qO env r ((n,(env.cells.lookup n).getD 0)::cs) else qO env r cs
theorem RW(env:Env):∀(l:Y6I) (cs:Y3u),(∀y∈l,y.2=.free->∃c,Yck y.1 Y1h) ->
  (forIn l cs λ(x:Str × NameKind) r=>if x.2 == .free then(do let c <-cellOf env x.1;pure (ForInStep.yield ((x.1,c)::r)):Sem _) else pure (ForInStep.yield r))=pure (qO env l cs)
 | [],cs,_=>rfl
 | (n,k)::r,cs,h=>by
  rw[List.forIn_cons];have ih:=λcs=>RW env r cs λy d=>h y (bG _ d);by_cases hk:(k == NameKind.free)=true
  ·obtain⟨c,a⟩:=h (n,k) aY (by simpa using hk);dsimp only at a;simp only[hk,if_true,qO,a,Option.getD_some,cellOf,pure_bind];exact ih _
  ·simp only[hk,qO,pure_bind];exact ih _
def vE{env:Env}{scope:Scope}(h:∀y∈scope.names,y.2=.free->∃c,Yck y.1 Y1h):closureFor scope env=pure (qO env scope.names []):=by
 have e:=RW env scope.names [] h;unfold closureFor;simp only[bind_pure];exact e
theorem yX{env:Env}:∀(l:Y6I) (cs:Y3u),(∀y∈l,y.2=.free->∃c,Yck y.1 Y1h)->∀p∈qO env l cs,p∈cs\/Yck p.1 (some p.2)
 | [],cs,_,p,hp=>.inl hp
 | (n,k)::r,cs,h,p,hp=>by
  have h':∀y∈r,y.2=.free->∃c,env.cells.lookup y.1=some c:=λy e=>h y (bG _ e);unfold qO at hp;by_cases hk:(k == NameKind.free)=true
  ·rw[if_pos hk]at hp;obtain⟨c,d⟩:=h (n,k) aY (by simpa using hk);rcases yX r _ h' p hp with a | a
   ·rcases bN.mp a with rfl | a
    ·exact .inr (by dsimp only at d ⊢;rw[d];rfl)
    ·exact .inl a
   ·exact .inr a
  ·rw[if_neg hk]at hp;exact yX r cs h' p hp
theorem yZ{env:Env}:∀(l:Y6I) (cs:Y3u),∀p∈cs,p∈qO env l cs
 | [],_,_,hp=>hp
 | (n,k)::r,cs,p,hp=>by
  unfold qO;by_cases hk:(k == NameKind.free)=true
  ·rw[if_pos hk];exact yZ r _ p (bG _ hp)
  ·rw[if_neg hk];exact yZ r _ p hp
theorem yY{env:Env}:∀(l:Y6I) (cs:Y3u) (y:Str),(y,NameKind.free)∈l->∃a,(y,a)∈qO env l cs
 | (n,k)::r,cs,y,hy=>by
  unfold qO;rcases bN.mp hy with e | hm
  ·cases e;rw[if_pos (by rfl)];exact⟨_,yZ r _ _ aY⟩
  ·by_cases hk:(k == NameKind.free)=true
   ·rw[if_pos hk];exact yY r _ y hm
   ·rw[if_neg hk];exact yY r _ y hm
theorem rO{α β:Type}[BEq α][LawfulBEq α]{x:α}{c:β}:∀{l:Y3l α β},l.lookup x=Y1h->(x,c)∈l
 | [],h=>by cases h
 | (a,b)::r,h=>by
  rw[List.lookup_cons]at h;by_cases e:(x == a)=true
  ·rw[e]at h;have:x=a:=by simpa using e
   subst this;cases h;exact aY
  ·have d:(x == a)=false:=by simpa using e
   rw[d]at h;exact bG _ (rO h)
theorem rN{α β:Type}[BEq α][LawfulBEq α]{x:α}{c:β}:∀{l:Y3l α β},(x,c)∈l->∃c',l.lookup x=some c'
 | (a,b)::r,h=>by
  rw[List.lookup_cons];by_cases e:(x == a)=true
  ·rw[e];exact⟨_,rfl⟩
  ·have e':(x == a)=false:=by simpa using e
   rw[e'];rcases bN.mp h with q | q
   ·cases q;simp at e
   ·exact rN q
def DM(X:Cx)(scope:Scope):Y3u:=qO X.env scope.names []
def jM{X:Cx}{scope:Scope}(h:∀y∈scope.names,y.2=.free->Yd5 y.1){x:Str}{c:Addr}(e:(DM X scope).lookup x=Y1h):Y3Z:=by
 rcases yX scope.names [] h _ (rO e)with a | a
 ·cases a
 ·exact a
def tL{X:Cx}{scope:Scope}(h:∀y∈scope.names,y.2=.free->Yd5 y.1){x:Str}(hx:Y9x (x,NameKind.free)){c:Addr}(e:Y3Z):(DM X scope).lookup x=Y1h:=by
 obtain⟨a,g⟩:=yY (env:=X.env) scope.names [] x hx;obtain⟨i,d⟩:=rN g;have:=jM h d;rw[e]at this;cases this;exact d
def IW(X:Cx)(scope:Scope)(C:Addr)(fp:Y0v)(s₀:Shared)(H₀:Hp)(N':Ah):Cx where
 prog:=X.prog
 w:=X.w
 K:=X.K
 mg:=X.mg
 base:=X.base
 A:=X.A
 N:=N'
 s₀:=s₀
 H₀:=H₀
 env:=compEnvC scope (Y8N X) C X.env
 outer:=X.stack
 stack:=X.stack
 ex:=fp
 fn:=YeA
 calm:=true
 pn:=[]
 xe:=Ycg
def slots(σ:St)(js:Ae):St:=js.map λj=>(σ[j]?).getD none
def PTs(X:Cx)(ifs:Y0h)(t:TT):Prop :=
 ∀(pins:Ad) (s:Shared) (σ:St) (H:Hp) (Q:Ybv),Y6->t σ H Q ->
  Y55 (forIn ifs true λc r=>if r=true then do let ok <-isTrue c X.env (eval c X.env);pure (ForInStep.yield ok) else pure (ForInStep.yield r)) (TP X pins σ Q)
def BQ:TT:=λ_ H Q=>Q true H
def pts_nil{X:Cx}:PTs X [] BQ:=λa s σ H Q I h=>wpAny_tests_nil ⟨H,I,h⟩
def aBI{X:Cx}{c:Expr}{t:TT}(h:PT X c t):PTs X [c] t:=λa s σ H Q I q=>wpAny_tests_one (h a s σ H Q I q)
structure eG(X:Cx)(scope:Scope)(xs:Ah)(N':Ah)(js:Ae):Prop where
 calm:Y1t
 free:∀y∈scope.names,y.2=.free->Y6N y.1 Y2g
 cell:∀y∈scope.names,y.2 ≠ .cell
 kind:Yg7
 names:∀y∈scope.names,y.2=.local->Y80 y.1
 own:∀x∈xs,Y80 x
 nofl:∀y,Y9x (y,NameKind.free)->Y80 y->False
 len:N'.length=Y6L js.length
 pre:∀(i:Nat) x,Y0p=Y7->N'[i]?=Y7
 nd:N'.Nodup
 slot:∀(i:Nat) (j:Nat),js[i]?=Y6u->∃y,N'[Y6L i]?=Y0b/\X.N[j]?=Y0b/\Y9x (y,NameKind.free)
abbrev dG(X:Cx)(scope:Scope)(x:Str)(N':Ah)(js:Ae):Prop:=Y4E [x]
def FS(X:Cx)(scope:Scope)(cl:Y3u)(φ:Y1V Str)(C:Addr)(fp:Y0v)(s₀:Shared)(H₀:Hp)(N':Ah):Cx:={ IW X scope C fp s₀ H₀ N' with env:=compEnvC scope cl C X.env,fn:=φ }
section
variable{X:Cx}{pins:Ad}{σ:St}{H:Hp}{s:Shared}{scope:Scope}{xs:Ah}{N':Ah}{js:Ae}{fp:Y0v}
theorem pQ{env:Env}:∀{names:Y6I}{y:Str}{k:NameKind},(names.map λ(n,k)=>if(k == NameKind.free&&env.scope.kind == .function&&env.kindOf n == some .cell) then(n,NameKind.cell) else(n,k)).lookup y=some k ->
  (k=.cell\/k=.free)->(∀z∈names,z.2 ≠ .cell)->(y,NameKind.free)∈names
 | [],_,_,h,_,_=>by cases h
 | (n,q)::r,y,k,h,hk,hc=>by
  rw[bA,List.lookup_cons]at h;have ih:=λh=>@pQ env r y k h hk λz g=>hc z (bG _ g);by_cases hq:(q == NameKind.free&&env.scope.kind == .function&&env.kindOf n == some .cell)=true
  ·dsimp only at h;rw[if_pos hq]at h;have d:q=.free:=by
    rw[eB,eB]at hq;simpa using hq.1.1
   subst d;by_cases e:(y == n)=true
   ·have:y=n:=by simpa using e
    subst this;exact aY
   ·have c:(y == n)=false:=by simpa using e
    dsimp only at h;rw[c]at h;exact bG _ (ih h)
  ·dsimp only at h;rw[if_neg hq]at h;by_cases e:(y == n)=true
   ·have:y=n:=by simpa using e
    subst this;dsimp only at h;rw[e]at h;have a:k=q:=by injection h with h;exact h.symm
    subst a;rcases hk with rfl | rfl
    ·exact absurd rfl (hc _ aY)
    ·exact aY
   ·have c:(y == n)=false:=by simpa using e
    dsimp only at h;rw[c]at h;exact bG _ (ih h)
theorem eG.cells(S:Y4E xs)(ok:X.Ok):∀y∈scope.names,y.2=.free->Yd5 y.1:=λy d a=>ok.has _ (.inl (S.free y d a))
def aCn(S:Y4E xs)(I:Y6)(hf:∀b∈fp,Y45 H)(hb:∀b∈fp,Y4H b):(IW X scope s.heap.objs.size fp s H N').Ok where
 mod:=I.ok.mod
 kind:=S.kind
 glob:=I.ok.glob
 blt:=I.ok.blt
 above:=Yl
 inj:=λy z c j d=>I.ok.inj y z c (Y6i j) (Y6i d)
 has:=λy g=>by
  have i:Y9x (y,NameKind.free):=by
   rcases g with g | g
   ·exact pQ (env:=X.env) g (Y4I) S.cell
   ·exact pQ (env:=X.env) g (Y8J) S.cell
  obtain⟨c,m⟩:=S.cells I.ok _ i rfl;exact⟨c,tL (Yak) i m⟩
 cab:=λ_ _ h=>by cases h
 hd:=λ_=>I.ok.hd S.calm
 frames:=I.ok.frames
 stk:=Y4I
 exf:=λb a=>⟨λe=>by have:=hb b a;rw[e]at this;exact Y5W,λy c h=>(hf b a).2.2.2.2.1 y c (Y6i h)⟩
 bs:=I.bs
 bsz:=YcB I.sz
 noex:=λb o e a=>by
  rcases(hf b a).2.2.2.1 with h | h
  ·exact I.ok.noex b o e h
  ·exact absurd (aR (bK e) (YcB h)) (cO _)
 exfs:=λb a l=>by
  have d:=I.stkSub b l;rcases bN.mp d with d | d
  ·exact(hf b a).2.1 d
  ·exact(hf b a).2.2.1 d
 funs:=I.stack
 frf:=I.stkFree
def EW{i j:Nat}(h:js[i]?=Y6u):(Y11)[i]?=some ((σ[j]?).getD none):=by
 unfold slots;rw[aE,h];rfl
def aAc{h':Heap}{tk:Nat}(S:Y4E xs)(I:Y6)(hf:∀b∈fp,Y45 H)(hb:∀b∈fp,Y4H b)
  (hn:h'.Ns s.heap.objs.size (Y9H)) (hk:∀b o,Y26->Y14=Y9):cY (IW X scope s.heap.objs.size fp s H N') [] (YfB xs.length++Y11) H { s with heap:=h',toks:=tk } where
 ok:=aCn S I hf hb
 os:=rfl
 bare:=I.bare
 base:=Un.kept hk
 loc:=by
  refine Y0J hn (λi y v β D a=>?_);by_cases hlt0:Y5f
  ·rw[cJ (by rw[bV];exact hlt0),List.getElem?_replicate,if_pos hlt0]at D;cases D
  ·obtain⟨i,rfl⟩:∃k,i=Y6L k:=Y2Q (i-xs.length);rw[cB (by rw[bV];exact Oo),bV,Nat.add_sub_cancel_left]at D;have d:(Y11)[i]?=YaX:=D;have N:i<js.length:=by
    have:=(aC.mp d).1;unfold slots at this
    rwa [aA]at this
   have O:js[i]?=some js[i]:=aB N;obtain⟨z,T,W,G⟩:=S.slot i _ O;have M:z=y:=by
    have:N'[Y6L i]?=Y0b:=β;rw[T]at this;cases this;rfl
   subst M;rw[EW O]at d;have α:σ[js[i]]?=YaX:=by
    cases q:σ[js[i]]? with
    | none=>rw[q]at d;cases d
    | some o=>rw[q]at d;cases d;rfl
   have B:Y6N z Y2g:=S.free _ G rfl;obtain⟨m,δ,Z⟩:=I.loc;obtain⟨u,ru,R⟩:=Z _ z v W α (YaV B);rcases R with⟨A,_⟩ | ⟨_,c,U,g⟩
   ·rw[B]at A;cases A
   ·refine⟨u,ru,.inr (Y2X ?_ c (tL (Yak) G U))⟩
    ·rcases a with a | a | a
     ·exfalso;have w:=rO (l:=(relabel scope X.env).names) a;unfold relabel at w;obtain⟨⟨n,k⟩,C,j⟩:=aN.mp w;dsimp only at j;by_cases hq:(k == NameKind.free&&YdB .function&&X.env.kindOf n == Y2g)=true
      ·rw[if_pos hq]at j;cases j
      ·rw[if_neg hq]at j;cases j;have:=S.names _ C rfl;have J:=rN G;obtain⟨γ,J⟩:=J;dsimp only at this;rw[this]at J;have L:Y80 z:=this;exact S.nofl z G L
     ·exact .inl a
     ·exact .inr a
    ·obtain⟨o,e,r⟩:=g;exact Y1v (hk _ _ e) r
 cell:=λy c h=>by
  obtain⟨v,o,e,r⟩:=Y7W y (Y6i h);exact⟨v,o,hk _ _ e,r⟩
 free:=Y5T
 freeC:=λy c h=>Y9X y (Y6i h)
 pin:=λp P=>by cases P
 hok:=I.hok.kept hk
 len:=by
  rw[aU,bV];unfold slots;rw[aA];exact S.len.symm
def sC.but{P:Program}{w:World}{H:Hp}{h h':Heap}{C:Addr}(x:sC P w H h)(hC:H C=none)(k:∀b u,b≠C->Y20=Ym->Y14=Ym):sC P w H h':=λa o e =>
 (x a o e).stay (λb u c q=>k b u (by
  rcases c with rfl | c
  ·exact dS e hC
  ·exact dS c hC) q) (YcU) Y9B
def RT{cl:Y3u}{φ:Y1V Str}{H2:Hp}{σ':St}{s2:Shared}{h'':Heap}(I:Y6)(hf:∀b∈fp,Y45 H)
  (J:cY (Y3O X cl φ s.heap.objs.size fp s H N') [] σ' H2 s2) (hs:Heap.SameBut s.heap.objs.size s2.heap h''):Y2Z H2 ({ s2 with heap:=h'' }):=by
 have h:H2 s.heap.objs.size=none:=J.free;have ne:∀{b:Addr} {o:Obj},Y26->Yc4 b:=λe q=>by
  have:=bK e;rw[q]at this;exact Y5W
 refine I.call' (s':={ s2 with heap:=h'' }) (ch:=fp) (by rw[show({ s2 with heap:=h'' }:Shared).os=s2.os from rfl];exact J.os) ?_ (J.hok.but h λb u a q=>hs.extBut b u a q) J.bare λb a=>⟨(hf b a).2.2.2.1,(hf b a).2.1,(hf b a).2.2.2.2.1,(hf b a).2.2.2.2.2⟩;have U:=J.base;exact {
  keep:=λb o e n d c=>hs.extBut b o (ne e) (U.keep b o e n d c)
  slot:=λb o e n d c=>by
   obtain⟨sl,q⟩:=U.slot b o e n d c;exact⟨sl,hs.extBut b _ (ne e) q⟩
  free:=U.free
  there:=λb o e c=>by
   obtain⟨g,q⟩:=U.there b o e c;exact⟨g,hs.extBut b _ (ne e) q⟩
  tups:=U.tups
  frzs:=U.frzs
  tbls:=U.tbls }
end
abbrev NoX:Ya:=Ycg
def IJ{prog:Program}{w:World}{A:Around}{R:Y9I}{s:Shared}{elt target iter:Expr}{ifs:Y0h}{scope:Scope}{pos:Pos}{it acc:Value}{env:Env}(I:Y1F (Y1c Shared))
  (turn:∀n s,I n s->wpAny (model prog w) A (pyNext it) (λr s₁=>match r with
   | none=>R (.ok .next) s₁
   | some v=>wpAny (model prog w) A (letOwnedTupleGo target it v) (λ_ s₁'=>wpAny (model prog w) A (assign target env v) (λ_ s₂ =>
     wpAny (model prog w) A (forIn ifs true λc r=>if r=true then do let ok <-isTrue c env (eval c env);pure (ForInStep.yield ok) else pure (ForInStep.yield r)) (λok s₃ =>
      if ok=true then wpAny (model prog w) A (eval elt env) (λx s₄=>wpAny (model prog w) A (call (.builtin "list.append") [acc,x]) (λ_ s₅=>∃m,m<n/\I m s₅) NoX s₄) NoX s₃
      else ∃m,m<n/\I m s₃) NoX s₂) NoX s₁') NoX s₁) NoX s)
  (n:Nat) (h:I n s):Y5o prog w A (.compLoop (Y4n [Y4D target]) 0 it acc env) R s:=by
 refine codeAny_loop rfl I (λn s j=>?_) n h;show wpAny _ A ((compTurn (.ListComp elt [⟨target,iter,ifs,0⟩] scope pos) 0 it acc env).onRaise (λx=>do noteFrame x env;theTreesLotGoes x)) _ _ s;refine wpAny_noted ?_;rw[compTurn_list];refine Ydj (Y9i (turn n s j) (λr s₁ e=>?_) Yax);cases r with
 | none=>exact wpAny_pure e
 | some v =>
  refine Y9i e (λ_ s₁' d=>?_) Yax;refine Y9i d (λ_ s₂ p=>Y9i p (λok s₃ g=>?_) Yax) Yax;cases ok with
  | false=>exact wpAny_pure (Y0O g)
  | true =>
   exact YbP (wpAny_mono g (λx s₄ i=>Y9i i (λ_ s₅ l=>wpAny_pure (wpAny_pure (Y0O l))) Yax) Yax)
def LY(GX:V->Y5n Al)(J:It)(σ:St)(js:Ae)(tc:TT)(te:TE)(H:Hp)(Q:VK):Prop:=∀D,H D=none->∃W:Nat->Nat->Al->Hp->Prop,(Y7j 0 m [] (Y2s H D [])) /\
 ∀i m ys H2,W i m ys H2->H2 D=Y0w/\((J.stop i H2/\Y1d D H2)\/(Y8c H2/\YaY ys.length/\∀x H3,Y8a H2 x H3->∃vs,GX x H3 vs /\
  tc (Y6t) H3 λb H4=>if b=true then te (Y6t) H4 λy H5=>H5 D=Y0w/\∃m',m' < m/\W (i+1) m' (ys++[y]) (Y2s H5 D (ys++[y]))
   else H4 D=Y0w/\∃m',m' < m/\W (i+1) m' ys H4))
structure OU(X:Cx)(scope:Scope)(tg:Expr)(k:Nat)(cl:Addr->Y3u)(φ:Y1V Str)(N':Ah)(js:Ae)(GX:V->Y5n Al)(gg:TG):Prop where
 cells:X.Ok->∀y∈scope.names,y.2=.free->Yd5 y.1
 kind:Yg7
 names:∀y∈scope.names,y.2=.local->Y80 y.1
 len:∀{x:V} {H:Hp} {vs:Al},GX x H vs->Y4O k
 beg:∀{pins:Ad} {σ:St} {H:Hp} {s:Shared} {fp:Y0v} {E:Ya} {Q:Y2v Env},Y6->(∀b∈fp,Y45 H)->(∀b∈fp,Y4H b) ->
  (∀(e:Env) (s4:Shared),{ e with scope:=relabel scope X.env }=compEnvC scope (cl s.heap.objs.size) s.heap.objs.size X.env->e.locals=s.heap.objs.size->cY (Y3O X (cl s.heap.objs.size) φ s.heap.objs.size fp s H N') [] (YfB k++Y11) H s4->(∀b o,Y26->s4.heap.get? b=Y9)->Q e s4) ->
  Y7v (newFunctionEnv scope X.env.globals (Y8N X) [] X.env.qual none .none (some X.env)) Q E s
 hg:∀C fp s₀ H₀,PG (Y3O X (cl C) φ C fp s₀ H₀ N') tg gg
 hx:∀{x:V} {H:Hp} {vs:Al} {os σ:St} {Q:Y2J},GX x H vs->os.length=k->Q (Y6t) H->gg x (os++Y11) H Q
section
variable{X:Cx}{pins:Ad}{σ:St}{H:Hp}{s:Shared}{scope:Scope}{k:Nat}{cl:Addr->Y3u}{φ:Y1V Str}{GX:V->Y5n Al}{gg:TG}{N':Ah}{js:Ae}{fp:Y0v}{elt iter tg:Expr}{pos:Pos}{ifs:Y0h}{tc:TT}{te:TE}
def zV{J:It}{it:Addr}{tn:Y7Q Nat}{RR:Value->Addr->Y9I}{E:Ya}{Q:VK}
  (B:OU X scope tg k cl φ N' js GX gg) (I:Y6) (T:LZ X.prog X.w X.K tg J fp it tn) (h0:tn 0 s.heap) (hf:∀b∈fp,Y45 H)
  (ht:YfC (Y3O X (cl C) φ C fp s₀ H₀ N') ifs tc) (he:YfG (Y3O X (cl C) φ C fp s₀ H₀ N') elt te) (R:LY GX J σ js tc te H Q)
  (hRR:∀(D:Addr) (H3:Hp) (s3:Shared) (σ':St) (H':Hp) (s':Shared),Y2Z H3 s3->(∀b∈fp,Y45 H3)->cY (Ye2 X YbY φ fp s3 H3 N') [] σ' H' s'->Y18->RR (.ref D) s3.heap.objs.size (.ok .next) s') :
  wpAny (Y8S) X.A (newList []) (λacc s₃=>wpAny (Y8S) X.A (newFunctionEnv scope X.env.globals (Y8N X) [] X.env.qual none .none (some X.env)) (λcenv s₄ =>
   Y5o X.prog X.w X.A (.compStart (Y4n [Y4D tg]) 0 (Y4Y) acc { cenv with scope:=relabel scope X.env }) (RR acc cenv.locals) s₄) E s₃) E s:=by
 have N:∀b∈fp,Y4H b:=λb N=>by
  obtain⟨o,e,_⟩:=T.obj 0 _ h0 b N;exact bK e
 have ε:H s.heap.objs.size=none:=Y5T;obtain⟨W,⟨m0,μ⟩,hW⟩:=R _ ε;have I3:Y2Z (Y7D H []) ({ s with heap:=s.heap.push { cls:=.type "list",dict:=none,data:=.seq ([]:Ag).toArray } }):=I.lnew (its:=[]) (ys:=[]) (t':=s.toks) .nil (Y0L);have m:∀b∈fp,Y45 (Y7D H []):=λb a =>
  ⟨by rw[dR (λe=>by have:=N b a;rw[e]at this;exact Y5W)];exact(hf b a).1,(hf b a).2⟩
 have G:tn 0 ({ s with heap:=s.heap.push { cls:=.type "list",dict:=none,data:=.seq ([]:Ag).toArray } }:Shared).heap:=T.keep 0 _ _ h0 λb a o e=>Y0Q e;have L:∀b∈fp,b<({ s with heap:=s.heap.push { cls:=.type "list",dict:=none,data:=.seq ([]:Ag).toArray } }:Shared).heap.objs.size:=λb a=>by
  show b<(s.heap.push _).objs.size;rw[gW];exact Nat.lt_succ_of_lt (N b a)
 refine wpAny_newObj_type ?_;show Y5t _ ({ s with heap:=s.heap.push { cls:=.type "list",dict:=none,data:=.seq ([]:Ag).toArray } });generalize ({ s with heap:=s.heap.push { cls:=.type "list",dict:=none,data:=.seq ([]:Ag).toArray } }:Shared)=s3 at I3 G L ⊢;refine B.beg I3 m L λcenv ν ω el J4 h=>?_;rw[ω,el];have ο:tn 0 ν.heap:=T.keep 0 _ _ G λb a o e=>h b o e;have d:Y5o X.prog X.w X.A (.compLoop (Y4n [Y4D tg]) 0 (Y4Y) (Y2D) (compEnvC scope (YbY) s3.heap.objs.size X.env)) (RR (Y2D) s3.heap.objs.size) ν:=by
  refine IJ (λn s'=>∃(i:Nat) (ys:Al) (H2:Hp) (O:St),O.length=k/\cY (Y3O X _ φ _ fp _ _ N') [] (O++Y11) H2 s'/\tn i s'.heap/\(∀b∈fp,H2 b=none)/\W i n ys H2) ?_ m0 ⟨0,[],_,_,bV,J4,ο,λb a=>(m b a).1,μ⟩;rintro n s' ⟨i,ys,H2,O,ζ,J2,χ,f2,w2⟩;obtain⟨hD,g⟩:=hW i n ys H2 w2;have τ:∀b∈fp,pC (Ye2 X YbY φ fp s3 (Y7D H []) N') [] H2 b:=λb a =>
   ⟨f2 b a,(J2.ok.exf b a).1,J2.ok.exfs b a,.inl a,(J2.ok.exf b a).2,λp P=>by cases P⟩
  rcases g with⟨l,hq⟩ | ⟨U,hz,j⟩
  ·refine Y9o (T.done (Y3O X _ φ _ fp _ _ N') rfl rfl rfl rfl i [] s' _ H2 NoX J2 τ χ l) (λr s1 ⟨α,J5⟩=>?_) f;subst α;exact hRR _ _ _ _ _ _ I3 m J5 hq
  ·refine Y9o (T.item (Y3O X _ φ _ fp _ _ N') rfl rfl rfl rfl i [] s' _ H2 NoX J2 τ χ U) (λr s1 ⟨u,α,hx⟩=>?_) f;subst α;refine Y9o hx (λ_ s2 ⟨v,H3,J3,rv,ψ,G,f3⟩=>?_) f;have ι:∀b∈fp,pC (Ye2 X YbY φ fp s3 (Y7D H []) N') [] H3 b:=λb a =>
    ⟨f3 b a,(J3.ok.exf b a).1,J3.ok.exfs b a,.inl a,(J3.ok.exf b a).2,λp P=>by cases P⟩
   have P3:=J3.pinned ι (T.obj (i+1) _ G);have c:∀{σ':St} {Hx:Hp} {sx:Shared},cY (Ye2 X YbY φ fp s3 (Y7D H []) N') ([]++CD fp s2.heap) σ' Hx sx->tn (i+1) sx.heap/\∀b∈fp,Hx b=none:=λξ =>
    ⟨T.keep (i+1) _ _ G λb a η e=>(ξ.pin (b,η) (cK _ (cK _ (rM a e)))).1,λb a=>by
     obtain⟨η,e,_⟩:=T.obj (i+1) _ G b a;exact(ξ.pin (b,η) (cK _ (cK _ (rM a e)))).2.1⟩
   obtain⟨γ,ρ,qe⟩:=j v H3 ψ;have υ:=B.len ρ;refine Y9o (B.hg _ _ _ _ _ _ (O++Y11) H3 v u (λσ' H'=>σ'=γ.map some++Y11/\H'=H3) P3 rv (B.hx ρ ζ Y6o)) (λ_ s5 ⟨σ5,H5,J5,e5,e6⟩=>?_) f;subst e5 e6;refine Y9o (ht _ _ _ _ _ _ _ _ _ J5 qe) (λok s6 ⟨H6,J6,M⟩=>?_) f;dsimp only at M;by_cases hok:ok=true
   ·rw[if_pos hok]at M ⊢;refine Y9o (he _ _ _ _ _ _ _ _ _ J6 M) (λy s7 ⟨β,H7,J7,r7,κ,δ,z,θ⟩=>?_) f;refine Y9o (FE (X:=Y3O X _ φ _ fp _ _ N') _ _ _ _ (Y2D) [β] (Y2D) [y] (λ_ H8=>H8=Y7D H7 (ys++[β])) J7 rfl (Yb7 r7) (Y1B _ _ _ rfl κ hz rfl)) (λ_ s8 ⟨_,H8,J8,_,e8⟩=>?_) f;subst e8;obtain⟨S,Z⟩:=c J8;exact⟨δ,z,i+1,ys++[β],_,γ.map some,by rw[aA,υ],J8.unpinned,S,Z,θ⟩
   ·rw[if_neg hok]at M ⊢;obtain⟨_,δ,z,θ⟩:=M;obtain⟨S,Z⟩:=c J6;exact⟨δ,z,i+1,ys,_,γ.map some,by rw[aA,υ],J6.unpinned,S,Z,θ⟩
 refine codeAny_compStart_list d (T.self X.A 0 _ _ _ ο d)
def xD{wi:TI}{TC:It->St->(Y5n VK)}(B:OU X scope tg k cl φ N' js GX gg)(hi:PI X tg iter wi)(ht:YfC (Y3O X (cl C) φ C fp s₀ H₀ N') ifs tc)(he:YfG (Y3O X (cl C) φ C fp s₀ H₀ N') elt te)
  (hc:∀{J σ H Q},TC J σ H Q->LY GX J σ js tc te H Q) (hs:∀x,Y6W x=Y7e):Yn (Y4n [Y4D tg]) (YeO σ H (λJ H1=>TC J σ H1 Q)):=by
 intro a s σ H Q I h;rw[eval_ListComp];refine wpAny_comprehension_free (use:=none) rfl hs (vE (B.cells I.ok)) B.kind B.names (Yei (hi a s σ H _ I h) (λv u i=>?_));refine Yei i (λj w ⟨G,fp,r,J,H2,e,I2,T,g,n,R⟩=>?_);subst e;refine zV B I2 T g n ht he (hc R) ?_;intro D H3 p y H' A I3 c J3 q;obtain⟨m,l,_⟩:=J3.loc;exact⟨m,l,λz d=>Y0H (.ref D) H' (RT I3 c J3 d) q⟩
def zQ{wi:TI}{TC:It->St->(Y5n VK)}{y:Str}{py spos:Pos}{i:Nat}(B:OU X scope tg k cl φ N' js GX gg)(hN:X.N.Nodup)(hiN:Y3E=Y0b)(hy:Y6N y Y30)(hi:PI X tg iter wi)(ht:YfC (Y3O X (cl C) φ C fp s₀ H₀ N') ifs tc)(he:YfG (Y3O X (cl C) φ C fp s₀ H₀ N') elt te)
  (hc:∀{J σ H Q},TC J σ H Q->LY GX J σ js tc te H Q) (hsw:YeX (Y4n [Y4D tg]) (some (Y4x)) spos.line=pure true) (hs:∀x,Y6W x=Y7e) :
  PS X (.Assign [Y4x] (Y4n [Y4D tg]) spos) (GU (YeO σ H (λJ H1=>TC J σ H1 Q)) (nO i)):=by
 intro d s σ H D0 I h;rw[exec_Assign_Name_used _ _ _ _ hsw];refine Ydj Y4K;show wpAny _ X.A (do let _ <-comprehension (.ListComp elt [⟨tg,iter,ifs,0⟩] scope pos) scope X.env _ (newList []) false (eval iter X.env) (some (assign (.Name y py) X.env))) _ _ s;refine Y9i (wpAny_comprehension_free (use:=some (Ycp Y4x)) (Q:=λ_ l=>SP X d D0 .next l) rfl hs (vE (B.cells I.ok)) B.kind B.names (Yei (hi d s σ H _ I h) (λv ε S=>?_))) (λ_ l β=>wpAny_pure (wpAny_pure β)) Yay;refine Yei S (λU ζ ⟨it,fp,δ,J,H2,e,I2,T,O,γ,R⟩=>?_);subst e;refine zV (Q:=λv H'=>nO i v σ H' D0.nx) B I2 T O γ ht he (hc R) ?_;intro D H3 r η H' l I3 G J3 q;obtain⟨m,Z,_⟩:=J3.loc;have IX:Y29 d H' l:=RT I3 G J3 (Heap.SameBut.refl ..);have j:Y4J r.heap.objs.size:=λe=>by have:=I3.lt;rw[e]at this;exact Y5W
 show wpAny _ X.A (assign (Y4x) X.env (.ref D)) _ _ _;refine wpAny_assign_Name (EU IX hN hiN (.inl hy) (v:=.ref D) rfl (λW I5 g=>?_) (.inr hy));obtain⟨a,g,u⟩:=g;have w:r.heap.objs.size≠a:=by
  rcases u with rfl | u
  ·exact j
  ·intro e;obtain⟨v,o,L,_⟩:=I3.cell y a u;have:=bK L;rw[<-e]at this;exact Y5W
 refine⟨m,Z.sameBut g w,λθ M=>⟨_,H',?_,q⟩⟩;exact I5.turned (it:=r.heap.objs.size) (t':=W.toks) (λb o n e=>M.extBut b o n e) J3.free j (.inr I3.sz)
  (λz c α e=>by
   obtain⟨v,o,L,_⟩:=I3.cell z c α;have:=bK L;rw[e]at this;exact Y5W)
  (λp P e=>by
   have:=bK (I3.pin p P).1;rw[e]at this;exact Y5W)
def eG.blk{xs:Ah}(S:Y4E xs)(hl:∀{x:V}{H:Hp}{vs:Al},GX x H vs->Y4O xs.length)(hg:∀C fp s₀ H₀,PG (Y43) tg gg)(hx:∀{x:V}{H:Hp}{vs:Al}{os σ:St}{Q:Y2J},GX x H vs->Y4V os.length->Q (Y6t) H->gg x (os++Y11) H Q):OU X scope tg xs.length (λ_=>Y8N X) (YeA) N' js GX gg :=
 ⟨S.cells,S.kind,S.names,hl,λ{a σ H s fp E Q} I j l k=>wpAny_newFunctionEnv S.cell (by intro y g;simp at g) (λd h i=>by
  have c:∀b o,Y26->d.get? b=Y9:=λb o e=>i.extBut b o (λq=>by have:=bK e;rw[q]at this;exact Y5W) (Y0Q e);exact k _ _ rfl rfl (aAc S I j l h c) c) S.kind,hg,hx⟩
end
structure MC(X:Cx)(ifs:Y0h)(t:TT):Prop where p:PTs X ifs t
def BR(t:TE):TE:=λσ H Q=>∃Q':VK,t σ H Q'/\∀v H1,Q' v H1->Q v H1
def PE.mono{X:Cx}{e:Expr}{t:TE}(h:Yn e t):Yn e (BR t):=λa s σ H Q I ⟨Q',d,c⟩ =>
 thn (h a s σ H Q' I d) λb g ⟨v,H',I',r,q⟩=>⟨v,H',I',r,c _ _ q⟩
def PTs.mono{X:Cx}{es:Y0h}{t:TT}(h:PTs X es t):PTs X es (uY t):=λa s σ H Q I ⟨Q',d,c⟩ =>
 thn (h a s σ H Q' I d) λb e ⟨H',I',q⟩=>⟨H',I',c _ _ q⟩
@[irreducible] def nQ(J:It)(σ:St)(js:Ae)(tc:TT)(te:TE)(H1:Hp)(Q:VK):Prop:=∀D,H1 D=none->∃W:Nat->Nat->Al->Hp->Prop,(Y7j 0 m [] (Y2s H1 D [])) /\
 ∀i m ys H2,W i m ys H2->H2 D=Y0w/\((J.stop i H2/\Y1d D H2)\/(Y8c H2/\YaY ys.length/\∀x H3,Y8a H2 x H3 ->
  uY tc (Y7::Y11) H3 λb H4=>if b=true then BR te (Y7::Y11) H4 λy H5=>H5 D=Y0w/\∃m',m' < m/\W (i+1) m' (ys++[y]) (Y2s H5 D (ys++[y]))
   else H4 D=Y0w/\∃m',m' < m/\W (i+1) m' ys H4))
def MS(wi:TI)(js:Ae)(tc:TT)(te:TE):TE:=YeO σ H (λJ H1=>nQ J σ js tc te H1 Q)
section
variable{X:Cx}{scope:Scope}{x y:Str}{N':Ah}{js:Ae}{elt iter c:Expr}{px py pos spos:Pos}{ifs:Y0h}{tc:TT}{te:TE}{wi:TI}{i:Nat}
def cS:MC X [] BQ:=⟨pts_nil⟩
def OY{t:TT}(h:VG X c t):MC X [c] t:=⟨aBI h.p⟩
def nQ.turns{J:It}{σ:St}{H:Hp}{Q:VK}(h:nQ J σ js tc te H Q):LY (λv _ vs=>vs=[v]) J σ js (uY tc) (BR te) H Q:=λD d=>by
 unfold nQ at h;obtain⟨W,j,g⟩:=h D d;refine⟨W,j,λi m e H2 w=>?_⟩;obtain⟨hd,l⟩:=g i m e H2 w;exact⟨hd,l.imp_right λ⟨a,b,c⟩=>Y2r b (λx H3 y=>Yz [x] (c x H3 y))⟩
def ZM{x:V}{H:Hp}{vs:Al}{os σ:St}{Q:Y2J}(h:vs=[x])(hl:os.length=1)(q:Q (Y6t) H):nO 0 x (os++Y11) H Q:=by
 subst h
 match os,hl with
 | [o],_=>exact q
def eG.one(S:dG X scope x N' js):OU X scope (Y3S) 1 (λ_=>Y8N X) (YeA) N' js (λv _ vs=>vs=[v]) (nO 0) :=
 have l:=lookup_relabel_local (S.own x aY)
 S.blk (λh=>by rw[h];rfl) (λC a c H₀=>HJ S.nd (S.pre 0 x rfl) (.inl l) (.inr l)) ZM
def eI(S:dG X scope x N' js)(hi:OP X (Y3S) iter wi)(ht:Yar Y43 ifs tc)(he:Yaq Y43 elt te)
  (hs:∀x,Y6W x=Y7e:=by intro _;rfl):Yh (Y4n [Y4D Y3S]) (MS wi js tc te) :=
 ⟨YdS S.one hi.p ((ht C fp s₀ H₀).p.mono) ((he C fp s₀ H₀).p.mono) nQ.turns hs⟩
def iL(S:dG X scope x N' js)(hN:X.N.Nodup)(hiN:Y3E=Y0b)(hy:Y6N y Y30)(hi:OP X (Y3S) iter wi)(ht:Yar Y43 ifs tc)(he:Yaq Y43 elt te)
  (hsw:YeX (Y4n [Y4D Y3S]) (some (Y4x)) spos.line=pure true:=by rfl) (hs:∀x,Y6W x=Y7e:=by intro _;rfl) :
  IY X (.Assign [Y4x] (Y4n [Y4D Y3S]) spos) (GU (MS wi js tc te) (nO i)) :=
 ⟨zQ S.one hN hiN hy hi.p (λC fp s₀ H₀=>(ht C fp s₀ H₀).p.mono) (λC fp s₀ H₀=>(he C fp s₀ H₀).p.mono) nQ.turns hsw hs⟩
end
def DL(psc scope:Scope)(N:Ah)(xs N':Ah)(js:Ae):Bool :=
 (Y9q (!(y.2 == .free) || psc.names.lookup y.1 == Y2g))&&(Y9q (!(Ya1 y.2)))&&scope.kind == .function &&
 (Y9q (!(y.2 == .local) || Yau y.1 Y30))&&(xs.all λx=>Yau x Y30) &&
 (Y9q (!(y.2 == .free) || !(Yau y.1 Y30)))&&N'.length == Y6L js.length&&N'.take xs.length == xs&&decide N'.Nodup &&
 ((List.range js.length).all λi=>match js[i]?,N'[xs.length+i]? with
  | some j,some y=>N[j]? == some y&&scope.names.contains (y,NameKind.free)
  | _,_=>false)
def eG.of{X:Cx}{psc scope:Scope}{N:Ah}{xs N':Ah}{js:Ae}(h:DL psc scope N xs N' js=true)(hX:X.env.scope=psc)(hN:X.N=N)(hc:Y1t):Y4E xs:=by
 unfold DL at h;simp only[eB]at h;obtain⟨⟨⟨⟨⟨⟨⟨⟨⟨n,r⟩,B⟩,l⟩,s⟩,m⟩,u⟩,A⟩,z⟩,c⟩:=h;rw[List.all_eq_true]at n r l s m c;refine⟨hc,Y9y,Y9y,by simpa using B,Y9y,λx d=>by simpa using s x d,Y9y,by simpa using u,λi x d=>?_,of_decide_eq_true z,λi j p=>?_⟩
 ·have:=n y a;rw[e]at this;show YeW y.1 _;rw[hX];simpa using this
 ·have:=r y a;rw[e]at this;simp at this
 ·have:=l y a;rw[e]at this;simpa using this
 ·have:=m _ a;rw[e]at this;simp at this
 ·have w:N'.take xs.length=xs:=by simpa using A
  have g:Y5f:=(aC.mp d).1;rw[<-d]
  conv=>rhs;rw[<-w]
  rw[List.getElem?_take,if_pos g]
 ·have g:i<js.length:=(aC.mp p).1;have:=c i (bL.mpr g);rw[p]at this;cases q:N'[Y6L i]? with
  | none=>rw[q]at this;simp at this
  | some y =>
   rw[q]at this;simp only[eB]at this;exact Y2h y (by rw[hN];simpa using this.1) (List.contains_iff_mem.mp this.2)
def eG.o{X:Cx}{scope:Scope}(xs N':Ah)(js:Ae)(h:DL X.env.scope scope X.N xs N' js=true:=by exact Eq.refl true)(hc:Y1t:=by rfl):Y4E xs:=eG.of h rfl rfl hc
theorem dG.of{X:Cx}{psc scope:Scope}{N:Ah}{x:Str}{N':Ah}{js:Ae}(h:DL psc scope N [x] N' js=true)(hX:X.env.scope=psc)(hN:X.N=N)(hc:Y1t):dG X scope x N' js:=eG.of h hX hN hc
def dG.o{X:Cx}{scope:Scope}{x:Str}(N':Ah)(js:Ae)(h:DL X.env.scope scope X.N [x] N' js=true:=by exact Eq.refl true)(hc:Y1t:=by rfl):dG X scope x N' js:=dG.of h rfl rfl hc
section
variable{js:Ae}{te:TE}{tc:TT}{σ:St}{H:Hp}{Q:VK}
def LE{J:It}{n:Nat}(src:Yah V)(hz:Y7Z n)(Pv:Addr->Y1F (Y1P Al))
  (h0:∀D H1,H D=none->H1 D=Yc []->aT H H1->Pv D 0 [] H1)
  (hg:∀D i ys H',i<n->Y0F=Y0w->Pv D i ys H'->Y8c H'/\∀x H3,Y8a H' x H3->H3=H'/\src i x)
  (hst:Y3v (Y0F=Y0w) (Pv D n ys H'->J.stop n H'))
  (hs:∀D i x ys H',src i x->i<n->Y2w i->Y0F=Y0w->Pv D i ys H'->te (Y7::Y11) H' λy H5=>H5 D=Y0w/\∀H6,H6 D=Yc (ys++[y])->aW D H5 H6->Pv D (i+1) (ys++[y]) H6)
  (hd:Y3v (Y2w n) (H D=none->Y0F=Y0w->Pv D n ys H'->Y18)) :
  nQ J σ js BQ te H Q:=by
 unfold nQ;intro D h;refine Y05 (λi m ys H'=>m=n-i/\i<=n/\Y2w i/\Y0F=Y0w/\Pv D i ys H') (Y6e n (by simp) Y0L bH (h0 D _ h bH (aT.upd h)));rintro i m ys H2 ⟨rfl,s,c,a,p⟩;refine Y0o a;by_cases hlt:i<n
 ·obtain⟨l,r⟩:=hg D i ys H2 hlt a p;refine .inr ⟨l,Ye8 Oo Dd,λx H3 g=>?_⟩;obtain⟨rfl,j⟩:=r x H3 g;refine Y05 (λb H4=>b=true/\H4=H3) Y6o;rintro b H4 ⟨rfl,rfl⟩;rw[Ys];refine Y05 _ (hs D i x ys H4 j hlt c a p);rintro v H5 ⟨d,k⟩;exact⟨d,n-(i+1),Oo,rfl,hlt,by rw[aU,c];rfl,bH,k _ bH aW.self⟩
 ·have e:i=n:=Oo;subst e;exact Y4c (hst D ys H2 a p) (hd D ys H2 c h a p)
end
@[irreducible] def ND(K:Aa):Y1x:=λxs H Q=>∃(p:Addr) (ns:Af),xs=Y5d/\Y6m K H p/\YcN
@[irreducible] def aBC(b:Bool):R2:=λx y H Q=>∃d d',Y0M d x/\Y0M d' y/\Y5E d/\Y5E d'/\Y3e (b == Yen d)
section
variable{X:Cx}
def OE(hc:Y1t):Y4M X "sum" (ND X.K):=by
 unfold ND;intro d s σ H C A Q I r h;obtain⟨p,l,rfl,n,q⟩:=h;obtain⟨u,rfl,w⟩:=nF r;cases w;obtain⟨a,z,i,B⟩:=I.list n;have g:=vQ z;obtain⟨c,e⟩:=g.allInts.items;rw[e]at i;refine sum_intListG (Y8x) i.isList λG D j y=>⟨.int l.sum,H,I.kept y,Y0o j,q⟩;rw[preSum_eq,List.take_of_length_le (by simp)];rw[<-g.numsOf];have m:a=(intItems c).toList:=by rw[<-e]
 rw[m,nums_intItems]
def rsI{K:Aa}{H:Hp}{p:Addr}{ns:Af}{Q:VK}(h:Y6m K H p)(q:YcN):ND K Y5d H Q:=by unfold ND;exact Y0i p ns h q
def NL(hu:Y3M 64<cLine):Y47 .NotEq (aBC false):=by
 unfold aBC;intro a s σ H x y v u Q I n l h;obtain⟨d,r,c,g,i,m,q⟩:=h;obtain⟨p,e⟩:=c.reads I n;obtain⟨bs,j⟩:=g.reads I l;exact SeqAt.compareNe_shaped e j i m hu ⟨.bl _,H,I,by show _=_;simp,q⟩
def reD{b:Bool}{x y:V}{d d':PyData}{H:Hp}{Q:VK}(h1:Y0M d x)(h2:Y0M d' y)(s1:Y5E d)(s2:Y5E d')(q:Y3e (b == Yen d)):aBC b x y H Q:=by
 unfold aBC;exact⟨d,d',h1,h2,s1,s2,q⟩
end
mutual
def iN:Y1V PyData
 | .list _=>false
 | .dict _=>false
 | .tuple ds=>kA ds
 | _=>true
def kA:Y1V Y1f
 | []=>true
 | d::ds=>iN d&&kA ds
end
def fG(H H':Hp):Prop:=∀b xs,H b=Y16->Y1N=Y16
def fG.trans{H H1 H2:Hp}(a:fG H H1)(b:Y6F):fG H H2:=λc o h=>b c o (a c o h)
def aT.t{H H':Hp}(s:Y0):Y2B:=λb a h=>s _ _ h
def aW.t{H H':Hp}{p:Addr}(s:Y12){xs:Al}(hp:H p=Y0I):Y2B:=Yeo (qL h hp (by intro z;cases z)) h
mutual
theorem dA.flat{H H':Hp}(s:Y2B):∀{d:PyData}{v:V},iN d=true->Y0M d v->dA H' d v
 | .none,_,_,h=>h
 | .bool _,_,_,h=>h
 | .int _,_,_,h=>h
 | .str _,_,_,h=>h
 | .list _,_,f,_=>by simp[iN]at f
 | .dict _,_,f,_=>by simp[iN]at f
 | .tuple ds,_,f,h=>by
  unfold dA at h ⊢;obtain⟨a,ys,rfl,h1,h2⟩:=h;exact⟨a,ys,rfl,s _ _ h1,bD.flat s (by simpa[iN]using f) h2⟩
theorem bD.flat{H H':Hp}(s:Y2B):∀{ds:Y1f}{vs:Al},kA ds=true->Y7h->bD H' ds vs
 | [],_,_,h=>h
 | d::ds,_,f,h=>by
  unfold bD at h ⊢;obtain⟨x,ys,rfl,h1,h2⟩:=h;simp only[kA,eB]at f;exact⟨x,ys,rfl,dA.flat s f.1 h1,bD.flat s f.2 h2⟩
end
theorem bD.get{H:Hp}:∀{ds:Y1f}{vs:Al}{i:Nat}{v:V},Y7h->vs[i]?=Yw->∃d,ds[i]?=some d/\Y0M d v
 | [],_,i,v,h,e=>by cases(show _=[]from h);simp at e
 | d::ds,_,i,v,h,e=>by
  unfold bD at h;obtain⟨x,ys,rfl,h1,h2⟩:=h;cases i with
  | zero=>simp at e;subst e;exact⟨d,rfl,h1⟩
  | succ i =>
   rw[List.getElem?_cons_succ]at e ⊢;exact bD.get h2 e
theorem bD.get'{H:Hp}:∀{ds:Y1f}{vs:Al}{i:Nat}{d:PyData},Y7h->ds[i]?=some d->∃v,vs[i]?=Yw/\Y0M d v
 | [],_,i,d,h,e=>by simp at e
 | d' :: ds,_,i,d,h,e=>by
  unfold bD at h;obtain⟨x,ys,rfl,h1,h2⟩:=h;cases i with
  | zero=>simp at e;subst e;exact⟨x,rfl,h1⟩
  | succ i =>
   rw[List.getElem?_cons_succ]at e ⊢;exact bD.get' h2 e
def bD.snoc{H:Hp}{ds:Y1f}{vs:Al}{d:PyData}{v:V}(h:Y7h)(r:Y0M d v):Y1n (ds++[d]) (vs++[v]):=bD.append (Yce r) h
def OL{i:Int}{n:Nat}(h:i.natAbs<2^n):bits i<=n:=PySem.intBits_le_iff.mpr h
def pA{i j:Int}{n m:Nat}(h1:i.natAbs<2^n)(h2:j.natAbs<2^m)(hn:n<=1048576:=by decide)(hm:m<=1048576:=by decide):IntMulOk i j:=by
 refine IntMulOk.of_bits ?_ ?_
 ·exact aK (OL h1) hn
 ·exact aK (OL h2) hm
section
variable{X:Cx}(K:Aa)
def fA(h:X.K=K:=by rfl):IxR X (rIx K):=by subst h;exact bO
def aCu(h:X.K=K:=by rfl):Y4M X "len" (NF K):=by subst h;exact nV
def aCs(hc:Y1t)(h:X.K=K:=by rfl):Y4M X "sum" (ND K):=by subst h;exact OE hc
end
end L2
namespace L2
open PySem
def qU(b:Bool)(h:Heap)(i l:Addr)(k:Nat):Prop:=∃o,h.get? i=Y9/\o.cls=.type (bif b then "tuple_iterator" else "list_iterator")/\o.data=.fields #[Y1j,.int k 0]
def mU(b:Bool)(h:Heap)(l:Addr)(xs:Ai):Prop:=∃o,h.get? l=Y9/\o.cls=.type (bif b then "tuple" else "list")/\∃n,o.data=.seq xs n
def qU.at{b:Bool}{h h':Heap}{i l:Addr}{k:Nat}(x:qU b h i l k)(f:∀o,h.get? i=Y9->Y3P i):qU b h' i l k:=let ⟨o,ho,r⟩:=x;Y1v (f o ho) r
def mU.at{b:Bool}{h h':Heap}{l:Addr}{xs:Ai}(x:mU b h l xs)(f:∀o,h.get? l=Y9->Y3P l):mU b h' l xs:=let ⟨o,ho,r⟩:=x;Y1v (f o ho) r
section
variable{prog:Program}{w:World}{A:Around}{E:Ya}{s:Shared}
def AX{b:Bool}{it l:Addr}{i:Nat}{items:Ai}{x:Value}{Q:Ya}(hit:qU b s.heap it l i)(hl:Y1Z b l items)(hx:Yae i=Y7)
  (hQ:∀h',qU b h' it l (i+1)->Yat it h'->Q x { s with heap:=h' }):Y1J (Yaj it):=by
 cases b with
 | false=>exact wpAny_nextOf_list_item hit hl hx hQ
 | true =>
  have e:YbZ l i:=hit;obtain⟨o,a,g,hd⟩:=id e;obtain⟨h,d,_,j,c⟩:=hl;unfold Builtin.SmallTypes.nextOf;refine wpAny_bind (Y8r "__next__" e.typeIs F.slot_tuple_iterator_next F.slot_tuple_iterator_next e.typeIs F.entry_tuple_iterator_next ?_ (F.args_tuple_iterator_next_1 _));show Y3F (Y5r it 0 >>= _);refine wpAny_bind (wpAny_field a hd (x:=Y1j) rfl ?_);show Y3F (if(Value.ref l == Value.none)=true then _ else _);rw[if_neg (show ¬((Value.ref l == Value.none)=true)from cC)];show Y3F (Y5r it 1 >>= _);refine wpAny_bind (wpAny_field a hd (x:=.int i 0) rfl ?_);show Y3F (seqItems? (Y1j) >>= _);refine Y7q d c ?_;simp only[Int.toNat_natCast,hx];refine wpAny_bind (wpAny_setField a hd (by simp) (wpAny_pure (Yz x (wpAny_pure (hQ _ ?_ (Heap.SameBut.update ..))))));refine Y2X _ (Heap.get?_update_self _ a (Obj.isFreed_of_fields (Obj.data_mapFields hd _))) ((Obj.cls_mapFields ..).trans g);rw[Obj.data_mapFields hd];simp[rawInt]
def NM{b:Bool}{it l:Addr}{i:Nat}{items:Ai}{Q:Ya}(hh:Y5D)(hit:qU b s.heap it l i)(hl:Y1Z b l items)(hx:Yae i=none)
  (hE:∀h' e,YdN it h'->(∃o,Y3P e/\o.cls=.type "StopIteration")->E (.ref e) { s with heap:=h' }):Y1J (Yaj it):=by
 cases b with
 | false=>exact wpAny_nextOf_list_end hh hit hl hx hE
 | true =>
  have g:YbZ l i:=hit;obtain⟨o,h,p,hd⟩:=id g;obtain⟨j,d,_,n,c⟩:=hl;unfold Builtin.SmallTypes.nextOf;refine wpAny_bind (Y8r "__next__" g.typeIs F.slot_tuple_iterator_next F.slot_tuple_iterator_next g.typeIs F.entry_tuple_iterator_next ?_ (F.args_tuple_iterator_next_1 _));show Y3F (Y5r it 0 >>= _);refine wpAny_bind (wpAny_field h hd (x:=Y1j) rfl ?_);show Y3F (if(Value.ref l == Value.none)=true then _ else _);rw[if_neg (show ¬((Value.ref l == Value.none)=true)from cC)];show Y3F (Y5r it 1 >>= _);refine wpAny_bind (wpAny_field h hd (x:=.int i 0) rfl ?_);show Y3F (seqItems? (Y1j) >>= _);refine Y7q d c ?_;simp only[Int.toNat_natCast,hx];refine Y9g (wpAny_bind (wpAny_setField h hd (by simp) ?_));show Y27 (newExc (.type "StopIteration") [] >>= _);refine Y4K;simp only[newExc,newTuple];refine wpAny_bind (Yfq (by size_fits));refine wpAny_bind (m:=firstArgMember _ _) (wpAny_of_eq (a:=Value.none) (by first | rfl | (simp only[firstArgMember];rfl)) ?_);refine Yfq (by size_fits);simp only[raiseNew];refine wpAny_bind (wpAny_handled ?_)
  first | rw[show A.in1.handled=none from hh] | rw[hh]
  refine Y3m (wpAny_throw ?_);exact hE _ _ (((Heap.SameBut.update ..).extBut.push _).push _) (Y0V Y1u)
structure ZAt(b1 b2:Bool)(z TI TO i1 i2 l1 l2:Addr)(f:Value)(k:Nat)(h:Heap):Prop where
 z:IsZip h z TI TO f
 ti:IsPair h TI (.ref i1) (.ref i2)
 to:∃a b,YbL h a b
 i1:qU b1 h i1 l1 k
 i2:qU b2 h i2 l2 k
def SL{b1 b2:Bool}{z TI TO i1 i2 l1 l2:Addr}{k:Nat}{xs ys:Ai}{x y:Value}{Q:Ya}(D:ZipApart z TI TO i1 i2 l1 l2)(Z:ZAt b1 b2 z TI TO i1 i2 l1 l2 .none k s.heap)
  (hl1:Y1Z b1 l1 xs) (hl2:Y1Z b2 l2 ys) (hx:Y28 k=Y7) (hy:ys[k]?=Y0b)
  (hQ:∀h',ZAt b1 b2 z TI TO i1 i2 l1 l2 (rawInt s.heap.objs.size) (k+1) h'->IsPair h' s.heap.objs.size x y->(∀c o,c≠z->c≠TO->c≠i1->c≠i2->Y4w->Y3P c)->Yap ({ s with heap:=h' })) :
  wpAny (model prog w) A (Builtin.«zip.__next__» ⟨[.ref z],[]⟩) (λfin s'=>∃v,fin=Yeu v/\Q v s') E s:=by
 obtain⟨O,P,⟨a,b,ζ⟩,ο,υ⟩:=Z;show Y27 (Y5r z 2 >>= _);refine Y6C O (.bool false);show Y27 (Y5r z 3 >>= _);refine Y6C O (.ref TI);refine Y7q P rfl ?_;show Y27 (YeY z >>= _);refine Y4K;unfold Builtin.SmallTypes.ownedTupleIsFree;refine wpAny_bind (wpAny_field O rfl (x:=.none) rfl Y2e);simp only[if_true];refine Y9g ?_;refine Y6C O (.ref TO);refine Y9d O (by simp) (λν n C=>?_);have u:=C.extBut;replace n:YaL ν z TI TO:=n;refine Y4K;simp only[List.zipIdx_cons,List.zipIdx_nil,List.forIn_cons,List.forIn_nil];refine YdA ?_;show Y27 (Yaj i1 >>= _);refine Yes (ο.at λo e=>u _ o D.i1z e) (hl1.at λo e=>u _ o D.l1z e) hx (λφ η L=>Y2e);have G:=L.extBut;have l:YbL φ a b:=G _ _ D.TOi1 (u _ _ D.TOz ζ);refine Y7q l rfl ?_;refine Yf3 l (λξ h U=>?_);have N:=U.extBut;replace h:YbL ξ x b:=h;refine Ydn Y2e;refine YdA ?_;show Y27 (Yaj i2 >>= _)
 refine Yes (υ.at λo e=>N _ o D.TOi2.symm (G _ o D.i12.symm (u _ o D.i2z e))) (hl2.at λo e=>N _ o D.l2TO (G _ o D.l2i1 (u _ o D.l2z e))) hy (λτ δ B=>Y2e);have γ:=B.extBut;have j:YbL τ x b:=γ _ _ D.TOi2 h;refine Y7q j rfl ?_;refine Yf3 j (λg d S=>?_);have α:=S.extBut;replace d:YbL g x y:=d;refine Ydn (wpAny_pure (Y2e));refine Y7q d rfl ?_;refine wpAny_bind (wpAny_newTuple ?_);have R:g.objs.size=s.heap.objs.size:=by rw[S.1,B.1,U.1,L.1,C.1]
 have M:YaL g z TI TO:=α _ _ D.TOz.symm (γ _ _ D.i2z.symm (N _ _ D.TOz.symm (G _ _ D.i1z.symm n)));have T:∀c o,c≠z->c≠TO->c≠i1->c≠i2->Y4w->g.get? c=Y9:=λc o p X ι μ e=>α _ _ X (γ _ _ μ (N _ _ X (G _ _ ι (u _ _ p e))));have κ:qU b1 g i1 l1 (k+1):=η.at λo e=>α _ o D.TOi1.symm (γ _ o D.i12 (N _ o D.TOi1.symm e));have ε:qU b2 g i2 l2 (k+1):=δ.at λo e=>α _ o D.TOi2.symm e;have m:=bK M;show Y27 (Builtin.SmallTypes.ownedTupleHandOut (.ref z) (.ref g.objs.size) >>= _);refine Y4K;unfold Builtin.SmallTypes.ownedTupleHandOut;have θ:YaL (g.push { cls:=.type "tuple",data:=.seq #[x,y] }) z TI TO:=Y0Q M;refine Y9d θ (by simp) (λρ r W=>?_);replace r:IsZip ρ z TI TO (rawInt g.objs.size):=r;refine wpAny_setField_rec r (by simp) λβ i J=>?_;replace i:IsZip β z TI TO (rawInt g.objs.size):=i;have up:∀c o,c≠z->g.get? c=Y9->β.get? c=Y9:=λc o p e=>J.extBut _ _ p (W.extBut _ _ p (Y0Q e));have I:IsPair β g.objs.size x y:=J.extBut _ _ (Nat.ne_of_gt m) (W.extBut _ _ (Nat.ne_of_gt m) (Y1u));rw[R]at i I;refine wpAny_pure Y8;show Y1d g.objs.size _;rw[R]
 exact hQ β ⟨i,up _ _ D.TIz (T _ _ D.TIz D.TITO D.TIi1 D.TIi2 P),Y0J _ (up _ _ D.TOz d),κ.at λo e=>up _ o D.i1z e,ε.at λo e=>up _ o D.i2z e⟩ I λc o p X ι μ e=>up c o p (T c o p X ι μ e)
def VP{b1 b2:Bool}{z TI TO i1 i2 l1 l2:Addr}{k:Nat}{xs ys:Ai}{Q:Y2v Fin}(hh:Y5D)(D:ZipApart z TI TO i1 i2 l1 l2)(Z:ZAt b1 b2 z TI TO i1 i2 l1 l2 .none k s.heap)
  (hl1:Y1Z b1 l1 xs) (hl2:Y1Z b2 l2 ys) (hend:Y28 k=none\/ys[k]?=none)
  (hE:∀h' e,(∀c o,c≠z->c≠TO->c≠i1->c≠i2->Y4w->Y3P c)->(∃o,Y3P e/\o.cls=.type "StopIteration")->E (.ref e) { s with heap:=h' }) :
  Y1J (Builtin.«zip.__next__» ⟨[.ref z],[]⟩):=by
 obtain⟨C,O,⟨a,b,N⟩,U,δ⟩:=Z;show Y27 (Y5r z 2 >>= _);refine Y6C C (.bool false);show Y27 (Y5r z 3 >>= _);refine Y6C C (.ref TI);refine Y7q O rfl ?_;show Y27 (YeY z >>= _);refine Y4K;unfold Builtin.SmallTypes.ownedTupleIsFree;refine wpAny_bind (wpAny_field C rfl (x:=.none) rfl Y2e);simp only[if_true];refine Y9g ?_;refine Y6C C (.ref TO);refine Y9d C (by simp) (λX j L=>?_);have l:=L.extBut;replace j:YaL X z TI TO:=j;refine Y4K;simp only[List.zipIdx_cons,List.zipIdx_nil,List.forIn_cons,List.forIn_nil];refine YdA ?_;show Y27 (Yaj i1 >>= _);cases hx:Y28 k with
 | none =>
  refine wpAny_bind (NM hh (U.at λo e=>l _ o D.i1z e) (hl1.at λo e=>l _ o D.l1z e) hx λR e i M=>?_);obtain⟨S,d,g⟩:=M;have y:YaL R z TI TO:=i _ _ D.i1z.symm j;have p:e≠z:=λx=>by subst x;rw[y]at d;cases d;simp at g
  exact wpAny_setField_rec y (by simp) λT _ m=>hE T e (λc o B _ P _ x=>m.extBut _ _ B (i _ _ P (l _ _ B x))) ⟨S,m.extBut _ _ p d,g⟩
 | some x =>
  have α:ys[k]?=none:=by
   rcases hend with h | h
   ·rw[hx]at h;cases h
   ·exact h
  refine Yes (U.at λo e=>l _ o D.i1z e) (hl1.at λo e=>l _ o D.l1z e) hx (λR ζ i=>Y2e);have u:=i.extBut;have n:YbL R a b:=u _ _ D.TOi1 (l _ _ D.TOz N);refine Y7q n rfl ?_;refine Yf3 n (λT W m=>?_);have J:=m.extBut;refine Ydn Y2e;refine YdA ?_;show Y27 (Yaj i2 >>= _);refine wpAny_bind (NM hh (δ.at λo e=>J _ o D.TOi2.symm (u _ o D.i12.symm (l _ o D.i2z e))) (hl2.at λo e=>J _ o D.l2TO (u _ o D.l2i1 (l _ o D.l2z e))) α λβ e r M=>?_);obtain⟨S,d,g⟩:=M;have I:YaL β z TI TO:=r _ _ D.i2z.symm (J _ _ D.TOz.symm (u _ _ D.i1z.symm j));have p:e≠z:=λx=>by subst x;rw[I]at d;cases d;simp at g
  exact wpAny_setField_rec I (by simp) λε _ G=>hE ε e (λc o B γ P η x=>G.extBut _ _ B (r _ _ η (J _ _ γ (u _ _ P (l _ _ B x))))) ⟨S,G.extBut _ _ p d,g⟩
def SK{b1 b2:Bool}{z TI TO i1 i2 l1 l2:Addr}{k:Nat}{xs ys:Ai}{x y:Value}{Q:Yac}(D:ZipApart z TI TO i1 i2 l1 l2)(Z:ZAt b1 b2 z TI TO i1 i2 l1 l2 .none k s.heap)
  (hl1:Y1Z b1 l1 xs) (hl2:Y1Z b2 l2 ys) (hx:Y28 k=Y7) (hy:ys[k]?=Y0b)
  (hQ:∀h',ZAt b1 b2 z TI TO i1 i2 l1 l2 (rawInt s.heap.objs.size) (k+1) h'->IsPair h' s.heap.objs.size x y->(∀c o,c≠z->c≠TO->c≠i1->c≠i2->Y4w->Y3P c)->Q (Y3 s.heap.objs.size) { s with heap:=h' }) :
  Ybj z:=by
 have a:Y8p z "zip" := Y0V Z.z;unfold pyNext;refine Yal (Y8r "__next__" a F.slot_zip_next F.slot_zip_next a F.entry_zip_next ?_ (F.args_zip_next_1 _));exact SL D Z hl1 hl2 hx hy λh' d e g=>wpAny_pure (hQ h' d e g)
def SJ{b1 b2:Bool}{z TI TO i1 i2 l1 l2:Addr}{k:Nat}{xs ys:Ai}{Q:Yac}(hh:Y5D)(D:ZipApart z TI TO i1 i2 l1 l2)(Z:ZAt b1 b2 z TI TO i1 i2 l1 l2 .none k s.heap)
  (hl1:Y1Z b1 l1 xs) (hl2:Y1Z b2 l2 ys) (hend:Y28 k=none\/ys[k]?=none)
  (hQ:∀h',(∀c o,c≠z->c≠TO->c≠i1->c≠i2->Y4w->Y3P c)->Q none { s with heap:=h' }):Ybj z:=by
 have a:Y8p z "zip" := Y0V Z.z;unfold pyNext;refine Yal (Y8r "__next__" a F.slot_zip_next F.slot_zip_next a F.entry_zip_next ?_ (F.args_zip_next_1 _));refine VP hh D Z hl1 hl2 hend λh' e g d=>?_;obtain⟨o,h,i⟩:=d;refine wpAny_bind (Yf1 "StopIteration" true (Y1v h i) ?_);exact wpAny_pure (hQ _ g)
abbrev itO(b:Bool)(l:Addr):Obj:={ cls:=.type (bif b then "tuple_iterator" else "list_iterator"),data:=.fields #[.ref l,.int 0 0] }
def QW{b:Bool}{l:Addr}{xs:Ai}{Q:Ya}(h:Y1Z b l xs)(q:Yap ({ s with heap:=s.heap.push (itO b l) })):Y1J (pyIter (Y1j)):=by
 cases b with
 | false=>exact wpAny_pyIter_list h q
 | true=>exact wpAny_pyIter_tuple h q
end
end L2
namespace L2
open PySem PySem.Spec PyProof.Rows
section
variable{X:Cx}{pins:Ad}{σ:St}{H:Hp}{s:Shared}{h':Heap}
def cY.turnedL{t':Nat}{fp:Y0v}(I:Y6)(k:∀b o,b ∉ fp->Y26->Y14=Y9)(hf:∀b∈fp,Y45 H):Y5k ({ s with heap:=h',toks:=t' }):=by
 have d:∀b u,H b=Ym->b ∉ fp:=λb u e z=>by rw[(hf b z).1]at e;cases e
 refine I.step (g':=s.gens) (d':=s.drawn) (ch:=fp) (λb y=>?_) (λb o _ _ a e _=>k b o a e) (λb o _ _ a e _=>⟨o.slots,k b o a e⟩) (λ_ _ _ _ n=>n)
  (λb o a e=>⟨o,k b o a e⟩) (Yay) (λ_ _ _ e=>e) (λb D e=>⟨#[],by rw[e];simp⟩) (λm p=>?_) (λb u e=>?_) I.bare
 ·obtain⟨C,i,B,l,h,g⟩:=hf b y;exact⟨l,i,h,g⟩
 ·obtain⟨o,w,j,A,r⟩:=p;exact⟨o,w,j,k _ o (λz=>(hf _ z).2.1 rfl) A,r⟩
 ·refine(I.hok b u e).stay (λc v a q=>k c v ?_ q) (YcU) Y9B;rcases a with z | z
  ·rw[z];exact d b u e
  ·exact d c _ z
def Un.putE{fs ex:Y0v}{H H1:Hp}{h h1:Heap}{a:Addr}{u:HO}(x:Un fs ex H H1 h h1)(ha:h.get? a=none)(hn:H1 a=none):Un fs ex H (upd H1 a u) h h1 where
 keep:=x.keep
 slot:=x.slot
 free:=λb d e n m=>by rw[dR (λz=>by subst z;rw[ha]at e;cases e)];exact x.free b d e n m
 there:=x.there
 tups:=λb c e=>by rw[dR (dS (x.tups b c e) hn)];exact x.tups b c e
 frzs:=λb d c e=>by rw[dR (dS (x.frzs b d c e) hn)];exact x.frzs b d c e
 tbls:=λb g e=>by
  obtain⟨m,q⟩:=x.tbls b g e;exact⟨m,by rw[dR (dS q hn)];exact q⟩
def sC.putE{P:Program}{w:World}{h:Heap}{a:Addr}{u:HO}(x:sC P w H h)(hn:H a=none)(new:gO P w (Y3G u) h a u):sC P w (Y3G u) h:=λb v e=>by
 by_cases hb:b=a
 ·subst hb;rw[bH]at e;cases e;exact new
 ·rw[dR hb]at e;exact(x b v e).stay (λc q _ r=>r) (λc q=>by rw[dR (dS q hn)];exact q) λc d q=>by rw[dR (dS q hn)];exact q
def cY.put{a:Addr}{o:HO}(I:Y6)(f:pC X pins H a)(hs:YdW a none)(new:gO X.prog X.w (Y3G o) s.heap a o):Y2Z (Y3G o) s :=
 ⟨I.ok,I.os,I.bare,I.base.putE hs f.1,I.loc,I.cell,by rw[dR (Ne.symm f.2.1)];exact I.free,λx c e=>by rw[dR (f.2.2.2.2.1 x c e)];exact Y9X x e,λp d=>by
  obtain⟨i,g,h⟩:=Y8V d;exact⟨i,by rw[dR (f.2.2.2.2.2 p d)];exact g,h⟩,sC.putE I.hok f.1 new,I.len⟩
def zW(b:Bool)(xs:Al):HO:=bif b then .tup xs else .lst xs
def zW.inj{b:Bool}{xs ys:Al}(h:Y4t b=Y8h b ys):xs=ys:=by
 cases b <;> (injection h with h;injection h)
def cY.sq{b:Bool}{a:Addr}{xs:Al}(I:Y6)(h:H a=Y4t b):∃its:Ag,eJ xs its/\Y1Z b a its.toArray:=by
 cases b with
 | false=>obtain⟨its,r,p,_⟩:=I.list (Y8Q);exact⟨its,r,p.isList⟩
 | true=>obtain⟨its,r,p,_⟩:=YdT h;exact⟨its,r,p⟩
end
def Itz(b1 b2:Bool)(l1 l2:Addr):It :=
  ⟨λi H=>∃xs ys x y,H l1=Y4t b1/\H l2=Y8h b2 ys/\Y0p=Y7/\Y1o=Y0b,
   λi H v H'=>∃q x y,v=.ref q/\H q=none/\H'=Y8A q [x,y]/\∀xs ys,H l1=Y4t b1->H l2=Y8h b2 ys->Y0p=Y7/\Y1o=Y0b,
   λi H=>∃xs ys,H l1=Y4t b1/\H l2=Y8h b2 ys/\(Y4R i\/ys.length<=i)⟩
structure ZD(z TI TO i1 i2:Addr):Prop where
 TIz:TI≠z
 TOz:TO≠z
 i1z:i1≠z
 i2z:i2≠z
 TITO:TI≠TO
 TIi1:TI≠i1
 TIi2:TI≠i2
 TOi1:TO≠i1
 TOi2:TO≠i2
 i12:i1≠i2
def ZD.seq(n:Nat):ZD (n+4) (n+2) (n+3) n (n+1) where
 TIz:=Y6z (show(n+2:Nat)=n+4 from h)
 TOz:=Y6z (show(n+3:Nat)=n+4 from h)
 i1z:=Y6z (show(n:Nat)=n+4 from h)
 i2z:=Y6z (show(n+1:Nat)=n+4 from h)
 TITO:=Y6z (show(n+2:Nat)=n+3 from h)
 TIi1:=Y6z (show(n+2:Nat)=n from h)
 TIi2:=Y6z (show(n+2:Nat)=n+1 from h)
 TOi1:=Y6z (show(n+3:Nat)=n from h)
 TOi2:=Y6z (show(n+3:Nat)=n+1 from h)
 i12:=Y6z (show(n:Nat)=n+1 from h)
def ZD.all{z TI TO i1 i2 l1 l2:Addr}(d:ZD z TI TO i1 i2){H:Hp}{o1 o2:HO}(e1:H l1=some o1)(e2:H l2=some o2)(h:∀b∈[z,TI,TO,i1,i2],H b=none):ZipApart z TI TO i1 i2 l1 l2 :=
 ⟨d.TIz,d.TOz,d.i1z,d.i2z,d.TITO,d.TIi1,d.TIi2,d.TOi1,d.TOi2,d.i12,dS e1 (h _ (by simp)),dS e1 (h _ (by simp)),dS e1 (h _ (by simp)),dS e1 (h _ (by simp)),dS e2 (h _ (by simp)),dS e2 (h _ (by simp)),dS e2 (h _ (by simp)),dS e2 (h _ (by simp))⟩
def WH{P:Program}{w:World}{K:Aa}{elts:Y0h}{x1}{tp:Pos}{b1 b2:Bool}{z TI TO i1 i2 l1 l2:Addr}(d:ZD z TI TO i1 i2):LZ P w K (Y9G x1 tp) (Itz b1 b2 l1 l2) [z,TI,TO,i1,i2] z (λi h=>ZAt b1 b2 z TI TO i1 i2 l1 l2 .none i h) where
 mem:=by simp
 obj:=λi h st b g=>by
  obtain⟨a,ο,u⟩:=st.to;obtain⟨ρ,m,_,d1⟩:=st.i1;obtain⟨o2,n,_,d2⟩:=st.i2;simp only[bN,List.not_mem_nil,or_false]at g;rcases g with rfl | rfl | rfl | rfl | rfl
  ·exact Ya0 st.z (by cases q)
  ·exact Ya0 st.ti (by cases q)
  ·exact Ya0 u (by cases q)
  ·exact Ya0 m (by rw[d1]at q;cases q)
  ·exact Ya0 n (by rw[d2]at q;cases q)
 keep:=λi h ι st k=>by
  obtain⟨a,b,u⟩:=st.to;exact⟨k _ (by simp) _ st.z,k _ (by simp) _ st.ti,Y2r b (k _ (by simp) _ u),st.i1.at λo e=>k _ (by simp) o e,st.i2.at λo e=>k _ (by simp) o e⟩
 item:=by
  intro X S U B κ i l s σ H E I p st G;subst S U B;obtain⟨χ,ψ,x,y,m,n,θ,β⟩:=G;obtain⟨u1,α,N⟩:=I.sq m;obtain⟨ε,C,O⟩:=I.sq n;obtain⟨ζ,L,φ⟩:=α.get θ;obtain⟨μ,R,υ⟩:=C.get β;have D:=d.all m n λb g=>(p b g).1;refine SK D st N O (x:=ζ) (y:=μ) (by simpa using L) (by simpa using R) λι Z' γ Z=>Y5 (wpAny_letOwnedTupleGo_zip Z'.z λη A j=>?_);have kk:∀b o,b ∉ [z,TI,TO,i1,i2]->Y26->η.get? b=Y9:=λb o g e=>by
   simp only[bN,List.not_mem_nil,or_false,not_or]at g;exact j.extBut b o g.1 (Z b o g.1 g.2.2.1 g.2.2.2.1 g.2.2.2.2 e)
  have I1:Y29 l H ({ s with heap:=η }):=Yfl kk p;have fq:pC X l H s.heap.objs.size:=I.fpOk (Yl) (Y5T);have ξ:Ydf=none:=by
   cases q:Ydf with
   | none=>rfl
   | some o=>exact absurd (aR (bK q) I.sz) (cO _)
  have nz:YdK z:=YeK (bK st.z) (by rw[<-q];exact cO _);obtain⟨a,b,u⟩:=Z'.to;refine⟨Y2D,Y99 H (.tup [x,y]),I1.put fq ξ ⟨⟨wX (by show 2<=64;decide),_,Ybo _ nz γ,rfl⟩,[ζ,μ],.cons φ (Yb7 υ),Y0i _ (Ybo _ nz γ) _ rfl⟩,rfl,Y3p _ x y fq.1 rfl (λxs' ω δ ν=>?_),
   ⟨A,Ybo _ d.TIz Z'.ti,Y2r b (Ybo _ d.TOz u),Z'.i1.at λo e=>Ybo o d.i1z e,Z'.i2.at λo e=>Ybo o d.i2z e⟩,λb g=>?_⟩
  ·rw[m]at δ;rw[n]at ν;rw[<-zW.inj δ,<-zW.inj ν];exact⟨θ,β⟩
  ·have τ:Yc4 b:=λq=>by
    obtain⟨a',ο,M⟩:=st.to;obtain⟨ρ,T,_⟩:=st.i1;obtain⟨o2,J,_⟩:=st.i2;have lt:∀{c o},Y4w->Yc4 c:=λe=>dL (bK e);simp only[bN,List.not_mem_nil,or_false]at g;rcases g with rfl | rfl | rfl | rfl | rfl
    ·exact lt st.z q
    ·exact lt st.ti q
    ·exact lt M q
    ·exact lt T q
    ·exact lt J q
   rw[dR τ];exact(p b g).1
 done:=by
  intro X S U B κ i l s σ H E I p st G;subst S U B;obtain⟨χ,ψ,m,n,hl⟩:=G;obtain⟨u1,α,N⟩:=I.sq m;obtain⟨ε,C,O⟩:=I.sq n;have D:=d.all m n λb g=>(p b g).1;have l1:=α.length;have l2:=C.length;have r:u1.toArray[i]?=none\/ε.toArray[i]?=none:=by
   rcases hl with h | h
   ·left;simp;exact Oo
   ·right;simp;exact Oo
  refine SJ (I.ok.hd κ) D st N O r λι Z=>Y0O (Yfl (λb o g e=>?_) p);simp only[bN,List.not_mem_nil,or_false,not_or]at g;exact Z b o g.1 g.2.2.1 g.2.2.2.1 g.2.2.2.2 e
 self:=λ_ _ _ _ _ st h=>wpAny_pyIter_zip st.z h
abbrev zA(b:Bool)(h:Heap)(l:Addr):Heap:=h.push (itO b l)
abbrev zB(b1 b2:Bool)(h:Heap)(l1 l2:Addr):Heap:=(zA b1 h l1).push (itO b2 l2)
abbrev zC(b1 b2:Bool)(h:Heap)(l1 l2:Addr):Heap:=(zB b1 b2 h l1 l2).push { cls:=.type "tuple",data:=.seq #[.ref h.objs.size,.ref (zA b1 h l1).objs.size] }
abbrev zE(b1 b2:Bool)(h:Heap)(l1 l2:Addr):Heap:=(zC b1 b2 h l1 l2).push { cls:=.type "tuple",data:=.seq #[.none,.none] }
abbrev zF(b1 b2:Bool)(h:Heap)(l1 l2:Addr):Heap:=(zE b1 b2 h l1 l2).push { cls:=.type "zip",data:=.fields #[.none,.bool false,.bool false,.ref (zB b1 b2 h l1 l2).objs.size,.ref (zC b1 b2 h l1 l2).objs.size] }
def aFj(b1 b2:Bool)(l1 l2:Addr)(xs ys:Ai):Meets (Builtin.«zip.__new__» ⟨[.type "zip",.ref l1,.ref l2],[]⟩) (λ_ R s=>Y1Z b1 l1 xs/\Y1Z b2 l2 ys/\R (Y67 (.ref (zE b1 b2 s.heap l1 l2).objs.size)) { s with heap:=zF b1 b2 s.heap l1 l2 }) :=
 .of_wp λm w A R s h=>by
  obtain⟨l,g,d,n,p⟩:=s;obtain⟨c,i,h⟩:=h;have r:=sub_zip;have j:mU b1 (Shared.heap ⟨l,g,d,n,p⟩) l1 xs:=c;have a:mU b2 (Shared.heap ⟨l.push (itO b1 l1),g,d,n,p⟩) l2 ys:=i.at λo e=>Y0Q e
  wp_walk using QW j,QW a
  exact Y5 h
section
variable{prog:Program}{w:World}{A:Around}{E:Ya}{s:Shared}
def aG5{b1 b2:Bool}{l1 l2:Addr}{xs ys:Ai}{Q:Ya}(hl1:Y1Z b1 l1 xs)(hl2:Y1Z b2 l2 ys)
  (h:∀h',ZAt b1 b2 (Y8d 4) (Y8d 2) (Y8d 3) s.heap.objs.size (Y24) l1 l2 .none 0 h'->(∀c o,Y4w->Y3P c)->Y1d (Y8d 4) ({ s with heap:=h' })) :
  Y1J (call (.type "zip") [.ref l1,.ref l2]):=by
 refine callType_new F.called_zip Dd (F.typeCall_zip_2 _ _) (F.newCall_zip_2 _ _) (λg=>F.args_object_init_3 g _ _) F.entry_zip_new (aFj b1 b2 l1 l2 xs ys) (Y05 hl1 hl2);have e:(zA b1 s.heap l1).objs.size=Y24:=gW ..;have a:(zB b1 b2 s.heap l1 l2).objs.size=Y8d 2:=by rw[gW,e]
 have i:(zC b1 b2 s.heap l1 l2).objs.size=Y8d 3:=by rw[gW,a]
 have l:(zE b1 b2 s.heap l1 l2).objs.size=Y8d 4:=by rw[gW,i]
 have d:(zF b1 b2 s.heap l1 l2).get? (zE b1 b2 s.heap l1 l2).objs.size=Y7c:=Y1u;have n:(zF b1 b2 s.heap l1 l2).get? (zC b1 b2 s.heap l1 l2).objs.size=Y7c:=Y0Q Y1u;have j:(zF b1 b2 s.heap l1 l2).get? (zB b1 b2 s.heap l1 l2).objs.size=Y7c:=Y7H Y1u;have m:(zF b1 b2 s.heap l1 l2).get? (zA b1 s.heap l1).objs.size=Y7c:=Y7H (Y0Q Y1u);have p:(zF b1 b2 s.heap l1 l2).get? s.heap.objs.size=Y7c:=Y7H (Y7H Y1u);show _/\_;rw[a,i,l]at d;rw[e,a]at j;rw[i]at n;rw[e]at m;rw[l];exact⟨Y0V d,h _ ⟨d,j,Y0J _ n,Y5m _ p rfl,Y5m _ m rfl⟩ λc o x=>Y0Q (Y7H (Y7H x))⟩
end
def aGV(b1 b2:Bool)(ta:TA):TI:=Ycy σ H (λvs H1=>∃l1 l2 xs ys,vs=[.ref l1,.ref l2]/\H1 l1=Y4t b1/\H1 l2=Y8h b2 ys/\R (Itz b1 b2 l1 l2) H1)
def aAv:YbS "zip"=Yc6 "zip":=Kk
section
variable{X:Cx}
def aEY{a b:Expr}{ta:TA}{p pos tp:Pos}{elts:Y0h}{x1}{b1 b2:Bool}(hg:Gl X "zip")(hm:X.mg "zip" = none)(ha:PA X [a,b] ta)(hs:Y1Y [a,b]=[(false,Y0d a),(false,Y0d b)])(hs2:Y2C b=[(false,Y0d b)]) :
  PI X (Y9G x1 tp) (Y4h "zip" p [a,b] []) (aGV b1 b2 ta):=by
 intro d s σ H R I h;refine Y9Y I hg hm aAv (Y9c (ha pos d s σ H _ I h) (λC c ⟨A,H1,I1,w,l⟩=>?_) (by rw[hs,hs2]) (by rw[hs2];rfl));obtain⟨B,D,J,G,e,y,u,q⟩:=l;subst e;cases w with
 | cons r rr =>
  cases rr with
  | cons r' rr =>
   cases rr;cases r;cases r';obtain⟨u1,_,j⟩:=I1.sq y;obtain⟨M,_,m⟩:=I1.sq u;refine aG5 j m λL Z n=>wpAny_pyIter_zip Z.z ?_;refine⟨_,[YdQ 4,YdQ 2,YdQ 3,c.heap.objs.size,YdQ 1],_,_,H1,rfl,I1.kept (t':=c.toks) n,WH (ZD.seq _),Z,λb i=>?_,q⟩;have g:c.heap.objs.size<=b:=by
    simp only[bN,List.not_mem_nil,or_false]at i;rcases i with rfl | rfl | rfl | rfl | rfl
    ·exact Y9r _
    ·exact Y9r _
    ·exact Y9r _
    ·exact Yl
    ·exact Y9r _
   exact Yan g g
def kZ(b1 b2:Bool){a b:Expr}{ta:TA}{p pos tp:Pos}{elts:Y0h}{x1}(hg:Gl X "zip")(hm:X.mg "zip" = none)(ha:IZ X [a,b] ta)(hs:Y1Y [a,b]=[(false,Y0d a),(false,Y0d b)]:=by rfl)(hs2:Y2C b=[(false,Y0d b)]:=by first | exact oB | exact mY | exact gZ | rfl) :
  OP X (Y9G x1 tp) (Y4h "zip" p [a,b] []) (aGV b1 b2 ta):=⟨aEY hg hm ha.p hs hs2⟩
end
def uO{b1 b2:Bool}{l1 l2:Addr}{xs ys:Al}{g:TG}{tb:TS}{D:pW}{σ:St}{H:Hp}(Pv:Yaa)(h0:Y6R 0)(hl:∀i σ H,Y3d->H l1=Y4t b1/\H l2=Y8h b2 ys)
  (hs:∀i x y q σ H H',Y0p=Y7->Y1o=Y0b->Y3d->H q=none->H' q=Yf [x,y]->Y0->g (.ref q) σ H' (Y5b ({ D with nx:=Pv (i+1),ct:=Pv (i+1),bk:=D.nx }))) (hd:∀σ H,Y6R YaM->Y3Y) :
  ∃W:Nat->Nat->St->Hp->Prop,(Y7j 0 m σ H)/\∀i m σ H,W i m σ H ->
   ((Itz b1 b2 l1 l2).stop i H/\Y3Y)\/((Itz b1 b2 l1 l2).go i H/\∃N:St->Hp->Prop,Y9R (N σ' H'->∃m',m' < m/\W (i+1) m' σ' H') ((Itz b1 b2 l1 l2).yld i H x H'->g x σ H' (Y5b ({ D with nx:=N,ct:=N,bk:=D.nx })))):=by
 refine YaO (m=YaM-i/\i<=YaM/\Y3d) (Y2h _ Y0L h0);rintro i m σ H ⟨rfl,u,p⟩;obtain⟨a,c⟩:=hl i σ H p;by_cases hlt:i<YaM
 ·have n:Y0p=some xs[i]:=Y3W;have h:Y1o=some ys[i]:=Y3W;refine .inr ⟨⟨xs,ys,_,_,a,c,n,h⟩,Pv (i+1),λσ' H' r=>Y0i _ Oo hlt r,λv H' y=>?_⟩;obtain⟨q,x,y,rfl,d,rfl,s⟩:=y;obtain⟨j,l⟩:=s xs ys a c;exact hs i x y q σ H _ j l p d bH (aT.upd d)
 ·have e:i=YaM:=Oo;subst e;refine Y4c ⟨xs,ys,a,c,?_⟩ (hd σ H p);exact Oo
end L2
namespace L2
open PySem
def rT:Ag->Y1V Af
 | [],[]=>true
 | .int i _::vs,n::ns=>decide (i=n)&&rT vs ns
 | _,_=>false
def vP(K:Aa)(a:Addr)(ns:Af):Bool :=
 match YcJ with
 | some o=>(match o.cls with | .type n=>n == "tuple" | _=>false)&&(match o.data with | .seq xs _=>decide (xs.size<=64)&&rT xs.toList ns | _=>false)
 | none=>false
theorem rT.vals:∀{vs:Ag}{ns:Af},rT vs ns=true->eJ (Y5j) vs
 | [],[],_=>.nil
 | v::vs,n::ns,h=>by
  cases v with
  | int i t =>
   have h':(decide (i=n)&&rT vs ns)=true:=h;rw[eB]at h';have e:=of_decide_eq_true h'.1;subst e;exact .cons ⟨t,rfl⟩ (rT.vals h'.2)
  | _=>cases h
 | [],_::_,h=>by cases h
 | v::_,[],h=>by cases v <;> cases h
def wI{K:Aa}{H:Hp}{a:Addr}{ns:Af}(h:vP K a ns=true):jC K H a (Y5j):=by
 unfold vP at h;split at h
 ·rename_i o ho
  rw[eB]at h;obtain⟨d,c⟩:=h;split at d
  ·rename_i n hn
   split at c
   ·rename_i xs m hx
    rw[eB]at c;have e:n = "tuple" := by simpa using d
    subst e;exact .inr ⟨o,xs,m,ho,hn,hx,wX (of_decide_eq_true c.1),rT.vals c.2⟩
   ·cases c
  ·cases d
 ·cases h
def jC.keep{K:Aa}{H H':Hp}{a:Addr}{xs:Al}(s:Y0)(h:Y49 K a):jC K H' a xs:=by
 rcases h with(h | ⟨o,h⟩) | h
 ·exact Ycx (s _ _ h)
 ·exact .inl (Y2G o (s _ _ h))
 ·exact .inr h
mutual
def tN(K:Aa)(H:Hp):Y0u PyData V
 | .none,v=>v=.non
 | .bool b,v=>v=.bl b
 | .int i,v=>v=.int i
 | .str x,v=>v=.str x
 | .list ds,v=>∃a xs,v=.ref a/\H a=some (.lst xs)/\nY K H ds xs
 | .tuple ds,v=>∃a xs,v=.ref a/\jC K H a xs/\nY K H ds xs
 | .dict kvs,v=>kvs=[]/\∃a,v=.ref a/\H a=some (.dK [])
def nY(K:Aa)(H:Hp):Y0u Y1f Al
 | [],vs=>vs=[]
 | d::ds,vs=>∃x xs,vs=x::xs/\tN K H d x/\nY K H ds xs
end
def tN.tup{K:Aa}{H:Hp}{a:Addr}{xs:Al}{ds:Y1f}(h:Y49 K a)(r:nY K H ds xs):tN K H (.tuple ds) (Yd):=by
 unfold tN;exact Y0i a xs h r
theorem nY.ints{K:Aa}{H:Hp}:∀ns:Af,nY K H (YdF) (Y5j)
 | []=>by unfold nY;rfl
 | n::ns=>by unfold nY;exact⟨_,_,rfl,by unfold tN;rfl,nY.ints ns⟩
section
variable{X:Cx}{pins:Ad}{σ:St}{H:Hp}{s:Shared}
mutual
theorem tN.reads(I:Y6):∀{d:PyData}{v:V}{u:Value},tN X.K H d v->Y41->∃as,Reads s.heap u d as
 | .none,_,u,h,r=>by
  cases(show _=V.non from h);cases(show u=Value.none from r);exact⟨_,.none⟩
 | .bool b,_,u,h,r=>by
  cases(show _=V.bl b from h);cases(show u=Value.bool b from r);exact⟨_,.bool b⟩
 | .int b,_,u,h,r=>by
  cases(show _=V.int b from h);obtain⟨t,q⟩:=(show ∃t,u=Value.int b t from r);cases q;exact⟨_,.int b t⟩
 | .str b,_,u,h,r=>by
  cases(show _=V.str b from h);obtain⟨t,q⟩:=(show ∃t,u=Value.str b t from r);cases q;exact⟨_,.str b t⟩
 | .list ds,v,u,h,r=>by
  unfold tN at h;obtain⟨a,l,rfl,g,c⟩:=h;cases(show u=Value.ref a from r);obtain⟨_,i,n,j,e⟩:=(show gO X.prog X.w H s.heap a (.lst l)from I.hok a _ g);obtain⟨as,q⟩:=nY.reads I c j;exact⟨_,.list e rfl rfl (by simpa using q)⟩
 | .tuple ds,v,u,h,r=>by
  unfold tN at h;obtain⟨a,l,rfl,g,c⟩:=h;cases(show u=Value.ref a from r);obtain⟨i,j,⟨o,e,m,n,hd⟩,_⟩:=I.tuple g;obtain⟨as,q⟩:=nY.reads I c j;exact⟨_,.tuple e m hd (by simpa using q)⟩
 | .dict kvs,v,u,h,r=>dA.reads I (d:=.dict kvs) (by unfold dA;unfold tN at h;exact h) r
theorem nY.reads(I:Y6):∀{ds:Y1f}{vs:Al}{us:Ag},nY X.K H ds vs->Y2m vs->∃as,ReadsAll s.heap us ds as
 | [],_,us,h,r=>by
  cases(show _=[]from h);cases r;exact⟨_,.nil⟩
 | d::ds,_,us,h,r=>by
  unfold nY at h;obtain⟨x,xs,rfl,h1,h2⟩:=h;cases r with
  | cons r1 r2 =>
   obtain⟨as,c⟩:=tN.reads I h1 r1;obtain⟨bs,a⟩:=nY.reads I h2 r2;exact⟨_,.cons c a⟩
end
end
@[irreducible] def aBB(K:Aa)(b:Bool):R2:=λx y H Q=>∃d d',tN K H d x/\tN K H d' y/\Y5E d/\Y5E d'/\Y3e (b == Yen d)
section
variable{X:Cx}
def aFa(K:Aa)(hu:Y3M 64<cLine)(hK:X.K=K:=by rfl):Y47 .NotEq (aBB K false):=by
 subst hK;unfold aBB;intro a s σ H x y v u Q I n l h;obtain⟨d,r,c,g,i,m,q⟩:=h;obtain⟨p,e⟩:=c.reads I n;obtain⟨bs,j⟩:=g.reads I l;exact SeqAt.compareNe_shaped e j i m hu ⟨.bl _,H,I,by show _=_;simp,q⟩
end
section
variable{K:Aa}{H:Hp}{p:Addr}{xs:Al}{i:Int}{v:V}{Q:VK}
def reK{b:Bool}{x y:V}{d d':PyData}(h1:tN K H d x)(h2:tN K H d' y)(s1:Y5E d)(s2:Y5E d')(q:Y3e (b == Yen d)):aBB K b x y H Q:=by
 unfold aBB;exact⟨d,d',h1,h2,s1,s2,q⟩
def vC(h:Y49 K p)(e:ED xs i=Yw)(q:Q v H):rIx K (Y21) (Y1s) H Q:=YaV ⟨p,xs,i,v,rfl,rfl,h,e,q⟩
end
def II(xs:Al)(k:Nat):mT xs (some (k:Int)) none=xs.drop k:=by
 unfold mT;rw[HT.HC,HT.xA];by_cases h:Y4S k
 ·rw[Nat.min_eq_left h];exact List.take_of_length_le (by rw[List.length_drop];exact Yl)
 ·rw[Nat.min_eq_right Oo,List.drop_of_length_le (Yl),List.drop_of_length_le Oo,List.take_nil]
def RV(xs:Al)(k:Nat):mT xs none (some (k:Int))=xs.take k:=by
 unfold mT;rw[HT.HC,HT.xA,List.drop_zero,Nat.sub_zero];by_cases h:Y4S k
 ·rw[Nat.min_eq_left h]
 ·rw[Nat.min_eq_right Oo,List.take_of_length_le (Yl),List.take_of_length_le Oo]
@[irreducible] def aBw(K:Aa):V->Y1e->Y8T:=aGy K
def wY{X:Cx}(K:Aa)(h:X.K=K:=by rfl):SlR X (aBw K):=by subst h;unfold aBw;exact QB
def slL{K:Aa}{H:Hp}{a:Addr}{xs ys:Al}{lo hi:Y1e}{Q:VK}(h:H a=Y0I)(e:mT xs lo hi=ys)(k:∀q H',H q=none->H' q=Y0w->Y0->Y0r q):aBw K (Yd) lo hi H Q:=by
 unfold aBw;exact Y0i a xs Y8Q (λp c=>by rw[e];exact k p _ c bH (aT.upd c))
section
variable{σ:St}{js:Ae}{te:TE}{H:Hp}{Q:VK}
def BV{R:Yah V}{ys:Al}{y:V}(h:∀(j:Nat) z,ys[j]?=Y83->R j z)(r:R ys.length y):∀(j:Nat) z,(ys++[y])[j]?=Y83->R j z:=λj z a=>by
 by_cases hji:j<ys.length
 ·rw[cJ hji]at a;exact h j z a
 ·rw[cB Oo]at a;have:j-ys.length=0:=by
   by_cases q:j-ys.length=0
   ·exact q
   ·rw[bI (by simp;exact Oo)]at a;cases a
  rw[this]at a;have c:y=z:=by simpa using a
  have:j=ys.length:=Oo;subst this c;exact r
def yW{J:It}{n:Nat}(src:Yah V)(R:Yab)(hR:Y9U Y6F (R i y H1->R i y H2))(hz:Y7Z n)
  (hg:∀i H',Y0->i<n->Y8c H'/\∀x H3,Y8a H' x H3->H3=H'/\src i x) (hst:∀H',Y0->J.stop n H')
  (hs:∀i x H' (Q':VK),src i x->i<n->Y0->(∀y H5,aT H' H5->R i y H5->Q' y H5)->te (Y7::Y11) H' Q')
  (hd:Y3v (H D=none) (Y0F=Y0w->Y0->Y2w n->(∀(i:Nat) (y:V),Y1o=Y0b->R i y H')->Y18)):nQ J σ js BQ te H Q:=by
 refine LE (J:=J) (n:=n) src hz (λD i ys H'=>H D=none/\Y0/\∀(i:Nat) (y:V),Y1o=Y0b->R i y H') (λD H1 a _ s=>Y2r s (λi y h=>by simp at h))
  (λD i ys H' g _ p=>hg i H' p.2.1 g) (λD ys H' _ p=>hst H' p.2.1) (λD i x ys H' A g d a p=>?_) (λD ys H' d a e p=>hd D ys H' a e p.2.1 d p.2.2)
 refine hs i x H' _ A g p.2.1 λy H5 c r=>⟨c _ _ a,λH6 u l=>Y05 p.1 (aT.thru p.1 (p.2.1.trans c) l)⟩;have m:=l.t (c _ _ a);exact BV (R:=λj z=>R j z H6) (λj z w=>hR j z _ _ (c.t.trans m) (p.2.2 j z w)) (by rw[d];exact hR i y _ _ m r)
def dO{K:Aa}{a:Addr}{xs:Al}(R:Yab)(hR:Y9U Y6F (R i y H1->R i y H2))(hz:Y4R 100000)(hl:H a=Y0I)
  (hs:∀i x H' (Q':VK),Y0p=Y7->Y0->(∀y H5,aT H' H5->R i y H5->Q' y H5)->te (Y7::Y11) H' Q')
  (hd:Y3v (H D=none) (Y0F=Y0w->Y0->Y2w xs.length->(∀(i:Nat) (y:V),Y1o=Y0b->R i y H')->Y18)):nQ (Itl K a) σ js BQ te H Q :=
 yW (λi x=>Y0p=Y7) R hR hz (λi H' s c=>Ycn ⟨xs,xs[i],fV.of (s _ _ hl),by simp[c]⟩ ⟨y.1,y.2 xs (fV.of (s _ _ hl))⟩) (λH' s=>⟨xs,fV.of (s _ _ hl),Yl⟩)
  (λi x H' Q' d _ s k=>hs i x H' Q' d s k) hd
def uP{K:Aa}{a:Addr}{xs:Al}(R:Yab)(hR:Y9U Y6F (R i y H1->R i y H2))(hz:Y4R 100000)(hl:H a=Y16)
  (hs:∀i x H' (Q':VK),Y0p=Y7->Y0->(∀y H5,aT H' H5->R i y H5->Q' y H5)->te (Y7::Y11) H' Q')
  (hd:Y3v (H D=none) (Y0F=Y0w->Y0->Y2w xs.length->(∀(i:Nat) (y:V),Y1o=Y0b->R i y H')->Y18)):nQ (Itt K a) σ js BQ te H Q :=
 yW (λi x=>Y0p=Y7) R hR hz (λi H' s c=>Ycn ⟨xs,xs[i],jC.of (s _ _ hl),by simp[c]⟩ ⟨y.1,y.2 xs (jC.of (s _ _ hl))⟩) (λH' s=>⟨xs,jC.of (s _ _ hl),Yl⟩)
  (λi x H' Q' d _ s k=>hs i x H' Q' d s k) hd
def kK{lo:Int}{n:Nat}(R:Yab)(hR:Y9U Y6F (R i y H1->R i y H2))(hz:Y7Z n)
  (hs:∀i H' (Q':VK),i<n->Y0->(∀y H5,aT H' H5->R i y H5->Q' y H5)->te (Yb (lo+(i:Nat))::Y11) H' Q')
  (hd:Y3v (H D=none) (Y0F=Y0w->Y0->Y2w n->(∀(i:Nat) (y:V),Y1o=Y0b->R i y H')->Y18)):nQ (Itr lo n) σ js BQ te H Q :=
 yW (λi x=>x=.int (lo+(i:Nat))) R hR hz (λi H' s a=>Ycn a y) (λH' s=>Yl)
  (λi x H' Q' c a s k=>by subst c;exact hs i H' Q' a s k) hd
def aW.thru{p l:Addr}{H0 H1 H2:Hp}(hl:H0 l=none)(s:aW p H0 H1)(b:aW l H1 H2):aW p H0 H2:=λc o e=>by
 have n:=kC.ne e;have a:H0 c=Y9:=by rw[kC.at n]at e;exact e
 have d:c≠l:=λz=>by subst z;rw[hl]at a;cases a
 exact kC.of n (b.at d (s.at n a))
end
theorem bD.ofIdx{H:Hp}:∀{ds:Y1f}{ys:Al},Y2w ds.length->(∀(i:Nat) (y:V),Y1o=Y0b->∃d,ds[i]?=some d/\Y0M d y)->Y9J ys
 | [],[],_,_=>bD.nil
 | d::ds,y::ys,hl,h=>by
  obtain⟨d',e,r⟩:=h 0 y rfl;cases(show d=d' by simpa using e);exact bD.cons r (bD.ofIdx (by simpa using hl) λi z a=>by simpa using h (i+1) z (by simpa using a))
 | [],_::_,hl,_=>by simp at hl
 | _::_,[],hl,_=>by simp at hl
theorem mZ{P:Yah Int}:∀{ys:Al},(∀(i:Nat) (y:V),Y1o=Y0b->∃n,y=Y5I/\P i n)->∃ns:Af,ys=Y5j/\∀(i:Nat) n,ns[i]?=Y7d->P i n
 | [],_=>⟨[],rfl,λi n h=>by simp at h⟩
 | y::ys,h=>by
  obtain⟨n,rfl,hn⟩:=h 0 y rfl;obtain⟨ns,rfl,d⟩:=mZ (P:=λi=>P (i+1)) (ys:=ys) λi z c=>h (i+1) z (by simpa using c);refine⟨n::ns,rfl,λi m a=>?_⟩;cases i with
  | zero=>cases(show n=m by simpa using a);exact hn
  | succ i=>exact d i m (by simpa using a)
end L2
namespace L2
open PySem PySem.Spec PyProof.Rows
def iX.u1{k:Nat}{A:Around}(r:iX k A):Y75 1<cLine:=by have:=r.units;exact Oo
@[irreducible] def rDG:R2:=λx y H Q=>∃a v,x=Yd/\oE H a y (Yw)/\Q v H
@[irreducible] def rDP(D:pW)(σ:St)(x y v:V)(H:Hp):Prop:=∃a H4,x=Yd/\IV H a y v H4/\Y8o H4
def aC5(td ty tv:TE):TS:=λD σ H=>tv σ H λv H1=>td σ H1 λx H2=>ty σ H2 λy H3=>rDP D σ x y v H3
structure aCP(X:Cx)(pos:Pos)(keys:Y8q Expr)(values:Y0h)(trs:Y3l TE TE):Prop where p:PPs X pos keys values trs
section
variable{X:Cx}{o i value k v:Expr}{td ty tv tk:TE}{pos pos':Pos}{ks:Y8q Expr}{vs:Y0h}{trs:Y3l TE TE}
def gQ(hu:Y3M 1<cLine)(ho:Yh o td)(hi:Yh i ty)(hs:aFU i:=by intro _ _;rfl):Yh (Y7y o i) (tOp rDG td ty):=⟨by unfold rDG;exact aBU hu ho.p hi.p hs⟩
def iY(hu:Y3M 1<cLine)(ho:Yh o td)(hi:Yh i ty)(hv:Yh value tv)(hs:Y9N value (Ye6 o i)=Y4Q:=by rfl) :
  IY X (Y65 [Ye6 o i] value) (aC5 td ty tv):=⟨by unfold aC5 rDP;exact aBM hu ho.p hi.p hv.p hs⟩
def aA5:aCP X pos [] [] []:=⟨pps_nil⟩
def BJ(hk:Yh k tk)(hv:Yh v tv)(hr:aCP X pos ks vs trs):aCP X pos (some k::ks) (v::vs) ((tk,tv)::trs):=⟨YH hk.p hv.p hr.p⟩
def aBa(h:aCP X pos ks vs trs)(hall:ks.all (·.isSome)=true:=by rfl)(hl:ks.length=vs.length:=by rfl)(h0:ks≠[]:=by intro h;cases h)(h15:ks.length<=15:=by decide):Yh (.Dict ks vs pos) (aC4 trs):=⟨aBT h.p hall hl h0 h15⟩
end
def dgS{H:Hp}{p:Addr}{kvs:Y2P}{x:Str}{v:V}{Q:VK}(e:H p=Y5w kvs)(hv:Y8v (.inr x)=Yw)(q:Q v H):rDG (Y21) (.str x) H Q:=by
 unfold rDG;exact⟨p,v,rfl,hv ▸ oE.k (k:=.inr x) e,q⟩
def dpS{H:Hp}{p:Addr}{kvs kvs2:Y2P}{x:Str}{v:V}{D:pW}{σ:St}(e:H p=Y5w kvs)(hl:Y8m 64)(hk:Y4X (.inr x) v=kvs2)(q:∀H',H' p=Y5w kvs2->Y12->Y8o H') :
  rDP D σ (Y21) (.str x) v H:=by
 unfold rDP;exact Y0i p _ (IV.k (k:=.inr x) e (aI hl Dd)) (q _ (by rw[hk];exact bH) aW.self)
def aW.tD{H H':Hp}{p:Addr}(s:Y12){xs:Y2P}(hp:H p=Y5w xs):Y2B:=Yeo (qL h hp (by intro z;cases z)) h
section
variable{σ:St}{js:Ae}{te:TE}{H:Hp}{Q:VK}
end
structure OS(p L:Addr)(Fd:Y1P Nat):Prop where
 but:∀n D H1 H2,D≠p->D≠L->aW D H1 H2->Fd n H1->Fd n H2
 same:∀n H1 H2,aT H1 H2->Fd n H1->Fd n H2
 dic:∀n H',Fd n H'->∃xs,H' p=Y5w xs
 np:∀n H' D,Fd n H'->Y0F=none->D≠p/\D≠L
section
variable{σ:St}{js:Ae}{te:TE}{H:Hp}{Q:VK}
def aCq{J:It}{n:Nat}{p L:Addr}{Fd:Y1P Nat}(fl:OS p L Fd)(F0:Fd 0 H)(src:Yah V)(R:Yab)(hR:Y9U Y6F (R i y H1->R i y H2))(hz:Y7Z n)
  (hg:∀i H',Y12->i<n->Y8c H'/\∀x H3,Y8a H' x H3->H3=H'/\src i x) (hst:∀H',Y12->J.stop n H')
  (hs:∀i x H' (Q':VK),src i x->i<n->Fd i H'->Y12->(∀y H5,Fd (i+1) H5->aW p H' H5->R i y H5->Q' y H5)->te (Y7::Y11) H' Q')
  (hd:Y3v (H D=none) (Y0F=Y0w->Fd n H'->Y12->Y2w n->(∀(i:Nat) (y:V),Y1o=Y0b->R i y H')->Y18)):nQ J σ js BQ te H Q:=by
 refine LE (J:=J) (n:=n) src hz (λD i ys H'=>H D=none/\Fd i H'/\Y12/\∀(i:Nat) (y:V),Y1o=Y0b->R i y H') (λD H1 c _ s=>⟨c,fl.same _ _ _ s F0,s.but,λi y h=>by simp at h⟩)
  (λD i ys H' m _ q=>hg i H' q.2.2.1 m) (λD ys H' _ q=>hst H' q.2.2.1) (λD i x ys H' C m d c q=>?_) (λD ys H' d c g q=>hd D ys H' c g q.2.1 q.2.2.1 d q.2.2.2)
 obtain⟨np,G⟩:=fl.np _ _ _ F0 q.1;refine hs i x H' _ C m q.2.1 q.2.2.1 λy H5 F5 e r=>?_;obtain⟨I,w⟩:=fl.dic _ H' q.2.1;have a:=e.at np c;refine⟨a,λH6 A l=>Y2X q.1 (fl.but _ D _ _ np G l F5) (aW.thru q.1 (q.2.2.1.trans e) l)⟩;have u:=l.t a;exact BV (R:=λj z=>R j z H6) (λj z B=>hR j z _ _ ((e.tD w).trans u) (q.2.2.2 j z B)) (by rw[d];exact hR i y _ _ u r)
def xQ{lo:Int}{n:Nat}{p L:Addr}{Fd:Y1P Nat}(fl:OS p L Fd)(F0:Fd 0 H)(R:Yab)(hR:Y9U Y6F (R i y H1->R i y H2))(hz:Y7Z n)
  (hs:∀i H' (Q':VK),i<n->Fd i H'->Y12->(∀y H5,Fd (i+1) H5->aW p H' H5->R i y H5->Q' y H5)->te (Yb (lo+(i:Nat))::Y11) H' Q')
  (hd:Y3v (H D=none) (Y0F=Y0w->Fd n H'->Y12->Y2w n->(∀(i:Nat) (y:V),Y1o=Y0b->R i y H')->Y18)):nQ (Itr lo n) σ js BQ te H Q :=
 aCq fl F0 (λi x=>x=.int (lo+(i:Nat))) R hR hz (λi H' s a=>Ycn a y) (λH' s=>Yl)
  (λi x H' Q' c a f s k=>by subst c;exact hs i H' Q' a f s k) hd
end
def aAL(K:Aa)(a:Addr)(n:Nat):It :=
 ⟨Yeg (Y3i K H a/\Y5u n/\i<n/\Y28 (n-1-i)=Y7),λi H x H'=>H'=H/\∀xs,Y3i K H a->Y28 (n-1-i)=Y7,λi H=>i=n⟩
def WI{P:Program}{w:World}{K:Aa}{tg:Expr}(a it:Addr)(n:Nat):LZ P w K tg (aAL K a n) [it] it (λi h=>h.IsRevIter it a ((n:Int)-1-(i:Nat))) where
 mem:=by simp
 obj:=λi h st b l=>by
  have e:b=it:=by simpa using l
  subst e;obtain⟨o,e,c,d⟩:=st;exact Y1v e (λv z=>by rw[d]at z;cases z)
 keep:=λi h m st k=>st.at λo e=>k it (by simp) o e
 item:=by
  intro X M L A N i g s σ H E I r st G;subst M L A;obtain⟨θ,x,R,ι,S,O⟩:=G;obtain⟨α,rv,p,η⟩:=I.list R;obtain⟨u,ε,ru⟩:=rv.get O;obtain⟨D,C,Z,J,B,y⟩:=r it (by simp);have β:(n:Int)-1-(i:Nat)=((n-1-i:Nat):Int):=Oo;have st:s.heap.IsRevIter it a ((n:Int)-1-(i:Nat)):=st;rw[β]at st;refine wpAny_pyNext_rev_item st p.isList (x:=u) (by simpa using ε) λm j U=>?_;have I1:Y29 g H ({ s with heap:=m }):=Y9n (λb o l e=>(U.2 b l).trans e) D C J B y;have γ:((n-1-i:Nat):Int)-1=(n:Int)-1-((i+1:Nat):Int):=Oo;rw[γ]at j;obtain⟨o,e,c,d⟩:=id j;exact Yz u (QZ (s:={ s with heap:=m }) e c d Dd ⟨x,H,I1,ru,Y0O (λζ T=>by rw[I.list_inj T R];exact O),j,λb l=>(r b l).1⟩)
 done:=by
  intro X M L A N i g s σ H E I r st G;subst M L A;have S:i=n:=G;subst S;obtain⟨D,C,Z,J,B,y⟩:=r it (by simp);have st:s.heap.IsRevIter it a ((i:Int)-1-(i:Nat)):=st;rw[show(i:Int)-1-(i:Nat)=-1 by exact Oo]at st;exact wpAny_pyNext_rev_end (I.ok.hd N) st λm δ=>Y0O (Y9n (λb o l e=>δ b o l e) D C J B y)
 self:=λ_ _ _ _ _ st h=>wpAny_pyIter_revIter st h
def aI6(K:Aa)(ta:TA):TI:=Ycy σ H (λvs H1=>∃l xs,vs=[Y1j]/\Y3i K H1 l/\R (aAL K l xs.length) H1)
def VB:YbS "reversed"=Yc6 "reversed":=Kk
section
variable{X:Cx}{tg:Expr}
def VW{a:Expr}{ta:TA}{p pos:Pos}(hg:Gl X "reversed")(hm:X.mg "reversed" = none)(ha:IZ X [a] ta)(hs:Y2C a=[(false,Y0d a)]:=by first | exact oB | exact mY | exact gZ | rfl) :
  OP X tg (Y4h "reversed" p [a] []) (aI6 X.K ta):=⟨by
 intro c s σ H R I h;refine Y9Y I hg hm VB (Y9c (ha.p pos c s σ H _ I h) (λz d ⟨y,H1,I1,r,m⟩=>?_) (by rw[hs];rfl) (by rfl));obtain⟨l,j,e,n,q⟩:=m;subst e;obtain⟨u,rfl,ru⟩:=nF r;cases ru;obtain⟨g,rv,p,A⟩:=I1.list n;have B:=rv.length;refine call_reversed_list p.isList ?_;have e:((g.toArray.size:Nat):Int)-1=(j.length:Int)-1-((0:Nat):Int):=by simp;exact Oo
 rw[e];refine wpAny_pyIter_revIter (l:=l) (i:=(j.length:Int)-1-((0:Nat):Int)) (Y8Z _) ⟨d.heap.objs.size,Yfw,_,_,H1,rfl,Ydu (Y64 _ e),WI l _ j.length,Y8Z _,λb w=>?_,q⟩;have e:YfW b:=by simpa using w
 subst e;exact Yan Yl Yl⟩
end
def RG{K:Aa}{a:Addr}{xs:Al}{g:TG}{tb:TS}{D:pW}{σ:St}{H:Hp}(Pv:Yaa)(h0:Y6R 0)(hl:∀i σ H,Y4S i->Y3d->Y3i K H a)
  (hs:∀i x σ H,Y5f->Y28 (Y4g 1-i)=Y7->Y3d->g x σ H (Y5b ({ D with nx:=Pv (i+1),ct:=Pv (i+1),bk:=D.nx }))) (hd:∀σ H,Yee->Y3Y) :
  ∃W:Nat->Nat->St->Hp->Prop,(Y7j 0 m σ H)/\∀i m σ H,W i m σ H ->
   ((aAL K a xs.length).stop i H/\Y3Y)\/((aAL K a xs.length).go i H/\∃N:St->Hp->Prop,Y9R (N σ' H'->∃m',m' < m/\W (i+1) m' σ' H') ((aAL K a xs.length).yld i H x H'->g x σ H' (Y5b ({ D with nx:=N,ct:=N,bk:=D.nx })))):=by
 refine YaO (m=Y4g i/\Y4S i/\Y3d) ⟨xs.length,by simp,Y0L,h0⟩;rintro i m σ H ⟨rfl,d,p⟩;have q:=hl i σ H d p;by_cases hlt:Y5f
 ·have h:Y28 (Y4g 1-i)=some (xs[xs.length-1-i]'Oo):=Y3W;refine .inr ⟨Y6e xs _ q hlt h,Pv (i+1),λσ' H' c=>Y0i (Y4g (i+1)) Oo hlt c,Ye7⟩;obtain⟨e,y⟩:=y;subst e;exact hs i x σ _ hlt (y xs q) p
 ·have e:Y4V i:=Oo;subst e;exact .inl (Y0O (hd σ H p))
def HZ:Y1F (Y1F TGs)
 | _,0=>aFw
 | i,n+1=>ZS (nO i) (HZ (i+1) n)
def gN(K:Aa)(n:Nat):TG:=aFv K n (HZ 0 n)
theorem CY{H:Hp}{r:St}{Q:Y2J}:∀(vs:Al) (pre os:St),os.length=vs.length->Q (pre++((vs.map some) ++ r)) H->HZ pre.length vs.length vs (pre++(os++r)) H Q
 | [],pre,[],_,q=>⟨rfl,q⟩
 | v::vs,pre,o::os,hl,q=>by
  refine⟨v,vs,rfl,?_⟩;show HZ (pre.length+1) vs.length vs ((pre++(o::os++r)).set pre.length (some v)) H Q;have e1:(pre++(o::os++r)).set pre.length (some v)=(pre++[some v])++(os++r):=by
   rw[List.set_append_right _ _ (aL _),Nat.sub_self,List.append_assoc];rfl
  have a:pre.length+1=(pre++[some v]).length:=by rw[aU];rfl
  rw[e1,a];refine CY vs (pre++[some v]) os (by simpa using hl) ?_;rw[List.append_assoc];exact q
@[irreducible] def pM(K:Aa)(n:Nat)(J:It)(σ:St)(js:Ae)(tc:TT)(te:TE)(H1:Hp)(Q:VK):Prop:=∀D,H1 D=none->∃W:Nat->Nat->Al->Hp->Prop,(Y7j 0 m [] (Y2s H1 D [])) /\
 ∀i m ys H2,W i m ys H2->H2 D=Y0w/\((J.stop i H2/\Y1d D H2)\/(Y8c H2/\YaY ys.length/\∀x H3,Y8a H2 x H3->∃a vs,x=Yd/\jC K H3 a vs/\Y4O n /\
  uY tc (Y6t) H3 λb H4=>if b=true then BR te (Y6t) H4 λy H5=>H5 D=Y0w/\∃m',m' < m/\W (i+1) m' (ys++[y]) (Y2s H5 D (ys++[y]))
   else H4 D=Y0w/\∃m',m' < m/\W (i+1) m' ys H4))
def MR(K:Aa)(n:Nat)(wi:TI)(js:Ae)(tc:TT)(te:TE):TE:=YeO σ H (λJ H1=>pM K n J σ js tc te H1 Q)
section
variable{X:Cx}{scope:Scope}{xs:Ah}{N':Ah}{js:Ae}{elt iter:Expr}{pos:Pos}{tg:Expr}{ifs:Y0h}{tc:TT}{te:TE}{wi:TI}
def pM.turns{K:Aa}{n:Nat}{J:It}{σ:St}{H:Hp}{Q:VK}(h:pM K n J σ js tc te H Q):LY (λx H vs=>∃a,x=Yd/\jC K H a vs/\Y4O n) J σ js (uY tc) (BR te) H Q:=λD j=>by
 unfold pM at h;obtain⟨W,p,r⟩:=h D j;refine⟨W,p,λi m d H2 w=>?_⟩;obtain⟨hd,g⟩:=r i m d H2 w;refine⟨hd,g.imp_right λ⟨a,b,c⟩=>Y2r b (λx H3 y=>?_)⟩;obtain⟨a,vs,e,q,l,t⟩:=c x H3 y;exact⟨vs,⟨a,e,q,l⟩,t⟩
def eG.many(S:Y4E xs)(hg:∀C fp s₀ H₀,PGw (Y43) tg (gN X.K xs.length)):OU X scope tg xs.length (λ_=>Y8N X) (YeA) N' js (λx H vs=>∃a,x=Yd/\jC X.K H a vs/\Y4O xs.length) (gN X.K xs.length) :=
 S.blk (λ⟨_,_,_,l⟩=>l) (λC fp s₀ H₀=>(hg C fp s₀ H₀).p) (λ{x H vs c σ Q} ⟨a,e,q,l⟩ d h=>⟨a,vs,e,q,l,by rw[<-l];exact CY (r:=Y11) vs [] c (by rw[d,l]) h⟩)
end
section
variable{X:Cx}{scope:Scope}{x1 x2 x3 y:Str}{N':Ah}{js:Ae}{elt iter tg:Expr}{ifs:Y0h}{py pos spos:Pos}{tc:TT}{te:TE}{wi:TI}{i:Nat}
def JB{xs:Ah}{k:Nat}{x:Str}{p:Pos}(S:Y4E xs)(h:Y28 k=Y7)(C:Addr)(fp:Y0v)(s₀:Shared)(H₀:Hp):PGw (Y43) (.Name x p) (nO k) :=
 have l:=S.own x (aF h)
 dH S.nd (S.pre k x h) (.inl (lookup_relabel_local l)) (.inr (lookup_relabel_local l))
def VY{p1 p2 pt:Pos}{kk:Nat}(S:Y4E [x1,x2])(C:Addr)(fp:Y0v)(s₀:Shared)(H₀:Hp):PGw (Y43) (Y3N [Y86,Y87] kk) (gN X.K 2) :=
 mJ rfl (eK (JB S rfl C fp s₀ H₀) (eK (JB S rfl C fp s₀ H₀) kD))
def VZ{p1 p2 p3 pt:Pos}{kk:Nat}(S:Y4E [x1,x2,x3])(C:Addr)(fp:Y0v)(s₀:Shared)(H₀:Hp):PGw (Y43) (Y3N [Y86,Y87,.Name x3 p3] kk) (gN X.K 3) :=
 mJ rfl (eK (JB S rfl C fp s₀ H₀) (eK (JB S rfl C fp s₀ H₀) (eK (JB S rfl C fp s₀ H₀) kD)))
def kE{p1 p2 pt:Pos}{kk:Nat}(S:Y4E [x1,x2])(hi:OP X (Y3N [Y86,Y87] kk) iter wi)(ht:Yar Y43 ifs tc)(he:Yaq Y43 elt te)
  (hs:∀x,Y6W x=Y7e:=by intro _;rfl):Yh (Y4n [Y4D (Y3N [Y86,Y87] kk)]) (MR X.K 2 wi js tc te) :=
 ⟨YdS (S.many (VY S)) hi.p ((ht C fp s₀ H₀).p.mono) ((he C fp s₀ H₀).p.mono) pM.turns hs⟩
def SQ{p1 p2 p3 pt:Pos}{kk:Nat}(S:Y4E [x1,x2,x3])(hi:OP X (Y3N [Y86,Y87,.Name x3 p3] kk) iter wi)(ht:Yar Y43 ifs tc)(he:Yaq Y43 elt te)
  (hs:∀x,Y6W x=Y7e:=by intro _;rfl):Yh (Y4n [Y4D (Y3N [Y86,Y87,.Name x3 p3] kk)]) (MR X.K 3 wi js tc te) :=
 ⟨YdS (S.many (VZ S)) hi.p ((ht C fp s₀ H₀).p.mono) ((he C fp s₀ H₀).p.mono) pM.turns hs⟩
def vX{p1 p2 pt:Pos}{kk:Nat}(S:Y4E [x1,x2])(hN:X.N.Nodup)(hiN:Y3E=Y0b)(hy:Y6N y Y30)(hi:OP X (Y3N [Y86,Y87] kk) iter wi)(ht:Yar Y43 ifs tc)(he:Yaq Y43 elt te)
  (hsw:YeX (Y4n [Y4D (Y3N [Y86,Y87] kk)]) (some (Y4x)) spos.line=pure true:=by rfl) (hs:∀x,Y6W x=Y7e:=by intro _;rfl) :
  IY X (.Assign [Y4x] (Y4n [Y4D (Y3N [Y86,Y87] kk)]) spos) (GU (MR X.K 2 wi js tc te) (nO i)) :=
 ⟨zQ (S.many (VY S)) hN hiN hy hi.p (λC fp s₀ H₀=>(ht C fp s₀ H₀).p.mono) (λC fp s₀ H₀=>(he C fp s₀ H₀).p.mono) pM.turns hsw hs⟩
end
theorem FC{α β:Type}{R:Y0u α β}:∀{l:Yu}{m:Ya6}{i:Nat}{b:β},Paired R l m->m[i]?=some b->∃a,l[i]?=Y7a/\R a b
 | _,_,_,_,.nil,h=>by simp at h
 | _,_,0,b,.cons h t,e=>⟨_,rfl,by cases(show _=b by simpa using e);exact h⟩
 | _,_,i+1,b,.cons h t,e=>by
  obtain⟨a,h1,h2⟩:=FC t (i:=i) (by simpa using e);exact⟨a,by simpa using h1,h2⟩
section
variable{js:Ae}{te:TE}{tc:TT}{σ:St}{H:Hp}{Q:VK}
def UV{K:Aa}{n:Nat}{J:It}{α:Type}{as:Yu}(p:Y1V α)(Src:Y0u α V)(R:α->Y8U)(hR:∀c y H1 H2,Y6F->R c y H1->R c y H2)(hz:Y7Z as.length)
  (hg:∀i H',Y0->i<as.length->Y8c H'/\∀x H3,Y8a H' x H3->H3=H'/\∃c,as[i]?=Y1h/\Src c x) (hst:∀H',Y0->J.stop as.length H')
  (hs:∀x c H',c∈as->Src c x->Y0->∃a vs,x=Yd/\jC K H' a vs/\Y4O n/\(∀Q':Bool->Hp->Prop,(∀H5,aT H' H5->Q' (p c) H5)->tc (Y6t) H' Q') /\
   ∀H5 (Q':VK),aT H' H5->p c=true->(∀y H6,aT H5 H6->R c y H6->Q' y H6)->te (Y6t) H5 Q')
  (hd:Y3v (H D=none) (Y0F=Y0w->Y0->Y9w (R c y H') (as.filter p) ys->Y18)):pM K n J σ js tc te H Q:=by
 unfold pM;intro D C;have mono:∀{H1 H2:Hp} {l:Yu} {ys:Al},Y6F->Y9w (R c y H1) l ys->Y9w (R c y H2) l ys:=by
  intro H1 H2 l ys s h
  induction h with
  | nil=>exact .nil
  | cons h t ih=>exact .cons (hR _ _ _ _ s h) ih
 have snoc:∀{H1:Hp} {l:Yu} {ys:Al} {c:α} {y:V},Y9w (R c y H1) l ys->R c y H1->Y9w (R c y H1) (l++[c]) (ys++[y]):=by
  intro H1 l ys c y h r
  induction h with
  | nil=>exact Yb7 r
  | cons h t ih=>exact .cons h ih
 refine Y05 (λi m ys H'=>m=as.length-i/\i<=as.length/\Y0F=Y0w/\Y0/\ys.length<=i/\Y9w (R c y H') ((as.take i).filter p) ys) ⟨as.length,by simp,Y0L,bH,aT.upd C,Yl,.nil⟩;rintro i m ys H2 ⟨rfl,Z,d,j,X,z⟩;refine Y0o d;by_cases hlt:i<as.length
 ·obtain⟨A,G⟩:=hg i H2 j hlt;refine .inr ⟨A,Ye8 Oo Dd,λx H3 B=>?_⟩;obtain⟨rfl,c,I,N⟩:=G x H3 B;have u:as.take (i+1)=as.take i++[c]:=by rw[jT,I];rfl
  obtain⟨a,vs,e,S,T,U,M⟩:=hs x c H3 (aF I) N j;refine⟨a,vs,e,S,T,λb H4=>b=p c/\aT H3 H4,U _ λH5 w=>Y0O w,?_⟩;rintro b H4 ⟨rfl,g⟩;by_cases hp:p c=true
  ·rw[if_pos hp];refine Y05 (λy H5=>aT H4 H5/\R c y H5) (M H4 _ g hp λy H6 O r=>⟨O,r⟩);rintro y H5 ⟨w,r⟩;have L:=w _ _ (g _ _ d);refine⟨L,_,?_,rfl,hlt,bH,Ye9 C ((j.trans g).trans w),?_,?_⟩
   ·exact Oo
   ·rw[aU,List.length_singleton];exact Oo
   ·rw[u,List.filter_append,show List.filter p [c]=[c]by simp[hp]];have P:fG H5 (Y2s H5 D (ys++[y])):=aW.t aW.self L;exact mono P (snoc (mono (g.trans w).t z) r)
  ·rw[if_neg hp];refine⟨g _ _ d,_,?_,rfl,hlt,g _ _ d,j.trans g,Oo,?_⟩
   ·exact Oo
   ·rw[u,List.filter_append,show List.filter p [c]=[]by simp[hp],List.append_nil];exact mono g.t z
 ·have e:i=as.length:=Oo;subst e;refine Y4c (hst H2 j) (hd D ys H2 C d j ?_);rw[dY]at z;exact z
def FU{K:Aa}{n:Nat}{a0:Addr}{xs:Al}{α:Type}{as:Yu}(p:Y1V α)(Src:Y0u α V)(R:α->Y8U)(hR:∀c y H1 H2,Y6F->R c y H1->R c y H2)(hz:Y7Z as.length)(ha:H a0=Y0I)(pr:Paired Src as xs)
  (hs:∀x c H',c∈as->Src c x->Y0->∃a vs,x=Yd/\jC K H' a vs/\Y4O n/\(∀Q':Bool->Hp->Prop,(∀H5,aT H' H5->Q' (p c) H5)->tc (Y6t) H' Q') /\
   ∀H5 (Q':VK),aT H' H5->p c=true->(∀y H6,aT H5 H6->R c y H6->Q' y H6)->te (Y6t) H5 Q')
  (hd:Y3v (H D=none) (Y0F=Y0w->Y0->Y9w (R c y H') (as.filter p) ys->Y18)):pM K n (Itl K a0) σ js tc te H Q:=by
 have j:Y5u as.length:=pr.length.symm;refine UV p Src R hR hz (λi H' s h=>Ycn ⟨xs,xs[i]'Oo,fV.of (s _ _ ha),by simp⟩ (Y0o y.1)) (λH' s=>⟨xs,fV.of (s _ _ ha),Oo⟩) hs hd;have g:=y.2 xs (fV.of (s _ _ ha));obtain⟨c,e,d⟩:=FC pr g;exact⟨c,e,d⟩
end
end L2
namespace L2
open PySem
section
variable{js:Ae}{te:TE}{σ:St}{H:Hp}{Q:VK}
def kL{K:Aa}{b1 b2:Bool}{l1 l2:Addr}{xs ys:Al}(R:Yab)(hR:Y9U Y6F (R i y H1->R i y H2))(hz:Y4R 100000)(h1:H l1=Y4t b1)(h2:H l2=Y8h b2 ys)(hl:Yeb)
  (hs:∀i x y H' (Q':VK),Y0p=Y7->Y1o=Y0b->Y0->(∀z H6,aT H' H6->R i z H6->Q' z H6)->te (Y7::Y0b::Y11) H' Q')
  (hd:∀D zs H',H D=none->Y0F=Yc zs->Y0->Y4V zs.length->(∀(i:Nat) (z:V),zs[i]?=Y83->R i z H')->Y18):pM K 2 (Itz b1 b2 l1 l2) σ js BQ te H Q:=by
 unfold pM;intro D n;refine Y05 (λi m zs H'=>m=Y4g i/\Y4S i/\zs.length=i/\Y0F=Yc zs/\Y0/\∀(i:Nat) (z:V),zs[i]?=Y83->R i z H') (Y3p xs.length (by simp) Y0L bH (aT.upd n) (λi z h=>by simp at h));rintro i m zs H2 ⟨rfl,O,g,c,a,u⟩;refine Y0o c;by_cases hlt:Y5f
 ·have I:Y0p=some xs[i]:=Y3W;have p:Y1o=some (ys[i]'Oo):=Y3W;refine .inr ⟨⟨xs,ys,_,_,a _ _ h1,a _ _ h2,I,p⟩,Ye8 Oo Dd,λv H3 y=>?_⟩;obtain⟨q,x,y,rfl,J,rfl,M⟩:=y;obtain⟨L,N⟩:=M xs ys (a _ _ h1) (a _ _ h2);have d:=Y4a [x,y] J;have s:(upd H2 q (.tup [x,y])) q=Yf [x,y]:=bH;generalize upd H2 q (.tup [x,y])=H3 at d s;refine Y1B q [x,y] rfl (jC.of s) (λb H4=>b=true/\H4=H3) Y6o ?_;rintro b H4 ⟨rfl,rfl⟩;rw[Ys];refine Y05 (λz H5=>aT H4 H5/\R i z H5) (hs i x y H4 _ L N (a.trans d) λz H6 C r=>⟨C,r⟩);rintro z H5 ⟨l,r⟩;have B:=l _ _ (d _ _ c);have A:fG H5 (Y2s H5 D (zs++[z])):=aW.t aW.self B;exact⟨B,Y4g (i+1),Oo,rfl,hlt,by rw[aU,g];rfl,bH,Ye9 n ((a.trans d).trans l),BV (R:=λj z=>R j z _) (λj w G=>hR j w _ _ ((d.trans l).t.trans A) (u j w G)) (by rw[g];exact hR i z _ _ A r)⟩
 ·have e:Y4V i:=Oo;subst e;exact Y4c ⟨xs,ys,a _ _ h1,a _ _ h2,.inl (Yl)⟩ (hd D zs H2 n c a g u)
end
theorem Paired.ofRepL{H:Hp}{α:Type}{g:Y81 α}:∀{as:Yu}{xs:Al},Ycv g xs->Paired (λa x=>Y0M (g a) x) as xs
 | [],xs,r=>by
  unfold bD at r;cases(show xs=[]from r);exact .nil
 | a::as,xs,r=>by
  rw[bA]at r;unfold bD at r;obtain⟨x,xs',rfl,r1,r2⟩:=r;exact .cons r1 (Paired.ofRepL r2)
theorem Paired.toRepL{H:Hp}{α:Type}{g:Y81 α}:∀{as:Yu}{xs:Al},Paired (λa x=>Y0M (g a) x) as xs->Ycv g xs
 | _,_,.nil=>bD.nil
 | _,_,.cons h t=>bD.cons h (Paired.toRepL t)
section
variable{X:Cx}{scope:Scope}{x1 x2 x3 y:Str}{N':Ah}{js:Ae}{elt iter tg:Expr}{ifs:Y0h}{py pos spos:Pos}{tc:TT}{te:TE}{wi wj:TI}{i:Nat}
end
end L2
namespace L2
open PySem PySem.Spec PyProof.Rows
section
variable{X:Cx}
@[irreducible] def QL(K:Aa):R2:=λx y H Q=>∃a b xs ys,x=Yd/\y=Y0e/\H a=Y16/\H b=Y7f/\Y6L ys.length<=1000/\∀c H',Y0->H' c=Yf (xs++ys)->Y0r c
def aFH{K:Aa}{H:Hp}{Q:VK}{a b:Addr}{xs ys:Al}(h1:H a=Y16)(h2:H b=Y7f)(hz:Y6L ys.length<=1000)(k:∀c H',Y0->H' c=Yf (xs++ys)->Y0r c):QL K (Yd) (Y0e) H Q:=by
 unfold QL;exact⟨a,b,xs,ys,rfl,rfl,h1,h2,hz,k⟩
def HL(K:Aa)(hK:X.K=K:=by rfl):Y5q X .Add (QL K):=by
 subst hK;unfold QL;intro c s σ H x y v u Q I G B h;obtain⟨a,b,J,P,rfl,rfl,m,w,T,q⟩:=h;by_cases hx:J=[]
 ·cases G;cases B;subst hx;obtain⟨S,Z,O,_⟩:=YdT m;obtain⟨C,β,R,_⟩:=YdT w;cases Z;obtain⟨⟨U,N,A,sl⟩,L,z,n,hd⟩:=id O;obtain⟨⟨D,l,j,r⟩,i,d,α,g⟩:=id R;simp only at z hd d g;subst z hd d g;exact concat_meets (Y0V L) (Y0V i) noFill_tuple_add seq_tuple_add PySem.F.slot_tuple_add PySem.F.entry_tuple_add (Yf6 _)
   (tuple_addW0 a b _ _ n α N l sl r rfl) ⟨L,i,Y0H Y0e H I (q b H (Y06) w)⟩
 ·refine aB1 c s σ H _ _ v u Q I G B ⟨a,b,J,P,rfl,rfl,jC.of m,jC.of w,hx,Y3B T,YbW,λ_ p M=>q p _ (aT.upd M) bH⟩;subst e;exact q a H (Y06) (by rw[List.append_nil];exact m)
end
section
variable{X:Cx}
end
@[irreducible] def aBA:V->Y1x:=QK
def NO{X:Cx}:MtR X "list.extend" aBA:=by unfold aBA;exact TR
def aFA{H:Hp}{l b:Addr}{xs zs:Al}{Q:VK}(h:H l=Y0I)(h2:H b=Yc zs)(hz:Yec<=1000)(k:∀H',H' l=Yc (xs++zs)->Y6M l->Ybz):aBA (Y1j) [Y0e] H Q:=by
 unfold aBA;exact⟨l,b,xs,zs,rfl,rfl,h,h2,Nat.le_of_lt (yE hz),k _ bH aW.self⟩
section
variable{prog:Program}{w:World}{A:Around}{E:Ya}{s:Shared}{l:Addr}{xs:Array (Int × Tok)}
def XA{Q:Ya}(hh:Y5D)(hl:s.heap.IsTuple l (intItems xs))
  (h:∀h' tk t',(∀b o,Y26->Y14=Y9)->Q (.int (preSum (numAt xs) xs.size) t') { s with heap:=h',toks:=tk }) :
  Y1J (YaC "sum" [Y1j]):=by
 have a:Y4H l:=by obtain⟨_,e,_⟩:=hl;exact bK e
 refine call_sum_walkG (wpAny_pyIter_tuple hl ?_);refine⟨_,[_,l],[_],_,_,_,numAt xs,rfl,Walks.tuple (A:=A.in1) hh _ l (dL a) (intItems xs),⟨Y8Z _,hl.push _⟩,λc d=>?_,(λ_ _=>intItems_at),λh' tk t' i=>?_⟩
 ·show c<(s.heap.push _).objs.size;rw[gW];rcases bN.mp d with rfl | d
  ·exact Yfx
  ·rcases bN.mp d with rfl | d
   ·exact Nat.lt_succ_of_lt a
   ·cases d
 ·have:=h h' tk t' λc o e=>by
   refine i c o (λg=>?_) (Y0Q e);rcases bN.mp g with j | g
   ·exact absurd (j ▸ bK e) (cO _)
   ·cases g
  simpa[intItems]using this
end
@[irreducible] def QE(K:Aa):Y1x:=λxs H Q=>∃(p:Addr) (ns:Af),xs=Y5d/\jC K H p (Y5j)/\YcN
def rsT{K:Aa}{H:Hp}{p:Addr}{ns:Af}{Q:VK}(h:jC K H p (Y5j))(q:YcN):QE K Y5d H Q:=by unfold QE;exact Y0i p ns h q
def BF{X:Cx}(K:Aa)(hc:Y1t)(hK:X.K=K:=by rfl):Y4M X "sum" (QE K):=by
 subst hK;unfold QE;intro d s σ H C A Q I r h;obtain⟨p,l,rfl,n,q⟩:=h;obtain⟨u,rfl,w⟩:=nF r;cases w;obtain⟨a,z,i,B⟩:=I.tuple n;have g:=vQ z;obtain⟨c,e⟩:=g.allInts.items;rw[e]at i;refine XA (Y8x) i λG D j y=>⟨.int l.sum,H,I.kept y,Y0o j,q⟩;rw[preSum_eq,List.take_of_length_le (by simp)];rw[<-g.numsOf];have m:a=(intItems c).toList:=by rw[<-e]
 rw[m,nums_intItems]
section
variable{js:Ae}{te:TE}{tc:TT}{σ:St}{H:Hp}{Q:VK}
def bD.atI{α:Type}{g:Y81 α}:∀{as:Yu}{xs:Al},Ycv g xs->∀{i:Nat}{x:V},Y0p=Y7->∃a,as[i]?=Y7a/\Y0M (g a) x:=by
 intro as xs r i x e;obtain⟨d,c,h⟩:=r.get e;rw[aE]at c;cases q:as[i]? with
 | none=>rw[q]at c;cases c
 | some a=>rw[q]at c;cases c;exact Yz a h
def UU{K:Aa}{a:Addr}{xs:Al}{α:Type}{g:Y81 α}{as:Yu}(r:Ycv g xs)(p:Y1V α)(hz:Y4R 100000)(hl:H a=Y0I)
  (ht:∀x c H' (Q':Ybv),c∈as->dA H' (g c) x->Y0->(∀H5,aT H' H5->Q' (p c) H5)->tc (Y7::Y11) H' Q')
  (he:∀x H' (Q':VK),Q' x H'->te (Y7::Y11) H' Q')
  (hd:Y3v (H D=none) (Y0F=Y0w->Y0->bD H' ((as.filter p).map g) ys->Y18)):nQ (Itl K a) σ js tc te H Q:=by
 unfold nQ;intro D z;have s:Y5u as.length:=by rw[r.len,aA]
 refine Y05 (λi m ys H'=>m=Y4g i/\Y4S i/\Y0F=Y0w/\Y0/\Y1n (((as.take i).filter p).map g) ys/\ys.length<=i) ⟨xs.length,by simp,Y0L,bH,aT.upd z,bD.nil,Yl⟩;rintro i m ys H2 ⟨rfl,J,d,h,u,I⟩;refine Y0o d;by_cases hlt:Y5f
 ·have G:Y0p=some xs[i]:=aB hlt;refine .inr ⟨⟨xs,_,fV.of (h _ _ hl),G⟩,Ye8 Oo Dd,λx H3 w=>?_⟩;obtain⟨rfl,j⟩:=w;have j:=j xs (fV.of (h _ _ hl));obtain⟨c,B,A⟩:=r.atI j;have l:as.take (i+1)=as.take i++[c]:=by rw[jT,B];rfl
  refine Y05 (λb H4=>b=p c/\aT H3 H4) (ht x c H3 _ (aF B) (A.same h) h λH5 C=>Y0O C);rintro b H4 ⟨rfl,n⟩;by_cases hp:p c=true
  ·rw[if_pos hp];refine Y05 (λy H5=>y=x/\H5=H4) (he x H4 _ Y6o);rintro y H5 ⟨rfl,rfl⟩;refine⟨n _ _ d,_,?_,rfl,hlt,bH,Ye9 z (h.trans n),?_,?_⟩
   ·exact Oo
   ·rw[l,List.filter_append,bF];have:List.filter p [c]=[c]:=by simp[hp]
    rw[this];exact bD.snoc u A
   ·rw[aU,List.length_singleton];exact Oo
  ·rw[if_neg hp];refine⟨n _ _ d,_,?_,rfl,hlt,n _ _ d,h.trans n,?_,?_⟩
   ·exact Oo
   ·rw[l,List.filter_append];have:List.filter p [c]=[]:=by simp[hp]
    rw[this,List.append_nil];exact u
   ·exact Oo
 ·have e:Y4V i:=Oo;subst e;refine Y4c ⟨xs,fV.of (h _ _ hl),Yl⟩ (hd D ys H2 z d h ?_);rw[s,dY]at u;exact u.same h
end
def OZ{X:Cx}{e:Expr}{t:TT}(h:VG X e t):VG X e (uY t):=⟨h.p.mono⟩
end L2
namespace HT
open PySem PyProof.Rows
section
variable{prog:Program}{w:World}{A:Around}{E:Ya}{s:Shared}
def uT{t sl:Addr}{items:Ai}{vl vu:Value}{lo hi:Y1e}{Q:Ya}(ht:YcA t items)(hs:Ydz sl vl vu)(pl:IsPart vl lo)(pu:IsPart vu hi)
  (h0:Y7s 0 lo=0) (h1:Y7g=items.size) (h:Y1d t s):Y1J (getItem (Y96) (.ref sl)):=by
 obtain⟨j,d,e,i⟩:=id hs;have c:Y8p sl "slice" := ⟨j,d,e⟩;have g:Y8p t "tuple" := ht.typeIs;unfold getItem
 try with_reducible refine YfI
 first | refine Y3m ?_ | skip
 refine wpAny_bind (wpAny_sequenceKey ht.typeIs Dd ?_);refine wpAny_bind (wpAny_callSpecial?_slot (name:=Str.ofString "__getitem__") ht.typeIs PyProof.Rows.slot_tuple_getitem
  (wpAny_call_entry PyProof.Rows.slot_tuple_getitem ht.typeIs entry_tuple_getitem ?_ (args_tuple_getitem _ _)))
 show Y3F (Builtin.Tuple.tupleItemsOf (Y96) >>= _);refine wpAny_bind (tupleItemsOf_ ht ?_);refine Yf7 c ?_;rw[Yb8];refine wpAny_bind (qI hs pl pu ?_);have a:(((kN items.size 0 lo:Nat):Int) == 0&&(1:Int) == 1&&Yeh (Y7g-Y7s 0 lo))=true:=by
  rw[h0,h1];simp
 show Y3F (if(((kN items.size 0 lo:Nat):Int) == 0&&(1:Int) == 1&&Yeh (Y7g-Y7s 0 lo))=true then _ else _);rw[if_pos a];unfold Builtin.Tuple.tupleIsExact;refine YbP (wpAny_typeOf g (Y2e));rw[Yb8];refine Y9g ?_
 first
  | exact YaE h
  | exact Y3m (YaE h)
end
end HT
namespace L2
open PySem PySem.W PySem.Spec PySem.Calls PyProof.Rows
def OD{xs:Al}{lo hi:Y1e}(h0:YaD 0 lo=0)(h1:Y4V (YaD xs.length hi)):mT xs lo hi=xs:=by
 unfold mT;rw[h0,h1];simp
section
variable{X:Cx}
@[irreducible] def NE(K:Aa):V->Y1e->Y8T:=λx lo hi H Q=>∃a xs,x=Yd/\H a=Y16/\∀c H',Y0->H' c=Yf (mT xs lo hi)->Y0r c
def QA(K:Aa)(hK:X.K=K:=by rfl):SlR X (NE K):=by
 unfold NE;subst hK;intro e s σ H x v B A j n sl Q I m u y l h;obtain⟨a,d,rfl,i,q⟩:=h;by_cases hw:Yel 0 j=0/\Yel d.length n=d.length
 ·cases m;obtain⟨g,r,w,C⟩:=YdT i;have c:g.toArray.size=d.length:=by rw[bM];exact r.length.symm
  refine⟨"tuple",_,PyProof.Rows.slot_tuple_getitem.lookup,w.typeIs,HT.uT w u y l (by rw[c];exact hw.1) (by rw[c];exact hw.2) ?_⟩;exact Y0H Yd H I (q a H (Y06) (by rw[OD hw.1 hw.2];exact i))
 ·exact aDG e s σ H (Yd) v B A j n sl Q I m u y l (Y8i a d (jC.of i) hw (λp z=>q p _ (aT.upd z) bH))
def aDI{K:Aa}{H:Hp}{a:Addr}{xs:Al}{k:Nat}{Q:VK}(h:H a=Y16)(q:∀c H',Y0->H' c=Yf (xs.take k)->Y0r c):NE K (Yd) none (some (k:Int)) H Q:=by
 unfold NE;exact Y0i a xs h (λc H' s e=>q c H' s (by rw[e,RV]))
def aDH{K:Aa}{H:Hp}{a:Addr}{xs:Al}{k:Nat}{Q:VK}(h:H a=Y16)(q:∀c H',Y0->H' c=Yf (xs.drop k)->Y0r c):NE K (Yd) (some (k:Int)) none H Q:=by
 unfold NE;exact Y0i a xs h (λc H' s e=>q c H' s (by rw[e,II]))
end
end L2
namespace HT
open PySem PySem.W PyProof.Rows
def eW{α:Type}(n:Nat)(lt:Y8M)(R:Y1c α):Y1c (KasT α)
 | .ret a=>R a
 | .ask i j k=>i<n/\j<n/\eW n lt R (k (lt i j))
section
variable{n:Nat}{lt:Y8M}
theorem eW.bind{α β:Type}{R:Y1c α}{S:Y1c β}{f:α->KasT β}:∀{t:KasT α},Y3C R t->(∀a,R a->Y3C S (f a))->Y3C S (t.bind f)
 | .ret a,h,k=>k a h
 | .ask i j t,⟨h1,h2,h3⟩,k=>⟨h1,h2,eW.bind (t:=t (lt i j)) h3 k⟩
theorem eW.wp{α:Type}{R:Y1c α}{cmp:Y1F (Y1F (Y2v (Y2v Bool)))}{Q:Y2v α}{s:Shared}(hc:∀i j C,i<n->j<n->C (lt i j) s->cmp i j C s)(q:∀a,R a->Q a s) :
  ∀{t:KasT α},Y3C R t->t.kasWp cmp Q s
 | .ret a,h=>q a h
 | .ask i j t,⟨h1,h2,h3⟩=>hc i j _ h1 h2 (eW.wp (t:=t (lt i j)) hc q h3)
def iO(n:Nat)(p:Y0S):Prop:=p.Perm (Ydl n)
def iO.bd{p:Y0S}(g:Y2b)(hn:0<n)(i:Nat):Y60 i<n:=by
 by_cases hi:i<p.size
 ·have e:Y60 i=p[i]:=by simp[Array.getD,hi]
  rw[e];have m:p[i]∈Ydl n:=(Array.Perm.mem_iff g).mp (Array.getElem_mem hi);simpa using m
 ·have e:Y60 i=0:=by simp[Array.getD,hi]
  rw[e];exact hn
def iO.rev{p:Y0S}(g:Y2b)(i j:Nat):iO n (kas_rev p i j):=(mirror_perm p i j _).trans g
def iO.bub{p:Y0S}(g:Y2b)(i j:Nat):iO n (bubble p i j):=(bubble_perm p i j).trans g
theorem IP{p:Y0S}(g:Y2b)(hn:0<n):∀(f m:Nat),Y3C (λ_=>True) (kas_asc p f m)
 | 0,m=>True.intro
 | f+1,m=>⟨g.bd hn _,g.bd hn _,by
  cases lt (p.getD m 0) (p.getD (m-1) 0)with
  | true=>exact True.intro
  | false=>exact IP g hn f (m+1)⟩
theorem xS(hn:0<n):∀(f:Nat) {p:Y0S}(g:Y2b) (m q:Nat),YbD (iO n r.1) (kas_desc f p m q)
 | 0,p,g,m,q=>g
 | f+1,p,g,m,q=>by
  refine⟨g.bd hn _,g.bd hn _,?_⟩;cases lt (p.getD m 0) (p.getD (m-1) 0)with
  | true =>
   show eW n lt _ (if q > 0 then _ else _);split
   ·exact xS hn f (g.rev _ _) _ _
   ·exact xS hn f g _ _
  | false =>
   refine⟨g.bd hn _,g.bd hn _,?_⟩;cases lt (p.getD (m-1) 0) (p.getD m 0)with
   | true=>exact g
   | false=>exact xS hn f g _ _
def GE{p:Y0S}(g:Y2b)(hn:0<n)(m r:Nat):YbD (iO n r.2) (kas_tail3 m r p):=by
 unfold kas_tail3;exact(IP (g.rev 0 m) hn _ _).bind λ_ _=>g.rev 0 m
def xR{p:Y0S}(g:Y2b)(hn:0<n)(m r:Nat):YbD (iO n r.2) (kas_descPart m r p):=by
 unfold kas_descPart;refine(xS hn _ g _ _).bind λr a=>?_;split
 ·exact GE (iO.rev a _ _) hn _ _
 ·exact GE a hn _ _
def VD{p:Y0S}(g:Y2b)(hn:0<n)(m:Nat):YbD (iO n r.2) (kas_count m p):=by
 unfold kas_count;refine(IP g hn _ _).bind λk _=>?_;split
 ·exact g
 ·split
  ·refine Y05 (g.bd hn _) (g.bd hn _);cases Y6l 0 (k-1)with
   | true=>exact g
   | false=>exact xR (g.rev _ _) hn _ _
  ·exact xR g hn _ _
theorem zH{p:Y0S}(g:Y2b)(hn:0<n)(k:Nat):∀(f l r:Nat),Y3C (λ_=>True) (kas_place p k f l r)
 | 0,l,r=>True.intro
 | f+1,l,r=>by
  unfold kas_place;split
  ·exact True.intro
  ·refine⟨g.bd hn _,g.bd hn _,?_⟩;cases lt (p.getD k 0) (p.getD ((l+r)/2) 0)with
   | true=>exact zH g hn k f _ _
   | false=>exact zH g hn k f _ _
theorem SA(hn:0<n):∀(f:Nat) {p:Y0S}(g:Y2b) (k:Nat),Y3C (iO n) (kas_bin f p k)
 | 0,p,g,k=>g
 | f+1,p,g,k=>by
  unfold kas_bin;exact(zH g hn k _ _ _).bind λl _=>SA hn f (g.bub _ _) _
def aAx(hn:0<n):Y3C (iO n) (kas_sort n):=by
 unfold kas_sort;refine(VD (Array.Perm.refl _) hn n).bind λr a=>?_;split
 ·exact SA hn _ a _
 ·exact a
end
structure MD(n:Nat)(lt:Y8M):Prop where
 tot:∀i j,i<n->j<n->i≠j->Yy (lt i j)->lt j i=true
 tra:∀i j k,lt i j=true->lt j k=true->lt i k=true
def EG(lt:Y8M)(p:Y0S)(m:Nat):Prop:=∀a b,a<b->b<m->Y6l a b=true
def Dsc(lt:Y8M)(p:Y0S)(m:Nat):Prop:=∀a b,a<b->b<m->Y6l b a=true
section
variable{n:Nat}{lt:Y8M}
theorem eW.mono{α:Type}{R S:Y1c α}(k:∀a,R a->S a):∀{t:KasT α},Y3C R t->Y3C S t
 | .ret a,h=>k a h
 | .ask i j t,⟨h1,h2,h3⟩=>⟨h1,h2,eW.mono k (t:=t (lt i j)) h3⟩
theorem iO.size{p:Y0S}(g:Y2b):p.size=n:=by
 have:=(Array.perm_iff_toList_perm.mp g).length_eq;simpa using this
def iO.ne{p:Y0S}(g:Y2b){i j:Nat}(hi:i<n)(hj:j<n)(h:i≠j):Y60 i≠Y60 j:=by
 have d:p.toList.Nodup:=(Array.perm_iff_toList_perm.mp g).nodup_iff.mpr (by simpa using List.nodup_range);have a:=g.size;have l:p.getD i 0=p.toList[i]'(by simpa[a]using hi):=by simp[Array.getD,a,hi]
 have c:p.getD j 0=p.toList[j]'(by simpa[a]using hj):=by simp[Array.getD,a,hj]
 rw[l,c];intro e;exact h ((List.getElem_inj d).mp e)
def EG.one{p:Y0S}:EG lt p 1:=λa b d c=>Oo
def EG.more(O:MD n lt){p:Y0S}(g:Y2b){m:Nat}(h:EG lt p m)(h1:1<=m)(hm:m<n)(e:Yy (Y6l m (m-1))):EG lt p (m+1):=λa b c j=>by
 by_cases q:b<m
 ·exact h a b c q
 ·have i:b=m:=Oo;subst i;have d:Y6l (b-1) b=true:=O.tot _ _ (g.bd Oo _) (g.bd Oo _) (g.ne Oo Oo Oo) e;by_cases r:a=b-1
  ·rw[r];exact d
  ·exact O.tra _ _ _ (h a (b-1) Oo Oo) d
theorem IN(O:MD n lt){p:Y0S}(g:Y2b):∀(f m:Nat),1<=m->m+f<=n->EG lt p m->Y3C (λk=>m<=k/\k<=m+f/\EG lt p k/\(k<m+f->Y6l k (k-1)=true)) (kas_asc p f m)
 | 0,m,_,_,h=>⟨aL _,aL _,h,λq=>Oo⟩
 | f+1,m,h1,hm,h=>by
  refine⟨g.bd Oo _,g.bd Oo _,?_⟩;cases e:lt (p.getD m 0) (p.getD (m-1) 0)with
  | true=>exact⟨aL _,Oo,h,λ_=>e⟩
  | false =>
   refine(show eW n lt _ (kas_asc p f (m+1))from ?_);have ih:=IN O g f (m+1) Oo Oo (h.more O g h1 Oo e);exact eW.mono (λk ⟨d,i,c,a⟩=>⟨Oo,Oo,c,λq=>a Oo⟩) ih
def Dsc.more(O:MD n lt){p:Y0S}{m:Nat}(h:Dsc lt p m)(h1:1<=m)(e:Y6l m (m-1)=true):Dsc lt p (m+1):=λa b c g=>by
 by_cases q:b<m
 ·exact h a b c q
 ·have d:b=m:=Oo;subst d;by_cases r:a=b-1
  ·rw[r];exact e
  ·exact O.tra _ _ _ e (h a (b-1) Oo Oo)
theorem KY(O:MD n lt){p:Y0S}(g:Y2b):∀(f m:Nat),1<=m->m+f<=n->Dsc lt p m->YbD (r.1=p/\r.2.2=0/\m<=r.2.1/\r.2.1<=m+f/\Dsc lt p r.2.1) (kas_desc f p m 0)
 | 0,m,_,_,h=>⟨rfl,rfl,aL _,aL _,h⟩
 | f+1,m,h1,hm,h=>by
  refine⟨g.bd Oo _,g.bd Oo _,?_⟩;cases e:lt (p.getD m 0) (p.getD (m-1) 0)with
  | true =>
   refine(show eW n lt _ (kas_desc f p (m+1) 0)from ?_);exact eW.mono (λr ⟨a1,a2,a3,a4,a5⟩=>⟨a1,a2,Oo,Oo,a5⟩) (KY O g f (m+1) Oo Oo (h.more O h1 e))
  | false =>
   refine⟨g.bd Oo _,g.bd Oo _,?_⟩;rw[O.tot _ _ (g.bd Oo _) (g.bd Oo _) (g.ne Oo Oo Oo) e];exact⟨rfl,rfl,aL _,(show m<=m+(f+1)by exact Oo),h⟩
def XX{p:Y0S}{m i:Nat}(hm:m<=p.size):(kas_rev p 0 m).getD i 0=if i<m then Y60 (m-1-i) else Y60 i:=by
 have e:=getElem?_mirror (xs:=p) (i:=0) (j:=m) hm (m/2) Oo i;have a:(kas_rev p 0 m)[i]?=if(0<=i/\i<0+m/2)\/(m-m/2<=i/\i<m) then p[0+m-1-i]? else p[i]?:=e
 have g:∀(q:Y0S) (k:Nat),q.getD k 0=q[k]?.getD 0:=λq k=>by simp[Array.getD_eq_getD_getElem?]
 rw[g,a,g,g];by_cases h:i<m
 ·rw[Y4W];by_cases h2:(0<=i/\i<0+m/2)\/(m-m/2<=i/\i<m)
  ·rw[Y8B,show 0+m-1-i=m-1-i by exact Oo]
  ·rw[Y7E,show m-1-i=i by exact Oo]
 ·rw[Y5C,Y3s]
def Dsc.rev{p:Y0S}{m:Nat}(h:Dsc lt p m)(hm:m<=p.size):EG lt (kas_rev p 0 m) m:=λa b c d=>by
 rw[XX hm,XX hm,Y4U,if_pos d];exact h _ _ Oo Oo
def US(O:MD n lt){p:Y0S}(g:Y2b)(hn:2<=n):YbD (iO n r.2/\1<=r.1/\r.1<=n/\EG lt r.2 r.1) (kas_count n p):=by
 unfold kas_count;refine(IN O g (n-1) 1 (aL _) Oo EG.one).bind λk ⟨d,G,c,w⟩=>?_;split
 ·exact⟨g,d,by show k<=n;exact Oo,c⟩
 ·rename_i hk
  have z:k≠n:=λe=>hk (by simp[e]);split
  ·refine Y05 (g.bd Oo _) (g.bd Oo _);rw[c 0 (k-1) Oo Oo];exact⟨g,d,by show k<=n;exact Oo,c⟩
  ·have C:k=1:=Oo;subst C;unfold kas_descPart;have B:Dsc lt p 2:=λa b A M=>by
    have e:a=0/\b=1:=Oo;rw[e.1,e.2];exact w Oo
   refine(KY O g (n-2) 2 Oo Oo B).bind λr ⟨l,j,y,s,h⟩=>?_;obtain⟨J,m,q⟩:=r;dsimp only at l j y s h ⊢;subst l j;rw[Y2E];unfold kas_tail3;have L:=g.size;exact(IN O (g.rev 0 m) (n-m) m Oo Oo (h.rev Oo)).bind λi ⟨D,I,u,_⟩=>⟨g.rev 0 m,(show 1<=i by exact Oo),(show i<=n by exact Oo),u⟩
theorem yK(O:MD n lt){p:Y0S}(g:Y2b){k:Nat}(hk:k<n)(h:EG lt p k):∀(f l r:Nat),l<=r->r<=k->r-l<=f->(∀a,a<l->Y6l a k=true)->(∀a,r<=a->a<k->Y6l k a=true) ->
  Y3C (λm=>m<=k/\(∀a,a<m->Y6l a k=true)/\∀a,m<=a->a<k->Y6l k a=true) (kas_place p k f l r)
 | 0,l,r,h1,h2,h3,h4,h5=>⟨Oo,h4,λa q1 q2=>h5 a Oo q2⟩
 | f+1,l,r,h1,h2,h3,h4,h5=>by
  unfold kas_place;split
  ·exact⟨Oo,h4,λa q1 q2=>h5 a Oo q2⟩
  ·refine⟨g.bd Oo _,g.bd Oo _,?_⟩;cases e:lt (p.getD k 0) (p.getD ((l+r)/2) 0)with
   | true =>
    refine(show eW n lt _ (kas_place p k f l ((l+r)/2))from ?_);refine yK O g hk h f l ((l+r)/2) Oo Oo Oo h4 λa q1 q2=>?_;by_cases q:a=(l+r)/2
    ·rw[q];exact e
    ·exact O.tra _ _ _ e (h _ _ Oo q2)
   | false =>
    refine(show eW n lt _ (kas_place p k f ((l+r)/2+1) r)from ?_);have e2:=O.tot _ _ (g.bd Oo _) (g.bd Oo _) (g.ne hk Oo Oo) e;refine yK O g hk h f ((l+r)/2+1) r Oo Oo Oo (λa q1=>?_) h5;by_cases q:a=(l+r)/2
    ·rw[q];exact e2
    ·exact O.tra _ _ _ (h a ((l+r)/2) Oo Oo) e2
def aAu{p:Y0S}{k m i:Nat}(hk:k<p.size)(hm:m<=k):(bubble p k (k-m)).getD i 0=if i=m then Y60 k else if m<i/\i<=k then Y60 (i-1) else Y60 i:=by
 have e:=getElem?_bubble (xs:=p) hk (k-m) Oo i;have g:∀(q:Y0S) (k:Nat),q.getD k 0=q[k]?.getD 0:=λq k=>by simp[Array.getD_eq_getD_getElem?]
 rw[g,e,g,g,g,show k-(k-m)=m by exact Oo];by_cases h:i=m
 ·rw[Y4W,Y4W]
 ·rw[Y5C,Y5C];by_cases h2:m<i/\i<=k
  ·rw[Y8B,Y8B]
  ·rw[Y7E,Y7E]
theorem RZ(O:MD n lt):∀(f:Nat) {p:Y0S}(g:Y2b) (k:Nat),k+f=n->EG lt p k->Y3C (λp=>Y2b/\EG lt p n) (kas_bin f p k)
 | 0,p,g,k,hk,h=>⟨g,by rw[<-hk];exact h⟩
 | f+1,p,g,k,hk,h=>by
  unfold kas_bin;refine(yK O g Oo h k 0 k Oo Oo Oo (λa q=>Oo) (λa q1 q2=>Oo)).bind λm ⟨m1,m2,m3⟩=>?_;have hs:=g.size;refine RZ O f (g.bub _ _) (k+1) Oo λa b c d=>?_;rw[aAu Oo m1,aAu Oo m1];by_cases ha:a=m
  ·rw[if_pos ha,if_neg Oo,if_pos Oo];exact m3 _ Oo Oo
  ·rw[if_neg ha];by_cases hb':b=m
   ·rw[if_pos hb',if_neg Oo];exact m2 a Oo
   ·rw[if_neg hb'];by_cases q1:m<a/\a<=k
    ·rw[if_pos q1,if_pos Oo];exact h _ _ Oo Oo
    ·rw[if_neg q1];by_cases q2:m<b/\b<=k
     ·rw[if_pos q2];exact h _ _ Oo Oo
     ·rw[if_neg q2];exact h _ _ c Oo
def XF(O:MD n lt)(hn:2<=n):Y3C (λp=>Y2b/\EG lt p n) (kas_sort n):=by
 unfold kas_sort;refine(US O (Array.Perm.refl _) hn).bind λr ⟨c,d,g,a⟩=>?_;split
 ·rename_i q
  rw[Nat.max_eq_left d];exact RZ O _ c _ Oo a
 ·rename_i q
  have e:r.1=n:=Oo;exact⟨c,e ▸ a⟩
end
end HT
namespace L2
open PySem PySem.Spec PySem.W PyProof.Rows HT
def PM{x:V}{xs:Al}{us:Ag}(r:Y2m (x::xs)):∃u us',us=u::us'/\fH x u/\eJ xs us':=by
 cases r with
 | cons h t=>exact Y0i _ _ h t
def KM(fin:Bool):Af->Y1V Af
 | x::a,y::b=>if x=y then KM fin a b else decide (x<y)
 | _,_=>fin
def rP(a b:Af):Bool:=KM (Y22 a.length b.length) a b
def CQ(a:Af):Yy (rP a []):=by
 unfold rP;cases a <;> rfl
def HS(y:Int)(b:Af):rP [] (y::b)=true:=by unfold rP;rfl
def HU(x y:Int)(a b:Af):rP (x::a) (y::b)=if x=y then rP a b else Y22 x y:=by
 show(if x=y then KM (Y22 ((x::a).length) ((y::b).length)) a b else Y22 x y)=_;rw[cD,cD,show decide (a.length+1<b.length+1)=decide (a.length<b.length)by simp]
 rfl
theorem QS:∀{a b:Af},a≠b->Yy (rP a b)->rP b a=true
 | [],[],h,_=>absurd rfl h
 | [],y::b,_,e=>by rw[HS]at e;cases e
 | x::a,[],_,_=>HS _ _
 | x::a,y::b,h,e=>by
  rw[HU]at e ⊢;by_cases q:x=y
  ·subst q;rw[if_pos rfl]at e ⊢;exact QS (λz=>h (by rw[z])) e
  ·rw[if_neg q]at e;rw[if_neg (Ne.symm q)];have:=of_decide_eq_false e;exact cN Oo
theorem HQ:∀{a b c:Af},rP a b=true->rP b c=true->rP a c=true
 | a,b,[],_,h=>by rw[CQ]at h;cases h
 | [],b,z::c,_,_=>HS _ _
 | x::a,[],z::c,h,_=>by rw[CQ]at h;cases h
 | x::a,y::b,z::c,h1,h2=>by
  rw[HU]at h1 h2 ⊢;by_cases q1:x=y
  ·subst q1;rw[if_pos rfl]at h1;by_cases q2:x=z
   ·subst q2;rw[if_pos rfl]at h2 ⊢;exact HQ h1 h2
   ·rw[if_neg q2]at h2 ⊢;exact h2
  ·rw[if_neg q1]at h1;have h1:=of_decide_eq_true h1;by_cases q2:y=z
   ·subst q2;rw[if_neg q1];exact cN h1
   ·rw[if_neg q2]at h2;have h2:=of_decide_eq_true h2;rw[if_neg Oo];exact cN Oo
def HR{a:Af}:Yy (rP a a):=by
 induction a with
 | nil=>exact CQ _
 | cons x a ih=>rw[HU,Ys];exact ih
theorem KL:∀{l m:Ac},l.Pairwise (λa b=>rP a b=true)->m.Pairwise (λa b=>rP a b=true)->(∀x,x∈l↔x∈m)->l=m
 | [],[],_,_,_=>rfl
 | [],y::m,_,_,h=>by have:=(h y).mpr (aY ..);cases this
 | x::l,[],_,_,h=>by have:=(h x).mp (aY ..);cases this
 | x::l,y::m,h1,h2,h=>by
  obtain⟨c,g⟩:=List.pairwise_cons.mp h1;obtain⟨d,b2⟩:=List.pairwise_cons.mp h2;have e:x=y:=by
   rcases bN.mp ((h x).mp (aY ..))with q | q
   ·exact q
   ·rcases bN.mp ((h y).mpr (aY ..))with r | r
    ·exact r.symm
    ·have:=HQ (d x q) (c y r);rw[HR]at this;cases this
  subst e;rw[KL g b2 λz=>?_];constructor
  ·intro q;rcases bN.mp ((h z).mp (bG _ q))with r | r
   ·subst r;have:=c z q;rw[HR]at this;cases this
   ·exact r
  ·intro q;rcases bN.mp ((h z).mpr (bG _ q))with r | r
   ·subst r;have:=d z q;rw[HR]at this;cases this
   ·exact r
abbrev QR(cs:Ac):Y8M:=λi j=>rP (Yd8 []) (cs.getD j [])
def aE8{cs:Ac}(h:cs.Nodup):MD cs.length (QR cs):=⟨λi j l a ne e=>QS (λz=>by
  have m:Yd8 []=cs[i]:=by simp[l]
  have d:cs.getD j []=cs[j]:=by simp[a]
  rw[m,d]at z;exact ne ((List.getElem_inj h).mp z)) e,λi j k g c=>HQ g c⟩
section
variable{prog:Program}{w:World}{A:Around}{E:Ya}{s:Shared}{Q:Y2v Bool}
theorem zS{fin:Bool}:∀{a b:Af}{us vs:Ag}{i:Nat},Y2m YeB->eJ (b.map V.int) vs->Q (KM fin a b) s->KatLex prog w A true fin Q (us.zip vs) i s
 | [],b,us,vs,i,ha,hb,q=>by cases ha;exact kat_nil (by unfold KM at q;exact q)
 | x::a,[],us,vs,i,ha,hb,q=>by
  cases hb;cases us with
  | nil=>exact kat_nil (by unfold KM at q;exact q)
  | cons u us=>exact kat_nil (by unfold KM at q;exact q)
 | x::a,y::b,us,vs,i,ha,hb,q=>by
  rw[bA]at ha hb;obtain⟨u,us',rfl,⟨t,rfl⟩,ra⟩:=PM ha;obtain⟨v,d,rfl,⟨e,rfl⟩,c⟩:=PM hb;rw[List.zip_cons_cons];refine kat_cons (wpAny_eqBool_int ?_);unfold KM at q;by_cases h:x=y
  ·rw[if_pos h]at q;rw[show(x == y)=true by simp[h]];exact kat_yes (zS ra c q)
  ·rw[if_neg h]at q;rw[show(x == y)=false by simp[h]];refine kat_no ?_;cases(true&&i == 0)with
   | true=>exact oneLt_int q
   | false=>exact kat_one _ _ (lt_int q)
def aDo(h:Heap)(v:Value)(c:Af):Prop:=∃b its,v=Y0e/\IsTup h b (List.toArray its)/\eJ (Yc0) its/\c≠[]
abbrev mD(h:Heap):Y0u Ag Ac:=Paired (aDo h)
theorem mD.get{h:Heap}:∀{vs:Ag}{cs:Ac}{i:Nat},mD h vs cs->i<vs.length->aDo h (YdG i) (Yd8 [])
 | _,_,_,.nil,hi=>by simp at hi
 | _,_,0,.cons t r,hi=>t
 | v::vs,c::cs,i+1,.cons t r,hi=>by
  have:=mD.get (i:=i) r (by simpa using hi);simpa using this
theorem mD.firsts{h:Heap}:∀{vs:Ag}{cs:Ac},mD h vs cs->∃fs,KatTups h vs fs/\Y6P vs.length/\∀v∈fs,∃i t,v=Value.int i t
 | _,_,.nil=>⟨[],KatTups.nil,rfl,λv hv=>by cases hv⟩
 | v::vs,c::cs,.cons t r=>by
  obtain⟨fs,h1,h2,h3⟩:=mD.firsts r;obtain⟨b,d,rfl,⟨o,e,g,n,hd⟩,hv,a⟩:=t;cases c with
  | nil=>exact absurd rfl a
  | cons x c =>
   rw[bA]at hv;obtain⟨u,j,rfl,⟨t,rfl⟩,_⟩:=PM hv;exact⟨.int x t::fs,KatTups.cons e g hd (by simp) h1,by simp[h2],λv hv=>by
    rcases bN.mp hv with rfl | hv
    ·exact⟨_,_,rfl⟩
    ·exact h3 v hv⟩
theorem mD.keep{h h':Heap}(k:∀b o,Y20=Y9->o.cls=.type "tuple" -> Y14=Y9):∀{vs:Ag}{cs:Ac},mD h vs cs->mD h' vs cs
 | _,_,.nil=>.nil
 | _,_,.cons ⟨b,its,e,⟨o,ho,hc,hd⟩,hv,hne⟩ r=>.cons ⟨b,its,e,⟨o,k b o ho hc,hc,hd⟩,hv,hne⟩ (mD.keep k r)
def XG{n:Nat}{lt:Y8M}(hn:2<=n):Y3C (λp=>Y2b/\(MD n lt->EG lt p n)) (kas_sort n):=by
 by_cases O:MD n lt
 ·exact eW.mono (λp h=>⟨h.1,λ_=>h.2⟩) (XF O hn)
 ·exact eW.mono (λp h=>⟨h,λz=>absurd z O⟩) (aAx Oo)
def SW{a:Addr}{vs:Ag}{cs:Ac}{n:Nat}{P:Y2v PySem.Fin}(ho:Y2H a (seqObj "list" vs.toArray n))(ht:mD s.heap vs cs)(h64:vs.length<64)
  (h:∀p:Array Nat,YaS p->(Ybp->Ybq p)->P (Yeu .none) { s with heap:=sortedHeap s.heap a vs (List.toArray (p.toList.map λi=>vs.getD i Value.none)) }) :
  wpAny (model prog w) A (Builtin.«list.sort» ⟨Y2n,[]⟩) P E s:=by
 rw[list_sort_plain];have β:Y4H a:=bK ho;refine wpAny_bind (listItems_at ho rfl ?_);refine wpAny_bind (listUpdate_at ho rfl ?_ (by rw[bM,sizeLine_eq];exact Oo) (Y0L));obtain⟨U,u⟩:∃U,(s.heap.update a (Obj.mapSeq λ_=>#[])).get? a=Yco "list" (#[]) U:=Y3z (YfE ho (#[]));refine Yfj u rfl ?_;refine wpAny_bind (wpAny_newTuple ?_ (by show vs.length<=_;rw[sizeLine_eq];exact Oo));refine wpAny_bind (wpAny_newList ?_ (Y0L));refine YfI;have d:(((s.heap.update a (Obj.mapSeq λ_=>#[])).push (seqObj "tuple" vs.toArray 0)).push (seqObj "list" #[] 0)).get? a=Yco "list" (#[]) U:=by
  rw[Heap.get?_push_ne _ _ _ (by rw[size_push',Heap.size_update];exact dL (Nat.lt_succ_of_lt β)),Heap.get?_push_ne _ _ _ (by rw[Heap.size_update];exact dL β)];exact u
 show wpAny (model prog w) A _ P E ({ s with heap:=((s.heap.update a (Obj.mapSeq λ_=>#[])).push (seqObj "tuple" vs.toArray 0)).push (seqObj "list" #[] 0) });dsimp only;have B:∀c:SortSt,∀p:Array Nat,YaS p->(Ybp->Ybq p)->(arrOf c).map (·.2)=Yf5 (λi=>YdG i) ->
   P (Yeu .none) { s with heap:=sortedHeap s.heap a vs ((arrOf c).map (·.2)) }:=by
  intro c p m ho τ;rw[τ];exact h p m ho
 have l:mD (((s.heap.update a (Obj.mapSeq λ_=>#[])).push (seqObj "tuple" vs.toArray 0)).push (seqObj "list" #[] 0)) vs cs:=ht.keep λb o D α=>by
  have M:b≠a:=λe=>by
   subst e;rw[ho]at D;cases D;exact Y6Q (show Value.type "list" = Value.type "tuple" from α)
  exact Y7H (by rw[YfU _ _ _ M];exact D)
 by_cases h2:vs.toArray.size<2
 ·rw[Y8B,Y8B];refine Y3m ?_;rw[StateT.run_pure];refine Y3m ?_;dsimp only;refine Yfj d rfl ?_;refine wpAny_bind (listUpdate_at d rfl ?_ (hsz2:=by rw[Array.size_map];show(pairsOf vs).size<=_;rw[pairsOf_size,sizeLine_eq];exact Oo));simp only[bne_self_eq_false,Bool.false_eq_true,if_false];refine wpAny_pure (B (SortSt.mk' general' (Ydk) #[] 7 none) (Ydl vs.length) (Array.Perm.refl _) (λ_ a b φ h3=>by rw[bM]at h2;exact Oo) ?_);have e:=kat_snds (ks:=vs) (vs:=vs) (st:=SortSt.mk' general' (Ydk) #[] 7 none) (p:=Ydl vs.length) rfl (by
   have e:=kas_range (Ydk);rw[show(vs.toArray.zip vs.toArray).size=vs.length by simp]at e;exact e.symm)
  exact e
 ·rw[Y7E,Y7E];have y:2<=vs.length:=by rw[bM]at h2;exact Oo
  obtain⟨fs,ζ,ψ,θ⟩:=l.firsts;refine wpAny_bind (kat_kind (T:=.type "int") ζ Oo (λv I=>?_) rfl ?_)
  ·obtain⟨i,t,rfl⟩:=θ v I;exact .now
  refine wpAny_bind (wpAny_mono (kat_run (ks:=vs) (vs:=vs) (G:=λp z=>z={ s with heap:=((s.heap.update a (Obj.mapSeq λ_=>#[])).push (seqObj "tuple" vs.toArray 0)).push (seqObj "list" #[] 0) }/\YaS p/\(Ybp->Ybq p))
   (Q:=λc z=>z={ s with heap:=((s.heap.update a (Obj.mapSeq λ_=>#[])).push (seqObj "tuple" vs.toArray 0)).push (seqObj "list" #[] 0) }/\failedOf c=none/\∃p:Array Nat,p.size=vs.length/\(YaS p/\(Ybp->Ybq p))/\arrOf c=p.map (kas_item (Ydk)))
   rfl y h64 (λο c z η ξ ι δ=>⟨δ.1,ι,ο,η,δ.2,ξ⟩)
   (eW.wp (n:=vs.length) (lt:=QR cs) (R:=λp=>YaS p/\(Ybp->Ybq p)) (λi j C ρ μ ε=>?_) (λp m=>Y0O m) (XG y))) ?_ Yay)
  ·obtain⟨b,κ,J,⟨o,D,α,ω,hd⟩,I,_⟩:=l.get ρ;obtain⟨b2,γ,L,⟨χ,S,ν,n2,N⟩,r,_⟩:=l.get μ;unfold kas_ask;rw[J,L];refine kat_lt D hd S N (zS I r ?_);have W:=I.length;have X:=r.length;rw[aA]at W X;rw[bM,bM,<-W,<-X];exact ε
  rintro⟨⟨⟩,c⟩ z ⟨rfl,υ,p,m,Z,O⟩;dsimp only;have g:=kat_snds rfl O;refine Yfj d rfl ?_;refine wpAny_bind (listUpdate_at d rfl ?_ (hsz2:=by rw[g,bM,aA,Array.length_toList,m,sizeLine_eq];exact Oo));rw[υ];simp only[bne_self_eq_false,Bool.false_eq_true,if_false];exact wpAny_pure (B c p Z.1 Z.2 g)
end
theorem PN{X:Cx}{pins:Ad}{σ:St}{H:Hp}{s:Shared}(I:Y6):∀{cs:Ac}{ys:Al}{us:Ag},Ycw YbA ys->(∀c∈cs,c≠[])->Y2m ys->mD s.heap us cs
 | [],ys,us,r,hc,v=>by
  unfold bD at r;cases(show ys=[]from r);cases v;exact .nil
 | c::cs,ys,us,r,hc,v=>by
  rw[bA]at r;unfold bD at r;obtain⟨y,ys',rfl,r1,r2⟩:=r;obtain⟨u,w,rfl,rv,n⟩:=PM v;refine .cons ?_ (PN I r2 (λc h=>hc c (bG _ h)) n);unfold dA at r1;obtain⟨a,l,rfl,i,d⟩:=r1;cases rv;obtain⟨e,j,B,g⟩:=I.tuple (jC.of i);have A:l=c.map V.int:=by
   clear j i hc g
   induction c generalizing l with
   | nil=>unfold bD at d;exact d
   | cons z c ih =>
    rw[bA]at d;unfold bD at d;obtain⟨x,p,rfl,C,m⟩:=d;cases(show x=V.int z from C);rw[ih _ m];rfl
  subst A;exact⟨a,e,rfl,B,j,hc c (aY ..)⟩
theorem PL{ys:Al}{us:Ag}(v:Y2m ys):∀ix:Ae,(∀i∈ix,i<ys.length)->eJ (ix.map λi=>Yd9 .non) (ix.map λi=>us.getD i Value.none)
 | [],_=>.nil
 | i::ix,h=>by
  have hi:=h i (aY ..);obtain⟨u,c,ru⟩:=v.get (i:=i) (x:=ys[i]) (by simp[hi]);refine .cons ?_ (PL v ix λj d=>h j (bG _ d));have a:ys.getD i .non=ys[i]:=by simp[hi]
  have e:us.getD i Value.none=u:=by rw[aM,c];rfl
  show fH (ys.getD i .non) (us.getD i Value.none);rw[a,e];exact ru
open Classical in
section
variable{X:Cx}{pins:Ad}{σ:St}{H:Hp}{s:Shared}
end
section
variable{X:Cx}
end
end L2
namespace HT
open PySem PySem.Spec PyProof.Rows PySem.Builtin
def DV:YfJ "tuple" "keys" = pure none:=am_miss_of_fast Kk
section
variable{prog:Program}{w:World}{A:Around}{E:Ya}{s:Shared}
def UC{a:Addr}{o:Obj}{xs:Ai}{k:Nat}{Q:Yac}(hx:Y9e a)(hc:o.cls=.type "tuple")(hdat:o.data=.seq xs k)(hd:o.dict=none)(hA:Y5D)
  (h:∀h' tk,(∀b u,Yai b Ym->Y14=Ym)->Q none { s with heap:=h',toks:=tk }):Y1J (getAttr? (Yd) "keys"):=by
 obtain⟨c,m,r,sl⟩:=o;simp only at hc hdat hd;subst hc hdat hd;obtain⟨n,g,d,tk,p⟩:=s;have l:∀j,(⟨n,g,d,j,p⟩:Shared).TypeIs (Yd) "tuple" := λ_=>Y0V hx;have D:=sub_AttributeError;have I:=F.slot_tuple_getattribute.lookup;have C:=F.slot_tuple_getattribute.bind (Yd);have z:=am_tuple_getattr_none;unfold getAttr? getAttrBy? getAttrBy
 repeat (any_goals (first | assumption | exact l _ | ((with_reducible show Y27 (call (Value.builtin "tuple.__getattribute__") _ _));refine call_meets F.slot_tuple_getattribute (l _) am_entry_tuple_getattribute (F.args_tuple_getattribute_2 _ _) (meets_getattribute_miss_tuple a xs k sl "keys" _ DV Dd) ⟨hx,hA,λh' j e i=>?_⟩) | wp_step))
 obtain⟨y,G,B⟩:=i.there;show Y27 (getattributeRaised _ _ _ _ _ _ _);unfold getattributeRaised
 repeat (any_goals (first | assumption | wp_step))
 exact h _ _ i.keeps
end
def vD:entryFor table "dict.update.loop" = some Builtin.«dict.update.loop» := entryFor_of_tree (by kernel_rfl)
def uZ:plainId "dict.update.loop" = true:=Kk
section
variable{prog:Program}{w:World}{A:Around}{E:Ya}{s:Shared}{K:Type}[DecidableEq K]{knd:HeapKind prog w K}
def aBd{d it t:Addr}{i:Nat}{items:Ai}{R:Y9I}(hA:Y5D)(hit:YbZ t i)(ht:s.heap.IsTuple t items)(hx:Yae i=none)
  (h:∀h',YdN it h'->R (Y67 .none) { s with heap:=h' }) :
  Y5o prog w A (.builtin "dict.update.loop" ⟨[Y5H,Y4Y,rawInt i,.none],[]⟩) R s:=by
 refine Yav vD;rw[Yam uZ];unfold Builtin.«dict.update.loop»;refine wpAny_bind (wpAny_pyNext_tuple_end hA hit ht hx λh' e=>?_);show Y27 (Dict.addKeywords d [] >>= λ_=>ret Value.none);exact Y3m (wpAny_pure (h h' e))
def DZ{b:Addr}{its:Ai}{Q:Y2v Ag}(hb:s.heap.IsTuple b its)(h:Q its.toList s):Y1J (Dict.pairItems (Y0e)):=by
 obtain⟨o,a,c,n,hd⟩:=id hb;unfold Dict.pairItems;refine Yf7 hb.typeIs ?_;rw[Yb8];exact Y7q a hd (wpAny_pure h)
def WG{d it t b a:Addr}{i:Nat}{items:Ai}{xs:Y3l K (Addr × Value)}{k:K}{v:Value}{R:Y9I}(hu:knd.room A.in1)(hit:YbZ t i)(ht:s.heap.IsTuple t items)(hx:Yae i=Y3 b)
  (hb:s.heap.IsTuple b #[Yd,v]) (nb:b≠it) (hk:∀h',(∀c o,c≠it->Y4w->Y3P c)->knd.is h' k a/\h'.DictOfH knd d xs) (nd:d≠it) (hz:Y4L)
  (h:∀h1 h' tk,(∀c o,c≠it->Y4w->h1.get? c=Y9)->Heap.SameBut d h1 h'->h'.DictOfH knd d (storedH xs k a v)->h'.IsTupleIter it t (i+1) ->
   Y5o prog w A (.builtin "dict.update.loop" ⟨[Y5H,Y4Y,rawInt ((i+1:Nat):Int),.none],[]⟩) R ({ s with heap:=h',toks:=tk })) :
  Y5o prog w A (.builtin "dict.update.loop" ⟨[Y5H,Y4Y,rawInt i,.none],[]⟩) R s:=by
 refine Yav vD;rw[Yam uZ];unfold Builtin.«dict.update.loop»;refine wpAny_bind (wpAny_pyNext_tuple_item hit ht hx λh' l B=>?_);have g:∀c o,c≠it->Y4w->Y3P c:=λc o C e=>(B.2 c C).trans e;refine YbT ?_;refine wpAny_bind (wpAny_tryCatch ?_);have n:h'.IsTuple b #[Yd,v]:=by
  obtain⟨o,p,r⟩:=hb;exact Y1v (g b o nb p) r
 refine DZ (s:={ s with heap:=h' }) n ?_;show Y27 (holding [Y6K,v] (dictSet d (Yd) v));have u:=(hk h' g).2;refine wpAny_holding (wpAny_dictSet_heap (s:={ s with heap:=h' }) hu (hk h' g).1 u (λz m j=>?_) hz);refine wpAny_pure (Y0o (Code.quiet_builtin _ Kk));have y:=h h' z (s.toks+knd.draws k) g j m (by
  obtain⟨o,p,r⟩:=l;exact Y1v ((j.2 it (Ne.symm nd)).trans p) r)
 rw[show((i+1:Nat):Int)=(i:Int)+1 from Oo]at y;exact y
end
end HT
namespace L2
open PySem PySem.Spec PySem.W PyProof.Rows HT
def SG(H:Hp)(y:V)(p:Y4l × V):Prop:=∃b a,y=Y0e/\H b=Yf [Yd,p.2]/\H a=Yf (p.1.map kV)
section
variable{X:Cx}{pins:Ad}{σ:St}{H:Hp}
def KT.isAll{P:Program}{w:World}{H:Hp}{h:Heap}(ok:sC P w H h){l:Yr}{m:Ya9}(q:KT H l m):∀x∈m,(tupleKind (gD P w)).is h x.1 x.2.1:=by
 unfold KT at q
 induction q with
 | nil=>intro x a;exact nomatch a
 | @cons p q ps qs hq t ih =>
  intro x a;rcases bN.mp a with e | a
  ·subst e;exact rS ok (by rw[<-hq.1];exact hq.2.1)
  ·exact ih x a
theorem FQ{D it t:Addr}{ys:Al}{R:Y9I}(hu:Y3M 8<cLine)(hA:X.A.handled=none)(hD:H D=none)(ht:H t=Y7f)(nit:it≠D) :
  ∀(rest:Yr) (i:Nat) (kvs:Yr) (s:Shared),Y2Z (Y8E D kvs) s->pC X pins (Y8E D kvs) it->YbZ t i->Paired (SG H) (ys.drop i) rest->((kvs++rest).map (·.1)).Nodup->(kvs++rest).length<=1000 ->
   (∀s',Y2Z (Y8E D (kvs++rest)) s'->R (Y67 .none) s')->Y5o X.prog X.w X.A.in1 (.builtin "dict.update.loop" ⟨[.ref D,Y4Y,rawInt i,.none],[]⟩) R s
 | [],i,kvs,s,I,fp,hit,pr,nd,hz,k=>by
  have ntD:t≠D:=λe=>by subst e;rw[hD]at ht;cases ht
  obtain⟨ζ,r,S,_⟩:=I.tuple (jC.of (show upd H D (.dT kvs) t=some (.tup ys)by rw[dR ntD];exact ht));have hl:ys.length<=i:=by
   generalize hq:ys.drop i=l at pr;cases pr;exact List.drop_eq_nil_iff.mp hq
  have hl2:=r.length;rw[List.append_nil]at k;refine aBd hA hit S (by rw[Array.getElem?_eq_none];simp;exact Oo) λn e=>k _ ?_;exact I.turnedL (t':=s.toks) (fp:=[it]) (λb o g x=>e b o (by simpa using g) x) (λb g=>by
   cases(show b=it by simpa using g);exact fp)
 | p::rest,i,kvs,s,I,fp,hit,pr,nd,hz,k=>by
  have ntD:t≠D:=λe=>by subst e;rw[hD]at ht;cases ht
  obtain⟨ζ,r,S,_⟩:=I.tuple (jC.of (show upd H D (.dT kvs) t=some (.tup ys)by rw[dR ntD];exact ht));generalize hq:ys.drop i=l at pr;cases pr with
  | @cons y _ ys' _ hy pr' =>
   obtain⟨b,a,rfl,g,κ⟩:=hy;have ν:i<ys.length:=by
    by_cases h:i<ys.length
    ·exact h
    ·rw[List.drop_eq_nil_iff.mpr Oo]at hq;cases hq
   have γ:ys[i]?=some (.ref b):=by
    have:=List.drop_eq_getElem_cons ν;rw[hq]at this;injection this with O P;rw[aB ν,<-O]
   have B:ys.drop (i+1)=ys':=by
    have:=List.drop_eq_getElem_cons ν;rw[hq]at this;injection this with O P;exact P.symm
   obtain⟨u,β,ru⟩:=r.get γ;cases ru;have ε:b≠D:=λe=>by subst e;rw[hD]at g;cases g
   have η:a≠D:=λe=>by subst e;rw[hD]at κ;cases κ
   have M:upd H D (.dT kvs) b=some (.tup [.ref a,p.2]):=by rw[dR ε];exact g
   have L:upd H D (.dT kvs) a=some (.tup (p.1.map kV)):=by rw[dR η];exact κ
   obtain⟨χ,rb,δ,_⟩:=I.tuple (jC.of M);obtain⟨ua,uv,rfl,υ,rv⟩:=aGh rb;cases υ;have τ:b≠it:=λe=>by have:=fp.1;rw[<-e,M]at this;cases this
   obtain⟨z,Z,xs,j,o,es,φ,O,P,h3,ο,h5⟩:=(show gO X.prog X.w (upd H D (.dT kvs)) s.heap D (.dT kvs)from I.hok D _ bH);have d:∀n N,(∀c o,c≠it->s.heap.get? c=some o->n.get? c=some o)->cY X pins σ (upd H D (.dT kvs)) { s with heap:=n,toks:=N }:=λn N m =>
    I.turnedL (t':=N) (fp:=[it]) (λb o g x=>m b o (by simpa using g) x) (λb g=>by
     cases(show b=it by simpa using g);exact fp)
   have ω:xs.length=kvs.length:=(Paired.length j).symm;refine WG (knd:=tupleKind (gD X.prog X.w)) (xs:=xs) (k:=p.1) (v:=uv) (b:=b) (a:=a) (show _<_ by show X.A.in1.in1.units<cLine;exact aI (show X.A.in1.in1.units<=X.A.units+2 from aL _) Oo) hit S (by simpa using β) δ τ (λn m=>⟨rS (d n s.toks m).hok L,o,es,φ,m D o (Ne.symm nit) O,P,h3,ο,KT.isAll (d n s.toks m).hok j,h5⟩) (Ne.symm nit) Oo λθ hh2 N m T α G=>?_;have I1:=d θ s.toks m;obtain⟨q,μ,U,C,g2,ρ,ψ,_,g5⟩:=α;have ι:fX kvs p.1=none:=by
    rw[bF,bA]at nd;have J:=(List.nodup_append.mp nd).2.2;cases hv:fX kvs p.1 with
    | none=>rfl
    | some v=>exact absurd rfl (J _ (AJ hv) p.1 (aY ..))
   have W:(jQ kvs p.1 p.2).length<=sizeLine:=by
    have h6:=fK kvs p.1 p.2;rw[aU,cD]at hz;have h7:(1000:Nat)<=sizeLine:=Dd;exact Oo
   have I2:=xP (t':=N) (ob:=.dT (jQ kvs p.1 p.2)) I1 (by rw[bH];exact True.intro) T ⟨q,C⟩ ⟨W,Z,_,(KT.put (show KT (upd H D (.dT kvs)) kvs xs from j) p.1 L rv).keeps λc ys ξ=>(by rw[dR (qL ξ bH (λz=>nomatch z))];exact ξ),q,μ,U,C,g2,ρ,ψ,g5⟩;rw[aBc,CC p.2 ι]at I2;refine FQ hu hA hD ht nit rest (i+1) (kvs++[p]) _ I2 ?_ G (by rw[B];exact pr') (by rw[List.append_assoc];exact nd) (by rw[List.append_assoc];exact hz) (by rw[List.append_assoc];exact k);refine⟨?_,fp.2⟩;rw[dR nit];have:=fp.1;rw[dR nit]at this;exact this
@[irreducible] def HH:Y1x:=λxs H Q=>∃(t:Addr) (ys:Al) (kvs:Yr),xs=[Y96]/\H t=Y7f/\Ybg (SG H) ys/\(kvs.map (·.1)).Nodup/\Yby/\∀D,H D=none->Y1d D (Y8E D kvs)
def rdcp{H:Hp}{Q:VK}{t:Addr}{ys:Al}{kvs:Yr}(ht:H t=Y7f)(pr:Ybg (SG H) ys)(nd:(kvs.map (·.1)).Nodup)(hz:Yby)(q:∀D H',H D=none->Y0F=Y15->Y0->Y18):HH [Y96] H Q:=by
 unfold HH;exact⟨t,ys,kvs,rfl,ht,pr,nd,hz,λD a=>q D _ a bH (aT.upd a)⟩
def aAi(hu:Y3M 64<cLine)(hc:Y1t):Y9Q X "dict" HH:=by
 unfold HH;intro c s σ H η ζ Q I r h;obtain⟨t,ys,N,rfl,y,α,γ,β,q⟩:=h;obtain⟨u,rfl,δ⟩:=nF r;cases δ;have P:=Y8x;refine callType_codes (Q₁:=λm R=>m=Y2D/\R={ s with heap:=s.heap.push { cls:=.type "dict",data:=.dict #[] } }) F.kt_called_dict (F.kt_typeCall_dict_1 _) F.entry_dict_init (kt_code_dict_new _ Y6o) ?_;rintro m R ⟨rfl,rfl⟩;have C:=Ydv;have I1:Y29 c (Y99 H (.dT [])) ({ s with heap:=s.heap.push { cls:=.type "dict",data:=.dict #[] } }):=I.laid (a:=s.heap.objs.size) (o:=.dT []) (t':=s.toks) (Yci q) (Yl) (DG s.heap I.big);have L:Yc4 t:=λe=>by subst e;rw[C]at y;cases y
 have B:upd H s.heap.objs.size (.dT []) t=Y7f:=by rw[dR L];exact y
 obtain⟨⟨ε,S,g,z⟩,J,rt,W,i,j,U,p⟩:=(show gO X.prog X.w (upd H s.heap.objs.size (.dT [])) (s.heap.push { cls:=.type "dict",data:=.dict #[] }) t (.tup ys)from I1.hok t _ B);rw[g]at i;cases i;have d:(s.heap.push { cls:=.type "dict",data:=.dict #[] }).DictOf (gD X.prog X.w) s.heap.objs.size []:=Heap.DictOf.new s.heap;refine Y05 d.typeIs (F.args_dict_init_2 _ _);unfold Builtin.«dict.__init__»;refine Y4K;unfold Builtin.Dict.selfAndRest;refine wpAny_bind (wpAny_notOrdered_dict d.typeIs ?_);show Y27 (pure (s.heap.objs.size,[Value.ref t]));refine Y2e;show Y27 (Builtin.Dict.updateFrom "dict.__init__" s.heap.objs.size (Y96) [] .none);unfold Builtin.Dict.updateFrom;refine wpAny_bind (wpAny_typeOf (T := "tuple") (Y0J g j) ?_);rw[Yb8];refine wpAny_bind (UC (s:={ s with heap:=s.heap.push { cls:=.type "dict",data:=.dict #[] } }) g j p z P λl n M=>?_);rw[if_pos (by rfl)];refine Y9g ?_;refine wpAny_bind (wpAny_pyIter_tuple (s:={ s with heap:=l,toks:=n }) (items:=J.toArray) ⟨S,M t S g,j,U,p⟩ ?_);refine wpAny_pure (Y0o (Code.quiet_builtin _ Kk));have I2:Y29 c (Y99 H (.dT [])) ({ s with heap:=l,toks:=n }):=I1.kept (t':=n) M;have I3:Y29 c (Y99 H (.dT [])) ({ s with heap:=l.push { cls:=.type "tuple_iterator",data:=.fields #[.ref t,.int 0 0] },toks:=n }):=I2.kept (t':=n) (Y64 _ e)
 have G:s.heap.objs.size<l.objs.size:=by
  obtain⟨_,_,_,Z,_⟩:=d;exact bK (M _ _ Z)
 have O:upd H s.heap.objs.size (.dT []) l.objs.size=none:=I2.hok.fresh (Yl);refine FQ (D:=s.heap.objs.size) (it:=l.objs.size) (t:=t) (ys:=ys) Oo P C y (Nat.ne_of_gt G) N 0 [] _ I3 (I2.fpOk (Yl) O) (Y8Z _) (by simpa using α) (by simpa using γ) (by simpa using β) λθ I'=>⟨rfl,.ref _,_,I',rfl,?_⟩;rw[List.nil_append];exact q _ C
end
end L2
namespace HT
open PySem PySem.Spec PyProof.Rows
section
variable{prog:Program}{w:World}{A:Around}{E:Ya}{s:Shared}{it d:Addr}{es:Yc8}{ep i:Nat}{od:Obj}
def aCd{Q:Yac}(hit:s.heap.IsKeyIter it d i es.size ep)(hod:Y2H d od)(hdd:od.data=YbF ep)(hi:i<es.size)
  (h:∀h',h'.IsKeyIter it d (i+1) es.size ep->Yat it h'->Q (some es[i].key) { s with heap:=h' }):Ybj it:=by
 obtain⟨⟨u,r,l,p⟩,m,n,hd⟩:=id hit;simp only at n hd;subst n hd;have c:=hit.typeIs;unfold pyNext;refine Yal (Y8r "__next__" c F.slot_dict_keyiterator_next F.slot_dict_keyiterator_next c F.entry_dict_keyiterator_next ?_ (F.args_dict_keyiterator_next_1 _));have g:Yy (Builtin.Dict_items.ownsTuple "dict_keyiterator"):=Dd
 repeat (any_goals (first | assumption | (with_reducible refine Ydg c) | (with_reducible refine Ydo c) | (with_reducible refine wpAny_fieldsOf m rfl ?_) | (with_reducible refine Yfy hdd ?_) | (with_reducible refine YfL hdd ?_) | wp_step))
 rw[if_neg (show ¬((i:Int)<0)by exact Oo),Int.toNat_natCast,Array.getElem?_eq_getElem hi];have a:(s.heap.update it (Obj.mapFields (·.setIfInBounds 1 (rawInt ((i:Int)+1))))).IsKeyIter it d (i+1) es.size ep :=
  ⟨_,Heap.get?_update_self _ m (Obj.isFreed_of_fields (Obj.data_mapFields rfl _)),(Obj.cls_mapFields ..).trans rfl,by rw[Obj.data_mapFields rfl];simp[rawInt]⟩
 have j:({ s with heap:=s.heap.update it (Obj.mapFields (·.setIfInBounds 1 (rawInt ((i:Int)+1)))) }:Shared).TypeIs (Y4Y) "dict_keyiterator" := a.typeIs;have e:=h _ a (Heap.SameBut.update ..)
 repeat (any_goals (first | assumption | (with_reducible refine Ydg c) | (with_reducible refine Ydo c) | (with_reducible refine Ydo j) | (with_reducible refine wpAny_setField m rfl (by rw[g];simp) ?_) | wp_step))
 exact Yf0 e
def aFn{Q:Yac}(hh:Y5D)(hit:s.heap.IsKeyIter it d i es.size ep)(hod:Y2H d od)(hdd:od.data=YbF ep)(hi:es.size<=i)
  (h:∀h',YdN it h'->Q none { s with heap:=h' }):Ybj it:=by
 obtain⟨⟨n,m,e,l⟩,g,j,hd⟩:=id hit;simp only at j hd;subst j hd;have a:=hit.typeIs;have c:Yy (Builtin.Dict_items.ownsTuple "dict_keyiterator"):=Dd;unfold pyNext;refine Yal (Y8r "__next__" a F.slot_dict_keyiterator_next F.slot_dict_keyiterator_next a F.entry_dict_keyiterator_next ?_ (F.args_dict_keyiterator_next_1 _))
 repeat (any_goals (first | assumption | (with_reducible refine Ydg a) | (with_reducible refine Ydo a) | (with_reducible refine wpAny_fieldsOf g rfl ?_) | (with_reducible refine Yfy hdd ?_) | (with_reducible refine YfL hdd ?_) | wp_step))
 rw[if_neg (show ¬((i:Int)<0)by exact Oo),Int.toNat_natCast,Array.getElem?_eq_none hi]
 repeat (any_goals (first | assumption | (with_reducible refine Ydg a) | (with_reducible refine wpAny_setField g rfl (by rw[c];simp) ?_) | wp_step))
 simp only[raiseNew];refine wpAny_bind (wpAny_handled ?_);rw[show A.in1.handled=none from hh];refine Y3m (wpAny_throw ?_);refine wpAny_bind (Yf1 "StopIteration" true (Y0V Y1u) ?_);exact wpAny_pure (h _ (((Heap.SameBut.update ..).extBut.push _).push _))
def aCe{Q:Ya}(hd:Y7F d)(hod:Y2H d od)(hex:od.ExactDict)(hdd:od.data=YbF ep)
  (hQ:Yap ({ s with heap:=s.heap.push { cls:=.type "dict_keyiterator",data:=.fields #[.ref d,.int 0 0,.int es.size 0,.int ep 0] } })):Y1J (pyIter (Y5H)):=by
 have a:Y8p d "dict" := ⟨od,hod,hex.1⟩;refine wpAny_pyIter_slot a F.slot_dict_iter (wpAny_call_entry F.slot_dict_iter a F.entry_dict_iter ?_ (F.args_dict_iter_1 _));unfold Builtin.«dict.__iter__»;refine Y4K;unfold Builtin.Dict.dictSlotNone;refine wpAny_bind (wpAny_notOrdered_dict a ?_);show Y3F (pure (Value.ref d));refine Y2e
 repeat (any_goals (first | assumption | (with_reducible refine Yfy hdd ?_) | (with_reducible refine YfL hdd ?_) | wp_step))
 exact⟨_,rfl,"dict_keyiterator",_,Y0V Y1u,F.slot_dict_keyiterator_next.lookup,hQ⟩
end
end HT
namespace L2
open PySem PySem.Spec PySem.W PyProof.Rows HT
section
variable{X:Cx}{pins:Ad}{σ:St}{H:Hp}{s:Shared}
theorem CG{α β:Type}{R:Y0u α β}:∀{l:Yu}{m:Ya6}{i:Nat}{a:α},Paired R l m->l[i]?=Y7a->∃b,m[i]?=some b/\R a b
 | _,_,i,a,.nil,h=>by simp at h
 | _,_,0,a,.cons r t,h=>by
  cases(show _=a by simpa using h);exact⟨_,rfl,r⟩
 | _,_,i+1,a,.cons r t,h=>by
  obtain⟨b,h1,h2⟩:=CG t (by simpa using h);exact⟨b,by simpa using h1,h2⟩
end
section
variable{X:Cx}{tg:Expr}
end
end L2
namespace HT
open PySem PySem.Spec PyProof.Rows PySem.W
section
variable{prog:Program}{w:World}{A:Around}{d:Addr}{o:Obj}{es:Yc8}{ep:Nat}
def SR(hh:Y5D)(I:Addr)(hne:d≠I)(hdat:o.data=YbF ep) :
  Walks prog w A I [I,d] [I] es.size (λi v=>∃hi:i<es.size,v=es[i].key) (λi h=>h.IsKeyIter I d i es.size ep/\h.get? d=Y9) where
 sub:=λb a=>by simp at a;simp[a]
 frame:=λ_ _ _ st n=>⟨st.1.at λo e=>n I (by simp) o e,n d (by simp) o st.2⟩
 item:=λi s Q E hi st c=>aCd st.1 st.2 hdat hi λl j g =>
  c _ l s.toks (Y5l hi) ⟨j,(g.2 d hne).trans st.2⟩ λb o a e=>(g.2 b (λh=>a (by simp[h]))).trans e
 done:=λs Q E st c=>aFn hh st.1 st.2 hdat (Yl) λl m=>c l s.toks λb o a e=>m b o (λh=>a (by simp[h])) e
 self:=λ_ _ _ _ st c=>wpAny_pyIter_keyiter st.1 c
def QU(lo:Y7F d)(hex:o.ExactDict)(hdat:o.data=YbF ep):KdlSrc prog w "dict" d d es.size (λi v=>∃hi:i<es.size,v=es[i].key) (λh=>h.get? d=Y9) where
 type:=λ_ a=>Y1v a hex.1
 there:=λ_ a=>⟨bK a,bK a⟩
 keep:=λ_ _ a g=>g d (Y4I) o a
 notList:=Dd
 notTuple:=Dd
 hint:=λ_ _ _ _ a j=>kdl_hint_dict (Y1v a hex.1) j
 iter:=λA s e a=>⟨_,_,λE Q c=>aCe lo a hex hdat c,SR e _ (dL (bK a)) hdat,Y8Z _,Y0Q a⟩
end
end HT
namespace L2
open PySem PySem.Spec PySem.W PyProof.Rows HT
def DT(H:Hp)(kvs:Yr)(ys:Al):Prop:=Y2w kvs.length/\∀(i:Nat) p,kvs[i]?=some p->∃b,Y1o=Y3 b/\H b=Yf (p.1.map kV)
end L2
namespace HT
open PySem PySem.Spec PyProof.Rows PySem.W
section
variable{prog:Program}{w:World}{A:Around}{E:Ya}{s:Shared}{it d:Addr}{es:Yc8}{ep i:Nat}{od:Obj}
end
end HT
namespace L2
open PySem PySem.Spec PySem.W PyProof.Rows HT
section
variable{X:Cx}{tg:Expr}
end
section
variable{X:Cx}{o e:Expr}{apos cpos:Pos}{td ty:TE}
def PF(hu:Y3M 1<cLine)(ho:Yh o td)(he:Yh e ty)(base:attributeBase o "get" X.env (Y0d o)=Y0d o:=by rfl)
  (few:((backTo cpos (starEach [e] X.env)).all (λx=>! x.1)&&(backToKw cpos (keywordEach [] X.env)).all (λx=>x.1.isSome)&&Y22 (([e]:List Expr).length+([]:List Keyword).length+(if([]:List Keyword).isEmpty then 0 else 1)) 30)=true:=by rfl)
  (line:(YaJ)=true:=by rfl) (trees:YeN (Y2C e)=[(false,Y1l)]:=by rfl):Yh (Y92 "get" [e] [] cpos) (WW td ty):=⟨YO hu ho.p he.p ⟨base,few,line,trees⟩⟩
end
end L2
namespace L2
open PySem
section
variable{js:Ae}{te:TE}{tc:TT}{σ:St}{H:Hp}{Q:VK}
end
end L2
namespace L2
open PySem PySem.Spec PyProof.Rows
section
variable{X:Cx}{pins:Ad}{σ:St}{H:Hp}{s:Shared}{scope:Scope}{x x2:Str}{N':Ah}{js:Ae}{fp:Y0v}
end
section
variable{X:Cx}{pins:Ad}{σ:St}{H:Hp}{s:Shared}{scope:Scope}{x:Str}{N':Ah}{js:Ae}{fp:Y0v}{elt iter:Expr}{px pos:Pos}{tg:Expr}{x2:Str}{te:TE}
end
section
variable{X:Cx}{scope:Scope}{x x2 y:Str}{N':Ah}{js:Ae}{elt iter tg:Expr}{py pos spos:Pos}{te:TE}{wi:TI}{i:Nat}
end
end L2
namespace HT
open PySem PySem.Spec PyProof.Rows
section
variable{prog:Program}{w:World}{A:Around}{E:Ya}{s:Shared}{d:Addr}{o:Obj}{es:Yc8}{ep:Nat}
end
end HT
namespace L2
open PySem PySem.Spec PySem.W PyProof.Rows HT
def yQ(c:Af):(c.map (Sum.inl:Int->fJ)).map kV=Yc0:=by rw[List.map_map];rfl
abbrev kT(c:Af):Y4l:=c.map Sum.inl
def jA{a b:Af}(h:kT a=kT b):a=b:=by
 have:∀{a b:Af},kT a=kT b->a=b:=by
  intro a
  induction a with
  | nil=>intro b h;cases b with
   | nil=>rfl
   | cons _ _=>cases h
  | cons x a ih=>intro b h;cases b with
   | nil=>cases h
   | cons y b =>
    injection h with h1 h2;injection h1 with h1;rw[h1,ih h2]
 exact this h
section
variable{X:Cx}{o e f k v:Expr}{apos cpos pos:Pos}{td ty tx tk tv:TE}
@[irreducible] def aBD(p:Addr)(x y:V)(H2:Hp)(Q:VK):Prop:=∃b k,x=Y0e/\H2 b=YaW kV/\H2 p=Y0g []/\Y1d p (upd H2 p (.dT [(k,y)]))
def aDE(tk tv:TE):TE:=λσ H Q=>∀p,H p=none->tk σ (Y8E p []) λx H1=>tv σ H1 λy H2=>aBD p x y H2 Q
def aGx{p b:Addr}{y:V}{H:Hp}{Q:VK}{c:Af}(hb:H b=YcO)(hp:H p=Y0g [])(q:∀H',H' p=Y0g [(kT c,y)]->Y12->Y0r p):aBD p (Y0e) y H Q:=by
 unfold aBD;exact Y8i b (kT c) (by rw[yQ];exact hb) hp (q _ bH aW.self)
def JD(hu:Y3M 1<cLine)(hk:Yh k tk)(hv:Yh v tv):Yh (.Dict [some k] [v] pos) (aDE tk tv):=⟨by
 intro d s σ H Q I q;have R:=Ydv;have I1:=YeZ (.dT []) (s.heap.push { cls:=.type "dict",data:=.dict #[] }) s.toks (Yci q) Yl (DG s.heap I.big);refine wpAny_Dict_any rfl rfl (by simp) (show 1<=15 by decide) (pairTrees_cons_walk (thn (hk.p d _ σ _ _ I1 (q _ R)) λu J ⟨x,H1,I1,P,B⟩=>thn (hv.p d J σ H1 _ I1 B) λW Z ⟨y,H2,I2,N,n⟩=>pairTrees_nil_walk ?_));unfold aBD at n;obtain⟨b,j,rfl,l,e,D⟩:=n;cases(show u=Value.ref b from P);obtain⟨z,hd,α,g,w⟩:=aDj I2.hok e;unfold storeAll;rw[List.forIn_cons];refine YbP (wpAny_dictSet_heap (show X.A.units<cLine by exact Oo) (rS I2.hok l) w (λh' h S=>Y2e) (by rw[<-Paired.length g];exact z));dsimp only;rw[List.forIn_nil];refine Y2e;obtain⟨q,L,C,m,G,T,r,_,M⟩:=h;refine Y0H (.ref _) _ ?_ D;have O:Y0q (([(j,y)]:List (List fJ × V)).length):=by show Y0q 1;decide
 refine xP I2 (by rw[e];exact True.intro) S ⟨q,m⟩ ⟨O,hd,_,(g.put j l N).keeps λc U i=>?_,q,L,C,m,G,T,r,M⟩;rw[dR (qL i e (λz=>nomatch z))];exact i⟩
def GN(hu:Y3M 1<cLine)(ho:Yh o td)(he:Yh e ty)(hf:Yh f tx)(base:attributeBase o "get" X.env (Y0d o)=Y0d o:=by rfl)
  (few:((backTo cpos (starEach [e,f] X.env)).all (λx=>! x.1)&&(backToKw cpos (keywordEach [] X.env)).all (λx=>x.1.isSome)&&Y22 (([e,f]:List Expr).length+([]:List Keyword).length+(if([]:List Keyword).isEmpty then 0 else 1)) 30)=true:=by rfl)
  (line:(YaJ)=true:=by rfl) (trees:YeN (Y1Y [e,f])=[(false,Y1l),(false,Y0d f)]:=by rfl):Yh (Y92 "get" [e,f] [] cpos) (WV td ty tx):=⟨YN hu ho.p he.p hf.p ⟨base,few,line,trees⟩⟩
@[irreducible] def aBy(b:Bool):R2:=λx y H Q=>∃a o,y=Yd/\oE H a x o/\Y3e (xor b o.isSome)
def rind{b:Bool}{x:V}{a:Addr}{o:Am}{H:Hp}{Q:VK}(g:oE H a x o)(q:Y3e (xor b o.isSome)):aBy b x (Yd) H Q:=by unfold aBy;exact Y0i a o g q
def YT(hu:Y3M 1<cLine):Y47 .In (aBy false):=by
 intro c s σ H x y v u Q I e d h;unfold aBy at h;obtain⟨a,o,rfl,g,q⟩:=h;cases(show u=Value.ref a from d);exact aJa hu I g e λi I3=>Y0H (.bl _) H I3 (by simpa using q)
end
def VN{H:Hp}{p b:Addr}{kvs:Yr}{c:Af}{v:V}{D:pW}{σ:St}(e:H p=Y15)(eb:H b=YcO)(hl:Y8m 100000)(q:∀H',H' p=Y0g (Y4X (kT c) v)->Y12->Y8o H') :
  rDP D σ (Y21) (Y0e) v H:=by
 unfold rDP;exact Y0i p _ (IV.t (k:=kT c) e (by rw[yQ];exact eb) (aI hl Dd)) (q _ bH aW.self)
def oE.ct{H:Hp}{p b:Addr}{kvs:Yr}{c:Af}(e:H p=Y15)(eb:H b=YcO):oE H p (Y0e) (Y8v (kT c)):=oE.t e (by rw[yQ];exact eb)
def MF{H:Hp}{p b:Addr}{kvs:Yr}{c:Af}{v:V}{Q:VK}(e:H p=Y15)(eb:H b=YcO)(hv:Y8v (kT c)=Yw)(q:Q v H):rDG (Y21) (Y0e) H Q:=by
 unfold rDG;exact⟨p,v,rfl,hv ▸ oE.ct e eb,q⟩
def EB{kvs:Yr}{k:Y4l}{v:V}(h:(Y4y).isSome=true):(jQ kvs k v).map (·.1)=kvs.map (·.1):=by
 unfold jQ;rw[nG,Y4W,List.map_map];refine cU λp _=>?_;show(if p.1=k then(p.1,v) else p).1=p.1;split <;> rfl
end L2
namespace L2
open PySem
section
variable{js:Ae}{te:TE}{tc:TT}{σ:St}{H:Hp}{Q:VK}
end
end L2
namespace L2
open PySem PySem.Spec PySem.W PyProof.Rows HT
section
variable{prog:Program}{w:World}{A:Around}{E:Ya}{s:Shared}
def LG{T:String}{r d:Addr}{n:Nat}{P:Yah Value}{OK:Y1c Heap}{Q:Y2v Ag}(K:KdlSrc prog w T r d n P OK)(hh:Y5D)(hok:OK s.heap)(hn:Y0q n)
  (hQ:∀h' tk (acc':Ai),(∀b o,Y26->Y14=Y9)->ItemsOf P acc' n->Q acc'.toList { s with heap:=h',toks:=tk }) :
  Y1J (collect (.ref r)):=by
 have lt:=K.there _ hok;have p:(s.heap.push (seqObj "list" #[] 0)).get? s.heap.objs.size=some { cls:=.type "list",data:=.seq #[] 0 }:=Y1u
 let G:Y9I:=λa z=>∃g m l e,a=Y67 Y2D/\z={ s with heap:=g,toks:=m }/\(∀b o,Y26->g.get? b=Y9)/\g.get? s.heap.objs.size=some { cls:=.type "list",dict:=none,data:=.seq l e,slots:=#[] }/\ItemsOf P l n
 have ext:=kdl_extend (A:=A) (s:={ s with heap:=s.heap.push (seqObj "list" #[] 0) }) (R:=G) K hh (K.keep _ _ hok λb _ o e=>Y0Q e) s.heap.objs.size (Nat.ne_of_gt lt.1) (Nat.ne_of_gt lt.2) (Y2D) 0 p
  (λg m l e i h j=>⟨g,m,l,e,rfl,rfl,λb o z=>i b o (dL (bK z)) (Y0Q z),h,j⟩) hn
 unfold collect;refine wpAny_bind (wpAny_runValue (Yav entry_proto_collect'));rw[Yam PySem.F.plain_proto_collect];refine wpAny_bind (m:=newList []) (wpAny_newList (wpAny_pure ⟨Yga PySem.F.plain_list_iadd,Yav entry_list_iadd'⟩));rw[Yam PySem.F.plain_list_iadd];refine wpAny_mono ext (λu z y=>?_) λe z ⟨_,_,_,_,q,_⟩=>by cases q
 cases u with
 | done f=>obtain⟨g,m,l,e,q,rfl,i,h,j⟩:=y;cases q;exact Yff h (wpAny_pure (hQ g m l i j))
 | again c=>exact⟨y.1,codeAny_mono y.2 λq z ⟨g,m,l,e,eq,B,i,h,j⟩=>by subst eq B;exact Yff h (wpAny_pure (hQ g m l i j))⟩
def MV{x:Value}{Q:Ya}
  (h:wpAny (model prog w) A.in1 (collect x) (λvs s1=>∃h1 tk cs,s1={ s with heap:=h1,toks:=tk }/\(∀b o,Y26->h1.get? b=Y9)/\mD h1 vs cs/\vs.length<64 /\
   ∀(p:Y0S) (h':Heap) (D:Addr) (c:Nat),YaS p->(Ybp->Ybq p)->(∀b o,h1.get? b=Y9->Y14=Y9)->h1.objs.size<=D->Y7z D (Yco "list" (Yf5 (λi=>YdG i)) c)->Y1d D ({ s with heap:=h',toks:=tk })) E s) :
  Y1J (YaC "sorted" [x]):=by
 refine Calls.call_function_entry kind_sorted plain_sorted entry_sorted (args_sorted1 _) ?_;unfold Builtin.«sorted»;refine wpAny_bind (m:=checkCount "sorted" 1 1 _) (Y2e);refine Y9i h (λvs s1 ⟨h1,tk,cs,e,g,y,l,q⟩=>?_) Yay;subst e;refine wpAny_bind (wpAny_newList ?_ (by rw[sizeLine_eq];exact Oo));have a:(h1.push (seqObj "list" vs.toArray 0)).get? h1.objs.size=Yco "list" vs.toArray 0:=Y1u;have keep:∀b o,h1.get? b=Y9->(h1.push (seqObj "list" vs.toArray 0)).get? b=Y9:=λb o q=>Y0Q q;show Y5t _ ({ s with heap:=h1.push (seqObj "list" vs.toArray 0),toks:=tk });refine YbT (wpAny_call_entry slot_list_sort (Y0V a) entry_list_sort ?body (args_list_sort _));refine SW (s:={ s with heap:=h1.push (seqObj "list" vs.toArray 0),toks:=tk }) a (y.keep λb o z _=>keep b o z) l λp n B=>Yf0 Y8;unfold sortedHeap;have u:((h1.push (seqObj "list" vs.toArray 0)).update h1.objs.size (Obj.mapSeq λ_=>#[])).get? h1.objs.size=Yco "list" (#[]) _:=YfE a (#[]);have r:=aG (seqObj "list" #[] 0) (aG (seqObj "tuple" vs.toArray 0) u);refine q p _ h1.objs.size _ n B (λb o e=>?_) (Yl) (YfE r (Yf5 (λi=>YdG i)));have j:b<h1.objs.size:=bK e;have d:b≠h1.objs.size:=dL j;rw[YfU _ _ _ d]
 exact Y7H (by rw[YfU _ _ _ d];exact keep b o e)
end
def aDl{X:Cx}{pins:Ad}{σ:St}{H:Hp}{s:Shared}(I:Y6){d:Addr}{kvs:Yr}(e:H d=Y15):Y7F d/\(kvs.map (·.1)).Nodup/\∃o,Y9e d/\o.ExactDict/\∃es ep,o.data=YbF ep/\es.size=kvs.length /\
  ∀(i:Nat) (hi:i<es.size) p,kvs[i]?=some p->∃b,es[i].key=Y0e/\H b=Yf (p.1.map kV):=by
 obtain⟨z,hd,C,a,o,es,ep,u,y,D,c,j⟩:=(show gO X.prog X.w H s.heap d (.dT kvs)from I.hok d _ e);have l:es.size=kvs.length:=by
  have:=Y7u c;rw[aA,<-Paired.length a]at this;simpa using this
 have m:kvs.map (·.1)=C.map (·.1):=by
  clear c j l e z
  induction a with
  | nil=>rfl
  | cons r t ih=>rw[bA,bA,r.1,ih]
 refine⟨hd,m ▸ j,o,u,y,es,ep,D,l,λi hi p n=>?_⟩;obtain⟨x,A,J,B,G⟩:=CG a n;have h:es.toList[i]?=some (entryOfKey (YaG X.prog X.w) x):=by rw[c,aE,A];rfl
 have g:es[i]=entryOfKey (YaG X.prog X.w) x:=by
  have:es.toList[i]?=some es[i]:=by simp[hi]
  rw[this]at h;injection h
 rw[g];exact Yz x.2.1 B
abbrev kyI(c:Af):Y4l:=c.map Sum.inl
def kyV(c:Af):(kyI c).map kV=Yc0:=by rw[List.map_map];rfl
@[irreducible] def HF:Y1x:=λxs H Q=>∃(d:Addr) (kvs:Yr) (cs:Ac),xs=[Y5H]/\H d=Y15/\kvs.map (·.1)=cs.map kyI/\(∀c∈cs,c≠[])/\cs.length<64 /\
 ∀q (ys:Al) (ds:Ac) H',ds.Perm cs->ds.Pairwise (λa b=>rP a b=true)->H q=none->H' q=Y0w->bD H' (ds.map YbA) ys->Y0->Y0r q
def rsrd{H:Hp}{Q:VK}{d:Addr}{kvs:Yr}{cs:Ac}(h:H d=Y15)(hk:kvs.map (·.1)=cs.map kyI)(hc:∀c∈cs,c≠[])(hz:cs.length<64)
  (q:∀q (ys:Al) (ds:Ac) H',ds.Perm cs->ds.Pairwise (λa b=>rP a b=true)->H q=none->H' q=Y0w->bD H' (ds.map YbA) ys->Y0->Y0r q):HF [Y5H] H Q:=by
 unfold HF;exact⟨d,kvs,cs,rfl,h,hk,hc,hz,q⟩
def aCt{X:Cx}(hc:Y1t):Y4M X "sorted" HF:=by
 unfold HF;intro S s σ H xs us Q I r h;obtain⟨d,L,g,rfl,hq,O,ι,hz,q⟩:=h;obtain⟨u,rfl,ο⟩:=nF r;cases ο;obtain⟨N,W,o,aa,χ,es,ep,τ,ω,θ⟩:=aDl I hq;have lk:L.length=g.length:=by have:=Y7u O;simpa using this
 refine MV (LG (QU N χ τ) (show X.A.in1.handled=none from I.ok.hd hc) aa (by rw[sizeLine_eq];exact Oo) λJ tk β kp G=>?_);obtain⟨la,G⟩:=G;have I1:Y29 S H ({ s with heap:=J,toks:=tk }):=I.kept kp;have μ:∀(n:Nat) (l:Ag),l.length=n->∀(m:Ac),m.length=n->(∀(i:Nat) v c,l[i]?=Yw->m[i]?=Y1h->∃b,v=Y0e/\H b=YcO)->∃B:Al,eJ B l/\Y1n (m.map YbA) B:=by
  intro n
  induction n with
  | zero =>
   intro l ζ m N _;cases l with
   | nil=>cases m with
    | nil=>exact⟨[],.nil,bD.nil⟩
    | cons _ _=>simp at N
   | cons _ _=>simp at ζ
  | succ n ih =>
   intro l ζ m N O;cases l with
   | nil=>simp at ζ
   | cons v l=>cases m with
    | nil=>simp at N
    | cons c m =>
     obtain⟨b,rfl,hb⟩:=O 0 v c rfl rfl;obtain⟨B,ε,P⟩:=ih l (by simpa using ζ) m (by simpa using N) λi v p J ν=>O (i+1) v p (by simpa using J) (by simpa using ν);have rb:∀c:Af,Y1n (c.map PyData.int) Yc0:=λc=>by
      induction c with
      | nil=>exact bD.nil
      | cons x c ih=>exact bD.cons (Y8L) ih
     exact⟨Y0e::B,.cons rfl ε,bD.cons (dA.tup hb (rb c)) P⟩
 have C:β.toList.length=g.length:=by rw[Array.length_toList,la,ω,lk]
 obtain⟨B,ε,P⟩:=μ g.length β.toList C g rfl λi v c κ α=>by
  obtain⟨z,e⟩:=G i v (by rw[<-Array.getElem?_toList];exact κ);have hp:∃p,L[i]?=some p/\p.1=kyI c:=by
   have:(L.map (·.1))[i]?=some (kyI c):=by rw[O,aE,α];rfl
   rw[aE]at this;obtain⟨p,J,ν⟩:=eM.mp this;exact⟨p,J,ν⟩
  obtain⟨p,ρ,ξ⟩:=hp;obtain⟨b,k1,k2⟩:=θ i z p ρ;rw[ξ,kyV]at k2;exact⟨b,by rw[e,k1],k2⟩
 have γ:g.Nodup:=by
  rw[O]at W;exact List.Pairwise.of_map _ (λa b h e=>h (by rw[e])) W
 have R:B.length=g.length:=by rw[P.len,aA]
 refine⟨J,tk,g,rfl,kp,PN I1 P ι ε,Oo,λw h' D c hg ho keep hD U=>?_⟩;have y:w.toList.Perm (List.range g.length):=by
  have:=(Array.perm_iff_toList_perm.mp hg);rw[<-C];simpa using this
 have Z:∀i∈w.toList,i<B.length:=λi z=>by
  have:=y.mem_iff.mp z;rw[R];simpa using this
 have ψ:(YdV (YaZ i)).length=g.length:=by rw[aA,y.length_eq,aQ]
 have hn:=I1.hok.fresh hD;have sm:aT H (Y2s H D (YdV (YaZ i))):=aT.upd hn;refine Y0H (.ref D) (Y2s H D (YdV (YaZ i))) (I1.laid (t':=tk) keep hD ⟨by rw[ψ,sizeLine_eq];exact Oo,_,c,PL ε _ Z,U⟩) ?_;have ha:=ho (C ▸ aE8 γ);have δ:=hg.size;have υ:(w.toList.map λi=>g.getD i []).Perm g:=by
  have J:=y.map λi=>g.getD i [];have e:(List.range g.length).map (λi=>g.getD i [])=g:=by
   apply List.ext_getElem?;intro i;rw[aE];by_cases z:i<g.length
   ·rw[aZ z,aB z,Option.map_some,aM,aB z];rfl
   ·rw[bI (by simpa using z),bI Oo];rfl
  rwa [e]at J
 refine q D _ (YdV (g.getD i [])) _ υ ?_ hn bH ?_ sm
 ·rw[List.pairwise_map,List.pairwise_iff_getElem];intro i j z φ ab;have η:i<w.size:=by simpa using z
  have T:j<w.size:=by simpa using φ
  have κ:w.toList[i]=w.getD i 0:=by rw[Array.getElem_toList];exact(by simp[Array.getD,η]:w.getD i 0=w[i]).symm
  have α:w.toList[j]=w.getD j 0:=by rw[Array.getElem_toList];exact(by simp[Array.getD,T]:w.getD j 0=w[j]).symm
  rw[κ,α];exact ha i j ab (by rw[<-δ];exact T)
 ·have rep:∀M:Ae,(∀i∈M,i<g.length)->Y1n ((M.map λi=>g.getD i []).map YbA) (M.map λi=>YaZ i):=λM=>by
   induction M with
   | nil=>exact λ_=>bD.nil
   | cons i M ih =>
    intro h;have z:=h i (aY ..);have hd:(g.map YbA)[i]?=some (PyData.tuple ((g.getD i []).map .int)):=by
     rw[aE,aM,aB z];rfl
    obtain⟨x,hx,ο⟩:=P.get' hd;have α:YaZ i=x:=by rw[aM,hx];rfl
    refine bD.cons ?_ (ih λj φ=>h j (bG _ φ));show Y0M _ (YaZ i);rw[α];exact ο
  exact(rep w.toList λi z=>by rw[<-R];exact Z i z).same sm
end L2
namespace L2
open PySem PySem.Spec PyProof.Rows
section
variable{X:Cx}
end
section
variable{X:Cx}
end
end L2
namespace L2
open PySem PySem.Spec PySem.W PyProof.Rows HT
@[irreducible] def QI(K:Aa):Y1x:=λxs H Q=>∃(p:Addr) (ns:Af),xs=Y5d/\Y6m K H p/\0<ns.length/\∀M,M∈ns->(∀a,a∈ns->M<=a)->Y1T M
def rmnl{K:Aa}{H:Hp}{Q:VK}{p:Addr}{ns:Af}(h:Y6m K H p)(hn:0<ns.length)(q:∀M,M∈ns->(∀a,a∈ns->M<=a)->Y1T M):QI K Y5d H Q:=by
 unfold QI;exact Y8i p ns h hn q
def RY{X:Cx}(K:Aa)(hc:Y1t)(hK:X.K=K:=by rfl):Y4M X "min" (QI K):=by
 subst hK;unfold QI;intro i s σ H P N Q I r h;obtain⟨p,z,rfl,D,m,q⟩:=h;obtain⟨u,rfl,G⟩:=nF r;cases G;obtain⟨A,L,w,O⟩:=I.list D;have n:=vQ L;obtain⟨d,e⟩:=n.allInts.items;have c:z=d.toList.map (·.1):=by rw[<-n.numsOf,<-nums_intItems,<-e]
 have g:0<d.size:=by rw[c,aA,Array.length_toList]at m;exact m
 rw[e]at w;refine min_intList (Y8x) w.isList g λv S R y J=>?_;obtain⟨t,rfl⟩:=intItems_at y;obtain⟨M,C⟩:=argBest_lt (numAt d) (d.size-1);refine⟨.int _,H,I.kept J,Y5l t,q _ ?_ λa l=>?_⟩
 ·rw[c,numAt_eq];exact getD_mem (by rw[aA,Array.length_toList];exact Oo)
 ·rw[c]at l;obtain⟨j,B,rfl⟩:=mem_getD l;rw[aA,Array.length_toList]at B;rw[<-numAt_eq];exact C j Oo
end L2
namespace L2
open PySem PySem.Spec PyProof.Rows
@[irreducible] def rLr(vs:Al)(H:Hp)(Q:VK):Prop:=∃n:Nat,vs=[.int (n:Int)]/\Y7Z n/\∀l,H l=none->Y1d l (Y2s H l ((List.range n).map λ(i:Nat)=>V.int (i:Int)))
def rlr{n:Nat}{H:Hp}{Q:VK}(hn:Y7Z n)(q:∀l H',H l=none->H' l=Yc ((List.range n).map λ(i:Nat)=>V.int (i:Int))->Y0->Y0r l):rLr [.int (n:Int)] H Q:=by
 unfold rLr;exact Y2h n hn (λl a=>q l _ a bH (aT.upd a))
def tLr(ta:TA):TE:=λσ H Q=>ta σ H (λvs H1=>rLr vs H1 Q)
def OJ:YbS "list"=Yc6 "list":=Kk
def LT:YbS "range"=Yc6 "range":=Kk
def MJ{n:Nat}{acc:Ai}(h:ItemsOf (λi v=>∃t,v=Y4r (0+(i:Nat)*1)) acc n):eJ ((List.range n).map λ(i:Nat)=>V.int (i:Int)) acc.toList:=by
 obtain⟨w,u⟩:=h;have p:∀(m:Nat) (l:Ag) (k:Nat),l.length=m->(∀i,(d:Ya2 i)->∃t,l[i]=.int ((k+i:Nat):Int) t)->eJ ((List.range m).map λ(i:Nat)=>V.int ((k+i:Nat):Int)) l:=by
  intro m
  induction m with
  | zero=>intro l k g _;cases l with
   | nil=>exact .nil
   | cons=>cases g
  | succ m ih =>
   intro l k g s;cases l with
   | nil=>cases g
   | cons a l =>
    rw[List.range_succ_eq_map,bA,List.map_map];obtain⟨t,c⟩:=s 0 (by simp);refine .cons ⟨t,c⟩ ?_;have:=ih l (k+1) (by simpa using g) λi d=>by
     obtain⟨t,c⟩:=s (i+1) (by simpa using d);refine Y0o t;have e:k+(i+1)=k+1+i:=Oo;rw[e]at c;simpa using c
    have e:(λ(i:Nat)=>V.int ((k+i:Nat):Int)) ∘ Nat.succ=λ(i:Nat)=>V.int ((k+1+i:Nat):Int):=by
     funext i
     show V.int ((k+(i+1):Nat):Int)=_;rw[show k+(i+1)=k+1+i by exact Oo]
    rw[e];exact this
 have r:=p n acc.toList 0 (by simpa using w) λi d=>by
  have j:i<acc.size:=by simpa using d
  obtain⟨t,c⟩:=u i acc[i] (by simp[j]);exact⟨t,by rw[Array.getElem_toList,c,Nat.zero_add,Int.zero_add,Int.mul_one]⟩
 simpa using r
section
variable{X:Cx}{a:Expr}{ta:TA}{p1 np p2 pos:Pos}
def aA9(hc:Y1t)(hg1:Gl X "list")(hm1:X.mg "list" = none)(hg:Gl X "range")(hm:X.mg "range" = none)(ha:IZ X [a] ta)(hs:Y2C a=[(false,Y0d a)]:=by first | exact oB | exact mY | exact gZ | rfl) :
  Y7U "list" p1 [.Call (.Name "range" np) [a] [] p2] [] (tLr ta):=⟨by
 intro c s σ H Q I h;have d:Y2C (.Call (.Name "range" np) [a] [] p2)=[(false,Y0d (.Call (.Name "range" np) [a] [] p2))]:=mY;refine Y9Y I hg1 hm1 OJ (PyProof.Rows.callWith_type1 ?_ (by rw[d];rfl) rfl);rw[d];refine Calls.spliced_cons (Y9Y I hg hm LT (Y9c (ha.p p2 c s σ H _ I h) (λL g ⟨J,H1,I1,D,l⟩=>?_) (by rw[hs];rfl) rfl));unfold rLr at l;obtain⟨n,rfl,B,q⟩:=l;obtain⟨u,rfl,ru⟩:=nF D;obtain⟨t,rfl⟩:=ru;refine call_range_1 ?_;have I2:Y29 c H1 ({ g with heap:=g.heap.push { cls:=.type "range",data:=.fields #[.int 0 g.toks,.int (n:Int) t,.int 1 (g.toks+1)] },toks:=g.toks+1+1 }):=I1.kept (Y64 _ e);refine wpAny_pure (call_list_range (n:=n) (I2.ok.hd hc) (IsRange.new ..) (small_one Dd Dd Oo Oo) (by rw[rangeSize_one];split <;> exact Oo) Oo λC z j m A e G=>?_);have y:=MJ G;have r:Y0q (((List.range n).map λ(i:Nat)=>V.int (i:Int)).length):=by rw[aA,aQ];exact Y3B B
 exact Y0H (.ref _) _ (I2.laid (t':=z) A (Yl) (show gO X.prog X.w _ C _ (.lst _)from⟨r,j.toList,m,y,e⟩)) (q _ (I2.hok.fresh (Yl)))⟩
end
structure FnO(P:Program)(w:World)(K:Aa)(mg:Y0G)(base:Heap)(k:Nat)(C:Addr)(ps:Ah)(sp:Sp):Prop where
 ex:∃(f:Addr) (fd:FuncData),dW P w K mg base dD k f fd ps sp/\Mk K C f/\tQ K fd ps []
structure Own(K:Aa)(C:Addr)(fs:Ah):Prop where
 cls:Cls K C
 no:∀f∈fs,nX K C f
@[irreducible] def aBz(K:Aa)(f:Str)(x:V)(H:Hp)(Q:VK):Prop:=∃a C dx fs v,x=Yd/\H a=Y7i/\Cls K C/\nX K C f/\Ycs=Yw/\Q v H
def WT(K:Aa)(ta:TE)(f:Str):TE:=YbC σ H (aBz K f x H1 Q)
section
variable{X:Cx}{k:Nat}{C:Addr}{ps:Ah}{sp:Sp}{x f:Str}{p pos pos':Pos}{e o value:Expr}{es:Y0h}{t:TA}{ta tv:TE}
def JC(F:FnO X.prog X.w X.K X.mg X.base k C ps sp)(hm:Y6w=Y3 C)(hr:Y57 (k+1))(ha:IZ X (e::es) t)(hg:Y3h:=by rfl)
  (hdb:Y1L ("__debug__" : Str):=by decide) (he:Y40=(false,Y1l)::Y39:=by first | exact oB | exact mY | exact lS | exact gZ | exact BX)
  (hpl:Yy ((backTo pos (starEach es X.env)).any (·.1)):=by repeat (first | exact pV | refine nB (by first | exact oB | exact mY | exact lS | exact gZ | exact BX) ?_)) :
  Y7U x p (e::es) [] (aC2 C sp [] E0 t):=⟨by
 obtain⟨f,g,c,a,d⟩:=F.ex;exact aBR a c hr hg hm d .nil YR ha.p hdb he hpl⟩
def dN(K:Aa)(he:Y5N e)(hK:X.K=K:=by rfl)(hb:attributeBase e f X.env Y1l=Y1l:=by rfl):Yh (.Attribute e f pos) (WT K ta f):=⟨by
 subst hK;intro a s σ H Q I h;refine aE6 he.p hb a s σ H Q I ?_;unfold WT aBz at h;exact h⟩
def mW(ha:Y5N o)(hv:Yh value tv)(hs:Y9N value (Yde f pos')=Y4Q:=by rfl):IY X (Y65 [Yde f pos'] value) (aGt X.K ta tv f):=⟨aEU ha.p hv.p hs⟩
end
section
variable{K:Aa}{H:Hp}{a C dx:Addr}{fs:Y4v}{v:V}{Q:VK}{f:Str}{ns:Ah}
def jR(O:Own K C ns)(hf:f∈ns)(e:H a=Y7i)(l:Ycs=Yw)(q:Q v H):aBz K f (Yd) H Q:=by
 unfold aBz;exact⟨a,C,dx,fs,v,rfl,e,O.cls,O.no f hf,l,q⟩
end
end L2
namespace Mf
def lw(n d:Int):Int × Int:=(n/(Int.gcd n d:Int),d/(Int.gcd n d:Int))
structure Low(n d:Int):Prop where
 pos:0<d
 low:Y0W n d
def kH{n d:Int}(h:0<d):0<(Int.gcd n d:Int):=by
 have:=Int.gcd_pos_of_ne_zero_right n (Int.ne_of_gt h);exact Oo
def jZ{n d:Int}(h:0<d):Low (lw n d).1 (lw n d).2:=by
 have g:=YcP h;refine Y0o ?_
 ·exact Int.ediv_pos_of_pos_of_dvd h (Int.le_of_lt g) (Yc3 n)
 ·exact Int.gcd_ediv_gcd_ediv_gcd Oo
def aDe{n d:Int}:(lw n d).1*(Int.gcd n d:Int)=n/\(lw n d).2*(Int.gcd n d:Int)=d :=
 ⟨Int.ediv_mul_cancel (YfH n),Int.ediv_mul_cancel (Yc3 n)⟩
def tE{n d:Int}:(lw n d).1*d=n*(lw n d).2:=by
 obtain⟨e,c⟩:=aDe (n:=n) (d:=d);generalize (lw n d).1=a at *;generalize (lw n d).2=b at *;generalize (Int.gcd n d:Int)=g at *;rw[<-e,<-c];rw[Int.mul_assoc,Int.mul_comm g b]
def RJ{b a d:Int}(h:b ∣ a*d)(g:Y0W b a):b ∣ d:=by
 rw[<-Int.natAbs_dvd_natAbs,dQ]at h;rw[<-Int.natAbs_dvd_natAbs];rw[Int.gcd_eq_natAbs_gcd_natAbs]at g;exact Nat.Coprime.dvd_of_dvd_mul_left g h
def KG{a b c d:Int}(h1:Low a b)(h2:Low c d)(e:a*d=c*b):a=c/\b=d:=by
 have h:b ∣ d:=by
  have:b ∣ a*d:=by rw[e];exact Int.dvd_mul_left c b
  exact RJ this (by rw[Int.gcd_comm];exact h1.low)
 have g:d ∣ b:=by
  have:d ∣ c*b:=by rw[<-e];exact Int.dvd_mul_left a d
  exact RJ this (by rw[Int.gcd_comm];exact h2.low)
 have i:=h1.pos;have hd:=h2.pos;have j:b=d:=Int.dvd_antisymm (Int.le_of_lt i) (Int.le_of_lt hd) h g;subst j;exact Y5l (Int.eq_of_mul_eq_mul_right Oo e)
def HN{a b n d:Int}(h:Low a b)(hd:0<d)(e:a*d=n*b):lw n d=(a,b):=by
 have c:=YfZ n;have q:=KG (jZ (n:=n) hd) h (by
  have g:d≠0:=Oo;apply Int.eq_of_mul_eq_mul_right g
  calc (lw n d).1*b*d=((lw n d).1*d)*b:=by rw[Int.mul_assoc,Int.mul_comm b d,<-Int.mul_assoc]
   _=(n*(lw n d).2)*b:=by rw[c]
   _=(n*b)*(lw n d).2:=by rw[Int.mul_assoc,Int.mul_comm (lw n d).2 b,<-Int.mul_assoc]
   _=(a*d)*(lw n d).2:=by rw[e]
   _=a*(lw n d).2*d:=by rw[Int.mul_assoc,Int.mul_comm d,<-Int.mul_assoc])
 exact Prod.ext q.1 q.2
def QO{a b:Int}(h:Low a b):lw a b=(a,b):=HN h h.pos rfl
def rX{u a b:Int}(h1:Y0W u a)(h2:Y0W u b):Y0W u (a*b):=by
 rw[Int.gcd_eq_natAbs_gcd_natAbs]at *;rw[dQ];exact Nat.Coprime.mul_right h1 h2
def oX{a b c:Int}(h:Y0W a b)(d:c ∣ b):Y0W a c:=by
 have:=Int.gcd_dvd_gcd_of_dvd_right a d;rw[h]at this;exact Nat.eq_one_of_dvd_one this
def kX{a b c:Int}(h:Y0W a b)(d:c ∣ a):Y0W c b:=by
 rw[Int.gcd_comm]at *;exact oX h d
def aBO{a b c d:Int}(h1:Low a b)(h2:Low c d) :
  let g:Int:=Y9S b
  let u:=a*(d/g)+c*(b/g)
  let l:Int:=Int.gcd u g
  lw (a*d+c*b) (b*d)=(u/l,(b/g)*(d/l)):=by
 intro g u l;have J:0<g:=kH h2.pos;have W:0<l:=kH J;obtain⟨r,s⟩:=YfH b;obtain⟨n,p⟩:=Yc3 b;have s:b=g*r:=s;have p:d=g*n:=p;have N:b/g=r:=by rw[s];exact Y5e
 have S:d/g=n:=by rw[p];exact Y5e
 have M:u=a*n + c*r:=by show a*(d/g)+c*(b/g)=_;rw[N,S]
 have z:Y0W r n:=by
  have:=Int.gcd_ediv_gcd_ediv_gcd (i:=b) (j:=d) (by have:0<(Int.gcd b d:Int):=J;exact Oo);have h:Y0W (b/g) (d/g):=this
  rwa [N,S]at h
 have P:Y0W a r:=oX h1.low ⟨g,by rw[s,Int.mul_comm]⟩;have O:Y0W c n:=oX h2.low ⟨g,by rw[p,Int.mul_comm]⟩;have T:Y0W u r:=by
  rw[M,Int.add_comm,Int.gcd_mul_right_add_left,Int.gcd_mul_right_left_of_gcd_eq_one P,Int.gcd_comm];exact z
 have U:Y0W u n:=by
  rw[M,Int.gcd_mul_right_add_left,Int.gcd_mul_right_left_of_gcd_eq_one O];exact z
 obtain⟨w,m⟩:=Int.gcd_dvd_left u g;obtain⟨A,e⟩:=Int.gcd_dvd_right u g;have m:u=l*w:=m;have e:g=l*A:=e;have R:u/l=w:=by rw[m];exact Y5e
 have L:d/l=A * n:=by rw[p,e,Int.mul_assoc];exact Y5e
 have D:Y0W w A:=by
  have:=Int.gcd_ediv_gcd_ediv_gcd (i:=u) (j:=g) (by have:0<(Int.gcd u g:Int):=W;exact Oo);have h:Y0W (u/l) (g/l):=this;rw[R]at h
  rwa [show g/l=A from by rw[e];exact Y5e]at h
 rw[R,N,L];have y:w ∣ u:=⟨l,by rw[m,Int.mul_comm]⟩;have B:0<r:=by
  have:=h1.pos;rw[s]at this;exact YbQ Oo
 have I:0<n:=by
  have:=h2.pos;rw[p]at this;exact YbQ Oo
 have C:0<A:=by
  have:=J;rw[e]at this;exact YbQ Oo
 refine HN (Y0o (Int.mul_pos B (Int.mul_pos C I))) (Int.mul_pos h1.pos h2.pos) ?_
 ·exact rX (kX T y) (rX D (kX U y))
 ·have X:a*d+c*b=g*(l*w):=by
   rw[<-m,M,s,p];rw[Int.mul_add,Int.mul_left_comm a,Int.mul_left_comm c]
  rw[X,s,p];generalize hG:g=G at *;rw[e];simp only[Int.mul_assoc,Int.mul_left_comm,Int.mul_comm]
def WQ{a b c d:Int}(h1:Low a b)(h2:Low c d) :
  let f:Int:=Y9S a
  let s:Int:=Int.gcd c b
  lw (a*c) (b*d)=((a/f)*(c/s),(b/s)*(d/f)):=by
 intro f s;have O:0<f:=kH h2.pos;have N:0<s:=kH h1.pos;obtain⟨u,p⟩:=YfH a;obtain⟨e,m⟩:=Yc3 a;obtain⟨n,r⟩:=Int.gcd_dvd_left c b;obtain⟨g,l⟩:=Int.gcd_dvd_right c b;have p:a=f*u:=p;have m:d=f*e:=m;have r:c=s*n:=r;have l:b=s*g:=l;have G:a/f=u:=by rw[p];exact Y5e
 have J:d/f=e:=by rw[m];exact Y5e
 have M:c/s=n:=by rw[r];exact Y5e
 have L:b/s=g:=by rw[l];exact Y5e
 have C:Y0W u e:=by
  have:=Int.gcd_ediv_gcd_ediv_gcd (i:=a) (j:=d) (by have:0<(Int.gcd a d:Int):=O;exact Oo);have h:Y0W (a/f) (d/f):=this
  rwa [G,J]at h
 have z:Y0W n g:=by
  have:=Int.gcd_ediv_gcd_ediv_gcd (i:=c) (j:=b) (by have:0<(Int.gcd c b:Int):=N;exact Oo);have h:Y0W (c/s) (b/s):=this
  rwa [M,L]at h
 have B:Y0W u g:=kX (oX h1.low ⟨s,by rw[l,Int.mul_comm]⟩) ⟨f,by rw[p,Int.mul_comm]⟩;have A:Y0W n e:=kX (oX h2.low ⟨f,by rw[m,Int.mul_comm]⟩) ⟨s,by rw[r,Int.mul_comm]⟩;have w:0<g:=by
  have:=h1.pos;rw[l]at this;exact YbQ Oo
 have y:0<e:=by
  have:=h2.pos;rw[m]at this;exact YbQ Oo
 rw[G,L,M,J];refine HN (Y0o (Int.mul_pos w y)) (Int.mul_pos h1.pos h2.pos) ?_
 ·have I:Y0W u (g * e):=rX B C;have D:Y0W n (g * e):=rX z A;rw[Int.gcd_comm]at I D ⊢;exact rX I D
 ·rw[p,l,r,m];simp only[Int.mul_assoc,Int.mul_left_comm,Int.mul_comm]
end Mf
namespace Mf
abbrev Fr:=Int × Int
abbrev _root_.Ak:=List Fr
abbrev _root_.Aj:=List Ak
def qR(x y:Fr):Fr:=lw (x.1*y.2+y.1*x.2) (x.2*y.2)
def rA(fs:Ak):Fr:=fs.foldl qR (0,1)
def eV(f:Fr):Prop:=Low f.1 f.2
def pJ{α:Type}{P:Y1c Yu}(h0:P [])(hs:∀l a,P l->P (l++[a]))(l:Yu):P l:=by
 have:∀r:List α,P r.reverse:=by
  intro r
  induction r with
  | nil=>exact h0
  | cons a r ih=>rw[List.reverse_cons];exact hs _ _ ih
 have:=this l.reverse
 rwa [List.reverse_reverse]at this
def tV(l:Ak)(a:Fr):rA (l++[a])=qR (rA l) a:=by unfold rA;rw[List.foldl_append];rfl
def BP(l:Ak):(∀f∈l,Y0m)->eV (rA l):=by
 refine pJ (P:=λl=>(∀f∈l,Y0m)->eV (rA l)) (λ_=>Ya3 Dd) (λl a c h=>?_) l;rw[tV];have e:=c λf g=>h f (cL _ g);have d:=h a (cK _ aY);exact jZ (Int.mul_pos e.pos d.pos)
def QP{n d:Int}(h:0<d):(lw n d).2<=d/\(lw n d).1.natAbs<=n.natAbs:=by
 obtain⟨e,c⟩:=aDe (n:=n) (d:=d);have g:=YcP h;have p:=(jZ (n:=n) h).pos;generalize (lw n d).1=a at *;generalize (lw n d).2=b at *;generalize (Int.gcd n d:Int)=G at *;refine Y0o ?_
 ·rw[<-c];have:=Int.mul_le_mul_of_nonneg_left (show(1:Int)<=G by exact Oo) (Int.le_of_lt p);simpa using this
 ·rw[<-e,dQ];exact Ydm Oo
def QQ(x y:Fr):Prop:=x.1*y.2<y.1*x.2
def KD{x y z:Fr}(hx:0<x.2)(hy:0<y.2)(hz:0<z.2)(h1:QQ x y)(h2:¬QQ z y):QQ x z:=by
 unfold QQ at *;have h2:y.1*z.2<=z.1*y.2:=Oo;have a:(x.1*y.2)*z.2<(y.1*x.2)*z.2:=Int.mul_lt_mul_of_pos_right h1 hz;have b:(y.1*z.2)*x.2<=(z.1*y.2)*x.2:=Int.mul_le_mul_of_nonneg_right h2 (Int.le_of_lt hx);have c:(x.1*z.2)*y.2<(z.1*x.2)*y.2:=by
  calc (x.1*z.2)*y.2=(x.1*y.2)*z.2:=by simp only[Int.mul_assoc,Int.mul_left_comm,Int.mul_comm]
   _<(y.1*x.2)*z.2:=a
   _=(y.1*z.2)*x.2:=by simp only[Int.mul_assoc,Int.mul_left_comm,Int.mul_comm]
   _<=(z.1*y.2)*x.2:=b
   _=(z.1*x.2)*y.2:=by simp only[Int.mul_assoc,Int.mul_left_comm,Int.mul_comm]
 exact Int.lt_of_mul_lt_mul_right c (Int.le_of_lt hy)
def TV{x y:Fr}(h:QQ x y):¬QQ y x:=by unfold QQ at *;exact Oo
def CL{x:Fr}:¬QQ x x:=by unfold QQ;exact Oo
structure jD(fs:Ak)(n p:Nat)(y:Fr):Prop where
 at_:fs[p]?=Y0b
 lt:p<n
 no:∀(j:Nat) (x:Fr),j<n->fs[j]?=Y7->¬QQ x y
 first:∀(j:Nat) (x:Fr),j<p->fs[j]?=Y7->QQ y x
def jD.one{fs:Ak}{y:Fr}(h:fs[0]?=Y0b):jD fs 1 0 y :=
 ⟨h,Oo,λj x a e=>by have:j=0:=Oo;subst this;rw[h]at e;cases e;exact CL,λj x a _=>Oo⟩
def jD.next{fs:Ak}{n p:Nat}{y z:Fr}(L:jD fs n p y)(hp:∀f∈fs,Y0m)(hz:fs[n]?=Y83)(h:QQ z y):jD fs (n+1) n z:=by
 have pos:∀{j:Nat} {x:Fr},fs[j]?=Y7->0<x.2:=λe=>(hp _ (aF e)).pos;have all:∀(j:Nat) (x:Fr),j<n->fs[j]?=Y7->QQ z x:=λj x a e=>KD (pos hz) (pos L.at_) (pos e) h (L.no j x a e);refine⟨hz,Oo,λj x a e=>?_,all⟩;by_cases q:j=n
 ·subst q;rw[hz]at e;cases e;exact CL
 ·exact TV (all j x Oo e)
def jD.stay{fs:Ak}{n p:Nat}{y z:Fr}(L:jD fs n p y)(hz:fs[n]?=Y83)(h:¬QQ z y):jD fs (n+1) p y :=
 ⟨L.at_,by have:=L.lt;exact Oo,λj x a e=>by
  by_cases q:j=n
  ·subst q;rw[hz]at e;cases e;exact h
  ·exact L.no j x Oo e,L.first⟩
end Mf
namespace Mf
def ZC{n d n' d':Int}(hd:0<d)(hd':0<d')(e:n*d'=n' * d):lw n d=lw n' d':=by
 have h:=jZ (n:=n') hd';have c:=tE (n:=n') (d:=d');generalize lw n' d'=L at c h;refine HN (a:=L.1) (b:=L.2) h hd (Int.eq_of_mul_eq_mul_right (a:=d') Oo ?_)
 calc L.1*d*d'=(L.1*d')*d:=by ac_rfl
  _=n' * L.2*d:=by rw[c]
  _=(n' * d)*L.2:=by ac_rfl
  _=n*d' * L.2:=by rw[e]
  _=n*L.2*d':=by ac_rfl
def nU(f g:Fr):Fr:=lw (f.1*g.1) (f.2*g.2)
def iV{f g:Fr}(h:Y0m)(h':eV g):eV (nU f g):=jZ (YfR h'.pos)
def aFg{a b c d:Int}(hb:0<b)(hd:0<d):nU (lw a b) (lw c d)=lw (a*c) (b*d):=by
 have h:=(jZ (n:=a) hb).pos;have e:=(jZ (n:=c) hd).pos;refine ZC (Int.mul_pos h e) (Int.mul_pos hb hd) ?_;have i:=tE (n:=a) (d:=b);have g:=YfZ c;generalize lw a b=L at *;generalize lw c d=M at *
 calc L.1*M.1*(b*d)=(L.1*b)*(M.1*d):=by ac_rfl
  _=(a*L.2)*(c*M.2):=by rw[i,g]
  _=a*c*(L.2*M.2):=by ac_rfl
def zY(f:Fr)(c:Nat):Fr:=(f.1^c,f.2^c)
theorem oR{f:Fr}(h:Y0m):∀c:Nat,eV (zY f c)
 | 0=>⟨by show 0<f.2^0;rw[Int.pow_zero];decide,by show Int.gcd (f.1^0) (f.2^0)=1;rw[Int.pow_zero,Int.pow_zero];decide⟩
 | c+1=>by
  have ih:=oR h c;have k:∀n:Nat,Int.gcd f.1 (f.2^n)=1:=λn=>by
   induction n with
   | zero=>rw[Int.pow_zero];exact Int.gcd_one_right _
   | succ n ih=>rw[Int.pow_succ];exact rX ih h.low
  refine⟨?_,?_⟩
  ·show 0<f.2^(c+1);rw[Int.pow_succ];exact Int.mul_pos ih.pos h.pos
  ·show Int.gcd (f.1^(c+1)) (f.2^(c+1))=1;have a:∀n:Nat,Int.gcd (f.2^(c+1)) (f.1^n)=1:=λn=>by
    induction n with
    | zero=>rw[Int.pow_zero];exact Int.gcd_one_right _
    | succ n ih=>rw[show f.1^(n+1)=f.1^n*f.1 from Int.pow_succ ..];exact rX ih (by rw[Int.gcd_comm];exact k (c+1))
   rw[Int.gcd_comm];exact a (c+1)
def vZ(zs:Y3T):Fr:=zs.foldl (λp q=>(p.1*q.1.1^q.2,p.2*q.1.2^q.2)) (1,1)
def nR(zs:Y3T):Fr:=zs.foldl (λp q=>nU p (zY q.1 q.2)) (1,1)
def tS(l:Y3T)(a:Fr × Nat):vZ (l++[a])=((vZ l).1*a.1.1^a.2,(vZ l).2*a.1.2^a.2):=by unfold vZ;rw[List.foldl_append];rfl
def yA(l:Y3T)(a:Fr × Nat):nR (l++[a])=nU (nR l) (zY a.1 a.2):=by unfold nR;rw[List.foldl_append];rfl
def BM(l:Y3T):(∀z∈l,eV z.1)->0<(vZ l).2:=by
 induction l using pJ with
 | h0=>intro _;decide
 | hs l a ih =>
  intro h;rw[tS];exact Int.mul_pos (ih λf c=>h f (cL _ c)) (oR (h a (by simp)) a.2).pos
def GM(l:Y3T):(∀z∈l,eV z.1)->nR l=lw (vZ l).1 (vZ l).2:=by
 induction l using pJ with
 | h0=>intro _;rfl
 | hs l a ih =>
  intro h;have d:∀f∈l,eV f.1:=λf g=>h f (cL _ g);have c:=oR (h a (by simp)) a.2;rw[yA,tS,ih d];have e:zY a.1 a.2=lw (a.1.1^a.2) (a.1.2^a.2):=(QO c).symm;rw[e,aFg (BM l d) (show 0<a.1.2^a.2 from c.pos)]
def sI(l:Y3T)(h:∀z∈l,eV z.1):eV (nR l):=by rw[GM l h];exact jZ (BM l h)
def yJ{x:Int}{B:Nat}(h:x.natAbs<=2^B)(c:Nat):(x^c).natAbs<=2^(B*c):=by
 rw[Int.natAbs_pow,Nat.pow_mul];exact Nat.pow_le_pow_left h c
def aA7{B:Nat}(l:Y3T):(∀z∈l,z.1.1.natAbs<=2^B/\z.1.2.natAbs<=2^B)->(vZ l).1.natAbs<=2^(B*(l.map (·.2)).sum)/\(vZ l).2.natAbs<=2^(B*(l.map (·.2)).sum):=by
 induction l using pJ with
 | h0=>intro _;exact⟨Nat.one_le_two_pow,Nat.one_le_two_pow⟩
 | hs l a ih =>
  intro h;obtain⟨e,g⟩:=ih λf i=>h f (cL _ i);obtain⟨c,d⟩:=h a (by simp);rw[tS,bF,List.sum_append,show([a].map (·.2)).sum=a.2 by simp,Nat.mul_add,Nat.pow_add];exact⟨by show((vZ l).1*a.1.1^a.2).natAbs<=_;rw[dQ];exact Nat.mul_le_mul e (yJ c _),by show((vZ l).2*a.1.2^a.2).natAbs<=_;rw[dQ];exact Nat.mul_le_mul g (yJ d _)⟩
def aA8{B:Nat}(l:Y3T)(hl:∀z∈l,eV z.1)(h:∀z∈l,z.1.1.natAbs<=2^B/\z.1.2.natAbs<=2^B):(nR l).1.natAbs<=2^(B*(l.map (·.2)).sum)/\(nR l).2.natAbs<=2^(B*(l.map (·.2)).sum):=by
 obtain⟨d,e⟩:=aA7 l h;rw[GM l hl];have a:=BM l hl;obtain⟨g,c⟩:=QP (n:=(vZ l).1) a;have:=(jZ (n:=(vZ l).1) a).pos;exact Y2Q (aK c d)
def JA(l:Y3T):(∀z∈l,0<=z.1.1)->0<=(vZ l).1:=by
 induction l using pJ with
 | h0=>intro _;decide
 | hs l a ih =>
  intro h;rw[tS];exact Int.mul_nonneg (ih λf c=>h f (cL _ c)) (Int.pow_nonneg (h a (by simp)))
end Mf
namespace Mf
def rv(f:Fr):Rat:=(f.1:Rat)/(f.2:Rat)
def CW{d:Int}(h:0<d):(0:Rat)<(d:Rat):=by exact_mod_cast h
def nM{d:Int}(h:0<d):(d:Rat)≠0:=by have:=CW h;grind
def sV{f:Fr}(h:0<f.2):Y1O*(f.2:Rat)=(f.1:Rat):=by
 have:=nM h;unfold rv;grind
def EX{n d:Int}(h:0<d):rv (lw n d)=(n:Rat)/(d:Rat):=by
 have e:=YfZ n;have p:=(jZ (n:=n) h).pos;have g:=nM h;have c:=nM p;have i:((lw n d).1:Rat)*(d:Rat)=(n:Rat)*((lw n d).2:Rat):=by exact_mod_cast e
 unfold rv;generalize ((lw n d).1:Rat)=a at *;generalize ((lw n d).2:Rat)=b at *;grind
def vM{f g:Fr}(hf:0<f.2)(hg:0<g.2):rv (qR f g)=Y1O+rv g:=by
 unfold qR;rw[EX (Int.mul_pos hf hg)];have c:=nM hf;have a:=nM hg;unfold rv;rw[Rat.intCast_add,Rat.intCast_mul,Rat.intCast_mul,Rat.intCast_mul];grind
def lT{f g:Fr}(hf:0<f.2)(hg:0<g.2):rv (nU f g)=Y1O*rv g:=by
 unfold nU;rw[EX (Int.mul_pos hf hg)];have c:=nM hf;have a:=nM hg;unfold rv;rw[Rat.intCast_mul,Rat.intCast_mul];grind
def NB(f:Fr):rv (-f.1,f.2)=- Y1O:=by
 unfold rv;rw[show(((-f.1,f.2):Fr).1:Rat)=-(f.1:Rat)by rw[<-Rat.intCast_neg]];grind
def iT{f g:Fr}(hf:Y0m)(hg:eV g)(e:Y1O=rv g):f=g:=by
 have c:(f.1:Rat)*(g.2:Rat)=(g.1:Rat)*(f.2:Rat):=by
  have a:=sV hf.pos;have b:=sV hg.pos;rw[<-a,<-b,e];grind
 have q:=KG hf hg (by exact_mod_cast c);exact Prod.ext q.1 q.2
def aGv{f g:Fr}(hf:0<f.2)(hg:0<g.2):f.1*g.2<g.1*f.2↔Y1O<rv g:=by
 have e:=CW hf;have c:=CW hg;have a:=sV hf;have b:=sV hg;have p:(0:Rat)<(f.2:Rat)*(g.2:Rat):=Rat.mul_pos e c;have d:((f.1*g.2:Int):Rat)=Y1O*((f.2:Rat)*(g.2:Rat)):=by rw[Rat.intCast_mul,<-a];grind
 have i:((g.1*f.2:Int):Rat)=rv g*((f.2:Rat)*(g.2:Rat)):=by rw[Rat.intCast_mul,<-b];grind
 rw[<-Rat.intCast_lt_intCast,d,i];constructor
 ·intro h;exact Rat.lt_of_mul_lt_mul_right h (Rat.le_of_lt p)
 ·intro h;exact Rat.mul_lt_mul_of_pos_right h p
def oC:rv (0,1)=0:=by unfold rv;grind
def BY:rv (1,1)=1:=by unfold rv;grind
def rC(l:Y2j):Rat:=l.foldr (· + ·) 0
def BU:rC []=0:=rfl
def pX(x:Rat)(l:Y2j):rC (x::l)=x+rC l:=rfl
theorem sK:∀(a b:Y2j),rC (a++b)=rC a+rC b
 | [],b=>by rw[BU,List.nil_append];grind
 | x::a,b=>by rw[List.cons_append,pX,pX,sK a b];grind
def XO(l:Ak):(∀f∈l,Y0m)->rv (rA l)=rC (l.map rv):=by
 induction l using pJ with
 | h0=>intro _;exact oC
 | hs l a ih =>
  intro h;have c:∀f∈l,Y0m:=λf d=>h f (cL _ d);rw[tV,vM (BP l c).pos (h a (by simp)).pos,ih c,bF,sK,bA,List.map_nil,pX,BU];grind
def Fn(N B:Nat)(f:Fr):Prop:=Y0m/\∃x:Int,Y1O*(N:Rat)=(x:Rat)/\x.natAbs<=B*N
def Fn.low{N B:Nat}{f:Fr}(h:Y42):Y0m:=h.1
def Fn.le{N B C:Nat}{f:Fr}(h:Y42)(hB:B<=C):Y13 N C:=by
 obtain⟨l,x,c,a⟩:=h;exact⟨l,x,c,aK a (Y1z hB)⟩
def xT{f g:Fr}(h:Y0m)(h':eV g):eV (qR f g):=jZ (YfR h'.pos)
def Fn.add{N B C:Nat}{f g:Fr}(h:Y42)(h':Fn N C g):Fn N (B+C) (qR f g):=by
 obtain⟨l,x,c,e⟩:=h;obtain⟨a,y,d,i⟩:=h';refine Y2X (xT l a) (x+y) ?_
 ·rw[vM l.pos a.pos,Rat.intCast_add,<-c,<-d];grind
 ·rw[Nat.add_mul];exact Oo
def Fn.neg{N B:Nat}{f:Fr}(h:Y42):Fn N B (-f.1,f.2):=by
 obtain⟨l,x,c,a⟩:=h;refine Y2X ⟨l.pos,by show Y0W (-f.1) f.2;rw[Int.neg_gcd];exact l.low⟩ (-x) ?_
 ·rw[NB,Rat.intCast_neg,<-c];grind
 ·rw[Int.natAbs_neg];exact a
def Fn.up{N B:Nat}{f:Fr}(h:Y42)(M:Nat):Y13 (N*M) B:=by
 obtain⟨l,x,c,a⟩:=h;refine Y2X l (x*(M:Int)) ?_
 ·rw[Rat.intCast_mul,<-c,Rat.natCast_mul];have:((M:Int):Rat)=(M:Rat):=rfl;rw[this];grind
 ·rw[dQ,<-Nat.mul_assoc];exact Y1z a
def Fn.dvd{N M B:Nat}{f:Fr}(h:Y42)(d:N ∣ M):Y13 M B:=by
 obtain⟨e,rfl⟩:=d;exact h.up e
def rJ(N:Nat):((N:Int):Rat)=(N:Rat):=rfl
def TX:eV (0,1):=Ya3 Dd
def ZE:eV (1,1):=Ya3 Dd
def Fn.zero(N:Nat):Fn N 0 (0,1):=⟨TX,0,by rw[oC];grind,by simp⟩
def Fn.one(N:Nat):Fn N 1 (1,1):=⟨ZE,N,by rw[BY,rJ];grind,by simp⟩
def Fn.eq{N B:Nat}{f:Fr}(h:Y42)(hN:0<N):∃x:Int,f=lw x (N:Int)/\x.natAbs<=B*N:=by
 obtain⟨l,x,d,c⟩:=h;have a:(0:Int)<(N:Int):=Oo;refine⟨x,iT l (jZ a) ?_,c⟩;rw[EX a,<-d,rJ];have:=nM a;rw[rJ]at this;grind
def Fn.of{n d:Int}{B:Nat}(h:0<d)(hB:n.natAbs<=B*d.natAbs):Fn d.natAbs B (lw n d):=by
 refine⟨jZ h,n,?_,hB⟩;have e:(d.natAbs:Int)=d:=Oo;rw[EX h,<-rJ,e];have:=nM h;grind
def Fn.num{N B:Nat}{f:Fr}(h:Y42)(hN:0<N):f.1.natAbs<=B*N/\f.2.natAbs<=N:=by
 obtain⟨x,rfl,a⟩:=h.eq hN;have q:=QP (n:=x) (d:=(N:Int)) Oo;have p:=(jZ (n:=x) (d:=(N:Int)) Oo).pos;exact Oo
def Fn.tot{N B:Nat}:∀(fs:Ak),(∀f∈fs,Y42)->Fn N (fs.length*B) (rA fs):=by
 intro fs
 induction fs using pJ with
 | h0=>intro _;exact(Fn.zero N).le (Y0L)
 | hs l a ih =>
  intro h;rw[tV,aU,List.length_singleton,Nat.add_mul,Nat.one_mul];exact(ih λf c=>h f (cL _ c)).add (h a (Yb0 _ rfl))
end Mf
namespace Mf
def lJ:Y2j->Rat
 | []=>0
 | [x]=>x
 | x::y::l=>if x<=lJ (y::l) then x else lJ (y::l)
theorem rK:∀{l:Y2j}{x:Rat},x∈l->lJ l<=x
 | [],x,h=>by cases h
 | [y],x,h=>by
  rw[bT.mp h];exact Rat.le_refl
 | a::b::l,x,h=>by
  have ih:=λx h=>rK (l:=b::l) (x:=x) h;unfold lJ;rcases bN.mp h with rfl | h
  ·split
   ·exact Rat.le_refl
   ·grind
  ·have:=ih x h;split <;> grind
theorem sZ:∀{l:Y2j},l≠[]->lJ l∈l
 | [],h=>absurd rfl h
 | [y],_=>bT.mpr rfl
 | a::b::l,_=>by
  have ih:=sZ (l:=b::l) (by simp);unfold lJ;split
  ·exact aY ..
  ·exact bG _ ih
def AY{l:Y2j}{m:Rat}(h:m∈l)(k:∀x∈l,m<=x):lJ l=m:=by
 have c:=rK h;have a:=k _ (sZ (l:=l) (λe=>by rw[e]at h;cases h));grind
def bZ(n:Nat)(f:Yx):Rat:=rC ((List.range n).map f)
def gT(f:Yx):bZ 0 f=0:=rfl
def eO(n:Nat)(f:Yx):bZ (n+1) f=bZ n f+f n:=by
 unfold bZ;rw[List.range_succ,bF,sK,bA,List.map_nil,pX,BU];grind
def bP{n:Nat}{f g:Yx}(h:∀i,i<n->f i=g i):bZ n f=bZ n g:=by
 induction n with
 | zero=>rfl
 | succ n ih=>rw[eO,eO,ih λi a=>h i Oo,h n Oo]
def nH(n:Nat)(f g:Yx):Y4m n (f i+g i)=bZ n f+bZ n g:=by
 induction n with
 | zero=>rw[gT,gT,gT];grind
 | succ n ih=>rw[eO,eO,eO,ih];grind
def eT(n:Nat)(a:Rat)(f:Yx):Y4m n (a*f i)=a*bZ n f:=by
 induction n with
 | zero=>rw[gT,gT];grind
 | succ n ih=>rw[eO,eO,ih];grind
def mK{n:Nat}{f g:Yx}(h:∀i,i<n->f i<=g i):bZ n f<=bZ n g:=by
 induction n with
 | zero=>rw[gT,gT];exact Rat.le_refl
 | succ n ih =>
  have c:=ih λi d=>h i Oo;have a:=h n Oo;rw[eO,eO];grind
def iS(n:Nat):bZ n (Y3r)=0:=by
 induction n with
 | zero=>rfl
 | succ n ih=>rw[eO,ih];grind
def tZ{n:Nat}{f:Yx}(h:∀i,i<n->0<=f i):0<=bZ n f:=by
 have:=mK (n:=n) (f:=Y3r) (g:=f) h
 rwa [iS]at this
def wG{n:Nat}(f:Yx){w:Nat}(h:w<n):bZ n f-f w=Y4m n (if i=w then 0 else f i):=by
 induction n with
 | zero=>exact Oo
 | succ n ih =>
  rw[eO,eO];by_cases e:w=n
  ·subst e;rw[Ys,bP (g:=f) λi a=>Y3s];grind
  ·rw[Y31 (e q.symm),<-ih Oo];grind
def bS(c:Ae)(i:Nat):Ae:=c.set i (Y6k i+1)
def mG(W:Nat)(d:Yx):Y2j:=(List.range W).map λw=>bZ W d-d w
def qJ{W:Nat}{d:Yx}{x:Rat}:x∈mG W d ↔ ∃w,w<W/\x=bZ W d-d w:=by
 unfold mG;rw[aN];constructor
 ·rintro⟨w,h,rfl⟩;exact Y3q w (bL.mp h)
 ·rintro⟨w,h,rfl⟩;exact Y3q w (bL.mpr h)
def nC(W F:Nat)(q:Y2M)(mix ps cs:Yx):Y2M
 | 0,c=>lJ (mG W λv=>ps v*q v c)
 | n+1,c=>lJ (mG W (λv=>ps v*q v c)++[cs c.sum*bZ W (λv=>mix v*q v c)+bZ F (λj=>nC W F q mix ps cs n (bS c j))])
section
variable{W F:Nat}{q:Y2M}{mix ps ps' cs:Yx}
def EI(n:Nat)(c:Ae):nC W F q mix ps cs (n+1) c=lJ (mG W (λv=>Y1y*q v c)++[cs c.sum*Y08 (mix v*q v c)+Y8W F (nC W F q mix ps cs n (Y2Y))]):=rfl
def MZ(hW:0<W)(d:Yx):mG W d≠[]:=λe=>by
 have:bZ W d-d 0∈mG W d:=qJ.mpr (Y3q 0 hW);rw[e]at this;cases this
end
end Mf
namespace Mf
theorem GV:∀(l:Ae) (j v x:Nat),l[j]?=Y7->(l.set j v).sum+x=l.sum+v
 | [],j,v,x,h=>by simp at h
 | a::l,0,v,x,h=>by
  have:a=x:=by simpa using h
  subst this;simp only[List.set_cons_zero,List.sum_cons];exact Oo
 | a::l,j+1,v,x,h=>by
  have:=GV l j v x (by simpa using h);simp only[List.set_cons_succ,List.sum_cons];exact Oo
def cta:Y1F (Y1F Ab)
 | 0,_=>[]
 | 1,m=>[[m]]
 | F+2,m=>(List.range (m+1)).flatMap λk=>(cta (F+1) (m-k)).map λc=>k::c
theorem iP:∀{F m:Nat}{c:Ae},c∈cta F m->Y0T/\c.sum=m
 | 0,m,c,h=>by cases h
 | 1,m,c,h=>by
  have:c=[m]:=by simpa[cta]using h
  subst this;simp
 | F+2,m,c,h=>by
  obtain⟨k,a,h⟩:=List.mem_flatMap.mp h;obtain⟨d,hd,rfl⟩:=aN.mp h;have a:=bL.mp a;obtain⟨e,g⟩:=iP hd;refine⟨by simp[e],?_⟩;rw[List.sum_cons];exact Oo
end Mf
namespace Mf
def Qn(N B:Nat)(x:Rat):Prop:=∃z:Int,x*(N:Rat)=(z:Rat)/\z.natAbs<=B*N
def Fn.q{N B:Nat}{f:Fr}(h:Y42):Y2a Y1O:=h.2
theorem Qn.f{N B:Nat}{f:Fr}(l:Y0m)(h:Y2a Y1O):Y42:=⟨l,h⟩
def fZ(x:Rat):Fr:=(x.num,(x.den:Int))
def cE(x:Rat):eV (fZ x):=by
 refine Y0o ?_
 ·show(0:Int)<(x.den:Int);have:=x.den_pos;exact Oo
 ·show Y0W x.num (x.den:Int);rw[Int.gcd_eq_natAbs_gcd_natAbs,Int.natAbs_natCast];exact x.reduced
def dP(x:Rat):rv (fZ x)=x:=by
 unfold rv fZ;show(x.num:Rat)/((x.den:Int):Rat)=x;rw[<-Rat.divInt_eq_div,Rat.num_divInt_den]
def aFx{f:Fr}(h:Y0m):fZ (Y1O)=f:=iT (Y01) h (dP _)
def Qn.fq{N B:Nat}{x:Rat}(h:Y2a x):Fn N B (fZ x):=⟨cE x,by rw[dP];exact h⟩
def Qn.le{N B C:Nat}{x:Rat}(h:Y2a x)(hB:B<=C):Qn N C x:=by
 obtain⟨z,c,a⟩:=h;exact⟨z,c,aK a (Y1z hB)⟩
def Qn.add{N B C:Nat}{x y:Rat}(h:Y2a x)(h':Qn N C y):Qn N (B+C) (x+y):=by
 obtain⟨z,a,d⟩:=h;obtain⟨u,c,e⟩:=h';refine Y05 (z+u) ?_
 ·rw[Rat.intCast_add,<-a,<-c];grind
 ·rw[Nat.add_mul];exact Oo
def Qn.neg{N B:Nat}{x:Rat}(h:Y2a x):Y2a (-x):=by
 obtain⟨z,c,a⟩:=h;refine⟨-z,?_,by rw[Int.natAbs_neg];exact a⟩;rw[Rat.intCast_neg,<-c];grind
def Qn.sub{N B C:Nat}{x y:Rat}(h:Y2a x)(h':Qn N C y):Qn N (B+C) (x-y):=by
 have:=h.add h'.neg
 rwa [<-Rat.sub_eq_add_neg]at this
def Qn.mul{N M B C:Nat}{x y:Rat}(h:Y2a x)(h':Qn M C y):Qn (N*M) (B*C) (x*y):=by
 obtain⟨z,d,a⟩:=h;obtain⟨u,e,c⟩:=h';refine Y05 (z*u) ?_
 ·rw[Rat.intCast_mul,<-d,<-e,Rat.natCast_mul];grind
 ·rw[dQ];have:=Nat.mul_le_mul a c;rw[Nat.mul_mul_mul_comm]at this;exact this
def Qn.dvd{N M B:Nat}{x:Rat}(h:Y2a x)(d:N ∣ M):Qn M B x:=by
 obtain⟨e,rfl⟩:=d;obtain⟨z,c,a⟩:=h;refine Y05 (z*(e:Int)) ?_
 ·rw[Rat.intCast_mul,<-c,Rat.natCast_mul,rJ];grind
 ·rw[dQ,<-Nat.mul_assoc];exact Y1z a
def Qn.zero(N B:Nat):Y2a 0:=⟨0,by grind,by simp⟩
theorem Qn.sumR{N B:Nat}{f:Yx}:∀{n:Nat},(∀i,i<n->Y2a (f i))->Qn N (n*B) (bZ n f)
 | 0,_=>by rw[gT];exact Qn.zero _ _
 | n+1,h=>by
  rw[eO,Nat.add_mul,Nat.one_mul];exact(Qn.sumR λi hi=>h i Oo).add (h n Oo)
def Qn.min{N B:Nat}{l:Y2j}(h:∀x∈l,Y2a x)(ne:l≠[]):Y2a (lJ l):=h _ (sZ ne)
def XR{f:Fr}(h:Y0m)(n:Nat):rv (zY f n)=Y1O^n:=by
 have a:=nM h.pos
 induction n with
 | zero=>unfold zY rv;grind
 | succ n ih =>
  have e:rv (zY f (n+1))=rv (zY f n)*Y1O:=by
   have c:=nM (oR h n).pos;unfold zY rv at *;simp only[Int.pow_succ,Rat.intCast_mul]at *;generalize ((f.1^n:Int):Rat)=u at *;generalize ((f.2^n:Int):Rat)=v at *;grind
  rw[e,ih,Rat.pow_succ]
theorem Qn.pow{N:Nat}{x:Rat}(h:Qn N 1 x):∀n:Nat,Qn (N^n) 1 (x^n)
 | 0=>⟨1,by rw[Rat.pow_zero,Nat.pow_zero];grind,by simp⟩
 | n+1=>by
  rw[Rat.pow_succ,Nat.pow_succ];exact(Qn.pow h n).mul h
def aDy{N:Nat}(l:Y3T):(∀z∈l,Fn N 1 z.1)->Qn (N^(l.map (·.2)).sum) 1 (rv (nR l)):=by
 induction l using pJ with
 | h0=>intro _;exact⟨1,by show rv (1,1)*_=_;rw[BY];simp,by simp⟩
 | hs l a ih =>
  intro h;have e:∀z∈l,Fn N 1 z.1:=λz d=>h z (cL _ d);have c:=h a (by simp);rw[yA,lT (sI l λz d=>(e z d).low).pos (oR c.low a.2).pos,XR c.low,bF,List.sum_append,Nat.pow_add];have:=(ih e).mul (c.q.pow a.2);simpa using this
def XS{f:Fr}(h:Y0m)(h0:0<=f.1):0<=Y1O:=by
 have c:=CW h.pos;have a:(0:Rat)<=(f.1:Rat):=by exact_mod_cast h0
 have:Y1O=(f.1:Rat)*(f.2:Rat)⁻¹:=by unfold rv;exact Rat.div_def _ _
 rw[this];exact cI a (Ydh c)
def aDz(l:Y3T):(∀z∈l,eV z.1/\0<=z.1.1)->0<=rv (nR l):=by
 intro h;have c:∀z∈l,eV z.1:=λz a=>(h z a).1;refine XS (sI l c) ?_;rw[GM l c];have d:=JA l λz a=>(h z a).2;exact Yf2 d _
def SI{α:Type}(l:Yu)(m:Ae):((l.zip m).map (·.2)).sum<=m.sum:=by
 induction l generalizing m with
 | nil=>simp
 | cons a l ih =>
  cases m with
  | nil=>simp
  | cons b m =>
   have:=ih m;simp only[List.zip_cons_cons,bA,List.sum_cons];exact Oo
def wq(fs:Ak)(c:Ae):Rat:=rv (nR (fs.zip c))
def PD{N M:Nat}{fs:Ak}{c:Ae}(h:∀f∈fs,Y13 N 1)(hc:Y4s M):Qn (N^M) 1 (wq fs c):=by
 have e:=aDy (fs.zip c) (λz d=>h z.1 (Ydi z.1 z.2).1);have g:=SI fs c;exact e.dvd (Nat.pow_dvd_pow _ Oo)
def aCW{fs:Ak}{c:Ae}(h:∀f∈fs,Y0m/\0<=f.1):0<=wq fs c :=
 aDz _ λz d=>h z.1 (Ydi z.1 z.2).1
@[irreducible] def WB:Nat:=2^680
def aFR:1000000000000000000000<=WB:=by unfold WB;exact Y59 (show 1000000000000000000000<=2^70 by decide)
def aJB:4*WB<=2^690:=by unfold WB;exact Y59 (Nat.le_of_eq (show 4*2^680=2^682 by rw[show(4:Nat)=2^2 from rfl,<-Nat.pow_add]))
structure kO(F W M:Nat)(ss:Aj)(mix ps cs:Ak)(Ns Nm Np Nc B:Nat):Prop where
 f1:1<=F
 f4:F<=4
 w1:1<=W
 w4:W<=4
 m5:M<=5
 sl:ss.length=W
 ml:mix.length=W
 pl:ps.length=W
 cl:Yd3 M
 sh:∀s∈ss,s.length=F/\∀f∈s,Y13 Ns 1
 mx:∀f∈mix,Y13 Nm 1
 pr:∀f∈ps,Y13 Np B
 co:∀f∈cs,Y13 Nc B
 pos:0<Np*Nc*Nm*Ns^M
 sz:Np*Nc*Nm*Ns^M<Y0A
 b:2097152*B<=WB
def gS(ss:Aj)(v:Nat)(c:Ae):Rat:=wq (ss.getD v []) c
def cT(ps:Ak)(v:Nat):Rat:=rv (ps.getD v (0,1))
def wor(F W M:Nat)(ss:Aj)(mix ps cs:Ak)(c:Ae):Rat:=nC W F (gS ss) (Y6J) (cT ps) (cT cs) (Y2V) c
def eE{α:Type}{l:Yu}{j:Nat}{a:α}(h:Ya2 j):l.getD j a∈l:=by
 rw[aM,aB h];exact List.getElem_mem h
section
variable{F W M:Nat}{ss:Aj}{mix ps cs:Ak}{Ns Nm Np Nc B:Nat}
def kO.qn(I:kO F W M ss mix ps cs Ns Nm Np Nc B){v:Nat}(hv:v<W){c:Ae}(hc:Y4s M):Qn (Ns^M) 1 (Y2q v):=PD (I.sh _ (eE (by rw[I.sl];exact hv))).2 hc
def kO.due(I:kO F W M ss mix ps cs Ns Nm Np Nc B){v:Nat}(hv:v<W){c:Ae}(hc:Y4s M):Qn (Np*Nc*Nm*Ns^M) B (cT ps v*Y2q v):=by
 have h:=(I.pr _ (eE (a:=(0,1)) (by rw[I.pl];exact hv))).q.mul (I.qn hv hc);rw[Nat.mul_one]at h;exact h.dvd ⟨Nc*Nm,by ac_rfl⟩
def kO.met(I:kO F W M ss mix ps cs Ns Nm Np Nc B){v:Nat}(hv:v<W){c:Ae}(hc:Y4s M):Qn (Nm*Ns^M) 1 (Y3b v*Y2q v):=by
 have h:=(I.mx _ (eE (a:=(0,1)) (by rw[I.ml];exact hv))).q.mul (I.qn hv hc)
 rwa [Nat.mul_one]at h
def kO.paid(I:kO F W M ss mix ps cs Ns Nm Np Nc B){c:Ae}(hc:Y1U):Qn (Np*Nc*Nm*Ns^M) (4*B) (Y7N cs*Y08 (Y3b v*Y2q v)):=by
 have h:=(I.co _ (eE (a:=(0,1)) (show c.sum<cs.length by rw[I.cl];exact hc))).q;have e:=Ye0 (λv d=>I.met d (Nat.le_of_lt hc));have i:=h.mul e;have g:B*(W*1)<=4*B:=by
  have:=dI B I.w4;rw[Nat.mul_one];exact Oo
 exact(i.le g).dvd ⟨Np,by ac_rfl⟩
def gR{c:Ae}{j:Nat}(h:j<c.length):(Y2Y).sum=c.sum+1:=by
 unfold bS;have a:c[j]?=some (Y6k j):=by rw[aM,aB h];rfl
 have:=GV c j (Y6k j+1) _ a;exact Oo
def mC(c:Ae)(j:Nat):(Y2Y).length=c.length:=by unfold bS;rw[List.length_set]
def kO.says(I:kO F W M ss mix ps cs Ns Nm Np Nc B){c:Ae}(hc:Y4s M):∀x∈mG W (λv=>cT ps v*gS ss v c),Qn (Np*Nc*Nm*Ns^M) (5*B) x:=by
 intro x h;obtain⟨w,e,rfl⟩:=qJ.mp h;have g:=Ye0 (λv a=>I.due a hc);have d:=g.sub (I.due e hc);refine d.le ?_;have:=bJ B I.w4;exact Oo
theorem kO.worn(I:kO F W M ss mix ps cs Ns Nm Np Nc B):∀(n:Nat) (c:Ae),Y0T->c.sum+n=M->Qn (Np*Nc*Nm*Ns^M) (8^(n+1)*B) (nC W F (gS ss) (Y6J) (cT ps) (cT cs) n c)
 | 0,c,hl,hn=>Qn.min (λx hx=>(I.says Oo x hx).le Oo) (MZ I.w1 _)
 | n+1,c,hl,hn=>by
  rw[EI];have hp:8^(n+1+1)=8*8^(n+1):=by rw[Nat.pow_succ];exact Oo
  have d:1<=8^(n+1):=Nat.one_le_pow _ _ Dd;have i:B<=8^(n+1)*B:=Nat.le_mul_of_pos_left _ d;have l:8^(n+1+1)*B=8*(8^(n+1)*B):=by rw[hp,Nat.mul_assoc]
  refine Qn.min (λx hx=>?_) (by simp);rcases dM.mp hx with hx | hx
  ·exact(I.says Oo x hx).le Oo
  ·rw[bT.mp hx];have a:=I.paid (c:=c) Oo;have e:=Qn.sumR (n:=F) λj g=>I.worn n (bS c j) (by rw[mC];exact hl) (by rw[gR Oo];exact Oo);refine(a.add e).le ?_;have h:F*(8^(n+1)*B)<=4*(8^(n+1)*B):=bJ _ I.f4;exact Oo
end
def rise(F M:Nat):Ab:=(List.range (M+1)).flatMap (cta F)
theorem BA:∀{F m:Nat}{c:Ae},1<=F->Y0T->c.sum=m->c∈cta F m
 | 0,m,c,h,_,_=>Oo
 | 1,m,c,_,hl,hs=>by
  obtain⟨x,rfl⟩:∃x,c=[x]:=by
   match c,hl with
   | [x],_=>exact⟨x,rfl⟩
  have:x=m:=by simpa using hs
  subst this;simp[cta]
 | F+2,m,c,_,hl,hs=>by
  cases c with
  | nil=>simp at hl
  | cons x c =>
   rw[List.sum_cons]at hs;unfold cta;refine List.mem_flatMap.mpr ⟨x,bL.mpr Oo,aN.mpr ⟨c,BA Oo (by simpa using hl) Oo,rfl⟩⟩
def fT{F M:Nat}{c:Ae}(hF:1<=F):Y3Q c↔Y0T/\Y4s M:=by
 unfold rise;rw[List.mem_flatMap];constructor
 ·rintro⟨m,e,g⟩;have:=bL.mp e;obtain⟨a,d⟩:=iP g;exact Y2Q a
 ·rintro⟨a,d⟩;exact⟨c.sum,bL.mpr Oo,BA hF a rfl⟩
theorem pH(F:Nat):∀M:Nat,(rise F M).Pairwise λa b=>a.sum<=b.sum
 | 0=>by
  unfold rise;rw[List.range_succ,List.range_zero,List.nil_append,List.flatMap_singleton];refine List.pairwise_iff_forall_sublist.mpr λ{a b} h=>?_;have ha:a∈cta F 0:=h.subset (by simp);have:=(iP ha).2;exact Oo
 | M+1=>by
  have d:=pH F M;unfold rise at *;rw[List.range_succ,List.flatMap_append,List.flatMap_singleton];refine List.pairwise_append.mpr ⟨d,?_,λa ha b c=>?_⟩
  ·refine List.pairwise_iff_forall_sublist.mpr λ{a b} h=>?_;have ha:a∈cta F (M+1):=h.subset (by simp);have c:b∈cta F (M+1):=h.subset (by simp);have g:=(iP ha).2;have e:=(iP c).2;exact Oo
  ·obtain⟨m,i,ha⟩:=List.mem_flatMap.mp ha;have:=bL.mp i;have g:=(iP ha).2;have e:=(iP c).2;exact Oo
def sW{F M k:Nat}{c d:Ae}(h:Y0a[k]?=Y1h)(hd:Y3Q d)(hs:c.sum < d.sum):d∈(rise F M).drop (k+1):=by
 obtain⟨i,j⟩:=fP.mp hd;have m:k<i:=by
  refine Y72 ?_;have p:=(aC.mp h);have a:=(aC.mp j);obtain⟨r,l⟩:=p;obtain⟨n,e⟩:=a;rcases Nat.lt_or_eq_of_le (Nat.le_of_not_lt q)with g | g
  ·have:=(List.pairwise_iff_getElem.mp (pH F M)) i k n r g;rw[l,e]at this;exact Oo
  ·subst g;rw[l]at e;subst e;exact Oo
 refine fP.mpr (Y0o (i-(k+1)));rw[List.getElem?_drop,show k+1+(i-(k+1))=i by exact Oo];exact j
end Mf
namespace Mf
theorem DK:∀F:Nat,1<=F->cta F 0=[Y00]
 | 1,_=>rfl
 | F+2,_=>by
  unfold cta;rw[List.range_succ,List.range_zero,List.nil_append,List.flatMap_singleton,Nat.sub_zero,DK (F+1) Oo]
  rfl
def aAe{F m:Nat}(hF:1<=F){d:Ae}:d∈cta F (m+1) ↔ ∃c∈cta F m,∃j,j<F/\d=bS c j:=by
 constructor
 ·intro h;obtain⟨g,p⟩:=iP h;obtain⟨j,a,y⟩:∃j,j<d.length/\0<Y7O j:=by
   refine Y72 ?_;have z:d=Ydc d.length:=by
    refine List.eq_replicate_iff.mpr (Y0O (λx u=>?_));obtain⟨j,a⟩:=fP.mp u;have s:=(Y6Z).1;have:Y7O j=x:=by rw[aM,a];rfl
    refine cF λr=>q ⟨j,s,Oo⟩
   have:d.sum=0:=by rw[z];simp
   exact Oo
  have n:d[j]?=some (Y7O j):=by rw[aM,aB a];rfl
  have A:=GV d j (Y7O j-1) _ n;refine⟨d.set j (Y7O j-1),BA hF (by rw[List.length_set];exact g) Oo,j,Oo,?_⟩;unfold bS;rw[aM (l:=d.set j _),List.getElem?_set_self a,List.set_set];show d=d.set j (Y7O j-1+1);rw[show d.getD j 0-1+1=d.getD j 0 by exact Oo];refine(Y6x);rw[List.getElem?_set];by_cases e:j=i
  ·subst e;rw[Ys,if_pos a];exact n
  ·rw[Y0B]
 ·rintro⟨c,w,j,a,rfl⟩;obtain⟨g,p⟩:=iP w;exact BA hF (by rw[mC];exact g) (by rw[gR Oo];exact Oo)
def pI:∀F,F<=4->∀M,M<=5->(Y0a).Nodup:=Kk
def SE(f:Fr):Prop:=Y0m/\0<=f.1/\f.1<=999/\f.2<=999
def dens(l:Ak):Nat:=l.foldr (λf n=>f.2.natAbs*n) 1
theorem xN:∀{l:Ak},(∀f∈l,SE f)->0<dens l
 | [],_=>Nat.one_pos
 | f::l,h=>dU (by have:=(h f (aY ..)).1.pos;exact Oo) (xN λg hg=>h g (bG _ hg))
theorem IH:∀{l:Ak},(∀f∈l,SE f)->dens l<=999^l.length
 | [],_=>aL _
 | f::l,h=>by
  have h1:=IH λg e=>h g (bG f e);obtain⟨a,b,c,d⟩:=h f (aY ..);have:=a.pos;rw[cD,Nat.pow_succ,Nat.mul_comm];exact Nat.mul_le_mul (show f.2.natAbs<=999 by exact Oo) h1
theorem LA:∀{l:Ak}{f:Fr},f∈l->f.2.natAbs ∣ dens l
 | g::l,f,h=>by
  rcases bN.mp h with rfl | h
  ·exact mF _ _
  ·exact Nat.dvd_trans (LA h) (Nat.dvd_mul_left _ _)
def SE.fn{f:Fr}(h:SE f):Y13 f.2.natAbs 999:=by
 obtain⟨a,b,c,d⟩:=h;have p:=a.pos;have:=Fn.of (n:=f.1) (d:=f.2) (B:=999) p (by
  have:1<=f.2.natAbs:=Oo;have:=dI 999 this;exact Oo)
 rwa [QO a]at this
def aCl{l:Ak}(h:∀f∈l,SE f):∀f∈l,Y13 (dens l) 999:=λf a=>(h f a).fn.dvd (LA a)
end Mf
namespace Mf
abbrev cZ:=List Nat × Ak
def s0(e:cZ):Rat:=cT e.2 0
def gX(F:Nat)(c d:Ae):Rat:=Y4p (if Y5g=d then 1 else 0)
def aX(F:Nat)(es:Yg):Y0y:=es.foldl (λg e=>λd=>g d+g e.1*Y2*Y2o e.1) (λd=>if d=Y00 then 1 else 0)
def lG(F:Nat)(d:Ae):Y2p []=if d=Y00 then 1 else 0:=rfl
def gK(F:Nat)(l:Yg)(e:cZ)(d:Ae):Y2p (l++[e])=Y2p l+Y0f l e.1*Y2*Y2o e.1:=by unfold aX;rw[List.foldl_append];rfl
def cW{α:Type}(l:Yu)(f:Y3a):Rat:=rC (l.map f)
def jH{α:Type}(f:Y3a):cW [] f=0:=rfl
def dE{α:Type}(a:α)(l:Yu)(f:Y3a):cW (a::l) f=f a+Y46:=rfl
def JL{α:Type}(a b:Yu)(f:Y3a):cW (a++b) f=cW a f+cW b f:=by unfold cW;rw[bF,sK]
def oF{α:Type}(l:Yu)(a:α)(f:Y3a):cW (l++[a]) f=Y46+f a:=by rw[JL,dE,jH];grind
def dC{α:Type}{l:Yu}{f g:Y3a}(h:∀a∈l,f a=g a):Y46=cW l g:=by unfold cW;rw[cU h]
def jV{α:Type}(l:Yu)(f g:Y3a):YbI (f a+g a)=Y46+cW l g:=by
 induction l with
 | nil=>rw[jH,jH,jH];grind
 | cons a l ih=>rw[dE,dE,dE,ih];grind
def lO{α:Type}(l:Yu)(x:Rat)(f:Y3a):YbI (x*f a)=x*Y46:=by
 induction l with
 | nil=>rw[jH,jH];grind
 | cons a l ih=>rw[dE,dE,ih];grind
def uA{α:Type}(l:Yu):cW l Y3r=0:=by
 induction l with
 | nil=>rfl
 | cons a l ih=>rw[dE,ih];grind
def uC{α:Type}{l:Yu}{f g:Y3a}(h:∀a∈l,f a<=g a):Y46<=cW l g:=by
 induction l with
 | nil=>exact Rat.le_refl
 | cons a l ih =>
  have e:=h a (aY ..);have d:=ih λx c=>h x (bG _ c);rw[dE,dE];grind
def uB{α:Type}{l:Yu}{f:Y3a}(h:∀a∈l,0<=f a):0<=Y46:=by
 have:=uC (l:=l) (f:=Y3r) (g:=f) h
 rwa [uA]at this
def pY{α:Type}(l:Yu)(n:Nat)(f:α->Yx):YbI (bZ n (f a))=Y4m n (YbI (f a i)):=by
 induction l with
 | nil=>show 0=bZ n (Y3r);rw[iS]
 | cons a l ih =>
  rw[dE,ih,<-nH];exact bP λi _=>rfl
def yB{es:Yg}(nd:(es.map (·.1)).Nodup){b:Ae}(hb:Y4e b (·.1))(Φ:Y0y):Yad es ((if b=x.1 then 1 else 0)*Φ x.1)=Φ b:=by
 induction es with
 | nil=>cases hb
 | cons a es ih =>
  rw[bA,List.nodup_cons]at nd;rw[dE];by_cases e:b=a.1
  ·rw[Y1i,e,dC (g:=Y3r) λx c=>?_,uA]
   ·grind
   ·rw[Y31 (nd.1 (by rw[q];exact Y32 x c))];grind
  ·rw[Y0B,ih nd.2 (by rw[bA]at hb;exact(bN.mp hb).resolve_left e)];grind
structure sG(F:Nat)(es:Yg):Prop where
 root:∃e r,es=e::r/\e.1=Y00
 len:∀e∈es,e.1.length=F
 nd:(es.map (·.1)).Nodup
 srt:es.Pairwise λa b=>a.1.sum<=b.1.sum
 fwd:∀e∈es,Y4B->∀f,f<F->Y4e (Y19 e.1) (·.1)
 bwd:∀d∈es.map (·.1),d≠List.replicate F 0->∃e∈es,s0 e≠0/\∃f,f<F/\bS e.1 f=d
 nn:∀e∈es,0<=Y2
section
variable{F:Nat}{es:Yg}
def xI{c d:Ae}(hc:Y0T)(h:d.sum≠c.sum+1):Y4z=0:=by
 unfold gX;rw[Y7A (λf a=>Y31 (h ?_)),iS];rw[<-q,gR Oo]
theorem sG.at(R:Y1D){i:Nat}{e:cZ}(h:es[i]?=Y7b):Y4b F i e.1=Y4 e.1:=by
 have a:∀k,Ybb (i+k)->Y4b F (i+k) e.1=Y4b F i e.1:=by
  intro k
  induction k with
  | zero=>intro _;rfl
  | succ k ih =>
   intro n;obtain⟨x,c⟩:∃x,es[i+k]?=Y7:=Y88;have m:es.take (i+k+1)=es.take (i+k)++[x]:=by rw[jT,c];rfl
   rw[<-Nat.add_assoc,m,gK,ih Oo,xI (R.len x (aF c)) ?_]
   ·grind
   ·obtain⟨l,g⟩:=aC.mp h;obtain⟨j,d⟩:=aC.mp c;have:e.1.sum<=x.1.sum:=by
     by_cases q:k=0
     ·subst q;have:e=x:=by rw[<-g,<-d];rfl
      rw[this];exact Yl
     ·have:=(List.pairwise_iff_getElem.mp R.srt) i (i+k) l j Oo
      rwa [g,d]at this
    exact Oo
 have p:=(aC.mp h).1;have:=a (es.length-i) Oo;rw[show i+(es.length-i)=es.length by exact Oo,dY]at this;exact this.symm
def sG.cons(R:Y1D)(Φ:Y0y):∀n,Ybb n->Yad es (Y4b F n x.1*Φ x.1)=Φ (Y00)+Y8e YcW (Y4 e.1*Y2*Y4p (Φ (Y19 e.1))):=by
 intro n
 induction n with
 | zero =>
  intro _;rw[List.take_zero,jH];obtain⟨e,r,a,h⟩:=R.root;have:=yB R.nd (b:=Y00) (by rw[a,<-h];exact aY ..) Φ;rw[dC (g:=λx=>(if Y00=x.1 then 1 else 0)*Φ x.1) λx _=>?_,this]
  ·grind
  ·rw[lG];by_cases q:x.1=Y00
   ·rw[Y5B,if_pos q.symm]
   ·rw[Y2F,Y2t (q z.symm)]
 | succ n ih =>
  intro l;obtain⟨e,a⟩:∃x,es[n]?=Y7:=Y88;have c:es.take (n+1)=YcW++[e]:=by rw[jT,a];rfl
  have j:=aF a;rw[c,oF,<-Rat.add_assoc,<-ih Oo];rw[dC (g:=λx=>Y4b F n x.1*Φ x.1+Y4 e.1*Y2*(gX F e.1 x.1*Φ x.1)) λx _=>by rw[gK,R.at a];grind];rw[jV,lO];by_cases z:Y2=0
  ·rw[z];grind
  ·congr 2;have:(λx:cZ=>gX F e.1 x.1*Φ x.1)=λx=>Y4p ((if Y19 e.1=x.1 then 1 else 0)*Φ x.1):=by
    funext x
    unfold gX;rw[Rat.mul_comm,<-eT];exact bP λi _=>Rat.mul_comm _ _
   rw[this,pY];exact bP λf d=>yB R.nd (R.fwd e j z f d) Φ
def sG.all(R:Y1D)(Φ:Y0y):Yad es (Y4 x.1*Φ x.1)=Φ (Y00)+Y0x (Y4 e.1*Y2*Y4p (Φ (Y19 e.1))):=by
 have:=R.cons Φ es.length (Yl)
 rwa [dY]at this
def ZN(F:Nat)(c d:Ae):0<=Y4z:=tZ λf _=>by split <;> grind
def sG.fnn(R:Y1D):∀n,Ybb n->∀d,0<=Y4b F n d:=by
 intro n
 induction n with
 | zero=>intro _ d;rw[List.take_zero,lG];split <;> grind
 | succ n ih =>
  intro h d;obtain⟨e,a⟩:∃x,es[n]?=Y7:=Y88;have g:es.take (n+1)=YcW++[e]:=by rw[jT,a];rfl
  rw[g,gK];have i:=ih Oo d;have c:=ih Oo e.1;have j:=cI (cI c (R.nn e (aF a))) (ZN F e.1 d);grind
def sG.nnf(R:Y1D)(d:Ae):0<=Y4 d:=by
 have:=R.fnn es.length (Yl) d
 rwa [dY]at this
def sG.pos(R:Y1D):∀(k:Nat) (d:Ae),Y4e d (·.1)->d.sum<=k->0<Y4 d:=by
 have m:∀d∈es.map (·.1),Y4 d=(if d=Y00 then 1 else 0)+Y0x (Y4 e.1*Y2*Y2o e.1):=λd hd=>by
  have h:=R.all λx=>if d=x then 1 else 0
  have A:=yB R.nd hd (aX F es);have L:Yad es (Y4 x.1*(if d=x.1 then 1 else 0))=Y4 d:=by rw[<-A];exact dC λx _=>Rat.mul_comm _ _
  rw[<-L,h];congr 1;exact dC λe _=>by
   congr 1;unfold gX;exact bP λf _=>by
    by_cases q:d=Y19 e.1
    ·rw[Y5B,if_pos q.symm]
    ·rw[Y2F,Y2t (q z.symm)]
 have r:∀d,∀e∈es,0<=Y4 e.1*Y2*Y2o e.1:=λd e a=>cI (cI (R.nnf _) (R.nn e a)) (ZN F e.1 d);intro k
 induction k with
 | zero =>
  intro d hd B;have p:d=Y00:=by
   refine Y72 ?_;obtain⟨e,a,_,f,s,rfl⟩:=R.bwd d hd q;rw[gR (by rw[Y50 a];exact s)]at B;exact Oo
  rw[m d hd,if_pos p];have:=uB (r d);grind
 | succ k ih =>
  intro d hd B;by_cases p:d=Y00
  ·rw[m d hd,if_pos p];have:=uB (r d);grind
  ·obtain⟨e,a,N,f,s,rfl⟩:=R.bwd d hd p;have bs:=gR (c:=e.1) (j:=f) (by rw[Y50 a];exact s);have G:=ih e.1 (Y32 e a) Oo;have u:0<Y2:=by have:=R.nn e a;grind
   have O:1<=gX F e.1 (Y19 e.1):=by
    unfold gX;have A:=mK (n:=F) (f:=λi=>if i=f then 1 else 0) (g:=λi=>if bS e.1 i=Y19 e.1 then 1 else 0) λi _=>by
     by_cases q:i=f
     ·subst q;rw[Ys,Ys];exact Rat.le_refl
     ·rw[Y2F];split <;> grind
    have I:=wG (n:=F) (λi=>if i=f then(1:Rat) else 0) s;have J:Y4m F (if i=f then 0 else if i=f then(1:Rat) else 0)=0:=by
     rw[Y7A (λi _=>?_),iS];by_cases q:i=f
     ·rw[Y5B]
     ·rw[Y2F,Y2F]
    rw[Ys,J]at I;grind
   have one:0<Y4 e.1*Y2*gX F e.1 (Y19 e.1):=Rat.mul_pos (Rat.mul_pos G u) (by grind);rw[m _ hd,if_neg p];have:Y4 e.1*Y2*gX F e.1 (Y19 e.1)<=cW es λy=>Y4 y.1*s0 y * gX F y.1 (Y19 e.1):=by
    obtain⟨C,D,rfl⟩:=List.append_of_mem a;rw[JL,dE];have M:=uB (l:=C) λx w=>r (Y19 e.1) x (cL _ w);have P:=uB (l:=D) λx w=>r (Y19 e.1) x (cK _ (bG _ w));grind
   grind
def sG.posf(R:Y1D){e:cZ}(h:e∈es):0<Y4 e.1:=R.pos _ e.1 (Y32 e h) (Yl)
def Qn.one'(N:Nat):Qn N 1 1:=⟨N,by rw[rJ];grind,by simp⟩
def sG.qn(R:Y1D){N:Nat}(hN:∀e∈es,Qn N 1 Y2)(f4:F<=4):∀n,Ybb n->∀d,Qn (N^d.sum) (5^n) (Y4b F n d):=by
 intro n
 induction n with
 | zero =>
  intro _ d;rw[List.take_zero,lG];split
  ·exact Qn.one' _
  ·exact Y7I _
 | succ n ih =>
  intro p d;obtain⟨e,g⟩:∃x,es[n]?=Y7:=Y88;have l:es.take (n+1)=YcW++[e]:=by rw[jT,g];rfl
  rw[l,gK];have c:=ih Oo d;have h:=aF g;have r:5^(n+1)=5*5^n:=by rw[Nat.pow_succ];exact Oo
  by_cases hs:d.sum=e.1.sum+1
  ·have i:=(ih Oo e.1).mul (hN e h);have m:Qn 1 4 (Y2o e.1):=by
    have:=Qn.sumR (N:=1) (B:=1) (n:=F) (f:=λf=>if Y19 e.1=d then 1 else 0) λf _=>by
     split
     ·exact Qn.one' _
     ·exact Y7I _
    exact this.le Oo
   have a:=i.mul m;have j:N^e.1.sum*N=N^d.sum:=by rw[hs,Nat.pow_succ]
   rw[Nat.mul_one,j]at a;exact(c.add a).le Oo
  ·rw[xI (Y50 h) hs];have:Y4b F n d+Y4b F n e.1*Y2*0=Y4b F n d:=by grind
   rw[this];exact c.le Oo
end
def mH(zs:Y3T):Rat:=zs.foldr (λz p=>rv z.1^z.2*p) 1
theorem QC:∀(zs:Y3T) (p:Fr),eV p->(∀z∈zs,eV z.1)->rv (zs.foldl (λp q=>nU p (zY q.1 q.2)) p)=rv p*mH zs
 | [],p,_,_=>by show rv p=rv p*1;grind
 | z::zs,p,hp,h=>by
  have hz:=h z (aY ..);have a:=oR hz z.2;rw[List.foldl_cons,QC zs _ (iV hp a) λy c=>h y (bG _ c),lT hp.pos a.pos,XR hz];show _=rv p*(rv z.1^z.2*mH zs);grind
def vY{fs:Ak}(h:∀f∈fs,Y0m)(c:Ae):wq fs c=Ycz c:=by
 unfold wq nR;rw[QC _ _ ZE λz d=>h z.1 (Ydi z.1 z.2).1];show rv (1,1)*_=_;rw[BY];grind
theorem FB:∀(fs:Ak) (c:Ae) (j:Nat),Y8G j->Y6P c.length->Ycz Y2Y=Ycz c*cT fs j
 | [],c,j,h,_=>by simp at h
 | f::fs,[],j,_,h=>by simp at h
 | f::fs,n::c,0,_,_=>by
  show rv f^(n+1)*mH (fs.zip c)=(rv f^n*mH (fs.zip c))*rv f;rw[Rat.pow_succ];grind
 | f::fs,n::c,j+1,hj,hl=>by
  have ih:=FB fs c j (by simpa using hj) (by simpa using hl);have e:bS (n::c) (j+1)=n::bS c j:=by unfold bS;rw[List.set_cons_succ];rfl
  have a:cT (f::fs) (j+1)=cT fs j:=rfl;rw[e,a,List.zip_cons_cons,List.zip_cons_cons];show rv f^n*mH (fs.zip (bS c j))=(rv f^n*mH (fs.zip c))*cT fs j;rw[ih];grind
theorem FA:∀(fs:Ak) (n:Nat),Ycz (Ydc n)=1
 | [],n=>by rfl
 | f::fs,0=>by rfl
 | f::fs,n+1=>by
  rw[List.replicate_succ,List.zip_cons_cons];show rv f^0*mH (fs.zip (List.replicate n 0))=1;rw[FA fs n,Rat.pow_zero];grind
def tY(fs:Ak):rC (YcV)=bZ fs.length (cT fs):=by
 unfold bZ;congr 1;refine Y6x;rw[aE,aE];by_cases hi:Y8G i
 ·rw[aZ hi,aB hi];show Y7c=some (cT fs i);unfold cT;rw[aM,aB hi];rfl
 ·rw[bI Oo,bI (by rw[aQ];exact Oo)];rfl
def aDw{fs:Ak}(h:∀f∈fs,Y0m)(h1:rC (YcV)=1){c:Ae}(hc:c.length=fs.length):wq fs c=Yao fs.length (wq fs (Y5g)):=by
 rw[vY h];rw[bP (g:=λf=>Ycz c*cT fs f) λf a=>by rw[vY h,FB fs c f a hc.symm]];rw[eT,<-tY,h1];grind
def aA4{fs:Ak}(h:∀f∈fs,Y0m)(n:Nat):wq fs (Ydc n)=1:=by rw[vY h,FA]
section
variable{F W M:Nat}{es:Yg}{q:Y2M}{mix ps cs:Yx}
def gM(F:Nat)(es:Yg)(q:Y0y)(w:Nat):Rat:=Y0x (Y4 e.1*q e.1*Y2S e.2 w)
def gE(F:Nat)(es:Yg)(q:Y0y)(cs:Yx):Rat:=Y0x (cs e.1.sum*(Y4 e.1*q e.1*Y2))
def gC(F W:Nat)(es:Yg)(q:Y2M)(mix cs:Yx):Rat:=Y0j (mix w*gE F es (q w) cs)
def yI(F W:Nat)(es:Yg)(q:Y2M)(mix ps cs:Yx):Rat:=gC F W es q mix cs+Y0j (Y0k*(1-gM F es (q w) w))
def sG.stops(R:Y1D){q:Y0y}(h0:q (Y00)=1)(h1:∀c,Y0T->q c=Y4p (q (Y5g))):Y0x (Y4 e.1*q e.1*(1-Y2))=1:=by
 have h:=R.all q;rw[h0]at h;have e:Y0x (Y4 e.1*Y2*Y4p (q (Y19 e.1)))=Y0x (Y4 e.1*q e.1*Y2):=dC λe a=>by rw[<-h1 e.1 (Y50 a)];grind
 rw[e]at h;have d:Y0x (Y4 e.1*q e.1*(1-Y2))+Y0x (Y4 e.1*q e.1*Y2)=Yad es (Y4 x.1*q x.1):=by
  rw[<-jV];exact Y6h (by grind)
 grind
def VT(W F:Nat)(q:Y2M)(mix ps cs:Yx)(n:Nat)(c:Ae){v:Nat}(hv:v<W):nC W F q mix ps cs n c<=Y0j (Y0k*q w c)-Y1y*q v c:=by
 cases n with
 | zero=>exact rK (qJ.mpr (Y3q v hv))
 | succ n=>exact rK (cL _ (qJ.mpr (Y3q v hv)))
def aA6(W F:Nat)(q:Y2M)(mix ps cs:Yx)(n:Nat)(c:Ae):nC W F q mix ps cs (n+1) c<=cs c.sum*Y08 (mix v*q v c)+Y8W F (nC W F q mix ps cs n (Y2Y)):=rK (Yb0 _ rfl)
def YF(R:Y1D)(hM:∀e∈es,e.1.sum<=M)(on:∀e∈es,Y4B->e.1.sum<M)(h0:∀w,w<W->q w (Y00)=1)(h1:∀w,w<W->∀c,Y0T->q w c=Y4p (q w (Y5g)))
  (hs:∀e∈es,(∀v,0<=cT e.2 v)/\Y08 (Y0E e.2)=1-Y2):nC W F q mix ps cs M (Y00)<=yI F W es q mix ps cs:=by
 let V:Y0y:=λc=>nC W F q mix ps cs (Y2V) c
 have one:∀e∈es,V e.1<=Y2*(cs e.1.sum*Y08 (mix v*q v e.1))+Y2*Y73 e.1+((1-Y2)*Y0j (Y0k*q w e.1)-Y08 (Y0E e.2*(Y1y*q v e.1))):=by
  intro e i;obtain⟨p,a⟩:=hs e i;have says:(1-Y2)*V e.1<=(1-Y2)*Y0j (Y0k*q w e.1)-Y08 (Y0E e.2*(Y1y*q v e.1)):=by
   have h:=mK (n:=W) (f:=λv=>Y0E e.2*V e.1) (g:=λv=>Y0E e.2*(Y0j (Y0k*q w e.1)-Y1y*q v e.1)) λv s=>Rat.mul_le_mul_of_nonneg_left (VT W F q mix ps cs _ _ s) (p _);rw[bP (g:=λv=>V e.1*Y0E e.2) λv _=>Rat.mul_comm _ _,eT,a]at h;have G:Y08 (Y0E e.2*(Y0j (Y0k*q w e.1)-Y1y*q v e.1))=(1-Y2)*Y0j (Y0k*q w e.1)-Y08 (Y0E e.2*(Y1y*q v e.1)):=by
    generalize bZ W (λw=>ps w*q w e.1)=D;have N:Y08 (Y0E e.2*(D-Y1y*q v e.1))+Y08 (Y0E e.2*(Y1y*q v e.1))=D*Y08 (Y0E e.2):=by
     rw[<-nH,<-eT];exact bP λv _=>by grind
    rw[a]at N;grind
   rw[G]at h;grind
  by_cases z:Y2=0
  ·rw[z]at says ⊢;grind
  ·have B:=on e i z;obtain⟨n,L⟩:∃n,M-e.1.sum=n+1:=Y2Q (M-e.1.sum-1);have look:V e.1<=cs e.1.sum*Y08 (mix v*q v e.1)+Y73 e.1:=by
    show nC W F q mix ps cs (M-e.1.sum) e.1<=_;rw[L];refine Ycb (aA6 W F q mix ps cs n e.1);have J:Y8W F (nC W F q mix ps cs n (bS e.1 j))=Y73 e.1:=bP λf O=>by
     show _=nC W F q mix ps cs (M-(Y19 e.1).sum) (Y19 e.1);rw[gR (by rw[Y50 i];exact O),show M-(e.1.sum+1)=n by exact Oo]
    rw[J];exact Rat.le_refl
   have C:=Rat.mul_le_mul_of_nonneg_left look (R.nn e i);grind
 have all:=R.all V;have sum1:=uC (l:=es) λe i=>Rat.mul_le_mul_of_nonneg_left (one e i) (R.nnf e.1);have m:V (Y00)=nC W F q mix ps cs M (Y00):=by
  show nC W F q mix ps cs (M-(Y00).sum) _=_;rw[show(List.replicate F 0).sum=0 by simp,Nat.sub_zero]
 rw[all,m]at sum1;have d:Y0x (Y4 e.1*(Y2*(cs e.1.sum*Y08 (mix v*q v e.1))+Y2*Y73 e.1+((1-Y2)*Y0j (Y0k*q w e.1)-Y08 (Y0E e.2*(Y1y*q v e.1))))) =
   gC F W es q mix cs+Y0x (Y4 e.1*Y2*Y73 e.1)+Y0j (Y0k*(1-gM F es (q w) w)):=by
  have I:gC F W es q mix cs=Y0x (Y4 e.1*(Y2*(cs e.1.sum*Y08 (mix v*q v e.1)))):=by
   unfold gC gE;rw[Yex (λw=>Y0x (mix w*(cs e.1.sum*(Y4 e.1*q w e.1*Y2)))) ((lO _ _ _).symm),<-pY];refine Y6h ?_;rw[<-eT,<-eT,<-eT];exact Y7P (by grind)
  have A:Y0j (Y0k*(1-gM F es (q w) w))=Y0x (Y4 e.1*((1-Y2)*Y0j (Y0k*q w e.1)-Y08 (Y0E e.2*(Y1y*q v e.1)))):=by
   have k:∀w,w<W->Y0k*(1-gM F es (q w) w)=Y0x (Y0k*(Y4 e.1*q w e.1*(1-Y2)-Y4 e.1*q w e.1*Y2S e.2 w)):=λw r=>by
    rw[lO];congr 1;have h:=R.stops (h0 w r) (h1 w r);have C:Y0x (Y4 e.1*q w e.1*(1-Y2)-Y4 e.1*q w e.1*Y2S e.2 w)+gM F es (q w) w=Y0x (Y4 e.1*q w e.1*(1-Y2)):=by
     unfold gM;rw[<-jV];exact Y6h (by grind)
    grind
   rw[bP k,<-pY];refine Y6h ?_;have u:(1-Y2)*Y0j (Y0k*q w e.1)=Y0j ((1-Y2)*(Y0k*q w e.1)):=(eT _ _ _).symm;have P:Y0j ((1-Y2)*(Y0k*q w e.1)-Y2S e.2 w*(Y0k*q w e.1))+Y08 (Y0E e.2*(Y1y*q v e.1))=Y0j ((1-Y2)*(Y0k*q w e.1)):=by
    rw[<-nH];exact Y7P (by grind)
   have y:(1-Y2)*Y0j (Y0k*q w e.1)-Y08 (Y0E e.2*(Y1y*q v e.1))=Y0j ((1-Y2)*(Y0k*q w e.1)-Y2S e.2 w*(Y0k*q w e.1)):=by rw[u];grind
   rw[y,<-eT];exact Y7P (by grind)
  rw[I,A,<-jV,<-jV];exact Y6h (by grind)
 rw[d]at sum1;unfold yI;grind
end
end Mf
namespace Mf
section
variable{F W:Nat}{es:Yg}{q:Y2M}{mix ps cs:Yx}
def BS{n v:Nat}{f:Yx}(hv:v<n)(h:∀i,i<n->i≠v->f i=0):bZ n f=f v:=by
 have a:=wG (n:=n) f hv;have d:Y4m n (if i=v then 0 else f i)=0:=by
  rw[Y7A (λi c=>?_),iS];by_cases e:i=v
  ·rw[Y1i]
  ·rw[Y0B,h i c e]
 rw[d]at a;grind
def aAO(F W:Nat)(q:Y2M)(mix ps cs:Yx)(V:Y0y)(e:cZ):Prop :=
 (Y2=1/\(∀v,v<W->Y0E e.2=0)/\V e.1=cs e.1.sum*Y08 (mix v*q v e.1)+Y73 e.1) \/
 ∃v,v<W/\Y2=0/\Y0E e.2=1/\(∀u,u<W->u≠v->Y2S e.2 u=0)/\V e.1=Y0j (Y0k*q w e.1)-Y1y*q v e.1
def YG(R:Y1D)(V:Y0y)(h0:∀w,w<W->q w (Y00)=1)(h1:∀w,w<W->∀c,Y0T->q w c=Y4p (q w (Y5g)))
  (hb:∀e∈es,aAO F W q mix ps cs V e):V (Y00)=yI F W es q mix ps cs:=by
 have one:∀e∈es,V e.1=Y2*(cs e.1.sum*Y08 (mix v*q v e.1))+Y2*Y73 e.1+((1-Y2)*Y0j (Y0k*q w e.1)-Y08 (Y0E e.2*(Y1y*q v e.1))):=by
  intro e l;rcases hb e l with⟨a,b,c⟩ | ⟨v,r,a,b,d,c⟩
  ·have m:Y08 (Y0E e.2*(Y1y*q v e.1))=0:=by
    rw[Y7A (λi n=>by rw[b i n];grind),iS]
   rw[m,a,c];grind
  ·have m:Y08 (Y0E e.2*(Y1y*q v e.1))=Y1y*q v e.1:=by
    rw[BS r λi n A=>by rw[d i n A];grind,b];grind
   rw[m,a,c];grind
 have all:=R.all V;have sum1:Yad es (Y4 x.1*V x.1)=Y0x (Y4 e.1*(Y2*(cs e.1.sum*Y08 (mix v*q v e.1))+Y2*Y73 e.1+((1-Y2)*Y0j (Y0k*q w e.1)-Y08 (Y0E e.2*(Y1y*q v e.1))))):=dC λe l=>by rw[<-one e l]
 rw[all]at sum1;have j:Y0x (Y4 e.1*(Y2*(cs e.1.sum*Y08 (mix v*q v e.1))+Y2*Y73 e.1+((1-Y2)*Y0j (Y0k*q w e.1)-Y08 (Y0E e.2*(Y1y*q v e.1))))) =
   gC F W es q mix cs+Y0x (Y4 e.1*Y2*Y73 e.1)+Y0j (Y0k*(1-gM F es (q w) w)):=by
  have z:gC F W es q mix cs=Y0x (Y4 e.1*(Y2*(cs e.1.sum*Y08 (mix v*q v e.1)))):=by
   unfold gC gE;rw[Yex (λw=>Y0x (mix w*(cs e.1.sum*(Y4 e.1*q w e.1*Y2)))) ((lO _ _ _).symm),<-pY];refine Y6h ?_;rw[<-eT,<-eT,<-eT];exact Y7P (by grind)
  have y:Y0j (Y0k*(1-gM F es (q w) w))=Y0x (Y4 e.1*((1-Y2)*Y0j (Y0k*q w e.1)-Y08 (Y0E e.2*(Y1y*q v e.1)))):=by
   have k:∀w,w<W->Y0k*(1-gM F es (q w) w)=Y0x (Y0k*(Y4 e.1*q w e.1*(1-Y2)-Y4 e.1*q w e.1*Y2S e.2 w)):=λw p=>by
    rw[lO];congr 1;have h:=R.stops (h0 w p) (h1 w p);have B:Y0x (Y4 e.1*q w e.1*(1-Y2)-Y4 e.1*q w e.1*Y2S e.2 w)+gM F es (q w) w=Y0x (Y4 e.1*q w e.1*(1-Y2)):=by
     unfold gM;rw[<-jV];exact Y6h (by grind)
    grind
   rw[bP k,<-pY];refine Y6h ?_;have s:(1-Y2)*Y0j (Y0k*q w e.1)=Y0j ((1-Y2)*(Y0k*q w e.1)):=(eT _ _ _).symm;have C:Y0j ((1-Y2)*(Y0k*q w e.1)-Y2S e.2 w*(Y0k*q w e.1))+Y08 (Y0E e.2*(Y1y*q v e.1))=Y0j ((1-Y2)*(Y0k*q w e.1)):=by
    rw[<-nH];exact Y7P (by grind)
   have u:(1-Y2)*Y0j (Y0k*q w e.1)-Y08 (Y0E e.2*(Y1y*q v e.1))=Y0j ((1-Y2)*(Y0k*q w e.1)-Y2S e.2 w*(Y0k*q w e.1)):=by rw[s];grind
   rw[u,<-eT];exact Y7P (by grind)
  rw[z,y,<-jV,<-jV];exact Y6h (by grind)
 rw[j]at sum1;unfold yI;grind
end
end Mf
namespace Md
def eC:Y1F ((Y1)->Int)
 | 0,_=>0
 | n+1,f=>eC n f+f n
def eL{n:Nat}{f g:Y1}(h:∀i,i<n->f i=g i):eC n f=eC n g:=by
 induction n with
 | zero=>rfl
 | succ n ih=>rw[eC,eC,ih λi a=>h i Oo,h n Oo]
def nI(n:Nat)(f g:Y1):Y3H (f i+g i)=eC n f+eC n g:=by
 induction n with
 | zero=>rfl
 | succ n ih=>rw[eC,eC,eC,ih];exact Oo
def iD(n:Nat)(a:Int)(f:Y1):Y3H (a*f i)=a*eC n f:=by
 induction n with
 | zero=>simp[eC]
 | succ n ih=>rw[eC,eC,ih,Int.mul_add]
def yC(n:Nat):eC n (Y3r)=0:=by
 induction n with
 | zero=>rfl
 | succ n ih=>rw[eC,ih];rfl
def jW{n:Nat}{f:Y1}{w:Nat}(hw:w<n)(h:∀i,i<n->i≠w->f i=0):eC n f=f w:=by
 induction n with
 | zero=>exact Oo
 | succ n ih =>
  rw[eC];by_cases e:w=n
  ·subst e;rw[eL (g:=Y3r) λi a=>h i Oo Oo,yC];exact Oo
  ·rw[ih Oo λi a ne=>h i Oo ne,h n Oo (λz=>Y8K)];exact Oo
def JM{n:Nat}{f:Y1}{v w:Nat}(hv:v<n)(hw:w<n)(ne:v≠w)(h:∀i,i<n->i≠v->i≠w->f i=0):eC n f=f v+f w:=by
 have d:eC n f=Y3H (if i=v then f v else 0)+Y3H (if i=v then 0 else f i):=by
  rw[<-nI];refine eL λi _=>?_;by_cases e:i=v
  ·simp[e]
  ·simp[e]
 rw[d,jW hv (f:=λi=>if i=v then f v else 0) (λi _ a=>if_neg a),jW hw (f:=λi=>if i=v then 0 else f i) (λi c a=>?_)]
 ·simp[ne.symm]
 ·by_cases e:i=v
  ·simp[e]
  ·simp[e,h i c e a]
def ES(n m:Nat)(f:Y1F Y1):Y3H (eC m (f i))=Y4Z m (Y3H (f i j)):=by
 induction n with
 | zero=>rw[eC];exact(yC m).symm
 | succ n ih=>rw[eC,ih,<-nI];rfl
def sgn(j:Nat):Int:=if j % 2=0 then 1 else -1
def XJ(j:Nat):sgn (j+1)=- sgn j:=by
 unfold sgn;rcases Nat.mod_two_eq_zero_or_one j with h | h
 ·rw[Y4W,if_neg (show ¬(j+1) % 2=0 by exact Oo)]
 ·rw[if_neg (show ¬j % 2=0 by exact Oo),if_pos (show(j+1) % 2=0 by exact Oo)];rfl
def skip(j i:Nat):Nat:=if i<j then i else i+1
abbrev fE:=Y1F Y1
def wo(B:fE)(j:Nat):fE:=λi=>B (skip j i)
def det:Y1F (fE->Int)
 | 0,_=>1
 | n+1,B=>eC (n+1) λj=>sgn (j+n)*B j n*det n (wo B j)
def st(B:fE)(i:Nat)(u:Y1):fE:=λj=>if j=i then u else B j
def iH(B:fE)(i:Nat)(u:Y1):st B i u i=u:=Ys
def lP{B:fE}{i j:Nat}{u:Y1}(h:j≠i):st B i u j=B j:=Y5C
def uD(B:fE)(i:Nat):st B i (B i)=B:=by
 funext j;unfold st;split
 ·rename_i h;rw[h]
 ·rfl
theorem yT:∀{n:Nat}{B C:fE},(∀j,j<n->∀r,r<n->B j r=C j r)->det n B=det n C
 | 0,_,_,_=>rfl
 | n+1,B,C,h=>by
  refine eL λj hj=>?_;rw[h j hj n Oo,yT (n:=n) (B:=wo B j) (C:=wo C j) λi hi r hr=>h (skip j i) (by unfold skip;split <;> exact Oo) r Oo]
def vH(B:fE)(j:Nat)(u:Y1):wo (st B j u) j=wo B j:=by
 funext i
 show st B j u (skip j i)=B (skip j i);exact lP (by unfold skip;split <;> exact Oo)
def unsk(j c:Nat):Nat:=if c<j then c else c-1
def yF{j c:Nat}(h:c≠j):skip j (unsk j c)=c:=by
 unfold skip unsk;by_cases e:c<j
 ·rw[Y1i,Y1i]
 ·rw[Y0B,Y3s];exact Oo
def XH{j a b:Nat}(h:skip j a=skip j b):a=b:=by
 unfold skip at h;split at h <;> split at h <;> exact Oo
def BL{B:fE}{j c:Nat}{u:Y1}(h:c≠j):wo (st B c u) j=st (wo B j) (unsk j c) u:=by
 funext i
 show st B c u (skip j i)=_;by_cases e:i=unsk j c
 ·subst e;rw[yF h,iH,iH]
 ·rw[lP e,lP (Yaf (XH (by rw[z,yF h])))];rfl
def aBe{n j c:Nat}(hc:c<n+1)(hj:j<n+1)(h:c≠j):unsk j c<n:=by
 unfold unsk;split <;> exact Oo
theorem IE:∀{n:Nat}(B:fE) {c:Nat},c<n->∀(a b:Int) (u v:Y1),Y62 n B c (λr=>a*u r+b*v r)=a*Y62 n B c u+b*Y62 n B c v
 | 0,_,_,h,_,_,_,_=>Oo
 | n+1,B,c,hc,a,b,u,v=>by
  show eC (n+1) _=a*eC (n+1) _+b*eC (n+1) _;rw[<-iD,<-iD,<-nI];refine eL λj hj=>?_;by_cases e:c=j
  ·subst e;rw[iH,iH,iH,vH,vH,vH];grind
  ·rw[lP (λz=>e z.symm),lP (λz=>e z.symm),lP (λz=>e z.symm),BL e,BL e,BL e,IE (wo B j) (aBe hc hj e) a b u v];grind
theorem IF:∀{n:Nat}{B:fE}{c:Nat},c+1<n->B c=B (c+1)->det n B=0
 | 0,_,_,h,_=>Oo
 | n+1,B,c,hc,e=>by
  show eC (n+1) _=0;rw[JM (v:=c) (w:=c+1) Oo hc Oo λj hj n1 n2=>?_]
  ·have ew:wo B c=wo B (c+1):=by
    funext i
    show B (skip c i)=B (skip (c+1) i);unfold skip;by_cases h1:i<c
    ·rw[if_pos h1,if_pos Oo]
    ·by_cases h2:i=c
     ·subst h2;rw[if_neg h1,if_pos Oo,e]
     ·rw[if_neg h1,if_neg Oo]
   rw[ew,e,show c+1+n=c+n+1 by exact Oo,XJ];grind
  ·rw[IF (n:=n) (B:=wo B j) (c:=unsk j c) ?_ ?_]
   ·exact Oo
   ·unfold unsk;split <;> exact Oo
   ·show B (skip j (unsk j c))=B (skip j (unsk j c+1));rw[yF (λz=>n1 z.symm),e];congr 1;unfold skip unsk;split <;> split <;> exact Oo
def oN{B:fE}{i j:Nat}{u v:Y1}(h:i≠j):st (st B i u) j v=st (st B j v) i u:=by
 funext k;unfold st
 by_cases e:k=j
 ·have:¬k=i:=λz=>h (z.symm.trans e);rw[Y1i,if_neg this,Y1i]
 ·rw[Y0B];by_cases e2:k=i
  ·rw[if_pos e2,if_pos e2]
  ·rw[if_neg e2,if_neg e2,Y0B]
def xM{n:Nat}(B:fE){c:Nat}(hc:c<n)(u v:Y1):Y62 n B c (λr=>u r+v r)=Y62 n B c u+Y62 n B c v:=by
 have:=IE B hc 1 1 u v;simpa using this
def DJ{n:Nat}(B:fE){c:Nat}(hc:c<n)(a:Int)(u:Y1):Y62 n B c (λr=>a*u r)=a*Y62 n B c u:=by
 have:=IE B hc a 0 u u;simpa using this
def UP{n:Nat}(B:fE){c:Nat}(hc:c+1<n)(u v:Y1):Y2L n B c u (c+1) v=- Y2L n B c v (c+1) u:=by
 have a:∀x:Nat->Int,Y2L n B c x (c+1) x=0:=λx=>IF hc (by rw[lP Oo,iH,iH]);have h:=a λr=>u r+v r;have e:Y2L n B c (λr=>u r+v r) (c+1) (λr=>u r+v r)=Y2L n B c (λr=>u r+v r) (c+1) u+Y2L n B c (λr=>u r+v r) (c+1) v:=xM _ hc _ _;have d:∀y:Nat->Int,Y2L n B c (λr=>u r+v r) (c+1) y=Y2L n B c u (c+1) y+Y2L n B c v (c+1) y:=λy=>by
  rw[oN Oo,oN (i:=c) (j:=c+1) Oo,oN (i:=c) (j:=c+1) Oo];exact xM _ Oo _ _
 rw[e,d,d,a,a]at h;exact Oo
theorem IC{n:Nat}:∀(d:Nat) {B:fE}{i:Nat},i+d+1<n->B i=B (i+d+1)->det n B=0
 | 0,B,i,h,e=>IF h e
 | d+1,B,i,h,e=>by
  have e1:B=st (st B (i+d+1) (B (i+d+1))) (i+d+1+1) (B (i+d+1+1)):=by rw[uD,uD]
  rw[e1,UP B Oo,IC d (B:=st (st B (i+d+1) (B (i+d+1+1))) (i+d+1+1) (B (i+d+1))) (i:=i) Oo ?_]
  ·rfl
  ·rw[lP Oo,lP Oo,lP Oo,iH];exact e
def yU{n:Nat}{B:fE}{i j:Nat}(hi:i<n)(hj:j<n)(h:i≠j)(e:B i=B j):det n B=0:=by
 rcases Nat.lt_or_gt_of_ne h with q | q
 ·obtain⟨d,rfl⟩:∃d,j=i+d+1:=Y2Q (j-i-1);exact IC d hj e
 ·obtain⟨d,rfl⟩:∃d,i=j+d+1:=Y2Q (i-j-1);exact IC d hi e.symm
def aAa{n:Nat}(B:fE){i j:Nat}(hi:i<n)(hj:j<n)(h:i≠j)(u v:Y1):Y2L n B i u j v=- Y2L n B i v j u:=by
 have a:∀x:Nat->Int,Y2L n B i x j x=0:=λx=>yU hi hj h (by rw[lP h,iH,iH]);have e:=a λr=>u r+v r;have d:Y2L n B i (λr=>u r+v r) j (λr=>u r+v r)=Y2L n B i (λr=>u r+v r) j u+Y2L n B i (λr=>u r+v r) j v:=xM _ hj _ _;have c:∀y:Nat->Int,Y2L n B i (λr=>u r+v r) j y=Y2L n B i u j y+Y2L n B i v j y:=λy=>by
  rw[oN h,oN (i:=i) (j:=j) h,oN (i:=i) (j:=j) h];exact xM _ hi _ _
 rw[d,c,c,a,a]at e;exact Oo
theorem RN{n:Nat}(B:fE){c:Nat}(hc:c<n)(k:Y1)(v:Y1F Y1):∀m:Nat,Y62 n B c (λr=>Y4Z m (k j*v j r))=Y4Z m (k j*Y62 n B c (v j))
 | 0=>by
  have:=DJ B hc 0 λ_=>0;simp only[Int.zero_mul]at this;show det n (st B c λ_=>0)=0;exact this
 | m+1=>by
  show det n (st B c λr=>(eC m λj=>k j*v j r)+k m*v m r)=_;rw[xM B hc,RN B hc k v m,DJ B hc];rfl
def unit(k:Nat):Y1:=λr=>if r=k then 1 else 0
def aBm(n:Nat):sgn (n+n)=1:=by unfold sgn;rw[Y4U]
theorem KW:∀n:Nat,det n unit=1
 | 0=>rfl
 | n+1=>by
  show eC (n+1) _=1;rw[jW (w:=n) Oo λj hj ne=>?_]
  ·have e:det n (wo unit n)=det n unit:=yT λi a r _=>by
    show unit (skip n i) r=unit i r;unfold skip;rw[if_pos a]
   rw[e,KW n,aBm];show 1*(if n=n then 1 else 0)*1=(1:Int);rw[if_pos rfl];rfl
  ·show sgn (j+n)*(if n=j then 1 else 0)*_=0;rw[if_neg λz=>ne z.symm];simp
def fac:Y1A
 | 0=>1
 | n+1=>(n+1)*fac n
theorem sL{C:Nat}:∀{n:Nat}{f:Y1},(∀i,i<n->(f i).natAbs<=C)->(eC n f).natAbs<=n*C
 | 0,_,_=>by simp[eC]
 | n+1,f,h=>by
  rw[eC];have h1:=sL (n:=n) λi c=>h i Oo;have a:=h n Oo;have:=Int.natAbs_add_le (eC n f) (f n);rw[Nat.add_mul];exact Oo
def aBn(j:Nat):(sgn j).natAbs=1:=by unfold sgn;split <;> rfl
theorem IG{C:Nat}:∀{n:Nat}{B:fE},(∀j,j<n->∀r,r<n->(B j r).natAbs<=C)->(det n B).natAbs<=fac n*C^n
 | 0,_,_=>by show(1:Int).natAbs<=1*C^0;simp
 | n+1,B,h=>by
  have:=sL (C:=C*(fac n*C^n)) (n:=n+1) (f:=λj=>sgn (j+n)*B j n*det n (wo B j)) λj a=>by
   rw[dQ,dQ,aBn,Nat.one_mul];exact Nat.mul_le_mul (h j a n Oo) (IG λi c r d=>h (skip j i) (by unfold skip;split <;> exact Oo) r Oo)
  refine aK this (Nat.le_of_eq ?_);rw[fac,Nat.pow_succ];rw[Nat.mul_assoc,Nat.mul_comm C,Nat.mul_assoc (fac n)]
end Md
namespace Md
def dot(n:Nat)(x y:Y1):Int:=eC n λk=>x k*y k
structure Bs(n:Nat)(B R:fE)(p:Int):Prop where
 inv:∀r,r<n->∀k,k<n->Y4Z n (B j r*R j k)=if r=k then p else 0
 det:det n B=p
 pos:0<p
section
variable{n:Nat}{B R:fE}{p:Int}
def Bs.expand(h:Bs n B R p)(v:Y1){r:Nat}(hr:r<n):Y4Z n (Y5p j v*B j r)=p*v r:=by
 have c:Y4Z n (Y5p j v*B j r)=eC n λk=>Y4Z n (v k*(B j r*R j k)):=by
  rw[ES];refine eL λj _=>?_;unfold dot;rw[Int.mul_comm,<-iD];exact eL λk _=>by grind
 rw[c,eL (g:=λk=>v k*if r=k then p else 0) λk a=>by rw[iD,h.inv r hr k a],jW hr λk _ ne=>by rw[Y2t Ybd];simp];rw[Ys];grind
def Bs.put(h:Bs n B R p)(C:fE){i:Nat}(hi:i<n)(v:Y1):p*Y8z n C i v=Y4Z n (Y5p j v*Y8z n C i (B j)):=by
 rw[<-DJ C hi,<-RN C hi (λj=>Y5p j v) (λj=>B j)];refine yT λj c r a=>?_;by_cases e:j=i
 ·subst e;rw[iH,iH];exact(h.expand v a).symm
 ·rw[lP e,lP e]
def FR{i j:Nat}(hi:i<n)(hj:j<n)(ne:j≠i):Y8z n B i (B j)=0:=yU hi hj (λz=>Ybd) (by rw[iH,lP ne])
def Bs.step_det(h:Bs n B R p){i:Nat}(hi:i<n)(v:Y1):Y8z n B i v=Y5p i v:=by
 have e:=h.put B hi v;rw[jW hi λj c ne=>by rw[FR hi c ne];simp]at e;rw[uD,h.det]at e;have a:p≠0:=by have:=h.pos;exact Oo
 rw[Int.mul_comm]at e;exact Int.eq_of_mul_eq_mul_right a e
def xL{x:Y1}{k:Nat}(hk:k<n):dot n x (unit k)=x k:=by
 unfold dot;rw[jW hk λj _ ne=>by unfold unit;rw[if_neg ne];simp];unfold unit;rw[Ys];simp
def Bs.row(h:Bs n B R p){i k:Nat}(hi:i<n)(hk:k<n):R i k=Y8z n B i (unit k):=by rw[h.step_det hi,xL hk]
def xE(n:Nat)(B R:fE)(o:Nat)(a:Y1):fE:=λi k=>if i=o then R o k else Y8z n (st B o a) i (unit k)
def Bs.exch(h:Bs n B R p){o:Nat}(ho:o<n)(a:Y1){i k:Nat}(hi:i<n)(hk:k<n)(ne:i≠o):p*xE n B R o a i k=R i k*Y2T-R o k*Y2z:=by
 unfold xE;rw[if_neg ne,h.put (st B o a) hi (unit k),JM hi ho ne λj d c g=>?_]
 ·rw[xL hk,xL hk];have l:st (st B o a) i (B i)=st B o a:=by
   rw[oN (λz=>Ybd),uD]
  have e:Y8z n (st B o a) i (B o)=- Y8z n B i a:=by
   rw[aAa B ho hi (λz=>Ybd),uD]
  rw[l,e,h.step_det ho,h.step_det hi];grind
 ·rw[yU hi d (λz=>c z.symm) (by rw[iH,lP c,lP g])];simp
def Bs.next(h:Bs n B R p){o:Nat}(ho:o<n){a:Y1}(hs:0<Y2T):Bs n (st B o a) (xE n B R o a) (Y2T):=by
 refine⟨λr d k g=>?_,h.step_det ho a,hs⟩;have i:p≠0:=by have:=h.pos;exact Oo
 refine Int.eq_of_mul_eq_mul_right i ?_;rw[Int.mul_comm,<-iD];have c:∀j,j<n->p*(st B o a j r*xE n B R o a j k)=Y2T*(B j r*R j k)-R o k*(Y5p j a*B j r)+if j=o then p*a r*R o k else 0:=λj l=>by
  by_cases e:j=o
  ·subst e;rw[iH,Ys];have:xE n B R j a j k=R j k:=Ys;rw[this];grind
  ·rw[lP e,Y0B];have:=h.exch ho a l g e;have m:p*(B j r*xE n B R o a j k)=B j r*(p*xE n B R o a j k):=by grind
   rw[m,this];grind
 rw[eL c];have s:Y4Z n (Y2T*(B j r*R j k)-R o k*(Y5p j a*B j r)+if j=o then p*a r*R o k else 0)=Y2T*Y4Z n (B j r*R j k)+(-(R o k))*Y4Z n (Y5p j a*B j r)+Y4Z n (if j=o then p*a r*R o k else 0):=by
  rw[<-iD,<-iD,<-nI,<-nI];exact eL λj _=>by grind
 rw[s,h.inv r d k g,h.expand a d,jW ho (f:=λj=>if j=o then p*a r*R o k else 0) λj _ ne=>if_neg ne,Ys];by_cases e:r=k
 ·rw[Y1i,Y1i];grind
 ·rw[Y0B,Y0B];grind
def aCI(n:Nat):Bs n unit unit 1:=by
 refine⟨λr a k c=>?_,KW n,Dd⟩;rw[jW a λj _ ne=>by
  show(if r=j then 1 else 0)*_=(0:Int);rw[Y2t Ybd];simp]
 show(if r=r then(1:Int) else 0)*(if k=r then 1 else 0)=_;rw[Ys];by_cases e:r=k
 ·rw[Y1i,if_pos e.symm];rfl
 ·rw[Y0B,Y2t Y8K];rfl
end
end Md
namespace Md
def lexp(m:Nat)(d:Y1):Prop:=∃j,j<m/\(∀i,i<j->d i=0)/\0<d j
section
variable{m:Nat}{d e:Y1}
def gL(h:∀i,i<m->d i=e i)(x:Y4k d):Y4k e:=by
 obtain⟨j,a,z,p⟩:=x;exact⟨j,a,λi c=>by rw[<-h i Oo];exact z i c,by rw[<-h j a];exact p⟩
def KI(x:Y4k d)(y:Y4k e):Y91 (d i+e i):=by
 obtain⟨j,h,g,p⟩:=x;obtain⟨k,l,c,n⟩:=y;rcases Nat.lt_trichotomy j k with q | q | q
 ·exact⟨j,h,λi a=>by show d i+e i=0;rw[g i a,c i Oo];rfl,by show 0<d j+e j;rw[c j q];exact Oo⟩
 ·subst q;exact⟨j,h,λi a=>by show d i+e i=0;rw[g i a,c i a];rfl,by show 0<d j+e j;exact Oo⟩
 ·exact⟨k,l,λi a=>by show d i+e i=0;rw[g i Oo,c i a];rfl,by show 0<d k+e k;rw[g k q];exact Oo⟩
def tG{c:Int}(hc:0<c)(x:Y4k d):Y91 (c*d i):=by
 obtain⟨j,a,z,p⟩:=x;exact⟨j,a,λi e=>by show c*d i=0;rw[z i e];simp,Int.mul_pos hc p⟩
def ZG{c:Int}(hc:0<c)(x:Y91 (c*d i)):Y4k d:=by
 obtain⟨j,a,z,p⟩:=x;refine Y2X j a (λi e=>?_)
 ·have:=z i e;rcases Int.mul_eq_zero.mp this with q | q
  ·exact Oo
  ·exact q
 ·have p:0<c*d j:=p;rcases Int.lt_trichotomy (d j) 0 with q | q | q
  ·have:=Int.mul_neg_of_pos_of_neg hc q;exact Oo
  ·rw[q]at p;simp at p
  ·exact q
theorem CO:∀(m:Nat) (d:Y1),Y4k d\/(∀i,i<m->d i=0)\/Y91 (- d i)
 | 0,d=>.inr (.inl λi hi=>Oo)
 | m+1,d=>by
  rcases CO m d with h | h | h
  ·obtain⟨j,hj,z,p⟩:=h;exact .inl ⟨j,Oo,z,p⟩
  ·rcases Int.lt_trichotomy (d m) 0 with q | q | q
   ·exact .inr (.inr ⟨m,Oo,λi hi=>by show-d i=0;rw[h i hi];rfl,by show 0 < - d m;exact Oo⟩)
   ·refine .inr (.inl λi hi=>?_);rcases(show i<m\/i=m by exact Oo)with r | r
    ·exact h i r
    ·rw[r];exact q
   ·exact .inl ⟨m,Oo,h,q⟩
  ·obtain⟨j,hj,z,p⟩:=h;exact .inr (.inr ⟨j,Oo,z,p⟩)
def ZF(x:Y4k d):¬Y91 (- d i):=λ⟨k,h,a,c⟩=>by
 obtain⟨j,g,e,l⟩:=x;have a:∀i,i<k->- d i=0:=a;have c:0 < - d k:=c;rcases Nat.lt_trichotomy j k with q | q | q
 ·have:=a j q;exact Oo
 ·subst q;exact Oo
 ·have:=e k q;exact Oo
def lexn(m:Nat)(d:Y1):Prop:=Y4k d\/∀i,i<m->d i=0
def KK{c:Int}(hc:0<=c)(x:lexn m d):lexn m λi=>c*d i:=by
 rcases Int.lt_or_eq_of_le hc with q | q
 ·rcases x with x | x
  ·exact .inl (tG q x)
  ·exact .inr λi a=>by show c*d i=0;rw[x i a];simp
 ·exact .inr λi a=>by show c*d i=0;rw[<-q];simp
def FJ(x:Y4k d)(y:lexn m e):Y91 (d i+e i):=by
 rcases y with y | y
 ·exact KI x y
 ·exact gL (λi a=>by rw[y i a];exact Oo) x
def KJ(h:¬Y91 (- d i)):lexn m d:=by
 rcases CO m d with q | q | q
 ·exact .inl q
 ·exact .inr q
 ·exact absurd q h
end
def rad(b:Nat):Y1F (Y1A->Nat)
 | 0,_=>0
 | m+1,v=>rad b m v*b+v m
theorem EZ{b:Nat}:∀{m:Nat}{v w:Y1A},(∀i,i<m->v i=w i)->rad b m v=rad b m w
 | 0,_,_,_=>rfl
 | m+1,v,w,h=>by rw[rad,rad,EZ (m:=m) λi hi=>h i Oo,h m Oo]
theorem YA{b:Nat}:∀{m:Nat}{v w:Y1A},(∀i,i<m->v i<b/\w i<b)->(∃j,j<m/\(∀i,i<j->v i=w i)/\v j<w j)->rad b m v<rad b m w
 | 0,_,_,_,⟨j,hj,_⟩=>Oo
 | m+1,v,w,hb,⟨j,hj,z,p⟩=>by
  rw[rad,rad];rcases(show j<m\/j=m by exact Oo)with q | q
  ·have ih:=YA (m:=m) (λi d=>hb i Oo) ⟨j,q,z,p⟩;have c:=hb m Oo;have a:(rad b m v+1)*b<=rad b m w*b:=bJ _ ih;rw[Nat.add_mul]at a;exact Oo
  ·subst q;rw[EZ (m:=j) z];exact Oo
theorem YB{b:Nat}:∀{m:Nat}{v:Y1A},(∀i,i<m->v i<b)->rad b m v<b^m
 | 0,_,_=>by simp[rad]
 | m+1,v,h=>by
  have h1:=YB (m:=m) λi d=>h i Oo;have c:=h m Oo;rw[rad,Nat.pow_succ];have a:(rad b m v+1)*b<=b^m*b:=bJ _ h1;rw[Nat.add_mul]at a;exact Oo
theorem RI:∀{n p:Nat},0<p->p<=n->p ∣ fac n
 | 0,p,h,h'=>Oo
 | n+1,p,h,h'=>by
  rw[fac];rcases(show p<=n\/p=n+1 by exact Oo)with q | q
  ·exact Nat.dvd_trans (RI h q) (Nat.dvd_mul_left _ _)
  ·rw[q];exact mF _ _
theorem BE:∀n,0<fac n
 | 0=>Dd
 | n+1=>dU Oo (BE n)
def msr(Z P m:Nat)(z:Y1)(p:Int):Nat:=rad (2*(Z*fac P)+1) m λi=>(z i*((fac P:Int)/p)+(Z*fac P:Nat)).toNat
def vO{Z P:Nat}{x p:Int}(hx:x.natAbs<=Z)(p0:0<p)(p1:p<=P):∃q:Int,(fac P:Int)=p*q/\(fac P:Int)/p=q/\0<q/\(0<=x*q+(Z*fac P:Nat))/\x*q+(Z*fac P:Nat)<(2*(Z*fac P)+1:Nat):=by
 obtain⟨a,c⟩:=RI (n:=P) (p:=p.toNat) Oo Oo;have d:((p.toNat:Nat):Int)=p:=Int.toNat_of_nonneg Oo;have e:(fac P:Int)=p*(a:Int):=by rw[<-d,<-Int.natCast_mul,<-c]
 have h:=BE P;have j:0<a:=by
  rcases Nat.eq_zero_or_pos a with z | z
  ·rw[z]at c;exact Oo
  ·exact z
 have g:a<=fac P:=by rw[c];exact Y5Z Oo
 refine⟨(a:Int),e,?_,Oo,?_⟩
 ·rw[e];exact Y5e
 ·have i:(x*(a:Int)).natAbs<=Z*fac P:=by
   rw[dQ];exact Nat.mul_le_mul hx Oo
  exact Oo
def aFi{Z P m:Nat}{z z':Y1}{p p':Int}(hz:∀i,i<m->(z i).natAbs<=Z)(hz':∀i,i<m->(z' i).natAbs<=Z)(p0:0<p)(p1:p<=P)(q0:0<p')(q1:p'<=P)(h:Y91 (p' * z i-p*z' i)):msr Z P m z' p' < msr Z P m z p:=by
 refine YA (Yb3) ?_
 ·obtain⟨q,e,l,C,B,I⟩:=vO (hz i d) p0 p1;obtain⟨s,J,a,D,G,b2⟩:=vO (hz' i d) q0 q1;rw[l,a];exact Oo
 ·obtain⟨j,n,M,L⟩:=h;have g:∀i,i<m->∃c:Int,0<c/\c*(p' * z i-p*z' i)=p*p' * ((z i*((fac P:Int)/p))-z' i*((fac P:Int)/p')):=λi d=>by
   obtain⟨q,e,l,C,B,I⟩:=vO (hz i d) p0 p1;obtain⟨s,J,a,D,G,b2⟩:=vO (hz' i d) q0 q1;refine Y05 (fac P:Int) (by have:=BE P;exact Oo);rw[l,a,Int.mul_sub,Int.mul_sub];have N:(fac P:Int)*(p' * z i)=p*p' * (z i*q):=by rw[e];grind
   have O:(fac P:Int)*(p*z' i)=p*p' * (z' i*s):=by rw[J];grind
   rw[N,O]
  have w:0<p*p':=Int.mul_pos p0 q0;refine Y2X j n Yb3
  ·obtain⟨c,A,e⟩:=g i Oo;have y:p' * z i-p*z' i=0:=M i d;rw[y,Int.mul_zero]at e;rcases Int.mul_eq_zero.mp e.symm with r | r
   ·exact Oo
   ·show(z' i*((fac P:Int)/p')+(Z*fac P:Nat)).toNat=(z i*((fac P:Int)/p)+(Z*fac P:Nat)).toNat;rw[show z' i*((fac P:Int)/p')=z i*((fac P:Int)/p)by exact Oo]
  ·obtain⟨c,A,e⟩:=g j n;have u:=Int.mul_pos A L;rw[show c*(p' * z j-p*z' j)=p*p' * (z j*((fac P:Int)/p)-z' j*((fac P:Int)/p'))from e]at u;have hd:0<z j*((fac P:Int)/p)-z' j*((fac P:Int)/p'):=by
    rcases Int.lt_trichotomy (z j*((fac P:Int)/p)-z' j*((fac P:Int)/p')) 0 with r | r | r
    ·have:=Int.mul_neg_of_pos_of_neg w r;exact Oo
    ·rw[r]at u;simp at u
    ·exact r
   obtain⟨q,R,l,C,B,I⟩:=vO (hz j n) p0 p1;obtain⟨s,S,a,D,G,b2⟩:=vO (hz' j n) q0 q1;show(z' j*((fac P:Int)/p')+(Z*fac P:Nat)).toNat<(z j*((fac P:Int)/p)+(Z*fac P:Nat)).toNat;rw[l,a]at hd ⊢;exact Oo
end Md
namespace Md
def rho(n:Nat)(b:Y1)(R:fE)(i k:Nat):Int:=match k with
 | 0=>dot n (R i) b
 | k+1=>R i k
structure Mst(n:Nat)(b:Y1)(B R:fE)(p:Int):Prop where
 bs:Bs n B R p
 lex:∀i,i<n->lexp (n+1) (rho n b R i)
section
variable{n:Nat}{b:Y1}{B R:fE}{p:Int}
def RK(x y:Y1)(c d:Int)(v:Y1):dot n (λk=>c*x k-d*y k) v=c*dot n x v-d*dot n y v:=by
 unfold dot;have:eC n (λk=>(c*x k-d*y k)*v k)=eC n (λk=>c*(x k*v k)+(-d)*(y k*v k)):=eL λk _=>by grind
 rw[this,nI,iD,iD];grind
def aCk(c:Int)(x v:Y1):dot n (λk=>c*x k) v=c*dot n x v:=by
 unfold dot;rw[<-iD];exact eL λk _=>by grind
def FP{x y v:Y1}(h:∀k,k<n->x k=y k):dot n x v=dot n y v:=by
 unfold dot;exact eL λk a=>by rw[h k a]
def Bs.rho_exch(h:Bs n B R p)(b:Y1){o:Nat}(ho:o<n)(a:Y1){i k:Nat}(hi:i<n)(hk:k<n+1)(ne:i≠o) :
  p*rho n b (xE n B R o a) i k=Y2T*Y44 i-Y2z*Y44 o:=by
 cases k with
 | zero =>
  show p*dot n (xE n B R o a i) b=Y2T*Y5p i b-Y2z*Y5p o b;rw[<-aCk,<-RK];refine FP λk hk=>?_;rw[h.exch ho a hi hk ne];grind
 | succ k =>
  show p*xE n B R o a i k=Y2T*R i k-Y2z*R o k;rw[h.exch ho a hi Oo ne];grind
def HE(b:Y1)(o:Nat)(a:Y1)(k:Nat):rho n b (xE n B R o a) o k=Y44 o:=by
 have e:xE n B R o a o=R o:=by funext k;exact Ys
 cases k with
 | zero=>show dot n (xE n B R o a o) b=Y5p o b;rw[e]
 | succ k=>show xE n B R o a o k=R o k;rw[e]
def Bs.dot_col(h:Bs n B R p){i j:Nat}(hi:i<n)(hj:j<n):Y5p i (B j)=if i=j then p else 0:=by
 rw[<-h.step_det hi];by_cases e:i=j
 ·subst e;rw[uD,Ys,h.det]
 ·rw[Y0B];exact FR hi hj λz=>Y8K
def Bs.indep(h:Bs n B R p){i o:Nat}(hi:i<n)(ho:o<n)(ne:i≠o){c d:Int}(hc:c≠0):¬∀k,k<n->c*R i k-d*R o k=0:=λz=>by
 have e:=RK (n:=n) (R i) (R o) c d (B i);rw[h.dot_col hi hi,h.dot_col ho hi,Ys,Y2t Ybd]at e;have a:dot n (λk=>c*R i k-d*R o k) (B i)=0:=by
  rw[FP (y:=Y3r) λk j=>z k j];unfold dot;rw[eL (g:=Y3r) λk _=>Int.zero_mul _,yC]
 rw[a]at e;have l:=h.pos;have:c*p=0:=Oo;rcases Int.mul_eq_zero.mp this with q | q
 ·exact hc q
 ·exact Oo
def aAH(n:Nat)(b:Y1)(R:fE)(a:Y1)(o:Nat):Prop:=∀i,i<n->0<Y2z->¬lexp (n+1) λk=>Y2z*Y44 o-Y2T*Y44 i
theorem Mst.next(h:Mst n b B R p){o:Nat}(ho:o<n){a:Y1}(hs:0<Y2T)(hl:aAH n b R a o):Mst n b (st B o a) (xE n B R o a) (Y2T):=by
 refine⟨h.bs.next ho hs,λi g=>?_⟩;by_cases e:i=o
 ·subst e;exact Yd0 ((HE b i a k).symm) (h.lex i g)
 ·refine ZG h.bs.pos (gL (λk j=>(h.bs.rho_exch b ho a g j e).symm) ?_);rcases Int.lt_or_le 0 (Y2z)with q | q
  ·have nn:=hl i g q;rcases CO (n+1) (λk=>Y2T*Y44 i-Y2z*Y44 o)with t | t | t
   ·exact t
   ·exfalso;exact h.bs.indep g ho e (c:=Y2T) (d:=Y2z) Oo λk j=>t (k+1) Oo
   ·exact absurd (Yd0 (by show-(_-_)=_-_;exact Oo) t) nn
  ·have:=FJ (tG hs (h.lex i g)) (KK (c:=- Y2z) Oo (.inl (h.lex o ho)));exact Yd0 (by show _ + - Y2z*Y44 o=_;grind) this
def ZH{ri ro rj:Y1}{m:Nat}{si so sj:Int}(hi:0<si)(ho:0<so)(hj:0<sj)(h1:Y4k (λk=>si*ro k-so*ri k))(h2:¬Y4k (λk=>sj*ro k-so*rj k)):¬Y4k (λk=>sj*ri k-si*rj k):=λd=>by
 have e:lexn m λk=>so*rj k-sj*ro k:=KJ λq=>h2 (Yd0 (by show-(_-_)=_-_;exact Oo) q);have:=FJ (tG hj h1) (KK (c:=si) Oo e);have a:=tG ho d;exact ZF this (Yd0 (by show _=- (sj*(si*ro k-so*ri k)+si*(so*rj k-sj*ro k));grind) a)
def Bs.some(h:Bs n B R p)(hB:∀j,j<n->∀r,r<n->0<=B j r){a:Y1}{r:Nat}(hr:r<n)(ha:0<a r):∃i,i<n/\0<Y2z:=by
 refine cF λc=>?_;have all:∀i,i<n->Y2z<=0:=λi d=>Int.not_lt.mp λz=>c ⟨i,d,z⟩;have e:=h.expand a hr;have le:∀m,m<=n->Y4Z m (Y5p j a*B j r)<=0:=by
  intro m
  induction m with
  | zero=>intro _;exact Int.le_refl 0
  | succ m ih =>
   intro l;rw[eC];have s:=ih Oo;have g:=Int.mul_nonneg (a:=- Y5p m a) (by have:=all m Oo;exact Oo) (hB m Oo r hr);have u:- Y5p m a*B m r=- (Y5p m a*B m r):=by grind
   exact Oo
 have:=le n (Yl);have:=YfR ha;exact Oo
def zet(n:Nat)(b:Y1)(R:fE)(c:Y1)(k:Nat):Int:=Y3H (c i*Y44 i)
def sc(c:Y1)(o:Nat)(x:Int):Y1:=λi=>if i=o then x else c i
def Bs.zet_exch(h:Bs n B R p)(b:Y1){o:Nat}(ho:o<n)(a c:Y1)(x:Int){k:Nat}(hk:k<n+1) :
  p*zet n b (xE n B R o a) (sc c o x) k=Y2T*zet n b R c k-(Y3H (c i*Y2z)-p*x)*Y44 o:=by
 unfold zet;rw[<-iD];have d:∀i,i<n->p*(sc c o x i*rho n b (xE n B R o a) i k)=Y2T*(c i*Y44 i)+(- Y44 o)*(c i*Y2z)+if i=o then p*x*Y44 o else 0:=λi j=>by
  by_cases e:i=o
  ·subst e;rw[Ys,HE];unfold sc;rw[Ys];grind
  ·rw[Y0B];unfold sc;rw[Y0B];have:=h.rho_exch b ho a j hk e;have g:p*(c i*rho n b (xE n B R o a) i k)=c i*(p*rho n b (xE n B R o a) i k):=by grind
   rw[g,this];grind
 rw[eL d,nI,nI,iD,iD,jW ho (f:=λi=>if i=o then p*x*Y44 o else 0) λi _ ne=>if_neg ne,Ys];grind
def Mst.cheaper(h:Mst n b B R p){o:Nat}(ho:o<n){a c:Y1}{x:Int}(hd:p*x<Y3H (c i*Y2z)):lexp (n+1) λk=>Y2T*zet n b R c k-p*zet n b (xE n B R o a) (sc c o x) k:=by
 refine gL (λk d=>?_) (tG (c:=Y3H (c i*Y2z)-p*x) Oo (h.lex o ho));show(Y3H (c i*Y2z)-p*x)*Y44 o=Y2T*zet n b R c k-p*zet n b (xE n B R o a) (sc c o x) k;rw[h.bs.zet_exch b ho a c x d];exact Oo
def Bs.size(h:Bs n B R p){C:Nat}(hB:∀j,j<n->∀r,r<n->(B j r).natAbs<=C)(c1:1<=C):p.natAbs<=fac n*C^n/\∀i,i<n->∀k,k<n->(R i k).natAbs<=fac n*C^n:=by
 refine⟨by rw[<-h.det];exact IG hB,λi c k g=>?_⟩;rw[h.row c g];refine IG λj a r d=>?_;by_cases e:j=i
 ·subst e;rw[iH];unfold unit;split
  ·exact c1
  ·exact Y0L
 ·rw[lP e];exact hB j a r d
def RM{x y:Y1}{C D:Nat}(hx:∀k,k<n->(x k).natAbs<=C)(hy:∀k,k<n->(y k).natAbs<=D):(dot n x y).natAbs<=n*(C*D):=by
 unfold dot;refine sL λk a=>?_;rw[dQ];exact Nat.mul_le_mul (hx k a) (hy k a)
end
end Md
namespace Md
open Mf
def qQ(n:Nat)(f:Y1):((eC n f:Int):Rat)=Y4m n (f i:Rat):=by
 induction n with
 | zero=>rfl
 | succ n ih=>rw[eC,eO,Rat.intCast_add,ih]
section
variable{n:Nat}{b:Y1}{B R:fE}{p:Int}
def rat(n:Nat)(R:fE)(c:Y1)(k:Nat):Int:=Y3H (c i*R i k)
def BI(b:Y1)(R:fE)(c:Y1):zet n b R c 0=dot n (rat n R c) b:=by
 show Y3H (c i*Y5p i b)=eC n λk=>rat n R c k*b k;have e:∀k,rat n R c k*b k=Y3H (c i*(R i k*b k)):=λk=>by
  unfold rat;rw[Int.mul_comm,<-iD];exact eL λi _=>by grind
 rw[eL λk _=>e k,ES];refine eL λi _=>?_;rw[iD];rfl
def aBX(R:fE)(c a:Y1):Y3H (c i*Y2z)=dot n (rat n R c) a:=by
 have:=BI (n:=n) a R c;exact this
def Mst.share(h:Mst n b B R p){i:Nat}(hi:i<n):0<=Y5p i b:=by
 obtain⟨j,a,z,q⟩:=h.lex i hi;cases j with
 | zero=>exact Int.le_of_lt q
 | succ j=>exact Int.le_of_eq (z 0 Oo).symm
def Bs.ends(h:Bs n B R p){r:Nat}(hr:r<n):Y3H (Y5p i b*B i r)=p*b r:=h.expand b hr
def KF(n:Nat){y:Y1}{p:Int}{b:Y1}(hy:∀w,w<n->y w<=0)(hb:b n=1){x:Rat}{α:Yx}(hα:∀w,w<n->α w<=(b w:Rat))(hw:(y n:Rat)<=(p:Rat)*x+Y9b n (-(y w:Rat)*α w)):((dot (n+1) y b:Int):Rat)<=(p:Rat)*x:=by
 have e:((dot (n+1) y b:Int):Rat)=Y9b n ((y w:Rat)*(b w:Rat))+(y n:Rat):=by
  show(((eC (n+1) λk=>y k*b k):Int):Rat)=_;rw[eC,Rat.intCast_add,qQ,hb,Int.mul_one];congr 1;exact Y7P (by rw[Rat.intCast_mul])
 have le:Y9b n ((y w:Rat)*(b w:Rat))+Y9b n (-(y w:Rat)*α w)<=0:=by
  rw[<-nH];have:=mK (n:=n) (f:=λw=>(y w:Rat)*(b w:Rat) + -(y w:Rat)*α w) (g:=Y3r) λw hw=>by
   have c:(0:Rat)<=-(y w:Rat):=by
    have:=Rat.intCast_le_intCast.mpr (hy w hw);grind
   have a:=hα w hw;have d:=Rat.mul_le_mul_of_nonneg_left a c;grind
  rw[iS]at this;exact this
 rw[e];grind
def aB7(n:Nat){y:Y1}{b:Y1}(hy:∀w,w<n->y w<=0)(hb:b n=1)(hl:lexp (n+2) λk=>match k with | 0=>dot (n+1) y b | k+1=>y k){α:Yx}(hα:∀w,w<n->α w<=(b w:Rat))(hw:(y n:Rat)<=Y9b n (-(y w:Rat)*α w)):False:=by
 have d:=KF n (p:=0) (x:=0) hy hb hα (by rw[Rat.mul_zero,Rat.zero_add];exact hw);rw[Rat.mul_zero]at d;have l:dot (n+1) y b<=0:=Rat.intCast_le_intCast.mp (by have a:((0:Int):Rat)=0:=rfl;rw[a];exact d);obtain⟨j,i,z,q⟩:=hl;cases j with
 | zero=>have q:0<dot (n+1) y b:=q;exact Oo
 | succ j =>
  have q:0<y j:=q;rcases(show j<n\/j=n by exact Oo)with r | r
  ·have:=hy j r;exact Oo
  ·subst r;have h:∀w,w<j->y w=0:=λw c=>z (w+1) Oo;have e:Y9b j (-(y w:Rat)*α w)=0:=by
    rw[bP (g:=Y3r) λw c=>by
     rw[h w c];have a:((0:Int):Rat)=0:=rfl;rw[a];grind,iS]
   rw[e]at hw;have a:((0:Int):Rat)=0:=rfl;rw[<-a]at hw;have:=Rat.intCast_le_intCast.mp hw;exact Oo
end
end Md
namespace L2
open PySem PySem.Spec PyProof.Rows
def aGn:TS:=Y7x
def PC{X:Cx}{st:Stmt}:IY X st aGn:=⟨λ_ _ _ _ _ _ h=>h.elim⟩
def qU.ext{b:Bool}{h h':Heap}{i l c:Addr}{k:Nat}(x:qU b h i l k)(s:Heap.ExtBut c h h')(n:i≠c):qU b h' i l k:=x.at λo e=>s i o n e
section
variable{prog:Program}{w:World}{A:Around}{E:Ya}{s:Shared}
def OB{b:Bool}{e it l:Addr}{i:Nat}{n:Int}{items:Ai}{x old:Value}{Q:Ya}(he:Y8H s.heap e it n)(hit:qU b s.heap it l i)(hl:Y1Z b l items)(hx:Yae i=Y7)(hne:e≠it)
  (hQ:∀h' t,IsEnumOut h' e it (n+1) x s.heap.objs.size->qU b h' it l (i+1)->Yfv (some { cls:=.type "tuple",data:=.seq #[.int n t,x] })->(∀c o,c≠e->c≠it->Y4w->Y3P c)->Yap ({ s with heap:=h',toks:=s.toks+1 })) :
  wpAny (model prog w) A (Builtin.«enumerate.__next__» ⟨[.ref e],[]⟩) (λfin s'=>∃v,fin=Yeu v/\Q v s') E s:=by
 obtain⟨I,g,d,m,J⟩:=s;show Y27 (Y5r e 2 >>= _);refine Y6C he Y4Y;refine Yes hit hl hx (λG L h=>?_);replace h:Heap.SameBut it I G:=h;have B:Y8H G e it n:=(h.2 e hne).trans he;show Y5t (Y5r e 3 >>= _) ⟨G,g,d,m,J⟩;refine Y6C B (rawInt n);show Y5t (Y5r e 4 >>= _) ⟨G,g,d,m,J⟩;refine Y6C B .none;show Y5t (mkInt n >>= _) ⟨G,g,d,m,J⟩;refine wpAny_bind (wpAny_mkInt ?_);show Y5t (setField (.ref e) 3 (rawInt (n+1)) >>= _) ⟨G,g,d,m+1,J⟩;refine Y9d B (by simp) (λW D j=>?_);replace j:YaK G W:=j;replace D:Y8H W e it (n+1):=D;show Y5t (setField (.ref e) 4 .none >>= _) ⟨W,g,d,m+1,J⟩;refine Y9d D (by simp) (λM z p=>?_);replace p:YaK W M:=p;replace z:Y8H M e it (n+1):=z;show Y5t (newTuple [.int n m,x] >>= _) ⟨M,g,d,m+1,J⟩;refine wpAny_bind (wpAny_newTuple ?_);have C:Y8H (M.push { cls:=.type "tuple",data:=.seq #[.int n m,x] }) e it (n+1):=Y0Q z;generalize hh₄:M.push { cls:=.type "tuple",data:=.seq #[.int n m,x] }=U at C;have T:M.objs.size=I.objs.size:=by rw[p.1,j.1,h.1]
 have N:e<I.objs.size:=bK he;have α:U.get? I.objs.size=some { cls:=.type "tuple",data:=.seq #[.int n m,x] }:=by rw[<-hh₄,<-T];exact Y1u
 have δ:∀c o,c≠e->c≠it->I.get? c=Y9->U.get? c=Y9:=λc o a P ε=>by rw[<-hh₄];exact Y0Q (p.extBut c o a (j.extBut c o a (h.extBut c o P ε)))
 have X:qU b U it l (i+1):=by rw[<-hh₄];exact((L.ext j.extBut (Ne.symm hne)).ext p.extBut (Ne.symm hne)).at λo ζ=>Y0Q ζ
 show Y5t (YeY e >>= _) ⟨U,g,d,m+1,J⟩;rw[T];clear hh₄ z p D j B h L T M W G;refine Y4K;unfold Builtin.SmallTypes.ownedTupleIsFree;refine wpAny_bind (wpAny_field C rfl (x:=.none) rfl Y2e);simp only[if_true];refine Y9g ?_;refine Y6C C old;refine Y9d C (by simp) (λZ O u=>?_);replace u:YaK U Z:=u;replace O:IsEnum Z e it (n+1) x:=O;show Y5t (Builtin.SmallTypes.ownedTupleHandOut (.ref e) (.ref I.objs.size) >>= _) ⟨Z,g,d,m+1,J⟩;refine Y4K;unfold Builtin.SmallTypes.ownedTupleHandOut;refine Y9d O (by simp) (λβ R r=>?_);replace r:YaK Z β:=r;replace R:IsEnumOut β e it (n+1) x I.objs.size:=R;refine wpAny_setField_rec R (by simp) λγ S y=>?_;replace y:YaK β γ:=y;replace S:IsEnumOut γ e it (n+1) x I.objs.size:=S;refine Ydn (wpAny_pure (Y5 (hQ γ m S ?_ ?_ ?_)))
 ·exact((X.ext u.extBut (Ne.symm hne)).ext r.extBut (Ne.symm hne)).ext y.extBut (Ne.symm hne)
 ·exact y.extBut _ _ (Yg3) (r.extBut _ _ (Yg3) (u.extBut _ _ (Yg3) α))
 ·exact λc o a P ε=>y.extBut c o a (r.extBut c o a (u.extBut c o a (δ c o a P ε)))
def OA{b:Bool}{e it l:Addr}{i:Nat}{n:Int}{items:Ai}{x old:Value}{Q:Yac}(he:Y8H s.heap e it n)(hit:qU b s.heap it l i)(hl:Y1Z b l items)(hx:Yae i=Y7)(hne:e≠it)
  (hQ:∀h' t,IsEnumOut h' e it (n+1) x s.heap.objs.size->qU b h' it l (i+1)->Yfv (some { cls:=.type "tuple",data:=.seq #[.int n t,x] })->(∀c o,c≠e->c≠it->Y4w->Y3P c)->Q (Y3 s.heap.objs.size) { s with heap:=h',toks:=s.toks+1 }) :
  Ybj e:=by
 have d:Y8p e "enumerate" := Y0V he;unfold pyNext;refine Yal (Y8r "__next__" d F.slot_enumerate_next F.slot_enumerate_next d F.entry_enumerate_next ?_ (F.args_enumerate_next_1 _));exact OB he hit hl hx hne λh' t a b c k=>wpAny_pure (hQ h' t a b c k)
def NZ{b:Bool}{e it l:Addr}{i:Nat}{n:Int}{items:Ai}{old:Value}{Q:Yac}(hh:Y5D)(he:Y8H s.heap e it n)(hit:qU b s.heap it l i)(hl:Y1Z b l items)(hx:Yae i=none)
  (hQ:∀h',YdN it h'->Q none { s with heap:=h' }):Ybj e:=by
 have d:Y8p e "enumerate" := Y0V he;unfold pyNext;refine Yal (Y8r "__next__" d F.slot_enumerate_next F.slot_enumerate_next d F.entry_enumerate_next ?_ (F.args_enumerate_next_1 _));show Y27 (Y5r e 2 >>= _);refine Y6C he Y4Y;refine wpAny_bind (NM hh hit hl hx λh' x c a=>?_);obtain⟨o,g,h⟩:=a;refine wpAny_bind (Yf1 "StopIteration" true (Y1v g h) ?_);exact wpAny_pure (hQ _ c)
abbrev enO(it:Addr)(n:Int):Obj:={ cls:=.type "enumerate",data:=.fields #[.none,.bool false,.ref it,rawInt n,.none,.none] }
def aFk(b:Bool)(l:Addr)(xs:Ai):Meets (Builtin.«enumerate.__new__» ⟨[.type "enumerate",Y1j],[]⟩) (λ_ R s=>Y1Z b l xs/\R (Y67 (.ref (YfT b l).objs.size)) { s with heap:=(s.heap.push (itO b l)).push (enO s.heap.objs.size 0) }) :=
 .of_wp λa w A R s h=>by
  obtain⟨j,g,d,m,n⟩:=s;obtain⟨p,h⟩:=h;have i:=sub_enumerate;have e:mU b (Shared.heap ⟨j,g,d,m,n⟩) l xs:=p
  wp_walk
  refine wpAny_stack_any λst=>Y2e;split
  ·rename_i c _ _ _ _ _
   cases(c == Value.type "enumerate") <;> (wp_walk using QW e) <;> exact Y5 h
  ·wp_walk using QW e
   exact Y5 h
end
section
variable{prog:Program}{w:World}{A:Around}{E:Ya}{s:Shared}
structure EAt(b:Bool)(e it l:Addr)(n:Int)(k:Nat)(h:Heap):Prop where
 e:∃old,Y8H h e it (n+k)
 i:qU b h it l k
def aG6{b:Bool}{l:Addr}{xs:Ai}{Q:Ya}(hl:Y1Z b l xs)
  (h:∀h',EAt b (Y24) s.heap.objs.size l 0 0 h'->(∀c o,Y4w->Y3P c)->Y1d Y24 ({ s with heap:=h' })) :
  Y1J (call (.type "enumerate") [Y1j]):=by
 refine callType_new F.called_enumerate Dd (F.typeCall_enumerate_1 _) (F.newCall_enumerate_1 _) (λa=>F.args_object_init_2 a _) F.entry_enumerate_new (aFk b l xs) (Y0o hl);have e:(YfT b l).objs.size=Y24:=gW ..;have d:((s.heap.push (itO b l)).push (enO s.heap.objs.size 0)).get? (YfT b l).objs.size=Y7c:=Y1u;have g:((s.heap.push (itO b l)).push (enO s.heap.objs.size 0)).get? s.heap.objs.size=Y7c:=Y0Q Y1u;show _/\_;rw[e]at d ⊢;exact⟨Y0V d,h _ ⟨Y3z d,Y5m _ g rfl⟩ λc o x=>Y7H x⟩
end
def Ite(b:Bool)(l:Addr)(n:Int):It :=
  ⟨Yeg (H l=Y4t b/\Y0p=Y7),
   λi H v H'=>∃q x,v=.ref q/\H q=none/\H'=Y8A q [.int (n+(i:Nat)),x]/\∀xs,H l=Y4t b->Y0p=Y7,
   λi H=>∃xs,H l=Y4t b/\Y4R i⟩
def SU{P:Program}{w:World}{K:Aa}{elts:Y0h}{x1}{tp:Pos}{b:Bool}{e it l:Addr}{n:Int}(hne:e≠it):LZ P w K (Y9G x1 tp) (Ite b l n) [e,it] e (λi h=>EAt b e it l n i h) where
 mem:=by simp
 obj:=λi h st c a=>by
  obtain⟨j,m⟩:=st.e;obtain⟨γ,J,_,ν⟩:=st.i;simp only[bN,List.not_mem_nil,or_false]at a;rcases a with rfl | rfl
  ·exact Ya0 m (by cases q)
  ·exact Ya0 J (by rw[ν]at q;cases q)
 keep:=λi h N st k=>by
  obtain⟨j,m⟩:=st.e;exact⟨⟨j,k _ (by simp) _ m⟩,st.i.at λo e=>k _ (by simp) o e⟩
 item:=by
  intro X M L A U i g s σ H E I u st C;subst M L A;obtain⟨κ,x,m,α⟩:=C;obtain⟨u1,R,z⟩:=I.sq m;obtain⟨Z,D,ι⟩:=R.get α;obtain⟨j,r⟩:=st.e;refine OA r st.i z (x:=Z) (by simpa using D) hne λN t μ B S ξ=>Y5 (wpAny_letOwnedTupleGo_enum μ λG y d=>?_);have d:YaK N G:=d;have ζ:∀c o,c ∉ [e,it]->Y4w->G.get? c=Y9:=λc o a O=>by
   simp only[bN,List.not_mem_nil,or_false,not_or]at a;exact d.extBut c o a.1 (ξ c o a.1 a.2 O)
  have I1:Y29 g H ({ s with heap:=G,toks:=s.toks+1 }):=I.turnedL (t':=s.toks+1) ζ u;have fq:pC X g H s.heap.objs.size:=I.fpOk (Yl) (Y5T);have ε:Ydf=none:=by
   cases q:Ydf with
   | none=>rfl
   | some o=>exact absurd (aR (bK q) I.sz) (cO _)
  have nz:YdK e:=YeK (bK r) (by rw[<-q];exact cO _);have β:YdK it:=λq=>by obtain⟨γ,J,_⟩:=st.i;exact absurd (bK J) (by rw[<-q];exact cO _)
  have p:n+((i+1:Nat):Int)=n+(i:Nat)+1:=Oo;refine⟨Y2D,Y99 H (.tup [.int (n+(i:Nat)),x]),I1.put fq ε ⟨⟨wX (by show 2<=64;decide),_,d.extBut _ _ nz S,rfl⟩,[Y4r (n+(i:Nat)),Z],.cons (Y5l t) (Yb7 ι),Y0i _ (d.extBut _ _ nz S) _ rfl⟩,rfl,Y8i _ x fq.1 rfl (λθ T=>?_),
   ⟨Y3z (by rw[p];exact y),B.ext d.extBut (Ne.symm hne)⟩,λc a=>?_⟩
  ·rw[m]at T;rw[<-zW.inj T];exact α
  ·have δ:Yc4 c:=λq=>by
    simp only[bN,List.not_mem_nil,or_false]at a;rcases a with rfl | rfl
    ·exact nz q.symm
    ·exact β q.symm
   rw[dR δ];exact(u c a).1
 done:=by
  intro X M L A U i g s σ H E I u st C;subst M L A;obtain⟨κ,m,ρ⟩:=C;obtain⟨u1,R,z⟩:=I.sq m;have ο:=R.length;obtain⟨j,r⟩:=st.e;refine NZ (I.ok.hd U) r st.i z (by simp;exact Oo) λN η=>Y0O (Yfl (λc o a O=>?_) u);simp only[bN,List.not_mem_nil,or_false,not_or]at a;exact η c o a.2 O
 self:=λ_ _ _ _ _ st h=>by
  obtain⟨j,r⟩:=st.e;exact wpAny_pyIter_enum r h
def aGX(b:Bool)(n:Int)(ta:TA):TI:=Ycy σ H (λvs H1=>∃l xs,vs=[Y1j]/\H1 l=Y4t b/\R (Ite b l n) H1)
def VC:YbS "enumerate"=Yc6 "enumerate":=Kk
section
variable{X:Cx}
def YI{pins:Ad}{σ:St}{tg:Expr}{elts:Y0h}{x1}{tp:Pos}{b:Bool}{l:Addr}{n:Int}{H1:Hp}{s1:Shared}{R:Y1P It}{h':Heap}(I1:Y2Z H1 s1)(Z:EAt b (YfQ 1) s1.heap.objs.size l n 0 h')(kk:∀c o,s1.heap.get? c=Y9->Y3P c)(q:R (Ite b l n) H1) :
  Y9f (pyIter (.ref (YfQ 1))) (PIE X pins σ (Y9G x1 tp) R) ({ s1 with heap:=h' }):=by
 obtain⟨g,i⟩:=Z.e;refine wpAny_pyIter_enum i ⟨_,[YfQ 1,s1.heap.objs.size],_,_,H1,rfl,I1.kept (t':=s1.toks) kk,SU (Y6z (show(s1.heap.objs.size+1:Nat)=s1.heap.objs.size from h)),Z,λc d=>?_,q⟩;have a:s1.heap.objs.size<=c:=by
  simp only[bN,List.not_mem_nil,or_false]at d;rcases d with rfl | rfl
  ·exact Y9r _
  ·exact Yl
 exact Yan a a
def GL(b:Bool){a:Expr}{ta:TA}{p pos tp:Pos}{elts:Y0h}{x1}(hg:Gl X "enumerate")(hm:X.mg "enumerate" = none)(ha:IZ X [a] ta)(hs:Y2C a=[(false,Y0d a)]:=by first | exact oB | exact mY | exact gZ | rfl) :
  OP X (Y9G x1 tp) (Y4h "enumerate" p [a] []) (aGX b 0 ta):=⟨by
 intro c s σ H R I h;refine Y9Y I hg hm VC (Y9c (ha.p pos c s σ H _ I h) (λr w ⟨n,H1,I1,m,g⟩=>?_) (by rw[hs];rfl) (by rfl));obtain⟨l,y,e,j,q⟩:=g;subst e;obtain⟨u,rfl,ru⟩:=nF m;cases ru;obtain⟨u1,_,d⟩:=I1.sq j;exact aG6 d λz Z i=>YI (tg:=Y9G x1 tp) I1 Z i q⟩
def KQ{b:Bool}{l:Addr}{n:Int}{xs:Al}{g:TG}{tb:TS}{D:pW}{σ:St}{H:Hp}(Pv:Yaa)(h0:Y6R 0)(hl:∀i σ H,Y3d->H l=Y4t b)
  (hs:∀i x q σ H H',Y0p=Y7->Y3d->H q=none->H' q=Yf [.int (n+(i:Nat)),x]->Y0->g (.ref q) σ H' (Y5b ({ D with nx:=Pv (i+1),ct:=Pv (i+1),bk:=D.nx }))) (hd:∀σ H,Yee->Y3Y) :
  ∃W:Nat->Nat->St->Hp->Prop,(Y7j 0 m σ H)/\∀i m σ H,W i m σ H ->
   ((Ite b l n).stop i H/\Y3Y)\/((Ite b l n).go i H/\∃N:St->Hp->Prop,Y9R (N σ' H'->∃m',m' < m/\W (i+1) m' σ' H') ((Ite b l n).yld i H x H'->g x σ H' (Y5b ({ D with nx:=N,ct:=N,bk:=D.nx })))):=by
 refine YaO (m=Y4g i/\Y4S i/\Y3d) (Y2h _ Y0L h0);rintro i m σ H ⟨rfl,r,p⟩;have a:=hl i σ H p;by_cases hlt:Y5f
 ·have d:Y0p=some xs[i]:=aB hlt;refine .inr ⟨⟨xs,_,a,d⟩,Pv (i+1),λσ' H' h=>Y0i _ Oo hlt h,λv H' y=>?_⟩;obtain⟨q,x,rfl,c,rfl,j⟩:=y;exact hs i x q σ H _ (j xs a) p c bH (aT.upd c)
 ·have e:Y4V i:=Oo;subst e;exact Y4c ⟨xs,a,Yl⟩ (hd σ H p)
end
end L2
namespace L2
open PySem PySem.Spec PySem.W PyProof.Rows HT
@[irreducible] def HG:Y1x:=λxs H Q=>∃(d:Addr) (kvs:Yr),xs=[Y5H]/\H d=Y15/\Yby/\Y3v (H D=none) (Y0F=Y0w->DT H' kvs ys->Y0->Y18)
def rlst{H:Hp}{Q:VK}{d:Addr}{kvs:Yr}(h:H d=Y15)(hz:Yby)(q:Y3v (H D=none) (Y0F=Y0w->DT H' kvs ys->Y0->Y18)):HG [Y5H] H Q:=by
 unfold HG;exact Y8i d kvs h hz q
def LK{X:Cx}(hc:Y1t):Y9Q X "list" HG:=by
 unfold HG;intro T s σ H υ ο Q I r h;obtain⟨d,y,rfl,G,τ,q⟩:=h;obtain⟨u,rfl,θ⟩:=nF r;cases θ;obtain⟨z,ε,o,M,P,Z,ρ,R,S,N⟩:=aDl I G;have j:Y0q Z.size:=Y3B (show Z.size<=1000 by exact Oo);refine kdl_call (QU z P R) (Y8x) M j λφ ι a γ κ D C=>?_;obtain⟨ξ,O⟩:=C;have B:∃c:Al,eJ c a.toList/\DT H y c:=by
  have L:∀(n:Nat) (l:Ag),l.length=n->∀(m:Yr),m.length=n->(∀(i:Nat) v p,l[i]?=Yw->m[i]?=some p->∃b,v=Y0e/\H b=Yf (p.1.map kV))->∃c:Al,eJ c l/\DT H m c:=by
   intro n
   induction n with
   | zero =>
    intro l J m z _;cases l with
    | nil=>cases m with
     | nil=>exact Y5m [] .nil (λi p h=>by simp at h)
     | cons _ _=>simp at z
    | cons _ _=>simp at J
   | succ n ih =>
    intro l J m z U;cases l with
    | nil=>simp at J
    | cons v l=>cases m with
     | nil=>simp at z
     | cons p m =>
      obtain⟨b,rfl,ν⟩:=U 0 v p rfl rfl;obtain⟨c,B,A,O⟩:=ih l (by simpa using J) m (by simpa using z) λi v p g w=>U (i+1) v p (by simpa using g) (by simpa using w);refine⟨Y0e::c,.cons rfl B,by simp[A],λi q G=>?_⟩;cases i with
      | zero=>cases(show p=q by simpa using G);exact Yz b ν
      | succ i =>
       obtain⟨ζ,g,w⟩:=O i q (by simpa using G);exact⟨ζ,by simpa using g,w⟩
  refine L y.length a.toList (by rw[Array.length_toList,ξ,S]) y rfl λi v p g w=>?_;obtain⟨μ,e⟩:=O i v (by rw[<-Array.getElem?_toList];exact g);obtain⟨b,δ,η⟩:=N i μ p w;exact⟨b,by rw[e,δ],η⟩
 obtain⟨c,B,A⟩:=B;have α:=Ydv;have W:aT H (Y7D H c):=aT.upd α;refine Y0H Y2D (Y7D H c) (I.laid (t':=ι) κ (Yl) ⟨by have:=A.1;exact Oo,a.toList,γ,B,by rw[Array.toArray_toList];exact D⟩) (q _ c _ α bH ⟨A.1,λi p β=>?_⟩ W);obtain⟨b,g,w⟩:=A.2 i p β;exact⟨b,g,W _ _ w⟩
end L2
namespace L2
open PySem PySem.Spec PyProof.Rows
@[irreducible] def QJ:V->Y1x:=λx vs H Q=>∃(l:Addr) (ns:Af) (m:Int) (j:Nat),x=Y1j/\vs=[Y5J]/\H l=Y9M/\ns[j]?=Y95/\(∀i,i<j->ns[i]? ≠ Y95)/\Y68 1000/\Y1T (j:Int)
def aI5{H:Hp}{l:Addr}{ns:Af}{m:Int}{j:Nat}{Q:VK}(h:H l=Y9M)(h1:ns[j]?=Y95)(h2:∀i,i<j->ns[i]? ≠ Y95)(hz:Y68 1000)(q:Y1T (j:Int)):QJ (Y1j) [Y5J] H Q:=by
 unfold QJ;exact⟨l,ns,m,j,rfl,rfl,h,h1,h2,hz,q⟩
theorem qZ:∀{ns:Af}{us:Ag}{m:Nat},eJ (ns.map V.int) us->(hm:m<us.length)->∃s t,ns[m]?=some s/\us[m]=.int s t
 | s::ns,u::us,0,h,_=>by
  cases h with
  | cons r _=>obtain⟨t,e⟩:=(show ∃t,u=Value.int s t from r);exact⟨s,t,rfl,e⟩
 | s::ns,u::us,m+1,h,hm=>by
  cases h with
  | cons _ hr =>
   obtain⟨c,t,d,a⟩:=qZ hr (m:=m) (by simpa using hm);exact⟨c,t,d,a⟩
 | [],us,m,h,hm=>by cases h;simp at hm
def RH(a b:Int):eqV (.int a) (.int b)=Y0P a b:=by
 show(a == b)=_;by_cases h:a=b
 ·subst h;simp
 ·simp[h]
theorem CU:∀ns:Af,(ns.map V.int).all zT=true
 | []=>rfl
 | s::ns=>by show(zT (V.int s)&&(ns.map V.int).all zT)=true;rw[CU ns];rfl
def ZV{ns:Af}{m:Int}(h:m∈ns):∃j:Nat,ns[j]?=Y95/\∀i,i<j->ns[i]? ≠ Y95:=by
 induction ns with
 | nil=>cases h
 | cons a ns ih =>
  by_cases e:a=m
  ·exact⟨0,by rw[e];rfl,λi g=>Oo⟩
  ·obtain⟨j,d,c⟩:=ih ((bN.mp h).resolve_left λz=>Y8K);refine⟨j+1,d,λi g=>?_⟩;cases i with
   | zero=>intro z;exact e (by simpa using z)
   | succ i=>exact c i Oo
section
variable{X:Cx}
def aB5:MtR X "list.index" QJ:=by
 unfold QJ;intro C s σ H x T v U Q I S rv h;obtain⟨l,G,m,j,rfl,rfl,O,D,P,W,q⟩:=h;cases S;obtain⟨u,rfl,ru⟩:=nF rv;obtain⟨t,rfl⟩:=(show ∃t,u=Value.int m t from ru);obtain⟨z,a,n,r,R,e⟩:=I.lstM O;have N:j<G.length:=(aC.mp D).1;have c:j<a.toArray.size:=by rw[bM,<-R,aA];exact N
 have A:eqU (Y5J) a.toArray[j]=true:=by
  obtain⟨J,M,d,B⟩:=qZ r (m:=j) (by simpa using c);rw[D]at d;cases d;rw[show a.toArray[j]=a[j]'(by simpa using c)from rfl,B];show eqV (Y5J) (Y5J)=true;rw[RH];simp
 have w:∀i (p:i<a.toArray.size),i<j->Yy (eqU (Y5J) a.toArray[i]):=λi p g=>by
  obtain⟨J,M,d,B⟩:=qZ r (m:=i) (by simpa using p);rw[show a.toArray[i]=a[i]'(by simpa using p)from rfl,B];show Yy (eqV (.int J) (Y5J));rw[RH];exact cA λz=>P i g (by rw[d,z])
 exact call_meets F.slot_list_index (Y0V e) F.entry_list_index (F.args_list_index_2 _ _) (SeqAt.list_indexAt l a.toArray n none #[] (Y4r m) (eqU (Y5J)) j c Oo A w) ⟨e,λy L=>KB (x:=Y5J) (Y5l t) rfl r (CU G) y (by simpa using L),⟨.int _,H,Y1G,Y37,q⟩⟩
end
end L2
namespace Mf
end Mf
abbrev a00:Y09:=["one","other"]
abbrev a01:Y09:=["_law_feed_here","_law_many"]
abbrev a02:Y09:=["a","ab","b","abc","faced","ways","z","bb"]
abbrev a03:Y09:=["number","above_nought"]
abbrev a04:Y09:=["trial","way","counts"]
abbrev a05:Y09:=["faces","table"]
abbrev a06:Y09:=["trial","aim","prices","counts","worth_of"]
abbrev a07:Y09:=["weighing","best_at"]
abbrev a08:Y09:=["trial","rule","way"]
abbrev a09:Y09:=["_law_feed_here","_law_faces","_law_ways"]
abbrev a12:Y09:=["_law_feed_here"]
abbrev a13:Y09:=["_law_feed_here","_law_ways","_law_most"]
abbrev a14:Y09:=["self","ends","own"]
abbrev a15:Y09:=["self","column","thing"]
abbrev a16:Y09:=["rows","steps","place","out"]
abbrev a17:Y09:=["trial","rule","way","costs"]
abbrev a18:Y09:=["trial"]
abbrev a19:Y09:=["self","trial","aim"]
abbrev a20:Y09:=["master"]
abbrev a21:Y09:=["weighing","factors","cost_factor"]
abbrev a23:Y09:=["_law_script"]
abbrev a24:Y09:=["trial","aim"]
abbrev a25:Y09:=["weighing","master","cost_unit"]
abbrev a26:Y09:=["some"]
abbrev a27:Y09:=["faces","many"]
abbrev a28:Y09:=["trial","aim","prices"]
abbrev a29:Y09:=["_law_n","_law_d"]
abbrev a30:Y09:=["rows","steps","out","parts"]
abbrev a31:Y09:=["faces","weighing","master"]
abbrev a32:Y09:=["some","others"]
abbrev a33:Y09:=["weighing","counts"]
abbrev a34:Y09:=["counts"]
abbrev a35:Y09:=["many","place"]
abbrev a39:Y09:=["self","costs"]
abbrev a40:Y09:=["rising","some","unit"]
abbrev a41:Y09:=["trial","aim","counts"]
abbrev a42:Y09:=["rule"]
abbrev a43:Y09:=["one","unit"]
abbrev a44:Y09:=["one","other","share"]
abbrev a45:Y09:=["counts","face"]
abbrev a46:Y09:=["trial","rule","aim"]
abbrev a47:Y09:=["faces","most"]
namespace Kw
open PySem L2 Mf
def top(i:Nat):Stmt:=PySem.Challenge.pw_earlystop_k56_whole_named_otherwise.main.body.getD i (.Pass ⟨0,0,0,0⟩)
structure Cl where
 ONE:Addr
 NOUGHT:Addr
 Weighing:Addr
 Master:Addr
 tok_LOOKS_ON:Tok
 tok_ROOM:Tok
 tok_LACK:Tok
 tok_RULE:Tok
 tok_NONE:Tok
structure jS(K:Aa)(mg:Y0G)(c:Cl):Prop where
 b_list:mg "list" = none
 b_len:mg "len" = none
 b_abs:mg "abs" = none
 b_range:mg "range" = none
 b_sum:mg "sum" = none
 b_zip:mg "zip" = none
 b_reversed:mg "reversed" = none
 b_tuple:mg "tuple" = none
 b_sorted:mg "sorted" = none
 b_int:mg "int" = none
 b_min:mg "min" = none
 b_enumerate:mg "enumerate" = none
 b_any:mg "any" = none
 b_dict:mg "dict" = none
 g_ONE:mg "ONE" = Y3 c.ONE
 g_NOUGHT:mg "NOUGHT" = Y3 c.NOUGHT
 g_LOOKS_ON:mg "LOOKS_ON" = some (.int 0 c.tok_LOOKS_ON)
 g_ROOM:mg "ROOM" = Y8w "room" c.tok_ROOM
 g_LACK:mg "LACK" = Y8w "lack" c.tok_LACK
 g_RULE:mg "RULE" = Y8w "rule" c.tok_RULE
 g_NONE:mg "NONE" = Y8w "none" c.tok_NONE
 g_Master:mg "Master" = Y3 c.Master
 w_Master:Own K c.Master ["rows","parts","standing"]
 g_Weighing:mg "Weighing" = Y3 c.Weighing
 w_Weighing:Own K c.Weighing ["rising","units","weights","cost_unit","costs"]
 o_ONE:vP K c.ONE [1,1]=true
 o_NOUGHT:vP K c.NOUGHT [0,1]=true
abbrev sQ7:Stmt:=(top 83)
def cQ7:Yj a23 a23 sQ7:={}
abbrev sQ6:Stmt:=(top 84)
def cQ6:Yj ["_law_feed_here","_law_many","_law_found","_law_at","_law_cells","_law_cell","_law_number"] a01 sQ6:={}
abbrev sQ8:Stmt:=(top 85)
def cQ8:Yj ["_law_n","_law_d","_law_one","_law_other"] a29 sQ8:={}
abbrev aEH:Stmt:=(top 86)
def LQ:Yj ["_law_feed_here","_law_many","_law_whole","_law_found","_law_left","_law_k","_law_part","_law_at"] a01 aEH:={}
def CT{b:Bool}{A B:Prop}(h:b=true)(k:A):if b=true then A else B:=by rw[h,Ys];exact k
def tH{b:Bool}{A B:Prop}(h:Yy b)(k:B):if b=true then A else B:=by rw[h,Y2E];exact k
def XC{K:Aa}{H H':Hp}{a:Addr}{xs:Al}(s:Y0)(h:Y3i K H a):Y3i K H' a:=by
 rcases h with(h | ⟨o,h⟩) | h
 ·exact Ycx (s _ _ h)
 ·exact .inl (Y2G o (s _ _ h))
 ·exact .inr h
theorem bD.take{H:Hp}:∀{ds:Y1f}{vs:Al}(n:Nat),Y7h->Y1n (ds.take n) (vs.take n)
 | [],_,n,h=>by cases(show _=[]from h);rw[List.take_nil,List.take_nil];exact bD.nil
 | d::ds,_,0,h=>bD.nil
 | d::ds,_,n+1,h=>by
  unfold bD at h;obtain⟨x,xs,rfl,h1,h2⟩:=h;exact bD.cons h1 (bD.take n h2)
theorem bD.drop{H:Hp}:∀{ds:Y1f}{vs:Al}(n:Nat),Y7h->Y1n (ds.drop n) (vs.drop n)
 | [],_,n,h=>by cases(show _=[]from h);rw[List.drop_nil,List.drop_nil];exact bD.nil
 | d::ds,_,0,h=>h
 | d::ds,_,n+1,h=>by
  unfold bD at h;obtain⟨x,xs,rfl,h1,h2⟩:=h;exact bD.drop n h2
def DU(n:Nat)(d:PyData):Prop:=PyData.canLay0 d=true/\PyData.depth d<=n
theorem DU.all{n:Nat}:∀{ds:Y1f},(∀d∈ds,DU n d)->PyData.canLayAll0 ds=true/\Yfz<=n
 | [],_=>⟨rfl,cP _⟩
 | d::ds,h=>by
  obtain⟨h1,h2⟩:=h d (aY ..);obtain⟨a,g⟩:=DU.all λe c=>h e (bG _ c);refine⟨?_,?_⟩
  ·show(PyData.canLay0 d&&PyData.canLayAll0 ds)=true;rw[h1,a];rfl
  ·show max (PyData.depth d) (PyData.depthAll ds)<=n;exact Oo
def DU.tup{n:Nat}{ds:Y1f}(h:∀d∈ds,DU n d):DU (n+1) (.tuple ds):=⟨(DU.all h).1,by have:=(DU.all h).2;show Yfz+1<=n+1;exact Oo⟩
def DU.lst{n:Nat}{ds:Y1f}(h:∀d∈ds,DU n d):DU (n+1) (.list ds):=⟨(DU.all h).1,by have:=(DU.all h).2;show Yfz+1<=n+1;exact Oo⟩
theorem DU.int(i:Int):DU 1 (Y1s):=Y0O (by simp[PyData.depth])
def DU.ok{n:Nat}{d:PyData}(h:DU n d)(hn:n<=64:=by decide):Y5E d:=by
 unfold SeqAt.shaped;rw[h.1,Bool.true_and];exact cN (by have:=h.2;exact Oo)
def aFO{z:Int}(h:(10:Int)^Int.toNat 18<=z):0<=z:=Int.le_trans Dd h
abbrev fdD(L:Addr)(t l:Int):Y2P:=[(.inr "cells",.ref L),(.inr "at",.int t),(.inr "left",.int l)]
structure fW(H:Hp)(p L:Addr)(n:Nat):Prop where
 ex:∃(ns:Af) (t l:Int),H p=Y5w (fdD L t l)/\H L=Y9M/\Y68 63/\0<=l/\0<=t/\t+n<=1000000000000
def fW.there{H:Hp}{p L:Addr}{n:Nat}(F:Y3K n):∃o,H p=Y9:=by obtain⟨a,t,l,h,_⟩:=F.ex;exact Y3z h
def fW.ne{H:Hp}{p L q:Addr}{n:Nat}(F:Y3K n)(hq:H q=none):q≠p:=λe=>by
 subst e;obtain⟨o,h⟩:=F.there;rw[h]at hq;cases hq
def fW.neL{H:Hp}{p L q:Addr}{n:Nat}(F:Y3K n)(hq:H q=none):q≠L:=λe=>by
 subst e;obtain⟨c,t,l,h,a,_⟩:=F.ex;rw[a]at hq;cases hq
def fW.same{H H':Hp}{p L:Addr}{n:Nat}(F:Y3K n)(s:Y0):Y5h n:=by
 obtain⟨d,t,l,c,a,e⟩:=F.ex;exact⟨d,t,l,s _ _ c,s _ _ a,e⟩
def fW.but{H H':Hp}{p L D:Addr}{n:Nat}(F:Y3K n)(s:Y6M D)(n1:D≠p)(n2:D≠L):Y5h n:=by
 obtain⟨d,t,l,c,a,e⟩:=F.ex;exact⟨d,t,l,s.at (Ne.symm n1) c,s.at (Ne.symm n2) a,e⟩
def fW.less{H:Hp}{p L:Addr}{n m:Nat}(F:Y3K n)(h:m<=n):Y3K m:=by
 obtain⟨i,t,l,e,c,d,g,a,r⟩:=F.ex;exact⟨i,t,l,e,c,d,g,a,Oo⟩
theorem fW.t{H H':Hp}{p L:Addr}{n:Nat}(F:Y3K n)(s:Y12):Y2B:=by
 obtain⟨a,t,l,h,_⟩:=F.ex;exact s.tD h
def fW.like{p L:Addr}(f:Y1A):OS p L (λi H=>Y3K (f i)) :=
 ⟨λ_ D H1 H2 a c s F=>F.but s a c,λ_ H1 H2 s F=>F.same s,λ_ H' F=>by obtain⟨d,t,l,h,_⟩:=F.ex;exact Y3z h,λ_ H' D F h=>⟨F.ne h,F.neL h⟩⟩
inductive AQ (K:Aa):Yq
 | i {H:Hp} {Q:VK} {E:XK} {a:Addr} {ns:Af} (h:Y6m K H a) (hl:Y68 63) (k:∀p L H',Y5h 1000000000000->Y0->H p=none->H L=none->Y0r p):AQ K Y2n H Q E
inductive fF:Yq
 | i {H:Hp} {Q:VK} {E:XK} {p L:Addr} {n:Nat} {m:Int} (F:Y3K (n+1)) (h:0<m) (hb:bits m<=64) (k:∀x H',0<=x->x<m->Y5h n->Y12->Q (.int x) H'):fF [Y21,Y5J] H Q E
def bitsle{i:Int}{n:Nat}(h:i.natAbs<2^n):bits i<=n:=PySem.intBits_le_iff.mpr h
@[irreducible] def yD(K:Aa):Sp:=λvs H Q _=>∃(a:Addr) (ns:Af),vs=Y2n/\Y6m K H a/\Y68 63/\∀H',Q (.bl true) H'
def XD{K:Aa}{H:Hp}{a:Addr}{ns:Af}(h:Y6m K H a)(hl:Y68 63):yD K Y2n H (λv _=>v=Ybu) (Y7x):=by
 unfold yD;exact Y8i a ns h hl (λ_=>rfl)
theorem GH{H:Hp}:∀ns:Af,Y1n YdF Y5j
 | []=>bD.nil
 | n::ns=>bD.cons (dA.int n) (GH ns)
def ZK{ns:Af}:PyData.eqv (.list (YdF)) (.list [])=Y0P ns []:=by
 cases ns <;> simp[PyData.eqv,PyData.eqvAll]
def JS(ns:Af):Y5E (.list (YdF)):=(DU.lst (n:=1) λd hd=>by
 obtain⟨i,_,rfl⟩:=aN.mp hd;exact DU.int i).ok
section
def oQ7(F:Ye "_law_feed" "_law_feed" sQ7)(T:Yk):dW P w K mg base dD 1 f fd a23 (AQ K):=by
 refine F.oky cQ7 λM H Q E h=>?_;obtain @⟨H,Q,E,a,d,G,I,k⟩:=h;refine Yi;intro C A n s N _;refine Y6g _ (aBa (BJ iB (iF rY (by rfl) T.b_list Kk (Y1p (oK QB (Y04) qY (qW aO)))) (BJ iB aO (BJ iB aO aA5))));intro p i;have s0:=aT.upd (o:=.dK []) i;have l:(upd H p (.dK [])) p=Y5w []:=bH;generalize upd H p (.dK [])=H0 at s0 l;refine⟨_,rfl,_,rfl,a,_,rfl,XC s0 G,λj u=>?_⟩;refine Y0i j _ (.inl (fV.of bH)) (λg y=>?_);have L:mT (Y9C) none (some 63)=Y9C:=by
  unfold mT;have:HT.kN (Y9C).length (Y9C).length (some 63)=(Y9C).length:=by
   rw[show((63:Int))=((63:Nat):Int)from rfl,HT.HC,aA];exact Oo
  rw[this,HT.xA,List.drop_zero,Nat.sub_zero];exact List.take_of_length_le (Yl)
 have r:=(aT.upd (o:=.lst (mT (d.map V.int) none (some 63))) u).trans (Yg4 (mT (Y9C) none (some 63)) y);have B:(upd (upd H0 j (.lst (mT (d.map V.int) none (some 63)))) g (.lst (mT (d.map V.int) none (some 63)))) g=Yc Y9C:=by rw[bH,L]
 have m:H0 g=none:=(aT.upd u).free y;generalize upd (upd H0 j (.lst (mT (d.map V.int) none (some 63)))) g (.lst (mT (d.map V.int) none (some 63)))=H2 at r B;have J:g≠p:=λz=>by rw[z,l]at m;cases m
 refine Y0i (r _ _ l) (fdD g 0 0) (by show 3<=15;decide) (k p g _ ⟨d,0,0,?_,?_,I,Dd,Dd,Dd⟩ ?_ i (s0.free m))
 ·rw[bH];rfl
 ·rw[L2.dR J];exact B
 ·intro b o h;have D:b≠p:=λe=>by subst e;rw[i]at h;cases h
  rw[L2.dR D];exact r _ _ (s0 _ _ h)
def oQ6(F:Ye "_law_draw" "_law_draw" sQ6)(T:Yk):dW P w K mg base dD 1 f fd a01 fF:=by
 refine F.oky cQ6 λρ H Q E h=>?_;obtain @⟨H,Q,E,p,L,n,m,F,y,ζ,k⟩:=h;refine Yi;intro θ A X s g _;obtain⟨a,t,l,r,I,α,δ,τ,φ⟩:=F.ex;refine⟨_,(aH (iR (eQ FD (gQ g.u1 Y04 iB) aO) (aH (Y1q cQ6.nd (Y1R oT (gQ g.u1 Y04 iB) 1))
  (aH (iY g.u1 (Y04) iB (Y1R gI (gQ g.u1 Y04 iB) 1))
  (Y2x 2))) fR)
  (aH (Y1r cQ6.nd (gQ g.u1 Y04 iB))
  (aH (iY g.u1 (Y04) iB (Y4u fS 3))
  (aH (Y4T cQ6.nd (gQ g.u1 Y04 iB))
  (aH (MH (cM (i:=5) cQ6.nd (oM (Y1I (NL g.units) 4 (iM aS)) (Y3n 4 (cG oT (aD 3) (Y9P nV (by rfl) Kk 4))) (Y2I eZ 3 3))))
  (aH (iR (OZ (SM (GI (Y1I aDb 5 (cG aE9 aO aO)) (AH (Y1I zR 3 (Y9P nV (by rfl) Kk 4)))))) (aH (iY g.u1 (Y04) iB (Y2I gI 5 1))
  (Y0Z (Y2I oT 5 1))) fR)
  (aH (cM (i:=6) cQ6.nd (cG oT (cG eZ (Y6y (Y4u oT 5) aO) (Y6y aO (Y1R eZ aO 3))) aO))
  (Y0Z (Y1R oT (cG gI (cG oT (Y6y (Y4u eZ 6) (cG eZ (Y2I eZ 3 3) aO)) aO) aO) 1))))))))),?_⟩
 refine Yv;intro N M;refine Y5 (dgS r rfl ?_);refine Y5M _ _ _ (yR (λκ=>?_) (λκ=>?_))
 ·refine Y5 (dgS r rfl ?_);refine Y6E _ _ _ rfl y (Y5 (dgS r rfl ?_));refine Y6E _ _ _ rfl ⟨y,Y3B ζ⟩ Y8;refine dpS (kvs2:=fdD L t (l/m)) r (by show 3<=64;decide) rfl λH2 β B=>?_;have O:L≠p:=λz=>by rw[z,r]at I;cases I
  exact Y5 (k _ H2 (YdO Oo) (Yft y) ⟨a,t,l/m,β,B.at O I,α,Int.ediv_nonneg δ Oo,Oo,Oo⟩ B)
 ·have O:L≠p:=λz=>by rw[z,r]at I;cases I
  refine Y5 (dgS r rfl ?_);refine Yt;intro N M;refine⟨_,rfl,_,_,rfl,rfl,_,rfl,?_⟩;refine dpS (kvs2:=fdD L (t+1) l) r (by show 3<=64;decide) rfl λH1 D Z=>Y4i;intro N M;have e:=Z.at O I;refine Y5 (dgS D rfl ?_);refine Yt;intro N M;have ε:bits t<=64:=PySem.intBits_le_64 Oo Oo;have S:bits (7919:Int)<=64:=Kk;have F2:∀{H3:Hp},aT H1 H3->fW H3 p L n:=λu=>⟨a,t+1,l,u _ _ D,u _ _ e,α,δ,Oo,Oo⟩;refine Y05 (λσ H3=>∃C:Int,σ=[Y3c,Yb m,none,Yb t,Y3 L,Yb C,none]/\aT H1 H3) ?_
  ·rintro σ H3 ⟨C,rfl,u⟩;refine Y4i;intro N M;have U:=u _ _ D;have J:=u _ _ e;refine Y05 (λb H4=>H4=H3/\(b=true->0<=C)) ?_
   ·refine⟨_,rfl,_,_,rfl,rfl,⟨Dd,Dd,Dd⟩,_,_,rfl,rfl,_,rfl,yR (λη=>?_) (λη=>?_)⟩
    ·refine Y07 (rlL J ?_);exact⟨_,_,rfl,rfl,_,rfl,rfl,λ_=>aFO η⟩
    ·exact Y0O (λh=>by cases h)
   ·rintro b H4 ⟨rfl,G⟩;cases b with
    | true =>
     have G:=G rfl;refine sD Yv;intro N M;refine⟨_,rfl,_,rfl,_,_,rfl,rfl,⟨y,Y3B ζ⟩,Y8⟩;refine dpS (kvs2:=fdD L (t+1) (C/m)) U (by show 3<=64;decide) rfl λH5 R γ=>⟨_,rfl,_,rfl,_,_,rfl,rfl,y,?_⟩;exact k _ H5 (YdO Oo) (Yft y) ⟨a,t+1,C/m,R,γ.at O J,α,Int.ediv_nonneg G Oo,Oo,Oo⟩ ((Z.trans u.but).trans γ)
    | false =>
     refine pS ?_;have υ:=Int.emod_nonneg C (b:=2147483629) Dd;refine⟨_,rfl,_,_,rfl,rfl,(by show(0:Int)<2147483629;decide),_,_,rfl,rfl,_,rfl,_,_,rfl,rfl,IntMulOk.of_left S,_,_,rfl,rfl,_,_,rfl,rfl,IntMulOk.of_left (PySem.intBits_le_64 Oo Oo),_,_,rfl,rfl,(by show(0:Int)<2147483647;decide),?_⟩;generalize (C % 2147483629+1)*(48271+7919*t) % 2147483647=z;exact⟨_,rfl,_,_,rfl,rfl,IntMulOk.of_right Kk,_,rfl,_,rfl,_,_,rfl,rfl,IntMulOk.of_left ε,_,_,rfl,rfl,IntMulOk.of_right Kk,_,_,rfl,rfl,_,_,rfl,rfl,(by show(0:Int)<2147483399;decide),_,_,rfl,rfl,Ya3 Kk,_,rfl,_,_,rfl,rfl,y,k _ H4 (YdO Oo) (Yft y) (F2 u) (Z.trans u.but)⟩
  ·refine Y8;refine EA (by show 0<=64;decide) λω H2 ι ξ B=>reD (d:=.list (a.map PyData.int)) (d':=.list []) (dA.lst (B _ _ e) (GH a)) (dA.lst ξ bD.nil) (JS a) rfl ?_;rw[ZK];refine Y8;by_cases ens:a=[]
   ·exact tH (by rw[cN ens];rfl) ⟨_,rfl,_,rfl,_,_,rfl,rfl,IntMulOk.of_left ε,Y5 B⟩
   ·refine CT (by rw[cA ens];rfl) ?_;have χ:0<a.length:=List.length_pos_iff.mpr ens;refine Y2O (rlL (B _ _ e) ?_);rw[aA];refine Y54 _ Oo ?_;have μ:=Yfh t (a.length:Int);have ψ:=Int.emod_lt_of_pos t (b:=(a.length:Int)) Oo;have ν:∃z,a[(t % (a.length:Int)).toNat]?=Y83:=Y88;obtain⟨z,ο⟩:=ν;have W:ED (YeB) (t % (a.length:Int))=Yb z:=by
     have:=dB (xs:=YeB) (j:=(t % (a.length:Int)).toNat) (v:=V.int z) (by rw[aE,ο];rfl)
     rwa [Int.toNat_of_nonneg μ]at this
    exact xH (B _ _ e) W (Y5 B)
end
abbrev iG(f:Fr):PyData:=.tuple [.int f.1,.int f.2]
def aFy{H:Hp}{f:Fr}{v:V}(h:Y2W f v):∃a,v=Yd/\H a=Yf [.int f.1,.int f.2]:=by
 unfold dA bD bD bD at h;obtain⟨a,_,rfl,d,x,_,rfl,e,y,_,rfl,c,rfl⟩:=h;cases(show x=V.int f.1 from e);cases(show y=V.int f.2 from c);exact Yz a d
def gF{H:Hp}{f:Fr}{a:Addr}(h:H a=Yf [.int f.1,.int f.2]):Y2W f Yd:=Y9T h Y8L Y8L
def dX(f:Fr):iN (iG f)=true:=rfl
def kU(K:Aa)(H:Hp)(f:Fr)(x:V):Prop:=∃a,x=Yd/\jC K H a [.int f.1,.int f.2]
theorem kU.of{K:Aa}{H:Hp}{f:Fr}{x:V}(h:Y2W f x):kU K H f x:=by
 obtain⟨a,e,h⟩:=aFy h;exact Y2r e (jC.of h)
def kU.new{K:Aa}{H:Hp}{f:Fr}{a:Addr}(h:H a=Yf [.int f.1,.int f.2]):kU K H f (Yd):=Yz a (jC.of h)
def kU.same{K:Aa}{H H':Hp}{f:Fr}{x:V}(s:Y0)(h:kU K H f x):kU K H' f x:=by
 obtain⟨a,e,h⟩:=h;exact Y2r e (h.keep s)
def kU.k{K:Aa}{H:Hp}{f:Fr}{x:V}(h:kU K H f x):tN K H (iG f) x:=by
 obtain⟨a,rfl,h⟩:=h;exact tN.tup h (nY.ints [f.1,f.2])
def vU(k:Nat)(f:Fr):Prop:=f.1.natAbs<2^k/\f.2.natAbs<2^k
inductive sB:Yq
 | i {H:Hp} {Q:VK} {E:XK} {n d:Int} (h:0<d) (q:Y1T (Y9S n)):sB [Y5I,.int d] H Q E
def EF(H:Hp)(Q:VK)(f:Fr):Prop:=∀q H',H q=none->H' q=Yf [.int f.1,.int f.2]->Y0->Y0r q
inductive kF (K:Aa):Yq
 | i {H:Hp} {Q:VK} {E:XK} {x y:V} {f g:Fr} (h1:kU K H f x) (h2:kU K H g y) (l1:Y0m) (l2:eV g) (z1:Y5V) (z2:Y4P g) (q:EF H Q (qR f g)):kF K [x,y] H Q E
inductive AM (K:Aa):Yq
 | i {H:Hp} {Q:VK} {E:XK} {x y:V} {f g:Fr} (h1:kU K H f x) (h2:kU K H g y) (z1:Y5V) (z2:Y4P g) (q:Y3e (Y22 (f.1*g.2) (g.1*f.2))):AM K [x,y] H Q E
def aFu{n d:Int}(h:0<d):(Int.gcd n d:Int)<=d:=Int.le_of_dvd h (Yc3 n)
def yS{n d:Int}{k:Nat}(h:0<d)(z:d.natAbs<2^k):(Int.gcd n d:Int).natAbs<2^k:=by
 have:=aFu (n:=n) h;have:=YcP h;exact Oo
def pL{n d:Int}(h:0<d)(z:d.natAbs<2^9000):aAN n d:=⟨h,OL z⟩
def oA{i:Int}{n m:Nat}(h:i.natAbs<2^n)(k:n<=m:=by decide):i.natAbs<2^m:=Y63 h k
def rB{i j:Int}{n:Nat}(h:i.natAbs<2^n)(hj:0<j):(i/j).natAbs<2^n:=aI (by
 have:=Int.natAbs_ediv_le_natAbs i j;exact this) h
abbrev wZ(fs:Ak):PyData:=YfY iG
theorem oW:∀fs:Ak,kA (fs.map iG)=true
 | []=>rfl
 | f::fs=>by show(iN (iG f)&&kA (fs.map iG))=true;rw[oW fs];rfl
def jY(fs:Ak):iN (wZ fs)=true:=oW fs
inductive kQ:Yq
 | i {H:Hp} {Q:VK} {E:XK} {n d:Int} (h:0<d) (z:d.natAbs<2^9000) (q:EF H Q (lw n d)):kQ [Y5I,.int d] H Q E
section
def oQ8(F:Ye "_law_frac" "_law_frac" sQ8)(T:Yk):dW P w K mg base dD 1 f fd a29 kQ:=by
 refine YdH cQ8 ?_;obtain @⟨H,Q,E,n,d,hd,L,q⟩:=h;refine Yi;intro G A l s R _;refine⟨_,(aH (Y1q cQ8.nd (Y6a aAj (by rfl) T.b_abs Kk 0))
  (aH (Y1r cQ8.nd Y0t)
  (aH (vW PassesOwn.never (Y1I FD 3 aO) (aV (aDv (i:=2) (j:=3) rfl cQ8.nd rfl rfl Dd rfl rfl (Y2i 3 (Y2I oT 2 3)) rfl)))
  (Y0Z (Y35 (Y2I gI 0 2) (Y2I gI 1 2)))))),?_⟩
 refine Yv;intro B y;refine Y5 (raI ?_);refine Yt;intro B y;refine Y5 Yt;intro B y;refine AI (λm σ H'=>Ex2 λ(u v:Int)=>An6 (σ=[Yb n,Yb d,Yb u,Yb v]) (0<=v) ((Int.gcd u v)=(Y9S n)) ((v=0->0<u)) (H'=H) (m=v.toNat))
  (λσ H'=>σ=[Yb n,Yb d,Yb (Y9S n),Yb 0]/\H'=H)
  _ ⟨(n.natAbs:Int),d,rfl,Oo,by rw[Int.gcd_eq_natAbs_gcd_natAbs,Int.gcd_eq_natAbs_gcd_natAbs,Int.natAbs_natCast],Oo,rfl,rfl⟩ ?_ ?_
 ·rintro m σ H2 ⟨u,v,rfl,S,a,M,rfl,rfl⟩;refine⟨_,rfl,_,_,rfl,rfl,_,rfl,YbB⟩
  ·refine⟨_,rfl,_,rfl,_,rfl,_,_,rfl,rfl,e,_,_,rfl,?_⟩;have g:=Int.emod_lt_of_pos u e;have J:=Yfh u v;exact⟨_,Oo,v,u % v,rfl,J,by rw[KN,a],λ_=>e,rfl,rfl⟩
  ·have r:v=0:=Oo;subst r;have N:=M rfl;have g:=RC N;rw[a]at g;rw[g];exact Y6o
 ·rintro σ H2 ⟨rfl,rfl⟩;have a:=YcP hd;have z:aAN n (Int.gcd n d:Int):=pL a (yS hd L);refine⟨_,rfl,_,rfl,_,_,rfl,rfl,z,⟨_,rfl,_,rfl,_,_,rfl,rfl,z,?_⟩⟩;exact sF (by show 2<=64;decide) λp H3 C D I=>q p H3 C D I
end
def tM:Nat:=2512440
structure GF(m:Nat)(fs:Ak):Prop where
 ex:∃(ps:Af) (W:Int),ps.length=m/\(∀x∈ps,0<=x/\x<=W)/\ps.sum=W/\0<W/\W<=997/\W.natAbs ∣ tM/\fs=ps.map λx=>lw x W
def GF.len{m:Nat}{fs:Ak}(h:GF m fs):Y6P m:=by
 obtain⟨c,W,a,_,_,_,_,_,rfl⟩:=h.ex;rw[aA,a]
def GF.at{m:Nat}{fs:Ak}(h:GF m fs):∀f∈fs,Y13 tM 1/\0<=f.1:=by
 obtain⟨i,W,j,a,_,d,l,e,rfl⟩:=h.ex;intro f c;obtain⟨x,g,rfl⟩:=aN.mp c;have:=a x g;exact⟨(Fn.of d Oo).dvd e,Yf2 this.1 _⟩
def GF.bits{m:Nat}{fs:Ak}(h:GF m fs):∀f∈fs,f.1.natAbs<=997/\f.2.natAbs<=997:=by
 obtain⟨g,W,j,c,_,a,l,i,rfl⟩:=h.ex;intro f d;obtain⟨x,e,rfl⟩:=Ya7;have:=c x e;have q:=QP (n:=x) a;have p:=(jZ (n:=x) a).pos;exact Oo
def aBl:∀x:Nat,1<=x->x<=10->x ∣ tM:=by
 intro x c a;have:∀x,x<=10->1<=x->x ∣ tM:=by unfold tM;decide
 exact this x a c
def SX{W:Int}(h:(1<=W/\W<=10)\/W=997):W.natAbs ∣ tM:=by
 rcases h with h | rfl
 ·exact aBl _ Oo Oo
 ·show 997 ∣ 2512440;decide
inductive oH:Yq
 | i {H:Hp} {Q:VK} {E:XK} {p L:Addr} {n m:Nat} (F:Y3K (n+12)) (m0:0<m) (m5:m<=5) (k:∀v fs H',Y5h n->Y12->Y2l H' fs v->GF m fs->Y1W):oH [Y21,.int (m:Int)] H Q E
def aBu(l:Af)(a:Nat):(l.drop a++l.take a).sum=l.sum:=by
 rw[List.sum_append,Int.add_comm,<-List.sum_append,List.take_append_drop]
section
def aIX(F:Ye "_law_shares" "_law_shares" aEH)(T:Yk)
  (FQ6:Y03 "_law_draw" a01 fF) (FQ8:Y03 "_law_frac" a29 kQ):dW P w K mg base dD 2 f fd a01 oH:=by
 refine F.oky LQ λB H Q E h=>?_;obtain @⟨H,Q,E,p,L,n,m,F,m0,m5,k⟩:=h;refine Yi;intro cdv A outer s hr _;refine⟨_,(aH (Y1q LQ.nd (Y3g (iM (Y4G (Y8R aO 0) (Y8R aO 0) (Y2f (Y8R aO 0) aO))) (Y8D 0)))
  (aH (Y1r LQ.nd (iM aS))
  (aH (Y4T LQ.nd Y0c)
  (aH (gH PassesOwn.never rfl (Y7G (Y4u pR 1)) (Y9h 5 LQ.nd) (aH (Y2d 6 LQ.nd FQ6 0 (Y4u fS 4))
  (aH (kW (rZ PySem.F.plainAttrs_list PySem.F.slot_list_append PySem.F.type_list_append sY Y0X (Y1p (Y2k FQ8 6 2))))
  (aV (Y4T LQ.nd (Y2I pR 4 6))))))
  (aH (kW (rZ PySem.F.plainAttrs_list PySem.F.slot_list_append PySem.F.type_list_append sY Y0X (Y1p (Y2k FQ8 4 2))))
  (aH (Y2d 7 LQ.nd FQ6 0 Y0t)
  (Y0Z (Ydd cV (by rfl) Kk (Y1p (cG vN (oK (wY K) (Y0X) (qW (aD 7)) qY) (oK (wY K) (Y0X) qY (qW (aD 7))))))))))))),?_⟩
 refine Yv;intro R N;refine Y8;refine Y3A (n+11) F (λx1 H1 a1 b1 F1 s1=>Y5M _ _ _ ?_);refine Y3A (n+10) F1 (λx2 H2 a2 b2 F2 s2=>Y5M _ _ _ ?_);refine Y3A (n+9) F2 (λx3 H3 a3 b3 F3 s3=>Y53 _ _ ?_);refine EA (by show 4<=64;decide) λq4 H4 ω e4 ρ=>Y8;refine Y3A (n+8) (F3.same ρ) (λδ H5 a5 b5 F5 s5=>?_);have hW:∃W:Int,ED [V.int (1+x1),V.int (2+x2),V.int (2+x3),V.int 997] δ=Yb W/\((1<=W/\W<=10)\/W=997):=by
  have:δ=0\/δ=1\/δ=2\/δ=3:=Oo;rcases this with rfl | rfl | rfl | rfl
  ·exact Y5 (.inl Oo)
  ·exact Y5 (.inl Oo)
  ·exact Y5 (.inl Oo)
  ·exact Y5 Y8J
 obtain⟨W,Z,hW⟩:=hW;refine xH (s5.at (F3.ne ω) e4) Z (Yt);intro R N;have W0:0<W/\W<=997:=Oo;have b5:aW p H H5:=((((s1.trans s2).trans s3).trans ρ.but).trans s5);clear s1 s2 s3 ρ s5 e4 Z F1 F2 F3;refine EA (by show 0<=64;decide) λD H6 hD e6 s6=>Yt;intro R N;have F6:=F5.same s6;have ξ:=F5.ne hD;have X:=F5.neL hD;have γ:H D=none:=aW.free b5 F5.there hD;refine⟨_,rfl,_,rfl,_,_,rfl,rfl,((m-1:Nat):Int),by show[V.int ((m:Int)-1)]=_;rw[show((m:Int)-1)=((m-1:Nat):Int)by exact Oo],Oo,Oo,?_⟩;rw[Int.toNat_natCast];have wz:W.natAbs<2^9000:=Y7J (show W.natAbs<2^10 by show W.natAbs<1024;exact Oo);refine mQ (λi σ H'=>Ex6 λ(o5 o6 τ:Am) (u:Af) (B:Al) (left:Int)=>aJL (σ=[Y3c,Yb (m:Int),Yb W,Y3 D,Yb left,o5,o6,τ]) (Y5h (n+8-i)) (Y12) (Y0F=Yc B) (bD H' ((u.map λx=>lw x W).map iG) B) (u.length=i) ((∀x∈u,0<=x/\x<=W)) (u.sum+left=W) (0<=left) (left<=W))
  ⟨_,_,_,[],[],W,rfl,F6,b5.trans s6.but,e6,bD.nil,rfl,(λx h=>by cases h),by simp,Oo,Oo⟩ ?_ ?_
 ·rintro i σ H7 hi ⟨o5,o6,τ,u,B,left,rfl,F7,ο,η,U,O,I,ζ,l0,l1⟩;refine Y9V;intro R N;refine Y5R _ _ _ _ rfl ?_;refine YcL (n+8-(i+1)) (F7.less Oo) (bitsle (aI (show(left+1).natAbs<=998 by exact Oo) Dd)) (λx8 H8 a8 b8 F8 s8=>Yt);intro R N;have e8:=s8.at ξ η;refine Y6E _ (VL e8) _ _ rfl (kQ.i W0.1 wz ?_);intro ν H9 χ μ C;have j:=C _ _ e8;have lv:B.length=i:=by rw[U.len,aA,aA,O]
  refine LW j Oo λH10 J e=>Y5R _ _ _ _ rfl ?_;have t78:=F7.t s8;have g:=e.t j;refine⟨_,_,_,u++[x8],B++[.ref ν],left-x8,rfl,(F8.same C).but e ξ X,aW.thru γ ((ο.trans s8).trans C.but) e,J,?_,by rw[aU,O];rfl,?_,?_,Oo,Oo⟩
  ·rw[bF,bF];exact Ye4 (U.flat ((t78.trans C.t).trans g) (oW _)) g (dX _) (gF μ)
  ·intro x d;rcases dM.mp d with d | d
   ·exact I x d
   ·rw[bT.mp d];exact Oo
  ·rw[List.sum_append,List.sum_singleton];exact Oo
 ·rintro σ H7 ⟨o5,o6,τ,u,B,left,rfl,F7,ο,η,U,O,I,ζ,l0,l1⟩;refine Y4i;intro R N;refine Y6E _ (VL η) _ _ rfl (kQ.i W0.1 wz ?_);intro ν H9 χ μ C;have j:=C _ _ η;have lv:B.length=m-1:=by rw[U.len,aA,aA,O]
  refine LW j Oo λH10 J e=>Y4i;intro R N;have g:=e.t j;have F10:=(F7.same C).but e ξ X;have B10:aW p H H10:=aW.thru γ (ο.trans C.but) e;have G:bD H10 (((u++[left]).map λx=>lw x W).map iG) (B++[.ref ν]):=by
   rw[bF,bF];exact Ye4 (U.flat (C.t.trans g) (oW _)) g (dX _) (gF μ)
  have y:(u++[left]).length=m/\(∀x∈u++[left],0<=x/\x<=W)/\(u++[left]).sum=W:=by
   refine⟨by rw[aU,O];show m-1+1=m;exact Oo,λx d=>?_,by rw[List.sum_append,List.sum_singleton];exact Oo⟩;rcases dM.mp d with d | d
   ·exact I x d
   ·rw[bT.mp d];exact Oo
  generalize u++[left]=κ at G y;generalize B++[V.ref ν]=z at G J;clear U I ζ l0 l1 O η μ j e g F7 ο C;have lu:z.length=m:=by rw[G.len,aA,aA,y.1]
  refine Y02;refine YcL n (F10.less Oo) (bitsle (aI (show((m:Int)).natAbs<=5 by exact Oo) Dd)) (λx H11 a11 b11 F11 M=>?_);obtain⟨a,rfl⟩:∃a:Nat,x=(a:Int):=Y2Q x.toNat;have ε:=M.at ξ J;have υ:=G.flat (F10.t M) (oW _);refine Y4q;refine slL ε (ys:=z.drop a) (II _ _) λq12 H12 hq12 aa θ=>Y4q;refine slL (θ _ _ ε) (ys:=z.take a) (RV _ _) λq13 H13 hq13 e13 β=>OF (β _ _ aa) e13 (by rw[List.length_drop,gG];exact Oo) λφ H14 hq14 e14 ψ=>Y2R φ (Y7o e14);have ι:=Y7n (z.drop a++z.take a);have α:(upd H14 l (.tup (z.drop a++z.take a))) l=Yf (z.drop a++z.take a):=bH;generalize upd H14 l (.tup (z.drop a++z.take a))=H15 at ι α;have S:=((θ.trans β).trans ψ).trans ι;refine k _ ((κ.drop a++κ.take a).map λx=>lw x W) H15 (F11.same S) ((B10.trans M).trans S.but) (dA.tup α ?_) ⟨κ.drop a++κ.take a,W,?_,?_,?_,W0.1,W0.2,SX hW,rfl⟩
  ·have r:=υ.same S;rw[bF,bF];refine bD.append ?_ ?_
   ·rw[List.map_take,List.map_take];exact bD.take a r
   ·rw[List.map_drop,List.map_drop];exact bD.drop a r
  ·rw[aU,List.length_drop,gG];exact Oo
  ·intro x d;rcases dM.mp d with d | d
   ·exact y.2.1 x (List.mem_of_mem_drop d)
   ·exact y.2.1 x (List.mem_of_mem_take d)
  ·rw[aBu];exact y.2.2
end
abbrev aEF:Stmt:=(top 87)
def aAs:Yj ["_law_feed_here","_law_faces","_law_ways","_law_names","_law_start","_law_told"] a09 aEF:={}
abbrev aEG:Stmt:=(top 88)
def aHc:Yj ["_law_feed_here","_law_way"] a12 aEG:={}
abbrev sQ5:Stmt:=(top 89)
def cQ5:Yj ["_law_feed_here","_law_whole","_law_part"] a12 sQ5:={}
abbrev sQ4:Stmt:=(top 90)
def cQ4:Yj ["_law_feed_here","_law_ways","_law_most","_law_bounds","_law_mix"] a13 sQ4:={}
def bD.atX{H:Hp}{α:Type}{g:Y81 α}{as:Yu}{xs:Al}(r:Ycv g xs){i:Nat}{a:α}(h:as[i]?=Y7a):∃x,Y0p=Y7/\Y0M (g a) x:=by
 induction as generalizing xs i with
 | nil=>simp at h
 | cons b as ih =>
  rw[bA]at r;unfold bD at r;obtain⟨x,d,rfl,e,c⟩:=r;cases i with
  | zero=>cases(show b=a by simpa using h);exact Yz x e
  | succ i=>exact ih c (by simpa using h)
def nT{H:Hp}{fs:Ak}{v:V}(h:Y2l H fs v):∃a xs,v=Yd/\H a=Y16/\Y5v H iG xs:=by
 unfold dA at h;exact h
abbrev wD(w:Str × Ak):PyData:=.tuple [.str w.1,wZ w.2]
abbrev DX(fs:Ah)(ws:Y0l):PyData:=.tuple [YfY .str,.tuple (ws.map wD)]
theorem ET:∀fs:Ah,kA (fs.map PyData.str)=true
 | []=>rfl
 | f::fs=>by show(iN (.str f)&&kA (fs.map PyData.str))=true;rw[ET fs];rfl
def GO(w:Str × Ak):iN (wD w)=true:=by
 show(iN (.str w.1)&&(iN (wZ w.2)&&true))=true;rw[jY];rfl
theorem GJ:∀ws:List (Str × Ak),kA (ws.map wD)=true
 | []=>rfl
 | w::ws=>by show(iN (wD w)&&kA (ws.map wD))=true;rw[GO w,GJ ws];rfl
def lL(fs:Ah)(ws:Y0l):iN (DX fs ws)=true:=by
 show(iN (YfY .str)&&(iN (.tuple (ws.map wD))&&true))=true;rw[show iN (.tuple (fs.map PyData.str))=kA (fs.map PyData.str)from rfl,ET,show iN (.tuple (ws.map wD))=kA (ws.map wD)from rfl,GJ];rfl
theorem zJ{H:Hp}:∀fs:Ah,Y5v H PyData.str (fs.map V.str)
 | []=>bD.nil
 | f::fs=>bD.cons (dA.str f) (zJ fs)
def lK{H:Hp}{ds:Y1f}{v:V}(h:Y0M (.tuple ds) v):∃a xs,v=Yd/\H a=Y16/\Y9J xs:=by unfold dA at h;exact h
def DS{H:Hp}{d e:PyData}{xs:Al}(h:Y1n [d,e] xs):∃x y,xs=[x,y]/\Y0M d x/\Y0M e y:=by
 unfold bD bD bD at h;obtain⟨x,_,rfl,c,y,_,rfl,a,rfl⟩:=h;exact Y0i x y c a
def fO{α:Type}{H:Hp}{g:Y81 α}{fs:Yu}{vs:Al}(h:Y5v H g vs){i:Nat}{v:V}(e:vs[i]?=Yw):∃f,fs[i]?=Y6v/\Y0M (g f) v:=by
 obtain⟨d,a,c⟩:=h.get e;rw[aE]at a;cases q:fs[i]? with
 | none=>rw[q]at a;cases a
 | some f=>rw[q]at a;cases a;exact Yz f c
def kG{α:Type}{H:Hp}{g:Y81 α}{fs:Yu}{vs:Al}(h:Y5v H g vs){i:Nat}{f:α}(e:fs[i]?=Y6v):∃v,vs[i]?=Yw/\Y0M (g f) v :=
 h.get' (by rw[aE,e];rfl)
def iE{α:Type}{H:Hp}{g:Y81 α}{fs:Yu}{vs:Al}(h:Y5v H g vs):Y4O fs.length:=by rw[h.len,aA]
def hZ{α:Type}{l:Yu}{i:Nat}{x:α}(h:l[i]?=Y7):l.take (i+1)=l.take i++[x]:=by
 rw[jT,h];rfl
structure TrC(F W:Nat)(fs:Ah)(ws:Y0l):Prop where
 f:Y6P F
 w:ws.length=W
 sh:∀x∈ws,GF F x.2
 nf:∀s∈fs,(YcM).length<=20
 nw:∀x∈ws,(reprText x.1).length<=20
def aB4:∀s∈(a02:Ah),(YcM).length<=20:=Kk
inductive uI:Yq
 | i {H:Hp} {Q:VK} {E:XK} {p L:Addr} {n F W:Nat} (T:Y3K (n+64)) (h1:2<=F) (h2:F<=4) (h3:2<=W) (h4:W<=4) (k:∀v fs ws H',Y5h n->Y12->dA H' (DX fs ws) v->TrC F W fs ws->Y1W):uI [Y21,.int (F:Int),.int (W:Int)] H Q E
def aCL{α:Type}{xs:Yu}{x:Int}(h:Y5u 8):∃v,ED xs (x % 8)=Yw/\v∈xs:=by
 obtain⟨v,c,a,_⟩:=aCM (xs:=xs) (x:=x % 8) (YdO Dd) (by have:=Int.emod_lt_of_pos x (b:=8) Dd;exact Oo);exact⟨v,c,a⟩
def PX{P:Y1c Str}{ys:Al}(h:∀(i:Nat) (y:V),Y1o=Y0b->∃s,y=.str s/\P s):∃ts:Ah,ys=ts.map V.str/\∀t∈ts,P t:=by
 induction ys with
 | nil=>exact Yz [] (λt h=>by cases h)
 | cons y ys ih =>
  obtain⟨s,rfl,e⟩:=h 0 y rfl;obtain⟨ts,rfl,a⟩:=ih λi z d=>h (i+1) z (by simpa using d);refine Yz (s::ts) (λt c=>?_);rcases bN.mp c with rfl | c
  ·exact e
  ·exact a t c
section
def aIV(F:Ye "_law_trial" "_law_trial" aEF)(T:Yk)
  (FQ6:Y03 "_law_draw" a01 fF) (FQ10:Y3j "_law_shares" a01 oH):dW P w K mg base dD 3 f fd a09 uI:=by
 refine Y17 aAs;obtain @⟨H,Q,E,p,L,n,F,W,T0,f2,f4,w2,w4,k⟩:=h;refine Yi;intro ω A ε s hr _;refine⟨_,(aH (Y3x 3 aAs.nd (iM (Y4G iB iB (bE iB (Y4G iB iB (Y4G iB iB (Y1p iB)))))))
  (aH (Y3x 4 aAs.nd (Y8D 0))
  (aH (cM (i:=5) aAs.nd (Y6s (by rfl) ["_law_k","_law_names","_law_start"] [3,4] (Y6O 1) (Y6p 1 (cG oT (cG fS (aD 2) (Y1R eZ aO 0)) aO))))
  (aH (Y3x 4 aAs.nd (Y8D 0))
  (Y9Z (Y2i 5 (Y6s (by rfl) ["_law_k","_law_feed_here","_law_faces","_law_names","_law_start"] [0,1,3,4] (Y6O 2) (Y35 (Y6p 3 (cG oT (cG fS (aD 4) (Y1R eZ aO 0)) aO)) (Y2k FQ10 1 2))))))))),?_⟩
 refine Yv;intro Z N;refine EA (by show 8<=64;decide) λN1 H1 hN e1 ρ=>Yt;intro Z N;have ι:H1 N1=Yc ((a02:Ah).map V.str):=e1;have ζ:N1≠p:=T0.ne hN;refine Y8;refine Y3A (n+63) (T0.same ρ) (λx2 H2 a2 b2 T2 χ=>Yt);intro Z N;have φ:=χ.at ζ ι;have d:∀x:Int,∃t:Str,(reprText t).length<=20/\ED ((a02:Ah).map V.str) (x % 8)=some (V.str t):=λx=>by
  obtain⟨v,I,G⟩:=aCL (xs:=(a02:Ah).map V.str) (x:=x) rfl;obtain⟨t,M,rfl⟩:=aN.mp G;exact⟨t,aB4 t (by assumption),I⟩
 refine Y3p _ rfl _ Oo Oo (Yb4 (∃s,y=.str s/\(YcM).length<=20) Y8l Oo (λi H' Q' hi S η=>?_) (λD ys H3 hD X s3 m α=>?_))
 ·refine⟨_,rfl,_,rfl,_,rfl,_,_,rfl,rfl,IntMulOk.of_left Kk,_,_,rfl,rfl,_,_,rfl,rfl,(by show(0:Int)<8;decide),?_⟩;obtain⟨t,e,M⟩:=d (x2+3*(0+(i:Nat)));exact xH (S _ _ φ) M (η _ H' (Y06) (Yz t e))
 ·obtain⟨B,rfl,γ⟩:=PX α;rw[aA]at m;refine Y2R D (Y7o X);refine Yt;intro Z N;have ξ:=Y7n (B.map V.str);have τ:(upd H3 l (.tup (B.map V.str))) l=Yf (B.map V.str):=bH;generalize upd H3 l (.tup (B.map V.str))=H4 at ξ τ;have S4:=s3.trans ξ;have T4:=T2.same S4;have B4:aW p H H4:=(ρ.but.trans χ).trans S4.but;refine Y8;refine Y3A (n+62) T4 (λx5 H5 a5 b5 T5 θ=>?_);have e5:=θ.at ζ (S4 _ _ φ);have ν:=T4.t θ _ _ τ;have B5:=B4.trans θ;refine⟨_,rfl,_,rfl,_,rfl,Oo,Oo,xQ (Ydw p L (n+62-12*i)) T5 (λi y H'=>∃x:Str × Ak,dA H' (wD x) y/\GF F x.2/\(reprText x.1).length<=20) (λi y Ha Hb s ⟨x,I,G⟩=>⟨x,I.flat s (GO x),G⟩) Oo (λi H' Q' hi F' S η=>?_) (λD6 j H6 aa ο T6 υ hz J=>?_)⟩
  ·refine⟨_,rfl,_,rfl,_,rfl,_,_,rfl,rfl,IntMulOk.of_left Kk,_,_,rfl,rfl,_,_,rfl,rfl,(by show(0:Int)<8;decide),?_⟩;obtain⟨t,e,M⟩:=d (x5+5*(0+(i:Nat)));refine xH (S.at ζ e5) M Y02;exact oH.i (n:=n+62-12*(i+1)) (YeT) Oo Oo λv fs H7 T7 u r7 δ=>sF (by show 2<=64;decide) λq8 H8 κ R g=>η _ H8 (T7.same g) (u.trans g.but) ⟨(t,fs),Y9T R (dA.str _) (r7.same g),δ,e⟩
  ·obtain⟨r,ac,r6,C⟩:∃r:List (Str × Ak),r.length=j.length/\bD H6 (r.map wD) j/\∀x∈r,GF F x.2/\(reprText x.1).length<=20:=by
    clear ο hz
    induction j with
    | nil=>exact Y2h [] bD.nil (λx h=>by cases h)
    | cons z j ih =>
     obtain⟨x,I,G⟩:=J 0 z rfl;obtain⟨r,g1,g2,g3⟩:=ih λi y m=>J (i+1) y (by simpa using m);refine⟨x::r,by rw[cD,cD,g1],bD.cons I g2,λy m=>?_⟩;rcases bN.mp m with rfl | m
     ·exact G
     ·exact g3 y m
   refine Y8b D6 ο (λU O=>?_);have u:=Y4a j O;have ψ:(upd H6 U (.tup j)) U=Yf j:=bH;generalize upd H6 U (.tup j)=H7 at u ψ;refine sF (by show 2<=64;decide) λq8 H8 κ R g=>?_;have μ:=g _ _ (u _ _ (T5.t υ _ _ ν));refine k _ B r H8 (((T6.same u).same g).less Oo) ((B5.trans υ).trans (u.trans g).but) ?_ ⟨Oo,Oo,λx β=>(C x β).1,γ,λx β=>(C x β).2⟩;refine Y9T R (dA.tup μ (zJ B)) (dA.tup (g _ _ ψ) ((r6.same u).same g))
end
abbrev aAz(M:Nat)(bs mix cs:Ak):PyData:=.tuple [.int (M:Int),wZ bs,wZ mix,wZ cs]
def zI(M:Nat)(bs mix cs:Ak):iN (aAz M bs mix cs)=true:=by
 show(iN (.int (M:Int))&&(iN (wZ bs)&&(iN (wZ mix)&&(iN (wZ cs)&&true))))=true;rw[jY,jY,jY];rfl
def FnP(N B:Nat)(f:Fr):Prop:=Y42/\0<=f.1
inductive wV:Yq
 | i {H:Hp} {Q:VK} {E:XK} {p L:Addr} {n:Nat} (F:Y3K (n+4)) (k:∀v f H',Y5h n->Y12->Y2K f v->FnP 27720 1 f->Y1W):wV Y5d H Q E
def aDd{n d:Int}(h:0<=n):0<=(lw n d).1:=Yf2 h _
def smallz{d:Int}(h:d.natAbs<1024):d.natAbs<2^9000:=Y7J (show d.natAbs<2^10 from h)
section
def oQ5(F:Ye "_law_bound" "_law_bound" sQ5)(T:Yk)
  (FQ6:Y03 "_law_draw" a01 fF) (FQ8:Y03 "_law_frac" a29 kQ):dW P w K mg base dD 2 f fd a12 wV:=by
 refine F.oky cQ5 λX H Q E h=>?_;obtain @⟨H,Q,E,p,L,n,F,k⟩:=h;refine Yi;intro G A j s α _;refine⟨_,(aH (Ybi cQ5.nd (Y8R aO 0))
  (aH (Y1q cQ5.nd (Y3g (iM (Y4G (cR FQ6 (aD 0) (Y4u fS 1)) (cG gI (cR FQ6 (aD 0) (Y4u fS 1)) aO) (Y1p aO))) (Y8D 0)))
  (Y0Z (Y2k FQ8 2 1)))),?_⟩
 refine Yv;intro N J;refine Y8;refine Y3A (n+3) F (λd H1 γ η F1 O=>Y53 _ _ ?_);refine Yt;intro N J;have u:bits (1+d+1)<=64:=bitsle (aI (show(1+d+1).natAbs<=13 by exact Oo) Dd);refine Y5R _ _ _ _ rfl ?_;refine YcL (n+2) F1 u (λB H2 ι b2 F2 S=>Y5R _ _ _ _ rfl ?_);refine YcL (n+1) F2 u (λD H3 δ Z F3 M=>Y54 _ (Ya3 Kk) ?_);refine EA (by show 3<=64;decide) λκ H4 g C l=>Y8;refine Y3A n (F3.same l) (λa H5 ε θ F5 m=>?_);have W:∃y:Int,ED [V.int B,V.int (D/2),V.int 0] a=Yb y/\0<=y/\y<=1+d:=by
  have:a=0\/a=1\/a=2:=Oo;rcases this with rfl | rfl | rfl
  ·exact Y2h _ Oo Oo
  ·exact Y2h _ Oo Oo
  ·exact Y2h _ Oo Oo
 obtain⟨y,e,U,β⟩:=W;refine xH (m.at (F3.ne g) C) e (Y07 (kQ.i Oo (smallz Oo) ?_));intro ζ H6 R I r;have hd:(1+d).natAbs ∣ 27720:=by
  have:∀z:Nat,z<=12->1<=z->z ∣ 27720:=Dd;exact this _ Oo Oo
 exact k _ _ H6 (F5.same r) (((((O.trans S).trans M).trans l.but).trans m).trans r.but) (gF I) ⟨(Fn.of Oo Oo).dvd hd,aDd U⟩
end
theorem IA{H:Hp}{P:Y1c Fr}:∀{ys:Al},(∀(i:Nat) (y:V),Y1o=Y0b->∃f,Y2W f y/\P f)->∃fs:Ak,Y6P ys.length/\Y5v H iG ys/\∀f∈fs,P f
 | [],_=>⟨[],rfl,bD.nil,λf h=>by cases h⟩
 | y::ys,h=>by
  obtain⟨f,h1,h2⟩:=h 0 y rfl;obtain⟨fs,e,d,g⟩:=IA (ys:=ys) λi z c=>h (i+1) z (by simpa using c);refine⟨f::fs,by rw[cD,cD,e],bD.cons h1 d,λy a=>?_⟩;rcases bN.mp a with rfl | a
  ·exact h2
  ·exact g y a
inductive uF:Yq
 | i {H:Hp} {Q:VK} {E:XK} {p L:Addr} {n:Nat} (F:Y3K (n+3)) (k:∀v f H',Y5h n->Y12->Y2K f v->SE f->Y1W):uF Y5d H Q E
def ZA{n d:Int}(n0:0<=n)(n1:n<=999)(d0:0<d)(d1:d<=999):SE (lw n d):=by
 have h:=jZ (n:=n) d0;have q:=QP (n:=n) d0;have a:=aDd (n:=n) (d:=d) n0;exact⟨h,a,Oo,Oo⟩
inductive AO:Yq
 | i {H:Hp} {Q:VK} {E:XK} {p L:Addr} {n W M:Nat} (T:Y3K (n+64)) (h1:1<=W) (h2:W<=4) (h3:M<=6) (k:∀v bs mix cs H',Y5h n->Y12->dA H' (aAz M bs mix cs) v->Yd4 W->(∀f∈bs,FnP 27720 1 f)->GF W mix->Yd3 M->(∀f∈cs,SE f)->Y1W):AO [Y21,.int (W:Int),.int (M:Int)] H Q E
section
def aIW(F:Ye "_law_some" "_law_some" aEG)(T:Yk)
  (FQ6:Y03 "_law_draw" a01 fF) (FQ8:Y03 "_law_frac" a29 kQ):dW P w K mg base dD 2 f fd a12 uF:=by
 refine YdH aHc ?_;obtain @⟨H,Q,E,p,L,n,F,k⟩:=h;refine Yi;intro B A l s R _;refine⟨_,(aH (Y2d 1 aHc.nd FQ6 0 aO)
  (aH (Y6B (Y1I oU 1 aO) (Y35 aO aO))
  (aH (Y6B (Y1I oU 1 aO) (cR FQ8 (Y8R aO 0) (Y8R aO 0)))
  (Y0Z (cR FQ8 (Y8R aO 0) (Y8R aO 0)))))),?_⟩
 refine Yv;intro I G;refine Y8;refine Y3A (n+2) F (λS H1 U W F1 r=>Yt);intro I G;refine Y51 _ YbB
 ·exact sF (by show 2<=64;decide) λX H2 C J a=>k _ (0,1) H2 ((F1.same a).less Oo) (r.trans a.but) (gF J) ⟨TX,Dd,Dd,Dd⟩
 refine Y51 _ YbB
 ·refine Y8;refine Y3A (n+1) F1 (λu H2 M b2 F2 a=>Y5M _ _ _ ?_);refine Y3A n F2 (λz H3 D y F3 j=>Y53 _ _ ?_);refine kQ.i Oo (smallz Oo) ?_;intro N H4 m g d;exact k _ _ H4 (F3.same d) (((r.trans a).trans j).trans d.but) (gF g) (ZA Oo Oo Oo Oo)
 ·refine Y8;refine Y3A (n+1) F1 (λu H2 M b2 F2 a=>Y5M _ _ _ ?_);refine Y3A n F2 (λz H3 D y F3 j=>Y53 _ _ ?_);refine kQ.i Oo (smallz Oo) ?_;intro N H4 m g d;exact k _ _ H4 (F3.same d) (((r.trans a).trans j).trans d.but) (gF g) (ZA Oo Oo Oo Oo)
def oQ4(F:Ye "_law_aim" "_law_aim" sQ4)(T:Yk)
  (FQ5:Y3j "_law_bound" a12 wV) (FQ10:Y3j "_law_shares" a01 oH) (FQ11:Y3j "_law_some" a12 uF):dW P w K mg base dD 3 f fd a13 AO:=by
 refine Y17 cQ4;obtain @⟨H,Q,E,p,L,n,W,M,T0,w1,w4,m6,k⟩:=h;refine Yi;intro ι A G s hr _;refine⟨_,(aH (Y1r cQ4.nd (Y6s (by rfl) ["_law_k","_law_feed_here"] [0] (Y6O 1) (Y0D FQ5 1)))
  (aH (Y2d 4 cQ4.nd FQ10 0 Y0t)
  (Y9Z (Y4G Y0c Y0X (Y2i 4 (Y6s (by rfl) ["_law_k","_law_feed_here"] [0] (Y6O 2) (Y0D FQ11 1))))))),?_⟩
 refine Yv;intro υ μ;refine Y3p _ rfl _ Oo Oo (xQ (Ydw p L (n+64-4*i)) T0 (λi y H'=>∃f:Fr,Y2K f y/\FnP 27720 1 f) (λi y ψ φ s ⟨x,N,z⟩=>⟨x,N.flat s (dX x),z⟩) Oo (λi H' Q' ο F' ξ O=>?_) (λD g H1 χ α T1 Z η e=>?_))
 ·refine Y8;exact wV.i (n:=n+64-4*(i+1)) (YeT) λv f H2 T2 a d r=>O _ H2 T2 a ⟨f,d,r⟩
 ·obtain⟨bs,lb,ζ,fb⟩:=IA e;refine Y2R D (Y7o α);refine Yt;intro υ μ;have a:=Y7n g;have C:(upd H1 l (.tup g)) l=Yf g:=bH;generalize upd H1 l (.tup g)=H2 at a C;have T2:=T1.same a;have d:Y2l H2 bs Y1j:=dA.tup C (ζ.same a);refine Y02;refine oH.i (n:=n+30) (T2.less Oo) Oo Oo λv3 B H3 T3 ε τ I=>?_;have u:=d.flat (T2.t ε) (jY _);have B3:aW p H H3:=(Z.trans a.but).trans ε;have R:Yd4 W:=Oo;clear α e ζ η Z a C T1 d;refine⟨_,rfl,_,rfl,_,rfl,_,rfl,_,rfl,Oo,Oo,xQ (Ydw p L (n+30-3*i)) T3 (λi y H'=>∃f:Fr,Y2K f y/\SE f) (λi y ψ φ s ⟨x,N,z⟩=>⟨x,N.flat s (dX x),z⟩) Oo (λi H' Q' ο F' ξ O=>?_) (λD j H4 χ ρ T4 X hz U=>?_)⟩
  ·refine Y8;exact uF.i (n:=n+30-3*(i+1)) (YeT) λv f H2 T2 a d r=>O _ H2 T2 a ⟨f,d,r⟩
  ·obtain⟨cs,lc,ω,θ⟩:=IA U;refine Y8b D ρ (λJ m=>?_);have δ:=Y4a j m;have γ:(upd H4 J (.tup j)) J=Yf j:=bH;generalize upd H4 J (.tup j)=H5 at δ γ;refine sF (by show 4<=64;decide) λq6 H6 ν κ β=>?_;have S:=δ.trans β;have t:=T3.t X;refine k _ bs B cs H6 ((T4.same S).less Oo) ((B3.trans X).trans S.but) ?_ R fb I Oo θ;exact dA.tup κ (bD.cons (Y8L) (bD.cons ((u.flat t (jY _)).same S) (bD.cons ((τ.flat t (jY _)).same S) (Yce (dA.tup (β _ _ γ) (ω.same S))))))
end
abbrev aEy:Stmt:=(top 4)
def UZ:Yj ["number","above_nought","divided","divisor","rest"] a03 aEy:={}
abbrev aD4:Stmt:=(top 7)
def UY:Yj ["one","other","common","one_part","other_part","upper","left"] a00 aD4:={}
abbrev aEg:Stmt:=(top 8)
def aJt:Yj a00 a00 aEg:={}
abbrev aDT:Stmt:=(top 9)
def aFI:Yj ["one","other","first","second"] a00 aDT:={}
abbrev aEm:Stmt:=(top 11)
def aJw:Yj a00 a00 aEm:={}
abbrev aDR:Stmt:=(top 12)
def aCw:Yj ["some","whole","one"] a26 aDR:={}
abbrev aEi:Stmt:=(top 13)
def aCy:Yj ["some","place","k"] a26 aEi:={}
abbrev aEr:Stmt:=(top 17)
def aJy:Yj a18 a18 aEr:={}
abbrev aDP:Stmt:=(top 18)
def aJd:Yj a18 a18 aDP:={}
abbrev aDQ:Stmt:=(top 19)
def aJe:Yj ["trial","way"] ["trial","way"] aDQ:={}
abbrev aDO:Stmt:=(top 30)
def aAn:Yj ["trial","way","counts","product","share","count"] a04 aDO:={}
abbrev aD3:Stmt:=(top 31)
def UX:Yj ["share","count","upper","lower","step"] ["share","count"] aD3:={}
abbrev aEE:Stmt:=(top 32)
def aFM:Yj ["faces","most","found","many"] a47 aEE:={}
abbrev aBr:Stmt:=(top 33)
def aCB:Yj ["faces","many","found","first"] a27 aBr:={}
abbrev aEa:Stmt:=(top 35)
def aJo:Yj a45 a45 aEa:={}
abbrev aD9:Stmt:=(top 36)
def aJn:Yj a34 a34 aD9:={}
def EF.of{H H1:Hp}{Q:VK}{f:Fr}(s:aT H H1)(q:EF H Q f):EF H1 Q f:=λp H' a e c=>q p H' (s.free a) e (s.trans c)
inductive eN (K:Aa):Yq
 | i {H:Hp} {Q:VK} {E:XK} {x y:V} {f g:Fr} (h1:kU K H f x) (h2:kU K H g y) (l1:Y0m) (l2:eV g) (z1:Y5V) (z2:Y4P g) (q:EF H Q (nU f g)):eN K [x,y] H Q E
def yM(f:Fr):Fr:=(-f.1,f.2)
def xG{f:Fr}(h:Y0m):eV (yM f):=⟨h.pos,by show Y0W (-f.1) f.2;rw[Int.neg_gcd];exact h.low⟩
inductive qD (K:Aa):Yq
 | i {H:Hp} {Q:VK} {E:XK} {x y:V} {f g:Fr} (h1:kU K H f x) (h2:kU K H g y) (l1:Y0m) (l2:eV g) (z1:Y5V) (z2:Y4P g) (q:EF H Q (qR f (yM g))):qD K [x,y] H Q E
section
def aIO(F:Ye "common_divisor" "common_divisor" aEy)(T:Yk):dW P w K mg base dD 1 f fd a03 sB:=by
 refine F.oky UZ λI H Q E h=>?_;obtain @⟨H,Q,E,n,d,hd,q⟩:=h;refine Yi;intro u A j s J _;refine⟨_,(aH (Y1q UZ.nd Y04)
  (aH (Y1r UZ.nd Y0t)
  (aH (vW PassesOwn.never (Y1I aDa 3 aO) (aH (Y4T UZ.nd (Y2I oT 2 3))
  (aH (Y1q UZ.nd Y0X)
  (aV (Y1r UZ.nd Y1b)))))
  (Y2x 2)))),?_⟩
 refine Yv;intro z y;refine Y02;refine AI (λm σ H'=>Ex3 λ(a b:Int) (c:Am)=>An6 (σ=[Yb n,Yb d,Yb a,Yb b,c]) (0<=b) ((Int.gcd a b)=(Y9S n)) ((b=0->0<a)) (H'=H) (m=b.toNat))
  (λσ H'=>∃(c:Am),σ=[Yb n,Yb d,Yb (Y9S n),Yb 0,c]/\H'=H)
  _ ⟨n,d,none,rfl,Oo,rfl,Oo,rfl,rfl⟩ ?_ ?_
 ·rintro m σ H2 ⟨a,b,c,rfl,G,r,D,rfl,rfl⟩;refine Y51 _ (aGT (YbW) (YbW))
  ·have g:0<b:=by
    rcases Int.lt_or_eq_of_le G with h | h
    ·exact h
    ·exact absurd (Ye5 h.symm) e
   refine Yv;intro z y;refine⟨_,rfl,_,rfl,_,_,rfl,rfl,g,_,rfl,_,rfl,?_⟩;have p:=Int.emod_lt_of_pos a g;have B:=Yfh a b;exact⟨_,Oo,b,a % b,_,rfl,B,by rw[KN,r],λ_=>g,rfl,rfl⟩
  ·have l:b=0:=by injection e
   subst l;have C:=D rfl;have p:=RC C;rw[r]at p;rw[p];exact Yz c rfl
 ·rintro σ H2 ⟨c,rfl,rfl⟩;exact Y5 q
def aIj(F:Ye "plus" "plus" aD4)(T:Yk)
  (FQ19:Y03 "common_divisor" a03 sB):dW P w K mg base dD 2 f fd a00 (kF K):=by
 refine F.oky UY λβ H Q E h=>?_;obtain @⟨H,Q,E,x,y,⟨a,b⟩,⟨c,d⟩,U,X,S,I,Z,α,q⟩:=h;refine Yi;intro R A B s γ _;obtain⟨δ,rfl,u⟩:=U;obtain⟨ε,rfl,g⟩:=X;have C:0<d:=I.pos;obtain⟨J,zb⟩:=Z;obtain⟨M,r⟩:=α;dsimp only at J zb M r u g;have e:=kH (n:=b) C;have D:=yS (n:=b) C r;have j:=rB zb e;have z:=rB r e;have G:=kH (n:=a*(d/(Int.gcd b d:Int))+c*(b/(Int.gcd b d:Int))) e;have L:=yS (n:=a*(d/(Int.gcd b d:Int))+c*(b/(Int.gcd b d:Int))) e D;have eq:qR (a,b) (c,d)=_:=aBO S I;refine⟨_,(aH (Y1q UY.nd (cR FQ19 (Y1C) (Y1m)))
  (aH (Y1r UY.nd (Y1R gI Y1C 2))
  (aH (Y4T UY.nd (Y1R gI Y1m 2))
  (aH (cM (i:=5) UY.nd (Y6y (Y1R eZ Y1C 4) (Y1R eZ Y1m 3)))
  (aH (Y2d 6 UY.nd FQ19 5 Y0c)
  (Y0Z (Y35 (Y2I gI 5 6) (Y7p 3 (Y1R gI Y1m 6))))))))),?_⟩
 refine Yv;intro m l;refine Y1H u;refine Y1H g;refine sB.i C (Yt);intro m l;refine Y1H u;refine Y6E _ _ _ rfl (pL e (oA D)) Yt;intro m l;refine Y1H g;refine Y6E _ _ _ rfl (pL e (oA D)) Yt;intro m l;refine Y1H u;refine Y6E _ _ _ rfl (pA J z) (Y1H g);refine⟨_,rfl,_,_,rfl,rfl,pA M j,_,_,rfl,rfl,Yt⟩;intro m l;refine Y07 (sB.i e ?_);refine⟨_,rfl,_,rfl,_,_,rfl,rfl,pL G (oA L),Y8Y g⟩;refine⟨_,rfl,_,_,rfl,rfl,pL G (oA L),_,_,rfl,rfl,pA j (rB r G),?_⟩;refine sF (by show 2<=64;decide) λp H3 N O W=>q p H3 N ?_ W;rw[eq];exact O
def aH7(F:Ye "times" "times" aDT)(T:Yk)
  (FQ19:Y03 "common_divisor" a03 sB):dW P w K mg base dD 2 f fd a00 (eN K):=by
 refine YfM aFI ?_;obtain @⟨H,Q,E,x,y,⟨a,b⟩,⟨m,d⟩,R,X,C,I,⟨J,zb⟩,⟨L,u⟩,q⟩:=h;refine Yi;intro O A r s α _;obtain⟨β,rfl,g⟩:=R;obtain⟨γ,rfl,e⟩:=X;have B:0<b:=C.pos;have z:0<d:=I.pos;dsimp only at J zb L u g e;have j:=kH (n:=a) z;have l:=kH (n:=m) B;have G:=yS (n:=a) z u;have D:=yS (n:=m) B zb;have eq:nU (a,b) (m,d)=_:=WQ C I;refine⟨_,(aH (Y1q aFI.nd (cR FQ19 (Y1C) (Y1m)))
  (aH (Y1r aFI.nd (cR FQ19 (Y1m) (Y1C)))
  (Y0Z (Y35 (cG eZ (Y1R gI Y1C 2) (Y1R gI Y1m 3)) (cG eZ (Y1R gI Y1C 3) (Y1R gI Y1m 2)))))),?_⟩
 refine Yv;intro W S;refine Y1H g;refine Y1H e;refine sB.i z (Yt);intro W S;refine Y1H e;refine Y1H g;refine sB.i B (Y1H g);refine Y6E _ _ _ rfl (pL j (oA G)) (Y1H e);refine⟨_,rfl,_,_,rfl,rfl,pL l (oA D),_,_,rfl,rfl,pA (rB J j) (rB L l),Y1H g⟩;refine Y6E _ _ _ rfl (pL l (oA D)) (Y1H e);refine⟨_,rfl,_,_,rfl,rfl,pL j (oA G),_,_,rfl,rfl,pA (rB zb l) (rB u j),?_⟩;refine sF (by show 2<=64;decide) λp H3 M N U=>q p H3 M ?_ U;rw[eq];exact N
def aIv(F:Ye "less" "less" aEg)(T:Yk)
  (FQ50:Y6c 2 "plus" (kF K)):dW P w K mg base dD 3 f fd a00 (qD K):=by
 refine F.oky aJt λC H Q E h=>?_;obtain @⟨H,Q,E,x,y,f,g,r,z,n,u,B,j,q⟩:=h;refine Yi;intro m A a s G _;obtain⟨I,rfl,e⟩:=z;refine Y6S (cR FQ50 (aD 0) (Y35 (BO vK (Y1m)) Y1m)) (Y8Y e);refine Y5 (Y1H e);refine sF (by show 2<=64;decide) λp H3 D l d=>kF.i (kU.same d r) (kU.new (f:=yM g) l) n (xG u) B ⟨by show(-g.1).natAbs<_;rw[Int.natAbs_neg];exact j.1,j.2⟩ ?_;exact q.of d
def aIC(F:Ye "is_less" "is_less" aEm)(T:Yk):dW P w K mg base dD 1 f fd a00 (AM K):=by
 refine F.oky aJw λu H Q E h=>?_;obtain @⟨H,Q,E,x,y,⟨a,b⟩,⟨c,d⟩,l,p,⟨m,zb⟩,⟨n,r⟩,q⟩:=h;refine Yi;intro j A e s z _;obtain⟨B,rfl,i⟩:=l;obtain⟨C,rfl,g⟩:=p;refine Y6S (vI zR (cG eZ (Y1C) (Y1m)) (cG eZ (Y1m) (Y1C))) (Y1H i);refine Y1H g;refine Y54 _ (pA m r) (Y1H g);refine Y1H i;exact⟨_,_,rfl,rfl,pA n zb,_,_,rfl,rfl,q⟩
end
def mV{N B:Nat}{f:Fr}(h:Y42)(hN:0<N)(hz:N<Y0A)(hB:B<=2^700):Y5V:=by
 obtain⟨d,a⟩:=h.num hN;refine⟨?_,Y7R a hz⟩;have c:B*N<=2^700*Y0A:=YbR hB hz;exact Oo
structure aAC(fs:Ak):Prop where
 low:∀f∈fs,Y0m
 sz:∀f∈fs,Y5V
 part:∀i,eV (rA (Ybe))/\Y4P (rA (Ybe))
def xW{N B:Nat}{fs:Ak}(h:∀f∈fs,Y42)(hN:0<N)(hz:N<Y0A)(hl:Yb6 64)(hB:B<=2^690):aAC fs:=by
 have d:(2:Nat)^690<=2^700:=Y4N Dd;have c:64*(2:Nat)^690<=2^700:=by rw[show(64:Nat)=2^6 from rfl,<-Nat.pow_add];exact Y4N Dd
 refine⟨λf a=>(h f a).low,λf a=>mV (h f a) hN hz (aK hB d),λi=>?_⟩;have t:=Fn.tot (Ybe) λf a=>h f (List.mem_of_mem_take a);have l:(Ybe).length<=64:=by rw[gG];exact Oo
 have:(Ybe).length*B<=64*2^690:=Nat.mul_le_mul l hB;exact⟨t.low,mV t hN hz (aK this c)⟩
structure zM(K:Aa)(H:Hp)(fs:Ak)(xs:Al):Prop where
 len:Y5u fs.length
 at_:∀(i:Nat) (x:V),Y0p=Y7->∃f,fs[i]?=Y6v/\kU K H f x
theorem zM.of{K:Aa}{H:Hp}{fs:Ak}{xs:Al}(r:Y5v H iG xs):zM K H fs xs:=⟨iE r,λi x e=>by
 obtain⟨f,c,a⟩:=fO r e;exact⟨f,c,kU.of a⟩⟩
inductive jI (K:Aa):Yq
 | i {H:Hp} {Q:VK} {E:XK} {a:Addr} {xs:Al} {fs:Ak} (h:H a=Y0I) (r:zM K H fs xs) (ok:aAC fs) (q:∀v H',Y0->Y2K (rA fs) v->Y1W):jI K Y2n H Q E
section
def aH5(F:Ye "total" "total" aDR)(T:Yk)
  (FQ50:Y6c 2 "plus" (kF K)):dW P w K mg base dD 3 f fd a26 (jI K):=by
 refine F.oky aCw λn H Q E h=>?_;obtain @⟨H,Q,E,a,n,fs,z,r,ok,q⟩:=h;refine Yi;intro B A m s S _;have e:=r.len;refine⟨_,(aH (Ybi aCw.nd (Y35 aO aO))
  (aH (Y7M (dJ (Y04)) 2 aCw.nd (Y2d 1 aCw.nd FQ50 1 Y0c))
  (Y2x 1))),?_⟩
 refine Yv;intro I U;refine sF (by show 2<=64;decide) λX H0 N G s0=>Y5a _ a _ (s0 _ _ z) (Yda n (YaB (λw j=>An3 (σ=[Y3X,some w,j]) (Y0) (Y2K (rA (Ybe)) w))) (Y0i _ _ s0 (gF G)) (λi σ H' _ p=>?_) ?_)
 ·obtain⟨w,j,rfl,d,_⟩:=p;exact fV.of (d _ _ z)
 ·rintro i x σ H1 M ⟨w,j,rfl,d,l⟩;refine Y5A;intro I;obtain⟨g,u,C⟩:=r.at_ i x M;have y:=aF u;obtain⟨J,D⟩:=ok.part i;refine Y07 (kF.i (kU.of l) (kU.same d C) J (ok.low _ y) D (ok.sz _ y) ?_);intro W H2 R L O;refine Y0i _ _ (d.trans O) ?_;rw[hZ u,tV];exact gF L
 ·rintro σ H1 ⟨w,j,rfl,d,l⟩;refine Y8;rw[e,dY]at l;exact q _ H1 d l
end
@[irreducible] def qE:Sp:=λvs H Q _=>∃a fs,vs=Y2n/\(∃xs,H a=Y0I/\Y5v H iG xs)/\(∀f∈fs,Y0m/\Y5V)/\Y8G 0/\Yb6 64/\∀p y,jD fs fs.length p y->Y1T (p:Nat)
def JO{H:Hp}{Q:VK}{E:XK}{a:Addr}{xs:Al}{fs:Ak}(h:H a=Y0I)(r:Y5v H iG xs)(ok:∀f∈fs,Y0m/\Y5V)(h0:Y8G 0)(h1:Yb6 64)(q:∀p y,jD fs fs.length p y->Y1T (p:Nat)):qE Y2n H Q E:=by unfold qE;exact⟨a,fs,rfl,⟨xs,h,r⟩,ok,h0,h1,q⟩
def jD.min{fs:Ak}{p:Nat}{y:Fr}(L:jD fs fs.length p y)(ok:∀f∈fs,Y0m):rv y=lJ (YcV):=by
 have a:=aF L.at_;refine(AY (Y32 y a) λx e=>?_).symm;obtain⟨f,d,rfl⟩:=aN.mp e;obtain⟨j,c⟩:=fP.mp d;have:=L.no j f (aC.mp c).1 c;exact Rat.not_lt.mp λq=>this ((aGv (ok f d).pos (ok y a).pos).mpr q)
section
def aIx(F:Ye "least_place" "least_place" aEi)(T:Yk)
  (FQ31:Y03 "is_less" a00 (AM K)):dW P w K mg base dD 2 f fd a26 qE:=by
 refine F.oky aCy λC H Q E h=>?_;unfold qE at h;obtain⟨a,fs,rfl,⟨C,u,j⟩,ok,M,Z,q⟩:=h;refine Yi;intro I A r s U _;have D:=iE j;refine⟨_,(aH (Ybi aCy.nd aO)
  (aH (Y7M (SO rfl T.b_range (Y2f aO (Y9P nV (by rfl) Kk 0))) 2 aCy.nd (iR (sH (cR FQ31 (Y3n 0 Y0c) (Y3n 0 Y0t))) (aV (Ybi aCy.nd Y0c)) fR))
  (Y2x 1))),?_⟩
 refine Yv;intro J W;refine Y5 (rlL u ?_);refine Y0i _ _ ⟨Oo,Oo,Oo,Oo⟩ ?_;have m:∃y,fs[0]?=Y0b:=Y56 M;obtain⟨O,m⟩:=m;refine mQ (Ye1 (λ(p:Nat) (y:Fr) (g:Am)=>An3 (σ=[Y3X,Yb (p:Int),g]) (H'=H) (jD fs (i+1) p y))) (Y6e 0 O _ rfl (jD.one m)) ?_ ?_
 ·rintro i σ H1 α ⟨p,y,g,rfl,rfl,L⟩;refine Y5A;intro J;have n:Y8G (i+1):=Oo;have d:fs[i+1]?=some fs[i+1]:=aB n;generalize fs[i+1]=z at d;obtain⟨X,B,R⟩:=kG j d;obtain⟨β,l,N⟩:=kG j L.at_;have G:(1:Int)+(i:Int)=((i+1:Nat):Int):=Oo;rw[G];refine Y07 (Y5Q u B);refine Y07 (Y5Q u l);refine AM.i (kU.of R) (kU.of N) (ok _ (aF d)).2 (ok _ (aF L.at_)).2 (Y5 YbB)
  ·exact Y5 (Y6e (i+1) z _ rfl (L.next (λf S=>(ok f S).1) d e))
  ·exact Y6e p y _ rfl (L.stay d e)
 ·rintro σ H1 ⟨p,y,g,rfl,rfl,L⟩;refine Y8;have:((C.length:Int)-1).toNat+1=fs.length:=Oo;rw[this]at L;exact q p y L
end
abbrev tK(cs:Ae):PyData:=.tuple (cs.map λ(n:Nat)=>PyData.int (n:Int))
theorem LC:∀cs:Ae,kA (cs.map λ(n:Nat)=>PyData.int (n:Int))=true
 | []=>rfl
 | f::fs=>by show(iN (.int f)&&kA (fs.map λ(n:Nat)=>PyData.int (n:Int)))=true;rw[LC fs];rfl
def qN(cs:Ae):iN (tK cs)=true:=LC cs
def BH(K:Aa)(H:Hp)(f:Fr)(x:V):Prop:=Y2W f x\/∃a,x=Yd/\vP K a [f.1,f.2]=true
def BH.v{K:Aa}{H:Hp}{f:Fr}{x:V}(h:BH K H f x):kU K H f x:=by
 rcases h with h | ⟨a,e,h⟩
 ·exact kU.of h
 ·exact Y2r e (wI h)
def BH.t{K:Aa}{H H':Hp}{f:Fr}{x:V}(s:Y2B)(h:BH K H f x):BH K H' f x:=by
 rcases h with h | h
 ·exact .inl (h.flat s (dX f))
 ·exact .inr h
def BH.same{K:Aa}{H H':Hp}{f:Fr}{x:V}(s:Y0)(h:BH K H f x):BH K H' f x:=h.t s.t
def WK{H:Hp}{fs:Ah}{ws:Y0l}{v:V}(h:Y3f v):∃a af aw xf xw,v=Yd/\H a=Yf [.ref af,.ref aw]/\H af=Yf xf/\H aw=Yf xw/\Y5v H .str xf/\Y1n (ws.map wD) xw:=by
 obtain⟨a,n,rfl,e,j⟩:=lK h;obtain⟨x,y,rfl,m,c⟩:=DS j;obtain⟨af,xf,rfl,i,d⟩:=lK m;obtain⟨aw,xw,rfl,l,g⟩:=lK c;exact⟨a,af,aw,xf,xw,rfl,e,i,l,d,g⟩
inductive jO:Yq
 | i {H:Hp} {Q:VK} {E:XK} {v:V} {fs:Ah} {ws:Y0l} (h:Y3f v) (q:Y1T (ws.length:Nat)):jO [v] H Q E
inductive GZ:Yq
 | i {H:Hp} {Q:VK} {E:XK} {v:V} {fs:Ah} {ws:Y0l} {w:Str × Ak} {i:Nat} (h:Y3f v) (hw:ws[i]?=some w) (q:∀x,Y2l H w.2 x->Q x H):GZ [v,.int (i:Int)] H Q E
structure BOk(B:Nat)(fs:Ak):Prop where
 low:∀f∈fs,Y0m
 up:∀f∈fs,f.1.natAbs<=2^B
 dn:∀f∈fs,f.2.natAbs<=2^B
inductive wN (K:Aa):Yq
 | i {H:Hp} {Q:VK} {E:XK} {x:V} {f:Fr} {c B:Nat} (h:kU K H f x) (h1:f.1.natAbs<=2^B) (h2:f.2.natAbs<=2^B) (h3:B<=4000) (h5:c<=4000) (h4:B*c<=4000) (q:EF H Q (zY f c)):wN K [x,.int (c:Int)] H Q E
def HM{x:Int}{n:Nat}(h:x.natAbs<=2^n)(hn:n<=4000):Y5O (2^4001):=aI h (Ygd Oo)
def WY{f:Fr}{n:Nat}(h1:f.1.natAbs<=2^n)(h2:f.2.natAbs<=2^n){k:Nat}(hk:n<k):vU k f:=⟨aI h1 (Ygd hk),aI h2 (Ygd hk)⟩
inductive jN (K:Aa):Yq
 | i {H:Hp} {Q:VK} {E:XK} {v cv:V} {fs:Ah} {ws:Y0l} {w:Str × Ak} {cs:Ae} {i:Nat} (h:Y3f v) (hw:ws[i]?=some w) (hc:Y52 H cs cv) (ok:Y7l w.2) (hs:cs.sum<=390) (q:∀x H',Y0->BH K H' (nR (w.2.zip cs)) x->Q x H'):jN K [v,.int (i:Int),cv] H Q E
def aA2{α β:Type}{l:Yu}{m:Ya6}{i:Nat}{a:α}{b:β}(h1:l[i]?=Y7a)(h2:m[i]?=some b):(l.zip m)[i]?=some (a,b):=by rw[List.getElem?_zip_eq_some];exact⟨h1,h2⟩
def aA1{α:Type}(l:Yu)(m:Ae)(i:Nat):(((l.zip m).take i).map (·.2)).sum<=m.sum:=by
 induction l generalizing m i with
 | nil=>simp
 | cons a l ih =>
  cases m with
  | nil=>simp
  | cons b m =>
   cases i with
   | zero=>simp
   | succ i =>
    have:=ih m i;simp only[List.zip_cons_cons,List.take_succ_cons,bA,List.sum_cons];exact Oo
def rL{α β:Type}{l:Yu}{m:Ya6}{i:Nat}{z:α × β}(h:z∈(l.zip m).take i):z.1∈l:=(List.of_mem_zip (a:=z.1) (b:=z.2) (List.mem_of_mem_take h)).1
def aBi{m:Ae}{i c:Nat}(h:m[i]?=Y1h):c<=m.sum:=by
 induction m generalizing i with
 | nil=>simp at h
 | cons a m ih =>
  rw[List.sum_cons];cases i with
  | zero=>cases(show a=c by simpa using h);exact Oo
  | succ i=>have:=ih (i:=i) (by simpa using h);exact Oo
section
def aH3(F:Ye "ways_of" "ways_of" aDP)(T:Yk):dW P w K mg base dD 1 f fd a18 jO:=by
 refine F.oky aJd λl H Q E h=>?_;obtain @⟨H,Q,E,v,fs,u,h,q⟩:=h;refine Yi;intro g A d s m _;obtain⟨a,n,r,z,p,rfl,i,B,j,y,e⟩:=WK h;refine Y6S (jE nV (by rfl) T.b_len Kk (Y1p Y1C)) (Y0n i);refine rlT j ?_;rw[iE e];exact q
def aH4(F:Ye "way_shares" "way_shares" aDQ)(T:Yk):dW P w K mg base dD 1 f fd ["trial","way"] GZ:=by
 refine F.oky aJe λD H Q E h=>?_;obtain @⟨H,Q,E,v,fs,O,w,i,h,l,q⟩:=h;refine Yi;intro m A e s I _;obtain⟨a,L,N,S,M,rfl,n,J,p,R,g⟩:=WK h;obtain⟨u,B,ru⟩:=kG g l;obtain⟨b,U,rfl,C,d⟩:=lK ru;obtain⟨y,z,rfl,G,r⟩:=DS d;refine Y6S (Y3g (Y3g Y1C Y0t) aO) (Y0n n);refine Y5 (jK p (dB (j:=i) B) ?_);exact jK C rfl (q _ r)
def aIi(F:Ye "power" "power" aD3)(T:Yk):dW P w K mg base dD 1 f fd ["share","count"] (wN K):=by
 refine F.oky UX λJ H Q E h=>?_;obtain @⟨H,Q,E,x,f,n,B,⟨a,rfl,p⟩,j,m,r,M,y,q⟩:=h;refine Yi;intro z A e s L _;refine⟨_,(aH (Y1q UX.nd aO)
  (aH (Y1r UX.nd aO)
  (aH (gH PassesOwn.never rfl (Y6O 1) (Y9h 4 UX.nd) (aH (Y1q UX.nd (Y7p 2 Y1C))
  (aV (Y1r UX.nd (Y7p 3 Y1C)))))
  (Y9Z (Y2i 2 Y0X))))),?_⟩
 refine Yv;intro I C;refine Y3p _ rfl _ Oo Oo (mQ (Ygc (λd=>An2 (σ=[Y3X,Yb (n:Int),Yb (f.1^i),Yb (f.2^i),d]) (H'=H))) (Y0V (by rw[Int.pow_zero,Int.pow_zero];rfl)) ?_ ?_)
 ·rintro i σ H1 N ⟨d,rfl,rfl⟩;refine Y9V;intro I C;have l:B*i<=4000:=aK (dI _ Oo) y;refine Y8Y p;refine Y54 _ (pA (HM (yJ j i) l) (HM j r)) (Y8Y p);exact Y54 _ (pA (HM (yJ m i) l) (HM m r)) (Y0V (by rw[Int.pow_succ,Int.pow_succ];rfl))
 ·rintro σ H1 ⟨d,rfl,rfl⟩;refine Y02;exact sF (by show 2<=64;decide) λG H3 g u D=>q G H3 g (by rw[u];rfl) D
def aH2(F:Ye "weight" "weight" aDO)(T:Yk)
  (FQ65:Y03 "way_shares" ["trial","way"] GZ) (FQ62:Y6Y 2 "times" K) (FQ51:Y03 "power" ["share","count"] (wN K)):dW P w K mg base dD 3 f fd a04 (jN K):=by
 refine Y17 aAn;obtain @⟨H,Q,E,v,cv,fs,ws,w,a,j,h,ψ,χ,ok,hs,q⟩:=h;refine Yi;intro α A C s hr _;refine⟨_,(aH (Y1r aAn.nd (YbN YcH T.g_ONE rfl))
  (aH (Y6d (kZ true true rfl T.b_zip (Y2f (Y2k FQ65 0 1) Y0c)) (mJ rfl (eK (Y9h 4 aAn.nd) (eK (Y9h 5 aAn.nd) kD))) (Y2d 3 aAn.nd FQ62 3 (Y2k FQ51 4 5)))
  (Y2x 3))),?_⟩
 refine Yv;intro η n_;refine Y02;refine GZ.i h ψ λx κ=>?_;obtain⟨ξ,O,rfl,U,X⟩:=lK κ;obtain⟨L,R,rfl,N,I⟩:=lK χ;refine⟨_,rfl,ξ,L,O,R,rfl,U,N,?_⟩;have ω:=iE X;have τ:=iE I;have W:∀i,∀z∈(w.2.zip a).take i,eV z.1:=λi z d=>ok.low _ (rL d);have zb:∀i,∀z∈(w.2.zip a).take i,z.1.1.natAbs<=2^10/\z.1.2.natAbs<=2^10:=λi z d=>⟨ok.up _ (rL d),ok.dn _ (rL d)⟩;refine uO (Ye1 (λx p u=>An3 (σ=[Yw,Yb (j:Int),Y3 L,Y7,p,u]) (Y0) (BH K H' (nR ((w.2.zip a).take i)) x))) (Y6e _ _ _ Y06 (.inr (Y5 T.o_ONE))) (λi σ H' ⟨x,p,u,_,J,_⟩=>⟨J _ _ U,J _ _ N⟩) ?_ ?_
 ·rintro i y z ο σ H1 H2 Z d ⟨x,p,u,rfl,m,r⟩ ε ν D;obtain⟨g,M,β⟩:=fO X Z;obtain⟨n,S,μ⟩:=fO I d;cases(show z=V.int (n:Int)from μ);have l:=aF M;have nn:=aBi S;refine⟨ο,_,rfl,jC.of ν,rfl,_,_,rfl,_,_,rfl,rfl,Y2N⟩;intro η;refine Y2O (wN.i (B:=10) (kU.of (β.same (m.trans D))) (ok.up _ l) (ok.dn _ l) Dd Oo Oo ?_);intro q4 H4 θ ζ G;obtain⟨ι,b2⟩:=aA8 ((w.2.zip a).take i) (W i) (zb i);have zs:=aA1 w.2 a i;have δ:=yJ (ok.up _ l) n;have γ:=yJ (ok.dn _ l) n;refine eN.i (kU.same (D.trans G) r.v) (kU.new (f:=zY g n) ζ) (sI _ (W i)) (oR (ok.low _ l) n) (WY ι b2 Oo) (WY δ γ Oo) ?_;intro q5 H5 υ ρ φ;refine Y6e _ _ _ (((m.trans D).trans G).trans φ) ?_;rw[hZ (aA2 M S),yA];exact .inl (gF ρ)
 ·rintro σ H1 ⟨x,p,u,rfl,m,r⟩;refine Y5 (q _ H1 m ?_);have e:(w.2.zip a).take (min O.length R.length)=w.2.zip a:=List.take_of_length_le (by rw[List.length_zip];exact Oo)
  rwa [e]at r
end
inductive jX:Yq
 | i {H:Hp} {Q:VK} {E:XK} {v:V} {fs:Ah} {ws:Y0l} (h:Y3f v) (q:Y1T (fs.length:Nat)):jX [v] H Q E
section
def aIH(F:Ye "faces_of" "faces_of" aEr)(T:Yk):dW P w K mg base dD 1 f fd a18 jX:=by
 refine F.oky aJy λm H Q E h=>?_;obtain @⟨H,Q,E,v,fs,z,h,q⟩:=h;refine Yi;intro e A d s n _;obtain⟨a,p,u,B,r,rfl,g,l,y,i,j⟩:=WK h;refine Y6S (jE nV (by rfl) T.b_len Kk (Y1p Y1C)) (Y0n g);refine rlT l ?_;rw[iE i];exact q
end
def nP(H:Hp)(a:Addr)(cs:Ab):Prop:=∃vs,H a=Yc vs/\Ycw tK vs
theorem lX:∀cs:Ab,kA (cs.map tK)=true
 | []=>rfl
 | c::cs=>by show(iN (tK c)&&kA (cs.map tK))=true;rw[lX cs,qN];rfl
theorem nP.same{H H':Hp}{a:Addr}{cs:Ab}(h:nP H a cs)(s:Y0):nP H' a cs:=by
 obtain⟨c,e,d⟩:=h;exact⟨c,s _ _ e,d.same s⟩
def nP.len{H:Hp}{a:Addr}{cs:Ab}(h:nP H a cs):∃vs,H a=Yc vs/\Ycw tK vs/\Y4O cs.length:=by
 obtain⟨vs,d,c⟩:=h;exact⟨vs,d,c,iE c⟩
theorem bD.app{H:Hp}:∀{ds es:Y1f}{xs ys:Al},Y9J xs->Y1n es ys->Y1n (ds++es) (xs++ys)
 | [],es,xs,ys,h1,h2=>by
  have:xs=[]:=h1;subst this;exact h2
 | d::ds,es,xs,ys,h1,h2=>by
  unfold bD at h1;obtain⟨x,a,rfl,e,c⟩:=(show ∃x a,xs=x::a/\dA H d x/\bD H ds a from h1);exact bD.cons e (bD.app c h2)
def qM{α:Type}(g:Y1F Yu)(i:Nat):(List.range (i+1)).flatMap g=(List.range i).flatMap g++g i:=by
 rw[List.range_succ,List.flatMap_append];simp
@[irreducible] def oP(n:Nat):Sp:=λvs H Q _=>∃F m:Nat,vs=[.int (F:Int),.int (m:Int)]/\1<=F/\F<=n/\F<=4/\m<=5/\∀a H',Y0->H a=none->nP H' a (cta F m)->Y0r a
def XE{n:Nat}{H:Hp}{Q:VK}{E:XK}{F m:Nat}(h1:1<=F)(h2:F<=n)(h4:F<=4)(h3:m<=5)(q:∀a H',Y0->H a=none->nP H' a (cta F m)->Y0r a):oP n [.int (F:Int),.int (m:Int)] H Q E:=by unfold oP;exact⟨F,m,rfl,h1,h2,h4,h3,q⟩
def JQ{n:Nat}{H:Hp}{Q:VK}{E:XK}{F m:Nat}{x y:Int}(ex:x=(F:Int))(ey:y=(m:Int))(h1:1<=F)(h2:F<=n)(h4:F<=4)(h3:m<=5)(q:∀a H',Y0->H a=none->nP H' a (cta F m)->Y0r a):oP n [.int x,.int y] H Q E:=by
 subst ex ey;exact XE h1 h2 h4 h3 q
inductive uJ:Yq
 | i {H:Hp} {Q:VK} {E:XK} {F m:Nat} (h1:1<=F) (h4:F<=4) (h3:m<=5) (q:∀a H',Y0->H a=none->nP H' a ((List.range (m+1)).flatMap (cta F))->Y0r a):uJ [.int (F:Int),.int (m:Int)] H Q E
def yV:∀F,F<=4->∀m,m<=5->(cta F m).length<=56:=Kk
def NJ:∀F,F<=3->∀m,m<=5->∀i,i<=6->((List.range i).flatMap λk=>(cta F (m-k)).map λc=>k::c).length<=400:=Kk
def zD:∀F,F<=4->∀i,i<=6->((List.range i).flatMap (cta F)).length<=400:=Kk
def aAf{F m:Nat}{c:Ae}(h:c∈cta F m):Y0T:=(iP h).1
section
def aHJ(F:Ye "counts_that_are" "counts_that_are" aBr)(T:Yk):dW P w K mg base dD 1 f fd a27 (oP 0):=by
 refine F.okw aCB (λd H Q E h=>?_) (λg A a s H d Q E j h=>?_)
 ·unfold oP at h;obtain⟨F,m,_,i,e,_⟩:=h;exact Oo
 ·unfold oP at h;obtain⟨F,m,_,i,e,_⟩:=h;exact Oo
def aIJ(n:Nat)(F:Ye "counts_that_are" "counts_that_are" aBr)(T:Yk)(FQ24:Y10 (1+n) "counts_that_are" a27 (oP n)) :
  dW P w K mg base dD (1+n+1) f fd a27 (oP (n+1)):=by
 refine YfM aCB ?_;unfold oP at h;obtain⟨F,m,rfl,δ,X,h4,υ,q⟩:=h;refine Yi;intro ζ A C s ο _;refine⟨_,(aH (Y6B (Y1I oU 0 aO) (iM (Y1p (fD (Y3L 1)))))
  (aH (Y1q aCB.nd (iM aS))
  (aH (Y6d (Y7G (Y4u fS 1)) (YaA 3 aCB.nd rfl rfl) (kW (Yfc NO Y0c (Y1p (Y7r ["rest","first"] [3] (dJ (sJ FQ24 (ο.mono Oo) (Y2f (Y4u pR 0) (Y2I pR 1 3)))) (Y1R (HL K) (fD (Y3L 1)) 0))))))
  (Y2x 2)))),?_⟩
 refine Yv;intro W n_;refine Y51 _ YbB
 ·have γ:F=1:=by injection e with e;exact Oo
  refine Y2N;intro W;subst γ;refine Y8;refine sF (by show 1<=64;decide) λp0 H0 μ κ s0=>EA (by show 1<=64;decide) λp1 H1 u r g=>q p1 H1 (s0.trans g) (s0.free u) (Y05 _ r);exact Yce (dA.tup (g _ _ κ) (Yce Y8L))
 ·have γ:F≠1:=Yaf (by rw[z];rfl);obtain⟨G,rfl⟩:∃G,F=G+2:=Y2Q (F-2);refine EA (by show 0<=64;decide) λL H1 S r g=>⟨_,rfl,_,_,rfl,rfl,_,rfl,Oo,Oo,?_⟩;rw[show((m:Int)+1).toNat=m+1 by exact Oo];refine mQ (Ygc (λJ=>An3 (σ=[Yb ((G+2:Nat):Int),Yb (m:Int),Y3 L,J]) (Y0) (nP H' L ((List.range i).flatMap λk=>(cta (G+1) (m-k)).map λc=>k::c)))) ⟨_,rfl,g,[],r,bD.nil⟩ ?_ ?_
  ·rintro i σ H2 hi ⟨J,rfl,I,Z,B,R⟩;refine Y5A;intro W;have lv:=iE R;have ψ:=NJ (G+1) Oo m υ i Oo;refine Y2h _ (VL B) (Y6D _ _ _ rfl (Y5R _ _ _ _ rfl ?_));refine JQ (F:=G+1) (m:=m-i) Oo Oo Oo Oo Oo Oo λb H3 s3 hb l3=>?_;obtain⟨ws,α,τ,χ⟩:=l3.len;have ω:=yV (G+1) Oo (m-i) Oo;refine Y1E b α (dO (λj y H'=>∃c,(cta (G+1) (m-i))[j]?=Y1h/\Y52 H' (i::c) y) (λj y H1 H2 s ⟨c,δ,X⟩=>⟨c,δ,X.flat s (qN _)⟩) Oo α (λj x H' Q' φ ν k'=>?_) (λD ys H4 hD O η ε N=>?_))
   ·obtain⟨c,l,M⟩:=fO τ φ;obtain⟨ac,xc,rfl,p,d⟩:=lK (M.same ν);have lc:=iE d;have lc2:=aAf (aF l);refine Y8;refine sF (by show 1<=64;decide) λp4 H5 θ ξ a=>Y8;refine aFH ξ (a _ _ p) (by simp only[cD,List.length_nil];exact Oo) λp5 H6 U ι=>k' _ H6 (a.trans U) ⟨c,l,dA.tup ι ?_⟩;rw[show(0:Int)+(i:Int)=(i:Int)by exact Oo];exact bD.cons (Y8L) (d.same (a.trans U))
   ·have S4:=s3.trans η;refine aFA (S4 _ _ B) O Oo λH5 e5 a=>?_;have β:=a.t (S4 _ _ B);refine⟨_,rfl,aT.thru S (I.trans S4) a,Z++ys,e5,?_⟩;rw[qM,bF];refine bD.app (YcD β _ (R.same S4)) (YcD β _ ?_);refine bD.ofIdx (by rw[ε,aA,aA];exact Oo) λj y hj=>?_;obtain⟨c,l,M⟩:=N j y hj;exact Y0J (by rw[aE,aE,l];rfl) M
  ·rintro σ H2 ⟨J,rfl,I,ρ⟩;exact Y5 (q L H2 I S ρ)
def aIU(F:Ye "all_counts" "all_counts" aEE)(T:Yk)(FQ24:Y10 5 "counts_that_are" a27 (oP 4)) :
  dW P w K mg base dD 6 f fd a47 uJ:=by
 refine F.oky aFM λn H Q E h=>?_;obtain @⟨H,Q,E,F,m,D,a,α,q⟩:=h;refine Yi;intro C A g s X _;refine⟨_,(aH (Y1q aFM.nd (iM aS))
  (aH (Y7M (Y7G (Y4u fS 1)) 3 aFM.nd (kW (Yfc NO Y0c (Y1p (Y2k FQ24 0 3)))))
  (Y2x 2))),?_⟩
 refine Yv;intro M Z;refine EA (by show 0<=64;decide) λL H1 y W O=>⟨_,rfl,_,_,rfl,rfl,_,rfl,Oo,Oo,?_⟩;rw[show((m:Int)+1).toNat=m+1 by exact Oo];refine mQ (Ygc (λl=>An3 (σ=[Yb (F:Int),Yb (m:Int),Y3 L,l]) (Y0) (nP H' L ((List.range i).flatMap (cta F))))) ⟨_,rfl,O,[],W,bD.nil⟩ ?_ ?_
 ·rintro i σ H2 β ⟨l,rfl,j,n,e,u⟩;refine Y5A;intro M;have γ:=iE u;have U:=zD F a i Oo;refine Y2h _ (VL e) Y02;refine JQ (F:=F) (m:=i) rfl Oo D a a Oo λb H3 d δ z=>?_;obtain⟨R,B,J,S⟩:=z.len;have G:=yV F a i Oo;refine aFA (d _ _ e) B Oo λH5 N p=>?_;have r:=p.t (d _ _ e);refine⟨_,rfl,aT.thru y (j.trans d) p,n++R,N,?_⟩;rw[qM,bF];exact bD.app (YcD r _ (u.same d)) (YcD r _ J)
 ·rintro σ H2 ⟨l,rfl,j,I⟩;exact Y5 (q L H2 j y I)
end
abbrev FV(n:Nat):V:=.int (n:Int)
theorem LI{H:Hp}:∀cs:Ae,Ycw (λ(n:Nat)=>PyData.int (n:Int)) (cs.map FV)
 | []=>bD.nil
 | n::cs=>bD.cons (dA.int _) (LI cs)
theorem GG{H:Hp}:∀{cs:Ae}{xs:Al},Ycw (λ(n:Nat)=>PyData.int (n:Int)) xs->xs=cs.map FV
 | [],xs,h=>h
 | n::cs,xs,h=>by
  unfold bD at h;obtain⟨x,xs',rfl,hx,hr⟩:=(show ∃x xs',xs=x::xs'/\dA H (PyData.int (n:Int)) x/\bD H (cs.map λ(n:Nat)=>PyData.int (n:Int)) xs' from h);rw[GG hr];cases(show x=V.int (n:Int)from hx)
  rfl
def hV{H:Hp}{cs:Ae}{v:V}(h:Y52 H cs v):∃a,v=Yd/\H a=Yf (cs.map FV):=by
 obtain⟨a,e,rfl,c,d⟩:=lK h;rw[GG d]at c;exact Yz a c
def vT{H:Hp}{cs:Ae}{a:Addr}(h:H a=Yf (cs.map FV)):Y52 H cs Yd:=dA.tup h (LI cs)
def aAt{cs:Ae}{i:Nat}(h:i<cs.length):bS cs i=cs.take i++[Yd8 0+1]++cs.drop (i+1):=by
 unfold bS;rw[List.set_eq_take_append_cons_drop,Y4W,List.append_assoc]
 rfl
def aBk{K:Aa}{H:Hp}{a:Addr}{xs:Al}{k:Nat}{z:Int}{Q:VK}(hz:z=(k:Int))(h:H a=Y16)(q:∀c H',Y0->H' c=Yf (xs.drop k)->Y0r c):NE K (Yd) (Y83) none H Q:=by
 subst hz;exact aDH h q
inductive pF:Yq
 | i {H:Hp} {Q:VK} {E:XK} {x:V} {cs:Ae} {i:Nat} (h1:Y52 H cs x) (h2:i<cs.length) (h3:cs.length<=64) (k:∀v H',Y0->Y52 H' (bS cs i) v->Y1W):pF [x,.int (i:Int)] H Q E
inductive fY:Yq
 | i {H:Hp} {Q:VK} {E:XK} {x:V} {cs:Ae} (h1:Y52 H cs x) (h3:cs.length<=64) (k:Y3v (H D=none) (Y0F=Y0w->bD H' (((List.range cs.length).map (bS cs)).map tK) ys->Y0->Y18)):fY [x] H Q E
section
def aIp(F:Ye "one_more" "one_more" aEa)(T:Yk):dW P w K mg base dD 1 f fd a45 pF:=by
 refine F.oky aJo λL H Q E h=>?_;obtain @⟨H,Q,E,x,d,i,J,r,S,k⟩:=h;refine Yi;intro z A l s M _;obtain⟨a,rfl,j⟩:=hV J;refine Y6S (cG (HL K) (cG (HL K) (oK (QA K) (Y04) qY (qW (Y0t))) (fD (Y1p (Y6y (Y3n 0 Y0t) aO)))) (oK (QA K) (Y04) (qW (Y4u fS 1)) qY)) Y4q;refine aDI j λR H2 m G=>Y02;have g:ED (d.map FV) (i:Int)=some (FV (Y7O i)):=dB (by rw[aE,aM,aB r];rfl);refine jK (m _ _ j) g (Y53 _ _ ?_);refine sF (by show 1<=64;decide) λU H3 D y e=>aFH (e _ _ G) y (by rw[gG,aA];show min i d.length+1<=1000;exact Oo) λW H4 n u=>Y5R _ _ _ _ rfl ?_;refine Y8;refine aBk (k:=i+1) Oo (n _ _ (e _ _ (m _ _ j))) λN H5 p I=>aFH (p _ _ u) I (by rw[aU,gG,List.length_drop,aA];show min i d.length+1+(d.length-(i+1))<=1000;exact Oo) λO H6 C B=>k _ H6 ((((m.trans e).trans n).trans p).trans C) (vT ?_);rw[B,aAt r,bF,bF,List.map_take,List.map_drop]
 rfl
def aIo(F:Ye "ones_more" "ones_more" aD9)(T:Yk)(FQ44:Y03 "one_more" a45 pF):dW P w K mg base dD 2 f fd a34 fY:=by
 refine YdH aJn ?_;obtain @⟨H,Q,E,x,l,p,M,k⟩:=h;refine Yi;intro u A j s R _;obtain⟨a,rfl,L⟩:=hV p;refine Y6g _ (Y7r ["face","counts"] [0] (Y7G (Y9P nV (by rfl) Kk 0)) (Y2k FQ44 1 0));refine Y5 (rlT L ?_);rw[aA];refine⟨_,rfl,Oo,Oo,Yb4 (Ya2 i/\Y52 H' (bS l i) y) (λi y H1 H2 s ⟨d,g⟩=>⟨d,g.flat s (qN _)⟩) Oo (λi H' Q' r N C=>?_) (λD I H4 J n z e m=>?_)⟩
 ·rw[Int.zero_add];refine Y02;exact pF.i (p.same N) Oo M λv H5 G B=>C _ H5 G ⟨Oo,B⟩
 ·refine k D I H4 J n ?_ z;refine bD.ofIdx (by rw[e,aA,aA,aQ];exact Oo) λi y r=>?_;obtain⟨d,g⟩:=m i y r;exact⟨tK (bS l i),by rw[aE,aE,aZ d];rfl,g⟩
end
abbrev aDL:Stmt:=(top 66)
def aAm:Yj ["trial","aim","prices","rising","worth_of","counts","sums"] a28 aDL:={}
abbrev aDU:Stmt:=(top 67)
def LO:Yj ["trial","aim","prices","counts","worth_of","weights","dues","all_dues","sums","looks","met","worths_behind"] a06 aDU:={}
abbrev iW(ws:Y0l):Aj:=ws.map λx=>x.2
def ci(c:Ae):Af:=c.map λ(n:Nat)=>(n:Int)
def fM(c:Ae):(ci c).map V.int=c.map FV:=by unfold ci;rw[List.map_map];rfl
def IK(c:Ae):(ci c).sum=(c.sum:Nat):=by
 induction c with
 | nil=>rfl
 | cons a c ih =>
  have e:ci (a::c)=(a:Int)::ci c:=rfl;rw[e,List.sum_cons,List.sum_cons,ih];exact Oo
theorem jB:∀{a b:Ae},ci a=ci b->a=b
 | [],[],_=>rfl
 | [],b::bs,h=>by cases h
 | a::as,[],h=>by cases h
 | a::as,b::bs,h=>by
  have h:(a:Int)::ci as=(b:Int)::ci bs:=h;injection h with h1 h2;rw[jB h2,show a=b by exact Oo]
structure DW(H:Hp)(kvs:Yr)(S:Ab)(val:Ae->Fr):Prop where
 yes:∀c∈S,∃v,Y2y c=Yw/\Y2W (val c) v
 len:Y8m S.length
def DW.t{H H':Hp}{kvs:Yr}{S:Ab}{val:Ae->Fr}(s:Y2B)(h:DW H kvs S val):DW H' kvs S val :=
 ⟨λc e=>by obtain⟨v,d,a⟩:=h.yes c e;exact⟨v,d,a.flat s (dX _)⟩,h.len⟩
def DW.put{H:Hp}{kvs:Yr}{S:Ab}{val:Ae->Fr}(h:DW H kvs S val){c:Ae}{v:V}(r:Y2W (val c) v):DW H (Y8F c v) (c::S) val:=by
 refine⟨Yct,by have:=h.len;have:=Y6n kvs c v;rw[cD];exact Oo⟩;rw[iC];by_cases e:d=c
 ·subst e;rw[Ys];exact Yz v r
 ·rw[Y31 (e (Y36 q))];rcases bN.mp hd with hd | hd
  ·exact absurd hd e
  ·exact h.yes d hd
def aW.tT{H H':Hp}{p:Addr}(s:Y12){kvs:Yr}(hp:H p=Y15):Y2B:=Yeo (qL h hp (by intro z;cases z)) h
def smQ(W F:Nat)(q:Y2M)(mix ps cs:Yx):Y1F (Ae->Y2j)
 | 0,c=>mG W λv=>ps v*q v c
 | n+1,c=>mG W (λv=>ps v*q v c)++[cs c.sum*bZ W (λv=>mix v*q v c)+bZ F (λj=>nC W F q mix ps cs n (bS c j))]
def VU{W F:Nat}{q:Y2M}{mix ps cs:Yx}(n:Nat)(c:Ae):nC W F q mix ps cs n c=lJ (smQ W F q mix ps cs n c):=by cases n <;> rfl
abbrev nZ(M Ns Nm Np Nc:Nat):Nat:=Np*Nc*Nm*Ns^M
section
variable{F W M:Nat}{ss:Aj}{mix ps cs:Ak}{Ns Nm Np Nc B:Nat}
def iJ(I:kO F W M ss mix ps cs Ns Nm Np Nc B){C:Nat}{f:Fr}(h:Fn (nZ M Ns Nm Np Nc) C f)(hC:C<=2^690):Y5V:=mV h I.pos I.sz (Y59 hC)
def DR(I:kO F W M ss mix ps cs Ns Nm Np Nc B){C:Nat}{fs:Ak}(h:∀f∈fs,Fn (nZ M Ns Nm Np Nc) C f)(hl:Yb6 64)(hC:C<=2^690):aAC fs:=xW h I.pos I.sz hl hC
def pU:1000000000000<=2^690:=Y59 (show 1000000000000<=2^40 by decide)
def vF:4*WB<=2^690:=aJB
def SD(I:kO F W M ss mix ps cs Ns Nm Np Nc B){n:Nat}(hn:n<=5):8^(n+1)*B<=WB :=
 aK (Y1z (Y4N Oo)) (aK (Nat.le_of_eq (show 8^7*B=2097152*B from rfl)) I.b)
def kI(ss:Aj)(ps:Ak)(c:Ae)(i:Nat):Fr:=nU (ps.getD i (0,1)) (nR ((ss.getD i []).zip c))
def uS(I:kO F W M ss mix ps cs Ns Nm Np Nc B){i:Nat}(hi:i<W)(c:Ae):eV (nR ((ss.getD i []).zip c)) :=
 sI _ λz d=>((I.sh _ (eE (by rw[I.sl];exact hi))).2 z.1 (Ydi z.1 z.2).1).low
def BG(I:kO F W M ss mix ps cs Ns Nm Np Nc B){i:Nat}(hi:i<W){c:Ae}(hc:Y4s M):Fn (nZ M Ns Nm Np Nc) 1 (nR ((ss.getD i []).zip c)) :=
 Qn.f (uS I hi c) ((I.qn hi hc).dvd ⟨Np*Nc*Nm,by unfold nZ;ac_rfl⟩)
def SB(I:kO F W M ss mix ps cs Ns Nm Np Nc B){i:Nat}(hi:i<W):Fn (nZ M Ns Nm Np Nc) B (ps.getD i (0,1)) :=
 (I.pr _ (eE (by rw[I.pl];exact hi))).dvd ⟨Nc*Nm*Ns^M,by unfold nZ;ac_rfl⟩
def IQ(I:kO F W M ss mix ps cs Ns Nm Np Nc B){i:Nat}(hi:i<W):Fn (nZ M Ns Nm Np Nc) 1 (mix.getD i (0,1)) :=
 (I.mx _ (eE (by rw[I.ml];exact hi))).dvd ⟨Np*Nc*Ns^M,by unfold nZ;ac_rfl⟩
def SC(I:kO F W M ss mix ps cs Ns Nm Np Nc B){i:Nat}(hi:i<M):Fn (nZ M Ns Nm Np Nc) B (Yd8 (0,1)) :=
 (I.co _ (eE (by rw[I.cl];exact hi))).dvd ⟨Np*Nm*Ns^M,by unfold nZ;ac_rfl⟩
def qT(I:kO F W M ss mix ps cs Ns Nm Np Nc B){i:Nat}(hi:i<W)(c:Ae):eV (kI ss ps c i)/\rv (kI ss ps c i)=cT ps i*Y2q i:=by
 have d:=(SB I hi).low;have a:=uS I hi c;exact⟨iV d a,lT d.pos a.pos⟩
def IS(I:kO F W M ss mix ps cs Ns Nm Np Nc B){i:Nat}(hi:i<W){c:Ae}(hc:Y4s M):Fn (nZ M Ns Nm Np Nc) B (kI ss ps c i) :=
 Qn.f (qT I hi c).1 (by rw[(qT I hi c).2];exact I.due hi hc)
def qS(I:kO F W M ss mix ps cs Ns Nm Np Nc B){i:Nat}(hi:i<W)(c:Ae):eV (kI ss mix c i)/\rv (kI ss mix c i)=Y3b i*Y2q i:=by
 have d:=(IQ I hi).low;have a:=uS I hi c;exact⟨iV d a,lT d.pos a.pos⟩
def LX(I:kO F W M ss mix ps cs Ns Nm Np Nc B){i:Nat}(hi:i<W){c:Ae}(hc:Y4s M):Fn (nZ M Ns Nm Np Nc) 1 (kI ss mix c i) :=
 Qn.f (qS I hi c).1 (by rw[(qS I hi c).2];exact(I.met hi hc).dvd ⟨Np*Nc,by unfold nZ;ac_rfl⟩)
end
def AS{n:Nat}{g:Y1F Fr}(h:∀i,i<n->eV (g i)):eV (rA ((List.range n).map g))/\rv (rA ((List.range n).map g))=Y4m n (rv (g i)):=by
 have a:∀f∈(List.range n).map g,Y0m:=λf d=>by
  obtain⟨i,c,rfl⟩:=Ya7;exact h i (bL.mp c)
 refine Y0o (BP _ a);rw[XO _ a,List.map_map];rfl
abbrev woD(rs:Ab)(val:Ae->Fr):PyData:=.tuple (rs.map λc=>.tuple [tK c,iG (val c)])
abbrev OX(F W M:Nat)(ss:Aj)(mix ps cs:Ak)(c:Ae):Fr:=fZ (wor F W M ss mix ps cs c)
structure aHg(N:Nat)(qs:Y2j)(gs:Ak):Prop where
 v:gs.map rv=qs
 n:∀g∈gs,Fn N WB g
 l0:0<gs.length
 l1:gs.length<=5
structure AF(K:Aa)(H:Hp)(fs:Ak)(xs:Al):Prop where
 len:Y5u fs.length
 at_:∀(i:Nat) (x:V),Y0p=Y7->∃f,fs[i]?=Y6v/\BH K H f x
theorem AF.t{K:Aa}{H H':Hp}{fs:Ak}{xs:Al}(s:Y2B)(h:AF K H fs xs):AF K H' fs xs:=⟨h.len,λi x e=>by
 obtain⟨f,c,a⟩:=h.at_ i x e;exact⟨f,c,a.t s⟩⟩
theorem AF.v{K:Aa}{H:Hp}{fs:Ak}{xs:Al}(h:AF K H fs xs):zM K H fs xs:=⟨h.len,λi x e=>by
 obtain⟨f,c,a⟩:=h.at_ i x e;exact⟨f,c,a.v⟩⟩
def MA(K:Aa)(H:Hp)(fs:Ak)(z:V):Prop:=∃sa sx,z=.ref sa/\H sa=Yf sx/\AF K H fs sx
theorem MA.t{K:Aa}{H H':Hp}{fs:Ak}{z:V}(s:Y2B)(h:MA K H fs z):MA K H' fs z:=by
 obtain⟨d,g,c,a,e⟩:=h;exact⟨d,g,c,s _ _ a,e.t s⟩
def AF.get{K:Aa}{H:Hp}{fs:Ak}{xs:Al}(h:AF K H fs xs){i:Nat}{f:Fr}(e:fs[i]?=Y6v):∃x,Y0p=Y7/\BH K H f x:=by
 have c:=(aC.mp e).1;have d:Y0p=some (xs[i]'(by rw[h.len];exact c)):=aB (by rw[h.len];exact c);obtain⟨g,a,j⟩:=h.at_ i _ d;rw[e]at a;cases a;exact Y0J d j
def MA.of{K:Aa}{H:Hp}{fs:Ak}{v:V}(h:Y2l H fs v):MA K H fs v:=by
 obtain⟨a,c,rfl,d,r⟩:=nT h;refine Y8i a c d (iE r) (λi x e=>?_);obtain⟨f,j,g⟩:=fO r e;exact⟨f,j,.inl g⟩
def tR(K:Aa)(H:Hp)(M:Nat)(bs mix cs:Ak)(v:V):Prop:=∃a x1 x2 x3,v=Yd/\H a=Yf [.int (M:Int),x1,x2,x3]/\Y2l H bs x1/\Y2l H mix x2/\MA K H cs x3
theorem tR.t{K:Aa}{H H':Hp}{M:Nat}{bs mix cs:Ak}{v:V}(h:Y4A K H M v)(s:Y2B):Y4A K H' M v:=by
 obtain⟨a,m,c,e,i,d,j,g,l⟩:=h;exact⟨a,m,c,e,i,s _ _ d,j.flat s (jY _),g.flat s (jY _),l.t s⟩
def tR.same{K:Aa}{H H':Hp}{M:Nat}{bs mix cs:Ak}{v:V}(h:Y4A K H M v)(s:Y0):Y4A K H' M v:=h.t s.t
inductive AK (K:Aa):Yq
 | i {H:Hp} {Q:VK} {E:XK} {tv av pv cv:V} {p:Addr} {fs:Ah} {ws:Y0l} {bs mix ps cs:Ak} {c:Ae} {kvs:Yr} {F W M Ns Nm Np Nc B:Nat} (h1:Y3f tv) (h2:Y4A K H M av) (h3:Y2l H ps pv) (h4:Y52 H c cv) (h5:H p=Y15) (I:kO F W M (Y0K) mix ps cs Ns Nm Np Nc B) (b:∀x∈ws,Y7l x.2) (cl:Y0T) (cm:Y4s M) (kn:Y1U->∀j,j<F->∃v,Y2y Y2Y=Yw/\Y2W (OX F W M (Y0K) mix ps cs (Y2Y)) v) (k:∀D xs gs H',Y0->H D=none->Y0F=Y0I->bD H' (gs.map iG) xs->aHg (nZ M Ns Nm Np Nc) (smQ W F (gS (Y0K)) (Y6J) (cT ps) (cT cs) (Y2V) c) gs->Y18):AK K [tv,av,pv,cv,Y21] H Q E
def bD.ofRange{H:Hp}{n:Nat}{g:Y1F Fr}{ys:Al}(hl:Y2w n)(h:∀(i:Nat) (y:V),Y1o=Y0b->i<n/\Y2W (g i) y):Y1n (((List.range n).map g).map iG) ys:=by
 refine bD.ofIdx (by rw[aA,aA,aQ,hl]) λi y d=>?_;obtain⟨c,a⟩:=h i y d;exact Y0J (by rw[aE,aE,aZ c];rfl) a
def hJ{α:Type}{l:Yu}{i:Nat}{a d:α}(h:l[i]?=Y7a):l.getD i d=a:=by rw[aM,h];rfl
section
def aH8(F:Ye "sums_at" "sums_at" aDU)(T:Yk)
  (FQ67:Y3k "weight" a04 (jN K)) (FQ66:Y03 "ways_of" a18 jO) (FQ62:Y6Y 2 "times" K) (FQ64:Y3k "total" a26 (jI K))
  (FQ38:Y6c 3 "less" (qD K)) (FQ45:Y3j "ones_more" a34 fY) (FQ50:Y6c 2 "plus" (kF K)):dW P w K mg base dD 4 f fd a06 (AK K):=by
 refine Y17 LO;obtain @⟨H,Q,E,tv,av,pv,cv,p,fs,ws,bs,m,r,G,c,kvs,F,W,M,ξ,ρ,τ,υ,B,rt,ra,rp,rc,hp,I,hb,hcl,C,kn,k⟩:=h;refine Yi;intro cdv A outer s hr _;generalize hss:iW ws=l at I kn k;have lws:ws.length=W:=by have:=I.sl;rw[<-hss,aA]at this;exact this
 have hbB:=I.b;have hW1:=aFR;have w4:=I.w4;have w1:=I.w1;have X:B<=2^690:=aK Oo vF;obtain⟨ap,vp,rfl,hap,rvp⟩:=nT rp;obtain⟨ac,rfl,hac⟩:=hV rc;obtain⟨aa,xb,xm,xc,rfl,ι,rxb,rxm,rxc⟩:=ra;obtain⟨am,vm,rfl,ham,ω⟩:=nT rxm;obtain⟨ak,vk,rfl,hak,rvk⟩:=rxc;have lvp:vp.length=W:=by rw[iE rvp,I.pl]
 have lvm:vm.length=W:=by rw[iE ω,I.ml]
 refine⟨_,(aH (iL (i:=5) (dG.o ["way","trial","counts"] [0,3]) LO.nd rfl rfl (Y7G (Y0D FQ66 0)) YbM (λ_ _ _ _=>kP FQ67 (Y0t) (Y04) (Y0c)))
  (aH (vX (i:=6) (eG.o ["price","one"] ["price","one"] []) LO.nd rfl rfl (kZ true false rfl T.b_zip (Y2i 2 (aD 5))) (YbM) (λ_ _ _ _=>(Y2k FQ62 0 1)))
  (aH (Y3x 7 LO.nd (Y0D FQ64 6))
  (aH (iL (i:=8) (dG.o ["due","all_dues"] [7]) LO.nd rfl rfl (dJ (aD 6)) YbM (λ_ _ _ _=>Y2k FQ38 1 0))
  (aH (cM (i:=9) LO.nd (Y6a (BF K rfl) (by rfl) T.b_sum Kk 3))
  (aH (MH (iR (Y1I zR 9 Y1m) (aH (cM (i:=10) LO.nd (gA FQ64 (Y7L ["share","one"] ["share","one"] [] (kZ true false rfl T.b_zip (Y2f Y1m (aD 5))) (Y2k FQ62 0 1))))
  (aH (cM (i:=11) LO.nd (gA FQ64 (Y7r ["more","worth_of"] [4] (dJ (Y0D FQ45 3)) (Y7S hr.u1 Y04))))
  (aV (kW (rZ PySem.F.plainAttrs_list PySem.F.slot_list_append PySem.F.type_list_append sY (aD 8) (Y1p (cR FQ50 (Y93 (Y3g Y1m (aD 9)) (aD 10)) (aD 11)))))))) fR))
  (Y2x 8))))))),?_⟩
 refine Yv;intro ο ν;refine Y5 (jO.i rt ?_);rw[lws];refine⟨_,rfl,Oo,Oo,Yb4 (i<W/\BH K H' (nR ((l.getD i []).zip c)) y) (λi y H1 H2 s ⟨J,R⟩=>⟨J,R.t s⟩) Oo (λi H' Q' a u U=>?_) (λD5 zs H5 hD5 e5 s5 hz5 hr5=>?_)⟩
 ·rw[Int.zero_add];have a:i<W:=Oo;obtain⟨x,D⟩:∃x,ws[i]?=Y7:=Y88;refine Y4q;refine jN.i (rt.same u) D (rc.same u) (hb x (aF D)) (by have:=I.m5;exact Oo) λy H6 s6 r6=>U _ H6 s6 (Y0o a);have e:l.getD i []=x.2:=hJ (by rw[<-hss,aE,D];rfl);rw[e];exact r6
 have lz:zs.length=W:=Oo;refine Yt;intro ο ν;refine⟨_,rfl,_,rfl,ap,D5,vp,zs,rfl,s5 _ _ hap,e5,kL (xs:=vp) (ys:=zs) (λi y H'=>i<W/\Y2K (kI l r c i) y) (λi y H1 H2 s ⟨J,R⟩=>⟨J,R.flat s (dX _)⟩) Oo (s5 _ _ hap) e5 Oo (λi x y H' Q' D hy u U=>?_) (λD6 us H6 hD6 e6 s6 hu6 hr6=>?_)⟩
 ·obtain⟨f1,ζ,θ⟩:=rvp.atI D;obtain⟨a,fy⟩:=hr5 i y hy;have e1:r.getD i (0,1)=f1:=hJ ζ;refine Y02;have γ:=SB I a;rw[e1]at γ;refine eN.i (kU.of (θ.same (s5.trans u))) (fy.same u).v γ.low (uS I a c) (iJ I γ X) (Y4o I (BG I a C) Dd pU) ?_;intro q7 H7 hq7 e7 L;refine U _ H7 L ⟨a,gF ?_⟩;rw[e7];unfold kI;rw[e1]
 have r6:bD H6 (((List.range W).map (kI l r c)).map iG) us:=YaN hr6;refine Yt;intro ο ν;have S6:=s5.trans s6;obtain⟨tl,tvq⟩:=Yg0 W (kI l r c) ((qT I a c).1);have dn:∀g∈(List.range W).map (kI l r c),Fn (nZ M ξ ρ τ υ) B g:=λg z=>by
  obtain⟨i,a,rfl⟩:=aN.mp z;exact IS I (Y71) C
 refine Y8;refine Yb5 e6 r6 (DR I dn (by rw[aA,aQ];exact Oo) X) (λv7 H7 L r7=>Yt);intro ο ν;have tn:=Fn.tot _ dn;rw[aA,aQ]at tn;have wB:W*B<=4*B:=Y1z w4;generalize htot:rA ((List.range W).map (kI l r c))=tot at r7 tl tvq tn;refine Y5a _ D6 _ (L _ _ e6) (Yd1 (i<W/\Y2K (qR tot (yM (kI l r c i))) y) (λi y H1 H2 s ⟨J,R⟩=>⟨J,R.flat s (dX _)⟩) Oo (L _ _ e6) (λi x H' Q' D u U=>?_) (λD8 ys H8 hD8 e8 s8 hy8 hr8=>?_))
 ·obtain⟨a,rx⟩:=hr6 i x D;refine Y07 (qD.i (kU.of (r7.same u)) (kU.of (rx.same (L.trans u))) tl (qT I a c).1 (Y4o I tn Oo vF) (iJ I (IS I a C) X) ?_);intro q9 H9 hq9 e9 s9;exact U _ H9 s9 ⟨a,gF e9⟩
 have r8:bD H8 (((List.range W).map λi=>qR tot (yM (kI l r c i))).map iG) ys:=YaN hr8;refine Yt;intro ο ν;have sv:((List.range W).map λi=>qR tot (yM (kI l r c i))).map rv=mG W λv=>cT r v*gS l v c:=by
  unfold mG;rw[List.map_map];refine cU λi a=>?_;have a:=Y71;obtain⟨d1,d2⟩:=qT I a c;show rv (qR tot (yM (kI l r c i)))=_;rw[vM tl.pos (xG d1).pos,show yM (kI l r c i)=(-(kI l r c i).1,(kI l r c i).2)from rfl,NB,tvq,d2,<-Rat.sub_eq_add_neg];congr 1;exact bP λj hj=>(qT I hj c).2
 have sn:∀g∈(List.range W).map (λi=>qR tot (yM (kI l r c i))),Fn (nZ M ξ ρ τ υ) (W*B+B) g:=λg z=>by
  obtain⟨i,a,rfl⟩:=aN.mp z;exact tn.add (IS I (Y71) C).neg
 have S8:=(S6.trans L).trans s8;have α:H D8=none:=(S6.trans L).free hD8;refine Y5 (YeC (ci c) (by rw[fM];exact jC.of (S8 _ _ hac)));rw[IK];refine Y05 (λσ H'=>∃(o10 o11:Am) (xs:Al) (gs:Ak),σ=[some tv,Y3 aa,Y3 ap,Y3 ac,Y3c,Y3 D5,Y3 D6,some v7,Y3 D8,Yb ((c.sum:Nat):Int),o10,o11]/\Y0/\H' D8=Y0I/\bD H' (gs.map iG) xs/\aHg (nZ M ξ ρ τ υ) (smQ W F (gS l) (cT m) (cT r) (cT G) (Y2V) c) gs) ?_
 ·rintro σ H9 ⟨o10,o11,xs,gs,rfl,S9,e9,r9,ok9⟩;exact Y5 (k D8 xs gs H9 S9 α e9 r9 ok9)
 refine Y8X (S8 _ _ ι);refine Y5M _ _ _ (yR (Ybf) (Ybf))
 ·have S:Y1U:=Oo;refine Yv;intro ο ν;have S86:aT H5 H8:=(s6.trans L).trans s8;refine Y0n (S8 _ _ ι);refine⟨_,rfl,am,D5,vm,zs,rfl,S8 _ _ ham,S86 _ _ e5,kL (xs:=vm) (ys:=zs) (λi y H'=>i<W/\Y2K (kI l m c i) y) (λi y H1 H2 s ⟨J,R⟩=>⟨J,R.flat s (dX _)⟩) Oo (S8 _ _ ham) (S86 _ _ e5) Oo (λi x y H' Q' D hy u U=>?_) (λD9 us9 H9 hD9 e9 s9 hu9 hr9=>?_)⟩
  ·obtain⟨f1,ζ,θ⟩:=ω.atI D;obtain⟨a,fy⟩:=hr5 i y hy;have e1:m.getD i (0,1)=f1:=hJ ζ;refine Y02;have γ:=IQ I a;rw[e1]at γ;refine eN.i (kU.of (θ.same (S8.trans u))) (fy.same (S86.trans u)).v γ.low (uS I a c) (Y4o I γ Dd pU) (Y4o I (BG I a C) Dd pU) ?_;intro q7 H7 hq7 e7 L;refine U _ H7 L ⟨a,gF ?_⟩;rw[e7];unfold kI;rw[e1]
  have r9:bD H9 (((List.range W).map (kI l m c)).map iG) us9:=YaN hr9;have S9:=S8.trans s9;obtain⟨ml,mv⟩:=Yg0 W (kI l m c) ((qS I a c).1);have mn:∀g∈(List.range W).map (kI l m c),Fn (nZ M ξ ρ τ υ) 1 g:=λg z=>by
   obtain⟨i,a,rfl⟩:=aN.mp z;exact LX I (Y71) C
  refine Yb5 e9 r9 (DR I mn (by rw[aA,aQ];exact Oo) (aK Dd pU)) (λv10 H10 s10 φ=>Yt);intro ο ν;have η:=Fn.tot _ mn;rw[aA,aQ]at η;generalize hmet:rA ((List.range W).map (kI l m c))=met at φ ml mv η;have S10:=S9.trans s10;refine Y8;refine fY.i (rc.same S10) (by have:=I.f4;exact Oo) λD11 ms H11 hD11 e11 ψ δ=>?_;have S11:=S10.trans δ;have lms:ms.length=F:=by rw[ψ.len,aA,aA,aQ,hcl]
  refine Y1E D11 e11 (Yd1 (i<F/\Y2K (OX F W M l m r G (bS c i)) y) (λi y H1 H2 s ⟨J,R⟩=>⟨J,R.flat s (dX _)⟩) (by have:=I.f4;exact Oo) e11 (λi x H' Q' D u U=>?_) (λD12 us H12 hD12 e12 κ hy12 hr12=>?_))
  ·obtain⟨d,hd,rd⟩:=fO ψ D;have a:i<F:=by rw[<-lms];exact(aC.mp D).1
   have ed:d=bS c i:=by
    rw[aE,aZ Oo]at hd;simpa using hd.symm
   subst ed;obtain⟨ad,rfl,had⟩:=hV (rd.same u);obtain⟨v,hv,rvv⟩:=kn S i a;refine Y07 (MF ((S11.trans u) _ _ hp) (by rw[fM];exact had) hv ?_);exact U _ H' (Y06) ⟨a,rvv.same (S11.trans u)⟩
  have r12:bD H12 (((List.range F).map λi=>OX F W M l m r G (bS c i)).map iG) us:=YaN hr12;have S12:=S11.trans κ;have wn:∀g∈(List.range F).map (λi=>OX F W M l m r G (bS c i)),Fn (nZ M ξ ρ τ υ) (8^(Y2V)*B) g:=λg z=>by
   obtain⟨i,a,rfl⟩:=aN.mp z;have a:=Y71;refine Qn.fq ?_;have bs:=Yg5 c i;have:=I.worn (M-(bS c i).sum) (bS c i) (by rw[mC];exact hcl) Oo;rw[show M-(bS c i).sum+1=M-c.sum by exact Oo]at this;exact this
  have b8:8^(Y2V)*B<=WB:=by
   have:=SD I (n:=Y2V-1) (by have:=I.m5;exact Oo)
   rwa [show M-c.sum-1+1=M-c.sum by exact Oo]at this
  obtain⟨wl,wv⟩:=Yg0 F (λi=>OX F W M l m r G (bS c i)) Y01;refine Yb5 e12 r12 (DR I wn (by rw[aA,aQ];have:=I.f4;exact Oo) (aK Oo vF)) (λv13 H13 ε r13=>?_);have N:=Fn.tot _ wn;rw[aA,aQ]at N;generalize htw:rA ((List.range F).map λi=>OX F W M l m r G (bS c i))=tw at r13 wl wv N;have S13:=S12.trans ε;have S8_13:aT H8 H13:=((((s9.trans s10).trans δ).trans κ).trans ε);obtain⟨vkk,hvk,rvkk⟩:=rvk.get (i:=c.sum) (f:=Ycr (0,1)) (by rw[aM,aB (by rw[I.cl];exact S)];rfl);have cn:=SC I S;refine⟨_,rfl,VL (S8_13 _ _ e8),_,rfl,Y8f (S13 _ _ ι)⟩;refine Y5 (jK (S13 _ _ hak) (dB hvk) ?_);refine Y8;have hp14:=I.paid S;have em:rv met=Y08 (cT m v*gS l v c):=by rw[mv];exact bP λj hj=>(qS I hj c).2
  have vpd:rv (nU (Ycr (0,1)) met)=Y7N G*Y08 (cT m v*gS l v c):=by rw[lT cn.low.pos ml.pos,em];rfl
  have Z:Fn (nZ M ξ ρ τ υ) (4*B) (nU (Ycr (0,1)) met):=Qn.f (iV cn.low ml) (by rw[vpd];exact hp14);refine eN.i (rvkk.t S13.t).v (kU.of (((φ.same δ).same κ).same ε)) cn.low ml (iJ I cn X) (Y4o I η Oo pU) ?_;intro q14 H14 hq14 e14 O;refine Y8;have f4:=I.f4;have fB:F*(8^(Y2V)*B)<=4*(8^(Y2V)*B):=Y1z f4;refine kF.i (kU.new (f:=nU (Ycr (0,1)) met) e14) (kU.of (r13.same O)) Z.low wl (Y4o I Z Oo vF) (Y4o I N Oo vF) ?_;intro q15 H15 hq15 e15 μ;have β:=μ _ _ (O _ _ (S8_13 _ _ e8));refine LW β Oo λH16 e16 b16=>?_;have χ:=b16.t β;have S15:=(S13.trans O).trans μ;refine⟨_,_,_,((List.range W).map λi=>qR tot (yM (kI l r c i)))++[qR (nU (Ycr (0,1)) met) tw],rfl,aT.thru α S15 b16,e16,?_,?_,?_,?_,?_⟩
  ·rw[bF];exact Ye4 (r8.flat (((S8_13.trans O).trans μ).t.trans χ) (oW _)) χ (dX _) (gF e15)
  ·obtain⟨n,hn⟩:∃n,Y2V=n+1:=Y2Q (Y2V-1);rw[bF,sv,hn];show _=mG W (λv=>cT r v*gS l v c)++[_];congr 1;rw[bA,List.map_nil];congr 1;rw[vM Z.low.pos wl.pos,vpd,wv];congr 1;refine bP λj hj=>?_;rw[dP];unfold wor;rw[gR Oo,show M-(c.sum+1)=n by exact Oo]
  ·intro g z;rcases dM.mp z with z | z
   ·exact(sn g z).le Oo
   ·rw[bT.mp z];refine(Z.add N).le ?_;have b9:=SD I (n:=Y2V) (by have:=I.m5;exact Oo);rw[Nat.pow_succ,Nat.mul_comm (8^_) 8,Nat.mul_assoc]at b9;have J:1<=8^(Y2V):=Nat.one_le_pow _ _ Dd;have hB:B<=8^(Y2V)*B:=Y5Z J;exact Oo
  ·simp
  ·rw[aU,aA,aQ];show W+1<=5;exact Oo
 ·have e0:Y2V=0:=Oo;refine⟨_,_,_,_,rfl,S8,e8,r8,?_,λg z=>(sn g z).le Oo,by rw[aA,aQ];exact Oo,by rw[aA,aQ];exact Oo⟩;rw[e0,sv];rfl
end
inductive lC (K:Aa):Yq
 | i {H:Hp} {Q:VK} {E:XK} {tv av pv:V} {fs:Ah} {ws:Y0l} {bs mix ps cs:Ak} {F W M Ns Nm Np Nc B:Nat} (h1:Y3f tv) (h0:Y6P F) (h2:Y4A K H M av) (h3:Y2l H ps pv) (I:kO F W M (Y0K) mix ps cs Ns Nm Np Nc B) (b:∀x∈ws,Y7l x.2) (k:∀v H',Y0->dA H' (woD (Y0a) (OX F W M (Y0K) mix ps cs)) v->Y1W):lC K [tv,av,pv] H Q E
def CB:∀F,F<=4->∀M,M<=5->(Y0a).length<=400:=λF a M c=>zD F a (M+1) Oo
section
def aHZ(F:Ye "worths" "worths" aDL)(T:Yk)
  (FQ13:Y10 6 "all_counts" a47 uJ) (FQ26:Y03 "faces_of" a18 jX) (FQ61:Y10 4 "sums_at" a06 (AK K)) (FQ36:Y3j "least_place" a26 qE):dW P w K mg base dD 7 f fd a28 (lC K):=by
 refine F.oky aAm λa H Q E h=>?_;obtain @⟨H,Q,E,tv,av,pv,fs,ws,bs,O,ps,cs,F,W,M,Ns,Nm,Np,Nc,B,rt,hF,ra,rp,I,hb,k⟩:=h;refine Yi;intro cdv A outer s ρ _;have f1:=I.f1;have f4:=I.f4;have m5:=I.m5;have κ:=ra;obtain⟨aa,xb,xm,xc,rfl,haa,rxb,rxm,rxc⟩:=κ;refine⟨_,(aH (Y1r aAm.nd (cR FQ13 (Y0D FQ26 0) (Y1m)))
  (aH (Y3x 4 aAm.nd nE)
  (aH (gH PassesOwn.never rfl (VW rfl T.b_reversed (Y3L 3)) (Y9h 5 aAm.nd) (aH (cM (i:=6) aAm.nd (sJ FQ61 (ρ.mono Dd) (Y4G Y04 Y0t (bE (Y0c) (Y2i 5 Y1b)))))
  (aV (iY ρ.u1 Y1b (aD 5) (Y3n 6 (Y0D FQ36 6))))))
  (Y0Z (Y6s (by rfl) ["counts","worth_of"] [4] (dJ (aD 3)) (fD (Y2i 0 (Y7S ρ.u1 Y04)))))))),?_⟩
 refine Yv;intro φ ι;refine Y5 (jX.i rt ?_);rw[hF];refine Y0n haa;refine uJ.i f1 f4 m5 λR H1 s1 hR LR=>Yt;intro φ ι;obtain⟨a,U,rR,η⟩:=LR.len;have U:H1 R=Yc a:=U;have rR:bD H1 ((rise F M).map tK) a:=rR;have η:a.length=(Y0a).length:=η;have υ:=CB F f4 M m5;intro p β;refine Yt;intro φ ι;have α:=Y6H [] β;have e2:(upd H1 p (.dT [])) p=Y0g []:=bH;generalize upd H1 p (.dT [])=H2 at α e2;have S2:=s1.trans α;have μ:H p=none:=s1.free β;have nRp:R≠p:=λz=>by rw[<-z,U]at β;cases β
 refine Y6D _ R a (fV.of (α _ _ U)) (RG (xs:=a) (Ye1 (λ(o5 o6:Am) (u:List (List fJ × V))=>An6 (σ=[some tv,Y3 aa,some pv,Y3 R,Y3c,o5,o6]) (Y0) (H' R=Yc a) (bD H' ((rise F M).map tK) a) (H' p=Y0g u) (DW H' u ((rise F M).drop (a.length-i)) (OX F W M (Y0K) O ps cs)))) ⟨_,_,[],rfl,S2,α _ _ U,rR.same α,e2,?_⟩ (Y8j) ?_ ?_)
 ·rw[Nat.sub_zero,η,List.drop_length];exact⟨λc G=>(by cases G),by simp⟩
 ·obtain⟨_,_,_,_,_,h,_⟩:=q;exact Y8Q
 ·rintro i x σ H3 hi hx ⟨o5,o6,u,rfl,S3,m,r,ε,D3⟩;refine Y9V;intro φ ι;obtain⟨c,G,ζ⟩:=fO r hx;have N:=(fT f1).mp (aF G);have dl:=D3.len;rw[List.length_drop]at dl;refine⟨_,rfl,_,rfl,_,rfl,_,rfl,_,rfl,?_⟩;refine AK.i (rt.same S3) (ra.same S3) (rp.same S3) ζ ε I hb N.1 N.2 (λhlt j hj=>?_) λD xs gs H4 C hD γ r4 d=>?_
  ·have bs:=Yg5 c j;have ξ:Y3Q Y2Y:=(fT f1).mpr (Y2Q (by rw[mC];exact N.1));have:=sW G ξ Oo;rw[show a.length-1-i+1=a.length-i by exact Oo]at this;exact D3.yes _ this
  have ο:∀g∈gs,eV g/\Y4P g:=λg δ=>⟨(d.n g δ).low,Y4o I (d.n g δ) (Y5Z Dd) vF⟩;refine Y02;refine JO γ r4 ο d.l0 (by have:=d.l1;exact Oo) λpl y L=>?_;obtain⟨vy,τ,ry⟩:=kG r4 L.at_;refine Y5Q γ τ;have ey:y=OX F W M (Y0K) O ps cs c:=by
   have e:=jD.min L λg δ=>(ο g δ).1;rw[d.v,<-VU]at e;rw[<-aFx (ο y (aF L.at_)).1,e];rfl
  obtain⟨ac,rfl,J⟩:=hV (ζ.same C);refine Y02;have X:=C _ _ ε;refine Y5x X c (by rw[fM];exact J) Oo (λH5 e5 ω=>?_);have t5:=aW.tT ω X;refine⟨_,_,_,rfl,aT.thru μ (S3.trans C) ω,ω.at nRp (C _ _ m),YcD t5 _ (r.same C),e5,?_⟩;have hd:(rise F M).drop (a.length-(i+1))=c::(rise F M).drop (a.length-i):=by
   have hc':=aC.mp G;obtain⟨hc1,χ⟩:=hc';rw[show a.length-(i+1)=a.length-1-i by exact Oo,List.drop_eq_getElem_cons hc1,χ,show a.length-1-i+1=a.length-i by exact Oo]
  rw[hd];refine DW.t t5 (DW.put (DW.t C.t D3) ?_);rw[<-ey];exact ry
 ·rintro σ H3 ⟨o5,o6,u,rfl,S3,m,r,ε,D3⟩;rw[Nat.sub_self,List.drop_zero]at D3;refine Y5a _ R _ m (Yd1 (∃c,Y0a[i]?=Y1h/\dA H' (.tuple [tK c,iG (OX F W M (Y0K) O ps cs c)]) y) (λi y Ha Hb s ⟨c,h1,ψ⟩=>⟨c,h1,ψ.flat s (by show(iN (tK c)&&(iN (iG _)&&true))=true;rw[qN];rfl)⟩) Oo m (λi x H' Q' hx ν k'=>?_) (λD Z H4 hD γ C hy4 hr4=>?_))
  ·obtain⟨c,G,ζ⟩:=fO r hx;obtain⟨v,hv,θ⟩:=D3.yes c (aF G);have S:=ζ.same ν;obtain⟨ac,rfl,J⟩:=hV S;refine Y2O (Y5y (ν _ _ ε) c (by rw[fM];exact J) hv ?_);exact sF (by show 2<=64;decide) λq5 H5 hq5 e5 s5=>k' _ H5 s5 ⟨c,G,Y9T e5 (S.same s5) ((θ.same ν).same s5)⟩
  ·refine Y5m D Z (Y7o γ);have sl:=Y7n Z;have el:(upd H4 l (.tup Z)) l=Yf Z:=bH;generalize upd H4 l (.tup Z)=H5 at sl el;refine k _ H5 ((S3.trans C).trans sl) (Ygb el (by rw[hy4,aA,η]) (λi y hi=>?_));obtain⟨c,h1,ψ⟩:=hr4 i y hi;exact Y0J (by rw[aE,h1];rfl) (ψ.same sl)
end
abbrev aEw:Stmt:=(top 57)
def aCE:Yj ["some","lower","one"] a26 aEw:={}
abbrev aDS:Stmt:=(top 58)
def aJf:Yj a43 a43 aDS:={}
inductive qG (K:Aa):Yq
 | i {H:Hp} {Q:VK} {E:XK} {a:Addr} {xs:Al} {fs:Ak} {N:Nat} (h1:H a=Y0I) (h2:zM K H fs xs) (h3:0<N) (h4:N<Y0A) (h5:∀f∈fs,Y0m/\f.2.natAbs ∣ N) (k:∀L:Nat,0<L->L ∣ N->(∀f∈fs,f.2.natAbs ∣ L)->Y1T (L:Int)):qG K Y2n H Q E
section
def aIN(F:Ye "common_lower" "common_lower" aEw)(T:Yk)(FQ19:Y03 "common_divisor" a03 sB):dW P w K mg base dD 2 f fd a26 (qG K):=by
 refine F.oky aCE λζ H Q E h=>?_;obtain @⟨H,Q,E,a,xs,fs,N,D,G,I,nz,u,k⟩:=h;refine Yi;intro O A r s η _;refine⟨_,(aH (Ybi aCE.nd aO)
  (aH (Y7M (dJ (Y04)) 2 aCE.nd (Ybi aCE.nd (Y7p 1 (cG gI (Y0N 2) (cR FQ19 (aD 1) (Y0N 2))))))
  (Y2x 1))),?_⟩
 refine Yv;intro Z ι;refine Y5a _ a _ D (Yda xs (YaB (λ(L:Nat) (p:Am)=>An5 (σ=[Y3X,Yb (L:Int),p]) (H'=H) (0<L) (L ∣ N) (∀f∈fs.take i,f.2.natAbs ∣ L))) (Y3p 1 _ rfl Dd (Nat.one_dvd _) (λf u=>by simp at u)) Y8j ?_)
 ·obtain⟨_,_,_,rfl,_⟩:=q;exact fV.of D
 ·rintro i x σ H2 γ ⟨L,p,rfl,rfl,l,n,m⟩;refine Y5A;intro Z;obtain⟨g,z,θ,rfl,J⟩:=G.at_ i x γ;obtain⟨M,gN⟩:=u g (aF z);have α:=M.pos;obtain⟨d,hd⟩:∃d:Nat,g.2=(d:Int):=Y2Q g.2.toNat;have e:g.2.natAbs=d:=Oo;have C:0<d:=Oo;rw[e]at gN;have R:L<Y0A:=aI (kB I n) nz;have y:d<Y0A:=aI (kB I gN) nz;have β:(Int.gcd (L:Int) g.2)=(Nat.gcd L d):=by rw[hd];rfl
  have κ:0<Nat.gcd L d:=Nat.gcd_pos_of_pos_left _ l;have X:Nat.gcd L d<=d:=Nat.gcd_le_right _ C;refine Y8Y J;refine Y8Y J;refine sB.i α ?_;rw[β];have B:(2:Nat)^3000<=Y0R:=Y4N Dd;have U:(2:Nat)^3000<=2^9000:=Y4N Dd;have S:(g.2/((Nat.gcd L d:Nat):Int)).natAbs<Y0R:=rB (by rw[e];exact aR y B) Oo;refine⟨_,_,rfl,rfl,pL Oo (by show(Nat.gcd L d)<_;exact aI X (aR y U)),_,_,rfl,rfl,pA (show(L:Int).natAbs<2^4000 from aR R B) S,?_⟩;have W:(L:Int)*(g.2/((Nat.gcd L d:Nat):Int))=((Nat.lcm L d:Nat):Int):=by
   rw[hd,<-Int.natCast_ediv,<-Int.natCast_mul];congr 1;unfold Nat.lcm;rw[Nat.mul_div_assoc _ (Nat.gcd_dvd_right L d)]
  refine Y3p (Nat.lcm L d) _ (by rw[<-W];rfl) (Nat.lcm_pos l C) (Nat.lcm_dvd n gN) (λδ j=>?_);rw[hZ z]at j;rcases dM.mp j with h | h
  ·exact Nat.dvd_trans (m δ h) (Nat.dvd_lcm_left _ _)
  ·rw[bT.mp h,e];exact Nat.dvd_lcm_right _ _
 ·rintro σ H2 ⟨L,p,rfl,rfl,l,n,m⟩;have ε:Y5u fs.length:=G.len;rw[ε,dY]at m;exact Y5 (k L l n m)
end
inductive oG (K:Aa):Yq
 | i {H:Hp} {Q:VK} {E:XK} {x:V} {f:Fr} {U:Nat} (h1:kU K H f x) (h2:Y0m) (h3:Y5V) (h4:U<Y0A) (h5:f.2.natAbs ∣ U) (k:∀n:Int,(n:Rat)=Y1O*(U:Rat)->Y1T n):oG K [x,.int (U:Int)] H Q E
section
def aH6(F:Ye "times_whole" "times_whole" aDS)(T:Yk):dW P w K mg base dD 1 f fd a43 (oG K):=by
 refine F.oky aJf λy H Q E h=>?_;obtain @⟨H,Q,E,x,f,U,⟨C,rfl,j⟩,p,i,l,hd,k⟩:=h;refine Yi;intro m A e s B _;have a:=p.pos;obtain⟨r,d⟩:=hd;have n:(2:Nat)^3000<=Y0R:=Y4N Dd;have g:(U:Int)=f.2*(r:Int):=by
  rw[d,Int.natCast_mul];congr 1;exact Oo
 refine Y6S (cG eZ (Y1C) (cG gI (aD 1) Y1C)) (Y1H j);refine Y8Y j;refine⟨_,_,rfl,rfl,pL a (oA i.2),_,_,rfl,rfl,pA i.1 (rB (show(U:Int).natAbs<2^4000 from aR l n) a),k _ ?_⟩;rw[g,Y5e];have z:=sV a;have u:(U:Rat)=(f.2:Rat)*((r:Int):Rat):=by
  rw[<-Rat.intCast_mul,<-g];rfl
 rw[u,Rat.intCast_mul];grind
end
abbrev aEn:Stmt:=(top 59)
def aCz:Yj ["rising","some","unit","table","counts","one"] a40 aEn:={}
structure DI(kvs:Yr)(rs:Ab)(h:Y0y):Prop where
 yes:∀c∈rs,∃n:Int,Y2y c=Yb n/\(n:Rat)=h c
 no:∀c,c ∉ rs->Y2y c=none
 len:Y8m rs.length
def DI.put{kvs:Yr}{rs:Ab}{h:Y0y}(D:DI kvs rs h){c:Ae}{n:Int}(e:(n:Rat)=h c):DI (Y8F c Y5I) (rs++[c]) h:=by
 refine Y05 Yct Yct
 ·rw[iC];by_cases q:d=c
  ·subst q;rw[Ys];exact Yz n e
  ·rw[Y2t (q (Y36 z))];rcases dM.mp hd with hd | hd
   ·exact D.yes d hd
   ·exact Yef hd q
 ·rw[iC,Y2t (hd (Yb0 _ (Y36 z)))];exact D.no d λz=>hd (cL _ z)
 ·have:=Y6n kvs c (V.int n);have:=D.len;rw[aU,List.length_singleton];exact Oo
inductive oO (K:Aa):Yq
 | i {H:Hp} {Q:VK} {E:XK} {a b:Addr} {rs:Ab} {ys:Al} {g:Ae->Fr} {U:Nat} (h1:nP H a rs) (h2:H b=Y0w) (h3:AF K H (rs.map g) ys) (h4:rs.length<=400) (h5:U<Y0A) (h6:∀c∈rs,eV (g c)/\Y4P (g c)/\(g c).2.natAbs ∣ U) (k:∀p kvs H',Y0->H p=none->H' p=Y15->DI kvs rs (λc=>rv (g c)*(U:Rat))->Y0r p):oO K [Yd,Y0e,.int (U:Int)] H Q E
section
def aID(F:Ye "in_units" "in_units" aEn)(T:Yk)(FQ63:Y03 "times_whole" a43 (oG K)):dW P w K mg base dD 2 f fd a40 (oO K):=by
 refine Y17 aCz;obtain @⟨H,Q,E,a,b,L,ys,g,U,LS,B,Z,l4,φ,ι,k⟩:=h;refine Yi;intro β A O s θ _;obtain⟨xs,C,ξ,lx⟩:=LS.len;refine⟨_,(aH (Y1r aCz.nd nE)
  (aH (Y6d (Ybs 0 Y0t) (mJ rfl (eK (Y9h 4 aCz.nd) (eK (Y9h 5 aCz.nd) kD))) (iY θ.u1 Y0X (aD 4) (Y2k FQ63 5 2)))
  (Y2x 3))),?_⟩
 refine Yv;intro κ n_;intro p j;have e:=Y6H [] j;have J:(upd H p (.dT [])) p=Y0g []:=bH;generalize upd H p (.dT [])=H1 at e J;have N:a≠p:=λz=>by rw[z,j]at C;cases C
 have I:b≠p:=λz=>by rw[z,j]at B;cases B
 refine Y07 (Y1B a b xs ys (e _ _ C) (e _ _ B) (Ydq xs ys (∃(R S:Am) (d:Yr),σ=[Y3X,Y3 b,Yb (U:Int),Y3c,R,S]/\aW p H1 H'/\H' p=Y0g d/\DI d (L.take i) (λc=>rv (g c)*(U:Rat))) (Y3p _ _ [] ((Y06).but) J ⟨λc m=>by simp at m,λc _=>rfl,Y0L⟩) (λi σ H' ⟨_,_,_,_,X,_⟩=>?_) ?_ ?_))
 ·exact⟨X.at N (e _ _ C),X.at I (e _ _ B)⟩
 ·rintro i y z ο σ H3 H4 α μ ⟨R,S,d,rfl,u,M,D3⟩ ε ζ D;obtain⟨W,m,ψ⟩:=fO ξ α;obtain⟨υ,l,fw⟩:=Z.at_ i z μ;have δ:υ=g W:=by rw[aE,m]at l;simpa using l.symm
  subst δ;obtain⟨η,ω,γ⟩:=ι W (aF m);have t3:fG H1 H3:=aW.tT u J;have r:fG H H4:=(e.t.trans t3).trans D.t;obtain⟨ac,rfl,G⟩:=hV (ψ.flat r (qN _));refine⟨ο,_,rfl,jC.of ζ,rfl,_,_,rfl,_,_,rfl,rfl,Y2N⟩;intro κ;refine Y02;refine oG.i (fw.t r).v η ω φ γ λn τ=>Y02;have χ:=D3.len;rw[gG]at χ;refine Y5x (D _ _ M) W (by rw[fM];exact G) Oo (λH5 ρ ν=>Y3p _ _ _ ((u.trans D.but).trans ν) ρ ?_);rw[hZ m];exact D3.put τ
 ·rintro σ H3 ⟨R,S,d,rfl,u,M,D3⟩;have ly:Y2w L.length:=by rw[Z.len,aA]
  rw[show min xs.length ys.length=L.length by exact Oo,dY]at D3;exact Y5 (k p d H3 (aT.thru j e u) j M D3)
end
abbrev aEf:Stmt:=(top 60)
def aG8:Yj ["trial","aim","counts","met"] a41 aEf:={}
def CN(W:Nat)(ss:Aj)(mix cs:Ak)(c:Ae):Rat:=Y7N cs*Y0j (Y3b w*Y2q w)
def IR{F W M:Nat}{ss:Aj}{mix ps cs:Ak}{Ns Nm Np Nc B:Nat}(I:kO F W M ss mix ps cs Ns Nm Np Nc B){c:Ae}(hc:Y1U):Fn (nZ M Ns Nm Np Nc) (B*4) (fZ (CN W ss mix cs c)):=by
 have g:=(I.co _ (eE (a:=(0,1)) (show c.sum<cs.length by rw[I.cl];exact hc))).q;have d:=Ye0 (λw e=>I.met e (Nat.le_of_lt hc));have h:=(g.mul d).le (dI B (show W*1<=4 by have:=I.w4;exact Oo));exact(h.dvd ⟨Np,by unfold nZ;ac_rfl⟩).fq
inductive pG (K:Aa):Yq
 | i {H:Hp} {Q:VK} {E:XK} {tv av cv:V} {fs:Ah} {ws:Y0l} {bs mix ps cs:Ak} {c:Ae} {F W M Ns Nm Np Nc B:Nat} (h1:Y3f tv) (h2:Y4A K H M av) (h3:Y52 H c cv) (I:kO F W M (Y0K) mix ps cs Ns Nm Np Nc B) (b:∀x∈ws,Y7l x.2) (hc:Y1U) (k:∀v H',Y0->Y7T (CN W (Y0K) mix cs c) v->Y1W):pG K [tv,av,cv] H Q E
section
def aIu(F:Ye "look_cost" "look_cost" aEf)(T:Yk)(FQ62:Y6Y 2 "times" K)(FQ67:Y3k "weight" a04 (jN K))(FQ66:Y03 "ways_of" a18 jO)(FQ64:Y3k "total" a26 (jI K)):dW P w K mg base dD 4 f fd a41 (pG K):=by
 refine Y17 aG8;obtain @⟨H,Q,E,tv,av,cv,fs,j,bs,a,ps,N,d,F,W,M,χ,Nm,Np,Nc,B,rt,ra,rc,I,Z,L,k⟩:=h;refine Yi;intro cdv A ν s hr _;obtain⟨aa,xb,xm,xc,rfl,G,rxb,ε,R⟩:=ra;obtain⟨am,vm,rfl,ζ,α⟩:=nT ε;obtain⟨ac,vc,rfl,U,X⟩:=R;obtain⟨cu,rfl,θ⟩:=hV rc;have ω:j.length=W:=by have:=I.sl;rw[aA]at this;exact this
 have w4:=I.w4;have m5:=I.m5;refine⟨_,(aH (iL (i:=3) (dG.o ["way","trial","aim","counts"] [0,1,2]) aG8.nd rfl rfl (Y7G (Y0D FQ66 0)) YbM (λ_ _ _ _=>Y93 (bQ (fA K) (Y5c 2) (Y04)) (kP FQ67 (Y0t) (Y04) (Y0X))))
  (Y0Z (Y93 (Y3g Y1m (Y6a (BF K rfl) (by rfl) T.b_sum Kk 2)) (Y0D FQ64 3)))),?_⟩
 refine Yv;intro d_ n_;refine Y5 (jO.i rt ?_);rw[ω];refine⟨_,rfl,Oo,Oo,Yb4 (i<W/\Y2K (kI (iW j) a d i) y) (λi y H1 H2 s ⟨h1,h2⟩=>⟨h1,h2.flat s (dX _)⟩) Oo (λi H' Q' e p k'=>?_) (λD ys H1 hD e1 m hy ξ=>?_)⟩
 ·have e:i<W:=Oo;obtain⟨x,η⟩:∃x,j[i]?=Y7:=Y56 (by rw[ω];exact e);have ο:=aF η;obtain⟨g,ψ⟩:∃g,a[i]?=some g:=Y56 (by rw[I.ml];exact e);obtain⟨vg,γ,O⟩:=kG α ψ;rw[Int.zero_add];refine Y0n (p _ _ G);refine Y5 (jK (p _ _ ζ) (dB γ) ?_);refine Y4q;refine jN.i (rt.same p) η (rc.same p) (Z x ο) Oo λxw H2 z fw=>?_;have φ:a.getD i (0,1)=g:=hJ ψ;have ex:(iW j).getD i []=x.2:=hJ (by rw[aE,η];rfl);have S:=IQ I e;have ι:=BG I e (Nat.le_of_lt L);rw[φ]at S;rw[ex]at ι;refine eN.i (kU.of ((O.same p).same z)) fw.v S.low ι.low (Y4o I S (show 1<=1000000000000 by decide) pU) (Y4o I ι (show 1<=1000000000000 by decide) pU) λq3 H3 β μ τ=>k' _ H3 (z.trans τ) ⟨e,gF ?_⟩;unfold kI;rw[μ,φ,ex]
 have r1:bD H1 (((List.range W).map (kI (iW j) a d)).map iG) ys:=YaN ξ;have υ:∀f∈(List.range W).map (kI (iW j) a d),Fn (nZ M χ Nm Np Nc) 1 f:=λf hf=>by
  obtain⟨i,e,rfl⟩:=aN.mp hf;exact LX I (bL.mp e) (Nat.le_of_lt L)
 obtain⟨κ,ρ⟩:=AS (n:=W) (g:=kI (iW j) a d) λi e=>(qS I e d).1;have tn:Fn (nZ M χ Nm Np Nc) 4 (rA ((List.range W).map (kI (iW j) a d))):=by
  have:=Fn.tot _ υ;rw[aA,aQ]at this;exact this.le Oo
 obtain⟨δ,l⟩:∃g,N[d.sum]?=some g:=Y56 (by rw[I.cl];exact L);obtain⟨vgc,u,C⟩:=X.get l;have r:N.getD d.sum (0,1)=δ:=hJ l;have J:=SC I L;rw[r]at J;refine Y0n (m _ _ G);refine Y5 (YeC (ci d) (by rw[fM];exact jC.of (m _ _ θ)));rw[IK];refine jK (m _ _ U) (dB u) Y8;refine Yb5 e1 r1 (xW υ I.pos I.sz (by rw[aA,aQ];exact Oo) (aK (show 1<=1000000000000 by decide) pU)) (λv2 H2 z r2=>?_);have hB:=I.b;refine eN.i (((C.t m.t).t z.t).v) (kU.of r2) J.low κ (Y4o I J (show B<=4*WB by exact Oo) vF) (Y4o I tn (show 4<=1000000000000 by decide) pU) λq3 H3 β μ τ=>k _ H3 ((m.trans z).trans τ) (gF ?_);rw[μ];have em:nU δ (rA ((List.range W).map (kI (iW j) a d)))=fZ (CN W (iW j) a N d):=iT (iV J.low κ) (Y01) (by
  rw[lT J.low.pos κ.pos,dP,ρ];unfold CN;rw[show cT N d.sum=rv δ by unfold cT;rw[r]];congr 1;exact bP λi e=>(qS I e d).2)
 rw[em]
end
theorem RD{H:Hp}:∀{P:Yah Fr}{ys:Al},(∀(i:Nat) (y:V),Y1o=Y0b->∃f,Y2W f y/\P i f)->∃fs:Ak,Y6P ys.length/\Y5v H iG ys/\∀(i:Nat) (f:Fr),fs[i]?=Y6v->P i f
 | P,[],_=>⟨[],rfl,bD.nil,λi f h=>by simp at h⟩
 | P,y::ys,h=>by
  obtain⟨f,h1,h2⟩:=h 0 y rfl;obtain⟨fs,e,d,j⟩:=RD (P:=λi=>P (i+1)) (ys:=ys) λi z c=>h (i+1) z (by simpa using c);refine⟨f::fs,by rw[cD,cD,e],bD.cons h1 d,λi g a=>?_⟩;cases i with
  | zero=>cases(show f=g by simpa using a);exact h2
  | succ i=>exact j i g (by simpa using a)
def vJ{fs:Ak}{i:Nat}{f:Fr}(h:fs[i]?=Y6v):cT fs i=Y1O:=by unfold cT;rw[hJ h]
def tU{fs:Ak}{i:Nat}(h:Yb6 i):cT fs i=0:=by
 unfold cT;rw[aM,bI h];exact oC
def WF{N B:Nat}{fs:Ak}(h:∀f∈fs,FnP N B f)(i:Nat):0<=cT fs i:=by
 by_cases hi:Y8G i
 ·have:=h _ (eE (a:=(0,1)) hi);exact XS this.1.low this.2
 ·rw[tU Oo];exact Rat.le_refl
def aEL{ss:Aj}(h:∀s∈ss,∀f∈s,Y0m/\0<=f.1)(v:Nat)(c:Ae):0<=Y2q v:=by
 unfold gS;by_cases hv:v<ss.length
 ·exact aCW (h _ (eE hv))
 ·rw[aM,bI Oo];exact aCW λf a=>by cases a
def TrC.b{F W:Nat}{fs:Ah}{ws:Y0l}(T:TrC F W fs ws):∀x∈ws,Y7l x.2:=λx c =>
 ⟨λf a=>((T.sh x c).at f a).1.low,λf a=>by have:=(T.sh x c).bits f a;show f.1.natAbs<=1024;exact Oo,λf a=>by have:=(T.sh x c).bits f a;show f.2.natAbs<=1024;exact Oo⟩
def TrC.nn{F W:Nat}{fs:Ah}{ws:Y0l}(T:TrC F W fs ws)(v:Nat)(c:Ae):0<=gS (Y0K) v c:=aEL (λs e=>by
 obtain⟨x,a,rfl⟩:=aN.mp e;exact λf d=>⟨((T.sh x a).at f d).1.low,((T.sh x a).at f d).2⟩) v c
def NY{α:Type}(l:Yu):l.filter (λ_=>true)=l:=List.filter_eq_self.mpr λ_ _=>rfl
def NK{H:Hp}{α:Type}{g:α->Fr}{as:Yu}{ys:Al}(pr:Paired (λa y=>Y2W (g a) y) as ys):Y1n ((as.map g).map iG) ys:=by
 rw[List.map_map];exact Paired.toRepL pr
section
variable{H H':Hp}{tv av pv:V}{fs:Ah}{ws:Y0l}{bs mix ps cs:Ak}{F W M:Nat}
end
abbrev sQ3:Stmt:=(BD (top 56) 0)
def cQ3:Yj ["self","trial","aim","way","weights","ahead","costs"] a19 sQ3:={}
def Fn.dn{N B:Nat}{f:Fr}(h:Y42)(hN:0<N):f.2.natAbs ∣ N:=by
 obtain⟨x,rfl,_⟩:=h.eq hN;unfold lw;show((N:Int)/((Int.gcd x (N:Int):Nat):Int)).natAbs ∣ N;rw[<-Int.natCast_ediv,Int.natAbs_natCast];refine Nat.div_dvd_of_dvd ?_;have:=Int.gcd_dvd_right (a:=x) (b:=(N:Int));exact Int.ofNat_dvd.mp this
def lkS{fl:Y4v}{f:Str}{v:V}:(eP f v fl).lookup f=Yw:=by rw[fC,Ys]
def lkN{fl:Y4v}{f g:Str}{v u:V}(h:g≠f)(l:fl.lookup g=Ym):(eP f v fl).lookup g=Ym:=by rw[fC,Y5C];exact l
def aW.tI{H H':Hp}{x C dx:Addr}{fl:Y4v}(s:Y6M x)(hx:H x=some (.ins C dx fl)):Y2B:=Yeo (qL h hx (by intro z;cases z)) h
def nP.but{H H':Hp}{x C dx:Addr}{fl:Y4v}{a:Addr}{cs:Ab}(s:Y6M x)(hx:H x=some (.ins C dx fl))(h:nP H a cs):nP H' a cs:=by
 obtain⟨d,c,e⟩:=h;exact⟨d,s.at (qL c hx (by intro z;cases z)) c,e.flat (aW.tI s hx) (lX _)⟩
def nP.butL{H H':Hp}{x:Addr}{xs:Al}{a:Addr}{cs:Ab}(s:Y6M x)(hx:H x=Y0I)(n:a≠x)(h:nP H a cs):nP H' a cs:=by
 obtain⟨c,e,d⟩:=h;exact⟨c,s.at n e,d.flat (s.t hx) (lX _)⟩
def vG(H:Hp)(tas:Y0v)(ss:Aj)(rs:Ab)(us:Ae):Prop:=tas.length=us.length/\∀(i:Nat) (ta:Addr) (u:Nat),tas[i]?=some ta->Y5X=Ym->∃kvs,H ta=Y15/\DI kvs rs (λc=>Y2q i*(u:Rat))
def vG.mono{H H':Hp}{tas:Y0v}{ss:Aj}{rs:Ab}{us:Ae}(s:∀b kvs,H b=Y15->Y1N=Y15)(h:vG H tas ss rs us):vG H' tas ss rs us:=⟨h.1,λi e u c a=>by
 obtain⟨kvs,g,d⟩:=h.2 i e u c a;exact⟨kvs,s _ _ g,d⟩⟩
def vG.snoc{H:Hp}{tas:Y0v}{ss:Aj}{rs:Ab}{us:Ae}{p:Addr}{u:Nat}{kvs:Yr}(h:vG H tas ss rs us)(hp:H p=Y15)(D:DI kvs rs (λc=>Y2q us.length*(u:Rat))):vG H (tas++[p]) ss rs (us++[u]):=by
 refine⟨by rw[aU,aU,h.1];rfl,λi g v d a=>?_⟩;by_cases q:i<us.length
 ·rw[cJ (by rw[h.1];exact q)]at d;rw[cJ q]at a;exact h.2 i g v d a
 ·have j:=(Y6Z).1;rw[aU,List.length_singleton]at j;have e:i=us.length:=Oo;subst e;rw[cB (Yl),Nat.sub_self]at a;rw[cB (by rw[h.1];exact Yl),h.1,Nat.sub_self]at d;cases d;cases a;exact⟨kvs,hp,D⟩
def ahd(F M:Nat):Ab:=(rise F M).filter λc=>Y22 c.sum M
structure AB(H:Hp)(x C:Addr)(F W M:Nat)(ss:Aj)(mix cs:Ak)(us:Ae)(cu:Nat):Prop where
 ul:Y33 W
 ex:∃(dx:Addr) (fl:Y4v) (ra ua wa ca:Addr) (tas:Y0v) (kvs:Yr),H x=some (.ins C dx fl)/\fl.lookup ("rising" : Str)=Y3 ra/\fl.lookup ("units" : Str)=Y3 ua/\fl.lookup ("weights" : Str)=Y3 wa/\fl.lookup ("cost_unit" : Str)=Yb (cu:Int)/\fl.lookup ("costs" : Str)=Y3 ca /\
  nP H ra (Y0a)/\H ua=Yc (us.map FV)/\H wa=Yc (tas.map V.ref)/\vG H tas ss (Y0a) us/\H ca=Y15/\DI kvs (ahd F M) (λc=>CN W ss mix cs c*(cu:Rat))
theorem AB.same{H H':Hp}{x C:Addr}{F W M:Nat}{ss:Aj}{mix cs:Ak}{us:Ae}{cu:Nat}(s:Y0)(h:AB H x C F W M ss mix cs us cu):AB H' x C F W M ss mix cs us cu:=by
 obtain⟨y,u,m,p,n,B,z,e,c,r,j,A,l,D,w,J,I,G,i,d,a⟩:=h;exact⟨y,u,m,p,n,B,z,e,c,s _ _ r,j,A,l,D,w,J.same s,s _ _ I,s _ _ G,i.mono λb k g=>s _ _ g,s _ _ d,a⟩
structure IT(bs:Ak)(N:Nat)(us:Ae):Prop where
 d:∀u∈us,0<u/\u ∣ N
 b:∀(i:Nat) (f:Fr) (u:Nat),bs[i]?=Y6v->Y5X=Ym->f.2.natAbs ∣ u
def IT.snoc{bs:Ak}{N U:Nat}{us:Ae}{g:Fr}(h:IT bs N us)(hb:bs[us.length]?=some g)(u0:0<U)(uN:U ∣ N)(hd:g.2.natAbs ∣ U):IT bs N (us++[U]):=by
 refine⟨λu a=>?_,λi f u c a=>?_⟩
 ·rcases dM.mp a with a | a
  ·exact h.d u a
  ·rw[bT.mp a];exact⟨u0,uN⟩
 ·by_cases l:i<us.length
  ·rw[cJ l]at a;exact h.b i f u c a
  ·have e:i=us.length:=by
    have:=(Y6Z).1;rw[aU,List.length_singleton]at this;exact Oo
   subst e;rw[cB (Yl),Nat.sub_self]at a;rw[hb]at c;cases a;cases c;exact hd
structure aHf(ws:Y0l)(bs:Ak)(F W M Ns Nm Np Nc B Nb:Nat)(mix ps cs:Ak):Prop where
 wo:kO F W M (Y0K) mix ps cs Ns Nm Np Nc B
 bo:∀x∈ws,Y7l x.2
 bl:Yd4 W
 bb:∀f∈bs,Y13 Nb 1
 nb:0<Nb
 sz:nZ M Ns Nm Np Nc*Nb<Y0A
inductive wK (K:Aa) (C:Addr):Yq
 | i {H:Hp} {Q:VK} {E:XK} {x dx:Addr} {tv av:V} {fs:Ah} {ws:Y0l} {bs mix ps cs:Ak} {F W M Ns Nm Np Nc B Nb:Nat} (h0:H x=some (.ins C dx [])) (h1:Y3f tv) (h2:Y6P F) (h3:Y4A K H M av) (h4:aHf ws bs F W M Ns Nm Np Nc B Nb mix ps cs) (k:∀us cu H',Y6M x->AB H' x C F W M (Y0K) mix cs us cu->IT bs (Ns^M*Nb) us->0<cu->cu ∣ nZ M Ns Nm Np Nc->Ybz):wK K C [Y23,tv,av] H Q E
section
def oQ3(F:Ye "__init__" "Weighing.__init__" sQ3)(T:Yk)(FQ13:Y10 6 "all_counts" a47 uJ)(FQ26:Y03 "faces_of" a18 jX)
  (FQ66:Y03 "ways_of" a18 jO) (FQ67:Y3k "weight" a04 (jN K)) (FQ20:Y3j "common_lower" a26 (qG K)) (FQ30:Y3j "in_units" a40 (oO K))
  (FQ39:Y10 4 "look_cost" a41 (pG K)):dW P w K mg base dD 7 f fd a19 (wK K c.Weighing):=by
 refine Y17 cQ3;obtain @⟨H,Q,E,x,m,tv,av,fs,μ,bs,θ,ps,cs,F,W,M,φ,Nm,Np,Nc,B,Nb,hx,rt,hF,ra,G,k⟩:=h;refine Yi;intro cdv A outer s hr _;have I:=G.wo;have f1:=I.f1;have f4:=I.f4;have m5:=I.m5;have w4:=I.w4;have O:=T.w_Weighing;have wl:μ.length=W:=by have:=I.sl;rw[aA]at this;exact this
 have ra0:=ra;obtain⟨aa,xb,xm,xc,rfl,haa,rxb,rxm,rxc⟩:=ra0;obtain⟨ab,vb,rfl,hab,rvb⟩:=nT rxb;have small:=CB F f4 M m5;have ω:0<φ^M*Nb:=dU (by
  have:=I.pos;exact Yfn (by rw[z,Nat.mul_zero]at this;exact Y5W)) G.nb
 have nsz:φ^M*Nb<Y0A:=aI (by
  have h0:0<Np*Nc*Nm:=Yfn (by have:=I.pos;rw[z,Nat.zero_mul]at this;exact Y5W)
  rw[show nZ M φ Nm Np Nc*Nb=Np*Nc*Nm*(φ^M*Nb)by unfold nZ;ac_rfl];exact Y5Z h0) G.sz
 refine⟨_,(aH (Y6V (cR FQ13 (Y0D FQ26 1) (Y0N 2)))
  (aH (Y6V (iM aS))
  (aH (Y6V (iM aS))
  (aH (gH PassesOwn.never rfl (Y7G (Y0D FQ66 1)) (YaA 3 cQ3.nd rfl rfl) (aH (iL (i:=4) (dG.o ["counts","trial","way"] [1,3]) cQ3.nd rfl rfl Y6T YbM (λ_ _ _ _=>Y38 FQ67 Y0t 2 Y04))
  (aH (kW (rZ PySem.F.plainAttrs_list PySem.F.slot_list_append PySem.F.type_list_append sY Y1S (Y1p (gA FQ20 (cG vN (aD 4) (iM (Y1p (Y3g (Y0N 2) Y0X))))))))
  (aV (kW (rZ PySem.F.plainAttrs_list PySem.F.slot_list_append PySem.F.type_list_append sY Y1S (Y1p (Y38 FQ30 Y1S 4 (Y3g Y1S Y0X)))))))))
  (aH (iL (i:=5) (dG.o ["counts","aim"] [2]) cQ3.nd rfl rfl Y6T (λ_ _ _ _=>OY (eQ zR (Y6a (BF K rfl) (by rfl) T.b_sum Kk 0) (Y5c 1))) (λ_ _ _ _=>Y04))
  (aH (iL (i:=6) (dG.o ["counts","trial","aim"] [1,2]) cQ3.nd rfl rfl (dJ (aD 5)) YbM (λ_ _ _ _=>Y38 FQ39 Y0t 2 Y04))
  (aH (Y6V (Y0D FQ20 6))
  (aV (Y6V (Y38 FQ30 (aD 5) 6 Y1S)))))))))),?_⟩
 refine Yv;intro d_ n_;refine Y5 (jX.i rt ?_);rw[hF];refine Y0n haa;refine uJ.i f1 f4 m5 λR H1 s1 hR LR=>?_;have LR:nP H1 R (Y0a):=LR;have hx1:=s1 _ _ hx;refine⟨_,rfl,x,c.Weighing,m,_,rfl,hx1,O.cls,Y7k (by simp),by show 0<1000;decide,Y4i⟩;intro d_ n_;have b2:aW x H1 (Y8I H1 x c.Weighing m (Y34 "rising" R [])):=aW.self;have e2:(upd H1 x (.ins c.Weighing m (eP "rising" (.ref R) []))) x=some (.ins c.Weighing m (Y34 "rising" R [])):=bH;generalize upd H1 x (.ins c.Weighing m (eP "rising" (.ref R) []))=H2 at b2 e2 ⊢;have L2:=LR.but b2 hx1;have t2:fG H H2:=s1.t.trans (aW.tI b2 hx1);have B2:aW x H H2:=s1.but.trans b2;refine EA (by show 0<=64;decide) λl H3 ρ e3 s3=>⟨_,rfl,x,c.Weighing,m,_,rfl,s3 _ _ e2,O.cls,Y7k (by simp),by show 1<1000;decide,?_⟩;refine Y4i;intro d_ n_;have b4:=YeV x H3 m (Y34 "units" l (Y34 "rising" R []));have e4:(upd H3 x (.ins c.Weighing m (eP "units" (.ref l) (eP "rising" (.ref R) [])))) x=_:=bH;generalize upd H3 x (.ins c.Weighing m (eP "units" (.ref l) (eP "rising" (.ref R) [])))=H4 at b4 e4 ⊢;have η:l≠x:=λz=>by rw[z,e2]at ρ;cases ρ
 have e4u:=b4.at η e3;have L4:=(L2.same s3).but b4 (s3 _ _ e2);have t4:fG H H4:=(t2.trans s3.t).trans (aW.tI b4 (s3 _ _ e2));have B4:aW x H H4:=(B2.trans s3.but).trans b4;refine EA (by show 0<=64;decide) λJ H5 α e5 s5=>⟨_,rfl,x,c.Weighing,m,_,rfl,s5 _ _ e4,O.cls,Y7k (by simp),by show 2<1000;decide,?_⟩;refine Y4i;intro d_ n_;have b6:=YeV x H5 m (Y34 "weights" J (Y34 "units" l (Y34 "rising" R [])));have e6:(upd H5 x (.ins c.Weighing m (eP "weights" (.ref J) (eP "units" (.ref l) (eP "rising" (.ref R) []))))) x=_:=bH;generalize upd H5 x (.ins c.Weighing m (eP "weights" (.ref J) (eP "units" (.ref l) (eP "rising" (.ref R) []))))=H6 at b6 e6 ⊢;have ξ:J≠x:=λz=>by rw[z,e4]at α;cases α
 have nwu:J≠l:=λz=>by rw[z,e4u]at α;cases α
 have e6w:=b6.at ξ e5;have e6u:=b6.at η (s5 _ _ e4u);have L6:=(L4.same s5).but b6 (s5 _ _ e4);have B6:aW x H H6:=(B4.trans s5.but).trans b6;have lr:(eP "weights" (V.ref J) (eP "units" (.ref l) (eP "rising" (.ref R) []))).lookup ("rising" : Str)=Y3 R:=Y7m (Y7m lkS);have lu:(eP "weights" (V.ref J) (eP "units" (.ref l) (eP "rising" (.ref R) []))).lookup ("units" : Str)=Y3 l:=Y7m lkS;have lw':(eP "weights" (V.ref J) (eP "units" (.ref l) (eP "rising" (.ref R) []))).lookup ("weights" : Str)=Y3 J:=lkS;have fle:(eP "weights" (V.ref J) (Y34 "units" l (Y34 "rising" R []))).length<=3:=by
  have N:=lE "weights" (V.ref J) (Y34 "units" l (Y34 "rising" R []));have S:=lE "units" (V.ref l) (Y34 "rising" R []);have h3:=lE "rising" (V.ref R) [];simp only[List.length_nil]at h3;exact Oo
 generalize eP "weights" (V.ref J) (eP "units" (.ref l) (eP "rising" (.ref R) []))=fl at e6 lr lu lw' fle ⊢;have hu0:H l=none:=by
  cases q:H l with
  | none=>rfl
  | some o=>exact absurd (B2.at η q) (by rw[ρ];intro z;cases z)
 have hw0:H J=none:=by
  cases q:H J with
  | none=>rfl
  | some o=>exact absurd (B4.at ξ q) (by rw[α];intro z;cases z)
 have nRu:R≠l:=λz=>by obtain⟨vs,g,_⟩:=L2;rw[z,ρ]at g;cases g
 have nRw:R≠J:=λz=>by obtain⟨vs,g,_⟩:=L4;rw[z,α]at g;cases g
 clear ρ α e2 e3 e4 e5 e4u b2 b4 b6 s3 s5 L2 L4 LR t2 t4 B2 B4;refine Y5 (jO.i (YcE (aW.tI B6 hx) _ _) ?_);rw[wl];refine⟨_,rfl,Oo,Oo,?_⟩;refine mQ (λi σ H'=>Ex4 λ(o3 o4:Am) (ο:Ae) (γ:List Addr)=>An9 (σ=[Y3 x,some tv,Y3 aa,o3,o4,none,none]) (Y6M x) (H' x=some (.ins c.Weighing m fl)) (nP H' R (Y0a)) (H' l=Yc (ο.map FV)) (ο.length=i) (H' J=Yc (γ.map V.ref)) (vG H' γ (iW μ) (Y0a) ο) (IT bs (φ^M*Nb) ο))
  ⟨_,_,[],[],rfl,B6,e6,L6,e6u,rfl,e6w,Y0O (λi ta u h=>by simp at h),⟨λu hu=>(by cases hu),λi f u hf hu=>(by simp at hu)⟩⟩ ?_ ?_
 ·rintro i σ H7 hi ⟨o3,o4,ο,γ,rfl,B7,e7,L7,ad,ul,e7w,tb7,hus⟩;refine Y9V;intro d_ n_;have hi:i<W:=Oo;have t7:=aW.tI B7 hx;have rt7:=YcE t7 _ _;obtain⟨υ,hxv⟩:∃υ,μ[i]?=some υ:=Y56 (by rw[wl];exact hi);have ex:(iW μ).getD i []=υ.2:=hJ (by rw[aE,hxv];rfl);obtain⟨vs7,ν,r7,lr7⟩:=L7.len;rw[Int.zero_add];refine Y1X (by simp) e7 lr;refine Y1E R ν (dO (λj y H'=>∃a,Y0a[j]?=Y7a/\BH K H' (nR (υ.2.zip a)) y) (λj y Ha Hb s ⟨a,N,S⟩=>Y2r N (S.t s)) Oo ν (λj y H' Q' hy s' k'=>?_) (λD ys H8 hD e8 κ hy8 hr8=>?_))
  ·obtain⟨a,e,rc⟩:=fO r7 hy;have hcm:=(fT f1).mp (aF e);refine Y4q;exact jN.i (rt7.same s') hxv (rc.same s') (G.bo υ (aF hxv)) Oo λxw H9 s9 fw=>k' _ H9 s9 (Y2r e fw)
  have τ:Y2w ((Y0a).length):=Oo;refine Yt;intro d_ n_;have fr8:AF K H8 ((rise F M).map λa=>nR (υ.2.zip a)) ys:=⟨by rw[aA];exact τ,λj y hj=>by
   obtain⟨a,N,S⟩:=hr8 j y hj;exact Y0J (by rw[aE,N];rfl) S⟩
  have e8x:=κ _ _ e7;have e8u:=κ _ _ ad;have e8w:=κ _ _ e7w;have B8:=B7.trans κ.but;refine Y1X (by simp) e8x lu;refine⟨VL e8u,Y8⟩;have t8:=aW.tI B8 hx;obtain⟨fb,hfb⟩:∃fb,bs[i]?=some fb:=Y56 (by rw[G.bl];exact hi);obtain⟨yb,hyb,ryb⟩:=kG rvb hfb;refine Y0n (t8 _ _ haa);refine Y5 (jK (t8 _ _ hab) (dB hyb) ?_);refine EA (by show 1<=64;decide) λq9 H9 hq9 e9 s9=>OF (s9 _ _ e8) e9 (by rw[τ];show(Y0a).length+1<=1000;exact Oo) λq10 H10 hq10 ι s10=>?_;have d:=s9.trans s10;have ryb10:BH K H10 fb yb:=.inl (ryb.flat (t8.trans d.t) (dX _));have fr10:AF K H10 ((rise F M).map (λa=>nR (υ.2.zip a))++[fb]) (ys++[yb]):=⟨by rw[aU,aU,aA,τ];rfl,λj y hj=>by
   by_cases q:j<ys.length
   ·rw[cJ q]at hj;obtain⟨g,N,S⟩:=fr8.at_ j y hj;exact⟨g,by rw[cJ (by rw[aA];exact Oo)];exact N,S.t d.t⟩
   ·have lj:=(aC.mp hj).1;rw[aU,List.length_singleton]at lj;have ej:j=ys.length:=Oo;subst ej;rw[cB (Yl),Nat.sub_self]at hj;cases hj;exact⟨fb,by rw[cB (by rw[aA];exact Oo),aA,τ,Nat.sub_self];rfl,ryb10⟩⟩
  have wn:∀a,Y3Q a->Fn (φ^M) 1 (nR (υ.2.zip a)):=λa e=>by
   have hcm:=(fT f1).mp e;have N:=uS I hi a;have S:=I.qn hi (c:=a) Oo;rw[ex]at N;unfold gS at S;rw[ex]at S;exact Qn.f N S
  refine qG.i ι fr10.v ω nsz (λg hg=>?_) λU u0 uN hU=>?_
  ·rcases dM.mp hg with hg | hg
   ·obtain⟨a,e,rfl⟩:=aN.mp hg;have:=(wn a e).dvd (mF (φ^M) Nb);exact⟨this.low,Fn.dn this ω⟩
   ·rw[bT.mp hg];have:=(G.bb fb (aF hfb)).dvd (Nat.dvd_mul_left Nb (φ^M));exact⟨this.low,Fn.dn this ω⟩
  have uz:U<Y0A:=aI (kB ω uN) nsz;have δ:=d _ _ e8u;refine LW δ (by rw[aA];exact Oo) λH11 e11 β=>?_;have e11u:H11 l=Yc ((ο++[U]).map FV):=by rw[e11,bF];rfl
  have n:=β.at (Ne.symm η) (d _ _ e8x);have L:=β.at nwu (d _ _ e8w);have L11:=((L7.same κ).same d).butL β δ nRu;have t11:fG H8 H11:=d.t.trans (β.t δ);have hDu:D≠l:=λz=>by rw[z,ad]at hD;cases hD
  have e11D:=β.at hDu (d _ _ e8);have B11:aW x H H11:=aW.thru hu0 (B8.trans d.but) β;have tb11:vG H11 γ (iW μ) (Y0a) ο:=tb7.mono λb kv g=>β.at (qL (d _ _ (κ _ _ g)) δ (by intro z;cases z)) (d _ _ (κ _ _ g));refine Y1X (by simp) n lw';refine⟨VL L,Y1X (by simp) n lr⟩;refine Y5 (Y1X (by simp) n lu);refine Y5 (xH e11u (dB (j:=i) (v:=FV U) (by rw[bF,cB (by rw[aA];exact Oo),aA,ul,Nat.sub_self];rfl)) ?_);refine oO.i (g:=λa=>nR (υ.2.zip a)) L11 e11D (fr8.t t11) small uz (YeR) λp kvs H12 C hp ψ D12=>?_
  ·have N:=(wn a e).dvd (mF (φ^M) Nb);exact⟨N.low,Y4o I (by have:=BG I hi (c:=a) ((fT f1).mp e).2;rw[ex]at this;exact this) (show 1<=1000000000000 by decide) pU,hU _ (cL _ (Y32 a e))⟩
  refine LW (C _ _ L) (by rw[aA,tb7.1];exact Oo) λH13 e13 ζ=>?_;have hpw:p≠J:=λz=>by rw[z,L]at hp;cases hp
  have B12:=B11.trans C.but;refine⟨_,_,ο++[U],γ++[p],rfl,aW.thru hw0 B12 ζ,ζ.at (Ne.symm ξ) (C _ _ n),(L11.same C).butL ζ (C _ _ L) nRw,ζ.at (Ne.symm nwu) (C _ _ e11u),by rw[aU,ul];rfl,by rw[e13,bF];rfl,?_,hus.snoc (by rw[ul];exact hfb) u0 uN (hU _ (Yb0 _ rfl))⟩
  ·refine vG.snoc (kvs:=kvs) ?_ (ζ.at hpw ψ) ?_
   ·exact tb11.mono λb kv g=>ζ.at (qL (C _ _ g) (C _ _ L) (by intro z;cases z)) (C _ _ g)
   ·rw[ul];have:(λa=>gS (iW μ) i a*(U:Rat))=λa=>rv (nR (υ.2.zip a))*(U:Rat):=by
     funext a
     unfold gS wq;rw[ex]
    rw[this];exact D12
 ·rintro σ H7 ⟨o3,o4,ο,γ,rfl,B7,e7,L7,ad,ul,e7w,tb7,hus⟩;refine Y4i;intro d_ n_;have ul:ο.length=W:=Oo;have t7:=aW.tI B7 hx;have rt7:=YcE t7 _ _;have ra7:=ra.t t7;obtain⟨vs7,ν,r7,lr7⟩:=L7.len;refine Y1X (by simp) e7 lr;refine Y1E R ν (UU (g:=tK) r7 (λa=>Y22 a.sum M) Oo ν (λy a H' Q' e ry s' k'=>?_) (λy H' Q' q=>Y5 q) (λD ys H8 hD e8 κ r8=>?_))
  ·obtain⟨ac,rfl,hac⟩:=hV ry;refine Y5 (YeC (ci a) (by rw[fM];exact jC.of hac));rw[IK];refine Y0n (s' _ _ (t7 _ _ haa));refine Y5M _ _ _ ?_;rw[show decide ((a.sum:Int)<(M:Int))=decide (a.sum<M)by simp];exact k' H' (Y06)
  have r8:bD H8 ((ahd F M).map tK) ys:=r8;refine Yt;intro d_ n_;have τ:Y2w ((ahd F M).length):=by rw[r8.len,aA]
  have la:(ahd F M).length<=(Y0a).length:=List.length_filter_le ..;refine Y5a _ D _ e8 ?_;have mah:∀a,a∈ahd F M->a.length=F/\a.sum<M:=λa e=>by
   obtain⟨N,S⟩:=gB.mp e;exact⟨((fT f1).mp N).1,of_decide_eq_true S⟩
  refine dO (λj y H'=>∃a,(ahd F M)[j]?=Y7a/\Y7T (CN W (iW μ) θ cs a) y) (λj y Ha Hb s ⟨a,N,S⟩=>Y2r N (S.flat s (dX _))) Oo e8 (λj y H' Q' hy s' k'=>?_) (λD2 zs H9 hD2 e9 s9 hy9 hr9=>?_)
  ·obtain⟨a,e,rc⟩:=fO r8 hy;refine Y4q;exact pG.i ((rt7.same κ).same s') ((ra7.same κ).same s') (rc.same s') I G.bo (mah a (aF e)).2 λv H10 s10 r10=>k' _ H10 s10 (Y2r e r10)
  have lz9:zs.length=(ahd F M).length:=Oo;refine Yt;intro d_ n_;have fr9:AF K H9 ((ahd F M).map λa=>fZ (CN W (iW μ) θ cs a)) zs:=⟨by rw[aA];exact lz9,λj y hj=>by
   obtain⟨a,N,S⟩:=hr9 j y hj;exact Y0J (by rw[aE,N];rfl) (.inl S)⟩
  have ln:∀a,a∈ahd F M->Fn (nZ M φ Nm Np Nc) (B*4) (fZ (CN W (iW μ) θ cs a)):=λa e=>IR I (mah a e).2;refine Y8;refine qG.i e9 fr9.v I.pos I.sz (λg hg=>?_) λU u0 uN hU=>?_
  ·obtain⟨a,e,rfl⟩:=aN.mp hg;exact⟨(ln a e).low,Fn.dn (ln a e) I.pos⟩
  have uz:U<Y0A:=aI (kB I.pos uN) I.sz;have Z:=κ.trans s9;refine⟨_,rfl,x,c.Weighing,m,_,rfl,Z _ _ e7,O.cls,Y7k (by simp),Oo,?_⟩;have r:=YeV x H9 m (eP "cost_unit" (.int (U:Int)) fl);have ι:(upd H9 x (.ins c.Weighing m (eP "cost_unit" (.int (U:Int)) fl))) x=_:=bH;generalize upd H9 x (.ins c.Weighing m (eP "cost_unit" (.int (U:Int)) fl))=H10 at r ι ⊢;have χ:=Z _ _ e7;have nDx:D≠x:=qL e8 (κ _ _ e7) (by intro z;cases z);have nD2x:D2≠x:=qL e9 χ (by intro z;cases z);have t10:=aW.tI r χ;have LD:nP H10 D (ahd F M):=⟨ys,r.at nDx (s9 _ _ e8),(r8.same s9).flat t10 (lX _)⟩;refine Y2O (Y4j O (by simp) ι lkS);have hB:=I.b;refine oO.i (g:=λa=>fZ (CN W (iW μ) θ cs a)) LD (r.at nD2x e9) (fr9.t t10) Oo uz (λa e=>⟨(ln a e).low,Y4o I (ln a e) (show B*4<=4*WB by exact Oo) vF,hU _ (Y32 a e)⟩) λp kvs H11 ε hp e11 D11=>?_;have n:=ε _ _ ι;have fle2:=lE "cost_unit" (V.int (U:Int)) fl;refine⟨_,rfl,x,c.Weighing,m,_,rfl,n,O.cls,Y7k (by simp),Oo,?_⟩;have X:=YeV x H11 m (eP "costs" (Y21) (eP "cost_unit" (.int (U:Int)) fl));have ψ:(upd H11 x (.ins c.Weighing m (eP "costs" (.ref p) (eP "cost_unit" (.int (U:Int)) fl)))) x=_:=bH;generalize upd H11 x (.ins c.Weighing m (eP "costs" (.ref p) (eP "cost_unit" (.int (U:Int)) fl)))=H12 at X ψ ⊢;have npx:p≠x:=λz=>by rw[z,ι]at hp;cases hp
  refine k ο U H12 ((((B7.trans Z.but).trans r).trans ε.but).trans X) ⟨ul,m,_,R,l,J,p,γ,kvs,ψ,Y7m (Y7m lr),Y7m (Y7m lu),Y7m (Y7m lw'),Y7m lkS,lkS,?_,?_,?_,?_,X.at npx e11,?_⟩ hus u0 uN
  ·exact(((L7.same Z).but r χ).same ε).but X n
  ·exact X.at η (ε _ _ (r.at η (Z _ _ ad)))
  ·exact X.at ξ (ε _ _ (r.at ξ (Z _ _ e7w)))
  ·refine tb7.mono λb kv g=>?_;have g1:=Z _ _ g;have nb:b≠x:=qL g1 χ (by intro z;cases z);exact X.at nb (ε _ _ (r.at nb g1))
  ·have:(λa=>CN W (iW μ) θ cs a*(U:Rat))=λa=>rv (fZ (CN W (iW μ) θ cs a))*(U:Rat):=by
    funext a
    rw[dP]
   rw[this];exact D11
end
def FF{l:Y2j}{x:Rat}(h:l≠[]):lJ (l++[x])=if x<lJ l then x else lJ l:=by
 refine AY ?_ λy a=>?_
 ·split
  ·exact Yb0 _ rfl
  ·exact cL _ (sZ h)
 ·rcases dM.mp a with a | a
  ·have:=rK a;split <;> grind
  ·rw[bT.mp a];split <;> grind
section
variable{F W M:Nat}{ss:Aj}{mix ps cs:Ak}
def aEJ{u x y:Rat}(hu:0<u)(h:u*x<=u*y):x<=y:=by
 refine Y72 ?_;have a:y<x:=by grind
 have c:=Rat.mul_lt_mul_of_pos_left a hu;grind
def YY{d:Yx}{U:Rat}(hU:0<U){ns:Af}(hl:Y9z W)(hv:∀(i:Nat) (n:Int),ns[i]?=Y7d->(n:Rat)=U*(bZ W d-d i)){m:Int}(hm:m∈ns)(hle:∀a∈ns,m<=a):(m:Rat)=U*lJ (mG W d):=by
 obtain⟨i,h⟩:=fP.mp hm;have e:=hv i m h;have r:=(aC.mp h).1;have:lJ (mG W d)=bZ W d-d i:=by
  refine AY (qJ.mpr (Y3q i Oo)) λx l=>?_;obtain⟨w,p,rfl⟩:=qJ.mp l;obtain⟨n,g⟩:∃n,ns[w]?=Y7d:=Y88;have j:=hle n (aF g);have c:(m:Rat)<=(n:Rat):=by exact_mod_cast j
  rw[e,hv w n g]at c;exact aEJ hU c
 rw[this];exact e
end
def lvl(F:Nat)(best:Y0z):Y1F Ab
 | 0=>[List.replicate F 0]
 | k+1=>(cta F (k+1)).filter λd=>(lvl F best k).any λc=>best c == 0&&(List.range F).any λj=>d == bS c j
section
variable{F W M:Nat}{best:Y0z}
def lW(hF:1<=F):∀k,(lvl F best k).Sublist (cta F k)
 | 0=>by unfold lvl;rw[DK F hF];exact List.Sublist.refl _
 | k+1=>by unfold lvl;exact List.filter_sublist
def lV(hF:1<=F){k:Nat}{d:Ae}:d∈Y5F F (k+1) ↔ ∃c∈lvl F best k,best c=0/\∃j,j<F/\d=bS c j:=by
 have g:d∈Y5F F (k+1)↔d∈cta F (k+1)/\∃c∈lvl F best k,best c=0/\∃j,j<F/\d=bS c j:=by
  show d∈List.filter _ _↔_;rw[gB];simp
 rw[g];refine⟨λh=>h.2,λh=>⟨?_,h⟩⟩;obtain⟨c,i,_,j,a,e⟩:=h;exact(aAe hF).mpr ⟨c,(lW hF k).subset i,j,a,e⟩
def zZ(W b:Nat):Ak:=(List.range (1+W)).map λk=>if k=b then(1,1) else(0,1)
def oI(W:Nat)(best:Y0z)(c:Ae):cZ:=(c,Y6j W)
def qK(F M:Nat)(best:Y0z):Ab:=(List.range (M+1)).flatMap (lvl F best)
def rul(F W M:Nat)(best:Y0z):Yg:=(qK F M best).map (Y5U)
theorem DA{α:Type}{f g:Y1F Yu}(h:∀k,(f k).Sublist (g k)):∀l:Ae,(l.flatMap f).Sublist (l.flatMap g)
 | []=>List.Sublist.refl _
 | a::l=>by rw[List.flatMap_cons,List.flatMap_cons];exact(h a).append (DA h l)
def iZ(hF:1<=F):(qK F M best).Sublist (Y0a):=DA (lW hF) _
def HD:(rul F W M best).map (·.1)=Y76:=by unfold rul;rw[List.map_map];exact List.map_id _
def rH{b k:Nat}(h:k<1+W):cT (zZ W b) k=if k=b then 1 else 0:=by
 unfold cT zZ;rw[aM,aE,aZ h];show rv (if k=b then(1,1) else(0,1))=_;split
 ·exact BY
 ·exact oC
def oS(c:Ae):s0 (Y94 W c)=if Y0s=0 then 1 else 0:=by
 unfold s0 oI;rw[rH Oo];by_cases h:Y0s=0
 ·rw[if_pos h.symm,Y4W]
 ·rw[Y2t (h z.symm),Y5C]
def AZ{c:Ae}:Y82 c ↔ ∃k,k<=M/\c∈Y5F F k:=by
 unfold qK;rw[List.mem_flatMap];constructor
 ·rintro⟨k,a,h⟩;exact⟨k,by have:=Y71;exact Oo,h⟩
 ·rintro⟨k,a,h⟩;exact⟨k,bL.mpr Oo,h⟩
def xB(hF:1<=F)(on:∀c,Y0s=0->Y1U){c:Ae}(hc:Y82 c)(h:Y0s=0){j:Nat}(hj:j<F):Y82 Y2Y:=by
 obtain⟨k,e,a⟩:=AZ.mp hc;have d:=(iP ((lW hF k).subset a)).2;have g:=on c h;exact AZ.mpr ⟨k+1,Oo,(lV hF).mpr ⟨c,a,h,j,hj,rfl⟩⟩
def JT(hF:1<=F){d:Ae}(hd:Y82 d)(h:d≠Y00):∃c∈Y76,Y0s=0/\∃j,j<F/\Y2Y=d:=by
 obtain⟨k,m,a⟩:=AZ.mp hd;cases k with
 | zero=>exact Yef a h
 | succ k =>
  obtain⟨c,l,i,j,g,e⟩:=(lV hF).mp a;exact⟨c,AZ.mpr ⟨k,Oo,l⟩,i,j,g,e.symm⟩
def BZ:∃r,Y76=Y00::r:=by
 unfold qK;rw[List.range_succ_eq_map,List.flatMap_cons];exact Y37
def AT(hF:1<=F){c:Ae}(h:Y82 c):Y0T/\Y4s M:=(fT hF).mp ((iZ hF).subset h)
def XV(hF:1<=F)(f4:F<=4)(m5:M<=5)(on:∀c,Y0s=0->Y1U):sG F (Y1w) where
 root:=by
  obtain⟨r,l⟩:=Yfa M best;exact⟨_,_,by unfold rul;rw[l,bA],rfl⟩
 len:=λe g=>by
  obtain⟨c,a,rfl⟩:=Y8P;exact(AT hF a).1
 nd:=by rw[HD];exact(pI F f4 M m5).sublist (iZ hF)
 srt:=by
  unfold rul;rw[List.pairwise_map];exact(pH F M).sublist (iZ hF)
 fwd:=λe g p f m=>by
  obtain⟨c,a,rfl⟩:=Y8P;rw[HD];refine xB hF on a ?_ m;refine Y72 (p ?_);rw[oS,Y2F]
 bwd:=λd hd i=>by
  rw[HD]at hd;obtain⟨c,a,n,j,h,e⟩:=JT hF hd i;exact⟨Y94 W c,Y32 c a,by rw[oS,if_pos n];exact(by decide:(1:Rat)≠0),j,h,e⟩
 nn:=λe g=>by
  obtain⟨c,a,rfl⟩:=Y8P;rw[oS];split <;> grind
end
abbrev aDN:Stmt:=(top 61)
def aJc:Yj a33 a33 aDN:={}
abbrev aEC:Stmt:=(top 62)
def OI:Yj ["weighing","factors","cost_factor","best_at","worth_of","counts","dues","sums","onward"] a21 aEC:={}
def CV{N B U:Nat}{q:Rat}{n:Int}(h:Y2a q)(hN:0<N)(e:(n:Rat)=q*(U:Rat)):n.natAbs<=B*U:=by
 obtain⟨z,d,c⟩:=h;have i:n*(N:Int)=z*(U:Int):=by
  have:((n*(N:Int):Int):Rat)=((z*(U:Int):Int):Rat):=by
   rw[Rat.intCast_mul,Rat.intCast_mul,e,<-d];show q*(U:Rat)*(N:Rat)=q*(N:Rat)*(U:Rat);grind
  exact_mod_cast this
 have a:=congrArg Int.natAbs i;rw[dQ,dQ,Int.natAbs_natCast,Int.natAbs_natCast]at a;have g:n.natAbs*N<=(B*U)*N:=by
  rw[a,show B*U*N=B*N*U by ac_rfl];exact Y1z c
 exact Nat.le_of_mul_le_mul_right g hN
def dgI{H:Hp}{p b:Addr}{kvs:Yr}{cc:Ae}(e:H p=Y15)(hb:H b=Yf (cc.map FV)):oE H p (Y0e) (Y2y cc):=.inr ⟨kvs,Y2c cc,b,.inl e,rfl,by rw[yQ,fM];exact hb,rfl⟩
inductive HA (C:Addr):Yq
 | i {H:Hp} {Q:VK} {E:XK} {x:Addr} {cv:V} {cc:Ae} {F W M:Nat} {ss:Aj} {mix cs:Ak} {us:Ae} {cu:Nat} (h1:AB H x C F W M ss mix cs us cu) (h2:Y52 H cc cv) (h3:Y3Q cc) (h4:W<=64) (k:∀D (ns:Af) H',Y0->H D=none->Y0F=Y9M->Y9z W->(∀(i:Nat) (n:Int) (u:Nat),ns[i]?=Y7d->Y5X=Ym->(n:Rat)=gS ss i cc*(u:Rat))->Y18):HA C [Y23,cv] H Q E
section
def aH1(F:Ye "weights_at" "weights_at" aDN)(T:Yk):dW P w K mg base dD 1 f fd a33 (HA c.Weighing):=by
 refine Y17 aJc;obtain @⟨H,Q,E,x,cv,g,F,W,M,J,ε,cs,B,cu,β,μ,l,δ,k⟩:=h;refine Yi;intro N A p s X _;obtain⟨ul,ψ,φ,ra,χ,θ,ca,τ,γ,ζ,υ,a2,Z,a4,a5,a6,a7,L,I,ρ,ξ⟩:=β;obtain⟨ac,rfl,j⟩:=hV μ;have O:=T.w_Weighing;have tl:=I.1;refine Y6g _ (Y7r ["table","counts"] [1] Y6T (gQ X.u1 Y04 Y0t));refine Y1X (by simp) ζ Z;refine Y1E θ L (Yd1 (∃n,y=Y5I/\∀u,B[i]?=Ym->(n:Rat)=gS J i g*(u:Rat)) Y8l (by rw[aA];exact Oo) L (λi y H' Q' e C ν=>?_) (λD ys H1 η U R e r=>?_))
 ·rw[aE]at e;obtain⟨α,a,rfl⟩:=eM.mp e;have li:=(Y6Z).1;obtain⟨u,G⟩:∃u,B[i]?=Ym:=Y88;obtain⟨kv,S,κ⟩:=I.2 i α u a G;obtain⟨n,z,m⟩:=κ.yes g l;refine Y07 (Y5y (C _ _ S) g (by rw[fM];exact C _ _ j) z ?_);exact ν _ H' (Y06) (Yz n (λω d=>by rw[G]at d;cases d;exact m))
 ·obtain⟨ο,rfl,ι⟩:=mZ (P:=λi n=>∀u,B[i]?=Ym->(n:Rat)=gS J i g*(u:Rat)) r;rw[aA,aA]at e;exact k D ο H1 R η U Oo λi n u z m=>ι i n z u m
end
structure DP(kvs:Yr)(S:Ab)(R:Y0u Ae V):Prop where
 yes:∀c∈S,∃v,Y2y c=Yw/\R c v
 len:Y8m (2*S.length)
def DP.put{kvs:Yr}{S:Ab}{R:Y0u Ae V}(h:DP kvs S R){c:Ae}{v:V}(r:R c v):DP (Y8F c v) (c::S) R:=by
 refine⟨Yct,by have:=h.len;have:=Y6n kvs c v;rw[cD];exact Oo⟩;rw[iC];by_cases e:d=c
 ·subst e;rw[Ys];exact Yz v r
 ·rw[Y31 (e (Y36 q))];exact h.yes d ((bN.mp hd).resolve_left e)
def DP.put2{kvs:Yr}{S:Ab}{R:Y0u Ae V}(h:DP kvs S R){c:Ae}{u v:V}(r:R c v):DP (jQ (Y8F c u) (Y2c c) v) (c::S) R:=by
 refine⟨Yct,by have:=h.len;have:=Y6n kvs c u;have:=Y6n (Y8F c u) c v;rw[cD];exact Oo⟩;rw[iC];by_cases e:d=c
 ·subst e;rw[Ys];exact Yz v r
 ·rw[Y31 (e (Y36 q)),iC,Y31 (e (Y36 q))];exact h.yes d ((bN.mp hd).resolve_left e)
def VJ(kvs:Yr)(rs:Ab)(best:Y0z):Prop:=(∀c∈rs,Y2y c=Yb (best c:Nat))/\Yby
theorem JJ:∀ns:Af,((ns.sum:Int):Rat)=rC (ns.map λ(n:Int)=>(n:Rat))
 | []=>rfl
 | a::ns=>by rw[List.sum_cons,Rat.intCast_add,JJ ns];rfl
def JI{n:Nat}{ns:Af}{d:Yx}(hl:Y9z n)(h:∀(i:Nat) (m:Int),ns[i]?=Y95->(m:Rat)=d i):((ns.sum:Int):Rat)=bZ n d:=by
 rw[JJ];unfold bZ;congr 1;refine Y6x;rw[aE,aE];by_cases q:i<n
 ·obtain⟨m,a⟩:∃m,ns[i]?=Y95:=Y88;rw[a,aZ q];show some (m:Rat)=some (d i);rw[h i m a]
 ·rw[bI Oo,bI (by rw[aQ];exact Oo)];rfl
def aEO{n:Nat}(h:n<Y0A){b:Nat}(hb:b<=2^690):b*n<Y0R:=by
 have c:b*n<=2^690*n:=Y1z hb;have a:2^690*n<2^690*Y0A:=Nat.mul_lt_mul_of_pos_left h (Y61);rw[<-Nat.pow_add]at a;exact Y7R c a
section
end
abbrev aEe:Stmt:=(top 39)
def aJr:Yj ["says"] ["says"] aEe:={}
abbrev aEc:Stmt:=(top 34)
def aJq:Yj ["faces"] ["faces"] aEc:={}
abbrev aD5:Stmt:=(top 64)
def aCx:Yj ["weighing","best_at","ways","table","counts"] a07 aD5:={}
abbrev aEu:Stmt:=(top 41)
def aCD:Yj ["level","table","found","counts","more"] ["level","table"] aEu:={}
abbrev aEt:Stmt:=(top 40)
def aCC:Yj ["faces","table","found","level"] a05 aEt:={}
abbrev aDY:Stmt:=(top 42)
def aJh:Yj a05 a05 aDY:={}
theorem yL{α:Type}[DecidableEq α]:∀{l m:Yu},l.Nodup->(∀x∈l,x∈m)->l.length<=m.length
 | [],m,_,_=>cP _
 | x::l,m,h,hs=>by
  rw[List.nodup_cons]at h;have hx:=hs x (aY ..);have c:=yL (l:=l) (m:=m.erase x) h.2 λy a=>(List.mem_erase_of_ne (λe=>by subst e;exact h.1 a)).mpr (hs y (bG _ a));rw[List.length_erase_of_mem hx]at c;have:0<m.length:=List.length_pos_of_mem hx;rw[cD];exact Oo
def aFm{kvs:Yr}{ks:Ac}{v:V}(c:Af)(hk:kvs.map (·.1)=ks.map kT)(nd:ks.Nodup):∃ks2:Ac,(jQ kvs (kT c) v).map (·.1)=ks2.map kT/\ks2.Nodup/\∀x,x∈ks2↔x∈ks\/x=c:=by
 cases e:Y8v (kT c)with
 | some u =>
  refine⟨ks,by rw[EB (by rw[e];rfl),hk],nd,λx=>⟨.inl,λh=>?_⟩⟩;rcases h with h | rfl
  ·exact h
  ·have:kT x∈kvs.map (·.1):=AJ e;rw[hk]at this;obtain⟨y,d,i⟩:=aN.mp this;rw[<-jA i];exact d
 | none =>
  have j:c ∉ ks:=λh=>by
   have:kT c∈kvs.map (·.1):=by rw[hk];exact List.mem_map_of_mem h
   exact WE e this
  refine⟨ks++[c],by rw[CC v e,bF,bF,hk];rfl,List.nodup_append.mpr ⟨nd,by simp,λa g b l e=>by cases bT.mp l;subst e;exact j g⟩,λx=>by rw[dM,bT]⟩
def aCp:∀F,F<=4->∀m,m<=5->((cta F m).map ci).Pairwise (λa b=>rP a b=true):=Kk
def ctI(c:Ae):PyData.tuple ((ci c).map .int)=tK c:=by unfold ci;rw[List.map_map];rfl
section
variable{F W M:Nat}{best:Y0z}
end
def EnW(K:Aa)(H:Hp)(e:cZ)(x:V):Prop:=∃b cu z,x=Y0e/\H b=Yf [.ref cu,z]/\H cu=Yf (e.1.map FV)/\MA K H e.2 z
theorem EnW.t{K:Aa}{H H':Hp}{e:cZ}{x:V}(s:Y2B)(h:EnW K H e x):EnW K H' e x:=by
 obtain⟨b,g,z,d,a,i,c⟩:=h;exact⟨b,g,z,d,s _ _ a,s _ _ i,c.t s⟩
def MB(K:Aa)(H:Hp)(es:Yg)(v:V):Prop:=∃a xs,v=Yd/\H a=Y16/\Y5u es.length/\∀(i:Nat) (x:V),Y0p=Y7->∃e,es[i]?=Y7b/\EnW K H e x
theorem MB.t{K:Aa}{H H':Hp}{es:Yg}{v:V}(s:Y2B)(h:MB K H es v):MB K H' es v:=by
 obtain⟨a,c,j,d,p,g⟩:=h;exact⟨a,c,j,s _ _ d,p,λi x n=>by obtain⟨e,m,l⟩:=g i x n;exact⟨e,m,l.t s⟩⟩
inductive lD (K:Aa):Yq
 | i {H:Hp} {Q:VK} {E:XK} {z:V} {f:Fr} {fs:Ak} (h1:MA K H (f::fs) z) (k:Y3e (Y22 0 f.1)):lD K [z] H Q E
inductive mM:Yq
 | i {H:Hp} {Q:VK} {E:XK} {F:Nat} (h:F<=64) (k:∀v H',Y0->Y52 H' Y00 v->Y1W):mM [.int (F:Int)] H Q E
structure uW(F M:Nat)(best:Y0z)(sy:Ae->Ak)(R:Y85):Prop where
 f1:1<=F
 f4:F<=4
 m5:M<=5
 on:∀c,Y0s=0->Y1U
 r:(Y0a).length<=400
 hd:∀c,R c->∃f fs,sy c=f::fs/\(0<f.1↔Y0s=0)
 root:R (Y00)
 fwd:∀c,R c->Y0s=0->∀f,f<F->R (Y5g)
theorem uW.lvl{F M:Nat}{best:Y0z}{sy:Ae->Ak}{R:Y85}(I:uW F M best sy R):∀(k:Nat) {c:Ae},c∈Kw.lvl F best k->R c
 | 0,c,h=>by
  have h:c∈[List.replicate F 0]:=h;rw[bT.mp h];exact I.root
 | k+1,c,h=>by
  obtain⟨d,hd,e,f,a,rfl⟩:=(lV I.f1).mp h;exact I.fwd d (I.lvl k hd) e f a
def uW.ruC{F M:Nat}{best:Y0z}{sy:Ae->Ak}{R:Y85}(I:uW F M best sy R){c:Ae}(h:c∈Kw.qK F M best):R c:=by
 unfold Kw.qK at h;obtain⟨k,_,a⟩:=List.mem_flatMap.mp h;exact I.lvl k a
def TbG(K:Aa)(H:Hp)(d:Addr)(R:Y85)(sy:Ae->Ak):Prop:=∃kvs,H d=Y15/\∀c,R c->∃v,Y2y c=Yw/\MA K H (sy c) v
def TbG.same{K:Aa}{H H':Hp}{d:Addr}{R:Y85}{sy:Ae->Ak}(s:Y0)(h:TbG K H d R sy):TbG K H' d R sy:=by
 obtain⟨a,g,e⟩:=h;exact Y2r (s _ _ g) (λc l=>by obtain⟨v,j,i⟩:=e c l;exact⟨v,j,i.t s.t⟩)
def ruG(F M:Nat)(best:Y0z)(sy:Ae->Ak):Yg:=(qK F M best).map λc=>(c,sy c)
inductive wU (K:Aa):Yq
 | i {H:Hp} {Q:VK} {E:XK} {L d:Addr} {F M k:Nat} {best:Y0z} {sy:Ae->Ak} {R:Y85} (h1:nP H L (Y5F F k)) (h2:TbG K H d R sy) (h3:uW F M best sy R) (h4:k<=M) (q:∀D H',Y0->H D=none->nP H' D (Y5F F (k+1))->Y18):wU K [.ref L,Y5H] H Q E
inductive wS (K:Aa):Yq
 | i {H:Hp} {Q:VK} {E:XK} {d:Addr} {F M:Nat} {best:Y0z} {sy:Ae->Ak} {R:Y85} (h2:TbG K H d R sy) (h3:uW F M best sy R) (q:∀D H',Y0->H D=none->nP H' D (Y76)->Y18):wS K [.int (F:Int),Y5H] H Q E
inductive pZ (K:Aa):Yq
 | i {H:Hp} {Q:VK} {E:XK} {d:Addr} {F M:Nat} {best:Y0z} {sy:Ae->Ak} {R:Y85} (h2:TbG K H d R sy) (h3:uW F M best sy R) (q:∀v H',Y0->MB K H' (ruG F M best sy) v->Y1W):pZ K [.int (F:Int),Y5H] H Q E
theorem BC{F M:Nat}{best:Y0z}(hF:1<=F)(on:∀c,Y0s=0->Y1U):∀j,Y5F F (M+1+j)=[]
 | 0=>by
  refine List.eq_nil_iff_forall_not_mem.mpr λd hd=>?_;obtain⟨c,hc,h0,_⟩:=(lV hF).mp hd;have a:=(iP ((lW hF M).subset hc)).2;have:=on c h0;exact Oo
 | j+1=>by
  refine List.eq_nil_iff_forall_not_mem.mpr λd hd=>?_;obtain⟨c,hc,_⟩:=(lV (k:=M+1+j) hF).mp hd;rw[BC hF on j]at hc;cases hc
theorem KC{F k:Nat}{best:Y0z}(hF:1<=F)(h:Y5F F k=[]):∀j,Y5F F (k+j)=[]
 | 0=>h
 | j+1=>by
  refine List.eq_nil_iff_forall_not_mem.mpr λd hd=>?_;obtain⟨c,hc,_⟩:=(lV (k:=k+j) hF).mp hd;rw[KC hF h j]at hc;cases hc
theorem FO{F k:Nat}{best:Y0z}(hF:1<=F)(h:Y5F F k=[]):∀j,(List.range (k+j)).flatMap (lvl F best)=(List.range k).flatMap (lvl F best)
 | 0=>rfl
 | j+1=>by rw[<-Nat.add_assoc,qM,KC hF h j,List.append_nil,FO hF h j]
section
def aIt(F:Ye "looks_on" "looks_on" aEe)(T:Yk):dW P w K mg base dD 1 f fd ["says"] (lD K):=by
 refine F.oky aJr λp H Q E h=>?_;obtain @⟨H,Q,E,z,f,fs,⟨u,B,rfl,a,e⟩,k⟩:=h;refine Yi;intro l A d s r _;obtain⟨y,g,m⟩:=e.get (i:=0) rfl;obtain⟨b,rfl,n⟩:=m.v;refine Y6S (vI FD (Y3g (Y3n 0 (Yg2 (.int 0))) aO) aO) (Y5 (jK a (Y6b g) ?_));exact vC n rfl (Y53 _ _ k)
def aIr(F:Ye "noughts" "noughts" aEc)(T:Yk):dW P w K mg base dD 1 f fd ["faces"] mM:=by
 refine F.oky aJq λG H Q E h=>?_;obtain @⟨H,Q,E,F,M,k⟩:=h;refine Yi;intro j A a s I _;refine Y6g _ (Y6s (by rfl) ["face"] [] (Y6O 0) aO);refine Y3p _ rfl _ Oo Oo (Yb4 (∃n,y=Y5I/\n=0) Y8l Oo (λi H' Q' O N p=>p _ H' (Y06) (Yz 0 rfl)) (λD J H1 L C r e d=>?_));obtain⟨m,rfl,u⟩:=mZ (P:=λ_ n=>n=0) d;have g:m=Y00:=by
  rw[aA]at e;exact List.eq_replicate_iff.mpr ⟨Oo,λb B=>by obtain⟨i,h⟩:=fP.mp B;exact u i b h⟩
 subst g;refine Y8b D C (λl z=>?_);refine k _ _ (r.trans (aT.upd z)) (vT ?_);rw[bH,List.map_replicate,List.map_replicate];rfl
def aIL(F:Ye "counts_behind" "counts_behind" aEu)(T:Yk)(FQ40:Y03 "looks_on" ["says"] (lD K))(FQ45:Y3j "ones_more" a34 fY):dW P w K mg base dD 3 f fd ["level","table"] (wU K):=by
 refine Y17 aCD;obtain @⟨H,Q,E,L,d,F,M,n,l,sy,R,LS,tb,I,hk,q⟩:=h;refine Yi;intro cdv A aa s ρ _;obtain⟨ys,hL,ry,ly⟩:=LS.len;have f1:=I.f1;have f4:=I.f4;have m5:=I.m5;have γ:∀(j:Nat) (d:Af),(∃c∈(lvl F l n).take j,l c=0/\∃f,f<F/\d=ci (bS c f))->d∈(lvl F l (n+1)).map ci:=λj d ⟨c,u,B,f,S,e⟩=>aN.mpr ⟨Y5g,(lV f1).mpr ⟨c,List.mem_of_mem_take u,B,f,S,rfl⟩,e.symm⟩;have υ:(lvl F l (n+1)).length<=56:=by
  by_cases z:n+1<=5
  ·exact aK (lW f1 (n+1)).length_le (yV F f4 (n+1) z)
  ·have e:=BC f1 I.on (n-M);rw[show M+1+(n-M)=n+1 by exact Oo]at e;rw[e];exact Y0L
 refine⟨_,(aH (Y1q aCD.nd nE)
  (aH (Y7M (dJ (Y04)) 3 aCD.nd (iR (SM (GI (eQ (YT ρ.u1) (Y0X) (Y0t) (by with_unfolding_all rfl)) (AH (sH (gA FQ40 (Y7S ρ.u1 Y0X)))))) (aV (Y7M (dJ (Y0D FQ45 3)) 4 aCD.nd (iY ρ.u1 Y0c (aD 4) PH))) fR))
  (Y0Z (Y6a (aCt rfl) (by rfl) T.b_sorted Kk 2)))),?_⟩
 refine Yv;intro φ n_;intro p hp;have κ:=Y6H [] hp;have e1:(upd H p (.dT [])) p=Y0g []:=bH;generalize upd H p (.dT [])=H1 at κ e1 ⊢;refine Y5a _ L _ (κ _ _ hL) ?_;refine kR (xs:=ys) (λj σ H'=>Ex4 λ(o3 η:Am) (r:List (List fJ × V)) (ks:Ac)=>An6 (σ=[Y3 L,Y3 d,Y3c,o3,η]) (Y0) (H' p=Y0g r) (r.map (·.1)=ks.map kT) (ks.Nodup) (∀d,d∈ks ↔ ∃c∈(lvl F l n).take j,l c=0/\∃f,f<F/\d=ci (bS c f)))
  ⟨_,_,[],[],rfl,κ,e1,rfl,List.nodup_nil,λd=>⟨(λh=>by cases h),λ⟨c,u,_⟩=>by rw[List.take_zero]at u;cases u⟩⟩ (YfA) ?_ ?_
 ·obtain⟨_,_,_,_,_,S',_⟩:=q;exact fV.of (S' _ _ hL)
 ·rintro j x σ H2 hx ⟨o3,η,r,ks,rfl,S2,α,C,nd,δ⟩;refine Y5A;intro φ;obtain⟨cc,u,rc⟩:=fO ry hx;obtain⟨ac,rfl,U⟩:=hV rc;have W:=aF u;obtain⟨lc,sc⟩:=iP ((lW f1 n).subset W);obtain⟨tk,ht,ω⟩:=tb.same S2;obtain⟨v,hv,sv⟩:=ω cc (I.lvl n W);have step:∀d,(∃c∈(lvl F l n).take (j+1),l c=0/\∃f,f<F/\d=ci (bS c f))↔(∃c∈(lvl F l n).take j,l c=0/\∃f,f<F/\d=ci (bS c f))\/(l cc=0/\∃f,f<F/\d=ci (bS cc f)):=λd=>by
   rw[hZ u];constructor
   ·rintro⟨c,Z,h⟩;rcases dM.mp Z with h' | h'
    ·exact .inl ⟨c,h',h⟩
    ·rw[bT.mp h']at h;exact .inr h
   ·rintro(⟨c,Z,h⟩ | h)
    ·exact⟨c,cL _ Z,h⟩
    ·exact⟨cc,Yb0 _ rfl,h⟩
  refine Y07 (rind (dgI (cc:=cc) ht (S2 _ _ U)) ?_);rw[hv];refine Y5 (sD ?_);refine Y07 (Y5y ht cc (by rw[fM];exact S2 _ _ U) hv ?_);obtain⟨hf0,hfs,ι,ζ⟩:=I.hd cc (I.lvl n W);rw[ι]at sv;refine lD.i sv (Y5 (yR (Ybf) (Ybf)))
  ·have B:l cc=0:=ζ.mp on;refine Y2N;intro φ;refine Y8;refine fY.i (vT (S2 _ _ U)) Oo λD zs H3 hD e3 r3 s3=>Y1E D e3 ?_;have lz:zs.length=F:=by rw[r3.len,aA,aA,aQ];exact lc
   have τ:D≠p:=λz=>by rw[z,α]at hD;cases hD
   refine kR (xs:=zs) (λg σ H'=>Ex3 λ(η:Am) (r:List (List fJ × V)) (ks:Ac)=>An6 (σ=[Y3 L,Y3 d,Y3c,Y3 ac,η]) (aW p H3 H') (H' p=Y0g r) (r.map (·.1)=ks.map kT) (ks.Nodup) (∀d,d∈ks↔(∃c∈(lvl F l n).take j,l c=0/\∃f,f<F/\d=ci (bS c f))\/∃f,f<g/\d=ci (bS cc f)))
    ⟨_,r,ks,rfl,(Y06).but,s3 _ _ α,C,nd,λd=>by rw[δ];exact⟨.inl,λh=>by rcases h with h | ⟨f,S,_⟩;exact h;exact Oo⟩⟩ (λg σ H' _ q=>?_) ?_ ?_
   ·obtain⟨_,_,_,_,b',_⟩:=q;exact Yet τ e3
   ·rintro g z σ H4 hz ⟨ψ,X,O,rfl,θ,ο,G,N,J⟩;refine Y5A;intro φ;have hg:g<F:=by have:=(aC.mp hz).1;exact Oo
    obtain⟨c2,ε,χ⟩:=fO r3 hz;rw[aE,aZ Oo]at ε;cases ε;have t4:fG H3 H4:=aW.tT θ (s3 _ _ α);obtain⟨a2,rfl,ξ⟩:=hV (χ.flat t4 (qN _));have lk:O.length<=56:=by
     have:=yL N (m:=(lvl F l (n+1)).map ci) λd hd=>by
      rcases(J d).mp hd with h | ⟨f,S,e⟩
      ·exact γ j d h
      ·exact γ (j+1) d ((step d).mpr (.inr ⟨B,f,Oo,e⟩))
     rw[aA]at this;exact Oo
    have lkv:X.length=O.length:=by have:=Y7u G;simpa using this
    refine Y02;refine Y5x ο (bS cc g) (by rw[fM];exact ξ) Oo (λH5 e5 b5=>?_);obtain⟨μ,k1,k2,k3⟩:=aFm (v:=Ybu) (ci (bS cc g)) G N;refine⟨_,_,μ,rfl,θ.trans b5,e5,k1,k2,Y6U⟩;rw[k3,J];constructor
    ·rintro((h | ⟨f,S,e⟩) | h)
     ·exact .inl h
     ·exact .inr ⟨f,Oo,e⟩
     ·exact .inr ⟨g,Oo,h⟩
    ·rintro(h | ⟨f,S,e⟩)
     ·exact Ycx h
     ·by_cases q:f=g
      ·subst q;exact .inr e
      ·exact .inl (.inr ⟨f,Oo,e⟩)
   ·rintro σ H4 ⟨ψ,X,O,rfl,θ,ο,G,N,J⟩;refine⟨_,_,X,O,rfl,aT.thru hp (S2.trans s3) θ,ο,G,N,Y6U⟩;rw[J,step,lz];constructor
    ·rintro(h | h)
     ·exact .inl h
     ·exact Y2G B h
    ·rintro(h | h)
     ·exact .inl h
     ·exact .inr h.2
  ·have B:¬l cc=0:=λz=>on (ζ.mpr z);refine⟨_,_,r,ks,rfl,S2,α,C,nd,Y6U⟩;rw[δ,step];exact⟨.inl,λh=>by rcases h with h | h;exact h;exact absurd h.1 B⟩
 ·rintro σ H2 ⟨o3,η,r,ks,rfl,S2,α,C,nd,δ⟩;rw[ly,dY]at δ;have y:∀d,d∈ks↔d∈(lvl F l (n+1)).map ci:=λd=>by
   rw[δ,aN];constructor
   ·rintro⟨c,u,B,f,S,e⟩;exact⟨Y5g,(lV f1).mpr ⟨c,u,B,f,S,rfl⟩,e.symm⟩
   ·rintro⟨d',hd',rfl⟩;obtain⟨c,u,B,f,S,rfl⟩:=(lV f1).mp hd';exact⟨c,u,B,f,S,rfl⟩
  have lk:ks.length<=56:=by
   have:=yL nd (m:=(lvl F l (n+1)).map ci) λd hd=>(y d).mp hd;rw[aA]at this;exact Oo
  refine Y8;refine rsrd (cs:=ks) α C (λc u=>?_) Oo λq8 ν ds H8 pm pw hq8 e8 r8 s8=>?_
  ·obtain⟨d,hd,rfl⟩:=aN.mp ((y c).mp u);obtain⟨l1,_⟩:=iP ((lW f1 (n+1)).subset hd);intro z;have e:(ci d).length=d.length:=by unfold ci;rw[aA]
   rw[z,List.length_nil]at e;exact Oo
  have β:((lvl F l (n+1)).map ci).Pairwise λa b=>rP a b=true:=by
   by_cases z:n+1<=5
   ·exact(aCp F f4 (n+1) z).sublist ((lW f1 (n+1)).map ci)
   ·have e:=BC f1 I.on (n-M);rw[show M+1+(n-M)=n+1 by exact Oo]at e;rw[e];exact List.Pairwise.nil
  have eds:ds=(lvl F l (n+1)).map ci:=KL pw β λd=>by rw[pm.mem_iff];exact y d
  rw[eds,List.map_map,show(lvl F l (n+1)).map ((λc:Af=>PyData.tuple (c.map .int)) ∘ ci)=(lvl F l (n+1)).map tK from cU λc _=>ctI c]at r8;exact q q8 H8 (S2.trans s8) (S2.free hq8) ⟨ν,e8,r8⟩
def aIK(F:Ye "counts_come_to" "counts_come_to" aEt)(T:Yk)(FQ42:Y03 "noughts" ["faces"] mM)(FQ22:Y3k "counts_behind" ["level","table"] (wU K)):dW P w K mg base dD 4 f fd a05 (wS K):=by
 refine F.oky aCC YfN;obtain @⟨H,Q,E,d,F,M,a,ν,R,ζ,I,q⟩:=h;refine Yi;intro ε A S s θ _;have f1:=I.f1;have f4:=I.f4;have m5:=I.m5;refine⟨_,(aH (Y1q aCC.nd (iM aS))
  (aH (Y1r aCC.nd (iM (Y1p (Y0D FQ42 0))))
  (aH (vW PassesOwn.never (eQ FD (Y9P nV (by rfl) Kk 3) aO) (aH (kW (Yfc NO Y0c (Y3L 3)))
  (aV (Y2d 3 aCC.nd FQ22 3 Y0t))))
  (Y2x 2)))),?_⟩
 refine Yv;intro X W;refine EA (by show 0<=64;decide) λp H1 B g β=>Yt;intro X W;refine Y8;refine mM.i Oo λv H2 J L=>EA (by show 1<=64;decide) λle H3 u y n=>?_;have C:=(β.trans J).trans n;have l:le≠p:=λz=>by subst z;rw[J _ _ g]at u;cases u
 have r:∀i,i<=M+1->((List.range i).flatMap (lvl F a)).length<=400:=λi ξ=>aK (DA (lW f1) (List.range i)).length_le (zD F f4 i Oo);refine AI (λm σ H'=>Ex3 λ(le:Addr) (e:Al) (j:Nat)=>An8 (σ=[Yb (F:Int),Y3 d,Y3c,Y3 le]) (Y0) (H' p=Yc e) (bD H' (((List.range j).flatMap (lvl F a)).map tK) e) (nP H' le (lvl F a j)) (le≠p) (j<=M+1) (m=M+1-j))
  (λσ H'=>∃(le:Addr) (e:Al),σ=[Yb (F:Int),Y3 d,Y3c,Y3 le]/\Y0/\H' p=Yc e/\bD H' ((qK F M a).map tK) e)
  _ ⟨le,[],0,rfl,C,n _ _ (J _ _ g),bD.nil,Y0J y (Yce (L.same n)),l,Y0L,rfl⟩ ?_ ?_
 ·clear g β J n C y u l L;rintro m σ H1 ⟨le,e,j,rfl,S1,g,G,L1,l,μ,rfl⟩;obtain⟨γ,α,L,lw⟩:=L1.len;have ο:e.length=((List.range j).flatMap (lvl F a)).length:=iE G;refine Y5 (rlL α ?_);refine Y5M _ _ _ ?_;by_cases hz:lvl F a j=[]
  ·have κ:γ.length=0:=by rw[lw,hz];rfl
   refine tH (cA Oo) (Y8i le e S1 g ?_);have:=FO f1 hz (M+1-j);rw[show j+(M+1-j)=M+1 by exact Oo]at this;unfold qK;rw[this];exact G
  ·have ι:0<(lvl F a j).length:=List.length_pos_iff.mpr hz;have O:j<=M:=cF λz=>hz (by
    have:=BC f1 I.on (j-(M+1))
    rwa [show M+1+(j-(M+1))=j by exact Oo]at this)
   refine CT (cN Oo) (Yv);intro X W;have U:=r (j+1) Oo;rw[qM,aU]at U;refine⟨_,rfl,VL g,_,rfl,?_⟩;refine aFA g α Oo λH2 y N=>?_;have δ:=N.t g;have S2:aT H H2:=aT.thru B S1 N;refine Y02;refine wU.i (L1.butL N g l) (ζ.same S2) I O λD H3 n Z L3=>?_;have η:D≠p:=λz=>by subst z;rw[y]at Z;cases Z
   refine⟨_,Oo,D,e++γ,j+1,rfl,S2.trans n,n _ _ y,?_,L3,η,Oo,rfl⟩;rw[qM,bF];exact bD.app ((G.flat δ (lX _)).same n) ((L.flat δ (lX _)).same n)
 ·rintro σ H1 ⟨le,e,rfl,S1,g,G⟩;exact Y5 (q p H1 S1 B ⟨e,g,G⟩)
def aId(F:Ye "rule_within" "rule_within" aDY)(T:Yk)(FQ23:Y10 4 "counts_come_to" a05 (wS K)):dW P w K mg base dD 5 f fd a05 (pZ K):=by
 refine F.oky aJh λρ H Q E h=>?_;obtain @⟨H,Q,E,d,F,M,a,L,R,J,I,q⟩:=h;refine Yi;intro U A B s W _;have f1:=I.f1;refine Y6g _ (Y6s (by rfl) ["counts","table"] [1] (dJ (Y2k FQ23 0 1)) (fD (Y2i 0 (Y7S W.u1 Y04))));refine Y02;refine wS.i J I λD H1 z ω L1=>?_;obtain⟨φ,O,ν,ψ⟩:=L1.len;have lr:(qK F M a).length<=400:=aK (iZ f1).length_le I.r;refine Y1E D O (Yd1 (∃e,(ruG F M a L)[i]?=Y7b/\EnW K H' e y) (λi y υ χ s ⟨e,j,u⟩=>⟨e,j,u.t s⟩) Oo O (λi x H' Q' δ C X=>?_) (λD2 m H2 Z β ζ τ n=>?_))
 ·obtain⟨g,G,θ⟩:=fO ν δ;obtain⟨b,rfl,N⟩:=hV (θ.same C);obtain⟨ι,γ,μ⟩:=J;obtain⟨v,ε,ο⟩:=μ g (I.ruC (aF G));refine Y2O (Y5y (C _ _ (z _ _ γ)) g (by rw[fM];exact N) ε ?_);exact sF (by show 2<=64;decide) λα H3 ξ S p=>X _ H3 p ⟨(g,L g),by unfold ruG;rw[aE,G];rfl,α,b,v,rfl,S,p _ _ N,ο.t ((z.trans C).trans p).t⟩
 ·refine Y5m D2 m (Y4c (fV.of β) (λl η=>?_));have sl:=Y4a m η;refine q _ _ ((z.trans ζ).trans sl) (Y8i l m bH (by unfold ruG;rw[aA];exact Oo) (λi y κ=>?_));obtain⟨e,j,u⟩:=n i y κ;exact⟨e,j,u.t sl.t⟩
end
def TbW(K:Aa)(H:Hp)(d:Addr)(rs:Ab)(W:Nat)(best:Y0z):Prop:=∃kvs,H d=Y15/\∀c∈rs,∃v,Y2y c=Yw/\MA K H (Y6j W) v
inductive uG (K:Aa) (C:Addr):Yq
 | i {H:Hp} {Q:VK} {E:XK} {x bp:Addr} {kb:Yr} {F W M:Nat} {ss:Aj} {mix cs:Ak} {us:Ae} {cu:Nat} {best:Y0z} (h1:AB H x C F W M ss mix cs us cu) (h2:H bp=Y97) (h3:VJ kb Y0a best) (h4:W<=4) (h5:(Y0a).length<=400) (k:∀d H',Y0->TbW K H' d (Y0a) W best->Y0r d):uG K C [Y23,.ref bp] H Q E
section
def aIk(F:Ye "plain_table" "plain_table" aD5)(T:Yk):dW P w K mg base dD 1 f fd a07 (uG K c.Weighing):=by
 refine F.oky aCx λN H Q E h=>?_;obtain @⟨H,Q,E,x,bp,kb,F,W,M,ss,mix,cs,us,cu,a,wg,G,Z,w4,r4,k⟩:=h;refine Yi;intro τ A S s ι _;obtain⟨ul,dx,fl,ra,ua,wa,ca,tas,kvs,ν,φ,a2,a3,a4,a5,⟨N,ο,r⟩,a7,a8,a9,a10,a11⟩:=wg;have O:=T.w_Weighing;have J:N.length=(Y0a).length:=by rw[r.len,aA]
 refine⟨_,(aH (Y1q aCx.nd (jE nV (by rfl) T.b_len Kk (Y1p Y1S)))
  (aH (Y1r aCx.nd nE)
  (aH (Y6d Y6T (YaA 4 aCx.nd rfl rfl) (iY ι.u1 Y0X (aD 4) (Y6s (by rfl) ["place","best_at","counts"] [1,4] (Y7G (Y1R fS aO 2)) (oM (Y1I oU 0 (Y7S ι.u1 Y0c)) (YbN YcH T.g_ONE rfl) (Yeq YaH rfl)))))
  (Y2x 3)))),?_⟩
 refine Yv;intro κ χ;refine Y1X (by simp) ν a2;refine rlL a7 (Yt);intro κ χ;rw[aA,ul];intro p γ;have u:=Y6H [] γ;have η:(upd H p (.dT [])) p=Y0g []:=bH;generalize upd H p (.dT [])=H1 at u η ⊢;refine Y1X (by simp) (u _ _ ν) φ;refine Y1E ra (u _ _ ο) ?_;refine kR (xs:=N) (YaB (λ(U:Am) (j:List (List fJ × V))=>An5 (σ=[Y3 x,Y3 bp,Yb (W:Int),Y3c,U]) (Y0) (H' p=Y0g j) (j.length<=i) (∀d∈(rise F M).take i,∃v,fX j (Y2c d)=Yw/\MA K H' (zZ W (a d)) v)))
  ⟨_,[],rfl,u,η,Yl,λd B=>by simp at B⟩ (Y8j) ?_ ?_
 ·obtain⟨_,_,_,S',_⟩:=q;exact fV.of (S' _ _ ο)
 ·rintro i y σ H2 β ⟨U,j,rfl,S2,R,l2,D2⟩;refine Y5A;intro κ;obtain⟨d,B,L⟩:=fO r β;have hi:=(aC.mp β).1;obtain⟨ac,rfl,n⟩:=hV L;have hb:=Z.1 d (aF B);refine⟨_,rfl,_,_,rfl,rfl,_,rfl,Oo,Oo,kK (λq z H'=>q<1+W/\BH K H' (if q=a d then(1,1) else(0,1)) z) (λq z Ha Hb s ⟨X,g⟩=>⟨X,g.t s⟩) Oo (λq H' Q' C ζ ρ=>?_) (λD m H3 hD e3 α ψ I=>?_)⟩
  ·have C:q<1+W:=Oo;rw[Int.zero_add];refine Y2O (Y5y (ζ _ _ (S2 _ _ G)) d (by rw[fM];exact ζ _ _ (S2 _ _ n)) hb ?_);refine Y2R rfl YbB
   ·have e:q=a d:=by injection e with e;exact Oo
    exact ρ _ H' (Y06) ⟨C,by rw[Y1i];exact .inr (Y5 T.o_ONE)⟩
   ·have e:¬q=a d:=Yaf (by rw[z]);exact ρ _ H' (Y06) ⟨C,by rw[Y0B];exact .inr (Y5 T.o_NOUGHT)⟩
  ·refine Y5m D m (Y7o e3);have sl:=Y7n m;have δ:(upd H3 l (.tup m)) l=Yf m:=bH;generalize upd H3 l (.tup m)=H4 at sl δ ⊢;have ly:m.length=1+W:=Oo;have υ:MA K H4 (zZ W (a d)) (Y1j):=⟨l,m,rfl,δ,by unfold zZ;rw[aA,aQ];exact ly,λq z hz=>by
    obtain⟨X,g⟩:=I q z hz;exact Y0J (by unfold zZ;rw[aE,aZ X];rfl) (g.t sl.t)⟩
   refine Y02;have S4:=(S2.trans α).trans sl;have θ:=sl _ _ (α _ _ R);refine Y5x θ d (by rw[fM];exact S4 _ _ n) Oo (λH5 e5 μ=>?_);have ξ:fG H4 H5:=aW.tT μ θ;refine⟨_,_,rfl,aT.thru γ S4 μ,e5,by have:=Y6n j d (V.ref l);exact Oo,λε g=>?_⟩;rw[iC];by_cases e:ε=d
   ·subst e;rw[Ys];exact Y5 (υ.t ξ)
   ·rw[Y2t (e (Y36 z))];rw[hZ B]at g;rcases dM.mp g with g | g
    ·obtain⟨v,ω,g2⟩:=D2 ε g;exact⟨v,ω,((g2.t α.t).t sl.t).t ξ⟩
    ·exact Yef g e
 ·rintro σ H2 ⟨U,j,rfl,S2,R,l2,D2⟩;rw[J,dY]at D2;exact Y5 (k p H2 S2 ⟨j,R,D2⟩)
end
end Kw
namespace L2
open PySem PySem.Spec PySem.W PyProof.Rows HT
section
variable{prog:Program}{w:World}{A:Around}{E:Ya}{s:Shared}
end
section
variable{X:Cx}{pins:Ad}{σ:St}{H:Hp}{s:Shared}
end
section
variable{X:Cx}{pins:Ad}{σ:St}{H:Hp}{s:Shared}
end
end L2
namespace HT
open PySem PySem.W PyProof.Rows
section
variable{A:Around}{s:Shared}
end
section
open PySem.SeqAt
open PySem.AutoSeq1 (wpAny_loadPart')
open PySem.MeetsSeq PySem.MeetsSeq2 PySem.MeetsSeq3
end
section
variable{prog:Program}{w:World}{A:Around}{E:Ya}{s:Shared}
end
end HT
namespace L2
open PySem PySem.Spec PySem.W PyProof.Rows HT
section
variable{X:Cx}
end
end L2
namespace HT
open PySem PySem.W PyProof.Rows PySem.SeqAt
open PySem.MeetsSeq PySem.MeetsSeq2 PySem.MeetsSeq3
open PySem.AutoSeq1 (wpAny_loadPart')
abbrev lsO(xs:Ai)(n:Nat)(dd:Y5s)(sl:Y9A):Obj:={ cls:=.type "list",dict:=dd,data:=.seq xs n,slots:=sl }
def QX{xs:Ai}{ns:Af}(h:Y69 xs.toList):Y9z xs.size/\∀i (hi:i<xs.size),∃t,∃hn:i<ns.length,xs[i]=Y4r (ns[i]):=by
 have d:∀{c:Ag} {ns:Af},Y69 c->Y9z c.length/\∀i (hi:i<c.length),∃t,∃hn:i<ns.length,c[i]=Y4r (ns[i]):=by
  intro c ns q
  induction q with
  | nil=>exact Y0O (λi hi=>by simp at hi)
  | cons a t q ih =>
   refine⟨by rw[cD,cD,ih.1],λi hi=>?_⟩;cases i with
   | zero=>exact Y3q t (by simp)
   | succ i =>
    obtain⟨u,hn,e⟩:=ih.2 i (by simpa using hi);exact⟨u,by simpa using hn,by simpa using e⟩
 obtain⟨j,g⟩:=d h;refine⟨by rw[j];simp,λi hi=>?_⟩;obtain⟨t,hn,e⟩:=g i (by simpa using hi);exact⟨t,hn,by rw[<-e];simp⟩
def aB6(l b:Addr){xs ys:Ai}(n n2:Nat)(dd dd2:Y5s)(sl sl2:Y9A){ns ms:Af}(hx:Y69 xs.toList)(hy:IntsAre ys.toList ms)(hz:Yed)(k:Nat):∀i:Nat,xs.size-i=k ->
  Meets (Builtin.«list.__eq__.loop» ⟨[Y1j,Y0e,rawInt i,rawInt 0],[]⟩) (λA R s=>(Y2H l (lsO xs n dd sl)/\Y2H b (lsO ys n2 dd2 sl2))/\R (Y67 (.bool (vA (ns.drop i) (ms.drop i)))) s):=by
 obtain⟨W,O⟩:=QX hx;obtain⟨U,P⟩:=QX hy
 induction k with
 | zero =>
  intro i T a w A R s ⟨⟨j,m⟩,h⟩;obtain⟨p,g,d,C,z⟩:=s;have J:Y28 (((i:Nat):Int).toNat)=none:=by simp;exact Oo
  have n2:ys[((i:Nat):Int).toNat]?=none:=by simp;exact Oo
  rw[List.drop_eq_nil_of_le Oo,List.drop_eq_nil_of_le Oo]at h
  wp_walk using YdI,YdJ
  rw[J,n2]
  wp_walk using YdI,YdJ
  have G:Yy (Y22 xs.size ys.size):=cA Oo;show R (Y67 (.bool (Y22 xs.size ys.size))) _;rw[G];exact h
 | succ k ih =>
  intro i T a w A R s ⟨⟨j,m⟩,h⟩;obtain⟨p,g,d,C,z⟩:=s;have y:i<xs.size:=Oo;have r:i<ys.size:=Oo;obtain⟨t,S,M⟩:=O i y;obtain⟨u,L,N⟩:=P i r;have B:Y28 (((i:Nat):Int).toNat)=some (Y4r (ns[i])):=by rw[<-M];simp[y]
  have D:ys[((i:Nat):Int).toNat]?=some (.int ms[i] u):=by rw[<-N];simp[r]
  have up:((i:Int)+1)=((i+1:Nat):Int):=Oo;rw[List.drop_eq_getElem_cons S,List.drop_eq_getElem_cons L,CP]at h
  wp_walk using YdI,YdJ
  rw[B,D];obtain⟨e,I,c⟩:=ZW A.in1 ⟨p,g,d,C,z⟩ ns[i] t ms[i] u;refine wpAny_bind (I a w _ _ ?_);cases e with
  | true =>
   rw[if_pos (c.mp rfl)]at h
   wp_walk
   rw[up];refine⟨Yga plain_eq_loop,Yav entry_eq_loop⟩;rw[Yam plain_eq_loop];exact ih (i+1) Oo a w A R _ ⟨⟨j,m⟩,h⟩
  | false =>
   rw[Y31 (Y2u (c.mpr q))]at h
   wp_walk using YdI,YdJ
   rw[B,D];refine wpAny_bind ((PyProof.Rows.lt_int ?_:wpAny (model a w) A.in1 (compareOp .Lt (.int ns[i] t) (.int ms[i] u)) _ _ _))
   wp_walk
   exact h
def aB9(l b:Addr){xs ys:Ai}(n n2:Nat)(dd dd2:Y5s)(sl sl2:Y9A){ns ms:Af}(hx:Y69 xs.toList)(hy:IntsAre ys.toList ms)(hz:Yed) :
  Meets (Builtin.«list.__lt__» ⟨[Y1j,Y0e],[]⟩) (λA R s=>(Y2H l (lsO xs n dd sl)/\Y2H b (lsO ys n2 dd2 sl2))/\R (Y67 (.bool (vA ns ms))) s):=by
 intro a w A R s ⟨⟨e,c⟩,h⟩;obtain⟨i,g,d,j,m⟩:=s;have sub:=AutoSeq1.sub_list_list
 wp_walk using wpAny_loadPart' e,wpAny_loadPart' c
 refine⟨Yga plain_eq_loop,Yav entry_eq_loop⟩;rw[Yam plain_eq_loop];exact aB6 l b n n2 dd dd2 sl sl2 hx hy hz _ 0 rfl a w A R _ ⟨⟨e,c⟩,by rw[List.drop_zero,List.drop_zero];exact h⟩
theorem mZ:∀{ns:Af}{us:Ag},L2.eJ (ns.map L2.V.int) us->Y69 us
 | [],_,r=>by cases r;exact .nil
 | n::ns,_,r=>by
  cases r with
  | cons h t =>
   obtain⟨k,rfl⟩:=h;exact .cons n k (mZ t)
end HT
namespace L2
open PySem PySem.Spec PySem.W PyProof.Rows HT
@[irreducible] def aBx:R2:=λx y H Q=>∃(a b:Addr) (ns ms:Af),x=Yd/\y=Y0e/\H a=Y9M/\H b=Yc (ms.map V.int)/\Yed/\Y3e (vA ns ms)
def rltl{H:Hp}{Q:VK}{a b:Addr}{ns ms:Af}(h1:H a=Y9M)(h2:H b=Yc (ms.map V.int))(h3:Yed)(q:Y3e (vA ns ms)):aBx (Yd) (Y0e) H Q:=by unfold aBx;exact⟨a,b,ns,ms,rfl,rfl,h1,h2,h3,q⟩
section
variable{X:Cx}
def aFb(hu:Y3M 64<cLine):Y47 .Lt aBx:=by
 unfold aBx;intro e s σ H x y v u Q I D B h;obtain⟨a,b,c,d,rfl,rfl,L,r,z,q⟩:=h;cases D;cases B;obtain⟨_,l,m,G,i⟩:=(show gO X.prog X.w H s.heap a (.lst (c.map V.int))from I.hok a _ L);obtain⟨_,j,J,C,g⟩:=(show gO X.prog X.w H s.heap b (.lst (d.map V.int))from I.hok b _ r);have n:IntsAre l.toArray.toList c:=by simpa using HT.mZ G
 have p:IntsAre j.toArray.toList d:=by simpa using HT.mZ C
 exact richCompare_meets_room (op:=.Lt) (Y0V i) (Y0V g) PySem.F.slot_list_lt PySem.F.entry_list_lt (PySem.F.args_list_lt_2 _ _) (aB9 a b m J _ _ _ _ n p z) ⟨⟨i,g⟩,show Value.bool (vA c d)≠Value.notImplemented/\_ from⟨(λx=>nomatch x),⟨.bl _,H,I,rfl,q⟩⟩⟩ Oo
end
end L2
namespace Kw
open PySem L2 Mf
abbrev aEb:Stmt:=(top 24)
def aJp:Yj a35 a35 aEb:={}
abbrev aD1:Stmt:=(top 25)
def aJk:Yj a32 a32 aD1:={}
def ZX(xs ys:Af):Int:=(List.zipWith (· * ·) xs ys).sum
def aFd(n k:Nat):Af:=(List.range n).map λj=>if j=k then 1 else 0
inductive qC:Yq
 | i {H:Hp} {Q:VK} {E:XK} {n k:Nat} (h:n<=64) (q:∀D H',H D=none->Y0F=Yc ((aFd n k).map V.int)->Y0->Y18):qC [.int (n:Int),.int (k:Int)] H Q E
inductive uH:Yq
 | i {H:Hp} {Q:VK} {E:XK} {a b:Addr} {xs ys:Af} (h1:H a=Yc Yem) (h2:H b=Yc (ys.map V.int)) (h3:Yeb) (h4:Y4R 64) (h5:∀x∈xs,Y5O Y0R) (h6:∀y∈ys,y.natAbs<Y0R) (q:∀H',Y0->Q (.int (ZX xs ys)) H'):uH [Yd,Y0e] H Q E
def oJ{ys:Al}{g:Y1}{n:Nat}(hl:Y2w n)(h:∀(i:Nat) (y:V),Y1o=Y0b->y=.int (g i)):ys=((List.range n).map g).map V.int:=by
 refine Y6x;rw[aE,aE];by_cases hi:i<n
 ·rw[aZ hi,Y3W];exact Yej (h i _ (Y3W))
 ·rw[bI Oo,bI (by rw[aQ];exact Oo)];rfl
def rV{xs:Af}{i:Nat}{v:V}(h:(Yem)[i]?=Yw):∃x,Y0p=Y7/\v=.int x:=by
 rw[aE]at h;obtain⟨x,a,rfl⟩:=eM.mp h;exact Y3q x a
def AG{f:Int->Int->Int}{xs ys:Af}(hl:Yeb):List.zipWith f xs ys=(List.range xs.length).map λi=>f (Ybk i) (Yd9 0):=by
 refine Y6x;rw[List.getElem?_zipWith,aE];by_cases hi:Y5f
 ·have a:i<ys.length:=Oo;rw[aZ hi];simp[hi,a]
 ·have d:Y0p=none:=bI Oo;have c:(List.range xs.length)[i]?=none:=bI (by rw[aQ];exact Oo);rw[d,c];rfl
def aGw{K:Aa}{H:Hp}{p:Addr}{ns:Af}{Q:VK}(h:H p=Y9M)(q:YcN):ND K Y5d H Q:=by unfold ND;exact Y0i p ns Y8Q q
section
def aIq(F:Ye "one_among" "one_among" aEb)(T:Yk):dW P w K mg base dD 1 f fd a35 qC:=by
 refine F.oky aJp λz H Q E h=>?_;obtain @⟨H,Q,E,n,k,C,q⟩:=h;refine Yi;intro m A a s d _;refine Y6g _ (Y7r ["k","place"] [1] (Y6O 0) (oM (Y1I oU 0 Y0t) aO aO));refine Y3p _ rfl _ Oo Oo ?_;rw[show((n:Nat):Int).toNat=n by exact Oo];refine kK (n:=n) (λi y _=>y=.int (if i=k then 1 else 0)) (Y9a) Oo (λi H' Q' G j g=>?_) (λD B H' p l j u d=>?_)
 ·refine Y6e _ rfl _ rfl Y8;rw[Int.zero_add,xO];by_cases e:i=k
  ·rw[show(((i:Nat):Int) == (k:Int))=true by rw[e];simp];exact sD (g _ H' (Y06) (by rw[Y1i]))
  ·rw[show(((i:Nat):Int) == (k:Int))=false by rw[beq_eq_false_iff_ne];exact Oo];exact pS (g _ H' (Y06) (by rw[Y0B]))
 ·rw[oJ u d]at l;exact q D H' p l j
def aIg(F:Ye "product" "product" aD1)(T:Yk):dW P w K mg base dD 1 f fd a32 uH:=by
 refine YdH aJk ?_;obtain @⟨H,Q,E,a,b,xs,ys,l,B,n,J,M,N,q⟩:=h;refine Yi;intro G A g s j _;refine Y6g _ (jE (OE rfl) (by rfl) T.b_sum Kk (Y1p (Y7L a00 a00 [] (Ybs 0 Y0t) (Y2I eZ 0 1))));refine Y07 (Y1B a b Yem (ys.map V.int) l B (kL (b1:=false) (b2:=false) (xs:=Yem) (ys:=ys.map V.int) (λi z _=>z=.int (Ybk i*Yd9 0)) (Y9a) (by rw[aA];exact Oo) l B (by rw[aA,aA];exact n) (λi x y H' Q' L C p I=>?_) (λD R H' S u p m j=>?_)))
 ·obtain⟨U,e,rfl⟩:=rV L;obtain⟨W,d,rfl⟩:=rV C;exact⟨_,rfl,_,rfl,_,_,rfl,rfl,pA (M _ (aF e)) (N _ (aF d)),I _ H' (Y06) (by rw[aM,aM,e,d];rfl)⟩
 ·rw[aA]at m;rw[oJ m j]at u;refine aGw u ?_;have:ZX xs ys=((List.range xs.length).map λi=>Ybk i*Yd9 0).sum:=by unfold ZX;rw[AG n]
  rw[<-this];exact q H' p
end
abbrev aEl:Stmt:=(top 27)
def aJv:Yj a16 a16 aEl:={}
abbrev aEh:Stmt:=(top 26)
def aAq:Yj ["rows","steps","out","place","step"] ["rows","steps"] aEh:={}
def AD(H:Hp)(a:Addr)(m:Ac):Prop:=∃las:List Addr,H a=Yc (las.map V.ref)/\las.length=m.length/\∀(i:Nat) (l:Addr) (row:Af),las[i]?=some l->m[i]?=some row->H l=Yc (row.map V.int)
def AD.same{H H':Hp}{a:Addr}{m:Ac}(h:AD H a m)(s:Y0):AD H' a m:=by
 obtain⟨c,e,d,j⟩:=h;exact⟨c,s _ _ e,d,λi l row n g=>s _ _ (j i l row n g)⟩
def AD.at_{H:Hp}{a:Addr}{m:Ac}(h:AD H a m):∃vs:Al,H a=Yc vs/\Y4O m.length/\∀(i:Nat) (row:Af),m[i]?=some row->∃l,vs[i]?=Y3 l/\H l=Yc (row.map V.int):=by
 obtain⟨c,j,g,p⟩:=h;refine⟨_,j,by rw[aA,g],λi row d=>?_⟩;have n:i<c.length:=by have:=(aC.mp d).1;exact Oo
 have e:=aB n;exact⟨c[i],by rw[aE,e];rfl,p i _ row e d⟩
structure MzK(N C:Nat)(m:Ac)(ss:Af):Prop where
 ls:ss.length=m.length
 few:m.length<=64
 row:∀r∈m,r.length=N
 n64:N<=64
 sz:∀r∈m,∀x∈r,Y5O (2^C)
 ssz:∀x∈ss,Y5O (2^C)
 c4:C<=4000
def zP(m:Ac)(ss:Af)(i o:Nat):Bool:=HT.vA ((m.getD i []).map (· * ss.getD o 0)) ((m.getD o []).map (· * ss.getD i 0))
inductive AL:Yq
 | i {H:Hp} {Q:VK} {E:XK} {ra sa:Addr} {m:Ac} {ss:Af} {i o N C:Nat} (h1:AD H ra m) (h2:H sa=Yc (ss.map V.int)) (h3:MzK N C m ss) (h4:i<m.length) (h5:o<m.length) (q:∀H',Y0->Q (.bl (zP m ss i o)) H'):AL [.ref ra,.ref sa,.int (i:Int),.int (o:Int)] H Q E
def CJ(xs:Af)(s:Int):xs.map (· * s)=(List.range xs.length).map λi=>Ybk i*s:=by
 refine Y6x;rw[aE,aE];by_cases hi:Y5f
 ·rw[aZ hi];simp[hi]
 ·rw[bI Oo,bI (by rw[aQ];exact Oo)];rfl
def lF{α:Type}{l:Yu}{i:Nat}(d:α)(h:Ya2 i):l[i]?=some (l.getD i d):=by
 rw[aM,aB h];rfl
def pK{α:Type}{l:Yu}{i:Nat}{d a:α}(h:l[i]?=Y7a):l.getD i d=a:=by rw[aM,h];rfl
noncomputable def FI (m:Ac) (ss:Af):Y1F YcG
 | 0=>none
 | n+1=>@ite _ (0<ss.getD n 0/\(FI m ss n=none\/∃o,FI m ss n=some o/\zP m ss n o=true)) (Classical.propDecidable _) (some n) (FI m ss n)
abbrev oV(o:YcG):V:=match o with | none=>.non | some i=>.int (i:Int)
inductive AN:Yq
 | i {H:Hp} {Q:VK} {E:XK} {ra sa:Addr} {m:Ac} {ss:Af} {N C:Nat} (h1:AD H ra m) (h2:H sa=Yc (ss.map V.int)) (h3:MzK N C m ss) (q:∀H',Y0->Q (oV (FI m ss ss.length)) H'):AN [.ref ra,.ref sa] H Q E
theorem CK(m:Ac)(ss:Af):∀(n o:Nat),FI m ss n=Y9->o<n/\0<ss.getD o 0
 | 0,o,h=>by cases h
 | n+1,o,h=>by
  rw[FI]at h;split at h
  ·rename_i hc
   cases h;exact⟨Oo,hc.1⟩
  ·have:=CK m ss n o h;exact⟨Oo,this.2⟩
section
def aIB(F:Ye "is_sooner" "is_sooner" aEl)(T:Yk):dW P w K mg base dD 1 f fd a16 AL:=by
 refine F.oky aJv λθ H Q E h=>?_;obtain @⟨H,Q,E,ra,sa,m,e,i,o,N,C,ν,ε,Z,δ,β,q⟩:=h;refine Yi;intro ι A R s κ _;obtain⟨θ,η,ω,D⟩:=ν.at_;obtain⟨τ,J,p⟩:=D i _ (lF [] δ);obtain⟨ο,I,n⟩:=D o _ (lF [] β);have α:=eE (a:=([]:Af)) δ;have ζ:=eE (a:=([]:Af)) β;have ρ:=Z.row _ α;have υ:=Z.row _ ζ;have n64:=Z.n64;have c4:=Z.c4;have ls:=Z.ls;have X:=Yfu e o (0:Int);have M:=Yfu e i (0:Int);have up:∀{x:Int},Y5O (2^C)->Y5O Y0R:=λh=>Y63 h c4;have O:(e.map V.int)[o]?=Yer (e.getD o 0):=by rw[aE,lF 0 Oo];rfl
 have U:(e.map V.int)[i]?=Yer (e.getD i 0):=by rw[aE,lF 0 Oo];rfl
 refine Y6g _ (vI (aFb κ.units) (Y7r ["one","steps","out"] [1,3] (dJ (Y3n 0 Y0c)) (Y7p 0 (Y6p 1 Y0c))) (Y7r ["one","steps","place"] [1,2] (dJ (Y3n 0 Y0X)) (Y7p 0 (Y6p 1 Y0c))));refine Y07 (Y5Q η J);refine Y1E τ p (YbV ((m.getD i []).map V.int) (λj y _=>y=.int ((m.getD i []).getD j 0*e.getD o 0)) (by rw[aA];exact Oo) p (λj x H' Q' S W L=>?_) (λD1 y1 H1 ξ u B G ψ=>?_))
 ·obtain⟨χ,d,rfl⟩:=rV S;refine Y2O (Y5Q (W _ _ ε) O);exact Y54 _ (pA (up (Z.sz _ α _ (aF d))) (up (Z.ssz _ X))) (L _ H' (Y06) (by rw[pK d]))
 rw[aA]at G;rw[oJ G ψ,<-CJ]at u;refine Y07 (Y5Q (B _ _ η) I);refine Y1E ο (B _ _ n) (YbV ((m.getD o []).map V.int) (λj y _=>y=.int ((m.getD o []).getD j 0*e.getD i 0)) (by rw[aA];exact Oo) (B _ _ n) (λj x H' Q' S W L=>?_) (λD2 y2 H2 μ z γ g φ=>?_))
 ·obtain⟨χ,d,rfl⟩:=rV S;refine Y2O (Y5Q ((B.trans W) _ _ ε) U);exact Y54 _ (pA (up (Z.sz _ ζ _ (aF d))) (up (Z.ssz _ M))) (L _ H' (Y06) (by rw[pK d]))
 rw[aA]at g;rw[oJ g φ,<-CJ]at z;exact rltl (γ _ _ u) z (by rw[aA,aA,ρ,υ]) (q H2 (B.trans γ))
def aIw(F:Ye "leaving" "leaving" aEh)(T:Yk)(FQ32:Y03 "is_sooner" a16 AL):dW P w K mg base dD 2 f fd ["rows","steps"] AN:=by
 refine F.oky aAq λδ H Q E h=>?_;obtain @⟨H,Q,E,U,B,m,a,N,C,X,r,Z,q⟩:=h;refine Yi;intro R A j s ε _;have ls:=Z.ls;refine⟨_,(aH (Y1q aAq.nd nS)
  (aH (Y6d (GL false rfl T.b_enumerate (Y3L 1)) (mJ rfl (eK (Y9h 3 aAq.nd) (eK (Y9h 4 aAq.nd) kD))) (iR (SM (GI (Y1I FD 4 aO) (AH (SM (aCV (Y1I HK 2 nS) (VR (sH (WA FQ32 (Y04) (Y0t) (Y0X) (Y0c))))))))) (aV (Y1q aAq.nd Y0X)) fR))
  (Y2x 2))),?_⟩
 refine Yv;intro W η;refine Y6D _ B _ r (KQ (b:=false) (n:=0) (xs:=YeB) (YaB (λ(u g:Am)=>An2 (σ=[Y3 U,Y3 B,some (oV (FI m a i)),u,g]) (Y0))) (Y2R _ Y06) (λi σ H' p=>?_) ?_ ?_)
 ·obtain⟨_,_,_,β⟩:=p;exact β _ _ r
 ·rintro i y S σ H1 H2 O ⟨u,g,rfl,l⟩ γ J α;obtain⟨x,L,rfl⟩:=rV O;have ι:i<a.length:=(aC.mp L).1;have D:a.getD i 0=x:=pK L;have S2:=l.trans α;rw[Int.zero_add]at J;refine⟨S,[.int (i:Int),.int x],rfl,jC.of J,rfl,_,_,rfl,_,_,rfl,rfl,Y2N⟩;intro W;have I:∀{o:YcG},o=FI m a i->¬(0<x/\(o=none\/∃k,o=some k/\zP m a i k=true))->FI m a (i+1)=o:=λ{o} e h=>by rw[FI,<-e,D,Y5C]
  have d:∀{o:YcG},o=FI m a i->(0<x/\(o=none\/∃k,o=some k/\zP m a i k=true))->FI m a (i+1)=some i:=λ{o} e h=>by rw[FI,<-e,D,Y4W]
  refine⟨_,rfl,_,_,rfl,rfl,_,rfl,?_⟩;by_cases hp:0<x
  ·rw[show decide ((0:Int)<x)=true from cN hp];refine sD ?_;cases e:FI m a i with
   | none =>
    refine Y51 _ (sD ?_);refine sD (Y5 ⟨Yb (i:Int),Yb x,?_,S2⟩);rw[d e.symm ⟨hp,Y4I⟩];rfl
   | some k =>
    have θ:=(CK m a i k e).1;refine Y51 _ ?_;rw[show decide (V.int (k:Int)=V.non)=false from rfl];refine pS (Y5R _ _ _ rfl _ ?_);refine AL.i (X.same S2) (S2 _ _ r) Z Oo Oo λH3 G=>Y8;cases eb:zP m a i k with
    | true =>
     refine sD (Y5 ⟨Yb (i:Int),Yb x,?_,S2.trans G⟩);rw[d e.symm ⟨hp,.inr (Yz k eb)⟩];rfl
    | false =>
     refine pS ⟨Yb (i:Int),Yb x,?_,S2.trans G⟩;rw[I e.symm λh=>by
      rcases h.2 with z | ⟨ζ,z,M⟩
      ·cases z
      ·cases z;rw[eb]at M;cases M];rfl
  ·rw[show decide ((0:Int)<x)=false from cA hp];refine pS (pS ?_);refine⟨Yb (i:Int),Yb x,?_,S2⟩;rw[I rfl λh=>hp h.1];rfl
 ·rintro σ H1 ⟨u,g,rfl,l⟩;rw[aA];exact Y5 (q H1 l)
end
abbrev aEs:Stmt:=(top 28)
def aCA:Yj ["rows","steps","out","parts","found","row","step"] a30 aEs:={}
def NT{n i:Nat}(h:i<n):NU n (i:Int)=some i:=by
 unfold NU;rw[Y4U,Y4U]
 rfl
def aAI(H H':Hp)(a:Addr)(m:Ac):Prop:=∃las:List Addr,H' a=Yc (las.map V.ref)/\las.length=m.length/\∀(i:Nat) (l:Addr) (row:Af),las[i]?=some l->m[i]?=some row->H l=none/\H' l=Yc (row.map V.int)
def aAI.ll{H H':Hp}{a:Addr}{m:Ac}(h:aAI H H' a m):AD H' a m:=by
 obtain⟨c,e,d,j⟩:=h;exact⟨c,e,d,λi l row n g=>(j i l row n g).2⟩
def KR(m:Ac)(ss:Af)(o:Nat)(p:Int)(i:Nat):Af:=List.zipWith (λx y=>(x*ss.getD o 0-y*ss.getD i 0)/p) (m.getD i []) (m.getD o [])
def DD(m:Ac)(ss:Af)(o:Nat)(p:Int):Ac:=((List.range m.length).map (KR m ss o p)).set o (m.getD o [])
inductive AR:Yq
 | i {H:Hp} {Q:VK} {E:XK} {ra sa:Addr} {m:Ac} {ss:Af} {o N C:Nat} {p:Int} (h1:AD H ra m) (h2:H sa=Yc (ss.map V.int)) (h3:MzK N C m ss) (h4:o<m.length) (h5:0<p) (h6:p.natAbs<2^9000) (q:∀a H',H a=none->aAI H H' a (DD m ss o p)->Y0->Y0r a):AR [.ref ra,.ref sa,.int (o:Int),.int p] H Q E
section
def aII(F:Ye "exchanged" "exchanged" aEs)(T:Yk):dW P w K mg base dD 1 f fd a30 AR:=by
 refine Y17 aCA;obtain @⟨H,Q,E,ra,υ,m,n,o,N,C,p,hm,ε,Z,ho,p0,pz,q⟩:=h;refine Yi;intro cdv A outer s R _;obtain⟨vs,W,l1,α⟩:=hm.at_;obtain⟨ω,X,B⟩:=α o _ (lF [] ho);have mo:=eE (a:=([]:Af)) ho;have ro:=Z.row _ mo;have n64:=Z.n64;have few:=Z.few;have c4:=Z.c4;have ls:=Z.ls;have sso:=Yfu n o (0:Int);have up:∀{x:Int},Y5O (2^C)->Y5O Y0R:=λh=>Y63 h c4;have hso:(n.map V.int)[o]?=Yer (YbJ o):=by rw[aE,lF 0 Oo];rfl
 refine⟨_,(aH (Y4T aCA.nd (iM aS))
  (aH (Y6d (Ybs 0 Y0t) (mJ rfl (eK (Y9h 5 aCA.nd) (eK (YaA 6 aCA.nd rfl rfl) kD))) (kW (rZ PySem.F.plainAttrs_list PySem.F.slot_list_append PySem.F.type_list_append sY Y1b (Y1p (Y7L a00 ["one","other","steps","out","parts","step"] [1,2,3,6] (Ybs 5 (Y3n 0 Y0c)) (Y1R gI (cG pR (Y7p 0 (Y6p 2 Y0X)) (Y2I eZ 1 5)) 4))))))
  (aH (GK (iF rY (by rfl) T.b_list Kk (Y1p (Y3n 0 Y0c))) (BN (Y1b) (Y0c) sR))
  (Y2x 4)))),?_⟩
 refine Yv;intro d_ n_;refine EA (by show 0<=64;decide) λL H1 U f1 g=>Yt;intro d_ n_;refine Y07 (Y1B ra υ vs (n.map V.int) (g _ _ W) (g _ _ ε) ?_);have ψ:ra≠L:=λz=>by rw[z,U]at W;cases W
 have ns:υ≠L:=λz=>by rw[z,U]at ε;cases ε
 have γ:ω≠L:=λz=>by rw[z,U]at B;cases B
 refine uO (b1:=false) (b2:=false) (xs:=vs) (ys:=n.map V.int) (λi σ H'=>∃(o5 o6:Am) (d:Y0v),σ=[Y3 ra,Y3 υ,Yb (o:Int),Yb p,Y3 L,o5,o6]/\aW L H1 H'/\H' L=Yc (d.map V.ref)/\Y8O i/\∀(k:Nat) (l:Addr),d[k]?=some l->H l=none/\l≠L/\H' l=Yc ((KR m n o p k).map V.int)) ⟨_,_,[],rfl,(Y06).but,f1,rfl,λk l h=>by simp at h⟩ (λi σ H' ⟨_,_,_,_,b',_⟩=>⟨b'.at ψ (g _ _ W),b'.at ns (g _ _ ε)⟩) ?_ ?_
 ·rintro i x y q2 σ H2 H3 μ ξ ⟨o5,o6,d,rfl,b2,S,ll,φ⟩ hq2 e3 M;obtain⟨y0,θ,rfl⟩:=rV ξ;have hi:i<m.length:=by have:=(aC.mp μ).1;exact Oo
  obtain⟨li,ζ,O⟩:=α i _ (lF [] hi);rw[μ]at ζ;cases ζ;have mi:=eE (a:=([]:Af)) hi;have ri:=Z.row _ mi;have ey:YbJ i=y0:=pK θ;have ρ:li≠L:=λz=>by rw[z,U]at O;cases O
  have f3:=M _ _ S;have J:=M _ _ (b2.at ρ (g _ _ O));have G:=M _ _ (b2.at γ (g _ _ B));have e13:=M _ _ (b2.at ψ (g _ _ W));have τ:=M _ _ (b2.at ns (g _ _ ε));refine⟨q2,_,rfl,jC.of e3,rfl,_,_,rfl,_,_,rfl,rfl,Y2N⟩;intro d_;refine⟨_,rfl,VL f3,_,rfl,_,rfl,_,rfl,Y5Q e13 X⟩;refine Y1B li ω _ _ J G (kL (b1:=false) (b2:=false) (xs:=(m.getD i []).map V.int) (ys:=(m.getD o []).map V.int) (λj z _=>z=.int (((m.getD i []).getD j 0*YbJ o-(m.getD o []).getD j 0*YbJ i)/p)) (Y9a) (by rw[aA];exact Oo) J G (by rw[aA,aA];exact Oo) (λj x y H' Q' μ ξ s' k'=>?_) (λD zs H4 I δ ο hz hr4=>?_))
  ·obtain⟨x0,β,rfl⟩:=rV μ;obtain⟨z0,ι,rfl⟩:=rV ξ;refine Y2O (Y5Q (s' _ _ τ) hso);exact Y54 _ (pA (up (Z.sz _ mi _ (aF β))) (up (Z.ssz _ sso))) ⟨_,rfl,_,rfl,_,_,rfl,rfl,pA (up (Z.sz _ mo _ (aF ι))) (up (Z.ssz _ (aF θ))),Y53 _ _ (Y6E _ _ _ rfl (pL p0 pz) (k' _ H' Y06 (by rw[pK β,pK ι,ey])))⟩
  ·rw[aA]at hz;rw[oJ hz hr4]at δ;have er:KR m n o p i=((List.range (m.getD i []).length).map λj=>((m.getD i []).getD j 0*YbJ o-(m.getD o []).getD j 0*YbJ i)/p):=by unfold KR;rw[AG Oo]
   rw[<-er]at δ;have f4:=ο _ _ f3;refine LW f4 (by rw[aA];exact Oo) λH5 e5 b5=>?_;have ν:D≠L:=λz=>by rw[z,f3]at I;cases I
   refine⟨_,_,d++[D],rfl,((b2.trans M.but).trans ο.but).trans b5,by rw[e5,bF];rfl,by rw[aU,ll];rfl,λk l u=>?_⟩;by_cases hkl:k<d.length
   ·rw[cJ hkl]at u;obtain⟨n0,κ,n2⟩:=φ k l u;exact⟨n0,κ,b5.at κ ((M.trans ο) _ _ n2)⟩
   ·have:k=i:=by
     have:=(aC.mp u).1;rw[aU]at this;simp at this;exact Oo
    subst this;rw[cB Oo,ll,Nat.sub_self]at u;cases u;exact⟨g.free (b2.free (Y3z S) (M.free I)),ν,b5.at ν δ⟩
 ·rintro σ H2 ⟨o5,o6,d,rfl,b2,S,ll,φ⟩;have lm:Y8O m.length:=by rw[aA]at ll;exact Oo
  have aa:=b2.at ψ (g _ _ W);have η:=b2.at γ (g _ _ B);refine Y07 (Y5Q aa X);refine Y0i ω _ (.inl (fV.of η)) (λD I=>?_);have sl:=Yg4 ((m.getD o []).map V.int) I;have eD:(upd H2 D (.lst ((m.getD o []).map V.int))) D=Yc ((m.getD o []).map V.int):=bH;generalize upd H2 D (.lst ((m.getD o []).map V.int))=H3 at sl eD ⊢;refine Y02;refine stG (j:=o) (sl _ _ S) (NT (by rw[aA];exact Oo)) λH4 δ χ=>Y8;have ν:D≠L:=λz=>by rw[z,S]at I;cases I
  refine q L H4 U ⟨d.set o D,by rw[δ,List.map_set],by rw[List.length_set,lm];unfold DD;rw[List.length_set,aA,aQ],λk l row u R=>?_⟩ ?_
  ·unfold DD at R;by_cases e:k=o
   ·subst e;rw[List.getElem?_set_self Oo]at u;rw[List.getElem?_set_self (by rw[aA,aQ];exact Oo)]at R;cases u;cases R;exact⟨g.free (b2.free (Y3z S) I),χ.at ν eD⟩
   ·rw[YbU Y8K]at u R;obtain⟨n0,κ,n2⟩:=φ k l u;have hkm:k<m.length:=by have:=(aC.mp u).1;exact Oo
    rw[aE,aZ hkm]at R;cases R;exact⟨n0,χ.at κ (sl _ _ n2)⟩
  ·exact aT.thru U (g.trans (Y06)) ((b2.trans sl.but).trans χ)
end
open Md in
def iU(n:Nat)(b:Y1)(R:fE):Ac:=(List.range n).map λi=>(List.range (n+1)).map (rho n b R i)
def dF(n:Nat)(a:Y1):Af:=(List.range n).map a
def cQ(n:Nat)(a:Y1):(dF n a).length=n:=by unfold dF;rw[aA,aQ]
def jL{n i:Nat}{a:Y1}(h:i<n):(dF n a).getD i 0=a i:=by
 unfold dF;rw[aM,aE,aZ h];rfl
def nJ(n:Nat)(b:Y1)(R:Md.fE):(iU n b R).length=n:=by unfold iU;rw[aA,aQ]
def xC{n i:Nat}{b:Y1}{R:Md.fE}(h:i<n):(iU n b R).getD i []=dF (n+1) (Md.rho n b R i):=by
 unfold iU;rw[aM,aE,aZ h];rfl
def MU(n:Nat)(f:Y1):((List.range n).map f).sum=Md.eC n f:=by
 induction n with
 | zero=>rfl
 | succ n ih=>rw[List.range_succ,bF,List.sum_append,ih,Md.eC];simp
def KS(n:Nat)(x y:Y1):ZX (dF n x) (dF n y)=Md.dot n x y:=by
 unfold ZX;rw[AG (by rw[cQ,cQ]),cQ];unfold Md.dot;rw[<-MU];refine YaP List.sum (λi a=>?_);rw[jL (Y71),jL (Y71)]
theorem FK:∀{xs ys:Af},Yeb->(HT.vA xs ys=true ↔ ∃j,Y9j j/\(∀i,i<j->Ybk i=Yd9 0)/\Ybk j<ys.getD j 0)
 | [],[],_=>⟨λh=>(by cases h),λ⟨j,h,_⟩=>(by simp at h)⟩
 | x::xs,y::ys,h=>by
  rw[HT.CP];have ih:=FK (xs:=xs) (ys:=ys) (by simpa using h);by_cases e:x=y
  ·subst e;rw[if_pos rfl,ih];constructor
   ·rintro⟨j,d,c,a⟩;refine⟨j+1,by rw[cD];exact Oo,λi g=>?_,by simpa using a⟩;cases i with
    | zero=>rfl
    | succ i=>simpa using c i Oo
   ·rintro⟨j,d,c,a⟩;cases j with
    | zero=>exact absurd a (by simp)
    | succ j=>exact⟨j,by rw[cD]at d;exact Oo,λi g=>by simpa using c (i+1) Oo,by simpa using a⟩
  ·rw[if_neg e];constructor
   ·intro h;exact⟨0,by rw[cD];exact Oo,λi g=>Oo,by simpa using h⟩
   ·rintro⟨j,d,c,a⟩;cases j with
    | zero=>simpa using a
    | succ j=>exact absurd (by simpa using c 0 Oo) e
 | [],y::ys,h=>by simp at h
 | x::xs,[],h=>by simp at h
def JR{n:Nat}{b a:Y1}{R:Md.fE}{i o:Nat}(hi:i<n)(ho:o<n):zP (iU n b R) (dF n (Yd6 j)) i o=true↔Md.lexp (n+1) λk=>Y3V i*Md.rho n b R o k-Y3V o*Y3J n k:=by
 unfold zP;rw[xC hi,xC ho,jL hi,jL ho,FK (by rw[aA,aA,cQ,cQ]),aA,cQ];have e:∀(u:Y1) (s:Int) (k:Nat),k<n+1->((dF (n+1) u).map (· * s)).getD k 0=u k*s:=λu s k d=>by
  unfold dF;rw[aM,aE,aE,aZ d];rfl
 unfold Md.lexp;constructor
 ·rintro⟨j,c,g,h⟩;refine Y2X j c (λk d=>?_)
  ·have:=g k d;rw[e _ _ _ Oo,e _ _ _ Oo]at this;grind
  ·rw[e _ _ _ c,e _ _ _ c]at h;grind
 ·rintro⟨j,c,g,h⟩;refine Y2X j c (λk d=>?_)
  ·have:=g k d;rw[e _ _ _ Oo,e _ _ _ Oo];grind
  ·rw[e _ _ _ c,e _ _ _ c];grind
theorem FH{n:Nat}{b a:Y1}{R:Md.fE}:∀{k:Nat},k<=n ->
  (FI (iU n b R) (dF n (Yd6 j)) k=none->∀i,i<k->¬0<Y3V i) /\
  (∀o,FI (iU n b R) (dF n (Yd6 j)) k=Y9->∀i,i<k->0<Y3V i->¬Md.lexp (n+1) λq=>Y3V i*Md.rho n b R o q-Y3V o*Y3J n q)
 | 0,_=>⟨λ_ i h=>Oo,λo h=>(by cases h)⟩
 | k+1,hk=>by
  obtain⟨ih1,ih2⟩:=FH (n:=n) (k:=k) (b:=b) (a:=a) (R:=R) Oo;have c:k<n:=Oo;rw[FI,jL (a:=λj=>Md.dot n (R j) a) c];by_cases hc:0<Md.dot n (R k) a/\(FI (iU n b R) (dF n λj=>Md.dot n (R j) a) k=none\/∃o,FI (iU n b R) (dF n λj=>Md.dot n (R j) a) k=some o/\zP (iU n b R) (dF n λj=>Md.dot n (R j) a) k o=true)
  ·rw[if_pos hc];refine⟨λh=>(by cases h),λo g i s d=>?_⟩;cases g;obtain⟨u,m⟩:=hc;by_cases e:i=k
   ·subst e;intro⟨j,y,_,z⟩;dsimp only at z;have:Md.dot n (R i) a*Md.rho n b R i j-Md.dot n (R i) a*Md.rho n b R i j=0:=Oo;exact Oo
   ·rcases m with m | ⟨o,r,p⟩
    ·exact absurd d (ih1 m i Oo)
    ·obtain⟨w,l⟩:=CK _ _ _ _ r;rw[jL (a:=λj=>Md.dot n (R j) a) Oo]at l;rw[JR c Oo]at p;exact Md.ZH u l d p (ih2 o r i Oo d)
  ·rw[if_neg hc];refine⟨λh i s=>?_,λo g i s d=>?_⟩
   ·by_cases e:i=k
    ·subst e;exact λz=>hc ⟨z,.inl h⟩
    ·exact ih1 h i Oo
   ·by_cases e:i=k
    ·subst e;intro z;obtain⟨w,l⟩:=CK _ _ _ _ g;exact hc ⟨d,.inr ⟨o,g,(JR c Oo).mpr z⟩⟩
    ·exact ih2 o g i Oo d
def aCi{n:Nat}{b a:Y1}{B R:Md.fE}{p:Int}(h:Md.Bs n B R p)(p0:0<p){o:Nat}(ho:o<n):DD (iU n b R) (dF n (Yd6 j)) o p=iU n b (Md.xE n B R o a):=by
 unfold DD;rw[nJ,xC ho];refine Y6x;by_cases hi:i<n
 ·have d:(iU n b (Md.xE n B R o a))[i]?=some (dF (n+1) (Md.rho n b (Md.xE n B R o a) i)):=by
   unfold iU;rw[aE,aZ hi];rfl
  rw[d];by_cases e:i=o
  ·subst e;rw[List.getElem?_set_self (by rw[aA,aQ];exact hi)];refine YaP some (λk _=>?_);rw[Md.HE]
  ·rw[YbU Y8K,aE,aZ hi];refine Yej ?_;unfold KR;rw[xC hi,xC ho,AG (by rw[cQ,cQ]),cQ];refine cU λk l=>?_;have c:=bL.mp l;rw[jL c,jL c,jL ho,jL hi];have:=h.rho_exch b ho a hi c e;have g:Y3J n k*Y3V o-Md.rho n b R o k*Y3V i=p*Md.rho n b (Md.xE n B R o a) i k:=by rw[this];grind
   rw[g,Y5e]
 ·rw[bI (by rw[List.length_set,aA,aQ];exact Oo),bI (by rw[nJ];exact Oo)]
end Kw
namespace L2
open PySem PySem.Spec PyProof.Rows
structure FnM(P:Program)(w:World)(K:Aa)(mg:Y0G)(base:Heap)(k:Nat)(C:Addr)(m:Str)(ps:Ah)(sp:Sp):Prop where
 ex:∃(f:Addr) (fd:FuncData),dW P w K mg base dD k f fd ps sp/\aFV K C m f/\tQ K fd ps []
section
variable{X:Cx}{k:Nat}{C:Addr}{ps:Ah}{sp:Sp}{m:Str}{pos apos:Pos}{e o:Expr}{es:Y0h}{t:TA}{ta:TE}
def MI{pl:Sem Bool}(F:FnM X.prog X.w X.K X.mg X.base k C m ps sp)(c:Cls X.K C)(hr:Y57 k)(ho:Y5N o)(ha:IZ X (e::es) t)
  (hst:Y40=(false,Y1l)::Y39:=by first | exact oB | exact sU | exact mY | exact lS | exact gZ | exact sT)
  (hpl:Yy ((backTo pos (starEach es X.env)).any (·.1)):=by repeat (first | exact pV | refine nB (by first | exact oB | exact sU | exact mY | exact lS | exact gZ | exact sT) ?_))
  (ht:eval (.Call (.Attribute o m apos) (e::es) [] pos) X.env=(do
   let ov <-eval o X.env
   standAt apos.atName
   let (f,first) <-holding [ov] (getMethod ov m pl)
   callWith pos f first (backTo pos (starEach (e::es) X.env)) (backToKw pos (keywordEach [] X.env))):=by rfl) :
  Yh (Y92 m (e::es) [] pos) (aC1 C m sp [] E0 ta t):=⟨by
 obtain⟨f,h,d,a,g⟩:=F.ex;exact aBQ ho.p c a d hr g .nil YR ha.p hst hpl ht⟩
end
end L2
namespace Kw
open PySem L2 Mf
abbrev sQ0:Stmt:=(BD (top 23) 0)
def cQ0:Yj a14 a14 sQ0:={}
def LF{K:Aa}{js:Ae}{te:TE}{σ:St}{H:Hp}{Q:VK}{l:Addr}{xs:Al}(g:Y1F Af)(h:H l=Y4t false)(hz:Y4R 1000)
  (he:∀(i:Nat) (x:V) (H':Hp) (Q':VK),Y0p=Y7->Y0->(∀m H6,H' m=none->aT H' H6->H6 m=Yc ((g i).map V.int)->Q' (.ref m) H6)->te (Yb (i:Int)::Y7::Y11) H' Q')
  (hd:∀D H',H D=none->AD H' D ((List.range xs.length).map g)->Y0->Y18):pM K 2 (Ite false l 0) σ js BQ te H Q:=by
 unfold pM;intro D w;refine Y05 (λi m s H'=>m=Y4g i/\Y4S i/\Y0F=Yc s/\Y0/\∃a:List Addr,s=a.map V.ref/\a.length=i/\∀(k:Nat) (b:Addr),a[k]?=some b->b≠D/\Y1N=Yc ((g k).map V.int)) ⟨xs.length,by simp,Y0L,bH,aT.upd w,[],rfl,rfl,λk b r=>by simp at r⟩;rintro i m s H2 ⟨rfl,α,c,j,a,rfl,ll,L⟩;refine Y0o c;by_cases hlt:Y5f
 ·have P:Y0p=some xs[i]:=aB hlt;refine .inr ⟨⟨_,_,j _ _ h,P⟩,aI (m:=1000) (by rw[aA];exact Oo) Dd,λv H3 y=>?_⟩;obtain⟨q,x,rfl,S,rfl,U⟩:=y;have T:=U _ (j _ _ h);rw[show(0:Int)+((i:Nat):Int)=(i:Int)by exact Oo];have p:=Y4a [V.int (i:Int),x] S;have A:(upd H2 q (.tup [V.int (i:Int),x])) q=Yf [V.int (i:Int),x]:=bH;generalize upd H2 q (.tup [V.int (i:Int),x])=H3 at p A;refine Y1B q _ rfl (jC.of A) (λb H4=>b=true/\H4=H3) Y6o ?_;rintro b H4 ⟨rfl,rfl⟩;rw[Ys];refine Y05 (λz H5=>∃m,z=.ref m/\H4 m=none/\aT H4 H5/\H5 m=Yc ((g i).map V.int)) (he i x H4 _ T (j.trans p) λm H6 M N X=>⟨m,rfl,M,N,X⟩);rintro z H5 ⟨m,rfl,I,u,R⟩;have n:=p _ _ c;have O:=u _ _ n;have J:m≠D:=λz=>by rw[z,n]at I;cases I
  have G:aW D H5 (Y2s H5 D (a.map V.ref++[V.ref m])):=aW.self;refine⟨O,Y4g (i+1),Oo,rfl,hlt,bH,Ye9 w ((j.trans p).trans u),a++[m],by rw[bF];rfl,by rw[aU,ll];rfl,λk b d=>?_⟩;by_cases hkl:k<a.length
  ·rw[cJ hkl]at d;obtain⟨C,Z⟩:=L k b d;exact⟨C,G.at C ((p.trans u) _ _ Z)⟩
  ·have:k=i:=by
    have:=(aC.mp d).1;rw[aU]at this;simp at this;exact Oo
   subst this;rw[cB Oo,ll,Nat.sub_self]at d;cases d;exact⟨J,G.at J R⟩
 ·have e:Y4V i:=Oo;subst e;refine Y4c (Y0J (j _ _ h) Yl) (hd D H2 w ⟨a,c,by rw[ll,aA,aQ],λk b row r B=>?_⟩ j);have d:Y9j k:=by have:=(Y7X).1;exact Oo
  rw[aE,aZ d]at B;cases B;exact(L k b r).2
def mfs(ra sa:Addr)(p:Int):Y4v:=Y34 "standing" sa (eP "parts" (.int p) (Y34 "rows" ra []))
structure tO(H:Hp)(C a sa:Addr)(n:Nat)(b:Y1)(R:Md.fE)(p:Int)(ts:Al):Prop where
 ex:∃dx ra,H a=some (.ins C dx (mfs ra sa p))/\AD H ra (iU n b R)
 st:H sa=Yc ts
 len:ts.length=n
def aAJ(a b:Addr)(H H':Hp):Prop:=∀x o,x≠a->x≠b->H x=Y9->H' x=Y9
inductive wP (C:Addr):Yq
 | i {H:Hp} {Q:VK} {E:XK} {x dx ea oa:Addr} {n:Nat} {b:Y1} {ts:Al} (h1:H x=some (.ins C dx [])) (h2:H ea=Yc ((dF n b).map V.int)) (h3:H oa=Yc ts) (h4:ts.length=n) (h5:n<=8) (q:∀sa H',H sa=none->Y6M x->tO H' C x sa n b Md.unit 1 ts->Ybz):wP C [Y23,.ref ea,.ref oa] H Q E
def XW{n i:Nat}(hi:i<n)(b:Y1):dF (n+1) (Md.rho n b Md.unit i)=[b i]++aFd n i:=by
 unfold dF;rw[List.range_succ_eq_map,bA,List.map_map];have a:Md.rho n b Md.unit i 0=b i:=by
  show Md.eC n (λk=>Md.unit i k*b k)=b i;rw[Md.jW hi λk _ c=>by unfold Md.unit;rw[if_neg c,Int.zero_mul]];unfold Md.unit;rw[Ys,Int.one_mul]
 rw[a]
 rfl
section
def oQ0(F:Ye "__init__" "Master.__init__" sQ0)(T:Yk)(FQ43:Y03 "one_among" a35 qC):dW P w K mg base dD 2 f fd a14 (wP c.Master):=by
 refine Y17 cQ0;obtain @⟨H,Q,E,x,a,ξ,η,n,b,L,ε,m,u,lt,n8,q⟩:=h;refine Yi;intro ι A U s δ _;have O:=T.w_Master;have α:=cQ n b;refine⟨_,(aH (Y6V (Y7L ["place","end"] ["place","end","ends"] [1] (GL false rfl T.b_enumerate (Y3L 1)) (cG vN (iM (Y3L 1)) (cR FQ43 (Y9P (aCu K) (by rfl) Kk 2) (Y04)))))
  (aH (Y6V aO)
  (aV (Y6V (iF rY (by rfl) T.b_list Kk (Y3L 2)))))),?_⟩
 refine Yv;intro ο κ;refine Y6D _ ξ _ m (LF (xs:=(dF n b).map V.int) (λi=>dF (n+1) (Md.rho n b Md.unit i)) m (by rw[aA];exact Oo) (λi y H' Q' θ μ ψ=>?_) (λD H1 hD L1 j=>?_))
 ·obtain⟨υ,G,rfl⟩:=rV θ;have β:i<n:=by have:=(aC.mp G).1;exact Oo
  have ω:b i=υ:=by
   have h:=pK (d:=(0:Int)) G;rw[jL β]at h;exact h
  refine Y8;refine EA (by show 1<=64;decide) λq1 H1 φ ν j=>Y8;refine rlL ((μ.trans j) _ _ m) ?_;rw[aA,α];refine Y8;refine qC.i Oo λq2 H2 χ J W=>OF (W _ _ ν) J (by simp[aFd];exact Oo) λτ H3 R C s3=>ψ τ H3 ((j.trans W).free R) ((j.trans W).trans s3) ?_;rw[C,XW β,ω,bF];rfl
 ·rw[aA,α]at L1;have L1:AD H1 D (iU n b Md.unit):=L1;have r:=j _ _ ε;refine⟨_,rfl,x,c.Master,a,_,rfl,r,O.cls,Y7k (by simp),by show 0<1000;decide,Y4i⟩;intro ο κ;have b2:=YcX x H1 a (Y34 "rows" D []);have J:(upd H1 x (.ins c.Master a (eP "rows" (.ref D) []))) x=_:=bH;generalize upd H1 x (.ins c.Master a (eP "rows" (.ref D) []))=H2 at b2 J ⊢;refine⟨_,rfl,x,c.Master,a,_,rfl,J,O.cls,Y7k (by simp),by show 1<1000;decide,?_⟩;have M:=YcX x H2 a (eP "parts" (.int 1) (Y34 "rows" D []));have C:(upd H2 x (.ins c.Master a (eP "parts" (.int 1) (eP "rows" (.ref D) [])))) x=_:=bH;generalize upd H2 x (.ins c.Master a (eP "parts" (.int 1) (eP "rows" (.ref D) [])))=H3 at M C ⊢;have B3:aW x H H3:=(j.but (p:=x)).trans (b2.trans M);have no:η≠x:=λz=>by rw[z,ε]at u;cases u
  have I:=B3.at no u;refine Y6D _ η _ (.inl (fV.of I)) (λe g=>?_);have N:=Yg4 L g;have γ:(upd H3 e (.lst L)) e=Yc L:=bH;generalize upd H3 e (.lst L)=H4 at N γ ⊢;refine⟨_,rfl,x,c.Master,a,_,rfl,N _ _ C,O.cls,Y7k (by simp),by show 2<1000;decide,?_⟩;have S:=YcX x H4 a (mfs D e 1);have ζ:(upd H4 x (.ins c.Master a (mfs D e 1))) x=_:=bH;show Q .non (Y8I H4 x c.Master a (mfs D e 1));generalize upd H4 x (.ins c.Master a (mfs D e 1))=H5 at S ζ ⊢;have ns:e≠x:=λz=>by rw[z,C]at g;cases g
  have B:aW x H1 H5:=((b2.trans M).trans N.but).trans S;refine q e H5 ?_ (j.but.trans B) ⟨Y2X a D ζ,S.at ns γ,lt⟩
  ·exact B3.free (Y3z C) g
  ·obtain⟨X,Z,ρ,h3⟩:=L1;refine⟨X,B.at (λz=>by rw[z,r]at Z;cases Z) Z,ρ,λi l row hl δ=>?_⟩;have:=h3 i l row hl δ;exact B.at (λz=>by rw[z,r]at this;cases this) this
end
end Kw
namespace L2
open PySem PySem.Spec PyProof.Rows
def cxK(X:Cx)(scope:Scope)(x:Str)(C:Addr)(fp:Y0v)(s₀:Shared)(H₀:Hp)(N':Ah):Cx :=
 Y3O X ((x,C+1)::Y8N X) (λy=>y == x) C fp s₀ H₀ N'
structure kY(X:Cx)(scope:Scope)(x:Str)(N':Ah)(js:Ae):Prop where
 calm:Y1t
 free:∀y∈scope.names,y.2=.free->Y6N y.1 Y2g
 only:(Ydt (Ya1 y.2))=[(x,NameKind.cell)]
 kind:Yg7
 names:∀y∈scope.names,y.2=.local->Y80 y.1
 own:YbO x Y2g
 nofl:∀y,Y9x (y,NameKind.free)->Y80 y->False
 nofx:(x,NameKind.free) ∉ scope.names
 len:N'.length=js.length+1
 zero:N'[0]?=Y7
 nd:N'.Nodup
 slot:∀(i:Nat) (j:Nat),js[i]?=Y6u->∃y,N'[i+1]?=Y0b/\X.N[j]?=Y0b/\Y9x (y,NameKind.free)
theorem DN:∀{names:Y6I}{n:Nat}{acc:Y3u}{h:Heap},(names.filter λy=>Ya1 y.2)=[]->cellsFrom n names acc=acc/\pushCells h names=h
 | [],_,_,_,_=>⟨rfl,rfl⟩
 | (a,k)::r,n,acc,h,e=>by
  rw[List.filter_cons]at e;by_cases q:(k == NameKind.cell)=true
  ·rw[if_pos q]at e;cases e
  ·rw[if_neg q]at e;unfold cellsFrom pushCells;rw[if_neg q,if_neg q];exact DN e
theorem FW{x:Str}:∀{names:Y6I}{n:Nat}{acc:Y3u}{h:Heap},(names.filter λy=>Ya1 y.2)=[(x,NameKind.cell)]->cellsFrom n names acc=(x,n)::acc/\pushCells h names=h.push { cls:=.type "cell",data:=.cell none }
 | [],_,_,_,e=>by cases e
 | (a,k)::r,n,acc,h,e=>by
  rw[List.filter_cons]at e;by_cases q:(k == NameKind.cell)=true
  ·rw[if_pos q]at e;injection e with e1 e2;have ea:a=x:=congrArg Prod.fst e1;subst ea;unfold cellsFrom pushCells;rw[if_pos q,if_pos q];exact DN e2
  ·rw[if_neg q]at e;unfold cellsFrom pushCells;rw[if_neg q,if_neg q];exact FW e
def NN{M:Model}{A:Around}{E:Ya}{s:Shared}{scope:Scope}{g:Addr}{cl:Y3u}{q:Str}{env:Env}{x:Str}{Q:Y2v Env}(ho:(Ydt (Ya1 y.2))=[(x,NameKind.cell)])
  (h:Q { scope,locals:=s.heap.objs.size,globals:=g,cells:=(x,s.heap.objs.size+1)::cl,qual:=q,func:=none,code:=env.code,frame:=env.frame,builtins:=env.builtins } { s with heap:=(s.heap.push { cls:=.type "dict",data:=.dict #[] }).push { cls:=.type "cell",data:=.cell none } }) :
  wpAny M A (newFunctionEnv scope g cl [] q none .none (some env)) Q E s:=by
 simp only[newFunctionEnv,Option.isSome_some,if_true];refine wpAny_bind (wpAny_alloc ?_);refine wpAny_bind (wpAny_layCells _ (λc a cells=>by cases hkc:a == NameKind.cell <;> simp[hkc]) _ _ _ _ ?_);obtain⟨e,d⟩:=FW (n:=({ s with heap:=s.heap.push { cls:=.type "dict",data:=.dict #[] } }:Shared).heap.objs.size) (acc:=cl) (h:=s.heap.push { cls:=.type "dict",data:=.dict #[] }) ho;rw[e,d];rw[List.forIn_nil];refine Y3m Y2e;rw[show({ s with heap:=s.heap.push { cls:=.type "dict",data:=.dict #[] } }:Shared).heap.objs.size=s.heap.objs.size+1 from gW ..];exact h
theorem rG{env:Env}:∀{names:Y6I}{x:Str},names.lookup x=Y2g ->
  (names.map λ(n,k)=>if(k == NameKind.free&&env.scope.kind == .function&&env.kindOf n == some .cell) then(n,NameKind.cell) else(n,k)).lookup x=Y2g
 | [],_,h=>by cases h
 | (n,k)::r,x,h=>by
  rw[List.lookup_cons]at h;rw[bA];dsimp only;by_cases hq:(k == NameKind.free&&env.scope.kind == .function&&env.kindOf n == some .cell)=true
  ·rw[if_pos hq,List.lookup_cons];by_cases e:(x == n)=true
   ·rw[e]
   ·have e':(x == n)=false:=by simpa using e
    rw[e']at h ⊢;exact rG h
  ·rw[if_neg hq,List.lookup_cons];by_cases e:(x == n)=true
   ·rw[e]at h ⊢;exact h
   ·have e':(x == n)=false:=by simpa using e
    rw[e']at h ⊢;exact rG h
theorem oQ{env:Env}{x:Str}:∀{names:Y6I}{y:Str}{k:NameKind},(names.map λ(n,k)=>if(k == NameKind.free&&env.scope.kind == .function&&env.kindOf n == some .cell) then(n,NameKind.cell) else(n,k)).lookup y=some k ->
  (k=.cell\/k=.free)->(∀z∈names,z.2=.cell->z.1=x)->y=x\/(y,NameKind.free)∈names
 | [],_,_,h,_,_=>by cases h
 | (n,q)::r,y,k,h,hk,hc=>by
  rw[bA,List.lookup_cons]at h;have ih:=λh=>@oQ env x r y k h hk λz g=>hc z (bG _ g);have up:y=x\/(y,NameKind.free)∈r->y=x\/(y,NameKind.free)∈(n,q)::r:=λz=>z.imp id (bG _);by_cases hq:(q == NameKind.free&&env.scope.kind == .function&&env.kindOf n == some .cell)=true
  ·dsimp only at h;rw[if_pos hq]at h;have d:q=.free:=by
    rw[eB,eB]at hq;simpa using hq.1.1
   subst d;by_cases e:(y == n)=true
   ·have:y=n:=by simpa using e
    subst this;exact .inr aY
   ·have c:(y == n)=false:=by simpa using e
    dsimp only at h;rw[c]at h;exact up (ih h)
  ·dsimp only at h;rw[if_neg hq]at h;by_cases e:(y == n)=true
   ·have:y=n:=by simpa using e
    subst this;dsimp only at h;rw[e]at h;have a:k=q:=by injection h with h;exact h.symm
    subst a;rcases hk with rfl | rfl
    ·exact .inl (hc _ aY rfl)
    ·exact .inr aY
   ·have c:(y == n)=false:=by simpa using e
    dsimp only at h;rw[c]at h;exact up (ih h)
section
variable{X:Cx}{pins:Ad}{σ:St}{H:Hp}{s:Shared}{scope:Scope}{x:Str}{N':Ah}{js:Ae}{fp:Y0v}
theorem kY.cells(S:kY X scope x N' js)(ok:X.Ok):∀y∈scope.names,y.2=.free->Yd5 y.1:=λy d a=>ok.has _ (.inl (S.free y d a))
theorem kY.cell(S:kY X scope x N' js):∀z∈scope.names,z.2=.cell->z.1=x:=λz a e=>by
 have:z∈Ydt (Ya1 y.2):=gB.mpr ⟨a,by rw[e];rfl⟩;rw[S.only]at this;rw[bT.mp this]
def qP{y:Str}{C c:Addr}{cl:Y3u}(h:((x,C)::cl).lookup y=Y1h):(y=x/\c=C)\/(y≠x/\cl.lookup y=Y1h):=by
 rw[List.lookup_cons]at h;by_cases e:(y == x)=true
 ·rw[e]at h;cases h;exact .inl (Y5l (by simpa using e))
 ·have a:Yy (y == x):=by simpa using e
  rw[a]at h;exact Y2G (Yaf (by simp[z])) h
def LM{y:Str}{C c:Addr}{cl:Y3u}(n:y≠x)(h:cl.lookup y=Y1h):((x,C)::cl).lookup y=Y1h:=by
 rw[List.lookup_cons,show(y == x)=false by simpa using n];exact h
def aFF(S:kY X scope x N' js)(I:Y6)(hf:∀b∈fp,Y45 H)(hb:∀b∈fp,Y4H b):(cxK X scope x s.heap.objs.size fp s H N').Ok:=by
 have j:∀y c,(DM X scope).lookup y=Y1h->Y4H c:=λy c h=>by
  obtain⟨v,o,e,_⟩:=Y7W y (Y6i h);exact bK e
 exact {
  mod:=I.ok.mod
  kind:=S.kind
  glob:=I.ok.glob
  blt:=I.ok.blt
  above:=aL _
  inj:=λy z c p i=>by
   rcases qP p with⟨l,d⟩ | ⟨l,d⟩ <;> rcases qP i with⟨n,b2⟩ | ⟨n,b2⟩
   ·rw[l,n]
   ·have:=j _ _ b2;rw[d]at this;exact absurd Yfb (cO _)
   ·have:=j _ _ d;rw[b2]at this;exact absurd Yfb (cO _)
   ·exact I.ok.inj y z c (Y6i d) (Y6i b2)
  has:=λy g=>by
   have m:y=x\/Y9x (y,NameKind.free):=by
    rcases g with g | g
    ·exact oQ (env:=X.env) g (Y4I) S.cell
    ·exact oQ (env:=X.env) g (Y8J) S.cell
   by_cases q:y=x
   ·subst q;exact⟨Y24,by show List.lookup y ((y,_)::_)=_;rw[List.lookup_cons,show(y == y)=true by simp]⟩
   ·have m:=m.resolve_left q;obtain⟨c,r⟩:=S.cells I.ok _ m rfl;exact⟨c,LM q (tL (Yak) m r)⟩
  cab:=λy c g h=>by
   rcases qP h with⟨_,d⟩ | ⟨l,_⟩
   ·rw[d];exact Nat.le_succ _
   ·exact absurd (by simpa[cxK,FS]using g) l
  hd:=λ_=>I.ok.hd S.calm
  frames:=I.ok.frames
  stk:=.inl rfl
  exf:=λb a=>⟨λe=>by have:=hb b a;rw[e]at this;exact Y5W,λy c h=>by
   rcases qP h with⟨_,d⟩ | ⟨_,d⟩
   ·intro e;have:=hb b a;rw[<-e,d]at this;exact absurd Yfb (cO _)
   ·exact(hf b a).2.2.2.2.1 y c (Y6i d)⟩
  bs:=I.bs
  bsz:=aK I.ok.bsz I.sz
  noex:=λb o e a=>by
   rcases(hf b a).2.2.2.1 with h | h
   ·exact I.ok.noex b o e h
   ·exact absurd (aR (bK e) (YcB h)) (cO _)
  exfs:=λb a u=>by
   have i:=I.stkSub b u;rcases bN.mp i with i | i
   ·exact(hf b a).2.1 i
   ·exact(hf b a).2.2.1 i
  funs:=I.stack
  frf:=I.stkFree }
def aCm{h':Heap}{tk:Nat}(S:kY X scope x N' js)(I:Y6)(hf:∀b∈fp,Y45 H)(hb:∀b∈fp,Y4H b)
  (hn:h'.Ns s.heap.objs.size (Y9H)) (hk:∀b o,Y26->Y14=Y9) (hc0:h'.IsCell (Y24) none):cY (cxK X scope x s.heap.objs.size fp s H N') [] (none::Y11) H { s with heap:=h',toks:=tk } where
 ok:=aFF S I hf hb
 os:=rfl
 bare:=I.bare
 base:=Un.kept hk
 loc:=by
  refine Y0J hn (λi y v ζ P a=>?_);cases i with
  | zero=>cases P
  | succ i =>
   have d:(Y11)[i]?=YaX:=P;have N:i<js.length:=by
    have:=(aC.mp d).1;unfold slots at this
    rwa [aA]at this
   have T:js[i]?=some js[i]:=aB N;obtain⟨z,α,γ,w⟩:=S.slot i _ T;have M:z=y:=by
    have:N'[i+1]?=Y0b:=ζ;rw[α]at this;cases this;rfl
   subst M;rw[EW T]at d;have ε:σ[js[i]]?=YaX:=by
    cases q:σ[js[i]]? with
    | none=>rw[q]at d;cases d
    | some o=>rw[q]at d;cases d;rfl
   have D:Y6N z Y2g:=S.free _ w rfl;obtain⟨m,θ,δ⟩:=I.loc;obtain⟨u,ru,W⟩:=δ _ z v γ ε (YaV D);rcases W with⟨C,_⟩ | ⟨_,c,R,g⟩
   ·rw[D]at C;cases C
   ·have O:z≠x:=λq=>S.nofx (q ▸ w);refine⟨u,ru,.inr (Y2X ?_ c (LM O (tL (Yak) w R)))⟩
    ·rcases a with a | a | a
     ·exfalso;have β:=tL (Yak) w R;have B:=rO (l:=(relabel scope X.env).names) a;unfold relabel at B;obtain⟨⟨n,k⟩,G,A⟩:=aN.mp B;dsimp only at A;by_cases hq:(k == NameKind.free&&YdB .function&&X.env.kindOf n == Y2g)=true
      ·rw[if_pos hq]at A;cases A
      ·rw[if_neg hq]at A;cases A;have:=S.names _ G rfl;have J:=rN w;obtain⟨η,J⟩:=J;dsimp only at this;rw[this]at J;have Z:(relabel scope X.env).names.lookup z=Y30:=lookup_relabel_local this;have L:Y80 z:=this;exact S.nofl z w L
     ·exact .inl a
     ·exact .inr a
    ·obtain⟨o,e,r⟩:=g;exact Y1v (hk _ _ e) r
 cell:=λy c h=>by
  rcases qP h with⟨_,j⟩ | ⟨_,j⟩
  ·rw[j];exact⟨none,hc0⟩
  ·obtain⟨v,o,e,r⟩:=Y7W y (Y6i j);exact⟨v,o,hk _ _ e,r⟩
 free:=Y5T
 freeC:=λy c h=>by
  rcases qP h with⟨_,j⟩ | ⟨_,j⟩
  ·rw[j];exact I.hok.fresh (Nat.le_succ _)
  ·exact Y9X y (Y6i j)
 pin:=λp U=>by cases U
 hok:=I.hok.kept hk
 len:=by
  show(Y11).length+1=N'.length;unfold slots;rw[aA,S.len]
def kY.blk{px:Pos}(S:kY X scope x N' js):OU X scope (Y3S) 1 (λC=>(x,C+1)::Y8N X) (λy=>y == x) N' js (λv _ vs=>vs=[v]) (nO 0) :=
 ⟨S.cells,S.kind,S.names,λh=>by rw[h];rfl,λ{c σ H s g E Q} I i j k=>NN S.only (by
  have a:=(Heap.Ns.new s.heap (.type "dict")).keeps (Y64 ({ cls:=.type "cell",data:=.cell none }) e);have d:∀b o,Y26->((s.heap.push { cls:=.type "dict",data:=.dict #[] }).push { cls:=.type "cell",data:=.cell none }).get? b=Y9:=Y64 _ (Y0Q e);exact k _ _ rfl rfl (aCm S I i j a d (Y0V (by rw[<-gW s.heap { cls:=.type "dict",data:=.dict #[] }];exact Y1u))) d),λC g l H₀=>HJ S.nd S.zero (.inr (rG S.own)) (.inl (by simp[FS])),ZM⟩
end
section
variable{X:Cx}{pins:Ad}{σ:St}{H:Hp}{s:Shared}{scope:Scope}{x:Str}{N':Ah}{js:Ae}{fp:Y0v}{elt iter:Expr}{px pos:Pos}{ifs:Y0h}{tc:TT}{te:TE}
def WC{wi:TI}(S:kY X scope x N' js)(hi:OP X (Y3S) iter wi)(ht:Yar (cxK X scope x C fp s₀ H₀ N') ifs tc)(he:Yaq (cxK X scope x C fp s₀ H₀ N') elt te)
  (hs:∀x,Y6W x=Y7e:=by intro _;rfl):Yh (Y4n [Y4D Y3S]) (MS wi js tc te) :=
 ⟨YdS S.blk hi.p ((ht C fp s₀ H₀).p.mono) ((he C fp s₀ H₀).p.mono) nQ.turns hs⟩
end
def aDm(psc scope:Scope)(N:Ah)(x:Str)(N':Ah)(js:Ae):Bool :=
 (Y9q (!(y.2 == .free) || psc.names.lookup y.1 == Y2g))&&(Ydt (Ya1 y.2)) == [(x,NameKind.cell)]&&scope.kind == .function &&
 (Y9q (!(y.2 == .local) || Yau y.1 Y30))&&Yau x Y2g &&
 (Y9q (!(y.2 == .free) || (!(Yau y.1 Y30) && !(y.1 == x))))&&N'.length == js.length+1&&N'[0]? == Y7&&decide N'.Nodup &&
 ((List.range js.length).all λi=>match js[i]?,N'[i+1]? with
  | some j,some y=>N[j]? == some y&&scope.names.contains (y,NameKind.free)
  | _,_=>false)
def kY.of{X:Cx}{psc scope:Scope}{N:Ah}{x:Str}{N':Ah}{js:Ae}(h:aDm psc scope N x N' js=true)(hX:X.env.scope=psc)(hN:X.N=N)(hc:Y1t):kY X scope x N' js:=by
 unfold aDm at h;simp only[eB]at h;obtain⟨⟨⟨⟨⟨⟨⟨⟨⟨m,p⟩,u⟩,l⟩,z⟩,d⟩,n⟩,r⟩,w⟩,c⟩:=h;rw[List.all_eq_true]at m l d c;refine⟨hc,Y9y,by simpa using p,by simpa using u,Y9y,by simpa using z,Y9y,λa=>?_,by simpa using n,by simpa using r,of_decide_eq_true w,λi j g=>?_⟩
 ·have:=m y a;rw[e]at this;show YeW y.1 _;rw[hX];simpa using this
 ·have:=l y a;rw[e]at this;simpa using this
 ·have:=d _ a;simp[e]at this
 ·have:=d _ a;simp at this
 ·have s:i<js.length:=(aC.mp g).1;have:=c i (bL.mpr s);rw[g]at this;cases q:N'[i+1]? with
  | none=>rw[q]at this;simp at this
  | some y =>
   rw[q]at this;simp only[eB]at this;exact Y2h y (by rw[hN];simpa using this.1) (List.contains_iff_mem.mp this.2)
end L2
namespace Kw
open PySem L2 Mf
abbrev sQ2:Stmt:=(BD (top 23) 2)
def cQ2:Yj ["self","costs","many"] a39 sQ2:={}
def VX{X:Cx}{tg l:Expr}{tl:TE}(K:Aa)(hl:Yh l tl)(hK:X.K=K:=by rfl):OP X tg l (ZL K tl):=by
 subst hK;exact dJ hl
def yG{n i:Nat}{b:Y1}{R:Md.fE}(h:i<n):(iU n b R)[i]?=some (dF (n+1) (Md.rho n b R i)):=by
 unfold iU;rw[aE,aZ h];rfl
def LH{n i:Nat}{a:Y1}(h:i<n):(dF n a)[i]?=some (a i):=by
 unfold dF;rw[aE,aZ h];rfl
def iA{n i:Nat}{a:Y1}(h:i<n):((dF n a).map V.int)[i]?=Yb (a i):=by
 rw[aE,LH h];rfl
def lY{n:Nat}{ys:Al}{g:Y1}(hl:Y2w n)(h:∀(i:Nat) (y:V),Y1o=Y0b->y=.int (g i)):ys=(dF n g).map V.int:=oJ hl h
def uQ{n:Nat}{a:Y1}{x:Int}(h:x∈dF n a):∃i,i<n/\a i=x:=by
 unfold dF at h;obtain⟨i,c,e⟩:=Y70;exact⟨i,bL.mp c,e⟩
def uL(ra sa:Addr)(p:Int):(mfs ra sa p).lookup ("rows" : Str)=Y3 ra:=by unfold mfs;rw[fC,Y2E,fC,Y2E,fC,Ys]
def CM(ra sa:Addr)(p:Int):(mfs ra sa p).lookup ("parts" : Str)=Yb p:=by unfold mfs;rw[fC,Y2E,fC,Ys]
def tF(ra sa:Addr)(p:Int):(mfs ra sa p).lookup ("standing" : Str)=Y3 sa:=by unfold mfs;rw[fC,Ys]
theorem tO.same{H H':Hp}{C a sa:Addr}{n:Nat}{b:Y1}{R:Md.fE}{p:Int}{ts:Al}(h:tO H C a sa n b R p ts)(s:Y0):tO H' C a sa n b R p ts:=by
 obtain⟨d,e,c,g⟩:=h.ex;exact⟨⟨d,e,s _ _ c,g.same s⟩,s _ _ h.st,h.len⟩
structure aAG(n:Nat)(b:Y1)(R:Md.fE)(p:Int)(C:Nat):Prop where
 n8:n<=8
 rz:∀i,i<n->∀k,k<n+1->(Y3J n k).natAbs<2^C
 pz:p.natAbs<2^C
 c4:C<=4000
inductive qA (M:Addr):Yq
 | i {H:Hp} {Q:VK} {E:XK} {x sa ca:Addr} {n:Nat} {b:Y1} {R:Md.fE} {p:Int} {ts:Al} {cs:Y1} {C:Nat} (h1:tO H M x sa n b R p ts) (h2:H ca=Yc ((dF n cs).map V.int)) (h3:aAG n b R p C) (h4:∀i,i<n->(cs i).natAbs<Y0R) (q:∀D H',H D=none->Y0F=Yc ((dF n (Md.rat n R cs)).map V.int)->Y0->Y18):qA M [Y23,.ref ca] H Q E
section
def oQ2(F:Ye "rates" "Master.rates" sQ2)(T:Yk)(FQ53:Y03 "product" a32 uH):dW P w K mg base dD 2 f fd a39 (qA c.Master):=by
 refine F.oky cQ2 λξ H Q E h=>?_;obtain @⟨H,Q,E,x,W,φ,n,b,R,p,χ,ν,C,η,S,Z,θ,q⟩:=h;refine Yi;intro β A J s U _;have O:=T.w_Master;have n8:=Z.n8;obtain⟨υ,G,j,LL⟩:=η.ex;obtain⟨z,d,I,M⟩:=LL.at_;rw[nJ]at I;have up:∀{x:Int},Y5O (2^C)->Y5O Y0R:=λh=>Y63 h Z.c4;refine⟨_,(aH (Y1q cQ2.nd (jE nV (by rfl) T.b_len Kk (Y1p Y1S)))
  (Y0Z (WC (kY.of (psc:=bC sQ2) (N:=["self","costs","many"]) (N':=["place","self","costs"]) (js:=[0,1]) Kk rfl rfl rfl) (Y6O 2) (YbM) (λ_ _ _ _=>(cR FQ53 (eI (dG.of (N:=["place","self","costs"]) (N':=["row","place"]) (js:=[0]) (by kernel_rfl) rfl rfl rfl) (VX K (dN K (aD 1))) YbM (λ_ _ _ _=>Y6p 0 (Y1R fS aO 1))) (Y0c)))))),?_⟩
 refine Yv;intro τ ο;refine Y1X (by simp) j (uL G W p);refine rlL d ?_;rw[I];refine Y3p _ rfl _ Oo Oo ?_;rw[show((n:Nat):Int).toNat=n by exact Oo];refine kK (n:=n) (λk y _=>y=.int (Md.rat n R ν k)) (Y9a) Oo (λk H' Q' ψ a γ=>?_) (λD ρ H' ι α a m U=>?_)
 ·rw[Int.zero_add];refine Y1X (by simp) (a _ _ j) (uL G W p);refine Y1E G (a _ _ d) (Yd2 z (y=.int (R i k)) Oo (a _ _ d) (λi y H2 Q2 g u κ=>?_) (λD2 μ H2 ε X u L B=>?_))
  ·have e:i<n:=by have:=(aC.mp g).1;exact Oo
   obtain⟨l,m,δ⟩:=M i _ (yG e);rw[g]at m;cases m;refine Y07 (Y53 _ _ ?_);show rIx K (V.ref l) (V.int ((1:Int)+(k:Int))) H2 Q2;rw[show(1:Int)+(k:Int)=((k+1:Nat):Int)by exact Oo];exact xH ((a.trans u) _ _ δ) (dB (iA Oo)) (κ _ H2 (Y06) rfl)
  ·rw[lY (L.trans I) B]at X;refine Y8;refine uH.i X ((a.trans u) _ _ S) (by rw[cQ,cQ]) (by rw[cQ];exact Oo) (λx j=>?_) (λy g=>?_) λH3 ζ=>?_
   ·obtain⟨i,e,rfl⟩:=uQ j;exact up (Z.rz i e (k+1) Oo)
   ·obtain⟨i,e,rfl⟩:=uQ g;exact θ i e
   ·refine γ _ H3 (u.trans ζ) ?_;rw[KS];refine Ye5 ?_;unfold Md.dot Md.rat;exact Md.eL λi _=>Int.mul_comm ..
 ·rw[lY m U]at α;exact q D H' ι α a
end
abbrev sQ1:Stmt:=(BD (top 23) 1)
def cQ1:Yj ["self","column","thing","steps","out"] a15 sQ1:={}
def TF(ra ra' sa:Addr)(p:Int):Y34 "rows" ra' (mfs ra sa p)=mfs ra' sa p:=by unfold mfs;rfl
def NG(ra sa:Addr)(p p':Int):eP "parts" (.int p') (mfs ra sa p)=mfs ra sa p':=by unfold mfs;rfl
def aCo(n:Nat)(b:Y1)(R:Md.fE)(i:Nat):mT ((dF (n+1) (Md.rho n b R i)).map V.int) (some 1) none=(dF n (R i)).map V.int:=by
 have h:=II ((dF (n+1) (Md.rho n b R i)).map V.int) 1;rw[show((1:Nat):Int)=1 from rfl]at h;rw[h];unfold dF;rw[List.range_succ_eq_map,bA,List.map_map,bA,List.drop_succ_cons,List.drop_zero]
 rfl
abbrev PY(n:Nat)(R:Md.fE)(a:Y1):Af:=dF n (Yd6 j)
inductive sP (M:Addr):Yq
 | i {H:Hp} {Q:VK} {E:XK} {x sa ca:Addr} {tv:V} {n:Nat} {b a:Y1} {B R:Md.fE} {p:Int} {ts:Al} {C:Nat} (h1:tO H M x sa n b R p ts) (h2:H ca=Yc ((dF n a).map V.int)) (h3:aAG n b R p C) (h4:Md.Mst n b B R p) (h5:0<p) (h6:∀i,i<n->(a i).natAbs<Y0R) (h7:∀i,i<n->(Y3V i).natAbs<2^C) (h8:∃i,i<n/\0<Y3V i) (q:∀o H',o<n->0<Y3V o->Md.aAH n b R a o->aAJ x sa H H'->tO H' M x sa n b (Md.xE n B R o a) (Y3V o) (YaF tv)->Ybz):sP M [Y23,.ref ca,tv] H Q E
section
def oQ1(F:Ye "enter" "Master.enter" sQ1)(T:Yk)(FQ53:Y03 "product" a32 uH)(FQ37:Y3j "leaving" ["rows","steps"] AN)(FQ25:Y03 "exchanged" a30 AR):dW P w K mg base dD 3 f fd a15 (sP c.Master):=by
 refine Y17 cQ1;obtain @⟨H,Q,E,x,g,ca,tv,n,b,a,B,R,p,ts,C,S,ad,Z,M,p0,za,zs,pos,q⟩:=h;refine Yi;intro cdv A ψ s J _;have O:=T.w_Master;have n8:=Z.n8;obtain⟨u,β,L,LL⟩:=S.ex;obtain⟨τ,X,lr,ac⟩:=LL.at_;rw[nJ]at lr;have up:∀{x:Int},Y5O (2^C)->Y5O Y0R:=λh=>Y63 h Z.c4;have K0:MzK (n+1) C (iU n b R) (PY n R a):=by
  refine⟨by rw[cQ,nJ],by rw[nJ];exact Oo,λr J=>?_,Oo,λr J y e=>?_,λy e=>?_,Z.c4⟩
  ·obtain⟨i,m,rfl⟩:=aN.mp J;exact cQ _ _
  ·obtain⟨i,m,rfl⟩:=aN.mp J;obtain⟨k,ε,rfl⟩:=uQ e;exact Z.rz i (bL.mp m) k ε
  ·obtain⟨i,m,rfl⟩:=uQ e;exact zs i m
 refine⟨_,(aH (iL (i:=3) (dG.o ["row","column"] [1]) cQ1.nd rfl rfl Y6T YbM (λ_ _ _ _=>cR FQ53 (oK (wY K) (Y04) (qW aO) qY) (Y0t)))
  (aH (Y4T cQ1.nd (cR FQ37 (Y1S) (Y0X)))
  (aH (Y6V (WA FQ25 (Y1S) (Y0X) (Y1b) (Y1S)))
  (aH (Y6V (Y3n 3 Y1b))
  (aV (GK (Y0c) (BN (Y1S) (Y1b) sR))))))),?_⟩
 refine Yv;intro ξ ι;refine Y1X (by simp) L (uL β g p);refine Y1E β X (Yd2 τ (y=.int (Y3V i)) Oo X (λi y H2 Q2 e N k2=>?_) (λD ys H1 hD δ κ U ω=>?_))
 ·have m:i<n:=by have:=(aC.mp e).1;exact Oo
  obtain⟨l,U,el⟩:=ac i _ (yG m);rw[e]at U;cases U;refine Y02;refine slL (ys:=(dF n (R i)).map V.int) (N _ _ el) (aCo n b R i) λD3 H3 hD3 e3 γ=>Y8;refine uH.i e3 ((N.trans γ) _ _ ad) (by rw[cQ,cQ]) (by rw[cQ];exact Oo) (λz ο=>?_) (λz ο=>?_) λH4 s4=>?_
  ·obtain⟨k,ε,rfl⟩:=uQ ο;exact up (Z.rz i m (k+1) Oo)
  ·obtain⟨k,ε,rfl⟩:=uQ ο;exact za k ε
  ·exact k2 _ H4 (γ.trans s4) (by rw[KS])
 ·rw[lY (U.trans lr) ω]at δ;refine Yt;intro ξ ι;have ae:=κ _ _ L;refine Y1X (by simp) ae (uL β g p);refine Y8;refine AN.i (LL.same κ) δ K0 λH2 N=>Yt;intro ξ ι;rw[cQ];obtain⟨g1,g2⟩:=FH (n:=n) (b:=b) (a:=a) (R:=R) (aL n);cases eo:FI (iU n b R) (PY n R a) n with
  | none =>
   obtain⟨i,m,ζ⟩:=pos;exact absurd ζ (g1 eo i m)
  | some o =>
   obtain⟨W,sp⟩:=CK _ _ _ _ eo;rw[jL W]at sp;have S2:=κ.trans N;have I:=S2 _ _ L;refine Y1X (by simp) I (uL β g p);refine Y2O (Y4j O (by simp) I (CM β g p));refine AR.i (LL.same S2) (N _ _ δ) K0 (by rw[nJ];exact W) p0 (Y63 Z.pz (Y3B Z.c4)) λd H3 G L3 γ=>?_;rw[aCi M.bs p0 W]at L3;have aa:=L3;have L3:=L3.ll;have S3:=S2.trans γ;have ν:=S3 _ _ L;have few:∀(r s:Addr) (z:Int),(mfs r s z).length<1000:=λr s z=>by show 3<1000;decide
   refine⟨_,rfl,x,c.Master,u,_,rfl,ν,O.cls,Y7k (by simp),few ..,Y4i⟩;intro ξ ι;rw[TF];have μ:=YcX x H3 u (mfs d g p);have e4:(upd H3 x (.ins c.Master u (mfs d g p))) x=_:=bH;generalize upd H3 x (.ins c.Master u (mfs d g p))=H4 at μ e4 ⊢;have nD:D≠x:=λz=>by rw[z,L]at hD;cases hD
   refine Y07 (Y5Q (μ.at nD ((N.trans γ) _ _ δ)) (iA W));refine⟨_,rfl,x,c.Master,u,_,rfl,e4,O.cls,Y7k (by simp),few ..,?_⟩;rw[NG];have b5:=YcX x H4 u (mfs d g (Y3V o));have χ:(upd H4 x (.ins c.Master u (mfs d g (Md.dot n (R o) a)))) x=_:=bH;generalize upd H4 x (.ins c.Master u (mfs d g (Md.dot n (R o) a)))=H5 at b5 χ ⊢;have B5:aW x H3 H5:=μ.trans b5;have α:g≠x:=λz=>by have:=S.st;rw[z,L]at this;cases this
   have η:=B5.at α (S3 _ _ S.st);refine Y07 (Y4j O (by simp) χ (tF d g _));refine Y8;refine stG (j:=o) η (NT (by rw[S.len];exact W)) λH6 e6 υ=>?_;have af:=υ.at (Ne.symm α) χ;refine q o H6 W sp (λi m ζ=>g2 o eo i m ζ) (λy φ θ ρ e=>υ.at ρ (B5.at θ (S3 _ _ e))) ⟨Y2X u d af,e6,by rw[List.length_set];exact S.len⟩;obtain⟨ab,h1,h2,h3⟩:=aa;have nf:∀{y:Addr} {φ:HO},H3 y=some φ->y≠x->y≠g->H6 y=some φ:=λe θ ρ=>υ.at ρ (B5.at θ e);have nn:∀{y:Addr},H2 y=none->y≠x/\y≠g:=λe=>⟨λz=>(by rw[z,I]at e;cases e),λz=>(by rw[z,S2 _ _ S.st]at e;cases e)⟩;refine⟨ab,nf h1 (nn G).1 (nn G).2,h2,λj l row U J=>?_⟩;obtain⟨h4,h5⟩:=h3 j l row U J;exact nf h5 (nn h4).1 (nn h4).2
end
end Kw
namespace L2
open PySem PySem.W PySem.Spec PySem.Calls PyProof.Rows
section
variable{X:Cx}
@[irreducible] def aBF:Y1x:=λxs H Q=>∃(p:Addr) (bs:List Bool),xs=Y5d/\H p=Yc (bs.map V.bl)/\Y3e (bs.any id)
def rany{p:Addr}{bs:List Bool}{H:Hp}{Q:VK}(e:H p=Yc (bs.map V.bl))(q:Y3e (bs.any id)):aBF Y5d H Q:=by unfold aBF;exact Y0i p bs e q
def aAw{bs:List Bool}:∀{us:Ag},Y2m (bs.map V.bl)->LSm.BoolsAre us bs:=by
 induction bs with
 | nil=>intro us r;cases r;exact .nil
 | cons b bs ih =>
  intro us r;cases r with
  | cons r t=>cases(show _=Value.bool b from r);exact .cons b (ih t)
def NC(bs:List Bool):((List.range bs.length).any λi=>(bs[i]?).getD false)=bs.any id:=by
 apply Bool.eq_iff_iff.mpr;rw[List.any_eq_true,List.any_eq_true];constructor
 ·rintro⟨i,c,h⟩;have a:=bL.mp c;rw[aB a]at h;exact⟨bs[i],List.getElem_mem a,h⟩
 ·rintro⟨b,d,h⟩;obtain⟨i,c,rfl⟩:=List.getElem_of_mem d;exact⟨i,bL.mpr c,by rw[aB c];exact h⟩
def aFG(hc:Y1t):Y4M X "any" aBF:=by
 unfold aBF;intro d s σ H D B Q I r h;obtain⟨p,bs,rfl,e,q⟩:=h;obtain⟨_,rfl,y⟩:=nF r;cases y;obtain⟨z,a,n,rv,C,j⟩:=I.lstM e;have l:s.heap.IsList p a.toArray:=Y0i _ j n rfl;have m:=aAw rv;have c:Y4H p:=bK j;refine call_any_walk (wpAny_pyIter_list l ?_);refine⟨s.heap.objs.size,[s.heap.objs.size,p],[s.heap.objs.size],a.toArray.size,_,_,λi=>(bs[i]?).getD false,rfl,Walks.list (A:=X.A.in1) (Y8x) _ p (dL c) a.toArray,
  ⟨Y8Z _,l.push _⟩,λi v J Q' E' u g=>?_,λL G w=>?_⟩
 ·obtain⟨b,e,rfl⟩:=m.get i v (by simpa using u);simp only[e,Option.getD_some]at g;exact wpAny_truthy_bool g
 ·have e:((List.range a.toArray.size).any λi=>(bs[i]?).getD false)=bs.any id:=by
   rw[bM,m.length];exact NC bs
  rw[e];exact Y0H (.bl _) H (I.kept (LSm.kept_iter w)) q
end
end L2
namespace Kw
open PySem L2 Mf
abbrev aEk:Stmt:=(top 76)
def aJu:Yj a20 a20 aEk:={}
def tJ{s u:Str}:Y0P (V.str s) (V.str u)=Y0P s u:=by
 by_cases e:s=u
 ·subst e;simp
 ·rw[cA e,cA (Yaf (by injection z))]
structure nW where
 word:Str
 cost:Int
 v:V
def xU(H:Hp)(u:V)(t:nW):Prop:=∃a,u=Yd/\H a=Yf [.str t.word,.int t.cost,t.v]
structure kS(H:Hp)(us:Al)(ts:Y0C):Prop where
 len:Y33 ts.length
 at_:∀(i:Nat) (u:V) (t:nW),Y5X=Ym->ts[i]?=Y79->xU H u t
def xU.same{H H':Hp}{u:V}{t:nW}(h:xU H u t)(s:Y0):xU H' u t:=by
 obtain⟨a,e,h⟩:=h;exact Y2r e (s _ _ h)
theorem kS.same{H H':Hp}{us:Al}{ts:Y0C}(h:kS H us ts)(s:Y0):kS H' us ts:=⟨h.len,λi u t a c=>(h.at_ i u t a c).same s⟩
def xU.keep2{H H':Hp}{x sa C dx:Addr}{fs:Y4v}{xs:Al}{u:V}{t:nW}(h:xU H u t)(k:aAJ x sa H H')(hx:H x=Y7i)(hs:H sa=Y0I):xU H' u t:=by
 obtain⟨a,e,h⟩:=h;exact Y2r e (k _ _ (λz=>by rw[z,hx]at h;cases h) (λz=>by rw[z,hs]at h;cases h) h)
def kS.get{H:Hp}{us:Al}{ts:Y0C}(h:kS H us ts){i:Nat}{u:V}(hu:Y5X=Ym):∃t,ts[i]?=Y79/\xU H u t:=by
 have a:i<ts.length:=by have:=(aC.mp hu).1;have:=h.len;exact Oo
 exact⟨ts[i],aB a,h.at_ i u _ hu (aB a)⟩
def gJ(ts:Y0C):Bool:=(ts.map λt=>decide (t.word=Str.ofString "lack")).any id
inductive lQ (M:Addr):Yq
 | i {H:Hp} {Q:VK} {E:XK} {x sa:Addr} {n:Nat} {b:Y1} {R:Md.fE} {p:Int} {us:Al} {ts:Y0C} (h1:tO H M x sa n b R p us) (h2:kS H us ts) (h3:n<=8) (q:∀H',Y0->Q (.bl Y1k) H'):lQ M [Y23] H Q E
section
def aIA(F:Ye "lacks" "lacks" aEk)(T:Yk):dW P w K mg base dD 1 f fd a20 (YeD):=by
 refine YfM aJu ?_;obtain @⟨H,Q,E,x,u,n,b,R,p,J,B,d,m,ζ,q⟩:=h;refine Yi;intro I A g s α _;have O:=T.w_Master;obtain⟨β,M,W,LL⟩:=d.ex;have δ:=d.len;refine Y6S (jE (aFG rfl) (by rfl) T.b_any Kk (Y1p (Y7r ["thing"] [] Y6T (vI oU (Y5c 0) (Y9L "lack" T.g_LACK))))) (Y1X (by simp) W (tF M u p));refine Y1E u d.st (Yd2 J (∃t,B[i]?=Y79/\y=.bl (Y9K "lack")) Oo d.st (λi y H2 Q2 G X N=>?_) (λD z H1 γ C U ε j=>?_))
 ·obtain⟨t,l,a,rfl,S⟩:=m.get G;refine Y0n (X _ _ S);exact Y0O (N _ H2 (Y06) ⟨t,l,by rw[tJ]⟩)
 ·have L:z=(B.map λt=>decide (t.word=Str.ofString "lack")).map V.bl:=by
   refine Y6x;rw[aE,aE];by_cases hi:i<z.length
   ·obtain⟨t,l,e⟩:=j i _ (aB hi);rw[l,aB hi,e];rfl
   ·rw[bI Oo,bI (by have:=m.len;exact Oo)];rfl
  rw[L]at C;exact rany C (q H1 U)
end
abbrev aD0:Stmt:=(top 77)
def aJj:Yj a20 a20 aD0:={}
def xX(ts:Y0C)(i:Nat):Int:=if Y1k=true then(if((ts[i]?.map λt=>decide (t.word=Str.ofString "lack")).getD false)=true then 1 else 0) else(ts[i]?.map (·.cost)).getD 0
inductive mL (M:Addr):Yq
 | i {H:Hp} {Q:VK} {E:XK} {x sa:Addr} {n:Nat} {b:Y1} {R:Md.fE} {p:Int} {us:Al} {ts:Y0C} {C:Nat} (h1:tO H M x sa n b R p us) (h2:kS H us ts) (h3:aAG n b R p C) (h4:∀t∈ts,t.cost.natAbs<Y0R) (q:∀D H',H D=none->Y0F=Yc ((dF n (Md.rat n R (xX ts))).map V.int)->Y0->Y18):mL M [Y23] H Q E
section
def aIf(F:Ye "rates_of" "rates_of" aD0)(T:Yk)(FQ33:Y03 "lacks" a20 YeD)(FQ2:FnM P w K mg base 2 c.Master "rates" a39 (qA c.Master)):dW P w K mg base dD 3 f fd a20 (mL c.Master):=by
 refine F.oky aJj λτ H Q E h=>?_;obtain @⟨H,Q,E,x,J,n,b,R,p,δ,G,C,m,I,Z,ν,q⟩:=h;refine Yi;intro κ A X s γ _;have O:=T.w_Master;have n8:=Z.n8;have θ:=m.len;have lt:=I.len;have η:∀(r s:Addr) (z:Int),(mfs r s z).lookup ("rates" : Str)=none:=λr s z=>by unfold mfs;rw[fC,Y2E,fC,Y2E,fC,Y2E];rfl
 refine⟨_,(aH (Y6B (sH (Y0D FQ33 0)) (MI FQ2 T.w_Master.cls (YeU) (Y04) (Y1p (Y7r ["thing"] [] Y6T (oM (eQ oU (Y5c 0) (Y9L "lack" T.g_LACK)) aO aO)))))
  (Y0Z (MI FQ2 T.w_Master.cls (YeU) (Y04) (Y1p (Y7r ["thing"] [] Y6T (Y5c 0)))))),?_⟩
 refine Yv;intro ξ υ;refine Y8;refine lQ.i m I n8 λH1 e=>Y8;obtain⟨ζ,ε,M,LL⟩:=(m.same e).ex;have g:=(m.same e).st;cases eb:gJ G with
 | true =>
  refine sD (Y2N);intro ξ;refine⟨_,rfl,x,ζ,_,rfl,M,η ..,_,rfl,Y4j O (by simp) M (tF ε J p)⟩;refine Y1E J g (Yd2 δ (y=.int (xX G i)) Oo g (λi y H2 Q2 N d L=>?_) (λD μ H2 ο B d α j=>?_))
  ·obtain⟨t,β,a,rfl,W⟩:=I.get N;refine Y0n ((e.trans d) _ _ W);refine Y0O Y8;have ι:xX G i=if Y9K "lack"=true then 1 else 0:=by unfold xX;rw[if_pos eb,β];rfl
   rw[tJ];cases ew:Y9K "lack"with
   | true =>
    exact sD (L _ H2 (Y06) (by rw[ι,ew];rfl))
   | false =>
    exact pS (L _ H2 (Y06) (by rw[ι,ew];rfl))
  ·rw[lY (α.trans θ) j]at B;refine qA.i (m.same (e.trans d)) B Z (λi ρ=>?_) λD3 H3 l S U=>?_
   ·unfold xX;rw[if_pos eb];split
    ·show 1<Y0R;exact Yfi
    ·show 0<Y0R;exact Y61
   ·exact q D3 H3 ((e.trans d).free l) S ((e.trans d).trans U)
 | false =>
  refine pS ⟨_,rfl,x,ζ,_,rfl,M,η ..,_,rfl,Y4j O (by simp) M (tF ε J p)⟩;refine Y1E J g (Yd2 δ (y=.int (xX G i)) Oo g (λi y H2 Q2 N d L=>?_) (λD μ H2 ο B d α j=>?_))
  ·obtain⟨t,β,a,rfl,W⟩:=I.get N;refine Y0n ((e.trans d) _ _ W);exact L _ H2 (Y06) (by unfold xX;rw[if_neg (by rw[eb];decide),β];rfl)
  ·rw[lY (α.trans θ) j]at B;refine qA.i (m.same (e.trans d)) B Z (λi ρ=>?_) λD3 H3 l S U=>?_
   ·unfold xX;rw[if_neg (by rw[eb];decide)];have u:i<G.length:=Oo;rw[aB u];exact ν _ (List.getElem_mem u)
   ·exact q D3 H3 ((e.trans d).free l) S ((e.trans d).trans U)
end
abbrev aEq:Stmt:=(top 78)
def aJx:Yj ["rates"] ["rates"] aEq:={}
def aAd(n:Nat)(y:Y1):mT ((dF (n+1) y).map V.int) none (some (-1))=(dF n y).map V.int:=by
 have e:(dF (n+1) y).map V.int=(dF n y).map V.int++[V.int (y n)]:=by unfold dF;rw[List.range_succ,bF,bF];rfl
 have l:((dF n y).map V.int).length=n:=by rw[aA,cQ]
 rw[e];generalize (dF n y).map V.int=a at l ⊢;unfold mT;rw[HT.xA];have c:HT.kN (a++[V.int (y n)]).length (a++[V.int (y n)]).length (some (-1))=n:=by
  rw[aU,l];show(if(-1:Int)<0 then((-1:Int)+((n+1:Nat):Int)).toNat else min (-1:Int).toNat (n+1))=n;rw[Yb8];exact Oo
 rw[c,Nat.sub_zero,List.drop_zero,<-l,List.take_left']
 rfl
inductive mO:Yq
 | i {H:Hp} {Q:VK} {E:XK} {a:Addr} {n:Nat} {y:Y1} (h1:H a=Yc ((dF (n+1) y).map V.int)) (h2:n<=8) (q:∀D H',H D=none->Y0F=Yc ((dF n λi=>- y i).map V.int)->Y0->Y18):mO Y2n H Q E
section
def aIG(F:Ye "factors_of" "factors_of" aEq)(T:Yk):dW P w K mg base dD 1 f fd ["rates"] mO:=by
 refine F.oky aJx λM H Q E h=>?_;obtain @⟨H,Q,E,a,n,y,J,O,q⟩:=h;refine Yi;intro B A e s N _;refine Y6g _ (Y7r ["rate"] [] (dJ (oK (wY K) (Y04) qY (qW (BO vK aO)))) (BO vK (Y04)));refine Y07 Y8;refine slL (ys:=(dF n y).map V.int) J (aAd n y) λD1 H1 C u l=>Y1E D1 u (YbV ((dF n y).map V.int) (λi z _=>z=.int (- y i)) (by rw[aA,cQ];exact Oo) u (λi z H2 Q2 g m I=>?_) (λD ys H2 G j m p d=>?_))
 ·have L:i<n:=by have:=(aC.mp g).1;rw[aA,cQ]at this;exact this
  rw[iA L]at g;cases g;exact Y07 (I _ H2 (Y06) rfl)
 ·rw[aA,cQ]at p;rw[lY p d]at j;exact q D H2 (l.free G) j (l.trans m)
end
abbrev pT(ss:Aj)(pz:Yx)(c:Ae)(v:Nat):Rat:=pz v*Y2q v
def worz(F W M:Nat)(ss:Aj)(mix:Ak)(pz:Yx)(kz:Rat)(cs:Ak)(c:Ae):Rat:=nC W F (gS ss) (Y6J) pz (λk=>kz*cT cs k) (Y2V) c
def VM(F W M:Nat)(ss:Aj)(mix:Ak)(pz:Yx)(kz:Rat)(cs:Ak)(c:Ae):Rat:=kz*CN W ss mix cs c+Y8W F (Y5G F W M pz kz Y2Y)
def OV(F W M:Nat)(ss:Aj)(mix:Ak)(pz:Yx)(kz:Rat)(cs:Ak)(c:Ae)(b:Nat):Prop :=
 (b=0/\Y1U/\Y5G F W M pz kz c=VM F W M ss mix pz kz cs c)\/∃v,v<W/\b=1+v/\Y5G F W M pz kz c=bZ W (pT ss pz c)-pT ss pz c v
section
variable{F W M:Nat}{ss:Aj}{mix cs:Ak}{pz:Yx}{kz:Rat}
def SN{c:Ae}(h:M<=c.sum):Y5G F W M pz kz c=lJ (mG W (pT ss pz c)):=by
 unfold worz;rw[Nat.sub_eq_zero_of_le h];rfl
def EH{c:Ae}(h:Y1U)(hl:Y0T):Y5G F W M pz kz c=lJ (mG W (pT ss pz c)++[VM F W M ss mix pz kz cs c]):=by
 obtain⟨n,a⟩:∃n,Y2V=n+1:=Y2Q (Y2V-1);have e:VM F W M ss mix pz kz cs c=kz*Y7N cs*Y08 (Y3b v*Y2q v)+Y8W F (nC W F (gS ss) (Y6J) pz (λk=>kz*cT cs k) n (Y2Y)):=by
  unfold VM CN;rw[<-Rat.mul_assoc];congr 1;refine bP λj d=>?_;unfold worz;rw[gR Oo,show M-(c.sum+1)=n by exact Oo]
 rw[e];unfold worz;rw[a,EI]
def TU{d:Yx}{ns:Af}(hl:Y9z W)(hv:∀(i:Nat) (n:Int),ns[i]?=Y7d->(n:Rat)=bZ W d-d i){m:Int}(hm:m∈ns)(hle:∀a∈ns,m<=a):(m:Rat)=lJ (mG W d):=by
 have h:=YY (U:=1) Dd hl (λi n h=>by rw[hv i n h,Rat.one_mul]) hm hle;rw[Rat.one_mul]at h;exact h
def FY{c:Ae}{v:Nat}(w1:1<=W)(hl:Y0T)(hv:v<W)(e:bZ W (pT ss pz c)-pT ss pz c v=lJ (mG W (pT ss pz c)))(h:Y1U->¬VM F W M ss mix pz kz cs c<lJ (mG W (pT ss pz c))) :
  OV F W M ss mix pz kz cs c (1+v)/\Y5G F W M pz kz c=lJ (mG W (pT ss pz c)):=by
 have a:Y5G F W M pz kz c=lJ (mG W (pT ss pz c)):=by
  by_cases q:Y1U
  ·rw[EH q hl,FF (MZ w1 _),if_neg (h q)]
  ·exact SN Oo
 exact⟨.inr (Y5m v hv (by rw[a,e])),a⟩
def aCH{c:Ae}(w1:1<=W)(hl:Y0T)(hc:Y1U)(h:VM F W M ss mix pz kz cs c<lJ (mG W (pT ss pz c))):OV F W M ss mix pz kz cs c 0/\Y5G F W M pz kz c=VM F W M ss mix pz kz cs c:=by
 have a:Y5G F W M pz kz c=VM F W M ss mix pz kz cs c:=by rw[EH hc hl,FF (MZ w1 _),Y4W]
 exact⟨.inl ⟨rfl,hc,a⟩,a⟩
end
structure FcZ(W:Nat)(us:Ae)(cu:Nat)(fns:Af)(cf:Int)(pz:Yx)(kz:Rat):Prop where
 fl:fns.length=W
 ul:Y33 W
 fac:∀(i:Nat) (f:Int) (u:Nat),fns[i]?=Y6v->Y5X=Ym->(f:Rat)*(u:Rat)=pz i/\f.natAbs<Y0R
 cfu:(cf:Rat)*(cu:Rat)=kz
 cz:cf.natAbs<Y0R
 uz:∀u∈us,u<Y0A
 cuz:cu<Y0A
inductive wW (C:Addr):Yq
 | i {H:Hp} {Q:VK} {E:XK} {x fa:Addr} {cf:Int} {fns:Af} {F W M Ns Nm Np Nc B:Nat} {ss:Aj} {mix ps cs:Ak} {us:Ae} {cu:Nat} {pz:Yx} {kz:Rat} (h1:AB H x C F W M ss mix cs us cu) (h2:H fa=Yc (fns.map V.int)) (h3:kO F W M ss mix ps cs Ns Nm Np Nc B) (h4:FcZ W us cu fns cf pz kz) (h5:(Y0a).length<=400) (k:∀a bp m kvs best H',Y0->H' a=Yf [.ref bp,Y5J]->H' bp=Y15->VJ kvs Y0a best->(∀c∈rise F M,OV F W M ss mix pz kz cs c (Y0s))->(m:Rat)=Y7V F W M pz kz->Y0r a):wW C [Y23,.ref fa,.int cf] H Q E
def EY{F:Nat}(M:Nat)(hF:1<=F):Y0a[0]?=some (Y00):=by
 unfold rise;rw[List.range_succ_eq_map,List.flatMap_cons,DK F hF];rfl
section
def aIS(F:Ye "best_places" "best_places" aEC)(T:Yk)(FQ68:Y03 "weights_at" a33 (HA c.Weighing))(FQ45:Y3j "ones_more" a34 fY):dW P w K mg base dD 3 f fd a21 (wW c.Weighing):=by
 refine F.oky OI YfN;obtain @⟨H,Q,E,x,fa,cf,fns,F,W,M,Ns,Nm,Np,Nc,B,d,mix,ps,cs,us,cu,pz,kz,wg,hfa,I,G,r4,k⟩:=h;refine Yi;intro cdv A outer s N _;have f1:=I.f1;have f4:=I.f4;have w1:=I.w1;have w4:=I.w4;have hB:=I.b;have O:=T.w_Weighing;have nsp:0<Ns^M:=Yfn (by have:=I.pos;rw[z,Nat.mul_zero]at this;exact Y5W)
 refine⟨_,(aH (Y1r OI.nd nE)
  (aH (Y3x 4 OI.nd nE)
  (aH (gH PassesOwn.never rfl (VW rfl T.b_reversed (Y1p Y1S)) (Y9h 5 OI.nd) (aH (Y3x 6 OI.nd (Y7L ["factor","one"] ["factor","one"] [] (Ybs 1 (Y2k FQ68 0 5)) (Y2I eZ 0 1)))
  (aH (iL (i:=7) (dG.o ["due","dues"] [6]) OI.nd rfl rfl (dJ (aD 6)) YbM (λ_ _ _ _=>Y1R pR (Y6a (aCs K rfl) (by rfl) T.b_sum Kk 1) 0))
  (aH (iY N.u1 Y0X (aD 5) (Y6y aO (rZ PySem.F.plainAttrs_list PySem.F.slot_list_index PySem.F.type_list_index aB5 (aD 7) (Y1p (Y6a (RY K rfl) (by rfl) T.b_min Kk 7)))))
  (aH (iY N.u1 Y1b (aD 5) (Y6a (RY K rfl) (by rfl) T.b_min Kk 7))
  (aV (iR (eQ (YT N.u1) (aD 5) (Y1S) (by with_unfolding_all rfl)) (aH (cM (i:=8) OI.nd (Y6y (Y7p 2 (gQ N.u1 (Y1S) (aD 5))) (jE (OE rfl) (by rfl) T.b_sum Kk (Y1p (Y7r ["more","worth_of"] [4] (dJ (Y0D FQ45 5)) (Y7S N.u1 Y04))))))
  (aV (iR (Y1I zR 8 (gQ N.u1 (Y1b) (aD 5))) (aH (iY N.u1 Y0X (aD 5) (Yg2 (.int 0)))
  (aV (iY N.u1 Y1b (aD 5) (aD 8)))) fR))) fR)))))))
  (Y9Z (Y2i 3 (gQ N.u1 (Y1b) (Y3g Y1S aO))))))),?_⟩
 refine Yv;intro ν ζ;intro α ι;refine Yt;intro ν ζ;have s1:=Y6H [] ι;have e1:(upd H α (.dT [])) α=Y0g []:=bH;generalize upd H α (.dT [])=H1 at s1 e1 ⊢;intro wp R;refine Yt;intro ν ζ;have s2:=Y6H [] R;have e2:(upd H1 wp (.dT [])) wp=Y0g []:=bH;generalize upd H1 wp (.dT [])=H2 at s2 e2 ⊢;have S:wp≠α:=λz=>by rw[z,e1]at R;cases R
 have β:H wp=none:=s1.free R;have θ:=s1.trans s2;obtain⟨ul,dx,fl,ra,ua,wa,ca,tas,ckv,a0,a1,a2,a3,a4,a5,⟨e,a6,φ⟩,a7,a8,a9,a10,a11⟩:=id wg;have lvs:e.length=(Y0a).length:=by rw[φ.len,aA]
 refine Y1X (by simp) (θ _ _ a0) a1;refine Y0i ra e (fV.of (θ _ _ a6)) ?_;refine RG (xs:=e) (λi σ H'=>Ex6 λ(o5 o6 o7 o8:Am) (ρ kw:List (List fJ × V))=>An6 (σ=[Y3 x,Y3 fa,Yb cf,Y3 α,Y3 wp,o5,o6,o7,o8]) (Y0) (H' α=Y0g ρ) (H' wp=Y0g kw) (DP ρ ((rise F M).drop (Ya4 i)) (λc v=>∃b:Nat,v=.int (b:Int)/\OV F W M d mix pz kz cs c b)) (DP kw ((rise F M).drop (Ya4 i)) (λc v=>∃n:Int,v=Y5I/\(n:Rat)=worz F W M d mix pz kz cs c)))
  ⟨_,_,_,_,[],[],rfl,θ,s2 _ _ e1,e2,⟨(λc l=>by rw[Nat.sub_zero,lvs,List.drop_length]at l;cases l),Y0L⟩,⟨(λc l=>by rw[Nat.sub_zero,lvs,List.drop_length]at l;cases l),Y0L⟩⟩ (Y8j) ?_ ?_
 ·obtain⟨_,_,_,_,_,_,_,S',_⟩:=q;exact fV.of (S' _ _ a6)
 ·rintro i y σ H3 hi hy ⟨o5,o6,o7,o8,ρ,kw,rfl,S3,U,ε,Z,γ⟩;refine Y9V;intro ν ζ;obtain⟨cc,l,rc0⟩:=fO φ hy;have ο:=aF l;have C:=(fT f1).mp ο;have lkb:=Z.len;have lkw:=γ.len;rw[List.length_drop]at lkb lkw;refine Y4q;refine HA.i (wg.same S3) (rc0.same S3) ο Oo λD1 ns H4 L hD1 e4 ln hns=>Y1B fa D1 _ _ (L _ _ (S3 _ _ hfa)) e4 ?_;refine kL (λj z _=>∃n,z=Y5I/\(n:Rat)=pT d pz cc j) (Y8l) (by rw[aA,G.fl];exact Oo) (L _ _ (S3 _ _ hfa)) e4 (by rw[aA,aA,G.fl,ln]) (λj u v H' Q' hu δ s' k'=>?_) (λD2 zs H5 hD2 e5 s5 ab hr5=>?_)
  ·rw[aE]at hu δ;obtain⟨fj,ad,rfl⟩:=eM.mp hu;obtain⟨nj,hnj,rfl⟩:=eM.mp δ;have lj:=(aC.mp ad).1;have hjW:j<W:=by rw[<-G.fl];exact lj
   obtain⟨uj,υ⟩:∃u,us[j]?=Ym:=Y56 (by rw[G.ul];exact hjW);obtain⟨g1,g2⟩:=G.fac j fj uj ad υ;have g3:=hns j nj uj hnj υ;have g4:=CV (I.qn hjW C.2) nsp g3;refine⟨_,rfl,_,rfl,_,_,rfl,rfl,pA g2 (aI g4 (aEO (G.uz uj (aF υ)) Dd)),k' _ H' Y06 Y8⟩;rw[Rat.intCast_mul,g3];show(fj:Rat)*(gS d j cc*(uj:Rat))=pz j*gS d j cc;rw[<-g1];grind
  obtain⟨ds,rfl,ae⟩:=mZ (P:=λj n=>(n:Rat)=pT d pz cc j) hr5;refine Yt;intro ν ζ;have ld:ds.length=W:=by rw[aA,aA,G.fl]at ab;exact ab
  have sd:=JI ld ae;refine Y5a _ D2 _ e5 (dO (λj z _=>∃n,z=Y5I/\(n:Rat)=bZ W (pT d pz cc)-pT d pz cc j) (Y8l) (by rw[aA];exact Oo) e5 (λj v H' Q' δ s' k'=>?_) (λD3 zs H6 μ e6 s6 hz6 hr6=>?_))
  ·rw[aE]at δ;obtain⟨dj,hdj,rfl⟩:=eM.mp δ;refine Y5 (rsI (fV.of (s' _ _ e5)) ?_);refine Y6D _ _ _ rfl (k' _ H' Y06 Y8);rw[Rat.intCast_sub,sd,ae j dj hdj]
  obtain⟨zs,rfl,hzs⟩:=mZ (P:=λj n=>(n:Rat)=bZ W (pT d pz cc)-pT d pz cc j) hr6;refine Yt;intro ν ζ;have lz:zs.length=W:=by rw[aA,aA]at hz6;exact Oo
  have S6:aT H H6:=((S3.trans L).trans s5).trans s6;have e6b:=s6 _ _ (s5 _ _ (L _ _ U));have e6w:=s6 _ _ (s5 _ _ (L _ _ ε));obtain⟨ac,rfl,r⟩:=hV rc0;refine⟨_,rfl,VL e6,_,rfl,?_⟩;refine rmnl (fV.of e6) Oo λm hm hle=>?_;obtain⟨j,ξ,hj2⟩:=ZV hm;refine aI5 e6 ξ hj2 Oo ⟨_,_,rfl,rfl,_,rfl,_,rfl,?_⟩;have em:=TU lz hzs hm hle;have ej:bZ W (pT d pz cc)-pT d pz cc j=lJ (mG W (pT d pz cc)):=by rw[<-hzs j m ξ,em]
  have ljW:j<W:=by rw[<-lz];exact(aC.mp ξ).1
  refine Y5x e6b cc (by rw[fM];exact S6 _ _ r) Oo (λH7 e7b b7=>Y4i);intro ν ζ;have nbD:D3≠α:=λz=>by rw[z]at μ;rw[s5 _ _ (L _ _ U)]at μ;cases μ
  have e7:=b7.at nbD e6;have e7w:=b7.at S e6w;have S7:aT H H7:=aT.thru ι S6 b7;refine Y8;refine rmnl (fV.of e7) Oo λm' hm' χ=>?_;have emm:m'=m:=Int.le_antisymm (χ m hm) (hle m' hm');subst emm;refine Y02;refine Y5x e7w cc (by rw[fM];exact S7 _ _ r) Oo (λH8 η b8=>?_);have e8b:=b8.at (Ne.symm S) e7b;have S8:aT H H8:=aT.thru β S7 b8;have J:=S8 _ _ r;have a:(rise F M).drop (Ya4 (i+1))=cc::(rise F M).drop (Ya4 i):=by
   have hk:Y0a[Ya4 1-i]?=some cc:=l;obtain⟨l1,l2⟩:=aC.mp hk;have:Ya4 (i+1)=Ya4 1-i:=Oo;rw[this,List.drop_eq_getElem_cons l1,l2,show e.length-1-i+1=e.length-i by exact Oo]
  refine Y07 (Y4j O (by simp) (S8 _ _ a0) a5);refine rind (dgI (cc:=cc) (S8 _ _ a10) J) Y8;by_cases hlt:cc.sum<M
  ·have hah:cc∈ahd F M:=gB.mpr ⟨ο,cN hlt⟩;obtain⟨m2,ψ,em2⟩:=a11.yes cc hah;rw[ψ];refine CT rfl (Yv);intro ν ζ;refine Y07 (Y4j O (by simp) (S8 _ _ a0) a5);refine Y5 (Y5y (S8 _ _ a10) cc (by rw[fM];exact J) ψ ?_);have m2z:=CV (show Qn _ (B*4) (CN W d mix cs cc)by have:=(IR I hlt).q;rwa [dP]at this) I.pos em2;refine Y54 _ (pA G.cz (aI m2z (aEO G.cuz (aK (show B*4<=4*WB by exact Oo) vF)))) Y8;refine fY.i (vT J) Oo λD4 ms H9 hD4 e9 r9 s9=>Y1E D4 e9 ?_;have lms:ms.length=cc.length:=by rw[r9.len,aA,aA,aQ]
   refine dO (λq z _=>∃n,z=Y5I/\(n:Rat)=worz F W M d mix pz kz cs (bS cc q)) (Y8l) Oo e9 (λq v H' Q' δ s' k'=>?_) (λD5 ws H10 hD5 e10 κ hz10 aa=>?_)
   ·obtain⟨c2,hc2,rc2⟩:=fO (g:=λc=>tK c) r9 δ;have hq:q<cc.length:=by have:=(aC.mp δ).1;exact Oo
    rw[aE,aZ hq]at hc2;cases hc2;obtain⟨a2,rfl,ha2⟩:=hV (rc2.same s');have bs:=gR (c:=cc) (j:=q) hq;have hin:Y3Q (bS cc q):=(fT f1).mpr (Y2Q (by rw[mC];exact C.1));have hbe:=sW l hin Oo;rw[show e.length-1-i+1=e.length-i by exact Oo]at hbe;obtain⟨v2,hv2,n2,rfl,en2⟩:=γ.yes _ hbe;refine Y07 (MF (s' _ _ (s9 _ _ η)) (c:=ci (bS cc q)) (by rw[fM];exact ha2) (v:=.int n2) ?_ ?_)
    ·rw[iC,Y2t ?_]
     ·exact hv2
     ·have:=Y36 z;rw[this]at bs;exact Oo
    ·exact k' _ H' Y06 (Yz n2 en2)
   obtain⟨ws,rfl,hws⟩:=mZ (P:=λq n=>(n:Rat)=worz F W M d mix pz kz cs (bS cc q)) aa;have lws:ws.length=F:=by rw[aA]at hz10;exact Oo
   refine rsI (fV.of e10) ?_;have sw:=JI lws hws;refine Y53 _ _ ?_;have eon:((cf*m2+ws.sum:Int):Rat)=VM F W M d mix pz kz cs cc:=by
    rw[Rat.intCast_add,Rat.intCast_mul,sw,em2];have:=G.cfu;unfold VM;grind
   have S10:=(S8.trans s9).trans κ;have D:=κ _ _ (s9 _ _ η);have X:=κ _ _ (s9 _ _ e8b);have p:=S10 _ _ r;refine Y2O (MF D (c:=ci cc) (by rw[fM];exact p) (v:=.int m') (by rw[iC,Ys]) ?_);refine Y5M _ _ _ ?_;have key:(cf*m2+ws.sum<m')↔VM F W M d mix pz kz cs cc<lJ (mG W (pT d pz cc)):=by
    rw[<-eon,<-em];exact⟨λh=>by exact_mod_cast h,λh=>by exact_mod_cast h⟩
   refine yR (λhl=>?_) (λhl=>?_)
   ·obtain⟨B1,B2⟩:=aCH w1 C.1 hlt (key.mp hl);refine Y02;have l1:=Y6n ρ cc (.int (1+(j:Int)));have l2:=Y6n kw cc (.int m');refine Y5x X cc (by rw[fM];exact p) (aK l1 Oo) (λH11 e11b b11=>?_);have S11:aT H H11:=aT.thru ι S10 b11;refine Y4q;refine Y5x (b11.at S D) cc (by rw[fM];exact S11 _ _ r) (aK l2 Oo) (λH12 e12w ω=>⟨_,_,_,_,_,_,rfl,aT.thru β S11 ω,ω.at (Ne.symm S) e11b,e12w,?_,?_⟩)
    ·rw[a];exact Z.put2 (Yz 0 B1)
    ·rw[a];exact γ.put2 (Y5 (by rw[B2];exact eon))
   ·obtain⟨B1,B2⟩:=FY (mix:=mix) (cs:=cs) (M:=M) (kz:=kz) w1 C.1 ljW ej λ_ h=>hl (key.mpr h);refine⟨_,_,_,_,_,_,rfl,S10,X,D,?_,?_⟩
    ·rw[a];exact Z.put ⟨1+j,by push_cast;rfl,B1⟩
    ·rw[a];exact γ.put (Y5 (by rw[B2];exact em))
  ·have hno:cc ∉ ahd F M:=λz=>hlt (of_decide_eq_true (gB.mp z).2);rw[a11.no cc hno];refine tH rfl ?_;obtain⟨B1,B2⟩:=FY (mix:=mix) (cs:=cs) (M:=M) (kz:=kz) w1 C.1 ljW ej (λh=>absurd h hlt);refine⟨_,_,_,_,_,_,rfl,S8,e8b,η,?_,?_⟩
   ·rw[a];exact Z.put ⟨1+j,by push_cast;rfl,B1⟩
   ·rw[a];exact γ.put (Y5 (by rw[B2];exact em))
 ·rintro σ H3 ⟨o5,o6,o7,o8,ρ,kw,rfl,S3,U,ε,Z,γ⟩;rw[Nat.sub_self,List.drop_zero]at Z γ;have τ:=EY M f1;generalize ec0:List.replicate F 0=c0 at τ;obtain⟨y0,hy0,ry0⟩:=kG φ τ;obtain⟨_,hv0,m0,rfl,em0⟩:=γ.yes c0 (aF τ);obtain⟨q0,rfl,hq0⟩:=hV ry0;refine Y2O (Y4j O (by simp) (S3 _ _ a0) a1);refine xH (S3 _ _ a6) (Y6b hy0) (Y5y ε c0 (by rw[fM];exact S3 _ _ hq0) hv0 ?_);refine sF (by show 2<=64;decide) λq4 H4 hq4 e4 L=>?_;have lb:=Z.len;have ch:∀cc:Ae,∃b:Nat,Y3Q cc->fX ρ (Y2c cc)=Yb (b:Int)/\OV F W M d mix pz kz cs cc b:=λcc=>by
   by_cases q:Y3Q cc
   ·obtain⟨v,h1,b,rfl,h2⟩:=Z.yes cc q;exact⟨b,λ_=>⟨h1,h2⟩⟩
   ·exact⟨0,λz=>absurd z q⟩
  exact k q4 α m0 ρ (λcc=>Classical.choose (ch cc)) H4 (S3.trans L) e4 (L _ _ U) (Y2Q (λcc l=>(Classical.choose_spec (ch cc) l).1)) (λcc l=>(Classical.choose_spec (ch cc) l).2) (by rw[ec0];exact em0)
end
section
variable{F W M:Nat}{best:Y0z}
def TD{ss:Aj}{mix cs:Ak}{pz:Yx}{kz:Rat}(hF:1<=F)(hb:∀c∈rise F M,OV F W M ss mix pz kz cs c (Y0s)):∀e∈rul F W M best,aAO F W (gS ss) (Y6J) pz (λk=>kz*cT cs k) (worz F W M ss mix pz kz cs) e:=by
 intro e i;obtain⟨c,j,rfl⟩:=aN.mp i;have d:=(iZ hF).subset j;rcases hb c d with⟨g,n,a⟩ | ⟨v,h,g,a⟩
 ·refine .inl (Y05 (by rw[oS,if_pos g]) (λv h=>?_))
  ·show Y0E (Y6j W)=0;rw[rH Oo,Y3s]
  ·show Y5G F W M pz kz c=kz*Y7N cs*Y08 (Y3b v*Y2q v)+_;rw[a];unfold VM CN;rw[<-Rat.mul_assoc];rfl
 ·refine .inr ⟨v,h,by rw[oS,Y3s],?_,λu l m=>?_,?_⟩
  ·show Y0E (Y6j W)=1;rw[rH Oo,if_pos g.symm]
  ·show Y2S (Y6j W) u=0;rw[rH Oo,Y3s]
  ·show Y5G F W M pz kz c=_;rw[a];rfl
end
theorem EO{α:Type}(k:Rat)(f:Y3a):∀l:List α,YbI (k*f a)=k*Y46
 | []=>by show(0:Rat)=k*0;grind
 | a::l=>by
  show k*f a+cW l (λa=>k*f a)=k*(f a+cW l f);rw[EO k f l];grind
def FT(F W:Nat)(es:Yg)(q:Y2M)(mix cs:Yx)(k:Rat):gC F W es q mix (λi=>k*cs i)=k*gC F W es q mix cs:=by
 unfold gC;rw[<-eT];refine Y7P ?_;have:gE F es (q w) (λi=>k*cs i)=k*gE F es (q w) cs:=by
  unfold gE;rw[<-EO];congr 1
  funext e
  grind
 rw[this];grind
def LU{F W M:Nat}{best:Y0z}{ss:Aj}{mix cs:Ak}{pz:Yx}{kz:Rat}(hF:1<=F)(f4:F<=4)(m5:M<=5)(on:∀c,Y0s=0->Y1U)(hb:∀c∈rise F M,OV F W M ss mix pz kz cs c (Y0s))
  (h0:∀w,w<W->gS ss w Y00=1) (h1:∀w,w<W->∀c:Ae,Y0T->Y2q w=Y4p (gS ss w Y5g)) :
  Y7V F W M pz kz=kz*Y5S F W Y1w+Y0j (pz w*(1-gM F (Y1w) (Y5i w) w)):=by
 have h:=YG (XV (W:=W) hF f4 m5 on) (worz F W M ss mix pz kz cs) h0 h1 (TD hF hb);rw[h];unfold yI;rw[FT]
def BK{F W M:Nat}{es:Yg}{ss:Aj}{mix cs:Ak}{pz:Yx}{kz:Rat}(R:Y1D)(hM:∀e∈es,e.1.sum<=M)(on:∀e∈es,Y4B->e.1.sum<M)
  (h0:∀w,w<W->gS ss w Y00=1) (h1:∀w,w<W->∀c:Ae,Y0T->Y2q w=Y4p (gS ss w Y5g)) (hs:∀e∈es,(∀v,0<=cT e.2 v)/\Y08 (Y0E e.2)=1-Y2) :
  Y7V F W M pz kz<=kz*Y5S F W es+Y0j (pz w*(1-gM F es (Y5i w) w)):=by
 have h:=YF (mix:=Y6J) (ps:=pz) (cs:=λk=>kz*cT cs k) R hM on h0 h1 hs;unfold yI at h;rw[FT]at h;have e:Y7V F W M pz kz=nC W F (gS ss) (Y6J) pz (λk=>kz*cT cs k) M (Y00):=by
  unfold worz;rw[show M-(List.replicate F 0).sum=M by simp]
 rw[e];exact h
section
variable{F W M:Nat}{best:Y0z}
def QY{c d:Ae}(h:∀j,j<F->d≠Y2Y):Y4z=0:=by
 unfold gX;rw[Y7A (λj a=>Y2t (h j a z.symm)),iS]
def yO{α:Type}{P:Y1c Yu}(h0:P [])(h1:∀l a,P l->P (l++[a]))(l:Yu):P l:=by
 have:∀l:List α,P l.reverse:=λl=>by
  induction l with
  | nil=>exact h0
  | cons a l ih=>rw[List.reverse_cons];exact h1 _ _ ih
 rw[<-List.reverse_reverse l];exact this _
def FN{keep:Y85}{d:Ae}(hd:d≠Y00)(hn:∀c,keep c->Y0s=0->∀j,j<F->d≠Y2Y)(l:Ab):(∀c∈l,keep c)->Y7K W d=0:=by
 refine yO (P:=λl=>(∀c∈l,keep c)->Y7K W d=0) (λ_=>?_) (λl a h g=>?_) l
 ·rw[List.map_nil,lG,if_neg hd]
 ·rw[bF];show Y2p (Y9m W++[Y94 W a])=0;rw[gK,h λc i=>g c (cL _ i),oS];by_cases e:best a=0
  ·have:=QY (F:=F) (c:=a) (d:=d) (hn a (g a (by simp)) e);show 0+Y7K W a*_*Y2o a=0;rw[this];grind
  ·rw[Y0B];grind
def UO{kb:Y1V Ae}(l:Ab):(∀c∈l,¬kb c=true->c≠Y00/\∀b,kb b=true->best b=0->∀j,j<F->c≠bS b j)->∀d,Y7K W d=Y2p ((l.filter kb).map (Y5U)):=by
 refine yO (P:=λl=>(∀c∈l,¬kb c=true->c≠Y00/\∀b,kb b=true->best b=0->∀j,j<F->c≠bS b j)->∀d,Y7K W d=Y2p ((l.filter kb).map (Y5U))) (λ_ d=>rfl) (λl a g m d=>?_) l;have g:=g λc i=>m c (cL _ i);rw[bF,List.filter_append,bF];show Y2p (Y9m W++[Y94 W a])=_;rw[gK];by_cases e:kb a=true
 ·have h:[a].filter kb=[a]:=by simp[e]
  rw[h];show _=Y2p ((l.filter kb).map (Y5U)++[Y94 W a]);rw[gK,g,g]
 ·have h:[a].filter kb=[]:=by simp[e]
  rw[h,List.map_nil,List.append_nil,g];obtain⟨p,n⟩:=m a (by simp) e;have r:Y7K W a=0:=by
   rw[g];exact FN (keep:=λc=>kb c=true) p n _ λc i=>(gB.mp i).2
  show _+Y7K W a*_*_=_;rw[r];grind
def DC{l1 l2:Ab}(h:l1.Sublist l2):l2.Nodup->Yg1 (c∈l1)=l1:=by
 induction h with
 | slnil=>intro _;rfl
 | @cons l1 l2 a h ih =>
  intro e;obtain⟨d,g⟩:=List.nodup_cons.mp e;rw[List.filter_cons,if_neg (by simpa using λz=>d (h.subset z)),ih g]
 | @cons_cons l1 l2 a h ih =>
  intro e;obtain⟨d,g⟩:=List.nodup_cons.mp e;rw[List.filter_cons,if_pos (by simp)];congr 1;have:Yg1 (c∈a::l1)=Yg1 (c∈l1):=by
   refine List.filter_congr λx i=>?_;have:x≠a:=λz=>d (z ▸ i);simp[this]
  rw[this,ih g]
def HX{k:Nat}{d:Ae}(hk:k<=M)(h:d∈Y5F F k):Y82 d:=by
 unfold qK;exact List.mem_flatMap.mpr ⟨k,bL.mpr Oo,h⟩
def UN(hF:1<=F)(f4:F<=4)(m5:M<=5)(d:Ae):Y2p ((rise F M).map (Y5U))=Y2p Y1w:=by
 have h:=UO (F:=F) (W:=W) (best:=best) (kb:=Yfm (Y82 c)) (Y0a) (λc n g=>?_) d
 ·rw[h,DC (iZ hF) (pI F f4 M m5)];rfl
 ·have e:=(fT hF).mp n;refine⟨λz=>g (cN ?_),λb l m j i z=>g (cN ?_)⟩
  ·rw[z];exact HX (k:=0) (Y0L) (by unfold lvl;simp)
  ·obtain⟨k,p,a⟩:=List.mem_flatMap.mp (of_decide_eq_true l);have hd:c∈Y5F F (k+1):=(lV hF).mpr ⟨b,a,m,j,i,z⟩;have r:c.sum=k+1:=(iP ((lW hF _).subset hd)).2;exact HX (k:=k+1) (by have:=e.2;exact Oo) hd
end
section
variable{F W M:Nat}{best:Y0z}
def ZU{l:Yg}{d:Ae}(m:Yg):(∀e∈m,Y2o e.1=0)->Y2p (l++m)=Y2p l:=by
 refine yO (P:=λm=>(∀e∈m,Y2o e.1=0)->Y2p (l++m)=Y2p l) (λ_=>by rw[List.append_nil]) (λm a c h=>?_) m;rw[<-List.append_assoc,gK,c λe g=>h e (cL _ g),h a (by simp)];grind
def aCh{A B:Ab}{c:Ae}(hB:∀b∈c::B,b.length=F/\Y4s b.sum):Y0f ((A++c::B).map (Y5U)) c=Y0f (A.map (Y5U)) c:=by
 rw[bF];refine ZU _ λe d=>?_;obtain⟨b,a,rfl⟩:=Ya7;obtain⟨i,h⟩:=hB b a;show gX F b c=0;refine QY λj g z=>?_;have:=Yg5 b j;rw[<-z]at this;exact Oo
def aAg(l:Ab)(ss:Aj)(mix cs:Ak):Y5S F W (Y9m W)=Y3w l ((if Y0s=0 then 1 else 0)*(Y7K W c*CN W ss mix cs c)):=by
 unfold gC gE;generalize aX F (l.map (oI W best))=a
 induction l with
 | nil =>
  show Y0j (Y3b w*0)=0;rw[Y7A (λw _=>by grind),iS]
 | cons c l ih =>
  rw[dE,<-ih,bA];have e:∀w,Y3b w*Y8e (Y94 W c::Y9m W) (cT cs e.1.sum*(a e.1*gS ss w e.1*Y2))=(s0 (Y94 W c)*a c*Y7N cs)*(Y3b w*Y2q w)+Y3b w*Y8e (Y9m W) (cT cs e.1.sum*(a e.1*gS ss w e.1*Y2)):=λw=>by
   rw[dE];show Y3b w*(Y7N cs*(a c*Y2q w*s0 (Y94 W c))+_)=_;grind
  rw[Y7P (e w),nH,eT,oS];unfold CN;grind
def XN(l:Ab)(q:Y0y){w:Nat}(hw:w<W):gM F (Y9m W) q w=Y3w l ((if Y0s=1+w then 1 else 0)*(Y7K W c*q c)):=by
 unfold gM;generalize aX F (l.map (oI W best))=a
 induction l with
 | nil=>rfl
 | cons c l ih =>
  rw[bA,dE,dE,ih];show a c*q c*Y2S (Y6j W) w+_=_;rw[rH Oo];by_cases e:Y0s=1+w
  ·rw[if_pos e.symm,Y1i];grind
  ·rw[Y2t Y8K,Y0B];grind
end
section
variable{F W M:Nat}{best:Y0z}
theorem ER(kb:Y1V Ae)(f:Y0y):∀l:Ab,(∀c∈l,¬kb c=true->f c=0)->Y46=cW (l.filter kb) f
 | [],_=>rfl
 | c::l,h=>by
  have ih:=ER kb f l λd hd=>h d (bG _ hd);rw[dE,List.filter_cons];by_cases e:kb c=true
  ·rw[if_pos e,dE,ih]
  ·rw[if_neg e,h c (aY ..) e,ih];grind
def ZT(hF:1<=F){c:Ae}(hc:Y3Q c)(hn:c ∉ Y76):Y0f Y1w c=0:=by
 have d:=(fT hF).mp hc;refine FN (keep:=λb=>Y82 b) (λz=>hn ?_) (λb e h j g z=>hn ?_) (Y76) λb e=>e
 ·rw[z];exact HX (k:=0) (Y0L) (by unfold lvl;simp)
 ·obtain⟨k,i,a⟩:=List.mem_flatMap.mp e;have hd:c∈Y5F F (k+1):=(lV hF).mpr ⟨b,a,h,j,g,z⟩;have l:c.sum=k+1:=(iP ((lW hF _).subset hd)).2;exact HX (k:=k+1) (by have:=d.2;exact Oo) hd
def JH(hF:1<=F)(f4:F<=4)(m5:M<=5)(g:Y0y)(x:Y0y):Y3w Y0a (x c*(Y0f ((rise F M).map (Y5U)) c*g c))=Y3w Y76 (x c*(Y0f Y1w c*g c)):=by
 rw[dC (g:=λc=>x c*(Y0f Y1w c*g c)) λc _=>by rw[UN hF f4 m5]];rw[ER (Yfm (Y82 c)) _ (Y0a) λc d a=>by
  rw[ZT hF d λz=>a (cN z)];grind,DC (iZ hF) (pI F f4 M m5)]
def UT(hF:1<=F)(f4:F<=4)(m5:M<=5)(ss:Aj)(mix cs:Ak):Y5S F W Y1w=Y3w Y0a ((if Y0s=0 then 1 else 0)*(Y0f ((rise F M).map (Y5U)) c*CN W ss mix cs c)):=by
 rw[JH (W:=W) hF f4 m5 (CN W ss mix cs) λc=>if Y0s=0 then 1 else 0];exact aAg (Y76) ss mix cs
def TB(hF:1<=F)(f4:F<=4)(m5:M<=5)(q:Y0y){w:Nat}(hw:w<W):gM F (Y1w) q w=Y3w Y0a ((if Y0s=1+w then 1 else 0)*(Y0f ((rise F M).map (Y5U)) c*q c)):=by
 rw[JH (W:=W) hF f4 m5 q λc=>if Y0s=1+w then 1 else 0];exact XN (Y76) q hw
end
def rW(kvs:Yr)(d:Ae):Int:=match Y2y d with
 | some (.int n)=>n
 | _=>0
structure AmD(kvs:Yr)(fl:Y0y)(B:Nat):Prop where
 ok:∀d:Ae,((∃n:Int,Y2y d=Yb n)\/Y2y d=none)/\(rW kvs d:Rat)=fl d/\(rW kvs d).natAbs<=2^B
 len:Y8m (B+1)
def ZR(kvs:Yr)(d e:Ae)(n:Int):rW (Y8F d Y5I) e=if e=d then n else rW kvs e:=by
 unfold rW;rw[iC];by_cases h:e=d
 ·subst h;rw[Ys,Ys]
 ·rw[Y31 (h (Y36 q)),Y5C]
def AmD.put{kvs:Yr}{fl:Y0y}{B:Nat}(h:AmD kvs fl B)(d:Ae){a:Int}(ha:a.natAbs<=2^B):AmD (Y8F d (.int (rW kvs d+a))) (λe=>fl e+(a:Rat)*(if d=e then 1 else 0)) (B+1):=by
 refine⟨YbW,by have:=h.len;have:=Y6n kvs d (.int (rW kvs d+a));exact Oo⟩;obtain⟨g,c,j⟩:=h.ok e;obtain⟨_,i,l⟩:=h.ok d;rw[ZR,Nat.pow_succ];refine Y05 ?_ ?_
 ·rw[iC];by_cases q:e=d
  ·rw[if_pos (by rw[q])];exact .inl Y37
  ·rw[Y2t (q (Y36 z))];exact g
 ·by_cases q:e=d
  ·subst q;rw[Ys,Ys,Rat.intCast_add,i];grind
  ·rw[Y2F,Y2t (q z.symm),c];grind
 ·by_cases q:e=d
  ·rw[Y5B];exact Oo
  ·rw[Y2F];exact Oo
def AmD.more{kvs:Yr}{fl gl:Y0y}{B C:Nat}(h:AmD kvs fl B)(e:∀d,fl d=gl d)(hB:B<=C):AmD kvs gl C :=
 ⟨λd=>⟨(h.ok d).1,by rw[(h.ok d).2.1,e],aK ((h.ok d).2.2) (Y4N hB)⟩,by have:=h.len;exact Oo⟩
def UH(j:Nat)(c d:Ae):Rat:=Yao j (if Y5g=d then 1 else 0)
def UG(j:Nat)(c d:Ae):UH (j+1) c d=UH j c d+if Y2Y=d then 1 else 0:=by
 unfold UH bZ;rw[List.range_succ,bF,sK];congr 1;show(if Y2Y=d then(1:Rat) else 0)+0=_;grind
def ZO(F:Nat)(c d:Ae):UH F c d=Y4z:=rfl
def aBv{F M:Nat}(f4:F<=4)(m5:M<=5){i j:Nat}{c b:Ae}(hi:Y0a[i]?=Y1h)(hj:Y0a[j]?=some b)(h:i<=j):Y4s b.sum:=by
 refine Y72 ?_;have g:=sW hj (aF hi) Oo;obtain⟨t,a⟩:=fP.mp g;rw[List.getElem?_drop]at a;have e:=pI F f4 M m5;obtain⟨n,l⟩:=aC.mp hi;obtain⟨m,d⟩:=Y6Z;have:=(List.getElem_inj e).mp (l.trans d.symm);exact Oo
def UM{F W M:Nat}{best:Y0z}(hF:1<=F)(f4:F<=4)(m5:M<=5){i:Nat}{c:Ae}(hi:Y0a[i]?=Y1h):Y0f (((rise F M).take i).map (Y5U)) c=Y0f ((rise F M).map (Y5U)) c:=by
 obtain⟨d,j⟩:=aC.mp hi;have e:Y0a=(rise F M).take i++c::(rise F M).drop (i+1):=by
  rw[<-j,<-List.drop_eq_getElem_cons d,List.take_append_drop]
 have h:=aCh (F:=F) (W:=W) (best:=best) (A:=(rise F M).take i) (B:=(rise F M).drop (i+1)) (c:=c) λb g=>?_
 ·rw[<-e]at h;exact h.symm
 ·rw[<-j,<-List.drop_eq_getElem_cons d]at g;obtain⟨t,a⟩:=fP.mp g;rw[List.getElem?_drop]at a;exact⟨((fT hF).mp (aF a)).1,aBv f4 m5 hi a Oo⟩
abbrev aEA:Stmt:=(top 63)
def IL:Yj ["weighing","best_at","amount_of","cost","right","counts","amount","place","more"] a07 aEA:={}
def aCr{W v:Nat}{rg:Y1}{n:Int}(hv:v<W):((dF W rg).map V.int).set v (V.int n)=(dF W λz=>if z=v then n else rg z).map V.int:=by
 refine Y6x;by_cases hi:i<W
 ·rw[iA hi];by_cases e:i=v
  ·subst e;rw[List.getElem?_set_self (by rw[aA,cQ];exact hi),Ys]
  ·rw[YbU Y8K,iA hi,Y0B]
 ·rw[bI (by rw[List.length_set,aA,cQ];exact Oo),bI (by rw[aA,cQ];exact Oo)]
structure aJI(F W M:Nat)(ss:Aj)(mix cs:Ak)(us:Ae)(cu:Nat)(best:Y0z):Prop where
 f1:1<=F
 f4:F<=4
 m5:M<=5
 w4:W<=4
 r4:(Y0a).length<=400
 bw:∀c∈rise F M,Y0s<=W
 on:∀c,Y0s=0->Y1U
 zc:∀c∈ahd F M,∀n:Int,(n:Rat)=CN W ss mix cs c*(cu:Rat)->n.natAbs<Y0R
 zw:∀(v:Nat) (u:Nat),us[v]?=Ym->∀c∈rise F M,∀n:Int,(n:Rat)=Y2q v*(u:Rat)->n.natAbs<Y0R
inductive wT (C:Addr):Yq
 | i {H:Hp} {Q:VK} {E:XK} {x bp:Addr} {kb:Yr} {F W M:Nat} {ss:Aj} {mix cs:Ak} {us:Ae} {cu:Nat} {best:Y0z} (h1:AB H x C F W M ss mix cs us cu) (h2:H bp=Y97) (h3:VJ kb Y0a best) (h4:aJI F W M ss mix cs us cu best) (k:∀a D (m:Int) (ns:Y1) H',Y0->H' a=Yf [Y5J,.ref D]->Y0F=Yc ((dF W ns).map V.int)->(m:Rat)=(cu:Rat)*Y5S F W Y1w->(∀(v u:Nat),us[v]?=Ym->(ns v:Rat)=(u:Rat)*(1-gM F (Y1w) (Y5i v) v))->Y0r a):wT C [Y23,.ref bp] H Q E
section
def aIQ(F:Ye "column_by" "column_by" aEA)(T:Yk)(FQ45:Y3j "ones_more" a34 fY):dW P w K mg base dD 3 f fd a07 (wT c.Weighing):=by
 refine Y17 IL;obtain @⟨H,Q,E,x,bp,kb,F,W,M,ss,mix,cs,υ,cu,m,wg,hbp,B,I,k⟩:=h;refine Yi;intro cdv A outer s θ _;have O:=T.w_Weighing;have f1:=I.f1;have f4:=I.f4;have m5:=I.m5;have w4:=I.w4;have r4:=I.r4;obtain⟨ul,dx,fl,ra,ua,wa,ca,tas,ckv,τ,a1,a2,a3,a4,a5,⟨vs,a6,ρ⟩,a7,a8,a9,a10,a11⟩:=id wg;have lvs:Y4O ((Y0a).length):=by rw[ρ.len,aA]
 have hc0:=EY M f1;obtain⟨y0,hy0,ry0⟩:=kG ρ hc0;obtain⟨q0,rfl,hq0⟩:=hV ry0;refine⟨_,(aH (Y1q IL.nd (JD θ.u1 (Y3g Y1S aO) aO))
  (aH (Y1r IL.nd aO)
  (aH (iL (i:=4) (dG.o ["unit"] []) IL.nd rfl rfl Y6T YbM (λ_ _ _ _=>aO))
  (aH (gH PassesOwn.never rfl (Y6T) (Y9h 5 IL.nd) (aH (cM (i:=6) IL.nd (GN θ.u1 (Y0c) (aD 5) aO))
  (aH (cM (i:=7) IL.nd (Y7S θ.u1 (aD 5)))
  (aV (iR (Y1I oU 7 (Yg2 (.int 0))) (aH (Y1r IL.nd (cG fS (aD 3) (Y7p 6 (gQ θ.u1 (Y1S) (aD 5)))))
  (aV (Y7M (dJ (Y0D FQ45 5)) 8 IL.nd (iY θ.u1 Y0c (aD 8) (Y1R fS (GN θ.u1 (Y0c) (aD 8) aO) 6))))) (aV (GK (Y6y (Y3n 4 (Y4u pR 7)) (Y7p 6 (gQ θ.u1 (Y3g Y1S (Y4u pR 7)) (aD 5)))) (BN (Y1b) (Y4u pR 7) sR))))))))
  (Y9Z (Y2i 3 (Y7L ["unit","one"] ["unit","one"] [] (kZ false false rfl T.b_zip (Y2f Y1S Y1b)) (Y2I pR 0 1)))))))),?_⟩
 refine Yv;intro κ n_;intro G ι;have s1:=Y6H [] ι;have e1:(upd H G (.dT [])) G=Y0g []:=bH;generalize upd H G (.dT [])=H1 at s1 e1 ⊢;refine Y1X (by simp) (s1 _ _ τ) a1;refine xH (s1 _ _ a6) (Y6b hy0) (aGx (c:=ci (Y00)) (by rw[fM];exact s1 _ _ hq0) e1 λH2 e2 b2=>?_);refine Yt;intro κ n_;have S2:aT H H2:=aT.thru ι s1 b2;refine Y1X (by simp) (S2 _ _ τ) a2;refine Y1E ua (S2 _ _ a7) (YbV (υ.map FV) (λ_ y _=>y=.int 0) (by rw[aA];exact Oo) (S2 _ _ a7) (λi y H' Q' hy s' k'=>k' _ H' Y06 rfl) (λrt ys H3 ξ e3 s3 hl hr3=>?_));refine Yt;intro κ n_;rw[aA,ul]at hl;rw[lY (g:=Y3r) hl hr3]at e3;have S3:=S2.trans s3;refine Y1X (by simp) (S3 _ _ τ) a1;refine Y1E ra (S3 _ _ a6) ?_;have nra:rt≠G:=λz=>by rw[z,e2]at ξ;cases ξ
 have rtH:H rt=none:=S2.free ξ
 let flA:Y0y:=aX F ((rise F M).map (oI W m))
 refine kR (xs:=vs) (λi σ H'=>Ex7 λ(o5 o6 o7 ζ:Am) (p:List (List fJ × V)) (ct:Int) (X:Nat->Int)=>An7 (σ=[Y3 x,Y3 bp,Y3 G,Yb ct,Y3 rt,o5,o6,o7,ζ]) (Y0) (H' G=Y0g p) (H' rt=Yc ((dF W X).map V.int)) (AmD p (aX F (((rise F M).take i).map (oI W m))) (4*i)) ((ct:Rat)=(cu:Rat)*Y3w ((rise F M).take i) ((if m c=0 then 1 else 0)*(flA c*CN W ss mix cs c))) (∀(v u:Nat),υ[v]?=Ym->(X v:Rat)=(u:Rat)*Y3w ((rise F M).take i) ((if m c=1+v then 1 else 0)*(flA c*Y2q v))))
  ⟨_,_,_,_,_,0,Y3r,rfl,S3,s3 _ _ e2,e3,?_,?_,?_⟩ (Y8j) ?_ ?_
 ·refine⟨Y6U,by show 1<=_;exact Oo⟩;have R:fX [(Y2c Y00,V.int 1)] (Y2c d)=if d=Y00 then Yb 1 else none:=by
   rw[show[(kT (ci (List.replicate F 0)),V.int 1)]=jQ [] (kT (ci (List.replicate F 0))) (.int 1)from rfl,iC];by_cases e:d=Y00
   ·rw[if_pos (by rw[e]),Y1i]
   ·rw[Y2t (e (Y36 z)),Y0B];rfl
  unfold rW;rw[R,List.take_zero,List.map_nil,lG];by_cases e:d=Y00
  ·rw[Y1i,Y1i];exact Yz (.inl (Y5l 1)) Dd
  ·rw[Y0B,Y0B];exact Yz Y8J Dd
 ·rw[List.take_zero,jH];grind
 ·intro v u _;rw[List.take_zero,jH];grind
 ·obtain⟨_,_,_,_,_,_,_,_,S',_⟩:=q;exact fV.of (S' _ _ a6)
 ·rintro i y σ H4 hy ⟨o5,o6,o7,ζ,p,ct,X,rfl,S4,η,L,α,ec,χ⟩;refine Y9V;intro κ n_;obtain⟨cc,hc,rc0⟩:=fO ρ hy;obtain⟨ac,rfl,S⟩:=hV rc0;have N:=aF hc;have δ:=(fT f1).mp N;obtain⟨hi,ei⟩:=aC.mp hc;have J:(rise F M).take (i+1)=(rise F M).take i++[cc]:=by rw[List.take_succ,hc];rfl
  have ω:(rW p cc:Rat)=flA cc:=by rw[(α.ok cc).2.1,UM f1 f4 m5 hc]
  have b5:i<400:=Oo;have gz:(rW p cc).natAbs<Y0R:=aI ((α.ok cc).2.2) (Ygd Oo);refine⟨_,rfl,G,rfl,?_,_,rfl,_,dgI (cc:=cc) η (S4 _ _ S),?_⟩
  ·exact Y2G p (.inl η)
  have eg:(fX p (kT (ci cc))).getD (.int 0)=.int (rW p cc):=by
   unfold rW;rcases(α.ok cc).1 with⟨n,e⟩ | e <;> rw[e] <;> rfl
  refine Yt;intro κ n_;rw[eg];refine Y07 (Y5y (S4 _ _ hbp) cc (by rw[fM];exact S4 _ _ S) (B.1 cc N) ?_);refine Y51 _ ?_;by_cases hb0:m cc=0
  ·rw[show decide (V.int ((m cc:Nat):Int)=V.int 0)=true by rw[xO,hb0];rfl];refine sD Yv;intro κ n_;have ψ:cc∈ahd F M:=gB.mpr ⟨N,cN (I.on cc hb0)⟩;obtain⟨m2,hm2,em2⟩:=a11.yes cc ψ;refine Y2O (Y4j O (by simp) (S4 _ _ τ) a5);refine Y5 (Y5y (S4 _ _ a10) cc (by rw[fM];exact S4 _ _ S) hm2 ?_);refine Y54 _ (pA gz (I.zc cc ψ m2 em2)) (Y53 _ _ Y8);refine fY.i (vT (S4 _ _ S)) (by have:=δ.1;exact Oo) λD ms H5 hD ν r5 φ=>?_;have lms:ms.length=F:=by rw[r5.len,aA,aA,aQ];exact δ.1
   have nDa:D≠G:=λz=>by rw[z,η]at hD;cases hD
   refine Y1E D ν (Yda ms (λj σ H'=>Ex2 λ(ζ:Am) (C:List (List fJ × V))=>An4 (σ=[Y3 x,Y3 bp,Y3 G,Yb (ct+rW p cc*m2),Y3 rt,Y3 ac,Yb (rW p cc),Yb ((m cc:Nat):Int),ζ]) (aW G H5 H') (H' G=Y0g C) (AmD C (λd=>Y2p (((rise F M).take i).map (oI W m))+(rW p cc:Rat)*UH j cc d) (4*i+j))) (Y8i _ p ((Y06).but) (φ _ _ η) (α.more (λd=>by unfold UH;rw[gT];grind) Oo)) YfA ?_)
   ·obtain⟨_,_,_,b',_⟩:=q;exact Yet nDa ν
   ·rintro j y2 σ H6 hy2 ⟨ζ,C,rfl,b6,γ,A6⟩;refine Y5A;intro κ;obtain⟨c2,hc2,rc2⟩:=fO (g:=λc=>tK c) r5 hy2;have hj:j<cc.length:=by have:=(aC.mp hy2).1;have:=δ.1;exact Oo
    rw[aE,aZ hj]at hc2;cases hc2;obtain⟨a2,rfl,ε⟩:=hV rc2;have n2:a2≠G:=λz=>by rw[z,φ _ _ η]at ε;cases ε
    have β:=b6.at n2 ε;refine⟨_,rfl,G,rfl,Y2G C (.inl γ),_,rfl,_,dgI (cc:=bS cc j) γ β,?_⟩;have eg2:(fX C (kT (ci (bS cc j)))).getD (.int 0)=.int (rW C (bS cc j)):=by
     unfold rW;rcases(A6.ok (bS cc j)).1 with⟨n,e⟩ | e <;> rw[e] <;> rfl
    rw[eg2];refine Y6D _ _ _ rfl Y02;have l6:=A6.len;refine Y5x γ (bS cc j) (by rw[fM];exact β) Oo (λH7 e7 b7=>Y8i _ _ (b6.trans b7) e7 ?_);exact(A6.put (bS cc j) (a:=rW p cc) (aK (α.ok cc).2.2 (aJ Dd Oo))).more (λd=>by rw[UG];grind) Oo
   ·rintro σ H6 ⟨ζ,C,rfl,b6,γ,A6⟩;rw[lms]at A6;refine⟨_,_,_,_,C,_,X,rfl,aT.thru ι (S4.trans φ) b6,γ,b6.at nra (φ _ _ L),A6.more (Y6U) Oo,?_,λv u R=>?_⟩
    ·rw[J,bF];show _=Y2p (((rise F M).take i).map (oI W m)++[oI W m cc]);rw[gK,oS,if_pos hb0,ZO];show _=_+Y0f (((rise F M).take i).map (oI W m)) cc*1*Y2o cc;rw[<-(α.ok cc).2.1];grind
    ·rw[J,oF,Rat.intCast_add,Rat.intCast_mul,ec,em2,ω]
     try dsimp only
     rw[if_pos hb0];grind
    ·rw[J,oF,χ v u R]
     try dsimp only
     rw[Y3s];grind
  ·rw[show decide (V.int ((m cc:Nat):Int)=V.int 0)=false by rw[xO,beq_eq_false_iff_ne];exact Oo];refine pS (Y2N);intro κ;obtain⟨v,R⟩:∃v,m cc=1+v:=Y2Q (m cc-1);have U:v<W:=by have:=I.bw cc N;exact Oo
   have ev:((m cc:Nat):Int)-1=(v:Int):=Oo;have ο:υ[v]?=some υ[v]:=Y3W;have lta:=a9.1;have htv:tas[v]?=some tas[v]:=Y3W;obtain⟨kw,hkw,Dw⟩:=a9.2 v _ _ htv ο;obtain⟨m3,hm3,em3⟩:=Dw.yes cc N;refine Y5R _ _ _ _ rfl ?_;show rIx _ (V.ref rt) (V.int (((m cc:Nat):Int)-1)) H4 _;rw[ev];refine xH L (dB (iA U)) (Y07 (Y4j O (by simp) (S4 _ _ τ) a3));refine Y6D _ _ _ rfl ?_;show rIx _ (V.ref wa) (V.int (((m cc:Nat):Int)-1)) H4 _;rw[ev];refine xH (S4 _ _ a8) (dB (by rw[aE,htv];rfl)) (Y5 (Y5y (S4 _ _ hkw) cc (by rw[fM];exact S4 _ _ S) hm3 ?_));refine Y54 _ (pA gz (I.zw v _ ο cc N m3 em3)) (Y53 _ _ (Y5R _ _ _ _ rfl ?_));show QF (V.ref rt) (V.int (((m cc:Nat):Int)-1)) _ H4 _;rw[ev];refine stG (j:=v) L (NT (by rw[aA,cQ];exact U)) λH5 ν b5'=>?_;have nar:G≠rt:=λz=>nra z.symm;refine⟨_,_,_,_,p,ct,λz=>if z=v then X v+rW p cc*m3 else X z,rfl,aT.thru rtH S4 b5',b5'.at nar η,?_,α.more (Y6U) Oo,?_,λz u μ=>?_⟩
   ·rw[ν];exact congrArg (λl=>some (HO.lst l)) (aCr U)
   ·rw[J,bF];show _=Y2p (((rise F M).take i).map (oI W m)++[oI W m cc]);rw[gK,oS,if_neg hb0];grind
   ·rw[J,oF,ec]
    try dsimp only
    rw[if_neg hb0];grind
   ·rw[J,oF]
    try dsimp only
    by_cases ez:z=v
    ·subst ez;rw[Ys,if_pos R,Rat.intCast_add,Rat.intCast_mul,χ z u μ,em3,ω];rw[ο]at μ;cases μ;grind
    ·rw[if_neg ez,Y3s,χ z u μ];grind
 ·rintro σ H4 ⟨o5,o6,o7,ζ,p,ct,X,rfl,S4,η,L,α,ec,χ⟩;rw[lvs,dY]at ec χ;refine Y07 (Y4j O (by simp) (S4 _ _ τ) a2);refine Y5 (Y1B ua rt _ _ (S4 _ _ a7) L (kL (b1:=false) (b2:=false) (xs:=υ.map FV) (ys:=(dF W X).map V.int) (λj z _=>z=.int ((υ.getD j 0:Nat)-X j)) (Y9a) (by rw[aA];exact Oo) (S4 _ _ a7) L (by rw[aA,aA,cQ];exact ul) (λj u v H' Q' hu R s' k'=>?_) (λD zs H5 hD ν φ μ hr5=>?_)))
  ·have hj:j<W:=by have:=(aC.mp hu).1;rw[aA]at this;exact Oo
   rw[iA hj]at R;cases R;rw[aE,lF 0 Oo]at hu;cases hu;exact Y5R _ _ _ _ rfl (k' _ H' Y06 rfl)
  ·rw[aA,ul]at μ;rw[lY μ hr5]at ν;refine sF (by show 2<=64;decide) λq6 H6 hq6 γ s6=>k q6 D ct _ H6 ((S4.trans φ).trans s6) γ (s6 _ _ ν) ?_ λv u R=>?_
   ·rw[UT f1 f4 m5];exact ec
   ·have U:v<W:=by have:=(aC.mp R).1;exact Oo
    rw[TB f1 f4 m5 (Y5i v) U,pK R,Rat.intCast_sub,χ v u R];have hu:(((u:Nat):Int):Rat)=((u:Nat):Rat):=by push_cast;rfl
    rw[hu];generalize cW (rise F M) (λc=>(if m c=1+v then(1:Rat) else 0)*(aX F ((rise F M).map (oI W m)) c*gS ss v c))=Z;show(u:Rat)-(u:Rat)*Z=(u:Rat)*(1-Z);grind
end
structure oY(F W M:Nat)(es:Yg):Prop where
 rl:Y1D
 hM:∀e∈es,e.1.sum<=M
 on:∀e∈es,Y4B->e.1.sum<M
 hs:∀e∈es,(∀v,0<=cT e.2 v)/\Y08 (Y0E e.2)=1-Y2
structure QIn(F W:Nat)(q:Y2M):Prop where
 h0:∀w,w<W->q w (Y00)=1
 h1:∀w,w<W->∀c:Ae,Y0T->q w c=Y4p (q w (Y5g))
 nn:∀w,w<W->∀c,0<=q w c
section
variable{F W M:Nat}{es:Yg}{q:Y2M}
def oY.said(A:oY F W M es)(Q:QIn F W q){w:Nat}(hw:w<W):0<=gM F es (q w) w/\gM F es (q w) w<=1:=by
 have nn:∀e∈es,0<=Y4 e.1*q w e.1:=λe _=>cI (A.rl.nnf e.1) (Q.nn w hw e.1);refine Y0o (uB λe a=>cI (nn e a) ((A.hs e a).1 _));rw[<-A.rl.stops (Q.h0 w hw) (Q.h1 w hw)];refine uC λe a=>Rat.mul_le_mul_of_nonneg_left ?_ (nn e a);obtain⟨c,d⟩:=A.hs e a;rw[<-d];have g:=wG (λv=>Y0E e.2) hw;have h:0<=Y4m W (if i=w then 0 else Y2S e.2 i):=tZ λi _=>by
  split
  ·exact Rat.le_refl
  ·exact c _
 grind
def lM(M:Nat)(cs:Yx)(k:Nat):Rat:=Y4m (M-k) (cs (k+i))
def WR{cs:Yx}(h:∀k,0<=cs k)(k:Nat):0<=Y3I k:=tZ λi _=>h _
def MP{cs:Yx}{k:Nat}(h:k<M):Y3I k=cs k+Y3I (k+1):=by
 unfold lM;obtain⟨n,a⟩:∃n,M-k=n+1:=Y2Q (M-k-1);rw[a,show M-(k+1)=n by exact Oo];clear a h
 induction n with
 | zero=>rw[eO,gT,gT,Nat.add_zero];grind
 | succ n ih=>rw[eO,ih,eO n,show k+1+n=k+(n+1)by exact Oo];grind
def oY.spent(A:oY F W M es)(Q:QIn F W q){cs:Yx}(hc:∀k,0<=cs k){w:Nat}(hw:w<W):0<=gE F es (q w) cs/\gE F es (q w) cs<=Y3I 0:=by
 have nn:∀e∈es,0<=Y4 e.1*q w e.1:=λe _=>cI (A.rl.nnf e.1) (Q.nn w hw e.1);refine Y0o (uB λe a=>cI (hc _) (cI (nn e a) (A.rl.nn e a)));have h:=A.rl.all λc=>q w c*Y3I c.sum;rw[show(List.replicate F 0).sum=0 by simp,Q.h0 w hw,Rat.one_mul]at h;have j:(Y0x (Y4 e.1*Y2*Y4p (q w (Y19 e.1)*Y3I ((Y19 e.1).sum))))=Y0x (Y4 e.1*q w e.1*Y2*Y3I (e.1.sum+1)):=dC λe a=>by
  have l:=YcQ a;have:(Y4p (q w (Y19 e.1)*Y3I ((Y19 e.1).sum)))=Y3I (e.1.sum+1)*q w e.1:=by
   rw[Q.h1 w hw e.1 l,<-eT];exact bP λf r=>by rw[gR Oo,Rat.mul_comm]
  rw[this];grind
 rw[j]at h;have le:Y0x (cs e.1.sum*(Y4 e.1*q w e.1*Y2)+Y4 e.1*q w e.1*Y2*Y3I (e.1.sum+1))<=Yad es (Y4 x.1*(q w x.1*Y3I x.1.sum)):=uC λe a=>by
  have d:=WR (M:=M) hc e.1.sum;have g:=nn e a;have m:Y2<=1:=by
   have:=(A.hs e a).2;have p:0<=Y4m W (Y2S e.2 i):=tZ λi _=>(A.hs e a).1 _;grind
  by_cases z:Y2=0
  ·rw[z];have:=cI g d;grind
  ·have t:=MP (cs:=cs) (A.on e a z);have n:=Rat.mul_le_mul_of_nonneg_left m (cI g d);have:cs e.1.sum*(Y4 e.1*q w e.1*Y2)+Y4 e.1*q w e.1*Y2*Y3I (e.1.sum+1)=Y4 e.1*q w e.1*Y3I e.1.sum*Y2:=by rw[t];grind
   rw[this];grind
 rw[jV]at le;unfold gE;grind
def oY.cost(A:oY F W M es)(Q:QIn F W q){mix cs:Yx}(hc:∀k,0<=cs k)(hm:∀w,0<=mix w)(h1:bZ W mix=1):0<=gC F W es q mix cs/\gC F W es q mix cs<=Y3I 0:=by
 unfold gC;refine Y0o (tZ λw a=>cI (hm w) (A.spent Q hc a).1);have:Y3I 0=Y0j (Y3I 0*mix w):=by rw[eT,h1,Rat.mul_one]
 rw[this];refine mK λw a=>?_;rw[Rat.mul_comm];exact Rat.mul_le_mul_of_nonneg_right (A.spent Q hc a).2 (hm w)
def QD{best:Y0z}(hF:1<=F)(f4:F<=4)(m5:M<=5)(on:∀c,Y0s=0->Y1U)(bw:∀c∈rise F M,Y0s<=W):oY F W M (Y1w):=by
 have mem:∀e∈rul F W M best,∃c∈qK F M best,e=oI W best c:=λe a=>by
  obtain⟨c,d,rfl⟩:=aN.mp a;exact Y3q c d
 refine⟨XV hF f4 m5 on,Y7C,λe a h=>?_,Y7C⟩
 ·obtain⟨c,d,rfl⟩:=mem e a;exact(AT hF d).2
 ·obtain⟨c,d,rfl⟩:=mem e a;rw[oS]at h;exact on c (cF λz=>h (if_neg z))
 ·obtain⟨c,d,rfl⟩:=mem e a;have b:=bw c ((iZ hF).subset d);rw[oS];refine Y0o (λv=>?_)
  ·show 0<=cT (Y6j W) v;by_cases j:v<1+W
   ·rw[rH j];split <;> decide
   ·unfold cT;rw[aM,bI (by unfold zZ;rw[aA,aQ];exact Oo)];show 0<=rv (0,1);rw[oC];exact Rat.le_refl
  ·show Y08 (Y0E (Y6j W))=_;rw[bP (g:=λv=>if 1+v=Y0s then 1 else 0) λv j=>rH Oo];by_cases z:Y0s=0
   ·rw[if_pos z,Y7A (λv j=>Y3s),iS];grind
   ·rw[if_neg z,BS (v:=Y0s-1) Oo λi m l=>Y3s,Y4U];grind
end
abbrev aEB:Stmt:=(top 79)
def OH:Yj ["weighing","master","rates","factors","way","factor","best","column"] ["weighing","master"] aEB:={}
structure VE(F W M:Nat)(ss:Aj)(mix ps cs:Ak)(Ns Nm Np Nc B:Nat)(us:Ae)(cu X:Nat):Prop where
 wo:kO F W M ss mix ps cs Ns Nm Np Nc B
 r4:(Y0a).length<=400
 ul:Y33 W
 uz:∀u∈us,0<u/\u<Y0A
 cuz:cu<Y0A
 q:QIn F W (gS ss)
 cz:∀es,oY F W M es->∀n:Int,(n:Rat)=(cu:Rat)*Y5S F W es->n.natAbs<2^X
 zc:∀c∈ahd F M,∀n:Int,(n:Rat)=CN W ss mix cs c*(cu:Rat)->n.natAbs<Y0R
 zw:∀(v:Nat) (u:Nat),us[v]?=Ym->∀c∈rise F M,∀n:Int,(n:Rat)=Y2q v*(u:Rat)->n.natAbs<Y0R
structure OR(F W M:Nat)(ss:Aj)(mix cs:Ak)(us:Ae)(cu:Nat)(best:Y0z)(a:Y1)(k:Int):Prop where
 bw:∀c∈rise F M,Y0s<=W
 on:∀c,Y0s=0->Y1U
 cost:(k:Rat)=(cu:Rat)*Y5S F W Y1w
 col:∀v u:Nat,us[v]?=Ym->(a v:Rat)=(u:Rat)*(1-gM F (Y1w) (Y5i v) v)
 one:a W=1
def SH(H:Hp)(F W M:Nat)(ss:Aj)(mix cs:Ak)(us:Ae)(cu:Nat)(a:Y1)(t:nW):Prop :=
 (YeJ t.word "room" /\ t.cost=0/\∃w,w<W/\a=Md.unit w)\/(YeJ t.word "lack" /\ t.cost=0/\a=Md.unit W) \/
 (YeJ t.word "rule" /\ ∃bp kb best,t.v=.ref bp/\H bp=Y97/\VJ kb Y0a best/\OR F W M ss mix cs us cu best a t.cost)
abbrev jJ(W:Nat)(R:Md.fE)(ts:Y0C):Y1:=Md.rat (W+1) R (xX ts)
def pzY(W:Nat)(R:Md.fE)(ts:Y0C)(us:Ae)(w:Nat):Rat:=-(jJ W R ts w:Rat)*((us.getD w 0:Nat):Rat)
def UB(ts:Y0C)(p:Int)(cu:Nat):Rat:=((if gJ ts=true then 0 else p:Int):Rat)*(cu:Rat)
inductive qH (G A:Addr):Yq
 | i {H:Hp} {Q:VK} {E:XK} {x m sa:Addr} {F W M:Nat} {ss:Aj} {mix ps cs:Ak} {Ns Nm Np Nc B:Nat} {us:Ae} {cu X:Nat} {b:Y1} {R:Md.fE} {p:Int} {uv:Al} {ts:Y0C} {C:Nat} (h1:AB H x G F W M ss mix cs us cu) (h2:tO H A m sa (W+1) b R p uv) (h3:kS H uv ts) (h4:VE F W M ss mix ps cs Ns Nm Np Nc B us cu X) (h5:aAG (W+1) b R p C) (h6:∀t∈ts,t.cost.natAbs<Y0R) (h7:∀k,k<W+1->(jJ W R ts k).natAbs<Y0R) (q0:∀H',Y0->(∀w,w<W->jJ W R ts w<=0)->((jJ W R ts W:Int):Rat)<=Y7V F W M (pzY W R ts us) (UB ts p cu)->Ybz) (q1:∀e ca ta a t H',Y0->H' e=Yf [.ref ca,.ref ta]->H' ca=Yc ((dF (W+1) a).map V.int)->xU H' (.ref ta) t->SH H' F W M ss mix cs us cu a t->YcR "lack" -> p*(if Y1k=true then 0 else t.cost)<Md.dot (W+1) (jJ W R ts) a->Y0r e):qH G A [Y23,.ref m] H Q E
def aAh(n:Nat)(y:Y1):ED ((dF (n+1) y).map V.int) (-1)=Yb (y n):=by
 have a:NU ((dF (n+1) y).map V.int).length (-1)=Y7d:=by
  rw[aA,cQ];unfold NU;rw[Y3s,Y4U];congr 1;exact Oo
 unfold ED;rw[a];exact iA Oo
def aCJ{W cu:Nat}{y ns:Y1}{us:Ae}{mz cf k:Int}{cq:Rat}{sd:Yx}(ul:Y33 W)(hm:(mz:Rat)=(cf:Rat)*(cu:Rat)*cq+Y0j ((-(y w:Rat)*((us.getD w 0:Nat):Rat))*(1-sd w)))(hk:(k:Rat)=(cu:Rat)*cq)(hn:∀v u:Nat,us[v]?=Ym->(ns v:Rat)=(u:Rat)*(1-sd v))(hlt:mz<y W):cf*k<Md.dot (W+1) y λr=>if r<W then ns r else 1:=by
 have d:(Y0j ((-(y w:Rat)*((us.getD w 0:Nat):Rat))*(1-sd w)))=-1*Y0j ((y w*ns w:Int):Rat):=by
  rw[<-eT];refine bP λw c=>?_;have a:us[w]?=some (us[w]'Oo):=Y3W;rw[hJ a,Rat.intCast_mul,hn w _ a];grind
 rw[d,<-Md.qQ]at hm;have e:mz=cf*k-Md.eC W (λw=>y w*ns w):=by
  have:(mz:Rat)=((cf*k-Md.eC W (λw=>y w*ns w):Int):Rat):=by
   rw[hm,Rat.intCast_sub,Rat.intCast_mul,hk];grind
  exact_mod_cast this
 have h:Md.dot (W+1) y (λr=>if r<W then ns r else 1)=Md.eC W (λw=>y w*ns w)+y W:=by
  unfold Md.dot;rw[Md.eC,Md.eL (g:=λw=>y w*ns w) λw c=>by show _*(if w<W then ns w else 1)=_;rw[if_pos c]];show _+y W*(if W<W then ns W else 1)=_;rw[if_neg (cO _),Int.mul_one]
 exact Oo
def aFP{K:Aa}{ns:Ah}{C m sa:Addr}{H:Hp}{n:Nat}{b:Y1}{R:Md.fE}{p:Int}{uv:Al}{ts:Y0C}{σ:St}{k:VK}(O:Own K C ns)(hn:("parts" : Str)∈ns)(ma:tO H C m sa n b R p uv)(th:kS H uv ts)(n8:n<=8)(hσ:σ[1]?=Y4d m)(hk:∀H',Y0->k (.int (if Y1k=true then 0 else p)) H'):tIf (tB (zN (lQ C) [] E0 (pE (WS 1) JG))) (tC (.int 0)) (WT K (WS 1) "parts") σ H k:=by
 refine Y05 _ hσ;refine lQ.i ma th n8 λH4 a=>Y8;have h:=hk H4 a;cases eb:Y1k with
 | true =>
  rw[eb]at h;exact sD h
 | false =>
  rw[eb]at h;refine pS ?_;obtain⟨e,c,d,LL⟩:=(ma.same a).ex;exact Y0J hσ (jR O hn d (CM c sa p) h)
section
def aIR(F:Ye "better" "better" aEB)(T:Yk)(FQ54:Y3k "rates_of" a20 (mL c.Master))(FQ27:Y03 "factors_of" ["rates"] mO)(FQ43:Y03 "one_among" a35 qC)(FQ15:Y3k "best_places" a21 (wW c.Weighing))(FQ33:Y03 "lacks" a20 YeD)(FQ17:Y3k "column_by" a07 (wT c.Weighing)):dW P w K mg base dD 4 f fd ["weighing","master"] (qH c.Weighing c.Master):=by
 refine Y17 OH;obtain @⟨H,Q,E,x,m,ν,F,W,M,ss,mix,ps,cs,Ns,Nm,Np,Nc,B,us,κ,X,b,R,p,uv,d,C,wg,ma,th,I,Z,zt,zr,q0,q1⟩:=h;refine Yi;intro cdv A ψ s hr _;have O:=T.w_Master;have w4:=I.wo.w4;refine⟨_,(aH (Y1q OH.nd (Y0D FQ54 1))
  (aH (Y1r OH.nd (Y0D FQ27 2))
  (aH (Y6d (GL false rfl T.b_enumerate (Y3L 3)) (mJ rfl (eK (Y9h 4 OH.nd) (eK (Y9h 5 OH.nd) kD))) (Y6B (Y1I zR 5 aO) (Y35 (cR FQ43 (Y9P nV (by rfl) Kk 2) (Y1b)) (fD (bE (Y9L "room" T.g_ROOM) (Y2f aO nS))))))
  (aH (cM (i:=6) OH.nd (Y38 FQ15 Y04 3 (oM (sH (Y0D FQ33 1)) aO (dN K (aD 1)))))
  (aH (Y6B (eQ aDb (Y0N 6) (Y3n 2 (BO vK aO))) nS)
  (aH (Y2d 7 OH.nd FQ17 0 (Y0N 6))
  (Y0Z (Y35 (cG vN (Y0N 7) (iM (Y1p aO))) (fD (Y4G (YeE "rule") (Y0N 7) (Y1p (Y0N 6)))))))))))),?_⟩
 refine Yv;intro S ζ;refine Y8;refine mL.i ma th Z zt λD1 H1 hD1 ο s1=>Yt;intro S ζ;refine Y8;refine mO.i ο Oo λD2 H2 hD2 χ ω=>Yt;intro S ζ;have S2:=s1.trans ω;refine Y6D _ D2 _ χ (KQ (b:=false) (n:=0) (xs:=(dF W λi=>-jJ W R d i).map V.int) (YaB (λ(o4 o5:Am)=>An3 (σ=[Y3 x,Y3 m,Y3 D1,Y3 D2,o4,o5,none,none]) (aT H2 H') (∀w,w<i->jJ W R d w<=0))) (Y0i _ _ Y06 (λw hw=>Oo)) (λi σ H' p=>?_) ?_ ?_)
 ·obtain⟨_,_,_,s',_⟩:=p;exact s' _ _ χ
 ·rintro i y pq σ H3 H4 μ ⟨o4,o5,rfl,L,all⟩ hpq e4 D;have η:i<W:=by have:=(aC.mp μ).1;rw[aA,cQ]at this;exact this
  rw[iA η]at μ;cases μ;have S4:=(S2.trans L).trans D;rw[Int.zero_add]at e4;refine⟨pq,[.int (i:Int),.int (-jJ W R d i)],rfl,jC.of e4,rfl,_,_,rfl,_,_,rfl,rfl,Y2N⟩;intro S;refine⟨_,rfl,_,_,rfl,rfl,_,rfl,?_⟩;by_cases U:-jJ W R d i<0
  ·rw[show decide (-jJ W R d i<0)=true from cN U];refine sD (Y5 (rlL ((L.trans D) _ _ (ω _ _ ο)) ?_));rw[aA,cQ];refine Y8;refine qC.i Oo λD5 H5 hD5 G ι=>sF (by show 3<=64;decide) λD6 H6 hD6 δ N=>sF (by show 2<=64;decide) λD7 H7 hD7 e7 l=>?_;have G:H5 D5=Yc ((dF (W+1) (Md.unit i)).map V.int):=G;refine q1 D7 D5 D6 (Md.unit i) (Y9s "room" 0 .non) H7 (((S4.trans ι).trans N).trans l) e7 ((N.trans l) _ _ G) (Yz D6 (l _ _ δ)) (.inl ⟨rfl,rfl,i,η,rfl⟩) Dd ?_;rw[Md.xL Oo];show p*(if gJ d=true then 0 else 0)<_;rw[ite_self,Int.mul_zero];exact Oo
  ·rw[show decide (-jJ W R d i<0)=false from cA U];refine pS (Y0i (Yb (i:Int)) (Yb (-jJ W R d i)) (L.trans D) (λw hw=>?_));by_cases e:w=i
   ·subst e;exact Oo
   ·exact all w Oo
 ·rintro σ H3 ⟨o4,o5,rfl,L,all⟩;refine Y4i;intro S ζ;rw[aA,cQ]at all;have S3:=S2.trans L;refine Y02;refine aFP O (by simp) (ma.same S3) (th.same S3) Oo rfl λH4 D=>?_;have S4:=S3.trans D;generalize hcf:(if gJ d=true then 0 else p:Int)=cf;have β:UB d p κ=(cf:Rat)*(κ:Rat):=by unfold UB;rw[hcf]
  have ρ:cf.natAbs<Y0R:=by
   rw[<-hcf];split
   ·exact Y61
   ·exact Y63 Z.pz Z.c4
  have FZ:FcZ W us κ (dF W λi=>-jJ W R d i) cf (pzY W R d us) (UB d p κ):=by
   refine⟨cQ _ _,I.ul,λi f u hf υ=>?_,β.symm,ρ,λu υ=>(I.uz u υ).2,I.cuz⟩;have η:i<W:=by have:=(aC.mp hf).1;rw[cQ]at this;exact this
   rw[LH η]at hf;cases hf;refine⟨?_,by rw[Int.natAbs_neg];exact zr i Oo⟩;unfold pzY;rw[hJ υ,Rat.intCast_neg]
  refine wW.i (wg.same S4) ((L.trans D) _ _ χ) I.wo FZ I.r4 λbt bp mz kb bs H5 ι G ep B5 hb hm=>Yt;intro S ζ;have S5:=S4.trans ι;refine Y0n G;refine Y07 (xH ((L.trans (D.trans ι)) _ _ (ω _ _ ο)) (aAh W _) ?_);refine Y5M _ _ _ ?_;by_cases hge:jJ W R d W<=mz
  ·rw[show decide (jJ W R d W<=mz)=true from cN hge];refine sD (Y2N);intro S;exact q0 H5 S5 all (by rw[<-hm];exact_mod_cast hge)
  ·rw[show decide (jJ W R d W<=mz)=false from cA hge];refine pS (Y8X G);have α:∀c∈rise F M,bs c<=W/\(bs c=0->Y1U):=λc g=>by
    rcases hb c g with⟨h1,h2,_⟩ | ⟨v,h1,h2,_⟩
    ·exact⟨Oo,λ_=>h2⟩
    ·exact⟨Oo,λz=>Oo⟩
   obtain⟨a,j⟩:∃a:Ae->Nat,a=λc=>if Y3Q c then bs c else 1:=Y37
   have ε:∀c∈rise F M,a c=bs c:=λc g=>by rw[j];exact if_pos g
   have bw:∀c∈rise F M,a c<=W:=λc g=>by rw[ε c g];exact(α c g).1
   have τ:∀c,a c=0->Y1U:=λc h=>by
    by_cases g:Y3Q c
    ·rw[ε c g]at h;exact(α c g).2 h
    ·rw[j]at h;simp only[if_neg g]at h;exact Oo
   have B6:VJ kb Y0a a:=⟨λc g=>by rw[ε c g];exact B5.1 c g,B5.2⟩;have U:=LU I.wo.f1 I.wo.f4 I.wo.m5 τ (λc g=>by rw[ε c g];exact hb c g) I.q.h0 I.q.h1;rw[<-hm]at U;refine wT.i (wg.same S5) ep B6 ⟨I.wo.f1,I.wo.f4,I.wo.m5,w4,I.r4,bw,τ,I.zc,I.zw⟩ λct D6 k ns H6 N δ φ hk γ=>Y8;refine jK δ rfl (EA (by show 1<=64;decide) λD7 H7 hD7 e7 l=>?_);refine OF (l _ _ φ) e7 (by rw[aA,cQ];show W+1<=1000;exact Oo) λD8 H8 hD8 e8 θ=>Y8;refine jK ((l.trans θ) _ _ δ) rfl (Y0n ((N.trans (l.trans θ)) _ _ G));refine sF (by show 3<=64;decide) λD9 H9 hD9 e9 s9=>sF (by show 2<=64;decide) λDa Ha hDa ea ν=>?_;have J:=s9.trans ν;have ec:(dF W ns).map V.int++[V.int 1]=(dF (W+1) λr=>if r<W then ns r else 1).map V.int:=by
    unfold dF;rw[List.range_succ,bF,bF,bA,List.map_nil,if_neg (cO _)];congr 2;exact cU λr hr=>(if_pos (bL.mp hr)).symm
   rw[ec]at e8;have pay:=aCJ (cf:=cf) (y:=jJ W R d) I.ul (by rw[U,β];rfl) hk γ Oo;refine q1 Da D8 D9 _ (Y9s "rule" k (.ref bp)) Ha ((S5.trans N).trans ((l.trans θ).trans J)) ea (J _ _ e8) (Yz D9 (ν _ _ e9)) (YeF ⟨rfl,bp,kb,a,rfl,((N.trans (l.trans θ)).trans J) _ _ ep,B6,bw,τ,hk,λv u hv=>?_,?_⟩) (by show (Str.ofString "rule")≠(Str.ofString "lack");decide) ?_
   ·have ξ:v<W:=by have:=(aC.mp hv).1;rw[I.ul]at this;exact this
    rw[if_pos ξ];exact γ v u hv
   ·rw[if_neg (cO _)]
   ·show p*(if gJ d=true then 0 else k)<_;have:p*(if gJ d=true then 0 else k)=cf*k:=by
     rw[<-hcf];split
     ·rw[Int.mul_zero,Int.zero_mul]
     ·rfl
    rw[this];exact pay
end
def uM{ts:Y0C}:Y1k=true ↔ ∃t∈ts,t.word=Str.ofString "lack" := by
 unfold gJ;rw[List.any_map];simp[List.any_eq_true]
def aBt{ts:Y0C}{t:nW}{o i:Nat}(ho:o<ts.length)(nl:YcR "lack")(e:gJ (YaF t)=Y1k):xX (YaF t) i=Md.sc (xX ts) o (if Y1k=true then 0 else t.cost) i:=by
 unfold xX Md.sc;rw[e];by_cases h:i=o
 ·subst h;rw[Ys,List.getElem?_set_self ho];cases Y1k
  ·rfl
  ·show(if Y9K "lack"=true then(1:Int) else 0)=0;rw[if_neg (by rw[cA nl];decide)]
 ·rw[Y5C,YbU (h z.symm)]
def UA{ts:Y0C}{t:nW}{o:Nat}(nl:YcR "lack")(h:gJ (YaF t)=true):Y1k=true:=by
 obtain⟨x,a,e⟩:=uM.mp h;rcases List.mem_or_eq_of_mem_set a with g | g
 ·exact uM.mpr ⟨x,g,e⟩
 ·rw[g]at e;exact absurd e nl
structure AC(F W M:Nat)(ss:Aj)(mix ps cs:Ak)(Ns Nm Np Nc B:Nat)(us:Ae)(cu X:Nat)(U e:Nat)(b:Y1):Prop where
 sl:VE F W M ss mix ps cs Ns Nm Np Nc B us cu X
 uU:∀u∈us,u<=U
 u1:1<=U
 bU:∀r,r<W+1->0<=b r/\(b r).natAbs<=U
 bW:b W=1
 Ue:U<=2^e
 sz:6*e+X+20<=4000
structure iK(H:Hp)(F W M:Nat)(ss:Aj)(mix cs:Ak)(us:Ae)(cu:Nat)(b:Y1)(B R:Md.fE)(p:Int)(ts:Y0C):Prop where
 mst:Md.Mst (W+1) b B R p
 len:ts.length=W+1
 fit:∀i t,ts[i]?=Y79->SH H F W M ss mix cs us cu (B i) t
section
variable{F W M:Nat}{ss:Aj}{mix ps cs:Ak}{Ns Nm Np Nc BB:Nat}{us:Ae}{cu X U e:Nat}{b:Y1}{H H':Hp}{B R:Md.fE}{p:Int}{ts:Y0C}
def SH.to(h:∀bp kb,H bp=Y97->H' bp=Y97){a:Y1}{t:nW}(x:SH H F W M ss mix cs us cu a t):SH H' F W M ss mix cs us cu a t:=by
 rcases x with x | x | ⟨g,bp,kb,c,d,i,e⟩
 ·exact .inl x
 ·exact YaV x
 ·exact YeF ⟨g,bp,kb,c,d,h _ _ i,e⟩
def GP{w r:Nat}:0<=Md.unit w r/\(Md.unit w r).natAbs<=1:=by unfold Md.unit;split <;> decide
def OR.any(I:VE F W M ss mix ps cs Ns Nm Np Nc BB us cu X){best:Y0z}{a:Y1}{k:Int}(h:OR F W M ss mix cs us cu best a k):oY F W M (Y1w):=QD I.wo.f1 I.wo.f4 I.wo.m5 h.on h.bw
theorem SH.col(Z:AC F W M ss mix ps cs Ns Nm Np Nc BB us cu X U e b){a:Y1}{t:nW}(h:SH H F W M ss mix cs us cu a t){r:Nat}(hr:r<W+1):0<=a r/\(a r).natAbs<=U:=by
 have u1:=Z.u1;rcases h with⟨_,_,w,s,rfl⟩ | ⟨_,_,rfl⟩ | ⟨_,z,p,d,_,_,_,R⟩
 ·have:=GP (w:=w) (r:=r);exact Oo
 ·have:=GP (w:=W) (r:=r);exact Oo
 ·by_cases e:r=W
  ·subst e;rw[R.one];exact Ya3 u1
  ·have hr:r<W:=Oo;have i:us[r]?=some (us[r]'(by rw[Z.sl.ul];exact hr)):=aB _;have c:=R.col r _ i;have l:=Z.uU _ (aF i);obtain⟨s0,y⟩:=(R.any Z.sl).said Z.sl.q hr;generalize us[r]'(by rw[Z.sl.ul];exact hr)=u at c l;have g:(0:Rat)<=(u:Rat):=by exact_mod_cast cP u
   have j:(0:Rat)<=(a r:Rat):=by rw[c];exact cI g (by grind)
   have m:(a r:Rat)<=(u:Rat):=by
    rw[c];have:=Rat.mul_le_mul_of_nonneg_left (a:=1-gM F (rul F W M d) (Y5i r) r) (b:=1) (by grind) g;grind
   have A:0<=a r:=by exact_mod_cast j
   have n:a r<=(u:Int):=by
    have:(a r:Rat)<=((u:Int):Rat):=by rw[Rat.intCast_natCast];exact m
    exact_mod_cast this
   exact Oo
theorem SH.one{a:Y1}{t:nW}(h:SH H F W M ss mix cs us cu a t):∃r,r<W+1/\0<a r:=by
 rcases h with⟨_,_,w,d,rfl⟩ | ⟨_,_,rfl⟩ | ⟨_,e,g,c,_,_,_,R⟩
 ·exact⟨w,Oo,by unfold Md.unit;rw[Ys];decide⟩
 ·exact⟨W,Oo,by unfold Md.unit;rw[Ys];decide⟩
 ·exact⟨W,Oo,by rw[R.one];decide⟩
theorem SH.cost(I:VE F W M ss mix ps cs Ns Nm Np Nc BB us cu X){a:Y1}{t:nW}(h:SH H F W M ss mix cs us cu a t):t.cost.natAbs<2^X:=by
 rcases h with⟨_,h,_⟩ | ⟨_,h,_⟩ | ⟨_,d,e,c,_,_,_,R⟩
 ·rw[h];exact Y61
 ·rw[h];exact Y61
 ·exact I.cz _ (R.any I) _ R.cost
abbrev PB(W U:Nat):Nat:=Md.fac (W+1)*U^(W+1)
abbrev RB(W U:Nat):Nat:=(W+1)*(PB W U*U)
abbrev ZB(W U X:Nat):Nat:=(W+1)*(2^X*RB W U)
def aI7{n:Nat}(h:n<=5):Md.fac n<=2^7:=by
 have:n=0\/n=1\/n=2\/n=3\/n=4\/n=5:=Oo;rcases this with rfl | rfl | rfl | rfl | rfl | rfl <;> decide
def AC.zb(Z:AC F W M ss mix ps cs Ns Nm Np Nc BB us cu X U e b):ZB W U X<Y0R:=by
 have w4:=Z.sl.wo.w4;have d:U^(W+1)<=2^(5*e):=by
  refine aK (Nat.pow_le_pow_left Z.Ue _) ?_;rw[<-Nat.pow_mul];exact Y4N (by rw[Nat.mul_comm];exact Y1z Oo)
 have c:PB W U*U<=2^7*2^(5*e)*2^e:=Nat.mul_le_mul (Nat.mul_le_mul (aI7 Oo) d) Z.Ue;have a:ZB W U X<=2^3*(2^X*(2^3*(2^7*2^(5*e)*2^e))):=Nat.mul_le_mul Oo (dI _ (Nat.mul_le_mul Oo c));refine aI a ?_;rw[<-Nat.pow_add,<-Nat.pow_add,<-Nat.pow_add,<-Nat.pow_add,<-Nat.pow_add];exact Ygd (by have:=Z.sz;exact Oo)
def aDp{W U:Nat}(u1:1<=U):PB W U<=RB W U:=aK (Ydm u1) (Y5Z Ycc)
def aHd{W U X:Nat}:2^X*RB W U<=ZB W U X:=Y5Z Ycc
def aAE{W U X:Nat}:RB W U<=ZB W U X:=aK (Y5Z Y61) aHd
def iK.at(S:iK H F W M ss mix cs us cu b B R p ts){i:Nat}(hi:i<W+1):∃t,ts[i]?=Y79/\SH H F W M ss mix cs us cu (B i) t :=
 Y0J (aB (by rw[S.len];exact hi)) (S.fit i _ (aB _))
theorem iK.size(Z:AC F W M ss mix ps cs Ns Nm Np Nc BB us cu X U e b)(S:iK H F W M ss mix cs us cu b B R p ts):p.natAbs<=PB W U/\∀i,i<W+1->∀k,k<W+1->(R i k).natAbs<=PB W U :=
 S.mst.bs.size (λj a r c=>by
  obtain⟨t,_,d⟩:=S.at a;exact(d.col Z c).2) Z.u1
theorem iK.rho(Z:AC F W M ss mix ps cs Ns Nm Np Nc BB us cu X U e b)(S:iK H F W M ss mix cs us cu b B R p ts){i k:Nat}(hi:i<W+1)(hk:k<W+2):(Y3J (W+1) k).natAbs<=RB W U:=by
 cases k with
 | zero=>exact Md.RM ((S.size Z).2 i hi) λk hk=>(Z.bU k hk).2
 | succ k=>exact aK ((S.size Z).2 i hi k Oo) (aDp Z.u1)
def iK.rt(Z:AC F W M ss mix ps cs Ns Nm Np Nc BB us cu X U e b)(S:iK H F W M ss mix cs us cu b B R p ts){i:Nat}(hi:i<W+1):(xX ts i).natAbs<=2^X:=by
 obtain⟨t,a,f⟩:=S.at hi;unfold xX;rw[a];split
 ·split
  ·exact Nat.one_le_two_pow
  ·exact Y0L
 ·exact Nat.le_of_lt (f.cost Z.sl)
theorem iK.zet(Z:AC F W M ss mix ps cs Ns Nm Np Nc BB us cu X U e b)(S:iK H F W M ss mix cs us cu b B R p ts){k:Nat}(hk:k<W+2):(Md.zet (W+1) b R (xX ts) k).natAbs<=ZB W U X:=by
 unfold Md.zet;refine Md.sL λi a=>?_;rw[dQ];exact Nat.mul_le_mul (S.rt Z a) (S.rho Z a hk)
def meas(W U X:Nat)(b:Y1)(R:Md.fE)(p:Int)(ts:Y0C):Nat:=(if Y1k=true then(2*(ZB W U X*Md.fac (PB W U))+1)^(W+2) else 0)+Md.msr (ZB W U X) (PB W U) (W+2) (Md.zet (W+1) b R (xX ts)) p
theorem iK.next(Z:AC F W M ss mix ps cs Ns Nm Np Nc BB us cu X U e b)(S:iK H F W M ss mix cs us cu b B R p ts){a:Y1}{t:nW}{o:Nat}(f:SH H F W M ss mix cs us cu a t)(nl:YcR "lack")(pay:p*(if Y1k=true then 0 else t.cost)<Md.dot (W+1) (jJ W R ts) a)(ho:o<W+1)(hs:0<Md.dot (W+1) (R o) a)(hl:Md.aAH (W+1) b R a o) :
  iK H F W M ss mix cs us cu b (Md.st B o a) (Md.xE (W+1) B R o a) (Md.dot (W+1) (R o) a) (YaF t)/\meas W U X b (Md.xE (W+1) B R o a) (Md.dot (W+1) (R o) a) (YaF t)<meas W U X b R p ts:=by
 have S':iK H F W M ss mix cs us cu b (Md.st B o a) (Md.xE (W+1) B R o a) (Md.dot (W+1) (R o) a) (YaF t):=by
  refine⟨S.mst.next ho hs hl,by rw[List.length_set];exact S.len,λi x g=>?_⟩;by_cases h:i=o
  ·subst h;rw[List.getElem?_set_self (by rw[S.len];exact ho)]at g;cases g;rw[Md.iH];exact f
  ·rw[YbU (h z.symm)]at g;rw[Md.lP h];exact S.fit i x g
 refine Y0o S';have m:=S.mst.bs.pos;have u:=(S.size Z).1;have w:=(S'.size Z).1;by_cases eb:gJ (YaF t)=Y1k
 ·unfold meas;rw[eb];refine Nat.add_lt_add_left (Md.aFi (λi d=>S.zet Z d) (λi d=>S'.zet Z d) m Oo hs Oo ?_) _;have h:=S.mst.cheaper ho (a:=a) (c:=xX ts) (x:=if Y1k=true then 0 else t.cost) (by rw[Md.aBX];exact pay);refine Md.gL (λk y=>?_) h;congr 2;unfold Md.zet;exact Md.eL λi d=>by rw[aBt (by rw[S.len];exact ho) nl eb]
 ·have j:Y1k=true:=by
   cases h:Y1k with
   | true=>rfl
   | false =>
    cases h':gJ (YaF t)with
    | true=>rw[UA nl h']at h;exact Y6Q h
    | false=>rw[h,h']at eb;exact Y8y eb
  have l:Yy (gJ (YaF t)):=by
   cases h:gJ (YaF t)with
   | true=>rw[h,j]at eb;exact Y8y eb
   | false=>rfl
  unfold meas;rw[j,l,Ys,Y2E,Nat.zero_add];refine aR (Md.YB Yb3) (Y9r _);obtain⟨q,_,n,_,r,s⟩:=Md.vO (S'.zet Z d) hs (P:=PB W U) Oo;rw[n];exact Oo
end
abbrev aDX:Stmt:=(top 75)
def UW:Yj ["weighing","bounds","ends","own","master","entering"] ["weighing","bounds"] aDX:={}
inductive rD (K:Aa) (G A:Addr):Yq
 | i {H:Hp} {Q:VK} {E:XK} {x ba:Addr} {bx:Al} {bs:Ak} {F W M:Nat} {ss:Aj} {mix ps cs:Ak} {Ns Nm Np Nc BB:Nat} {us:Ae} {cu X U e:Nat} {b:Y1} (h1:AB H x G F W M ss mix cs us cu) (h2:H ba=Yf bx) (h3:zM K H bs bx) (h4:Yd4 W) (h5:∀(i:Nat) (f:Fr) (u:Nat),bs[i]?=Y6v->Y5X=Ym->Y0m/\Y5V/\f.2.natAbs ∣ u/\(b i:Rat)=Y1O*(u:Rat)) (h6:AC F W M ss mix ps cs Ns Nm Np Nc BB us cu X U e b) (k:∀m sa B R p uv ts H',Y0->tO H' A m sa (W+1) b R p uv->kS H' uv ts->iK H' F W M ss mix cs us cu b B R p ts->(∀w,w<W->jJ W R ts w<=0)->((jJ W R ts W:Int):Rat)<=Y7V F W M (pzY W R ts us) (UB ts p cu)->Y0r m):rD K G A [Y23,.ref ba] H Q E
section
variable{F W M:Nat}{ss:Aj}{mix ps cs:Ak}{Ns Nm Np Nc BB:Nat}{us:Ae}{cu X U e:Nat}{b:Y1}{H H':Hp}{B R:Md.fE}{p:Int}{ts:Y0C}
def iK.masz(Z:AC F W M ss mix ps cs Ns Nm Np Nc BB us cu X U e b)(S:iK H F W M ss mix cs us cu b B R p ts):aAG (W+1) b R p 4000 :=
 ⟨by have:=Z.sl.wo.w4;exact Oo,λi c k a=>aI (S.rho Z c a) (aI aAE Z.zb),aI (S.size Z).1 (aI (aDp Z.u1) (aI aAE Z.zb)),Yl⟩
def iK.ratz(Z:AC F W M ss mix ps cs Ns Nm Np Nc BB us cu X U e b)(S:iK H F W M ss mix cs us cu b B R p ts){k:Nat}(hk:k<W+1):(jJ W R ts k).natAbs<Y0R:=aI (S.zet Z (k:=k+1) Oo) Z.zb
def iK.costz(Z:AC F W M ss mix ps cs Ns Nm Np Nc BB us cu X U e b)(S:iK H F W M ss mix cs us cu b B R p ts):∀t∈ts,t.cost.natAbs<Y0R:=λt a=>by
 obtain⟨i,c⟩:=List.getElem?_of_mem a;exact Y63 ((S.fit i t c).cost Z.sl) (by have:=Z.sz;exact Oo)
theorem iK.to(h:∀bp kb,H bp=Y97->H' bp=Y97)(S:iK H F W M ss mix cs us cu b B R p ts):iK H' F W M ss mix cs us cu b B R p ts:=⟨S.mst,S.len,λi t a=>(S.fit i t a).to h⟩
def YW{n:Nat}(hb:∀r,r<n->0<=b r):Md.Mst n b Md.unit Md.unit 1:=by
 refine⟨Md.aCI n,Yb3⟩;have c:Md.rho n b Md.unit i 0=b i:=by
  show Md.eC n (λk=>Md.unit i k*b k)=b i;rw[Md.jW d λk _ a=>by unfold Md.unit;rw[if_neg a,Int.zero_mul]];unfold Md.unit;rw[Ys,Int.one_mul]
 have e:=hb i d;by_cases h:b i=0
 ·refine⟨i+1,Oo,λk a=>?_,by show 0<Md.unit i i;unfold Md.unit;rw[Ys];decide⟩;cases k with
  | zero=>rw[c,h]
  | succ k=>show Md.unit i k=0;unfold Md.unit;rw[Y3s]
 ·exact⟨0,Oo,λk a=>Oo,by rw[c];exact Oo⟩
def aDs(H:Hp)(F W M:Nat)(ss:Aj)(mix cs:Ak)(us:Ae)(cu:Nat)(R:Md.fE)(p:Int)(ts:Y0C)(v:V):Prop :=
 (v=.non/\(∀w,w<W->jJ W R ts w<=0)/\((jJ W R ts W:Int):Rat)<=Y7V F W M (pzY W R ts us) (UB ts p cu)) \/
 ∃e ca ta a t,v=.ref e/\H e=Yf [.ref ca,.ref ta]/\H ca=Yc ((dF (W+1) a).map V.int)/\xU H (.ref ta) t/\SH H F W M ss mix cs us cu a t/\YcR "lack" /\ p*(if Y1k=true then 0 else t.cost)<Md.dot (W+1) (jJ W R ts) a
theorem kS.set{uv:Al}(h:kS H uv ts){u:V}{t:nW}(ht:xU H u t)(o:Nat):kS H (uv.set o u) (YaF t):=by
 refine⟨by rw[List.length_set,List.length_set];exact h.len,λi v x a c=>?_⟩;rw[List.getElem?_set]at a c;by_cases e:o=i
 ·rw[Y1i]at a c;have:=h.len;by_cases l:o<uv.length
  ·rw[if_pos l]at a;rw[Y4U]at c;cases a;cases c;exact ht
  ·rw[if_neg l]at a;cases a
 ·rw[Y0B]at a c;exact h.at_ i v x a c
def NS{H0:Hp}{x sa:Addr}(s:aT H0 H)(hx:H0 x=none)(hs:H0 sa=none)(k:aAJ x sa H H'):aT H0 H':=λa o h =>
 k a o (λz=>by rw[z,hx]at h;cases h) (λz=>by rw[z,hs]at h;cases h) (s _ _ h)
end
section
def aIb(F:Ye "settled" "settled" aDX)(T:Yk)(FQ63:Y03 "times_whole" a43 (oG K))(FQ0:FnO P w K mg base 2 c.Master a14 (wP c.Master))(FQ16:Y10 4 "better" ["weighing","master"] (qH c.Weighing c.Master))(FQ1:FnM P w K mg base 3 c.Master "enter" a15 (sP c.Master)):dW P w K mg base dD 5 f fd ["weighing","bounds"] (rD K c.Weighing c.Master):=by
 refine Y17 UW;obtain @⟨H,Q,E,x,ba,bx,bs,F,W,M,φ,C,ps,υ,Ns,Nm,Np,Nc,BB,δ,τ,X,U,e,b,wg,α,fr,lb,hb,Z,q⟩:=h;refine Yi;intro cdv A outer s γ _;have w4:=Z.sl.wo.w4;have OG:=T.w_Weighing;refine⟨_,(aH (vX (i:=2) (eG.o ["bound","unit"] ["bound","unit"] []) UW.nd rfl rfl (kZ true false rfl T.b_zip (Y2i 1 Y1S)) (YbM) (λ_ _ _ _=>(Y2k FQ63 0 1)))
  (aH (iL (i:=3) (dG.o ["bound"] []) UW.nd rfl rfl (xZ (Y0t)) YbM (λ_ _ _ _=>fD (bE (Y9L "room" T.g_ROOM) (Y2f aO nS))))
  (aH (Y4T UW.nd (JC FQ0 T.g_Master (YeU) (Y2f (cG vN (aD 2) (iM (Y1p aO))) (cG vN (aD 3) (iM (Y1p (fD (bE (Y9L "lack" T.g_LACK) (Y2f aO nS)))))))))
  (aH (Y2d 5 UW.nd FQ16 0 Y1b)
  (aH (vW PassesOwn.never (Y1I aB0 5 nS) (aH (kW (MI FQ1 T.w_Master.cls (YeU) (Y1b) (Y2f (Y0N 5) (Y0N 5))))
  (aV (Y2d 5 UW.nd FQ16 0 Y1b))))
  (Y2x 4)))))),?_⟩
 refine Yv;intro d_ n_;have wg0:=wg;obtain⟨ul,dx,fl,ra,ua,wa,ca,tas,kvs,a0,a1,a2,a3,a4,a5,a6,a7,a8,a9,a10,a11⟩:=wg0;have ζ:bx.length=W:=by rw[fr.len,lb]
 refine Y07 (Y4j OG (by simp) a0 a2);refine Y1B ba ua _ _ α a7 (kL (b1:=true) (b2:=false) (xs:=bx) (ys:=δ.map FV) (λi z _=>z=.int (b i)) (Y9a) Oo α a7 (by rw[aA,ul,ζ]) (λi y z H' Q' hy hz s' k'=>?_) (λD1 zs H1 hD1 e1 s1 hl1 hr1=>?_))
 ·obtain⟨g,hg,fg⟩:=fr.at_ i y hy;rw[aE]at hz;obtain⟨u,I,rfl⟩:=eM.mp hz;obtain⟨g1,g2,g3,g4⟩:=hb i g u hg I;refine Y02;refine oG.i (fg.same s') g1 g2 (YeH u I).2 g3 λn hn=>k' _ H' Y06 ?_;rw[<-g4]at hn;congr 1
  exact_mod_cast hn
 ·rw[lY (hl1.trans ζ) hr1]at e1;refine Yt;intro d_ n_;refine Y5 (Y2h ba (Ybl (s1 _ _ α)) (uP (xs:=bx) (λi y H'=>xU H' y (Y9s "room" 0 .non)) (λi y H1 H2 s r=>by obtain⟨a,ea,ha⟩:=r;exact Y2r ea (s _ _ ha)) Oo (s1 _ _ α) (λi y H' Q' hy s' k'=>?_) (λD2 J H2 hD2 e2 χ hl2 hr2=>?_)))
  ·exact sF (by show 3<=64;decide) λq3 H3 hq3 e3 S=>k' _ H3 S (Yz q3 e3)
  ·refine Y8;refine EA (by show 1<=64;decide) λq3 H3 hq3 e3 S=>?_;have S3:=χ.trans S;refine OF (S3 _ _ e1) e3 (by rw[aA,cQ];show W+1<=1000;exact Oo) λq4 H4 hq4 e4 s4=>Y8;refine sF (by show 3<=64;decide) λq5 H5 hq5 e5 s5=>EA (by show 1<=64;decide) λq6 H6 hq6 e6 s6=>?_;have S36:=(S.trans s4).trans (s5.trans s6);refine OF (S36 _ _ e2) e6 (by show J.length+1<=1000;exact Oo) λq7 H7 hq7 e7 s7=>?_;have S17:=(χ.trans S36).trans s7;intro m ο hm hdm ndm;have θ:aT H7 (Y8I (upd H7 ο (.own m)) m c.Master ο []):=(aT.upd hdm).trans (aT.upd (by rw[dR (Ne.symm ndm)];exact hm));have eA:(upd (upd H7 ο (.own m)) m (.ins c.Master ο [])) m=some (.ins c.Master ο []):=bH;generalize upd (upd H7 ο (.own m)) m (.ins c.Master ο [])=H8 at θ eA ⊢;have ec:(dF W b).map V.int++[V.int 1]=(dF (W+1) b).map V.int:=by
    unfold dF;rw[List.range_succ,bF,bF,bA,List.map_nil,Z.bW];rfl
   rw[ec]at e4;refine wP.i eA (((s5.trans s6).trans (s7.trans θ)) _ _ e4) (θ _ _ e7) (n:=W+1) (b:=b) (by rw[aU];show J.length+1=W+1;exact Oo) Oo λω H9 hsa b9 L=>Yi;refine Yt;intro d_ n_;have hm0:H m=none:=(s1.trans S17).free hm;have hs0:H ω=none:=((s1.trans S17).trans θ).free hsa;have S9:aT H H9:=aT.thru hm0 ((s1.trans S17).trans θ) b9;have tk:∀{a:Addr} {xs:Al},H8 a=Y16->H9 a=Y16:=λ{a xs} h=>b9.at (λz=>by rw[z,eA]at h;cases h) h;have ι:kS H9 (J++[V.ref q5]) (Yaz (Y9s "room" 0 .non)++[Y9s "lack" 0 .non]):=by
    refine⟨by rw[aU,aU,bV,hl2,ζ];rfl,λi u t I l=>?_⟩;by_cases β:i<J.length
    ·rw[cJ β]at I;rw[cJ (by rw[bV];exact Oo),List.getElem?_replicate,Y4U]at l;cases l;obtain⟨a,ea,ha⟩:=hr2 i u I;exact Y2r ea (tk ((S36.trans (s7.trans θ)) _ _ ha))
    ·rw[cB Oo]at I;rw[cB (by rw[bV];exact Oo),bV]at l;have e0:i-J.length=0:=by
      have:=(aC.mp I).1;simp at this;exact Oo
     rw[e0]at I;rw[show i-W=0 by exact Oo]at l;cases I;cases l;exact Yz q5 (tk ((s6.trans (s7.trans θ)) _ _ e5))
   have μ:iK H9 F W M φ C υ δ τ b Md.unit Md.unit 1 (Yaz (Y9s "room" 0 .non)++[Y9s "lack" 0 .non]):=by
    refine⟨YW λr γ=>(Z.bU r γ).1,by rw[aU,bV];rfl,λi t l=>?_⟩;have β:i<W+1:=by have:=(aC.mp l).1;rw[aU,bV]at this;exact this
    by_cases h:i<W
    ·rw[cJ (by rw[bV];exact h),List.getElem?_replicate,Y4W]at l;cases l;exact .inl ⟨rfl,rfl,i,h,rfl⟩
    ·have e:i=W:=Oo;subst e;rw[cB (by rw[bV];exact Oo),bV,Nat.sub_self]at l;cases l;exact YaV (Yz rfl rfl)
   have BT:∀{H':Hp} {B R:Md.fE} {p:Int} {D:Al} {d:Y0C} {Q':VK},Y0->tO H' c.Master m ω (W+1) b R p D->kS H' D d->iK H' F W M φ C υ δ τ b B R p d->(∀v H2,aT H' H2->aDs H2 F W M φ C υ δ τ R p d v->Q' v H2)->qH c.Weighing c.Master [Y23,.ref m] H' Q' E0:=λS1 m1 t1 η k1 =>
    qH.i (wg.same S1) m1 t1 Z.sl (η.masz Z) (η.costz Z) (λk hk=>η.ratz Z hk) (λH2 χ ξ ε=>k1 _ H2 χ (.inl ⟨rfl,ξ,ε⟩)) λe ca ta a t H2 χ ξ ε h3 h4 h5 h6=>k1 _ H2 χ (.inr ⟨e,ca,ta,a,t,rfl,ξ,ε,h3,h4,h5,h6⟩)
   refine Y02;refine BT S9 L ι μ λN Ha O G=>?_;have ab:∀{H1 H2:Hp},aT H1 H2->∀ν κ,H1 ν=Y0g κ->H2 ν=Y0g κ:=λs ν κ h=>s _ _ h;refine AI (λmm σ H'=>Ex6 λ(N:V) (B R:Md.fE) (p:Int) (D:Al) (d:List nW)=>An7 (σ=[Y3 x,Y3 ba,Y3 D1,Y3 D2,Y3 m,some N]) (Y0) (tO H' c.Master m ω (W+1) b R p D) (kS H' D d) (iK H' F W M φ C υ δ τ b B R p d) (aDs H' F W M φ C υ δ τ R p d N) (mm=meas W U X b R p d))
    (λσ H'=>∃(N:Am) (B R:Md.fE) (p:Int) (D:Al) (d:Y0C),σ=[Y3 x,Y3 ba,Y3 D1,Y3 D2,Y3 m,N]/\Y0/\tO H' c.Master m ω (W+1) b R p D/\kS H' D d/\iK H' F W M φ C υ δ τ b B R p d/\(∀w,w<W->jJ W R d w<=0)/\((jJ W R d W:Int):Rat)<=worz F W M φ C (pzY W R d δ) (UB d p τ) υ (Y00))
    _ ⟨N,_,_,_,_,_,rfl,S9.trans O,L.same O,ι.same O,μ.to (ab O),G,rfl⟩ ?_ ?_
   ·clear G ι μ L;rintro mm σ H1 ⟨N,B,R,p,D,d,rfl,S1,L,ψ,st,G,rfl⟩;refine Y51 _ ?_;rcases G with⟨rfl,ξ,ε⟩ | ⟨e,ca,ta,a,t,rfl,he,hca,l,hf,nl,pay⟩
    ·exact pS ⟨_,B,R,p,D,d,rfl,S1,L,ψ,st,ξ,ε⟩
    ·refine sD Yv;intro d_ n_;obtain⟨dx2,ra2,ρ,LL⟩:=L.ex;have ne:∀(r s:Addr) (z:Int),(mfs r s z).lookup ("enter" : Str)=none:=λr s z=>by unfold mfs;rw[fC,Y2E,fC,Y2E,fC,Y2E];rfl
     refine⟨_,rfl,m,dx2,_,rfl,ρ,ne ..,_,rfl,Y8f he⟩;refine Y0n he;obtain⟨r,γ,pr⟩:=hf.one;have aa:∀i,i<W+1->(a i).natAbs<=U:=λi β=>(hf.col Z β).2;have U4:U<Y0R:=aI Z.Ue (Ygd (by have:=Z.sz;exact Oo));refine sP.i (a:=a) L hca (st.masz Z) st.mst st.mst.bs.pos (λi β=>aI (aa i β) U4) (λi β=>aI (Md.RM ((st.size Z).2 i β) aa) (aI aAE Z.zb)) (st.mst.bs.some (λj hj r γ=>by
      obtain⟨t',_,f'⟩:=st.at hj;exact(f'.col Z γ).1) γ pr) λo H2 ho hs hl k2 ma2=>?_
     have kt:∀{u:V} {t:nW},xU H1 u t->xU H2 u t:=λh=>h.keep2 k2 ρ L.st;have kd:∀ν κ,H1 ν=Y0g κ->H2 ν=Y0g κ:=λν κ h=>k2 _ _ (λz=>by rw[z,ρ]at h;cases h) (λz=>by rw[z,L.st]at h;cases h) h;obtain⟨st2,lt2⟩:=st.next Z hf nl pay ho hs hl;have S2:=NS S1 hm0 hs0 k2;have th2:kS H2 (D.set o (.ref ta)) (d.set o t):=(show kS H2 D d from⟨ψ.len,λi u t I l=>kt (ψ.at_ i u t I l)⟩).set (kt l) o;refine Y02;exact BT S2 ma2 th2 (st2.to kd) λN H3 S G=>⟨_,lt2,N,_,_,_,_,_,rfl,S2.trans S,ma2.same S,th2.same S,(st2.to kd).to (ab S),G,rfl⟩
   ·rintro σ H1 ⟨N,B,R,p,D,d,rfl,S1,L,ψ,st,ξ,ε⟩;exact Y5 (q m ω B R p D d H1 S1 L ψ st ξ ε)
end
abbrev aDZ:Stmt:=(top 43)
def aJi:Yj a42 a42 aDZ:={}
abbrev aED:Stmt:=(top 45)
def VA:Yj ["rule","amount_of","counts","says","onward","more"] a42 aED:={}
structure MG(n:Nat)(fs:Ak):Prop where
 len:Y6P n
 at_:∀f∈fs,Y0m/\0<=f.1/\vU 3000 f
 one:rC (YcV)=1
structure oZ(F W M N B Ns:Nat)(es:Yg):Prop where
 rl:Y1D
 sum:∀e∈es,e.1.sum<=M
 sy:∀e∈es,MG (1+W) e.2
 few:es.length<=64
 on:∀e∈es,Y4B->e.1.sum<M
 fl:∀e∈es,Y2a (Y4 e.1)
 fs:∀e∈es,∀v,Y2a (Y4 e.1*cT e.2 v)
 n0:0<N
 s1:0<Ns
 z:N*Ns^M<2^1800
 b:B<=2^100
 m:M<=6
def MG.hd{n:Nat}{fs:Ak}(h:MG (1+n) fs):∃f r,fs=f::r/\Y0m/\vU 3000 f/\0<=f.1/\cT fs 0=Y1O/\(0<f.1↔cT fs 0≠0):=by
 cases fs with
 | nil=>have:=h.len;simp at this;exact Oo
 | cons f r =>
  obtain⟨a,g,c⟩:=h.at_ f (aY ..);refine⟨f,r,rfl,a,c,g,rfl,?_⟩;have e:cT (f::r) 0=Y1O:=rfl;rw[e];constructor
  ·intro d q;have:=iT a TX (by rw[q,oC]);rw[this]at d;exact Y6Q d
  ·intro q;refine cF λz=>q ?_;have j:f.1=0:=Oo;have i:=sV a.pos;rw[j]at i;have l:=nM a.pos;have:Y1O=0:=by grind
   exact this
def MG.nn{n:Nat}{fs:Ak}(h:MG n fs)(v:Nat):0<=cT fs v:=by
 by_cases hv:Y8G v
 ·have:=h.at_ _ (eE (a:=(0,1)) hv);exact XS this.1 this.2.1
 ·rw[tU Oo];exact Rat.le_refl
def MG.rest{n:Nat}{fs:Ak}(h:MG (1+n) fs):bZ n (λv=>Y0E fs)=1-cT fs 0:=by
 have a:=h.one;rw[tY,h.len]at a;have:∀n,bZ (1+n) (cT fs)=cT fs 0+bZ n (λv=>Y0E fs):=by
  intro n
  induction n with
  | zero=>rw[show 1+0=0+1 from rfl,eO,gT,gT];grind
  | succ n ih=>rw[show 1+(n+1)=(1+n)+1 by exact Oo,eO,ih,eO];grind
 rw[this]at a;grind
structure DQ(K:Aa)(H:Hp)(kvs:Yr)(g:Y0y):Prop where
 at_:∀d:Ae,(Y2y d=none/\g d=0)\/∃v,Y2y d=Yw/\BH K H (fZ (g d)) v
def KP:fZ 0=(0,1):=iT (Y01) TX (by rw[dP,oC])
def RE:fZ 1=(1,1):=iT (Y01) ZE (by rw[dP,BY])
theorem DQ.t{K:Aa}{H H':Hp}{kvs:Yr}{g:Y0y}(s:Y2B)(h:DQ K H kvs g):DQ K H' kvs g:=⟨λd=>by
 rcases h.at_ d with h | ⟨v,c,a⟩
 ·exact .inl h
 ·exact .inr ⟨v,c,a.t s⟩⟩
def DQ.eq{K:Aa}{H:Hp}{kvs:Yr}{g g':Y0y}(h:DQ K H kvs g)(e:∀d,g' d=g d):DQ K H kvs g':=by
 have:g'=g:=funext e;rw[this];exact h
def DQ.get{K:Aa}{H:Hp}{kvs:Yr}{g:Y0y}(h:DQ K H kvs g)(d:Ae){z:V}(hz:kU K H (0,1) z):kU K H (fZ (g d)) ((fX kvs (kT (ci d))).getD z):=by
 rcases h.at_ d with⟨c,a⟩ | ⟨v,c,a⟩
 ·rw[c,a,KP];exact hz
 ·rw[c];exact a.v
def DQ.val{K:Aa}{H:Hp}{kvs:Yr}{g:Y0y}(h:DQ K H kvs g){d:Ae}(hd:g d≠0):∃v,Y2y d=Yw/\BH K H (fZ (g d)) v:=by
 rcases h.at_ d with⟨_,a⟩ | h
 ·exact absurd a hd
 ·exact h
def DQ.put{K:Aa}{H:Hp}{kvs:Yr}{g:Y0y}(h:DQ K H kvs g){c:Ae}{v:V}{y:Rat}(r:BH K H (fZ (g c+y)) v):DQ K H (Y8F c v) λd=>g d+if c=d then y else 0:=⟨λd=>by
 rw[iC];by_cases e:c=d
 ·subst e;rw[Ys,Ys];exact .inr (Yz v r)
 ·rw[Y31 (e (Y36 q).symm),Y0B,show g d+0=g d by grind];exact h.at_ d⟩
def kM{N C:Nat}{q:Rat}(h:Qn N C q)(h0:0<N)(hN:N<2^2500)(hC:C<=2^200):Y4P (fZ q):=mV h.fq h0 (Y7J hN) (Y59 hC)
def vU.up{j k:Nat}{f:Fr}(h:vU j f)(hk:j<=k):vU k f:=⟨Y63 h.1 hk,Y63 h.2 hk⟩
section
variable{F W M N B Ns:Nat}{es:Yg}{s:Ak}
def oZ.nz(R:Y1M):N<2^2500:=by
 have c:0<Ns^M:=Nat.pow_pos R.s1;have a:N*1<=N*Ns^M:=dI _ c;rw[Nat.mul_one]at a;exact Y7R a R.z
def oZ.pz(R:Y1M):0<N*Ns^M/\N*Ns^M<2^2500:=⟨YdU R.n0 R.s1,Y7J R.z⟩
def oZ.b2(R:Y1M):B<=2^200:=Y59 R.b
theorem oZ.part(R:Y1M)(f4:F<=4):∀i,Ybb i->∀d,Qn N (1+4*B*i) (Y4b F i d)
 | 0,_,d=>by
  rw[List.take_zero,lG,Nat.mul_zero,Nat.add_zero];split
  ·exact Qn.one' _
  ·exact Qn.zero _ _
 | i+1,hi,d=>by
  have he:=aB (show i<es.length by exact Oo);rw[hZ he,gK,R.rl.at he];have a:=aF he;have e:=R.part f4 i Oo d;have g:Qn 1 4 (gX F es[i].1 d):=by
   have:=Qn.sumR (N:=1) (B:=1) (n:=F) (f:=λf=>if bS es[i].1 f=d then 1 else 0) λf _=>by
    split
    ·exact Qn.one' _
    ·exact Qn.zero _ _
   exact this.le Oo
  have c:=(show Qn N B (aX F es es[i].1*s0 es[i])from R.fs _ a 0).mul g;rw[Nat.mul_one]at c;refine(e.add c).le ?_;rw[Nat.mul_add,Nat.mul_one,Nat.mul_comm B 4];exact Oo
def oZ.bg(R:Y1M){i:Nat}(hi:i<=64):1+4*B*i+B*4<=2^200:=by
 have c:=Nat.mul_le_mul (dI 4 R.b) hi;have a:=bJ 4 R.b;exact Oo
end
inductive jP (K:Aa):Yq
 | i {H:Hp} {Q:VK} {E:XK} {x:V} {e:cZ} {es:Yg} (h1:MB K H (e::es) x) (k:Y1T (e.1.length:Nat)):jP K [x] H Q E
inductive mP (K:Aa):Yq
 | i {H:Hp} {Q:VK} {E:XK} {x:V} {es:Yg} {F W M N B Ns:Nat} (h1:MB K H es x) (h2:Y1M) (h3:1<=F) (h4:F<=4) (k:∀a ys H',Y0->H' a=Y7f->Y2w es.length->(∀(i:Nat) (e:cZ),es[i]?=Y7b->∃b cu va,Y1o=Y3 b/\Y1N=Yf [.ref cu,va]/\H' cu=Yf (e.1.map FV)/\BH K H' (fZ (Y4 e.1)) va)->Y0r a):mP K [x] H Q E
section
def aIe(F:Ye "rule_faces" "rule_faces" aDZ)(T:Yk):dW P w K mg base dD 1 f fd a42 (jP K):=by
 refine F.oky aJi λG H Q E h=>?_;obtain @⟨H,Q,E,x,e,J,y,k⟩:=h;refine Yi;intro p A l s I _;obtain⟨a,n,rfl,r,D,i⟩:=y;have d:n[0]?=some (n[0]'(by rw[D];exact Ycc)):=aB _;obtain⟨B,g,b,L,z,u,C,m,_⟩:=i 0 _ d;cases(show e=B by simpa using g);rw[u]at d;refine Y6S (jE nV (by rfl) T.b_len Kk (Y1p (Y3g Y1C aO))) (Y5 (jK r (Y6b d) ?_));refine jK C rfl (rlT m ?_);rw[aA];exact k
def aIT(F:Ye "amounts" "amounts" aED)(T:Yk)(FQ42:Y03 "noughts" ["faces"] mM)(FQ55:Y03 "rule_faces" a42 (jP K))
  (FQ40:Y03 "looks_on" ["says"] (lD K)) (FQ62:Y6Y 2 "times" K) (FQ45:Y3j "ones_more" a34 fY) (FQ50:Y6c 2 "plus" (kF K)):dW P w K mg base dD 3 f fd a42 (mP K):=by
 refine Y17 VA;obtain @⟨H,Q,E,x,es,F,W,M,N,B,Ns,rx,RO,f1,f4,k⟩:=h;refine Yi;intro cdv A outer s ξ _;obtain⟨a,xs,rfl,ha,lx,ψ⟩:=id rx;have RL:=RO.rl;have few:=RO.few;obtain⟨e0,er,ees,ez0⟩:=RL.root;refine⟨_,(aH (Y3x 1 VA.nd (JD ξ.u1 (gA FQ42 (Y0D FQ55 0)) (YbN YcH T.g_ONE rfl)))
  (aH (gH PassesOwn.never rfl (xZ (Y04)) (mJ rfl (eK (Y9h 2 VA.nd) (eK (Y9h 3 VA.nd) kD))) (aV (iR (sH (Y0D FQ40 3)) (aH (Y4T VA.nd (Y93 (Y7S ξ.u1 Y0c) (Y0N 3)))
  (aV (Y7M (dJ (Y0D FQ45 2)) 5 VA.nd (iY ξ.u1 Y0t (aD 5) (cR FQ50 (GN ξ.u1 (Y0t) (aD 5) (Yeq YaH rfl)) (Y1b)))))) fR)))
  (Y0Z (Y6s (by rfl) ["entry","amount_of"] [1] (xZ (Y04)) (Y35 (Y5c 0) (Y7S ξ.u1 (Y5c 0))))))),?_⟩
 refine Yv;intro d_ n_;intro p hp;have R:=Y6H [] hp;have Z:(upd H p (.dT [])) p=Y0g []:=bH;generalize upd H p (.dT [])=H0 at R Z;refine Y5 (jP.i (e:=e0) (es:=er) (by rw[<-ees];exact rx.t R.t) ?_);rw[ez0,bV];refine mM.i (F:=F) Oo λv1 H1 s1 r1=>?_;obtain⟨cz,rfl,τ⟩:=hV r1;refine aGx (c:=ci (Y00)) (by rw[fM];exact τ) (s1 _ _ Z) λH2 e2 b2=>Yt;intro d_ n_;have S2:aT H H2:=aT.thru hp (R.trans s1) b2;have D2:DQ K H2 [(Y2c Y00,V.ref c.ONE)] (aX F (es.take 0)):=⟨λd=>by
  rw[List.take_zero,lG];by_cases q:d=Y00
  ·subst q;rw[Ys];exact .inr (Y0J (by simp[fX]) (.inr (Yz c.ONE (by rw[RE];exact T.o_ONE))))
  ·rw[Y2F];refine .inl (Y5l ?_);have:¬Y2c d=Y2c Y00:=λz=>q (Y36 z);have e:=iC (κ:=Y4l) [] (Y2c Y00) (Y2c d) (V.ref c.ONE);rw[if_neg this]at e;exact e⟩
 clear b2 R Z r1 τ s1;refine Y6e _ rfl a (Ybl (S2 _ _ ha)) (RF (xs:=xs) (λi σ H'=>Ex5 λ(o2 o3 o4 χ:Am) (g:List (List fJ × V))=>An5 (σ=[Y3X,Y3c,o2,o3,o4,χ]) (Y0) (H' p=Y0g g) (g.length<=1+4*i) (DQ K H' g (aX F (es.take i)))) ⟨_,_,_,_,_,rfl,S2,e2,by simp,D2⟩ (Y8j) ?_ ?_)
 ·obtain⟨_,_,_,_,_,_,ι,_⟩:=q;exact jC.of (ι _ _ ha)
 ·rintro i x σ H3 hx ⟨o2,o3,o4,χ,g,rfl,S3,γ,l3,D3⟩;obtain⟨e,U,re⟩:=ψ i x hx;have hi:i<es.length:=(aC.mp U).1;have r:=aF U;have hel:=RL.len e r;have β:=RL.at U;have fpos:=RL.posf r;obtain⟨f0,fr,ef,l0,z0,nn0,v0,μ⟩:=(RO.sy e r).hd;have es0:Y2=rv f0:=v0;obtain⟨b,u,z,rfl,hb,C,rz⟩:=re.t S3.t;refine⟨b,[.ref u,z],rfl,jC.of hb,rfl,.ref u,[z],rfl,z,[],rfl,rfl,Y2N⟩;intro d_;refine Y5 (lD.i (f:=f0) (fs:=fr) (by rw[<-ef];exact rz) ?_);refine Y5 (yR (Ybf) (Ybf))
  ·have sne:Y4B:=μ.mp on;refine Yv;intro d_ n_;obtain⟨I,α,J⟩:=D3.val (d:=e.1) (by rw[β];grind);rw[β]at J;refine Y07 (Y5y γ e.1 (by rw[fM];exact C) α ?_);obtain⟨av,vs,rfl,hav,ρ⟩:=rz;rw[ef]at ρ;obtain⟨y0,hy0,ry0⟩:=ρ.get (i:=0) rfl;refine Y5 (jK hav (Y6b hy0) ?_);refine eN.i J.v ry0.v (Y01) l0 (Yag (RO.fl e r) RO.n0 RO.nz) (z0.up Dd) λq4 H4 hq4 e4 ζ=>?_;have υ:nU (fZ (Y4 e.1)) f0=fZ (Y4 e.1*Y2):=Ybt l0 (by rw[lT (Y01).pos l0.pos,dP,dP,es0]);rw[υ]at e4;have qy:Y2a (Y4 e.1*Y2):=RO.fs e r 0;refine Y8;refine fY.i (vT (ζ _ _ C)) Oo λL G H5 hL e5 θ X=>?_;have S5:=(S3.trans ζ).trans X;have ly:G.length=F:=by rw[θ.len,aA,aA,aQ,hel]
   have ν:dA H5 (iG (fZ (Y4 e.1*Y2))) (.ref q4):=gF (X _ _ e4);have φ:H5 p=Y0g g:=X _ _ (ζ _ _ γ);have nLp:L≠p:=λz=>by rw[z,ζ _ _ γ]at hL;cases hL
   refine Y1E L e5 ?_;refine kR (xs:=G) (λj σ H'=>Ex2 λ(χ:Am) (g:List (List fJ × V))=>An5 (σ=[Y3X,Y3c,Y3 u,Y3 av,Y3 q4,χ]) (aW p H5 H') (H' p=Y0g g) (g.length<=1+4*i+j) (DQ K H' g λd=>Y4b F i d+Y4 e.1*Y2*Yao j (if Y19 e.1=d then 1 else 0)))
    ⟨_,g,rfl,(Y06).but,φ,Oo,(D3.t (ζ.trans X).t).eq λd=>by rw[gT];grind⟩ (YfA) ?_ ?_
   ·obtain⟨_,_,_,b',_⟩:=q;exact Yet nLp e5
   ·rintro j y σ H6 ε ⟨o5',O,rfl,b6,η,l6,D6⟩;refine Y5A;intro d_;have hj:j<F:=by rw[<-ly];exact(aC.mp ε).1
    obtain⟨m,hm,rm⟩:=fO θ ε;have υ:m=bS e.1 j:=by
     rw[aE,aZ Oo]at hm;simpa using hm.symm
    have msum:m.sum=e.1.sum+1:=by rw[υ];exact gR Oo
    have mks:Y4e m (·.1):=by rw[υ];exact RL.fwd e r sne j hj
    obtain⟨cm,rfl,hcm⟩:=hV rm;have t6:fG H5 H6:=aW.tT b6 φ;have S:=t6 _ _ hcm;have hnz:kU K H6 (0,1) (YaH):=Yz c.NOUGHT (wI T.o_NOUGHT);have hg:=D6.get m hnz;have qX:Qn N (1+4*B*i+B*4) (Y4b F i m+Y4 e.1*Y2*Yao j (if Y19 e.1=m then 1 else 0)):=by
     have ω:Qn 1 4 (Yao j (if Y19 e.1=m then 1 else 0)):=by
      have:=Qn.sumR (N:=1) (B:=1) (n:=j) (f:=λf=>if Y19 e.1=m then 1 else 0) λf _=>by
       split
       ·exact Qn.one' _
       ·exact Y7I _
      exact this.le Oo
     have δ:=qy.mul ω;rw[Nat.mul_one]at δ;exact(RO.part f4 i Oo m).add δ
    generalize hX:aX F (es.take i) m+aX F es e.1*s0 e*(bZ j λf=>if bS e.1 f=m then 1 else 0)=Xm at qX hg;refine⟨_,rfl,p,rfl,Y2G O (.inl η),_,rfl,_,oE.ct (c:=ci m) η (by rw[fM];exact S),Y8⟩;refine kF.i hg (kU.of (ν.flat t6 (dX _))) (Y01) (Y01) (kM qX RO.n0 RO.nz (RO.bg Oo)) (Yag qy RO.n0 RO.nz) λq7 H7 hq7 e7 s7=>?_;have ea:qR (fZ Xm) (fZ (Y4 e.1*Y2))=fZ (Xm+Y4 e.1*Y2):=iT (xT (Y01) (Y01)) Y01 (by rw[vM (Y01).pos (Y01).pos,dP,dP,dP]);rw[ea]at e7;refine Y02;have ο:=s7 _ _ η;refine Y5x ο m (by rw[fM];exact s7 _ _ S) Oo (λH8 e8 b8=>?_);have t8:fG H7 H8:=aW.tT b8 ο;refine⟨_,_,rfl,(b6.trans s7.but).trans b8,e8,?_,?_⟩
    ·have:=Y6n O m (V.ref q7);exact Oo
    ·have D7:=D6.t s7.t;have D8:=(D7.put (c:=m) (v:=.ref q7) (y:=aX F es e.1*s0 e) (by rw[hX];exact .inl (gF e7))).t t8;refine D8.eq Y6U;rw[eO,<-υ];by_cases q:m=d
     ·rw[Y5B,Y5B];grind
     ·rw[Y2F,Y2F];grind
   ·rintro σ H6 ⟨o5',O,rfl,b6,η,l6,D6⟩;rw[ly]at l6 D6;refine⟨_,_,_,_,O,rfl,aT.thru hp S5 b6,η,Oo,D6.eq Y6U⟩;rw[hZ U,gK,β];rfl
  ·have z0:Y2=0:=Y72 (on (μ.mpr q));refine⟨_,_,_,_,g,rfl,S3,γ,Oo,D3.eq Y6U⟩;rw[hZ U,gK,z0];grind
 ·rintro σ H3 ⟨o2,o3,o4,χ,g,rfl,S3,γ,l3,D3⟩;rw[lx,dY]at D3;refine Y6e _ rfl a (Ybl (S3 _ _ ha)) (uP (λi y H'=>∃(e:cZ) (b u:Addr) (I:V),es[i]?=Y7b/\y=Y0e/\Y1N=Yf [.ref u,I]/\H' u=Yf (e.1.map FV)/\BH K H' (fZ (Y4 e.1)) I) (λi y H1 H2 s ⟨e,b,u,I,h1,h2,ω,h5,δ⟩=>⟨e,b,u,I,h1,h2,s _ _ ω,s _ _ h5,δ.t s⟩) Oo (S3 _ _ ha) (λi x H' Q' hx ι k'=>?_) (λD G H8 hD hD8 s8 hy8 hr8=>?_))
  ·obtain⟨e,U,re⟩:=ψ i x hx;have r:=aF U;obtain⟨b,u,z,rfl,hb,C,rz⟩:=re.t (S3.trans ι).t;obtain⟨I,α,J⟩:=D3.val (d:=e.1) (by have:=RL.posf r;grind);refine Y0n hb;refine Y8X hb;refine Y5y (ι _ _ γ) e.1 (by rw[fM];exact C) α (sF (by show 2<=64;decide) λq5 H5 hq5 e5 X=>?_);exact k' _ H5 X ⟨e,q5,u,I,U,rfl,e5,X _ _ C,(J.same ι).same X⟩
  ·refine Y5m D G (Y7o hD8);have sl:=Y7n G;have el:(upd H8 l (.tup G)) l=Yf G:=bH;generalize upd H8 l (.tup G)=H9 at sl el;refine k l G H9 ((S3.trans s8).trans sl) el Oo λi e hi=>?_;obtain⟨y,ε⟩:∃y,G[i]?=Y0b:=Y56 (by have:=(aC.mp hi).1;exact Oo);obtain⟨e',b,u,I,h1,rfl,ω,h5,δ⟩:=hr8 i y ε;rw[hi]at h1;cases h1;exact⟨b,u,I,ε,sl _ _ ω,sl _ _ h5,δ.same sl⟩
end
abbrev aEz:Stmt:=(top 51)
def aCF:Yj ["trial","rule","way","found","entry","amount"] a08 aEz:={}
abbrev aD8:Stmt:=(top 52)
def aG7:Yj ["trial","rule","way","came"] a08 aD8:={}
abbrev aDW:Stmt:=(top 53)
def aJg:Yj a17 a17 aDW:={}
def aqF(F:Nat)(es:Yg)(s:Ak)(e:cZ):Fr:=fZ (Y4 e.1*wq s e.1)
def came(F:Nat)(es:Yg)(s:Ak):Y3l cZ Fr:=es.map λe=>(e,aqF F es s e)
def VO(K:Aa)(H:Hp)(x:cZ × Fr)(v:V):Prop:=∃b cu z y,v=Y0e/\H b=Yf [.ref cu,z,y]/\H cu=Yf (x.1.1.map FV)/\MA K H x.1.2 z/\Y2W x.2 y
theorem VO.t{K:Aa}{H H':Hp}{x:cZ × Fr}{v:V}(s:Y2B)(h:VO K H x v):VO K H' x v:=by
 obtain⟨b,g,z,y,d,a,e,c,i⟩:=h;exact⟨b,g,z,y,d,s _ _ a,s _ _ e,c.t s,i.flat s (dX _)⟩
def aG4{K:Aa}{H H':Hp}(s:Y2B){l:Y3l cZ Fr}{zs:Al}(h:Yba K H l zs):Yba K H' l zs:=Paired.imp' (λ_ _ h=>h.t s) h
theorem LJ{K:Aa}{H:Hp}:∀{l:Y3l cZ Fr}{zs:Al}{x:cZ × Fr}{v:V},Yba K H l zs->VO K H x v->Yba K H (l++[x]) (zs++[v])
 | _,_,_,_,.nil,h=>.cons h .nil
 | _,_,_,_,.cons r t,h=>.cons r (LJ t h)
section
variable{F W M N B Ns:Nat}{es:Yg}{s:Ak}
def oZ.aq(R:Y1M)(hs:∀f∈s,Y13 Ns 1){e:cZ}(h:e∈es):Qn (N*Ns^M) B (Y4 e.1*wq s e.1):=by
 have:=(R.fl e h).mul (PD (M:=M) hs (R.sum e h))
 rwa [Nat.mul_one]at this
def oZ.aqs(R:Y1M)(hs:∀f∈s,Y13 Ns 1){e:cZ}(h:e∈es)(v:Nat):Qn (N*Ns^M) B (Y4 e.1*wq s e.1*cT e.2 v):=by
 have:=(R.fs e h v).mul (PD (M:=M) hs (R.sum e h));rw[Nat.mul_one]at this;rw[show aX F es e.1*wq s e.1*cT e.2 v=aX F es e.1*cT e.2 v*wq s e.1 by grind];exact this
def oZ.wn(R:Y1M):Ns^M<2^2500:=by
 have a:1*Ns^M<=N*Ns^M:=Y1z R.n0;rw[Nat.one_mul]at a;exact aI a R.pz.2
end
theorem Qn.sumL{α:Type}{N B:Nat}{f:Y3a}:∀{l:Yu},(∀a∈l,Y2a (f a))->Qn N (l.length*B) Y46
 | [],_=>by rw[jH];exact Qn.zero _ _
 | a::l,h=>by
  rw[dE,cD,Nat.add_mul,Nat.one_mul,Nat.add_comm];exact(h a (aY ..)).add (Qn.sumL λx hx=>h x (bG _ hx))
theorem zO{α:Type}{p:Y1V α}{f:Y3a}:∀{l:Yu},(∀a∈l,Yy (p a)->f a=0)->cW (l.filter p) f=Y46
 | [],_=>rfl
 | a::l,h=>by
  have ih:=zO λx c=>h x (bG a c);cases q:p a with
  | true=>rw[List.filter_cons_of_pos q,dE,dE,ih]
  | false=>rw[List.filter_cons_of_neg (by rw[q];decide),dE,ih,h a (aY ..) q];grind
def WL{α:Type}{l:Yu}{g:α->Fr}{f:Y3a}(h:∀a∈l,eV (g a)/\rv (g a)=f a):rA (l.map g)=fZ (Y46):=by
 have d:∀x∈l.map g,eV x:=λx e=>by
  obtain⟨a,c,rfl⟩:=aN.mp e;exact(h a c).1
 refine iT (BP _ d) Y01 ?_;rw[XO _ d,dP,List.map_map];exact YaP rC (λa c=>(h a c).2)
def aFh(x y:Rat):nU (fZ x) (fZ y)=fZ (x*y):=Ybt Y01 (by rw[lT (Y01).pos (Y01).pos,dP,dP,dP])
def aAA(x y:Rat):qR (fZ x) (fZ y)=fZ (x+y):=iT (xT (Y01) (Y01)) Y01 (by rw[vM (Y01).pos (Y01).pos,dP,dP,dP])
def aDF(x y:Rat):qR (fZ x) (yM (fZ y))=fZ (x-y):=iT (xT (Y01) (xG (Y01))) (Y01) (by
 rw[vM (Y01).pos (xG (Y01)).pos,show yM (fZ y)=(-(fZ y).1,(fZ y).2)from rfl,NB,dP,dP,dP,Rat.sub_eq_add_neg])
inductive rF (K:Aa):Yq
 | i {H:Hp} {Q:VK} {E:XK} {t r:V} {es:Yg} {F W M N B Ns:Nat} {fs:Ah} {ws:Y0l} {i:Nat} {x:Str × Ak} (h1:Y3f t) (h2:MB K H es r) (h3:Y1M) (h4:1<=F) (h5:F<=4) (h7:ws[i]?=Y7) (h8:∀f∈x.2,Y13 Ns 1) (h9:Y7l x.2) (k:Y3v (H D=none) (Y0F=Y0w->Yba K H' (came F es x.2) ys->Y0->Y18)):rF K [t,r,.int (i:Int)] H Q E
abbrev onE(e:cZ):Bool:=decide (Y4B)
abbrev onD(x:Nat × Fr):PyData:=.tuple [.int (x.1:Int),iG x.2]
def onw(F:Nat)(es:Yg)(s:Ak):Y3l Nat Fr:=(es.filter onE).map λe=>(e.1.sum,fZ (Y4 e.1*wq s e.1*Y2))
inductive rE (K:Aa):Yq
 | i {H:Hp} {Q:VK} {E:XK} {t r:V} {es:Yg} {F W M N B Ns:Nat} {fs:Ah} {ws:Y0l} {i:Nat} {x:Str × Ak} (h1:Y3f t) (h2:MB K H es r) (h3:Y1M) (h4:1<=F) (h5:F<=4) (h7:ws[i]?=Y7) (h8:∀f∈x.2,Y13 Ns 1) (h9:Y7l x.2) (k:Y3v (H D=none) (Y0F=Y0w->bD H' ((onw F es x.2).map onD) ys->Y0->Y18)):rE K [t,r,.int (i:Int)] H Q E
structure CoC(Nc:Nat)(es:Yg)(cs:Ak):Prop where
 c0:0<Nc
 c1:Nc<=1000000000000000
 at_:∀f∈cs,Y13 Nc 1000
 len:∀e∈es,Y4B->e.1.sum<cs.length
def CoC.qn{Nc:Nat}{es:Yg}{cs:Ak}(h:CoC Nc es cs){e:cZ}(he:e∈es)(hs:Y4B):Qn Nc 1000 (cT cs e.1.sum):=(h.at_ _ (eE (a:=(0,1)) (h.len e he hs))).q
inductive wM (K:Aa):Yq
 | i {H:Hp} {Q:VK} {E:XK} {t r cv:V} {es:Yg} {F W M Nc N B Ns:Nat} {fs:Ah} {ws:Y0l} {i:Nat} {x:Str × Ak} {cs:Ak} (h1:Y3f t) (h2:MB K H es r) (h3:Y1M) (h4:1<=F) (h5:F<=4) (h7:ws[i]?=Y7) (h8:∀f∈x.2,Y13 Ns 1) (h9:Y7l x.2) (h10:MA K H cs cv) (h11:CoC Nc es cs) (k:∀v H',Y0->Y7T (gE F es (wq x.2) (cT cs)) v->Y1W):wM K [t,r,.int (i:Int),cv] H Q E
section
def aIP(F:Ye "comings" "comings" aEz)(T:Yk)(FQ14:Y3k "amounts" a42 (mP K))(FQ62:Y6Y 2 "times" K)(FQ67:Y3k "weight" a04 (jN K)):dW P w K mg base dD 4 f fd a08 (rF K):=by
 refine Y17 aCF;obtain @⟨H,Q,E,t,r,l,F,W,M,N,B,Ns,fs,ws,iw,x,rt,ω,RO,f1,f4,hx,O,γ,k⟩:=h;refine Yi;intro cdv A ν s hr _;obtain⟨a,xs,rfl,α,lx,υ⟩:=id ω;have few:=RO.few;refine⟨_,(aH (Y1r aCF.nd (iM aS))
  (aH (Y6d (kZ true true rfl T.b_zip (Y2i 1 (Y0D FQ14 1))) (mJ rfl (eK (Y9h 4 aCF.nd) (eK (Y9h 5 aCF.nd) kD))) (kW (rZ PySem.F.plainAttrs_list PySem.F.slot_list_append PySem.F.type_list_append sY Y0X (Y1p (fD (bE (Y0N 4) (Y2f (Y0N 4) (Y93 (Y0N 5) (Y38 FQ67 Y04 2 (Y0N 4))))))))))
  (Y2x 3))),?_⟩
 refine Yv;intro d_ n_;refine EA (by show 0<=64;decide) λL H1 ε η s1=>Y02;refine mP.i (ω.t s1.t) RO f1 f4 λam ys H2 p Z ly k2=>Y1B a am xs ys (p _ _ (s1 _ _ α)) Z ?_;refine Ydq xs ys (∃(ο τ:Am) (j:Al),σ=[Y79,Y3X,Yb (iw:Int),Y3 L,ο,τ]/\aW L H2 H'/\H' L=Yc j/\Yba K H' ((came F l x.2).take i) j) (Y3p _ _ [] ((Y06).but) (p _ _ η) .nil) (λi σ H' ⟨_,_,_,_,ψ,_⟩=>?_) ?_ ?_
 ·have na:a≠L:=λz=>by rw[z,ε]at α;cases α
  have ρ:am≠L:=λz=>by rw[z,p _ _ η]at Z;cases Z
  exact⟨ψ.at na (p _ _ (s1 _ _ α)),ψ.at ρ Z⟩
 ·rintro i y z q3 σ H3 H4 hy θ ⟨ο,τ,j,rfl,U,κ,D⟩ hq3 e4 X;obtain⟨e,μ,re⟩:=υ i y hy;have C:=aF μ;have ξ:=U.t (p _ _ η);have n:=ξ.trans X.t;have S:=(s1.trans p).t.trans n;obtain⟨b,cu,v,rfl,ζ,J,φ⟩:=re.t S;have ru:Y52 H4 e.1 (.ref cu):=vT J;obtain⟨bz,cz,va,I,R,_,δ⟩:=k2 i e μ;rw[θ]at I;cases I;have u:H4 L=Yc j:=X _ _ κ;have lz:j.length<=64:=by
   rw[<-D.length,gG];unfold came;rw[aA];exact Oo
  refine⟨q3,_,rfl,jC.of e4,rfl,_,_,rfl,_,_,rfl,rfl,Y2N⟩;intro d_;refine⟨_,rfl,VL u,_,rfl,Y8f ζ⟩;refine Y0n ζ;refine Y0n (n _ _ R);refine Y2O (Y8f ζ);have ι:=RO.sum e C;have m6:=RO.m;refine jN.i (YcE S fs ws) hx ru γ Oo λxw H5 s5 fw=>?_;have g:eV (nR (x.2.zip e.1)):=sI _ λz θ=>(O z.1 (List.of_mem_zip (a:=z.1) (b:=z.2) θ).1).low;refine eN.i ((δ.t n).same s5).v fw.v (Y01) g (Yag (RO.fl e C) RO.n0 RO.nz) (Yas (Qn.f g (PD (M:=M) O ι)) (Nat.pow_pos RO.s1) (Y7J RO.wn)) λq6 H6 hq6 χ s6=>?_;have em:nU (fZ (Y0f l e.1)) (nR (x.2.zip e.1))=aqF F l x.2 e:=Ybt g (by rw[lT (Y01).pos g.pos,dP];unfold aqF;rw[dP];rfl);rw[em]at χ;refine sF (by show 3<=64;decide) λβ H7 hq7 e7 s7=>?_;have d:=(s5.trans s6).trans s7;refine LW (d _ _ u) Oo λH8 e8 b8=>?_;have G:=b8.t (d _ _ u);refine Y3p _ _ (j++[.ref β]) ((U.trans (X.trans d).but).trans b8) e8 ?_;have ec:(came F l x.2)[i]?=some (e,aqF F l x.2 e):=by unfold came;rw[aE,μ];rfl
  rw[hZ ec];exact LJ (aG4 ((X.trans d).t.trans G) D) ((show VO K H7 (e,aqF F l x.2 e) (.ref β)from⟨β,cu,v,_,rfl,e7,d _ _ J,φ.t d.t,gF (s7 _ _ χ)⟩).t G)
 ·rintro σ H3 ⟨ο,τ,j,rfl,U,κ,D⟩;refine Y8;have hc:(came F l x.2).take (YaM)=came F l x.2:=List.take_of_length_le (by unfold came;rw[aA];exact Oo);rw[hc]at D;exact k L j H3 ε κ D (aT.thru ε (s1.trans p) U)
def aIn(F:Ye "onwards" "onwards" aD8)(T:Yk)(FQ18:Y10 4 "comings" a08 (rF K))(FQ62:Y6Y 2 "times" K)(FQ40:Y03 "looks_on" ["says"] (lD K)):dW P w K mg base dD 5 f fd a08 (rE K):=by
 refine Y17 aG7;obtain @⟨H,Q,E,t,r,a,F,W,M,N,B,Ns,fs,ws,iw,x,rt,κ,RO,τ,ρ,χ,m,G,k⟩:=h;refine Yi;intro θ A J s hr _;have few:=RO.few;refine⟨_,(aH (Y1r aG7.nd (Y38 FQ18 Y04 1 Y0c))
  (Y0Z (SQ (eG.o ["counts","says","share"] ["counts","says","share"] []) (dJ (aD 3)) (λ_ _ _ _=>OY (sH (Y0D FQ40 1))) (λ_ _ _ _=>(Y35 (Y6a (BF K rfl) (by rfl) T.b_sum Kk 0) (cR FQ62 (aD 2) (Y5c 1))))))),?_⟩
 refine Yv;intro d_ n_;refine Y4q;refine rF.i rt κ RO τ ρ χ m G λD ys H1 hD u r1 Z=>Y5a _ D _ u (FU (as:=came F a x.2) (λy=>onE y.1) (λy v=>VO K H1 y v) (λy v H'=>dA H' (onD (y.1.1.sum,fZ (Y0f a y.1.1*wq x.2 y.1.1*s0 y.1))) v) (λx y H1 H2 s r=>r.flat s rfl) (by unfold came;rw[aA];exact Oo) u r1 (λv y H' η I ν=>?_) (λL ε H2 ξ ω s2 pr=>?_))
 ·obtain⟨e,δ,rfl⟩:=aN.mp η;obtain⟨b,cu,z,y,rfl,ο,d,γ,I⟩:=I.t ν.t;obtain⟨g,fr,α,C,φ,ι,v0,l⟩:=(RO.sy e δ).hd;have X:Y2=rv g:=v0;refine⟨b,[.ref cu,z,y],rfl,jC.of ο,rfl,λQ' h=>?_,λH5 Q' R hp k'=>?_⟩
  ·refine Y5 (lD.i (f:=g) (fs:=fr) (by rw[<-α];exact γ) ?_);refine Y8;have u:Y22 0 g.1=onE e:=by
    by_cases q:0<g.1
    ·rw[cN q];exact(cN (l.mp q)).symm
    ·rw[cA q];exact(cA λz=>q (l.mpr z)).symm
   rw[u];exact h H' (Y06)
  ·have d:=R _ _ d;obtain⟨az,vz,rfl,O,n⟩:=γ.t R.t;rw[α]at n;obtain⟨y0,U,S⟩:=n.get (i:=0) rfl;refine Y5 (YeC (ci e.1) (by rw[fM];exact jC.of d));rw[IK];refine Y07 (jK O (Y6b U) ?_);refine eN.i (kU.of (I.same R)) S.v (Y01) C (Yag (RO.aq m δ) RO.pz.1 RO.pz.2) (φ.up Dd) λq6 H6 μ p υ=>?_;have em:nU (aqF F a x.2 e) g=fZ (Y0f a e.1*wq x.2 e.1*Y2):=Ybt C (by rw[lT (f:=aqF F a x.2 e) (Y01).pos C.pos,X];unfold aqF;rw[dP,dP]);have p:H6 q6=Yf [.int (nU (aqF F a x.2 e) g).1,.int (nU (aqF F a x.2 e) g).2]:=p;rw[em]at p;exact sF (by show 2<=64;decide) λq7 H7 hq7 e7 ζ=>k' _ H7 (υ.trans ζ) (Y9T e7 Y8L (gF (ζ _ _ p)))
 ·refine k L ε H2 (Z.free ξ) ω ?_ (Z.trans s2);have β:bD H2 (((came F a x.2).filter λy=>onE y.1).map λy=>onD (y.1.1.sum,fZ (Y0f a y.1.1*wq x.2 y.1.1*s0 y.1))) ε:=Paired.toRepL pr;have ψ:((came F a x.2).filter λy=>onE y.1).map (λy=>onD (y.1.1.sum,fZ (Y0f a y.1.1*wq x.2 y.1.1*s0 y.1)))=(onw F a x.2).map onD:=by
   unfold came onw;rw[List.filter_map,List.map_map,List.map_map];rfl
  rw[ψ]at β;exact β
def aIa(F:Ye "spent" "spent" aDW)(T:Yk)(FQ64:Y3k "total" a26 (jI K))(FQ62:Y6Y 2 "times" K)(FQ46:Y10 5 "onwards" a08 (rE K)):dW P w K mg base dD 6 f fd a17 (wM K):=by
 refine Y17 aJg;obtain @⟨H,Q,E,t,r,cv,a,F,W,M,ι,N,B,p,fs,ws,iw,x,j,rt,υ,RO,f1,f4,hx,l,U,ε,C,k⟩:=h;refine Yi;intro ο A η s hr _;have few:=RO.few;have J:0<ι*(N*p^M)/\ι*(N*p^M)<2^2500:=by
  refine Y0o (dU C.c0 RO.pz.1);have h1:=YbR C.c1 RO.z;have h2:1000000000000000*2^1800<2^2500:=Kk;exact aI h1 h2
 obtain⟨ac,vc,rfl,R,S⟩:=ε;refine Y6g _ (gA FQ64 (Y7L ["looks","share"] ["looks","share","costs"] [3] (dJ (Y38 FQ46 Y04 1 Y0c)) (Y93 (Y6p 2 Y04) Y0t)));refine Y4q;refine rE.i rt υ RO f1 f4 hx l U λD ys H1 hD ν θ X=>Y1E D ν ?_;have Z:bD H1 ((a.filter onE).map λe=>onD (e.1.sum,fZ (Y0f a e.1*wq x.2 e.1*Y2))) ys:=by unfold onw at θ;rw[List.map_map]at θ;exact θ
 have fl0:=List.length_filter_le onE a;refine FU (as:=a.filter onE) (λ_=>true) (λe v=>dA H1 (onD (e.1.sum,fZ (Y0f a e.1*wq x.2 e.1*Y2))) v) (λe v H'=>Y7T (cT j e.1.sum*(Y0f a e.1*wq x.2 e.1*Y2)) v) (λx y H1 H2 s r=>r.flat s (dX _)) Oo ν (Paired.ofRepL Z) (λv e H' I re α=>?_) (λL zs H2 hL e2 s2 ξ=>?_)
 ·obtain⟨d,m⟩:=gB.mp I;have ζ:Y4B:=of_decide_eq_true m;obtain⟨b,us,rfl,ω,μ⟩:=lK (re.same α);obtain⟨u,y,rfl,ru,ry⟩:=DS μ;cases(show u=V.int (e.1.sum:Nat)from ru);refine⟨b,_,rfl,jC.of ω,rfl,λQ' h=>h H' (Y06),λH5 Q' κ _ k'=>?_⟩;have n:=C.len e d ζ;obtain⟨g,γ⟩:∃g,j[e.1.sum]?=some g:=Y56 n;obtain⟨vg,β,O⟩:=S.get γ;have G:=C.at_ g (aF γ);refine Y07 (jK ((X.trans α).trans κ _ _ R) (dB β) ?_);refine Y8;refine eN.i ((O.t ((X.trans α).trans κ).t).v) (kU.of (ry.same κ)) G.low (Y01) (mV (Qn.f G.low (G.q.dvd (mF _ (N*p^M)))) J.1 (Y7J J.2) (Y59 (show 1000<=2^10 by decide))) (Yag (show Qn (N*p^M) B (aX F a e.1*wq x.2 e.1*s0 e)from RO.aqs l d 0) RO.pz.1 RO.pz.2) λq6 H6 χ ρ s6=>k' _ H6 s6 (gF ?_);have em:nU g (fZ (Y0f a e.1*wq x.2 e.1*Y2))=fZ (cT j e.1.sum*(Y0f a e.1*wq x.2 e.1*Y2)):=iT (iV G.low Y01) Y01 (by rw[lT G.low.pos (Y01).pos,dP,dP,vJ γ]);rw[ρ,em]
 ·rw[NY]at ξ;have ψ:=NK (g:=λe:cZ=>fZ (cT j e.1.sum*(Y0f a e.1*wq x.2 e.1*Y2))) ξ;have τ:∀f∈(a.filter onE).map (λe=>fZ (cT j e.1.sum*(aX F a e.1*wq x.2 e.1*s0 e))),Y13 (ι*(N*p^M)) (1000*B):=λf hf=>by
   obtain⟨e,I,rfl⟩:=aN.mp hf;obtain⟨d,m⟩:=gB.mp I;have h:=(C.qn d (of_decide_eq_true m)).mul (RO.aqs l d 0);exact h.fq
  refine Yb5 e2 ψ (xW τ J.1 (Y7J J.2) (by rw[aA];exact Oo) (aK (dI 1000 RO.b) (show 1000*2^100<=2^690 by decide +kernel))) (λv H3 s3 δ=>?_);rw[WL (f:=λe:cZ=>cT j e.1.sum*(Y0f a e.1*wq x.2 e.1*Y2)) λe _=>⟨Y01,dP _⟩]at δ;have φ:cW (a.filter onE) (λe:cZ=>cT j e.1.sum*(Y0f a e.1*wq x.2 e.1*Y2))=gE F a (wq x.2) (cT j):=by
   unfold gE;exact zO λe _ I=>by rw[Classical.not_not.mp (of_decide_eq_false I)];grind
  rw[φ]at δ;exact k v H3 ((X.trans s2).trans s3) δ
end
section
variable{F W M N B Ns:Nat}{es fs:Yg}
def yH(R:Y1D)(d:Ae):Y4 d=(if d=Y00 then 1 else 0)+Y0x (Y4 e.1*Y2*Y2o e.1):=by
 have all:∀n,Ybb n->Y4b F n d=(if d=Y00 then 1 else 0)+Y8e YcW (Y4 e.1*Y2*Y2o e.1):=λn=>by
  induction n with
  | zero=>intro _;rw[List.take_zero,lG,jH];grind
  | succ n ih =>
   intro c;have a:=aB (show n<es.length by exact Oo);rw[hZ a,gK,R.at a,ih Oo,oF];grind
 have:=all es.length (Yl)
 rwa [dY]at this
def CA(R:Y1D){d:Ae}(h:d ∉ es.map (·.1)):Y4 d=0:=by
 rw[yH R d];obtain⟨l,r,c,a⟩:=R.root;rw[Y31 (h (by rw[q,c,bA,a];exact aY ..))];rw[dC (g:=Y3r) YcK,uA]
 ·grind
 ·by_cases z:Y2=0
  ·rw[z];grind
  ·have:Y2o e.1=0:=by
    unfold gX;rw[Y7A (λf j=>Y31 (h (by rw[<-q];exact R.fwd e i z f j))),iS]
   rw[this];grind
def lkE(es:Yg)(c:Ae):Option cZ:=es.find? λe=>Y0P e.1 c
def aFl(nd:(es.map (·.1)).Nodup){e:cZ}(he:e∈es):lkE es e.1=Y7b:=by
 unfold lkE
 induction es with
 | nil=>cases he
 | cons x es ih =>
  rw[bA,List.nodup_cons]at nd;rcases bN.mp he with rfl | he
  ·rw[List.find?_cons_of_pos (by simp)]
  ·have:x.1≠e.1:=λq=>nd.1 (by rw[q];exact Y32 e he);rw[List.find?_cons_of_neg (by simpa using this),ih nd.2 he]
def aB8{c:Ae}(h:c ∉ es.map (·.1)):lkE es c=none:=by
 unfold lkE;rw[List.find?_eq_none];intro e a q;exact h (aN.mpr ⟨e,a,by simpa using q⟩)
def xF(F:Nat)(es:Yg)(c:Ae)(j:Nat):Rat:=((lkE es c).map λe=>aX F es c*cT e.2 j).getD 0
def uX(R:Y1D){e:cZ}(he:e∈es)(j:Nat):xF F es e.1 j=Y4 e.1*cT e.2 j:=by unfold xF;rw[aFl R.nd he];rfl
def pO{c:Ae}(h:c ∉ es.map (·.1))(j:Nat):xF F es c j=0:=by unfold xF;rw[aB8 h];rfl
def EN{α:Type}{l m:Yu}(h:l.Perm m)(f:Y3a):Y46=cW m f:=by
 induction h with
 | nil=>rfl
 | cons x _ ih=>rw[dE,dE,ih]
 | swap x y l=>rw[dE,dE,dE,dE];grind
 | trans _ _ h1 h2=>exact h1.trans h2
theorem JK{α:Type}[DecidableEq α]{f:Y3a}:∀{l m:Yu},l.Nodup->(∀x∈l,x∈m)->m.Nodup->(∀x∈m,x ∉ l->f x=0)->cW m f=Y46
 | [],m,_,_,_,h=>by
  rw[dC (g:=λ_=>0) λx hx=>h x hx (by simp),uA,jH]
 | a::l,m,nd,hs,ndm,h=>by
  rw[List.nodup_cons]at nd;have ha:=hs a (aY ..);rw[EN (List.perm_cons_erase ha),dE,dE];have:cW (m.erase a) f=cW l f:=JK nd.2 (λx hx=>(List.mem_erase_of_ne λq=>nd.1 (by rw[<-q];exact hx)).mpr (hs x (bG _ hx))) (ndm.erase a) λx hx c=>h x (List.mem_of_mem_erase hx) λq=>by
   rcases bN.mp q with rfl | q
   ·exact(List.Nodup.not_mem_erase ndm) hx
   ·exact c q
  rw[this]
def EQ(g:Y0y):Y0x (g e.1)=cW (es.map (·.1)) g:=by unfold cW;rw[List.map_map];rfl
def AU(R:Y1D){m:Ab}(ndm:m.Nodup)(hs:∀c∈es.map (·.1),c∈m)(q:Y0y)(j:Nat):Y0x (Y4 e.1*cT e.2 j*q e.1)=Y3w m (xF F es c j*q c):=by
 rw[JK (l:=es.map (·.1)) (f:=λc=>xF F es c j*q c) R.nd hs ndm λc _ a=>by rw[pO a];grind,<-EQ];exact dC λe d=>by rw[uX R d]
def UL(R:Y1D){g:Y0y}(h:∀d,g d=(if d=Y00 then 1 else 0)+Y0x (g e.1*Y2*Y2o e.1)):∀(n:Nat) (d:Ae),d.sum<=n->Y4 d=g d:=by
 have step:∀(n:Nat) (d:Ae),(∀e∈es,e.1.sum+1=d.sum->Y4 e.1=g e.1)->Y4 d=g d:=λn d hd=>by
  rw[yH R d,h d];congr 1;refine dC Y7C;by_cases z:d.sum=e.1.sum+1
  ·rw[hd e a z.symm]
  ·rw[xI (Y50 a) z];grind
 intro n
 induction n with
 | zero=>intro d hd;exact step 0 d λe _ q=>Oo
 | succ n ih=>intro d hd;exact step (n+1) d λe _ q=>ih e.1 Oo
def mA(F:Nat)(es fs:Yg)(s:Rat)(c:Ae):Rat:=s*Y4 c+(1-s)*Y0f fs c
def mX(F:Nat)(es fs:Yg)(s:Rat)(c:Ae)(j:Nat):Rat:=s*xF F es c j+(1-s)*xF F fs c j
noncomputable def mS (F W:Nat) (es fs:Yg) (s:Rat) (c:Ae):Ak:=(List.range (1+W)).map λj=>fZ (mX F es fs s c j/Y0U)
open Classical in
noncomputable def mB (F:Nat) (es fs:Yg) (s:Rat) (c:Ae):Nat:=if Y2U=0 then 1 else 0
def mR(F:Nat)(es fs:Yg)(s:Rat)(c:Ae):Prop:=Y0U≠0
noncomputable def mE (F W M:Nat) (es fs:Yg) (s:Rat):Yg:=ruG F M (Y5K F s) (mS F W es fs s)
structure gU(F W M:Nat)(es fs:Yg)(s:Rat):Prop where
 ra:Y1D
 rb:sG F fs
 f1:1<=F
 f4:F<=4
 m5:M<=5
 sa:∀e∈es,MG (1+W) e.2
 sb:∀e∈fs,MG (1+W) e.2
 oa:∀e∈es,e.1.sum<=M/\(Y4B->e.1.sum<M)
 ob:∀e∈fs,e.1.sum<=M/\(Y4B->e.1.sum<M)
 s0':0<=s
 s1:s<=1
def MG.sum1{n:Nat}{gs:Ak}(h:MG n gs):bZ n (cT gs)=1:=by
 have:=h.one
 rwa [tY,h.len]at this
def OW(R:Y1D)(hs:∀e∈es,MG (1+W) e.2)(c:Ae)(j:Nat):0<=xF F es c j:=by
 by_cases h:Y4e c (·.1)
 ·obtain⟨e,a,rfl⟩:=Y70;rw[uX R a];exact cI (R.nnf _) ((hs e a).nn j)
 ·rw[pO h];exact Rat.le_refl
def VQ(R:Y1D)(hs:∀e∈es,MG (1+W) e.2)(c:Ae):bZ (1+W) (xF F es c)=Y4 c:=by
 by_cases h:Y4e c (·.1)
 ·obtain⟨e,a,rfl⟩:=Y70;rw[bP (g:=λj=>Y4 e.1*cT e.2 j) λj _=>uX R a j,eT,(hs e a).sum1];grind
 ·rw[Y7A (λj _=>pO h j),iS,CA R h]
end
section
variable{F W M:Nat}{es fs:Yg}{s:Rat}
def gU.ann(I:Y1a)(c:Ae):0<=Y0U:=by
 have d:=cI I.s0' (I.ra.nnf c);have a:=cI (show(0:Rat)<=1-s by have:=I.s1;grind) (I.rb.nnf c);unfold mA;grind
def gU.xnn(I:Y1a)(c:Ae)(j:Nat):0<=mX F es fs s c j:=by
 have d:=cI I.s0' (OW I.ra I.sa c j);have a:=cI (show(0:Rat)<=1-s by have:=I.s1;grind) (OW I.rb I.sb c j);unfold mX;grind
def gU.xsum(I:Y1a)(c:Ae):bZ (1+W) (mX F es fs s c)=Y0U:=by
 unfold mX mA;rw[nH,eT,eT,VQ I.ra I.sa,VQ I.rb I.sb]
def gU.keyA(I:Y1a)(hs:s≠0){c:Ae}(h:Y4e c (·.1)):mR F es fs s c:=by
 obtain⟨e,d,rfl⟩:=Y70;have a:=I.ra.posf d;have i:=cI (show(0:Rat)<=1-s by have:=I.s1;grind) (I.rb.nnf e.1);have g:0<s:=by have:=I.s0';grind
 have j:=Ycj g;unfold mR mA;grind
def gU.keyB(I:Y1a)(hs:s≠1){c:Ae}(h:YcZ c (·.1)):mR F es fs s c:=by
 obtain⟨e,d,rfl⟩:=Y70;have a:=I.rb.posf d;have i:=cI I.s0' (I.ra.nnf e.1);have g:0<1-s:=by have:=I.s1;grind
 have j:=Ycj g;unfold mR mA;grind
def gU.keys(I:Y1a){c:Ae}(h:mR F es fs s c):(s≠0/\Y4e c (·.1))\/(s≠1/\YcZ c (·.1)):=by
 refine Y72 (h ?_);unfold mA;have e:s*Y4 c=0:=by
  by_cases z:s=0
  ·rw[z];grind
  ·rw[CA I.ra λa=>q (Y4c z a)];grind
 have d:(1-s)*Y0f fs c=0:=by
  by_cases z:s=1
  ·rw[z];grind
  ·rw[CA I.rb λa=>q (Y2G z a)];grind
 rw[e,d];grind
def gU.onA(I:Y1a)(hs:s≠0){e:cZ}(he:e∈es)(h0:Y4B):mB F es fs s e.1=0:=by
 unfold mB;rw[if_neg];have c:=I.ra.posf he;have a:0<Y2:=by have:=I.ra.nn e he;grind
 have d:0<s:=by have:=I.s0';grind
 have h:=Rat.mul_pos d (Ycj c);have i:=cI (show(0:Rat)<=1-s by have:=I.s1;grind) (OW I.rb I.sb e.1 0);have g:xF F es e.1 0=Y4 e.1*Y2:=uX I.ra he 0;unfold mX;rw[g];grind
def gU.onB(I:Y1a)(hs:s≠1){e:cZ}(he:e∈fs)(h0:Y4B):mB F es fs s e.1=0:=by
 unfold mB;rw[if_neg];have c:=I.rb.posf he;have a:0<Y2:=by have:=I.rb.nn e he;grind
 have d:0<1-s:=by have:=I.s1;grind
 have h:=Rat.mul_pos d (Ycj c);have i:=cI I.s0' (OW I.ra I.sa e.1 0);have g:xF F fs e.1 0=Y0f fs e.1*Y2:=uX I.rb he 0;unfold mX;rw[g];grind
def gU.off(I:Y1a){c:Ae}(h:mB F es fs s c=0):(s≠0/\∃e∈es,e.1=c/\s0 e≠0)\/(s≠1/\∃e∈fs,e.1=c/\s0 e≠0):=by
 refine Y72 ?_;have:Y2U=0:=by
  unfold mX;have g:s*xF F es c 0=0:=by
   by_cases z:s=0
   ·rw[z];grind
   ·by_cases hc:Y4e c (·.1)
    ·obtain⟨e,a,rfl⟩:=aN.mp hc;have:Y2=0:=cF λy=>q (.inl (Y0H z e a y));rw[uX I.ra a,show cT e.2 0=s0 e from rfl,this];grind
    ·rw[pO hc];grind
  have d:(1-s)*xF F fs c 0=0:=by
   by_cases z:s=1
   ·rw[z];grind
   ·by_cases hc:YcZ c (·.1)
    ·obtain⟨e,a,rfl⟩:=aN.mp hc;have:Y2=0:=cF λy=>q (.inr (Y0H z e a y));rw[uX I.rb a,show cT e.2 0=s0 e from rfl,this];grind
    ·rw[pO hc];grind
  rw[g,d];grind
 unfold mB at h;rw[if_pos this]at h;cases h
def gU.vS(I:Y1a)(c:Ae){j:Nat}(hj:j<1+W):cT (mS F W es fs s c) j=mX F es fs s c j/Y0U:=by
 unfold cT mS;rw[aM,aE,aZ hj];exact dP _
def gU.mul(I:Y1a){c:Ae}(h:mR F es fs s c){j:Nat}(hj:j<1+W):Y0U*cT (mS F W es fs s c) j=mX F es fs s c j:=by
 rw[I.vS c hj,Rat.div_def];have:Y0U≠0:=h;grind
def gU.tg(I:Y1a)(r:(Y0a).length<=400):uW F M (Y5K F s) (mS F W es fs s) (mR F es fs s) where
 f1:=I.f1
 f4:=I.f4
 m5:=I.m5
 on:=λc h=>by
  rcases I.off h with⟨_,e,a,rfl,d⟩ | ⟨_,e,a,rfl,d⟩
  ·exact(I.oa e a).2 d
  ·exact(I.ob e a).2 d
 r:=r
 hd:=λc m=>by
  refine Y2X (fZ (Y2U/Y0U)) ((List.range W).map λj=>fZ (mX F es fs s c (j+1)/Y0U)) ?_
  ·unfold mS;rw[Nat.add_comm,List.range_succ_eq_map,bA,List.map_map];rfl
  ·have y:0<Y0U:=by
    have l:=I.ann c;have n:Y0U≠0:=m;grind
   have B:=I.xnn c 0;have e:Y2U=Y0U*rv (fZ (Y2U/Y0U)):=by
    rw[dP,Rat.div_def];grind
   have low:=cE (Y2U/Y0U);have w:=sV low.pos;have J:=nM low.pos;unfold mB;constructor
   ·intro i;rw[if_neg];intro z;rw[z]at e;have C:rv (fZ (Y2U/Y0U))=0:=by grind
    have:=iT low TX (by rw[C,oC]);rw[this]at i;exact Y6Q i
   ·intro h;split at h
    ·cases h
    ·rename_i hn
     refine Y72 (hn ?_);have nn:0<=rv (fZ (Y2U/Y0U)):=by
      rw[dP,Rat.div_def];exact cI B (Ydh y)
     have D:0<=(fZ (Y2U/Y0U)).1:=by
      have:0<=(Y2U/Y0U).num:=Rat.num_nonneg.mpr (by rw[<-dP (Y2U/Y0U)];exact nn);exact this
     have A:(fZ (Y2U/Y0U)).1=0:=Oo;rw[A]at w;have:rv (fZ (Y2U/Y0U))=0:=by grind
     rw[e,this];grind
 root:=by
  obtain⟨L,P,l,n⟩:=I.ra.root;obtain⟨N,O,G,u⟩:=I.rb.root;by_cases z:s=0
  ·exact I.keyB (by rw[z];decide) (by rw[G,bA,u];exact aY ..)
  ·exact I.keyA z (by rw[l,bA,n];exact aY ..)
 fwd:=λc m d f p=>by
  rcases I.off d with⟨z,e,a,rfl,g⟩ | ⟨z,e,a,rfl,g⟩
  ·exact I.keyA z (I.ra.fwd e a g f p)
  ·exact I.keyB z (I.rb.fwd e a g f p)
end
section
variable{F W M N B Ns Ds:Nat}{es fs:Yg}{s:Rat}
def gU.zero(I:Y1a){c:Ae}(h:¬mR F es fs s c)(j:Nat):mX F es fs s c j=0:=by
 unfold mX;have d:s*xF F es c j=0:=by
  by_cases z:s=0
  ·rw[z];grind
  ·rw[pO (es:=es) λa=>h (I.keyA z a)];grind
 have e:(1-s)*xF F fs c j=0:=by
  by_cases z:s=1
  ·rw[z];grind
  ·rw[pO (es:=fs) λa=>h (I.keyB z a)];grind
 rw[d,e];grind
def gU.s0m(I:Y1a)(c:Ae):s0 (c,mS F W es fs s c)=Y2U/Y0U:=I.vS c Oo
def gU.onm(I:Y1a){c:Ae}(h:mR F es fs s c):s0 (c,mS F W es fs s c)≠0↔mB F es fs s c=0:=by
 have e:=I.mul h (j:=0) Oo;have e:Y0U*s0 (c,mS F W es fs s c)=Y2U:=e;have g:Y0U≠0:=h;unfold mB;constructor
 ·intro d;rw[if_neg];intro z;rw[z]at e;exact d (by grind)
 ·intro a z;rw[z]at e;rw[if_pos (by grind)]at a;cases a
def gU.all(I:Y1a)(T:uW F M (Y5K F s) (mS F W es fs s) (mR F es fs s)):∀(n:Nat) {c:Ae},Y4s n->mR F es fs s c->c∈Y6r F M F s:=by
 have step:∀(n:Nat) {c:Ae},(∀d:Ae,d.sum+1=c.sum->mR F es fs s d->d∈Y6r F M F s)->mR F es fs s c->c∈Y6r F M F s:=λn c i j=>by
  by_cases z:c=Y00
  ·obtain⟨r,u⟩:=Yfa M (Y5K F s);rw[z,u];exact aY ..
  ·rcases I.keys j with⟨g,m⟩ | ⟨g,m⟩
   ·obtain⟨e,a,l,f,p,rfl⟩:=I.ra.bwd c m z;have w:=I.ra.len e a;have hd:=i e.1 (by rw[gR Oo]) (I.keyA g (Y32 e a));exact xB I.f1 T.on hd (I.onA g a l) p
   ·obtain⟨e,a,l,f,p,rfl⟩:=I.rb.bwd c m z;have w:=I.rb.len e a;have hd:=i e.1 (by rw[gR Oo]) (I.keyB g (Y32 e a));exact xB I.f1 T.on hd (I.onB g a l) p
 intro n
 induction n with
 | zero=>intro c j h;exact step 0 (λd q=>Oo) h
 | succ n i=>intro c j h;exact step (n+1) (λd q hd=>i Oo hd) h
def yN:(mE F W M es fs s).map (·.1)=Y6r F M F s:=by unfold mE ruG;rw[List.map_map];exact List.map_id' _
def gU.mem(I:Y1a)(T:uW F M (Y5K F s) (mS F W es fs s) (mR F es fs s)){c:Ae}:c∈(mE F W M es fs s).map (·.1)↔mR F es fs s c:=by
 rw[yN];exact⟨T.ruC,I.all T _ (Yl)⟩
def gU.ent(I:Y1a){e:cZ}(he:e∈mE F W M es fs s):e=(e.1,mS F W es fs s e.1):=by
 obtain⟨c,_,rfl⟩:=aN.mp he
 rfl
def gU.rl(I:Y1a)(T:uW F M (Y5K F s) (mS F W es fs s) (mR F es fs s)):sG F (mE F W M es fs s) where
 root:=by
  obtain⟨r,h⟩:=Yfa M (Y5K F s);exact⟨_,_,by unfold mE ruG;rw[h,bA],rfl⟩
 len:=λe g=>by
  obtain⟨c,a,rfl⟩:=Y8P;exact(AT I.f1 a).1
 nd:=by rw[yN];exact(pI F I.f4 M I.m5).sublist (iZ I.f1)
 srt:=by
  unfold mE ruG;rw[List.pairwise_map];exact(pH F M).sublist (iZ I.f1)
 fwd:=λe g m f p=>by
  obtain⟨c,a,rfl⟩:=Y8P;rw[yN];exact xB I.f1 T.on a ((I.onm (T.ruC a)).mp m) p
 bwd:=λd hd n=>by
  rw[yN]at hd;obtain⟨c,a,u,j,i,e⟩:=JT I.f1 hd n;exact⟨(c,mS F W es fs s c),Y32 c a,(I.onm (T.ruC a)).mpr u,j,i,e⟩
 nn:=λe g=>by
  obtain⟨c,a,rfl⟩:=Y8P;rw[I.s0m,Rat.div_def];have l:0<Y0U:=by
   have w:=I.ann c;have y:Y0U≠0:=T.ruC a;grind
  exact cI (I.xnn c 0) (Ydh l)
def gU.flow(I:Y1a)(T:uW F M (Y5K F s) (mS F W es fs s) (mR F es fs s))(d:Ae):Y2p (mE F W M es fs s)=mA F es fs s d:=by
 refine UL (I.rl T) (Y6U) _ d (Yl);have i:(Y6r F M F s).Nodup:=(pI F I.f4 M I.m5).sublist (iZ I.f1);have u:Y8e (mE F W M es fs s) (mA F es fs s e.1*Y2*Y2o e.1)=Y3w (Y6r F M F s) (Y2U*Y4z):=by
  rw[<-yN (W:=W),<-EQ (es:=mE F W M es fs s) λc=>Y2U*Y4z];refine dC λe l=>?_;have n:=(I.mem T).mp (Y32 e l);have:=I.mul n (j:=0) Oo;rw[I.ent l];show mA F es fs s e.1*cT (mS F W es fs s e.1) 0*Y2o e.1=_;rw[this]
 rw[u];have m:Y3w (Y6r F M F s) (Y2U*Y4z)=s*Y3w (Y6r F M F s) (xF F es c 0*Y4z)+(1-s)*Y3w (Y6r F M F s) (xF F fs c 0*Y4z):=by
  rw[<-lO,<-lO,<-jV];exact dC λc _=>by unfold mX;grind
 rw[m];have p:s*Y3w (Y6r F M F s) (xF F es c 0*Y4z)=s*(Y4 d-if d=Y00 then 1 else 0):=by
  by_cases z:s=0
  ·rw[z];grind
  ·have h:=AU I.ra i (λc g=>I.all T _ (Yl) (I.keyA z g)) (λc=>Y4z) 0;have a:=yH I.ra d;rw[<-h,a];have:Y0x (Y4 e.1*cT e.2 0*Y2o e.1)=Y0x (Y4 e.1*Y2*Y2o e.1):=rfl;rw[this];grind
 have r:(1-s)*Y3w (Y6r F M F s) (xF F fs c 0*Y4z)=(1-s)*(Y2p fs-if d=Y00 then 1 else 0):=by
  by_cases z:s=1
  ·rw[z];grind
  ·have h:=AU I.rb i (λc g=>I.all T _ (Yl) (I.keyB z g)) (λc=>Y4z) 0;have a:=yH I.rb d;rw[<-h,a];have:Y8e fs (Y0f fs e.1*cT e.2 0*Y2o e.1)=Y8e fs (Y0f fs e.1*Y2*Y2o e.1):=rfl;rw[this];grind
 rw[p,r];unfold mA;grind
def gU.x(I:Y1a)(T:uW F M (Y5K F s) (mS F W es fs s) (mR F es fs s))(c:Ae){j:Nat}(hj:j<1+W):xF F (mE F W M es fs s) c j=mX F es fs s c j:=by
 by_cases h:mR F es fs s c
 ·have d:=(I.mem T).mpr h;obtain⟨e,a,rfl⟩:=Ya7;rw[uX (I.rl T) a,I.flow T];have:=I.mul h hj;have g:=I.ent a;rw[show e.2=mS F W es fs s e.1 from congrArg Prod.snd g,this]
 ·rw[pO λq=>h ((I.mem T).mp q),I.zero h]
def XZ{P C:Nat}{x y:Rat}(hx:Qn P C x)(hy:Qn P C y)(hp:0<P)(h0:0<=x)(hxy:x<=y)(hy0:0<y)(hz:C*P<Y0A):vU 3000 (fZ (x/y)):=by
 obtain⟨X,c,j⟩:=hx;obtain⟨Y,d,i⟩:=hy;have a:(0:Rat)<(P:Rat):=by exact_mod_cast hp
 have l:0<Y:=by
  have:(0:Rat)<(Y:Rat):=by rw[<-d];exact Ycj hy0
  exact_mod_cast this
 have X0:0<=X:=by
  have:(0:Rat)<=(X:Rat):=by rw[<-c];exact YfV h0 a
  exact_mod_cast this
 have XY:X<=Y:=by
  have:(X:Rat)<=(Y:Rat):=by rw[<-c,<-d];exact Rat.mul_le_mul_of_nonneg_right hxy (Rat.le_of_lt a)
  exact_mod_cast this
 have f:Fn Y.toNat 1 (fZ (x/y)):=by
  refine Qn.fq ⟨X,?_,Oo⟩;have e:((Y.toNat:Nat):Rat)=(Y:Rat):=by
   have:((Y.toNat:Nat):Int)=Y:=Oo;rw[<-rJ,this]
  rw[e,<-c,<-d,Rat.div_def];grind
 obtain⟨h,g⟩:=f.num Oo;exact Y2Q Oo
def gU.ru(I:Y1a)(T:uW F M (Y5K F s) (mS F W es fs s) (mR F es fs s))(RA:Y1M)(RB:oZ F W M N B Ns fs)(hs:Qn Ds 1 s)(ds:0<Ds)(few:(Y0a).length<=64)(hz:Ds*N*Ns^M<2^1800)(hb:2*B<=2^100):oZ F W M (Ds*N) (2*B) Ns (mE F W M es fs s):=by
 have p:Qn Ds 1 (1-s):=by
  obtain⟨X,C,S⟩:=hs;have L:(0:Rat)<(Ds:Rat):=by exact_mod_cast ds
  have X0:0<=X:=by
   have:(0:Rat)<=(X:Rat):=by rw[<-C];exact YfV I.s0' L
   exact_mod_cast this
  refine⟨(Ds:Int)-X,?_,Oo⟩;rw[Rat.intCast_sub,rJ,<-C];grind
 have y:∀{es:Yg},Y1M->∀c,Y2a (Y4 c):=λR c=>by
  rename_i es'
  by_cases h:c∈es'.map (·.1)
  ·obtain⟨e,a,rfl⟩:=Y70;exact R.fl e a
  ·rw[CA R.rl h];exact Y7I _
 have z:∀{es:Yg},Y1M->∀c j,Y2a (xF F es c j):=λR c j=>by
  rename_i es'
  by_cases h:c∈es'.map (·.1)
  ·obtain⟨e,a,rfl⟩:=Y70;rw[uX R.rl a];exact R.fs e a j
  ·rw[pO h];exact Y7I _
 have D:∀c,Qn (Ds*N) (2*B) (Y0U):=λc=>((hs.mul (y RA c)).add (p.mul (y RB c))).le Oo;have A:∀c j,Qn (Ds*N) (2*B) (mX F es fs s c j):=λc j=>((hs.mul (z RA c j)).add (p.mul (z RB c j))).le Oo;have n0:0<Ds*N:=dU ds RA.n0;have nz:2*B*(Ds*N)<Y0A:=by
  have r:Ds*N*1<=Ds*N*Ns^M:=dI _ (Nat.pow_pos RA.s1);rw[Nat.mul_one]at r;have G:=YbR hb (aI r hz);exact Oo
 have l:∀e∈mE F W M es fs s,mR F es fs s e.1:=λe a=>(I.mem T).mp (Y32 e a);have d:∀c,mR F es fs s c->0<Y0U:=λc h=>by
  have r:=I.ann c;have G:Y0U≠0:=h;grind
 refine⟨I.rl T,Y7C,Y7C,?_,λe a O=>?_,Y7C,λe a v=>?_,n0,RA.s1,hz,hb,RA.m⟩
 ·obtain⟨c,J,rfl⟩:=aN.mp a;exact(AT I.f1 J).2
 ·have u:=l e a;rw[show e.2=mS F W es fs s e.1 from congrArg Prod.snd (I.ent a)];have w:∀j,j<1+W->mX F es fs s e.1 j<=mA F es fs s e.1:=λj n=>by
   rw[<-I.xsum e.1];have r:=wG (mX F es fs s e.1) n;have G:0<=Y4m (1+W) (if i=j then 0 else mX F es fs s e.1 i):=tZ λi _=>by
    split
    ·exact Rat.le_refl
    ·exact I.xnn _ _
   grind
  refine Y05 (by unfold mS;rw[aA,aQ]) (λf P=>?_)
  ·obtain⟨j,n,rfl⟩:=aN.mp P;have n:=bL.mp n;refine⟨Y01,?_,XZ (A _ _) (D _) n0 (I.xnn _ _) (w j n) (d _ u) nz⟩;have:0<=mX F es fs s e.1 j/mA F es fs s e.1:=by
    rw[Rat.div_def];exact cI (I.xnn _ _) (Ydh (d _ u))
   exact Rat.num_nonneg.mpr this
  ·rw[tY,show(mS F W es fs s e.1).length=1+W by unfold mS;rw[aA,aQ]];rw[bP (g:=λj=>(mA F es fs s e.1)⁻¹*mX F es fs s e.1 j) λj n=>by rw[I.vS _ n,Rat.div_def];grind,eT,I.xsum];have:=d _ u;grind
 ·unfold mE ruG;rw[aA];exact aK (iZ I.f1).length_le few
 ·have:=(I.onm (l e a)).mp (by rw[<-I.ent a];exact O);exact T.on e.1 this
 ·rw[I.flow T];exact D _
 ·rw[I.flow T];by_cases hv:v<1+W
  ·rw[show e.2=mS F W es fs s e.1 from congrArg Prod.snd (I.ent a),I.mul (l e a) hv];exact A _ _
  ·rw[show cT e.2 v=0 from tU (by rw[show e.2=mS F W es fs s e.1 from congrArg Prod.snd (I.ent a)];unfold mS;rw[aA,aQ];exact Oo)];rw[show mA F es fs s e.1*0=0 by grind];exact Y7I _
end
abbrev aD7:Stmt:=(top 10)
def aJm:Yj a00 a00 aD7:={}
abbrev aD6:Stmt:=(top 48)
def aAo:Yj ["rule","share","parts","entry","amount","part"] ["rule","share"] aD6:={}
inductive sN (K:Aa):Yq
 | i {H:Hp} {Q:VK} {E:XK} {x y:V} {p q:Rat} (h1:kU K H (fZ p) x) (h2:kU K H (fZ q) y) (h3:0<q) (z1:Y4P (fZ p)) (z2:Y4P (fZ q)) (k:EF H Q (fZ (p/q))):sN K [x,y] H Q E
def aGi{q:Rat}(h:0<q):0<(fZ q).1/\eV ((fZ q).2,(fZ q).1)/\rv ((fZ q).2,(fZ q).1)=q⁻¹:=by
 have low:=cE q;have d:0<(fZ q).1:=by
  have a:=sV low.pos;rw[dP]at a;have:(0:Rat)<(((fZ q).1:Int):Rat):=by rw[<-a];exact Rat.mul_pos h (CW low.pos)
  exact_mod_cast this
 have c:eV ((fZ q).2,(fZ q).1):=⟨d,by show Y0W ((fZ q).2) ((fZ q).1);rw[Int.gcd_comm];exact low.low⟩;refine Y05 d c;have a:=sV low.pos;rw[dP]at a;have g:=sV c.pos;have e:=nM low.pos;grind
def qV(H:Hp)(q:Rat)(xs:Y2j)(v:V):Prop:=∃b pv L vs,v=Y0e/\H b=Yf [pv,.ref L]/\Y2W (fZ q) pv/\H L=Yc vs/\Y1n (xs.map λx=>iG (fZ x)) vs
def UK(xs:Y2j):kA (xs.map λx=>iG (fZ x))=true:=by
 have:=oW (xs.map fZ)
 rwa [List.map_map]at this
theorem qV.same{H H':Hp}{q:Rat}{xs:Y2j}{v:V}(s:Y0)(h:qV H q xs v):qV H' q xs v:=by
 obtain⟨b,pv,L,a,e,c,i,d,g⟩:=h;exact⟨b,pv,L,a,e,s _ _ c,i.same s,s _ _ d,g.same s⟩
def qV.but{H H':Hp}{p:Addr}{kvs:Yr}{q:Rat}{xs:Y2j}{v:V}(s:Y12)(hp:H p=Y15)(h:qV H q xs v):qV H' q xs v:=by
 obtain⟨b,pv,L,c,e,d,i,a,g⟩:=h;have t:=aW.tT s hp;exact⟨b,pv,L,c,e,t _ _ d,i.flat t (dX _),s.at (λz=>by rw[z,hp]at a;cases a) a,bD.flat t (UK _) g⟩
def prX(F:Nat)(es:Yg)(W:Nat)(s:Rat)(e:cZ):Y2j:=(List.range (1+W)).map λj=>Y4 e.1*s*cT e.2 j
def IU(H:Hp)(F W:Nat)(es ds:Yg)(s:Rat)(kvs:Yr):Prop:=(s=0/\kvs=[])\/(s≠0/\Ybg (λ(e:cZ) (p:List fJ × V)=>p.1=Y2c e.1/\qV H (Y4 e.1*s) (prX F es W s e) p.2) ds)
def IU.mono{H H':Hp}{F W:Nat}{es ds:Yg}{s:Rat}{kvs:Yr}(f:∀q xs v,qV H q xs v->qV H' q xs v)(h:IU H F W es ds s kvs):IU H' F W es ds s kvs:=by
 rcases h with h | ⟨c,a⟩
 ·exact .inl h
 ·exact Y2G c (Paired.imp' (λe p r=>⟨r.1,f _ _ _ r.2⟩) a)
inductive sM (K:Aa):Yq
 | i {H:Hp} {Q:VK} {E:XK} {r sv:V} {es:Yg} {F W M N B Ns Ds:Nat} {s:Rat} (h1:MB K H es r) (h2:Y1M) (h3:1<=F) (h4:F<=4) (h5:BH K H (fZ s) sv) (h6:Qn Ds 1 s) (h7:0<Ds) (h8:N*Ds<2^2500) (h9:W<=4) (k:∀d kvs H',H d=none->Y0->H' d=Y15->IU H' F W es es s kvs->Y0r d):sM K [r,sv] H Q E
theorem AV{R:Y0u cZ (Y4l × V)}:∀{ds:Yg}{kvs:Yr},Ybg (λ(e:cZ) (p:List fJ × V)=>p.1=Y2c e.1/\R e p) ds->kvs.map (·.1)=ds.map λe=>Y2c e.1
 | _,_,.nil=>rfl
 | _,_,.cons r t=>by rw[bA,bA,AV t,r.1]
theorem CF{α β:Type}{R:Y0u α β}:∀{l:Yu}{zs:Ya6}{x:α}{v:β},Paired R l zs->R x v->Paired R (l++[x]) (zs++[v])
 | _,_,_,_,.nil,h=>.cons h .nil
 | _,_,_,_,.cons r t,h=>.cons r (CF t h)
def xK(f:Fr):Y5E (iG f):=(DU.tup (n:=1) (λd a=>by
 rcases bN.mp a with rfl | a
 ·exact DU.int _
 ·rw[bT.mp a];exact DU.int _)).ok
def IB(f g:Fr):PyData.eqv (iG f) (iG g)=Y0P f g:=by
 obtain⟨a,b⟩:=f;obtain⟨c,d⟩:=g;show((a == c)&&((b == d)&&true))=_;rw[Bool.eq_iff_iff];simp
section
def aIm(F:Ye "over" "over" aD7)(T:Yk)(FQ62:Y6Y 2 "times" K):dW P w K mg base dD 3 f fd a00 (sN K):=by
 refine F.oky aJm λI H Q E h=>?_;obtain @⟨H,Q,E,x,y,p,q,n,u,r,C,j,k⟩:=h;refine Yi;intro m A d s M _;obtain⟨J,a,B⟩:=aGi r;obtain⟨O,rfl,e⟩:=u;refine⟨_,(aH (iR (eQ oU (Y1m) aO) (aV PC) fR)
  (aH (Y6B (eQ zR (Y1m) aO) (cR FQ62 (aD 0) (Y35 (BO vK (Y1m)) (BO vK (Y1m)))))
  (Y0Z (cR FQ62 (aD 0) (Y35 Y1m Y1m))))),?_⟩
 refine Yv;intro R N;refine Y1H e;refine Y2R rfl (tH (cA λz=>by injection z with z;exact Oo) ?_);refine Y1H e;refine Y5M _ _ _ (tH (cA Oo) ?_);refine Y8Y e;refine Y1H e;refine sF (by show 2<=64;decide) λL H3 D l g=>eN.i (kU.same g n) (kU.new (f:=((fZ q).2,(fZ q).1)) l) (Y01) a C ⟨j.2,j.1⟩ ?_;have G:nU (fZ p) ((fZ q).2,(fZ q).1)=fZ (p/q):=Ybt a (by rw[lT (Y01).pos a.pos,B,dP,dP,Rat.div_def]);rw[G];exact k.of g
def aIl(F:Ye "parts_of" "parts_of" aD6)(T:Yk)(FQ14:Y3k "amounts" a42 (mP K))(FQ62:Y6Y 2 "times" K):dW P w K mg base dD 4 f fd ["rule","share"] (sM K):=by
 refine Y17 aAo;obtain @⟨H,Q,E,r,sv,l,F,W,M,N,B,Ns,ε,n,rr,RO,f1,f4,rs,sq,d0,nd,w4,k⟩:=h;refine Yi;intro cdv A outer s hr _;obtain⟨a,xs,rfl,ρ,lx,rxs⟩:=id rr;have few:=RO.few;have nd0:0<N*ε:=dU RO.n0 d0;refine⟨_,(aH (Y1q aAo.nd nE)
  (aH (gH PassesOwn.never rfl (kZ true true rfl T.b_zip (Y2i 0 (Y0D FQ14 0))) (mJ rfl (eK (Y9h 3 aAo.nd) (eK (Y9h 4 aAo.nd) kD))) (aH (Y3x 5 aAo.nd (Y93 (Y0N 4) Y0t))
  (aV (iR (Y1I (aFa K hr.units) 5 (Yeq YaH rfl)) (aV (iY hr.u1 (Y0c) (Y0N 3) (fD (Y2i 5 (Y7r ["one","part"] [5] (xZ (Y0N 3)) (Y2k FQ62 1 0)))))) fR))))
  (Y2x 2))),?_⟩
 refine Yv;intro d_ n_;intro p ν;have U:=Y6H [] ν;have δ:(upd H p (.dT [])) p=Y0g []:=bH;generalize upd H p (.dT [])=H0 at U δ;refine Y02;refine mP.i (rr.t U.t) RO f1 f4 λam ys H2 s2 ξ ly k2=>?_;have G:=U.trans s2;have R:=s2 _ _ δ;refine Y1B a am xs ys (G _ _ ρ) ξ ?_;have na:a≠p:=λz=>by rw[z,ν]at ρ;cases ρ
 have nam:am≠p:=λz=>by rw[z,R]at ξ;cases ξ
 refine Ydq xs ys (∃(o3 o4 o5:Am) (d:Yr),σ=[Y3X,some sv,Y3c,o3,o4,o5]/\aW p H2 H'/\H' p=Y0g d/\IU H' F W l (l.take i) n d) (Y1B _ _ _ [] ((Y06).but) R (by by_cases z:n=0;exact .inl (Y5l z);exact Y2G z .nil)) (λi σ H' ⟨_,_,_,_,_,b',_⟩=>⟨b'.at na (G _ _ ρ),b'.at nam ξ⟩) ?_ ?_
 ·rintro i y z q3 σ H3 H4 hy hz ⟨o3,o4,o5,d,rfl,β,e3,I⟩ hq3 e4 γ;obtain⟨e,Z,re⟩:=rxs i y hy;have C:=aF Z;have hi:Ya2 i:=(aC.mp Z).1;have t23:=aW.tT β R;have O:=t23.trans γ.t;have μ:=G.t.trans O;obtain⟨b,cu,v,rfl,hb,ψ,rv'⟩:=re.t μ;obtain⟨bz,cz,va,η,ι,_,υ⟩:=k2 i e Z;rw[hz]at η;cases η;have S:H4 p=Y0g d:=γ _ _ e3;refine⟨q3,_,rfl,jC.of e4,rfl,_,_,rfl,_,_,rfl,rfl,Yv⟩;intro d_ n_;refine Y0n (O _ _ ι);refine Y8;have dz:ε<Y0A:=by
   have L:1*ε<=N*ε:=Y1z RO.n0;rw[Nat.one_mul]at L;exact Y7R L nd
  refine eN.i (υ.t O).v (rs.t μ).v (Y01) (Y01) (Yag (RO.fl e C) RO.n0 RO.nz) (Yas sq.fq d0 dz) λq5 H5 hq5 ο X=>?_;rw[aFh]at ο;have pq:Qn (N*ε) B (Y0f l e.1*n):=by have:=(RO.fl e C).mul sq;rwa [Nat.mul_one]at this
  have aa:kU K H5 (0,1) (YaH):=Yz c.NOUGHT (wI T.o_NOUGHT);refine Y5 (reK (kU.new ο).k aa.k (xK _) (xK _) ?_);rw[IB];refine Y8;have fpos:=RO.rl.posf C;by_cases z:n=0
  ·have ez:fZ (Y0f l e.1*n)=(0,1):=by rw[z,show aX F l e.1*0=0 by grind,KP]
   rw[ez];refine tH Dd (Y1B _ _ _ d (β.trans (γ.trans X).but) (X _ _ S) ?_);rcases I with⟨_,rfl⟩ | ⟨h,_⟩
   ·exact .inl (Y5l z)
   ·exact absurd z h
  ·have en:¬fZ (Y0f l e.1*n)=(0,1):=λq=>by
    have L:=congrArg rv q;rw[dP,show rv (0,1)=0 from oC]at L;have:Y0f l e.1≠0:=by grind
    rcases Rat.mul_eq_zero.mp L with h | h
    ·exact this h
    ·exact z h
   rw[cA en];refine CT Dd (Y2N);intro d_;rcases I with⟨h,_⟩ | ⟨_,I⟩
   ·exact absurd h z
   obtain⟨sa,sx,rfl,θ,J⟩:=rv';have ls:e.2.length=1+W:=(RO.sy e C).len;refine Y8X (X _ _ hb);refine Y2h sa (Ybl (X _ _ θ)) (uP (λj y H'=>Y7T (Y0f l e.1*n*cT e.2 j) y) (λj y H1 H2 s r=>r.flat s (dX _)) (by rw[J.len,ls];exact Oo) (X _ _ θ) (λj x H' Q' hx s' k'=>?_) (λD zs H6 hD e6 s6 κ hr6=>?_))
   ·obtain⟨g,hg,rg⟩:=J.at_ j x hx;obtain⟨φ,_,zg⟩:=(RO.sy e C).at_ g (aF hg);refine Y02;refine eN.i (kU.new (s' _ _ ο)) ((rg.t X.t).t s'.t).v (Y01) φ (Yag pq nd0 nd) (zg.up Dd) λτ H7 hq7 e7 α=>k' _ H7 α (gF ?_);have em:nU (fZ (Y0f l e.1*n)) g=fZ (Y0f l e.1*n*cT e.2 j):=Ybt φ (by rw[lT (Y01).pos φ.pos,dP,dP,vJ hg]);rw[<-em];exact e7
   ·refine sF (by show 2<=64;decide) λτ H7 hq7 e7 α=>?_;have m:=(X.trans s6).trans α;refine Y8X (m _ _ hb);have lk:Y8O ((l.take i).length):=I.length.symm;refine Y5x (m _ _ S) e.1 (by rw[fM];exact m _ _ ψ) (by rw[lk,gG];exact Oo) (λH8 e8 ω=>?_);have keys:=AV I;have new:fX d (Y2c e.1)=none:=by
     cases q:fX d (Y2c e.1)with
     | none=>rfl
     | some u =>
      exfalso;have L:=AJ q;rw[keys]at L;obtain⟨e',h2,h3⟩:=aN.mp L;have h4:e'.1=e.1:=Y36 h3;have h5:=RO.rl.nd;rw[<-List.take_append_drop i l,bF]at h5;have h6:e.1∈(l.drop i).map (·.1):=by
       rw[List.drop_eq_getElem_cons hi,bA];have:l[i]=e:=by rw[aB hi]at Z;exact fN Z
       rw[this];exact aY ..
      exact(List.nodup_append.mp h5).2.2 _ (aN.mpr ⟨e',h2,h4⟩) _ h6 rfl
    rw[CC _ new]at e8;refine Y1B _ _ _ _ ((β.trans (γ.trans m).but).trans ω) e8 (.inr (Y0o z));rw[hZ Z];have ζ:=m _ _ S;have lst:H7 D=Yc zs:=α _ _ e6;have pt:qV H7 (Y0f l e.1*n) (prX F l W n e) (.ref τ):=by
     refine⟨τ,_,D,zs,rfl,e7,gF (α _ _ (s6 _ _ ο)),lst,?_⟩;refine bD.ofIdx (by unfold prX;rw[κ,aA,aA,aQ,J.len,ls]) λj y hj=>?_;have χ:j<1+W:=by
      have:=(aC.mp hj).1;rw[κ,J.len,ls]at this;exact this
     exact Y0J (by unfold prX;rw[aE,aE,aZ χ];rfl) ((hr6 j y hj).same α)
    exact CF (Paired.imp' (λe p r=>⟨r.1,((r.2.same (γ.trans m)).but ω ζ)⟩) I) (Y0O (pt.but ω ζ))
 ·rintro σ H3 ⟨o3,o4,o5,d,rfl,β,e3,I⟩;refine Y8;rw[show l.take (min xs.length ys.length)=l from List.take_of_length_le Oo]at I;exact k p d H3 ν (aT.thru ν G β) e3 I
end
abbrev aBp:Stmt:=(top 49)
def aFJ:Yj ["one","other","whole"] a00 aBp:={}
abbrev Po:=Option (Rat × Y2j)
def PtO(H:Hp)(o:Po)(v:V):Prop:=match o with
 | none=>v=.non
 | some p=>qV H p.1 p.2 v
def EV(o:Po):Rat:=(o.map (·.1)).getD 0
def EM(o:Po)(j:Nat):Rat:=(o.map λp=>p.2.getD j 0).getD 0
structure VF(m P C:Nat)(o:Po):Prop where
 pos:∀p,o=some p->0<p.1/\Qn P C p.1/\p.2.length=m/\∀x∈p.2,Qn P C x
@[irreducible] def pP(K:Aa)(n:Nat):Sp:=λvs H Q _=>∃(x y:V) (a b:Po) (m P C:Nat),vs=[x,y]/\PtO H a x/\PtO H b y/\1<=n/\(a≠none\/(2<=n/\b≠none))/\VF m P C a/\VF m P C b/\0<P/\P<2^2500/\C<=2^190/\m<=5/\∀v H',Y0->Y2l H' ((List.range m).map λj=>fZ ((EM a j+EM b j)/(EV a+EV b))) v->Y1W
def JN{K:Aa}{n:Nat}{H:Hp}{Q:VK}{E:XK}{x y:V}{a b:Po}{m P C:Nat}(h1:PtO H a x)(h2:PtO H b y)(h3:1<=n)(h4:a≠none\/(2<=n/\b≠none))(h5:VF m P C a)(h6:VF m P C b)(h7:0<P)(h8:P<2^2500)(h9:C<=2^190)(h10:m<=5)(k:∀v H',Y0->Y2l H' ((List.range m).map λj=>fZ ((EM a j+EM b j)/(EV a+EV b))) v->Y1W):pP K n [x,y] H Q E:=by
 unfold pP;exact⟨x,y,a,b,m,P,C,rfl,h1,h2,h3,h4,h5,h6,h7,h8,h9,h10,k⟩
def CZ{H:Hp}{xs:Y2j}{vs:Al}(r:Y1n (xs.map λx=>iG (fZ x)) vs){i:Nat}{v:V}(h:vs[i]?=Yw):∃x,Y0p=Y7/\Y2W (fZ x) v:=by
 have c:Y1n ((xs.map fZ).map iG) vs:=by rw[List.map_map];exact r
 obtain⟨f,a,d⟩:=fO c h;rw[aE]at a;cases hx:Y0p with
 | none=>rw[hx]at a;cases a
 | some x=>rw[hx]at a;cases a;exact Yz x d
section
def aHI(F:Ye "says_of_parts" "says_of_parts" aBp)(T:Yk):dW P w K mg base dD 4 f fd a00 (pP K 0):=by
 refine F.okw aFJ (YfN) (λg A d s H e Q E i h=>?_)
 ·unfold pP at h;obtain⟨x,y,a,b,m,P,C,_,_,_,h,_⟩:=h;exact Oo
 ·unfold pP at h;obtain⟨x,y,a,b,m,P,C,_,_,_,h,_⟩:=h;exact Oo
def aIc(n:Nat)(F:Ye "says_of_parts" "says_of_parts" aBp)(T:Yk)(FQ47:Y6c 3 "over" (sN K))(FQ50:Y6c 2 "plus" (kF K))(FQ57:Y6c (4+n) "says_of_parts" (pP K n)):dW P w K mg base dD (4+n+1) f fd a00 (pP K (n+1)):=by
 refine Y17 aFJ;unfold pP at h;obtain⟨x,y,a,b,m,Pn,C,rfl,pa,pb,ψ,hor,oa,ob,L,J,τ,m5,k⟩:=h;refine Yi;intro cdv A outer s δ _;refine⟨_,(aH (Y6B (Y1I HK 0 nS) (YcC FQ57 Oo (Y2i 1 Y04)))
  (aH (Y6B (Y1I HK 1 nS) (Y6s (by rfl) ["part","one"] [0] (dJ (Y1C)) (YcC FQ47 Oo (Y2i 0 (Y5c 1)))))
  (aH (Y3x 2 aFJ.nd (YcC FQ50 Oo (Y2f Y1C Y1m)))
  (Y0Z (Ydd cV (by rfl) Kk (Y1p (Y7L ["first","second"] ["first","second","whole"] [2] (kZ false false rfl T.b_zip (Y2f Y1C Y1m)) (YcC FQ47 Oo (Y2f (YcC FQ50 Oo (Y2i 0 Y0t)) Y0c))))))))),?_⟩
 refine Yv;intro d_ n_;refine Y51 _ ?_;cases a with
 | none =>
  have Z:x=.non:=pa;subst Z;refine CT (cN rfl) (Y2N);intro d_;have hb:2<=n+1/\b≠none:=hor.resolve_left λq=>q rfl;refine Y02;refine JN pb pa Oo (.inl hb.2) ob oa L J τ m5 λv H' N r'=>k v H' N ?_;have e1:∀j,EM b j+EM none j=EM none j+EM b j:=λj=>Rat.add_comm _ _;have κ:EV b+EV none=EV none+EV b:=Rat.add_comm _ _;rw[κ]at r';simp only[e1]at r';exact r'
 | some pr =>
  obtain⟨e,d⟩:=pr;obtain⟨hq1,S,β,γ⟩:=oa.pos _ rfl;have β:Y8O m:=β;obtain⟨b1,pv1,L1,W,rfl,G,ε,I,X⟩:=(show qV H e d x from pa);refine tH (cA λz=>by cases z) (Y51 _ ?_);have lv1:W.length=m:=by have:=bD.len X;rw[aA]at this;exact Oo
  cases b with
  | none =>
   have hy:y=.non:=pb;subst hy;refine CT (cN rfl) (Y2N);intro d_;refine Y0n G;refine Y1E L1 I (dO (λj y H'=>∃x,d[j]?=Y7/\Y7T (x/e) y) (λj y H1 H2 s ⟨x,h1,h2⟩=>⟨x,h1,h2.flat s (dX _)⟩) Oo I (λj v H' Q' hv N k'=>?_) (λD ν H1 hD e1 s1 hz hr1=>?_))
   ·obtain⟨x,Z,η⟩:=CZ X hv;refine Y8X (N _ _ G);exact sN.i (kU.of (η.same N)) (kU.of (ε.same N)) hq1 (kM (γ x (aF Z)) L J (Y59 τ)) (kM S L J (Y59 τ)) λu H2 hq2 κ s2=>k' _ H2 s2 ⟨x,Z,gF κ⟩
   ·refine Y5m D ν (Y7o e1);have sl:=Y7n ν;refine k _ _ (s1.trans sl) (Ygb bH (by rw[hz,aA,aA,aQ];exact Oo) (λj y ι=>?_));obtain⟨x,Z,η⟩:=hr1 j y ι;have U:j<m:=by have:=(aC.mp ι).1;exact Oo
    refine Y05 _ (by rw[aE,aE,aZ U];rfl);have κ:Ybr (e,d) j=x:=by show Y7O j=x;rw[aM,Z];rfl
    show dA _ (iG (fZ ((Ybr (e,d) j+EM none j)/(EV (some (e,d))+EV none)))) y;rw[κ,show EM none j=0 from rfl,show EV (some (e,d))=e from rfl,show EV none=0 from rfl,show x+0=x by grind,show e+0=e by grind];exact η.same sl
  | some pr2 =>
   obtain⟨u,g⟩:=pr2;obtain⟨hq2,ξ,θ,φ⟩:=ob.pos _ rfl;have θ:g.length=m:=θ;obtain⟨b2,pv2,Lb,R,rfl,μ,rp2,ο,ζ⟩:=(show qV H u g y from pb);have lv2:R.length=m:=by have:=bD.len ζ;rw[aA]at this;exact Oo
   have ρ:C<=2^200:=Y59 τ;have c3:C+C<=2^200:=by
    have:(2:Nat)^190+2^190<=2^200:=Kk;exact Oo
   refine tH (cA λz=>by cases z) Y8;refine jK G rfl (Y0n μ);refine kF.i (kU.of ε) (kU.of rp2) (Y01) (Y01) (kM S L J ρ) (kM ξ L J ρ) λq3 H3 hq3 e3 O=>?_;rw[aAA]at e3;have ω:Qn Pn (C+C) (e+u):=S.add ξ;have w0:0<e+u:=by grind
   refine Y0n (O _ _ G);refine Y0n (O _ _ μ);refine Y1B L1 Lb W R (O _ _ I) (O _ _ ο) (kL (b1:=false) (b2:=false) (xs:=W) (ys:=R) (λj y H'=>∃r p,d[j]?=some r/\g[j]?=some p/\Y7T ((r+p)/(e+u)) y) (λj y H1 H2 s ⟨r,p,h1,h2,h3⟩=>⟨r,p,h1,h2,h3.flat s (dX _)⟩) Oo (O _ _ I) (O _ _ ο) Oo (λj v1 v2 H' Q' hv1 hv2 N k'=>?_) (λD ν H4 hD e4 s4 hz hr4=>?_))
   ·obtain⟨r,M,rx1⟩:=CZ X hv1;obtain⟨p,B,rx2⟩:=CZ ζ hv2;have ψ:=γ r (aF M);have n2:=φ p (aF B);have α:=O.trans N;refine Y02;refine kF.i (kU.of (rx1.same α)) (kU.of (rx2.same α)) (Y01) (Y01) (kM ψ L J ρ) (kM n2 L J ρ) λq5 H5 hq5 υ s5=>?_;rw[aAA]at υ;refine Y8;exact sN.i (kU.of (gF υ)) (kU.of (gF ((N.trans s5) _ _ e3))) w0 (kM (ψ.add n2) L J c3) (kM ω L J c3) λq6 H6 hq6 χ s6=>k' _ H6 (s5.trans s6) ⟨r,p,M,B,gF χ⟩
   ·refine Y5m D ν (Y7o e4);have sl:=Y7n ν;refine k _ _ ((O.trans s4).trans sl) (Ygb bH (by rw[hz,aA,aA,aQ];exact Oo) (λj y ι=>?_));obtain⟨r,p,M,B,η⟩:=hr4 j y ι;have U:j<m:=by have:=(aC.mp ι).1;exact Oo
    refine Y05 _ (by rw[aE,aE,aZ U];rfl);show dA _ (iG (fZ ((Ybr (e,d) j+Ybr (u,g) j)/(EV (some (e,d))+EV (some (u,g)))))) y;have υ:Ybr (e,d) j=r:=by show Y7O j=r;rw[aM,M];rfl
    have χ:Ybr (u,g) j=p:=by show g.getD j 0=p;rw[aM,B];rfl
    rw[υ,χ,show EV (some (e,d))=e from rfl,show EV (some (u,g))=u from rfl];exact η.same sl
end
abbrev aEd:Stmt:=(top 47)
def aAp:Yj ["one","other","share","one_parts","other_parts","table","counts"] a44 aEd:={}
def aB2{Ds:Nat}{s:Rat}(hs:Qn Ds 1 s)(ds:0<Ds)(h0:0<=s)(h1:s<=1):Qn Ds 1 (1-s):=by
 obtain⟨X,a,d⟩:=hs;have c:(0:Rat)<(Ds:Rat):=by exact_mod_cast ds
 have X0:0<=X:=by
  have:(0:Rat)<=(X:Rat):=by rw[<-a];exact YfV h0 c
  exact_mod_cast this
 refine⟨(Ds:Int)-X,?_,Oo⟩;rw[Rat.intCast_sub,rJ,<-a];grind
theorem YE{H:Hp}{F W:Nat}{es:Yg}{s:Rat}:∀{ds:Yg}{kvs:Yr},Ybg (λ(e:cZ) (p:List fJ × V)=>p.1=Y2c e.1/\qV H (Y4 e.1*s) (prX F es W s e) p.2) ds->(ds.map (·.1)).Nodup->∀e∈ds,∃v,Y2y e.1=Yw/\qV H (Y4 e.1*s) (prX F es W s e) v
 | _,_,.nil,_,e,he=>by cases he
 | d::ds,p::kvs,.cons r t,nd,e,he=>by
  rw[bA,List.nodup_cons]at nd;rcases bN.mp he with rfl | he
  ·exact⟨p.2,jF (by rw[r.1]),r.2⟩
  ·obtain⟨v,h1,h2⟩:=YE t nd.2 e he;refine⟨v,?_,h2⟩;have:¬p.1=kT (ci e.1):=λz=>nd.1 (by
    rw[r.1]at z;rw[show d.1=e.1 from jB (jA z)];exact aN.mpr ⟨e,he,rfl⟩)
   rw[jG this];exact h1
def IU.po{H:Hp}{F W M N B Ns Ds:Nat}{es:Yg}{s:Rat}{kvs:Yr}(h:IU H F W es es s kvs)(R:Y1M)(hs:Qn Ds 1 s)(s0':0<=s)(c:Ae) :
  ∃a:Po,PtO H a ((fX kvs (kT (ci c))).getD .non)/\EV a=s*Y4 c/\(∀j,j<1+W->EM a j=s*xF F es c j)/\VF (1+W) (N*Ds) B a/\((s≠0/\Y4e c (·.1))->a≠none):=by
 have d:(¬(s≠0/\Y4e c (·.1)))->Y2y c=none->∃a:Po,PtO H a ((fX kvs (kT (ci c))).getD .non)/\EV a=s*Y4 c/\(∀j,j<1+W->EM a j=s*xF F es c j)/\VF (1+W) (N*Ds) B a/\((s≠0/\Y4e c (·.1))->a≠none):=λm n=>by
  refine⟨none,by rw[n];rfl,?_,λj _=>?_,⟨λp q=>by cases q⟩,YeK q m⟩
  ·by_cases z:s=0
   ·rw[z];show(0:Rat)=_;grind
   ·rw[CA R.rl λi=>m ⟨z,i⟩];show(0:Rat)=_;grind
  ·by_cases z:s=0
   ·rw[z];show(0:Rat)=_;grind
   ·rw[pO λi=>m ⟨z,i⟩];show(0:Rat)=_;grind
 rcases h with⟨z,rfl⟩ | ⟨z,h⟩
 ·exact d (λq=>q.1 z) rfl
 ·by_cases i:Y4e c (·.1)
  ·obtain⟨e,g,rfl⟩:=aN.mp i;obtain⟨v,l,w⟩:=YE h R.rl.nd e g;refine⟨some (Y4 e.1*s,prX F es W s e),by rw[l];exact w,?_,λj r=>?_,⟨λp q=>?_⟩,λ_ q=>by cases q⟩
   ·show Y4 e.1*s=_;grind
   ·show(prX F es W s e).getD j 0=_;unfold prX;rw[aM,aE,aZ r,uX R.rl g];show Y4 e.1*s*cT e.2 j=_;grind
   ·cases q;refine⟨Rat.mul_pos (R.rl.posf g) (by grind),?_,by unfold prX;rw[aA,aQ],λx y=>?_⟩
    ·have:=(R.fl e g).mul hs;rwa [Nat.mul_one]at this
    ·obtain⟨j,_,rfl⟩:=aN.mp y;have:=(R.fs e g j).mul hs;rw[Nat.mul_one]at this;rw[show aX F es e.1*s*cT e.2 j=aX F es e.1*cT e.2 j*s by grind];exact this
  ·refine d (λq=>i q.2) ?_;cases q:Y2y c with
   | none=>rfl
   | some u =>
    exfalso;have l:=AJ q;rw[AV h]at l;obtain⟨e,g,A⟩:=aN.mp l;exact i (by rw[<-Y36 A];exact Y32 e g)
def aDK{K:Aa}{H:Hp}{gs:Ak}{v:V}(h:Y2l H gs v):MA K H gs v:=by
 obtain⟨g,j,rfl,a,r⟩:=nT h;refine Y0i g j a ⟨iE r,λi x e=>?_⟩;obtain⟨f,d,c⟩:=fO r e;exact⟨f,d,.inl c⟩
def QT{H:Hp}{kvs:Yr}{ys:Al}{cs:Ab}(h:DT H kvs ys)(e:kvs.map (·.1)=cs.map λc=>Y2c c){i:Nat}{v:V}(hv:Y1o=Yw):∃c b,cs[i]?=Y1h/\v=Y0e/\H b=Yf ((ci c).map V.int):=by
 have n:i<kvs.length:=by rw[<-h.1];exact(aC.mp hv).1
 have d:=aB n;obtain⟨b,g,j⟩:=h.2 i _ d;rw[hv]at g;cases g;have a:=congrArg (λl:List (List fJ)=>l[i]?) e;have a:(kvs.map (·.1))[i]?=(cs.map λc=>Y2c c)[i]?:=a;rw[aE,aE,d]at a;cases hc:cs[i]? with
 | none=>rw[hc]at a;cases a
 | some c =>
  rw[hc]at a;have m:kvs[i].1=Y2c c:=fN a;refine Y53 c b ?_;rw[j,m];congr 2;exact yQ (ci c)
def ksP(s:Rat)(es:Yg):Ab:=if s=0 then[] else es.map (·.1)
def IU.ks{H:Hp}{F W:Nat}{es:Yg}{s:Rat}{kvs:Yr}(h:IU H F W es es s kvs):kvs.map (·.1)=(ksP s es).map λc=>Y2c c:=by
 unfold ksP;rcases h with⟨z,rfl⟩ | ⟨z,h⟩
 ·rw[if_pos z];rfl
 ·rw[if_neg z,AV h,List.map_map];rfl
inductive wO (K:Aa):Yq
 | i {H:Hp} {Q:VK} {E:XK} {x y sv:V} {es fs:Yg} {F W M N B Ns Ds:Nat} {s:Rat} (h1:MB K H es x) (h2:MB K H fs y) (h3:BH K H (fZ s) sv) (h4:Y1a) (h5:Y1M) (h6:oZ F W M N B Ns fs) (h7:Qn Ds 1 s) (h8:0<Ds) (h9:N*Ds<2^2500) (h10:W<=4) (h11:(Y0a).length<=64) (k:∀v H',Y0->MB K H' (mE F W M es fs s) v->Y1W):wO K [x,y,sv] H Q E
section
def aIs(F:Ye "mixed" "mixed" aEd)(T:Yk)(FQ48:Y10 4 "parts_of" ["rule","share"] (sM K))(FQ38:Y6c 3 "less" (qD K))(FQ57:Y6c 6 "says_of_parts" (pP K 2))(FQ56:Y10 5 "rule_within" a05 (pZ K))(FQ55:Y03 "rule_faces" a42 (jP K)):dW P w K mg base dD 7 f fd a44 (wO K):=by
 refine Y17 aAp;obtain @⟨H,Q,E,x,y,sv,es,fs,F,W,M,N,B,Ns,Ds,l,rx,ry,rs,I,RA,RB,sq,ν,nd,w4,few,k⟩:=h;refine Yi;intro cdv A outer s hr _;have nd0:0<N*Ds:=dU RA.n0 ν;have dz:Ds<Y0A:=by
  have α:1*Ds<=N*Ds:=Y1z RA.n0;rw[Nat.one_mul]at α;exact Y7R α nd
 have ab:=aB2 sq ν I.s0' I.s1;refine⟨_,(aH (Y2d 3 aAp.nd FQ48 0 Y0c)
  (aH (Y2d 4 aAp.nd FQ48 1 (cR FQ38 (YbN YcH T.g_ONE rfl) (Y0c)))
  (aH (cM (i:=5) aAp.nd nE)
  (aH (Y7M (dJ (cG vN (iF (LK rfl) (by rfl) T.b_list Kk (Y3L 3)) (iF (LK rfl) (by rfl) T.b_list Kk (Y3L 4)))) 6 aAp.nd (iY hr.u1 (aD 5) (aD 6) (cR FQ57 (PF hr.u1 (Y0X) (aD 6)) (PF hr.u1 (Y1b) (aD 6)))))
  (Y0Z (cR FQ56 (Y0D FQ55 0) (aD 5))))))),?_⟩
 refine Yv;intro d_ n_;refine Y02;refine sM.i rx RA I.f1 I.f4 rs sq ν nd w4 λψ m H1 hd1 s1 e1 S=>Yt;intro d_ n_;refine Y8;have hoc:kU K H1 (1,1) (YcH):=Yz c.ONE (wI T.o_ONE);refine Y8;refine qD.i hoc (rs.t s1.t).v ZE (Y01) (Yas (Fn.one 1) Dd Kk) (Yas sq.fq ν dz) λq2 H2 hq2 e2 s2=>?_;have ef0:qR (1,1) (yM (fZ l))=fZ (1-l):=by rw[<-RE,aDF]
 rw[ef0]at e2;refine sM.i (ry.t (s1.trans s2).t) RB I.f1 I.f4 (.inl (gF e2)) ab ν nd w4 λφ C H3 hd3 s3 e3 U=>Yt;intro d_ n_;have J:=s2.trans s3;have ι:=S.mono (YfO J h);have S3:=s1.trans J;have l1:m.length<=64:=by
  have:=Y7u S.ks;rw[aA,aA]at this;rw[this];unfold ksP;split
  ·exact Y0L
  ·rw[aA];exact RA.few
 have l3:C.length<=64:=by
  have:=Y7u U.ks;rw[aA,aA]at this;rw[this];unfold ksP;split
  ·exact Y0L
  ·rw[aA];exact RB.few
 intro p ε;refine Yt;intro d_ n_;have ζ:=Y6H [] ε;have e4:(upd H3 p (.dT [])) p=Y0g []:=bH;generalize upd H3 p (.dT [])=H4 at ζ e4;have χ:H4 ψ=Y0g m:=(J.trans ζ) _ _ e1;have κ:H4 φ=Y0g C:=ζ _ _ e3;refine Y8;refine rlst χ Oo λD5 g H5 hD5 e5 δ s5=>Y8;refine rlst (s5 _ _ κ) Oo λD6 r H6 hD6 e6 k6 s6=>OF (s6 _ _ e5) e6 (by rw[δ.1,k6.1];exact Oo) λD7 H7 aa e7 s7=>?_;obtain⟨θ,D⟩:∃θ,θ=ksP l es++ksP (1-l) fs:=Y37;have d:m.length=(ksP l es).length:=by have:=Y7u S.ks;rwa [aA,aA]at this
 have ρ:C.length=(ksP (1-l) fs).length:=by have:=Y7u U.ks;rwa [aA,aA]at this
 have s67:=s6.trans s7;have at_:∀(i:Nat) (v:V),(g++r)[i]?=Yw->∃c b,θ[i]?=Y1h/\v=Y0e/\H7 b=Yf ((ci c).map V.int):=λi v γ=>by
  by_cases hi:i<g.length
  ·rw[cJ hi]at γ;obtain⟨c,b,α,ο,h3⟩:=QT δ S.ks γ;exact⟨c,b,by rw[D,cJ (by rw[<-d,<-δ.1];exact hi)];exact α,ο,s67 _ _ h3⟩
  ·rw[cB Oo]at γ;obtain⟨c,b,α,ο,h3⟩:=QT k6 U.ks γ;refine⟨c,b,?_,ο,s7 _ _ h3⟩;rw[D,cB (by rw[<-d,<-δ.1];exact Oo),<-d,<-δ.1];exact α
 have lcs:θ.length=(g++r).length:=by rw[D,aU,aU,δ.1,k6.1,d,ρ]
 have lys:(g++r).length<=128:=by rw[aU,δ.1,k6.1];exact Oo
 have S47:=(s5.trans s6).trans s7;have L:H7 p=Y0g []:=S47 _ _ e4;have e7a:H7 ψ=Y0g m:=S47 _ _ χ;have e7b:H7 φ=Y0g C:=S47 _ _ κ;have n1:ψ≠p:=λz=>by rw[z]at e1;rw[(J _ _ e1)]at ε;cases ε
 have n3:φ≠p:=λz=>by rw[z]at e3;rw[e3]at ε;cases ε
 have nD:D7≠p:=λz=>by rw[z,(s5.trans s6) _ _ e4]at aa;cases aa
 have ps7:=ι.mono (YfO (ζ.trans S47) h);have ps8:=U.mono (YfO (ζ.trans S47) h);have cin:∀c∈θ,(l≠0/\Y4e c (·.1))\/(1-l≠0/\YcZ c (·.1)):=λc η=>by
  rw[D]at η;unfold ksP at η;rcases dM.mp η with h | h
  ·split at h
   ·cases h
   ·rename_i z;exact Y4c z h
  ·split at h
   ·cases h
   ·rename_i z;exact Y2G z h
 refine Y1E D7 e7 (Yda (g++r) (λi σ H'=>∃(o6:Am) (a:Yr),σ=[Y7,Y0b,some sv,Y3 ψ,Y3 φ,Y3c,o6]/\aW p H7 H'/\H' p=Y0g a/\a.length<=i/\∀c∈θ.take i,∃v,fX a (Y2c c)=Yw/\MA K H' (mS F W es fs l c) v) ⟨_,[],rfl,(Y06).but,L,Yl,λc η=>by rw[List.take_zero]at η;cases η⟩ (λi σ H' _ ⟨_,_,_,b',_⟩=>Yet nD e7) ?_)
 ·rintro i v σ H8 γ ⟨o6,a,rfl,Z,e8,l8,O⟩;refine Y5A;intro d_;obtain⟨G,bb,X,rfl,hbb⟩:=at_ i v γ;have hi:i<(g++r).length:=(aC.mp γ).1;have t78:=aW.tT Z L;have n:=t78 _ _ hbb;have ξ:=Z.at n1 e7a;have ω:=Z.at n3 e7b;obtain⟨pa,pa1,pa2,pa3,pa4,pa5⟩:=(ps7.mono λ_ _ _ h=>qV.but Z L h).po RA sq I.s0' G;obtain⟨pb,pb1,pb2,pb3,pb4,pb5⟩:=(ps8.mono λ_ _ _ h=>qV.but Z L h).po RB ab (by have:=I.s1;grind) G;have hin:=cin G (aF X);refine⟨_,rfl,ψ,rfl,Y2G m (.inl ξ),_,rfl,_,oE.ct (c:=ci G) ξ n,⟨_,rfl,φ,rfl,Y2G C (.inl ω),_,rfl,_,oE.ct (c:=ci G) ω n,?_⟩⟩;refine JN pa1 pb1 Dd (hin.elim (λh=>.inl (pa5 h)) λh=>Y2G Dd (pb5 h)) pa4 pb4 nd0 nd (Y59 RA.b) Oo λv9 H9 β r9=>?_;have em:((List.range (1+W)).map λj=>fZ ((EM pa j+EM pb j)/(EV pa+EV pb)))=mS F W es fs l G:=by
   unfold mS;refine cU λj hj=>?_;have hj:=bL.mp hj;rw[pa2,pb2,pa3 j hj,pb3 j hj]
   rfl
  rw[em]at r9;refine Y02;refine Y5x (β _ _ e8) G (β _ _ n) Oo (λH10 e10 υ=>?_);have μ:=aW.tT υ (β _ _ e8);refine⟨_,_,rfl,(Z.trans β.but).trans υ,e10,?_,λc' τ=>?_⟩
  ·have:=Y6n a G v9;exact Oo
  ·rw[iC];by_cases q:c'=G
   ·subst q;rw[Ys];exact Yz v9 ((aDK r9).t μ)
   ·rw[Y2t (q (Y36 z))];rw[hZ X]at τ;rcases dM.mp τ with h | h
    ·obtain⟨u,α,ο⟩:=O c' h;exact⟨u,α,(ο.t β.t).t μ⟩
    ·exact Yef h q
 ·rintro σ H8 ⟨o6,a,rfl,Z,e8,l8,O⟩;rw[<-lcs,dY]at O;have S8:aT H H8:=aT.thru ((S3).free ε) ((S3.trans ζ).trans S47) Z;have T':=Yg6 W few;obtain⟨e0,er,ees,ez0⟩:=RA.rl.root;refine Y5 (jP.i (e:=e0) (es:=er) (by rw[<-ees];exact rx.t S8.t) ?_);rw[ez0,bV];refine Y8;refine pZ.i (R:=mR F es fs l) (sy:=mS F W es fs l) (Y2r e8 (λG X=>O G ?_)) T' λv9 H9 β r9=>k v9 H9 (S8.trans β) r9;rw[D];unfold ksP;rcases I.keys X with⟨z,h⟩ | ⟨z,h⟩
  ·exact cL _ (by rw[if_neg z];exact h)
  ·exact cK _ (by rw[Y31 (z (by grind))];exact h)
end
abbrev aEo:Stmt:=(top 6)
def aFL:Yj ["n","d","divisor"] ["n","d"] aEo:={}
inductive qF:Yq
 | i {H:Hp} {Q:VK} {E:XK} {n d:Int} (h:0<d) (z:d.natAbs<2^9000) (q:EF H Q (lw n d)):qF [Y5I,.int d] H Q E
section
def aIE(F:Ye "fraction" "fraction" aEo)(T:Yk)(FQ19:Y03 "common_divisor" a03 sB):dW P w K mg base dD 2 f fd ["n","d"] qF:=by
 refine F.oky aFL λD H Q E h=>?_;obtain @⟨H,Q,E,n,d,a,z,q⟩:=h;refine Yi;intro r A e s G _;have u:(d.natAbs:Int)=d:=Oo;have g:=YcP a;have j:=yS (n:=n) a z;refine⟨_,(aH (iR (Y1I oU 1 aO) (aV PC) fR)
  (aH (Y2d 2 aFL.nd FQ19 0 (Y6a aAj (by rfl) T.b_abs Kk 1))
  (aH (MH (iR (Y1I zR 1 aO) (aV (Y1q aFL.nd (BO vK (Y0c)))) fR))
  (Y0Z (Y35 (Y2I gI 0 2) (Y2I gI 1 2)))))),?_⟩
 refine Yv;intro C y;refine Y51 _ (tH (cA λz=>by injection z with z;exact Oo) ?_);refine Y07 (raI ?_);rw[u];refine sB.i a (Yt);intro C y;refine Y05 (λσ H'=>σ=[Yb n,Yb d,Yb (Int.gcd n d:Int)]/\H'=H) ?_
 ·rintro σ H2 ⟨rfl,rfl⟩;refine⟨_,rfl,_,rfl,_,_,rfl,rfl,pL g j,_,rfl,_,rfl,_,_,rfl,rfl,pL g j,?_⟩;exact sF (by show 2<=64;decide) λp H3 l m B=>q p H3 l m B
 ·exact⟨_,rfl,_,_,rfl,rfl,_,rfl,tH (cA Oo) Y6o⟩
end
def XB{α:Type}(l:Yu)(f g:Y3a)(s:Rat):YbI (s*f a+(1-s)*g a)=s*Y46+(1-s)*cW l g:=by
 rw[<-lO,<-lO,<-jV]
def XQ(F:Nat)(es:Yg)(m:Ab)(q:Y0y)(j:Nat):Rat:=Y3w m (xF F es c j*q c)
section
variable{F W M N B Ns L:Nat}{es fs:Yg}{s:Rat}{q:Y0y}{cs:Ak}{i:Nat}
def NA(R:Y1D){m:Ab}(nd:m.Nodup)(hs:∀c∈es.map (·.1),c∈m)(w:Nat):gM F es q w=XQ F es m q (1+w):=by
 unfold gM XQ;rw[<-AU R nd hs q (1+w)];exact Y6h (by grind)
def GY(R:Y1D){m:Ab}(nd:m.Nodup)(hs:∀c∈es.map (·.1),c∈m):gE F es q (cT cs)=XQ F es m (λc=>Y7N cs*q c) 0:=by
 unfold gE XQ;rw[<-AU R nd hs (λc=>Y7N cs*q c) 0];exact Y6h (by show cT cs e.1.sum*(Y4 e.1*q e.1*cT e.2 0)=_;grind)
def aDc(I:Y1a)(T:uW F M (Y5K F s) (mS F W es fs s) (mR F es fs s)){m:Ab}{j:Nat}(hj:j<1+W):XQ F (mE F W M es fs s) m q j=s*XQ F es m q j+(1-s)*XQ F fs m q j:=by
 unfold XQ;rw[<-XB];exact dC λc _=>by rw[I.x T c hj];unfold mX;grind
def JY(I:Y1a)(few:(Y0a).length<=64)(q:Y0y)(cs:Ak):(∀w,w<W->gM F (mE F W M es fs s) q w=s*gM F es q w+(1-s)*gM F fs q w)/\gE F (mE F W M es fs s) q (cT cs)=s*gE F es q (cT cs)+(1-s)*gE F fs q (cT cs):=by
 have T:=Yg6 W few;have a:=pI F I.f4 M I.m5;have i:∀c∈es.map (·.1),Y3Q c:=λc d=>by
  obtain⟨e,g,rfl⟩:=Ya7;exact(fT I.f1).mpr ⟨I.ra.len e g,(I.oa e g).1⟩
 have j:∀c∈fs.map (·.1),Y3Q c:=λc d=>by
  obtain⟨e,g,rfl⟩:=Ya7;exact(fT I.f1).mpr ⟨I.rb.len e g,(I.ob e g).1⟩
 have h:∀c∈(mE F W M es fs s).map (·.1),Y3Q c:=λc d=>by rw[yN]at d;exact(iZ I.f1).subset d
 exact⟨λw l=>by rw[NA (I.rl T) a h,NA I.ra a i,NA I.rb a j,aDc I T Oo],by rw[GY (I.rl T) a h,GY I.ra a i,GY I.rb a j,aDc I T Oo]⟩
def YX(I:Y1a)(few:(Y0a).length<=64)(q:Y2M)(mix:Yx)(cs:Ak):gC F W (mE F W M es fs s) q mix (cT cs)=s*gC F W es q mix (cT cs)+(1-s)*gC F W fs q mix (cT cs):=by
 unfold gC;rw[<-eT,<-eT,<-nH];exact bP λw a=>by rw[(JY I few (q w) cs).2];grind
def oZ.any(R:Y1M):oY F W M es:=⟨R.rl,R.sum,R.on,λe a=>⟨(R.sy e a).nn,(R.sy e a).rest⟩⟩
end
def oZ.up{F W M N B Ns D C:Nat}{es:Yg}(R:Y1M)(d0:0<D)(hC:B<=C)(hz:D*N*Ns^M<2^1800)(hc:C<=2^100):oZ F W M (D*N) C Ns es :=
 ⟨R.rl,R.sum,R.sy,R.few,R.on,λe a=>((R.fl e a).dvd ⟨D,Nat.mul_comm ..⟩).le hC,λe a v=>((R.fs e a v).dvd ⟨D,Nat.mul_comm ..⟩).le hC,dU d0 R.n0,R.s1,hz,hc,R.m⟩
def oZ.mx{F W M N B Ns:Nat}{es fs:Yg}{s:Rat}(A:Y1M)(A':oZ F W M N B Ns fs)(f1:1<=F)(f4:F<=4)(m5:M<=5)(h0:0<=s)(h1:s<=1):Y1a :=
 ⟨A.rl,A'.rl,f1,f4,m5,A.sy,A'.sy,λe a=>⟨A.sum e a,A.on e a⟩,λe a=>⟨A'.sum e a,A'.on e a⟩,h0,h1⟩
def aGH{W b:Nat}(hb:b<=W):MG (1+W) (zZ W b):=by
 have l:(zZ W b).length=1+W:=by unfold zZ;rw[aA,aQ]
 refine Y05 l (λf c=>?_)
 ·unfold zZ at c;obtain⟨k,_,rfl⟩:=aN.mp c;have:1<Y0A:=Yfi;split
  ·exact⟨ZE,Dd,this,this⟩
  ·exact⟨TX,Dd,Y61,this⟩
 ·rw[tY,l,bP (g:=λk=>if k=b then 1 else 0) λk a=>rH a,BS (v:=b) Oo λk _ a=>if_neg a,Ys]
def aGI{F W M Ns:Nat}{best:Y0z}(hF:1<=F)(f4:F<=4)(m5:M<=5)(on:∀c,Y0s=0->Y1U)(bw:∀c∈rise F M,Y0s<=W)(few:(Y0a).length<=20)(s1:0<Ns)(hz:Ns^M<2^1800):oZ F W M 1 (5^20) Ns Y1w:=by
 have A:=QD (W:=W) hF f4 m5 on bw;have h:∀e∈rul F W M best,MG (1+W) e.2:=λe a=>by
  obtain⟨c,j,rfl⟩:=aN.mp a;exact aGH (bw c ((iZ hF).subset j))
 have i:∀e∈rul F W M best,∀v,Qn 1 1 (cT e.2 v):=λe a v=>by
  obtain⟨c,j,rfl⟩:=aN.mp a;show Qn 1 1 (cT (Y6j W) v);by_cases hv:v<1+W
  ·rw[rH hv];split
   ·exact Qn.one' 1
   ·exact Y7I _
  ·rw[tU (by have:=(h _ a).len;show(Y6j W).length<=v;unfold zZ;rw[aA,aQ];exact Oo)];exact Y7I _
 have l:(Y1w).length<=20:=by
  unfold rul;rw[aA];exact aK (iZ hF).length_le few
 have g:∀d,Qn 1 (5^20) (Y2p Y1w):=λd=>by
  have:=A.rl.qn (N:=1) (λe a=>i e a 0) f4 _ (Yl) d;rw[dY,Nat.one_pow]at this;exact this.le (Y4N l)
 refine⟨A.rl,A.hM,h,Oo,A.on,λe a=>g e.1,λe a v=>?_,Dd,s1,by rw[Nat.one_mul];exact hz,Kk,Oo⟩;have:=(g e.1).mul (i e a v)
 rwa [Nat.mul_one,Nat.mul_one]at this
abbrev aDV:Stmt:=(top 81)
def LP:Yj ["faces","weighing","master","rule","share","row","thing","other"] a31 aDV:={}
def EC(ts:Y0C)(j:Nat):Bool:=(ts[j]?.map λt=>decide (t.word=Str.ofString "rule")).getD false
def wsum(W:Nat)(b:Y1)(R:Md.fE)(ts:Y0C)(i:Nat)(g:Yx):Rat:=Y8W i (if EC ts j=true then((Md.rho (W+1) b R j 0:Int):Rat)*g j else 0)
abbrev DB(W U:Nat):Nat:=(W+1)*RB W U
structure ME(F W M U Ns:Nat):Prop where
 few:(Y0a).length<=20
 s1:0<Ns
 nz:DB W U^(W+1)*Ns^M<2^1800
structure MrQ(F W M U Ns:Nat)(ss:Aj)(mix cs:Ak)(us:Ae)(cu:Nat)(b:Y1)(B R:Md.fE)(ts:Y0C)(i:Nat)(es:Yg)(N:Nat):Prop where
 ru:oZ F W M N (2^i*5^20) Ns es
 n:N<=DB W U^i
 cost:(cu:Rat)*(Y3U W b R i (λ_=>1)*Y5S F W es)=Y3U W b R i (λj=>(((ts[j]?.map (·.cost)).getD 0:Int):Rat))
 said:∀(w u:Nat),us[w]?=Ym->(u:Rat)*(Y3U W b R i (λ_=>1)*(1-gM F es (Y5i w) w))=Y3U W b R i (λj=>((B j w:Int):Rat))
def aCS(K:Aa)(H:Hp)(F W M U Ns:Nat)(ss:Aj)(mix cs:Ak)(us:Ae)(cu:Nat)(b:Y1)(B R:Md.fE)(ts:Y0C)(i:Nat)(v:V):Prop:=∃es N,MB K H es v/\MrQ F W M U Ns ss mix cs us cu b B R ts i es N
def zX(W:Nat)(b:Y1)(R:Md.fE)(ts:Y0C)(i:Nat):Int:=Md.eC i λj=>if EC ts j=true then Md.rho (W+1) b R j 0 else 0
section
variable{F W M:Nat}{ss:Aj}{mix ps cs:Ak}{Ns Nm Np Nc BB Nr:Nat}{us:Ae}{cu X U e i:Nat}{b:Y1}{H:Hp}{B R:Md.fE}{p:Int}{ts:Y0C}
def mI(g:Yx):Y3U W b R (i+1) g=Y3U W b R i g+if EC ts i=true then((Md.rho (W+1) b R i 0:Int):Rat)*g i else 0:=eO _ _
def sQ(i:Nat):((zX W b R ts i:Int):Rat)=Y3U W b R i (λ_=>1):=by
 unfold zX wsum;rw[Md.qQ];refine bP λj _=>?_;split
 ·rw[Rat.mul_one]
 ·rfl
theorem XI(hr:∀j,j<W+1->0<=Md.rho (W+1) b R j 0):∀{i:Nat},i<=W+1->0<=zX W b R ts i
 | 0,_=>Int.le_refl 0
 | i+1,h=>by
  have h1:=XI hr (i:=i) Oo;have a:=hr i Oo;show 0<=zX W b R ts i+if EC ts i=true then Md.rho (W+1) b R i 0 else 0
  split <;> exact Oo
theorem xY(hr:∀j,j<W+1->0<=Md.rho (W+1) b R j 0)(g:Yx):∀{i:Nat},i<=W+1->zX W b R ts i=0->Y3U W b R i g=0
 | 0,_,_=>rfl
 | i+1,h,z=>by
  have h1:=XI (ts:=ts) hr (i:=i) Oo;have a:=hr i Oo;have z:zX W b R ts i+(if EC ts i=true then Md.rho (W+1) b R i 0 else 0)=0:=z;rw[mI];by_cases hi:EC ts i=true
  ·rw[if_pos hi]at z ⊢;rw[xY hr g Oo Oo,show Md.rho (W+1) b R i 0=0 by exact Oo];show 0+0*g i=0;grind
  ·rw[if_neg hi]at z ⊢;rw[xY hr g Oo Oo];grind
def ON(u1:1<=U):1<=DB W U:=dU (Ycc) (dU (Ycc) (dU (YdU (Md.BE _) u1) u1))
def ME.sz(mz:ME F W M U Nr)(u1:1<=U){N:Nat}(hi:i<=W+1)(hN:N<=DB W U^i):N*Nr^M<2^1800 :=
 aI (Y1z (aK hN (aJ (ON u1) hi))) mz.nz
def aCG(hi:i<=5):2^i*5^20<=2^100:=Y3B (Y1z (aJ (n:=2) Dd hi))
def aHe:DB W U<=ZB W U X:=dI _ (Y5Z Y61)
def aDJ(Z:AC F W M ss mix ps cs Ns Nm Np Nc BB us cu X U e b)(S:iK H F W M ss mix cs us cu b B R p ts)(hi:i<=W+1):(zX W b R ts i).natAbs<=DB W U:=by
 refine aK (Md.sL (C:=RB W U) λj a=>?_) (Y1z hi);split
 ·exact S.rho Z Oo Oo
 ·exact Y0L
def aGG{best:Y0z}(I:VE F W M ss mix ps cs Ns Nm Np Nc BB us cu X)(on:∀c,Y0s=0->Y1U):uW F M best (λc=>Y6j W) (· ∈ rise F M):=by
 refine⟨I.wo.f1,I.wo.f4,I.wo.m5,on,I.r4,λc _=>?_,(fT I.wo.f1).mpr ⟨bV,by simp⟩,λc d h f g=>?_⟩
 ·unfold zZ;rw[show 1+W=W+1 by exact Oo,List.range_succ_eq_map,bA];refine Y2R _ ?_;by_cases z:Y0s=0
  ·rw[if_pos z.symm];exact⟨λ_=>z,λ_=>Dd⟩
  ·rw[Y31 (z q.symm)];exact⟨λq=>Y6Q q,YeK q z⟩
 ·obtain⟨a,e⟩:=(fT I.wo.f1).mp d;have:=on c h;exact(fT I.wo.f1).mpr ⟨by rw[mC];exact a,by rw[gR Oo];exact Oo⟩
def MrQ.skip(Z:AC F W M ss mix ps cs Ns Nm Np Nc BB us cu X U e b)(mz:ME F W M U Nr){es:Yg}{N:Nat}(h:MrQ F W M U Nr ss mix cs us cu b B R ts i es N)(hi:i<W+1)(z:EC ts i=true->Y3J (W+1) 0=0):MrQ F W M U Nr ss mix cs us cu b B R ts (i+1) es N:=by
 have w:∀g,Y3U W b R (i+1) g=Y3U W b R i g:=λg=>by
  rw[mI];by_cases q:EC ts i=true
  ·rw[Y5B,z q];show _+0*g i=_;grind
  ·rw[Y2F];grind
 have w4:=Z.sl.wo.w4;have a:N<=DB W U^(i+1):=aK h.n (aJ (ON Z.u1) Oo);refine⟨?_,a,by rw[w,w];exact h.cost,λv u c=>by rw[w,w];exact h.said v u c⟩;have:=h.ru.up (D:=1) (C:=2^(i+1)*5^20) Dd (Y1z (Y4N Oo)) (by rw[Nat.one_mul];exact mz.sz Z.u1 Oo a) (aCG Oo)
 rwa [Nat.one_mul]at this
def JV(Z:AC F W M ss mix ps cs Ns Nm Np Nc BB us cu X U e b)(mz:ME F W M U Nr){best:Y0z}{a:Y1}{k:Int}(f:OR F W M ss mix cs us cu best a k):oZ F W M 1 (5^20) Nr (Y1w) :=
 aGI Z.sl.wo.f1 Z.sl.wo.f4 Z.sl.wo.m5 f.on f.bw mz.few mz.s1 (by have:=mz.sz (i:=0) (N:=1) Z.u1 (Y0L) (Yl);rwa [Nat.one_mul]at this)
def MrQ.first(Z:AC F W M ss mix ps cs Ns Nm Np Nc BB us cu X U e b)(mz:ME F W M U Nr)(hr:∀j,j<W+1->0<=Md.rho (W+1) b R j 0){best:Y0z}{t:nW}(ht:ts[i]?=Y79)(f:OR F W M ss mix cs us cu best (B i) t.cost)(hi:i<W+1)(is:EC ts i=true)(z:zX W b R ts i=0):MrQ F W M U Nr ss mix cs us cu b B R ts (i+1) (Y1w) 1:=by
 have w:∀g,Y3U W b R (i+1) g=((Md.rho (W+1) b R i 0:Int):Rat)*g i:=λg=>by rw[mI,YcT,xY hr g Oo z];grind
 have w4:=Z.sl.wo.w4;have a:1<=DB W U^(i+1):=Nat.pow_pos (ON Z.u1);refine⟨?_,a,?_,λv u c=>?_⟩
 ·have:=(JV Z mz f).up (D:=1) (C:=2^(i+1)*5^20) Dd (Y5Z Y61) (by rw[Nat.mul_one];exact mz.sz Z.u1 Oo a) (aCG Oo)
  rwa [Nat.one_mul]at this
 ·rw[w,w,ht];show _=_*((t.cost:Int):Rat);rw[f.cost];grind
 ·rw[w,w,f.col v u c];grind
def MrQ.more(Z:AC F W M ss mix ps cs Ns Nm Np Nc BB us cu X U e b)(mz:ME F W M U Nr){es:Yg}{N:Nat}(h:MrQ F W M U Nr ss mix cs us cu b B R ts i es N){best:Y0z}{t:nW}(ht:ts[i]?=Y79)(f:OR F W M ss mix cs us cu best (B i) t.cost)(hi:i<W+1)(is:EC ts i=true){r S:Int}{s:Rat}(er:Y3J (W+1) 0=r)(eS:zX W b R ts i=S)(r0:0<r)(S0:0<S)(hD:S+r<=(DB W U:Nat))(hs:s=(r:Rat)/((S+r:Int):Rat)) :
  gU F W M (Y1w) es s/\oZ F W M N (2^i*5^20) Nr (Y1w)/\Qn (S+r).toNat 1 s/\N*(S+r).toNat<2^2500/\MrQ F W M U Nr ss mix cs us cu b B R ts (i+1) (mE F W M (Y1w) es s) ((S+r).toNat*N):=by
 have w4:=Z.sl.wo.w4;have j:(0:Rat)<((S+r:Int):Rat):=by exact_mod_cast(by exact Oo:0<S+r)
 have p:(0:Rat)<(r:Rat):=by exact_mod_cast r0
 have S0':(0:Rat)<(S:Rat):=by exact_mod_cast S0
 have a:s*((S+r:Int):Rat)=(r:Rat):=by rw[hs,Rat.div_mul_cancel (Rat.ne_of_gt j)]
 have g:((S+r:Int):Rat)=(S:Rat)+(r:Rat):=Rat.intCast_add ..;have s0:0<=s:=Yf4 ((S+r:Int):Rat) (by rw[a,Rat.zero_mul];exact Rat.le_of_lt p);have s1:s<=1:=Yf4 ((S+r:Int):Rat) (by rw[a,Rat.one_mul,g];grind);have A:(S+r).toNat*N<=DB W U^(i+1):=by
  rw[Nat.pow_succ,Nat.mul_comm];exact Nat.mul_le_mul h.n Oo
 have z:=mz.sz Z.u1 (i:=i+1) Oo A;have few:(Y0a).length<=64:=Y3B mz.few;have RP:oZ F W M N (2^i*5^20) Nr (Y1w):=by
  have:=(JV Z mz f).up (D:=N) (C:=2^i*5^20) h.ru.n0 (Y5Z Y61) (by rw[Nat.mul_one];exact mz.sz Z.u1 Oo h.n) (aCG Oo)
  rwa [Nat.mul_one]at this
 have I:gU F W M (Y1w) es s:=RP.mx h.ru Z.sl.wo.f1 Z.sl.wo.f4 Z.sl.wo.m5 s0 s1;have w:Qn (S+r).toNat 1 s:=by
  refine⟨r,?_,Oo⟩;rw[<-a];congr 1;rw[<-Rat.intCast_natCast];congr 1;exact Oo
 have J:0<(S+r).toNat:=Oo;refine⟨I,RP,w,?_,?_,A,?_,λv u m=>?_⟩
 ·refine Y7R ?_ z;rw[Nat.mul_comm];exact Ydm (Nat.pow_pos mz.s1)
 ·have:=I.ru (Yg6 W few) RP h.ru w J few z (by have:=aCG (i:=i+1) Oo;rw[Nat.pow_succ,Nat.mul_comm (2^i) 2,Nat.mul_assoc]at this;exact this);rw[Nat.pow_succ,Nat.mul_comm (2^i) 2,Nat.mul_assoc];exact this
 ·have d:=h.cost;rw[<-sQ,eS]at d;rw[mI,mI,YcT,YcT,er,<-sQ,eS,YX I few,<-d,ht];show _=_+_*((t.cost:Int):Rat);rw[f.cost];have l:((S:Rat)+(r:Rat))*s=(r:Rat):=by rw[<-g,Rat.mul_comm];exact a
  generalize gC F W (rul F W M best) (gS ss) (cT mix) (cT cs)=x at *;generalize gC F W es (gS ss) (cT mix) (cT cs)=y at *;have:((S:Rat)+(r:Rat)*1)*(s*x+(1-s)*y)=(((S:Rat)+(r:Rat))*s)*x+((S:Rat)+(r:Rat))*y-(((S:Rat)+(r:Rat))*s)*y:=by grind
  rw[this,l];grind
 ·have d:=h.said v u m;have G:v<W:=by have:=(aC.mp m).1;rw[Z.sl.ul]at this;exact this
  rw[<-sQ,eS]at d;rw[mI,mI,YcT,YcT,er,<-sQ,eS,(JY I few (gS ss v) cs).1 v G,<-d,f.col v u m];have l:((S:Rat)+(r:Rat))*s=(r:Rat):=by rw[<-g,Rat.mul_comm];exact a
  generalize gM F (rul F W M best) (gS ss v) v=x at *;generalize gM F es (gS ss v) v=y at *;have:((S:Rat)+(r:Rat)*1)*(1-(s*x+(1-s)*y))=((S:Rat)+(r:Rat))-(((S:Rat)+(r:Rat))*s)*x-((S:Rat)+(r:Rat))*y+(((S:Rat)+(r:Rat))*s)*y:=by grind
  rw[this,l];grind
end
inductive wL (K:Aa) (G A:Addr):Yq
 | i {H:Hp} {Q:VK} {E:XK} {x m sa:Addr} {F W M:Nat} {ss:Aj} {mix ps cs:Ak} {Ns Nm Np Nc BB:Nat} {us:Ae} {cu X U e:Nat} {b:Y1} {B R:Md.fE} {p:Int} {uv:Al} {ts:Y0C} {Nr:Nat} (h1:AB H x G F W M ss mix cs us cu) (h2:tO H A m sa (W+1) b R p uv) (h3:kS H uv ts) (h4:AC F W M ss mix ps cs Ns Nm Np Nc BB us cu X U e b) (h5:iK H F W M ss mix cs us cu b B R p ts) (h6:ME F W M U Nr) (h7:0<Y3U W b R (W+1) (λ_=>1)) (k:∀v H',Y0->aCS K H' F W M U Nr ss mix cs us cu b B R ts (W+1) v->Y1W):wL K G A [.int (F:Int),Y23,.ref m] H Q E
section
def aH9(F:Ye "standing_mixed" "standing_mixed" aDV)(T:Yk)(FQ56:Y10 5 "rule_within" a05 (pZ K))(FQ49:Y03 "plain_table" a07 (uG K c.Weighing))(FQ41:Y10 7 "mixed" a44 (wO K))(FQ29:Y3j "fraction" ["n","d"] qF):dW P w K mg base dD 8 f fd a31 (wL K c.Weighing c.Master):=by
 refine Y17 LP;obtain @⟨H,Q,E,x,m,sa,F,W,M,χ,J,ps,φ,Ns,Nm,Np,Nc,BB,ο,υ,X,U,e,b,B,R,p,uv,C,ω,wg,η,th,Z,st,ν,pos,q⟩:=h;refine Yi;intro cdv A outer s hr _;have w4:=Z.sl.wo.w4;have O:=T.w_Master;refine⟨_,(aH (Y1r LP.nd nS)
  (aH (Y4T LP.nd aO)
  (aH (gH PassesOwn.never rfl (kZ false false rfl T.b_zip (Y2f (dN K (aD 2)) (dN K (aD 2)))) (mJ rfl (eK (Y9h 5 LP.nd) (eK (Y9h 6 LP.nd) kD))) (aV (iR (SM (GI (eQ oU (Y0N 6) (YeE "rule")) (AH (eQ FD (Y0N 5) aO)))) (aH (Y2d 7 LP.nd FQ56 0 (cR FQ49 (aD 1) (Y0N 6)))
  (aH (Y4T LP.nd (cG fS (aD 4) (Y0N 5)))
  (aV (Y1r LP.nd (oM (Y1I HK 3 nS) (aD 7) (Y38 FQ41 (aD 7) 3 (cR FQ29 (Y0N 5) (Y1b)))))))) fR)))
  (Y2x 3)))),?_⟩
 refine Yv;intro d_ n_;obtain⟨dx,ra,ι,LL⟩:=η.ex;obtain⟨las,ζ,ll,atr⟩:=LL;have δ:∀j,j<W+1->0<=Md.rho (W+1) b R j 0:=λj hj=>st.mst.share hj;refine Y1X (by simp) ι (uL ra sa p);refine Y1X (by simp) ι (tF ra sa p);refine Y1B ra sa _ _ ζ η.st (Ydq (las.map V.ref) uv (Ex4 λ(v:V) (o5 o6 γ:Am)=>An3 (σ=[Yb (F:Int),Y3 x,Y3 m,Yw,Yb (zX W b R C i),o5,o6,γ]) (Y0) (((zX W b R C i=0/\v=.non)\/(0<zX W b R C i/\aCS K H' F W M U ω χ J φ ο υ b B R C i v)))) ⟨_,_,_,_,rfl,Y06,.inl Y6o⟩ (λi σ H' ⟨_,_,_,_,_,s',_⟩=>⟨s' _ _ ζ,s' _ _ η.st⟩) ?_ ?_)
 ·rintro i y u pq σ H1 H2 hy hu ⟨v,o5,o6,γ,rfl,s1,ρ⟩ hpq e2 s2;have ε:i<W+1:=by have:=(aC.mp hu).1;rw[η.len]at this;exact this
  rw[aE]at hy;obtain⟨l,hl,rfl⟩:=eM.mp hy;have el:=atr i l _ hl (yG ε);obtain⟨t,κ,a,rfl,ha⟩:=th.get hu;have S2:=s1.trans s2;have sS:zX W b R C (i+1)=zX W b R C i+if EC C i=true then Y3J (W+1) 0 else 0:=rfl
  have θ:(zX W b R C i=0/\v=.non)\/(0<zX W b R C i/\aCS K H2 F W M U ω χ J φ ο υ b B R C i v):=by
   rcases ρ with g | ⟨L,τ,N,β,α⟩
   ·exact .inl g
   ·exact .inr ⟨L,τ,N,β.t s2.t,α⟩
  have skip:(EC C i=true->Y3J (W+1) 0=0)->zX W b R C (i+1)=zX W b R C i/\((zX W b R C (i+1)=0/\v=.non)\/(0<zX W b R C (i+1)/\aCS K H2 F W M U ω χ J φ ο υ b B R C (i+1) v)):=λz=>by
   have e:zX W b R C (i+1)=zX W b R C i:=by
    rw[sS];by_cases q:EC C i=true
    ·rw[Y5B,z q];exact Oo
    ·rw[Y2F];exact Oo
   refine Y0o e;rw[e];rcases θ with g | ⟨L,τ,N,β,α⟩
   ·exact .inl g
   ·exact .inr ⟨L,τ,N,β,α.skip Z ν ε z⟩
  have G:EC C i=Y9K "rule":=by unfold EC;rw[κ];rfl
  refine⟨pq,_,rfl,jC.of e2,rfl,_,_,rfl,_,_,rfl,rfl,Y2N⟩;intro d_;refine Y0n (S2 _ _ ha);refine Y2R rfl ?_;rw[tJ];by_cases hw:YeJ t.word "rule"
  ·rw[cN hw]at G ⊢;refine sD (Y5 (xH (S2 _ _ el) (v:=.int (Y3J (W+1) 0)) (Y6b (iA Oo)) ?_));refine Y5M _ _ _ ?_;have nn:=δ i ε;by_cases hp:0<Y3J (W+1) 0
   ·rw[cN hp];refine sD Yv;intro d_ n_;obtain⟨bp,kb,D,hv1,hbp,hB,fr⟩:∃bp kb D,t.v=.ref bp/\H bp=Y97/\VJ kb Y0a D/\OR F W M χ J φ ο υ D (B i) t.cost:=by
     rcases st.fit i t κ with⟨g,_⟩ | ⟨g,_⟩ | ⟨_,g⟩
     ·rw[hw]at g;exact Y6Q g
     ·rw[hw]at g;exact Y6Q g
     ·exact g
    rw[hv1]at ha;refine Y2O (Y8f (S2 _ _ ha));refine uG.i (wg.same S2) (S2 _ _ hbp) hB w4 Z.sl.r4 λd H3 s3 tb=>?_;have S3:=S2.trans s3;refine pZ.i (R:=(· ∈ rise F M)) (sy:=λc=>zZ W (D c)) tb (aGG Z.sl fr.on) λξ H4 s4 r4=>Yt;intro d_ n_;have r4:MB K H4 (rul F W M D) ξ:=r4;have S4:=S3.trans s4;refine Y07 (xH (S4 _ _ el) (v:=.int (Y3J (W+1) 0)) (Y6b (iA Oo)) ?_);refine Y53 _ _ ?_;have I:zX W b R C (i+1)=zX W b R C i+Y3J (W+1) 0:=by rw[sS,if_pos G]
    refine Y51 _ ?_;have s24:=s3.trans s4;rcases θ with⟨L,rfl⟩ | ⟨L,τ,N,β,α⟩
    ·exact sD (Y5 ⟨ξ,Y3 l,Y3X,some ξ,by rw[I];rfl,S4,.inr ⟨Oo,_,_,r4,MrQ.first Z ν δ κ fr ε G L⟩⟩)
    ·have g4:=β;obtain⟨va,vxs,rfl,_⟩:=g4;rw[show decide (V.ref va=V.non)=false from rfl];refine pS (Y2O (xH (S4 _ _ el) (v:=.int (Y3J (W+1) 0)) (Y6b (iA Oo)) ?_));refine Y8;have μ:=aDJ (i:=i+1) Z st Oo;rw[I]at μ;generalize er:Md.rho (W+1) b R i 0=r at hp μ I nn ⊢;generalize eS:zX W b R C i=S at L μ I ⊢;have dz:(S+r).natAbs<2^9000:=aI μ (Y7R aHe Z.zb);refine qF.i Oo dz λq5 H5 hq5 e5 s5=>?_;obtain⟨m1,m2,m3,m4,m5⟩:=α.more Z ν κ fr ε G er eS hp L Oo rfl;have el5:lw r (S+r)=fZ ((r:Rat)/((S+r:Int):Rat)):=iT (jZ Oo) Y01 (by rw[EX Oo,dP]);rw[el5]at e5;exact wO.i (r4.t s5.t) (β.t (s24.trans s5).t) (.inl (gF e5)) m1 m2 α.ru m3 Oo m4 w4 (Y3B ν.few) λnv H6 s6 r6=>⟨nv,Y3 l,Y3X,some ξ,by rw[I];rfl,(S4.trans s5).trans s6,.inr ⟨Oo,_,_,r6,m5⟩⟩
   ·rw[cA hp];obtain⟨ψ,k2⟩:=skip λ_=>Oo;exact pS ⟨v,Y3 l,Y3X,γ,by rw[ψ];rfl,S2,k2⟩
  ·rw[cA hw]at G ⊢;obtain⟨ψ,k2⟩:=skip λz=>by rw[G]at z;cases z
   exact pS (pS ⟨v,Y3 l,Y3X,γ,by rw[ψ];rfl,S2,k2⟩)
 ·rintro σ H1 ⟨v,o5,o6,γ,rfl,s1,ρ⟩;rw[aA,ll,nJ,η.len,Nat.min_self]at ρ;refine Y8;rcases ρ with⟨g,_⟩ | ⟨_,g⟩
  ·rw[<-sQ,g]at pos;exact Y6Q pos
  ·exact q v H1 s1 g
end
abbrev aD2:Stmt:=(top 80)
def aFK:Yj ["weighing","master","cost_unit","factors","parts"] a25 aD2:={}
abbrev aDM:Stmt:=(top 21)
def aJb:Yj ["aim"] ["aim"] aDM:={}
def prL(W:Nat)(R:Md.fE)(ts:Y0C)(us:Ae)(p:Int)(k:Nat):Ak:=(List.range W).map λw=>lw (-jJ W R ts w*((us.getD w 0:Nat):Int)) (p*(k:Int))
inductive qB (G A:Addr):Yq
 | i {H:Hp} {Q:VK} {E:XK} {x m sa:Addr} {F W M:Nat} {ss:Aj} {mix ps cs:Ak} {Ns Nm Np Nc BB:Nat} {us:Ae} {cu X U e:Nat} {b:Y1} {B R:Md.fE} {p:Int} {uv:Al} {ts:Y0C} {k:Nat} (h1:AB H x G F W M ss mix cs us cu) (h2:tO H A m sa (W+1) b R p uv) (h3:kS H uv ts) (h4:AC F W M ss mix ps cs Ns Nm Np Nc BB us cu X U e b) (h5:iK H F W M ss mix cs us cu b B R p ts) (h6:0<k) (h7:k<Y0A) (q:∀v H',Y0->Y2l H' (prL W R ts us p k) v->Y1W):qB G A [Y23,.ref m,.int (k:Int)] H Q E
def aEX{F W M:Nat}{ss:Aj}{mix ps cs:Ak}{Ns Nm Np Nc BB:Nat}{us:Ae}{cu X U e:Nat}{b:Y1}{H:Hp}{B R:Md.fE}{p:Int}{ts:Y0C}{k:Nat}(Z:AC F W M ss mix ps cs Ns Nm Np Nc BB us cu X U e b)(S:iK H F W M ss mix cs us cu b B R p ts)(k0:0<k):∀f∈prL W R ts us p k,Y13 ((p*(k:Int)).natAbs) (ZB W U X*U):=λf g=>by
 obtain⟨w,a,rfl⟩:=Y8P;have a:=Y71;have d:0<p*(k:Int):=Int.mul_pos S.mst.bs.pos Oo;refine Fn.of d (aK ?_ (Ydm Oo));rw[dQ,Int.natAbs_neg];refine Nat.mul_le_mul (S.zet Z (k:=w+1) Oo) ?_;have c:us[w]?=some (us[w]'(by rw[Z.sl.ul];exact a)):=aB _;rw[hJ c];exact Z.uU _ (aF c)
section
def aIh(F:Ye "prices_of" "prices_of" aD2)(T:Yk)(FQ54:Y3k "rates_of" a20 (mL c.Master))(FQ27:Y03 "factors_of" ["rates"] mO)(FQ29:Y3j "fraction" ["n","d"] qF):dW P w K mg base dD 4 f fd a25 (qB c.Weighing c.Master):=by
 refine Y17 aFK;obtain @⟨H,Q,E,x,m,ν,F,W,M,ss,mix,ps,cs,Ns,Nm,Np,Nc,BB,ε,cu,X,U,e,b,B,R,p,uv,η,k,wg,ζ,μ,Z,st,k0,N,q⟩:=h;refine Yi;intro ι A I s hr _;have w4:=Z.sl.wo.w4;have O:=T.w_Master;have OG:=T.w_Weighing;have pp:=st.mst.bs.pos;have D:=st.masz Z;obtain⟨dx,ra,J,LL⟩:=ζ.ex;obtain⟨ul,gx,fl,gr,ξ,wa,ca,tas,kvs,a0,a1,a2,a3,a4,a5,a6,θ,a8,a9,a10,a11⟩:=wg;refine⟨_,(aH (Y1r aFK.nd (gA FQ27 (Y0D FQ54 1)))
  (aH (Y3x 4 aFK.nd (Y1R eZ (dN K (aD 1)) 2))
  (Y0Z (Ydd cV (by rfl) Kk (Y1p (Y7L ["factor","unit"] ["factor","unit","parts"] [4] (Ybs 3 Y1S) (cR FQ29 (Y2I eZ 0 1) (Y0c)))))))),?_⟩
 refine Yv;intro ψ ρ;refine Y8;refine mL.i ζ μ D (st.costz Z) λD1 H1 ω υ τ=>mO.i υ Oo λD2 H2 ο β s2=>Yt;intro ψ ρ;have S2:=τ.trans s2;refine Y1X (by simp) (S2 _ _ J) (CM ra ν p);refine Y6E _ _ _ rfl (pA D.pz (show((k:Nat):Int).natAbs<2^3000 from N)) ?_;have pk:0<p*(k:Int):=Int.mul_pos pp Oo;have pz:(p*(k:Int)).natAbs<2^9000:=by
  rw[dQ];have δ:p.natAbs*((k:Nat):Int).natAbs<=Y0R*Y0A:=YbR (Nat.le_of_lt D.pz) N;rw[<-Nat.pow_add]at δ;exact aI δ (Ygd Dd)
 refine Y07 (Y4j OG (by simp) (S2 _ _ a0) a2);refine Y1B D2 ξ _ _ β (S2 _ _ θ) (kL (b1:=false) (b2:=false) (xs:=(dF W λi=>-jJ W R η i).map V.int) (ys:=ε.map FV) (λi z H'=>Y2K (lw (-jJ W R η i*((ε.getD i 0:Nat):Int)) (p*(k:Int))) z) (λ_ _ _ _ s r=>r.flat s (dX _)) (by rw[aA,cQ];exact Oo) β (S2 _ _ θ) (by rw[aA,aA,cQ,ul]) (λi y z H' Q' C S s' k'=>?_) (λD3 g H3 χ e3 s3 a G=>?_))
 ·have j:i<W:=by have:=(aC.mp C).1;rw[aA,cQ]at this;exact this
  rw[iA j]at C;cases C;rw[aE]at S;obtain⟨u,α,rfl⟩:=eM.mp S;have uz:=(YeH u α).2;refine⟨_,rfl,_,rfl,_,_,rfl,rfl,pA (n:=4000) (m:=3000) (by rw[Int.natAbs_neg];exact st.ratz Z Oo) (show((u:Nat):Int).natAbs<2^3000 from uz),Y8⟩;refine qF.i pk pz λq4 H4 aa φ κ=>k' _ H4 κ (gF ?_);rw[φ,hJ α]
 ·refine Y5m D3 g (Y7o e3);have sl:=Y7n g;have L:(upd H3 l (.tup g)) l=Yf g:=bH;generalize upd H3 l (.tup g)=H5 at sl L;refine q _ H5 ((S2.trans s3).trans sl) (dA.tup L (bD.ofRange (by rw[a,aA,cQ]) λi y j=>?_));have γ:=(aC.mp j).1;rw[a,aA,cQ]at γ;exact⟨γ,(G i y j).same sl⟩
end
inductive uE (K:Aa):Yq
 | i {H:Hp} {Q:VK} {E:XK} {v:V} {M:Nat} {bs mix cs:Ak} (h1:Y4A K H M v) (h2:cs.length<=64) (k:∀v' H',Y0->tR K H' M bs mix (List.replicate cs.length (0,1)) v'->Q v' H'):uE K [v] H Q E
section
def aH0(F:Ye "without_costs" "without_costs" aDM)(T:Yk):dW P w K mg base dD 1 f fd ["aim"] (uE K):=by
 refine F.oky aJb λε H Q E h=>?_;obtain @⟨H,Q,E,v,M,bs,R,κ,⟨a,O,B,ζ,rfl,e,β,α,L,J,rfl,z,S⟩,X,q⟩:=h;refine Yi;intro I A m s η _;have G:=S.len;refine Y6g _ (fD (Y4G Y1C Y1C (Y2f Y1C (Y6s (by rfl) ["one"] [] (xZ (Y1C)) (Yeq YaH rfl)))));refine Y0n e;refine Y0n e;refine Y0n e;refine Y0n e;refine Y2h L (Ybl z) (uP (xs:=J) (λi y H'=>BH K H' (0,1) y) (λi y H1 H2 s r=>r.t s) Oo z (λi y H' Q' g μ N=>?_) (λD d H1 θ δ W Z n=>?_))
 ·exact N _ H' (Y06) (.inr (Y5 T.o_NOUGHT))
 ·refine Y5m D d (Y4c (fV.of δ) (λl p=>?_));have sl:=Y4a d p;have u:(upd H1 l (.tup d)) l=Yf d:=bH;generalize upd H1 l (.tup d)=H2 at sl u;refine sF (by show 4<=64;decide) λU H3 γ C j=>?_;have S3:=(W.trans sl).trans j;refine q _ H3 S3 ⟨U,O,B,Y1j,rfl,C,β.same S3,α.same S3,l,d,rfl,j _ _ u,by rw[bV,Z,G],λi y g=>?_⟩;have ι:=(aC.mp g).1;exact⟨(0,1),by rw[List.getElem?_replicate,Y4U],(n i y g).t (sl.trans j).t⟩
end
abbrev aEv:Stmt:=(top 54)
def aHb:Yj ["trial","rule","aim","mix"] a46 aEv:={}
def HI{ws:Y0l}{i:Nat}{x:Str × Ak}(h:ws[i]?=Y7):gS (Y0K) i=wq x.2:=by
 funext c
 unfold gS;rw[hJ (by rw[aE,h];rfl)]
section
variable{F W M N B Ns Nc:Nat}{es:Yg}{s:Ak}{cs:Ak}
def oZ.spq(R:Y1M)(hs:∀f∈s,Y13 Ns 1)(C:CoC Nc es cs):Qn (Nc*(N*Ns^M)) (64*(1000*B)) (gE F es (wq s) (cT cs)):=by
 refine(Qn.sumL λe a=>?_).le (Y1z R.few);by_cases z:Y2=0
 ·rw[z,Rat.mul_zero,Rat.mul_zero];exact Y7I _
 ·exact(C.qn a z).mul (R.aqs hs a 0)
end
structure aHp(F W M Ns Nm Nc:Nat)(ws:Y0l)(mix cs:Ak):Prop where
 f1:1<=F
 f4:F<=4
 w4:W<=4
 wl:ws.length=W
 sh:∀x∈ws,∀f∈x.2,Y13 Ns 1
 bo:∀x∈ws,Y7l x.2
 ml:mix.length=W
 mx:∀f∈mix,Y13 Nm 1
 m0:0<Nm
 mz:Nm<=2^100
 c0:0<Nc
 c1:Nc<=1000000000000000
 ca:∀f∈cs,Y13 Nc 1000
 cl:Yd3 M
inductive wR (K:Aa):Yq
 | i {H:Hp} {Q:VK} {E:XK} {t r av:V} {es:Yg} {F W M Nc N B Ns Nm:Nat} {fs:Ah} {ws:Y0l} {bs mix cs:Ak} (h1:Y3f t) (h2:MB K H es r) (h3:Y4A K H M av) (h4:Y1M) (h5:aHp F W M Ns Nm Nc ws mix cs) (k:∀v H',Y0->Y7T (gC F W es (gS Y0K) Y6J (cT cs)) v->Y4P (fZ (gC F W es (gS Y0K) Y6J (cT cs)))->(fZ (gC F W es (gS (iW ws)) (cT mix) (cT cs))).2.natAbs<2^1960->Y1W):wR K [t,r,av] H Q E
section
def aIM(F:Ye "cost" "cost" aEv)(T:Yk)(FQ66:Y03 "ways_of" a18 jO)(FQ64:Y3k "total" a26 (jI K))(FQ62:Y6Y 2 "times" K)(FQ59:Y10 6 "spent" a17 (wM K)):dW P w K mg base dD 7 f fd a46 (wR K):=by
 refine Y17 aHb;obtain @⟨H,Q,E,t,r,av,p,F,W,M,l,N,B,m,C,fs,G,bs,d,u,rt,χ,ra,RO,I,k⟩:=h;refine Yi;intro τ A ι s hr _;obtain⟨aa,xb,xm,xc,rfl,U,rxb,ε,Z⟩:=ra;obtain⟨am,vm,rfl,η,α⟩:=nT ε;have w4:=I.w4;have δ:CoC l p u:=⟨I.c0,I.c1,I.ca,λe he z=>by rw[I.cl];exact RO.on e he z⟩;have nn:0<C*(l*(N*m^M)):=dU I.m0 (dU I.c0 RO.pz.1);have nd:C*(l*(N*m^M))<2^1960:=by
  have R:l*(N*m^M)<2^50*2^1800:=aI (Y1z (Y3B I.c1)) (Nat.mul_lt_mul_of_pos_left RO.z (Y61));have ζ:C*(l*(N*m^M))<=2^100*(2^50*2^1800):=YbR I.mz R;refine aI ζ ?_;rw[<-Nat.pow_add,<-Nat.pow_add];exact Ygd Dd
 have nz:C*(l*(N*m^M))<Y0A:=Y7J nd;have θ:64*(1000*B)<=2^120:=Y3B (dI _ (dI _ RO.b));have ξ:∀i,i<W->Qn (C*(l*(N*m^M))) (64*(1000*B)) (cT d i*gE F p (gS (iW G) i) (cT u)):=λi j=>by
  obtain⟨x,O⟩:∃x,G[i]?=Y7:=Y56 (by rw[I.wl];exact j);have R:=(I.mx _ (eE (a:=(0,1)) (by rw[I.ml];exact j))).q.mul (RO.spq (I.sh x (aF O)) δ);rw[Nat.one_mul]at R;rw[HI O];exact R
 refine⟨_,(aH (Y3x 3 aHb.nd (Y0N 2))
  (Y0Z (gA FQ64 (Y7r ["way","trial","rule","aim","mix"] [0,1,2,3] (Y7G (Y0D FQ66 0)) (Y93 (Y6p 4 Y04) (WA FQ59 (Y0t) (Y0c) (Y04) (Y5c 3))))))),?_⟩
 refine Yv;intro d_ n_;refine Y0n U;refine Y5 (jO.i rt ?_);rw[I.wl];refine⟨_,rfl,Oo,Oo,Yb4 (i<W/\Y7T (cT d i*gE F p (gS (iW G) i) (cT u)) y) (λi y H1 H2 s ⟨R,ζ⟩=>⟨R,ζ.flat s (dX _)⟩) Oo (λi H' Q' j L k'=>?_) (λD ys H1 hD e1 ψ hy κ=>?_)⟩
 ·have j:i<W:=Oo;obtain⟨x,O⟩:∃x,G[i]?=Y7:=Y56 (by rw[I.wl];exact j);have J:=aF O;obtain⟨g,γ⟩:∃g,d[i]?=some g:=Y56 (by rw[I.ml];exact j);obtain⟨vg,β,X⟩:=kG α γ;have S:=I.mx g (aF γ);rw[Int.zero_add];refine Y07 (jK (L _ _ η) (dB β) ?_);refine Y5R _ _ _ rfl _ (Y8f (L _ _ U));refine wM.i (rt.same L) (χ.t L.t) RO I.f1 I.f4 O (I.sh x J) (I.bo x J) (Z.t L.t) δ λv2 H2 ρ ω=>?_;have υ:Fn (C*(l*(N*m^M))) 1 g:=Qn.f S.low (S.q.dvd (mF _ _));have n2:Fn (C*(l*(N*m^M))) (64*(1000*B)) (fZ (gE F p (wq x.2) (cT u))):=((RO.spq (I.sh x J) δ).dvd (Nat.dvd_mul_left _ _)).fq;refine eN.i (kU.of ((X.same L).same ρ)) (kU.of ω) S.low (Y01) (Yas υ nn nz) (mV n2 nn nz (Y59 θ)) λq3 H3 ab e3 μ=>k' _ H3 (ρ.trans μ) ⟨j,gF ?_⟩;have em:nU g (fZ (gE F p (wq x.2) (cT u)))=fZ (cT d i*gE F p (gS (iW G) i) (cT u)):=iT (iV S.low Y01) Y01 (by rw[lT S.low.pos (Y01).pos,dP,dP,vJ γ,HI O]);rw[e3,em]
 have r1:bD H1 (((List.range W).map λi=>fZ (cT d i*gE F p (gS (iW G) i) (cT u))).map iG) ys:=YaN κ;have φ:∀f∈(List.range W).map (λi=>fZ (cT d i*gE F p (gS (iW G) i) (cT u))),Y13 (C*(l*(N*m^M))) (64*(1000*B)):=λf hf=>by
  obtain⟨i,j,rfl⟩:=aN.mp hf;exact(ξ i (bL.mp j)).fq
 refine Yb5 e1 r1 (xW φ nn nz (by rw[aA,aQ];exact Oo) (Y59 θ)) (λv H3 μ ο=>?_);rw[WL (f:=λi=>cT d i*gE F p (gS (iW G) i) (cT u)) λe _=>⟨Y01,dP _⟩]at ο;have ν:=Ye0 (λi j=>ξ i j);refine k v H3 (ψ.trans μ) ο (mV ν.fq nn nz (aK (Nat.mul_le_mul w4 θ) ?_)) (aI (ν.fq.num nn).2 nd);exact aK Dd (aJ (n:=2) (i:=130) Dd Dd)
end
def tP(F W:Nat)(ss:Aj)(bs:Ak)(es:Yg):Prop:=∀w,w<W->1-gM F es (Y5i w) w<=cT bs w
section
variable{F W M:Nat}{ss:Aj}{mix ps cs bs:Ak}{Ns Nm Np Nc BB Nr:Nat}{us:Ae}{cu X U e:Nat}{b:Y1}{H:Hp}{B R:Md.fE}{p:Int}{ts:Y0C}
def iK.nolack(S:iK H F W M ss mix cs us cu b B R p ts)(nl:Yy Y1k){i:Nat}(hi:i<W+1):∃t,ts[i]?=Y79/\((Yy (EC ts i)/\t.cost=0/\∃w,w<W/\B i=Md.unit w)\/(EC ts i=true/\B i W=1)):=by
 obtain⟨t,d,f⟩:=S.at hi;have a:EC ts i=Y9K "rule":=by unfold EC;rw[d];rfl
 refine Y05 t d;rcases f with⟨c,g,h⟩ | ⟨c,_⟩ | ⟨c,j,l,e,_,_,_,R⟩
 ·exact .inl ⟨by rw[a,c];decide,g,h⟩
 ·have:Y1k=true:=uM.mpr ⟨t,aF d,c⟩;rw[nl]at this;cases this
 ·exact Y2G (by rw[a,c];decide) R.one
def iK.parts(Z:AC F W M ss mix ps cs Ns Nm Np Nc BB us cu X U e b)(S:iK H F W M ss mix cs us cu b B R p ts)(nl:Yy Y1k):Y3U W b R (W+1) (λ_=>1)=(p:Rat):=by
 have h:=S.mst.bs.ends (b:=b) (r:=W) Oo;rw[Z.bW,Int.mul_one]at h;rw[<-h,Md.qQ];unfold wsum;refine bP Yb3;obtain⟨t,_,g⟩:=S.nolack nl d;rcases g with⟨c,_,w,j,a⟩ | ⟨c,a⟩
 ·rw[c,Y2E,a];unfold Md.unit;rw[Y3s,Int.mul_zero];rfl
 ·rw[c,Ys,a,Int.mul_one,Rat.mul_one];rfl
def iK.cols(S:iK H F W M ss mix cs us cu b B R p ts)(nl:Yy Y1k){w:Nat}(hw:w<W):Y3U W b R (W+1) (λj=>((B j w:Int):Rat))<=(p:Rat)*(b w:Rat):=by
 have h:=S.mst.bs.ends (b:=b) (r:=w) Oo;rw[<-Rat.intCast_mul,<-h,Md.qQ];unfold wsum;refine mK Yb3;obtain⟨t,_,e⟩:=S.nolack nl d;rcases e with⟨a,_,v,g,c⟩ | ⟨a,c⟩
 ·rw[a,Y2E,c];have:=Int.mul_nonneg (S.mst.share d) (GP (w:=v) (r:=w)).1
  exact_mod_cast this
 ·rw[a,Ys,Rat.intCast_mul];exact Rat.le_refl
def iK.costs(S:iK H F W M ss mix cs us cu b B R p ts)(nl:Yy Y1k):Y3U W b R (W+1) (λj=>(((ts[j]?.map (·.cost)).getD 0:Int):Rat))=((Md.dot (W+1) (jJ W R ts) b:Int):Rat):=by
 rw[<-Md.BI];unfold Md.zet;rw[Md.qQ];unfold wsum;refine bP λi g=>?_;obtain⟨t,d,h⟩:=S.nolack nl g;have e:xX ts i=t.cost:=by unfold xX;rw[if_neg (by rw[nl];decide),d];rfl
 rw[e];show(if EC ts i=true then _*(((ts[i]?.map (·.cost)).getD 0:Int):Rat) else 0)=_;rw[d];show(if EC ts i=true then _*((t.cost:Int):Rat) else 0)=_;rcases h with⟨a,c,_⟩ | ⟨a,c⟩
 ·rw[a,Y2E,c,Int.zero_mul];rfl
 ·rw[a,Ys,Rat.intCast_mul,Rat.mul_comm]
def TZ(Z:AC F W M ss mix ps cs Ns Nm Np Nc BB us cu X U e b)(S:iK H F W M ss mix cs us cu b B R p ts)(nl:Yy Y1k)(hb:∀(i:Nat) (u:Nat),Y5X=Ym->(b i:Rat)=cT bs i*(u:Rat))(cu0:0<cu){es:Yg}{N:Nat}(mr:MrQ F W M U Nr ss mix cs us cu b B R ts (W+1) es N)(hy:∀w,w<W->jJ W R ts w<=0)(hw:((jJ W R ts W:Int):Rat)<=Y7V F W M (pzY W R ts us) (UB ts p cu)) :
  tP F W ss bs es/\∀es',oY F W M es'->tP F W ss bs es'->Y5S F W es<=Y5S F W es':=by
 have l:(0:Rat)<(p:Rat):=by exact_mod_cast S.mst.bs.pos
 have m:(0:Rat)<(cu:Rat):=by exact_mod_cast cu0
 have d:∀w,w<W->∃u,us[w]?=Ym/\(0:Rat)<(u:Rat):=λw hw=>by
  have a:us[w]?=some (us[w]'(by rw[Z.sl.ul];exact hw)):=aB _;exact Y0J a (by exact_mod_cast(YeH _ a).1)
 refine⟨λw hw=>?_,λes' A K=>?_⟩
 ·obtain⟨u,a,j⟩:=d w hw;have h1:=mr.said w u a;have h:=S.cols nl hw;rw[S.parts Z nl]at h1;rw[<-h1,hb w u a]at h;refine Rat.le_of_mul_le_mul_left (c:=(u:Rat)*(p:Rat)) ?_ (Rat.mul_pos j l);grind
 ·have h1:=mr.cost;rw[S.parts Z nl,S.costs nl]at h1;have h:=Rat.le_trans hw (BK A.rl A.hM A.on Z.sl.q.h0 Z.sl.q.h1 A.hs);have r:=Md.KF W (y:=jJ W R ts) (p:=p) (b:=b) hy Z.bW (x:=(cu:Rat)*Y5S F W es') (α:=λw=>((us.getD w 0:Nat):Rat)*(1-gM F es' (Y5i w) w)) (λw hw=>by
   obtain⟨u,a,j⟩:=d w hw;show((us.getD w 0:Nat):Rat)*_<=_;rw[hJ a,hb w u a,Rat.mul_comm (cT bs w)];exact Rat.mul_le_mul_of_nonneg_left (K w hw) (Rat.le_of_lt j)) (by
   refine Ycb h;have n:UB ts p cu=(p:Rat)*(cu:Rat):=by unfold UB;rw[if_neg (by rw[nl];decide)]
   rw[n,Yex (λw=>-(jJ W R ts w:Rat)*(((us.getD w 0:Nat):Rat)*(1-gM F es' (Y5i w) w))) (by unfold pzY;grind)];grind)
  rw[<-h1]at r;refine Rat.le_of_mul_le_mul_left (c:=(cu:Rat)*(p:Rat)) ?_ (Rat.mul_pos m l);grind
def aCa(S:iK H F W M ss mix cs us cu b B R p ts)(nl:Y1k=true):Md.lexp (W+2) (Md.zet (W+1) b R (xX ts)):=by
 have c:∀i,xX ts i=0\/xX ts i=1:=λi=>by
  unfold xX;rw[if_pos nl];split
  ·exact Y8J
  ·exact Y4I
 have all:∀m,m<=W+1->Md.lexp (W+2) (λk=>Md.eC m λi=>xX ts i*Y3J (W+1) k)\/((∀k,(Md.eC m λi=>xX ts i*Y3J (W+1) k)=0)/\∀i,i<m->xX ts i=0):=by
  intro m
  induction m with
  | zero=>intro _;exact Y2G (λk=>rfl) (λi a=>Oo)
  | succ m ih =>
   intro r;rcases c m with z | z
   ·rcases ih Oo with h | ⟨d,g⟩
    ·exact .inl (Yev (by rw[Md.eC,z,Int.zero_mul,Int.add_zero]) h)
    ·exact .inr ⟨λk=>by rw[Md.eC,d,z,Int.zero_mul];rfl,λi a=>by
      by_cases q:i=m
      ·subst q;exact z
      ·exact g i Oo⟩
   ·have l:=S.mst.lex m Oo;rcases ih Oo with h | ⟨d,g⟩
    ·exact .inl (Yev (by rw[Md.eC,z,Int.one_mul]) (Md.KI h l))
    ·exact .inl (Yev (by rw[Md.eC,d,z,Int.one_mul,Int.zero_add]) l)
 rcases all (W+1) (Yl)with h | ⟨_,h⟩
 ·exact h
 ·exfalso;obtain⟨t,n,e⟩:=uM.mp nl;obtain⟨i,a⟩:=List.getElem?_of_mem n;have:=h i (by have:=(Y6Z).1;rw[S.len]at this;exact this);unfold xX at this;rw[if_pos nl,a]at this;have j:(if Y9K "lack"=true then(1:Int) else 0)=0:=this;rw[if_pos (cN e)]at j;cases j
def YV(Z:AC F W M ss mix ps cs Ns Nm Np Nc BB us cu X U e b)(S:iK H F W M ss mix cs us cu b B R p ts)(nl:Y1k=true)(hb:∀(i:Nat) (u:Nat),Y5X=Ym->(b i:Rat)=cT bs i*(u:Rat))(hy:∀w,w<W->jJ W R ts w<=0)(hw:((jJ W R ts W:Int):Rat)<=Y7V F W M (pzY W R ts us) (UB ts p cu)){es:Yg}(A:oY F W M es):¬tP F W ss bs es:=λK=>by
 have c:=Rat.le_trans hw (BK A.rl A.hM A.on Z.sl.q.h0 Z.sl.q.h1 A.hs);refine Md.aB7 W (y:=jJ W R ts) (b:=b) hy Z.bW (Yev ?_ (aCa S nl)) (α:=λw=>((us.getD w 0:Nat):Rat)*(1-gM F es (Y5i w) w)) (λw hw=>?_) ?_
 ·cases k with
  | zero=>exact Md.BI b R (xX ts)
  | succ k=>rfl
 ·have a:us[w]?=some (us[w]'(by rw[Z.sl.ul];exact hw)):=aB _;have d:(0:Rat)<((us[w]'(by rw[Z.sl.ul];exact hw):Nat):Rat):=by exact_mod_cast(YeH _ a).1
  show((us.getD w 0:Nat):Rat)*_<=_;rw[hJ a,hb w _ a,Rat.mul_comm (cT bs w)];exact Rat.mul_le_mul_of_nonneg_left (K w hw) (Rat.le_of_lt d)
 ·refine Ycb c;have h:UB ts p cu=0:=by
   unfold UB;rw[if_pos nl];show(0:Rat)*_=0;rw[Rat.zero_mul]
  rw[h,Yex (λw=>-(jJ W R ts w:Rat)*(((us.getD w 0:Nat):Rat)*(1-gM F es (Y5i w) w))) (by unfold pzY;grind)];grind
end
structure AE(F W M:Nat)(fs:Ah)(ws:Y0l)(bs mix cs:Ak)(Ns Nm Nc Nb BB e X:Nat):Prop where
 wg:aHf ws bs F W M Ns Nm 1 Nc BB Nb mix (Yaz (0,1)) cs
 fl:Y6P F
 q:QIn F W (gS (Y0K))
 bn:∀f∈bs,0<=f.1
 mn:∀w,0<=Y3b w
 m1:bZ W (Y6J)=1
 cn:∀k,0<=cT cs k
 cg:aHp F W M Ns Nm Nc ws mix cs
 mz:ME F W M (Ns^M*Nb) Ns
 Ue:Ns^M*Nb<=2^e
 cX:nZ M Ns Nm 1 Nc*5000<2^X
 sz:6*e+X+20<=4000
 pB:2097152*(BB+ZB W (Ns^M*Nb) X*(Ns^M*Nb))<=WB
 pN:PB W (Ns^M*Nb)*nZ M Ns Nm 1 Nc*nZ M Ns Nm 1 Nc<Y0A
def DE(W:Nat)(bs:Ak)(us:Ae)(r:Nat):Int:=if r=W then 1 else(bs.getD r (0,1)).1*(((us.getD r 0:Nat):Int)/(bs.getD r (0,1)).2)
section
variable{F W M:Nat}{fs:Ah}{ws:Y0l}{bs mix cs:Ak}{Ns Nm Nc Nb BB e X:Nat}{us:Ae}{cu:Nat}
def aBg{cs:Ak}(hl:Yd3 M)(m5:M<=5)(h:∀f∈cs,Y13 Nc 1000)(c0:0<Nc):lM M (cT cs) 0<=5000:=by
 have d:∀k,cT cs k<=1000:=λk=>by
  by_cases hk:k<cs.length
  ·obtain⟨z,l,m⟩:=(h _ (eE (a:=(0,1)) hk)).q;have j:(0:Rat)<(Nc:Rat):=by exact_mod_cast c0
   refine Yf4 (Nc:Rat) ?_;show rv (cs.getD k (0,1))*(Nc:Rat)<=_;rw[l];have:z<=((1000*Nc:Nat):Int):=Oo;have e:(z:Rat)<=(((1000*Nc:Nat):Int):Rat):=by exact_mod_cast this
   refine Ycb e;rw[Rat.intCast_natCast,Rat.natCast_mul];exact Rat.le_refl
  ·rw[tU Oo];decide
 unfold lM;have g:Y4m (M-0) (cT cs (0+i))<=bZ (M-0) λ_=>1000:=mK λi _=>d _;refine Ycb g;have:M=0\/M=1\/M=2\/M=3\/M=4\/M=5:=Oo;rcases this with rfl | rfl | rfl | rfl | rfl | rfl <;> decide +kernel
def AE.sl(I:AE F W M fs ws bs mix cs Ns Nm Nc Nb BB e X)(ul:Y33 W)(uo:IT bs (Ns^M*Nb) us)(cu0:0<cu)(cud:cu ∣ nZ M Ns Nm 1 Nc):VE F W M (Y0K) mix (Yaz (0,1)) cs Ns Nm 1 Nc BB us cu X:=by
 have wo:=I.wg.wo;have h:cu<=nZ M Ns Nm 1 Nc:=kB wo.pos cud;have nn:0<Ns^M*Nb:=dU (Yfp) I.wg.nb;have m:∀u∈us,u<=Ns^M*Nb:=λu a=>kB nn (uo.d u a).2;have r:∀u∈us,0<u/\u<Y0A:=λu a=>⟨(uo.d u a).1,aI (aK (m u a) I.Ue) (Ygd (by have:=I.sz;exact Oo))⟩;have i:cu<Y0A:=aI h wo.sz;have c0:(0:Rat)<=(cu:Rat):=by exact_mod_cast cP cu
 refine⟨wo,Y3B I.mz.few,ul,r,i,I.q,λJ A n g=>?_,λc l n g=>?_,λv u a c l n g=>?_⟩
 ·obtain⟨w,z⟩:=A.cost I.q I.cn I.mn I.m1;have C:=Rat.le_trans z (aBg I.cg.cl wo.m5 I.cg.ca I.cg.c0);have s:(0:Rat)<=(n:Rat):=by rw[g];exact cI c0 w
  have B:(n:Rat)<=(((cu*5000:Nat):Int):Rat):=by
   rw[g,Rat.intCast_natCast,Rat.natCast_mul];exact Rat.mul_le_mul_of_nonneg_left C c0
  have D:0<=n:=by exact_mod_cast s
  have G:n<=((cu*5000:Nat):Int):=by exact_mod_cast B
  exact aI Oo (aI (bJ 5000 h) I.cX)
 ·have p:=of_decide_eq_true (gB.mp l).2;have j:=CV (show Qn _ (BB*4) (CN W (iW ws) mix cs c)by have:=(IR wo p).q;rwa [dP]at this) wo.pos g;exact aI j (aEO i (aK (show BB*4<=4*WB by have:=wo.b;exact Oo) vF))
 ·have y:v<W:=by have:=(Y6Z).1;rw[ul]at this;exact this
  have:=CV (wo.qn y (c:=c) ((fT wo.f1).mp l).2) (Yfp) g;rw[Nat.one_mul]at this;exact Y7R this ((r u (aF a)).2)
def OC(I:AE F W M fs ws bs mix cs Ns Nm Nc Nb BB e X)(ul:Y33 W)(uo:IT bs (Ns^M*Nb) us){i:Nat}{f:Fr}{u:Nat}(hf:bs[i]?=Y6v)(hu:Y5X=Ym):Y0m/\Y5V/\f.2.natAbs ∣ u/\(DE W bs us i:Rat)=Y1O*(u:Rat)/\0<=DE W bs us i/\(DE W bs us i).natAbs<=u:=by
 have n:i<W:=by have:=(aC.mp hu).1;rw[ul]at this;exact this
 have fn:=I.wg.bb f (aF hf);have l:=fn.low;have d:=uo.b i f u hf hu;have j:=I.bn f (aF hf);have h:=l.pos;obtain⟨k,m⟩:=d;have c:(u:Int)=f.2*(k:Int):=by rw[m,Int.natCast_mul];congr 1;exact Oo
 have g:DE W bs us i=f.1*(k:Int):=by
  unfold DE;rw[Y3s,hJ hf,hJ hu,c,Y5e]
 have a:(DE W bs us i:Rat)=Y1O*(u:Rat):=by
  have:((u:Nat):Rat)=(f.2:Rat)*(k:Rat):=by rw[<-Rat.intCast_natCast,c,Rat.intCast_mul,Rat.intCast_natCast]
  rw[g,this,Rat.intCast_mul,Rat.intCast_natCast,<-sV h];grind
 have nz:Nb<Y0A:=aI (Y5Z I.wg.wo.pos) I.wg.sz;refine⟨l,Yas fn I.wg.nb nz,uo.b i f u hf hu,a,by rw[g];exact Int.mul_nonneg j Oo,?_⟩;have:=CV fn.q I.wg.nb a
 rwa [Nat.one_mul]at this
def AE.st(I:AE F W M fs ws bs mix cs Ns Nm Nc Nb BB e X)(ul:Y33 W)(uo:IT bs (Ns^M*Nb) us)(cu0:0<cu)(cud:cu ∣ nZ M Ns Nm 1 Nc):AC F W M (Y0K) mix (Yaz (0,1)) cs Ns Nm 1 Nc BB us cu X (Ns^M*Nb) e (DE W bs us):=by
 have nn:0<Ns^M*Nb:=dU (Yfp) I.wg.nb;refine⟨I.sl ul uo cu0 cud,λu a=>kB nn (uo.d u a).2,nn,λr j=>?_,Ys,I.Ue,I.sz⟩;by_cases h:r=W
 ·unfold DE;rw[Y4W];exact Ya3 nn
 ·have i:bs[r]?=some (bs[r]'(by rw[I.wg.bl];exact Oo)):=aB _;have a:us[r]?=some (us[r]'(by rw[ul];exact Oo)):=aB _;obtain⟨_,_,_,_,g,c⟩:=OC I ul uo i a;exact⟨g,aK c (kB nn (uo.d _ (aF a)).2)⟩
def aDi(I:AE F W M fs ws bs mix cs Ns Nm Nc Nb BB e X)(ul:Y33 W)(uo:IT bs (Ns^M*Nb) us):∀(i:Nat) (u:Nat),Y5X=Ym->(DE W bs us i:Rat)=cT bs i*(u:Rat):=λi u a=>by
 have d:i<W:=by have:=(Y6Z).1;rw[ul]at this;exact this
 have c:bs[i]?=some (bs[i]'(by rw[I.wg.bl];exact Oo)):=aB _;rw[(OC I ul uo c a).2.2.2.1,vJ c]
def AE.pw(I:AE F W M fs ws bs mix cs Ns Nm Nc Nb BB e X){Z:AC F W M (Y0K) mix (Yaz (0,1)) cs Ns Nm 1 Nc BB us cu X (Ns^M*Nb) e (DE W bs us)}{H:Hp}{B R:Md.fE}{p:Int}{ts:Y0C}(S:iK H F W M (Y0K) mix cs us cu (DE W bs us) B R p ts){k:Nat}(k0:0<k)(kz:k<=nZ M Ns Nm 1 Nc){cs':Ak}(cl:cs'.length=M)(ca:∀f∈cs',Y13 Nc BB):kO F W M (Y0K) mix (prL W R ts us p k) cs' Ns Nm (p*(k:Int)).natAbs Nc (BB+ZB W (Ns^M*Nb) X*(Ns^M*Nb)):=by
 have wo:=I.wg.wo;have g:=S.mst.bs.pos;have i:0<p*(k:Int):=Int.mul_pos g Oo;have c:nZ M Ns Nm 1 Nc=Nc*Nm*Ns^M:=by unfold nZ;rw[Nat.one_mul]
 have h:0<Nc*Nm*Ns^M:=by rw[<-c];exact wo.pos
 have d:(p*(k:Int)).natAbs*Nc*Nm*Ns^M=(p*(k:Int)).natAbs*(Nc*Nm*Ns^M):=by ac_rfl
 refine⟨wo.f1,wo.f4,wo.w1,wo.w4,wo.m5,wo.sl,wo.ml,by unfold prL;rw[aA,aQ],cl,wo.sh,wo.mx,λf a=>(aEX Z S k0 f a).le (Nat.le_add_left _ _),λf a=>(ca f a).le (Y9r _),by rw[d];exact dU Oo h,?_,I.pB⟩;rw[d,<-c,dQ];refine aI (Y1z (Nat.mul_le_mul (S.size Z).1 ?_)) I.pN;exact kz
end
abbrev aEp:Stmt:=(top 73)
def aAr:Yj ["trial","aim","weighing","master","prices"] a24 aEp:={}
inductive mN (K:Aa):Yq
 | i {H:Hp} {Q:VK} {E:XK} {tv av:V} {F W M:Nat} {fs:Ah} {ws:Y0l} {bs mix cs:Ak} {Ns Nm Nc Nb BB e X:Nat} (h1:Y3f tv) (h2:Y4A K H M av) (h3:AE F W M fs ws bs mix cs Ns Nm Nc Nb BB e X) (h4:∀f∈cs,Y13 Nc BB) (q0:∀a y z H',Y0->H' a=Yf [.str "none",y,z]->(∀es,oY F W M es->¬tP F W (Y0K) bs es)->Y0r a) (q1:∀a r y z es N C H',Y0->H' a=Yf [.str "rule",r,y,z]->MB K H' es r->oZ F W M N C Ns es->tP F W (Y0K) bs es->(∀es',oY F W M es'->tP F W (Y0K) bs es'->gC F W es (gS Y0K) Y6J (cT cs)<=gC F W es' (gS Y0K) Y6J (cT cs))->Y0r a):mN K [tv,av] H Q E
section
def aIF(F:Ye "fewest" "fewest" aEp)(T:Yk)(FQ3:FnO P w K mg base 7 c.Weighing a19 (wK K c.Weighing))(FQ58:Y10 5 "settled" ["weighing","bounds"] (rD K c.Weighing c.Master))(FQ33:Y03 "lacks" a20 YeD)(FQ52:Y10 4 "prices_of" a25 (qB c.Weighing c.Master))(FQ70:Y10 7 "worths" a28 (lC K))(FQ69:Y03 "without_costs" ["aim"] (uE K))(FQ60:Y10 8 "standing_mixed" a31 (wL K c.Weighing c.Master))(FQ26:Y03 "faces_of" a18 jX):dW P w K mg base dD 9 f fd a24 (mN K):=by
 refine Y17 aAr;obtain @⟨H,Q,E,tv,av,F,W,M,fs,ws,bs,mix,cs,Ns,Nm,Nc,Nb,BB,e,X,rt,J,I,cb,q0,q1⟩:=h;refine Yi;intro cdv A ι s hr _;have O:=T.w_Weighing;refine⟨_,(aH (Y1q aAr.nd (JC FQ3 T.g_Weighing (hr.mono Dd) (Y2i 0 Y0t)))
  (aH (Y2d 3 aAr.nd FQ58 2 Y1m)
  (aH (iR (sH (Y0D FQ33 3)) (aH (Y4T aAr.nd (Y38 FQ52 Y0c 3 aO))
  (Y9Z (bE (Y9L "none" T.g_NONE) (Y2i 4 (kP FQ70 (Y04) (Y0D FQ69 1) (Y1b)))))) fR)
  (aH (Y4T aAr.nd (Y38 FQ52 Y0c 3 (dN K (aD 2))))
  (Y9Z (bE (YeE "rule") (Y4G (Y38 FQ60 (Y0D FQ26 0) 2 Y0X) Y1b (Y1p (Y38 FQ70 Y04 1 Y1b))))))))),?_⟩
 refine Yv;intro ζ γ;refine Y02;intro x l hx ο β;have G:aT H (Y8I (Y4f l (.own x)) x c.Weighing l []):=(aT.upd ο).trans (aT.upd (by rw[dR (Ne.symm β)];exact hx));have ω:(upd (upd H l (.own x)) x (.ins c.Weighing l [])) x=some (.ins c.Weighing l []):=bH;generalize upd (upd H l (.own x)) x (.ins c.Weighing l [])=H1 at G ω ⊢;refine wK.i ω (rt.same G) I.fl (J.same G) I.wg λus τ H2 b2 wg L a C=>Yi;refine Yt;intro ζ γ;have S2:aT H H2:=aT.thru hx G b2;have ul:=wg.ul;have Z:=I.st ul L a C;obtain⟨aa,xb,xm,xc,rfl,ν,κ,rxm,rxc⟩:=J.same S2;obtain⟨ab,vb,rfl,μ,ε⟩:=nT κ;refine Y8X ν;refine rD.i wg μ (zM.of ε) I.wg.bl (λi f u φ hu=>by obtain⟨g1,g2,g3,g4,_⟩:=OC I ul L φ hu;exact⟨g1,g2,g3,g4⟩) Z λm sa B R p uv ts H3 S ma ψ st χ hw=>Yt;intro ζ γ;have n8:W+1<=8:=by have:=I.wg.wo.w4;exact Oo
 refine Y8;refine lQ.i ma ψ n8 λH4 g=>Y8;have S4:=(S2.trans S).trans g;have z:=wg.same (S.trans g);have n:=ma.same g;have r:=ψ.same g;have j:=st.to λbp kb h=>g _ _ h;have ξ:τ<=nZ M Ns Nm 1 Nc:=kB I.wg.wo.pos C;have cz:τ<Y0A:=Z.sl.cuz;cases eb:Y1k with
 | true =>
  refine sD Yv;intro ζ γ;refine Y02;refine qB.i (k:=1) z n r Z j Dd (Yfi) λv5 H5 y η=>?_;have S5:=S4.trans y;have ρ:=I.cg.cl;have m5:=I.wg.wo.m5;refine Y4q;refine uE.i (J.same S5) Oo λv6 H6 d a6=>Y8;exact lC.i (rt.same (S5.trans d)) I.fl a6 (η.same d) (I.pw (Z:=Z) st (k:=1) Dd I.wg.wo.pos (by rw[bV];exact ρ) λf φ=>by rw[List.eq_of_mem_replicate φ];exact(Fn.zero Nc).le (Y0L)) I.wg.bo λv7 H7 U _=>sF (by show 3<=64;decide) λα H8 θ δ D=>q0 α _ _ H8 (((S5.trans d).trans U).trans D) δ λes A=>YV Z st eb (aDi I ul L) χ hw A
 | false =>
  refine pS ?_;obtain⟨_,gx,fl,gr,ua,wa,ca,tas,kvs,a0,a1,a2,a3,a4,a5,a6,a7,α,a9,a10,a11⟩:=z;refine Y2O (Y4j O (by simp) a0 a4);refine qB.i (k:=τ) (wg.same (S.trans g)) n r Z j a cz λv5 H5 y η=>?_;have S5:=S4.trans y;refine Y5 (jX.i (rt.same S5) ?_);rw[I.fl];refine Y02;refine wL.i (wg.same ((S.trans g).trans y)) (n.same y) (r.same y) Z (j.to λbp kb h=>y _ _ h) I.mz (by rw[st.parts Z eb];exact_mod_cast st.mst.bs.pos) λv6 H6 d mr=>?_;obtain⟨es,N,υ,mq⟩:=mr;refine Y5R _ _ _ rfl _ ?_;refine lC.i (rt.same (S5.trans d)) I.fl (J.same (S5.trans d)) (η.same d) (I.pw (Z:=Z) st a ξ I.cg.cl cb) I.wg.bo λv7 H7 U _=>sF (by show 4<=64;decide) λα H8 θ δ D=>?_;obtain⟨k1,k2⟩:=TZ Z st eb (aDi I ul L) a mq χ hw;exact q1 α _ _ _ es N _ H8 (((S5.trans d).trans U).trans D) δ (υ.t (U.trans D).t) mq.ru k1 k2
end
abbrev aEj:Stmt:=(top 74)
def aG9:Yj ["trial","aim","paper"] a24 aEj:={}
def LcQ(F W M:Nat)(ss:Aj)(bs mix cs:Ak):Y1c Y66
 | none=>∀es,oY F W M es->¬tP F W ss bs es
 | some v=>∃es,oY F W M es/\tP F W ss bs es/\gC F W es (gS ss) (cT mix) (cT cs)=v/\(∀es',oY F W M es'->tP F W ss bs es'->v<=gC F W es' (gS ss) (cT mix) (cT cs))/\∀e∈es,MG (1+W) e.2
def SzO(o:Y66):Prop:=∀q,o=some q->Y4P (fZ q)/\(fZ q).2.natAbs<2^1960
def VH(H:Hp):Y0u Y66 V
 | none,v=>v=.non
 | some q,v=>dA H (iG (fZ q)) v
def VH.t{H H':Hp}{o:Y66}{v:V}(h:VH H o v)(s:Y2B):VH H' o v:=by
 cases o with
 | none=>exact h
 | some q=>exact dA.flat s (dX _) h
inductive sO (K:Aa):Yq
 | i {H:Hp} {Q:VK} {E:XK} {tv av:V} {F W M:Nat} {fs:Ah} {ws:Y0l} {bs mix cs:Ak} {Ns Nm Nc Nb BB e X:Nat} (h1:Y3f tv) (h2:Y4A K H M av) (h3:AE F W M fs ws bs mix cs Ns Nm Nc Nb BB e X) (h4:∀f∈cs,Y13 Nc BB) (k:∀o v H',Y0->LcQ F W M (Y0K) bs mix cs o->VH H' o v->SzO o->Y1W):sO K [tv,av] H Q E
section
def aIy(F:Ye "least_cost" "least_cost" aEj)(T:Yk)(FQ28:Y10 9 "fewest" a24 (mN K))(FQ21:Y10 7 "cost" a46 (wR K)):dW P w K mg base dD 10 f fd a24 (sO K):=by
 refine F.oky aG9 λU H Q E h=>?_;obtain @⟨H,Q,E,ι,η,F,W,M,fs,ε,bs,u,ζ,θ,S,β,Z,BB,e,X,rt,l,I,O,k⟩:=h;refine Yi;intro n A j s α _;refine⟨_,(aH (Y2d 2 aG9.nd FQ28 0 Y0t)
  (Y0Z (oM (eQ oU (Y0N 2) (YeE "rule")) (kP FQ21 (Y04) (Y0N 2) (Y0t)) nS))),?_⟩
 refine Yv;intro δ γ;refine Y07 (mN.i rt l I O (λa y z H1 d g p=>?_) (λa r y z D N C H1 d g B RU m le=>?_))
 ·refine Y0n g;refine Y2R rfl (tH (by rw[tJ];decide) ?_);exact k none _ H1 d p rfl λq e=>by cases e
 ·refine Y0n g;refine Y2R rfl (CT (by rw[tJ];decide) ?_);refine Y8X g;refine Y8;refine wR.i (rt.same d) B (l.same d) RU I.cg λv H2 G J L R=>?_;exact k (Y7c) v H2 (d.trans G) (Y6e D RU.any m le RU.sy) J λq e=>by cases e;exact⟨L,R⟩
end
abbrev sQ9:Stmt:=(top 91)
def cQ9:Yj ["_law_feed_here","_law_many","_law_found","_law_k","_law_at"] a01 sQ9:={}
theorem PV{W:Int}(hW:0<W):∀ps:Af,rC ((ps.map λx=>lw x W).map rv)=(ps.sum:Rat)/(W:Rat)
 | []=>by
  have:=nM hW;show(0:Rat)=_;rw[show(([]:Af).sum:Rat)=0 from rfl];grind
 | x::ps=>by
  have:=nM hW;rw[bA,bA,pX,PV hW ps,EX hW,List.sum_cons,Rat.intCast_add];grind
def GF.one{m:Nat}{fs:Ak}(h:GF m fs):rC (YcV)=1:=by
 obtain⟨e,W,i,d,c,a,j,g,rfl⟩:=h.ex;rw[PV a,c];have:=nM a;grind
def TrC.qin{F W:Nat}{fs:Ah}{ws:Y0l}(T:TrC F W fs ws):QIn F W (gS (Y0K)):=by
 have at_:∀w,w<W->∃x,ws[w]?=Y7/\GF F x.2:=λw d=>by
  have a:ws[w]?=some (ws[w]'(by rw[T.w];exact d)):=aB _;exact Y0J a (T.sh _ (aF a))
 refine⟨λw d=>?_,λw d c g=>?_,λw _ c=>T.nn w c⟩
 ·obtain⟨x,a,s⟩:=at_ w d;rw[HI a];exact aA4 (λf e=>(s.at f e).1.low) F
 ·obtain⟨x,a,s⟩:=at_ w d;have:=aDw (λf e=>(s.at f e).1.low) s.one (c:=c) (by rw[s.len];exact g);rw[s.len]at this;rw[HI a];exact this
def aDh:∀F,F<=3->∀M,M<=3->(Y0a).length<=20:=Kk
structure Pm(n:Nat)(p p':Y1A):Prop where
 a:∀i,i<n->p i<n
 b:∀i,i<n->p' i<n
 c:∀i,i<n->p (p' i)=i
 d:∀i,i<n->p' (p i)=i
def Pm.symm{n:Nat}{p p':Y1A}(h:Pm n p p'):Pm n p' p:=⟨h.b,h.a,h.d,h.c⟩
def Pm.perm{n:Nat}{p p':Y1A}(h:Pm n p p'):((List.range n).map p).Perm (List.range n):=by
 have r:((List.range n).map p).Nodup:=List.pairwise_map.mpr (List.Pairwise.imp_of_mem (λ{x y} s l ne e=>ne (by
  rw[<-h.d x (bL.mp s),e,h.d y (bL.mp l)])) List.nodup_range)
 refine(List.perm_ext_iff_of_nodup r List.nodup_range).mpr λi=>?_;constructor
 ·intro g;obtain⟨j,m,rfl⟩:=Y8P;exact bL.mpr (h.a j (bL.mp m))
 ·intro g;have g:=bL.mp g;exact aN.mpr ⟨p' i,bL.mpr (h.b i g),h.c i g⟩
def Pm.sum{n:Nat}{p p':Y1A}(h:Pm n p p')(f:Yx):Y4m n (f (p i))=bZ n f:=by
 have:=EN h.perm f;unfold cW at this;rw[List.map_map]at this;exact this
def lA(F:Nat)(g:Y1A)(c:Ae):Ae:=(List.range F).map λf=>Y6k (g f)
def SV(W:Nat)(p:Y1A)(sy:Ak):Ak:=(List.range (1+W)).map λk=>sy.getD (if k=0 then 0 else 1+p (k-1)) (0,1)
def MM(F W:Nat)(g p:Y1A)(es:Yg):Yg:=es.map λe=>(Y25 e.1,SV W p e.2)
section
variable{F W M:Nat}{g g' p p':Y1A}{es:Yg}
def uK{α:Type}(l:Yu)(a:α):l=(List.range l.length).map λf=>l.getD f a:=by
 refine Y6x;rw[aE];by_cases h:Ya2 i
 ·rw[aZ h];show _=some (l.getD i a);rw[aM,aB h];rfl
 ·rw[bI Oo,bI (by rw[aQ];exact Oo)];rfl
def tX(c:Ae):(Y2A).length=F:=by unfold lA;rw[aA,aQ]
def MO{f:Nat}(hf:f<F)(c:Ae):(lA F g c).getD f 0=Y6k (g f):=by
 unfold lA;rw[aM,aE,aZ hf];rfl
def MN(G:Y4F){c:Ae}(hc:Y0T):lA F g' Y2A=c:=by
 conv=>rhs;rw[uK c 0,hc]
 exact cU λf a=>by
  have a:=Y71;rw[MO (G.b f a),G.c f a]
def WP(G:Y4F){c:Ae}(hc:Y0T):(lA F g c).Perm c:=by
 conv=>rhs;rw[uK c 0,hc]
 have:=G.perm.map λf=>Y6k f;rw[List.map_map]at this;exact this
def pD(G:Y4F){c:Ae}(hc:Y0T):(Y2A).sum=c.sum:=(WP G hc).sum_nat
def wE:Y25 Y00=Y00:=by
 refine List.eq_replicate_iff.mpr ⟨tX _,λx a=>?_⟩;obtain⟨f,_,rfl⟩:=aN.mp a;rw[aM,List.getElem?_replicate];split <;> rfl
def wF(G:Y4F){c:Ae}(hc:Y0T){f:Nat}(hf:f<F):Y25 (bS c (g f))=Y19 Y2A:=by
 rw[uK (Y19 Y2A) 0,mC,tX];refine cU λj m=>?_;have m:=bL.mp m;have n:=G.a j m;have p:=G.a f hf;have L:=tX (F:=F) (g:=g) c;unfold bS;rw[MO hf];have at_:∀(l:Ae) (i k x:Nat),Ya2 i->(l.set i x).getD k 0=if i=k then x else l.getD k 0:=λl i k x h=>by
  rw[aM,List.getElem?_set];by_cases e:i=k
  ·rw[Y1i,Y4W,Y1i];rfl
  ·rw[Y0B,Y0B,aM]
 rw[at_ _ _ _ _ Oo,at_ _ _ _ _ Oo];by_cases e:f=j
 ·rw[Y1i,if_pos (by rw[e])]
 ·rw[Y0B,Y31 (e (by rw[<-G.d f hf,q,G.d j m])),MO m]
def GS(G:Y4F){c d:Ae}(hc:Y0T)(hd:Y8O F)(e:Y2A=Y25 d):c=d:=by
 rw[<-MN G hc,e,MN G hd]
def aCX(sy:Ak):cT (SV W p sy) 0=cT sy 0:=by
 rw[vJ (f:=sy.getD 0 (0,1)) (by unfold SV;rw[aE,aZ Oo];rfl)];rfl
def WM{w:Nat}(hw:w<W)(sy:Ak):Y2S (SV W p sy) w=Y2S sy (p w):=by
 rw[vJ (f:=sy.getD (1+p w) (0,1)) (by
  unfold SV;rw[aE,aZ Oo];show some (sy.getD (if 1+w=0 then 0 else 1+p (1+w-1)) (0,1))=_;rw[Y3s,show 1+w-1=w by exact Oo])];rfl
def aDD{sy:Ak}(h:∀v,0<=cT sy v)(v:Nat):0<=cT (SV W p sy) v:=by
 by_cases hv:v<1+W
 ·cases v with
  | zero=>rw[aCX];exact h 0
  | succ v=>rw[Nat.add_comm,WM Oo];exact h _
 ·rw[tU (by unfold SV;rw[aA,aQ];exact Oo)];exact Rat.le_refl
def tW{e':cZ}(h:e' ∈ MM F W g p es):∃e∈es,e'=(Y25 e.1,SV W p e.2):=by
 obtain⟨e,a,rfl⟩:=Y70;exact Y3q e a
def vL(e:cZ):s0 (Y25 e.1,SV W p e.2)=Y2:=aCX _
def PQ{d:Ae}:d∈(MM F W g p es).map (·.1) ↔ ∃c∈es.map (·.1),lA F g c=d:=by
 unfold MM;rw[List.map_map];constructor
 ·intro h;obtain⟨e,a,rfl⟩:=Y70;exact Y3q e.1 (Y32 e a)
 ·rintro⟨c,i,rfl⟩;obtain⟨e,a,rfl⟩:=aN.mp i;exact Y32 e a
def PR(G:Y4F)(P:Pm W p p')(A:oY F W M es):oY F W M (MM F W g p es):=by
 have R:=A.rl;refine⟨⟨?_,YcK,?_,?_,λe i h f l=>?_,λd hd h=>?_,YcK⟩,YcK,λe i h=>?_,YcK⟩
 ·obtain⟨n,r,rfl,I⟩:=R.root;exact Y2R _ (by rw[show(lA F g n.1,SV W p n.2).1=lA F g n.1 from rfl,I,wE])
 ·obtain⟨e,_,rfl⟩:=tW i;exact tX _
 ·unfold MM;rw[List.map_map];refine List.pairwise_map.mpr (List.Pairwise.imp_of_mem (λ{x y} s m ne e=>ne (GS G (R.len x s) (R.len y m) e)) (List.pairwise_map.mp R.nd))
 ·refine List.pairwise_map.mpr (List.Pairwise.imp_of_mem (λ{x y} s m le=>?_) R.srt);show(Y25 x.1).sum<=(Y25 y.1).sum;rw[pD G (R.len x s),pD G (R.len y m)];exact le
 ·obtain⟨e,j,rfl⟩:=tW i;clear i;have i:=j;rw[vL]at h;exact PQ.mpr (Y0J (R.fwd e i h (g f) (G.a f l)) (wF G (Y50 i) l))
 ·obtain⟨c,B,rfl⟩:=PQ.mp hd;obtain⟨e,i,z,f,l,rfl⟩:=R.bwd c B λq=>h (by rw[q,wE]);refine⟨_,Y32 e i,by rw[vL];exact z,g' f,G.b f l,?_⟩;rw[<-wF G (Y50 i) (G.b f l),G.c f l]
 ·obtain⟨e,j,rfl⟩:=tW i;clear i;have i:=j;rw[vL];exact R.nn e i
 ·obtain⟨e,j,rfl⟩:=tW i;clear i;have i:=j;show(Y25 e.1).sum<=M;rw[pD G (Y50 i)];exact A.hM e i
 ·obtain⟨e,j,rfl⟩:=tW i;clear i;have i:=j;rw[vL]at h;show(Y25 e.1).sum<M;rw[pD G (Y50 i)];exact A.on e i h
 ·obtain⟨e,j,rfl⟩:=tW i;clear i;have i:=j;obtain⟨u,C⟩:=A.hs e i;refine Y0o (aDD u);rw[vL,<-C,<-P.sum λv=>Y0E e.2];exact bP λw D=>WM D _
def aBf(G:Y4F){c d:Ae}(hc:Y0T)(hd:Y8O F):gX F Y2A (Y25 d)=Y4z:=by
 unfold gX;rw[<-G.sum λf=>if Y5g=d then 1 else 0];refine bP λf a=>?_;rw[<-wF G hc a];by_cases e:bS c (g f)=d
 ·rw[Y1i,if_pos (by rw[e])]
 ·rw[Y0B,Y31 (e (GS G (by rw[mC,hc]) hd q))]
def WO(G:Y4F)(P:Pm W p p')(A:oY F W M es):∀(n:Nat) (d:Ae),d.sum<=n->Y8O F->Y9W (MM F W g p es) d=Y4 d:=by
 have R:=A.rl;have R':=(PR G P A).rl;have step:∀d:Ae,Y8O F->(∀e∈es,e.1.sum+1=d.sum->Y9W (MM F W g p es) e.1=Y4 e.1)->Y9W (MM F W g p es) d=Y4 d:=λd hd c=>by
  rw[yH R' (Y25 d),yH R d];congr 1
  ·by_cases z:d=Y00
   ·rw[if_pos z,if_pos (by rw[z,wE])]
   ·rw[if_neg z,Y31 (z (GS G hd bV (by rw[q,wE])))]
  ·unfold MM;unfold cW;rw[List.map_map];refine YaP rC Y7C;show Y9W _ e.1*s0 (Y25 e.1,SV W p e.2)*gX F (Y25 e.1) (Y25 d)=_;rw[vL,aBf G (Y50 a) hd];by_cases z:d.sum=e.1.sum+1
   ·have:=c e a z.symm;unfold MM at this;rw[this]
   ·rw[xI (Y50 a) z,Rat.mul_zero,Rat.mul_zero]
 intro n
 induction n with
 | zero=>intro d hd h;exact step d h λe _ q=>Oo
 | succ n c=>intro d hd h;exact step d h λe a q=>c e.1 Oo (Y50 a)
def JF(G:Y4F)(P:Pm W p p')(A:oY F W M es){q q':Y0y}(hq:∀c,Y0T->q' (Y2A)=q c){w:Nat}(hw:w<W)(cs:Yx):gM F (MM F W g p es) q' w=gM F es q (p w)/\gE F (MM F W g p es) q' cs=gE F es q cs:=by
 have d:∀e∈es,Y9W (MM F W g p es) e.1=Y4 e.1:=λe a=>WO G P A _ e.1 (Yl) (YcQ a);constructor
 ·show cW (es.map _) _=cW es _;unfold cW;rw[List.map_map];refine YaP rC Y7C;show Y9W (MM F W g p es) e.1*q' (Y25 e.1)*Y2S (SV W p e.2) w=_;rw[d e a,hq _ (YcQ a),WM hw]
 ·show cW (es.map _) _=cW es _;unfold cW;rw[List.map_map];refine YaP rC Y7C;show cs (Y25 e.1).sum*(Y9W (MM F W g p es) e.1*q' (Y25 e.1)*s0 (Y25 e.1,SV W p e.2))=_;rw[d e a,hq _ (YcQ a),vL,pD G (YcQ a)]
end
structure Tw(F W:Nat)(g g' p p':Y1A)(q q':Y2M):Prop where
 G:Y4F
 P:Pm W p p'
 hq:∀w,w<W->∀c,Y0T->q' w (Y2A)=q (p w) c
section
variable{F W M:Nat}{g g' p p':Y1A}{q q':Y2M}
theorem Tw.symm(T:Tw F W g g' p p' q q'):Tw F W g' g p' p q' q:=⟨T.G.symm,T.P.symm,λw a c d=>by
 have:=T.hq (p' w) (T.P.b w a) (lA F g' c) (tX _);rw[MN T.G.symm d,T.P.c w a]at this;exact this.symm⟩
variable{ss ss':Aj}{bs bs' mix mix' cs:Ak}{o o':Y66}
def Tw.half(T:Tw F W g g' p p' (gS ss) (gS ss'))(hb:∀w,w<W->cT bs' w=cT bs (p w))(hm:∀w,w<W->cT mix' w=Y3b (p w)){es:Yg}(A:oY F W M es)(K:tP F W ss bs es):∃es',oY F W M es'/\tP F W ss' bs' es'/\gC F W es' (gS ss') (cT mix') (cT cs)=Y5S F W es:=by
 refine Y2X _ (PR T.G T.P A) (λw c=>?_)
 ·rw[(JF T.G T.P A (T.hq w c) c (cT cs)).1,hb w c];exact K (p w) (T.P.a w c)
 ·unfold gC;rw[<-T.P.sum λw=>Y3b w*gE F es (Y5i w) (cT cs)];exact bP λw c=>by rw[(JF T.G T.P A (T.hq w c) c (cT cs)).2,hm w c]
def aCc(T:Tw F W g g' p p' (gS ss) (gS ss'))(hb:∀w,w<W->cT bs' w=cT bs (p w))(hm:∀w,w<W->cT mix' w=Y3b (p w))(L:LcQ F W M ss bs mix cs o)(L':LcQ F W M ss' bs' mix' cs o'):o=o':=by
 have a:∀w,w<W->cT bs w=cT bs' (p' w):=λw d=>by rw[hb _ (T.P.b w d),T.P.c w d]
 have e:∀w,w<W->Y3b w=cT mix' (p' w):=λw d=>by rw[hm _ (T.P.b w d),T.P.c w d]
 cases o with
 | none =>
  cases o' with
  | none=>rfl
  | some v' =>
   obtain⟨h,A',K',_⟩:=L';obtain⟨m,A,K,_⟩:=T.symm.half (cs:=cs) a e A' K';exact absurd K (L m A)
 | some v =>
  obtain⟨m,A,K,c,le,_⟩:=L;obtain⟨n,A1,K1,u⟩:=T.half (cs:=cs) hb hm A K;cases o' with
  | none=>exact absurd K1 (L' n A1)
  | some v' =>
   obtain⟨h,A',K',r,i,_⟩:=L';obtain⟨y,A2,K2,s⟩:=T.symm.half (cs:=cs) a e A' K';have j:=i n A1 K1;have l:=le y A2 K2;rw[u,c]at j;rw[s,r]at l;rw[Rat.le_antisymm l j]
def FG{l m:Y2j}(h:l.Perm m):lJ l=lJ m:=by
 by_cases z:l=[]
 ·subst z;rw[h.nil_eq]
 ·exact AY (h.mem_iff.mpr (sZ λe=>z (by rw[e]at h;exact h.eq_nil))) λx a=>rK (h.mem_iff.mp a)
def VS(T:Tw F W g g' p p' q q'){mx mx' ps ps' cq:Yx}(hp:∀w,w<W->ps' w=ps (p w))(hm:∀w,w<W->mx' w=mx (p w)):∀(n:Nat) (c:Ae),Y0T->nC W F q' mx' ps' cq n (Y2A)=nC W F q mx ps cq n c:=by
 have due:∀(a m:Yx),(∀w,w<W->m w=a (p w))->∀c:Ae,Y0T->Y08 (m v*q' v (Y2A))=Y08 (a v*q v c):=λa m h c d=>by
  rw[<-T.P.sum λv=>a v*q v c];exact bP λw i=>by rw[h w i,T.hq w i c d]
 have l:∀c:Ae,Y0T->(mG W λv=>ps' v*q' v (lA F g c)).Perm (mG W λv=>Y1y*q v c):=λc d=>by
  unfold mG;rw[due ps ps' hp c d];have:=T.P.perm.map λw=>Y08 (Y1y*q v c)-Y0k*q w c;rw[List.map_map]at this;refine List.Perm.trans (List.Perm.of_eq (cU λw i=>?_)) this;have i:=bL.mp i;show _-ps' w*q' w (Y2A)=_-ps (p w)*q (p w) c;rw[hp w i,T.hq w i c d]
 intro n
 induction n with
 | zero=>intro c d;exact FG (l c d)
 | succ n ih =>
  intro c d;unfold nC;have e:cq (Y2A).sum*Y08 (mx' v*q' v (Y2A))+Y8W F (nC W F q' mx' ps' cq n (bS Y2A j))=cq c.sum*Y08 (mx v*q v c)+Y8W F (nC W F q mx ps cq n (Y2Y)):=by
   rw[pD T.G d,due mx mx' hm c d,<-T.G.sum λj=>nC W F q mx ps cq n (Y2Y)];congr 1;exact bP λj r=>by rw[<-wF T.G d r,ih _ (by rw[mC,d])]
  rw[e];exact FG ((l c d).append_right _)
end
def NH{l m:Y3T}(h:l.Perm m):mH l=mH m:=by
 induction h with
 | nil=>rfl
 | cons x _ ih=>show rv x.1^x.2*mH _=rv x.1^x.2*mH _;rw[ih]
 | swap x y l=>show rv y.1^y.2*(rv x.1^x.2*mH l)=rv x.1^x.2*(rv y.1^y.2*mH l);grind
 | trans _ _ a b=>rw[a,b]
def aGJ{l m:Af}(h:l.Perm m):l.sum=m.sum:=by
 induction h with
 | nil=>rfl
 | cons x _ ih=>rw[List.sum_cons,List.sum_cons,ih]
 | swap x y l=>rw[List.sum_cons,List.sum_cons,List.sum_cons,List.sum_cons];exact Oo
 | trans _ _ a b=>rw[a,b]
def wC(F:Nat)(g:Y1A)(sh:Ak):Ak:=(List.range F).map λf=>sh.getD (g f) (0,1)
section
variable{F W M:Nat}{g g' p p':Y1A}{sh:Ak}
def GQ:(wC F g sh).length=F:=by unfold wC;rw[aA,aQ]
def WN{i:Nat}(h:i<F):(wC F g sh)[i]?=some (sh.getD (g i) (0,1)):=by unfold wC;rw[aE,aZ h];rfl
def GR{R:Y1c Fr}(G:Y4F)(hl:sh.length=F)(h:∀f∈sh,R f):∀f∈wC F g sh,R f:=λf d=>by
 obtain⟨i,c,rfl⟩:=Ya7;exact h _ (eE (a:=(0,1)) (by rw[hl];exact G.a i (bL.mp c)))
def wA{w:Nat}(hw:w<F):cT (wC F g sh) w=cT sh (g w):=by rw[vJ (WN hw)];rfl
def aA3(G:Y4F)(low:∀f∈sh,Y0m)(hl:sh.length=F){c:Ae}(hc:Y0T):wq (wC F g sh) (Y2A)=wq sh c:=by
 rw[vY (GR G hl low),vY low];have a:(wC F g sh).zip (Y2A)=((List.range F).map g).map λf=>(sh.getD f (0,1),Y6k f):=by
  unfold wC lA;rw[List.zip_map',List.map_map];rfl
 have d:sh.zip c=(List.range F).map λf=>(sh.getD f (0,1),Y6k f):=by
  conv=>lhs;rw[uK sh (0,1),uK c 0,hl,hc]
  rw[List.zip_map']
 rw[a,d];exact NH (G.perm.map _)
def GF.turn(G:Y4F)(h:GF F sh):GF F (wC F g sh):=by
 obtain⟨c,W,j,l,s,n,m,p,rfl⟩:=h.ex;have e:∀i,i<F->(c.map λx=>lw x W).getD (g i) (0,1)=lw (Y6k (g i)) W:=λi d=>by
  have:=G.a i d;rw[aM,aE,Y3W,aM,Y3W];rfl
 refine⟨(List.range F).map λi=>Y6k (g i),W,by rw[aA,aQ],λx r=>?_,?_,n,m,p,?_⟩
 ·obtain⟨i,d,rfl⟩:=aN.mp r;exact l _ (eE (a:=0) (by rw[j];exact G.a i (bL.mp d)))
 ·rw[<-s];have:=(G.perm.map λi=>Y6k i);rw[List.map_map]at this
  conv=>rhs;rw[uK c 0,j]
  exact aGJ this
 ·unfold wC;rw[List.map_map];exact cU λi d=>e i (bL.mp d)
theorem TrC.turn{fs fs':Ah}{ws ws':Y0l}(T:TrC F W fs ws)(G:Y4F)(P:Pm W p p')(hf:fs'.length=F)(nf:∀s∈fs',(YcM).length<=20)(hw:ws'.length=W)(h:∀(i:Nat) x,ws'[i]?=Y7->x.2=wC F g ((iW ws).getD (p i) [])/\(reprText x.1).length<=20):TrC F W fs' ws'/\Tw F W g g' p p' (gS (Y0K)) (gS (iW ws')):=by
 have at_:∀w,w<W->GF F ((iW ws).getD w []):=λw hw=>by
  have d:ws[w]?=some (ws[w]'(by rw[T.w];exact hw)):=aB _;rw[hJ (a:=(ws[w]'(by rw[T.w];exact hw)).2) (by show(ws.map (·.2))[w]?=_;rw[aE,d];rfl)];exact T.sh _ (aF d)
 have lt:∀{i x},ws'[i]?=Y7->i<W:=λ{i x} d=>by rw[<-hw];exact(aC.mp d).1
 refine⟨⟨hf,hw,λx d=>?_,nf,λx d=>?_⟩,⟨G,P,λw e c l=>?_⟩⟩
 ·obtain⟨i,j⟩:=List.getElem?_of_mem d;rw[(h i x j).1];exact(at_ _ (P.a i (lt j))).turn G
 ·obtain⟨i,j⟩:=List.getElem?_of_mem d;exact(h i x j).2
 ·have d:ws'[w]?=some (ws'[w]'(by rw[hw];exact e)):=aB _;unfold gS;have S:=at_ _ (P.a w e);rw[hJ (a:=(ws'[w]'(by rw[hw];exact e)).2) (by show(ws'.map (·.2))[w]?=_;rw[aE,d];rfl),(h w _ d).1];exact aA3 G (λf hf=>(S.at f hf).1.low) S.len l
end
def sw(k a i:Nat):Nat:=if i=k then a else if i=a then k else i
def WZ{m k a i:Nat}(hk:k<m)(ha:a<m)(hi:i<m):sw k a i<m:=by unfold sw;split <;> (try split) <;> exact Oo
def aC6(k a i:Nat):sw k a (sw k a i)=i:=by
 unfold sw;by_cases h1:i=k
 ·rw[YcS];by_cases h2:a=k
  ·rw[Y8B,h1,h2]
  ·rw[Y7E,Ys,h1]
 ·rw[Yb9];by_cases h2:i=a
  ·rw[Y8B,Ys,h2]
  ·rw[Y7E,Yb9,Y7E]
def Pm.swap{m k a:Nat}{p p':Y1A}(h:Pm m p p')(hk:k<m)(ha:a<m):Pm m (λi=>p (sw k a i)) (λi=>sw k a (p' i)) :=
 ⟨λi e=>h.a _ (WZ hk ha e),λi e=>WZ hk ha (h.b i e),λi e=>by show p (sw k a (sw k a (p' i)))=i;rw[aC6,h.c i e],λi e=>by show sw k a (p' (p (sw k a i)))=i;rw[h.d _ (WZ hk ha e),aC6]⟩
abbrev sX(m:Nat)(p:Y1A):Al:=(List.range m).map λi=>V.int ((p i:Nat):Int)
def lU{m i:Nat}(p:Y1A)(h:i<m):(sX m p)[i]?=Yer ((p i:Nat):Int):=by rw[aE,aZ h];rfl
def TN{m k a:Nat}{p:Y1A}(hk:k<m)(ha:a<m):((sX m p).set k (V.int ((p a:Nat):Int))).set a (V.int ((p k:Nat):Int))=sX m λi=>p (sw k a i):=by
 refine Y6x;by_cases hi:i<m
 ·rw[lU _ hi,List.getElem?_set,List.getElem?_set,List.length_set,aA,aQ];unfold sw;by_cases h2:a=i
  ·rw[Y8B,if_pos ha];by_cases h1:i=k
   ·rw[YcS,<-h1,<-h2]
   ·rw[Yb9,if_pos h2.symm]
  ·rw[Y7E];by_cases h1:k=i
   ·rw[YcS,if_pos hk,if_pos h1.symm]
   ·rw[Yb9,if_neg (Ne.symm h1),if_neg (Ne.symm h2)];exact lU p hi
 ·rw[bI (by rw[List.length_set,List.length_set,aA,aQ];exact Oo),bI (by rw[aA,aQ];exact Oo)]
inductive wQ:Yq
 | i {H:Hp} {Q:VK} {E:XK} {p L:Addr} {n m:Nat} (F:Y3K (n+4)) (h1:1<=m) (h2:m<=4) (k:∀l g g' H',Y5h n->Y12->H l=none->H' l=Yc (sX m g)->Pm m g g'->Y0r l):wQ [Y21,.int (m:Int)] H Q E
section
def oQ9(F:Ye "_law_order" "_law_order" sQ9)(T:Yk)(FQ6:Y03 "_law_draw" a01 fF):dW P w K mg base dD 2 f fd a01 wQ:=by
 refine F.oky cQ9 λκ H Q E h=>?_;obtain @⟨H,Q,E,p,L,n,m,F0,m1,ν,k⟩:=h;refine Yi;intro γ A I s μ _;refine⟨_,(aH (Y1q cQ9.nd (aA9 rfl rfl T.b_list rfl T.b_range (Y3L 1)))
  (aH (gH PassesOwn.never rfl (Y6O 1) (Y9h 3 cQ9.nd) (aH (Y2d 4 cQ9.nd FQ6 0 Y0t)
  (aV (GK (Y35 (Y3n 2 Y1b) (Y3n 2 Y0X)) (mJ rfl (eK (BN (Y0c) (Y0X) sR) (eK (BN (Y0c) (Y1b) sR) kD)))))))
  (Y2x 2))),?_⟩
 refine Yv;intro ε δ;refine Y8;refine rlr (n:=m) Oo λl H1 d θ X=>?_;have F1:=F0.same X;have D:=F0.ne d;have α:=F0.neL d;refine Y3p _ rfl _ Oo Oo (mQ (λi σ H'=>Ex4 λ(g u:Nat->Nat) (M y:Am)=>An5 (σ=[Y3c,Yb (m:Int),Y3 l,M,y]) (Y5h (n+4-i)) (Y12) (H' l=Yc (sX m g)) (Pm m g u)) ⟨id,id,_,_,rfl,F1,X.but,θ,⟨λ_ h=>h,λ_ h=>h,λ_ _=>rfl,λ_ _=>rfl⟩⟩ ?_ ?_)
 ·rintro i σ H2 e ⟨g,u,M,y,rfl,F2,b2,G,C⟩;refine Y9V;intro ε δ;refine Y02;refine YcL (n+4-(i+1)) (F2.less Oo) (bitsle (aI (show(m:Int).natAbs<=4 by exact Oo) Dd)) (λN H3 ξ ι F3 S=>?_);obtain⟨a,rfl,r⟩:∃a:Nat,N=(a:Int)/\a<m:=⟨N.toNat,Oo,Oo⟩;have z:=S.at D G;have e:i<m:=Oo;refine Y07 (Y5Q z (lU g r));refine Y07 (xH z (by rw[Int.zero_add];exact dB (lU g e)) ?_);refine sF (by show 2<=64;decide) λο H4 ζ β B=>Y8i _ _ (jC.of β) rfl ?_;refine Y2R _ Y02;have R:∀{J:Al} {j:Nat},j<J.length->NU J.length (j:Int)=Y6u:=λ{J j} h=>by unfold NU;rw[Y4U,Y4U];rfl
  have W:∀q:Nat->Nat,(sX m q).length=m:=λq=>by rw[aA,aQ]
  refine stG (j:=i) (B _ _ z) (by rw[Int.zero_add];exact R (by rw[W];exact e)) λH5 η Z=>Y2R _ ?_;refine Y02;refine stG (j:=a) η (R (by rw[List.length_set,W];exact r)) λH6 O U=>Yi;rw[TN e r]at O;exact⟨_,_,_,_,rfl,((F3.same B).but Z D α).but U D α,aW.thru d (aW.thru d ((b2.trans S).trans B.but) Z) U,O,C.swap e r⟩
 ·rintro σ H2 ⟨g,u,M,y,rfl,F2,b2,G,C⟩;exact Y5 (k l g u H2 (F2.less Oo) b2 d G C)
end
abbrev aBq:Stmt:=(top 92)
def uV:Yj ["_law_script","_law_feed_here","_law_faces","_law_ways","_law_trial_here","_law_aim_here","_law_prices","_law_order_here","_law_shown","_law_told","_law_way","_law_other","_law_goal","_law_known","_law_counts","_law_worth"] a23 aBq:={}
def lH{fs:Ak}(h:∀f∈fs,SE f):∀f∈fs,Y13 (dens fs) 1000:=λf a=>(aCl h f a).le Dd
def KZ{l:Ak}(h:∀f∈l,SE f)(hl:l.length<=2):dens l<=998001:=aK (IH h) (Y3B (Y4N hl))
def aDx{M a b c n m:Nat}(h:n<=m):nZ M a b c n<=nZ M a b c m:=Y1z (Y1z (dI _ h))
def aFf:∀W,W<=3->∀M,M<=2->DB W (tM^M*554400)^(W+1)*tM^M<2^1800/\tM^M*554400<=2^80/\nZ M tM tM 1 998001*5000<2^110/\2097152*(1000+ZB W (tM^M*554400) 110*(tM^M*554400))<=2^680/\PB W (tM^M*554400)*nZ M tM tM 1 998001*nZ M tM tM 1 998001<Y0A/\nZ M tM tM 1 998001*554400<Y0A/\nZ M tM tM 1 998001<Y0A:=Kk
structure xV(F W M:Nat)(fs:Ah)(ws:Y0l)(bs mix cs:Ak):Prop where
 T:TrC F W fs ws
 f:2<=F/\F<=3
 w:2<=W/\W<=3
 m:M<=2
 bl:Yd4 W
 b:∀f∈bs,FnP 554400 1 f
 mx:GF W mix
 cl:Yd3 M
 c:∀f∈cs,SE f
def xV.mn{F W M:Nat}{fs:Ah}{ws:Y0l}{bs mix cs:Ak}(L:xV F W M fs ws bs mix cs)(w:Nat):0<=Y3b w:=WF (N:=tM) (B:=1) (λf a=>⟨(Ydb a).1,(Ydb a).2⟩) w
def xV.cn{F W M:Nat}{fs:Ah}{ws:Y0l}{bs mix cs:Ak}(L:xV F W M fs ws bs mix cs)(k:Nat):0<=cT cs k:=WF (N:=Ya8) (B:=1000) (λf a=>⟨lH L.c f a,(L.c f a).2.1⟩) k
def xV.m1{F W M:Nat}{fs:Ah}{ws:Y0l}{bs mix cs:Ak}(L:xV F W M fs ws bs mix cs):bZ W (Y6J)=1:=by
 have:=tY mix;rw[L.mx.one,L.mx.len]at this;exact this.symm
def xV.few{F W M:Nat}{fs:Ah}{ws:Y0l}{bs mix cs:Ak}(L:xV F W M fs ws bs mix cs):(Y0a).length<=20:=aDh F L.f.2 M (by have:=L.m;exact Oo)
def xV.fw{F W M:Nat}{fs:Ah}{ws:Y0l}{bs mix cs:Ak}(L:xV F W M fs ws bs mix cs):AE F W M fs ws bs mix cs tM tM (Ya8) 554400 1000 80 110:=by
 obtain⟨j,z,g,r,n,u,l⟩:=aFf W L.w.2 M L.m;have A:=L.f;have B:=L.w;have h:=L.m;have few:=L.few;have i:=xN L.c;have p:Ya8<=998001:=KZ L.c (by rw[L.cl];exact h);have d:nZ M tM tM 1 (Ya8)<=nZ M tM tM 1 998001:=aDx p;have pos:0<nZ M tM tM 1 (Ya8):=YdU (dU Oo Dd) Dd;refine⟨⟨⟨Oo,Oo,Oo,Oo,Oo,by rw[aA];exact L.T.w,L.mx.len,bV,L.cl,λs y=>?_,λf a=>(Ydb a).1,λf a=>?_,λf a=>lH L.c f a,pos,aI d l,aK Dd aFR⟩,L.T.b,L.bl,λf a=>(L.b f a).1,Dd,aI (Y1z d) u⟩,L.T.f,L.T.qin,λf a=>(L.b f a).2,L.mn,L.m1,L.cn,⟨Oo,Oo,Oo,L.T.w,λx e f a=>((L.T.sh x e).at f a).1,L.T.b,L.mx.len,λf a=>(Ydb a).1,Dd,Kk,i,Oo,λf a=>lH L.c f a,L.cl⟩,⟨few,Dd,j⟩,z,aI (Y1z d) g,Dd,by unfold WB;exact r,aI (Nat.mul_le_mul (dI _ d) d) n⟩
 ·obtain⟨x,e,rfl⟩:=aN.mp y;exact⟨(L.T.sh x e).len,λf a=>((L.T.sh x e).at f a).1⟩
 ·rw[List.eq_of_mem_replicate a];exact(Fn.zero 1).le (Y0L)
def xV.wo{F W M:Nat}{fs:Ah}{ws:Y0l}{bs mix cs ps:Ak}(L:xV F W M fs ws bs mix cs)(lp:ps.length=W)(fp:∀f∈ps,SE f):kO F W M (Y0K) mix ps cs tM tM (dens ps) (Ya8) 1000:=by
 have j:=L.f;have l:=L.w;have e:=L.m;have i:dens ps<=997002999:=aK (IH fp) (Y3B (Y4N (show ps.length<=3 by exact Oo)));have g:Ya8<=998001:=KZ L.c (by rw[L.cl];exact e);refine⟨Oo,Oo,Oo,Oo,Oo,by rw[aA];exact L.T.w,L.mx.len,lp,L.cl,λs h=>?_,λf a=>(Ydb a).1,λf a=>lH fp f a,λf a=>lH L.c f a,YdU (dU (dU (xN fp) (xN L.c)) Dd) Dd,?_,aK Dd aFR⟩
 ·obtain⟨x,d,rfl⟩:=Y70;exact⟨(L.T.sh x d).len,λf a=>((L.T.sh x d).at f a).1⟩
 ·exact Y7R (Nat.mul_le_mul (Y1z (Nat.mul_le_mul i g)) (Y4N e)) (show 997002999*998001*tM*tM^2<2^200 by decide)
def KO{i:Nat}{v v':V}{σ:St}{H:Hp}{Q:Y2J}(e:v=v')(h:Q (σ.set i (some v')) H):nO i v σ H Q:=by rw[e];exact h
def aIY{r:R2}{v:V}{tb:TE}{σ:St}{H:Hp}{Q:VK}(h:tb σ H λy H2=>r v y H2 Q):tOp r (tC v) tb σ H Q:=h
def aIZ{r:Y1x}{ta:TE}{σ:St}{H:Hp}{Q:VK}(h:ta σ H λx H1=>r [x] H1 Q):tCB r (pE ta JG) σ H Q:=h
def mT{t:Y1c VK}{Q:VK}(R:VK)(h1:∀Q':VK,(∀x H,R x H->Q' x H)->t Q')(h2:∀x H,R x H->Q x H):t Q:=h1 Q h2
def aAy{H:Hp}{M:Nat}{bs mix cs:Ak}{v:V}(h:Y0M (aAz M bs mix cs) v):∃a x1 x2 x3,v=Yd/\H a=Yf [.int (M:Int),x1,x2,x3]/\Y2l H bs x1/\Y2l H mix x2/\Y2l H cs x3:=by
 obtain⟨a,m,rfl,e,c⟩:=lK h;unfold bD bD bD bD bD at c;obtain⟨g,_,rfl,j,x1,_,rfl,l,x2,_,rfl,d,x3,_,rfl,i,rfl⟩:=c;cases(show g=V.int (M:Int)from j);exact⟨a,x1,x2,x3,rfl,e,l,d,i⟩
def uR{K:Aa}{H:Hp}{M:Nat}{bs mix cs:Ak}{v:V}(h:Y0M (aAz M bs mix cs) v):Y4A K H M v:=by
 obtain⟨a,l,c,e,rfl,i,d,j,g⟩:=aAy h;exact⟨a,l,c,e,rfl,i,d,j,MA.of g⟩
def AW{H:Hp}{d e:PyData}{v:V}(h:Y0M (.tuple [d,e]) v):∃a x y,v=Yd/\H a=Yf [x,y]/\Y0M d x/\Y0M e y:=by
 obtain⟨a,l,rfl,g,c⟩:=lK h;unfold bD bD bD at c;obtain⟨x,_,rfl,i,y,_,rfl,j,rfl⟩:=c;exact Y3p a x y g i j
def WJ{H:Hp}{fs:Ah}{ws:Y0l}{v:V}(h:Y3f v){w f:Nat}{u:Fr}(hw:(Y0K)[w]?=some ((iW ws).getD w []))(hf:((iW ws).getD w [])[f]?=Ym):∃a x b xs c y d ys z,v=Yd/\H a=Yf [x,Y0e]/\H b=Y16/\Y28 w=Y3 c/\H c=Yf [y,Y5H]/\H d=Y7f/\ys[f]?=Y83/\Y2W u z:=by
 obtain⟨a,x,y,rfl,p,_,s⟩:=AW h;obtain⟨b,xs,rfl,C,j⟩:=lK s;have A:∃t,ws[w]?=Y79/\t.2=(iW ws).getD w []:=by
  rw[show iW ws=ws.map (·.2)from rfl,aE]at hw;cases q:ws[w]? with
  | none=>rw[q]at hw;cases hw
  | some t=>rw[q]at hw;exact Yz t (fN hw)
 obtain⟨t,B,e⟩:=A;obtain⟨D,i,m⟩:=bD.atX j B;obtain⟨c,y,z,rfl,n,_,l⟩:=AW m;obtain⟨d,ys,rfl,hd,g⟩:=nT l;rw[<-e]at hf;obtain⟨z,r,l⟩:=bD.atX g hf;exact⟨a,x,b,xs,c,y,d,ys,z,rfl,p,C,i,n,hd,r,l⟩
def aBZ:Y81 Y66
 | none=>.none
 | some q=>iG (fZ q)
def VH.rep{H:Hp}{o:Y66}{v:V}(h:VH H o v):Y0M (aBZ o) v:=by
 cases o with
 | none=>rw[show v=V.non from h];exact dA.non
 | some q=>exact h
def JW(o:Y66):Y5E (aBZ o):=by
 cases o with
 | none=>rfl
 | some q=>exact xK _
def YS(o:Y66):PyData.eqv (aBZ o) (aBZ o)=true:=by
 cases o with
 | none=>rfl
 | some q =>
  show PyData.eqv (iG (fZ q)) (iG (fZ q))=true;rw[IB,cN rfl]
def fwW:Y66->Str
 | none => "none"
 | some _ => "rule"
def JP{K:Aa}{H:Hp}{Q:VK}{E:XK}{tv av:V}{F W M:Nat}{fs:Ah}{ws:Y0l}{bs mix cs:Ak}{Ns Nm Nc Nb BB e X:Nat}(h1:Y3f tv)(h2:Y4A K H M av)(h3:AE F W M fs ws bs mix cs Ns Nm Nc Nb BB e X)(h4:∀f∈cs,Y13 Nc BB)
  (k:∀a ys o H',Y0->H' a=Yf (.str (fwW o)::ys)->LcQ F W M (Y0K) bs mix cs o->Y0r a):mN K [tv,av] H Q E :=
 mN.i h1 h2 h3 h4 (λa _ _ H' s e d=>k a _ none H' s e d) (λa _ _ _ g _ _ H' s e _ RU c le=>k a _ (Y7c) H' s e (Y6e g RU.any c le RU.sy))
def PP{H:Hp}{W:Nat}{o:Y1A}{fs:Ak}{ys:Al}(h:∀(i:Nat) (y:V),Y1o=Y0b->∃f:Fr,Y2W f y/\f=fs.getD (o i) (0,1))(hl:Y2w W):Y1n ((wC W o fs).map iG) ys:=by
 obtain⟨g,d,c,a⟩:=RD h;have e:g=wC W o fs:=by
  refine List.ext_getElem? λj=>?_;by_cases hj:j<W
  ·rw[WN hj,Y3W,a j _ (Y3W)]
  ·rw[bI Oo,bI (by rw[GQ];exact Oo)]
 rw[<-e];exact c
def NX{H:Hp}{fs:Ak}{xs:Al}(r:Y5v H iG xs){i:Nat}(hi:Y8G i):∃x,Y0p=Y7/\Y2W (fs.getD i (0,1)) x:=by
 have e:fs[i]?=some (fs.getD i (0,1)):=by rw[aM,aB hi];rfl
 exact bD.atX r e
def aBb{kvs:Yr}(nd:(kvs.map (·.1)).Nodup){i:Nat}{k:Y4l}{v:V}(h:kvs[i]?=some (k,v)):Y4y=Yw:=by
 unfold fX;have d:=aF h;cases q:kvs.find? λc=>Y0P c.1 k with
 | none =>
  have:=List.find?_eq_none.mp q _ d;simp at this
 | some c =>
  have e:c.1=k:=by simpa using List.find?_some q
  obtain⟨j,a⟩:=fP.mp (List.mem_of_find?_eq_some q);have:j=i:=(List.getElem?_inj (by rw[aA];exact(Y6Z).1) nd).mp (by rw[aE,aE,a,h,<-e];rfl);subst this;rw[h]at a;injection a with a;rw[<-a];rfl
theorem EJ{H:Hp}{val:Ae->Fr}:∀{rs:Ab}{ys:Al},Y1n (rs.map λc=>.tuple [tK c,iG (val c)]) ys->∃kvs:List (List fJ × V),Ybg (SG H) ys/\kvs.map (·.1)=rs.map (λc=>Y2c c)/\∀(i:Nat) c,rs[i]?=Y1h->∃u,kvs[i]?=some (Y2c c,u)/\Y2W (val c) u
 | [],ys,h=>by
  unfold bD at h;subst h;exact⟨[],.nil,rfl,λi c h=>by cases h⟩
 | c::rs,ys,h=>by
  rw[bA]at h;unfold bD at h;obtain⟨y,ys,rfl,r1,r2⟩:=h;obtain⟨kvs,m,l,g⟩:=EJ r2;obtain⟨b,x,u,rfl,p,e,ru⟩:=AW r1;obtain⟨a,rfl,j⟩:=hV e;refine⟨(kT (ci c),u)::kvs,.cons ⟨b,a,rfl,p,?_⟩ m,by rw[bA,l];rfl,λi d h=>?_⟩
  ·rw[yQ,j];show _=some (HO.tup ((c.map λ(n:Nat)=>(n:Int)).map V.int));rw[List.map_map];rfl
  ·cases i with
   | zero=>cases h;exact⟨u,rfl,ru⟩
   | succ i=>exact g i d h
theorem abcd:∀i:Nat,i<4->∃c:Nat,ED ("abcd" : Str).cps.toList (i:Int)=Y1h/\(reprText (("w" : Str)++⟨#[c]⟩)).length<=20/\(reprText (("f" : Str)++⟨#[c]⟩)).length<=20:=λi a=>by
 have:i=0\/i=1\/i=2\/i=3:=Oo;rcases this with rfl | rfl | rfl | rfl
 ·exact Y2h _ Kk Kk
 ·exact Y2h _ Kk Kk
 ·exact Y2h _ Kk Kk
 ·exact Y2h _ Kk Kk
section
def aIz(F:Ye "law" "law" aBq)(T:Yk)
  (FQ7:Y03 "_law_feed" a23 (AQ K)) (FQ6:Y03 "_law_draw" a01 fF) (FQ12:Y3k "_law_trial" a09 uI) (FQ4:Y3k "_law_aim" a13 AO) (FQ11:Y3j "_law_some" a12 uF) (FQ9:Y3j "_law_order" a01 wQ) (FQ35:Y10 10 "least_cost" a24 (sO K)) (FQ28:Y10 9 "fewest" a24 (mN K)) (FQ70:Y10 7 "worths" a28 (lC K)):dW P w K mg base dD 11 f fd a23 (yD K):=by
 refine Y17 uV;unfold yD at h;obtain⟨a,ns,rfl,hS,hl,k⟩:=h;refine Yi;intro cdv A outer s hr _;refine⟨_,(aH (Y3x 1 uV.nd (Y0D FQ7 0))
  (aH (Y1q uV.nd (Y6y aO (iF FX (by rfl) T.b_int Kk (Y1p (vI oU (Y8D 1) aO)))))
  (aH (Y1r uV.nd (Y6y aO (iF FX (by rfl) T.b_int Kk (Y1p (aDB (vI oU (Y0c) aO) (aDA (vI oU (Y8D 1) aO)))))))
  (aH (Y3x 4 uV.nd (Y38 FQ12 Y0t 2 Y0X))
  (aH (Y3x 5 uV.nd (Y38 FQ4 Y0t 3 (Y3g (iM (bE aO (Y4G aO aO (Y1p aO)))) (Y8D 1))))
  (aH (Y3x 6 uV.nd (Y6s (by rfl) ["_law_way","_law_feed_here"] [1] (Y6O 3) (Y0D FQ11 1)))
  (aH (Y2d 7 uV.nd FQ9 1 Y0X)
  (aH (Y2d 8 uV.nd FQ9 1 Y0c)
  (aH (Yep 9 (iM aS))
  (aH (Y6d (dJ (aD 7)) (YaA 10 uV.nd rfl rfl) (kW (rZ PySem.F.plainAttrs_list PySem.F.slot_list_append PySem.F.type_list_append sY (aD 9) (Y1p (Y35 (cG CH iB (Y3g iB (aD 10))) (Y6s (by rfl) ["_law_face","_law_trial_here","_law_way"] [4,10] (dJ (aD 8)) (bQ (fA K) (bQ (fA K) (bQ (fA K) (Y5c 1) (Y0c)) aO) (Y04))))))))
  (aH (Yep 11 (Y35 (Y6s (by rfl) ["_law_face"] [] (dJ (aD 8)) (cG CH iB (bQ (fA K) iB (Y04)))) (Ydd cV (by rfl) Kk (Y3L 9))))
  (aH (Yep 12 (fD (Y4G (Y0N 5) (Y6s (by rfl) ["_law_way","_law_aim_here"] [5] (dJ (aD 7)) (bQ (fA K) (Y5c 1) (Y04))) (Y2f (Y6s (by rfl) ["_law_way","_law_aim_here"] [5] (dJ (aD 7)) (bQ (fA K) (Y5c 1) (Y04))) (Y0N 5)))))
  (aH (Y6B (OZ (SM (aCV (eQ (NL hr.units) (Y2k FQ35 4 5) (Y2k FQ35 11 12)) (VR (eQ aDa (Y3g (Y2k FQ28 4 5) aO) (Y3g (Y2k FQ28 11 12) aO)))))) PH)
  (aH (Yep 13 (iF (aAi hr.units rfl) (by rfl) T.b_dict Kk (Y1p (Y38 FQ70 (aD 11) 12 (Y6s (by rfl) ["_law_way","_law_prices"] [6] (dJ (aD 7)) (Y6p 1 Y04))))))
  (aH (Y6d (xZ (Y38 FQ70 Y1b 5 (aD 6))) (mJ rfl (eK (YaA 14 uV.nd rfl rfl) (eK (Y9h 15 uV.nd) kD))) (Y6B (eQ (NL hr.units) (gQ hr.u1 (aD 13) (Y6s (by rfl) ["_law_face","_law_counts"] [14] (dJ (aD 8)) (Y6p 1 Y04))) (aD 15)) PH))
  (Y0Z PH)))))))))))))))),?_⟩
 refine Yv;intro N Z;refine Y8;refine AQ.i hS hl λp L H1 F1 s1 hp1 hL1=>Yt;intro N Z;refine Y8;refine Y3A 999999 (F1.less Dd) (λx2 H2 a2 b2 F2 θ=>Y0O (.inr (Y6D _ _ _ rfl ?_)));obtain⟨F,hF,F23⟩:∃F:Nat,(2:Int)+(if Y0P (V.int x2) (V.int 0)=true then 1 else 0)=(F:Int)/\(F=2\/F=3):=by
  split
  ·exact Yz 3 Y8J
  ·exact Yz 2 Y4I
 refine KO (Ye5 hF) ?_;dsimp only;refine Yv;intro N Z;refine aHY (aI0 (aIY (aIZ ?_)));refine mT (t:=WX _ _ _ _) (λx H'=>∃b:Bool,x=.bl b/\Y5h 999990) (λQ' mono=>?_) ?_
 ·refine Y51 _ (yR (λeq=>?_) (λne=>?_))
  ·refine Y8;refine Y3A 999998 F2 (λx3 H3 a3 b3 F3 s3=>Yi);exact mono _ _ (Y5 (F3.less Dd))
  ·exact mono _ _ (Yz false (F2.less Dd))
 ·rintro _ H3 ⟨b,rfl,F3⟩;refine .inr (Y6D _ _ _ rfl ?_);obtain⟨W,hW,W23⟩:∃W:Nat,(2:Int)+(if b=true then 1 else 0)=(W:Int)/\(W=2\/W=3):=by
   cases b with
   | true=>exact Yz 3 Y8J
   | false=>exact Yz 2 Y4I
  refine KO (Ye5 hW) (Y4i);intro N Z;refine Y4q;refine uI.i (n:=999900) (F:=F) (W:=W) (F3.less Dd) Oo Oo Oo Oo λtv fs I H4 F4 s4 rt TT=>Yt;intro N Z;have f23:2<=F/\F<=3:=Oo;have w23:2<=W/\W<=3:=Oo;clear hF hW F23 W23 F1 F2 F3 s1 θ;refine Y02;refine EA (by show 4<=64;decide) λq5 H5 hq5 e5 φ=>Y8;refine Y3A 999899 (F4.same φ) (λx6 H6 a6 b6 F6 G=>?_);obtain⟨M,hM,m2⟩:∃M:Nat,ED [V.int 0,V.int 1,V.int 1,V.int 2] x6=Yb (M:Int)/\M<=2:=by
   have:x6=0\/x6=1\/x6=2\/x6=3:=Oo;rcases this with rfl | rfl | rfl | rfl
   ·exact Yz 0 Dd
   ·exact Yz 1 Dd
   ·exact Yz 1 Dd
   ·exact Yz 2 Dd
  refine xH (G.at (F4.ne hq5) e5) hM (AO.i (n:=999800) (W:=W) (M:=M) (F6.less Dd) Oo Oo Oo λav bs B μ H7 F7 s7 ra lbs fbs shm lcs fcs=>?_);refine Yt;intro N Z;have rt7:dA H7 (DX fs I) tv:=YcE ((φ.t.trans ((F4.same φ).t G)).trans (F6.t s7)) _ _;clear rt F4 F6 s4 φ G s7 e5;refine Y3p _ rfl _ Oo Oo (xQ (Ydw p L (999800-3*i)) F7 (λi y H'=>∃f:Fr,Y2K f y/\SE f) (λi y Ha Hb s ⟨x,ε,δ⟩=>⟨x,Ycu s x,δ⟩) Oo (λi H' Q' hi F' O U=>?_) (λD J H8 hD e8 F8 ρ hy hr8=>?_))
  ·refine Y8;exact uF.i (n:=999800-3*(i+1)) (YeT) λv f H2 T2 θ r2 f2=>U _ H2 T2 θ ⟨f,r2,f2⟩
  obtain⟨ps,ο,rps,fps⟩:=IA hr8;have ο:ps.length=W:=Oo;refine Y2R D (Y7o e8);refine Yt;intro N Z;have κ:=Y7n J;have e9:(upd H8 l (.tup J)) l=Yf J:=bH;generalize upd H8 l (.tup J)=H9 at κ e9;have t9:fG H7 H9:=(F7.t ρ).trans κ.t;have F9:fW H9 p L 999788:=(F8.same κ).less Oo;have rp9:Y2l H9 ps Y1j:=dA.tup e9 (rps.same κ);have rt9:=rt7.flat t9 (lL _ _);have ra9:=ra.flat t9 (zI _ _ _ _);clear rt7 ra F7 F8 ρ κ e8 e9 hr8 rps t9 hy;refine Y02;refine wQ.i (n:=999784) (m:=W) F9 Oo Oo λlo o o' Ha Fa sa hlo ea C=>Yt;intro N Z;refine Y02;refine wQ.i (n:=999780) (m:=F) Fa Oo Oo λls g g' Hb Fb sb hls eb X=>Yt;intro N Z;have tb:fG H9 Hb:=(F9.t sa).trans (Fa.t sb);have eob:Hb lo=Yc (sX W o):=sb.at (F9.ne hlo) ea;have rtb:=rt9.flat tb (lL _ _);have rab:=ra9.flat tb (zI _ _ _ _);have rpb:=rp9.flat tb (jY _);clear rt9 ra9 rp9 F9 Fa sa sb ea tb hlo hls;refine EA (by show 0<=64;decide) λDt Hc ad ec sc=>Yt;intro N Z;have eoc:=sc _ _ eob;have esc:=sc _ _ eb;have nDo:Dt≠lo:=λe=>by rw[e,eob]at ad;cases ad
  have nDs:Dt≠ls:=λe=>by rw[e,eb]at ad;cases ad
  have rtc:=rtb.same sc;have rac:=rab.same sc;have rpc:=rpb.same sc;clear rtb rab rpb eob eb sc Fb;have d:∀(m:Nat) (q:Y1A),(sX m q).length=m:=λm q=>by rw[aA,aQ]
  refine Y5a _ _ _ eoc (Yda (sX W o) (Ye1 (λ(ω:Am) (ζ:List (Str × Ak)) (J:Al)=>An8 (σ=[Y3X,Y3c,Yb (F:Int),Yb (W:Int),some tv,some av,Y3 l,Y3 lo,Y3 ls,Y3 Dt,ω,none,none,none,none,none]) (fG Hc H') (H' lo=Yc (sX W o)) (H' ls=Yc (sX F g)) (H' Dt=Yc J) (bD H' (ζ.map wD) J) (ζ.length=i) (∀(j:Nat) x,ζ[j]?=Y7->x.2=wC F g ((iW I).getD (o j) [])/\(reprText x.1).length<=20))) ⟨_,[],[],rfl,λ_ _ h=>h,eoc,esc,ec,bD.nil,rfl,λj x h=>by cases h⟩ Y8j ?_)
  ·obtain⟨_,_,_,_,_,h,_⟩:=q;exact Y8Q
  ·rintro i x σ Hd r ⟨ω,ζ,J,rfl,td,η,ι,eD,ru,lu,hu⟩;refine Y5A;intro N;have hi:i<W:=by have:=(Y7X).1;rwa [d]at this
   rw[lU o hi]at r;cases r;have hoi:=C.a i hi;obtain⟨ch,hch,r20,_⟩:=abcd (o i) Oo;have rtd:=rtc.flat td (lL _ _);refine Y2h _ (VL eD) (Y5 (YeF (Y1B _ _ ch rfl Kk hch ?_)));refine Y54 _ (by show Y0q 2;decide) (Y5a _ _ _ ι (YcY (sX F g) (∃f:Fr,Y2K f y/\f=((iW I).getD (o i) []).getD (g j) (0,1)) (λj y Ha Hb s ⟨x,ε,δ⟩=>⟨x,Ycu s x,δ⟩) (by rw[d];exact Oo) ι ?_ (λD zs He hD χ se hz τ=>?_)))
   ·have z:j<F:=by have:=(Y7X).1;rwa [d]at this
    rw[lU g z]at r;cases r;have ξ:=X.a j z;have lw:(iW I).length=W:=by show(I.map (·.2)).length=W;rw[aA];exact TT.w
    have e1:(iW I)[o i]?=some ((iW I).getD (o i) []):=by rw[aM,Y3W];rfl
    have sh1:GF F ((iW I).getD (o i) []):=by
     obtain⟨x,r,e⟩:=aN.mp (aF e1);rw[<-e];exact TT.sh x r
    have e2:((iW I).getD (o i) [])[g j]?=some (((iW I).getD (o i) []).getD (g j) (0,1)):=by rw[aM (l:=((iW I).getD (o i) [])),aB (by rw[sh1.len];exact ξ)];rfl
    obtain⟨ta,tx,tb,txs,tc,ty,td',tys,tz,rfl,ε,δ,h3,h4,h5,h6,h7⟩:=WJ (rtd.same O) e1 e2;refine Y0n ε;refine Y5 (jK δ (dB h3) ?_);refine jK h4 rfl (Y5 (jK h5 (dB h6) ?_));exact U _ H' (Y06) (Y0V h7)
   have rhs:=PP τ (by rw[hz,d]);refine Y8b D χ (λα γ=>?_);have sf:=Y4a zs γ;have ef:(upd He α (.tup zs)) α=Yf zs:=bH;generalize upd He α (.tup zs)=Hf at sf ef;refine sF (by show 2<=64;decide) λqg Hg hqg eg sg=>?_;have Sg:=(se.trans sf).trans sg;have lys:J.length=i:=by rw[ru.len,aA,lu]
   refine LW (Sg _ _ eD) Oo λHh eh bh=>?_;have th:=bh.t (Sg _ _ eD);have th':fG Hd Hh:=Sg.t.trans th;refine⟨_,ζ++[(("w" : Str)++⟨#[ch]⟩,wC F g ((iW I).getD (o i) []))],J++[.ref qg],rfl,λ_ _ h=>th' _ _ (td _ _ h),bh.at (Ne.symm nDo) (Sg _ _ η),bh.at (Ne.symm nDs) (Sg _ _ ι),eh,?_,by rw[aU,lu];rfl,λj x r=>?_⟩
   ·rw[bF];exact Ye4 (ru.flat th' (GJ _)) th (GO _) (Y9T eg (dA.str _) ((dA.tup ef (rhs.same sf)).same sg))
   ·by_cases z:j<i
    ·rw[cJ Oo]at r;exact hu j x r
    ·have lt:=(Y7X).1;rw[aU,lu]at lt;have:j=i:=by simp at lt;exact Oo
     subst this;rw[cB Oo,lu,Nat.sub_self]at r;cases r;exact Y0O r20
  ·rintro σ Hd ⟨ω,ζ,J,rfl,td,η,ι,eD,ru,lu,hu⟩;refine Y4i;intro N Z;rw[d]at lu;refine Y5a _ _ _ ι (YcY (sX F g) (∃s,y=.str s/\(YcM).length<=20) Y8l (by rw[d];exact Oo) ι ?_ (λD zs He hD χ se hz τ=>?_))
   ·have z:j<F:=by have:=(Y7X).1;rwa [d]at this
    rw[lU g z]at r;cases r;obtain⟨ch,hch,_,r20⟩:=abcd (g j) (by have:=X.a j z;exact Oo);refine Y5 (YeF (Y1B _ _ ch rfl Kk hch ?_));exact Y54 _ (by show Y0q 2;decide) (U _ H' (Y06) (Y5 r20))
   obtain⟨ts,rfl,hts⟩:=PX τ;rw[aA,d]at hz;refine Y8b D χ (λα γ=>?_);have sf:=Y4a (ts.map V.str) γ;have ef:(upd He α (.tup (ts.map V.str))) α=Yf (ts.map V.str):=bH;generalize upd He α (.tup (ts.map V.str))=Hf at sf ef;have Sf:=se.trans sf;refine⟨_,rfl,Dt,_,rfl,Y4c (fV.of (Sf _ _ eD)) (λl3 hl3=>?_)⟩;have sg:=Y4a J hl3;have eg:(upd Hf l3 (.tup J)) l3=Yf J:=bH;generalize upd Hf l3 (.tup J)=Hg at sg eg;refine sF (by show 2<=64;decide) λqo Hh hqo eh sh=>Yt;intro N Z;have Sh:=(Sf.trans sg).trans sh;have ro:dA Hh (DX ts ζ) (.ref qo):=Y9T eh (dA.tup ((sg.trans sh) _ _ ef) (zJ ts)) (dA.tup (sh _ _ eg) (ru.same Sh));obtain⟨TT',TW⟩:=TT.turn X C hz hts lu hu;have th:fG Hc Hh:=λ_ _ h=>Sh.t _ _ (td _ _ h);have η:=Sh _ _ η;have ι:=Sh _ _ ι;have rth:=rtc.flat th (lL _ _);have rah:=rac.flat th (zI _ _ _ _);have rph:=rpc.flat th (jY _);clear rtc rac rpc td th ru eD χ se sf ef sg eg eh sh Sf Sh τ eoc esc ec hu;obtain⟨aa,xb,xm,xc,rfl,β,rxb,rxm,rxc⟩:=aAy rah;obtain⟨ab,vb,rfl,hab,rvb⟩:=nT rxb;obtain⟨am,vm,rfl,ham,rvm⟩:=nT rxm;refine Y0n β;refine Y5a _ _ _ η (YcY (sX W o) (∃f:Fr,Y2K f y/\f=bs.getD (o j) (0,1)) (λj y Ha Hb s ⟨x,ε,δ⟩=>⟨x,Ycu s x,δ⟩) (by rw[d];exact Oo) η ?_ (λD1 z1 H1 hD1 e1 s1 hz1 hr1=>?_))
   ·have z:j<W:=by have:=(Y7X).1;rwa [d]at this
    rw[lU o z]at r;cases r;obtain⟨y,hy,ry⟩:=NX rvb (i:=o j) (by rw[lbs];exact C.a j z);refine Y0n (O _ _ β);refine Y5 (jK (O _ _ hab) (dB hy) ?_);exact U _ H' (Y06) (Y0V (ry.same O))
   have r1:=PP hr1 (by rw[hz1,d]);refine Y8b D1 e1 (λα γ=>?_);have θ:=Y4a z1 γ;have e2:(upd H1 α (.tup z1)) α=Yf z1:=bH;generalize upd H1 α (.tup z1)=H2 at θ e2;have rb2:Y2l H2 (wC W o bs) (.ref α):=dA.tup e2 (r1.same θ);have S2:=s1.trans θ;clear s1 θ e1 e2 r1 hr1 hz1;refine Y5a _ _ _ (S2 _ _ η) (YcY (sX W o) (∃f:Fr,Y2K f y/\f=B.getD (o j) (0,1)) (λj y Ha Hb s ⟨x,ε,δ⟩=>⟨x,Ycu s x,δ⟩) (by rw[d];exact Oo) (S2 _ _ η) ?_ (λD3 z3 H3 hD3 e3 s3 hz3 hr3=>?_))
   ·have z:j<W:=by have:=(Y7X).1;rwa [d]at this
    rw[lU o z]at r;cases r;obtain⟨y,hy,ry⟩:=NX rvm (i:=o j) (by rw[shm.len];exact C.a j z);have S':=S2.trans O;refine Y0n (S' _ _ β);refine Y5 (jK (S' _ _ ham) (dB hy) ?_);exact U _ H' (Y06) (Y0V (ry.same S'))
   have r3:=PP hr3 (by rw[hz3,d]);refine Y8b D3 e3 (λl4 hl4=>?_);have s4:=Y4a z3 hl4;have e4:(upd H3 l4 (.tup z3)) l4=Yf z3:=bH;generalize upd H3 l4 (.tup z3)=H4 at s4 e4;have rm4:Y2l H4 (wC W o B) (.ref l4):=dA.tup e4 (r3.same s4);have S4:=S2.trans (s3.trans s4);refine Y0n (S4 _ _ β);refine sF (by show 4<=64;decide) λqg H5 hqg e5 φ=>Yt;intro N Z;have S5:=S4.trans φ;have rg:dA H5 (aAz M (wC W o bs) (wC W o B) μ) (.ref qg):=dA.tup e5 (bD.cons Y8L (bD.cons ((rb2.same (s3.trans s4)).same φ) (bD.cons (rm4.same φ) (bD.cons (rxc.same S5) bD.nil))));have ν:=ro.same S5;have ψ:=rth.same S5;have υ:=rah.same S5;have rp5:=rph.same S5;have eo5:=S5 _ _ η;have es5:=S5 _ _ ι;clear rb2 rm4 e5 φ S5 S4 s4 e4 s3 e3 r3 hr3 hz3 S2 β hab ham rvb rvm rxc ro rth rah rph η ι;have nb:∀f∈bs,FnP 554400 1 f:=λf hf=>⟨(fbs f hf).1.dvd (Y5l 20),(fbs f hf).2⟩;have L1:xV F W M fs I bs B μ:=⟨TT,f23,w23,m2,lbs,nb,shm,lcs,fcs⟩;have L2:xV F W M ts ζ (wC W o bs) (wC W o B) μ:=⟨TT',f23,w23,m2,GQ,GR C lbs nb,shm.turn C,lcs,fcs⟩;have lt:∀{q q':Y66},LcQ F W M (iW I) bs B μ q->LcQ F W M (iW ζ) (wC W o bs) (wC W o B) μ q'->q=q':=λa b=>aCc TW (YeS hw) (YeS hw) a b;have cb:∀f∈μ,Y13 (dens μ) 1000:=λf hf=>lH fcs f hf;refine Y05 (λb H'=>Yy b/\aT H5 H') ?_
   ·refine Y02;refine sO.i ψ (uR υ) L1.fw cb λo1 v1 H6 G q1 r1 _=>Y02;refine sO.i (ν.same G) (uR (rg.same G)) L2.fw cb λo2 v2 H7 s7 q2 r2 _=>?_;obtain rfl:=lt q1 q2;refine reD (r1.t s7.t).rep r2.rep (JW _) (JW _) ?_;rw[YS];refine Y5 (pS ?_);have S7:=G.trans s7;refine Y02;refine JP (ψ.same S7) (uR (υ.same S7)) L1.fw cb λa8 y8 o3 H8 ρ e8 q3=>jK e8 (Y6b rfl) ?_;refine Y02;have S8:=S7.trans ρ;refine JP (ν.same S8) (uR (rg.same S8)) L2.fw cb λa9 y9 o4 H9 κ e9 q4=>jK e9 (Y6b rfl) ?_;obtain rfl:=lt q3 q4;exact Y2R rfl ⟨by rw[cN rfl];rfl,S8.trans κ⟩
   rintro _ H6 ⟨rfl,G⟩;refine pS ?_;have ro6:=ν.same G;have rg6:=rg.same G;have rt6:=ψ.same G;have ra6:=υ.same G;have rp6:=rp5.same G;have eo6:=G _ _ eo5;have es6:=G _ _ es5;clear ν rg ψ υ rp5 eo5 es5 G lt;obtain⟨_,vp,hpe,hap,rvp⟩:=nT rp6;cases hpe;refine⟨_,rfl,_,rfl,_,rfl,_,rfl,⟨_,fV.of eo6⟩,YcY (sX W o) (∃f:Fr,Y2K f y/\f=ps.getD (o j) (0,1)) (λj y Ha Hb s ⟨x,ε,δ⟩=>⟨x,Ycu s x,δ⟩) (by rw[d];exact Oo) eo6 ?_ (λD7 z7 H7 hD7 e7 s7 hz7 hr7=>?_)⟩
   ·have z:j<W:=by have:=(Y7X).1;rwa [d]at this
    rw[lU o z]at r;cases r;obtain⟨y,hy,ry⟩:=NX rvp (i:=o j) (by rw[ο];exact C.a j z);refine Y07 (jK (O _ _ hap) (dB hy) ?_);exact U _ H' (Y06) (Y0V (ry.same O))
   have r7:=PP hr7 (by rw[hz7,d]);refine Y8b D7 e7 (λl8 hl8=>?_);have ρ:=Y4a z7 hl8;have e8:(upd H7 l8 (.tup z7)) l8=Yf z7:=bH;generalize upd H7 l8 (.tup z7)=H8 at ρ e8;have rq8:Y2l H8 (wC W o ps) (.ref l8):=dA.tup e8 (r7.same ρ);have S8:=s7.trans ρ;refine lC.i (ro6.same S8) hz (uR (rg6.same S8)) rq8 (L2.wo GQ (GR C ο fps)) TT'.b λv9 H9 κ r9=>?_;obtain⟨a9,y9,rfl,ha9,ry9⟩:=lK r9;obtain⟨kvs,kp,kk,kv⟩:=EJ ry9;have f4:F<=4:=Oo;have f1:1<=F:=Oo;have ndr:=pI F f4 M Oo;have few:(Y0a).length<=20:=aDh F f23.2 M Oo;have ndk:(kvs.map (·.1)).Nodup:=by
    rw[kk];exact List.pairwise_map.mpr (ndr.imp λh e=>h (Y36 e))
   have lk:Yby:=by
    have:=Y7u kk;rw[aA,aA]at this;exact Oo
   refine rdcp ha9 kp ndk lk λDk Hk hDk ek sk=>?_;have Sk:=S8.trans (κ.trans sk);have vals:∀c,Y3Q c->∃u,Y2y c=Ym/\dA Hk (iG (OX F W M (iW ζ) (wC W o B) (wC W o ps) μ c)) u:=λc hc=>by
    obtain⟨i,hi⟩:=List.getElem?_of_mem hc;obtain⟨u,hu,ru⟩:=kv i c hi;exact⟨u,aBb ndk hu,ru.same sk⟩
   have rtk:=rt6.same Sk;have rak:=ra6.same Sk;have rpk:=rp6.same Sk;have esk:=Sk _ _ es6;clear rt6 ra6 rp6 eo6 es6 ro6 rg6 rvp hap r7 e7 s7 ρ e8 rq8 S8 r9 ha9 ry9 kp kv κ sk Sk hr7 hz7;refine Y4q;refine lC.i rtk TT.f (uR rak) rpk (L1.wo ο fps) TT.b λvw Hw sw rw'=>?_;obtain⟨aw,yw,rfl,haw,ryw⟩:=lK rw';have lyw:yw.length=(Y0a).length:=by rw[ryw.len,aA]
   have ekw:=sw _ _ ek;have esw:=sw _ _ esk;refine Y2h _ (Ybl haw) (RF (xs:=yw) (YaB (λ(o14 o15:Am)=>An2 (σ=[Y3X,Y3c,Yb (F:Int),Yb (W:Int),some tv,Y3 aa,Y3 l,Y3 lo,Y3 ls,Y3 Dt,ω,Y3 qo,Y3 qg,Y3 Dk,o14,o15]) (aT Hw H'))) (Y2R _ Y06) (Y8j) ?_ ?_)
   ·obtain⟨_,_,_,s⟩:=q;exact jC.of (s _ _ haw)
   ·rintro i x σ Hx r ⟨o14,o15,rfl,sx⟩;have hi:i<yw.length:=(Y7X).1;have hc:=aB (l:=Y0a) (i:=i) Oo;generalize (rise F M)[i]=c at hc;obtain⟨x',R,rx⟩:=bD.atX ryw hc;rw[r]at R;cases R;obtain⟨b,cv,wv,rfl,hb,rc,rwv⟩:=AW (rx.same sx);obtain⟨ac,rfl,hac⟩:=hV rc;have S:=(fT f1).mp (aF hc);refine Y8i _ _ (jC.of hb) rfl ⟨_,_,rfl,_,_,rfl,rfl,Y2N⟩;intro N;refine⟨_,rfl,_,rfl,_,rfl,⟨_,fV.of (sx _ _ esw)⟩,dO (xs:=sX F g) (λj y _=>y=V.int ((c.getD (g j) 0:Nat):Int)) (Y8l) (by rw[d];exact Oo) (sx _ _ esw) (λj x H' Q' R O U=>?_) (λD2 z2 H2 hD2 e2 θ hz2 hr2=>?_)⟩
    ·have z:j<F:=by have:=(aC.mp R).1;rwa [d]at this
     rw[lU g z]at R;cases R;have ξ:=X.a j z;refine Y07 (jK (O _ _ hac) (dB (j:=g j) (v:=V.int ((c.getD (g j) 0:Nat):Int)) ?_) ?_)
     ·rw[aE,aB (by rw[S.1];exact ξ),aM,aB (by rw[S.1];exact ξ)];rfl
     ·exact U _ H' (Y06) rfl
    have ez:z2=(ci (lA F g c)).map V.int:=by
     refine List.ext_getElem? λj=>?_;rw[show(ci (lA F g c)).map V.int=(List.range F).map λf=>V.int ((c.getD (g f) 0:Nat):Int)by unfold ci lA;rw[List.map_map,List.map_map];rfl,aE];by_cases z:j<F
     ·have h:=aB (l:=z2) (i:=j) (by rw[hz2,d];exact z);rw[h,hr2 j _ h,aZ z];rfl
     ·rw[bI (by rw[hz2,d];exact Oo),bI (by rw[aQ];exact Oo)];rfl
    subst ez;refine Y8b D2 e2 (λl3 hl3=>?_);have s3:=Y4a ((ci (lA F g c)).map V.int) hl3;have e3:(upd H2 l3 (.tup ((ci (lA F g c)).map V.int))) l3=Yf ((ci (lA F g c)).map V.int):=bH;generalize upd H2 l3 (.tup ((ci (lA F g c)).map V.int))=H3 at s3 e3;have S3:=θ.trans s3;obtain⟨u,hu,ru⟩:=vals (Y2A) ((fT f1).mpr ⟨tX _,by rw[pD X S.1];exact S.2⟩);refine MF (S3 _ _ (sx _ _ ekw)) e3 hu ?_;have ew:OX F W M (iW ζ) (wC W o B) (wC W o ps) μ (Y2A)=OX F W M (iW I) B ps μ c:=by
     unfold OX wor;rw[pD X S.1,VS TW (YeS hw) (YeS hw) _ c S.1]
    rw[ew]at ru;refine Y5 (reD (ru.same ((sw.trans sx).trans S3)) (rwv.same S3) (xK _) (xK _) ?_);rw[IB,cN rfl];refine Y5 (pS ?_);exact Y2R _ (sx.trans S3)
   ·rintro σ Hx ⟨o14,o15,rfl,sx⟩;exact k _
end
def QN{K:Aa}{C:Addr}:∀f∈([]:Ah),nX K C f:=λ_ h=>by cases h
def nK{K:Aa}{C:Addr}{g:Str}{fs:Ah}(h:nX K C g)(r:∀f∈fs,nX K C f):∀f∈g::fs,nX K C f:=λf a=>by
 rcases bN.mp a with rfl | a
 ·exact h
 ·exact r f a
def aI3{α:Type}{us:Yu}(h:Y33 1):∃a,us=[a]:=match us,h with | [a],_=>⟨a,rfl⟩
def aGR{α:Type}{us:Yu}(h:Y33 2):∃a b,us=[a,b]:=match us,h with | [a,b],_=>⟨a,b,rfl⟩
def aCb{α:Type}{us:Yu}(h:Y33 3):∃a b c,us=[a,b,c]:=match us,h with | [a,b,c],_=>⟨a,b,c,rfl⟩
def aI2{α:Type}{us:Yu}(h:Y33 4):∃a b c d,us=[a,b,c,d]:=match us,h with | [a,b,c,d],_=>⟨a,b,c,d,rfl⟩
def aI1{α:Type}{us:Yu}(h:Y33 5):∃a b c d e,us=[a,b,c,d,e]:=match us,h with | [a,b,c,d,e],_=>⟨a,b,c,d,e,rfl⟩
def aFz{K:Aa}{x q:Str}{st:Stmt}{f:Addr}{fd:FuncData}(F:Ye x q st)(P:Y1c FuncData)(h:P fd):∃fd,P fd:=⟨fd,h⟩
inductive Dn (K:Aa) (n:Str) (st:Stmt):Prop
 | mk {f:Addr} {oc:Value} {od:Y5s} {kV dc pm:Value} {an:Y5s} {cd ct:Value} {sl:Y9A} (a:PySem.W.nsIn K mainGlobals n=Y4d f) (l:YeP=Y90 oc od (PySem.W.fnOf n n (nA st) (kJ st) (bC st) .none kV dc pm an cd ct) sl) (c:YdY cd n=true) (k:Y9k K f=true):Yo n st
def fnd(l:PySem.W.OpenLaw)(w:World){K:Aa}{h:Heap}{mg:Y0G}(X:K.In h)(G:YdR mg)(base:Heap){n:Str}{st:Stmt}{L:Nat}{ps:Ah}{sp:Sp}(d:Yo n st)(o:∀{f:Addr}{fd:FuncData},Ye n n st->dW l.prog w K mg base dD L f fd ps sp)(b:∀(kV doc pm:Value) (an:Y5s) (cdv ct:Value) (us:Ag),Y33 ps.length->bindArgs (PySem.W.fnOf n n (nA st) (kJ st) (bC st) .none kV doc pm an cdv ct) ⟨us,[]⟩=pure (Ybc):=by intro _ _ _ _ _ _ us hl;first | (obtain⟨_,rfl⟩:=aI3 hl;rfl) | (obtain⟨_,_,rfl⟩:=aGR hl;rfl) | (obtain⟨_,_,_,rfl⟩:=aCb hl;rfl) | (obtain⟨_,_,_,_,rfl⟩:=aI2 hl;rfl) | (obtain⟨_,_,_,_,_,rfl⟩:=aI1 hl;rfl)):fQ dD l.prog w K mg base L n ps sp:=by
 obtain⟨a,e,c,k⟩:=d;exact⟨_,_,o (vR e c k),PySem.W.mg_of X G a,k,(vR e c k).binds b⟩
open PySem.W (nsIn fnOf codeIn keepIn mg_of mg_none_of) in
def aFQ{l:PySem.W.OpenLaw}{w:World}{K:Aa}{h:Heap}{mg:Y0G}{fa:Addr}{c_ONE:Addr}{c_NOUGHT:Addr}{c_Weighing:Addr}{c_Master:Addr}{tok_LOOKS_ON:Tok}{tok_ROOM:Tok}{tok_LACK:Tok}{tok_RULE:Tok}{tok_NONE:Tok}(X:K.In h)(G:YdR mg)(hfa:mg "law" = Y3 fa)
  (u_ONE:Y1K "ONE" = Y4d c_ONE)
  (u_NOUGHT:Y1K "NOUGHT" = Y4d c_NOUGHT)
  (u_Weighing:Y1K "Weighing" = Y4d c_Weighing)
  (u_Master:Y1K "Master" = Y4d c_Master)
  (u_LOOKS_ON:Y1K "LOOKS_ON" = some (some (.int 0 tok_LOOKS_ON)))
  (u_ROOM:Y1K "ROOM" = some (Y8w "room" tok_ROOM))
  (u_LACK:Y1K "LACK" = some (Y8w "lack" tok_LACK))
  (u_RULE:Y1K "RULE" = some (Y8w "rule" tok_RULE))
  (u_NONE:Y1K "NONE" = some (Y8w "none" tok_NONE))
  (mi_Master:YdM c_Master=true)
  (pg_Master:Yaw c_Master Str.empty=true)
  (hd_Master:Yc2 c_Master=true)
  (po_Master:YdC c_Master=true)
  (sa_Master:Y9D K "__setattr__" = some (Y8n "object.__setattr__"))
  (n0_Master:Y9D K "rows" = Y1g)
  (n1_Master:Y9D K "parts" = Y1g)
  (n2_Master:Y9D K "standing" = Y1g)
  (mi_Weighing:YdM c_Weighing=true)
  (pg_Weighing:Yaw c_Weighing Str.empty=true)
  (hd_Weighing:Yc2 c_Weighing=true)
  (po_Weighing:YdC c_Weighing=true)
  (sa_Weighing:Y9v K "__setattr__" = some (Y8n "object.__setattr__"))
  (n0_Weighing:Y9v K "rising" = Y1g)
  (n1_Weighing:Y9v K "units" = Y1g)
  (n2_Weighing:Y9v K "weights" = Y1g)
  (n3_Weighing:Y9v K "cost_unit" = Y1g)
  (n4_Weighing:Y9v K "costs" = Y1g)
  (o_ONE:vP K c_ONE [1,1]=true)
  (o_NOUGHT:vP K c_NOUGHT [0,1]=true)
  (d0:Yo "common_divisor" aEy)
  (d1:Yo "plus" aD4)
  (d2:Yo "less" aEg)
  (d3:Yo "times" aDT)
  (d4:Yo "is_less" aEm)
  (d5:Yo "total" aDR)
  (d6:Yo "least_place" aEi)
  (d7:Yo "faces_of" aEr)
  (d8:Yo "ways_of" aDP)
  (d9:Yo "way_shares" aDQ)
  (d10:Yo "power" aD3)
  (d11:Yo "weight" aDO)
  (d12:Yo "counts_that_are" aBr)
  (d13:Yo "all_counts" aEE)
  (d14:Yo "one_more" aEa)
  (d15:Yo "ones_more" aD9)
  (d16:Yo "sums_at" aDU)
  (d17:Yo "worths" aDL)
  (d18:Yo "common_lower" aEw)
  (d19:Yo "times_whole" aDS)
  (d20:Yo "in_units" aEn)
  (d21:Yo "look_cost" aEf)
  (a22:Y9v K "__init__" = Y4d f22) (l22:K.lookup f22=Y90 oc22 od22 (fnOf "__init__" "Weighing.__init__" (nA sQ3) (kJ sQ3) (bC sQ3) .none kV22 dc22 pm22 an22 cd22 ct22) sl22) (c22:codeIn K cd22 "Weighing.__init__" = true) (k22:Y8s K f22=true) (fn22:Y9p K f22=true) (kp22:Y8s K c_Weighing=true)
  (d23:Yo "weights_at" aDN)
  (d24:Yo "best_places" aEC)
  (d25:Yo "looks_on" aEe)
  (d26:Yo "noughts" aEc)
  (d27:Yo "counts_behind" aEu)
  (d28:Yo "counts_come_to" aEt)
  (d29:Yo "rule_within" aDY)
  (d30:Yo "plain_table" aD5)
  (d31:Yo "one_among" aEb)
  (d32:Yo "product" aD1)
  (d33:Yo "is_sooner" aEl)
  (d34:Yo "leaving" aEh)
  (d35:Yo "exchanged" aEs)
  (a36:Y9D K "__init__" = Y4d f36) (l36:K.lookup f36=Y90 oc36 od36 (fnOf "__init__" "Master.__init__" (nA sQ0) (kJ sQ0) (bC sQ0) .none kV36 dc36 pm36 an36 cd36 ct36) sl36) (c36:codeIn K cd36 "Master.__init__" = true) (k36:Y8s K f36=true) (fn36:Y9p K f36=true) (kp36:Y8s K c_Master=true)
  (a37:Y9D K "rates" = Y4d f37) (l37:K.lookup f37=Y90 oc37 od37 (fnOf "rates" "Master.rates" (nA sQ2) (kJ sQ2) (bC sQ2) .none kV37 dc37 pm37 an37 cd37 ct37) sl37) (c37:codeIn K cd37 "Master.rates" = true) (k37:Y8s K f37=true) (fn37:Y9p K f37=true) (kp37:Y8s K c_Master=true)
  (a38:Y9D K "enter" = Y4d f38) (l38:K.lookup f38=Y90 oc38 od38 (fnOf "enter" "Master.enter" (nA sQ1) (kJ sQ1) (bC sQ1) .none kV38 dc38 pm38 an38 cd38 ct38) sl38) (c38:codeIn K cd38 "Master.enter" = true) (k38:Y8s K f38=true) (fn38:Y9p K f38=true) (kp38:Y8s K c_Master=true)
  (d39:Yo "lacks" aEk)
  (d40:Yo "rates_of" aD0)
  (d41:Yo "factors_of" aEq)
  (d42:Yo "column_by" aEA)
  (d43:Yo "better" aEB)
  (d44:Yo "settled" aDX)
  (d45:Yo "rule_faces" aDZ)
  (d46:Yo "amounts" aED)
  (d47:Yo "comings" aEz)
  (d48:Yo "onwards" aD8)
  (d49:Yo "spent" aDW)
  (d50:Yo "over" aD7)
  (d51:Yo "parts_of" aD6)
  (d52:Yo "says_of_parts" aBp)
  (d53:Yo "mixed" aEd)
  (d54:Yo "fraction" aEo)
  (d55:Yo "standing_mixed" aDV)
  (d56:Yo "prices_of" aD2)
  (d57:Yo "without_costs" aDM)
  (d58:Yo "cost" aEv)
  (d59:Yo "fewest" aEp)
  (d60:Yo "least_cost" aEj)
  (d61:Yo "_law_feed" sQ7)
  (d62:Yo "_law_draw" sQ6)
  (d63:Yo "_law_frac" sQ8)
  (d64:Yo "_law_shares" aEH)
  (d65:Yo "_law_some" aEG)
  (d66:Yo "_law_bound" sQ5)
  (d67:Yo "_law_aim" sQ4)
  (d68:Yo "_law_trial" aEF)
  (d69:Yo "_law_order" sQ9)
  (d70:Yo "law" aBq) (z0:Y1K "list" = Y1g) (z1:Y1K "len" = Y1g) (z2:Y1K "abs" = Y1g) (z3:Y1K "range" = Y1g) (z4:Y1K "sum" = Y1g) (z5:Y1K "zip" = Y1g) (z6:Y1K "reversed" = Y1g) (z7:Y1K "tuple" = Y1g) (z8:Y1K "sorted" = Y1g) (z9:Y1K "int" = Y1g) (z10:Y1K "min" = Y1g) (z11:Y1K "enumerate" = Y1g) (z12:Y1K "any" = Y1g) (z13:Y1K "dict" = Y1g) :
  ∃fd:FuncData,(∀(s:Shared) (v:Value),Ybn s ⟨[v],[]⟩ [("_law_script",v)])/\∀base:Heap,K.In base->Yc1 mg->dW l.prog w K mg base dD 11 fa fd a23 (yD K):=by
 obtain⟨i,r,u,g⟩:=d70;have e:=hfa.symm.trans (Y77 G i);cases e;generalize hcl:(⟨c_ONE,c_NOUGHT,c_Weighing,c_Master,tok_LOOKS_ON,tok_ROOM,tok_LACK,tok_RULE,tok_NONE⟩:Cl)=c;have T:Yk:=by rw[<-hcl];exact⟨Y4C z0,Y4C z1,Y4C z2,Y4C z3,Y4C z4,Y4C z5,Y4C z6,Y4C z7,Y4C z8,Y4C z9,Y4C z10,Y4C z11,Y4C z12,Y4C z13,Y77 G u_ONE,Y77 G u_NOUGHT,Y77 G u_LOOKS_ON,Y77 G u_ROOM,Y77 G u_LACK,Y77 G u_RULE,Y77 G u_NONE,Y77 G u_Master,⟨⟨pg_Master,hd_Master,po_Master,sa_Master⟩,(nK n0_Master (nK n1_Master (nK n2_Master QN)))⟩,Y77 G u_Weighing,⟨⟨pg_Weighing,hd_Weighing,po_Weighing,sa_Weighing⟩,(nK n0_Weighing (nK n1_Weighing (nK n2_Weighing (nK n3_Weighing (nK n4_Weighing QN)))))⟩,o_ONE,o_NOUGHT⟩
 have F70:=vR (st:=aBq) r u g;refine aFz F70 _ ⟨λs v=>.of_eq rfl,λbase _ _=>?_⟩;have N:=@fnd l w K h mg X G base;have GQ19:=Yp d0 (aIO F T);have GQ50:=Yp d1 (aIj F T GQ19);have GQ38:=Yp d2 (aIv F T GQ50);have GQ62:=Yp d3 (aH7 F T GQ19);have GQ31:=Yp d4 (aIC F T);have GQ64:=Yp d5 (aH5 F T GQ50);have GQ36:=Yp d6 (aIx F T GQ31);have GQ26:=Yp d7 (aIH F T);have GQ66:=Yp d8 (aH3 F T);have GQ65:=Yp d9 (aH4 F T);have GQ51:=Yp d10 (aIi F T);have GQ67:=Yp d11 (aH2 F T GQ65 GQ62 GQ51);have GQ24:∀n:Nat,fQ dD l.prog w K mg base (1+n) "counts_that_are" a27 (oP n):=λn=>by
  induction n with
  | zero=>exact Yp d12 (aHJ F T)
  | succ n ih=>exact Yp d12 (aIJ n F T ih)
 have GQ13:=Yp d13 (aIU F T (GQ24 4));have GQ44:=Yp d14 (aIp F T);have GQ45:=Yp d15 (aIo F T GQ44);have GQ61:=Yp d16 (aH8 F T GQ67 GQ66 GQ62 GQ64 GQ38 GQ45 GQ50);have GQ70:=Yp d17 (aHZ F T GQ13 GQ26 GQ61 GQ36);have GQ20:=Yp d18 (aIN F T GQ19);have GQ63:=Yp d19 (aH6 F T);have GQ30:=Yp d20 (aID F T GQ63);have GQ39:=Yp d21 (aIu F T GQ62 GQ67 GQ66 GQ64);have F22:=vR (st:=sQ3) l22 c22 k22;have y:=F22.binds (ps:=a19) λ_ _ _ _ _ _ a d=>by obtain⟨_,_,_,rfl⟩:=aCb (show a.length=3 from d);rfl
 have GQ3:FnO l.prog w K mg base 7 c.Weighing a19 (wK K c.Weighing):=⟨_,_,oQ3 F22 T GQ13 GQ26 GQ66 GQ67 GQ20 GQ30 GQ39,⟨(by rw[<-hcl];exact mi_Weighing),(by rw[<-hcl];exact a22),fn22,(by rw[<-hcl];exact kp22)⟩,y⟩;have GQ68:=Yp d23 (aH1 F T);have GQ15:=Yp d24 (aIS F T GQ68 GQ45);have GQ40:=Yp d25 (aIt F T);have GQ42:=Yp d26 (aIr F T);have GQ22:=Yp d27 (aIL F T GQ40 GQ45);have GQ23:=Yp d28 (aIK F T GQ42 GQ22);have GQ56:=Yp d29 (aId F T GQ23);have GQ49:=Yp d30 (aIk F T);have GQ43:=Yp d31 (aIq F T);have GQ53:=Yp d32 (aIg F T);have GQ32:=Yp d33 (aIB F T);have GQ37:=Yp d34 (aIw F T GQ32);have GQ25:=Yp d35 (aII F T);have F36:=vR (st:=sQ0) l36 c36 k36;have p:=F36.binds (ps:=a14) λ_ _ _ _ _ _ a d=>by obtain⟨_,_,_,rfl⟩:=aCb (show a.length=3 from d);rfl
 have GQ0:FnO l.prog w K mg base 2 c.Master a14 (wP c.Master):=⟨_,_,oQ0 F36 T GQ43,⟨(by rw[<-hcl];exact mi_Master),(by rw[<-hcl];exact a36),fn36,(by rw[<-hcl];exact kp36)⟩,p⟩;have F37:=vR (st:=sQ2) l37 c37 k37;have m:=F37.binds (ps:=a39) λ_ _ _ _ _ _ a d=>by obtain⟨_,_,rfl⟩:=aGR (show a.length=2 from d);rfl
 have GQ2:FnM l.prog w K mg base 2 c.Master "rates" a39 (qA c.Master):=⟨_,_,oQ2 F37 T GQ53,⟨(by rw[<-hcl];exact a37),fn37,k37⟩,m⟩;have F38:=vR (st:=sQ1) l38 c38 k38;have j:=F38.binds (ps:=a15) λ_ _ _ _ _ _ a d=>by obtain⟨_,_,_,rfl⟩:=aCb (show a.length=3 from d);rfl
 have GQ1:FnM l.prog w K mg base 3 c.Master "enter" a15 (sP c.Master):=⟨_,_,oQ1 F38 T GQ53 GQ37 GQ25,⟨(by rw[<-hcl];exact a38),fn38,k38⟩,j⟩;have GQ33:=Yp d39 (aIA F T);have GQ54:=Yp d40 (aIf F T GQ33 GQ2);have GQ27:=Yp d41 (aIG F T);have GQ17:=Yp d42 (aIQ F T GQ45);have GQ16:=Yp d43 (aIR F T GQ54 GQ27 GQ43 GQ15 GQ33 GQ17);have GQ58:=Yp d44 (aIb F T GQ63 GQ0 GQ16 GQ1);have GQ55:=Yp d45 (aIe F T);have GQ14:=Yp d46 (aIT F T GQ42 GQ55 GQ40 GQ62 GQ45 GQ50);have GQ18:=Yp d47 (aIP F T GQ14 GQ62 GQ67);have GQ46:=Yp d48 (aIn F T GQ18 GQ62 GQ40);have GQ59:=Yp d49 (aIa F T GQ64 GQ62 GQ46);have GQ47:=Yp d50 (aIm F T GQ62);have GQ48:=Yp d51 (aIl F T GQ14 GQ62);have GQ57:∀n:Nat,fQ dD l.prog w K mg base (4+n) "says_of_parts" a00 (pP K n):=λn=>by
  induction n with
  | zero=>exact Yp d52 (aHI F T)
  | succ n ih=>exact Yp d52 (aIc n F T GQ47 GQ50 ih)
 have GQ41:=Yp d53 (aIs F T GQ48 GQ38 (GQ57 2) GQ56 GQ55);have GQ29:=Yp d54 (aIE F T GQ19);have GQ60:=Yp d55 (aH9 F T GQ56 GQ49 GQ41 GQ29);have GQ52:=Yp d56 (aIh F T GQ54 GQ27 GQ29);have GQ69:=Yp d57 (aH0 F T);have GQ21:=Yp d58 (aIM F T GQ66 GQ64 GQ62 GQ59);have GQ28:=Yp d59 (aIF F T GQ3 GQ58 GQ33 GQ52 GQ70 GQ69 GQ60 GQ26);have GQ35:=Yp d60 (aIy F T GQ28 GQ21);have GQ7:=Yp d61 (oQ7 F T);have GQ6:=Yp d62 (oQ6 F T);have GQ8:=Yp d63 (oQ8 F T);have GQ10:=Yp d64 (aIX F T GQ6 GQ8);have GQ11:=Yp d65 (aIW F T GQ6 GQ8);have GQ5:=Yp d66 (oQ5 F T GQ6 GQ8);have GQ4:=Yp d67 (oQ4 F T GQ5 GQ10 GQ11);have GQ12:=Yp d68 (aIV F T GQ6 GQ10);have GQ9:=Yp d69 (oQ9 F T GQ6);exact aIz F70 T GQ7 GQ6 GQ12 GQ4 GQ11 GQ9 GQ35 GQ28 GQ70
end Kw
open PySem PySem.W PyProof.Rows
set_option maxRecDepth 100000 in
set_option maxHeartbeats 0 in
theorem PySem.Challenge.cw_earlystop_k56_whole_named_otherwise_holds : PySem.Challenge.rw_earlystop_k56_whole_named_otherwise.Holds := by
  w_on;o_law;k_head;(case hw=>w_witness2)
  k_fill
  refine L2.WD (l:=PySem.Challenge.rw_earlystop_k56_whole_named_otherwise) (n:=63) (k:=11) (x := "_law_script") (CX:=L2.dD) (sp:=λK=>Kw.yD K) rfl Dd rfl ⟨rfl,Dd,Dd,rfl⟩ (λw h Y=>PySem.W.kIn_of Y) ?F (λK H a j g _ e=>Kw.XD e g) (λ_ _ _ _ z=>z)
  case F =>
    intro w i m h KX G d
    refine' Kw.aFQ KX G d ?u_ONE ?u_NOUGHT ?u_Weighing ?u_Master ?u_LOOKS_ON ?u_ROOM ?u_LACK ?u_RULE ?u_NONE ?mi_Master ?pg_Master ?hd_Master ?po_Master ?sa_Master ?n0_Master ?n1_Master ?n2_Master ?mi_Weighing ?pg_Weighing ?hd_Weighing ?po_Weighing ?sa_Weighing ?n0_Weighing ?n1_Weighing ?n2_Weighing ?n3_Weighing ?n4_Weighing ?o_ONE ?o_NOUGHT ?d0 ?d1 ?d2 ?d3 ?d4 ?d5 ?d6 ?d7 ?d8 ?d9 ?d10 ?d11 ?d12 ?d13 ?d14 ?d15 ?d16 ?d17 ?d18 ?d19 ?d20 ?d21 ?a22 ?l22 ?c22 ?k22 ?fn22 ?kp22 ?d23 ?d24 ?d25 ?d26 ?d27 ?d28 ?d29 ?d30 ?d31 ?d32 ?d33 ?d34 ?d35 ?a36 ?l36 ?c36 ?k36 ?fn36 ?kp36 ?a37 ?l37 ?c37 ?k37 ?fn37 ?kp37 ?a38 ?l38 ?c38 ?k38 ?fn38 ?kp38 ?d39 ?d40 ?d41 ?d42 ?d43 ?d44 ?d45 ?d46 ?d47 ?d48 ?d49 ?d50 ?d51 ?d52 ?d53 ?d54 ?d55 ?d56 ?d57 ?d58 ?d59 ?d60 ?d61 ?d62 ?d63 ?d64 ?d65 ?d66 ?d67 ?d68 ?d69 ?d70 ?z0 ?z1 ?z2 ?z3 ?z4 ?z5 ?z6 ?z7 ?z8 ?z9 ?z10 ?z11 ?z12 ?z13
    (case u_ONE|u_NOUGHT|u_Weighing|u_Master|u_LOOKS_ON|u_ROOM|u_LACK|u_RULE|u_NONE|mi_Master|pg_Master|hd_Master|po_Master|sa_Master|n0_Master|n1_Master|n2_Master|mi_Weighing|pg_Weighing|hd_Weighing|po_Weighing|sa_Weighing|n0_Weighing|n1_Weighing|n2_Weighing|n3_Weighing|n4_Weighing|a22|l22|c22|k22|fn22|kp22|a36|l36|c36|k36|fn36|kp36|a37|l37|c37|k37|fn37|kp37|a38|l38|c38|k38|fn38|kp38|z0|z1|z2|z3|z4|z5|z6|z7|z8|z9|z10|z11|z12|z13=>k_is);(case d0|d1|d2|d3|d4|d5|d6|d7|d8|d9|d10|d11|d12|d13|d14|d15|d16|d17|d18|d19|d20|d21|d23|d24|d25|d26|d27|d28|d29|d30|d31|d32|d33|d34|d35|d39|d40|d41|d42|d43|d44|d45|d46|d47|d48|d49|d50|d51|d52|d53|d54|d55|d56|d57|d58|d59|d60|d61|d62|d63|d64|d65|d66|d67|d68|d69|d70=>refine' Kw.Dn.mk ?a ?l ?c ?k;(case a=>k_is);(case l=>k_is);(case c=>k_is);(case k=>k_is));(case o_ONE=>kernel_rfl);(case o_NOUGHT=>kernel_rfl)
