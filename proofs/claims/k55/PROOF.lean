import PyProof.Rows.All
import Wide.All
import OpenK.AllK
import Wide.FinOn
import Lean
import PyProof.EqAt
import PyProof.EqKinds
import PyProof.TupleCall
import KE.IntBitsLaws
import PyProof.ZipIter
import KE.KRevIter
import PyProof.ListMulRoad
import PyProof.AutoListH
import PyProof.Rows.SeqMore
import PyProof.Rows.SumAny
import PyProof.SliceStr2
import PyProof.WalksMore
import KE.KSortTup
import PyProof.AttrMissHeap
import PyProof.TupleIter
import KE.KDictOf
import PyProof.DictWalks
import PyProof.DictValues
import KE.KDictList
import PyProof.Rows.MinMaxN
import PyProof.Rows.TupDisplay
import PyProof.DictTruth
import PyProof.Rows.SortRev
import PyProof.Rows.CallKwBuiltin
import PyProof.ListRange
import PyProof.EnumMake
import PyProof.Rows.StrJoin2
import KE.LcSums
import PySem.Challenge.RW_earlystop_k55_whole_as_bounds_grow
set_option Elab.async false
set_option compiler.extract_closed false
set_option linter.all false
set_option maxHeartbeats 0
set_option maxRecDepth 100000
set_option hygiene false
set_option hygiene false
def zU(c:Char):Nat:=if c.isDigit then c.toNat-48 else if c.isLower then c.toNat-87 else c.toNat-29
def zV:Nat->List Char->List Nat
|0,_=>[]
|_,[]=>[]
|n+1,l=>(l.take 11).foldl (fun a c=>62*a+zU c) 0::zV n (l.drop 11)
local macro_rules
|`(#check $s:str)=>do
 let a<-(zV 999 s.getString.toList).mapM fun n=>do
  let i:=Lean.mkIdent (.mkSimple s!"tw{n}")
  `(def $i:ident:=())
 return Lean.mkNullNode (a.toArray.map (·.raw))
set_option hygiene true
namespace PySem.W.Fast
#check "gzMrJ4gIBNe7shcOruaqfSlsqSZTyMgzpcP4CqqjkP892eo5zZtDIo44UpkGkx1B2ucrCM1qryanM5gL4QukEbSB6JbuprJ2QRf7sx6JbYyiRK1PC6BnRWEpNgFJ6PTYQCDhkxbZQVhIeL1fO8H5H0UBIygZYQJhZ5MXJ7Tc3FrUUFq3eoppQ70Tj30lGmthvrJCMd6G8217IXNHT10o6caKiqeQflnRHvxGs2j9TMcNOdU3gb1H2k261RBrNhsLilIlkoDl7Ti4ZDgWnb1lL7JiHDDns3cmplfGGWtj44NdkpMtVUpWkqnAHYNRTXIlrKYLwkND5048nyKbeHrYT3NrhyC4DWJ78JZJUGDIBR65pRYJYaI8MRaTHz6t3Ntie1NIXAqNxcAJ4nZ2loJlqFNhsb2XNgZuUX7ZSNfimdK8J4me6k64WIiH8t2c0cdFM5od0IF7cVddfG3zr59flTQfX7M9owGlmzU4hXm65THZvsLfED8IBuFKjokmphwjEMij3aTQKyO1GO2q1A4RbLICM0j57DEZ2JBZdn5jzP7QAq6y5l1Lia8imooQjSSABxk6vAIfqgfwuKNHyelO5CSEQ4RH7d5mu79tYjTn9G48bt5LCoz3AL4gG26zIRgFqFlkaS5iAeCWrZODUtWM5q7ci8g5xD4gedOFGPe7kIj2QBbqSc6qddieiuNiif0qbAKkLNlBXo29n850W0fAexagpZ1FKHcbb4NVzLgK2xRG6BLHvhXFGAk6mbSxpillbp58UnjLyNrI3537XmDTkRDyiCIvrt3huZFlQJZksUEXRK6bejpIXH5Ht3YxUfN0K70djmfYSmMdUFCjcjDTvIhd4Ugqrl3Z7JXf93yWFZE3Nd7gbTXtMMJpBPbgd4lCB9q3JuhorEN4Irvq30FL9VF2TYox8VrSRmAt64k0QakGP0ig1N915Rv7C3eibgsW5jc59ZPzfnP5HvrnijZcAGegfAifNrazzdLyUXjZN97h76yn0qM82gcZ0oJWGNK4vcX3LUx7kp2QkssOOzGgz4YV1xdnm12e31e2ZRcxqGL2GMF0mJA7Yrgu3VQrnXCbz4WfoXwcZRgojjZXU2NDEMH5WV8ozyyXnubTAtWKY6eOwfuQpXO30uRg9DvNePYEV2pdeRharQghI16P9fozJ4cyagpdkI5v8ZVqkkBl2FdvOnlim0X88BV1njdaLyxiJypcU90eBfNYgOz9a2uMGJXpsMB2ENQyM8wOWm42NG8YnrEeXhqmJ0bo5tk20Bcfy6OjrGQhNUj4nSIWVm31jpIomHMaSjwx0dEd4VJjj1NqtvrTuDZjZMu0gaRnv65O6AXWTw85Z8mF5zwpClBGkylsSvEm1mIlxnfpnzZ22qkqhYsyML9m78KYKwNu4XIqkDF3oZ2j3su993l940SPZKiRS8J59OJm44XPukpVo8mGgCvRTVMhUfceHDIxSvcl4Jj4Gg1vP5gELf6u36J6lWPq5bwqQJR6Uir280lvlHUXbV9zCOI4yFsU25uAQhOcI0N5dLBOMB4LWLQjyNZ9kILL6Ul5RGdoeOIhM2Y1Xy5DN98a6B3h6gA6bIblPl7s6OfjWHjFU6Saf8PSG7MqIIjtG9s25nBOXbPHaMw0NRiRSTCX1g7TXO5JeKuIegNsuT0iXrAX4a4vW7cacp4epTstS61HQ9jLwz0MGJmDIbTj3qA8lVzi56Xtmf7aEC8b6VNUYKCvOK8tKmgB3e2hG5vkndivFaeVeeHtLEkPOnqdGuS7DByH0NdDmKvDRz4DLej7QciK5KNi05HTxO3svfC0Z0nw5KdTnTeefdxHDehD07EOFt0BPsQJ6SZ6n0AYD2T6mwCfKUXSb43xXKcEc0hwd7GYpBRiyXqC474OchmeHLB1iCkFDHWwQd7EFUga0xFnObshDb3QZXlrc6FSc9VhQ5R8Qfg6V66HLQ3lePHT6fDDL11sJiD84NE9hk384KTpbsI9BazFUxCIZa5V6TNAVqCdL69pAlwDaWMu3IiGMp9ic2rc7lVDMfTT5W6dWewyILNdW3UI8wPKadHO0r1BiYntYnujiwoX1pH3mR5EMHmhOvZRx1FeGoLQ28lGbUkcjskal915SBEX0KZpY5kSCGObhxR2hgipcwRPMFLZeUXlC8uaxOhbjutTeHRS7zjRIzIeB6Ver3LBgRimP8Yc7uz3d4thRCC0vhYArVQT4tcf4a0CVOdQp7LoSMNycoyO3QPdWHSrKGshsxtdDcDjF4liJpD6okM9z6Gf5OJqYA036ymjZi2mmU10qTD1z0szDgeOaM4LZNFbX3K8suSKTKMYjK4ciUL8H4LaHHQRI6asjoiGXZdEtdiANkttHoQDsAtGhoa3gj9Lr59h0KWCL5icn3d8G2bCJGdDO94q2pzfkhXddAPYlg5yt7Pd2SMcaGRMn71izsBfIKqema7eeGm73g770iPQd7PZUNFfs9iRfbJl7BbJvEm1xkcbxfgGVQWKfg1AeiLb4r2gVzcbPXL79U5dQlebpGNUWcHhz5O6EzaqsRMYjkzzK8pwaMUbC2lohe8i7N05q7CHh3uUi0jmCrHEw1Tk2iKAIuMp1ZG2KSlJaiUttybDLwIPBORS5aXWQw39BDC88QsvOAxpsYi3h9xpUDrAPriLdPtlGLPrSfB1WB49d0yWdnqYLOhqkJ82qmwlt7YR2lbcmEXIffzdK215PfltAuvj1UwLLwTYeHWiEZ6CWd2shg9fg88diSAwRkBmu9Bwhm2wjA2EF9aVsFeaucYJs1xOF2k9gTPJlI0xY3qzMlZ8t9fBlra2z6c9pzbjSMaicpJCcp7lYJu5ukvZzdRRrRv6BJ2qdNmsYjxmjv8aHAhV6WCdDe3KDBpDIiZ4chcXE8qAs75td6KVMgBpyhT8OMHNM8RHdD7Qrz0Ri38wZ5Xv0whv4C0t1yYCj6heKskepmlskfLyyEbc74PDDqZfLhXEiVXfFl2N5HwgPSGmhRtdeGBb1zNgWNisL0S55cRAf5yZo10yVOV5kEjTWUCjS60jf4k4DvwBqQaM0wbQtDkYHavANTykKlQV0FnS8iVfUhG1R9ZbpysN8YgecwfJsIg7j7EhxOgHzfJI3kHyBKeWYkN2o8cbqWlvxliyhV4jnL1Z23zb4p354IKAgbiy0ohk54t1xdxPQmP3g3bqkoDeors8h6VkZj34685n9dnuF0yN7AX0UjkZsnQw89bXByUG0arxd12PFURuYW5T2wtTEGxS8dg7bZCj1I2iQ9lAhnpU8caNSdW7cZyWAquf8C8tFXdKBt1h2RsTSO0JeHgRSlmFHSXdu2pyQ2b2iclNhX9ZJKdzHguceEsDfLmNEc2zi7AD6EEuxdgsz6ZXkmIo"
end PySem.W.Fast
abbrev zs:=Lean.Syntax
def zn(k:Lean.Name)(a:Array zs):zs:=.node .none k a
def zm(k:String)(a:Array zs):zs:=zn (`Lean.Parser.Term++k.toName) a
def za(s:String):zs:=.atom .none s
def zT:Array String:=#["(>Nat,Int)","(aaT,H,H')","(as0,e)","(trfl$0)","(aY4n,s)","(aYx,_$0)","(asome(a.ref$0))","(aY5,?_)","(aaX,F,es$0)","(asome,o)","(aiU,K$0$1$2f,fd)","(asome,x)","(aY8j(aY2d,Shared))","(asome(a.int$0))","(ajH,K,mg,c)","(a.ref,a)","(abV$0$1(abB$2))","(aDn,K$0$1)","(aList,dB)","(aN$0(fF$1))","(>Al(>Hp(>VK(aY2d,XK))))","(asome,u)","(asome(a.tup$0))","(asome,v)","(afE,?_)","(ahJ,X$0$1)","(asome(a.lst$0))","(aif_pos,rfl)","(alM,Yo)","(aList,α)","(aY88(aList,fQ)V)","(>Nat,Rat)","(=$0false)","(t$0rfl$1)","(aaM,_)","(>Ae,Rat)","","","","","","","","","","","","","","","","","","","","","","","","","","","(abO,_)","(aY0g,?_)","(aYfi,F)","(asome,y)","(aList,PySem.Str)","(aYq,ys)","(adS,f)","(arise,F,M)","(aPE,X$0$1)","(aaT.refl,_)","(asome(a.dT$0))","(aList,Expr)","(aaD,2)","(aY9K,W$0)","(a.ref,b)","(aps,w)","(aY0E,_,rfl,_$0)","(aaD,3)","(^2,3000)","(t$0?_)","(aY14,1$0$1$2)","(acM,_)","(aList,Addr)","(t$0$1?_)","(abest,c)","(aY8c,es$0)","(acE,W(fv$0))","(>Ae,Nat)","(aY1Q,i)","(aList,oH)","(aY5(aY8e$0))","(aY88,Str,Ak)","(aaD,1)","(aH',D)","(>Str,Y9H)","(~$0sizeLine)","(aYq,xs)","(aY4W,_$0)","(t_$0$1)","(arv,f)","(t$0$1$2rfl$3)","(aif_neg,e)","(a.ref,l)","(aaD,0)","(acS$0(+1,v))","(^2,4000)","(aY5N$0aK)","(aArray,Nat)","(amA,F,es,fs,s,c)","(=(aInt.gcd$0$1)1)","(afS,I,q$0)","(aF.oky$0(fvs,H,Q,E,h,?_))","(aY4Y,D)","(aY56,p)","(agT,F,W,M,es,fs,s)","(ah'.get?,b)","(adecide(=$0$1))","(amP,ws)","(Ab,o(>$0$1))","(aOption,Int)","(aList,PyData)","(t$0$1rfl$2$3)","(aY0a,kvs)","(aYm,xs)","(aY1a,e)","(>$0(aY2d$1))","(afG,cW,P,w,K,mg,base$0$1$2$3)","(acP(:i,3)$0$1)","(asome,none)","(a.int,i)","(aaZ,e)","(gys,i)","(aeval$0X.env)","(asome,c)","(adecide(<$0$1))","(=X.calm,true)","(t$0$1$2$3rfl$4$5$6)","(atG,F,es)","(abJ,H$0$1)","(aY37$0(t_(agJ.of$1))$2)","(>Al(>Hp(aY2d,VK)))","(aaD,4)","(aaS(acI$0))","(abC,_,rfl)","(aYw(qx$0))","(apR,F,W,M,N,B,Ns,es)","(aQ,v,H')","(aH',b)","(aps,v)","(a.ref,s.heap.objs.size)","(aif_pos,e)","(aeval$0env)","(aYdl$0(asome$1))","(acL$0(aaD$1)(aaD$2))","(agG,ts)","(aQ(a.int$0)H)","(abS,_,this)","(<c.sum,M)","(ansIn,K,mainGlobals$0)","(aY5(ajY,O$0$1$2?_))","(alw,n,d)","(acP(:i$0)$1(acL$2(aaD$3)$4))","(acP(:i,2)$0$1)","(ah.get?,b)","(a.ref,p)","(a.ref,x)","(>St(aY2d,Hp))","(aY89,1)","(awpAny(amodel,prog,w)A$0Q,E,s)","(acH$0f)","(aiW,n,p)","(t$0Oo)","(lYf)","(aaX,F$0d)","(gxs$0)","(t$0$1$2?_)","(aiH,F$0d)","(ec$0)","(aS4,_,_$0)","(aS2,_,_$0)","(abA$0aQ)","(awpAny_pure,?_)","(aY2x(aaD$0)$1)","(aif_neg(fz$0))","(aif_neg,Dd)","(aabsurd$0cG)","(aList,Rat)","(adL$0(azR$1)$2)","(>$0Bool)","(aeQ.i(:n$0)$1Dd,Kk$2)","(aY0K,1)","(aY4p,i,a)","(afF,H,H')","(awpAny_mono$0$1(f_,_,f,f))","(abF,_$0)","(aaD,5)","(aaT,H$0)","(>$0Prop)","(asome,.cell)","(aif_neg,q)","(aY1k(aaD$0))","(acC$0(aaD$1)(aaD$2))","(axS,?_)","(aY88,fQ,V)","(aY3t,_,rfl,_,_,rfl$0)","(arul,F,W,M,best)","(aY4p,o,a)","(aaF,_,e)","(amX,F,es,fs,s,c,0)","(aFn,N,B,f)","(-M,c.sum)","(aQ(a.bl$0)H)","(ta$0$1)","(aY14,3$0$1$2)","(adW,_)","(arv,g)","(aeV,q)","(abA$0(abA$1aQ))","(aeT$0(a.ref$1)$2)","(aY4V,es)","(>α,Rat)","(aY14,2$0$1$2)","(aY0K,0)","(aI.hok.fresh(aaM,_))","(=c.length,F)","(aY65,i)","(gX.N,i)","(aY4V(l$0))","(awpAny,_,_$0_,_,_)","(aGl,X,x)","(aFn(aoN,M$0$1$2$3)$4$5)","(aY1W(aaD$0))","(aY5(anZ$0rfl,?_))","(aOption,Addr)","(aif_neg,Oo)","(aList,Env)","(AD,ys,H'(>$0$1))","(acL$0$1(aaD$2))","(aY88,κ,V)","(t_$0)","(aY52,f)","(akW,X,pins,H,b)","(afI,y,u)","(awpAny,_,_$0_,_,s)","(adY,n(fi$0))","(alV,M,cs$0)","(avO,X(acompareOp$0)$1)","(afT,H,p,L$0)","(aY6Y,_,_,rfl(alD$0$1)$2)","(acH,c,j)","(aH',p)","(asome,.local)","(a.inl,rfl)","(t$0rfl$1$2)","(a.inl(t$0$1))","(acP(:i,4)$0$1)","(aMH,Yo)","(adP,K(aaD,0))","(to$0$1)","(e$0Y07)","(akY(:i$0)$1rfl(aOr.inr,rfl)$2)","(astarEach,es,env)","(aYbk,b)","(aaL$0Dd)","(aY6,a)","(aY6,p)","(aY88,Str,V)","(aY8m,H)","(=(aX.env.cells.lookup,x)Y1b)","(aY4V(#e,es))","(afI,v,u)","(adA,l,f)","(astarEach(#$0es)env)","(atF,P,w,H,h)","(akT(aci$0))","(t$0$1$2rfl$3$4$5)","(aif_neg(fq$0))","(apure,false)","(asome(aY6$0))","(a.inr(t$0$1))","(-xs.length$0)","(a.Name,x,px)","(aY0C(aY1k$0)$1)","(aupd,H$0$1)","(aYbr,F$0)","(aY88,Fr,Nat)","(a.int$0t)","(acC,fO$0$1)","(a.Name,y,py)","(aQn,N,B$0)","(aY2M,e)","(aY8h,i)","(>V(aY2d,Hp))","(%Y2,0)","(abJ,H'$0$1)","(adot,n$0$1)","(aaX,F(aes.take$0)$1)","(aY0Z,_$0$1$2)","(=y(a.int$0))","(awpAny_bind,?_)","(f_,0)","(agS$0(akA$1))","(amodel,X.prog,X.w)","(=$0xs.length)","(aY2d,Heap)","(acE$0(fi$1))","(adL$0(avB$1)$2)","(aY9O$0$1s)","(t_(aaC$0))","(apure,x)","(aY2k,?_)","(aY0n$0?_)","(aaL$0(aY4q,Dd))","(fσ2,H2(atb$0σ2,H2))","(aeZ,n,lt$0$1)","(aYbh,H$0$1)","(lY1G)","(aInt.mul_ediv_cancel_left,_,Oo)","(afoldedSetIterable,iter,X.env,x)","(aY8u,k)","(aY1S,c)","(=$0.free)","(amg_none_of,X,G$0)","(aiI,K,H,f,x)","(anY,H'$0$1)","(avO,X(abinaryOp$0)$1)","(amN,X(a.builtin$0)$1)","(aqM$0$1$2mix,ps,cs$3$4)","(Av,H'(>Y1$0))","(aQ(a.ref$0)$1)","(acU,X,pins,σ$0$1)","(aY4m,H$0)","(aY0z,xs.length)","(adot,n(aR$0)$1)","(aaJ,Dd$0)","(aaO$0(aY4q$1))","(afield(a.ref$0)$1)","(acS,mix)","(agW(aS.cells,I.ok)$0)","(aUU$0(:c(aci$1))$2$3$4)","(aList,Stmt)","(aeI$0us)","(aif_pos,q)","(aif_pos,h)","(aif_neg,h)","(aY88,Str,Addr)","(aList,fQ)","(aY3,rfl)","(aYdm$0Y35)","(a.ref,D)","(a.int,n)","(a.int,m)","(aY4x,xs)","(aY3B,a$0)","(acC,dH(aY0K$0)(aY0K$1))","(aiM$0(aY1k$1)fJ)","(abB,st)","(aoU,W,best)","(aY1L,c)","(gus,i)","(acU$0$1σ'$2$3)","(aaX,F,a$0)","(adL,H(ajA$0)$1)","(acU,X$0σ,H$1)","(aUS$0Dd,Dd,Dd)","(astarEach$0X.env)","(t$0$1rfl)","(ans.map,V.int)","(aY4l$0H')","(ascope.names.all(fy$0))","(ap.getD$00)","(aslots,σ,js)","(arQ,4000$0)","(fy,a,e,?_)","(=xs.length$0)","(aArray,Y9H)","(aaU$0H,H')","(~ns.length$0)","(aif_pos,Oo)","(acZ(fe,_$0))","(a.ref,it)","(aIJ,Y2i)","(fd,?_)","(=(aSeqAt.shaped$0)true)","(alt(aY50$0)(aY50$1))","(afP$0(aY3s$1)$2)","(asome,j)","(asome,f)","(aX.mg,x)","(aY6Y,_,rfl,_,rfl,?_)","(asome(a.ins,C,dx,fs))","(aY8a$0hl)","(fh(aabsurd$0Oo))","(awpAny_bind(awpAny_field$0rfl(:x$1)rfl,?_))","(l(a.ref$0))","(t$0rfl$1$2rfl$3$4)","(abQ,bG$0$1)","(amix,v)","(aYbk,c)","(azT,W,Y0o)","(~c.sum,M)","(aY6e,v)","(ak,_,_,Y36,e)","(aNQ$0(:c(aci$1))$2$3?_)","(agZ$0$1(ahZ,ss$2)$3)","(acS,fs$0)","(aahd,F,M)","(afV$0(aaD,1))","(afV$0(aaD,0))","(aY0n,_(aY1k$0))","(adD,X,scope,x,N',js)","(adL,H,d$0)","(aworz$0$1$2ss,mix,pz,kz,cs$3)","(amR,F,es,fs,s,c)","(aY4V(l$0$1))","(abJ,H(afs.map$0)$1)","(agZ,F,es(aq,w)w)","(pxs$0)","(aPySem.W.findIn$0(a.ref$1)$2)","(abQ,bG(aaD$0)$1)","(awpAny_mono$0$1(f_,_,e$2))","(t$0rfl)","(adet$0(ast$1$2$3))","(aaT.upd(:o(a.dT$0))$1)","(e$0scope.names)","(~xs.length$0)","(aY88,Str,NameKind)","(=vs.length$0)","(abT(:g,Y3S)$0)","(adL$0(ajA(aeV$1))$2)","(~kvs.length$0)","(agD,kvs(aY3s$0))","(ajZ(ajX$0))","(adA$0(fc$1))","(aYw(q$0sysModules))","(=fs.length$0)","(aabsurd$0Dd)","(aPv$0σ,H)","(acL,FQ7(aaD$0)aK)","(aeJ,Y3b)","(t$0$1$2rfl$3$4)","(=A.handled,none)","(anG,Y0H$0)","(aY14$0$1a01(aeN$2))","(aJ.yld$0$1$2H3)","(agS$0(aiG(aY3T$1$2)$3))","(ahZ,ss$0c)","(aY3C(aV(aY1L$0)))","(+A.units$0)","(arE,F,M,best)","(p(avs.map,some)Y51)","(aList,V)","(asome,e)","(asome,n)","(alB,items.size,items.size,hi)","(aYac,vs)","(adL,H(aII,fs,ws)$0)","(aeK,X,scope,xs,N',js)","(aO.no,_$0)","(aBOk,10$0)","(abQ(aiA,K)(aaD$0)aK)","(amS,F,W,es,fs,s$0)","(acC,dH(aaD$0)$1)","(aaC,Oo)","(aY4Y,a)","(aY4Y,c)","(aYfo,i)","(aYdw,1)","(ajB,k,X.A)","(aY3Z$0(aEP$1pins,σ$2))","(arho,n,b,R,o,k)","(t$0rfl$1rfl$2$3rfl,rfl$4$5)","(axF,F,es,c,j)","(aDZ,ts,i)","(ajV,K,H,a,xs)","(agJ,K,H,a,xs)","(aIxR,X$0)","(aLP,n,lt)","(acta,F$0)","(aY9R,e$0)","(aYbp,c$0)","(t$0iter,ifs,0)","(aaX,F,l$0)","(aY3c,e$0)","(acS$0(+1,w))","(amg_of,X,G$0)","(agC$0$1es$2mix$3)","(aEE,lt,p$0)","(agJ,K,H$0Y4X)","(awpAny_bind(awpAny_pure$0))","(awpAny(amodel,X.prog,X.w)$0$1$2$3$4)","(aList.replicate,k$0)","(t$0$1rfl$2$3$4)","(afK(adD.o$0$1)$2Ybg(f_,_,_,_$3))","(anF$0s.heap$1$2)","(f_,_,_,False)","(=ys.length$0)","(a.Subscript$0$1pos)","(a.ListComp,elt$0scope,pos)","(aIntsAre$0ns)","(aValue.ref,a)","(asome(a.own$0))","(aaF,_(aaF,_$0))","(aOption,Rat)","(aeB(:j,0)$0)","(afR,rfl,T.b_range(aY1W$0))","(aY4r$0Dd)","(akM(aeK.o$0$1$2)$3Ybg(f_,_,_,_$4))","(a.inr,rfl)","(abT(fw,_$0))","(amJ(aS.cells,I.ok)$0$1)","(asome(azP$0xs))","(aworz$0$1$2ss,mix$3$4cs,Y02)","(aaN.mp,h)","(acD.mp,a)","(a.Name,x,pos)","(aoB,rfl(aeE(aYbl$0$1)(aeE(aYbl$2$3)$4)))","(e$0Y6h)","(asome,t)","(asome,a)","(asome,_)","(aX.fn,x)","(aY2d,Ae)","(aList.ext_getElem?(fi,?_))","(a.Name,x1,p1)","(a.Name,x2,p2)","(aY40,Oo)","(aKV,kvs,vs)","(aY8d$0$1(aYbq$2(fl,hl,?_)))","(aY9V$0kk)","(a.inr(t$0$1$2))","(t$0$1$2rfl)","(e$0ns)","(aaT,H',H5)","(aY70$0$1xs)","(aeC$0(aaD$1)aK)","(aY5X,H'$0$1)","(%$0none)","(t$0rfl$1rfl$2$3rfl,rfl$4)","(aY1e$0rfl$1$2rfl$3$4)","(akS,st)","(ahZ,ss)","(agX,Oo)","(aY6,x)","(aY1a,b)","(aY1a,a)","(aY8b,b)","(aY8,d)","(aY4Y,q)","(aY5Z,c)","(aQn.zero,_,_)","(aY8p,c,Y9)","(acS,cs,k)","(aYhX,x,Y35)","(acS,mix,w)","(aYp,a,ta)","(aY08,a,ta)","(afT,H',p,L,n)","(alB,items.size,0,lo)","(aYp,e,te)","(acS,bs,w)","(aY3t$0$1rfl$2rfl,?_)","(acE,n,f)","(akX,X,scope,x,N',js)","(aList(x$0$1))","(+s.heap.objs.size$0)","(aaT.upd(:o(a.tup$0))$1)","(<$0s.heap.objs.size)","(adA$0(fe$1))","(t$0$1rfl$2)","(alE$0rfl,?_)","(~X.s₀.heap.objs.size$0)","(aY6W,X.A$0$1$2$3)","(<$0xs.length)","(acongrArg,List.length$0)","(>Value$0)","(asc.names.lookup,x)","(=us.length$0)","(aD.nx,σ$0)","(as.TypeIs(a.ref$0)$1)","(+xs.length$0)","(=(ah'.get?$0)$1)","(awpAny_callSpecial?_slot(:name(aStr.ofString$0))$1$2(awpAny_call_entry$3$4$5$6$7))","(a.Constant$0$1pos)","(fi,j(a.int$0))","(agM,PassesOwn.never,rfl$0$1(aaS$2))","(agD,kvs$0)","(asome,Yn)","(aabsurd,rfl$0)","(a.cons$0.nil)","(aMd.det$0(ast$1$2$3))","(a.Call(a.Name$0$1)$2$3pos)","(akG,kvs(aY3s$0)$1)","(acS,cs,c.sum)","(aIsEnum$0$1$2$3old)","(aupd$0$1(a.ins$2$3$4))","(aI.freeC$0c$1)","(ae,z.symm)","(aY52(aeV$0))","(acC$0(aaD$1)aK)","(q$0.cell)","(aYp(a.Call(a.Name,x$0)$1$2pos)$3)","(aaI$0(aY7c$1))","(<x.natAbs$0)","(aaB.mp,a)","(aaN.mp,g)","(aY24,Nat)","(>Y0X(>Hp(aY2d,VK)))","(aI.pin,p$0)","(aY0g(aY8e$0))","(q(ascope.names.lookup$0)Y35)","(asome(t$0$1(a.func$2)$3))","(aYa2(fi$0))","(aoU$0best$1)","(aY74(l(tY3z,iter,ifs,0)))","(asome,z)","(asome,m)","(#b,rest)","(acS(aY6t$0)$1)","(aY0a,kb)","(aY4x,vs)","(aY4m,H',s')","(aFn,Ns,1,f)","(xStr,Ak)","(a.int$0u)","(pvs,dvs)","(t$0rfl$1$2$3)","(aY4l$0H2)","(aaF,_,q)","(aY0E,_,_,rfl,?_)","(aeP(adR$0hn))","(aY0g(anZ$0rfl,?_))","(aY0k$0a03,fZ)","(<i.natAbs$0)","(aMd.xD$0B$1$2$3)","(alJ(asU,PySem.F.plainAttrs_list,PySem.F.slot_list_append,PySem.F.type_list_append,tV$0(aY1W$1)))","(aiS,I$0(aaL$1qJ))","(aCH$0ss,mix,cs$1)","(t(a.int$0)$1(aI.tok,_)(aY5P,_)$2)","(acB,Oo)","(afL,?_)","(aY6,L)","(aY9M,b)","(aY2M,j)","(aY2M,l)","(aY8l,W)","(aY72,n)","(awpAny,_,_$0_,_(t$1$2$3$4$5))","(aYa2,d)","(ad.getD,j,0)","(afI,x,u)","(aMd.dot,n(aR,i)a)","(azV,X,scope)","(aY3H,x)","(aY5Q,n(ast,B$0(fr$1))$2$3)","(aY3F,aK(aY66,0))","(aht,C,fp,s₀,H₀)","(ahe,C,fp,s₀,H₀)","(atOp,r,ta,tb)","(>(Ac,o$0)$1)","(aY68,_,rfl$0(t$1(agJ.of$2))$3)","(aOption,Value)","(aNat.le_mul_of_pos_left,_$0)","(f_,_,_,_,_,r,r)","(acE$0(fw$1))","(awpAny_bind(awpAny_setField_rec$0$1$2))","(%$0X.env.locals)","(aNat.two_pow_pos,_)","(aY8g$0$1X.xe$2)","(aPySem.W.keepIn$0(a.ref$1))","(awpAny_passesOwn$0(athn$1$2))","(aaN.mpr(aY4W$0$1))","(aPySem.W.isFn$0(a.ref$1))","(fi,σ,H',_,q,?_)","(aNat.le_add_right,_$0)","(a.Tuple$0$1pt)","(=(aX.env.kindOf$0)$1)","(asome(a.dK$0))","(aLoc,X.env.scope$0)","(abootBuiltins,x)","(aY5M$0c_Weighing$1)","(aPaired(fc,y$0)$1$2)","(alexp,m$0)","(=ns.length$0)","(f_,_,q,q)","(atypeIs_int$0$1t)","(ad.map,V.int)","(aY5M$0c_Master$1)","(a.inr(a.inl$0))","(aaL,I.ok.bsz$0)","(asome(a.frz$0$1))","(aI.ok.hd,hc)","(aY1g,ds$0)","(aY0U,t.word(aStr.ofString$0))","(aYq,Y4X)","(aY88,Str,Value)","(ajK$0$1T.b_len$2(aY2L$3))","(&(Aσ',H'$0)(Ax,H'$1))","(aInt.gcd$0d)","(aIJ,Yo)","(<$0fs.length)","(fσ,H,Q(ata$0$1(fx,H1$2)))","(aJ.go,i$0)","(adL.int,_)","(axR,554400$0$1)","(axH,Ydu,Ydu)","(abA$0(abA$1(aY1W$2)))","(aY0C$0(fv,q$1))","(q$0.free)","(tDd$0)","(-e.length$0)","(astart$0vs)","(=(akvs.any$0)$1)","(aList,β)","(aaB.mp,d)","(aaN.mp,a)","(agJ.of,h)","(~$0100000)","(fz(ae$0))","(alA$0$1$2RO.b2)","(aY9W$0Y2e)","(aY13,Nat$0)","(aY8d$0Y1l,rfl)","(Ai,y,H1,H2(>(afF,H1,H2)$0))","(aY0W,Y3g$0)","(l(aV.int$0))","(a.inl,a)","(asome,k)","(asome,b)","(a.ref,C)","(a.int,0)","(a.str,x)","(aT.keep$0_$1$2$3)","(aYq,zs)","(aY6V,?_)","(aY0k$0a20$1)","(aY2B$0a00$1)","(>α,PyData)","(aY08,e,te)","(#Yb,Y51)","(aeI$0its)","(e$0es)","(aPI$0$1iter$2)","(aOD$0$1iter$2)","(askip,j$0)","(arlL$0?_)","(aY88,TE,TE)","(aY0E,Y1r$0$1$2)","(adU(aY2x,aK,aK))","(aY08$0tb)","(a.Tuple,elts,x1,tp)","(aY13,α$0)","(aY8H,fO$0)","(adA,es(fx$0))","(aeC,tU(aaD$0)jW)","(Em(aW,0,m,σ$0))","(awG,K,H,M,bs,mix,cs,av)","(aYbh,H5,D(pys$0))","(f_,_,_,_,cT)","(aupd$0$1(a.lst$2))","(aBuiltin.SmallTypes.nextOf(a.ref$0))","(aPyProof.Rows.callWith_type1(athn$0$1)$2$3)","(aYdl$0Y9)","(adE(:i$0)$1rfl(aOr.inl,rfl))","(awpAny_bind(awpAny_attempt$0))","(al.map(aoU$0best))","(awpAny_bind(awpAny_rule$0))","(e$0(aes.map$1))","(aY38(agJ.of$0)$1)","(acE$0(ff$1))","(amL$0$1$2Nat.one_le_two_pow)","(aoF$0scope,s.heap.objs.size,fp$1$2N')","(aHeap.SameBut$0s.heap$1)","(%$0s.heap.objs.size)","(f_,_,_,_,_,h,h)","(akeepIn$0(a.ref$1))","(aList.replicate,W$0)","(aI.tuple(ajV.of$0))","(aY88$0Value)","(acall(a.builtin$0)$1)","(aMeets$0(f_,R,s$1))","(ats.set,o$0)","(a.ref,c.NOUGHT)","(aY5V,ps.length)","(qapos.endLine,cpos.line)","(<ys.length,sizeLine)","(aHeap.SameBut,e$0$1)","(aIsZip$0$1$2$3.ellipsis)","(amin,xs.length,ys.length)","(abJ.ofRange,Oo$0)","(aY0n(fi,m,σ,H$0)$1)","(aFalse.elim,a)","(acodeAny(amodel$0$1)$2$3$4$5)","(akvs.map(fkv$0))","(aassign$0X.env)","(aiW,vs.length$0)","(aYfj,.And$0)","(a.call(a.ref$0)$1)","(aK.In,s.heap)","(aI.cell$0c$1)","(a.UnaryOp$0$1pos)","(aJ2.ok.exf,b$0)","(aJ3.ok.exf,b$0)","(aB.getD$0.non)","(aK,w.params)","(fe,a,?_)","(akU(fi,y,H'$0)$1$2$3$4)","(ajO.i$0(azD.of$1)$2$3)","(~fs.length$0)","(aPaired(aUX$0$1)$2$3)","(~$0es.length)","(ane,z.symm)","(afs.take,i)","(fon,?_)","(a.Tuple$0$1pt2)","(acP(:i,1)$0$1)","(aY1K(apyNext(a.ref$0)))","(<$0js.length)","(atn$0s.heap)","(apO,Yo)","(axs.getD$00)","(aY2T(ajV.of$0))","(a.Compare,a$0$1$2)","(aBindsTo$0fd$1$2)","(aj.extBut,_$0$1$2)","(aLP,vs.length(aQD,cs))","(aEE(aQD,cs)$0vs.length)","(aEJ(asome$0)$1)","(ff,j(aiR$0$1$2))","(aiK(aiF,Y00$0)Y00$1)","(akZ,false,false,rfl,T.b_zip(aY1Y$0$1))","(a.bl,true)","(a.Name,x,pos')","(>Bool(aY2d,Hp))","(aQ,.non,H')","(fc(aPyData.tuple(ac.map,.int)))","(aY46(fr$0)$1)","(>Result(aY2d,Shared))","(>Unit(aY2d,Shared))","(aDE,I.hok$0)","(aDD,I.hok$0)","(adA,l(fa$0))","(an.getD$00)","(aIsPair$0TO$1$2)","(a.ref,bp)","(aY88(aList,fQ)(xAddr,Value))","(aY9X,kvs)","(>Nat,Nat)","(>Y9H(aY2d,Shared))","(t(aStr.ofString$0)$1.non)","(=(ah.get?$0)(asome$1))","(t$0$1Yy)","(fo,e(ak$0$1$2$3))","(aoN$0$1$2$3998001)","(aR.len,e$0)","(aYfj,.Or$0)","(aY0q(aY0I$0))","(=(ah.get?$0)Y9)","(aY8d,rfl,_$0)","(aA.deeper(aenvOfC,qual$0s.heap.objs.size$1$2))","(a.Call(aYfl$0apos)$1$2cpos)","(a.inl,h)","(asome,p)","(a.ref,e)","(a.ref,m)","(acE$0(fj$1))","(aI.rl,T)","(aYm,ys)","(awpAny_bind(awpAny_seqItems$0rfl,?_))","(aYbA,κ)","(aYm(ak.map,kV))","(aY7h,b1)","(aYdW,?_)","(aJ.stop,i,H2)","(aYam,H2)","(aY6o,tv)","(a.dict,es,ep)","(AC,fp,s₀,H₀(aPE(aoF,X,scope,C,fp,s₀,H₀,N')elt,te))","(AC,fp,s₀,H₀(aRQ(aoF,X,scope,C,fp,s₀,H₀,N')ifs,tc))","(asome(azP,b2,ys))","(t$0H'$1$2)","(e$0(alvl,F,best$1))","(aYg$0a01$1)","(aY0g(axU$0(aeB$1)?_))","(aY0k$0a02$1)","(aHS,X,scope,x$0fp,s₀,H₀,N')","(atF,X.prog,X.w$0$1)","(=(as.heap.get?$0)$1)","(=(ascope.names.lookup$0)$1)","(awpAny_bind(awpAny_bind$0))","(ajJ$0$1T.b_tuple$2$3)","(aInt.pos_of_mul_pos_right,this$0)","(aNat.mul_le_mul$0(aNat.le_of_lt$1))","(abJ.cons$0bJ.nil)","(awpAny_bind(awpAny_standAt$0))","(aList.getElem?_set_ne(fz$0))","(fe,?_)","(afH(:xs$0)$1Y9J$2$3$4$5)","(+X.A.units$0)","(a.Assign$0$1pos)","(atupleKind_room_in1,hu)","(ac.map,V.int)","(abase.Ns,mainGlobals$0)","(aPySem.W.hasDictIn,K$0)","(aInt.gcd_dvd_right$0d)","(aA.under(a.builtin$0$1))","(awpAny_loadPart',c)","(aYw(abehindInMarks$0$1))","(f_,none)","(aArray,DictEntry)","(aAllBare,s'.gens)","(aValue.ref,Y1J)","(aRat.le_trans$0?_)","(fi,σ,H'(aEx2$0))","(aNat.succ_pos,_)","(aY0z,kvs.length)","(awpAny_pure(aYfp$0))","(aX.base.get?,b)","(f_,_,False)","(agQ(:v(a.str$0))rfl$1(aY5P,_))","(acongrArg,some$0)","(=(aenv.cells.lookup$0)$1)","(aσ.set$0Yn)","(t$0(fx,H3,y$1))","(acJ(fq$0))","(asome(aseqObj$0$1$2))","(aTJ,xs.length$0)","(afZ.i$0(asmallz$1)$2)","(aG.getD,c.sum$0)","(afs.lookup,f)","(fd,hd,?_)","(aY1g(acs.map$0)$1)","(a.inl(a.inl$0))","(asW(afs.zip$0))","(aIsTup,s.heap$0$1)","(aIsTup.new$0_)","(atJ$0(aκ.mono$1)$2)","(abJ.flat$0(amH$1)$2)","(art.flat$0(anQ$1$2))","(=(as₁.heap.get?$0)$1)","(aOption,Nat)","(a.ref,c.ONE)","(aI.base.free,b$0$1$2$3)","(aK.lookup,a)","(fi,a,?_)","(aY1x,ns.sum)","(aYm,Ydz)","(akQ(:n,n)$0)","(%t.word(aStr.ofString$0))","(aif_pos,h2)","(aif_pos,is)","(aif_neg,h2)","(f_,q,q)","(aes.take,n)","(aaU.self(:p$0)(:H$1)(:o(a.ins,c.Master$2$3)))","(e$0(afs.map$1))","(agO(fk,_$0)$1)","(afH(fi,y,H'$0)$1$2$3$4$5)","(aYdv$0(fi,y,_$1)$2$3$4$5)","(awpAny_bind(awpAny_mono$0$1(f_,_,a,a.elim)))","(=cs.length$0)","(=bs.length$0)","(Ec(=(aX.env.cells.lookup$0)Y1b))","(fj(aMd.dot,n(aR$0)a))","(avalueAt$0k)","(acs.getD,i$0)","(ays.getD,i$0)","(fσ,H,R(ata$0$1(fvs,H1$2)))","(aif_neg,a)","(aaB.mp,hi)","(aX.wish,E)","(ajJ$0$1T.b_list$2$3)","(aYfq,Expr)","(ajK$0$1T.b_sum$2(aY2L$3))","(a.Dict$0$1pos)","(aY70$0$1items)","(acompEnvC,scope$0$1X.env)","(a.inl(aY5P$0))","(a.inr(aY5$0))","(<$0m.length)","(t$0$1(a.inr$2))","(e$0X.ex)","(a.cons$0ih)","(fj(aeV$0))","(avX,I.hok$0)","(aaU.tI$0hx)","(ae.getD$00)","(afV,FQ50(aaD$0))","(agY,g.u1,Y0H$0)","(asome,tv)","(a.ref,ta)","(adens,cs)","(ajK$0$1T.b_len$2$3)","(aY8j(aY8j(aSem,Value)))","(aYw,Y1w)","(>Nat(aY2d,Hp))","(aY8L,Y0J)","(aPassesOwn,Y3U,X.A,X.env,X.xe)","(=d.length$0)","(a.inl(t$0$1$2))","(aCls,X.K,C)","(t$0(fh$1))","(aZipApart$0TI$1$2$3$4$5)","(axR,27720$0$1)","(ff,j(t$0$1))","(aY3x$0(a.inl$1))","(aenvOfC,qual,scope,s.heap.objs.size$0$1)","(~x.natAbs$0)","(aList.replicate$00)","(a.BoolOp$0$1pos)","(aI.turned(:t',s.toks)$0$1$2$3$4$5)","(a.Attribute,o$0$1)","(aX.s₀.heap.get?,s.heap.objs.size)","(awpAny_typeNameOfWhole_keyiter$0?_)","(~$0xs.length)","(aY5(awpAny_pure$0))","(aList(aOption$0))","(aPySem.W.plainGet,K$0$1)","(awpAny_bind(awpAny_holding$0))","(avs.toArray.zip,vs.toArray)","(aList.toArray(aList.range$0))","(aNat.le_mul_of_pos_right,_$0)","(awpAny_bind(awpAny_letGo$0))","(awpAny_isOneOf_keyiter$0?_)","(fcdv,A,outer,s,hr,?_)","(awpAny_pure(awpAny_pure$0))","(a.ref,c.heap.objs.size)","(aHT.lB,xs.length$0$1)","(aAround.under_plainId$0_)","(avA(:xs$0)(:ys$1)(fi,σ,H'$2)$3$4$5$6)","(acall_meetsIn,PySem.F.slot_dict_get$0PySem.F.entry_dict_get$1$2$3)","(awpAny_bind(:m(aBuiltin.Tuple.tupleExact$0))(awpAny_newObj_type$1$2))","(ascope.names.filter(fy$0))","(afT.like(:p$0)(:L$1)(fi$2))","(fb,o,e,n,L,hx,?_)","(aswapsWithSole$0$1pos.line$2)","(as.heap.IsSliceOf$0$1$2.none)","(aYdn(awpAny_onRaise$0))","(aH,s.heap.objs.size)","(aPySem.W.plainOver,K$0)","(awpAny_mono$0$1(f_,_,x$2))","(a.bool,true)","(aswappedStores$0$1X.env)","(ans.map,PyData.int)","(awpAny_loadPart',j)","(awpAny_loadPart',m)","(avs.getD$0Value.none)","(acodeAny_builtin$0?_)","(aF.oky$0(fO,H,Q,E,h$1))","(aF.oky$0(fz,H,Q,E,h$1))","(%s.heap.objs.size$0)","(aPySem.W.instObj,C$0)","(aPySem.W.makesIn,K$0)","(aInt.emod_nonneg,_$0)","(aOption,NameKind)","(+c.heap.objs.size$0)","(ah.Ns,mainGlobals$0)","(aw.toList.map(fi$0))","(=(aX.s₀.heap.get?$0)$1)","(aVis,X.env.scope$0)","(aPySem.W.codeIn,K$0$1)","(asubscripted$0false$1$2)","(alC(:env$0)$1$2S.cell)","(aQn.sumR(:n,W)$0)","(<kvs.length,sizeLine)","(anewFunctionEnv$0$1$2$3$4$5$6(asome$7))","(abJ.snoc$0(adL.flat$1$2$3))","(adE(:i$0)$1$2(aOr.inr$3))","(acongrArg,V.int$0)","(a.Subscript$0$1pos')","(fx,H',y,?_)","(aaI(:m,100000)$0$1)","(aaT.thru$0$1aU.self)","(aY0z,ys.length)","(aY54,ys.length)","(aY8o,zs.length)","(aYa3,ms.length)","(aY65,xs.length)","(aabsurd(acA.mp$0)$1)","(a.compStart$0$1Y5a$2$3)","(fi,H(Exs,x$0))","(q$0items.size)","(f_,_,q(aaF,_$0))","(fb,z(aabsurd$0$1))","(aHT.lB,d.length$0$1)","(axs.map,V.int)","(aPyData.eqv$0d')","(fb,a,h(as.at$0$1))","(aHeap.ExtBut$0$1h')","(agQ(:v$0)rfl,T.g_NOUGHT$1)","(awpAny_bind(aAN$0$1$2$3))","(agJ.of(ab'.at$0$1))","(a.done(a.ret$0))","(aMd.gO(fk,_$0)$1)","(aY0O(acongrArg$0$1))","(abT(:g$0)(fw,_$1))","(aOption,Expr)","(aI.base.there,b$0$1$2)","(aa.map,V.int)","(arsT(:ns$0)$1?_)","(alY,c.Master)","(aYdR$0T.g_RULE)","(asome(a.tbl$0))","(a.Assign$0(aY74$1)$2)","(a.compLoop(aY74$0)$1$2$3$4)","(aX.flat$0Y2u)","(aZ.sl.uz$0(aaE$1))","(aY1g(aas.map$0)$1)","(fx,H1(Ea$0))","(fq(aabsurd$0$1))","(asome,.free)","(<$0h.objs.size)","(abackTo,cpos$0)","(aK.lookup,f)","(fi,j(a.bl$0))","(fa,e,?_)","(fi,d,?_)","(fk,d,?_)","(aF'.less,Oo)","(aaU.self(:p$0)(:H$1)(:o(a.ins,c.Weighing$2$3)))","(aY5T,100000)","(<t.cost.natAbs$0)","(fσ,H,Q(at,σ,H(fxs,H1$0)))","(aList,Bool)","(aif_pos,Dd)","(aif_neg,ne)","(aPaired$0l₁$1)","(ah1.get?,b)","(aI.stkSub,b$0)","(f_,H,Q(aQ$0$1))","(apure,true)","(a.tuple,ds)","(acs.map,FN)","(ajG(:n,n)$0)","(aeQ.i(:n$0)$1Oo$2$3)","(aws.map,wD)","(abs.any,id)","(agQ(:v$0)rfl,T.g_ONE$1)","(aYfk(fb,o,l,e$0)$1$2$3$4$5)","(aYkQ,d.toks$0)","(atupleKind(agR,X.prog$0))","(=t.word(aStr.ofString$0))","(fσ,H,Q(at,σ,H(fc,H1$0)))","(=ws.length$0)","(=$0vs.length)","(aif_pos,a)","(aif_neg,z)","(<$0cs.length)","(aI.base.keep,b$0$1$2$3$4)","(aI.base.slot$0o$1$2$3$4)","(aaB.mp,hu)","(aSem,Bool)","(a.Tuple$0$1pos)","(+js.length$0)","(aJ.stop$0H')","(a.cons,rfl$0)","(aIsPart,vl$0)","(aIsPart,vu$0)","(fkv(aY0U$0$1))","(arD.mpr(aY4W$0$1))","(aDU.all,h)","(acP(:i,5)$0$1)","(acP(:i,6)$0$1)","(aNat.gcd,L$0)","(aMd.unit,i$0)","(aL.mx.at,f$0)","(aswapsWith,value(asome$0)pos.line,X.env)","(t$0(f_$1))","(e$0(akvs.map$1))","(=zs.length$0)","(=ts.length$0)","(ate,YaX$0(fy,H5$1))","(aupd$0s.heap.objs.size$1)","(=(aX.env.scope.names.lookup$0)$1)","(aNat.pow_lt_pow_right,Dd$0)","(asome(a.builtin$0))","(aBuiltin.SmallTypes.ownedTupleIsFree(a.ref$0))","(aI.laid(:a,s.heap.objs.size)(:o$0)(:h'$1)(:t'$2)$3$4$5)","(aInt.ediv_nonneg$0(aInt.natCast_nonneg$1))","(qX.env.scope.kind$0)","(awpAny_bind(awpAny_updateSeq_pair$0$1))","(awpAny_comprehension_free(:use$0)$1$2$3$4S.names$5)","(aRat.le_of_mul_le_mul_right(:c$0)$1g)","(aRat.le_of_mul_le_mul_left(:c$0)?_$1)","(aRat.mul_le_mul_of_nonneg_left(aK$0$1)$2)","(aI.lnew(:its$0)(:ys$1)(:t',s.toks)$2$3)","(abootBuiltins(aStr.ofString$0))","(aList.toArray(ap.toList.map$0))","(aList.of_mem_zip(:a$0)(:b$1)d)","(alookup_relabel_local,this)","(aPySem.F.args_tuple_add_2,_$0)","(aY37$0$1(aList.contains_iff_mem.mp$2))","(aPySem.W.plainGet_of,hg)","(aCalls.spliced_cons(athn$0$1))","(aI.call'(:s'$0)(:ch$1)$2$3(aJ.hok.but$4$5)$6$7)","(aBU(:F,F)(:M$0)(:best$1))","(aNat.lt_of_succ_lt,this)","(asU,PySem.F.plainAttrs_list,PySem.F.slot_list_extend,PySem.F.type_list_extend$0$1$2)","(as.heap.FunFrames,X.base$0)","(aI.mod.glob.keeps,I.bk)","(awpAny_bind(awpAny_load$0$1))","(atE.some_of(:v,v)(:o$0)$1)","(aInt.emod_nonneg$0(:b$1)Oo)","(aNat.one_lt_two_pow,Dd)","(awpAny_bind(aseqEpoch_at$0$1$2))","(acodeAny_compStart_list$0(aT.self$1$2$3$4$5$6$7))","(aI.turnedL(:t',s.toks)$0$1)","(aI.hok.fresh(aaM,s.heap.objs.size))","(fc(adecide$0))","(aNat.pos_of_ne_zero(fz$0))","(aI1.hok.fresh,Yy)","(aH2,s.heap.objs.size)","(aNat.pow_pos,I.mz.s1)","(awpAny_newObj_type,?_$0)","(aaFD$0$1$2$3(fv,u,g,x,y,H2,I2,e,d,q$4))","(aaEY(f_,_,_,_,_,_,_,q$0))","(aInt.emod_lt_of_pos,_$0)","(aeO(:l$0)(:j$1)(:a$2)Oo)","(aY8p,s.heap.objs.size$0)","(ld.heap.objs.size)","(aNat.lt_succ_self,_)","(awpAny_dictEntries,hod$0$1)","(aPyData.depthAll,ds)","(fj,σ,H',_,q,?_)","(aI.write(:x$0)(:e$1)$2Y36$3$4$5)","(aget?_update_seq$0(f_$1))","(asome(aValue.type$0))","(aI1.laid(:t'$0)$1Yy$2)","(AC,fp,s₀,H₀(aPG$0$1$2))","(aInt.gcd_dvd_left$0d)","(awpAny_holding,?_)","(ff,vs(aPySem.call$0$1))","(awpAny_dictEpoch,hod$0$1)","(aF.oky$0(fC,H,Q,E,h$1))","(fe,H,Q,E,h,?_)","(f_,_,_,h(arP.same$0$1))","(~s.heap.objs.size$0)","(+s1.heap.objs.size$0)","(aRR$0s3.heap.objs.size$1$2)","(aInt.mul_pos,h.pos$0)","(aInt.mul_pos,u.pos$0)","(adecide,N'.Nodup)","(awpAny_execs_nil(t$0$1$2$3))","(as.heap.push(aitO$0$1))","(aHeap.get?_update_ne,_$0$1$2$3)","(abR$0(aRat.le_of_lt$1))","(fH8,e8,b8,?_)","(=$0d.heap.objs.size)","(q$0NameKind.free)","(a.tuple(afs.map$0))","(atW(:n$0)(:d,d))","(aAJ(:n$0)(:g$1)(fi,a$2))","(al2.filter(aYiw$0))","(agQ(:v$0)rfl,T.g_LOOKS_ON(aY5P,_))","(aX.env.kindOf,n)","(aNat.ne_of_gt,T)","(aaT.upd(:o(a.lst$0))$1)","(agX(:c$0)(:j$1)Oo)","(afA$0(aNat.pow_pos$1))","(aI.tg(:W$0)(aY3h$1))","(aHS$0scope$1s.heap.objs.size,fp$2$3N')","(=scope.kind,.function)","(aseqIndex_neg,Oo$0)","(aoperate$0(agetItem$1$2))","(aplainId_quiet$0_)","(adL.tup$0(abJ.ofIdx$1$2))","(fi,σ,H'(aEx3$0))","(fi,σ,H'(aEx1$0))","(q(apsc.names.lookup$0)$1)","(aI.hok.kept,hk)","(awpAny_pure,hQ)","(aNat.le_succ,_)","(awpAny_call_entry$0$1$2?_$3)","(fy,a,d(aok.has$0$1))","(azs.foldl(fp,q$0)$1)","(ah.step_det,hi)","(alas.map,V.ref)","(aY8l,ps.length)","(aY54,fs.length)","(aY8o,ys.length)","(aY75,xs.toList)","(aYi3,.function)","(=d.params.defaults$0)","(aseqIndex_of,h0$0)","(aRR$0cenv.locals)","(awpAny_setField$0$1$2?_)","(aInt.mul_pos$0Oo)","(aRat.mul_comm,_$0)","(anB(:f$0)(:g$1)Dd$2)","(aenv.kindOf,x)","(aFalse.elim,h)","(awpAny_bind,a)","(fv,r,i,?_)","(ays.map,V.int)","(fb,L,q,Y9a)","(acall_meets,F.slot_tuple_mul$0F.entry_tuple_mul(aF.args_tuple_mul_2$1$2)$3$4)","(qscope.kind,.function)","(aPaired.mapP,r$0)","(awpAny_Name$0hd)","(arelabel,scope$0)","(aRat.mul_pos,c$0)","(awM$0c.Weighing)","(aGC$0$1T.b_enumerate$2)","(aYfr$0Str.empty)","(aYfB,xs.length$0)","(f_,_,e,e)","(a.Attribute$0$1pos)","(aValue.ref,d)","(aDecidable,c)","(fw,hw,?_)","(acP(:i$0)LE.nd$1)","(as5.trans,s6)","(an.map,V.int)","(awR,c.Master)","(aqT,c.Master)","(atO,c.Master)","(abs.map,V.bl)","(amV,c.Master)","(aLX$0T.w_Master.cls$1$2$3)","(asi.trans,sj)","(aY0n(fi,m,ys,H'$0)$1)","(asome(a.ins,c.Weighing$0$1))","(acall_meets,F.slot_int_rmul$0F.entry_int_rmul(aF.args_int_rmul_2$1$2)$3$4)","(aOldK,s₁.heap,s'.heap)","(~h.objs.size$0)","(aHJ,s₁.heap$0)","(fb,u,a,q(ahs.extBut,b$0$1$2))","(aJ2.ok.exfs,b$0)","(aJ3.ok.exfs,b$0)","(agN$0xs.length)","(acZ(:g,Y3S)$0)","(aYbx$0c_Master)","(aYdR$0T.g_LACK)","(aif_pos,hok)","(aif_neg,hok)","(aUn.kept,hk)","(fb,g,?_)","(f_,true)","(fi,_,?_)","(fb,i,?_)","(apG,low.pos)","(athis.le,Oo)","(fj,_,?_)","(fi,c,?_)","(adpS(:kvs2$0)$1$2rfl$3)","(areprText,s)","(adgI(:cc,cc)$0$1)","(fi,z,_(=$0(a.int$1)))","(aβ.same,sl)","(aS5.trans,d)","(fi,H(Exs$0))","(ahl1.at(fo,e$0))","(aI1.kept(:t'$0)(fb,o,e$1))"]
def zK:List (Char × String × String):=[('x',"«term_×_»","×"),('>',"Lean.Parser.Term.arrow","->"),('=',"«term_=_»","="),('|',"«term_∨_»","\\/"),('&',"«term_∧_»","/\\"),('q',"«term_==_»","=="),('p',"«term_++_»","++"),('%',"«term_≠_»","≠"),('<',"«term_<_»","<"),('~',"«term_≤_»","<="),('e',"«term_∈_»","∈"),('#',"«term_::_»","::"),('+',"«term_+_»","+"),('*',"«term_*_»","*"),('-',"«term_-_»","-"),('^',"«term_^_»","^"),('/',"«term_/_»","/")]
def zW(c:Char):Bool:=c.isAlphanum||c.val>127||"_.'!?".contains c
def zI(s:String):zs:=if s=="_" then zm "hole" #[za "_"] else if s=="?_" then zm "syntheticHole" #[za "?",za "_"] else if s=="Prop" then zm "prop" #[za s] else if s.front=='.' then zm "dotIdent" #[za ".",Lean.mkIdent (s.drop 1).toString.toName] else if s.front.isDigit then Lean.Syntax.mkNumLit s else Lean.mkIdent s.toName
def zS(x:Array zs):zs:=zn `null ((x.foldl (fun a y=>(a.push y).push (za ",")) #[]).pop)
def zB(o:Char)(b:Array zs):zs:=
 let l:=zn `null b.pop
 match o with
 |'a'=>zm "app" #[b[0]!,zn `null (b.extract 1 b.size)]
 |'t'=>zm "anonymousCtor" #[za "⟨",zS b,za "⟩"]
 |'l'=>zn `«term[_]» #[za "[",zS b,za "]"]
 |'g'=>zn `«term__[_]_?» #[b[0]!,zn `group #[],za "[",b[1]!,za "]",zn `group #[],za "?"]
 |':'=>zm "namedArgument" #[za "(",b[0]!,za ":=",b[1]!,za ")"]
 |'f'=>zm "fun" #[za "fun",zm "basicFun" #[l,zn `null #[],za "=>",b.back!]]
 |'A'=>zm "forall" #[za "∀",l,zn `null #[],za ",",b.back!]
 |'E'=>zn `«term∃_,_» #[za "∃",zn `Lean.explicitBinders #[zn `Lean.unbracketedExplicitBinders #[zn `null (b.pop.map fun x=>zn `Lean.binderIdent #[x]),zn `null #[]]],za ",",b.back!]
 |_=>match zK.find? (·.1==o) with
 |some (_,k,s)=>zn k.toName #[b[0]!,za s,b[1]!]
 |none=>.missing
def zL(x:Array zs):Nat->List Char->Array zs->Array zs × List Char
|0,r,a=>(a,r)
|_,[],a=>(a,[])
|n+1,c::r,a=>
 if c==')' then(a,r)
 else if c==',' then zL x n r a
 else if c=='$' then zL x n r.tail (a.push (x[r.head!.toNat-48]!))
 else if c=='(' then
  let (b,q):=zL x n r.tail #[]
  zL x n q (a.push (zB r.head! b))
 else
  let w:=(c::r).takeWhile zW
  zL x n ((c::r).drop w.length) (a.push (zI (String.ofList w)))
def zX(f:zs)(x:Array zs):Lean.MacroM zs:=
 let s:=f.getId.toString.toList
 let d:=fun c:Char=>if c.isDigit then c.toNat-48 else if c.isLower then c.toNat-87 else c.toNat-29
 let i:=match s with |['Y',a]=>d a |['Y',a,b]=>62+62*d a+d b |_=>99999
 if i<zT.size&&zT[i]!!="" then return (zL x 999 zT[i]!.toList #[]).1[0]! else Lean.Macro.throwUnsupported
local macro_rules
|`($f:ident $x*)=>zX f x
|`($f:ident)=>zX f #[]
set_option hygiene true
def Oo{p:Prop}(h:p:=by first|lia|omega):p:=h
def Dd{p:Prop}(h:p:=by decide):p:=h
def Kk{p:Prop}(h:p:=by decide +kernel):p:=h
abbrev Aa:=PySem.W.Frag
abbrev Ab:=List (List Nat)
abbrev Ac:=List (List Int)
abbrev Ad:=Y88 PySem.Addr PySem.Obj
abbrev Ae:=List Nat
abbrev Af:=List Int
abbrev Ag:=List PySem.Value
abbrev Ah:=Y04
abbrev Ai:=Array PySem.Value
namespace PySem
abbrev aA:=@List.length_map
abbrev aB:=@List.getElem?_eq_some_iff
abbrev aC:=@List.getElem?_eq_getElem
abbrev aE:=@List.mem_of_getElem?
abbrev aF:=@Heap.get?_push_of_some
abbrev aG:=@List.getElem?_map
abbrev aI:=@Nat.lt_of_le_of_lt
abbrev aJ:=@Nat.pow_le_pow_right
abbrev aL:=@Nat.le_trans
abbrev aM:=@Nat.le_refl
abbrev aN:=@List.mem_map
abbrev aO:=@Nat.lt_of_lt_of_le
abbrev aR:=@List.getD_eq_getElem?_getD
abbrev aV:=@List.length_range
abbrev aW:=@List.length_append
abbrev aY:=@List.mem_cons_self
abbrev aZ:=@Heap.lt_size
abbrev bC:=@Heap.get?_push_size
abbrev bD:=@List.mem_cons_of_mem
abbrev bE:=@List.map_append
abbrev bF:=@Nat.mul_le_mul_right
abbrev bH:=@List.map_cons
abbrev bI:=@List.size_toArray
abbrev bL:=@List.mem_append_right
abbrev bM:=@List.length_replicate
abbrev bN:=@List.mem_cons
abbrev bP:=@List.getElem?_range
abbrev bR:=@Rat.mul_nonneg
abbrev bS:=@Nat.lt_irrefl
abbrev bZ:=@decide_eq_false
abbrev cA:=@List.mem_singleton
abbrev cB:=@List.getElem?_eq_none
abbrev cD:=@List.mem_range
abbrev cF:=@List.getElem?_append_right
abbrev cG:=@Bool.false_ne_true
abbrev cJ:=@Classical.byContradiction
abbrev cK:=@List.length_cons
abbrev cM:=@Nat.zero_le
abbrev cN:=@List.getElem?_append_left
abbrev cO:=@List.mem_append_left
abbrev cR:=@decide_eq_true
abbrev cY:=@Int.natAbs_mul
abbrev dG:=@Bool.and_eq_true
abbrev dI:=@Nat.mul_le_mul_left
abbrev dJ:=@List.mem_append
abbrev dN:=@Nat.ne_of_lt
abbrev dX:=@List.take_length
abbrev eL:=@Option.map_eq_some_iff
abbrev fA:=@Nat.mul_pos
abbrev fN:=@List.map_congr_left
abbrev fW:=@Heap.size_push
abbrev fX:=@Option.some.inj
abbrev fY:=@List.mem_filter
abbrev gB:=@List.length_take
abbrev gK:=@List.mem_iff_getElem?
abbrev kB:=@List.take_add_one
abbrev kK:=@Nat.le_of_dvd
abbrev mO:=@Nat.dvd_mul_right
end PySem
open PySem
namespace L2
open PySem PySem.Spec PyProof.Rows
abbrev fQ:=Sum Int Str
def FD:fQ->Y8j Bool
 | .inl k,v=>Value.isInt k v
 | .inr x,v=>Value.isStrOf x v
def aIX(w:World):fQ->Int
 | .inl k=>hashInt k
 | .inr x=>hashStr w x
def iP:∀{k:fQ}{v:Value},FD k v=true->(∃i t,k=Sum.inl i/\v=Value.int i t)\/(∃x t,k=Sum.inr x/\v=Value.str x t)
 | .inl i,v,h=>by
  obtain⟨t,e⟩:=Value.isInt_shape (k:=i) (v:=v) h;exact .inl ⟨i,t,rfl,e⟩
 | .inr x,v,h=>by
  obtain⟨t,e⟩:=Value.isStrOf_shape (x:=x) (v:=v) h;exact .inr ⟨x,t,rfl,e⟩
def TH(i:Int)(t:Tok):FD (.inl i) (Y3E i)=true:=by simp[FD,Value.isInt]
def TF(x:Str)(t:Tok):FD (.inr x) (.str x t)=true:=by simp[FD,Value.isStrOf]
def aFe(a b:Int):Y0U (Sum.inl a:fQ) (Sum.inl b)=(a == b):=by
 by_cases e:a=b
 ·subst e;simp
 ·have h:¬(Sum.inl a:fQ)=Sum.inl b:=λq=>e (Sum.inl.inj q);rw[bZ h];exact(beq_eq_false_iff_ne.mpr e).symm
def aFb(a b:Str):Y0U (Sum.inr a:fQ) (Sum.inr b)=Y0U a b:=by
 by_cases e:a=b
 ·subst e;simp
 ·have h:¬(Sum.inr a:fQ)=Sum.inr b:=λq=>e (Sum.inr.inj q);rw[bZ h,bZ e]
def aFd(a:Int)(b:Str):Yw (Y0U (Sum.inl a:fQ) (Sum.inr b)):=bZ (λq=>nomatch q)
def aFc(a:Str)(b:Int):Yw (Y0U (Sum.inr a:fQ) (Sum.inl b)):=bZ (λq=>nomatch q)
def gR(prog:Program)(w:World):PySem.KeyKind prog w fQ where
 is:=FD
 hash:=aIX w
 inj:=λv a b ha hb=>by
  rcases iP ha with⟨i,t,rfl,rfl⟩ | ⟨x,t,rfl,rfl⟩
  ·rcases iP hb with⟨j,u,rfl,e⟩ | ⟨y,u,rfl,e⟩
   ·injection e with e1 _;rw[e1]
   ·exact nomatch e
  ·rcases iP hb with⟨j,u,rfl,e⟩ | ⟨y,u,rfl,e⟩
   ·exact nomatch e
   ·injection e with e1 _;rw[e1]
 byValue:=λk v h=>by
  rcases iP h with⟨i,t,rfl,rfl⟩ | ⟨x,t,rfl,rfl⟩ <;> rfl
 pyHash:=λhv h=>by
  rcases iP hv with⟨i,t,rfl,rfl⟩ | ⟨x,t,rfl,rfl⟩
  ·exact wpAny_pyHash_int h
  ·exact wpAny_pyHash_str h
 eqBool:=λhu hv h=>by
  rcases iP hu with⟨i,t,rfl,rfl⟩ | ⟨x,t,rfl,rfl⟩
  ·rcases iP hv with⟨j,u,rfl,rfl⟩ | ⟨y,u,rfl,rfl⟩
   ·rw[aFe]at h;exact wpAny_eqBool_int h
   ·rw[aFd]at h;exact SeqAt.EqAt.int_str i t y u _ _ _ _ h
  ·rcases iP hv with⟨j,u,rfl,rfl⟩ | ⟨y,u,rfl,rfl⟩
   ·rw[aFc]at h;exact SeqAt.EqAt.str_int x t j u _ _ _ _ h
   ·rw[aFb]at h;exact wpAny_eqBool_str h
 «strs» := λk x t v h=>by
  rcases iP h with⟨i,u,rfl,e⟩ | ⟨y,u,rfl,e⟩
  ·exact nomatch e
  ·injection e with e1 _;subst e1;cases v <;> rfl
def JO(prog:Program)(w:World)(i:Int)(t:Tok):(gR prog w).is (.inl i) (Y3E i)=true:=TH i t
def JN(prog:Program)(w:World)(x:Str)(t:Tok):(gR prog w).is (.inr x) (.str x t)=true:=TF x t
inductive V where
 | non | bl (b:Bool) | int (i:Int) | str (x:Str) | byt (b:Array UInt8) | flt (b:UInt64) | ref (a:Addr) | ty (n:String)
 deriving DecidableEq
def fI:Y13 V Value
 | .non,u=>u=Value.none
 | .bl b,u=>u=Value.bool b
 | .int i,u=>∃t,u=Value.int i t
 | .str x,u=>∃t,u=Value.str x t
 | .byt b,u=>∃t,u=Value.bytes b t
 | .flt b,u=>∃t,u=Value.float b t
 | .ref a,u=>u=Value.ref a
 | .ty n,u=>u=Value.type n
abbrev eI:Y13 Y6j Ag:=Paired fI
theorem eI.length{xs:Y6j}{us:Ag}(r:Y4I):Y54 us.length:=Paired.length r
theorem eI.get:∀{xs:Y6j}{us:Ag}{i:Nat}{x:V},Y4I->Y0s=Yb->∃u,Y4P=Yl/\Y9w
 | _,_,_,_,.nil,e=>by simp at e
 | _,_,0,_,.cons r _,e=>by simp at e;subst e;exact⟨_,rfl,r⟩
 | _,_,i+1,x,.cons _ t,e=>by
  obtain⟨u,h1,h2⟩:=eI.get (i:=i) (x:=x) t (by simpa using e);exact⟨u,by simpa using h1,h2⟩
theorem eI.set{x:V}{u:Value}(r:Y9w):∀{xs:Y6j}{us:Ag}(i:Nat),Y4I->eI (xs.set i x) (us.set i u)
 | _,_,_,.nil=>.nil
 | _,_,0,.cons _ t=>.cons r t
 | _,_,i+1,.cons q t=>.cons q (eI.set r i t)
theorem eI.append:∀{xs ys:Y6j}{us ws:Ag},Y4I->eI ys ws->eI (Y5L ys) (us++ws)
 | _,_,_,_,.nil,s=>s
 | _,_,_,_,.cons r t,s=>.cons r (eI.append t s)
theorem eI.take:∀{xs:Y6j}{us:Ag}(n:Nat),Y4I->eI (xs.take n) (us.take n)
 | _,_,0,_=>.nil
 | _,_,_+1,.nil=>.nil
 | _,_,n+1,.cons r t=>.cons r (eI.take n t)
theorem eI.drop:∀{xs:Y6j}{us:Ag}(n:Nat),Y4I->eI (xs.drop n) (us.drop n)
 | _,_,0,r=>r
 | _,_,_+1,.nil=>.nil
 | _,_,n+1,.cons _ t=>eI.drop n t
def tE:Y13 (Option V) Y9H
 | some v,some u=>fI v u
 | none,none=>True
 | _,_=>False
def KV{κ:Type}:Y13 Y2S Yd3:=Paired λ(p:κ × V) (q:κ × Value)=>p.1=q.1/\fI p.2 q.2
def kV:fQ->V
 | .inl i=>.int i
 | .inr x=>.str x
inductive HO where
 /-- a list -/
 | lst (xs:Y6j)
 /-- a tuple (never changes) -/
 | tup (xs:Y6j)
 /-- a dict whose keys are ints and texts;one whose keys are tuples of ints and texts (the empty one is both) -/
 | dK (kvs:Y2j) | dT (kvs:Yu)
 /-- a set of ints: its members,its size -/
 | set (S:Y24 Int) (n:Nat)
 /-- an instance of the class at C,its dict at dx,its attributes -/
 | ins (C dx:Addr) (fs:Y3k)
 /-- the dict of the instance at x -/
 | own (x:Addr)
 /-- the dict of an exception -/
 | xd (fs:Y3k)
 /-- a bound method,f of x -/
 | met (f x:Addr)
 /-- a range object lo,lo+1,.. below hi -/
 | rng (lo hi:Int)
 /-- a thing that is known to the object (the script;a dict while a loop walks it): read,never written while it is so -/
 | frz (o:Obj) (u:HO)
 /-- a code object's table -/
 | tbl (ps:Ai)
 /-- any other thing,by what is true of its one object (a def of one's own: SetO a S n:=HO.ext λh=>..) -/
 | ext (φ:Y3W)
abbrev Hp:=Addr->Option HO
def upd(H:Hp)(a:Addr)(o:HO):Hp:=λb=>if b=a then Y9 else H b
def bK{H:Hp}{a:Addr}{o:HO}:upd H a o a=Y9:=by unfold upd;rw[Yr]
def eP{H:Hp}{a b:Addr}{o:HO}(h:b≠a):upd H a o b=H b:=by unfold upd;rw[Y4A]
def sX{H:Hp}{a b:Addr}{o u:HO}(h:H a=Y9)(h':H b=Yl)(d:o≠u):a≠b:=by
 intro e;subst e;rw[h]at h';exact d (fX h')
def dR{H:Hp}{a b:Addr}{o:HO}(h:H a=Y9)(h':H b=none):a≠b:=by
 intro e;subst e;rw[h]at h';cases h'
section
variable(P:Program)(w:World)
def hV(H:Hp)(h:Heap)(a:Addr):Y2d HO
 | .lst xs=>xs.length<=sizeLine/\∃(its:Ag) (n:Nat),eI xs its/\h.get? a=some { cls:=.type "list",data:=.seq its.toArray n }
 | .tup xs=>(xs.length<=sizeLine/\∃o,h.get? a=some o/\o.dict=none)/\∃its:Ag,eI xs its/\IsTup h a its.toArray
 | .dK kvs=>kvs.length<=sizeLine/\(a == sysModules)=false/\∃vs,KV kvs vs/\h.DictOf (gR P w) a vs
 | .dT kvs=>kvs.length<=sizeLine/\(a == sysModules)=false/\∃xs:List (List fQ × Addr × Value),
   Paired (λ(p:List fQ × V) (q:List fQ × Addr × Value)=>p.1=q.1/\H q.2.1=some (.tup (p.1.map kV))/\fI p.2 q.2.2) kvs xs /\
   ∃o es ep,h.get? a=some o/\o.ExactDict/\o.data=.dict es ep/\es.toList=xs.map (entryOfKey (tupleKind (gR P w)))/\(xs.map (·.1)).Nodup
 | .set S n=>h.SetOf (intKind P w) a S n
 | .ins C dx fs=>H dx=some (.own a)/\fs.length<=1000/\dx≠a/\h.get? a=some (PySem.W.instObj C dx) /\
   ∃mA,h.Ns1 dx mA/\(∀f,tE (fs.lookup f) (mA f))/\PySem.Within mA (fs.map (·.1))
 | .own _=>∃o,h.get? a=some o
 | .xd fs=>∃mA,h.Ns1 a mA/\∀f,tE (fs.lookup f) (mA f)
 | .rng lo hi=>∃t u v,h.get? a=some { cls:=.type "range",data:=.fields #[.int lo t,.int hi u,.int 1 v] }
 | .frz o u=>h.get? a=some o/\hV H h a u
 | .tbl ps=>h.get? a=some { cls:=.none,data:=.fields ps }
 | .met f x=>h.get? a=some (PySem.W.methodObj (.ref f) (.ref x))
 | .ext φ=>φ h/\(∃o,h.get? a=some o)/\∀h1 h2:Heap,φ h1->(∀o,h1.get? a=some o->h2.get? a=some o)->φ h2
def tF(H:Hp)(h:Heap):Prop:=∀a o,H a=Y9->hV P w H h a o
end
section
variable{P:Program}{w:World}{H H':Hp}{h h':Heap}{a:Addr}{o:HO}
theorem hV.lt(x:hV P w H h a o):YgX a:=by
 cases o with
 | lst xs=>obtain⟨_,_,_,_,e⟩:=x;exact Y18
 | tup xs=>obtain⟨_,_,_,p⟩:=x;exact p.lt
 | dK kvs=>obtain⟨_,_,_,_,o,_,_,e,_⟩:=x;exact Y18
 | dT kvs=>obtain⟨_,_,_,_,o,_,_,e,_⟩:=x;exact Y18
 | set S n=>obtain⟨o,_,_,_,e,_⟩:=x;exact Y18
 | ins C dx fs=>obtain⟨_,_,_,e,_⟩:=x;exact Y18
 | own y=>obtain⟨_,e⟩:=x;exact Y18
 | xd fs=>obtain⟨_,⟨_,_,_,e,_⟩,_⟩:=x;exact Y18
 | rng lo hi=>obtain⟨_,_,_,e⟩:=x;exact Y18
 | frz ob u=>obtain⟨e,_⟩:=x;exact Y18
 | tbl ps=>exact aZ (show h.get? a=some _ from x)
 | met f y=>exact aZ (show h.get? a=some _ from x)
 | ext φ=>obtain⟨_,⟨_,e⟩,_⟩:=x;exact Y18
theorem Paired.mapP{α β:Type}{F G:Yb9 β}:∀{l₁:Yt}{l₂:Yax},Yhc F l₂->(∀a b,F a b->G a b)->Yhc G l₂
 | _,_,.nil,_=>.nil
 | _,_,.cons r t,f=>.cons (f _ _ r) (Paired.mapP t f)
def Paired.imp'{α β:Type}{F G:Yb9 β}(f:∀a b,F a b->G a b){l₁:Yt}{l₂:Yax}(r:Yhc F l₂):Yhc G l₂:=YjX f
def hV.stay(x:hV P w H h a o)(k:∀b u,(b=a\/H b=Y77 a)->Y1F=Yl->Y0T=Yl)
  (ho:∀b,H b=Y77 a->Y1p=Y77 a) (ht:∀b xs,H b=Y11->Y1p=Y11):hV P w H' h' a o:=by
 induction o with
 | lst xs=>obtain⟨z,l,n,r,e⟩:=x;exact⟨z,l,n,r,Y5w⟩
 | tup xs=>obtain⟨⟨z,D,B,dn⟩,l,r,g,e,c⟩:=x;exact⟨⟨z,D,k _ _ Y36 B,dn⟩,l,r,g,Y5w,c⟩
 | dK kvs=>obtain⟨z,y,s,r,g,i,j,e,c⟩:=x;exact⟨z,y,s,r,g,i,j,Y5w,c⟩
 | dT kvs =>
  obtain⟨z,y,xs,r,g,i,j,e,c⟩:=x;exact⟨z,y,xs,YjX (λp q z=>⟨z.1,ht _ _ z.2.1,z.2.2⟩),g,i,j,Y5w,c⟩
 | set S n=>obtain⟨g,i,j,t,e,c⟩:=x;exact⟨g,i,j,t,Y5w,c⟩
 | ins C dx fs =>
  obtain⟨d,z,ne,e,mA,⟨m,i,j,A,c⟩,r⟩:=x;exact⟨ho _ d,z,ne,Y5w,mA,⟨m,i,j,k _ _ (.inr d) A,c⟩,r⟩
 | own y=>obtain⟨g,e⟩:=x;exact⟨g,Y5w⟩
 | xd fs=>obtain⟨mA,⟨m,i,j,e,c⟩,r⟩:=x;exact⟨mA,⟨m,i,j,Y5w,c⟩,r⟩
 | rng lo hi=>obtain⟨t,u,v,e⟩:=x;exact⟨t,u,v,Y5w⟩
 | frz g u ih=>obtain⟨e,q⟩:=x;exact⟨Y5w,ih q⟩
 | tbl ps =>
  have e:YcK a ({ cls:=.none,data:=.fields ps }):=x;show Y8p a (some { cls:=.none,data:=.fields ps });exact k a _ Y36 e
 | met f y =>
  have e:YcK a (PySem.W.methodObj (.ref f) (.ref y)):=x;show Y8p a (some (PySem.W.methodObj (.ref f) (.ref y)));exact k a _ Y36 e
 | ext φ=>obtain⟨p,⟨o,e⟩,st⟩:=x;exact⟨st _ _ p λo q=>k _ _ Y36 q,⟨o,Y5w⟩,st⟩
theorem tF.lt(x:Y3r)(e:H a=Y9):YgX a:=(x a o e).lt
def tF.fresh(x:Y3r)(e:Yko a):H a=none:=by
 cases q:H a with
 | none=>rfl
 | some u=>exact absurd (aO (x.lt q) e) (bS _)
def tF.kept(x:Y3r)(k:∀b u,Y1F=Yl->Y0T=Yl):tF P w H h':=λa o e =>
 (x a o e).stay (λb u _ q=>k b u q) (Yeo) Ya4
def tF.laid(x:Y3r)(k:∀b u,Y1F=Yl->Y0T=Yl)(hp:Yko a)(new:hV P w (Y4J o) h' a o):tF P w (Y4J o) h':=λb u e=>by
 have d:=x.fresh hp;by_cases hb:b=a
 ·subst hb;rw[bK]at e;cases e;exact new
 ·rw[eP hb]at e;exact(x b u e).stay (λc v _ q=>k c v q) (λc q=>by rw[eP (dR q d)];exact q) λc g q=>by rw[eP (dR q d)];exact q
end
def Rd(H:Hp)(a:Addr)(u:HO):Prop:=H a=Yl\/∃o,H a=Yaa o u
def Rd.ok{P:Program}{w:World}{H:Hp}{h:Heap}{a:Addr}{u:HO}(r:Rd H a u)(x:Y3r):hV P w H h a u:=by
 rcases r with r | ⟨o,r⟩
 ·exact x a u r
 ·obtain⟨_,q⟩:=x a _ r;exact q
def Mut:Y2d (Option HO)
 | some (.lst _)=>True
 | some (.dK _)=>True
 | some (.dT _)=>True
 | some (.set _ _)=>True
 | some (.ins _ _ _)=>True
 | some (.ext _)=>True
 | _=>False
section
variable{P:Program}{w:World}{H:Hp}{h h':Heap}{x e:Addr}{o':HO}
def tF.write(ok:Y3r)(mu:Mut (H x))(he:e=x\/H e=Y77 x)(k:∀b u,b≠e->Y1F=Yl->Y0T=Yl)(heo:∃u,Y8p e Yl)
  (new:hV P w (Y3B x o') h' x o'):tF P w (Y3B x o') h':=λb u q=>by
 have a:∀c y,H c=Y77 y->c≠x:=λc y r z=>by subst z;rw[r]at mu;exact mu
 have d:∀c g,H c=Ym g->c≠x:=λc g r z=>by subst z;rw[r]at mu;exact mu
 by_cases hb:b=x
 ·subst hb;rw[bK]at q;cases q;exact new
 ·rw[eP hb]at q;by_cases hbe:b=e
  ·have j:H b=Y77 x:=by
    rcases he with z | z
    ·exact absurd (hbe.trans z) hb
    ·rw[hbe];exact z
   rw[q]at j;cases j;obtain⟨v,l⟩:=heo;exact⟨v,by rw[hbe];exact l⟩
  ·refine(ok b u q).stay (λc v i r=>k c v ?_ r) (λc r=>by rw[eP (a c b r)];exact r) λc g r=>by rw[eP (d c g r)];exact r
   rcases i with rfl | i
   ·exact hbe
   ·rintro rfl;rcases he with z | z
    ·exact a c b i z
    ·rw[i]at z;cases z;exact hb rfl
end
structure Un(fs ex:Y0m)(H H':Hp)(h h':Heap):Prop where
 keep:Y0W (Y1F=Y9) (H b=none->b ∉ fs->b ∉ ex->Y0T=Y9)
 slot:Y0W (Y1F=Y9) (H b=none->b∈fs->b ∉ ex->∃sl,Y0T=some { o with slots:=sl })
 free:Y0W (Y1F=Y9) (H b=none->b ∉ ex->Y1p=none)
 there:Y0W (Y1F=Y9) (b ∉ ex->∃o',Y0T=some o')
 tups:∀b xs,H b=Y11->Y1p=Y11
 frzs:∀b o u,H b=Yaa o u->Y1p=Yaa o u
 tbls:∀b ps,H b=YgO ps->∃more,Y1p=YgO (ps++more)
section
variable{fs fs' ex ex':Y0m}{H H1 H2:Hp}{h h1 h2 h':Heap}{a x e:Addr}{o:HO}
def Un.any(u:Un fs ex H H1 h h1){b:Addr}{ob:Obj}(q:Y1F=some ob)(n:H b=none)(hx:b ∉ ex):∃sl,Yhd=some { ob with slots:=sl }:=by
 by_cases hb:b∈fs
 ·exact u.slot b ob q n hb hx
 ·exact⟨ob.slots,u.keep b ob q n hb hx⟩
def Un.kept(k:∀b u,Y1F=Yl->Y0T=Yl):Un fs ex H H h h' :=
 ⟨λb a q _ _ _=>k b a q,λb a q _ _ _=>⟨a.slots,k b a q⟩,λ_ _ _ n _=>n,λb a q _=>⟨a,k b a q⟩,Ya4,λ_ _ _ q=>q,λ_ c q=>⟨#[],by rw[q];simp⟩⟩
def Un.refl:Un fs ex H H h h:=Un.kept Ya4
def Un.laid(k:∀b u,Y1F=Yl->Y0T=Yl)(hp:Yko a)(hn:H a=none):Un fs ex H (Y4J o) h h' where
 keep:=λb u q _ _ _=>k b u q
 slot:=λb u q _ _ _=>⟨u.slots,k b u q⟩
 free:=λb u q n _=>by rw[eP (dN (aO (aZ q) hp))];exact n
 there:=λb u q _=>⟨u,k b u q⟩
 tups:=λb c q=>by rw[Y9c q];exact q
 frzs:=λb u c q=>by rw[Y9c q];exact q
 tbls:=λb d q=>⟨#[],by rw[Y9c q,q];simp⟩
def Un.write(mu:Mut (H x))(he:e=x\/H e=Y77 x)(k:∀b u,b≠e->Y1F=Yl->Y0T=Yl)(heo:∃u,Y8p e Yl):Un fs ex H (Y3B x o) h h':=by
 have d:∀b,H b=none->b≠x:=λb n z=>by subst z;rw[n]at mu;exact mu
 have c:∀b,H b=none->b≠e:=λb n z=>by
  subst z;rcases he with r | r
  ·exact d b n r
  ·rw[n]at r;cases r
 have a:∀b u,H b=Yl->¬Mut (Yl)->b≠x:=λb u q i z=>by subst z;rw[q]at mu;exact i mu
 refine⟨λb u q n _ _=>k b u (c b n) q,λb u q n _ _=>⟨u.slots,k b u (c b n) q⟩,λb u q n _=>by rw[eP (d b n)];exact n,λb u q _=>?_,
  λb g q=>by rw[eP (a b _ q λz=>z)];exact q,λb u g q=>by rw[eP (a b _ q λz=>z)];exact q,λb j q=>⟨#[],by rw[eP (a b _ q λz=>z),q];simp⟩⟩
 by_cases hbe:b=e
 ·subst hbe;exact heo
 ·exact⟨u,k b u hbe q⟩
end
def trk(h:Heap)(H:Hp):Y0m:=(List.range h.objs.size).filter λa=>(H a).isSome
def HJ(h:Heap)(H:Hp):Heap:=PySem.W.hideAll h (trk h H)
def TN(h:Heap)(H:Hp):(HJ h H).objs.size=h.objs.size:=PySem.W.hideAll_size _ _
def YQ{h:Heap}{H:Hp}{b:Addr}{o:Obj}(e:Y1F=Y9)(n:H b=none):(HJ h H).get? b=Y9 :=
 PySem.W.hideAll_get _ e λa=>by
  have q:(H b).isSome=true:=(fY.mp a).2;rw[n]at q;simp at q
def aBC{h:Heap}{H:Hp}{b:Addr}{o:Obj}(e:(HJ h H).get? b=Y9):Y1F=Y9/\H b=none:=by
 have a:Y1F=Y9:=PySem.W.of_hideAll (trk h H) e;refine Y0j a;cases q:H b with
 | none=>rfl
 | some x =>
  have c:b∈trk h H:=fY.mpr ⟨cD.mpr (aZ a),by simp[q]⟩;have z:(HJ h H).get? b=none:=PySem.W.hideAll_none (trk h H) c;rw[z]at e;cases e
structure Mod(K:Aa)(mg:Y0y)(base:Heap):Prop where
 kin:K.In base
 glob:YdA mg
 blt:∃mb,base.Ns builtinsNs mb/\∀x:Str,x ≠ "__name__" -> mb x=Y9Z
 nolimit:base.NoLimit
/-- the context: a def's body (or a comprehension's block) running. base: fixed through the whole law;s₀,H₀: the entry;outer: the frames whose slots others may change (a def's callers);stack: all frames that run;
   ex: iterators that were made ahead of the entry and are walked here (a comprehension's);fn: the names whose cells were made at the entry (a def: all;a comprehension's block: its own);calm: not within an except suite;pn: pins that every state bears;xe: what is wanted of an exception that leaves the code -/
structure Cx where
 prog:Program
 w:World
 K:Aa
 mg:Y0y
 base:Heap
 A:Around
 N:Ah
 s₀:Shared
 H₀:Hp
 env:Env
 outer:Y2P
 stack:Y2P
 ex:Y0m
 fn:Y24 Str
 calm:Bool
 pn:Ad
 xe:Yc
def frs(l:Y2P):Y0m:=l.filterMap (·.frame)
abbrev Cx.fs(X:Cx):Y0m:=frs X.outer
def Vis(sc:Scope)(x:Str):Prop:=Y8k=Y35\/Y8k=Y2e\/Y8k=YgW
def Loc(sc:Scope)(x:Str):Prop:=Y8k=Y35\/Y8k=Y2e
def aJC(env:Env)(h:Heap)(m:Y0y)(x:Str)(u:Value):Prop :=
 (YjP=Y35/\m x=Yl)\/((YjP=Y2e\/YjP=YgW)/\∃c,YdT x Y1b/\h.IsCell c (Yl))
structure Cx.Ok(X:Cx):Prop where
 mod:Mod X.K X.mg X.base
 kind:X.env.scope.kind=.function
 glob:X.env.globals=mainGlobals
 blt:X.env.builtins=builtinsNs
 above:Y8f X.env.locals
 inj:∀x y c,Y3m->(X.env.cells.lookup y)=Y1b->x=y
 has:∀x,(YaE x\/Y9W x YgW)->∃c,Y3m
 cab:∀x c,Y7r=true->Y3m->Y8f c
 hd:Y1d->X.A.handled=none
 frames:X.A.frames=some X.stack
 stk:X.stack=X.outer\/(X.stack=X.env::X.outer/\X.env.frame=some X.env.locals)
 exf:∀b∈X.ex,Y9o/\∀x c,Y3m->c≠b
 bs:Y0W (YdP=Y9) (Yg6 b Y9/\X.H₀ b=none)
 bsz:X.base.objs.size<=X.s₀.heap.objs.size
 noex:Y0W (YdP=Y9) (b ∉ X.ex)
 exfs:∀b∈X.ex,b ∉ X.fs
 funs:X.s₀.heap.FunFrames X.base X.outer
 frf:∀b∈X.fs,X.H₀ b=none
structure cU(X:Cx)(pins:Ad)(σ:Yfq V)(H:Hp)(s:Shared):Prop where
 ok:X.Ok
 os:s.os=X.s₀.os
 bare:AllBare s.gens
 base:Un X.fs X.ex X.H₀ H X.s₀.heap s.heap
 loc:∃m,s.heap.Ns X.env.locals m/\∀(i:Nat) (x:Str) (v:V),Y2G=Yb->σ[i]?=Y8v->Yg7 x->∃u,Y3o/\aJC X.env s.heap m x u
 cell:∀x c,Y3m->∃v,s.heap.IsCell c v
 free:H X.env.locals=none
 freeC:∀x c,Y3m->H c=none
 pin:∀p∈X.pn++pins,Y1u p.1 p.2/\H p.1=none/\Y9M p.1/\p.1 ∉ X.fs/\∀v,p.2.data ≠ .cell v
 hok:Ydk H s.heap
 len:σ.length=X.N.length
section
variable{X:Cx}{pins:Ad}{σ:Yfq V}{H H':Hp}{s:Shared}{h':Heap}
def Cx.Ok.nofr(ok:X.Ok){b:Addr}{o:Obj}(e:YdP=Y9):b ∉ X.fs:=λa=>by
 have:=(ok.funs.mem a).1;rw[e]at this;cases this
theorem cU.bs(I:Y4):Y0W (YdP=Y9) (Y3g/\H b=none):=λb o e =>
 ⟨Yhy o ((I.ok.bs b o e).1) ((I.ok.bs b o e).2) (I.ok.nofr e) (I.ok.noex b o e),Yee o ((I.ok.bs b o e).1) ((I.ok.bs b o e).2) (I.ok.noex b o e)⟩
def cU.bk(I:Y4):Y0W (YdP=Y9) Y3g:=λb o e=>(I.bs b o e).1
theorem cU.mod(I:Y4):Mod X.K X.mg X.base:=I.ok.mod
def cU.kIn(I:Y4):X.K.In s.heap:=I.ok.mod.kin.keeps I.bk
theorem cU.lt(I:Y4):Y8b X.env.locals:=let ⟨_,hn,_⟩:=I.loc;hn.lt
def cU.sz(I:Y4):Y8f s.heap.objs.size:=aL I.ok.above (Nat.le_of_lt I.lt)
def cU.nofs(I:Y4){a:Addr}(h:YiY a):a ∉ X.fs:=λc=>by
 obtain⟨_,o,d,_⟩:=I.ok.funs.mem c;exact absurd (aO (aZ d) (aL I.sz h)) (bS _)
def cU.cne(I:Y4):∀x c,Y3m->Y9M c:=λx c e z=>by
 obtain⟨v,o,g,hd⟩:=YbV x e;obtain⟨m,⟨j,h,i,a,d,_⟩,_⟩:=I.loc;rw[z,a]at g;cases g;rw[d]at hd;cases hd
theorem cU.funs(I:Y4):Yim X.outer:=by
 have all:∀(l:Y2P),(∀b∈frs l,b∈X.fs)->X.s₀.heap.FunFrames X.base l->Yim l:=by
  intro l
  induction l with
  | nil=>intro _ _;trivial
  | cons env r ih =>
   intro g i;obtain⟨m,⟨L,o,a,j,h,hd⟩,n⟩:=i;have d:L∈X.fs:=g L (by unfold frs;rw[List.filterMap_cons,a];exact aY);obtain⟨sl,e⟩:=Yhz L h (I.ok.frf L d) d (λz=>I.ok.exfs L z d);exact⟨m,⟨L,_,a,j,e,hd⟩,ih (λb c=>g b (by unfold frs;rw[List.filterMap_cons,a];exact bD _ c)) n⟩
 exact all X.outer (λ_ c=>c) I.ok.funs
theorem cU.stack(I:Y4):Yim X.stack:=by
 rcases I.ok.stk with e | ⟨e,a⟩
 ·rw[e];exact I.funs
 ·rw[e];obtain⟨m,c,_⟩:=I.loc;refine .cons (by rw[I.ok.kind];decide) a c ?_ I.funs;exact Heap.get?_none_of_le (Ya9 I.ok.above)
def cU.stkSub(I:Y4):∀b∈frs X.stack,b∈X.env.locals::X.fs:=λb a=>by
 rcases I.ok.stk with e | ⟨e,c⟩
 ·rw[e]at a;exact bD _ a
 ·rw[e]at a;unfold frs at a;rw[List.filterMap_cons,c]at a;exact a
def cU.stkFree(I:Y4):∀b∈frs X.stack,H b=none:=λb a=>by
 rcases bN.mp (Yhe a)with e | a
 ·rw[e];exact I.free
 ·obtain⟨_,o,c,_⟩:=I.ok.funs.mem a;exact Yee o c (I.ok.frf b a) (λz=>I.ok.exfs b z a)
def cU.step{g':Array GenState}{t':Nat}{d':Drawn}{ch:Y0m}(I:Y4)
  (hch:∀b∈ch,(YeR b\/Y8f b)/\Y9o/\(∀x c,Y3m->c≠b)/\∀p∈X.pn++pins,p.1≠b)
  (keep:Y0W Y9o (b ∉ X.fs->b ∉ ch->Y3g->H b=none->Y0T=Y9))
  (slot:Y0W Y9o (b∈X.fs->b ∉ ch->Y3g->H b=none->∃sl,Y0T=some { o with slots:=sl })) (free:Y0W (b ∉ ch) (Y3g->H b=none->Y1p=none))
  (there:Y0W (b ∉ ch) (Y3g->∃o',Y0T=some o'))
  (tups:∀b xs,H b=Y11->Y1p=Y11) (frzs:∀b o u,H b=Yaa o u->Y1p=Yaa o u) (tbls:∀b ps,H b=YgO ps->∃more,Y1p=YgO (ps++more))
  (ns:∀m,s.heap.Ns X.env.locals m->h'.Ns X.env.locals m) (hok:Ydk H' h') (hg:AllBare g') :
  Y4m H' ({ s with heap:=h',gens:=g',drawn:=d',toks:=t' }):=by
 have neL:Y0W (Yg6 b Y9) Y9o:=λb o e=>dN (aO (Y18) I.ok.above);have y:Y0W (Yg6 b Y9) (b ∉ X.ex->b ∉ ch):=λb o e a A=>by
  rcases(hch b A).1 with z | z
  ·exact a z
  ·exact absurd (aO Y18 z) (bS _)
 have g:∀x c,Y3m->∀v,s.heap.IsCell c v->h'.IsCell c v:=λx c e v ⟨o,B,hd⟩=>by
  have h:c ∉ ch:=λz=>(hch c z).2.2.1 x c e rfl;by_cases hc:Y1T X.fs
  ·obtain⟨sl,q⟩:=slot c o (I.cne x c e) hc h B (Y8E x e);exact Y0C q hd
  ·exact Y3c (keep c o (I.cne x c e) hc h B (Y8E x e)) hd
 refine⟨I.ok,I.os,hg,⟨λb o e n A a=>?_,λb o e n A a=>?_,λb o e n a=>?_,λb o e a=>?_,λb xs e=>tups b xs (I.base.tups b xs e),λb o xs e=>frzs b o xs (I.base.frzs b o xs e),λb ps e=>?_⟩,?_,λx c e=>?_,?_,λx c e=>?_,λp J=>?_,hok,I.len⟩
 ·exact keep b o (neL b o e) A (y b o e a) (Yhy o e n A a) (Yee o e n a)
 ·obtain⟨sl,j⟩:=Yhz b e n A a;obtain⟨D,C⟩:=slot b _ (neL b o e) A (y b o e a) j (Yee o e n a);exact⟨D,C⟩
 ·obtain⟨o',j⟩:=YgJ o e a;exact free b o' (y b o e a) j (Yee o e n a)
 ·obtain⟨o',j⟩:=YgJ o e a;exact there b o' (y b o e a) j
 ·obtain⟨m1,j⟩:=I.base.tbls b ps e;obtain⟨L,C⟩:=tbls b _ j;exact⟨m1++L,by rw[C,Array.append_assoc]⟩
 ·obtain⟨m,N,M⟩:=I.loc;refine⟨m,ns m N,λi x v j C O=>?_⟩;obtain⟨u,r,l⟩:=M i x v j C O;refine Y0n u r;rcases l with l | ⟨k,c,e,z⟩
  ·exact .inl l
  ·exact .inr ⟨k,c,e,g x c e _ z⟩
 ·obtain⟨v,z⟩:=YbV x e;exact⟨v,g x c e v z⟩
 ·obtain⟨m,⟨o,_,_,B,_⟩,_⟩:=I.loc;exact free _ o (λz=>(hch _ z).2.1 rfl) B I.free
 ·obtain⟨v,o,B,hd⟩:=YbV x e;exact free c o (λz=>(hch c z).2.2.1 x c e rfl) B (Y8E x e)
 ·obtain⟨e,n,ne,G,d⟩:=Y8Q J;have h:p.1 ∉ ch:=λz=>(hch p.1 z).2.2.2 p J rfl;exact⟨keep p.1 p.2 ne G h e n,free p.1 p.2 h e n,ne,G,d⟩
def cU.un{t':Nat}(I:Y4)(u:Un X.fs [] H H' s.heap h')(hok:Ydk H' h'):Y4m H' ({ s with heap:=h',toks:=t' }):=by
 obtain⟨m,⟨o,p,A,h,r⟩,_⟩:=id I.loc;obtain⟨sl,l⟩:=u.any h I.free (by simp);exact I.step (g':=s.gens) (d':=s.drawn) (ch:=[]) (λ_ z=>nomatch z) (λb o _ d _ e n=>u.keep b o e n d (by simp)) (λb o _ d _ e n=>u.slot b o e n d (by simp)) (λb o _ e n=>u.free b o e n (by simp)) (λb o _ e=>u.there b o e (by simp)) u.tups u.frzs u.tbls (λB j=>by
  obtain⟨y,c,g,a,i⟩:=j;rw[h]at a;cases a;exact⟨_,c,g,l,i⟩) hok I.bare
def cU.call{g':Array GenState}{t':Nat}{d':Drawn}{ch:Y0m}(I:Y4)(u:Un (frs X.stack) ch H H' s.heap h')(hok:Ydk H' h')(hg:AllBare g')
  (hch:∀b∈ch,(YeR b\/Y8f b)/\Y9o/\(∀x c,Y3m->c≠b)/\∀p∈X.pn++pins,p.1≠b) :
  Y4m H' ({ s with heap:=h',gens:=g',drawn:=d',toks:=t' }):=by
 obtain⟨m,⟨o,B,D,j,r⟩,_⟩:=id I.loc;obtain⟨sl,h⟩:=u.any j I.free λz=>(hch _ z).2.1 rfl;exact I.step (ch:=ch) hch (λb o h y a e n=>u.keep b o e n (λz=>(bN.mp (I.stkSub b z)).elim h y) a) (λb o _ _ a e n=>u.any e n a) (λb o a e n=>u.free b o e n a) (λb o a e=>u.there b o e a) u.tups u.frzs u.tbls (λG A=>by
  obtain⟨C,g,i,d,l⟩:=A;rw[j]at d;cases d;exact⟨_,g,i,h,l⟩) hok hg
def cU.turned{t':Nat}{it:Addr}(I:Y4)(k:Y0W (b≠it) (Y3g->Y0T=Y9))(hn:H it=none)(hL:Y9M it)
  (h1:YeR it\/Y8f it) (h2:∀x c,Y3m->c≠it) (h3:∀p∈X.pn++pins,p.1≠it):Y4n ({ s with heap:=h',toks:=t' }):=by
 have d:∀b u,H b=Yl->b≠it:=λb u e z=>by rw[z,hn]at e;cases e
 refine I.step (g':=s.gens) (d':=s.drawn) (ch:=[it]) (YkA) (λb o _ _ a e _=>k b o (λz=>a (by simp[z])) e) (λb o _ _ a e _=>⟨o.slots,k b o (λz=>a (by simp[z])) e⟩) (λ_ _ _ _ n=>n)
  (λb o a e=>⟨o,k b o (λz=>a (by simp[z])) e⟩) (Yk5) (λ_ _ _ e=>e) (λb w e=>⟨#[],by rw[e];simp⟩) (λm l=>?_) (λb u e=>?_) I.bare
 ·have e:b=it:=by simpa using g
  subst e;exact⟨h1,hL,h2,h3⟩
 ·obtain⟨o,i,j,h,r⟩:=l;exact⟨o,i,j,k _ o (Ne.symm hL) h,r⟩
 ·refine(I.hok b u e).stay (λc v a q=>k c v ?_ q) (Yeo) Ya4;rcases a with z | z
  ·rw[z];exact d b u e
  ·exact d c _ z
def cU.tok(I:Y4)(t:Nat):Y4n ({ s with toks:=t }):=I.un (h':=s.heap) (t':=t) Un.refl I.hok
theorem cU.kept{t':Nat}(I:Y4)(k:∀b u,Ydl b Yl->Y0T=Yl):Y4n ({ s with heap:=h',toks:=t' }):=I.un (Un.kept k) (I.hok.kept k)
theorem cU.laid{a:Addr}{o:HO}{t':Nat}(I:Y4)(k:∀b u,Ydl b Yl->Y0T=Yl)(hp:YiY a)(new:hV X.prog X.w (Y4J o) h' a o) :
  Y4m (Y4J o) ({ s with heap:=h',toks:=t' }):=I.un (Un.laid k hp (I.hok.fresh hp)) (I.hok.laid k hp new)
theorem cU.write{x e:Addr}{o:HO}{t':Nat}(I:Y4)(mu:Mut (H x))(he:e=x\/H e=Y77 x)(k:∀b u,b≠e->Ydl b Yl->Y0T=Yl)(heo:∃u,Y8p e Yl)
  (new:hV X.prog X.w (Y3B x o) h' x o):Y4m (Y3B x o) ({ s with heap:=h',toks:=t' }):=I.un (Un.write mu he k heo) (I.hok.write mu he k heo new)
def cU.pins_of{pins':Ad}(I:Y4)(h:∀p∈pins',Y1u p.1 p.2/\H p.1=none/\Y9M p.1/\p.1 ∉ X.fs/\∀v,p.2.data ≠ .cell v):Y4T pins' s :=
 ⟨I.ok,I.os,I.bare,I.base,I.loc,I.cell,I.free,I.freeC,λp a=>(dJ.mp a).elim (λz=>Y8Q (cO _ z)) (h p),I.hok,I.len⟩
def JL{N:Ah}(hN:N.Nodup){i j:Nat}{x:Str}(a:N[i]?=Yb)(b:N[j]?=Yb):i=j:=by
 obtain⟨e,d⟩:=Y8M;obtain⟨g,c⟩:=aB.mp b;exact(List.getElem_inj hN).mp (d.trans c.symm)
def yB{M:Model}{A:Around}{E:Yc}{i:Nat}{x:Str}{v:V}{u:Value}{Q:Ycy}(I:Y4)(hN:X.N.Nodup)(hi:Y2G=Yb)(hx:Y9Y x)(r:Y3o)
  (h:∀s',cU X pins (YdU i) H s'->(∃a,Ybu a s'.heap/\(a=X.env.locals\/(X.env.cells.lookup x)=Y7p))->Q () s') (hf:Y7r=true\/Y7X:=by first | exact .inl rfl | exact .inr rfl | assumption):wpAny M A (storeName X.env x u) Q E s:=by
 obtain⟨m,θ,ν⟩:=id I.loc;have T:Yw (Yi3 .class || (Yi3 .module&&X.env.locals != X.env.globals)):=by rw[I.ok.kind];rfl
 have U:i<σ.length:=by rw[I.len];exact(YeF).1
 have cne:=I.cne;have B:∀{a:Addr} {P:Heap},(∃o,Ybk a/\H a=none)->Ybu a P->Ydk H P:=λ{a P} τ g b χ e=>by
  obtain⟨_,_,D⟩:=τ;refine(I.hok b χ e).stay (λc Y C q=>(g.2 c ?_).trans q) (Yeo) Ya4;rintro rfl;rcases C with rfl | C
  ·rw[D]at e;cases e
  ·rw[D]at C;cases C
 rcases hx with J | J
 ·refine wpAny_storeName_local J θ (λP γ g=>?_) T;obtain⟨ο,_,_,κ,_⟩:=id θ;refine h _ ⟨I.ok,I.os,I.bare,⟨YfI,YfI,I.base.free,λb o e hx=>?_,I.base.tups,I.base.frzs,I.base.tbls⟩,Y0C γ (λj y η l G ι=>?_),λy c e=>?_,I.free,I.freeC,λp δ=>?_,B ⟨ο,κ,I.free⟩ g,by simpa using I.len⟩ (Y0C g Y36)
  ·exact(g.2 b (dN (aO (aZ e) I.ok.above))).trans (Yhy o e n L hx)
  ·obtain⟨sl,l⟩:=Yhz b e n L hx;exact⟨sl,(g.2 b (dN (aO (aZ e) I.ok.above))).trans l⟩
  ·obtain⟨ζ,l⟩:=YgJ o e hx;exact⟨ζ,(g.2 b (dN (aO (aZ e) I.ok.above))).trans l⟩
  ·by_cases hj:j=i
   ·subst hj;rw[hi]at l;cases l;rw[List.getElem?_set_self U]at G;cases G;exact⟨u,r,Y38 J (by simp)⟩
   ·rw[List.getElem?_set_ne (Ne.symm hj)]at G;obtain⟨ε,α,q⟩:=ν j y η l G ι;refine Y0n ε α;rcases q with⟨k,e⟩ | ⟨k,c,e,z⟩
    ·refine .inl (Y0j k);have:y≠x:=λe=>hj (JL hN l (e ▸ hi));simp[this,e]
    ·exact .inr ⟨k,c,e,z.sameBut g (cne y c e)⟩
  ·obtain⟨Y,z⟩:=YbV y e;exact⟨Y,z.sameBut g (cne y c e)⟩
  ·obtain⟨e,n,ne,β,d⟩:=Y8Q δ;exact⟨(g.2 p.1 ne).trans e,n,ne,β,d⟩
 ·have O:Y7r=true:=by
   rcases hf with z | z
   ·exact z
   ·rw[z]at J;cases J
  obtain⟨c,C⟩:=I.ok.has x (.inl J);obtain⟨Y,z⟩:=YbV x C;refine wpAny_storeName_cell I.ok.kind J C z (λP S g=>?_);obtain⟨μ,W,R⟩:=id z;refine h { s with heap:=P } ⟨I.ok,I.os,I.bare,⟨YfI,YfI,I.base.free,λb o e hx=>?_,I.base.tups,I.base.frzs,I.base.tbls⟩,⟨m,θ.sameBut g (Ne.symm (cne x c C)),λj y η l G ι=>?_⟩,λy Z e=>?_,I.free,I.freeC,λp δ=>?_,B ⟨μ,W,Y8E x C⟩ g,by simpa using I.len⟩ (YeQ c g C)
  ·exact(g.2 b (dN (aO (aZ e) (I.ok.cab x c O C)))).trans (Yhy o e n L hx)
  ·obtain⟨sl,l⟩:=Yhz b e n L hx;exact⟨sl,(g.2 b (dN (aO (aZ e) (I.ok.cab x c O C)))).trans l⟩
  ·obtain⟨ζ,l⟩:=YgJ o e hx;exact⟨ζ,(g.2 b (dN (aO (aZ e) (I.ok.cab x c O C)))).trans l⟩
  ·by_cases hj:j=i
   ·subst hj;rw[hi]at l;cases l;rw[List.getElem?_set_self U]at G;cases G;exact YeQ u r ⟨.inl J,c,C,S⟩
   ·rw[List.getElem?_set_ne (Ne.symm hj)]at G;obtain⟨ε,α,q⟩:=ν j y η l G ι;refine Y0n ε α;rcases q with q | ⟨k,Z,e,ρ⟩
    ·exact .inl q
    ·refine .inr ⟨k,Z,e,ρ.sameBut g ?_⟩;rintro rfl;exact hj (JL hN l (I.ok.inj _ _ _ e C ▸ hi))
  ·by_cases hcc:Z=c
   ·subst hcc;exact Y2T S
   ·obtain⟨φ,ξ⟩:=I.cell y Z e;exact⟨φ,ξ.sameBut g hcc⟩
  ·obtain⟨e,n,ne,β,d⟩:=Y8Q δ;refine⟨(g.2 p.1 ?_).trans e,n,ne,β,d⟩;intro q;rw[q,W]at e;have υ:μ=p.2:=fX e;exact d Y (by rw[<-υ];exact R)
def qQ{M:Model}{A:Around}{E:Yc}{i:Nat}{x:Str}{v:V}{u:Value}{Q:Ycy}(I:Y4)(hN:X.N.Nodup)(hi:Y2G=Yb)(hx:Y9Y x)(r:Y3o)
  (h:∀s',cU X pins (YdU i) H s'->Q () s') (hf:Y7r=true\/Y7X:=by first | exact .inl rfl | exact .inr rfl | assumption):wpAny M A (storeName X.env x u) Q E s :=
 yB I hN hi hx r (λs' I' _=>h s' I') hf
def cU.call'{s':Shared}{ch:Y0m}(I:Y4)(ho:s'.os=s.os)(u:Un (frs X.stack) ch H H' s.heap s'.heap)(hok:Ydk H' s'.heap)(hg:YdI)
  (hch:∀b∈ch,(YeR b\/Y8f b)/\Y9o/\(∀x c,Y3m->c≠b)/\∀p∈X.pn++pins,p.1≠b):Y93:=by
 obtain⟨d,g',d',t',a⟩:=s';have e:a=s.os:=ho;subst e;exact I.call (g':=g') (t':=t') (d':=d') u hok hg hch
end
abbrev XK:=Y8j (Y2N->(Y2d Hp))
abbrev St:=Yfq V
abbrev _root_.Am:=Option V
abbrev _root_.Al:=Y6j
abbrev VK:=Y3K
abbrev TE:=St->(Hp->(Y2d VK))
abbrev TT:=St->Y13 Hp Yct
abbrev TA:=St->Y13 Hp (Al->(Y2d Hp))
structure qL where
 nx:Y1I
 rt:VK
 bk:Y1I:=YdQ
 ct:Y1I:=YdQ
abbrev TS:=qL->Y1I
def EP(X:Cx)(pins:Ad)(σ:St)(Q:VK)(u:Value)(s':Shared):Prop:=∃v H',Y93/\Y3o/\Y1o
def TP(X:Cx)(pins:Ad)(σ:St)(Q:Yct)(b:Bool)(s':Shared):Prop:=∃H',Y93/\Q b H'
def AP(X:Cx)(pins:Ad)(σ:St)(Q:Al->(Y2d Hp))(us:Ag)(s':Shared):Prop:=∃vs H',Y93/\Y92/\Q vs H'
def SP(X:Cx)(pins:Ad)(D:qL)(f:Flow)(s':Shared):Prop :=
 match f with
 | .next=>∃σ' H',cU X pins σ' H' s'/\D.nx σ' H'
 | .brk=>∃σ' H',cU X pins σ' H' s'/\D.bk σ' H'
 | .cont=>∃σ' H',cU X pins σ' H' s'/\D.ct σ' H'
 | .ret u=>∃v σ' H',cU X pins σ' H' s'/\fI v u/\D.rt v H'
def PE(X:Cx)(e:Expr)(t:TE):Prop :=
 ∀(pins:Ad) (s:Shared) (σ:St) (H:Hp) (Q:VK),Y4->t σ H Q->Y6B Y12 X Q
def PT(X:Cx)(e:Expr)(t:TT):Prop :=
 ∀(pins:Ad) (s:Shared) (σ:St) (H:Hp) (Q:Yct),Y4->t σ H Q->Y3Z (isTrue e X.env (Y12)) (TP X pins σ Q)
def PW(X:Cx)(e:Expr)(t:TT):Prop :=
 ∀(whole:Sem Value) (pins:Ad) (s:Shared) (σ:St) (H:Hp) (Q:Yct),Y4->t σ H Q->Y3Z (isTrue e X.env whole) (TP X pins σ Q)
def PW.pt{X:Cx}{e:Expr}{t:TT}(h:PW X e t):PT X e t:=h _
def PA(X:Cx)(es:Y0b)(t:TA):Prop :=
 ∀(pos:Pos) (pins:Ad) (s:Shared) (σ:St) (H:Hp) (Q:Al->(Y2d Hp)),Y4->t σ H Q->Y3Z (spliced (backTo pos (Y2z))) (AP X pins σ Q)
def PS(X:Cx)(st:Stmt)(t:TS):Prop :=
 ∀(pins:Ad) (s:Shared) (σ:St) (H:Hp) (D:qL),Y4->t D σ H->Y3Z (exec st X.env) (SP X pins D)
def OC(X:Cx)(st:Y4w)(t:TS):Prop :=
 ∀(pins:Ad) (s:Shared) (σ:St) (H:Hp) (D:qL),Y4->t D σ H->Y3Z (execs st X.env) (SP X pins D)
def thn{α:Type}{t:Sem α}{Q Q':α->(Y2d Shared)}{M:Model}{A:Around}{E:Yc}{s:Shared}(h:wpAny M A t Q E s)(hQ:∀a s,Q a s->Q' a s):wpAny M A t Q' E s:=YfO h hQ x
section
variable{X:Cx}
def VU(i:Nat):TE:=λσ H Q=>∃v,σ[i]?=Y8v/\Q v H
def tC(v:V):TE:=Yhf v H
def aEL{i:Nat}{x:Str}{pos:Pos}(hN:Y2G=Yb)(hv:Yg7 x)(hd:Y1m ("__debug__" : Str):=by decide)(hcd:Y1m ("__classdict__" : Str):=by decide):Y08 Y7l (VU i):=by
 intro j s σ H Q I h;obtain⟨v,e,h⟩:=h;obtain⟨m,w,p⟩:=I.loc;obtain⟨u,r,l⟩:=p i x v hN e hv;have d:EP X j σ Q u s:=⟨v,H,I,r,h⟩;rcases l with⟨g,y⟩ | ⟨g,c,n,a⟩
 ·exact YjY (wpAny_loadName_local I.ok.kind g w y d)
 ·rcases g with g | g
  ·exact YjY (wpAny_loadName_cell I.ok.kind g n a d)
  ·exact YjY (wpAny_loadName_free I.ok.kind g n a d hcd)
def pe_int{i j pos}:Y08 (Y8r Y17 j) (tC Y17):=λ_ _ _ H _ I h=>wpAny_Constant_int ⟨Y17,H,I.tok _,Y5P _,h⟩
def pe_bl{b j pos}:Y08 (Y8r (.bool b) j) (tC (.bl b)):=λ_ _ _ H _ I h=>Constant_bool (Y0E (.bl b) H I h)
def pe_non{j pos}:Y08 (Y8r .none j) (tC .non):=λ_ _ _ H _ I h=>Constant_none (Y0E .non H I h)
def pe_str{x j pos}:Y08 (Y8r YaP j) (tC YaP):=λ_ _ _ H _ I h=>Calls.Constant_str ⟨YaP,H,I.tok _,Y5P _,h⟩
def Gl(X:Cx)(x:Str):Prop:=Y9W x (some .globalImplicit)
def HG{E:Yc}{pins:Ad}{s:Shared}{σ:St}{H:Hp}{x:Str}{u:Value}{pos:Pos}{Q:Yc}(I:Y4)(hg:Y2J)(hm:Y5i=Yl)(h:Q u s)
  (hd:Y1m ("__debug__" : Str):=by decide):Y8g (Y1a Y7l) Q E s :=
 Calls.Name_function_global I.ok.kind hg (Calls.loadGlobal_global (by rw[I.ok.glob];exact Yin) hm h) hd
def vW{E:Yc}{pins:Ad}{s:Shared}{σ:St}{H:Hp}{x:Str}{u:Value}{pos:Pos}{Q:Yc}(I:Y4)(hg:Y2J)(hm:Y5i=none)(hv:Y9Z=Yl)(h:Q u s)
  (hn:x ≠ "__name__" := by decide) (hd:Y1m ("__debug__" : Str):=by decide):Y8g (Y1a Y7l) Q E s:=by
 obtain⟨d,a,c⟩:=I.mod.blt;exact Calls.Name_function_global I.ok.kind hg (Calls.loadGlobal_builtin (by rw[I.ok.glob];exact Yin) hm (by rw[I.ok.blt];exact a.keeps I.bk) ((c x hn).trans hv) h) hd
def aBq{x:Str}{v:V}{u:Value}{pos:Pos}(hg:Y2J)(hm:Y5i=Yl)(r:Y3o)(hd:Y1m ("__debug__" : Str):=by decide):Y08 Y7l (tC v) :=
 λ_ _ _ H _ I h=>HG I hg hm ⟨v,H,I,r,h⟩ hd
variable{a b:Expr}{ta tb:TE}{pos:Pos}
def tB(t:TE):TT:=λσ H Q=>t σ H (λx H1=>∃c,x=.bl c/\Q c H1)
def aEx{e:Expr}{t:TE}(h:Y08 e t)(he:∀whole,isTrue e X.env whole=(do let v <-whole;standAt e.pos;holding [v] (truthy v)):=by intro _;rfl):PT X e (tB t):=by
 intro a s σ H Q I i;refine isTrue_plain (thn (h a s σ H _ I i) λv j ⟨x,H1,I1,c,g⟩=>?_) (he _);obtain⟨d,rfl,q⟩:=g;cases c;exact wpAny_truthy_bool ⟨H1,I1,q⟩
variable{tA tB':TT}{rest:Y0b}
def aGe(t u:TT):TT:=Yhs (if c=true then u σ H1 Q else Q false H1)
def tOr(t u:TT):TT:=Yhs (if c=true then Q true H1 else u σ H1 Q)
def aF7(t:TT):TT:=Yhs (Q (! c) H1)
def aBe(ha:PT X a tA):PW X (YbS [a]) tA:=by
 intro i d s σ H Q I h;refine isTrue_and (thn (ha d s σ H Q I h) (λc g e=>?_));cases c with
 | true=>exact isTrue_and_nil e
 | false=>exact e
def aEu(ha:PT X a tA):PW X (YcP [a]) tA:=by
 intro i d s σ H Q I h;refine isTrue_or (thn (ha d s σ H Q I h) (λc g e=>?_));cases c with
 | false=>exact isTrue_or_nil e
 | true=>exact e
def aEv(ha:PT X a tA)(hb:PW X (YbS Y8Z) tB'):PW X (YbS (a::Y8Z)) (aGe tA tB'):=by
 intro i d s σ H Q I h;refine isTrue_and (thn (ha d s σ H _ I h) (λc g ⟨H1,I1,e⟩=>?_));cases c with
 | true=>exact hb i d g σ H1 Q I1 e
 | false=>exact⟨H1,I1,e⟩
def aGq(ha:PT X a tA)(hb:PW X (YcP Y8Z) tB'):PW X (YcP (a::Y8Z)) (tOr tA tB'):=by
 intro i d s σ H Q I h;refine isTrue_or (thn (ha d s σ H _ I h) (λc g ⟨H1,I1,e⟩=>?_));cases c with
 | true=>exact⟨H1,I1,e⟩
 | false=>exact hb i d g σ H1 Q I1 e
def aEy(ha:PT X a tA):PT X (YbW .Not a) (aF7 tA):=by
 intro d s σ H Q I h;exact isTrue_not (ha d s σ H (λc H1=>Q (! c) H1) I h)
def WC(ta tb:TE):TE:=Yal σ H (∃c,x=.bl c/\if c=true then tb σ H1 Q else Q (.bl false) H1)
def aCD(ta:TE):TE:=Yal σ H (∃c,x=.bl c/\Q (.bl (! c)) H1)
def aEN{op}{t:TE}(h:Y08 a t):Y08 (Yfj op [a]) t:=λc s σ H Q I d=>BoolOp_one (h c s σ H Q I d)
def aER(ha:Y80)(hb:Yb7 (YbS Y8Z)):Y08 (YbS (a::Y8Z)) (WC ta tb):=by
 intro d s σ H Q I h;refine BoolOp_and (thn (ha d s σ H _ I h) (λv g ⟨x,H1,I1,i,e⟩=>?_));obtain⟨c,rfl,e⟩:=e;cases i;refine wpAny_truthy_bool ?_;cases c with
 | true=>exact hb d g σ H1 Q I1 e
 | false=>exact Y0E (.bl false) H1 I1 e
def aEO(ha:Y80):Y08 (YbW .Not a) (aCD ta):=by
 intro d s σ H Q I h;refine UnaryOp_ (thn (ha d s σ H _ I h) (λv i ⟨x,H1,I1,g,e⟩=>?_));obtain⟨c,rfl,e⟩:=e;cases g;exact not_of (wpAny_truthy_bool (Y0E (.bl (! c)) H1 I1 e))
def tIf(t:TT)(ta tb:TE):TE:=Yhs (if c=true then ta σ H1 Q else tb σ H1 Q)
def XN{c:Expr}(hc:PT X c tA)(ha:Y80)(hb:Yb7 b):Y08 (.IfExp c a b pos) (tIf tA ta tb):=by
 intro e s σ H Q I h;refine wpAny_IfExp (thn (hc e s σ H _ I h) λd g ⟨H1,I1,i⟩=>?_);cases d with
 | true=>exact ha e g σ H1 Q I1 i
 | false=>exact hb e g σ H1 Q I1 i
end
def gJ(K:Aa)(H:Hp)(a:Addr)(xs:Al):Prop :=
 Rd H a (.lst xs) \/
  ∃(o:Obj) (its:Ai) (n:Nat),Yef=Y9/\o.cls=.type "list" /\ o.dict=none/\o.data=.seq its n/\Y0z its.size/\eI xs its.toList
def jV(K:Aa)(H:Hp)(a:Addr)(xs:Al):Prop :=
 Rd H a (.tup xs) \/
  ∃(o:Obj) (its:Ai) (n:Nat),Yef=Y9/\o.cls=.type "tuple" /\ o.data=.seq its n/\Y0z its.size/\eI xs its.toList
def aJy:Y8j Am
 | .none=>some .non
 | .bool b=>some (.bl b)
 | .int i _=>some (.int i)
 | .str x _=>some (.str x)
 | .bytes b _=>some (.byt b)
 | .float b _=>some (.flt b)
 | .ref a=>some (.ref a)
 | .type n=>some (.ty n)
 | _=>none
def fI.abs{x:V}{u:Value}(r:Y9w):aJy u=Yb:=by
 cases x with
 | non=>cases r;rfl
 | bl _=>cases r;rfl
 | int _=>obtain⟨t,rfl⟩:=r;rfl
 | str _=>obtain⟨t,rfl⟩:=r;rfl
 | byt _=>obtain⟨t,rfl⟩:=r;rfl
 | flt _=>obtain⟨t,rfl⟩:=r;rfl
 | ref _=>cases r;rfl
 | ty _=>cases r;rfl
def fI.inj{x y:V}{u:Value}(r:Y9w)(q:Y2W):x=y:=fX (r.abs.symm.trans q.abs)
theorem eI.inj:∀{xs ys:Al}{us:Ag},Y4I->Y4x ys->xs=ys
 | _,_,_,.nil,.nil=>rfl
 | _,_,_,.cons r t,.cons r' t'=>by rw[r.inj r',eI.inj t t']
section
variable{X:Cx}{pins:Ad}{σ:St}{H:Hp}{s:Shared}{a:Addr}{xs ys:Al}
def gJ.of{K:Aa}(h:H a=Y0A):Y6H:=Ye4 h
def jV.of{K:Aa}(h:H a=Y11):Y6G:=Ye4 h
def cU.list(I:Y4)(h:gJ X.K H a xs):∃its:Ag,YaY xs/\PlainL s.heap a its.toArray/\Y4o:=by
 rcases h with h | ⟨o,its,n,d,g,hd,c,i,r⟩
 ·obtain⟨z,its,n,r,e⟩:=h.ok I.hok;exact⟨its,r,Y68 _ n e rfl rfl,z⟩
 ·refine Y1R its.toList r ⟨o,n,I.kIn a o d,g,hd,by simpa using c⟩;have e:=r.length;simp only[Array.length_toList]at e;exact Oo
def cU.tuple(I:Y4)(h:jV X.K H a xs):∃its:Ag,YaY xs/\Ye6 a its.toArray/\Y4o:=by
 rcases h with h | ⟨o,its,n,d,g,c,i,r⟩
 ·obtain⟨⟨z,_⟩,its,r,p⟩:=h.ok I.hok;exact⟨its,r,p,z⟩
 ·refine Y1R its.toList r ⟨o,I.kIn a o d,g,n,by simpa using c⟩;have e:=r.length;simp only[Array.length_toList]at e;exact Oo
def cU.list_inj(I:Y4)(h:gJ X.K H a xs)(h':gJ X.K H a ys):xs=ys:=by
 obtain⟨g,r,⟨o,n,e,_,_,d⟩,_⟩:=I.list h;obtain⟨c,l,⟨p,m,j,_,_,i⟩,_⟩:=I.list h';rw[e]at j;cases j;rw[d]at i;injection i with d1 _;have:g=c:=by simpa using congrArg Array.toList d1
 subst this;exact r.inj l
def cU.tuple_inj(I:Y4)(h:jV X.K H a xs)(h':jV X.K H a ys):xs=ys:=by
 obtain⟨g,r,⟨o,e,_,n,d⟩,_⟩:=I.tuple h;obtain⟨c,l,⟨p,j,_,m,i⟩,_⟩:=I.tuple h';rw[e]at j;cases j;rw[d]at i;injection i with d1 _;have:g=c:=by simpa using congrArg Array.toList d1
 subst this;exact r.inj l
end
abbrev Cx.wish(X:Cx)(E:Yc):Cx:={ X with xe:=E }
abbrev Cx.nox(X:Cx):Cx:=X.wish YdQ
theorem Cx.Ok.wish{X:Cx}(ok:X.Ok)(E:Yc):(YeG).Ok :=
 ⟨ok.mod,ok.kind,ok.glob,ok.blt,ok.above,ok.inj,ok.has,ok.cab,ok.hd,ok.frames,ok.stk,ok.exf,ok.bs,ok.bsz,ok.noex,ok.exfs,ok.funs,ok.frf⟩
def Cx.Ok.unwish{X:Cx}{E:Yc}(ok:(YeG).Ok):X.Ok :=
 ⟨ok.mod,ok.kind,ok.glob,ok.blt,ok.above,ok.inj,ok.has,ok.cab,ok.hd,ok.frames,ok.stk,ok.exf,ok.bs,ok.bsz,ok.noex,ok.exfs,ok.funs,ok.frf⟩
section
variable{X:Cx}{pins:Ad}{σ:St}{H:Hp}{s:Shared}{E:Yc}
theorem cU.wish(I:Y4)(E:Yc):cU YeG pins σ H s:=⟨I.ok.wish E,I.os,I.bare,I.base,I.loc,I.cell,I.free,I.freeC,I.pin,I.hok,I.len⟩
theorem cU.unwish(I:cU YeG pins σ H s):Y4:=⟨I.ok.unwish,I.os,I.bare,I.base,I.loc,I.cell,I.free,I.freeC,I.pin,I.hok,I.len⟩
theorem SP.unwish{D:qL}{f:Flow}{s':Shared}(h:SP (YeG) pins D f s'):SP X pins D f s':=by
 cases f with
 | next=>obtain⟨a,H',I,q⟩:=h;exact Yde a I.unwish q
 | brk=>obtain⟨a,H',I,q⟩:=h;exact Yde a I.unwish q
 | cont=>obtain⟨a,H',I,q⟩:=h;exact Yde a I.unwish q
 | ret u=>obtain⟨v,a,H',I,r,q⟩:=h;exact⟨v,a,H',I.unwish,r,q⟩
theorem OC.nox{st:Y4w}{t:TS}(h:OC X.nox st t):OC X st t:=λa s σ H D I c =>
 wpAny_mono (h a s σ H D (I.wish _) c) (λ_ _ q=>q.unwish) λ_ _ z=>False.elim z
end
section
variable{X:Cx}{st:Stmt}{rest:Y4w}{t u:TS}{e:Expr}{te:TE}{pos:Pos}
def aCE:TS:=λD σ H=>Y3l
def aAN(t u:TS):TS:=λD σ H=>t { D with nx:=u D } σ H
def pss_nil:OC X [] aCE:=λ_ _ σ H _ I h=>Yj4 σ H I h
def XC(h1:PS X st t)(h2:OC X rest u):OC X (st :: rest) (aAN t u):=by
 intro a s σ H D I h;refine wpAny_execs_cons (thn (h1 a s σ H { D with nx:=u D } I h) λf c q=>?_);cases f with
 | next =>
  obtain⟨d,H',I',q⟩:=q;exact h2 a c d H' D I' q
 | ret v=>exact q
 | brk=>exact q
 | cont=>exact q
def aBh(h1:PS X st t):OC X [st] t:=by
 intro a s σ H D I h;refine wpAny_execs_cons (thn (h1 a s σ H D I h) λf c q=>?_);cases f with
 | next=>exact wpAny_execs_nil q
 | ret v=>exact q
 | brk=>exact q
 | cont=>exact q
def cU.quiet{pins:Ad}{σ:St}{H:Hp}{s:Shared}(I:Y4):Yw (interactive X.env):=by simp[interactive,I.ok.kind]
def aCH(te:TE):TS:=λD σ H=>te σ H λ_ H1=>Y8m H1
def aBi(he:YaW)(hs:swapsWith e none pos.line X.env=Y3v:=by rfl):PS X (.Expr e pos) (aCH te):=by
 intro a s σ H D I h;exact wpAny_Expr_any (thn (he a s σ H _ I h) λv d ⟨x,H1,I1,g,c⟩=>⟨σ,H1,I1,c⟩) I.quiet hs
def aF5(te:TE):TS:=λD σ H=>te σ H D.rt
def aEA(he:YaW):PS X (.Return (Y6k) pos) (aF5 te):=by
 intro a s σ H D I h;exact wpAny_Return_some (thn (he a s σ H _ I h) λv g ⟨x,H1,I1,c,d⟩=>⟨x,σ,H1,I1,c,d⟩)
def aF8(c:TT)(t u:TS):TS:=λD σ H=>c σ H λb H1=>if b=true then t D σ H1 else u D σ H1
def aGr{c:Expr}{a b:Y4w}{tc:TT}(hc:PT X c tc)(ha:OC X a t)(hb:OC X b u):PS X (.If c a b pos) (aF8 tc t u):=by
 intro e s σ H D I h;refine wpAny_If (thn (hc e s σ H _ I h) λd g ⟨H1,I1,i⟩=>?_);cases d with
 | true=>exact ha e g σ H1 D I1 i
 | false=>exact hb e g σ H1 D I1 i
end
abbrev TG:=V->St->Y13 Hp Y1I
abbrev TGs:=Al->St->Y13 Hp Y1I
def PG(X:Cx)(target:Expr)(t:TG):Prop :=
 ∀(pins:Ad) (s:Shared) (σ:St) (H:Hp) (v:V) (u:Value) (Q:Y1I),Y4->Y3o->t v σ H Q ->
  Y3Z (assign target X.env u) (λ_ s'=>∃σ' H',cU X pins σ' H' s'/\Q σ' H')
def PGs(X:Cx)(ts:Y0b)(t:TGs):Prop :=
 ∀(pins:Ad) (s:Shared) (σ:St) (H:Hp) (vs:Al) (us:Ag) (Q:Y1I),Y4->Y92->t vs σ H Q ->
  Y3Z (assignInOrder ((assignEach ts X.env).map (·.2)) us) (λ_ s'=>∃σ' H',cU X pins σ' H' s'/\Q σ' H')
abbrev aCt:=V->V->V->Y13 Hp (Y2d Hp)
def aFJ(X:Cx)(t:aCt):Prop :=
 ∀(pins:Ad) (s:Shared) (σ:St) (H:Hp) (o i v:V) (ov iv u:Value) (Q:Y2d Hp),Y4->fI o ov->fI i iv->Y3o->t o i v H Q ->
  Y3Z (setItem ov iv u) (λ_ s'=>∃H',Y93/\Q H')
section
variable{X:Cx}{pos:Pos}
def oK(i:Nat):TG:=λv σ H Q=>Q (YdU i) H
def aBn{i:Nat}{x:Str}(hN:X.N.Nodup)(hi:Y2G=Yb)(hx:Y9Y x)(hf:Y7r=true\/Y7X:=by first | exact .inl rfl | exact .inr rfl | assumption):PG X (Y7l) (oK i):=by
 intro a s σ H v u Q I r h;exact wpAny_assign_Name (qQ I hN hi hx r (λc I'=>⟨_,H,I',h⟩) hf)
def aFl:TGs:=λvs σ H Q=>vs=[]/\Q σ H
def YU(t:TG)(u:TGs):TGs:=λvs σ H Q=>∃v r,vs=v::r/\t v σ H λσ' H'=>u r σ' H' Q
def pgs_nil:PGs X [] aFl:=by
 intro a s σ H c d Q I r h;obtain⟨e,h⟩:=h;subst e;cases r;exact assignInOrder_nil ⟨σ,H,I,h⟩
def XL{e:Expr}{es:Y0b}{t:TG}{u:TGs}(h1:PG X e t)(h2:PGs X es u)
  (hs:(assignEach (e::es) X.env).map (·.2)=YbQ e::(assignEach es X.env).map (·.2):=by rfl):PGs X (e::es) (YU t u):=by
 intro a s σ H j l Q I r h;obtain⟨v,m,i,h⟩:=h;subst i;cases r with
 | cons r rr =>
  rw[hs];refine assignInOrder_cons (thn (h1 a s σ H _ _ _ I r h) λ_ c ⟨d,H1,I1,g⟩=>?_);exact h2 a c d H1 _ _ Q I1 rr g
def aFk(K:Aa)(n:Nat)(t:TGs):TG:=λv σ H Q=>∃a xs,v=Yf/\Y6G/\Y54 n/\t xs σ H Q
def aEJ{es:Y0b}{k:Nat}{t:TGs}{n:Nat}(hc:Y1d)(h:PGs X es t)
  (hn:(assignEach es X.env).length=n:=by rfl) (hst:(assignEach es X.env).findIdx? (·.1)=none:=by rfl):PG X (YhC es k) (aFk X.K n t):=by
 intro c s σ H v u Q I r d;obtain⟨a,w,p,j,m,d⟩:=d;subst p;cases r;obtain⟨i,rv,y,z⟩:=I.tuple j;refine assign_Tuple_tuple (Yab) y (by simp[hn,<-m,rv.length]) hst λg l=>?_;have I1:Y4T c ({ s with heap:=g }):=I.kept (t':=s.toks) λb o e=>l b o (dN (Y18)) e;exact h c _ σ H w _ Q I1 (by simpa using rv) d
def aGK(to ti:TE)(t:aCt):TG:=λv σ H Q=>to σ H λo H1=>ti σ H1 λi H2=>t o i v H2 λH3=>Q σ H3
def aEK{o i:Expr}{to ti:TE}{t:aCt}(ho:Y08 o to)(hi:Y08 i ti)(hs:aFJ X t)
  (ha:∀v,assign (.Subscript o i pos) X.env v=(do
   let ov <-holding [v] (eval o X.env)
   let iv <-holding [v,ov] (eval i X.env)
   standAt pos
   holding [v,ov,iv] (setItem ov iv v)
   release [v,ov,iv] []):=by intro _;rfl):PG X (Y73 o i) (aGK to ti t):=by
 intro a s σ H v u Q I r h;rw[ha];refine Yfs (thn (ho a s σ H _ I h) λov d ⟨x,H1,I1,l,g⟩=>?_);refine Yfs (thn (hi a d σ H1 _ I1 g) λiv j ⟨y,H2,I2,m,e⟩=>?_);refine Yds (Yfs (thn (hs a j σ H2 x y v ov iv u _ I2 l m r e) λ_ n ⟨H3,I3,c⟩=>?_));exact wpAny_release ⟨σ,H3,I3,c⟩
def DV(te:TE)(g:TG):TS:=λD σ H=>te σ H λx H1=>g x σ H1 D.nx
def aEF{tg e:Expr}{te:TE}{g:TG}(he:YaW)(hg:PG X tg g)(hs:YfJ [tg] e X.env=Y3v:=by rfl)(hw:YfQ [tg] e=pure none:=by rfl)
  (h1:(assignEach [tg] X.env).map (·.2)=[YbQ tg]:=by rfl):PS X (Ydx [tg] e) (DV te g):=by
 intro a s σ H D I h;refine wpAny_Assign_stores (thn (he a s σ H _ I h) λv c ⟨x,H1,I1,d,i⟩=>?_) hs hw;rw[h1];exact thn (hg a c σ H1 x v _ I1 d i) λ_ j q=>q
def aEz{i:Nat}{x:Str}{e:Expr}{te:TE}{pos':Pos}(hN:X.N.Nodup)(hi:Y2G=Yb)(hx:Y9Y x)(he:YaW)(hs:swapsWith e (some Ycs) pos.line X.env=Y3v:=by rfl)(hf:Y7r=true\/Y7X:=by first | exact .inl rfl | exact .inr rfl | assumption) :
  PS X (Ydx [Ycs] e) (DV te (oK i)):=by
 intro a s σ H D I h;refine wpAny_Assign_Name (thn (he a s σ H _ I h) λv g ⟨y,H1,I1,c,d⟩=>?_) hs;exact qQ I1 hN hi hx c (λj I2=>⟨_,H1,I2,d⟩) hf
def aF6(i j:Nat)(ta:TA):TS:=λD σ H=>ta σ H λvs H1=>∃v w,vs=[v,w]/\D.nx ((σ.set i (some v)).set j (some w)) H1
def aEB{i j:Nat}{x y:Str}{a b:Expr}{ta:TA}{px py pt:Pos}{kt k2 pt2}(hc:Y1d)(hN:X.N.Nodup)(hi:Y2G=Yb)(hj:X.N[j]?=Y03)(hij:i≠j)
  (hx:Y7X) (hy:YhX y Y35) (ha:PA X [a,b] ta)
  (hw:YfQ [Y9V [Y3z,Y3G] kt] (Yca [a,b] k2)=pure (some [x,y]))
  (hs:YfJ [Y9V [Y3z,Y3G] kt] (Yca [a,b] k2) X.env=Y3v:=by rfl) :
  PS X (Ydx [Y9V [Y3z,Y3G] kt] (Yca [a,b] k2)) (aF6 i j ta):=by
 intro c s σ H D I h;rw[exec_Assign_arm];refine Yds ?_;rw[hs];refine YaS;rw[Y20];refine wpAny_bind (Tuple_ (thn (ha _ c s σ H _ I h) λr d ⟨B,H1,I1,z,n⟩=>?_));obtain⟨v,w,u,n⟩:=n;subst u;obtain⟨u1,g,rfl,rv,m⟩:∃u1 g,r=[u1,g]/\fI v u1/\fI w g:=by
  cases z with
  | cons p q =>
   cases q with
   | cons p' q' =>
    cases q';exact Y3P _ p p'
 refine YiB (by show Y0z 2;decide);have I2:cU X c σ H1 ({ d with heap:=d.heap.push { cls:=.type "tuple",data:=.seq [u1,g].toArray } }):=Yhp Y2n;rw[hw];refine YaS;show wpAny (Y3U) X.A (do rule "assign.swapped-stores";let items <-unpackItems (.ref d.heap.objs.size) 2 none;assignInOrder [λv=>bindName X.env y v,λv=>bindName X.env x v] items.reverse;pure Flow.next) _ _ _;refine Ybo (wpAny_bind (unpackItems_tuple (items:=#[u1,g]) (Yab) (Ye7 d.heap) λh' l=>?_));have I3:=I2.kept (h':=h') (t':=d.toks) λb o e=>l b o (dN (Y18)) e;show Y2I (assignInOrder [λv=>bindName X.env y v,λv=>bindName X.env x v] [g,u1] >>= λ_=>pure Flow.next);refine wpAny_bind (assignInOrder_cons (wpAny_bindName (qQ I3 hN hj (.inl hy) m (λG I4=>?_) (.inr hy))));refine assignInOrder_cons (wpAny_bindName (qQ I4 hN hi (.inl hx) rv (λC I5=>assignInOrder_nil (Y1X)) (.inr hx)));rw[List.set_comm _ _ (Ne.symm hij)]at I5;exact⟨_,H1,I5,n⟩
end
section
variable{X:Cx}{pos:Pos}
def GH(c:TT)(tb:TS):TS:=λD σ H=>∃W:Nat->St->Hp->Prop,(∃m,W m σ H)/\∀m σ H,W m σ H ->
 c σ H λb H1=>if b=true then ∃N:St->Hp->Prop,(∀σ' H',N σ' H'->∃m',m' < m/\W m' σ' H')/\(tb { D with nx:=N,ct:=N,bk:=D.nx } σ H1) else Y8m H1
def XD{c:Expr}{body:Y4w}{tc:TT}{tb:TS}(hp:Yf7)(hc:PT X c tc)(hb:OC X body tb):PS X (.While c body [] pos) (GH tc tb):=by
 intro a s σ H D I h;obtain⟨W,⟨y,J⟩,d⟩:=h;refine wpAny_While (codeAny_whileLoop (λn B=>∃σ' H',Y4Q X a H' B/\W n σ' H') ?_ y ⟨σ,H,I,J⟩);rintro n z ⟨j,H1,I1,G⟩;refine Y9Q hp (hc a z j H1 _ I1 (d n j H1 G)) (λb C ⟨H2,I2,i⟩=>?_);cases b with
 | true =>
  obtain⟨N,u,i⟩:=i;rw[Yr];refine Y9Q hp (hb a C j H2 _ I2 i) (λf L g=>?_);cases f with
  | next =>
   obtain⟨e,H3,I3,r⟩:=g;obtain⟨m,p,l⟩:=u e H3 r;exact⟨m,p,e,H3,I3,l⟩
  | cont =>
   obtain⟨e,H3,I3,r⟩:=g;obtain⟨m,p,l⟩:=u e H3 r;exact⟨m,p,e,H3,I3,l⟩
  | brk=>exact g
  | ret v=>exact g
 | false =>
  rw[if_neg cG];exact Yj4 j H2 I2 i
end
structure It where
 go:Yf5
 yld:Nat->Hp->Y3K
 stop:Yf5
def kW(X:Cx)(pins:Ad)(H:Hp)(b:Addr):Prop :=
 H b=none/\Y9o/\b ∉ X.fs/\(YeR b\/Y8f b)/\(∀x c,Y3m->c≠b)/\∀p∈X.pn++pins,p.1≠b
def cU.fpOk{X:Cx}{pins:Ad}{σ:St}{H H':Hp}{s:Shared}{b:Addr}(I:Y4)(hb:YiY b)(hn:Y1p=none):kW X pins H' b:=by
 refine⟨hn,Nat.ne_of_gt (aO I.lt hb),I.nofs hb,.inr (aL I.sz hb),λx c e z=>?_,λp a z=>?_⟩
 ·obtain⟨v,q⟩:=YbV x e;exact absurd (aO q.lt (by rw[z];exact hb)) (bS _)
 ·exact absurd (aO (aZ (Y8Q a).1) (by rw[z];exact hb)) (bS _)
structure EB(P:Program)(w:World)(K:Aa)(tg:Expr)(J:It)(fp:Y0m)(it:Addr)(tn:Nat->Y3W):Prop where
 mem:it∈fp
 obj:∀i h,tn i h->∀b∈fp,∃o,Y1F=Y9/\∀v,o.data ≠ .cell v
 keep:∀i h h',tn i h->(∀b∈fp,∀o,Y1F=Y9->Y0T=Y9)->tn i h'
 item:∀(X:Cx),X.prog=P->X.w=w->X.K=K->Y1d->∀(i:Nat) (pins:Ad) (s:Shared) (σ:St) (H:Hp) (E:Yc),Y4->(∀b∈fp,Y2V)->Yce i->Yam H ->
  wpAny (model P w) X.A (pyNext (.ref it)) (λr s1=>∃u,r=Yl /\
   wpAny (model P w) X.A (letOwnedTupleGo tg (Y5a) u) (λ_ s2=>∃x H',Y4m H' s2/\Y9w/\J.yld i H x H'/\tn (i+1) s2.heap/\∀b∈fp,Y1p=none) E s1) E s
 done:∀(X:Cx),X.prog=P->X.w=w->X.K=K->Y1d->∀(i:Nat) (pins:Ad) (s:Shared) (σ:St) (H:Hp) (E:Yc),Y4->(∀b∈fp,Y2V)->Yce i->J.stop i H ->
  wpAny (model P w) X.A (pyNext (.ref it)) (λr s1=>r=none/\Y4n s1) E s
 self:∀(A:Around) (i:Nat) (s:Shared) (Q:Yc) (E:Yc),Yce i->Y4l it s->wpAny (model P w) A (pyIter (Y5a)) Q E s
abbrev TI:=St->Y13 Hp (It->(Y2d Hp))
def PIE(X:Cx)(pins:Ad)(σ:St)(tg:Expr)(R:It->(Y2d Hp))(itv:Value)(s2:Shared):Prop :=
 ∃(it:Addr) (fp:Y0m) (tn:Nat->Y3W) (J:It) (H':Hp),itv=Y5a/\Y4m H' s2/\EB X.prog X.w X.K tg J fp it tn/\tn 0 s2.heap/\(∀b∈fp,kW X pins H' b)/\R J H'
def PI(X:Cx)(tg iter:Expr)(wi:TI):Prop :=
 ∀(pins:Ad) (s:Shared) (σ:St) (H:Hp) (R:It->(Y2d Hp)),Y4->wi σ H R ->
  Y3Z (Y1a iter) (λv s1=>Y9O (pyIter v) (PIE X pins σ tg R) s1)
def QL{M:Model}{A:Around}{E:Yc}{s:Shared}{tg:Expr}{it:Addr}{u:Value}{o:Obj}{n:String}{vs:Ai}{Q:Ycy}(ho:Ybk it)(hc:o.cls=.type n)(hd:o.data=.fields vs)
    (hn:Yw (["enumerate","zip","dict_itemiterator","dict_reverseitemiterator","odict_iterator","itertools.zip_longest","itertools.pairwise"].contains n)) (hQ:Q () s):wpAny M A (letOwnedTupleGo tg (Y5a) u) Q E s:=by
  unfold letOwnedTupleGo;cases tg <;> first
    | exact Yjw
    | (cases u <;> first
        | exact Yjw
        | (refine Yio ho ?_
           rw[hc,hd];show wpAny M A (if(["enumerate","zip","dict_itemiterator","dict_reverseitemiterator","odict_iterator","itertools.zip_longest","itertools.pairwise"].contains n&&vs[0]? == some (rawInt _))=true then _ else _) Q E s;rw[if_neg (by intro h;rw[hn,Bool.false_and]at h;cases h)];exact Yjw))
def Itl(K:Aa)(a:Addr):It :=
 ⟨Ygs (Y6H/\Y0s=Yb),λi H x H'=>H'=H/\∀xs,Y6H->Y0s=Yb,YkO (Y6H/\Y5T i)⟩
def Itt(K:Aa)(a:Addr):It :=
 ⟨Ygs (Y6G/\Y0s=Yb),λi H x H'=>H'=H/\∀xs,Y6G->Y0s=Yb,YkO (Y6G/\Y5T i)⟩
def Itr(lo:Int)(n:Nat):It:=⟨λi _=>i<n,λi H x H'=>H'=H/\x=(.int (lo+i)),λi _=>n<=i⟩
def SC{P:Program}{w:World}{K:Aa}{tg:Expr}(a it:Addr):EB P w K tg (Itl K a) [it] it (λi h=>h.IsListIter it a i) where
 mem:=by simp
 obj:=λi h st b j=>by
  have e:b=it:=by simpa using j
  subst e;obtain⟨o,e,c,d⟩:=st;exact Y6P (λv z=>by rw[d]at z;cases z)
 keep:=λi h n st k=>st.at (YcM it (by simp) o e)
 item:=by
  intro X J N O R i g s σ H E I m st G;subst J N O;obtain⟨Y,x,r,B⟩:=G;obtain⟨y,rv,p,β⟩:=I.list r;obtain⟨u,α,ru⟩:=rv.get B;obtain⟨D,A,U,C,L,M⟩:=m it (by simp);refine wpAny_pyNext_list_item st p.isList (x:=u) (by simpa using α) λn l S=>?_;have I1:Y4T g ({ s with heap:=n }):=Yfk (λb o j e=>(S.2 b j).trans e) D A C L M;obtain⟨o,e,c,d⟩:=id l;exact Yx u (QL (s:={ s with heap:=n }) e c d Dd ⟨x,H,I1,ru,Y3 (λγ Z=>by rw[I.list_inj Z r];exact B),l,λb j=>(m b j).1⟩)
 done:=by
  intro X J N O R i g s σ H E I m st G;subst J N O;obtain⟨Y,r,B⟩:=G;obtain⟨y,rv,p,β⟩:=I.list r;obtain⟨D,A,U,C,L,M⟩:=m it (by simp);have δ:=rv.length;exact wpAny_pyNext_list_end (I.ok.hd R) st p.isList (by simp;exact Oo) λn T=>Y3 (Yfk (λb o j e=>T b o j e) D A C L M)
 self:=λ_ _ _ _ _ st h=>wpAny_pyIter_listiter st h
def LY{P:Program}{w:World}{K:Aa}{tg:Expr}(a it:Addr):EB P w K tg (Itt K a) [it] it (λi h=>h.IsTupleIter it a i) where
 mem:=by simp
 obj:=λi h st b l=>by
  have e:b=it:=by simpa using l
  subst e;obtain⟨o,e,c,d⟩:=st;exact Y6P (λv z=>by rw[d]at z;cases z)
 keep:=λi h r st k=>st.at (YcM it (by simp) o e)
 item:=by
  intro X J N O R i g s σ H E I n st G;subst J N O;obtain⟨Y,x,y,B⟩:=G;obtain⟨j,rv,p,β⟩:=I.tuple y;obtain⟨u,α,ru⟩:=rv.get B;obtain⟨D,A,U,C,L,M⟩:=n it (by simp);refine wpAny_pyNext_tuple_item st (show s.heap.IsTuple a j.toArray from p) (x:=u) (by simpa using α) λr m S=>?_;have I1:Y4T g ({ s with heap:=r }):=Yho ((S.2 b l).trans e) D A C L M;obtain⟨o,e,c,d⟩:=id m;exact Yx u (QL (s:={ s with heap:=r }) e c d Dd ⟨x,H,I1,ru,Y3 (λγ Z=>by rw[I.tuple_inj Z y];exact B),m,λb l=>(n b l).1⟩)
 done:=by
  intro X J N O R i g s σ H E I n st G;subst J N O;obtain⟨Y,y,B⟩:=G;obtain⟨j,rv,p,β⟩:=I.tuple y;obtain⟨D,A,U,C,L,M⟩:=n it (by simp);have δ:=rv.length;exact wpAny_pyNext_tuple_end (I.ok.hd R) st (show s.heap.IsTuple a j.toArray from p) (by simp;exact Oo) λr T=>Y3 (Yho (T b o l e) D A C L M)
 self:=λ_ _ _ _ _ st h=>wpAny_pyIter_tupleiter st h
def LZ{P:Program}{w:World}{K:Aa}{tg:Expr}(it:Addr)(lo:Int)(n:Nat):EB P w K tg (Itr lo n) [it] it (λi h=>IsRangeIter h it (lo+(i:Nat)*1) ((n:Int)-(i:Nat)) 1) where
 mem:=by simp
 obj:=λi h st b c=>by
  have e:b=it:=by simpa using c
  subst e;exact⟨_,st,λv z=>by
   have N:Data.fields _=Data.cell v:=z;cases N⟩
 keep:=λi h j st k=>k it (by simp) _ st
 item:=by
  intro X y C D m i a s σ H E I g st u;subst y C D;obtain⟨r,l,M,p,A,B⟩:=g it (by simp);have W:=Walks.range (prog:=X.prog) (w:=X.w) (I.ok.hd m) it lo 1 n;refine W.item i s _ _ u st λv j G L d O=>?_;obtain⟨t,rfl⟩:=L;have I1:Y4T a ({ s with heap:=j,toks:=G }):=I.turned (λb o c e=>O b o (by simpa using c) e) r l p A B;refine Y5 (QL (s:={ s with heap:=j,toks:=G }) (n := "range_iterator") d rfl rfl Dd ⟨.int (lo+i),H,I1,Y0j t,Y4D,d,λb c=>(g b c).1⟩);rw[Int.mul_one]
 done:=by
  intro X y C D m i a s σ H E I g st u;subst y C D;obtain⟨r,l,M,p,A,B⟩:=g it (by simp);exact wpAny_pyNext_range_end (I.ok.hd m) st (by have:n<=i:=u;exact Oo) λj J=>Y3 (Yfk (λb o c e=>J b o c e) r l p A B)
 self:=λ_ _ _ _ _ st h=>wpAny_pyIter_rangeiter st h
section
variable{X:Cx}{tg:Expr}
def YM(K:Aa)(tl:TE):TI:=λσ H R=>tl σ H (YgU (x=Yf/\(∃xs,gJ K H1 a xs)/\R (Itl K a) H1))
def aGI(K:Aa)(tl:TE):TI:=λσ H R=>tl σ H (YgU (x=Yf/\(∃xs,jV K H1 a xs)/\R (Itt K a) H1))
def aBm{l:Expr}{tl:TE}(hl:Y08 l tl):PI X tg l (YM X.K tl):=by
 intro c s σ H R I h;refine thn (hl c s σ H _ I h) λv d ⟨x,H1,I1,n,m⟩=>?_;obtain⟨a,e,⟨r,j⟩,q⟩:=m;subst e;cases n;obtain⟨g,rv,p,u⟩:=I1.list j;refine wpAny_pyIter_list p.isList ⟨d.heap.objs.size,YiH,_,_,H1,rfl,Yhp Y2n,SC a _,YaG _,YkD,q⟩;have e:Yj9 b:=by simpa using i
 subst e;exact I1.fpOk Yy (I1.hok.fresh Yy)
def aEI{l:Expr}{tl:TE}(hl:Y08 l tl):PI X tg l (aGI X.K tl):=by
 intro c s σ H R I h;refine thn (hl c s σ H _ I h) λv d ⟨x,H1,I1,n,m⟩=>?_;obtain⟨a,e,⟨r,j⟩,q⟩:=m;subst e;cases n;obtain⟨g,rv,p,u⟩:=I1.tuple j;refine wpAny_pyIter_tuple (show d.heap.IsTuple a g.toArray from p) ⟨d.heap.objs.size,YiH,_,_,H1,rfl,Yhp Y2n,LY a _,YaG _,YkD,q⟩;have e:Yj9 b:=by simpa using i
 subst e;exact I1.fpOk Yy (I1.hok.fresh Yy)
def JG{pins:Ad}{σ:St}{H:Hp}{s:Shared}{R:It->(Y2d Hp)}{E:Yc}{lo hi:Int}{t u v:Tok}{tk:Nat}(I:Y4)(h1:-(2^62)<=lo)(h2:lo<2^62)(h3:-(2^62)<=hi)(h4:hi<2^62)
  (q:R (Itr lo (hi-lo).toNat) H):Y8g (pyIter (Y1r)) (PIE X pins σ tg R) E ({ s with heap:=s.heap.push { cls:=.type "range",data:=.fields #[.int lo t,.int hi u,.int 1 v] },toks:=tk }):=by
 refine wpAny_pyIter_range (IsRange.new ..) (small_one h1 h2 h3 h4) ?_;have I1:Y4n ({ s with heap:=s.heap.push { cls:=.type "range",data:=.fields #[.int lo t,.int hi u,.int 1 v] },toks:=tk }):=I.kept λb o e=>Y2n;refine⟨(s.heap.push { cls:=.type "range",data:=.fields #[.int lo t,.int hi u,.int 1 v] }).objs.size,[(s.heap.push { cls:=.type "range",data:=.fields #[.int lo t,.int hi u,.int 1 v] }).objs.size],_,_,H,rfl,
  YkQ tk Y2n,LZ _ lo (hi-lo).toNat,?_,λb c=>?_,q⟩
 ·have a:lo+((0:Nat):Int)*1=lo:=by simp
  have d:(((hi-lo).toNat:Nat):Int)-((0:Nat):Int)=Builtin.Range.rangeSize lo hi 1:=by rw[rangeSize_one];split <;> exact Oo
  show IsRangeIter _ _ (lo+((0:Nat):Int)*1) ((((hi-lo).toNat:Nat):Int)-((0:Nat):Int)) 1;rw[a,d];exact Y1l
 ·have e:b=(s.heap.push { cls:=.type "range",data:=.fields #[.int lo t,.int hi u,.int 1 v] }).objs.size:=by simpa using c
  subst e;exact I1.fpOk Yy (I1.hok.fresh Yy)
def aCR(ta:TA):TI:=YeD σ H (∃j:Int,vs=[.int j]/\-(2^62)<=j/\j<2^62/\R (Itr 0 j.toNat) H1)
def aCQ(ta:TA):TI:=YeD σ H (∃i j:Int,vs=[Y17,.int j]/\(-(2^62)<=i/\i<2^62/\-(2^62)<=j/\j<2^62)/\R (Itr i (j-i).toNat) H1)
def SR{a:Expr}{ta:TA}{p pos:Pos}(hg:Gl X "range")(hm:X.mg "range" = none)(ha:PA X [a] ta)(hs:Y2H a=[(false,Y7P)]:=by rfl):PI X tg (Y8z "range" p [a] []) (aCR ta):=by
 intro c s σ H R I h;refine Call_ (vW I hg hm boot_range (Ybj (ha pos c s σ H _ I h) (λn m ⟨l,H1,I1,i,d⟩=>?_) hs rfl));obtain⟨j,e,d,g,q⟩:=d;subst e;cases i with
 | cons r rr =>
  cases rr;obtain⟨t,rfl⟩:=r;exact call_range_1 (JG I1 Oo Oo d g (by simpa using q))
def SQ{a b:Expr}{ta:TA}{p pos:Pos}(hg:Gl X "range")(hm:X.mg "range" = none)(ha:PA X [a,b] ta)(hs:Y5I a b=[(false,Y7P),(false,Y7O)]:=by rfl)(hs2:Y2H b=[(false,Y7O)]:=by rfl) :
  PI X tg (Y8z "range" p [a,b] []) (aCQ ta):=by
 intro c s σ H R I h;refine Call_ (vW I hg hm boot_range (Ybj (ha pos c s σ H _ I h) (λy w ⟨u,H1,I1,n,d⟩=>?_) (by rw[hs,hs2]) (by rw[hs2];rfl)));obtain⟨i,j,e,⟨d,m,g,l⟩,q⟩:=d;subst e;cases n with
 | cons r rr =>
  cases rr with
  | cons r' rr =>
   cases rr;obtain⟨t,rfl⟩:=r;obtain⟨z,rfl⟩:=r';exact call_range_2 (JG I1 d m g l q)
def aF9(wi:TI)(g:TG)(tb:TS):TS:=λD σ H=>wi σ H λJ H1=>∃W:Nat->Nat->St->Hp->Prop,(Ybd H1)/\∀i m σ H,W i m σ H ->
 (J.stop i H/\Y3l)\/(Yam H/\∃N:St->Hp->Prop,Yah (N σ' H'->∃m',m' < m/\W (i+1) m' σ' H') (J.yld i H x H'->g x σ H' (Y45 ({ D with nx:=N,ct:=N,bk:=D.nx }))))
def vT(fp:Y0m)(h:Heap):Ad:=fp.filterMap λb=>(h.get? b).map λo=>(b,o)
def kH{fp:Y0m}{h:Heap}{b:Addr}{o:Obj}(hb:b∈fp)(e:Y1F=Y9):(b,o)∈vT fp h:=List.mem_filterMap.mpr ⟨b,hb,by rw[e];rfl⟩
def SU{fp:Y0m}{h:Heap}{p:Addr × Obj}(hp:p∈vT fp h):p.1∈fp/\YcK p.1 p.2:=by
 obtain⟨b,c,e⟩:=List.mem_filterMap.mp hp;cases q:Y1F with
 | none=>rw[q]at e;cases e
 | some o =>
  rw[q]at e;have a:(b,o)=p:=fX e;subst a;exact⟨c,q⟩
def cU.pinned{pins:Ad}{σ:St}{H:Hp}{s:Shared}{fp:Y0m}(I:Y4)(hf:∀b∈fp,Y2V)(ho:∀b∈fp,∃o,Y3g/\∀v,o.data ≠ .cell v):Y4T (pins++vT fp s.heap) s :=
 I.pins_of λp i=>(dJ.mp i).elim (λz=>Y8Q (bL _ z)) λz=>by
  obtain⟨a,e⟩:=SU z;obtain⟨h,g,j,_⟩:=hf p.1 a;obtain⟨o,c,d⟩:=ho p.1 a;rw[e]at c;cases c;exact⟨e,h,g,j,d⟩
def cU.unpinned{pins pl:Ad}{σ:St}{H:Hp}{s:Shared}(I:Y4T (pins++pl) s):Y4:=I.pins_of λp a=>Y8Q (bL _ (cO _ a))
def aEC{iter:Expr}{body:Y4w}{wi:TI}{g:TG}{tb:TS}{pos:Pos}(hp:Yf7)(hc:Y1d)(hi:Yb0 X tg wi)(hg:PG X tg g)(hb:OC X body tb)
  (hs:∀x,Y4a=Y41:=by intro _;rfl):PS X (.For tg iter body [] pos) (aF9 wi g tb):=by
 intro a s σ H D I h;refine wpAny_For (thn (hi a s σ H _ I h) λv s1 h1=>thn h1 λτ s2 χ=>?_) hs;obtain⟨it,B,γ,J,H2,e,I2,T,P,Y,W,⟨κ,θ⟩,G⟩:=χ;subst e;have c:∀{H':Hp},(∀b∈B,Y1p=none)->∀b∈B,kW X a H' b:=λφ b hb=>⟨φ b hb,(Y b hb).2⟩;refine codeAny_forLoop_any (λn α=>∃i σ' H',Y4Q X a H' α/\γ i α.heap/\(∀b∈B,Y1p=none)/\W i n σ' H') ?_ κ ⟨0,σ,H2,I2,P,λb hb=>(Y b hb).1,θ⟩;rintro n β ⟨i,L,H3,I3,C,M,υ⟩;rcases G i n L H3 υ with⟨z,qn⟩ | ⟨ι,N,η,step⟩
 ·refine Y9Q hp (T.done X rfl rfl rfl hc i a β L H3 X.xe I3 (c M) C z) (λr ε ⟨U,I4⟩=>?_);subst U;exact Yj4 L H3 I4 qn
 ·refine Y9Q hp (T.item X rfl rfl rfl hc i a β L H3 X.xe I3 (c M) C ι) (λr ε ⟨u,U,μ⟩=>?_);subst U;refine Y9Q hp μ (λ_ Z ⟨x,H5,I5,ξ,ω,y,R⟩=>?_);have I5':=I5.pinned (c R) (T.obj _ _ y);refine Y9Q hp (hg _ Z L H5 x u _ I5' ξ (step x H5 ω)) (λ_ ψ ⟨ρ,H6,I6,ν⟩=>?_);refine Y9Q hp (hb _ ψ ρ H6 _ I6 ν) (λf S p=>?_);have l:∀{j:St} {H7:Hp},cU X (a++vT B Z.heap) j H7 S->N j H7->∃m,m<n/\∃i σ' H',Y4Q X a H' S/\γ i S.heap/\(∀b∈B,Y1p=none)/\W i m σ' H':=λ{j H7} I7 O=>by
   obtain⟨m',ζ,w7⟩:=η j H7 O;refine⟨m',ζ,i+1,j,H7,I7.unpinned,YaQ _ _ y (λb hb o e=>(I7.pin (b,o) (bL _ (bL _ (kH hb e)))).1),λb hb=>?_,w7⟩;obtain⟨o,e,d⟩:=T.obj _ _ y b hb;exact(I7.pin (b,o) (bL _ (bL _ (kH hb e)))).2.1
  cases f with
  | next=>obtain⟨j,H7,I7,O⟩:=p;exact l I7 O
  | cont=>obtain⟨j,H7,I7,O⟩:=p;exact l I7 O
  | brk=>obtain⟨j,H7,I7,p⟩:=p;exact⟨j,H7,I7.unpinned,p⟩
  | ret v=>obtain⟨δ,j,H7,I7,ο,p⟩:=p;exact⟨δ,j,H7,I7.unpinned,ο,p⟩
end
def mG{K:Aa}{a:Addr}{xs:Al}{g:TG}{tb:TS}{D:qL}{σ:St}{H:Hp}(Pv:Nat->Y1I)(h0:Y65 0)(hl:∀i σ H,Y6y->Y2F->Y6H)
  (hs:∀i x σ H,Y0s=Yb->Y2F->g x σ H (Y45 ({ D with nx:=Pv (i+1),ct:=Pv (i+1),bk:=D.nx }))) (hd:∀σ H,Ygp->Y3l) :
  ∃W:Nat->Nat->St->Hp->Prop,(Ybd H)/\∀i m σ H,W i m σ H ->
   ((Itl K a).stop i H/\Y3l)\/((Itl K a).go i H/\∃N:St->Hp->Prop,Yah (N σ' H'->∃m',m' < m/\W (i+1) m' σ' H') ((Itl K a).yld i H x H'->g x σ H' (Y45 ({ D with nx:=N,ct:=N,bk:=D.nx })))):=by
 refine YbM (m=Y3y i/\Y6y/\Y2F) ⟨xs.length,by simp,Y0l,h0⟩;rintro i m σ H ⟨rfl,c,p⟩;have q:=hl i σ H c p;by_cases hlt:Y3J
 ·refine .inr ⟨⟨xs,xs[i],q,by simp[hlt]⟩,Pv (i+1),λσ' H' d=>Y0Z (Y3y (i+1)) Oo hlt d,Ygi⟩;obtain⟨e,y⟩:=y;subst e;exact hs i x σ _ (y xs q) p
 ·have e:Y3V i:=Oo;subst e;exact Y38 (YcL xs q) (hd σ H p)
def QQ{K:Aa}{a:Addr}{xs:Al}{g:TG}{tb:TS}{D:qL}{σ:St}{H:Hp}(Pv:Nat->Y1I)(h0:Y65 0)(hl:∀i σ H,Y6y->Y2F->Y6G)
  (hs:∀i x σ H,Y0s=Yb->Y2F->g x σ H (Y45 ({ D with nx:=Pv (i+1),ct:=Pv (i+1),bk:=D.nx }))) (hd:∀σ H,Ygp->Y3l) :
  ∃W:Nat->Nat->St->Hp->Prop,(Ybd H)/\∀i m σ H,W i m σ H ->
   ((Itt K a).stop i H/\Y3l)\/((Itt K a).go i H/\∃N:St->Hp->Prop,Yah (N σ' H'->∃m',m' < m/\W (i+1) m' σ' H') ((Itt K a).yld i H x H'->g x σ H' (Y45 ({ D with nx:=N,ct:=N,bk:=D.nx })))):=by
 refine YbM (m=Y3y i/\Y6y/\Y2F) ⟨xs.length,by simp,Y0l,h0⟩;rintro i m σ H ⟨rfl,c,p⟩;have q:=hl i σ H c p;by_cases hlt:Y3J
 ·refine .inr ⟨⟨xs,xs[i],q,by simp[hlt]⟩,Pv (i+1),λσ' H' d=>Y0Z (Y3y (i+1)) Oo hlt d,Ygi⟩;obtain⟨e,y⟩:=y;subst e;exact hs i x σ _ (y xs q) p
 ·have e:Y3V i:=Oo;subst e;exact Y38 (YcL xs q) (hd σ H p)
def oX{lo:Int}{n:Nat}{g:TG}{tb:TS}{D:qL}{σ:St}{H:Hp}(Pv:Nat->Y1I)(h0:Y65 0)
  (hs:∀i σ H,i<n->Y2F->g (.int (lo+i)) σ H (Y45 ({ D with nx:=Pv (i+1),ct:=Pv (i+1),bk:=D.nx }))) (hd:∀σ H,Y65 n->Y3l) :
  ∃W:Nat->Nat->St->Hp->Prop,(Ybd H)/\∀i m σ H,W i m σ H ->
   ((Itr lo n).stop i H/\Y3l)\/((Itr lo n).go i H/\∃N:St->Hp->Prop,Yah (N σ' H'->∃m',m' < m/\W (i+1) m' σ' H') ((Itr lo n).yld i H x H'->g x σ H' (Y45 ({ D with nx:=N,ct:=N,bk:=D.nx })))):=by
 refine YbM (m=n-i/\i<=n/\Y2F) ⟨n,by simp,Y0l,h0⟩;rintro i m σ H ⟨rfl,c,p⟩;by_cases hlt:i<n
 ·refine .inr ⟨hlt,Pv (i+1),λσ' H' a=>Y0Z (n-(i+1)) Oo hlt a,Ygi⟩;obtain⟨e,y⟩:=y;subst e y;exact hs i σ _ hlt p
 ·have e:i=n:=Oo;subst e;exact Y38 Yy (hd σ H p)
abbrev R2:=V->V->(Hp->(Y2d VK))
def vO(X:Cx)(f:Yf3)(r:R2):Prop :=
 ∀(pins:Ad) (s:Shared) (σ:St) (H:Hp) (x y:V) (v u:Value) (Q:VK),Y4->fI x v->Y2W->r x y H Q ->
  Y6B (f v u) X Q
def UnR(X:Cx)(f:Y8j (Sem Value))(r:V->(Hp->(Y2d VK))):Prop :=
 ∀(pins:Ad) (s:Shared) (σ:St) (H:Hp) (x:V) (v:Value) (Q:VK),Y4->fI x v->r x H Q ->
  Y6B (f v) X Q
def mN(X:Cx)(f:Value)(r:Y1i):Prop :=
 ∀(pins:Ad) (s:Shared) (σ:St) (H:Hp) (xs:Al) (us:Ag) (Q:VK),Y4->Y4I->r xs H Q ->
  Y6B (call f us) X Q
def tOp(r:R2)(ta tb:TE):TE:=Yal σ H (tb σ H1 λy H2=>r x y H2 Q)
def tUn(r:V->(Hp->(Y2d VK)))(ta:TE):TE:=Yal σ H (r x H1 Q)
def rI(C:Y13 Int Int)(g:Int->Int->V):R2:=λx y H Q=>∃i j,x=Y17/\Y3Q j/\C i j/\Q (g i j) H
def rI0(g:Int->Int->V):R2:=λx y H Q=>∃i j,x=Y17/\Y3Q j/\Q (g i j) H
def rU(g:Int->V):V->(Hp->(Y2d VK)):=λx H Q=>∃i,x=Y17/\Q (g i) H
section
variable{X:Cx}{a b c:Expr}{ta tb tc:TE}{pos:Pos}
def aFD(ha:Y80)(hb:Yb7 b){pins:Ad}{s:Shared}{σ:St}{H:Hp}{R:V->Y3K}(I:Y4)
  (h:ta σ H λx H1=>tb σ H1 λy H2=>R x y H2) {Q:Yc} {f:Yf3}
  (hf:∀v u s2 x y H2,Y4m H2 s2->fI x v->Y2W->R x y H2->Y9O (f v u) Q s2) :
  Y3Z Y7P (λv s₁=>Y9O Y7O (λu s₂=>Y9O (f v u) Q s₂) s₁):=by
 exact thn (ha pins s σ H _ I h) (λv c ⟨x,H1,I1,d,g⟩=>thn (hb pins c σ H1 _ I1 g) λu s2 ⟨y,H2,I2,e,i⟩=>hf v u s2 x y H2 I2 d e i)
def aGw{op:Operator}{r:R2}(ho:Y4h op r)(ha:Y80)(hb:Yb7 b):Y08 (.BinOp a op b pos) Y9E:=by
 intro c s σ H Q I h;exact wpAny_BinOp (YiC ha hb I h (ho c g σ H2 x y v u Q I2 e d q))
def aGv{op:UnaryOp}{r:V->(Hp->(Y2d VK))}(ho:UnR X (unaryOp op) r)(ha:Y80):Y08 (YbW op a) (tUn r ta):=by
 intro c s σ H Q I h;exact UnaryOp_ (thn (ha c s σ H _ I h) (λv d ⟨x,H1,I1,e,g⟩=>ho c d σ H1 x v Q I1 e g))
def opI{f:Yf3}{C:Y13 Int Int}{g:Int->Int->Int}
  (rule:∀(i j:Int) (t u:Tok) (s:Shared) (Q:Yc) (E:Yc),C i j->Q (.int (g i j) s.toks) { s with toks:=s.toks+1 }->Y8g (f (Y3E i) (Y96 j)) Q E s) :
  vO X f (rI C (Y8s (g i j))):=by
 intro a s σ H x y v u Q I l d h;obtain⟨i,j,rfl,rfl,c,q⟩:=h;obtain⟨t,rfl⟩:=l;obtain⟨e,rfl⟩:=d;exact rule i j t e s _ _ c (Y9k (g i j) H q)
def aGB{f:Yf3}{g:Int->Int->Int}
  (rule:∀(i j:Int) (t u:Tok) (s:Shared) (Q:Yc) (E:Yc),Q (.int (g i j) s.toks) { s with toks:=s.toks+1 }->Y8g (f (Y3E i) (Y96 j)) Q E s) :
  vO X f (rI0 (Y8s (g i j))):=by
 intro a s σ H x y v u Q I e c h;obtain⟨i,j,rfl,rfl,q⟩:=h;obtain⟨t,rfl⟩:=e;obtain⟨d,rfl⟩:=c;exact rule i j t d s _ _ (Y9k (g i j) H q)
def aEY{f:Yf3}{g:Int->Y24 Int}
  (rule:∀(i j:Int) (t u:Tok) (s:Shared) (Q:Yc) (E:Yc),Q (.bool (g i j)) s->Y8g (f (Y3E i) (Y96 j)) Q E s) :
  vO X f (rI0 (Yh0 (g i j))):=by
 intro a s σ H x y v u Q I e c h;obtain⟨i,j,rfl,rfl,q⟩:=h;obtain⟨t,rfl⟩:=e;obtain⟨d,rfl⟩:=c;exact rule i j t d s _ _ (Y0E (.bl (g i j)) H I q)
def aJI(i j:Int):Prop:=0<=j/\j<=1000000/\Y9f (2^64)
def fO:Y4h .Add (rI0 (Y8s (i+j))):=aGB λ_ _ _ _ _ _ _ q=>add_int q
def pJ:Y4h .Sub (rI0 (Y8s (i-j))):=aGB λ_ _ _ _ _ _ _ q=>sub_int q
def pK:Y4h .Mod (rI (λ_ j=>0<j) (Y8s (i % j))):=opI λi j _ _ _ _ _ a q=>by
 have c:(0:Int)<j:=a;exact mod_int' Oo (by rw[Int.fmod_eq_emod_of_nonneg i Oo];exact q)
def aET:Y4h .Pow (rI aJI (Y8s (i^j.toNat))):=opI λ_ _ _ _ _ _ _ a q=>pow_int_small a.1 a.2.1 a.2.2 q
def unI{f:Y8j (Sem Value)}{g:Int->Int}
  (rule:∀(i:Int) (t:Tok) (s:Shared) (Q:Yc) (E:Yc),Q (.int (g i) s.toks) { s with toks:=s.toks+1 }->Y8g (f (Y3E i)) Q E s) :
  UnR X f (rU λi=>.int (g i)):=by
 intro a s σ H x v Q I c h;obtain⟨i,rfl,q⟩:=h;obtain⟨t,rfl⟩:=c;exact rule i t s _ _ (Y9k (g i) H q)
def vR:UnR X (unaryOp .USub) (rU λi=>.int (-i)):=unI λ_ _ _ _ _ q=>neg_int q
end
def scal:V->Y24 V
 | .non,.non=>true | .non,.int _=>true | .int _,.non=>true | .non,.bl _=>true | .bl _,.non=>true | .non,.str _=>true | .str _,.non=>true
 | .int _,.int _=>true | .bl _,.bl _=>true | .str _,.str _=>true | .byt _,.byt _=>true
 | .int _,.str _=>true | .str _,.int _=>true | .bl _,.str _=>true | .str _,.bl _=>true
 | _,_=>false
def rEq:R2:=λx y H Q=>scal x y=true/\Y2r (Y0U x y)
def rNe:R2:=λx y H Q=>scal x y=true/\Y2r (! Y0U x y)
def xL{i j:Int}:Y0U (V.int i) (V.int j)=(i == j):=by
 rw[Bool.eq_iff_iff];simp
def ZG{i j:Bool}:Y0U (V.bl i) (V.bl j)=(i == j):=by
 rw[Bool.eq_iff_iff];simp
def QZ{i j:Str}:Y0U (V.str i) (V.str j)=(i == j):=by
 rw[Bool.eq_iff_iff];simp
def RC{i j:Array UInt8}:Y0U (V.byt i) (V.byt j)=(i.toList == j.toList):=by
 rw[Bool.eq_iff_iff];cases i;cases j;simp
section
variable{X:Cx}{a b c:Expr}{ta tb tc:TE}{pos:Pos}
def fS{pins:Ad}{σ:St}{H:Hp}{s:Shared}{Q:VK}{k k':Bool}(I:Y4)(q:Y2r k)(e:k=k'):EP X pins σ Q (.bool k') s:=by
 subst e;exact Y0E (.bl k) H I q
def oJ:Y30 .Eq rEq:=by
 intro g s σ H x y v u Q I e a h;obtain⟨d,q⟩:=h;cases x with
 | non =>
  cases e;cases y with
  | non=>cases a;exact PySem.EqNone.eq_none_none (Y0O (by simp))
  | bl j=>cases a;exact PySem.EqNone.eq_none_bool (Y0O (by simp))
  | int j=>obtain⟨c,rfl⟩:=a;exact PySem.EqNone.eq_none_int (Y0O (by simp))
  | str j=>obtain⟨c,rfl⟩:=a;exact PySem.EqNone.eq_none_str (Y0O (by simp))
  | _=>exact Y21 (show false=true from d)
 | bl i =>
  cases e;cases y with
  | non=>cases a;exact PySem.EqNone.eq_bool_none (Y0O (by simp))
  | bl j=>cases a;exact eq_bool (Y0O ZG)
  | str j=>obtain⟨c,rfl⟩:=a;exact PySem.EqMixed.eq_bool_str (Y0O (by simp))
  | _=>exact Y21 (show false=true from d)
 | int i =>
  obtain⟨t,rfl⟩:=e;cases y with
  | non=>cases a;exact PySem.EqNone.eq_int_none (Y0O (by simp))
  | int j=>obtain⟨c,rfl⟩:=a;exact eq_int (Y0O xL)
  | str j=>obtain⟨c,rfl⟩:=a;exact PySem.EqMixed.eq_int_str (Y0O (by simp))
  | _=>exact Y21 (show false=true from d)
 | str i =>
  obtain⟨t,rfl⟩:=e;cases y with
  | non=>cases a;exact PySem.EqNone.eq_str_none (Y0O (by simp))
  | bl j=>cases a;exact PySem.EqMixed.eq_str_bool (Y0O (by simp))
  | int j=>obtain⟨c,rfl⟩:=a;exact PySem.EqMixed.eq_str_int (Y0O (by simp))
  | str j=>obtain⟨c,rfl⟩:=a;exact eq_str (Y0O QZ)
  | _=>exact Y21 (show false=true from d)
 | byt i =>
  obtain⟨t,rfl⟩:=e;cases y with
  | byt j=>obtain⟨c,rfl⟩:=a;exact PySem.W.eq_bytes (Y0O RC)
  | _=>exact Y21 (show false=true from d)
 | _=>cases y <;> exact Y21 (show false=true from d)
def aGA:Y30 .NotEq rNe:=by
 intro g s σ H x y v u Q I e a h;obtain⟨d,q⟩:=h;cases x with
 | non =>
  cases e;cases y with
  | non=>cases a;exact PySem.EqNone.ne_none_none (Y0O (by simp))
  | bl j=>cases a;exact PySem.EqNone.ne_none_bool (Y0O (by simp))
  | int j=>obtain⟨c,rfl⟩:=a;exact PySem.EqNone.ne_none_int (Y0O (by simp))
  | str j=>obtain⟨c,rfl⟩:=a;exact PySem.EqNone.ne_none_str (Y0O (by simp))
  | _=>exact Y21 (show false=true from d)
 | bl i =>
  cases e;cases y with
  | non=>cases a;exact PySem.EqNone.ne_bool_none (Y0O (by simp))
  | bl j=>cases a;exact ne_bool (YgG not ZG)
  | str j=>obtain⟨c,rfl⟩:=a;exact PySem.EqMixed.ne_bool_str (Y0O (by simp))
  | _=>exact Y21 (show false=true from d)
 | int i =>
  obtain⟨t,rfl⟩:=e;cases y with
  | non=>cases a;exact PySem.EqNone.ne_int_none (Y0O (by simp))
  | int j=>obtain⟨c,rfl⟩:=a;exact ne_int (YgG not xL)
  | str j=>obtain⟨c,rfl⟩:=a;exact PySem.EqMixed.ne_int_str (Y0O (by simp))
  | _=>exact Y21 (show false=true from d)
 | str i =>
  obtain⟨t,rfl⟩:=e;cases y with
  | non=>cases a;exact PySem.EqNone.ne_str_none (Y0O (by simp))
  | bl j=>cases a;exact PySem.EqMixed.ne_str_bool (Y0O (by simp))
  | int j=>obtain⟨c,rfl⟩:=a;exact PySem.EqMixed.ne_str_int (Y0O (by simp))
  | str j=>obtain⟨c,rfl⟩:=a;exact ne_str (YgG not QZ)
  | _=>exact Y21 (show false=true from d)
 | byt i =>
  obtain⟨t,rfl⟩:=e;cases y with
  | byt j=>obtain⟨c,rfl⟩:=a;exact PySem.W.ne_bytes (YgG not RC)
  | _=>exact Y21 (show false=true from d)
 | _=>cases y <;> exact Y21 (show false=true from d)
def xC:Y30 .Lt (rI0 (Yh0 (Y1c i j))):=YiD (lt_int q)
def BZ:Y30 .Gt (rI0 (Yh0 (Y1c j i))):=YiD (gt_int q)
def aCN:Y30 .GtE (rI0 (Yh0 (decide (j<=i)))):=YiD (ge_int q)
def tU:Y30 .Is (λx y H Q=>y=.non/\Y2r (Y0U x .non)):=by
 intro c s σ H x y v u Q I a d h;obtain⟨rfl,q⟩:=h;cases d;refine is_none_gen (Y0O ?_);cases x <;> first
  | (cases a;rfl)
  | (obtain⟨t,rfl⟩:=a;rfl)
def GX:Y30 .IsNot (λx y H Q=>y=.non/\Y2r (! Y0U x .non)):=by
 intro c s σ H x y v u Q I a d h;obtain⟨rfl,q⟩:=h;cases d;refine isnot_none_gen (Y0O ?_);cases x <;> first
  | (cases a;rfl)
  | (obtain⟨t,rfl⟩:=a;rfl)
def nomark(b:Expr){op:CmpOp}(h:op ≠ .In:=by decide)(h2:op ≠ .NotIn:=by decide):YdF op b:=by
 have c:Yw (op == CmpOp.In):=by cases op <;> first | rfl | exact Y8w h
 have a:Yw (op == CmpOp.NotIn):=by cases op <;> first | rfl | exact Y8w h2
 cases b <;> simp[behindInMarks,c,a]
def aBu{op:CmpOp}{r:R2}(ho:Y30 op r)(ha:Y80)(hb:Yb7 b)(hm:YdF op b):Y08 (Yci [op] [b] pos) Y9E:=by
 intro c s σ H Q I h;exact wpAny_Compare1 (YiC ha hb I h (ho c g σ H2 x y v u Q I2 e d q)) hm
def aCB(t:TE):TT:=λσ H Q=>t σ H (λx H'=>∃k,x=.bl k/\Q k H')
def aBg{op:CmpOp}{r:R2}(ho:Y30 op r)(ha:Y80)(hb:Yb7 b)(hm:YdF op b):PT X (Yci [op] [b] pos) (aCB (Y9E)):=by
 intro d s σ H Q I h;refine wpAny_isTrue_Compare1 (thn (ha d s σ H _ I h) λv i ⟨x,H1,I1,p,l⟩=>thn (hb d i σ H1 _ I1 l) λu n ⟨y,H2,I2,w,j⟩ =>
  thn (ho d n σ H2 x y v u _ I2 p w j) λc A ⟨z,H3,I3,m,k,e,g⟩=>?_) hm
 subst e;cases m;exact wpAny_truthy_bool ⟨H3,I3,g⟩
def CI:(sizeLine:Nat)<2^63:=by rw[sizeLine_eq];decide
def nO{x:V}{us:Ag}(r:Y4x [x]):∃u,us=[u]/\Y9w:=by
 cases r with
 | cons r1 r2=>cases r2;exact Y5 r1
def ZR:Y4i "abs" (λxs H Q=>∃i,xs=[Y17]/\Y1x (if i<0 then -i else i)):=by
 intro a s σ H xs d Q I r h;obtain⟨i,rfl,q⟩:=h;obtain⟨u,rfl,t,rfl⟩:=nO r;exact call_abs_int λu c=>Y9k (if i<0 then -i else i) H q
def yW:mN X (.type "int") (λxs H Q=>(∃i,xs=[Y17]/\Y1x i)\/∃k,xs=[.bl k]/\Y1x (if k then 1 else 0)):=by
 intro a s σ H xs d Q I r h;rcases h with⟨i,rfl,q⟩ | ⟨k,rfl,q⟩
 ·obtain⟨u,rfl,t,rfl⟩:=nO r;exact call_int_int ⟨Y17,H,I,Y5P _,q⟩
 ·obtain⟨u,rfl,c⟩:=nO r;cases c;exact call_int_bool (Y9k (if k then 1 else 0) H q)
def aG8(K:Aa)(x:V)(H:Hp)(n:Nat):Prop :=
 match x with
 | .str y=>y.length<=sizeLine/\n=y.length
 | .byt y=>y.size<=sizeLine/\n=y.size
 | .ref p=>(∃xs,gJ K H p xs/\n=xs.length)\/∃xs,jV K H p xs/\n=xs.length
 | _=>False
def ZQ:Y4i "len" (λxs H Q=>∃x n,xs=[x]/\aG8 X.K x H n/\Y1x n):=by
 intro m s σ H xs A Q I r h;obtain⟨x,n,rfl,e,q⟩:=h;obtain⟨u,rfl,l⟩:=nO r;have C:=CI;have B:sizeLine=16777216:=sizeLine_eq;cases x with
 | str y =>
  obtain⟨t,rfl⟩:=l;obtain⟨w,c⟩:Y0z y.length/\n=y.length:=e;subst c;exact len_str Oo (Y9k _ H q)
 | byt y =>
  obtain⟨t,rfl⟩:=l;obtain⟨w,c⟩:Y0z y.size/\n=y.size:=e;subst c;exact PySem.W.len_bytes Oo (Y9k _ H q)
 | ref p =>
  cases l;have c:(∃xs,gJ X.K H p xs/\Y3V n)\/∃xs,jV X.K H p xs/\Y3V n:=e;rcases c with⟨xs,i,c⟩ | ⟨xs,i,c⟩
  ·subst c;obtain⟨g,d,j,z⟩:=I.list i;have a:=d.length;exact Calls.call_len_list j.isList (by simp only[bI];exact Oo) ⟨.int xs.length,H,I.tok _,Y2T (by simp only[bI];rw[a]),q⟩
  ·subst c;obtain⟨g,d,j,z⟩:=I.tuple i;have a:=d.length;exact len_tuple j (by simp only[bI];exact Oo) ⟨.int xs.length,H,I.tok _,Y2T (by simp only[bI];rw[a]),q⟩
 | _=>exact(show False from e).elim
end
structure OE(h:Heap)(x dx C:Addr)(mA:Y0y):Prop where
 obj:YcK x (YfZ dx)
 ns:h.Ns1 dx mA
 ne:dx≠x
def SZ{h:Heap}{dx:Addr}{mA:Y0y}(n:h.Ns1 dx mA):∃od,YcK dx od/\∀name,PySem.W.lookIn name od=some (mA name):=by
 obtain⟨o,d,p,j,hd,g,_,l⟩:=n;refine Y3c j (λname=>?_);have e:=l name;unfold nsFind findBy at e;rw[<-Array.find?_toList]at e;unfold PySem.W.lookIn;rw[hd];dsimp only;split
 ·rename_i y q
  rw[q]at e;exact YdS e
 ·rename_i q
  rw[q]at e;have a:Yw (d.toList.any (·.refKey)):=by
   rw[List.any_eq_false];intro y m;obtain⟨z,t,c⟩:=g y (Array.mem_toList_iff.mp m);simp[DictEntry.refKey,c]
  have i:¬d.toList.any (·.refKey)=true:=by rw[a];exact cG
  rw[if_neg i];exact YdS e
def OE.look{h:Heap}{x dx C:Addr}{mA:Y0y}(I:OE h x dx C mA):∃od,PySem.W.InstAt h x (YfZ dx) C (some od)/\∀name,PySem.W.lookIn name od=some (mA name) :=
 let ⟨od,ho,hl⟩:=SZ I.ns
 ⟨od,Y8d I.obj rfl ho,hl⟩
section
variable{prog:Program}{w:World}{A:Around}{E:Yc}{s:Shared}{K:Aa}{x dx C f:Addr}{mA:Y0y}{name:Str}{v:Value}
def aBQ{expr:Bool}{Q:Yc}(X:YbU)(I:OE s.heap x dx C mA)(hg:Yfr C name=true)(hh:YdB C=true)
  (ha:Y5M K C name=Y16) (hv:mA name=Yn) (hv':PySem.W.handedIn v=true) (h:Q v { s with toks:=s.toks+1 }) :
  Y1K (getAttr (Y1H) name expr):=by
 obtain⟨c,J,a⟩:=I.look;exact PySem.W.get_value X J (Yig).1 (PySem.W.findObj_own hh ha rfl (by rw[a,hv])) hv' h
def YS{pl:YhB}{Q:(Value × Ag)->(Y2d Shared)}(X:YbU)(I:OE s.heap x dx C mA)(hg:Yfr C name=true)
  (hf:Y5M K C name=Y3w f) (ht:Y9S K f=true) (hv:mA name=none) (h:Q (.ref f,[Y1H]) s) :
  Y1K (getMethod (Y1H) name pl):=by
 obtain⟨a,J,c⟩:=I.look;exact PySem.W.method_fn X J (Yig).1 (Yig).2 hf (beq_iff_eq.mp ht) (by show(PySem.W.lookIn name a).map (·.isSome)=some false;rw[c,hv];rfl) h
def aAW{ns:Ah}{Q:Ycy}(X:YbU)(I:OE s.heap x dx C mA)
  (hs:Y5M K C "__setattr__" = some (YhZ "object.__setattr__")) (hp:YfN C=true) (ht:PySem.W.takerIn K C name=Y16) (hh:YdB C=true)
  (hw:PySem.Within mA ns) (hsz:Y0z ns.length)
  (h:∀h',OE h' x dx C (λy=>if y=name then Yn else mA y)->Ybu dx h'->Q () { s with heap:=h',toks:=s.toks+2 }) :
  Y1K (setAttr (Y1H) name v):=by
 obtain⟨B,J,u⟩:=I.look;refine PySem.W.set_plain X J hs (PySem.W.osa_open (s:={ s with toks:=s.toks+1 }) (r:=none) X J hp ht λb=>?_);obtain⟨D,l,i⟩:=PySem.W.any_some hh;have n:Y1u x ⟨YaN,some dx,.plain,#[]⟩:=I.obj;refine Y6V (Ydn (wpAny_loadPart n (wpAny_bind (PySem.W.Looks.here (s:={ s with toks:=s.toks+1 }) (PySem.W.looks_clsIn X l) ?_))));rw[i];refine wpAny_pure (a:=some dx) (Y6V Y3R);refine wpAny_nsSet1 (s:={ s with toks:=s.toks+1 }) I.ns λh' d c=>?_;obtain⟨z,p,m,g,j,e⟩:=d.count (PySem.Within.cons name v hw);refine wpAny_bind (wpAny_lookBehind g (by rw[j];exact pastItsLine_dict (aL e (by rw[cK];exact Oo))) ?_);exact wpAny_pure (h _ ⟨(c.2 _ (Ne.symm I.ne)).trans I.obj,d,I.ne⟩ c)
def YC{R:Ycx}{vs:Ag}{kw:Yaf}(X:YbU)(hm:Yg0 C=true)
  (hi:Y5M K C "__init__" = Y3w f) (hf:PySem.W.typeIn K (.ref f)=some (.type "function"))
  (h:codeAny (model prog w) (YdD "type.__call__" ⟨YaN::vs,kw⟩) (YbT f ⟨.ref (Y1J)::vs,kw⟩) (PySem.W.InitBack (Y1J) R)
   { s with heap:=(s.heap.push PySem.W.emptyDict).push (PySem.W.instObj C s.heap.objs.size) }) :
  YbO prog w A (YbT C ⟨vs,kw⟩) R s:=by
 obtain⟨a,g,d,t,c⟩:=s;exact PySem.W.make_core (PySem.W.makes_of X hm) (PySem.W.looks_findIn X hi) (λself=>PySem.W.bind_fn X self hf) (Y36) h
end
def eT(f:Str)(v:V):Y3k->Y3k
 | []=>[(f,v)]
 | (g,x)::r=>if g=f then(g,v)::r else(g,x)::eT f v r
theorem fC(f g:Str)(v:V):∀fs:List (Str × V),(eT f v fs).lookup g=if g=f then Yn else fs.lookup g
 | []=>by
  show List.lookup g [(f,v)]=_;by_cases h:g=f
  ·have hb:(g == f)=true:=beq_iff_eq.mpr h;simp only[List.lookup,hb,if_pos h]
  ·have hb:(g == f)=false:=beq_eq_false_iff_ne.mpr h;simp only[List.lookup,hb,if_neg h]
 | (k,x)::r=>by
  have a:=fC f g v r;rw[show eT f v ((k,x)::r)=(if k=f then(k,v)::r else(k,x)::eT f v r)from rfl];by_cases hk:k=f
  ·rw[if_pos hk];by_cases h:g=k
   ·have hb:(g == k)=true:=beq_iff_eq.mpr h;simp only[List.lookup,hb,if_pos (h.trans hk)]
   ·have hb:(g == k)=false:=beq_eq_false_iff_ne.mpr h;simp only[List.lookup,hb,if_neg (λe:g=f=>h (e.trans hk.symm))]
  ·rw[if_neg hk];by_cases h:g=k
   ·have hb:(g == k)=true:=beq_iff_eq.mpr h;simp only[List.lookup,hb,if_neg (λe:g=f=>hk (h.symm.trans e))]
   ·have hb:(g == k)=false:=beq_eq_false_iff_ne.mpr h;simp only[List.lookup,hb];exact a
theorem yN(f:Str)(v:V):∀fs:List (Str × V),f∈(eT f v fs).map (·.1)/\∀g,Yer g (·.1)->g∈(eT f v fs).map (·.1)
 | []=>⟨by simp[eT],λg h=>by simp at h⟩
 | (k,x)::r=>by
  obtain⟨i1,i2⟩:=yN f v r;rw[show eT f v ((k,x)::r)=(if k=f then(k,v)::r else(k,x)::eT f v r)from rfl];by_cases hk:k=f
  ·rw[if_pos hk];subst hk;exact⟨by simp,λg h=>by simpa using h⟩
  ·rw[if_neg hk];refine⟨?_,λg h=>?_⟩
   ·rw[bH];exact bD _ i1
   ·rw[bH]at h ⊢;rcases bN.mp h with e | e
    ·exact bN.mpr (.inl e)
    ·exact bD _ (i2 g e)
theorem lQ(f:Str)(v:V):∀fs:List (Str × V),(eT f v fs).length<=fs.length+1
 | []=>by simp[eT]
 | (k,x)::r=>by
  have ih:=lQ f v r;rw[show eT f v ((k,x)::r)=(if k=f then(k,v)::r else(k,x)::eT f v r)from rfl];by_cases hk:k=f
  ·rw[if_pos hk,cK,cK];exact Oo
  ·rw[if_neg hk,cK,cK];exact Oo
def tE.some_of{v:V}{o:Y9H}(r:tE (Yn) o):∃u,o=Yl/\Y3o:=by
 cases o with
 | none=>exact(show False from r).elim
 | some u=>exact Yx u r
def tE.none_of{o:Y9H}(r:tE none o):o=none:=by
 cases o with
 | none=>rfl
 | some u=>exact(show False from r).elim
def TQ{v:V}{u:Value}(r:Y3o):PySem.W.handedIn u=true:=by
 cases v with
 | non=>cases(show u=Value.none from r);rfl
 | bl b=>cases(show u=Value.bool b from r);rfl
 | int i=>obtain⟨t,e⟩:=(show ∃t,u=Value.int i t from r);cases e;rfl
 | str x=>obtain⟨t,e⟩:=(show ∃t,u=Value.str x t from r);cases e;rfl
 | byt b=>obtain⟨t,e⟩:=(show ∃t,u=Value.bytes b t from r);cases e;rfl
 | flt b=>obtain⟨t,e⟩:=(show ∃t,u=Value.float b t from r);cases e;rfl
 | ref a=>cases(show u=Value.ref a from r);rfl
 | ty n=>cases(show u=Value.type n from r);rfl
section
variable{P:Program}{w:World}{H H':Hp}{h h':Heap}{a C dx:Addr}{fs fs':Y3k}
def HH(hok:Y3r)(e:H a=Y5k):∃mA,OE h a dx C mA/\(∀f,tE (Ye1) (mA f))/\PySem.Within mA (fs.map (·.1))/\Yc4 1000/\H dx=Y77 a:=by
 obtain⟨d,z,ne,c,mA,n,r,q⟩:=(show hV P w H h a (.ins C dx fs)from hok a _ e);exact⟨mA,⟨c,n,ne⟩,r,q,z,d⟩
end
structure Cls(K:Aa)(C:Addr):Prop where
 pg:Yk3 C=true
 hd:YdB C=true
 po:YfN C=true
 sa:Y5M K C "__setattr__" = some (YhZ "object.__setattr__")
def Cls.get{K:Aa}{C:Addr}(c:Cls K C)(f:Str):Yfr C f=true:=c.pg
def oI(K:Aa)(C:Addr)(f:Str):Prop:=Y5M K C f=Y16
def oI.taker{K:Aa}{C:Addr}{f:Str}(n:oI K C f):PySem.W.takerIn K C f=Y16:=by
 unfold PySem.W.takerIn;rw[show PySem.W.findIn K (.ref C) f=some none from n]
 rfl
structure aFL(K:Aa)(C:Addr)(m:Str)(f:Addr):Prop where
 at_:Y5M K C m=Y3w f
 fn:Y9S K f=true
 kp:Y9P K f=true
section
variable{X:Cx}{pins:Ad}{σ:St}{H:Hp}{s:Shared}{a C dx:Addr}{fs:Y3k}{f:Str}{v:V}{A:Around}{E:Yc}
def NK{b:Bool}{Q:Yc}(I:Y4)(e:H a=Y5k)(c:Yfa)(n:oI X.K C f)(l:Ye1=Yn)
  (h:∀u s',Y4n s'->Y3o->Q u s'):Y6W A (getAttr (Yf) f b) Q E s:=by
 obtain⟨mA,O,r,_,_,_⟩:=HH I.hok e;obtain⟨u,d,ru⟩:=Yip (mA f) (by rw[<-l];exact r f);exact aBQ I.kIn O (c.get f) c.hd n d (TQ ru) (h u _ (I.tok _) ru)
def NJ{m:Str}{g:Addr}{pl:YhB}{Q:(Value × Ag)->(Y2d Shared)}(I:Y4)(e:H a=Y5k)(c:Yfa)(k:aFL X.K C m g)(l:fs.lookup m=none)
  (h:Q (.ref g,Y1O) s):Y6W A (getMethod (Yf) m pl) Q E s:=by
 obtain⟨mA,O,r,_,_,_⟩:=HH I.hok e;have d:mA m=none:=tE.none_of (by rw[<-l];exact r m);exact YS I.kIn O (c.get m) k.at_ k.fn d h
def MJ{y:V}{u:Value}{Q:Ycy}(I:Y4)(e:H a=Y5k)(c:Yfa)(n:oI X.K C f)(hl:fs.length<1000)(ry:Y2W)
  (h:∀s',Y4m (Y4J (.ins C dx (eT f y fs))) s'->Q () s'):Y6W A (setAttr (Yf) f u) Q E s:=by
 obtain⟨mA,O,r,d,_,i⟩:=HH I.hok e;have j:Y0z ((fs.map (·.1)).length):=by rw[aA,sizeLine_eq];exact Oo
 refine aAW I.kIn O c.sa c.po n.taker c.hd d j λp O' l=>h _ ?_;have hd:∃o,p.get? dx=Y9:=let ⟨o,_,_,e',_⟩:=O'.ns;⟨o,e'⟩;refine I.write (x:=a) (e:=dx) (by rw[e];exact True.intro) (.inr i) (λb q m z=>(l.2 b m).trans z) hd ⟨by rw[eP O.ne];exact i,?_,O.ne,O'.obj,_,O'.ns,λg=>?_,λg B=>?_⟩
 ·have:=lQ f y fs;exact Oo
 ·show tE ((eT f y fs).lookup g) (if g=f then Yl else mA g);rw[fC];by_cases q:g=f
  ·rw[Y4y,Y4y];exact ry
  ·rw[Y2f,Y2f];exact r g
 ·by_cases q:g=f
  ·rw[q];exact(yN f y fs).1
  ·refine(yN f y fs).2 g (d g λz=>B ?_);show(if g=f then Yl else mA g)=none;rw[Y2f];exact z
def cU.made(I:Y4):cU X pins σ (Y8D (YhW H (.own (Y1J))) Y1J C s.heap.objs.size [])
  { s with heap:=(s.heap.push PySem.W.emptyDict).push (PySem.W.instObj C s.heap.objs.size) }:=by
 have c:(s.heap.push PySem.W.emptyDict).get? s.heap.objs.size=some PySem.W.emptyDict:=bC s.heap rfl;have g:((s.heap.push PySem.W.emptyDict).push (PySem.W.instObj C s.heap.objs.size)).get? (Y1J)=some (YfZ s.heap.objs.size):=by
  have:=bC (s.heap.push PySem.W.emptyDict) (o:=YfZ s.heap.objs.size) rfl
  rwa [fW]at this
 have i:(s.heap.push PySem.W.emptyDict).Ns s.heap.objs.size (YdG):=⟨PySem.W.emptyDict,#[],_,c,rfl,(λe h=>absurd h (by simp)),λ_=>rfl⟩;have I1:=Yi1 (.own (Y1J)) (s.heap.push PySem.W.emptyDict) s.toks (λb u q=>Y9a) Yy (Y2T c);refine I1.laid (a:=Y1J) (o:=.ins C s.heap.objs.size []) (t':=s.toks) (λb u q=>Y9a) (Nat.le_of_eq (fW _ _)) ?_;have ne:YfY Y1J:=dN (YiI);refine⟨by rw[eP ne,bK],Y0l,ne,g,YdG,(Heap.Ns1.of_empty i).at λo q=>Y9a,λ_=>True.intro,λy d=>Y8w d⟩
def aCq{prog:Program}{w:World}{env:Env}{e:Expr}{f:Str}{pos:Pos}{s:Shared}{Q:Yc}(hb:attributeBase e f env (Y1t e)=Y1t e)
  (h:wpAny (model prog w) A (Y1t e) (λo s₁=>wpAny (model prog w) A (getAttr o f true) Q E s₁) E s):Y1K (Y1t (Yk6 e f)) :=
 Attribute_any_ h (by rw[arm_eval_Attribute,hb])
end
def aHA(K:Aa)(ta:TE)(f:Str):TE:=Yal σ H (∃a C dx fs v,x=Yf/\H1 a=Y5k/\Cls K C/\oI K C f/\Ye1=Yn/\Q v H1)
def aGf(K:Aa)(ta tv:TE)(f:Str):TS:=λD σ H=>tv σ H λy H1=>ta σ H1 λx H2=>∃a C dx fs,x=Yf/\H2 a=Y5k/\Cls K C/\oI K C f/\fs.length<1000 /\
 Y8m (Y8D H2 a C dx (eT f y fs))
section
variable{X:Cx}{o e value:Expr}{f:Str}{pos pos' tpos:Pos}{ta tv:TE}
def aEQ(he:Y08 e ta)(hb:attributeBase e f X.env Y12=Y12):Y08 (Yk6 e f) (aHA X.K ta f):=by
 intro d s σ H Q I h;refine aCq hb (thn (he d s σ H _ I h) λu m ⟨x,H1,I1,i,a,C,w,fs,v,j,g,c,n,l,q⟩=>?_);subst j;obtain rfl:u=Y76:=i;exact NK I1 g c n l λp r I2 ru=>⟨v,H1,I2,ru,q⟩
def aED(ha:Y08 o ta)(hv:Y08 value tv)(hs:YhQ (Yfl f pos')=Y3v):PS X (Ydx [Yfl f pos'] value) (aGf X.K ta tv f):=by
 intro d s σ H D I h;refine plainObj_wpAny_Assign_Attribute (thn (hv d s σ H _ I h) λu g ⟨y,H1,I1,i,q⟩=>thn (ha d g σ H1 _ I1 q) (λe z ⟨x,H2,I2,p,a,C,A,fs,r,m,c,n,l,j⟩=>?_)) hs;subst r;obtain rfl:e=Y76:=p;exact MJ I2 m c n l i λw I3=>⟨σ,_,I3,j⟩
end
section
variable{X:Cx}{pins:Ad}{σ:St}{H:Hp}{s:Shared}{A:Around}{E:Yc}{Q:Yc}{c:Value}{b:Bool}
end
structure jB(k:Nat)(A:Around):Prop where
 hd:Y69
 dp:A.depth+3*k+5<recursionLimit
 un:Y6g (16*k)+200<cLine
 gd:A.guards=some []
def jB.mono{j k:Nat}{A:Around}(r:jB k A)(h:j<=k):jB j A:=⟨r.hd,by have:=r.dp;exact Oo,by have:=r.un;exact Oo,r.gd⟩
theorem jB.deeper{k:Nat}{A:Around}(r:jB (k+1) A)(env:Env):jB k (A.deeper env) :=
 ⟨r.hd,by have:=r.dp;show A.depth+1+3*k+5<_;exact Oo,by have:=r.un;show Y6g 3+16*k+200<_;exact Oo,r.gd⟩
def NE{A:Around}{C:Addr}{us:Ag}{kw:Yaf}:(YdD "type.__call__" ⟨YaN::us,kw⟩).depth=A.depth+1:=by
 first | rfl | simp[Around.under,Code.weight,Code.isCreation,Code.isGuard,Code.isCaller,Code.frames,Code.isFrame,guardIds]
def ND{A:Around}{C:Addr}{us:Ag}{kw:Yaf}:(YdD "type.__call__" ⟨YaN::us,kw⟩).units=Y6g 1:=by
 first | rfl | simp[Around.under,Code.cUnits,Code.frames,Code.isFrame]
def jB.make{k:Nat}{A:Around}(r:jB (k+1) A)(C:Addr)(us:Ag)(kw:Yaf):jB k (YdD "type.__call__" ⟨YaN::us,kw⟩) :=
 ⟨r.hd,by have:=r.dp;rw[NE];exact Oo,by have:=r.un;rw[ND];exact Oo,by first | exact r.gd | (simpa[Around.under,Code.guards,Code.isGuard,guardIds,pushGuards]using r.gd)⟩
theorem jB.depth{k:Nat}{A:Around}(r:jB k A):A.depth<recursionLimit:=by have:=r.dp;exact Oo
theorem jB.units{k:Nat}{A:Around}(r:jB k A):Y6g 64<cLine:=by have:=r.un;exact Oo
def IS:TA:=Yhf [] H
def pT(ta:TE)(tr:TA):TA:=Yal σ H (tr σ H1 λxs H2=>Q (x::xs) H2)
section
variable{X:Cx}{e:Expr}{es:Y0b}{te:TE}{t:TA}{pos:Pos}
def pa_nil:PA X [] IS:=λ_ _ _ _ H Q I h=>Calls.spliced_nil ⟨[],H,I,.nil,h⟩
def aBx(ha:YaW)(hr:PA X es t)(hs:Y3n=(false,Y12)::Y2z:=by rfl):PA X (e::es) (pT te t):=by
 intro pos a s σ H Q I h;rw[hs];show Y2X (spliced ((false,Y12)::backTo pos (Y2z)));refine Yih (ha a s σ H _ I h) (λu c ⟨x,H1,I1,i,g⟩=>?_);exact thn (hr pos a c σ H1 _ I1 g) λm n ⟨l,H2,I2,j,d⟩=>⟨x::l,H2,I2,.cons i j,d⟩
def aHx(t:TA):TE:=Yh8 (Y4o/\∀p,H1 p=none->Y4l p (upd H1 p (.tup xs)))
def aHy(t:TA):TE:=Yh8 (Y4o/\∀p,H1 p=none->Y4l p (Ybh H1 p xs))
def aEM{x1}(h:PA X es t):Y08 (YhC es x1) (aHx t):=by
 intro a s σ H Q I g;refine wpAny_Tuple_spliced (thn (h pos a s σ H _ I g) λi c ⟨j,H1,I1,r,z,q⟩=>Y0j (by rw[<-r.length];exact z));have d:H1 c.heap.objs.size=none:=Yiy;refine Y0E YfA (upd H1 c.heap.objs.size (.tup j)) (YiP c.toks (λb u e=>Y2n) ?_) (q _ d);exact⟨Y7B z _ Y1l,i,r,Y3P Y1l _ rfl⟩
def aEP(h:PA X es t):Y08 (.List es pos) (aHy t):=by
 intro a s σ H Q I g;refine wpAny_List_spliced (thn (h pos a s σ H _ I g) λi c ⟨j,H1,I1,r,z,q⟩=>Y0j (by rw[<-r.length];exact z));have d:H1 c.heap.objs.size=none:=Yiy;refine Y0E YfA (Ybh H1 c.heap.objs.size j) (YiP c.toks (λb u e=>Y2n) ?_) (q _ d);exact⟨z,i,0,r,Y1l⟩
end
abbrev Sp:=Yk
abbrev UP:=Y2P->Hp->Shared->XK->Yc
structure OI(P:Program)(w:World)(K:Aa)(mg:Y0y)(base:Heap)(A:Around)(outer:Y2P)(s:Shared)(H:Hp):Prop where
 frames:A.frames=some outer
 mod:Mod K mg base
 bs:Y0W (base.get? b=Y9) (Y3g/\H b=none)
 bsz:base.objs.size<=s.heap.objs.size
 funs:s.heap.FunFrames base outer
 frf:∀b∈frs outer,H b=none
 hok:tF P w H s.heap
 bare:AllBare s.gens
def CE(outer:Y2P)(P:Program)(w:World)(H:Hp)(s:Shared)(Q:VK)(u:Value)(s':Shared):Prop :=
 ∃v H',s'.os=s.os/\YdI/\Un (frs outer) [] H H' s.heap s'.heap/\tF P w H' s'.heap/\Y3o/\Y1o
def CR(CX:UP)(outer:Y2P)(P:Program)(w:World)(H:Hp)(s:Shared)(Q:VK)(E:XK)(r:Result)(s':Shared):Prop :=
 match r with
 | .ok (.ret u)=>CE outer P w H s Q u s'
 | .ok _=>False
 | .error e=>CX outer H s E e s'
structure dO(P:Program)(w:World)(K:Aa)(mg:Y0y)(base:Heap)(CX:UP)(k:Nat)(f:Addr)(fd:FuncData)(ps:Ah)(sp:Sp):Prop where
 len:∀vs H Q E,sp vs H Q E->YbF
 run:∀(A:Around) (outer:Y2P) (s:Shared) (H:Hp) (args:Args) (us:Ag) (vs:Al) (Q:VK) (E:XK),jB k A->OI P w K mg base A outer s H->Ycj s args (ps.zip us)->Y92->sp vs H Q E ->
  YbO P w A (YbT f args) (CR CX outer P w H s Q E) s
def OI.make{P:Program}{w:World}{K:Aa}{mg:Y0y}{base:Heap}{A:Around}{outer:Y2P}{s:Shared}{H:Hp}(e:OI P w K mg base A outer s H)(C:Addr)(us:Ag)(kw:Yaf) :
  OI P w K mg base (YdD "type.__call__" ⟨YaN::us,kw⟩) outer s H:=⟨by first | exact e.frames | (simpa[Around.under,Code.envs,Code.isFrame,pushEnvs]using e.frames),e.mod,e.bs,e.bsz,e.funs,e.frf,e.hok,e.bare⟩
section
variable{X:Cx}{pins:Ad}{σ:St}{H:Hp}{s s':Shared}
def cU.env0(I:Y4):OI X.prog X.w X.K X.mg X.base X.A X.stack s H :=
 ⟨I.ok.frames,I.ok.mod,I.bs,Ya9 I.sz,I.stack,I.stkFree,I.hok,I.bare⟩
def cU.after{Q:VK}{u:Value}(I:Y4)(h:CE X.stack X.prog X.w H s Q u s'):EP X pins σ Q u s':=by
 obtain⟨v,H',os,a,un,e,r,q⟩:=h;obtain⟨i,g,d,t,c⟩:=s';obtain rfl:c=s.os:=os;exact⟨v,H',I.call (h':=i) (g':=g) (d':=d) (t':=t) (ch:=[]) un e a (Ygv z (by simp)),r,q⟩
end
def zH(sp:Sp)(dvs:Al)(E:XK)(t:TA):TE:=λσ H Q=>t σ H (λvs H1=>sp (Y97) H1 Q E)
def aCF(C:Addr)(m:Str)(sp:Sp)(dvs:Al)(E:XK)(ta:TE)(t:TA):TE:=λσ H Q=>ta σ H λx H1=>∃a dx fs,x=Yf/\H1 a=Y5k/\fs.lookup m=none /\
 t σ H1 λvs H2=>sp (x::(Y97)) H2 Q E
def aCG(C:Addr)(sp:Sp)(dvs:Al)(E:XK)(t:TA):TE:=λσ H Q=>t σ H λvs H1=>∀x dx,H1 x=none->H1 dx=none->dx≠x ->
 sp (Y1H::(Y97)) (Y8D (upd H1 dx (.own x)) x C dx []) (λv H2=>v=.non/\Y99 x) E
def uE(K:Aa)(fd:FuncData)(ps:Ah)(ds:Ag):Prop :=
 ∀(s:Shared) (us:Ag),YbU->(us++ds).length=ps.length->Ycj s ⟨us,[]⟩ (ps.zip (us++ds))
def uE.all{K:Aa}{fd:FuncData}{ps:Ah}(h:∀us:Ag,YjD->bindArgs fd ⟨us,[]⟩=pure (ps.zip us)):uE K fd ps []:=λs us _ a=>by
 rw[List.append_nil]at a ⊢;exact .of_eq (h us a)
def yZ(CX:UP)(X:Cx)(E:XK):Prop:=∀(pins:Ad) (σ:St) (H:Hp) (s:Shared) (e:Value) (s':Shared),Y4->CX X.stack H s E e s'->X.xe e s'
section
variable{X:Cx}{CX:UP}{k:Nat}{f C:Addr}{fd:FuncData}{ps:Ah}{sp:Sp}{dvs:Al}{ds:Ag}{E:XK}{x m:Str}{p pos apos:Pos}{e o:Expr}{es:Y0b}{ta:TE}{t:TA}
def WV{pins:Ad}{σ:St}{H:Hp}{s:Shared}{Q:VK}{us:Ag}{vs:Al}(F:dO X.prog X.w X.K X.mg X.base CX k f fd ps sp)(hr:Y6A)(hb:uE X.K fd ps ds)(hd:eI dvs ds)(hx:yZ CX X E)
  (I:Y4) (r:Y92) (h:sp (Y97) H Q E):Y6B (call (.ref f) us) X Q:=by
 have c:eI (Y97) (us++ds):=r.append hd;have g:(us++ds).length=ps.length:=by rw[<-c.length];exact F.len _ _ _ _ h
 refine wpAny_call (codeAny_mono (F.run X.A X.stack s H ⟨us,[]⟩ (us++ds) (Y97) Q E hr I.env0 (hb s us I.kIn g) c h) λr d a=>?_);cases r with
 | error e=>exact hx pins σ H s e d I a
 | ok fl =>
  cases fl with
  | ret u=>exact I.after a
  | next=>exact YbN
  | brk=>exact YbN
  | cont=>exact YbN
def aBv(F:dO X.prog X.w X.K X.mg X.base CX k f fd ps sp)(hr:Y6A)(hg:Y2J)(hm:Y5i=Y6 f)(hk:Y9P X.K f=true)(hb:uE X.K fd ps ds)(hd:eI dvs ds)(hx:yZ CX X E)
  (ha:PA X (e::es) t) (hdb:Y1m ("__debug__" : Str):=by decide) (he:Y3n=(false,Y12)::Y2z:=by rfl) (hpl:Yw ((backTo pos (starEach es X.env)).any (·.1)):=by rfl) :
  Y08 (.Call (.Name x p) (e::es) [] pos) (zH sp dvs E t):=by
 intro a s σ H Q I h;refine wpAny_Call_Name_kw (HG I hg hm ?_ hdb);refine PySem.W.callWith_K (h₀:=X.base) I.ok.mod.kin hk (thn (ha pos a s σ H _ I h) λg d ⟨c,H1,I1,r,q⟩=>Y0j I1.kIn) he hpl;exact WV F hr hb hd hx I1 r q
def aBo{pl:YhB}(he:Y08 o ta)(c:Yfa)(hm:aFL X.K C m f)(F:dO X.prog X.w X.K X.mg X.base CX k f fd ps sp)(hr:Y6A)(hb:uE X.K fd ps ds)(hd:eI dvs ds)(hx:yZ CX X E)(ha:PA X (e::es) t)
  (hst:Y3n=(false,Y12)::Y2z:=by rfl) (hpl:Yw ((backTo pos (starEach es X.env)).any (·.1)):=by rfl)
  (ht:eval (.Call (.Attribute o m apos) (e::es) [] pos) X.env=(do
   let ov <-eval o X.env
   standAt apos.atName
   let (f,first) <-holding [ov] (getMethod ov m pl)
   callWith pos f first (backTo pos (starEach (e::es) X.env)) (backToKw pos (keywordEach [] X.env))):=by rfl) :
  Y08 (.Call (Yfl m apos) (e::es) [] pos) (aCF C m sp dvs E ta t):=by
 intro d s σ H Q I h;refine PySem.W.methodCall_KW (pl:=pl) (thn (he d s σ H _ I h) λu g ⟨x,H1,I1,n,a,z,fs,p,j,l,q⟩=>?_) ht;subst p;obtain rfl:u=Y76:=n;refine NJ I1 j c hm l (PySem.W.callWith_K (first:=Y1O) (h₀:=X.base) I.ok.mod.kin hm.kp (thn (ha pos d g σ H1 _ I1 q) λus y ⟨vs,H2,I2,r,i⟩=>Y0j I2.kIn) hst hpl);exact WV (us:=Yf::us) (vs:=Yf::vs) F hr hb hd hx I2 (YhF r) i
structure Mk(K:Aa)(C f:Addr):Prop where
 makes:Yg0 C=true
 init:Y5M K C "__init__" = Y3w f
 fn:Y9S K f=true
 kp:Y9P K C=true
def WU{pins:Ad}{σ:St}{H:Hp}{s:Shared}{Q:VK}{us:Ag}{vs:Al}(M:Mk X.K C f)(F:dO X.prog X.w X.K X.mg X.base CX k f fd ps sp)(hr:jB (k+1) X.A)(hb:uE X.K fd ps ds)(hd:eI dvs ds)
  (hx:yZ CX X E) (I:Y4) (r:Y92)
  (h:∀x dx,H x=none->H dx=none->dx≠x->sp (Y1H::(Y97)) (Y8D (Y3B dx (.own x)) x C dx []) (λv H2=>v=.non/\Y99 x) E) :
  Y6B (call (YaN) us) X Q:=by
 have d:=h (Y1J) s.heap.objs.size (I.hok.fresh (Yjx)) (Y2D) (dN (YiI));have I2:=cU.made (C:=C) I;have c:eI (V.ref (Y1J)::(Y97)) (YdJ::(us++ds)):=YhF (r.append hd);have i:(YdJ::us++ds).length=ps.length:=by
  have e:=c.length;rw[F.len _ _ _ _ d]at e;exact e.symm
 refine wpAny_call (YC (f:=f) I.kIn M.makes M.init (beq_iff_eq.mp M.fn) (codeAny_mono (F.run _ X.stack _ _ ⟨YdJ::us,[]⟩ (YdJ::(us++ds)) _ _ E (hr.make C us [])
  (I2.env0.make C us []) (hb _ (YdJ::us) I2.kIn i) c d) λr g a=>?_))
 cases r with
 | error e=>exact hx pins σ _ _ e g I2 a
 | ok fl =>
  cases fl with
  | ret u =>
   obtain⟨v,H',I3,rv,l,j⟩:=I2.after a;subst l;exact⟨rv,Y0E (V.ref (Y1J)) H' I3 j⟩
  | next=>exact YbN
  | brk=>exact YbN
  | cont=>exact YbN
def aBp(M:Mk X.K C f)(F:dO X.prog X.w X.K X.mg X.base CX k f fd ps sp)(hr:jB (k+1) X.A)(hg:Y2J)(hm:Y5i=Y6 C)(hb:uE X.K fd ps ds)(hd:eI dvs ds)(hx:yZ CX X E)
  (ha:PA X (e::es) t) (hdb:Y1m ("__debug__" : Str):=by decide) (he:Y3n=(false,Y12)::Y2z:=by rfl) (hpl:Yw ((backTo pos (starEach es X.env)).any (·.1)):=by rfl) :
  Y08 (.Call (.Name x p) (e::es) [] pos) (aCG C sp dvs E t):=by
 intro a s σ H Q I h;refine wpAny_Call_Name_kw (HG I hg hm ?_ hdb);refine PySem.W.callWith_K (h₀:=X.base) I.ok.mod.kin M.kp (thn (ha pos a s σ H _ I h) λg d ⟨c,H1,I1,r,q⟩=>Y0j I1.kIn) he hpl;exact WU M F hr hb hd hx I1 r q
end
section
variable{X:Cx}{CX:UP}{k:Nat}{f C:Addr}{fd:FuncData}{ps ks:Ah}{sp:Sp}{E:XK}{x m:Str}{p pos apos kpos:Pos}{e o:Expr}{es:Y0b}{kws:List Keyword}{te ta:TE}{t tk:TA}{nm:Option Str}
variable{g:Ag->Ag->Ag}{gV:Al->Al->Al}
end
structure bV(N P:Ah)(sc:Scope):Prop where
 kind:sc.kind=.function:=by rfl
 co:Yw sc.isCoroutine:=by rfl
 gen:Yw sc.isGenerator:=by rfl
 nd:N.Nodup:=by exact Kk
 pre:N.take P.length=P:=by rfl
 par:∀x∈P,Y8k=Y35\/Y8k=Y2e:=by exact Kk
 nofree:∀y∈sc.names,y.2 ≠ .free:=by exact Kk
theorem FQ{kindOf:Str->Yg2}{x:Str}:∀{binds:Yaf}{m:Y0y},(∀v,(x,v) ∉ binds)->bindL kindOf binds m x=m x
 | [],_,_=>rfl
 | (n,v)::r,m,h=>by
  unfold bindL;rw[FQ λw hw=>h w (bD _ hw)];split
  ·have:x≠n:=by rintro rfl;exact h v aY
   simp[this]
  ·rfl
theorem FS{kindOf:Str->Yg2}{x:Str}:∀{binds:Yaf}{m:Y0y},(∀v,(x,v) ∉ binds)->bindC kindOf binds m x=m x
 | [],_,_=>rfl
 | (n,v)::r,m,h=>by
  unfold bindC;rw[FS λw hw=>h w (bD _ hw)];split
  ·rfl
  ·have:x≠n:=by rintro rfl;exact h v aY
   simp[this]
theorem FR{kindOf:Str->Yg2}{x:Str}{v:Value}:∀{P:Ah}{vs:Ag}{i:Nat}{m:Y0y},P.Nodup->P[i]?=Yb->vs[i]?=Yn->kindOf x=Y35 ->
  bindL kindOf (P.zip vs) m x=Yn
 | [],_,_,_,_,h,_,_=>by simp at h
 | _::_,[],_,_,_,_,h,_=>by simp at h
 | p::P,w::vs,0,m,nd,h1,h2,hk=>by
  simp at h1 h2;subst h1;subst h2;show bindL kindOf ((p,w)::P.zip vs) m p=_;unfold bindL;rw[FQ λv hv=>(List.nodup_cons.mp nd).1 (List.of_mem_zip hv).1,if_pos hk];simp
 | p::P,w::vs,i+1,m,nd,h1,h2,hk=>by
  show bindL kindOf ((p,w)::P.zip vs) m x=_;unfold bindL;exact FR (i:=i) (List.nodup_cons.mp nd).2 (by simpa using h1) (by simpa using h2) hk
theorem FT{kindOf:Str->Yg2}{x:Str}{v:Value}:∀{P:Ah}{vs:Ag}{i:Nat}{m:Y0y},P.Nodup->P[i]?=Yb->vs[i]?=Yn->kindOf x≠Y35 ->
  bindC kindOf (P.zip vs) m x=Yn
 | [],_,_,_,_,h,_,_=>by simp at h
 | _::_,[],_,_,_,_,h,_=>by simp at h
 | p::P,w::vs,0,m,nd,h1,h2,hk=>by
  simp at h1 h2;subst h1;subst h2;show bindC kindOf ((p,w)::P.zip vs) m p=_;unfold bindC;rw[FS λv hv=>(List.nodup_cons.mp nd).1 (List.of_mem_zip hv).1,if_neg hk];simp
 | p::P,w::vs,i+1,m,nd,h1,h2,hk=>by
  show bindC kindOf ((p,w)::P.zip vs) m x=_;unfold bindC;exact FT (i:=i) (List.nodup_cons.mp nd).2 (by simpa using h1) (by simpa using h2) hk
def start(N:Ah)(vs:Al):St:=(vs.map some) ++ (List.replicate (N.length-vs.length) none)
def KN(CX:UP)(P:Program)(w:World)(K:Aa)(mg:Y0y)(base:Heap)(N:Ah)(qual:Str)(scope:Scope)(f:Addr)(cd:Value)(A:Around)(outer:Y2P)(s:Shared)(H:Hp)(E:XK):Cx where
 prog:=P
 w:=w
 K:=K
 mg:=mg
 base:=base
 A:=YcT scope f cd
 N:=N
 s₀:=s
 H₀:=H
 env:=Yfg f cd
 outer:=outer
 stack:=Yfg f cd::outer
 ex:=[]
 calm:=true
 fn:=YkB
 pn:=[]
 xe:=λe s'=>wpAny (model P w) (YcT scope f cd) (leaving (Yfg f cd) e) (λ_ s''=>CX outer H s E e s'') (λe' s''=>CX outer H s E e' s'') s'
def LC{sc:Scope}{n:Nat}{x:Str}(h:Y8k=Y2e):∃c,(cellsFrom n sc.names []).lookup x=Y1b:=by
 have q:=PySem.W.cellsFrom_some sc.names n [] (YcV);exact Option.isSome_iff_exists.mp q
def TK{CX:UP}{P:Program}{w:World}{K:Aa}{mg:Y0y}{base:Heap}{N ps:Ah}{qual:Str}{scope:Scope}{f:Addr}{cd:Value}{A:Around}{outer:Y2P}{s s1:Shared}{H:Hp}{E:XK}{us:Ag}{vs:Al}
  (S:bV N ps scope) (hd:Y69) (e0:OI P w K mg base A outer s H) (hl:YbF) (r:Y92)
  (x:InCallC s s.heap.objs.size (bindL (Yfg f cd).kindOf (ps.zip us) YdG) (cellsFrom (Y1J) scope.names []) (bindC (Yfg f cd).kindOf (ps.zip us) YdG) s1) :
  cU (KN CX P w K mg base N qual scope f cd A outer s H E) [] (Yav N) H s1:=by
 have J:ps.length<=N.length:=by have:=Y8i S.pre;rw[gB]at this;exact Oo
 obtain⟨B,M,rfl,D⟩:=x.done;have g:∀b:Addr,b ∉ (KN CX P w K mg base N qual scope f cd A outer s H E).ex:=Ygv (show b∈([]:List Addr)from z) (by simp);refine⟨⟨e0.mod,S.kind,rfl,rfl,Yy,λy z c B d=>?_,λy j=>?_,λy c _ h=>?_,λ_=>hd,Around.frames_deeper e0.frames,.inr Y4D,Ygv z (g b),e0.bs,e0.bsz,λb _ _=>g b,Ygv z (g b),e0.funs,e0.frf⟩,
  rfl,e0.bare,Un.kept D,Y0C x.toInCall.ns (λi y v B d L=>?_),λy c h=>Y2T (x.cell y c h),e0.hok.fresh (Yy),λy c h=>?_,λp m=>absurd (show p∈([]:Ad)from m) (by simp),e0.hok.kept D,?_⟩
 ·exact name_of_addr x.apart (PySem.mem_of_lookup B) (PySem.mem_of_lookup d)
 ·have j:Ydm y Y2e\/Ydm y YgW:=j;rcases j with j | j
  ·exact LC j
  ·exact Y8w (S.nofree _ (PySem.mem_of_lookup j))
 ·exact Nat.le_of_lt (x.above y c (PySem.mem_of_lookup h))
 ·have C:i<vs.length:=by
   unfold start at d;by_cases C:i<vs.length
   ·exact C
   ·rw[cF (by simpa using C)]at d;rw[List.getElem?_replicate]at d;split at d <;> cases d
  have I:vs[i]?=Yn:=by
   unfold start at d;rw[cN (by simpa using C),aG]at d;cases e:vs[i]? with
   | none=>rw[e]at d;cases d
   | some a=>rw[e]at d;cases d;rfl
  obtain⟨u,G,rv⟩:=r.get I;have m:ps[i]?=Y03:=by
   rw[<-S.pre,List.getElem?_take_of_lt Oo];exact B
  have l:ps.Nodup:=by rw[<-S.pre];exact S.nd.sublist (List.take_sublist _ _)
  refine Y0n u rv;rcases S.par y (aE m)with k | k
  ·exact Y38 k (FR l m G k)
  ·obtain⟨c,e⟩:=LC (n:=Y1J) k;refine .inr (Y1R (.inl k) c e);have q:=x.cell y c e;rw[FT l m G (by show scope.names.lookup y≠_;rw[k];decide)]at q;exact q
 ·exact e0.hok.fresh (Nat.le_of_lt (x.above y c (PySem.mem_of_lookup h)))
 ·unfold start;show _=N.length;rw[aW,aA,bM];exact Oo
def aGL{CX:UP}{P:Program}{w:World}{K:Aa}{mg:Y0y}{base:Heap}{k:Nat}{f:Addr}{name qual:Str}{params:Arguments}{body:Y4w}{scope:Scope}{dV kV doc pm cdv ct oc:Value}{an od:Y2N}
  {osl:Y55} {N ps:Ah} {sp:Sp} (lk:YgZ=Y8T oc od (PySem.W.fnOf name qual params body scope dV kV doc pm an cdv ct) osl) (hcd:Yg8 cdv qual=true) (S:bV N ps scope)
  (len:∀vs H Q E,sp vs H Q E->YbF)
  (hbody:∀(A:Around) (outer:Y2P) (s:Shared) (H:Hp) (vs:Al) (Q:VK) (E:XK),jB k (YcT scope f cdv)->sp vs H Q E ->
   ∃t,OC (KN CX P w K mg base N qual scope f cdv A outer s H E) body t/\t { nx:=λ_ H'=>Q .non H',rt:=Q } (Yav N) H) :
  dO P w K mg base CX (k+1) f (PySem.W.fnOf name qual params body scope dV kV doc pm an cdv ct) ps sp:=by
 refine⟨len,λA outer s H z G vs Q E m g C r d=>?_⟩;have M:=len _ _ _ _ d;have KX:YbU:=g.mod.kin.keeps λb o e=>(g.bs b o e).1;have j:s.heap.NoLimit:=g.mod.nolimit.keeps λb o e=>(g.bs b o e).1;have a:∀y∈ps.zip G,Y4E y.1\/(Ydm y.1 Y2e/\((cellsFrom (s.heap.objs.size+1) scope.names []).lookup y.1).isSome=true):=λ⟨n,v⟩ T=>by
  rcases S.par n (List.of_mem_zip T).1 with q | q
  ·exact .inl q
  ·exact Y3x q (PySem.W.cellsFrom_some _ _ _ (.inl q))
 refine codeAny_call_function m.depth (KX _ _ lk) rfl S.co S.gen rfl (PySem.W.codeRec_of KX hcd) (C _ _ _ _ ?_);refine wpAny_newFunctionEnv_cells S.kind a λL O p x=>?_;subst O;refine⟨j.keeps x.toInCall.keep,codeAny_func ?_⟩;obtain⟨t,B,D⟩:=hbody A outer s H vs Q E (m.deeper _) d;have I:cU (KN CX P w K mg base N qual scope f cdv A outer s H E) [] (Yav N) H p:=TK S m.hd g M r x;refine wpAny_mono (B [] p (Yav N) H _ I D) (λR l c=>?_) λe l c=>c;have h:∀{i:St} {H':Hp} {v:V} {u:Value},cU (KN CX P w K mg base N qual scope f cdv A outer s H E) [] i H' l->Y3o->Y1o->CE outer P w H s Q u l :=
  λ{i H' v u} J rv q=>⟨v,H',J.os,J.bare,J.base,J.hok,rv,q⟩
 cases R with
 | ret u =>
  obtain⟨v,i,H',J,rv,q⟩:=c;exact h J rv q
 | next =>
  obtain⟨i,H',J,q⟩:=c;exact h (v:=V.non) (u:=Value.none) J rfl q
 | brk =>
  obtain⟨_,_,_,q⟩:=c;exact False.elim q
 | cont =>
  obtain⟨_,_,_,q⟩:=c;exact False.elim q
section
variable{X:Cx}{x:Str}{p pos:Pos}{e:Expr}{es:Y0b}{t:TA}{id T:String}{r:Y1i}
def tCB(r:Y1i)(t:TA):TE:=λσ H Q=>t σ H (λvs H1=>r vs H1 Q)
def XT(hc:Y4i id r)(hg:Y2J)(hm:Y5i=none)(hv:Y9Z=YhZ id)(ha:PA X (e::es) t)(hn:x ≠ "__name__" := by decide)(hdb:Y1m ("__debug__" : Str):=by decide)
  (he:Y3n=(false,Y12)::Y2z:=by rfl) (hpl:Yw ((backTo pos (starEach es X.env)).any (·.1)):=by rfl):Y08 (.Call (.Name x p) (e::es) [] pos) (tCB r t):=by
 intro a s σ H Q I h;refine wpAny_Call_Name_kw (vW I hg hm hv ?_ hn hdb);exact PyProof.Rows.callWith_builtin1 (thn (ha pos a s σ H _ I h) λi d ⟨c,H1,I1,g,j⟩=>hc a d σ H1 c i Q I1 g j) he hpl
def SS(hc:mN X (.type T) r)(hg:Y2J)(hm:Y5i=none)(hv:Y9Z=some (.type T))(ha:PA X (e::es) t)(hn:x ≠ "__name__" := by decide)(hdb:Y1m ("__debug__" : Str):=by decide)
  (he:Y3n=(false,Y12)::Y2z:=by rfl) (hpl:Yw ((backTo pos (starEach es X.env)).any (·.1)):=by rfl):Y08 (.Call (.Name x p) (e::es) [] pos) (tCB r t):=by
 intro a s σ H Q I h;refine wpAny_Call_Name_kw (vW I hg hm hv ?_ hn hdb);exact Ybj (ha pos a s σ H _ I h) (λi d ⟨c,H1,I1,g,j⟩=>hc a d σ H1 c i Q I1 g j) he hpl
end
end L2
namespace HT
open PySem PyProof.Rows
def vK:Af->Y24 Af
 | [],[]=>false
 | [],_::_=>true
 | _::_,[]=>false
 | x::xs,y::ys=>if x=y then vK xs ys else decide (x<y)
def CK(x y:Int)(xs ys:Af):vK (x::xs) (y::ys)=if x=y then vK xs ys else Y1c x y:=rfl
def YY(A:Around)(s:Shared)(a:Int)(t:Tok)(c:Int)(u:Tok):∃e,SeqAt.EqAt A s (Y3E a) (Y96 c) e/\(e=true↔a=c) :=
 ⟨(a == c),SeqAt.EqAt.int_int a t c u,by simp⟩
section
open PySem.SeqAt
open PySem.AutoSeq1 (wpAny_loadPart')
open PySem.MeetsSeq PySem.MeetsSeq2 PySem.MeetsSeq3
end
section
variable{prog:Program}{w:World}{A:Around}{E:Yc}{s:Shared}
def aCa{t b:Addr}{vs ws:Ag}{Q:Yc}(ht:Ye6 t vs.toArray)(hb:Ye6 b ws.toArray)(hv:vs≠[])
  (h1:ws=[]->Y4l t s) (h2:ws≠[]->Q Y1r ({ s with heap:=s.heap.push { cls:=.type "tuple",data:=.seq (vs++ws).toArray } }))
  (hsz:Y0z (vs.length+ws.length)):Y1K (binaryOp .Add (.ref t) (Y0e)):=by
 obtain⟨⟨cls,r,data,sl⟩,i,l,n,hd⟩:=id ht;obtain⟨⟨m,d,j,g⟩,a,c,p,h⟩:=id hb;simp only at l hd c h;subst l hd c h;have e:vs.toArray++ws.toArray=(vs++ws).toArray:=by simp
 by_cases hw:ws=[]
 ·exact concat_meets (Y0B i) (Y0B a) noFill_tuple_add seq_tuple_add PySem.F.slot_tuple_add PySem.F.entry_tuple_add (Yie _)
   (tuple_addW1 t b vs.toArray ws.toArray n p r d sl g (by simpa using hv) (by simp[hw])) ⟨i,a,h1 hw⟩
 ·refine concat_meets (Y0B i) (Y0B a) noFill_tuple_add seq_tuple_add PySem.F.slot_tuple_add PySem.F.entry_tuple_add (Yie _)
   (tuple_addW2 t b vs.toArray ws.toArray n p r d sl g (by simpa using hv) (by simpa using hw) (by rw[bI,bI];exact hsz)) (Y0n i a)
  rw[e];exact h2 hw
def lB(n d:Nat):Y0X->Nat
 | none=>d
 | some v=>if v<0 then(v+(n:Int)).toNat else min v.toNat n
def wZ(n d:Nat):lB n d none=d:=rfl
def GN(n d k:Nat):lB n d (some (k:Int))=min k n:=by
 show(if(k:Int)<0 then((k:Int)+(n:Int)).toNat else min (k:Int).toNat n)=min k n;rw[Y2O,Int.toNat_natCast]
def aEq(n d:Nat)(hd:d<=n)(o:Y0X):lB n d o<=n:=by
 cases o with
 | none=>exact hd
 | some v =>
  show(if v<0 then(v+(n:Int)).toNat else min v.toNat n)<=n;by_cases hv:v<0
  ·rw[if_pos hv];exact Oo
  ·rw[if_neg hv];exact Nat.min_le_right _ _
def RF(v:Int)(n d:Nat):(if v<0 then max (v+(n:Int)) 0 else min v (n:Int))=((lB n d (some v):Nat):Int):=by
 show(if v<0 then max (v+(n:Int)) 0 else min v (n:Int))=(((if v<0 then(v+(n:Int)).toNat else min v.toNat n):Nat):Int);by_cases hv:v<0
 ·simp only[if_pos hv];exact Oo
 ·simp only[if_neg hv];exact Oo
def NY(lo hi:Y0X)(n:Nat):Builtin.Slice.sliceAdjust lo hi 1 (n:Int)=(((lB n 0 lo:Nat):Int),((lB n n hi:Nat):Int)):=by
 have a:¬((1:Int)<0):=Oo;unfold Builtin.Slice.sliceAdjust;simp only[a,if_false];refine Prod.ext ?_ ?_
 ·cases lo with
  | none=>rfl
  | some v=>exact RF v n 0
 ·cases hi with
  | none=>rfl
  | some v=>exact RF v n n
def MV(i j:Nat):Builtin.Slice.slicePlaces (i:Int) (j:Int) 1=j-i:=by
 unfold Builtin.Slice.slicePlaces;have a:(1:Int) > 0:=Oo;simp only[a,if_true,Int.ediv_one];split <;> exact Oo
def BQ{v:Value}{o:Y0X}{Q:Y0X->(Y2d Shared)}(p:IsPart v o)(h:Q o s):Y1K (Builtin.Slice.slicePartIndex v):=by
 cases p with
 | none=>exact slicePart_none h
 | int i t=>exact slicePart_int h
def rC{sl:Addr}{vl vu:Value}{lo hi:Y0X}{n:Nat}{Q:(Int × Int × Nat)->(Y2d Shared)}(hs:YfK sl vl vu)(pl:YhG lo)(pu:YhH hi)
  (h:Q (((lB n 0 lo:Nat):Int),1,lB n n hi-lB n 0 lo) s):Y1K (Builtin.Slice.sliceApplied (.ref sl) (pure (n:Int))):=by
 obtain⟨e,a,d,c⟩:=id hs;unfold Builtin.Slice.sliceApplied Builtin.Slice.sliceFields;refine wpAny_bind (wpAny_bind (wpAny_field a c (x:=vl) rfl (wpAny_bind (wpAny_field a c (x:=vu) rfl (wpAny_bind (wpAny_field a c (x:=.none) rfl Y1X))))));refine wpAny_bind (slicePart_none ?_);show Y2X (if((1:Int) == 0)=true then _ else _);rw[Y20];refine wpAny_bind (BQ pl (wpAny_bind (BQ pu (YaS))));show wpAny _ _ (match Builtin.Slice.sliceAdjust lo hi 1 (n:Int)with | (lo,hi)=>pure (lo,(1:Int),Builtin.Slice.slicePlaces lo hi 1)) _ _ s;rw[NY lo hi n];show Y2X (pure (((lB n 0 lo:Nat):Int),(1:Int),Builtin.Slice.slicePlaces ((lB n 0 lo:Nat):Int) ((lB n n hi:Nat):Int) 1));rw[MV];exact wpAny_pure h
def XJ(xs:Ai)(i k:Nat):((List.range k).filterMap λ(m:Nat)=>Y1Q (((i:Int)+(m:Int)*1).toNat)).toArray=((xs.toList.drop i).take k).toArray:=by
 have e:(λ(m:Nat)=>Y1Q (((i:Int)+(m:Int)*1).toNat))=λm=>Y1Q (i+m):=by
  funext m
  have:((i:Int)+(m:Int)*1).toNat=i+m:=Oo;rw[this]
 rw[e];have:=pick_run xs i k;rw[List.filterMap_map]at this;have a:((λx=>xs[x]?) ∘ λx=>i+x)=λm=>xs[i+m]?:=rfl;rw[a]at this;rw[this]
def xI{t sl:Addr}{items:Ai}{vl vu:Value}{lo hi:Y0X}{Q:Yc}(ht:Ye6 t items)(hs:YfK sl vl vu)(pl:YhG lo)(pu:YhH hi)
  (hw:¬(Y82=0/\Y6m=items.size))
  (h:Q Y1r ({ s with heap:=s.heap.push { cls:=.type "tuple",data:=.seq ((items.toList.drop (lB items.size 0 lo)).take (lB items.size items.size hi-lB items.size 0 lo)).toArray } }))
  (hsz:Y0z items.size):Y1K (getItem (.ref t) (.ref sl)):=by
 have a:sizeOk (.seq ((items.toList.drop (lB items.size 0 lo)).take (Y6m-Y82)).toArray):=by
  show Y0z (((items.toList.drop (lB items.size 0 lo)).take (Y6m-Y82)).toArray.size);rw[bI,gB,List.length_drop,Array.length_toList];exact Oo
 have p:Y6m<=items.size:=aEq _ _ (Yy) hi;obtain⟨j,g,d,i⟩:=id hs;have e:Y8n sl "slice" := ⟨j,g,d⟩;unfold getItem
 try with_reducible refine YiS
 first | refine YaS | skip
 refine wpAny_bind (wpAny_sequenceKey ht.typeIs Dd ?_);refine wpAny_bind (wpAny_callSpecial?_slot (name:=Str.ofString "__getitem__") ht.typeIs PyProof.Rows.slot_tuple_getitem
  (Yjy PyProof.Rows.slot_tuple_getitem ht.typeIs entry_tuple_getitem (args_tuple_getitem _ _)))
 show Y2X (Builtin.Tuple.tupleItemsOf (.ref t) >>= _);refine wpAny_bind (tupleItemsOf_ ht ?_);refine wpAny_bind (wpAny_typeOf e ?_);rw[Yha];refine wpAny_bind (rC hs pl pu ?_);have c:¬((((lB items.size 0 lo:Nat):Int) == 0&&(1:Int) == 1&&Ygt (Y6m-Y82))=true):=by
  intro q;rw[dG,dG]at q;have l:((lB items.size 0 lo:Nat):Int)=0:=eq_of_beq q.1.1;have n:Y6m-Y82=items.size:=eq_of_beq q.2;exact hw (Y1N Oo)
 show Y2X (if(((lB items.size 0 lo:Nat):Int) == 0&&(1:Int) == 1&&Ygt (Y6m-Y82))=true then _ else _);rw[if_neg c,XJ]
 first
  | exact YfF _ (YdO h) a
  | exact YfF _ (Y6V (YdO h)) a
  | exact wpAny_bind (YfF _ (Yfz (Yfp h)) a)
  | exact wpAny_bind (YfF _ (YdO h) a)
end
end HT
namespace L2
open PySem PySem.Spec PyProof.Rows
abbrev TO:=St->Y13 Hp (Y0X->(Y2d Hp))
def PO(X:Cx)(e:YgI)(t:TO):Prop :=
 ∀(pins:Ad) (s:Shared) (σ:St) (H:Hp) (Q:Y0X->(Y2d Hp)),Y4->t σ H Q ->
  Y3Z (evalPart e X.env) (λu s'=>∃o H',Y93/\IsPart u o/\Q o H')
def OX:TO:=Yhf none H
def aCC(t:TE):TO:=λσ H Q=>t σ H (λx H1=>∃i,x=Y17/\Q (some i) H1)
def vZ{ns:Af}:∀{us:Ag},Y4x Y4X->Y75 us:=by
 induction ns with
 | nil=>intro us r;rw[List.map_nil]at r;cases r;exact .nil
 | cons n ns ih =>
  intro us r;rw[bH]at r;cases r with
  | cons r1 r2 =>
   obtain⟨t,e⟩:=r1;subst e;exact .cons n t (ih r2)
section
variable{X:Cx}{e:Expr}{te:TE}{lo hi:YgI}{tl th:TO}{pos p2:Pos}
def po_none:PO X none OX:=by
 intro a s σ H Q I h;rw[evalPart_none];exact wpAny_pure ⟨none,H,I,.none,h⟩
def aBk(h:YaW):PO X (Y6k) (aCC te):=by
 intro a s σ H Q I g;rw[evalPart_some];refine thn (h a s σ H _ I g) λu j ⟨x,H1,I1,c,d⟩=>?_;obtain⟨i,rfl,q⟩:=d;obtain⟨t,rfl⟩:=c;exact⟨some i,H1,I1,Y3E i,q⟩
def SlR(X:Cx)(r:V->Y0X->Y8P):Prop :=
 ∀(pins:Ad) (s:Shared) (σ:St) (H:Hp) (x:V) (v vl vu:Value) (lo hi:Y0X) (sl:Addr) (Q:VK),Y4->fI x v->YfK sl vl vu->YhG lo->YhH hi->r x lo hi H Q ->
  ∃T id,typeLookup (.type T) "__getitem__" = pure (YhZ id)/\s.TypeIs v T/\Y6B (getItem v (.ref sl)) X Q
def tSl(r:V->Y0X->Y8P)(te:TE)(tl th:TO):TE:=λσ H Q=>te σ H λx H1=>tl σ H1 λl H2=>th σ H2 λu H3=>r x l u H3 Q
def XM{r:V->Y0X->Y8P}(hr:SlR X r)(he:YaW)(hl:PO X lo tl)(hu:PO X hi th):Y08 (Y73 e (.Slice lo hi none p2)) (tSl r te tl th):=by
 intro a s σ H Q I h;refine Subscript_ (thn (he a s σ H _ I h) λv m ⟨x,H1,I1,D,z⟩=>?_);refine wpAny_Slice (thn (hl a m σ H1 _ I1 z) λd C ⟨l,H2,I2,p,y⟩=>thn (hu a C σ H2 _ I2 y) λg c ⟨u,H3,I3,i,j⟩=>?_);rw[evalPart_none];refine Y1X;have I4:cU X a σ H3 ({ c with heap:=c.heap.push { cls:=.type "slice",data:=.fields #[d,g,.none] } }):=I3.kept (t':=c.toks) YjU;obtain⟨T,J,n,G,B⟩:=hr a { c with heap:=c.heap.push { cls:=.type "slice",data:=.fields #[d,g,.none] } } σ H3 x v d g l u c.heap.objs.size Q I4 D (Heap.IsSliceOf.new ..) p i j;show Y9O (subscriptTail e (.Slice lo hi none p2) v (YfA)) (EP X a σ Q) ({ c with heap:=c.heap.push { cls:=.type "slice",data:=.fields #[d,g,.none] } });exact tail_any (ops:=[YfA,v]) G n B (by with_unfolding_all rfl)
def nE(xs:Al)(lo hi:Y0X):Al:=(xs.drop (HT.lB xs.length 0 lo)).take (Yk4 hi-YfB 0 lo)
def zN(xs:Al)(lo hi:Y0X):Yfo ((nE xs lo hi).length):=by
 unfold nE;rw[gB,List.length_drop];exact Oo
def aHJ(K:Aa):V->Y0X->Y8P:=λx lo hi H Q=>∃a xs,x=Yf/\Y6G /\
 ¬(YfB 0 lo=0/\Y3V (Yk4 hi))/\∀p,H p=none->Y4l p (Y3B p (.tup (nE xs lo hi)))
def aDj:SlR X (aHJ X.K):=by
 intro j s σ H x v A B e i sl Q I y w u n h;obtain⟨a,d,rfl,p,z,q⟩:=h;cases y;obtain⟨g,r,l,m⟩:=I.tuple p;have c:g.toArray.size=d.length:=by rw[bI];exact r.length.symm
 refine⟨"tuple",_,PyProof.Rows.slot_tuple_getitem.lookup,l.typeIs,HT.xI l w u n (by rw[c];exact z) ?_ (by rw[c];exact m)⟩;rw[c];refine Yb5 _ (I.laid (t':=s.toks) (o:=.tup (nE d e i)) (λb C q=>Y9a) Yy ?_) (q _ (Y2D));exact⟨Y7B (aL (zN d e i) m) _ Y1l,_,(r.drop (HT.lB d.length 0 e)).take (Ygw d.length i-Ygw 0 e),Ye7 _⟩
def aGo(K:Aa):R2:=λx y H Q=>∃a b xs ys,x=Yf/\y=Y0e/\Y6G/\jV K H b ys/\xs≠[]/\Y0z YjF /\
 (ys=[]->Y4l a H)/\(ys≠[]->∀p,H p=none->Y4l p (Y3B p (.tup (Y5L ys))))
def eI.nil_iff{xs:Al}{us:Ag}(r:Y4I):us=[]↔xs=[]:=by
 cases r with
 | nil=>simp
 | cons _ _=>simp
def aBA:Y4h .Add (aGo X.K):=by
 intro g s σ H x y v u Q I G r h;obtain⟨a,b,C,l,rfl,rfl,D,n,A,i,B,J⟩:=h;cases G;cases r;obtain⟨m,d,p,_⟩:=I.tuple D;obtain⟨e,c,j,_⟩:=I.tuple n;refine HT.aCa p j (λz=>A (d.nil_iff.mp z)) (λz=>Y0E Yf H I (B (c.nil_iff.mp z))) (λz=>?_) (by rw[<-d.length,<-c.length];exact i);refine Yb5 _ (I.laid (t':=s.toks) (o:=.tup (C++l)) YjU Yy ?_) (J (λw=>z (c.nil_iff.mpr w)) _ (Y2D));exact⟨Y7B (by rw[aW];exact i) _ Y1l,_,d.append c,Ye7 _⟩
end
def TJ(n:Nat)(i:Int):Yec:=if 0<=i then(if i<n then some i.toNat else none) else if -(n:Int)<=i then some (i+n).toNat else none
def EA{α:Type}(xs:Yt)(i:Int):Option α:=(TJ xs.length i).bind λj=>Y1Q j
def QH{n:Nat}{i:Int}{j:Nat}(h:TJ n i=Y5g):seqIndex? i n=Y5g/\j<n/\-(n:Int)<=i/\i<n:=by
 unfold TJ at h;by_cases h0:0<=i
 ·rw[if_pos h0]at h;by_cases h1:i<n
  ·rw[if_pos h1]at h;have e:i.toNat=j:=fX h;exact⟨by rw[YjJ h1,e],Oo,Oo,h1⟩
  ·rw[if_neg h1]at h;cases h
 ·rw[if_neg h0]at h;by_cases h1:-(n:Int)<=i
  ·rw[if_pos h1]at h;have e:(i+n).toNat=j:=fX h;exact⟨by rw[Yjo h1,e],Oo,h1,Oo⟩
  ·rw[if_neg h1]at h;cases h
def HX{α:Type}{xs:Yt}{i:Int}{v:α}(h:EA xs i=Yn):∃j,seqIndex? i xs.length=Y5g/\Y1Q j=Yn/\Y8h j/\-(xs.length:Int)<=i/\Y3J:=by
 unfold EA at h;cases e:YdY i with
 | none=>rw[e]at h;cases h
 | some j =>
  rw[e]at h;obtain⟨c,d,a,g⟩:=QH e;exact⟨j,c,h,d,a,g⟩
def eB{α:Type}{xs:Yt}{j:Nat}{v:α}(h:Y1Q j=Yn):EA xs (j:Int)=Yn:=by
 have a:Y8h j:=(aB.mp h).1;have e:YdY (j:Int)=Y5g:=by
  unfold TJ;rw[Y58,Y58];simp
 unfold EA;rw[e];exact h
def RN(b:Expr):Prop:=∀o i,Yg9 b o i=Yjp [o,i] o i
def IxR(X:Cx)(r:R2):Prop :=
 ∀(value slice:Expr) (pins:Ad) (s:Shared) (σ:St) (H:Hp) (x y:V) (v u:Value) (Q:VK),Y4->fI x v->Y2W->r x y H Q ->
  Yg9 slice v u=Yjp [v,u] v u->Y6B (subscriptTail value slice v u) X Q
def MtR(X:Cx)(id:String)(r:V->Y1i):Prop :=
 ∀(pins:Ad) (s:Shared) (σ:St) (H:Hp) (x:V) (xs:Al) (v:Value) (us:Ag) (Q:VK),Y4->fI x v->Y4I->r x xs H Q ->
  Y6B (YbB id (v::us)) X Q
section
variable{X:Cx}{a b:Expr}{ta tb:TE}{pos:Pos}
def IxR.or{r r':R2}(h:Y6I r)(h':Y6I r'):Y6I (λx y H Q=>r x y H Q\/r' x y H Q):=by
 intro c a d s σ H x y v u Q I i g q e;rcases q with q | q
 ·exact h c a d s σ H x y v u Q I i g q e
 ·exact h' c a d s σ H x y v u Q I i g q e
def aGx{r:R2}(hr:Y6I r)(ha:Y80)(hb:Yb7 b)(hs:RN b):Y08 (Y73 a b) Y9E:=by
 intro c s σ H Q I h;exact Subscript_ (YiC ha hb I h (hr a b c g σ H2 x y v u Q I2 e d q (hs _ _)))
def aGn(K:Aa):R2:=λx y H Q=>∃p xs i v,x=Y1G/\y=Y17/\gJ K H p xs/\EA xs i=Yn/\Q v H
def aGl(K:Aa):R2:=λx y H Q=>∃p xs i v,x=Y1G/\y=Y17/\jV K H p xs/\EA xs i=Yn/\Q v H
def aGm:R2:=λx y H Q=>∃z i c,x=.str z/\y=Y17/\Y0z z.length/\EA z.cps.toList i=Y1b/\Q (.str ⟨#[c]⟩) H
def aBP:Y6I (aGn X.K):=by
 intro n m a s σ H x y v u Q I R L h B;obtain⟨p,U,i,z,rfl,rfl,J,O,q⟩:=h;cases R;obtain⟨t,rfl⟩:=L;obtain⟨g,r,l,W⟩:=I.list J;obtain⟨j,d,P,S,G,D⟩:=HX O;obtain⟨w,C,e⟩:=r.get P;have N:=r.length;have T:=CI;have c:EP X a σ Q w s:=⟨z,H,I,e,q⟩;by_cases h0:0<=i
 ·have A:i.toNat=j:=by
   rw[YjJ D]at d;exact fX d
  exact item_listR l.isList h0 Oo (by rw[A];simpa using C) c B
 ·have A:(i+(g.toArray.size:Int)).toNat=j:=by
   rw[Yjo G]at d;rw[bI,<-N];exact fX d
  exact subscriptTail_builtinR (x:=w) l.isList.typeIs slot_list_getitem.lookup
   (wpAny_getItem_list_neg (Q:=λr M=>r=w/\EP X a σ Q r M) l.isList Oo (by rw[bI] <;> exact Oo) Oo (by rw[A];simpa using C) (Y3 c)) B
def aFf:Y6I (aGl X.K):=by
 intro g e a s σ H x y v u Q I N A h C;obtain⟨p,T,i,z,rfl,rfl,n,J,q⟩:=h;cases N;obtain⟨t,rfl⟩:=A;obtain⟨m,r,l,U⟩:=I.tuple n;obtain⟨j,B,L,O,R,P⟩:=HX J;obtain⟨w,M,c⟩:=r.get L;have G:=r.length;have S:=CI;have d:EP X a σ Q w s:=⟨z,H,I,c,q⟩;exact subscriptTail_builtinR (x:=w) l.typeIs slot_tuple_getitem.lookup
  (getItem_tuple (j:=j) (Q:=λr D=>r=w/\EP X a σ Q r D) l Oo Oo (by rw[bI,<-G];exact B) (by simpa using M) (Y3 d)) C
def aFg:Y6I aGm:=by
 intro d a e s σ H x y v u Q I D n h r;obtain⟨z,i,c,rfl,rfl,M,A,q⟩:=h;obtain⟨t,rfl⟩:=D;obtain⟨L,rfl⟩:=n;obtain⟨j,g,B,G,m,l⟩:=HX A;have w:z.cps.toList.length=z.length:=by simp[Str.length]
 rw[w]at g m l;have J:=CI;exact tail_any (typeIs_str s z t) slot_str_getitem.lookup (getItem_str (c:=c) (by
  have C:Yw (Y1c i (-(2^63:Int))):=bZ Oo;have p:Yw (decide (i ≥ 2^63)):=bZ Oo;rw[C,p,Bool.or_false]) (by rw[g];simpa using B) ⟨.str ⟨#[c]⟩,H,I.tok _,Y5P _,q⟩) r
def rIx(K:Aa):R2:=λx y H Q=>aGn K x y H Q\/aGl K x y H Q\/aGm x y H Q
def bG:Y6I (rIx X.K):=aBP.or (aFf.or aFg)
def NC(its:Ag)(n j:Nat)(u:Value):Obj.mapSeq (·.setIfInBounds j u) { cls:=.type "list",data:=.seq its.toArray n }={ cls:=.type "list",data:=.seq (its.set j u).toArray n }:=by
 simp[Obj.mapSeq]
theorem cU.lst{pins:Ad}{σ:St}{H:Hp}{s:Shared}{p:Addr}{xs:Al}(I:Y4)(h:H p=Y0A) :
  ∃(its:Ag) (n:Nat),YaY xs/\Y1u p ({ cls:=.type "list",data:=.seq its.toArray n })/\Y4o:=by
 obtain⟨z,its,n,r,e⟩:=I.hok p _ h;exact⟨its,n,r,e,z⟩
def cU.lstUpd{pins:Ad}{σ:St}{H:Hp}{s:Shared}{p:Addr}{xs ys:Al}{its its':Ag}{n n':Nat}{f:Obj->Obj}(I:Y4)(h:H p=Y0A)
  (ho:Y1u p ({ cls:=.type "list",data:=.seq its.toArray n })) (hf:f { cls:=.type "list",data:=.seq its.toArray n }={ cls:=.type "list",data:=.seq its'.toArray n' }) (r:eI ys its') (hz:Ygl) (t:Nat) :
  Y4m (Y47 p ys) ({ s with heap:=s.heap.update p f,toks:=t }):=by
 have e:(s.heap.update p f).get? p=some { cls:=.type "list",data:=.seq its'.toArray n' }:=by
  rw[Heap.get?_update_self f ho (by rw[hf] <;> rfl),hf]
 refine YiM p p (by rw[h];trivial) (λb u a q=>(Heap.get?_update_other _ _ (Ne.symm a)).trans q) (Y2T e) ?_;exact⟨hz,its',n',r,e⟩
def PL:V->V->V->Y13 Hp (Y2d Hp):=λo i v H Q=>∃p xs k j,o=Y1G/\i=(.int k)/\H p=Y0A/\YdY k=Y5g/\Q (Y47 p (xs.set j v))
def BR:aFJ X PL:=by
 intro c s σ H o i v G M u Q I z B rv h;obtain⟨p,A,k,j,rfl,rfl,y,D,q⟩:=h;cases z;obtain⟨t,rfl⟩:=B;obtain⟨a,n,r,e,C⟩:=I.lst y;obtain⟨d,L,m,w⟩:=QH D;have g:=r.length;have J:=CI;have I':cU X c σ (Y47 p (A.set j v)) ({ s with heap:=s.heap.update p (Obj.mapSeq (·.setIfInBounds j u)) }) :=
  I.lstUpd y e (NC a n j u) (r.set rv j) (by rw[List.length_set];exact C) s.toks
 by_cases h0:0<=k
 ·have l:k.toNat=j:=by
   rw[YjJ w]at d;exact fX d
  exact PySem.W.ki_setAt e h0 Oo (by rw[bI,<-g];exact w) (by rw[l];exact Y0C I' q)
 ·have l:(k+(a.toArray.size:Int)).toNat=j:=by
   rw[Yjo m]at d;rw[bI,<-g];exact fX d
  exact PySem.W.ki_setBack e Oo (by rw[bI,<-g];exact m) Oo (by rw[l];exact Y0C I' q)
def GM(lo hi:Y0X)(n:Nat):(sliceBounds lo hi none n).1=((HT.lB n 0 lo:Nat):Int)/\(sliceBounds lo hi none n).2.1=((HT.lB n n hi:Nat):Int)/\(sliceBounds lo hi none n).2.2=1:=by
 refine Y4W ?_ ?_
 ·cases lo with
  | none=>simp[sliceBounds,HT.lB]
  | some i =>
   simp only[sliceBounds,HT.lB,Option.getD_none,show(1:Int) > 0 by decide,if_true];by_cases h:i<0
   ·simp only[h,if_true] <;> exact Oo
   ·simp only[h,if_false] <;> exact Oo
 ·cases hi with
  | none=>simp[sliceBounds,HT.lB]
  | some i =>
   simp only[sliceBounds,HT.lB,Option.getD_none,show(1:Int) > 0 by decide,if_true];by_cases h:i<0
   ·simp only[h,if_true] <;> exact Oo
   ·simp only[h,if_false] <;> exact Oo
def DX(its:Ag)(lo hi:Y0X):slicePick its.toArray lo hi none=((its.drop (HT.lB its.length 0 lo)).take (HT.lB its.length its.length hi-HT.lB its.length 0 lo)).toArray:=by
 obtain⟨c,d,a⟩:=GM lo hi its.toArray.size;unfold slicePick;rw[c,d,a];simp only[sliceRange_one,pick_run,bI] <;> rfl
def aGk(K:Aa):V->Y0X->Y8P:=λx lo hi H Q=>∃a xs,x=Yf/\Y6H/\∀p,H p=none->Y4l p (Y47 p (nE xs lo hi))
def PD:SlR X (aGk X.K):=by
 intro i s σ H x v z A e g sl Q I w u p l h;obtain⟨a,c,rfl,n,q⟩:=h;cases w;obtain⟨m,r,j,y⟩:=I.list n;have d:=r.length;refine⟨"list",_,slot_list_getitem.lookup,j.isList.typeIs,wpAny_getItem_list_slice j.isList u p l .none (by simp) ?_ (by rw[bI] <;> exact Oo)⟩;rw[DX,<-d];refine Yb5 _ (I.laid (t':=s.toks) (o:=.lst (nE c e g)) (λb B q=>Y9a) Yy ?_) (q _ (Y2D));exact⟨aL (zN c e g) y,_,0,(r.drop (HT.lB c.length 0 e)).take (HT.lB c.length c.length g-HT.lB c.length 0 e),Y1l⟩
def zM:Y24 V
 | .non=>true
 | .bl _=>true
 | .int _=>true
 | .str _=>true
 | _=>false
def eqV:V->Y24 V
 | .non,.non=>true
 | .bl a,.bl b=>a == b
 | .bl a,.int b=>(if a then 1 else 0) == b
 | .int a,.bl b=>a == (if b then 1 else 0)
 | .int a,.int b=>a == b
 | .str a,.str b=>a == b
 | _,_=>false
def aFr{A:Around}{s:Shared}{y x:V}{u v:Value}(ry:Y2W)(rx:fI x v)(fy:zM y=true)(fx:zM x=true):SeqAt.EqAt A s u v (eqV y x):=by
 cases y with
 | non =>
  cases ry;cases x with
  | non=>cases rx;exact SeqAt.EqAt.same _
  | bl b=>cases rx;exact SeqAt.EqAt.none_bool b
  | int b=>obtain⟨t,rfl⟩:=rx;exact SeqAt.EqAt.none_int b t
  | str b=>obtain⟨t,rfl⟩:=rx;exact SeqAt.EqAt.none_str b t
  | _=>exact Y21 (show false=true from fx)
 | bl a =>
  cases ry;cases x with
  | non=>cases rx;exact SeqAt.EqAt.bool_none a
  | bl b=>cases rx;exact SeqAt.EqAt.bool_bool a b
  | int b=>obtain⟨t,rfl⟩:=rx;exact SeqAt.EqAt.bool_int a b t
  | str b=>obtain⟨t,rfl⟩:=rx;exact SeqAt.EqAt.bool_str a b t
  | _=>exact Y21 (show false=true from fx)
 | int a =>
  obtain⟨c,rfl⟩:=ry;cases x with
  | non=>cases rx;exact SeqAt.EqAt.int_none a c
  | bl b=>cases rx;exact SeqAt.EqAt.int_bool a c b
  | int b=>obtain⟨t,rfl⟩:=rx;exact SeqAt.EqAt.int_int a c b t
  | str b=>obtain⟨t,rfl⟩:=rx;exact SeqAt.EqAt.int_str a c b t
  | _=>exact Y21 (show false=true from fx)
 | str a =>
  obtain⟨c,rfl⟩:=ry;cases x with
  | non=>cases rx;exact SeqAt.EqAt.str_none a c
  | bl b=>cases rx;exact SeqAt.EqAt.str_bool a c b
  | int b=>obtain⟨t,rfl⟩:=rx;exact SeqAt.EqAt.str_int a c b t
  | str b=>obtain⟨t,rfl⟩:=rx;exact SeqAt.EqAt.str_str a c b t
  | _=>exact Y21 (show false=true from fx)
 | _=>exact Y21 (show false=true from fy)
def eqU(x:V)(u:Value):Bool:=match u with
 | .none=>eqV .non x
 | .bool b=>eqV (.bl b) x
 | .int i _=>eqV (.int i) x
 | .str z _=>eqV (.str z) x
 | _=>false
def aFq{x y:V}{u:Value}(r:Y2W)(f:zM y=true):eqU x u=eqV y x:=by
 cases y with
 | non=>cases r;rfl
 | bl b=>cases r;rfl
 | int i=>obtain⟨t,rfl⟩:=r;rfl
 | str z=>obtain⟨t,rfl⟩:=r;rfl
 | _=>exact Y21 (show false=true from f)
theorem JP{A:Around}{s:Shared}{x:V}{v:Value}(rx:fI x v)(fx:zM x=true):∀{xs:Al}{us:Ag},Y4I->xs.all zM=true->∀u∈us,SeqAt.EqAt A s u v (eqU x u)
 | _,_,.nil,_=>λu hu=>by cases hu
 | y::xs,u::us,.cons r t,f=>λu' hu=>by
  rw[List.all_cons,dG]at f;rcases bN.mp hu with rfl | hu
  ·rw[aFq r f.1];exact aFr r rx f.1 fx
  ·exact JP rx fx t f.2 u' hu
def sR:mN X (.type "list") (λxs H Q=>∃p ys,xs=Y48/\(gJ X.K H p ys\/jV X.K H p ys)/\∀l,H l=none->Y4l l (Y47 l ys)):=by
 intro i s σ H xs J Q I r h;obtain⟨p,ys,rfl,m,q⟩:=h;obtain⟨u,rfl,G⟩:=nO r;cases G;have z:∀(a:Ag),eI ys a->Ygl->∀(c:Heap) (g:Nat),(∀b o',Y1u b o'->c.get? b=some o') ->
   c.get? s.heap.objs.size=some { cls:=.type "list",dict:=none,data:=.seq a.toArray g,slots:=#[] }->EP X i σ Q (Y1r) { s with heap:=c }:=λa d A c g j e =>
  Yb5 _ (I.laid (t':=s.toks) j (Yy) (show hV X.prog X.w _ c _ (.lst ys)from⟨A,a,g,d,e⟩)) (q _ (Y2D))
 rcases m with m | m
 ·obtain⟨a,d,D,A⟩:=I.list m;have y:=d.length;obtain⟨o,C,B,n,hd⟩:=D.isList;exact call_list_seq p (Y36) C B hd (λc g j e=>z a d A c g j e) (by simp only[bI] <;> exact Oo)
 ·obtain⟨a,d,D,A⟩:=I.tuple m;have y:=d.length;obtain⟨o,C,B,n,hd⟩:=D;exact call_list_seq p (Y7e) C B hd (λc g j e=>z a d A c g j e) (by simp only[bI] <;> exact Oo)
def dM:mN X (.type "tuple") (λxs H Q=>∃p ys,xs=Y48/\((gJ X.K H p ys/\∀l,H l=none->Y4l l (Y3B l (.tup ys)))\/(jV X.K H p ys/\Y4l p H))):=by
 intro a s σ H xs A Q I r h;obtain⟨p,ys,rfl,h⟩:=h;obtain⟨u,rfl,z⟩:=nO r;cases z;rcases h with⟨i,q⟩ | ⟨i,q⟩
 ·obtain⟨c,g,j,n⟩:=I.list i;have m:=g.length;refine call_tuple_list j.isList (λd y=>?_) (by simp only[bI] <;> exact Oo);have I1:Y4T a ({ s with heap:=d }):=I.kept (t':=s.toks) y;have I2:cU X a σ (Y3B d.objs.size (.tup ys)) ({ s with heap:=d.push { cls:=.type "tuple",data:=.seq c.toArray } }) :=
   YiP s.toks (λb o e=>Y2n) (show hV X.prog X.w _ _ _ (.tup ys)from⟨⟨n,_,bC _ rfl,rfl⟩,c,g,IsTup.new _ _⟩)
  exact Y0E (.ref d.objs.size) _ I2 (q _ (Yiy))
 ·obtain⟨c,g,j,n⟩:=I.tuple i;exact call_tuple_same j (Y0E Y1G H I q)
def tyV(K:Aa)(T:String)(x:V)(H:Hp):Prop:=match x with
 | .str _=>T = "str"
 | .int _=>T = "int"
 | .ref p=>(T = "list" /\ ∃xs,gJ K H p xs)\/(T = "tuple" /\ ((∃o,K.lookup p=some o/\o.cls=.type "tuple" /\ o.dict=none)\/∃xs,H p=some (.tup xs))) \/
   (T = "dict" /\ ((∃kvs,H p=some (.dK kvs))\/∃kvs,H p=some (.dT kvs)))\/(T = "set" /\ ∃S n,H p=some (.set S n))
 | _=>False
def aDg{pins:Ad}{σ:St}{H:Hp}{s:Shared}{T:String}{x:V}{v:Value}(I:Y4)(r:fI x v)(ty:tyV X.K T x H) :
  s.TypeIs v T/\∀a,v=Yf->∃ob,Y1u a ob/\ob.dict=none:=by
 cases x with
 | str z =>
  obtain⟨t,rfl⟩:=r;cases(show T = "str" from ty);exact⟨typeIs_str s z t,λ_ e=>nomatch e⟩
 | int i =>
  obtain⟨t,rfl⟩:=r;cases(show T = "int" from ty);exact⟨Ya5 s i,λ_ e=>nomatch e⟩
 | ref p =>
  cases r;rcases ty with⟨rfl,u,l⟩ | ⟨rfl,⟨o,d,A,hd⟩ | ⟨u,l⟩⟩ | ⟨rfl,d⟩ | ⟨rfl,S,n,d⟩
  ·obtain⟨y,_,m,_⟩:=I.list l;refine⟨m.isList.typeIs,Yh1⟩;cases e;obtain⟨o,n,e,c,hd,_⟩:=m;exact Y6P hd
  ·refine⟨Y3c (I.kIn p o d) A,Yh1⟩;cases e;exact Y3c (I.kIn _ o d) hd
  ·obtain⟨⟨_,D,B,dn⟩,_,_,o,C,h,_⟩:=(show hV X.prog X.w H s.heap p (.tup u)from I.hok p _ l);refine⟨Y3c C h,Yh1⟩;cases e;exact⟨D,B,dn⟩
  ·have z:∃o,Ybk p/\o.ExactDict:=by
    rcases d with⟨j,d⟩ | ⟨j,d⟩
    ·obtain⟨_,_,_,_,o,_,_,e,g,_⟩:=I.hok p _ d;exact Y6P g
    ·obtain⟨_,_,_,_,o,_,_,e,g,_⟩:=I.hok p _ d;exact Y6P g
   obtain⟨o,e,g⟩:=z;refine⟨Y6P g.1,λa h=>?_⟩;cases h;exact Y6P g.2.1
  ·obtain⟨o,_,_,_,e,g,_⟩:=I.hok p _ d;refine⟨Y6P g.1,λa h=>?_⟩;cases h;exact Y6P g.2.1
 | _=>exact False.elim ty
def tBM(K:Aa)(T:String)(r:V->Y1i)(to:TE)(t:TA):TE:=λσ H Q=>to σ H λx H1=>tyV K T x H1/\t σ H1 λxs H2=>r x xs H2 Q
variable{o e:Expr}{es:Y0b}{to:TE}{t:TA}{name:Str}{apos cpos:Pos}{T id:String}{r:V->Y1i}
def aGz(pa:PlainAttrs T)(slot:Slot T name id)(hty:typeOf (.builtin id)=pure (.type "method_descriptor"))(hm:MtR X id r)(ho:Y08 o to)(ha:PA X (e::es) t)
  (hbase:attributeBase o name X.env (Y1a o)=Y1a o:=by rfl)
  (hfew:((backTo cpos (starEach (e::es) X.env)).all (λx=>! x.1)&&(backToKw cpos (keywordEach [] X.env)).all (λx=>x.1.isSome)
   && Y1c ((e::es).length+([]:List Keyword).length+(if([]:List Keyword).isEmpty then 0 else 1)) 30)=true:=by rfl)
  (hline:(YbG)=true:=by rfl) (hs:Y3n=(false,Y12)::Y2z:=by rfl) (hplain:Yw ((backTo cpos (starEach es X.env)).any (·.1)):=by rfl) :
  Y08 (YcU name (e::es) []) (tBM X.K T r to t):=by
 intro c s σ H Q I h;refine wpAny_Call_method_late hbase hfew hline rfl (thn (ho c s σ H _ I h) λv j ⟨x,H1,I1,g,A,u⟩=>?_);obtain⟨n,w⟩:=aDg I1 g A;refine⟨T,id,pa,slot,hty,n,w,?_⟩;have d:=ha cpos c j σ H1 _ I1 u;rw[hs]at d ⊢;refine Calls.callWith_builtin (by show Yw (false || (backTo cpos (starEach es X.env)).any (·.1));rw[hplain] <;> rfl) (Calls.evalArgs_plain ?_);exact thn d λl y ⟨i,H2,I2,z,p⟩=>hm c y σ H2 x i v l Q I2 g z p
/- xs.append(e),list.index on a module's tuple .. are MtR facts of 06m -/
end
def MtM(X:Cx)(id:String)(r:V->Y1i):Prop :=
 ∀(pins:Ad) (s:Shared) (σ:St) (H:Hp) (x:V) (xs:Al) (v:Value) (us:Ag) (Q:VK),Y4->fI x v->Y4I->r x xs H Q ->
  Y6B (YbB id (v::us)) X Q
def eI.one:∀{x:V}{us:Ag},Y4x [x]->∃u,us=[u]/\Y9w
 | _,_,.cons r .nil=>⟨_,rfl,r⟩
theorem FF(its:Ag):∀(k:Nat) (acc:Ag),
  List.foldl (λx1 x2=>x1++x2) acc.toArray (Y6X its.toArray)=(acc++(Y6X its).flatten).toArray
 | 0,acc=>by simp
 | k+1,acc=>by
  have e:acc.toArray++its.toArray=(acc++its).toArray:=by simp
  have a:(acc++its)++(List.replicate k its).flatten=acc++(List.replicate (k+1) its).flatten:=by
   rw[List.replicate_succ,List.flatten_cons,List.append_assoc]
  rw[<-a,<-FF its k (acc++its),<-e,List.replicate_succ,List.foldl_cons]
section
variable{X:Cx}{pins:Ad}{σ:St}{H:Hp}{s:Shared}{l b:Addr}{xs ys zs:Al}
def cU.lset{its its':Ag}{n:Nat}{f:Ai->Ai}{t':Nat}(I:Y4)(hH:H l=Y0A)
  (e:Y1u l ({ cls:=.type "list",data:=.seq its.toArray n })) (hf:f its.toArray=its'.toArray) (hv:eI ys its') (hz:Ygl) :
  Y4m (Y47 l ys) ({ s with heap:=s.heap.update l (Obj.mapSeq f),toks:=t' }):=by
 have q:=PySem.IsL.update e f;rw[hf]at q;refine YiM l l (by rw[hH];exact trivial) (λd u a c=>(Heap.get?_update_other s.heap (Obj.mapSeq f) (Ne.symm a)).trans c) (Y2T q) ?_;exact⟨hz,its',_,hv,q⟩
def cU.lnew{its:Ag}{t':Nat}(I:Y4)(hv:YaY ys)(hz:Ygl) :
  Y4m (YhW H (.lst ys)) ({ s with heap:=s.heap.push { cls:=.type "list",data:=.seq its.toArray },toks:=t' }) :=
 I.laid (Ygu q) (Yy) ⟨hz,its,0,hv,Y1l⟩
theorem cU.fresh(I:Y4):YfM=none:=Y2D
def cU.lstM(I:Y4)(hH:H l=Y0A):Y4o/\∃(its:Ag) (n:Nat),YaY xs/\Y54 its.length/\Y1u l ({ cls:=.type "list",data:=.seq its.toArray n }):=by
 obtain⟨z,its,n,r,e⟩:=I.hok l _ hH;exact⟨z,its,n,r,r.length,e⟩
def XW{n:Nat}(h:Y0z n):Yw (Builtin.List.listTooLong n):=by
 unfold Builtin.List.listTooLong;exact bZ Oo
end
section
variable{X:Cx}
def PY:V->Y1i:=λx vs H Q=>∃l xs y,x=Y0G/\vs=[y]/\H l=Y0A/\xs.length < sizeLine/\Q .non (Y47 l (Y5L [y]))
def uW:MtM X "list.append" PY:=by
 intro c s σ H x i v j Q I g rv h;obtain⟨l,p,y,rfl,rfl,d,w,q⟩:=h;cases g;obtain⟨u,rfl,ru⟩:=rv.one;obtain⟨z,a,n,r,m,e⟩:=I.lstM d;refine call_meets F.slot_list_append (Y0B e) F.entry_list_append (F.args_list_append_2 _ _) (PySem.list_append l a.toArray n u (by rw[bI];exact Oo)) ⟨e,Y0E .non _ (I.lset (its':=a++[u]) d e (by simp) (r.append (Y8x ru)) ?_) q⟩;rw[aW,List.length_singleton];exact Oo
def PV:V->Y1i:=λx vs H Q=>∃l b xs zs,x=Y0G/\vs=[Y0e]/\H l=Y0A/\H b=YaR/\Y0z Ygn/\Q .non (Y47 l (Y5L zs))
def SV:MtM X "list.extend" PV:=by
 intro i s σ H x C v J Q I A rv h;obtain⟨l,b,M,D,rfl,rfl,j,m,N,q⟩:=h;cases A;obtain⟨u,rfl,ru⟩:=rv.one;cases ru;obtain⟨z,c,n,r,L,e⟩:=I.lstM j;obtain⟨G,a,B,y,p,w⟩:=I.lstM m;have g:Y0z (c.toArray.size+a.toArray.size):=by rw[bI,bI];exact Oo
 have d:¬(! c.toArray.isEmpty&&Builtin.List.listTooLong (c.toArray.size+a.toArray.size))=true:=by
  rw[XW g,Bool.and_false];exact cG
 refine call_meets F.slot_list_extend (Y0B e) F.entry_list_extend (F.args_list_extend_2 _ _)
  (AutoSeq1.list_extend_list_list_0 l c.toArray n b a.toArray B d (by rw[bI];exact Oo) Oo) (Y0n e w)
 refine Y0E .non _ (I.lset (its':=c++a) j e (by simp) (r.append y) ?_) q;rw[aW];exact Oo
def aGp:R2:=λx y H Q=>∃l b xs zs,x=Y0G/\y=Y0e/\H l=Y0A/\H b=YaR/\Y0z Ygn/\∀p,H p=none->Y4l p (Y47 p (Y5L zs))
def vU:Y4h .Add aGp:=by
 intro d s σ H x y v u Q I A j h;obtain⟨l,b,J,C,rfl,rfl,B,g,M,q⟩:=h;cases A;cases j;obtain⟨z,c,n,r,G,e⟩:=I.lstM B;obtain⟨D,a,L,w,i,m⟩:=I.lstM g;refine PySem.P.add_list e m ?_ (by rw[bI,bI];exact Oo);have p:c.toArray++a.toArray=(c++a).toArray:=by simp
 rw[p];exact Y0E (.ref _) _ (I.lnew (t':=s.toks) (r.append w) (by rw[aW];exact Oo)) (q _ I.fresh)
end
section
variable{prog:Program}{w:World}{A:Around}{E:Yc}{s:Shared}
end
section
variable{X:Cx}
end
end L2
namespace Att
open PySem PySem.W PySem.Calls PyProof.Rows
def zU{P:Params}{h:Heap}:∀(ns:Af) (vs:Ag),WellAll P h vs (ns.map WData.int)->Y75 vs:=by
 intro ns
 induction ns with
 | nil =>
  intro vs w;rw[List.map_nil]at w;cases w;exact .nil
 | cons n ns ih =>
  intro vs w;rw[bH]at w;cases w with
  | cons a b =>
   cases a;exact .cons _ _ (ih _ b)
def SI{l:OpenLaw}{n:Nat}(hn:l.most=Y6l){P:Params}{h:Heap}{args:List WData}{vals:Ag}
  (hpre:l.row.toRowW.claim.pre args=true) (hwl:WellAll P h vals args) :
  ∃a vs ns,vals=[Y76]/\args=[WData.list (ns.map WData.int)]/\YcK a ({ cls:=.type "list",data:=.seq vs.toArray })/\Y75 vs/\Y57 n:=by
 have i:WShape.hasAll [] args [.list .int]=true:=(pre_splitW hpre).1;have j:l.pre.holds [] { args:=args }=true:=(pre_splitW hpre).2;obtain⟨d,r,rfl,p,u⟩:=hasAllW_cons i;obtain rfl:=hasAllW_nil u;obtain⟨w,rfl,m⟩:=hasW_list p;obtain⟨ns,rfl⟩:=items_int m;have c:Y57 n:=by
  unfold OpenLaw.pre at j;have g:(WTm.not (.lt (.lit (.int (n:Int))) (.len (.arg 0)))).holds [] { args:=[.list (ns.map .int)] }=true:=by
   have g:=(holds_andW j).1;rw[hn]at g;exact g
  have e:=condW_of g (w_not (w_lt w_lit (w_len_list (w_arg rfl))));rw[aA]at e;refine Nat.le_of_not_lt λq=>?_;have s:(n:Int)<((ns.length:Nat):Int):=Oo
  first
   | (rw[cR s]at e;exact Y64 e)
   | (simp at e;exact Oo)
 cases hwl with
 | cons w1 w2 =>
  cases w2;cases w1 with
  | list ho hall=>exact Y1e _ _ ns rfl ho (zU ns _ hall) c
def SO(l:OpenLaw)(args:List WData):l.row.toRowW.claim.post args (YfP) args=true :=
 postW_of (r:=l.row.toRowW) (X:=(true == true))
  (show WShape.has [] (.bool true) .bool=true by first | rfl | decide | simp[WShape.has,WShape.arms,WShape.armsAll])
  (show(WTm.eq .res (.lit (.bool true))).value [] { args:=args,res:=some (.bool true),after:=args }=some (.bool (true == true))from w_eq_bool (w_res rfl) w_lit) rfl
def LI{l:OpenLaw}{n:Nat}{q:Program}{loose:Ah}{XP:(Y0y)->Y3W}{YP:World->Y3W}{d:DefRec}
  (hn:l.most=Y6l) (hdf:YjI [])
  (call:∀(w:World) (s₀ s₁:Shared) (mg mb:Y0y) (fa:Addr) (o:Obj) (pm cd doc:Value) (a:Addr) (vs:Ag) (ns:Af),
   Ground q loose [] XP w s₀ mg mb s₁.heap->YP w s₁.heap ->
   Yeb fa Y9->o.data=.func (docDef d.name d.params d.body d.scope pm cd doc)->s₁.heap.CodeRec cd d.name->mg d.name=Y6 fa ->
   Yeb a (some { cls:=.type "list",data:=.seq vs.toArray })->Y75 vs->Y57 n->s₁.gens=#[] ->
   YbO l.prog w callerA (YbT fa ⟨Y1O,[]⟩) (λr s'=>r=.ok (.ret YfP)/\Ykn/\s'.os=s₁.os/\YdI) s₁) :
  WalkO q loose XP YP l.row.toRowW d [] (YiT f vs):=by
 intro w s₀ s₁ mg mb G Y fa o pm cd doc M kV B hd i s m I u vals N h p C j D;obtain rfl:M=.none:=Dflts.none s hdf;obtain rfl:kV=.none:=Dflts.noKw s;obtain⟨a,vs,ns,rfl,rfl,g,c,e⟩:=SI hn h j;refine enter_call (codeAny_mono (call w s₀ s₁ mg mb fa o pm cd doc a vs ns G Y B (fd_plain hd) i m g c e I) λr s' A=>?_);obtain⟨rfl,L,y,z⟩:=A;exact⟨.inl ⟨YfP,YfP,[],rfl,λ_=>rfl,YfP,SO l _,λ_=>⟨List.Pairwise.nil,λ_ J=>(nomatch J)⟩⟩,L,y,z⟩
section
variable{prog:Program}{w:World}{A:Around}{E:Yc}{s:Shared}{K:Frag}
end
end Att
namespace L2
open PySem PySem.Spec PyProof.Rows
theorem EH:∀{vs:Ag}{ns:Af},Y75 vs->eI (Y4X) vs
 | _,_,.nil=>.nil
 | _,_,.cons n t h=>.cons ⟨t,rfl⟩ (EH h)
def aCx(H:Hp):Prop:=∀b,H b=none\/∃o xs,H b=Yaa o (.lst xs)
def YJ{P:Program}{w:World}{K:Aa}{mg mb:Y0y}{CX:UP}{k:Nat}{fa a:Addr}{fd:FuncData}{x:Str}{sp:Sp}{s₁:Shared}{vs:Ag}{ns:Af}
  (KX:K.In s₁.heap) (hns:s₁.heap.Ns mainGlobals mg) (hb:s₁.heap.Ns builtinsNs mb) (hbb:∀x:Str,x ≠ "__name__" -> mb x=Y9Z) (hlim:s₁.heap.NoLimit) (hg:s₁.gens=#[])
  (ha:Yeb a (some { cls:=.type "list",data:=.seq vs.toArray })) (hi:Y75 vs) (hl:Y0z ns.length) (hr:jB k callerA)
  (F:∀base:Heap,K.In base->YdA mg->dO P w K mg base CX k fa fd [x] sp) (hbind:∀(s:Shared) (u:Value),Ycj s ⟨[u],[]⟩ [(x,u)])
  (hsp:∀H:Hp,aCx H->Y6U a->sp Y1O H (λv _=>v=Ycr) Y71)
  (hCX:∀H e s',CX [] H s₁ (Y71) e s'->False) :
  YbO P w callerA (YbT fa ⟨Y1O,[]⟩) (λr s'=>r=.ok (.ret YfP)/\Ykn/\s'.os=s₁.os/\YdI) s₁:=by
 have rv:=EH hi;have B:=hi.length;have i:∀H:Hp,aCx H->Y6U a->tF P w H s₁.heap->(∀b,Y7H (H b)->b=a)->(Y7H (H a)->Yef=none) ->
   YbO P w callerA (YbT fa ⟨Y1O,[]⟩) (λr s'=>r=.ok (.ret YfP)/\Ykn/\s'.os=s₁.os/\YdI) s₁:=by
  intro H M S y J U;have c:∀{b:Addr} {o:Obj},Yeb b Y9->H b=none->(HJ s₁.heap H).get? b=Y9:=λe n=>YQ e n;have I:∀{b:Addr} {o:Obj} {p:YdH} {A:Nat},Yeb b Y9->o.data=.dict p A->H b=none:=λ{b o p A} e d=>by
   cases q:H b with
   | none=>rfl
   | some u =>
    have G:b=a:=J b (by rw[q];simp);subst G;rw[ha]at e;cases e;have O:Data.seq vs.toArray _=Data.dict p A:=d;cases O
  have g:∀{b:Addr} {m:Y0y},s₁.heap.Ns b m->(HJ s₁.heap H).Ns b m:=λ{b m} ⟨o,p,A,e,d,r⟩=>⟨o,p,A,c e (I e d),d,r⟩;have l:K.In (Ykp H):=λb o e=>c (KX b o e) (by
   cases q:H b with
   | none=>rfl
   | some u =>
    have G:b=a:=J b (by rw[q];simp);subst G;rw[U (by rw[q];simp)]at e;cases e)
  have X:Mod K mg (Ykp H):=⟨l,g hns,⟨mb,g hb,hbb⟩,let ⟨mc,h1,h2⟩:=hlim;⟨mc,g h1,h2⟩⟩;have Y:OI P w K mg (Ykp H) callerA [] s₁ H:=⟨rfl,X,λb o e=>aBC e,Nat.le_of_eq (TN _ _),trivial,λb hb=>absurd (show b∈([]:List Addr)from hb) (by simp),y,.of_eq hg⟩;refine codeAny_mono ((F _ l (g hns)).run callerA [] s₁ H ⟨Y1O,[]⟩ Y1O Y1O _ _ hr Y (hbind s₁ (Yf)) (Y8x rfl) (hsp H M S)) λr s' h=>?_;cases r with
  | error e=>exact(hCX H e s' h).elim
  | ok fl =>
   cases fl with
   | next=>exact YjQ
   | brk=>exact YjQ
   | cont=>exact YjQ
   | ret u =>
    obtain⟨v,H',os,D,un,j,N,q⟩:=h;have Z:v=Ycr:=q;subst Z;obtain rfl:u=Value.bool true:=N;refine⟨rfl,OldK.of_keep λb o e=>?_,os,D⟩;cases q:H b with
    | none=>exact un.keep b o e q (by intro z;exact absurd (show b∈([]:List Addr)from z) (by simp)) (by simp)
    | some u =>
     rcases M b with z | ⟨α,β,z⟩
     ·rw[q]at z;cases z
     ·have R:=un.frzs b α _ z;obtain⟨L,_⟩:=y b _ z;obtain⟨T,_⟩:=j b _ R;rw[e]at L;cases L;exact T
 cases hk:Yef with
 | some o =>
  have e:=KX a o hk;rw[ha]at e;cases e;refine i (YdG) (λ_=>Y36) (.inr ⟨_,vs.toArray,_,hk,rfl,rfl,rfl,by rw[bI,B];exact hl,by simpa using rv⟩) (λb u z=>by have C:(none:Option HO)=Yl:=z;cases C) (λb z=>Y8w z) λz=>Y8w z
 | none =>
  refine i (λb=>if b=a then Yaa ({ cls:=.type "list",data:=.seq vs.toArray }) (.lst (Y4X)) else none) (λb=>?_) (.inl (Y3x ({ cls:=.type "list",data:=.seq vs.toArray }) Yr)) (λb u z=>?_) (λb z=>?_) λ_=>hk
  ·by_cases hb:b=a
   ·exact .inr (Y0C _ (if_pos hb))
   ·exact .inl (if_neg hb)
  ·by_cases hb:b=a
   ·have C:=(if_pos hb).symm.trans z;cases C;subst hb;exact⟨ha,by rw[aA];exact hl,vs,_,rv,ha⟩
   ·have C:=(if_neg hb).symm.trans z;cases C
  ·by_cases hb:b=a
   ·exact hb
   ·exact absurd (if_neg hb) z
def OR{l:PySem.W.OpenLaw}{n k:Nat}{q:Program}{loose:Ah}{XP:(Y0y)->Y3W}{YP:World->Y3W}{d:DefRec}{K:Params->Aa}{CX:World->UP}{sp:World->Sp}{x:Str}
  (hn:l.most=Y6l) (hn2:Y0z n) (hdf:YjI []) (hr:jB k callerA)
  (hY:∀(w:World) (h:Heap),YP w h->(K w.params).In h)
  (F:∀(w:World) (mg:Y0y) (fa:Addr) (h:Heap),(K w.params).In h->Yg4 mg->mg d.name=Y6 fa ->
   ∃fd:FuncData,(∀(s:Shared) (u:Value),Ycj s ⟨[u],[]⟩ [(x,u)]) /\
    ∀base:Heap,(K w.params).In base->YdA mg->dO l.prog w (Yc0) mg base (CX w) k fa fd [x] (sp w))
  (hsp:∀(w:World) (H:Hp) (a:Addr) (ns:Af),Y57 n->aCx H->gJ Yc0 H a Y4X->sp w Y1O H (λv _=>v=Ycr) Y71)
  (hCX:∀(w:World) (H:Hp) (s:Shared) (e:Value) (s':Shared),CX w [] H s (Y71) e s'->False) :
  PySem.W.WalkO q loose XP YP l.row.toRowW d [] (YiT f vs):=by
 refine Att.LI hn hdf λw N C mg L fa o I M B a vs ns G Y J hd p m j i c A=>?_;have KX:=hY w _ Y;obtain⟨fd,y,z⟩:=F w mg fa _ KX G.T.g m;exact YJ KX G.T.g G.T.b G.T.builtins G.T.nolimit A j i (aL c hn2) hr z y (λH D r=>hsp w H a ns c D r) λH e s'=>hCX w H C e s'
def VL{l:PySem.W.OpenLaw}{n k:Nat}{q:Program}{loose:Ah}{XP:(Y0y)->Y3W}{YP:World->Y3W}{d:DefRec}{K:Params->Aa}{CX:UP}{sp:Aa->Sp}{x:Str}
  (hn:l.most=Y6l) (hn2:Y0z n) (hdf:YjI []) (hr:jB k callerA)
  (hY:∀(w:World) (h:Heap),YP w h->(K w.params).In h)
  (F:∀(w:World) (mg:Y0y) (fa:Addr) (h:Heap),(K w.params).In h->Yg4 mg->mg d.name=Y6 fa ->
   ∃fd:FuncData,(∀(s:Shared) (u:Value),Ycj s ⟨[u],[]⟩ [(x,u)]) /\
    ∀base:Heap,(K w.params).In base->YdA mg->dO l.prog w (Yc0) mg base CX k fa fd [x] (sp (Yc0)))
  (hsp:∀(K:Aa) (H:Hp) (a:Addr) (ns:Af),Y57 n->aCx H->Y6U a->sp K Y1O H (λv _=>v=Ycr) Y71)
  (hCX:∀(H:Hp) (s:Shared) (e:Value) (s':Shared),CX [] H s (Y71) e s'->False) :
  PySem.W.WalkO q loose XP YP l.row.toRowW d [] (YiT f vs) :=
 OR (K:=K) (CX:=λ_=>CX) (sp:=λw=>sp (Yc0)) hn hn2 hdf hr hY F (λw H a ns g i c=>hsp (Yc0) H a ns g i c) λ_ H s e s'=>hCX H s e s'
end L2
/- THE LAST THEOREM (shape;LID,My.* are yours):
   My.Adr: a structure of the addresses that your layer names (classes,functions);My.Txt K t: a structure (Prop) of the equations over K;
   My.txt_mk:{K} {implicit addresses ..} (e1:nsIn K mainGlobals "law" = some (some (.ref f))) (e2:K.lookup f=some ⟨oc,od,.func (fnOf "law" "law" params body scope dV kV doc pm an cdv ct),sl⟩) (e3:codeIn K cdv "law" = true) .. : ∃t,My.Txt K t
set_option maxRecDepth 100000 in
set_option maxHeartbeats 0 in
theorem PySem.Challenge.cw_LID_holds : PySem.Challenge.rw_LID.Holds := by
  w_on;o_law;k_head;(case hw=>w_witness2)
  k_fill
  refine L2.OR (l:=PySem.Challenge.rw_LID) (n:=63) (k:=40) (x := "script") (CX:=λw=>..) (sp:=λ_=>My.sp_law) rfl Dd rfl ⟨rfl,Dd,Dd⟩ (λw h Y=>PySem.W.kIn_of Y) ?F ?S ?C
  case F =>
    intro w m j h KX G g;have T:∃t,My.Txt (L2.KOf KX) t:=by
      dsimp only[L2.KOf]                          -- K must stand as «<heap const> w.params» for k_is
      refine' My.txt_mk ?e1 ?e2 ?e3 ..
      (case e1=>PySem.W.k_is)                    -- in the order: a name -> its address -> its object -> its parts
      (case e2=>PySem.W.k_is)
      ..
    obtain⟨t,T⟩:=T;have i:=g.symm.trans (PySem.W.mg_of KX G T.law);cases i                                       -- j is the law's own address;exact⟨_,λs u=>.of_eq rfl,λc e d=>My.law_fn T e d⟩     -- if «.of_eq rfl» comes too early: refine' ⟨_,?b,λc e d=>My.law_fn T e d⟩;exact λs u=>.of_eq rfl
  case S=>exact λw H a y r z p=>..
  case C=>exact ..
(the tactic k_is has no namespace: write k_is) -/
namespace L2
open PySem PySem.Spec PyProof.Rows
def AS(s:Stmt)(j:Nat):Stmt:=match s with
 | .ClassDef _ _ _ body _ _ _ _ _ _ _=>body.getD j (.Pass ⟨0,0,0,0⟩)
 | _=>.Pass ⟨0,0,0,0⟩
def nI(s:Stmt):Arguments:=match s with
 | .FunctionDef _ a _ _ _ _ _ _ _ _=>a
 | _=>{ posonlyargs:=[],args:=[],vararg:=none,kwonlyargs:=[],kw_defaults:=[],kwarg:=none,defaults:=[] }
def kS(s:Stmt):Y4w:=match s with
 | .FunctionDef _ _ b _ _ _ _ _ _ _=>b
 | _=>[]
def bB(s:Stmt):Scope:=match s with
 | .FunctionDef _ _ _ _ _ _ sc _ _ _=>sc
 | _=>{ kind:=.function,names:=[],isGenerator:=false,isCoroutine:=false }
abbrev cW:UP:=λ_ _ _ _ _ _=>False
abbrev E0:XK:=Y71
def XU{X:Cx}:yZ cW X E0:=λ_ _ _ _ _ _ _ h=>h.elim
structure iU(K:Aa)(x qual:Str)(st:Stmt)(f:Addr)(fd:FuncData):Prop where
 ex:∃(oc:Value) (od:Y2N) (kV doc pm:Value) (an:Y2N) (cdv ct:Value) (osl:Y55),
  fd=PySem.W.fnOf x qual (nI st) (Y7K) (Y4M) .none kV doc pm an cdv ct/\YgZ=Y8T oc od fd osl/\Yg8 cdv qual=true
 kp:Y9P K f=true
section
variable{P:Program}{w:World}{K:Aa}{mg:Y0y}{base:Heap}
def iU.ok{x qual:Str}{st:Stmt}{f:Addr}{fd:FuncData}{N ps:Ah}{k:Nat}{sp:Sp}(F:Ya x qual st)(S:Yg N ps st)(len:∀vs H Q E,sp vs H Q E->YbF)
  (hbody:∀(cdv:Value) (A:Around) (outer:Y2P) (s:Shared) (H:Hp) (vs:Al) (Q:VK) (E:XK),jB k (YcT Y4M f cdv)->sp vs H Q E ->
   ∃t,OC (KN cW P w K mg base N qual (Y4M) f cdv A outer s H E).nox (Y7K) t/\t { nx:=λ_ H'=>Q .non H',rt:=Q } (Yav N) H):dO P w K mg base cW (k+1) f fd ps sp:=by
 obtain⟨j,m,kV,i,l,n,cdv,ct,d,rfl,e,a⟩:=F.ex;refine aGL e a S len λA outer s H vs Q E g c=>?_;obtain⟨t,h,q⟩:=hbody cdv A outer s H vs Q E g c;exact⟨t,h.nox,q⟩
def iU.binds{x qual:Str}{st:Stmt}{f:Addr}{fd:FuncData}{ps:Ah}(F:Ya x qual st)
  (h:∀(kV doc pm:Value) (an:Y2N) (cdv ct:Value) (us:Ag),YjD->bindArgs (PySem.W.fnOf x qual (nI st) (Y7K) (Y4M) .none kV doc pm an cdv ct) ⟨us,[]⟩=pure (ps.zip us)):uE K fd ps []:=by
 obtain⟨d,g,kV,doc,pm,an,cdv,ct,a,rfl,e,c⟩:=F.ex;exact .all (h kV doc pm an cdv ct)
def wA{x qual:Str}{st:Stmt}{f:Addr}{oc:Value}{od an:Y2N}{osl:Y55}{kV doc pm cdv ct:Value}(l:YgZ=Y8T oc od (PySem.W.fnOf x qual (nI st) (Y7K) (Y4M) .none kV doc pm an cdv ct) osl)
  (c:Yg8 cdv qual=true) (k:Y9P K f=true):iU K x qual st f (PySem.W.fnOf x qual (nI st) (Y7K) (Y4M) .none kV doc pm an cdv ct):=⟨⟨oc,od,kV,doc,pm,an,cdv,ct,osl,rfl,l,c⟩,k⟩
end
def yD{n:Nat}(h:n<=1000):n < sizeLine:=aI h Dd
section
variable{X:Cx}
def pv(i:Nat){x:Str}{pos:Pos}(hN:Y2G=Yb:=by rfl)(hv:Yg7 x:=by first | exact Or.inl rfl | exact Or.inr (Or.inl rfl) | exact Or.inr (Or.inr rfl))(hd:Y1m ("__debug__" : Str):=by decide)
  (hcd:Y1m ("__classdict__" : Str):=by decide):Y08 Y7l (VU i):=aEL hN hv hd hcd
end
def nW{A B:Prop}(h:B):if false=true then A else B:=by
 rw[if_neg cG];exact h
def pO{A B:Prop}(h:A):if true=true then A else B:=by
 rw[Yr];exact h
def aGG{c A B:Prop}[Yk8](h1:c->A)(h2:¬c->B):if c then A else B:=by
 by_cases h:c
 ·rw[Y4z];exact h1 h
 ·rw[Y4A];exact h2 h
def aT(H H':Hp):Prop:=Y0W (H b=Y9) (Y1p=Y9)
def aT.refl(H:Hp):Y2c H:=λ_ _ h=>h
def aT.trans{H H1 H2:Hp}(a:Y2c H1)(b:aT H1 H2):Y2c H2:=λc o h=>b c o (a c o h)
def aT.free{H H':Hp}(e:Y1){l:Addr}(h:H' l=Option.none):H l=Option.none:=by
 cases q:H l with
 | none=>rfl
 | some o =>
  rw[e l o q]at h;cases h
section
variable{κ:Type}[DecidableEq κ]
def gD(kvs:Y2S)(k:κ):Am:=(kvs.find? λkv=>decide (kv.1=k)).map (·.2)
def kG(kvs:Y2S)(k:κ)(v:V):Y2S :=
 if Yaw (YhI kv.1 k) true then YbP (if kv.1=k then(kv.1,v) else kv) else kvs++[(k,v)]
def jL{p:κ × V}{r:Y2S}{k:κ}(e:p.1=k):gD (p::r) k=some p.2:=by simp[gD,List.find?_cons,e]
def jM{p:κ × V}{r:Y2S}{k:κ}(e:¬p.1=k):gD (p::r) k=gD r k:=by simp[gD,List.find?_cons,e]
theorem nP(k:κ):∀kvs:List (κ × V),Yaw (YhI kv.1 k) ((Y4b).isSome)
 | []=>rfl
 | p::r=>by
  rw[List.any_cons];by_cases e:p.1=k
  ·simp only[jL e,cR e,Bool.true_or,Option.isSome_some]
  ·rw[jM e,bZ e,Bool.false_or];exact nP k r
theorem IR(k j:κ)(y:V):∀kvs:List (κ × V),gD (YbP (if kv.1=k then(kv.1,y) else kv)) j=(gD kvs j).map λx=>if j=k then y else x
 | []=>rfl
 | p::r=>by
  have ih:=IR k j y r;rw[bH];by_cases h:p.1=k
  ·rw[if_pos h];by_cases e:p.1=j
   ·rw[jL (p:=(p.1,y)) e,jL e,Option.map_some,if_pos (e.symm.trans h)]
   ·rw[jM (p:=(p.1,y)) e,jM e,ih]
  ·rw[if_neg h];by_cases e:p.1=j
   ·rw[jL (p:=p) e,jL e,Option.map_some,if_neg (λz=>h (e.trans z))]
   ·rw[jM (p:=p) e,jM e,ih]
theorem EI(k j:κ)(y:V):∀kvs:List (κ × V),Y4b=none->gD (kvs++[(k,y)]) j=if j=k then Y03 else Y8u j
 | [],_=>by
  by_cases e:k=j
  ·rw[if_pos e.symm];exact jL (p:=(k,y)) e
  ·rw[if_neg (λz=>e z.symm)];exact jM (p:=(k,y)) e
 | p::r,hn=>by
  rw[List.cons_append];have hk:¬p.1=k:=λz=>by rw[jL z]at hn;cases hn
  rw[jM hk]at hn;have a:=EI k j y r hn;by_cases e:p.1=j
  ·rw[jL e,jL e,if_neg (λz=>hk (e.trans z))]
  ·rw[jM e,jM e,a]
def iD(kvs:Y2S)(k j:κ)(y:V):gD (kG kvs k y) j=if j=k then Y03 else Y8u j:=by
 unfold kG;by_cases a:Yaw (λd=>Y0U d.1 k) true
 ·rw[Yhv,IR];rw[nP]at a;by_cases e:j=k
  ·obtain⟨x,c⟩:=Option.isSome_iff_exists.mp a;rw[Y1s,e,c,Option.map_some,Yr]
  ·rw[Y0F];cases Y8u j with
   | none=>rfl
   | some x=>rw[Option.map_some,Y0F]
 ·rw[YeE];refine EI k j y kvs ?_;rw[nP]at a;cases q:Y4b with
  | none=>rfl
  | some x=>rw[q]at a;exact(a rfl).elim
def fP(kvs:Y2S)(k:κ)(v:V):(kG kvs k v).length<=kvs.length+1:=by
 unfold kG;split
 ·rw[aA];exact Oo
 ·rw[aW,cK,List.length_nil];exact Oo
def JH{kvs:Y2S}{k:κ}(v:V)(h:Y4b=none):kG kvs k v=kvs++[(k,v)]:=by
 unfold kG;rw[nP,h];exact Y20
def tE.isSome_eq{o:Am}{u:Y9H}(r:tE o u):o.isSome=u.isSome:=by
 cases o with
 | none=>cases u with
  | none=>rfl
  | some _=>exact(show False from r).elim
 | some _=>cases u with
  | none=>exact(show False from r).elim
  | some _=>rfl
theorem tE.getD{o:Am}{u:Y9H}{d:V}{d':Value}(r:tE o u)(rd:fI d d'):fI (o.getD d) (u.getD d'):=by
 cases o with
 | none=>cases u with
  | none=>exact rd
  | some _=>exact(show False from r).elim
 | some _=>cases u with
  | none=>exact(show False from r).elim
  | some _=>exact r
def KV.val{kvs:Y2S}{vs:Yd3}(r:Y7x)(k:κ):tE (Y4b) (YeA vs):=by
 unfold KV at r
 induction r with
 | nil=>exact True.intro
 | @cons p q ps qs h t ih =>
  obtain⟨c,d⟩:=h;by_cases e:p.1=k
  ·have a:q.1=k:=c.symm.trans e;have b:YeA (q::qs)=some q.2:=by simp[valueAt,List.find?_cons,a]
   rw[jL e,b];exact d
  ·have a:¬q.1=k:=YaC (c.trans z);have b:YeA (q::qs)=YeA qs:=by simp[valueAt,List.find?_cons,a]
   rw[jM e,b];exact ih
theorem KV.any{kvs:Y2S}{vs:Yd3}(r:Y7x)(k:κ):Yaw (YhI kv.1 k) (vs.any (YhI kv.1 k)):=by
 unfold KV at r
 induction r with
 | nil=>rfl
 | cons h t ih=>rw[List.any_cons,List.any_cons,ih,h.1]
def KV.repl{kvs:Y2S}{vs:Yd3}(r:Y7x)(k:κ){y:V}{u:Value}(ry:Y2W) :
  KV (YbP (if kv.1=k then(kv.1,y) else kv)) (vs.map λkv=>if kv.1=k then(kv.1,u) else kv):=by
 unfold KV at r ⊢
 induction r with
 | nil=>exact .nil
 | @cons p q ps qs h t ih =>
  rw[bH,bH];refine YeS ?_;obtain⟨a,c⟩:=h;by_cases e:p.1=k
  ·rw[Y1s,if_pos (a.symm.trans e)];exact⟨a,ry⟩
  ·rw[Y0F,Y1Z (e (a.trans z))];exact⟨a,c⟩
def KV.put{kvs:Y2S}{vs:Yd3}(r:Y7x)(k:κ){y:V}{u:Value}(ry:Y2W):KV (kG kvs k y) (stored vs k u):=by
 unfold kG stored;rw[r.any k];by_cases e:(vs.any λa=>Y0U a.1 k)=true
 ·rw[Y1s,Y1s];exact r.repl k ry
 ·rw[Y0F,Y0F];exact Paired.snoc r (Y3 ry)
theorem KV.length{kvs:Y2S}{vs:Yd3}(r:Y7x):Yhu kvs.length:=Paired.length r
end
def CM{P:Program}{w:World}{k:fQ}{u:Value}(r:fI (kV k) u):(gR P w).is k u=true:=by
 cases k with
 | inl i=>obtain⟨t,e⟩:=(show ∃t,u=Value.int i t from r);subst e;exact JO P w i t
 | inr x=>obtain⟨t,e⟩:=(show ∃t,u=Value.str x t from r);subst e;exact JN P w x t
theorem FE{P:Program}{w:World}:∀{ks:Y4C}{us:Ag},Y4x (ks.map kV)->ItemsAre (gR P w) ks us
 | [],_,r=>by rw[List.map_nil]at r;cases r;exact .nil
 | k::ks,_,r=>by
  rw[bH]at r;cases r with
  | cons h t=>exact .cons (CM h) (FE t)
abbrev KT(H:Hp):Y13 Yu YcF:=Paired λp q=>p.1=q.1/\H q.2.1=Ym (p.1.map kV)/\fI p.2 q.2.2
def KT.val{H:Hp}{kvs:Yu}{xs:YcF}(r:KT H kvs xs)(k:Y4C):tE (Y4b) ((atKey xs k).map (·.2)):=by
 induction r with
 | nil=>exact True.intro
 | @cons p q ps qs h t ih =>
  obtain⟨c,_,d⟩:=h;by_cases e:p.1=k
  ·have a:q.1=k:=c.symm.trans e;have b:atKey (q::qs) k=some q.2:=by simp[atKey,List.find?_cons,a]
   rw[jL e,b];exact d
  ·have a:¬q.1=k:=YaC (c.trans z);have b:atKey (q::qs) k=atKey qs k:=by simp[atKey,List.find?_cons,a]
   rw[jM e,b];exact ih
def KT.repl{H:Hp}{kvs:Yu}{xs:YcF}(r:KT H kvs xs)(k:Y4C){y:V}{u:Value}(ry:Y2W) :
  KT H (YbP (if kv.1=k then(kv.1,y) else kv)) (xs.map (putAt k u)):=by
 induction r with
 | nil=>exact .nil
 | @cons p q ps qs h t ih =>
  rw[bH,bH];refine YeS ?_;obtain⟨a,c,d⟩:=h;unfold putAt;by_cases e:p.1=k
  ·rw[Y1s,if_pos (a.symm.trans e)];exact Y2s c ry
  ·rw[Y0F,Y1Z (e (a.trans z))];exact Y2s c d
def KT.put{H:Hp}{kvs:Yu}{xs:YcF}(r:KT H kvs xs)(k:Y4C){b:Addr}{y:V}{u:Value}(hb:H b=Yd4)(ry:Y2W) :
  KT H (kG kvs k y) (storedH xs k b u):=by
 have e:Yaw (λa=>Y0U a.1 k) ((atKey xs k).isSome):=by
  rw[nP,(r.val k).isSome_eq,Option.isSome_map]
 unfold kG storedH;rw[e];by_cases q:(atKey xs k).isSome=true
 ·rw[Y4y,Y4y];exact r.repl k ry
 ·rw[Y2f,Y2f];exact Paired.snoc r ⟨rfl,hb,ry⟩
def KT.keeps{H H':Hp}{kvs:Yu}{xs:YcF}(r:KT H kvs xs)(ht:∀b ys,H b=Yd1->Y1p=Yd1):KT H' kvs xs :=
 YjX (λ_ _ z=>⟨z.1,ht _ _ z.2.1,z.2.2⟩)
section
variable{P:Program}{w:World}{H:Hp}{h:Heap}{a:Addr}
def aCL{u:HO}(ok:Y3r)(e:Rd H a u):hV P w H h a u:=e.ok ok
def DE{kvs:Y2j}(ok:Y3r)(e:Rd H a (.dK kvs)):YdN/\Y62 a/\∃vs,Y7x/\h.DictOf (gR P w) a vs :=
 show hV P w H h a (.dK kvs)from aCL ok e
def aCU{kvs:Y2j}(ok:Y3r)(e:H a=YcG):YdN/\Y62 a/\∃vs,Y7x/\h.DictOf (gR P w) a vs:=DE ok (.inl e)
def vX{ks:Y4C}(ok:Y3r)(e:H a=Ym (ks.map kV)):(tupleKind (gR P w)).is h ks a:=by
 obtain⟨_,c,r,o,g,i,n,d⟩:=(show hV P w H h a (.tup (ks.map kV))from ok a _ e);exact⟨o,c.toArray,n,g,i,d,by simpa using FE r⟩
def DD{kvs:Yu}(ok:Y3r)(e:Rd H a (.dT kvs)):YdN/\Y62 a /\
  ∃xs,KT H kvs xs/\h.DictOfH (tupleKind (gR P w)) a xs:=by
 obtain⟨z,y,xs,r,o,n,s,j,u,d,i,g⟩:=(show hV P w H h a (.dT kvs)from aCL ok e);refine⟨z,y,xs,r,o,n,s,j,u,d,i,λx c=>?_,g⟩;have all:∀{l:Yu} {m:YcF},KT H l m->∀x∈m,(tupleKind (gR P w)).is h x.1 x.2.1:=by
  intro l m q
  induction q with
  | nil=>intro x c;exact nomatch c
  | @cons p q ps qs hq t ih =>
   intro x c;rcases bN.mp c with e | c
   ·subst e;exact vX ok (by rw[<-hq.1];exact hq.2.1)
   ·exact ih x c
 exact all r x c
def aCT{kvs:Yu}(ok:Y3r)(e:H a=Y10):YdN/\Y62 a /\
  ∃xs,KT H kvs xs/\h.DictOfH (tupleKind (gR P w)) a xs:=DD ok (.inl e)
end
def oQ(H:Hp)(a:Addr)(y:V)(r:Am):Prop :=
 (∃kvs k,Rd H a (.dK kvs)/\y=kV k/\r=Y4b)\/∃kvs k b,Rd H a (.dT kvs)/\y=Y0e/\H b=Yd4/\r=Y4b
def IH(H:Hp)(a:Addr)(y v:V)(H':Hp):Prop :=
 (∃kvs k,H a=YcG/\y=kV k/\Ygc/\H'=Y4J (.dK (kG kvs k v))) \/
 ∃kvs k b,H a=Y10/\y=Y0e/\H b=Yd4/\Ygc/\H'=Y4J (.dT (kG kvs k v))
theorem oQ.k{H:Hp}{a:Addr}{kvs:Y2j}{k:fQ}(e:H a=YcG):oQ H a (kV k) (Y4b):=.inl (Y0E kvs k (.inl e) rfl)
def oQ.t{H:Hp}{a b:Addr}{kvs:Yu}{k:Y4C}(e:H a=Y10)(eb:H b=Yd4):oQ H a (Y0e) (Y4b):=.inr ⟨kvs,k,b,.inl e,rfl,eb,rfl⟩
theorem IH.k{H:Hp}{a:Addr}{kvs:Y2j}{k:fQ}{v:V}(e:H a=YcG)(hl:Ygc):IH H a (kV k) v (Y4J (.dK (kG kvs k v))):=.inl (Y68 kvs k e hl rfl)
def IH.t{H:Hp}{a b:Addr}{kvs:Yu}{k:Y4C}{v:V}(e:H a=Y10)(eb:H b=Yd4)(hl:Ygc) :
  IH H a (Y0e) v (Y4J (.dT (kG kvs k v))):=.inr (Y1e kvs k b e eb hl rfl)
section
variable{X:Cx}{pins:Ad}{σ:St}{H:Hp}{s:Shared}{a:Addr}{y v:V}{u r:Value}{o:Am}{A:Around}{E:Yc}
def cU.big(I:Y4):Y8b sysModules:=by
 have h:Y8b mainGlobals:=(Yin).lt;exact Nat.lt_trans Dd h
def UA{Q:Yc}(hu:Y6g 1<cLine)(I:Y4)(g:oQ H a y (Yn))(ry:Y2W)(h:∀w' s',Y4n s'->fI v w'->Q w' s') :
  Y6W A (getItem (Yf) u) Q E s:=by
 rcases g with⟨m,k,e,i,l⟩ | ⟨m,k,b,e,i,C,l⟩
 ·subst i;obtain⟨z,hd,B,d,n⟩:=Ycz e;obtain⟨w',r,c⟩:=Yip (YeA B) (by rw[l];exact d.val k);exact wpAny_getItem_of (CM ry) n.mapOf r (h w' _ (I.tok _) c)
 ·subst i;cases(show u=Value.ref b from ry);obtain⟨z,hd,G,d,n⟩:=YcA e;obtain⟨w',r,c⟩:=Yip ((atKey G k).map (·.2)) (by rw[l];exact d.val k);obtain⟨p,D,j⟩:=eL.mp r;refine wpAny_getItem_heap (Ydy) (YeU C) n D ?_;rw[j];exact h w' _ (I.tok _) c
def aI3{Q:Yc}(hu:Y6g 1<cLine)(I:Y4)(g:oQ H a y o)(ry:Y2W)(h:∀s',Y4n s'->Q (.bool o.isSome) s') :
  Y6W A (compareOp .In u (Yf)) Q E s:=by
 rcases g with⟨d,k,e,i,l⟩ | ⟨d,k,b,e,i,m,l⟩
 ·subst i;obtain⟨z,hd,n,c,j⟩:=Ycz e;refine wpAny_in_of (CM ry) hd j.mapOf ?_;rw[<-(c.val k).isSome_eq,<-l];exact h _ (I.tok _)
 ·subst i;cases(show u=Value.ref b from ry);obtain⟨z,hd,p,c,j⟩:=YcA e;refine wpAny_in_heap (Ydy) (YeU m) hd j ?_;have q:=(c.val k).isSome_eq;rw[Option.isSome_map]at q;rw[<-q,<-l];exact h _ (I.tok _)
def AV{h':Heap}{t':Nat}{ob:HO}(I:Y4)(mu:Mut (H a))(hs:Ybu a h')(he:∃q,Y8p a (some q))(new:hV X.prog X.w (Y4J ob) h' a ob) :
  Y4m (Y4J ob) ({ s with heap:=h',toks:=t' }) :=
 YiM a a mu (λb q c z=>(hs.2 b c).trans z) he new
def ZA{P:Program}{w:World}{H':Hp}{h':Heap}{kvs:Y2j}{vs:YbA fQ}(z:YdN)(hd:Y62 a)(rel:Y7x)(dd:h'.DictOf (gR P w) a vs) :
  hV P w H' h' a (.dK kvs):=⟨z,hd,vs,rel,dd⟩
def TZ{H':Hp}{Q:Ycy}(hu:Y6g 1<cLine)(I:Y4)(g:IH H a y v H')(ry:Y2W)(rv:fI v r)(h:∀s',Y93->Q () s') :
  Y6W A (setItem (Yf) u r) Q E s:=by
 rcases g with⟨i,k,e,n,l,p⟩ | ⟨i,k,b,e,n,L,l,p⟩
 ·subst n p;obtain⟨z,hd,N,d,D⟩:=aCU I.hok e;have G:Y0z N.length:=by rw[<-d.length];exact z
  have C:Y0z ((kG i k v).length):=by have:=fP i k v;exact Oo
  refine wpAny_setItem_pairs (hsz:=G) (CM ry) D λJ j B=>h _ ?_;have U:∃q,J.get? a=some q:=let ⟨q,_,_,m,_⟩:=j;⟨q,m⟩;exact AV I (by rw[e];exact True.intro) B U (ZA C hd (d.put k rv) j)
 ·subst n p;cases(show u=Value.ref b from ry);obtain⟨z,hd,Y,d,D⟩:=aCT I.hok e;have G:Y0z Y.length:=by rw[<-Paired.length d];exact z
  have C:Y0z ((kG i k v).length):=by have:=fP i k v;exact Oo
  refine wpAny_setItem_heap (hsz:=G) (Ydy) (YeU L) D λJ j B=>h _ ?_;obtain⟨q,S,T,m,W,O,R,_,P⟩:=j;refine AV I (by rw[e];exact True.intro) B ⟨q,m⟩ ⟨C,hd,_,(d.put k L rv).keeps λc Z M=>?_,q,S,T,m,W,O,R,P⟩;rw[eP (sX M e (λz=>nomatch z))];exact M
end
section
variable{X:Cx}{pins:Ad}{σ:St}{H:Hp}{s:Shared}{a:Addr}{kvs:Y2j}{k:fQ}{u:Value}{A:Around}{E:Yc}
end
def aFK(i:Expr):Prop:=∀ov iv,Yg9 i ov iv=Yjp [ov,iv] ov iv
def aAQ{prog:Program}{w:World}{A:Around}{E:Yc}{s:Shared}{env:Env}{value slice:Expr}{pos:Pos}{T id:String}{Q:Yc}
  (hl:typeLookup (.type T) "__getitem__" = pure (YhZ id)) (hs:aFK slice)
  (h:wpAny (model prog w) A (Y1t value) (λo s₁=>wpAny (model prog w) A (Y1t slice) (λi s₂=>s₂.TypeIs o T/\wpAny (model prog w) A (getItem o i) Q E s₂) E s₁) E s) :
  Y1K (Y1t (Y73 value slice)):=by
 refine Subscript_ (YfO h (λo s₁ j=>YfO j (λi s₂ c=>?_) x) x);obtain⟨e,c⟩:=c;unfold subscriptTail;refine Y3R;rw[getitemInPython_of_ne e.not_modules];refine wpAny_bind (wpAny_specialOf e hl ?_);have a:wpAny (model prog w) A (Yg9 slice o i) (λr d=>wpAny (model prog w) A (letTemporaryGo value o r >>= λ_=>pure r) Q E d) E s₂:=by
  rw[hs o i];exact wpAny_operating (YfO c (λr d g=>wpAny_bind (wpAny_letTemporaryGo (wpAny_pure g))) x)
 first
  | exact wpAny_pure (YjR)
  | exact Y6V YjR
  | exact YjR
def KJ{X:Cx}{pins:Ad}{σ:St}{H:Hp}{s:Shared}{a:Addr}{y:V}{o:Am}(I:Y4)(g:oQ H a y o):s.TypeIs (Yf) "dict" := by
 rcases g with⟨c,k,e,_,_⟩ | ⟨c,k,b,e,_,_,_⟩
 ·obtain⟨_,_,h,_,d⟩:=Ycz e;exact d.typeIs
 ·obtain⟨_,_,i,_,d⟩:=YcA e;exact d.typeIs
def aGb(td ty:TE):TE:=λσ H Q=>td σ H λx H1=>ty σ H1 λy H2=>∃a v,x=Yf/\oQ H2 a y (Yn)/\Q v H2
def aGg(td ty tv:TE):TS:=λD σ H=>tv σ H λv H1=>td σ H1 λx H2=>ty σ H2 λy H3=>∃a H4,x=Yf/\IH H3 a y v H4/\Y8m H4
section
variable{X:Cx}{o i e value:Expr}{pos pos' tpos:Pos}{td ty tv:TE}
def aBs(hu:Y6z<cLine)(ho:Y08 o td)(hi:Y08 i ty)(hs:aFK i):Y08 (Y73 o i) (aGb td ty):=by
 intro c s σ H Q I h;refine aAQ PySem.F.slot_dict_getitem.lookup hs (thn (ho c s σ H _ I h) λu e ⟨x,H1,I1,n,m⟩=>thn (hi c e σ H1 _ I1 m) λB z ⟨y,H2,I2,j,a,v,p,g,l⟩=>?_);subst p;obtain rfl:u=Y76:=n;exact⟨KJ I2 g,UA hu I2 g j λr w I3 d=>⟨v,H2,I3,d,l⟩⟩
def aBj(hu:Y6z<cLine)(ho:Y08 o td)(hi:Y08 i ty)(hv:Y08 value tv)(hs:YhQ (Ygh o i)=Y3v) :
  PS X (Ydx [Ygh o i] value) (aGg td ty tv):=by
 intro c s σ H D I h;refine wpAny_Assign_Subscript (thn (hv c s σ H _ I h) λr e ⟨v,H1,I1,rv,m⟩=>thn (ho c e σ H1 _ I1 m) λu n ⟨x,H2,I2,p,l⟩=>thn (hi c n σ H2 _ I2 l) λC B ⟨y,H3,I3,j,a,H4,w,g,d⟩=>?_) hs;subst w;obtain rfl:u=Y76:=p;exact TZ hu I3 g j rv λz I4=>⟨σ,H4,I4,d⟩
end
def ZC{P:Program}{w:World}{H:Hp}(h:Heap)(hb:YgX sysModules):hV P w H (h.push { cls:=.type "dict",data:=.dict #[] }) h.objs.size (.dK []) :=
 ⟨Y0l,beq_eq_false_iff_ne.mpr (Ne.symm (dN hb)),[],.nil,Heap.DictOf.new h⟩
def KH{P:Program}{w:World}{H:Hp}(h:Heap)(hb:YgX sysModules):hV P w H (h.push { cls:=.type "dict",data:=.dict #[] }) h.objs.size (.dT []) :=
 ⟨Y0l,beq_eq_false_iff_ne.mpr (Ne.symm (dN hb)),[],.nil,_,#[],0,Y1l,Yx rfl rfl,rfl,rfl,List.nodup_nil⟩
def VX:TE:=λ_ H Q=>∀p,H p=none->Y4l p (Y3B p (.dT []))
section
variable{X:Cx}{pos:Pos}
def pe_dnewT:Y08 (YeK [] []) VX:=λc s σ H Q I h =>
 wpAny_Dict_empty (Yb5 _ (I.laid (a:=s.heap.objs.size) (o:=.dT []) (t':=s.toks) (Ygu q) (Yy) (KH s.heap I.big)) (h _ (Y2D)))
end
def ME:Yb4->St->Y13 Hp ((Y88 V V)->(Y2d Hp))
 | [],_,H,Q=>Q [] H
 | (tk,tv)::r,σ,H,Q=>tk σ H λx H1=>tv σ H1 λy H2=>ME r σ H2 λps H3=>Q ((x,y)::ps) H3
abbrev VV:Y13 (Y88 V V) (YbA Value):=Paired λp q=>fI p.1 q.1/\fI p.2 q.2
def PPs(X:Cx)(pos:Pos)(keys:YeI)(values:Y0b)(trs:Yb4):Prop :=
 ∀(pins:Ad) (s:Shared) (σ:St) (H:Hp) (Q:(Y88 V V)->(Y2d Hp)),Y4->ME trs σ H Q ->
  Y3Z (evalPairs (pairTrees keys values X.env pos)) (λvs s'=>∃ps H',Y93/\VV ps vs/\Q ps H')
def pps_nil{X:Cx}{pos:Pos}:PPs X pos [] [] []:=λa s σ H Q I h=>pairTrees_nil_walk ⟨[],H,I,.nil,h⟩
def XH{X:Cx}{pos:Pos}{k v:Expr}{ks:YeI}{vs:Y0b}{tk tv:TE}{trs:Yb4}(hk:Y08 k tk)(hv:Y08 v tv)(hr:PPs X pos ks vs trs) :
  PPs X pos (YaL::ks) (v::vs) ((tk,tv)::trs):=λa s σ H Q I h =>
 pairTrees_cons_walk (thn (hk a s σ H _ I h) λu e ⟨x,H1,I1,n,l⟩=>thn (hv a e σ H1 _ I1 l) λw m ⟨y,H2,I2,i,j⟩ =>
  thn (hr a m σ H2 _ I2 j) λp r ⟨g,H3,I3,c,d⟩=>⟨(x,y)::g,H3,I3,.cons ⟨n,i⟩ c,d⟩)
def CB(kvs more:Y2j):Y2j:=more.foldl (λacc kv=>kG acc kv.1 kv.2) kvs
def KV.merge:∀{more:Y2j}{rs:YbA fQ}{kvs:Y2j}{vs:YbA fQ},KV more rs->Y7x->KV (CB kvs more) (merged vs rs):=by
 intro more rs kvs vs r;unfold KV at r
 induction r generalizing kvs vs with
 | nil=>intro q;exact q
 | @cons p q ps qs h t ih =>
  intro a;have e:KV (kG kvs p.1 p.2) (stored vs q.1 q.2):=by
   have:=a.put p.1 h.2;rw[<-h.1];exact this
  exact ih e
theorem vL:∀(more kvs:Y2j),(CB kvs more).length<=kvs.length+more.length
 | [],kvs=>by show kvs.length<=kvs.length+0;exact Oo
 | p::r,kvs=>by
  have h1:=vL r (kG kvs p.1 p.2);have a:=fP kvs p.1 p.2;show(CB (kG kvs p.1 p.2) r).length<=_;rw[cK];exact Oo
theorem DL{P:Program}{w:World}:∀{kvs:Y2j}{ws:YbA Value},VV (YbP (kV kv.1,kv.2)) ws->∃rs,Carries (gR P w) ws rs/\KV kvs rs
 | [],_,r=>by rw[List.map_nil]at r;cases r;exact⟨[],True.intro,.nil⟩
 | p::kvs,_,r=>by
  rw[bH]at r;cases r with
  | @cons a b as bs h t =>
   obtain⟨rs,c,q⟩:=DL (P:=P) (w:=w) t;obtain⟨d,b2⟩:=b;exact⟨(p.1,b2)::rs,⟨CM h.1,rfl,c⟩,.cons ⟨rfl,h.2⟩ q⟩
def aCI(trs:Yb4):TE:=λσ H Q=>∀p,H p=none->ME trs σ (Y3B p (.dK [])) λps H2=>H2 p=Y9X []/\∃kvs:List (fQ × V),ps=YbP (kV kv.1,kv.2)/\Y5Y 15/\Y4l p (upd H2 p (.dK (CB [] kvs)))
def aBr{X:Cx}{pos:Pos}{keys:YeI}{values:Y0b}{trs:Yb4}(h:PPs X pos keys values trs)(hall:keys.all (·.isSome)=true)(hl:keys.length=values.length)(h0:keys≠[])
  (h15:keys.length<=15):Y08 (YeK keys values) (aCI trs):=by
 intro d s σ H Q I q;have u:=Yiv;have I1:=Yi1 (.dK []) (s.heap.push { cls:=.type "dict",data:=.dict #[] }) s.toks (Ygu q) Yy (ZC s.heap I.big);refine wpAny_Dict_walk (knd:=gR X.prog X.w) hall hl h0 h15 (thn (h d _ σ _ _ I1 (q _ u)) λJ N ⟨L,H2,I2,j,e,g,p,M,G⟩=>?_);subst p;obtain⟨m,c,y⟩:=DL (P:=X.prog) (w:=X.w) j;obtain⟨z,hd,D,l,B⟩:=aCU I2.hok e;cases l;refine⟨m,c,B,λh' i r=>Yb5 _ ?_ G⟩;have C:Y0z ((CB [] g).length):=by
  have n:=vL g [];rw[List.length_nil]at n;rw[sizeLine_eq];exact Oo
 have A:∃q,YiG (some q):=let ⟨q,_,_,hq,_⟩:=i;⟨q,hq⟩;exact AV I2 (by rw[e];exact True.intro) r A (ZA C hd (y.merge .nil) i)
structure M1(X:Cx)(o:Expr)(m:Str)(apos:Pos)(e:Expr)(cpos:Pos):Prop where
 base:attributeBase o m X.env (Y1a o)=Y1a o
 few:((backTo cpos (starEach [e] X.env)).all (λx=>! x.1)&&(backToKw cpos (keywordEach [] X.env)).all (λx=>x.1.isSome)
  && Y1c (([e]:List Expr).length+([]:List Keyword).length+(if([]:List Keyword).isEmpty then 0 else 1)) 30)=true
 line:(YbG)=true
 trees:YgY (Y2H e)=[(false,Y12)]
structure M2(X:Cx)(o:Expr)(m:Str)(apos:Pos)(e f:Expr)(cpos:Pos):Prop where
 base:attributeBase o m X.env (Y1a o)=Y1a o
 few:((backTo cpos (starEach [e,f] X.env)).all (λx=>! x.1)&&(backToKw cpos (keywordEach [] X.env)).all (λx=>x.1.isSome)
  && Y1c (([e,f]:List Expr).length+([]:List Keyword).length+(if([]:List Keyword).isEmpty then 0 else 1)) 30)=true
 line:(YbG)=true
 trees:YgY (Y5I e f)=[(false,Y12),(false,Y1a f)]
def IsD(H:Hp)(a:Addr):Prop:=(∃kvs,Rd H a (.dK kvs))\/∃kvs,Rd H a (.dT kvs)
def YK{X:Cx}{pins:Ad}{σ:St}{H:Hp}{s:Shared}{a:Addr}(I:Y4)(d:IsD H a) :
  s.TypeIs (Yf) "dict" /\ (∀b,Y76=Y0e->∃ob,Y1u b ob/\ob.dict=none)/\Y62 a:=by
 rcases d with⟨g,e⟩ | ⟨g,e⟩
 ·obtain⟨_,hd,j,_,c⟩:=Ycz e;refine⟨c.typeIs,λb q=>?_,hd⟩;cases q;obtain⟨ob,_,_,h,i,_⟩:=c;exact⟨ob,h,i.2.1⟩
 ·obtain⟨_,hd,l,_,c⟩:=YcA e;refine⟨c.typeIs,λb q=>?_,hd⟩;cases q;obtain⟨ob,_,_,h,i,_⟩:=c;exact⟨ob,h,i.2.1⟩
section
variable{X:Cx}{pins:Ad}{σ:St}{H:Hp}{s:Shared}{a:Addr}{y d:V}{u r:Value}{o:Am}{A:Around}{E:Yc}
def aFt{Q:Yc}(hu:Y6g 1<cLine)(I:Y4)(g:oQ H a y o)(ry:Y2W)(h:∀w' s',Y4n s'->fI (o.getD .non) w'->Q w' s') :
  Y6W A (YbB "dict.get" [Yf,u]) Q E s:=by
 rcases g with⟨i,k,e,j,l⟩ | ⟨i,k,b,e,j,n,l⟩
 ·subst j;obtain⟨z,hd,p,c,d⟩:=Ycz e;refine YfE d.typeIs (PySem.F.args_dict_get_2 _ _) (meets_dict_get (gR X.prog X.w) a (CM ry) hd) (Y0C d.mapOf (h _ _ (I.tok _) ?_));rw[l];exact(c.val k).getD rfl
 ·subst j;cases(show u=Value.ref b from ry);obtain⟨z,hd,m,c,d⟩:=YcA e;refine YfE d.typeIs (PySem.F.args_dict_get_2 _ _) (meetsH_dict_get (Yhq X.w) a b hd) ⟨Ydy,k,m,YeU n,d,h _ _ (I.tok _) ?_⟩;rw[l];exact(c.val k).getD rfl
def aFs{Q:Yc}(hu:Y6g 1<cLine)(I:Y4)(g:oQ H a y o)(ry:Y2W)(rd:fI d r)(h:∀w' s',Y4n s'->fI (o.getD d) w'->Q w' s') :
  Y6W A (YbB "dict.get" [Yf,u,r]) Q E s:=by
 rcases g with⟨j,k,e,m,l⟩ | ⟨j,k,b,e,m,p,l⟩
 ·subst m;obtain⟨z,hd,B,c,i⟩:=Ycz e;refine YfE i.typeIs (PySem.F.args_dict_get_3 _ _ _) (meets_dict_get_default (gR X.prog X.w) a (CM ry) hd r) (Y0C i.mapOf (h _ _ (I.tok _) ?_));rw[l];exact(c.val k).getD rd
 ·subst m;cases(show u=Value.ref b from ry);obtain⟨z,hd,n,c,i⟩:=YcA e;refine YfE i.typeIs (PySem.F.args_dict_get_3 _ _ _) (meetsH_dict_get_default (Yhq X.w) a b hd r) ⟨Ydy,k,n,YeU p,i,h _ _ (I.tok _) ?_⟩;rw[l];exact(c.val k).getD rd
end
def VZ(td ty:TE):TE:=λσ H Q=>td σ H (YgU (x=Yf/\IsD H1 a/\ty σ H1 λy H2=>∃o,oQ H2 a y o/\Q (o.getD .non) H2))
def VY(td ty tx:TE):TE:=λσ H Q=>td σ H (YgU (x=Yf/\IsD H1 a/\ty σ H1 λy H2=>tx σ H2 λz H3=>∃o,oQ H3 a y o/\Q (o.getD z) H3))
section
variable{X:Cx}{o e f:Expr}{apos cpos:Pos}{td ty tx:TE}
def XR(hu:Y6z<cLine)(ho:Y08 o td)(he:Y08 e ty)(m:M1 X o "get" apos e cpos):Y08 (YcU "get" [e] []) (VZ td ty):=by
 intro c s σ H Q I h;refine wpAny_Call_method m.base m.few m.line PySem.F.plainAttrs_dict PySem.F.slot_dict_get PySem.F.type_dict_get (thn (ho c s σ H _ I h) λu n ⟨x,H1,I1,z,a,B,d,w⟩=>?_);subst B;obtain rfl:u=Y76:=z;obtain⟨l,j,_⟩:=YK I1 d;refine Y0n l j;rw[m.trees];refine Calls.callWith_builtin rfl (Calls.evalArgs_plain (Yih (he c n σ H1 _ I1 w) (λL J ⟨y,H2,I2,p,C,g,r⟩=>Calls.spliced_nil ?_)));exact aFt hu I2 g p λD G I3 i=>⟨_,H2,I3,i,r⟩
def XO(hu:Y6z<cLine)(ho:Y08 o td)(he:Y08 e ty)(hf:Y08 f tx)(m:M2 X o "get" apos e f cpos):Y08 (YcU "get" [e,f] []) (VY td ty tx):=by
 intro c s σ H Q I h;refine wpAny_Call_method m.base m.few m.line PySem.F.plainAttrs_dict PySem.F.slot_dict_get PySem.F.type_dict_get (thn (ho c s σ H _ I h) λu p ⟨x,H1,I1,G,a,J,d,C⟩=>?_);subst J;obtain rfl:u=Y76:=G;obtain⟨n,j,_⟩:=YK I1 d;refine Y0n n j;rw[m.trees];refine Calls.callWith_builtin rfl (Calls.evalArgs_plain (Calls.spliced_cons (thn (he c p σ H1 _ I1 C) λR D ⟨y,H2,I2,r,w⟩ =>
  Yih (hf c D σ H2 _ I2 w) (λP O ⟨z,H3,I3,B,L,g,l⟩=>Calls.spliced_nil ?_))))
 exact aFs hu I3 g r B λN M I4 i=>⟨_,H3,I4,i,l⟩
end
section
variable{X:Cx}{pins:Ad}{σ:St}{H:Hp}{s:Shared}{a:Addr}{kvs:Y2j}{A:Around}{E:Yc}
end
section
variable{X:Cx}{pins:Ad}{σ:St}{H:Hp}{s:Shared}{a:Addr}{y:V}{u:Value}{A:Around}{E:Yc}
end
section
variable{κ:Type}[DecidableEq κ]
def VM{kvs:Y2S}{k:κ}(h:Y4b=none):¬YhS k (·.1):=by
 intro m;obtain⟨p,a,e⟩:=aN.mp m;have q:Yaw (λc=>Y0U c.1 k) true:=List.any_eq_true.mpr ⟨p,a,cR e⟩;rw[nP,h]at q;exact absurd q (by simp)
def GF{kvs:Y2S}{k:κ}{v:V}(h:Y4b=Yn):YhS k (·.1):=by
 have q:Yaw (λc=>Y0U c.1 k) true:=by
  rw[nP,h]
  all_goals rfl
 obtain⟨p,a,e⟩:=List.any_eq_true.mp q;exact aN.mpr ⟨p,a,of_decide_eq_true e⟩
end
abbrev bits(i:Int):Nat:=Builtin.Int.intBits i
def aAq(i j:Int):Prop:=0<j/\bits j<=9000
def JU{j:Int}{n:Nat}(h:bits j<=n)(hn:0<n):j.natAbs.log2<n:=by
 unfold bits Builtin.Int.intBits at h;by_cases hj:(j == 0)=true
 ·have:j=0:=by simpa using hj
  subst this;exact aI (by decide +kernel:(0:Int).natAbs.log2<=0) hn
 ·rw[if_neg hj]at h;exact Oo
section
variable{X:Cx}
def gF:Y4h .FloorDiv (rI aAq (Y8s (i/j))):=opI λi j _ _ _ _ _ a q=>by
 refine floordiv_int (by have:=a.1;exact Oo) ?_ (.inl (PyProof.noPylong_of_log2 (JU a.2 Dd)));rw[Int.fdiv_eq_ediv_of_nonneg i (by have:=a.1;exact Oo)];exact q
def dH:Y4h .Mult (rI IntMulOk (Y8s (i*j))):=opI λ_ _ _ _ _ _ _ a q=>mul_int q a
end
mutual
def dL(H:Hp):Y13 PyData V
 | .none,v=>v=.non
 | .bool b,v=>v=.bl b
 | .int i,v=>v=.int i
 | .str x,v=>v=.str x
 | .list ds,v=>∃a xs,v=.ref a/\H a=some (.lst xs)/\bJ H ds xs
 | .tuple ds,v=>∃a xs,v=.ref a/\H a=some (.tup xs)/\bJ H ds xs
 | .dict kvs,v=>kvs=[]/\∃a,v=.ref a/\H a=some (.dK [])
def bJ(H:Hp):Y13 Y0Y Al
 | [],vs=>vs=[]
 | d::ds,vs=>∃x xs,vs=x::xs/\dL H d x/\bJ H ds xs
end
mutual
theorem dL.same{H H':Hp}(e:Y1):∀{d:PyData}{v:V},Y5F v->dL H' d v
 | .none,_,h=>h
 | .bool _,_,h=>h
 | .int _,_,h=>h
 | .str _,_,h=>h
 | .list ds,_,h=>by
  unfold dL at h ⊢;obtain⟨a,xs,rfl,h1,h2⟩:=h;exact⟨a,xs,rfl,e _ _ h1,bJ.same e h2⟩
 | .tuple ds,_,h=>by
  unfold dL at h ⊢;obtain⟨a,xs,rfl,h1,h2⟩:=h;exact⟨a,xs,rfl,e _ _ h1,bJ.same e h2⟩
 | .dict kvs,_,h=>by
  unfold dL at h ⊢;obtain⟨c,a,rfl,h1⟩:=h;exact⟨c,a,rfl,e _ _ h1⟩
theorem bJ.same{H H':Hp}(e:Y1):∀{ds:Y0Y}{vs:Al},Y6n->Y3M ds vs
 | [],_,h=>h
 | d::ds,_,h=>by
  unfold bJ at h ⊢;obtain⟨x,xs,rfl,h1,h2⟩:=h;exact⟨x,xs,rfl,dL.same e h1,bJ.same e h2⟩
end
theorem dL.tup{H:Hp}{a:Addr}{xs:Al}{ds:Y0Y}(h:H a=Y11)(r:Yac xs):dL H Yhh Yf:=by
 unfold dL;exact Y0Z a xs h r
theorem dL.lst{H:Hp}{a:Addr}{xs:Al}{ds:Y0Y}(h:H a=Y0A)(r:Yac xs):dL H (.list ds) Yf:=by
 unfold dL;exact Y0Z a xs h r
theorem dL.int{H:Hp}(i:Int):dL H Y17 Y17:=by unfold dL;rfl
theorem dL.str{H:Hp}(i:Str):dL H (.str i) (.str i):=by unfold dL;rfl
def bJ.nil{H:Hp}:Y1g [] []:=by unfold bJ;rfl
def bJ.cons{H:Hp}{d:PyData}{ds:Y0Y}{x:V}{xs:Al}(h:Y5F x)(hs:Yac xs):Y1g (d::ds) (x::xs):=by
 unfold bJ;exact Y0Z x xs h hs
section
variable{X:Cx}{pins:Ad}{σ:St}{H:Hp}{s:Shared}
mutual
theorem dL.reads(I:Y4):∀{d:PyData}{v:V}{u:Value},Y5F v->Y3o->∃as,Reads s.heap u d as
 | .none,_,u,h,r=>by
  cases(show _=V.non from h);cases(show u=Value.none from r);exact⟨_,.none⟩
 | .bool b,_,u,h,r=>by
  cases(show _=V.bl b from h);cases(show u=Value.bool b from r);exact⟨_,.bool b⟩
 | .int b,_,u,h,r=>by
  cases(show _=V.int b from h);obtain⟨t,q⟩:=(show ∃t,u=Value.int b t from r);cases q;exact⟨_,.int b t⟩
 | .str b,_,u,h,r=>by
  cases(show _=V.str b from h);obtain⟨t,q⟩:=(show ∃t,u=Value.str b t from r);cases q;exact⟨_,.str b t⟩
 | .list ds,v,u,h,r=>by
  unfold dL at h;obtain⟨a,m,rfl,g,l⟩:=h;cases(show u=Value.ref a from r);obtain⟨_,j,n,i,e⟩:=(show hV X.prog X.w H s.heap a (.lst m)from I.hok a _ g);obtain⟨as,q⟩:=bJ.reads I l i;exact⟨_,.list e rfl rfl (by simpa using q)⟩
 | .tuple ds,v,u,h,r=>by
  unfold dL at h;obtain⟨a,m,rfl,g,l⟩:=h;cases(show u=Value.ref a from r);obtain⟨_,j,i,o,e,A,n,hd⟩:=(show hV X.prog X.w H s.heap a (.tup m)from I.hok a _ g);obtain⟨as,q⟩:=bJ.reads I l i;exact⟨_,.tuple e A hd (by simpa using q)⟩
 | .dict kvs,v,u,h,r=>by
  unfold dL at h;obtain⟨rfl,a,rfl,g⟩:=h;cases(show u=Value.ref a from r);obtain⟨_,_,D,C,o,p,G,e,B,hd,_,c,_⟩:=(show hV X.prog X.w H s.heap a (.dK [])from I.hok a _ g);cases C;have z:p.toList=[]:=by
   cases q:p.toList with
   | nil=>rfl
   | cons y ys=>rw[q]at c;cases c
  exact⟨_,.dict e B.1 hd (by rw[z];exact .nil) (by rw[z];exact .nil)⟩
theorem bJ.reads(I:Y4):∀{ds:Y0Y}{vs:Al}{us:Ag},Y6n->Y92->∃as,ReadsAll s.heap us ds as
 | [],_,us,h,r=>by
  cases(show _=[]from h);cases r;exact⟨_,.nil⟩
 | d::ds,_,us,h,r=>by
  unfold bJ at h;obtain⟨x,xs,rfl,h1,h2⟩:=h;cases r with
  | cons r1 r2 =>
   obtain⟨as,c⟩:=dL.reads I h1 r1;obtain⟨bs,a⟩:=bJ.reads I h2 r2;exact⟨_,.cons c a⟩
end
end
section
variable{X:Cx}
end
section
variable{X:Cx}
end
structure fG(CX:UP)(P:Program)(w:World)(K:Aa)(mg:Y0y)(base:Heap)(k:Nat)(x:Str)(ps:Ah)(sp:Sp):Prop where
 ex:∃(f:Addr) (fd:FuncData),dO P w K mg base CX k f fd ps sp/\mg x=Y6 f/\Y9P K f=true/\uE K fd ps []
section
variable{X:Cx}{k:Nat}{ps:Ah}{sp:Sp}{x:Str}{p pos:Pos}{e:Expr}{es:Y0b}{t:TA}
def aGy(F:fG cW X.prog X.w X.K X.mg X.base k x ps sp)(hr:Y6A)(ha:PA X (e::es) t)(hg:Y2J:=by rfl)
  (hdb:Y1m ("__debug__" : Str):=by decide) (he:Y3n=(false,Y12)::Y2z:=by rfl) (hpl:Yw ((backTo pos (starEach es X.env)).any (·.1)):=by rfl) :
  Y08 (.Call (.Name x p) (e::es) [] pos) (zH sp [] E0 t):=by
 obtain⟨f,h,c,d,a,g⟩:=F.ex;exact aBv c hr hg d a g .nil XU ha hdb he hpl
end
section
variable{K:Aa}{H:Hp}{p:Addr}{xs:Al}{i:Int}{v:V}{Q:VK}
def xU(h:H p=Y0A)(e:EA xs i=Yn)(q:Q v H):rIx K (Y1G) (Y17) H Q:=.inl ⟨p,xs,i,v,rfl,rfl,YaA,e,q⟩
def lE(h:H p=Y11)(e:EA xs i=Yn)(q:Q v H):rIx K (Y1G) (Y17) H Q:=Ya8 ⟨p,xs,i,v,rfl,rfl,jV.of h,e,q⟩
def stL{u:V}{Q:Y2d Hp}{j:Nat}(h:H p=Y0A)(e:YdY i=Y5g)(q:Q (Y47 p (xs.set j u))):PL (Y1G) (Y17) u H Q:=⟨p,xs,i,j,rfl,rfl,h,e,q⟩
end
def kL(p:Addr)(H:Hp):Hp:=λb=>if b=p then none else H b
def kL.at{p b:Addr}{H:Hp}(h:b≠p):kL p H b=H b:=by unfold kL;rw[Y4A]
def kL.self{p:Addr}{H:Hp}:kL p H p=none:=by unfold kL;rw[Yr]
def kL.same{p:Addr}{H:Hp}:aT (kL p H) H:=λb o h=>by
 unfold kL at h;by_cases e:b=p
 ·rw[Y1s]at h;cases h
 ·rw[Y0F]at h;exact h
def kL.ne{p b:Addr}{H:Hp}{o:HO}(h:kL p H b=Y9):b≠p:=λe=>by
 subst e;rw[kL.self]at h;cases h
def kL.of{p b:Addr}{H:Hp}{o:HO}(n:b≠p)(h:H b=Y9):kL p H b=Y9:=by rw[kL.at n];exact h
def kL.upd_self{p:Addr}{H:Hp}{o:HO}:kL p (Y3B p o)=kL p H:=by
 funext b
 by_cases e:b=p
 ·subst e;rw[kL.self,kL.self]
 ·rw[kL.at e,kL.at e,L2.eP e]
abbrev aU(p:Addr)(H H':Hp):Prop:=aT (kL p H) (kL p H')
def aT.but{p:Addr}{H H':Hp}(h:Y1):Y0R:=λb o e=>by
 have n:=kL.ne e;exact kL.of n (h _ _ (kL.same _ _ e))
theorem aT.upd{H:Hp}{q:Addr}{o:HO}(h:H q=none):Y2c (Y3B q o):=λb u e=>by
 rw[L2.eP (dR e h)];exact e
def aU.self{p:Addr}{H:Hp}{o:HO}:aU p H (Y3B p o):=by unfold aU;rw[kL.upd_self];exact Y09
def aU.free{p q:Addr}{H H':Hp}(e:Y0R)(hp:∃o,Y34=Y9)(h:H' q=none):H q=none:=by
 cases k:H q with
 | none=>rfl
 | some o =>
  by_cases n:q=p
  ·subst n;obtain⟨c,a⟩:=hp;rw[a]at h;cases h
  ·have:=kL.same _ _ (e q o (kL.of n k));rw[this]at h;cases h
section
variable{K:Aa}{H:Hp}{p:Addr}{xs:Al}{i:Int}{v:V}{Q:VK}
def stG{u:V}{Q:Y2d Hp}{j:Nat}(h:H p=Y0A)(e:YdY i=Y5g)(k:∀H',Y34=Yq (xs.set j u)->Y0R->Q H'):PL (Y1G) (Y17) u H Q :=
 stL h e (k _ bK aU.self)
def alT{Q:Y3K}(hz:Y4o)(k:∀q H',H q=none->H' q=Y11->Y1->Y7S):Y4o/\∀p,H p=none->Y4l p (Y3B p (.tup xs)) :=
 ⟨hz,λq a=>k q _ a bK (aT.upd a)⟩
def alL{Q:Y3K}(hz:Y4o)(k:∀q H',H q=none->H' q=Y0A->Y1->Y7S):Y4o/\∀p,H p=none->Y4l p (Y47 p xs) :=
 ⟨hz,λq a=>k q _ a bK (aT.upd a)⟩
def aU.at{p b:Addr}{H H':Hp}{o:HO}(s:Y0R)(n:b≠p)(h:H b=Y9):Y1p=Y9:=kL.same _ _ (s _ _ (kL.of n h))
end
def uV{n:Nat}(h:n<=64):Y0z n:=Y3h h
def xH{c A B:Prop}[Yk8](h1:c->A)(h2:¬c->B):if decide c=true then A else B :=
 aGG (λh=>h1 (of_decide_eq_true h)) (λh=>h2 (λk=>h (cR k)))
def aGF{c A B:Prop}[Yk8](h1:¬c->A)(h2:c->B):if(! decide c)=true then A else B :=
 aGG (λh=>h1 (λk=>by rw[cR k]at h;exact Y64 h)) (λh=>h2 (Decidable.of_not_not λk=>h (by rw[bZ k];rfl)))
def vJ(c:TT):TT:=λσ H Q=>∃Q':Bool->Hp->Prop,c σ H Q'/\∀b H1,Q' b H1->Q b H1
def PT.mono{X:Cx}{e:Expr}{c:TT}(h:PT X e c):PT X e (vJ c):=λa s σ H Q I ⟨Q',d,g⟩ =>
 thn (h a s σ H Q' I d) λb i ⟨H',I',q⟩=>⟨H',I',g _ _ q⟩
def SN{X:Cx}{pos:Pos}{c:Expr}{body:Y4w}{tc:TT}{tb:TS}(hp:Yf7)(hc:PT X c tc)(hb:OC X body tb):PS X (.While c body [] pos) (GH (vJ tc) tb) :=
 XD hp hc.mono hb
@[irreducible] def MR(K:Aa):Y1i:=λxs H Q=>∃x n,xs=[x]/\aG8 K x H n/\Y1x n
@[irreducible] def aBd:Y1i:=λxs H Q=>∃i,xs=[Y17]/\Y1x (i.natAbs:Int)
section
variable{X:Cx}{K:Aa}{H:Hp}{p:Addr}{xs:Al}{Q:VK}
def oG:Y4i "len" (MR X.K):=by unfold MR;exact ZQ
def ZP:Y4i "abs" aBd:=by
 unfold aBd;exact λa s σ H c d Q I r ⟨i,e,q⟩=>ZR a s σ H c d Q I r ⟨i,e,by
 have:(if i<0 then -i else i)=(i.natAbs:Int):=by split <;> exact Oo
 rw[this];exact q⟩
def rlL(h:H p=Y0A)(q:Y1x xs.length):MR K [V.ref p] H Q:=by unfold MR;exact Y3P _ (.inl (Y4W xs YaA)) q
def rlT(h:H p=Y11)(q:Y1x xs.length):MR K [V.ref p] H Q:=by unfold MR;exact Y3P _ (.inr (Y4W xs (jV.of h))) q
def raI{i:Int}(q:Y1x (i.natAbs:Int)):aBd (YaJ i) H Q:=by unfold aBd;exact Yx i q
end
def AB{c:TT}{tb:TS}{D:qL}{σ:St}{H:Hp}(W:Nat->Y1I)(R:Y1I)(m:Nat)(h0:W m σ H)
  (hs:∀m σ H,W m σ H->c σ H λb H1=>if b=true then tb { D with nx:=λσ' H'=>∃m',m' < m/\W m' σ' H',ct:=λσ' H'=>∃m',m' < m/\W m' σ' H',bk:=D.nx } σ H1 else R σ H1)
  (hd:∀σ H,R σ H->Y3l):GH (vJ c) tb D σ H :=
 ⟨W,⟨m,h0⟩,λm σ H a=>⟨_,hs m σ H a,λb H1 q=>by
  by_cases hb:b=true
  ·rw[if_pos hb]at q ⊢;exact Y0C (λ_ _ h=>h) q
  ·rw[if_neg hb]at q ⊢;exact hd _ _ q⟩⟩
def aGc(t:TS):TS:=λD σ H=>∃R:St->Hp->Prop,(∀σ' H',R σ' H'->D.nx σ' H')/\(t { D with nx:=R } σ H)
def aEE{X:Cx}{st:Stmt}{t:TS}(h:PS X st t):PS X st (aGc t):=λa s σ H D I ⟨R,d,q⟩ =>
 thn (h a s σ H _ I q) λf e z=>by
  cases f with
  | next=>obtain⟨c,H',I',r⟩:=z;exact Yde c I' (d _ _ r)
  | brk=>exact z
  | cont=>exact z
  | ret u=>exact z
section
variable{es:Y0b}{env:Env}
def SH{a b c}:Y3q (.BoolOp a b c)=(false,Y1t (.BoolOp a b c))::Y3f:=by rw[starEach] <;> (intros;contradiction)
def BS{a b c d}:Y3q (.BinOp a b c d)=(false,Y1t (.BinOp a b c d))::Y3f:=by rw[starEach] <;> (intros;contradiction)
def MK{a b c}:Y3q (.UnaryOp a b c)=(false,Y1t (.UnaryOp a b c))::Y3f:=by rw[starEach] <;> (intros;contradiction)
def WP{a b c d}:Y3q (.IfExp a b c d)=(false,Y1t (.IfExp a b c d))::Y3f:=by rw[starEach] <;> (intros;contradiction)
def tQ{a b c d}:Y3q (.ListComp a b c d)=(false,Y1t (.ListComp a b c d))::Y3f:=by rw[starEach] <;> (intros;contradiction)
def ML{a b c d}:Y3q (Yci b c d)=(false,Y1t (Yci b c d))::Y3f:=by rw[starEach] <;> (intros;contradiction)
def pX{a b c d}:Y3q (.Call a b c d)=(false,Y1t (.Call a b c d))::Y3f:=by rw[starEach] <;> (intros;contradiction)
def tR{a b c}:Y3q (.Constant a b c)=(false,Y1t (.Constant a b c))::Y3f:=by rw[starEach] <;> (intros;contradiction)
def mC{a b c}:Y3q (.Attribute a b c)=(false,Y1t (.Attribute a b c))::Y3f:=by rw[starEach] <;> (intros;contradiction)
def iO{a b c}:Y3q (.Subscript a b c)=(false,Y1t (.Subscript a b c))::Y3f:=by rw[starEach] <;> (intros;contradiction)
def pW{a b}:Y3q (.Name a b)=(false,Y1t (.Name a b))::Y3f:=by rw[starEach] <;> (intros;contradiction)
def WO{a b c}:Y3q (.Tuple a b c)=(false,Y1t (.Tuple a b c))::Y3f:=by rw[starEach] <;> (intros;contradiction)
end
section
variable{X:Cx}{k:Nat}{ps:Ah}{sp:Sp}{x:Str}{p pos:Pos}{e:Expr}{es:Y0b}{te:TE}{t:TA}{id T:String}{r:Y1i}
def qK{env:Env}:Yw ((backTo pos (starEach [] env)).any (·.1)):=rfl
def nJ{env:Env}(hs:Y3q e=(false,Y1t e)::Y3f)(h:Yw ((backTo pos (starEach es env)).any (·.1))):Yw ((backTo pos (starEach (e::es) env)).any (·.1)):=by
 rw[hs];show Yw (false || (backTo pos (starEach es env)).any (·.1));rw[h];rfl
end
structure hJ(X:Cx)(e:Expr)(t:TE):Prop where p:Y08 e t
structure OB(X:Cx)(e:Expr)(t:TT):Prop where p:PT X e t
structure PWw(X:Cx)(e:Expr)(t:TT):Prop where p:PW X e t
structure LO(X:Cx)(es:Y0b)(t:TA):Prop where p:PA X es t
structure IK(X:Cx)(st:Stmt)(t:TS):Prop where p:PS X st t
structure ED(X:Cx)(st:Y4w)(t:TS):Prop where p:OC X st t
structure PGw(X:Cx)(e:Expr)(t:TG):Prop where p:PG X e t
structure aCw(X:Cx)(es:Y0b)(t:TGs):Prop where p:PGs X es t
structure OD(X:Cx)(tg iter:Expr)(t:TI):Prop where p:Yb0 X tg t
structure POw(X:Cx)(e:YgI)(t:TO):Prop where p:PO X e t
@[irreducible] def PM(xs:Al)(H:Hp)(Q:VK):Prop:=Y4o/\∀p,H p=none->Y4l p (Y3B p (.tup xs))
@[irreducible] def PN(xs:Al)(H:Hp)(Q:VK):Prop:=Y4o/\∀p,H p=none->Y4l p (Y47 p xs)
def qH{xs:Al}{H:Hp}{Q:VK}(hz:Y5T 64)(k:∀q H',H q=none->H' q=Y11->Y1->Y7S):PM xs H Q:=by unfold PM;exact alT (uV hz) k
def DT{xs:Al}{H:Hp}{Q:VK}(hz:Y5T 64)(k:∀q H',H q=none->H' q=Y0A->Y1->Y7S):PN xs H Q:=by unfold PN;exact alL (uV hz) k
def tTu(t:TA):TE:=Yh8 (PM xs H1 Q)
def tLs(t:TA):TE:=Yh8 (PN xs H1 Q)
def aHK{ts us:TS}{D:qL}{σ:St}{H:Hp}(h:ts { D with nx:=us D } σ H):aAN ts us D σ H:=h
def aIR{te:TE}{g:TG}{D:qL}{σ:St}{H:Hp}(h:te σ H λx H1=>g x σ H1 D.nx):DV te g D σ H:=h
section
variable{X:Cx}{a b c e o tg:Expr}{es rest:Y0b}{ta tb tc te to:TE}{tA tB':TT}{t:TA}{pos p p2:Pos}{st:Stmt}{sts body orelse:Y4w}{ts us:TS}{x:Str}{r r':R2}{id T:String}{rl:Y1i}{k i j:Nat}{ps:Ah}{sp:Sp}{n:Nat}
def aD(i:Nat){x:Str}{pos:Pos}(hN:Y2G=Yb:=by rfl)(hv:Yg7 x:=by first | exact Or.inl rfl | exact Or.inr (Or.inl rfl) | exact Or.inr (Or.inr rfl))(hd:Y1m ("__debug__" : Str):=by decide)
  (hcd:Y1m ("__classdict__" : Str):=by decide):Yp Y7l (VU i):=⟨pv i hN hv hd hcd⟩
def aK{i j pos}:Yp (Y8r Y17 j) (tC Y17):=⟨pe_int⟩
def VJ{b j pos}:Yp (Y8r (.bool b) j) (tC (.bl b)):=⟨pe_bl⟩
def jW{j pos}:Yp (Y8r .none j) (tC .non):=⟨pe_non⟩
def jD{x j pos}:Yp (Y8r YaP j) (tC YaP):=⟨pe_str⟩
def gQ{v:V}{u:Value}(hg:Y2J)(hm:Y5i=Yl)(r:Y3o)(hd:Y1m ("__debug__" : Str):=by decide):Yp Y7l (tC v):=⟨aBq hg hm r hd⟩
def cC{op:Operator}(ho:Y4h op r)(ha:Y7Z)(hb:Yp b tb):Yp (.BinOp a op b pos) Y9E:=⟨aGw ho ha.p hb.p⟩
def BH{op:UnaryOp}{r:V->(Hp->(Y2d VK))}(ho:UnR X (unaryOp op) r)(ha:Y7Z):Yp (YbW op a) (tUn r ta):=⟨aGv ho ha.p⟩
def oZ{op:CmpOp}(ho:Y30 op r)(ha:Y7Z)(hb:Yp b tb)(hm:YdF op b:=by exact nomark _):Yp (Yci [op] [b] pos) Y9E:=⟨aBu ho ha.p hb.p hm⟩
def eC{op:CmpOp}(ho:Y30 op r)(ha:Y7Z)(hb:Yp b tb)(hm:YdF op b:=by exact nomark _):OB X (Yci [op] [b] pos) (aCB (Y9E)):=⟨aBg ho ha.p hb.p hm⟩
def qE(h:Y83)(he:∀whole,isTrue e X.env whole=(do let v <-whole;standAt e.pos;holding [v] (truthy v)):=by intro _;rfl):OB X e (tB te):=⟨aEx h.p he⟩
def wH(ha:OB X a tA):PWw X (YbS [a]) tA:=⟨aBe ha.p⟩
def LU(ha:OB X a tA):PWw X (YcP [a]) tA:=⟨aEu ha.p⟩
def BA(ha:OB X a tA)(hb:PWw X (YbS Y8Z) tB'):PWw X (YbS (a::Y8Z)) (aGe tA tB'):=⟨aEv ha.p hb.p⟩
def VA(ha:OB X a tA)(hb:PWw X (YcP Y8Z) tB'):PWw X (YcP (a::Y8Z)) (tOr tA tB'):=⟨aGq ha.p hb.p⟩
def IL(h:PWw X e tA):OB X e tA:=⟨h.p.pt⟩
def aC7(ha:OB X a tA):OB X (YbW .Not a) (aF7 tA):=⟨aEy ha.p⟩
def aDd{op}(h:Y7Z):Yp (Yfj op [a]) ta:=⟨aEN h.p⟩
def aDf(ha:Y7Z)(hb:Yp (YbS Y8Z) tb):Yp (YbS (a::Y8Z)) (WC ta tb):=⟨aER ha.p hb.p⟩
def aDe(ha:Y7Z):Yp (YbW .Not a) (aCD ta):=⟨aEO ha.p⟩
def nK(hc:OB X c tA)(ha:Y7Z)(hb:Yp b tb):Yp (.IfExp c a b pos) (tIf tA ta tb):=⟨XN hc.p ha.p hb.p⟩
def Se{e:Expr}{es:Y0b}{env:Env}(h:Y3q e=(false,Y1t e)::Y3f:=by first | exact pW | exact tR | exact SH | exact BS | exact MK | exact WP | exact se_Dict | exact tQ | exact ML | exact pX | exact mC | exact iO | exact se_List | exact WO | exact se_JoinedStr | exact se_GeneratorExp):Y3q e=(false,Y1t e)::Y3f:=h
def aQ:LO X [] IS:=⟨pa_nil⟩
def bA(ha:Y83)(hr:LO X es t)(hs:Y3n=(false,Y12)::Y2z:=by exact Se):LO X (e::es) (pT te t):=⟨aBx ha.p hr.p hs⟩
def dU{x1}(h:LO X es t):Yp (YhC es x1) (tTu t):=⟨by unfold tTu PM;exact aEM h.p⟩
def iJ(h:LO X es t):Yp (.List es pos) (tLs t):=⟨by unfold tLs PN;exact aEP h.p⟩
def nM:Yp (YeK [] []) VX:=⟨pe_dnewT⟩
def bQ(hr:Y6I r)(ha:Y7Z)(hb:Yp b tb)(hs:RN b:=by exact λ_ _=>rfl):Yp (Y73 a b) Y9E:=⟨aGx hr ha.p hb.p hs⟩
def rV:POw X none OX:=⟨po_none⟩
def rT(h:Y83):POw X (Y6k) (aCC te):=⟨aBk h.p⟩
def oY{lo hi:YgI}{tl th:TO}{r:V->Y0X->Y8P}(hr:SlR X r)(he:Y83)(hl:POw X lo tl)(hu:POw X hi th):Yp (Y73 e (.Slice lo hi none p2)) (tSl r te tl th):=⟨XM hr he.p hl.p hu.p⟩
def tJ(F:fG cW X.prog X.w X.K X.mg X.base k x ps sp)(hr:Y6A)(ha:LO X (e::es) t)(hg:Y2J:=by rfl)
  (hdb:Y1m ("__debug__" : Str):=by decide) (he:Y3n=(false,Y12)::Y2z:=by exact Se)
  (hpl:Yw ((backTo pos (starEach es X.env)).any (·.1)):=by repeat (first | exact qK | refine nJ Se ?_)) :
  Y8J p (e::es) [] (zH sp [] E0 t):=⟨aGy F hr ha.p hg hdb he hpl⟩
def fV{e1:Expr}{t1:TE}(F:fG cW X.prog X.w X.K X.mg X.base k x ps sp)(h1:Yp e1 t1)(s1:Y2H e1=(false,Y1a e1)::Y4V []:=by exact Se)(hr:Y6A:=by exact jB.mono ‹_› Dd)(hg:Y2J:=by rfl)(hdb:Y1m ("__debug__" : Str):=by decide)(hpl:Yw ((backTo pos (starEach [] X.env)).any (·.1)):=by repeat (first | exact qK | refine nJ Se ?_)):Y8J p [e1] [] (zH sp [] E0 (pT t1 IS)):=tJ F hr (bA h1 aQ s1) hg hdb s1 hpl
def cL{e1 e2:Expr}{t1 t2:TE}(F:fG cW X.prog X.w X.K X.mg X.base k x ps sp)(h1:Yp e1 t1)(h2:Yp e2 t2)(s1:Y5I e1 e2=(false,Y1a e1)::Y2H e2:=by exact Se)(s2:Y2H e2=(false,Y1a e2)::Y4V []:=by exact Se)(hr:Y6A:=by exact jB.mono ‹_› Dd)(hg:Y2J:=by rfl)(hdb:Y1m ("__debug__" : Str):=by decide)(hpl:Yw ((backTo pos (starEach [e2] X.env)).any (·.1)):=by repeat (first | exact qK | refine nJ Se ?_)):Y8J p [e1,e2] [] (zH sp [] E0 (pT t1 (pT t2 IS))):=tJ F hr (bA h1 (bA h2 aQ s2) s1) hg hdb s1 hpl
def lU{e1 e2 e3:Expr}{t1 t2 t3:TE}(F:fG cW X.prog X.w X.K X.mg X.base k x ps sp)(h1:Yp e1 t1)(h2:Yp e2 t2)(h3:Yp e3 t3)(s1:Y4V [e1,e2,e3]=(false,Y1a e1)::Y5I e2 e3:=by exact Se)(s2:Y5I e2 e3=(false,Y1a e2)::Y2H e3:=by exact Se)(s3:Y2H e3=(false,Y1a e3)::Y4V []:=by exact Se)(hr:Y6A:=by exact jB.mono ‹_› Dd)(hg:Y2J:=by rfl)(hdb:Y1m ("__debug__" : Str):=by decide)(hpl:Yw ((backTo pos (starEach [e2,e3] X.env)).any (·.1)):=by repeat (first | exact qK | refine nJ Se ?_)):Y8J p [e1,e2,e3] [] (zH sp [] E0 (pT t1 (pT t2 (pT t3 IS)))):=tJ F hr (bA h1 (bA h2 (bA h3 aQ s3) s2) s1) hg hdb s1 hpl
def VH{e1 e2 e3 e4:Expr}{t1 t2 t3 t4:TE}(F:fG cW X.prog X.w X.K X.mg X.base k x ps sp)(h1:Yp e1 t1)(h2:Yp e2 t2)(h3:Yp e3 t3)(h4:Yp e4 t4)(s1:Y4V [e1,e2,e3,e4]=(false,Y1a e1)::Y4V [e2,e3,e4]:=by exact Se)(s2:Y4V [e2,e3,e4]=(false,Y1a e2)::Y5I e3 e4:=by exact Se)(s3:Y5I e3 e4=(false,Y1a e3)::Y2H e4:=by exact Se)(s4:Y2H e4=(false,Y1a e4)::Y4V []:=by exact Se)(hr:Y6A:=by exact jB.mono ‹_› Dd)(hg:Y2J:=by rfl)(hdb:Y1m ("__debug__" : Str):=by decide)(hpl:Yw ((backTo pos (starEach [e2,e3,e4] X.env)).any (·.1)):=by repeat (first | exact qK | refine nJ Se ?_)):Y8J p [e1,e2,e3,e4] [] (zH sp [] E0 (pT t1 (pT t2 (pT t3 (pT t4 IS))))):=tJ F hr (bA h1 (bA h2 (bA h3 (bA h4 aQ s4) s3) s2) s1) hg hdb s1 hpl
def jK(hc:Y4i id rl)(hg:Y2J)(hm:Y5i=none)(hv:Y9Z=YhZ id)(ha:LO X (e::es) t)(hn:x ≠ "__name__" := by decide)(hdb:Y1m ("__debug__" : Str):=by decide)
  (he:Y3n=(false,Y12)::Y2z:=by exact Se) (hpl:Yw ((backTo pos (starEach es X.env)).any (·.1)):=by repeat (first | exact qK | refine nJ Se ?_)):Y8J p (e::es) [] (tCB rl t) :=
 ⟨XT hc hg hm hv ha.p hn hdb he hpl⟩
def jJ(hc:mN X (.type T) rl)(hg:Y2J)(hm:Y5i=none)(hv:Y9Z=some (.type T))(ha:LO X (e::es) t)(hn:x ≠ "__name__" := by decide)(hdb:Y1m ("__debug__" : Str):=by decide)
  (he:Y3n=(false,Y12)::Y2z:=by exact Se) (hpl:Yw ((backTo pos (starEach es X.env)).any (·.1)):=by repeat (first | exact qK | refine nJ Se ?_)):Y8J p (e::es) [] (tCB rl t) :=
 ⟨SS hc hg hm hv ha.p hn hdb he hpl⟩
def sU{name:Str}{apos cpos:Pos}{r:V->Y1i}(pa:PlainAttrs T)(slot:Slot T name id)(hty:typeOf (.builtin id)=pure (.type "method_descriptor"))(hm:MtR X id r)(ho:Yp o to)(ha:LO X (e::es) t)
  (hbase:attributeBase o name X.env (Y1a o)=Y1a o:=by rfl)
  (hfew:((backTo cpos (starEach (e::es) X.env)).all (λx=>! x.1)&&(backToKw cpos (keywordEach [] X.env)).all (λx=>x.1.isSome)
   && Y1c ((e::es).length+([]:List Keyword).length+(if([]:List Keyword).isEmpty then 0 else 1)) 30)=true:=by rfl)
  (hline:(YbG)=true:=by rfl) (hs:Y3n=(false,Y12)::Y2z:=by exact Se) (hplain:Yw ((backTo cpos (starEach es X.env)).any (·.1)):=by repeat (first | exact qK | refine nJ Se ?_)) :
  Yp (YcU name (e::es) []) (tBM X.K T r to t):=⟨aGz pa slot hty hm ho.p ha.p hbase hfew hline hs hplain⟩
def fJ:ED X [] aCE:=⟨pss_nil⟩
def aH(h1:IK X st ts)(h2:ED X sts us):ED X (st::sts) (aAN ts us):=⟨XC h1.p h2.p⟩
def aS(h1:IK X st ts):ED X [st] ts:=⟨aBh h1.p⟩
def lJ(he:Y83)(hs:swapsWith e none pos.line X.env=Y3v:=by rfl):IK X (.Expr e pos) (aCH te):=⟨aBi he.p hs⟩
def cI(he:Y83):IK X (.Return (Y6k) pos) (aF5 te):=⟨aEA he.p⟩
def iM{c:Expr}{a b:Y4w}(hc:OB X c tA)(ha:ED X a ts)(hb:ED X b us):IK X (.If c a b pos) (aF8 tA ts us):=⟨aGr hc.p ha.p hb.p⟩
def BC(h:IK X st ts):IK X st (aGc ts):=⟨aEE h.p⟩
def dE{i:Nat}{x:Str}(hN:X.N.Nodup)(hi:Y2G=Yb)(hx:Y9Y x)(hf:Y7r=true\/Y7X:=by first | exact .inl rfl | exact .inr rfl | assumption):PGw X (Y7l) (oK i):=⟨aBn hN hi hx hf⟩
def lK:aCw X [] aFl:=⟨pgs_nil⟩
def eE{t:TG}{u:TGs}(h1:PGw X e t)(h2:aCw X es u)
  (hs:(assignEach (e::es) X.env).map (·.2)=YbQ e::(assignEach es X.env).map (·.2):=by rfl):aCw X (e::es) (YU t u):=⟨XL h1.p h2.p hs⟩
def oB{k:Nat}{t:TGs}{n:Nat}(hc:Y1d)(h:aCw X es t)
  (hn:(assignEach es X.env).length=n:=by rfl) (hst:(assignEach es X.env).findIdx? (·.1)=none:=by rfl):PGw X (YhC es k) (aFk X.K n t):=⟨aEJ hc h.p hn hst⟩
def LV{i:Expr}{ti:TE}{t:aCt}(ho:Yp o to)(hi:Yp i ti)(hs:aFJ X t)
  (ha:∀v,assign (.Subscript o i pos) X.env v=(do
   let ov <-holding [v] (eval o X.env)
   let iv <-holding [v,ov] (eval i X.env)
   standAt pos
   holding [v,ov,iv] (setItem ov iv v)
   release [v,ov,iv] []):=by intro _;rfl):PGw X (Y73 o i) (aGK to ti t):=⟨aEK ho.p hi.p hs ha⟩
def GA{g:TG}(he:Y83)(hg:PGw X tg g)(hs:YfJ [tg] e X.env=Y3v:=by rfl)(hw:YfQ [tg] e=pure none:=by rfl)(h1:(assignEach [tg] X.env).map (·.2)=[YbQ tg]:=by rfl):IK X (Ydx [tg] e) (DV te g):=⟨aEF he.p hg.p hs hw h1⟩
def kY{i:Nat}{pos':Pos}(hN:X.N.Nodup)(hi:Y2G=Yb)(hx:Y9Y x)(he:Y83)(hs:swapsWith e (some Ycs) pos.line X.env=Y3v:=by rfl)(hf:Y7r=true\/Y7X:=by first | exact .inl rfl | exact .inr rfl | assumption) :
  IK X (Ydx [Ycs] e) (DV te (oK i)):=⟨aEz hN hi hx he.p hs hf⟩
def cP{i:Nat}{pos':Pos}(hN:X.N.Nodup)(he:Y83)(hi:Y2G=Yb:=by rfl)(hx:Y9Y x:=by exact Or.inl rfl)(hs:swapsWith e (some Ycs) pos.line X.env=Y3v:=by rfl)(hf:Y7r=true\/Y7X:=by first | exact .inl rfl | exact .inr rfl | assumption) :
  IK X (Ydx [Ycs] e) (DV te (oK i)):=kY hN hi hx he hs hf
def aC8{i j:Nat}{x y:Str}{ta:TA}{px py pt:Pos}{kt k2 pt2}(hc:Y1d)(hN:X.N.Nodup)(hi:Y2G=Yb)(hj:X.N[j]?=Y03)(hij:i≠j)
  (hx:Y7X) (hy:YhX y Y35) (ha:LO X [a,b] ta)
  (hw:YfQ [Y9V [Y3z,Y3G] kt] (Yca [a,b] k2)=pure (some [x,y]))
  (hs:YfJ [Y9V [Y3z,Y3G] kt] (Yca [a,b] k2) X.env=Y3v:=by rfl) :
  IK X (Ydx [Y9V [Y3z,Y3G] kt] (Yca [a,b] k2)) (aF6 i j ta):=⟨aEB hc hN hi hj hij hx hy ha.p hw hs⟩
def wI{c:Expr}{tc:TT}{tb:TS}(hp:Yf7)(hc:OB X c tc)(hb:ED X body tb):IK X (.While c body [] pos) (GH (vJ tc) tb):=⟨SN hp hc.p hb.p⟩
def eJ{l:Expr}{tl:TE}(hl:Yp l tl):OD X tg l (YM X.K tl):=⟨aBm hl.p⟩
def xW{l:Expr}{tl:TE}(hl:Yp l tl):OD X tg l (aGI X.K tl):=⟨aEI hl.p⟩
def fR{a:Expr}{ta:TA}{p pos:Pos}(hg:Gl X "range")(hm:X.mg "range" = none)(ha:LO X [a] ta)(hs:Y2H a=[(false,Y7P)]:=by exact Se):OD X tg (Y8z "range" p [a] []) (aCR ta):=⟨SR hg hm ha.p hs⟩
def RZ{a b:Expr}{ta:TA}{p pos:Pos}(hg:Gl X "range")(hm:X.mg "range" = none)(ha:LO X [a,b] ta)(hs:Y5I a b=[(false,Y7P),(false,Y7O)]:=by rfl)(hs2:Y2H b=[(false,Y7O)]:=by exact Se) :
  OD X tg (Y8z "range" p [a,b] []) (aCQ ta):=⟨SQ hg hm ha.p hs hs2⟩
def gM{iter:Expr}{wi:TI}{g:TG}{tb:TS}{pos:Pos}(hp:Yf7)(hc:Y1d)(hi:Yb1 X tg wi)(hg:PGw X tg g)(hb:ED X body tb)
  (hs:∀x,Y4a=Y41:=by intro _;rfl):IK X (.For tg iter body [] pos) (aF9 wi g tb):=⟨aEC hp hc hi.p hg.p hb.p hs⟩
end
def iU.okw{P:Program}{w:World}{K:Aa}{mg:Y0y}{base:Heap}{x qual:Str}{st:Stmt}{f:Addr}{fd:FuncData}{N ps:Ah}{k:Nat}{sp:Sp}(F:Ya x qual st)(S:Yg N ps st)(len:∀vs H Q E,sp vs H Q E->YbF)
  (hbody:∀(cdv:Value) (A:Around) (outer:Y2P) (s:Shared) (H:Hp) (vs:Al) (Q:VK) (E:XK),jB k (YcT Y4M f cdv)->sp vs H Q E ->
   ∃t,ED (KN cW P w K mg base N qual (Y4M) f cdv A outer s H E).nox (Y7K) t/\t { nx:=λ_ H'=>Q .non H',rt:=Q } (Yav N) H):dO P w K mg base cW (k+1) f fd ps sp :=
 F.ok S len λcdv A outer s H vs Q E a h=>by
  obtain⟨t,c,d⟩:=hbody cdv A outer s H vs Q E a h;exact⟨t,c.p,d⟩
def iU.oky{P:Program}{w:World}{K:Aa}{mg:Y0y}{base:Heap}{x qual:Str}{st:Stmt}{f:Addr}{fd:FuncData}{N ps:Ah}{k:Nat}{sp:Sp}(F:Ya x qual st)(S:Yg N ps st)
  (h:∀(vs:Al) (H:Hp) (Q:VK) (E:XK),sp vs H Q E->YbF/\∀(cdv:Value) (A:Around) (outer:Y2P) (s:Shared),jB k (YcT Y4M f cdv) ->
   let X:=(KN cW P w K mg base N qual (Y4M) f cdv A outer s H E).nox;∃t,ED X (Y7K) t/\t { nx:=λ_ H'=>Q .non H',rt:=Q } (Yav N) H):dO P w K mg base cW (k+1) f fd ps sp :=
 F.okw S (λvs H Q E q=>(h vs H Q E q).1) λcdv A outer s H vs Q E a q=>(h vs H Q E q).2 cdv A outer s a
def KA(a b:Int):(Int.gcd b (a % b))=(Int.gcd a b):=by
 have h:=Int.gcd_add_mul_right_right b (a % b) (a/b);rw[show a % b+a/b*b=a from by have:=Int.emod_add_mul_ediv a b;rw[Int.mul_comm];exact this]at h;rw[<-h,Int.gcd_comm]
def QM{a:Int}(h:0<a):(Int.gcd a 0:Int)=a:=by rw[Int.gcd_zero_right];exact Oo
section
variable{H:Hp}{x:V}{d:PyData}{Q:VK}
end
theorem bJ.len{H:Hp}:∀{ds:Y0Y}{vs:Al},Y6n->Y5V ds.length
 | [],_,h=>by cases(show _=[]from h);rfl
 | d::ds,_,h=>by
  unfold bJ at h;obtain⟨x,xs,rfl,_,h2⟩:=h;simp[bJ.len h2]
section
variable{p:Addr}{σ:St}{t:TE}{ta:TA}{d:PyData}{ds:Y0Y}
end
def aCs{α:Type}{xs:Yt}{x:Int}(h0:0<=x)(h1:Y8h x):∃v,EA xs x=Yn/\v∈xs/\Y1Q x.toNat=Yn:=by
 have h:Y8h x.toNat:=Oo;have e:=aC h;have:=eB e;rw[Int.toNat_of_nonneg h0]at this;exact⟨_,this,List.getElem_mem h,e⟩
theorem bJ.append{H:Hp}{es:Y0Y}{ws:Al}(h':Y1g es ws):∀{ds:Y0Y}{vs:Al},Y6n->Y1g (ds++es) (vs++ws)
 | [],_,h=>by cases(show _=[]from h);exact h'
 | d::ds,_,h=>by
  unfold bJ at h;obtain⟨x,xs,rfl,h1,h2⟩:=h;exact bJ.cons h1 (bJ.append h' h2)
end L2
namespace L2
end L2
namespace L2
open PySem PySem.Spec PyProof.Rows
def aT.thru{l:Addr}{H0 H1 H2:Hp}(hl:H0 l=none)(s:aT H0 H1)(b:aU l H1 H2):aT H0 H2:=λc o e=>by
 have n:c≠l:=dR e hl;exact b.at n (s _ _ e)
def NU{H:Hp}{l b:Addr}{xs zs:Al}{Q:VK}(h1:H l=Y0A)(h2:H b=YaR)(hz:Ygn<=1000)(k:∀q H',H q=none->H' q=Yq (Y5L zs)->Y1->Y7S):aGp (Y0G) (Y0e) H Q :=
 ⟨l,b,xs,zs,rfl,rfl,h1,h2,Nat.le_of_lt (yD hz),λq a=>k q _ a bK (aT.upd a)⟩
@[irreducible] def aBb:V->Y1i:=PY
def tV{X:Cx}:MtR X "list.append" aBb:=by unfold aBb;exact uW
def LJ{H:Hp}{l:Addr}{xs:Al}{y:V}{Q:VK}(h:H l=Y0A)(hz:Y5T 1000)(k:∀H',H' l=Yq (Y5L [y])->Y56 l->Ycu):aBb (Y0G) [y] H Q:=by
 unfold aBb;exact Y1e l xs y rfl h (yD hz) (k _ bK aU.self)
def UR{K:Aa}{H:Hp}{l:Addr}{xs:Al}(h:H l=Y0A):tyV K "list" (Y0G) H:=Yf9 rfl xs YaA
inductive Ex1 {A0:Sort _} (p:Y2d A0):Prop | mk (a0:A0) (h:p a0)
inductive Ex2 {A0 A1:Sort _} (p:Y13 A0 A1):Prop | mk (a0:A0) (a1:A1) (h:p a0 a1)
inductive Ex3 {A0 A1 A2:Sort _} (p:A0->Y13 A1 A2):Prop | mk (a0:A0) (a1:A1) (a2:A2) (h:p a0 a1 a2)
inductive Ex4 {A0 A1 A2 A3:Sort _} (p:A0->A1->Y13 A2 A3):Prop | mk (a0:A0) (a1:A1) (a2:A2) (a3:A3) (h:p a0 a1 a2 a3)
inductive Ex5 {A0 A1 A2 A3 A4:Sort _} (p:A0->A1->A2->Y13 A3 A4):Prop | mk (a0:A0) (a1:A1) (a2:A2) (a3:A3) (a4:A4) (h:p a0 a1 a2 a3 a4)
inductive Ex6 {A0 A1 A2 A3 A4 A5:Sort _} (p:A0->A1->A2->A3->Y13 A4 A5):Prop | mk (a0:A0) (a1:A1) (a2:A2) (a3:A3) (a4:A4) (a5:A5) (h:p a0 a1 a2 a3 a4 a5)
inductive Ex7 {A0 A1 A2 A3 A4 A5 A6:Sort _} (p:A0->A1->A2->A3->A4->Y13 A5 A6):Prop | mk (a0:A0) (a1:A1) (a2:A2) (a3:A3) (a4:A4) (a5:A5) (a6:A6) (h:p a0 a1 a2 a3 a4 a5 a6)
inductive An2 (A0 A1:Prop):Prop | mk (h0:A0) (h1:A1)
inductive An3 (A0 A1 A2:Prop):Prop | mk (h0:A0) (h1:A1) (h2:A2)
inductive An4 (A0 A1 A2 A3:Prop):Prop | mk (h0:A0) (h1:A1) (h2:A2) (h3:A3)
inductive An5 (A0 A1 A2 A3 A4:Prop):Prop | mk (h0:A0) (h1:A1) (h2:A2) (h3:A3) (h4:A4)
inductive An6 (A0 A1 A2 A3 A4 A5:Prop):Prop | mk (h0:A0) (h1:A1) (h2:A2) (h3:A3) (h4:A4) (h5:A5)
inductive An7 (A0 A1 A2 A3 A4 A5 A6:Prop):Prop | mk (h0:A0) (h1:A1) (h2:A2) (h3:A3) (h4:A4) (h5:A5) (h6:A6)
inductive An8 (A0 A1 A2 A3 A4 A5 A6 A7:Prop):Prop | mk (h0:A0) (h1:A1) (h2:A2) (h3:A3) (h4:A4) (h5:A5) (h6:A6) (h7:A7)
inductive An9 (A0 A1 A2 A3 A4 A5 A6 A7 A8:Prop):Prop | mk (h0:A0) (h1:A1) (h2:A2) (h3:A3) (h4:A4) (h5:A5) (h6:A6) (h7:A7) (h8:A8)
inductive aJJ (A0 A1 A2 A3 A4 A5 A6 A7 A8 A9:Prop):Prop | mk (h0:A0) (h1:A1) (h2:A2) (h3:A3) (h4:A4) (h5:A5) (h6:A6) (h7:A7) (h8:A8) (h9:A9)
def fE{t u:TS}{D:qL}{σ:St}{H:Hp}(h:let D':=D;let N:=u D';t { D' with nx:=N } σ H):aAN t u D σ H:=h
def lM{N b c:Y1I}{r:VK}{σ:St}{H:Hp}{i:Nat}{v:V}(h:N (YdU i) H):oK i v σ H (qL.mk N r b c).nx:=h
def IJ{N:Y1I}{σ:St}{H:Hp}{i:Nat}{v:V}(h:N (YdU i) H):oK i v σ H N:=h
def MH{N b c:Y1I}{r:VK}{σ:St}{H:Hp}(h:N σ H):(qL.mk N r b c).nx σ H:=h
def xS{t:TS}{D:qL}{σ:St}{H:Hp}(h:let D':=D;t D' σ H):t D σ H:=h
def rH(env:Env):Y5U->Y4B->Y4B
 | [],cs=>cs
 | (n,k)::r,cs=>if k == .free then rH env r ((n,(env.cells.lookup n).getD 0)::cs) else rH env r cs
theorem RE(env:Env):∀(l:Y5U) (cs:Y4B),(∀y∈l,Y4d y.2->∃c,YdT y.1 Y1b) ->
  (forIn l cs λ(x:Str × NameKind) r=>if Yas x.2 then(do let c <-cellOf env x.1;pure (ForInStep.yield ((x.1,c)::r)):Sem _) else pure (ForInStep.yield r))=pure (rH env l cs)
 | [],cs,_=>rfl
 | (n,k)::r,cs,h=>by
  rw[List.forIn_cons];have ih:=λcs=>RE env r cs λy d=>h y (bD _ d);by_cases hk:(k == NameKind.free)=true
  ·obtain⟨c,a⟩:=h (n,k) aY (by simpa using hk);dsimp only at a;simp only[hk,if_true,rH,a,Option.getD_some,cellOf,pure_bind];exact ih _
  ·simp only[hk,rH,pure_bind];exact ih _
def lG{env:Env}{scope:Scope}(h:∀y∈scope.names,Y4d y.2->∃c,YdT y.1 Y1b):closureFor scope env=pure (rH env scope.names []):=by
 have e:=RE env scope.names [] h;unfold closureFor;simp only[bind_pure];exact e
theorem yT{env:Env}:∀(l:Y5U) (cs:Y4B),(∀y∈l,Y4d y.2->∃c,YdT y.1 Y1b)->∀p∈rH env l cs,p∈cs\/YdT p.1 (some p.2)
 | [],cs,_,p,hp=>.inl hp
 | (n,k)::r,cs,h,p,hp=>by
  have h':∀y∈r,y.2=.free->∃c,env.cells.lookup y.1=some c:=λy e=>h y (bD _ e);unfold rH at hp;by_cases hk:(k == NameKind.free)=true
  ·rw[if_pos hk]at hp;obtain⟨c,d⟩:=h (n,k) aY (by simpa using hk);rcases yT r _ h' p hp with a | a
   ·rcases bN.mp a with rfl | a
    ·exact .inr (by dsimp only at d ⊢;rw[d];rfl)
    ·exact .inl a
   ·exact .inr a
  ·rw[if_neg hk]at hp;exact yT r cs h' p hp
theorem yV{env:Env}:∀(l:Y5U) (cs:Y4B),∀p∈cs,p∈rH env l cs
 | [],_,_,hp=>hp
 | (n,k)::r,cs,p,hp=>by
  unfold rH;by_cases hk:(k == NameKind.free)=true
  ·rw[if_pos hk];exact yV r _ p (bD _ hp)
  ·rw[if_neg hk];exact yV r _ p hp
theorem yU{env:Env}:∀(l:Y5U) (cs:Y4B) (y:Str),(y,NameKind.free)∈l->∃a,(y,a)∈rH env l cs
 | (n,k)::r,cs,y,hy=>by
  unfold rH;rcases bN.mp hy with e | hm
  ·cases e;rw[if_pos (by rfl)];exact⟨_,yV r _ _ aY⟩
  ·by_cases hk:(k == NameKind.free)=true
   ·rw[if_pos hk];exact yU r _ y hm
   ·rw[if_neg hk];exact yU r _ y hm
theorem pM{α β:Type}[BEq α][LawfulBEq α]{x:α}{c:β}:∀{l:Y88 α β},l.lookup x=Y1b->(x,c)∈l
 | [],h=>by cases h
 | (a,b)::r,h=>by
  rw[List.lookup_cons]at h;by_cases e:(x == a)=true
  ·rw[e]at h;have:x=a:=by simpa using e
   subst this;cases h;exact aY
  ·have d:(x == a)=false:=by simpa using e
   rw[d]at h;exact bD _ (pM h)
theorem pL{α β:Type}[BEq α][LawfulBEq α]{x:α}{c:β}:∀{l:Y88 α β},(x,c)∈l->∃c',l.lookup x=some c'
 | (a,b)::r,h=>by
  rw[List.lookup_cons];by_cases e:(x == a)=true
  ·rw[e];exact⟨_,rfl⟩
  ·have e':(x == a)=false:=by simpa using e
   rw[e'];rcases bN.mp h with q | q
   ·cases q;simp at e
   ·exact pL q
def zV(X:Cx)(scope:Scope):Y4B:=rH X.env scope.names []
def gW{X:Cx}{scope:Scope}(h:∀y∈scope.names,Y4d y.2->Yey y.1){x:Str}{c:Addr}(e:(zV X scope).lookup x=Y1b):Y3m:=by
 rcases yT scope.names [] h _ (pM e)with a | a
 ·cases a
 ·exact a
def mJ{X:Cx}{scope:Scope}(h:∀y∈scope.names,Y4d y.2->Yey y.1){x:Str}(hx:Y5S (x,NameKind.free)){c:Addr}(e:Y3m):(zV X scope).lookup x=Y1b:=by
 obtain⟨a,g⟩:=yU (env:=X.env) scope.names [] x hx;obtain⟨i,d⟩:=pL g;have:=gW h d;rw[e]at this;cases this;exact d
def oF(X:Cx)(scope:Scope)(C:Addr)(fp:Y0m)(s₀:Shared)(H₀:Hp)(N':Ah):Cx where
 prog:=X.prog
 w:=X.w
 K:=X.K
 mg:=X.mg
 base:=X.base
 A:=X.A
 N:=N'
 s₀:=s₀
 H₀:=H₀
 env:=YeM Y9y C
 outer:=X.stack
 stack:=X.stack
 ex:=fp
 fn:=λ_=>false
 calm:=true
 pn:=[]
 xe:=YdQ
def slots(σ:St)(js:Ae):St:=js.map λj=>(σ[j]?).getD none
def RQ(X:Cx)(ifs:Y0b)(t:TT):Prop :=
 ∀(pins:Ad) (s:Shared) (σ:St) (H:Hp) (Q:Yct),Y4->t σ H Q ->
  Y3Z (forIn ifs true λc r=>if r=true then do let ok <-isTrue c X.env (eval c X.env);pure (ForInStep.yield ok) else pure (ForInStep.yield r)) (TP X pins σ Q)
def BJ:TT:=Yhf true H
def pts_nil{X:Cx}:RQ X [] BJ:=λa s σ H Q I h=>wpAny_tests_nil ⟨H,I,h⟩
def aBf{X:Cx}{c:Expr}{t:TT}(h:PT X c t):RQ X [c] t:=λa s σ H Q I q=>wpAny_tests_one (h a s σ H Q I q)
def WA(wi:TI)(js:Ae)(tc:TT)(te:TE):TE:=λσ H Q=>wi σ H λJ H1=>∀D,H1 D=none->∃W:Nat->Nat->Al->Hp->Prop,(∃m,W 0 m [] (Ybh H1 D [])) /\
 ∀i m ys H2,W i m ys H2->H2 D=Y05/\((Yd7/\Y99 D)\/(Yd8/\YbH/\∀x H3,Y6c i H2 x ->
  tc (YaX) H3 λb H4=>if b=true then YhV H4 (H5 D=Y05/\∃m',m' < m/\W (i+1) m' (ys++[y]) (Ybf [y]))
   else H4 D=Y05/\∃m',m' < m/\W (i+1) m' ys H4))
structure dD(X:Cx)(scope:Scope)(x:Str)(N':Ah)(js:Ae):Prop where
 calm:Y1d
 free:∀y∈scope.names,Y4d y.2->YaE y.1
 cell:∀y∈scope.names,y.2 ≠ .cell
 kind:Yjn
 names:∀y∈scope.names,y.2=.local->Y4E y.1
 own:Y4E x
 nofl:∀y,Y5S (y,NameKind.free)->Y4E y->False
 len:N'.length=YhD 1
 zero:N'[0]?=Yb
 nd:N'.Nodup
 slot:∀(i:Nat) (j:Nat),js[i]?=Y5g->∃y,N'[i+1]?=Y03/\X.N[j]?=Y03/\Y5S (y,NameKind.free)
section
variable{X:Cx}{pins:Ad}{σ:St}{H:Hp}{s:Shared}{scope:Scope}{x:Str}{N':Ah}{js:Ae}{fp:Y0m}
theorem dD.cells(S:Y5E)(ok:X.Ok):∀y∈scope.names,Y4d y.2->Yey y.1:=Yjz _ (.inl (S.free y a d))
theorem lC{env:Env}:∀{names:Y5U}{y:Str}{k:NameKind},(names.map λ(n,k)=>if(k == NameKind.free&&env.scope.kind == .function&&env.kindOf n == some .cell) then(n,NameKind.cell) else(n,k)).lookup y=YaL ->
  (k=.cell\/Y4d k)->(∀z∈names,z.2 ≠ .cell)->(y,NameKind.free)∈names
 | [],_,_,h,_,_=>by cases h
 | (n,q)::r,y,k,h,hk,hc=>by
  rw[bH,List.lookup_cons]at h;have ih:=λh=>@lC env r y k h hk λz d=>hc z (bD _ d);by_cases hq:(q == NameKind.free&&env.scope.kind == .function&&env.kindOf n == some .cell)=true
  ·dsimp only at h;rw[if_pos hq]at h;have g:q=.free:=by
    rw[dG,dG]at hq;simpa using hq.1.1
   subst g;by_cases e:(y == n)=true
   ·have:y=n:=by simpa using e
    subst this;exact aY
   ·have c:(y == n)=false:=by simpa using e
    dsimp only at h;rw[c]at h;exact bD _ (ih h)
  ·dsimp only at h;rw[if_neg hq]at h;by_cases e:(y == n)=true
   ·have:y=n:=by simpa using e
    subst this;dsimp only at h;rw[e]at h;have a:k=q:=by injection h with h;exact h.symm
    subst a;rcases hk with rfl | rfl
    ·exact absurd rfl (hc _ aY)
    ·exact aY
   ·have c:(y == n)=false:=by simpa using e
    dsimp only at h;rw[c]at h;exact bD _ (ih h)
def aFv(S:Y5E)(I:Y4)(hf:∀b∈fp,Y2V)(hb:∀b∈fp,Y7Q):(Ybt X s H).Ok where
 mod:=I.ok.mod
 kind:=S.kind
 glob:=I.ok.glob
 blt:=I.ok.blt
 above:=Yy
 inj:=λy z c m d=>I.ok.inj y z c (Y4u m) (Y4u d)
 has:=λy g=>by
  have i:Y5S (y,NameKind.free):=by
   rcases g with g | g
   ·exact Yga X.env g Y36
   ·exact Yga X.env g Y7e
  obtain⟨c,l⟩:=S.cells I.ok _ i rfl;exact⟨c,Y7g i l⟩
 cab:=λ_ _ h=>by cases h
 hd:=λ_=>I.ok.hd S.calm
 frames:=I.ok.frames
 stk:=Y36
 exf:=λb a=>⟨λe=>by have:=hb b a;rw[e]at this;exact Y1y,λy c h=>(hf b a).2.2.2.2.1 y c (Y4u h)⟩
 bs:=I.bs
 bsz:=Ya9 I.sz
 noex:=λb o e a=>by
  rcases(hf b a).2.2.2.1 with h | h
  ·exact I.ok.noex b o e h
  ·exact absurd (aO Y18 (Ya9 h)) (bS _)
 exfs:=λb a j=>by
  have d:=Yhe j;rcases bN.mp d with d | d
  ·exact(hf b a).2.1 d
  ·exact(hf b a).2.2.1 d
 funs:=I.stack
 frf:=I.stkFree
def yE{i j:Nat}(h:js[i]?=Y5g):(Y51)[i]?=some ((σ[j]?).getD none):=by
 unfold slots;rw[aG,h];rfl
def aB2{h':Heap}{tk:Nat}(S:Y5E)(I:Y4)(hf:∀b∈fp,Y2V)(hb:∀b∈fp,Y7Q)
  (hn:h'.Ns s.heap.objs.size YdG) (hk:YaI (Y0T=Y9)):cU (Ybt X s H) [] (none :: Y51) H { s with heap:=h',toks:=tk } where
 ok:=aFv S I hf hb
 os:=rfl
 bare:=I.bare
 base:=Ykz
 loc:=by
  refine Y0C hn (λi y v Y N a=>?_);cases i with
  | zero=>cases N
  | succ i =>
   have d:(Y51)[i]?=Y8v:=N;have M:Ycd i:=by
    have:=(Yay).1;unfold slots at this
    rwa [aA]at this
   have P:js[i]?=some js[i]:=aC M;obtain⟨z,R,α,j⟩:=S.slot i _ P;have G:z=y:=by
    have:N'[i+1]?=Y03:=Y;rw[R]at this;cases this;rfl
   subst G;rw[yE P]at d;have β:σ[js[i]]?=Y8v:=by
    cases q:σ[js[i]]? with
    | none=>rw[q]at d;cases d
    | some o=>rw[q]at d;cases d;rfl
   have A:YaE z:=S.free _ j rfl;obtain⟨m,δ,Z⟩:=I.loc;obtain⟨u,ru,U⟩:=Z _ z v α β (Ya8 A);rcases U with⟨D,_⟩ | ⟨_,c,O,g⟩
   ·rw[A]at D;cases D
   ·refine YeQ u ru (Y1R ?_ c (Y7g j O))
    ·rcases a with a | a | a
     ·exfalso;have γ:=Y7g j O;have B:=pM (l:=(YjZ X.env).names) a;unfold relabel at B;obtain⟨⟨n,k⟩,w,C⟩:=aN.mp B;dsimp only at C;by_cases hq:(Yja k&&YjH&&Yjg == Y2e)=true
      ·rw[if_pos hq]at C;cases C
      ·rw[if_neg hq]at C;cases C;have:=S.names _ w rfl;have L:=pL j;obtain⟨ε,L⟩:=L;dsimp only at this;rw[this]at L;have W:(relabel scope X.env).names.lookup z=Y35:=Yid;have J:Y4E z:=this;exact S.nofl z j J
     ·exact YaK
     ·exact .inr a
    ·obtain⟨o,e,r⟩:=g;exact Y3c (hk _ _ e) r
 cell:=λy c h=>by
  obtain⟨v,o,e,r⟩:=YbV y (Y4u h);exact⟨v,o,hk _ _ e,r⟩
 free:=Y2D
 freeC:=λy c h=>Y8E y (Y4u h)
 pin:=λp T=>by cases T
 hok:=Yjv
 len:=by
  show(Y51).length+1=N'.length;unfold slots;rw[aA,S.len]
def tF.but{P:Program}{w:World}{H:Hp}{h h':Heap}{C:Addr}(x:Y3r)(hC:H C=none)(k:∀b u,b≠C->Y1F=Yl->Y0T=Yl):tF P w H h':=λa o e =>
 (x a o e).stay (λb u c q=>k b u (by
  rcases c with rfl | c
  ·exact dR e hC
  ·exact dR c hC) q) (Yeo) Ya4
def KO{H2:Hp}{σ':St}{s2:Shared}{h'':Heap}(S:Y5E)(I:Y4)(hf:∀b∈fp,Y2V)
  (J:Y4Q (Ybt X s H) [] H2 s2) (hs:Heap.SameBut s.heap.objs.size s2.heap h''):Y4m H2 ({ s2 with heap:=h'' }):=by
 have h:Yiz=none:=J.free;have ne:∀{b:Addr} {o:Obj},Y3g->Ybv b:=λe q=>by
  have:=Y18;rw[q]at this;exact Y1y
 refine Yii ({ s2 with heap:=h'' }) fp (by rw[show({ s2 with heap:=h'' }:Shared).os=s2.os from rfl];exact J.os) ?_ h (Ykq u a q) J.bare (λb a=>⟨(hf b a).2.2.2.1,(hf b a).2.1,(hf b a).2.2.2.2.1,(hf b a).2.2.2.2.2⟩);have U:=J.base;exact {
  keep:=λb o e n d c=>hs.extBut b o (ne e) (U.keep b o e n d c)
  slot:=λb o e n d c=>by
   obtain⟨sl,q⟩:=U.slot b o e n d c;exact⟨sl,hs.extBut b _ (ne e) q⟩
  free:=U.free
  there:=λb o e c=>by
   obtain⟨g,q⟩:=U.there b o e c;exact⟨g,hs.extBut b _ (ne e) q⟩
  tups:=U.tups
  frzs:=U.frzs
  tbls:=U.tbls }
end
abbrev UW:Yc:=YdQ
def sQ{prog:Program}{w:World}{A:Around}{R:Ycx}{s:Shared}{elt target iter:Expr}{ifs:Y0b}{scope:Scope}{pos:Pos}{it acc:Value}{env:Env}(I:Nat->(Y2d Shared))
  (turn:∀n s,I n s->wpAny (model prog w) A (pyNext it) (λr s₁=>match r with
   | none=>R (.ok .next) s₁
   | some v=>wpAny (model prog w) A (letOwnedTupleGo target it v) (λ_ s₁'=>wpAny (model prog w) A (assign target env v) (λ_ s₂ =>
     wpAny (model prog w) A (forIn ifs true λc r=>if r=true then do let ok <-isTrue c env (eval c env);pure (ForInStep.yield ok) else pure (ForInStep.yield r)) (λok s₃ =>
      if ok=true then wpAny (model prog w) A (eval elt env) (λx s₄=>wpAny (model prog w) A (call (.builtin "list.append") [acc,x]) (λ_ s₅=>∃m,m<n/\I m s₅) UW s₄) UW s₃
      else ∃m,m<n/\I m s₃) UW s₂) UW s₁') UW s₁) UW s)
  (n:Nat) (h:I n s):YbO prog w A (YgQ [Y6N target] 0 it acc env) R s:=by
 refine codeAny_loop rfl I (λn s p=>?_) n h;show wpAny _ A ((compTurn (.ListComp elt [⟨target,iter,ifs,0⟩] scope pos) 0 it acc env).onRaise (λx=>do noteFrame x env;theTreesLotGoes x)) _ _ s;refine wpAny_noted ?_;rw[compTurn_list];refine Yds (Yev (turn n s p) (λr s₁ g=>?_));cases r with
 | none=>exact wpAny_pure g
 | some v =>
  refine Yev g (λ_ s₁' d=>?_);refine Yev d (λ_ s₂ j=>Yev j (λok s₃ e=>?_));cases ok with
  | false=>exact wpAny_pure (Y3 e)
  | true =>
   exact Ydn (wpAny_mono e (λx s₄ i=>Yev i (λ_ s₅ l=>Yfz (Y3 l))) (λ_ _ a=>a.elim))
section
variable{X:Cx}{pins:Ad}{σ:St}{H:Hp}{s:Shared}{scope:Scope}{x:Str}{N':Ah}{js:Ae}{fp:Y0m}{elt iter:Expr}{px pos:Pos}{ifs:Y0b}{tc:TT}{te:TE}
def DJ{J:It}{it:Addr}{tn:Nat->Y3W}{RR:Y8j (Addr->Ycx)}{E:Yc}{Q:VK}
  (S:Y5E) (I:Y4) (T:EB X.prog X.w X.K (Y3z) J fp it tn) (h0:Yce 0) (hf:∀b∈fp,Y2V)
  (ht:Ydc) (he:Ydb)
  (R:∀D,H D=none->∃W:Nat->Nat->Al->Hp->Prop,(∃m,W 0 m [] (Y47 D [])) /\
   ∀i m ys H2,W i m ys H2->H2 D=Y05/\((Yd7/\Y99 D)\/(Yd8/\YbH/\∀x H3,Y6c i H2 x ->
    tc (YaX) H3 λb H4=>if b=true then YhV H4 (H5 D=Y05/\∃m',m' < m/\W (i+1) m' (ys++[y]) (Ybf [y]))
     else H4 D=Y05/\∃m',m' < m/\W (i+1) m' ys H4)))
  (hRR:∀(D:Addr) (H3:Hp) (s3:Shared) (σ':St) (H':Hp) (s':Shared),Y4m H3 s3->(∀b∈fp,kW X pins H3 b)->Y4Q (oF X scope s3.heap.objs.size fp s3 H3 N') [] H' s'->Y0Q->Yj0 Y4F (.ok .next) s') :
  wpAny (Y3U) X.A (newList []) (λacc s₃=>wpAny (Y3U) X.A (Ygd scope X.env.globals Y9y [] X.env.qual none .none X.env) (λcenv s₄ =>
   codeAny (Y3U) X.A (Ygr Y8W 0 acc ({ cenv with scope:=relabel scope X.env })) (YjK acc) s₄) E s₃) E s:=by
 have O:∀b∈fp,Y7Q:=λb O=>by
  obtain⟨o,e,_⟩:=T.obj 0 _ h0 b O;exact Y18
 refine wpAny_newObj_type (wpAny_newFunctionEnv S.cell (by intro y δ;simp at δ) (λN M G=>?_) S.kind);have Y:YfM=none:=Y2D;obtain⟨W,⟨ψ,Z⟩,ω⟩:=R _ Y;have I3:Y4m (YhW H (.lst [])) ({ s with heap:=s.heap.push { cls:=.type "list",dict:=none,data:=.seq ([]:Ag).toArray } }):=Yi9 [] [] .nil Y0l;have h:∀b∈fp,kW X pins (YhW H (.lst [])) b:=λb a =>
  ⟨by rw[eP (λe=>by have:=O b a;rw[e]at this;exact Y1y)];exact(hf b a).1,(hf b a).2⟩
 have η:∀b∈fp,b<(s.heap.push { cls:=.type "list",dict:=none,data:=.seq ([]:Ag).toArray }).objs.size:=λb a=>by
  rw[fW];exact Nat.lt_succ_of_lt (O b a)
 have c:Y0W ((s.heap.push { cls:=.type "list",dict:=none,data:=.seq ([]:Ag).toArray }).get? b=Y9) (N.get? b=Y9):=λb o e =>
  G.extBut b o (λq=>by have:=Y18;rw[q]at this;exact Y1y) (Y2n)
 have J4:=aB2 (h':=N) (tk:=s.toks+([]:List (Str × Value)).length) S I3 h η M c;have ο:tn 0 N:=YaQ 0 _ h0 (λb a o e=>c b o (Y2n));have g:codeAny (Y3U) X.A (YgQ [⟨Y3z,iter,ifs,0⟩] 0 Y5a Y1r (YeM Y9y ((s.heap.push { cls:=.type "list",dict:=none,data:=.seq ([]:Ag).toArray }).objs.size)))
   (RR (Y1r) (s.heap.push { cls:=.type "list",dict:=none,data:=.seq ([]:Ag).toArray }).objs.size) { s with heap:=N,toks:=s.toks+([]:List (Str × Value)).length }:=by
  refine sQ (λn s'=>∃(i:Nat) (ys:Al) (H2:Hp) (o:Am),cU (oF X scope _ fp _ _ N') [] (o :: Y51) H2 s'/\tn i s'.heap/\(∀b∈fp,H2 b=none)/\W i n ys H2) ?_ ψ ⟨0,[],_,none,J4,ο,λb a=>(h b a).1,Z⟩;rintro n s' ⟨i,ys,H2,o,J2,ν,υ,w2⟩;obtain⟨hD,B⟩:=ω i n ys H2 w2;have ξ:∀b∈fp,kW (oF X scope ((s.heap.push { cls:=.type "list",dict:=none,data:=.seq ([]:Ag).toArray }).objs.size) fp ({ s with heap:=s.heap.push { cls:=.type "list",dict:=none,data:=.seq ([]:Ag).toArray } }) (YhW H (.lst [])) N') [] H2 b:=λb a =>
   ⟨υ b a,(YbX a).1,Ykr a,YaK,(YbX a).2,λp α=>by cases α⟩
  rcases B with⟨j,hq⟩ | ⟨U,χ,z⟩
  ·refine Y29 (T.done (oF X scope _ fp _ _ N') rfl rfl rfl rfl i [] s' _ H2 UW J2 ξ ν j) (λr τ ⟨θ,J5⟩=>?_);subst θ;exact hRR _ _ _ _ _ _ I3 h J5 hq
  ·refine Y29 (T.item (oF X scope _ fp _ _ N') rfl rfl rfl rfl i [] s' _ H2 UW J2 ξ ν U) (λr τ ⟨u,θ,hx⟩=>?_);subst θ;refine Y29 hx (λ_ s2 ⟨v,H3,J3,rv,δ,γ,f3⟩=>?_);have ε:∀b∈fp,kW (oF X scope ((s.heap.push { cls:=.type "list",dict:=none,data:=.seq ([]:Ag).toArray }).objs.size) fp ({ s with heap:=s.heap.push { cls:=.type "list",dict:=none,data:=.seq ([]:Ag).toArray } }) (YhW H (.lst [])) N') [] H3 b:=λb a =>
    ⟨f3 b a,(YbY a).1,Yks a,YaK,(YbY a).2,λp α=>by cases α⟩
   have P3:=J3.pinned ε (T.obj (i+1) _ γ);have d:∀{σ':St} {Hx:Hp} {sx:Shared},Y4Q (oF X scope ((s.heap.push { cls:=.type "list",dict:=none,data:=.seq ([]:Ag).toArray }).objs.size) fp ({ s with heap:=s.heap.push { cls:=.type "list",dict:=none,data:=.seq ([]:Ag).toArray } }) (YhW H (.lst [])) N') ([]++vT fp s2.heap) Hx sx->tn (i+1) sx.heap/\∀b∈fp,Hx b=none:=λρ =>
    ⟨YaQ (i+1) _ γ (λb a ι e=>(ρ.pin (b,ι) (bL _ (bL _ (kH a e)))).1),λb a=>by
     obtain⟨ι,e,_⟩:=T.obj (i+1) _ γ b a;exact(ρ.pin (b,ι) (bL _ (bL _ (kH a e)))).2.1⟩
   refine wpAny_assign_Name (qQ P3 (i:=0) (x:=x) (v:=v) ?nd ?hi ?hx rv (λφ J5=>?_) ?hfn)
   case nd=>exact S.nd
   case hi=>exact S.zero
   case hx=>exact .inl (lookup_relabel_local S.own)
   case hfn=>exact .inr (lookup_relabel_local S.own)
   have J5':cU _ _ (Yn :: Y51) H3 φ:=J5;refine Y29 (ht _ _ _ _ _ _ _ _ _ J5' (z v H3 δ)) (λok s6 ⟨H6,J6,L⟩=>?_);dsimp only at L;by_cases hok:ok=true
   ·rw[Ykx]at L ⊢;refine Y29 (he _ _ _ _ _ _ _ _ _ J6 L) (λy s7 ⟨P,H7,J7,r7,β,m',l,μ⟩=>?_);refine Y29 (uW (X:=oF X scope _ fp _ _ N') _ _ _ _ (Y1r) [P] (Y1r) [y] (λ_ H8=>H8=YhW H7 (.lst (ys++[P]))) J7 rfl (Y8x r7) (Y1e _ _ _ rfl β χ rfl)) (λ_ s8 ⟨_,H8,J8,_,e8⟩=>?_);subst e8;obtain⟨ζ,κ⟩:=d J8;exact⟨m',l,i+1,ys++[P],_,Yn,J8.unpinned,ζ,κ,μ⟩
   ·rw[Yky]at L ⊢;obtain⟨_,m',l,μ⟩:=L;obtain⟨ζ,κ⟩:=d J6;exact⟨m',l,i+1,ys,_,Yn,J6.unpinned,ζ,κ,μ⟩
 refine Yit g X.A 0 _ _ _ ο g
def aBt{wi:TI}(S:Y5E)(hi:Yb0 X Y3z wi)(ht:Ydc)(he:Ydb)
  (hs:∀x,Y4a=Y41:=by intro _;rfl):Y08 Y8W (WA wi js tc te):=by
 intro a s σ H Q I h;rw[eval_ListComp];refine Yi5 none rfl hs (lG (S.cells I.ok)) S.kind (Y5O (hi a s σ H _ I h) YjS e);refine Y5O i (λn z ⟨B,fp,A,J,H2,e,I2,T,j,g,R⟩=>?_) e;subst e;refine DJ S I2 T j g ht he R ?_;intro D H3 w y H' u I3 d J3 q;obtain⟨m,l,_⟩:=J3.loc;exact⟨m,l,λp c=>Y0E Y4F H' (KO S I3 d J3 c) q⟩
def MU{wi:TI}{y:Str}{py spos:Pos}{i:Nat}(S:Y5E)(hN:X.N.Nodup)(hiN:Y2G=Y03)(hy:Y9W y Y35)(hi:Yb0 X Y3z wi)(ht:Ydc)(he:Ydb)
  (hsw:swapsWith Y8W (some Y3G) spos.line X.env=Yhg) (hs:∀x,Y4a=Y41:=by intro _;rfl) :
  PS X (YgP [Y3G] [⟨Y3z,iter,ifs,0⟩] spos) (DV (WA wi js tc te) (oK i)):=by
 intro d s σ H D0 I h;rw[exec_Assign_Name_used _ _ _ _ hsw];refine Yds Y3R;show wpAny _ X.A (do let _ <-comprehension (.ListComp elt [⟨.Name x px,iter,ifs,0⟩] scope pos) scope X.env _ (newList []) false (eval iter X.env) (some (assign (.Name y py) X.env))) _ _ s;refine wpAny_bind (Y5O (wpAny_comprehension_free (use:=some (YbQ Y3G)) (Q:=λ_ l=>SP X d D0 .next l) rfl hs (lG (S.cells I.ok)) S.kind S.names (Y5O (hi d s σ H _ I h) (λv δ P=>?_) e)) (λ_ l O=>Yfz O) e);refine Y5O P (λβ ζ ⟨it,fp,η,J,H2,e,I2,T,U,M,R⟩=>?_) e;subst e;refine DJ (Q:=λv H'=>oK i v σ H' D0.nx) S I2 T U M ht he R ?_;intro D H3 w ε H' l I3 G J3 q;obtain⟨m,Z,_⟩:=J3.loc;have IX:cU X d σ H' l:=KO S I3 G J3 (Heap.SameBut.refl ..);have j:Y9M w.heap.objs.size:=λe=>by have:=I3.lt;rw[e]at this;exact Y1y
 show wpAny _ X.A (assign (Y3G) X.env (Y4F)) _ _ _;refine wpAny_assign_Name (yB IX hN hiN (.inl hy) (v:=Y4F) rfl (λY I5 g=>?_) (.inr hy));obtain⟨a,g,L⟩:=g;have r:w.heap.objs.size≠a:=by
  rcases L with rfl | L
  ·exact j
  ·intro e;obtain⟨v,o,u,_⟩:=I3.cell y a L;have:=aZ u;rw[<-e]at this;exact Y1y
 refine⟨m,Z.sameBut g r,λγ B=>Yde _ ?_ q⟩;exact I5.turned (it:=w.heap.objs.size) (t':=Y.toks) (λb o n e=>B.extBut b o n e) J3.free j (.inr I3.sz)
  (λz c α e=>by
   obtain⟨v,o,u,_⟩:=I3.cell z c α;have:=aZ u;rw[e]at this;exact Y1y)
  (λp W e=>by
   have:=aZ (I3.pin p W).1;rw[e]at this;exact Y1y)
end
structure LN(X:Cx)(ifs:Y0b)(t:TT):Prop where p:RQ X ifs t
def BK(t:TE):TE:=λσ H Q=>∃Q':VK,t σ H Q'/\∀v H1,Q' v H1->Q v H1
def PE.mono{X:Cx}{e:Expr}{t:TE}(h:Y08 e t):Y08 e (BK t):=λa s σ H Q I ⟨Q',c,d⟩ =>
 thn (h a s σ H Q' I c) λb g ⟨v,H',I',r,q⟩=>⟨v,H',I',r,d _ _ q⟩
def RQ.mono{X:Cx}{es:Y0b}{t:TT}(h:RQ X es t):RQ X es (vJ t):=λa s σ H Q I ⟨Q',c,d⟩ =>
 thn (h a s σ H Q' I c) λb e ⟨H',I',q⟩=>⟨H',I',d _ _ q⟩
@[irreducible] def qC(J:It)(σ:St)(js:Ae)(tc:TT)(te:TE)(H1:Hp)(Q:VK):Prop:=∀D,H1 D=none->∃W:Nat->Nat->Al->Hp->Prop,(∃m,W 0 m [] (Ybh H1 D [])) /\
 ∀i m ys H2,W i m ys H2->H2 D=Y05/\((Yd7/\Y99 D)\/(Yd8/\YbH/\∀x H3,Y6c i H2 x ->
  vJ tc (YaX) H3 λb H4=>if b=true then BK te (YaX) H4 λy H5=>H5 D=Y05/\∃m',m' < m/\W (i+1) m' (ys++[y]) (Ybf [y])
   else H4 D=Y05/\∃m',m' < m/\W (i+1) m' ys H4))
def xY(wi:TI)(js:Ae)(tc:TT)(te:TE):TE:=λσ H Q=>wi σ H λJ H1=>qC J σ js tc te H1 Q
section
variable{X:Cx}{scope:Scope}{x y:Str}{N':Ah}{js:Ae}{elt iter c:Expr}{px py pos spos:Pos}{ifs:Y0b}{tc:TT}{te:TE}{wi:TI}{i:Nat}
def cT:LN X [] BJ:=⟨pts_nil⟩
def OM{t:TT}(h:OB X c t):LN X [c] t:=⟨aBf h.p⟩
def fK(S:Y5E)(hi:Yb1 X Y3z wi)(ht:∀C fp s₀ H₀,LN (oF X scope C fp s₀ H₀ N') ifs tc)(he:∀C fp s₀ H₀,hJ (oF X scope C fp s₀ H₀ N') elt te)
  (hs:∀x,Y4a=Y41:=by intro _;rfl):Yp Y8W (xY wi js tc te) :=
 ⟨by unfold xY qC;exact aBt S hi.p (λC fp s₀ H₀=>(Y9C).p.mono) (λC fp s₀ H₀=>(Y9D).p.mono) hs⟩
def iV(S:Y5E)(hN:X.N.Nodup)(hiN:Y2G=Y03)(hy:Y9W y Y35)(hi:Yb1 X Y3z wi)(ht:∀C fp s₀ H₀,LN (oF X scope C fp s₀ H₀ N') ifs tc)(he:∀C fp s₀ H₀,hJ (oF X scope C fp s₀ H₀ N') elt te)
  (hsw:swapsWith Y8W (some Y3G) spos.line X.env=Yhg:=by rfl) (hs:∀x,Y4a=Y41:=by intro _;rfl) :
  IK X (YgP [Y3G] [⟨Y3z,iter,ifs,0⟩] spos) (DV (xY wi js tc te) (oK i)) :=
 ⟨by unfold xY qC;exact MU S hN hiN hy hi.p (λC fp s₀ H₀=>(Y9C).p.mono) (λC fp s₀ H₀=>(Y9D).p.mono) hsw hs⟩
end
def ZM(psc scope:Scope)(N:Ah)(x:Str)(N':Ah)(js:Ae):Bool :=
 (Y4Z (!(Yas y.2) || Yju y.1 Y2e))&&(Y4Z (!(Y8I y.2)))&&YjW &&
 (Y4Z (!(y.2 == .local) || Y8S y.1))&&Y8S x &&
 (Y4Z (!(Yas y.2) || !(Y8S y.1)))&&N'.length == YhD 1&&N'[0]? == Yb&&Yj3 &&
 ((List.range js.length).all λi=>match js[i]?,N'[i+1]? with
  | some j,some y=>N[j]? == some y&&scope.names.contains (y,NameKind.free)
  | _,_=>false)
def dD.of{X:Cx}{psc scope:Scope}{N:Ah}{x:Str}{N':Ah}{js:Ae}(h:ZM psc scope N x N' js=true)(hX:X.env.scope=psc)(hN:X.N=N)(hc:Y1d):Y5E:=by
 unfold ZM at h;simp only[dG]at h;obtain⟨⟨⟨⟨⟨⟨⟨⟨⟨d,g⟩,r⟩,n⟩,z⟩,l⟩,w⟩,s⟩,u⟩,c⟩:=h;rw[List.all_eq_true]at d g n l c;refine⟨hc,Y53,Y53,by simpa using r,Y53,by simpa using z,Y53,by simpa using w,by simpa using s,of_decide_eq_true u,λi j m=>?_⟩
 ·have:=d y a;rw[e]at this;show YhX y.1 _;rw[hX];simpa using this
 ·have:=g y a;rw[e]at this;simp at this
 ·have:=n y a;rw[e]at this;simpa using this
 ·have:=l _ a;rw[e]at this;simp at this
 ·have p:Ycd i:=(aB.mp m).1;have:=c i (cD.mpr p);rw[m]at this;cases q:N'[i+1]? with
  | none=>rw[q]at this;simp at this
  | some y =>
   rw[q]at this;simp only[dG]at this;exact Yif y (by rw[hN];simpa using this.1) this.2
def dD.o{X:Cx}{scope:Scope}{x:Str}(N':Ah)(js:Ae)(h:ZM X.env.scope scope X.N x N' js=true:=by exact Eq.refl true)(hc:Y1d:=by rfl):Y5E:=dD.of h rfl rfl hc
section
variable{js:Ae}{te:TE}{tc:TT}{σ:St}{H:Hp}{Q:VK}
def KR{J:It}{n:Nat}(src:YaF V)(hz:YaB n)(Pv:Addr->Nat->Al->(Y2d Hp))
  (h0:∀D H1,H D=none->H1 D=Yq []->Y2c H1->Pv D 0 [] H1)
  (hg:∀D i ys H',i<n->Y0x=Y05->Pv D i ys H'->Yam H'/\∀x H3,Y6c i H' x->H3=H'/\src i x)
  (hst:Y2Q (Y0x=Y05) (Pv D n ys H'->YhE n))
  (hs:∀D i x ys H',src i x->i<n->Y72 i->Y0x=Y05->Pv D i ys H'->YhV H' (H5 D=Y05/\∀H6,H6 D=Yq (ys++[y])->aU D H5 H6->Pv D (i+1) (ys++[y]) H6))
  (hd:Y2Q Y9s (H D=none->Y0x=Y05->Pv D n ys H'->Y0Q)) :
  qC J σ js BJ te H Q:=by
 unfold qC;intro D g;refine Ykk (m=n-i/\i<=n/\Y72 i/\Y0x=Y05/\Pv D i ys H') (Y68 n (by simp) Y0l bK (h0 D _ g bK (aT.upd g)));rintro i m ys H2 ⟨rfl,s,h,a,p⟩;refine Y0j a;by_cases hlt:i<n
 ·obtain⟨l,r⟩:=hg D i ys H2 hlt a p;refine Y7A l (Ygj Oo Dd) (λx H3 c=>?_);obtain⟨rfl,j⟩:=r x H3 c;refine Y0n (λb H4=>b=true/\H4=H3) Y4D;rintro b H4 ⟨rfl,rfl⟩;rw[Yr];refine Y0n _ (hs D i x ys H4 j hlt h a p);rintro v H5 ⟨d,k⟩;exact⟨d,n-(i+1),Oo,rfl,hlt,by rw[aW,h];rfl,bK,k _ bK aU.self⟩
 ·have e:i=n:=Oo;subst e;exact Y38 (hst D ys H2 a p) (hd D ys H2 h g a p)
end
@[irreducible] def MP(K:Aa):Y1i:=λxs H Q=>∃(p:Addr) (ns:Af),xs=Y48/\Y6U p/\Yeh
@[irreducible] def SL(b:Bool):R2:=λx y H Q=>∃d d',Y5F x/\dL H d' y/\Y5d d/\Y5d d'/\Y2r (b == Ygy d)
section
variable{X:Cx}
def NT(hc:Y1d):Y4i "sum" (MP X.K):=by
 unfold MP;intro d s σ H D B Q I r h;obtain⟨p,y,rfl,l,q⟩:=h;obtain⟨u,rfl,z⟩:=nO r;cases z;obtain⟨a,j,g,G⟩:=I.list l;have i:=vZ j;obtain⟨c,e⟩:=i.allInts.items;rw[e]at g;refine sum_intListG (Yab) g.isList λA C n w=>⟨.int y.sum,H,I.kept w,Y0j n,q⟩;rw[preSum_eq,List.take_of_length_le (by simp)];rw[<-i.numsOf];have m:a=(intItems c).toList:=by rw[<-e]
 rw[m,nums_intItems]
def rsI{K:Aa}{H:Hp}{p:Addr}{ns:Af}{Q:VK}(h:Y6U p)(q:Yeh):MP K Y48 H Q:=by unfold MP;exact Y0Z p ns h q
def aEX(hu:Ydw 64<cLine):Y30 .Eq (SL true):=by
 unfold SL;intro a s σ H x y v u Q I n i h;obtain⟨d,p,j,l,g,m,q⟩:=h;obtain⟨r,e⟩:=j.reads I n;obtain⟨bs,c⟩:=l.reads I i;exact SeqAt.compareEq_shaped e c g m hu ⟨.bl _,H,I,by show _=_;simp,q⟩
def aEV(hu:Ydw 64<cLine):Y30 .NotEq (SL false):=by
 unfold SL;intro a s σ H x y v u Q I n i h;obtain⟨d,p,j,l,g,m,q⟩:=h;obtain⟨r,e⟩:=j.reads I n;obtain⟨bs,c⟩:=l.reads I i;exact SeqAt.compareNe_shaped e c g m hu ⟨.bl _,H,I,by show _=_;simp,q⟩
def reD{b:Bool}{x y:V}{d d':PyData}{H:Hp}{Q:VK}(h1:Y5F x)(h2:dL H d' y)(s1:Y5d d)(s2:Y5d d')(q:Y2r (b == Ygy d)):SL b x y H Q:=by
 unfold SL;exact⟨d,d',h1,h2,s1,s2,q⟩
end
mutual
def kJ:Y24 PyData
 | .list _=>false
 | .dict _=>false
 | .tuple ds=>kI ds
 | _=>true
def kI:Y24 Y0Y
 | []=>true
 | d::ds=>kJ d&&kI ds
end
def fF(H H':Hp):Prop:=∀b xs,H b=Y11->Y1p=Y11
def fF.trans{H H1 H2:Hp}(a:fF H H1)(b:fF H1 H2):fF H H2:=λc o h=>b c o (a c o h)
def aT.t{H H':Hp}(s:Y1):Y28:=λb a h=>s _ _ h
def aU.t{H H':Hp}{p:Addr}(s:Y0R){xs:Al}(hp:H p=Y0A):Y28:=Ygz (sX h hp (by intro z;cases z)) h
mutual
theorem dL.flat{H H':Hp}(s:Y28):∀{d:PyData}{v:V},kJ d=true->Y5F v->dL H' d v
 | .none,_,_,h=>h
 | .bool _,_,_,h=>h
 | .int _,_,_,h=>h
 | .str _,_,_,h=>h
 | .list _,_,f,_=>by simp[kJ]at f
 | .dict _,_,f,_=>by simp[kJ]at f
 | .tuple ds,_,f,h=>by
  unfold dL at h ⊢;obtain⟨a,ys,rfl,h1,h2⟩:=h;exact⟨a,ys,rfl,s _ _ h1,bJ.flat s (by simpa[kJ]using f) h2⟩
theorem bJ.flat{H H':Hp}(s:Y28):∀{ds:Y0Y}{vs:Al},kI ds=true->Y6n->Y3M ds vs
 | [],_,_,h=>h
 | d::ds,_,f,h=>by
  unfold bJ at h ⊢;obtain⟨x,ys,rfl,h1,h2⟩:=h;simp only[kI,dG]at f;exact⟨x,ys,rfl,dL.flat s f.1 h1,bJ.flat s f.2 h2⟩
end
theorem bJ.get{H:Hp}:∀{ds:Y0Y}{vs:Al}{i:Nat}{v:V},Y6n->vs[i]?=Yn->∃d,ds[i]?=some d/\Y5F v
 | [],_,i,v,h,e=>by cases(show _=[]from h);simp at e
 | d::ds,_,i,v,h,e=>by
  unfold bJ at h;obtain⟨x,ys,rfl,h1,h2⟩:=h;cases i with
  | zero=>simp at e;subst e;exact⟨d,rfl,h1⟩
  | succ i =>
   rw[List.getElem?_cons_succ]at e ⊢;exact bJ.get h2 e
theorem bJ.get'{H:Hp}:∀{ds:Y0Y}{vs:Al}{i:Nat}{d:PyData},Y6n->ds[i]?=some d->∃v,vs[i]?=Yn/\Y5F v
 | [],_,i,d,h,e=>by simp at e
 | d' :: ds,_,i,d,h,e=>by
  unfold bJ at h;obtain⟨x,ys,rfl,h1,h2⟩:=h;cases i with
  | zero=>simp at e;subst e;exact⟨x,rfl,h1⟩
  | succ i =>
   rw[List.getElem?_cons_succ]at e ⊢;exact bJ.get' h2 e
def bJ.snoc{H:Hp}{ds:Y0Y}{vs:Al}{d:PyData}{v:V}(h:Y6n)(r:Y5F v):Y1g (ds++[d]) (vs++[v]):=bJ.append (Ydr r) h
def NX{i:Int}{n:Nat}(h:Y9f (2^n)):bits i<=n:=PySem.intBits_le_iff.mpr h
def lD{i j:Int}{n m:Nat}(h1:Y9f (2^n))(h2:j.natAbs<2^m)(hn:n<=1048576:=by decide)(hm:m<=1048576:=by decide):IntMulOk i j:=by
 refine IntMulOk.of_bits ?_ ?_
 ·exact aL (NX h1) hn
 ·exact aL (NX h2) hm
section
variable{X:Cx}(K:Aa)
def iA(h:X.K=K:=by rfl):Y6I (rIx K):=by subst h;exact bG
def aB9(h:X.K=K:=by rfl):Y4i "len" (MR K):=by subst h;exact oG
def aB7(hc:Y1d)(h:X.K=K:=by rfl):Y4i "sum" (MP K):=by subst h;exact NT hc
end
end L2
namespace L2
open PySem
def rO(b:Bool)(h:Heap)(i l:Addr)(k:Nat):Prop:=∃o,YcR i/\o.cls=.type (bif b then "tuple_iterator" else "list_iterator")/\o.data=.fields #[Y0G,.int k 0]
def nF(b:Bool)(h:Heap)(l:Addr)(xs:Ai):Prop:=∃o,YcR l/\o.cls=.type (bif b then "tuple" else "list")/\∃n,o.data=.seq xs n
def rO.at{b:Bool}{h h':Heap}{i l:Addr}{k:Nat}(x:rO b h i l k)(f:∀o,YcR i->Y8p i Y9):rO b h' i l k:=let ⟨o,ho,r⟩:=x;Y3c (f o ho) r
def nF.at{b:Bool}{h h':Heap}{l:Addr}{xs:Ai}(x:nF b h l xs)(f:∀o,YcR l->Y8p l Y9):nF b h' l xs:=let ⟨o,ho,r⟩:=x;Y3c (f o ho) r
section
variable{prog:Program}{w:World}{A:Around}{E:Yc}{s:Shared}
def AN{b:Bool}{it l:Addr}{i:Nat}{items:Ai}{x:Value}{Q:Yc}(hit:rO b s.heap it l i)(hl:YeL b l)(hx:items[i]?=Yb)
  (hQ:∀h',rO b h' it l (i+1)->Ybu it h'->Q x { s with heap:=h' }):Y1K (Ybi it):=by
 cases b with
 | false=>exact wpAny_nextOf_list_item hit hl hx hQ
 | true =>
  have d:s.heap.IsTupleIter it l i:=hit;obtain⟨o,a,g,hd⟩:=id d;obtain⟨h,e,_,j,c⟩:=hl;unfold Builtin.SmallTypes.nextOf;refine wpAny_bind (Y8q "__next__" d.typeIs F.slot_tuple_iterator_next F.slot_tuple_iterator_next d.typeIs F.entry_tuple_iterator_next ?_ (F.args_tuple_iterator_next_1 _));show Y2X (Y4s it 0 >>= _);refine wpAny_bind (wpAny_field a hd (x:=Y0G) rfl ?_);show Y2X (if(Value.ref l == Value.none)=true then _ else _);rw[if_neg (show ¬((Value.ref l == Value.none)=true)from cG)];show Y2X (Y4s it 1 >>= _);refine wpAny_bind (wpAny_field a hd (x:=.int i 0) rfl ?_);show Y2X (seqItems? (Y0G) >>= _);refine wpAny_bind (wpAny_seqItems e c ?_);simp only[Int.toNat_natCast,hx];refine wpAny_bind (wpAny_setField a hd (by simp) (wpAny_pure (Yx x (wpAny_pure (hQ _ ?_ (Heap.SameBut.update ..))))));refine Y1R _ (Heap.get?_update_self _ a (Obj.isFreed_of_fields (Obj.data_mapFields hd _))) ((Obj.cls_mapFields ..).trans g);rw[Obj.data_mapFields hd];simp[rawInt]
def MY{b:Bool}{it l:Addr}{i:Nat}{items:Ai}{Q:Yc}(hh:Y69)(hit:rO b s.heap it l i)(hl:YeL b l)(hx:items[i]?=none)
  (hE:∀h' e,YgA it s.heap->(∃o,Y8p e Y9/\o.cls=.type "StopIteration")->E (YcX) { s with heap:=h' }):Y1K (Ybi it):=by
 cases b with
 | false=>exact wpAny_nextOf_list_end hh hit hl hx hE
 | true =>
  have g:s.heap.IsTupleIter it l i:=hit;obtain⟨o,d,j,hd⟩:=id g;obtain⟨n,h,_,p,c⟩:=hl;unfold Builtin.SmallTypes.nextOf;refine wpAny_bind (Y8q "__next__" g.typeIs F.slot_tuple_iterator_next F.slot_tuple_iterator_next g.typeIs F.entry_tuple_iterator_next ?_ (F.args_tuple_iterator_next_1 _));show Y2X (Y4s it 0 >>= _);refine wpAny_bind (wpAny_field d hd (x:=Y0G) rfl ?_);show Y2X (if(Value.ref l == Value.none)=true then _ else _);rw[if_neg (show ¬((Value.ref l == Value.none)=true)from cG)];show Y2X (Y4s it 1 >>= _);refine wpAny_bind (wpAny_field d hd (x:=.int i 0) rfl ?_);show Y2X (seqItems? (Y0G) >>= _);refine wpAny_bind (wpAny_seqItems h c ?_);simp only[Int.toNat_natCast,hx];refine Ybo (wpAny_bind (YjL d hd (by simp)));show Y2I (newExc (.type "StopIteration") [] >>= _);refine Y3R;simp only[newExc,newTuple];refine wpAny_bind (YiB (by size_fits));refine wpAny_bind (m:=firstArgMember _ _) (wpAny_of_eq (a:=Value.none) (by first | rfl | (simp only[firstArgMember];rfl)) ?_);refine YiB (by size_fits);simp only[raiseNew];refine wpAny_bind (wpAny_handled ?_)
  first | rw[show A.in1.handled=none from hh] | rw[hh]
  refine Y6V (wpAny_throw ?_);exact hE _ _ (((Heap.SameBut.update ..).extBut.push _).push _) (Y0B Y1l)
structure ZAt(b1 b2:Bool)(z TI TO i1 i2 l1 l2:Addr)(f:Value)(k:Nat)(h:Heap):Prop where
 z:IsZip h z TI TO f
 ti:IsPair h TI (.ref i1) (.ref i2)
 to:∃a b,YcD h a b
 i1:rO b1 h i1 l1 k
 i2:rO b2 h i2 l2 k
def RX{b1 b2:Bool}{z TI TO i1 i2 l1 l2:Addr}{k:Nat}{xs ys:Ai}{x y:Value}{Q:Yc}(D:Yfc z TO i1 i2 l1 l2)(Z:ZAt b1 b2 z TI TO i1 i2 l1 l2 .none k s.heap)
  (hl1:Y7E b1 l1) (hl2:Y70 b2 l2 ys) (hx:Y1Q k=Yb) (hy:ys[k]?=Y03)
  (hQ:∀h',ZAt b1 b2 z TI TO i1 i2 l1 l2 (rawInt s.heap.objs.size) (k+1) h'->IsPair h' s.heap.objs.size x y->Y9F (c≠z->c≠TO->c≠i1->c≠i2->Y5s->Y7V) (Q Y1r ({ s with heap:=h' }))) :
  wpAny (model prog w) A (Builtin.«zip.__next__» ⟨Y5o z,[]⟩) (λfin s'=>∃v,fin=YgE v/\Q v s') E s:=by
 obtain⟨W,N,⟨a,b,γ⟩,ο,υ⟩:=Z;show Y2I (Y4s z 2 >>= _);refine Y5n W (.bool false);show Y2I (Y4s z 3 >>= _);refine Y5n W (.ref TI);refine Yd2 N;show Y2I (Yi0 z >>= _);refine Y3R;unfold Builtin.SmallTypes.ownedTupleIsFree;refine wpAny_bind (wpAny_field W rfl (x:=.none) rfl Y1X);simp only[if_true];refine Ybo ?_;refine Y5n W (.ref TO);refine Y9L W (by simp) (λτ n S=>?_);have u:=S.extBut;replace n:YbJ τ z TI TO:=n;refine Y3R;simp only[List.zipIdx_cons,List.zipIdx_nil,List.forIn_cons,List.forIn_nil];refine YfL ?_;show Y2I (Ybi i1 >>= _);refine YgC (ο.at λo e=>u _ o D.i1z e) (YkP (u _ o D.l1z e)) hx (λξ θ T=>Y1X);have B:=T.extBut;have m:YcD ξ a b:=B _ _ D.TOi1 (u _ _ D.TOz γ);refine Yd2 m;refine Yi4 m (λν h G=>?_);have U:=G.extBut;replace h:YcD ν x b:=h;refine Yfw Y1X;refine YfL ?_;show Y2I (Ybi i2 >>= _)
 refine YgC (υ.at λo e=>U _ o D.TOi2.symm (B _ o D.i12.symm (u _ o D.i2z e))) (hl2.at λo e=>U _ o D.l2TO (B _ o D.l2i1 (u _ o D.l2z e))) hy (λμ ζ I=>Y1X);have Y:=I.extBut;have j:YcD μ x b:=Y _ _ D.TOi2 h;refine Yd2 j;refine Yi4 j (λg d L=>?_);have α:=L.extBut;replace d:YcD g x y:=d;refine Yfw (wpAny_pure (Y1X));refine Yd2 d;refine wpAny_bind (wpAny_newTuple ?_);have M:g.objs.size=s.heap.objs.size:=by rw[L.1,I.1,G.1,T.1,S.1]
 have P:YbJ g z TI TO:=α _ _ D.TOz.symm (Y _ _ D.i2z.symm (U _ _ D.TOz.symm (B _ _ D.i1z.symm n)));have O:∀c o,c≠z->c≠TO->c≠i1->c≠i2->Y5s->g.get? c=Y9:=λc o r X η ι e=>α _ _ X (Y _ _ ι (U _ _ X (B _ _ η (u _ _ r e))));have κ:rO b1 g i1 l1 (k+1):=θ.at λo e=>α _ o D.TOi1.symm (Y _ o D.i12 (U _ o D.TOi1.symm e));have δ:rO b2 g i2 l2 (k+1):=ζ.at λo e=>α _ o D.TOi2.symm e;have l:=aZ P;show Y2I (Builtin.SmallTypes.ownedTupleHandOut (.ref z) (.ref g.objs.size) >>= _);refine Y3R;unfold Builtin.SmallTypes.ownedTupleHandOut;have ε:YbJ (g.push { cls:=.type "tuple",data:=.seq #[x,y] }) z TI TO:=aF _ P;refine Y9L ε (by simp) (λρ p C=>?_);replace p:IsZip ρ z TI TO (rawInt g.objs.size):=p;refine wpAny_setField_rec p (by simp) λβ i J=>?_;replace i:IsZip β z TI TO (rawInt g.objs.size):=i;have up:∀c o,c≠z->g.get? c=Y9->β.get? c=Y9:=λc o r e=>J.extBut _ _ r (C.extBut _ _ r (Y2n));have R:IsPair β g.objs.size x y:=J.extBut _ _ (Nat.ne_of_gt l) (C.extBut _ _ (Nat.ne_of_gt l) (Y1l));rw[M]at i R;refine wpAny_pure Y7;show Y4l g.objs.size _;rw[M]
 exact hQ β ⟨i,up _ _ D.TIz (O _ _ D.TIz D.TITO D.TIi1 D.TIi2 N),Y0C _ (up _ _ D.TOz d),κ.at λo e=>up _ o D.i1z e,δ.at λo e=>up _ o D.i2z e⟩ R λc o r X η ι e=>up c o r (O c o r X η ι e)
def UY{b1 b2:Bool}{z TI TO i1 i2 l1 l2:Addr}{k:Nat}{xs ys:Ai}{Q:Fin->(Y2d Shared)}(hh:Y69)(D:Yfc z TO i1 i2 l1 l2)(Z:ZAt b1 b2 z TI TO i1 i2 l1 l2 .none k s.heap)
  (hl1:Y7E b1 l1) (hl2:Y70 b2 l2 ys) (hend:Y1Q k=none\/ys[k]?=none)
  (hE:∀h' e,Y9F (c≠z->c≠TO->c≠i1->c≠i2->Y5s->Y7V) ((∃o,Y8p e Y9/\o.cls=.type "StopIteration")->E (YcX) { s with heap:=h' })) :
  Y1K (Builtin.«zip.__next__» ⟨Y5o z,[]⟩):=by
 obtain⟨I,N,⟨a,b,L⟩,U,δ⟩:=Z;show Y2I (Y4s z 2 >>= _);refine Y5n I (.bool false);show Y2I (Y4s z 3 >>= _);refine Y5n I (.ref TI);refine Yd2 N;show Y2I (Yi0 z >>= _);refine Y3R;unfold Builtin.SmallTypes.ownedTupleIsFree;refine wpAny_bind (wpAny_field I rfl (x:=.none) rfl Y1X);simp only[if_true];refine Ybo ?_;refine Y5n I (.ref TO);refine Y9L I (by simp) (λγ j O=>?_);have l:=O.extBut;replace j:YbJ γ z TI TO:=j;refine Y3R;simp only[List.zipIdx_cons,List.zipIdx_nil,List.forIn_cons,List.forIn_nil];refine YfL ?_;show Y2I (Ybi i1 >>= _);cases hx:Y1Q k with
 | none =>
  refine wpAny_bind (MY hh (U.at λo e=>l _ o D.i1z e) (YkP (l _ o D.l1z e)) hx λM e m R=>?_);obtain⟨S,d,g⟩:=R;have y:YbJ M z TI TO:=m _ _ D.i1z.symm j;have p:e≠z:=λx=>by subst x;rw[y]at d;cases d;simp at g
  exact wpAny_setField_rec y (by simp) λT _ i=>hE T e (λc o C _ P _ x=>i.extBut _ _ C (m _ _ P (l _ _ C x))) ⟨S,i.extBut _ _ p d,g⟩
 | some x =>
  have ζ:ys[k]?=none:=by
   rcases hend with h | h
   ·rw[hx]at h;cases h
   ·exact h
  refine YgC (U.at λo e=>l _ o D.i1z e) (YkP (l _ o D.l1z e)) hx (λM β m=>Y1X);have r:=m.extBut;have n:YcD M a b:=r _ _ D.TOi1 (l _ _ D.TOz L);refine Yd2 n;refine Yi4 n (λT W i=>?_);have J:=i.extBut;refine Yfw Y1X;refine YfL ?_;show Y2I (Ybi i2 >>= _);refine wpAny_bind (MY hh (δ.at λo e=>J _ o D.TOi2.symm (r _ o D.i12.symm (l _ o D.i2z e))) (hl2.at λo e=>J _ o D.l2TO (r _ o D.l2i1 (l _ o D.l2z e))) ζ λX e u R=>?_);obtain⟨S,d,g⟩:=R;have G:YbJ X z TI TO:=u _ _ D.i2z.symm (J _ _ D.TOz.symm (r _ _ D.i1z.symm j));have p:e≠z:=λx=>by subst x;rw[G]at d;cases d;simp at g
  exact wpAny_setField_rec G (by simp) λα _ B=>hE α e (λc o C Y P ε x=>B.extBut _ _ C (u _ _ ε (J _ _ Y (r _ _ P (l _ _ C x))))) ⟨S,B.extBut _ _ p d,g⟩
def RW{b1 b2:Bool}{z TI TO i1 i2 l1 l2:Addr}{k:Nat}{xs ys:Ai}{x y:Value}{Q:YcI}(D:Yfc z TO i1 i2 l1 l2)(Z:ZAt b1 b2 z TI TO i1 i2 l1 l2 .none k s.heap)
  (hl1:Y7E b1 l1) (hl2:Y70 b2 l2 ys) (hx:Y1Q k=Yb) (hy:ys[k]?=Y03)
  (hQ:∀h',ZAt b1 b2 z TI TO i1 i2 l1 l2 (rawInt s.heap.objs.size) (k+1) h'->IsPair h' s.heap.objs.size x y->Y9F (c≠z->c≠TO->c≠i1->c≠i2->Y5s->Y7V) (Q (Y6 s.heap.objs.size) { s with heap:=h' })) :
  Ycc z:=by
 have a:Y8n z "zip" := Y0B Z.z;unfold pyNext;refine Ybm (Y8q "__next__" a F.slot_zip_next F.slot_zip_next a F.entry_zip_next ?_ (F.args_zip_next_1 _));exact RX D Z hl1 hl2 hx hy λh' e g d=>wpAny_pure (hQ h' e g d)
def RV{b1 b2:Bool}{z TI TO i1 i2 l1 l2:Addr}{k:Nat}{xs ys:Ai}{Q:YcI}(hh:Y69)(D:Yfc z TO i1 i2 l1 l2)(Z:ZAt b1 b2 z TI TO i1 i2 l1 l2 .none k s.heap)
  (hl1:Y7E b1 l1) (hl2:Y70 b2 l2 ys) (hend:Y1Q k=none\/ys[k]?=none)
  (hQ:∀h',Y9F (c≠z->c≠TO->c≠i1->c≠i2->Y5s->Y7V) (Q none { s with heap:=h' })):Ycc z:=by
 have a:Y8n z "zip" := Y0B Z.z;unfold pyNext;refine Ybm (Y8q "__next__" a F.slot_zip_next F.slot_zip_next a F.entry_zip_next ?_ (F.args_zip_next_1 _));refine UY hh D Z hl1 hl2 hend λh' e d i=>?_;obtain⟨o,h,g⟩:=i;refine wpAny_bind (wpAny_isInstance (T:="StopIteration") (b:=true) (Y3c h g) isSubtype_stop ?_);exact wpAny_pure (hQ _ d)
abbrev itO(b:Bool)(l:Addr):Obj:={ cls:=.type (bif b then "tuple_iterator" else "list_iterator"),data:=.fields #[.ref l,.int 0 0] }
def QI{b:Bool}{l:Addr}{xs:Ai}{Q:Yc}(h:Y7E b l)(q:Q Y1r ({ s with heap:=s.heap.push (itO b l) })):Y1K (pyIter (Y0G)):=by
 cases b with
 | false=>exact wpAny_pyIter_list h q
 | true=>exact wpAny_pyIter_tuple h q
end
end L2
namespace L2
open PySem PySem.Spec PyProof.Rows
section
variable{X:Cx}{pins:Ad}{σ:St}{H:Hp}{s:Shared}{h':Heap}
def cU.turnedL{t':Nat}{fp:Y0m}(I:Y4)(k:Y0W (b ∉ fp) (Y3g->Y0T=Y9))(hf:∀b∈fp,Y2V):Y4n ({ s with heap:=h',toks:=t' }):=by
 have d:∀b u,H b=Yl->b ∉ fp:=λb u e z=>by rw[(hf b z).1]at e;cases e
 refine I.step (g':=s.gens) (d':=s.drawn) (ch:=fp) (λb h=>?_) (λb o _ _ a e _=>k b o a e) (λb o _ _ a e _=>⟨o.slots,k b o a e⟩) (λ_ _ _ _ n=>n)
  (λb o a e=>⟨o,k b o a e⟩) (Yk5) (λ_ _ _ e=>e) (λb B e=>⟨#[],by rw[e];simp⟩) (λm w=>?_) (λb u e=>?_) I.bare
 ·obtain⟨D,g,C,i,y,A⟩:=hf b h;exact⟨i,g,y,A⟩
 ·obtain⟨o,l,p,j,r⟩:=w;exact⟨o,l,p,k _ o (λz=>(hf _ z).2.1 rfl) j,r⟩
 ·refine(I.hok b u e).stay (λc v a q=>k c v ?_ q) (Yeo) Ya4;rcases a with z | z
  ·rw[z];exact d b u e
  ·exact d c _ z
def Un.putE{fs ex:Y0m}{H H1:Hp}{h h1:Heap}{a:Addr}{u:HO}(x:Un fs ex H H1 h h1)(ha:(h.get? a)=none)(hn:H1 a=none):Un fs ex H (upd H1 a u) h h1 where
 keep:=x.keep
 slot:=x.slot
 free:=λb d e n m=>by rw[eP (λz=>by subst z;rw[ha]at e;cases e)];exact x.free b d e n m
 there:=x.there
 tups:=λb c e=>by rw[Y9c (x.tups b c e)];exact x.tups b c e
 frzs:=λb d c e=>by rw[Y9c (x.frzs b d c e)];exact x.frzs b d c e
 tbls:=λb g e=>by
  obtain⟨m,q⟩:=x.tbls b g e;exact⟨m,by rw[Y9c q];exact q⟩
def tF.putE{P:Program}{w:World}{h:Heap}{a:Addr}{u:HO}(x:Y3r)(hn:H a=none)(new:hV P w (Y4J u) h a u):tF P w (Y4J u) h:=λb v e=>by
 by_cases hb:b=a
 ·subst hb;rw[bK]at e;cases e;exact new
 ·rw[eP hb]at e;exact(x b v e).stay (λc q _ r=>r) (λc q=>by rw[Y9c q];exact q) λc d q=>by rw[Y9c q];exact q
def cU.put{a:Addr}{o:HO}(I:Y4)(f:kW X pins H a)(hs:Yg6 a none)(new:hV X.prog X.w (Y4J o) s.heap a o):Y4m (Y4J o) s :=
 ⟨I.ok,I.os,I.bare,I.base.putE hs f.1,I.loc,I.cell,by rw[eP (Ne.symm f.2.1)];exact I.free,λx c e=>by rw[eP (f.2.2.2.2.1 x c e)];exact Y8E x e,λp d=>by
  obtain⟨g,h,i⟩:=Y8Q d;exact⟨g,by rw[eP (f.2.2.2.2.2 p d)];exact h,i⟩,tF.putE I.hok f.1 new,I.len⟩
def zP(b:Bool)(xs:Al):HO:=bif b then .tup xs else .lst xs
def zP.inj{b:Bool}{xs ys:Al}(h:Y7h b=some (zP b ys)):xs=ys:=by
 cases b <;> (injection h with h;injection h)
def cU.sq{b:Bool}{a:Addr}{xs:Al}(I:Y4)(h:H a=Y7h b):∃its:Ag,YaY xs/\Y70 b a its.toArray:=by
 cases b with
 | false=>obtain⟨its,r,p,_⟩:=I.list (YaA);exact⟨its,r,p.isList⟩
 | true=>obtain⟨its,r,p,_⟩:=Ybz h;exact⟨its,r,p⟩
end
def Itz(b1 b2:Bool)(l1 l2:Addr):It :=
  ⟨λi H=>∃xs ys x y,H l1=Yd5/\H l2=Ydd/\Y0s=Yb/\Y19=Y03,
   λi H v H'=>∃q x y,v=.ref q/\H q=none/\H'=Y3B q (.tup [x,y])/\∀xs ys,H l1=Yd5->H l2=Ydd->Y0s=Yb/\Y19=Y03,
   λi H=>∃xs ys,H l1=Yd5/\H l2=Ydd/\(Y5T i\/ys.length<=i)⟩
structure ZD(z TI TO i1 i2:Addr):Prop where
 TIz:TI≠z
 TOz:TO≠z
 i1z:i1≠z
 i2z:i2≠z
 TITO:TI≠TO
 TIi1:TI≠i1
 TIi2:TI≠i2
 TOi1:TO≠i1
 TOi2:TO≠i2
 i12:i1≠i2
def ZD.seq(n:Nat):ZD (n+4) (n+2) (n+3) n (n+1) where
 TIz:=Y5m (show(n+2:Nat)=n+4 from h)
 TOz:=Y5m (show(n+3:Nat)=n+4 from h)
 i1z:=Y5m (show(n:Nat)=n+4 from h)
 i2z:=Y5m (show(n+1:Nat)=n+4 from h)
 TITO:=Y5m (show(n+2:Nat)=n+3 from h)
 TIi1:=Y5m (show(n+2:Nat)=n from h)
 TIi2:=Y5m (show(n+2:Nat)=n+1 from h)
 TOi1:=Y5m (show(n+3:Nat)=n from h)
 TOi2:=Y5m (show(n+3:Nat)=n+1 from h)
 i12:=Y5m (show(n:Nat)=n+1 from h)
def ZD.all{z TI TO i1 i2 l1 l2:Addr}(d:ZD z TI TO i1 i2){H:Hp}{o1 o2:HO}(e1:H l1=some o1)(e2:H l2=some o2)(h:∀b∈[z,TI,TO,i1,i2],H b=none):Yfc z TO i1 i2 l1 l2 :=
 ⟨d.TIz,d.TOz,d.i1z,d.i2z,d.TITO,d.TIi1,d.TIi2,d.TOi1,d.TOi2,d.i12,dR e1 (h _ (by simp)),dR e1 (h _ (by simp)),dR e1 (h _ (by simp)),dR e1 (h _ (by simp)),dR e2 (h _ (by simp)),dR e2 (h _ (by simp)),dR e2 (h _ (by simp)),dR e2 (h _ (by simp))⟩
def VO{P:Program}{w:World}{K:Aa}{elts:Y0b}{x1}{tp:Pos}{b1 b2:Bool}{z TI TO i1 i2 l1 l2:Addr}(d:ZD z TI TO i1 i2):EB P w K (Yb8) (Itz b1 b2 l1 l2) [z,TI,TO,i1,i2] z (λi h=>ZAt b1 b2 z TI TO i1 i2 l1 l2 .none i h) where
 mem:=by simp
 obj:=λi h st b g=>by
  obtain⟨a,b',r⟩:=st.to;obtain⟨ψ,n,_,d1⟩:=st.i1;obtain⟨ω,m,_,χ⟩:=st.i2;simp only[bN,List.not_mem_nil,or_false]at g;rcases g with rfl | rfl | rfl | rfl | rfl
  ·exact Yar st.z (by cases q)
  ·exact Yar st.ti (by cases q)
  ·exact Yar r (by cases q)
  ·exact Yar n (by rw[d1]at q;cases q)
  ·exact Yar m (by rw[χ]at q;cases q)
 keep:=λi h α st k=>by
  obtain⟨a,b,r⟩:=st.to;exact⟨k _ (by simp) _ st.z,k _ (by simp) _ st.ti,Y2s b (k _ (by simp) _ r),st.i1.at (YcM _ (by simp) o e),st.i2.at (YcM _ (by simp) o e)⟩
 item:=by
  intro X M G Z κ i l s σ H E I p st T;subst M G Z;obtain⟨ξ,ρ,x,y,n,m,β,ε⟩:=T;obtain⟨u1,U,L⟩:=I.sq n;obtain⟨η,O,S⟩:=I.sq m;obtain⟨δ,Y,ο⟩:=U.get β;obtain⟨ι,C,ν⟩:=O.get ε;have D:=d.all n m λb g=>(p b g).1;refine RW D st L S (x:=δ) (y:=ι) (by simpa using Y) (by simpa using C) λα Z' γ N=>Y5 (wpAny_letOwnedTupleGo_zip Z'.z λθ R j=>?_);have kk:Y0W (b ∉ [z,TI,TO,i1,i2]) (Y3g->θ.get? b=Y9):=λb o g e=>by
   simp only[bN,List.not_mem_nil,or_false,not_or]at g;exact j.extBut b o g.1 (N b o g.1 g.2.2.1 g.2.2.2.1 g.2.2.2.2 e)
  have I1:Y4T l ({ s with heap:=θ }):=Yiu kk p;have fq:kW X l H s.heap.objs.size:=I.fpOk (Yy) (Y2D);have υ:Yfm=none:=by
   cases q:Yfm with
   | none=>rfl
   | some o=>exact absurd (aO (aZ q) I.sz) (bS _)
  have nz:YfY z:=YgV (aZ st.z) (by rw[<-q];exact bS _);obtain⟨a,b,r⟩:=Z'.to;refine⟨Y1r,YhW H (.tup [x,y]),I1.put fq υ ⟨Y7B (uV (by show 2<=64;decide)) _ (Yck _ nz γ),[δ,ι],.cons ο (Y8x ν),Y3P (Yck _ nz γ) _ rfl⟩,rfl,Y3t _ x y fq.1 rfl (λφ τ μ ζ=>?_),
   ⟨R,Yck _ d.TIz Z'.ti,Y2s b (Yck _ d.TOz r),Z'.i1.at λo e=>Yck o d.i1z e,Z'.i2.at λo e=>Yck o d.i2z e⟩,YkA⟩
  ·rw[n]at μ;rw[m]at ζ;rw[<-zP.inj μ,<-zP.inj ζ];exact⟨β,ε⟩
  ·have nb:Ybv b:=λq=>by
    obtain⟨a',b',B⟩:=st.to;obtain⟨ψ,A,_⟩:=st.i1;obtain⟨ω,J,_⟩:=st.i2;have lt:∀{c o},Y5s->Ybv c:=λe=>dN (Y18);simp only[bN,List.not_mem_nil,or_false]at g;rcases g with rfl | rfl | rfl | rfl | rfl
    ·exact lt st.z q
    ·exact lt st.ti q
    ·exact lt B q
    ·exact lt A q
    ·exact lt J q
   rw[eP nb];exact(p b g).1
 done:=by
  intro X M G Z κ i l s σ H E I p st T;subst M G Z;obtain⟨ξ,ρ,n,m,hl⟩:=T;obtain⟨u1,U,L⟩:=I.sq n;obtain⟨η,O,S⟩:=I.sq m;have D:=d.all n m λb g=>(p b g).1;have l1:=U.length;have l2:=O.length;have u:u1.toArray[i]?=none\/η.toArray[i]?=none:=by
   rcases hl with h | h
   ·left;simp;exact Oo
   ·right;simp;exact Oo
  refine RV (I.ok.hd κ) D st L S u λα N=>Y3 (Yiu (λb o g e=>?_) p);simp only[bN,List.not_mem_nil,or_false,not_or]at g;exact N b o g.1 g.2.2.1 g.2.2.2.1 g.2.2.2.2 e
 self:=λ_ _ _ _ _ st h=>wpAny_pyIter_zip st.z h
abbrev zA(b:Bool)(h:Heap)(l:Addr):Heap:=h.push (itO b l)
abbrev zB(b1 b2:Bool)(h:Heap)(l1 l2:Addr):Heap:=(zA b1 h l1).push (itO b2 l2)
abbrev zC(b1 b2:Bool)(h:Heap)(l1 l2:Addr):Heap:=(zB b1 b2 h l1 l2).push { cls:=.type "tuple",data:=.seq #[.ref h.objs.size,.ref (zA b1 h l1).objs.size] }
abbrev zE(b1 b2:Bool)(h:Heap)(l1 l2:Addr):Heap:=(zC b1 b2 h l1 l2).push { cls:=.type "tuple",data:=.seq #[.none,.none] }
abbrev zF(b1 b2:Bool)(h:Heap)(l1 l2:Addr):Heap:=(zE b1 b2 h l1 l2).push { cls:=.type "zip",data:=.fields #[.none,.bool false,.bool false,.ref (zB b1 b2 h l1 l2).objs.size,.ref (zC b1 b2 h l1 l2).objs.size] }
def aE6(b1 b2:Bool)(l1 l2:Addr)(xs ys:Ai):YbC (Builtin.«zip.__new__» ⟨[.type "zip",.ref l1,.ref l2],[]⟩) (Y7E b1 l1/\Y70 b2 l2 ys/\R (.ok (.ret (.ref (zE b1 b2 s.heap l1 l2).objs.size))) ({ s with heap:=zF b1 b2 s.heap l1 l2 })) :=
 .of_wp λr w A R s h=>by
  obtain⟨n,g,d,m,l⟩:=s;obtain⟨a,i,h⟩:=h;have p:=sub_zip;have j:nF b1 (Shared.heap ⟨n,g,d,m,l⟩) l1 xs:=a;have c:nF b2 (Shared.heap ⟨n.push (itO b1 l1),g,d,m,l⟩) l2 ys:=i.at λo e=>Y2n
  wp_walk using QI j,QI c
  exact Y5 h
section
variable{prog:Program}{w:World}{A:Around}{E:Yc}{s:Shared}
def aGS{b1 b2:Bool}{l1 l2:Addr}{xs ys:Ai}{Q:Yc}(hl1:Y7E b1 l1)(hl2:Y70 b2 l2 ys)
  (h:∀h',ZAt b1 b2 (Y89 4) (Y89 2) (Y89 3) s.heap.objs.size (Y1J) l1 l2 .none 0 h'->Y9F (Y5s->Y7V) (Y4l (Y89 4) ({ s with heap:=h' }))) :
  Y1K (call (.type "zip") [.ref l1,.ref l2]):=by
 refine callType_new F.called_zip Dd (F.typeCall_zip_2 _ _) (F.newCall_zip_2 _ _) (λe=>F.args_object_init_3 e _ _) F.entry_zip_new (aE6 b1 b2 l1 l2 xs ys) (Y0n hl1 hl2);have a:(zA b1 s.heap l1).objs.size=Y1J:=fW ..;have d:(zB b1 b2 s.heap l1 l2).objs.size=Y89 2:=by rw[fW,a]
 have i:(zC b1 b2 s.heap l1 l2).objs.size=Y89 3:=by rw[fW,d]
 have j:(zE b1 b2 s.heap l1 l2).objs.size=Y89 4:=by rw[fW,i]
 have g:(zF b1 b2 s.heap l1 l2).get? (zE b1 b2 s.heap l1 l2).objs.size=Y7q:=Y1l;have m:(zF b1 b2 s.heap l1 l2).get? (zC b1 b2 s.heap l1 l2).objs.size=Y7q:=aF _ Y1l;have n:(zF b1 b2 s.heap l1 l2).get? (zB b1 b2 s.heap l1 l2).objs.size=Y7q:=Y78 Y1l;have l:(zF b1 b2 s.heap l1 l2).get? (zA b1 s.heap l1).objs.size=Y7q:=Y78 (aF _ Y1l);have p:(zF b1 b2 s.heap l1 l2).get? s.heap.objs.size=Y7q:=aF _ (Y78 (aF _ Y1l));show _/\_;rw[d,i,j]at g;rw[a,d]at n;rw[i]at m;rw[a]at l;rw[j];exact⟨Y0B g,h _ ⟨g,n,Y0C _ m,Y8d _ p rfl,Y8d _ l rfl⟩ λc o x=>aF _ (Y78 (Y78 x))⟩
end
def aGH(b1 b2:Bool)(ta:TA):TI:=YeD σ H (∃l1 l2 xs ys,vs=[.ref l1,.ref l2]/\H1 l1=Yd5/\H1 l2=Ydd/\R (Itz b1 b2 l1 l2) H1)
def aAb:Yia "zip"=YiO "zip":=Kk
section
variable{X:Cx}
def aEH{a b:Expr}{ta:TA}{p pos tp:Pos}{elts:Y0b}{x1}{b1 b2:Bool}(hg:Gl X "zip")(hm:X.mg "zip" = none)(ha:PA X [a,b] ta)(hs:Y5I a b=[(false,Y7P),(false,Y7O)])(hs2:Y2H b=[(false,Y7O)]) :
  PI X (Yb8) (Y8z "zip" p [a,b] []) (aGH b1 b2 ta):=by
 intro d s σ H R I h;refine Call_ (vW I hg hm aAb (Ybj (ha pos d s σ H _ I h) (λD c ⟨A,H1,I1,w,n⟩=>?_) (by rw[hs,hs2]) (by rw[hs2];rfl)));obtain⟨M,J,L,C,e,u,m,q⟩:=n;subst e;cases w with
 | cons r rr =>
  cases rr with
  | cons r' rr =>
   cases rr;cases r;cases r';obtain⟨u1,_,l⟩:=I1.sq u;obtain⟨G,_,j⟩:=I1.sq m;refine aGS l j λB Z y=>wpAny_pyIter_zip Z.z ?_;refine⟨_,[Yg3 4,Yg3 2,Yg3 3,c.heap.objs.size,Yg3 1],_,_,H1,rfl,I1.kept (t':=c.toks) y,VO (ZD.seq _),Z,YkD,q⟩;have g:c.heap.objs.size<=b:=by
    simp only[bN,List.not_mem_nil,or_false]at i;rcases i with rfl | rfl | rfl | rfl | rfl
    ·exact Y9U _
    ·exact Y9U _
    ·exact Y9U _
    ·exact Yy
    ·exact Y9U _
   exact I1.fpOk g (I1.hok.fresh g)
def kZ(b1 b2:Bool){a b:Expr}{ta:TA}{p pos tp:Pos}{elts:Y0b}{x1}(hg:Gl X "zip")(hm:X.mg "zip" = none)(ha:LO X [a,b] ta)(hs:Y5I a b=[(false,Y7P),(false,Y7O)]:=by rfl)(hs2:Y2H b=[(false,Y7O)]:=by first | exact pW | exact pX | exact iO | rfl) :
  OD X (Yb8) (Y8z "zip" p [a,b] []) (aGH b1 b2 ta):=⟨aEH hg hm ha.p hs hs2⟩
end
def vA{b1 b2:Bool}{l1 l2:Addr}{xs ys:Al}{g:TG}{tb:TS}{D:qL}{σ:St}{H:Hp}(Pv:Nat->Y1I)(h0:Y65 0)(hl:∀i σ H,Y2F->H l1=Yd5/\H l2=Ydd)
  (hs:∀i x y q σ H H',Y0s=Yb->Y19=Y03->Y2F->H q=none->H' q=Ym [x,y]->Y1->g (.ref q) σ H' (Y45 ({ D with nx:=Pv (i+1),ct:=Pv (i+1),bk:=D.nx }))) (hd:∀σ H,Y65 YbK->Y3l) :
  ∃W:Nat->Nat->St->Hp->Prop,(Ybd H)/\∀i m σ H,W i m σ H ->
   ((Itz b1 b2 l1 l2).stop i H/\Y3l)\/((Itz b1 b2 l1 l2).go i H/\∃N:St->Hp->Prop,Yah (N σ' H'->∃m',m' < m/\W (i+1) m' σ' H') ((Itz b1 b2 l1 l2).yld i H x H'->g x σ H' (Y45 ({ D with nx:=N,ct:=N,bk:=D.nx })))):=by
 refine YbM (m=YbK-i/\i<=YbK/\Y2F) (Y37 _ Y0l h0);rintro i m σ H ⟨rfl,u,p⟩;obtain⟨a,c⟩:=hl i σ H p;by_cases hlt:i<YbK
 ·have l:Y0s=some xs[i]:=Y6v;have s:Y19=some ys[i]:=Y6v;refine .inr ⟨⟨xs,ys,_,_,a,c,l,s⟩,Pv (i+1),λσ' H' h=>Y3P Oo hlt h,λv H' y=>?_⟩;obtain⟨q,x,y,rfl,d,rfl,n⟩:=y;obtain⟨j,r⟩:=n xs ys a c;exact hs i x y q σ H _ j r p d bK (aT.upd d)
 ·have e:i=YbK:=Oo;subst e;refine Y38 ⟨xs,ys,a,c,?_⟩ (hd σ H p);exact Oo
end L2
namespace L2
open PySem
def sM:Ag->Y24 Af
 | [],[]=>true
 | .int i _::vs,n::ns=>decide (i=n)&&sM vs ns
 | _,_=>false
def vY(K:Aa)(a:Addr)(ns:Af):Bool :=
 match Yef with
 | some o=>(match o.cls with | .type n=>n == "tuple" | _=>false)&&(match o.data with | .seq xs _=>decide (xs.size<=64)&&sM xs.toList ns | _=>false)
 | none=>false
theorem sM.vals:∀{vs:Ag}{ns:Af},sM vs ns=true->eI (Y4X) vs
 | [],[],_=>.nil
 | v::vs,n::ns,h=>by
  cases v with
  | int i t =>
   have h':(decide (i=n)&&sM vs ns)=true:=h;rw[dG]at h';have e:=of_decide_eq_true h'.1;subst e;exact .cons ⟨t,rfl⟩ (sM.vals h'.2)
  | _=>cases h
 | [],_::_,h=>by cases h
 | v::_,[],h=>by cases v <;> cases h
def wL{K:Aa}{H:Hp}{a:Addr}{ns:Af}(h:vY K a ns=true):jV K H a (Y4X):=by
 unfold vY at h;split at h
 ·rename_i o ho
  rw[dG]at h;obtain⟨d,c⟩:=h;split at d
  ·rename_i n hn
   split at c
   ·rename_i xs m hx
    rw[dG]at c;have e:n = "tuple" := by simpa using d
    subst e;exact .inr ⟨o,xs,m,ho,hn,hx,uV (of_decide_eq_true c.1),sM.vals c.2⟩
   ·cases c
  ·cases d
 ·cases h
def jV.keep{K:Aa}{H H':Hp}{a:Addr}{xs:Al}(s:Y1)(h:Y6G):jV K H' a xs:=by
 rcases h with(h | ⟨o,h⟩) | h
 ·exact Ye4 (s _ _ h)
 ·exact .inl (Y3x o (s _ _ h))
 ·exact .inr h
mutual
def uC(K:Aa)(H:Hp):Y13 PyData V
 | .none,v=>v=.non
 | .bool b,v=>v=.bl b
 | .int i,v=>v=.int i
 | .str x,v=>v=.str x
 | .list ds,v=>∃a xs,v=.ref a/\H a=some (.lst xs)/\oM K H ds xs
 | .tuple ds,v=>∃a xs,v=.ref a/\jV K H a xs/\oM K H ds xs
 | .dict kvs,v=>kvs=[]/\∃a,v=.ref a/\H a=some (.dK [])
def oM(K:Aa)(H:Hp):Y13 Y0Y Al
 | [],vs=>vs=[]
 | d::ds,vs=>∃x xs,vs=x::xs/\uC K H d x/\oM K H ds xs
end
def uC.tup{K:Aa}{H:Hp}{a:Addr}{xs:Al}{ds:Y0Y}(h:Y6G)(r:oM K H ds xs):uC K H (Yhh) (Yf):=by
 unfold uC;exact Y0Z a xs h r
theorem oM.ints{K:Aa}{H:Hp}:∀ns:Af,oM K H (YfR) (Y4X)
 | []=>by unfold oM;rfl
 | n::ns=>by unfold oM;exact⟨_,_,rfl,by unfold uC;rfl,oM.ints ns⟩
section
variable{X:Cx}{pins:Ad}{σ:St}{H:Hp}{s:Shared}
mutual
theorem uC.reads(I:Y4):∀{d:PyData}{v:V}{u:Value},uC X.K H d v->Y3o->∃as,Reads s.heap u d as
 | .none,_,u,h,r=>by
  cases(show _=V.non from h);cases(show u=Value.none from r);exact⟨_,.none⟩
 | .bool b,_,u,h,r=>by
  cases(show _=V.bl b from h);cases(show u=Value.bool b from r);exact⟨_,.bool b⟩
 | .int b,_,u,h,r=>by
  cases(show _=V.int b from h);obtain⟨t,q⟩:=(show ∃t,u=Value.int b t from r);cases q;exact⟨_,.int b t⟩
 | .str b,_,u,h,r=>by
  cases(show _=V.str b from h);obtain⟨t,q⟩:=(show ∃t,u=Value.str b t from r);cases q;exact⟨_,.str b t⟩
 | .list ds,v,u,h,r=>by
  unfold uC at h;obtain⟨a,l,rfl,g,j⟩:=h;cases(show u=Value.ref a from r);obtain⟨_,i,n,c,e⟩:=(show hV X.prog X.w H s.heap a (.lst l)from I.hok a _ g);obtain⟨as,q⟩:=oM.reads I j c;exact⟨_,.list e rfl rfl (by simpa using q)⟩
 | .tuple ds,v,u,h,r=>by
  unfold uC at h;obtain⟨a,l,rfl,g,j⟩:=h;cases(show u=Value.ref a from r);obtain⟨i,c,⟨o,e,m,n,hd⟩,_⟩:=I.tuple g;obtain⟨as,q⟩:=oM.reads I j c;exact⟨_,.tuple e m hd (by simpa using q)⟩
 | .dict kvs,v,u,h,r=>dL.reads I (d:=.dict kvs) (by unfold dL;unfold uC at h;exact h) r
theorem oM.reads(I:Y4):∀{ds:Y0Y}{vs:Al}{us:Ag},oM X.K H ds vs->Y92->∃as,ReadsAll s.heap us ds as
 | [],_,us,h,r=>by
  cases(show _=[]from h);cases r;exact⟨_,.nil⟩
 | d::ds,_,us,h,r=>by
  unfold oM at h;obtain⟨x,xs,rfl,h1,h2⟩:=h;cases r with
  | cons r1 r2 =>
   obtain⟨as,c⟩:=uC.reads I h1 r1;obtain⟨bs,a⟩:=oM.reads I h2 r2;exact⟨_,.cons c a⟩
end
end
@[irreducible] def aA9(K:Aa)(b:Bool):R2:=λx y H Q=>∃d d',uC K H d x/\uC K H d' y/\Y5d d/\Y5d d'/\Y2r (b == Ygy d)
section
variable{X:Cx}
def aEU(K:Aa)(hu:Ydw 64<cLine)(hK:X.K=K:=by rfl):Y30 .NotEq (aA9 K false):=by
 subst hK;unfold aA9;intro a s σ H x y v u Q I n i h;obtain⟨d,p,j,l,g,m,q⟩:=h;obtain⟨r,e⟩:=j.reads I n;obtain⟨bs,c⟩:=l.reads I i;exact SeqAt.compareNe_shaped e c g m hu ⟨.bl _,H,I,by show _=_;simp,q⟩
end
section
variable{K:Aa}{H:Hp}{p:Addr}{xs:Al}{i:Int}{v:V}{Q:VK}
def reK{b:Bool}{x y:V}{d d':PyData}(h1:uC K H d x)(h2:uC K H d' y)(s1:Y5d d)(s2:Y5d d')(q:Y2r (b == Ygy d)):aA9 K b x y H Q:=by
 unfold aA9;exact⟨d,d',h1,h2,s1,s2,q⟩
def nZ(h:jV K H p xs)(e:EA xs i=Yn)(q:Q v H):rIx K (Y1G) (Y17) H Q:=Ya8 ⟨p,xs,i,v,rfl,rfl,h,e,q⟩
end
def HU(xs:Al)(k:Nat):nE xs (some (k:Int)) none=xs.drop k:=by
 unfold nE;rw[HT.GN,HT.wZ];by_cases h:Yfo k
 ·rw[Nat.min_eq_left h];exact List.take_of_length_le (by rw[List.length_drop];exact Yy)
 ·rw[Nat.min_eq_right Oo,List.drop_of_length_le (Yy),List.drop_of_length_le Oo,List.take_nil]
def RD(xs:Al)(k:Nat):nE xs none (some (k:Int))=xs.take k:=by
 unfold nE;rw[HT.GN,HT.wZ,List.drop_zero,Nat.sub_zero];by_cases h:Yfo k
 ·rw[Nat.min_eq_left h]
 ·rw[Nat.min_eq_right Oo,List.take_of_length_le (Yy),List.take_of_length_le Oo]
@[irreducible] def aA4(K:Aa):V->Y0X->Y8P:=aGk K
def wY{X:Cx}(K:Aa)(h:X.K=K:=by rfl):SlR X (aA4 K):=by subst h;unfold aA4;exact PD
def slL{K:Aa}{H:Hp}{a:Addr}{xs ys:Al}{lo hi:Y0X}{Q:VK}(h:H a=Y0A)(e:nE xs lo hi=ys)(k:∀q H',H q=none->H' q=Y05->Y1->Y7S):aA4 K (Yf) lo hi H Q:=by
 unfold aA4;exact Y0Z a xs YaA (λp c=>by rw[e];exact k p _ c bK (aT.upd c))
section
variable{σ:St}{js:Ae}{te:TE}{H:Hp}{Q:VK}
def BP{R:YaF V}{ys:Al}{y:V}(h:∀(j:Nat) z,ys[j]?=Y8X->R j z)(r:R ys.length y):∀(j:Nat) z,(ys++[y])[j]?=Y8X->R j z:=λj z a=>by
 by_cases hji:j<ys.length
 ·rw[cN hji]at a;exact h j z a
 ·rw[cF Oo]at a;have:j-ys.length=0:=by
   by_cases q:j-ys.length=0
   ·exact q
   ·rw[cB (by simp;exact Oo)]at a;cases a
  rw[this]at a;have c:y=z:=by simpa using a
  have:j=ys.length:=Oo;subst this c;exact r
def yS{J:It}{n:Nat}(src:YaF V)(R:Nat->Y3K)(hR:YaH (R i y H1->R i y H2))(hz:YaB n)
  (hg:∀i H',Y1->i<n->Yam H'/\∀x H3,Y6c i H' x->H3=H'/\src i x) (hst:∀H',Y1->YhE n)
  (hs:∀i x H' (Q':VK),src i x->i<n->Y1->(∀y H5,Y7D->R i y H5->Q' y H5)->te YaX H' Q')
  (hd:Y2Q (H D=none) (Y0x=Y05->Y1->Y9s->(∀(i:Nat) (y:V),Y19=Y03->R i y H')->Y0Q)):qC J σ js BJ te H Q:=by
 refine KR (J:=J) (n:=n) src hz (λD i ys H'=>H D=none/\Y1/\∀(i:Nat) (y:V),Y19=Y03->R i y H') (λD H1 a _ s=>Y2s s (λi y h=>by simp at h))
  (λD i ys H' d _ p=>hg i H' p.2.1 d) (λD ys H' _ p=>hst H' p.2.1) (λD i x ys H' w d g a p=>?_) (λD ys H' g a e p=>hd D ys H' a e p.2.1 g p.2.2)
 refine hs i x H' _ w d p.2.1 λy H5 c r=>⟨c _ _ a,λH6 u l=>Y0n p.1 (aT.thru p.1 (p.2.1.trans c) l)⟩;have m:=l.t (c _ _ a);exact BP (R:=λj z=>R j z H6) (λj z A=>hR j z _ _ (c.t.trans m) (p.2.2 j z A)) (by rw[g];exact hR i y _ _ m r)
def fH{K:Aa}{a:Addr}{xs:Al}(R:Nat->Y3K)(hR:YaH (R i y H1->R i y H2))(hz:Yh6)(hl:H a=Y0A)
  (hs:∀i x H' (Q':VK),Y0s=Yb->Y1->(∀y H5,Y7D->R i y H5->Q' y H5)->te YaX H' Q')
  (hd:Y2Q (H D=none) (Y0x=Y05->Y1->Y72 xs.length->(∀(i:Nat) (y:V),Y19=Y03->R i y H')->Y0Q)):qC (Itl K a) σ js BJ te H Q :=
 yS (λi x=>Y0s=Yb) R hR hz (λi H' s c=>YdV ⟨xs,xs[i],gJ.of (s _ _ hl),by simp[c]⟩ ⟨y.1,y.2 xs (gJ.of (s _ _ hl))⟩) (λH' s=>YcL xs (gJ.of (s _ _ hl)))
  (λi x H' Q' d _ s k=>hs i x H' Q' d s k) hd
def vC{K:Aa}{a:Addr}{xs:Al}(R:Nat->Y3K)(hR:YaH (R i y H1->R i y H2))(hz:Yh6)(hl:H a=Y11)
  (hs:∀i x H' (Q':VK),Y0s=Yb->Y1->(∀y H5,Y7D->R i y H5->Q' y H5)->te YaX H' Q')
  (hd:Y2Q (H D=none) (Y0x=Y05->Y1->Y72 xs.length->(∀(i:Nat) (y:V),Y19=Y03->R i y H')->Y0Q)):qC (Itt K a) σ js BJ te H Q :=
 yS (λi x=>Y0s=Yb) R hR hz (λi H' s c=>YdV ⟨xs,xs[i],jV.of (s _ _ hl),by simp[c]⟩ ⟨y.1,y.2 xs (jV.of (s _ _ hl))⟩) (λH' s=>YcL xs (jV.of (s _ _ hl)))
  (λi x H' Q' d _ s k=>hs i x H' Q' d s k) hd
def kU{lo:Int}{n:Nat}(R:Nat->Y3K)(hR:YaH (R i y H1->R i y H2))(hz:YaB n)
  (hs:∀i H' (Q':VK),i<n->Y1->(∀y H5,Y7D->R i y H5->Q' y H5)->te ((Yd (lo+(i:Nat))) :: Y51) H' Q')
  (hd:Y2Q (H D=none) (Y0x=Y05->Y1->Y9s->(∀(i:Nat) (y:V),Y19=Y03->R i y H')->Y0Q)):qC (Itr lo n) σ js BJ te H Q :=
 yS (λi x=>x=(.int (lo+(i:Nat)))) R hR hz (λi H' s a=>YdV a y) (λH' s=>Yy)
  (λi x H' Q' c a s k=>by subst c;exact hs i H' Q' a s k) hd
def aU.thru{p l:Addr}{H0 H1 H2:Hp}(hl:H0 l=none)(s:aU p H0 H1)(b:aU l H1 H2):aU p H0 H2:=λc o e=>by
 have n:=kL.ne e;have a:H0 c=Y9:=by rw[kL.at n]at e;exact e
 have d:c≠l:=λz=>by subst z;rw[hl]at a;cases a
 exact kL.of n (b.at d (s.at n a))
end
theorem bJ.ofIdx{H:Hp}:∀{ds:Y0Y}{ys:Al},Y72 ds.length->(∀(i:Nat) (y:V),Y19=Y03->∃d,ds[i]?=some d/\Y5F y)->Yac ys
 | [],[],_,_=>bJ.nil
 | d::ds,y::ys,hl,h=>by
  obtain⟨d',e,r⟩:=h 0 y rfl;cases(show d=d' by simpa using e);exact bJ.cons r (bJ.ofIdx (by simpa using hl) λi z a=>by simpa using h (i+1) z (by simpa using a))
 | [],_::_,hl,_=>by simp at hl
 | _::_,[],hl,_=>by simp at hl
theorem nH{P:YaF Int}:∀{ys:Al},(∀(i:Nat) (y:V),Y19=Y03->∃n,y=Y4G/\P i n)->∃ns:Af,ys=Y4X/\∀(i:Nat) n,ns[i]?=Y6l->P i n
 | [],_=>⟨[],rfl,λi n h=>by simp at h⟩
 | y::ys,h=>by
  obtain⟨n,rfl,hn⟩:=h 0 y rfl;obtain⟨ns,rfl,c⟩:=nH (P:=λi=>P (i+1)) (ys:=ys) λi z d=>h (i+1) z (by simpa using d);refine⟨n::ns,rfl,λi m a=>?_⟩;cases i with
  | zero=>cases(show n=m by simpa using a);exact hn
  | succ i=>exact c i m (by simpa using a)
end L2
namespace L2
open PySem PySem.Spec PyProof.Rows
def jB.u1{k:Nat}{A:Around}(r:jB k A):Y6g 1<cLine:=by have:=r.units;exact Oo
@[irreducible] def rDG:R2:=λx y H Q=>∃a v,x=Yf/\oQ H a y (Yn)/\Q v H
@[irreducible] def rDP(D:qL)(σ:St)(x y v:V)(H:Hp):Prop:=∃a H4,x=Yf/\IH H a y v H4/\Y8m H4
def aCJ(td ty tv:TE):TS:=λD σ H=>tv σ H λv H1=>td σ H1 λx H2=>ty σ H2 λy H3=>rDP D σ x y v H3
structure aCu(X:Cx)(pos:Pos)(keys:YeI)(values:Y0b)(trs:Yb4):Prop where p:PPs X pos keys values trs
section
variable{X:Cx}{o i value k v:Expr}{td ty tv tk:TE}{pos pos':Pos}{ks:YeI}{vs:Y0b}{trs:Yb4}
def gY(hu:Y6z<cLine)(ho:Yp o td)(hi:Yp i ty)(hs:aFK i:=by intro _ _;rfl):Yp (Y73 o i) (tOp rDG td ty):=⟨by unfold rDG;exact aBs hu ho.p hi.p hs⟩
def jC(hu:Y6z<cLine)(ho:Yp o td)(hi:Yp i ty)(hv:Yp value tv)(hs:YhQ (Ygh o i)=Y3v:=by rfl) :
  IK X (Ydx [Ygh o i] value) (aCJ td ty tv):=⟨by unfold aCJ rDP;exact aBj hu ho.p hi.p hv.p hs⟩
def aAH:aCu X pos [] [] []:=⟨pps_nil⟩
def BD(hk:Yp k tk)(hv:Yp v tv)(hr:aCu X pos ks vs trs):aCu X pos (YaL::ks) (v::vs) ((tk,tv)::trs):=⟨XH hk.p hv.p hr.p⟩
def aAL(h:aCu X pos ks vs trs)(hall:ks.all (·.isSome)=true:=by rfl)(hl:Yhu ks.length:=by rfl)(h0:ks≠[]:=by intro h;cases h)(h15:ks.length<=15:=by decide):Yp (YeK ks vs) (aCI trs):=⟨aBr h.p hall hl h0 h15⟩
end
def dgS{H:Hp}{p:Addr}{kvs:Y2j}{x:Str}{v:V}{Q:VK}(e:H p=YcG)(hv:Y8u (.inr x)=Yn)(q:Q v H):rDG (Y1G) (YaP) H Q:=by
 unfold rDG;exact⟨p,v,rfl,hv ▸ oQ.k (k:=.inr x) e,q⟩
def dpS{H:Hp}{p:Addr}{kvs kvs2:Y2j}{x:Str}{v:V}{D:qL}{σ:St}(e:H p=YcG)(hl:Y5Y 64)(hk:kG kvs (.inr x) v=kvs2)(q:∀H',Y34=Y9X kvs2->Y0R->Y8m H') :
  rDP D σ (Y1G) (YaP) v H:=by
 unfold rDP;exact Y0Z p _ (IH.k (k:=.inr x) e (aI hl Dd)) (q _ (by rw[hk];exact bK) aU.self)
def aU.tD{H H':Hp}{p:Addr}(s:Y0R){xs:Y2j}(hp:H p=Y9X xs):Y28:=Ygz (sX h hp (by intro z;cases z)) h
section
variable{σ:St}{js:Ae}{te:TE}{H:Hp}{Q:VK}
end
structure OH(p L:Addr)(Fd:Yf5):Prop where
 but:∀n D H1 H2,D≠p->D≠L->aU D H1 H2->Fd n H1->Fd n H2
 same:∀n H1 H2,aT H1 H2->Fd n H1->Fd n H2
 dic:∀n H',Fd n H'->∃xs,Y34=Y9X xs
 np:∀n H' D,Fd n H'->Y0x=none->D≠p/\D≠L
section
variable{σ:St}{js:Ae}{te:TE}{H:Hp}{Q:VK}
def aB5{J:It}{n:Nat}{p L:Addr}{Fd:Yf5}(fl:OH p L Fd)(F0:Fd 0 H)(src:YaF V)(R:Nat->Y3K)(hR:YaH (R i y H1->R i y H2))(hz:YaB n)
  (hg:∀i H',Y0R->i<n->Yam H'/\∀x H3,Y6c i H' x->H3=H'/\src i x) (hst:∀H',Y0R->YhE n)
  (hs:∀i x H' (Q':VK),src i x->i<n->Fd i H'->Y0R->(∀y H5,Fd (i+1) H5->aU p H' H5->R i y H5->Q' y H5)->te YaX H' Q')
  (hd:Y2Q (H D=none) (Y0x=Y05->Fd n H'->Y0R->Y9s->(∀(i:Nat) (y:V),Y19=Y03->R i y H')->Y0Q)):qC J σ js BJ te H Q:=by
 refine KR (J:=J) (n:=n) src hz (λD i ys H'=>H D=none/\Fd i H'/\Y0R/\∀(i:Nat) (y:V),Y19=Y03->R i y H') (λD H1 c _ s=>⟨c,fl.same _ _ _ s F0,s.but,λi y h=>by simp at h⟩)
  (λD i ys H' g _ q=>hg i H' q.2.2.1 g) (λD ys H' _ q=>hst H' q.2.2.1) (λD i x ys H' B g m c q=>?_) (λD ys H' m c l q=>hd D ys H' c l q.2.1 q.2.2.1 m q.2.2.2)
 obtain⟨np,A⟩:=fl.np _ _ _ F0 q.1;refine hs i x H' _ B g q.2.1 q.2.2.1 λy H5 F5 e r=>?_;obtain⟨I,C⟩:=fl.dic _ H' q.2.1;have a:=e.at np c;refine⟨a,λH6 w d=>Y1R q.1 (fl.but _ D _ _ np A d F5) (aU.thru q.1 (q.2.2.1.trans e) d)⟩;have u:=d.t a;exact BP (R:=λj z=>R j z H6) (λj z G=>hR j z _ _ ((e.tD C).trans u) (q.2.2.2 j z G)) (by rw[m];exact hR i y _ _ u r)
def xM{lo:Int}{n:Nat}{p L:Addr}{Fd:Yf5}(fl:OH p L Fd)(F0:Fd 0 H)(R:Nat->Y3K)(hR:YaH (R i y H1->R i y H2))(hz:YaB n)
  (hs:∀i H' (Q':VK),i<n->Fd i H'->Y0R->(∀y H5,Fd (i+1) H5->aU p H' H5->R i y H5->Q' y H5)->te ((Yd (lo+(i:Nat))) :: Y51) H' Q')
  (hd:Y2Q (H D=none) (Y0x=Y05->Fd n H'->Y0R->Y9s->(∀(i:Nat) (y:V),Y19=Y03->R i y H')->Y0Q)):qC (Itr lo n) σ js BJ te H Q :=
 aB5 fl F0 (λi x=>x=(.int (lo+(i:Nat)))) R hR hz (λi H' s a=>YdV a y) (λH' s=>Yy)
  (λi x H' Q' c a f s k=>by subst c;exact hs i H' Q' a f s k) hd
end
def aAo(K:Aa)(a:Addr)(n:Nat):It :=
 ⟨Ygs (Y6H/\Y54 n/\i<n/\Y1Q (n-1-i)=Yb),λi H x H'=>H'=H/\∀xs,Y6H->Y1Q (n-1-i)=Yb,λi H=>i=n⟩
def VP{P:Program}{w:World}{K:Aa}{tg:Expr}(a it:Addr)(n:Nat):EB P w K tg (aAo K a n) [it] it (λi h=>h.IsRevIter it a ((n:Int)-1-(i:Nat))) where
 mem:=by simp
 obj:=λi h st b l=>by
  have e:b=it:=by simpa using l
  subst e;obtain⟨o,e,c,d⟩:=st;exact Y6P (λv z=>by rw[d]at z;cases z)
 keep:=λi h r st k=>st.at (YcM it (by simp) o e)
 item:=by
  intro X D L M O i g s σ H E I m st C;subst D L M;obtain⟨η,x,N,ζ,S,R⟩:=C;obtain⟨Y,rv,p,θ⟩:=I.list N;obtain⟨u,δ,ru⟩:=rv.get R;obtain⟨B,y,α,A,G,J⟩:=m it (by simp);have β:(n:Int)-1-(i:Nat)=((n-1-i:Nat):Int):=Oo;have st:s.heap.IsRevIter it a ((n:Int)-1-(i:Nat)):=st;rw[β]at st;refine wpAny_pyNext_rev_item st p.isList (x:=u) (by simpa using δ) λr j T=>?_;have I1:Y4T g ({ s with heap:=r }):=Yho ((T.2 b l).trans e) B y A G J;have Z:((n-1-i:Nat):Int)-1=(n:Int)-1-((i+1:Nat):Int):=Oo;rw[Z]at j;obtain⟨o,e,c,d⟩:=id j;exact Yx u (QL (s:={ s with heap:=r }) e c d Dd ⟨x,H,I1,ru,Y3 (λε γ=>by rw[I.list_inj γ N];exact R),j,λb l=>(m b l).1⟩)
 done:=by
  intro X D L M O i g s σ H E I m st C;subst D L M;have S:i=n:=C;subst S;obtain⟨B,y,α,A,G,J⟩:=m it (by simp);have st:s.heap.IsRevIter it a ((i:Int)-1-(i:Nat)):=st;rw[show(i:Int)-1-(i:Nat)=-1 by exact Oo]at st;exact wpAny_pyNext_rev_end (I.ok.hd O) st λr U=>Y3 (Yho (U b o l e) B y A G J)
 self:=λ_ _ _ _ _ st h=>wpAny_pyIter_revIter st h
def aIZ(K:Aa)(ta:TA):TI:=YeD σ H (∃l xs,vs=[Y0G]/\gJ K H1 l xs/\R (aAo K l xs.length) H1)
def UK:Yia "reversed"=YiO "reversed":=Kk
section
variable{X:Cx}{tg:Expr}
def VD{a:Expr}{ta:TA}{p pos:Pos}(hg:Gl X "reversed")(hm:X.mg "reversed" = none)(ha:LO X [a] ta)(hs:Y2H a=[(false,Y7P)]:=by first | exact pW | exact pX | exact iO | rfl) :
  OD X tg (Y8z "reversed" p [a] []) (aIZ X.K ta):=⟨by
 intro c s σ H R I h;refine Call_ (vW I hg hm UK (Ybj (ha.p pos c s σ H _ I h) (λz d ⟨y,H1,I1,w,n⟩=>?_) (by rw[hs];rfl) (by rfl)));obtain⟨l,j,e,r,q⟩:=n;subst e;obtain⟨u,rfl,ru⟩:=nO w;cases ru;obtain⟨g,rv,p,B⟩:=I1.list r;have A:=rv.length;refine call_reversed_list p.isList ?_;have e:((g.toArray.size:Nat):Int)-1=(j.length:Int)-1-((0:Nat):Int):=by simp;exact Oo
 rw[e];refine wpAny_pyIter_revIter (l:=l) (i:=(j.length:Int)-1-((0:Nat):Int)) (YaG _) ⟨d.heap.objs.size,YiH,_,_,H1,rfl,Yhp Y2n,VP l _ j.length,YaG _,λb m=>?_,q⟩;have e:Yj9 b:=by simpa using m
 subst e;exact I1.fpOk Yy (I1.hok.fresh Yy)⟩
end
def QR{K:Aa}{a:Addr}{xs:Al}{g:TG}{tb:TS}{D:qL}{σ:St}{H:Hp}(Pv:Nat->Y1I)(h0:Y65 0)(hl:∀i σ H,Y6y->Y2F->Y6H)
  (hs:∀i x σ H,Y3J->Y1Q (Y3y 1-i)=Yb->Y2F->g x σ H (Y45 ({ D with nx:=Pv (i+1),ct:=Pv (i+1),bk:=D.nx }))) (hd:∀σ H,Ygp->Y3l) :
  ∃W:Nat->Nat->St->Hp->Prop,(Ybd H)/\∀i m σ H,W i m σ H ->
   ((aAo K a xs.length).stop i H/\Y3l)\/((aAo K a xs.length).go i H/\∃N:St->Hp->Prop,Yah (N σ' H'->∃m',m' < m/\W (i+1) m' σ' H') ((aAo K a xs.length).yld i H x H'->g x σ H' (Y45 ({ D with nx:=N,ct:=N,bk:=D.nx })))):=by
 refine YbM (m=Y3y i/\Y6y/\Y2F) ⟨xs.length,by simp,Y0l,h0⟩;rintro i m σ H ⟨rfl,c,p⟩;have q:=hl i σ H c p;by_cases hlt:Y3J
 ·have d:Y1Q (Y3y 1-i)=some (xs[xs.length-1-i]'Oo):=Y6v;refine .inr ⟨Y68 xs _ q hlt d,Pv (i+1),λσ' H' h=>Y0Z (Y3y (i+1)) Oo hlt h,Ygi⟩;obtain⟨e,y⟩:=y;subst e;exact hs i x σ _ hlt (y xs q) p
 ·have e:Y3V i:=Oo;subst e;exact .inl (Y3 (hd σ H p))
structure eK(X:Cx)(scope:Scope)(xs:Ah)(N':Ah)(js:Ae):Prop where
 calm:Y1d
 free:∀y∈scope.names,Y4d y.2->YaE y.1
 cell:∀y∈scope.names,y.2 ≠ .cell
 kind:Yjn
 names:∀y∈scope.names,y.2=.local->Y4E y.1
 own:∀x∈xs,Y4E x
 nofl:∀y,Y5S (y,NameKind.free)->Y4E y->False
 len:N'.length=Y8o js.length
 pre:∀(i:Nat) x,Y0s=Yb->N'[i]?=Yb
 nd:N'.Nodup
 slot:∀(i:Nat) (j:Nat),js[i]?=Y5g->∃y,N'[Y8o i]?=Y03/\X.N[j]?=Y03/\Y5S (y,NameKind.free)
def HK:Nat->Nat->TGs
 | _,0=>aFl
 | i,n+1=>YU (oK i) (HK (i+1) n)
def gN(K:Aa)(n:Nat):TG:=aFk K n (HK 0 n)
theorem CU{H:Hp}{r:St}{Q:Y1I}:∀(vs:Al) (pre os:St),Yhu os.length->Q (pre++((vs.map some) ++ r)) H->HK pre.length vs.length vs (pre++(os++r)) H Q
 | [],pre,[],_,q=>⟨rfl,q⟩
 | v::vs,pre,o::os,hl,q=>by
  refine⟨v,vs,rfl,?_⟩;show HK (pre.length+1) vs.length vs ((pre++(o::os++r)).set pre.length (some v)) H Q;have e1:(pre++(o::os++r)).set pre.length (some v)=(pre++[some v])++(os++r):=by
   rw[List.set_append_right _ _ (aM _),Nat.sub_self,List.append_assoc];rfl
  have a:pre.length+1=(pre++[some v]).length:=by rw[aW];rfl
  rw[e1,a];refine CU vs (pre++[some v]) os (by simpa using hl) ?_;rw[List.append_assoc];exact q
@[irreducible] def vP(K:Aa)(n:Nat)(J:It)(σ:St)(js:Ae)(tc:TT)(te:TE)(H1:Hp)(Q:VK):Prop:=∀D,H1 D=none->∃W:Nat->Nat->Al->Hp->Prop,(∃m,W 0 m [] (Ybh H1 D [])) /\
 ∀i m ys H2,W i m ys H2->H2 D=Y05/\((Yd7/\Y99 D)\/(Yd8/\YbH/\∀x H3,Y6c i H2 x->∃a vs,x=Yf/\jV K H3 a vs/\Y5V n /\
  vJ tc (Y6i) H3 λb H4=>if b=true then BK te (Y6i) H4 λy H5=>H5 D=Y05/\∃m',m' < m/\W (i+1) m' (ys++[y]) (Ybf [y])
   else H4 D=Y05/\∃m',m' < m/\W (i+1) m' ys H4))
def BL(K:Aa)(n:Nat)(wi:TI)(js:Ae)(tc:TT)(te:TE):TE:=λσ H Q=>wi σ H λJ H1=>vP K n J σ js tc te H1 Q
section
variable{X:Cx}{pins:Ad}{σ:St}{H:Hp}{s:Shared}{scope:Scope}{xs:Ah}{N':Ah}{js:Ae}{fp:Y0m}
theorem eK.cells(S:Y6p)(ok:X.Ok):∀y∈scope.names,Y4d y.2->Yey y.1:=Yjz _ (.inl (S.free y a d))
def aB1(S:Y6p)(I:Y4)(hf:∀b∈fp,Y2V)(hb:∀b∈fp,Y7Q):(Ybt X s H).Ok where
 mod:=I.ok.mod
 kind:=S.kind
 glob:=I.ok.glob
 blt:=I.ok.blt
 above:=Yy
 inj:=λy z c m d=>I.ok.inj y z c (Y4u m) (Y4u d)
 has:=λy g=>by
  have i:Y5S (y,NameKind.free):=by
   rcases g with g | g
   ·exact Yga X.env g Y36
   ·exact Yga X.env g Y7e
  obtain⟨c,l⟩:=S.cells I.ok _ i rfl;exact⟨c,Y7g i l⟩
 cab:=λ_ _ h=>by cases h
 hd:=λ_=>I.ok.hd S.calm
 frames:=I.ok.frames
 stk:=Y36
 exf:=λb a=>⟨λe=>by have:=hb b a;rw[e]at this;exact Y1y,λy c h=>(hf b a).2.2.2.2.1 y c (Y4u h)⟩
 bs:=I.bs
 bsz:=Ya9 I.sz
 noex:=λb o e a=>by
  rcases(hf b a).2.2.2.1 with h | h
  ·exact I.ok.noex b o e h
  ·exact absurd (aO Y18 (Ya9 h)) (bS _)
 exfs:=λb a j=>by
  have d:=Yhe j;rcases bN.mp d with d | d
  ·exact(hf b a).2.1 d
  ·exact(hf b a).2.2.1 d
 funs:=I.stack
 frf:=I.stkFree
def ZI{h':Heap}{tk:Nat}(S:Y6p)(I:Y4)(hf:∀b∈fp,Y2V)(hb:∀b∈fp,Y7Q)
  (hn:h'.Ns s.heap.objs.size YdG) (hk:YaI (Y0T=Y9)):cU (Ybt X s H) [] (List.replicate xs.length none++Y51) H { s with heap:=h',toks:=tk } where
 ok:=aB1 S I hf hb
 os:=rfl
 bare:=I.bare
 base:=Ykz
 loc:=by
  refine Y0C hn (λi y v Y G a=>?_);by_cases hlt0:Y3J
  ·rw[cN (by rw[bM];exact hlt0),List.getElem?_replicate,if_pos hlt0]at G;cases G
  ·obtain⟨i,rfl⟩:∃k,i=Y8o k:=Y1N (i-xs.length);rw[cF (by rw[bM];exact Oo),bM,Nat.add_sub_cancel_left]at G;have d:(Y51)[i]?=Y8v:=G;have N:Ycd i:=by
    have:=(Yay).1;unfold slots at this
    rwa [aA]at this
   have P:js[i]?=some js[i]:=aC N;obtain⟨z,R,α,j⟩:=S.slot i _ P;have J:z=y:=by
    have:N'[Y8o i]?=Y03:=Y;rw[R]at this;cases this;rfl
   subst J;rw[yE P]at d;have β:σ[js[i]]?=Y8v:=by
    cases q:σ[js[i]]? with
    | none=>rw[q]at d;cases d
    | some o=>rw[q]at d;cases d;rfl
   have A:YaE z:=S.free _ j rfl;obtain⟨m,δ,Z⟩:=I.loc;obtain⟨u,ru,U⟩:=Z _ z v α β (Ya8 A);rcases U with⟨D,_⟩ | ⟨_,c,O,g⟩
   ·rw[A]at D;cases D
   ·refine YeQ u ru (Y1R ?_ c (Y7g j O))
    ·rcases a with a | a | a
     ·exfalso;have γ:=Y7g j O;have B:=pM (l:=(YjZ X.env).names) a;unfold relabel at B;obtain⟨⟨n,k⟩,w,C⟩:=aN.mp B;dsimp only at C;by_cases hq:(Yja k&&YjH&&Yjg == Y2e)=true
      ·rw[if_pos hq]at C;cases C
      ·rw[if_neg hq]at C;cases C;have:=S.names _ w rfl;have M:=pL j;obtain⟨ε,M⟩:=M;dsimp only at this;rw[this]at M;have W:(relabel scope X.env).names.lookup z=Y35:=Yid;have L:Y4E z:=this;exact S.nofl z j L
     ·exact YaK
     ·exact .inr a
    ·obtain⟨o,e,r⟩:=g;exact Y3c (hk _ _ e) r
 cell:=λy c h=>by
  obtain⟨v,o,e,r⟩:=YbV y (Y4u h);exact⟨v,o,hk _ _ e,r⟩
 free:=Y2D
 freeC:=λy c h=>Y8E y (Y4u h)
 pin:=λp T=>by cases T
 hok:=Yjv
 len:=by
  rw[aW,bM];unfold slots;rw[aA];exact S.len.symm
def FK{H2:Hp}{σ':St}{s2:Shared}{h'':Heap}(S:Y6p)(I:Y4)(hf:∀b∈fp,Y2V)
  (J:Y4Q (Ybt X s H) [] H2 s2) (hs:Heap.SameBut s.heap.objs.size s2.heap h''):Y4m H2 ({ s2 with heap:=h'' }):=by
 have h:Yiz=none:=J.free;have ne:∀{b:Addr} {o:Obj},Y3g->Ybv b:=λe q=>by
  have:=Y18;rw[q]at this;exact Y1y
 refine Yii ({ s2 with heap:=h'' }) fp (by rw[show({ s2 with heap:=h'' }:Shared).os=s2.os from rfl];exact J.os) ?_ h (Ykq u a q) J.bare (λb a=>⟨(hf b a).2.2.2.1,(hf b a).2.1,(hf b a).2.2.2.2.1,(hf b a).2.2.2.2.2⟩);have U:=J.base;exact {
  keep:=λb o e n d c=>hs.extBut b o (ne e) (U.keep b o e n d c)
  slot:=λb o e n d c=>by
   obtain⟨sl,q⟩:=U.slot b o e n d c;exact⟨sl,hs.extBut b _ (ne e) q⟩
  free:=U.free
  there:=λb o e c=>by
   obtain⟨g,q⟩:=U.there b o e c;exact⟨g,hs.extBut b _ (ne e) q⟩
  tups:=U.tups
  frzs:=U.frzs
  tbls:=U.tbls }
end
section
variable{X:Cx}{pins:Ad}{σ:St}{H:Hp}{s:Shared}{scope:Scope}{xs:Ah}{N':Ah}{js:Ae}{fp:Y0m}{elt iter:Expr}{px pos:Pos}{tg:Expr}{ifs:Y0b}{tc:TT}{te:TE}
def zO{J:It}{it:Addr}{tn:Nat->Y3W}{RR:Y8j (Addr->Ycx)}{E:Yc}{Q:VK}
  (S:Y6p) (I:Y4) (T:EB X.prog X.w X.K tg J fp it tn) (h0:Yce 0) (hf:∀b∈fp,Y2V)
  (hg:YiQ (oF X scope C fp s₀ H₀ N') tg (Ykt X.K)) (ht:Ydc) (he:Ydb)
  (R:∀D,H D=none->∃W:Nat->Nat->Al->Hp->Prop,(∃m,W 0 m [] (Y47 D [])) /\
   ∀i m ys H2,W i m ys H2->H2 D=Y05/\((Yd7/\Y99 D)\/(Yd8/\YbH/\∀x H3,Y6c i H2 x->∃a vs,x=Yf/\jV X.K H3 a vs/\Y5V xs.length /\
    tc (Y6i) H3 λb H4=>if b=true then te (Y6i) H4 λy H5=>H5 D=Y05/\∃m',m' < m/\W (i+1) m' (ys++[y]) (Ybf [y])
     else H4 D=Y05/\∃m',m' < m/\W (i+1) m' ys H4)))
  (hRR:∀(D:Addr) (H3:Hp) (s3:Shared) (σ':St) (H':Hp) (s':Shared),Y4m H3 s3->(∀b∈fp,kW X pins H3 b)->Y4Q (oF X scope s3.heap.objs.size fp s3 H3 N') [] H' s'->Y0Q->Yj0 Y4F (.ok .next) s') :
  wpAny (Y3U) X.A (newList []) (λacc s₃=>wpAny (Y3U) X.A (Ygd scope X.env.globals Y9y [] X.env.qual none .none X.env) (λcenv s₄ =>
   codeAny (Y3U) X.A (Ygr (Y74 [Y6N tg]) 0 acc ({ cenv with scope:=relabel scope X.env })) (YjK acc) s₄) E s₃) E s:=by
 have Y:∀b∈fp,Y7Q:=λb Y=>by
  obtain⟨o,e,_⟩:=T.obj 0 _ h0 b Y;exact Y18
 refine wpAny_newObj_type (wpAny_newFunctionEnv S.cell (by intro y η;simp at η) (λU O L=>?_) S.kind);have β:YfM=none:=Y2D;obtain⟨W,⟨m0,γ⟩,hW⟩:=R _ β;have I3:Y4m (YhW H (.lst [])) ({ s with heap:=s.heap.push { cls:=.type "list",dict:=none,data:=.seq ([]:Ag).toArray } }):=Yi9 [] [] .nil Y0l;have j:∀b∈fp,kW X pins (YhW H (.lst [])) b:=λb c =>
  ⟨by rw[eP (λe=>by have:=Y b c;rw[e]at this;exact Y1y)];exact(hf b c).1,(hf b c).2⟩
 have μ:∀b∈fp,b<(s.heap.push { cls:=.type "list",dict:=none,data:=.seq ([]:Ag).toArray }).objs.size:=λb c=>by
  rw[fW];exact Nat.lt_succ_of_lt (Y b c)
 have d:Y0W ((s.heap.push { cls:=.type "list",dict:=none,data:=.seq ([]:Ag).toArray }).get? b=Y9) (U.get? b=Y9):=λb o e =>
  L.extBut b o (λq=>by have:=Y18;rw[q]at this;exact Y1y) (Y2n)
 have J4:=ZI (h':=U) (tk:=s.toks+([]:List (Str × Value)).length) S I3 j μ O d;have χ:tn 0 U:=YaQ 0 _ h0 (λb c o e=>d b o (Y2n));have h:codeAny (Y3U) X.A (YgQ [Y6N tg] 0 Y5a Y1r (YeM Y9y ((s.heap.push { cls:=.type "list",dict:=none,data:=.seq ([]:Ag).toArray }).objs.size)))
   (RR (Y1r) (s.heap.push { cls:=.type "list",dict:=none,data:=.seq ([]:Ag).toArray }).objs.size) { s with heap:=U,toks:=s.toks+([]:List (Str × Value)).length }:=by
  refine sQ (λn s'=>∃(i:Nat) (ys:Al) (H2:Hp) (N:St),Y3V N.length/\cU (oF X scope _ fp _ _ N') [] (N++Y51) H2 s'/\tn i s'.heap/\(∀b∈fp,H2 b=none)/\W i n ys H2) ?_ m0 ⟨0,[],_,_,bM,J4,χ,λb c=>(j b c).1,γ⟩;rintro n s' ⟨i,ys,H2,N,ο,J2,υ,f2,w2⟩;obtain⟨hD,G⟩:=hW i n ys H2 w2;have φ:∀b∈fp,kW (oF X scope ((s.heap.push { cls:=.type "list",dict:=none,data:=.seq ([]:Ag).toArray }).objs.size) fp ({ s with heap:=s.heap.push { cls:=.type "list",dict:=none,data:=.seq ([]:Ag).toArray } }) (YhW H (.lst [])) N') [] H2 b:=λb c =>
   ⟨f2 b c,(YbX c).1,Ykr c,.inl c,(YbX c).2,λp δ=>by cases δ⟩
  rcases G with⟨l,κ⟩ | ⟨α,hz,B⟩
  ·refine Y29 (T.done (oF X scope _ fp _ _ N') rfl rfl rfl rfl i [] s' _ H2 UW J2 φ υ l) (λr ω ⟨ν,J5⟩=>?_);subst ν;exact hRR _ _ _ _ _ _ I3 j J5 κ
  ·refine Y29 (T.item (oF X scope _ fp _ _ N') rfl rfl rfl rfl i [] s' _ H2 UW J2 φ υ α) (λr ω ⟨u,ν,hx⟩=>?_);subst ν;refine Y29 hx (λ_ s2 ⟨v,H3,J3,rv,η,ζ,f3⟩=>?_);have θ:∀b∈fp,kW (oF X scope ((s.heap.push { cls:=.type "list",dict:=none,data:=.seq ([]:Ag).toArray }).objs.size) fp ({ s with heap:=s.heap.push { cls:=.type "list",dict:=none,data:=.seq ([]:Ag).toArray } }) (YhW H (.lst [])) N') [] H3 b:=λb c =>
    ⟨f3 b c,(YbY c).1,Yks c,.inl c,(YbY c).2,λp δ=>by cases δ⟩
   have P3:=J3.pinned θ (T.obj (i+1) _ ζ);have g:∀{σ':St} {Hx:Hp} {sx:Shared},Y4Q (oF X scope ((s.heap.push { cls:=.type "list",dict:=none,data:=.seq ([]:Ag).toArray }).objs.size) fp ({ s with heap:=s.heap.push { cls:=.type "list",dict:=none,data:=.seq ([]:Ag).toArray } }) (YhW H (.lst [])) N') ([]++vT fp s2.heap) Hx sx->tn (i+1) sx.heap/\∀b∈fp,Hx b=none:=λψ =>
    ⟨YaQ (i+1) _ ζ (λb c ξ e=>(ψ.pin (b,ξ) (bL _ (bL _ (kH c e)))).1),λb c=>by
     obtain⟨ξ,e,_⟩:=T.obj (i+1) _ ζ b c;exact(ψ.pin (b,ξ) (bL _ (bL _ (kH c e)))).2.1⟩
   obtain⟨a,vs,ev,κ,P,qe⟩:=B v H3 η;subst ev;refine Y29 (hg _ _ _ _ _ _ (N++Y51) H3 (Yf) u (λσ' H'=>σ'=Y6i/\H'=H3) P3 rv (Y6Y a vs κ P ?_)) (λ_ s5 ⟨σ5,H5,J5,e5,e6⟩=>?_)
   ·have:=CU (H:=H3) (r:=Y51) (Q:=λσ' H'=>σ'=Y6i/\H'=H3) vs [] N (by rw[ο,P]) Y4D;rw[P]at this;exact this
   subst e5 e6;refine Y29 (ht _ _ _ _ _ _ _ _ _ J5 qe) (λok s6 ⟨H6,J6,M⟩=>?_);dsimp only at M;by_cases hok:ok=true
   ·rw[Ykx]at M ⊢;refine Y29 (he _ _ _ _ _ _ _ _ _ J6 M) (λy s7 ⟨Z,H7,J7,r7,ε,m',z,τ⟩=>?_);refine Y29 (uW (X:=oF X scope _ fp _ _ N') _ _ _ _ (Y1r) [Z] (Y1r) [y] (λ_ H8=>H8=YhW H7 (.lst (ys++[Z]))) J7 rfl (Y8x r7) (Y1e _ _ _ rfl ε hz rfl)) (λ_ s8 ⟨_,H8,J8,_,e8⟩=>?_);subst e8;obtain⟨ι,ρ⟩:=g J8;exact⟨m',z,i+1,ys++[Z],_,vs.map some,by rw[aA,P],J8.unpinned,ι,ρ,τ⟩
   ·rw[Yky]at M ⊢;obtain⟨_,m',z,τ⟩:=M;obtain⟨ι,ρ⟩:=g J6;exact⟨m',z,i+1,ys,_,vs.map some,by rw[aA,P],J6.unpinned,ι,ρ,τ⟩
 refine Yit h X.A 0 _ _ _ χ h
def JK{wi:TI}(S:Y6p)(hi:Yb0 X tg wi)(hg:YiQ (oF X scope C fp s₀ H₀ N') tg (Ykt X.K))(ht:Ydc)(he:Ydb)
  (hs:∀x,Y4a=Y41:=by intro _;rfl):Y08 (Y74 [Y6N tg]) (BL X.K xs.length wi js tc te):=by
 intro a s σ H Q I h;rw[eval_ListComp];refine Yi5 none rfl hs (lG (S.cells I.ok)) S.kind (Y5O (hi a s σ H _ I h) YjS e);refine Y5O i (λn z ⟨B,fp,A,J,H2,e,I2,T,j,g,R⟩=>?_) e;subst e;refine zO (te:=BK te) (tc:=vJ tc) S I2 T j g hg (λC fp s₀ H₀=>(Y9C).mono) (λC fp s₀ H₀=>(Y9D).mono) (by unfold vP at R;exact R) ?_;intro D H3 w y H' u I3 d J3 q;obtain⟨m,l,_⟩:=J3.loc;exact⟨m,l,λp c=>Y0E Y4F H' (FK S I3 d J3 c) q⟩
def JI{wi:TI}{y:Str}{py spos:Pos}{i:Nat}(S:Y6p)(hN:X.N.Nodup)(hiN:Y2G=Y03)(hy:Y9W y Y35)(hi:Yb0 X tg wi)(hg:YiQ (oF X scope C fp s₀ H₀ N') tg (Ykt X.K))(ht:Ydc)(he:Ydb)
  (hsw:swapsWith (Y74 [Y6N tg]) (some Y3G) spos.line X.env=Yhg) (hs:∀x,Y4a=Y41:=by intro _;rfl) :
  PS X (YgP [Y3G] [Y6N tg] spos) (DV (BL X.K xs.length wi js tc te) (oK i)):=by
 intro d s σ H D0 I h;rw[exec_Assign_Name_used _ _ _ _ hsw];refine Yds Y3R;show wpAny _ X.A (do let _ <-comprehension (.ListComp elt [⟨tg,iter,ifs,0⟩] scope pos) scope X.env _ (newList []) false (eval iter X.env) (some (assign (.Name y py) X.env))) _ _ s;refine wpAny_bind (Y5O (wpAny_comprehension_free (use:=some (YbQ Y3G)) (Q:=λ_ l=>SP X d D0 .next l) rfl hs (lG (S.cells I.ok)) S.kind S.names (Y5O (hi d s σ H _ I h) (λv δ P=>?_) e)) (λ_ l O=>Yfz O) e);refine Y5O P (λβ ζ ⟨it,fp,η,J,H2,e,I2,T,U,M,R⟩=>?_) e;subst e;refine zO (te:=BK te) (tc:=vJ tc) (Q:=λv H'=>oK i v σ H' D0.nx) S I2 T U M hg (λC fp s₀ H₀=>(Y9C).mono) (λC fp s₀ H₀=>(Y9D).mono) (by unfold vP at R;exact R) ?_;intro D H3 w ε H' l I3 G J3 q;obtain⟨m,Z,_⟩:=J3.loc;have IX:cU X d σ H' l:=FK S I3 G J3 (Heap.SameBut.refl ..);have j:Y9M w.heap.objs.size:=λe=>by have:=I3.lt;rw[e]at this;exact Y1y
 show wpAny _ X.A (assign (Y3G) X.env (Y4F)) _ _ _;refine wpAny_assign_Name (yB IX hN hiN (.inl hy) (v:=Y4F) rfl (λY I5 g=>?_) (.inr hy));obtain⟨a,g,L⟩:=g;have r:w.heap.objs.size≠a:=by
  rcases L with rfl | L
  ·exact j
  ·intro e;obtain⟨v,o,u,_⟩:=I3.cell y a L;have:=aZ u;rw[<-e]at this;exact Y1y
 refine⟨m,Z.sameBut g r,λγ B=>Yde _ ?_ q⟩;exact I5.turned (it:=w.heap.objs.size) (t':=Y.toks) (λb o n e=>B.extBut b o n e) J3.free j (.inr I3.sz)
  (λz c α e=>by
   obtain⟨v,o,u,_⟩:=I3.cell z c α;have:=aZ u;rw[e]at this;exact Y1y)
  (λp W e=>by
   have:=aZ (I3.pin p W).1;rw[e]at this;exact Y1y)
end
section
variable{X:Cx}{scope:Scope}{x1 x2 x3 y:Str}{N':Ah}{js:Ae}{elt iter tg:Expr}{ifs:Y0b}{py pos spos:Pos}{tc:TT}{te:TE}{wi:TI}{i:Nat}
def IN{xs:Ah}{k:Nat}{x:Str}{p:Pos}(S:Y6p)(h:Y1Q k=Yb)(C:Addr)(fp:Y0m)(s₀:Shared)(H₀:Hp):PGw (oF X scope C fp s₀ H₀ N') (.Name x p) (oK k) :=
 have l:=S.own x (aE h)
 dE S.nd (S.pre k x h) (.inl (lookup_relabel_local l)) (.inr (lookup_relabel_local l))
def VF{p1 p2 pt:Pos}{kk:Nat}(S:eK X scope [x1,x2] N' js)(C:Addr)(fp:Y0m)(s₀:Shared)(H₀:Hp):PGw (oF X scope C fp s₀ H₀ N') (Y7z [Y7u,Y7v]) (gN X.K 2) :=
 oB rfl (eE (IN S rfl C fp s₀ H₀) (eE (IN S rfl C fp s₀ H₀) lK))
def VG{p1 p2 p3 pt:Pos}{kk:Nat}(S:eK X scope [x1,x2,x3] N' js)(C:Addr)(fp:Y0m)(s₀:Shared)(H₀:Hp):PGw (oF X scope C fp s₀ H₀ N') (Y7z [Y7u,Y7v,.Name x3 p3]) (gN X.K 3) :=
 oB rfl (eE (IN S rfl C fp s₀ H₀) (eE (IN S rfl C fp s₀ H₀) (eE (IN S rfl C fp s₀ H₀) lK)))
def kM{p1 p2 pt:Pos}{kk:Nat}(S:eK X scope [x1,x2] N' js)(hi:Yb1 X (Y7z [Y7u,Y7v]) wi)(ht:∀C fp s₀ H₀,LN (oF X scope C fp s₀ H₀ N') ifs tc)(he:∀C fp s₀ H₀,hJ (oF X scope C fp s₀ H₀ N') elt te)
  (hs:∀x,Y4a=Y41:=by intro _;rfl):Yp (Y74 [Y6N (Y7z [Y7u,Y7v])]) (BL X.K 2 wi js tc te) :=
 ⟨JK S hi.p (λC fp s₀ H₀=>(VF S C fp s₀ H₀).p) (λC fp s₀ H₀=>(Y9C).p) (λC fp s₀ H₀=>(Y9D).p) hs⟩
def SA{p1 p2 p3 pt:Pos}{kk:Nat}(S:eK X scope [x1,x2,x3] N' js)(hi:Yb1 X (Y7z [Y7u,Y7v,.Name x3 p3]) wi)(ht:∀C fp s₀ H₀,LN (oF X scope C fp s₀ H₀ N') ifs tc)(he:∀C fp s₀ H₀,hJ (oF X scope C fp s₀ H₀ N') elt te)
  (hs:∀x,Y4a=Y41:=by intro _;rfl):Yp (Y74 [Y6N (Y7z [Y7u,Y7v,.Name x3 p3])]) (BL X.K 3 wi js tc te) :=
 ⟨JK S hi.p (λC fp s₀ H₀=>(VG S C fp s₀ H₀).p) (λC fp s₀ H₀=>(Y9C).p) (λC fp s₀ H₀=>(Y9D).p) hs⟩
def rS{p1 p2 pt:Pos}{kk:Nat}(S:eK X scope [x1,x2] N' js)(hN:X.N.Nodup)(hiN:Y2G=Y03)(hy:Y9W y Y35)(hi:Yb1 X (Y7z [Y7u,Y7v]) wi)(ht:∀C fp s₀ H₀,LN (oF X scope C fp s₀ H₀ N') ifs tc)(he:∀C fp s₀ H₀,hJ (oF X scope C fp s₀ H₀ N') elt te)
  (hsw:swapsWith (Y74 [Y6N (Y7z [Y7u,Y7v])]) (some Y3G) spos.line X.env=Yhg:=by rfl) (hs:∀x,Y4a=Y41:=by intro _;rfl) :
  IK X (YgP [Y3G] [Y6N (Y7z [Y7u,Y7v])] spos) (DV (BL X.K 2 wi js tc te) (oK i)) :=
 ⟨JI S hN hiN hy hi.p (λC fp s₀ H₀=>(VF S C fp s₀ H₀).p) (λC fp s₀ H₀=>(Y9C).p) (λC fp s₀ H₀=>(Y9D).p) hsw hs⟩
end
def NS(psc scope:Scope)(N:Ah)(xs N':Ah)(js:Ae):Bool :=
 (Y4Z (!(Yas y.2) || Yju y.1 Y2e))&&(Y4Z (!(Y8I y.2)))&&YjW &&
 (Y4Z (!(y.2 == .local) || Y8S y.1))&&(xs.all λx=>Y8S x) &&
 (Y4Z (!(Yas y.2) || !(Y8S y.1)))&&N'.length == Y8o js.length&&N'.take xs.length == xs&&Yj3 &&
 ((List.range js.length).all λi=>match js[i]?,N'[xs.length+i]? with
  | some j,some y=>N[j]? == some y&&scope.names.contains (y,NameKind.free)
  | _,_=>false)
def eK.of{X:Cx}{psc scope:Scope}{N:Ah}{xs N':Ah}{js:Ae}(h:NS psc scope N xs N' js=true)(hX:X.env.scope=psc)(hN:X.N=N)(hc:Y1d):Y6p:=by
 unfold NS at h;simp only[dG]at h;obtain⟨⟨⟨⟨⟨⟨⟨⟨⟨n,r⟩,u⟩,m⟩,l⟩,p⟩,w⟩,B⟩,A⟩,c⟩:=h;rw[List.all_eq_true]at n r m l p c;refine⟨hc,Y53,Y53,by simpa using u,Y53,λx d=>by simpa using l x d,Y53,by simpa using w,λi x d=>?_,of_decide_eq_true A,λi j s=>?_⟩
 ·have:=n y a;rw[e]at this;show YhX y.1 _;rw[hX];simpa using this
 ·have:=r y a;rw[e]at this;simp at this
 ·have:=m y a;rw[e]at this;simpa using this
 ·have:=p _ a;rw[e]at this;simp at this
 ·have z:N'.take xs.length=xs:=by simpa using B
  have g:Y3J:=(Yay).1;rw[<-d]
  conv=>rhs;rw[<-z]
  rw[List.getElem?_take,if_pos g]
 ·have g:Ycd i:=(aB.mp s).1;have:=c i (cD.mpr g);rw[s]at this;cases q:N'[Y8o i]? with
  | none=>rw[q]at this;simp at this
  | some y =>
   rw[q]at this;simp only[dG]at this;exact Yif y (by rw[hN];simpa using this.1) this.2
def eK.o{X:Cx}{scope:Scope}(xs N':Ah)(js:Ae)(h:NS X.env.scope scope X.N xs N' js=true:=by exact Eq.refl true)(hc:Y1d:=by rfl):Y6p:=eK.of h rfl rfl hc
theorem EW{α β:Type}{R:Yb9 β}:∀{l:Yt}{m:Yax}{i:Nat}{b:β},Paired R l m->m[i]?=YaM->∃a,l[i]?=Y7p/\R a b
 | _,_,_,_,.nil,h=>by simp at h
 | _,_,0,b,.cons h t,e=>⟨_,rfl,by cases(show _=b by simpa using e);exact h⟩
 | _,_,i+1,b,.cons h t,e=>by
  obtain⟨a,h1,h2⟩:=EW t (i:=i) (by simpa using e);exact⟨a,by simpa using h1,h2⟩
section
variable{js:Ae}{te:TE}{tc:TT}{σ:St}{H:Hp}{Q:VK}
def UE{K:Aa}{n:Nat}{J:It}{α:Type}{as:Yt}(p:Y24 α)(Src:Yb9 V)(R:α->Y3K)(hR:∀c y H1 H2,fF H1 H2->R c y H1->R c y H2)(hz:YaB as.length)
  (hg:∀i H',Y1->i<as.length->Yam H'/\∀x H3,Y6c i H' x->H3=H'/\∃c,as[i]?=Y1b/\Src c x) (hst:∀H',Y1->YhE as.length)
  (hs:∀x c H',Y1T as->Src c x->Y1->∃a vs,x=Yf/\jV K H' a vs/\Y5V n/\(∀Q':Bool->Hp->Prop,(∀H5,Y7D->Q' (p c) H5)->tc (Y6i) H' Q') /\
   ∀H5 (Q':VK),Y7D->p c=true->(∀y H6,aT H5 H6->R c y H6->Q' y H6)->te (Y6i) H5 Q')
  (hd:Y2Q (H D=none) (Y0x=Y05->Y1->Ya1 (R c y H') (as.filter p) ys->Y0Q)):vP K n J σ js tc te H Q:=by
 unfold vP;intro D G;have mono:∀{H1 H2:Hp} {l:Yt} {ys:Al},fF H1 H2->Ya1 (R c y H1) l ys->Ya1 (R c y H2) l ys:=by
  intro H1 H2 l ys s h
  induction h with
  | nil=>exact .nil
  | cons h t ih=>exact YeS (hR _ _ _ _ s h)
 have snoc:∀{H1:Hp} {l:Yt} {ys:Al} {c:α} {y:V},Ya1 (R c y H1) l ys->R c y H1->Ya1 (R c y H1) (l++[c]) (ys++[y]):=by
  intro H1 l ys c y h r
  induction h with
  | nil=>exact Y8x r
  | cons h t ih=>exact YeS h
 refine Ykk (m=as.length-i/\i<=as.length/\Y0x=Y05/\Y1/\ys.length<=i/\Ya1 (R c y H') ((as.take i).filter p) ys) ⟨as.length,by simp,Y0l,bK,aT.upd G,Yy,.nil⟩;rintro i m ys H2 ⟨rfl,X,d,j,Y,z⟩;refine Y0j d;by_cases hlt:i<as.length
 ·obtain⟨A,B⟩:=hg i H2 j hlt;refine Y7A A (Ygj Oo Dd) (λx H3 C=>?_);obtain⟨rfl,c,I,P⟩:=B x H3 C;have w:as.take (i+1)=as.take i++[c]:=by rw[kB,I];rfl
  obtain⟨a,vs,e,N,O,U,S⟩:=hs x c H3 (aE I) P j;refine⟨a,vs,e,N,O,λb H4=>b=p c/\aT H3 H4,U _ λH5 u=>Y3 u,?_⟩;rintro b H4 ⟨rfl,g⟩;by_cases hp:p c=true
  ·rw[if_pos hp];refine Y0n (λy H5=>aT H4 H5/\R c y H5) (S H4 _ g hp λy H6 M r=>⟨M,r⟩);rintro y H5 ⟨u,r⟩;have L:=u _ _ (g _ _ d);refine⟨L,_,?_,rfl,hlt,bK,Ygk G ((j.trans g).trans u),?_,?_⟩
   ·exact Oo
   ·rw[aW,List.length_singleton];exact Oo
   ·rw[w,List.filter_append,show List.filter p [c]=[c]by simp[hp]];have T:fF H5 (Ybf [y]):=aU.t aU.self L;exact mono T (snoc (mono (g.trans u).t z) r)
  ·rw[if_neg hp];refine⟨g _ _ d,_,?_,rfl,hlt,g _ _ d,j.trans g,Oo,?_⟩
   ·exact Oo
   ·rw[w,List.filter_append,show List.filter p [c]=[]by simp[hp],List.append_nil];exact mono g.t z
 ·have e:i=as.length:=Oo;subst e;refine Y38 (hst H2 j) (hd D ys H2 G d j ?_);rw[dX]at z;exact z
def FM{K:Aa}{n:Nat}{a0:Addr}{xs:Al}{α:Type}{as:Yt}(p:Y24 α)(Src:Yb9 V)(R:α->Y3K)(hR:∀c y H1 H2,fF H1 H2->R c y H1->R c y H2)(hz:YaB as.length)(ha:H a0=Y0A)(pr:Paired Src as xs)
  (hs:∀x c H',Y1T as->Src c x->Y1->∃a vs,x=Yf/\jV K H' a vs/\Y5V n/\(∀Q':Bool->Hp->Prop,(∀H5,Y7D->Q' (p c) H5)->tc (Y6i) H' Q') /\
   ∀H5 (Q':VK),Y7D->p c=true->(∀y H6,aT H5 H6->R c y H6->Q' y H6)->te (Y6i) H5 Q')
  (hd:Y2Q (H D=none) (Y0x=Y05->Y1->Ya1 (R c y H') (as.filter p) ys->Y0Q)):vP K n (Itl K a0) σ js tc te H Q:=by
 have j:Y54 as.length:=pr.length.symm;refine UE p Src R hR hz (λi H' s h=>YdV ⟨xs,xs[i]'Oo,gJ.of (s _ _ ha),by simp⟩ (Y0j y.1)) (λH' s=>⟨xs,gJ.of (s _ _ ha),Oo⟩) hs hd;have e:=y.2 xs (gJ.of (s _ _ ha));obtain⟨c,d,g⟩:=EW pr e;exact⟨c,d,g⟩
end
end L2
namespace L2
open PySem
section
variable{js:Ae}{te:TE}{σ:St}{H:Hp}{Q:VK}
def jU{K:Aa}{b1 b2:Bool}{l1 l2:Addr}{xs ys:Al}(R:Nat->Y3K)(hR:YaH (R i y H1->R i y H2))(hz:Yh6)(h1:H l1=Yd5)(h2:H l2=Ydd)(hl:Ygm)
  (hs:∀i x y H' (Q':VK),Y0s=Yb->Y19=Y03->Y1->(∀z H6,aT H' H6->R i z H6->Q' z H6)->te (Yb::Y03 :: Y51) H' Q')
  (hd:∀D zs H',H D=none->Y0x=YaR->Y1->Y3V zs.length->(∀(i:Nat) (z:V),zs[i]?=Y8X->R i z H')->Y0Q):vP K 2 (Itz b1 b2 l1 l2) σ js BJ te H Q:=by
 unfold vP;intro D p;refine Y0n (λi m zs H'=>m=Y3y i/\Y6y/\YhT i/\Y0x=YaR/\Y1/\∀(i:Nat) (z:V),zs[i]?=Y8X->R i z H') (Y3t xs.length (by simp) Y0l bK (aT.upd p) (λi z h=>by simp at h));rintro i m zs H2 ⟨rfl,O,n,c,a,A⟩;refine Y0j c;by_cases hlt:Y3J
 ·have I:Y0s=some xs[i]:=Y6v;have g:Y19=some (ys[i]'Oo):=Y6v;refine Y7A ⟨xs,ys,_,_,a _ _ h1,a _ _ h2,I,g⟩ (Ygj Oo Dd) (λv H3 y=>?_);obtain⟨q,x,y,rfl,G,rfl,L⟩:=y;obtain⟨J,M⟩:=L xs ys (a _ _ h1) (a _ _ h2);have d:=Y8a [x,y] G;have u:(upd H2 q (.tup [x,y])) q=Ym [x,y]:=bK;generalize upd H2 q (.tup [x,y])=H3 at d u;refine Y1e q [x,y] rfl (jV.of u) (λb H4=>b=true/\H4=H3) Y4D ?_;rintro b H4 ⟨rfl,rfl⟩;rw[Yr];refine Y0n (λz H5=>aT H4 H5/\R i z H5) (hs i x y H4 _ J M (a.trans d) λz H6 C r=>⟨C,r⟩);rintro z H5 ⟨l,r⟩;have s:=l _ _ (d _ _ c);have B:fF H5 (Ybh H5 D (zs ++ [z])):=aU.t aU.self s;exact⟨s,Y3y (i+1),Oo,rfl,hlt,by rw[aW,n];rfl,bK,Ygk p ((a.trans d).trans l),BP (R:=λj z=>R j z _) (λj w N=>hR j w _ _ ((d.trans l).t.trans B) (A j w N)) (by rw[n];exact hR i z _ _ B r)⟩
 ·have e:Y3V i:=Oo;subst e;exact Y38 ⟨xs,ys,a _ _ h1,a _ _ h2,.inl (Yy)⟩ (hd D zs H2 p c a n A)
end
theorem Paired.ofRepL{H:Hp}{α:Type}{g:YaV}:∀{as:Yt}{xs:Al},YgT g xs->Paired (λa x=>dL H (g a) x) as xs
 | [],xs,r=>by
  unfold bJ at r;cases(show xs=[]from r);exact .nil
 | a::as,xs,r=>by
  rw[bH]at r;unfold bJ at r;obtain⟨x,xs',rfl,r1,r2⟩:=r;exact .cons r1 (Paired.ofRepL r2)
theorem Paired.toRepL{H:Hp}{α:Type}{g:YaV}:∀{as:Yt}{xs:Al},Paired (λa x=>dL H (g a) x) as xs->YgT g xs
 | _,_,.nil=>bJ.nil
 | _,_,.cons h t=>bJ.cons h (Paired.toRepL t)
section
variable{X:Cx}{scope:Scope}{x1 x2 x3 y:Str}{N':Ah}{js:Ae}{elt iter tg:Expr}{ifs:Y0b}{py pos spos:Pos}{tc:TT}{te:TE}{wi wj:TI}{i:Nat}
end
end L2
namespace L2
open PySem PySem.Spec PyProof.Rows
section
variable{X:Cx}
@[irreducible] def PX(K:Aa):R2:=λx y H Q=>∃a b xs ys,x=Yf/\y=Y0e/\H a=Y11/\H b=Yd1/\YjF<=1000/\∀c H',Y1->H' c=Ym (Y5L ys)->Y6x
def aFx{K:Aa}{H:Hp}{Q:VK}{a b:Addr}{xs ys:Al}(h1:H a=Y11)(h2:H b=Yd1)(hz:YjF<=1000)(k:∀c H',Y1->H' c=Ym (Y5L ys)->Y6x):PX K (Yf) (Y0e) H Q:=by
 unfold PX;exact⟨a,b,xs,ys,rfl,rfl,h1,h2,hz,k⟩
def GY(K:Aa)(hK:X.K=K:=by rfl):Y4h .Add (PX K):=by
 subst hK;unfold PX;intro g s σ H x y v u Q I L C h;obtain⟨a,b,J,N,rfl,rfl,w,j,Z,q⟩:=h;by_cases hx:J=[]
 ·cases L;cases C;subst hx;obtain⟨O,U,R,_⟩:=Ybz w;obtain⟨z,α,M,_⟩:=Ybz j;cases U;obtain⟨⟨P,T,G,sl⟩,D,B,n,hd⟩:=id R;obtain⟨⟨A,r,m,l⟩,i,c,Y,d⟩:=id M;simp only at B hd c d;subst B hd c d;exact concat_meets (Y0B D) (Y0B i) noFill_tuple_add seq_tuple_add PySem.F.slot_tuple_add PySem.F.entry_tuple_add (Yie _)
   (tuple_addW0 a b _ _ n Y T r sl l rfl) ⟨D,i,Y0E Y0e H I (q b H (Y09) j)⟩
 ·refine aBA g s σ H _ _ v u Q I L C ⟨a,b,J,N,rfl,rfl,jV.of w,jV.of j,hx,Y3h Z,Ydu,λ_ p S=>q p _ (aT.upd S) bK⟩;subst e;exact q a H (Y09) (by rw[List.append_nil];exact w)
end
def pP(a:Int)(t:Tok)(l:Addr)(items:Ai)(n:Nat)(dd:Y2N)(sl:Y55) :
  YbC (Builtin.«int.__rmul__» ⟨[Y3E a,Y0G],[]⟩) (Y1u l ({ cls:=.type "tuple",dict:=dd,data:=.seq items n,slots:=sl })/\R (.ok (.ret Value.notImplemented)) s) :=
 .of_wp λc w A R s h=>by
  obtain⟨j,g,d,i,m⟩:=s;obtain⟨e,h⟩:=h
  wp_walk
  exact Y5 h
def MA(l:Addr)(items:Ai)(n:Nat)(dd:Y2N)(sl:Y55)(k:Int)(u:Tok)(h0:2<=k)(h1:k<=64)(he:Yw items.isEmpty)(hz:items.size<=64)(hsz:Y0z (((List.replicate k.toNat items).foldl (· ++ ·) #[]).size)) :
  YbC (Builtin.«tuple.__mul__» ⟨[Y0G,Y96 k],[]⟩) (Y1u l ({ cls:=.type "tuple",dict:=dd,data:=.seq items n,slots:=sl })/\R (.ok (.ret Y1r)) ({ s with heap:=s.heap.push { cls:=.type "tuple",data:=.seq ((List.replicate k.toNat items).foldl (· ++ ·) #[]) } })) :=
 .of_wp λe w A R s h=>by
  obtain⟨p,g,d,m,r⟩:=s;obtain⟨c,h⟩:=h;have j:=AutoSeq1.idx_int
  wp_walk using YdE
  rw[if_neg (by simp;exact Oo)]
  wp_walk using YdE
  have a:¬items=#[]:=λz=>by simp[z]at he
  have i:(items.size:Int)*k<=4096:=by
   have y:(items.size:Int)*k<=64*64:=Int.mul_le_mul Oo h1 Oo Oo;exact Oo
  rw[if_neg (by simp;exact Y1N a)];rw[if_neg (by simp;exact⟨Oo,a⟩)];show Y2I (if(items.size:Int)*k > (2^63-1)/8 then _ else _);rw[Y2O];show Y2I (if Builtin.Tuple.tupleTooMany (items.size*k)=true then _ else _);rw[if_neg (by unfold Builtin.Tuple.tupleTooMany;simp;exact Int.le_trans i Dd)]
  wp_walk
  exact Y5 h
def nC:fillsNumberSlot (.type "tuple") "mul" = Y3v:=PySem.fillsNumberSlot_seq (id := "tuple.__mul__") (r:=YhZ "tuple.__rmul__") F.slot_tuple_mul.lookup Kk F.slot_tuple_rmul.lookup Kk
def sG:seqRepeat? (.type "tuple")=pure (YhZ "tuple.__mul__"):=by
 unfold seqRepeat?;rw[PySem.seqSlot_of (T := "tuple") (name := "__mul__") (id := "tuple.__mul__") F.slot_tuple_mul.lookup Kk,PySem.seqSlot_of (T := "tuple") (name := "__rmul__") (id := "tuple.__rmul__") F.slot_tuple_rmul.lookup Kk];rfl
@[irreducible] def PP:R2:=λx y H Q=>∃a z,∃k:Nat,x=Yf/\Y3Q (k:Int)/\H a=Ym [z]/\2<=k/\k<=64/\∀c H',Y1->H' c=Ym (Y6X z)->Y6x
def aIS{H:Hp}{Q:VK}{a:Addr}{z:V}{k:Nat}(h:H a=Ym [z])(h2:2<=k)(hk:k<=64)(q:∀c H',Y1->H' c=Ym (Y6X z)->Y6x):PP (Yf) (.int (k:Int)) H Q:=by
 unfold PP;exact⟨a,z,k,rfl,rfl,h,h2,hk,q⟩
section
variable{X:Cx}
def aBy:Y4h .Mult PP:=by
 unfold PP;intro l s σ H x y v u Q I O J h;obtain⟨a,z,k,rfl,rfl,R,S,C,q⟩:=h;cases O;obtain⟨t,rfl⟩:=(show ∃t,u=Value.int (k:Int) t from J);obtain⟨D,r,p,_⟩:=Ybz R;obtain⟨c,rfl,j⟩:=nO r;obtain⟨⟨G,B,A,sl⟩,g,m,n,hd⟩:=id p;simp only at m hd;subst m hd;have d:∀k:Nat,(Y6X [c]).flatten=Y6X c:=λk=>by
  induction k with
  | zero=>rfl
  | succ k ih=>rw[List.replicate_succ,List.flatten_cons,ih,List.replicate_succ];rfl
 have w:List.foldl (λN L=>N++L) #[] (Y6X ([c].toArray))=(Y6X c).toArray:=by
  have:=FF [c] k [];rw[List.nil_append,d]at this;exact this
 have P:∀k:Nat,eI (Y6X z) (Y6X c):=λk=>by
  induction k with
  | zero=>exact .nil
  | succ k ih=>exact YeS j
 generalize hk':(k:Int)=i;have e:i.toNat=k:=Oo;refine wpAny_binaryOp_repeat_ref (T := "tuple") (U := "int") Dd (Y0B g) (λM=>Ya5 M i) nC F.fills_int_mul F.slot_int_rmul sG F.slot_int_index.lookup
  (Ykm (Ya5 s i) _ _ (pP i t a [c].toArray n B sl) (Y37 g (Y0B g) ?_))
 refine YjV (Y0B g) _ _ (MA a [c].toArray n B sl i t Oo Oo rfl (by show 1<=64;decide) (by rw[e,w,bI,bM];exact Y3h C)) (Y0j g);rw[e,w];refine Y0E (.ref _) _ (I.laid (t':=s.toks) (o:=.tup (Y6X z)) (λb W q=>Y9a) Yy ?_) (q _ _ (aT.upd (Y2D)) bK);exact⟨Y7B (by rw[bM];exact uV C) _ Y1l,_,P k,Ye7 _⟩
end
@[irreducible] def aA8:V->Y1i:=PV
def NB{X:Cx}:MtR X "list.extend" aA8:=by unfold aA8;exact SV
def aFp{H:Hp}{l b:Addr}{xs zs:Al}{Q:VK}(h:H l=Y0A)(h2:H b=YaR)(hz:Ygn<=1000)(k:∀H',H' l=Yq (Y5L zs)->Y56 l->Ycu):aA8 (Y0G) [Y0e] H Q:=by
 unfold aA8;exact⟨l,b,xs,zs,rfl,rfl,h,h2,Nat.le_of_lt (yD hz),k _ bK aU.self⟩
section
variable{prog:Program}{w:World}{A:Around}{E:Yc}{s:Shared}{l:Addr}{xs:Array (Int × Tok)}
def WE{Q:Yc}(hh:Y69)(hl:s.heap.IsTuple l (intItems xs))
  (h:∀h' tk t',(YaI (Y0T=Y9))->Q (.int (preSum (numAt xs) xs.size) t') { s with heap:=h',toks:=tk }) :
  Y1K (YbB "sum" [Y0G]):=by
 have d:Y8b l:=by obtain⟨_,e,_⟩:=hl;exact Y18
 refine call_sum_walkG (wpAny_pyIter_tuple hl ?_);refine⟨_,[_,l],[_],_,_,_,numAt xs,rfl,Walks.tuple (A:=A.in1) hh _ l (dN d) (intItems xs),⟨YaG _,hl.push _⟩,λc a=>?_,(λ_ _=>intItems_at),λh' tk t' i=>?_⟩
 ·show c<(s.heap.push _).objs.size;rw[fW];rcases bN.mp a with rfl | a
  ·exact YiI
  ·rcases bN.mp a with rfl | a
   ·exact Nat.lt_succ_of_lt d
   ·cases a
 ·have:=h h' tk t' λc o e=>by
   refine i c o (λg=>?_) (Y2n);rcases bN.mp g with j | g
   ·exact absurd (j ▸ aZ e) (bS _)
   ·cases g
  simpa[intItems]using this
end
@[irreducible] def PJ(K:Aa):Y1i:=λxs H Q=>∃(p:Addr) (ns:Af),xs=Y48/\jV K H p (Y4X)/\Yeh
def rsT{K:Aa}{H:Hp}{p:Addr}{ns:Af}{Q:VK}(h:jV K H p (Y4X))(q:Yeh):PJ K Y48 H Q:=by unfold PJ;exact Y0Z p ns h q
def AW{X:Cx}(K:Aa)(hc:Y1d)(hK:X.K=K:=by rfl):Y4i "sum" (PJ K):=by
 subst hK;unfold PJ;intro d s σ H D B Q I r h;obtain⟨p,y,rfl,l,q⟩:=h;obtain⟨u,rfl,z⟩:=nO r;cases z;obtain⟨a,j,g,G⟩:=I.tuple l;have i:=vZ j;obtain⟨c,e⟩:=i.allInts.items;rw[e]at g;refine WE (Yab) g λA C n w=>⟨.int y.sum,H,I.kept w,Y0j n,q⟩;rw[preSum_eq,List.take_of_length_le (by simp)];rw[<-i.numsOf];have m:a=(intItems c).toList:=by rw[<-e]
 rw[m,nums_intItems]
section
variable{js:Ae}{te:TE}{tc:TT}{σ:St}{H:Hp}{Q:VK}
def bJ.atI{α:Type}{g:YaV}:∀{as:Yt}{xs:Al},YgT g xs->∀{i:Nat}{x:V},Y0s=Yb->∃a,as[i]?=Y7p/\dL H (g a) x:=by
 intro as xs r i x e;obtain⟨d,c,h⟩:=r.get e;rw[aG]at c;cases q:as[i]? with
 | none=>rw[q]at c;cases c
 | some a=>rw[q]at c;cases c;exact Yx a h
def UD{K:Aa}{a:Addr}{xs:Al}{α:Type}{g:YaV}{as:Yt}(r:YgT g xs)(p:Y24 α)(hz:Yh6)(hl:H a=Y0A)
  (ht:∀x c H' (Q':Yct),Y1T as->dL H' (g c) x->Y1->(∀H5,Y7D->Q' (p c) H5)->tc (YaX) H' Q')
  (he:∀x H' (Q':VK),Q' x H'->te YaX H' Q')
  (hd:Y2Q (H D=none) (Y0x=Y05->Y1->Y3M ((as.filter p).map g) ys->Y0Q)):qC (Itl K a) σ js tc te H Q:=by
 unfold qC;intro D z;have n:Y54 as.length:=by rw[r.len,aA]
 refine Ykk (m=Y3y i/\Y6y/\Y0x=Y05/\Y1/\Y1g (((as.take i).filter p).map g) ys/\ys.length<=i) ⟨xs.length,by simp,Y0l,bK,aT.upd z,bJ.nil,Yy⟩;rintro i m ys H2 ⟨rfl,I,d,h,u,J⟩;refine Y0j d;by_cases hlt:Y3J
 ·have C:Y0s=some xs[i]:=aC hlt;refine Y7A ⟨xs,_,gJ.of (h _ _ hl),C⟩ (Ygj Oo Dd) (λx H3 w=>?_);obtain⟨rfl,j⟩:=w;have j:=j xs (gJ.of (h _ _ hl));obtain⟨c,A,B⟩:=r.atI j;have s:as.take (i+1)=as.take i++[c]:=by rw[kB,A];rfl
  refine Y0n (λb H4=>b=p c/\aT H3 H4) (ht x c H3 _ (aE A) (B.same h) h λH5 G=>Y3 G);rintro b H4 ⟨rfl,l⟩;by_cases hp:p c=true
  ·rw[if_pos hp];refine Y0n (λy H5=>y=x/\H5=H4) (he x H4 _ Y4D);rintro y H5 ⟨rfl,rfl⟩;refine⟨l _ _ d,_,?_,rfl,hlt,bK,Ygk z (h.trans l),?_,?_⟩
   ·exact Oo
   ·rw[s,List.filter_append,bE];have:List.filter p [c]=[c]:=by simp[hp]
    rw[this];exact bJ.snoc u B
   ·rw[aW,List.length_singleton];exact Oo
  ·rw[if_neg hp];refine⟨l _ _ d,_,?_,rfl,hlt,l _ _ d,h.trans l,?_,?_⟩
   ·exact Oo
   ·rw[s,List.filter_append];have:List.filter p [c]=[]:=by simp[hp]
    rw[this,List.append_nil];exact u
   ·exact Oo
 ·have e:Y3V i:=Oo;subst e;refine Y38 (YcL xs (gJ.of (h _ _ hl))) (hd D ys H2 z d h ?_);rw[n,dX]at u;exact u.same h
end
def FY{X:Cx}{e:Expr}{t:TT}(h:OB X e t):OB X e (vJ t):=⟨h.p.mono⟩
end L2
namespace HT
open PySem PyProof.Rows
section
variable{prog:Program}{w:World}{A:Around}{E:Yc}{s:Shared}
def vG{t sl:Addr}{items:Ai}{vl vu:Value}{lo hi:Y0X}{Q:Yc}(ht:Ye6 t items)(hs:YfK sl vl vu)(pl:YhG lo)(pu:YhH hi)
  (h0:Y82=0) (h1:Y6m=items.size) (h:Y4l t s):Y1K (getItem (.ref t) (.ref sl)):=by
 obtain⟨j,e,c,i⟩:=id hs;have d:Y8n sl "slice" := ⟨j,e,c⟩;have g:Y8n t "tuple" := ht.typeIs;unfold getItem
 try with_reducible refine YiS
 first | refine YaS | skip
 refine wpAny_bind (wpAny_sequenceKey ht.typeIs Dd ?_);refine wpAny_bind (wpAny_callSpecial?_slot (name:=Str.ofString "__getitem__") ht.typeIs PyProof.Rows.slot_tuple_getitem
  (Yjy PyProof.Rows.slot_tuple_getitem ht.typeIs entry_tuple_getitem (args_tuple_getitem _ _)))
 show Y2X (Builtin.Tuple.tupleItemsOf (.ref t) >>= _);refine wpAny_bind (tupleItemsOf_ ht ?_);refine wpAny_bind (wpAny_typeOf d ?_);rw[Yha];refine wpAny_bind (rC hs pl pu ?_);have a:(((lB items.size 0 lo:Nat):Int) == 0&&(1:Int) == 1&&Ygt (Y6m-Y82))=true:=by
  rw[h0,h1];simp
 show Y2X (if(((lB items.size 0 lo:Nat):Int) == 0&&(1:Int) == 1&&Ygt (Y6m-Y82))=true then _ else _);rw[Yhv];unfold Builtin.Tuple.tupleIsExact;refine Ydn (wpAny_typeOf g (Y1X));rw[Yha];refine Ybo ?_
 first
  | exact YdO h
  | exact Y6V (YdO h)
end
end HT
namespace L2
open PySem PySem.W PySem.Spec PySem.Calls PyProof.Rows
def NR{xs:Al}{lo hi:Y0X}(h0:YfB 0 lo=0)(h1:Y3V (Yk4 hi)):nE xs lo hi=xs:=by
 unfold nE;rw[h0,h1];simp
section
variable{X:Cx}
@[irreducible] def MQ(K:Aa):V->Y0X->Y8P:=λx lo hi H Q=>∃a xs,x=Yf/\H a=Y11/\∀c H',Y1->H' c=Ym (nE xs lo hi)->Y6x
def PC(K:Aa)(hK:X.K=K:=by rfl):SlR X (MQ K):=by
 unfold MQ;subst hK;intro e s σ H x v z B l n sl Q I w u m j h;obtain⟨a,d,rfl,i,q⟩:=h;by_cases hw:Ygw 0 l=0/\Ygw d.length n=d.length
 ·cases w;obtain⟨g,r,y,C⟩:=Ybz i;have c:g.toArray.size=d.length:=by rw[bI];exact r.length.symm
  refine⟨"tuple",_,PyProof.Rows.slot_tuple_getitem.lookup,y.typeIs,HT.vG y u m j (by rw[c];exact hw.1) (by rw[c];exact hw.2) ?_⟩;exact Y0E Yf H I (q a H (Y09) (by rw[NR hw.1 hw.2];exact i))
 ·exact aDj e s σ H (Yf) v z B l n sl Q I w u m j (Y6Y a d (jV.of i) hw (λp A=>q p _ (aT.upd A) bK))
def aDl{K:Aa}{H:Hp}{a:Addr}{xs:Al}{k:Nat}{Q:VK}(h:H a=Y11)(q:∀c H',Y1->H' c=Ym (xs.take k)->Y6x):MQ K (Yf) none (some (k:Int)) H Q:=by
 unfold MQ;exact Y0Z a xs h (λc H' s e=>q c H' s (by rw[e,RD]))
def aDk{K:Aa}{H:Hp}{a:Addr}{xs:Al}{k:Nat}{Q:VK}(h:H a=Y11)(q:∀c H',Y1->H' c=Ym (xs.drop k)->Y6x):MQ K (Yf) (some (k:Int)) none H Q:=by
 unfold MQ;exact Y0Z a xs h (λc H' s e=>q c H' s (by rw[e,HU]))
def MB(l:Addr)(items:Ai)(n:Nat)(dd:Y2N)(sl:Y55)(u:Tok) :
  YbC (Builtin.«tuple.__mul__» ⟨[Y0G,Y96 1],[]⟩) (Y1u l ({ cls:=.type "tuple",dict:=dd,data:=.seq items n,slots:=sl })/\R (.ok (.ret Y0G)) s) :=
 .of_wp λa w A R s h=>by
  obtain⟨j,g,d,i,m⟩:=s;obtain⟨c,h⟩:=h;have e:=AutoSeq1.idx_int
  wp_walk using YdE
  all_goals first | exact Y5 h | skip
def MC(l:Addr)(items:Ai)(n:Nat)(dd:Y2N)(sl:Y55)(u:Tok)(he:Yw items.isEmpty) :
  YbC (Builtin.«tuple.__mul__» ⟨[Y0G,Y96 0],[]⟩) (Y1u l ({ cls:=.type "tuple",dict:=dd,data:=.seq items n,slots:=sl })/\R (.ok (.ret Y1r)) ({ s with heap:=s.heap.push { cls:=.type "tuple",data:=.seq #[] } })) :=
 .of_wp λa w A R s h=>by
  obtain⟨j,g,d,i,m⟩:=s;obtain⟨c,h⟩:=h;have e:=AutoSeq1.idx_int
  wp_walk using YdE
  all_goals first | exact Y5 h | skip
@[irreducible] def PQ:R2:=λx y H Q=>∃a z,∃k:Nat,x=Yf/\Y3Q (k:Int)/\H a=Ym [z]/\k<=64/\∀c H',Y1->H' c=Ym (Y6X z)->Y6x
def aIT{H:Hp}{Q:VK}{a:Addr}{z:V}{k:Nat}(h:H a=Ym [z])(hk:k<=64)(q:∀c H',Y1->H' c=Ym (Y6X z)->Y6x):PQ (Yf) (.int (k:Int)) H Q:=by
 unfold PQ;exact Y1e a z k rfl h hk q
def aBz:Y4h .Mult PQ:=by
 unfold PQ;intro d s σ H x y v u Q I B w h;obtain⟨a,z,k,rfl,rfl,l,J,q⟩:=h;by_cases h2:2<=k
 ·exact aBy d s σ H _ _ v u Q I B w (aIS l h2 J q)
 cases B;obtain⟨t,rfl⟩:=(show ∃t,u=Value.int (k:Int) t from w);obtain⟨C,r,p,_⟩:=Ybz l;obtain⟨g,rfl,G⟩:=nO r;obtain⟨⟨D,e,A,sl⟩,c,m,n,hd⟩:=id p;simp only at m hd;subst m hd;have i:k=0\/k=1:=Oo;rcases i with rfl | rfl
 ·refine wpAny_binaryOp_repeat_ref (T := "tuple") (U := "int") Dd (Y0B c) (λj=>Ya5 j 0) nC F.fills_int_mul F.slot_int_rmul sG F.slot_int_index.lookup
   (Ykm (Ya5 s 0) _ _ (pP 0 t a [g].toArray n e sl) (Y37 c (Y0B c) ?_))
  refine YjV (Y0B c) _ _ (MC a [g].toArray n e sl t rfl) ⟨c,Y0E (.ref _) _ (I.laid (t':=s.toks) (o:=.tup []) YjU Yy ?_) (q _ _ (aT.upd (Y2D)) bK)⟩;exact⟨Y7B Y0l _ Y1l,[],.nil,Ye7 _⟩
 ·refine wpAny_binaryOp_repeat_ref (T := "tuple") (U := "int") Dd (Y0B c) (λj=>Ya5 j 1) nC F.fills_int_mul F.slot_int_rmul sG F.slot_int_index.lookup
   (Ykm (Ya5 s 1) _ _ (pP 1 t a [g].toArray n e sl) (Y37 c (Y0B c) ?_))
  exact YjV (Y0B c) _ _ (MB a [g].toArray n e sl t) ⟨c,Y0E Yf H I (q a H (Y09) l)⟩
end
end L2
namespace HT
open PySem PySem.W PyProof.Rows
def eZ{α:Type}(n:Nat)(lt:Nat->Y8O)(R:Y2d α):Y2d (KasT α)
 | .ret a=>R a
 | .ask i j k=>i<n/\j<n/\eZ n lt R (k (lt i j))
section
variable{n:Nat}{lt:Nat->Y8O}
theorem eZ.bind{α β:Type}{R:Y2d α}{S:Y2d β}{f:α->KasT β}:∀{t:KasT α},Y46 R t->(∀a,R a->Y46 S (f a))->Y46 S (t.bind f)
 | .ret a,h,k=>k a h
 | .ask i j t,⟨h1,h2,h3⟩,k=>⟨h1,h2,eZ.bind (t:=t (lt i j)) h3 k⟩
theorem eZ.wp{α:Type}{R:Y2d α}{cmp:Nat->Nat->(Bool->(Y2d Shared))->(Y2d Shared)}{Q:α->(Y2d Shared)}{s:Shared}(hc:∀i j C,i<n->j<n->C (lt i j) s->cmp i j C s)(q:∀a,R a->Q a s) :
  ∀{t:KasT α},Y46 R t->t.kasWp cmp Q s
 | .ret a,h=>q a h
 | .ask i j t,⟨h1,h2,h3⟩=>hc i j _ h1 h2 (eZ.wp (t:=t (lt i j)) hc q h3)
def iW(n:Nat)(p:Y0L):Prop:=p.Perm (Yfu n)
def iW.bd{p:Y0L}(g:Y1M)(hn:0<n)(i:Nat):Y50 i<n:=by
 by_cases hi:i<p.size
 ·have e:Y50 i=p[i]:=by simp[Array.getD,hi]
  rw[e];have m:p[i]∈Yfu n:=(Array.Perm.mem_iff g).mp (Array.getElem_mem hi);simpa using m
 ·have e:Y50 i=0:=by simp[Array.getD,hi]
  rw[e];exact hn
def iW.rev{p:Y0L}(g:Y1M)(i j:Nat):iW n (kas_rev p i j):=(mirror_perm p i j _).trans g
def iW.bub{p:Y0L}(g:Y1M)(i j:Nat):iW n (bubble p i j):=(bubble_perm p i j).trans g
theorem HZ{p:Y0L}(g:Y1M)(hn:0<n):∀(f m:Nat),Y46 (λ_=>True) (kas_asc p f m)
 | 0,m=>True.intro
 | f+1,m=>⟨g.bd hn _,g.bd hn _,by
  cases lt (p.getD m 0) (p.getD (m-1) 0)with
  | true=>exact True.intro
  | false=>exact HZ g hn f (m+1)⟩
theorem xO(hn:0<n):∀(f:Nat) {p:Y0L}(g:Y1M) (m q:Nat),Ycw (iW n r.1) (kas_desc f p m q)
 | 0,p,g,m,q=>g
 | f+1,p,g,m,q=>by
  refine⟨g.bd hn _,g.bd hn _,?_⟩;cases lt (p.getD m 0) (p.getD (m-1) 0)with
  | true =>
   show eZ n lt _ (if q > 0 then _ else _);split
   ·exact xO hn f (g.rev _ _) _ _
   ·exact xO hn f g _ _
  | false =>
   refine⟨g.bd hn _,g.bd hn _,?_⟩;cases lt (p.getD (m-1) 0) (p.getD m 0)with
   | true=>exact g
   | false=>exact xO hn f g _ _
def FU{p:Y0L}(g:Y1M)(hn:0<n)(m r:Nat):Ycw (iW n r.2) (kas_tail3 m r p):=by
 unfold kas_tail3;exact(HZ (g.rev 0 m) hn _ _).bind λ_ _=>g.rev 0 m
def xN{p:Y0L}(g:Y1M)(hn:0<n)(m r:Nat):Ycw (iW n r.2) (kas_descPart m r p):=by
 unfold kas_descPart;refine(xO hn _ g _ _).bind λr a=>?_;split
 ·exact FU (iW.rev a _ _) hn _ _
 ·exact FU a hn _ _
def UM{p:Y0L}(g:Y1M)(hn:0<n)(m:Nat):Ycw (iW n r.2) (kas_count m p):=by
 unfold kas_count;refine(HZ g hn _ _).bind λk _=>?_;split
 ·exact g
 ·split
  ·refine Y0n (g.bd hn _) (g.bd hn _);cases Y5e 0 (k-1)with
   | true=>exact g
   | false=>exact xN (g.rev _ _) hn _ _
  ·exact xN g hn _ _
theorem yY{p:Y0L}(g:Y1M)(hn:0<n)(k:Nat):∀(f l r:Nat),Y46 (λ_=>True) (kas_place p k f l r)
 | 0,l,r=>True.intro
 | f+1,l,r=>by
  unfold kas_place;split
  ·exact True.intro
  ·refine⟨g.bd hn _,g.bd hn _,?_⟩;cases lt (p.getD k 0) (p.getD ((l+r)/2) 0)with
   | true=>exact yY g hn k f _ _
   | false=>exact yY g hn k f _ _
theorem RI(hn:0<n):∀(f:Nat) {p:Y0L}(g:Y1M) (k:Nat),Y46 (iW n) (kas_bin f p k)
 | 0,p,g,k=>g
 | f+1,p,g,k=>by
  unfold kas_bin;exact(yY g hn k _ _ _).bind λl _=>RI hn f (g.bub _ _) _
def aAd(hn:0<n):Y46 (iW n) (kas_sort n):=by
 unfold kas_sort;refine(UM (Array.Perm.refl _) hn n).bind λr a=>?_;split
 ·exact RI hn _ a _
 ·exact a
end
structure LP(n:Nat)(lt:Nat->Y8O):Prop where
 tot:∀i j,i<n->j<n->i≠j->Yw (lt i j)->lt j i=true
 tra:∀i j k,lt i j=true->lt j k=true->lt i k=true
def EE(lt:Nat->Y8O)(p:Y0L)(m:Nat):Prop:=∀a b,a<b->b<m->Y5e a b=true
def Dsc(lt:Nat->Y8O)(p:Y0L)(m:Nat):Prop:=∀a b,a<b->b<m->Y5e b a=true
section
variable{n:Nat}{lt:Nat->Y8O}
theorem eZ.mono{α:Type}{R S:Y2d α}(k:∀a,R a->S a):∀{t:KasT α},Y46 R t->Y46 S t
 | .ret a,h=>k a h
 | .ask i j t,⟨h1,h2,h3⟩=>⟨h1,h2,eZ.mono k (t:=t (lt i j)) h3⟩
theorem iW.size{p:Y0L}(g:Y1M):p.size=n:=by
 have:=(Array.perm_iff_toList_perm.mp g).length_eq;simpa using this
def iW.ne{p:Y0L}(g:Y1M){i j:Nat}(hi:i<n)(hj:j<n)(h:i≠j):Y50 i≠Y50 j:=by
 have d:p.toList.Nodup:=(Array.perm_iff_toList_perm.mp g).nodup_iff.mpr (by simpa using List.nodup_range);have a:=g.size;have c:p.getD i 0=p.toList[i]'(by simpa[a]using hi):=by simp[Array.getD,a,hi]
 have l:p.getD j 0=p.toList[j]'(by simpa[a]using hj):=by simp[Array.getD,a,hj]
 rw[c,l];intro e;exact h ((List.getElem_inj d).mp e)
def EE.one{p:Y0L}:Y6T 1:=λa b c d=>Oo
def EE.more(O:Y6J){p:Y0L}(g:Y1M){m:Nat}(h:Y6T m)(h1:1<=m)(hm:m<n)(e:Yw (Y5e m (m-1))):Y6T (m+1):=λa b c j=>by
 by_cases q:b<m
 ·exact h a b c q
 ·have i:b=m:=Oo;subst i;have d:Y5e (b-1) b=true:=O.tot _ _ (g.bd Oo _) (g.bd Oo _) (g.ne Oo Oo Oo) e;by_cases r:a=b-1
  ·rw[r];exact d
  ·exact O.tra _ _ _ (h a (b-1) Oo Oo) d
theorem HY(O:Y6J){p:Y0L}(g:Y1M):∀(f m:Nat),1<=m->m+f<=n->Y6T m->Y46 (λk=>m<=k/\k<=m+f/\Y6T k/\(k<m+f->Y5e k (k-1)=true)) (kas_asc p f m)
 | 0,m,_,_,h=>⟨aM _,aM _,h,λq=>Oo⟩
 | f+1,m,h1,hm,h=>by
  refine⟨g.bd Oo _,g.bd Oo _,?_⟩;cases e:lt (p.getD m 0) (p.getD (m-1) 0)with
  | true=>exact⟨aM _,Oo,h,λ_=>e⟩
  | false =>
   refine(show eZ n lt _ (kas_asc p f (m+1))from ?_);have ih:=HY O g f (m+1) Oo Oo (h.more O g h1 Oo e);exact eZ.mono (λk ⟨d,i,a,c⟩=>⟨Oo,Oo,a,λq=>c Oo⟩) ih
def Dsc.more(O:Y6J){p:Y0L}{m:Nat}(h:Dsc lt p m)(h1:1<=m)(e:Y5e m (m-1)=true):Dsc lt p (m+1):=λa b c g=>by
 by_cases q:b<m
 ·exact h a b c q
 ·have d:b=m:=Oo;subst d;by_cases r:a=b-1
  ·rw[r];exact e
  ·exact O.tra _ _ _ e (h a (b-1) Oo Oo)
theorem KL(O:Y6J){p:Y0L}(g:Y1M):∀(f m:Nat),1<=m->m+f<=n->Dsc lt p m->Ycw (r.1=p/\r.2.2=0/\m<=r.2.1/\r.2.1<=m+f/\Dsc lt p r.2.1) (kas_desc f p m 0)
 | 0,m,_,_,h=>⟨rfl,rfl,aM _,aM _,h⟩
 | f+1,m,h1,hm,h=>by
  refine⟨g.bd Oo _,g.bd Oo _,?_⟩;cases e:lt (p.getD m 0) (p.getD (m-1) 0)with
  | true =>
   refine(show eZ n lt _ (kas_desc f p (m+1) 0)from ?_);exact eZ.mono (λr ⟨a1,a2,a3,a4,a5⟩=>⟨a1,a2,Oo,Oo,a5⟩) (KL O g f (m+1) Oo Oo (h.more O h1 e))
  | false =>
   refine⟨g.bd Oo _,g.bd Oo _,?_⟩;rw[O.tot _ _ (g.bd Oo _) (g.bd Oo _) (g.ne Oo Oo Oo) e];exact⟨rfl,rfl,aM _,(show m<=m+(f+1)by exact Oo),h⟩
def WY{p:Y0L}{m i:Nat}(hm:m<=p.size):(kas_rev p 0 m).getD i 0=if i<m then Y50 (m-1-i) else Y50 i:=by
 have e:=getElem?_mirror (xs:=p) (i:=0) (j:=m) hm (m/2) Oo i;have a:(kas_rev p 0 m)[i]?=if(0<=i/\i<0+m/2)\/(m-m/2<=i/\i<m) then p[0+m-1-i]? else p[i]?:=e
 have g:∀(q:Y0L) (k:Nat),q.getD k 0=q[k]?.getD 0:=λq k=>by simp[Array.getD_eq_getD_getElem?]
 rw[g,a,g,g];by_cases h:i<m
 ·rw[Y4z];by_cases h2:(0<=i/\i<0+m/2)\/(m-m/2<=i/\i<m)
  ·rw[Yel,show 0+m-1-i=m-1-i by exact Oo]
  ·rw[Yen,show m-1-i=i by exact Oo]
 ·rw[Y4A,Y2O]
def Dsc.rev{p:Y0L}{m:Nat}(h:Dsc lt p m)(hm:m<=p.size):EE lt (kas_rev p 0 m) m:=λa b c d=>by
 rw[WY hm,WY hm,Y58,if_pos d];exact h _ _ Oo Oo
def UB(O:Y6J){p:Y0L}(g:Y1M)(hn:2<=n):Ycw (iW n r.2/\1<=r.1/\r.1<=n/\EE lt r.2 r.1) (kas_count n p):=by
 unfold kas_count;refine(HY O g (n-1) 1 (aM _) Oo EE.one).bind λk ⟨l,J,c,y⟩=>?_;split
 ·exact⟨g,l,by show k<=n;exact Oo,c⟩
 ·rename_i hk
  have C:k≠n:=λe=>hk (by simp[e]);split
  ·refine Y0n (g.bd Oo _) (g.bd Oo _);rw[c 0 (k-1) Oo Oo];exact⟨g,l,by show k<=n;exact Oo,c⟩
  ·have A:k=1:=Oo;subst A;unfold kas_descPart;have u:Dsc lt p 2:=λa b B I=>by
    have e:a=0/\b=1:=Oo;rw[e.1,e.2];exact y Oo
   refine(KL O g (n-2) 2 Oo Oo u).bind λr ⟨i,j,z,s,d⟩=>?_;obtain⟨D,m,q⟩:=r;dsimp only at i j z s d ⊢;subst i j;rw[Y20];unfold kas_tail3;have L:=g.size;exact(HY O (g.rev 0 m) (n-m) m Oo Oo (d.rev Oo)).bind λh ⟨M,G,w,_⟩=>⟨g.rev 0 m,(show 1<=h by exact Oo),(show h<=n by exact Oo),w⟩
theorem yJ(O:Y6J){p:Y0L}(g:Y1M){k:Nat}(hk:k<n)(h:Y6T k):∀(f l r:Nat),l<=r->r<=k->r-l<=f->(∀a,a<l->Y5e a k=true)->(∀a,r<=a->a<k->Y5e k a=true) ->
  Y46 (λm=>m<=k/\(∀a,a<m->Y5e a k=true)/\∀a,m<=a->a<k->Y5e k a=true) (kas_place p k f l r)
 | 0,l,r,h1,h2,h3,h4,h5=>⟨Oo,h4,λa q1 q2=>h5 a Oo q2⟩
 | f+1,l,r,h1,h2,h3,h4,h5=>by
  unfold kas_place;split
  ·exact⟨Oo,h4,λa q1 q2=>h5 a Oo q2⟩
  ·refine⟨g.bd Oo _,g.bd Oo _,?_⟩;cases e:lt (p.getD k 0) (p.getD ((l+r)/2) 0)with
   | true =>
    refine(show eZ n lt _ (kas_place p k f l ((l+r)/2))from ?_);refine yJ O g hk h f l ((l+r)/2) Oo Oo Oo h4 λa q1 q2=>?_;by_cases q:a=(l+r)/2
    ·rw[q];exact e
    ·exact O.tra _ _ _ e (h _ _ Oo q2)
   | false =>
    refine(show eZ n lt _ (kas_place p k f ((l+r)/2+1) r)from ?_);have e2:=O.tot _ _ (g.bd Oo _) (g.bd Oo _) (g.ne hk Oo Oo) e;refine yJ O g hk h f ((l+r)/2+1) r Oo Oo Oo (λa q1=>?_) h5;by_cases q:a=(l+r)/2
    ·rw[q];exact e2
    ·exact O.tra _ _ _ (h a ((l+r)/2) Oo Oo) e2
def aAa{p:Y0L}{k m i:Nat}(hk:k<p.size)(hm:m<=k):(bubble p k (k-m)).getD i 0=if i=m then Y50 k else if m<i/\i<=k then Y50 (i-1) else Y50 i:=by
 have e:=getElem?_bubble (xs:=p) hk (k-m) Oo i;have g:∀(q:Y0L) (k:Nat),q.getD k 0=q[k]?.getD 0:=λq k=>by simp[Array.getD_eq_getD_getElem?]
 rw[g,e,g,g,g,show k-(k-m)=m by exact Oo];by_cases h:i=m
 ·rw[Y4z,Y4z]
 ·rw[Y4A,Y4A];by_cases h2:m<i/\i<=k
  ·rw[Yel,Yel]
  ·rw[Yen,Yen]
theorem RH(O:Y6J):∀(f:Nat) {p:Y0L}(g:Y1M) (k:Nat),k+f=n->Y6T k->Y46 (λp=>Y1M/\Y6T n) (kas_bin f p k)
 | 0,p,g,k,hk,h=>⟨g,by rw[<-hk];exact h⟩
 | f+1,p,g,k,hk,h=>by
  unfold kas_bin;refine(yJ O g Oo h k 0 k Oo Oo Oo (λa q=>Oo) (λa q1 q2=>Oo)).bind λm ⟨m1,m2,m3⟩=>?_;have hs:=g.size;refine RH O f (g.bub _ _) (k+1) Oo λa b c d=>?_;rw[aAa Oo m1,aAa Oo m1];by_cases ha:a=m
  ·rw[if_pos ha,if_neg Oo,if_pos Oo];exact m3 _ Oo Oo
  ·rw[if_neg ha];by_cases hb':b=m
   ·rw[if_pos hb',if_neg Oo];exact m2 a Oo
   ·rw[if_neg hb'];by_cases q1:m<a/\a<=k
    ·rw[if_pos q1,if_pos Oo];exact h _ _ Oo Oo
    ·rw[if_neg q1];by_cases q2:m<b/\b<=k
     ·rw[if_pos q2];exact h _ _ Oo Oo
     ·rw[if_neg q2];exact h _ _ c Oo
def WJ(O:Y6J)(hn:2<=n):Y46 (λp=>Y1M/\Y6T n) (kas_sort n):=by
 unfold kas_sort;refine(UB O (Array.Perm.refl _) hn).bind λr ⟨a,d,g,c⟩=>?_;split
 ·rename_i q
  rw[Nat.max_eq_left d];exact RH O _ a _ Oo c
 ·rename_i q
  have e:r.1=n:=Oo;exact⟨a,e ▸ c⟩
end
end HT
namespace L2
open PySem PySem.Spec PySem.W PyProof.Rows HT
def OU{x:V}{xs:Al}{us:Ag}(r:Y4x (x::xs)):∃u us',us=u::us'/\Y9w/\eI xs us':=by
 cases r with
 | cons h t=>exact Y3P _ h t
def JZ(fin:Bool):Af->Y24 Af
 | x::a,y::b=>if x=y then JZ fin a b else decide (x<y)
 | _,_=>fin
def sL(a b:Af):Bool:=JZ (Y1c a.length b.length) a b
def CL(a:Af):Yw (sL a []):=by
 unfold sL;cases a <;> rfl
def HE(y:Int)(b:Af):sL [] (y::b)=true:=by unfold sL;rfl
def HF(x y:Int)(a b:Af):sL (x::a) (y::b)=if x=y then sL a b else Y1c x y:=by
 show(if x=y then JZ (Y1c ((x::a).length) ((y::b).length)) a b else Y1c x y)=_;rw[cK,cK,show decide (a.length+1<b.length+1)=decide (a.length<b.length)by simp]
 rfl
theorem QE:∀{a b:Af},a≠b->Yw (sL a b)->sL b a=true
 | [],[],h,_=>absurd rfl h
 | [],y::b,_,e=>by rw[HE]at e;cases e
 | x::a,[],_,_=>HE _ _
 | x::a,y::b,h,e=>by
  rw[HF]at e ⊢;by_cases q:x=y
  ·subst q;rw[if_pos rfl]at e ⊢;exact QE (λz=>h (by rw[z])) e
  ·rw[if_neg q]at e;rw[if_neg (Ne.symm q)];have:=of_decide_eq_false e;exact cR Oo
theorem HC:∀{a b c:Af},sL a b=true->sL b c=true->sL a c=true
 | a,b,[],_,h=>by rw[CL]at h;cases h
 | [],b,z::c,_,_=>HE _ _
 | x::a,[],z::c,h,_=>by rw[CL]at h;cases h
 | x::a,y::b,z::c,h1,h2=>by
  rw[HF]at h1 h2 ⊢;by_cases q1:x=y
  ·subst q1;rw[if_pos rfl]at h1;by_cases q2:x=z
   ·subst q2;rw[if_pos rfl]at h2 ⊢;exact HC h1 h2
   ·rw[if_neg q2]at h2 ⊢;exact h2
  ·rw[if_neg q1]at h1;have h1:=of_decide_eq_true h1;by_cases q2:y=z
   ·subst q2;rw[if_neg q1];exact cR h1
   ·rw[if_neg q2]at h2;have h2:=of_decide_eq_true h2;rw[if_neg Oo];exact cR Oo
def HD{a:Af}:Yw (sL a a):=by
 induction a with
 | nil=>exact CL _
 | cons x a ih=>rw[HF,Yr];exact ih
theorem JY:∀{l m:Ac},l.Pairwise (λa b=>sL a b=true)->m.Pairwise (λa b=>sL a b=true)->(∀x,x∈l↔x∈m)->l=m
 | [],[],_,_,_=>rfl
 | [],y::m,_,_,h=>by have:=(h y).mpr (aY ..);cases this
 | x::l,[],_,_,h=>by have:=(h x).mp (aY ..);cases this
 | x::l,y::m,h1,h2,h=>by
  obtain⟨d,g⟩:=List.pairwise_cons.mp h1;obtain⟨c,b2⟩:=List.pairwise_cons.mp h2;have e:x=y:=by
   rcases bN.mp ((h x).mp (aY ..))with q | q
   ·exact q
   ·rcases bN.mp ((h y).mpr (aY ..))with r | r
    ·exact r.symm
    ·have:=HC (c x q) (d y r);rw[HD]at this;cases this
  subst e;rw[JY g b2 λz=>?_];constructor
  ·intro q;rcases bN.mp ((h z).mp (bD _ q))with r | r
   ·subst r;have:=d z q;rw[HD]at this;cases this
   ·exact r
  ·intro q;rcases bN.mp ((h z).mpr (bD _ q))with r | r
   ·subst r;have:=c z q;rw[HD]at this;cases this
   ·exact r
abbrev QD(cs:Ac):Nat->Y8O:=λi j=>sL (YeB []) (cs.getD j [])
def aES{cs:Ac}(h:cs.Nodup):LP cs.length (QD cs):=⟨λi j a m ne e=>QE (λz=>by
  have c:YeB []=cs[i]:=by simp[a]
  have l:cs.getD j []=cs[j]:=by simp[m]
  rw[c,l]at z;exact ne ((List.getElem_inj h).mp z)) e,λi j k d g=>HC d g⟩
section
variable{prog:Program}{w:World}{A:Around}{E:Yc}{s:Shared}{Q:Bool->(Y2d Shared)}
theorem zK{fin:Bool}:∀{a b:Af}{us vs:Ag}{i:Nat},Y4x YgK->eI (b.map V.int) vs->Q (JZ fin a b) s->KatLex prog w A true fin Q (us.zip vs) i s
 | [],b,us,vs,i,ha,hb,q=>by cases ha;exact kat_nil (by unfold JZ at q;exact q)
 | x::a,[],us,vs,i,ha,hb,q=>by
  cases hb;cases us with
  | nil=>exact kat_nil (by unfold JZ at q;exact q)
  | cons u us=>exact kat_nil (by unfold JZ at q;exact q)
 | x::a,y::b,us,vs,i,ha,hb,q=>by
  rw[bH]at ha hb;obtain⟨u,us',rfl,⟨t,rfl⟩,ra⟩:=OU ha;obtain⟨v,d,rfl,⟨e,rfl⟩,c⟩:=OU hb;rw[List.zip_cons_cons];refine kat_cons (wpAny_eqBool_int ?_);unfold JZ at q;by_cases h:x=y
  ·rw[if_pos h]at q;rw[show(x == y)=true by simp[h]];exact kat_yes (zK ra c q)
  ·rw[if_neg h]at q;rw[show(x == y)=false by simp[h]];refine kat_no ?_;cases(true&&i == 0)with
   | true=>exact oneLt_int q
   | false=>exact kat_one _ _ (lt_int q)
def aCY(h:Heap)(v:Value)(c:Af):Prop:=∃b its,v=Y0e/\IsTup h b (List.toArray its)/\YaY Ydz/\c≠[]
abbrev mK(h:Heap):Y13 Ag Ac:=Paired (aCY h)
theorem mK.get{h:Heap}:∀{vs:Ag}{cs:Ac}{i:Nat},mK h vs cs->i<vs.length->aCY h (YfU i) (YeB [])
 | _,_,_,.nil,hi=>by simp at hi
 | _,_,0,.cons t r,hi=>t
 | v::vs,c::cs,i+1,.cons t r,hi=>by
  have:=mK.get (i:=i) r (by simpa using hi);simpa using this
theorem mK.firsts{h:Heap}:∀{vs:Ag}{cs:Ac},mK h vs cs->∃fs,KatTups h vs fs/\Y63 vs.length/\∀v∈fs,∃i t,v=Value.int i t
 | _,_,.nil=>⟨[],KatTups.nil,rfl,λv hv=>by cases hv⟩
 | v::vs,c::cs,.cons t r=>by
  obtain⟨fs,h1,h2,h3⟩:=mK.firsts r;obtain⟨b,g,rfl,⟨o,e,d,n,hd⟩,hv,a⟩:=t;cases c with
  | nil=>exact absurd rfl a
  | cons x c =>
   rw[bH]at hv;obtain⟨u,j,rfl,⟨t,rfl⟩,_⟩:=OU hv;exact⟨.int x t::fs,KatTups.cons e d hd (by simp) h1,by simp[h2],λv hv=>by
    rcases bN.mp hv with rfl | hv
    ·exact⟨_,_,rfl⟩
    ·exact h3 v hv⟩
theorem mK.keep{h h':Heap}(k:Y0W (Y1F=Y9) (o.cls=.type "tuple" -> Y0T=Y9)):∀{vs:Ag}{cs:Ac},mK h vs cs->mK h' vs cs
 | _,_,.nil=>.nil
 | _,_,.cons ⟨b,its,e,⟨o,ho,hc,hd⟩,hv,hne⟩ r=>.cons ⟨b,its,e,⟨o,k b o ho hc,hc,hd⟩,hv,hne⟩ (mK.keep k r)
def WK{n:Nat}{lt:Nat->Y8O}(hn:2<=n):Y46 (λp=>Y1M/\(Y6J->Y6T n)) (kas_sort n):=by
 by_cases O:Y6J
 ·exact eZ.mono (λp h=>YhR h.1 h.2) (WJ O hn)
 ·exact eZ.mono (λp h=>⟨h,λz=>absurd z O⟩) (aAd Oo)
def SF{a:Addr}{vs:Ag}{cs:Ac}{n:Nat}{P:PySem.Fin->(Y2d Shared)}(ho:Y1u a (seqObj "list" vs.toArray n))(ht:mK s.heap vs cs)(h64:vs.length<64)
  (h:∀p:Array Nat,YbR p->(Ycl->Ycm p)->P (YgE .none) { s with heap:=sortedHeap s.heap a vs (List.toArray (p.toList.map λi=>vs.getD i Value.none)) }) :
  wpAny (model prog w) A (Builtin.«list.sort» ⟨Y1O,[]⟩) P E s:=by
 rw[list_sort_plain];have β:Y8b a:=aZ ho;refine wpAny_bind (listItems_at ho rfl ?_);refine wpAny_bind (listUpdate_at ho rfl ?_ (by rw[bI,sizeLine_eq];exact Oo) (Y0l));obtain⟨S,y⟩:∃S,(s.heap.update a (Obj.mapSeq λ_=>#[])).get? a=YdX "list" (#[]) S:=Y2T (YiN ho (#[]));refine Yis y rfl ?_;refine wpAny_bind (wpAny_newTuple ?_ (by show vs.length<=_;rw[sizeLine_eq];exact Oo));refine wpAny_bind (wpAny_newList ?_ (Y0l));refine YiS;have d:(((s.heap.update a (Obj.mapSeq λ_=>#[])).push (seqObj "tuple" vs.toArray 0)).push (seqObj "list" #[] 0)).get? a=YdX "list" (#[]) S:=by
  rw[Heap.get?_push_ne _ _ _ (by rw[size_push',Heap.size_update];exact dN (Nat.lt_succ_of_lt β)),Heap.get?_push_ne _ _ _ (by rw[Heap.size_update];exact dN β)];exact y
 show wpAny (model prog w) A _ P E ({ s with heap:=((s.heap.update a (Obj.mapSeq λ_=>#[])).push (seqObj "tuple" vs.toArray 0)).push (seqObj "list" #[] 0) });dsimp only;have B:∀c:SortSt,∀p:Array Nat,YbR p->(Ycl->Ycm p)->(arrOf c).map (·.2)=Yib (λi=>YfU i) ->
   P (YgE .none) { s with heap:=sortedHeap s.heap a vs ((arrOf c).map (·.2)) }:=by
  intro c p u ho ξ;rw[ξ];exact h p u ho
 have l:mK (((s.heap.update a (Obj.mapSeq λ_=>#[])).push (seqObj "tuple" vs.toArray 0)).push (seqObj "list" #[] 0)) vs cs:=ht.keep λb o r X=>by
  have O:b≠a:=λe=>by
   subst e;rw[ho]at r;cases r;exact Y64 (show Value.type "list" = Value.type "tuple" from X)
  exact Y78 (by rw[Yj6 _ _ _ O];exact r)
 by_cases h2:vs.toArray.size<2
 ·rw[Yel,Yel];refine YaS;rw[StateT.run_pure];refine YaS;dsimp only;refine Yis d rfl ?_;refine wpAny_bind (listUpdate_at d rfl ?_ (hsz2:=by rw[Array.size_map];show(pairsOf vs).size<=_;rw[pairsOf_size,sizeLine_eq];exact Oo));simp only[bne_self_eq_false,Bool.false_eq_true,if_false];refine wpAny_pure (B (SortSt.mk' general' (Yft) #[] 7 none) (Yfu vs.length) (Array.Perm.refl _) (λ_ a b φ υ=>by rw[bI]at h2;exact Oo) ?_);have e:=kat_snds (ks:=vs) (vs:=vs) (st:=SortSt.mk' general' (Yft) #[] 7 none) (p:=Yfu vs.length) rfl (by
   have e:=kas_range (Yft);rw[show(vs.toArray.zip vs.toArray).size=vs.length by simp]at e;exact e.symm)
  exact e
 ·rw[Yen,Yen];have m:2<=vs.length:=by rw[bI]at h2;exact Oo
  obtain⟨fs,ρ,ψ,ζ⟩:=l.firsts;refine wpAny_bind (kat_kind (T:=.type "int") ρ Oo (λv I=>?_) rfl ?_)
  ·obtain⟨i,t,rfl⟩:=ζ v I;exact .now
  refine wpAny_bind (wpAny_mono (kat_run (ks:=vs) (vs:=vs) (G:=λp z=>z={ s with heap:=((s.heap.update a (Obj.mapSeq λ_=>#[])).push (seqObj "tuple" vs.toArray 0)).push (seqObj "list" #[] 0) }/\YbR p/\(Ycl->Ycm p))
   (Q:=λc z=>z={ s with heap:=((s.heap.update a (Obj.mapSeq λ_=>#[])).push (seqObj "tuple" vs.toArray 0)).push (seqObj "list" #[] 0) }/\failedOf c=none/\∃p:Array Nat,Yhu p.size/\(YbR p/\(Ycl->Ycm p))/\arrOf c=p.map (kas_item (Yft)))
   rfl m h64 (λη c z ο θ κ Z=>⟨Z.1,κ,η,ο,Z.2,θ⟩)
   (eZ.wp (n:=vs.length) (lt:=QD cs) (R:=λp=>YbR p/\(Ycl->Ycm p)) (λi j C ν τ μ=>?_) (λp u=>Y3 u) (WK m))) ?_ Yk5)
  ·obtain⟨b,ι,N,⟨o,r,X,χ,hd⟩,I,_⟩:=l.get ν;obtain⟨b2,W,J,⟨ω,M,ε,n2,L⟩,D,_⟩:=l.get τ;unfold kas_ask;rw[N,J];refine kat_lt r hd M L (zK I D ?_);have γ:=I.length;have α:=D.length;rw[aA]at γ α;rw[bI,bI,<-γ,<-α];exact μ
  rintro⟨⟨⟩,c⟩ z ⟨rfl,δ,p,u,Y,U⟩;dsimp only;have g:=kat_snds rfl U;refine Yis d rfl ?_;refine wpAny_bind (listUpdate_at d rfl ?_ (hsz2:=by rw[g,bI,aA,Array.length_toList,u,sizeLine_eq];exact Oo));rw[δ];simp only[bne_self_eq_false,Bool.false_eq_true,if_false];exact wpAny_pure (B c p Y.1 Y.2 g)
end
theorem OV{X:Cx}{pins:Ad}{σ:St}{H:Hp}{s:Shared}(I:Y4):∀{cs:Ac}{ys:Al}{us:Ag},Ye3 Ycv ys->(∀c∈cs,c≠[])->Y4x ys->mK s.heap us cs
 | [],ys,us,r,hc,v=>by
  unfold bJ at r;cases(show ys=[]from r);cases v;exact .nil
 | c::cs,ys,us,r,hc,v=>by
  rw[bH]at r;unfold bJ at r;obtain⟨y,ys',rfl,r1,r2⟩:=r;obtain⟨u,n,rfl,rv,C⟩:=OU v;refine .cons ?_ (OV I r2 (λc h=>hc c (bD _ h)) C);unfold dL at r1;obtain⟨a,l,rfl,j,d⟩:=r1;cases rv;obtain⟨e,i,B,g⟩:=I.tuple (jV.of j);have A:l=c.map V.int:=by
   clear i j hc g
   induction c generalizing l with
   | nil=>unfold bJ at d;exact d
   | cons z c ih =>
    rw[bH]at d;unfold bJ at d;obtain⟨x,p,rfl,m,w⟩:=d;cases(show x=V.int z from m);rw[ih _ w];rfl
  subst A;exact⟨a,e,rfl,B,i,hc c (aY ..)⟩
theorem OT{ys:Al}{us:Ag}(v:Y4x ys):∀ix:Ae,(∀i∈ix,i<ys.length)->eI (ix.map λi=>YeC .non) (ix.map λi=>us.getD i Value.none)
 | [],_=>.nil
 | i::ix,h=>by
  have hi:=h i (aY ..);obtain⟨u,d,ru⟩:=v.get (i:=i) (x:=ys[i]) (by simp[hi]);refine .cons ?_ (OT v ix λj e=>h j (bD _ e));have a:ys.getD i .non=ys[i]:=by simp[hi]
  have c:us.getD i Value.none=u:=by rw[aR,d];rfl
  show fI (ys.getD i .non) (us.getD i Value.none);rw[a,c];exact ru
open Classical in
section
variable{X:Cx}{pins:Ad}{σ:St}{H:Hp}{s:Shared}
end
section
variable{X:Cx}
end
end L2
namespace HT
open PySem PySem.Spec PyProof.Rows PySem.Builtin
section
variable{prog:Program}{w:World}{A:Around}{E:Yc}{s:Shared}
end
section
variable{prog:Program}{w:World}{A:Around}{E:Yc}{s:Shared}{K:Type}[DecidableEq K]{knd:HeapKind prog w K}
end
end HT
namespace L2
open PySem PySem.Spec PySem.W PyProof.Rows HT
section
variable{X:Cx}{pins:Ad}{σ:St}{H:Hp}
end
end L2
namespace HT
open PySem PySem.Spec PyProof.Rows
section
variable{prog:Program}{w:World}{A:Around}{E:Yc}{s:Shared}{it d:Addr}{es:YdH}{ep i:Nat}{od:Obj}
def aBN{Q:YcI}(hit:s.heap.IsKeyIter it d i es.size ep)(hod:Y1u d od)(hdd:od.data=Yda)(hi:i<es.size)
  (h:∀h',h'.IsKeyIter it d (i+1) es.size ep->Ybu it h'->Q (some es[i].key) { s with heap:=h' }):Ycc it:=by
 obtain⟨⟨u,p,j,r⟩,l,n,hd⟩:=id hit;simp only at n hd;subst n hd;have c:=hit.typeIs;unfold pyNext;refine Ybm (Y8q "__next__" c F.slot_dict_keyiterator_next F.slot_dict_keyiterator_next c F.entry_dict_keyiterator_next ?_ (F.args_dict_keyiterator_next_1 _));have y:Yw (Yk7 == Value.none):=rfl;have g:Yw (Builtin.Dict_items.ownsTuple "dict_keyiterator"):=Dd
 repeat (any_goals (first | assumption | (with_reducible refine Yfn c) | (with_reducible refine Yfx c) | (with_reducible refine wpAny_fieldsOf l rfl ?_) | (with_reducible refine YiJ hdd ?_) | (with_reducible refine YiU hdd ?_) | wp_step))
 rw[if_neg (show ¬((i:Int)<0)by exact Oo),Int.toNat_natCast,Array.getElem?_eq_getElem hi];have a:(s.heap.update it (Obj.mapFields (·.setIfInBounds 1 (rawInt ((i:Int)+1))))).IsKeyIter it d (i+1) es.size ep :=
  ⟨_,Heap.get?_update_self _ l (Obj.isFreed_of_fields (Obj.data_mapFields rfl _)),(Obj.cls_mapFields ..).trans rfl,by rw[Obj.data_mapFields rfl];simp[rawInt]⟩
 have m:({ s with heap:=s.heap.update it (Obj.mapFields (·.setIfInBounds 1 (rawInt ((i:Int)+1)))) }:Shared).TypeIs (Y5a) "dict_keyiterator" := a.typeIs;have e:=h _ a (Heap.SameBut.update ..)
 repeat (any_goals (first | assumption | (with_reducible refine Yfn c) | (with_reducible refine Yfx c) | (with_reducible refine Yfx m) | (with_reducible refine YjL l rfl (by rw[g];simp)) | wp_step))
 exact Yfp e
def aFa{Q:YcI}(hh:Y69)(hit:s.heap.IsKeyIter it d i es.size ep)(hod:Y1u d od)(hdd:od.data=Yda)(hi:es.size<=i)
  (h:∀h',YgA it s.heap->Q none { s with heap:=h' }):Ycc it:=by
 obtain⟨⟨n,l,e,m⟩,j,g,hd⟩:=id hit;simp only at g hd;subst g hd;have a:=hit.typeIs;have p:Yw (Yk7 == Value.none):=rfl;have c:Yw (Builtin.Dict_items.ownsTuple "dict_keyiterator"):=Dd;unfold pyNext;refine Ybm (Y8q "__next__" a F.slot_dict_keyiterator_next F.slot_dict_keyiterator_next a F.entry_dict_keyiterator_next ?_ (F.args_dict_keyiterator_next_1 _))
 repeat (any_goals (first | assumption | (with_reducible refine Yfn a) | (with_reducible refine Yfx a) | (with_reducible refine wpAny_fieldsOf j rfl ?_) | (with_reducible refine YiJ hdd ?_) | (with_reducible refine YiU hdd ?_) | wp_step))
 rw[if_neg (show ¬((i:Int)<0)by exact Oo),Int.toNat_natCast,Array.getElem?_eq_none hi]
 repeat (any_goals (first | assumption | (with_reducible refine Yfn a) | (with_reducible refine YjL j rfl (by rw[c];simp)) | wp_step))
 simp only[raiseNew];refine wpAny_bind (wpAny_handled ?_);rw[show A.in1.handled=none from hh];refine Y6V (wpAny_throw ?_);refine wpAny_bind (wpAny_isInstance (T:="StopIteration") (b:=true) (Y0B Y1l) isSubtype_stop ?_);exact wpAny_pure (h _ (((Heap.SameBut.update ..).extBut.push _).push _))
def aBO{Q:Yc}(hd:Y62 d)(hod:Y1u d od)(hex:od.ExactDict)(hdd:od.data=Yda)
  (hQ:Q Y1r ({ s with heap:=s.heap.push { cls:=.type "dict_keyiterator",data:=.fields #[.ref d,.int 0 0,.int es.size 0,.int ep 0] } })):Y1K (pyIter (.ref d)):=by
 have a:Y8n d "dict" := ⟨od,hod,hex.1⟩;refine wpAny_pyIter_slot a F.slot_dict_iter (Yjy F.slot_dict_iter a F.entry_dict_iter (F.args_dict_iter_1 _));unfold Builtin.«dict.__iter__»;refine Y3R;unfold Builtin.Dict.dictSlotNone;refine wpAny_bind (wpAny_notOrdered_dict a ?_);show Y2X (pure (Yk7));refine Y1X;have c:Y62 d:=hd
 repeat (any_goals (first | assumption | (with_reducible refine YiJ hdd ?_) | (with_reducible refine YiU hdd ?_) | wp_step))
 exact⟨_,rfl,"dict_keyiterator",_,Y0B Y1l,F.slot_dict_keyiterator_next.lookup,hQ⟩
end
end HT
namespace L2
open PySem PySem.Spec PySem.W PyProof.Rows HT
section
variable{X:Cx}{pins:Ad}{σ:St}{H:Hp}{s:Shared}
theorem BY{α β:Type}{R:Yb9 β}:∀{l:Yt}{m:Yax}{i:Nat}{a:α},Paired R l m->l[i]?=Y7p->∃b,m[i]?=YaM/\R a b
 | _,_,i,a,.nil,h=>by simp at h
 | _,_,0,a,.cons r t,h=>by
  cases(show _=a by simpa using h);exact⟨_,rfl,r⟩
 | _,_,i+1,a,.cons r t,h=>by
  obtain⟨b,h1,h2⟩:=BY t (by simpa using h);exact⟨b,by simpa using h1,h2⟩
end
section
variable{X:Cx}{tg:Expr}
end
end L2
namespace HT
open PySem PySem.Spec PyProof.Rows PySem.W
section
variable{prog:Program}{w:World}{A:Around}{d:Addr}{o:Obj}{es:YdH}{ep:Nat}
def SB(hh:Y69)(I:Addr)(hne:d≠I)(hdat:o.data=Yda) :
  Walks prog w A I [I,d] [I] es.size (λi v=>∃hi:i<es.size,v=es[i].key) (λi h=>h.IsKeyIter I d i es.size ep/\YcR d) where
 sub:=λb a=>by simp at a;simp[a]
 frame:=λ_ _ _ st n=>⟨st.1.at λo e=>n I (by simp) o e,n d (by simp) o st.2⟩
 item:=λi s Q E hi st j=>aBN st.1 st.2 hdat hi λm c g =>
  j _ m s.toks (Y5P hi) ⟨c,(g.2 d hne).trans st.2⟩ λb o a e=>(g.2 b (λh=>a (by simp[h]))).trans e
 done:=λs Q E st j=>aFa hh st.1 st.2 hdat (Yy) λm l=>j m s.toks λb o a e=>l b o (λh=>a (by simp[h])) e
 self:=λ_ _ _ _ st j=>wpAny_pyIter_keyiter st.1 j
def QG(lo:Y62 d)(hex:o.ExactDict)(hdat:o.data=Yda):KdlSrc prog w "dict" d d es.size (λi v=>∃hi:i<es.size,v=es[i].key) (λh=>YcR d) where
 type:=λ_ a=>Y3c a hex.1
 there:=λ_ a=>⟨aZ a,aZ a⟩
 keep:=λ_ _ a c=>c d (Y36) o a
 notList:=Dd
 notTuple:=Dd
 hint:=λ_ _ _ _ a e=>kdl_hint_dict (Y3c a hex.1) e
 iter:=λA s g a=>⟨_,_,λE Q j=>aBO lo a hex hdat j,SB g _ (dN (aZ a)) hdat,YaG _,aF _ a⟩
end
end HT
namespace L2
open PySem PySem.Spec PySem.W PyProof.Rows HT
def DR(H:Hp)(kvs:Yu)(ys:Al):Prop:=Y72 kvs.length/\∀(i:Nat) p,kvs[i]?=YcW->∃b,Y19=Y6 b/\H b=Ym (p.1.map kV)
end L2
namespace HT
open PySem PySem.Spec PyProof.Rows PySem.W
section
variable{prog:Program}{w:World}{A:Around}{E:Yc}{s:Shared}{it d:Addr}{es:YdH}{ep i:Nat}{od:Obj}
end
end HT
namespace L2
open PySem PySem.Spec PySem.W PyProof.Rows HT
section
variable{X:Cx}{tg:Expr}
end
section
variable{X:Cx}{o e:Expr}{apos cpos:Pos}{td ty:TE}
def OQ(hu:Y6z<cLine)(ho:Yp o td)(he:Yp e ty)(base:attributeBase o "get" X.env (Y1a o)=Y1a o:=by rfl)
  (few:((backTo cpos (starEach [e] X.env)).all (λx=>! x.1)&&(backToKw cpos (keywordEach [] X.env)).all (λx=>x.1.isSome)&&Y1c (([e]:List Expr).length+([]:List Keyword).length+(if([]:List Keyword).isEmpty then 0 else 1)) 30)=true:=by rfl)
  (line:(YbG)=true:=by rfl) (trees:YgY (Y2H e)=[(false,Y12)]:=by rfl):Yp (YcU "get" [e] []) (VZ td ty):=⟨XR hu ho.p he.p ⟨base,few,line,trees⟩⟩
end
end L2
namespace L2
open PySem
section
variable{js:Ae}{te:TE}{tc:TT}{σ:St}{H:Hp}{Q:VK}
end
end L2
namespace L2
open PySem PySem.Spec PyProof.Rows
section
variable{X:Cx}{pins:Ad}{σ:St}{H:Hp}{s:Shared}{scope:Scope}{x x2:Str}{N':Ah}{js:Ae}{fp:Y0m}
end
section
variable{X:Cx}{pins:Ad}{σ:St}{H:Hp}{s:Shared}{scope:Scope}{x:Str}{N':Ah}{js:Ae}{fp:Y0m}{elt iter:Expr}{px pos:Pos}{tg:Expr}{x2:Str}{te:TE}
end
section
variable{X:Cx}{scope:Scope}{x x2 y:Str}{N':Ah}{js:Ae}{elt iter tg:Expr}{py pos spos:Pos}{te:TE}{wi:TI}{i:Nat}
end
end L2
namespace HT
open PySem PySem.Spec PyProof.Rows
section
variable{prog:Program}{w:World}{A:Around}{E:Yc}{s:Shared}{d:Addr}{o:Obj}{es:YdH}{ep:Nat}
end
end HT
namespace L2
open PySem PySem.Spec PySem.W PyProof.Rows HT
def CN(c:Af):(c.map (Sum.inl:Int->fQ)).map kV=Ydz:=by rw[List.map_map];rfl
abbrev kT(c:Af):Y4C:=c.map Sum.inl
def jX{a b:Af}(h:kT a=kT b):a=b:=by
 have:∀{a b:Af},kT a=kT b->a=b:=by
  intro a
  induction a with
  | nil=>intro b h;cases b with
   | nil=>rfl
   | cons _ _=>cases h
  | cons x a ih=>intro b h;cases b with
   | nil=>cases h
   | cons y b =>
    injection h with h1 h2;injection h1 with h1;rw[h1,ih h2]
 exact this h
section
variable{X:Cx}{o e f k v:Expr}{apos cpos pos:Pos}{td ty tx tk tv:TE}
@[irreducible] def aBa(p:Addr)(x y:V)(H2:Hp)(Q:VK):Prop:=∃b k,x=Y0e/\H2 b=Yd4/\H2 p=Y0a []/\Y4l p (upd H2 p (.dT [(k,y)]))
def aDh(tk tv:TE):TE:=λσ H Q=>∀p,H p=none->tk σ (Y3B p (.dT [])) λx H1=>tv σ H1 λy H2=>aBa p x y H2 Q
def aGj{p b:Addr}{y:V}{H:Hp}{Q:VK}{c:Af}(hb:H b=Yei)(hp:H p=Y0a [])(q:∀H',Y34=Y0a [(kT c,y)]->Y0R->Y4Y p):aBa p (Y0e) y H Q:=by
 unfold aBa;exact Y6Y b (kT c) (by rw[CN];exact hb) hp (q _ bK aU.self)
def IQ(hu:Y6z<cLine)(hk:Yp k tk)(hv:Yp v tv):Yp (YeK [YaL] [v]) (aDh tk tv):=⟨by
 intro d s σ H Q I q;have O:=Yiv;have I1:=Yi1 (.dT []) (s.heap.push { cls:=.type "dict",data:=.dict #[] }) s.toks (Ygu q) Yy (KH s.heap I.big);refine wpAny_Dict_any rfl rfl (by simp) (show 1<=15 by decide) (pairTrees_cons_walk (thn (hk.p d _ σ _ _ I1 (q _ O)) λu D ⟨x,H1,I1,T,P⟩=>thn (hv.p d D σ H1 _ I1 P) λZ W ⟨y,H2,I2,G,l⟩=>pairTrees_nil_walk ?_));unfold aBa at l;obtain⟨b,n,rfl,i,e,B⟩:=l;cases(show u=Value.ref b from T);obtain⟨z,hd,Y,g,S⟩:=aCT I2.hok e;unfold storeAll;rw[List.forIn_cons];refine Ydn (wpAny_dictSet_heap (show X.A.units<cLine by exact Oo) (vX I2.hok i) S (λh' h M=>Y1X) (by rw[<-Paired.length g];exact z));dsimp only;rw[List.forIn_nil];refine Y1X;obtain⟨q,J,L,j,R,r,C,_,w⟩:=h;refine Y0E (.ref _) _ ?_ B;have N:Y0z (([(n,y)]:List (List fQ × V)).length):=by show Y0z 1;decide
 refine AV I2 (by rw[e];exact True.intro) M ⟨q,j⟩ ⟨N,hd,_,(g.put n i G).keeps λc U m=>?_,q,J,L,j,R,r,C,w⟩;rw[eP (sX m e (λz=>nomatch z))];exact m⟩
def GE(hu:Y6z<cLine)(ho:Yp o td)(he:Yp e ty)(hf:Yp f tx)(base:attributeBase o "get" X.env (Y1a o)=Y1a o:=by rfl)
  (few:((backTo cpos (starEach [e,f] X.env)).all (λx=>! x.1)&&(backToKw cpos (keywordEach [] X.env)).all (λx=>x.1.isSome)&&Y1c (([e,f]:List Expr).length+([]:List Keyword).length+(if([]:List Keyword).isEmpty then 0 else 1)) 30)=true:=by rfl)
  (line:(YbG)=true:=by rfl) (trees:YgY (Y5I e f)=[(false,Y12),(false,Y1a f)]:=by rfl):Yp (YcU "get" [e,f] []) (VY td ty tx):=⟨XO hu ho.p he.p hf.p ⟨base,few,line,trees⟩⟩
@[irreducible] def aA6(b:Bool):R2:=λx y H Q=>∃a o,y=Yf/\oQ H a x o/\Y2r (xor b o.isSome)
def rind{b:Bool}{x:V}{a:Addr}{o:Am}{H:Hp}{Q:VK}(g:oQ H a x o)(q:Y2r (xor b o.isSome)):aA6 b x (Yf) H Q:=by unfold aA6;exact Y0Z a o g q
def XV(hu:Y6z<cLine):Y30 .In (aA6 false):=by
 intro c s σ H x y v u Q I e d h;unfold aA6 at h;obtain⟨a,o,rfl,g,q⟩:=h;cases(show u=Value.ref a from d);exact aI3 hu I g e λi I3=>Y0E (.bl _) H I3 (by simpa using q)
end
def UU{H:Hp}{p b:Addr}{kvs:Yu}{c:Af}{v:V}{D:qL}{σ:St}(e:H p=Y10)(eb:H b=Yei)(hl:Y5Y 100000)(q:∀H',Y34=Y0a (kG kvs (kT c) v)->Y0R->Y8m H') :
  rDP D σ (Y1G) (Y0e) v H:=by
 unfold rDP;exact Y0Z p _ (IH.t (k:=kT c) e (by rw[CN];exact eb) (aI hl Dd)) (q _ bK aU.self)
def oQ.ct{H:Hp}{p b:Addr}{kvs:Yu}{c:Af}(e:H p=Y10)(eb:H b=Yei):oQ H p (Y0e) (Y8u (kT c)):=oQ.t e (by rw[CN];exact eb)
def NQ{H:Hp}{p b:Addr}{kvs:Yu}{c:Af}{v:V}{Q:VK}(e:H p=Y10)(eb:H b=Yei)(hv:Y8u (kT c)=Yn)(q:Q v H):rDG (Y1G) (Y0e) H Q:=by
 unfold rDG;exact⟨p,v,rfl,hv ▸ oQ.ct e eb,q⟩
def DY{kvs:Yu}{k:Y4C}{v:V}(h:(Y4b).isSome=true):(kG kvs k v).map (·.1)=kvs.map (·.1):=by
 unfold kG;rw[nP,Y4z,List.map_map];refine fN λp _=>?_;show(if p.1=k then(p.1,v) else p).1=p.1;split <;> rfl
end L2
namespace L2
open PySem
section
variable{js:Ae}{te:TE}{tc:TT}{σ:St}{H:Hp}{Q:VK}
end
end L2
namespace L2
open PySem PySem.Spec PySem.W PyProof.Rows HT
section
variable{prog:Program}{w:World}{A:Around}{E:Yc}{s:Shared}
def KU{T:String}{r d:Addr}{n:Nat}{P:YaF Value}{OK:Y3W}{Q:Ag->(Y2d Shared)}(K:KdlSrc prog w T r d n P OK)(hh:Y69)(hok:OK s.heap)(hn:Y0z n)
  (hQ:∀h' tk (acc':Ai),(YaI (Y0T=Y9))->ItemsOf P acc' n->Q acc'.toList { s with heap:=h',toks:=tk }) :
  Y1K (collect (.ref r)):=by
 have lt:=K.there _ hok;have p:(s.heap.push (seqObj "list" #[] 0)).get? s.heap.objs.size=some { cls:=.type "list",data:=.seq #[] 0 }:=Y1l
 let G:Ycx:=λa z=>∃g m l e,a=.ok (.ret Y1r)/\z={ s with heap:=g,toks:=m }/\(YaI (g.get? b=Y9))/\g.get? s.heap.objs.size=some { cls:=.type "list",dict:=none,data:=.seq l e,slots:=#[] }/\ItemsOf P l n
 have ext:=kdl_extend (A:=A) (s:={ s with heap:=s.heap.push (seqObj "list" #[] 0) }) (R:=G) K hh (K.keep _ _ hok λb _ o e=>Y2n) s.heap.objs.size (Nat.ne_of_gt lt.1) (Nat.ne_of_gt lt.2) (Y1r) 0 p
  (λg m l e i h j=>⟨g,m,l,e,rfl,rfl,λb o z=>i b o (dN (aZ z)) (aF _ z),h,j⟩) hn
 unfold collect;refine wpAny_bind (wpAny_runValue (YfV entry_proto_collect'));rw[YfC PySem.F.plain_proto_collect];refine wpAny_bind (m:=newList []) (wpAny_newList (wpAny_pure ⟨Yjq PySem.F.plain_list_iadd,YfV entry_list_iadd'⟩));rw[YfC PySem.F.plain_list_iadd];refine wpAny_mono ext (λu z y=>?_) λe z ⟨_,_,_,_,q,_⟩=>by cases q
 cases u with
 | done f=>obtain⟨g,m,l,e,q,rfl,i,h,j⟩:=y;cases q;exact Yio h (wpAny_pure (hQ g m l i j))
 | again c=>exact⟨y.1,codeAny_mono y.2 λq z ⟨g,m,l,e,eq,B,i,h,j⟩=>by subst eq B;exact Yio h (wpAny_pure (hQ g m l i j))⟩
def MI{x:Value}{Q:Yc}
  (h:wpAny (model prog w) A.in1 (collect x) (λvs s1=>∃h1 tk cs,s1={ s with heap:=h1,toks:=tk }/\(YaI (Yhd=Y9))/\mK h1 vs cs/\vs.length<64 /\
   ∀(p:Y0L) (h':Heap) (D:Addr) (c:Nat),YbR p->(Ycl->Ycm p)->(Y0W (Yhd=Y9) (Y0T=Y9))->h1.objs.size<=D->Y8p D (YdX "list" (Yib (λi=>YfU i)) c)->Y4l D ({ s with heap:=h',toks:=tk })) E s) :
  Y1K (YbB "sorted" [x]):=by
 refine Calls.call_function_entry kind_sorted plain_sorted entry_sorted (args_sorted1 _) ?_;unfold Builtin.«sorted»;refine wpAny_bind (m:=checkCount "sorted" 1 1 _) (Y1X);refine wpAny_bind (Y5O h (λvs s1 ⟨h1,tk,cs,e,j,B,g,q⟩=>?_) e);subst e;refine wpAny_bind (wpAny_newList ?_ (by rw[sizeLine_eq];exact Oo));have a:(h1.push (seqObj "list" vs.toArray 0)).get? h1.objs.size=YdX "list" vs.toArray 0:=Y1l;have keep:Y0W (Yhd=Y9) ((h1.push (seqObj "list" vs.toArray 0)).get? b=Y9):=λb o q=>Y9a;show wpAny _ _ _ _ _ ({ s with heap:=h1.push (seqObj "list" vs.toArray 0),toks:=tk });refine Yfs (wpAny_call_entry slot_list_sort (Y0B a) entry_list_sort ?body (args_list_sort _));refine SF (s:={ s with heap:=h1.push (seqObj "list" vs.toArray 0),toks:=tk }) a (B.keep λb o n _=>keep b o n) g λp r u=>Yfp Y7;unfold sortedHeap;have y:((h1.push (seqObj "list" vs.toArray 0)).update h1.objs.size (Obj.mapSeq λ_=>#[])).get? h1.objs.size=YdX "list" (#[]) _:=YiN a (#[]);have z:=aF (seqObj "list" #[] 0) (aF (seqObj "tuple" vs.toArray 0) y);refine q p _ h1.objs.size _ r u (λb o e=>?_) (Yy) (YiN z (Yib (λi=>YfU i)));have l:b<h1.objs.size:=Y18;have d:b≠h1.objs.size:=dN l;rw[Yj6 _ _ _ d]
 exact Y78 (by rw[Yj6 _ _ _ d];exact keep b o e)
end
def aCV{X:Cx}{pins:Ad}{σ:St}{H:Hp}{s:Shared}(I:Y4){d:Addr}{kvs:Yu}(e:H d=Y10):Y62 d/\(kvs.map (·.1)).Nodup/\∃o,Ybk d/\o.ExactDict/\∃es ep,o.data=Yda/\es.size=kvs.length /\
  ∀(i:Nat) (hi:i<es.size) p,kvs[i]?=YcW->∃b,es[i].key=Y0e/\H b=Ym (p.1.map kV):=by
 obtain⟨z,hd,D,a,o,es,ep,n,A,m,g,h⟩:=(show hV X.prog X.w H s.heap d (.dT kvs)from I.hok d _ e);have j:es.size=kvs.length:=by
  have:=Y8i g;rw[aA,<-Paired.length a]at this;simpa using this
 have B:kvs.map (·.1)=D.map (·.1):=by
  clear g h j e z
  induction a with
  | nil=>rfl
  | cons r t ih=>rw[bH,bH,r.1,ih]
 refine⟨hd,B ▸ h,o,n,A,es,ep,m,j,λi hi p u=>?_⟩;obtain⟨x,y,J,C,G⟩:=BY a u;have l:es.toList[i]?=some (entryOfKey (Yhq X.w) x):=by rw[g,aG,y];rfl
 have c:es[i]=entryOfKey (Yhq X.w) x:=by
  have:es.toList[i]?=some es[i]:=by simp[hi]
  rw[this]at l;injection l
 rw[c];exact Yx x.2.1 C
abbrev kyI(c:Af):Y4C:=c.map Sum.inl
def kyV(c:Af):(kyI c).map kV=Ydz:=by rw[List.map_map];rfl
@[irreducible] def GU:Y1i:=λxs H Q=>∃(d:Addr) (kvs:Yu) (cs:Ac),xs=Y5o d/\H d=Y10/\kvs.map (·.1)=cs.map kyI/\(∀c∈cs,c≠[])/\cs.length<64 /\
 ∀q (ys:Al) (ds:Ac) H',ds.Perm cs->ds.Pairwise (λa b=>sL a b=true)->H q=none->H' q=Y05->Y3M (ds.map Ycv) ys->Y1->Y7S
def rsrd{H:Hp}{Q:VK}{d:Addr}{kvs:Yu}{cs:Ac}(h:H d=Y10)(hk:kvs.map (·.1)=cs.map kyI)(hc:∀c∈cs,c≠[])(hz:cs.length<64)
  (q:∀q (ys:Al) (ds:Ac) H',ds.Perm cs->ds.Pairwise (λa b=>sL a b=true)->H q=none->H' q=Y05->Y3M (ds.map Ycv) ys->Y1->Y7S):GU (Y5o d) H Q:=by
 unfold GU;exact⟨d,kvs,cs,rfl,h,hk,hc,hz,q⟩
def aB8{X:Cx}(hc:Y1d):Y4i "sorted" GU:=by
 unfold GU;intro β s σ H xs us Q I r h;obtain⟨d,L,g,rfl,hq,N,φ,hz,q⟩:=h;obtain⟨u,rfl,ι⟩:=nO r;cases ι;obtain⟨M,γ,o,κ,ψ,es,ep,hdd,hsz,ξ⟩:=aCV I hq;have lk:L.length=g.length:=by have:=Y8i N;simpa using this
 refine MI (KU (QG M ψ hdd) (show X.A.in1.handled=none from I.ok.hd hc) κ (by rw[sizeLine_eq];exact Oo) λJ ρ α kp G=>?_);obtain⟨la,G⟩:=G;have I1:Y4T β ({ s with heap:=J,toks:=ρ }):=I.kept kp;have τ:∀(n:Nat) (l:Ag),l.length=n->∀(m:Ac),m.length=n->(∀(i:Nat) v c,l[i]?=Yn->m[i]?=Y1b->∃b,v=Y0e/\H b=Yei)->∃B:Al,eI B l/\Y1g (m.map Ycv) B:=by
  intro n
  induction n with
  | zero =>
   intro l ε m M _;cases l with
   | nil=>cases m with
    | nil=>exact⟨[],.nil,bJ.nil⟩
    | cons _ _=>simp at M
   | cons _ _=>simp at ε
  | succ n ih =>
   intro l ε m M N;cases l with
   | nil=>simp at ε
   | cons v l=>cases m with
    | nil=>simp at M
    | cons c m =>
     obtain⟨b,rfl,hb⟩:=N 0 v c rfl rfl;obtain⟨B,δ,Y⟩:=ih l (by simpa using ε) m (by simpa using M) λi v p J υ=>N (i+1) v p (by simpa using J) (by simpa using υ);have rb:∀c:Af,Y1g (c.map PyData.int) Ydz:=λc=>by
      induction c with
      | nil=>exact bJ.nil
      | cons x c ih=>exact bJ.cons (Yan) ih
     exact⟨Y0e::B,YhF δ,bJ.cons (dL.tup hb (rb c)) Y⟩
 have C:α.toList.length=g.length:=by rw[Array.length_toList,la,hsz,lk]
 obtain⟨B,δ,Y⟩:=τ g.length α.toList C g rfl λi v c θ T=>by
  obtain⟨z,e⟩:=G i v (by rw[<-Array.getElem?_toList];exact θ);have hp:∃p,L[i]?=YcW/\p.1=kyI c:=by
   have:(L.map (·.1))[i]?=some (kyI c):=by rw[N,aG,T];rfl
   rw[aG]at this;obtain⟨p,J,υ⟩:=eL.mp this;exact⟨p,J,υ⟩
  obtain⟨p,χ,μ⟩:=hp;obtain⟨b,k1,k2⟩:=ξ i z p χ;rw[μ,kyV]at k2;exact⟨b,by rw[e,k1],k2⟩
 have U:g.Nodup:=by
  rw[N]at γ;exact List.Pairwise.of_map _ (λa b h e=>h (by rw[e])) γ
 have S:B.length=g.length:=by rw[Y.len,aA]
 refine⟨J,ρ,g,rfl,kp,OV I1 Y φ δ,Oo,λw h' D c hg ho keep hD R=>?_⟩;have y:w.toList.Perm (List.range g.length):=by
  have:=(Array.perm_iff_toList_perm.mp hg);rw[<-C];simpa using this
 have W:∀i∈w.toList,i<B.length:=λi z=>by
  have:=y.mem_iff.mp z;rw[S];simpa using this
 have η:(Yg5 (YbZ i)).length=g.length:=by rw[aA,y.length_eq,aV]
 have hn:=I1.hok.fresh hD;have sm:Y2c (Y47 D (Yg5 (YbZ i))):=aT.upd hn;refine Y0E Y4F (Y47 D (Yg5 (YbZ i))) (I1.laid (t':=ρ) keep hD ⟨by rw[η,sizeLine_eq];exact Oo,_,c,OT δ _ W,R⟩) ?_;have ha:=ho (C ▸ aES U);have P:=hg.size;have ο:(w.toList.map λi=>g.getD i []).Perm g:=by
  have J:=y.map λi=>g.getD i [];have e:(List.range g.length).map (λi=>g.getD i [])=g:=by
   apply List.ext_getElem?;intro i;rw[aG];by_cases z:i<g.length
   ·rw[bP z,aC z,Option.map_some,aR,aC z];rfl
   ·rw[cB (by simpa using z),Y9l];rfl
  rwa [e]at J
 refine q D _ (Yg5 (g.getD i [])) _ ο ?_ hn bK ?_ sm
 ·rw[List.pairwise_map,List.pairwise_iff_getElem];intro i j z hj ω;have ν:i<w.size:=by simpa using z
  have Z:j<w.size:=by simpa using hj
  have θ:w.toList[i]=w.getD i 0:=by rw[Array.getElem_toList];exact(by simp[Array.getD,ν]:w.getD i 0=w[i]).symm
  have T:w.toList[j]=w.getD j 0:=by rw[Array.getElem_toList];exact(by simp[Array.getD,Z]:w.getD j 0=w[j]).symm
  rw[θ,T];exact ha i j ω (by rw[<-P];exact Z)
 ·have ζ:∀O:Ae,(∀i∈O,i<g.length)->Y1g ((O.map λi=>g.getD i []).map Ycv) (O.map λi=>YbZ i):=λO=>by
   induction O with
   | nil=>exact λ_=>bJ.nil
   | cons i O ih =>
    intro h;have z:=h i (aY ..);have hd:(g.map Ycv)[i]?=some (PyData.tuple ((g.getD i []).map .int)):=by
     rw[aG,aR,aC z];rfl
    obtain⟨x,hx,ι⟩:=Y.get' hd;have T:YbZ i=x:=by rw[aR,hx];rfl
    refine bJ.cons ?_ (ih λj hj=>h j (bD _ hj));show dL H _ (YbZ i);rw[T];exact ι
  exact(ζ w.toList λi z=>by rw[<-S];exact W i z).same sm
end L2
namespace L2
open PySem PySem.Spec PyProof.Rows
section
variable{X:Cx}
end
section
variable{X:Cx}
end
end L2
namespace L2
open PySem PySem.Spec PySem.W PyProof.Rows HT
@[irreducible] def PR(K:Aa):Y1i:=λxs H Q=>∃(p:Addr) (ns:Af),xs=Y48/\Y6U p/\0<ns.length/\∀M,Y7C M->(∀a,Y7C a->M<=a)->Y1x M
def rmnl{K:Aa}{H:Hp}{Q:VK}{p:Addr}{ns:Af}(h:Y6U p)(hn:0<ns.length)(q:∀M,Y7C M->(∀a,Y7C a->M<=a)->Y1x M):PR K Y48 H Q:=by
 unfold PR;exact Y6Y p ns h hn q
def RG{X:Cx}(K:Aa)(hc:Y1d)(hK:X.K=K:=by rfl):Y4i "min" (PR K):=by
 subst hK;unfold PR;intro i s σ H R N Q I r h;obtain⟨p,G,rfl,B,n,q⟩:=h;obtain⟨u,rfl,J⟩:=nO r;cases J;obtain⟨A,y,l,S⟩:=I.list B;have m:=vZ y;obtain⟨d,e⟩:=m.allInts.items;have c:G=d.toList.map (·.1):=by rw[<-m.numsOf,<-nums_intItems,<-e]
 have g:0<d.size:=by rw[c,aA,Array.length_toList]at n;exact n
 rw[e]at l;refine min_intList (Yab) l.isList g λv M P z D=>?_;obtain⟨t,rfl⟩:=intItems_at z;obtain⟨O,C⟩:=argBest_lt (numAt d) (d.size-1);refine⟨.int _,H,I.kept D,Y5P t,q _ ?_ λa w=>?_⟩
 ·rw[c,numAt_eq];exact getD_mem (by rw[aA,Array.length_toList];exact Oo)
 ·rw[c]at w;obtain⟨j,L,rfl⟩:=mem_getD w;rw[aA,Array.length_toList]at L;rw[<-numAt_eq];exact C j Oo
end L2
namespace L2
open PySem PySem.Spec PyProof.Rows
section
variable{X:Cx}{a:Expr}{ta:TA}{p1 np p2 pos:Pos}
end
structure FnO(P:Program)(w:World)(K:Aa)(mg:Y0y)(base:Heap)(k:Nat)(C:Addr)(ps:Ah)(sp:Sp):Prop where
 ex:∃(f:Addr) (fd:FuncData),dO P w K mg base cW k f fd ps sp/\Mk K C f/\uE K fd ps []
structure Own(K:Aa)(C:Addr)(fs:Ah):Prop where
 cls:Cls K C
 no:∀f∈fs,oI K C f
@[irreducible] def aA7(K:Aa)(f:Str)(x:V)(H:Hp)(Q:VK):Prop:=∃a C dx fs v,x=Yf/\H a=Y5k/\Cls K C/\oI K C f/\Ye1=Yn/\Q v H
def VW(K:Aa)(ta:TE)(f:Str):TE:=Yal σ H (aA7 K f x H1 Q)
section
variable{X:Cx}{k:Nat}{C:Addr}{ps:Ah}{sp:Sp}{x f:Str}{p pos pos':Pos}{e o value:Expr}{es:Y0b}{t:TA}{ta tv:TE}
def IP(F:FnO X.prog X.w X.K X.mg X.base k C ps sp)(hm:Y5i=Y6 C)(hr:jB (k+1) X.A)(ha:LO X (e::es) t)(hg:Y2J:=by rfl)
  (hdb:Y1m ("__debug__" : Str):=by decide) (he:Y3n=(false,Y12)::Y2z:=by first | exact pW | exact pX | exact mC | exact iO | exact BS)
  (hpl:Yw ((backTo pos (starEach es X.env)).any (·.1)):=by repeat (first | exact qK | refine nJ (by first | exact pW | exact pX | exact mC | exact iO | exact BS) ?_)) :
  Y8J p (e::es) [] (aCG C sp [] E0 t):=⟨by
 obtain⟨f,g,c,d,a⟩:=F.ex;exact aBp d c hr hg hm a .nil XU ha.p hdb he hpl⟩
def dP(K:Aa)(he:Yp e ta)(hK:X.K=K:=by rfl)(hb:attributeBase e f X.env Y12=Y12:=by rfl):Yp (Yk6 e f) (VW K ta f):=⟨by
 subst hK;intro a s σ H Q I h;refine aEQ he.p hb a s σ H Q I ?_;unfold VW aA7 at h;exact h⟩
def nG(ha:Yp o ta)(hv:Yp value tv)(hs:YhQ (Yfl f pos')=Y3v:=by rfl):IK X (Ydx [Yfl f pos'] value) (aGf X.K ta tv f):=⟨aED ha.p hv.p hs⟩
end
section
variable{K:Aa}{H:Hp}{a C dx:Addr}{fs:Y3k}{v:V}{Q:VK}{f:Str}{ns:Ah}
def jY(O:Own K C ns)(hf:Y7C f)(e:H a=Y5k)(l:Ye1=Yn)(q:Q v H):aA7 K f (Yf) H Q:=by
 unfold aA7;exact⟨a,C,dx,fs,v,rfl,e,O.cls,O.no f hf,l,q⟩
end
end L2
namespace Mf
def lw(n d:Int):Int × Int:=(n/(Int.gcd n d:Int),d/(Int.gcd n d:Int))
structure Low(n d:Int):Prop where
 pos:0<d
 low:Y0N n d
def kQ{n d:Int}(h:0<d):0<(Int.gcd n d:Int):=by
 have:=Int.gcd_pos_of_ne_zero_right n (Int.ne_of_gt h);exact Oo
def jG{n d:Int}(h:0<d):Low (Y1C).1 (Y1C).2:=by
 have g:=Yej h;refine Y0j ?_
 ·exact Int.ediv_pos_of_pos_of_dvd h (Int.le_of_lt g) (YdC n)
 ·exact Int.gcd_ediv_gcd_ediv_gcd Oo
def aCP{n d:Int}:(Y1C).1*(Int.gcd n d:Int)=n/\(Y1C).2*(Int.gcd n d:Int)=d :=
 ⟨Int.ediv_mul_cancel (YiR n),Int.ediv_mul_cancel (YdC n)⟩
def tW{n d:Int}:(Y1C).1*d=n*(Y1C).2:=by
 obtain⟨c,e⟩:=aCP (n:=n) (d:=d);generalize (lw n d).1=a at *;generalize (lw n d).2=b at *;generalize (Int.gcd n d:Int)=g at *;rw[<-c,<-e];rw[Int.mul_assoc,Int.mul_comm g b]
def QU{b a d:Int}(h:b ∣ a*d)(g:Y0N b a):b ∣ d:=by
 rw[<-Int.natAbs_dvd_natAbs,cY]at h;rw[<-Int.natAbs_dvd_natAbs];rw[Int.gcd_eq_natAbs_gcd_natAbs]at g;exact Nat.Coprime.dvd_of_dvd_mul_left g h
def JT{a b c d:Int}(h1:Low a b)(h2:Low c d)(e:a*d=c*b):a=c/\b=d:=by
 have j:b ∣ d:=by
  have:b ∣ a*d:=by rw[e];exact Int.dvd_mul_left c b
  exact QU this (by rw[Int.gcd_comm];exact h1.low)
 have i:d ∣ b:=by
  have:d ∣ c*b:=by rw[<-e];exact Int.dvd_mul_left a d
  exact QU this (by rw[Int.gcd_comm];exact h2.low)
 have h:=h1.pos;have hd:=h2.pos;have g:b=d:=Int.dvd_antisymm (Int.le_of_lt h) (Int.le_of_lt hd) j i;subst g;exact Y5P (Int.eq_of_mul_eq_mul_right Oo e)
def HB{a b n d:Int}(h:Low a b)(hd:0<d)(e:a*d=n*b):Y1C=(a,b):=by
 have c:=Yjc n;have q:=JT (Yhj hd) h (by
  have g:d≠0:=Oo;apply Int.eq_of_mul_eq_mul_right g
  calc (Y1C).1*b*d=((Y1C).1*d)*b:=by rw[Int.mul_assoc,Int.mul_comm b d,<-Int.mul_assoc]
   _=(n*(Y1C).2)*b:=by rw[c]
   _=(n*b)*(Y1C).2:=by rw[Int.mul_assoc,Int.mul_comm (Y1C).2 b,<-Int.mul_assoc]
   _=(a*d)*(Y1C).2:=by rw[e]
   _=a*(Y1C).2*d:=by rw[Int.mul_assoc,Int.mul_comm d,<-Int.mul_assoc])
 exact Prod.ext q.1 q.2
def QB{a b:Int}(h:Low a b):lw a b=(a,b):=HB h h.pos rfl
def sP{u a b:Int}(h1:Y0N u a)(h2:Y0N u b):Y0N u (a*b):=by
 rw[Int.gcd_eq_natAbs_gcd_natAbs]at *;rw[cY];exact Nat.Coprime.mul_right h1 h2
def pQ{a b c:Int}(h:Y0N a b)(d:c ∣ b):Y0N a c:=by
 have:=Int.gcd_dvd_gcd_of_dvd_right a d;rw[h]at this;exact Nat.eq_one_of_dvd_one this
def lO{a b c:Int}(h:Y0N a b)(d:c ∣ a):Y0N c b:=by
 rw[Int.gcd_comm]at *;exact pQ h d
def aBl{a b c d:Int}(h1:Low a b)(h2:Low c d) :
  let g:Int:=Yai b
  let u:=a*(d/g)+c*(b/g)
  let l:Int:=Int.gcd u g
  lw (a*d+c*b) (b*d)=(u/l,(b/g)*(d/l)):=by
 intro g u l;have I:0<g:=kQ h2.pos;have U:0<l:=kQ I;obtain⟨r,s⟩:=YiR b;obtain⟨n,p⟩:=YdC b;have s:b=g*r:=s;have p:d=g*n:=p;have N:b/g=r:=by rw[s];exact Y49
 have S:d/g=n:=by rw[p];exact Y49
 have D:u=a*n + c*r:=by show a*(d/g)+c*(b/g)=_;rw[N,S]
 have z:Y0N r n:=by
  have:=Int.gcd_ediv_gcd_ediv_gcd (i:=b) (j:=d) (by have:0<(Int.gcd b d:Int):=I;exact Oo);have h:Y0N (b/g) (d/g):=this
  rwa [N,S]at h
 have J:Y0N a r:=pQ h1.low ⟨g,by rw[s,Int.mul_comm]⟩;have P:Y0N c n:=pQ h2.low ⟨g,by rw[p,Int.mul_comm]⟩;have T:Y0N u r:=by
  rw[D,Int.add_comm,Int.gcd_mul_right_add_left,Int.gcd_mul_right_left_of_gcd_eq_one J,Int.gcd_comm];exact z
 have X:Y0N u n:=by
  rw[D,Int.gcd_mul_right_add_left,Int.gcd_mul_right_left_of_gcd_eq_one P];exact z
 obtain⟨y,m⟩:=Int.gcd_dvd_left u g;obtain⟨w,e⟩:=Int.gcd_dvd_right u g;have m:u=l*y:=m;have e:g=l*w:=e;have R:u/l=y:=by rw[m];exact Y49
 have B:d/l=w * n:=by rw[p,e,Int.mul_assoc];exact Y49
 have M:Y0N y w:=by
  have:=Int.gcd_ediv_gcd_ediv_gcd (i:=u) (j:=g) (by have:0<(Int.gcd u g:Int):=U;exact Oo);have h:Y0N (u/l) (g/l):=this;rw[R]at h
  rwa [show g/l=w from by rw[e];exact Y49]at h
 rw[R,N,B];have A:y ∣ u:=⟨l,by rw[m,Int.mul_comm]⟩;have C:0<r:=by
  have:=h1.pos;rw[s]at this;exact Ydp Oo
 have L:0<n:=by
  have:=h2.pos;rw[p]at this;exact Ydp Oo
 have O:0<w:=by
  have:=I;rw[e]at this;exact Ydp Oo
 refine HB (Y0j (Int.mul_pos C (Int.mul_pos O L))) (Int.mul_pos h1.pos h2.pos) ?_
 ·exact sP (lO T A) (sP M (lO X A))
 ·have W:a*d+c*b=g*(l*y):=by
   rw[<-m,D,s,p];rw[Int.mul_add,Int.mul_left_comm a,Int.mul_left_comm c]
  rw[W,s,p];generalize hG:g=G at *;rw[e];simp only[Int.mul_assoc,Int.mul_left_comm,Int.mul_comm]
def VS{a b c d:Int}(h1:Low a b)(h2:Low c d) :
  let f:Int:=Yai a
  let s:Int:=Int.gcd c b
  lw (a*c) (b*d)=((a/f)*(c/s),(b/s)*(d/f)):=by
 intro f s;have N:0<f:=kQ h2.pos;have O:0<s:=kQ h1.pos;obtain⟨p,n⟩:=YiR a;obtain⟨e,m⟩:=YdC a;obtain⟨u,r⟩:=Int.gcd_dvd_left c b;obtain⟨g,l⟩:=Int.gcd_dvd_right c b;have n:a=f*p:=n;have m:d=f*e:=m;have r:c=s*u:=r;have l:b=s*g:=l;have D:a/f=p:=by rw[n];exact Y49
 have I:d/f=e:=by rw[m];exact Y49
 have G:c/s=u:=by rw[r];exact Y49
 have M:b/s=g:=by rw[l];exact Y49
 have A:Y0N p e:=by
  have:=Int.gcd_ediv_gcd_ediv_gcd (i:=a) (j:=d) (by have:0<(Int.gcd a d:Int):=N;exact Oo);have h:Y0N (a/f) (d/f):=this
  rwa [D,I]at h
 have B:Y0N u g:=by
  have:=Int.gcd_ediv_gcd_ediv_gcd (i:=c) (j:=b) (by have:0<(Int.gcd c b:Int):=O;exact Oo);have h:Y0N (c/s) (b/s):=this
  rwa [G,M]at h
 have y:Y0N p g:=lO (pQ h1.low ⟨s,by rw[l,Int.mul_comm]⟩) ⟨f,by rw[n,Int.mul_comm]⟩;have C:Y0N u e:=lO (pQ h2.low ⟨f,by rw[m,Int.mul_comm]⟩) ⟨s,by rw[r,Int.mul_comm]⟩;have w:0<g:=by
  have:=h1.pos;rw[l]at this;exact Ydp Oo
 have z:0<e:=by
  have:=h2.pos;rw[m]at this;exact Ydp Oo
 rw[D,M,G,I];refine HB (Y0j (Int.mul_pos w z)) (Int.mul_pos h1.pos h2.pos) ?_
 ·have L:Y0N p (g * e):=sP y A;have J:Y0N u (g * e):=sP B C;rw[Int.gcd_comm]at L J ⊢;exact sP L J
 ·rw[n,l,r,m];simp only[Int.mul_assoc,Int.mul_left_comm,Int.mul_comm]
end Mf
namespace Mf
abbrev Fr:=Int × Int
abbrev _root_.Ak:=List Fr
abbrev _root_.Aj:=List Ak
def gS(x y:Fr):Fr:=lw (x.1*y.2+y.1*x.2) (x.2*y.2)
def rX(fs:Ak):Fr:=fs.foldl gS (0,1)
def dS(f:Fr):Prop:=Low f.1 f.2
def pZ{α:Type}{P:Y2d Yt}(h0:P [])(hs:∀l a,P l->P (l++[a]))(l:Yt):P l:=by
 have:∀r:List α,P r.reverse:=by
  intro r
  induction r with
  | nil=>exact h0
  | cons a r ih=>rw[List.reverse_cons];exact hs _ _ ih
 have:=this l.reverse
 rwa [List.reverse_reverse]at this
def uG(l:Ak)(a:Fr):rX (l++[a])=gS (rX l) a:=by unfold rX;rw[List.foldl_append];rfl
def BI(l:Ak):(∀f∈l,Y06)->dS (rX l):=by
 refine pZ (P:=λl=>(∀f∈l,Y06)->dS (rX l)) (λ_=>Yat Dd) (λl a c h=>?_) l;rw[uG];have e:=c λf d=>h f (cO _ d);have g:=h a (bL _ aY);exact jG (Int.mul_pos e.pos g.pos)
def EY{n d:Int}(h:0<d):(Y1C).2<=d/\(lw n d).1.natAbs<=n.natAbs:=by
 obtain⟨c,e⟩:=aCP (n:=n) (d:=d);have g:=Yej h;have p:=(Yhj h).pos;generalize (lw n d).1=a at *;generalize (lw n d).2=b at *;generalize (Int.gcd n d:Int)=G at *;refine Y0j ?_
 ·rw[<-e];have:=Int.mul_le_mul_of_nonneg_left (show(1:Int)<=G by exact Oo) (Int.le_of_lt p);simpa using this
 ·rw[<-c,cY];exact Yfv Oo
def QC(x y:Fr):Prop:=x.1*y.2<y.1*x.2
def JR{x y z:Fr}(hx:0<x.2)(hy:0<y.2)(hz:0<z.2)(h1:QC x y)(h2:¬QC z y):QC x z:=by
 unfold QC at *;have h2:y.1*z.2<=z.1*y.2:=Oo;have a:(x.1*y.2)*z.2<(y.1*x.2)*z.2:=Int.mul_lt_mul_of_pos_right h1 hz;have b:(y.1*z.2)*x.2<=(z.1*y.2)*x.2:=Int.mul_le_mul_of_nonneg_right h2 (Int.le_of_lt hx);have c:(x.1*z.2)*y.2<(z.1*x.2)*y.2:=by
  calc (x.1*z.2)*y.2=(x.1*y.2)*z.2:=by simp only[Int.mul_assoc,Int.mul_left_comm,Int.mul_comm]
   _<(y.1*x.2)*z.2:=a
   _=(y.1*z.2)*x.2:=by simp only[Int.mul_assoc,Int.mul_left_comm,Int.mul_comm]
   _<=(z.1*y.2)*x.2:=b
   _=(z.1*x.2)*y.2:=by simp only[Int.mul_assoc,Int.mul_left_comm,Int.mul_comm]
 exact Int.lt_of_mul_lt_mul_right c (Int.le_of_lt hy)
def SX{x y:Fr}(h:QC x y):¬QC y x:=by unfold QC at *;exact Oo
def CF{x:Fr}:¬QC x x:=by unfold QC;exact Oo
structure jI(fs:Ak)(n p:Nat)(y:Fr):Prop where
 at_:fs[p]?=Y03
 lt:p<n
 no:∀(j:Nat) (x:Fr),j<n->fs[j]?=Yb->¬QC x y
 first:∀(j:Nat) (x:Fr),j<p->fs[j]?=Yb->QC y x
def jI.one{fs:Ak}{y:Fr}(h:fs[0]?=Y03):jI fs 1 0 y :=
 ⟨h,Oo,λj x a e=>by have:j=0:=Oo;subst this;rw[h]at e;cases e;exact CF,λj x a _=>Oo⟩
def jI.next{fs:Ak}{n p:Nat}{y z:Fr}(L:jI fs n p y)(hp:∀f∈fs,Y06)(hz:fs[n]?=Y8X)(h:QC z y):jI fs (n+1) n z:=by
 have pos:∀{j:Nat} {x:Fr},fs[j]?=Yb->0<x.2:=λe=>(hp _ (aE e)).pos;have all:∀(j:Nat) (x:Fr),j<n->fs[j]?=Yb->QC z x:=λj x a e=>JR (pos hz) (pos L.at_) (pos e) h (L.no j x a e);refine⟨hz,Oo,λj x a e=>?_,all⟩;by_cases q:j=n
 ·subst q;rw[hz]at e;cases e;exact CF
 ·exact SX (all j x Oo e)
def jI.stay{fs:Ak}{n p:Nat}{y z:Fr}(L:jI fs n p y)(hz:fs[n]?=Y8X)(h:¬QC z y):jI fs (n+1) p y :=
 ⟨L.at_,by have:=L.lt;exact Oo,λj x a e=>by
  by_cases q:j=n
  ·subst q;rw[hz]at e;cases e;exact h
  ·exact L.no j x Oo e,L.first⟩
end Mf
namespace Mf
def YF{n d n' d':Int}(hd:0<d)(hd':0<d')(e:n*d'=n' * d):Y1C=lw n' d':=by
 have h:=jG (n:=n') hd';have c:=tW (n:=n') (d:=d');generalize lw n' d'=L at c h;refine HB (a:=L.1) (b:=L.2) h hd (Int.eq_of_mul_eq_mul_right (a:=d') Oo ?_)
 calc L.1*d*d'=(L.1*d')*d:=by ac_rfl
  _=n' * L.2*d:=by rw[c]
  _=(n' * d)*L.2:=by ac_rfl
  _=n*d' * L.2:=by rw[e]
  _=n*L.2*d':=by ac_rfl
def iG(f g:Fr):Fr:=lw (f.1*g.1) (f.2*g.2)
def iF{f g:Fr}(h:Y06)(h':dS g):dS (iG f g):=jG (Yj1 h'.pos)
def aE3{a b c d:Int}(hb:0<b)(hd:0<d):iG (lw a b) (lw c d)=lw (a*c) (b*d):=by
 have g:=(jG (n:=a) hb).pos;have i:=(jG (n:=c) hd).pos;refine YF (Int.mul_pos g i) (Int.mul_pos hb hd) ?_;have e:=tW (n:=a) (d:=b);have h:=Yjc c;generalize lw a b=L at *;generalize lw c d=M at *
 calc L.1*M.1*(b*d)=(L.1*b)*(M.1*d):=by ac_rfl
  _=(a*L.2)*(c*M.2):=by rw[e,h]
  _=a*c*(L.2*M.2):=by ac_rfl
def zS(f:Fr)(c:Nat):Fr:=(f.1^c,f.2^c)
theorem pI{f:Fr}(h:Y06):∀c:Nat,dS (zS f c)
 | 0=>⟨by show 0<f.2^0;rw[Int.pow_zero];decide,by show Int.gcd (f.1^0) (f.2^0)=1;rw[Int.pow_zero,Int.pow_zero];decide⟩
 | c+1=>by
  have ih:=pI h c;have k:∀n:Nat,Int.gcd f.1 (f.2^n)=1:=λn=>by
   induction n with
   | zero=>rw[Int.pow_zero];exact Int.gcd_one_right _
   | succ n ih=>rw[Int.pow_succ];exact sP ih h.low
  refine⟨?_,?_⟩
  ·show 0<f.2^(c+1);rw[Int.pow_succ];exact Int.mul_pos ih.pos h.pos
  ·show Int.gcd (f.1^(c+1)) (f.2^(c+1))=1;have a:∀n:Nat,Int.gcd (f.2^(c+1)) (f.1^n)=1:=λn=>by
    induction n with
    | zero=>rw[Int.pow_zero];exact Int.gcd_one_right _
    | succ n ih=>rw[show f.1^(n+1)=f.1^n*f.1 from Int.pow_succ ..];exact sP ih (by rw[Int.gcd_comm];exact k (c+1))
   rw[Int.gcd_comm];exact a (c+1)
def wJ(zs:Y3D):Fr:=YjA (p.1*q.1.1^q.2,p.2*q.1.2^q.2) (1,1)
def oA(zs:Y3D):Fr:=YjA (iG p (zS q.1 q.2)) (1,1)
def uF(l:Y3D)(a:Fr × Nat):wJ (l++[a])=((wJ l).1*a.1.1^a.2,(wJ l).2*a.1.2^a.2):=by unfold wJ;rw[List.foldl_append];rfl
def xX(l:Y3D)(a:Fr × Nat):oA (l++[a])=iG (oA l) (zS a.1 a.2):=by unfold oA;rw[List.foldl_append];rfl
def BG(l:Y3D):(∀z∈l,dS z.1)->0<(wJ l).2:=by
 induction l using pZ with
 | h0=>intro _;decide
 | hs l a ih =>
  intro h;rw[uF];exact Int.mul_pos (ih λf c=>h f (cO _ c)) (pI (h a (by simp)) a.2).pos
def GD(l:Y3D):(∀z∈l,dS z.1)->oA l=lw (wJ l).1 (wJ l).2:=by
 induction l using pZ with
 | h0=>intro _;rfl
 | hs l a ih =>
  intro h;have c:∀f∈l,dS f.1:=λf g=>h f (cO _ g);have d:=pI (h a (by simp)) a.2;rw[xX,uF,ih c];have e:zS a.1 a.2=lw (a.1.1^a.2) (a.1.2^a.2):=(QB d).symm;rw[e,aE3 (BG l c) (show 0<a.1.2^a.2 from d.pos)]
def tH(l:Y3D)(h:∀z∈l,dS z.1):dS (oA l):=by rw[GD l h];exact jG (BG l h)
def yI{x:Int}{B:Nat}(h:Yfh (2^B))(c:Nat):(x^c).natAbs<=2^(B*c):=by
 rw[Int.natAbs_pow,Nat.pow_mul];exact Nat.pow_le_pow_left h c
def aAJ{B:Nat}(l:Y3D):(∀z∈l,z.1.1.natAbs<=2^B/\z.1.2.natAbs<=2^B)->(wJ l).1.natAbs<=2^(B*(l.map (·.2)).sum)/\(wJ l).2.natAbs<=2^(B*(l.map (·.2)).sum):=by
 induction l using pZ with
 | h0=>intro _;exact⟨Nat.one_le_two_pow,Nat.one_le_two_pow⟩
 | hs l a ih =>
  intro h;obtain⟨c,g⟩:=ih λf d=>h f (cO _ d);obtain⟨e,i⟩:=h a (by simp);rw[uF,bE,List.sum_append,show([a].map (·.2)).sum=a.2 by simp,Nat.mul_add,Nat.pow_add];exact⟨by show((wJ l).1*a.1.1^a.2).natAbs<=_;rw[cY];exact Nat.mul_le_mul c (yI e _),by show((wJ l).2*a.1.2^a.2).natAbs<=_;rw[cY];exact Nat.mul_le_mul g (yI i _)⟩
def aAK{B:Nat}(l:Y3D)(hl:∀z∈l,dS z.1)(h:∀z∈l,z.1.1.natAbs<=2^B/\z.1.2.natAbs<=2^B):(oA l).1.natAbs<=2^(B*(l.map (·.2)).sum)/\(oA l).2.natAbs<=2^(B*(l.map (·.2)).sum):=by
 obtain⟨c,g⟩:=aAJ l h;rw[GD l hl];have a:=BG l hl;obtain⟨e,d⟩:=EY (n:=(wJ l).1) a;have:=(jG (n:=(wJ l).1) a).pos;exact Y1N (aL d c)
def IM(l:Y3D):(∀z∈l,0<=z.1.1)->0<=(wJ l).1:=by
 induction l using pZ with
 | h0=>intro _;decide
 | hs l a ih =>
  intro h;rw[uF];exact Int.mul_nonneg (ih λf c=>h f (cO _ c)) (Int.pow_nonneg (h a (by simp)))
end Mf
namespace Mf
def rv(f:Fr):Rat:=(f.1:Rat)/(f.2:Rat)
def CS{d:Int}(h:0<d):(0:Rat)<(d:Rat):=by exact_mod_cast h
def lF{d:Int}(h:0<d):(d:Rat)≠0:=by have:=CS h;grind
def pG{f:Fr}(h:0<f.2):Y0D*(f.2:Rat)=(f.1:Rat):=by
 have:=lF h;unfold rv;grind
def ER{n d:Int}(h:0<d):rv (Y1C)=(n:Rat)/(d:Rat):=by
 have e:=Yjc n;have p:=(Yhj h).pos;have g:=lF h;have i:=lF p;have c:((lw n d).1:Rat)*(d:Rat)=(n:Rat)*((lw n d).2:Rat):=by exact_mod_cast e
 unfold rv;generalize ((lw n d).1:Rat)=a at *;generalize ((lw n d).2:Rat)=b at *;grind
def nB{f g:Fr}(hf:0<f.2)(hg:0<g.2):rv (gS f g)=Y0D+Y2v:=by
 unfold gS;rw[ER (Int.mul_pos hf hg)];have a:=lF hf;have c:=lF hg;unfold rv;rw[Rat.intCast_add,Rat.intCast_mul,Rat.intCast_mul,Rat.intCast_mul];grind
def jE{f g:Fr}(hf:0<f.2)(hg:0<g.2):rv (iG f g)=Y0D*Y2v:=by
 unfold iG;rw[ER (Int.mul_pos hf hg)];have a:=lF hf;have c:=lF hg;unfold rv;rw[Rat.intCast_mul,Rat.intCast_mul];grind
def GP(f:Fr):rv (-f.1,f.2)=- Y0D:=by
 unfold rv;rw[show(((-f.1,f.2):Fr).1:Rat)=-(f.1:Rat)by rw[<-Rat.intCast_neg]];grind
def iK{f g:Fr}(hf:Y06)(hg:dS g)(e:Y0D=Y2v):f=g:=by
 have d:=lF hf.pos;have h:=lF hg.pos;have c:(f.1:Rat)*(g.2:Rat)=(g.1:Rat)*(f.2:Rat):=by
  have a:=pG hf.pos;have b:=pG hg.pos;rw[<-a,<-b,e];grind
 have q:=JT hf hg (by exact_mod_cast c);exact Prod.ext q.1 q.2
def WT{f g:Fr}(hf:0<f.2)(hg:0<g.2):f.1*g.2<g.1*f.2↔Y0D<Y2v:=by
 have c:=CS hf;have i:=CS hg;have a:=pG hf;have b:=pG hg;have p:(0:Rat)<(f.2:Rat)*(g.2:Rat):=Yk0 i;have e:((f.1*g.2:Int):Rat)=Y0D*((f.2:Rat)*(g.2:Rat)):=by rw[Rat.intCast_mul,<-a];grind
 have d:((g.1*f.2:Int):Rat)=Y2v*((f.2:Rat)*(g.2:Rat)):=by rw[Rat.intCast_mul,<-b];grind
 rw[<-Rat.intCast_lt_intCast,e,d];constructor
 ·intro h;exact Rat.lt_of_mul_lt_mul_right h (Rat.le_of_lt p)
 ·intro h;exact Rat.mul_lt_mul_of_pos_right h p
def oP:rv (0,1)=0:=by unfold rv;grind
def sE:rv (1,1)=1:=by unfold rv;grind
def vF(l:Y22):Rat:=l.foldr (· + ·) 0
def BO:vF []=0:=rfl
def qN(x:Rat)(l:Y22):vF (x::l)=x+vF l:=rfl
theorem tK:∀(a b:Y22),vF (a++b)=vF a+vF b
 | [],b=>by rw[BO,List.nil_append];grind
 | x::a,b=>by rw[List.cons_append,qN,qN,tK a b];grind
def WR(l:Ak):(∀f∈l,Y06)->rv (rX l)=vF (l.map rv):=by
 induction l using pZ with
 | h0=>intro _;exact oP
 | hs l a ih =>
  intro h;have c:∀f∈l,Y06:=λf d=>h f (cO _ d);rw[uG,nB (BI l c).pos (h a (by simp)).pos,ih c,bE,tK,bH,List.map_nil,qN,BO];grind
def Fn(N B:Nat)(f:Fr):Prop:=Y06/\∃x:Int,Y0D*(N:Rat)=(x:Rat)/\Yfh (B*N)
def Fn.low{N B:Nat}{f:Fr}(h:Y2p):Y06:=h.1
def Fn.le{N B C:Nat}{f:Fr}(h:Y2p)(hB:B<=C):Fn N C f:=by
 obtain⟨l,x,a,c⟩:=h;exact⟨l,x,a,aL c (Y2a hB)⟩
def uB{f g:Fr}(h:Y06)(h':dS g):dS (gS f g):=jG (Yj1 h'.pos)
def Fn.add{N B C:Nat}{f g:Fr}(h:Y2p)(h':Fn N C g):Fn N (B+C) (gS f g):=by
 obtain⟨l,x,d,e⟩:=h;obtain⟨a,y,c,i⟩:=h';refine Y1R (uB l a) (x+y) ?_
 ·rw[nB l.pos a.pos,Rat.intCast_add,<-d,<-c];grind
 ·rw[Nat.add_mul];exact Oo
def Fn.mul{N M B C:Nat}{f g:Fr}(h:Y2p)(h':Fn M C g):Fn (N*M) (B*C) (iG f g):=by
 obtain⟨l,x,d,e⟩:=h;obtain⟨a,y,c,i⟩:=h';refine Y1R (iF l a) (x*y) ?_
 ·rw[jE l.pos a.pos,Rat.intCast_mul,<-d,<-c,Rat.natCast_mul];grind
 ·rw[cY];have:=Nat.mul_le_mul e i;rw[Nat.mul_mul_mul_comm]at this;exact this
def Fn.neg{N B:Nat}{f:Fr}(h:Y2p):Fn N B (-f.1,f.2):=by
 obtain⟨l,x,a,c⟩:=h;refine Y1R ⟨l.pos,by show Y0N (-f.1) f.2;rw[Int.neg_gcd];exact l.low⟩ (-x) ?_
 ·rw[GP,Rat.intCast_neg,<-a];grind
 ·rw[Int.natAbs_neg];exact c
def Fn.up{N B:Nat}{f:Fr}(h:Y2p)(M:Nat):Fn (N*M) B f:=by
 obtain⟨l,x,a,c⟩:=h;refine Y1R l (x*(M:Int)) ?_
 ·rw[Rat.intCast_mul,<-a,Rat.natCast_mul];have:((M:Int):Rat)=(M:Rat):=rfl;rw[this];grind
 ·rw[cY,<-Nat.mul_assoc];exact Y2a c
def Fn.dvd{N M B:Nat}{f:Fr}(h:Y2p)(d:N ∣ M):Fn M B f:=by
 obtain⟨e,rfl⟩:=d;exact h.up e
def sJ(N:Nat):((N:Int):Rat)=(N:Rat):=rfl
def SY:dS (0,1):=Yat Dd
def NF:dS (1,1):=Yat Dd
def Fn.zero(N:Nat):Fn N 0 (0,1):=⟨SY,0,by rw[oP];grind,by simp⟩
def Fn.one(N:Nat):Fn N 1 (1,1):=⟨NF,N,by rw[sE,sJ];grind,by simp⟩
def Fn.eq{N B:Nat}{f:Fr}(h:Y2p)(hN:0<N):∃x:Int,f=lw x (N:Int)/\Yfh (B*N):=by
 obtain⟨l,x,c,d⟩:=h;have a:(0:Int)<(N:Int):=Oo;refine⟨x,iK l (jG a) ?_,d⟩;rw[ER a,<-c,sJ];have:=lF a;rw[sJ]at this;grind
def Fn.of{n d:Int}{B:Nat}(h:0<d)(hB:n.natAbs<=B*d.natAbs):Fn d.natAbs B (Y1C):=by
 refine⟨jG h,n,?_,hB⟩;have e:(d.natAbs:Int)=d:=Oo;rw[ER h,<-sJ,e];have:=lF h;grind
def Fn.num{N B:Nat}{f:Fr}(h:Y2p)(hN:0<N):f.1.natAbs<=B*N/\f.2.natAbs<=N:=by
 obtain⟨x,rfl,a⟩:=h.eq hN;have q:=EY (n:=x) (d:=(N:Int)) Oo;have p:=(jG (n:=x) (d:=(N:Int)) Oo).pos;exact Oo
def Fn.tot{N B:Nat}:∀(fs:Ak),(∀f∈fs,Y2p)->Fn N (fs.length*B) (rX fs):=by
 intro fs
 induction fs using pZ with
 | h0=>intro _;exact(Fn.zero N).le (Y0l)
 | hs l a ih =>
  intro h;rw[uG,aW,List.length_singleton,Nat.add_mul,Nat.one_mul];exact(ih λf c=>h f (cO _ c)).add (h a (bL _ (cA.mpr rfl)))
end Mf
namespace Mf
def mQ:Y22->Rat
 | []=>0
 | [x]=>x
 | x::y::l=>if x<=mQ (y::l) then x else mQ (y::l)
theorem uX:∀{l:Y22}{x:Rat},x∈l->mQ l<=x
 | [],x,h=>by cases h
 | [y],x,h=>by
  rw[cA.mp h];exact Rat.le_refl
 | a::b::l,x,h=>by
  have ih:=λx h=>uX (l:=b::l) (x:=x) h;unfold mQ;rcases bN.mp h with rfl | h
  ·split
   ·exact Rat.le_refl
   ·grind
  ·have:=ih x h;split <;> grind
theorem xG:∀{l:Y22},l≠[]->mQ l∈l
 | [],h=>absurd rfl h
 | [y],_=>cA.mpr rfl
 | a::b::l,_=>by
  have ih:=xG (l:=b::l) (by simp);unfold mQ;split
  ·exact aY ..
  ·exact bD _ ih
def GZ{l:Y22}{m:Rat}(h:m∈l)(k:∀x∈l,m<=x):mQ l=m:=by
 have c:=uX h;have a:=k _ (xG (l:=l) (λe=>by rw[e]at h;cases h));grind
def cE(n:Nat)(f:Yv):Rat:=vF ((List.range n).map f)
def gI(f:Yv):cE 0 f=0:=rfl
def dQ(n:Nat)(f:Yv):cE (n+1) f=Y86+f n:=by
 unfold cE;rw[List.range_succ,bE,tK,bH,List.map_nil,qN,BO];grind
def bT{n:Nat}{f g:Yv}(h:∀i,i<n->f i=g i):Y86=cE n g:=by
 induction n with
 | zero=>rfl
 | succ n ih=>rw[dQ,dQ,ih λi a=>h i Oo,h n Oo]
def nR(n:Nat)(f g:Yv):Y3X n (f i+g i)=Y86+cE n g:=by
 induction n with
 | zero=>rw[gI,gI,gI];grind
 | succ n ih=>rw[dQ,dQ,dQ,ih];grind
def eM(n:Nat)(a:Rat)(f:Yv):Y3X n (a*f i)=a*Y86:=by
 induction n with
 | zero=>rw[gI,gI];grind
 | succ n ih=>rw[dQ,dQ,ih];grind
def mU{n:Nat}{f g:Yv}(h:∀i,i<n->f i<=g i):Y86<=cE n g:=by
 induction n with
 | zero=>rw[gI,gI];exact Rat.le_refl
 | succ n ih =>
  have c:=ih λi a=>h i Oo;have d:=h n Oo;rw[dQ,dQ];grind
def iY(n:Nat):cE n Y3S=0:=by
 induction n with
 | zero=>rfl
 | succ n ih=>rw[dQ,ih];grind
def uI{n:Nat}{f:Yv}(h:∀i,i<n->0<=f i):0<=Y86:=by
 have:=mU (n:=n) (f:=Y3S) (g:=f) h
 rwa [iY]at this
def wK{n:Nat}(f:Yv){w:Nat}(h:w<n):Y86-f w=Y3X n (if i=w then 0 else f i):=by
 induction n with
 | zero=>exact Oo
 | succ n ih =>
  rw[dQ,dQ];by_cases e:w=n
  ·subst e;rw[Yr,bT (g:=f) λi a=>Y2O];grind
  ·rw[Y3u (e q.symm),<-ih Oo];grind
def cH(c:Ae)(i:Nat):Ae:=c.set i (c.getD i 0+1)
def oC(W:Nat)(d:Yv):Y22:=(List.range W).map λw=>cE W d-d w
def rD{W:Nat}{d:Yv}{x:Rat}:x∈oC W d ↔ ∃w,w<W/\x=cE W d-d w:=by
 unfold oC;rw[aN];constructor
 ·rintro⟨w,h,rfl⟩;exact Y4W w (cD.mp h)
 ·rintro⟨w,h,rfl⟩;exact Y4W w (cD.mpr h)
def qM(W F:Nat)(q:Nat->Yz)(mix ps cs:Yv):Nat->Yz
 | 0,c=>mQ (oC W λv=>ps v*q v c)
 | n+1,c=>mQ (oC W (λv=>ps v*q v c)++[cs c.sum*cE W (λv=>mix v*q v c)+cE F (λj=>qM W F q mix ps cs n (cH c j))])
section
variable{W F:Nat}{q:Nat->Yz}{mix ps ps' cs:Yv}
def EG(n:Nat)(c:Ae):Y4j W F q (n+1) c=mQ (oC W (λv=>Y1q*q v c)++[cs c.sum*Y0q (Y5r*q v c)+YcZ F (Y4j W F q n Y33)]):=rfl
def MM(hW:0<W)(d:Yv):oC W d≠[]:=λe=>by
 have:cE W d-d 0∈oC W d:=YhJ 0 hW;rw[e]at this;cases this
end
end Mf
namespace Mf
theorem GI:∀(l:Ae) (j v x:Nat),l[j]?=Yb->(l.set j v).sum+x=l.sum+v
 | [],j,v,x,h=>by simp at h
 | a::l,0,v,x,h=>by
  have:a=x:=by simpa using h
  subst this;simp only[List.set_cons_zero,List.sum_cons];exact Oo
 | a::l,j+1,v,x,h=>by
  have:=GI l j v x (by simpa using h);simp only[List.set_cons_succ,List.sum_cons];exact Oo
def cta:Nat->Nat->Ab
 | 0,_=>[]
 | 1,m=>[[m]]
 | F+2,m=>(List.range (m+1)).flatMap λk=>(cta (F+1) (m-k)).map λc=>k::c
theorem iX:∀{F m:Nat}{c:Ae},Y1T (Y6K m)->Y2E/\c.sum=m
 | 0,m,c,h=>by cases h
 | 1,m,c,h=>by
  have:c=[m]:=by simpa[cta]using h
  subst this;simp
 | F+2,m,c,h=>by
  obtain⟨k,a,h⟩:=List.mem_flatMap.mp h;obtain⟨d,hd,rfl⟩:=aN.mp h;have a:=cD.mp a;obtain⟨e,g⟩:=iX hd;refine⟨by simp[e],?_⟩;rw[List.sum_cons];exact Oo
end Mf
namespace Mf
def Qn(N B:Nat)(x:Rat):Prop:=∃z:Int,x*(N:Rat)=(z:Rat)/\z.natAbs<=B*N
def Fn.q{N B:Nat}{f:Fr}(h:Y2p):Y3H Y0D:=h.2
theorem Qn.f{N B:Nat}{f:Fr}(l:Y06)(h:Y3H Y0D):Y2p:=⟨l,h⟩
def eV(x:Rat):Fr:=(x.num,(x.den:Int))
def bO(x:Rat):dS (eV x):=by
 refine Y0j ?_
 ·show(0:Int)<(x.den:Int);have:=x.den_pos;exact Oo
 ·show Y0N x.num (x.den:Int);rw[Int.gcd_eq_natAbs_gcd_natAbs,Int.natAbs_natCast];exact x.reduced
def cV(x:Rat):rv (eV x)=x:=by
 unfold rv eV;show(x.num:Rat)/((x.den:Int):Rat)=x;rw[<-Rat.divInt_eq_div,Rat.num_divInt_den]
def aFm{f:Fr}(h:Y06):eV (Y0D)=f:=iK (Y00) h (cV _)
def Qn.fq{N B:Nat}{x:Rat}(h:Y9z):Fn N B (eV x):=⟨bO x,by rw[cV];exact h⟩
def Qn.le{N B C:Nat}{x:Rat}(h:Y9z)(hB:B<=C):Qn N C x:=by
 obtain⟨z,a,c⟩:=h;exact⟨z,a,aL c (Y2a hB)⟩
def Qn.add{N B C:Nat}{x y:Rat}(h:Y9z)(h':Qn N C y):Qn N (B+C) (x+y):=by
 obtain⟨z,c,d⟩:=h;obtain⟨u,a,e⟩:=h';refine Y43 (z+u)
 ·rw[Rat.intCast_add,<-c,<-a];grind
 ·rw[Nat.add_mul];exact Oo
def Qn.neg{N B:Nat}{x:Rat}(h:Y9z):Y3H (-x):=by
 obtain⟨z,a,c⟩:=h;refine⟨-z,?_,by rw[Int.natAbs_neg];exact c⟩;rw[Rat.intCast_neg,<-a];grind
def Qn.sub{N B C:Nat}{x y:Rat}(h:Y9z)(h':Qn N C y):Qn N (B+C) (x-y):=by
 have:=h.add h'.neg
 rwa [<-Rat.sub_eq_add_neg]at this
def Qn.mul{N M B C:Nat}{x y:Rat}(h:Y9z)(h':Qn M C y):Qn (N*M) (B*C) (x*y):=by
 obtain⟨z,c,d⟩:=h;obtain⟨u,a,e⟩:=h';refine Y43 (z*u)
 ·rw[Rat.intCast_mul,<-c,<-a,Rat.natCast_mul];grind
 ·rw[cY];have:=Nat.mul_le_mul d e;rw[Nat.mul_mul_mul_comm]at this;exact this
def Qn.dvd{N M B:Nat}{x:Rat}(h:Y9z)(d:N ∣ M):Qn M B x:=by
 obtain⟨e,rfl⟩:=d;obtain⟨z,a,c⟩:=h;refine Y43 (z*(e:Int))
 ·rw[Rat.intCast_mul,<-a,Rat.natCast_mul,sJ];grind
 ·rw[cY,<-Nat.mul_assoc];exact Y2a c
def Qn.zero(N B:Nat):Y3H 0:=⟨0,by grind,by simp⟩
theorem Qn.sumR{N B:Nat}{f:Yv}:∀{n:Nat},(∀i,i<n->Y3H (f i))->Qn N (n*B) Y86
 | 0,_=>by rw[gI];exact Qn.zero _ _
 | n+1,h=>by
  rw[dQ,Nat.add_mul,Nat.one_mul];exact(Qn.sumR λi hi=>h i Oo).add (h n Oo)
def Qn.min{N B:Nat}{l:Y22}(h:∀x∈l,Y9z)(ne:l≠[]):Y3H (mQ l):=h _ (xG ne)
def WS{f:Fr}(h:Y06)(n:Nat):rv (zS f n)=Y0D^n:=by
 have c:=lF h.pos
 induction n with
 | zero=>unfold zS rv;grind
 | succ n ih =>
  have e:rv (zS f (n+1))=rv (zS f n)*Y0D:=by
   have a:=lF (pI h n).pos;unfold zS rv at *;simp only[Int.pow_succ,Rat.intCast_mul]at *;generalize ((f.1^n:Int):Rat)=u at *;generalize ((f.2^n:Int):Rat)=v at *;grind
  rw[e,ih,Rat.pow_succ]
theorem Qn.pow{N:Nat}{x:Rat}(h:Qn N 1 x):∀n:Nat,Qn (N^n) 1 (x^n)
 | 0=>⟨1,by rw[Rat.pow_zero,Nat.pow_zero];grind,by simp⟩
 | n+1=>by
  rw[Rat.pow_succ,Nat.pow_succ];exact(Qn.pow h n).mul h
def aDb{N:Nat}(l:Y3D):(∀z∈l,Fn N 1 z.1)->Qn (N^(l.map (·.2)).sum) 1 (rv (oA l)):=by
 induction l using pZ with
 | h0=>intro _;exact⟨1,by show rv (1,1)*_=_;rw[sE];simp,by simp⟩
 | hs l a ih =>
  intro h;have e:∀z∈l,Fn N 1 z.1:=λz d=>h z (cO _ d);have c:=h a (by simp);rw[xX,jE (tH l λz d=>(e z d).low).pos (pI c.low a.2).pos,WS c.low,bE,List.sum_append,Nat.pow_add];have:=(ih e).mul (c.q.pow a.2);simpa using this
def PF{f:Fr}(h:Y06)(h0:0<=f.1):0<=Y0D:=by
 have a:=CS h.pos;have e:=pG h.pos;have c:(0:Rat)<=(f.1:Rat):=by exact_mod_cast h0
 have:Y0D=(f.1:Rat)*(f.2:Rat)⁻¹:=by unfold rv;exact Rat.div_def _ _
 rw[this];exact bR c (Rat.le_of_lt (Rat.inv_pos.mpr a))
def aDc(l:Y3D):(∀z∈l,dS z.1/\0<=z.1.1)->0<=rv (oA l):=by
 intro h;have c:∀z∈l,dS z.1:=λz a=>(h z a).1;refine PF (tH l c) ?_;rw[GD l c];have d:=IM l λz a=>(h z a).2;exact Yi2 d _
def RT{α:Type}(l:Yt)(m:Ae):((l.zip m).map (·.2)).sum<=m.sum:=by
 induction l generalizing m with
 | nil=>simp
 | cons a l ih =>
  cases m with
  | nil=>simp
  | cons b m =>
   have:=ih m;simp only[List.zip_cons_cons,bH,List.sum_cons];exact Oo
def wq(fs:Ak)(c:Ae):Rat:=rv (oA (fs.zip c))
def OP{N M:Nat}{fs:Ak}{c:Ae}(h:∀f∈fs,Fn N 1 f)(hc:Y5u):Qn (N^M) 1 (wq fs c):=by
 have d:=aDb (fs.zip c) (λz e=>h z.1 (List.of_mem_zip (a:=z.1) (b:=z.2) e).1);have g:=RT fs c;exact d.dvd (Nat.pow_dvd_pow _ Oo)
def aCA{fs:Ak}{c:Ae}(h:∀f∈fs,Y06/\0<=f.1):0<=wq fs c :=
 aDc _ λz d=>h z.1 (Yic z.1 z.2).1
@[irreducible] def WB:Nat:=2^680
def aG3:1000000000000000000000<=WB:=by unfold WB;exact Y44 (show 1000000000000000000000<=2^70 by decide)
def aJz:4*WB<=2^690:=by unfold WB;exact Y44 (Nat.le_of_eq (show 4*2^680=2^682 by rw[show(4:Nat)=2^2 from rfl,<-Nat.pow_add]))
structure lH(F W M:Nat)(ss:Aj)(mix ps cs:Ak)(Ns Nm Np Nc B:Nat):Prop where
 f1:1<=F
 f4:F<=4
 w1:1<=W
 w4:W<=4
 m5:M<=5
 sl:ss.length=W
 ml:mix.length=W
 pl:ps.length=W
 cl:Yew M
 sh:∀s∈ss,s.length=F/\∀f∈s,Y94
 mx:∀f∈mix,Fn Nm 1 f
 pr:∀f∈ps,Fn Np B f
 co:∀f∈cs,Fn Nc B f
 pos:0<Np*Nc*Nm*Ns^M
 sz:Np*Nc*Nm*Ns^M<Y0i
 b:2097152*B<=WB
def hZ(ss:Aj)(v:Nat)(c:Ae):Rat:=wq (ss.getD v []) c
def cS(ps:Ak)(v:Nat):Rat:=rv (ps.getD v (0,1))
def wor(F W M:Nat)(ss:Aj)(mix ps cs:Ak)(c:Ae):Rat:=qM W F (Y7L) (Y4t) (cS ps) (cS cs) (Y2q) c
def eO{α:Type}{l:Yt}{j:Nat}{a:α}(h:j<l.length):l.getD j a∈l:=by
 rw[aR,aC h];exact List.getElem_mem h
section
variable{F W M:Nat}{ss:Aj}{mix ps cs:Ak}{Ns Nm Np Nc B:Nat}
def lH.qn(I:lH F W M ss mix ps cs Ns Nm Np Nc B){v:Nat}(hv:v<W){c:Ae}(hc:Y5u):Qn (Ns^M) 1 (Y5v):=OP (I.sh _ (eO (by rw[I.sl];exact hv))).2 hc
def lH.due(I:lH F W M ss mix ps cs Ns Nm Np Nc B){v:Nat}(hv:v<W){c:Ae}(hc:Y5u):Qn (Np*Nc*Nm*Ns^M) B (cS ps v*Y5v):=by
 have h:=(I.pr _ (eO (a:=(0,1)) (by rw[I.pl];exact hv))).q.mul (I.qn hv hc);rw[Nat.mul_one]at h;exact h.dvd ⟨Nc*Nm,by ac_rfl⟩
def lH.met(I:lH F W M ss mix ps cs Ns Nm Np Nc B){v:Nat}(hv:v<W){c:Ae}(hc:Y5u):Qn (Nm*Ns^M) 1 (cS mix v*Y5v):=by
 have h:=(I.mx _ (eO (a:=(0,1)) (by rw[I.ml];exact hv))).q.mul (I.qn hv hc)
 rwa [Nat.mul_one]at h
def lH.paid(I:lH F W M ss mix ps cs Ns Nm Np Nc B){c:Ae}(hc:Y1z):Qn (Np*Nc*Nm*Ns^M) (4*B) (Y8B*Y0q (cS mix v*Y5v)):=by
 have e:=(I.co _ (eO (a:=(0,1)) (show c.sum<cs.length by rw[I.cl];exact hc))).q;have h:=Ygb (λv g=>I.met g (Nat.le_of_lt hc));have d:=e.mul h;have i:B*(W*1)<=4*B:=by
  have:=dI B I.w4;rw[Nat.mul_one];exact Oo
 exact(d.le i).dvd ⟨Np,by ac_rfl⟩
def gX{c:Ae}{j:Nat}(h:j<c.length):(Y33).sum=c.sum+1:=by
 unfold cH;have a:c[j]?=some (c.getD j 0):=by rw[aR,aC h];rfl
 have:=GI c j (c.getD j 0+1) _ a;exact Oo
def rL(c:Ae)(j:Nat):(Y33).length=c.length:=by unfold cH;rw[List.length_set]
def lH.says(I:lH F W M ss mix ps cs Ns Nm Np Nc B){c:Ae}(hc:Y5u):∀x∈oC W (λv=>cS ps v*hZ ss v c),Qn (Np*Nc*Nm*Ns^M) (5*B) x:=by
 intro x d;obtain⟨w,g,rfl⟩:=rD.mp d;have a:=Ygb (λv e=>I.due e hc);have h:=a.sub (I.due g hc);refine h.le ?_;have:=bF B I.w4;exact Oo
theorem lH.worn(I:lH F W M ss mix ps cs Ns Nm Np Nc B):∀(n:Nat) (c:Ae),Y2E->c.sum+n=M->Qn (Np*Nc*Nm*Ns^M) (8^(n+1)*B) (qM W F (Y7L) (Y4t) (cS ps) (cS cs) n c)
 | 0,c,hl,hn=>Qn.min (λx hx=>(I.says Oo x hx).le Oo) (MM I.w1 _)
 | n+1,c,hl,hn=>by
  rw[EG];have hp:8^(n+1+1)=8*8^(n+1):=by rw[Nat.pow_succ];exact Oo
  have d:1<=8^(n+1):=Nat.one_le_pow _ _ Dd;have g:B<=8^(n+1)*B:=Nat.le_mul_of_pos_left _ d;have h:8^(n+1+1)*B=8*(8^(n+1)*B):=by rw[hp,Nat.mul_assoc]
  refine Qn.min (λx hx=>?_) (by simp);rcases dJ.mp hx with hx | hx
  ·exact(I.says Oo x hx).le Oo
  ·rw[cA.mp hx];have e:=I.paid (c:=c) Oo;have a:=Qn.sumR (n:=F) λj i=>I.worn n (cH c j) (by rw[rL];exact hl) (by rw[gX Oo];exact Oo);refine(e.add a).le ?_;have l:F*(8^(n+1)*B)<=4*(8^(n+1)*B):=bF _ I.f4;exact Oo
end
def rise(F M:Nat):Ab:=(List.range (M+1)).flatMap (cta F)
theorem AQ:∀{F m:Nat}{c:Ae},1<=F->Y2E->c.sum=m->Y1T (Y6K m)
 | 0,m,c,h,_,_=>Oo
 | 1,m,c,_,hl,hs=>by
  obtain⟨x,rfl⟩:∃x,c=[x]:=by
   match c,hl with
   | [x],_=>exact⟨x,rfl⟩
  have:x=m:=by simpa using hs
  subst this;simp[cta]
 | F+2,m,c,_,hl,hs=>by
  cases c with
  | nil=>simp at hl
  | cons x c =>
   rw[List.sum_cons]at hs;unfold cta;refine List.mem_flatMap.mpr ⟨x,cD.mpr Oo,aN.mpr ⟨c,AQ Oo (by simpa using hl) Oo,rfl⟩⟩
def gA{F M:Nat}{c:Ae}(hF:1<=F):Y3d c↔Y2E/\Y5u:=by
 unfold rise;rw[List.mem_flatMap];constructor
 ·rintro⟨m,e,d⟩;have:=cD.mp e;obtain⟨a,g⟩:=iX d;exact Y1N a
 ·rintro⟨a,g⟩;exact⟨c.sum,cD.mpr Oo,AQ hF a rfl⟩
theorem pY(F:Nat):∀M:Nat,(rise F M).Pairwise λa b=>a.sum<=b.sum
 | 0=>by
  unfold rise;rw[List.range_succ,List.range_zero,List.nil_append,List.flatMap_singleton];refine List.pairwise_iff_forall_sublist.mpr λ{a b} h=>?_;have ha:a∈cta F 0:=h.subset (by simp);have:=(iX ha).2;exact Oo
 | M+1=>by
  have d:=pY F M;unfold rise at *;rw[List.range_succ,List.flatMap_append,List.flatMap_singleton];refine List.pairwise_append.mpr ⟨d,?_,λa ha b c=>?_⟩
  ·refine List.pairwise_iff_forall_sublist.mpr λ{a b} h=>?_;have ha:a∈cta F (M+1):=h.subset (by simp);have c:b∈cta F (M+1):=h.subset (by simp);have e:=(iX ha).2;have i:=(iX c).2;exact Oo
  ·obtain⟨m,g,ha⟩:=List.mem_flatMap.mp ha;have:=cD.mp g;have e:=(iX ha).2;have i:=(iX c).2;exact Oo
def tS{F M k:Nat}{c d:Ae}(h:Y07[k]?=Y1b)(hd:Y3d d)(hs:c.sum < d.sum):d∈(rise F M).drop (k+1):=by
 obtain⟨i,j⟩:=gK.mp hd;have r:k<i:=by
  refine Yd6;have m:=(aB.mp h);have g:=(aB.mp j);obtain⟨p,l⟩:=m;obtain⟨n,e⟩:=g;rcases Nat.lt_or_eq_of_le (Nat.le_of_not_lt q)with a | a
  ·have:=(List.pairwise_iff_getElem.mp (pY F M)) i k n p a;rw[l,e]at this;exact Oo
  ·subst a;rw[l]at e;subst e;exact Oo
 refine gK.mpr (Y0j (i-(k+1)));rw[List.getElem?_drop,show k+1+(i-(k+1))=i by exact Oo];exact j
end Mf
namespace Mf
theorem DH:∀F:Nat,1<=F->Y6K 0=[Y02]
 | 1,_=>rfl
 | F+2,_=>by
  unfold cta;rw[List.range_succ,List.range_zero,List.nil_append,List.flatMap_singleton,Nat.sub_zero,DH (F+1) Oo]
  rfl
def ZK{F m:Nat}(hF:1<=F){d:Ae}:d∈Y6K (m+1) ↔ ∃c∈cta F m,∃j,j<F/\d=cH c j:=by
 constructor
 ·intro h;obtain⟨g,w⟩:=iX h;obtain⟨j,a,A⟩:∃j,j<d.length/\0<Y9v:=by
   refine Yd6;have z:d=Yfi d.length:=by
    refine List.eq_replicate_iff.mpr (Y3 (λx u=>?_));obtain⟨j,a⟩:=gK.mp u;have p:=(Y8M).1;have:Y9v=x:=by rw[aR,a];rfl
    refine cJ λs=>q ⟨j,p,Oo⟩
   have:d.sum=0:=by rw[z];simp
   exact Oo
  have n:d[j]?=some (Y9v):=by rw[aR,aC a];rfl
  have y:=GI d j (Y9v-1) _ n;refine⟨d.set j (Y9v-1),AQ hF (by rw[List.length_set];exact g) Oo,j,Oo,?_⟩;unfold cH;rw[aR (l:=d.set j _),List.getElem?_set_self a,List.set_set];show d=d.set j (Y9v-1+1);rw[show d.getD j 0-1+1=d.getD j 0 by exact Oo];refine(Y7t);rw[List.getElem?_set];by_cases e:j=i
  ·subst e;rw[Yr,Yhv];exact n
  ·rw[Y0F]
 ·rintro⟨c,r,j,a,rfl⟩;obtain⟨g,w⟩:=iX r;exact AQ hF (by rw[rL];exact g) (by rw[Y7M];exact Oo)
def sF:∀F,F<=4->∀M,M<=5->(Y07).Nodup:=Kk
def UV(f:Fr):Prop:=Y06/\0<=f.1/\f.1<=999/\f.2<=999
def dens(l:Ak):Nat:=l.foldr (λf n=>f.2.natAbs*n) 1
theorem DG:∀{l:Ak},(∀f∈l,UV f)->0<dens l
 | [],_=>Nat.one_pos
 | f::l,h=>fA (by have:=(h f (aY ..)).1.pos;exact Oo) (DG λg hg=>h g (bD _ hg))
theorem QY:∀{l:Ak},(∀f∈l,UV f)->dens l<=999^l.length
 | [],_=>aM _
 | f::l,h=>by
  have h1:=QY λg e=>h g (bD f e);obtain⟨a,b,c,d⟩:=h f (aY ..);have:=a.pos;rw[cK,Nat.pow_succ,Nat.mul_comm];exact Nat.mul_le_mul (show f.2.natAbs<=999 by exact Oo) h1
theorem KM:∀{l:Ak}{f:Fr},f∈l->f.2.natAbs ∣ dens l
 | g::l,f,h=>by
  rcases bN.mp h with rfl | h
  ·exact mO _ _
  ·exact Nat.dvd_trans (KM h) (Nat.dvd_mul_left _ _)
def UV.fn{f:Fr}(h:UV f):Fn f.2.natAbs 999 f:=by
 obtain⟨a,b,c,d⟩:=h;have p:=a.pos;have:=Fn.of (n:=f.1) (d:=f.2) (B:=999) p (by
  have:1<=f.2.natAbs:=Oo;have:=dI 999 this;exact Oo)
 rwa [QB a]at this
def aBW{l:Ak}(h:∀f∈l,UV f):∀f∈l,Fn (dens l) 999 f:=λf a=>(h f a).fn.dvd (KM a)
end Mf
namespace Mf
abbrev dB:=List Nat × Ak
def s0(e:dB):Rat:=cS e.2 0
def iH(F:Nat)(c d:Ae):Rat:=Y3C (if Y4O=d then 1 else 0)
def aX(F:Nat)(es:Yi):Yz:=es.foldl (λg e=>λd=>g d+g e.1*Y2*Y1S e.1) (λd=>if d=Y02 then 1 else 0)
def lT(F:Nat)(d:Ae):Y1P []=if d=Y02 then 1 else 0:=rfl
def gH(F:Nat)(l:Yi)(e:dB)(d:Ae):Y1P (l++[e])=Y1P l+Y6O e.1*Y2*Y1S e.1:=by unfold aX;rw[List.foldl_append];rfl
def dA{α:Type}(l:Yt)(f:Y2A):Rat:=vF (l.map f)
def jN{α:Type}(f:Y2A):dA [] f=0:=rfl
def dC{α:Type}(a:α)(l:Yt)(f:Y2A):dA (a::l) f=f a+Y3p:=rfl
def IY{α:Type}(a b:Yt)(f:Y2A):dA (a++b) f=dA a f+dA b f:=by unfold dA;rw[bE,tK]
def oR{α:Type}(l:Yt)(a:α)(f:Y2A):dA (l++[a]) f=Y3p+f a:=by rw[IY,dC,jN];grind
def cZ{α:Type}{l:Yt}{f g:Y2A}(h:∀a∈l,f a=g a):Y3p=dA l g:=by unfold dA;rw[fN h]
def kC{α:Type}(l:Yt)(f g:Y2A):YcB (f a+g a)=Y3p+dA l g:=by
 induction l with
 | nil=>rw[jN,jN,jN];grind
 | cons a l ih=>rw[dC,dC,dC,ih];grind
def lW{α:Type}(l:Yt)(x:Rat)(f:Y2A):YcB (x*f a)=x*Y3p:=by
 induction l with
 | nil=>rw[jN,jN];grind
 | cons a l ih=>rw[dC,dC,ih];grind
def qO{α:Type}(l:Yt):dA l Y3S=0:=by
 induction l with
 | nil=>rfl
 | cons a l ih=>rw[dC,ih];grind
def uK{α:Type}{l:Yt}{f g:Y2A}(h:∀a∈l,f a<=g a):Y3p<=dA l g:=by
 induction l with
 | nil=>exact Rat.le_refl
 | cons a l ih =>
  have d:=h a (aY ..);have e:=ih λx c=>h x (bD _ c);rw[dC,dC];grind
def uJ{α:Type}{l:Yt}{f:Y2A}(h:∀a∈l,0<=f a):0<=Y3p:=by
 have:=uK (l:=l) (f:=Y3S) (g:=f) h
 rwa [qO]at this
def qP{α:Type}(l:Yt)(n:Nat)(f:α->Yv):YcB (cE n (f a))=Y3X n (YcB (f a i)):=by
 induction l with
 | nil=>show 0=cE n Y3S;rw[iY]
 | cons a l ih =>
  rw[dC,ih,<-nR];exact bT λi _=>rfl
def xZ{es:Yi}(nd:(es.map (·.1)).Nodup){b:Ae}(hb:Ybp b (·.1))(Φ:Yz):Ybb ((if b=x.1 then 1 else 0)*Φ x.1)=Φ b:=by
 induction es with
 | nil=>cases hb
 | cons a es ih =>
  rw[bH,List.nodup_cons]at nd;rw[dC];by_cases e:b=a.1
  ·rw[Y1s,e,Yku (λx c=>?_),qO]
   ·grind
   ·rw[Y3u (nd.1 (by rw[q];exact Y9R x c))];grind
  ·rw[Y0F,ih nd.2 (by rw[bH]at hb;exact(bN.mp hb).resolve_left e)];grind
structure tG(F:Nat)(es:Yi):Prop where
 root:∃e r,es=e::r/\e.1=Y02
 len:∀e∈es,e.1.length=F
 nd:(es.map (·.1)).Nodup
 srt:es.Pairwise λa b=>a.1.sum<=b.1.sum
 fwd:∀e∈es,Y3L->∀f,f<F->Ybp (Y1L e.1) (·.1)
 bwd:∀d∈es.map (·.1),d≠List.replicate F 0->∃e∈es,s0 e≠0/\∃f,f<F/\cH e.1 f=d
 nn:∀e∈es,0<=Y2
section
variable{F:Nat}{es:Yi}
def CT{c d:Ae}(hc:Y2E)(h:d.sum≠c.sum+1):Y4c=0:=by
 unfold iH;rw[Y5W (λf a=>Y3u (h ?_)),iY];rw[<-q,Y7M]
theorem tG.at(R:Y1f){i:Nat}{e:dB}(h:es[i]?=Y6k):Y3O i e.1=Y8 e.1:=by
 have c:∀k,Yc6 (i+k)->Y3O (i+k) e.1=Y3O i e.1:=by
  intro k
  induction k with
  | zero=>intro _;rfl
  | succ k ih =>
   intro p;obtain⟨x,a⟩:∃x,es[i+k]?=Yb:=Y7w;have l:es.take ((i+k)+1)=es.take (i+k)++[x]:=by rw[kB,a];rfl
   rw[<-Nat.add_assoc,l,gH,ih Oo,CT (R.len x (aE a)) ?_]
   ·grind
   ·obtain⟨j,d⟩:=aB.mp h;obtain⟨m,g⟩:=Y8M;have:e.1.sum<=x.1.sum:=by
     by_cases q:k=0
     ·subst q;have:e=x:=by rw[<-d,<-g];rfl
      rw[this];exact Yy
     ·have:=(List.pairwise_iff_getElem.mp R.srt) i (i+k) j m Oo
      rwa [d,g]at this
    exact Oo
 have n:=(aB.mp h).1;have:=c (es.length-i) Oo;rw[show i+(es.length-i)=es.length by exact Oo,dX]at this;exact this.symm
def tG.cons(R:Y1f)(Φ:Yz):∀n,Yc6 n->Ybb (Y3O n x.1*Φ x.1)=Φ (Y02)+Y8c Yep (Y8 e.1*Y2*Y3C (Φ (Y1L e.1))):=by
 intro n
 induction n with
 | zero =>
  intro _;rw[List.take_zero,jN];obtain⟨e,r,a,c⟩:=R.root;have:=xZ R.nd (b:=Y02) (by rw[a,<-c];exact aY ..) Φ;rw[cZ (g:=λx=>(if Y02=x.1 then 1 else 0)*Φ x.1) λx _=>?_,this]
  ·grind
  ·rw[lT];by_cases q:x.1=Y02
   ·rw[Y4y,if_pos q.symm]
   ·rw[Y2f,Y1Z (q z.symm)]
 | succ n ih =>
  intro l;obtain⟨e,a⟩:∃x,es[n]?=Yb:=Y7w;have h:es.take (n+1)=Yep++[e]:=by rw[kB,a];rfl
  have j:=aE a;rw[h,oR,<-Rat.add_assoc,<-ih Oo];rw[cZ (g:=λx=>Y3O n x.1*Φ x.1+Y8 e.1*Y2*(iH F e.1 x.1*Φ x.1)) λx _=>by rw[gH,R.at a];grind];rw[kC,lW];by_cases z:Y2=0
  ·rw[z];grind
  ·congr 2;have:(λx:dB=>iH F e.1 x.1*Φ x.1)=λx=>Y3C ((if Y1L e.1=x.1 then 1 else 0)*Φ x.1):=by
    funext x
    unfold iH;rw[Rat.mul_comm,<-eM];exact bT λi _=>YjN _
   rw[this,qP];exact bT λf d=>xZ R.nd (R.fwd e j z f d) Φ
def tG.all(R:Y1f)(Φ:Yz):Ybb (Y8 x.1*Φ x.1)=Φ (Y02)+Y0p (Y8 e.1*Y2*Y3C (Φ (Y1L e.1))):=by
 have:=R.cons Φ es.length (Yy)
 rwa [dX]at this
def YN(F:Nat)(c d:Ae):0<=Y4c:=uI λf _=>by split <;> grind
def tG.fnn(R:Y1f):∀n,Yc6 n->∀d,0<=Y3O n d:=by
 intro n
 induction n with
 | zero=>intro _ d;rw[List.take_zero,lT];split <;> grind
 | succ n ih =>
  intro i d;obtain⟨e,a⟩:∃x,es[n]?=Yb:=Y7w;have c:es.take (n+1)=Yep++[e]:=by rw[kB,a];rfl
  rw[c,gH];have j:=ih Oo d;have g:=ih Oo e.1;have h:=bR (bR g (R.nn e (aE a))) (YN F e.1 d);grind
def tG.nnf(R:Y1f)(d:Ae):0<=Y7R:=by
 have:=R.fnn es.length (Yy) d
 rwa [dX]at this
def tG.pos(R:Y1f):∀(k:Nat) (d:Ae),Ybp d (·.1)->d.sum<=k->0<Y7R:=by
 have m:∀d∈es.map (·.1),Y7R=(if d=Y02 then 1 else 0)+Y0p (Y8 e.1*Y2*Y1S e.1):=λd hd=>by
  have h:=R.all λx=>if d=x then 1 else 0
  have A:=xZ R.nd hd (aX F es);have J:Ybb (Y8 x.1*(if d=x.1 then 1 else 0))=Y7R:=by rw[<-A];exact cZ λx _=>YjN _
  rw[<-J,h];congr 1;exact cZ λe _=>by
   congr 1;unfold iH;exact bT λf _=>by
    by_cases q:d=Y1L e.1
    ·rw[Y4y,if_pos q.symm]
    ·rw[Y2f,Y1Z (q z.symm)]
 have s:∀d,∀e∈es,0<=Y8 e.1*Y2*Y1S e.1:=λd e a=>bR (bR (R.nnf _) (R.nn e a)) (YN F e.1 d);intro k
 induction k with
 | zero =>
  intro d hd B;have p:d=Y02:=by
   refine Yd6;obtain⟨e,a,_,f,r,rfl⟩:=R.bwd d hd q;rw[gX (by rw[YcO a];exact r)]at B;exact Oo
  rw[m d hd,if_pos p];have:=uJ (s d);grind
 | succ k ih =>
  intro d hd B;by_cases p:d=Y02
  ·rw[m d hd,if_pos p];have:=uJ (s d);grind
  ·obtain⟨e,a,M,f,r,rfl⟩:=R.bwd d hd p;have bs:=gX (c:=e.1) (j:=f) (by rw[YcO a];exact r);have D:=ih e.1 (Y6L a) Oo;have y:0<Y2:=by have:=R.nn e a;grind
   have O:1<=iH F e.1 (Y1L e.1):=by
    unfold iH;have A:=mU (n:=F) (f:=λi=>if i=f then 1 else 0) (g:=λi=>if cH e.1 i=Y1L e.1 then 1 else 0) λi _=>by
     by_cases q:i=f
     ·subst q;rw[Yr,Yr];exact Rat.le_refl
     ·rw[Y2f];split <;> grind
    have G:=wK (n:=F) (λi=>if i=f then(1:Rat) else 0) r;have C:Y3X F (if i=f then 0 else if i=f then(1:Rat) else 0)=0:=by
     rw[Y5W YkC,iY];by_cases q:i=f
     ·rw[Y4y]
     ·rw[Y2f,Y2f]
    rw[Yr,C]at G;grind
   have one:0<Y8 e.1*Y2*iH F e.1 (Y1L e.1):=Rat.mul_pos (Rat.mul_pos D y) (by grind);rw[m _ hd,if_neg p];have:Y8 e.1*Y2*iH F e.1 (Y1L e.1)<=dA es λu=>Y8 u.1*s0 u * iH F u.1 (Y1L e.1):=by
    obtain⟨L,I,rfl⟩:=List.append_of_mem a;rw[IY,dC];have N:=uJ (l:=L) λx w=>s (Y1L e.1) x (cO _ w);have P:=uJ (l:=I) λx w=>s (Y1L e.1) x (bL _ (bD _ w));grind
   grind
def tG.posf(R:Y1f){e:dB}(h:YaZ e):0<Y8 e.1:=R.pos _ e.1 (Y6L h) (Yy)
def Qn.one'(N:Nat):Qn N 1 1:=⟨N,by rw[sJ];grind,by simp⟩
def tG.qn(R:Y1f){N:Nat}(hN:∀e∈es,Qn N 1 Y2)(f4:F<=4):∀n,Yc6 n->∀d,Qn (N^d.sum) (5^n) (Y3O n d):=by
 intro n
 induction n with
 | zero =>
  intro _ d;rw[List.take_zero,lT];split
  ·exact Qn.one' _
  ·exact Y7U
 | succ n ih =>
  intro r d;obtain⟨e,g⟩:∃x,es[n]?=Yb:=Y7w;have l:es.take (n+1)=Yep++[e]:=by rw[kB,g];rfl
  rw[l,gH];have a:=ih Oo d;have c:=aE g;have p:5^(n+1)=5*5^n:=by rw[Nat.pow_succ];exact Oo
  by_cases hs:d.sum=e.1.sum+1
  ·have m:=(ih Oo e.1).mul (hN e c);have i:Qn 1 4 (Y1S e.1):=by
    have:=Qn.sumR (N:=1) (B:=1) (n:=F) (f:=λf=>if Y1L e.1=d then 1 else 0) λf _=>by
     split
     ·exact Qn.one' _
     ·exact Y7U
    exact YkF
   have h:=m.mul i;have j:N^e.1.sum*N=N^d.sum:=by rw[hs,Nat.pow_succ]
   rw[Nat.mul_one,j]at h;exact(a.add h).le Oo
  ·rw[CT (YcO c) hs];have:Y3O n d+Y3O n e.1*Y2*0=Y3O n d:=by grind
   rw[this];exact a.le Oo
end
def sW(zs:Y3D):Rat:=zs.foldr (λz p=>rv z.1^z.2*p) 1
theorem PH:∀(zs:Y3D) (p:Fr),dS p->(∀z∈zs,dS z.1)->rv (YjA (iG p (zS q.1 q.2)) p)=rv p*sW zs
 | [],p,_,_=>by show rv p=rv p*1;grind
 | z::zs,p,hp,h=>by
  have hz:=h z (aY ..);have a:=pI hz z.2;rw[List.foldl_cons,PH zs _ (iF hp a) λy c=>h y (bD _ c),jE hp.pos a.pos,WS hz];show _=rv p*(rv z.1^z.2*sW zs);grind
def GB{fs:Ak}(h:∀f∈fs,Y06)(c:Ae):wq fs c=Ye5 c:=by
 unfold wq oA;rw[PH _ _ NF λz d=>h z.1 (Yic z.1 z.2).1];show rv (1,1)*_=_;rw[sE];grind
theorem EV:∀(fs:Ak) (c:Ae) (j:Nat),Yak j->Y63 c.length->Ye5 Y33=Ye5 c*Y5z j
 | [],c,j,h,_=>by simp at h
 | f::fs,[],j,_,h=>by simp at h
 | f::fs,n::c,0,_,_=>by
  show rv f^(n+1)*sW (fs.zip c)=(rv f^n*sW (fs.zip c))*rv f;rw[Rat.pow_succ];grind
 | f::fs,n::c,j+1,hj,hl=>by
  have ih:=EV fs c j (by simpa using hj) (by simpa using hl);have e:cH (n::c) (j+1)=n::cH c j:=by unfold cH;rw[List.set_cons_succ];rfl
  have a:cS (f::fs) (j+1)=cS fs j:=rfl;rw[e,a,List.zip_cons_cons,List.zip_cons_cons];show rv f^n*sW (fs.zip (cH c j))=(rv f^n*sW (fs.zip c))*cS fs j;rw[ih];grind
theorem EU:∀(fs:Ak) (n:Nat),Ye5 (Yfi n)=1
 | [],n=>by rfl
 | f::fs,0=>by rfl
 | f::fs,n+1=>by
  rw[List.replicate_succ,List.zip_cons_cons];show rv f^0*sW (fs.zip (List.replicate n 0))=1;rw[EU fs n,Rat.pow_zero];grind
def uH(fs:Ak):vF (fs.map rv)=cE fs.length (cS fs):=by
 unfold cE;congr 1;refine Y7t;rw[aG,aG];by_cases hi:Yak i
 ·rw[bP hi,aC hi];show Y7q=some (Y5z i);unfold cS;rw[aR,aC hi];rfl
 ·rw[Y9l,cB (by rw[aV];exact Oo)];rfl
def aC9{fs:Ak}(h:∀f∈fs,Y06)(h1:vF (fs.map rv)=1){c:Ae}(hc:c.length=fs.length):wq fs c=Ybr fs.length (wq fs (Y4O)):=by
 rw[GB h];rw[bT (g:=λf=>Ye5 c*Y5z f) λf a=>by rw[GB h,EV fs c f a hc.symm]];rw[eM,<-uH,h1];grind
def aAG{fs:Ak}(h:∀f∈fs,Y06)(n:Nat):wq fs (Yfi n)=1:=by rw[GB h,EU]
section
variable{F W M:Nat}{es:Yi}{q:Nat->Yz}{mix ps cs:Yv}
def gZ(F:Nat)(es:Yi)(q:Yz)(w:Nat):Rat:=Y0p (Y8 e.1*q e.1*Y6Q e.2)
def gL(F:Nat)(es:Yi)(q:Yz)(cs:Yv):Rat:=Y0p (cs e.1.sum*(Y8 e.1*q e.1*Y2))
def gC(F W:Nat)(es:Yi)(q:Nat->Yz)(mix cs:Yv):Rat:=Y0d (mix w*gL F es (q w) cs)
def yH(F W:Nat)(es:Yi)(q:Nat->Yz)(mix ps cs:Yv):Rat:=Y6S F W q cs+Y0d (Y0f*(1-Y5K))
def tG.stops(R:Y1f){q:Yz}(h0:q (Y02)=1)(h1:∀c,Y2E->q c=Y3C (q (Y4O))):Y0p (Y8 e.1*q e.1*(1-Y2))=1:=by
 have h:=R.all q;rw[h0]at h;have e:Y0p (Y8 e.1*Y2*Y3C (q (Y1L e.1)))=Y0p (Y8 e.1*q e.1*Y2):=cZ λe a=>by rw[<-h1 e.1 (YcO a)];grind
 rw[e]at h;have d:Y0p (Y8 e.1*q e.1*(1-Y2))+Y0p (Y8 e.1*q e.1*Y2)=Ybb (Y8 x.1*q x.1):=by
  rw[<-kC];exact Y59 (by grind)
 grind
def VB(W F:Nat)(q:Nat->Yz)(mix ps cs:Yv)(n:Nat)(c:Ae){v:Nat}(hv:v<W):Y4j W F q n c<=Y0d (Y0f*q w c)-Y1q*q v c:=by
 cases n with
 | zero=>exact uX (YhJ v hv)
 | succ n=>exact uX (cO _ (YhJ v hv))
def aAI(W F:Nat)(q:Nat->Yz)(mix ps cs:Yv)(n:Nat)(c:Ae):Y4j W F q (n+1) c<=cs c.sum*Y0q (Y5r*q v c)+YcZ F (Y4j W F q n Y33):=uX (bL _ (cA.mpr rfl))
def XF(R:Y1f)(hM:∀e∈es,e.1.sum<=M)(on:∀e∈es,Y3L->e.1.sum<M)(h0:∀w,w<W->q w (Y02)=1)(h1:∀w,w<W->∀c,Y2E->q w c=Y3C (q w (Y4O)))
  (hs:∀e∈es,(∀v,0<=cS e.2 v)/\YcQ e.2=1-Y2):Y4j W F q M Y02<=yH F W es q mix ps cs:=by
 let V:Yz:=λc=>Y4j W F q Y2q c
 have one:∀e∈es,V e.1<=Y2*(cs e.1.sum*Y0q (Y5r*q v e.1))+Y2*Y6f e.1+((1-Y2)*Y0d (Y0f*q w e.1)-Y0q (Y0I e.2*(Y1q*q v e.1))):=by
  intro e i;obtain⟨p,a⟩:=hs e i;have says:(1-Y2)*V e.1<=(1-Y2)*Y0d (Y0f*q w e.1)-Y0q (Y0I e.2*(Y1q*q v e.1)):=by
   have h:=mU (n:=W) (f:=λv=>Y0I e.2*V e.1) (g:=λv=>Y0I e.2*(Y0d (Y0f*q w e.1)-Y1q*q v e.1)) λv A=>Rat.mul_le_mul_of_nonneg_left (VB W F q mix ps cs _ _ A) (p _);rw[bT (g:=λv=>V e.1*Y0I e.2) λv _=>YjN _,eM,a]at h;have C:Y0q (Y0I e.2*(Y0d (Y0f*q w e.1)-Y1q*q v e.1))=(1-Y2)*Y0d (Y0f*q w e.1)-Y0q (Y0I e.2*(Y1q*q v e.1)):=by
    generalize cE W (λw=>ps w*q w e.1)=D;have s:Y0q (Y0I e.2*(D-Y1q*q v e.1))+Y0q (Y0I e.2*(Y1q*q v e.1))=D*YcQ e.2:=by
     rw[<-nR,<-eM];exact bT λv _=>by grind
    rw[a]at s;grind
   rw[C]at h;grind
  by_cases z:Y2=0
  ·rw[z]at says ⊢;grind
  ·have O:=on e i z;obtain⟨n,I⟩:∃n,M-e.1.sum=n+1:=Y1N (M-e.1.sum-1);have look:V e.1<=cs e.1.sum*Y0q (Y5r*q v e.1)+Y6f e.1:=by
    show Y4j W F q (M-e.1.sum) e.1<=_;rw[I];refine YdK (aAI W F q mix ps cs n e.1);have y:YcZ F (Y4j W F q n (cH e.1 j))=Y6f e.1:=bT λf u=>by
     show _=Y4j W F q (M-(Y1L e.1).sum) (Y1L e.1);rw[gX (by rw[YcO i];exact u),show M-(e.1.sum+1)=n by exact Oo]
    rw[y];exact Rat.le_refl
   have N:=Rat.mul_le_mul_of_nonneg_left look (R.nn e i);grind
 have all:=R.all V;have sum1:=uK (l:=es) λe i=>Rat.mul_le_mul_of_nonneg_left (one e i) (R.nnf e.1);have m:V (Y02)=Y4j W F q M Y02:=by
  show Y4j W F q (M-(Y02).sum) _=_;rw[show(List.replicate F 0).sum=0 by simp,Nat.sub_zero]
 rw[all,m]at sum1;have d:Y0p (Y8 e.1*(Y2*(cs e.1.sum*Y0q (Y5r*q v e.1))+Y2*Y6f e.1+((1-Y2)*Y0d (Y0f*q w e.1)-Y0q (Y0I e.2*(Y1q*q v e.1))))) =
   Y6S F W q cs+Y0p (Y8 e.1*Y2*Y6f e.1)+Y0d (Y0f*(1-Y5K)):=by
  have L:Y6S F W q cs=Y0p (Y8 e.1*(Y2*(cs e.1.sum*Y0q (Y5r*q v e.1)))):=by
   unfold gC gL;rw[YgH (λw=>Y0p (mix w*(cs e.1.sum*(Y8 e.1*q w e.1*Y2)))) ((lW _ _ _).symm),<-qP];refine Y59 ?_;rw[<-eM,<-eM,<-eM];exact Y7f (by grind)
  have B:Y0d (Y0f*(1-Y5K))=Y0p (Y8 e.1*((1-Y2)*Y0d (Y0f*q w e.1)-Y0q (Y0I e.2*(Y1q*q v e.1)))):=by
   have k:∀w,w<W->Y0f*(1-Y5K)=Y0p (Y0f*(Y8 e.1*q w e.1*(1-Y2)-Y8 e.1*q w e.1*Y6Q e.2)):=λw r=>by
    rw[lW];congr 1;have h:=R.stops (h0 w r) (h1 w r);have N:Y0p (Y8 e.1*q w e.1*(1-Y2)-Y8 e.1*q w e.1*Y6Q e.2)+Y5K=Y0p (Y8 e.1*q w e.1*(1-Y2)):=by
     unfold gZ;rw[<-kC];exact Y59 (by grind)
    grind
   rw[bT k,<-qP];refine Y59 ?_;have J:(1-Y2)*Y0d (Y0f*q w e.1)=Y0d ((1-Y2)*(Y0f*q w e.1)):=(eM _ _ _).symm;have P:Y0d ((1-Y2)*(Y0f*q w e.1)-Y6Q e.2*(Y0f*q w e.1))+Y0q (Y0I e.2*(Y1q*q v e.1))=Y0d ((1-Y2)*(Y0f*q w e.1)):=by
    rw[<-nR];exact Y7f (by grind)
   have G:(1-Y2)*Y0d (Y0f*q w e.1)-Y0q (Y0I e.2*(Y1q*q v e.1))=Y0d ((1-Y2)*(Y0f*q w e.1)-Y6Q e.2*(Y0f*q w e.1)):=by rw[J];grind
   rw[G,<-eM];exact Y7f (by grind)
  rw[L,B,<-kC,<-kC];exact Y59 (by grind)
 rw[d]at sum1;unfold yH;grind
end
end Mf
namespace Mf
section
variable{F W:Nat}{es:Yi}{q:Nat->Yz}{mix ps cs:Yv}
def BN{n v:Nat}{f:Yv}(hv:v<n)(h:∀i,i<n->i≠v->f i=0):Y86=f v:=by
 have d:=wK (n:=n) f hv;have c:Y3X n (if i=v then 0 else f i)=0:=by
  rw[Y5W Yeg,iY];by_cases e:i=v
  ·rw[Y1s]
  ·rw[Y0F,h i a e]
 rw[c]at d;grind
def aAr(F W:Nat)(q:Nat->Yz)(mix ps cs:Yv)(V:Yz)(e:dB):Prop :=
 (Y2=1/\(∀v,v<W->Y0I e.2=0)/\V e.1=cs e.1.sum*Y0q (Y5r*q v e.1)+Y6f e.1) \/
 ∃v,v<W/\Y2=0/\Y0I e.2=1/\(∀u,u<W->u≠v->cS e.2 (1+u)=0)/\V e.1=Y0d (Y0f*q w e.1)-Y1q*q v e.1
def XG(R:Y1f)(V:Yz)(h0:∀w,w<W->q w (Y02)=1)(h1:∀w,w<W->∀c,Y2E->q w c=Y3C (q w (Y4O)))
  (hb:∀e∈es,aAr F W q mix ps cs V e):V (Y02)=yH F W es q mix ps cs:=by
 have one:∀e∈es,V e.1=Y2*(cs e.1.sum*Y0q (Y5r*q v e.1))+Y2*Y6f e.1+((1-Y2)*Y0d (Y0f*q w e.1)-Y0q (Y0I e.2*(Y1q*q v e.1))):=by
  intro e m;rcases hb e m with⟨a,b,c⟩ | ⟨v,r,a,b,d,c⟩
  ·have n:Y0q (Y0I e.2*(Y1q*q v e.1))=0:=by
    rw[Y5W (λi l=>by rw[b i l];grind),iY]
   rw[n,a,c];grind
  ·have n:Y0q (Y0I e.2*(Y1q*q v e.1))=Y1q*q v e.1:=by
    rw[BN r λi l y=>by rw[d i l y];grind,b];grind
   rw[n,a,c];grind
 have all:=R.all V;have sum1:Ybb (Y8 x.1*V x.1)=Y0p (Y8 e.1*(Y2*(cs e.1.sum*Y0q (Y5r*q v e.1))+Y2*Y6f e.1+((1-Y2)*Y0d (Y0f*q w e.1)-Y0q (Y0I e.2*(Y1q*q v e.1))))):=cZ λe m=>by rw[<-one e m]
 rw[all]at sum1;have j:Y0p (Y8 e.1*(Y2*(cs e.1.sum*Y0q (Y5r*q v e.1))+Y2*Y6f e.1+((1-Y2)*Y0d (Y0f*q w e.1)-Y0q (Y0I e.2*(Y1q*q v e.1))))) =
   Y6S F W q cs+Y0p (Y8 e.1*Y2*Y6f e.1)+Y0d (Y0f*(1-Y5K)):=by
  have A:Y6S F W q cs=Y0p (Y8 e.1*(Y2*(cs e.1.sum*Y0q (Y5r*q v e.1)))):=by
   unfold gC gL;rw[YgH (λw=>Y0p (mix w*(cs e.1.sum*(Y8 e.1*q w e.1*Y2)))) ((lW _ _ _).symm),<-qP];refine Y59 ?_;rw[<-eM,<-eM,<-eM];exact Y7f (by grind)
  have s:Y0d (Y0f*(1-Y5K))=Y0p (Y8 e.1*((1-Y2)*Y0d (Y0f*q w e.1)-Y0q (Y0I e.2*(Y1q*q v e.1)))):=by
   have k:∀w,w<W->Y0f*(1-Y5K)=Y0p (Y0f*(Y8 e.1*q w e.1*(1-Y2)-Y8 e.1*q w e.1*Y6Q e.2)):=λw p=>by
    rw[lW];congr 1;have h:=R.stops (h0 w p) (h1 w p);have C:Y0p (Y8 e.1*q w e.1*(1-Y2)-Y8 e.1*q w e.1*Y6Q e.2)+Y5K=Y0p (Y8 e.1*q w e.1*(1-Y2)):=by
     unfold gZ;rw[<-kC];exact Y59 (by grind)
    grind
   rw[bT k,<-qP];refine Y59 ?_;have z:(1-Y2)*Y0d (Y0f*q w e.1)=Y0d ((1-Y2)*(Y0f*q w e.1)):=(eM _ _ _).symm;have B:Y0d ((1-Y2)*(Y0f*q w e.1)-Y6Q e.2*(Y0f*q w e.1))+Y0q (Y0I e.2*(Y1q*q v e.1))=Y0d ((1-Y2)*(Y0f*q w e.1)):=by
    rw[<-nR];exact Y7f (by grind)
   have u:(1-Y2)*Y0d (Y0f*q w e.1)-Y0q (Y0I e.2*(Y1q*q v e.1))=Y0d ((1-Y2)*(Y0f*q w e.1)-Y6Q e.2*(Y0f*q w e.1)):=by rw[z];grind
   rw[u,<-eM];exact Y7f (by grind)
  rw[A,s,<-kC,<-kC];exact Y59 (by grind)
 rw[j]at sum1;unfold yH;grind
end
end Mf
namespace Md
def dY:Nat->Y0->Int
 | 0,_=>0
 | n+1,f=>dY n f+f n
def eG{n:Nat}{f g:Y0}(h:∀i,i<n->f i=g i):dY n f=dY n g:=by
 induction n with
 | zero=>rfl
 | succ n ih=>rw[dY,dY,ih λi a=>h i Oo,h n Oo]
def nS(n:Nat)(f g:Y0):Y2Y (f i+g i)=dY n f+dY n g:=by
 induction n with
 | zero=>rfl
 | succ n ih=>rw[dY,dY,dY,ih];exact Oo
def iE(n:Nat)(a:Int)(f:Y0):Y2Y (a*f i)=a*dY n f:=by
 induction n with
 | zero=>simp[dY]
 | succ n ih=>rw[dY,dY,ih,Int.mul_add]
def yA(n:Nat):dY n (Y3S)=0:=by
 induction n with
 | zero=>rfl
 | succ n ih=>rw[dY,ih];rfl
def kD{n:Nat}{f:Y0}{w:Nat}(hw:w<n)(h:∀i,i<n->i≠w->f i=0):dY n f=f w:=by
 induction n with
 | zero=>exact Oo
 | succ n ih =>
  rw[dY];by_cases e:w=n
  ·subst e;rw[eG (g:=Y3S) λi a=>h i Oo Oo,yA];exact Oo
  ·rw[ih Oo λi a ne=>h i Oo ne,h n Oo (λz=>Y8F)];exact Oo
def IZ{n:Nat}{f:Y0}{v w:Nat}(hv:v<n)(hw:w<n)(ne:v≠w)(h:∀i,i<n->i≠v->i≠w->f i=0):dY n f=f v+f w:=by
 have d:dY n f=Y2Y (if i=v then f v else 0)+Y2Y (if i=v then 0 else f i):=by
  rw[<-nS];refine eG YkC;by_cases e:i=v
  ·simp[e]
  ·simp[e]
 rw[d,kD hv (f:=λi=>if i=v then f v else 0) (λi _ a=>YeE),kD hw (f:=λi=>if i=v then 0 else f i) (λi c a=>?_)]
 ·simp[ne.symm]
 ·by_cases e:i=v
  ·simp[e]
  ·simp[e,h i c e a]
def EN(n m:Nat)(f:Nat->Y0):Y2Y (dY m (f i))=dY m (λj=>Y2Y (f i j)):=by
 induction n with
 | zero=>rw[dY];exact(yA m).symm
 | succ n ih=>rw[dY,ih,<-nS];rfl
def sgn(j:Nat):Int:=if j % 2=0 then 1 else -1
def WN(j:Nat):sgn (j+1)=- sgn j:=by
 unfold sgn;rcases Nat.mod_two_eq_zero_or_one j with h | h
 ·rw[Y4z,if_neg (show ¬(j+1) % 2=0 by exact Oo)]
 ·rw[if_neg (show ¬j % 2=0 by exact Oo),if_pos (show(j+1) % 2=0 by exact Oo)];rfl
def skip(j i:Nat):Nat:=if i<j then i else i+1
abbrev fD:=Nat->Y0
def wo(B:fD)(j:Nat):fD:=λi=>B (Yb2 i)
def det:Nat->fD->Int
 | 0,_=>1
 | n+1,B=>dY (n+1) λj=>sgn (j+n)*B j n*det n (wo B j)
def st(B:fD)(i:Nat)(u:Y0):fD:=λj=>if j=i then u else B j
def iN(B:fD)(i:Nat)(u:Y0):st B i u i=u:=Yr
def lX{B:fD}{i j:Nat}{u:Y0}(h:j≠i):st B i u j=B j:=Y4A
def uL(B:fD)(i:Nat):st B i (B i)=B:=by
 funext j;unfold st;split
 ·rename_i h;rw[h]
 ·rfl
theorem yP:∀{n:Nat}{B C:fD},(∀j,j<n->∀r,r<n->B j r=C j r)->det n B=det n C
 | 0,_,_,_=>rfl
 | n+1,B,C,h=>by
  refine eG λj hj=>?_;rw[h j hj n Oo,yP (n:=n) (B:=wo B j) (C:=wo C j) λi hi r hr=>h (skip j i) (by unfold skip;split <;> exact Oo) r Oo]
def vQ(B:fD)(j:Nat)(u:Y0):wo (st B j u) j=wo B j:=by
 funext i
 show st B j u (Yb2 i)=B (Yb2 i);exact lX (by unfold skip;split <;> exact Oo)
def unsk(j c:Nat):Nat:=if c<j then c else c-1
def yF{j c:Nat}(h:c≠j):Yb2 (unsk j c)=c:=by
 unfold skip unsk;by_cases e:c<j
 ·rw[Y1s,Y1s]
 ·rw[Y0F,Y2O];exact Oo
def WL{j a b:Nat}(h:Yb2 a=Yb2 b):a=b:=by
 unfold skip at h;split at h <;> split at h <;> exact Oo
def BF{B:fD}{j c:Nat}{u:Y0}(h:c≠j):wo (st B c u) j=st (wo B j) (unsk j c) u:=by
 funext i
 show st B c u (Yb2 i)=_;by_cases e:i=unsk j c
 ·subst e;rw[yF h,iN,iN]
 ·rw[lX e,lX (YaC (WL (by rw[z,yF h])))];rfl
def aAM{n j c:Nat}(hc:c<n+1)(hj:j<n+1)(h:c≠j):unsk j c<n:=by
 unfold unsk;split <;> exact Oo
theorem HP:∀{n:Nat}(B:fD) {c:Nat},c<n->∀(a b:Int) (u v:Y0),Y5Q n B c (λr=>a*u r+b*v r)=a*Y5Q n B c u+b*Y5Q n B c v
 | 0,_,_,h,_,_,_,_=>Oo
 | n+1,B,c,hc,a,b,u,v=>by
  show dY (n+1) _=a*dY (n+1) _+b*dY (n+1) _;rw[<-iE,<-iE,<-nS];refine eG λj hj=>?_;by_cases e:c=j
  ·subst e;rw[iN,iN,iN,vQ,vQ,vQ];grind
  ·rw[lX (λz=>e z.symm),lX (λz=>e z.symm),lX (λz=>e z.symm),BF e,BF e,BF e,HP (wo B j) (aAM hc hj e) a b u v];grind
theorem HQ:∀{n:Nat}{B:fD}{c:Nat},c+1<n->B c=B (c+1)->det n B=0
 | 0,_,_,h,_=>Oo
 | n+1,B,c,hc,e=>by
  show dY (n+1) _=0;rw[IZ (v:=c) (w:=c+1) Oo hc Oo λj hj n1 n2=>?_]
  ·have ew:wo B c=wo B (c+1):=by
    funext i
    show B (skip c i)=B (skip (c+1) i);unfold skip;by_cases h1:i<c
    ·rw[if_pos h1,if_pos Oo]
    ·by_cases h2:i=c
     ·subst h2;rw[if_neg h1,if_pos Oo,e]
     ·rw[if_neg h1,if_neg Oo]
   rw[ew,e,show c+1+n=c+n+1 by exact Oo,WN];grind
  ·rw[HQ (n:=n) (B:=wo B j) (c:=unsk j c) ?_ ?_]
   ·exact Oo
   ·unfold unsk;split <;> exact Oo
   ·show B (skip j (unsk j c))=B (skip j (unsk j c+1));rw[yF (λz=>n1 z.symm),e];congr 1;unfold skip unsk;split <;> split <;> exact Oo
def pC{B:fD}{i j:Nat}{u v:Y0}(h:i≠j):st (st B i u) j v=st (st B j v) i u:=by
 funext k;unfold st
 by_cases e:k=j
 ·have:¬k=i:=λz=>h (z.symm.trans e);rw[Y1s,if_neg this,Y1s]
 ·rw[Y0F];by_cases e2:k=i
  ·rw[if_pos e2,if_pos e2]
  ·rw[if_neg e2,if_neg e2,Y0F]
def xK{n:Nat}(B:fD){c:Nat}(hc:c<n)(u v:Y0):Y5Q n B c (λr=>u r+v r)=Y5Q n B c u+Y5Q n B c v:=by
 have:=HP B hc 1 1 u v;simpa using this
def DF{n:Nat}(B:fD){c:Nat}(hc:c<n)(a:Int)(u:Y0):Y5Q n B c (λr=>a*u r)=a*Y5Q n B c u:=by
 have:=HP B hc a 0 u u;simpa using this
def TY{n:Nat}(B:fD){c:Nat}(hc:c+1<n)(u v:Y0):Y5Q n (st B c u) (c+1) v=- Y5Q n (st B c v) (c+1) u:=by
 have a:∀x:Nat->Int,Y5Q n (st B c x) (c+1) x=0:=λx=>HQ hc (by rw[lX Oo,iN,iN]);have h:=a λr=>u r+v r;have e:Y9A c (u r+v r) (c+1) (λr=>u r+v r)=Y9A c (u r+v r) (c+1) u+Y9A c (u r+v r) (c+1) v:=xK _ hc _ _;have d:∀y:Nat->Int,Y9A c (u r+v r) (c+1) y=Y5Q n (st B c u) (c+1) y+Y5Q n (st B c v) (c+1) y:=λy=>by
  rw[pC Oo,pC (i:=c) (j:=c+1) Oo,pC (i:=c) (j:=c+1) Oo];exact xK _ Oo _ _
 rw[e,d,d,a,a]at h;exact Oo
theorem HN{n:Nat}:∀(d:Nat) {B:fD}{i:Nat},i+d+1<n->B i=B (i+d+1)->det n B=0
 | 0,B,i,h,e=>HQ h e
 | d+1,B,i,h,e=>by
  have e1:B=st (st B (i+d+1) (B (i+d+1))) (i+d+1+1) (B (i+d+1+1)):=by rw[uL,uL]
  rw[e1,TY B Oo,HN d (B:=st (st B (i+d+1) (B (i+d+1+1))) (i+d+1+1) (B (i+d+1))) (i:=i) Oo ?_]
  ·rfl
  ·rw[lX Oo,lX Oo,lX Oo,iN];exact e
def yQ{n:Nat}{B:fD}{i j:Nat}(hi:i<n)(hj:j<n)(h:i≠j)(e:B i=B j):det n B=0:=by
 rcases Nat.lt_or_gt_of_ne h with q | q
 ·obtain⟨d,rfl⟩:∃d,j=i+d+1:=Y1N (j-i-1);exact HN d hj e
 ·obtain⟨d,rfl⟩:∃d,i=j+d+1:=Y1N (i-j-1);exact HN d hi e.symm
def ZE{n:Nat}(B:fD){i j:Nat}(hi:i<n)(hj:j<n)(h:i≠j)(u v:Y0):Y5Q n (st B i u) j v=- Y5Q n (st B i v) j u:=by
 have a:∀x:Nat->Int,Y5Q n (st B i x) j x=0:=λx=>yQ hi hj h (by rw[lX h,iN,iN]);have e:=a λr=>u r+v r;have d:Y9A i (u r+v r) j (λr=>u r+v r)=Y9A i (u r+v r) j u+Y9A i (u r+v r) j v:=xK _ hj _ _;have c:∀y:Nat->Int,Y9A i (u r+v r) j y=Y5Q n (st B i u) j y+Y5Q n (st B i v) j y:=λy=>by
  rw[pC h,pC (i:=i) (j:=j) h,pC (i:=i) (j:=j) h];exact xK _ hi _ _
 rw[d,c,c,a,a]at e;exact Oo
theorem QX{n:Nat}(B:fD){c:Nat}(hc:c<n)(k:Y0)(v:Nat->Y0):∀m:Nat,Y5Q n B c (λr=>dY m (λj=>k j*v j r))=dY m (λj=>k j*Y5Q n B c (v j))
 | 0=>by
  have:=DF B hc 0 λ_=>0;simp only[Int.zero_mul]at this;show det n (st B c λ_=>0)=0;exact this
 | m+1=>by
  show det n (st B c λr=>(dY m λj=>k j*v j r)+k m*v m r)=_;rw[xK B hc,QX B hc k v m,DF B hc];rfl
def unit(k:Nat):Y0:=λr=>if r=k then 1 else 0
def aAU(n:Nat):sgn (n+n)=1:=by unfold sgn;rw[Y58]
theorem KK:∀n:Nat,det n unit=1
 | 0=>rfl
 | n+1=>by
  show dY (n+1) _=1;rw[kD (w:=n) Oo λj hj ne=>?_]
  ·have e:det n (wo unit n)=det n unit:=yP λi a r _=>by
    show unit (skip n i) r=unit i r;unfold skip;rw[if_pos a]
   rw[e,KK n,aAU];show 1*(if n=n then 1 else 0)*1=(1:Int);rw[if_pos rfl];rfl
  ·show sgn (j+n)*(if n=j then 1 else 0)*_=0;rw[if_neg λz=>ne z.symm];simp
def fac:YcH
 | 0=>1
 | n+1=>(n+1)*fac n
theorem tL{C:Nat}:∀{n:Nat}{f:Y0},(∀i,i<n->(f i).natAbs<=C)->(dY n f).natAbs<=n*C
 | 0,_,_=>by simp[dY]
 | n+1,f,h=>by
  rw[dY];have h1:=tL (n:=n) λi a=>h i Oo;have c:=h n Oo;have:=Int.natAbs_add_le (dY n f) (f n);rw[Nat.add_mul];exact Oo
def aAV(j:Nat):(sgn j).natAbs=1:=by unfold sgn;split <;> rfl
theorem HR{C:Nat}:∀{n:Nat}{B:fD},(∀j,j<n->∀r,r<n->(B j r).natAbs<=C)->(det n B).natAbs<=fac n*C^n
 | 0,_,_=>by show(1:Int).natAbs<=1*C^0;simp
 | n+1,B,h=>by
  have:=tL (C:=C*(fac n*C^n)) (n:=n+1) (f:=λj=>sgn (j+n)*B j n*det n (wo B j)) λj a=>by
   rw[cY,cY,aAV,Nat.one_mul];exact Nat.mul_le_mul (h j a n Oo) (HR λi c r d=>h (skip j i) (by unfold skip;split <;> exact Oo) r Oo)
  refine aL this (Nat.le_of_eq ?_);rw[fac,Nat.pow_succ];rw[Nat.mul_assoc,Nat.mul_comm C,Nat.mul_assoc (fac n)]
end Md
namespace Md
def dot(n:Nat)(x y:Y0):Int:=dY n λk=>x k*y k
structure Bs(n:Nat)(B R:fD)(p:Int):Prop where
 inv:∀r,r<n->∀k,k<n->dY n (λj=>B j r*R j k)=if r=k then p else 0
 det:det n B=p
 pos:0<p
section
variable{n:Nat}{B R:fD}{p:Int}
def Bs.expand(h:Bs n B R p)(v:Y0){r:Nat}(hr:r<n):dY n (λj=>Y4p j v*B j r)=p*v r:=by
 have c:dY n (λj=>Y4p j v*B j r)=dY n λk=>dY n (λj=>v k*(B j r*R j k)):=by
  rw[EN];refine eG YkG;unfold dot;rw[Int.mul_comm,<-iE];exact eG λk _=>by grind
 rw[c,eG (g:=λk=>v k*if r=k then p else 0) λk a=>by rw[iE,h.inv r hr k a],kD hr λk _ ne=>by rw[Y1Z Yc7];simp];rw[Yr];grind
def Bs.put(h:Bs n B R p)(C:fD){i:Nat}(hi:i<n)(v:Y0):p*Y8y n C i v=dY n (λj=>Y4p j v*Y8y n C i (B j)):=by
 rw[<-DF C hi,<-QX C hi (λj=>Y4p j v) (λj=>B j)];refine yP λj c r a=>?_;by_cases e:j=i
 ·subst e;rw[iN,iN];exact(h.expand v a).symm
 ·rw[lX e,lX e]
def FJ{i j:Nat}(hi:i<n)(hj:j<n)(ne:j≠i):Y8y n B i (B j)=0:=yQ hi hj (λz=>Yc7) (by rw[iN,lX ne])
def Bs.step_det(h:Bs n B R p){i:Nat}(hi:i<n)(v:Y0):Y8y n B i v=Y4p i v:=by
 have e:=h.put B hi v;rw[kD hi λj c ne=>by rw[FJ hi c ne];simp]at e;rw[uL,h.det]at e;have a:p≠0:=by have:=h.pos;exact Oo
 rw[Int.mul_comm]at e;exact Int.eq_of_mul_eq_mul_right a e
def xJ{x:Y0}{k:Nat}(hk:k<n):Y3N x (unit k)=x k:=by
 unfold dot;rw[kD hk λj _ ne=>by unfold unit;rw[Yhb];simp];unfold unit;rw[Yr];simp
def Bs.row(h:Bs n B R p){i k:Nat}(hi:i<n)(hk:k<n):R i k=Y8y n B i (unit k):=by rw[YjB,xJ hk]
def xD(n:Nat)(B R:fD)(o:Nat)(a:Y0):fD:=λi k=>if i=o then R o k else Y8y n (st B o a) i (unit k)
def Bs.exch(h:Bs n B R p){o:Nat}(ho:o<n)(a:Y0){i k:Nat}(hi:i<n)(hk:k<n)(ne:i≠o):p*xD n B R o a i k=R i k*Y2m-R o k*Y27:=by
 unfold xD;rw[Yhb,h.put (st B o a) hi (unit k),IZ hi ho ne λj l c g=>?_]
 ·rw[xJ hk,xJ hk];have d:st (st B o a) i (B i)=st B o a:=by
   rw[pC (λz=>Yc7),uL]
  have e:Y8y n (st B o a) i (B o)=- Y8y n B i a:=by
   rw[ZE B ho hi (λz=>Yc7),uL]
  rw[d,e,h.step_det ho,YjB];grind
 ·rw[yQ hi l (λz=>c z.symm) (by rw[iN,lX c,lX g])];simp
def Bs.next(h:Bs n B R p){o:Nat}(ho:o<n){a:Y0}(hs:0<Y2m):Bs n (st B o a) (xD n B R o a) (Y2m):=by
 refine⟨λr g k d=>?_,h.step_det ho a,hs⟩;have i:p≠0:=by have:=h.pos;exact Oo
 refine Int.eq_of_mul_eq_mul_right i ?_;rw[Int.mul_comm,<-iE];have c:∀j,j<n->p*(st B o a j r*xD n B R o a j k)=Y2m*(B j r*R j k)-R o k*(Y4p j a*B j r)+if j=o then p*a r*R o k else 0:=λj s=>by
  by_cases e:j=o
  ·subst e;rw[iN,Yr];have:xD n B R j a j k=R j k:=Yr;rw[this];grind
  ·rw[lX e,Y0F];have:=h.exch ho a s d e;have l:p*(B j r*xD n B R o a j k)=B j r*(p*xD n B R o a j k):=by grind
   rw[l,this];grind
 rw[eG c];have m:dY n (λj=>Y2m*(B j r*R j k)-R o k*(Y4p j a*B j r)+if j=o then p*a r*R o k else 0)=Y2m*dY n (λj=>B j r*R j k)+(-(R o k))*dY n (λj=>Y4p j a*B j r)+dY n (λj=>if j=o then p*a r*R o k else 0):=by
  rw[<-iE,<-iE,<-nS,<-nS];exact eG λj _=>by grind
 rw[m,h.inv r g k d,h.expand a g,kD ho (f:=λj=>if j=o then p*a r*R o k else 0) λj _ ne=>Yhb,Yr];by_cases e:r=k
 ·rw[Y1s,Y1s];grind
 ·rw[Y0F,Y0F];grind
def aCo(n:Nat):Bs n unit unit 1:=by
 refine⟨λr a k c=>?_,KK n,Dd⟩;rw[kD a λj _ ne=>by
  show(if r=j then 1 else 0)*_=(0:Int);rw[Y1Z Yc7];simp]
 show(if r=r then(1:Int) else 0)*(if k=r then 1 else 0)=_;rw[Yr];by_cases e:r=k
 ·rw[Y1s,if_pos e.symm];rfl
 ·rw[Y0F,Y1Z Y8F];rfl
end
end Md
namespace Md
def lexp(m:Nat)(d:Y0):Prop:=∃j,j<m/\(∀i,i<j->d i=0)/\0<d j
section
variable{m:Nat}{d e:Y0}
def gO(h:∀i,i<m->d i=e i)(x:Y9u):Ya2 e:=by
 obtain⟨j,a,z,p⟩:=x;exact⟨j,a,λi c=>by rw[<-h i Oo];exact z i c,by rw[<-h j a];exact p⟩
def JV(x:Y9u)(y:Ya2 e):Y8U (d i+e i):=by
 obtain⟨j,h,c,p⟩:=x;obtain⟨k,l,g,n⟩:=y;rcases Nat.lt_trichotomy j k with q | q | q
 ·exact⟨j,h,λi a=>by show d i+e i=0;rw[c i a,g i Oo];rfl,by show 0<d j+e j;rw[g j q];exact Oo⟩
 ·subst q;exact⟨j,h,λi a=>by show d i+e i=0;rw[c i a,g i a];rfl,by show 0<d j+e j;exact Oo⟩
 ·exact⟨k,l,λi a=>by show d i+e i=0;rw[c i Oo,g i a];rfl,by show 0<d k+e k;rw[c k q];exact Oo⟩
def tY{c:Int}(hc:0<c)(x:Y9u):Y8U (c*d i):=by
 obtain⟨j,e,z,p⟩:=x;exact⟨j,e,λi a=>by show c*d i=0;rw[z i a];simp,Int.mul_pos hc p⟩
def YH{c:Int}(hc:0<c)(x:Y8U (c*d i)):Y9u:=by
 obtain⟨j,e,z,p⟩:=x;refine Y1R j e Yeg
 ·have:=z i a;rcases Int.mul_eq_zero.mp this with q | q
  ·exact Oo
  ·exact q
 ·have p:0<c*d j:=p;rcases Int.lt_trichotomy (d j) 0 with q | q | q
  ·have:=Int.mul_neg_of_pos_of_neg hc q;exact Oo
  ·rw[q]at p;simp at p
  ·exact q
theorem CJ:∀(m:Nat) (d:Y0),Y9u\/(∀i,i<m->d i=0)\/Y8U (- d i)
 | 0,d=>.inr (.inl λi hi=>Oo)
 | m+1,d=>by
  rcases CJ m d with h | h | h
  ·obtain⟨j,hj,z,p⟩:=h;exact .inl ⟨j,Oo,z,p⟩
  ·rcases Int.lt_trichotomy (d m) 0 with q | q | q
   ·exact .inr (.inr ⟨m,Oo,λi hi=>by show-d i=0;rw[h i hi];rfl,by show 0 < - d m;exact Oo⟩)
   ·refine .inr (.inl λi hi=>?_);rcases(show i<m\/i=m by exact Oo)with r | r
    ·exact h i r
    ·rw[r];exact q
   ·exact .inl ⟨m,Oo,h,q⟩
  ·obtain⟨j,hj,z,p⟩:=h;exact .inr (.inr ⟨j,Oo,z,p⟩)
def YG(x:Y9u):¬Y8U (- d i):=λ⟨k,g,a,c⟩=>by
 obtain⟨j,l,e,h⟩:=x;have a:∀i,i<k->- d i=0:=a;have c:0 < - d k:=c;rcases Nat.lt_trichotomy j k with q | q | q
 ·have:=a j q;exact Oo
 ·subst q;exact Oo
 ·have:=e k q;exact Oo
def lexn(m:Nat)(d:Y0):Prop:=Y9u\/∀i,i<m->d i=0
def JX{c:Int}(hc:0<=c)(x:lexn m d):lexn m λi=>c*d i:=by
 rcases Int.lt_or_eq_of_le hc with q | q
 ·rcases x with x | x
  ·exact .inl (tY q x)
  ·exact .inr λi a=>by show c*d i=0;rw[x i a];simp
 ·exact .inr λi a=>by show c*d i=0;rw[<-q];simp
def FB(x:Y9u)(y:lexn m e):Y8U (d i+e i):=by
 rcases y with y | y
 ·exact JV x y
 ·exact gO (λi a=>by rw[y i a];exact Oo) x
def JW(h:¬Y8U (- d i)):lexn m d:=by
 rcases CJ m d with q | q | q
 ·exact .inl q
 ·exact .inr q
 ·exact absurd q h
end
def rad(b:Nat):Nat->YcH->Nat
 | 0,_=>0
 | m+1,v=>rad b m v*b+v m
theorem ET{b:Nat}:∀{m:Nat}{v w:YcH},(∀i,i<m->v i=w i)->rad b m v=rad b m w
 | 0,_,_,_=>rfl
 | m+1,v,w,h=>by rw[rad,rad,ET (m:=m) λi hi=>h i Oo,h m Oo]
theorem XA{b:Nat}:∀{m:Nat}{v w:YcH},(∀i,i<m->v i<b/\w i<b)->(∃j,j<m/\(∀i,i<j->v i=w i)/\v j<w j)->rad b m v<rad b m w
 | 0,_,_,_,⟨j,hj,_⟩=>Oo
 | m+1,v,w,hb,⟨j,hj,z,p⟩=>by
  rw[rad,rad];rcases(show j<m\/j=m by exact Oo)with q | q
  ·have ih:=XA (m:=m) (λi c=>hb i Oo) ⟨j,q,z,p⟩;have d:=hb m Oo;have a:(rad b m v+1)*b<=rad b m w*b:=bF _ ih;rw[Nat.add_mul]at a;exact Oo
  ·subst q;rw[ET (m:=j) z];exact Oo
theorem XB{b:Nat}:∀{m:Nat}{v:YcH},(∀i,i<m->v i<b)->rad b m v<b^m
 | 0,_,_=>by simp[rad]
 | m+1,v,h=>by
  have h1:=XB (m:=m) λi c=>h i Oo;have d:=h m Oo;rw[rad,Nat.pow_succ];have a:(rad b m v+1)*b<=b^m*b:=bF _ h1;rw[Nat.add_mul]at a;exact Oo
theorem QT:∀{n p:Nat},0<p->p<=n->p ∣ fac n
 | 0,p,h,h'=>Oo
 | n+1,p,h,h'=>by
  rw[fac];rcases(show p<=n\/p=n+1 by exact Oo)with q | q
  ·exact Nat.dvd_trans (QT h q) (Nat.dvd_mul_left _ _)
  ·rw[q];exact mO _ _
theorem AU:∀n,0<fac n
 | 0=>Dd
 | n+1=>fA Oo (AU n)
def msr(Z P m:Nat)(z:Y0)(p:Int):Nat:=rad (2*(Z*fac P)+1) m λi=>(z i*((fac P:Int)/p)+(Z*fac P:Nat)).toNat
def vV{Z P:Nat}{x p:Int}(hx:Yfh Z)(p0:0<p)(p1:p<=P):∃q:Int,(fac P:Int)=p*q/\(fac P:Int)/p=q/\0<q/\(0<=x*q+(Z*fac P:Nat))/\x*q+(Z*fac P:Nat)<(2*(Z*fac P)+1:Nat):=by
 obtain⟨a,c⟩:=QT (n:=P) (p:=p.toNat) Oo Oo;have d:((p.toNat:Nat):Int)=p:=Int.toNat_of_nonneg Oo;have e:(fac P:Int)=p*(a:Int):=by rw[<-d,<-Int.natCast_mul,<-c]
 have g:=AU P;have h:0<a:=by
  rcases Nat.eq_zero_or_pos a with z | z
  ·rw[z]at c;exact Oo
  ·exact z
 have j:a<=fac P:=by rw[c];exact Y9I Oo
 refine⟨(a:Int),e,?_,Oo,?_⟩
 ·rw[e];exact Y49
 ·have i:(x*(a:Int)).natAbs<=Z*fac P:=by
   rw[cY];exact Nat.mul_le_mul hx Oo
  exact Oo
def aE5{Z P m:Nat}{z z':Y0}{p p':Int}(hz:∀i,i<m->(z i).natAbs<=Z)(hz':∀i,i<m->(z' i).natAbs<=Z)(p0:0<p)(p1:p<=P)(q0:0<p')(q1:p'<=P)(h:Y8U (p' * z i-p*z' i)):msr Z P m z' p' < msr Z P m z p:=by
 refine XA (Yh2) ?_
 ·obtain⟨q,e,l,J,I,C⟩:=vV (hz i d) p0 p1;obtain⟨y,A,a,G,B,b2⟩:=vV (hz' i d) q0 q1;rw[l,a];exact Oo
 ·obtain⟨j,n,O,L⟩:=h;have g:∀i,i<m->∃c:Int,0<c/\c*(p' * z i-p*z' i)=p*p' * ((z i*((fac P:Int)/p))-z' i*((fac P:Int)/p')):=λi d=>by
   obtain⟨q,e,l,J,I,C⟩:=vV (hz i d) p0 p1;obtain⟨y,A,a,G,B,b2⟩:=vV (hz' i d) q0 q1;refine Y0n (fac P:Int) (by have:=AU P;exact Oo);rw[l,a,Int.mul_sub,Int.mul_sub];have M:(fac P:Int)*(p' * z i)=p*p' * (z i*q):=by rw[e];grind
   have N:(fac P:Int)*(p*z' i)=p*p' * (z' i*y):=by rw[A];grind
   rw[M,N]
  have u:0<p*p':=Int.mul_pos p0 q0;refine Y1R j n Yh2
  ·obtain⟨c,D,e⟩:=g i Oo;have w:p' * z i-p*z' i=0:=O i d;rw[w,Int.mul_zero]at e;rcases Int.mul_eq_zero.mp e.symm with r | r
   ·exact Oo
   ·show(z' i*((fac P:Int)/p')+(Z*fac P:Nat)).toNat=(z i*((fac P:Int)/p)+(Z*fac P:Nat)).toNat;rw[show z' i*((fac P:Int)/p')=z i*((fac P:Int)/p)by exact Oo]
  ·obtain⟨c,D,e⟩:=g j n;have s:=Int.mul_pos D L;rw[show c*(p' * z j-p*z' j)=p*p' * (z j*((fac P:Int)/p)-z' j*((fac P:Int)/p'))from e]at s;have hd:0<z j*((fac P:Int)/p)-z' j*((fac P:Int)/p'):=by
    rcases Int.lt_trichotomy (z j*((fac P:Int)/p)-z' j*((fac P:Int)/p')) 0 with r | r | r
    ·have:=Int.mul_neg_of_pos_of_neg u r;exact Oo
    ·rw[r]at s;simp at s
    ·exact r
   obtain⟨q,S,l,J,I,C⟩:=vV (hz j n) p0 p1;obtain⟨y,R,a,G,B,b2⟩:=vV (hz' j n) q0 q1;show(z' j*((fac P:Int)/p')+(Z*fac P:Nat)).toNat<(z j*((fac P:Int)/p)+(Z*fac P:Nat)).toNat;rw[l,a]at hd ⊢;exact Oo
end Md
namespace Md
def rho(n:Nat)(b:Y0)(R:fD)(i k:Nat):Int:=match k with
 | 0=>dot n (R i) b
 | k+1=>R i k
structure Mst(n:Nat)(b:Y0)(B R:fD)(p:Int):Prop where
 bs:Bs n B R p
 lex:∀i,i<n->lexp (n+1) (rho n b R i)
section
variable{n:Nat}{b:Y0}{B R:fD}{p:Int}
def QV(x y:Y0)(c d:Int)(v:Y0):Y3N (λk=>c*x k-d*y k) v=c*Y3N x v-d*Y3N y v:=by
 unfold dot;have:dY n (λk=>(c*x k-d*y k)*v k)=dY n (λk=>c*(x k*v k)+(-d)*(y k*v k)):=eG λk _=>by grind
 rw[this,nS,iE,iE];grind
def aBV(c:Int)(x v:Y0):Y3N (λk=>c*x k) v=c*Y3N x v:=by
 unfold dot;rw[<-iE];exact eG λk _=>by grind
def FI{x y v:Y0}(h:∀k,k<n->x k=y k):Y3N x v=Y3N y v:=by
 unfold dot;exact eG λk a=>by rw[h k a]
def Bs.rho_exch(h:Bs n B R p)(b:Y0){o:Nat}(ho:o<n)(a:Y0){i k:Nat}(hi:i<n)(hk:k<n+1)(ne:i≠o) :
  p*rho n b (xD n B R o a) i k=Y2m*rho n b R i k-Y27*Y6C:=by
 cases k with
 | zero =>
  show p*Y3N (xD n B R o a i) b=Y2m*Y4p i b-Y27*Y4p o b;rw[<-aBV,<-QV];refine FI λk hk=>?_;rw[h.exch ho a hi hk ne];grind
 | succ k =>
  show p*xD n B R o a i k=Y2m*R i k-Y27*R o k;rw[h.exch ho a hi Oo ne];grind
def GT(b:Y0)(o:Nat)(a:Y0)(k:Nat):rho n b (xD n B R o a) o k=Y6C:=by
 have e:xD n B R o a o=R o:=by funext k;exact Yr
 cases k with
 | zero=>show Y3N (xD n B R o a o) b=Y4p o b;rw[e]
 | succ k=>show xD n B R o a o k=R o k;rw[e]
def Bs.dot_col(h:Bs n B R p){i j:Nat}(hi:i<n)(hj:j<n):Y4p i (B j)=if i=j then p else 0:=by
 rw[<-YjB];by_cases e:i=j
 ·subst e;rw[uL,Yr,h.det]
 ·rw[Y0F];exact FJ hi hj λz=>Y8F
def Bs.indep(h:Bs n B R p){i o:Nat}(hi:i<n)(ho:o<n)(ne:i≠o){c d:Int}(hc:c≠0):¬∀k,k<n->c*R i k-d*R o k=0:=λz=>by
 have e:=QV (n:=n) (R i) (R o) c d (B i);rw[h.dot_col hi hi,h.dot_col ho hi,Yr,Y1Z Yc7]at e;have j:Y3N (λk=>c*R i k-d*R o k) (B i)=0:=by
  rw[FI (y:=Y3S) λk a=>z k a];unfold dot;rw[eG (g:=Y3S) λk _=>Int.zero_mul _,yA]
 rw[j]at e;have l:=h.pos;have:c*p=0:=Oo;rcases Int.mul_eq_zero.mp this with q | q
 ·exact hc q
 ·exact Oo
def aAk(n:Nat)(b:Y0)(R:fD)(a:Y0)(o:Nat):Prop:=∀i,i<n->0<Y27->¬lexp (n+1) λk=>Y27*Y6C-Y2m*rho n b R i k
theorem Mst.next(h:Mst n b B R p){o:Nat}(ho:o<n){a:Y0}(hs:0<Y2m)(hl:aAk n b R a o):Mst n b (st B o a) (xD n B R o a) (Y2m):=by
 refine⟨h.bs.next ho hs,λi g=>?_⟩;by_cases e:i=o
 ·subst e;exact Yes ((GT b i a k).symm) (h.lex i g)
 ·refine YH h.bs.pos (gO (λk j=>(h.bs.rho_exch b ho a g j e).symm) ?_);rcases Int.lt_or_le 0 (Y27)with q | q
  ·have nn:=hl i g q;rcases CJ (n+1) (λk=>Y2m*rho n b R i k-Y27*Y6C)with t | t | t
   ·exact t
   ·exfalso;exact h.bs.indep g ho e (c:=Y2m) (d:=Y27) Oo λk j=>t (k+1) Oo
   ·exact absurd (Yes (by show-(_-_)=_-_;exact Oo) t) nn
  ·have:=FB (tY hs (h.lex i g)) (JX (c:=- Y27) Oo (.inl (h.lex o ho)));exact Yes (by show _ + - Y27*Y6C=_;grind) this
def YI{ri ro rj:Y0}{m:Nat}{si so sj:Int}(hi:0<si)(ho:0<so)(hj:0<sj)(h1:Ya2 (λk=>si*ro k-so*ri k))(h2:¬Ya2 (λk=>sj*ro k-so*rj k)):¬Ya2 (λk=>sj*ri k-si*rj k):=λa=>by
 have d:lexn m λk=>so*rj k-sj*ro k:=JW λq=>h2 (Yes (by show-(_-_)=_-_;exact Oo) q);have:=FB (tY hj h1) (JX (c:=si) Oo d);have e:=tY ho a;exact YG this (Yes (by show _=- (sj*(si*ro k-so*ri k)+si*(so*rj k-sj*ro k));grind) e)
def Bs.some(h:Bs n B R p)(hB:∀j,j<n->∀r,r<n->0<=B j r){a:Y0}{r:Nat}(hr:r<n)(ha:0<a r):∃i,i<n/\0<Y27:=by
 refine cJ Y5c;have all:∀i,i<n->Y27<=0:=λi c=>Int.not_lt.mp λz=>d ⟨i,c,z⟩;have e:=h.expand a hr;have le:∀m,m<=n->dY m (λj=>Y4p j a*B j r)<=0:=by
  intro m
  induction m with
  | zero=>intro _;exact Int.le_refl 0
  | succ m ih =>
   intro u;rw[dY];have l:=ih Oo;have s:=Int.mul_nonneg (a:=- Y4p m a) (by have:=all m Oo;exact Oo) (hB m Oo r hr);have g:- Y4p m a*B m r=- (Y4p m a*B m r):=by grind
   exact Oo
 have:=le n (Yy);have:=Yj1 ha;exact Oo
def zet(n:Nat)(b:Y0)(R:fD)(c:Y0)(k:Nat):Int:=Y2Y (c i*rho n b R i k)
def sc(c:Y0)(o:Nat)(x:Int):Y0:=λi=>if i=o then x else c i
def Bs.zet_exch(h:Bs n B R p)(b:Y0){o:Nat}(ho:o<n)(a c:Y0)(x:Int){k:Nat}(hk:k<n+1) :
  p*zet n b (xD n B R o a) (sc c o x) k=Y2m*zet n b R c k-(Y2Y (c i*Y27)-p*x)*Y6C:=by
 unfold zet;rw[<-iE];have d:∀i,i<n->p*(sc c o x i*rho n b (xD n B R o a) i k)=Y2m*(c i*rho n b R i k)+(- Y6C)*(c i*Y27)+if i=o then p*x*Y6C else 0:=λi g=>by
  by_cases e:i=o
  ·subst e;rw[Yr,GT];unfold sc;rw[Yr];grind
  ·rw[Y0F];unfold sc;rw[Y0F];have:=h.rho_exch b ho a g hk e;have j:p*(c i*rho n b (xD n B R o a) i k)=c i*(p*rho n b (xD n B R o a) i k):=by grind
   rw[j,this];grind
 rw[eG d,nS,nS,iE,iE,kD ho (f:=λi=>if i=o then p*x*Y6C else 0) λi _ ne=>Yhb,Yr];grind
def Mst.cheaper(h:Mst n b B R p){o:Nat}(ho:o<n){a c:Y0}{x:Int}(hd:p*x<Y2Y (c i*Y27)):lexp (n+1) λk=>Y2m*zet n b R c k-p*zet n b (xD n B R o a) (sc c o x) k:=by
 refine gO (Yh3) (tY (c:=Y2Y (c i*Y27)-p*x) Oo (h.lex o ho));show(Y2Y (c i*Y27)-p*x)*Y6C=Y2m*zet n b R c k-p*zet n b (xD n B R o a) (sc c o x) k;rw[h.bs.zet_exch b ho a c x d];exact Oo
def Bs.size(h:Bs n B R p){C:Nat}(hB:∀j,j<n->∀r,r<n->(B j r).natAbs<=C)(c1:1<=C):p.natAbs<=fac n*C^n/\∀i,i<n->∀k,k<n->(R i k).natAbs<=fac n*C^n:=by
 refine⟨by rw[<-h.det];exact HR hB,λi a k c=>?_⟩;rw[h.row a c];refine HR λj g r d=>?_;by_cases e:j=i
 ·subst e;rw[iN];unfold unit;split
  ·exact c1
  ·exact Y0l
 ·rw[lX e];exact hB j g r d
def QW{x y:Y0}{C D:Nat}(hx:∀k,k<n->(x k).natAbs<=C)(hy:∀k,k<n->(y k).natAbs<=D):(Y3N x y).natAbs<=n*(C*D):=by
 unfold dot;refine tL λk a=>?_;rw[cY];exact Nat.mul_le_mul (hx k a) (hy k a)
end
end Md
namespace Md
open Mf
def rK(n:Nat)(f:Y0):((dY n f:Int):Rat)=Y3X n (f i:Rat):=by
 induction n with
 | zero=>rfl
 | succ n ih=>rw[dY,dQ,Rat.intCast_add,ih]
section
variable{n:Nat}{b:Y0}{B R:fD}{p:Int}
def rat(n:Nat)(R:fD)(c:Y0)(k:Nat):Int:=Y2Y (c i*R i k)
def AZ(b:Y0)(R:fD)(c:Y0):zet n b R c 0=Y3N (rat n R c) b:=by
 show Y2Y (c i*Y4p i b)=dY n λk=>rat n R c k*b k;have e:∀k,rat n R c k*b k=Y2Y (c i*(R i k*b k)):=λk=>by
  unfold rat;rw[Int.mul_comm,<-iE];exact eG λi _=>by grind
 rw[eG λk _=>e k,EN];refine eG YkC;rw[iE];rfl
def aBw(R:fD)(c a:Y0):Y2Y (c i*Y27)=Y3N (rat n R c) a:=by
 have:=AZ (n:=n) a R c;exact this
def Mst.share(h:Mst n b B R p){i:Nat}(hi:i<n):0<=Y4p i b:=by
 obtain⟨j,a,z,q⟩:=h.lex i hi;cases j with
 | zero=>exact Int.le_of_lt q
 | succ j=>exact Int.le_of_eq (z 0 Oo).symm
def Bs.ends(h:Bs n B R p){r:Nat}(hr:r<n):Y2Y (Y4p i b*B i r)=p*b r:=h.expand b hr
def JS(n:Nat){y:Y0}{p:Int}{b:Y0}(hy:∀w,w<n->y w<=0)(hb:b n=1){x:Rat}{α:Yv}(hα:∀w,w<n->α w<=(b w:Rat))(hw:(y n:Rat)<=(p:Rat)*x+Y9K n (-(y w:Rat)*α w)):((dot (n+1) y b:Int):Rat)<=(p:Rat)*x:=by
 have e:((dot (n+1) y b:Int):Rat)=Y9K n ((y w:Rat)*(b w:Rat))+(y n:Rat):=by
  show(((dY (n+1) λk=>y k*b k):Int):Rat)=_;rw[dY,Rat.intCast_add,rK,hb,Int.mul_one];congr 1;exact Y7f (by rw[Rat.intCast_mul])
 have le:Y9K n ((y w:Rat)*(b w:Rat))+Y9K n (-(y w:Rat)*α w)<=0:=by
  rw[<-nR];have:=mU (n:=n) (f:=λw=>(y w:Rat)*(b w:Rat) + -(y w:Rat)*α w) (g:=Y3S) λw hw=>by
   have a:(0:Rat)<=-(y w:Rat):=by
    have:=Rat.intCast_le_intCast.mpr (hy w hw);have h:((0:Int):Rat)=0:=rfl;grind
   have c:=hα w hw;have d:=Rat.mul_le_mul_of_nonneg_left c a;grind
  rw[iY]at this;exact this
 rw[e];grind
def aBG(n:Nat){y:Y0}{b:Y0}(hy:∀w,w<n->y w<=0)(hb:b n=1)(hl:lexp (n+2) λk=>match k with | 0=>dot (n+1) y b | k+1=>y k){α:Yv}(hα:∀w,w<n->α w<=(b w:Rat))(hw:(y n:Rat)<=Y9K n (-(y w:Rat)*α w)):False:=by
 have d:=JS n (p:=0) (x:=0) hy hb hα (by rw[Rat.mul_zero,Rat.zero_add];exact hw);rw[Rat.mul_zero]at d;have i:dot (n+1) y b<=0:=Rat.intCast_le_intCast.mp (by have c:((0:Int):Rat)=0:=rfl;rw[c];exact d);obtain⟨j,l,z,q⟩:=hl;cases j with
 | zero=>have q:0<dot (n+1) y b:=q;exact Oo
 | succ j =>
  have q:0<y j:=q;rcases(show j<n\/j=n by exact Oo)with r | r
  ·have:=hy j r;exact Oo
  ·subst r;have h:∀w,w<j->y w=0:=λw a=>z (w+1) Oo;have e:Y9K j (-(y w:Rat)*α w)=0:=by
    rw[bT (g:=Y3S) λw a=>by
     rw[h w a];have c:((0:Int):Rat)=0:=rfl;rw[c];grind,iY]
   rw[e]at hw;have c:((0:Int):Rat)=0:=rfl;rw[<-c]at hw;have:=Rat.intCast_le_intCast.mp hw;exact Oo
end
end Md
namespace L2
open PySem PySem.Spec PyProof.Rows
def aGa:TS:=Y71
def OO{X:Cx}{st:Stmt}:IK X st aGa:=⟨λ_ _ _ _ _ _ h=>h.elim⟩
def rO.ext{b:Bool}{h h':Heap}{i l c:Addr}{k:Nat}(x:rO b h i l k)(s:YgA c h)(n:i≠c):rO b h' i l k:=x.at λo e=>s i o n e
section
variable{prog:Program}{w:World}{A:Around}{E:Yc}{s:Shared}
def NO{b:Bool}{e it l:Addr}{i:Nat}{n:Int}{items:Ai}{x old:Value}{Q:Yc}(he:Y8C s.heap e it n)(hit:rO b s.heap it l i)(hl:YeL b l)(hx:items[i]?=Yb)(hne:e≠it)
  (hQ:∀h' t,IsEnumOut h' e it (n+1) x s.heap.objs.size->rO b h' it l (i+1)->YiG (some { cls:=.type "tuple",data:=.seq #[.int n t,x] })->Y9F (c≠e->c≠it->Y5s->Y7V) (Q Y1r ({ s with heap:=h',toks:=s.toks+1 }))) :
  wpAny (model prog w) A (Builtin.«enumerate.__next__» ⟨Y5o e,[]⟩) (λfin s'=>∃v,fin=YgE v/\Q v s') E s:=by
 obtain⟨J,g,d,m,I⟩:=s;show Y2I (Y4s e 2 >>= _);refine Y5n he Y5a;refine YgC hit hl hx (λL G j=>?_);replace j:Heap.SameBut it J L:=j;have D:Y8C L e it n:=(j.2 e hne).trans he;show Y9t (Y4s e 3 >>= _) L g d m I;refine Y5n D (rawInt n);show Y9t (Y4s e 4 >>= _) L g d m I;refine Y5n D .none;show Y9t (mkInt n >>= _) L g d m I;refine wpAny_bind (wpAny_mkInt ?_);show Y9t (setField (YcX) 3 (rawInt (n+1)) >>= _) L g d (m+1) I;refine Y9L D (by simp) (λX z p=>?_);replace p:YbI L X:=p;replace z:Y8C X e it (n+1):=z;show Y9t (setField (YcX) 4 .none >>= _) X g d (m+1) I;refine Y9L z (by simp) (λM B h=>?_);replace h:YbI X M:=h;replace B:Y8C M e it (n+1):=B;show Y9t (newTuple [.int n m,x] >>= _) M g d (m+1) I;refine wpAny_bind (wpAny_newTuple ?_);have C:Y8C (M.push { cls:=.type "tuple",data:=.seq #[.int n m,x] }) e it (n+1):=aF _ B;generalize hh₄:M.push { cls:=.type "tuple",data:=.seq #[.int n m,x] }=U at C;have O:M.objs.size=J.objs.size:=by rw[h.1,p.1,j.1]
 have T:e<J.objs.size:=aZ he;have δ:U.get? J.objs.size=some { cls:=.type "tuple",data:=.seq #[.int n m,x] }:=by rw[<-hh₄,<-O];exact Y1l
 have γ:∀c o,c≠e->c≠it->J.get? c=Y9->U.get? c=Y9:=λc o a P Z=>by rw[<-hh₄];exact aF _ (h.extBut c o a (p.extBut c o a (j.extBut c o P Z)))
 have W:rO b U it l (i+1):=by rw[<-hh₄];exact((G.ext p.extBut (Ne.symm hne)).ext h.extBut (Ne.symm hne)).at λo ε=>aF _ ε
 show Y9t (Yi0 e >>= _) U g d (m+1) I;rw[O];clear hh₄ B h z p D j G O M X L;refine Y3R;unfold Builtin.SmallTypes.ownedTupleIsFree;refine wpAny_bind (wpAny_field C rfl (x:=.none) rfl Y1X);simp only[if_true];refine Ybo ?_;refine Y5n C old;refine Y9L C (by simp) (λY N u=>?_);replace u:YbI U Y:=u;replace N:IsEnum Y e it (n+1) x:=N;show Y9t (Builtin.SmallTypes.ownedTupleHandOut (YcX) (.ref J.objs.size) >>= _) Y g d (m+1) I;refine Y3R;unfold Builtin.SmallTypes.ownedTupleHandOut;refine Y9L N (by simp) (λβ R y=>?_);replace y:YbI Y β:=y;replace R:IsEnumOut β e it (n+1) x J.objs.size:=R;refine wpAny_setField_rec R (by simp) λα S r=>?_;replace r:YbI β α:=r;replace S:IsEnumOut α e it (n+1) x J.objs.size:=S;refine Yfw (wpAny_pure (Y5 (hQ α m S ?_ ?_ ?_)))
 ·exact((W.ext u.extBut (Ne.symm hne)).ext y.extBut (Ne.symm hne)).ext r.extBut (Ne.symm hne)
 ·exact r.extBut _ _ (Yjh) (y.extBut _ _ (Yjh) (u.extBut _ _ (Yjh) δ))
 ·exact λc o a P Z=>r.extBut c o a (y.extBut c o a (u.extBut c o a (γ c o a P Z)))
def NN{b:Bool}{e it l:Addr}{i:Nat}{n:Int}{items:Ai}{x old:Value}{Q:YcI}(he:Y8C s.heap e it n)(hit:rO b s.heap it l i)(hl:YeL b l)(hx:items[i]?=Yb)(hne:e≠it)
  (hQ:∀h' t,IsEnumOut h' e it (n+1) x s.heap.objs.size->rO b h' it l (i+1)->YiG (some { cls:=.type "tuple",data:=.seq #[.int n t,x] })->Y9F (c≠e->c≠it->Y5s->Y7V) (Q (Y6 s.heap.objs.size) { s with heap:=h',toks:=s.toks+1 })) :
  Ycc e:=by
 have d:Y8n e "enumerate" := Y0B he;unfold pyNext;refine Ybm (Y8q "__next__" d F.slot_enumerate_next F.slot_enumerate_next d F.entry_enumerate_next ?_ (F.args_enumerate_next_1 _));exact NO he hit hl hx hne λh' t a b c k=>wpAny_pure (hQ h' t a b c k)
def NM{b:Bool}{e it l:Addr}{i:Nat}{n:Int}{items:Ai}{old:Value}{Q:YcI}(hh:Y69)(he:Y8C s.heap e it n)(hit:rO b s.heap it l i)(hl:YeL b l)(hx:items[i]?=none)
  (hQ:∀h',YgA it s.heap->Q none { s with heap:=h' }):Ycc e:=by
 have d:Y8n e "enumerate" := Y0B he;unfold pyNext;refine Ybm (Y8q "__next__" d F.slot_enumerate_next F.slot_enumerate_next d F.entry_enumerate_next ?_ (F.args_enumerate_next_1 _));show Y2I (Y4s e 2 >>= _);refine Y5n he Y5a;refine wpAny_bind (MY hh hit hl hx λh' x a c=>?_);obtain⟨o,h,g⟩:=c;refine wpAny_bind (wpAny_isInstance (T:="StopIteration") (b:=true) (Y3c h g) isSubtype_stop ?_);exact wpAny_pure (hQ _ a)
abbrev enO(it:Addr)(n:Int):Obj:={ cls:=.type "enumerate",data:=.fields #[.none,.bool false,.ref it,rawInt n,.none,.none] }
def aE7(b:Bool)(l:Addr)(xs:Ai):YbC (Builtin.«enumerate.__new__» ⟨[.type "enumerate",Y0G],[]⟩) (Y7E b l/\R (.ok (.ret (.ref (Yj5 b l).objs.size))) ({ s with heap:=(s.heap.push (itO b l)).push (enO s.heap.objs.size 0) })) :=
 .of_wp λi w A R s h=>by
  obtain⟨n,g,d,m,p⟩:=s;obtain⟨j,h⟩:=h;have e:=sub_enumerate;have a:nF b (Shared.heap ⟨n,g,d,m,p⟩) l xs:=j
  wp_walk
  refine wpAny_stack_any λst=>Y1X;split
  ·rename_i c _ _ _ _ _
   cases(c == Value.type "enumerate") <;> (wp_walk using QI a) <;> exact Y5 h
  ·wp_walk using QI a
   exact Y5 h
end
section
variable{prog:Program}{w:World}{A:Around}{E:Yc}{s:Shared}
structure EAt(b:Bool)(e it l:Addr)(n:Int)(k:Nat)(h:Heap):Prop where
 e:∃old,Y8C h e it (n+k)
 i:rO b h it l k
def aGT{b:Bool}{l:Addr}{xs:Ai}{Q:Yc}(hl:Y7E b l)
  (h:∀h',EAt b (Y1J) s.heap.objs.size l 0 0 h'->Y9F (Y5s->Y7V) (Y4l Y1J ({ s with heap:=h' }))) :
  Y1K (call (.type "enumerate") [Y0G]):=by
 refine callType_new F.called_enumerate Dd (F.typeCall_enumerate_1 _) (F.newCall_enumerate_1 _) (λd=>F.args_object_init_2 d _) F.entry_enumerate_new (aE7 b l xs) (Y0j hl);have e:(Yj5 b l).objs.size=Y1J:=fW ..;have a:((s.heap.push (itO b l)).push (enO s.heap.objs.size 0)).get? (Yj5 b l).objs.size=Y7q:=Y1l;have g:((s.heap.push (itO b l)).push (enO s.heap.objs.size 0)).get? s.heap.objs.size=Y7q:=aF _ Y1l;show _/\_;rw[e]at a ⊢;exact⟨Y0B a,h _ ⟨Y2T a,Y8d _ g rfl⟩ λc o x=>Y78 x⟩
end
def Ite(b:Bool)(l:Addr)(n:Int):It :=
  ⟨Ygs (H l=Y7h b/\Y0s=Yb),
   λi H v H'=>∃q x,v=.ref q/\H q=none/\H'=Y3B q (.tup [.int (n+(i:Nat)),x])/\∀xs,H l=Y7h b->Y0s=Yb,
   YkO (H l=Y7h b/\Y5T i)⟩
def SD{P:Program}{w:World}{K:Aa}{elts:Y0b}{x1}{tp:Pos}{b:Bool}{e it l:Addr}{n:Int}(hne:e≠it):EB P w K (Yb8) (Ite b l n) [e,it] e (λi h=>EAt b e it l n i h) where
 mem:=by simp
 obj:=λi h st c a=>by
  obtain⟨j,m⟩:=st.e;obtain⟨ζ,B,_,δ⟩:=st.i;simp only[bN,List.not_mem_nil,or_false]at a;rcases a with rfl | rfl
  ·exact Yar m (by cases q)
  ·exact Yar B (by rw[δ]at q;cases q)
 keep:=λi h y st k=>by
  obtain⟨j,m⟩:=st.e;exact⟨⟨j,k _ (by simp) _ m⟩,st.i.at (YcM _ (by simp) o e)⟩
 item:=by
  intro X G O R S i g s σ H E I u st D;subst G O R;obtain⟨ι,x,m,U⟩:=D;obtain⟨u1,L,A⟩:=I.sq m;obtain⟨Y,N,κ⟩:=L.get U;obtain⟨j,r⟩:=st.e;refine NN r st.i A (x:=Y) (by simpa using N) hne λy t ε M T θ=>Y5 (wpAny_letOwnedTupleGo_enum ε λJ C d=>?_);have d:YbI y J:=d;have μ:∀c o,c ∉ [e,it]->Y5s->J.get? c=Y9:=λc o a z=>by
   simp only[bN,List.not_mem_nil,or_false,not_or]at a;exact d.extBut c o a.1 (θ c o a.1 a.2 z)
  have I1:Y4T g ({ s with heap:=J,toks:=s.toks+1 }):=I.turnedL (t':=s.toks+1) μ u;have fq:kW X g H s.heap.objs.size:=I.fpOk (Yy) (Y2D);have η:Yfm=none:=by
   cases q:Yfm with
   | none=>rfl
   | some o=>exact absurd (aO (aZ q) I.sz) (bS _)
  have nz:YfY e:=YgV (aZ r) (by rw[<-q];exact bS _);have ν:YfY it:=λq=>by obtain⟨ζ,B,_⟩:=st.i;exact absurd (aZ B) (by rw[<-q];exact bS _)
  have p:n+((i+1:Nat):Int)=n+(i:Nat)+1:=Oo;refine⟨Y1r,YhW H (.tup [.int (n+(i:Nat)),x]),I1.put fq η ⟨Y7B (uV (by show 2<=64;decide)) _ (d.extBut _ _ nz T),[Y3E (n+(i:Nat)),Y],.cons (Y5P t) (Y8x κ),Y3P (d.extBut _ _ nz T) _ rfl⟩,rfl,Y6Y _ x fq.1 rfl (λβ Z=>?_),
   ⟨Y2T (by rw[p];exact C),M.ext d.extBut (Ne.symm hne)⟩,λc a=>?_⟩
  ·rw[m]at Z;rw[<-zP.inj Z];exact U
  ·have γ:Ybv c:=λq=>by
    simp only[bN,List.not_mem_nil,or_false]at a;rcases a with rfl | rfl
    ·exact nz q.symm
    ·exact ν q.symm
   rw[eP γ];exact(u c a).1
 done:=by
  intro X G O R S i g s σ H E I u st D;subst G O R;obtain⟨ι,m,ξ⟩:=D;obtain⟨u1,L,A⟩:=I.sq m;have ο:=L.length;obtain⟨j,r⟩:=st.e;refine NM (I.ok.hd S) r st.i A (by simp;exact Oo) λy α=>Y3 (Yiu (λc o a z=>?_) u);simp only[bN,List.not_mem_nil,or_false,not_or]at a;exact α c o a.2 z
 self:=λ_ _ _ _ _ st h=>by
  obtain⟨j,r⟩:=st.e;exact wpAny_pyIter_enum r h
def aGJ(b:Bool)(n:Int)(ta:TA):TI:=YeD σ H (∃l xs,vs=[Y0G]/\H1 l=Y7h b/\R (Ite b l n) H1)
def UL:Yia "enumerate"=YiO "enumerate":=Kk
section
variable{X:Cx}
def XI{pins:Ad}{σ:St}{tg:Expr}{elts:Y0b}{x1}{tp:Pos}{b:Bool}{l:Addr}{n:Int}{H1:Hp}{s1:Shared}{R:It->(Y2d Hp)}{h':Heap}(I1:Y4m H1 s1)(Z:EAt b (YiZ 1) s1.heap.objs.size l n 0 h')(kk:∀c o,s1.heap.get? c=Y9->Y7V)(q:R (Ite b l n) H1) :
  Y9O (pyIter (.ref (YiZ 1))) (PIE X pins σ (Yb8) R) ({ s1 with heap:=h' }):=by
 obtain⟨i,g⟩:=Z.e;refine wpAny_pyIter_enum g ⟨_,[YiZ 1,s1.heap.objs.size],_,_,H1,rfl,I1.kept (t':=s1.toks) kk,SD (Y5m (show(s1.heap.objs.size+1:Nat)=s1.heap.objs.size from h)),Z,λc d=>?_,q⟩;have a:s1.heap.objs.size<=c:=by
  simp only[bN,List.not_mem_nil,or_false]at d;rcases d with rfl | rfl
  ·exact Y9U _
  ·exact Yy
 exact I1.fpOk a (I1.hok.fresh a)
def GC(b:Bool){a:Expr}{ta:TA}{p pos tp:Pos}{elts:Y0b}{x1}(hg:Gl X "enumerate")(hm:X.mg "enumerate" = none)(ha:LO X [a] ta)(hs:Y2H a=[(false,Y7P)]:=by first | exact pW | exact pX | exact iO | rfl) :
  OD X (Yb8) (Y8z "enumerate" p [a] []) (aGJ b 0 ta):=⟨by
 intro c s σ H R I h;refine Call_ (vW I hg hm UL (Ybj (ha.p pos c s σ H _ I h) (λy w ⟨n,H1,I1,j,g⟩=>?_) (by rw[hs];rfl) (by rfl)));obtain⟨l,z,e,i,q⟩:=g;subst e;obtain⟨u,rfl,ru⟩:=nO j;cases ru;obtain⟨u1,_,d⟩:=I1.sq i;exact aGT d λr Z m=>XI (tg:=Yb8) I1 Z m q⟩
def KD{b:Bool}{l:Addr}{n:Int}{xs:Al}{g:TG}{tb:TS}{D:qL}{σ:St}{H:Hp}(Pv:Nat->Y1I)(h0:Y65 0)(hl:∀i σ H,Y2F->H l=Y7h b)
  (hs:∀i x q σ H H',Y0s=Yb->Y2F->H q=none->H' q=Ym [.int (n+(i:Nat)),x]->Y1->g (.ref q) σ H' (Y45 ({ D with nx:=Pv (i+1),ct:=Pv (i+1),bk:=D.nx }))) (hd:∀σ H,Ygp->Y3l) :
  ∃W:Nat->Nat->St->Hp->Prop,(Ybd H)/\∀i m σ H,W i m σ H ->
   ((Ite b l n).stop i H/\Y3l)\/((Ite b l n).go i H/\∃N:St->Hp->Prop,Yah (N σ' H'->∃m',m' < m/\W (i+1) m' σ' H') ((Ite b l n).yld i H x H'->g x σ H' (Y45 ({ D with nx:=N,ct:=N,bk:=D.nx })))):=by
 refine YbM (m=Y3y i/\Y6y/\Y2F) (Y37 _ Y0l h0);rintro i m σ H ⟨rfl,r,p⟩;have a:=hl i σ H p;by_cases hlt:Y3J
 ·have h:Y0s=some xs[i]:=aC hlt;refine .inr ⟨⟨xs,_,a,h⟩,Pv (i+1),λσ' H' d=>Y3P Oo hlt d,λv H' y=>?_⟩;obtain⟨q,x,rfl,c,rfl,j⟩:=y;exact hs i x q σ H _ (j xs a) p c bK (aT.upd c)
 ·have e:Y3V i:=Oo;subst e;exact Y38 (YcL xs a) (hd σ H p)
end
end L2
namespace L2
open PySem PySem.Spec PySem.W PyProof.Rows HT
@[irreducible] def GV:Y1i:=λxs H Q=>∃(d:Addr) (kvs:Yu),xs=Y5o d/\H d=Y10/\Y5Y 1000/\Y2Q (H D=none) (Y0x=Y05->DR H' kvs ys->Y1->Y0Q)
def rlst{H:Hp}{Q:VK}{d:Addr}{kvs:Yu}(h:H d=Y10)(hz:Y5Y 1000)(q:Y2Q (H D=none) (Y0x=Y05->DR H' kvs ys->Y1->Y0Q)):GV (Y5o d) H Q:=by
 unfold GV;exact Y6Y d kvs h hz q
def LA{X:Cx}(hc:Y1d):mN X (.type "list") GV:=by
 unfold GV;intro T s σ H τ ο Q I r h;obtain⟨d,j,rfl,G,υ,q⟩:=h;obtain⟨u,rfl,κ⟩:=nO r;cases κ;obtain⟨z,θ,o,S,R,U,ρ,N,L,O⟩:=aCV I G;have g:Y0z U.size:=Y3h (show U.size<=1000 by exact Oo);refine kdl_call (QG z R N) (Yab) S g λξ η c μ α B C=>?_;obtain⟨ζ,P⟩:=C;have A:∃a:Al,eI a c.toList/\DR H j a:=by
  have M:∀(n:Nat) (l:Ag),l.length=n->∀(m:Yu),m.length=n->(∀(i:Nat) v p,l[i]?=Yn->m[i]?=YcW->∃b,v=Y0e/\H b=Ym (p.1.map kV))->∃a:Al,eI a l/\DR H m a:=by
   intro n
   induction n with
   | zero =>
    intro l J m z _;cases l with
    | nil=>cases m with
     | nil=>exact Y8d [] .nil (λi p h=>by simp at h)
     | cons _ _=>simp at z
    | cons _ _=>simp at J
   | succ n ih =>
    intro l J m z Z;cases l with
    | nil=>simp at J
    | cons v l=>cases m with
     | nil=>simp at z
     | cons p m =>
      obtain⟨b,rfl,β⟩:=Z 0 v p rfl rfl;obtain⟨a,A,D,P⟩:=ih l (by simpa using J) m (by simpa using z) λi v p w y=>Z (i+1) v p (by simpa using w) (by simpa using y);refine⟨Y0e::a,YhF A,by simp[D],λi q G=>?_⟩;cases i with
      | zero=>cases(show p=q by simpa using G);exact Yx b β
      | succ i =>
       obtain⟨ν,w,y⟩:=P i q (by simpa using G);exact⟨ν,by simpa using w,y⟩
  refine M j.length c.toList (by rw[Array.length_toList,ζ,L]) j rfl λi v p w y=>?_;obtain⟨ε,e⟩:=P i v (by rw[<-Array.getElem?_toList];exact w);obtain⟨b,ι,δ⟩:=O i ε p y;exact⟨b,by rw[e,ι],δ⟩
 obtain⟨a,A,D⟩:=A;have Y:=Yiv;have W:Y2c (YhW H (.lst a)):=aT.upd Y;refine Yb5 (YhW H (.lst a)) (I.laid (t':=η) α (Yy) ⟨by have:=D.1;exact Oo,c.toList,μ,A,by rw[Array.toArray_toList];exact B⟩) (q _ a _ Y bK ⟨D.1,λi p γ=>?_⟩ W);obtain⟨b,w,y⟩:=D.2 i p γ;exact⟨b,w,W _ _ y⟩
end L2
namespace L2
open PySem PySem.Spec PyProof.Rows
@[irreducible] def PU:V->Y1i:=λx vs H Q=>∃(l:Addr) (ns:Af) (m:Int) (j:Nat),x=Y0G/\vs=[Y4H]/\H l=Yae/\ns[j]?=Y8Y/\(∀i,i<j->ns[i]? ≠ Y8Y)/\Y57 1000/\Y1x (j:Int)
def aIY{H:Hp}{l:Addr}{ns:Af}{m:Int}{j:Nat}{Q:VK}(h:H l=Yae)(h1:ns[j]?=Y8Y)(h2:∀i,i<j->ns[i]? ≠ Y8Y)(hz:Y57 1000)(q:Y1x (j:Int)):PU (Y0G) [Y4H] H Q:=by
 unfold PU;exact⟨l,ns,m,j,rfl,rfl,h,h1,h2,hz,q⟩
theorem rW:∀{ns:Af}{us:Ag}{m:Nat},eI (ns.map V.int) us->(hm:m<us.length)->∃s t,ns[m]?=some s/\us[m]=.int s t
 | s::ns,u::us,0,h,_=>by
  cases h with
  | cons r _=>obtain⟨t,e⟩:=(show ∃t,u=Value.int s t from r);exact⟨s,t,rfl,e⟩
 | s::ns,u::us,m+1,h,hm=>by
  cases h with
  | cons _ hr =>
   obtain⟨a,t,c,d⟩:=rW hr (m:=m) (by simpa using hm);exact⟨a,t,c,d⟩
 | [],us,m,h,hm=>by cases h;simp at hm
def QS(a b:Int):eqV (.int a) (.int b)=Y0U a b:=by
 show(a == b)=_;by_cases h:a=b
 ·subst h;simp
 ·simp[h]
theorem CP:∀ns:Af,(ns.map V.int).all zM=true
 | []=>rfl
 | s::ns=>by show(zM (V.int s)&&(ns.map V.int).all zM)=true;rw[CP ns];rfl
def YX{ns:Af}{m:Int}(h:Y7C m):∃j:Nat,ns[j]?=Y8Y/\∀i,i<j->ns[i]? ≠ Y8Y:=by
 induction ns with
 | nil=>cases h
 | cons a ns ih =>
  by_cases e:a=m
  ·exact⟨0,by rw[e];rfl,λi c=>Oo⟩
  ·obtain⟨j,d,g⟩:=ih ((bN.mp h).resolve_left λz=>Y8F);refine⟨j+1,d,YkH⟩;cases i with
   | zero=>intro z;exact e (by simpa using z)
   | succ i=>exact g i Oo
section
variable{X:Cx}
def aBE:MtR X "list.index" PU:=by
 unfold PU;intro C s σ H x T v U Q I P rv h;obtain⟨l,J,m,j,rfl,rfl,S,D,N,W,q⟩:=h;cases P;obtain⟨u,rfl,ru⟩:=nO rv;obtain⟨t,rfl⟩:=(show ∃t,u=Value.int m t from ru);obtain⟨z,a,n,r,L,e⟩:=I.lstM S;have O:j<J.length:=(aB.mp D).1;have c:j<a.toArray.size:=by rw[bI,<-L,aA];exact O
 have g:eqU (Y4H) a.toArray[j]=true:=by
  obtain⟨G,M,d,A⟩:=rW r (m:=j) (by simpa using c);rw[D]at d;cases d;rw[show a.toArray[j]=a[j]'(by simpa using c)from rfl,A];show eqV (Y4H) (Y4H)=true;rw[QS];simp
 have w:∀i (p:i<a.toArray.size),i<j->Yw (eqU (Y4H) a.toArray[i]):=λi p B=>by
  obtain⟨G,M,d,A⟩:=rW r (m:=i) (by simpa using p);rw[show a.toArray[i]=a[i]'(by simpa using p)from rfl,A];show Yw (eqV (.int G) (Y4H));rw[QS];exact bZ λz=>N i B (by rw[d,z])
 exact call_meets F.slot_list_index (Y0B e) F.entry_list_index (F.args_list_index_2 _ _) (SeqAt.list_indexAt l a.toArray n none #[] (Y3E m) (eqU (Y4H)) j c Oo g w) ⟨e,λy R=>JP (x:=Y4H) (Y5P t) rfl r (CP J) y (by simpa using R),Y9k _ H q⟩
end
end L2
namespace Mf
end Mf
abbrev a00:Y04:=["_law_one","_law_other"]
abbrev a01:Y04:=["one","other"]
abbrev a02:Y04:=["_law_feed_here","_law_many"]
abbrev a03:Y04:=["_law_n","_law_d"]
abbrev a04:Y04:=["a","ab","b","abc","faced","ways","z","bb"]
abbrev a05:Y04:=["number","above_nought"]
abbrev a06:Y04:=["trial","way","counts"]
abbrev a07:Y04:=["faces","table"]
abbrev a08:Y04:=["trial","aim","prices","counts","worth_of"]
abbrev a09:Y04:=["weighing","best_at"]
abbrev a12:Y04:=["trial","rule","way"]
abbrev a13:Y04:=["_law_feed_here","_law_faces","_law_ways"]
abbrev a14:Y04:=["_law_feed_here"]
abbrev a15:Y04:=["_law_feed_here","_law_ways","_law_most"]
abbrev a16:Y04:=["self","ends","own"]
abbrev a17:Y04:=["self","column","thing"]
abbrev a18:Y04:=["rows","steps","place","out"]
abbrev a19:Y04:=["trial","rule","way","costs"]
abbrev a20:Y04:=["trial"]
abbrev a21:Y04:=["self","trial","aim"]
abbrev a23:Y04:=["master"]
abbrev a24:Y04:=["weighing","factors","cost_factor"]
abbrev a25:Y04:=["_law_script"]
abbrev a26:Y04:=["weighing","master","cost_unit"]
abbrev a27:Y04:=["some"]
abbrev a28:Y04:=["faces","many"]
abbrev a29:Y04:=["_law_feed_here","_law_bounds"]
abbrev a30:Y04:=["rows","steps","out","parts"]
abbrev a31:Y04:=["trial","aim"]
abbrev a32:Y04:=["faces","weighing","master"]
abbrev a33:Y04:=["some","others"]
abbrev a34:Y04:=["weighing","counts"]
abbrev a35:Y04:=["counts"]
abbrev a39:Y04:=["many","place"]
abbrev a40:Y04:=["self","costs"]
abbrev a41:Y04:=["trial","aim","prices"]
abbrev a42:Y04:=["rising","some","unit"]
abbrev a43:Y04:=["trial","aim","counts"]
abbrev a44:Y04:=["rule"]
abbrev a45:Y04:=["one","unit"]
abbrev a46:Y04:=["one","other","share"]
abbrev a47:Y04:=["counts","face"]
abbrev a48:Y04:=["trial","rule","aim"]
abbrev a49:Y04:=["faces","most"]
namespace Kw
open PySem L2 Mf
def top(i:Nat):Stmt:=PySem.Challenge.pw_earlystop_k55_whole_as_bounds_grow.main.body.getD i (.Pass ⟨0,0,0,0⟩)
structure Cl where
 ONE:Addr
 NOUGHT:Addr
 Weighing:Addr
 Master:Addr
 tok_LOOKS_ON:Tok
 tok_ROOM:Tok
 tok_LACK:Tok
 tok_RULE:Tok
 tok_NONE:Tok
structure jH(K:Aa)(mg:Y0y)(c:Cl):Prop where
 b_list:mg "list" = none
 b_len:mg "len" = none
 b_abs:mg "abs" = none
 b_range:mg "range" = none
 b_sum:mg "sum" = none
 b_zip:mg "zip" = none
 b_reversed:mg "reversed" = none
 b_tuple:mg "tuple" = none
 b_sorted:mg "sorted" = none
 b_int:mg "int" = none
 b_min:mg "min" = none
 b_enumerate:mg "enumerate" = none
 b_any:mg "any" = none
 g_ONE:mg "ONE" = Y6 c.ONE
 g_NOUGHT:mg "NOUGHT" = Y6 c.NOUGHT
 g_LOOKS_ON:mg "LOOKS_ON" = some (.int 0 c.tok_LOOKS_ON)
 g_ROOM:mg "ROOM" = some (.str "room" c.tok_ROOM)
 g_LACK:mg "LACK" = some (.str "lack" c.tok_LACK)
 g_RULE:mg "RULE" = some (.str "rule" c.tok_RULE)
 g_NONE:mg "NONE" = some (.str "none" c.tok_NONE)
 g_Master:mg "Master" = Y6 c.Master
 w_Master:Own K c.Master ["rows","parts","standing"]
 g_Weighing:mg "Weighing" = Y6 c.Weighing
 w_Weighing:Own K c.Weighing ["rising","units","weights","cost_unit","costs"]
 o_ONE:vY K c.ONE [1,1]=true
 o_NOUGHT:vY K c.NOUGHT [0,1]=true
abbrev sQ8:Stmt:=(top 83)
def cQ8:Yg a25 a25 sQ8:={}
abbrev sQ7:Stmt:=(top 84)
def cQ7:Yg ["_law_feed_here","_law_many","_law_found","_law_at","_law_cells","_law_cell","_law_number"] a02 sQ7:={}
abbrev sQ9:Stmt:=(top 85)
def cQ9:Yg ["_law_n","_law_d","_law_one","_law_other"] a03 sQ9:={}
abbrev aEl:Stmt:=(top 90)
def LG:Yg ["_law_feed_here","_law_many","_law_whole","_law_found","_law_left","_law_k","_law_part","_law_at"] a02 aEl:={}
def CO{b:Bool}{A B:Prop}(h:b=true)(k:A):if b=true then A else B:=by rw[h,Yr];exact k
def tZ{b:Bool}{A B:Prop}(h:Yw b)(k:B):if b=true then A else B:=by rw[h,Y20];exact k
def WG{K:Aa}{H H':Hp}{a:Addr}{xs:Al}(s:Y1)(h:Y6H):gJ K H' a xs:=by
 rcases h with(h | ⟨o,h⟩) | h
 ·exact Ye4 (s _ _ h)
 ·exact .inl (Y3x o (s _ _ h))
 ·exact .inr h
theorem bJ.take{H:Hp}:∀{ds:Y0Y}{vs:Al}(n:Nat),Y6n->Y1g (ds.take n) (vs.take n)
 | [],_,n,h=>by cases(show _=[]from h);rw[List.take_nil,List.take_nil];exact bJ.nil
 | d::ds,_,0,h=>bJ.nil
 | d::ds,_,n+1,h=>by
  unfold bJ at h;obtain⟨x,xs,rfl,h1,h2⟩:=h;exact bJ.cons h1 (bJ.take n h2)
theorem bJ.drop{H:Hp}:∀{ds:Y0Y}{vs:Al}(n:Nat),Y6n->Y1g (ds.drop n) (vs.drop n)
 | [],_,n,h=>by cases(show _=[]from h);rw[List.drop_nil,List.drop_nil];exact bJ.nil
 | d::ds,_,0,h=>h
 | d::ds,_,n+1,h=>by
  unfold bJ at h;obtain⟨x,xs,rfl,h1,h2⟩:=h;exact bJ.drop n h2
def DU(n:Nat)(d:PyData):Prop:=PyData.canLay0 d=true/\PyData.depth d<=n
theorem DU.all{n:Nat}:∀{ds:Y0Y},(∀d∈ds,DU n d)->PyData.canLayAll0 ds=true/\YiK<=n
 | [],_=>⟨rfl,cM _⟩
 | d::ds,h=>by
  obtain⟨h1,h2⟩:=h d (aY ..);obtain⟨c,g⟩:=DU.all λe a=>h e (bD _ a);refine⟨?_,?_⟩
  ·show(PyData.canLay0 d&&PyData.canLayAll0 ds)=true;rw[h1,c];rfl
  ·show max (PyData.depth d) (PyData.depthAll ds)<=n;exact Oo
def DU.tup{n:Nat}{ds:Y0Y}(h:∀d∈ds,DU n d):DU (n+1) (Yhh):=⟨(YhK).1,by have:=(YhK).2;show YiK+1<=n+1;exact Oo⟩
def DU.lst{n:Nat}{ds:Y0Y}(h:∀d∈ds,DU n d):DU (n+1) (.list ds):=⟨(YhK).1,by have:=(YhK).2;show YiK+1<=n+1;exact Oo⟩
theorem DU.int(i:Int):DU 1 (Y17):=Y3 (by simp[PyData.depth])
def DU.ok{n:Nat}{d:PyData}(h:DU n d)(hn:n<=64:=by decide):Y5d d:=by
 unfold SeqAt.shaped;rw[h.1,Bool.true_and];exact cR (by have:=h.2;exact Oo)
def aFE{z:Int}(h:(10:Int)^Int.toNat 18<=z):0<=z:=Int.le_trans Dd h
abbrev fdD(L:Addr)(t l:Int):Y2j:=[(.inr "cells",.ref L),(.inr "at",.int t),(.inr "left",.int l)]
structure fT(H:Hp)(p L:Addr)(n:Nat):Prop where
 ex:∃(ns:Af) (t l:Int),H p=Y9X (fdD L t l)/\H L=Yae/\Y57 63/\0<=l/\0<=t/\t+n<=1000000000000
def fT.there{H:Hp}{p L:Addr}{n:Nat}(F:Y31 n):∃o,H p=Y9:=by obtain⟨a,t,l,h,_⟩:=F.ex;exact Y2T h
def fT.ne{H:Hp}{p L q:Addr}{n:Nat}(F:Y31 n)(hq:H q=none):q≠p:=λe=>by
 subst e;obtain⟨o,h⟩:=F.there;rw[h]at hq;cases hq
def fT.neL{H:Hp}{p L q:Addr}{n:Nat}(F:Y31 n)(hq:H q=none):q≠L:=λe=>by
 subst e;obtain⟨c,t,l,h,a,_⟩:=F.ex;rw[a]at hq;cases hq
def fT.same{H H':Hp}{p L:Addr}{n:Nat}(F:Y31 n)(s:Y1):Y81:=by
 obtain⟨c,t,l,d,e,a⟩:=F.ex;exact⟨c,t,l,s _ _ d,s _ _ e,a⟩
def fT.but{H H':Hp}{p L D:Addr}{n:Nat}(F:Y31 n)(s:Y56 D)(n1:D≠p)(n2:D≠L):Y81:=by
 obtain⟨c,t,l,d,e,a⟩:=F.ex;exact⟨c,t,l,s.at (Ne.symm n1) d,s.at (Ne.symm n2) e,a⟩
def fT.less{H:Hp}{p L:Addr}{n m:Nat}(F:Y31 n)(h:m<=n):Y31 m:=by
 obtain⟨c,t,l,e,g,i,a,d,r⟩:=F.ex;exact⟨c,t,l,e,g,i,a,d,Oo⟩
theorem fT.t{H H':Hp}{p L:Addr}{n:Nat}(F:Y31 n)(s:Y0R):Y28:=by
 obtain⟨a,t,l,h,_⟩:=F.ex;exact s.tD h
def fT.like{p L:Addr}(f:YcH):OH p L (λi H=>Y31 (f i)) :=
 ⟨λ_ D H1 H2 a c s F=>F.but s a c,λ_ H1 H2 s F=>F.same s,λ_ H' F=>by obtain⟨d,t,l,h,_⟩:=F.ex;exact Y2T h,λ_ H' D F h=>⟨F.ne h,F.neL h⟩⟩
inductive AH (K:Aa):Yk
 | i {H:Hp} {Q:VK} {E:XK} {a:Addr} {ns:Af} (h:Y6U a) (hl:Y57 63) (k:∀p L H',fT H' p L 1000000000000->Y1->H p=none->H L=none->Y4Y p):AH K Y1O H Q E
inductive eQ:Yk
 | i {H:Hp} {Q:VK} {E:XK} {p L:Addr} {n:Nat} {m:Int} (F:Y31 (n+1)) (h:0<m) (hb:bits m<=64) (k:∀x H',0<=x->x<m->Y81->Y0R->Q (.int x) H'):eQ [Y1G,Y4H] H Q E
def bitsle{i:Int}{n:Nat}(h:Y9f (2^n)):bits i<=n:=PySem.intBits_le_iff.mpr h
@[irreducible] def yC(K:Aa):Sp:=λvs H Q _=>∃(a:Addr) (ns:Af),vs=Y1O/\Y6U a/\Y57 63/\∀H',Q (.bl true) H'
def WH{K:Aa}{H:Hp}{a:Addr}{ns:Af}(h:Y6U a)(hl:Y57 63):yC K Y1O H (λv _=>v=Ycr) (Y71):=by
 unfold yC;exact Y6Y a ns h hl (λ_=>rfl)
theorem FX{H:Hp}:∀ns:Af,Y1g YfR Y4X
 | []=>bJ.nil
 | n::ns=>bJ.cons (dL.int n) (FX ns)
def YL{ns:Af}:PyData.eqv (.list (YfR)) (.list [])=Y0U ns []:=by
 cases ns <;> simp[PyData.eqv,PyData.eqvAll]
def JE(ns:Af):Y5d (.list (YfR)):=(DU.lst (n:=1) λd hd=>by
 obtain⟨i,_,rfl⟩:=aN.mp hd;exact DU.int i).ok
section
def oQ8(F:Ya "_law_feed" "_law_feed" sQ8)(T:Ye):dO P w K mg base cW 1 f fd a25 (AH K):=by
 refine F.oky cQ8 λM H Q E h=>?_;obtain @⟨H,Q,E,a,d,D,G,k⟩:=h;refine Y3 ?_;intro I A l s N _;refine Y5D (aAL (BD jD (YeH sR (by rfl) Kk (Y1W (oY PD Y0H rV (rT aK)))) (BD jD aK (BD jD aK aAH))));intro p i;have s0:=aT.upd (o:=.dK []) i;have n:(upd H p (.dK [])) p=Y9X []:=bK;generalize upd H p (.dK [])=H0 at s0 n;refine⟨_,rfl,_,rfl,a,_,rfl,WG s0 D,λm u=>?_⟩;refine Y0Z m _ (.inl (gJ.of bK)) (λg B=>?_);have J:nE (Ya6) none (some 63)=Ya6:=by
  unfold nE;have:HT.lB (Ya6).length (Ya6).length (some 63)=(Ya6).length:=by
   rw[show((63:Int))=((63:Nat):Int)from rfl,HT.GN,aA];exact Oo
  rw[this,HT.wZ,List.drop_zero,Nat.sub_zero];exact List.take_of_length_le (Yy)
 have r:=(aT.upd (o:=.lst (nE (d.map V.int) none (some 63))) u).trans (Yji (nE (Ya6) none (some 63)) B);have y:(upd (upd H0 m (.lst (nE (d.map V.int) none (some 63)))) g (.lst (nE (d.map V.int) none (some 63)))) g=Yq Ya6:=by rw[bK,J]
 have j:H0 g=none:=(aT.upd u).free B;generalize upd (upd H0 m (.lst (nE (d.map V.int) none (some 63)))) g (.lst (nE (d.map V.int) none (some 63)))=H2 at r y;have L:g≠p:=λz=>by rw[z,n]at j;cases j
 refine Y0Z (r _ _ n) (fdD g 0 0) (by show 3<=15;decide) (k p g _ ⟨d,0,0,?_,?_,G,Dd,Dd,Dd⟩ ?_ i (s0.free j))
 ·rw[bK];rfl
 ·rw[L2.eP L];exact y
 ·intro b o h;have C:b≠p:=λe=>by subst e;rw[i]at h;cases h
  rw[L2.eP C];exact r _ _ (s0 _ _ h)
def oQ7(F:Ya "_law_draw" "_law_draw" sQ7)(T:Ye):dO P w K mg base cW 1 f fd a02 eQ:=by
 refine F.oky cQ7 λο H Q E h=>?_;obtain @⟨H,Q,E,p,L,n,m,F,y,δ,k⟩:=h;refine Y3 ?_;intro ι A X s g _;obtain⟨a,t,l,u,I,Y,β,τ,ω⟩:=F.ex;refine⟨_,(aH (iM (eC BZ (YeY jD) aK) (aH (Y1E cQ7.nd (cC pK (YeY jD) (Y0w)))
  (aH (jC g.u1 (Y0H) jD (cC gF (YeY jD) (Y0w)))
  (Y2g 2))) fJ)
  (aH (Y15 cQ7.nd (YeY jD))
  (aH (jC g.u1 (Y0H) jD (Yba 3))
  (aH (Y39 cQ7.nd (YeY jD))
  (aH (BC (YhL cQ7.nd (nK (eC (aEV g.units) (aD 4) (iJ aQ)) (Y5N 4 (cC pK (aD 3) (Yag oG (by rfl) Kk 4))) (Y2h dH 3 3))))
  (aH (iM (FY (IL (BA (eC aCN (aD 5) (cC aET aK aK)) (wH (eC xC (aD 3) (Yag oG (by rfl) Kk 4)))))) (aH (jC g.u1 (Y0H) jD (Y2h gF 5 1))
  (Y1k (Y2h pK 5 1))) fJ)
  (aH (YhM cQ7.nd (cC pK (cC dH (Y3F (Y8H pK 5) aK) (Y3F aK (cC dH aK (Y0h)))) aK))
  (Y1k (cC pK (cC gF (cC pK (Y3F (Y8H dH 6) (cC dH (Y2h dH 3 3) aK)) aK) aK) (Y0w)))))))))),?_⟩
 refine Yo;intro J M;refine Y5 (dgS u rfl ?_);refine Y3t _ _ rfl _ rfl (xH (λκ=>?_) (λκ=>?_))
 ·refine Y5 (dgS u rfl ?_);refine Y7J _ _ _ y (Y5 (dgS u rfl ?_));refine Y7J _ _ _ ⟨y,Y3h δ⟩ Y7;refine YkI (fdD L t (l/m)) u (by show 3<=64;decide) (λH2 R C=>?_);have O:L≠p:=λz=>by rw[z,u]at I;cases I
  exact Y5 (k _ H2 (Yg1 Oo) (YiE y) ⟨a,t,l/m,R,C.at O I,Y,Int.ediv_nonneg β Oo,Oo,Oo⟩ C)
 ·have O:L≠p:=λz=>by rw[z,u]at I;cases I
  refine Y5 (dgS u rfl ?_);refine Ys;intro J M;refine⟨_,rfl,_,_,rfl,rfl,_,rfl,?_⟩;refine YkI (fdD L (t+1) l) u (by show 3<=64;decide) (λH1 G U=>Y3a);intro J M;have e:=U.at O I;refine Y5 (dgS G rfl ?_);refine Ys;intro J M;have γ:bits t<=64:=PySem.intBits_le_64 Oo Oo;have Z:bits (7919:Int)<=64:=Kk;have F2:∀{H3:Hp},aT H1 H3->fT H3 p L n:=λB=>⟨a,t+1,l,B _ _ G,B _ _ e,Y,β,Oo,Oo⟩;refine Y43 (λσ H3=>∃r:Int,σ=[Y3j,Yd m,none,Yd t,Y9n,Yd r,none]/\aT H1 H3)
  ·rintro σ H3 ⟨r,rfl,B⟩;refine Y3a;intro J M;have α:=B _ _ G;have N:=B _ _ e;refine Y43 (λb H4=>H4=H3/\(b=true->0<=r))
   ·refine⟨_,rfl,_,_,rfl,rfl,⟨Dd,Dd,Dd⟩,_,_,rfl,rfl,_,rfl,xH (λζ=>?_) (λζ=>?_)⟩
    ·refine Y0g (Yb3 N);exact⟨_,_,rfl,rfl,_,rfl,rfl,λ_=>aFE ζ⟩
    ·exact Y3 (λh=>by cases h)
   ·rintro b H4 ⟨rfl,D⟩;cases b with
    | true =>
     have D:=D rfl;refine Ycf;intro J M;refine Y6D _ _ _ _ ⟨y,Y3h δ⟩ Y7;refine YkI (fdD L (t+1) (r/m)) α (by show 3<=64;decide) (λH5 S ε=>Y6D _ _ _ _ y ?_);exact k _ H5 (Yg1 Oo) (YiE y) ⟨a,t+1,r/m,S,ε.at O N,Y,Int.ediv_nonneg D Oo,Oo,Oo⟩ ((U.trans B.but).trans ε)
    | false =>
     refine nW ?_;have ρ:=Int.emod_nonneg r (b:=2147483629) Dd;have ψ:=Int.emod_lt_of_pos r (b:=2147483629) Dd;refine⟨_,rfl,_,_,rfl,rfl,(by show(0:Int)<2147483629;decide),_,_,rfl,rfl,_,rfl,_,_,rfl,rfl,IntMulOk.of_left Z,_,_,rfl,rfl,_,_,rfl,rfl,IntMulOk.of_left (PySem.intBits_le_64 Oo Oo),_,_,rfl,rfl,(by show(0:Int)<2147483647;decide),?_⟩;generalize (r % 2147483629+1)*(48271+7919*t) % 2147483647=z;exact⟨_,rfl,_,_,rfl,rfl,IntMulOk.of_right Kk,_,rfl,_,rfl,_,_,rfl,rfl,IntMulOk.of_left γ,_,_,rfl,rfl,IntMulOk.of_right Kk,_,_,rfl,rfl,_,_,rfl,rfl,(by show(0:Int)<2147483399;decide),_,_,rfl,rfl,Yat Kk,_,rfl,_,_,rfl,rfl,y,k _ H4 (Yg1 Oo) (YiE y) (F2 B) (U.trans B.but)⟩
  ·refine Y7;refine DT (by show 0<=64;decide) λφ H2 ν θ C=>reD (d:=.list (a.map PyData.int)) (d':=.list []) (dL.lst (C _ _ e) (FX a)) (dL.lst θ bJ.nil) (JE a) rfl ?_;rw[YL];refine Y7;by_cases ens:a=[]
   ·exact tZ (by rw[cR ens];rfl) (Y6D _ _ _ _ (IntMulOk.of_left γ) (Y5 C))
   ·refine CO (by rw[bZ ens];rfl) ?_;have υ:0<a.length:=List.length_pos_iff.mpr ens;refine Y2k (Yb3 (C _ _ e));rw[aA];refine Y6Y _ _ rfl Oo ?_;have η:=Yiq t (a.length:Int);have χ:=Int.emod_lt_of_pos t (b:=(a.length:Int)) Oo;have ξ:∃z,a[(t % (a.length:Int)).toNat]?=Y8X:=Y7w;obtain⟨z,μ⟩:=ξ;have W:EA (YgK) (t % (a.length:Int))=Yd z:=by
     have:=eB (xs:=YgK) (j:=(t % (a.length:Int)).toNat) (v:=V.int z) (by rw[aG,μ];rfl)
     rwa [Int.toNat_of_nonneg η]at this
    exact xU (C _ _ e) W (Y5 C)
end
abbrev jA(f:Fr):PyData:=.tuple [.int f.1,.int f.2]
def aFn{H:Hp}{f:Fr}{v:V}(h:Y4S f v):∃a,v=Yf/\H a=Ym [.int f.1,.int f.2]:=by
 unfold dL bJ bJ bJ at h;obtain⟨a,_,rfl,e,x,_,rfl,c,y,_,rfl,d,rfl⟩:=h;cases(show x=V.int f.1 from c);cases(show y=V.int f.2 from d);exact Yx a e
def fL{H:Hp}{f:Fr}{a:Addr}(h:H a=Ym [.int f.1,.int f.2]):Y4S f Yf:=dL.tup h (bJ.cons Yan (Ydr Yan))
def dW(f:Fr):kJ (jA f)=true:=rfl
def iI(K:Aa)(H:Hp)(f:Fr)(x:V):Prop:=∃a,x=Yf/\jV K H a [.int f.1,.int f.2]
theorem iI.of{K:Aa}{H:Hp}{f:Fr}{x:V}(h:Y4S f x):Y4f:=by
 obtain⟨a,e,h⟩:=aFn h;exact Y2s e (jV.of h)
def iI.new{K:Aa}{H:Hp}{f:Fr}{a:Addr}(h:H a=Ym [.int f.1,.int f.2]):iI K H f Yf:=Yx a (jV.of h)
def iI.same{K:Aa}{H H':Hp}{f:Fr}{x:V}(s:Y1)(h:Y4f):iI K H' f x:=by
 obtain⟨a,e,h⟩:=h;exact Y2s e (h.keep s)
def iI.k{K:Aa}{H:Hp}{f:Fr}{x:V}(h:Y4f):uC K H (jA f) x:=by
 obtain⟨a,rfl,h⟩:=h;exact uC.tup h (oM.ints [f.1,f.2])
def rQ(k:Nat)(f:Fr):Prop:=f.1.natAbs<2^k/\f.2.natAbs<2^k
inductive sV:Yk
 | i {H:Hp} {Q:VK} {E:XK} {n d:Int} (h:0<d) (q:Y1x (Yai n)):sV [Y4G,.int d] H Q E
def zY(H:Hp)(Q:VK)(f:Fr):Prop:=∀q H',H q=none->H' q=Ym [.int f.1,.int f.2]->Y1->Y7S
inductive kN (K:Aa):Yk
 | i {H:Hp} {Q:VK} {E:XK} {x y:V} {f g:Fr} (h1:Y4f) (h2:iI K H g y) (l1:Y06) (l2:dS g) (z1:Y2U) (z2:Y52 g) (q:zY H Q (gS f g)):kN K [x,y] H Q E
inductive oO (K:Aa):Yk
 | i {H:Hp} {Q:VK} {E:XK} {x y:V} {f g:Fr} (h1:Y4f) (h2:iI K H g y) (z1:Y2U) (z2:Y52 g) (q:Y2r (Y1c (f.1*g.2) (g.1*f.2))):oO K [x,y] H Q E
def aFj{n d:Int}(h:0<d):(Int.gcd n d:Int)<=d:=Int.le_of_dvd h (YdC n)
def yO{n d:Int}{k:Nat}(h:0<d)(z:d.natAbs<2^k):(Int.gcd n d:Int).natAbs<2^k:=by
 have:=aFj (n:=n) h;have:=Yej h;exact Oo
def qB{n d:Int}(h:0<d)(z:d.natAbs<2^9000):aAq n d:=⟨h,NX z⟩
def lL{i:Int}{n m:Nat}(h:Y9f (2^n))(k:n<=m:=by decide):Y9f (2^m):=Y4r h k
def rY{i j:Int}{n:Nat}(h:Y9f (2^n))(hj:0<j):(i/j).natAbs<2^n:=aI (by
 have:=Int.natAbs_ediv_le_natAbs i j;exact this) h
def BM{i j:Int}{n m:Nat}(h1:Y9f (2^n))(h2:j.natAbs<2^m):(i*j).natAbs<2^(n+m):=by
 rw[cY,Nat.pow_add];exact Nat.mul_lt_mul'' h1 h2
abbrev zR(fs:Ak):PyData:=Yjb jA
theorem nX:∀fs:Ak,kI (fs.map jA)=true
 | []=>rfl
 | f::fs=>by show(kJ (jA f)&&kI (fs.map jA))=true;rw[nX fs];rfl
def gU(fs:Ak):kJ (zR fs)=true:=nX fs
inductive fZ:Yk
 | i {H:Hp} {Q:VK} {E:XK} {n d:Int} (h:0<d) (z:d.natAbs<2^9000) (q:zY H Q (Y1C)):fZ [Y4G,.int d] H Q E
section
def oQ9(F:Ya "_law_frac" "_law_frac" sQ9)(T:Ye):dO P w K mg base cW 1 f fd a03 fZ:=by
 refine YfW cQ9 ?_;obtain @⟨H,Q,E,n,d,hd,N,q⟩:=h;refine Y3 ?_;intro I A g s S _;refine⟨_,(aH (Y1E cQ9.nd (jK ZP (by rfl) T.b_abs Kk (Y2L 0)))
  (aH (Y15 cQ9.nd Y0w)
  (aH (wI PassesOwn.never (Y7F BZ 3) (aS (aC8 (i:=2) (j:=3) rfl cQ9.nd rfl rfl Dd rfl rfl (Y1Y 3 (Y2h pK 2 3)) rfl)))
  (Y1k (dU (Y2x (Y2h gF 0 2) (Y2h gF 1 2))))))),?_⟩
 refine Yo;intro y z;refine Y5 (raI ?_);refine Ys;intro y z;refine Y5 Ys;intro y z;refine AB (λm σ H'=>Ex2 λ(u v:Int)=>An6 (σ=[Yd n,Yd d,Yd u,Yd v]) (0<=v) ((Int.gcd u v)=(Yai n)) ((v=0->0<u)) (H'=H) (m=v.toNat))
  (λσ H'=>σ=[Yd n,Yd d,Yd (Yai n),Yd 0]/\H'=H)
  _ ⟨(n.natAbs:Int),d,rfl,Oo,by rw[Int.gcd_eq_natAbs_gcd_natAbs,Int.gcd_eq_natAbs_gcd_natAbs,Int.natAbs_natCast],Oo,rfl,rfl⟩ ?_ ?_
 ·rintro m σ H2 ⟨u,v,rfl,R,a,C,rfl,rfl⟩;refine⟨_,rfl,_,_,rfl,rfl,_,rfl,Yap⟩
  ·refine⟨_,rfl,_,rfl,_,rfl,_,_,rfl,rfl,e,_,_,rfl,?_⟩;have l:=Int.emod_lt_of_pos u e;have G:=Yiq u v;exact⟨_,Oo,v,u % v,rfl,G,by rw[KA,a],λ_=>e,rfl,rfl⟩
  ·have r:v=0:=Oo;subst r;have M:=C rfl;have l:=QM M;rw[a]at l;rw[l];exact Y4D
 ·rintro σ H2 ⟨rfl,rfl⟩;have a:=Yej hd;have B:aAq n (Int.gcd n d:Int):=qB a (yO hd N);refine Y6D _ _ _ _ B (Y6D _ _ _ _ B ?_);exact qH (by show 2<=64;decide) λp H3 D J L=>q p H3 D J L
end
def wE:Nat:=2512440
structure NZ(m:Nat)(fs:Ak):Prop where
 ex:∃(ps:Af) (W:Int),ps.length=m/\(∀x∈ps,0<=x/\x<=W)/\ps.sum=W/\0<W/\W<=997/\W.natAbs ∣ wE/\fs=ps.map λx=>lw x W
def NZ.len{m:Nat}{fs:Ak}(h:NZ m fs):Y63 m:=by
 obtain⟨c,W,a,_,_,_,_,_,rfl⟩:=h.ex;rw[aA,a]
def NZ.at{m:Nat}{fs:Ak}(h:NZ m fs):∀f∈fs,Fn wE 1 f/\0<=f.1:=by
 obtain⟨i,W,j,e,_,g,l,d,rfl⟩:=h.ex;intro f a;obtain⟨x,c,rfl⟩:=Yaz;have:=e x c;exact⟨(Fn.of g Oo).dvd d,Yi2 this.1 _⟩
def NZ.bits{m:Nat}{fs:Ak}(h:NZ m fs):∀f∈fs,f.1.natAbs<=997/\f.2.natAbs<=997:=by
 obtain⟨g,W,i,e,_,a,j,l,rfl⟩:=h.ex;intro f c;obtain⟨x,d,rfl⟩:=aN.mp c;have:=e x d;have q:=EY (n:=x) a;have p:=(jG (n:=x) a).pos;exact Oo
def aAT:∀x:Nat,1<=x->x<=10->x ∣ wE:=by
 intro x a c;have:∀x,x<=10->1<=x->x ∣ wE:=by unfold wE;decide
 exact this x c a
def SG{W:Int}(h:(1<=W/\W<=10)\/W=997):W.natAbs ∣ wE:=by
 rcases h with h | rfl
 ·exact aAT _ Oo Oo
 ·show 997 ∣ 2512440;decide
inductive oT:Yk
 | i {H:Hp} {Q:VK} {E:XK} {p L:Addr} {n m:Nat} (F:Y31 (n+12)) (m0:0<m) (m5:m<=5) (k:∀v fs H',Y81->Y0R->Y23 H' fs v->NZ m fs->Y1o):oT [Y1G,.int (m:Int)] H Q E
def aA2(l:Af)(a:Nat):(l.drop a++l.take a).sum=l.sum:=by
 rw[List.sum_append,Int.add_comm,<-List.sum_append,List.take_append_drop]
section
def aIK(F:Ya "_law_shares" "_law_shares" aEl)(T:Ye)
  (FQ7:Ydi "_law_draw" eQ) (FQ9:Y9e "_law_frac"):dO P w K mg base cW 2 f fd a02 oT:=by
 refine YiV LG ?_;obtain @⟨H,Q,E,p,L,n,m,F,m0,m5,k⟩:=h;refine Y3 ?_;intro cdv A υ s hr _;refine⟨_,(aH (Y1E LG.nd (Y5q (iJ (bA Y9B (bA Y9B (Y2x Y9B aK)))) (Y66 0)))
  (aH (Y15 LG.nd (iJ aQ))
  (aH (Y39 LG.nd Y0c)
  (aH (gM PassesOwn.never rfl (Y7b (Y8H pJ 1)) (Ybl 5 LG.nd) (aH (Y1D 6 LG.nd FQ7 0 (Yba 4))
  (aH (Y9h Y0h (Y1v FQ9 6 2))
  (aS (Y39 LG.nd (Y2h pJ 4 6))))))
  (aH (Y9h Y0h (Y1v FQ9 4 2))
  (aH (Y1D 7 LG.nd FQ7 0 Y0w)
  (Y1k (Ydo dM (by rfl) Kk (Y1W (cC vU (oY (wY K) (Y0h) (rT (aD 7)) rV) (oY (wY K) (Y0h) rV (rT (aD 7))))))))))))),?_⟩
 refine Yo;intro R N;refine Y7;refine Y25 (n+11) F (λx1 H1 a1 b1 F1 s1=>Y85 _ _ _);refine Y25 (n+10) F1 (λx2 H2 a2 b2 F2 s2=>Y85 _ _ _);refine Y25 (n+9) F2 (λx3 H3 a3 b3 F3 s3=>Y9b);refine DT (by show 4<=64;decide) λq4 H4 hq4 e4 ο=>Y7;refine Y25 (n+8) (F3.same ο) (λX H5 a5 φ F5 τ=>?_);have hW:∃W:Int,EA [V.int (1+x1),V.int (2+x2),V.int (2+x3),V.int 997] X=Yd W/\((1<=W/\W<=10)\/W=997):=by
  have:X=0\/X=1\/X=2\/X=3:=Oo;rcases this with rfl | rfl | rfl | rfl
  ·exact Y5 (.inl Oo)
  ·exact Y5 (.inl Oo)
  ·exact Y5 (.inl Oo)
  ·exact Y5 Y7e
 obtain⟨W,β,hW⟩:=hW;refine xU (τ.at (F3.ne hq4) e4) β (Ys);intro R N;have W0:0<W/\W<=997:=Oo;have φ:aU p H H5:=((((s1.trans s2).trans s3).trans ο.but).trans τ);clear s1 s2 s3 ο τ e4 β F1 F2 F3;refine DT (by show 0<=64;decide) λD H6 χ e6 s6=>Ys;intro R N;have F6:=F5.same s6;have ν:=F5.ne χ;have η:=F5.neL χ;have γ:H D=none:=aU.free φ F5.there χ;refine⟨_,rfl,_,rfl,_,_,rfl,rfl,((m-1:Nat):Int),by show YaJ ((m:Int)-1)=_;rw[show((m:Int)-1)=((m-1:Nat):Int)by exact Oo],Oo,Oo,?_⟩;rw[Int.toNat_natCast];have wz:W.natAbs<2^9000:=Y7c (show W.natAbs<2^10 by show W.natAbs<1024;exact Oo);refine oX (λi σ H'=>Ex6 λ(o5 o6 ω:Am) (u:Af) (C:Al) (left:Int)=>aJJ (σ=[Y3j,Yd (m:Int),Yd W,Y6 D,Yd left,o5,o6,ω]) (fT H' p L (n+8-i)) (Y0R) (Y0x=Yq C) (Y3M ((u.map λx=>lw x W).map jA) C) (u.length=i) ((∀x∈u,0<=x/\x<=W)) (u.sum+left=W) (0<=left) (left<=W))
  ⟨_,_,_,[],[],W,rfl,F6,φ.trans s6.but,e6,bJ.nil,rfl,(λx h=>by cases h),by simp,Oo,Oo⟩ ?_ ?_
 ·rintro i σ H7 hi ⟨o5,o6,ω,u,C,left,rfl,F7,ι,α,O,U,I,ε,l0,l1⟩;refine Yaj;intro R N;refine Y7I _ _ _ _ ?_;refine Yhk (n+8-(i+1)) (F7.less Oo) (bitsle (aI (show(left+1).natAbs<=998 by exact Oo) Dd)) (λx8 H8 a8 b8 F8 s8=>Ys);intro R N;have e8:=s8.at ν α;refine Y1e _ rfl (UR e8) _ _ rfl (fZ.i W0.1 wz ?_);intro ξ H9 hq9 μ B;have j:=B _ _ e8;have lv:C.length=i:=by rw[O.len,aA,aA,U]
  refine LJ j Oo λH10 J e=>Y7I _ _ _ _ ?_;have t78:=F7.t s8;have g:=e.t j;refine⟨_,_,_,u++[x8],C++Y5o ξ,left-x8,rfl,(F8.same B).but e ν η,aU.thru γ ((ι.trans s8).trans B.but) e,J,?_,by rw[aW,U];rfl,?_,?_,Oo,Oo⟩
  ·rw[bE,bE];exact Yge (O.flat ((t78.trans B.t).trans g) (nX _)) g Y2u (fL μ)
  ·intro x d;rcases dJ.mp d with d | d
   ·exact I x d
   ·rw[cA.mp d];exact Oo
  ·rw[List.sum_append,List.sum_singleton];exact Oo
 ·rintro σ H7 ⟨o5,o6,ω,u,C,left,rfl,F7,ι,α,O,U,I,ε,l0,l1⟩;refine Y3a;intro R N;refine Y1e _ rfl (UR α) _ _ rfl (fZ.i W0.1 wz ?_);intro ξ H9 hq9 μ B;have j:=B _ _ α;have lv:C.length=m-1:=by rw[O.len,aA,aA,U]
  refine LJ j Oo λH10 J e=>Y3a;intro R N;have g:=e.t j;have F10:=(F7.same B).but e ν η;have B10:aU p H H10:=aU.thru γ (ι.trans B.but) e;have G:bJ H10 (((u++[left]).map λx=>lw x W).map jA) (C++Y5o ξ):=by
   rw[bE,bE];exact Yge (O.flat (B.t.trans g) (nX _)) g Y2u (fL μ)
  have z:(u++[left]).length=m/\(∀x∈u++[left],0<=x/\x<=W)/\(u++[left]).sum=W:=by
   refine⟨by rw[aW,U];show m-1+1=m;exact Oo,λx d=>?_,by rw[List.sum_append,List.sum_singleton];exact Oo⟩;rcases dJ.mp d with d | d
   ·exact I x d
   ·rw[cA.mp d];exact Oo
  generalize u++[left]=κ at G z;generalize C++[V.ref ξ]=y at G J;clear O I ε l0 l1 U α μ j e g F7 ι B;have lu:y.length=m:=by rw[G.len,aA,aA,z.1]
  refine Y01;refine Yhk n (F10.less Oo) (bitsle (aI (show((m:Int)).natAbs<=5 by exact Oo) Dd)) (λx H11 a11 b11 F11 M=>?_);obtain⟨a,rfl⟩:∃a:Nat,x=(a:Int):=Y1N x.toNat;have Z:=M.at ν J;have r11:=G.flat (F10.t M) (nX _);refine Y42;refine slL Z (ys:=y.drop a) (HU _ _) λq12 H12 hq12 ρ Y=>Y42;refine slL (Y _ _ Z) (ys:=y.take a) (RD _ _) λq13 H13 hq13 e13 ζ=>NU (ζ _ _ ρ) e13 (by rw[List.length_drop,gB];exact Oo) λq14 H14 hq14 ψ s14=>Y7y q14 _ ψ;have θ:=Y5l (y.drop a++y.take a);have δ:(upd H14 l (.tup (y.drop a++y.take a))) l=Ym (y.drop a++y.take a):=bK;generalize upd H14 l (.tup (y.drop a++y.take a))=H15 at θ δ;have S:=((Y.trans ζ).trans s14).trans θ;refine k _ ((κ.drop a++κ.take a).map λx=>lw x W) H15 (F11.same S) ((B10.trans M).trans S.but) (dL.tup δ ?_) ⟨κ.drop a++κ.take a,W,?_,?_,?_,W0.1,W0.2,SG hW,rfl⟩
  ·have r:=r11.same S;rw[bE,bE];refine bJ.append ?_ ?_
   ·rw[List.map_take,List.map_take];exact bJ.take a r
   ·rw[List.map_drop,List.map_drop];exact bJ.drop a r
  ·rw[aW,List.length_drop,gB];exact Oo
  ·intro x d;rcases dJ.mp d with d | d
   ·exact z.2.1 x (List.mem_of_mem_drop d)
   ·exact z.2.1 x (List.mem_of_mem_take d)
  ·rw[aA2];exact z.2.2
end
abbrev aEi:Stmt:=(top 91)
def ZY:Yg ["_law_feed_here","_law_faces","_law_ways","_law_names","_law_start","_law_told"] a13 aEi:={}
abbrev aEk:Stmt:=(top 92)
def aGZ:Yg ["_law_feed_here","_law_way"] a14 aEk:={}
abbrev sQ6:Stmt:=(top 93)
def cQ6:Yg ["_law_feed_here","_law_whole","_law_part"] a14 sQ6:={}
abbrev sQ4:Stmt:=(top 94)
def cQ4:Yg ["_law_feed_here","_law_ways","_law_most","_law_bounds","_law_mix"] a15 sQ4:={}
def nA{H:Hp}{fs:Ak}{v:V}(h:Y23 H fs v):∃a xs,v=Yf/\H a=Y11/\Y5J jA xs:=by
 unfold dL at h;exact h
abbrev wD(w:Y95):PyData:=.tuple [.str w.1,zR w.2]
abbrev II(fs:Ah)(ws:Y0v):PyData:=.tuple [Yjb .str,.tuple (Yhl)]
theorem EO:∀fs:Ah,kI (fs.map PyData.str)=true
 | []=>rfl
 | f::fs=>by show(kJ (.str f)&&kI (fs.map PyData.str))=true;rw[EO fs];rfl
def OS(w:Y95):kJ (wD w)=true:=by
 show(kJ (.str w.1)&&(kJ (zR w.2)&&true))=true;rw[gU];rfl
theorem ON:∀ws:List (Str × Ak),kI (Yhl)=true
 | []=>rfl
 | w::ws=>by show(kJ (wD w)&&kI (ws.map wD))=true;rw[OS w,ON ws];rfl
def nQ(fs:Ah)(ws:Y0v):kJ (II fs ws)=true:=by
 show(kJ (Yjb .str)&&(kJ (.tuple (Yhl))&&true))=true;rw[show kJ (.tuple (fs.map PyData.str))=kI (fs.map PyData.str)from rfl,EO,show kJ (.tuple (ws.map wD))=kI (ws.map wD)from rfl,ON];rfl
theorem FV{H:Hp}:∀fs:Ah,Y5J PyData.str (fs.map V.str)
 | []=>bJ.nil
 | f::fs=>bJ.cons (dL.str f) (FV fs)
def pA{H:Hp}{ds:Y0Y}{v:V}(h:dL H Yhh v):∃a xs,v=Yf/\H a=Y11/\Yac xs:=by unfold dL at h;exact h
def DN{H:Hp}{d e:PyData}{xs:Al}(h:Y1g [d,e] xs):∃x y,xs=[x,y]/\Y5F x/\dL H e y:=by
 unfold bJ bJ bJ at h;obtain⟨x,_,rfl,a,y,_,rfl,c,rfl⟩:=h;exact Y0Z x y a c
def eW{α:Type}{H:Hp}{g:YaV}{fs:Yt}{vs:Al}(h:Y5J g vs){i:Nat}{v:V}(e:vs[i]?=Yn):∃f,fs[i]?=Y5h/\dL H (g f) v:=by
 obtain⟨d,a,c⟩:=h.get e;rw[aG]at a;cases q:fs[i]? with
 | none=>rw[q]at a;cases a
 | some f=>rw[q]at a;cases a;exact Yx f c
def kP{α:Type}{H:Hp}{g:YaV}{fs:Yt}{vs:Al}(h:Y5J g vs){i:Nat}{f:α}(e:fs[i]?=Y5h):∃v,vs[i]?=Yn/\dL H (g f) v :=
 h.get' (by rw[aG,e];rfl)
def gE{α:Type}{H:Hp}{g:YaV}{fs:Yt}{vs:Al}(h:Y5J g vs):Y5V fs.length:=by rw[h.len,aA]
def iB{α:Type}{l:Yt}{i:Nat}{x:α}(h:l[i]?=Yb):l.take (i+1)=l.take i++[x]:=by
 rw[kB,h];rfl
structure TrC(F W:Nat)(fs:Ah)(ws:Y0v):Prop where
 f:Y63 F
 w:Yht W
 sh:∀x∈ws,NZ F x.2
 nf:∀s∈fs,(YkJ).length<=20
 nw:∀x∈ws,(reprText x.1).length<=20
def aBD:∀s∈(a04:Ah),(YkJ).length<=20:=Kk
inductive uR:Yk
 | i {H:Hp} {Q:VK} {E:XK} {p L:Addr} {n F W:Nat} (T:Y31 (n+64)) (h1:2<=F) (h2:F<=4) (h3:2<=W) (h4:W<=4) (k:∀v fs ws H',Y81->Y0R->dL H' (II fs ws) v->TrC F W fs ws->Y1o):uR [Y1G,.int (F:Int),.int (W:Int)] H Q E
def aCr{α:Type}{xs:Yt}{x:Int}(h:Y54 8):∃v,EA xs (x % 8)=Yn/\v∈xs:=by
 obtain⟨v,a,c,_⟩:=aCs (xs:=xs) (x:=x % 8) (Yg1 Dd) (by have:=Int.emod_lt_of_pos x (b:=8) Dd;exact Oo);exact⟨v,a,c⟩
def aAR{P:Y2d Str}{ys:Al}(h:∀(i:Nat) (y:V),Y19=Y03->∃s,y=.str s/\P s):∃ts:Ah,ys=ts.map V.str/\∀t∈ts,P t:=by
 induction ys with
 | nil=>exact Yx [] (λt h=>by cases h)
 | cons y ys ih =>
  obtain⟨s,rfl,d⟩:=h 0 y rfl;obtain⟨ts,rfl,a⟩:=ih λi z e=>h (i+1) z (by simpa using e);refine Yx (s::ts) (λt c=>?_);rcases bN.mp c with rfl | c
  ·exact d
  ·exact a t c
section
def aIH(F:Ya "_law_trial" "_law_trial" aEi)(T:Ye)
  (FQ7:Ydi "_law_draw" eQ) (FQ14:Y2B "_law_shares" a02 oT):dO P w K mg base cW 3 f fd a13 uR:=by
 refine Y0P ZY;obtain @⟨H,Q,E,p,L,n,F,W,T0,f2,f4,w2,w4,k⟩:=h;refine Y3 ?_;intro cdv A S s hr _;refine⟨_,(aH (Y3e 3 ZY.nd (iJ (bA jD (bA jD (bA jD (bA jD (bA jD (Yaq jD jD jD))))))))
  (aH (Y3e 4 ZY.nd (Y66 0))
  (aH (YhL ZY.nd (Ydo dM (by rfl) Kk (Y1W (Y6Z ["_law_k","_law_names","_law_start"] [3,4] (fR rfl T.b_range (Y2L 1)) (bQ (iA K) (aD 1) (cC pK (cC fO (aD 2) (cC dH aK (Y0H))) aK))))))
  (aH (Y3e 4 ZY.nd (Y66 0))
  (Y1k (dU (Y1Y 5 (Ydo dM (by rfl) Kk (Y1W (Y6Z ["_law_k","_law_feed_here","_law_faces","_law_names","_law_start"] [0,1,3,4] (fR rfl T.b_range (Y2L 2)) (dU (Y2x (bQ (iA K) (aD 3) (cC pK (cC fO (aD 4) (cC dH aK (Y0H))) aK)) (Y1v FQ14 1 2))))))))))))),?_⟩
 refine Yo;intro β α;refine DT (by show 8<=64;decide) λN1 H1 hN e1 ξ=>Ys;intro β α;have Y:H1 N1=Yq ((a04:Ah).map V.str):=e1;have γ:N1≠p:=T0.ne hN;refine Y7;refine Y25 (n+63) (T0.same ξ) (λx2 H2 a2 b2 T2 υ=>Ys);intro β α;have ο:=υ.at γ Y;have d:∀x:Int,∃t:Str,(reprText t).length<=20/\EA ((a04:Ah).map V.str) (x % 8)=some (V.str t):=λx=>by
  obtain⟨v,J,G⟩:=aCr (xs:=(a04:Ah).map V.str) (x:=x) rfl;obtain⟨t,M,rfl⟩:=aN.mp G;exact⟨t,aBD t (by assumption),J⟩
 refine Y3t _ rfl _ Oo Oo (Yc2 (∃s,y=.str s/\(YkJ).length<=20) Ybw Oo (λi H' Q' hi U X=>?_) (λD ys H3 hD ε s3 r κ=>?_))
 ·refine⟨_,rfl,_,rfl,_,rfl,_,_,rfl,rfl,IntMulOk.of_left Kk,_,_,rfl,rfl,_,_,rfl,rfl,(by show(0:Int)<8;decide),?_⟩;obtain⟨t,e,M⟩:=d (x2+3*(0+(i:Nat)));exact xU (U _ _ ο) M (X _ H' (Y09) (Yx t e))
 ·obtain⟨B,rfl,θ⟩:=aAR κ;rw[aA]at r;refine Y7y D _ ε;refine Ys;intro β α;have ν:=Y5l (B.map V.str);have φ:(upd H3 l (.tup (B.map V.str))) l=Ym (B.map V.str):=bK;generalize upd H3 l (.tup (B.map V.str))=H4 at ν φ;have S4:=s3.trans ν;have T4:=T2.same S4;have B4:aU p H H4:=(ξ.but.trans υ).trans S4.but;refine Y7;refine Y25 (n+62) T4 (λx5 H5 a5 b5 T5 R=>?_);have e5:=R.at γ (Y1U ο);have Z:=T4.t R _ _ φ;have B5:=B4.trans R;refine⟨_,rfl,_,rfl,_,rfl,Oo,Oo,xM (YfH p L (n+62-12*i)) T5 (λi y H'=>∃x:Str × Ak,dL H' (wD x) y/\NZ F x.2/\(reprText x.1).length<=20) (λi y Ha Hb s ⟨x,J,G⟩=>⟨x,J.flat s (OS x),G⟩) Oo (λi H' Q' hi F' U X=>?_) (λD6 j H6 hD6 ρ T6 χ hz I=>?_)⟩
  ·refine⟨_,rfl,_,rfl,_,rfl,_,_,rfl,rfl,IntMulOk.of_left Kk,_,_,rfl,rfl,_,_,rfl,rfl,(by show(0:Int)<8;decide),?_⟩;obtain⟨t,e,M⟩:=d (x5+5*(0+(i:Nat)));refine xU (U.at γ e5) M Y01;exact oT.i (n:=n+62-12*(i+1)) (Yh4) Oo Oo λv fs H7 T7 u r7 ζ=>qH (by show 2<=64;decide) λω H8 N δ g=>X _ H8 (T7.same g) (u.trans g.but) ⟨(t,fs),dL.tup δ (bJ.cons (dL.str _) (Ydr (r7.same g))),ζ,e⟩
  ·obtain⟨m,ψ,r6,C⟩:∃m:List (Str × Ak),m.length=j.length/\bJ H6 (m.map wD) j/\∀x∈m,NZ F x.2/\(reprText x.1).length<=20:=by
    clear ρ hz
    induction j with
    | nil=>exact Y37 [] bJ.nil (λx h=>by cases h)
    | cons z j ih =>
     obtain⟨x,J,G⟩:=I 0 z rfl;obtain⟨m,g1,g2,g3⟩:=ih λi y r=>I (i+1) y (by simpa using r);refine⟨x::m,by rw[cK,cK,g1],bJ.cons J g2,λy r=>?_⟩;rcases bN.mp r with rfl | r
     ·exact G
     ·exact g3 y r
   refine Y8d D6 _ (Ybq ρ (λι η=>?_));have u:=Y8a j η;have τ:(upd H6 ι (.tup j)) ι=Ym j:=bK;generalize upd H6 ι (.tup j)=H7 at u τ;refine qH (by show 2<=64;decide) λω H8 N δ g=>?_;have μ:=g _ _ (u _ _ (T5.t χ _ _ Z));refine k _ B m H8 (((T6.same u).same g).less Oo) ((B5.trans χ).trans (u.trans g).but) ?_ ⟨Oo,Oo,λx O=>(C x O).1,θ,λx O=>(C x O).2⟩;refine dL.tup δ (bJ.cons (dL.tup μ (FV B)) (Ydr (dL.tup (g _ _ τ) ((r6.same u).same g))))
end
abbrev aJx(M:Nat)(bs mix cs:Ak):PyData:=.tuple [.int (M:Int),zR bs,zR mix,zR cs]
def xR(N B:Nat)(f:Fr):Prop:=Y2p/\0<=f.1
inductive rA:Yk
 | i {H:Hp} {Q:VK} {E:XK} {p L:Addr} {n:Nat} (F:Y31 (n+4)) (k:∀v f H',Y81->Y0R->dL H' (jA f) v->Yfd 1 f->Y1o):rA Y48 H Q E
def YE{n d:Int}(h:0<=n):0<=(Y1C).1:=Yi2 h _
def smallz{d:Int}(h:d.natAbs<1024):d.natAbs<2^9000:=Y7c (show d.natAbs<2^10 from h)
section
def oQ6(F:Ya "_law_bound" "_law_bound" sQ6)(T:Ye)
  (FQ7:Ydi "_law_draw" eQ) (FQ9:Y9e "_law_frac"):dO P w K mg base cW 2 f fd a14 rA:=by
 refine F.oky cQ6 λX H Q E h=>?_;obtain @⟨H,Q,E,p,L,n,F,k⟩:=h;refine Y3 ?_;intro O A j s θ _;refine⟨_,(aH (Ycb cQ6.nd Y9B)
  (aH (Y1E cQ6.nd (Y5q (iJ (bA (cL FQ7 (aD 0) (Yba 1)) (Y2x (cC gF (cL FQ7 (aD 0) (Yba 1)) aK) aK))) (Y66 0)))
  (Y1k (Y1v FQ9 2 1)))),?_⟩
 refine Yo;intro C D;refine Y7;refine Y25 (n+3) F (λa H1 ζ Y F1 I=>Y9b);refine Ys;intro C D;have u:bits (1+a+1)<=64:=bitsle (aI (show(1+a+1).natAbs<=13 by exact Oo) Dd);refine Y7I _ _ _ _ ?_;refine Yhk (n+2) F1 u (λN H2 α b2 F2 U=>Y7I _ _ _ _ ?_);refine Yhk (n+1) F2 u (λB H3 β η F3 R=>Y6Y _ _ rfl (Yat Kk) ?_);refine DT (by show 3<=64;decide) λγ H4 e G l=>Y7;refine Y25 n (F3.same l) (λd H5 Z ε F5 r=>?_);have M:∃y:Int,EA [V.int N,V.int (B/2),V.int 0] d=Yd y/\0<=y/\y<=1+a:=by
  have:d=0\/d=1\/d=2:=Oo;rcases this with rfl | rfl | rfl
  ·exact Y37 _ Oo Oo
  ·exact Y37 _ Oo Oo
  ·exact Y37 _ Oo Oo
 obtain⟨y,g,W,ι⟩:=M;refine xU (r.at (F3.ne e) G) g (Y0g (YdZ Oo Oo ?_));intro δ H6 S J m;have hd:(1+a).natAbs ∣ 27720:=by
  have:∀z:Nat,z<=12->1<=z->z ∣ 27720:=Dd;exact this _ Oo Oo
 exact k _ _ H6 (F5.same m) (((((I.trans U).trans R).trans l.but).trans r).trans m.but) (fL J) ⟨(Fn.of Oo Oo).dvd hd,YE W⟩
end
theorem HL{H:Hp}{P:Y2d Fr}:∀{ys:Al},(∀(i:Nat) (y:V),Y19=Y03->∃f,Y4S f y/\P f)->∃fs:Ak,Y63 ys.length/\Y5J jA ys/\∀f∈fs,P f
 | [],_=>⟨[],rfl,bJ.nil,λf h=>by cases h⟩
 | y::ys,h=>by
  obtain⟨f,h1,h2⟩:=h 0 y rfl;obtain⟨fs,d,c,e⟩:=HL (ys:=ys) λi z g=>h (i+1) z (by simpa using g);refine⟨f::fs,by rw[cK,cK,d],bJ.cons h1 c,λy a=>?_⟩;rcases bN.mp a with rfl | a
  ·exact h2
  ·exact e y a
inductive AE:Yk
 | i {H:Hp} {Q:VK} {E:XK} {p L:Addr} {n:Nat} (F:Y31 (n+3)) (k:∀v f H',Y81->Y0R->dL H' (jA f) v->UV f->Y1o):AE Y48 H Q E
def YD{n d:Int}(n0:0<=n)(n1:n<=999)(d0:0<d)(d1:d<=999):UV (Y1C):=by
 have h:=Yhj d0;have q:=EY (n:=n) d0;have a:=YE (n:=n) (d:=d) n0;exact⟨h,a,Oo,Oo⟩
inductive AG:Yk
 | i {H:Hp} {Q:VK} {E:XK} {p L:Addr} {n W M:Nat} (T:Y31 (n+64)) (h1:1<=W) (h2:W<=4) (h3:M<=6) (k:∀v bs mix cs H',Y81->Y0R->dL H' (aJx M bs mix cs) v->Yex W->(∀f∈bs,Yfd 1 f)->NZ W mix->Yew M->(∀f∈cs,UV f)->Y1o):AG [Y1G,.int (W:Int),.int (M:Int)] H Q E
section
def aIJ(F:Ya "_law_some" "_law_some" aEk)(T:Ye)
  (FQ7:Ydi "_law_draw" eQ) (FQ9:Y9e "_law_frac"):dO P w K mg base cW 2 f fd a14 AE:=by
 refine YfW aGZ ?_;obtain @⟨H,Q,E,p,L,n,F,k⟩:=h;refine Y3 ?_;intro J A m s X _;refine⟨_,(aH (Y1D 1 aGZ.nd FQ7 0 aK)
  (aH (Y4L (Y7F oJ 1) Yb6)
  (aH (Y4L (Y7F oJ 1) (cL FQ9 (Y9B) (Y9B)))
  (Y1k (cL FQ9 (Y9B) (Y9B)))))),?_⟩
 refine Yo;intro y z;refine Y7;refine Y25 (n+2) F (λW H1 U R F1 j=>Ys);intro y z;refine Y6Y _ rfl _ rfl Yap
 ·exact qH (by show 2<=64;decide) λS H2 N D a=>k _ (0,1) H2 ((F1.same a).less Oo) (j.trans a.but) (fL D) ⟨SY,Dd,Dd,Dd⟩
 refine Y6Y _ rfl _ rfl Yap
 ·refine Y7;refine Y25 (n+1) F1 (λC H2 B b2 F2 a=>Y85 _ _ _);refine Y25 n F2 (λu H3 G M F3 r=>Y9b);refine YdZ Oo Oo ?_;intro I H4 l g d;exact k _ _ H4 (F3.same d) (((j.trans a).trans r).trans d.but) (fL g) (YD Oo Oo Oo Oo)
 ·refine Y7;refine Y25 (n+1) F1 (λC H2 B b2 F2 a=>Y85 _ _ _);refine Y25 n F2 (λu H3 G M F3 r=>Y9b);refine YdZ Oo Oo ?_;intro I H4 l g d;exact k _ _ H4 (F3.same d) (((j.trans a).trans r).trans d.but) (fL g) (YD Oo Oo Oo Oo)
def oQ4(F:Ya "_law_aim" "_law_aim" sQ4)(T:Ye)
  (FQ6:Y2B "_law_bound" a14 rA) (FQ14:Y2B "_law_shares" a02 oT) (FQ15:Y2B "_law_some" a14 AE):dO P w K mg base cW 3 f fd a15 AG:=by
 refine Y0P cQ4;obtain @⟨H,Q,E,p,L,n,W,M,T0,w1,w4,m6,k⟩:=h;refine Y3 ?_;intro ω A B s hr _;refine⟨_,(aH (Y15 cQ4.nd (Ydo dM (by rfl) Kk (Y1W (Y6Z ["_law_k","_law_feed_here"] [0] (fR rfl T.b_range (Y2L 1)) (Y5B FQ6)))))
  (aH (Y1D 4 cQ4.nd FQ14 0 Y0w)
  (Y1k (dU (bA (Y0c) (Yaq Y0h Y1j (Ydo dM (by rfl) Kk (Y1W (Y6Z ["_law_k","_law_feed_here"] [0] (fR rfl T.b_range (Y2L 2)) (Y5B FQ15)))))))))),?_⟩
 refine Yo;intro τ κ;refine Y3t _ rfl _ Oo Oo (xM (YfH p L (n+64-4*i)) T0 (λi y H'=>∃f:Fr,dL H' (jA f) y/\Yfd 1 f) (λi y ζ θ s ⟨x,R,N⟩=>⟨x,R.flat s (dW x),N⟩) Oo (λi H' Q' υ F' η C=>?_) (λD j H1 ι β T1 Y ο e=>?_))
 ·refine Y7;exact rA.i (n:=n+64-4*(i+1)) (Yh4) λv f H2 T2 a d u=>C _ H2 T2 a ⟨f,d,u⟩
 ·obtain⟨bs,lb,δ,ρ⟩:=HL e;refine Y8d D _ (Ybq β (λl φ=>?_));refine Ys;intro τ κ;have a:=Y8a j φ;have m:(upd H1 l (.tup j)) l=Ym j:=bK;generalize upd H1 l (.tup j)=H2 at a m;have T2:=T1.same a;have d:Y23 H2 bs Y0G:=dL.tup m (δ.same a);refine Y01;refine oT.i (n:=n+30) (T2.less Oo) Oo Oo λv3 O H3 T3 α ξ G=>?_;have r:=d.flat (T2.t α) (gU _);have B3:aU p H H3:=(Y.trans a.but).trans α;have U:Yex W:=Oo;clear β e δ ο Y a m T1 d;refine⟨_,rfl,_,rfl,_,rfl,_,rfl,_,rfl,Oo,Oo,xM (YfH p L (n+30-3*i)) T3 (λi y H'=>∃f:Fr,dL H' (jA f) y/\UV f) (λi y ζ θ s ⟨x,R,N⟩=>⟨x,R.flat s (dW x),N⟩) Oo (λi H' Q' υ F' η C=>?_) (λD g H4 ι ψ T4 X hz J=>?_)⟩
  ·refine Y7;exact AE.i (n:=n+30-3*(i+1)) (Yh4) λv f H2 T2 a d u=>C _ H2 T2 a ⟨f,d,u⟩
  ·obtain⟨χ,lc,ν,fc⟩:=HL J;refine Y8d D _ (Ybq ψ (λz I=>?_));have Z:=Y8a g I;have γ:(upd H4 z (.tup g)) z=Ym g:=bK;generalize upd H4 z (.tup g)=H5 at Z γ;refine qH (by show 4<=64;decide) λq6 H6 aa μ ε=>?_;have S:=Z.trans ε;have t:=T3.t X;refine k _ bs O χ H6 ((T4.same S).less Oo) ((B3.trans X).trans S.but) ?_ U ρ G Oo fc;exact dL.tup μ (bJ.cons Yan (bJ.cons ((r.flat t (gU _)).same S) (bJ.cons ((ξ.flat t (gU _)).same S) (Ydr (dL.tup (ε _ _ γ) (ν.same S))))))
end
abbrev aEa:Stmt:=(top 4)
def UI:Yg ["number","above_nought","divided","divisor","rest"] a05 aEa:={}
abbrev aDH:Stmt:=(top 7)
def UH:Ydg ["one","other","common","one_part","other_part","upper","left"] aDH:={}
abbrev aDT:Stmt:=(top 8)
def aJl:Ydg a01 aDT:={}
abbrev aDw:Stmt:=(top 9)
def aFy:Ydg ["one","other","first","second"] aDw:={}
abbrev aDZ:Stmt:=(top 11)
def aJp:Ydg a01 aDZ:={}
abbrev aDu:Stmt:=(top 12)
def aCb:Yg ["some","whole","one"] a27 aDu:={}
abbrev aDV:Stmt:=(top 13)
def aCd:Yg ["some","place","k"] a27 aDV:={}
abbrev aD4:Stmt:=(top 17)
def aJr:Yg a20 a20 aD4:={}
abbrev aDs:Stmt:=(top 18)
def aI6:Yg a20 a20 aDs:={}
abbrev aDt:Stmt:=(top 19)
def aI7:Yg ["trial","way"] ["trial","way"] aDt:={}
abbrev aDr:Stmt:=(top 30)
def ZT:Yg ["trial","way","counts","product","share","count"] a06 aDr:={}
abbrev aDG:Stmt:=(top 31)
def UG:Yg ["share","count","upper","lower","step"] ["share","count"] aDG:={}
abbrev aEh:Stmt:=(top 32)
def aFC:Yg ["faces","most","found","many"] a49 aEh:={}
abbrev aAZ:Stmt:=(top 33)
def aCg:Yg ["faces","many","found","first"] a28 aAZ:={}
abbrev aDN:Stmt:=(top 35)
def aJh:Yg a47 a47 aDN:={}
abbrev aDM:Stmt:=(top 36)
def aJg:Yg a35 a35 aDM:={}
def zY.of{H H1:Hp}{Q:VK}{f:Fr}(s:Y2c H1)(q:zY H Q f):zY H1 Q f:=λp H' c e a=>q p H' (s.free c) e (s.trans a)
inductive eN (K:Aa):Yk
 | i {H:Hp} {Q:VK} {E:XK} {x y:V} {f g:Fr} (h1:Y4f) (h2:iI K H g y) (l1:Y06) (l2:dS g) (z1:Y2U) (z2:Y52 g) (q:zY H Q (iG f g)):eN K [x,y] H Q E
def kA(f:Fr):Fr:=(-f.1,f.2)
def xE{f:Fr}(h:Y06):dS (kA f):=⟨h.pos,by show Y0N (-f.1) f.2;rw[Int.neg_gcd];exact h.low⟩
inductive kE (K:Aa):Yk
 | i {H:Hp} {Q:VK} {E:XK} {x y:V} {f g:Fr} (h1:Y4f) (h2:iI K H g y) (l1:Y06) (l2:dS g) (z1:Y2U) (z2:Y52 g) (q:zY H Q (Y3T f g)):kE K [x,y] H Q E
section
def aIA(F:Ya "common_divisor" "common_divisor" aEa)(T:Ye):dO P w K mg base cW 1 f fd a05 sV:=by
 refine F.oky UI λI H Q E h=>?_;obtain @⟨H,Q,E,n,d,hd,q⟩:=h;refine Y3 ?_;intro D A j s J _;refine⟨_,(aH (Y1E UI.nd Y0H)
  (aH (Y15 UI.nd Y0w)
  (aH (wI PassesOwn.never (Y7F aGA 3) (aH (Y39 UI.nd (Y2h pK 2 3))
  (aH (Y1E UI.nd Y0h)
  (aS (Y15 UI.nd Y1j)))))
  (Y2g 2)))),?_⟩
 refine Yo;intro y z;refine Y01;refine AB (λm σ H'=>Ex3 λ(a b:Int) (c:Am)=>An6 (σ=[Yd n,Yd d,Yd a,Yd b,c]) (0<=b) ((Int.gcd a b)=(Yai n)) ((b=0->0<a)) (H'=H) (m=b.toNat))
  (λσ H'=>∃(c:Am),σ=[Yd n,Yd d,Yd (Yai n),Yd 0,c]/\H'=H)
  _ ⟨n,d,none,rfl,Oo,rfl,Oo,rfl,rfl⟩ ?_ ?_
 ·rintro m σ H2 ⟨a,b,c,rfl,B,r,u,rfl,rfl⟩;refine Y6Y _ rfl _ rfl (aGF (Ydu) (Ydu))
  ·have g:0<b:=by
    rcases Int.lt_or_eq_of_le B with h | h
    ·exact h
    ·exact absurd (Ygg h.symm) e
   refine Yo;intro y z;refine⟨_,rfl,_,rfl,_,_,rfl,rfl,g,_,rfl,_,rfl,?_⟩;have l:=Int.emod_lt_of_pos a g;have C:=Yiq a b;exact⟨_,Oo,b,a % b,_,rfl,C,by rw[KA,r],λ_=>g,rfl,rfl⟩
  ·have p:b=0:=by injection e
   subst p;have G:=u rfl;have l:=QM G;rw[r]at l;rw[l];exact Yx c rfl
 ·rintro σ H2 ⟨c,rfl,rfl⟩;exact Y5 q
def aH5(F:Ya "plus" "plus" aDH)(T:Ye)
  (FQ24:Y0k "common_divisor" a05 sV):dO P w K mg base cW 2 f fd a01 (kN K):=by
 refine F.oky UH λα H Q E h=>?_;obtain @⟨H,Q,E,x,y,⟨a,b⟩,⟨c,d⟩,S,Z,N,M,O,R,q⟩:=h;refine Y3 ?_;intro W A D s ε _;obtain⟨γ,rfl,u⟩:=S;obtain⟨β,rfl,j⟩:=Z;have ζ:0<b:=N.pos;have I:0<d:=M.pos;obtain⟨C,zb⟩:=O;obtain⟨B,z⟩:=R;dsimp only at C zb B z u j;have e:=kQ (n:=b) I;have J:=yO (n:=b) I z;have g:=rY zb e;have l:=rY z e;have u1:=BM C l;have δ:=BM B g;have G:=kQ (n:=a*(d/(Int.gcd b d:Int))+c*(b/(Int.gcd b d:Int))) e;have L:=yO (n:=a*(d/(Int.gcd b d:Int))+c*(b/(Int.gcd b d:Int))) e J;have eq:gS (a,b) (c,d)=_:=aBl N M;refine⟨_,(aH (Y1E UH.nd (cL FQ24 (Y2C) (Y26)))
  (aH (Y15 UH.nd (cC gF (Y0K 0) Y0c))
  (aH (Y39 UH.nd (cC gF (Y0K 1) Y0c))
  (aH (YhL UH.nd (Y3F (cC dH (Y0K 0) Y1j) (cC dH (Y0K 1) Y0h)))
  (aH (Y1D 6 UH.nd FQ24 5 Y0c)
  (Y1k (dU (Y2x (Y2h gF 5 6) (Y6u 3 (cC gF (Y0K 1) (aD 6))))))))))),?_⟩
 refine Yo;intro m r;refine Y2M u;refine Y9p;refine sV.i I Ys;intro m r;refine Y2M u;refine Y7J _ _ _ (qB e (lL J)) Ys;intro m r;refine Y9p;refine Y7J _ _ _ (qB e (lL J)) Ys;intro m r;refine Y2M u;refine Y7J _ _ _ (lD C l) Y9p;refine⟨_,rfl,_,_,rfl,rfl,lD B g,_,_,rfl,rfl,Ys⟩;intro m r;refine Y0g (sV.i e ?_);refine Y6D _ _ _ _ (qB G (lL L)) (Y9d j);refine⟨_,rfl,_,_,rfl,rfl,qB G (lL L),_,_,rfl,rfl,lD g (rY z G),?_⟩;refine qH (by show 2<=64;decide) λp H3 U X Y=>q p H3 U ?_ Y;rw[eq];exact X
def aHT(F:Ya "times" "times" aDw)(T:Ye)
  (FQ24:Y0k "common_divisor" a05 sV):dO P w K mg base cW 2 f fd a01 (eN K):=by
 refine F.oky aFy λY H Q E h=>?_;obtain @⟨H,Q,E,x,y,⟨a,b⟩,⟨m,d⟩,O,X,L,I,⟨G,zb⟩,⟨D,B⟩,q⟩:=h;refine Y3 ?_;intro S A r s β _;obtain⟨α,rfl,g⟩:=O;obtain⟨Z,rfl,e⟩:=X;have z:0<b:=L.pos;have u:0<d:=I.pos;dsimp only at G zb D B g e;have j:=kQ (n:=a) u;have l:=kQ (n:=m) z;have J:=yO (n:=a) u B;have C:=yO (n:=m) z zb;have eq:iG (a,b) (m,d)=_:=VS L I;refine⟨_,(aH (Y1E aFy.nd (cL FQ24 (Y2C) (Y26)))
  (aH (Y15 aFy.nd (cL FQ24 (Y26) (Y2C)))
  (Y1k (dU (Y2x (cC dH (cC gF (Y0K 0) Y0c) (cC gF (Y0K 1) Y0h)) (cC dH (cC gF (Y0K 0) Y0h) (cC gF (Y0K 1) Y0c))))))),?_⟩
 refine Yo;intro M N;refine Y2M g;refine Y3I;refine sV.i u Ys;intro M N;refine Y3I;refine Y2M g;refine sV.i z (Y2M g);refine Y7J _ _ _ (qB j (lL J)) Y3I;refine⟨_,rfl,_,_,rfl,rfl,qB l (lL C),_,_,rfl,rfl,lD (rY G j) (rY D l),Y2M g⟩;refine Y7J _ _ _ (qB l (lL C)) Y3I;refine⟨_,rfl,_,_,rfl,rfl,qB j (lL J),_,_,rfl,rfl,lD (rY zb l) (rY B j),?_⟩;refine qH (by show 2<=64;decide) λp H3 R U W=>q p H3 R ?_ W;rw[eq];exact U
def aIh(F:Ya "less" "less" aDT)(T:Ye)
  (FQ55:Y14 2 "plus" a01 (kN K)):dO P w K mg base cW 3 f fd a01 (kE K):=by
 refine YiV aJl ?_;obtain @⟨H,Q,E,x,y,f,g,m,u,B,z,l,d,q⟩:=h;refine Y3 ?_;intro n A a s I _;obtain⟨D,rfl,e⟩:=u;refine Y3A (cL FQ55 (aD 0) (dU (Y2x (BH vR (Y26)) Y26))) (Y9d e);refine Y5 Y3I;refine qH (by show 2<=64;decide) λp H3 G r j=>kN.i (iI.same j m) (iI.new (f:=kA g) r) B (xE z) l ⟨by show(-g.1).natAbs<_;rw[Int.natAbs_neg];exact d.1,d.2⟩ ?_;exact q.of j
def aIo(F:Ya "is_less" "is_less" aDZ)(T:Ye):dO P w K mg base cW 1 f fd a01 (oO K):=by
 refine F.oky aJp λu H Q E h=>?_;obtain @⟨H,Q,E,x,y,⟨a,b⟩,⟨c,d⟩,l,p,⟨m,zb⟩,⟨j,r⟩,q⟩:=h;refine Y3 ?_;intro n A e s C _;obtain⟨B,rfl,i⟩:=l;obtain⟨z,rfl,g⟩:=p;refine Y3A (oZ xC (Y4K 0 1) (Y4K 1 0)) (Y2M i);refine Y2M g;refine Y32 m r (Y2M g);refine Y2M i;exact⟨_,_,rfl,rfl,lD j zb,_,_,rfl,rfl,q⟩
end
def mL{N B:Nat}{f:Fr}(h:Y2p)(hN:0<N)(hz:N<Y0i)(hB:B<=2^700):Y2U:=by
 obtain⟨d,a⟩:=h.num hN;refine⟨?_,Y8K a hz⟩;have c:B*N<=2^700*Y0i:=Ydq hB hz;have e:(2:Nat)^500*Y0i<Y0J:=by rw[<-Nat.pow_add];exact YhY Dd
 exact Oo
structure aAf(fs:Ak):Prop where
 low:∀f∈fs,Y06
 sz:∀f∈fs,Y2U
 part:∀i,dS (rX (Yc8))/\Y52 (rX (Yc8))
def xQ{N B:Nat}{fs:Ak}(h:∀f∈fs,Y2p)(hN:0<N)(hz:N<Y0i)(hl:Yc4 64)(hB:B<=2^690):aAf fs:=by
 have c:(2:Nat)^690<=2^700:=Y4q Dd;have d:64*(2:Nat)^690<=2^700:=by rw[show(64:Nat)=2^6 from rfl,<-Nat.pow_add];exact Y4q Dd
 refine⟨λf a=>(h f a).low,λf a=>mL (h f a) hN hz (aL hB c),λi=>?_⟩;have t:=Fn.tot (Yc8) λf a=>h f (List.mem_of_mem_take a);have l:(Yc8).length<=64:=by rw[gB];exact Oo
 have:(Yc8).length*B<=64*2^690:=Nat.mul_le_mul l hB;exact⟨t.low,mL t hN hz (aL this d)⟩
structure zD(K:Aa)(H:Hp)(fs:Ak)(xs:Al):Prop where
 len:YjE
 at_:∀(i:Nat) (x:V),Y0s=Yb->∃f,fs[i]?=Y5h/\Y4f
theorem zD.of{K:Aa}{H:Hp}{fs:Ak}{xs:Al}(r:Y5J jA xs):zD K H fs xs:=⟨gE r,λi x e=>by
 obtain⟨f,a,c⟩:=eW r e;exact⟨f,a,iI.of c⟩⟩
inductive jO (K:Aa):Yk
 | i {H:Hp} {Q:VK} {E:XK} {a:Addr} {xs:Al} {fs:Ak} (h:H a=Y0A) (r:zD K H fs xs) (ok:aAf fs) (q:Y4k (dL H' (jA (rX fs)) v->Y1o)):jO K Y1O H Q E
section
def aHR(F:Ya "total" "total" aDu)(T:Ye)
  (FQ55:Y14 2 "plus" a01 (kN K)):dO P w K mg base cW 3 f fd a27 (jO K):=by
 refine F.oky aCb λn H Q E h=>?_;obtain @⟨H,Q,E,a,n,fs,z,r,ok,q⟩:=h;refine Y3 ?_;intro M A m s X _;have e:=r.len;refine⟨_,(aH (Ycb aCb.nd Yb6)
  (aH (Y8t (eJ Y0H) (Ybl 2 aCb.nd) (Y1D 1 aCb.nd FQ55 1 Y0c))
  (Y2g 1))),?_⟩
 refine Yo;intro B U;refine qH (by show 2<=64;decide) λW H0 R N s0=>Y9G a _ (s0 _ _ z) (mG (xs:=n) (YdL (λw j=>An3 (σ=[Y3i,some w,j]) Y1 (dL H' (jA (rX (Yc8))) w))) (Y3P _ s0 (fL N)) (λi σ H' _ p=>?_) ?_ ?_)
 ·obtain⟨w,j,rfl,d,_⟩:=p;exact gJ.of (d _ _ z)
 ·rintro i x σ H1 I ⟨w,j,rfl,d,l⟩;refine Y5b;intro B;obtain⟨g,u,L⟩:=r.at_ i x I;have y:=aE u;obtain⟨G,C⟩:=ok.part i;refine Y0g (kN.i (iI.of l) (iI.same d L) G (ok.low _ y) C (ok.sz _ y) ?_);intro S H2 D J O;refine Y3P _ (d.trans O) ?_;rw[iB u,uG];exact fL J
 ·rintro σ H1 ⟨w,j,rfl,d,l⟩;refine Y7;rw[e,dX]at l;exact q _ H1 d l
end
@[irreducible] def qW:Sp:=λvs H Q _=>∃a fs,vs=Y1O/\(∃xs,H a=Y0A/\Y5J jA xs)/\(∀f∈fs,Y06/\Y2U)/\Yak 0/\Yc4 64/\∀p y,jI fs fs.length p y->Y1x (p:Nat)
def JB{H:Hp}{Q:VK}{E:XK}{a:Addr}{xs:Al}{fs:Ak}(h:H a=Y0A)(r:Y5J jA xs)(ok:∀f∈fs,Y06/\Y2U)(h0:Yak 0)(h1:Yc4 64)(q:∀p y,jI fs fs.length p y->Y1x (p:Nat)):qW Y1O H Q E:=by unfold qW;exact⟨a,fs,rfl,⟨xs,h,r⟩,ok,h0,h1,q⟩
def jI.min{fs:Ak}{p:Nat}{y:Fr}(L:jI fs fs.length p y)(ok:∀f∈fs,Y06):rv y=mQ (fs.map rv):=by
 have c:=aE L.at_;refine(GZ (Y9R y c) λx e=>?_).symm;obtain⟨f,a,rfl⟩:=aN.mp e;obtain⟨j,d⟩:=gK.mp a;have:=L.no j f (Yay).1 d;exact Rat.not_lt.mp λq=>this ((WT (ok f a).pos (ok y c).pos).mpr q)
section
def aIj(F:Ya "least_place" "least_place" aDV)(T:Ye)
  (FQ36:Y0k "is_less" a01 (oO K)):dO P w K mg base cW 2 f fd a27 qW:=by
 refine YiV aCd ?_;unfold qW at h;obtain⟨a,fs,rfl,⟨C,B,g⟩,ok,I,Y,q⟩:=h;refine Y3 ?_;intro R A l s Z _;have D:=gE g;refine⟨_,(aH (Ycb aCd.nd aK)
  (aH (Y8t (RZ rfl T.b_range (Y2x aK (Yag oG (by rfl) Kk 0))) (Ybl 2 aCd.nd) (iM (qE (cL FQ36 (Y5N 0 Y0c) (Y5N 0 Y0w))) (aS (Ycb aCd.nd Y0c)) fJ))
  (Y2g 1))),?_⟩
 refine Yo;intro J W;refine Y5 (Yb3 B);refine Y3P _ ⟨Oo,Oo,Oo,Oo⟩ ?_;have r:∃y,fs[0]?=Y03:=Y40 I;obtain⟨S,r⟩:=r;refine oX (Yjs (λ(p:Nat) (y:Fr) (m:Am)=>An3 (σ=[Y3i,Yd (p:Int),m]) (H'=H) (jI fs (i+1) p y))) (Y68 0 S _ rfl (jI.one r)) ?_ ?_
 ·rintro i σ H1 X ⟨p,y,m,rfl,rfl,L⟩;refine Y5b;intro J;have n:Yak (i+1):=Oo;have d:fs[i+1]?=some fs[i+1]:=aC n;generalize fs[i+1]=z at d;obtain⟨α,u,O⟩:=kP g d;obtain⟨U,j,N⟩:=kP g L.at_;have M:(1:Int)+(i:Int)=((i+1:Nat):Int):=Oo;rw[M];refine Ydh B u;refine Ydh B j;refine oO.i (iI.of O) (iI.of N) (ok _ (aE d)).2 (ok _ (aE L.at_)).2 (Y5 Yap)
  ·exact Y5 (Y68 (i+1) z _ rfl (L.next (λf G=>(ok f G).1) d e))
  ·exact Y68 p y _ rfl (L.stay d e)
 ·rintro σ H1 ⟨p,y,m,rfl,rfl,L⟩;refine Y7;have:((C.length:Int)-1).toNat+1=fs.length:=Oo;rw[this]at L;exact q p y L
end
abbrev vB(cs:Ae):PyData:=.tuple (cs.map λ(n:Nat)=>PyData.int (n:Int))
theorem KP:∀cs:Ae,kI (cs.map λ(n:Nat)=>PyData.int (n:Int))=true
 | []=>rfl
 | f::fs=>by show(kJ (.int f)&&kI (fs.map λ(n:Nat)=>PyData.int (n:Int)))=true;rw[KP fs];rfl
def rG(cs:Ae):kJ (vB cs)=true:=KP cs
def AY(K:Aa)(H:Hp)(f:Fr)(x:V):Prop:=Y4S f x\/∃a,x=Yf/\vY K a [f.1,f.2]=true
def AY.v{K:Aa}{H:Hp}{f:Fr}{x:V}(h:AY K H f x):Y4f:=by
 rcases h with h | ⟨a,e,h⟩
 ·exact iI.of h
 ·exact Y2s e (wL h)
def AY.t{K:Aa}{H H':Hp}{f:Fr}{x:V}(s:Y28)(h:AY K H f x):AY K H' f x:=by
 rcases h with h | h
 ·exact .inl (h.flat s (dW f))
 ·exact .inr h
def AY.same{K:Aa}{H H':Hp}{f:Fr}{x:V}(s:Y1)(h:AY K H f x):AY K H' f x:=h.t s.t
def VQ{H:Hp}{fs:Ah}{ws:Y0v}{v:V}(h:Y6o v):∃a af aw xf xw,v=Yf/\H a=Ym [.ref af,.ref aw]/\H af=Ym xf/\H aw=Ym xw/\Y5J .str xf/\Y1g Yhl xw:=by
 obtain⟨a,n,rfl,e,d⟩:=pA h;obtain⟨x,y,rfl,i,j⟩:=DN d;obtain⟨af,xf,rfl,g,l⟩:=pA i;obtain⟨aw,xw,rfl,c,m⟩:=pA j;exact⟨a,af,aw,xf,xw,rfl,e,g,c,l,m⟩
inductive jS:Yk
 | i {H:Hp} {Q:VK} {E:XK} {v:V} {fs:Ah} {ws:Y0v} (h:Y6o v) (q:Y1x (ws.length:Nat)):jS [v] H Q E
inductive GK:Yk
 | i {H:Hp} {Q:VK} {E:XK} {v:V} {fs:Ah} {ws:Y0v} {w:Y95} {i:Nat} (h:Y6o v) (hw:ws[i]?=some w) (q:∀x,Y23 H w.2 x->Q x H):GK [v,.int (i:Int)] H Q E
structure BOk(B:Nat)(fs:Ak):Prop where
 low:∀f∈fs,Y06
 up:∀f∈fs,f.1.natAbs<=2^B
 dn:∀f∈fs,f.2.natAbs<=2^B
inductive wP (K:Aa):Yk
 | i {H:Hp} {Q:VK} {E:XK} {x:V} {f:Fr} {c B:Nat} (h:Y4f) (h1:f.1.natAbs<=2^B) (h2:f.2.natAbs<=2^B) (h3:B<=4000) (h5:c<=4000) (h4:B*c<=4000) (q:zY H Q (zS f c)):wP K [x,.int (c:Int)] H Q E
def HA{x:Int}{n:Nat}(h:Yfh (2^n))(hn:n<=4000):Y8L (2^4001):=aI h (YhY Oo)
def WD{f:Fr}{n:Nat}(h1:f.1.natAbs<=2^n)(h2:f.2.natAbs<=2^n){k:Nat}(hk:n<k):rQ k f:=⟨aI h1 (YhY hk),aI h2 (YhY hk)⟩
inductive jR (K:Aa):Yk
 | i {H:Hp} {Q:VK} {E:XK} {v cv:V} {fs:Ah} {ws:Y0v} {w:Y95} {cs:Ae} {i:Nat} (h:Y6o v) (hw:ws[i]?=some w) (hc:Y3Y H cs cv) (ok:Y6r w.2) (hs:cs.sum<=390) (q:∀x H',Y1->AY K H' (oA (w.2.zip cs)) x->Q x H'):jR K [v,.int (i:Int),cv] H Q E
def aAF{α β:Type}{l:Yt}{m:Yax}{i:Nat}{a:α}{b:β}(h1:l[i]?=Y7p)(h2:m[i]?=YaM):(l.zip m)[i]?=some (a,b):=by rw[List.getElem?_zip_eq_some];exact⟨h1,h2⟩
def aAE{α:Type}(l:Yt)(m:Ae)(i:Nat):(((l.zip m).take i).map (·.2)).sum<=m.sum:=by
 induction l generalizing m i with
 | nil=>simp
 | cons a l ih =>
  cases m with
  | nil=>simp
  | cons b m =>
   cases i with
   | zero=>simp
   | succ i =>
    have:=ih m i;simp only[List.zip_cons_cons,List.take_succ_cons,bH,List.sum_cons];exact Oo
def sK{α β:Type}{l:Yt}{m:Yax}{i:Nat}{z:α × β}(h:z∈(l.zip m).take i):z.1∈l:=(List.of_mem_zip (a:=z.1) (b:=z.2) (List.mem_of_mem_take h)).1
def aAO{m:Ae}{i c:Nat}(h:m[i]?=Y1b):c<=m.sum:=by
 induction m generalizing i with
 | nil=>simp at h
 | cons a m ih =>
  rw[List.sum_cons];cases i with
  | zero=>cases(show a=c by simpa using h);exact Oo
  | succ i=>have:=ih (i:=i) (by simpa using h);exact Oo
section
def aHP(F:Ya "ways_of" "ways_of" aDs)(T:Ye):dO P w K mg base cW 1 f fd a20 jS:=by
 refine F.oky aI6 λl H Q E h=>?_;obtain @⟨H,Q,E,v,fs,r,h,q⟩:=h;refine Y3 ?_;intro g A e s z _;obtain⟨a,u,y,B,n,rfl,i,m,j,p,d⟩:=VQ h;refine Y3A (Yf2 oG (by rfl) Kk (Y1W Y2C)) (Y0u i);refine rlT j ?_;rw[gE d];exact q
def aHQ(F:Ya "way_shares" "way_shares" aDt)(T:Ye):dO P w K mg base cW 1 f fd ["trial","way"] GK:=by
 refine F.oky aI7 λD H Q E h=>?_;obtain @⟨H,Q,E,v,fs,L,w,i,h,e,q⟩:=h;refine Y3 ?_;intro n A g s R _;obtain⟨a,M,N,U,I,rfl,p,G,r,J,d⟩:=VQ h;obtain⟨u,B,ru⟩:=kP d e;obtain⟨b,O,rfl,m,l⟩:=pA ru;obtain⟨y,z,rfl,S,C⟩:=DN l;refine Y3A (Y5q (Y5q Y2C Y0w) aK) (Y0u p);refine Y5 (lE r (eB (j:=i) B) ?_);exact lE m rfl (q _ C)
def aH4(F:Ya "power" "power" aDG)(T:Ye):dO P w K mg base cW 1 f fd ["share","count"] (wP K):=by
 refine F.oky UG λJ H Q E h=>?_;obtain @⟨H,Q,E,x,f,n,B,⟨a,rfl,r⟩,m,p,j,L,C,q⟩:=h;refine Y3 ?_;intro D A e s N _;refine⟨_,(aH (Y1E UG.nd aK)
  (aH (Y15 UG.nd aK)
  (aH (gM PassesOwn.never rfl (fR rfl T.b_range (Y2L 1)) (Ybl 4 UG.nd) (aH (Y1E UG.nd (Y6u 2 Y2C))
  (aS (Y15 UG.nd (Y6u 3 Y2C)))))
  (Y1k (dU (Y1Y 2 Y0h)))))),?_⟩
 refine Yo;intro u y;refine Y3t _ rfl _ Oo Oo (oX (Yjt (λg=>An2 (σ=[Y3i,Yd (n:Int),Yd (f.1^i),Yd (f.2^i),g]) (H'=H))) (Y0B (by rw[Int.pow_zero,Int.pow_zero];rfl)) ?_ ?_)
 ·rintro i σ H1 M ⟨g,rfl,rfl⟩;refine Yaj;intro u y;have l:B*i<=4000:=aL (dI _ Oo) C;refine Y9d r;refine Y32 (HA (yI m i) l) (HA m j) (Y9d r);exact Y32 (HA (yI p i) l) (HA p j) (Y0B (by rw[Int.pow_succ,Int.pow_succ];rfl))
 ·rintro σ H1 ⟨g,rfl,rfl⟩;refine Y01;exact qH (by show 2<=64;decide) λz H3 d G I=>q z H3 d (by rw[G];rfl) I
def aHO(F:Ya "weight" "weight" aDr)(T:Ye)
  (FQ70:Y0k "way_shares" ["trial","way"] GK) (FQ67:Y6b 2 "times" K) (FQ56:Y0k "power" ["share","count"] (wP K)):dO P w K mg base cW 3 f fd a06 (jR K):=by
 refine Y0P ZT;obtain @⟨H,Q,E,v,cv,fs,ws,w,a,j,h,δ,ρ,ok,hs,q⟩:=h;refine Y3 ?_;intro φ A C s hr _;refine⟨_,(aH (Y15 ZT.nd (Yhn Yed rfl))
  (aH (Y8t (kZ true true rfl T.b_zip (Y2x (Y1v FQ70 0 1) Y0c)) (Y7m 4 ZT.nd 5 ZT.nd lK) (Y1D 3 ZT.nd FQ67 3 (Y1v FQ56 4 5)))
  (Y2g 3))),?_⟩
 refine Yo;intro ι n_;refine Y01;refine GK.i h δ λx γ=>?_;obtain⟨ε,L,rfl,W,U⟩:=pA γ;obtain⟨J,M,rfl,S,N⟩:=pA ρ;refine⟨_,rfl,ε,J,L,M,rfl,W,S,?_⟩;have β:=gE U;have Y:=gE N;have X:∀i,∀z∈(w.2.zip a).take i,dS z.1:=λi z d=>ok.low _ (sK d);have zb:∀i,∀z∈(w.2.zip a).take i,z.1.1.natAbs<=2^10/\z.1.2.natAbs<=2^10:=λi z d=>⟨ok.up _ (sK d),ok.dn _ (sK d)⟩;refine vA (Yjs (λx u p=>An3 (σ=[Yn,Yd (j:Int),Y6 J,Yb,u,p]) Y1 (AY K H' (oA ((w.2.zip a).take i)) x))) (Y68 _ _ _ Y09 (YeO T.o_ONE)) (λi σ H' ⟨x,u,p,_,I,_⟩=>⟨I _ _ W,I _ _ S⟩) ?_ ?_
 ·rintro i y z Z σ H1 H2 η d ⟨x,u,p,rfl,m,r⟩ ζ χ D;obtain⟨g,R,υ⟩:=eW U η;obtain⟨n,O,τ⟩:=eW N d;cases(show z=V.int (n:Int)from τ);have l:=aE R;have nn:=aAO O;refine⟨Z,_,rfl,jV.of χ,rfl,_,_,rfl,_,_,rfl,rfl,Y2i⟩;intro ι;refine Y2k (wP.i (B:=10) (iI.of (υ.same (m.trans D))) (ok.up _ l) (ok.dn _ l) Dd Oo Oo ?_);intro q4 H4 θ ο G;obtain⟨κ,b2⟩:=aAK ((w.2.zip a).take i) (X i) (zb i);have ω:=aAE w.2 a i;have ψ:=yI (ok.up _ l) n;have μ:=yI (ok.dn _ l) n;refine eN.i (iI.same (D.trans G) r.v) (iI.new (f:=zS g n) ο) (tH _ (X i)) (pI (ok.low _ l) n) (WD κ b2 Oo) (WD ψ μ Oo) ?_;intro q5 H5 ξ ν α;refine Y68 _ _ _ (((m.trans D).trans G).trans α) ?_;rw[iB (aAF R O),xX];exact .inl (fL ν)
 ·rintro σ H1 ⟨x,u,p,rfl,m,r⟩;refine Y5 (q _ H1 m ?_);have e:(w.2.zip a).take (min L.length M.length)=w.2.zip a:=List.take_of_length_le (by rw[List.length_zip];exact Oo)
  rwa [e]at r
end
inductive kF:Yk
 | i {H:Hp} {Q:VK} {E:XK} {v:V} {fs:Ah} {ws:Y0v} (h:Y6o v) (q:Y1x (fs.length:Nat)):kF [v] H Q E
section
def aIt(F:Ya "faces_of" "faces_of" aD4)(T:Ye):dO P w K mg base cW 1 f fd a20 kF:=by
 refine F.oky aJr λm H Q E h=>?_;obtain @⟨H,Q,E,v,fs,p,h,q⟩:=h;refine Y3 ?_;intro j A d s y _;obtain⟨a,r,u,B,n,rfl,l,e,z,i,g⟩:=VQ h;refine Y3A (Yf2 oG (by rfl) Kk (Y1W Y2C)) (Y0u l);refine rlT e ?_;rw[gE i];exact q
end
def nY(H:Hp)(a:Addr)(cs:Ab):Prop:=∃vs,H a=Yq vs/\Ye3 vB vs
theorem mH:∀cs:Ab,kI (cs.map vB)=true
 | []=>rfl
 | c::cs=>by show(kJ (vB c)&&kI (cs.map vB))=true;rw[mH cs,rG];rfl
theorem nY.same{H H':Hp}{a:Addr}{cs:Ab}(h:nY H a cs)(s:Y1):Y4g a cs:=by
 obtain⟨c,d,e⟩:=h;exact⟨c,s _ _ d,e.same s⟩
def nY.len{H:Hp}{a:Addr}{cs:Ab}(h:nY H a cs):∃vs,H a=Yq vs/\Ye3 vB vs/\Y5V cs.length:=by
 obtain⟨vs,d,c⟩:=h;exact⟨vs,d,c,gE c⟩
theorem bJ.app{H:Hp}:∀{ds es:Y0Y}{xs ys:Al},Yac xs->Y1g es ys->Y1g (ds++es) (Y5L ys)
 | [],es,xs,ys,h1,h2=>by
  have:xs=[]:=h1;subst this;exact h2
 | d::ds,es,xs,ys,h1,h2=>by
  unfold bJ at h1;obtain⟨x,a,rfl,e,c⟩:=(show ∃x a,xs=x::a/\dL H d x/\bJ H ds a from h1);exact bJ.cons e (bJ.app c h2)
def rF{α:Type}(g:Nat->Yt)(i:Nat):(List.range (i+1)).flatMap g=(List.range i).flatMap g++g i:=by
 rw[List.range_succ,List.flatMap_append];simp
@[irreducible] def pF(n:Nat):Sp:=λvs H Q _=>∃F m:Nat,vs=[.int (F:Int),.int (m:Int)]/\1<=F/\F<=n/\F<=4/\m<=5/\∀a H',Y1->H a=none->Y4g a (Y6K m)->Y6w
def WI{n:Nat}{H:Hp}{Q:VK}{E:XK}{F m:Nat}(h1:1<=F)(h2:F<=n)(h4:F<=4)(h3:m<=5)(q:∀a H',Y1->H a=none->Y4g a (Y6K m)->Y6w):pF n [.int (F:Int),.int (m:Int)] H Q E:=by unfold pF;exact⟨F,m,rfl,h1,h2,h4,h3,q⟩
def JC{n:Nat}{H:Hp}{Q:VK}{E:XK}{F m:Nat}{x y:Int}(ex:x=(F:Int))(ey:y=(m:Int))(h1:1<=F)(h2:F<=n)(h4:F<=4)(h3:m<=5)(q:∀a H',Y1->H a=none->Y4g a (Y6K m)->Y6w):pF n [.int x,.int y] H Q E:=by
 subst ex ey;exact WI h1 h2 h4 h3 q
inductive uT:Yk
 | i {H:Hp} {Q:VK} {E:XK} {F m:Nat} (h1:1<=F) (h4:F<=4) (h3:m<=5) (q:∀a H',Y1->H a=none->Y4g a ((List.range (m+1)).flatMap (cta F))->Y6w):uT [.int (F:Int),.int (m:Int)] H Q E
def yR:∀F,F<=4->∀m,m<=5->(Y6K m).length<=56:=Kk
def MW:∀F,F<=3->∀m,m<=5->∀i,i<=6->((List.range i).flatMap λk=>(cta F (m-k)).map λc=>k::c).length<=400:=Kk
def yX:∀F,F<=4->∀i,i<=6->((List.range i).flatMap (cta F)).length<=400:=Kk
def ZL{F m:Nat}{c:Ae}(h:Y1T (Y6K m)):Y2E:=(iX h).1
section
def aHv(F:Ya "counts_that_are" "counts_that_are" aAZ)(T:Ye):dO P w K mg base cW 1 f fd a28 (pF 0):=by
 refine F.okw aCg (λd H Q E h=>?_) (λg A a s H d Q E j h=>?_)
 ·unfold pF at h;obtain⟨F,m,_,e,i,_⟩:=h;exact Oo
 ·unfold pF at h;obtain⟨F,m,_,e,i,_⟩:=h;exact Oo
def aIv(n:Nat)(F:Ya "counts_that_are" "counts_that_are" aAZ)(T:Ye)(FQ29:Y14 (1+n) "counts_that_are" a28 (pF n)) :
  dO P w K mg base cW (1+n+1) f fd a28 (pF (n+1)):=by
 refine F.oky aCg λα H Q E h=>?_;unfold pF at h;obtain⟨F,m,rfl,δ,Y,h4,μ,q⟩:=h;refine Y3 ?_;intro cdv A u s hr _;refine⟨_,(aH (Y4L (Y7F oJ 0) (iJ (Y1W (dU (Y2L 1)))))
  (aH (Y1E aCg.nd (iJ aQ))
  (aH (Y8t (Y7b (Yba 1)) (Ygf 3 aCg.nd rfl rfl) (lJ (Yil NB Y0c (Y1W (Y6Z ["rest","first"] [3] (eJ (tJ FQ29 (hr.mono Oo) (Y2x (Y8H pJ 0) (Y2h pJ 1 3)))) (cC (GY K) (dU (Y2L 1)) (Y0H)))))))
  (Y2g 2)))),?_⟩
 refine Yo;intro X n_;refine Y6Y _ rfl _ rfl Yap
 ·have Z:F=1:=by injection e with e;exact Oo
  refine Y2i;intro X;subst Z;refine Y7;refine qH (by show 1<=64;decide) λp0 H0 ο χ s0=>DT (by show 1<=64;decide) λτ H1 N B g=>q τ H1 (s0.trans g) (s0.free N) (Y0n _ B);exact Ydr (dL.tup (g _ _ χ) (Ydr Yan))
 ·have Z:F≠1:=YaC (by rw[z];rfl);obtain⟨G,rfl⟩:∃G,F=G+2:=Y1N (F-2);refine DT (by show 0<=64;decide) λL H1 S B g=>⟨_,rfl,_,_,rfl,rfl,_,rfl,Oo,Oo,?_⟩;rw[show((m:Int)+1).toNat=m+1 by exact Oo];refine oX (Yjt (λC=>An3 (σ=[Yd ((G+2:Nat):Int),Yd (m:Int),Y9n,C]) Y1 (Y4g L ((List.range i).flatMap λk=>(cta (G+1) (m-k)).map λc=>k::c)))) ⟨_,rfl,g,[],B,bJ.nil⟩ ?_ ?_
  ·rintro i σ H2 hi ⟨C,rfl,M,α,l,W⟩;refine Y5b;intro X;have lv:=gE W;have sml:=MW (G+1) Oo m μ i Oo;refine Y37 _ (UR l) (Y5p _ _ _ rfl (Y7I _ _ _ _ ?_));refine JC (F:=G+1) (m:=m-i) Oo Oo Oo Oo Oo Oo λb H3 R hb ω=>?_;obtain⟨ws,ε,φ,lw3⟩:=ω.len;have sm2:=yR (G+1) Oo (m-i) Oo;refine Y1h b ε (fH (λj y H'=>∃c,(cta (G+1) (m-i))[j]?=Y1b/\Y3Y H' (i::c) y) (λj y H1 H2 s ⟨c,δ,Y⟩=>⟨c,δ,Y.flat s (rG _)⟩) Oo ε (λj x H' Q' θ ι κ=>?_) (λD ρ H4 U r η ψ J=>?_))
   ·obtain⟨c,p,I⟩:=eW φ θ;obtain⟨ac,xc,rfl,O,d⟩:=pA (I.same ι);have lc:=gE d;have ζ:=ZL (aE p);refine Y7;refine qH (by show 1<=64;decide) λp4 H5 ν e4 a=>Y7;refine aFx e4 (a _ _ O) (by simp only[cK,List.length_nil];exact Oo) λp5 H6 γ υ=>κ _ H6 (a.trans γ) ⟨c,p,dL.tup υ ?_⟩;rw[show(0:Int)+(i:Int)=(i:Int)by exact Oo];exact bJ.cons (Yan) (d.same (a.trans γ))
   ·have S4:=R.trans η;have nLD:D≠L:=λz=>by subst z;rw[R _ _ l]at U;cases U
    refine aFp (Y1U l) r Oo λH5 e5 a=>?_;have β:=a.t (Y1U l);refine⟨_,rfl,aT.thru S (M.trans S4) a,α++ρ,e5,?_⟩;rw[rF,bE];refine bJ.app (Ye9 β _ (W.same S4)) (Ye9 β _ ?_);refine bJ.ofIdx (by rw[ψ,aA,aA];exact Oo) λj y hj=>?_;obtain⟨c,p,I⟩:=J j y hj;exact Y0C (by rw[aG,aG,p];rfl) I
  ·rintro σ H2 ⟨C,rfl,M,ξ⟩;exact Y5 (q L H2 M S ξ)
def aIG(F:Ya "all_counts" "all_counts" aEh)(T:Ye)(FQ29:Y14 5 "counts_that_are" a28 (pF 4)) :
  dO P w K mg base cW 6 f fd a49 uT:=by
 refine F.oky aFC λn H Q E h=>?_;obtain @⟨H,Q,E,F,m,D,a,β,q⟩:=h;refine Y3 ?_;intro N A g s γ _;refine⟨_,(aH (Y1E aFC.nd (iJ aQ))
  (aH (Y8t (Y7b (Yba 1)) (Ybl 3 aFC.nd) (lJ (Yil NB Y0c (Y1W (Y1v FQ29 0 3)))))
  (Y2g 2))),?_⟩
 refine Yo;intro z X;refine DT (by show 0<=64;decide) λL H1 u U C=>⟨_,rfl,_,_,rfl,rfl,_,rfl,Oo,Oo,?_⟩;rw[show((m:Int)+1).toNat=m+1 by exact Oo];refine oX (Yjt (λl=>An3 (σ=[Yd (F:Int),Yd (m:Int),Y9n,l]) Y1 (Y4g L ((List.range i).flatMap (cta F))))) ⟨_,rfl,C,[],U,bJ.nil⟩ ?_ ?_
 ·rintro i σ H2 α ⟨l,rfl,j,n,e,y⟩;refine Y5b;intro z;have Y:=gE y;have J:=yX F a i Oo;refine Y37 _ (UR e) Y01;refine JC (F:=F) (m:=i) rfl Oo D a a Oo λb H3 d Z G=>?_;obtain⟨B,R,O,M⟩:=G.len;have W:=yR F a i Oo;refine aFp (d _ _ e) R Oo λH5 I r=>?_;have p:=r.t (d _ _ e);refine⟨_,rfl,aT.thru u (j.trans d) r,n++B,I,?_⟩;rw[rF,bE];exact bJ.app (Ye9 p _ (y.same d)) (Ye9 p _ O)
 ·rintro σ H2 ⟨l,rfl,j,S⟩;exact Y5 (q L H2 j u S)
end
abbrev FN(n:Nat):V:=.int (n:Int)
theorem KY{H:Hp}:∀cs:Ae,Ye3 (λ(n:Nat)=>PyData.int (n:Int)) Yhi
 | []=>bJ.nil
 | n::cs=>bJ.cons (dL.int _) (KY cs)
theorem FW{H:Hp}:∀{cs:Ae}{xs:Al},Ye3 (λ(n:Nat)=>PyData.int (n:Int)) xs->xs=Yhi
 | [],xs,h=>h
 | n::cs,xs,h=>by
  unfold bJ at h;obtain⟨x,xs',rfl,hx,hr⟩:=(show ∃x xs',xs=x::xs'/\dL H (PyData.int (n:Int)) x/\bJ H (cs.map λ(n:Nat)=>PyData.int (n:Int)) xs' from h);rw[FW hr];cases(show x=V.int (n:Int)from hx)
  rfl
def iL{H:Hp}{cs:Ae}{v:V}(h:Y3Y H cs v):∃a,v=Yf/\H a=Ym Yhi:=by
 obtain⟨a,e,rfl,c,d⟩:=pA h;rw[FW d]at c;exact Yx a c
def wC{H:Hp}{cs:Ae}{a:Addr}(h:H a=Ym Yhi):Y3Y H cs Yf:=dL.tup h (KY cs)
def ZZ{cs:Ae}{i:Nat}(h:Yhx i):cH cs i=cs.take i++[YeB 0+1]++cs.drop (i+1):=by
 unfold cH;rw[List.set_eq_take_append_cons_drop,Y4z,List.append_assoc]
 rfl
def aAS{K:Aa}{H:Hp}{a:Addr}{xs:Al}{k:Nat}{z:Int}{Q:VK}(hz:z=(k:Int))(h:H a=Y11)(q:∀c H',Y1->H' c=Ym (xs.drop k)->Y6x):MQ K (Yf) (Y8X) none H Q:=by
 subst hz;exact aDk h q
inductive pU:Yk
 | i {H:Hp} {Q:VK} {E:XK} {x:V} {cs:Ae} {i:Nat} (h1:Y3Y H cs x) (h2:Yhx i) (h3:cs.length<=64) (k:Y4k (Y3Y H' (cH cs i) v->Y1o)):pU [x,.int (i:Int)] H Q E
inductive fU:Yk
 | i {H:Hp} {Q:VK} {E:XK} {x:V} {cs:Ae} (h1:Y3Y H cs x) (h3:cs.length<=64) (k:Y2Q (H D=none) (Y0x=Y05->Y3M (((List.range cs.length).map (cH cs)).map vB) ys->Y1->Y0Q)):fU [x] H Q E
section
def aIb(F:Ya "one_more" "one_more" aDN)(T:Ye):dO P w K mg base cW 1 f fd a47 pU:=by
 refine F.oky aJh λL H Q E h=>?_;obtain @⟨H,Q,E,x,d,i,J,r,N,k⟩:=h;refine Y3 ?_;intro G A g s W _;obtain⟨a,rfl,m⟩:=iL J;refine Y3A (cC (GY K) (cC (GY K) (oY (PC K) Y0H rV (rT (Y0w))) (dU (Y1W (Y3F (Y5N 0 Y0w) aK)))) (oY (PC K) Y0H (rT (Yba 1)) rV)) Y42;refine aDl m λM H2 l B=>Y01;have e:EA (d.map FN) (i:Int)=some (FN (d.getD i 0)):=eB (by rw[aG,aR,aC r];rfl);refine lE (l _ _ m) e Y9b;refine qH (by show 1<=64;decide) λO H3 D I j=>aFx (j _ _ B) I (by rw[gB,aA];show min i d.length+1<=1000;exact Oo) λU H4 n u=>Y7I _ _ _ _ ?_;refine Y7;refine aAS (k:=i+1) Oo (n _ _ (j _ _ (l _ _ m))) λS H5 p C=>aFx (p _ _ u) C (by rw[aW,gB,List.length_drop,aA];show min i d.length+1+(d.length-(i+1))<=1000;exact Oo) λR H6 y z=>k _ H6 ((((l.trans j).trans n).trans p).trans y) (wC ?_);rw[z,ZZ r,bE,bE,List.map_take,List.map_drop]
 rfl
def aIa(F:Ya "ones_more" "ones_more" aDM)(T:Ye)(FQ49:Y0k "one_more" a47 pU):dO P w K mg base cW 2 f fd a35 fU:=by
 refine YfW aJg ?_;obtain @⟨H,Q,E,x,l,r,I,k⟩:=h;refine Y3 ?_;intro J A j s R _;obtain⟨a,rfl,M⟩:=iL r;refine Y5D (Y6Z ["face","counts"] [0] (Y7b (Yag oG (by rfl) Kk 0)) (Y1v FQ49 1 0));refine Y5 (rlT M ?_);rw[aA];refine Y98 _ Oo Oo (Yc2 (i<l.length/\Y3Y H' (cH l i) y) (λi y H1 H2 s ⟨g,m⟩=>⟨g,m.flat s (rG _)⟩) Oo (λi H' Q' p C L=>?_) (λD z H4 N d u n e=>?_))
 ·rw[Int.zero_add];refine Y01;exact pU.i (r.same C) Oo I λv H5 B G=>L _ H5 B ⟨Oo,G⟩
 ·refine k D z H4 N d ?_ u;refine bJ.ofIdx (by rw[n,aA,aA,aV];exact Oo) λi y p=>?_;obtain⟨g,m⟩:=e i y p;exact⟨vB (cH l i),by rw[aG,aG,bP g];rfl,m⟩
end
abbrev aDo:Stmt:=(top 66)
def ZS:Yg ["trial","aim","prices","rising","worth_of","counts","sums"] a41 aDo:={}
abbrev aDx:Stmt:=(top 67)
def LE:Yg ["trial","aim","prices","counts","worth_of","weights","dues","all_dues","sums","looks","met","worths_behind"] a08 aDx:={}
abbrev mP(ws:Y0v):Aj:=ws.map λx=>x.2
def ci(c:Ae):Af:=c.map λ(n:Nat)=>(n:Int)
def fM(c:Ae):(ci c).map V.int=c.map FN:=by unfold ci;rw[List.map_map];rfl
def HV(c:Ae):(ci c).sum=(c.sum:Nat):=by
 induction c with
 | nil=>rfl
 | cons a c ih =>
  have e:ci (a::c)=(a:Int)::ci c:=rfl;rw[e,List.sum_cons,List.sum_cons,ih];exact Oo
theorem jZ:∀{a b:Ae},ci a=ci b->a=b
 | [],[],_=>rfl
 | [],b::bs,h=>by cases h
 | a::as,[],h=>by cases h
 | a::as,b::bs,h=>by
  have h:(a:Int)::ci as=(b:Int)::ci bs:=h;injection h with h1 h2;rw[jZ h2,show a=b by exact Oo]
structure DW(H:Hp)(kvs:Yu)(S:Ab)(val:Ae->Fr):Prop where
 yes:∀c∈S,∃v,Y7T=Yn/\Y4S (val c) v
 len:Y5Y S.length
def DW.t{H H':Hp}{kvs:Yu}{S:Ab}{val:Ae->Fr}(s:Y28)(h:DW H kvs S val):DW H' kvs S val :=
 ⟨λc a=>by obtain⟨v,d,e⟩:=h.yes c a;exact⟨v,d,e.flat s (Y2u)⟩,h.len⟩
def DW.put{H:Hp}{kvs:Yu}{S:Ab}{val:Ae->Fr}(h:DW H kvs S val){c:Ae}{v:V}(r:Y4S (val c) v):DW H (Y8A c v) (c::S) val:=by
 refine⟨Ye2,by have:=h.len;have:=Y5f kvs c v;rw[cK];exact Oo⟩;rw[iD];by_cases e:d=c
 ·subst e;rw[Yr];exact Yx v r
 ·rw[Y3u (e (Y60 q))];rcases bN.mp hd with hd | hd
  ·exact absurd hd e
  ·exact h.yes d hd
def aU.tT{H H':Hp}{p:Addr}(s:Y0R){kvs:Yu}(hp:H p=Y10):Y28:=Ygz (sX h hp (by intro z;cases z)) h
def smQ(W F:Nat)(q:Nat->Yz)(mix ps cs:Yv):Nat->Ae->Y22
 | 0,c=>oC W λv=>ps v*q v c
 | n+1,c=>oC W (λv=>ps v*q v c)++[cs c.sum*cE W (λv=>mix v*q v c)+cE F (λj=>qM W F q mix ps cs n (cH c j))]
def VC{W F:Nat}{q:Nat->Yz}{mix ps cs:Yv}(n:Nat)(c:Ae):Y4j W F q n c=mQ (smQ W F q mix ps cs n c):=by cases n <;> rfl
abbrev oN(M Ns Nm Np Nc:Nat):Nat:=Np*Nc*Nm*Ns^M
section
variable{F W M:Nat}{ss:Aj}{mix ps cs:Ak}{Ns Nm Np Nc B:Nat}
def iS(I:lH F W M ss mix ps cs Ns Nm Np Nc B){C:Nat}{f:Fr}(h:Y2K Ns Nm Np Nc C f)(hC:C<=2^690):Y2U:=mL h I.pos I.sz (Y44 hC)
def DM(I:lH F W M ss mix ps cs Ns Nm Np Nc B){C:Nat}{fs:Ak}(h:∀f∈fs,Y2K Ns Nm Np Nc C f)(hl:Yc4 64)(hC:C<=2^690):aAf fs:=xQ h I.pos I.sz hl hC
def qJ:1000000000000<=2^690:=Y44 (show 1000000000000<=2^40 by decide)
def vM:4*WB<=2^690:=aJz
def RM(I:lH F W M ss mix ps cs Ns Nm Np Nc B){n:Nat}(hn:n<=5):8^(n+1)*B<=WB :=
 aL (Y2a (Y4q Oo)) (aL (Nat.le_of_eq (show 8^7*B=2097152*B from rfl)) I.b)
def kR(ss:Aj)(ps:Ak)(c:Ae)(i:Nat):Fr:=iG (ps.getD i (0,1)) (oA ((ss.getD i []).zip c))
def vE(I:lH F W M ss mix ps cs Ns Nm Np Nc B){i:Nat}(hi:i<W)(c:Ae):dS (oA ((ss.getD i []).zip c)) :=
 tH _ λz d=>((I.sh _ (eO (by rw[I.sl];exact hi))).2 z.1 (Yic z.1 z.2).1).low
def AX(I:lH F W M ss mix ps cs Ns Nm Np Nc B){i:Nat}(hi:i<W){c:Ae}(hc:Y5u):Y2K Ns Nm Np Nc 1 (oA ((ss.getD i []).zip c)) :=
 Qn.f (vE I hi c) ((I.qn hi hc).dvd ⟨Np*Nc*Nm,by unfold oN;ac_rfl⟩)
def RJ(I:lH F W M ss mix ps cs Ns Nm Np Nc B){i:Nat}(hi:i<W):Y2K Ns Nm Np Nc B (ps.getD i (0,1)) :=
 (I.pr _ (eO (by rw[I.pl];exact hi))).dvd ⟨Nc*Nm*Ns^M,by unfold oN;ac_rfl⟩
def IA(I:lH F W M ss mix ps cs Ns Nm Np Nc B){i:Nat}(hi:i<W):Y2K Ns Nm Np Nc 1 (mix.getD i (0,1)) :=
 (I.mx _ (eO (by rw[I.ml];exact hi))).dvd ⟨Np*Nc*Ns^M,by unfold oN;ac_rfl⟩
def RK(I:lH F W M ss mix ps cs Ns Nm Np Nc B){i:Nat}(hi:i<M):Y2K Ns Nm Np Nc B (YeB (0,1)) :=
 (I.co _ (eO (by rw[I.cl];exact hi))).dvd ⟨Np*Nm*Ns^M,by unfold oN;ac_rfl⟩
def rN(I:lH F W M ss mix ps cs Ns Nm Np Nc B){i:Nat}(hi:i<W)(c:Ae):dS (kR ss ps c i)/\rv (kR ss ps c i)=cS ps i*Y6e i:=by
 have a:=(RJ I hi).low;have d:=vE I hi c;exact⟨iF a d,jE a.pos d.pos⟩
def IC(I:lH F W M ss mix ps cs Ns Nm Np Nc B){i:Nat}(hi:i<W){c:Ae}(hc:Y5u):Y2K Ns Nm Np Nc B (kR ss ps c i) :=
 Qn.f (rN I hi c).1 (by rw[(rN I hi c).2];exact I.due hi hc)
def rM(I:lH F W M ss mix ps cs Ns Nm Np Nc B){i:Nat}(hi:i<W)(c:Ae):dS (kR ss mix c i)/\rv (kR ss mix c i)=cS mix i*Y6e i:=by
 have a:=(IA I hi).low;have d:=vE I hi c;exact⟨iF a d,jE a.pos d.pos⟩
def LK(I:lH F W M ss mix ps cs Ns Nm Np Nc B){i:Nat}(hi:i<W){c:Ae}(hc:Y5u):Y2K Ns Nm Np Nc 1 (kR ss mix c i) :=
 Qn.f (rM I hi c).1 (by rw[(rM I hi c).2];exact(I.met hi hc).dvd ⟨Np*Nc,by unfold oN;ac_rfl⟩)
end
def AJ{n:Nat}{g:Nat->Fr}(h:∀i,i<n->dS (g i)):dS (rX ((List.range n).map g))/\rv (rX ((List.range n).map g))=Y3X n (rv (g i)):=by
 have a:∀f∈(List.range n).map g,Y06:=λf d=>by
  obtain⟨i,c,rfl⟩:=aN.mp d;exact h i (cD.mp c)
 refine Y0j (BI _ a);rw[WR _ a,List.map_map];rfl
abbrev woD(rs:Ab)(val:Ae->Fr):PyData:=.tuple (rs.map λc=>.tuple [vB c,jA (val c)])
abbrev wvF(F W M:Nat)(ss:Aj)(mix ps cs:Ak)(c:Ae):Fr:=eV (wor F W M ss mix ps cs c)
structure aG4(N:Nat)(qs:Y22)(gs:Ak):Prop where
 v:gs.map rv=qs
 n:∀g∈gs,Fn N WB g
 l0:0<gs.length
 l1:gs.length<=5
structure zZ(K:Aa)(H:Hp)(fs:Ak)(xs:Al):Prop where
 len:YjE
 at_:∀(i:Nat) (x:V),Y0s=Yb->∃f,fs[i]?=Y5h/\AY K H f x
theorem zZ.t{K:Aa}{H H':Hp}{fs:Ak}{xs:Al}(s:Y28)(h:zZ K H fs xs):zZ K H' fs xs:=⟨h.len,λi x e=>by
 obtain⟨f,a,c⟩:=h.at_ i x e;exact⟨f,a,c.t s⟩⟩
theorem zZ.v{K:Aa}{H:Hp}{fs:Ak}{xs:Al}(h:zZ K H fs xs):zD K H fs xs:=⟨h.len,λi x e=>by
 obtain⟨f,a,c⟩:=h.at_ i x e;exact⟨f,a,c.v⟩⟩
def EC(K:Aa)(H:Hp)(fs:Ak)(z:V):Prop:=∃sa sx,z=.ref sa/\H sa=Ym sx/\zZ K H fs sx
theorem EC.t{K:Aa}{H H':Hp}{fs:Ak}{z:V}(s:Y28)(h:EC K H fs z):EC K H' fs z:=by
 obtain⟨a,d,e,g,c⟩:=h;exact⟨a,d,e,s _ _ g,c.t s⟩
def zZ.get{K:Aa}{H:Hp}{fs:Ak}{xs:Al}(h:zZ K H fs xs){i:Nat}{f:Fr}(e:fs[i]?=Y5h):∃x,Y0s=Yb/\AY K H f x:=by
 have c:=(aB.mp e).1;have d:Y0s=some (xs[i]'(by rw[h.len];exact c)):=aC (by rw[h.len];exact c);obtain⟨g,a,j⟩:=h.at_ i _ d;rw[e]at a;cases a;exact Y0C d j
def EC.of{K:Aa}{H:Hp}{fs:Ak}{v:V}(h:Y23 H fs v):EC K H fs v:=by
 obtain⟨a,c,rfl,d,r⟩:=nA h;refine Y6Y a c d (gE r) (λi x e=>?_);obtain⟨f,g,j⟩:=eW r e;exact⟨f,g,.inl j⟩
def wG(K:Aa)(H:Hp)(M:Nat)(bs mix cs:Ak)(v:V):Prop:=∃a x1 x2 x3,v=Yf/\H a=Ym [.int (M:Int),x1,x2,x3]/\Y23 H bs x1/\Y23 H mix x2/\EC K H cs x3
theorem wG.t{K:Aa}{H H':Hp}{M:Nat}{bs mix cs:Ak}{v:V}(h:wG K H M bs mix cs v)(s:Y28):wG K H' M bs mix cs v:=by
 obtain⟨a,e,i,d,g,l,c,m,j⟩:=h;exact⟨a,e,i,d,g,s _ _ l,c.flat s (gU _),m.flat s (gU _),j.t s⟩
def wG.same{K:Aa}{H H':Hp}{M:Nat}{bs mix cs:Ak}{v:V}(h:wG K H M bs mix cs v)(s:Y1):wG K H' M bs mix cs v:=h.t s.t
inductive AC (K:Aa):Yk
 | i {H:Hp} {Q:VK} {E:XK} {tv av pv cv:V} {p:Addr} {fs:Ah} {ws:Y0v} {bs mix ps cs:Ak} {c:Ae} {kvs:Yu} {F W M Ns Nm Np Nc B:Nat} (h1:Yd9) (h2:Ybe) (h3:Y23 H ps pv) (h4:Y3Y H c cv) (h5:H p=Y10) (I:lH F W M (Y0V) mix ps cs Ns Nm Np Nc B) (b:∀x∈ws,Y6r x.2) (cl:Y2E) (cm:Y5u) (kn:Y1z->∀j,j<F->∃v,Y5Z Y33=Yn/\Y4S (wvF F W M (Y0V) mix ps cs (Y33)) v) (k:∀D xs gs H',Y1->H D=none->Y0x=Y0A->Y3M (gs.map jA) xs->aG4 (oN M Ns Nm Np Nc) (smQ W F (hZ (Y0V)) (Y4t) (cS ps) (cS cs) (Y2q) c) gs->Y0Q):AC K [tv,av,pv,cv,Y1G] H Q E
def bJ.ofRange{H:Hp}{n:Nat}{g:Nat->Fr}{ys:Al}(hl:Y9s)(h:∀(i:Nat) (y:V),Y19=Y03->i<n/\Y4S (g i) y):Y1g (((List.range n).map g).map jA) ys:=by
 refine bJ.ofIdx (by rw[aA,aA,aV,hl]) λi y a=>?_;obtain⟨c,d⟩:=h i y a;exact Y0C (by rw[aG,aG,bP c];rfl) d
def iQ{α:Type}{l:Yt}{i:Nat}{a d:α}(h:l[i]?=Y7p):l.getD i d=a:=by rw[aR,h];rfl
section
def aHU(F:Ya "sums_at" "sums_at" aDx)(T:Ye)
  (FQ72:Y2t "weight" a06 (jR K)) (FQ71:YaT "ways_of" jS) (FQ67:Y6b 2 "times" K) (FQ69:Y2t "total" a27 (jO K))
  (FQ43:Y14 3 "less" a01 (kE K)) (FQ50:Y2B "ones_more" a35 fU) (FQ55:Y14 2 "plus" a01 (kN K)):dO P w K mg base cW 4 f fd a08 (AC K):=by
 refine Y0P LE;obtain @⟨H,Q,E,tv,av,pv,cv,p,fs,ws,bs,m,r,G,c,kvs,F,W,M,ν,ξ,μ,ο,B,rt,ra,rp,rc,hp,I,hb,ah,C,kn,k⟩:=h;refine Y3 Yfy;generalize hss:mP ws=l at I kn k;have lws:Yht W:=by have:=I.sl;rw[<-hss,aA]at this;exact this
 have hbB:=I.b;have hW1:=aG3;have w4:=I.w4;have w1:=I.w1;have N:B<=2^690:=aL Oo vM;obtain⟨ap,vp,rfl,hap,ω⟩:=nA rp;obtain⟨ac,rfl,hac⟩:=iL rc;obtain⟨aa,xb,xm,xc,rfl,η,rxb,rxm,rxc⟩:=ra;obtain⟨am,vm,rfl,φ,an⟩:=nA rxm;obtain⟨ak,vk,rfl,hak,rvk⟩:=rxc;have lvp:vp.length=W:=by rw[gE ω,I.pl]
 have lvm:vm.length=W:=by rw[gE an,I.ml]
 refine⟨_,(aH (iV (i:=5) (dD.o ["way","trial","counts"] [0,3]) LE.nd rfl rfl (Y7b (Y5C FQ71)) Ybg (λ_ _ _ _=>lU FQ72 Y0w Y0H Y0c))
  (aH (rS (i:=6) (eK.o ["price","one"] ["price","one"] []) LE.nd rfl rfl (kZ true false rfl T.b_zip (Y1Y 2 Y2b)) Ybg (λ_ _ _ _=>Y1v FQ67 0 1))
  (aH (Y3e 7 LE.nd (fV FQ69 (aD 6)))
  (aH (iV (i:=8) (dD.o ["due","all_dues"] [7]) LE.nd rfl rfl (eJ (aD 6)) Ybg (λ_ _ _ _=>Y1v FQ43 1 0))
  (aH (Yka 9 (YeJ (AW K rfl) (by rfl) Kk 3))
  (aH (BC (iM (eC xC (aD 9) Y26) (aH (Yka 10 (fV FQ69 (Y7d ["share","one"] ["share","one"] [] (kZ true false rfl T.b_zip (Y2x Y26 Y2b)) (Y1v FQ67 0 1))))
  (aH (Yka 11 (fV FQ69 (Y6Z ["more","worth_of"] [4] (eJ (YeX 3)) (gY hr.u1 Y0w Y0H))))
  (aS (Y9h (aD 8) (Y2R FQ55 (Y2R FQ67 (Y5q Y26 (aD 9)) 10) 11))))) fJ))
  (Y2g 8))))))),?_⟩
 refine Yo;intro τ ρ;refine Y5 (jS.i rt ?_);rw[lws];refine Y98 _ Oo Oo (Yc2 (i<W/\AY K H' (oA ((l.getD i []).zip c)) y) (λi y H1 H2 s ⟨J,X⟩=>⟨J,X.t s⟩) Oo (λi H' Q' a u O=>?_) (λD5 υ H5 hD5 e5 s5 hz5 al=>?_))
 ·rw[Int.zero_add];have a:i<W:=Oo;obtain⟨x,D⟩:∃x,ws[i]?=Yb:=Y7w;refine Y42;refine jR.i (rt.same u) D (rc.same u) (hb x (aE D)) (by have:=I.m5;exact Oo) λy H6 s6 r6=>O _ H6 s6 (Y0j a);have e:l.getD i []=x.2:=iQ (by rw[<-hss,aG,D];rfl);rw[e];exact r6
 have lz:υ.length=W:=Oo;refine Ys;intro τ ρ;refine⟨_,rfl,_,rfl,ap,D5,vp,υ,rfl,s5 _ _ hap,e5,jU (xs:=vp) (ys:=υ) (λi y H'=>i<W/\dL H' (jA (kR l r c i)) y) (λi y H1 H2 s ⟨J,X⟩=>⟨J,YgR s⟩) Oo (s5 _ _ hap) e5 Oo (λi x y H' Q' D hy u O=>?_) (λD6 us H6 hD6 e6 s6 hu6 hr6=>?_)⟩
 ·obtain⟨f1,δ,θ⟩:=ω.atI D;obtain⟨a,fy⟩:=al i y hy;have ψ:r.getD i (0,1)=f1:=iQ δ;refine Y01;have ι:=RJ I a;rw[ψ]at ι;refine eN.i (iI.of (θ.same (s5.trans u))) (fy.same u).v ι.low (vE I a c) (iS I ι N) (Y9i (AX I a C) Dd) ?_;intro q7 H7 hq7 e7 L;refine O _ H7 L ⟨a,Y9m⟩;rw[e7];unfold kR;rw[ψ]
 have r6:bJ H6 (((List.range W).map (kR l r c)).map jA) us:=YbL hr6;refine Ys;intro τ ρ;have S6:=Ykb;obtain⟨tl,tvq⟩:=Yjd W (kR l r c) ((rN I a c).1);have dn:∀g∈(List.range W).map (kR l r c),Y2K ν ξ μ ο B g:=λg z=>by
  obtain⟨i,a,rfl⟩:=aN.mp z;exact IC I (Y7k) C
 refine Y7;refine Yc3 e6 r6 (DM I dn (by rw[aA,aV];exact Oo) N) (λv7 H7 L r7=>Ys);intro τ ρ;have tn:=Fn.tot _ dn;rw[aA,aV]at tn;have wB:W*B<=4*B:=Y2a w4;generalize htot:rX ((List.range W).map (kR l r c))=tot at r7 tl tvq tn;refine Y9G D6 _ (L _ _ e6) (Yet (i<W/\dL H' (jA (Y3T tot (kR l r c i))) y) (λi y H1 H2 s ⟨J,X⟩=>⟨J,YgR s⟩) Oo (L _ _ e6) (λi x H' Q' D u O=>?_) (λD8 ys H8 hD8 e8 s8 hy8 hr8=>?_))
 ·obtain⟨a,rx⟩:=hr6 i x D;refine Y0g (kE.i (iI.of (r7.same u)) (iI.of (rx.same (L.trans u))) tl (rN I a c).1 (iS I tn (aL Oo vM)) (iS I (IC I a C) N) ?_);intro q9 H9 hq9 e9 s9;exact O _ H9 s9 ⟨a,fL e9⟩
 have r8:bJ H8 (((List.range W).map λi=>gS tot (kA (kR l r c i))).map jA) ys:=YbL hr8;refine Ys;intro τ ρ;have sv:((List.range W).map λi=>gS tot (kA (kR l r c i))).map rv=oC W λv=>cS r v*hZ l v c:=by
  unfold oC;rw[List.map_map];refine fN Yeg;have a:=Y7k;obtain⟨d1,d2⟩:=rN I a c;show rv (Y3T tot (kR l r c i))=_;rw[nB tl.pos (xE d1).pos,show kA (kR l r c i)=(-(kR l r c i).1,(kR l r c i).2)from rfl,GP,tvq,d2,<-Rat.sub_eq_add_neg];congr 1;exact bT λj hj=>(rN I hj c).2
 have sn:∀g∈(List.range W).map (λi=>gS tot (kA (kR l r c i))),Y2K ν ξ μ ο (W*B+B) g:=λg z=>by
  obtain⟨i,a,rfl⟩:=aN.mp z;exact tn.add (IC I (Y7k) C).neg
 have S8:=(S6.trans L).trans s8;have Z:H D8=none:=(S6.trans L).free hD8;refine Y5 (YgL (ci c) (by rw[fM];exact jV.of (S8 _ _ hac)));rw[HV];refine Y43 (λσ H'=>∃(o10 o11:Am) (xs:Al) (gs:Ak),σ=[YeZ,Y6 aa,Y6 ap,Y6 ac,Y3j,Y6 D5,Y6 D6,some v7,Y6 D8,Yd ((c.sum:Nat):Int),o10,o11]/\Y1/\H' D8=Y0A/\Y3M (gs.map jA) xs/\aG4 (oN M ν ξ μ ο) (smQ W F (hZ l) (cS m) (cS r) (cS G) (Y2q) c) gs)
 ·rintro σ H9 ⟨o10,o11,xs,gs,rfl,S9,e9,r9,ok9⟩;exact Y5 (k D8 xs gs H9 S9 Z e9 r9 ok9)
 refine Y8R (S8 _ _ η);refine Y3t _ _ rfl _ rfl (xH (Yc9) (Yc9))
 ·have R:Y1z:=Oo;refine Yo;intro τ ρ;have S86:aT H5 H8:=(s6.trans L).trans s8;refine Y0u (S8 _ _ η);refine⟨_,rfl,am,D5,vm,υ,rfl,S8 _ _ φ,S86 _ _ e5,jU (xs:=vm) (ys:=υ) (λi y H'=>i<W/\dL H' (jA (kR l m c i)) y) (λi y H1 H2 s ⟨J,X⟩=>⟨J,YgR s⟩) Oo (S8 _ _ φ) (S86 _ _ e5) Oo (λi x y H' Q' D hy u O=>?_) (λD9 us9 H9 hD9 e9 s9 hu9 hr9=>?_)⟩
  ·obtain⟨f1,δ,θ⟩:=an.atI D;obtain⟨a,fy⟩:=al i y hy;have ψ:m.getD i (0,1)=f1:=iQ δ;refine Y01;have ι:=IA I a;rw[ψ]at ι;refine eN.i (iI.of (θ.same (S8.trans u))) (fy.same (S86.trans u)).v ι.low (vE I a c) (Y9i ι Dd) (Y9i (AX I a C) Dd) ?_;intro q7 H7 hq7 e7 L;refine O _ H7 L ⟨a,Y9m⟩;rw[e7];unfold kR;rw[ψ]
  have r9:bJ H9 (((List.range W).map (kR l m c)).map jA) us9:=YbL hr9;have S9:=S8.trans s9;obtain⟨ml,mv⟩:=Yjd W (kR l m c) ((rM I a c).1);have mn:∀g∈(List.range W).map (kR l m c),Y2K ν ξ μ ο 1 g:=λg z=>by
   obtain⟨i,a,rfl⟩:=aN.mp z;exact LK I (Y7k) C
  refine Yc3 e9 r9 (DM I mn (by rw[aA,aV];exact Oo) (aL Dd qJ)) (λv10 H10 s10 χ=>Ys);intro τ ρ;have ζ:=Fn.tot _ mn;rw[aA,aV]at ζ;generalize hmet:rX ((List.range W).map (kR l m c))=met at χ ml mv ζ;have S10:=S9.trans s10;refine Y7;refine fU.i (rc.same S10) (by have:=I.f4;exact Oo) λD11 ms H11 hD11 ae r11 γ=>?_;have S11:=S10.trans γ;have lms:ms.length=F:=by rw[r11.len,aA,aA,aV,ah]
  refine Y1h D11 ae (Yet (i<F/\dL H' (jA (wvF F W M l m r G (cH c i))) y) (λi y H1 H2 s ⟨J,X⟩=>⟨J,YgR s⟩) (by have:=I.f4;exact Oo) ae (λi x H' Q' D u O=>?_) (λD12 us H12 hD12 e12 β hy12 ab=>?_))
  ·obtain⟨d,hd,rd⟩:=eW r11 D;have a:i<F:=by rw[<-lms];exact(aB.mp D).1
   have ed:d=cH c i:=by
    rw[aG,bP Oo]at hd;simpa using hd.symm
   subst ed;obtain⟨ad,rfl,had⟩:=iL (rd.same u);obtain⟨v,hv,rvv⟩:=kn R i a;refine Y0g (NQ ((S11.trans u) _ _ hp) (by rw[fM];exact had) hv ?_);exact O _ H' (Y09) ⟨a,rvv.same (S11.trans u)⟩
  have r12:bJ H12 (((List.range F).map λi=>wvF F W M l m r G (cH c i)).map jA) us:=YbL ab;have S12:=S11.trans β;have wn:∀g∈(List.range F).map (λi=>wvF F W M l m r G (cH c i)),Y2K ν ξ μ ο (8^(Y2q)*B) g:=λg z=>by
   obtain⟨i,a,rfl⟩:=aN.mp z;have a:=Y7k;refine Qn.fq ?_;have bs:=Yjj c i;have:=I.worn (M-(cH c i).sum) (cH c i) (by rw[rL];exact ah) Oo;rw[show M-(cH c i).sum+1=M-c.sum by exact Oo]at this;exact this
  have b8:8^(Y2q)*B<=WB:=by
   have:=RM I (n:=Y2q-1) (by have:=I.m5;exact Oo)
   rwa [show M-c.sum-1+1=M-c.sum by exact Oo]at this
  obtain⟨wl,wv⟩:=Yjd F (λi=>wvF F W M l m r G (cH c i)) Y00;refine Yc3 e12 r12 (DM I wn (by rw[aA,aV];have:=I.f4;exact Oo) (aL Oo vM)) (λv13 H13 ε ai=>?_);have S:=Fn.tot _ wn;rw[aA,aV]at S;generalize htw:rX ((List.range F).map λi=>wvF F W M l m r G (cH c i))=tw at ai wl wv S;have S13:=S12.trans ε;have S8_13:aT H8 H13:=((((s9.trans s10).trans γ).trans β).trans ε);obtain⟨vkk,hvk,rvkk⟩:=rvk.get (i:=c.sum) (f:=Ye0 (0,1)) (by rw[aR,aC (by rw[I.cl];exact R)];rfl);have cn:=RK I R;refine⟨_,rfl,UR (S8_13 _ _ e8),_,rfl,Y8e (S13 _ _ η)⟩;refine Y5 (lE (S13 _ _ hak) (eB hvk) ?_);refine Y7;have af:=I.paid R;have em:rv met=Y0q (cS m v*hZ l v c):=by rw[mv];exact bT λj hj=>(rM I hj c).2
  have vpd:rv (iG (Ye0 (0,1)) met)=cS G c.sum*Y0q (cS m v*hZ l v c):=by rw[jE cn.low.pos ml.pos,em];rfl
  have U:Y2K ν ξ μ ο (4*B) (iG (Ye0 (0,1)) met):=Qn.f (iF cn.low ml) (by rw[vpd];exact af);refine eN.i (rvkk.t S13.t).v (iI.of (((χ.same γ).same β).same ε)) cn.low ml (iS I cn N) (Y9i ζ Oo) ?_;intro q14 H14 hq14 e14 Y;refine Y7;have f4:=I.f4;have fB:F*(8^(Y2q)*B)<=4*(8^(Y2q)*B):=Y2a f4;refine kN.i (iI.new (f:=iG (Ye0 (0,1)) met) e14) (iI.of (ai.same Y)) U.low wl (iS I U (aL Oo vM)) (iS I S (aL Oo vM)) ?_;intro q15 H15 hq15 e15 κ;have α:=κ _ _ (Y _ _ (S8_13 _ _ e8));refine LJ α Oo λH16 e16 ag=>?_;have aj:=ag.t α;have S15:=(S13.trans Y).trans κ;refine⟨_,_,_,((List.range W).map λi=>Y3T tot (kR l r c i))++[gS (iG (Ye0 (0,1)) met) tw],rfl,aT.thru Z S15 ag,e16,?_,?_,?_,?_,?_⟩
  ·rw[bE];exact Yge (r8.flat (((S8_13.trans Y).trans κ).t.trans aj) (nX _)) aj Y2u (fL e15)
  ·obtain⟨n,hn⟩:∃n,Y2q=n+1:=Y1N (Y2q-1);rw[bE,sv,hn];show _=oC W (λv=>cS r v*hZ l v c)++[_];congr 1;rw[bH,List.map_nil];congr 1;rw[nB U.low.pos wl.pos,vpd,wv];congr 1;refine bT λj hj=>?_;rw[cV];unfold wor;rw[Y7M,show M-(c.sum+1)=n by exact Oo]
  ·intro g z;rcases dJ.mp z with z | z
   ·exact(sn g z).le Oo
   ·rw[cA.mp z];refine(U.add S).le ?_;have b9:=RM I (n:=Y2q) (by have:=I.m5;exact Oo);rw[Nat.pow_succ,Nat.mul_comm (8^_) 8,Nat.mul_assoc]at b9;have J:1<=8^(Y2q):=Nat.one_le_pow _ _ Dd;have hB:B<=8^(Y2q)*B:=Y9I J;exact Oo
  ·simp
  ·rw[aW,aA,aV];show W+1<=5;exact Oo
 ·have e0:Y2q=0:=Oo;refine⟨_,_,_,_,rfl,S8,e8,r8,?_,λg z=>(sn g z).le Oo,by rw[aA,aV];exact Oo,by rw[aA,aV];exact Oo⟩;rw[e0,sv];rfl
end
inductive qR (K:Aa):Yk
 | i {H:Hp} {Q:VK} {E:XK} {tv av pv:V} {fs:Ah} {ws:Y0v} {bs mix ps cs:Ak} {F W M Ns Nm Np Nc B:Nat} (h1:Yd9) (h0:Y63 F) (h2:Ybe) (h3:Y23 H ps pv) (I:lH F W M (Y0V) mix ps cs Ns Nm Np Nc B) (b:∀x∈ws,Y6r x.2) (k:Y4k (dL H' (woD (Y07) (wvF F W M (Y0V) mix ps cs)) v->Y1o)):qR K [tv,av,pv] H Q E
def BW:∀F,F<=4->∀M,M<=5->(Y07).length<=400:=λF a M c=>yX F a (M+1) Oo
section
def aHL(F:Ya "worths" "worths" aDo)(T:Ye)
  (FQ18:Y14 6 "all_counts" a49 uT) (FQ31:YaT "faces_of" kF) (FQ66:Y14 4 "sums_at" a08 (AC K)) (FQ41:Y2B "least_place" a27 qW):dO P w K mg base cW 7 f fd a41 (qR K):=by
 refine F.oky ZS λa H Q E h=>?_;obtain @⟨H,Q,E,tv,av,pv,fs,θ,bs,N,ps,cs,F,W,M,Ns,Nm,Np,Nc,B,rt,hF,ra,rp,I,hb,k⟩:=h;refine Y3 ?_;intro cdv A ξ s hr _;have f1:=I.f1;have f4:=I.f4;have m5:=I.m5;have ra0:=ra;obtain⟨aa,xb,xm,xc,rfl,haa,rxb,rxm,rxc⟩:=ra0;refine⟨_,(aH (Y15 ZS.nd (cL FQ18 (Y5C FQ31) (Y26)))
  (aH (Y3e 4 ZS.nd nM)
  (aH (gM PassesOwn.never rfl (VD rfl T.b_reversed (Y2L 3)) (Ybl 5 ZS.nd) (aH (YhM ZS.nd (tJ FQ66 (hr.mono Dd) (bA Y0H (bA Y0w (bA Y0c (bA Y2b (Y2L 4)))))))
  (aS (jC hr.u1 Y1j (aD 5) (Y5N 6 (fV FQ41 (aD 6)))))))
  (Y1k (Ydo dM (by rfl) Kk (Y1W (Y6Z ["counts","worth_of"] [4] (eJ (Y0h)) (dU (Y1Y 0 (gY hr.u1 Y0w Y0H)))))))))),?_⟩
 refine Yo;intro ω χ;refine Y5 (kF.i rt ?_);rw[hF];refine Y0u haa;refine uT.i f1 f4 m5 λR H1 s1 hR LR=>Ys;intro ω χ;obtain⟨a,S,μ,β⟩:=LR.len;have S:H1 R=Yq a:=S;have μ:bJ H1 ((rise F M).map vB) a:=μ;have β:a.length=(Y07).length:=β;have small:=BW F f4 M m5;intro p α;refine Ys;intro ω χ;have Y:=Y5R [] α;have e2:(upd H1 p (.dT [])) p=Y0a []:=bK;generalize upd H1 p (.dT [])=H2 at Y e2;have S2:=s1.trans Y;have υ:H p=none:=s1.free α;have ι:R≠p:=λz=>by rw[<-z,S]at α;cases α
 refine Y5p _ R a (gJ.of (Y _ _ S)) (QR (xs:=a) (Yjs (λ(ψ o6:Am) (u:List (List fQ × V))=>An6 (σ=[YeZ,Y6 aa,some pv,Y6 R,Y3j,ψ,o6]) (Y1) (H' R=Yq a) (Y3M ((rise F M).map vB) a) (Y34=Y0a u) (DW H' u ((rise F M).drop (a.length-i)) (wvF F W M (mP θ) N ps cs)))) ⟨_,_,[],rfl,S2,Y _ _ S,μ.same Y,e2,?_⟩ (Y9T) ?_ ?_)
 ·rw[Nat.sub_zero,β,List.drop_length];exact⟨λc G=>(by cases G),by simp⟩
 ·obtain⟨_,_,_,_,_,h,_⟩:=q;exact YaA
 ·rintro i x σ H3 hi κ ⟨ψ,o6,u,rfl,S3,r,m,ζ,D3⟩;refine Yaj;intro ω χ;obtain⟨c,G,γ⟩:=eW m κ;have J:=(gA f1).mp (aE G);have dl:=D3.len;rw[List.length_drop]at dl;refine⟨_,rfl,_,rfl,_,rfl,_,rfl,_,rfl,?_⟩;refine AC.i (rt.same S3) (ra.same S3) (rp.same S3) γ ζ I hb J.1 J.2 (λhlt j hj=>?_) λD xs gs H4 C hD ε r4 d=>?_
  ·have bs:=Yjj c j;have φ:Y3d Y33:=(gA f1).mpr (Y1N (by rw[rL];exact J.1));have:=tS G φ Oo;rw[show a.length-1-i+1=a.length-i by exact Oo]at this;exact D3.yes _ this
  have lg:∀g∈gs,dS g/\Y52 g:=λg δ=>⟨(d.n g δ).low,iS I (d.n g δ) (aL (Y9I Dd) vM)⟩;refine Y01;refine JB ε r4 lg d.l0 (by have:=d.l1;exact Oo) λpl y L=>?_;obtain⟨vy,τ,ry⟩:=kP r4 L.at_;refine xU ε (eB τ) ?_;have ey:y=wvF F W M (mP θ) N ps cs c:=by
   have e:=jI.min L λg δ=>(lg g δ).1;rw[d.v,<-VC]at e;rw[<-aFm (lg y (aE L.at_)).1,e];rfl
  obtain⟨ac,rfl,O⟩:=iL (γ.same C);refine Y01;have X:=C _ _ ζ;refine Y4v X c (by rw[fM];exact O) Oo (λH5 e5 ο=>?_);have t5:=aU.tT ο X;refine⟨_,_,_,rfl,aT.thru υ (S3.trans C) ο,ο.at ι (C _ _ r),Ye9 t5 _ (m.same C),e5,?_⟩;have hd:(rise F M).drop (a.length-(i+1))=c::(rise F M).drop (a.length-i):=by
   have hc':=aB.mp G;obtain⟨hc1,η⟩:=hc';rw[show a.length-(i+1)=a.length-1-i by exact Oo,List.drop_eq_getElem_cons hc1,η,show a.length-1-i+1=a.length-i by exact Oo]
  rw[hd];refine DW.t t5 (DW.put (DW.t C.t D3) ?_);rw[<-ey];exact ry
 ·rintro σ H3 ⟨ψ,o6,u,rfl,S3,r,m,ζ,D3⟩;rw[Nat.sub_self,List.drop_zero]at D3;refine Y9G R _ r (Yet (∃c,Y07[i]?=Y1b/\dL H' (.tuple [vB c,jA (wvF F W M (mP θ) N ps cs c)]) y) (λi y Ha Hb s ⟨c,h1,h2⟩=>⟨c,h1,h2.flat s (by show(kJ (vB c)&&(kJ (jA _)&&true))=true;rw[rG];rfl)⟩) Oo r (λi x H' Q' κ ρ k'=>?_) (λD U H4 hD ε C hy4 hr4=>?_))
  ·obtain⟨c,G,γ⟩:=eW m κ;obtain⟨v,hv,rvv⟩:=D3.yes c (aE G);have Z:=γ.same ρ;obtain⟨ac,rfl,O⟩:=iL Z;refine Y2k (Y5x (ρ _ _ ζ) c (by rw[fM];exact O) hv);exact qH (by show 2<=64;decide) λq5 H5 hq5 e5 ν=>k' _ H5 ν ⟨c,G,dL.tup e5 (bJ.cons (Z.same ν) (Ydr ((rvv.same ρ).same ν)))⟩
  ·refine Y7y D U ε;have sl:=Y5l U;have el:(upd H4 l (.tup U)) l=Ym U:=bK;generalize upd H4 l (.tup U)=H5 at sl el;refine k _ H5 ((S3.trans C).trans sl) (Yjr el (by rw[hy4,aA,β]) (λi y hi=>?_));obtain⟨c,h1,h2⟩:=hr4 i y hi;exact Y0C (by rw[aG,h1];rfl) (h2.same sl)
end
abbrev aEm:Stmt:=(top 86)
def aJt:Yg a00 a00 aEm:={}
abbrev aEj:Stmt:=(top 88)
def aJs:Yg a00 a00 aEj:={}
abbrev sQ5:Stmt:=(top 89)
def cQ5:Yg a00 a00 sQ5:={}
abbrev aEo:Stmt:=(top 87)
def aJv:Yg a00 a00 aEo:={}
inductive pD (K:Aa):Yk
 | i {H:Hp} {Q:VK} {E:XK} {x y:V} {f g:Fr} (h1:Y4f) (h2:iI K H g y) (l1:Y06) (l2:dS g) (z1:Y2U) (z2:Y52 g) (q:zY H Q (gS f g)):pD K [x,y] H Q E
inductive kO (K:Aa):Yk
 | i {H:Hp} {Q:VK} {E:XK} {x y:V} {f g:Fr} (h1:Y4f) (h2:iI K H g y) (l1:Y06) (l2:dS g) (z1:Y2U) (z2:Y52 g) (q:zY H Q (iG f g)):kO K [x,y] H Q E
section
def aIL(F:Ya "_law_plus" "_law_plus" aEm)(T:Ye)(FQ9:Y9e "_law_frac"):dO P w K mg base cW 2 f fd a00 (pD K):=by
 refine YfX aJt ?_;obtain @⟨H,Q,E,x,y,f,g,m,p,u,r,a,d,q⟩:=h;refine Y3 ?_;intro n A j s D _;obtain⟨C,rfl,l⟩:=m;obtain⟨B,rfl,e⟩:=p;refine Y3A (cL FQ9 (Y3F (Y4K 0 1) (Y4K 1 0)) (Y4K 0 1)) Y9q;refine Y3I;refine Y32 a.1 d.2 Y3I;refine Y9q;refine⟨_,_,rfl,rfl,lD d.1 a.2,_,_,rfl,rfl,Y9q⟩;refine Y3I;refine Y32 a.2 d.2 (fZ.i (Yj2 r.pos) (lL (BM a.2 d.2)) ?_);exact q
def aII(F:Ya "_law_times" "_law_times" aEj)(T:Ye)(FQ9:Y9e "_law_frac"):dO P w K mg base cW 2 f fd a00 (kO K):=by
 refine YfX aJs ?_;obtain @⟨H,Q,E,x,y,f,g,m,p,u,r,a,d,q⟩:=h;refine Y3 ?_;intro n A e s D _;obtain⟨C,rfl,l⟩:=m;obtain⟨B,rfl,j⟩:=p;refine Y3A (cL FQ9 (Y4K 0 1) (Y4K 0 1)) Y9q;refine Y9p;refine Y32 a.1 d.1 Y9q;refine Y9p;refine Y32 a.2 d.2 (fZ.i (Yj2 r.pos) (lL (BM a.2 d.2)) ?_);exact q
end
def aE2(f g:Fr):lw (f.1*g.2-g.1*f.2) (f.2*g.2)=Y3T f g:=by
 show _=lw (f.1*g.2 + -g.1*f.2) (f.2*g.2);rw[Int.neg_mul,Int.sub_eq_add_neg]
section
def aIN(F:Ya "_law_less" "_law_less" aEo)(T:Ye)(FQ9:Y9e "_law_frac"):dO P w K mg base cW 2 f fd a00 (kE K):=by
 refine YfX aJv ?_;obtain @⟨H,Q,E,x,y,f,g,m,p,u,r,a,d,q⟩:=h;refine Y3 ?_;intro n A j s D _;obtain⟨C,rfl,l⟩:=m;obtain⟨B,rfl,e⟩:=p;refine Y3A (cL FQ9 (cC pJ (Y4K 0 1) (Y4K 1 0)) (Y4K 0 1)) Y9q;refine Y3I;refine Y32 a.1 d.2 Y3I;refine Y9q;refine⟨_,_,rfl,rfl,lD d.1 a.2,_,_,rfl,rfl,Y9q⟩;refine Y3I;refine Y32 a.2 d.2 (fZ.i (Yj2 r.pos) (lL (BM a.2 d.2)) ?_);rw[aE2];exact q
end
section
def oQ5(F:Ya "_law_below" "_law_below" sQ5)(T:Ye):dO P w K mg base cW 1 f fd a00 (oO K):=by
 refine F.oky cQ5 λm H Q E h=>?_;obtain @⟨H,Q,E,x,y,f,g,⟨p,rfl,j⟩,⟨n,rfl,i⟩,d,e,q⟩:=h;refine Y3 ?_;intro l A a s r _;refine Y3A (oZ xC (Y4K 0 1) (Y4K 1 0)) Y9p;refine Y2M i;refine Y32 d.1 e.2 (Y2M i);refine Y9p;exact⟨_,_,rfl,rfl,lD e.1 d.2,_,_,rfl,rfl,q⟩
end
abbrev aD9:Stmt:=(top 57)
def aCj:Yg ["some","lower","one"] a27 aD9:={}
abbrev aDv:Stmt:=(top 58)
def aI8:Yg a45 a45 aDv:={}
inductive qZ (K:Aa):Yk
 | i {H:Hp} {Q:VK} {E:XK} {a:Addr} {xs:Al} {fs:Ak} {N:Nat} (h1:H a=Y0A) (h2:zD K H fs xs) (h3:0<N) (h4:N<Y0i) (h5:∀f∈fs,Y06/\f.2.natAbs ∣ N) (k:∀L:Nat,0<L->L ∣ N->(∀f∈fs,f.2.natAbs ∣ L)->Y1x (L:Int)):qZ K Y1O H Q E
section
def aIz(F:Ya "common_lower" "common_lower" aD9)(T:Ye)(FQ24:Y0k "common_divisor" a05 sV):dO P w K mg base cW 2 f fd a27 (qZ K):=by
 refine F.oky aCj λε H Q E h=>?_;obtain @⟨H,Q,E,a,xs,fs,N,G,J,I,nz,p,k⟩:=h;refine Y3 ?_;intro β A r s ι _;refine⟨_,(aH (Ycb aCj.nd aK)
  (aH (Y8t (eJ Y0H) (Ybl 2 aCj.nd) (Ycb aCj.nd (Y6u 1 (cC gF (Y0K 2) (cL FQ24 (aD 1) (Y0K 2))))))
  (Y2g 1))),?_⟩
 refine Yo;intro O ζ;refine Y9G a _ G (mG (xs:=xs) (YdL (λ(L:Nat) (u:Am)=>An5 (σ=[Y3i,Yd (L:Int),u]) (H'=H) (0<L) (L ∣ N) (∀f∈fs.take i,f.2.natAbs ∣ L))) (Y3t 1 _ rfl Dd (Nat.one_dvd _) (λf p=>by simp at p)) (Y9T) ?_ ?_)
 ·obtain⟨_,_,_,rfl,_⟩:=q;exact gJ.of G
 ·rintro i x σ H2 U ⟨L,u,rfl,rfl,m,l,n⟩;refine Y5b;intro O;obtain⟨g,z,θ,rfl,D⟩:=J.at_ i x U;obtain⟨δ,gN⟩:=p g (aE z);have W:=δ.pos;obtain⟨d,hd⟩:∃d:Nat,g.2=(d:Int):=Y1N g.2.toNat;have e:g.2.natAbs=d:=Oo;have y:0<d:=Oo;rw[e]at gN;have X:L<Y0i:=aI (kK I l) nz;have B:d<Y0i:=aI (kK I gN) nz;have R:(Int.gcd (L:Int) g.2)=(YhN d):=by rw[hd];rfl
  have η:0<YhN d:=Nat.gcd_pos_of_pos_left _ m;have α:YhN d<=d:=Nat.gcd_le_right _ y;refine Y9d D;refine Y9d D;refine sV.i W ?_;rw[R];have C:(2:Nat)^3000<=Y0J:=Y4q Dd;have Y:(2:Nat)^3000<=2^9000:=Y4q Dd;have S:(g.2/((Nat.gcd L d:Nat):Int)).natAbs<Y0J:=rY (by rw[e];exact aO B C) Oo;refine⟨_,_,rfl,rfl,qB Oo (by show(YhN d)<_;exact aI α (aO B Y)),_,_,rfl,rfl,lD (show(L:Int).natAbs<2^4000 from aO X C) S,?_⟩;have M:(L:Int)*(g.2/((Nat.gcd L d:Nat):Int))=((Nat.lcm L d:Nat):Int):=by
   rw[hd,<-Int.natCast_ediv,<-Int.natCast_mul];congr 1;unfold Nat.lcm;rw[Nat.mul_div_assoc _ (Nat.gcd_dvd_right L d)]
  refine Y3t (Nat.lcm L d) _ (by rw[<-M];rfl) (Nat.lcm_pos m y) (Nat.lcm_dvd l gN) (λγ j=>?_);rw[iB z]at j;rcases dJ.mp j with h | h
  ·exact Nat.dvd_trans (n γ h) (Nat.dvd_lcm_left _ _)
  ·rw[cA.mp h,e];exact Nat.dvd_lcm_right _ _
 ·rintro σ H2 ⟨L,u,rfl,rfl,m,l,n⟩;have Z:YjE:=J.len;rw[Z,dX]at n;exact Y5 (k L m l n)
end
inductive oS (K:Aa):Yk
 | i {H:Hp} {Q:VK} {E:XK} {x:V} {f:Fr} {U:Nat} (h1:Y4f) (h2:Y06) (h3:Y2U) (h4:U<Y0i) (h5:f.2.natAbs ∣ U) (k:∀n:Int,(n:Rat)=Y0D*(U:Rat)->Y1x n):oS K [x,.int (U:Int)] H Q E
section
def aHS(F:Ya "times_whole" "times_whole" aDv)(T:Ye):dO P w K mg base cW 1 f fd a45 (oS K):=by
 refine F.oky aI8 λy H Q E h=>?_;obtain @⟨H,Q,E,x,f,U,⟨z,rfl,j⟩,p,g,m,hd,k⟩:=h;refine Y3 ?_;intro n A d s D _;have a:=p.pos;obtain⟨r,e⟩:=hd;have u:(2:Nat)^3000<=Y0J:=Y4q Dd;have i:(U:Int)=f.2*(r:Int):=by
  rw[e,Int.natCast_mul];congr 1;exact Oo
 refine Y3A (cC dH (Y0K 0) (cC gF (aD 1) Y2C)) Y9p;refine Y9d j;refine⟨_,_,rfl,rfl,qB a (lL g.2),_,_,rfl,rfl,lD g.1 (rY (show(U:Int).natAbs<2^4000 from aO m u) a),k _ ?_⟩;rw[i,Y49];have B:=pG a;have C:=lF a;have l:(U:Rat)=(f.2:Rat)*((r:Int):Rat):=by
  rw[<-Rat.intCast_mul,<-i];rfl
 rw[l,Rat.intCast_mul];grind
end
abbrev aD0:Stmt:=(top 59)
def aCe:Yg ["rising","some","unit","table","counts","one"] a42 aD0:={}
structure DI(kvs:Yu)(rs:Ab)(h:Yz):Prop where
 yes:∀c∈rs,∃n:Int,Y7T=Yd n/\(n:Rat)=h c
 no:∀c,c ∉ rs->Y7T=none
 len:Y5Y rs.length
def DI.put{kvs:Yu}{rs:Ab}{h:Yz}(D:DI kvs rs h){c:Ae}{n:Int}(e:(n:Rat)=h c):DI (Y8A c Y4G) (rs++[c]) h:=by
 refine Y0n Ye2 Ye2
 ·rw[iD];by_cases q:d=c
  ·subst q;rw[Yr];exact Yx n e
  ·rw[Y1Z (q (Y60 z))];rcases dJ.mp hd with hd | hd
   ·exact D.yes d hd
   ·exact Ygq hd q
 ·rw[iD,Y1Z (hd (bL _ (cA.mpr (Y60 z))))];exact D.no d λz=>hd (cO _ z)
 ·have:=Y5f kvs c (V.int n);have:=D.len;rw[aW,List.length_singleton];exact Oo
inductive pE (K:Aa):Yk
 | i {H:Hp} {Q:VK} {E:XK} {a b:Addr} {rs:Ab} {ys:Al} {g:Ae->Fr} {U:Nat} (h1:nY H a rs) (h2:H b=Y05) (h3:zZ K H (rs.map g) ys) (h4:rs.length<=400) (h5:U<Y0i) (h6:∀c∈rs,dS (g c)/\Y52 (g c)/\(g c).2.natAbs ∣ U) (k:∀p kvs H',Y1->H p=none->Y34=Y10->DI kvs rs (λc=>rv (g c)*(U:Rat))->Y4Y p):pE K [Yf,Y0e,.int (U:Int)] H Q E
section
def aIp(F:Ya "in_units" "in_units" aD0)(T:Ye)(FQ68:Y0k "times_whole" a45 (oS K)):dO P w K mg base cW 2 f fd a42 (pE K):=by
 refine Y0P aCe;obtain @⟨H,Q,E,a,b,G,ys,g,U,LS,B,X,l4,μ,τ,k⟩:=h;refine Y3 ?_;intro ψ A I s υ _;obtain⟨xs,u,β,lx⟩:=LS.len;refine⟨_,(aH (Y15 aCe.nd nM)
  (aH (Y8t (Ycq 0 Y0w) (Y7m 4 aCe.nd 5 aCe.nd lK) (jC υ.u1 Y0h (aD 4) (Y1v FQ68 5 2)))
  (Y2g 3))),?_⟩
 refine Yo;intro κ n_;intro p l;have e:=Y5R [] l;have J:(upd H p (.dT [])) p=Y0a []:=bK;generalize upd H p (.dT [])=H1 at e J;have S:a≠p:=λz=>by rw[z,l]at u;cases u
 have N:b≠p:=λz=>by rw[z,l]at B;cases B
 refine Y0g (Y1e a b xs ys (e _ _ u) (e _ _ B) (YfD xs ys (∃(W L:Am) (d:Yu),σ=[Y3i,Y6 b,Yd (U:Int),Y3j,W,L]/\aU p H1 H'/\Y34=Y0a d/\DI d (G.take i) (λc=>rv (g c)*(U:Rat))) (Y3t _ _ [] ((Y09).but) J ⟨λc r=>by simp at r,λc _=>rfl,Y0l⟩) (λi σ H' ⟨_,_,_,_,Y,_⟩=>?_) ?_ ?_))
 ·exact⟨Y.at S (e _ _ u),Y.at N (e _ _ B)⟩
 ·rintro i y z Z σ H3 H4 θ γ ⟨W,L,d,rfl,C,O,D3⟩ δ φ D;obtain⟨M,r,ε⟩:=eW β θ;obtain⟨η,m,fw⟩:=X.at_ i z γ;have ι:η=g M:=by rw[aG,r]at m;simpa using m.symm
  subst ι;obtain⟨ω,ρ,χ⟩:=τ M (aE r);have ζ:fF H1 H3:=aU.tT C J;have j:fF H H4:=(e.t.trans ζ).trans D.t;obtain⟨ac,rfl,R⟩:=iL (ε.flat j (rG _));refine⟨Z,_,rfl,jV.of φ,rfl,_,_,rfl,_,_,rfl,rfl,Y2i⟩;intro κ;refine Y01;refine oS.i (fw.t j).v ω ρ μ χ λn ο=>Y01;have ξ:=D3.len;rw[gB]at ξ;refine Y4v (D _ _ O) M (by rw[fM];exact R) Oo (λH5 ν α=>Y3t _ _ _ ((C.trans D.but).trans α) ν ?_);rw[iB r];exact D3.put ο
 ·rintro σ H3 ⟨W,L,d,rfl,C,O,D3⟩;have ly:Y72 G.length:=by rw[X.len,aA]
  rw[show min xs.length ys.length=G.length by exact Oo,dX]at D3;exact Y5 (k p d H3 (aT.thru l e C) l O D3)
end
abbrev aDS:Stmt:=(top 60)
def aGV:Yg ["trial","aim","counts","met"] a43 aDS:={}
def CH(W:Nat)(ss:Aj)(mix cs:Ak)(c:Ae):Rat:=Y8B*Y0d (Y7Y*Y6e w)
def IB{F W M:Nat}{ss:Aj}{mix ps cs:Ak}{Ns Nm Np Nc B:Nat}(I:lH F W M ss mix ps cs Ns Nm Np Nc B){c:Ae}(hc:Y1z):Y2K Ns Nm Np Nc (B*4) (eV (Y9j W c)):=by
 have e:=(I.co _ (eO (a:=(0,1)) (show c.sum<cs.length by rw[I.cl];exact hc))).q;have h:=Ygb (λw g=>I.met g (Nat.le_of_lt hc));have d:=(e.mul h).le (dI B (show W*1<=4 by have:=I.w4;exact Oo));exact(d.dvd ⟨Np,by unfold oN;ac_rfl⟩).fq
inductive pV (K:Aa):Yk
 | i {H:Hp} {Q:VK} {E:XK} {tv av cv:V} {fs:Ah} {ws:Y0v} {bs mix ps cs:Ak} {c:Ae} {F W M Ns Nm Np Nc B:Nat} (h1:Yd9) (h2:Ybe) (h3:Y3Y H c cv) (I:lH F W M (Y0V) mix ps cs Ns Nm Np Nc B) (b:∀x∈ws,Y6r x.2) (hc:Y1z) (k:Y4k (Y7G (CH W Y0V mix cs c) v->Y1o)):pV K [tv,av,cv] H Q E
section
def aIg(F:Ya "look_cost" "look_cost" aDS)(T:Ye)(FQ67:Y6b 2 "times" K)(FQ72:Y2t "weight" a06 (jR K))(FQ71:YaT "ways_of" jS)(FQ69:Y2t "total" a27 (jO K)):dO P w K mg base cW 4 f fd a43 (pV K):=by
 refine Y0P aGV;obtain @⟨H,Q,E,tv,av,cv,fs,j,bs,a,ps,L,d,F,W,M,φ,χ,υ,ψ,B,rt,ra,ω,I,ρ,N,k⟩:=h;refine Y3 ?_;intro cdv A X s hr _;obtain⟨aa,xb,xm,xc,rfl,C,rxb,μ,ε⟩:=ra;obtain⟨am,vm,rfl,R,ζ⟩:=nA μ;obtain⟨ac,vc,rfl,ο,Y⟩:=ε;obtain⟨cu,rfl,O⟩:=iL ω;have wl:j.length=W:=by have:=I.sl;rw[aA]at this;exact this
 have w4:=I.w4;have m5:=I.m5;refine⟨_,(aH (iV (i:=3) (dD.o ["way","trial","aim","counts"] [0,1,2]) aGV.nd rfl rfl (Y7b (Y5C FQ71)) Ybg (λ_ _ _ _=>cL FQ67 (bQ (iA K) (Y6s 2) (Y0H)) (lU FQ72 Y0w Y0H Y0h)))
  (Y1k (cL FQ67 (Y5q Y26 (YeJ (AW K rfl) (by rfl) Kk 2)) (fV FQ69 (aD 3))))),?_⟩
 refine Yo;intros;refine Y5 (jS.i rt ?_);rw[wl];refine Y98 _ Oo Oo (Yc2 (i<W/\dL H' (jA (kR (mP j) a d i)) y) (λi y H1 H2 s ⟨h1,h2⟩=>⟨h1,h2.flat s (Y2u)⟩) Oo (λi H' Q' e m k'=>?_) (λD ys H1 hD e1 l hy ι=>?_))
 ·have e:i<W:=Oo;obtain⟨x,S⟩:∃x,j[i]?=Yb:=Y40 (by rw[wl];exact e);have ξ:=aE S;obtain⟨g,hg⟩:∃g,a[i]?=some g:=Y40 (by rw[I.ml];exact e);obtain⟨vg,β,δ⟩:=kP ζ hg;rw[Int.zero_add];refine Y0u (m _ _ C);refine Y5 (lE (m _ _ R) (eB β) ?_);refine Y42;refine jR.i (rt.same m) S (ω.same m) (ρ x ξ) Oo λxw H2 z fw=>?_;have τ:a.getD i (0,1)=g:=iQ hg;have ex:(mP j).getD i []=x.2:=iQ (by rw[aG,S];rfl);have κ:=IA I e;have θ:=AX I e (Nat.le_of_lt N);rw[τ]at κ;rw[ex]at θ;refine eN.i (iI.of ((δ.same m).same z)) fw.v κ.low θ.low (Y9i κ (show 1<=1000000000000 by decide)) (Y9i θ (show 1<=1000000000000 by decide)) λq3 H3 γ ν Z=>k' _ H3 (z.trans Z) ⟨e,Y9m⟩;unfold kR;rw[ν,τ,ex]
 have r1:bJ H1 (((List.range W).map (kR (mP j) a d)).map jA) ys:=YbL ι;have fl:∀f∈(List.range W).map (kR (mP j) a d),Y2K φ χ υ ψ 1 f:=λf hf=>by
  obtain⟨i,e,rfl⟩:=aN.mp hf;exact LK I (cD.mp e) (Nat.le_of_lt N)
 obtain⟨α,η⟩:=AJ (n:=W) (g:=kR (mP j) a d) λi e=>(rM I e d).1;have tn:Y2K φ χ υ ψ 4 (rX ((List.range W).map (kR (mP j) a d))):=by
  have:=Fn.tot _ fl;rw[aA,aV]at this;exact YkF
 obtain⟨U,p⟩:∃g,L[d.sum]?=some g:=Y40 (by rw[I.cl];exact N);obtain⟨vgc,r,J⟩:=Y.get p;have G:L.getD d.sum (0,1)=U:=iQ p;have u:=RK I N;rw[G]at u;refine Y0u (l _ _ C);refine Y5 (YgL (ci d) (by rw[fM];exact jV.of (l _ _ O)));rw[HV];refine lE (l _ _ ο) (eB r) Y7;refine Yc3 e1 r1 (xQ fl I.pos I.sz (by rw[aA,aV];exact Oo) (aL (show 1<=1000000000000 by decide) qJ)) (λv2 H2 z r2=>?_);have hB:=I.b;refine eN.i (((J.t l.t).t z.t).v) (iI.of r2) u.low α (iS I u (aL (show B<=4*WB by exact Oo) vM)) (Y9i tn (show 4<=1000000000000 by decide)) λq3 H3 γ ν Z=>k _ H3 ((l.trans z).trans Z) (Y9m);rw[ν];have em:iG U (rX ((List.range W).map (kR (mP j) a d)))=eV (CH W (mP j) a L d):=iK (iF u.low α) (Y00) (by
  rw[jE u.low.pos α.pos,cV,η];unfold CH;rw[show cS L d.sum=rv U by unfold cS;rw[G]];congr 1;exact bT λi e=>(rM I e d).2)
 rw[em]
end
theorem QN{H:Hp}:∀{P:YaF Fr}{ys:Al},(∀(i:Nat) (y:V),Y19=Y03->∃f,Y4S f y/\P i f)->∃fs:Ak,Y63 ys.length/\Y5J jA ys/\∀(i:Nat) (f:Fr),fs[i]?=Y5h->P i f
 | P,[],_=>⟨[],rfl,bJ.nil,λi f h=>by simp at h⟩
 | P,y::ys,h=>by
  obtain⟨f,h1,h2⟩:=h 0 y rfl;obtain⟨fs,d,c,e⟩:=QN (P:=λi=>P (i+1)) (ys:=ys) λi z j=>h (i+1) z (by simpa using j);refine⟨f::fs,by rw[cK,cK,d],bJ.cons h1 c,λi g a=>?_⟩;cases i with
  | zero=>cases(show f=g by simpa using a);exact h2
  | succ i=>exact e i g (by simpa using a)
def qF{fs:Ak}{i:Nat}{f:Fr}(h:fs[i]?=Y5h):Y5z i=Y0D:=by unfold cS;rw[iQ h]
def pS{fs:Ak}{i:Nat}(h:Yc4 i):Y5z i=0:=by
 unfold cS;rw[aR,cB h];exact oP
def VN{N B:Nat}{fs:Ak}(h:∀f∈fs,xR N B f)(i:Nat):0<=Y5z i:=by
 by_cases hi:Yak i
 ·have:=h _ (eO (a:=(0,1)) hi);exact PF this.1.low this.2
 ·rw[pS Oo];exact Rat.le_refl
def aEt{ss:Aj}(h:∀s∈ss,∀f∈s,Y06/\0<=f.1)(v:Nat)(c:Ae):0<=Y5v:=by
 unfold hZ;by_cases hv:v<ss.length
 ·exact aCA (h _ (eO hv))
 ·rw[aR,Y9l];exact aCA λf a=>by cases a
def TrC.b{F W:Nat}{fs:Ah}{ws:Y0v}(T:TrC F W fs ws):∀x∈ws,Y6r x.2:=λx c =>
 ⟨λf a=>((T.sh x c).at f a).1.low,λf a=>by have:=(T.sh x c).bits f a;show f.1.natAbs<=1024;exact Oo,λf a=>by have:=(T.sh x c).bits f a;show f.2.natAbs<=1024;exact Oo⟩
def TrC.nn{F W:Nat}{fs:Ah}{ws:Y0v}(T:TrC F W fs ws)(v:Nat)(c:Ae):0<=hZ (Y0V) v c:=aEt (λs e=>by
 obtain⟨x,d,rfl⟩:=aN.mp e;exact λf a=>⟨((T.sh x d).at f a).1.low,((T.sh x d).at f a).2⟩) v c
def NL{α:Type}(l:Yt):l.filter (YkB)=l:=List.filter_eq_self.mpr λ_ _=>rfl
def MX{H:Hp}{α:Type}{g:α->Fr}{as:Yt}{ys:Al}(pr:Paired (λa y=>Y4S (g a) y) as ys):Y1g ((as.map g).map jA) ys:=by
 rw[List.map_map];exact Paired.toRepL pr
section
variable{H H':Hp}{tv av pv:V}{fs:Ah}{ws:Y0v}{bs mix ps cs:Ak}{F W M:Nat}
end
abbrev sQ3:Stmt:=(AS (top 56) 0)
def cQ3:Yg ["self","trial","aim","way","weights","ahead","costs"] a21 sQ3:={}
def Fn.dn{N B:Nat}{f:Fr}(h:Y2p)(hN:0<N):f.2.natAbs ∣ N:=by
 obtain⟨x,rfl,_⟩:=h.eq hN;unfold lw;show((N:Int)/((Int.gcd x (N:Int):Nat):Int)).natAbs ∣ N;rw[<-Int.natCast_ediv,Int.natAbs_natCast];refine Nat.div_dvd_of_dvd ?_;have:=Int.gcd_dvd_right (a:=x) (b:=(N:Int));exact Int.ofNat_dvd.mp this
def lkS{fl:Y3k}{f:Str}{v:V}:(eT f v fl).lookup f=Yn:=by rw[fC,Yr]
def lkN{fl:Y3k}{f g:Str}{v u:V}(h:g≠f)(l:fl.lookup g=Yl):(eT f v fl).lookup g=Yl:=by rw[fC,Y4A];exact l
def aU.tI{H H':Hp}{x C dx:Addr}{fl:Y3k}(s:Y56 x)(hx:H x=some (.ins C dx fl)):Y28:=Ygz (sX h hx (by intro z;cases z)) h
def nY.but{H H':Hp}{x C dx:Addr}{fl:Y3k}{a:Addr}{cs:Ab}(s:Y56 x)(hx:H x=some (.ins C dx fl))(h:nY H a cs):Y4g a cs:=by
 obtain⟨d,c,e⟩:=h;exact⟨d,s.at (sX c hx (by intro z;cases z)) c,e.flat (YeV s) (mH _)⟩
def nY.butL{H H':Hp}{x:Addr}{xs:Al}{a:Addr}{cs:Ab}(s:Y56 x)(hx:H x=Y0A)(n:a≠x)(h:nY H a cs):Y4g a cs:=by
 obtain⟨c,d,e⟩:=h;exact⟨c,s.at n d,e.flat (s.t hx) (mH _)⟩
def vN(H:Hp)(tas:Y0m)(ss:Aj)(rs:Ab)(us:Ae):Prop:=tas.length=us.length/\∀(i:Nat) (ta:Addr) (u:Nat),tas[i]?=some ta->Y4P=Yl->∃kvs,H ta=Y10/\DI kvs rs (λc=>Y6e i*(u:Rat))
def vN.mono{H H':Hp}{tas:Y0m}{ss:Aj}{rs:Ab}{us:Ae}(s:∀b kvs,H b=Y10->Y1p=Y10)(h:vN H tas ss rs us):vN H' tas ss rs us:=⟨h.1,λi g u c d=>by
 obtain⟨kvs,e,a⟩:=h.2 i g u c d;exact⟨kvs,s _ _ e,a⟩⟩
def vN.snoc{H:Hp}{tas:Y0m}{ss:Aj}{rs:Ab}{us:Ae}{p:Addr}{u:Nat}{kvs:Yu}(h:vN H tas ss rs us)(hp:H p=Y10)(D:DI kvs rs (λc=>Y6e us.length*(u:Rat))):vN H (tas++[p]) ss rs (us++[u]):=by
 refine⟨by rw[aW,aW,h.1];rfl,λi j v d a=>?_⟩;by_cases q:i<us.length
 ·rw[cN (by rw[h.1];exact q)]at d;rw[cN q]at a;exact h.2 i j v d a
 ·have e:=(Y8M).1;rw[aW,List.length_singleton]at e;have g:i=us.length:=Oo;subst g;rw[cF (Yy),Nat.sub_self]at a;rw[cF (by rw[h.1];exact Yy),h.1,Nat.sub_self]at d;cases d;cases a;exact⟨kvs,hp,D⟩
def ahd(F M:Nat):Ab:=(rise F M).filter λc=>Y1c c.sum M
structure zW(H:Hp)(x C:Addr)(F W M:Nat)(ss:Aj)(mix cs:Ak)(us:Ae)(cu:Nat):Prop where
 ul:Y9r
 ex:∃(dx:Addr) (fl:Y3k) (ra ua wa ca:Addr) (tas:Y0m) (kvs:Yu),H x=some (.ins C dx fl)/\fl.lookup ("rising" : Str)=Y6 ra/\fl.lookup ("units" : Str)=Y6 ua/\fl.lookup ("weights" : Str)=Y6 wa/\fl.lookup ("cost_unit" : Str)=Yd (cu:Int)/\fl.lookup ("costs" : Str)=Y6 ca /\
  nY H ra (Y07)/\H ua=Yq (us.map FN)/\H wa=Yq (tas.map V.ref)/\vN H tas ss (Y07) us/\H ca=Y10/\DI kvs (Y5A) (λc=>Y9j W c*(cu:Rat))
theorem zW.same{H H':Hp}{x C:Addr}{F W M:Nat}{ss:Aj}{mix cs:Ak}{us:Ae}{cu:Nat}(s:Y1)(h:zW H x C F W M ss mix cs us cu):zW H' x C F W M ss mix cs us cu:=by
 obtain⟨p,J,B,j,G,u,i,a,c,I,A,m,r,D,l,y,n,w,z,d,e⟩:=h;exact⟨p,J,B,j,G,u,i,a,c,s _ _ I,A,m,r,D,l,y.same s,s _ _ n,s _ _ w,z.mono λb k g=>s _ _ g,s _ _ d,e⟩
structure IE(bs:Ak)(N:Nat)(us:Ae):Prop where
 d:∀u∈us,0<u/\u ∣ N
 b:∀(i:Nat) (f:Fr) (u:Nat),bs[i]?=Y5h->Y4P=Yl->f.2.natAbs ∣ u
def IE.snoc{bs:Ak}{N U:Nat}{us:Ae}{g:Fr}(h:IE bs N us)(hb:bs[us.length]?=some g)(u0:0<U)(uN:U ∣ N)(hd:g.2.natAbs ∣ U):IE bs N (us++[U]):=by
 refine⟨λu a=>?_,λi f u c a=>?_⟩
 ·rcases dJ.mp a with a | a
  ·exact h.d u a
  ·rw[cA.mp a];exact⟨u0,uN⟩
 ·by_cases l:i<us.length
  ·rw[cN l]at a;exact h.b i f u c a
  ·have e:i=us.length:=by
    have:=(Y8M).1;rw[aW,List.length_singleton]at this;exact Oo
   subst e;rw[cF (Yy),Nat.sub_self]at a;rw[hb]at c;cases a;cases c;exact hd
structure aG2(ws:Y0v)(bs:Ak)(F W M Ns Nm Np Nc B Nb:Nat)(mix ps cs:Ak):Prop where
 wo:lH F W M (Y0V) mix ps cs Ns Nm Np Nc B
 bo:∀x∈ws,Y6r x.2
 bl:Yex W
 bb:∀f∈bs,Fn Nb 1 f
 nb:0<Nb
 sz:oN M Ns Nm Np Nc*Nb<Y0i
inductive wM (K:Aa) (C:Addr):Yk
 | i {H:Hp} {Q:VK} {E:XK} {x dx:Addr} {tv av:V} {fs:Ah} {ws:Y0v} {bs mix ps cs:Ak} {F W M Ns Nm Np Nc B Nb:Nat} (h0:H x=some (.ins C dx [])) (h1:Yd9) (h2:Y63 F) (h3:Ybe) (h4:aG2 ws bs F W M Ns Nm Np Nc B Nb mix ps cs) (k:∀us cu H',Y56 x->zW H' x C F W M (Y0V) mix cs us cu->IE bs (Ns^M*Nb) us->0<cu->cu ∣ oN M Ns Nm Np Nc->Ycu):wM K C [Y1H,tv,av] H Q E
section
def oQ3(F:Ya "__init__" "Weighing.__init__" sQ3)(T:Ye)(FQ18:Y14 6 "all_counts" a49 uT)(FQ31:YaT "faces_of" kF)
  (FQ71:YaT "ways_of" jS) (FQ72:Y2t "weight" a06 (jR K)) (FQ25:Y2B "common_lower" a27 (qZ K)) (FQ35:Y2B "in_units" a42 (pE K))
  (FQ44:Y14 4 "look_cost" a43 (pV K)):dO P w K mg base cW 7 f fd a21 (Yk1 K):=by
 refine Y0P cQ3;obtain @⟨H,Q,E,x,l,tv,av,fs,ι,bs,η,ps,cs,F,W,M,τ,Nm,Np,Nc,B,Nb,hx,rt,hF,ra,G,k⟩:=h;refine Y3 Yfy;have I:=G.wo;have f1:=I.f1;have f4:=I.f4;have m5:=I.m5;have w4:=I.w4;have O:=T.w_Weighing;have wl:ι.length=W:=by have:=I.sl;rw[aA]at this;exact this
 have ra0:=ra;obtain⟨aa,xb,xm,xc,rfl,haa,rxb,rxm,rxc⟩:=ra0;obtain⟨ab,vb,rfl,hab,rvb⟩:=nA rxb;have small:=BW F f4 M m5;have ad:0<τ^M*Nb:=fA (by
  have:=I.pos;exact Yix (by rw[z,Nat.mul_zero]at this;exact Y1y)) G.nb
 have nsz:τ^M*Nb<Y0i:=aI (by
  have h0:0<Np*Nc*Nm:=Yix (by have:=I.pos;rw[z,Nat.zero_mul]at this;exact Y1y)
  rw[show oN M τ Nm Np Nc*Nb=Np*Nc*Nm*(τ^M*Nb)by unfold oN;ac_rfl];exact Y9I h0) G.sz
 refine⟨_,(aH (Y6a (cL FQ18 (Y5B FQ31) (Y0K 2)))
  (aH (Y6a (iJ aQ))
  (aH (Y6a (iJ aQ))
  (aH (gM PassesOwn.never rfl (Y7b (Y5B FQ71)) (Ygf 3 cQ3.nd rfl rfl) (aH (iV (i:=4) (dD.o ["counts","trial","way"] [1,3]) cQ3.nd rfl rfl Y67 Ybg (λ_ _ _ _=>lU FQ72 Y0w Y0c Y0H))
  (aH (Y9h Y3b (fV FQ25 (cC vU (aD 4) (iJ (Y1W (Y5q (Y0K 2) Y0h))))))
  (aS (Y9h Y3b (lU FQ35 (Y3b) (Y1j) (Y5q Y3b Y0h)))))))
  (aH (iV (i:=5) (dD.o ["counts","aim"] [2]) cQ3.nd rfl rfl Y67 (λ_ _ _ _=>OM (eC xC (YeJ (AW K rfl) (by rfl) Kk 0) (Y6s 1))) (λ_ _ _ _=>Y0H))
  (aH (iV (i:=6) (dD.o ["counts","trial","aim"] [1,2]) cQ3.nd rfl rfl (eJ (Y2b)) Ybg (λ_ _ _ _=>lU FQ44 Y0w Y0c Y0H))
  (aH (Y6a (fV FQ25 (aD 6)))
  (aS (Y6a (lU FQ35 (Y2b) (aD 6) (Y3b))))))))))),?_⟩
 refine Yo;intros;refine Y5 (kF.i rt ?_);rw[hF];refine Y0u haa;refine uT.i f1 f4 m5 λR H1 s1 hR LR=>?_;have LR:nY H1 R (Y07):=LR;have hx1:=s1 _ _ hx;refine⟨_,rfl,x,c.Weighing,l,_,rfl,hx1,O.cls,Y6q (by simp),by show 0<1000;decide,Y3a⟩;intros;have b2:aU x H1 (Y8D H1 x c.Weighing l (Y2y "rising" R [])):=aU.self;have e2:(upd H1 x (.ins c.Weighing l (eT "rising" (.ref R) []))) x=Ykl l (Y2y "rising" R []):=bK;generalize upd H1 x (.ins c.Weighing l (eT "rising" (.ref R) []))=H2 at b2 e2 ⊢;have L2:=LR.but b2 hx1;have t2:fF H H2:=s1.t.trans (aU.tI b2 hx1);have B2:aU x H H2:=s1.but.trans b2;refine DT (by show 0<=64;decide) λn H3 ο e3 s3=>⟨_,rfl,x,c.Weighing,l,_,rfl,s3 _ _ e2,O.cls,Y6q (by simp),by show 1<1000;decide,?_⟩;refine Y3a;intros;have b4:=Yh5 x H3 l (Y2y "units" n (Y2y "rising" R []));have e4:(upd H3 x (.ins c.Weighing l (eT "units" (.ref n) (eT "rising" (.ref R) [])))) x=_:=bK;generalize upd H3 x (.ins c.Weighing l (eT "units" (.ref n) (eT "rising" (.ref R) [])))=H4 at b4 e4 ⊢;have θ:n≠x:=λz=>by rw[z,e2]at ο;cases ο
 have e4u:=b4.at θ e3;have L4:=(L2.same s3).but b4 (s3 _ _ e2);have t4:fF H H4:=(t2.trans s3.t).trans (aU.tI b4 (s3 _ _ e2));have B4:aU x H H4:=(B2.trans s3.but).trans b4;refine DT (by show 0<=64;decide) λJ H5 Z e5 s5=>⟨_,rfl,x,c.Weighing,l,_,rfl,s5 _ _ e4,O.cls,Y6q (by simp),by show 2<1000;decide,?_⟩;refine Y3a;intros;have b6:=Yh5 x H5 l (Y2y "weights" J (Y2y "units" n (Y2y "rising" R [])));have e6:(upd H5 x (.ins c.Weighing l (eT "weights" (.ref J) (eT "units" (.ref n) (eT "rising" (.ref R) []))))) x=_:=bK;generalize upd H5 x (.ins c.Weighing l (eT "weights" (.ref J) (eT "units" (.ref n) (eT "rising" (.ref R) []))))=H6 at b6 e6 ⊢;have ξ:J≠x:=λz=>by rw[z,e4]at Z;cases Z
 have nwu:J≠n:=λz=>by rw[z,e4u]at Z;cases Z
 have e6w:=b6.at ξ e5;have e6u:=b6.at θ (s5 _ _ e4u);have L6:=(L4.same s5).but b6 (s5 _ _ e4);have B6:aU x H H6:=(B4.trans s5.but).trans b6;have lr:(eT "weights" (V.ref J) (eT "units" (.ref n) (eT "rising" (.ref R) []))).lookup ("rising" : Str)=Y6 R:=lkN Dd (lkN Dd lkS);have lu:(eT "weights" (V.ref J) (eT "units" (.ref n) (eT "rising" (.ref R) []))).lookup ("units" : Str)=Y6 n:=lkN Dd lkS;have lw':(eT "weights" (V.ref J) (eT "units" (.ref n) (eT "rising" (.ref R) []))).lookup ("weights" : Str)=Y6 J:=lkS;have fle:(eT "weights" (V.ref J) (Y2y "units" n (Y2y "rising" R []))).length<=3:=by
  have N:=lQ "weights" (V.ref J) (Y2y "units" n (Y2y "rising" R []));have S:=lQ "units" (V.ref n) (Y2y "rising" R []);have h3:=lQ "rising" (V.ref R) [];simp only[List.length_nil]at h3;exact Oo
 generalize eT "weights" (V.ref J) (eT "units" (.ref n) (eT "rising" (.ref R) []))=fl at e6 lr lu lw' fle ⊢;have hu0:H n=none:=by
  cases q:H n with
  | none=>rfl
  | some o=>exact absurd (B2.at θ q) (by rw[ο];intro z;cases z)
 have hw0:H J=none:=by
  cases q:H J with
  | none=>rfl
  | some o=>exact absurd (B4.at ξ q) (by rw[Z];intro z;cases z)
 have nRu:R≠n:=λz=>by obtain⟨vs,g,_⟩:=L2;rw[z,ο]at g;cases g
 have nRw:R≠J:=λz=>by obtain⟨vs,g,_⟩:=L4;rw[z,Z]at g;cases g
 clear ο Z e2 e3 e4 e5 e4u b2 b4 b6 s3 s5 L2 L4 LR t2 t4 B2 B4;refine Y5 (jS.i (Yea (YeV B6) _ _) ?_);rw[wl];refine Y98 _ Oo Oo ?_;refine oX (λi σ H'=>Ex4 λ(o3 o4:Am) (ν:Ae) (Y:List Addr)=>An9 (σ=[Y7N,YeZ,Y6 aa,o3,o4,none,none]) (Y56 x) (H' x=Ykl l fl) (Y4g R Y07) (H' n=Yq (ν.map FN)) (ν.length=i) (H' J=Yq (Y.map V.ref)) (vN H' Y (mP ι) (Y07) ν) (IE bs (τ^M*Nb) ν))
  ⟨_,_,[],[],rfl,B6,e6,L6,e6u,rfl,e6w,Y3 (λi ta u h=>by simp at h),⟨λu hu=>(by cases hu),λi f u hf hu=>(by simp at hu)⟩⟩ ?_ ?_
 ·rintro i σ H7 hi ⟨o3,o4,ν,Y,rfl,B7,e7,L7,ψ,ul,e7w,ae,hus⟩;refine Yaj;intros;have hi:i<W:=Oo;have t7:=YeV B7;have rt7:=Yea t7 _ _;obtain⟨υ,hxv⟩:∃υ,ι[i]?=some υ:=Y40 (by rw[wl];exact hi);have ex:(mP ι).getD i []=υ.2:=iQ (by rw[aG,hxv];rfl);obtain⟨vs7,ρ,r7,lr7⟩:=L7.len;rw[Int.zero_add];refine Y1B (by simp) e7 lr;refine Y1h R ρ (fH (λj y H'=>∃a,Y07[j]?=Y7p/\AY K H' (oA (υ.2.zip a)) y) (λj y Ha Hb s ⟨a,N,S⟩=>Y2s N (S.t s)) Oo ρ (λj y H' Q' hy s' k'=>?_) (λD ω H8 hD e8 κ hy8 hr8=>?_))
  ·obtain⟨a,e,rc⟩:=eW r7 hy;have hcm:=(gA f1).mp (aE e);refine Y42;exact jR.i (rt7.same s') hxv (rc.same s') (G.bo υ (aE hxv)) Oo λxw H9 s9 fw=>k' _ H9 s9 (Y2s e fw)
  have μ:ω.length=(Y07).length:=Oo;refine Ys;intros;have fr8:zZ K H8 ((rise F M).map λa=>oA (υ.2.zip a)) ω:=⟨by rw[aA];exact μ,λj y hj=>by
   obtain⟨a,N,S⟩:=hr8 j y hj;exact Y0C (by rw[aG,N];rfl) S⟩
  have e8x:=κ _ _ e7;have e8u:=κ _ _ ψ;have e8w:=κ _ _ e7w;have B8:=B7.trans κ.but;refine Y1B (by simp) e8x lu;refine⟨UR e8u,Y7⟩;have t8:=YeV B8;obtain⟨fb,hfb⟩:∃fb,bs[i]?=some fb:=Y40 (by rw[G.bl];exact hi);obtain⟨yb,hyb,ryb⟩:=kP rvb hfb;refine Y0u (t8 _ _ haa);refine Y5 (lE (t8 _ _ hab) (eB hyb) ?_);refine DT (by show 1<=64;decide) λq9 H9 hq9 e9 s9=>NU (s9 _ _ e8) e9 (by rw[μ];show(Y07).length+1<=1000;exact Oo) λq10 H10 hq10 ζ s10=>?_;have d:=s9.trans s10;have ryb10:AY K H10 fb yb:=.inl (ryb.flat (t8.trans d.t) (Y2u));have fr10:zZ K H10 ((rise F M).map (λa=>oA (υ.2.zip a))++[fb]) (ω++[yb]):=⟨by rw[aW,aW,aA,μ];rfl,λj y hj=>by
   by_cases q:j<ω.length
   ·rw[cN q]at hj;obtain⟨g,N,S⟩:=fr8.at_ j y hj;exact⟨g,by rw[cN (by rw[aA];exact Oo)];exact N,S.t d.t⟩
   ·have lj:=(aB.mp hj).1;rw[aW,List.length_singleton]at lj;have ej:j=ω.length:=Oo;subst ej;rw[cF (Yy),Nat.sub_self]at hj;cases hj;exact⟨fb,by rw[cF (by rw[aA];exact Oo),aA,μ,Nat.sub_self];rfl,ryb10⟩⟩
  have wn:∀a,Y3d a->Fn (τ^M) 1 (oA (υ.2.zip a)):=λa e=>by
   have hcm:=(gA f1).mp e;have N:=vE I hi a;have S:=I.qn hi (c:=a) Oo;rw[ex]at N;unfold hZ at S;rw[ex]at S;exact Qn.f N S
  refine qZ.i ζ fr10.v ad nsz (λg hg=>?_) λU u0 uN hU=>?_
  ·rcases dJ.mp hg with hg | hg
   ·obtain⟨a,e,rfl⟩:=aN.mp hg;have:=(wn a e).dvd (mO (τ^M) Nb);exact⟨this.low,Fn.dn this ad⟩
   ·rw[cA.mp hg];have:=(G.bb fb (aE hfb)).dvd (Nat.dvd_mul_left Nb (τ^M));exact⟨this.low,Fn.dn this ad⟩
  have uz:U<Y0i:=aI (kK ad uN) nsz;have γ:=d _ _ e8u;refine LJ γ (by rw[aA];exact Oo) λH11 e11 α=>?_;have e11u:H11 n=Yq ((ν++[U]).map FN):=by rw[e11,bE];rfl
  have m:=α.at (Ne.symm θ) (d _ _ e8x);have L:=α.at nwu (d _ _ e8w);have L11:=((L7.same κ).same d).butL α γ nRu;have t11:fF H8 H11:=d.t.trans (α.t γ);have hDu:D≠n:=λz=>by rw[z,ψ]at hD;cases hD
  have e11D:=α.at hDu (d _ _ e8);have B11:aU x H H11:=aU.thru hu0 (B8.trans d.but) α;have tb11:vN H11 Y (mP ι) (Y07) ν:=ae.mono λb kv g=>α.at (sX (d _ _ (κ _ _ g)) γ (by intro z;cases z)) (d _ _ (κ _ _ g));refine Y1B (by simp) m lw';refine⟨UR L,Y1B (by simp) m lr⟩;refine Y5 (Y1B (by simp) m lu);refine Y5 (xU e11u (eB (j:=i) (v:=FN U) (by rw[bE,cF (by rw[aA];exact Oo),aA,ul,Nat.sub_self];rfl)) ?_);refine pE.i (g:=λa=>oA (υ.2.zip a)) L11 e11D (fr8.t t11) small uz (Yh1) λp kvs H12 C hp χ D12=>?_
  ·have N:=(wn a e).dvd (mO (τ^M) Nb);exact⟨N.low,Y9i (by have:=AX I hi (c:=a) ((gA f1).mp e).2;rw[ex]at this;exact this) (show 1<=1000000000000 by decide),hU _ (cO _ (Y9R a e))⟩
  refine LJ (C _ _ L) (by rw[aA,ae.1];exact Oo) λH13 e13 ε=>?_;have hpw:p≠J:=λz=>by rw[z,L]at hp;cases hp
  have B12:=B11.trans C.but;refine⟨_,_,ν++[U],Y++[p],rfl,aU.thru hw0 B12 ε,ε.at (Ne.symm ξ) (C _ _ m),(L11.same C).butL ε (C _ _ L) nRw,ε.at (Ne.symm nwu) (C _ _ e11u),by rw[aW,ul];rfl,by rw[e13,bE];rfl,?_,hus.snoc (by rw[ul];exact hfb) u0 uN (hU _ (bL _ (cA.mpr rfl)))⟩
  ·refine vN.snoc (kvs:=kvs) ?_ (ε.at hpw χ) ?_
   ·exact tb11.mono λb kv g=>ε.at (sX (C _ _ g) (C _ _ L) (by intro z;cases z)) (C _ _ g)
   ·rw[ul];have:(λa=>hZ (mP ι) i a*(U:Rat))=λa=>rv (oA (υ.2.zip a))*(U:Rat):=by
     funext a
     unfold hZ wq;rw[ex]
    rw[this];exact D12
 ·rintro σ H7 ⟨o3,o4,ν,Y,rfl,B7,e7,L7,ψ,ul,e7w,ae,hus⟩;refine Y3a;intros;have ul:ν.length=W:=Oo;have t7:=YeV B7;have rt7:=Yea t7 _ _;have ra7:=ra.t t7;obtain⟨vs7,ρ,r7,lr7⟩:=L7.len;refine Y1B (by simp) e7 lr;refine Y1h R ρ (UD (g:=vB) r7 (λa=>Y1c a.sum M) Oo ρ (λy a H' Q' e ry s' k'=>?_) (λy H' Q' q=>Y5 q) (λD ω H8 hD e8 κ r8=>?_))
  ·obtain⟨ac,rfl,hac⟩:=iL ry;refine Y5 (YgL (ci a) (by rw[fM];exact jV.of hac));rw[HV];refine Y0u (s' _ _ (t7 _ _ haa));refine Y85 _ _ _;rw[show decide ((a.sum:Int)<(M:Int))=decide (a.sum<M)by simp];exact k' H' (Y09)
  have r8:bJ H8 ((ahd F M).map vB) ω:=r8;refine Ys;intros;have μ:ω.length=(Y5A).length:=by rw[r8.len,aA]
  have la:(Y5A).length<=(Y07).length:=List.length_filter_le ..;refine Y9G D _ e8 ?_;have mah:∀a,a∈Y5A->a.length=F/\a.sum<M:=λa e=>by
   obtain⟨N,S⟩:=fY.mp e;exact⟨((gA f1).mp N).1,of_decide_eq_true S⟩
  refine fH (λj y H'=>∃a,(Y5A)[j]?=Y7p/\Y7G (CH W (mP ι) η cs a) y) (λj y Ha Hb s ⟨a,N,S⟩=>Y2s N (S.flat s (Y2u))) Oo e8 (λj y H' Q' hy s' k'=>?_) (λD2 zs H9 hD2 e9 s9 hy9 hr9=>?_)
  ·obtain⟨a,e,rc⟩:=eW r8 hy;refine Y42;exact pV.i ((rt7.same κ).same s') ((ra7.same κ).same s') (rc.same s') I G.bo (mah a (aE e)).2 λv H10 s10 r10=>k' _ H10 s10 (Y2s e r10)
  have lz9:YhT ((Y5A).length):=Oo;refine Ys;intros;have fr9:zZ K H9 ((ahd F M).map λa=>eV (CH W (mP ι) η cs a)) zs:=⟨by rw[aA];exact lz9,λj y hj=>by
   obtain⟨a,N,S⟩:=hr9 j y hj;exact Y0C (by rw[aG,N];rfl) (.inl S)⟩
  have ln:∀a,a∈Y5A->Y2K τ Nm Np Nc (B*4) (eV (CH W (mP ι) η cs a)):=λa e=>IB I (mah a e).2;refine Y7;refine qZ.i e9 fr9.v I.pos I.sz (λg hg=>?_) λU u0 uN hU=>?_
  ·obtain⟨a,e,rfl⟩:=aN.mp hg;exact⟨(ln a e).low,Fn.dn (ln a e) I.pos⟩
  have uz:U<Y0i:=aI (kK I.pos uN) I.sz;have β:=κ.trans s9;refine⟨_,rfl,x,c.Weighing,l,_,rfl,β _ _ e7,O.cls,Y6q (by simp),Oo,?_⟩;have r:=Yh5 x H9 l (eT "cost_unit" (.int (U:Int)) fl);have ζ:(upd H9 x (.ins c.Weighing l (eT "cost_unit" (.int (U:Int)) fl))) x=_:=bK;generalize upd H9 x (.ins c.Weighing l (eT "cost_unit" (.int (U:Int)) fl))=H10 at r ζ ⊢;have φ:=β _ _ e7;have nDx:D≠x:=sX e8 (κ _ _ e7) (by intro z;cases z);have nD2x:D2≠x:=sX e9 φ (by intro z;cases z);have t10:=aU.tI r φ;have LD:nY H10 D (Y5A):=⟨ω,r.at nDx (s9 _ _ e8),(r8.same s9).flat t10 (mH _)⟩;refine Y2k (jY O (by simp) ζ lkS ?_);have hB:=I.b;refine pE.i (g:=λa=>eV (CH W (mP ι) η cs a)) LD (r.at nD2x e9) (fr9.t t10) Oo uz (λa e=>⟨(ln a e).low,iS I (ln a e) (aL (show B*4<=4*WB by exact Oo) vM),hU _ (Y9R a e)⟩) λp kvs H11 δ hp e11 D11=>?_;have m:=δ _ _ ζ;have fle2:=lQ "cost_unit" (V.int (U:Int)) fl;refine⟨_,rfl,x,c.Weighing,l,_,rfl,m,O.cls,Y6q (by simp),Oo,?_⟩;have X:=Yh5 x H11 l (eT "costs" (Y1G) (eT "cost_unit" (.int (U:Int)) fl));have χ:(upd H11 x (.ins c.Weighing l (eT "costs" (.ref p) (eT "cost_unit" (.int (U:Int)) fl)))) x=_:=bK;generalize upd H11 x (.ins c.Weighing l (eT "costs" (.ref p) (eT "cost_unit" (.int (U:Int)) fl)))=H12 at X χ ⊢;have npx:p≠x:=λz=>by rw[z,ζ]at hp;cases hp
  refine k ν U H12 ((((B7.trans β.but).trans r).trans δ.but).trans X) ⟨ul,l,_,R,n,J,p,Y,kvs,χ,lkN Dd (lkN Dd lr),lkN Dd (lkN Dd lu),lkN Dd (lkN Dd lw'),lkN Dd lkS,lkS,?_,?_,?_,?_,X.at npx e11,?_⟩ hus u0 uN
  ·exact(((L7.same β).but r φ).same δ).but X m
  ·exact X.at θ (δ _ _ (r.at θ (β _ _ ψ)))
  ·exact X.at ξ (δ _ _ (r.at ξ (β _ _ e7w)))
  ·refine ae.mono λb kv g=>?_;have g1:=β _ _ g;have nb:b≠x:=sX g1 φ (by intro z;cases z);exact X.at nb (δ _ _ (r.at nb g1))
  ·have:(λa=>CH W (mP ι) η cs a*(U:Rat))=λa=>rv (eV (CH W (mP ι) η cs a))*(U:Rat):=by
    funext a
    rw[cV]
   rw[this];exact D11
end
def EX{l:Y22}{x:Rat}(h:l≠[]):mQ (l++[x])=if x<mQ l then x else mQ l:=by
 refine GZ ?_ λy a=>?_
 ·split
  ·exact bL _ (cA.mpr rfl)
  ·exact cO _ (xG h)
 ·rcases dJ.mp a with a | a
  ·have:=uX a;split <;> grind
  ·rw[cA.mp a];split <;> grind
section
variable{F W M:Nat}{ss:Aj}{mix ps cs:Ak}
def aEr{u x y:Rat}(hu:0<u)(h:u*x<=u*y):x<=y:=by
 refine Yd6;have a:y<x:=by grind
 have c:=Rat.mul_lt_mul_of_pos_left a hu;grind
def YB{d:Yv}{U:Rat}(hU:0<U){ns:Af}(hl:Ya3 W)(hv:∀(i:Nat) (n:Int),ns[i]?=Y6l->(n:Rat)=U*(cE W d-d i)){m:Int}(hm:Y7C m)(hle:∀a∈ns,m<=a):(m:Rat)=U*mQ (oC W d):=by
 obtain⟨i,c⟩:=gK.mp hm;have e:=hv i m c;have p:=(aB.mp c).1;have:mQ (oC W d)=cE W d-d i:=by
  refine GZ (YhJ i Oo) λx j=>?_;obtain⟨w,r,rfl⟩:=rD.mp j;obtain⟨n,g⟩:∃n,ns[w]?=Y6l:=Y7w;have l:=hle n (aE g);have h:(m:Rat)<=(n:Rat):=by exact_mod_cast l
  rw[e,hv w n g]at h;exact aEr hU h
 rw[this];exact e
end
def lvl(F:Nat)(best:Y0r):Nat->Ab
 | 0=>[List.replicate F 0]
 | k+1=>(cta F (k+1)).filter λd=>(lvl F best k).any λc=>best c == 0&&(List.range F).any λj=>d == cH c j
section
variable{F W M:Nat}{best:Y0r}
def mF(hF:1<=F):∀k,(lvl F best k).Sublist (Y6K k)
 | 0=>by unfold lvl;rw[DH F hF];exact List.Sublist.refl _
 | k+1=>by unfold lvl;exact List.filter_sublist
def mD(hF:1<=F){k:Nat}{d:Ae}:Ydf d (k+1) ↔ ∃c∈lvl F best k,best c=0/\∃j,j<F/\d=cH c j:=by
 have a:Ydf d (k+1)↔d∈cta F (k+1)/\∃c∈lvl F best k,best c=0/\∃j,j<F/\d=cH c j:=by
  show d∈List.filter _ _↔_;rw[fY];simp
 rw[a];refine Yfb (λh=>h.2) ⟨?_,h⟩;obtain⟨c,g,_,j,i,e⟩:=h;exact(ZK hF).mpr ⟨c,(mF hF k).subset g,j,i,e⟩
def zT(W b:Nat):Ak:=(List.range (1+W)).map λk=>if k=b then(1,1) else(0,1)
def oU(W:Nat)(best:Y0r)(c:Ae):dB:=(c,Y5t)
def rE(F M:Nat)(best:Y0r):Ab:=(List.range (M+1)).flatMap (lvl F best)
def rul(F W M:Nat)(best:Y0r):Yi:=(rE F M best).map (Y4N)
theorem CY{α:Type}{f g:Nat->Yt}(h:∀k,(f k).Sublist (g k)):∀l:Ae,(l.flatMap f).Sublist (l.flatMap g)
 | []=>List.Sublist.refl _
 | a::l=>by rw[List.flatMap_cons,List.flatMap_cons];exact(h a).append (CY h l)
def jF(hF:1<=F):(rE F M best).Sublist (Y07):=CY (mF hF) _
def GQ:(rul F W M best).map (·.1)=Y6h:=by unfold rul;rw[List.map_map];exact List.map_id _
def sI{b k:Nat}(h:k<1+W):cS (zT W b) k=if k=b then 1 else 0:=by
 unfold cS zT;rw[aR,aG,bP h];show rv (if k=b then(1,1) else(0,1))=_;split
 ·exact sE
 ·exact oP
def oE(c:Ae):s0 (Y8V W c)=if Y0o=0 then 1 else 0:=by
 unfold s0 oU;rw[sI Oo];by_cases h:Y0o=0
 ·rw[if_pos h.symm,Y4z]
 ·rw[Y1Z (h z.symm),Y4A]
def AO{c:Ae}:Y7n c ↔ ∃k,k<=M/\Ydf c k:=by
 unfold rE;rw[List.mem_flatMap];constructor
 ·rintro⟨k,a,h⟩;exact⟨k,by have:=Y7k;exact Oo,h⟩
 ·rintro⟨k,a,h⟩;exact⟨k,cD.mpr Oo,h⟩
def xA(hF:1<=F)(on:∀c,Y0o=0->Y1z){c:Ae}(hc:Y7n c)(h:Y0o=0){j:Nat}(hj:j<F):Y7n Y33:=by
 obtain⟨k,d,a⟩:=AO.mp hc;have g:=(iX ((mF hF k).subset a)).2;have e:=on c h;exact AO.mpr ⟨k+1,Oo,(mD hF).mpr ⟨c,a,h,j,hj,rfl⟩⟩
def JF(hF:1<=F){d:Ae}(hd:Y7n d)(h:d≠Y02):∃c∈Y6h,Y0o=0/\∃j,j<F/\Y33=d:=by
 obtain⟨k,m,a⟩:=AO.mp hd;cases k with
 | zero=>exact Ygq a h
 | succ k =>
  obtain⟨c,g,i,j,l,e⟩:=(mD hF).mp a;exact⟨c,AO.mpr ⟨k,Oo,g⟩,i,j,l,e.symm⟩
def BU:∃r,Y6h=Y02::r:=by
 unfold rE;rw[List.range_succ_eq_map,List.flatMap_cons];exact Y5P _
def AK(hF:1<=F){c:Ae}(h:Y7n c):Y2E/\Y5u:=(gA hF).mp ((jF hF).subset h)
def WW(hF:1<=F)(f4:F<=4)(m5:M<=5)(on:∀c,Y0o=0->Y1z):tG F (Y2l) where
 root:=by
  obtain⟨r,l⟩:=Yij M best;exact Y7B _ _ (by unfold rul;rw[l,bH])
 len:=λe g=>by
  obtain⟨c,a,rfl⟩:=Y8N;exact(AK hF a).1
 nd:=by rw[GQ];exact(sF F f4 M m5).sublist (jF hF)
 srt:=by
  unfold rul;rw[List.pairwise_map];exact(pY F M).sublist (jF hF)
 fwd:=λe g h f i=>by
  obtain⟨c,a,rfl⟩:=Y8N;rw[GQ];refine xA hF on a ?_ i;refine YdW (h ?_);rw[oE,Y2f]
 bwd:=λd hd n=>by
  rw[GQ]at hd;obtain⟨c,a,m,j,p,e⟩:=JF hF hd n;exact⟨Y8V W c,Y9R c a,by rw[oE,if_pos m];exact(by decide:(1:Rat)≠0),j,p,e⟩
 nn:=λe g=>by
  obtain⟨c,a,rfl⟩:=Y8N;rw[oE];split <;> grind
end
abbrev aDq:Stmt:=(top 61)
def aI5:Yg a34 a34 aDq:={}
abbrev aEe:Stmt:=(top 62)
def NW:Yg ["weighing","factors","cost_factor","best_at","worth_of","counts","dues","sums","onward"] a24 aEe:={}
def CQ{N B U:Nat}{q:Rat}{n:Int}(h:Y3H q)(hN:0<N)(e:(n:Rat)=q*(U:Rat)):n.natAbs<=B*U:=by
 obtain⟨z,d,i⟩:=h;have c:n*(N:Int)=z*(U:Int):=by
  have:((n*(N:Int):Int):Rat)=((z*(U:Int):Int):Rat):=by
   rw[Rat.intCast_mul,Rat.intCast_mul,e,<-d];show q*(U:Rat)*(N:Rat)=q*(N:Rat)*(U:Rat);grind
  exact_mod_cast this
 have a:=congrArg Int.natAbs c;rw[cY,cY,Int.natAbs_natCast,Int.natAbs_natCast]at a;have g:n.natAbs*N<=(B*U)*N:=by
  rw[a,show B*U*N=B*N*U by ac_rfl];exact Y2a i
 exact Nat.le_of_mul_le_mul_right g hN
def dgI{H:Hp}{p b:Addr}{kvs:Yu}{cc:Ae}(e:H p=Y10)(hb:H b=Ym (cc.map FN)):oQ H p (Y0e) (Y5Z cc):=.inr ⟨kvs,Y3s cc,b,.inl e,rfl,by rw[CN,fM];exact hb,rfl⟩
inductive GL (C:Addr):Yk
 | i {H:Hp} {Q:VK} {E:XK} {x:Addr} {cv:V} {cc:Ae} {F W M:Nat} {ss:Aj} {mix cs:Ak} {us:Ae} {cu:Nat} (h1:zW H x C F W M ss mix cs us cu) (h2:Y3Y H cc cv) (h3:Y3d cc) (h4:W<=64) (k:∀D (ns:Af) H',Y1->H D=none->Y0x=Yae->Ya3 W->(∀(i:Nat) (n:Int) (u:Nat),ns[i]?=Y6l->Y4P=Yl->(n:Rat)=hZ ss i cc*(u:Rat))->Y0Q):GL C [Y1H,cv] H Q E
section
def aHN(F:Ya "weights_at" "weights_at" aDq)(T:Ye):dO P w K mg base cW 1 f fd a34 (GL c.Weighing):=by
 refine Y0P aI5;obtain @⟨H,Q,E,x,cv,g,F,W,M,I,ο,cs,m,ψ,η,ε,l,θ,k⟩:=h;refine Y3 ?_;intro ρ A j s ξ _;obtain⟨ul,dx,fl,ra,ua,γ,τ,N,ι,Z,a1,a2,κ,a4,υ,a6,a7,J,L,β,δ⟩:=η;obtain⟨ac,rfl,B⟩:=iL ε;have O:=T.w_Weighing;have ω:=L.1;refine Y5D (Y6Z ["table","counts"] [1] Y67 (gY ξ.u1 Y0H Y0w));refine Y1B (by simp) Z κ;refine Y1h γ J (Yet (∃n,y=Y4G/\∀u,m[i]?=Yl->(n:Rat)=hZ I i g*(u:Rat)) Ybw (by rw[aA];exact Oo) J (λi y H' Q' e C S=>?_) (λD ys H1 α X R e z=>?_))
 ·rw[aG]at e;obtain⟨U,d,rfl⟩:=eL.mp e;have li:=(Yay).1;obtain⟨u,G⟩:∃u,m[i]?=Yl:=Y7w;obtain⟨χ,ν,ζ⟩:=L.2 i U u d G;obtain⟨n,r,p⟩:=ζ.yes g l;refine Y0g (Y5x (C _ _ ν) g (by rw[fM];exact C _ _ B) r);exact S _ H' (Y09) (Yx n (λφ a=>by rw[G]at a;cases a;exact p))
 ·obtain⟨Y,rfl,μ⟩:=nH (P:=λi n=>∀u,m[i]?=Yl->(n:Rat)=hZ I i g*(u:Rat)) z;rw[aA,aA]at e;exact k D Y H1 R α X Oo λi n u r p=>μ i n r u p
end
structure DP(kvs:Yu)(S:Ab)(R:Y13 Ae V):Prop where
 yes:∀c∈S,∃v,Y7T=Yn/\R c v
 len:Y5Y (2*S.length)
def DP.put{kvs:Yu}{S:Ab}{R:Y13 Ae V}(h:DP kvs S R){c:Ae}{v:V}(r:R c v):DP (Y8A c v) (c::S) R:=by
 refine⟨Ye2,by have:=h.len;have:=Y5f kvs c v;rw[cK];exact Oo⟩;rw[iD];by_cases e:d=c
 ·subst e;rw[Yr];exact Yx v r
 ·rw[Y3u (e (Y60 q))];exact h.yes d ((bN.mp hd).resolve_left e)
def DP.put2{kvs:Yu}{S:Ab}{R:Y13 Ae V}(h:DP kvs S R){c:Ae}{u v:V}(r:R c v):DP (kG (Y8A c u) (Y3s c) v) (c::S) R:=by
 refine⟨Ye2,by have:=h.len;have:=Y5f kvs c u;have:=Y5f (Y8A c u) c v;rw[cK];exact Oo⟩;rw[iD];by_cases e:d=c
 ·subst e;rw[Yr];exact Yx v r
 ·rw[Y3u (e (Y60 q)),iD,Y3u (e (Y60 q))];exact h.yes d ((bN.mp hd).resolve_left e)
def UQ(kvs:Yu)(rs:Ab)(best:Y0r):Prop:=(∀c∈rs,Y7T=Yd (best c:Nat))/\Y5Y 1000
theorem IV:∀ns:Af,((ns.sum:Int):Rat)=vF (ns.map λ(n:Int)=>(n:Rat))
 | []=>rfl
 | a::ns=>by rw[List.sum_cons,Rat.intCast_add,IV ns];rfl
def IU{n:Nat}{ns:Af}{d:Yv}(hl:Ya3 n)(h:∀(i:Nat) (m:Int),ns[i]?=Y8Y->(m:Rat)=d i):((ns.sum:Int):Rat)=cE n d:=by
 rw[IV];unfold cE;congr 1;refine Y7t;rw[aG,aG];by_cases q:i<n
 ·obtain⟨m,a⟩:∃m,ns[i]?=Y8Y:=Y7w;rw[a,bP q];show some (m:Rat)=some (d i);rw[h i m a]
 ·rw[Y9l,cB (by rw[aV];exact Oo)];rfl
def aEw{n:Nat}(h:n<Y0i){b:Nat}(hb:b<=2^690):b*n<Y0J:=by
 have c:b*n<=2^690*n:=Y2a hb;have a:2^690*n<2^690*Y0i:=Nat.mul_lt_mul_of_pos_left h (Y9N);rw[<-Nat.pow_add]at a;exact Y8K c a
section
end
abbrev aDR:Stmt:=(top 39)
def aJk:Yg ["says"] ["says"] aDR:={}
abbrev aDP:Stmt:=(top 34)
def aJj:Yg ["faces"] ["faces"] aDP:={}
abbrev aDI:Stmt:=(top 64)
def aCc:Yg ["weighing","best_at","ways","table","counts"] a09 aDI:={}
abbrev aD7:Stmt:=(top 41)
def aCi:Yg ["level","table","found","counts","more"] ["level","table"] aD7:={}
abbrev aD6:Stmt:=(top 40)
def aCh:Yg ["faces","table","found","level"] a07 aD6:={}
abbrev aDB:Stmt:=(top 42)
def aJa:Yg a07 a07 aDB:={}
theorem yK{α:Type}[DecidableEq α]:∀{l m:Yt},l.Nodup->(∀x∈l,x∈m)->l.length<=m.length
 | [],m,_,_=>cM _
 | x::l,m,h,hs=>by
  rw[List.nodup_cons]at h;have hx:=hs x (aY ..);have c:=yK (l:=l) (m:=m.erase x) h.2 λy a=>(List.mem_erase_of_ne (λe=>by subst e;exact h.1 a)).mpr (hs y (bD _ a));rw[List.length_erase_of_mem hx]at c;have:0<m.length:=List.length_pos_of_mem hx;rw[cK];exact Oo
def aE9{kvs:Yu}{ks:Ac}{v:V}(c:Af)(hk:kvs.map (·.1)=ks.map kT)(nd:ks.Nodup):∃ks2:Ac,(kG kvs (kT c) v).map (·.1)=ks2.map kT/\ks2.Nodup/\∀x,x∈ks2↔x∈ks\/x=c:=by
 cases e:Y8u (kT c)with
 | some u =>
  refine⟨ks,by rw[DY (by rw[e];rfl),hk],nd,λx=>Yfb .inl ?_⟩;rcases h with h | rfl
  ·exact h
  ·have:YhS (kT x) (·.1):=GF e;rw[hk]at this;obtain⟨y,l,j⟩:=aN.mp this;rw[<-jX j];exact l
 | none =>
  have i:c ∉ ks:=λh=>by
   have:YhS (kT c) (·.1):=by rw[hk];exact List.mem_map_of_mem h
   exact VM e this
  refine⟨ks++[c],by rw[JH v e,bE,bE,hk];rfl,List.nodup_append.mpr ⟨nd,by simp,λa g b d e=>by cases cA.mp d;subst e;exact i g⟩,λx=>by rw[dJ,cA]⟩
def aB4:∀F,F<=4->∀m,m<=5->((cta F m).map ci).Pairwise (λa b=>sL a b=true):=Kk
def ctI(c:Ae):PyData.tuple ((ci c).map .int)=vB c:=by unfold ci;rw[List.map_map];rfl
section
variable{F W M:Nat}{best:Y0r}
end
def EnW(K:Aa)(H:Hp)(e:dB)(x:V):Prop:=∃b cu z,x=Y0e/\H b=Ym [.ref cu,z]/\H cu=Ym (e.1.map FN)/\EC K H e.2 z
theorem EnW.t{K:Aa}{H H':Hp}{e:dB}{x:V}(s:Y28)(h:EnW K H e x):EnW K H' e x:=by
 obtain⟨b,c,z,d,g,a,i⟩:=h;exact⟨b,c,z,d,s _ _ g,s _ _ a,i.t s⟩
def LM(K:Aa)(H:Hp)(es:Yi)(v:V):Prop:=∃a xs,v=Yf/\H a=Y11/\Y54 es.length/\∀(i:Nat) (x:V),Y0s=Yb->∃e,es[i]?=Y6k/\EnW K H e x
theorem LM.t{K:Aa}{H H':Hp}{es:Yi}{v:V}(s:Y28)(h:LM K H es v):LM K H' es v:=by
 obtain⟨a,d,j,n,c,p⟩:=h;exact⟨a,d,j,s _ _ n,c,λi x l=>by obtain⟨e,m,g⟩:=p i x l;exact⟨e,m,g.t s⟩⟩
inductive lP (K:Aa):Yk
 | i {H:Hp} {Q:VK} {E:XK} {z:V} {f:Fr} {fs:Ak} (h1:EC K H (f::fs) z) (k:Y2r (Y1c 0 f.1)):lP K [z] H Q E
inductive mW:Yk
 | i {H:Hp} {Q:VK} {E:XK} {F:Nat} (h:F<=64) (k:Y4k (Y3Y H' Y02 v->Y1o)):mW [.int (F:Int)] H Q E
structure vH(F M:Nat)(best:Y0r)(sy:Ae->Ak)(R:Y7s):Prop where
 f1:1<=F
 f4:F<=4
 m5:M<=5
 on:∀c,Y0o=0->Y1z
 r:(Y07).length<=400
 hd:∀c,R c->∃f fs,sy c=f::fs/\(0<f.1↔Y0o=0)
 root:R (Y02)
 fwd:∀c,R c->Y0o=0->∀f,f<F->R (Y4O)
theorem vH.lvl{F M:Nat}{best:Y0r}{sy:Ae->Ak}{R:Y7s}(I:vH F M best sy R):∀(k:Nat) {c:Ae},Y1T (Kw.lvl F best k)->R c
 | 0,c,h=>by
  have h:c∈[List.replicate F 0]:=h;rw[cA.mp h];exact I.root
 | k+1,c,h=>by
  obtain⟨d,hd,a,f,e,rfl⟩:=(mD I.f1).mp h;exact I.fwd d (I.lvl k hd) a f e
def vH.ruC{F M:Nat}{best:Y0r}{sy:Ae->Ak}{R:Y7s}(I:vH F M best sy R){c:Ae}(h:Y1T (Kw.rE F M best)):R c:=by
 unfold Kw.rE at h;obtain⟨k,_,a⟩:=List.mem_flatMap.mp h;exact I.lvl k a
def TbG(K:Aa)(H:Hp)(d:Addr)(R:Y7s)(sy:Ae->Ak):Prop:=∃kvs,H d=Y10/\∀c,R c->∃v,Y7T=Yn/\EC K H (sy c) v
def TbG.same{K:Aa}{H H':Hp}{d:Addr}{R:Y7s}{sy:Ae->Ak}(s:Y1)(h:TbG K H d R sy):TbG K H' d R sy:=by
 obtain⟨a,i,l⟩:=h;exact Y2s (s _ _ i) (λc e=>by obtain⟨v,j,g⟩:=l c e;exact⟨v,j,g.t s.t⟩)
def ruG(F M:Nat)(best:Y0r)(sy:Ae->Ak):Yi:=(rE F M best).map λc=>(c,sy c)
inductive wW (K:Aa):Yk
 | i {H:Hp} {Q:VK} {E:XK} {L d:Addr} {F M k:Nat} {best:Y0r} {sy:Ae->Ak} {R:Y7s} (h1:nY H L (lvl F best k)) (h2:TbG K H d R sy) (h3:vH F M best sy R) (h4:k<=M) (q:∀D H',Y1->H D=none->Y4g D (lvl F best (k+1))->Y0Q):wW K [.ref L,.ref d] H Q E
inductive wU (K:Aa):Yk
 | i {H:Hp} {Q:VK} {E:XK} {d:Addr} {F M:Nat} {best:Y0r} {sy:Ae->Ak} {R:Y7s} (h2:TbG K H d R sy) (h3:vH F M best sy R) (q:∀D H',Y1->H D=none->Y4g D Y6h->Y0Q):wU K [.int (F:Int),.ref d] H Q E
inductive qS (K:Aa):Yk
 | i {H:Hp} {Q:VK} {E:XK} {d:Addr} {F M:Nat} {best:Y0r} {sy:Ae->Ak} {R:Y7s} (h2:TbG K H d R sy) (h3:vH F M best sy R) (q:Y4k (LM K H' (ruG F M best sy) v->Y1o)):qS K [.int (F:Int),.ref d] H Q E
theorem AR{F M:Nat}{best:Y0r}(hF:1<=F)(on:∀c,Y0o=0->Y1z):∀j,lvl F best (M+1+j)=[]
 | 0=>by
  refine List.eq_nil_iff_forall_not_mem.mpr λd hd=>?_;obtain⟨c,hc,h0,_⟩:=(mD hF).mp hd;have a:=(iX ((mF hF M).subset hc)).2;have:=on c h0;exact Oo
 | j+1=>by
  refine List.eq_nil_iff_forall_not_mem.mpr λd hd=>?_;obtain⟨c,hc,_⟩:=(mD (k:=M+1+j) hF).mp hd;rw[AR hF on j]at hc;cases hc
theorem JQ{F k:Nat}{best:Y0r}(hF:1<=F)(h:lvl F best k=[]):∀j,lvl F best (k+j)=[]
 | 0=>h
 | j+1=>by
  refine List.eq_nil_iff_forall_not_mem.mpr λd hd=>?_;obtain⟨c,hc,_⟩:=(mD (k:=k+j) hF).mp hd;rw[JQ hF h j]at hc;cases hc
theorem FH{F k:Nat}{best:Y0r}(hF:1<=F)(h:lvl F best k=[]):∀j,(List.range (k+j)).flatMap (lvl F best)=(List.range k).flatMap (lvl F best)
 | 0=>rfl
 | j+1=>by rw[<-Nat.add_assoc,rF,JQ hF h j,List.append_nil,FH hF h j]
section
def aIf(F:Ya "looks_on" "looks_on" aDR)(T:Ye):dO P w K mg base cW 1 f fd ["says"] (lP K):=by
 refine F.oky aJk λp H Q E h=>?_;obtain @⟨H,Q,E,z,f,fs,⟨r,u,rfl,a,e⟩,k⟩:=h;refine Y3 ?_;intro m A d s B _;obtain⟨y,n,l⟩:=e.get (i:=0) rfl;obtain⟨b,rfl,g⟩:=l.v;refine Y3A (oZ BZ (Y5q (Y5N 0 (Yjf YaO)) aK) aK) (Y5 (lE a (Y7a n) ?_));exact nZ g rfl (Y0E _ _ rfl k)
def aId(F:Ya "noughts" "noughts" aDP)(T:Ye):dO P w K mg base cW 1 f fd ["faces"] mW:=by
 refine F.oky aJj λG H Q E h=>?_;obtain @⟨H,Q,E,F,M,k⟩:=h;refine Y3 ?_;intro r A d s N _;refine Y5D (Ydo dM (by rfl) Kk (Y1W (Y6Z ["face"] [] (fR rfl T.b_range (Y2L 0)) aK)));refine Y3t _ rfl _ Oo Oo (Yc2 (∃n,y=Y4G/\n=0) Ybw Oo (λi H' Q' J L u=>u _ H' (Y09) (Yx 0 rfl)) (λD I H1 O z g B a=>?_));obtain⟨e,rfl,C⟩:=nH (P:=λ_ n=>n=0) a;have m:e=Y02:=by
  rw[aA]at B;exact List.eq_replicate_iff.mpr ⟨Oo,λb j=>by obtain⟨i,h⟩:=gK.mp j;exact C i b h⟩
 subst m;refine Y8d D _ (Ybq z (λl p=>?_));refine k _ _ (g.trans (aT.upd p)) (wC ?_);rw[bK,List.map_replicate,List.map_replicate];rfl
def aIx(F:Ya "counts_behind" "counts_behind" aD7)(T:Ye)(FQ45:Y0k "looks_on" ["says"] (lP K))(FQ50:Y2B "ones_more" a35 fU):dO P w K mg base cW 3 f fd ["level","table"] (wW K):=by
 refine Y0P aCi;obtain @⟨H,Q,E,L,d,F,M,n,l,sy,R,LS,tb,I,hk,q⟩:=h;refine Y3 ?_;intro cdv A ν s ω _;obtain⟨ys,hL,ry,ly⟩:=LS.len;have f1:=I.f1;have f4:=I.f4;have m5:=I.m5;have ε:∀(j:Nat) (d:Af),(∃c∈(lvl F l n).take j,l c=0/\∃f,f<F/\d=ci (cH c f))->d∈(lvl F l (n+1)).map ci:=λj d ⟨c,u,B,f,C,e⟩=>aN.mpr ⟨Y4O,(mD f1).mpr ⟨c,List.mem_of_mem_take u,B,f,C,rfl⟩,e.symm⟩;have small:(lvl F l (n+1)).length<=56:=by
  by_cases z:n+1<=5
  ·exact aL (mF f1 (n+1)).length_le (yR F f4 (n+1) z)
  ·have e:=AR f1 I.on (n-M);rw[show M+1+(n-M)=n+1 by exact Oo]at e;rw[e];exact Y0l
 refine⟨_,(aH (Y1E aCi.nd nM)
  (aH (Y8t (eJ Y0H) (Ybl 3 aCi.nd) (iM (IL (BA (eC (XV ω.u1) (Y0h) (Y0w) (by with_unfolding_all rfl)) (wH (qE (fV FQ45 (gY ω.u1 Y0w Y0h)))))) (aS (Y8t (eJ (YeX 3)) (Ybl 4 aCi.nd) (jC ω.u1 Y0c (aD 4) VJ))) fJ))
  (Y1k (jK (aB8 rfl) (by rfl) T.b_sorted Kk (Y2L 2))))),?_⟩
 refine Yo;intro χ n_;intro p hp;have κ:=Y5R [] hp;have e1:(upd H p (.dT [])) p=Y0a []:=bK;generalize upd H p (.dT [])=H1 at κ e1 ⊢;refine Y9G L _ (κ _ _ hL) ?_;refine mG (xs:=ys) (λj σ H'=>Ex4 λ(ρ ζ:Am) (r:List (List fQ × V)) (ks:Ac)=>An6 (σ=[Y9n,Y6 d,Y3j,ρ,ζ]) (Y1) (Y34=Y0a r) (r.map (·.1)=ks.map kT) (ks.Nodup) (∀d,d∈ks ↔ ∃c∈(lvl F l n).take j,l c=0/\∃f,f<F/\d=ci (cH c f)))
  ⟨_,_,[],[],rfl,κ,e1,rfl,List.nodup_nil,λd=>⟨(λh=>by cases h),λ⟨c,u,_⟩=>by rw[List.take_zero]at u;cases u⟩⟩ (YiL) ?_ ?_
 ·obtain⟨_,_,_,_,_,S',_⟩:=q;exact gJ.of (S' _ _ hL)
 ·rintro j x σ H2 hx ⟨ρ,ζ,r,ks,rfl,S2,Z,N,nd,γ⟩;refine Y5b;intro χ;obtain⟨cc,u,rc⟩:=eW ry hx;obtain⟨ac,rfl,Y⟩:=iL rc;have U:=aE u;obtain⟨lc,sc⟩:=iX ((mF f1 n).subset U);have hcr:Y3d cc:=(gA f1).mpr (Y1N lc);obtain⟨tk,ht,ψ⟩:=tb.same S2;obtain⟨v,hv,sv⟩:=ψ cc (I.lvl n U);have step:∀d,(∃c∈(lvl F l n).take (j+1),l c=0/\∃f,f<F/\d=ci (cH c f))↔(∃c∈(lvl F l n).take j,l c=0/\∃f,f<F/\d=ci (cH c f))\/(l cc=0/\∃f,f<F/\d=ci (cH cc f)):=λd=>by
   rw[iB u];constructor
   ·rintro⟨c,W,h⟩;rcases dJ.mp W with θ | θ
    ·exact Yf9 c θ h
    ·rw[cA.mp θ]at h;exact .inr h
   ·rintro(⟨c,W,h⟩ | h)
    ·exact⟨c,cO _ W,h⟩
    ·exact⟨cc,bL _ (cA.mpr rfl),h⟩
  refine Y0g (rind (YkK ht (Y1V Y)) ?_);rw[hv];refine Y5 (pO ?_);refine Y0g (Y5x ht cc (by rw[fM];exact Y1V Y) hv);obtain⟨hf0,hfs,υ,δ⟩:=I.hd cc (I.lvl n U);rw[υ]at sv;refine lP.i sv (Y5 (xH (Yc9) (Yc9)))
  ·have B:l cc=0:=δ.mp on;refine Y2i;intro χ;refine Y7;refine fU.i (wC (Y1V Y)) Oo λD zs H3 hD e3 r3 ξ=>Y1h D e3 ?_;have lz:YhT F:=by rw[r3.len,aA,aA,aV];exact lc
   have nDp:D≠p:=λz=>by rw[z,Z]at hD;cases hD
   refine mG (xs:=zs) (λg σ H'=>Ex3 λ(ζ:Am) (r:List (List fQ × V)) (ks:Ac)=>An6 (σ=[Y9n,Y6 d,Y3j,Y6 ac,ζ]) (aU p H3 H') (Y34=Y0a r) (r.map (·.1)=ks.map kT) (ks.Nodup) (∀d,d∈ks↔(∃c∈(lvl F l n).take j,l c=0/\∃f,f<F/\d=ci (cH c f))\/∃f,f<g/\d=ci (cH cc f)))
    ⟨_,r,ks,rfl,(Y09).but,ξ _ _ Z,N,nd,λd=>by rw[γ];exact Yfb .inl (by rcases h with h | ⟨f,C,_⟩;exact h;exact Oo)⟩ (λg σ H' _ q=>?_) ?_ ?_
   ·obtain⟨_,_,_,_,b',_⟩:=q;exact YgD nDp e3
   ·rintro g z σ H4 hz ⟨ab,X,G,rfl,η,e4,S,J,O⟩;refine Y5b;intro χ;have hg:g<F:=by have:=(aB.mp hz).1;exact Oo
    obtain⟨c2,α,μ⟩:=eW r3 hz;rw[aG,bP Oo]at α;cases α;have t4:fF H3 H4:=aU.tT η (ξ _ _ Z);obtain⟨a2,rfl,τ⟩:=iL (μ.flat t4 (rG _));have lk:G.length<=56:=by
     have:=yK J (m:=(lvl F l (n+1)).map ci) λd hd=>by
      rcases(O d).mp hd with h | ⟨f,C,e⟩
      ·exact ε j d h
      ·exact ε (j+1) d ((step d).mpr (.inr ⟨B,f,Oo,e⟩))
     rw[aA]at this;exact Oo
    have lkv:X.length=G.length:=by have:=Y8i S;simpa using this
    refine Y01;refine Y4v e4 (cH cc g) (by rw[fM];exact τ) Oo (λH5 e5 b5=>?_);obtain⟨ks2,k1,k2,k3⟩:=aE9 (v:=Ycr) (ci (cH cc g)) S J;refine⟨_,_,ks2,rfl,η.trans b5,e5,k1,k2,Y5c⟩;rw[k3,O];constructor
    ·rintro((h | ⟨f,C,e⟩) | h)
     ·exact YcV
     ·exact Y7A f Oo e
     ·exact Y7A g Oo h
    ·rintro(h | ⟨f,C,e⟩)
     ·exact Ye4 h
     ·by_cases q:f=g
      ·subst q;exact .inr e
      ·exact .inl (Y7A f Oo e)
   ·rintro σ H4 ⟨ab,X,G,rfl,η,e4,S,J,O⟩;refine⟨_,_,X,G,rfl,aT.thru hp (S2.trans ξ) η,e4,S,J,Y5c⟩;rw[O,step,lz];constructor
    ·rintro(h | h)
     ·exact YcV
     ·exact Y3x B h
    ·rintro(h | h)
     ·exact YcV
     ·exact .inr h.2
  ·have B:¬l cc=0:=λz=>on (δ.mpr z);refine⟨_,_,r,ks,rfl,S2,Z,N,nd,Y5c⟩;rw[γ,step];exact Yfb .inl (by rcases h with h | h;exact h;exact absurd h.1 B)
 ·rintro σ H2 ⟨ρ,ζ,r,ks,rfl,S2,Z,N,nd,γ⟩;rw[ly,dX]at γ;have y:∀d,d∈ks↔d∈(lvl F l (n+1)).map ci:=λd=>by
   rw[γ,aN];constructor
   ·rintro⟨c,u,B,f,C,e⟩;exact⟨Y4O,(mD f1).mpr ⟨c,u,B,f,C,rfl⟩,e.symm⟩
   ·rintro⟨d',ο,rfl⟩;obtain⟨c,u,B,f,C,rfl⟩:=(mD f1).mp ο;exact⟨c,u,B,f,C,rfl⟩
  have lk:ks.length<=56:=by
   have:=yK nd (m:=(lvl F l (n+1)).map ci) λd hd=>(y d).mp hd;rw[aA]at this;exact Oo
  refine Y7;refine rsrd (cs:=ks) Z N (λc u=>?_) Oo λq8 φ ds H8 pm pw ι e8 r8 s8=>?_
  ·obtain⟨d,hd,rfl⟩:=aN.mp ((y c).mp u);obtain⟨l1,_⟩:=iX ((mF f1 (n+1)).subset hd);intro z;have e:(ci d).length=d.length:=by unfold ci;rw[aA]
   rw[z,List.length_nil]at e;exact Oo
  have β:((lvl F l (n+1)).map ci).Pairwise λa b=>sL a b=true:=by
   by_cases z:n+1<=5
   ·exact(aB4 F f4 (n+1) z).sublist ((mF f1 (n+1)).map ci)
   ·have e:=AR f1 I.on (n-M);rw[show M+1+(n-M)=n+1 by exact Oo]at e;rw[e];exact List.Pairwise.nil
  have aa:ds=(lvl F l (n+1)).map ci:=JY pw β λd=>by rw[pm.mem_iff];exact y d
  rw[aa,List.map_map,show(lvl F l (n+1)).map ((λc:Af=>PyData.tuple (c.map .int)) ∘ ci)=(lvl F l (n+1)).map vB from fN λc _=>ctI c]at r8;exact q q8 H8 (S2.trans s8) (S2.free ι) ⟨φ,e8,r8⟩
def aIw(F:Ya "counts_come_to" "counts_come_to" aD6)(T:Ye)(FQ47:Y0k "noughts" ["faces"] mW)(FQ27:Y2t "counts_behind" ["level","table"] (wW K)):dO P w K mg base cW 4 f fd a07 (wU K):=by
 refine F.oky aCh YiW;obtain @⟨H,Q,E,d,F,M,a,θ,R,δ,I,q⟩:=h;refine Y3 ?_;intro ε A S s ν _;have f1:=I.f1;have f4:=I.f4;have m5:=I.m5;refine⟨_,(aH (Y1E aCh.nd (iJ aQ))
  (aH (Y15 aCh.nd (iJ (Y1W (Y5C FQ47))))
  (aH (wI PassesOwn.never (eC BZ (Yag oG (by rfl) Kk 3) aK) (aH (lJ (Yil NB Y0c (Y2L 3)))
  (aS (Y1D 3 aCh.nd FQ27 3 Y0w))))
  (Y2g 2)))),?_⟩
 refine Yo;intro W X;refine DT (by show 0<=64;decide) λr H1 y l Z=>Ys;intro W X;refine Y7;refine mW.i Oo λv H2 J L=>DT (by show 1<=64;decide) λle H3 u B n=>?_;have C:=(Z.trans J).trans n;have p:le≠r:=λz=>by subst z;rw[J _ _ l]at u;cases u
 have g:∀i,i<=M+1->((List.range i).flatMap (lvl F a)).length<=400:=λi κ=>aL (CY (mF f1) (List.range i)).length_le (yX F f4 i Oo);refine AB (λm σ H'=>Ex3 λ(le:Addr) (e:Al) (j:Nat)=>An8 (σ=[Yd (F:Int),Y6 d,Y6 r,Y6 le]) (Y1) (H' r=Yq e) (Y3M (((List.range j).flatMap (lvl F a)).map vB) e) (Y4g le (lvl F a j)) (le≠r) (j<=M+1) (m=M+1-j))
  (λσ H'=>∃(le:Addr) (e:Al),σ=[Yd (F:Int),Y6 d,Y6 r,Y6 le]/\Y1/\H' r=Yq e/\Y3M ((rE F M a).map vB) e)
  _ ⟨le,[],0,rfl,C,n _ _ (J _ _ l),bJ.nil,Y0C B (Ydr (L.same n)),p,Y0l,rfl⟩ ?_ ?_
 ·clear l Z J n C B u p L;rintro m σ H1 ⟨le,e,j,rfl,S1,l,G,L1,p,η,rfl⟩;obtain⟨Y,α,L,lw⟩:=L1.len;have ι:e.length=((List.range j).flatMap (lvl F a)).length:=gE G;have ξ:=g j η;refine Y5 (Yb3 α);refine Y85 _ _ _;by_cases hz:lvl F a j=[]
  ·have ο:Y.length=0:=by rw[lw,hz];rfl
   refine tZ (bZ Oo) (Y6Y le e S1 l ?_);have:=FH f1 hz (M+1-j);rw[show j+(M+1-j)=M+1 by exact Oo]at this;unfold rE;rw[this];exact G
  ·have μ:0<(lvl F a j).length:=List.length_pos_iff.mpr hz;have N:j<=M:=cJ λz=>hz (by
    have:=AR f1 I.on (j-(M+1))
    rwa [show M+1+(j-(M+1))=j by exact Oo]at this)
   refine CO (cR Oo) (Yo);intro W X;have O:=g (j+1) Oo;rw[rF,aW]at O;refine⟨_,rfl,UR l,_,rfl,?_⟩;refine aFp l α Oo λH2 B U=>?_;have β:=U.t l;have S2:Y2c H2:=aT.thru y S1 U;refine Y01;refine wW.i (L1.butL U l p) (δ.same S2) I N λD H3 n γ L3=>?_;have ζ:D≠r:=λz=>by subst z;rw[B]at γ;cases γ
   refine⟨_,Oo,D,e++Y,j+1,rfl,S2.trans n,n _ _ B,?_,L3,ζ,Oo,rfl⟩;rw[rF,bE];exact bJ.app ((G.flat β (mH _)).same n) ((L.flat β (mH _)).same n)
 ·rintro σ H1 ⟨le,e,rfl,S1,l,G⟩;exact Y5 (q r H1 S1 y ⟨e,l,G⟩)
def aHZ(F:Ya "rule_within" "rule_within" aDB)(T:Ye)(FQ28:Y14 4 "counts_come_to" a07 (wU K)):dO P w K mg base cW 5 f fd a07 (qS K):=by
 refine F.oky aJa λο H Q E h=>?_;obtain @⟨H,Q,E,d,F,M,a,G,R,N,I,q⟩:=h;refine Y3 ?_;intro ζ A p s μ _;have f1:=I.f1;refine Y5D (Ydo dM (by rfl) Kk (Y1W (Y6Z ["counts","table"] [1] (eJ (Y1v FQ28 0 1)) (dU (Y1Y 0 (gY μ.u1 Y0w Y0H))))));refine Y01;refine wU.i N I λD H1 m ψ L1=>?_;obtain⟨τ,O,κ,υ⟩:=L1.len;have ρ:(rE F M a).length<=400:=aL (jF f1).length_le I.r;refine Y1h D O (Yet (∃e,(ruG F M a G)[i]?=Y6k/\EnW K H' e y) (λi y φ χ s ⟨e,n,B⟩=>⟨e,n,B.t s⟩) Oo O (λi x H' Q' Y u η=>?_) (λD2 j H2 ξ Z ι ω C=>?_))
 ·obtain⟨g,J,ν⟩:=eW κ Y;obtain⟨b,rfl,L⟩:=iL (ν.same u);obtain⟨X,W,S⟩:=N;obtain⟨v,β,ε⟩:=S g (I.ruC (aE J));refine Y2k (Y5x (u _ _ (m _ _ W)) g (by rw[fM];exact L) β);exact qH (by show 2<=64;decide) λU H3 α θ z=>η _ H3 z ⟨(g,G g),by unfold ruG;rw[aG,J];rfl,U,b,v,rfl,θ,z _ _ L,ε.t ((m.trans u).trans z).t⟩
 ·refine Y8d D2 j (Ybq Z (λl δ=>?_));have sl:=Y8a j δ;refine q _ _ ((m.trans ι).trans sl) (Y6Y l j bK (by unfold ruG;rw[aA];exact Oo) (λi y γ=>?_));obtain⟨e,n,B⟩:=C i y γ;exact⟨e,n,B.t sl.t⟩
end
def TbW(K:Aa)(H:Hp)(d:Addr)(rs:Ab)(W:Nat)(best:Y0r):Prop:=∃kvs,H d=Y10/\∀c∈rs,∃v,Y7T=Yn/\EC K H (Y5t) v
inductive uO (K:Aa) (C:Addr):Yk
 | i {H:Hp} {Q:VK} {E:XK} {x bp:Addr} {kb:Yu} {F W M:Nat} {ss:Aj} {mix cs:Ak} {us:Ae} {cu:Nat} {best:Y0r} (h1:zW H x C F W M ss mix cs us cu) (h2:H bp=Y91) (h3:UQ kb Y07 best) (h4:W<=4) (h5:(Y07).length<=400) (k:∀d H',Y1->TbW K H' d (Y07) W best->Y4Y d):uO K C [Y1H,YcE] H Q E
section
def aH6(F:Ya "plain_table" "plain_table" aDI)(T:Ye):dO P w K mg base cW 1 f fd a09 (uO K c.Weighing):=by
 refine F.oky aCc λS H Q E h=>?_;obtain @⟨H,Q,E,x,χ,kb,F,W,M,ss,mix,cs,us,cu,a,wg,N,R,w4,r4,k⟩:=h;refine Y3 ?_;intro cdv A G s ν _;obtain⟨ul,dx,fl,ω,ua,wa,ca,ρ,kvs,ε,a1,a2,a3,a4,a5,⟨S,η,r⟩,a7,a8,a9,a10,a11⟩:=wg;have O:=T.w_Weighing;have J:S.length=(Y07).length:=by rw[r.len,aA]
 refine⟨_,(aH (Y1E aCc.nd (Yf2 oG (by rfl) Kk (Y1W Y3b)))
  (aH (Y15 aCc.nd nM)
  (aH (Y8t Y67 (Ygf 4 aCc.nd rfl rfl) (jC ν.u1 Y0h (aD 4) (Ydo dM (by rfl) Kk (Y1W (Y6Z ["place","best_at","counts"] [1,4] (Y7b (Y3F aK Y0c)) (nK (eC oJ (aD 0) (gY ν.u1 Y0w Y0c)) (Yhn Yed rfl) (YgB YbE rfl)))))))
  (Y2g 3)))),?_⟩
 refine Yo;intro κ ψ;refine Y1B (by simp) ε a2;refine rlL a7 (Ys);intro κ ψ;rw[aA,ul];intro p ζ;have u:=Y5R [] ζ;have δ:(upd H p (.dT [])) p=Y0a []:=bK;generalize upd H p (.dT [])=H1 at u δ ⊢;refine Y1B (by simp) (u _ _ ε) a1;refine Y1h ω (u _ _ η) ?_;refine mG (xs:=S) (YdL (λ(Z:Am) (j:List (List fQ × V))=>An5 (σ=[Y7N,Y6 χ,Yd (W:Int),Y3j,Z]) (Y1) (Y34=Y0a j) (j.length<=i) (∀d∈(rise F M).take i,∃v,gD j (Y3s d)=Yn/\EC K H' (zT W (a d)) v)))
  ⟨_,[],rfl,u,δ,Yy,λd B=>by simp at B⟩ (Y9T) ?_ ?_
 ·obtain⟨_,_,_,S',_⟩:=q;exact gJ.of (S' _ _ η)
 ·rintro i y σ H2 θ ⟨Z,j,rfl,S2,C,υ,D2⟩;refine Y5b;intro κ;obtain⟨d,B,Y⟩:=eW r θ;have hi:=(aB.mp θ).1;obtain⟨ac,rfl,n⟩:=iL Y;have hb:=R.1 d (aE B);refine⟨_,rfl,_,_,rfl,rfl,_,rfl,Oo,Oo,kU (λq z H'=>q<1+W/\AY K H' (if q=a d then(1,1) else(0,1)) z) (λq z Ha Hb s ⟨X,g⟩=>⟨X,g.t s⟩) Oo (λq H' Q' L α γ=>?_) (λD m H3 hD e3 I τ U=>?_)⟩
  ·have L:q<1+W:=Oo;rw[Int.zero_add];refine Y2k (Y5x (α _ _ (Y1V N)) d (by rw[fM];exact α _ _ (Y1V n)) hb);refine YcS Yap
   ·have e:q=a d:=by injection e with e;exact Oo
    exact γ _ H' (Y09) ⟨L,by rw[Y1s];exact YeO T.o_ONE⟩
   ·have e:¬q=a d:=YaC (by rw[z]);exact γ _ H' (Y09) ⟨L,by rw[Y0F];exact YeO T.o_NOUGHT⟩
  ·refine Y7y D m e3;have sl:=Y5l m;have ι:(upd H3 l (.tup m)) l=Ym m:=bK;generalize upd H3 l (.tup m)=H4 at sl ι ⊢;have ly:m.length=1+W:=Oo;have sa:EC K H4 (zT W (a d)) (Y0G):=⟨l,m,rfl,ι,by unfold zT;rw[aA,aV];exact ly,λq z φ=>by
    obtain⟨X,g⟩:=U q z φ;exact Y0C (by unfold zT;rw[aG,bP X];rfl) (g.t sl.t)⟩
   refine Y01;have S4:=(S2.trans I).trans sl;have ο:=sl _ _ (I _ _ C);refine Y4v ο d (by rw[fM];exact Y1U n) Oo (λH5 e5 β=>?_);have ξ:fF H4 H5:=aU.tT β ο;refine⟨_,_,rfl,aT.thru ζ S4 β,e5,by have:=Y5f j d (V.ref l);exact Oo,λμ g=>?_⟩;rw[iD];by_cases e:μ=d
   ·subst e;rw[Yr];exact Y5 (sa.t ξ)
   ·rw[Y1Z (e (Y60 z))];rw[iB B]at g;rcases dJ.mp g with g | g
    ·obtain⟨v,g1,g2⟩:=D2 μ g;exact⟨v,g1,((g2.t I.t).t sl.t).t ξ⟩
    ·exact Ygq g e
 ·rintro σ H2 ⟨Z,j,rfl,S2,C,υ,D2⟩;rw[J,dX]at D2;exact Y5 (k p H2 S2 ⟨j,C,D2⟩)
end
end Kw
namespace L2
open PySem PySem.Spec PySem.W PyProof.Rows HT
section
variable{prog:Program}{w:World}{A:Around}{E:Yc}{s:Shared}
end
section
variable{X:Cx}{pins:Ad}{σ:St}{H:Hp}{s:Shared}
end
section
variable{X:Cx}{pins:Ad}{σ:St}{H:Hp}{s:Shared}
end
end L2
namespace HT
open PySem PySem.W PyProof.Rows
section
variable{A:Around}{s:Shared}
end
section
open PySem.SeqAt
open PySem.AutoSeq1 (wpAny_loadPart')
open PySem.MeetsSeq PySem.MeetsSeq2 PySem.MeetsSeq3
end
section
variable{prog:Program}{w:World}{A:Around}{E:Yc}{s:Shared}
end
end HT
namespace L2
open PySem PySem.Spec PySem.W PyProof.Rows HT
section
variable{X:Cx}
end
end L2
namespace HT
open PySem PySem.W PyProof.Rows PySem.SeqAt
open PySem.MeetsSeq PySem.MeetsSeq2 PySem.MeetsSeq3
open PySem.AutoSeq1 (wpAny_loadPart')
abbrev lsO(xs:Ai)(n:Nat)(dd:Y2N)(sl:Y55):Obj:={ cls:=.type "list",dict:=dd,data:=.seq xs n,slots:=sl }
def QJ{xs:Ai}{ns:Af}(h:YjG):Ya3 xs.size/\∀i (hi:i<xs.size),∃t,∃hn:i<ns.length,xs[i]=Y3E (ns[i]):=by
 have d:∀{c:Ag} {ns:Af},Y75 c->Ya3 c.length/\∀i (hi:i<c.length),∃t,∃hn:i<ns.length,c[i]=Y3E (ns[i]):=by
  intro c ns q
  induction q with
  | nil=>exact Y3 (λi hi=>by simp at hi)
  | cons a t q ih =>
   refine⟨by rw[cK,cK,ih.1],λi hi=>?_⟩;cases i with
   | zero=>exact Y4W t (by simp)
   | succ i =>
    obtain⟨u,hn,e⟩:=ih.2 i (by simpa using hi);exact⟨u,by simpa using hn,by simpa using e⟩
 obtain⟨g,j⟩:=d h;refine⟨by rw[g];simp,λi hi=>?_⟩;obtain⟨t,hn,e⟩:=j i (by simpa using hi);exact⟨t,hn,by rw[<-e];simp⟩
def aBF(l b:Addr){xs ys:Ai}(n n2:Nat)(dd dd2:Y2N)(sl sl2:Y55){ns ms:Af}(hx:YjG)(hy:IntsAre ys.toList ms)(hz:Ygo)(k:Nat):∀i:Nat,xs.size-i=k ->
  Meets (Builtin.«list.__eq__.loop» ⟨[Y0G,Y0e,rawInt i,rawInt 0],[]⟩) (λA R s=>(Y1u l (lsO xs n dd sl)/\Y1u b (lsO ys n2 dd2 sl2))/\R (.ok (.ret (.bool (vK (ns.drop i) (ms.drop i))))) s):=by
 obtain⟨U,T⟩:=QJ hx;obtain⟨W,O⟩:=QJ hy
 induction k with
 | zero =>
  intro i S a w A R s ⟨⟨m,j⟩,h⟩;obtain⟨r,g,d,z,p⟩:=s;have J:Y1Q (((i:Nat):Int).toNat)=none:=by simp;exact Oo
  have n2:ys[((i:Nat):Int).toNat]?=none:=by simp;exact Oo
  rw[List.drop_eq_nil_of_le Oo,List.drop_eq_nil_of_le Oo]at h
  wp_walk using YfT,YfS
  rw[J,n2]
  wp_walk using YfT,YfS
  have I:Yw (Y1c xs.size ys.size):=bZ Oo;show R (.ok (.ret (.bool (Y1c xs.size ys.size)))) _;rw[I];exact h
 | succ k ih =>
  intro i S a w A R s ⟨⟨m,j⟩,h⟩;obtain⟨r,g,d,z,p⟩:=s;have y:i<xs.size:=Oo;have B:i<ys.size:=Oo;obtain⟨t,L,P⟩:=T i y;obtain⟨u,M,G⟩:=O i B;have C:Y1Q (((i:Nat):Int).toNat)=some (Y3E (ns[i])):=by rw[<-P];simp[y]
  have D:ys[((i:Nat):Int).toNat]?=some (Y96 (ms[i])):=by rw[<-G];simp[B]
  have up:((i:Int)+1)=((i+1:Nat):Int):=Oo;rw[List.drop_eq_getElem_cons L,List.drop_eq_getElem_cons M,CK]at h
  wp_walk using YfT,YfS
  rw[C,D];obtain⟨e,N,c⟩:=YY A.in1 ⟨r,g,d,z,p⟩ ns[i] t ms[i] u;refine wpAny_bind (N a w _ _ ?_);cases e with
  | true =>
   rw[if_pos (c.mp rfl)]at h
   wp_walk
   rw[up];refine⟨Yjq plain_eq_loop,YfV entry_eq_loop⟩;rw[YfC plain_eq_loop];exact ih (i+1) Oo a w A R _ ⟨⟨m,j⟩,h⟩
  | false =>
   rw[Y3u (Y21 (c.mpr q))]at h
   wp_walk using YfT,YfS
   rw[C,D];refine wpAny_bind ((PyProof.Rows.lt_int ?_:wpAny (model a w) A.in1 (compareOp .Lt (.int ns[i] t) (.int ms[i] u)) _ _ _))
   wp_walk
   exact h
def aBI(l b:Addr){xs ys:Ai}(n n2:Nat)(dd dd2:Y2N)(sl sl2:Y55){ns ms:Af}(hx:YjG)(hy:IntsAre ys.toList ms)(hz:Ygo) :
  Meets (Builtin.«list.__lt__» ⟨[Y0G,Y0e],[]⟩) (λA R s=>(Y1u l (lsO xs n dd sl)/\Y1u b (lsO ys n2 dd2 sl2))/\R (.ok (.ret (.bool (vK ns ms)))) s):=by
 intro a w A R s ⟨⟨c,e⟩,h⟩;obtain⟨j,g,d,i,m⟩:=s;have sub:=AutoSeq1.sub_list_list
 wp_walk using YdE,wpAny_loadPart' e
 refine⟨Yjq plain_eq_loop,YfV entry_eq_loop⟩;rw[YfC plain_eq_loop];exact aBF l b n n2 dd dd2 sl sl2 hx hy hz _ 0 rfl a w A R _ ⟨⟨c,e⟩,by rw[List.drop_zero,List.drop_zero];exact h⟩
theorem nH:∀{ns:Af}{us:Ag},L2.eI (ns.map L2.V.int) us->Y75 us
 | [],_,r=>by cases r;exact .nil
 | n::ns,_,r=>by
  cases r with
  | cons h t =>
   obtain⟨k,rfl⟩:=h;exact .cons n k (nH t)
end HT
namespace L2
open PySem PySem.Spec PySem.W PyProof.Rows HT
@[irreducible] def aA5:R2:=λx y H Q=>∃(a b:Addr) (ns ms:Af),x=Yf/\y=Y0e/\H a=Yae/\H b=Yq (ms.map V.int)/\Ygo/\Y2r (vK ns ms)
def rltl{H:Hp}{Q:VK}{a b:Addr}{ns ms:Af}(h1:H a=Yae)(h2:H b=Yq (ms.map V.int))(h3:Ygo)(q:Y2r (vK ns ms)):aA5 (Yf) (Y0e) H Q:=by unfold aA5;exact⟨a,b,ns,ms,rfl,rfl,h1,h2,h3,q⟩
section
variable{X:Cx}
def aEW(hu:Ydw 64<cLine):Y30 .Lt aA5:=by
 unfold aA5;intro e s σ H x y v u Q I G m h;obtain⟨a,b,d,c,rfl,rfl,B,p,L,q⟩:=h;cases G;cases m;obtain⟨_,n,r,C,g⟩:=(show hV X.prog X.w H s.heap a (.lst (d.map V.int))from I.hok a _ B);obtain⟨_,j,J,D,i⟩:=(show hV X.prog X.w H s.heap b (.lst (c.map V.int))from I.hok b _ p);have l:IntsAre n.toArray.toList d:=by simpa using HT.nH C
 have z:IntsAre j.toArray.toList c:=by simpa using HT.nH D
 exact richCompare_meets_room (op:=.Lt) (Y0B g) (Y0B i) PySem.F.slot_list_lt PySem.F.entry_list_lt (PySem.F.args_list_lt_2 _ _) (aBI a b r J _ _ _ _ l z L) ⟨⟨g,i⟩,show Value.bool (vK d c)≠Value.notImplemented/\_ from⟨(λx=>nomatch x),⟨.bl _,H,I,rfl,q⟩⟩⟩ Oo
end
end L2
namespace Kw
open PySem L2 Mf
abbrev aDO:Stmt:=(top 24)
def aJi:Yg a39 a39 aDO:={}
abbrev aDE:Stmt:=(top 25)
def aJe:Yg a33 a33 aDE:={}
def YZ(xs ys:Af):Int:=(List.zipWith (· * ·) xs ys).sum
def aEZ(n k:Nat):Af:=(List.range n).map λj=>if j=k then 1 else 0
inductive qV:Yk
 | i {H:Hp} {Q:VK} {E:XK} {n k:Nat} (h:n<=64) (q:∀D H',H D=none->Y0x=Yq ((aEZ n k).map V.int)->Y1->Y0Q):qV [.int (n:Int),.int (k:Int)] H Q E
inductive uP:Yk
 | i {H:Hp} {Q:VK} {E:XK} {a b:Addr} {xs ys:Af} (h1:H a=Yq Ygx) (h2:H b=Yq YjT) (h3:Ygm) (h4:Y5T 64) (h5:∀x∈xs,Yf6) (h6:∀y∈ys,y.natAbs<Y0J) (q:∀H',Y1->Q (.int (YZ xs ys)) H'):uP [Yf,Y0e] H Q E
def oW{ys:Al}{g:Y0}{n:Nat}(hl:Y9s)(h:∀(i:Nat) (y:V),Y19=Y03->Y3Q (g i)):ys=((List.range n).map g).map V.int:=by
 refine Y7t;rw[aG,aG];by_cases hi:i<n
 ·rw[bP hi,Y6v];exact YdS (h i _ (Y6v))
 ·rw[Y9l,cB (by rw[aV];exact Oo)];rfl
def sN{xs:Af}{i:Nat}{v:V}(h:(Ygx)[i]?=Yn):∃x,Y0s=Yb/\v=(.int x):=by
 rw[aG]at h;obtain⟨x,a,rfl⟩:=eL.mp h;exact Y4W x a
def AA{f:Int->Int->Int}{xs ys:Af}(hl:Ygm):List.zipWith f xs ys=(List.range xs.length).map λi=>f (Ycg i) (YeC 0):=by
 refine Y7t;rw[List.getElem?_zipWith,aG];by_cases hi:Y3J
 ·have a:i<ys.length:=Oo;rw[bP hi];simp[hi,a]
 ·have c:Y0s=none:=Y9l;have d:(List.range xs.length)[i]?=none:=cB (by rw[aV];exact Oo);rw[c,d];rfl
def aGi{K:Aa}{H:Hp}{p:Addr}{ns:Af}{Q:VK}(h:H p=Yae)(q:Yeh):MP K Y48 H Q:=by unfold MP;exact Y0Z p ns YaA q
section
def aIc(F:Ya "one_among" "one_among" aDO)(T:Ye):dO P w K mg base cW 1 f fd a39 qV:=by
 refine YfX aJi ?_;obtain @⟨H,Q,E,n,k,G,q⟩:=h;refine Y3 ?_;intro p A a s l _;refine Y5D (Y6Z ["k","place"] [1] (fR rfl T.b_range (Y2L 0)) (nK (eC oJ (aD 0) Y0w) aK aK));refine Y3t _ rfl _ Oo Oo ?_;rw[show((n:Nat):Int).toNat=n by exact Oo];refine kU (n:=n) (λi y _=>Y3Q (if i=k then 1 else 0)) (Y9J) Oo (λi H' Q' C g j=>?_) (λD B H' u d g m l=>?_)
 ·refine Y68 _ rfl _ rfl Y7;rw[Int.zero_add,xL];by_cases e:i=k
  ·rw[show(((i:Nat):Int) == (k:Int))=true by rw[e];simp];exact pO (j _ H' (Y09) (by rw[Y1s]))
  ·rw[show(((i:Nat):Int) == (k:Int))=false by rw[beq_eq_false_iff_ne];exact Oo];exact nW (j _ H' (Y09) (by rw[Y0F]))
 ·rw[oW m l]at d;exact q D H' u d g
def aH2(F:Ya "product" "product" aDE)(T:Ye):dO P w K mg base cW 1 f fd a33 uP:=by
 refine YfW aJe ?_;obtain @⟨H,Q,E,a,b,xs,ys,u,l,n,G,C,I,q⟩:=h;refine Y3 ?_;intro L A g s p _;refine Y5D (jK (NT rfl) (by rfl) T.b_sum Kk (Y1W (Y7d a01 a01 [] (Ycq 0 Y0w) (Y2h dH 0 1))));refine Y0g (Y1e a b Ygx YjT u l (jU (b1:=false) (b2:=false) (xs:=Ygx) (ys:=YjT) (YkL z (Ycg i*YeC 0)) (Y9J) (by rw[aA];exact Oo) u l (by rw[aA,aA];exact n) (λi x y H' Q' J N m M=>?_) (λD R H' U j m B p=>?_)))
 ·obtain⟨S,e,rfl⟩:=sN J;obtain⟨W,d,rfl⟩:=sN N;exact Y6D _ _ _ _ (lD (C _ (aE e)) (I _ (aE d))) (M _ H' (Y09) (by rw[aR,aR,e,d];rfl))
 ·rw[aA]at B;rw[oW B p]at j;refine aGi j ?_;have:YZ xs ys=((List.range xs.length).map λi=>Ycg i*YeC 0).sum:=by unfold YZ;rw[AA n]
  rw[<-this];exact q H' m
end
abbrev aDY:Stmt:=(top 27)
def aJo:Yg a18 a18 aDY:={}
abbrev aDU:Stmt:=(top 26)
def ZW:Yg ["rows","steps","out","place","step"] ["rows","steps"] aDU:={}
def wF(H:Hp)(a:Addr)(m:Ac):Prop:=∃las:List Addr,H a=Yq YjC/\las.length=m.length/\∀(i:Nat) (l:Addr) (row:Af),las[i]?=some l->m[i]?=some row->H l=Yq (row.map V.int)
def wF.same{H H':Hp}{a:Addr}{m:Ac}(h:wF H a m)(s:Y1):wF H' a m:=by
 obtain⟨c,j,n,d⟩:=h;exact⟨c,s _ _ j,n,λi l row e g=>s _ _ (d i l row e g)⟩
def wF.at_{H:Hp}{a:Addr}{m:Ac}(h:wF H a m):∃vs:Al,H a=Yq vs/\Y5V m.length/\∀(i:Nat) (row:Af),m[i]?=some row->∃l,vs[i]?=Y6 l/\H l=Yq (row.map V.int):=by
 obtain⟨c,n,p,j⟩:=h;refine⟨_,n,by rw[aA,p],λi row d=>?_⟩;have g:i<c.length:=by have:=(Yay).1;exact Oo
 have e:=aC g;exact⟨c[i],by rw[aG,e];rfl,j i _ row e d⟩
structure MzK(N C:Nat)(m:Ac)(ss:Af):Prop where
 ls:ss.length=m.length
 few:m.length<=64
 row:∀r∈m,r.length=N
 n64:N<=64
 sz:∀r∈m,∀x∈r,Y8L (2^C)
 ssz:∀x∈ss,Y8L (2^C)
 c4:C<=4000
def zJ(m:Ac)(ss:Af)(i o:Nat):Bool:=HT.vK ((m.getD i []).map (· * ss.getD o 0)) ((m.getD o []).map (· * ss.getD i 0))
inductive AD:Yk
 | i {H:Hp} {Q:VK} {E:XK} {ra sa:Addr} {m:Ac} {ss:Af} {i o N C:Nat} (h1:wF H ra m) (h2:H sa=Yq (ss.map V.int)) (h3:MzK N C m ss) (h4:YeP i) (h5:YeP o) (q:∀H',Y1->Q (.bl (zJ m ss i o)) H'):AD [.ref ra,.ref sa,.int (i:Int),.int (o:Int)] H Q E
def CC(xs:Af)(s:Int):xs.map (· * s)=(List.range xs.length).map λi=>Ycg i*s:=by
 refine Y7t;rw[aG,aG];by_cases hi:Y3J
 ·rw[bP hi];simp[hi]
 ·rw[Y9l,cB (by rw[aV];exact Oo)];rfl
def lS{α:Type}{l:Yt}{i:Nat}(d:α)(h:i<l.length):l[i]?=some (l.getD i d):=by
 rw[aR,aC h];rfl
def qA{α:Type}{l:Yt}{i:Nat}{d a:α}(h:l[i]?=Y7p):l.getD i d=a:=by rw[aR,h];rfl
noncomputable def FA (m:Ac) (ss:Af):Nat->Yec
 | 0=>none
 | n+1=>@ite _ (0<ss.getD n 0/\(FA m ss n=none\/∃o,FA m ss n=some o/\zJ m ss n o=true)) (Classical.propDecidable _) (some n) (FA m ss n)
abbrev oV(o:Yec):V:=match o with | none=>.non | some i=>.int (i:Int)
inductive AF:Yk
 | i {H:Hp} {Q:VK} {E:XK} {ra sa:Addr} {m:Ac} {ss:Af} {N C:Nat} (h1:wF H ra m) (h2:H sa=Yq (ss.map V.int)) (h3:MzK N C m ss) (q:∀H',Y1->Q (oV (FA m ss ss.length)) H'):AF [.ref ra,.ref sa] H Q E
theorem CD(m:Ac)(ss:Af):∀(n o:Nat),FA m ss n=Y9->o<n/\0<ss.getD o 0
 | 0,o,h=>by cases h
 | n+1,o,h=>by
  rw[FA]at h;split at h
  ·rename_i hc
   cases h;exact⟨Oo,hc.1⟩
  ·have:=CD m ss n o h;exact⟨Oo,this.2⟩
section
def aIn(F:Ya "is_sooner" "is_sooner" aDY)(T:Ye):dO P w K mg base cW 1 f fd a18 AD:=by
 refine F.oky aJo λη H Q E h=>?_;obtain @⟨H,Q,E,ω,sa,m,e,i,o,N,C,ξ,α,Z,β,Y,q⟩:=h;refine Y3 ?_;intro ν A R s τ _;obtain⟨η,ε,l1,G⟩:=ξ.at_;obtain⟨υ,O,z⟩:=G i _ (lS [] β);obtain⟨μ,U,u⟩:=G o _ (lS [] Y);have γ:=eO (a:=([]:Af)) β;have ζ:=eO (a:=([]:Af)) Y;have φ:=Z.row _ γ;have κ:=Z.row _ ζ;have n64:=Z.n64;have c4:=Z.c4;have ls:=Z.ls;have L:=YiF e o (0:Int);have I:=YiF e i (0:Int);have up:∀{x:Int},Y8L (2^C)->Yf6:=λh=>Y4r h c4;have X:(e.map V.int)[o]?=some (V.int (YeW o)):=by rw[aG,lS 0 Oo];rfl
 have M:(e.map V.int)[i]?=some (V.int (YeW i)):=by rw[aG,lS 0 Oo];rfl
 refine Y5D (oZ (aEW τ.units) (Y6Z ["one","steps","out"] [1,3] (eJ (Y5N 0 Y0c)) (Y6u 0 (bQ (iA K) (aD 1) Y0c))) (Y6Z ["one","steps","place"] [1,2] (eJ (Y5N 0 Y0h)) (Y6u 0 (bQ (iA K) (aD 1) Y0c))));refine Ydh ε O;refine Y1h υ z (Ydv ((m.getD i []).map V.int) (λj y _=>Y3Q ((m.getD i []).getD j 0*YeW o)) (by rw[aA];exact Oo) z (λj x H' Q' J S W=>?_) (λD1 y1 H1 θ D p B ο=>?_))
 ·obtain⟨ι,d,rfl⟩:=sN J;refine Y2k (xU (S _ _ α) (eB X) ?_);exact Y32 (up (Z.sz _ γ _ (aE d))) (up (Z.ssz _ L)) (W _ H' (Y09) (by rw[qA d]))
 rw[aA]at B;rw[oW B ο,<-CC]at D;refine Ydh (p _ _ ε) U;refine Y1h μ (p _ _ u) (Ydv ((m.getD o []).map V.int) (λj y _=>Y3Q ((m.getD o []).getD j 0*YeW i)) (by rw[aA];exact Oo) (p _ _ u) (λj x H' Q' J S W=>?_) (λD2 ψ H2 χ g δ n ρ=>?_))
 ·obtain⟨ι,d,rfl⟩:=sN J;refine Y2k (xU ((p.trans S) _ _ α) (eB M) ?_);exact Y32 (up (Z.sz _ ζ _ (aE d))) (up (Z.ssz _ I)) (W _ H' (Y09) (by rw[qA d]))
 rw[aA]at n;rw[oW n ρ,<-CC]at g;exact rltl (δ _ _ D) g (by rw[aA,aA,φ,κ]) (q H2 (p.trans δ))
def aIi(F:Ya "leaving" "leaving" aDU)(T:Ye)(FQ37:Y0k "is_sooner" a18 AD):dO P w K mg base cW 2 f fd ["rows","steps"] AF:=by
 refine F.oky ZW λγ H Q E h=>?_;obtain @⟨H,Q,E,R,L,m,a,N,C,Y,j,Z,q⟩:=h;refine Y3 ?_;intro W A l s θ _;have ls:=Z.ls;have few:=Z.few;refine⟨_,(aH (Y1E ZW.nd jW)
  (aH (Y8t (Yk2 false rfl (Y2L 1)) (Y7m 3 ZW.nd 4 ZW.nd lK) (iM (IL (BA (Y7F BZ 4) (wH (IL (VA (Ybc 2) (LU (qE (VH FQ37 (Y0H) (Y0w) (Y0h) (Y0c))))))))) (aS (Y1E ZW.nd Y0h)) fJ))
  (Y2g 2))),?_⟩
 refine Yo;intro O δ;refine Y5p _ L _ j (KD (b:=false) (n:=0) (xs:=YgK) (YdL (λ(r u:Am)=>An2 (σ=[Y6 R,Y9n,some (oV (FA m a i)),r,u]) (Y1))) (Y8d _ _ Y09) (λi σ H' p=>?_) ?_ ?_)
 ·obtain⟨_,_,_,U⟩:=p;exact U _ _ j
 ·rintro i y X σ H1 H2 β ⟨r,u,rfl,g⟩ S G α;obtain⟨x,D,rfl⟩:=sN β;have ζ:i<a.length:=(aB.mp D).1;have M:a.getD i 0=x:=qA D;have S2:=g.trans α;rw[Int.zero_add]at G;refine⟨X,[.int (i:Int),.int x],rfl,jV.of G,rfl,_,_,rfl,_,_,rfl,rfl,Y2i⟩;intro O;have B:∀{o:Yec},o=FA m a i->¬(0<x/\(o=none\/∃k,o=YaL/\zJ m a i k=true))->FA m a (i+1)=o:=λ{o} e h=>by rw[FA,<-e,M,Y4A]
  have d:∀{o:Yec},o=FA m a i->(0<x/\(o=none\/∃k,o=YaL/\zJ m a i k=true))->FA m a (i+1)=some i:=λ{o} e h=>by rw[FA,<-e,M,Y4z]
  refine⟨_,rfl,_,_,rfl,rfl,_,rfl,?_⟩;by_cases hp:0<x
  ·rw[show decide ((0:Int)<x)=true from cR hp];refine pO ?_;cases e:FA m a i with
   | none =>
    refine Y6Y _ rfl _ rfl (pO ?_);refine pO (Y5 ⟨Yd (i:Int),Yd x,?_,S2⟩);rw[d e.symm ⟨hp,Y36⟩];rfl
   | some k =>
    have ε:=(CD m a i k e).1;refine Y5j;rw[show decide (V.int (k:Int)=V.non)=false from rfl];refine nW ⟨_,rfl,_,rfl,_,rfl,_,rfl,?_⟩;refine AD.i (Y.same S2) (Y1V j) Z Oo Oo λH3 I=>Y7;cases eb:zJ m a i k with
    | true =>
     refine pO (Y5 ⟨Yd (i:Int),Yd x,?_,S2.trans I⟩);rw[d e.symm ⟨hp,.inr (Yx k eb)⟩];rfl
    | false =>
     refine nW ⟨Yd (i:Int),Yd x,?_,S2.trans I⟩;rw[B e.symm λh=>by
      rcases h.2 with z | ⟨η,z,J⟩
      ·cases z
      ·cases z;rw[eb]at J;cases J];rfl
  ·rw[show decide ((0:Int)<x)=false from bZ hp];refine nW (nW ?_);refine⟨Yd (i:Int),Yd x,?_,S2⟩;rw[B rfl λh=>hp h.1];rfl
 ·rintro σ H1 ⟨r,u,rfl,g⟩;rw[aA];exact Y5 (q H1 g)
end
abbrev aD5:Stmt:=(top 28)
def aCf:Yg ["rows","steps","out","parts","found","row","step"] a30 aD5:={}
def NI{n i:Nat}(h:i<n):TJ n (i:Int)=some i:=by
 unfold TJ;rw[Y58,Y58]
 rfl
def aAl(H H':Hp)(a:Addr)(m:Ac):Prop:=∃las:List Addr,H' a=Yq YjC/\las.length=m.length/\∀(i:Nat) (l:Addr) (row:Af),las[i]?=some l->m[i]?=some row->H l=none/\H' l=Yq (row.map V.int)
def aAl.ll{H H':Hp}{a:Addr}{m:Ac}(h:aAl H H' a m):wF H' a m:=by
 obtain⟨c,j,n,d⟩:=h;exact⟨c,j,n,λi l row e g=>(d i l row e g).2⟩
def KG(m:Ac)(ss:Af)(o:Nat)(p:Int)(i:Nat):Af:=List.zipWith (λx y=>(x*ss.getD o 0-y*ss.getD i 0)/p) (m.getD i []) (m.getD o [])
def DA(m:Ac)(ss:Af)(o:Nat)(p:Int):Ac:=((List.range m.length).map (KG m ss o p)).set o (m.getD o [])
inductive AI:Yk
 | i {H:Hp} {Q:VK} {E:XK} {ra sa:Addr} {m:Ac} {ss:Af} {o N C:Nat} {p:Int} (h1:wF H ra m) (h2:H sa=Yq (ss.map V.int)) (h3:MzK N C m ss) (h4:YeP o) (h5:0<p) (h6:p.natAbs<2^9000) (q:∀a H',H a=none->aAl H H' a (DA m ss o p)->Y1->Y6w):AI [.ref ra,.ref sa,.int (o:Int),.int p] H Q E
section
def aIu(F:Ya "exchanged" "exchanged" aD5)(T:Ye):dO P w K mg base cW 1 f fd a30 AI:=by
 refine Y0P aCf;obtain @⟨H,Q,E,φ,ψ,m,n,o,N,C,p,hm,X,Z,ho,p0,pz,q⟩:=h;refine Y3 ?_;intro cdv A τ s R _;obtain⟨vs,W,l1,ζ⟩:=hm.at_;obtain⟨ο,Y,B⟩:=ζ o _ (lS [] ho);have mo:=eO (a:=([]:Af)) ho;have ro:=Z.row _ mo;have n64:=Z.n64;have few:=Z.few;have c4:=Z.c4;have ls:=Z.ls;have sso:=YiF n o (0:Int);have up:∀{x:Int},Y8L (2^C)->Yf6:=λh=>Y4r h c4;have χ:(Ykc)[o]?=some (V.int (YcC o)):=by rw[aG,lS 0 Oo];rfl
 refine⟨_,(aH (Y39 aCf.nd (iJ aQ))
  (aH (Y8t (Ycq 0 Y0w) (oB rfl (eE (Ybl 5 aCf.nd) (eE (Ygf 6 aCf.nd rfl rfl) lK))) (Y9h Y1j (Y7d a01 ["one","other","steps","out","parts","step"] [1,2,3,6] (Ycq 5 (Y5N 0 Y0c)) (cC gF (cC pJ (Y6u 0 (bQ (iA K) (aD 2) Y0h)) (Y2h dH 1 5)) (Y1j)))))
  (aH (GA (YeH sR (by rfl) Kk (Y1W (Y5N 0 Y0c))) (LV (Y1j) (Y0c) BR))
  (Y2g 4)))),?_⟩
 refine Yo;intros;refine DT (by show 0<=64;decide) λL H1 U f1 g=>Ys;intros;refine Y0g (Y1e φ ψ vs Ykc (g _ _ W) (g _ _ X) ?_);have nr:φ≠L:=λz=>by rw[z,U]at W;cases W
 have ns:ψ≠L:=λz=>by rw[z,U]at X;cases X
 have α:ο≠L:=λz=>by rw[z,U]at B;cases B
 refine vA (b1:=false) (b2:=false) (xs:=vs) (ys:=Ykc) (λi σ H'=>∃(o5 o6:Am) (d:Y0m),σ=[Y6 φ,Y6 ψ,Yd (o:Int),Yd p,Y9n,o5,o6]/\aU L H1 H'/\H' L=Yq (d.map V.ref)/\Yf8 i/\∀(k:Nat) (l:Addr),d[k]?=some l->H l=none/\l≠L/\H' l=Yq ((KG m n o p k).map V.int)) ⟨_,_,[],rfl,(Y09).but,f1,rfl,λk l h=>by simp at h⟩ (λi σ H' ⟨_,_,_,_,b',_⟩=>⟨b'.at nr (g _ _ W),b'.at ns (g _ _ X)⟩) ?_ ?_
 ·rintro i x y q2 σ H2 H3 ι ω ⟨o5,o6,d,rfl,b2,S,ll,al⟩ hq2 e3 G;obtain⟨y0,δ,rfl⟩:=sN ω;have hi:YeP i:=by have:=(aB.mp ι).1;exact Oo
  obtain⟨li,θ,O⟩:=ζ i _ (lS [] hi);rw[ι]at θ;cases θ;have mi:=eO (a:=([]:Af)) hi;have ri:=Z.row _ mi;have ey:YcC i=y0:=qA δ;have nli:li≠L:=λz=>by rw[z,U]at O;cases O
  have f3:=G _ _ S;have M:=G _ _ (b2.at nli (g _ _ O));have J:=G _ _ (b2.at α (g _ _ B));have e13:=G _ _ (b2.at nr (g _ _ W));have hs3:=G _ _ (b2.at ns (g _ _ X));refine⟨q2,_,rfl,jV.of e3,rfl,_,_,rfl,_,_,rfl,rfl,Y2i⟩;intros;refine⟨_,rfl,UR f3,_,rfl,_,rfl,_,rfl,xU e13 (eB Y) ?_⟩;refine Y1e li ο _ _ M J (jU (b1:=false) (b2:=false) (xs:=(m.getD i []).map V.int) (ys:=(m.getD o []).map V.int) (λj z _=>z=(.int (((m.getD i []).getD j 0*YcC o-(m.getD o []).getD j 0*YcC i)/p))) (Y9J) (by rw[aA];exact Oo) M J (by rw[aA,aA];exact Oo) (λj x y H' Q' ι ω s' k'=>?_) (λD zs H4 I η ξ hz hr4=>?_))
  ·obtain⟨x0,ε,rfl⟩:=sN ι;obtain⟨z0,β,rfl⟩:=sN ω;refine Y2k (xU (s' _ _ hs3) (eB χ) ?_);exact Y32 (up (Z.sz _ mi _ (aE ε))) (up (Z.ssz _ sso)) (Y6D _ _ _ _ (lD (up (Z.sz _ mo _ (aE β))) (up (Z.ssz _ (aE δ)))) (Y0E _ _ rfl (Y7J _ _ _ (qB p0 pz) (k' _ H' Y09 (by rw[qA ε,qA β,ey])))))
  ·rw[aA]at hz;rw[oW hz hr4]at η;have er:KG m n o p i=((List.range (m.getD i []).length).map λj=>((m.getD i []).getD j 0*YcC o-(m.getD o []).getD j 0*YcC i)/p):=by unfold KG;rw[AA Oo]
   rw[<-er]at η;have f4:=ξ _ _ f3;refine LJ f4 (by rw[aA];exact Oo) λH5 e5 υ=>?_;have κ:D≠L:=λz=>by rw[z,f3]at I;cases I
   refine⟨_,_,d++[D],rfl,((b2.trans G.but).trans ξ.but).trans υ,by rw[e5,bE];rfl,by rw[aW,ll];rfl,λk l u=>?_⟩;by_cases hkl:k<d.length
   ·rw[cN hkl]at u;obtain⟨n0,μ,n2⟩:=al k l u;exact⟨n0,μ,υ.at μ ((G.trans ξ) _ _ n2)⟩
   ·have:k=i:=by
     have:=(aB.mp u).1;rw[aW]at this;simp at this;exact Oo
    subst this;rw[cF Oo,ll,Nat.sub_self]at u;cases u;exact⟨g.free (b2.free (Y2T S) (G.free I)),κ,υ.at κ η⟩
 ·rintro σ H2 ⟨o5,o6,d,rfl,b2,S,ll,al⟩;have lm:Yf8 m.length:=by rw[aA]at ll;exact Oo
  have ρ:=b2.at nr (g _ _ W);have γ:=b2.at α (g _ _ B);refine Ydh ρ Y;refine Y0Z ο _ (.inl (gJ.of γ)) (λD I=>?_);have sl:=Yji ((m.getD o []).map V.int) I;have eD:(upd H2 D (.lst ((m.getD o []).map V.int))) D=Yq ((m.getD o []).map V.int):=bK;generalize upd H2 D (.lst ((m.getD o []).map V.int))=H3 at sl eD ⊢;refine Y01;refine stG (j:=o) (sl _ _ S) (NI (by rw[aA];exact Oo)) λH4 η ν=>Y7;have κ:D≠L:=λz=>by rw[z,S]at I;cases I
  refine q L H4 U ⟨d.set o D,by rw[η,List.map_set],by rw[List.length_set,lm];unfold DA;rw[List.length_set,aA,aV],λk l row u R=>?_⟩ ?_
  ·unfold DA at R;by_cases e:k=o
   ·subst e;rw[List.getElem?_set_self Oo]at u;rw[List.getElem?_set_self (by rw[aA,aV];exact Oo)]at R;cases u;cases R;exact⟨g.free (b2.free (Y2T S) I),ν.at κ eD⟩
   ·rw[Ydt Y8F]at u R;obtain⟨n0,μ,n2⟩:=al k l u;have hkm:YeP k:=by have:=(aB.mp u).1;exact Oo
    rw[aG,bP hkm]at R;cases R;exact⟨n0,ν.at μ (sl _ _ n2)⟩
  ·exact aT.thru U (g.trans (Y09)) ((b2.trans sl.but).trans ν)
end
open Md in
def iZ(n:Nat)(b:Y0)(R:fD):Ac:=(List.range n).map λi=>(List.range (n+1)).map (rho n b R i)
def dF(n:Nat)(a:Y0):Af:=(List.range n).map a
def cQ(n:Nat)(a:Y0):(dF n a).length=n:=by unfold dF;rw[aA,aV]
def jQ{n i:Nat}{a:Y0}(h:i<n):(dF n a).getD i 0=a i:=by
 unfold dF;rw[aR,aG,bP h];rfl
def nU(n:Nat)(b:Y0)(R:Md.fD):(iZ n b R).length=n:=by unfold iZ;rw[aA,aV]
def xB{n i:Nat}{b:Y0}{R:Md.fD}(h:i<n):(iZ n b R).getD i []=dF (n+1) (Md.rho n b R i):=by
 unfold iZ;rw[aR,aG,bP h];rfl
def MG(n:Nat)(f:Y0):((List.range n).map f).sum=Md.dY n f:=by
 induction n with
 | zero=>rfl
 | succ n ih=>rw[List.range_succ,bE,List.sum_append,ih,Md.dY];simp
def KI(n:Nat)(x y:Y0):YZ (dF n x) (dF n y)=Md.dot n x y:=by
 unfold YZ;rw[AA (by rw[cQ,cQ]),cQ];unfold Md.dot;rw[<-MG];refine congrArg List.sum (fN Yeg);rw[jQ (Y7k),jQ (Y7k)]
theorem FC:∀{xs ys:Af},Ygm->(HT.vK xs ys=true ↔ ∃j,Y8h j/\(∀i,i<j->Ycg i=YeC 0)/\Ycg j<ys.getD j 0)
 | [],[],_=>⟨λh=>(by cases h),λ⟨j,h,_⟩=>(by simp at h)⟩
 | x::xs,y::ys,h=>by
  rw[HT.CK];have ih:=FC (xs:=xs) (ys:=ys) (by simpa using h);by_cases e:x=y
  ·subst e;rw[if_pos rfl,ih];constructor
   ·rintro⟨j,d,c,a⟩;refine⟨j+1,by rw[cK];exact Oo,λi g=>?_,by simpa using a⟩;cases i with
    | zero=>rfl
    | succ i=>simpa using c i Oo
   ·rintro⟨j,d,c,a⟩;cases j with
    | zero=>exact absurd a (by simp)
    | succ j=>exact⟨j,by rw[cK]at d;exact Oo,λi g=>by simpa using c (i+1) Oo,by simpa using a⟩
  ·rw[if_neg e];constructor
   ·intro h;exact⟨0,by rw[cK];exact Oo,λi g=>Oo,by simpa using h⟩
   ·rintro⟨j,d,c,a⟩;cases j with
    | zero=>simpa using a
    | succ j=>exact absurd (by simpa using c 0 Oo) e
 | [],y::ys,h=>by simp at h
 | x::xs,[],h=>by simp at h
def JD{n:Nat}{b a:Y0}{R:Md.fD}{i o:Nat}(hi:i<n)(ho:o<n):zJ (iZ n b R) (dF n (Yez j)) i o=true↔Md.lexp (n+1) λk=>Y9x*Md.rho n b R o k-Md.dot n (R o) a*Md.rho n b R i k:=by
 unfold zJ;rw[xB hi,xB ho,jQ hi,jQ ho,FC (by rw[aA,aA,cQ,cQ]),aA,cQ];have e:∀(u:Y0) (s:Int) (k:Nat),k<n+1->((dF (n+1) u).map (· * s)).getD k 0=u k*s:=λu s k d=>by
  unfold dF;rw[aR,aG,aG,bP d];rfl
 unfold Md.lexp;constructor
 ·rintro⟨j,c,g,h⟩;refine Y1R j c Yh3
  ·have:=g k d;rw[e _ _ _ Oo,e _ _ _ Oo]at this;grind
  ·rw[e _ _ _ c,e _ _ _ c]at h;grind
 ·rintro⟨j,c,g,h⟩;refine Y1R j c Yh3
  ·have:=g k d;rw[e _ _ _ Oo,e _ _ _ Oo];grind
  ·rw[e _ _ _ c,e _ _ _ c];grind
theorem EZ{n:Nat}{b a:Y0}{R:Md.fD}:∀{k:Nat},k<=n ->
  (FA (iZ n b R) (dF n (Yez j)) k=none->∀i,i<k->¬0<Y9x) /\
  (∀o,FA (iZ n b R) (dF n (Yez j)) k=Y9->∀i,i<k->0<Y9x->¬Md.lexp (n+1) λq=>Y9x*Md.rho n b R o q-Md.dot n (R o) a*Md.rho n b R i q)
 | 0,_=>⟨λ_ i h=>Oo,λo h=>(by cases h)⟩
 | k+1,hk=>by
  obtain⟨ih1,ih2⟩:=EZ (n:=n) (k:=k) (b:=b) (a:=a) (R:=R) Oo;have c:k<n:=Oo;rw[FA,jQ (a:=λj=>Md.dot n (R j) a) c];by_cases hc:0<Md.dot n (R k) a/\(FA (iZ n b R) (dF n λj=>Md.dot n (R j) a) k=none\/∃o,FA (iZ n b R) (dF n λj=>Md.dot n (R j) a) k=some o/\zJ (iZ n b R) (dF n λj=>Md.dot n (R j) a) k o=true)
  ·rw[if_pos hc];refine⟨λh=>(by cases h),λo g i p d=>?_⟩;cases g;obtain⟨w,l⟩:=hc;by_cases e:i=k
   ·subst e;intro⟨j,y,_,z⟩;dsimp only at z;have:Md.dot n (R i) a*Md.rho n b R i j-Md.dot n (R i) a*Md.rho n b R i j=0:=Oo;exact Oo
   ·rcases l with l | ⟨o,r,s⟩
    ·exact absurd d (ih1 l i Oo)
    ·obtain⟨u,m⟩:=CD _ _ _ _ r;rw[jQ (a:=λj=>Md.dot n (R j) a) Oo]at m;rw[JD c Oo]at s;exact Md.YI w m d s (ih2 o r i Oo d)
  ·rw[if_neg hc];refine⟨λh i p=>?_,λo g i p d=>?_⟩
   ·by_cases e:i=k
    ·subst e;exact λz=>hc ⟨z,.inl h⟩
    ·exact ih1 h i Oo
   ·by_cases e:i=k
    ·subst e;intro z;obtain⟨u,m⟩:=CD _ _ _ _ g;exact hc ⟨d,.inr ⟨o,g,(JD c Oo).mpr z⟩⟩
    ·exact ih2 o g i Oo d
def aBT{n:Nat}{b a:Y0}{B R:Md.fD}{p:Int}(h:Md.Bs n B R p)(p0:0<p){o:Nat}(ho:o<n):DA (iZ n b R) (dF n (Yez j)) o p=iZ n b (Y9g n R o a):=by
 unfold DA;rw[nU,xB ho];refine Y7t;by_cases hi:i<n
 ·have g:(iZ n b (Y9g n R o a))[i]?=some (dF (n+1) (Md.rho n b (Y9g n R o a) i)):=by
   unfold iZ;rw[aG,bP hi];rfl
  rw[g];by_cases e:i=o
  ·subst e;rw[List.getElem?_set_self (by rw[aA,aV];exact hi)];refine YdS (fN λk _=>?_);rw[Md.GT]
  ·rw[Ydt Y8F,aG,bP hi];refine YdS ?_;unfold KG;rw[xB hi,xB ho,AA (by rw[cQ,cQ]),cQ];refine fN Yh3;have c:=cD.mp d;rw[jQ c,jQ c,jQ ho,jQ hi];have:=h.rho_exch b ho a hi c e;have l:Md.rho n b R i k*Md.dot n (R o) a-Md.rho n b R o k*Y9x=p*Md.rho n b (Y9g n R o a) i k:=by rw[this];grind
   rw[l,Y49]
 ·rw[cB (by rw[List.length_set,aA,aV];exact Oo),cB (by rw[nU];exact Oo)]
end Kw
namespace L2
open PySem PySem.Spec PyProof.Rows
structure FnM(P:Program)(w:World)(K:Aa)(mg:Y0y)(base:Heap)(k:Nat)(C:Addr)(m:Str)(ps:Ah)(sp:Sp):Prop where
 ex:∃(f:Addr) (fd:FuncData),dO P w K mg base cW k f fd ps sp/\aFL K C m f/\uE K fd ps []
section
variable{X:Cx}{k:Nat}{C:Addr}{ps:Ah}{sp:Sp}{m:Str}{pos apos:Pos}{e o:Expr}{es:Y0b}{t:TA}{ta:TE}
def LX{pl:YhB}(F:FnM X.prog X.w X.K X.mg X.base k C m ps sp)(c:Yfa)(hr:Y6A)(ho:Yp o ta)(ha:LO X (e::es) t)
  (hst:Y3n=(false,Y12)::Y2z:=by first | exact pW | exact tR | exact pX | exact mC | exact iO | exact tQ)
  (hpl:Yw ((backTo pos (starEach es X.env)).any (·.1)):=by repeat (first | exact qK | refine nJ (by first | exact pW | exact tR | exact pX | exact mC | exact iO | exact tQ) ?_))
  (ht:eval (.Call (.Attribute o m apos) (e::es) [] pos) X.env=(do
   let ov <-eval o X.env
   standAt apos.atName
   let (f,first) <-holding [ov] (getMethod ov m pl)
   callWith pos f first (backTo pos (starEach (e::es) X.env)) (backToKw pos (keywordEach [] X.env))):=by rfl) :
  Yp (.Call (Yfl m apos) (e::es) [] pos) (aCF C m sp [] E0 ta t):=⟨by
 obtain⟨f,h,d,g,a⟩:=F.ex;exact aBo ho.p c g d hr a .nil XU ha.p hst hpl ht⟩
end
end L2
namespace Kw
open PySem L2 Mf
abbrev sQ0:Stmt:=(AS (top 23) 0)
def cQ0:Yg a16 a16 sQ0:={}
def KS{K:Aa}{js:Ae}{te:TE}{σ:St}{H:Hp}{Q:VK}{l:Addr}{xs:Al}(g:Nat->Af)(h:H l=Y7h false)(hz:Y5T 1000)
  (he:∀(i:Nat) (x:V) (H':Hp) (Q':VK),Y0s=Yb->Y1->(∀m H6,H' m=none->aT H' H6->H6 m=Yq ((g i).map V.int)->Q' (YcY) H6)->te (Yd (i:Int)::YaX) H' Q')
  (hd:∀D H',H D=none->wF H' D ((List.range xs.length).map g)->Y1->Y0Q):vP K 2 (Ite false l 0) σ js BJ te H Q:=by
 unfold vP;intro D w;refine Y0n (λi m s H'=>m=Y3y i/\Y6y/\Y0x=Yq s/\Y1/\∃a:List Addr,s=a.map V.ref/\a.length=i/\∀(k:Nat) (b:Addr),a[k]?=YaM->b≠D/\Y1p=Yq ((g k).map V.int)) ⟨xs.length,by simp,Y0l,bK,aT.upd w,[],rfl,rfl,λk b r=>by simp at r⟩;rintro i m s H2 ⟨rfl,Z,d,j,a,rfl,ll,I⟩;refine Y0j d;by_cases hlt:Y3J
 ·have R:Y0s=some xs[i]:=aC hlt;refine Y7A ⟨_,_,j _ _ h,R⟩ (aI (m:=1000) (by rw[aA];exact Oo) Dd) (λv H3 y=>?_);obtain⟨q,x,rfl,O,rfl,U⟩:=y;have T:=U _ (j _ _ h);rw[show(0:Int)+((i:Nat):Int)=(i:Int)by exact Oo];have p:=Y8a [V.int (i:Int),x] O;have G:(upd H2 q (.tup [V.int (i:Int),x])) q=Ym [V.int (i:Int),x]:=bK;generalize upd H2 q (.tup [V.int (i:Int),x])=H3 at p G;refine Y1e q _ rfl (jV.of G) (λb H4=>b=true/\H4=H3) Y4D ?_;rintro b H4 ⟨rfl,rfl⟩;rw[Yr];refine Y0n (λz H5=>∃m,z=YcY/\H4 m=none/\aT H4 H5/\H5 m=Yq ((g i).map V.int)) (he i x H4 _ T (j.trans p) λm H6 P X M=>Y98 m P X M);rintro z H5 ⟨m,rfl,C,u,N⟩;have n:=p _ _ d;have S:=u _ _ n;have L:m≠D:=λz=>by rw[z,n]at C;cases C
  have A:aU D H5 (Ybh H5 D ((a.map V.ref) ++ [V.ref m])):=aU.self;refine⟨S,Y3y (i+1),Oo,rfl,hlt,bK,Ygk w ((j.trans p).trans u),a++[m],by rw[bE];rfl,by rw[aW,ll];rfl,λk b c=>?_⟩;by_cases hkl:k<a.length
  ·rw[cN hkl]at c;obtain⟨B,Y⟩:=I k b c;exact⟨B,A.at B ((p.trans u) _ _ Y)⟩
  ·have:k=i:=by
    have:=(aB.mp c).1;rw[aW]at this;simp at this;exact Oo
   subst this;rw[cF Oo,ll,Nat.sub_self]at c;cases c;exact⟨L,A.at L N⟩
 ·have e:Y3V i:=Oo;subst e;refine Y38 (Y0C (j _ _ h) Yy) (hd D H2 w ⟨a,d,by rw[ll,aA,aV],λk b row r J=>?_⟩ j);have c:Y8h k:=by have:=(aB.mp r).1;exact Oo
  rw[aG,bP c]at J;cases J;exact(I k b r).2
def mfs(ra sa:Addr)(p:Int):Y3k:=Y2y "standing" sa (eT "parts" (.int p) (Y2y "rows" ra []))
structure uD(H:Hp)(C a sa:Addr)(n:Nat)(b:Y0)(R:Md.fD)(p:Int)(ts:Al):Prop where
 ex:∃dx ra,H a=some (.ins C dx (mfs ra sa p))/\wF H ra (iZ n b R)
 st:H sa=Yq ts
 len:YhU n
def aAm(a b:Addr)(H H':Hp):Prop:=∀x o,x≠a->x≠b->H x=Y9->H' x=Y9
inductive wR (C:Addr):Yk
 | i {H:Hp} {Q:VK} {E:XK} {x dx ea oa:Addr} {n:Nat} {b:Y0} {ts:Al} (h1:H x=some (.ins C dx [])) (h2:H ea=Yq ((dF n b).map V.int)) (h3:H oa=Yq ts) (h4:YhU n) (h5:n<=8) (q:∀sa H',H sa=none->Y56 x->uD H' C x sa n b Md.unit 1 ts->Ycu):wR C [Y1H,.ref ea,.ref oa] H Q E
def WX{n i:Nat}(hi:i<n)(b:Y0):dF (n+1) (Md.rho n b Md.unit i)=[b i]++aEZ n i:=by
 unfold dF;rw[List.range_succ_eq_map,bH,List.map_map];have c:Md.rho n b Md.unit i 0=b i:=by
  show Md.dY n (λk=>YhO k*b k)=b i;rw[Md.kD hi λk _ a=>by unfold Md.unit;rw[YeE,Int.zero_mul]];unfold Md.unit;rw[Yr,Int.one_mul]
 rw[c]
 rfl
section
def oQ0(F:Ya "__init__" "Master.__init__" sQ0)(T:Ye)(FQ48:Y0k "one_among" a39 qV):dO P w K mg base cW 2 f fd a16 (Ykd):=by
 refine Y0P cQ0;obtain @⟨H,Q,E,x,a,φ,ζ,n,b,J,Z,m,u,lt,n8,q⟩:=h;refine Y3 ?_;intro cdv A N s γ _;have O:=T.w_Master;have ε:=cQ n b;refine⟨_,(aH (Y6a (Y7d ["place","end"] ["place","end","ends"] [1] (Yk2 false rfl (Y2L 1)) (cC vU (iJ (Y2L 1)) (cL FQ48 (Yag (aB9 K) (by rfl) Kk 2) (Y0H)))))
  (aH (Y6a aK)
  (aS (Y6a (YeH sR (by rfl) Kk (Y2L 2)))))),?_⟩
 refine Yo;intro τ ο;refine Y5p _ φ _ m (KS (xs:=(dF n b).map V.int) (λi=>dF (n+1) (Md.rho n b Md.unit i)) m (by rw[aA];exact Oo) (λi y H' Q' ρ ι κ=>?_) (λD H1 hD L1 j=>?_))
 ·obtain⟨ω,I,rfl⟩:=sN ρ;have β:i<n:=by have:=(aB.mp I).1;exact Oo
  have υ:b i=ω:=by
   have h:=qA (d:=(0:Int)) I;rw[jQ β]at h;exact h
  refine Y7;refine DT (by show 1<=64;decide) λq1 H1 η ν j=>Y7;refine Yb3 ((ι.trans j) _ _ m);rw[aA,ε];refine Y7;refine qV.i Oo λq2 H2 hq2 L U=>NU (U _ _ ν) L (by simp[aEZ];exact Oo) λθ H3 S C μ=>κ θ H3 ((j.trans U).free S) ((j.trans U).trans μ) ?_;rw[C,WX β,υ,bE];rfl
 ·rw[aA,ε]at L1;have L1:wF H1 D (iZ n b Md.unit):=L1;have r:=j _ _ Z;refine⟨_,rfl,x,c.Master,a,_,rfl,r,O.cls,Y6q (by simp),by show 0<1000;decide,Y3a⟩;intro τ ο;have b2:=Yeq x H1 a (Y2y "rows" D []);have L:(upd H1 x (.ins c.Master a (eT "rows" (.ref D) []))) x=_:=bK;generalize upd H1 x (.ins c.Master a (eT "rows" (.ref D) []))=H2 at b2 L ⊢;refine⟨_,rfl,x,c.Master,a,_,rfl,L,O.cls,Y6q (by simp),by show 1<1000;decide,?_⟩;have Y:=Yeq x H2 a (eT "parts" (.int 1) (Y2y "rows" D []));have C:(upd H2 x (.ins c.Master a (eT "parts" (.int 1) (eT "rows" (.ref D) [])))) x=_:=bK;generalize upd H2 x (.ins c.Master a (eT "parts" (.int 1) (eT "rows" (.ref D) [])))=H3 at Y C ⊢;have B3:aU x H H3:=(j.but (p:=x)).trans (b2.trans Y);have no:ζ≠x:=λz=>by rw[z,Z]at u;cases u
  have G:=B3.at no u;refine Y5p _ ζ _ (.inl (gJ.of G)) (λe g=>?_);have M:=Yji J g;have δ:(upd H3 e (.lst J)) e=Yq J:=bK;generalize upd H3 e (.lst J)=H4 at M δ ⊢;refine⟨_,rfl,x,c.Master,a,_,rfl,M _ _ C,O.cls,Y6q (by simp),by show 2<1000;decide,?_⟩;have R:=Yeq x H4 a (mfs D e 1);have α:(upd H4 x (.ins c.Master a (mfs D e 1))) x=_:=bK;show Q .non (Y8D H4 x c.Master a (mfs D e 1));generalize upd H4 x (.ins c.Master a (mfs D e 1))=H5 at R α ⊢;have ξ:e≠x:=λz=>by rw[z,C]at g;cases g
  have B:aU x H1 H5:=((b2.trans Y).trans M.but).trans R;refine q e H5 ?_ (j.but.trans B) ⟨Y1R a D α,R.at ξ δ,lt⟩
  ·exact B3.free (Y2T C) g
  ·obtain⟨W,X,ψ,h3⟩:=L1;refine⟨W,B.at (λz=>by rw[z,r]at X;cases X) X,ψ,λi l row χ γ=>?_⟩;have:=h3 i l row χ γ;exact B.at (λz=>by rw[z,r]at this;cases this) this
end
end Kw
namespace L2
open PySem PySem.Spec PyProof.Rows
def HS(X:Cx)(scope:Scope)(x:Str)(C:Addr)(fp:Y0m)(s₀:Shared)(H₀:Hp)(N':Ah):Cx :=
 { oF X scope C fp s₀ H₀ N' with env:=compEnvC scope ((x,C+1)::zV X scope) C X.env,fn:=λy=>y == x }
structure kX(X:Cx)(scope:Scope)(x:Str)(N':Ah)(js:Ae):Prop where
 calm:Y1d
 free:∀y∈scope.names,Y4d y.2->YaE y.1
 only:(YfG (Y8I y.2))=[(x,NameKind.cell)]
 kind:Yjn
 names:∀y∈scope.names,y.2=.local->Y4E y.1
 own:Ydm x Y2e
 nofl:∀y,Y5S (y,NameKind.free)->Y4E y->False
 nofx:(x,NameKind.free) ∉ scope.names
 len:N'.length=YhD 1
 zero:N'[0]?=Yb
 nd:N'.Nodup
 slot:∀(i:Nat) (j:Nat),js[i]?=Y5g->∃y,N'[i+1]?=Y03/\X.N[j]?=Y03/\Y5S (y,NameKind.free)
theorem DK:∀{names:Y5U}{n:Nat}{acc:Y4B}{h:Heap},(names.filter λy=>Y8I y.2)=[]->cellsFrom n names acc=acc/\pushCells h names=h
 | [],_,_,_,_=>⟨rfl,rfl⟩
 | (a,k)::r,n,acc,h,e=>by
  rw[List.filter_cons]at e;by_cases q:(k == NameKind.cell)=true
  ·rw[if_pos q]at e;cases e
  ·rw[if_neg q]at e;unfold cellsFrom pushCells;rw[if_neg q,if_neg q];exact DK e
theorem FO{x:Str}:∀{names:Y5U}{n:Nat}{acc:Y4B}{h:Heap},(names.filter λy=>Y8I y.2)=[(x,NameKind.cell)]->cellsFrom n names acc=(x,n)::acc/\pushCells h names=h.push { cls:=.type "cell",data:=.cell none }
 | [],_,_,_,e=>by cases e
 | (a,k)::r,n,acc,h,e=>by
  rw[List.filter_cons]at e;by_cases q:(k == NameKind.cell)=true
  ·rw[if_pos q]at e;injection e with e1 e2;have ea:a=x:=congrArg Prod.fst e1;subst ea;unfold cellsFrom pushCells;rw[if_pos q,if_pos q];exact DK e2
  ·rw[if_neg q]at e;unfold cellsFrom pushCells;rw[if_neg q,if_neg q];exact FO e
def MZ{M:Model}{A:Around}{E:Yc}{s:Shared}{scope:Scope}{g:Addr}{cl:Y4B}{q:Str}{env:Env}{x:Str}{Q:Env->(Y2d Shared)}(ho:(YfG (Y8I y.2))=[(x,NameKind.cell)])
  (h:Q { scope,locals:=s.heap.objs.size,globals:=g,cells:=(x,s.heap.objs.size+1)::cl,qual:=q,func:=none,code:=env.code,frame:=env.frame,builtins:=env.builtins } { s with heap:=(s.heap.push { cls:=.type "dict",data:=.dict #[] }).push { cls:=.type "cell",data:=.cell none } }) :
  wpAny M A (Ygd scope g cl [] q none .none env) Q E s:=by
 simp only[newFunctionEnv,Option.isSome_some,if_true];refine wpAny_bind (wpAny_alloc ?_);refine wpAny_bind (wpAny_layCells _ (λc a cells=>by cases hkc:a == NameKind.cell <;> simp[hkc]) _ _ _ _ ?_);obtain⟨d,e⟩:=FO (n:=({ s with heap:=s.heap.push { cls:=.type "dict",data:=.dict #[] } }:Shared).heap.objs.size) (acc:=cl) (h:=s.heap.push { cls:=.type "dict",data:=.dict #[] }) ho;rw[d,e];rw[List.forIn_nil];refine Y6V Y1X;rw[show({ s with heap:=s.heap.push { cls:=.type "dict",data:=.dict #[] } }:Shared).heap.objs.size=s.heap.objs.size+1 from fW ..];exact h
theorem sH{env:Env}:∀{names:Y5U}{x:Str},names.lookup x=Y2e ->
  (names.map λ(n,k)=>if(k == NameKind.free&&env.scope.kind == .function&&env.kindOf n == some .cell) then(n,NameKind.cell) else(n,k)).lookup x=Y2e
 | [],_,h=>by cases h
 | (n,k)::r,x,h=>by
  rw[List.lookup_cons]at h;rw[bH];dsimp only;by_cases hq:(k == NameKind.free&&env.scope.kind == .function&&env.kindOf n == some .cell)=true
  ·rw[if_pos hq,List.lookup_cons];by_cases e:(x == n)=true
   ·rw[e]
   ·have e':(x == n)=false:=by simpa using e
    rw[e']at h ⊢;exact sH h
  ·rw[if_neg hq,List.lookup_cons];by_cases e:(x == n)=true
   ·rw[e]at h ⊢;exact h
   ·have e':(x == n)=false:=by simpa using e
    rw[e']at h ⊢;exact sH h
theorem pH{env:Env}{x:Str}:∀{names:Y5U}{y:Str}{k:NameKind},(names.map λ(n,k)=>if(k == NameKind.free&&env.scope.kind == .function&&env.kindOf n == some .cell) then(n,NameKind.cell) else(n,k)).lookup y=YaL ->
  (k=.cell\/Y4d k)->(∀z∈names,z.2=.cell->z.1=x)->y=x\/(y,NameKind.free)∈names
 | [],_,_,h,_,_=>by cases h
 | (n,q)::r,y,k,h,hk,hc=>by
  rw[bH,List.lookup_cons]at h;have ih:=λh=>@pH env x r y k h hk λz d=>hc z (bD _ d);have up:y=x\/(y,NameKind.free)∈r->y=x\/(y,NameKind.free)∈(n,q)::r:=λz=>z.imp id (bD _);by_cases hq:(q == NameKind.free&&env.scope.kind == .function&&env.kindOf n == some .cell)=true
  ·dsimp only at h;rw[if_pos hq]at h;have g:q=.free:=by
    rw[dG,dG]at hq;simpa using hq.1.1
   subst g;by_cases e:(y == n)=true
   ·have:y=n:=by simpa using e
    subst this;exact .inr aY
   ·have c:(y == n)=false:=by simpa using e
    dsimp only at h;rw[c]at h;exact up (ih h)
  ·dsimp only at h;rw[if_neg hq]at h;by_cases e:(y == n)=true
   ·have:y=n:=by simpa using e
    subst this;dsimp only at h;rw[e]at h;have a:k=q:=by injection h with h;exact h.symm
    subst a;rcases hk with rfl | rfl
    ·exact .inl (hc _ aY rfl)
    ·exact .inr aY
   ·have c:(y == n)=false:=by simpa using e
    dsimp only at h;rw[c]at h;exact up (ih h)
section
variable{X:Cx}{pins:Ad}{σ:St}{H:Hp}{s:Shared}{scope:Scope}{x:Str}{N':Ah}{js:Ae}{fp:Y0m}
theorem kX.cells(S:Y87)(ok:X.Ok):∀y∈scope.names,Y4d y.2->Yey y.1:=Yjz _ (.inl (S.free y a d))
theorem kX.cell(S:Y87):∀z∈scope.names,z.2=.cell->z.1=x:=λz a e=>by
 have:z∈YfG (Y8I y.2):=fY.mpr ⟨a,by rw[e];rfl⟩;rw[S.only]at this;rw[cA.mp this]
def rJ{y:Str}{C c:Addr}{cl:Y4B}(h:((x,C)::cl).lookup y=Y1b):(y=x/\c=C)\/(y≠x/\cl.lookup y=Y1b):=by
 rw[List.lookup_cons]at h;by_cases e:(y == x)=true
 ·rw[e]at h;cases h;exact YeN (by simpa using e)
 ·have a:Yw (y == x):=by simpa using e
  rw[a]at h;exact Y3x (YaC (by simp[z])) h
def LB{y:Str}{C c:Addr}{cl:Y4B}(n:y≠x)(h:cl.lookup y=Y1b):((x,C)::cl).lookup y=Y1b:=by
 rw[List.lookup_cons,show(y == x)=false by simpa using n];exact h
def aFu(S:Y87)(I:Y4)(hf:∀b∈fp,Y2V)(hb:∀b∈fp,Y7Q):(Yjm X x s H).Ok:=by
 have j:∀y c,(zV X scope).lookup y=Y1b->Y8b c:=λy c h=>by
  obtain⟨v,o,e,_⟩:=YbV y (Y4u h);exact Y18
 exact {
  mod:=I.ok.mod
  kind:=S.kind
  glob:=I.ok.glob
  blt:=I.ok.blt
  above:=aM _
  inj:=λy z c r g=>by
   rcases rJ r with⟨m,d⟩ | ⟨m,d⟩ <;> rcases rJ g with⟨n,b2⟩ | ⟨n,b2⟩
   ·rw[m,n]
   ·have:=j _ _ b2;rw[d]at this;exact absurd Yik (bS _)
   ·have:=j _ _ d;rw[b2]at this;exact absurd Yik (bS _)
   ·exact I.ok.inj y z c (Y4u d) (Y4u b2)
  has:=λy i=>by
   have l:y=x\/Y5S (y,NameKind.free):=by
    rcases i with i | i
    ·exact pH (env:=X.env) i (Y36) S.cell
    ·exact pH (env:=X.env) i (Y7e) S.cell
   by_cases q:y=x
   ·subst q;exact⟨Y1J,by show List.lookup y ((y,_)::_)=_;rw[List.lookup_cons,show(y == y)=true by simp]⟩
   ·have l:=l.resolve_left q;obtain⟨c,p⟩:=S.cells I.ok _ l rfl;exact⟨c,LB q (Y7g l p)⟩
  cab:=λy c i h=>by
   rcases rJ h with⟨_,d⟩ | ⟨m,_⟩
   ·rw[d];exact Yjx
   ·exact absurd (by simpa[HS]using i) m
  hd:=λ_=>I.ok.hd S.calm
  frames:=I.ok.frames
  stk:=.inl rfl
  exf:=λb a=>⟨λe=>by have:=hb b a;rw[e]at this;exact Y1y,λy c h=>by
   rcases rJ h with⟨_,d⟩ | ⟨_,d⟩
   ·intro e;have:=hb b a;rw[<-e,d]at this;exact absurd Yik (bS _)
   ·exact(hf b a).2.2.2.2.1 y c (Y4u d)⟩
  bs:=I.bs
  bsz:=aL I.ok.bsz I.sz
  noex:=λb o e a=>by
   rcases(hf b a).2.2.2.1 with h | h
   ·exact I.ok.noex b o e h
   ·exact absurd (aO Y18 (Ya9 h)) (bS _)
  exfs:=λb a u=>by
   have g:=Yhe u;rcases bN.mp g with g | g
   ·exact(hf b a).2.1 g
   ·exact(hf b a).2.2.1 g
  funs:=I.stack
  frf:=I.stkFree }
def aB0{h':Heap}{tk:Nat}(S:Y87)(I:Y4)(hf:∀b∈fp,Y2V)(hb:∀b∈fp,Y7Q)
  (hn:h'.Ns s.heap.objs.size YdG) (hk:YaI (Y0T=Y9)) (hc0:h'.IsCell (Y1J) none):cU (Yjm X x s H) [] (none :: Y51) H { s with heap:=h',toks:=tk } where
 ok:=aFu S I hf hb
 os:=rfl
 bare:=I.bare
 base:=Ykz
 loc:=by
  refine Y0C hn (λi y v α P a=>?_);cases i with
  | zero=>cases P
  | succ i =>
   have d:(Y51)[i]?=Y8v:=P;have O:Ycd i:=by
    have:=(Yay).1;unfold slots at this
    rwa [aA]at this
   have T:js[i]?=some js[i]:=aC O;obtain⟨z,U,γ,w⟩:=S.slot i _ T;have J:z=y:=by
    have:N'[i+1]?=Y03:=α;rw[U]at this;cases this;rfl
   subst J;rw[yE T]at d;have δ:σ[js[i]]?=Y8v:=by
    cases q:σ[js[i]]? with
    | none=>rw[q]at d;cases d
    | some o=>rw[q]at d;cases d;rfl
   have B:YaE z:=S.free _ w rfl;obtain⟨m,ζ,β⟩:=I.loc;obtain⟨u,ru,Y⟩:=β _ z v γ δ (Ya8 B);rcases Y with⟨G,_⟩ | ⟨_,c,R,j⟩
   ·rw[B]at G;cases G
   ·have M:z≠x:=λq=>S.nofx (q ▸ w);refine YeQ u ru (Y1R ?_ c (LB M (Y7g w R)))
    ·rcases a with a | a | a
     ·exfalso;have ε:=Y7g w R;have C:=pM (l:=(YjZ X.env).names) a;unfold relabel at C;obtain⟨⟨n,k⟩,A,D⟩:=aN.mp C;dsimp only at D;by_cases hq:(Yja k&&YjH&&Yjg == Y2e)=true
      ·rw[if_pos hq]at D;cases D
      ·rw[if_neg hq]at D;cases D;have:=S.names _ A rfl;have N:=pL w;obtain⟨η,N⟩:=N;dsimp only at this;rw[this]at N;have Z:(relabel scope X.env).names.lookup z=Y35:=Yid;have L:Y4E z:=this;exact S.nofl z w L
     ·exact YaK
     ·exact .inr a
    ·obtain⟨o,e,r⟩:=j;exact Y3c (hk _ _ e) r
 cell:=λy c h=>by
  rcases rJ h with⟨_,g⟩ | ⟨_,g⟩
  ·rw[g];exact⟨none,hc0⟩
  ·obtain⟨v,o,e,r⟩:=YbV y (Y4u g);exact⟨v,o,hk _ _ e,r⟩
 free:=Y2D
 freeC:=λy c h=>by
  rcases rJ h with⟨_,g⟩ | ⟨_,g⟩
  ·rw[g];exact I.hok.fresh (Yjx)
  ·exact Y8E y (Y4u g)
 pin:=λp W=>by cases W
 hok:=Yjv
 len:=by
  show(Y51).length+1=N'.length;unfold slots;rw[aA,S.len]
def ZH{H2:Hp}{σ':St}{s2:Shared}{h'':Heap}(S:Y87)(I:Y4)(hf:∀b∈fp,Y2V)
  (J:Y4Q (Yjm X x s H) [] H2 s2) (hs:Heap.SameBut s.heap.objs.size s2.heap h''):Y4m H2 ({ s2 with heap:=h'' }):=by
 have h:Yiz=none:=J.free;have ne:∀{b:Addr} {o:Obj},Y3g->Ybv b:=λe q=>by
  have:=Y18;rw[q]at this;exact Y1y
 refine Yii ({ s2 with heap:=h'' }) fp (by rw[show({ s2 with heap:=h'' }:Shared).os=s2.os from rfl];exact J.os) ?_ h (Ykq u a q) J.bare (λb a=>⟨(hf b a).2.2.2.1,(hf b a).2.1,(hf b a).2.2.2.2.1,(hf b a).2.2.2.2.2⟩);have U:=J.base;exact {
  keep:=λb o e n d c=>hs.extBut b o (ne e) (U.keep b o e n d c)
  slot:=λb o e n d c=>by
   obtain⟨sl,q⟩:=U.slot b o e n d c;exact⟨sl,hs.extBut b _ (ne e) q⟩
  free:=U.free
  there:=λb o e c=>by
   obtain⟨g,q⟩:=U.there b o e c;exact⟨g,hs.extBut b _ (ne e) q⟩
  tups:=U.tups
  frzs:=U.frzs
  tbls:=U.tbls }
end
section
variable{X:Cx}{pins:Ad}{σ:St}{H:Hp}{s:Shared}{scope:Scope}{x:Str}{N':Ah}{js:Ae}{fp:Y0m}{elt iter:Expr}{px pos:Pos}{ifs:Y0b}{tc:TT}{te:TE}
def KQ{J:It}{it:Addr}{tn:Nat->Y3W}{RR:Y8j (Addr->Ycx)}{E:Yc}{Q:VK}
  (S:Y87) (I:Y4) (T:EB X.prog X.w X.K (Y3z) J fp it tn) (h0:Yce 0) (hf:∀b∈fp,Y2V)
  (ht:∀C fp s₀ H₀,RQ (Ydj C) ifs tc) (he:∀C fp s₀ H₀,PE (Ydj C) elt te)
  (R:∀D,H D=none->∃W:Nat->Nat->Al->Hp->Prop,(∃m,W 0 m [] (Y47 D [])) /\
   ∀i m ys H2,W i m ys H2->H2 D=Y05/\((Yd7/\Y99 D)\/(Yd8/\YbH/\∀x H3,Y6c i H2 x ->
    tc (YaX) H3 λb H4=>if b=true then YhV H4 (H5 D=Y05/\∃m',m' < m/\W (i+1) m' (ys++[y]) (Ybf [y]))
     else H4 D=Y05/\∃m',m' < m/\W (i+1) m' ys H4)))
  (hRR:∀(D:Addr) (H3:Hp) (s3:Shared) (σ':St) (H':Hp) (s':Shared),Y4m H3 s3->(∀b∈fp,kW X pins H3 b)->Y4Q (HS X scope x s3.heap.objs.size fp s3 H3 N') [] H' s'->Y0Q->Yj0 Y4F (.ok .next) s') :
  wpAny (Y3U) X.A (newList []) (λacc s₃=>wpAny (Y3U) X.A (Ygd scope X.env.globals Y9y [] X.env.qual none .none X.env) (λcenv s₄ =>
   codeAny (Y3U) X.A (Ygr Y8W 0 acc ({ cenv with scope:=relabel scope X.env })) (YjK acc) s₄) E s₃) E s:=by
 have O:∀b∈fp,Y7Q:=λb O=>by
  obtain⟨o,e,_⟩:=T.obj 0 _ h0 b O;exact Y18
 refine wpAny_newObj_type (MZ S.only ?_);have Y:YfM=none:=Y2D;obtain⟨W,⟨χ,Z⟩,ψ⟩:=R _ Y;have I3:Y4m (YhW H (.lst [])) ({ s with heap:=s.heap.push { cls:=.type "list",dict:=none,data:=.seq ([]:Ag).toArray } }):=Yi9 [] [] .nil Y0l;have z:∀b∈fp,kW X pins (YhW H (.lst [])) b:=λb a =>
  ⟨by rw[eP (λe=>by have:=O b a;rw[e]at this;exact Y1y)];exact(hf b a).1,(hf b a).2⟩
 have ζ:∀b∈fp,b<(s.heap.push { cls:=.type "list",dict:=none,data:=.seq ([]:Ag).toArray }).objs.size:=λb a=>by
  rw[fW];exact Nat.lt_succ_of_lt (O b a)
 have h:=(Heap.Ns.new (s.heap.push { cls:=.type "list",dict:=none,data:=.seq ([]:Ag).toArray }) (.type "dict")).keeps λb o e=>aF { cls:=.type "cell",data:=.cell none } e;have j:(((s.heap.push { cls:=.type "list",dict:=none,data:=.seq ([]:Ag).toArray }).push { cls:=.type "dict",data:=.dict #[] }).push { cls:=.type "cell",data:=.cell none }).IsCell ((s.heap.push { cls:=.type "list",dict:=none,data:=.seq ([]:Ag).toArray }).objs.size+1) none :=
  Y0B (by rw[<-fW (s.heap.push { cls:=.type "list",dict:=none,data:=.seq ([]:Ag).toArray }) { cls:=.type "dict",data:=.dict #[] }];exact Y1l)
 have l:Y0W ((s.heap.push { cls:=.type "list",dict:=none,data:=.seq ([]:Ag).toArray }).get? b=Y9) ((((s.heap.push { cls:=.type "list",dict:=none,data:=.seq ([]:Ag).toArray }).push { cls:=.type "dict",data:=.dict #[] }).push { cls:=.type "cell",data:=.cell none }).get? b=Y9):=λb o e=>Y78 e;show codeAny _ _ (Ygr _ 0 Y1r (YeM ((x,(s.heap.push { cls:=.type "list",dict:=none,data:=.seq ([]:Ag).toArray }).objs.size+1)::Y9y) ((s.heap.push { cls:=.type "list",dict:=none,data:=.seq ([]:Ag).toArray }).objs.size))) _ { s with heap:=(((s.heap.push { cls:=.type "list",dict:=none,data:=.seq ([]:Ag).toArray }).push { cls:=.type "dict",data:=.dict #[] }).push { cls:=.type "cell",data:=.cell none }) };generalize ((s.heap.push { cls:=.type "list",dict:=none,data:=.seq ([]:Ag).toArray }).push { cls:=.type "dict",data:=.dict #[] }).push { cls:=.type "cell",data:=.cell none }=h₁ at h j l ⊢;have c:Y0W ((s.heap.push { cls:=.type "list",dict:=none,data:=.seq ([]:Ag).toArray }).get? b=Y9) (h₁.get? b=Y9):=l;have J4:=aB0 (h':=h₁) (tk:=s.toks) S I3 z ζ h c j;have ξ:tn 0 h₁:=YaQ 0 _ h0 (λb a o e=>c b o (Y2n))
 have g:codeAny (Y3U) X.A (YgQ [⟨Y3z,iter,ifs,0⟩] 0 Y5a Y1r (YeM ((x,(s.heap.push { cls:=.type "list",dict:=none,data:=.seq ([]:Ag).toArray }).objs.size+1)::Y9y) ((s.heap.push { cls:=.type "list",dict:=none,data:=.seq ([]:Ag).toArray }).objs.size)))
   (RR (Y1r) (s.heap.push { cls:=.type "list",dict:=none,data:=.seq ([]:Ag).toArray }).objs.size) { s with heap:=h₁ }:=by
  refine sQ (λn s'=>∃(i:Nat) (ys:Al) (H2:Hp) (o:Am),cU (HS X scope x _ fp _ _ N') [] (o :: Y51) H2 s'/\tn i s'.heap/\(∀b∈fp,H2 b=none)/\W i n ys H2) ?_ χ ⟨0,[],_,none,J4,ξ,λb a=>(z b a).1,Z⟩;rintro n s' ⟨i,ys,H2,o,J2,μ,τ,w2⟩;obtain⟨hD,M⟩:=ψ i n ys H2 w2;have ν:∀b∈fp,kW (HS X scope x ((s.heap.push { cls:=.type "list",dict:=none,data:=.seq ([]:Ag).toArray }).objs.size) fp ({ s with heap:=s.heap.push { cls:=.type "list",dict:=none,data:=.seq ([]:Ag).toArray } }) (YhW H (.lst [])) N') [] H2 b:=λb a =>
   ⟨τ b a,(YbX a).1,Ykr a,YaK,(YbX a).2,λp α=>by cases α⟩
  rcases M with⟨B,hq⟩ | ⟨U,φ,L⟩
  ·refine Y29 (T.done (HS X scope x _ fp _ _ N') rfl rfl rfl rfl i [] s' _ H2 UW J2 ν μ B) (λr ρ ⟨η,J5⟩=>?_);subst η;exact hRR _ _ _ _ _ _ I3 z J5 hq
  ·refine Y29 (T.item (HS X scope x _ fp _ _ N') rfl rfl rfl rfl i [] s' _ H2 UW J2 ν μ U) (λr ρ ⟨u,η,hx⟩=>?_);subst η;refine Y29 hx (λ_ s2 ⟨v,H3,J3,rv,hy,γ,f3⟩=>?_);have δ:∀b∈fp,kW (HS X scope x ((s.heap.push { cls:=.type "list",dict:=none,data:=.seq ([]:Ag).toArray }).objs.size) fp ({ s with heap:=s.heap.push { cls:=.type "list",dict:=none,data:=.seq ([]:Ag).toArray } }) (YhW H (.lst [])) N') [] H3 b:=λb a =>
    ⟨f3 b a,(YbY a).1,Yks a,YaK,(YbY a).2,λp α=>by cases α⟩
   have P3:=J3.pinned δ (T.obj (i+1) _ γ);have d:∀{σ':St} {Hx:Hp} {sx:Shared},Y4Q (HS X scope x ((s.heap.push { cls:=.type "list",dict:=none,data:=.seq ([]:Ag).toArray }).objs.size) fp ({ s with heap:=s.heap.push { cls:=.type "list",dict:=none,data:=.seq ([]:Ag).toArray } }) (YhW H (.lst [])) N') ([]++vT fp s2.heap) Hx sx->tn (i+1) sx.heap/\∀b∈fp,Hx b=none:=λο =>
    ⟨YaQ (i+1) _ γ (λb a θ e=>(ο.pin (b,θ) (bL _ (bL _ (kH a e)))).1),λb a=>by
     obtain⟨θ,e,_⟩:=T.obj (i+1) _ γ b a;exact(ο.pin (b,θ) (bL _ (bL _ (kH a e)))).2.1⟩
   refine wpAny_assign_Name (qQ P3 (i:=0) (x:=x) (v:=v) ?nd ?hi ?hx rv (λυ J5=>?_) ?hfn)
   case nd=>exact S.nd
   case hi=>exact S.zero
   case hx=>exact .inr (sH S.own)
   case hfn=>exact .inl (by simp[HS])
   have J5':cU _ _ (Yn :: Y51) H3 υ:=J5;refine Y29 (ht _ _ _ _ _ _ _ _ _ J5' (L v H3 hy)) (λok s6 ⟨H6,J6,N⟩=>?_);dsimp only at N;by_cases hok:ok=true
   ·rw[Ykx]at N ⊢;refine Y29 (he _ _ _ _ _ _ _ _ _ J6 N) (λy s7 ⟨P,H7,J7,ω,β,m',G,κ⟩=>?_);refine Y29 (uW (X:=HS X scope x _ fp _ _ N') _ _ _ _ (Y1r) [P] (Y1r) [y] (λ_ H8=>H8=YhW H7 (.lst (ys++[P]))) J7 rfl (Y8x ω) (Y1e _ _ _ rfl β φ rfl)) (λ_ s8 ⟨_,H8,J8,_,e8⟩=>?_);subst e8;obtain⟨ε,ι⟩:=d J8;exact⟨m',G,i+1,ys++[P],_,Yn,J8.unpinned,ε,ι,κ⟩
   ·rw[Yky]at N ⊢;obtain⟨_,m',G,κ⟩:=N;obtain⟨ε,ι⟩:=d J6;exact⟨m',G,i+1,ys,_,Yn,J6.unpinned,ε,ι,κ⟩
 refine Yit g X.A 0 _ _ _ ξ g
def XS{wi:TI}(S:Y87)(hi:Yb0 X Y3z wi)(ht:∀C fp s₀ H₀,RQ (Ydj C) ifs tc)(he:∀C fp s₀ H₀,PE (Ydj C) elt te)
  (hs:∀x,Y4a=Y41:=by intro _;rfl):Y08 Y8W (WA wi js tc te):=by
 intro a s σ H Q I h;rw[eval_ListComp];refine Yi5 none rfl hs (lG (S.cells I.ok)) S.kind (Y5O (hi a s σ H _ I h) YjS e);refine Y5O i (λn z ⟨B,fp,A,J,H2,e,I2,T,j,g,R⟩=>?_) e;subst e;refine KQ S I2 T j g ht he R ?_;intro D H3 w y H' u I3 d J3 q;obtain⟨m,l,_⟩:=J3.loc;exact⟨m,l,λp c=>Y0E Y4F H' (ZH S I3 d J3 c) q⟩
def VI{wi:TI}(S:Y87)(hi:Yb1 X Y3z wi)(ht:∀C fp s₀ H₀,LN (Ydj C) ifs tc)(he:∀C fp s₀ H₀,hJ (Ydj C) elt te)
  (hs:∀x,Y4a=Y41:=by intro _;rfl):Yp Y8W (xY wi js tc te) :=
 ⟨by unfold xY qC;exact XS S hi.p (λC fp s₀ H₀=>(Y9C).p.mono) (λC fp s₀ H₀=>(Y9D).p.mono) hs⟩
end
def aCW(psc scope:Scope)(N:Ah)(x:Str)(N':Ah)(js:Ae):Bool :=
 (Y4Z (!(Yas y.2) || Yju y.1 Y2e))&&(YfG (Y8I y.2)) == [(x,NameKind.cell)]&&YjW &&
 (Y4Z (!(y.2 == .local) || Y8S y.1))&&(scope.names.lookup x) == Y2e &&
 (Y4Z (!(Yas y.2) || (!(Y8S y.1) && !(y.1 == x))))&&N'.length == YhD 1&&N'[0]? == Yb&&Yj3 &&
 ((List.range js.length).all λi=>match js[i]?,N'[i+1]? with
  | some j,some y=>N[j]? == some y&&scope.names.contains (y,NameKind.free)
  | _,_=>false)
def kX.of{X:Cx}{psc scope:Scope}{N:Ah}{x:Str}{N':Ah}{js:Ae}(h:aCW psc scope N x N' js=true)(hX:X.env.scope=psc)(hN:X.N=N)(hc:Y1d):Y87:=by
 unfold aCW at h;simp only[dG]at h;obtain⟨⟨⟨⟨⟨⟨⟨⟨⟨g,s⟩,p⟩,m⟩,z⟩,d⟩,w⟩,r⟩,u⟩,c⟩:=h;rw[List.all_eq_true]at g m d c;refine⟨hc,Y53,by simpa using s,by simpa using p,Y53,by simpa using z,Y53,λa=>?_,by simpa using w,by simpa using r,of_decide_eq_true u,λi j l=>?_⟩
 ·have:=g y a;rw[e]at this;show YhX y.1 _;rw[hX];simpa using this
 ·have:=m y a;rw[e]at this;simpa using this
 ·have:=d _ a;simp[e]at this
 ·have:=d _ a;simp at this
 ·have n:Ycd i:=(aB.mp l).1;have:=c i (cD.mpr n);rw[l]at this;cases q:N'[i+1]? with
  | none=>rw[q]at this;simp at this
  | some y =>
   rw[q]at this;simp only[dG]at this;exact Yif y (by rw[hN];simpa using this.1) this.2
end L2
namespace Kw
open PySem L2 Mf
abbrev sQ2:Stmt:=(AS (top 23) 2)
def cQ2:Yg ["self","costs","many"] a40 sQ2:={}
def VE{X:Cx}{tg l:Expr}{tl:TE}(K:Aa)(hl:Yp l tl)(hK:X.K=K:=by rfl):OD X tg l (YM K tl):=by
 subst hK;exact eJ hl
def yG{n i:Nat}{b:Y0}{R:Md.fD}(h:i<n):(iZ n b R)[i]?=some (dF (n+1) (Md.rho n b R i)):=by
 unfold iZ;rw[aG,bP h];rfl
def KW{n i:Nat}{a:Y0}(h:i<n):(dF n a)[i]?=some (a i):=by
 unfold dF;rw[aG,bP h];rfl
def iC{n i:Nat}{a:Y0}(h:i<n):((dF n a).map V.int)[i]?=Yd (a i):=by
 rw[aG,KW h];rfl
def mI{n:Nat}{ys:Al}{g:Y0}(hl:Y9s)(h:∀(i:Nat) (y:V),Y19=Y03->Y3Q (g i)):ys=(dF n g).map V.int:=oW hl h
def vD{n:Nat}{a:Y0}{x:Int}(h:x∈dF n a):∃i,i<n/\a i=x:=by
 unfold dF at h;obtain⟨i,c,e⟩:=Y7j;exact⟨i,cD.mp c,e⟩
def uY(ra sa:Addr)(p:Int):(mfs ra sa p).lookup ("rows" : Str)=Y6 ra:=by unfold mfs;rw[fC,Y20,fC,Y20,fC,Yr]
def CG(ra sa:Addr)(p:Int):(mfs ra sa p).lookup ("parts" : Str)=Yd p:=by unfold mfs;rw[fC,Y20,fC,Yr]
def tX(ra sa:Addr)(p:Int):(mfs ra sa p).lookup ("standing" : Str)=Y6 sa:=by unfold mfs;rw[fC,Yr]
theorem uD.same{H H':Hp}{C a sa:Addr}{n:Nat}{b:Y0}{R:Md.fD}{p:Int}{ts:Al}(h:uD H C a sa n b R p ts)(s:Y1):uD H' C a sa n b R p ts:=by
 obtain⟨g,c,e,d⟩:=h.ex;exact⟨⟨g,c,s _ _ e,d.same s⟩,s _ _ h.st,h.len⟩
structure aAj(n:Nat)(b:Y0)(R:Md.fD)(p:Int)(C:Nat):Prop where
 n8:n<=8
 rz:∀i,i<n->∀k,k<n+1->(Md.rho n b R i k).natAbs<2^C
 pz:p.natAbs<2^C
 c4:C<=4000
inductive qT (M:Addr):Yk
 | i {H:Hp} {Q:VK} {E:XK} {x sa ca:Addr} {n:Nat} {b:Y0} {R:Md.fD} {p:Int} {ts:Al} {cs:Y0} {C:Nat} (h1:uD H M x sa n b R p ts) (h2:H ca=Yq ((dF n cs).map V.int)) (h3:aAj n b R p C) (h4:∀i,i<n->(cs i).natAbs<Y0J) (q:∀D H',H D=none->Y0x=Yq ((dF n (Md.rat n R cs)).map V.int)->Y1->Y0Q):qT M [Y1H,.ref ca] H Q E
section
def oQ2(F:Ya "rates" "Master.rates" sQ2)(T:Ye)(FQ58:Y0k "product" a33 uP):dO P w K mg base cW 2 f fd a40 (Yke):=by
 refine F.oky cQ2 λν H Q E h=>?_;obtain @⟨H,Q,E,x,X,ξ,n,b,R,p,υ,ζ,C,β,I,Z,γ,q⟩:=h;refine Y3 ?_;intro ε A L s Y _;have O:=T.w_Master;have n8:=Z.n8;obtain⟨φ,G,g,LL⟩:=β.ex;obtain⟨M,a,z,B⟩:=LL.at_;rw[nU]at z;have up:∀{x:Int},Y8L (2^C)->Yf6:=λh=>Y4r h Z.c4;refine⟨_,(aH (Y1E cQ2.nd (Yf2 oG (by rfl) Kk (Y1W Y3b)))
  (Y1k (VI (kX.of (psc:=bB sQ2) (N:=["self","costs","many"]) (N':=["place","self","costs"]) (js:=[0,1]) Kk rfl rfl rfl) (fR rfl T.b_range (Y2L 2)) (Ybg) (λ_ _ _ _=>(Y2R FQ58 (fK (dD.of (N:=["place","self","costs"]) (N':=["row","place"]) (js:=[0]) (by kernel_rfl) rfl rfl rfl) (VE K (dP K (aD 1))) Ybg (λ_ _ _ _=>bQ (iA K) (aD 0) (Y3F aK Y0w))) 2))))),?_⟩
 refine Yo;intro ο τ;refine Y1B (by simp) g (uY G X p);refine Yb3 a;rw[z];refine Y3t _ rfl _ Oo Oo ?_;rw[show((n:Nat):Int).toNat=n by exact Oo];refine kU (n:=n) (λk y _=>Y3Q (Md.rat n R ζ k)) (Y9J) Oo (λk H' Q' χ d η=>?_) (λD ρ H' κ U d j Y=>?_)
 ·rw[Int.zero_add];refine Y1B (by simp) (d _ _ g) (uY G X p);refine Y1h G (d _ _ a) (Yeu M (Y3Q (R i k)) Oo (d _ _ a) (λi y H2 Q2 u m δ=>?_) (λD2 ι H2 μ W m J S=>?_))
  ·have e:i<n:=by have:=(aB.mp u).1;exact Oo
   obtain⟨l,j,α⟩:=B i _ (yG e);rw[u]at j;cases j;refine Y0g Y9b;show rIx K (V.ref l) (V.int ((1:Int)+(k:Int))) H2 Q2;rw[show(1:Int)+(k:Int)=((k+1:Nat):Int)by exact Oo];exact xU ((d.trans m) _ _ α) (eB (iC Oo)) (δ _ H2 (Y09) rfl)
  ·rw[mI (J.trans z) S]at W;refine Y7;refine uP.i W ((d.trans m) _ _ I) (by rw[cQ,cQ]) (by rw[cQ];exact Oo) (λx g=>?_) (λy u=>?_) λH3 θ=>?_
   ·obtain⟨i,e,rfl⟩:=vD g;exact up (Z.rz i e (k+1) Oo)
   ·obtain⟨i,e,rfl⟩:=vD u;exact γ i e
   ·refine η _ H3 (m.trans θ) ?_;rw[KI];refine Ygg ?_;unfold Md.dot Md.rat;exact Md.eG λi _=>Int.mul_comm ..
 ·rw[mI j Y]at U;exact q D H' κ U d
end
abbrev sQ1:Stmt:=(AS (top 23) 1)
def cQ1:Yg ["self","column","thing","steps","out"] a17 sQ1:={}
def SM(ra ra' sa:Addr)(p:Int):Y2y "rows" ra' (mfs ra sa p)=mfs ra' sa p:=by unfold mfs;rfl
def MS(ra sa:Addr)(p p':Int):eT "parts" (.int p') (mfs ra sa p)=mfs ra sa p':=by unfold mfs;rfl
def wF.but{H H':Hp}{x C dx a:Addr}{fs:Y3k}{m:Ac}(h:wF H a m)(b:Y56 x)(hx:H x=Y5k):wF H' a m:=by
 obtain⟨d,c,n,e⟩:=h;refine⟨d,b.at (λz=>by rw[z,hx]at c;cases c) c,n,λi l row g j=>?_⟩;have:=e i l row g j;exact b.at (λz=>by rw[z,hx]at this;cases this) this
def aB3(n:Nat)(b:Y0)(R:Md.fD)(i:Nat):nE ((dF (n+1) (Md.rho n b R i)).map V.int) (some 1) none=(dF n (R i)).map V.int:=by
 have h:=HU ((dF (n+1) (Md.rho n b R i)).map V.int) 1;rw[show((1:Nat):Int)=1 from rfl]at h;rw[h];unfold dF;rw[List.range_succ_eq_map,bH,List.map_map,bH,List.drop_succ_cons,List.drop_zero]
 rfl
abbrev OZ(n:Nat)(R:Md.fD)(a:Y0):Af:=dF n (Yez j)
inductive tO (M:Addr):Yk
 | i {H:Hp} {Q:VK} {E:XK} {x sa ca:Addr} {tv:V} {n:Nat} {b a:Y0} {B R:Md.fD} {p:Int} {ts:Al} {C:Nat} (h1:uD H M x sa n b R p ts) (h2:H ca=Yq ((dF n a).map V.int)) (h3:aAj n b R p C) (h4:Md.Mst n b B R p) (h5:0<p) (h6:∀i,i<n->(a i).natAbs<Y0J) (h7:∀i,i<n->(Y9x).natAbs<2^C) (h8:∃i,i<n/\0<Y9x) (q:∀o H',o<n->0<Md.dot n (R o) a->Md.aAk n b R a o->aAm x sa H H'->uD H' M x sa n b (Y9g n R o a) (Md.dot n (R o) a) (YbD tv)->Ycu):tO M [Y1H,.ref ca,tv] H Q E
section
def oQ1(F:Ya "enter" "Master.enter" sQ1)(T:Ye)(FQ58:Y0k "product" a33 uP)(FQ42:Y2B "leaving" ["rows","steps"] AF)(FQ30:Y0k "exchanged" a30 AI):dO P w K mg base cW 3 f fd a17 (Ykf):=by
 refine Y0P cQ1;obtain @⟨H,Q,E,x,g,ca,tv,n,b,a,B,R,p,ts,C,J,θ,Z,M,p0,za,zs,pos,q⟩:=h;refine Y3 ?_;intro cdv A μ s U _;have O:=T.w_Master;have n8:=Z.n8;obtain⟨u,Y,L,LL⟩:=J.ex;obtain⟨rvs,γ,lr,χ⟩:=LL.at_;rw[nU]at lr;have up:∀{x:Int},Y8L (2^C)->Yf6:=λh=>Y4r h Z.c4;have K0:MzK (n+1) C (iZ n b R) (OZ n R a):=by
  refine⟨by rw[cQ,nU],by rw[nU];exact Oo,λr U=>?_,Oo,λr U y e=>?_,λy e=>?_,Z.c4⟩
  ·obtain⟨i,m,rfl⟩:=aN.mp U;exact cQ _ _
  ·obtain⟨i,m,rfl⟩:=aN.mp U;obtain⟨k,ε,rfl⟩:=vD e;exact Z.rz i (cD.mp m) k ε
  ·obtain⟨i,m,rfl⟩:=vD e;exact zs i m
 refine⟨_,(aH (iV (i:=3) (dD.o ["row","column"] [1]) cQ1.nd rfl rfl Y67 Ybg (λ_ _ _ _=>Y2R FQ58 (oY (wY K) Y0H (rT aK) rV) 1))
  (aH (Y39 cQ1.nd (Y2R FQ42 Y3b 3))
  (aH (Y6a (VH FQ30 (Y3b) (Y0h) (Y1j) (Y3b)))
  (aH (Y6a (Y5N 3 Y1j))
  (aS (GA (Y0c) (LV (Y3b) (Y1j) BR))))))),?_⟩
 refine Yo;intro ρ ξ;refine Y1B (by simp) L (uY Y g p);refine Y1h Y γ (Yeu rvs (Y3Q Y9x) Oo γ (λi y H2 Q2 e S k2=>?_) (λD ys H1 hD δ ι N ac=>?_))
 ·have m:i<n:=by have:=(aB.mp e).1;exact Oo
  obtain⟨l,N,el⟩:=χ i _ (yG m);rw[e]at N;cases N;refine Y01;refine slL (ys:=(dF n (R i)).map V.int) (S _ _ el) (aB3 n b R i) λD3 H3 hD3 e3 X=>Y7;refine uP.i e3 ((S.trans X) _ _ θ) (by rw[cQ,cQ]) (by rw[cQ];exact Oo) (λz ν=>?_) (λz ν=>?_) λH4 s4=>?_
  ·obtain⟨k,ε,rfl⟩:=vD ν;exact up (Z.rz i m (k+1) Oo)
  ·obtain⟨k,ε,rfl⟩:=vD ν;exact za k ε
  ·exact k2 _ H4 (X.trans s4) (by rw[KI])
 ·rw[mI (N.trans lr) ac]at δ;refine Ys;intro ρ ξ;have aa:=ι _ _ L;refine Y1B (by simp) aa (uY Y g p);refine Y7;refine AF.i (LL.same ι) δ K0 λH2 S=>Ys;intro ρ ξ;rw[cQ];obtain⟨g1,g2⟩:=EZ (n:=n) (b:=b) (a:=a) (R:=R) (aM n);cases eo:FA (iZ n b R) (OZ n R a) n with
  | none =>
   obtain⟨i,m,ο⟩:=pos;exact absurd ο (g1 eo i m)
  | some o =>
   obtain⟨W,sp⟩:=CD _ _ _ _ eo;rw[jQ W]at sp;have S2:=ι.trans S;have I:=Y1V L;refine Y1B (by simp) I (uY Y g p);refine Y2k (jY O (by simp) I (CG Y g p) ?_);refine AI.i (LL.same S2) (S _ _ δ) K0 (by rw[nU];exact W) p0 (Y4r Z.pz (Y3h Z.c4)) λd H3 G L3 X=>?_;rw[aBT M.bs p0 W]at L3;have ab:=L3;have L3:=L3.ll;have S3:=S2.trans X;have β:=S3 _ _ L;have few:∀(r s:Addr) (z:Int),(mfs r s z).length<1000:=λr s z=>by show 3<1000;decide
   refine⟨_,rfl,x,c.Master,u,_,rfl,β,O.cls,Y6q (by simp),few ..,Y3a⟩;intro ρ ξ;rw[SM];have ζ:=Yeq x H3 u (mfs d g p);have e4:(upd H3 x (.ins c.Master u (mfs d g p))) x=_:=bK;generalize upd H3 x (.ins c.Master u (mfs d g p))=H4 at ζ e4 ⊢;have nD:D≠x:=λz=>by rw[z,L]at hD;cases hD
   refine Ydh (ζ.at nD ((S.trans X) _ _ δ)) (iC W);refine⟨_,rfl,x,c.Master,u,_,rfl,e4,O.cls,Y6q (by simp),few ..,?_⟩;rw[MS];have b5:=Yeq x H4 u (mfs d g (Md.dot n (R o) a));have υ:(upd H4 x (.ins c.Master u (mfs d g (Md.dot n (R o) a)))) x=_:=bK;generalize upd H4 x (.ins c.Master u (mfs d g (Md.dot n (R o) a)))=H5 at b5 υ ⊢;have B5:aU x H3 H5:=ζ.trans b5;have L5:=L3.but B5 β;have α:g≠x:=λz=>by have:=J.st;rw[z,L]at this;cases this
   have ω:=B5.at α (S3 _ _ J.st);refine Y0g (jY O (by simp) υ (tX d g _) ?_);refine Y7;refine stG (j:=o) ω (NI (by rw[J.len];exact W)) λH6 e6 τ=>?_;have η:=τ.at (Ne.symm α) υ;refine q o H6 W sp (λi m ο=>g2 o eo i m ο) (λy κ n1 φ e=>τ.at φ (B5.at n1 (S3 _ _ e))) ⟨Y1R u d η,e6,by rw[List.length_set];exact J.len⟩;obtain⟨ψ,h1,h2,h3⟩:=ab;have nf:∀{y:Addr} {κ:HO},H3 y=some κ->y≠x->y≠g->H6 y=some κ:=λe n1 φ=>τ.at φ (B5.at n1 e);have nn:∀{y:Addr},H2 y=none->y≠x/\y≠g:=λe=>⟨λz=>(by rw[z,I]at e;cases e),λz=>(by rw[z,Y1V J.st]at e;cases e)⟩;refine⟨ψ,nf h1 (nn G).1 (nn G).2,h2,λj l row N U=>?_⟩;obtain⟨h4,h5⟩:=h3 j l row N U;exact nf h5 (nn h4).1 (nn h4).2
end
end Kw
namespace L2
open PySem PySem.W PySem.Spec PySem.Calls PyProof.Rows
section
variable{X:Cx}
@[irreducible] def aBc:Y1i:=λxs H Q=>∃(p:Addr) (bs:Yh9),xs=Y48/\H p=Yq Ykg/\Y2r Yhm
def rany{p:Addr}{bs:Yh9}{H:Hp}{Q:VK}(e:H p=Yq Ykg)(q:Y2r Yhm):aBc Y48 H Q:=by unfold aBc;exact Y0Z p bs e q
def aAc{bs:Yh9}:∀{us:Ag},Y4x Ykg->LSm.BoolsAre us bs:=by
 induction bs with
 | nil=>intro us r;cases r;exact .nil
 | cons b bs ih =>
  intro us r;cases r with
  | cons r t=>cases(show _=Value.bool b from r);exact .cons b (ih t)
def MO(bs:Yh9):((List.range bs.length).any λi=>(bs[i]?).getD false)=Yhm:=by
 apply Bool.eq_iff_iff.mpr;rw[List.any_eq_true,List.any_eq_true];constructor
 ·rintro⟨i,c,h⟩;have a:=cD.mp c;rw[aC a]at h;exact⟨bs[i],List.getElem_mem a,h⟩
 ·rintro⟨b,d,h⟩;obtain⟨i,c,rfl⟩:=List.getElem_of_mem d;exact⟨i,cD.mpr c,by rw[aC c];exact h⟩
def aFw(hc:Y1d):Y4i "any" aBc:=by
 unfold aBc;intro d s σ H L C Q I r h;obtain⟨p,bs,rfl,e,q⟩:=h;obtain⟨_,rfl,y⟩:=nO r;cases y;obtain⟨z,a,n,rv,G,j⟩:=I.lstM e;have l:s.heap.IsList p a.toArray:=Y3P j n rfl;have g:=aAc rv;have c:Y8b p:=aZ j;refine call_any_walk (wpAny_pyIter_list l ?_);refine⟨s.heap.objs.size,[s.heap.objs.size,p],[s.heap.objs.size],a.toArray.size,_,_,λi=>(bs[i]?).getD false,rfl,Walks.list (A:=X.A.in1) (Yab) _ p (dN c) a.toArray,
  ⟨YaG _,l.push _⟩,λi v D Q' E' u m=>?_,λB J w=>?_⟩
 ·obtain⟨b,e,rfl⟩:=g.get i v (by simpa using u);simp only[e,Option.getD_some]at m;exact wpAny_truthy_bool m
 ·have e:((List.range a.toArray.size).any λi=>(bs[i]?).getD false)=Yhm:=by
   rw[bI,g.length];exact MO bs
  rw[e];exact Y0E (.bl _) H (I.kept (LSm.kept_iter w)) q
end
end L2
namespace Kw
open PySem L2 Mf
abbrev aDX:Stmt:=(top 76)
def aJn:Yg a23 a23 aDX:={}
def uA{s u:Str}:Y0U (V.str s) (V.str u)=Y0U s u:=by
 by_cases e:s=u
 ·subst e;simp
 ·rw[bZ e,bZ (YaC (by injection z))]
structure oH where
 word:Str
 cost:Int
 v:V
def xP(H:Hp)(u:V)(t:oH):Prop:=∃a,u=Yf/\H a=Ym [.str t.word,.int t.cost,t.v]
structure lI(H:Hp)(us:Al)(ts:Y0t):Prop where
 len:Y8l ts.length
 at_:∀(i:Nat) (u:V) (t:oH),Y4P=Yl->ts[i]?=Y7o->xP H u t
def xP.same{H H':Hp}{u:V}{t:oH}(h:xP H u t)(s:Y1):xP H' u t:=by
 obtain⟨a,e,h⟩:=h;exact Y2s e (s _ _ h)
theorem lI.same{H H':Hp}{us:Al}{ts:Y0t}(h:lI H us ts)(s:Y1):lI H' us ts:=⟨h.len,λi u t a c=>(h.at_ i u t a c).same s⟩
def xP.keep2{H H':Hp}{x sa C dx:Addr}{fs:Y3k}{xs:Al}{u:V}{t:oH}(h:xP H u t)(k:aAm x sa H H')(hx:H x=Y5k)(hs:H sa=Y0A):xP H' u t:=by
 obtain⟨a,e,h⟩:=h;exact Y2s e (k _ _ (λz=>by rw[z,hx]at h;cases h) (λz=>by rw[z,hs]at h;cases h) h)
def lI.get{H:Hp}{us:Al}{ts:Y0t}(h:lI H us ts){i:Nat}{u:V}(hu:Y4P=Yl):∃t,ts[i]?=Y7o/\xP H u t:=by
 have a:i<ts.length:=by have:=(YhA).1;have:=h.len;exact Oo
 exact⟨ts[i],aC a,h.at_ i u _ hu (aC a)⟩
def gG(ts:Y0t):Bool:=(ts.map λt=>decide (t.word=Str.ofString "lack")).any id
inductive lY (M:Addr):Yk
 | i {H:Hp} {Q:VK} {E:XK} {x sa:Addr} {n:Nat} {b:Y0} {R:Md.fD} {p:Int} {us:Al} {ts:Y0t} (h1:uD H M x sa n b R p us) (h2:lI H us ts) (h3:n<=8) (q:∀H',Y1->Q (.bl Y1w) H'):lY M [Y1H] H Q E
section
def aIm(F:Ya "lacks" "lacks" aDX)(T:Ye):dO P w K mg base cW 1 f fd a23 (YgM):=by
 refine F.oky aJn λY H Q E h=>?_;obtain @⟨H,Q,E,x,C,n,b,R,p,L,z,d,m,Z,q⟩:=h;refine Y3 ?_;intro S A j s γ _;have O:=T.w_Master;obtain⟨ε,I,M,LL⟩:=d.ex;have β:=d.len;refine Y3A (jK (aFw rfl) (by rfl) T.b_any Kk (Y1W (Y6Z ["thing"] [] Y67 (oZ oJ (Y6s 0) (Ykw "lack"))))) (Y1B (by simp) M (tX I C p));refine Y1h C d.st (Yeu L (∃t,z[i]?=Y7o/\y=.bl (Yad "lack")) Oo d.st (λi y H2 Q2 X U N=>?_) (λD u H1 δ B J α g=>?_))
 ·obtain⟨t,l,a,rfl,W⟩:=m.get X;refine Y0u (U _ _ W);exact Y3 (N _ H2 (Y09) ⟨t,l,by rw[uA]⟩)
 ·have G:u=(z.map λt=>decide (t.word=Str.ofString "lack")).map V.bl:=by
   refine Y7t;rw[aG,aG];by_cases hi:i<u.length
   ·obtain⟨t,l,e⟩:=g i _ (aC hi);rw[l,aC hi,e];rfl
   ·rw[Y9l,cB (by have:=m.len;exact Oo)];rfl
  rw[G]at B;exact rany B (q H1 J)
end
abbrev aDD:Stmt:=(top 77)
def aJd:Yg a23 a23 aDD:={}
def xT(ts:Y0t)(i:Nat):Int:=if Y1w=true then(if((ts[i]?.map λt=>decide (t.word=Str.ofString "lack")).getD false)=true then 1 else 0) else(ts[i]?.map (·.cost)).getD 0
inductive mV (M:Addr):Yk
 | i {H:Hp} {Q:VK} {E:XK} {x sa:Addr} {n:Nat} {b:Y0} {R:Md.fD} {p:Int} {us:Al} {ts:Y0t} {C:Nat} (h1:uD H M x sa n b R p us) (h2:lI H us ts) (h3:aAj n b R p C) (h4:∀t∈ts,Yh7 Y0J) (q:∀D H',H D=none->Y0x=Yq ((dF n (Md.rat n R (xT ts))).map V.int)->Y1->Y0Q):mV M [Y1H] H Q E
section
def aH1(F:Ya "rates_of" "rates_of" aDD)(T:Ye)(FQ38:Y0k "lacks" a23 YgM)(FQ2:FnM P w K mg base 2 c.Master "rates" a40 (Yke)):dO P w K mg base cW 3 f fd a23 (Ykh):=by
 refine F.oky aJd λρ H Q E h=>?_;obtain @⟨H,Q,E,x,M,n,b,R,p,δ,u,C,m,I,Z,μ,q⟩:=h;refine Y3 ?_;intro ξ A N s ζ _;have O:=T.w_Master;have n8:=Z.n8;have ε:=m.len;have lt:=I.len;have γ:∀(r s:Addr) (z:Int),(mfs r s z).lookup ("rates" : Str)=none:=λr s z=>by unfold mfs;rw[fC,Y20,fC,Y20,fC,Y20];rfl
 refine⟨_,(aH (Y4L (qE (Y5C FQ38)) (Yki FQ2 (ζ.mono Dd) Y0H (Y1W (Y6Z ["thing"] [] Y67 (nK (eC oJ (Y6s 0) (Ykw "lack")) aK aK)))))
  (Y1k (Yki FQ2 (ζ.mono Dd) Y0H (Y1W (Y6Z ["thing"] [] Y67 (Y6s 0)))))),?_⟩
 refine Yo;intro ι τ;refine Y7;refine lY.i m I n8 λH1 e=>Y7;obtain⟨θ,β,J,LL⟩:=(m.same e).ex;have g:=(m.same e).st;cases eb:gG u with
 | true =>
  refine pO (Y2i);intro ι;refine⟨_,rfl,x,θ,_,rfl,J,γ ..,_,rfl,jY O (by simp) J (tX β M p) ?_⟩;refine Y1h M g (Yeu δ (Y3Q (xT u i)) Oo g (λi y H2 Q2 Y d L=>?_) (λD κ H2 ο G d S l=>?_))
  ·obtain⟨t,α,a,rfl,X⟩:=I.get Y;refine Y0u ((e.trans d) _ _ X);refine Y3 Y7;have η:xT u i=if Yad "lack"=true then 1 else 0:=by unfold xT;rw[if_pos eb,α];rfl
   rw[uA];cases ew:Yad "lack"with
   | true =>
    exact pO (L _ H2 (Y09) (by rw[η,ew];rfl))
   | false =>
    exact nW (L _ H2 (Y09) (by rw[η,ew];rfl))
  ·rw[mI (S.trans ε) l]at G;refine qT.i (m.same (e.trans d)) G Z (λi ν=>?_) λD3 H3 j U W=>?_
   ·unfold xT;rw[if_pos eb];split
    ·show 1<Y0J;exact Yir
    ·show 0<Y0J;exact Y9N
   ·exact q D3 H3 ((e.trans d).free j) U ((e.trans d).trans W)
 | false =>
  refine nW ⟨_,rfl,x,θ,_,rfl,J,γ ..,_,rfl,jY O (by simp) J (tX β M p) ?_⟩;refine Y1h M g (Yeu δ (Y3Q (xT u i)) Oo g (λi y H2 Q2 Y d L=>?_) (λD κ H2 ο G d S l=>?_))
  ·obtain⟨t,α,a,rfl,X⟩:=I.get Y;refine Y0u ((e.trans d) _ _ X);exact L _ H2 (Y09) (by unfold xT;rw[if_neg (by rw[eb];decide),α];rfl)
  ·rw[mI (S.trans ε) l]at G;refine qT.i (m.same (e.trans d)) G Z (λi ν=>?_) λD3 H3 j U W=>?_
   ·unfold xT;rw[if_neg (by rw[eb];decide)];have B:i<u.length:=Oo;rw[aC B];exact μ _ (List.getElem_mem B)
   ·exact q D3 H3 ((e.trans d).free j) U ((e.trans d).trans W)
end
abbrev aD3:Stmt:=(top 78)
def aJq:Yg ["rates"] ["rates"] aD3:={}
def ZJ(n:Nat)(y:Y0):nE ((dF (n+1) y).map V.int) none (some (-1))=(dF n y).map V.int:=by
 have e:(dF (n+1) y).map V.int=(dF n y).map V.int++YaJ (y n):=by unfold dF;rw[List.range_succ,bE,bE];rfl
 have l:((dF n y).map V.int).length=n:=by rw[aA,cQ]
 rw[e];generalize (dF n y).map V.int=a at l ⊢;unfold nE;rw[HT.wZ];have c:HT.lB (a++YaJ (y n)).length (a++YaJ (y n)).length (some (-1))=n:=by
  rw[aW,l];show(if(-1:Int)<0 then((-1:Int)+((n+1:Nat):Int)).toNat else min (-1:Int).toNat (n+1))=n;rw[Yha];exact Oo
 rw[c,Nat.sub_zero,List.drop_zero,<-l,List.take_left']
 rfl
inductive mY:Yk
 | i {H:Hp} {Q:VK} {E:XK} {a:Addr} {n:Nat} {y:Y0} (h1:H a=Yq ((dF (n+1) y).map V.int)) (h2:n<=8) (q:∀D H',H D=none->Y0x=Yq ((dF n λi=>- y i).map V.int)->Y1->Y0Q):mY Y1O H Q E
section
def aIs(F:Ya "factors_of" "factors_of" aD3)(T:Ye):dO P w K mg base cW 1 f fd ["rates"] mY:=by
 refine F.oky aJq λM H Q E h=>?_;obtain @⟨H,Q,E,a,n,y,J,N,q⟩:=h;refine Y3 ?_;intro I A d s O _;refine Y5D (Y6Z ["rate"] [] (eJ (oY (wY K) Y0H rV (rT (BH vR aK)))) (BH vR (Y0H)));refine Y0g Y7;refine slL (ys:=(dF n y).map V.int) J (ZJ n y) λD1 H1 B u j=>Y1h D1 u (Ydv ((dF n y).map V.int) (YkL z (- y i)) (by rw[aA,cQ];exact Oo) u (λi z H2 Q2 e p C=>?_) (λD ys H2 L l p m g=>?_))
 ·have G:i<n:=by have:=(aB.mp e).1;rw[aA,cQ]at this;exact this
  rw[iC G]at e;cases e;exact Y0g (C _ H2 (Y09) rfl)
 ·rw[aA,cQ]at m;rw[mI m g]at l;exact q D H2 (j.free L) l (j.trans p)
end
abbrev qI(ss:Aj)(pz:Yv)(c:Ae)(v:Nat):Rat:=pz v*Y5v
def worz(F W M:Nat)(ss:Aj)(mix:Ak)(pz:Yv)(kz:Rat)(cs:Ak)(c:Ae):Rat:=qM W F (Y7L) (Y4t) pz (λk=>kz*Y7W) (Y2q) c
def UT(F W M:Nat)(ss:Aj)(mix:Ak)(pz:Yv)(kz:Rat)(cs:Ak)(c:Ae):Rat:=kz*Y9j W c+YcZ F (Y5G F W M Y33)
def OJ(F W M:Nat)(ss:Aj)(mix:Ak)(pz:Yv)(kz:Rat)(cs:Ak)(c:Ae)(b:Nat):Prop :=
 (b=0/\Y1z/\Y5G F W M c=UT F W M ss mix pz kz cs c)\/∃v,v<W/\b=1+v/\Y5G F W M c=cE W (qI ss pz c)-qI ss pz c v
section
variable{F W M:Nat}{ss:Aj}{mix cs:Ak}{pz:Yv}{kz:Rat}
def RY{c:Ae}(h:M<=c.sum):Y5G F W M c=mQ (oC W (qI ss pz c)):=by
 unfold worz;rw[Nat.sub_eq_zero_of_le h];rfl
def EF{c:Ae}(h:Y1z)(hl:Y2E):Y5G F W M c=mQ (oC W (qI ss pz c)++[UT F W M ss mix pz kz cs c]):=by
 obtain⟨n,a⟩:∃n,Y2q=n+1:=Y1N (Y2q-1);have e:UT F W M ss mix pz kz cs c=kz*Y8B*Y0q (cS mix v*Y5v)+YcZ F (qM W F (Y7L) (Y4t) pz (λk=>kz*Y7W) n (Y33)):=by
  unfold UT CH;rw[<-Rat.mul_assoc];congr 1;refine bT λj d=>?_;unfold worz;rw[Y7M,show M-(c.sum+1)=n by exact Oo]
 rw[e];unfold worz;rw[a,EG]
def SW{d:Yv}{ns:Af}(hl:Ya3 W)(hv:∀(i:Nat) (n:Int),ns[i]?=Y6l->(n:Rat)=cE W d-d i){m:Int}(hm:Y7C m)(hle:∀a∈ns,m<=a):(m:Rat)=mQ (oC W d):=by
 have h:=YB (U:=1) Dd hl (λi n h=>by rw[hv i n h,Rat.one_mul]) hm hle;rw[Rat.one_mul]at h;exact h
def FP{c:Ae}{v:Nat}(w1:1<=W)(hl:Y2E)(hv:v<W)(e:cE W (qI ss pz c)-qI ss pz c v=mQ (oC W (qI ss pz c)))(h:Y1z->¬UT F W M ss mix pz kz cs c<mQ (oC W (qI ss pz c))) :
  OJ F W M ss mix pz kz cs c (1+v)/\Y5G F W M c=mQ (oC W (qI ss pz c)):=by
 have a:Y5G F W M c=mQ (oC W (qI ss pz c)):=by
  by_cases q:Y1z
  ·rw[EF q hl,EX (MM w1 _),if_neg (h q)]
  ·exact RY Oo
 exact⟨.inr (Y8d v hv (by rw[a,e])),a⟩
def aCn{c:Ae}(w1:1<=W)(hl:Y2E)(hc:Y1z)(h:UT F W M ss mix pz kz cs c<mQ (oC W (qI ss pz c))):OJ F W M ss mix pz kz cs c 0/\Y5G F W M c=UT F W M ss mix pz kz cs c:=by
 have a:Y5G F W M c=UT F W M ss mix pz kz cs c:=by rw[EF hc hl,EX (MM w1 _),Y4z]
 exact⟨Yf9 rfl hc a,a⟩
end
structure FcZ(W:Nat)(us:Ae)(cu:Nat)(fns:Af)(cf:Int)(pz:Yv)(kz:Rat):Prop where
 fl:fns.length=W
 ul:Y9r
 fac:∀(i:Nat) (f:Int) (u:Nat),fns[i]?=Y5h->Y4P=Yl->(f:Rat)*(u:Rat)=pz i/\f.natAbs<Y0J
 cfu:(cf:Rat)*(cu:Rat)=kz
 cz:cf.natAbs<Y0J
 uz:∀u∈us,u<Y0i
 cuz:cu<Y0i
inductive wX (C:Addr):Yk
 | i {H:Hp} {Q:VK} {E:XK} {x fa:Addr} {cf:Int} {fns:Af} {F W M Ns Nm Np Nc B:Nat} {ss:Aj} {mix ps cs:Ak} {us:Ae} {cu:Nat} {pz:Yv} {kz:Rat} (h1:zW H x C F W M ss mix cs us cu) (h2:H fa=Yq (fns.map V.int)) (h3:lH F W M ss mix ps cs Ns Nm Np Nc B) (h4:FcZ W us cu fns cf pz kz) (h5:(Y07).length<=400) (k:∀a bp m kvs best H',Y1->H' a=Ym [YcE,Y4H]->H' bp=Y10->UQ kvs Y07 best->(∀c∈rise F M,OJ F W M ss mix pz kz cs c (Y0o))->(m:Rat)=Y7i F W M pz kz->Y6w):wX C [Y1H,.ref fa,.int cf] H Q E
def ES{F:Nat}(M:Nat)(hF:1<=F):Y07[0]?=some (Y02):=by
 unfold rise;rw[List.range_succ_eq_map,List.flatMap_cons,DH F hF];rfl
section
def aIE(F:Ya "best_places" "best_places" aEe)(T:Ye)(FQ73:Y0k "weights_at" a34 (GL c.Weighing))(FQ50:Y2B "ones_more" a35 fU):dO P w K mg base cW 3 f fd a24 (wX c.Weighing):=by
 refine F.oky NW YiW;obtain @⟨H,Q,E,x,fa,cf,fns,F,W,M,Ns,Nm,Np,Nc,B,d,mix,ps,cs,us,cu,pz,kz,wg,hfa,I,G,r4,k⟩:=h;refine Y3 ?_;intro cdv A outer s U _;have f1:=I.f1;have f4:=I.f4;have w1:=I.w1;have w4:=I.w4;have hB:=I.b;have O:=T.w_Weighing;have nsp:0<Ns^M:=Yix (by have:=I.pos;rw[z,Nat.mul_zero]at this;exact Y1y)
 refine⟨_,(aH (Y15 NW.nd nM)
  (aH (Y3e 4 NW.nd nM)
  (aH (gM PassesOwn.never rfl (VD rfl T.b_reversed (Y1W Y3b)) (Ybl 5 NW.nd) (aH (Y3e 6 NW.nd (Y7d ["factor","one"] ["factor","one"] [] (Ycq 1 (Y1v FQ73 0 5)) (Y2h dH 0 1)))
  (aH (iV (i:=7) (dD.o ["due","dues"] [6]) NW.nd rfl rfl (eJ (aD 6)) Ybg (λ_ _ _ _=>cC pJ (YeJ (aB7 K rfl) (by rfl) Kk 1) (Y0H)))
  (aH (jC U.u1 Y0h (aD 5) (Y3F aK (sU PySem.F.plainAttrs_list PySem.F.slot_list_index PySem.F.type_list_index aBE (aD 7) (Y1W (jK (RG K rfl) (by rfl) T.b_min Kk (Y2L 7))))))
  (aH (jC U.u1 Y1j (aD 5) (jK (RG K rfl) (by rfl) T.b_min Kk (Y2L 7)))
  (aS (iM (eC (XV U.u1) (Y2b) (Y3b) (by with_unfolding_all rfl)) (aH (cP (i:=8) NW.nd (Y3F (Y6u 2 (gY U.u1 (Y3b) (Y2b))) (jK (NT rfl) (by rfl) T.b_sum Kk (Y1W (Y6Z ["more","worth_of"] [4] (eJ (YeX 5)) (gY U.u1 Y0w Y0H))))))
  (aS (iM (eC xC (aD 8) (gY U.u1 (Y1j) (Y2b))) (aH (jC U.u1 Y0h (aD 5) (Yjf YaO))
  (aS (jC U.u1 Y1j (aD 5) (aD 8)))) fJ))) fJ)))))))
  (Y1k (dU (Y1Y 3 (gY U.u1 (Y1j) (Y5q Y3b aK)))))))),?_⟩
 refine Yo;intro ν η;intro γ ο;refine Ys;intro ν η;have s1:=Y5R [] ο;have e1:(upd H γ (.dT [])) γ=Y0a []:=bK;generalize upd H γ (.dT [])=H1 at s1 e1 ⊢;intro wp Y;refine Ys;intro ν η;have s2:=Y5R [] Y;have e2:(upd H1 wp (.dT [])) wp=Y0a []:=bK;generalize upd H1 wp (.dT [])=H2 at s2 e2 ⊢;have R:wp≠γ:=λz=>by rw[z,e1]at Y;cases Y
 have α:H wp=none:=s1.free Y;have ι:=s1.trans s2;obtain⟨ul,dx,fl,ra,ua,wa,ca,tas,ckv,a0,a1,a2,a3,a4,a5,⟨e,a6,υ⟩,a7,a8,a9,a10,a11⟩:=id wg;have lvs:e.length=(Y07).length:=by rw[υ.len,aA]
 refine Y1B (by simp) (ι _ _ a0) a1;refine Y0Z ra e (gJ.of (ι _ _ a6)) ?_;refine QR (xs:=e) (λi σ H'=>Ex6 λ(o5 o6 o7 o8:Am) (ζ kw:List (List fQ × V))=>An6 (σ=[Y7N,Y6 fa,Yd cf,Y6 γ,Y6 wp,o5,o6,o7,o8]) (Y1) (H' γ=Y0a ζ) (H' wp=Y0a kw) (DP ζ ((rise F M).drop (Yau i)) (λc v=>∃b:Nat,v=(.int (b:Int))/\OJ F W M d mix pz kz cs c b)) (DP kw ((rise F M).drop (Yau i)) (λc v=>∃n:Int,v=Y4G/\(n:Rat)=worz F W M d mix pz kz cs c)))
  ⟨_,_,_,_,[],[],rfl,ι,s2 _ _ e1,e2,⟨(λc p=>by rw[Nat.sub_zero,lvs,List.drop_length]at p;cases p),Y0l⟩,⟨(λc p=>by rw[Nat.sub_zero,lvs,List.drop_length]at p;cases p),Y0l⟩⟩ (Y9T) ?_ ?_
 ·obtain⟨_,_,_,_,_,_,_,S',_⟩:=q;exact gJ.of (S' _ _ a6)
 ·rintro i y σ H3 hi hy ⟨o5,o6,o7,o8,ζ,kw,rfl,S3,X,S,β,δ⟩;refine Yaj;intro ν η;obtain⟨cc,p,rc0⟩:=eW υ hy;have μ:=aE p;have C:=(gA f1).mp μ;have lkb:=β.len;have lkw:=δ.len;rw[List.length_drop]at lkb lkw;refine Y42;refine GL.i (wg.same S3) (rc0.same S3) μ Oo λD1 ns H4 N hD1 e4 ln hns=>Y1e fa D1 _ _ (N _ _ (S3 _ _ hfa)) e4 ?_;refine jU (λj z _=>∃n,z=Y4G/\(n:Rat)=qI d pz cc j) (Ybw) (by rw[aA,G.fl];exact Oo) (N _ _ (S3 _ _ hfa)) e4 (by rw[aA,aA,G.fl,ln]) (λj u v H' Q' hu Z s' k'=>?_) (λD2 zs H5 hD2 e5 s5 hz5 hr5=>?_)
  ·rw[aG]at hu Z;obtain⟨fj,hfj,rfl⟩:=eL.mp hu;obtain⟨nj,hnj,rfl⟩:=eL.mp Z;have lj:=(aB.mp hfj).1;have hjW:j<W:=by rw[<-G.fl];exact lj
   obtain⟨uj,θ⟩:∃u,us[j]?=Yl:=Y40 (by rw[G.ul];exact hjW);obtain⟨g1,g2⟩:=G.fac j fj uj hfj θ;have g3:=hns j nj uj hnj θ;have g4:=CQ (I.qn hjW C.2) nsp g3;refine Y6D _ _ _ _ (lD g2 (aI g4 (aEw (G.uz uj (aE θ)) Dd))) (k' _ H' Y09 Y7);rw[Rat.intCast_mul,g3];show(fj:Rat)*(hZ d j cc*(uj:Rat))=pz j*hZ d j cc;rw[<-g1];grind
  obtain⟨ds,rfl,hds⟩:=nH (P:=λj n=>(n:Rat)=qI d pz cc j) hr5;refine Ys;intro ν η;have ld:ds.length=W:=by rw[aA,aA,G.fl]at hz5;exact hz5
  have sd:=IU ld hds;refine Y9G D2 _ e5 (fH (λj z _=>∃n,z=Y4G/\(n:Rat)=cE W (qI d pz cc)-qI d pz cc j) (Ybw) (by rw[aA];exact Oo) e5 (λj v H' Q' Z s' k'=>?_) (λD3 zs H6 l e6 s6 hz6 hr6=>?_))
  ·rw[aG]at Z;obtain⟨dj,hdj,rfl⟩:=eL.mp Z;refine Y5 (rsI (gJ.of (s' _ _ e5)) ?_);refine Y5p _ _ _ rfl (k' _ H' Y09 Y7);rw[Rat.intCast_sub,sd,hds j dj hdj]
  obtain⟨zs,rfl,hzs⟩:=nH (P:=λj n=>(n:Rat)=cE W (qI d pz cc)-qI d pz cc j) hr6;refine Ys;intro ν η;have lz:YhT W:=by rw[aA,aA]at hz6;exact Oo
  have S6:Y2c H6:=((S3.trans N).trans s5).trans s6;have e6b:=s6 _ _ (s5 _ _ (N _ _ X));have e6w:=s6 _ _ (s5 _ _ (N _ _ S));obtain⟨ac,rfl,L⟩:=iL rc0;refine⟨_,rfl,UR e6,_,rfl,?_⟩;refine rmnl (gJ.of e6) Oo λm hm hle=>?_;obtain⟨j,ρ,hj2⟩:=YX hm;refine aIY e6 ρ hj2 Oo ⟨_,_,rfl,rfl,_,rfl,_,rfl,?_⟩;have em:=SW lz hzs hm hle;have ej:cE W (qI d pz cc)-qI d pz cc j=mQ (oC W (qI d pz cc)):=by rw[<-hzs j m ρ,em]
  have ljW:j<W:=by rw[<-lz];exact(aB.mp ρ).1
  refine Y4v e6b cc (by rw[fM];exact S6 _ _ L) Oo (λH7 e7b b7=>Y3a);intro ν η;have nbD:D3≠γ:=λz=>by rw[z]at l;rw[s5 _ _ (N _ _ X)]at l;cases l
  have nwD:D3≠wp:=λz=>by rw[z]at l;rw[s5 _ _ (N _ _ S)]at l;cases l
  have e7:=b7.at nbD e6;have e7w:=b7.at R e6w;have S7:Y2c H7:=aT.thru ο S6 b7;refine Y7;refine rmnl (gJ.of e7) Oo λm' hm' ψ=>?_;have emm:m'=m:=Int.le_antisymm (ψ m hm) (hle m' hm');subst emm;refine Y01;refine Y4v e7w cc (by rw[fM];exact S7 _ _ L) Oo (λH8 ξ b8=>?_);have e8b:=b8.at (Ne.symm R) e7b;have S8:Y2c H8:=aT.thru α S7 b8;have D:=S8 _ _ L;have a:(rise F M).drop (Yau (i+1))=cc::(rise F M).drop (Yau i):=by
   have hk:Y07[Yau 1-i]?=some cc:=p;obtain⟨l1,l2⟩:=aB.mp hk;have:Yau (i+1)=Yau 1-i:=Oo;rw[this,List.drop_eq_getElem_cons l1,l2,show e.length-1-i+1=e.length-i by exact Oo]
  refine Y0g (jY O (by simp) (S8 _ _ a0) a5 ?_);refine rind (YkK (S8 _ _ a10) D) Y7;by_cases hlt:cc.sum<M
  ·have hah:cc∈Y5A:=fY.mpr ⟨μ,cR hlt⟩;obtain⟨m2,hm2,em2⟩:=a11.yes cc hah;rw[hm2];refine CO rfl (Yo);intro ν η;refine Y0g (jY O (by simp) (S8 _ _ a0) a5 ?_);refine Y5 (Y5x (S8 _ _ a10) cc (by rw[fM];exact D) hm2);have m2z:=CQ (show Qn _ (B*4) (CH W d mix cs cc)by have:=(IB I hlt).q;rwa [cV]at this) I.pos em2;refine Y32 G.cz (aI m2z (aEw G.cuz (aL (show B*4<=4*WB by exact Oo) vM))) Y7;refine fU.i (wC D) Oo λD4 ms H9 hD4 e9 r9 s9=>Y1h D4 e9 ?_;have lms:ms.length=cc.length:=by rw[r9.len,aA,aA,aV]
   refine fH (λq z _=>∃n,z=Y4G/\(n:Rat)=worz F W M d mix pz kz cs (cH cc q)) (Ybw) Oo e9 (λq v H' Q' Z s' k'=>?_) (λD5 ws H10 hD5 e10 τ hz10 hr10=>?_)
   ·obtain⟨c2,φ,rc2⟩:=eW (g:=λc=>vB c) r9 Z;have hq:q<cc.length:=by have:=(aB.mp Z).1;exact Oo
    rw[aG,bP hq]at φ;cases φ;obtain⟨a2,rfl,ha2⟩:=iL (rc2.same s');have bs:=gX (c:=cc) (j:=q) hq;have hin:Y3d (cH cc q):=(gA f1).mpr (Y1N (by rw[rL];exact C.1));have hbe:=tS p hin Oo;rw[show e.length-1-i+1=e.length-i by exact Oo]at hbe;obtain⟨v2,hv2,n2,rfl,en2⟩:=δ.yes _ hbe;refine Y0g (NQ (s' _ _ (s9 _ _ ξ)) (c:=ci (cH cc q)) (by rw[fM];exact ha2) (v:=.int n2) ?_ ?_)
    ·rw[iD,Y1Z ?_]
     ·exact hv2
     ·have:=Y60 z;rw[this]at bs;exact Oo
    ·exact k' _ H' Y09 (Yx n2 en2)
   obtain⟨ws,rfl,hws⟩:=nH (P:=λq n=>(n:Rat)=worz F W M d mix pz kz cs (cH cc q)) hr10;have lws:Yht F:=by rw[aA]at hz10;exact Oo
   refine rsI (gJ.of e10) ?_;have sw:=IU lws hws;refine Y9b;have eon:((cf*m2+ws.sum:Int):Rat)=UT F W M d mix pz kz cs cc:=by
    rw[Rat.intCast_add,Rat.intCast_mul,sw,em2];have:=G.cfu;unfold UT;grind
   have S10:=(S8.trans s9).trans τ;have r:=τ _ _ (s9 _ _ ξ);have ε:=τ _ _ (s9 _ _ e8b);have J:=S10 _ _ L;refine Y2k (NQ r (c:=ci cc) (by rw[fM];exact J) (v:=.int m') (by rw[iD,Yr]) ?_);refine Y85 _ _ _;have key:(cf*m2+ws.sum<m')↔UT F W M d mix pz kz cs cc<mQ (oC W (qI d pz cc)):=by
    rw[<-eon,<-em];exact Yfb (λh=>by exact_mod_cast h) (by exact_mod_cast h)
   refine xH (λhl=>?_) (λhl=>?_)
   ·obtain⟨B1,B2⟩:=aCn w1 C.1 hlt (key.mp hl);refine Y01;have l1:=Y5f ζ cc (.int (1+(j:Int)));have l2:=Y5f kw cc (.int m');refine Y4v ε cc (by rw[fM];exact J) (aL l1 Oo) (λH11 aa b11=>?_);have S11:Y2c H11:=aT.thru ο S10 b11;refine Y42;refine Y4v (b11.at R r) cc (by rw[fM];exact S11 _ _ L) (aL l2 Oo) (λH12 ω χ=>⟨_,_,_,_,_,_,rfl,aT.thru α S11 χ,χ.at (Ne.symm R) aa,ω,?_,?_⟩)
    ·rw[a];exact β.put2 (Yx 0 B1)
    ·rw[a];exact δ.put2 (Y5 (by rw[B2];exact eon))
   ·obtain⟨B1,B2⟩:=FP (mix:=mix) (cs:=cs) (M:=M) (kz:=kz) w1 C.1 ljW ej λ_ h=>hl (key.mpr h);refine⟨_,_,_,_,_,_,rfl,S10,ε,r,?_,?_⟩
    ·rw[a];exact β.put ⟨1+j,by push_cast;rfl,B1⟩
    ·rw[a];exact δ.put (Y5 (by rw[B2];exact em))
  ·have hno:cc ∉ Y5A:=λz=>hlt (of_decide_eq_true (fY.mp z).2);rw[a11.no cc hno];refine tZ rfl ?_;obtain⟨B1,B2⟩:=FP (mix:=mix) (cs:=cs) (M:=M) (kz:=kz) w1 C.1 ljW ej (λh=>absurd h hlt);refine⟨_,_,_,_,_,_,rfl,S8,e8b,ξ,?_,?_⟩
   ·rw[a];exact β.put ⟨1+j,by push_cast;rfl,B1⟩
   ·rw[a];exact δ.put (Y5 (by rw[B2];exact em))
 ·rintro σ H3 ⟨o5,o6,o7,o8,ζ,kw,rfl,S3,X,S,β,δ⟩;rw[Nat.sub_self,List.drop_zero]at β δ;have κ:=ES M f1;generalize ec0:List.replicate F 0=c0 at κ;obtain⟨y0,hy0,ry0⟩:=kP υ κ;obtain⟨_,hv0,m0,rfl,em0⟩:=δ.yes c0 (aE κ);obtain⟨q0,rfl,hq0⟩:=iL ry0;refine Y2k (jY O (by simp) (S3 _ _ a0) a1 ?_);refine xU (S3 _ _ a6) (Y7a hy0) (Y5x S c0 (by rw[fM];exact S3 _ _ hq0) hv0);refine qH (by show 2<=64;decide) λq4 H4 hq4 e4 N=>?_;have lb:=β.len;have ch:∀cc:Ae,∃b:Nat,Y3d cc->gD ζ (Y3s cc)=Yd (b:Int)/\OJ F W M d mix pz kz cs cc b:=λcc=>by
   by_cases q:Y3d cc
   ·obtain⟨v,h1,b,rfl,h2⟩:=β.yes cc q;exact YhR b ⟨h1,h2⟩
   ·exact⟨0,λz=>absurd z q⟩
  exact k q4 γ m0 ζ (λcc=>Classical.choose (ch cc)) H4 (S3.trans N) e4 (N _ _ X) (Y1N (λcc p=>(Classical.choose_spec (ch cc) p).1)) (λcc p=>(Classical.choose_spec (ch cc) p).2) (by rw[ec0];exact em0)
end
section
variable{F W M:Nat}{best:Y0r}
def SK{ss:Aj}{mix cs:Ak}{pz:Yv}{kz:Rat}(hF:1<=F)(hb:∀c∈rise F M,OJ F W M ss mix pz kz cs c (Y0o)):∀e∈rul F W M best,aAr F W (Y7L) (Y4t) pz (λk=>kz*Y7W) (worz F W M ss mix pz kz cs) e:=by
 intro e j;obtain⟨c,i,rfl⟩:=aN.mp j;have d:=(jF hF).subset i;rcases hb c d with⟨a,m,g⟩ | ⟨v,h,a,g⟩
 ·refine .inl (Y0n (by rw[oE,Yhv]) (λv h=>?_))
  ·show Y0I Y5t=0;rw[sI Oo,Y2O]
  ·show Y5G F W M c=kz*Y8B*Y0q (cS mix v*Y5v)+_;rw[g];unfold UT CH;rw[<-Rat.mul_assoc];rfl
 ·refine .inr ⟨v,h,by rw[oE,Y2O],?_,λu n l=>?_,?_⟩
  ·show Y0I Y5t=1;rw[sI Oo,if_pos a.symm]
  ·show cS Y5t (1+u)=0;rw[sI Oo,Y2O]
  ·show Y5G F W M c=_;rw[g];rfl
end
theorem EK{α:Type}(k:Rat)(f:Y2A):∀l:List α,YcB (k*f a)=k*Y3p
 | []=>by show(0:Rat)=k*0;grind
 | a::l=>by
  show k*f a+dA l (λa=>k*f a)=k*(f a+dA l f);rw[EK k f l];grind
def FL(F W:Nat)(es:Yi)(q:Nat->Yz)(mix cs:Yv)(k:Rat):Y6S F W q (λi=>k*cs i)=k*Y6S F W q cs:=by
 unfold gC;rw[<-eM];refine Y7f ?_;have:gL F es (q w) (λi=>k*cs i)=k*gL F es (q w) cs:=by
  unfold gL;rw[<-EK];congr 1
  funext e
  grind
 rw[this];grind
def LH{F W M:Nat}{best:Y0r}{ss:Aj}{mix cs:Ak}{pz:Yv}{kz:Rat}(hF:1<=F)(f4:F<=4)(m5:M<=5)(on:∀c,Y0o=0->Y1z)(hb:∀c∈rise F M,OJ F W M ss mix pz kz cs c (Y0o))
  (h0:∀w,w<W->hZ ss w Y02=1) (h1:∀w,w<W->∀c:Ae,Y2E->Y6e w=Y3C (hZ ss w Y4O)) :
  Y7i F W M pz kz=kz*gC F W Y2l (hZ ss) Y4t (cS cs)+Y0d (pz w*(1-Y5y F Y2l w w)):=by
 have h:=XG (WW (W:=W) hF f4 m5 on) (worz F W M ss mix pz kz cs) h0 h1 (SK hF hb);rw[h];unfold yH;rw[FL]
def BE{F W M:Nat}{es:Yi}{ss:Aj}{mix cs:Ak}{pz:Yv}{kz:Rat}(R:Y1f)(hM:∀e∈es,e.1.sum<=M)(on:∀e∈es,Y3L->e.1.sum<M)
  (h0:∀w,w<W->hZ ss w Y02=1) (h1:∀w,w<W->∀c:Ae,Y2E->Y6e w=Y3C (hZ ss w Y4O)) (hs:∀e∈es,(∀v,0<=cS e.2 v)/\YcQ e.2=1-Y2) :
  Y7i F W M pz kz<=kz*gC F W es (hZ ss) Y4t (cS cs)+Y0d (pz w*(1-Y5y F es w w)):=by
 have h:=XF (mix:=Y4t) (ps:=pz) (cs:=λk=>kz*Y7W) R hM on h0 h1 hs;unfold yH at h;rw[FL]at h;have e:Y7i F W M pz kz=qM W F (Y7L) (Y4t) pz (λk=>kz*Y7W) M (Y02):=by
  unfold worz;rw[show M-(List.replicate F 0).sum=M by simp]
 rw[e];exact h
section
variable{F W M:Nat}{best:Y0r}
def QK{c d:Ae}(h:∀j,j<F->d≠Y33):Y4c=0:=by
 unfold iH;rw[Y5W (λj a=>Y1Z (h j a z.symm)),iY]
def yM{α:Type}{P:Y2d Yt}(h0:P [])(h1:∀l a,P l->P (l++[a]))(l:Yt):P l:=by
 have:∀l:List α,P l.reverse:=λl=>by
  induction l with
  | nil=>exact h0
  | cons a l ih=>rw[List.reverse_cons];exact h1 _ _ ih
 rw[<-List.reverse_reverse l];exact this _
def FG{keep:Y7s}{d:Ae}(hd:d≠Y02)(hn:∀c,keep c->Y0o=0->∀j,j<F->d≠Y33)(l:Ab):(∀c∈l,keep c)->aX F (Ybn W) d=0:=by
 refine yM (P:=λl=>(∀c∈l,keep c)->aX F (Ybn W) d=0) (λ_=>?_) (λl a h g=>?_) l
 ·rw[List.map_nil,lT,if_neg hd]
 ·rw[bE];show Y1P (Ybn W++[Y8V W a])=0;rw[gH,h λc i=>g c (cO _ i),oE];by_cases e:best a=0
  ·have:=QK (F:=F) (c:=a) (d:=d) (hn a (g a (by simp)) e);show 0+aX F (Ybn W) a*_*Y1S a=0;rw[this];grind
  ·rw[Y0F];grind
def TX{kb:Y24 Ae}(l:Ab):(∀c∈l,¬kb c=true->c≠Y02/\∀b,kb b=true->best b=0->∀j,j<F->c≠cH b j)->∀d,aX F (Ybn W) d=Y1P ((l.filter kb).map (Y4N)):=by
 refine yM (P:=λl=>(∀c∈l,¬kb c=true->c≠Y02/\∀b,kb b=true->best b=0->∀j,j<F->c≠cH b j)->∀d,aX F (Ybn W) d=Y1P ((l.filter kb).map (Y4N))) (λ_ d=>rfl) (λl a g m d=>?_) l;have g:=g λc i=>m c (cO _ i);rw[bE,List.filter_append,bE];show Y1P (Ybn W++[Y8V W a])=_;rw[gH];by_cases e:kb a=true
 ·have h:[a].filter kb=[a]:=by simp[e]
  rw[h];show _=Y1P ((l.filter kb).map (Y4N)++[Y8V W a]);rw[gH,g,g]
 ·have h:[a].filter kb=[]:=by simp[e]
  rw[h,List.map_nil,List.append_nil,g];obtain⟨p,r⟩:=m a (by simp) e;have n:aX F (Ybn W) a=0:=by
   rw[g];exact FG (keep:=λc=>kb c=true) p r _ λc i=>(fY.mp i).2
  show _+aX F (Ybn W) a*_*_=_;rw[n];grind
def CZ{l1 l2:Ab}(h:l1.Sublist l2):l2.Nodup->Yje (Y1T l1)=l1:=by
 induction h with
 | slnil=>intro _;rfl
 | @cons l1 l2 a h ih =>
  intro g;obtain⟨d,e⟩:=List.nodup_cons.mp g;rw[List.filter_cons,if_neg (by simpa using λz=>d (h.subset z)),ih e]
 | @cons_cons l1 l2 a h ih =>
  intro g;obtain⟨d,e⟩:=List.nodup_cons.mp g;rw[List.filter_cons,if_pos (by simp)];congr 1;have:Yje (Y1T (a::l1))=Yje (Y1T l1):=by
   refine List.filter_congr λx i=>?_;have:x≠a:=λz=>d (z ▸ i);simp[this]
  rw[this,ih e]
def HI{k:Nat}{d:Ae}(hk:k<=M)(h:Ydf d k):Y7n d:=by
 unfold rE;exact List.mem_flatMap.mpr ⟨k,cD.mpr Oo,h⟩
def TW(hF:1<=F)(f4:F<=4)(m5:M<=5)(d:Ae):Y1P ((rise F M).map (Y4N))=Y1P Y2l:=by
 have h:=TX (F:=F) (W:=W) (best:=best) (kb:=Yiw (Y7n c)) (Y07) (λc m g=>?_) d
 ·rw[h,CZ (jF hF) (sF F f4 M m5)];rfl
 ·have a:=(gA hF).mp m;refine⟨λz=>g (cR ?_),λb n i j r z=>g (cR ?_)⟩
  ·rw[z];exact HI (k:=0) (Y0l) (by unfold lvl;simp)
  ·obtain⟨k,l,e⟩:=List.mem_flatMap.mp (of_decide_eq_true n);have p:=cD.mp l;have hd:Ydf c (k+1):=(mD hF).mpr ⟨b,e,i,j,r,z⟩;have s:c.sum=k+1:=(iX ((mF hF _).subset hd)).2;exact HI (k:=k+1) (by have:=a.2;exact Oo) hd
end
section
variable{F W M:Nat}{best:Y0r}
def YW{l:Yi}{d:Ae}(m:Yi):(∀e∈m,Y1S e.1=0)->Y1P (l++m)=Y1P l:=by
 refine yM (P:=λm=>(∀e∈m,Y1S e.1=0)->Y1P (l++m)=Y1P l) (λ_=>by rw[List.append_nil]) (λm a c h=>?_) m;rw[<-List.append_assoc,gH,c λe g=>h e (cO _ g),h a (by simp)];grind
def aBS{A B:Ab}{c:Ae}(hB:∀b∈c::B,b.length=F/\c.sum<=b.sum):aX F ((A++c::B).map (Y4N)) c=aX F (A.map (Y4N)) c:=by
 rw[bE];refine YW _ λe d=>?_;obtain⟨b,a,rfl⟩:=aN.mp d;obtain⟨g,h⟩:=hB b a;show iH F b c=0;refine QK λj i z=>?_;have:=Yjj b j;rw[<-z]at this;exact Oo
def ZN(l:Ab)(ss:Aj)(mix cs:Ak):gC F W (Ybn W) (hZ ss) Y4t (cS cs)=Y61 l ((if Y0o=0 then 1 else 0)*(aX F (Ybn W) c*Y9j W c)):=by
 unfold gC gL;generalize aX F (l.map (oU W best))=a
 induction l with
 | nil =>
  show Y0d (Y7Y*0)=0;rw[Y5W (λw _=>by grind),iY]
 | cons c l ih =>
  rw[dC,<-ih,bH];have e:∀w,Y7Y*Y8c (Y8V W c::Ybn W) (cS cs e.1.sum*(a e.1*hZ ss w e.1*Y2))=(s0 (Y8V W c)*a c*Y8B)*(Y7Y*Y6e w)+Y7Y*Y8c (Ybn W) (cS cs e.1.sum*(a e.1*hZ ss w e.1*Y2)):=λw=>by
   rw[dC];show Y7Y*(Y8B*(a c*Y6e w*s0 (Y8V W c))+_)=_;grind
  rw[Y7f (e w),nR,eM,oE];unfold CH;grind
def WQ(l:Ab)(q:Yz){w:Nat}(hw:w<W):gZ F (Ybn W) q w=Y61 l ((if Y0o=1+w then 1 else 0)*(aX F (Ybn W) c*q c)):=by
 unfold gZ;generalize aX F (l.map (oU W best))=a
 induction l with
 | nil=>rfl
 | cons c l ih =>
  rw[bH,dC,dC,ih];show a c*q c*Y6Q Y5t+_=_;rw[sI Oo];by_cases e:Y0o=1+w
  ·rw[if_pos e.symm,Y1s];grind
  ·rw[Y1Z Y8F,Y0F];grind
end
section
variable{F W M:Nat}{best:Y0r}
theorem EM(kb:Y24 Ae)(f:Yz):∀l:Ab,(∀c∈l,¬kb c=true->f c=0)->Y3p=dA (l.filter kb) f
 | [],_=>rfl
 | c::l,h=>by
  have ih:=EM kb f l λd hd=>h d (bD _ hd);rw[dC,List.filter_cons];by_cases e:kb c=true
  ·rw[if_pos e,dC,ih]
  ·rw[if_neg e,h c (aY ..) e,ih];grind
def YV(hF:1<=F){c:Ae}(hc:Y3d c)(hn:c ∉ Y6h):aX F Y2l c=0:=by
 have a:=(gA hF).mp hc;refine FG (keep:=λb=>Y7n b) (λz=>hn ?_) (λb d g j h z=>hn ?_) (Y6h) λb d=>d
 ·rw[z];exact HI (k:=0) (Y0l) (by unfold lvl;simp)
 ·obtain⟨k,l,e⟩:=List.mem_flatMap.mp d;have hd:Ydf c (k+1):=(mD hF).mpr ⟨b,e,g,j,h,z⟩;have i:c.sum=k+1:=(iX ((mF hF _).subset hd)).2;exact HI (k:=k+1) (by have:=a.2;exact Oo) hd
def IT(hF:1<=F)(f4:F<=4)(m5:M<=5)(g:Yz)(x:Yz):Y61 Y07 (x c*(aX F ((rise F M).map (Y4N)) c*g c))=Y61 Y6h (x c*(aX F Y2l c*g c)):=by
 rw[cZ (g:=λc=>x c*(aX F Y2l c*g c)) λc _=>by rw[TW hF f4 m5]];rw[EM (Yiw (Y7n c)) _ (Y07) λc a d=>by
  rw[YV hF a λz=>d (cR z)];grind,CZ (jF hF) (sF F f4 M m5)]
def UC(hF:1<=F)(f4:F<=4)(m5:M<=5)(ss:Aj)(mix cs:Ak):gC F W Y2l (hZ ss) Y4t (cS cs)=Y61 Y07 ((if Y0o=0 then 1 else 0)*(aX F ((rise F M).map (Y4N)) c*Y9j W c)):=by
 rw[IT (W:=W) hF f4 m5 (CH W ss mix cs) λc=>if Y0o=0 then 1 else 0];exact ZN (Y6h) ss mix cs
def SJ(hF:1<=F)(f4:F<=4)(m5:M<=5)(q:Yz){w:Nat}(hw:w<W):gZ F (Y2l) q w=Y61 Y07 ((if Y0o=1+w then 1 else 0)*(aX F ((rise F M).map (Y4N)) c*q c)):=by
 rw[IT (W:=W) hF f4 m5 q λc=>if Y0o=1+w then 1 else 0];exact WQ (Y6h) q hw
end
def sO(kvs:Yu)(d:Ae):Int:=match Y5Z d with
 | some (.int n)=>n
 | _=>0
structure AmD(kvs:Yu)(fl:Yz)(B:Nat):Prop where
 ok:∀d:Ae,((∃n:Int,Y5Z d=Yd n)\/Y5Z d=none)/\(sO kvs d:Rat)=fl d/\(sO kvs d).natAbs<=2^B
 len:Y5Y (B+1)
def YT(kvs:Yu)(d e:Ae)(n:Int):sO (Y8A d Y4G) e=if e=d then n else sO kvs e:=by
 unfold sO;rw[iD];by_cases h:e=d
 ·subst h;rw[Yr,Yr]
 ·rw[Y3u (h (Y60 q)),Y4A]
def AmD.put{kvs:Yu}{fl:Yz}{B:Nat}(h:AmD kvs fl B)(d:Ae){a:Int}(ha:a.natAbs<=2^B):AmD (Y8A d (.int (sO kvs d+a))) (λe=>fl e+(a:Rat)*(if d=e then 1 else 0)) (B+1):=by
 refine⟨Ydu,by have:=h.len;have:=Y5f kvs d (.int (sO kvs d+a));exact Oo⟩;obtain⟨g,i,j⟩:=h.ok e;obtain⟨_,c,l⟩:=h.ok d;rw[YT,Nat.pow_succ];refine Y43 ?_
 ·rw[iD];by_cases q:e=d
  ·rw[if_pos (by rw[q])];exact .inl (Y5P _)
  ·rw[Y1Z (q (Y60 z))];exact g
 ·by_cases q:e=d
  ·subst q;rw[Yr,Yr,Rat.intCast_add,c];grind
  ·rw[Y2f,Y1Z (q z.symm),i];grind
 ·by_cases q:e=d
  ·rw[Y4y];exact Oo
  ·rw[Y2f];exact Oo
def AmD.more{kvs:Yu}{fl gl:Yz}{B C:Nat}(h:AmD kvs fl B)(e:∀d,fl d=gl d)(hB:B<=C):AmD kvs gl C :=
 ⟨λd=>⟨(h.ok d).1,by rw[(h.ok d).2.1,e],aL ((h.ok d).2.2) (Y4q hB)⟩,by have:=h.len;exact Oo⟩
def TM(j:Nat)(c d:Ae):Rat:=Ybr j (if Y4O=d then 1 else 0)
def TL(j:Nat)(c d:Ae):TM (j+1) c d=TM j c d+if Y33=d then 1 else 0:=by
 unfold TM cE;rw[List.range_succ,bE,tK];congr 1;show(if Y33=d then(1:Rat) else 0)+0=_;grind
def YO(F:Nat)(c d:Ae):TM F c d=Y4c:=rfl
def aA3{F M:Nat}(f4:F<=4)(m5:M<=5){i j:Nat}{c b:Ae}(hi:Y07[i]?=Y1b)(hj:Y07[j]?=YaM)(h:i<=j):c.sum<=b.sum:=by
 refine Yd6;have g:=tS hj (aE hi) Oo;obtain⟨t,a⟩:=gK.mp g;rw[List.getElem?_drop]at a;have l:=sF F f4 M m5;obtain⟨m,d⟩:=YeF;obtain⟨n,e⟩:=Y8M;have:=(List.getElem_inj l).mp (d.trans e.symm);exact Oo
def TV{F W M:Nat}{best:Y0r}(hF:1<=F)(f4:F<=4)(m5:M<=5){i:Nat}{c:Ae}(hi:Y07[i]?=Y1b):aX F (((rise F M).take i).map (Y4N)) c=aX F ((rise F M).map (Y4N)) c:=by
 obtain⟨j,d⟩:=YeF;have e:Y07=(rise F M).take i++c::(rise F M).drop (i+1):=by
  rw[<-d,<-List.drop_eq_getElem_cons j,List.take_append_drop]
 have h:=aBS (F:=F) (W:=W) (best:=best) (A:=(rise F M).take i) (B:=(rise F M).drop (i+1)) (c:=c) YkA
 ·rw[<-e]at h;exact h.symm
 ·rw[<-d,<-List.drop_eq_getElem_cons j]at g;obtain⟨t,a⟩:=gK.mp g;rw[List.getElem?_drop]at a;exact⟨((gA hF).mp (aE a)).1,aA3 f4 m5 hi a Oo⟩
abbrev aEc:Stmt:=(top 63)
def HW:Yg ["weighing","best_at","amount_of","cost","right","counts","amount","place","more"] a09 aEc:={}
def aB6{W v:Nat}{rg:Y0}{n:Int}(hv:v<W):((dF W rg).map V.int).set v (V.int n)=(dF W λz=>if z=v then n else rg z).map V.int:=by
 refine Y7t;by_cases hi:i<W
 ·rw[iC hi];by_cases e:i=v
  ·subst e;rw[List.getElem?_set_self (by rw[aA,cQ];exact hi),Yr]
  ·rw[Ydt Y8F,iC hi,Y0F]
 ·rw[cB (by rw[List.length_set,aA,cQ];exact Oo),cB (by rw[aA,cQ];exact Oo)]
structure aJH(F W M:Nat)(ss:Aj)(mix cs:Ak)(us:Ae)(cu:Nat)(best:Y0r):Prop where
 f1:1<=F
 f4:F<=4
 m5:M<=5
 w4:W<=4
 r4:(Y07).length<=400
 bw:∀c∈rise F M,Y0o<=W
 on:∀c,Y0o=0->Y1z
 zc:∀c∈ahd F M,∀n:Int,(n:Rat)=Y9j W c*(cu:Rat)->n.natAbs<Y0J
 zw:∀(v:Nat) (u:Nat),us[v]?=Yl->∀c∈rise F M,∀n:Int,(n:Rat)=Y5v*(u:Rat)->n.natAbs<Y0J
inductive wV (C:Addr):Yk
 | i {H:Hp} {Q:VK} {E:XK} {x bp:Addr} {kb:Yu} {F W M:Nat} {ss:Aj} {mix cs:Ak} {us:Ae} {cu:Nat} {best:Y0r} (h1:zW H x C F W M ss mix cs us cu) (h2:H bp=Y91) (h3:UQ kb Y07 best) (h4:aJH F W M ss mix cs us cu best) (k:∀a D (m:Int) (ns:Y0) H',Y1->H' a=Ym [Y4H,Y4F]->Y0x=Yq ((dF W ns).map V.int)->(m:Rat)=(cu:Rat)*gC F W Y2l (hZ ss) Y4t (cS cs)->(∀(v u:Nat),us[v]?=Yl->(ns v:Rat)=(u:Rat)*(1-Y5y F Y2l v v))->Y6w):wV C [Y1H,YcE] H Q E
section
def aIC(F:Ya "column_by" "column_by" aEc)(T:Ye)(FQ50:Y2B "ones_more" a35 fU):dO P w K mg base cW 3 f fd a09 (wV c.Weighing):=by
 refine Y0P HW;obtain @⟨H,Q,E,x,bp,kb,F,W,M,ss,mix,cs,φ,cu,m,wg,hbp,B,I,k⟩:=h;refine Y3 ?_;intro cdv A outer s μ _;have O:=T.w_Weighing;have f1:=I.f1;have f4:=I.f4;have m5:=I.m5;have w4:=I.w4;have r4:=I.r4;obtain⟨ul,dx,fl,ra,ua,wa,ca,ψ,ckv,τ,a1,a2,a3,a4,a5,⟨vs,a6,ο⟩,a7,a8,a9,a10,a11⟩:=id wg;have lvs:Y5V ((Y07).length):=by rw[ο.len,aA]
 have hc0:=ES M f1;obtain⟨y0,hy0,ry0⟩:=kP ο hc0;obtain⟨q0,rfl,hq0⟩:=iL ry0;refine⟨_,(aH (Y1E HW.nd (IQ μ.u1 (Y5q Y3b aK) aK))
  (aH (Y15 HW.nd aK)
  (aH (iV (i:=4) (dD.o ["unit"] []) HW.nd rfl rfl Y67 Ybg (λ_ _ _ _=>aK))
  (aH (gM PassesOwn.never rfl (Y67) (Ybl 5 HW.nd) (aH (YhM HW.nd (GE μ.u1 (Y0c) (Y2b) aK))
  (aH (cP (i:=7) HW.nd (gY μ.u1 Y0w Y2b))
  (aS (iM (eC oJ (aD 7) (Yjf YaO)) (aH (Y15 HW.nd (cC fO (aD 3) (Y6u 6 (gY μ.u1 (Y3b) (Y2b)))))
  (aS (Y8t (eJ (YeX 5)) (Ybl 8 HW.nd) (jC μ.u1 Y0c (aD 8) (Y3F (GE μ.u1 (Y0c) (aD 8) aK) (aD 6)))))) (aS (GA (Y3F (Y5N 4 (Y8H pJ 7)) (Y6u 6 (gY μ.u1 (Y5q Y3b (Y8H pJ 7)) (Y2b)))) (LV (Y1j) (Y8H pJ 7) BR))))))))
  (Y1k (dU (Y1Y 3 (Y7d ["unit","one"] ["unit","one"] [] (kZ false false rfl T.b_zip (Y2x Y3b Y1j)) (Y2h pJ 0 1))))))))),?_⟩
 refine Yo;intro ι n_;intro G ξ;have ω:=Y5R [] ξ;have e1:(upd H G (.dT [])) G=Y0a []:=bK;generalize upd H G (.dT [])=H1 at ω e1 ⊢;refine Y1B (by simp) (ω _ _ τ) a1;refine xU (ω _ _ a6) (Y7a hy0) (aGj (c:=ci (Y02)) (by rw[fM];exact ω _ _ hq0) e1 λH2 e2 b2=>?_);refine Ys;intro ι n_;have S2:Y2c H2:=aT.thru ξ ω b2;refine Y1B (by simp) (Y1V τ) a2;refine Y1h ua (Y1V a7) (Ydv (φ.map FN) (λ_ y _=>y=YaO) (by rw[aA];exact Oo) (Y1V a7) (λi y H' Q' hy s' k'=>k' _ H' Y09 rfl) (λrt ys H3 δ e3 s3 hl hr3=>?_));refine Ys;intro ι n_;rw[aA,ul]at hl;rw[mI (g:=Y3S) hl hr3]at e3;have S3:=S2.trans s3;refine Y1B (by simp) (S3 _ _ τ) a1;refine Y1h ra (S3 _ _ a6) ?_;have nra:rt≠G:=λz=>by rw[z,e2]at δ;cases δ
 have rtH:H rt=none:=S2.free δ
 let flA:Yz:=aX F ((rise F M).map (oU W m))
 refine mG (xs:=vs) (λi σ H'=>Ex7 λ(o5 o6 o7 ε:Am) (p:List (List fQ × V)) (ct:Int) (Y:Nat->Int)=>An7 (σ=[Y7N,Y6 bp,Y6 G,Yd ct,Y6 rt,o5,o6,o7,ε]) (Y1) (H' G=Y0a p) (H' rt=Yq ((dF W Y).map V.int)) (AmD p (aX F (((rise F M).take i).map (oU W m))) (4*i)) ((ct:Rat)=(cu:Rat)*Y61 ((rise F M).take i) ((if m c=0 then 1 else 0)*(flA c*Y9j W c))) (∀(v u:Nat),φ[v]?=Yl->(Y v:Rat)=(u:Rat)*Y61 ((rise F M).take i) ((if m c=1+v then 1 else 0)*(flA c*Y5v))))
  ⟨_,_,_,_,_,0,Y3S,rfl,S3,s3 _ _ e2,e3,?_,?_,?_⟩ (Y9T) ?_ ?_
 ·refine⟨Y5c,by show 1<=_;exact Oo⟩;have R:gD [(Y3s Y02,V.int 1)] (Y3s d)=if d=Y02 then Yd 1 else none:=by
   rw[show[(kT (ci (List.replicate F 0)),V.int 1)]=kG [] (kT (ci (List.replicate F 0))) (.int 1)from rfl,iD];by_cases e:d=Y02
   ·rw[if_pos (by rw[e]),Y1s]
   ·rw[Y1Z (e (Y60 z)),Y0F];rfl
  unfold sO;rw[R,List.take_zero,List.map_nil,lT];by_cases e:d=Y02
  ·rw[Y1s,Y1s];exact Yx (YeN 1) Dd
  ·rw[Y0F,Y0F];exact Yx Y7e Dd
 ·rw[List.take_zero,jN];grind
 ·intro v u _;rw[List.take_zero,jN];grind
 ·obtain⟨_,_,_,_,_,_,_,_,S',_⟩:=q;exact gJ.of (S' _ _ a6)
 ·rintro i y σ H4 hy ⟨o5,o6,o7,ε,p,ct,Y,rfl,S4,ν,N,β,ec,υ⟩;refine Yaj;intro ι n_;obtain⟨cc,hc,rc0⟩:=eW ο hy;obtain⟨ac,rfl,U⟩:=iL rc0;have J:=aE hc;have X:=(gA f1).mp J;obtain⟨hi,ei⟩:=aB.mp hc;have L:(rise F M).take (i+1)=(rise F M).take i++[cc]:=by rw[List.take_succ,hc];rfl
  have aa:(sO p cc:Rat)=flA cc:=by rw[(β.ok cc).2.1,TV f1 f4 m5 hc]
  have b5:i<400:=Oo;have gz:(sO p cc).natAbs<Y0J:=aI ((β.ok cc).2.2) (YhY Oo);refine⟨_,rfl,G,rfl,?_,_,rfl,_,YkK ν (Y1U U),?_⟩
  ·exact Yff p ν
  have eg:((gD p (kT (ci cc))).getD (YaO))=(.int (sO p cc)):=by
   unfold sO;rcases(β.ok cc).1 with⟨n,e⟩ | e <;> rw[e] <;> rfl
  refine Ys;intro ι n_;rw[eg];refine Y0g (Y5x (Y1U hbp) cc (by rw[fM];exact Y1U U) (B.1 cc J));refine Y5j;by_cases hb0:m cc=0
  ·rw[show decide (V.int ((m cc:Nat):Int)=V.int 0)=true by rw[xL,hb0];rfl];refine Ycf;intro ι n_;have hah:cc∈Y5A:=fY.mpr ⟨J,cR (I.on cc hb0)⟩;obtain⟨m2,hm2,em2⟩:=a11.yes cc hah;refine Y2k (jY O (by simp) (Y1U τ) a5 ?_);refine Y5 (Y5x (Y1U a10) cc (by rw[fM];exact Y1U U) hm2);refine Y32 gz (I.zc cc hah m2 em2) (Y0E _ _ rfl Y7);refine fU.i (wC (Y1U U)) (by have:=X.1;exact Oo) λD ms H5 hD κ r5 ρ=>?_;have lms:ms.length=F:=by rw[r5.len,aA,aA,aV];exact X.1
   have nDa:D≠G:=λz=>by rw[z,ν]at hD;cases hD
   refine Y1h D κ (mG (xs:=ms) (λj σ H'=>Ex2 λ(ε:Am) (C:List (List fQ × V))=>An4 (σ=[Y7N,Y6 bp,Y6 G,Yd (ct+sO p cc*m2),Y6 rt,Y6 ac,Yd (sO p cc),Yd ((m cc:Nat):Int),ε]) (aU G H5 H') (H' G=Y0a C) (AmD C (λd=>Y1P (((rise F M).take i).map (oU W m))+(sO p cc:Rat)*TM j cc d) (4*i+j))) (Y6Y _ p ((Y09).but) (ρ _ _ ν) (β.more (λd=>by unfold TM;rw[gI];grind) Oo)) (YiL) ?_ ?_)
   ·obtain⟨_,_,_,b',_⟩:=q;exact YgD nDa κ
   ·rintro j y2 σ H6 ab ⟨ε,C,rfl,b6,θ,A6⟩;refine Y5b;intro ι;obtain⟨c2,χ,rc2⟩:=eW (g:=λc=>vB c) r5 ab;have hj:j<cc.length:=by have:=(aB.mp ab).1;have:=X.1;exact Oo
    rw[aG,bP hj]at χ;cases χ;obtain⟨a2,rfl,η⟩:=iL rc2;have n2:a2≠G:=λz=>by rw[z,ρ _ _ ν]at η;cases η
    have α:=b6.at n2 η;refine⟨_,rfl,G,rfl,Yff C θ,_,rfl,_,dgI (cc:=cH cc j) θ α,?_⟩;have eg2:((gD C (kT (ci (cH cc j)))).getD (YaO))=(.int (sO C (cH cc j))):=by
     unfold sO;rcases(A6.ok (cH cc j)).1 with⟨n,e⟩ | e <;> rw[e] <;> rfl
    rw[eg2];refine Y5p _ _ _ rfl Y01;have l6:=A6.len;have hjF:j<F:=by have:=X.1;exact Oo
    refine Y4v θ (cH cc j) (by rw[fM];exact α) Oo (λH7 e7 b7=>Y6Y _ _ (b6.trans b7) e7 ?_);exact(A6.put (cH cc j) (a:=sO p cc) (aL (β.ok cc).2.2 (aJ Dd Oo))).more (λd=>by rw[TL];grind) Oo
   ·rintro σ H6 ⟨ε,C,rfl,b6,θ,A6⟩;rw[lms]at A6;refine⟨_,_,_,_,C,_,Y,rfl,aT.thru ξ (S4.trans ρ) b6,θ,b6.at nra (ρ _ _ N),A6.more (Y5c) Oo,?_,λv u R=>?_⟩
    ·rw[L,bE];show _=Y1P (((rise F M).take i).map (oU W m)++[oU W m cc]);rw[gH,oE,if_pos hb0,YO];show _=_+aX F (((rise F M).take i).map (oU W m)) cc*1*Y1S cc;rw[<-(β.ok cc).2.1];grind
    ·rw[L,oR,Rat.intCast_add,Rat.intCast_mul,ec,em2,aa]
     try dsimp only
     rw[if_pos hb0];grind
    ·rw[L,oR,υ v u R]
     try dsimp only
     rw[Y2O];grind
  ·rw[show decide (V.int ((m cc:Nat):Int)=V.int 0)=false by rw[xL,beq_eq_false_iff_ne];exact Oo];refine nW (Y2i);intro ι;obtain⟨v,R⟩:∃v,m cc=1+v:=Y1N (m cc-1);have S:v<W:=by have:=I.bw cc J;exact Oo
   have ev:((m cc:Nat):Int)-1=(v:Int):=Oo;have γ:φ[v]?=some φ[v]:=Y6v;have lta:=a9.1;have htv:ψ[v]?=some ψ[v]:=Y6v;obtain⟨kw,hkw,Dw⟩:=a9.2 v _ _ htv γ;obtain⟨m3,hm3,em3⟩:=Dw.yes cc J;refine Y7I _ _ _ _ ?_;show rIx _ (V.ref rt) (V.int (((m cc:Nat):Int)-1)) H4 _;rw[ev];refine xU N (eB (iC S)) (Y0g (jY O (by simp) (Y1U τ) a3 ?_));refine Y5p _ _ _ rfl ?_;show rIx _ (V.ref wa) (V.int (((m cc:Nat):Int)-1)) H4 _;rw[ev];refine xU (Y1U a8) (eB (by rw[aG,htv];rfl)) (Y5 (Y5x (Y1U hkw) cc (by rw[fM];exact Y1U U) hm3));refine Y32 gz (I.zw v _ γ cc J m3 em3) (Y0E _ _ rfl (Y7I _ _ _ _ ?_));show PL (V.ref rt) (V.int (((m cc:Nat):Int)-1)) _ H4 _;rw[ev];refine stG (j:=v) N (NI (by rw[aA,cQ];exact S)) λH5 κ b5'=>?_;have nar:G≠rt:=λz=>nra z.symm;refine⟨_,_,_,_,p,ct,λz=>if z=v then Y v+sO p cc*m3 else Y z,rfl,aT.thru rtH S4 b5',b5'.at nar ν,?_,β.more (Y5c) Oo,?_,λz u ζ=>?_⟩
   ·rw[κ];exact congrArg (λl=>some (HO.lst l)) (aB6 S)
   ·rw[L,bE];show _=Y1P (((rise F M).take i).map (oU W m)++[oU W m cc]);rw[gH,oE,if_neg hb0];grind
   ·rw[L,oR,ec]
    try dsimp only
    rw[if_neg hb0];grind
   ·rw[L,oR]
    try dsimp only
    by_cases ez:z=v
    ·subst ez;rw[Yr,if_pos R,Rat.intCast_add,Rat.intCast_mul,υ z u ζ,em3,aa];rw[γ]at ζ;cases ζ;grind
    ·rw[if_neg ez,Y2O,υ z u ζ];grind
 ·rintro σ H4 ⟨o5,o6,o7,ε,p,ct,Y,rfl,S4,ν,N,β,ec,υ⟩;rw[lvs,dX]at ec υ;refine Y0g (jY O (by simp) (Y1U τ) a2 ?_);refine Y5 (Y1e ua rt _ _ (Y1U a7) N (jU (b1:=false) (b2:=false) (xs:=φ.map FN) (ys:=(dF W Y).map V.int) (λj z _=>z=(.int ((φ.getD j 0:Nat)-Y j))) (Y9J) (by rw[aA];exact Oo) (Y1U a7) N (by rw[aA,aA,cQ];exact ul) (λj u v H' Q' hu R s' k'=>?_) (λD zs H5 hD κ ρ ζ hr5=>?_)))
  ·have hj:j<W:=by have:=(YhA).1;rw[aA]at this;exact Oo
   rw[iC hj]at R;cases R;rw[aG,lS 0 Oo]at hu;cases hu;exact Y7I _ _ _ _ (k' _ H' Y09 rfl)
  ·rw[aA,ul]at ζ;rw[mI ζ hr5]at κ;refine qH (by show 2<=64;decide) λq6 H6 hq6 θ s6=>k q6 D ct _ H6 ((S4.trans ρ).trans s6) θ (s6 _ _ κ) ?_ λv u R=>?_
   ·rw[UC f1 f4 m5];exact ec
   ·have S:v<W:=by have:=(aB.mp R).1;exact Oo
    rw[SJ f1 f4 m5 (hZ ss v) S,qA R,Rat.intCast_sub,υ v u R];have hu:(((u:Nat):Int):Rat)=((u:Nat):Rat):=by push_cast;rfl
    rw[hu];generalize dA (rise F M) (λc=>(if m c=1+v then(1:Rat) else 0)*(aX F ((rise F M).map (oU W m)) c*hZ ss v c))=Z;show(u:Rat)-(u:Rat)*Z=(u:Rat)*(1-Z);grind
end
structure sT(F W M:Nat)(es:Yi):Prop where
 rl:Y1f
 hM:∀e∈es,e.1.sum<=M
 on:∀e∈es,Y3L->e.1.sum<M
 hs:∀e∈es,(∀v,0<=cS e.2 v)/\YcQ e.2=1-Y2
structure QIn(F W:Nat)(q:Nat->Yz):Prop where
 h0:∀w,w<W->q w (Y02)=1
 h1:∀w,w<W->∀c:Ae,Y2E->q w c=Y3C (q w (Y4O))
 nn:∀w,w<W->∀c,0<=q w c
section
variable{F W M:Nat}{es:Yi}{q:Nat->Yz}
def sT.said(A:sT F W M es)(Q:QIn F W q){w:Nat}(hw:w<W):0<=Y5K/\Y5K<=1:=by
 have nn:∀e∈es,0<=Y8 e.1*q w e.1:=λe _=>bR (A.rl.nnf e.1) (Q.nn w hw e.1);refine Y0j (uJ λe a=>bR (nn e a) ((A.hs e a).1 _));rw[<-A.rl.stops (Q.h0 w hw) (Q.h1 w hw)];refine uK λe a=>Rat.mul_le_mul_of_nonneg_left ?_ (nn e a);obtain⟨c,d⟩:=A.hs e a;rw[<-d];have h:=wK (λv=>Y0I e.2) hw;have g:0<=Y3X W (if i=w then 0 else cS e.2 (1+i)):=uI λi _=>by
  split
  ·exact Rat.le_refl
  ·exact c _
 grind
def lV(M:Nat)(cs:Yv)(k:Nat):Rat:=Y3X (M-k) (cs (k+i))
def VT{cs:Yv}(h:∀k,0<=cs k)(k:Nat):0<=Y2Z k:=uI λi _=>h _
def MD{cs:Yv}{k:Nat}(h:k<M):Y2Z k=cs k+Y2Z (k+1):=by
 unfold lV;obtain⟨n,a⟩:∃n,M-k=n+1:=Y1N (M-k-1);rw[a,show M-(k+1)=n by exact Oo];clear a h
 induction n with
 | zero=>rw[dQ,gI,gI,Nat.add_zero];grind
 | succ n ih=>rw[dQ,ih,dQ n,show k+1+n=k+(n+1)by exact Oo];grind
def sT.spent(A:sT F W M es)(Q:QIn F W q){cs:Yv}(hc:∀k,0<=cs k){w:Nat}(hw:w<W):0<=gL F es (q w) cs/\gL F es (q w) cs<=Y2Z 0:=by
 have nn:∀e∈es,0<=Y8 e.1*q w e.1:=λe _=>bR (A.rl.nnf e.1) (Q.nn w hw e.1);refine Y0j (uJ λe a=>bR (hc _) (bR (nn e a) (A.rl.nn e a)));have h:=A.rl.all λc=>q w c*Y2Z c.sum;rw[show(List.replicate F 0).sum=0 by simp,Q.h0 w hw,Rat.one_mul]at h;have m:(Y0p (Y8 e.1*Y2*Y3C (q w (Y1L e.1)*Y2Z ((Y1L e.1).sum))))=Y0p (Y8 e.1*q w e.1*Y2*Y2Z (e.1.sum+1)):=cZ λe a=>by
  have l:=A.rl.len e a;have:(Y3C (q w (Y1L e.1)*Y2Z ((Y1L e.1).sum)))=Y2Z (e.1.sum+1)*q w e.1:=by
   rw[Q.h1 w hw e.1 l,<-eM];exact bT λf n=>by rw[Y7M,Rat.mul_comm]
  rw[this];grind
 rw[m]at h;have le:Y0p (cs e.1.sum*(Y8 e.1*q w e.1*Y2)+Y8 e.1*q w e.1*Y2*Y2Z (e.1.sum+1))<=Ybb (Y8 x.1*(q w x.1*Y2Z x.1.sum)):=uK λe a=>by
  have s:=A.rl.nn e a;have d:=VT (M:=M) hc e.1.sum;have g:=nn e a;have j:Y2<=1:=by
   have:=(A.hs e a).2;have p:0<=Y3X W (cS e.2 (1+i)):=uI λi _=>(A.hs e a).1 _;grind
  by_cases z:Y2=0
  ·rw[z];have:=bR g d;grind
  ·have t:=MD (cs:=cs) (A.on e a z);have r:=Rat.mul_le_mul_of_nonneg_left j (bR g d);have:cs e.1.sum*(Y8 e.1*q w e.1*Y2)+Y8 e.1*q w e.1*Y2*Y2Z (e.1.sum+1)=Y8 e.1*q w e.1*Y2Z e.1.sum*Y2:=by rw[t];grind
   rw[this];grind
 rw[kC]at le;unfold gL;grind
def sT.cost(A:sT F W M es)(Q:QIn F W q){mix cs:Yv}(hc:∀k,0<=cs k)(hm:∀w,0<=mix w)(h1:cE W mix=1):0<=Y6S F W q cs/\Y6S F W q cs<=Y2Z 0:=by
 unfold gC;refine Y0j (uI λw a=>bR (hm w) (A.spent Q hc a).1);have:Y2Z 0=Y0d (Y2Z 0*mix w):=by rw[eM,h1,Rat.mul_one]
 rw[this];refine mU λw a=>?_;rw[Rat.mul_comm];exact Rat.mul_le_mul_of_nonneg_right (A.spent Q hc a).2 (hm w)
def GR{best:Y0r}(hF:1<=F)(f4:F<=4)(m5:M<=5)(on:∀c,Y0o=0->Y1z)(bw:∀c∈rise F M,Y0o<=W):sT F W M (Y2l):=by
 have mem:∀e∈rul F W M best,∃c∈rE F M best,e=oU W best c:=λe a=>by
  obtain⟨c,d,rfl⟩:=Yaz;exact Y4W c d
 refine⟨WW hF f4 m5 on,Yc1,λe a h=>?_,Yc1⟩
 ·obtain⟨c,d,rfl⟩:=mem e a;exact(AK hF d).2
 ·obtain⟨c,d,rfl⟩:=mem e a;rw[oE]at h;exact on c (cJ λz=>h (Yhw))
 ·obtain⟨c,d,rfl⟩:=mem e a;have b:=bw c ((jF hF).subset d);rw[oE];refine Y0j (λv=>?_)
  ·show 0<=cS (Y5t) v;by_cases j:v<1+W
   ·rw[sI j];split <;> decide
   ·unfold cS;rw[aR,cB (by unfold zT;rw[aA,aV];exact Oo)];show 0<=rv (0,1);rw[oP];exact Rat.le_refl
  ·show YcQ Y5t=_;rw[bT (g:=λv=>if 1+v=Y0o then 1 else 0) λv j=>sI Oo];by_cases z:Y0o=0
   ·rw[if_pos z,Y5W (λv j=>Y2O),iY];grind
   ·rw[Yhw,BN (v:=Y0o-1) Oo λi l m=>Y2O,Y58];grind
end
abbrev aEd:Stmt:=(top 79)
def NV:Yg ["weighing","master","rates","factors","way","factor","best","column"] ["weighing","master"] aEd:={}
structure UN(F W M:Nat)(ss:Aj)(mix ps cs:Ak)(Ns Nm Np Nc B:Nat)(us:Ae)(cu X:Nat):Prop where
 wo:lH F W M ss mix ps cs Ns Nm Np Nc B
 r4:(Y07).length<=400
 ul:Y9r
 uz:∀u∈us,0<u/\u<Y0i
 cuz:cu<Y0i
 q:QIn F W (Y7L)
 cz:∀es,sT F W M es->∀n:Int,(n:Rat)=(cu:Rat)*gC F W es (hZ ss) Y4t (cS cs)->n.natAbs<2^X
 zc:∀c∈ahd F M,∀n:Int,(n:Rat)=Y9j W c*(cu:Rat)->n.natAbs<Y0J
 zw:∀(v:Nat) (u:Nat),us[v]?=Yl->∀c∈rise F M,∀n:Int,(n:Rat)=Y5v*(u:Rat)->n.natAbs<Y0J
structure OF(F W M:Nat)(ss:Aj)(mix cs:Ak)(us:Ae)(cu:Nat)(best:Y0r)(a:Y0)(k:Int):Prop where
 bw:∀c∈rise F M,Y0o<=W
 on:∀c,Y0o=0->Y1z
 cost:(k:Rat)=(cu:Rat)*gC F W Y2l (hZ ss) Y4t (cS cs)
 col:∀v u:Nat,us[v]?=Yl->(a v:Rat)=(u:Rat)*(1-Y5y F Y2l v v)
 one:a W=1
def RS(H:Hp)(F W M:Nat)(ss:Aj)(mix cs:Ak)(us:Ae)(cu:Nat)(a:Y0)(t:oH):Prop :=
 (Yhr "room" /\ t.cost=0/\∃w,w<W/\a=Md.unit w)\/(Yhr "lack" /\ t.cost=0/\a=Md.unit W) \/
 (Yhr "rule" /\ ∃bp kb best,t.v=YcE/\H bp=Y91/\UQ kb Y07 best/\OF F W M ss mix cs us cu best a t.cost)
abbrev jP(W:Nat)(R:Md.fD)(ts:Y0t):Y0:=Md.rat (W+1) R (xT ts)
def pzY(W:Nat)(R:Md.fD)(ts:Y0t)(us:Ae)(w:Nat):Rat:=-(jP W R ts w:Rat)*((us.getD w 0:Nat):Rat)
def TD(ts:Y0t)(p:Int)(cu:Nat):Rat:=((if gG ts=true then 0 else p:Int):Rat)*(cu:Rat)
inductive rB (G A:Addr):Yk
 | i {H:Hp} {Q:VK} {E:XK} {x m sa:Addr} {F W M:Nat} {ss:Aj} {mix ps cs:Ak} {Ns Nm Np Nc B:Nat} {us:Ae} {cu X:Nat} {b:Y0} {R:Md.fD} {p:Int} {uv:Al} {ts:Y0t} {C:Nat} (h1:zW H x G F W M ss mix cs us cu) (h2:uD H A m sa (W+1) b R p uv) (h3:lI H uv ts) (h4:UN F W M ss mix ps cs Ns Nm Np Nc B us cu X) (h5:aAj (W+1) b R p C) (h6:∀t∈ts,Yh7 Y0J) (h7:∀k,k<W+1->(jP W R ts k).natAbs<Y0J) (q0:∀H',Y1->(∀w,w<W->jP W R ts w<=0)->((jP W R ts W:Int):Rat)<=Y7i F W M (pzY W R ts us) (TD ts p cu)->Ycu) (q1:∀e ca ta a t H',Y1->H' e=Ym [.ref ca,Yf0]->H' ca=Yq ((dF (W+1) a).map V.int)->xP H' (Yf0) t->RS H' F W M ss mix cs us cu a t->Yek "lack" -> p*(if Y1w=true then 0 else t.cost)<Md.dot (W+1) (jP W R ts) a->Y4Y e):rB G A [Y1H,YcY] H Q E
def ZO(n:Nat)(y:Y0):EA ((dF (n+1) y).map V.int) (-1)=Yd (y n):=by
 have a:TJ ((dF (n+1) y).map V.int).length (-1)=Y6l:=by
  rw[aA,cQ];unfold TJ;rw[Y2O,Y58];congr 1;exact Oo
 unfold EA;rw[a];exact iC Oo
def aCp{W cu:Nat}{y ns:Y0}{us:Ae}{mz cf k:Int}{cq:Rat}{sd:Yv}(ul:Y9r)(hm:(mz:Rat)=(cf:Rat)*(cu:Rat)*cq+Y0d ((-(y w:Rat)*((us.getD w 0:Nat):Rat))*(1-sd w)))(hk:(k:Rat)=(cu:Rat)*cq)(hn:∀v u:Nat,us[v]?=Yl->(ns v:Rat)=(u:Rat)*(1-sd v))(hlt:mz<y W):cf*k<Md.dot (W+1) y λr=>if r<W then ns r else 1:=by
 have d:(Y0d ((-(y w:Rat)*((us.getD w 0:Nat):Rat))*(1-sd w)))=-1*Y0d ((y w*ns w:Int):Rat):=by
  rw[<-eM];refine bT λw c=>?_;have a:us[w]?=some (us[w]'Oo):=Y6v;rw[iQ a,Rat.intCast_mul,hn w _ a];grind
 rw[d,<-Md.rK]at hm;have e:mz=cf*k-Md.dY W (λw=>y w*ns w):=by
  have:(mz:Rat)=((cf*k-Md.dY W (λw=>y w*ns w):Int):Rat):=by
   rw[hm,Rat.intCast_sub,Rat.intCast_mul,hk];grind
  exact_mod_cast this
 have h:Md.dot (W+1) y (λr=>if r<W then ns r else 1)=Md.dY W (λw=>y w*ns w)+y W:=by
  unfold Md.dot;rw[Md.dY,Md.eG (g:=λw=>y w*ns w) λw c=>by show _*(if w<W then ns w else 1)=_;rw[if_pos c]];show _+y W*(if W<W then ns W else 1)=_;rw[if_neg (bS _),Int.mul_one]
 exact Oo
def aFF{K:Aa}{ns:Ah}{C m sa:Addr}{H:Hp}{n:Nat}{b:Y0}{R:Md.fD}{p:Int}{uv:Al}{ts:Y0t}{σ:St}{k:VK}(O:Own K C ns)(hn:Y7C ("parts" : Str))(ma:uD H C m sa n b R p uv)(th:lI H uv ts)(n8:n<=8)(hσ:σ[1]?=Y3w m)(hk:∀H',Y1->k (.int (if Y1w=true then 0 else p)) H'):tIf (tB (zH (lY C) [] E0 (pT (VU 1) IS))) (tC (YaO)) (VW K (VU 1) "parts") σ H k:=by
 refine Y0n _ hσ;refine lY.i ma th n8 λH4 a=>Y7;have h:=hk H4 a;cases eb:Y1w with
 | true =>
  rw[eb]at h;exact pO h
 | false =>
  rw[eb]at h;refine nW ?_;obtain⟨e,d,c,LL⟩:=(ma.same a).ex;exact Y0C hσ (jY O hn c (CG d sa p) h)
section
def aID(F:Ya "better" "better" aEd)(T:Ye)(FQ59:Y2t "rates_of" a23 Ykh)(FQ32:Y0k "factors_of" ["rates"] mY)(FQ48:Y0k "one_among" a39 qV)(FQ20:Y2t "best_places" a24 (wX c.Weighing))(FQ38:Y0k "lacks" a23 YgM)(FQ22:Y2t "column_by" a09 (wV c.Weighing)):dO P w K mg base cW 4 f fd ["weighing","master"] (rB c.Weighing c.Master):=by
 refine Y0P NV;obtain @⟨H,Q,E,x,m,υ,F,W,M,ss,mix,ps,cs,Ns,Nm,Np,Nc,B,us,δ,X,b,R,p,uv,d,C,wg,ma,th,I,Z,zt,zr,q0,q1⟩:=h;refine Y3 ?_;intro cdv A ξ s hr _;have O:=T.w_Master;have w4:=I.wo.w4;refine⟨_,(aH (Y1E NV.nd (Y5B FQ59))
  (aH (Y15 NV.nd (fV FQ32 (aD 2)))
  (aH (Y8t (Yk2 false rfl (Y2L 3)) (Y7m 4 NV.nd 5 NV.nd lK) (Y4L (Y7F xC 5) (dU (Y2x (Y2R FQ48 (Yag oG (by rfl) Kk 2) 4) (dU (bA (YdR "room" T.g_ROOM) (Y2x aK jW)))))))
  (aH (YhM NV.nd (lU FQ20 Y0H Y0h (nK (qE (Y5B FQ38)) aK (dP K (aD 1)))))
  (aH (Y4L (eC aCN (Y0K 6) (Y5N 2 (BH vR aK))) jW)
  (aH (Y1D 7 NV.nd FQ22 0 (Y0K 6))
  (Y1k (dU (Y2x (cC vU (Y0K 7) (iJ (Y1W aK))) (dU (Yaq (YgN "rule") (Y0K 7) (Y0K 6)))))))))))),?_⟩
 refine Yo;intro N ε;refine Y7;refine mV.i ma th Z zt λD1 H1 hD1 ο s1=>Ys;intro N ε;refine Y7;refine mY.i ο Oo λD2 H2 hD2 μ ω=>Ys;intro N ε;have S2:=s1.trans ω;refine Y5p _ D2 _ μ (KD (b:=false) (n:=0) (xs:=(dF W λi=>-jP W R d i).map V.int) (YdL (λ(o4 χ:Am)=>An3 (σ=[Y7N,Y6 m,Y6 D1,Y6 D2,o4,χ,none,none]) (aT H2 H') (∀w,w<i->jP W R d w<=0))) (Y3P _ Y09 (λw hw=>Oo)) (λi σ H' p=>?_) ?_ ?_)
 ·obtain⟨_,_,_,s',_⟩:=p;exact s' _ _ μ
 ·rintro i y pq σ H3 H4 φ ⟨o4,χ,rfl,G,all⟩ hpq e4 D;have ι:i<W:=by have:=(aB.mp φ).1;rw[aA,cQ]at this;exact this
  rw[iC ι]at φ;cases φ;have S4:=(S2.trans G).trans D;rw[Int.zero_add]at e4;refine⟨pq,[.int (i:Int),.int (-jP W R d i)],rfl,jV.of e4,rfl,_,_,rfl,_,_,rfl,rfl,Y2i⟩;intro N;refine⟨_,rfl,_,_,rfl,rfl,_,rfl,?_⟩;by_cases Y:-jP W R d i<0
  ·rw[show decide (-jP W R d i<0)=true from cR Y];refine pO (Y5 (Yb3 ((G.trans D) _ _ (ω _ _ ο))));rw[aA,cQ];refine Y7;refine qV.i Oo λD5 H5 hD5 J γ=>qH (by show 3<=64;decide) λD6 H6 hD6 ζ S=>qH (by show 2<=64;decide) λD7 H7 τ ρ l=>?_;have J:H5 D5=Yq ((dF (W+1) (Md.unit i)).map V.int):=J;refine q1 D7 D5 D6 (Md.unit i) (YcJ "room" 0) H7 (((S4.trans γ).trans S).trans l) ρ ((S.trans l) _ _ J) (Yx D6 (l _ _ ζ)) (.inl (Y98 rfl i ι rfl)) Dd ?_;rw[Md.xJ Oo];show p*(if gG d=true then 0 else 0)<_;rw[ite_self,Int.mul_zero];exact Oo
  ·rw[show decide (-jP W R d i<0)=false from bZ Y];refine nW (Y0Z (Yd (i:Int)) (Yd (-jP W R d i)) (G.trans D) Yk9);by_cases e:w=i
   ·subst e;exact Oo
   ·exact all w Oo
 ·rintro σ H3 ⟨o4,χ,rfl,G,all⟩;refine Y3a;intro N ε;rw[aA,cQ]at all;have S3:=S2.trans G;refine Y01;refine aFF O (by simp) (ma.same S3) (th.same S3) Oo rfl λH4 D=>?_;have S4:=S3.trans D;generalize hcf:(if gG d=true then 0 else p:Int)=cf;have β:TD d p δ=(cf:Rat)*(δ:Rat):=by unfold TD;rw[hcf]
  have czf:cf.natAbs<Y0J:=by
   rw[<-hcf];split
   ·exact Y9N
   ·exact Y4r Z.pz Z.c4
  have FZ:FcZ W us δ (dF W λi=>-jP W R d i) cf (pzY W R d us) (TD d p δ):=by
   refine⟨cQ _ _,I.ul,λi f u κ ψ=>?_,β.symm,czf,λu ψ=>(I.uz u ψ).2,I.cuz⟩;have ι:i<W:=by have:=(aB.mp κ).1;rw[cQ]at this;exact this
   rw[KW ι]at κ;cases κ;refine⟨?_,by rw[Int.natAbs_neg];exact zr i Oo⟩;unfold pzY;rw[iQ ψ,Rat.intCast_neg]
  refine wX.i (wg.same S4) ((G.trans D) _ _ μ) I.wo FZ I.r4 λbt bp mz kb bs H5 γ J ep B5 hb hm=>Ys;intro N ε;have S5:=S4.trans γ;refine Y0u J;refine Y0g (xU ((G.trans (D.trans γ)) _ _ (ω _ _ ο)) (ZO W _) ?_);refine Y85 _ _ _;by_cases hge:jP W R d W<=mz
  ·rw[show decide (jP W R d W<=mz)=true from cR hge];refine pO (Y2i);intro N;exact q0 H5 S5 all (by rw[<-hm];exact_mod_cast hge)
  ·rw[show decide (jP W R d W<=mz)=false from bZ hge];refine nW (Y8R J);have α:∀c∈rise F M,bs c<=W/\(bs c=0->Y1z):=λc g=>by
    rcases hb c g with⟨h1,h2,_⟩ | ⟨v,h1,h2,_⟩
    ·exact YhR Oo h2
    ·exact⟨Oo,λz=>Oo⟩
   obtain⟨a,j⟩:∃a:Ae->Nat,a=λc=>if Y3d c then bs c else 1:=Y5P _
   have θ:∀c∈rise F M,a c=bs c:=λc g=>by rw[j];exact if_pos g
   have bw:∀c∈rise F M,a c<=W:=λc g=>by rw[θ c g];exact(α c g).1
   have on:∀c,a c=0->Y1z:=λc h=>by
    by_cases g:Y3d c
    ·rw[θ c g]at h;exact(α c g).2 h
    ·rw[j]at h;simp only[if_neg g]at h;exact Oo
   have B6:UQ kb Y07 a:=⟨λc g=>by rw[θ c g];exact B5.1 c g,B5.2⟩;have Y:=LH I.wo.f1 I.wo.f4 I.wo.m5 on (λc g=>by rw[θ c g];exact hb c g) I.q.h0 I.q.h1;rw[<-hm]at Y;refine wV.i (wg.same S5) ep B6 ⟨I.wo.f1,I.wo.f4,I.wo.m5,w4,I.r4,bw,on,I.zc,I.zw⟩ λct D6 k ns H6 S ζ e6D hk U=>Y7;refine lE ζ rfl (DT (by show 1<=64;decide) λD7 H7 τ ρ l=>?_);refine NU (l _ _ e6D) ρ (by rw[aA,cQ];show W+1<=1000;exact Oo) λD8 H8 hD8 e8 η=>Y7;refine lE ((l.trans η) _ _ ζ) rfl (Y0u ((S.trans (l.trans η)) _ _ J));refine qH (by show 3<=64;decide) λD9 H9 hD9 e9 s9=>qH (by show 2<=64;decide) λDa Ha hDa ea υ=>?_;have L:=s9.trans υ;have ec:(dF W ns).map V.int++YaJ 1=(dF (W+1) λr=>if r<W then ns r else 1).map V.int:=by
    unfold dF;rw[List.range_succ,bE,bE,bH,List.map_nil,if_neg (bS _)];congr 2;exact fN λr hr=>(if_pos (cD.mp hr)).symm
   rw[ec]at e8;have pay:=aCp (cf:=cf) (y:=jP W R d) I.ul (by rw[Y,β];rfl) hk U Oo;refine q1 Da D8 D9 _ ⟨Str.ofString "rule",k,YcE⟩ Ha ((S5.trans S).trans ((l.trans η).trans L)) ea (L _ _ e8) (Yx D9 (υ _ _ e9)) (.inr (.inr ⟨rfl,bp,kb,a,rfl,((S.trans (l.trans η)).trans L) _ _ ep,B6,bw,on,hk,λv u hv=>?_,?_⟩)) (by show (Str.ofString "rule")≠(Str.ofString "lack");decide) ?_
   ·have ν:v<W:=by have:=(aB.mp hv).1;rw[I.ul]at this;exact this
    rw[if_pos ν];exact U v u hv
   ·rw[if_neg (bS _)]
   ·show p*(if gG d=true then 0 else k)<_;have:p*(if gG d=true then 0 else k)=cf*k:=by
     rw[<-hcf];split
     ·rw[Int.mul_zero,Int.zero_mul]
     ·rfl
    rw[this];exact pay
end
def uZ{ts:Y0t}:Y1w=true ↔ ∃t∈ts,t.word=Str.ofString "lack" := by
 unfold gG;rw[List.any_map];simp[List.any_eq_true]
def aA1{ts:Y0t}{t:oH}{o i:Nat}(ho:o<ts.length)(nl:Yek "lack")(e:gG (YbD t)=Y1w):xT (YbD t) i=Md.sc (xT ts) o (if Y1w=true then 0 else t.cost) i:=by
 unfold xT Md.sc;rw[e];by_cases h:i=o
 ·subst h;rw[Yr,List.getElem?_set_self ho];cases Y1w
  ·rfl
  ·show(if Yad "lack"=true then(1:Int) else 0)=0;rw[if_neg (by rw[bZ nl];decide)]
 ·rw[Y4A,Ydt (h z.symm)]
def TC{ts:Y0t}{t:oH}{o:Nat}(nl:Yek "lack")(h:gG (YbD t)=true):Y1w=true:=by
 obtain⟨x,a,e⟩:=uZ.mp h;rcases List.mem_or_eq_of_mem_set a with g | g
 ·exact uZ.mpr ⟨x,g,e⟩
 ·rw[g]at e;exact absurd e nl
structure zX(F W M:Nat)(ss:Aj)(mix ps cs:Ak)(Ns Nm Np Nc B:Nat)(us:Ae)(cu X:Nat)(U e:Nat)(b:Y0):Prop where
 sl:UN F W M ss mix ps cs Ns Nm Np Nc B us cu X
 uU:∀u∈us,u<=U
 u1:1<=U
 bU:∀r,r<W+1->0<=b r/\(b r).natAbs<=U
 bW:b W=1
 Ue:U<=2^e
 sz:6*e+X+20<=4000
structure iT(H:Hp)(F W M:Nat)(ss:Aj)(mix cs:Ak)(us:Ae)(cu:Nat)(b:Y0)(B R:Md.fD)(p:Int)(ts:Y0t):Prop where
 mst:Md.Mst (W+1) b B R p
 len:YhU (W+1)
 fit:∀i t,ts[i]?=Y7o->RS H F W M ss mix cs us cu (B i) t
section
variable{F W M:Nat}{ss:Aj}{mix ps cs:Ak}{Ns Nm Np Nc BB:Nat}{us:Ae}{cu X U e:Nat}{b:Y0}{H H':Hp}{B R:Md.fD}{p:Int}{ts:Y0t}
def RS.to(h:∀bp kb,H bp=Y91->H' bp=Y91){a:Y0}{t:oH}(x:RS H F W M ss mix cs us cu a t):RS H' F W M ss mix cs us cu a t:=by
 rcases x with x | x | ⟨e,bp,kb,c,i,d,g⟩
 ·exact .inl x
 ·exact Ya8 x
 ·exact .inr (.inr ⟨e,bp,kb,c,i,h _ _ d,g⟩)
def GG{w r:Nat}:0<=Md.unit w r/\(Md.unit w r).natAbs<=1:=by unfold Md.unit;split <;> decide
def OF.any(I:UN F W M ss mix ps cs Ns Nm Np Nc BB us cu X){best:Y0r}{a:Y0}{k:Int}(h:OF F W M ss mix cs us cu best a k):sT F W M (Y2l):=GR I.wo.f1 I.wo.f4 I.wo.m5 h.on h.bw
theorem RS.col(Z:zX F W M ss mix ps cs Ns Nm Np Nc BB us cu X U e b){a:Y0}{t:oH}(h:RS H F W M ss mix cs us cu a t){r:Nat}(hr:r<W+1):0<=a r/\(a r).natAbs<=U:=by
 have u1:=Z.u1;rcases h with⟨_,_,w,A,rfl⟩ | ⟨_,_,rfl⟩ | ⟨_,p,z,d,_,_,_,R⟩
 ·have:=GG (w:=w) (r:=r);exact Oo
 ·have:=GG (w:=W) (r:=r);exact Oo
 ·by_cases e:r=W
  ·subst e;rw[R.one];exact Yat u1
  ·have hr:r<W:=Oo;have i:us[r]?=some (us[r]'(by rw[Z.sl.ul];exact hr)):=aC _;have c:=R.col r _ i;have m:=Z.uU _ (aE i);obtain⟨s0,y⟩:=(R.any Z.sl).said Z.sl.q hr;generalize us[r]'(by rw[Z.sl.ul];exact hr)=u at c m;have g:(0:Rat)<=(u:Rat):=by exact_mod_cast cM u
   have j:(0:Rat)<=(a r:Rat):=by rw[c];exact bR g (by grind)
   have l:(a r:Rat)<=(u:Rat):=by
    rw[c];have:=Rat.mul_le_mul_of_nonneg_left (a:=1-Y5y F (rul F W M d) r r) (b:=1) (by grind) g;grind
   have n:0<=a r:=by exact_mod_cast j
   have s:a r<=(u:Int):=by
    have:(a r:Rat)<=((u:Int):Rat):=by rw[Rat.intCast_natCast];exact l
    exact_mod_cast this
   exact Oo
theorem RS.one{a:Y0}{t:oH}(h:RS H F W M ss mix cs us cu a t):∃r,r<W+1/\0<a r:=by
 rcases h with⟨_,_,w,e,rfl⟩ | ⟨_,_,rfl⟩ | ⟨_,d,g,c,_,_,_,R⟩
 ·exact⟨w,Oo,by unfold Md.unit;rw[Yr];decide⟩
 ·exact⟨W,Oo,by unfold Md.unit;rw[Yr];decide⟩
 ·exact⟨W,Oo,by rw[R.one];decide⟩
theorem RS.cost(I:UN F W M ss mix ps cs Ns Nm Np Nc BB us cu X){a:Y0}{t:oH}(h:RS H F W M ss mix cs us cu a t):Yh7 (2^X):=by
 rcases h with⟨_,h,_⟩ | ⟨_,h,_⟩ | ⟨_,d,e,c,_,_,_,R⟩
 ·rw[h];exact Y9N
 ·rw[h];exact Y9N
 ·exact I.cz _ (R.any I) _ R.cost
abbrev PB(W U:Nat):Nat:=Md.fac (W+1)*U^(W+1)
abbrev RB(W U:Nat):Nat:=(W+1)*(PB W U*U)
abbrev ZB(W U X:Nat):Nat:=(W+1)*(2^X*RB W U)
def aI0{n:Nat}(h:n<=5):Md.fac n<=2^7:=by
 have:n=0\/n=1\/n=2\/n=3\/n=4\/n=5:=Oo;rcases this with rfl | rfl | rfl | rfl | rfl | rfl <;> decide
def zX.zb(Z:zX F W M ss mix ps cs Ns Nm Np Nc BB us cu X U e b):ZB W U X<Y0J:=by
 have w4:=Z.sl.wo.w4;have c:U^(W+1)<=2^(5*e):=by
  refine aL (Nat.pow_le_pow_left Z.Ue _) ?_;rw[<-Nat.pow_mul];exact Y4q (by rw[Nat.mul_comm];exact Y2a Oo)
 have d:PB W U*U<=2^7*2^(5*e)*2^e:=Nat.mul_le_mul (Nat.mul_le_mul (aI0 Oo) c) Z.Ue;have a:ZB W U X<=2^3*(2^X*(2^3*(2^7*2^(5*e)*2^e))):=Nat.mul_le_mul Oo (dI _ (Nat.mul_le_mul Oo d));refine aI a ?_;rw[<-Nat.pow_add,<-Nat.pow_add,<-Nat.pow_add,<-Nat.pow_add,<-Nat.pow_add];exact YhY (by have:=Z.sz;exact Oo)
def aC0{W U:Nat}(u1:1<=U):PB W U<=RB W U:=aL (Yfv u1) (Y9I YdM)
def aG0{W U X:Nat}:2^X*RB W U<=ZB W U X:=Y9I YdM
def aAh{W U X:Nat}:RB W U<=ZB W U X:=aL (Y9I Y9N) aG0
def iT.at(S:iT H F W M ss mix cs us cu b B R p ts){i:Nat}(hi:i<W+1):∃t,ts[i]?=Y7o/\RS H F W M ss mix cs us cu (B i) t :=
 Y0C (aC (by rw[S.len];exact hi)) (S.fit i _ (aC _))
theorem iT.size(Z:zX F W M ss mix ps cs Ns Nm Np Nc BB us cu X U e b)(S:iT H F W M ss mix cs us cu b B R p ts):p.natAbs<=PB W U/\∀i,i<W+1->∀k,k<W+1->(R i k).natAbs<=PB W U :=
 S.mst.bs.size (λj d r a=>by
  obtain⟨t,_,c⟩:=S.at d;exact(c.col Z a).2) Z.u1
theorem iT.rho(Z:zX F W M ss mix ps cs Ns Nm Np Nc BB us cu X U e b)(S:iT H F W M ss mix cs us cu b B R p ts){i k:Nat}(hi:i<W+1)(hk:k<W+2):(Md.rho (W+1) b R i k).natAbs<=RB W U:=by
 cases k with
 | zero=>exact Md.QW ((S.size Z).2 i hi) λk hk=>(Z.bU k hk).2
 | succ k=>exact aL ((S.size Z).2 i hi k Oo) (aC0 Z.u1)
def iT.rt(Z:zX F W M ss mix ps cs Ns Nm Np Nc BB us cu X U e b)(S:iT H F W M ss mix cs us cu b B R p ts){i:Nat}(hi:i<W+1):(xT ts i).natAbs<=2^X:=by
 obtain⟨t,a,f⟩:=S.at hi;unfold xT;rw[a];split
 ·split
  ·exact Nat.one_le_two_pow
  ·exact Y0l
 ·exact Nat.le_of_lt (f.cost Z.sl)
theorem iT.zet(Z:zX F W M ss mix ps cs Ns Nm Np Nc BB us cu X U e b)(S:iT H F W M ss mix cs us cu b B R p ts){k:Nat}(hk:k<W+2):(Md.zet (W+1) b R (xT ts) k).natAbs<=ZB W U X:=by
 unfold Md.zet;refine Md.tL Yeg;rw[cY];exact Nat.mul_le_mul (S.rt Z a) (S.rho Z a hk)
def meas(W U X:Nat)(b:Y0)(R:Md.fD)(p:Int)(ts:Y0t):Nat:=(if Y1w=true then(2*(ZB W U X*Md.fac (PB W U))+1)^(W+2) else 0)+Md.msr (ZB W U X) (PB W U) (W+2) (Md.zet (W+1) b R (xT ts)) p
theorem iT.next(Z:zX F W M ss mix ps cs Ns Nm Np Nc BB us cu X U e b)(S:iT H F W M ss mix cs us cu b B R p ts){a:Y0}{t:oH}{o:Nat}(f:RS H F W M ss mix cs us cu a t)(nl:Yek "lack")(pay:p*(if Y1w=true then 0 else t.cost)<Md.dot (W+1) (jP W R ts) a)(ho:o<W+1)(hs:0<Md.dot (W+1) (R o) a)(hl:Md.aAk (W+1) b R a o) :
  iT H F W M ss mix cs us cu b (Md.st B o a) (Y9g (W+1) R o a) (Md.dot (W+1) (R o) a) (YbD t)/\meas W U X b (Y9g (W+1) R o a) (Md.dot (W+1) (R o) a) (YbD t)<meas W U X b R p ts:=by
 have S':iT H F W M ss mix cs us cu b (Md.st B o a) (Y9g (W+1) R o a) (Md.dot (W+1) (R o) a) (YbD t):=by
  refine⟨S.mst.next ho hs hl,by rw[List.length_set];exact S.len,λi x g=>?_⟩;by_cases h:i=o
  ·subst h;rw[List.getElem?_set_self (by rw[S.len];exact ho)]at g;cases g;rw[Md.iN];exact f
  ·rw[Ydt (h z.symm)]at g;rw[Md.lX h];exact S.fit i x g
 refine Y0j S';have m:=S.mst.bs.pos;have r:=(S.size Z).1;have s:=(S'.size Z).1;by_cases eb:gG (YbD t)=Y1w
 ·unfold meas;rw[eb];refine Nat.add_lt_add_left (Md.aE5 (λi d=>S.zet Z d) (λi d=>S'.zet Z d) m Oo hs Oo ?_) _;have h:=S.mst.cheaper ho (a:=a) (c:=xT ts) (x:=if Y1w=true then 0 else t.cost) (by rw[Md.aBw];exact pay);refine Md.gO (λk y=>?_) h;congr 2;unfold Md.zet;exact Md.eG λi d=>by rw[aA1 (by rw[S.len];exact ho) nl eb]
 ·have j:Y1w=true:=by
   cases h:Y1w with
   | true=>rfl
   | false =>
    cases h':gG (YbD t)with
    | true=>rw[TC nl h']at h;exact Y64 h
    | false=>rw[h,h']at eb;exact Y8w eb
  have n:Yw (gG (YbD t)):=by
   cases h:gG (YbD t)with
   | true=>rw[h,j]at eb;exact Y8w eb
   | false=>rfl
  unfold meas;rw[j,n,Yr,Y20,Nat.zero_add];refine aO (Md.XB Yh2) (Y9U _);obtain⟨q,_,l,_,u,w⟩:=Md.vV (S'.zet Z d) hs (P:=PB W U) Oo;rw[l];exact Oo
end
abbrev aDA:Stmt:=(top 75)
def UF:Yg ["weighing","bounds","ends","own","master","entering"] ["weighing","bounds"] aDA:={}
inductive rZ (K:Aa) (G A:Addr):Yk
 | i {H:Hp} {Q:VK} {E:XK} {x ba:Addr} {bx:Al} {bs:Ak} {F W M:Nat} {ss:Aj} {mix ps cs:Ak} {Ns Nm Np Nc BB:Nat} {us:Ae} {cu X U e:Nat} {b:Y0} (h1:zW H x G F W M ss mix cs us cu) (h2:H ba=Ym bx) (h3:zD K H bs bx) (h4:Yex W) (h5:∀(i:Nat) (f:Fr) (u:Nat),bs[i]?=Y5h->Y4P=Yl->Y06/\Y2U/\f.2.natAbs ∣ u/\(b i:Rat)=Y0D*(u:Rat)) (h6:zX F W M ss mix ps cs Ns Nm Np Nc BB us cu X U e b) (k:∀m sa B R p uv ts H',Y1->uD H' A m sa (W+1) b R p uv->lI H' uv ts->iT H' F W M ss mix cs us cu b B R p ts->(∀w,w<W->jP W R ts w<=0)->((jP W R ts W:Int):Rat)<=Y7i F W M (pzY W R ts us) (TD ts p cu)->Y4Y m):rZ K G A [Y1H,.ref ba] H Q E
section
variable{F W M:Nat}{ss:Aj}{mix ps cs:Ak}{Ns Nm Np Nc BB:Nat}{us:Ae}{cu X U e:Nat}{b:Y0}{H H':Hp}{B R:Md.fD}{p:Int}{ts:Y0t}
def iT.masz(Z:zX F W M ss mix ps cs Ns Nm Np Nc BB us cu X U e b)(S:iT H F W M ss mix cs us cu b B R p ts):aAj (W+1) b R p 4000 :=
 ⟨by have:=Z.sl.wo.w4;exact Oo,λi a k c=>aI (S.rho Z a c) (aI aAh Z.zb),aI (S.size Z).1 (aI (aC0 Z.u1) (aI aAh Z.zb)),Yy⟩
def iT.ratz(Z:zX F W M ss mix ps cs Ns Nm Np Nc BB us cu X U e b)(S:iT H F W M ss mix cs us cu b B R p ts){k:Nat}(hk:k<W+1):(jP W R ts k).natAbs<Y0J:=aI (S.zet Z (k:=k+1) Oo) Z.zb
def iT.costz(Z:zX F W M ss mix ps cs Ns Nm Np Nc BB us cu X U e b)(S:iT H F W M ss mix cs us cu b B R p ts):∀t∈ts,Yh7 Y0J:=λt c=>by
 obtain⟨i,a⟩:=List.getElem?_of_mem c;exact Y4r ((S.fit i t a).cost Z.sl) (by have:=Z.sz;exact Oo)
theorem iT.to(h:∀bp kb,H bp=Y91->H' bp=Y91)(S:iT H F W M ss mix cs us cu b B R p ts):iT H' F W M ss mix cs us cu b B R p ts:=⟨S.mst,S.len,λi t a=>(S.fit i t a).to h⟩
def XZ{n:Nat}(hb:∀r,r<n->0<=b r):Md.Mst n b Md.unit Md.unit 1:=by
 refine⟨Md.aCo n,YkH⟩;have d:Md.rho n b Md.unit i 0=b i:=by
  show Md.dY n (λk=>YhO k*b k)=b i;rw[Md.kD c λk _ a=>by unfold Md.unit;rw[YeE,Int.zero_mul]];unfold Md.unit;rw[Yr,Int.one_mul]
 have e:=hb i c;by_cases h:b i=0
 ·refine⟨i+1,Oo,λk a=>?_,by show 0<YhO i;unfold Md.unit;rw[Yr];decide⟩;cases k with
  | zero=>rw[d,h]
  | succ k=>show YhO k=0;unfold Md.unit;rw[Y2O]
 ·exact⟨0,Oo,λk a=>Oo,by rw[d];exact Oo⟩
def aC4(H:Hp)(F W M:Nat)(ss:Aj)(mix cs:Ak)(us:Ae)(cu:Nat)(R:Md.fD)(p:Int)(ts:Y0t)(v:V):Prop :=
 (v=.non/\(∀w,w<W->jP W R ts w<=0)/\((jP W R ts W:Int):Rat)<=Y7i F W M (pzY W R ts us) (TD ts p cu)) \/
 ∃e ca ta a t,v=YcX/\H e=Ym [.ref ca,Yf0]/\H ca=Yq ((dF (W+1) a).map V.int)/\xP H (Yf0) t/\RS H F W M ss mix cs us cu a t/\Yek "lack" /\ p*(if Y1w=true then 0 else t.cost)<Md.dot (W+1) (jP W R ts) a
theorem lI.set{uv:Al}(h:lI H uv ts){u:V}{t:oH}(ht:xP H u t)(o:Nat):lI H (uv.set o u) (YbD t):=by
 refine⟨by rw[List.length_set,List.length_set];exact h.len,λi v x a c=>?_⟩;rw[List.getElem?_set]at a c;by_cases e:o=i
 ·rw[Y1s]at a c;have:=h.len;by_cases l:o<uv.length
  ·rw[if_pos l]at a;rw[Y58]at c;cases a;cases c;exact ht
  ·rw[if_neg l]at a;cases a
 ·rw[Y0F]at a c;exact h.at_ i v x a c
def NH{H0:Hp}{x sa:Addr}(s:aT H0 H)(hx:H0 x=none)(hs:H0 sa=none)(k:aAm x sa H H'):aT H0 H':=λa o h =>
 k a o (λz=>by rw[z,hx]at h;cases h) (λz=>by rw[z,hs]at h;cases h) (s _ _ h)
end
section
def aHX(F:Ya "settled" "settled" aDA)(T:Ye)(FQ68:Y0k "times_whole" a45 (oS K))(FQ0:FnO P w K mg base 2 c.Master a16 (Ykd))(FQ21:Y14 4 "better" ["weighing","master"] (rB c.Weighing c.Master))(FQ1:FnM P w K mg base 3 c.Master "enter" a17 (Ykf)):dO P w K mg base cW 5 f fd ["weighing","bounds"] (rZ K c.Weighing c.Master):=by
 refine Y0P UF;obtain @⟨H,Q,E,x,ba,bx,bs,F,W,M,τ,C,ps,ξ,Ns,Nm,Np,Nc,BB,β,ζ,X,U,e,b,wg,S,fr,lb,hb,Z,q⟩:=h;refine Y3 ?_;intro cdv A outer s δ _;have w4:=Z.sl.wo.w4;have OG:=T.w_Weighing;have O:=T.w_Master;refine⟨_,(aH (rS (i:=2) (eK.o ["bound","unit"] ["bound","unit"] []) UF.nd rfl rfl (kZ true false rfl T.b_zip (Y1Y 1 Y3b)) Ybg (λ_ _ _ _=>Y1v FQ68 0 1))
  (aH (iV (i:=3) (dD.o ["bound"] []) UF.nd rfl rfl (xW (Y0w)) Ybg (λ_ _ _ _=>dU (bA (YdR "room" T.g_ROOM) (Y2x aK jW))))
  (aH (Y39 UF.nd (IP FQ0 T.g_Master (δ.mono Dd) (Y2x (cC vU (aD 2) (iJ (Y1W aK))) (cC vU (aD 3) (iJ (Y1W (dU (bA (Ykw "lack") (Y2x aK jW)))))))))
  (aH (Y1D 5 UF.nd FQ21 0 Y1j)
  (aH (wI PassesOwn.never (eC GX (aD 5) jW) (aH (lJ (Yki FQ1 (δ.mono Dd) Y1j (Y2x (Y0K 5) (Y0K 5))))
  (aS (Y1D 5 UF.nd FQ21 0 Y1j))))
  (Y2g 4)))))),?_⟩
 refine Yo;intros;have wg0:=wg;obtain⟨ul,dx,fl,ra,ua,wa,ca,tas,kvs,a0,a1,a2,a3,a4,a5,a6,a7,a8,a9,a10,a11⟩:=wg0;have ρ:bx.length=W:=by rw[fr.len,lb]
 refine Y0g (jY OG (by simp) a0 a2 ?_);refine Y1e ba ua _ _ S a7 (jU (b1:=true) (b2:=false) (xs:=bx) (ys:=β.map FN) (YkL z (b i)) (Y9J) Oo S a7 (by rw[aA,ul,ρ]) (λi y z H' Q' hy hz s' k'=>?_) (λD1 zs H1 hD1 e1 ψ hl1 hr1=>?_))
 ·obtain⟨g,hg,fg⟩:=fr.at_ i y hy;rw[aG]at hz;obtain⟨u,L,rfl⟩:=eL.mp hz;obtain⟨g1,g2,g3,g4⟩:=hb i g u hg L;refine Y01;refine oS.i (fg.same s') g1 g2 (YgS u L).2 g3 λn hn=>k' _ H' Y09 ?_;rw[<-g4]at hn;congr 1
  exact_mod_cast hn
 ·rw[mI (hl1.trans ρ) hr1]at e1;refine Ys;intros;refine Y5 (Y37 ba (Ych (ψ _ _ S)) (vC (xs:=bx) (λi y H'=>xP H' y (YcJ "room" 0)) (λi y H1 H2 s r=>by obtain⟨a,ea,ha⟩:=r;exact Y2s ea (s _ _ ha)) Oo (ψ _ _ S) (λi y H' Q' hy s' k'=>?_) (λD2 J H2 hD2 e2 χ hl2 hr2=>?_)))
  ·exact qH (by show 3<=64;decide) λq3 H3 hq3 e3 Y=>k' _ H3 Y (Yx q3 e3)
  ·refine Y7;refine DT (by show 1<=64;decide) λq3 H3 hq3 e3 Y=>?_;have S3:=χ.trans Y;refine NU (S3 _ _ e1) e3 (by rw[aA,cQ];show W+1<=1000;exact Oo) λq4 H4 hq4 e4 s4=>Y7;refine qH (by show 3<=64;decide) λq5 H5 hq5 e5 s5=>DT (by show 1<=64;decide) λq6 H6 hq6 e6 s6=>?_;have S36:=(Y.trans s4).trans (Ykb);refine NU (S36 _ _ e2) e6 (by show J.length+1<=1000;exact Oo) λq7 H7 hq7 e7 s7=>?_;have S17:=(χ.trans S36).trans s7;intro m μ hm hdm ndm;have θ:aT H7 (Y8D (upd H7 μ (.own m)) m c.Master μ []):=(aT.upd hdm).trans (aT.upd (by rw[eP (Ne.symm ndm)];exact hm));have eA:(upd (upd H7 μ (.own m)) m (.ins c.Master μ [])) m=some (.ins c.Master μ []):=bK;generalize upd (upd H7 μ (.own m)) m (.ins c.Master μ [])=H8 at θ eA ⊢;have ec:(dF W b).map V.int++YaJ 1=(dF (W+1) b).map V.int:=by
    unfold dF;rw[List.range_succ,bE,bE,bH,List.map_nil,Z.bW];rfl
   rw[ec]at e4;refine wR.i eA (((s5.trans s6).trans (s7.trans θ)) _ _ e4) (θ _ _ e7) (n:=W+1) (b:=b) (by rw[aW];show J.length+1=W+1;exact Oo) Oo λsa H9 hsa b9 I=>Y3 ?_;refine Ys;intros;have hm0:H m=none:=(ψ.trans S17).free hm;have hs0:H sa=none:=((ψ.trans S17).trans θ).free hsa;have S9:Y2c H9:=aT.thru hm0 ((ψ.trans S17).trans θ) b9;have tk:∀{a:Addr} {xs:Al},H8 a=Y11->H9 a=Y11:=λ{a xs} h=>b9.at (λz=>by rw[z,eA]at h;cases h) h;have ε:lI H9 (J++[V.ref q5]) (Yby (YcJ "room" 0)++[YcJ "lack" 0]):=by
    refine⟨by rw[aW,aW,bM,hl2,ρ];rfl,λi u t L l=>?_⟩;by_cases γ:i<J.length
    ·rw[cN γ]at L;rw[cN (by rw[bM];exact Oo),List.getElem?_replicate,Y58]at l;cases l;obtain⟨a,ea,ha⟩:=hr2 i u L;exact Y2s ea (tk ((S36.trans (s7.trans θ)) _ _ ha))
    ·rw[cF Oo]at L;rw[cF (by rw[bM];exact Oo),bM]at l;have e0:i-J.length=0:=by
      have:=(aB.mp L).1;simp at this;exact Oo
     rw[e0]at L;rw[show i-W=0 by exact Oo]at l;cases L;cases l;exact Yx q5 (tk ((s6.trans (s7.trans θ)) _ _ e5))
   have ν:iT H9 F W M τ C ξ β ζ b Md.unit Md.unit 1 (Yby (YcJ "room" 0)++[YcJ "lack" 0]):=by
    refine⟨XZ λr δ=>(Z.bU r δ).1,by rw[aW,bM];rfl,λi t l=>?_⟩;have γ:i<W+1:=by have:=(aB.mp l).1;rw[aW,bM]at this;exact this
    by_cases h:i<W
    ·rw[cN (by rw[bM];exact h),List.getElem?_replicate,Y4z]at l;cases l;exact .inl (Y98 rfl i h rfl)
    ·have e:i=W:=Oo;subst e;rw[cF (by rw[bM];exact Oo),bM,Nat.sub_self]at l;cases l;exact Ya8 (Yx rfl rfl)
   have BT:∀{H':Hp} {B R:Md.fD} {p:Int} {D:Al} {d:Y0t} {Q':VK},Y1->uD H' c.Master m sa (W+1) b R p D->lI H' D d->iT H' F W M τ C ξ β ζ b B R p d->(∀v H2,aT H' H2->aC4 H2 F W M τ C ξ β ζ R p d v->Q' v H2)->rB c.Weighing c.Master [Y1H,YcY] H' Q' E0:=λS1 m1 t1 φ k1 =>
    rB.i (wg.same S1) m1 t1 Z.sl (φ.masz Z) (φ.costz Z) (λk hk=>φ.ratz Z hk) (λH2 χ υ ο=>k1 _ H2 χ (Yf9 rfl υ ο)) λe ca ta a t H2 χ υ ο h3 h4 h5 h6=>k1 _ H2 χ (.inr ⟨e,ca,ta,a,t,rfl,υ,ο,h3,h4,h5,h6⟩)
   refine Y01;refine BT S9 I ε ν λN Ha α G=>?_;have dts:∀{H1 H2:Hp},aT H1 H2->∀κ ι,H1 κ=Y0a ι->H2 κ=Y0a ι:=λs κ ι h=>s _ _ h;refine AB (λmm σ H'=>Ex6 λ(N:V) (B R:Md.fD) (p:Int) (D:Al) (d:List oH)=>An7 (σ=[Y7N,Y6 ba,Y6 D1,Y6 D2,Y6 m,some N]) (Y1) (uD H' c.Master m sa (W+1) b R p D) (lI H' D d) (iT H' F W M τ C ξ β ζ b B R p d) (aC4 H' F W M τ C ξ β ζ R p d N) (mm=meas W U X b R p d))
    (λσ H'=>∃(N:Am) (B R:Md.fD) (p:Int) (D:Al) (d:Y0t),σ=[Y7N,Y6 ba,Y6 D1,Y6 D2,Y6 m,N]/\Y1/\uD H' c.Master m sa (W+1) b R p D/\lI H' D d/\iT H' F W M τ C ξ β ζ b B R p d/\(∀w,w<W->jP W R d w<=0)/\((jP W R d W:Int):Rat)<=worz F W M τ C (pzY W R d β) (TD d p ζ) ξ (Y02))
    _ ⟨N,_,_,_,_,_,rfl,S9.trans α,I.same α,ε.same α,ν.to (dts α),G,rfl⟩ ?_ ?_
   ·clear G ε ν I;rintro mm σ H1 ⟨N,B,R,p,D,d,rfl,S1,I,th,st,G,rfl⟩;refine Y5j;rcases G with⟨rfl,υ,ο⟩ | ⟨e,ca,ta,a,t,rfl,he,hca,l,hf,nl,pay⟩
    ·exact nW ⟨_,B,R,p,D,d,rfl,S1,I,th,st,υ,ο⟩
    ·refine Ycf;intros;obtain⟨dx2,ra2,η,LL⟩:=I.ex;have ne:∀(r s:Addr) (z:Int),(mfs r s z).lookup ("enter" : Str)=none:=λr s z=>by unfold mfs;rw[fC,Y20,fC,Y20,fC,Y20];rfl
     refine⟨_,rfl,m,dx2,_,rfl,η,ne ..,_,rfl,Y8e he⟩;refine Y0u he;obtain⟨r,δ,pr⟩:=hf.one;have ca4:∀i,i<W+1->(a i).natAbs<=U:=λi γ=>(hf.col Z γ).2;have U4:U<Y0J:=aI Z.Ue (YhY (by have:=Z.sz;exact Oo));refine tO.i (a:=a) I hca (st.masz Z) st.mst st.mst.bs.pos (λi γ=>aI (ca4 i γ) U4) (λi γ=>aI (Md.QW ((st.size Z).2 i γ) ca4) (aI aAh Z.zb)) (st.mst.bs.some (λj hj r δ=>by
      obtain⟨t',_,f'⟩:=st.at hj;exact(f'.col Z δ).1) δ pr) λo H2 ho hs hl k2 ab=>?_
     have kt:∀{u:V} {t:oH},xP H1 u t->xP H2 u t:=λh=>h.keep2 k2 η I.st;have kd:∀κ ι,H1 κ=Y0a ι->H2 κ=Y0a ι:=λκ ι h=>k2 _ _ (λz=>by rw[z,η]at h;cases h) (λz=>by rw[z,I.st]at h;cases h) h;obtain⟨aa,lt2⟩:=st.next Z hf nl pay ho hs hl;have S2:=NH S1 hm0 hs0 k2;have ω:lI H2 (D.set o (Yf0)) (d.set o t):=(show lI H2 D d from⟨th.len,λi u t L l=>kt (th.at_ i u t L l)⟩).set (kt l) o;refine Y01;exact BT S2 ab ω (aa.to kd) λN H3 Y G=>⟨_,lt2,N,_,_,_,_,_,rfl,S2.trans Y,ab.same Y,ω.same Y,(aa.to kd).to (dts Y),G,rfl⟩
   ·rintro σ H1 ⟨N,B,R,p,D,d,rfl,S1,I,th,st,υ,ο⟩;exact Y5 (q m sa B R p D d H1 S1 I th st υ ο)
end
abbrev aDC:Stmt:=(top 43)
def aJb:Yg a44 a44 aDC:={}
abbrev aEg:Stmt:=(top 45)
def UJ:Yg ["rule","amount_of","counts","says","onward","more"] a44 aEg:={}
structure LT(n:Nat)(fs:Ak):Prop where
 len:Y63 n
 at_:∀f∈fs,Y06/\0<=f.1/\rQ 3000 f
 one:vF (fs.map rv)=1
structure pR(F W M N B Ns:Nat)(es:Yi):Prop where
 rl:Y1f
 sum:∀e∈es,e.1.sum<=M
 sy:∀e∈es,LT (1+W) e.2
 few:es.length<=64
 on:∀e∈es,Y3L->e.1.sum<M
 fl:∀e∈es,Y3H (Y8 e.1)
 fs:∀e∈es,∀v,Y3H (Y8 e.1*cS e.2 v)
 n0:0<N
 s1:0<Ns
 z:N*Ns^M<2^1800
 b:B<=2^100
 m:M<=6
def LT.hd{n:Nat}{fs:Ak}(h:LT (1+n) fs):∃f r,fs=f::r/\Y06/\rQ 3000 f/\0<=f.1/\Y5z 0=Y0D/\(0<f.1↔Y5z 0≠0):=by
 cases fs with
 | nil=>have:=h.len;simp at this;exact Oo
 | cons f r =>
  obtain⟨a,j,c⟩:=h.at_ f (aY ..);refine⟨f,r,rfl,a,c,j,rfl,?_⟩;have e:cS (f::r) 0=Y0D:=rfl;rw[e];constructor
  ·intro d q;have:=iK a SY (by rw[q,oP]);rw[this]at d;exact Y64 d
  ·intro q;refine cJ λz=>q ?_;have g:f.1=0:=Oo;have i:=pG a.pos;rw[g]at i;have l:=lF a.pos;have:Y0D=0:=by grind
   exact this
def LT.nn{n:Nat}{fs:Ak}(h:LT n fs)(v:Nat):0<=Y5z v:=by
 by_cases hv:Yak v
 ·have:=h.at_ _ (eO (a:=(0,1)) hv);exact PF this.1 this.2.1
 ·rw[pS Oo];exact Rat.le_refl
def LT.rest{n:Nat}{fs:Ak}(h:LT (1+n) fs):cE n (λv=>Y0I fs)=1-Y5z 0:=by
 have a:=h.one;rw[uH,h.len]at a;have:∀n,cE (1+n) (cS fs)=Y5z 0+cE n (λv=>Y0I fs):=by
  intro n
  induction n with
  | zero=>rw[show 1+0=0+1 from rfl,dQ,gI,gI];grind
  | succ n ih=>rw[show 1+(n+1)=(1+n)+1 by exact Oo,dQ,ih,dQ];grind
 rw[this]at a;grind
structure DQ(K:Aa)(H:Hp)(kvs:Yu)(g:Yz):Prop where
 at_:∀d:Ae,(Y5Z d=none/\g d=0)\/∃v,Y5Z d=Yn/\AY K H (eV (g d)) v
def CW:eV 0=(0,1):=iK (Y00) SY (by rw[cV,oP])
def QO:eV 1=(1,1):=iK (Y00) NF (by rw[cV,sE])
theorem DQ.t{K:Aa}{H H':Hp}{kvs:Yu}{g:Yz}(s:Y28)(h:DQ K H kvs g):DQ K H' kvs g:=⟨λd=>by
 rcases h.at_ d with h | ⟨v,a,c⟩
 ·exact YcV
 ·exact Y7A v a (c.t s)⟩
def DQ.eq{K:Aa}{H:Hp}{kvs:Yu}{g g':Yz}(h:DQ K H kvs g)(e:∀d,g' d=g d):DQ K H kvs g':=by
 have:g'=g:=funext e;rw[this];exact h
def DQ.get{K:Aa}{H:Hp}{kvs:Yu}{g:Yz}(h:DQ K H kvs g)(d:Ae){z:V}(hz:iI K H (0,1) z):iI K H (eV (g d)) ((gD kvs (kT (ci d))).getD z):=by
 rcases h.at_ d with⟨a,c⟩ | ⟨v,a,c⟩
 ·rw[a,c,CW];exact hz
 ·rw[a];exact c.v
def DQ.val{K:Aa}{H:Hp}{kvs:Yu}{g:Yz}(h:DQ K H kvs g){d:Ae}(hd:g d≠0):∃v,Y5Z d=Yn/\AY K H (eV (g d)) v:=by
 rcases h.at_ d with⟨_,a⟩ | h
 ·exact absurd a hd
 ·exact h
def DQ.put{K:Aa}{H:Hp}{kvs:Yu}{g:Yz}(h:DQ K H kvs g){c:Ae}{v:V}{y:Rat}(r:AY K H (eV (g c+y)) v):DQ K H (Y8A c v) λd=>g d+if c=d then y else 0:=⟨λd=>by
 rw[iD];by_cases e:c=d
 ·subst e;rw[Yr,Yr];exact .inr (Yx v r)
 ·rw[Y3u (e (Y60 q).symm),Y0F,show g d+0=g d by grind];exact h.at_ d⟩
def lA{N C:Nat}{q:Rat}(h:Qn N C q)(h0:0<N)(hN:N<2^2500)(hC:C<=2^200):Y8G q:=mL h.fq h0 (Y7c hN) (Y44 hC)
def rQ.up{j k:Nat}{f:Fr}(h:rQ j f)(hk:j<=k):rQ k f:=⟨Y4r h.1 hk,Y4r h.2 hk⟩
section
variable{F W M N B Ns:Nat}{es:Yi}{s:Ak}
def pR.nz(R:Y1n):N<2^2500:=by
 have c:0<Ns^M:=Nat.pow_pos R.s1;have a:N*1<=N*Ns^M:=dI _ c;rw[Nat.mul_one]at a;exact Y8K a R.z
def pR.pz(R:Y1n):0<N*Ns^M/\N*Ns^M<2^2500:=⟨Yjk R.n0 R.s1,Y7c R.z⟩
def pR.b2(R:Y1n):B<=2^200:=Y44 R.b
theorem pR.part(R:Y1n)(f4:F<=4):∀i,Yc6 i->∀d,Qn N (1+4*B*i) (Y3O i d)
 | 0,_,d=>by
  rw[List.take_zero,lT,Nat.mul_zero,Nat.add_zero];split
  ·exact Qn.one' _
  ·exact Qn.zero _ _
 | i+1,hi,d=>by
  have he:=aC (show i<es.length by exact Oo);rw[iB he,gH,R.rl.at he];have a:=aE he;have g:=R.part f4 i Oo d;have e:Qn 1 4 (iH F es[i].1 d):=by
   have:=Qn.sumR (N:=1) (B:=1) (n:=F) (f:=λf=>if cH es[i].1 f=d then 1 else 0) λf _=>by
    split
    ·exact Qn.one' _
    ·exact Qn.zero _ _
   exact this.le Oo
  have c:=(show Qn N B (aX F es es[i].1*s0 es[i])from R.fs _ a 0).mul e;rw[Nat.mul_one]at c;refine(g.add c).le ?_;rw[Nat.mul_add,Nat.mul_one,Nat.mul_comm B 4];exact Oo
def pR.bg(R:Y1n){i:Nat}(hi:i<=64):1+4*B*i+B*4<=2^200:=by
 have c:=Nat.mul_le_mul (dI 4 R.b) hi;have d:=bF 4 R.b;have a:1+4*2^100*64+2^100*4<=2^200:=Kk;exact Oo
end
inductive jT (K:Aa):Yk
 | i {H:Hp} {Q:VK} {E:XK} {x:V} {e:dB} {es:Yi} (h1:LM K H (e::es) x) (k:Y1x (e.1.length:Nat)):jT K [x] H Q E
inductive mZ (K:Aa):Yk
 | i {H:Hp} {Q:VK} {E:XK} {x:V} {es:Yi} {F W M N B Ns:Nat} (h1:LM K H es x) (h2:Y1n) (h3:1<=F) (h4:F<=4) (k:∀a ys H',Y1->H' a=Yd1->Y72 es.length->(∀(i:Nat) (e:dB),es[i]?=Y6k->∃b cu va,Y19=Y6 b/\Y1p=Ym [.ref cu,va]/\H' cu=Ym (e.1.map FN)/\AY K H' (eV (Y8 e.1)) va)->Y6w):mZ K [x] H Q E
section
def aH0(F:Ya "rule_faces" "rule_faces" aDC)(T:Ye):dO P w K mg base cW 1 f fd a44 (jT K):=by
 refine F.oky aJb λG H Q E h=>?_;obtain @⟨H,Q,E,x,e,I,D,k⟩:=h;refine Y3 ?_;intro B A i s L _;obtain⟨a,n,rfl,C,y,l⟩:=D;have m:n[0]?=some (n[0]'(by rw[y];exact YdM)):=aC _;obtain⟨p,d,b,J,z,r,u,g,_⟩:=l 0 _ m;cases(show e=p by simpa using d);rw[r]at m;refine Y3A (Yf2 oG (by rfl) Kk (Y1W (Y5q Y2C aK))) (Y5 (lE C (Y7a m) ?_));refine lE u rfl (rlT g ?_);rw[aA];exact k
def aIF(F:Ya "amounts" "amounts" aEg)(T:Ye)(FQ47:Y0k "noughts" ["faces"] mW)(FQ60:Y0k "rule_faces" a44 (jT K))
  (FQ45:Y0k "looks_on" ["says"] (lP K)) (FQ67:Y6b 2 "times" K) (FQ50:Y2B "ones_more" a35 fU) (FQ55:Y14 2 "plus" a01 (kN K)):dO P w K mg base cW 3 f fd a44 (mZ K):=by
 refine Y0P UJ;obtain @⟨H,Q,E,x,es,F,W,M,N,B,Ns,rx,RO,f1,f4,k⟩:=h;refine Y3 ?_;intro cdv A outer s ρ _;obtain⟨a,xs,rfl,ω,lx,η⟩:=id rx;have RL:=RO.rl;have few:=RO.few;obtain⟨e0,er,ees,ez0⟩:=RL.root;refine⟨_,(aH (Y3e 1 UJ.nd (IQ ρ.u1 (fV FQ47 (Y5C FQ60)) (Yhn Yed rfl)))
  (aH (gM PassesOwn.never rfl (xW (Y0H)) (Y7m 2 UJ.nd 3 UJ.nd lK) (aS (iM (qE (fV FQ45 (aD 3))) (aH (Y39 UJ.nd (cL FQ67 (gY ρ.u1 Y0w Y0c) (Y0K 3)))
  (aS (Y8t (eJ (YeX 2)) (Ybl 5 UJ.nd) (jC ρ.u1 Y0w (aD 5) (Y2R FQ55 (GE ρ.u1 (Y0w) (Y2b) (YgB YbE rfl)) 4))))) fJ)))
  (Y1k (Ydo dM (by rfl) Kk (Y1W (Y6Z ["entry","amount_of"] [1] (xW (Y0H)) (dU (Y2x (Y6s 0) (gY ρ.u1 Y0w (Y6s 0)))))))))),?_⟩
 refine Yo;intros;intro p hp;have J:=Y5R [] hp;have Z:(upd H p (.dT [])) p=Y0a []:=bK;generalize upd H p (.dT [])=H0 at J Z;refine Y5 (jT.i (e:=e0) (es:=er) (by rw[<-ees];exact rx.t J.t) ?_);rw[ez0,bM];refine mW.i (F:=F) Oo λv1 H1 s1 r1=>?_;obtain⟨cz,rfl,ψ⟩:=iL r1;refine aGj (c:=ci (Y02)) (by rw[fM];exact ψ) (s1 _ _ Z) λH2 e2 b2=>Ys;intros;have S2:Y2c H2:=aT.thru hp (J.trans s1) b2;have D2:DQ K H2 [(Y3s Y02,V.ref c.ONE)] (aX F (es.take 0)):=⟨λd=>by
  rw[List.take_zero,lT];by_cases q:d=Y02
  ·subst q;rw[Yr];exact .inr (Y0C (by simp[gD]) (.inr (Yx c.ONE (by rw[QO];exact T.o_ONE))))
  ·rw[Y2f];refine YeN ?_;have:¬Y3s d=Y3s Y02:=λz=>q (Y60 z);have e:=iD (κ:=Y4C) [] (Y3s Y02) (Y3s d) (V.ref c.ONE);rw[if_neg this]at e;exact e⟩
 clear b2 J Z r1 ψ s1;refine Y68 _ rfl a (Ych (Y1V ω)) (QQ (xs:=xs) (λi σ H'=>Ex5 λ(o2 o3 o4 ξ:Am) (g:List (List fQ × V))=>An5 (σ=[Y3i,Y3j,o2,o3,o4,ξ]) (Y1) (Y34=Y0a g) (g.length<=1+4*i) (DQ K H' g (aX F (es.take i)))) ⟨_,_,_,_,_,rfl,S2,e2,by simp,D2⟩ (Y9T) ?_ ?_)
 ·obtain⟨_,_,_,_,_,_,ζ,_⟩:=q;exact jV.of (ζ _ _ ω)
 ·rintro i x σ H3 hx ⟨o2,o3,o4,ξ,g,rfl,S3,γ,l3,D3⟩;obtain⟨e,X,re⟩:=η i x hx;have hi:i<es.length:=(aB.mp X).1;have r:=aE X;have hkey:Ybp e.1 (·.1):=Y6L r;have hel:=RL.len e r;have α:=RL.at X;have fpos:=RL.posf r;obtain⟨f0,fr,ef,l0,z0,nn0,v0,ο⟩:=(RO.sy e r).hd;have es0:Y2=rv f0:=v0;obtain⟨b,u,z,rfl,hb,C,rz⟩:=re.t S3.t;refine⟨b,[.ref u,z],rfl,jV.of hb,rfl,.ref u,[z],rfl,z,[],rfl,rfl,Y2i⟩;intros;refine Y5 (lP.i (f:=f0) (fs:=fr) (by rw[<-ef];exact rz) ?_);refine Y5 (xH (Yc9) (Yc9))
  ·have sne:Y3L:=ο.mp on;refine Yo;intros;obtain⟨O,Y,I⟩:=D3.val (d:=e.1) (by rw[α];grind);rw[α]at I;refine Y0g (Y5x γ e.1 (by rw[fM];exact C) Y);obtain⟨av,vs,rfl,hav,χ⟩:=rz;rw[ef]at χ;obtain⟨y0,hy0,ry0⟩:=χ.get (i:=0) rfl;refine Y5 (lE hav (Y7a hy0) ?_);refine eN.i I.v ry0.v Y00 l0 (YaD (RO.fl e r) RO.n0 RO.nz) (z0.up Dd) (λq4 H4 hq4 e4 δ=>?_);have ε:iG (eV (Y8 e.1)) f0=eV (Y8 e.1*Y2):=Ycp l0 (by rw[jE (Y00).pos l0.pos,cV,cV,es0]);rw[ε]at e4;have qy:Y3H (Y8 e.1*Y2):=RO.fs e r 0;refine Y7;refine fU.i (wC (δ _ _ C)) Oo λL G H5 hL e5 υ S=>?_;have S5:=(S3.trans δ).trans S;have ly:G.length=F:=by rw[υ.len,aA,aA,aV,hel]
   have φ:Y5X H5 (Y8 e.1*Y2) (.ref q4):=fL (S _ _ e4);have θ:H5 p=Y0a g:=S _ _ (δ _ _ γ);have nLp:L≠p:=λz=>by rw[z,δ _ _ γ]at hL;cases hL
   refine Y1h L e5 ?_;refine mG (xs:=G) (λj σ H'=>Ex2 λ(ξ:Am) (g:List (List fQ × V))=>An5 (σ=[Y3i,Y3j,Y6 u,Y6 av,Y6 q4,ξ]) (aU p H5 H') (Y34=Y0a g) (g.length<=1+4*i+j) (DQ K H' g λd=>Y3O i d+Y8 e.1*Y2*Ybr j (if Y1L e.1=d then 1 else 0)))
    ⟨_,g,rfl,(Y09).but,θ,Oo,(D3.t (δ.trans S).t).eq λd=>by rw[gI];grind⟩ (YiL) ?_ ?_
   ·obtain⟨_,_,_,b',_⟩:=q;exact YgD nLp e5
   ·rintro j y σ H6 ν ⟨o5',R,rfl,b6,ι,l6,D6⟩;refine Y5b;intros;have hj:j<F:=by rw[<-ly];exact(aB.mp ν).1
    obtain⟨m,hm,rm⟩:=eW υ ν;have ε:m=cH e.1 j:=by
     rw[aG,bP Oo]at hm;simpa using hm.symm
    have msum:m.sum=e.1.sum+1:=by rw[ε];exact Y7M
    have mks:Ybp m (·.1):=by rw[ε];exact RL.fwd e r sne j hj
    have mM:m.sum<=M:=by obtain⟨e',he',rfl⟩:=aN.mp mks;exact RO.sum e' he'
    obtain⟨cm,rfl,hcm⟩:=iL rm;have t6:fF H5 H6:=aU.tT b6 θ;have U:=t6 _ _ hcm;have hnz:iI K H6 (0,1) YbE:=Yx c.NOUGHT (wL T.o_NOUGHT);have hg:=D6.get m hnz;have qX:Qn N (1+4*B*i+B*4) (Y3O i m+Y8 e.1*Y2*Ybr j (if Y1L e.1=m then 1 else 0)):=by
     have τ:Qn 1 4 (Ybr j (if Y1L e.1=m then 1 else 0)):=by
      have:=Qn.sumR (N:=1) (B:=1) (n:=j) (f:=λf=>if Y1L e.1=m then 1 else 0) λf _=>by
       split
       ·exact Qn.one' _
       ·exact Y7U
      exact YkF
     have β:=qy.mul τ;rw[Nat.mul_one]at β;exact(RO.part f4 i Oo m).add β
    generalize hX:aX F (es.take i) m+aX F es e.1*s0 e*(cE j λf=>if cH e.1 f=m then 1 else 0)=Xm at qX hg;refine⟨_,rfl,p,rfl,Yff R ι,_,rfl,_,oQ.ct (c:=ci m) ι (by rw[fM];exact U),Y7⟩;refine kN.i hg (iI.of (φ.flat t6 (Y2u))) (Y00) (Y00) (lA qX RO.n0 RO.nz (RO.bg Oo)) (YaD qy RO.n0 RO.nz) λq7 H7 hq7 e7 s7=>?_;have ea:gS (eV Xm) (eV (Y8 e.1*Y2))=eV (Xm+Y8 e.1*Y2):=iK (uB (Y00) (Y00)) Y00 (by rw[nB (Y00).pos (Y00).pos,cV,cV,cV]);rw[ea]at e7;refine Y01;have μ:=s7 _ _ ι;refine Y4v μ m (by rw[fM];exact s7 _ _ U) Oo Yj8;have t8:fF H7 H8:=aU.tT b8 μ;refine⟨_,_,rfl,(b6.trans s7.but).trans b8,e8,?_,?_⟩
    ·have:=Y5f R m (V.ref q7);exact Oo
    ·have D7:=D6.t s7.t;have D8:=(D7.put (c:=m) (v:=.ref q7) (y:=aX F es e.1*s0 e) (by rw[hX];exact .inl (fL e7))).t t8;refine D8.eq Y5c;rw[dQ,<-ε];by_cases q:m=d
     ·rw[Y4y,Y4y];grind
     ·rw[Y2f,Y2f];grind
   ·rintro σ H6 ⟨o5',R,rfl,b6,ι,l6,D6⟩;rw[ly]at l6 D6;refine⟨_,_,_,_,R,rfl,aT.thru hp S5 b6,ι,Oo,D6.eq Y5c⟩;rw[iB X,gH,α];rfl
  ·have z0:Y2=0:=YdW (on (ο.mpr q));refine⟨_,_,_,_,g,rfl,S3,γ,Oo,D3.eq Y5c⟩;rw[iB X,gH,z0];grind
 ·rintro σ H3 ⟨o2,o3,o4,ξ,g,rfl,S3,γ,l3,D3⟩;rw[lx,dX]at D3;refine Y68 _ rfl a (Ych (S3 _ _ ω)) (vC (λi y H'=>∃(e:dB) (b u:Addr) (O:V),es[i]?=Y6k/\y=Y0e/\Y1p=Ym [.ref u,O]/\H' u=Ym (e.1.map FN)/\AY K H' (eV (Y8 e.1)) O) (λi y H1 H2 s ⟨e,b,u,O,h1,h2,τ,h5,β⟩=>⟨e,b,u,O,h1,h2,s _ _ τ,s _ _ h5,β.t s⟩) Oo (S3 _ _ ω) (λi x H' Q' hx ζ k'=>?_) (λD G H8 hD hD8 s8 hy8 hr8=>?_))
  ·obtain⟨e,X,re⟩:=η i x hx;have r:=aE X;obtain⟨b,u,z,rfl,hb,C,rz⟩:=re.t (S3.trans ζ).t;obtain⟨O,Y,I⟩:=D3.val (d:=e.1) (by have:=RL.posf r;grind);refine Y0u hb;refine Y8R hb;refine NQ (ζ _ _ γ) (c:=ci e.1) (by rw[fM];exact C) Y (qH (by show 2<=64;decide) λq5 H5 hq5 e5 S=>?_);exact k' _ H5 S ⟨e,q5,u,O,X,rfl,e5,S _ _ C,(I.same ζ).same S⟩
  ·refine Y7y D G hD8;have sl:=Y5l G;have el:(upd H8 l (.tup G)) l=Ym G:=bK;generalize upd H8 l (.tup G)=H9 at sl el;refine k l G H9 ((S3.trans s8).trans sl) el Oo λi e hi=>?_;obtain⟨y,ν⟩:∃y,G[i]?=Y03:=Y40 (by have:=(YeF).1;exact Oo);obtain⟨e',b,u,O,h1,rfl,τ,h5,β⟩:=hr8 i y ν;rw[hi]at h1;cases h1;exact⟨b,u,O,ν,sl _ _ τ,sl _ _ h5,YkM⟩
end
abbrev aEb:Stmt:=(top 51)
def aCk:Yg ["trial","rule","way","found","entry","amount"] a12 aEb:={}
abbrev aDL:Stmt:=(top 52)
def aGU:Yg ["trial","rule","way","came"] a12 aDL:={}
abbrev aDz:Stmt:=(top 53)
def aI9:Yg a19 a19 aDz:={}
def aqF(F:Nat)(es:Yi)(s:Ak)(e:dB):Fr:=eV (Y8 e.1*wq s e.1)
def came(F:Nat)(es:Yi)(s:Ak):Y88 dB Fr:=es.map λe=>(e,aqF F es s e)
def UX(K:Aa)(H:Hp)(x:dB × Fr)(v:V):Prop:=∃b cu z y,v=Y0e/\H b=Ym [.ref cu,z,y]/\H cu=Ym (x.1.1.map FN)/\EC K H x.1.2 z/\Y4S x.2 y
theorem UX.t{K:Aa}{H H':Hp}{x:dB × Fr}{v:V}(s:Y28)(h:UX K H x v):UX K H' x v:=by
 obtain⟨b,c,z,y,d,g,a,i,e⟩:=h;exact⟨b,c,z,y,d,s _ _ g,s _ _ a,i.t s,e.flat s (Y2u)⟩
def aGR{K:Aa}{H H':Hp}(s:Y28){l:Y88 dB Fr}{zs:Al}(h:Yc5 K H l zs):Yc5 K H' l zs:=Paired.imp' (λ_ _ h=>h.t s) h
theorem KZ{K:Aa}{H:Hp}:∀{l:Y88 dB Fr}{zs:Al}{x:dB × Fr}{v:V},Yc5 K H l zs->UX K H x v->Yc5 K H (l++[x]) (zs++[v])
 | _,_,_,_,.nil,h=>.cons h .nil
 | _,_,_,_,.cons r t,h=>.cons r (KZ t h)
section
variable{F W M N B Ns:Nat}{es:Yi}{s:Ak}
def pR.aq(R:Y1n)(hs:∀f∈s,Y94){e:dB}(h:YaZ e):Qn (N*Ns^M) B (Y8 e.1*wq s e.1):=by
 have:=(R.fl e h).mul (OP (M:=M) hs (R.sum e h))
 rwa [Nat.mul_one]at this
def pR.aqs(R:Y1n)(hs:∀f∈s,Y94){e:dB}(h:YaZ e)(v:Nat):Qn (N*Ns^M) B (Y8 e.1*wq s e.1*cS e.2 v):=by
 have:=(R.fs e h v).mul (OP (M:=M) hs (R.sum e h));rw[Nat.mul_one]at this;rw[show aX F es e.1*wq s e.1*cS e.2 v=aX F es e.1*cS e.2 v*wq s e.1 by grind];exact this
def pR.wn(R:Y1n):Ns^M<2^2500:=by
 have a:1*Ns^M<=N*Ns^M:=Y2a R.n0;rw[Nat.one_mul]at a;exact aI a R.pz.2
end
theorem Qn.sumL{α:Type}{N B:Nat}{f:Y2A}:∀{l:Yt},(∀a∈l,Y3H (f a))->Qn N (l.length*B) Y3p
 | [],_=>by rw[jN];exact Qn.zero _ _
 | a::l,h=>by
  rw[dC,cK,Nat.add_mul,Nat.one_mul,Nat.add_comm];exact(h a (aY ..)).add (Qn.sumL λx hx=>h x (bD _ hx))
theorem zI{α:Type}{p:Y24 α}{f:Y2A}:∀{l:Yt},(∀a∈l,Yw (p a)->f a=0)->dA (l.filter p) f=Y3p
 | [],_=>rfl
 | a::l,h=>by
  have ih:=zI λx c=>h x (bD a c);cases q:p a with
  | true=>rw[List.filter_cons_of_pos q,dC,dC,ih]
  | false=>rw[List.filter_cons_of_neg (by rw[q];decide),dC,ih,h a (aY ..) q];grind
def VR{α:Type}{l:Yt}{g:α->Fr}{f:Y2A}(h:∀a∈l,dS (g a)/\rv (g a)=f a):rX (l.map g)=eV (Y3p):=by
 have d:∀x∈l.map g,dS x:=λx e=>by
  obtain⟨a,c,rfl⟩:=aN.mp e;exact(h a c).1
 refine iK (BI _ d) Y00 ?_;rw[WR _ d,cV,List.map_map];exact congrArg vF (fN λa c=>(h a c).2)
def aE4(x y:Rat):iG (eV x) (eV y)=eV (x*y):=Ycp Y00 (by rw[jE (Y00).pos (Y00).pos,cV,cV,cV])
def aAe(x y:Rat):gS (eV x) (eV y)=eV (x+y):=iK (uB (Y00) (Y00)) Y00 (by rw[nB (Y00).pos (Y00).pos,cV,cV,cV])
def aDi(x y:Rat):Y3T (eV x) (eV y)=eV (x-y):=iK (uB (Y00) (xE (Y00))) (Y00) (by
 rw[nB (Y00).pos (xE (Y00)).pos,show kA (eV y)=(-(eV y).1,(eV y).2)from rfl,GP,cV,cV,cV,Rat.sub_eq_add_neg])
inductive sC (K:Aa):Yk
 | i {H:Hp} {Q:VK} {E:XK} {t r:V} {es:Yi} {F W M N B Ns:Nat} {fs:Ah} {ws:Y0v} {i:Nat} {x:Y95} (h1:Y6o t) (h2:LM K H es r) (h3:Y1n) (h4:1<=F) (h5:F<=4) (h7:ws[i]?=Yb) (h8:∀f∈x.2,Y94) (h9:Y6r x.2) (k:Y2Q (H D=none) (Y0x=Y05->Yc5 K H' (came F es x.2) ys->Y1->Y0Q)):sC K [t,r,.int (i:Int)] H Q E
abbrev onE(e:dB):Bool:=decide (Y3L)
abbrev onD(x:Nat × Fr):PyData:=.tuple [.int (x.1:Int),jA x.2]
def onw(F:Nat)(es:Yi)(s:Ak):Y88 Nat Fr:=(es.filter onE).map λe=>(e.1.sum,eV (Y8 e.1*wq s e.1*Y2))
inductive sB (K:Aa):Yk
 | i {H:Hp} {Q:VK} {E:XK} {t r:V} {es:Yi} {F W M N B Ns:Nat} {fs:Ah} {ws:Y0v} {i:Nat} {x:Y95} (h1:Y6o t) (h2:LM K H es r) (h3:Y1n) (h4:1<=F) (h5:F<=4) (h7:ws[i]?=Yb) (h8:∀f∈x.2,Y94) (h9:Y6r x.2) (k:Y2Q (H D=none) (Y0x=Y05->Y3M ((onw F es x.2).map onD) ys->Y1->Y0Q)):sB K [t,r,.int (i:Int)] H Q E
structure CoC(Nc:Nat)(es:Yi)(cs:Ak):Prop where
 c0:0<Nc
 c1:Nc<=1000000000000000
 at_:∀f∈cs,Fn Nc 1000 f
 len:∀e∈es,Y3L->Yhx e.1.sum
def CoC.qn{Nc:Nat}{es:Yi}{cs:Ak}(h:CoC Nc es cs){e:dB}(he:YaZ e)(hs:Y3L):Qn Nc 1000 (cS cs e.1.sum):=(h.at_ _ (eO (a:=(0,1)) (h.len e he hs))).q
inductive wO (K:Aa):Yk
 | i {H:Hp} {Q:VK} {E:XK} {t r cv:V} {es:Yi} {F W M Nc N B Ns:Nat} {fs:Ah} {ws:Y0v} {i:Nat} {x:Y95} {cs:Ak} (h1:Y6o t) (h2:LM K H es r) (h3:Y1n) (h4:1<=F) (h5:F<=4) (h7:ws[i]?=Yb) (h8:∀f∈x.2,Y94) (h9:Y6r x.2) (h10:EC K H cs cv) (h11:CoC Nc es cs) (k:Y4k (Y7G (gL F es (wq x.2) (cS cs)) v->Y1o)):wO K [t,r,.int (i:Int),cv] H Q E
section
def aIB(F:Ya "comings" "comings" aEb)(T:Ye)(FQ19:Y2t "amounts" a44 (mZ K))(FQ67:Y6b 2 "times" K)(FQ72:Y2t "weight" a06 (jR K)):dO P w K mg base cW 4 f fd a12 (sC K):=by
 refine Y0P aCk;obtain @⟨H,Q,E,t,r,l,F,W,M,N,B,Ns,fs,ws,iw,x,rt,rr,RO,f1,f4,hx,R,τ,k⟩:=h;refine Y3 ?_;intro cdv A β s hr _;obtain⟨a,xs,rfl,Y,lx,ε⟩:=id rr;have few:=RO.few;refine⟨_,(aH (Y15 aCk.nd (iJ aQ))
  (aH (Y8t (kZ true true rfl T.b_zip (Y1Y 1 (Y5B FQ19))) (Y7m 4 aCk.nd 5 aCk.nd lK) (Y9h Y0h (dU (Yaq (Y0K 4) (Y0K 4) (cL FQ67 (Y0K 5) (lU FQ72 Y0H Y0c (Y0K 4)))))))
  (Y2g 3))),?_⟩
 refine Yo;intros;refine DT (by show 0<=64;decide) λL H1 δ ζ s1=>Y01;refine mZ.i (rr.t s1.t) RO f1 f4 λφ ys H2 p X ly k2=>Y1e a φ xs ys (p _ _ (s1 _ _ Y)) X ?_;refine YfD xs ys (∃(υ μ:Am) (j:Al),σ=[Y7o,Y3i,Yd (iw:Int),Y9n,υ,μ]/\aU L H2 H'/\H' L=Yq j/\Yc5 K H' ((came F l x.2).take i) j) (Y3t _ _ [] ((Y09).but) (p _ _ ζ) .nil) (λi σ H' ⟨_,_,_,_,b',_⟩=>?_) ?_ ?_
 ·have na:a≠L:=λz=>by rw[z,δ]at Y;cases Y
  have κ:φ≠L:=λz=>by rw[z,p _ _ ζ]at X;cases X
  exact⟨b'.at na (p _ _ (s1 _ _ Y)),b'.at κ X⟩
 ·rintro i y z q3 σ H3 H4 hy η ⟨υ,μ,j,rfl,Z,ρ,O⟩ hq3 e4 U;obtain⟨e,ξ,re⟩:=ε i y hy;have D:=aE ξ;have ν:=Z.t (p _ _ ζ);have n:=ν.trans U.t;have C:=(s1.trans p).t.trans n;obtain⟨b,ψ,v,rfl,ο,G,γ⟩:=re.t C;have ru:Y3Y H4 e.1 (.ref ψ):=wC G;obtain⟨bz,cz,va,J,I,_,α⟩:=k2 i e ξ;rw[η]at J;cases J;have u:H4 L=Yq j:=U _ _ ρ;have lz:j.length<=64:=by
   rw[<-O.length,gB];unfold came;rw[aA];exact Oo
  refine⟨q3,_,rfl,jV.of e4,rfl,_,_,rfl,_,_,rfl,rfl,Y2i⟩;intros;refine⟨_,rfl,UR u,_,rfl,Y8e ο⟩;refine Y0u ο;refine Y0u (n _ _ I);refine Y2k (Y8e ο);have ι:=RO.sum e D;have m6:=RO.m;refine jR.i (Yea C fs ws) hx ru τ Oo λxw H5 χ fw=>?_;have g:dS (oA (x.2.zip e.1)):=tH _ λz η=>(R z.1 (List.of_mem_zip (a:=z.1) (b:=z.2) η).1).low;refine eN.i (((α.t n).same χ).v) fw.v Y00 g (YaD (RO.fl e D) RO.n0 RO.nz) (Ybs (Qn.f g (OP (M:=M) R ι)) (Nat.pow_pos RO.s1) (Y7c RO.wn)) (λq6 H6 hq6 ω s6=>?_);have em:iG (eV (Y6O e.1)) (oA (x.2.zip e.1))=aqF F l x.2 e:=Ycp g (by rw[jE (Y00).pos g.pos,cV];unfold aqF;rw[cV];rfl);rw[em]at ω;refine qH (by show 3<=64;decide) λθ H7 hq7 e7 s7=>?_;have d:=(χ.trans s6).trans s7;refine LJ (d _ _ u) Oo Yj8;have S:=b8.t (d _ _ u);refine Y3t _ _ (j++Y5o θ) ((Z.trans (U.trans d).but).trans b8) e8 ?_;have ec:(came F l x.2)[i]?=some (e,aqF F l x.2 e):=by unfold came;rw[aG,ξ];rfl
  rw[iB ec];exact KZ (aGR ((U.trans d).t.trans S) O) ((show UX K H7 (e,aqF F l x.2 e) (.ref θ)from⟨θ,ψ,v,_,rfl,e7,d _ _ G,γ.t d.t,fL (s7 _ _ ω)⟩).t S)
 ·rintro σ H3 ⟨υ,μ,j,rfl,Z,ρ,O⟩;refine Y7;have hc:(came F l x.2).take (YbK)=came F l x.2:=List.take_of_length_le (by unfold came;rw[aA];exact Oo);rw[hc]at O;exact k L j H3 δ ρ O (aT.thru δ (s1.trans p) Z)
def aH9(F:Ya "onwards" "onwards" aDL)(T:Ye)(FQ23:Y14 4 "comings" a12 (sC K))(FQ67:Y6b 2 "times" K)(FQ45:Y0k "looks_on" ["says"] (lP K)):dO P w K mg base cW 5 f fd a12 (sB K):=by
 refine Y0P aGU;obtain @⟨H,Q,E,t,r,a,F,W,M,N,B,Ns,fs,ws,iw,x,rt,rr,RO,ω,f4,η,n,X,k⟩:=h;refine Y3 ?_;intro cdv A O s hr _;have few:=RO.few;refine⟨_,(aH (Y15 aGU.nd (lU FQ23 Y0H Y0w Y0c))
  (Y1k (SA (eK.o ["counts","says","share"] ["counts","says","share"] []) (eJ (Y0h)) (λ_ _ _ _=>OM (qE (Y5B FQ45))) (λ_ _ _ _=>(dU (Y2x (YeJ (AW K rfl) (by rfl) Kk 0) (cL FQ67 (aD 2) (Y6s 1)))))))),?_⟩
 refine Yo;intros;refine Y42;refine sC.i rt rr RO ω f4 η n X λD ys H1 hD p r1 Z=>Y9G D _ p (FM (as:=came F a x.2) (λy=>onE y.1) (λy v=>UX K H1 y v) (λy v H'=>dL H' (onD (y.1.1.sum,eV (Y4R y.1.1*wq x.2 y.1.1*s0 y.1))) v) (λx y H1 H2 s r=>r.flat s rfl) (by unfold came;rw[aA];exact Oo) p r1 (λv y H' χ G ι=>?_) (λL Y H2 ξ θ s2 ψ=>?_))
 ·obtain⟨e,ε,rfl⟩:=aN.mp χ;obtain⟨b,κ,z,y,rfl,hb,d,α,G⟩:=G.t ι.t;obtain⟨g,ο,γ,S,μ,υ,v0,m⟩:=(RO.sy e ε).hd;have R:Y2=Y2v:=v0;refine⟨b,[.ref κ,z,y],rfl,jV.of hb,rfl,λQ' h=>?_,λH5 Q' I hp ν=>?_⟩
  ·refine Y5 (lP.i (f:=g) (fs:=ο) (by rw[<-γ];exact α) ?_);refine Y7;have p:Y1c 0 g.1=onE e:=by
    by_cases q:0<g.1
    ·rw[cR q];exact(cR (m.mp q)).symm
    ·rw[bZ q];exact(bZ λz=>q (m.mpr z)).symm
   rw[p];exact h H' (Y09)
  ·have d:=I _ _ d;obtain⟨az,vz,rfl,C,l⟩:=α.t I.t;rw[γ]at l;obtain⟨y0,U,J⟩:=l.get (i:=0) rfl;refine Y5 (YgL (ci e.1) (by rw[fM];exact jV.of d));rw[HV];refine Y0g (lE C (Y7a U) ?_);refine eN.i (iI.of (G.same I)) J.v Y00 S (YaD (RO.aq n ε) RO.pz.1 RO.pz.2) (μ.up Dd) (λφ H6 hq6 u s6=>?_);have ζ:iG (aqF F a x.2 e) g=eV (Y4R e.1*wq x.2 e.1*Y2):=Ycp S (by rw[jE (f:=aqF F a x.2 e) (Y00).pos S.pos,R];unfold aqF;rw[cV,cV]);have u:H6 φ=Ym [.int (iG (aqF F a x.2 e) g).1,.int (iG (aqF F a x.2 e) g).2]:=u;rw[ζ]at u;exact qH (by show 2<=64;decide) λq7 H7 ρ τ δ=>ν _ H7 (s6.trans δ) (dL.tup τ (bJ.cons Yan (Ydr (fL (δ _ _ u)))))
 ·refine k L Y H2 (Z.free ξ) θ ?_ (Z.trans s2);have β:bJ H2 (((came F a x.2).filter λy=>onE y.1).map λy=>onD (y.1.1.sum,eV (Y4R y.1.1*wq x.2 y.1.1*s0 y.1))) Y:=Paired.toRepL ψ;have e3:((came F a x.2).filter λy=>onE y.1).map (λy=>onD (y.1.1.sum,eV (Y4R y.1.1*wq x.2 y.1.1*s0 y.1)))=(onw F a x.2).map onD:=by
   unfold came onw;rw[List.filter_map,List.map_map,List.map_map];rfl
  rw[e3]at β;exact β
def aHW(F:Ya "spent" "spent" aDz)(T:Ye)(FQ69:Y2t "total" a27 (jO K))(FQ67:Y6b 2 "times" K)(FQ51:Y14 5 "onwards" a12 (sB K)):dO P w K mg base cW 6 f fd a19 (wO K):=by
 refine Y0P aI9;obtain @⟨H,Q,E,t,r,cv,a,F,W,M,Y,N,B,n,fs,ws,iw,x,j,rt,rr,RO,f1,f4,τ,m,κ,Z,C,k⟩:=h;refine Y3 ?_;intro cdv A S s hr _;have few:=RO.few;have J:0<Y*(N*n^M)/\Y*(N*n^M)<2^2500:=by
  refine Y0j (fA C.c0 RO.pz.1);have h1:=Ydq C.c1 RO.z;have h2:1000000000000000*2^1800<2^2500:=Kk;exact aI h1 h2
 obtain⟨ac,vc,rfl,ι,X⟩:=Z;refine Y5D (fV FQ69 (Y7d ["looks","share"] ["looks","share","costs"] [3] (eJ (lU FQ51 Y0H Y0w Y0c)) (Y2R FQ67 (bQ (iA K) (aD 2) Y0H) 1)));refine Y42;refine sB.i rt rr RO f1 f4 τ m κ λD ψ H1 hD μ η O=>Y1h D μ ?_;have δ:bJ H1 ((a.filter onE).map λe=>onD (e.1.sum,eV (Y4R e.1*wq x.2 e.1*Y2))) ψ:=by unfold onw at η;rw[List.map_map]at η;exact η
 have fl0:=List.length_filter_le onE a;refine FM (as:=a.filter onE) (YkB) (λe v=>dL H1 (onD (e.1.sum,eV (Y4R e.1*wq x.2 e.1*Y2))) v) (λe v H'=>Y7G (cS j e.1.sum*(Y4R e.1*wq x.2 e.1*Y2)) v) (λx y H1 H2 s r=>r.flat s Y2u) Oo μ (Paired.ofRepL δ) (λv e H' G re U=>?_) (λL zs H2 hL υ s2 ν=>?_)
 ·obtain⟨d,l⟩:=fY.mp G;have ε:Y3L:=of_decide_eq_true l;obtain⟨b,us,rfl,hb,θ⟩:=pA (re.same U);obtain⟨u,y,rfl,ru,ρ⟩:=DN θ;cases(show u=V.int (e.1.sum:Nat)from ru);refine⟨b,_,rfl,jV.of hb,rfl,λQ' h=>h H' (Y09),λH5 Q' R _ φ=>?_⟩;have I:=C.len e d ε;obtain⟨g,ζ⟩:∃g,j[e.1.sum]?=some g:=Y40 I;obtain⟨vg,α,γ⟩:=X.get ζ;have p:=C.at_ g (aE ζ);refine Y0g (lE ((O.trans U).trans R _ _ ι) (eB α) ?_);refine Y7;refine eN.i ((γ.t ((O.trans U).trans R).t).v) (iI.of (ρ.same R)) p.low (Y00) (mL (Qn.f p.low (p.q.dvd (mO _ (N*n^M)))) J.1 (Y7c J.2) (Y44 (show 1000<=2^10 by decide))) (YaD (show Qn (N*n^M) B (aX F a e.1*wq x.2 e.1*s0 e)from RO.aqs m d 0) RO.pz.1 RO.pz.2) λq6 H6 hq6 ω s6=>φ _ H6 s6 (Y9m);have ο:iG g (eV (Y4R e.1*wq x.2 e.1*Y2))=eV (cS j e.1.sum*(Y4R e.1*wq x.2 e.1*Y2)):=iK (iF p.low Y00) Y00 (by rw[jE p.low.pos (Y00).pos,cV,cV,qF ζ]);rw[ω,ο]
 ·rw[NL]at ν;have r2:=MX (g:=λe:dB=>eV (cS j e.1.sum*(Y4R e.1*wq x.2 e.1*Y2))) ν;have fl:∀f∈(a.filter onE).map (λe=>eV (cS j e.1.sum*(aX F a e.1*wq x.2 e.1*s0 e))),Fn (Y*(N*n^M)) (1000*B) f:=λf ξ=>by
   obtain⟨e,G,rfl⟩:=aN.mp ξ;obtain⟨d,l⟩:=fY.mp G;have h:=(C.qn d (of_decide_eq_true l)).mul (RO.aqs m d 0);exact h.fq
  refine Yc3 υ r2 (xQ fl J.1 (Y7c J.2) (by rw[aA];exact Oo) (aL (dI 1000 RO.b) (show 1000*2^100<=2^690 by decide +kernel))) (λv H3 χ β=>?_);rw[VR (f:=λe:dB=>cS j e.1.sum*(Y4R e.1*wq x.2 e.1*Y2)) λe _=>⟨Y00,cV _⟩]at β;have ef:dA (a.filter onE) (λe:dB=>cS j e.1.sum*(Y4R e.1*wq x.2 e.1*Y2))=gL F a (wq x.2) (cS j):=by
   unfold gL;exact zI λe _ G=>by rw[Classical.not_not.mp (of_decide_eq_false G)];grind
  rw[ef]at β;exact k v H3 ((O.trans s2).trans χ) β
end
section
variable{F W M N B Ns:Nat}{es fs:Yi}
def GS(R:Y1f)(d:Ae):Y7R=(if d=Y02 then 1 else 0)+Y0p (Y8 e.1*Y2*Y1S e.1):=by
 have all:∀n,Yc6 n->Y3O n d=(if d=Y02 then 1 else 0)+Y8c Yep (Y8 e.1*Y2*Y1S e.1):=λn=>by
  induction n with
  | zero=>intro _;rw[List.take_zero,lT,jN];grind
  | succ n ih =>
   intro c;have a:=aC (show n<es.length by exact Oo);rw[iB a,gH,R.at a,ih Oo,oR];grind
 have:=all es.length (Yy)
 rwa [dX]at this
def BV(R:Y1f){d:Ae}(h:d ∉ es.map (·.1)):Y7R=0:=by
 rw[GS R d];obtain⟨l,r,c,j⟩:=R.root;rw[Y3u (h (by rw[q,c,bH,j];exact aY ..))];rw[Yku (λe i=>?_),qO]
 ·grind
 ·by_cases z:Y2=0
  ·rw[z];grind
  ·have:Y1S e.1=0:=by
    unfold iH;rw[Y5W (λf a=>Y3u (h (by rw[<-q];exact R.fwd e i z f a))),iY]
   rw[this];grind
def lkE(es:Yi)(c:Ae):Option dB:=es.find? λe=>Y0U e.1 c
def aE8(nd:(es.map (·.1)).Nodup){e:dB}(he:YaZ e):lkE es e.1=Y6k:=by
 unfold lkE
 induction es with
 | nil=>cases he
 | cons x es ih =>
  rw[bH,List.nodup_cons]at nd;rcases bN.mp he with rfl | he
  ·rw[List.find?_cons_of_pos (by simp)]
  ·have:x.1≠e.1:=λq=>nd.1 (by rw[q];exact Y6L he);rw[List.find?_cons_of_neg (by simpa using this),ih nd.2 he]
def aBH{c:Ae}(h:c ∉ es.map (·.1)):lkE es c=none:=by
 unfold lkE;rw[List.find?_eq_none];intro e a q;exact h (aN.mpr ⟨e,a,by simpa using q⟩)
def xF(F:Nat)(es:Yi)(c:Ae)(j:Nat):Rat:=((lkE es c).map λe=>aX F es c*cS e.2 j).getD 0
def vI(R:Y1f){e:dB}(he:YaZ e)(j:Nat):xF F es e.1 j=Y8 e.1*cS e.2 j:=by unfold xF;rw[aE8 R.nd he];rfl
def qD{c:Ae}(h:c ∉ es.map (·.1))(j:Nat):Y6E=0:=by unfold xF;rw[aBH h];rfl
def SE{α:Type}{l m:Yt}(h:l.Perm m)(f:Y2A):Y3p=dA m f:=by
 induction h with
 | nil=>rfl
 | cons x _ ih=>rw[dC,dC,ih]
 | swap x y l=>rw[dC,dC,dC,dC];grind
 | trans _ _ h1 h2=>exact h1.trans h2
theorem IW{α:Type}[DecidableEq α]{f:Y2A}:∀{l m:Yt},l.Nodup->(∀x∈l,x∈m)->m.Nodup->(∀x∈m,x ∉ l->f x=0)->dA m f=Y3p
 | [],m,_,_,_,h=>by
  rw[cZ (g:=λ_=>0) λx hx=>h x hx (by simp),qO,jN]
 | a::l,m,nd,hs,ndm,h=>by
  rw[List.nodup_cons]at nd;have ha:=hs a (aY ..);rw[SE (List.perm_cons_erase ha),dC,dC];have:dA (m.erase a) f=dA l f:=IW nd.2 (λx hx=>(List.mem_erase_of_ne λq=>nd.1 (by rw[<-q];exact hx)).mpr (hs x (bD _ hx))) (ndm.erase a) λx hx c=>h x (List.mem_of_mem_erase hx) λq=>by
   rcases bN.mp q with rfl | q
   ·exact(List.Nodup.not_mem_erase ndm) hx
   ·exact c q
  rw[this]
def EL(g:Yz):Y0p (g e.1)=dA (es.map (·.1)) g:=by unfold dA;rw[List.map_map];rfl
def AL(R:Y1f){m:Ab}(ndm:m.Nodup)(hs:∀c∈es.map (·.1),Y1T m)(q:Yz)(j:Nat):Y0p (Y8 e.1*cS e.2 j*q e.1)=Y61 m (Y6E*q c):=by
 rw[IW (l:=es.map (·.1)) (f:=λc=>Y6E*q c) R.nd hs ndm λc _ a=>by rw[qD a];grind,<-EL];exact cZ λe d=>by rw[vI R d]
def TU(R:Y1f){g:Yz}(h:∀d,g d=(if d=Y02 then 1 else 0)+Y0p (g e.1*Y2*Y1S e.1)):∀(n:Nat) (d:Ae),d.sum<=n->Y7R=g d:=by
 have step:∀(n:Nat) (d:Ae),(∀e∈es,e.1.sum+1=d.sum->Y8 e.1=g e.1)->Y7R=g d:=λn d hd=>by
  rw[GS R d,h d];congr 1;refine cZ Yc1;by_cases z:d.sum=e.1.sum+1
  ·rw[hd e a z.symm]
  ·rw[CT (YcO a) z];grind
 intro n
 induction n with
 | zero=>intro d hd;exact step 0 d λe _ q=>Oo
 | succ n ih=>intro d hd;exact step (n+1) d λe _ q=>ih e.1 Oo
def mA(F:Nat)(es fs:Yi)(s:Rat)(c:Ae):Rat:=s*Y8 c+(1-s)*aX F fs c
def mX(F:Nat)(es fs:Yi)(s:Rat)(c:Ae)(j:Nat):Rat:=s*Y6E+(1-s)*xF F fs c j
noncomputable def mS (F W:Nat) (es fs:Yi) (s:Rat) (c:Ae):Ak:=(List.range (1+W)).map (YeT (mX F es fs s c j/Y0M))
open Classical in
noncomputable def mB (F:Nat) (es fs:Yi) (s:Rat) (c:Ae):Nat:=if Y2o=0 then 1 else 0
def mR(F:Nat)(es fs:Yi)(s:Rat)(c:Ae):Prop:=Y0M≠0
noncomputable def mE (F W M:Nat) (es fs:Yi) (s:Rat):Yi:=ruG F M (mB F es fs s) (mS F W es fs s)
structure gT(F W M:Nat)(es fs:Yi)(s:Rat):Prop where
 ra:Y1f
 rb:tG F fs
 f1:1<=F
 f4:F<=4
 m5:M<=5
 sa:∀e∈es,LT (1+W) e.2
 sb:∀e∈fs,LT (1+W) e.2
 oa:∀e∈es,e.1.sum<=M/\(Y3L->e.1.sum<M)
 ob:∀e∈fs,e.1.sum<=M/\(Y3L->e.1.sum<M)
 s0':0<=s
 s1:s<=1
def LT.sum1{n:Nat}{gs:Ak}(h:LT n gs):cE n (cS gs)=1:=by
 have:=h.one
 rwa [uH,h.len]at this
def OL(R:Y1f)(hs:∀e∈es,LT (1+W) e.2)(c:Ae)(j:Nat):0<=Y6E:=by
 by_cases h:Y6M (·.1)
 ·obtain⟨e,a,rfl⟩:=Y7j;rw[vI R a];exact bR (R.nnf _) ((hs e a).nn j)
 ·rw[qD h];exact Rat.le_refl
def UZ(R:Y1f)(hs:∀e∈es,LT (1+W) e.2)(c:Ae):cE (1+W) (xF F es c)=Y8 c:=by
 by_cases h:Y6M (·.1)
 ·obtain⟨e,a,rfl⟩:=Y7j;rw[bT (g:=λj=>Y8 e.1*cS e.2 j) λj _=>vI R a j,eM,(hs e a).sum1];grind
 ·rw[Y5W (λj _=>qD h j),iY,BV R h]
end
section
variable{F W M:Nat}{es fs:Yi}{s:Rat}
def gT.ann(I:Y0S)(c:Ae):0<=Y0M:=by
 have a:=bR I.s0' (I.ra.nnf c);have d:=bR (show(0:Rat)<=1-s by have:=I.s1;grind) (I.rb.nnf c);unfold mA;grind
def gT.xnn(I:Y0S)(c:Ae)(j:Nat):0<=mX F es fs s c j:=by
 have a:=bR I.s0' (OL I.ra I.sa c j);have d:=bR (show(0:Rat)<=1-s by have:=I.s1;grind) (OL I.rb I.sb c j);unfold mX;grind
def gT.xsum(I:Y0S)(c:Ae):cE (1+W) (mX F es fs s c)=Y0M:=by
 unfold mX mA;rw[nR,eM,eM,UZ I.ra I.sa,UZ I.rb I.sb]
def gT.keyA(I:Y0S)(hs:s≠0){c:Ae}(h:Y6M (·.1)):Y5H:=by
 obtain⟨e,g,rfl⟩:=Y7j;have d:=I.ra.posf g;have i:=bR (show(0:Rat)<=1-s by have:=I.s1;grind) (I.rb.nnf e.1);have a:0<s:=by have:=I.s0';grind
 have j:=Rat.mul_pos a d;unfold mR mA;grind
def gT.keyB(I:Y0S)(hs:s≠1){c:Ae}(h:Yer c (·.1)):Y5H:=by
 obtain⟨e,g,rfl⟩:=Y7j;have d:=I.rb.posf g;have i:=bR I.s0' (I.ra.nnf e.1);have a:0<1-s:=by have:=I.s1;grind
 have j:=Rat.mul_pos a d;unfold mR mA;grind
def gT.keys(I:Y0S){c:Ae}(h:Y5H):(s≠0/\Y6M (·.1))\/(s≠1/\Yer c (·.1)):=by
 refine YdW (h ?_);unfold mA;have e:s*Y8 c=0:=by
  by_cases z:s=0
  ·rw[z];grind
  ·rw[BV I.ra λa=>q (Y38 z a)];grind
 have d:(1-s)*aX F fs c=0:=by
  by_cases z:s=1
  ·rw[z];grind
  ·rw[BV I.rb λa=>q (Y3x z a)];grind
 rw[e,d];grind
def gT.onA(I:Y0S)(hs:s≠0){e:dB}(he:YaZ e)(h0:Y3L):mB F es fs s e.1=0:=by
 unfold mB;rw[if_neg];have d:=I.ra.posf he;have g:0<Y2:=by have:=I.ra.nn e he;grind
 have c:0<s:=by have:=I.s0';grind
 have i:=Yk0 (Rat.mul_pos d g);have h:=bR (show(0:Rat)<=1-s by have:=I.s1;grind) (OL I.rb I.sb e.1 0);have a:xF F es e.1 0=Y8 e.1*Y2:=vI I.ra he 0;unfold mX;rw[a];grind
def gT.onB(I:Y0S)(hs:s≠1){e:dB}(he:e∈fs)(h0:Y3L):mB F es fs s e.1=0:=by
 unfold mB;rw[if_neg];have d:=I.rb.posf he;have g:0<Y2:=by have:=I.rb.nn e he;grind
 have c:0<1-s:=by have:=I.s1;grind
 have i:=Yk0 (Rat.mul_pos d g);have h:=bR I.s0' (OL I.ra I.sa e.1 0);have a:xF F fs e.1 0=aX F fs e.1*Y2:=vI I.rb he 0;unfold mX;rw[a];grind
def gT.off(I:Y0S){c:Ae}(h:mB F es fs s c=0):(s≠0/\∃e∈es,e.1=c/\s0 e≠0)\/(s≠1/\∃e∈fs,e.1=c/\s0 e≠0):=by
 refine Yd6;have:Y2o=0:=by
  unfold mX;have d:s*xF F es c 0=0:=by
   by_cases z:s=0
   ·rw[z];grind
   ·by_cases hc:Y6M (·.1)
    ·obtain⟨e,a,rfl⟩:=aN.mp hc;have:Y2=0:=cJ λy=>q (.inl (Y0E z e a y));rw[vI I.ra a,show cS e.2 0=s0 e from rfl,this];grind
    ·rw[qD hc];grind
  have g:(1-s)*xF F fs c 0=0:=by
   by_cases z:s=1
   ·rw[z];grind
   ·by_cases hc:Yer c (·.1)
    ·obtain⟨e,a,rfl⟩:=aN.mp hc;have:Y2=0:=cJ λy=>q (.inr (Y0E z e a y));rw[vI I.rb a,show cS e.2 0=s0 e from rfl,this];grind
    ·rw[qD hc];grind
  rw[d,g];grind
 unfold mB at h;rw[if_pos this]at h;cases h
def gT.vS(I:Y0S)(c:Ae){j:Nat}(hj:j<1+W):Y90 c j=mX F es fs s c j/Y0M:=by
 unfold cS mS;rw[aR,aG,bP hj];exact cV _
def gT.mul(I:Y0S){c:Ae}(h:Y5H){j:Nat}(hj:j<1+W):Y0M*Y90 c j=mX F es fs s c j:=by
 rw[I.vS c hj,Rat.div_def];have:Y0M≠0:=h;grind
def gT.tg(I:Y0S)(r:(Y07).length<=400):vH F M (mB F es fs s) (mS F W es fs s) (mR F es fs s) where
 f1:=I.f1
 f4:=I.f4
 m5:=I.m5
 on:=λc h=>by
  rcases I.off h with⟨_,e,a,rfl,d⟩ | ⟨_,e,a,rfl,d⟩
  ·exact(I.oa e a).2 d
  ·exact(I.ob e a).2 d
 r:=r
 hd:=λc l=>by
  refine Y1R (eV (Y2o/Y0M)) ((List.range W).map (YeT (mX F es fs s c (j+1)/Y0M))) ?_
  ·unfold mS;rw[Nat.add_comm,List.range_succ_eq_map,bH,List.map_map];rfl
  ·have D:0<Y0M:=by
    have m:=I.ann c;have p:Y0M≠0:=l;grind
   have B:=I.xnn c 0;have e:Y2o=Y0M*rv (eV (Y2o/Y0M)):=by
    rw[cV,Rat.div_def];grind
   have low:=bO (Y2o/Y0M);have C:=YkE;have O:=lF low.pos;unfold mB;constructor
   ·intro n;rw[if_neg];intro z;rw[z]at e;have w:rv (eV (Y2o/Y0M))=0:=by grind
    have:=iK low SY (by rw[w,oP]);rw[this]at n;exact Y64 n
   ·intro h;split at h
    ·cases h
    ·rename_i hn
     refine YdW (hn ?_);have nn:0<=rv (eV (Y2o/Y0M)):=by
      rw[cV,Rat.div_def];exact bR B (Rat.le_of_lt (Rat.inv_pos.mpr D))
     have G:0<=(eV (Y2o/Y0M)).1:=by
      have:0<=(Y2o/Y0M).num:=Rat.num_nonneg.mpr (by rw[<-cV (Y2o/Y0M)];exact nn);exact this
     have A:(eV (Y2o/Y0M)).1=0:=Oo;rw[A]at C;have:rv (eV (Y2o/Y0M))=0:=by grind
     rw[e,this];grind
 root:=by
  obtain⟨P,L,m,p⟩:=I.ra.root;obtain⟨N,J,u,y⟩:=I.rb.root;by_cases z:s=0
  ·exact I.keyB (by rw[z];decide) (by rw[u,bH,y];exact aY ..)
  ·exact I.keyA z (by rw[m,bH,p];exact aY ..)
 fwd:=λc l d f i=>by
  rcases I.off d with⟨z,e,a,rfl,g⟩ | ⟨z,e,a,rfl,g⟩
  ·exact I.keyA z (I.ra.fwd e a g f i)
  ·exact I.keyB z (I.rb.fwd e a g f i)
end
section
variable{F W M N B Ns Ds:Nat}{es fs:Yi}{s:Rat}
def gT.zero(I:Y0S){c:Ae}(h:¬Y5H)(j:Nat):mX F es fs s c j=0:=by
 unfold mX;have d:s*Y6E=0:=by
  by_cases z:s=0
  ·rw[z];grind
  ·rw[qD (es:=es) λa=>h (I.keyA z a)];grind
 have e:(1-s)*xF F fs c j=0:=by
  by_cases z:s=1
  ·rw[z];grind
  ·rw[qD (es:=fs) λa=>h (I.keyB z a)];grind
 rw[d,e];grind
def gT.s0m(I:Y0S)(c:Ae):s0 (c,Y6t c)=Y2o/Y0M:=I.vS c Oo
def gT.onm(I:Y0S){c:Ae}(h:Y5H):s0 (c,Y6t c)≠0↔mB F es fs s c=0:=by
 have e:=I.mul h (j:=0) Oo;have e:Y0M*s0 (c,Y6t c)=Y2o:=e;have g:Y0M≠0:=h;unfold mB;constructor
 ·intro d;rw[if_neg];intro z;rw[z]at e;exact d (by grind)
 ·intro a z;rw[z]at e;rw[if_pos (by grind)]at a;cases a
def gT.all(I:Y0S)(T:vH F M (mB F es fs s) (mS F W es fs s) (mR F es fs s)):∀(n:Nat) {c:Ae},c.sum<=n->Y5H->Y1T (rE F M (mB F es fs s)):=by
 have step:∀(n:Nat) {c:Ae},(∀d:Ae,d.sum+1=c.sum->mR F es fs s d->d∈rE F M (mB F es fs s))->Y5H->Y1T (rE F M (mB F es fs s)):=λn c i m=>by
  by_cases z:c=Y02
  ·obtain⟨r,w⟩:=Yij M (mB F es fs s);rw[z,w];exact aY ..
  ·rcases I.keys m with⟨g,p⟩ | ⟨g,p⟩
   ·obtain⟨e,a,j,f,l,rfl⟩:=I.ra.bwd c p z;have u:=I.ra.len e a;have hd:=i e.1 (by rw[Y7M]) (I.keyA g (Y6L a));exact xA I.f1 T.on hd (I.onA g a j) l
   ·obtain⟨e,a,j,f,l,rfl⟩:=I.rb.bwd c p z;have u:=I.rb.len e a;have hd:=i e.1 (by rw[Y7M]) (I.keyB g (Y6L a));exact xA I.f1 T.on hd (I.onB g a j) l
 intro n
 induction n with
 | zero=>intro c m h;exact step 0 (λd q=>Oo) h
 | succ n i=>intro c m h;exact step (n+1) (λd q hd=>i Oo hd) h
def yL:(mE F W M es fs s).map (·.1)=rE F M (mB F es fs s):=by unfold mE ruG;rw[List.map_map];exact List.map_id' _
def gT.mem(I:Y0S)(T:vH F M (mB F es fs s) (mS F W es fs s) (mR F es fs s)){c:Ae}:Y1T ((mE F W M es fs s).map (·.1))↔Y5H:=by
 rw[yL];exact⟨T.ruC,I.all T _ (Yy)⟩
def gT.ent(I:Y0S){e:dB}(he:e∈mE F W M es fs s):e=(e.1,Y6t e.1):=by
 obtain⟨c,_,rfl⟩:=aN.mp he
 rfl
def gT.rl(I:Y0S)(T:vH F M (mB F es fs s) (mS F W es fs s) (mR F es fs s)):tG F (mE F W M es fs s) where
 root:=by
  obtain⟨r,n⟩:=Yij M (mB F es fs s);exact Y7B _ _ (by unfold mE ruG;rw[n,bH])
 len:=λe g=>by
  obtain⟨c,a,rfl⟩:=Y8N;exact(AK I.f1 a).1
 nd:=by rw[yL];exact(sF F I.f4 M I.m5).sublist (jF I.f1)
 srt:=by
  unfold mE ruG;rw[List.pairwise_map];exact(pY F M).sublist (jF I.f1)
 fwd:=λe g h f i=>by
  obtain⟨c,a,rfl⟩:=Y8N;rw[yL];exact xA I.f1 T.on a ((I.onm (T.ruC a)).mp h) i
 bwd:=λd hd m=>by
  rw[yL]at hd;obtain⟨c,a,l,j,u,e⟩:=JF I.f1 hd m;exact⟨(c,Y6t c),Y9R c a,(I.onm (T.ruC a)).mpr l,j,u,e⟩
 nn:=λe g=>by
  obtain⟨c,a,rfl⟩:=Y8N;rw[I.s0m,Rat.div_def];have p:0<Y0M:=by
   have w:=I.ann c;have y:Y0M≠0:=T.ruC a;grind
  exact bR (I.xnn c 0) (Rat.le_of_lt (Rat.inv_pos.mpr p))
def gT.flow(I:Y0S)(T:vH F M (mB F es fs s) (mS F W es fs s) (mR F es fs s))(d:Ae):Y1P (mE F W M es fs s)=mA F es fs s d:=by
 refine TU (Yd0) (Y5c) _ d (Yy);have l:(rE F M (mB F es fs s)).Nodup:=(sF F I.f4 M I.m5).sublist (jF I.f1);have m:Y8c (mE F W M es fs s) (mA F es fs s e.1*Y2*Y1S e.1)=Y61 (rE F M (mB F es fs s)) (Y2o*Y4c):=by
  rw[<-yL (W:=W),<-EL (es:=mE F W M es fs s) λc=>Y2o*Y4c];refine cZ λe i=>?_;have u:=(I.mem T).mp (Y6L i);have:=I.mul u (j:=0) Oo;rw[I.ent i];show mA F es fs s e.1*Y90 e.1 0*Y1S e.1=_;rw[this]
 rw[m];have r:Y61 (rE F M (mB F es fs s)) (Y2o*Y4c)=s*Y61 (rE F M (mB F es fs s)) (xF F es c 0*Y4c)+(1-s)*Y61 (rE F M (mB F es fs s)) (xF F fs c 0*Y4c):=by
  rw[<-lW,<-lW,<-kC];exact cZ λc _=>by unfold mX;grind
 rw[r];have n:s*Y61 (rE F M (mB F es fs s)) (xF F es c 0*Y4c)=s*(Y7R-if d=Y02 then 1 else 0):=by
  by_cases z:s=0
  ·rw[z];grind
  ·have h:=AL I.ra l (λc a=>I.all T _ (Yy) (I.keyA z a)) (λc=>Y4c) 0;have g:=GS I.ra d;rw[<-h,g];have:Y0p (Y8 e.1*cS e.2 0*Y1S e.1)=Y0p (Y8 e.1*Y2*Y1S e.1):=rfl;rw[this];grind
 have p:(1-s)*Y61 (rE F M (mB F es fs s)) (xF F fs c 0*Y4c)=(1-s)*(Y1P fs-if d=Y02 then 1 else 0):=by
  by_cases z:s=1
  ·rw[z];grind
  ·have h:=AL I.rb l (λc a=>I.all T _ (Yy) (I.keyB z a)) (λc=>Y4c) 0;have g:=GS I.rb d;rw[<-h,g];have:Y8c fs (aX F fs e.1*cS e.2 0*Y1S e.1)=Y8c fs (aX F fs e.1*Y2*Y1S e.1):=rfl;rw[this];grind
 rw[n,p];unfold mA;grind
def gT.x(I:Y0S)(T:vH F M (mB F es fs s) (mS F W es fs s) (mR F es fs s))(c:Ae){j:Nat}(hj:j<1+W):xF F (mE F W M es fs s) c j=mX F es fs s c j:=by
 by_cases h:Y5H
 ·have g:=(I.mem T).mpr h;obtain⟨e,a,rfl⟩:=Y8N;rw[vI (Yd0) a,I.flow T];have:=I.mul h hj;have d:=I.ent a;rw[show e.2=mS F W es fs s e.1 from congrArg Prod.snd d,this]
 ·rw[qD λq=>h ((I.mem T).mp q),I.zero h]
def WZ{P C:Nat}{x y:Rat}(hx:Qn P C x)(hy:Qn P C y)(hp:0<P)(h0:0<=x)(hxy:x<=y)(hy0:0<y)(hz:C*P<Y0i):rQ 3000 (eV (x/y)):=by
 obtain⟨X,a,g⟩:=hx;obtain⟨Y,d,j⟩:=hy;have c:(0:Rat)<(P:Rat):=by exact_mod_cast hp
 have i:0<Y:=by
  have:(0:Rat)<(Y:Rat):=by rw[<-d];exact Rat.mul_pos hy0 c
  exact_mod_cast this
 have X0:0<=X:=by
  have:(0:Rat)<=(X:Rat):=by rw[<-a];exact Yj7 h0 c
  exact_mod_cast this
 have XY:X<=Y:=by
  have:(X:Rat)<=(Y:Rat):=by rw[<-a,<-d];exact Rat.mul_le_mul_of_nonneg_right hxy (Rat.le_of_lt c)
  exact_mod_cast this
 have f:Fn Y.toNat 1 (eV (x/y)):=by
  refine Qn.fq ⟨X,?_,Oo⟩;have e:((Y.toNat:Nat):Rat)=(Y:Rat):=by
   have:((Y.toNat:Nat):Int)=Y:=Oo;rw[<-sJ,this]
  rw[e,<-a,<-d,Rat.div_def];grind
 obtain⟨h,l⟩:=f.num Oo;exact Y1N Oo
def gT.ru(I:Y0S)(T:vH F M (mB F es fs s) (mS F W es fs s) (mR F es fs s))(RA:Y1n)(RB:pR F W M N B Ns fs)(hs:Qn Ds 1 s)(ds:0<Ds)(few:(Y07).length<=64)(hz:Ds*N*Ns^M<2^1800)(hb:2*B<=2^100):pR F W M (Ds*N) (2*B) Ns (mE F W M es fs s):=by
 have p:Qn Ds 1 (1-s):=by
  obtain⟨X,y,U⟩:=hs;have P:(0:Rat)<(Ds:Rat):=by exact_mod_cast ds
  have X0:0<=X:=by
   have:(0:Rat)<=(X:Rat):=by rw[<-y];exact Yj7 I.s0' P
   exact_mod_cast this
  refine⟨(Ds:Int)-X,?_,Oo⟩;rw[Rat.intCast_sub,sJ,<-y];grind
 have z:∀{es:Yi},Y1n->∀c,Y3H (Y8 c):=λR c=>by
  rename_i es'
  by_cases h:Y1T (es'.map (·.1))
  ·obtain⟨e,a,rfl⟩:=Y7j;exact R.fl e a
  ·rw[BV R.rl h];exact Y7U
 have C:∀{es:Yi},Y1n->∀c j,Y3H Y6E:=λR c j=>by
  rename_i es'
  by_cases h:Y1T (es'.map (·.1))
  ·obtain⟨e,a,rfl⟩:=Y7j;rw[vI R.rl a];exact R.fs e a j
  ·rw[qD h];exact Y7U
 have G:∀c,Qn (Ds*N) (2*B) (Y0M):=λc=>((hs.mul (z RA c)).add (p.mul (z RB c))).le Oo;have A:∀c j,Qn (Ds*N) (2*B) (mX F es fs s c j):=λc j=>((hs.mul (C RA c j)).add (p.mul (C RB c j))).le Oo;have n0:0<Ds*N:=fA ds RA.n0;have nz:2*B*(Ds*N)<Y0i:=by
  have r:Ds*N*1<=Ds*N*Ns^M:=dI _ (Nat.pow_pos RA.s1);rw[Nat.mul_one]at r;have D:=Ydq hb (aI r hz);have S:2^100*2^1800<Y0i:=Kk;exact Oo
 have l:∀e∈mE F W M es fs s,mR F es fs s e.1:=λe a=>(I.mem T).mp (Y6L a);have d:∀c,Y5H->0<Y0M:=λc h=>by
  have r:=I.ann c;have D:Y0M≠0:=h;grind
 refine⟨Yd0,Yc1,Yc1,?_,λe a J=>?_,Yc1,λe a v=>?_,n0,RA.s1,hz,hb,RA.m⟩
 ·obtain⟨c,O,rfl⟩:=Yaz;exact(AK I.f1 O).2
 ·have u:=l e a;rw[show e.2=mS F W es fs s e.1 from congrArg Prod.snd (I.ent a)];have w:∀j,j<1+W->mX F es fs s e.1 j<=mA F es fs s e.1:=λj n=>by
   rw[<-I.xsum e.1];have r:=wK (mX F es fs s e.1) n;have D:0<=Y3X (1+W) (if i=j then 0 else mX F es fs s e.1 i):=uI λi _=>by
    split
    ·exact Rat.le_refl
    ·exact I.xnn _ _
   grind
  refine Y0n (by unfold mS;rw[aA,aV]) (λf L=>?_)
  ·obtain⟨j,n,rfl⟩:=aN.mp L;have n:=cD.mp n;refine⟨Y00,?_,WZ (A _ _) (G _) n0 (I.xnn _ _) (w j n) (d _ u) nz⟩;have:0<=mX F es fs s e.1 j/mA F es fs s e.1:=by
    rw[Rat.div_def];exact bR (I.xnn _ _) (Rat.le_of_lt (Rat.inv_pos.mpr (d _ u)))
   exact Rat.num_nonneg.mpr this
  ·rw[uH,show(mS F W es fs s e.1).length=1+W by unfold mS;rw[aA,aV]];rw[bT (g:=λj=>(mA F es fs s e.1)⁻¹*mX F es fs s e.1 j) λj n=>by rw[I.vS _ n,Rat.div_def];grind,eM,I.xsum];have:=d _ u;grind
 ·unfold mE ruG;rw[aA];exact aL (jF I.f1).length_le few
 ·have:=(I.onm (l e a)).mp (by rw[<-I.ent a];exact J);exact T.on e.1 this
 ·rw[I.flow T];exact G _
 ·rw[I.flow T];by_cases hv:v<1+W
  ·rw[show e.2=mS F W es fs s e.1 from congrArg Prod.snd (I.ent a),I.mul (l e a) hv];exact A _ _
  ·rw[show cS e.2 v=0 from pS (by rw[show e.2=mS F W es fs s e.1 from congrArg Prod.snd (I.ent a)];unfold mS;rw[aA,aV];exact Oo)];rw[show mA F es fs s e.1*0=0 by grind];exact Y7U
end
abbrev aDK:Stmt:=(top 10)
def aJf:Ydg a01 aDK:={}
abbrev aDJ:Stmt:=(top 48)
def ZU:Yg ["rule","share","parts","entry","amount","part"] ["rule","share"] aDJ:={}
inductive tN (K:Aa):Yk
 | i {H:Hp} {Q:VK} {E:XK} {x y:V} {p q:Rat} (h1:iI K H (eV p) x) (h2:iI K H Y2w y) (h3:0<q) (z1:Y8G p) (z2:Y8G q) (k:zY H Q (eV (p/q))):tN K [x,y] H Q E
def aF4{q:Rat}(h:0<q):0<(Y2w).1/\dS ((Y2w).2,(Y2w).1)/\rv ((eV q).2,(eV q).1)=q⁻¹:=by
 have low:=bO q;have c:0<(Y2w).1:=by
  have a:=YkE;rw[cV]at a;have:(0:Rat)<(((eV q).1:Int):Rat):=by rw[<-a];exact Rat.mul_pos h (CS low.pos)
  exact_mod_cast this
 have e:dS ((Y2w).2,(Y2w).1):=⟨c,by show Y0N ((Y2w).2) ((Y2w).1);rw[Int.gcd_comm];exact low.low⟩;refine Y0n c e;have a:=YkE;rw[cV]at a;have d:=pG e.pos;have d:rv ((Y2w).2,(Y2w).1)*(((eV q).1:Int):Rat)=(((eV q).2:Int):Rat):=d;have g:=lF low.pos;have i:=lF c;grind
def rP(H:Hp)(q:Rat)(xs:Y22)(v:V):Prop:=∃b pv L vs,v=Y0e/\H b=Ym [pv,.ref L]/\Y5X H q pv/\H L=Yq vs/\Y1g (xs.map λx=>jA (eV x)) vs
def TR(xs:Y22):kI (xs.map λx=>jA (eV x))=true:=by
 have:=nX (xs.map eV)
 rwa [List.map_map]at this
theorem rP.same{H H':Hp}{q:Rat}{xs:Y22}{v:V}(s:Y1)(h:rP H q xs v):rP H' q xs v:=by
 obtain⟨b,pv,L,a,d,g,c,i,e⟩:=h;exact⟨b,pv,L,a,d,s _ _ g,c.same s,s _ _ i,e.same s⟩
def rP.but{H H':Hp}{p:Addr}{kvs:Yu}{q:Rat}{xs:Y22}{v:V}(s:Y0R)(hp:H p=Y10)(h:rP H q xs v):rP H' q xs v:=by
 obtain⟨b,pv,L,c,e,i,d,a,g⟩:=h;have t:=aU.tT s hp;exact⟨b,pv,L,c,e,t _ _ i,d.flat t (Y2u),s.at (λz=>by rw[z,hp]at a;cases a) a,bJ.flat t (TR _) g⟩
def prX(F:Nat)(es:Yi)(W:Nat)(s:Rat)(e:dB):Y22:=(List.range (1+W)).map λj=>Y8 e.1*s*cS e.2 j
def IF(H:Hp)(F W:Nat)(es ds:Yi)(s:Rat)(kvs:Yu):Prop:=(s=0/\kvs=[])\/(s≠0/\Paired (λ(e:dB) (p:List fQ × V)=>p.1=Y3s e.1/\rP H (Y8 e.1*s) (prX F es W s e) p.2) ds kvs)
def IF.mono{H H':Hp}{F W:Nat}{es ds:Yi}{s:Rat}{kvs:Yu}(f:∀q xs v,rP H q xs v->rP H' q xs v)(h:IF H F W es ds s kvs):IF H' F W es ds s kvs:=by
 rcases h with h | ⟨a,c⟩
 ·exact YcV
 ·exact Y3x a (Paired.imp' (λe p r=>⟨r.1,f _ _ _ r.2⟩) c)
inductive tM (K:Aa):Yk
 | i {H:Hp} {Q:VK} {E:XK} {r sv:V} {es:Yi} {F W M N B Ns Ds:Nat} {s:Rat} (h1:LM K H es r) (h2:Y1n) (h3:1<=F) (h4:F<=4) (h5:AY K H (eV s) sv) (h6:Qn Ds 1 s) (h7:0<Ds) (h8:N*Ds<2^2500) (h9:W<=4) (k:∀d kvs H',H d=none->Y1->H' d=Y10->IF H' F W es es s kvs->Y4Y d):tM K [r,sv] H Q E
theorem AM{R:Y13 dB (Y4C × V)}:∀{ds:Yi}{kvs:Yu},Paired (λ(e:dB) (p:List fQ × V)=>p.1=Y3s e.1/\R e p) ds kvs->kvs.map (·.1)=ds.map λe=>Y3s e.1
 | _,_,.nil=>rfl
 | _,_,.cons r t=>by rw[bH,bH,AM t,r.1]
theorem BX{α β:Type}{R:Yb9 β}:∀{l:Yt}{zs:Yax}{x:α}{v:β},Paired R l zs->R x v->Paired R (l++[x]) (zs++[v])
 | _,_,_,_,.nil,h=>.cons h .nil
 | _,_,_,_,.cons r t,h=>.cons r (BX t h)
def AT(f:Fr):Y5d (jA f):=(DU.tup (n:=1) (λd a=>by
 rcases bN.mp a with rfl | a
 ·exact DU.int _
 ·rw[cA.mp a];exact DU.int _)).ok
def aBR(f g:Fr):PyData.eqv (jA f) (jA g)=Y0U f g:=by
 obtain⟨a,b⟩:=f;obtain⟨c,d⟩:=g;show((a == c)&&((b == d)&&true))=_;rw[Bool.eq_iff_iff];simp
section
def aH8(F:Ya "over" "over" aDK)(T:Ye)(FQ67:Y6b 2 "times" K):dO P w K mg base cW 3 f fd a01 (tN K):=by
 refine F.oky aJf λI H Q E h=>?_;obtain @⟨H,Q,E,x,y,p,q,r,D,l,n,g,k⟩:=h;refine Y3 ?_;intro B A a s R _;obtain⟨N,d,u⟩:=aF4 l;obtain⟨L,rfl,e⟩:=D;refine⟨_,(aH (iM (eC oJ (Y26) aK) (aS OO) fJ)
  (aH (Y4L (eC xC (Y26) aK) (cL FQ67 (aD 0) (dU (Y2x (BH vR (Y26)) (BH vR (Y26))))))
  (Y1k (cL FQ67 (aD 0) (dU (Y2x Y26 Y26)))))),?_⟩
 refine Yo;intro J M;refine Y3I;refine YcS (tZ (bZ (λz=>by injection z with z;exact Oo)) ?_);refine Y3I;refine Y3t _ _ rfl _ rfl (tZ (bZ Oo) ?_);refine Y9d e;refine Y3I;refine qH (by show 2<=64;decide) λO H3 G C j=>eN.i (iI.same j r) (iI.new (f:=((Y2w).2,(Y2w).1)) C) Y00 d n ⟨g.2,g.1⟩ ?_;have m:iG (eV p) ((Y2w).2,(Y2w).1)=eV (p/q):=Ycp d (by rw[jE (Y00).pos d.pos,u,cV,cV,Rat.div_def]);rw[m];exact k.of j
def aH7(F:Ya "parts_of" "parts_of" aDJ)(T:Ye)(FQ19:Y2t "amounts" a44 (mZ K))(FQ67:Y6b 2 "times" K):dO P w K mg base cW 4 f fd ["rule","share"] (tM K):=by
 refine Y0P ZU;obtain @⟨H,Q,E,r,sv,l,F,W,M,N,B,Ns,θ,C,rr,RO,f1,f4,rs,sq,d0,nd,w4,k⟩:=h;refine Y3 ?_;intro cdv A υ s hr _;obtain⟨a,xs,rfl,ξ,lx,χ⟩:=id rr;have few:=RO.few;have nd0:0<N*θ:=fA RO.n0 d0;refine⟨_,(aH (Y1E ZU.nd nM)
  (aH (gM PassesOwn.never rfl (kZ true true rfl T.b_zip (Y1Y 0 (Y5C FQ19))) (Y7m 3 ZU.nd 4 ZU.nd lK) (aH (Y3e 5 ZU.nd (Y2R FQ67 (Y0K 4) 1))
  (aS (iM (eC (aEU K hr.units) (aD 5) (YgB YbE rfl)) (aS (jC hr.u1 (Y0c) (Y0K 3) (dU (Y1Y 5 (Y6Z ["one","part"] [5] (xW (Y0K 3)) (Y1v FQ67 1 0)))))) fJ))))
  (Y2g 2))),?_⟩
 refine Yo;intros;intro p ν;have R:=Y5R [] ν;have η:(upd H p (.dT [])) p=Y0a []:=bK;generalize upd H p (.dT [])=H0 at R η;refine Y01;refine mZ.i (rr.t R.t) RO f1 f4 λam ys H2 s2 μ ly k2=>?_;have I:=R.trans s2;have X:=s2 _ _ η;refine Y1e a am xs ys (I _ _ ξ) μ ?_;have na:a≠p:=λz=>by rw[z,ν]at ξ;cases ξ
 have nam:am≠p:=λz=>by rw[z,X]at μ;cases μ
 refine YfD xs ys (∃(ψ o4 o5:Am) (d:Yu),σ=[Y3i,some sv,Y3j,ψ,o4,o5]/\aU p H2 H'/\Y34=Y0a d/\IF H' F W l (l.take i) C d) (Y1e _ _ _ [] ((Y09).but) X (by by_cases z:C=0;exact YeN z;exact Y3x z .nil)) (λi σ H' ⟨_,_,_,_,_,b',_⟩=>⟨b'.at na (I _ _ ξ),b'.at nam μ⟩) ?_ ?_
 ·rintro i y z q3 σ H3 H4 hy hz ⟨ψ,o4,o5,d,rfl,κ,e3,J⟩ hq3 e4 β;obtain⟨e,Z,re⟩:=χ i y hy;have n:=aE Z;have hi:i<l.length:=(aB.mp Z).1;have t23:=aU.tT κ X;have S:=t23.trans β.t;have α:=I.t.trans S;obtain⟨b,cu,v,rfl,hb,τ,φ⟩:=re.t α;obtain⟨bz,cz,va,ε,δ,_,ρ⟩:=k2 i e Z;rw[hz]at ε;cases ε;have U:H4 p=Y0a d:=β _ _ e3;refine⟨q3,_,rfl,jV.of e4,rfl,_,_,rfl,_,_,rfl,rfl,Yo⟩;intros;refine Y0u (S _ _ δ);refine Y7;have dz:θ<Y0i:=by
   have L:1*θ<=N*θ:=Y2a RO.n0;rw[Nat.one_mul]at L;exact Y8K L nd
  refine eN.i ((ρ.t S).v) ((rs.t α).v) Y00 Y00 (YaD (RO.fl e n) RO.n0 RO.nz) (Ybs sq.fq d0 dz) (λq5 H5 hq5 ο O=>?_);rw[aE4]at ο;have pq:Qn (N*θ) B (Y6O e.1*C):=by have:=(RO.fl e n).mul sq;rwa [Nat.mul_one]at this
  have ω:iI K H5 (0,1) YbE:=Yx c.NOUGHT (wL T.o_NOUGHT);refine Y5 (reK (iI.new ο).k ω.k (AT _) (AT _) ?_);rw[aBR];refine Y7;have fpos:=RO.rl.posf n;by_cases z:C=0
  ·have ez:eV (Y6O e.1*C)=(0,1):=by rw[z,show aX F l e.1*0=0 by grind,CW]
   rw[ez];refine tZ Dd (Y1e _ _ _ d (κ.trans (β.trans O).but) (O _ _ U) ?_);rcases J with⟨_,rfl⟩ | ⟨h,_⟩
   ·exact YeN z
   ·exact absurd z h
  ·have en:¬eV (Y6O e.1*C)=(0,1):=λq=>by
    have L:=congrArg rv q;rw[cV,show rv (0,1)=0 from oP]at L;have:Y6O e.1≠0:=by grind
    rcases Rat.mul_eq_zero.mp L with h | h
    ·exact this h
    ·exact z h
   rw[bZ en];refine CO Dd (Y2i);intros;rcases J with⟨h,_⟩ | ⟨_,J⟩
   ·exact absurd h z
   obtain⟨sa,sx,rfl,ι,G⟩:=φ;have ls:e.2.length=1+W:=(RO.sy e n).len;refine Y8R (O _ _ hb);refine Y37 sa (Ych (O _ _ ι)) (vC (λj y H'=>Y7G (Y6O e.1*C*cS e.2 j) y) (λj y H1 H2 s r=>r.flat s Y2u) (by rw[G.len,ls];exact Oo) (O _ _ ι) (λj x H' Q' hx s' k'=>?_) (λD zs H6 hD e6 s6 γ hr6=>?_))
   ·obtain⟨g,hg,rg⟩:=G.at_ j x hx;obtain⟨lg,_,zg⟩:=(RO.sy e n).at_ g (aE hg);refine Y01;refine eN.i (iI.new (s' _ _ ο)) (((rg.t O.t).t s'.t).v) Y00 lg (YaD pq nd0 nd) (zg.up Dd) (λq7 H7 hq7 e7 Y=>k' _ H7 Y (Y9m));have em:iG (eV (Y6O e.1*C)) g=eV (Y6O e.1*C*cS e.2 j):=Ycp lg (by rw[jE (Y00).pos lg.pos,cV,cV,qF hg]);rw[<-em];exact e7
   ·refine qH (by show 2<=64;decide) λq7 H7 hq7 e7 Y=>?_;have m:=(O.trans s6).trans Y;refine Y8R (m _ _ hb);have lk:Yf8 ((l.take i).length):=J.length.symm;refine Y4v (m _ _ U) e.1 (by rw[fM];exact m _ _ τ) (by rw[lk,gB];exact Oo) Yj8;have keys:=AM J;have new:gD d (Y3s e.1)=none:=by
     cases q:gD d (Y3s e.1)with
     | none=>rfl
     | some u =>
      exfalso;have L:=GF q;rw[keys]at L;obtain⟨e',h2,h3⟩:=aN.mp L;have h4:e'.1=e.1:=Y60 h3;have h5:=RO.rl.nd;rw[<-List.take_append_drop i l,bE]at h5;have h6:e.1∈(l.drop i).map (·.1):=by
       rw[List.drop_eq_getElem_cons hi,bH];have:l[i]=e:=by rw[aC hi]at Z;exact fX Z
       rw[this];exact aY ..
      exact(List.nodup_append.mp h5).2.2 _ (aN.mpr ⟨e',h2,h4⟩) _ h6 rfl
    rw[JH _ new]at e8;refine Y1e _ _ _ _ ((κ.trans (β.trans m).but).trans b8) e8 (.inr (Y0j z));rw[iB Z];have ζ:=m _ _ U;have lst:H7 D=YaR:=Y _ _ e6;have pt:rP H7 (Y6O e.1*C) (prX F l W C e) (.ref q7):=by
     refine⟨q7,_,D,zs,rfl,e7,fL (Y _ _ (s6 _ _ ο)),lst,?_⟩;refine bJ.ofIdx (by unfold prX;rw[γ,aA,aA,aV,G.len,ls]) λj y hj=>?_;have hj':j<1+W:=by
      have:=(aB.mp hj).1;rw[γ,G.len,ls]at this;exact this
     exact Y0C (by unfold prX;rw[aG,aG,bP hj'];rfl) ((hr6 j y hj).same Y)
    exact BX (Paired.imp' (λe p r=>⟨r.1,((r.2.same (β.trans m)).but b8 ζ)⟩) J) (Y3 (pt.but b8 ζ))
 ·rintro σ H3 ⟨ψ,o4,o5,d,rfl,κ,e3,J⟩;refine Y7;rw[show l.take (min xs.length ys.length)=l from List.take_of_length_le Oo]at J;exact k p d H3 ν (aT.thru ν I κ) e3 J
end
abbrev aAX:Stmt:=(top 49)
def aFz:Ydg ["one","other","whole"] aAX:={}
abbrev Po:=Option (Rat × Y22)
def PtO(H:Hp)(o:Po)(v:V):Prop:=match o with
 | none=>v=.non
 | some p=>rP H p.1 p.2 v
def EQ(o:Po):Rat:=(o.map (·.1)).getD 0
def EJ(o:Po)(j:Nat):Rat:=(o.map λp=>p.2.getD j 0).getD 0
structure UO(m P C:Nat)(o:Po):Prop where
 pos:∀p,o=YcW->0<p.1/\Qn P C p.1/\p.2.length=m/\∀x∈p.2,Qn P C x
@[irreducible] def qG(K:Aa)(n:Nat):Sp:=λvs H Q _=>∃(x y:V) (a b:Po) (m P C:Nat),vs=[x,y]/\PtO H a x/\PtO H b y/\1<=n/\(Y7H a\/(2<=n/\Y7H b))/\UO m P C a/\UO m P C b/\0<P/\P<2^2500/\C<=2^190/\m<=5/\Y4k (Y23 H' ((List.range m).map (YeT ((EJ a j+EJ b j)/(EQ a+EQ b)))) v->Y1o)
def JA{K:Aa}{n:Nat}{H:Hp}{Q:VK}{E:XK}{x y:V}{a b:Po}{m P C:Nat}(h1:PtO H a x)(h2:PtO H b y)(h3:1<=n)(h4:Y7H a\/(2<=n/\Y7H b))(h5:UO m P C a)(h6:UO m P C b)(h7:0<P)(h8:P<2^2500)(h9:C<=2^190)(h10:m<=5)(k:Y4k (Y23 H' ((List.range m).map (YeT ((EJ a j+EJ b j)/(EQ a+EQ b)))) v->Y1o)):qG K n [x,y] H Q E:=by
 unfold qG;exact⟨x,y,a,b,m,P,C,rfl,h1,h2,h3,h4,h5,h6,h7,h8,h9,h10,k⟩
def CV{H:Hp}{xs:Y22}{vs:Al}(r:Y1g (xs.map λx=>jA (eV x)) vs){i:Nat}{v:V}(h:vs[i]?=Yn):∃x,Y0s=Yb/\Y5X H x v:=by
 have c:Y1g ((xs.map eV).map jA) vs:=by rw[List.map_map];exact r
 obtain⟨f,a,d⟩:=eW c h;rw[aG]at a;cases hx:Y0s with
 | none=>rw[hx]at a;cases a
 | some x=>rw[hx]at a;cases a;exact Yx x d
section
def aHu(F:Ya "says_of_parts" "says_of_parts" aAX)(T:Ye):dO P w K mg base cW 4 f fd a01 (qG K 0):=by
 refine F.okw aFz (YiW) (λg A d s H e Q E i h=>?_)
 ·unfold qG at h;obtain⟨x,y,a,b,m,P,C,_,_,_,h,_⟩:=h;exact Oo
 ·unfold qG at h;obtain⟨x,y,a,b,m,P,C,_,_,_,h,_⟩:=h;exact Oo
def aHY(n:Nat)(F:Ya "says_of_parts" "says_of_parts" aAX)(T:Ye)(FQ52:Y14 3 "over" a01 (tN K))(FQ55:Y14 2 "plus" a01 (kN K))(FQ62:Y14 (4+n) "says_of_parts" a01 (qG K n)):dO P w K mg base cW (4+n+1) f fd a01 (qG K (n+1)):=by
 refine Y0P aFz;unfold qG at h;obtain⟨x,y,a,b,m,Pn,C,rfl,pa,pb,n1,χ,oa,ob,M,I,τ,m5,k⟩:=h;refine Y3 ?_;intro cdv A ψ s κ _;refine⟨_,(aH (Y4L (Ybc 0) (Ye8 FQ62 Oo (Y1Y 1 Y0H)))
  (aH (Y4L (Ybc 1) (Ydo dM (by rfl) Kk (Y1W (Y6Z ["part","one"] [0] (eJ (Y2C)) (Ye8 FQ52 Oo (Y1Y 0 (Y6s 1)))))))
  (aH (Y3e 2 aFz.nd (Ye8 FQ55 Oo (Y2x Y2C Y26)))
  (Y1k (Ydo dM (by rfl) Kk (Y1W (Y7d ["first","second"] ["first","second","whole"] [2] (kZ false false rfl T.b_zip (Y2x Y2C Y26)) (Ye8 FQ52 Oo (Y2x (Ye8 FQ55 Oo (Y1Y 0 Y0w)) Y0c))))))))),?_⟩
 refine Yo;intros;refine Y5j;cases a with
 | none =>
  have Y:x=.non:=pa;subst Y;refine CO (cR rfl) (Y2i);intros;have hb:2<=n+1/\Y7H b:=χ.resolve_left λq=>q rfl;refine Y01;refine JA pb pa Oo (.inl hb.2) ob oa M I τ m5 λv H' N r'=>k v H' N ?_;have e1:∀j,EJ b j+EJ none j=EJ none j+EJ b j:=λj=>Rat.add_comm _ _;have α:EQ b+EQ none=EQ none+EQ b:=Rat.add_comm _ _;rw[α]at r';simp only[e1]at r';exact r'
 | some pr =>
  obtain⟨g,d⟩:=pr;obtain⟨φ,R,ξ,δ⟩:=oa.pos _ rfl;have ξ:Yf8 m:=ξ;obtain⟨b1,pv1,L1,W,rfl,J,γ,G,S⟩:=(show rP H g d x from pa);refine tZ (bZ (λz=>by cases z)) Y5j;have lv1:W.length=m:=by have:=bJ.len S;rw[aA]at this;exact Oo
  cases b with
  | none =>
   have hy:y=.non:=pb;subst hy;refine CO (cR rfl) (Y2i);intros;refine Y0u J;refine Y1h L1 G (fH (λj y H'=>∃x,d[j]?=Yb/\Y7G (x/g) y) (λj y H1 H2 s ⟨x,h1,h2⟩=>⟨x,h1,h2.flat s (Y2u)⟩) Oo G (λj v H' Q' hv N ω=>?_) (λD Z H1 hD e1 s1 hz hr1=>?_))
   ·obtain⟨x,Y,β⟩:=CV S hv;refine Y8R (N _ _ J);exact tN.i (iI.of (β.same N)) (iI.of (γ.same N)) φ (lA (δ x (aE Y)) M I (Y44 τ)) (lA R M I (Y44 τ)) λp H2 hq2 α s2=>ω _ H2 s2 ⟨x,Y,fL α⟩
   ·refine Y7y D Z e1;have sl:=Y5l Z;refine k _ _ (s1.trans sl) (Yjr bK (by rw[hz,aA,aA,aV];exact Oo) (λj y μ=>?_));obtain⟨x,Y,β⟩:=hr1 j y μ;have U:j<m:=by have:=(aB.mp μ).1;exact Oo
    refine Y0n _ (by rw[aG,aG,bP U];rfl);have α:Ycn (g,d) j=x:=by show Y9v=x;rw[aR,Y];rfl
    show Y5X _ ((Ycn (g,d) j+EJ none j)/(EQ (some (g,d))+EQ none)) y;rw[α,show EJ none j=0 from rfl,show EQ (some (g,d))=g from rfl,show EQ none=0 from rfl,show x+0=x by grind,show g+0=g by grind];exact YkM
  | some pr2 =>
   obtain⟨p,e⟩:=pr2;obtain⟨hq2,η,ζ,nx2⟩:=ob.pos _ rfl;have ζ:e.length=m:=ζ;obtain⟨b2,pv2,Lb,X,rfl,ε,υ,θ,ι⟩:=(show rP H p e y from pb);have lv2:X.length=m:=by have:=bJ.len ι;rw[aA]at this;exact Oo
   have ο:C<=2^200:=Y44 τ;have c3:C+C<=2^200:=by
    have:(2:Nat)^190+2^190<=2^200:=Kk;exact Oo
   refine tZ (bZ (λz=>by cases z)) Y7;refine lE J rfl (Y0u ε);refine kN.i (iI.of γ) (iI.of υ) (Y00) (Y00) (lA R M I ο) (lA η M I ο) λq3 H3 hq3 e3 O=>?_;rw[aAe]at e3;have wq':Qn Pn (C+C) (g+p):=R.add η;have w0:0<g+p:=by grind
   refine Y0u (O _ _ J);refine Y0u (O _ _ ε);refine Y1e L1 Lb W X (O _ _ G) (O _ _ θ) (jU (b1:=false) (b2:=false) (xs:=W) (ys:=X) (λj y H'=>∃r u,d[j]?=some r/\e[j]?=Yl/\Y7G ((r+u)/(g+p)) y) (λj y H1 H2 s ⟨r,u,h1,h2,h3⟩=>⟨r,u,h1,h2,h3.flat s (Y2u)⟩) Oo (O _ _ G) (O _ _ θ) Oo (λj v1 v2 H' Q' hv1 hv2 N ω=>?_) (λD Z H4 hD e4 s4 hz hr4=>?_))
   ·obtain⟨r,L,rx1⟩:=CV S hv1;obtain⟨u,B,rx2⟩:=CV ι hv2;have n1:=δ r (aE L);have n2:=nx2 u (aE B);have ν:=O.trans N;refine Y01;refine kN.i (iI.of (rx1.same ν)) (iI.of (rx2.same ν)) (Y00) (Y00) (lA n1 M I ο) (lA n2 M I ο) λq5 H5 hq5 ρ s5=>?_;rw[aAe]at ρ;refine Y7;exact tN.i (iI.of (fL ρ)) (iI.of (fL ((N.trans s5) _ _ e3))) w0 (lA (n1.add n2) M I c3) (lA wq' M I c3) λq6 H6 hq6 e6 s6=>ω _ H6 (Ykb) ⟨r,u,L,B,fL e6⟩
   ·refine Y7y D Z e4;have sl:=Y5l Z;refine k _ _ ((O.trans s4).trans sl) (Yjr bK (by rw[hz,aA,aA,aV];exact Oo) (λj y μ=>?_));obtain⟨r,u,L,B,β⟩:=hr4 j y μ;have U:j<m:=by have:=(aB.mp μ).1;exact Oo
    refine Y0n _ (by rw[aG,aG,bP U];rfl);show Y5X _ ((Ycn (g,d) j+Ycn (p,e) j)/(EQ (some (g,d))+EQ (some (p,e)))) y;have ρ:Ycn (g,d) j=r:=by show Y9v=r;rw[aR,L];rfl
    have e6:Ycn (p,e) j=u:=by show YeW j=u;rw[aR,B];rfl
    rw[ρ,e6,show EQ (some (g,d))=g from rfl,show EQ (some (p,e))=p from rfl];exact YkM
end
abbrev aDQ:Stmt:=(top 47)
def ZV:Yg ["one","other","share","one_parts","other_parts","table","counts"] a46 aDQ:={}
def aBB{Ds:Nat}{s:Rat}(hs:Qn Ds 1 s)(ds:0<Ds)(h0:0<=s)(h1:s<=1):Qn Ds 1 (1-s):=by
 obtain⟨X,a,d⟩:=hs;have c:(0:Rat)<(Ds:Rat):=by exact_mod_cast ds
 have X0:0<=X:=by
  have:(0:Rat)<=(X:Rat):=by rw[<-a];exact Yj7 h0 c
  exact_mod_cast this
 refine⟨(Ds:Int)-X,?_,Oo⟩;rw[Rat.intCast_sub,sJ,<-a];grind
theorem XE{H:Hp}{F W:Nat}{es:Yi}{s:Rat}:∀{ds:Yi}{kvs:Yu},Paired (λ(e:dB) (p:List fQ × V)=>p.1=Y3s e.1/\rP H (Y8 e.1*s) (prX F es W s e) p.2) ds kvs->(ds.map (·.1)).Nodup->∀e∈ds,∃v,Y5Z e.1=Yn/\rP H (Y8 e.1*s) (prX F es W s e) v
 | _,_,.nil,_,e,he=>by cases he
 | d::ds,p::kvs,.cons r t,nd,e,he=>by
  rw[bH,List.nodup_cons]at nd;rcases bN.mp he with rfl | he
  ·exact⟨p.2,jL (by rw[r.1]),r.2⟩
  ·obtain⟨v,h1,h2⟩:=XE t nd.2 e he;refine⟨v,?_,h2⟩;have:¬p.1=kT (ci e.1):=λz=>nd.1 (by
    rw[r.1]at z;rw[show d.1=e.1 from jZ (jX z)];exact aN.mpr ⟨e,he,rfl⟩)
   rw[jM this];exact h1
def IF.po{H:Hp}{F W M N B Ns Ds:Nat}{es:Yi}{s:Rat}{kvs:Yu}(h:IF H F W es es s kvs)(R:Y1n)(hs:Qn Ds 1 s)(s0':0<=s)(c:Ae) :
  ∃a:Po,PtO H a ((gD kvs (kT (ci c))).getD .non)/\EQ a=s*Y8 c/\(∀j,j<1+W->EJ a j=s*Y6E)/\UO (1+W) (N*Ds) B a/\((s≠0/\Y6M (·.1))->Y7H a):=by
 have d:(¬(s≠0/\Y6M (·.1)))->Y7T=none->∃a:Po,PtO H a ((gD kvs (kT (ci c))).getD .non)/\EQ a=s*Y8 c/\(∀j,j<1+W->EJ a j=s*Y6E)/\UO (1+W) (N*Ds) B a/\((s≠0/\Y6M (·.1))->Y7H a):=λm r=>by
  refine⟨none,by rw[r];rfl,?_,YkG,⟨λp q=>by cases q⟩,YgV q m⟩
  ·by_cases z:s=0
   ·rw[z];show(0:Rat)=_;grind
   ·rw[BV R.rl λg=>m ⟨z,g⟩];show(0:Rat)=_;grind
  ·by_cases z:s=0
   ·rw[z];show(0:Rat)=_;grind
   ·rw[qD λg=>m ⟨z,g⟩];show(0:Rat)=_;grind
 rcases h with⟨z,rfl⟩ | ⟨z,h⟩
 ·exact d (λq=>q.1 z) rfl
 ·by_cases g:Y6M (·.1)
  ·obtain⟨e,i,rfl⟩:=Y8N;obtain⟨v,l,y⟩:=XE h R.rl.nd e i;refine⟨some (Y8 e.1*s,prX F es W s e),by rw[l];exact y,?_,λj A=>?_,⟨λp q=>?_⟩,λ_ q=>by cases q⟩
   ·show Y8 e.1*s=_;grind
   ·show(prX F es W s e).getD j 0=_;unfold prX;rw[aR,aG,bP A,vI R.rl i];show Y8 e.1*s*cS e.2 j=_;grind
   ·cases q;refine⟨Rat.mul_pos (R.rl.posf i) (by grind),?_,by unfold prX;rw[aA,aV],λx w=>?_⟩
    ·have:=(R.fl e i).mul hs;rwa [Nat.mul_one]at this
    ·obtain⟨j,_,rfl⟩:=aN.mp w;have:=(R.fs e i j).mul hs;rw[Nat.mul_one]at this;rw[show aX F es e.1*s*cS e.2 j=aX F es e.1*cS e.2 j*s by grind];exact this
  ·refine d (λq=>g q.2) ?_;cases q:Y7T with
   | none=>rfl
   | some u =>
    exfalso;have l:=GF q;rw[AM h]at l;obtain⟨e,i,n⟩:=aN.mp l;exact g (by rw[<-Y60 n];exact Y6L i)
def aDn{K:Aa}{H:Hp}{gs:Ak}{v:V}(h:Y23 H gs v):EC K H gs v:=by
 obtain⟨c,d,rfl,a,r⟩:=nA h;refine Y0Z c d a ⟨gE r,λi x g=>?_⟩;obtain⟨f,e,j⟩:=eW r g;exact⟨f,e,.inl j⟩
def QF{H:Hp}{kvs:Yu}{ys:Al}{cs:Ab}(h:DR H kvs ys)(e:kvs.map (·.1)=cs.map λc=>Y3s c){i:Nat}{v:V}(hv:Y19=Yn):∃c b,cs[i]?=Y1b/\v=Y0e/\H b=Ym ((ci c).map V.int):=by
 have j:i<kvs.length:=by rw[<-h.1];exact(aB.mp hv).1
 have g:=aC j;obtain⟨b,d,n⟩:=h.2 i _ g;rw[hv]at d;cases d;have a:=congrArg (λl:List (List fQ)=>l[i]?) e;have a:(kvs.map (·.1))[i]?=(cs.map λc=>Y3s c)[i]?:=a;rw[aG,aG,g]at a;cases hc:cs[i]? with
 | none=>rw[hc]at a;cases a
 | some c =>
  rw[hc]at a;have m:kvs[i].1=Y3s c:=fX a;refine Y0E c b rfl ?_;rw[n,m];congr 2;exact CN (ci c)
def ksP(s:Rat)(es:Yi):Ab:=if s=0 then[] else es.map (·.1)
def IF.ks{H:Hp}{F W:Nat}{es:Yi}{s:Rat}{kvs:Yu}(h:IF H F W es es s kvs):kvs.map (·.1)=(ksP s es).map λc=>Y3s c:=by
 unfold ksP;rcases h with⟨z,rfl⟩ | ⟨z,h⟩
 ·rw[if_pos z];rfl
 ·rw[Yhw,AM h,List.map_map];rfl
inductive wQ (K:Aa):Yk
 | i {H:Hp} {Q:VK} {E:XK} {x y sv:V} {es fs:Yi} {F W M N B Ns Ds:Nat} {s:Rat} (h1:LM K H es x) (h2:LM K H fs y) (h3:AY K H (eV s) sv) (h4:Y0S) (h5:Y1n) (h6:pR F W M N B Ns fs) (h7:Qn Ds 1 s) (h8:0<Ds) (h9:N*Ds<2^2500) (h10:W<=4) (h11:(Y07).length<=64) (k:Y4k (LM K H' (mE F W M es fs s) v->Y1o)):wQ K [x,y,sv] H Q E
section
def aIe(F:Ya "mixed" "mixed" aDQ)(T:Ye)(FQ53:Y14 4 "parts_of" ["rule","share"] (tM K))(FQ43:Y14 3 "less" a01 (kE K))(FQ62:Y14 6 "says_of_parts" a01 (qG K 2))(FQ61:Y14 5 "rule_within" a07 (qS K))(FQ60:Y0k "rule_faces" a44 (jT K)):dO P w K mg base cW 7 f fd a46 (wQ K):=by
 refine Y0P ZV;obtain @⟨H,Q,E,x,y,sv,es,fs,F,W,M,N,B,Ns,Ds,l,rx,ry,rs,I,RA,RB,sq,d0,nd,w4,few,k⟩:=h;refine Y3 Yfy;have nd0:0<N*Ds:=fA RA.n0 d0;have dz:Ds<Y0i:=by
  have Z:1*Ds<=N*Ds:=Y2a RA.n0;rw[Nat.one_mul]at Z;exact Y8K Z nd
 have θ:=aBB sq d0 I.s0' I.s1;refine⟨_,(aH (Y1D 3 ZV.nd FQ53 0 Y0c)
  (aH (Y1D 4 ZV.nd FQ53 1 (Y2R FQ43 (Yhn Yed rfl) 2))
  (aH (YhL ZV.nd nM)
  (aH (Y8t (eJ (cC vU (YeH (LA rfl) (by rfl) Kk (Y2L 3)) (YeH (LA rfl) (by rfl) Kk (Y2L 4)))) (Ybl 6 ZV.nd) (jC hr.u1 Y2b (aD 6) (cL FQ62 (OQ hr.u1 (Y0h) (aD 6)) (OQ hr.u1 (Y1j) (aD 6)))))
  (Y1k (Y2R FQ61 (Y5C FQ60) 5)))))),?_⟩
 refine Yo;intros;refine Y01;refine tM.i rx RA I.f1 I.f4 rs sq d0 nd w4 λτ r H1 hd1 s1 e1 S=>Ys;intros;refine Y7;have hoc:iI K H1 (1,1) Yed:=Yx c.ONE (wL T.o_ONE);refine Y7;refine kE.i hoc (rs.t s1.t).v NF (Y00) (Ybs (Fn.one 1) Dd Kk) (Ybs sq.fq d0 dz) λq2 H2 hq2 e2 s2=>?_;have ef0:Y3T (1,1) (eV l)=eV (1-l):=by rw[<-QO,aDi]
 rw[ef0]at e2;refine tM.i (ry.t (s1.trans s2).t) RB I.f1 I.f4 (.inl (fL e2)) θ d0 nd w4 λο n H3 hd3 s3 e3 L=>Ys;intros;have X:=s2.trans s3;have ι:=S.mono (YiX X h);have S3:=s1.trans X;have l1:r.length<=64:=by
  have:=Y8i S.ks;rw[aA,aA]at this;rw[this];unfold ksP;split
  ·exact Y0l
  ·rw[aA];exact RA.few
 have l3:n.length<=64:=by
  have:=Y8i L.ks;rw[aA,aA]at this;rw[this];unfold ksP;split
  ·exact Y0l
  ·rw[aA];exact RB.few
 intro p ε;refine Ys;intros;have δ:=Y5R [] ε;have e4:(upd H3 p (.dT [])) p=Y0a []:=bK;generalize upd H3 p (.dT [])=H4 at δ e4;have κ:H4 τ=Y0a r:=(X.trans δ) _ _ e1;have ω:H4 ο=Y0a n:=δ _ _ e3;refine Y7;refine rlst κ Oo λD5 g H5 hD5 e5 γ s5=>Y7;refine rlst (s5 _ _ ω) Oo λD6 m H6 hD6 e6 k6 s6=>NU (s6 _ _ e5) e6 (by rw[γ.1,k6.1];exact Oo) λD7 H7 ξ e7 s7=>?_;obtain⟨ζ,D⟩:∃ζ,ζ=ksP l es++ksP (1-l) fs:=Y5P _;have d:r.length=(ksP l es).length:=by have:=Y8i S.ks;rwa [aA,aA]at this
 have χ:n.length=(ksP (1-l) fs).length:=by have:=Y8i L.ks;rwa [aA,aA]at this
 have s67:=s6.trans s7;have at_:∀(i:Nat) (v:V),(g++m)[i]?=Yn->∃c b,ζ[i]?=Y1b/\v=Y0e/\H7 b=Ym ((ci c).map V.int):=λi v α=>by
  by_cases hi:i<g.length
  ·rw[cN hi]at α;obtain⟨c,b,Z,υ,h3⟩:=QF γ S.ks α;exact⟨c,b,by rw[D,cN (by rw[<-d,<-γ.1];exact hi)];exact Z,υ,s67 _ _ h3⟩
  ·rw[cF Oo]at α;obtain⟨c,b,Z,υ,h3⟩:=QF k6 L.ks α;refine⟨c,b,?_,υ,s7 _ _ h3⟩;rw[D,cF (by rw[<-d,<-γ.1];exact Oo),<-d,<-γ.1];exact Z
 have lcs:ζ.length=(g++m).length:=by rw[D,aW,aW,γ.1,k6.1,d,χ]
 have lys:(g++m).length<=128:=by rw[aW,γ.1,k6.1];exact Oo
 have S47:=(s5.trans s6).trans s7;have J:H7 p=Y0a []:=S47 _ _ e4;have e7a:H7 τ=Y0a r:=S47 _ _ κ;have e7b:H7 ο=Y0a n:=S47 _ _ ω;have n1:τ≠p:=λz=>by rw[z]at e1;rw[(X _ _ e1)]at ε;cases ε
 have n3:ο≠p:=λz=>by rw[z]at e3;rw[e3]at ε;cases ε
 have nD:D7≠p:=λz=>by rw[z,(s5.trans s6) _ _ e4]at ξ;cases ξ
 have ps7:=ι.mono (YiX (δ.trans S47) h);have ps8:=L.mono (YiX (δ.trans S47) h);have cin:∀c∈ζ,(l≠0/\Y6M (·.1))\/(1-l≠0/\Yer c (·.1)):=λc η=>by
  rw[D]at η;unfold ksP at η;rcases dJ.mp η with h | h
  ·split at h
   ·cases h
   ·rename_i z;exact Y38 z h
  ·split at h
   ·cases h
   ·rename_i z;exact Y3x z h
 refine Y1h D7 e7 (mG (xs:=g++m) (λi σ H'=>∃(o6:Am) (a:Yu),σ=[Yb,Y03,some sv,Y6 τ,Y6 ο,Y3j,o6]/\aU p H7 H'/\Y34=Y0a a/\a.length<=i/\∀c∈ζ.take i,∃v,gD a (Y3s c)=Yn/\EC K H' (mS F W es fs l c) v) ⟨_,[],rfl,(Y09).but,J,Yy,λc η=>by rw[List.take_zero]at η;cases η⟩ (λi σ H' _ ⟨_,_,_,b',_⟩=>YgD nD e7) ?_ ?_)
 ·rintro i v σ H8 α ⟨o6,a,rfl,Y,e8,l8,O⟩;refine Y5b;intros;obtain⟨C,bb,U,rfl,hbb⟩:=at_ i v α;have hi:i<(g++m).length:=(aB.mp α).1;have t78:=aU.tT Y J;have G:=t78 _ _ hbb;have ψ:=Y.at n1 e7a;have φ:=Y.at n3 e7b;obtain⟨pa,pa1,pa2,pa3,pa4,pa5⟩:=(ps7.mono λ_ _ _ h=>rP.but Y J h).po RA sq I.s0' C;obtain⟨pb,pb1,pb2,pb3,pb4,pb5⟩:=(ps8.mono λ_ _ _ h=>rP.but Y J h).po RB θ (by have:=I.s1;grind) C;have hin:=cin C (aE U);refine⟨_,rfl,τ,rfl,Yff r ψ,_,rfl,_,oQ.ct (c:=ci C) ψ G,⟨_,rfl,ο,rfl,Yff n φ,_,rfl,_,oQ.ct (c:=ci C) φ G,?_⟩⟩;refine JA pa1 pb1 Dd (hin.elim (λh=>.inl (pa5 h)) λh=>Y3x Dd (pb5 h)) pa4 pb4 nd0 nd (Y44 RA.b) Oo λv9 H9 β r9=>?_;have em:((List.range (1+W)).map (YeT ((EJ pa j+EJ pb j)/(EQ pa+EQ pb))))=mS F W es fs l C:=by
   unfold mS;refine fN λj hj=>?_;have hj:=cD.mp hj;rw[pa2,pb2,pa3 j hj,pb3 j hj]
   rfl
  rw[em]at r9;refine Y01;refine Y4v (β _ _ e8) C (β _ _ G) Oo (λH10 e10 μ=>?_);have ν:=aU.tT μ (β _ _ e8);refine⟨_,_,rfl,(Y.trans β.but).trans μ,e10,?_,λc' ρ=>?_⟩
  ·have:=Y5f a C v9;exact Oo
  ·rw[iD];by_cases q:c'=C
   ·subst q;rw[Yr];exact Yx v9 ((aDn r9).t ν)
   ·rw[Y1Z (q (Y60 z))];rw[iB U]at ρ;rcases dJ.mp ρ with h | h
    ·obtain⟨u,Z,υ⟩:=O c' h;exact⟨u,Z,(υ.t β.t).t ν⟩
    ·exact Ygq h q
 ·rintro σ H8 ⟨o6,a,rfl,Y,e8,l8,O⟩;rw[<-lcs,dX]at O;have S8:Y2c H8:=aT.thru ((S3).free ε) ((S3.trans δ).trans S47) Y;have T':=Yjl W few;obtain⟨e0,er,ees,ez0⟩:=RA.rl.root;refine Y5 (jT.i (e:=e0) (es:=er) (by rw[<-ees];exact rx.t S8.t) ?_);rw[ez0,bM];refine Y7;refine qS.i (R:=mR F es fs l) (sy:=mS F W es fs l) (Y2s e8 (λC U=>O C ?_)) T' λv9 H9 β r9=>k v9 H9 (S8.trans β) r9;rw[D];unfold ksP;rcases I.keys U with⟨z,h⟩ | ⟨z,h⟩
  ·exact cO _ (by rw[Yhw];exact h)
  ·exact bL _ (by rw[Y3u (z (by grind))];exact h)
end
abbrev aD1:Stmt:=(top 6)
def aFB:Yg ["n","d","divisor"] ["n","d"] aD1:={}
inductive qY:Yk
 | i {H:Hp} {Q:VK} {E:XK} {n d:Int} (h:0<d) (z:d.natAbs<2^9000) (q:zY H Q (Y1C)):qY [Y4G,.int d] H Q E
section
def aIq(F:Ya "fraction" "fraction" aD1)(T:Ye)(FQ24:Y0k "common_divisor" a05 sV):dO P w K mg base cW 2 f fd ["n","d"] qY:=by
 refine F.oky aFB λD H Q E h=>?_;obtain @⟨H,Q,E,n,d,e,z,q⟩:=h;refine Y3 ?_;intro y A a s G _;have r:(d.natAbs:Int)=d:=Oo;have g:=Yej e;have j:=yO (n:=n) e z;refine⟨_,(aH (iM (Y7F oJ 1) (aS OO) fJ)
  (aH (Y1D 2 aFB.nd FQ24 0 (jK ZP (by rfl) T.b_abs Kk (Y2L 1)))
  (aH (BC (iM (Y7F xC 1) (aS (Y1E aFB.nd (BH vR (Y0c)))) fJ))
  (Y1k (dU (Y2x (Y2h gF 0 2) (Y2h gF 1 2))))))),?_⟩
 refine Yo;intro l m;refine Y6Y _ rfl _ rfl (tZ (bZ (λz=>by injection z with z;exact Oo)) ?_);refine Y0g (raI ?_);rw[r];refine sV.i e Ys;intro l m;refine Y43 (λσ H'=>σ=[Yd n,Yd d,Yd (Int.gcd n d:Int)]/\H'=H)
 ·rintro σ H2 ⟨rfl,rfl⟩;refine⟨_,rfl,_,rfl,_,_,rfl,rfl,qB g j,_,rfl,_,rfl,_,_,rfl,rfl,qB g j,?_⟩;exact qH (by show 2<=64;decide) λp H3 u B C=>q p H3 u B C
 ·exact⟨_,rfl,_,_,rfl,rfl,_,rfl,tZ (bZ Oo) Y4D⟩
end
def WF{α:Type}(l:Yt)(f g:Y2A)(s:Rat):YcB (s*f a+(1-s)*g a)=s*Y3p+(1-s)*dA l g:=by
 rw[<-lW,<-lW,<-kC]
def XQ(F:Nat)(es:Yi)(m:Ab)(q:Yz)(j:Nat):Rat:=Y61 m (Y6E*q c)
section
variable{F W M N B Ns L:Nat}{es fs:Yi}{s:Rat}{q:Yz}{cs:Ak}{i:Nat}
def MN(R:Y1f){m:Ab}(nd:m.Nodup)(hs:∀c∈es.map (·.1),Y1T m)(w:Nat):gZ F es q w=XQ F es m q (1+w):=by
 unfold gZ XQ;rw[<-AL R nd hs q (1+w)];exact Y59 (by grind)
def GJ(R:Y1f){m:Ab}(nd:m.Nodup)(hs:∀c∈es.map (·.1),Y1T m):gL F es q (cS cs)=XQ F es m (λc=>Y8B*q c) 0:=by
 unfold gL XQ;rw[<-AL R nd hs (λc=>Y8B*q c) 0];exact Y59 (by show cS cs e.1.sum*(Y8 e.1*q e.1*cS e.2 0)=_;grind)
def aCO(I:Y0S)(T:vH F M (mB F es fs s) (mS F W es fs s) (mR F es fs s)){m:Ab}{j:Nat}(hj:j<1+W):XQ F (mE F W M es fs s) m q j=s*XQ F es m q j+(1-s)*XQ F fs m q j:=by
 unfold XQ;rw[<-WF];exact cZ λc _=>by rw[I.x T c hj];unfold mX;grind
def CA(I:Y0S)(few:(Y07).length<=64)(q:Yz)(cs:Ak):(∀w,w<W->gZ F (mE F W M es fs s) q w=s*gZ F es q w+(1-s)*gZ F fs q w)/\gL F (mE F W M es fs s) q (cS cs)=s*gL F es q (cS cs)+(1-s)*gL F fs q (cS cs):=by
 have T:=Yjl W few;have d:=sF F I.f4 M I.m5;have h:∀c∈es.map (·.1),Y3d c:=λc a=>by
  obtain⟨e,g,rfl⟩:=Yaz;exact(gA I.f1).mpr ⟨I.ra.len e g,(I.oa e g).1⟩
 have j:∀c∈fs.map (·.1),Y3d c:=λc a=>by
  obtain⟨e,g,rfl⟩:=Yaz;exact(gA I.f1).mpr ⟨I.rb.len e g,(I.ob e g).1⟩
 have i:∀c∈(mE F W M es fs s).map (·.1),Y3d c:=λc a=>by rw[yL]at a;exact(jF I.f1).subset a
 exact⟨λw l=>by rw[MN (Yd0) d i,MN I.ra d h,MN I.rb d j,aCO I T Oo],by rw[GJ (Yd0) d i,GJ I.ra d h,GJ I.rb d j,aCO I T Oo]⟩
def JM(I:Y0S)(few:(Y07).length<=64)(q:Nat->Yz)(mix:Yv)(cs:Ak):gC F W (mE F W M es fs s) q mix (cS cs)=s*Y6S F W q (cS cs)+(1-s)*gC F W fs q mix (cS cs):=by
 unfold gC;rw[<-eM,<-eM,<-nR];exact bT λw a=>by rw[(CA I few (q w) cs).2];grind
def pR.any(R:Y1n):sT F W M es:=⟨R.rl,R.sum,R.on,λe a=>⟨(R.sy e a).nn,(R.sy e a).rest⟩⟩
end
def pR.up{F W M N B Ns D C:Nat}{es:Yi}(R:Y1n)(d0:0<D)(hC:B<=C)(hz:D*N*Ns^M<2^1800)(hc:C<=2^100):pR F W M (D*N) C Ns es :=
 ⟨R.rl,R.sum,R.sy,R.few,R.on,λe a=>((R.fl e a).dvd ⟨D,Nat.mul_comm ..⟩).le hC,λe a v=>((R.fs e a v).dvd ⟨D,Nat.mul_comm ..⟩).le hC,fA d0 R.n0,R.s1,hz,hc,R.m⟩
def pR.mx{F W M N B Ns:Nat}{es fs:Yi}{s:Rat}(A:Y1n)(A':pR F W M N B Ns fs)(f1:1<=F)(f4:F<=4)(m5:M<=5)(h0:0<=s)(h1:s<=1):Y0S :=
 ⟨A.rl,A'.rl,f1,f4,m5,A.sy,A'.sy,λe a=>⟨A.sum e a,A.on e a⟩,λe a=>⟨A'.sum e a,A'.on e a⟩,h0,h1⟩
def aGt{W b:Nat}(hb:b<=W):LT (1+W) (zT W b):=by
 have l:(zT W b).length=1+W:=by unfold zT;rw[aA,aV]
 refine Y0n l (λf c=>?_)
 ·unfold zT at c;obtain⟨k,_,rfl⟩:=aN.mp c;have:1<Y0i:=Yir;split
  ·exact⟨NF,Dd,this,this⟩
  ·exact⟨SY,Dd,Y9N,this⟩
 ·rw[uH,l,bT (g:=λk=>if k=b then 1 else 0) λk a=>sI a,BN (v:=b) Oo λk _ a=>YeE,Yr]
def aGu{F W M Ns:Nat}{best:Y0r}(hF:1<=F)(f4:F<=4)(m5:M<=5)(on:∀c,Y0o=0->Y1z)(bw:∀c∈rise F M,Y0o<=W)(few:(Y07).length<=20)(s1:0<Ns)(hz:Ns^M<2^1800):pR F W M 1 (5^20) Ns Y2l:=by
 have A:=GR (W:=W) hF f4 m5 on bw;have g:∀e∈rul F W M best,LT (1+W) e.2:=λe a=>by
  obtain⟨c,i,rfl⟩:=Yaz;exact aGt (bw c ((jF hF).subset i))
 have h:∀e∈rul F W M best,∀v,Qn 1 1 (cS e.2 v):=λe a v=>by
  obtain⟨c,i,rfl⟩:=Yaz;show Qn 1 1 (cS (Y5t) v);by_cases hv:v<1+W
  ·rw[sI hv];split
   ·exact Qn.one' 1
   ·exact Y7U
  ·rw[pS (by have:=(g _ a).len;show(Y5t).length<=v;unfold zT;rw[aA,aV];exact Oo)];exact Y7U
 have l:(Y2l).length<=20:=by
  unfold rul;rw[aA];exact aL (jF hF).length_le few
 have j:∀d,Qn 1 (5^20) (Y1P Y2l):=λd=>by
  have:=A.rl.qn (N:=1) (λe a=>h e a 0) f4 _ (Yy) d;rw[dX,Nat.one_pow]at this;exact this.le (Y4q l)
 refine⟨A.rl,A.hM,g,Oo,A.on,λe a=>j e.1,λe a v=>?_,Dd,s1,by rw[Nat.one_mul];exact hz,Kk,Oo⟩;have:=(j e.1).mul (h e a v)
 rwa [Nat.mul_one,Nat.mul_one]at this
abbrev aDy:Stmt:=(top 81)
def LF:Yg ["faces","weighing","master","rule","share","row","thing","other"] a32 aDy:={}
def DZ(ts:Y0t)(j:Nat):Bool:=(ts[j]?.map λt=>decide (t.word=Str.ofString "rule")).getD false
def wsum(W:Nat)(b:Y0)(R:Md.fD)(ts:Y0t)(i:Nat)(g:Yv):Rat:=YcZ i (if DZ ts j=true then((Md.rho (W+1) b R j 0:Int):Rat)*g j else 0)
abbrev DB(W U:Nat):Nat:=(W+1)*RB W U
structure LQ(F W M U Ns:Nat):Prop where
 few:(Y07).length<=20
 s1:0<Ns
 nz:DB W U^(W+1)*Ns^M<2^1800
structure MrQ(F W M U Ns:Nat)(ss:Aj)(mix cs:Ak)(us:Ae)(cu:Nat)(b:Y0)(B R:Md.fD)(ts:Y0t)(i:Nat)(es:Yi)(N:Nat):Prop where
 ru:pR F W M N (2^i*5^20) Ns es
 n:N<=DB W U^i
 cost:(cu:Rat)*(wsum W b R ts i (λ_=>1)*gC F W es (hZ ss) Y4t (cS cs))=wsum W b R ts i (λj=>(((ts[j]?.map (·.cost)).getD 0:Int):Rat))
 said:∀(w u:Nat),us[w]?=Yl->(u:Rat)*(wsum W b R ts i (λ_=>1)*(1-Y5y F es w w))=wsum W b R ts i (λj=>((B j w:Int):Rat))
def aCy(K:Aa)(H:Hp)(F W M U Ns:Nat)(ss:Aj)(mix cs:Ak)(us:Ae)(cu:Nat)(b:Y0)(B R:Md.fD)(ts:Y0t)(i:Nat)(v:V):Prop:=∃es N,LM K H es v/\MrQ F W M U Ns ss mix cs us cu b B R ts i es N
def zQ(W:Nat)(b:Y0)(R:Md.fD)(ts:Y0t)(i:Nat):Int:=Md.dY i λj=>if DZ ts j=true then Md.rho (W+1) b R j 0 else 0
section
variable{F W M:Nat}{ss:Aj}{mix ps cs:Ak}{Ns Nm Np Nc BB Nr:Nat}{us:Ae}{cu X U e i:Nat}{b:Y0}{H:Hp}{B R:Md.fD}{p:Int}{ts:Y0t}
def mT(g:Yv):wsum W b R ts (i+1) g=wsum W b R ts i g+if Y6F=true then((Md.rho (W+1) b R i 0:Int):Rat)*g i else 0:=dQ _ _
def tP(i:Nat):((zQ W b R ts i:Int):Rat)=wsum W b R ts i (λ_=>1):=by
 unfold zQ wsum;rw[Md.rK];refine bT YkG;split
 ·rw[Rat.mul_one]
 ·rfl
theorem WM(hr:∀j,j<W+1->0<=Md.rho (W+1) b R j 0):∀{i:Nat},i<=W+1->0<=zQ W b R ts i
 | 0,_=>Int.le_refl 0
 | i+1,h=>by
  have h1:=WM hr (i:=i) Oo;have a:=hr i Oo;show 0<=zQ W b R ts i+if DZ ts i=true then Md.rho (W+1) b R i 0 else 0
  split <;> exact Oo
theorem xV(hr:∀j,j<W+1->0<=Md.rho (W+1) b R j 0)(g:Yv):∀{i:Nat},i<=W+1->zQ W b R ts i=0->wsum W b R ts i g=0
 | 0,_,_=>rfl
 | i+1,h,z=>by
  have h1:=WM (ts:=ts) hr (i:=i) Oo;have a:=hr i Oo;have z:zQ W b R ts i+(if DZ ts i=true then Md.rho (W+1) b R i 0 else 0)=0:=z;rw[mT];by_cases hi:DZ ts i=true
  ·rw[if_pos hi]at z ⊢;rw[xV hr g Oo Oo,show Md.rho (W+1) b R i 0=0 by exact Oo];show 0+0*g i=0;grind
  ·rw[if_neg hi]at z ⊢;rw[xV hr g Oo Oo];grind
def OA(u1:1<=U):1<=DB W U:=fA (YdM) (fA (YdM) (fA (Yjk (Md.AU _) u1) u1))
def LQ.sz(mz:LQ F W M U Nr)(u1:1<=U){N:Nat}(hi:i<=W+1)(hN:N<=DB W U^i):N*Nr^M<2^1800 :=
 aI (Y2a (aL hN (aJ (OA u1) hi))) mz.nz
def aCm(hi:i<=5):2^i*5^20<=2^100:=Y3h (Y2a (aJ (n:=2) Dd hi))
def aG1:DB W U<=ZB W U X:=dI _ (Y9I Y9N)
def aDm(Z:zX F W M ss mix ps cs Ns Nm Np Nc BB us cu X U e b)(S:iT H F W M ss mix cs us cu b B R p ts)(hi:i<=W+1):(zQ W b R ts i).natAbs<=DB W U:=by
 refine aL (Md.tL (C:=RB W U) λj a=>?_) (Y2a hi);split
 ·exact S.rho Z Oo Oo
 ·exact Y0l
def aGs{best:Y0r}(I:UN F W M ss mix ps cs Ns Nm Np Nc BB us cu X)(on:∀c,Y0o=0->Y1z):vH F M best (λc=>Y5t) (· ∈ rise F M):=by
 refine⟨I.wo.f1,I.wo.f4,I.wo.m5,on,I.r4,λc _=>?_,(gA I.wo.f1).mpr ⟨bM,by simp⟩,λc a h f e=>?_⟩
 ·unfold zT;rw[show 1+W=W+1 by exact Oo,List.range_succ_eq_map,bH];refine Y8d _ _ ?_;by_cases z:Y0o=0
  ·rw[if_pos z.symm];exact YhR (λ_=>z) Dd
  ·rw[Y3u (z q.symm)];exact⟨λq=>Y64 q,YgV q z⟩
 ·obtain⟨d,g⟩:=(gA I.wo.f1).mp a;have:=on c h;exact(gA I.wo.f1).mpr ⟨by rw[rL];exact d,by rw[Y7M];exact Oo⟩
def MrQ.skip(Z:zX F W M ss mix ps cs Ns Nm Np Nc BB us cu X U e b)(mz:LQ F W M U Nr){es:Yi}{N:Nat}(h:MrQ F W M U Nr ss mix cs us cu b B R ts i es N)(hi:i<W+1)(z:Y6F=true->Md.rho (W+1) b R i 0=0):MrQ F W M U Nr ss mix cs us cu b B R ts (i+1) es N:=by
 have w:∀g,wsum W b R ts (i+1) g=wsum W b R ts i g:=λg=>by
  rw[mT];by_cases q:Y6F=true
  ·rw[Y4y,z q];show _+0*g i=_;grind
  ·rw[Y2f];grind
 have w4:=Z.sl.wo.w4;have a:N<=DB W U^(i+1):=aL h.n (aJ (OA Z.u1) Oo);refine⟨?_,a,by rw[w,w];exact h.cost,λv u c=>by rw[w,w];exact h.said v u c⟩;have:=h.ru.up (D:=1) (C:=2^(i+1)*5^20) Dd (Y2a (Y4q Oo)) (by rw[Nat.one_mul];exact mz.sz Z.u1 Oo a) (aCm Oo)
 rwa [Nat.one_mul]at this
def JJ(Z:zX F W M ss mix ps cs Ns Nm Np Nc BB us cu X U e b)(mz:LQ F W M U Nr){best:Y0r}{a:Y0}{k:Int}(f:OF F W M ss mix cs us cu best a k):pR F W M 1 (5^20) Nr (Y2l) :=
 aGu Z.sl.wo.f1 Z.sl.wo.f4 Z.sl.wo.m5 f.on f.bw mz.few mz.s1 (by have:=mz.sz (i:=0) (N:=1) Z.u1 (Y0l) (Yy);rwa [Nat.one_mul]at this)
def MrQ.first(Z:zX F W M ss mix ps cs Ns Nm Np Nc BB us cu X U e b)(mz:LQ F W M U Nr)(hr:∀j,j<W+1->0<=Md.rho (W+1) b R j 0){best:Y0r}{t:oH}(ht:ts[i]?=Y7o)(f:OF F W M ss mix cs us cu best (B i) t.cost)(hi:i<W+1)(is:Y6F=true)(z:zQ W b R ts i=0):MrQ F W M U Nr ss mix cs us cu b B R ts (i+1) (Y2l) 1:=by
 have w:∀g,wsum W b R ts (i+1) g=((Md.rho (W+1) b R i 0:Int):Rat)*g i:=λg=>by rw[mT,Yem,xV hr g Oo z];grind
 have w4:=Z.sl.wo.w4;have a:1<=DB W U^(i+1):=Nat.pow_pos (OA Z.u1);refine⟨?_,a,?_,λv u c=>?_⟩
 ·have:=(JJ Z mz f).up (D:=1) (C:=2^(i+1)*5^20) Dd (Y9I Y9N) (by rw[Nat.mul_one];exact mz.sz Z.u1 Oo a) (aCm Oo)
  rwa [Nat.one_mul]at this
 ·rw[w,w,ht];show _=_*((t.cost:Int):Rat);rw[f.cost];grind
 ·rw[w,w,f.col v u c];grind
def MrQ.more(Z:zX F W M ss mix ps cs Ns Nm Np Nc BB us cu X U e b)(mz:LQ F W M U Nr){es:Yi}{N:Nat}(h:MrQ F W M U Nr ss mix cs us cu b B R ts i es N){best:Y0r}{t:oH}(ht:ts[i]?=Y7o)(f:OF F W M ss mix cs us cu best (B i) t.cost)(hi:i<W+1)(is:Y6F=true){r S:Int}{s:Rat}(er:Md.rho (W+1) b R i 0=r)(eS:zQ W b R ts i=S)(r0:0<r)(S0:0<S)(hD:S+r<=(DB W U:Nat))(hs:s=(r:Rat)/((S+r:Int):Rat)) :
  gT F W M (Y2l) es s/\pR F W M N (2^i*5^20) Nr (Y2l)/\Qn (S+r).toNat 1 s/\N*(S+r).toNat<2^2500/\MrQ F W M U Nr ss mix cs us cu b B R ts (i+1) (mE F W M (Y2l) es s) ((S+r).toNat*N):=by
 have w4:=Z.sl.wo.w4;have g:(0:Rat)<((S+r:Int):Rat):=by exact_mod_cast(by exact Oo:0<S+r)
 have p:(0:Rat)<(r:Rat):=by exact_mod_cast r0
 have S0':(0:Rat)<(S:Rat):=by exact_mod_cast S0
 have a:s*((S+r:Int):Rat)=(r:Rat):=by rw[hs,Rat.div_mul_cancel (Rat.ne_of_gt g)]
 have l:((S+r:Int):Rat)=(S:Rat)+(r:Rat):=Rat.intCast_add ..;have s0:0<=s:=Yi6 ((S+r:Int):Rat) (by rw[a,Rat.zero_mul];exact Rat.le_of_lt p);have s1:s<=1:=Yi6 ((S+r:Int):Rat) (by rw[a,Rat.one_mul,l];grind);have w:(S+r).toNat*N<=DB W U^(i+1):=by
  rw[Nat.pow_succ,Nat.mul_comm];exact Nat.mul_le_mul h.n Oo
 have A:=mz.sz Z.u1 (i:=i+1) Oo w;have few:(Y07).length<=64:=Y3h mz.few;have RP:pR F W M N (2^i*5^20) Nr (Y2l):=by
  have:=(JJ Z mz f).up (D:=N) (C:=2^i*5^20) h.ru.n0 (Y9I Y9N) (by rw[Nat.mul_one];exact mz.sz Z.u1 Oo h.n) (aCm Oo)
  rwa [Nat.mul_one]at this
 have I:gT F W M (Y2l) es s:=RP.mx h.ru Z.sl.wo.f1 Z.sl.wo.f4 Z.sl.wo.m5 s0 s1;have z:Qn (S+r).toNat 1 s:=by
  refine⟨r,?_,Oo⟩;rw[<-a];congr 1;rw[<-Rat.intCast_natCast];congr 1;exact Oo
 have J:0<(S+r).toNat:=Oo;refine⟨I,RP,z,?_,?_,w,?_,λv u m=>?_⟩
 ·refine Y8K ?_ A;rw[Nat.mul_comm];exact Yfv (Nat.pow_pos mz.s1)
 ·have:=I.ru (Yjl W few) RP h.ru z J few A (by have:=aCm (i:=i+1) Oo;rw[Nat.pow_succ,Nat.mul_comm (2^i) 2,Nat.mul_assoc]at this;exact this);rw[Nat.pow_succ,Nat.mul_comm (2^i) 2,Nat.mul_assoc];exact this
 ·have d:=h.cost;rw[<-tP,eS]at d;rw[mT,mT,Yem,Yem,er,<-tP,eS,JM I few,<-d,ht];show _=_+_*((t.cost:Int):Rat);rw[f.cost];have j:((S:Rat)+(r:Rat))*s=(r:Rat):=by rw[<-l,Rat.mul_comm];exact a
  generalize gC F W (rul F W M best) (hZ ss) (cS mix) (cS cs)=x at *;generalize gC F W es (hZ ss) (cS mix) (cS cs)=y at *;have:((S:Rat)+(r:Rat)*1)*(s*x+(1-s)*y)=(((S:Rat)+(r:Rat))*s)*x+((S:Rat)+(r:Rat))*y-(((S:Rat)+(r:Rat))*s)*y:=by grind
  rw[this,j];grind
 ·have d:=h.said v u m;have G:v<W:=by have:=(aB.mp m).1;rw[Z.sl.ul]at this;exact this
  rw[<-tP,eS]at d;rw[mT,mT,Yem,Yem,er,<-tP,eS,(CA I few (hZ ss v) cs).1 v G,<-d,f.col v u m];have j:((S:Rat)+(r:Rat))*s=(r:Rat):=by rw[<-l,Rat.mul_comm];exact a
  generalize gZ F (rul F W M best) (hZ ss v) v=x at *;generalize gZ F es (hZ ss v) v=y at *;have:((S:Rat)+(r:Rat)*1)*(1-(s*x+(1-s)*y))=((S:Rat)+(r:Rat))-(((S:Rat)+(r:Rat))*s)*x-((S:Rat)+(r:Rat))*y+(((S:Rat)+(r:Rat))*s)*y:=by grind
  rw[this,j];grind
end
inductive wN (K:Aa) (G A:Addr):Yk
 | i {H:Hp} {Q:VK} {E:XK} {x m sa:Addr} {F W M:Nat} {ss:Aj} {mix ps cs:Ak} {Ns Nm Np Nc BB:Nat} {us:Ae} {cu X U e:Nat} {b:Y0} {B R:Md.fD} {p:Int} {uv:Al} {ts:Y0t} {Nr:Nat} (h1:zW H x G F W M ss mix cs us cu) (h2:uD H A m sa (W+1) b R p uv) (h3:lI H uv ts) (h4:zX F W M ss mix ps cs Ns Nm Np Nc BB us cu X U e b) (h5:iT H F W M ss mix cs us cu b B R p ts) (h6:LQ F W M U Nr) (h7:0<wsum W b R ts (W+1) (λ_=>1)) (k:Y4k (aCy K H' F W M U Nr ss mix cs us cu b B R ts (W+1) v->Y1o)):wN K G A [.int (F:Int),Y1H,YcY] H Q E
section
def aHV(F:Ya "standing_mixed" "standing_mixed" aDy)(T:Ye)(FQ61:Y14 5 "rule_within" a07 (qS K))(FQ54:Y0k "plain_table" a09 (uO K c.Weighing))(FQ46:Y14 7 "mixed" a46 (wQ K))(FQ34:Y2B "fraction" ["n","d"] qY):dO P w K mg base cW 8 f fd a32 (wN K c.Weighing c.Master):=by
 refine Y0P LF;obtain @⟨H,Q,E,x,m,sa,F,W,M,φ,J,ps,τ,Ns,Nm,Np,Nc,BB,ρ,μ,X,U,e,b,B,R,p,uv,C,Nr,wg,β,th,Z,st,υ,pos,q⟩:=h;refine Y3 ?_;intro cdv A ω s hr _;have w4:=Z.sl.wo.w4;have O:=T.w_Master;refine⟨_,(aH (Y15 LF.nd jW)
  (aH (Y39 LF.nd aK)
  (aH (gM PassesOwn.never rfl (kZ false false rfl T.b_zip (Y2x (dP K (aD 2)) (dP K (aD 2)))) (Y7m 5 LF.nd 6 LF.nd lK) (aS (iM (IL (BA (eC oJ (Y0K 6) (YgN "rule")) (wH (eC BZ (Y0K 5) aK)))) (aH (Y1D 7 LF.nd FQ61 0 (cL FQ54 (aD 1) (Y0K 6)))
  (aH (Y39 LF.nd (cC fO (aD 4) (Y0K 5)))
  (aS (Y15 LF.nd (nK (Ybc 3) (aD 7) (lU FQ46 (aD 7) (Y0h) (Y2R FQ34 (Y0K 5) 4))))))) fJ)))
  (Y2g 3)))),?_⟩
 refine Yo;intros;obtain⟨dx,ra,γ,LL⟩:=β.ex;obtain⟨las,η,ll,atr⟩:=LL;have ε:∀j,j<W+1->0<=Md.rho (W+1) b R j 0:=λj hj=>st.mst.share hj;refine Y1B (by simp) γ (uY ra sa p);refine Y1B (by simp) γ (tX ra sa p);refine Y1e ra sa _ _ η β.st (YfD YjC uv (Ex4 λ(v:V) (o5 o6 δ:Am)=>An3 (σ=[Yd (F:Int),Y7N,Y6 m,Yn,Yd (zQ W b R C i),o5,o6,δ]) Y1 ((zQ W b R C i=0/\v=.non)\/(0<zQ W b R C i/\aCy K H' F W M U Nr φ J τ ρ μ b B R C i v))) ⟨_,_,_,_,rfl,Y09,.inl Y4D⟩ (λi σ H' ⟨_,_,_,_,_,s',_⟩=>⟨s' _ _ η,s' _ _ β.st⟩) ?_ ?_)
 ·rintro i y u pq σ H1 H2 hy hu ⟨v,o5,o6,δ,rfl,χ,ι⟩ hpq e2 s2;have θ:i<W+1:=by have:=(YhA).1;rw[β.len]at this;exact this
  rw[aG]at hy;obtain⟨l,hl,rfl⟩:=eL.mp hy;have el:=atr i l _ hl (yG θ);obtain⟨t,ξ,a,rfl,ha⟩:=th.get hu;have S2:=χ.trans s2;have sS:zQ W b R C (i+1)=zQ W b R C i+if DZ C i=true then Md.rho (W+1) b R i 0 else 0:=rfl
  have ζ:(zQ W b R C i=0/\v=.non)\/(0<zQ W b R C i/\aCy K H2 F W M U Nr φ J τ ρ μ b B R C i v):=by
   rcases ι with g | ⟨L,κ,N,yy,α⟩
   ·exact .inl g
   ·exact .inr ⟨L,κ,N,yy.t s2.t,α⟩
  have skip:(DZ C i=true->Md.rho (W+1) b R i 0=0)->zQ W b R C (i+1)=zQ W b R C i/\((zQ W b R C (i+1)=0/\v=.non)\/(0<zQ W b R C (i+1)/\aCy K H2 F W M U Nr φ J τ ρ μ b B R C (i+1) v)):=λz=>by
   have e:zQ W b R C (i+1)=zQ W b R C i:=by
    rw[sS];by_cases q:DZ C i=true
    ·rw[Y4y,z q];exact Oo
    ·rw[Y2f];exact Oo
   refine Y0j e;rw[e];rcases ζ with g | ⟨L,κ,N,yy,α⟩
   ·exact .inl g
   ·exact .inr ⟨L,κ,N,yy,α.skip Z υ θ z⟩
  have G:DZ C i=Yad "rule":=by unfold DZ;rw[ξ];rfl
  refine⟨pq,_,rfl,jV.of e2,rfl,_,_,rfl,_,_,rfl,rfl,Y2i⟩;intros;refine Y0u (Y1V ha);refine YcS ?_;rw[uA];by_cases hw:Yhr "rule"
  ·rw[cR hw]at G ⊢;refine pO (Y5 (xU (Y1V el) (v:=.int (Md.rho (W+1) b R i 0)) (Y7a (iC Oo)) ?_));refine Y85 _ _ _;have nn:=ε i θ;by_cases hp:0<Md.rho (W+1) b R i 0
   ·rw[cR hp];refine Ycf;intros;obtain⟨bp,kb,D,hv1,hbp,hB,fr⟩:∃bp kb D,t.v=YcE/\H bp=Y91/\UQ kb Y07 D/\OF F W M φ J τ ρ μ D (B i) t.cost:=by
     rcases st.fit i t ξ with⟨g,_⟩ | ⟨g,_⟩ | ⟨_,g⟩
     ·rw[hw]at g;exact Y64 g
     ·rw[hw]at g;exact Y64 g
     ·exact g
    rw[hv1]at ha;refine Y2k (Y8e (Y1V ha));refine uO.i (wg.same S2) (Y1V hbp) hB w4 Z.sl.r4 λd H3 s3 tb=>?_;have S3:=S2.trans s3;refine qS.i (R:=(· ∈ rise F M)) (sy:=λc=>zT W (D c)) tb (aGs Z.sl fr.on) λο H4 s4 r4=>Ys;intros;have r4:LM K H4 (rul F W M D) ο:=r4;have S4:=S3.trans s4;refine Y0g (xU (Y1U el) (v:=.int (Md.rho (W+1) b R i 0)) (Y7a (iC Oo)) ?_);refine Y9b;have I:zQ W b R C (i+1)=zQ W b R C i+Md.rho (W+1) b R i 0:=by rw[sS,if_pos G]
    refine Y5j;have s24:=s3.trans s4;rcases ζ with⟨L,rfl⟩ | ⟨L,κ,N,yy,α⟩
    ·exact pO (Y5 ⟨ο,Y6 l,Y3i,some ο,by rw[I];rfl,S4,.inr ⟨Oo,_,_,r4,MrQ.first Z υ ε ξ fr θ G L⟩⟩)
    ·have g4:=yy;obtain⟨va,vxs,rfl,_⟩:=g4;rw[show decide (V.ref va=V.non)=false from rfl];refine nW (Y2k (xU (Y1U el) (v:=.int (Md.rho (W+1) b R i 0)) (Y7a (iC Oo)) ?_));refine Y7;have ν:=aDm (i:=i+1) Z st Oo;rw[I]at ν;generalize er:Md.rho (W+1) b R i 0=r at hp ν I nn ⊢;generalize eS:zQ W b R C i=S at L ν I ⊢;have dz:(S+r).natAbs<2^9000:=aI ν (Y8K aG1 Z.zb);refine qY.i Oo dz λq5 H5 hq5 e5 ψ=>?_;obtain⟨m1,m2,m3,m4,m5⟩:=α.more Z υ ξ fr θ G er eS hp L Oo rfl;have el5:lw r (S+r)=eV ((r:Rat)/((S+r:Int):Rat)):=iK (jG Oo) Y00 (by rw[ER Oo,cV]);rw[el5]at e5;exact wQ.i (r4.t ψ.t) (yy.t (s24.trans ψ).t) (.inl (fL e5)) m1 m2 α.ru m3 Oo m4 w4 (Y3h υ.few) λnv H6 s6 r6=>⟨nv,Y6 l,Y3i,some ο,by rw[I];rfl,(S4.trans ψ).trans s6,.inr ⟨Oo,_,_,r6,m5⟩⟩
   ·rw[bZ hp];obtain⟨k1,k2⟩:=skip λ_=>Oo;exact nW ⟨v,Y6 l,Y3i,δ,by rw[k1];rfl,S2,k2⟩
  ·rw[bZ hw]at G ⊢;obtain⟨k1,k2⟩:=skip λz=>by rw[G]at z;cases z
   exact nW (nW ⟨v,Y6 l,Y3i,δ,by rw[k1];rfl,S2,k2⟩)
 ·rintro σ H1 ⟨v,o5,o6,δ,rfl,χ,ι⟩;rw[aA,ll,nU,β.len,Nat.min_self]at ι;refine Y7;rcases ι with⟨g,_⟩ | ⟨_,g⟩
  ·rw[<-tP,g]at pos;exact Y64 pos
  ·exact q v H1 χ g
end
abbrev aDF:Stmt:=(top 80)
def aFA:Yg ["weighing","master","cost_unit","factors","parts"] a26 aDF:={}
abbrev aDp:Stmt:=(top 21)
def aI4:Yg ["aim"] ["aim"] aDp:={}
def prL(W:Nat)(R:Md.fD)(ts:Y0t)(us:Ae)(p:Int)(k:Nat):Ak:=(List.range W).map λw=>lw (-jP W R ts w*((us.getD w 0:Nat):Int)) (p*(k:Int))
inductive qU (G A:Addr):Yk
 | i {H:Hp} {Q:VK} {E:XK} {x m sa:Addr} {F W M:Nat} {ss:Aj} {mix ps cs:Ak} {Ns Nm Np Nc BB:Nat} {us:Ae} {cu X U e:Nat} {b:Y0} {B R:Md.fD} {p:Int} {uv:Al} {ts:Y0t} {k:Nat} (h1:zW H x G F W M ss mix cs us cu) (h2:uD H A m sa (W+1) b R p uv) (h3:lI H uv ts) (h4:zX F W M ss mix ps cs Ns Nm Np Nc BB us cu X U e b) (h5:iT H F W M ss mix cs us cu b B R p ts) (h6:0<k) (h7:k<Y0i) (q:Y4k (Y23 H' (prL W R ts us p k) v->Y1o)):qU G A [Y1H,YcY,.int (k:Int)] H Q E
def aEG{F W M:Nat}{ss:Aj}{mix ps cs:Ak}{Ns Nm Np Nc BB:Nat}{us:Ae}{cu X U e:Nat}{b:Y0}{H:Hp}{B R:Md.fD}{p:Int}{ts:Y0t}{k:Nat}(Z:zX F W M ss mix ps cs Ns Nm Np Nc BB us cu X U e b)(S:iT H F W M ss mix cs us cu b B R p ts)(k0:0<k):∀f∈prL W R ts us p k,Fn ((p*(k:Int)).natAbs) (ZB W U X*U) f:=λf d=>by
 obtain⟨w,a,rfl⟩:=aN.mp d;have a:=Y7k;have g:0<p*(k:Int):=YjM S.mst.bs.pos;refine Fn.of g (aL ?_ (Yfv Oo));rw[cY,Int.natAbs_neg];refine Nat.mul_le_mul (S.zet Z (k:=w+1) Oo) ?_;have c:us[w]?=some (us[w]'(by rw[Z.sl.ul];exact a)):=aC _;rw[iQ c];exact Z.uU _ (aE c)
section
def aH3(F:Ya "prices_of" "prices_of" aDF)(T:Ye)(FQ59:Y2t "rates_of" a23 Ykh)(FQ32:Y0k "factors_of" ["rates"] mY)(FQ34:Y2B "fraction" ["n","d"] qY):dO P w K mg base cW 4 f fd a26 (qU c.Weighing c.Master):=by
 refine Y0P aFA;obtain @⟨H,Q,E,x,m,ω,F,W,M,ss,mix,ps,cs,Ns,Nm,Np,Nc,BB,δ,cu,X,U,e,b,B,R,p,uv,N,k,wg,L,th,Z,st,k0,ζ,q⟩:=h;refine Y3 ?_;intro cdv A C s hr _;have w4:=Z.sl.wo.w4;have O:=T.w_Master;have OG:=T.w_Weighing;have pp:=st.mst.bs.pos;have G:=st.masz Z;obtain⟨dx,υ,D,LL⟩:=L.ex;obtain⟨φ,gx,fl,gr,ua,wa,ca,ι,kvs,ο,a1,a2,a3,a4,a5,a6,ε,a8,a9,χ,ψ⟩:=wg;refine⟨_,(aH (Y15 aFA.nd (fV FQ32 (Y5B FQ59)))
  (aH (Y3e 4 aFA.nd (cC dH (dP K (aD 1)) (Y0c)))
  (Y1k (Ydo dM (by rfl) Kk (Y1W (Y7d ["factor","unit"] ["factor","unit","parts"] [4] (Ycq 3 Y3b) (Y2R FQ34 (Y2h dH 0 1) 2))))))),?_⟩
 refine Yo;intros;refine Y7;refine mV.i L th G (st.costz Z) λD1 H1 τ ξ κ=>mY.i ξ Oo λD2 H2 hD2 S s2=>Ys;intros;have S2:=κ.trans s2;refine Y1B (by simp) (Y1V D) (CG υ ω p);refine Y7J _ _ _ (lD G.pz (show((k:Nat):Int).natAbs<2^3000 from ζ)) ?_;have pk:0<p*(k:Int):=YjM pp;have pz:(p*(k:Int)).natAbs<2^9000:=by
  rw[cY];have η:p.natAbs*((k:Nat):Int).natAbs<=Y0J*Y0i:=Ydq (Nat.le_of_lt G.pz) ζ;rw[<-Nat.pow_add]at η;exact aI η (YhY Dd)
 refine Y0g (jY OG (by simp) (Y1V ο) a2 ?_);refine Y1e D2 ua _ _ S (Y1V ε) (jU (b1:=false) (b2:=false) (xs:=(dF W λi=>-jP W R N i).map V.int) (ys:=δ.map FN) (λi z H'=>dL H' (jA (lw (-jP W R N i*((δ.getD i 0:Nat):Int)) (p*(k:Int)))) z) (λ_ _ _ _ s r=>r.flat s Y2u) (by rw[aA,cQ];exact Oo) S (Y1V ε) (by rw[aA,aA,cQ,φ]) (λi y z H' Q' I Y s' μ=>?_) (λD3 a H3 hD3 e3 ν g J=>?_))
 ·have j:i<W:=by have:=(aB.mp I).1;rw[aA,cQ]at this;exact this
  rw[iC j]at I;cases I;rw[aG]at Y;obtain⟨u,β,rfl⟩:=eL.mp Y;have uz:=(YgS u β).2;refine Y6D _ _ _ _ (lD (n:=4000) (m:=3000) (by rw[Int.natAbs_neg];exact st.ratz Z Oo) (show((u:Nat):Int).natAbs<2^3000 from uz)) Y7;refine qY.i pk pz λq4 H4 hq4 e4 θ=>μ _ H4 θ (Y9m);rw[e4,iQ β]
 ·refine Y7y D3 a e3;have sl:=Y5l a;have γ:(upd H3 l (.tup a)) l=Ym a:=bK;generalize upd H3 l (.tup a)=H5 at sl γ;refine q _ H5 ((S2.trans ν).trans sl) (dL.tup γ (bJ.ofRange (by rw[g,aA,cQ]) λi y j=>?_));have α:=(aB.mp j).1;rw[g,aA,cQ]at α;exact⟨α,(J i y j).same sl⟩
end
inductive uM (K:Aa):Yk
 | i {H:Hp} {Q:VK} {E:XK} {v:V} {M:Nat} {bs mix cs:Ak} (h1:wG K H M bs mix cs v) (h2:cs.length<=64) (k:∀v' H',Y1->wG K H' M bs mix (List.replicate cs.length (0,1)) v'->Q v' H'):uM K [v] H Q E
section
def aHM(F:Ya "without_costs" "without_costs" aDp)(T:Ye):dO P w K mg base cW 1 f fd ["aim"] (uM K):=by
 refine F.oky aI4 λδ H Q E h=>?_;obtain @⟨H,Q,E,v,M,bs,L,η,⟨a,γ,O,ε,rfl,e,α,β,I,B,rfl,z,N⟩,J,q⟩:=h;refine Y3 ?_;intro W A m s θ _;have R:=N.len;refine Y5D (dU (bA Y2C (Yaq Y2C Y2C (Ydo dM (by rfl) Kk (Y1W (Y6Z ["one"] [] (xW (Y2C)) (YgB YbE rfl)))))));refine Y0u e;refine Y0u e;refine Y0u e;refine Y0u e;refine Y37 I (Ych z) (vC (xs:=B) (λi y H'=>AY K H' (0,1) y) (λi y H1 H2 s r=>r.t s) Oo z (λi y H' Q' p ζ X=>?_) (λD d H1 κ Z G U j=>?_))
 ·exact X _ H' (Y09) (YeO T.o_NOUGHT)
 ·refine Y8d D d (Ybq Z (λl g=>?_));have sl:=Y8a d g;have u:(upd H1 l (.tup d)) l=Ym d:=bK;generalize upd H1 l (.tup d)=H2 at sl u;refine qH (by show 4<=64;decide) λC H3 S Y n=>?_;have S3:=(G.trans sl).trans n;refine q _ H3 S3 ⟨C,γ,O,Y0G,rfl,Y,α.same S3,β.same S3,l,d,rfl,n _ _ u,by rw[bM,U,R],λi y p=>?_⟩;have ι:=(aB.mp p).1;exact⟨(0,1),by rw[List.getElem?_replicate,Y58],(j i y p).t (sl.trans n).t⟩
end
abbrev aD8:Stmt:=(top 54)
def aGY:Yg ["trial","rule","aim","mix"] a48 aD8:={}
def GW{ws:Y0v}{i:Nat}{x:Y95}(h:ws[i]?=Yb):hZ (Y0V) i=wq x.2:=by
 funext c
 unfold hZ;rw[iQ (by rw[aG,h];rfl)]
section
variable{F W M N B Ns Nc:Nat}{es:Yi}{s:Ak}{cs:Ak}
def pR.spq(R:Y1n)(hs:∀f∈s,Y94)(C:CoC Nc es cs):Qn (Nc*(N*Ns^M)) (64*(1000*B)) (gL F es (wq s) (cS cs)):=by
 refine(Qn.sumL λe a=>?_).le (Y2a R.few);by_cases z:Y2=0
 ·rw[z,Rat.mul_zero,Rat.mul_zero];exact Y7U
 ·exact(C.qn a z).mul (R.aqs hs a 0)
end
structure aHd(F W M Ns Nm Nc:Nat)(ws:Y0v)(mix cs:Ak):Prop where
 f1:1<=F
 f4:F<=4
 w4:W<=4
 wl:Yht W
 sh:∀x∈ws,∀f∈x.2,Y94
 bo:∀x∈ws,Y6r x.2
 ml:mix.length=W
 mx:∀f∈mix,Fn Nm 1 f
 m0:0<Nm
 mz:Nm<=2^100
 c0:0<Nc
 c1:Nc<=1000000000000000
 ca:∀f∈cs,Fn Nc 1000 f
 cl:Yew M
inductive wT (K:Aa):Yk
 | i {H:Hp} {Q:VK} {E:XK} {t r av:V} {es:Yi} {F W M Nc N B Ns Nm:Nat} {fs:Ah} {ws:Y0v} {bs mix cs:Ak} (h1:Y6o t) (h2:LM K H es r) (h3:Ybe) (h4:Y1n) (h5:aHd F W M Ns Nm Nc ws mix cs) (k:Y4k (Y7G (gC F W es (hZ Y0V) Y4t (cS cs)) v->Y8G (gC F W es (hZ Y0V) Y4t (cS cs))->(eV (gC F W es (hZ (mP ws)) (cS mix) (cS cs))).2.natAbs<2^1960->Y1o)):wT K [t,r,av] H Q E
section
def aIy(F:Ya "cost" "cost" aD8)(T:Ye)(FQ71:YaT "ways_of" jS)(FQ69:Y2t "total" a27 (jO K))(FQ67:Y6b 2 "times" K)(FQ64:Y14 6 "spent" a19 (wO K)):dO P w K mg base cW 7 f fd a48 (wT K):=by
 refine Y0P aGY;obtain @⟨H,Q,E,t,r,av,p,F,W,M,l,N,B,m,G,fs,C,bs,d,u,rt,rr,ra,RO,I,k⟩:=h;refine Y3 ?_;intro cdv A Y s hr _;obtain⟨aa,xb,xm,xc,rfl,U,φ,κ,δ⟩:=ra;obtain⟨am,vm,rfl,X,ε⟩:=nA κ;have w4:=I.w4;have γ:CoC l p u:=⟨I.c0,I.c1,I.ca,λe he z=>by rw[I.cl];exact RO.on e he z⟩;have nn:0<G*(l*(N*m^M)):=fA I.m0 (fA I.c0 RO.pz.1);have nd:G*(l*(N*m^M))<2^1960:=by
  have R:l*(N*m^M)<2^50*2^1800:=aI (Y2a (Y3h I.c1)) (Nat.mul_lt_mul_of_pos_left RO.z (Y9N));have η:G*(l*(N*m^M))<=2^100*(2^50*2^1800):=Ydq I.mz R;refine aI η ?_;rw[<-Nat.pow_add,<-Nat.pow_add];exact YhY Dd
 have nz:G*(l*(N*m^M))<Y0i:=Y7c nd;have θ:64*(1000*B)<=2^120:=Y3h (dI _ (dI _ RO.b));have ξ:∀i,i<W->Qn (G*(l*(N*m^M))) (64*(1000*B)) (cS d i*gL F p (hZ (mP C) i) (cS u)):=λi j=>by
  obtain⟨x,L⟩:∃x,C[i]?=Yb:=Y40 (by rw[I.wl];exact j);have R:=(I.mx _ (eO (a:=(0,1)) (by rw[I.ml];exact j))).q.mul (RO.spq (I.sh x (aE L)) γ);rw[Nat.one_mul]at R;rw[GW L];exact R
 refine⟨_,(aH (Y3e 3 aGY.nd (Y0K 2))
  (Y1k (fV FQ69 (Y6Z ["way","trial","rule","aim","mix"] [0,1,2,3] (Y7b (Y5C FQ71)) (cL FQ67 (bQ (iA K) (aD 4) Y0H) (VH FQ64 (Y0w) (Y0c) (Y0H) (Y6s 3))))))),?_⟩
 refine Yo;intros;refine Y0u U;refine Y5 (jS.i rt ?_);rw[I.wl];refine Y98 _ Oo Oo (Yc2 (i<W/\Y7G (cS d i*gL F p (hZ (mP C) i) (cS u)) y) (λi y H1 H2 s ⟨R,η⟩=>⟨R,η.flat s (Y2u)⟩) Oo (λi H' Q' j O χ=>?_) (λD ω H1 hD ψ υ hy ι=>?_))
 ·have j:i<W:=Oo;obtain⟨x,L⟩:∃x,C[i]?=Yb:=Y40 (by rw[I.wl];exact j);have J:=aE L;obtain⟨g,ζ⟩:∃g,d[i]?=some g:=Y40 (by rw[I.ml];exact j);obtain⟨vg,α,β⟩:=kP ε ζ;have S:=I.mx g (aE ζ);rw[Int.zero_add];refine Y0g (lE (O _ _ X) (eB α) ?_);refine⟨_,rfl,_,rfl,_,rfl,_,rfl,Y8e (O _ _ U)⟩;refine wO.i (rt.same O) (rr.t O.t) RO I.f1 I.f4 L (I.sh x J) (I.bo x J) (δ.t O.t) γ λv2 H2 ο r2=>?_;have n1:Fn (G*(l*(N*m^M))) 1 g:=Qn.f S.low (S.q.dvd (mO _ _));have n2:Fn (G*(l*(N*m^M))) (64*(1000*B)) (eV (gL F p (wq x.2) (cS u))):=((RO.spq (I.sh x J) γ).dvd (Nat.dvd_mul_left _ _)).fq;refine eN.i (iI.of ((β.same O).same ο)) (iI.of r2) S.low (Y00) (Ybs n1 nn nz) (mL n2 nn nz (Y44 θ)) λq3 H3 hq3 e3 Z=>χ _ H3 (ο.trans Z) ⟨j,Y9m⟩;have τ:iG g (eV (gL F p (wq x.2) (cS u)))=eV (cS d i*gL F p (hZ (mP C) i) (cS u)):=iK (iF S.low Y00) Y00 (by rw[jE S.low.pos (Y00).pos,cV,cV,qF ζ,GW L]);rw[e3,τ]
 have r1:bJ H1 (((List.range W).map λi=>eV (cS d i*gL F p (hZ (mP C) i) (cS u))).map jA) ω:=YbL ι;have fl:∀f∈(List.range W).map (λi=>eV (cS d i*gL F p (hZ (mP C) i) (cS u))),Fn (G*(l*(N*m^M))) (64*(1000*B)) f:=λf ρ=>by
  obtain⟨i,j,rfl⟩:=aN.mp ρ;exact(ξ i (cD.mp j)).fq
 refine Yc3 ψ r1 (xQ fl nn nz (by rw[aA,aV];exact Oo) (Y44 θ)) (λv H3 Z ν=>?_);rw[VR (f:=λi=>cS d i*gL F p (hZ (mP C) i) (cS u)) λe _=>⟨Y00,cV _⟩]at ν;have μ:=Ygb (λi j=>ξ i j);refine k v H3 (υ.trans Z) ν (mL μ.fq nn nz (aL (Nat.mul_le_mul w4 θ) ?_)) (aI (μ.fq.num nn).2 nd);exact aL Dd (aJ (n:=2) (i:=130) Dd Dd)
end
def sY(F W:Nat)(ss:Aj)(bs:Ak)(es:Yi):Prop:=∀w,w<W->1-Y5y F es w w<=Y84
section
variable{F W M:Nat}{ss:Aj}{mix ps cs bs:Ak}{Ns Nm Np Nc BB Nr:Nat}{us:Ae}{cu X U e:Nat}{b:Y0}{H:Hp}{B R:Md.fD}{p:Int}{ts:Y0t}
def iT.nolack(S:iT H F W M ss mix cs us cu b B R p ts)(nl:Yf4){i:Nat}(hi:i<W+1):∃t,ts[i]?=Y7o/\((Yw Y6F/\t.cost=0/\∃w,w<W/\B i=Md.unit w)\/(Y6F=true/\B i W=1)):=by
 obtain⟨t,d,f⟩:=S.at hi;have c:Y6F=Yad "rule":=by unfold DZ;rw[d];rfl
 refine Y0n t d;rcases f with⟨a,h,g⟩ | ⟨a,_⟩ | ⟨a,j,l,e,_,_,_,R⟩
 ·exact Yf9 (by rw[c,a];decide) h g
 ·have:Y1w=true:=uZ.mpr ⟨t,aE d,a⟩;rw[nl]at this;cases this
 ·exact Y3x (by rw[c,a];decide) R.one
def iT.parts(Z:zX F W M ss mix ps cs Ns Nm Np Nc BB us cu X U e b)(S:iT H F W M ss mix cs us cu b B R p ts)(nl:Yf4):wsum W b R ts (W+1) (λ_=>1)=(p:Rat):=by
 have h:=S.mst.bs.ends (b:=b) (r:=W) Oo;rw[Z.bW,Int.mul_one]at h;rw[<-h,Md.rK];unfold wsum;refine bT Yh2;obtain⟨t,_,g⟩:=S.nolack nl d;rcases g with⟨a,_,w,j,c⟩ | ⟨a,c⟩
 ·rw[a,Y20,c];unfold Md.unit;rw[Y2O,Int.mul_zero];rfl
 ·rw[a,Yr,c,Int.mul_one,Rat.mul_one];rfl
def iT.cols(S:iT H F W M ss mix cs us cu b B R p ts)(nl:Yf4){w:Nat}(hw:w<W):wsum W b R ts (W+1) (λj=>((B j w:Int):Rat))<=(p:Rat)*(b w:Rat):=by
 have h:=S.mst.bs.ends (b:=b) (r:=w) Oo;rw[<-Rat.intCast_mul,<-h,Md.rK];unfold wsum;refine mU YkH;obtain⟨t,_,e⟩:=S.nolack nl c;rcases e with⟨a,_,v,g,d⟩ | ⟨a,d⟩
 ·rw[a,Y20,d];have:=Int.mul_nonneg (S.mst.share c) (GG (w:=v) (r:=w)).1
  exact_mod_cast this
 ·rw[a,Yr,Rat.intCast_mul];exact Rat.le_refl
def iT.costs(S:iT H F W M ss mix cs us cu b B R p ts)(nl:Yf4):wsum W b R ts (W+1) (λj=>(((ts[j]?.map (·.cost)).getD 0:Int):Rat))=((Md.dot (W+1) (jP W R ts) b:Int):Rat):=by
 rw[<-Md.AZ];unfold Md.zet;rw[Md.rK];unfold wsum;refine bT λi e=>?_;obtain⟨t,c,g⟩:=S.nolack nl e;have h:xT ts i=t.cost:=by unfold xT;rw[if_neg (by rw[nl];decide),c];rfl
 rw[h];show(if Y6F=true then _*(((ts[i]?.map (·.cost)).getD 0:Int):Rat) else 0)=_;rw[c];show(if Y6F=true then _*((t.cost:Int):Rat) else 0)=_;rcases g with⟨a,d,_⟩ | ⟨a,d⟩
 ·rw[a,Y20,d,Int.zero_mul];rfl
 ·rw[a,Yr,Rat.intCast_mul,Rat.mul_comm]
def TB(Z:zX F W M ss mix ps cs Ns Nm Np Nc BB us cu X U e b)(S:iT H F W M ss mix cs us cu b B R p ts)(nl:Yf4)(hb:∀(i:Nat) (u:Nat),Y4P=Yl->(b i:Rat)=cS bs i*(u:Rat))(cu0:0<cu){es:Yi}{N:Nat}(mr:MrQ F W M U Nr ss mix cs us cu b B R ts (W+1) es N)(hy:∀w,w<W->jP W R ts w<=0)(hw:((jP W R ts W:Int):Rat)<=Y7i F W M (pzY W R ts us) (TD ts p cu)) :
  sY F W ss bs es/\∀es',sT F W M es'->sY F W ss bs es'->gC F W es (hZ ss) Y4t (cS cs)<=gC F W es' (hZ ss) Y4t (cS cs):=by
 have l:(0:Rat)<(p:Rat):=by exact_mod_cast S.mst.bs.pos
 have m:(0:Rat)<(cu:Rat):=by exact_mod_cast cu0
 have d:∀w,w<W->∃u,us[w]?=Yl/\(0:Rat)<(u:Rat):=λw hw=>by
  have a:us[w]?=some (us[w]'(by rw[Z.sl.ul];exact hw)):=aC _;exact Y0C a (by exact_mod_cast(YgS _ a).1)
 refine⟨Yk9,λes' A K=>?_⟩
 ·obtain⟨u,a,j⟩:=d w hw;have h1:=mr.said w u a;have h:=S.cols nl hw;rw[S.parts Z nl]at h1;rw[<-h1,hb w u a]at h;refine Yi7 ((u:Rat)*(p:Rat)) (Rat.mul_pos j l);grind
 ·have h1:=mr.cost;rw[S.parts Z nl,S.costs nl]at h1;have h:=Rat.le_trans hw (BE A.rl A.hM A.on Z.sl.q.h0 Z.sl.q.h1 A.hs);have n:=Md.JS W (y:=jP W R ts) (p:=p) (b:=b) hy Z.bW (x:=(cu:Rat)*gC F W es' (hZ ss) Y4t (cS cs)) (α:=λw=>((us.getD w 0:Nat):Rat)*(1-Y5y F es' w w)) (λw hw=>by
   obtain⟨u,a,j⟩:=d w hw;show((us.getD w 0:Nat):Rat)*_<=_;rw[iQ a,hb w u a,Rat.mul_comm (Y84)];exact Yi8 w hw (Rat.le_of_lt j)) (by
   refine YdK h;have r:TD ts p cu=(p:Rat)*(cu:Rat):=by unfold TD;rw[if_neg (by rw[nl];decide)]
   rw[r,YgH (λw=>-(jP W R ts w:Rat)*(((us.getD w 0:Nat):Rat)*(1-Y5y F es' w w))) (by unfold pzY;grind)];grind)
  rw[<-h1]at n;refine Yi7 ((cu:Rat)*(p:Rat)) (Rat.mul_pos m l);grind
def aBJ(S:iT H F W M ss mix cs us cu b B R p ts)(nl:Y1w=true):Md.lexp (W+2) (Md.zet (W+1) b R (xT ts)):=by
 have c:∀i,xT ts i=0\/xT ts i=1:=λi=>by
  unfold xT;rw[if_pos nl];split
  ·exact Y7e
  ·exact Y36
 have all:∀m,m<=W+1->Md.lexp (W+2) (λk=>Md.dY m λi=>xT ts i*Md.rho (W+1) b R i k)\/((∀k,(Md.dY m λi=>xT ts i*Md.rho (W+1) b R i k)=0)/\∀i,i<m->xT ts i=0):=by
  intro m
  induction m with
  | zero=>intro _;exact Y3x (λk=>rfl) (λi a=>Oo)
  | succ m ih =>
   intro r;rcases c m with z | z
   ·rcases ih Oo with h | ⟨d,j⟩
    ·exact .inl (YgF (by rw[Md.dY,z,Int.zero_mul,Int.add_zero]) h)
    ·exact .inr ⟨λk=>by rw[Md.dY,d,z,Int.zero_mul];rfl,λi a=>by
      by_cases q:i=m
      ·subst q;exact z
      ·exact j i Oo⟩
   ·have l:=S.mst.lex m Oo;rcases ih Oo with h | ⟨d,j⟩
    ·exact .inl (YgF (by rw[Md.dY,z,Int.one_mul]) (Md.JV h l))
    ·exact .inl (YgF (by rw[Md.dY,d,z,Int.one_mul,Int.zero_add]) l)
 rcases all (W+1) (Yy)with h | ⟨_,h⟩
 ·exact h
 ·exfalso;obtain⟨t,n,e⟩:=uZ.mp nl;obtain⟨i,a⟩:=List.getElem?_of_mem n;have:=h i (by have:=(Y8M).1;rw[S.len]at this;exact this);unfold xT at this;rw[if_pos nl,a]at this;have g:(if Yad "lack"=true then(1:Int) else 0)=0:=this;rw[if_pos (cR e)]at g;cases g
def XX(Z:zX F W M ss mix ps cs Ns Nm Np Nc BB us cu X U e b)(S:iT H F W M ss mix cs us cu b B R p ts)(nl:Y1w=true)(hb:∀(i:Nat) (u:Nat),Y4P=Yl->(b i:Rat)=cS bs i*(u:Rat))(hy:∀w,w<W->jP W R ts w<=0)(hw:((jP W R ts W:Int):Rat)<=Y7i F W M (pzY W R ts us) (TD ts p cu)){es:Yi}(A:sT F W M es):¬sY F W ss bs es:=λK=>by
 have d:=Rat.le_trans hw (BE A.rl A.hM A.on Z.sl.q.h0 Z.sl.q.h1 A.hs);refine Md.aBG W (y:=jP W R ts) (b:=b) hy Z.bW (YgF ?_ (aBJ S nl)) (α:=λw=>((us.getD w 0:Nat):Rat)*(1-Y5y F es w w)) (Yk9) ?_
 ·cases k with
  | zero=>exact Md.AZ b R (xT ts)
  | succ k=>rfl
 ·have a:us[w]?=some (us[w]'(by rw[Z.sl.ul];exact hw)):=aC _;have h:(0:Rat)<((us[w]'(by rw[Z.sl.ul];exact hw):Nat):Rat):=by exact_mod_cast(YgS _ a).1
  show((us.getD w 0:Nat):Rat)*_<=_;rw[iQ a,hb w _ a,Rat.mul_comm (Y84)];exact Yi8 w hw (Rat.le_of_lt h)
 ·refine YdK d;have c:TD ts p cu=0:=by
   unfold TD;rw[if_pos nl];show(0:Rat)*_=0;rw[Rat.zero_mul]
  rw[c,YgH (λw=>-(jP W R ts w:Rat)*(((us.getD w 0:Nat):Rat)*(1-Y5y F es w w))) (by unfold pzY;grind)];grind
end
structure DS(F W M:Nat)(fs:Ah)(ws:Y0v)(bs mix cs:Ak)(Ns Nm Nc Nb BB e X:Nat):Prop where
 wg:aG2 ws bs F W M Ns Nm 1 Nc BB Nb mix (Yby (0,1)) cs
 fl:Y63 F
 q:QIn F W (hZ (Y0V))
 bn:∀f∈bs,0<=f.1
 mn:∀w,0<=Y7Y
 m1:cE W (Y4t)=1
 cn:∀k,0<=Y7W
 cg:aHd F W M Ns Nm Nc ws mix cs
 mz:LQ F W M (Ns^M*Nb) Ns
 Ue:Ns^M*Nb<=2^e
 cX:oN M Ns Nm 1 Nc*5000<2^X
 sz:6*e+X+20<=4000
 pB:2097152*(BB+ZB W (Ns^M*Nb) X*(Ns^M*Nb))<=WB
 pN:PB W (Ns^M*Nb)*oN M Ns Nm 1 Nc*oN M Ns Nm 1 Nc<Y0i
def DC(W:Nat)(bs:Ak)(us:Ae)(r:Nat):Int:=if r=W then 1 else(bs.getD r (0,1)).1*(((us.getD r 0:Nat):Int)/(bs.getD r (0,1)).2)
section
variable{F W M:Nat}{fs:Ah}{ws:Y0v}{bs mix cs:Ak}{Ns Nm Nc Nb BB e X:Nat}{us:Ae}{cu:Nat}
def OW{cs:Ak}(hl:Yew M)(m5:M<=5)(h:∀f∈cs,Fn Nc 1000 f)(c0:0<Nc):lV M (cS cs) 0<=5000:=by
 have d:∀k,Y7W<=1000:=λk=>by
  by_cases hk:Yhx k
  ·obtain⟨z,e,m⟩:=(h _ (eO (a:=(0,1)) hk)).q;have g:(0:Rat)<(Nc:Rat):=by exact_mod_cast c0
   refine Yi6 (Nc:Rat) ?_;show rv (cs.getD k (0,1))*(Nc:Rat)<=_;rw[e];have:z<=((1000*Nc:Nat):Int):=Oo;have l:(z:Rat)<=(((1000*Nc:Nat):Int):Rat):=by exact_mod_cast this
   refine YdK l;rw[Rat.intCast_natCast,Rat.natCast_mul];exact Rat.le_refl
  ·rw[pS Oo];decide
 unfold lV;have j:Y3X (M-0) (cS cs (0+i))<=cE (M-0) λ_=>1000:=mU λi _=>d _;refine YdK j;have:M=0\/M=1\/M=2\/M=3\/M=4\/M=5:=Oo;rcases this with rfl | rfl | rfl | rfl | rfl | rfl <;> decide +kernel
def DS.sl(I:DS F W M fs ws bs mix cs Ns Nm Nc Nb BB e X)(ul:Y9r)(uo:IE bs (Ns^M*Nb) us)(cu0:0<cu)(cud:cu ∣ oN M Ns Nm 1 Nc):UN F W M (Y0V) mix (Yby (0,1)) cs Ns Nm 1 Nc BB us cu X:=by
 have wo:=I.wg.wo;have h:cu<=oN M Ns Nm 1 Nc:=kK wo.pos cud;have nn:0<Ns^M*Nb:=fA (YiA) I.wg.nb;have m:∀u∈us,u<=Ns^M*Nb:=λu a=>kK nn (uo.d u a).2;have r:∀u∈us,0<u/\u<Y0i:=λu a=>⟨(uo.d u a).1,aI (aL (m u a) I.Ue) (YhY (by have:=I.sz;exact Oo))⟩;have i:cu<Y0i:=aI h wo.sz;have c0:(0:Rat)<=(cu:Rat):=by exact_mod_cast cM cu
 refine⟨wo,Y3h I.mz.few,ul,r,i,I.q,λG A n g=>?_,λc j n g=>?_,λv u a c j n g=>?_⟩
 ·obtain⟨B,C⟩:=A.cost I.q I.cn I.mn I.m1;have s:=Rat.le_trans C (OW I.cg.cl wo.m5 I.cg.ca I.cg.c0);have z:(0:Rat)<=(n:Rat):=by rw[g];exact bR c0 B
  have y:(n:Rat)<=(((cu*5000:Nat):Int):Rat):=by
   rw[g,Rat.intCast_natCast,Rat.natCast_mul];exact Rat.mul_le_mul_of_nonneg_left s c0
  have J:0<=n:=by exact_mod_cast z
  have D:n<=((cu*5000:Nat):Int):=by exact_mod_cast y
  exact aI Oo (aI (bF 5000 h) I.cX)
 ·have p:=of_decide_eq_true (fY.mp j).2;have l:=CQ (show Qn _ (BB*4) (CH W (mP ws) mix cs c)by have:=(IB wo p).q;rwa [cV]at this) wo.pos g;exact aI l (aEw i (aL (show BB*4<=4*WB by have:=wo.b;exact Oo) vM))
 ·have w:v<W:=by have:=(Y8M).1;rw[ul]at this;exact this
  have:=CQ (wo.qn w (c:=c) ((gA wo.f1).mp j).2) (YiA) g;rw[Nat.one_mul]at this;exact Y8K this ((r u (aE a)).2)
def NP(I:DS F W M fs ws bs mix cs Ns Nm Nc Nb BB e X)(ul:Y9r)(uo:IE bs (Ns^M*Nb) us){i:Nat}{f:Fr}{u:Nat}(hf:bs[i]?=Y5h)(hu:Y4P=Yl):Y06/\Y2U/\f.2.natAbs ∣ u/\(DC W bs us i:Rat)=Y0D*(u:Rat)/\0<=DC W bs us i/\(DC W bs us i).natAbs<=u:=by
 have n:i<W:=by have:=(YhA).1;rw[ul]at this;exact this
 have fn:=I.wg.bb f (aE hf);have l:=fn.low;have d:=uo.b i f u hf hu;have m:=I.bn f (aE hf);have j:=l.pos;obtain⟨k,h⟩:=d;have c:(u:Int)=f.2*(k:Int):=by rw[h,Int.natCast_mul];congr 1;exact Oo
 have g:DC W bs us i=f.1*(k:Int):=by
  unfold DC;rw[Y2O,iQ hf,iQ hu,c,Y49]
 have a:(DC W bs us i:Rat)=Y0D*(u:Rat):=by
  have:((u:Nat):Rat)=(f.2:Rat)*(k:Rat):=by rw[<-Rat.intCast_natCast,c,Rat.intCast_mul,Rat.intCast_natCast]
  rw[g,this,Rat.intCast_mul,Rat.intCast_natCast,<-pG j];grind
 have nz:Nb<Y0i:=aI (Y9I I.wg.wo.pos) I.wg.sz;refine⟨l,Ybs fn I.wg.nb nz,uo.b i f u hf hu,a,by rw[g];exact Int.mul_nonneg m Oo,?_⟩;have:=CQ fn.q I.wg.nb a
 rwa [Nat.one_mul]at this
def DS.st(I:DS F W M fs ws bs mix cs Ns Nm Nc Nb BB e X)(ul:Y9r)(uo:IE bs (Ns^M*Nb) us)(cu0:0<cu)(cud:cu ∣ oN M Ns Nm 1 Nc):zX F W M (Y0V) mix (Yby (0,1)) cs Ns Nm 1 Nc BB us cu X (Ns^M*Nb) e (DC W bs us):=by
 have nn:0<Ns^M*Nb:=fA (YiA) I.wg.nb;refine⟨I.sl ul uo cu0 cud,λu a=>kK nn (uo.d u a).2,nn,λr j=>?_,Yr,I.Ue,I.sz⟩;by_cases h:r=W
 ·unfold DC;rw[Y4z];exact Yat nn
 ·have c:bs[r]?=some (bs[r]'(by rw[I.wg.bl];exact Oo)):=aC _;have a:us[r]?=some (us[r]'(by rw[ul];exact Oo)):=aC _;obtain⟨_,_,_,_,g,i⟩:=NP I ul uo c a;exact⟨g,aL i (kK nn (uo.d _ (aE a)).2)⟩
def aCS(I:DS F W M fs ws bs mix cs Ns Nm Nc Nb BB e X)(ul:Y9r)(uo:IE bs (Ns^M*Nb) us):∀(i:Nat) (u:Nat),Y4P=Yl->(DC W bs us i:Rat)=cS bs i*(u:Rat):=λi u c=>by
 have d:i<W:=by have:=(aB.mp c).1;rw[ul]at this;exact this
 have a:bs[i]?=some (bs[i]'(by rw[I.wg.bl];exact Oo)):=aC _;rw[(NP I ul uo a c).2.2.2.1,qF a]
def DS.pw(I:DS F W M fs ws bs mix cs Ns Nm Nc Nb BB e X){Z:zX F W M (Y0V) mix (Yby (0,1)) cs Ns Nm 1 Nc BB us cu X (Ns^M*Nb) e (DC W bs us)}{H:Hp}{B R:Md.fD}{p:Int}{ts:Y0t}(S:iT H F W M (Y0V) mix cs us cu (DC W bs us) B R p ts){k:Nat}(k0:0<k)(kz:k<=oN M Ns Nm 1 Nc){cs':Ak}(cl:cs'.length=M)(ca:∀f∈cs',Fn Nc BB f):lH F W M (Y0V) mix (prL W R ts us p k) cs' Ns Nm (p*(k:Int)).natAbs Nc (BB+ZB W (Ns^M*Nb) X*(Ns^M*Nb)):=by
 have wo:=I.wg.wo;have g:=S.mst.bs.pos;have i:0<p*(k:Int):=YjM g;have c:oN M Ns Nm 1 Nc=Nc*Nm*Ns^M:=by unfold oN;rw[Nat.one_mul]
 have h:0<Nc*Nm*Ns^M:=by rw[<-c];exact wo.pos
 have d:(p*(k:Int)).natAbs*Nc*Nm*Ns^M=(p*(k:Int)).natAbs*(Nc*Nm*Ns^M):=by ac_rfl
 refine⟨wo.f1,wo.f4,wo.w1,wo.w4,wo.m5,wo.sl,wo.ml,by unfold prL;rw[aA,aV],cl,wo.sh,wo.mx,λf a=>(aEG Z S k0 f a).le (Nat.le_add_left _ _),λf a=>(ca f a).le (Y9U _),by rw[d];exact fA Oo h,?_,I.pB⟩;rw[d,<-c,cY];refine aI (Y2a (Nat.mul_le_mul (S.size Z).1 ?_)) I.pN;exact kz
end
abbrev aD2:Stmt:=(top 73)
def ZX:Yg ["trial","aim","weighing","master","prices"] a31 aD2:={}
inductive uS (K:Aa):Yk
 | i {H:Hp} {Q:VK} {E:XK} {tv av:V} {F W M:Nat} {fs:Ah} {ws:Y0v} {bs mix cs:Ak} {Ns Nm Nc Nb BB e X:Nat} (h1:Yd9) (h2:Ybe) (h3:DS F W M fs ws bs mix cs Ns Nm Nc Nb BB e X) (h4:∀f∈cs,Fn Nc BB f) (q0:∀a y z H',Y1->H' a=Ym [.str "none",y,z]->(∀es,sT F W M es->¬sY F W (Y0V) bs es)->Y6w) (q1:∀a r y z es N C H',Y1->H' a=Ym [.str "rule",r,y,z]->LM K H' es r->pR F W M N C Ns es->sY F W (Y0V) bs es->(∀es',sT F W M es'->sY F W (Y0V) bs es'->gC F W es (hZ Y0V) Y4t (cS cs)<=gC F W es' (hZ Y0V) Y4t (cS cs))->Y6w):uS K [tv,av] H Q E
section
def aIr(F:Ya "fewest" "fewest" aD2)(T:Ye)(FQ3:FnO P w K mg base 7 c.Weighing a21 (Yk1 K))(FQ63:Y14 5 "settled" ["weighing","bounds"] (rZ K c.Weighing c.Master))(FQ38:Y0k "lacks" a23 YgM)(FQ57:Y14 4 "prices_of" a26 (qU c.Weighing c.Master))(FQ75:Y14 7 "worths" a41 (qR K))(FQ74:Y0k "without_costs" ["aim"] (uM K))(FQ65:Y14 8 "standing_mixed" a32 (wN K c.Weighing c.Master))(FQ31:YaT "faces_of" kF):dO P w K mg base cW 9 f fd a31 (uS K):=by
 refine Y0P ZX;obtain @⟨H,Q,E,tv,av,F,W,M,fs,ws,bs,mix,cs,Ns,Nm,ω,Nb,BB,e,X,rt,J,I,cb,q0,q1⟩:=h;refine Y3 ?_;intro cdv A δ s hr _;have O:=T.w_Weighing;refine⟨_,(aH (Y1E ZX.nd (IP FQ3 T.g_Weighing (hr.mono Dd) (Y1Y 0 Y0w)))
  (aH (Y1D 3 ZX.nd FQ63 2 Y26)
  (aH (iM (qE (fV FQ38 (aD 3))) (aH (Y39 ZX.nd (lU FQ57 (Y0c) (Y0h) aK))
  (Y1k (dU (bA (YdR "none" T.g_NONE) (Y1Y 4 (lU FQ75 Y0H (Y5B FQ74) Y1j)))))) fJ)
  (aH (Y39 ZX.nd (lU FQ57 (Y0c) (Y0h) (dP K (aD 2))))
  (Y1k (dU (bA (YgN "rule") (Yaq (lU FQ65 (Y5C FQ31) (Y0c) (Y0h)) Y1j (lU FQ75 Y0H Y0w Y1j))))))))),?_⟩
 refine Yo;intro μ ι;refine Y01;intro x r χ υ β;have G:Y2c (Y8D (Y3B r (.own x)) x c.Weighing r []):=(aT.upd υ).trans (aT.upd (by rw[eP (Ne.symm β)];exact χ));have eA:(upd (upd H r (.own x)) x (.ins c.Weighing r [])) x=Ykl r []:=bK;generalize upd (upd H r (.own x)) x (.ins c.Weighing r [])=H1 at G eA ⊢;refine wM.i eA (rt.same G) I.fl (J.same G) I.wg λus ε H2 b2 wg U a z=>Y3 ?_;refine Ys;intro μ ι;have S2:Y2c H2:=aT.thru χ G b2;have ul:=wg.ul;have Z:=I.st ul U a z;obtain⟨aa,xb,xm,xc,rfl,ο,γ,rxm,rxc⟩:=J.same S2;obtain⟨ab,vb,rfl,η,ζ⟩:=nA γ;refine Y8R ο;refine rZ.i wg η (zD.of ζ) I.wg.bl (λi f u α hu=>by obtain⟨g1,g2,g3,g4,_⟩:=NP I ul U α hu;exact⟨g1,g2,g3,g4⟩) Z λm sa B R p uv ts H3 D φ th st hy hw=>Ys;intro μ ι;have n8:W+1<=8:=by have:=I.wg.wo.w4;exact Oo
 refine Y7;refine lY.i φ th n8 λH4 g=>Y7;have S4:=(S2.trans D).trans g;have C:=wg.same (D.trans g);have y:=φ.same g;have j:=th.same g;have n:=st.to λbp kb h=>g _ _ h;have τ:ε<=oN M Ns Nm 1 ω:=kK I.wg.wo.pos z;have cz:ε<Y0i:=Z.sl.cuz;cases eb:Y1w with
 | true =>
  refine Ycf;intro μ ι;refine Y01;refine qU.i (k:=1) C y j Z n Dd (Yir) λv5 H5 l κ=>?_;have S5:=S4.trans l;have ρ:=I.cg.cl;have m5:=I.wg.wo.m5;refine Y42;refine uM.i (J.same S5) Oo λv6 H6 d a6=>Y7;exact qR.i (rt.same (YkN)) I.fl a6 (κ.same d) (I.pw (Z:=Z) st (k:=1) Dd I.wg.wo.pos (by rw[bM];exact ρ) λf α=>by rw[List.eq_of_mem_replicate α];exact(Fn.zero ω).le (Y0l)) I.wg.bo λv7 H7 S _=>qH (by show 3<=64;decide) λY H8 ξ ν L=>q0 Y _ _ H8 (((S5.trans d).trans S).trans L) ν λψ A=>XX Z st eb (aCS I ul U) hy hw A
 | false =>
  refine nW ?_;obtain⟨_,gx,fl,gr,ua,wa,ca,tas,kvs,a0,a1,a2,a3,a4,a5,a6,a7,Y,a9,a10,a11⟩:=C;refine Y2k (jY O (by simp) a0 a4 ?_);refine qU.i (k:=ε) (wg.same (D.trans g)) y j Z n a cz λv5 H5 l κ=>?_;have S5:=S4.trans l;refine Y5 (kF.i (rt.same S5) ?_);rw[I.fl];refine Y01;refine wN.i (wg.same ((D.trans g).trans l)) (y.same l) (j.same l) Z (n.to λbp kb h=>l _ _ h) I.mz (by rw[st.parts Z eb];exact_mod_cast st.mst.bs.pos) λv6 H6 d mr=>?_;obtain⟨ψ,N,θ,mq⟩:=mr;refine⟨_,rfl,_,rfl,_,rfl,_,rfl,?_⟩;refine qR.i (rt.same (YkN)) I.fl (J.same (YkN)) (κ.same d) (I.pw (Z:=Z) st a τ I.cg.cl cb) I.wg.bo λv7 H7 S _=>qH (by show 4<=64;decide) λY H8 ξ ν L=>?_;obtain⟨k1,k2⟩:=TB Z st eb (aCS I ul U) a mq hy hw;exact q1 Y _ _ _ ψ N _ H8 (((S5.trans d).trans S).trans L) ν (θ.t (S.trans L).t) mq.ru k1 k2
end
abbrev aDW:Stmt:=(top 74)
def aGW:Yg ["trial","aim","paper"] a31 aDW:={}
def LcQ(F W M:Nat)(ss:Aj)(bs mix cs:Ak):Y2d Y79
 | none=>∀es,sT F W M es->¬sY F W ss bs es
 | some v=>∃es,sT F W M es/\sY F W ss bs es/\gC F W es (hZ ss) (cS mix) (cS cs)=v/\(∀es',sT F W M es'->sY F W ss bs es'->v<=gC F W es' (hZ ss) (cS mix) (cS cs))/\∀e∈es,LT (1+W) e.2
def SzO(o:Y79):Prop:=∀q,o=some q->Y8G q/\(eV q).2.natAbs<2^1960
def IG(H:Hp):Y13 Y79 V
 | none,v=>v=.non
 | some q,v=>dL H (jA (eV q)) v
def IG.t{H H':Hp}{o:Y79}{v:V}(h:IG H o v)(s:Y28):IG H' o v:=by
 cases o with
 | none=>exact h
 | some q=>exact dL.flat s (Y2u) h
inductive nT (K:Aa):Yk
 | i {H:Hp} {Q:VK} {E:XK} {tv av:V} {F W M:Nat} {fs:Ah} {ws:Y0v} {bs mix cs:Ak} {Ns Nm Nc Nb BB e X:Nat} (h1:Yd9) (h2:Ybe) (h3:DS F W M fs ws bs mix cs Ns Nm Nc Nb BB e X) (h4:∀f∈cs,Fn Nc BB f) (k:∀o v H',Y1->LcQ F W M (Y0V) bs mix cs o->IG H' o v->SzO o->Y1o):nT K [tv,av] H Q E
section
def aIk(F:Ya "least_cost" "least_cost" aDW)(T:Ye)(FQ33:Y14 9 "fewest" a31 (uS K))(FQ26:Y14 7 "cost" a48 (wT K)):dO P w K mg base cW 10 f fd a31 (nT K):=by
 refine F.oky aGW λS H Q E h=>?_;obtain @⟨H,Q,E,θ,ζ,F,W,M,fs,α,bs,D,ε,Z,γ,δ,β,BB,e,X,rt,l,I,R,k⟩:=h;refine Y3 ?_;intro J A j s η _;refine⟨_,(aH (Y1D 2 aGW.nd FQ33 0 Y0w)
  (Y1k (nK (eC oJ (Y0K 2) (YgN "rule")) (lU FQ26 Y0H (Y0K 2) Y0w) jW))),?_⟩
 refine Yo;intro U Y;refine Y0g (uS.i rt l I R (λa y z H1 d g p=>?_) (λa r y z G N C H1 d g m RU n le=>?_))
 ·refine Y0u g;refine YcS (tZ (by rw[uA];decide) ?_);exact k none _ H1 d p rfl λq e=>by cases e
 ·refine Y0u g;refine YcS (CO (by rw[uA];decide) ?_);refine Y8R g;refine Y7;refine wT.i (rt.same d) m (l.same d) RU I.cg λv H2 L O u B=>?_;exact k (Y7q) v H2 (d.trans L) (Y68 G RU.any n le RU.sy) O λq e=>by cases e;exact⟨u,B⟩
end
abbrev aEn:Stmt:=(top 96)
def aJu:Yg a00 a00 aEn:={}
def nmB:Y79->Y24 Y79
 | some p,some q=>!decide (q<p)
 | _,none=>true
 | none,some _=>false
inductive uQ (K:Aa):Yk
 | i {H:Hp} {Q:VK} {E:XK} {x y:V} {a b:Y79} (h1:IG H a x) (h2:IG H b y) (h3:SzO a) (h4:SzO b) (k:Y2r (nmB a b)):uQ K [x,y] H Q E
def IG.none_iff{H:Hp}{o:Y79}{v:V}(h:IG H o v):Y0U v V.non=o.isNone:=by
 cases o with
 | none=>rw[show v=V.non from h];rfl
 | some q =>
  obtain⟨a,c,rfl,_⟩:=pA h
  rfl
section
def aIM(F:Ya "_law_no_more" "_law_no_more" aEn)(T:Ye)(FQ5:Y0k "_law_below" a00 (oO K)):dO P w K mg base cW 2 f fd a00 (uQ K):=by
 refine F.oky aJu λB H Q E h=>?_;obtain @⟨H,Q,E,x,y,a,b,j,l,n,r,k⟩:=h;refine Y3 ?_;intro z A d s D _;have u:=j.none_iff;have g:=l.none_iff;refine⟨_,(aH (Y4L (IL (VA (Ybc 0) (LU (Ybc 1)))) (oZ tU (Y0w) jW))
  (Y1k (aDe (Y1v FQ5 1 0)))),?_⟩
 refine Yo;intro m C;refine Y5j;rw[u];cases a with
 | none =>
  refine pO (pO ?_);refine Y2i;intro m;refine Y8d _ rfl ?_;rw[g];cases b <;> exact k
 | some p =>
  refine nW Y5j;rw[g];cases b with
  | none =>
   refine pO (Y8d _ rfl ?_);rw[g];exact k
  | some q =>
   refine nW (Y0g (oO.i (iI.of l) (iI.of j) (r q rfl).1 (n p rfl).1 ?_));have e:Y1c ((Y2w).1*(eV p).2) ((eV p).1*(Y2w).2)=Y1c q p:=by
    refine decide_eq_decide.mpr ?_;rw[WT (bO q).pos (bO p).pos,cV,cV]
   rw[e];exact Y5 k
end
theorem OY{W:Int}(hW:0<W):∀ps:Af,vF ((ps.map λx=>lw x W).map rv)=(ps.sum:Rat)/(W:Rat)
 | []=>by
  have:=lF hW;show(0:Rat)=_;rw[show(([]:Af).sum:Rat)=0 from rfl];grind
 | x::ps=>by
  have:=lF hW;rw[bH,bH,qN,OY hW ps,ER hW,List.sum_cons,Rat.intCast_add];grind
def NZ.one{m:Nat}{fs:Ak}(h:NZ m fs):vF (fs.map rv)=1:=by
 obtain⟨d,W,e,j,c,a,g,i,rfl⟩:=h.ex;rw[OY a,c];have:=lF a;grind
def TrC.qin{F W:Nat}{fs:Ah}{ws:Y0v}(T:TrC F W fs ws):QIn F W (hZ (Y0V)):=by
 have at_:∀w,w<W->∃x,ws[w]?=Yb/\NZ F x.2:=λw d=>by
  have a:ws[w]?=some (ws[w]'(by rw[T.w];exact d)):=aC _;exact Y0C a (T.sh _ (aE a))
 refine⟨λw d=>?_,λw d c g=>?_,λw _ c=>T.nn w c⟩
 ·obtain⟨x,a,s⟩:=at_ w d;rw[GW a];exact aAG (λf e=>(s.at f e).1.low) F
 ·obtain⟨x,a,s⟩:=at_ w d;have:=aC9 (λf e=>(s.at f e).1.low) s.one (c:=c) (by rw[s.len];exact g);rw[s.len]at this;rw[GW a];exact this
def aGM:∀F,F<=3->∀M,M<=3->(Y07).length<=20:=Kk
def iR{fs:Ak}(h:∀f∈fs,UV f):∀f∈fs,Fn (dens fs) 1000 f:=λf a=>(aBW h f a).le Dd
def ZF{l:Ak}(h:∀f∈l,UV f)(hl:l.length<=2):dens l<=998001:=aL (QY h) (Y3h (Y4q hl))
def aDa{M a b c n m:Nat}(h:n<=m):oN M a b c n<=oN M a b c m:=Y2a (Y2a (dI _ h))
def aE1:∀W,W<=3->∀M,M<=2->DB W (wE^M*554400)^(W+1)*wE^M<2^1800/\wE^M*554400<=2^80/\YcN M wE wE 1*5000<2^110/\2097152*(1000+ZB W (wE^M*554400) 110*(wE^M*554400))<=2^680/\PB W (wE^M*554400)*YcN M wE wE 1*YcN M wE wE 1<Y0i/\YcN M wE wE 1*554400<Y0i/\YcN M wE wE 1<Y0i:=Kk
structure DO(F W M:Nat)(fs:Ah)(ws:Y0v)(bs mix cs:Ak):Prop where
 T:TrC F W fs ws
 f:2<=F/\F<=3
 w:2<=W/\W<=3
 m:M<=2
 bl:Yex W
 b:∀f∈bs,Yao 1 f
 mx:NZ W mix
 cl:Yew M
 c:∀f∈cs,UV f
def DO.mn{F W M:Nat}{fs:Ah}{ws:Y0v}{bs mix cs:Ak}(L:DO F W M fs ws bs mix cs)(w:Nat):0<=Y7Y:=VN (N:=wE) (B:=1) (λf a=>⟨(YhP a).1,(YhP a).2⟩) w
def DO.cn{F W M:Nat}{fs:Ah}{ws:Y0v}{bs mix cs:Ak}(L:DO F W M fs ws bs mix cs)(k:Nat):0<=Y7W:=VN (N:=Yf1) (B:=1000) (λf a=>⟨iR L.c f a,(L.c f a).2.1⟩) k
def DO.m1{F W M:Nat}{fs:Ah}{ws:Y0v}{bs mix cs:Ak}(L:DO F W M fs ws bs mix cs):cE W (Y4t)=1:=by
 have:=uH mix;rw[L.mx.one,L.mx.len]at this;exact this.symm
def DO.few{F W M:Nat}{fs:Ah}{ws:Y0v}{bs mix cs:Ak}(L:DO F W M fs ws bs mix cs):(Y07).length<=20:=aGM F L.f.2 M (by have:=L.m;exact Oo)
def DO.fw{F W M:Nat}{fs:Ah}{ws:Y0v}{bs mix cs:Ak}(L:DO F W M fs ws bs mix cs):DS F W M fs ws bs mix cs wE wE (Yf1) 554400 1000 80 110:=by
 obtain⟨j,z,p,n,l,u,y⟩:=aE1 W L.w.2 M L.m;have A:=L.f;have B:=L.w;have g:=L.m;have few:=L.few;have h:=DG L.c;have r:Yf1<=998001:=ZF L.c (by rw[L.cl];exact g);have d:oN M wE wE 1 (Yf1)<=YcN M wE wE 1:=aDa r;have pos:0<oN M wE wE 1 (Yf1):=Yjk (fA Oo Dd) Dd;refine⟨⟨⟨Oo,Oo,Oo,Oo,Oo,by rw[aA];exact L.T.w,L.mx.len,bM,L.cl,λs i=>?_,λf a=>(YhP a).1,λf a=>?_,λf a=>iR L.c f a,pos,aI d y,aL Dd aG3⟩,L.T.b,L.bl,λf a=>(L.b f a).1,Dd,aI (Y2a d) u⟩,L.T.f,L.T.qin,λf a=>(L.b f a).2,L.mn,L.m1,L.cn,⟨Oo,Oo,Oo,L.T.w,λx e f a=>((L.T.sh x e).at f a).1,L.T.b,L.mx.len,λf a=>(YhP a).1,Dd,Kk,h,Oo,λf a=>iR L.c f a,L.cl⟩,⟨few,Dd,j⟩,z,aI (Y2a d) p,Dd,by unfold WB;exact n,aI (Nat.mul_le_mul (dI _ d) d) l⟩
 ·obtain⟨x,e,rfl⟩:=aN.mp i;exact⟨(L.T.sh x e).len,λf a=>((L.T.sh x e).at f a).1⟩
 ·rw[List.eq_of_mem_replicate a];exact(Fn.zero 1).le (Y0l)
def NA{a x:Rat}(h:a*x=a)(a0:a≠0):x=1:=by grind
section
variable{F W M:Nat}{es fs:Yi}{s:Rat}
def gT.any(I:Y0S)(few:(Y07).length<=64):sT F W M (mE F W M es fs s):=by
 have T:=I.tg Oo;have g:∀e∈mE F W M es fs s,mR F es fs s e.1:=λe c=>(I.mem T).mp (Y6L c);refine⟨Yd0,λe c=>?_,λe c h=>?_,λe c=>?_⟩
 ·rcases I.keys (g e c)with⟨_,h⟩ | ⟨_,h⟩
  ·obtain⟨d,a,q⟩:=Y7j;rw[<-q];exact(I.oa d a).1
  ·obtain⟨d,a,q⟩:=Y7j;rw[<-q];exact(I.ob d a).1
 ·rw[I.ent c]at h;rcases I.off ((I.onm (g e c)).mp h)with⟨_,d,a,q,z⟩ | ⟨_,d,a,q,z⟩
  ·rw[<-q];exact(I.oa d a).2 z
  ·rw[<-q];exact(I.ob d a).2 z
 ·have k:=g e c;rw[I.ent c];have l:0<mA F es fs s e.1:=by
   have m:=I.ann e.1;have p:mA F es fs s e.1≠0:=k;grind
  have at_:∀j,j<1+W->Y90 e.1 j=mX F es fs s e.1 j/mA F es fs s e.1:=λj i=>I.vS e.1 i;have all:cE (1+W) (cS (Y6t e.1))=1:=by
   have h:=I.xsum e.1;rw[<-bT λj i=>I.mul k i,eM]at h;exact NA h k
  refine Y0j (λv=>?_)
  ·by_cases hv:v<1+W
   ·show 0<=Y90 e.1 v;rw[at_ v hv,Rat.div_def];exact bR (I.xnn _ _) (Rat.le_of_lt (Rat.inv_pos.mpr l))
   ·show 0<=Y90 e.1 v;rw[pS (by unfold mS;rw[aA,aV];exact Oo)];exact Rat.le_refl
  ·have hd:∀n,cE (1+n) (cS (Y6t e.1))=Y90 e.1 0+cE n (λv=>Y0I (Y6t e.1)):=by
    intro n
    induction n with
    | zero=>rw[show 1+0=0+1 from rfl,dQ,gI,gI];grind
    | succ n ih=>rw[show 1+(n+1)=(1+n)+1 by exact Oo,dQ,ih,dQ];grind
   rw[hd]at all;show YcQ (Y6t e.1)=1-Y90 e.1 0;grind
end
def aAP(n:Nat):cE n Y3S=0:=by
 induction n with
 | zero=>rfl
 | succ n ih=>rw[dQ,ih];grind
section
variable{F W M:Nat}{ss:Aj}{bs bs' bs'' mix cs:Ak}{o o' o'':Y79}
def aBM(h:∀w,w<W->Y84<=cS bs' w)(L:LcQ F W M ss bs mix cs o)(L':LcQ F W M ss bs' mix cs o'):nmB o' o=true:=by
 cases o with
 | none=>cases o' <;> rfl
 | some v =>
  obtain⟨a,A,K,c,_⟩:=L;have K':sY F W ss bs' a:=λw d=>Rat.le_trans (K w d) (h w d);cases o' with
  | none=>exact absurd K' (L' a A)
  | some v' =>
   obtain⟨_,_,_,_,le,_⟩:=L';have:=le a A K';show(! Y1c v v')=true;rw[Bool.not_eq_true',decide_eq_false_iff_not];rw[c]at this;exact Rat.not_lt.mpr this
def NG{s v v':Rat}(f1:1<=F)(f4:F<=4)(m5:M<=5)(few:(Y07).length<=64)(s0:0<=s)(s1:s<=1)(h:∀w,w<W->cS bs'' w=s*Y84+(1-s)*cS bs' w)(L:LcQ F W M ss bs mix cs (Yn))(L':LcQ F W M ss bs' mix cs (some v'))(L'':LcQ F W M ss bs'' mix cs o''):∃v'',o''=some v''/\v''<=s*v+(1-s)*v':=by
 obtain⟨j,A,K,c,_,l⟩:=L;obtain⟨a,A',K',m,_,i⟩:=L';have I:gT F W M j a s:=⟨A.rl,A'.rl,f1,f4,m5,l,i,λe d=>⟨A.hM e d,A.on e d⟩,λe d=>⟨A'.hM e d,A'.on e d⟩,s0,s1⟩;have B:=I.any few;have KB:sY F W ss bs'' (mE F W M j a s):=λw g=>by
  rw[(CA I few (hZ ss w) cs).1 w g,h w g];have n:=Yi8 w g s0;have p:=Rat.mul_le_mul_of_nonneg_left (K' w g) (c:=1-s) (by grind);grind
 cases o'' with
 | none=>exact absurd KB (L'' _ B)
 | some v'' =>
  obtain⟨_,_,_,_,le,_⟩:=L'';refine Yx v'' ?_;have:=le _ B KB;rw[JM I few (Y7L) (Y4t) cs,c,m]at this;exact this
def aBL(f1:1<=F)(f4:F<=4)(m5:M<=5)(w1:1<=W)(Q:QIn F W (Y7L))(hm:∀w,0<=Y7Y)(hc:∀k,0<=Y7W)(m1:cE W (Y4t)=1)(h:∀w,w<W->Y84=1)(L:LcQ F W M ss bs mix cs o):o=some 0:=by
 have A:sT F W M (rul F W M λ_=>1):=GR f1 f4 m5 (λc h=>by cases h) (λc _=>w1);have K:sY F W ss bs (rul F W M λ_=>1):=λw d=>by
  have:=(A.said Q d).1;rw[h w d];grind
 have z:gC F W (rul F W M λ_=>1) (hZ ss) Y4t (cS cs)=0:=by
  unfold gC;rw[Y5W (λw _=>?_),aAP];unfold gL;rw[Yku (λe j=>?_),qO,Rat.mul_zero];obtain⟨c,_,rfl⟩:=aN.mp j;rw[oE,Y20,Rat.mul_zero,Rat.mul_zero]
 cases o with
 | none=>exact absurd K (L _ A)
 | some v =>
  obtain⟨l,A',_,c,le,_⟩:=L;have a:=le _ A K;rw[z]at a;have i:=(A'.cost Q hc hm m1).1;rw[c]at i;rw[Rat.le_antisymm a i]
end
abbrev aEp:Stmt:=(top 95)
def aCl:Yg ["_law_feed_here","_law_bounds","_law_found","_law_one","_law_part"] a29 aEp:={}
def aGh{f:Fr}(l:Y06)(h:0<=Y0D):0<=f.1:=by
 have a:(0:Rat)<=(f.2:Rat):=by exact_mod_cast Int.le_of_lt l.pos
 have:=bR h a;rw[pG l.pos]at this
 exact_mod_cast this
def KF{N B:Nat}{f:Fr}(h:Y2p)(h0:0<=Y0D)(h1:Y0D<=1):xR N 1 f:=by
 obtain⟨l,x,e,_⟩:=h;have c:(0:Rat)<=(N:Rat):=Rat.natCast_nonneg;refine⟨Y1R l x e,aGh l h0⟩;have a:=bR h0 c;have b:=Rat.mul_le_mul_of_nonneg_right h1 c;rw[e]at a b;rw[Rat.one_mul]at b;have a:0<=x:=by exact_mod_cast a
 have b:x<=(N:Int):=by exact_mod_cast b
 exact Oo
def sD{N:Nat}{f:Fr}(h:xR N 1 f)(n0:0<N):0<=Y0D/\Y0D<=1:=by
 refine Y0j (PF h.1.low h.2);obtain⟨⟨l,x,e,z⟩,_⟩:=h;have a:(0:Rat)<(N:Rat):=by exact_mod_cast n0
 have:x<=(N:Int):=Oo;have b:(x:Rat)<=((N:Int):Rat):=by exact_mod_cast this
 rw[<-e]at b;refine Yi7 (N:Rat) a;rw[Rat.mul_comm,Rat.mul_one];exact b
def US{N B:Nat}{f:Fr}(h:Y2p)(h0:0<N)(h1:N<=1000000)(h2:B<=1000):Y2U:=by
 have a:∀m,20<=m->(1000000:Nat)<2^m:=λm c=>Y4r (show 1000000<2^20 by decide) c;exact mL h h0 (aI h1 (a _ Dd)) (aL h2 (Nat.le_of_lt (aI Dd (a _ Dd))))
def PZ{z:Int}{n:Nat}(n0:0<n)(h0:0<=z)(h1:z<=n):xR n 1 (lw z n):=by
 have:=Fn.of (n:=z) (d:=(n:Int)) (B:=1) Oo Oo;exact⟨by simpa using this,YE h0⟩
inductive wS (K:Aa):Yk
 | i {H:Hp} {Q:VK} {E:XK} {p L ab:Addr} {n:Nat} {bs:Ak} (h1:Y31 (n+16)) (h2:Y23 H bs (.ref ab)) (h3:bs.length<=4) (h4:∀f∈bs,Yfd 1 f) (k:∀v gs H',Y81->Y0R->Y23 H' gs v->gs.length=bs.length->(∀f∈gs,xR (27720*4) 1 f)->(∀w,Y84<=cS gs w)->Y1o):wS K [Y1G,.ref ab] H Q E
def GO(f:Fr):rv (kA f)=- Y0D:=GP f
def aFi{b g:Fr}(lb:dS b)(lg:dS g)(l1:dS (Y3T (1,1) b))(l2:dS (iG (Y3T (1,1) b) g)):rv (Y6d b (1,1) b g)=rv b+(1-rv b)*Y2v:=by
 rw[nB lb.pos l2.pos,jE l1.pos lg.pos,YjO (1,1) (kA b) lb.pos,sE,GO];grind
def aFh{x y:Rat}(b0:0<=x)(b1:x<=1)(g0:0<=y)(g1:y<=1):0<=x+(1-x)*y/\x+(1-x)*y<=1/\x<=x+(1-x)*y:=by
 have m1:=bR (show 0<=1-x by grind) g0;have a:=Rat.mul_le_mul_of_nonneg_left g1 (show 0<=1-x by grind);refine Y43 ?_ <;> grind
def YR{N M:Nat}(n0:0<N)(m0:0<M){b g:Fr}(hb:xR N 1 b)(hg:xR M 1 g):xR (N*M) 1 (Y6d b (1,1) b g)/\rv b<=rv (Y6d b (1,1) b g):=by
 obtain⟨j,l⟩:=sD hb n0;obtain⟨i,n⟩:=sD hg m0;have c:Fn N (1+1) (Y3T (1,1) b):=(Fn.one N).add hb.1.neg;have h:=c.mul hg.1;have m:=(hb.1.up M).add h;have e:=aFi hb.1.low hg.1.low c.low h.low;obtain⟨m1,a,d⟩:=aFh j l i n;rw[<-e]at m1 a d;exact⟨KF m m1 a,d⟩
section
def aIO(F:Ya "_law_grown" "_law_grown" aEp)(T:Ye)(FQ9:Y9e "_law_frac")(FQ7:Ydi "_law_draw" eQ)(FQ13:YaU "_law_plus" (pD K))(FQ16:YaU "_law_times" (kO K))(FQ11:YaU "_law_less" (kE K)):dO P w K mg base cW 3 f fd a29 (wS K):=by
 refine Y0P aCl;obtain @⟨H,Q,E,p,L,ν,n,bs,F0,rb,l4,hb,k⟩:=h;refine Y3 ?_;intro cdv A Z s hr _;obtain⟨_,xs,he,C,B⟩:=nA rb;cases he;have lxs:Y54 bs.length:=gE B;refine⟨_,(aH (Y1E aCl.nd (iJ aQ))
  (aH (gM PassesOwn.never rfl (xW (Y0w)) (Ybl 3 aCl.nd) (aH (Y39 aCl.nd (cL FQ9 (Y66 0) aK))
  (aS (Y9h Y0c (cL FQ13 (aD 3) (cL FQ16 (Y2R FQ11 Yb6 3) (Y5q (iJ (Y1Y 4 Yb6)) (jJ yW (by rfl) T.b_int Kk (Y1W (oZ BZ (Y0K 4) (Y0K 4)))))))))))
  (Y1k (Ydo dM (by rfl) Kk (Y2L 2))))),?_⟩
 refine Yo;intro χ τ;refine DT (by show 0<=64;decide) λD H1 β e1 W=>Ys;intro χ τ;have F1:=F0.same W;have nD:=F0.ne β;have κ:=F0.neL β;have ε:H D=none:=β;refine Y68 _ rfl ν (Ych (W _ _ C)) (QQ (xs:=xs) (λi σ H'=>Ex4 λ(γ μ:Am) (d:Ak) (a:Al)=>An8 (σ=[Y3j,Y6 ν,Y6 D,γ,μ]) (fT H' p L (n+16-3*i)) (Y0R) (Y0x=Yq a) (Y3M (d.map jA) a) (Yf8 i) (∀f∈d,xR (27720*4) 1 f) (∀w,w<i->Y84<=cS d w)) ⟨_,_,[],[],rfl,F1,W.but,e1,bJ.nil,rfl,(λf h=>by cases h),λw h=>absurd h Oo⟩ (Y9T) ?_ ?_)
 ·obtain⟨_,_,_,_,_,_,b',_⟩:=q;exact jV.of (F0.t b' _ _ C)
 ·rintro i y σ H2 φ ⟨γ,μ,d,a,rfl,F2,b2,X,O,S,θ,U⟩;refine Yaj;intro χ τ;obtain⟨b,u,Y⟩:=eW B φ;have J:=hb b (aE u);have hi:Y3J:=(aB.mp φ).1;have ι:dL H2 (jA b) y:=Y.flat (F0.t b2) (Y2u);refine Y7;refine Y25 (n+16-3*i-1) (F2.less Oo) (λz H3 z0 z1 F3 e=>YdZ Dd Dd (λqg H4 hqg R N=>?_));have m:xR 4 1 (lw z 4):=PZ (n:=4) Dd z0 Oo;have υ:=Y4U m.1;generalize lw z 4=g at R m υ;have G:fF H2 H4:=(F2.t e).trans N.t;have I:=ι.flat G (Y2u);have j:=N _ _ (e.at nD X);have F4:=F3.same N;refine⟨_,rfl,UR j,_,rfl,?_⟩;refine qH (by show 2<=64;decide) λq5 H5 hq5 e5 ο=>Y7;have ω:=Y4U J.1;refine kE.i (iI.new e5) (iI.of (I.same ο)) NF J.1.low (Y4U (Fn.one 1)) ω λq6 H6 hq6 e6 s6=>?_;have ζ:Fn 27720 (1+1) (Y3T (1,1) b):=(Fn.one 27720).add J.1.neg;have ξ:=ζ.mul m.1;obtain⟨δ,α⟩:=YR Dd Dd J m;refine Y7;refine qH (by show 2<=64;decide) λq7 H7 hq7 e7 s7=>DT (by show 2<=64;decide) λq8 H8 hq8 e8 ψ=>?_;have S8:=(ο.trans s6).trans (s7.trans ψ);refine Y0u (S8 _ _ R);refine Y0u (S8 _ _ R);have gle:g.1<=g.2:=by
   have h:=(sD m Dd).2;have d0:=m.1.low.pos;have q0:(0:Rat)<=(g.2:Rat):=by exact_mod_cast Int.le_of_lt d0
   have:=Rat.mul_le_mul_of_nonneg_right h q0;rw[pG d0,Rat.one_mul]at this
   exact_mod_cast this
  refine Y0E _ _ rfl (YeO (xU e8 (show EA [V.ref qg,V.ref q7] (if decide (g.2<g.1)=true then 1 else 0)=some (.ref qg)by rw[bZ Oo];rfl) ?_));refine kO.i (iI.new ((s7.trans ψ) _ _ e6)) (iI.new (S8 _ _ R)) ζ.low m.1.low (Y4U ζ) υ (λq9 H9 hq9 e9 s9=>?_);have S9:=S8.trans s9;refine pD.i (iI.of (I.same S9)) (iI.new e9) J.1.low ξ.low ω (Y4U ξ) λqa Ha hqa ea sa=>?_;have M:=S9.trans sa;have lys:a.length=i:=by rw[O.len,aA,S]
  refine LJ (M _ _ j) Oo λHb eb η=>?_;have tb:=η.t (M _ _ j);refine⟨_,_,d++[Y6d b (1,1) b g],a++Y5o qa,rfl,(((F4.same M).but η nD κ).less Oo),aU.thru ε (((b2.trans e).trans N.but).trans M.but) η,eb,?_,by rw[aW,S];rfl,?_,?_⟩
  ·rw[bE];exact Yge (O.flat ((G.trans M.t).trans tb) (nX _)) tb Y2u (fL ea)
  ·intro f r;rcases dJ.mp r with r | r
   ·exact θ f r
   ·rw[cA.mp r];exact δ
  ·intro w ρ;by_cases h:w<i
   ·rw[show cS (d++[gS b (iG (gS (1,1) (kA b)) g)]) w=cS d w by unfold cS;rw[aR,cN Oo,<-aR]];exact U w h
   ·have:w=i:=Oo;subst this;rw[qF u,qF (f:=Y6d b (1,1) b g) (by rw[cF Oo,S,Nat.sub_self];rfl)];exact α
 ·rintro σ H2 ⟨γ,μ,d,a,rfl,F2,b2,X,O,S,θ,U⟩;refine⟨_,rfl,D,_,rfl,Ybq X (λl hl=>?_)⟩;have e:=Y5l a;have e3:(upd H2 l (.tup a)) l=Ym a:=bK;generalize upd H2 l (.tup a)=H3 at e e3;refine k _ d H3 ((F2.same e).less Oo) (b2.trans e.but) (dL.tup e3 (O.same e)) Oo θ λw=>?_;by_cases ρ:Y8h w
  ·exact U w ρ
  ·rw[pS Oo,pS Oo];exact Rat.le_refl
end
abbrev aAY:Stmt:=(top 97)
def sZ:Yg ["_law_script","_law_feed_here","_law_faces","_law_ways","_law_trial_here","_law_most","_law_bounds","_law_shares_here","_law_paid","_law_first","_law_more","_law_second","_law_share","_law_rest","_law_both","_law_found","_law_due"] a25 aAY:={}
def KC{i:Nat}{v v':V}{σ:St}{H:Hp}{Q:Y1I}(e:v=v')(h:Q (σ.set i (some v')) H):oK i v σ H Q:=by rw[e];exact h
def aIP{r:R2}{v:V}{tb:TE}{σ:St}{H:Hp}{Q:VK}(h:tb σ H λy H2=>r v y H2 Q):tOp r (tC v) tb σ H Q:=h
def aIQ{r:Y1i}{ta:TE}{σ:St}{H:Hp}{Q:VK}(h:ta σ H λx H1=>r [x] H1 Q):tCB r (pT ta IS) σ H Q:=h
def nE{t:Y2d VK}{Q:VK}(R:VK)(h1:∀Q':VK,(∀x H,R x H->Q' x H)->t Q')(h2:∀x H,R x H->Q x H):t Q:=h1 Q h2
def YA{N M:Nat}(n0:0<N)(m0:0<M){g b d:Fr}(hg:xR M 1 g)(hb:xR N 1 b)(hd:xR N 1 d):xR (M*N) 1 (Y6d (iG g b) (1,1) g d)/\rv (Y6d (iG g b) (1,1) g d)=Y2v*rv b+(1-Y2v)*rv d:=by
 obtain⟨j,n⟩:=sD hb n0;obtain⟨l,p⟩:=sD hd n0;obtain⟨c,u⟩:=sD hg m0;have a:Fn M (1+1) (Y3T (1,1) g):=(Fn.one M).add hg.1.neg;have i:=a.mul hd.1;have h:=(hg.1.mul hb.1);have m:=h.add i;have e:rv (Y6d (iG g b) (1,1) g d)=Y2v*rv b+(1-Y2v)*rv d:=by
  rw[nB h.low.pos i.low.pos,jE hg.1.low.pos hb.1.low.pos,jE a.low.pos hd.1.low.pos,YjO (1,1) (kA g) hg.1.low.pos,sE,GO];grind
 have s:=bR c j;have w:=bR (show 0<=1-rv g by grind) l;have r:=Rat.mul_le_mul_of_nonneg_left n c;have y:=Rat.mul_le_mul_of_nonneg_left p (show 0<=1-rv g by grind);exact⟨KF m (by rw[e];grind) (by rw[e];grind),e⟩
def aBY{f g:Fr}(lf:Y06)(lg:dS g):(iG f g).2.natAbs<=f.2.natAbs*g.2.natAbs:=by
 have h:0<f.2*g.2:=Int.mul_pos lf.pos lg.pos;have q:=EY (n:=f.1*g.1) h;have l:=jG (n:=f.1*g.1) h;have e:(iG f g).2.natAbs<=(f.2*g.2).natAbs:=by
  show(lw (f.1*g.1) (f.2*g.2)).2.natAbs<=_;have:=l.pos;exact Oo
 rwa [cY]at e
def aBZ{f g:Fr}(lf:Y06)(lg:dS g):(gS f g).2.natAbs<=f.2.natAbs*g.2.natAbs:=by
 have h:0<f.2*g.2:=Int.mul_pos lf.pos lg.pos;have q:=EY (n:=f.1*g.2+g.1*f.2) h;have l:=jG (n:=f.1*g.2+g.1*f.2) h;have e:(gS f g).2.natAbs<=(f.2*g.2).natAbs:=by
  show(lw (f.1*g.2+g.1*f.2) (f.2*g.2)).2.natAbs<=_;have:=l.pos;exact Oo
 rwa [cY]at e
def MF{f:Fr}{m:Nat}(l:Y06)(h0:0<=Y0D)(h1:Y0D<=5000)(hd:f.2.natAbs<2^m)(hm:m+13<=4000):Y2U:=by
 have d:=l.pos;have g:(0:Rat)<=(f.2:Rat):=by exact_mod_cast Int.le_of_lt d
 have a:=bR h0 g;have b:=Rat.mul_le_mul_of_nonneg_right h1 g;rw[pG d]at a b;have a:0<=f.1:=by exact_mod_cast a
 have b:f.1<=5000*f.2:=by exact_mod_cast b
 have c:f.1.natAbs<=5000*f.2.natAbs:=Oo;have p:(2:Nat)^m*2^13<=Y0J:=by rw[<-Nat.pow_add];exact Y4q hm
 have e:(2:Nat)^13=8192:=rfl;rw[e]at p;show f.1.natAbs<Y0J/\f.2.natAbs<Y0J;generalize (2:Nat)^4000=z at p ⊢;generalize (2:Nat)^m=y at p hd;constructor <;> exact Oo
def HM(f:Fr)(l:Y06)(p:Rat):iG f (eV p)=eV (Y0D*p):=iK (iF l (bO p)) Y00 (by rw[jE l.pos (bO p).pos,cV,cV])
def QP(p q:Rat):gS (eV p) (Y2w)=eV (p+q):=iK (uB (bO p) (bO q)) Y00 (by rw[nB (bO p).pos (bO q).pos,cV,cV,cV])
def aGQ{f:Fr}{B:Nat}(h:Fn 5 B f){p:Rat}(hd:(eV p).2.natAbs<2^1960):(eV (rv f*p)).2.natAbs<2^1963:=by
 rw[<-HM f h.low];have d:=aBY h.low (bO p);have a:=(h.num Dd).2;have c:=bF (eV p).2.natAbs a;have e:(2:Nat)^1963=2^1960*8:=by rw[show 1963=1960+3 from rfl,Nat.pow_add]
 rw[e];generalize (2:Nat)^1960=y at hd ⊢;exact Oo
def aBX{p q:Rat}(h1:(eV p).2.natAbs<2^1963)(h2:(eV q).2.natAbs<2^1963):(eV (p+q)).2.natAbs<2^3926:=by
 rw[<-QP];refine aI (aBZ (bO p) (bO q)) ?_;rw[show(3926:Nat)=1963+1963 from rfl,Nat.pow_add];exact Nat.mul_lt_mul'' h1 h2
section
def aIl(F:Ya "law" "law" aAY)(T:Ye)
  (FQ8:Y0k "_law_feed" a25 (AH K)) (FQ7:Ydi "_law_draw" eQ) (FQ17:Y2t "_law_trial" a13 uR) (FQ4:Y2t "_law_aim" a15 AG) (FQ6:Y2B "_law_bound" a14 rA) (FQ11:YaU "_law_less" (kE K)) (FQ10:Y2t "_law_grown" a29 (wS K)) (FQ9:Y9e "_law_frac")
  (FQ13:YaU "_law_plus" (pD K)) (FQ16:YaU "_law_times" (kO K)) (FQ5:Y0k "_law_below" a00 (oO K)) (FQ12:YaU "_law_no_more" (uQ K)) (FQ40:Y14 10 "least_cost" a31 (nT K)):dO P w K mg base cW 11 f fd a25 (yC K):=by
 refine Y0P sZ;unfold yC at h;obtain⟨a,ns,rfl,hS,hl,k⟩:=h;refine Y3 Yfy;refine⟨_,(aH (Y3e 1 sZ.nd (Y5C FQ8))
  (aH (Y1E sZ.nd (Y3F aK (jJ yW (by rfl) T.b_int Kk (Y1W (oZ oJ (Y66 1) aK)))))
  (aH (Y15 sZ.nd (Y3F aK (jJ yW (by rfl) T.b_int Kk (Y1W (aDf (oZ oJ (Y0c) aK) (aDd (oZ oJ (Y66 1) aK)))))))
  (aH (Y39 sZ.nd (lU FQ17 Y0w Y0c Y0h))
  (aH (GA (lU FQ4 Y0w Y0h (Y5q (iJ (bA aK (Yaq aK aK aK))) (Y66 1))) (Y7m 5 sZ.nd 6 sZ.nd (eE (Ybl 7 sZ.nd) (eE (Ybl 8 sZ.nd) lK))))
  (aH (Y1D 9 sZ.nd FQ40 4 (dU (bA Y2b (bA (aD 6) (Y1Y 7 (aD 8))))))
  (aH (Y1D 10 sZ.nd FQ10 1 (aD 6))
  (aH (Y4L (aC7 (qE (Y2R FQ12 (cL FQ40 (aD 4) (dU (bA Y2b (bA (aD 10) (Y1Y 7 (aD 8)))))) 9))) VJ)
  (aH (BC (cP (i:=10) sZ.nd (nK (eC oJ (Y66 1) aK) (Ydo dM (by rfl) Kk (Y1W (Y6Z ["_law_way","_law_feed_here"] [1] (fR rfl T.b_range (Y2L 3)) (Y5B FQ6)))) (aD 10))))
  (aH (Y1D 11 sZ.nd FQ40 4 (dU (bA Y2b (bA (aD 10) (bA (aD 7) (Y2L 8))))))
  (aH (Y3e 12 sZ.nd (cL FQ9 (Y66 1) aK))
  (aH (Y3e 13 sZ.nd (Y2R FQ11 Yb6 12))
  (aH (rS (i:=14) (eK.o a00 ["_law_one","_law_other","_law_share","_law_rest"] [12,13]) sZ.nd rfl rfl (kZ true true rfl T.b_zip (Y1Y 6 (aD 10))) Ybg (λ_ _ _ _=>cL FQ13 (Y1v FQ16 2 0) (Y1v FQ16 3 1)))
  (aH (Y1D 15 sZ.nd FQ40 4 (dU (bA Y2b (bA (Ydo dM (by rfl) Kk (Y2L 14)) (Y1Y 7 (aD 8))))))
  (aH (BC (iM (FY (IL (BA (eC GX (aD 9) jW) (wH (eC GX (aD 11) jW))))) (aH (cP (i:=16) sZ.nd (cL FQ13 (Y1v FQ16 12 9) (Y1v FQ16 13 11)))
  (aS (Y4L (FY (IL (VA (Ybc 15) (LU (qE (Y1v FQ5 16 15)))))) VJ))) fJ))
  (Y1k (oZ (aEX hr.units) (cL FQ40 (aD 4) (dU (bA Y2b (bA (cC aBz (dU (Y1W Yb6)) (Y0h)) (bA (aD 7) (Y2L 8)))))) (Yb6)))))))))))))))))),?_⟩
 refine Yo;intro u r;refine Y7;refine AH.i hS hl λp L H1 F1 s1 hp1 hL1=>Ys;intro u r;refine Y7;refine Y25 999999 (F1.less Dd) (λx2 H2 a2 b2 F2 s2=>Y3 (.inr (Y5p _ _ _ rfl ?_)));obtain⟨F,hF,F23⟩:∃F:Nat,(2:Int)+(if Y0U (V.int x2) (V.int 0)=true then 1 else 0)=(F:Int)/\(F=2\/F=3):=by
  split
  ·exact Yx 3 Y7e
  ·exact Yx 2 Y36
 refine KC (Ygg hF) ?_;dsimp only;refine Yo;intro u r;refine aHK (aIR (aIP (aIQ ?_)));refine nE (t:=WC _ _ _ _) (λx H'=>∃b:Bool,x=.bl b/\fT H' p L 999990) (λQ' mono=>?_) ?_
 ·refine Y6Y _ rfl _ rfl (xH (λeq=>?_) (λne=>?_))
  ·refine Y7;refine Y25 999998 F2 (λx3 H3 a3 b3 F3 s3=>Y3 ?_);exact mono _ _ (Y5 (F3.less Dd))
  ·exact mono _ _ (Yx false (F2.less Dd))
 ·rintro _ H3 ⟨b,rfl,F3⟩;refine .inr (Y5p _ _ _ rfl ?_);obtain⟨W,hW,W23⟩:∃W:Nat,(2:Int)+(if b=true then 1 else 0)=(W:Int)/\(W=2\/W=3):=by
   cases b with
   | true=>exact Yx 3 Y7e
   | false=>exact Yx 2 Y36
  refine KC (Ygg hW) (Y3a);intro u r;refine Y42;refine uR.i (n:=999900) (F:=F) (W:=W) (F3.less Dd) Oo Oo Oo Oo λtv fs ws H4 F4 s4 rt TT=>Ys;intro u r;have f23:2<=F/\F<=3:=Oo;have w23:2<=W/\W<=3:=Oo;clear hF hW F23 W23 F1 F2 F3 s1 s2;refine Y01;refine DT (by show 4<=64;decide) λq5 H5 hq5 e5 s5=>Y7;refine Y25 999899 (F4.same s5) (λx6 H6 a6 b6 F6 s6=>?_);obtain⟨M,hM,m2⟩:∃M:Nat,EA [V.int 0,V.int 1,V.int 1,V.int 2] x6=Yd (M:Int)/\M<=2:=by
   have:x6=0\/x6=1\/x6=2\/x6=3:=Oo;rcases this with rfl | rfl | rfl | rfl
   ·exact Yx 0 Dd
   ·exact Yx 1 Dd
   ·exact Yx 1 Dd
   ·exact Yx 2 Dd
  refine xU (s6.at (F4.ne hq5) e5) hM (AG.i (n:=999800) (W:=W) (M:=M) (F6.less Dd) Oo Oo Oo λav0 bs mix cs H7 F7 s7 ra0 X I shm ζ m=>?_);obtain⟨aa,xb,χ,xc,rfl,haa,G,ι,S⟩:∃a x1 x2 x3,av0=Yf/\H7 a=Ym [.int (M:Int),x1,x2,x3]/\Y23 H7 bs x1/\Y23 H7 mix x2/\Y23 H7 cs x3:=by
   obtain⟨a,xs,rfl,ha,hr⟩:=pA ra0;unfold bJ bJ bJ bJ bJ at hr;obtain⟨x0,_,rfl,r0,x1,_,rfl,r1,x2,_,rfl,r2,x3,_,rfl,r3,rfl⟩:=hr;cases(show x0=V.int (M:Int)from r0);exact⟨a,x1,x2,x3,rfl,ha,r1,r2,r3⟩
  refine⟨aa,_,rfl,jV.of haa,rfl,_,_,rfl,_,_,rfl,_,_,rfl,_,_,rfl,rfl,Y3a⟩;intro u r;have δ:dL H7 (II fs ws) tv:=Yea ((s5.t.trans ((F4.same s5).t s6)).trans (F6.t s7)) _ _;clear rt F4 F6 s4 s5 s6 s7 e5 haa ra0;obtain⟨ac,vc,rfl,hac,rvc⟩:=nA S;have lvc:vc.length=M:=by rw[gE rvc,ζ]
  obtain⟨ab,vb,rfl,R,U⟩:=nA G;have b2:∀f∈bs,Yao 1 f:=Yfe ((I f j).1.dvd (Y5P 20)) ((I f j).2);have LW:∀{ds:Ak},ds.length=W->(∀f∈ds,Yao 1 f)->DO F W M fs ws ds mix cs:=λα β=>⟨TT,f23,w23,m2,α,β,shm,ζ,m⟩;have L1:=LW X b2;refine⟨_,rfl,_,rfl,_,rfl,_,rfl,_,rfl,?_⟩;refine qH (by show 4<=64;decide) λq8 H8 hq8 e8 s8=>nT.i (δ.same s8) ⟨q8,_,χ,_,rfl,e8,G.same s8,ι.same s8,EC.of (S.same s8)⟩ L1.fw (Yco m f j) λo1 v1 H9 s9 q1 r1 z1=>Ys;intro u r;have S9:=s8.trans s9;have F9:=F7.same S9;refine Y01;refine wS.i (n:=999784) F9 (G.same S9) Oo I λvg gs Ha Fa sa rg lgs fgs vgs=>Ys;intro u r;have ta:fF H7 Ha:=S9.t.trans (F9.t sa);have ω:=δ.flat ta (nQ _ _);have xba:=G.flat ta (gU _);have μ:=ι.flat ta (gU _);have ν:=S.flat ta (gU _);have o1a:=r1.t (F9.t sa);clear δ G ι S r1 F7 F9 s8 s9 S9 sa ta e8 hac rvc R U;have g2:∀f∈gs,Yao 1 f:=Yfe ((fgs f j).1.dvd (Y5P 5)) ((fgs f j).2);have L2:=LW (lgs.trans X) g2;refine⟨_,rfl,_,rfl,_,rfl,_,rfl,_,rfl,?_⟩;refine qH (by show 4<=64;decide) λqb Hb hqb eb Y=>nT.i (ω.same Y) ⟨qb,_,χ,_,rfl,eb,rg.same Y,μ.same Y,EC.of (ν.same Y)⟩ L2.fw (Yco m f j) λo2 v2 Hc sc q2 r2 z2=>?_;have C:=Y.trans sc;refine Y5 (uQ.i r2 (o1a.t C.t) z2 z1 ?_);rw[aBM (λw _=>vgs w) q1 q2];refine Y5 (nW ?_);have Fc:=Fa.same C
  have rtc:=ω.same C;have xbc:=xba.same C;have xmc:=μ.same C;have xcc:=ν.same C;have rgc:=rg.same C;have o1c:=o1a.t C.t;clear ω xba μ ν rg o1a Fa Y sc C eb q2 r2 z2 L2;refine Y43 (λσ' H'=>∃(vm:V) (O:Ak),σ'=[Y3i,Y3j,Yd (F:Int),Yd (W:Int),YeZ,Yd (M:Int),Y6 ab,some χ,Y6 ac,some v1,some vm,none,none,none,none,none,none]/\fT H' p L 999700/\fF Hc H'/\Y23 H' O vm/\O.length=W/\(∀f∈O,xR (27720*4) 1 f))
  rotate_left
  ·refine Y7;refine Y25 999783 Fc (λy1 Hd a1 b1 γ sd=>YcS ?_);refine Yap
   ·refine Y3t _ rfl _ Oo Oo (xM (YfH p L (999783-4*i)) γ (λi y H'=>∃f:Fr,dL H' (jA f) y/\Yfd 1 f) (λi y Ha Hb s ⟨x,α,β⟩=>⟨x,α.flat s (dW x),β⟩) Oo (λi H' Q' hi F' s' k'=>?_) (λD ys He hD ee Fe Z hy hre=>?_))
    ·refine Y7;exact rA.i (n:=999783-4*(i+1)) (Yh4) λv f H2 T2 s2 r2 f2=>k' _ H2 T2 s2 ⟨f,r2,f2⟩
    ·obtain⟨O,lm,rm,fm⟩:=HL hre;refine Y7y D _ ee;have sl:=Y5l ys;have el:(upd He l (.tup ys)) l=Yd1:=bK;generalize upd He l (.tup ys)=Hf at sl el;exact⟨_,O,rfl,(Fe.same sl).less Oo,((Fc.t sd).trans (γ.t Z)).trans sl.t,dL.tup el (rm.same sl),Oo,Yfe ((fm f j).1.up 4) ((fm f j).2)⟩
   ·exact⟨_,rfl,_,gs,rfl,γ.less Dd,Fc.t sd,rgc.flat (Fc.t sd) (gU _),lgs.trans X,fgs⟩
  rintro _ Hd ⟨vm,O,rfl,γ,td,rm,lms,N⟩;refine Y3a;intro u r;have ε:=rtc.flat td (nQ _ _);have xbd:=xbc.flat td (gU _);have φ:=xmc.flat td (gU _);have θ:=xcc.flat td (gU _);have o1d:=o1c.t td;clear rtc xbc xmc xcc rgc o1c Fc td;have m4:∀f∈O,Yao 1 f:=Yfe ((N f j).1.dvd (Y5P 5)) ((N f j).2);have L3:=LW lms m4;refine⟨_,rfl,_,rfl,_,rfl,_,rfl,_,rfl,?_⟩;refine qH (by show 4<=64;decide) λqe He hqe ee Z=>nT.i (ε.same Z) ⟨qe,_,χ,_,rfl,ee,rm.same Z,φ.same Z,EC.of (θ.same Z)⟩ L3.fw (Yco m f j) λo3 v3 Hf sf q3 r3 z3=>Ys;intro u r;have Sf:=Z.trans sf;refine Y7;refine Y25 999699 (γ.same Sf) (λy2 Hg a2 b2' Fg sg=>YdZ Dd Dd (λqh Hh hqh eh sh=>Ys));intro u r;have z:xR 5 1 (lw y2 5):=PZ (n:=5) Dd a2 Oo;have gz:=Y4U z.1;generalize lw y2 5=g at eh z gz;refine qH (by show 2<=64;decide) λqi Hi hqi ei si=>Y7;refine kE.i (iI.new ei) (iI.new (si _ _ eh)) NF z.1.low (Y4U (Fn.one 1)) gz λqj Hj hqj ej sj=>Ys;intro u r;have tj:fF Hd Hj:=((Sf.t.trans ((γ.same Sf).t sg)).trans sh.t).trans (Ykj).t;have tf:fF Hf Hj:=(((γ.same Sf).t sg).trans sh.t).trans (Ykj).t;have Fj:=(Fg.same sh).same (Ykj);have egj:=(si.trans sj) _ _ eh;have ρ:=ε.flat tj (nQ _ _);have xbj:=xbd.flat tj (gU _);have υ:=φ.flat tj (gU _);have xcj:=θ.flat tj (gU _)
  have rmj:=rm.flat tj (gU _);have o1j:=o1d.t tj;have o3j:=r3.t tf;clear ε xbd φ θ rm o1d r3 γ Fg sg sh si sj tj tf ei eh ee Z sf Sf L3;obtain⟨_,ψ,hbe,R,U⟩:=nA xbj;cases hbe;obtain⟨am,κ,rfl,ham,rvm⟩:=nA rmj;have lvb:ψ.length=W:=by rw[gE U,X]
  have lvm:κ.length=W:=by rw[gE rvm,lms]
  have b4:∀f∈bs,xR (27720*4) 1 f:=Yfe ((I f j).1.up 4) ((I f j).2);have fr:Fn 5 (1+1) (Y3T (1,1) g):=(Fn.one 5).add z.1.neg;have rz:=Y4U fr;refine⟨_,rfl,_,rfl,ab,am,ψ,κ,rfl,R,ham,jU (b1:=true) (b2:=true) (xs:=ψ) (ys:=κ) (λi y H'=>∃f:Fr,dL H' (jA f) y/\∃b d:Fr,bs[i]?=YaM/\O[i]?=some d/\f=Y6d (iG g b) (1,1) g d) (λi y Ha Hb s ⟨x,α,β⟩=>⟨x,α.flat s (dW x),β⟩) Oo R ham Oo (λi x y H' Q' hx hy s' k'=>?_) (λD us Hk hD ek sk huk hrk=>?_)⟩
  ·obtain⟨b,η,rb⟩:=eW U hx;obtain⟨d,hd,rd⟩:=eW rvm hy;have fb:=(b4 b (aE η)).1;have fd:=(N d (aE hd)).1;have B:=z.1.mul fb;have p2:=fr.mul fd;refine Y01;refine kO.i (iI.new (s' _ _ egj)) (iI.of (rb.same s')) z.1.low fb.low gz (Y4U fb) (λq1 H1 hq1 e1 s1=>Y01);exact kO.i (iI.new ((s'.trans s1) _ _ ej)) (iI.of (rd.same (s'.trans s1))) fr.low fd.low rz (Y4U fd) (λq2 H2 hq2 e2 s2=>pD.i (iI.new (s2 _ _ e1)) (iI.new e2) B.low p2.low (Y4U B) (Y4U p2) λq3 H3 hq3 e3 s3=>k' _ H3 ((s1.trans s2).trans s3) ⟨_,fL e3,b,d,η,hd,rfl⟩)
  obtain⟨ts,lts,rts,fts⟩:=QN (P:=λi f=>∃b d:Fr,bs[i]?=YaM/\O[i]?=some d/\f=Y6d (iG g b) (1,1) g d) hrk;refine Ys;intro u r;have lts:YhU W:=Oo;have t4:∀f∈ts,Yao 1 f:=λf j=>by
   obtain⟨i,hi⟩:=List.getElem?_of_mem j;obtain⟨b,d,η,hd,rfl⟩:=fts i f hi;obtain⟨h,_⟩:=YA Dd Dd z (b4 b (aE η)) (N d (aE hd));exact⟨h.1.dvd (Y5P 1),h.2⟩
  have vts:∀w,w<W->cS ts w=Y2v*Y84+(1-Y2v)*cS O w:=λw hw=>by
   have e1:=aC (l:=ts) (i:=w) Oo;obtain⟨b,d,η,hd,e⟩:=fts w _ e1;rw[qF e1,qF η,qF hd,e];exact(YA Dd Dd z (b4 b (aE η)) (N d (aE hd))).2
  have L4:=LW lts t4;refine⟨_,rfl,_,rfl,_,rfl,D,us,rfl,Ybq ek (λl hl=>?_)⟩;have sl:=Y5l us;have el:(upd Hk l (.tup us)) l=Ym us:=bK;generalize upd Hk l (.tup us)=Hl at sl el;refine Y01;refine qH (by show 4<=64;decide) λqm Hm hqm em sm=>?_;have Sm:=(sk.trans sl).trans sm;refine nT.i (ρ.same Sm) ⟨qm,_,χ,_,rfl,em,dL.tup (sm _ _ el) ((rts.same sl).same sm),υ.same Sm,EC.of (xcj.same Sm)⟩ L4.fw (Yco m f j) λo4 v4 Hn sn q4 r4 z4=>Ys;intro u r;have ξ:=Sm.trans sn;have ο:=o1j.t ξ.t;have τ:=o3j.t ξ.t;have rtn:=ρ.same ξ;have xmn:=υ.same ξ;have xcn:=xcj.same ξ;have egn:=ξ _ _ egj;have ejn:=ξ _ _ ej;clear ρ υ xcj o1j o3j Sm sm sl sk el em ek rts hrk;refine Y43 (λσ' H'=>∃(o16:Am),σ'=[Y3i,Y3j,Yd (F:Int),Yd (W:Int),YeZ,Yd (M:Int),Y6 ab,some χ,Y6 ac,some v1,Y6 am,some v3,Y6 qh,Y6 qj,Y6 D,some v4,o16]/\aT Hn H')
  rotate_left
  ·refine Y43 (λb H'=>b=(o1.isSome&&o3.isSome)/\H'=Hn)
   ·refine Y5j;rw[ο.none_iff];cases o1 with
    | none=>exact nW Y4D
    | some B =>
     refine pO Y5j;rw[τ.none_iff];cases o3 <;> exact Y4D
   rintro _ Hn' ⟨rfl,eHn⟩;rw[eHn];clear eHn;cases o1 with
   | none=>exact nW (Y5 Y09)
   | some B =>
    cases o3 with
    | none=>exact nW (Y5 Y09)
    | some p3 =>
     refine Ycf;intro u r;have r1n:Y5X Hn B v1:=ο;have r3n:Y5X Hn p3 v3:=τ;obtain⟨g0,g1⟩:=sD z Dd;obtain⟨p4,rfl,le4⟩:=NG Oo Oo Oo (by have:=L1.few;exact Oo) g0 g1 vts q1 q3 q4;have r4n:Y5X Hn p4 v4:=r4;have J:∀{ds:Ak} {p:Rat},LcQ F W M (Y0V) ds mix cs (YcW)->0<=p/\p<=5000:=λq=>by
      obtain⟨es,A,_,c,_⟩:=q;obtain⟨α,β⟩:=A.cost TT.qin L1.cn L1.mn L1.m1;rw[c]at α β;exact⟨α,Rat.le_trans β (OW ζ Oo (Yco m f j) (DG m))⟩
     obtain⟨w1,w1'⟩:=J q1;obtain⟨w3,w3'⟩:=J q3;have er:rv (Y3T (1,1) g)=1-Y2v:=by rw[YjO (1,1) (kA g) z.1.low.pos,sE,GO];grind
     have a1:=bR g0 w1;have a1':=Rat.mul_le_mul_of_nonneg_left w1' g0;have a3:=bR (show 0<=1-rv g by grind) w3;have a3':=Rat.mul_le_mul_of_nonneg_left w3' (show 0<=1-rv g by grind);have m1:=aGQ z.1 (z1 B rfl).2;have m3:=aGQ fr (z3 p3 rfl).2;rw[er]at m3;have sz1:Y8G (Y2v*B):=MF (Y00) (by rw[cV];exact a1) (by rw[cV];grind) m1 Dd;have sz3:Y8G ((1-Y2v)*p3):=MF (Y00) (by rw[cV];exact a3) (by rw[cV];grind) m3 Dd;have szd:Y8G (Y2v*B+(1-Y2v)*p3):=MF (Y00) (by rw[cV];grind) (by rw[cV];grind) (aBX m1 m3) Dd;refine Y01;refine kO.i (iI.new egn) (iI.of r1n) z.1.low (bO B) gz ((z1 B rfl).1) (λqa Ha hqa ea sa=>?_);rw[HM g z.1.low]at ea;refine Y01;refine kO.i (iI.new (sa _ _ ejn)) (iI.of (r3n.same sa)) fr.low (bO p3) rz ((z3 p3 rfl).1) (λqb Hb hqb eb Y=>?_);rw[HM _ fr.low,er]at eb;refine pD.i (iI.new (Y _ _ ea)) (iI.new eb) (Y00) (Y00) sz1 sz3 λqc Hc' hqc ec sc=>?_;rw[QP]at ec;have C:=(sa.trans Y).trans sc;refine Y43 (λb H'=>Yw b/\H'=Hc')
     ·refine Y5j;rw[(show IG Hn (some p4) v4 from r4n).none_iff];refine nW (Y0g (oO.i (iI.new ec) (iI.of (r4n.same C)) szd (z4 p4 rfl).1 ?_));rw[show decide ((eV (rv g*B+(1-rv g)*p3)).1*(eV p4).2<(eV p4).1*(eV (rv g*B+(1-rv g)*p3)).2)=false by
       refine bZ λh=>?_;rw[WT (bO _).pos (bO p4).pos,cV,cV]at h;exact absurd le4 (Rat.not_le.mpr h)]
      exact Y8d _ rfl rfl
     rintro _ Hc2 ⟨rfl,eHc⟩;rw[eHc];exact nW (Y5 C)
  rintro _ Ho ⟨o16,rfl,so⟩;have rto:=rtn.same so;have xmo:=xmn.same so;have xco:=xcn.same so;clear rtn xmn xcn egn ejn ο τ q1 q3 q4 r4;refine Y01;refine qH (by show 2<=64;decide) λqr Hr hqr er sr=>qH (by show 1<=64;decide) λqs Hs hqs es ss=>Y7;refine aIT (k:=W) es Oo λqt Ht st et=>Y01;refine qH (by show 4<=64;decide) λqu Hu hqu eu su=>?_;have S1:=(sr.trans ss).trans (st.trans su);have O1:∀f∈List.replicate W ((1,1):Fr),Yao 1 f:=λf j=>by rw[List.eq_of_mem_replicate j];exact⟨Fn.one _,Dd⟩
  have L5:=LW bM O1;refine nT.i (rto.same S1) ⟨qu,_,χ,_,rfl,eu,(dL.tup (su _ _ et) (bJ.ofIdx (by rw[aA,bM,bM]) λi y hi=>by
   have li:=(YeF).1;rw[bM]at li;rw[List.getElem?_replicate,if_pos li]at hi;cases hi;exact⟨jA (1,1),by rw[aG,List.getElem?_replicate,if_pos li];rfl,fL ((ss.trans (st.trans su)) _ _ er)⟩)),xmo.same S1,EC.of (xco.same S1)⟩ L5.fw (Yco m f j) λo5 v5 Hv sv q5 r5 z5=>?_
  obtain rfl:=aBL Oo Oo Oo Oo TT.qin L1.mn L1.cn L1.m1 (λw hw=>by
   rw[qF (f:=(1,1)) (by rw[List.getElem?_replicate,if_pos hw])];exact sE) q5
  have r5:Y5X Hv 0 v5:=r5;rw[CW]at r5;refine qH (by show 2<=64;decide) λqw Hw hqw ew sw=>reD (r5.same sw) (fL (f:=(0,1)) ew) (AT _) (AT _) ?_;exact k _
end
def QA{K:Aa}{C:Addr}:∀f∈([]:Ah),oI K C f:=λ_ h=>by cases h
def nV{K:Aa}{C:Addr}{g:Str}{fs:Ah}(h:oI K C g)(r:∀f∈fs,oI K C f):∀f∈g::fs,oI K C f:=λf a=>by
 rcases bN.mp a with rfl | a
 ·exact h
 ·exact r f a
def aIW{α:Type}{us:Yt}(h:Y8l 1):∃a,us=[a]:=match us,h with | [a],_=>⟨a,rfl⟩
def aGD{α:Type}{us:Yt}(h:Y8l 2):∃a b,us=[a,b]:=match us,h with | [a,b],_=>⟨a,b,rfl⟩
def aBK{α:Type}{us:Yt}(h:Y8l 3):∃a b c,us=[a,b,c]:=match us,h with | [a,b,c],_=>⟨a,b,c,rfl⟩
def aIV{α:Type}{us:Yt}(h:Y8l 4):∃a b c d,us=[a,b,c,d]:=match us,h with | [a,b,c,d],_=>⟨a,b,c,d,rfl⟩
def aIU{α:Type}{us:Yt}(h:Y8l 5):∃a b c d e,us=[a,b,c,d,e]:=match us,h with | [a,b,c,d,e],_=>⟨a,b,c,d,e,rfl⟩
def aFo{K:Aa}{x q:Str}{st:Stmt}{f:Addr}{fd:FuncData}(F:Ya x q st)(P:Y2d FuncData)(h:P fd):∃fd,P fd:=⟨fd,h⟩
inductive Dn (K:Aa) (n:Str) (st:Stmt):Prop
 | mk {f:Addr} {oc:Value} {od:Y2N} {kV dc pm:Value} {an:Y2N} {cd ct:Value} {sl:Y55} (a:PySem.W.nsIn K mainGlobals n=Y3w f) (l:YgZ=Y8T oc od (PySem.W.fnOf n n (nI st) (Y7K) (Y4M) .none kV dc pm an cd ct) sl) (c:Yg8 cd n=true) (k:Y9P K f=true):Yh n st
def fnd(l:PySem.W.OpenLaw)(w:World){K:Aa}{h:Heap}{mg:Y0y}(X:K.In h)(G:Yg4 mg)(base:Heap){n:Str}{st:Stmt}{L:Nat}{ps:Ah}{sp:Sp}(d:Yh n st)(o:∀{f:Addr}{fd:FuncData},Ya n n st->dO l.prog w K mg base cW L f fd ps sp)(b:∀(kV doc pm:Value) (an:Y2N) (cdv ct:Value) (us:Ag),YjD->bindArgs (PySem.W.fnOf n n (nI st) (Y7K) (Y4M) .none kV doc pm an cdv ct) ⟨us,[]⟩=pure (ps.zip us):=by intro _ _ _ _ _ _ us hl;first | (obtain⟨_,rfl⟩:=aIW hl;rfl) | (obtain⟨_,_,rfl⟩:=aGD hl;rfl) | (obtain⟨_,_,_,rfl⟩:=aBK hl;rfl) | (obtain⟨_,_,_,_,rfl⟩:=aIV hl;rfl) | (obtain⟨_,_,_,_,_,rfl⟩:=aIU hl;rfl)):fG cW l.prog w K mg base L n ps sp:=by
 obtain⟨a,e,c,k⟩:=d;exact⟨_,_,o (wA e c k),PySem.W.mg_of X G a,k,(wA e c k).binds b⟩
open PySem.W (nsIn fnOf codeIn keepIn mg_of mg_none_of) in
def aFG{l:PySem.W.OpenLaw}{w:World}{K:Aa}{h:Heap}{mg:Y0y}{fa:Addr}{c_ONE:Addr}{c_NOUGHT:Addr}{c_Weighing:Addr}{c_Master:Addr}{tok_LOOKS_ON:Tok}{tok_ROOM:Tok}{tok_LACK:Tok}{tok_RULE:Tok}{tok_NONE:Tok}(X:K.In h)(G:Yg4 mg)(hfa:mg "law" = Y6 fa)
  (u_ONE:Y1A "ONE" = Y3w c_ONE)
  (u_NOUGHT:Y1A "NOUGHT" = Y3w c_NOUGHT)
  (u_Weighing:Y1A "Weighing" = Y3w c_Weighing)
  (u_Master:Y1A "Master" = Y3w c_Master)
  (u_LOOKS_ON:Y1A "LOOKS_ON" = some (some (.int 0 tok_LOOKS_ON)))
  (u_ROOM:Y1A "ROOM" = some (some (.str "room" tok_ROOM)))
  (u_LACK:Y1A "LACK" = some (some (.str "lack" tok_LACK)))
  (u_RULE:Y1A "RULE" = some (some (.str "rule" tok_RULE)))
  (u_NONE:Y1A "NONE" = some (some (.str "none" tok_NONE)))
  (mi_Master:Yg0 c_Master=true)
  (pg_Master:Yk3 c_Master=true)
  (hd_Master:YdB c_Master=true)
  (po_Master:YfN c_Master=true)
  (sa_Master:Ya7 K "__setattr__" = some (YhZ "object.__setattr__"))
  (n0_Master:Ya7 K "rows" = Y16)
  (n1_Master:Ya7 K "parts" = Y16)
  (n2_Master:Ya7 K "standing" = Y16)
  (mi_Weighing:Yg0 c_Weighing=true)
  (pg_Weighing:Yk3 c_Weighing=true)
  (hd_Weighing:YdB c_Weighing=true)
  (po_Weighing:YfN c_Weighing=true)
  (sa_Weighing:Ya0 K "__setattr__" = some (YhZ "object.__setattr__"))
  (n0_Weighing:Ya0 K "rising" = Y16)
  (n1_Weighing:Ya0 K "units" = Y16)
  (n2_Weighing:Ya0 K "weights" = Y16)
  (n3_Weighing:Ya0 K "cost_unit" = Y16)
  (n4_Weighing:Ya0 K "costs" = Y16)
  (o_ONE:vY K c_ONE [1,1]=true)
  (o_NOUGHT:vY K c_NOUGHT [0,1]=true)
  (d0:Yh "common_divisor" aEa)
  (d1:Yh "plus" aDH)
  (d2:Yh "less" aDT)
  (d3:Yh "times" aDw)
  (d4:Yh "is_less" aDZ)
  (d5:Yh "total" aDu)
  (d6:Yh "least_place" aDV)
  (d7:Yh "faces_of" aD4)
  (d8:Yh "ways_of" aDs)
  (d9:Yh "way_shares" aDt)
  (d10:Yh "power" aDG)
  (d11:Yh "weight" aDr)
  (d12:Yh "counts_that_are" aAZ)
  (d13:Yh "all_counts" aEh)
  (d14:Yh "one_more" aDN)
  (d15:Yh "ones_more" aDM)
  (d16:Yh "sums_at" aDx)
  (d17:Yh "worths" aDo)
  (d18:Yh "common_lower" aD9)
  (d19:Yh "times_whole" aDv)
  (d20:Yh "in_units" aD0)
  (d21:Yh "look_cost" aDS)
  (a22:Ya0 K "__init__" = Y3w f22) (l22:K.lookup f22=Y8T oc22 od22 (fnOf "__init__" "Weighing.__init__" (nI sQ3) (kS sQ3) (bB sQ3) .none kV22 dc22 pm22 an22 cd22 ct22) sl22) (c22:codeIn K cd22 "Weighing.__init__" = true) (k22:Ybx K f22=true) (fn22:Y9S K f22=true) (kp22:Ybx K c_Weighing=true)
  (d23:Yh "weights_at" aDq)
  (d24:Yh "best_places" aEe)
  (d25:Yh "looks_on" aDR)
  (d26:Yh "noughts" aDP)
  (d27:Yh "counts_behind" aD7)
  (d28:Yh "counts_come_to" aD6)
  (d29:Yh "rule_within" aDB)
  (d30:Yh "plain_table" aDI)
  (d31:Yh "one_among" aDO)
  (d32:Yh "product" aDE)
  (d33:Yh "is_sooner" aDY)
  (d34:Yh "leaving" aDU)
  (d35:Yh "exchanged" aD5)
  (a36:Ya7 K "__init__" = Y3w f36) (l36:K.lookup f36=Y8T oc36 od36 (fnOf "__init__" "Master.__init__" (nI sQ0) (kS sQ0) (bB sQ0) .none kV36 dc36 pm36 an36 cd36 ct36) sl36) (c36:codeIn K cd36 "Master.__init__" = true) (k36:Ybx K f36=true) (fn36:Y9S K f36=true) (kp36:Ykv K=true)
  (a37:Ya7 K "rates" = Y3w f37) (l37:K.lookup f37=Y8T oc37 od37 (fnOf "rates" "Master.rates" (nI sQ2) (kS sQ2) (bB sQ2) .none kV37 dc37 pm37 an37 cd37 ct37) sl37) (c37:codeIn K cd37 "Master.rates" = true) (k37:Ybx K f37=true) (fn37:Y9S K f37=true) (kp37:Ykv K=true)
  (a38:Ya7 K "enter" = Y3w f38) (l38:K.lookup f38=Y8T oc38 od38 (fnOf "enter" "Master.enter" (nI sQ1) (kS sQ1) (bB sQ1) .none kV38 dc38 pm38 an38 cd38 ct38) sl38) (c38:codeIn K cd38 "Master.enter" = true) (k38:Ybx K f38=true) (fn38:Y9S K f38=true) (kp38:Ykv K=true)
  (d39:Yh "lacks" aDX)
  (d40:Yh "rates_of" aDD)
  (d41:Yh "factors_of" aD3)
  (d42:Yh "column_by" aEc)
  (d43:Yh "better" aEd)
  (d44:Yh "settled" aDA)
  (d45:Yh "rule_faces" aDC)
  (d46:Yh "amounts" aEg)
  (d47:Yh "comings" aEb)
  (d48:Yh "onwards" aDL)
  (d49:Yh "spent" aDz)
  (d50:Yh "over" aDK)
  (d51:Yh "parts_of" aDJ)
  (d52:Yh "says_of_parts" aAX)
  (d53:Yh "mixed" aDQ)
  (d54:Yh "fraction" aD1)
  (d55:Yh "standing_mixed" aDy)
  (d56:Yh "prices_of" aDF)
  (d57:Yh "without_costs" aDp)
  (d58:Yh "cost" aD8)
  (d59:Yh "fewest" aD2)
  (d60:Yh "least_cost" aDW)
  (d61:Yh "_law_feed" sQ8)
  (d62:Yh "_law_draw" sQ7)
  (d63:Yh "_law_frac" sQ9)
  (d64:Yh "_law_plus" aEm)
  (d65:Yh "_law_times" aEj)
  (d66:Yh "_law_below" sQ5)
  (d67:Yh "_law_less" aEo)
  (d68:Yh "_law_shares" aEl)
  (d69:Yh "_law_trial" aEi)
  (d70:Yh "_law_some" aEk)
  (d71:Yh "_law_bound" sQ6)
  (d72:Yh "_law_aim" sQ4)
  (d73:Yh "_law_no_more" aEn)
  (d74:Yh "_law_grown" aEp)
  (d75:Yh "law" aAY) (z0:Y1A "list" = Y16) (z1:Y1A "len" = Y16) (z2:Y1A "abs" = Y16) (z3:Y1A "range" = Y16) (z4:Y1A "sum" = Y16) (z5:Y1A "zip" = Y16) (z6:Y1A "reversed" = Y16) (z7:Y1A "tuple" = Y16) (z8:Y1A "sorted" = Y16) (z9:Y1A "int" = Y16) (z10:Y1A "min" = Y16) (z11:Y1A "enumerate" = Y16) (z12:Y1A "any" = Y16) :
  ∃fd:FuncData,(∀(s:Shared) (v:Value),Ycj s ⟨[v],[]⟩ [("_law_script",v)])/\∀base:Heap,K.In base->YdA mg->dO l.prog w K mg base cW 11 fa fd a25 (yC K):=by
 obtain⟨m,y,i,p⟩:=d75;have e:=hfa.symm.trans (Y6R m);cases e;generalize hcl:(⟨c_ONE,c_NOUGHT,c_Weighing,c_Master,tok_LOOKS_ON,tok_ROOM,tok_LACK,tok_RULE,tok_NONE⟩:Cl)=c;have T:Ye:=by rw[<-hcl];exact⟨Y4e z0,Y4e z1,Y4e z2,Y4e z3,Y4e z4,Y4e z5,Y4e z6,Y4e z7,Y4e z8,Y4e z9,Y4e z10,Y4e z11,Y4e z12,Y6R u_ONE,Y6R u_NOUGHT,Y6R u_LOOKS_ON,Y6R u_ROOM,Y6R u_LACK,Y6R u_RULE,Y6R u_NONE,Y6R u_Master,⟨⟨pg_Master,hd_Master,po_Master,sa_Master⟩,(nV n0_Master (nV n1_Master (nV n2_Master QA)))⟩,Y6R u_Weighing,⟨⟨pg_Weighing,hd_Weighing,po_Weighing,sa_Weighing⟩,(nV n0_Weighing (nV n1_Weighing (nV n2_Weighing (nV n3_Weighing (nV n4_Weighing QA)))))⟩,o_ONE,o_NOUGHT⟩
 have F75:=wA (st:=aAY) y i p;refine aFo F75 _ ⟨λs v=>.of_eq rfl,λbase _ _=>?_⟩;have N:=@fnd l w K h mg X G base;have GQ24:=Yj d0 (aIA F T);have GQ55:=Yj d1 (aH5 F T GQ24);have GQ43:=Yj d2 (aIh F T GQ55);have GQ67:=Yj d3 (aHT F T GQ24);have GQ36:=Yj d4 (aIo F T);have GQ69:=Yj d5 (aHR F T GQ55);have GQ41:=Yj d6 (aIj F T GQ36);have GQ31:=Yj d7 (aIt F T);have GQ71:=Yj d8 (aHP F T);have GQ70:=Yj d9 (aHQ F T);have GQ56:=Yj d10 (aH4 F T);have GQ72:=Yj d11 (aHO F T GQ70 GQ67 GQ56);have GQ29:∀n:Nat,fG cW l.prog w K mg base (1+n) "counts_that_are" a28 (pF n):=λn=>by
  induction n with
  | zero=>exact Yj d12 (aHv F T)
  | succ n ih=>exact Yj d12 (aIv n F T ih)
 have GQ18:=Yj d13 (aIG F T (GQ29 4));have GQ49:=Yj d14 (aIb F T);have GQ50:=Yj d15 (aIa F T GQ49);have GQ66:=Yj d16 (aHU F T GQ72 GQ71 GQ67 GQ69 GQ43 GQ50 GQ55);have GQ75:=Yj d17 (aHL F T GQ18 GQ31 GQ66 GQ41);have GQ25:=Yj d18 (aIz F T GQ24);have GQ68:=Yj d19 (aHS F T);have GQ35:=Yj d20 (aIp F T GQ68);have GQ44:=Yj d21 (aIg F T GQ67 GQ72 GQ71 GQ69);have F22:=wA (st:=sQ3) l22 c22 k22;have j:=F22.binds (ps:=a21) λ_ _ _ _ _ _ a d=>by obtain⟨_,_,_,rfl⟩:=aBK (show a.length=3 from d);rfl
 have GQ3:FnO l.prog w K mg base 7 c.Weighing a21 (Yk1 K):=⟨_,_,oQ3 F22 T GQ18 GQ31 GQ71 GQ72 GQ25 GQ35 GQ44,⟨(by rw[<-hcl];exact mi_Weighing),(by rw[<-hcl];exact a22),fn22,(by rw[<-hcl];exact kp22)⟩,j⟩;have GQ73:=Yj d23 (aHN F T);have GQ20:=Yj d24 (aIE F T GQ73 GQ50);have GQ45:=Yj d25 (aIf F T);have GQ47:=Yj d26 (aId F T);have GQ27:=Yj d27 (aIx F T GQ45 GQ50);have GQ28:=Yj d28 (aIw F T GQ47 GQ27);have GQ61:=Yj d29 (aHZ F T GQ28);have GQ54:=Yj d30 (aH6 F T);have GQ48:=Yj d31 (aIc F T);have GQ58:=Yj d32 (aH2 F T);have GQ37:=Yj d33 (aIn F T);have GQ42:=Yj d34 (aIi F T GQ37);have GQ30:=Yj d35 (aIu F T);have F36:=wA (st:=sQ0) l36 c36 k36;have r:=F36.binds (ps:=a16) λ_ _ _ _ _ _ a d=>by obtain⟨_,_,_,rfl⟩:=aBK (show a.length=3 from d);rfl
 have GQ0:FnO l.prog w K mg base 2 c.Master a16 (Ykd):=⟨_,_,oQ0 F36 T GQ48,⟨(by rw[<-hcl];exact mi_Master),(by rw[<-hcl];exact a36),fn36,(by rw[<-hcl];exact kp36)⟩,r⟩;have F37:=wA (st:=sQ2) l37 c37 k37;have g:=F37.binds (ps:=a40) λ_ _ _ _ _ _ a d=>by obtain⟨_,_,rfl⟩:=aGD (show a.length=2 from d);rfl
 have GQ2:FnM l.prog w K mg base 2 c.Master "rates" a40 (Yke):=⟨_,_,oQ2 F37 T GQ58,⟨(by rw[<-hcl];exact a37),fn37,k37⟩,g⟩;have F38:=wA (st:=sQ1) l38 c38 k38;have u:=F38.binds (ps:=a17) λ_ _ _ _ _ _ a d=>by obtain⟨_,_,_,rfl⟩:=aBK (show a.length=3 from d);rfl
 have GQ1:FnM l.prog w K mg base 3 c.Master "enter" a17 (Ykf):=⟨_,_,oQ1 F38 T GQ58 GQ42 GQ30,⟨(by rw[<-hcl];exact a38),fn38,k38⟩,u⟩;have GQ38:=Yj d39 (aIm F T);have GQ59:=Yj d40 (aH1 F T GQ38 GQ2);have GQ32:=Yj d41 (aIs F T);have GQ22:=Yj d42 (aIC F T GQ50);have GQ21:=Yj d43 (aID F T GQ59 GQ32 GQ48 GQ20 GQ38 GQ22);have GQ63:=Yj d44 (aHX F T GQ68 GQ0 GQ21 GQ1);have GQ60:=Yj d45 (aH0 F T);have GQ19:=Yj d46 (aIF F T GQ47 GQ60 GQ45 GQ67 GQ50 GQ55);have GQ23:=Yj d47 (aIB F T GQ19 GQ67 GQ72);have GQ51:=Yj d48 (aH9 F T GQ23 GQ67 GQ45);have GQ64:=Yj d49 (aHW F T GQ69 GQ67 GQ51);have GQ52:=Yj d50 (aH8 F T GQ67);have GQ53:=Yj d51 (aH7 F T GQ19 GQ67);have GQ62:∀n:Nat,fG cW l.prog w K mg base (4+n) "says_of_parts" a01 (qG K n):=λn=>by
  induction n with
  | zero=>exact Yj d52 (aHu F T)
  | succ n ih=>exact Yj d52 (aHY n F T GQ52 GQ55 ih)
 have GQ46:=Yj d53 (aIe F T GQ53 GQ43 (GQ62 2) GQ61 GQ60);have GQ34:=Yj d54 (aIq F T GQ24);have GQ65:=Yj d55 (aHV F T GQ61 GQ54 GQ46 GQ34);have GQ57:=Yj d56 (aH3 F T GQ59 GQ32 GQ34);have GQ74:=Yj d57 (aHM F T);have GQ26:=Yj d58 (aIy F T GQ71 GQ69 GQ67 GQ64);have GQ33:=Yj d59 (aIr F T GQ3 GQ63 GQ38 GQ57 GQ75 GQ74 GQ65 GQ31);have GQ40:=Yj d60 (aIk F T GQ33 GQ26);have GQ8:=Yj d61 (oQ8 F T);have GQ7:=Yj d62 (oQ7 F T);have GQ9:=Yj d63 (oQ9 F T);have GQ13:=Yj d64 (aIL F T GQ9);have GQ16:=Yj d65 (aII F T GQ9);have GQ5:=Yj d66 (oQ5 F T);have GQ11:=Yj d67 (aIN F T GQ9);have GQ14:=Yj d68 (aIK F T GQ7 GQ9);have GQ17:=Yj d69 (aIH F T GQ7 GQ14);have GQ15:=Yj d70 (aIJ F T GQ7 GQ9);have GQ6:=Yj d71 (oQ6 F T GQ7 GQ9);have GQ4:=Yj d72 (oQ4 F T GQ6 GQ14 GQ15);have GQ12:=Yj d73 (aIM F T GQ5);have GQ10:=Yj d74 (aIO F T GQ9 GQ7 GQ13 GQ16 GQ11);exact aIl F75 T GQ8 GQ7 GQ17 GQ4 GQ6 GQ11 GQ10 GQ9 GQ13 GQ16 GQ5 GQ12 GQ40
end Kw
open PySem PySem.W PyProof.Rows
set_option maxRecDepth 100000 in
set_option maxHeartbeats 0 in
theorem PySem.Challenge.cw_earlystop_k55_whole_as_bounds_grow_holds : PySem.Challenge.rw_earlystop_k55_whole_as_bounds_grow.Holds := by
  w_on;o_law;k_head;(case hw=>w_witness2)
  k_fill
  refine L2.VL (l:=PySem.Challenge.rw_earlystop_k55_whole_as_bounds_grow) (n:=63) (k:=11) (x := "_law_script") (CX:=L2.cW) (sp:=λK=>Kw.yC K) rfl Dd rfl ⟨rfl,Dd,Dd,rfl⟩ (λw h Y=>PySem.W.kIn_of Y) ?F (λK H a j e _ g=>Kw.WH g e) (λ_ _ _ _ z=>z)
  case F =>
    intro w m i h KX G d
    refine' Kw.aFG KX G d ?u_ONE ?u_NOUGHT ?u_Weighing ?u_Master ?u_LOOKS_ON ?u_ROOM ?u_LACK ?u_RULE ?u_NONE ?mi_Master ?pg_Master ?hd_Master ?po_Master ?sa_Master ?n0_Master ?n1_Master ?n2_Master ?mi_Weighing ?pg_Weighing ?hd_Weighing ?po_Weighing ?sa_Weighing ?n0_Weighing ?n1_Weighing ?n2_Weighing ?n3_Weighing ?n4_Weighing ?o_ONE ?o_NOUGHT ?d0 ?d1 ?d2 ?d3 ?d4 ?d5 ?d6 ?d7 ?d8 ?d9 ?d10 ?d11 ?d12 ?d13 ?d14 ?d15 ?d16 ?d17 ?d18 ?d19 ?d20 ?d21 ?a22 ?l22 ?c22 ?k22 ?fn22 ?kp22 ?d23 ?d24 ?d25 ?d26 ?d27 ?d28 ?d29 ?d30 ?d31 ?d32 ?d33 ?d34 ?d35 ?a36 ?l36 ?c36 ?k36 ?fn36 ?kp36 ?a37 ?l37 ?c37 ?k37 ?fn37 ?kp37 ?a38 ?l38 ?c38 ?k38 ?fn38 ?kp38 ?d39 ?d40 ?d41 ?d42 ?d43 ?d44 ?d45 ?d46 ?d47 ?d48 ?d49 ?d50 ?d51 ?d52 ?d53 ?d54 ?d55 ?d56 ?d57 ?d58 ?d59 ?d60 ?d61 ?d62 ?d63 ?d64 ?d65 ?d66 ?d67 ?d68 ?d69 ?d70 ?d71 ?d72 ?d73 ?d74 ?d75 ?z0 ?z1 ?z2 ?z3 ?z4 ?z5 ?z6 ?z7 ?z8 ?z9 ?z10 ?z11 ?z12
    (case u_ONE|u_NOUGHT|u_Weighing|u_Master|u_LOOKS_ON|u_ROOM|u_LACK|u_RULE|u_NONE|mi_Master|pg_Master|hd_Master|po_Master|sa_Master|n0_Master|n1_Master|n2_Master|mi_Weighing|pg_Weighing|hd_Weighing|po_Weighing|sa_Weighing|n0_Weighing|n1_Weighing|n2_Weighing|n3_Weighing|n4_Weighing|a22|l22|c22|k22|fn22|kp22|a36|l36|c36|k36|fn36|kp36|a37|l37|c37|k37|fn37|kp37|a38|l38|c38|k38|fn38|kp38|z0|z1|z2|z3|z4|z5|z6|z7|z8|z9|z10|z11|z12=>k_is);(case d0|d1|d2|d3|d4|d5|d6|d7|d8|d9|d10|d11|d12|d13|d14|d15|d16|d17|d18|d19|d20|d21|d23|d24|d25|d26|d27|d28|d29|d30|d31|d32|d33|d34|d35|d39|d40|d41|d42|d43|d44|d45|d46|d47|d48|d49|d50|d51|d52|d53|d54|d55|d56|d57|d58|d59|d60|d61|d62|d63|d64|d65|d66|d67|d68|d69|d70|d71|d72|d73|d74|d75=>refine' Kw.Dn.mk ?a ?l ?c ?k;(case a=>k_is);(case l=>k_is);(case c=>k_is);(case k=>k_is));(case o_ONE=>kernel_rfl);(case o_NOUGHT=>kernel_rfl)
