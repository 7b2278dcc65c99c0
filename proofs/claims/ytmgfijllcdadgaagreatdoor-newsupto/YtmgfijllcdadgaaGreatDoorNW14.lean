import Derived.Test.YtmgfijllcdadgaaGreatDoorNW00
import Derived.Test.YtmgfijllcdadgaaGreatDoorNW01
import Derived.Deep.DeepCutAuto
import Derived.Deep.CutBlock
set_option linter.unusedVariables false
set_option linter.unusedSimpArgs false
set_option maxHeartbeats 4000000
namespace Rf
open Mk (Bs aD Ev)
def cB(c:Int):Bool:=c==32||c==9||c==10||c==13
def eC(c:Int):Bool:=(decide (65≤c)&&decide (c≤90))||(decide (97≤c)&&decide (c≤122))||c==95||c==58
def eY(c:Int):Bool:=eC c||(decide (48≤c)&&decide (c≤57))||c==45||c==46
def some_(lo hi:Int):Bool:=
 ((decide (lo≤9)&&decide (9≤hi))||(decide (lo≤10)&&decide (10≤hi))||(decide (lo≤13)&&decide (13≤hi)))||
 ((decide (lo≤55295)&&decide (32≤hi))||(decide (lo≤65533)&&decide (57344≤hi))||(decide (lo≤1114111)&&decide (65536≤hi)))
def lV:Int→Bs→Option Int
 |lo,[]=>some lo
 |lo,x::l=>if decide ((x.toNat:Int)<128)||decide (191<(x.toNat:Int))then none else lV (lo*64+(x.toNat:Int) - 128) l
def nN:Int→Nat→Int
 |lo,0=>lo
 |lo,n+1=>nN (lo*64) n
def nO:Int→Nat→Int
 |hi,0=>hi
 |hi,n+1=>nO (hi*64+63) n
def jy(b:Int):Option (Nat×Int×Int):=
 if decide (b<128)then some (1,0,b)
 else if decide (192≤b)&&decide (b<224)then some (2,128,b - 192)
 else if decide (224≤b)&&decide (b<240)then some (3,2048,b - 224)
 else if decide (240≤b)&&decide (b<248)then some (4,65536,b - 240)
 else none
def goes:Bs→Int
 |[]=> -1
 |x::l=>
  match jy (x.toNat:Int)with
  |none=> -1
  |some (all,least,lo)=>
   if all<l.length+1 then -1 else
   match lV lo l with
   |none=> -1
   |some lo=>
    let m:=all - (l.length+1)
    let Ao:=nN lo m
    let hi:=nO lo m
    let Ap:=if decide (Ao<least)then least else Ao
    if decide (Ap≤hi)&&some_ Ap hi then(m:Int)else -1
def lW(n:Int):Bs:=
 let b (k:Int):UInt8:=UInt8.ofNat k.toNat
 if n<128 then[b n]
 else if n<2048 then[b (n / 64+192),b (128+n % 64)]
 else if n<65536 then[b (n / 4096+224),b (128+n / 64 % 64),b (128+n % 64)]
 else[b (n / 262144+240),b (128+n / 4096 % 64),b (128+n / 64 % 64),b (128+n % 64)]
def gV(s:Bs)(n:Nat):Nat→Nat→Int→Int→Int×Int
 |0,_,line,column=>(line,column)
 |f+1,at_,line,column=>
  if at_<n then
   let c:Int:=((s.getD at_ 0).toNat:Int)
   if c==13||c==10 then
    let nP:=if c==13&&decide (at_+1<n)&&((s.getD (at_+1) 0).toNat:Int)==10 then at_+1 else at_
    gV s n f (nP+1) (line+1) 1
   else
    let more:=goes [s.getD at_ 0]
    if decide (more<0)||decide ((n:Int)≤(at_:Int)+more)then(line,column)
    else gV s n f (at_+1+more.toNat) line (column+1)
  else(line,column)
def place(s:Bs)(n:Nat):Int×Int:=gV s n (n+1) 0 1 1
structure R where
 od:Int
 oa:Int
 ot:Int
 on:Bool
 s:Bs
 at_:Nat
 stop:Int
 err:Int
 whole:Bool
 events:List Ev
 opn:List Bs
 tags:List (List aD)
def R.byte(r:R)(i:Nat):Int:=((r.s.getD i 0).toNat:Int)
def fail(r:R)(e:Int):R:={r with stop:=2,err:=e}
def ends(r:R):R×Bool:=if r.at_<r.s.length then(r,false)else({r with stop:=1},true)
def must(r:R)(c:Int):R×Bool:=
 if r.at_<r.s.length then(if r.byte r.at_==c then({r with at_:=r.at_+1},true)else(fail r 3,false))else({r with stop:=1},false)
def run(p:Int→Bool)(l:Bs):Nat:=(l.takeWhile fun x=>p (x.toNat:Int)).length
def aP(r:R):R:={r with at_:=r.at_+run cB (r.s.drop r.at_)}
def tell(r:R)(e:Ev):R:={r with events:=r.events++[e]}
def word(r:R):R×Bs×Bool:=
 let k:=run eY (r.s.drop r.at_)
 if r.ot<(k:Int)then(fail {r with at_:=r.at_+r.ot.toNat} 7,[],false)
 else
  let e:=ends {r with at_:=r.at_+k}
  (e.1,(r.s.drop r.at_).take k, !e.2)
def begins(r:R)(i:Nat):Bool:=decide (0≤goes [r.s.getD i 0])
def beyond(r:R)(i:Nat):R:=if begins r i then fail {r with at_:=i} 7 else fail {r with at_:=i} 2
def f_(r:R):Nat→Nat→R×Bs×Bool
 |0,_=>({r with at_:=r.s.length,stop:=1},[],false)
 |f+1,k=>
  if r.at_+k≤r.s.length then
   let part:=(r.s.drop r.at_).take k
   let left:=goes part
   if left<0 then(fail {r with at_:=r.at_+k - 1} 2,[],false)
   else if left=0 then({r with at_:=r.at_+k},part,true)
   else f_ r f (k+1)
  else({r with at_:=r.s.length,stop:=1},[],false)
def character(r:R):R×Bs×Bool:=
 let c:=r.byte r.at_
 if c==10||c==13 then
  (if c==13&&decide (r.at_+1<r.s.length)&&r.byte (r.at_+1)==10 then{r with at_:=r.at_+2}else{r with at_:=r.at_+1},[10],true)
 else f_ r (r.s.length+1) 1
def mR(r:R):R:={r with at_:=r.s.length,stop:=1}
def eG:Nat→R→Bs→Int→R×Bool
 |0,r,_,_=>(r,false)
 |f+1,r,text,count=>
  if r.at_<r.s.length then
   if r.byte r.at_ !=45 then
    if count==r.ot then(beyond r r.at_,false)
    else
     let c:=character r
     if c.2.2 then eG f c.1 (text++c.2.1) (count+1)else(c.1,false)
   else if r.at_+1=r.s.length∨(r.at_+2=r.s.length∧r.byte (r.at_+1)=45)then(mR r,false)
   else if r.byte (r.at_+1)==45 then
    if r.byte (r.at_+2) !=62 then(fail {r with at_:=r.at_+2} 3,false)
    else(tell {r with at_:=r.at_+3} ⟨4,[],[],text,[]⟩,true)
   else if count==r.ot then(beyond r (r.at_+1),false)
   else eG f {r with at_:=r.at_+1} (text++[45]) (count+1)
  else({r with stop:=1},false)
def comment(r:R):R×Bool:=
 let m:=must r 45
 if m.2 then eG (r.s.length+1) m.1 [] 0 else(m.1,false)
def dZ(name:Bs):Nat→R→Bs→Int→R×Bool
 |0,r,_,_=>(r,false)
 |f+1,r,text,count=>
  if r.at_<r.s.length then
   if r.byte r.at_==63&&decide (r.at_+1=r.s.length)then({r with at_:=r.at_+1,stop:=1},false)
   else if r.byte r.at_==63&&r.byte (r.at_+1)==62 then(tell {r with at_:=r.at_+2} ⟨5,name,[],text,[]⟩,true)
   else if r.byte r.at_==63&&count==r.ot then(beyond r (r.at_+1),false)
   else if count==r.ot then(beyond r r.at_,false)
   else
    let c:=character r
    if c.2.2 then dZ name f c.1 (text++c.2.1) (count+1)else(c.1,false)
  else({r with stop:=1},false)
def jq(l:Bs):Bool:=match l with
 |[a,b,c]=>(a|||32==120)&&(b|||32==109)&&(c|||32==108)
 |_=>false
def dN(l:Bs):Bool:=l.any fun x=>x==58
def jO(r:R):R×Bool:=
 if r.at_<r.s.length then
  if !eC (r.byte r.at_)then(fail r 3,false)
  else
   let w:=word r
   if !w.2.2 then(w.1,false)
   else
    let r:=w.1
    let c:=r.byte r.at_
    if c !=63&& !cB c then(fail r 3,false)
    else if jq w.2.1 then(fail r 3,false)
    else if r.on&&dN w.2.1 then(fail r 8,false)
    else if c==63 then
     let m:=must {r with at_:=r.at_+1} 62
     (if m.2 then tell m.1 ⟨5,w.2.1,[],[],[]⟩else m.1,m.2)
    else dZ w.2.1 (r.s.length+1) (aP r) [] 0
 else({r with stop:=1},false)
def eH(after:Bool):Nat→R→R×Bool
 |0,r=>(r,false)
 |f+1,r=>
  let r:=aP r
  let r:={r with whole:=after&&decide (r.at_=r.s.length)}
  if r.at_<r.s.length then
   if r.byte r.at_ !=60 then(fail r 3,false)
   else if r.at_+1=r.s.length then({r with stop:=1},false)
   else
    let c:=r.byte (r.at_+1)
    if c !=33&&c !=63 then(r,true)
    else
     let r:={r with at_:=r.at_+2}
     let x:=if c==63 then jO r else(let m:=must r 45;if m.2 then comment m.1 else(m.1,false))
     if x.2 then eH after f x.1 else(x.1,false)
  else({r with stop:=1},false)
def cL(after:Bool)(r:R):R×Bool:=eH after (r.s.length+1) r
def jP(l:Bs):Nat:=(l.filter fun x=>x==58).length
def lz:Bs→Nat→Nat→Nat
 |[],_,at_=>at_
 |x::l,i,at_=>lz l (i+1) (if x==58 then i else at_)
def parts(name:Bs):Bs×Bs×Bool:=
 if jP name=0 then([],name,true)
 else
  let at_:=lz name 0 0
  if decide (1<jP name)||decide (at_=0)||decide (at_+1=name.length)|| !eC ((name.getD (at_+1) 0).toNat:Int)then([],[],false)
  else(name.take at_,name.drop (at_+1),true)
def jA:Bs:=[120,109,108,110,115]
def lX:Bs:=[120,109,108]
def iN:Bs:=[104,116,116,112,58,47,47,119,119,119,46,119,51,46,111,114,103,47,88,77,76,47,49,57,57,56,47,110,97,109,101,115,112,97,99,101]
def lN:Bs:=[104,116,116,112,58,47,47,119,119,119,46,119,51,46,111,114,103,47,50,48,48,48,47,120,109,108,110,115,47]
def declaration(name:Bs):Bs×Bool:=
 if name=jA then([],true)
 else if 6<name.length∧name.take 6=jA++[58]then(name.drop 6,true)
 else([],false)
def among(aC:List aD)(prefix_:Bs):Bs×Bool:=
 match aC with
 |[]=>([],false)
 |a::l=>if(declaration a.name).2&&decide ((declaration a.name).1=prefix_)then(a.val,true)else among l prefix_
def nQ(prefix_:Bs):List (List aD)→Bs→Bool→Bs×Bool
 |[],value,is=>(value,is)
 |t::l,value,is=>if(among t prefix_).2 then nQ prefix_ l (among t prefix_).1 true else nQ prefix_ l value is
def bound(tags:List (List aD))(prefix_:Bs):Bs×Bool:=
 if prefix_=lX then(iN,true)else nQ prefix_ tags [] (decide (prefix_=[]))
def pu(prefix_ value:Bs):Bool:=
 if prefix_=jA then false
 else if prefix_=lX then decide (value=iN)
 else if prefix_=[]then decide (value≠iN)&&decide (value≠lN)
 else decide (value≠[])&&decide (value≠iN)&&decide (value≠lN)
def aZ(tags:List (List aD))(prefix_:Bs):Bs:=if prefix_=[]then[]else(bound tags prefix_).1
def jB(tags:List (List aD))(aC:List aD)(i:Nat):Bool:=
 match aC[i]? with
 |none=>false
 |some a=>
  if !(parts a.name).2.2 then false
  else if(declaration a.name).2 then pu (declaration a.name).1 a.val
  else if !(bound tags (parts a.name).1).2 then false
  else(aC.take i).all fun b=> !(!(declaration b.name).2&&decide ((parts b.name).2.1=(parts a.name).2.1)&&decide (aZ tags (parts b.name).1=aZ tags (parts a.name).1))
def qualified(r:R)(name:Bs)(aC:List aD):Bool:=
 let tags:=r.tags++[aC]
 if !(parts name).2.2||decide ((parts name).1=jA)then false
 else if !(bound tags (parts name).1).2 then false
 else(List.range aC.length).all fun i=>jB tags aC i
def kI(r:R)(name:Bs):Bs:=if !r.on then[]else(bound r.tags (parts name).1).1
def fK(r:R):List aD→R→List aD→R×List aD
 |[],q,told=>(q,told)
 |a::l,q,told=>
  if r.on&&(declaration a.name).2 then fK r l (tell q ⟨6,(declaration a.name).1,[],a.val,[]⟩) told
  else fK r l q (told++[⟨a.name,if r.on then aZ r.tags (parts a.name).1 else[],a.val⟩])
def started(r:R)(name:Bs)(aC:List aD):R:=
 let x:=fK r aC r []
 tell x.1 ⟨1,name,kI x.1 name,[],x.2⟩
def endGo:List aD→R→R
 |[],q=>q
 |a::l,q=>endGo l (if(declaration a.name).2 then tell q ⟨7,(declaration a.name).1,[],[],[]⟩else q)
def ended(r:R)(name:Bs)(aC:List aD):R:=
 let q:=tell r ⟨2,name,kI r name,[],[]⟩
 if r.on then endGo aC.reverse q else q
def has(aC:List aD)(name:Bs):Bool:=aC.any fun a=>decide (a.name=name)
def attrName(r:R)(aC:List aD):R×Bs×Bool:=
 let k:=run eY (r.s.drop r.at_)
 if decide (r.ot≤(k:Int))&&has aC ((r.s.drop r.at_).take r.ot.toNat)then(fail {r with at_:=r.at_+r.ot.toNat - 1} 7,[],false)
 else
  let w:=word r
  if !w.2.2 then(w.1,[],false)
  else
   let r:=w.1
   let c:=r.byte r.at_
   if c !=61&& !cB c then(fail r 3,[],false)
   else if has aC w.2.1 then(fail r 6,[],false)
   else
    let m:=must (aP r) 61
    if !m.2 then(m.1,[],false)
    else
     let e:=ends (aP m.1)
     if e.2 then(e.1,[],false)else(e.1,w.2.1,true)
def Px:List Bs:=[[108,116,59,60],[103,116,59,62],[97,109,112,59,38],[113,117,111,116,59,34],[97,112,111,115,59,39]]
def gJ(got:Bs):List Bs→Bool→Option Bs×Bool
 |[],sm=>(none,sm)
 |x::l,sm=>
  if decide (x.length≤got.length)||decide (x.take got.length≠got)then gJ got l sm
  else if got.length+1=x.length then(some (x.drop got.length),sm)
  else gJ got l true
def digit(c:Int)(base:Int):Int:=
 if decide (48≤c)&&decide (c≤57)then(if c - 48<base then c - 48 else -1)
 else if base=16&&(decide (97≤c)&&decide (c≤102))then c - 87
 else if base=16&&(decide (65≤c)&&decide (c≤70))then c - 55
 else -1
def dG(base:Int)(first:Nat):Nat→R→Int→R×Bs×Bool
 |0,r,_=>(r,[],false)
 |f+1,r,n=>
  if r.at_<r.s.length then
   let c:=r.byte r.at_
   if c==59 then
    if decide (r.at_=first)|| !some_ n n then(fail r 4,[],false)
    else({r with at_:=r.at_+1},lW n,true)
   else
    let d:=digit c base
    if decide (d<0)||decide (1114111<n*base+d)then(fail r 4,[],false)
    else dG base first f {r with at_:=r.at_+1} (n*base+d)
  else({r with stop:=1},[],false)
def number(r:R):R×Bs×Bool:=
 let r:={r with at_:=r.at_+1}
 if decide (r.at_<r.s.length)&&r.byte r.at_==120 then dG 16 (r.at_+1) (r.s.length+1) {r with at_:=r.at_+1} 0
 else dG 10 r.at_ (r.s.length+1) r 0
def fE(from_:Nat):Nat→R→R×Bs×Bool
 |0,r=>(r,[],false)
 |f+1,r=>
  if r.at_<r.s.length then
   if decide (r.at_=from_)&&r.byte r.at_==35 then number r
   else
    match gJ ((r.s.drop from_).take (r.at_+1 - from_)) Px false with
    |(some t,_)=>({r with at_:=r.at_+1},t,true)
    |(none,true)=>fE from_ f {r with at_:=r.at_+1}
    |(none,false)=>(fail r 4,[],false)
  else({r with stop:=1},[],false)
def reference(r:R):R×Bs×Bool:=fE (r.at_+1) (r.s.length+1) {r with at_:=r.at_+1}
def cN(quote:Int):Nat→R→Bs→Int→R×Bs×Bool
 |0,r,_,_=>(r,[],false)
 |f+1,r,text,count=>
  if r.at_<r.s.length then
   let c:=r.byte r.at_
   if c==quote then({r with at_:=r.at_+1},text,true)
   else if c==60 then(fail r 3,[],false)
   else if count==r.ot then(beyond r r.at_,[],false)
   else
    let x:=if c==38 then reference r else
     let t:=character r
     (t.1,if t.2.1=[10]∨t.2.1=[9]then[32]else t.2.1,t.2.2)
    if x.2.2 then cN quote f x.1 (text++x.2.1) (count+1)else(x.1,[],false)
  else({r with stop:=1},[],false)
def value(r:R):R×Bs×Bool:=
 let q:=r.byte r.at_
 if q !=34&&q !=39 then(fail r 3,[],false)
 else cN q (r.s.length+1) {r with at_:=r.at_+1} [] 0
def fQ:Nat→R→List aD→R×List aD×Bool
 |0,r,_=>(r,[],false)
 |f+1,r,aC=>
  let from_:=r.at_
  let r:=aP r
  if r.at_<r.s.length then
   let c:=r.byte r.at_
   if c==47||c==62 then(r,aC,true)
   else if decide (r.at_=from_)|| !eC c then(fail r 3,[],false)
   else if(aC.length:Int)==r.oa then(fail r 7,[],false)
   else
    let n:=attrName r aC
    if !n.2.2 then(n.1,[],false)
    else
     let v:=value n.1
     if !v.2.2 then(v.1,[],false)
     else fQ f v.1 (aC++[⟨n.2.1,[],v.2.1⟩])
  else({r with stop:=1},[],false)
def attributes(r:R):R×List aD×Bool:=fQ (r.s.length+1) r []
def text(r:R)(t:Bs):R:=tell r ⟨3,[],[],t,[]⟩
def gu:Bs→R→R×Bool
 |[],r=>(r,true)
 |x::l,r=>let m:=must r (x.toNat:Int);if m.2 then gu l m.1 else(m.1,false)
def fF:Nat→R→R×Bool
 |0,r=>(r,false)
 |f+1,r=>
  if r.at_<r.s.length then
   let rest:=r.s.drop r.at_
   if r.byte r.at_==93&&(decide (rest=[93])||decide (rest=[93,93]))then(mR r,false)
   else if r.byte r.at_==93&&r.byte (r.at_+1)==93&&r.byte (r.at_+2)==62 then({r with at_:=r.at_+3},true)
   else
    let c:=character r
    if c.2.2 then fF f (text c.1 c.2.1)else(c.1,false)
  else({r with stop:=1},false)
def lC(r:R):R×Bool:=
 let m:=gu [91,67,68,65,84,65,91] r
 if m.2 then fF (r.s.length+1) m.1 else(m.1,false)
def fR:Bs→R→R×Bool
 |[],r=>(r,true)
 |x::l,r=>
  if r.at_<r.s.length then
   if r.byte r.at_ !=(x.toNat:Int)then(fail r 5,false)else fR l {r with at_:=r.at_+1}
  else({r with stop:=1},false)
def eZ(r:R)(name:Bs):R×Bool:=
 let x:=fR name {r with at_:=r.at_+2}
 if !x.2 then(x.1,false)
 else
  let r:=x.1
  if decide (r.at_<r.s.length)&&eY (r.byte r.at_)then(fail r 5,false)
  else must (aP r) 62
def j_(r:R)(c:Int):R×Bool:=
 if c==63 then jO {r with at_:=r.at_+2}
 else if c !=33 then(fail {r with at_:=r.at_+1} 3,false)
 else
  let r:={r with at_:=r.at_+2}
  if r.at_<r.s.length then
   if r.byte r.at_ !=91 then
    let m:=must r 45
    if m.2 then comment m.1 else(m.1,false)
   else lC r
  else({r with stop:=1},false)
def aX(r:R)(name:Bs)(aC:List aD):R:=started {r with opn:=r.opn++[name],tags:=r.tags++[aC]} name aC
def gK(r:R)(name:Bs)(aC:List aD):R:=
 let q:=ended r name aC
 {q with opn:=q.opn.dropLast,tags:=q.tags.dropLast}
mutual
def element:Nat→R→R×Bool
 |0,r=>(r,false)
 |f+1,r=>
  let r:={r with at_:=r.at_+1}
  if(r.opn.length:Int)==r.od then(fail r 7,false)
  else
   let n:=word r
   if !n.2.2 then(n.1,false)
   else
    let a:=attributes n.1
    if !a.2.2 then(a.1,false)
    else
     let r:=a.1
     if r.on&& !qualified r n.2.1 a.2.1 then(fail r 8,false)
     else if r.byte r.at_==47 then
      let m:=must {r with at_:=r.at_+1} 62
      if m.2 then(gK (aX m.1 n.2.1 a.2.1) n.2.1 a.2.1,true)else(m.1,false)
     else
      let r:=aX {r with at_:=r.at_+1} n.2.1 a.2.1
      let c:=content f r r.at_
      if !c.2 then(c.1,false)
      else
       let e:=eZ c.1 n.2.1
       if !e.2 then(e.1,false)else(gK e.1 n.2.1 a.2.1,true)
def content:Nat→R→Nat→R×Bool
 |0,r,_=>(r,false)
 |f+1,r,Aq=>
  if r.at_<r.s.length then
   let c:=r.byte r.at_
   if c==60 then
    if r.at_+1=r.s.length then({r with stop:=1},false)
    else if r.byte (r.at_+1)==47 then(r,true)
    else
     let x:=if eC (r.byte (r.at_+1))then element f r else j_ r (r.byte (r.at_+1))
     if x.2 then content f x.1 x.1.at_ else(x.1,false)
   else if c==38 then
    let x:=reference r
    if x.2.2 then content f (text x.1 x.2.1) x.1.at_ else(x.1,false)
   else if c==62&&decide (Aq+2≤r.at_)&&r.byte (r.at_ - 2)==93&&r.byte (r.at_ - 1)==93 then(fail r 3,false)
   else
    let x:=character r
    if x.2.2 then content f (text x.1 x.2.1) Aq else(x.1,false)
  else({r with stop:=1},false)
end
def document(r:R):R:=
 let m:=cL false r
 if !m.2 then m.1
 else if !eC (m.1.byte (m.1.at_+1))then fail {m.1 with at_:=m.1.at_+1} 3
 else
  let e:=element (2*r.s.length+2) m.1
  if !e.2 then e.1
  else
   let x:=cL true e.1
   if x.2 then fail {x.1 with at_:=x.1.at_+1} 3 else x.1
structure kg where
 events:List Ev
 err:Int
 whole:Bool
 at_:Nat
 opn:List Bs
 line:Int
 column:Int
def start(od oa ot:Int)(on:Bool)(s:Bs):R:=⟨od,oa,ot,on,s,0,0,0,false,[],[],[]⟩
def read(od oa ot:Int)(on:Bool)(s:Bs):kg:=
 let r:=document (start od oa ot on s)
 if r.stop=2 then
  let q:=document (start od oa ot on (s.take r.at_))
  ⟨q.events,r.err,r.whole,r.at_+1,q.opn,(place s r.at_).1,(place s r.at_).2⟩
 else⟨r.events,r.err,r.whole,s.length,r.opn,(place s s.length).1,(place s s.length).2⟩
def gW:List Ev→Bs→List Ev→List Ev
 |[],text,out=>if text=[]then out else out++[⟨3,[],[],text,[]⟩]
 |e::l,text,out=>
  if e.kind==3 then gW l (text++e.val) out
  else if text=[]then gW l [] (out++[e])
  else gW l [] (out++[⟨3,[],[],text,[]⟩,e])
def joined(l:List Ev):List Ev:=gW l [] []
def aS(od oa ot:Int)(on:Bool)(s more:Bs):kg:=
 let a:=read od oa ot on s
 let b:=read od oa ot on (s++more)
 {b with events:=joined (b.events.drop (min a.events.length b.events.length))}
def most:List Bs→Int
 |[]=>16
 |x::l=>most l+(x.length:Int)+3
def sU(od oa ot:Int)(on:Bool)(s rest:Bs):Bool:=
 if most (read od oa ot on s).opn<(rest.length:Int)then false
 else(read od oa ot false (s++rest)).whole
end Rf
namespace Go.Proofs.YtmgfijllcdadgaaGreatDoor.V
open Go.RowKit
open Mk (Bs Ev aD)
open Rf (R)
open Tryz
open Rf (eY)
variable {w w1:World}{b:Nat}{s:R}{r r' :Row}{rs:List Row}
structure aH where
 ea:Option Addr
 ec:Nat
 oa:Option Addr
 oc:Nat
 ga:Option Addr
 gc:Nat
 es:List (Ev×Value)
 gs:List (List aD×Value)
def aF(s:R)(L:aH):List Value:=
 [.int .i64 s.od,.int .i64 s.oa,.int .i64 s.ot,.bool s.on,.string ⟨s.s.toArray⟩,.int .i64 s.at_,.int .i64 s.stop,.int .i64 s.err,.bool s.whole,
  .slice L.ea s.events.length L.ec,.slice L.oa s.opn.length L.oc,.slice L.ga s.tags.length L.gc]
def dJ(s:R)(L:aH):Row:=⟨65,5,.slice L.ea s.events.length L.ec,s.events.length,bA L.es⟩
def cO(s:R)(L:aH):Row:=⟨9,1,.slice L.oa s.opn.length L.oc,s.opn.length,s.opn.map sv⟩
def bK(s:R)(L:aH):Row:=⟨63,1,.slice L.ga s.tags.length L.gc,s.tags.length,L.gs.map (·.2)⟩
def dK(p:List aD×Value):Row:=⟨69,3,p.2,p.1.length,aV p.1⟩
def a_(s:R)(L:aH):List Row:=dJ s L::cO s L::bK s L::(L.es.map aN++L.gs.map dK)
def aR(s:R)(L:aH):List Nat:=aW (a_ s L)
structure aI(w:World)(b:Nat)(s:R)(L:aH):Prop where
 blk:w.heap[b]?=some (.cells (aF s L).toArray 111 (0,0))
 rows:bL w (b+1) (a_ s L)
 evs:L.es.map (·.1)=s.events
 je:L.gs.map (·.1)=s.tags
theorem aI.lt{L:aH}(h:aI w b s L):b<w.heap.size:=(Array.getElem?_eq_some_iff.1 h.blk).1
theorem aI.cell{w:World}{b:Nat}{s:R}{L:aH}(h:aI w b s L):∀i,w.cell? ⟨b,i,none⟩=(aF s L)[i]?:=by
 intro i;simp[World.cell?,h.blk]
theorem aI.frozen{w:World}{b:Nat}{s:R}{L:aH}(h:aI w b s L):∀i,w.frozen? ⟨b,i,none⟩=false:=by
 intro i;simp[World.frozen?,h.blk]
theorem aI.dF{L:aH}(h:aI w b s L):∀k∈aR s L,b<k∧k<w.heap.size:=fun k a=>h.rows.lt k a
structure aL(w0:World)(b:Nat)(f0:List Nat)(w:World)(s:R)(L:aH):Prop where
 rd:aI w b s L
 fr:Fr w0 w b f0 (aR s L)
 gs:∃s0 L0,aI w0 b s0 L0∧L0.gs.map (·.2)<+:L.gs.map (·.2)
theorem aI.start{L:aH}(h:aI w b s L):aL w b (aR s L) w s L:=⟨h,Fr.refl _ _ _,s,L,h,List.prefix_rfl⟩
theorem IG{base:Nat}{e q:TypeId}{size n:Nat}{v:Value}{j l:List Value}(h:w.ownsRow base e size v n j)(k:w.ownsRow base q size v n l):j=l:=by
 rcases h.2 with⟨f,r⟩|⟨g,cap,s,m,_,t,_,_,_,u⟩
 .have a:=h.1;have c:=k.1;rw[r,Nat.zero_mul]at a c;rw[List.length_eq_zero_iff.1 a,List.length_eq_zero_iff.1 c]
 rcases k.2 with⟨f,_⟩|⟨x,o,p,b,_,d,_,_,_,i⟩
 .rw[m]at f;cases f
 rw[m]at b;cases b;rw[t]at d;cases d;rw[←u,←i]
theorem aI.unique{f:R}{L e:aH}(h:aI w b s L)(k:aI w b f e):L.gs.map (·.2)=e.gs.map (·.2):=by
 have d:=h.blk;rw[k.blk]at d;injection d with d;injection d with d;injection d with d;unfold aF at d;simp only[List.cons.injEq,and_true]at d;obtain⟨-,-,-,-,-,-,-,-,-,-,-,g⟩:=d;have a:=h.rows.own (bK s L) (by simp[a_]);have c:=k.rows.own (bK f e) (by simp[a_]);simp only[Row.owned,bK]at a c;rw[g]at c;injection g with _ i _;rw[i]at c;exact IG a c
theorem aI.vV{L:aH}(h:aI w b s L):L.gs.length=s.tags.length:=by rw[←h.je];simp
theorem Ar{b d:Type}:∀{l m:List (b×d)},l.map (·.1)=m.map (·.1)→l.map (·.2)=m.map (·.2)→l=m
 |[],[],_,_=>rfl
 |[],_::_,h,_=>by cases h
 |_::_,[],h,_=>by cases h
 |(a,c)::l,(e,f)::m,h,k=>by
  simp only[List.map_cons,List.cons.injEq]at h k;obtain⟨rfl,h⟩:=h;obtain⟨rfl,k⟩:=k;rw[Ar h k]
theorem aL.kJ{w' :World}{f:List Nat}{s' :R}{L L' :aH}(m:aL w b f w' s' L')(h:aI w b s L)(a:s'.tags=s.tags):L'.gs=L.gs:=by
 obtain⟨g,L0,d,c⟩:=m.gs;rw[←h.unique d]at c;have e:L.gs.map (·.2)=L'.gs.map (·.2):=c.eq_of_length (by simp[h.vV,m.rd.vV,a]);exact Ar (by rw[h.je,m.rd.je,a]) e.symm
theorem aI.keep{w w' :World}{b:Nat}{s:R}{L:aH}(h:aI w b s L)(a:∀k,k=b∨k∈aR s L→w'.heap[k]?=w.heap[k]?):aI w' b s L:=
 ⟨(a b (.inl rfl)).trans h.blk,h.rows.keep fun k c=>a k (.inr c),h.evs,h.je⟩
section
variable {w0 w w' :World}{b:Nat}{f0:List Nat}{s s' :R}{L L' :aH}
theorem aL.alloc(m:aL w0 b f0 w s L)(o:Obj):aL w0 b f0 (w.alloc o) s L:=
 ⟨m.rd.keep fun k a=>Below.heap_alloc _ _ _ (by rcases a with rfl|a;exact m.rd.lt;exact(m.rd.dF k a).2),m.fr.trans (Fr.alloc _ _ _ _),m.gs⟩
theorem aL.drew(m:aL w0 b f0 w s L):aL w0 b f0 w.drew s L:=⟨m.rd.keep fun _ _=>rfl,m.fr.trans (Fr.drew _ _ _),m.gs⟩
theorem aL.store(m:aL w0 b f0 w s L)(i:Nat)(v:Value)(s' :R)(c:(aF s L).set i v=aF s' L)(a:a_ s' L=a_ s L)(d:s'.events=s.events)(e:s'.tags=s.tags):
 aL w0 b f0 (w.setCell ⟨b,i,none⟩ v) s' L:=by
 refine⟨⟨?_,?_,by rw[d];exact m.rd.evs,by rw[e];exact m.rd.je⟩,?_,m.gs⟩
 .rw[←c];have:=m.rd.blk;simp[World.setCell,Array.getElem?_modify,this]
 .rw[a];refine m.rd.rows.keep fun k f=>Below.heap_setCell _ _ _ _ ?_
  have:=(m.rd.rows.lt k f).1;show k≠b;omega
 unfold aR;rw[a];exact m.fr.trans (Fr.setCell _ _ _ _ _)
theorem aL.oO(m:aL w0 b f0 w s L){a:Addr}(d:w0.heap.size≤a.block)(g:b<w0.heap.size)(f:a.block∉aR s L)(u:Value):aL w0 b f0 (w.setCell a u) s L:=
 ⟨m.rd.keep fun k c=>Below.heap_setCell _ _ _ _ (by rcases c with rfl|c;omega;exact fun e=>f (e▸c)),m.fr.oO d u,m.gs⟩
theorem aL.call{a:R}{c:aH}(m:aL w0 b f0 w s L)(k:aL w b (aR s L) w1 a c):aL w0 b f0 w1 a c:=
 ⟨k.rd,m.fr.trans k.fr,by
  obtain⟨e,L0,f,g⟩:=m.gs
  obtain⟨i,j,h,d⟩:=k.gs
  rw[←m.rd.unique h]at d
  exact⟨e,L0,f,g.trans d⟩⟩
theorem aL.qh(m:aL w0 b f0 w s L)(f:List Row)(i:Nat)(v:Value)(j:(a_ s L).Perm (r::rs))(a:(a_ s' L').Perm (f++r' ::rs))(l:∀x∈f,x.isNil)(q:r'.owned w' (b+1))(g:w.grownBy w' r.v.ownBlock)
 (n:r'.v.ownBlock=r.v.ownBlock∨r'.v.ownBlock=some w.heap.size) (t:(aF s L).set i v=aF s' L') (u:L'.es.map (·.1)=s'.events) (y:L'.gs.map (·.1)=s'.tags) (z:∃A L0,aI w0 b A L0∧L0.gs.map (·.2)<+:L'.gs.map (·.2)):
 aL w0 b f0 (w'.setCell ⟨b,i,none⟩ v) s' L' :=by
 have o:=m.rd.rows.perm j;have p:bL w' (b+1) (a_ s' L'):=((o.grow q g n).rV f l).perm a.symm;have h:some b≠r.v.ownBlock:=fun e=>by
  have:=(o.own r List.mem_cons_self).lt b e.symm;omega
 have c:w'.heap[b]?=some (.cells (aF s L).toArray 111 (0,0)):=(g.block b m.rd.lt h).trans m.rd.blk;refine⟨⟨?_,?_,u,y⟩,?_,z⟩
 .rw[←t];simp[World.setCell,Array.getElem?_modify,c]
 .refine p.keep fun k d=>Below.heap_setCell _ _ _ _ ?_
  have:=(p.lt k d).1;show k≠b;omega
 refine(m.fr.trans ((Fr.grown (b:=b) g n rs rfl).wide fun k d=>gI j.symm k d)).trans ((Fr.setCell _ _ _ _ _).sub fun k d=>?_);have:=gI a k d;rw[oN f l]at this;exact this
theorem aL.grow(m:aL w0 b f0 w s L)(i:Nat)(v:Value)(c:(a_ s L).Perm (r::rs))(a:(a_ s' L').Perm (r' ::rs))(d:r'.owned w' (b+1))(e:w.grownBy w' r.v.ownBlock)
 (f:r'.v.ownBlock=r.v.ownBlock∨r'.v.ownBlock=some w.heap.size) (g:(aF s L).set i v=aF s' L') (j:L'.es.map (·.1)=s'.events) (k:L'.gs.map (·.1)=s'.tags) (l:∃n L0,aI w0 b n L0∧L0.gs.map (·.2)<+:L'.gs.map (·.2)):
 aL w0 b f0 (w'.setCell ⟨b,i,none⟩ v) s' L' :=m.qh [] i v c a (fun _ h=>by cases h) d e f g j k l
theorem aI.grown(h:aI w b s L)(a:w.grownBy w1 r.v.ownBlock)(c:r∈a_ s L):w1.heap[b]?=some (.cells (aF s L).toArray 111 (0,0)):=by
 refine(a.block b h.lt fun e=>?_).trans h.blk;have:=(h.rows.own r c).lt b e.symm;omega
theorem lY(h:w.heap[b]?=some (.cells (aF s L).toArray 111 (0,0))):(∀i,w.cell? ⟨b,i,none⟩=(aF s L)[i]?)∧∀i,w.frozen? ⟨b,i,none⟩=false:=
 ⟨fun i=>by simp[World.cell?,h],fun i=>by simp[World.frozen?,h]⟩
theorem aL.below(m:aL w0 b f0 w s L)(a:Below w.heap.size w w'):aL w0 b f0 w' s L:=
 ⟨m.rd.keep fun k c=>a.block k (by rcases c with rfl|c;exact m.rd.lt;exact(m.rd.dF k c).2),
  m.fr.trans ⟨a.os,a.tape,a.output,a.size,fun k c _ _=>a.block k c,fun _ h=>.inl h⟩,m.gs⟩
theorem aI.drewN(h:aI w b s L)(n:Nat):aI (w.drewN n) b s L:=h.keep fun _ _=>by rw[heap_drewN]
theorem aL.drewN(m:aL w0 b f0 w s L)(n:Nat):aL w0 b f0 (w.drewN n) s L:=m.below ⟨rfl,rfl,rfl,Nat.le_of_eq (by rw[heap_drewN]),fun _ _=>by rw[heap_drewN]⟩
end
def iC(w:World)(b:Nat)(s:R)(L:aH)(r:R×Bool)(e:Ending)(w' :World):Prop:=
 e=.returned (.bool r.2)∧∃L', aL w b (aR s L) w' r.1 L'
theorem lZ(x:UInt8):(0:Int)≤(x.toNat:Int)∧(x.toNat:Int)≤255:=by
 have:=x.toNat_lt;omega
theorem qG(b:Int)(w:World):Calls Tryz.prog 149 #[.int .u8 b] w fun e w' =>e=.returned (.bool (Rf.cB b))∧w' =w:=by
 go_enter func149,ntmps149
 go_wp2
 all_goals(go_ret;exact⟨Pq (by rw[Bool.eq_iff_iff];simp[Rf.cB];try omega),rfl⟩)
theorem pz(b:Int)(w:World):Calls Tryz.prog 82 #[.int .u8 b] w fun e w' =>e=.returned (.bool (Rf.eC b))∧w' =w:=by
 go_enter func82,ntmps82
 go_wp2
 all_goals(go_ret;exact⟨Pq (by rw[Bool.eq_iff_iff];simp[Rf.eC];try omega),rfl⟩)
theorem vW(b:Int)(w:World):Calls Tryz.prog 156 #[.int .u8 b] w fun e w' =>e=.returned (.bool (eY b))∧w' =w:=by
 go_enter func156,ntmps156
 go_wp2_with(go_at_call 82;refine(pz _ _).mono ?_;rintro e w' ⟨rfl,rfl⟩)
 all_goals(go_ret;exact⟨Pq (by rw[Bool.eq_iff_iff];simp_all[eY];try omega),rfl⟩)
theorem qH(a b:Int)(w:World):Calls Tryz.prog 116 #[.int .i64 a,.int .i64 b] w fun e w' =>e=.returned (.bool (Rf.some_ a b))∧w' =w:=by
 go_enter func116,ntmps116
 go_wp2
 all_goals(go_ret;exact⟨Pq (by rw[Bool.eq_iff_iff];simp[Rf.some_];try omega),rfl⟩)
end Go.Proofs.YtmgfijllcdadgaaGreatDoor.V
