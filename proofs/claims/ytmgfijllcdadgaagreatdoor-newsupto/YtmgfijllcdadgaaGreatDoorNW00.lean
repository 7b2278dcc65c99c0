import Derived.WalkKit
import Derived.Deep.AppendLies
set_option linter.unusedVariables false
set_option linter.unusedSimpArgs false
namespace Mk
abbrev Bs:=List UInt8
structure aD where
 name:Bs
 space:Bs
 val:Bs
structure Ev where
 kind:Int
 name:Bs
 space:Bs
 val:Bs
 aC:List aD
structure St where
 od:Int
 oa:Int
 ot:Int
 on:Bool
 state:Int
 opn:List Bs
 over:Bool
 aG:List (Bs×Bs)
 cnt:List Nat
 token:Bs
 count:Int
 name:Bs
 attr:Bs
 aC:List aD
 quote:Int
 held:Bs
 brackets:Int
 matched:Int
 pc:Int
 pl:Int
 rp:Int
 rn:Bs
 rc:Int
 ret:Bool
 line:Int
 column:Int
 list:List Ev
 text:Bs
 at_:Int
 ended:Int
 am:Bool
def u8(n:Int):UInt8:=UInt8.ofNat n.toNat
def cB(b:Int):Bool:=b==32||b==9||b==10||b==13
def eC(b:Int):Bool:=(decide (65≤b)&&decide (b≤90))||(decide (97≤b)&&decide (b≤122))
def isDigit(b:Int):Bool:=decide (48≤b)&&decide (b≤57)
def dM(b:Int):Bool:=eC b||b==95||b==58
def gm(b:Int):Bool:=dM b||isDigit b||b==45||b==46
def digitVal(b:Int)(base:Int):Int:=
 if isDigit b then b - 48 else if decide (65≤b)&&decide (b≤70)then b - 55 else if decide (97≤b)&&decide (b≤102)then b - 87 else base
def digit(b:Int)(base:Int):Option Int:=if base≤digitVal b base then none else some (digitVal b base)
def iM(c:Int):Bool:=
 if c<32 then c==9||c==10||c==13
 else if c<65536 then decide (c≤55295)||(decide (57344≤c)&&decide (c≤65533))
 else decide (c≤1114111)
def eO(c:Int):List Int:=
 if c<128 then[c]
 else if c<2048 then[192+c / 64,128+c % 64]
 else if c<65536 then[224+c / 4096,128+c / 64 % 64,128+c % 64]
 else[240+c / 262144,128+c / 4096 % 64,128+c / 64 % 64,128+c % 64]
def encode(c:Int):Bs:=(eO c).map u8
def eP(b:Int):Option (Int×Int):=
 if b<128∧iM b=true then some (b,0)
 else if 194≤b∧b≤223 then some (b - 192,1)
 else if 224≤b∧b≤239 then some (b - 224,2)
 else if 240≤b∧b≤244 then some (b - 240,3)
 else none
def ij(c l:Int):Bool:=
 if l==2 then decide (16≤c)&&decide (c≤271)
 else if l==1 then decide (32≤c)&&(decide (c<864)||decide (895<c))
 else iM c
def cQ(c l b:Int):Option (Int×Int):=
 if b<128∨191<b then none
 else if ij (c*64+b - 128) (l - 1)then some (c*64+b - 128,l - 1)else none
structure Rf where
 place:Int
 name:Bs
 code:Int
def fJ:List (Bs×Int):=[([108,116,59],60),([103,116,59],62),([97,109,112,59],38),([113,117,111,116,59],34),([97,112,111,115,59],39)]
def lM(name:Bs):List (Bs×Int)→Option Rf
 |[]=>none
 |(n,c)::r=>if n=name then some ⟨7,[],c⟩else if name.isPrefixOf n then some ⟨2,name,0⟩else lM name r
def letter(n:Bs)(b:Int):Option Rf:=lM (n++[u8 b]) fJ
def Pp(code b base place:Int):Option Rf:=
 match digit b base with
 |none=>none
 |some v=>if 1114111<code*base+v then none else some ⟨place,[],code*base+v⟩
def iq(code b base place:Int):Option Rf:=
 if b==59 then(if iM code then some ⟨7,[],code⟩else none)else Pp code b base place
def eT(r:Rf)(b:Int):Option Rf:=
 if r.place==1 then(if b==35 then some ⟨3,[],0⟩else letter r.name b)
 else if r.place==2 then letter r.name b
 else if r.place==3 then(if b==120 then some ⟨4,[],0⟩else Pp r.code b 10 5)
 else if r.place==5 then iq r.code b 10 5
 else if r.place==4 then Pp r.code b 16 6
 else if r.place==6 then iq r.code b 16 6
 else none
def isOpen(place:Int):Bool:=place !=0&&place !=7
def qf:Bs:=[120,109,108]
def jm:Bs:=[120,109,108,110,115]
def iN:Bs:=[104,116,116,112,58,47,47,119,119,119,46,119,51,46,111,114,103,47,88,77,76,47,49,57,57,56,47,110,97,109,101,115,112,97,99,101]
def lN:Bs:=[104,116,116,112,58,47,47,119,119,119,46,119,51,46,111,114,103,47,50,48,48,48,47,120,109,108,110,115,47]
def iw(n:Bs):Nat:=(n.takeWhile (· !=58)).length
def dN(n:Bs):Bool:=decide (iw n<n.length)
def colon(n:Bs):Int:=if dN n then(iw n:Int)else -1
def dD(n:Bs):Bs:=if dN n then n.take (iw n)else[]
def eX(n:Bs):Bs:=if dN n then n.drop (iw n+1)else n
def kD(n:Bs):Bool:=
 if !dN n then true
 else(dD n !=[])&&((eX n !=[])&&(dM ((eX n).headD 0).toNat&& !dN (eX n)))
def oM(n:Bs):Bool:=n==jm||dD n==jm
def declared(n:Bs):Bs:=if n==jm then[]else eX n
def rS(p v:Bs):Bool:=
 if p==jm||v==lN then false
 else if p==qf||v==iN then p==qf&&v==iN
 else p==[]||v !=[]
def valueOf(l:List (Bs×Bs))(p:Bs):Bs:=l.foldl (fun acc x=>if x.1==p then x.2 else acc) []
def nG(l:List (Bs×Bs))(p:Bs):Bool:=p==[]||valueOf l p !=[]
def rT(n:Bs)(as:List aD):Bool:=as.all (fun a=>kD a.name)&&kD n
def fN:List aD→List (Bs×Bs)→Nat→List (Bs×Bs)×Nat×Bool
 |[],b,c=>(b,c,true)
 |a::r,b,c=>
  if !oM a.name then fN r b c
  else if !rS (declared a.name) a.val then(b,c,false)
  else fN r (b++[(declared a.name,a.val)]) (c+1)
def qg(as:List aD)(x:aD):Bool:=as.any fun a=>a.space==x.space&&eX a.name==eX x.name
def k_(aG:List (Bs×Bs))(a:aD):aD:=if dD a.name !=[]then{a with space:=valueOf aG (dD a.name)}else a
def iO(aG:List (Bs×Bs)):List aD→List aD→Option (List aD)
 |[],acc=>some acc
 |a::r,acc=>
  if oM a.name then iO aG r acc
  else if !nG aG (dD a.name)||qg acc (k_ aG a)then none
  else iO aG r (acc++[k_ aG a])
def declare(s:St):St×Bool:=
 let d:=fN s.aC s.aG 0
 if d.2.2 then({s with aG:=d.1,cnt:=s.cnt++[d.2.1]},true)else({s with aG:=d.1},false)
def enter(s:St):St×Option (List aD):=
 if !rT s.name s.aC then(s,none)
 else if !(declare s).2 then((declare s).1,none)
 else if !nG (declare s).1.aG (dD s.name)then((declare s).1,none)
 else((declare s).1,iO (declare s).1.aG s.aC [])
def first(s:St):Nat:=
 match s.cnt.getLast? with
 |none=>s.aG.length
 |some c=>if s.aG.length<c then s.aG.length else s.aG.length - c
def cG(s:St):List (Bs×Bs):=s.aG.drop (first s)
def leave(s:St):St:={s with aG:=s.aG.take (first s),cnt:=s.cnt.dropLast}
def aZ(s:St)(n:Bs):Bs:=if s.on then valueOf s.aG (dD n)else[]
def dX(s:St):Bool:=s.state==1||s.state==2
def fits(s:St)(more:Int):Bool:=dX s||decide (s.count+more≤s.ot)
def put(s:St)(c:Int):St:=
 if dX s then{s with text:=s.text++encode c}else{s with token:=s.token++encode c,count:=s.count+1}
def aY(s:St):St:={s with token:=[],count:=0}
def gG(s:St)(b:Int):St×Int:=if fits s 1 then(put s b,0)else(s,7)
def jK(s:St)(p:Int×Int):St:=
 if p.2==0 then put {s with pc:=p.1,pl:=p.2} p.1 else{s with pc:=p.1,pl:=p.2}
def dY(s:St):Bs→St
 |[]=>s
 |x::r=>dY (put s x.toNat) r
def cW(s:St)(b:Int):St×Int:=
 match eP b with
 |none=>(s,2)
 |some p=>if fits s (s.held.length+1)then(jK {dY s s.held with held:=[]} p,0)else(s,7)
def ja(s:St)(b:Int):St×Int:=
 match cQ s.pc s.pl b with
 |none=>(s,2)
 |some p=>(jK s p,0)
def setRef(s:St)(r:Rf):St:={s with rp:=r.place,rn:=r.name,rc:=r.code}
def iy(s:St)(b:Int):St×Int:=
 match eT ⟨s.rp,s.rn,s.rc⟩ b with
 |none=>(s,4)
 |some r=>if isOpen r.place then(setRef s r,0)else(put (setRef s r) r.code,0)
def aQ(s:St):St:=if s.text.length=0 then s else{s with list:=s.list++[⟨3,[],[],s.text,[]⟩],text:=[]}
def add(s:St)(e:Ev):St:={aQ s with list:=(aQ s).list++[e]}
def take(s:St):St:={aQ s with list:=[]}
def resume(s:St):St:={s with state:=if s.opn.length=0 then 0 else 1}
def mH(s:St):St:=resume (add (aY {s with held:=[]}) ⟨4,[],[],s.token,[]⟩)
def jo(s:St)(b:Int):St×Int:=if b==45 then({s with state:=7},0)else(s,3)
def gN(s:St)(b:Int):St×Int:=
 if s.held=[45,45]∧b=62 then(mH s,0)
 else if s.held=[45,45]then(s,3)
 else if b=45 then({s with held:=s.held++[45]},0)
 else cW s b
def jq(l:Bs):Bool:=
 match l with
 |[a,b,c]=>((a.toNat:Int)==120||(a.toNat:Int)==88)&&((b.toNat:Int)==109||(b.toNat:Int)==77)&&((c.toNat:Int)==108||(c.toNat:Int)==76)
 |_=>false
def dO(s:St)(b:Int):St×Int:=
 if s.count==0&& !dM b then(s,3)
 else if gm b then gG s b
 else if jq s.token||b !=63&& !cB b then(s,3)
 else if s.on&&dN s.token then(s,8)
 else({aY s with name:=s.token,state:=if b==63 then 9 else 10},0)
def lf(s:St):St:=
 resume {add (aY {s with held:=[]}) ⟨5,s.name,[],s.token,[]⟩with name:=[]}
def jr(s:St)(b:Int):St×Int:=if b==62 then(lf s,0)else(s,3)
def fu(s:St)(b:Int):St×Int:=
 if b=62∧s.held=[63]then(lf s,0)
 else if b=63∧s.held=[63]then(if fits s 1 then(put s 63,0)else(s,7))
 else if b=63 then({s with held:=[63]},0)
 else cW s b
def ju(s:St)(b:Int):St×Int:=
 if cB b then(s,0)else fu {s with state:=11} b
def iP(s:St)(b:Int):St×Int:=if cB b then(s,0)else if b==60 then({s with state:=3},0)else(s,3)
def fw(s:St)(b:Int):St×Int:=
 if b==60 then({s with brackets:=0,state:=3},0)
 else if b==38 then(setRef {s with brackets:=0} ⟨1,[],0⟩,0)
 else if b==62 then(if s.brackets==2 then({s with brackets:=0},3)else cW {s with brackets:=0} b)
 else if b==93 then cW {s with brackets:=if s.brackets==0 then 1 else 2} b
 else cW {s with brackets:=0} b
def gq(s:St)(b:Int):St×Int:=
 if b=62∧s.held=[93,93]then({s with held:=[],state:=1},0)
 else if b=93∧s.held=[93,93]then(put s 93,0)
 else if b=93 then({s with held:=s.held++[93]},0)
 else cW s b
def kE(s:St)(b:Int):St×Int:=
 if s.od≤s.opn.length then(s,7)else(put {s with state:=12} b,0)
def fA(s:St)(b:Int):St×Int:=
 if b==33 then({s with state:=4},0)
 else if b==63 then({s with state:=8},0)
 else if b=47∧0<s.opn.length then({s with state:=20,matched:=0},0)
 else if dM b&& !s.over then kE s b
 else(s,3)
def gP(s:St)(b:Int):St×Int:=
 if b==45 then({s with state:=5},0)
 else if b=91∧0<s.opn.length then({s with state:=6,matched:=0},0)
 else(s,3)
def jL:List Int:=[67,68,65,84,65,91]
def cT(s:St)(b:Int):St×Int:=
 if 6≤s.matched∨jL.getD s.matched.toNat 0≠b then(s,3)
 else if s.matched+1=6 then({s with matched:=s.matched+1,state:=2},0)
 else({s with matched:=s.matched+1},0)
def dI(s:St):List (Bs×Bs)→St
 |[]=>s
 |p::r=>dI (add s ⟨6,p.1,[],p.2,[]⟩) r
def fB(s:St):List (Bs×Bs)→St
 |[]=>s
 |p::r=>fB (add s ⟨7,p.1,[],[],[]⟩) r
def cK(s:St):St:=dI s (cG s)
def eD(s:St):St:=fB s (cG s).reverse
def cH(s:St):St:={add (cK s) ⟨1,s.name,aZ s s.name,[],s.aC⟩with aC:=[]}
def dR(s:St)(name:Bs):St:=
 resume {leave (eD (add s ⟨2,name,aZ s name,[],[]⟩))with over:=decide (s.opn.length=0)}
def gH(s:St)(b:Int):St:=
 if b==47 then{s with state:=19}else resume {cH s with opn:=s.opn++[s.name],name:=[]}
def gQ(s:St)(b:Int):St×Int:=
 if s.on then
  match(enter s).2 with
  |none=>((enter s).1,8)
  |some l=>(gH {(enter s).1 with aC:=l} b,0)
 else(gH s b,0)
def fO(s:St)(b:Int):St×Int:=
 if cB b then({s with state:=13},0)
 else if b==47||b==62 then gQ s b
 else(s,3)
def jM(s:St)(b:Int):St×Int:=
 if gm b then gG s b else fO {aY s with name:=s.token} b
def jb(s:St)(b:Int):St×Int:=
 if !dM b then fO s b
 else if s.oa≤s.aC.length then(s,7)
 else(put {s with state:=14} b,0)
def jN(s:St)(b:Int):St×Int:=
 if b !=62 then(s,3)else({dR (cH s) s.name with name:=[]},0)
def Pu(s:St)(name:Bs):Bool:=s.aC.any fun a=>decide (a.name=name)
def gS(s:St)(b:Int):St×Int:=
 if cB b then({s with state:=15},0)else if b==61 then({s with state:=16},0)else(s,3)
def kF(s:St)(b:Int):St×Int:=
 if fits s 1 then(if !fits (put s b) 1&&Pu (put s b) (put s b).token then(put s b,7)else(put s b,0))else(s,7)
def iz(s:St)(b:Int):St×Int:=
 if gm b then kF s b
 else if b !=61&& !cB b then(s,3)
 else if Pu s s.token then(s,6)
 else gS {aY s with attr:=s.token} b
def iA(s:St)(b:Int):St×Int:=
 if cB b then(s,0)else if b==34||b==39 then({s with quote:=b,state:=17},0)else(s,3)
def endValue(s:St):St:=
 {aY s with aC:=s.aC++[⟨s.attr,[],s.token⟩],attr:=[],state:=18}
def fC(s:St)(b:Int):St×Int:=
 if b==s.quote then(endValue s,0)
 else if b==60 then(s,3)
 else if b==38 then(if fits s 1 then(setRef s ⟨1,[],0⟩,0)else(s,7))
 else if b==9||b==10 then cW s 32
 else cW s b
def innermost(s:St):Bs:=s.opn.getLastD []
def Pv(s:St):St:=dR {s with opn:=s.opn.dropLast} (innermost s)
def gT(s:St)(b:Int):St×Int:=
 if cB b then({s with state:=21},0)else if b==62 then(Pv s,0)else(s,3)
def gU(s:St)(b:Int):St×Int:=
 if s.matched<(innermost s).length then
  (if((innermost s).getD s.matched.toNat 0).toNat≠b then(s,5)else({s with matched:=s.matched+1},0))
 else if gm b then(s,5)else gT s b
def fD(s:St)(b:Int):St×Int:=
 if s.state==12 then jM s b
 else if s.state==13 then jb s b
 else if s.state==14 then iz s b
 else if s.state==15 then gS s b
 else if s.state==16 then iA s b
 else if s.state==18 then fO s b
 else jN s b
def dP(s:St)(b:Int):St×Int:=
 if s.state==3 then fA s b
 else if s.state==4 then gP s b
 else if s.state==5 then jo s b
 else if s.state==6 then cT s b
 else if s.state==8 then dO s b
 else if s.state==9 then jr s b
 else if s.state==10 then ju s b
 else if s.state==20 then gU s b
 else if s.state==21 then gT s b
 else fD s b
def bO(s:St)(b:Int):St×Int:=
 if 0<s.pl then ja s b
 else if isOpen s.rp then iy s b
 else if s.state==0 then iP s b
 else if s.state==1 then fw s b
 else if s.state==2 then gq s b
 else if s.state==7 then gN s b
 else if s.state==11 then fu s b
 else if s.state==17 then fC s b
 else dP s b
def jc(s:St)(b:Int):St:=
 if b==10 then{s with line:=s.line+1,column:=1}else if s.pl==0 then{s with column:=s.column+1}else s
def jv(s:St)(b:Int):St×Int:=if(bO s b).2=0 then(jc (bO s b).1 b,0)else bO s b
def read(s:St)(b:Int):St×Int:=
 if b=10∧s.ret=true then({s with ret:=false},0)
 else if b=13 then jv {s with ret:=true} 10
 else jv {s with ret:=false} b
def rU(s:St):Bool:=s.over&&s.state==0
def bC(od oa ot:Int)(on:Bool):St:=
 {od:=od,oa:=oa,ot:=ot,on:=on,state:=0,opn:=[],over:=false,aG:=[(qf,iN)],cnt:=[],token:=[],count:=0,name:=[],attr:=[],aC:=[],quote:=0,held:=[],brackets:=0,matched:=0,pc:=0,pl:=0,rp:=0,rn:=[],rc:=0,ret:=false,line:=1,column:=1,list:=[],text:=[],at_:=0,ended:=0,am:=false}
def eU(s:St)(b:UInt8):St:=
 if s.ended=0 then
  (let r:=read {s with at_:=s.at_+1} b.toNat
   {r.1 with ended:=r.2})
 else s
def bI(s:St):Bs→St
 |[]=>s
 |x::r=>bI (eU s x) r
def feed(s:St)(l:Bs):St×List Ev×Int:=
 if s.ended=0 then(take (bI s l),(aQ (bI s l)).list,(bI s l).ended)else(s,[],s.ended)
def close(s:St):St×Int:=
 if s.ended=0 then(if rU s then({s with ended:=10},0)else({s with ended:=9},9))else(s,s.ended)
end Mk
namespace Go.Proofs.YtmgfijllcdadgaaGreatDoor
open Go.RowKit
variable {w w' :World}{base b:Nat}{f c:List Nat}
structure Row where
 e:TypeId
 size:Nat
 v:Value
 n:Nat
 xs:List Value
def Row.owned(r:Row)(w:World)(base:Nat):Prop:=w.ownsRow base r.e r.size r.v r.n r.xs
def aW(rs:List Row):List Nat:=rs.filterMap fun r=>r.v.ownBlock
structure bL(w:World)(base:Nat)(rs:List Row):Prop where
 own:∀r∈rs,r.owned w base
 nd:(aW rs).Nodup
theorem bL.lt{w:World}{base:Nat}{rs:List Row}(h:bL w base rs):∀k∈aW rs,base≤k∧k<w.heap.size:=by
 intro k a;obtain⟨r,b,c⟩:=List.mem_filterMap.1 a;exact(h.own r b).lt k c
theorem fP{r:Row}(h:r.owned w base)(d:∀k,r.v.ownBlock=some k→w'.heap[k]?=w.heap[k]?):r.owned w' base:=by
 refine⟨h.1,?_⟩;rcases h.2 with e|⟨g,cap,a,c,f,b,rest⟩
 .exact .inl e
 exact .inr ⟨g,cap,a,c,f,by rw[d g (by rw[c];rfl)];exact b,rest⟩
theorem bL.keep{rs:List Row}(h:bL w base rs)(b:∀k∈aW rs,w'.heap[k]?=w.heap[k]?):bL w' base rs:=
 ⟨fun r a=>fP (h.own r a) fun k c=>b k (List.mem_filterMap.2 ⟨r,a,c⟩),h.nd⟩
theorem bL.perm{rs a:List Row}(h:bL w base rs)(b:rs.Perm a):bL w base a:=
 ⟨fun r c=>h.own r (b.mem_iff.2 c),(b.filterMap _).nodup_iff.1 h.nd⟩
theorem bL.tail{r:Row}{rs:List Row}(h:bL w base (r::rs)):bL w base rs:=by
 refine⟨fun x a=>h.own x (List.mem_cons_of_mem _ a),?_⟩;have:=h.nd;unfold aW at this⊢;rw[List.filterMap_cons]at this;split at this
 .exact this
 exact(List.nodup_cons.1 this).2
theorem bL.head{r:Row}{rs:List Row}(h:bL w base (r::rs)):r.owned w base:=h.own r List.mem_cons_self
def Row.isNil(r:Row):Prop:=r.v=.slice none 0 0∧r.n=0∧r.xs=[]
theorem jw{r:Row}(h:r.isNil):r.owned w base:=by
 obtain⟨a,b,c⟩:=h;unfold Row.owned;rw[a,b,c];exact World.ownsRow_nil w base r.e r.size
theorem bL.Eg{r:Row}{rs:List Row}(h:bL w base rs)(b:r.isNil):bL w base (r::rs):=by
 refine⟨fun x a=>?_,?_⟩
 .rcases List.mem_cons.1 a with rfl|a
  .exact jw b
  exact h.own x a
 unfold aW;rw[List.filterMap_cons,b.1];exact h.nd
theorem bL.rV{w:World}{base:Nat}{rs:List Row}(h:bL w base rs):∀(a:List Row),(∀x∈a,x.isNil)→bL w base (a++rs)
 |[],_=>h
 |x::a,b=>(bL.rV h a fun y c=>b y (List.mem_cons_of_mem _ c)).Eg (b x List.mem_cons_self)
theorem bL.behind{w:World}{base:Nat}{rs:List Row}:∀(a:List Row),bL w base (a++rs)→bL w base rs
 |[],h=>h
 |_::a,h=>bL.behind a h.tail
theorem oN{rs:List Row}:∀(a:List Row),(∀x∈a,x.isNil)→aW (a++rs)=aW rs
 |[],_=>rfl
 |x::a,b=>by
  have c:=oN (rs:=rs) a fun y d=>b y (List.mem_cons_of_mem _ d)
  unfold aW at c⊢;rw[List.cons_append,List.filterMap_cons,(b x List.mem_cons_self).1];exact c
theorem lQ{a rs:List Row}:∀k∈aW rs,k∈aW (a++rs):=fun k b=>by
 obtain⟨x,c,d⟩:=List.mem_filterMap.1 b;exact List.mem_filterMap.2 ⟨x,List.mem_append_right _ c,d⟩
theorem bL.grow{r r' :Row}{rs:List Row}(h:bL w base (r::rs))(l:r'.owned w' base)(m:w.grownBy w' r.v.ownBlock)
 (b:r'.v.ownBlock=r.v.ownBlock∨r'.v.ownBlock=some w.heap.size):bL w' base (r' ::rs):=by
 have c:=h.tail;have hd:∀k∈aW rs,some k≠r.v.ownBlock:=by
  intro k a e;have:=h.nd;unfold aW at this;rw[List.filterMap_cons]at this;split at this
  .rename_i d;rw[d]at e;cases e
  rename_i j d;rw[d]at e;cases e;exact(List.nodup_cons.1 this).1 a
 have a:bL w' base rs:=c.keep fun k a=>m.block k (c.lt k a).2 (hd k a)
 refine⟨fun x f=>?_,?_⟩
 .rcases List.mem_cons.1 f with rfl|f
  .exact l
  exact a.own x f
 unfold aW;rw[List.filterMap_cons];split
 .exact a.nd
 rename_i j g;refine List.nodup_cons.2 ⟨fun i=>?_,a.nd⟩;rcases b with b|b
 .exact hd j i (g.symm.trans b)
 have:=(c.lt j i).2;rw[g]at b;cases b;omega
structure Fr(w w' :World)(b:Nat)(f f' :List Nat):Prop where
 os:w'.os=w.os
 tape:w'.tape=w.tape
 output:w'.output=w.output
 size:w.heap.size≤w'.heap.size
 block:∀k,k<w.heap.size→k≠b→k∉f→w'.heap[k]?=w.heap[k]?
 aJ:∀k∈f', k∈f∨w.heap.size≤k
theorem Fr.refl(w:World)(b:Nat)(f:List Nat):Fr w w b f f:=⟨rfl,rfl,rfl,Nat.le_refl _,fun _ _ _ _=>rfl,fun _ h=>.inl h⟩
theorem Fr.trans{w w1 w2:World}{b:Nat}{f d e:List Nat}(h:Fr w w1 b f d)(k:Fr w1 w2 b d e):Fr w w2 b f e:=
 ⟨k.os.trans h.os,k.tape.trans h.tape,k.output.trans h.output,Nat.le_trans h.size k.size,
  fun j c g i=>(k.block j (Nat.lt_of_lt_of_le c h.size) g fun a=>by
   rcases h.aJ j a with a|a
   .exact i a
   omega).trans (h.block j c g i),
  fun j c=>by
   rcases k.aJ j c with a|a
   .exact h.aJ j a
   exact .inr (Nat.le_trans h.size a)⟩
theorem Fr.alloc(w:World)(b:Nat)(f:List Nat)(o:Obj):Fr w (w.alloc o) b f f:=
 ⟨rfl,rfl,rfl,by simp,fun k a _ _=>Below.heap_alloc _ _ _ a,fun _ h=>.inl h⟩
theorem Fr.drew(w:World)(b:Nat)(f:List Nat):Fr w w.drew b f f:=⟨rfl,rfl,rfl,Nat.le_refl _,fun _ _ _ _=>rfl,fun _ h=>.inl h⟩
theorem Fr.setCell(w:World)(b:Nat)(f:List Nat)(i:Nat)(u:Value):Fr w (w.setCell ⟨b,i,none⟩ u) b f f:=
 ⟨rfl,rfl,rfl,by simp[World.setCell],fun k _ a _=>Below.heap_setCell _ _ _ _ a,fun _ h=>.inl h⟩
theorem Fr.oO{w0:World}(h:Fr w0 w b f c){a:Addr}(i:w0.heap.size≤a.block)(u:Value):Fr w0 (w.setCell a u) b f c:=
 ⟨h.os,h.tape,h.output,by simpa[World.setCell]using h.size,fun k d e g=>(Below.heap_setCell _ _ _ _ (by omega)).trans (h.block k d e g),h.aJ⟩
theorem Fr.grown{r r' :Row}(a:w.grownBy w' r.v.ownBlock)(c:r'.v.ownBlock=r.v.ownBlock∨r'.v.ownBlock=some w.heap.size)(rs:List Row)(i:f=aW (r::rs)):
 Fr w w' b f (aW (r' ::rs)):=by
 subst i;refine⟨a.os,a.tape,a.output,a.size,fun k d _ j=>a.block k d fun e=>j (List.mem_filterMap.2 ⟨r,List.mem_cons_self,e.symm⟩),fun k d=>?_⟩;unfold aW at d;obtain⟨x,h,g⟩:=List.mem_filterMap.1 d;rcases List.mem_cons.1 h with rfl|h
 .rcases c with c|c
  .exact .inl (List.mem_filterMap.2 ⟨r,List.mem_cons_self,c.symm.trans g⟩)
  rw[c]at g;cases g;exact .inr (Nat.le_refl _)
 exact .inl (List.mem_filterMap.2 ⟨x,List.mem_cons_of_mem _ h,g⟩)
theorem Fr.sub{a:List Nat}(h:Fr w w' b f c)(d:∀k∈a,k∈c):Fr w w' b f a:=
 ⟨h.os,h.tape,h.output,h.size,h.block,fun k e=>h.aJ k (d k e)⟩
theorem Fr.wide{g:List Nat}(h:Fr w w' b f c)(d:∀k∈f,k∈g):Fr w w' b g c:=
 ⟨h.os,h.tape,h.output,h.size,fun k a e i=>h.block k a e fun j=>i (d k j),fun k a=>(h.aJ k a).imp (d k) id⟩
theorem gI{rs a:List Row}(h:rs.Perm a):∀k∈aW rs,k∈aW a:=fun _ b=>(h.filterMap _).mem_iff.1 b
end Go.Proofs.YtmgfijllcdadgaaGreatDoor
