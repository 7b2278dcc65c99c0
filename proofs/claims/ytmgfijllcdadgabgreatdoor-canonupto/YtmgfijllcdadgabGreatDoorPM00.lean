/- Model, Heap -/
import Derived.WalkKit
import Derived.Deep.AppendLies
set_option linter.unusedVariables false
set_option linter.unusedSimpArgs false
namespace Mk
abbrev Bs:=List UInt8
structure Att where
  name:Bs
  space:Bs
  val:Bs
structure Ev where
  kind:Int
  name:Bs
  space:Bs
  val:Bs
  attrs:List Att
structure St where
  od:Int
  oa:Int
  ot:Int
  on:Bool
  state:Int
  opn:List Bs
  over:Bool
  bnd:List (Bs × Bs)
  cnt:List Nat
  token:Bs
  count:Int
  name:Bs
  attr:Bs
  attrs:List Att
  quote:Int
  held:Bs
  brackets:Int
  matched:Int
  pc:Int
  pl:Int
  rp:Int
  rn:Bs
  rc:Int
  ret:Bool
  line:Int
  column:Int
  list:List Ev
  text:Bs
  at_:Int
  ended:Int
  /-- no part of the program: the list of attributes has been handed on and is not yet let go -/
  am:Bool
def u8 (n:Int):UInt8:=UInt8.ofNat n.toNat
def isSpace (b:Int):Bool:=b == 32 || b == 9 || b == 10 || b == 13
def isLetter (b:Int):Bool:=(decide (65≤b) && decide (b≤90)) || (decide (97≤b) && decide (b≤122))
def isDigit (b:Int):Bool:=decide (48≤b) && decide (b≤57)
def beginsName (b:Int):Bool:=isLetter b || b == 95 || b == 58
def inName (b:Int):Bool:=beginsName b || isDigit b || b == 45 || b == 46
def digitVal (b:Int) (base:Int):Int:=
  if isDigit b then b - 48 else if decide (65≤b) && decide (b≤70) then b - 55 else if decide (97≤b) && decide (b≤102) then b - 87 else base
def digit (b:Int) (base:Int):Option Int:=if base≤digitVal b base then none else some (digitVal b base)
def isChar (c:Int):Bool:=
  if c<32 then c == 9 || c == 10 || c == 13
  else if c<65536 then decide (c≤55295) || (decide (57344≤c) && decide (c≤65533))
  else decide (c≤1114111)
def encodeI (c:Int):List Int:=
  if c<128 then [c]
  else if c<2048 then [192 + c / 64,128 + c % 64]
  else if c<65536 then [224 + c / 4096,128 + c / 64 % 64,128 + c % 64]
  else [240 + c / 262144,128 + c / 4096 % 64,128 + c / 64 % 64,128 + c % 64]
def encode (c:Int):Bs:=(encodeI c).map u8
def begin_ (b:Int):Option (Int × Int):=
  if b<128∧isChar b=true then some (b,0)
  else if 194≤b∧b≤223 then some (b - 192,1)
  else if 224≤b∧b≤239 then some (b - 224,2)
  else if 240≤b∧b≤244 then some (b - 240,3)
  else none
def canEnd (c l:Int):Bool:=
  if l == 2 then decide (16≤c) && decide (c≤271)
  else if l == 1 then decide (32≤c) && (decide (c<864) || decide (895<c))
  else isChar c
def nextPart (c l b:Int):Option (Int × Int):=
  if b<128∨191<b then none
  else if canEnd (c * 64 + b - 128) (l - 1) then some (c * 64 + b - 128,l - 1) else none
structure Rf where
  place:Int
  name:Bs
  code:Int
def refNames:List (Bs × Int):=[([108,116,59],60),([103,116,59],62),([97,109,112,59],38),([113,117,111,116,59],34),([97,112,111,115,59],39)]
def letterIn (name:Bs):List (Bs × Int)→Option Rf
  | []=>none
  | (n,c) :: r=>if n=name then some ⟨7,[],c⟩ else if name.isPrefixOf n then some ⟨2,name,0⟩ else letterIn name r
def letter (n:Bs) (b:Int):Option Rf:=letterIn (n ++ [u8 b]) refNames
def refDigit (code b base place:Int):Option Rf:=
  match digit b base with
  | none=>none
  | some v=>if 1114111<code * base + v then none else some ⟨place,[],code * base + v⟩
def digitOrEnd (code b base place:Int):Option Rf:=
  if b == 59 then (if isChar code then some ⟨7,[],code⟩ else none) else refDigit code b base place
def refNext (r:Rf) (b:Int):Option Rf:=
  if r.place == 1 then (if b == 35 then some ⟨3,[],0⟩ else letter r.name b)
  else if r.place == 2 then letter r.name b
  else if r.place == 3 then (if b == 120 then some ⟨4,[],0⟩ else refDigit r.code b 10 5)
  else if r.place == 5 then digitOrEnd r.code b 10 5
  else if r.place == 4 then refDigit r.code b 16 6
  else if r.place == 6 then digitOrEnd r.code b 16 6
  else none
def isOpen (place:Int):Bool:=place != 0 && place != 7
def wXml:Bs:=[120,109,108]
def wXmlns:Bs:=[120,109,108,110,115]
def xmlSpace:Bs:=[104,116,116,112,58,47,47,119,119,119,46,119,51,46,111,114,103,47,88,77,76,47,49,57,57,56,47,110,97,109,101,115,112,97,99,101]
def declSpace:Bs:=[104,116,116,112,58,47,47,119,119,119,46,119,51,46,111,114,103,47,50,48,48,48,47,120,109,108,110,115,47]
def colonAt (n:Bs):Nat:=(n.takeWhile (· != 58)).length
def hasColon (n:Bs):Bool:=decide (colonAt n<n.length)
def colon (n:Bs):Int:=if hasColon n then (colonAt n:Int) else -1
def prefixOf (n:Bs):Bs:=if hasColon n then n.take (colonAt n) else []
def localOf (n:Bs):Bs:=if hasColon n then n.drop (colonAt n + 1) else n
def isQualified (n:Bs):Bool:=
  if !hasColon n then true
  else (prefixOf n != []) && ((localOf n != []) && (beginsName ((localOf n).headD 0).toNat && !hasColon (localOf n)))
def isDecl (n:Bs):Bool:=n == wXmlns || prefixOf n == wXmlns
def declared (n:Bs):Bs:=if n == wXmlns then [] else localOf n
def isGood (p v:Bs):Bool:=
  if p == wXmlns || v == declSpace then false
  else if p == wXml || v == xmlSpace then p == wXml && v == xmlSpace
  else p == [] || v != []
def valueOf (l:List (Bs × Bs)) (p:Bs):Bs:=l.foldl (fun acc x=>if x.1 == p then x.2 else acc) []
def isBound (l:List (Bs × Bs)) (p:Bs):Bool:=p == [] || valueOf l p != []
def areQualified (n:Bs) (as:List Att):Bool:=as.all (fun a=>isQualified a.name) && isQualified n
def declareGo:List Att→List (Bs × Bs)→Nat→List (Bs × Bs) × Nat × Bool
  | [],b,c=>(b,c,true)
  | a :: r,b,c =>
    if !isDecl a.name then declareGo r b c
    else if !isGood (declared a.name) a.val then (b,c,false)
    else declareGo r (b ++ [(declared a.name,a.val)]) (c + 1)
def hasLocal (as:List Att) (x:Att):Bool:=as.any fun a=>a.space == x.space && localOf a.name == localOf x.name
def withSpace (bnd:List (Bs × Bs)) (a:Att):Att:=if prefixOf a.name != [] then { a with space:=valueOf bnd (prefixOf a.name) } else a
def resolveGo (bnd:List (Bs × Bs)):List Att→List Att→Option (List Att)
  | [],acc=>some acc
  | a :: r,acc =>
    if isDecl a.name then resolveGo bnd r acc
    else if !isBound bnd (prefixOf a.name) || hasLocal acc (withSpace bnd a) then none
    else resolveGo bnd r (acc ++ [withSpace bnd a])
def declare (s:St):St × Bool:=
  let d:=declareGo s.attrs s.bnd 0
  if d.2.2 then ({ s with bnd:=d.1,cnt:=s.cnt ++ [d.2.1] },true) else ({ s with bnd:=d.1 },false)
def enter (s:St):St × Option (List Att):=
  if !areQualified s.name s.attrs then (s,none)
  else if !(declare s).2 then ((declare s).1,none)
  else if !isBound (declare s).1.bnd (prefixOf s.name) then ((declare s).1,none)
  else ((declare s).1,resolveGo (declare s).1.bnd s.attrs [])
def first (s:St):Nat:=
  match s.cnt.getLast? with
  | none=>s.bnd.length
  | some c=>if s.bnd.length<c then s.bnd.length else s.bnd.length - c
def ofTag (s:St):List (Bs × Bs):=s.bnd.drop (first s)
def leave (s:St):St:={ s with bnd:=s.bnd.take (first s),cnt:=s.cnt.dropLast }
def spaceOf (s:St) (n:Bs):Bs:=if s.on then valueOf s.bnd (prefixOf n) else []
def inText (s:St):Bool:=s.state == 1 || s.state == 2
def fits (s:St) (more:Int):Bool:=inText s || decide (s.count + more≤s.ot)
def put (s:St) (c:Int):St:=
  if inText s then { s with text:=s.text ++ encode c } else { s with token:=s.token ++ encode c,count:=s.count + 1 }
def dropToken (s:St):St:={ s with token:=[],count:=0 }
def lengthenName (s:St) (b:Int):St × Int:=if fits s 1 then (put s b,0) else (s,7)
def goOn (s:St) (p:Int × Int):St:=
  if p.2 == 0 then put { s with pc:=p.1,pl:=p.2 } p.1 else { s with pc:=p.1,pl:=p.2 }
def putAll (s:St):Bs→St
  | []=>s
  | x :: r=>putAll (put s x.toNat) r
def readCharacter (s:St) (b:Int):St × Int:=
  match begin_ b with
  | none=>(s,2)
  | some p=>if fits s (s.held.length + 1) then (goOn { putAll s s.held with held:=[] } p,0) else (s,7)
def readPart (s:St) (b:Int):St × Int:=
  match nextPart s.pc s.pl b with
  | none=>(s,2)
  | some p=>(goOn s p,0)
def setRef (s:St) (r:Rf):St:={ s with rp:=r.place,rn:=r.name,rc:=r.code }
def readReference (s:St) (b:Int):St × Int:=
  match refNext ⟨s.rp,s.rn,s.rc⟩ b with
  | none=>(s,4)
  | some r=>if isOpen r.place then (setRef s r,0) else (put (setRef s r) r.code,0)
def endText (s:St):St:=if s.text.length=0 then s else { s with list:=s.list ++ [⟨3,[],[],s.text,[]⟩],text:=[] }
def add (s:St) (e:Ev):St:={ endText s with list:=(endText s).list ++ [e] }
def take (s:St):St:={ endText s with list:=[] }
def resume (s:St):St:={ s with state:=if s.opn.length=0 then 0 else 1 }
def endComment (s:St):St:=resume (add (dropToken { s with held:=[] }) ⟨4,[],[],s.token,[]⟩)
def readDash (s:St) (b:Int):St × Int:=if b == 45 then ({ s with state:=7 },0) else (s,3)
def readComment (s:St) (b:Int):St × Int:=
  if s.held=[45,45]∧b=62 then (endComment s,0)
  else if s.held=[45,45] then (s,3)
  else if b=45 then ({ s with held:=s.held ++ [45] },0)
  else readCharacter s b
def isXML (l:Bs):Bool:=
  match l with
  | [a,b,c]=>((a.toNat:Int) == 120 || (a.toNat:Int) == 88) && ((b.toNat:Int) == 109 || (b.toNat:Int) == 77) && ((c.toNat:Int) == 108 || (c.toNat:Int) == 76)
  | _=>false
def readInstructionName (s:St) (b:Int):St × Int:=
  if s.count == 0 && !beginsName b then (s,3)
  else if inName b then lengthenName s b
  else if isXML s.token || b != 63 && !isSpace b then (s,3)
  else if s.on && hasColon s.token then (s,8)
  else ({ dropToken s with name:=s.token,state:=if b == 63 then 9 else 10 },0)
def endInstruction (s:St):St:=
  resume { add (dropToken { s with held:=[] }) ⟨5,s.name,[],s.token,[]⟩ with name:=[] }
def readBareInstruction (s:St) (b:Int):St × Int:=if b == 62 then (endInstruction s,0) else (s,3)
def readInstruction (s:St) (b:Int):St × Int:=
  if b=62∧s.held=[63] then (endInstruction s,0)
  else if b=63∧s.held=[63] then (if fits s 1 then (put s 63,0) else (s,7))
  else if b=63 then ({ s with held:=[63] },0)
  else readCharacter s b
def readInstructionSpace (s:St) (b:Int):St × Int:=
  if isSpace b then (s,0) else readInstruction { s with state:=11 } b
def readOutside (s:St) (b:Int):St × Int:=if isSpace b then (s,0) else if b == 60 then ({ s with state:=3 },0) else (s,3)
def readContent (s:St) (b:Int):St × Int:=
  if b == 60 then ({ s with brackets:=0,state:=3 },0)
  else if b == 38 then (setRef { s with brackets:=0 } ⟨1,[],0⟩,0)
  else if b == 62 then (if s.brackets == 2 then ({ s with brackets:=0 },3) else readCharacter { s with brackets:=0 } b)
  else if b == 93 then readCharacter { s with brackets:=if s.brackets == 0 then 1 else 2 } b
  else readCharacter { s with brackets:=0 } b
def readSection (s:St) (b:Int):St × Int:=
  if b=62∧s.held=[93,93] then ({ s with held:=[],state:=1 },0)
  else if b=93∧s.held=[93,93] then (put s 93,0)
  else if b=93 then ({ s with held:=s.held ++ [93] },0)
  else readCharacter s b
def beginStart (s:St) (b:Int):St × Int:=
  if s.od≤s.opn.length then (s,7) else (put { s with state:=12 } b,0)
def readLess (s:St) (b:Int):St × Int:=
  if b == 33 then ({ s with state:=4 },0)
  else if b == 63 then ({ s with state:=8 },0)
  else if b=47∧0<s.opn.length then ({ s with state:=20,matched:=0 },0)
  else if beginsName b && !s.over then beginStart s b
  else (s,3)
def readBang (s:St) (b:Int):St × Int:=
  if b == 45 then ({ s with state:=5 },0)
  else if b=91∧0<s.opn.length then ({ s with state:=6,matched:=0 },0)
  else (s,3)
def sectionMark:List Int:=[67,68,65,84,65,91]
def readSectionMark (s:St) (b:Int):St × Int:=
  if 6≤s.matched∨sectionMark.getD s.matched.toNat 0 ≠ b then (s,3)
  else if s.matched + 1=6 then ({ s with matched:=s.matched + 1,state:=2 },0)
  else ({ s with matched:=s.matched + 1 },0)
def bindAll (s:St):List (Bs × Bs)→St
  | []=>s
  | p :: r=>bindAll (add s ⟨6,p.1,[],p.2,[]⟩) r
def unbindAll (s:St):List (Bs × Bs)→St
  | []=>s
  | p :: r=>unbindAll (add s ⟨7,p.1,[],[],[]⟩) r
def tellBinds (s:St):St:=bindAll s (ofTag s)
def tellUnbinds (s:St):St:=unbindAll s (ofTag s).reverse
def tellStart (s:St):St:={ add (tellBinds s) ⟨1,s.name,spaceOf s s.name,[],s.attrs⟩ with attrs:=[] }
def tellEnd (s:St) (name:Bs):St:=
  resume { leave (tellUnbinds (add s ⟨2,name,spaceOf s name,[],[]⟩)) with over:=decide (s.opn.length=0) }
def endStart (s:St) (b:Int):St:=
  if b == 47 then { s with state:=19 } else resume { tellStart s with opn:=s.opn ++ [s.name],name:=[] }
def endAttributes (s:St) (b:Int):St × Int:=
  if s.on then
    match (enter s).2 with
    | none=>((enter s).1,8)
    | some l=>(endStart { (enter s).1 with attrs:=l } b,0)
  else (endStart s b,0)
def readStartGap (s:St) (b:Int):St × Int:=
  if isSpace b then ({ s with state:=13 },0)
  else if b == 47 || b == 62 then endAttributes s b
  else (s,3)
def readStartName (s:St) (b:Int):St × Int:=
  if inName b then lengthenName s b else readStartGap { dropToken s with name:=s.token } b
def readStartSpace (s:St) (b:Int):St × Int:=
  if !beginsName b then readStartGap s b
  else if s.oa≤s.attrs.length then (s,7)
  else (put { s with state:=14 } b,0)
def readSlash (s:St) (b:Int):St × Int:=
  if b != 62 then (s,3) else ({ tellEnd (tellStart s) s.name with name:=[] },0)
def hasAttr (s:St) (name:Bs):Bool:=s.attrs.any fun a=>decide (a.name=name)
def readAttrSpace (s:St) (b:Int):St × Int:=
  if isSpace b then ({ s with state:=15 },0) else if b == 61 then ({ s with state:=16 },0) else (s,3)
def lengthenAttrName (s:St) (b:Int):St × Int:=
  if fits s 1 then (if !fits (put s b) 1 && hasAttr (put s b) (put s b).token then (put s b,7) else (put s b,0)) else (s,7)
def readAttrName (s:St) (b:Int):St × Int:=
  if inName b then lengthenAttrName s b
  else if b != 61 && !isSpace b then (s,3)
  else if hasAttr s s.token then (s,6)
  else readAttrSpace { dropToken s with attr:=s.token } b
def readEquals (s:St) (b:Int):St × Int:=
  if isSpace b then (s,0) else if b == 34 || b == 39 then ({ s with quote:=b,state:=17 },0) else (s,3)
def endValue (s:St):St:=
  { dropToken s with attrs:=s.attrs ++ [⟨s.attr,[],s.token⟩],attr:=[],state:=18 }
def readValue (s:St) (b:Int):St × Int:=
  if b == s.quote then (endValue s,0)
  else if b == 60 then (s,3)
  else if b == 38 then (if fits s 1 then (setRef s ⟨1,[],0⟩,0) else (s,7))
  else if b == 9 || b == 10 then readCharacter s 32
  else readCharacter s b
def innermost (s:St):Bs:=s.opn.getLastD []
def endInnermost (s:St):St:=tellEnd { s with opn:=s.opn.dropLast } (innermost s)
def readEndSpace (s:St) (b:Int):St × Int:=
  if isSpace b then ({ s with state:=21 },0) else if b == 62 then (endInnermost s,0) else (s,3)
def readEndName (s:St) (b:Int):St × Int:=
  if s.matched<(innermost s).length then
    (if ((innermost s).getD s.matched.toNat 0).toNat ≠ b then (s,5) else ({ s with matched:=s.matched + 1 },0))
  else if inName b then (s,5) else readEndSpace s b
def readStartTag (s:St) (b:Int):St × Int:=
  if s.state == 12 then readStartName s b
  else if s.state == 13 then readStartSpace s b
  else if s.state == 14 then readAttrName s b
  else if s.state == 15 then readAttrSpace s b
  else if s.state == 16 then readEquals s b
  else if s.state == 18 then readStartGap s b
  else readSlash s b
def readMark (s:St) (b:Int):St × Int:=
  if s.state == 3 then readLess s b
  else if s.state == 4 then readBang s b
  else if s.state == 5 then readDash s b
  else if s.state == 6 then readSectionMark s b
  else if s.state == 8 then readInstructionName s b
  else if s.state == 9 then readBareInstruction s b
  else if s.state == 10 then readInstructionSpace s b
  else if s.state == 20 then readEndName s b
  else if s.state == 21 then readEndSpace s b
  else readStartTag s b
def readByte (s:St) (b:Int):St × Int:=
  if 0<s.pl then readPart s b
  else if isOpen s.rp then readReference s b
  else if s.state == 0 then readOutside s b
  else if s.state == 1 then readContent s b
  else if s.state == 2 then readSection s b
  else if s.state == 7 then readComment s b
  else if s.state == 11 then readInstruction s b
  else if s.state == 17 then readValue s b
  else readMark s b
def movePlace (s:St) (b:Int):St:=
  if b == 10 then { s with line:=s.line + 1,column:=1 } else if s.pl == 0 then { s with column:=s.column + 1 } else s
def readOn (s:St) (b:Int):St × Int:=if (readByte s b).2=0 then (movePlace (readByte s b).1 b,0) else readByte s b
def read (s:St) (b:Int):St × Int:=
  if b=10∧s.ret=true then ({ s with ret:=false },0)
  else if b=13 then readOn { s with ret:=true } 10
  else readOn { s with ret:=false } b
def isDocument (s:St):Bool:=s.over && s.state == 0
def make_ (od oa ot:Int) (on:Bool):St:=
  { od:=od,oa:=oa,ot:=ot,on:=on,state:=0,opn:=[],over:=false,bnd:=[(wXml,xmlSpace)],cnt:=[],token:=[],count:=0,name:=[],attr:=[],attrs:=[],quote:=0,held:=[],brackets:=0,matched:=0,pc:=0,pl:=0,rp:=0,rn:=[],rc:=0,ret:=false,line:=1,column:=1,list:=[],text:=[],at_:=0,ended:=0,am:=false }
def feedByte (s:St) (b:UInt8):St:=
  if s.ended=0 then
    (let r:=read { s with at_:=s.at_ + 1 } b.toNat
     { r.1 with ended:=r.2 })
  else s
def feedAll (s:St):Bs→St
  | []=>s
  | x :: r=>feedAll (feedByte s x) r
def feed (s:St) (l:Bs):St × List Ev × Int:=
  if s.ended=0 then (take (feedAll s l),(endText (feedAll s l)).list,(feedAll s l).ended) else (s,[],s.ended)
def close (s:St):St × Int:=
  if s.ended=0 then (if isDocument s then ({ s with ended:=10 },0) else ({ s with ended:=9 },9)) else (s,s.ended)
end Mk
namespace Go.Proofs.YtmgfijllcdadgabGreatDoor
open Go.RowKit
structure Row where
  e:TypeId
  size:Nat
  v:Value
  n:Nat
  xs:List Value
def Row.owned (r:Row) (w:World) (base:Nat):Prop:=w.ownsRow base r.e r.size r.v r.n r.xs
def blks (rs:List Row):List Nat:=rs.filterMap fun r=>r.v.ownBlock
structure Rws (w:World) (base:Nat) (rs:List Row):Prop where
  own:∀ r ∈ rs,r.owned w base
  nd:(blks rs).Nodup
theorem Rws.lt {w:World} {base:Nat} {rs:List Row} (h:Rws w base rs):∀ k ∈ blks rs,base≤k∧k<w.heap.size:=by
  intro k hk
  obtain ⟨r,hr,hv⟩:=List.mem_filterMap.1 hk
  exact (h.own r hr).lt k hv
theorem owned_keep {w w' : World} {base:Nat} {r:Row} (h:r.owned w base) (hk:∀ k,r.v.ownBlock=some k→w'.heap[k]? = w.heap[k]?):r.owned w' base:=by
  refine ⟨h.1,?_⟩
  rcases h.2 with hn | ⟨g,cap,cur,hv,hb,hgg,rest⟩
  · exact .inl hn
  · exact .inr ⟨g,cap,cur,hv,hb,by rw [hk g (by rw [hv];rfl)];exact hgg,rest⟩
theorem Rws.keep {w w' : World} {base:Nat} {rs:List Row} (h:Rws w base rs) (hk:∀ k ∈ blks rs,w'.heap[k]? = w.heap[k]?):Rws w' base rs:=
  ⟨fun r hr=>owned_keep (h.own r hr) fun k hv=>hk k (List.mem_filterMap.2 ⟨r,hr,hv⟩),h.nd⟩
theorem Rws.perm {w:World} {base:Nat} {rs rs' : List Row} (h:Rws w base rs) (hp:rs.Perm rs'):Rws w base rs' :=
  ⟨fun r hr=>h.own r (hp.mem_iff.2 hr),(hp.filterMap _).nodup_iff.1 h.nd⟩
theorem Rws.tail {w:World} {base:Nat} {r:Row} {rs:List Row} (h:Rws w base (r :: rs)):Rws w base rs:=by
  refine ⟨fun x hx=>h.own x (List.mem_cons_of_mem _ hx),?_⟩
  have:=h.nd
  unfold blks at this ⊢
  rw [List.filterMap_cons] at this
  split at this
  · exact this
  · exact (List.nodup_cons.1 this).2
def Row.isNil (r:Row):Prop:=r.v = .slice none 0 0∧r.n=0∧r.xs=[]
theorem owned_nil {w:World} {base:Nat} {r:Row} (h:r.isNil):r.owned w base:=by
  obtain ⟨h1,h2,h3⟩:=h
  unfold Row.owned;rw [h1,h2,h3];exact World.ownsRow_nil w base r.e r.size
theorem Rws.cons_nil {w:World} {base:Nat} {r:Row} {rs:List Row} (h:Rws w base rs) (hr:r.isNil):Rws w base (r :: rs):=by
  refine ⟨fun x hx => ?_,?_⟩
  · rcases List.mem_cons.1 hx with rfl | hx
    · exact owned_nil hr
    · exact h.own x hx
  · unfold blks;rw [List.filterMap_cons,hr.1];exact h.nd
theorem Rws.nils {w:World} {base:Nat} {rs:List Row} (h:Rws w base rs):∀ (ns:List Row),(∀ x ∈ ns,x.isNil)→Rws w base (ns ++ rs)
  | [],_=>h
  | x :: ns,hn=>(Rws.nils h ns fun y hy=>hn y (List.mem_cons_of_mem _ hy)).cons_nil (hn x List.mem_cons_self)
theorem Rws.behind {w:World} {base:Nat} {rs:List Row}:∀ (as:List Row),Rws w base (as ++ rs)→Rws w base rs
  | [],h=>h
  | _ :: as,h=>Rws.behind as h.tail
theorem blks_nils {rs:List Row}:∀ (ns:List Row),(∀ x ∈ ns,x.isNil)→blks (ns ++ rs)=blks rs
  | [],_=>rfl
  | x :: ns,hn=>by
    have h1:=blks_nils (rs:=rs) ns fun y hy=>hn y (List.mem_cons_of_mem _ hy)
    unfold blks at h1 ⊢
    rw [List.cons_append,List.filterMap_cons,(hn x List.mem_cons_self).1]
    exact h1
theorem blks_behind {as rs:List Row}:∀ k ∈ blks rs,k ∈ blks (as ++ rs):=fun k hk=>by
  obtain ⟨x,hx,hv⟩:=List.mem_filterMap.1 hk
  exact List.mem_filterMap.2 ⟨x,List.mem_append_right _ hx,hv⟩
theorem Rws.grow {w w' : World} {base:Nat} {r r' : Row} {rs:List Row} (h:Rws w base (r :: rs)) (ho:r'.owned w' base) (hg:w.grownBy w' r.v.ownBlock)
    (hb:r'.v.ownBlock=r.v.ownBlock∨r'.v.ownBlock=some w.heap.size):Rws w' base (r' :: rs):=by
  have ht:=h.tail
  have hd:∀ k ∈ blks rs,some k ≠ r.v.ownBlock:=by
    intro k hk e
    have:=h.nd
    unfold blks at this
    rw [List.filterMap_cons] at this
    split at this
    · rename_i h0;rw [h0] at e;cases e
    · rename_i j h0;rw [h0] at e;cases e;exact (List.nodup_cons.1 this).1 hk
  have hk:Rws w' base rs:=ht.keep fun k hk=>hg.block k (ht.lt k hk).2 (hd k hk)
  refine ⟨fun x hx => ?_,?_⟩
  · rcases List.mem_cons.1 hx with rfl | hx
    · exact ho
    · exact hk.own x hx
  · unfold blks;rw [List.filterMap_cons]
    split
    · exact hk.nd
    · rename_i j hj
      refine List.nodup_cons.2 ⟨fun hm => ?_,hk.nd⟩
      rcases hb with hb | hb
      · exact hd j hm (hj.symm.trans hb)
      · have:=(ht.lt j hm).2
        rw [hj] at hb;cases hb;omega
structure Fr (w w' : World) (b:Nat) (f f' : List Nat):Prop where
  os:w'.os=w.os
  tape:w'.tape=w.tape
  output:w'.output=w.output
  size:w.heap.size≤w'.heap.size
  block:∀ k,k<w.heap.size→k ≠ b→k ∉ f→w'.heap[k]? = w.heap[k]?
  foot:∀ k ∈ f', k ∈ f∨w.heap.size≤k
theorem Fr.refl (w:World) (b:Nat) (f:List Nat):Fr w w b f f:=⟨rfl,rfl,rfl,Nat.le_refl _,fun _ _ _ _=>rfl,fun _ h => .inl h⟩
theorem Fr.trans {w w1 w2:World} {b:Nat} {f f1 f2:List Nat} (h:Fr w w1 b f f1) (k:Fr w1 w2 b f1 f2):Fr w w2 b f f2:=
  ⟨k.os.trans h.os,k.tape.trans h.tape,k.output.trans h.output,Nat.le_trans h.size k.size,
    fun j hj hb hf=>(k.block j (Nat.lt_of_lt_of_le hj h.size) hb fun hm=>by
      rcases h.foot j hm with hm | hm
      · exact hf hm
      · omega).trans (h.block j hj hb hf),
    fun j hj=>by
      rcases k.foot j hj with hm | hm
      · exact h.foot j hm
      · exact .inr (Nat.le_trans h.size hm)⟩
theorem Fr.alloc (w:World) (b:Nat) (f:List Nat) (o:Obj):Fr w (w.alloc o) b f f:=
  ⟨rfl,rfl,rfl,by simp,fun k hk _ _=>Below.heap_alloc _ _ _ hk,fun _ h => .inl h⟩
theorem Fr.drew (w:World) (b:Nat) (f:List Nat):Fr w w.drew b f f:=⟨rfl,rfl,rfl,Nat.le_refl _,fun _ _ _ _=>rfl,fun _ h => .inl h⟩
theorem Fr.setCell (w:World) (b:Nat) (f:List Nat) (i:Nat) (u:Value):Fr w (w.setCell ⟨b,i,none⟩ u) b f f:=
  ⟨rfl,rfl,rfl,by simp [World.setCell],fun k _ hb _=>Below.heap_setCell _ _ _ _ hb,fun _ h => .inl h⟩
theorem Fr.grown {w w' : World} {b:Nat} {r r' : Row} {f:List Nat} (hg:w.grownBy w' r.v.ownBlock) (hb:r'.v.ownBlock=r.v.ownBlock∨r'.v.ownBlock=some w.heap.size) (rs:List Row) (hf:f=blks (r :: rs)) :
    Fr w w' b f (blks (r' :: rs)):=by
  subst hf
  refine ⟨hg.os,hg.tape,hg.output,hg.size,fun k hk _ hm=>hg.block k hk fun e=>hm (List.mem_filterMap.2 ⟨r,List.mem_cons_self,e.symm⟩),fun k hk => ?_⟩
  unfold blks at hk
  obtain ⟨x,hx,hv⟩:=List.mem_filterMap.1 hk
  rcases List.mem_cons.1 hx with rfl | hx
  · rcases hb with hb | hb
    · exact .inl (List.mem_filterMap.2 ⟨r,List.mem_cons_self,hb.symm.trans hv⟩)
    · rw [hb] at hv;cases hv;exact .inr (Nat.le_refl _)
  · exact .inl (List.mem_filterMap.2 ⟨x,List.mem_cons_of_mem _ hx,hv⟩)
theorem Fr.sub {w w' : World} {b:Nat} {f f' f'' : List Nat} (h:Fr w w' b f f') (hs:∀ k ∈ f'', k ∈ f'):Fr w w' b f f'' :=
  ⟨h.os,h.tape,h.output,h.size,h.block,fun k hk=>h.foot k (hs k hk)⟩
theorem Fr.wide {w w' : World} {b:Nat} {f f' g:List Nat} (h:Fr w w' b f f') (hs:∀ k ∈ f,k ∈ g):Fr w w' b g f' :=
  ⟨h.os,h.tape,h.output,h.size,fun k hk hb hg=>h.block k hk hb fun hm=>hg (hs k hm),fun k hk=>(h.foot k hk).imp (hs k) id⟩
theorem perm_blks {rs rs' : List Row} (h:rs.Perm rs'):∀ k ∈ blks rs,k ∈ blks rs' := fun _ hk=>(h.filterMap _).mem_iff.1 hk
end Go.Proofs.YtmgfijllcdadgabGreatDoor
