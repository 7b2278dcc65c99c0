import Derived.WalkKit
import Derived.Deep.AppendLies
import Derived.Test.YtmgfijllcdadgaaGreatDoorProg
import Derived.WalkSpells
import Derived.Deep.QuietTactic
import Derived.BigQuiet
import Derived.Deep.RegionLaw
import Derived.Orders
import Derived.RegionTactic
set_option linter.all false
open Go Go.RowKit
def Go.RowKit.Hid.u{p:Prop}(h:Hid p):p:=h
def aj_{p:Prop}[Decidable p](h:p:=by omega):decide p=true:=decide_eq_true h
def aj9{p:Prop}[Decidable p](h:¬p:=by omega):decide p=false:=decide_eq_false h
def aka{c:Type}[BEq c][LawfulBEq c]{a b:c}(h:a=b):(a==b)=true:=beq_iff_eq.2 h
def aj7{c:Type}[BEq c][LawfulBEq c]{a b:c}(h:¬a=b):(a==b)=false:=beq_eq_false_iff_ne.2 h
def akc{a b:Int}(h:¬a=b:=by omega):(a==b)=false:=beq_eq_false_iff_ne.2 h
def ake{c:Type}[BEq c][LawfulBEq c][DecidableEq c]{a b:c}(h:(a==b)=true):decide (a=b)=true:=decide_eq_true (beq_iff_eq.1 h)
def akf{c:Type}[BEq c][LawfulBEq c][DecidableEq c]{a b:c}(h:(a==b)=false):decide (a=b)=false:=decide_eq_false (beq_eq_false_iff_ne.1 h)
def aj8{b:Sort _}(a:b):∃c,c=a:=⟨a,rfl⟩
def akb{b:Sort _}(a:b):∃c,a=c:=⟨a,rfl⟩
def aj6{a b:Prop}(h:a)(n:¬a:=by decide):b:=absurd h n
def M{c:Prop}{h:Decidable c}(a:¬c:=by first|omega|decide|simp){b:Sort _}{t e:b}:ite c t e=e:=if_neg a
def J{c:Prop}{h:Decidable c}(a:c:=by first|omega|decide|simp){b:Sort _}{t e:b}:ite c t e=t:=if_pos a
def bT:=@List.length_append
def cK:=@Bool.false_eq_true
def a_:=@Nat.le_refl
def cT:=@List.length_cons
def gB:=@List.drop_eq_getElem_cons
def dI:=@heap_alloc_new
def dG:=@Below.heap_alloc
def iU:=@List.mem_cons_of_mem
def d_:=@beq_eq_false_iff_ne
def jT:=@World.news_of_block
def iF{a:Type _}{i:Nat}{l:List a}(h:l.length<=i:=by omega):l.drop i=[]:=List.drop_of_length_le h
def aj1:=@List.append_nil
def cL{n m k:Nat}(a:n<=m)(b:m<=k:=by decide):n<=k:=Nat.le_trans a b
def lI:=@wpList_append_lies
def fB:=@List.length_nil
def kR:=@Below.heap_setCell
def cE:=@if_false
def iZ:=@List.getElem_mem
def dO:=@Nat.zero_le
def jU:=@List.mem_cons_self
def jB:=@List.append_assoc
def bY:=@if_true
def l_:=@List.getElem?_eq_getElem
def i_:=@Nat.lt_of_lt_of_le
def gz:=@Bool.not_true
def iB:=@List.length_take
def ku:=@Bool.false_or
def iL:=@Bool.false_and
def ja:=@Bool.true_and
def iM:=@List.length_map
def nZ:=@List.take_of_length_le
def n_:=@heap_setCell_other
def lf:=@List.map_cons
def kx:=@Bool.and_false
def jV:=@Nat.zero_add
def lg:=@info_parts
def jC:=@Bool.not_false
def lm:=@List.length_drop
def lq:=@World.ownsRow_nil
def mP:=@List.map_append
def nP:=@Bool.true_or
def kF:=@Bool.eq_iff_iff
def mQ:=@List.flatMap_cons
def ol:=@List.take_append_drop
def tv:=@List.take_length
def qm:=@List.not_mem_nil
def nQ:=@Bool.and_eq_true
def oN:=@List.mem_cons
def lJ:=@Classical.byContradiction
def wP:=@and_self
def fF:=@List.filterMap_cons
def oO:=@Nat.mul_le_mul_right
def qM:=@List.take_add_one
def pV:=@decide_eq_false
def oP:=@List.mem_append_left
def Au:=@Bool.or_false
def nR:=@decide_eq_true
def rE:=@Array.getElem?_modify
def rY:=@heap_setCell_same
def qN:=@Bool.and_true
def nB:=@List.flatMap_append
def rF:=@ByteArray.ext
def oQ:=@List.drop_eq_nil_of_le
def ul:=@List.nil_append
def qO:=@List.map_nil
def oU:=@Bool.or_true
def nS:=@List.mem_append_right
def yD:=@List.any_cons
def tC:=@step_append_lies
def um:=@List.take_succ_eq_append_getElem
def LC:=@Nat.le_of_lt
def oq:=@List.take_succ_cons
def rZ:=@List.mem_map_of_mem
def uo:=@List.length_dropLast
def vp:=@List.dropLast_concat
def uq:=@Bool.or_eq_false_iff
def uw:=@List.getLastD_eq_getLast?
def Av:=@List.getElem_map
def wQ:=@List.cons_append
def tF:=@List.dropLast_concat_getLast
def yE:=@Nat.succ_mul
def pW:=@List.getElem?_append
def uy:=@IntKind.wrap_i64
def uz:=@Nat.mul_one
def rG:=@List.getLast?_eq_some_getLast
def CM:=@List.getElem?_eq_none
def vq:=@Int.le_refl
def uD:=@or_false
def nT:=@Result.andThen_ok
def wR:=@List.getElem_cons_zero
def yF:=@ByteArray.data_extract
def Aw:=@List.getElem?_append_right
def Ay:=@List.flatMap_nil
def uF:=@Int.le_trans
def rH:=@List.sum_cons
def tG:=@List.mem_of_mem_take
def CN:=@Int.toNat_natCast
def yG:=@DataW.trod_string
def ajV:=@Int.add_zero
def CO:=@List.getElem_cons_succ
def yH:=@List.filterMap_append
def CP:=@List.setIfInBounds_toArray
def Az:=@Nat.add_zero
def wS:=@decide_eq_true_eq
def wU:=@Bool.eq_false_iff
def yI:=@List.getElem?_take_of_lt
def AA:=@List.takeWhile_cons
def ajO:=@decide_true
def tH:=@List.getElem?_cons_zero
def ajP:=@beq_iff_eq
def tJ:=@run_convert_bytes_back
def AF:=@List.map_take
def ajQ:=@Nat.le_of_eq
def aj3:=@World.cell?_of_block
def FO:=@List.dropLast_subset
def ajU:=@List.getD_eq_getElem?_getD
def FQ:=@List.toList_toArray
def AJ:=@List.mem_or_eq_of_mem_set
def CQ:=@List.getElem?_append_left
def ajR:=@Nat.add_sub_cancel
def CU:=@results_none
def wV:=@Sem.run_pure
def wW:=@Sem.run_bind
def wX:=@List.drop_zero
def yJ:=@DataW.trod_int
def yK:=@results_cell_row
def AK:=@Option.getD_some
def AL:=@Nat.add_assoc
def AO:=@Bool.and_self
def yL:=@List.mem_of_mem_drop
def CV:=@List.mem_of_getLast?
def FR:=@Option.map_some
def AP:=@List.length_set
def CW:=@Bool.or_eq_true
def AQ:=@List.mem_map
def CX:=@List.take_append_of_le_length
def FT:=@List.eq_nil_of_length_eq_zero
def ajS:=@List.drop_succ_cons
def CY:=@List.take_take
def CZ:=@UInt8.toNat_ofNat'
def C_:=@cell_of_row
def AR:=@List.all_cons
def ajT:=@List.any_eq_false
def Db:=@List.getElem_append_right
def LF:=@List.extract_eq_take_drop
def FV:=@Array.getElem?_eq_getElem
def FW:=@Nat.add_lt_add_iff_right
def LG:=@List.getElem_append_left
def FX:=@List.map_toArray
def Dc:=@List.drop_length
def ajN:=@And.intro
namespace Mk
abbrev U:=List UInt8
structure aI where
 B:U
 space:U
 val:U
structure Ev where
 kind:Int
 B:U
 space:U
 val:U
 f:List aI
structure Z where
 od:Int
 oa:Int
 S:Int
 on:Bool
 H:Int
 I:List U
 over:Bool
 m:List (U×U)
 T:List Nat
 i:U
 G:Int
 B:U
 attr:U
 f:List aI
 aj2:Int
 D:U
 bG:Int
 aW:Int
 pc:Int
 t:Int
 rp:Int
 rn:U
 rc:Int
 O:Bool
 K:Int
 aN:Int
 C:List Ev
 F:U
 A:Int
 j:Int
 am:Bool
def u8(n:Int):UInt8:=UInt8.ofNat n.toNat
def bJ(b:Int):Bool:=b==32||b==9||b==10||b==13
def fq(b:Int):Bool:=(decide (65<=b)&&decide (b<=90))||(decide (97<=b)&&decide (b<=122))
def tj(b:Int):Bool:=decide (48<=b)&&decide (b<=57)
def dP(b:Int):Bool:=fq b||b==95||b==58
def eD(b:Int):Bool:=dP b||tj b||b==45||b==46
def Ap(b:Int)(a:Int):Int:=
 if tj b then b - 48 else if decide (65<=b)&&decide (b<=70)then b - 55 else if decide (97<=b)&&decide (b<=102)then b - 87 else a
def nN(b:Int)(a:Int):Option Int:=if a<=Ap b a then none else some (Ap b a)
def eX(c:Int):Bool:=
 if c<32 then c==9||c==10||c==13
 else if c<65536 then decide (c<=55295)||(decide (57344<=c)&&decide (c<=65533))
 else decide (c<=1114111)
def jf(c:Int):List Int:=
 if c<128 then[c]
 else if c<2048 then[192+c / 64,128+c % 64]
 else if c<65536 then[224+c / 4096,128+c / 64 % 64,128+c % 64]
 else[240+c / 262144,128+c / 4096 % 64,128+c / 64 % 64,128+c % 64]
def dB(c:Int):U:=(jf c).map u8
def eF(b:Int):Option (Int×Int):=
 if b<128/\eX b=true then some (b,0)
 else if 194<=b/\b<=223 then some (b - 192,1)
 else if 224<=b/\b<=239 then some (b - 224,2)
 else if 240<=b/\b<=244 then some (b - 240,3)
 else none
def gU(c l:Int):Bool:=
 if l==2 then decide (16<=c)&&decide (c<=271)
 else if l==1 then decide (32<=c)&&(decide (c<864)||decide (895<c))
 else eX c
def eO(c l b:Int):Option (Int×Int):=
 if b<128\/191<b then none
 else if gU (c*64+b - 128) (l - 1)then some (c*64+b - 128,l - 1)else none
structure Rf where
 place:Int
 B:U
 code:Int
def fG:List (U×Int):=[([108,116,59],60),([103,116,59],62),([97,109,112,59],38),([113,117,111,116,59],34),([97,112,111,115,59],39)]
def jI(a:U):List (U×Int)->Option Rf
 |[]=>none
 |(n,c)::r=>if n=a then some ⟨7,[],c⟩else if a.isPrefixOf n then some ⟨2,a,0⟩else jI a r
def pP(n:U)(b:Int):Option Rf:=jI (n++[u8 b]) fG
def iN(c b a place:Int):Option Rf:=
 match nN b a with
 |none=>none
 |some v=>if 1114111<c*a+v then none else some ⟨place,[],c*a+v⟩
def jl(a b c place:Int):Option Rf:=
 if b==59 then(if eX a then some ⟨7,[],a⟩else none)else iN a b c place
def dJ(r:Rf)(b:Int):Option Rf:=
 if r.place==1 then(if b==35 then some ⟨3,[],0⟩else pP r.B b)
 else if r.place==2 then pP r.B b
 else if r.place==3 then(if b==120 then some ⟨4,[],0⟩else iN r.code b 10 5)
 else if r.place==5 then jl r.code b 10 5
 else if r.place==4 then iN r.code b 16 6
 else if r.place==6 then jl r.code b 16 6
 else none
def aZ(place:Int):Bool:=place !=0&&place !=7
def qP:U:=[120,109,108]
def fR:U:=[120,109,108,110,115]
def lu:U:=[104,116,116,112,58,47,47,119,119,119,46,119,51,46,111,114,103,47,88,77,76,47,49,57,57,56,47,110,97,109,101,115,112,97,99,101]
def tK:U:=[104,116,116,112,58,47,47,119,119,119,46,119,51,46,111,114,103,47,50,48,48,48,47,120,109,108,110,115,47]
def aj4(n:U):Nat:=(n.takeWhile (· !=58)).length
def cW(n:U):Bool:=decide (aj4 n<n.length)
def rB(n:U):Int:=if cW n then(aj4 n:Int)else -1
def dH(n:U):U:=if cW n then n.take (aj4 n)else[]
def gI(n:U):U:=if cW n then n.drop (aj4 n+1)else n
def fC(n:U):Bool:=
 if !cW n then true
 else(dH n !=[])&&((gI n !=[])&&(dP ((gI n).headD 0).toNat&& !cW (gI n)))
def jJ(n:U):Bool:=n==fR||dH n==fR
def kP(n:U):U:=if n==fR then[]else gI n
def oV(p v:U):Bool:=
 if p==fR||v==tK then false
 else if p==qP||v==lu then p==qP&&v==lu
 else p==[]||v !=[]
def lW(l:List (U×U))(p:U):U:=l.foldl (λa x=>if x.1==p then x.2 else a) []
def pX(l:List (U×U))(p:U):Bool:=p==[]||lW l p !=[]
def yM(n:U)(b:List aI):Bool:=b.all (λa=>fC a.B)&&fC n
def iG:List aI->List (U×U)->Nat->List (U×U)×Nat×Bool
 |[],b,c=>(b,c,true)
 |a::r,b,c=>
  if !jJ a.B then iG r b c
  else if !oV (kP a.B) a.val then(b,c,false)
  else iG r (b++[(kP a.B,a.val)]) (c+1)
def vw(b:List aI)(x:aI):Bool:=b.any λa=>a.space==x.space&&gI a.B==gI x.B
def kz(aJ:List (U×U))(a:aI):aI:=if dH a.B !=[]then{a with space:=lW aJ (dH a.B)}else a
def mR(aJ:List (U×U)):List aI->List aI->Option (List aI)
 |[],b=>some b
 |a::r,b=>
  if jJ a.B then mR aJ r b
  else if !pX aJ (dH a.B)||vw b (kz aJ a)then none
  else mR aJ r (b++[kz aJ a])
def cG(s:Z):Z×Bool:=
 let d:=iG s.f s.m 0
 if d.2.2 then({s with m:=d.1,T:=s.T++[d.2.1]},true)else({s with m:=d.1},false)
def dY(s:Z):Z×Option (List aI):=
 if !yM s.B s.f then(s,none)
 else if !(cG s).2 then((cG s).1,none)
 else if !pX (cG s).1.m (dH s.B)then((cG s).1,none)
 else((cG s).1,mR (cG s).1.m s.f [])
def oM(s:Z):Nat:=
 match s.T.getLast? with
 |none=>s.m.length
 |some c=>if s.m.length<c then s.m.length else s.m.length - c
def dZ(s:Z):List (U×U):=s.m.drop (oM s)
def nO(s:Z):Z:={s with m:=s.m.take (oM s),T:=s.T.dropLast}
def bQ(s:Z)(n:U):U:=if s.on then lW s.m (dH n)else[]
def bI(s:Z):Bool:=s.H==1||s.H==2
def gb(s:Z)(a:Int):Bool:=bI s||decide (s.G+a<=s.S)
def bV(s:Z)(c:Int):Z:=
 if bI s then{s with F:=s.F++dB c}else{s with i:=s.i++dB c,G:=s.G+1}
def bH(s:Z):Z:={s with i:=[],G:=0}
def fS(s:Z)(b:Int):Z×Int:=if gb s 1 then(bV s b,0)else(s,7)
def gD(s:Z)(p:Int×Int):Z:=
 if p.2==0 then bV {s with pc:=p.1,t:=p.2} p.1 else{s with pc:=p.1,t:=p.2}
def dW(s:Z):U->Z
 |[]=>s
 |x::r=>dW (bV s x.toNat) r
def cV(s:Z)(b:Int):Z×Int:=
 match eF b with
 |none=>(s,2)
 |some p=>if gb s (s.D.length+1)then(gD {dW s s.D with D:=[]} p,0)else(s,7)
def fT(s:Z)(b:Int):Z×Int:=
 match eO s.pc s.t b with
 |none=>(s,2)
 |some p=>(gD s p,0)
def kZ(s:Z)(r:Rf):Z:={s with rp:=r.place,rn:=r.B,rc:=r.code}
def fD(s:Z)(b:Int):Z×Int:=
 match dJ ⟨s.rp,s.rn,s.rc⟩ b with
 |none=>(s,4)
 |some r=>if aZ r.place then(kZ s r,0)else(bV (kZ s r) r.code,0)
def bK(s:Z):Z:=if s.F.length=0 then s else{s with C:=s.C++[⟨3,[],[],s.F,[]⟩],F:=[]}
def aX(s:Z)(e:Ev):Z:={bK s with C:=(bK s).C++[e]}
def qL(s:Z):Z:={bK s with C:=[]}
def iy(s:Z):Z:={s with H:=if s.I.length=0 then 0 else 1}
def mS(s:Z):Z:=iy (aX (bH {s with D:=[]}) ⟨4,[],[],s.i,[]⟩)
def iO(s:Z)(b:Int):Z×Int:=if b==45 then({s with H:=7},0)else(s,3)
def fu(s:Z)(b:Int):Z×Int:=
 if s.D=[45,45]/\b=62 then(mS s,0)
 else if s.D=[45,45]then(s,3)
 else if b=45 then({s with D:=s.D++[45]},0)
 else cV s b
def jg(l:U):Bool:=
 match l with
 |[a,b,c]=>((a.toNat:Int)==120||(a.toNat:Int)==88)&&((b.toNat:Int)==109||(b.toNat:Int)==77)&&((c.toNat:Int)==108||(c.toNat:Int)==76)
 |_=>false
def cN(s:Z)(b:Int):Z×Int:=
 if s.G==0&& !dP b then(s,3)
 else if eD b then fS s b
 else if jg s.i||b !=63&& !bJ b then(s,3)
 else if s.on&&cW s.i then(s,8)
 else({bH s with B:=s.i,H:=if b==63 then 9 else 10},0)
def kG(s:Z):Z:=
 iy {aX (bH {s with D:=[]}) ⟨5,s.B,[],s.i,[]⟩with B:=[]}
def jD(s:Z)(b:Int):Z×Int:=if b==62 then(kG s,0)else(s,3)
def dN(s:Z)(b:Int):Z×Int:=
 if b=62/\s.D=[63]then(kG s,0)
 else if b=63/\s.D=[63]then(if gb s 1 then(bV s 63,0)else(s,7))
 else if b=63 then({s with D:=[63]},0)
 else cV s b
def jK(s:Z)(b:Int):Z×Int:=
 if bJ b then(s,0)else dN {s with H:=11} b
def h_(s:Z)(b:Int):Z×Int:=if bJ b then(s,0)else if b==60 then({s with H:=3},0)else(s,3)
def fw(s:Z)(b:Int):Z×Int:=
 if b==60 then({s with bG:=0,H:=3},0)
 else if b==38 then(kZ {s with bG:=0} ⟨1,[],0⟩,0)
 else if b==62 then(if s.bG==2 then({s with bG:=0},3)else cV {s with bG:=0} b)
 else if b==93 then cV {s with bG:=if s.bG==0 then 1 else 2} b
 else cV {s with bG:=0} b
def fH(s:Z)(b:Int):Z×Int:=
 if b=62/\s.D=[93,93]then({s with D:=[],H:=1},0)
 else if b=93/\s.D=[93,93]then(bV s 93,0)
 else if b=93 then({s with D:=s.D++[93]},0)
 else cV s b
def mg(s:Z)(b:Int):Z×Int:=
 if s.od<=s.I.length then(s,7)else(bV {s with H:=12} b,0)
def eG(s:Z)(b:Int):Z×Int:=
 if b==33 then({s with H:=4},0)
 else if b==63 then({s with H:=8},0)
 else if b=47/\0<s.I.length then({s with H:=20,aW:=0},0)
 else if dP b&& !s.over then mg s b
 else(s,3)
def gF(s:Z)(b:Int):Z×Int:=
 if b==45 then({s with H:=5},0)
 else if b=91/\0<s.I.length then({s with H:=6,aW:=0},0)
 else(s,3)
def lK:List Int:=[67,68,65,84,65,91]
def dQ(s:Z)(b:Int):Z×Int:=
 if 6<=s.aW\/lK.getD s.aW.toNat 0≠b then(s,3)
 else if s.aW+1=6 then({s with aW:=s.aW+1,H:=2},0)
 else({s with aW:=s.aW+1},0)
def gJ(s:Z):List (U×U)->Z
 |[]=>s
 |p::r=>gJ (aX s ⟨6,p.1,[],p.2,[]⟩) r
def iV(s:Z):List (U×U)->Z
 |[]=>s
 |p::r=>iV (aX s ⟨7,p.1,[],[],[]⟩) r
def gK(s:Z):Z:=gJ s (dZ s)
def jb(s:Z):Z:=iV s (dZ s).reverse
def bX(s:Z):Z:={aX (gK s) ⟨1,s.B,bQ s s.B,[],s.f⟩with f:=[]}
def bZ(s:Z)(a:U):Z:=
 iy {nO (jb (aX s ⟨2,a,bQ s a,[],[]⟩))with over:=decide (s.I.length=0)}
def gL(s:Z)(b:Int):Z:=
 if b==47 then{s with H:=19}else iy {bX s with I:=s.I++[s.B],B:=[]}
def ia(s:Z)(b:Int):Z×Int:=
 if s.on then
  match(dY s).2 with
  |none=>((dY s).1,8)
  |some l=>(gL {(dY s).1 with f:=l} b,0)
 else(gL s b,0)
def dR(s:Z)(b:Int):Z×Int:=
 if bJ b then({s with H:=13},0)
 else if b==47||b==62 then ia s b
 else(s,3)
def iP(s:Z)(b:Int):Z×Int:=
 if eD b then fS s b else dR {bH s with B:=s.i} b
def gV(s:Z)(b:Int):Z×Int:=
 if !dP b then dR s b
 else if s.oa<=s.f.length then(s,7)
 else(bV {s with H:=14} b,0)
def jL(s:Z)(b:Int):Z×Int:=
 if b !=62 then(s,3)else({bZ (bX s) s.B with B:=[]},0)
def gM(s:Z)(b:U):Bool:=s.f.any λa=>decide (a.B=b)
def fI(s:Z)(b:Int):Z×Int:=
 if bJ b then({s with H:=15},0)else if b==61 then({s with H:=16},0)else(s,3)
def mh(s:Z)(b:Int):Z×Int:=
 if gb s 1 then(if !gb (bV s b) 1&&gM (bV s b) (bV s b).i then(bV s b,7)else(bV s b,0))else(s,7)
def fU(s:Z)(b:Int):Z×Int:=
 if eD b then mh s b
 else if b !=61&& !bJ b then(s,3)
 else if gM s s.i then(s,6)
 else fI {bH s with attr:=s.i} b
def gW(s:Z)(b:Int):Z×Int:=
 if bJ b then(s,0)else if b==34||b==39 then({s with aj2:=b,H:=17},0)else(s,3)
def yA(s:Z):Z:=
 {bH s with f:=s.f++[⟨s.attr,[],s.i⟩],attr:=[],H:=18}
def fA(s:Z)(b:Int):Z×Int:=
 if b==s.aj2 then(yA s,0)
 else if b==60 then(s,3)
 else if b==38 then(if gb s 1 then(kZ s ⟨1,[],0⟩,0)else(s,7))
 else if b==9||b==10 then cV s 32
 else cV s b
def bP(s:Z):U:=s.I.getLastD []
def kH(s:Z):Z:=bZ {s with I:=s.I.dropLast} (bP s)
def gh(s:Z)(b:Int):Z×Int:=
 if bJ b then({s with H:=21},0)else if b==62 then(kH s,0)else(s,3)
def iC(s:Z)(b:Int):Z×Int:=
 if s.aW<(bP s).length then
  (if((bP s).getD s.aW.toNat 0).toNat≠b then(s,5)else({s with aW:=s.aW+1},0))
 else if eD b then(s,5)else gh s b
def dV(s:Z)(b:Int):Z×Int:=
 if s.H==12 then iP s b
 else if s.H==13 then gV s b
 else if s.H==14 then fU s b
 else if s.H==15 then fI s b
 else if s.H==16 then gW s b
 else if s.H==18 then dR s b
 else jL s b
def bU(s:Z)(b:Int):Z×Int:=
 if s.H==3 then eG s b
 else if s.H==4 then gF s b
 else if s.H==5 then iO s b
 else if s.H==6 then dQ s b
 else if s.H==8 then cN s b
 else if s.H==9 then jD s b
 else if s.H==10 then jK s b
 else if s.H==20 then iC s b
 else if s.H==21 then gh s b
 else dV s b
def aP(s:Z)(b:Int):Z×Int:=
 if 0<s.t then fT s b
 else if aZ s.rp then fD s b
 else if s.H==0 then h_ s b
 else if s.H==1 then fw s b
 else if s.H==2 then fH s b
 else if s.H==7 then fu s b
 else if s.H==11 then dN s b
 else if s.H==17 then fA s b
 else bU s b
def gX(s:Z)(b:Int):Z:=
 if b==10 then{s with K:=s.K+1,aN:=1}else if s.t==0 then{s with aN:=s.aN+1}else s
def eY(s:Z)(b:Int):Z×Int:=if(aP s b).2=0 then(gX (aP s b).1 b,0)else aP s b
def kE(s:Z)(b:Int):Z×Int:=
 if b=10/\s.O=true then({s with O:=false},0)
 else if b=13 then eY {s with O:=true} 10
 else eY {s with O:=false} b
def fO(s:Z):Bool:=s.over&&s.H==0
def bB(od oa ot:Int)(on:Bool):Z:=
 {od:=od,oa:=oa,S:=ot,on:=on,H:=0,I:=[],over:=false,m:=[(qP,lu)],T:=[],i:=[],G:=0,B:=[],attr:=[],f:=[],aj2:=0,D:=[],bG:=0,aW:=0,pc:=0,t:=0,rp:=0,rn:=[],rc:=0,O:=false,K:=1,aN:=1,C:=[],F:=[],A:=0,j:=0,am:=false}
def aS(s:Z)(b:UInt8):Z:=
 if s.j=0 then
  (let r:=kE {s with A:=s.A+1} b.toNat
   {r.1 with j:=r.2})
 else s
def aQ(s:Z):U->Z
 |[]=>s
 |x::r=>aQ (aS s x) r
def dM(s:Z)(l:U):Z×List Ev×Int:=
 if s.j=0 then(qL (aQ s l),(bK (aQ s l)).C,(aQ s l).j)else(s,[],s.j)
def jd(s:Z):Z×Int:=
 if s.j=0 then(if fO s then({s with j:=10},0)else({s with j:=9},9))else(s,s.j)
end Mk
namespace Rf
open Mk (U aI Ev)
def bJ(c:Int):Bool:=c==32||c==9||c==10||c==13
def fq(c:Int):Bool:=(decide (65<=c)&&decide (c<=90))||(decide (97<=c)&&decide (c<=122))||c==95||c==58
def dL(c:Int):Bool:=fq c||(decide (48<=c)&&decide (c<=57))||c==45||c==46
def nY(a b:Int):Bool:=
 ((decide (a<=9)&&decide (9<=b))||(decide (a<=10)&&decide (10<=b))||(decide (a<=13)&&decide (13<=b)))||
 ((decide (a<=55295)&&decide (32<=b))||(decide (a<=65533)&&decide (57344<=b))||(decide (a<=1114111)&&decide (65536<=b)))
def qx:Int->U->Option Int
 |a,[]=>some a
 |a,x::l=>if decide ((x.toNat:Int)<128)||decide (191<(x.toNat:Int))then none else qx (a*64+(x.toNat:Int) - 128) l
def rJ:Int->Nat->Int
 |a,0=>a
 |a,n+1=>rJ (a*64) n
def tQ:Int->Nat->Int
 |a,0=>a
 |a,n+1=>tQ (a*64+63) n
def mq(b:Int):Option (Nat×Int×Int):=
 if decide (b<128)then some (1,0,b)
 else if decide (192<=b)&&decide (b<224)then some (2,128,b - 192)
 else if decide (224<=b)&&decide (b<240)then some (3,2048,b - 224)
 else if decide (240<=b)&&decide (b<248)then some (4,65536,b - 240)
 else none
def kr:U->Int
 |[]=> -1
 |x::l=>
  match mq (x.toNat:Int)with
  |none=> -1
  |some (b,a,e)=>
   if b<l.length+1 then -1 else
   match qx e l with
   |none=> -1
   |some e=>
    let m:=b - (l.length+1)
    let c:=rJ e m
    let f:=tQ e m
    let d:=if decide (c<a)then a else c
    if decide (d<=f)&&nY d f then(m:Int)else -1
def uK(n:Int):U:=
 let b (k:Int):UInt8:=UInt8.ofNat k.toNat
 if n<128 then[b n]
 else if n<2048 then[b (n / 64+192),b (128+n % 64)]
 else if n<65536 then[b (n / 4096+224),b (128+n / 64 % 64),b (128+n % 64)]
 else[b (n / 262144+240),b (128+n / 4096 % 64),b (128+n / 64 % 64),b (128+n % 64)]
def nk(s:U)(n:Nat):Nat->Nat->Int->Int->Int×Int
 |0,_,line,a=>(line,a)
 |f+1,b,line,a=>
  if b<n then
   let c:Int:=((s.getD b 0).toNat:Int)
   if c==13||c==10 then
    let e:=if c==13&&decide (b+1<n)&&((s.getD (b+1) 0).toNat:Int)==10 then b+1 else b
    nk s n f (e+1) (line+1) 1
   else
    let d:=kr [s.getD b 0]
    if decide (d<0)||decide ((n:Int)<=(b:Int)+d)then(line,a)
    else nk s n f (b+1+d.toNat) line (a+1)
  else(line,a)
def place(s:U)(n:Nat):Int×Int:=nk s n (n+1) 0 1 1
structure R where
 od:Int
 oa:Int
 S:Int
 on:Bool
 s:U
 A:Nat
 stop:Int
 err:Int
 whole:Bool
 y:List Ev
 I:List U
 P:List (List aI)
def R.E(r:R)(i:Nat):Int:=((r.s.getD i 0).toNat:Int)
def eZ(r:R)(e:Int):R:={r with stop:=2,err:=e}
def b_(r:R):R×Bool:=if r.A<r.s.length then(r,false)else({r with stop:=1},true)
def bW(r:R)(c:Int):R×Bool:=
 if r.A<r.s.length then(if r.E r.A==c then({r with A:=r.A+1},true)else(eZ r 3,false))else({r with stop:=1},false)
def iK(p:Int->Bool)(l:U):Nat:=(l.takeWhile λx=>p (x.toNat:Int)).length
def aV(r:R):R:={r with A:=r.A+iK bJ (r.s.drop r.A)}
def gS(r:R)(e:Ev):R:={r with y:=r.y++[e]}
def cF(r:R):R×U×Bool:=
 let k:=iK dL (r.s.drop r.A)
 if r.S<(k:Int)then(eZ {r with A:=r.A+r.S.toNat} 7,[],false)
 else
  let e:=b_ {r with A:=r.A+k}
  (e.1,(r.s.drop r.A).take k, !e.2)
def yB(r:R)(i:Nat):Bool:=decide (0<=kr [r.s.getD i 0])
def mO(r:R)(i:Nat):R:=if yB r i then eZ {r with A:=i} 7 else eZ {r with A:=i} 2
def iH(r:R):Nat->Nat->R×U×Bool
 |0,_=>({r with A:=r.s.length,stop:=1},[],false)
 |f+1,k=>
  if r.A+k<=r.s.length then
   let a:=(r.s.drop r.A).take k
   let left:=kr a
   if left<0 then(eZ {r with A:=r.A+k - 1} 2,[],false)
   else if left=0 then({r with A:=r.A+k},a,true)
   else iH r f (k+1)
  else({r with A:=r.s.length,stop:=1},[],false)
def bF(r:R):R×U×Bool:=
 let c:=r.E r.A
 if c==10||c==13 then
  (if c==13&&decide (r.A+1<r.s.length)&&r.E (r.A+1)==10 then{r with A:=r.A+2}else{r with A:=r.A+1},[10],true)
 else iH r (r.s.length+1) 1
def qQ(r:R):R:={r with A:=r.s.length,stop:=1}
def jE:Nat->R->U->Int->R×Bool
 |0,r,_,_=>(r,false)
 |f+1,r,text,a=>
  if r.A<r.s.length then
   if r.E r.A !=45 then
    if a==r.S then(mO r r.A,false)
    else
     let c:=bF r
     if c.2.2 then jE f c.1 (text++c.2.1) (a+1)else(c.1,false)
   else if r.A+1=r.s.length\/(r.A+2=r.s.length/\r.E (r.A+1)=45)then(qQ r,false)
   else if r.E (r.A+1)==45 then
    if r.E (r.A+2) !=62 then(eZ {r with A:=r.A+2} 3,false)
    else(gS {r with A:=r.A+3} ⟨4,[],[],text,[]⟩,true)
   else if a==r.S then(mO r (r.A+1),false)
   else jE f {r with A:=r.A+1} (text++[45]) (a+1)
  else({r with stop:=1},false)
def pQ(r:R):R×Bool:=
 let m:=bW r 45
 if m.2 then jE (r.s.length+1) m.1 [] 0 else(m.1,false)
def jF(b:U):Nat->R->U->Int->R×Bool
 |0,r,_,_=>(r,false)
 |f+1,r,text,a=>
  if r.A<r.s.length then
   if r.E r.A==63&&decide (r.A+1=r.s.length)then({r with A:=r.A+1,stop:=1},false)
   else if r.E r.A==63&&r.E (r.A+1)==62 then(gS {r with A:=r.A+2} ⟨5,b,[],text,[]⟩,true)
   else if r.E r.A==63&&a==r.S then(mO r (r.A+1),false)
   else if a==r.S then(mO r r.A,false)
   else
    let c:=bF r
    if c.2.2 then jF b f c.1 (text++c.2.1) (a+1)else(c.1,false)
  else({r with stop:=1},false)
def jg(l:U):Bool:=match l with
 |[a,b,c]=>(a|||32==120)&&(b|||32==109)&&(c|||32==108)
 |_=>false
def cW(l:U):Bool:=l.any λx=>x==58
def pq(r:R):R×Bool:=
 if r.A<r.s.length then
  if !fq (r.E r.A)then(eZ r 3,false)
  else
   let w:=cF r
   if !w.2.2 then(w.1,false)
   else
    let r:=w.1
    let c:=r.E r.A
    if c !=63&& !bJ c then(eZ r 3,false)
    else if jg w.2.1 then(eZ r 3,false)
    else if r.on&&cW w.2.1 then(eZ r 8,false)
    else if c==63 then
     let m:=bW {r with A:=r.A+1} 62
     (if m.2 then gS m.1 ⟨5,w.2.1,[],[],[]⟩else m.1,m.2)
    else jF w.2.1 (r.s.length+1) (aV r) [] 0
 else({r with stop:=1},false)
def jc(a:Bool):Nat->R->R×Bool
 |0,r=>(r,false)
 |f+1,r=>
  let r:=aV r
  let r:={r with whole:=a&&decide (r.A=r.s.length)}
  if r.A<r.s.length then
   if r.E r.A !=60 then(eZ r 3,false)
   else if r.A+1=r.s.length then({r with stop:=1},false)
   else
    let c:=r.E (r.A+1)
    if c !=33&&c !=63 then(r,true)
    else
     let r:={r with A:=r.A+2}
     let x:=if c==63 then pq r else(let m:=bW r 45;if m.2 then pQ m.1 else(m.1,false))
     if x.2 then jc a f x.1 else(x.1,false)
  else({r with stop:=1},false)
def ig(a:Bool)(r:R):R×Bool:=jc a (r.s.length+1) r
def kS(l:U):Nat:=(l.filter λx=>x==58).length
def pZ:U->Nat->Nat->Nat
 |[],_,a=>a
 |x::l,i,a=>pZ l (i+1) (if x==58 then i else a)
def iz(a:U):U×U×Bool:=
 if kS a=0 then([],a,true)
 else
  let b:=pZ a 0 0
  if decide (1<kS a)||decide (b=0)||decide (b+1=a.length)|| !fq ((a.getD (b+1) 0).toNat:Int)then([],[],false)
  else(a.take b,a.drop (b+1),true)
def nU:U:=[120,109,108,110,115]
def si:U:=[120,109,108]
def lu:U:=[104,116,116,112,58,47,47,119,119,119,46,119,51,46,111,114,103,47,88,77,76,47,49,57,57,56,47,110,97,109,101,115,112,97,99,101]
def tK:U:=[104,116,116,112,58,47,47,119,119,119,46,119,51,46,111,114,103,47,50,48,48,48,47,120,109,108,110,115,47]
def k_(a:U):U×Bool:=
 if a=nU then([],true)
 else if 6<a.length/\a.take 6=nU++[58]then(a.drop 6,true)
 else([],false)
def pR(c:List aI)(b:U):U×Bool:=
 match c with
 |[]=>([],false)
 |a::l=>if(k_ a.B).2&&decide ((k_ a.B).1=b)then(a.val,true)else pR l b
def tV(a:U):List (List aI)->U->Bool->U×Bool
 |[],iA,b=>(iA,b)
 |t::l,iA,b=>if(pR t a).2 then tV a l (pR t a).1 true else tV a l iA b
def rC(b:List (List aI))(a:U):U×Bool:=
 if a=si then(lu,true)else tV a b [] (decide (a=[]))
def uL(a iA:U):Bool:=
 if a=nU then false
 else if a=si then decide (iA=lu)
 else if a=[]then decide (iA≠lu)&&decide (iA≠tK)
 else decide (iA≠[])&&decide (iA≠lu)&&decide (iA≠tK)
def bQ(b:List (List aI))(a:U):U:=if a=[]then[]else(rC b a).1
def lM(c:List (List aI))(d:List aI)(i:Nat):Bool:=
 match d[i]? with
 |none=>false
 |some a=>
  if !(iz a.B).2.2 then false
  else if(k_ a.B).2 then uL (k_ a.B).1 a.val
  else if !(rC c (iz a.B).1).2 then false
  else(d.take i).all λb=> !(!(k_ b.B).2&&decide ((iz b.B).2.1=(iz a.B).2.1)&&decide (bQ c (iz b.B).1=bQ c (iz a.B).1))
def pU(r:R)(b:U)(a:List aI):Bool:=
 let c:=r.P++[a]
 if !(iz b).2.2||decide ((iz b).1=nU)then false
 else if !(rC c (iz b).1).2 then false
 else(List.range a.length).all λi=>lM c a i
def nD(r:R)(a:U):U:=if !r.on then[]else(rC r.P (iz a).1).1
def jW(r:R):List aI->R->List aI->R×List aI
 |[],q,told=>(q,told)
 |a::l,q,told=>
  if r.on&&(k_ a.B).2 then jW r l (gS q ⟨6,(k_ a.B).1,[],a.val,[]⟩) told
  else jW r l q (told++[⟨a.B,if r.on then bQ r.P (iz a.B).1 else[],a.val⟩])
def Aq(r:R)(a:U)(b:List aI):R:=
 let x:=jW r b r []
 gS x.1 ⟨1,a,nD x.1 a,[],x.2⟩
def rD:List aI->R->R
 |[],q=>q
 |a::l,q=>rD l (if(k_ a.B).2 then gS q ⟨7,(k_ a.B).1,[],[],[]⟩else q)
def aL(r:R)(a:U)(b:List aI):R:=
 let q:=gS r ⟨2,a,nD r a,[],[]⟩
 if r.on then rD b.reverse q else q
def kQ(b:List aI)(c:U):Bool:=b.any λa=>decide (a.B=c)
def fM(r:R)(a:List aI):R×U×Bool:=
 let k:=iK dL (r.s.drop r.A)
 if decide (r.S<=(k:Int))&&kQ a ((r.s.drop r.A).take r.S.toNat)then(eZ {r with A:=r.A+r.S.toNat - 1} 7,[],false)
 else
  let w:=cF r
  if !w.2.2 then(w.1,[],false)
  else
   let r:=w.1
   let c:=r.E r.A
   if c !=61&& !bJ c then(eZ r 3,[],false)
   else if kQ a w.2.1 then(eZ r 6,[],false)
   else
    let m:=bW (aV r) 61
    if !m.2 then(m.1,[],false)
    else
     let e:=b_ (aV m.1)
     if e.2 then(e.1,[],false)else(e.1,w.2.1,true)
def ow:List U:=[[108,116,59,60],[103,116,59,62],[97,109,112,59,38],[113,117,111,116,59,34],[97,112,111,115,59,39]]
def kJ(a:U):List U->Bool->Option U×Bool
 |[],b=>(none,b)
 |x::l,b=>
  if decide (x.length<=a.length)||decide (x.take a.length≠a)then kJ a l b
  else if a.length+1=x.length then(some (x.drop a.length),b)
  else kJ a l true
def ni(c:Int)(a:Int):Int:=
 if decide (48<=c)&&decide (c<=57)then(if c - 48<a then c - 48 else -1)
 else if a=16&&(decide (97<=c)&&decide (c<=102))then c - 87
 else if a=16&&(decide (65<=c)&&decide (c<=70))then c - 55
 else -1
def mV(a:Int)(first:Nat):Nat->R->Int->R×U×Bool
 |0,r,_=>(r,[],false)
 |f+1,r,n=>
  if r.A<r.s.length then
   let c:=r.E r.A
   if c==59 then
    if decide (r.A=first)|| !nY n n then(eZ r 4,[],false)
    else({r with A:=r.A+1},uK n,true)
   else
    let d:=ni c a
    if decide (d<0)||decide (1114111<n*a+d)then(eZ r 4,[],false)
    else mV a first f {r with A:=r.A+1} (n*a+d)
  else({r with stop:=1},[],false)
def rX(r:R):R×U×Bool:=
 let r:={r with A:=r.A+1}
 if decide (r.A<r.s.length)&&r.E r.A==120 then mV 16 (r.A+1) (r.s.length+1) {r with A:=r.A+1} 0
 else mV 10 r.A (r.s.length+1) r 0
def kK(a:Nat):Nat->R->R×U×Bool
 |0,r=>(r,[],false)
 |f+1,r=>
  if r.A<r.s.length then
   if decide (r.A=a)&&r.E r.A==35 then rX r
   else
    match kJ ((r.s.drop a).take (r.A+1 - a)) ow false with
    |(some t,_)=>({r with A:=r.A+1},t,true)
    |(none,true)=>kK a f {r with A:=r.A+1}
    |(none,false)=>(eZ r 4,[],false)
  else({r with stop:=1},[],false)
def iT(r:R):R×U×Bool:=kK (r.A+1) (r.s.length+1) {r with A:=r.A+1}
def iD(a:Int):Nat->R->U->Int->R×U×Bool
 |0,r,_,_=>(r,[],false)
 |f+1,r,text,b=>
  if r.A<r.s.length then
   let c:=r.E r.A
   if c==a then({r with A:=r.A+1},text,true)
   else if c==60 then(eZ r 3,[],false)
   else if b==r.S then(mO r r.A,[],false)
   else
    let x:=if c==38 then iT r else
     let t:=bF r
     (t.1,if t.2.1=[10]\/t.2.1=[9]then[32]else t.2.1,t.2.2)
    if x.2.2 then iD a f x.1 (text++x.2.1) (b+1)else(x.1,[],false)
  else({r with stop:=1},[],false)
def iA(r:R):R×U×Bool:=
 let q:=r.E r.A
 if q !=34&&q !=39 then(eZ r 3,[],false)
 else iD q (r.s.length+1) {r with A:=r.A+1} [] 0
def kT:Nat->R->List aI->R×List aI×Bool
 |0,r,_=>(r,[],false)
 |f+1,r,a=>
  let b:=r.A
  let r:=aV r
  if r.A<r.s.length then
   let c:=r.E r.A
   if c==47||c==62 then(r,a,true)
   else if decide (r.A=b)|| !fq c then(eZ r 3,[],false)
   else if(a.length:Int)==r.oa then(eZ r 7,[],false)
   else
    let n:=fM r a
    if !n.2.2 then(n.1,[],false)
    else
     let v:=iA n.1
     if !v.2.2 then(v.1,[],false)
     else kT f v.1 (a++[⟨n.2.1,[],v.2.1⟩])
  else({r with stop:=1},[],false)
def lX(r:R):R×List aI×Bool:=kT (r.s.length+1) r []
def text(r:R)(t:U):R:=gS r ⟨3,[],[],t,[]⟩
def kL:U->R->R×Bool
 |[],r=>(r,true)
 |x::l,r=>let m:=bW r (x.toNat:Int);if m.2 then kL l m.1 else(m.1,false)
def jN:Nat->R->R×Bool
 |0,r=>(r,false)
 |f+1,r=>
  if r.A<r.s.length then
   let rest:=r.s.drop r.A
   if r.E r.A==93&&(decide (rest=[93])||decide (rest=[93,93]))then(qQ r,false)
   else if r.E r.A==93&&r.E (r.A+1)==93&&r.E (r.A+2)==62 then({r with A:=r.A+3},true)
   else
    let c:=bF r
    if c.2.2 then jN f (text c.1 c.2.1)else(c.1,false)
  else({r with stop:=1},false)
def rK(r:R):R×Bool:=
 let m:=kL [91,67,68,65,84,65,91] r
 if m.2 then jN (r.s.length+1) m.1 else(m.1,false)
def kU:U->R->R×Bool
 |[],r=>(r,true)
 |x::l,r=>
  if r.A<r.s.length then
   if r.E r.A !=(x.toNat:Int)then(eZ r 5,false)else kU l {r with A:=r.A+1}
  else({r with stop:=1},false)
def jX(r:R)(a:U):R×Bool:=
 let x:=kU a {r with A:=r.A+2}
 if !x.2 then(x.1,false)
 else
  let r:=x.1
  if decide (r.A<r.s.length)&&dL (r.E r.A)then(eZ r 5,false)
  else bW (aV r) 62
def qz(r:R)(c:Int):R×Bool:=
 if c==63 then pq {r with A:=r.A+2}
 else if c !=33 then(eZ {r with A:=r.A+1} 3,false)
 else
  let r:={r with A:=r.A+2}
  if r.A<r.s.length then
   if r.E r.A !=91 then
    let m:=bW r 45
    if m.2 then pQ m.1 else(m.1,false)
   else rK r
  else({r with stop:=1},false)
def dX(r:R)(b:U)(a:List aI):R:=Aq {r with I:=r.I++[b],P:=r.P++[a]} b a
def mD(r:R)(b:U)(a:List aI):R:=
 let q:=aL r b a
 {q with I:=q.I.dropLast,P:=q.P.dropLast}
mutual
def je:Nat->R->R×Bool
 |0,r=>(r,false)
 |f+1,r=>
  let r:={r with A:=r.A+1}
  if(r.I.length:Int)==r.od then(eZ r 7,false)
  else
   let n:=cF r
   if !n.2.2 then(n.1,false)
   else
    let a:=lX n.1
    if !a.2.2 then(a.1,false)
    else
     let r:=a.1
     if r.on&& !pU r n.2.1 a.2.1 then(eZ r 8,false)
     else if r.E r.A==47 then
      let m:=bW {r with A:=r.A+1} 62
      if m.2 then(mD (dX m.1 n.2.1 a.2.1) n.2.1 a.2.1,true)else(m.1,false)
     else
      let r:=dX {r with A:=r.A+1} n.2.1 a.2.1
      let c:=dK f r r.A
      if !c.2 then(c.1,false)
      else
       let e:=jX c.1 n.2.1
       if !e.2 then(e.1,false)else(mD e.1 n.2.1 a.2.1,true)
def dK:Nat->R->Nat->R×Bool
 |0,r,_=>(r,false)
 |f+1,r,a=>
  if r.A<r.s.length then
   let c:=r.E r.A
   if c==60 then
    if r.A+1=r.s.length then({r with stop:=1},false)
    else if r.E (r.A+1)==47 then(r,true)
    else
     let x:=if fq (r.E (r.A+1))then je f r else qz r (r.E (r.A+1))
     if x.2 then dK f x.1 x.1.A else(x.1,false)
   else if c==38 then
    let x:=iT r
    if x.2.2 then dK f (text x.1 x.2.1) x.1.A else(x.1,false)
   else if c==62&&decide (a+2<=r.A)&&r.E (r.A - 2)==93&&r.E (r.A - 1)==93 then(eZ r 3,false)
   else
    let x:=bF r
    if x.2.2 then dK f (text x.1 x.2.1) a else(x.1,false)
  else({r with stop:=1},false)
end
def lY(r:R):R:=
 let m:=ig false r
 if !m.2 then m.1
 else if !fq (m.1.E (m.1.A+1))then eZ {m.1 with A:=m.1.A+1} 3
 else
  let e:=je (2*r.s.length+2) m.1
  if !e.2 then e.1
  else
   let x:=ig true e.1
   if x.2 then eZ {x.1 with A:=x.1.A+1} 3 else x.1
structure rL where
 y:List Ev
 err:Int
 whole:Bool
 A:Nat
 I:List U
 K:Int
 aN:Int
def gT(a b c:Int)(d:Bool)(s:U):R:=⟨a,b,c,d,s,0,0,0,false,[],[],[]⟩
def fN(a b c:Int)(d:Bool)(s:U):rL:=
 let r:=lY (gT a b c d s)
 if r.stop=2 then
  let q:=lY (gT a b c d (s.take r.A))
  ⟨q.y,r.err,r.whole,r.A+1,q.I,(place s r.A).1,(place s r.A).2⟩
 else⟨r.y,r.err,r.whole,s.length,r.I,(place s s.length).1,(place s s.length).2⟩
def mW:List Ev->U->List Ev->List Ev
 |[],text,out=>if text=[]then out else out++[⟨3,[],[],text,[]⟩]
 |e::l,text,out=>
  if e.kind==3 then mW l (text++e.val) out
  else if text=[]then mW l [] (out++[e])
  else mW l [] (out++[⟨3,[],[],text,[]⟩,e])
def Ar(l:List Ev):List Ev:=mW l [] []
def aU(d e f:Int)(g:Bool)(s c:U):rL:=
 let a:=fN d e f g s
 let b:=fN d e f g (s++c)
 {b with y:=Ar (b.y.drop (min a.y.length b.y.length))}
def LA:List U->Int
 |[]=>16
 |x::l=>LA l+(x.length:Int)+3
def vK(a b c:Int)(d:Bool)(s rest:U):Bool:=
 if LA (fN a b c d s).I<(rest.length:Int)then false
 else(fN a b c false (s++rest)).whole
end Rf
namespace Go.Proofs.YtmgfijllcdadgaaGreatDoor
open Go.RowKit
open List
open Mk
variable {w w' :World}{a b:Nat}{f c:List Nat}{s:Z}
structure Row where
 e:TypeId
 size:Nat
 v:Value
 n:Nat
 xs:List Value
def Row.owned(r:Row)(w:World)(a:Nat):Prop:=w.ownsRow a r.e r.size r.v r.n r.xs
def cZ(a:List Row):List Nat:=a.filterMap λr=>r.v.ownBlock
structure fJ(w:World)(base:Nat)(rs:List Row):Prop where
 own:∀r∈rs,r.owned w base
 nd:(cZ rs).Nodup
def fJ.lt{w:World}{a:Nat}{b:List Row}(h:fJ w a b):∀k∈cZ b,a<=k/\k<w.heap.size:=by
 intro k c;obtain⟨r,d,e⟩:=mem_filterMap.1 c;exact(h.own r d).lt k e
def mo{base:Nat}{r:Row}(h:r.owned w base)(d:∀k,r.v.ownBlock=some k->w'.heap[k]?=w.heap[k]?):r.owned w' base:=by
 refine⟨h.1,?_⟩;obtain e|⟨g,a,b,c,f,i,rest⟩:=h.2
 .exact .inl e
 exact .inr ⟨g,a,b,c,f,by rwa[d g<|by rw[c];rfl],rest⟩
def fJ.keep{b:List Row}(h:fJ w a b)(d:∀k∈cZ b,w'.heap[k]?=w.heap[k]?):fJ w' a b:=
 ⟨λr c=>mo (h.own r c) λk e=>d k (mem_filterMap.2 ⟨r,c,e⟩),h.nd⟩
def fJ.perm{c b:List Row}(h:fJ w a c)(d:c.Perm b):fJ w a b:=
 ⟨λr e=>h.own r (d.mem_iff.2 e),(d.filterMap _).nodup_iff.1 h.nd⟩
def fJ.tail{r:Row}{b:List Row}(h:fJ w a (r::b)):fJ w a b:=by
 refine⟨λx hx=>h.own x (iU _ hx),?_⟩;have:=h.nd;unfold cZ at this⊢;rw[fF]at this;split at this
 .exact this
 exact(nodup_cons.1 this).2
def fJ.head{r:Row}{b:List Row}(h:fJ w a (r::b)):r.owned w a:=h.own r jU
def Row.isNil(r:Row):Prop:=r.v=.slice none 0 0/\r.n=0/\r.xs=[]
def qo{r:Row}(h:r.isNil):r.owned w a:=by
 obtain⟨b,c,d⟩:=h;rw[Row.owned,b,c,d];exact lq w a r.e r.size
def fJ.Vx{r:Row}{b:List Row}(h:fJ w a b)(c:r.isNil):fJ w a (r::b):=by
 refine⟨λx hx=>?_,?_⟩
 .rcases mem_cons.1 hx with rfl|hx
  .exact qo c
  exact h.own x hx
 rw[cZ,fF,c.1];exact h.nd
def fJ.De{w:World}{a:Nat}{c:List Row}(h:fJ w a c):∀(b:List Row),(∀x∈b,x.isNil)->fJ w a (b++c)
 |[],_=>h
 |x::b,d=>(fJ.De h b λy e=>d y (iU _ e)).Vx (d x jU)
def fJ.behind{w:World}{a:Nat}{c:List Row}:∀(b:List Row),fJ w a (b++c)->fJ w a c
 |[],h=>h
 |_::b,h=>fJ.behind b h.tail
def yN{rs:List Row}:∀(a:List Row),(∀x∈a,x.isNil)->cZ (a++rs)=cZ rs
 |[],_=>rfl
 |x::a,b=>by
  have c:=yN (rs:=rs) a λy d=>b y (iU _ d);unfold cZ at c⊢;rwa[wQ,fF,(b x jU).1]
def uG{b a:List Row}:∀k∈cZ a,k∈cZ (b++a):=λk c=>by
 obtain⟨x,hx,d⟩:=mem_filterMap.1 c;exact mem_filterMap.2 ⟨x,nS _ hx,d⟩
def fJ.grow{r r' :Row}{rs:List Row}(h:fJ w a (r::rs))(l:r'.owned w' a)(m:w.grownBy w' r.v.ownBlock)
 (c:r'.v.ownBlock=r.v.ownBlock\/r'.v.ownBlock=some w.heap.size):fJ w' a (r' ::rs):=by
 have d:=h.tail;have hd:∀k∈cZ rs,some k≠r.v.ownBlock:=by
  intro k b e;have:=h.nd;rw[cZ,fF]at this;split at this
  .rename_i f;rw[f]at e;cases e
  rename_i j f;rw[f]at e;cases e;exact(nodup_cons.1 this).1 b
 have b:fJ w' a rs:=d.keep λk b=>m.block k (d.lt k b).2 (hd k b);refine⟨λx hx=>?_,?_⟩
 .rcases mem_cons.1 hx with rfl|hx
  .exact l
  exact b.own x hx
 rw[cZ,fF];split
 .exact b.nd
 rename_i j g;refine nodup_cons.2 ⟨λi=>?_,b.nd⟩;obtain c|c:=c
 .exact hd j i (g.symm.trans c)
 have:=(d.lt j i).2;rw[g]at c;cases c;omega
structure Fr(w w' :World)(b:Nat)(f f' :List Nat):Prop where
 os:w'.os=w.os
 tape:w'.tape=w.tape
 output:w'.output=w.output
 size:w.heap.size<=w'.heap.size
 block:∀k,k<w.heap.size->k≠b->k∉f->w'.heap[k]?=w.heap[k]?
 aY:∀k∈f', k∈f\/w.heap.size<=k
def Fr.refl(w:World)(b:Nat)(f:List Nat):Fr w w b f f:=⟨rfl,rfl,rfl,a_ _,λ_ _ _ _=>rfl,λ_ h=>.inl h⟩
def Fr.trans{w w1 w2:World}{b:Nat}{f d e:List Nat}(h:Fr w w1 b f d)(k:Fr w1 w2 b d e):Fr w w2 b f e:=
 ⟨k.os.trans h.os,k.tape.trans h.tape,k.output.trans h.output,cL h.size k.size,
  λj c g i=>(k.block j (i_ c h.size) g λa=>by
   obtain a|a:=h.aY j a
   .exact i a
   omega).trans (h.block j c g i),
  λj c=>by
   obtain a|a:=k.aY j c
   .exact h.aY j a
   exact .inr (cL h.size a)⟩
def Fr.alloc(w:World)(b:Nat)(f:List Nat)(o:Obj):Fr w (w.alloc o) b f f:=
 ⟨rfl,rfl,rfl,by simp,λk a _ _=>dG _ _ _ a,λ_ h=>.inl h⟩
def Fr.drew(w:World)(b:Nat)(f:List Nat):Fr w w.drew b f f:=⟨rfl,rfl,rfl,a_ _,λ_ _ _ _=>rfl,λ_ h=>.inl h⟩
def Fr.setCell(w:World)(b:Nat)(f:List Nat)(i:Nat)(u:Value):Fr w (w.setCell ⟨b,i,none⟩ u) b f f:=
 ⟨rfl,rfl,rfl,by simp[World.setCell],λk _ a _=>kR _ _ _ _ a,λ_ h=>.inl h⟩
def Fr.yO{c:World}{d:List Nat}(h:Fr c w b f d){a:Addr}(j:c.heap.size<=a.block)(u:Value):Fr c (w.setCell a u) b f d:=
 ⟨h.os,h.tape,h.output,by simpa[World.setCell]using h.size,λk e g i=>(kR _ _ _ _<|by omega).trans (h.block k e g i),h.aY⟩
def Fr.grown{r h:Row}(a:w.grownBy w' r.v.ownBlock)(c:h.v.ownBlock=r.v.ownBlock\/h.v.ownBlock=some w.heap.size)(i:List Row)(j:f=cZ (r::i)):
 Fr w w' b f (cZ (h::i)):=by
 subst j;refine⟨a.os,a.tape,a.output,a.size,λk d _ l=>a.block k d λe=>l (mem_filterMap.2 ⟨r,jU,e.symm⟩),λk d=>?_⟩;unfold cZ at d;obtain⟨x,hx,g⟩:=mem_filterMap.1 d;obtain rfl|hx:=mem_cons.1 hx
 .rcases c with c|c
  .exact .inl (mem_filterMap.2 ⟨r,jU,c.symm.trans g⟩)
  rw[c]at g;cases g;exact .inr (a_ _)
 exact .inl (mem_filterMap.2 ⟨x,iU _ hx,g⟩)
def Fr.sub{a:List Nat}(h:Fr w w' b f c)(d:∀k∈a,k∈c):Fr w w' b f a:=
 ⟨h.os,h.tape,h.output,h.size,h.block,λk e=>h.aY k (d k e)⟩
def Fr.wide{g:List Nat}(h:Fr w w' b f c)(d:∀k∈f,k∈g):Fr w w' b g c:=
 ⟨h.os,h.tape,h.output,h.size,λk a e i=>h.block k a e λj=>i (d k j),λk a=>(h.aY k a).imp (d k) id⟩
def nC{b a:List Row}(h:b.Perm a):∀k∈cZ b,k∈cZ a:=λ_ c=>(h.filterMap _).mem_iff.1 c
def bv(x:UInt8):Value:=.int .u8 (x.toNat:Int)
def sv(l:U):Value:=.string ⟨l.toArray⟩
def gG(a:aI):List Value:=[.string ⟨a.B.toArray⟩,.string ⟨a.space.toArray⟩,.string ⟨a.val.toArray⟩]
def fP(e:Ev)(v:Value):List Value:=[.int .i64 e.kind,.string ⟨e.B.toArray⟩,.string ⟨e.space.toArray⟩,.string ⟨e.val.toArray⟩,v]
def cQ(l:List aI):List Value:=l.flatMap gG
def dU(l:List (Ev×Value)):List Value:=l.flatMap λp=>fP p.1 p.2
structure Lay where
 oa:Option Addr
 oc:Nat
 ta:Option Addr
 tc:Nat
 aa:Option Addr
 ac:Nat
 la:Option Addr
 lc:Nat
 xa:Option Addr
 xc:Nat
 ba:Option Addr
 bc:Nat
 ca:Option Addr
 cc:Nat
 es:List (Ev×Value)
def cellsOf(s:Z)(L:Lay):List Value:=
 [.int .i64 s.od,.int .i64 s.oa,.int .i64 s.S,.bool s.on,.int .i64 s.H,.slice L.oa s.I.length L.oc,.bool s.over,.slice L.ba s.m.length L.bc,.slice L.ca s.T.length L.cc,
  .slice L.ta s.i.length L.tc,.int .i64 s.G,.string ⟨s.B.toArray⟩,.string ⟨s.attr.toArray⟩,.slice L.aa s.f.length L.ac,.int .u8 s.aj2,.string ⟨s.D.toArray⟩,
  .int .i64 s.bG,.int .i64 s.aW,.int .i64 s.pc,.int .i64 s.t,.int .i64 s.rp,.string ⟨s.rn.toArray⟩,.int .i64 s.rc,.bool s.O,
  .int .i64 s.K,.int .i64 s.aN,.slice L.la s.C.length L.lc,.slice L.xa s.F.length L.xc,.int .i64 s.A,.int .i64 s.j]
def eH(s:Z)(L:Lay):Row:=⟨9,1,.slice L.oa s.I.length L.oc,s.I.length,s.I.map sv⟩
def fV(s:Z)(L:Lay):Row:=⟨5,1,.slice L.ta s.i.length L.tc,s.i.length,s.i.map bv⟩
def eC(s:Z)(L:Lay):Row:=if s.am then⟨69,3,.slice none 0 0,0,[]⟩else⟨69,3,.slice L.aa s.f.length L.ac,s.f.length,cQ s.f⟩
def fE(s:Z)(L:Lay):Row:=⟨65,5,.slice L.la s.C.length L.lc,s.C.length,dU L.es⟩
def gN(s:Z)(L:Lay):Row:=⟨5,1,.slice L.xa s.F.length L.xc,s.F.length,s.F.map bv⟩
def uH(p:U×U):List Value:=[.string ⟨p.1.toArray⟩,.string ⟨p.2.toArray⟩]
def jM(l:List (U×U)):List Value:=l.flatMap uH
def nv(n:Nat):Value:=.int .i64 (n:Int)
def fK(s:Z)(L:Lay):Row:=⟨139,2,.slice L.ba s.m.length L.bc,s.m.length,jM s.m⟩
def fW(s:Z)(L:Lay):Row:=⟨3,1,.slice L.ca s.T.length L.cc,s.T.length,s.T.map nv⟩
def bR(p:Ev×Value):Row:=⟨69,3,p.2,p.1.f.length,cQ p.1.f⟩
def rowsOf(s:Z)(L:Lay):List Row:=eH s L::fV s L::eC s L::fE s L::gN s L::fK s L::fW s L::L.es.map bR
def aY(s:Z)(L:Lay):List Nat:=cZ (rowsOf s L)
structure bC(w:World)(b:Nat)(s:Z)(L:Lay):Prop where
 blk:w.heap[b]?=some (.cells (cellsOf s L).toArray 95 (0,0))
 rows:fJ w (b - 1) (rowsOf s L)
 evs:L.es.map (·.1)=s.C
 nb:b∉aY s L
def bC.lt{L:Lay}(h:bC w b s L):b<w.heap.size:=(Array.getElem?_eq_some_iff.1 h.blk).1
def bC.cell{w:World}{b:Nat}{s:Z}{L:Lay}(h:bC w b s L):∀i,w.cell? ⟨b,i,none⟩=(cellsOf s L)[i]?:=by
 intro i;simp[World.cell?,h.blk]
def bC.frozen{w:World}{b:Nat}{s:Z}{L:Lay}(h:bC w b s L):∀i,w.frozen? ⟨b,i,none⟩=false:=by
 intro i;simp[World.frozen?,h.blk]
def bC.zzv{L:Lay}(h:bC w b s L):(∀i,w.cell? ⟨b,i,none⟩=(cellsOf s L)[i]?)/\(∀i,w.frozen? ⟨b,i,none⟩=false)/\b<w.heap.size:=⟨h.cell,h.frozen,h.lt⟩
def bC.zzw{L:Lay}(h:bC w b s L):(∀i,w.cell? ⟨b,i,none⟩=[.int .i64 s.od,.int .i64 s.oa,.int .i64 s.S,.bool s.on,.int .i64 s.H,.slice L.oa s.I.length L.oc,.bool s.over,.slice L.ba s.m.length L.bc,.slice L.ca s.T.length L.cc,.slice L.ta s.i.length L.tc,.int .i64 s.G,.string ⟨s.B.toArray⟩,.string ⟨s.attr.toArray⟩,.slice L.aa s.f.length L.ac,.int .u8 s.aj2,.string ⟨s.D.toArray⟩,.int .i64 s.bG,.int .i64 s.aW,.int .i64 s.pc,.int .i64 s.t,.int .i64 s.rp,.string ⟨s.rn.toArray⟩,.int .i64 s.rc,.bool s.O,.int .i64 s.K,.int .i64 s.aN,.slice L.la s.C.length L.lc,.slice L.xa s.F.length L.xc,.int .i64 s.A,.int .i64 s.j][i]?)/\(∀i,w.frozen? ⟨b,i,none⟩=false)/\b<w.heap.size:=h.zzv
def bC.jh{L:Lay}(h:bC w b s L):∀k∈aY s L,b<=k+1/\k<w.heap.size:=λk a=>by have:=h.rows.lt k a;omega
structure Mv(w0:World)(b:Nat)(f0:List Nat)(w:World)(s:Z)(L:Lay):Prop where
 X:bC w b s L
 fr:Fr w0 w b f0 (aY s L)
def bC.start{L:Lay}(h:bC w b s L):Mv w b (aY s L) w s L:=⟨h,Fr.refl _ _ _⟩
def bC.keep{w w' :World}{b:Nat}{s:Z}{L:Lay}(h:bC w b s L)(a:∀k,k=b\/k∈aY s L->w'.heap[k]?=w.heap[k]?):bC w' b s L:=
 ⟨(a b (.inl rfl)).trans h.blk,h.rows.keep λk c=>a k (.inr c),h.evs,h.nb⟩
section
variable {w0 w w' :World}{b:Nat}{f0:List Nat}{s s' :Z}{L L' :Lay}
def Mv.alloc(m:Mv w0 b f0 w s L)(o:Obj):Mv w0 b f0 (w.alloc o) s L:=
 ⟨m.X.keep λk a=>dG _ _ _ (by obtain rfl|a:=a;exact m.X.lt;exact(m.X.jh k a).2),m.fr.trans (Fr.alloc _ _ _ _)⟩
def Mv.drew(m:Mv w0 b f0 w s L):Mv w0 b f0 w.drew s L:=⟨m.X.keep λ_ _=>rfl,m.fr.trans (Fr.drew _ _ _)⟩
def Mv.store(m:Mv w0 b f0 w s L)(i:Nat)(v:Value)(s' :Z)(c:(cellsOf s L).set i v=cellsOf s' L)(a:rowsOf s' L=rowsOf s L)(d:s'.C=s.C):
 Mv w0 b f0 (w.setCell ⟨b,i,none⟩ v) s' L:=by
 refine⟨⟨?_,?_,by rw[d];exact m.X.evs,by rw[aY,a];exact m.X.nb⟩,?_⟩
 .rw[<-c];have:=m.X.blk;simp[World.setCell,rE,this]
 .rw[a];refine m.X.rows.keep λk f=>kR _ _ _ _ ?_;exact λ(e:k=b)=>m.X.nb (e▸f)
 rw[aY,a];exact m.fr.trans (Fr.setCell _ _ _ _ _)
def Mv.call{a:Z}{c:Lay}{d:World}(m:Mv w0 b f0 w s L)(k:Mv w b (aY s L) d a c):Mv w0 b f0 d a c:=⟨k.X,m.fr.trans k.fr⟩
def Mv.AU(m:Mv w0 b f0 w s L){r r' :Row}{rs:List Row}(f:List Row)(i:Nat)(v:Value)(q:(rowsOf s L).Perm (r::rs))(c:(rowsOf s' L').Perm (f++r' ::rs))(t:∀x∈f,x.isNil)(z:r'.owned w' (b - 1))(u:w.grownBy w' r.v.ownBlock)
 (a:r'.v.ownBlock=r.v.ownBlock\/r'.v.ownBlock=some w.heap.size) (A:(cellsOf s L).set i v=cellsOf s' L') (B:L'.es.map (·.1)=s'.C):
 Mv w0 b f0 (w'.setCell ⟨b,i,none⟩ v) s' L' :=by
 have C:=m.X.rows.perm q;have D:fJ w' (b - 1) (rowsOf s' L'):=((C.grow z u a).De f t).perm c.symm;have g:some b≠r.v.ownBlock:=λe=>m.X.nb (nC q.symm b (mem_filterMap.2 ⟨r,jU,e.symm⟩));have l:b∉aY s' L' :=λE=>by
  have d:=nC c b E;rw[yN f t]at d;have n:b∈cZ rs->False:=λh=>m.X.nb (nC q.symm b (@uG [r] rs b h));rw[cZ,fF]at d;split at d
  .exact n d
  rename_i j y;obtain e|d:=mem_cons.1 d
  .subst e;obtain a|a:=a
   .exact g (y.symm.trans a)
   rw[y]at a;cases a;exact Nat.lt_irrefl _ m.X.lt
  exact n d
 have o:w'.heap[b]?=some (.cells (cellsOf s L).toArray 95 (0,0)):=(u.block b m.X.lt g).trans m.X.blk;refine⟨⟨?_,?_,B,l⟩,?_⟩
 .rw[<-A];simp[World.setCell,rE,o]
 .refine D.keep λk p=>kR _ _ _ _ ?_;exact λ(e:k=b)=>l (e▸p)
 refine(m.fr.trans ((Fr.grown (b:=b) u a rs rfl).wide λk p=>nC q.symm k p)).trans ((Fr.setCell _ _ _ _ _).sub λk p=>?_);have:=nC c k p;rwa[yN f t]at this
def Mv.grow(m:Mv w0 b f0 w s L){r r' :Row}{rs:List Row}(i:Nat)(v:Value)(c:(rowsOf s L).Perm (r::rs))(a:(rowsOf s' L').Perm (r' ::rs))(d:r'.owned w' (b - 1))(e:w.grownBy w' r.v.ownBlock)
 (f:r'.v.ownBlock=r.v.ownBlock\/r'.v.ownBlock=some w.heap.size) (g:(cellsOf s L).set i v=cellsOf s' L') (j:L'.es.map (·.1)=s'.C):
 Mv w0 b f0 (w'.setCell ⟨b,i,none⟩ v) s' L' :=m.AU [] i v c a (λ_ h=>by cases h) d e f g j
def Mv.Df(m:Mv w0 b f0 w s L)(j c l:List Row)(i:Nat)(v:Value)(f:(rowsOf s L).Perm (j++l))(a:(rowsOf s' L').Perm (c++l))(g:∀x∈c,x.isNil)
 (o:(cellsOf s L).set i v=cellsOf s' L') (p:L'.es.map (·.1)=s'.C):Mv w0 b f0 (w.setCell ⟨b,i,none⟩ v) s' L' :=by
 have q:fJ w (b - 1) (rowsOf s' L'):=((fJ.behind j (m.X.rows.perm f)).De c g).perm a.symm;have d:b∉aY s' L' :=λr=>by
  have n:=nC a b r;rw[yN c g]at n;exact m.X.nb (nC f.symm b (uG b n))
 refine⟨⟨?_,?_,p,d⟩,?_⟩
 .rw[<-o];have:=m.X.blk;simp[World.setCell,rE,this]
 .refine q.keep λk h=>kR _ _ _ _ ?_;exact λ(e:k=b)=>d (e▸h)
 refine(m.fr.trans (Fr.setCell _ _ _ _ _)).sub λk h=>?_;have:=nC a k h;rw[yN c g]at this;exact nC f.symm k (uG k this)
def bC.grown{a:World}{r:Row}(h:bC w b s L)(c:w.grownBy a r.v.ownBlock)(d:r∈rowsOf s L):a.heap[b]?=some (.cells (cellsOf s L).toArray 95 (0,0)):=by
 refine(c.block b h.lt λe=>?_).trans h.blk;exact h.nb (mem_filterMap.2 ⟨r,d,e.symm⟩)
def tL(h:w.heap[b]?=some (.cells (cellsOf s L).toArray 95 (0,0))):(∀i,w.cell? ⟨b,i,none⟩=(cellsOf s L)[i]?)/\∀i,w.frozen? ⟨b,i,none⟩=false:=
 ⟨λi=>by simp[World.cell?,h],λi=>by simp[World.frozen?,h]⟩
def Mv.below(m:Mv w0 b f0 w s L)(a:Below w.heap.size w w'):Mv w0 b f0 w' s L:=
 ⟨m.X.keep λk c=>a.block k (by obtain rfl|c:=c;exact m.X.lt;exact(m.X.jh k c).2),
  m.fr.trans ⟨a.os,a.tape,a.output,a.size,λk c _ _=>a.block k c,λ_ h=>.inl h⟩⟩
def heap_drewN(w:World)(n:Nat):(w.drewN n).heap=w.heap:=by simp[World.drewN]
def bC.drewN(h:bC w b s L)(n:Nat):bC (w.drewN n) b s L:=h.keep λ_ _=>by rw[heap_drewN]
def Mv.drewN(m:Mv w0 b f0 w s L)(n:Nat):Mv w0 b f0 (w.drewN n) s L:=m.below ⟨rfl,rfl,rfl,ajQ<|by rw[heap_drewN],λ_ _=>by rw[heap_drewN]⟩
end
def pY{c:Type}(a b:c)(l:List c):(a::b::l).Perm (b::a::l):=.swap _ _ _
def rI{d:Type}(a b c:d)(l:List d):(a::b::c::l).Perm (c::a::b::l):=((pY b c l).cons a).trans (pY a c _)
def tN{e:Type}(a b c d:e)(l:List e):(a::b::c::d::l).Perm (d::a::b::c::l):=((rI b c d l).cons a).trans (pY a d _)
def AV{f:Type}(a b c d e:f)(l:List f):(a::b::c::d::e::l).Perm (e::a::b::c::d::l):=((tN b c d e l).cons a).trans (pY a e _)
section
variable {w0 w w' :World}{b:Nat}{f0:List Nat}{s:Z}{L:Lay}
def AX{b:Type}(a:b)(l r:List b):(l++a::r).Perm (a::(l++r)):=perm_middle
def Mv.LH(m:Mv w0 b f0 w s L)(e:Ev)(d:e.f=[]){g:Nat}(hown:w'.ownsRow (b - 1) 65 5 (.slice (some ⟨g,0,none⟩) (s.C.length+1) a) (s.C.length+1) (dU L.es++fP e (.slice none 0 0)))
 (f:w.grownBy w' (fE s L).v.ownBlock) (c:(Value.slice L.la s.C.length L.lc).ownBlock=some g\/g=w.heap.size):
 Mv w0 b f0 (w'.setCell ⟨b,26,none⟩ (.slice (some ⟨g,0,none⟩) (s.C.length+1) a)) {s with C:=s.C++[e]} {L with la:=some ⟨g,0,none⟩,lc:=a,es:=L.es++[(e,.slice none 0 0)]}:=by
 refine m.AU (r:=fE s L) (r' :=fE {s with C:=s.C++[e]} {L with la:=some ⟨g,0,none⟩,lc:=a,es:=L.es++[(e,.slice none 0 0)]}) (rs:=eH s L::fV s L::eC s L::gN s L::fK s L::fW s L::L.es.map bR) [bR (e,.slice none 0 0)] 26 _ (tN _ _ _ _ _) ?_ ?_ ?_ f ?_ ?_ ?_
 .have i:rowsOf {s with C:=s.C++[e]} {L with la:=some ⟨g,0,none⟩,lc:=a,es:=L.es++[(e,.slice none 0 0)]}=eH s L::fV s L::eC s L::fE {s with C:=s.C++[e]} {L with la:=some ⟨g,0,none⟩,lc:=a,es:=L.es++[(e,.slice none 0 0)]}::gN s L::fK s L::fW s L::(L.es.map bR++[bR (e,.slice none 0 0)]):=by
   simp[rowsOf,eH,fV,eC,gN,fK,fW]
  rw[i];refine(tN _ _ _ _ _).trans ?_;exact(AX (bR (e,.slice none 0 0)) (fE _ _::eH s L::fV s L::eC s L::gN s L::fK s L::fW s L::L.es.map bR) []).trans (by rw[aj1];exact .refl _)
 .intro x hx;simp at hx;subst hx;simp[Row.isNil,bR,d,cQ]
 .show World.ownsRow _ _ _ _ _ _ _;simp only[fE,bT,cT,fB,jV,dU,nB,mQ,Ay,aj1];exact hown
 .rcases c with h|h
  .exact .inl h.symm
  exact .inr (by rw[h];rfl)
 .simp[cellsOf]
 simp[m.X.evs]
def Mv.Vy(m:Mv w0 b f0 w s L)(e:Ev)(i:e.f=s.f)(d:s.am=false){g:Nat}(hown:w'.ownsRow (b - 1) 65 5 (.slice (some ⟨g,0,none⟩) (s.C.length+1) a) (s.C.length+1) (dU L.es++fP e (.slice L.aa s.f.length L.ac)))
 (j:w.grownBy w' (fE s L).v.ownBlock) (f:(Value.slice L.la s.C.length L.lc).ownBlock=some g\/g=w.heap.size):
 Mv w0 b f0 (w'.setCell ⟨b,26,none⟩ (.slice (some ⟨g,0,none⟩) (s.C.length+1) a)) {s with C:=s.C++[e],am:=true} {L with la:=some ⟨g,0,none⟩,lc:=a,es:=L.es++[(e,.slice L.aa s.f.length L.ac)]}:=by
 have c:eC s L=bR (e,.slice L.aa s.f.length L.ac):=by simp[eC,bR,d,i]
 refine m.AU (r:=fE s L) (r' :=fE {s with C:=s.C++[e]} {L with la:=some ⟨g,0,none⟩,lc:=a,es:=L.es++[(e,.slice L.aa s.f.length L.ac)]}) (rs:=eH s L::fV s L::eC s L::gN s L::fK s L::fW s L::L.es.map bR) [⟨69,3,.slice none 0 0,0,[]⟩] 26 _ (tN _ _ _ _ _) ?_ ?_ ?_ j ?_ ?_ ?_
 .have k:rowsOf {s with C:=s.C++[e],am:=true} {L with la:=some ⟨g,0,none⟩,lc:=a,es:=L.es++[(e,.slice L.aa s.f.length L.ac)]}=eH s L::fV s L::⟨69,3,.slice none 0 0,0,[]⟩::fE {s with C:=s.C++[e]} {L with la:=some ⟨g,0,none⟩,lc:=a,es:=L.es++[(e,.slice L.aa s.f.length L.ac)]}::gN s L::fK s L::fW s L::(L.es.map bR++[bR (e,.slice L.aa s.f.length L.ac)]):=by
   simp[rowsOf,eH,fV,eC,gN,fE,fK,fW]
  rw[k,c];refine(rI _ _ _ _).trans (.cons _ ?_);refine(rI _ _ _ _).trans (.cons _ ?_);refine .cons _ (.cons _ ?_);refine(AX (bR (e,.slice L.aa s.f.length L.ac)) (gN s L::fK s L::fW s L::L.es.map bR) []).trans ?_;rw[aj1]
 .intro x hx;simp at hx;subst hx;exact⟨rfl,rfl,rfl⟩
 .show World.ownsRow _ _ _ _ _ _ _;simp only[fE,bT,cT,fB,jV,dU,nB,mQ,Ay,aj1];exact hown
 .rcases f with h|h
  .exact .inl h.symm
  exact .inr (by rw[h];rfl)
 .simp[cellsOf]
 simp[m.X.evs]
def Mv.Vz(m:Mv w0 b f0 w s L):Mv w0 b f0 (w.setCell ⟨b,27,none⟩ (.slice none 0 0)) {s with F:=[]} {L with xa:=none,xc:=0}:=
 m.Df [gN s L] [gN {s with F:=[]} {L with xa:=none,xc:=0}] (eH s L::fV s L::eC s L::fE s L::fK s L::fW s L::L.es.map bR) 27 _ (AV _ _ _ _ _ _) (AV _ _ _ _ _ _)
  (λx hx=>by simp at hx;subst hx;exact⟨rfl,rfl,rfl⟩) rfl m.X.evs
def Mv.VA(m:Mv w0 b f0 w s L):Mv w0 b f0 (w.setCell ⟨b,9,none⟩ (.slice none 0 0)) {s with i:=[]} {L with ta:=none,tc:=0}:=
 m.Df [fV s L] [fV {s with i:=[]} {L with ta:=none,tc:=0}] (eH s L::eC s L::fE s L::gN s L::fK s L::fW s L::L.es.map bR) 9 _ (pY _ _ _) (pY _ _ _)
  (λx hx=>by simp at hx;subst hx;exact⟨rfl,rfl,rfl⟩) rfl m.X.evs
def Mv.VB(m:Mv w0 b f0 w s L):Mv w0 b f0 (w.setCell ⟨b,13,none⟩ (.slice none 0 0)) {s with f:=[],am:=false} {L with aa:=none,ac:=0}:=
 m.Df [eC s L] [eC {s with f:=[],am:=false} {L with aa:=none,ac:=0}] (eH s L::fV s L::fE s L::gN s L::fK s L::fW s L::L.es.map bR) 13 _ (rI _ _ _ _) (rI _ _ _ _)
  (λx hx=>by simp at hx;subst hx;simp[eC,Row.isNil,cQ]) rfl m.X.evs
def Mv.VC(m:Mv w0 b f0 w s L):Mv w0 b f0 (w.setCell ⟨b,26,none⟩ (.slice none 0 0)) {s with C:=[]} {L with la:=none,lc:=0,es:=[]}:=by
 refine m.Df (fE s L::L.es.map bR) [fE {s with C:=[]} {L with la:=none,lc:=0,es:=[]}] [eH s L,fV s L,eC s L,gN s L,fK s L,fW s L] 26 _ ?_ (tN _ _ _ _ _)
  (λx hx=>by simp at hx;subst hx;exact⟨rfl,rfl,rfl⟩) rfl rfl
 refine(tN _ _ _ _ _).trans (.cons _ ?_);exact(perm_append_comm (l₁:=[eH s L,fV s L,eC s L,gN s L,fK s L,fW s L]) (l₂:=L.es.map bR))
end
end Go.Proofs.YtmgfijllcdadgaaGreatDoor
namespace Go.Proofs.YtmgfijllcdadgaaGreatDoor.V
open Rf
open Mk
def oz(p:Int->Bool)(x:UInt8)(l:U):iK p (x::l)=if p (x.toNat:Int)=true then iK p l+1 else 0:=by
 unfold iK;rw[AA];split<;>simp
theorem NR(p:Int->Bool):iK p []=0:=rfl
def drop_at{l:U}{k:Nat}{y:UInt8}(h:l[k]?=some y):l.drop k=y::l.drop (k+1):=by
 obtain⟨a,b⟩:=List.getElem?_eq_some_iff.1 h;rw[gB a,b]
def vM(p:Int->Bool)(l:U):iK p l<=l.length:=by
 unfold iK;exact(List.takeWhile_sublist _).length_le
def pE(l:U)(i n:Nat):(ByteArray.extract ⟨l.toArray⟩ i (i+n))=⟨((l.drop i).take n).toArray⟩:=by
 apply rF;simp only[yF,List.extract_toArray,LF];rw[show i+n - i=n by omega]
end Go.Proofs.YtmgfijllcdadgaaGreatDoor.V
namespace Go.Proofs.YtmgfijllcdadgaaGreatDoor
open List
def idle(b:Array Oper)(a:Array Bool):Nat:=((List.range b.size).filter λi=> !a.getD i true).length
def Nz{b:Array Oper}{a:Array Bool}{i:Nat}(g:a.getD i true=false)(l:i<b.size):idle b (a.setIfInBounds i true)+1<=idle b a:=by
 unfold idle;have e:i<a.size:=by
  by_cases h:i<a.size
  .exact h
  simp[Array.getD,h]at g
 have c:∀j,(!(a.setIfInBounds i true).getD j true)=((!a.getD j true)&&decide (j≠i)):=by
  intro j;by_cases f:j=i
  .subst f;simp[Array.getD,e]
  rw[getD_set_ne true λh=>f h.symm];simp[f]
 have m:((List.range b.size).filter λj=> !(a.setIfInBounds i true).getD j true)=((List.range b.size).filter λj=> !a.getD j true).filter λj=>decide (j≠i):=by
  rw[filter_filter];congr 1
  funext j;rw[c j,Bool.and_comm]
 rw[m];have d:i∈(List.range b.size).filter λj=> !a.getD j true:=by
  rw[mem_filter,mem_range,g];exact⟨l,rfl⟩
 have k:(((List.range b.size).filter λj=> !a.getD j true).filter λj=>decide (j≠i)).length<((List.range b.size).filter λj=> !a.getD j true).length:=length_filter_lt_length_iff_exists.2 ⟨i,d,by simp⟩;omega
def YP{P:Program}{j:Region.Mode}{d:Array Oper}{Q:Exit->Act->World->Prop}(b:Array Bool->Act->World->Prop)
 (g:∀(c:Array Bool) (a:Act) (w:World) (i:Nat),b c a w->i∈Region.ready j d c->wpOp P d Q i (b (c.setIfInBounds i true)) a w)
 (f:∀(c:Array Bool) (a:Act) (w:World),b c a w->Region.ready j d c=[]->Q .normal a w):
 ∀(e:Nat) (c:Array Bool) (a:Act) (w:World),b c a w->idle d c<=e->wpAny P j d Q e c a w:=by
 intro e;induction e with
 |zero=>
  intro c a w k q;have n:Region.ready j d c=[]:=by
   cases h:Region.ready j d c with
   |nil=>rfl
   |cons i r=>
    have s:i∈Region.ready j d c:=by rw[h];exact jU
    obtain⟨l,o,m,_⟩:=mem_ready.1 s;have:=Nz l (Array.getElem?_eq_some_iff.1 m).1;omega
  exact⟨n,f _ _ _ k n⟩
 |succ e ih=>
  intro c a w k q;refine⟨f _ _ _ k,λi p=>?_⟩;obtain⟨l,o,m,_⟩:=mem_ready.1 p;have hd:=Nz l (Array.getElem?_eq_some_iff.1 m).1;exact wpOp_mono (λu w' t=>ih _ _ _ t<|by omega) (g _ _ _ _ k p)
def YQ(a:Array Oper):idle a (Array.replicate a.size false)<=a.size:=by
 unfold idle;exact cL (length_filter_le _ _) (by simp)
end Go.Proofs.YtmgfijllcdadgaaGreatDoor
