import Derived.Test.YtmgfijllcdadgaaGreatDoorUW01
import Derived.Laws.IdiomStrings
set_option linter.all false
set_option maxHeartbeats 8000000
set_option maxRecDepth 100000
namespace Go.Proofs.YtmgfijllcdadgaaGreatDoor
open Go.RowKit
open List
open Go.Proofs.Tryz
open Mk
variable {w:World}{b:Nat}{s:Z}{L:Lay}
def VP(b:Int)(g:0<=b)(i:b<=255)(w:World):Calls prog 186 #[.int .u8 b] w λe w' =>
 e=.returned (.tuple #[.agg #[.int .i64 ((eF b).getD (0,0)).1,.int .i64 ((eF b).getD (0,0)).2],.bool (eF b).isSome])/\Below w.heap.size w w' :=by
 by_cases h:b<128
 .cases f:eX b
  .have a:eF b=none:=by unfold eF;rw[M<|by simp[f],M,M,M]
   rw[a];go_enter func186,ntmps186;go_wp2_with(go_at_call 215;go_call(yP _ _)as e w' ⟨rfl,rfl⟩);exact bodyPost_ret (v:=.tuple #[.agg #[.int .i64 0,.int .i64 0],.bool false]) (by simp[results,Tryz.results186,go_sem]) rfl ⟨rfl,(Below.refl _ _).alloc (a_ _) _⟩
  .have a:eF b=some (b,0):=by unfold eF;rw[J ⟨h,f⟩]
   rw[a];go_enter func186,ntmps186;go_wp2_with(go_at_call 215;go_call(yP _ _)as e w' ⟨rfl,rfl⟩);exact bodyPost_ret (v:=.tuple #[.agg #[.int .i64 b,.int .i64 0],.bool true]) (by simp[results,Tryz.results186,go_sem]) rfl ⟨rfl,(Below.refl _ _).alloc (a_ _) _⟩
 obtain⟨m,a⟩:=akb (eF b);rcases(by omega:(194<=b/\b<=223)\/(224<=b/\b<=239)\/(240<=b/\b<=244)\/(128<=b/\b<194)\/244<b)with⟨c,d⟩|⟨c,d⟩|⟨c,d⟩|⟨c,d⟩|c
 .have a:eF b=some (b - 192,1):=by unfold eF;rw[M,J]
  rw[a];go_enter func186,ntmps186;go_wp2;exact bodyPost_ret (v:=.tuple #[.agg #[.int .i64 (b - 192),.int .i64 1],.bool true]) (by simp[results,Tryz.results186,go_sem]) rfl ⟨rfl,(Below.refl _ _).alloc (a_ _) _⟩
 .have a:eF b=some (b - 224,2):=by unfold eF;rw[M,M,J]
  rw[a];go_enter func186,ntmps186;go_wp2;exact bodyPost_ret (v:=.tuple #[.agg #[.int .i64 (b - 224),.int .i64 2],.bool true]) (by simp[results,Tryz.results186,go_sem]) rfl ⟨rfl,(Below.refl _ _).alloc (a_ _) _⟩
 .have a:eF b=some (b - 240,3):=by unfold eF;rw[M,M,M,J]
  rw[a];go_enter func186,ntmps186;go_wp2;exact bodyPost_ret (v:=.tuple #[.agg #[.int .i64 (b - 240),.int .i64 3],.bool true]) (by simp[results,Tryz.results186,go_sem]) rfl ⟨rfl,(Below.refl _ _).alloc (a_ _) _⟩
 rotate_left;all_goals
  have a:eF b=none:=by unfold eF;rw[M,M,M,M]
  rw[a];go_enter func186,ntmps186;go_wp2;all_goals exact bodyPost_ret (v:=.tuple #[.agg #[.int .i64 0,.int .i64 0],.bool false]) (by simp[results,Tryz.results186,go_sem]) rfl ⟨rfl,(Below.refl _ _).alloc (a_ _) _⟩
def LQ(c l:Int)(w:World):Calls prog 180 #[.agg #[.int .i64 c,.int .i64 l]] w λe w' =>
 e=.returned (.bool (gU c l))/\w' =w.alloc (.cells #[.int .i64 c,.int .i64 l] 87):=by
 go_enter func180,ntmps180;go_wp2_with(go_at_call 215;go_call(yP _ _)as e w' ⟨rfl,rfl⟩);all_goals(go_ret;refine⟨mU ?_,rfl⟩)
 all_goals(unfold gU;simp_all)
 all_goals omega
def LR(c l b:Int)(f:0<=b)(g:b<=255)(i:0<=c)(j:c<=2097151)(k:0<=l)(m:l<=3)(w:World):Calls prog 127 #[.agg #[.int .i64 c,.int .i64 l],.int .u8 b] w λe w' =>
 e=.returned (.tuple #[.agg #[.int .i64 ((eO c l b).getD (0,0)).1,.int .i64 ((eO c l b).getD (0,0)).2],.bool (eO c l b).isSome])/\Below w.heap.size w w' :=by
 by_cases h:b<128\/191<b
 .have a:eO c l b=none:=by unfold eO;rw[J h]
  rw[a];clear a;obtain h|h:=h;all_goals
   go_enter func127,ntmps127;go_wp2;exact bodyPost_ret (v:=.tuple #[.agg #[.int .i64 0,.int .i64 0],.bool false]) (by simp[results,Tryz.results127,go_sem]) rfl ⟨rfl,((Below.refl _ _).alloc (a_ _) _).alloc (by simp) _⟩
 have n:128<=b:=by omega
 have o:b<=191:=by omega
 cases d:gU (c*64+b - 128) (l - 1)
 .have a:eO c l b=none:=by unfold eO;rw[M h,d];rfl
  rw[a];clear a h;go_enter func127,ntmps127;go_wp2_with(go_at_call 180;go_call(LQ _ _ _)as e w' ⟨rfl,rfl⟩);exact bodyPost_ret (v:=.tuple #[.agg #[.int .i64 0,.int .i64 0],.bool false]) (by simp[results,Tryz.results127,go_sem]) rfl ⟨rfl,((((Below.refl _ _).alloc (a_ _) _).alloc (by simp) _).alloc (by simp;omega) _).alloc (by simp;omega) _⟩
 have a:eO c l b=some (c*64+b - 128,l - 1):=by unfold eO;rw[M h,d];rfl
 rw[a];clear a h;go_enter func127,ntmps127;go_wp2_with(go_at_call 180;go_call(LQ _ _ _)as e w' ⟨rfl,rfl⟩);exact bodyPost_ret (v:=.tuple #[.agg #[.int .i64 (c*64+b - 128),.int .i64 (l - 1)],.bool true]) (by simp[results,Tryz.results127,go_sem]) rfl ⟨rfl,((((Below.refl _ _).alloc (a_ _) _).alloc (by simp) _).alloc (by simp;omega) _).alloc (by simp;omega) _⟩
theorem yR:(prog.info? 5).map (λi=>(i.zero,i.size,i.bytes))=some (some (.int .u8 0),1,1):=by kernel_rfl
def Gb(h:bC w b s L):
 Calls prog 185 #[.pointer (some ⟨b,0,none⟩)] w λe w' =>e=.returned (.bool (bI s))/\w' =w:=by
 have a:=h.cell;unfold cellsOf at a;clear h;go_enter func185,ntmps185;go_wp2;all_goals(go_ret;exact⟨by simp[bI, *],rfl⟩)
def wZ(h:bC w b s L)(a:Int)(g:0<=s.G)(i:s.G<=1000000000000)(j:0<=a)(k:a<=1000):
 Calls prog 137 #[.pointer (some ⟨b,0,none⟩),.int .i64 a] w λe w' =>e=.returned (.bool (gb s a))/\∃n,w' =w.drewN n:=by
 have f:=h.cell;have d:Hid (∀n,Calls prog 185 #[.pointer (some ⟨b,0,none⟩)] (w.drewN n) λe w' =>e=.returned (.bool (bI s))/\w' =w.drewN n):=λn=>Gb (h.drewN n);unfold cellsOf at f;clear h;cases c:bI s;all_goals
  rw[c]at d;go_enter func137,ntmps137;go_wp2;go_quiet((go_at_call 185;exact Calls.quiet_of_same (d.out _)));go_wp2;go_ret;exact⟨mU<|by simp[gb, *],_,rfl⟩
def VQ(n:Int)(a:0<=n)(b:n<=255):((Mk.u8 n).toNat:Int)=n:=by
 rw[Mk.u8,CZ];omega
def LS(c:Int)(b:0<=c)(d:c<=1114111):(jf c).map (Value.int .u8)=(dB c).map bv:=by
 rw[dB,map_map];apply map_congr_left;intro n a;have:0<=n/\n<=255:=by
  unfold jf at a;split at a
  .simp at a;omega
  split at a
  .simp at a;omega
  split at a<;>simp at a<;>omega
 simp[bv,VQ n this.1 this.2]
def encode_len(c:Int):0<(jf c).length/\(jf c).length<=4/\(dB c).length=(jf c).length:=by
 unfold dB jf;repeat' split
 all_goals simp
def VR(h:bC w b s L)(c:Int)(p:0<=c)(h1:c<=1114111)(E:bI s=true)(hx:s.F.length<=1000000000000):
 Calls prog 130 #[.pointer (some ⟨b,0,none⟩),.int .i64 c] w λe w' =>e=.returned (.tuple #[])/\∃L', Mv w b (aY s L) w' {s with F:=s.F++dB c} L' :=by
 have hm:=(h.start).alloc (.cells ((jf c).map (Value.int .u8)).toArray 5);have q:=hm.X.cell;have v:=hm.X.frozen;have t:Hid (Calls prog 185 #[.pointer (some ⟨b,0,none⟩)] (w.alloc (.cells ((jf c).map (Value.int .u8)).toArray 5)) λe w' =>e=.returned (.bool (bI s))/\w' =(w.alloc (.cells ((jf c).map (Value.int .u8)).toArray 5))):=Gb hm.X;have a:Hid (Mv w b (aY s L) (w.alloc (.cells ((jf c).map (Value.int .u8)).toArray 5)) s L):=hm;have i:=encode_len c;unfold cellsOf at q;clear h hm;obtain⟨y,z,l,m,n⟩:=lg yR;go_enter func130,ntmps130
 go_wp2_with(first
  |(go_at_call 184;go_call(LJ c p h1 _)as e w' ⟨rfl,rfl⟩)
  |(go_at_call 185;go_call t.out as e w' ⟨rfl,rfl⟩)
  |(at_builtin;refine lI _ rfl (.tmp 14) (.tmp 15) 74 rfl (b - 1) 5 y (.int .u8 0) 1 1 underlying74 z l m n rfl (by decide) (.slice L.xa s.F.length L.xc) s.F.length (s.F.map bv) rfl ?own ⟨w.heap.size,0,none⟩ (jf c).length (jf c).length ((dB c).map bv) rfl ?hl ?hnews ?h1 ?hm ?h63 ?hbytes ?hbase (w.heap.size+1) (by simp) ?grow))
 case own=>exact a.out.X.rows.own (gN s L) (by simp[rowsOf])
 case hl=>simp[i.2.2]
 case hnews=>
  intro j u k;rw[<-LS c p h1]at k;have d:(⟨w.heap.size,0,none⟩:Addr).add j=⟨w.heap.size,j,none⟩:=by unfold Addr.add;split<;>simp_all
  rw[d];simpa[World.cell?,World.alloc,-World.alloc_eq]using k
 case h1=>intro u k;obtain⟨x,_,rfl⟩:=mem_map.1 k;rfl
 case hm=>exact i.1
 case h63=>unfold maxLen;omega
 case hbytes=>omega
 case hbase=>have:=a.out.X.lt;omega
 case grow=>
  intro g f F hown hgrow o A;obtain⟨B,C⟩:=tL (a.out.X.grown (r:=gN s L) hgrow<|by simp[rowsOf]);unfold cellsOf at B;clear q v t;go_wp2;refine bodyPost_ret (CU rfl _ _ _) rfl ?_;refine⟨rfl,{L with xa:=some ⟨g,0,none⟩,xc:=f},a.out.grow (s' :={s with F:=s.F++dB c}) (L' :={L with xa:=some ⟨g,0,none⟩,xc:=f}) (r:=gN s L) 27 _ (AV _ _ _ _ _ _) (AV _ _ _ _ _ _) ?_ hgrow ?_ ?_ a.out.X.evs⟩
  .have D:(s.F++dB c).length=s.F.length+(jf c).length:=by rw[bT,i.2.2]
   simp only[gN,mP];rwa[D]
  .rcases o with e|e
   .exact .inl e.symm
   exact .inr (by rw[e];simp[gN,Value.ownBlock])
  simp[cellsOf,i.2.2]
def VS(h:bC w b s L)(c:Int)(p:0<=c)(h1:c<=1114111)(E:bI s=false)(hx:s.i.length<=1000000000000)(F:0<=s.G)(G:s.G<=1000000000000):
 Calls prog 130 #[.pointer (some ⟨b,0,none⟩),.int .i64 c] w λe w' =>e=.returned (.tuple #[])/\∃L', Mv w b (aY s L) w' {s with i:=s.i++dB c,G:=s.G+1} L' :=by
 have hm:=(h.start).alloc (.cells ((jf c).map (Value.int .u8)).toArray 5);have q:=hm.X.cell;have v:=hm.X.frozen;have t:Hid (Calls prog 185 #[.pointer (some ⟨b,0,none⟩)] (w.alloc (.cells ((jf c).map (Value.int .u8)).toArray 5)) λe w' =>e=.returned (.bool (bI s))/\w' =(w.alloc (.cells ((jf c).map (Value.int .u8)).toArray 5))):=Gb hm.X;have a:Hid (Mv w b (aY s L) (w.alloc (.cells ((jf c).map (Value.int .u8)).toArray 5)) s L):=hm;have i:=encode_len c;unfold cellsOf at q;clear h hm;obtain⟨y,z,l,m,n⟩:=lg yR;go_enter func130,ntmps130
 go_wp2_with(first
  |(go_at_call 184;go_call(LJ c p h1 _)as e w' ⟨rfl,rfl⟩)
  |(go_at_call 185;go_call t.out as e w' ⟨rfl,rfl⟩)
  |(at_builtin;refine lI _ rfl (.tmp 24) (.tmp 25) 74 rfl (b - 1) 5 y (.int .u8 0) 1 1 underlying74 z l m n rfl (by decide) (.slice L.ta s.i.length L.tc) s.i.length (s.i.map bv) rfl ?own ⟨w.heap.size,0,none⟩ (jf c).length (jf c).length ((dB c).map bv) rfl ?hl ?hnews ?h1 ?hm ?h63 ?hbytes ?hbase (w.heap.size+1) (by simp) ?grow))
 case own=>exact a.out.X.rows.own (fV s L) (by simp[rowsOf])
 case hl=>simp[i.2.2]
 case hnews=>
  intro j u k;rw[<-LS c p h1]at k;have d:(⟨w.heap.size,0,none⟩:Addr).add j=⟨w.heap.size,j,none⟩:=by unfold Addr.add;split<;>simp_all
  rw[d];simpa[World.cell?,World.alloc,-World.alloc_eq]using k
 case h1=>intro u k;obtain⟨x,_,rfl⟩:=mem_map.1 k;rfl
 case hm=>exact i.1
 case h63=>unfold maxLen;omega
 case hbytes=>omega
 case hbase=>have:=a.out.X.lt;omega
 case grow=>
  intro g f H hown hgrow o A;obtain⟨B,C⟩:=tL (a.out.X.grown (r:=fV s L) hgrow<|by simp[rowsOf]);unfold cellsOf at B;clear q v t;go_wp2;go_end0
  refine⟨rfl,{L with ta:=some ⟨g,0,none⟩,tc:=f},(a.out.grow (s' :={s with i:=s.i++dB c}) (L' :={L with ta:=some ⟨g,0,none⟩,tc:=f}) (r:=fV s L) (rs:=eH s L::eC s L::fE s L::gN s L::fK s L::fW s L::L.es.map bR) 9 _ (pY _ _ _) (pY _ _ _) ?_ hgrow ?_ ?_ a.out.X.evs).store 10 _ _ rfl rfl rfl⟩
  .have D:(s.i++dB c).length=s.i.length+(jf c).length:=by rw[bT,i.2.2]
   simp only[fV,mP];rwa[D]
  .rcases o with e|e
   .exact .inl e.symm
   exact .inr (by rw[e];simp[fV,Value.ownBlock])
  simp[cellsOf,i.2.2]
def yS(h:bC w b s L)(c:Int)(d:0<=c)(f:c<=1114111)(hx:s.F.length<=1000000000000)(g:s.i.length<=1000000000000)(i:0<=s.G)(j:s.G<=1000000000000):
 Calls prog 130 #[.pointer (some ⟨b,0,none⟩),.int .i64 c] w λe w' =>e=.returned (.tuple #[])/\∃k,Mv w b (aY s L) w' (bV s c) k:=by
 cases a:bI s
 .have:=VS h c d f a g i j;simpa[bV,a]using this
 have:=VR h c d f a hx;simpa[bV,a]using this
def ext_list(x:U)(n:Nat):(ByteArray.extract ⟨x.toArray⟩ 0 n).toList=x.take n:=by
 simp[ByteArray.toList_eq,yF]
def Dl(x y:U)(hx:x.length<=100)(b:y.length<=100)(w:World):Calls prog 214 #[.string ⟨x.toArray⟩,.string ⟨y.toArray⟩] w λe w' =>e=.returned (.bool (y.isPrefixOf x))/\w' =w:=by
 by_cases h:y.length<=x.length
 .go_enter func214,ntmps214;go_wp2;go_ret;refine⟨mU ?_,rfl⟩;rw[ext_list,kF,isPrefixOf_iff_prefix,prefix_iff_eq_take,ajP];exact eq_comm
 have e0:decide ((y.length:Int)<=(x.length:Int))=false:=aj9;go_enter func214,ntmps214;go_wp2;go_ret;refine⟨mU ?_,rfl⟩;cases a:y.isPrefixOf x
 .rfl
 rw[isPrefixOf_iff_prefix]at a;exact aj6 a.length_le h
def Gg(p:Int)(n:U)(c:Int)(w:World):Calls prog 94 #[.agg #[.int .i64 p,.string ⟨n.toArray⟩,.int .i64 c]] w λe w' =>e=.returned (.bool (aZ p))/\w' =w.alloc (.cells #[.int .i64 p,.string ⟨n.toArray⟩,.int .i64 c] 89):=by
 cases h:(p !=0);all_goals
  go_enter func94,ntmps94;go_wp2;go_ret;refine⟨mU ?_,rfl⟩;simp[aZ,h]
def Wj(p:Int)(n:U)(c:Int)(w:World):Calls prog 131 #[.agg #[.int .i64 p,.string ⟨n.toArray⟩,.int .i64 c]] w λe w' =>e=.returned (.int .i64 c)/\w' =w.alloc (.cells #[.int .i64 p,.string ⟨n.toArray⟩,.int .i64 c] 89):=by
 go_enter func131,ntmps131;go_wp2;all_goals(go_ret;exact⟨rfl,rfl⟩)
def LX(w:World):Calls prog 133 #[] w λe w' =>e=.returned (.agg #[.int .i64 1,.string ⟨#[]⟩,.int .i64 0])/\Below w.heap.size w w' :=by
 go_enter func133,ntmps133;go_wp2;exact bodyPost_ret (v:=.agg #[.int .i64 1,.string ⟨#[]⟩,.int .i64 0]) (by simp[results,Tryz.results133,go_sem]) rfl ⟨rfl,(Below.refl _ _).alloc (a_ _) _⟩
def jk(o:Option Mk.Rf):Array Value:=#[.int .i64 ((o.map (·.place)).getD 0),.string ⟨((o.map (·.B)).getD []).toArray⟩,.int .i64 ((o.map (·.code)).getD 0)]
def eM(o:Option Mk.Rf):Value:=.tuple #[.agg (jk o),.bool o.isSome]
def Dm{b a v:Int}(c:0<=b)(d:0<a)(h:nN b a=some v):0<=v/\v<a:=by
 unfold nN at h;split at h
 .cases h
 cases h;rename_i e;refine⟨?_,by omega⟩;unfold Mk.Ap Mk.tj;repeat' split
 all_goals simp_all
 all_goals omega
def LY(p:Int)(n:U)(c b a place:Int)(h:0<=b)(k:b<=255)(m:0<=c)(o:c<=1114111)(i:a=10\/a=16)(w:World):
 Calls prog 182 #[.agg #[.int .i64 p,.string ⟨n.toArray⟩,.int .i64 c],.int .u8 b,.int .i64 a,.int .i64 place] w λe w' =>e=.returned (eM (iN c b a place))/\w' =(w.alloc (.cells #[.int .i64 p,.string ⟨n.toArray⟩,.int .i64 c] 89)).alloc (.cells (jk (iN c b a place)) 89):=by
 have f:=Y λw=>VE b a h k (by omega) (by omega) w;have g:0<a/\a<=16:=by omega
 cases hd:nN b a;focus
  rw[hd]at f;have d:iN c b a place=none:=by simp[iN,hd]
 rotate_left;focus
  rename_i v;rw[hd]at f;have q:=Dm h g.1 hd;by_cases j:1114111<c*a+v;focus
   have d:iN c b a place=none:=by simp[iN,hd,j]
  rotate_left
  .have d:iN c b a place=some ⟨place,[],c*a+v⟩:=by simp[iN,hd];omega
   rw[d];clear d hd;have l:c*a+v<=1114111:=by omega
   clear j;obtain rfl|rfl:=i
   .go_enter func182,ntmps182;go_wp2_with(go_at_call 217;go_call(f.u _)as e w' ⟨rfl,rfl⟩);exact bodyPost_ret (v:=eM (some ⟨place,[],c*10+v⟩)) (by simp[results,Tryz.results182,go_sem,eM,jk]) rfl ⟨rfl,rfl⟩
   go_enter func182,ntmps182;go_wp2_with(go_at_call 217;go_call(f.u _)as e w' ⟨rfl,rfl⟩);exact bodyPost_ret (v:=eM (some ⟨place,[],c*16+v⟩)) (by simp[results,Tryz.results182,go_sem,eM,jk]) rfl ⟨rfl,rfl⟩
 all_goals
  rw[d];clear d hd;obtain rfl|rfl:=i;all_goals
   go_enter func182,ntmps182;go_wp2_with(go_at_call 217;go_call(f.u _)as e w' ⟨rfl,rfl⟩);exact bodyPost_ret (v:=eM none) (by simp[results,Tryz.results182,go_sem,eM,jk]) rfl ⟨rfl,rfl⟩
def Wk(p:Int)(n:U)(c b a place:Int)(l:0<=b)(m:b<=255)(o:0<=c)(q:c<=1114111)(s:a=10\/a=16)(w:World):
 Calls prog 183 #[.agg #[.int .i64 p,.string ⟨n.toArray⟩,.int .i64 c],.int .u8 b,.int .i64 a,.int .i64 place] w λe w' =>e=.returned (eM (jl c b a place))/\Below w.heap.size w w' :=by
 cases f:(b==59)
 .have d:jl c b a place=iN c b a place:=by simp[jl,f]
  rw[d];have i:(b !=59)=true:=by simp at f⊢;exact f
  have g:=Y λw=>LY p n c b a place l m o q s w;clear d;cases h:iN c b a place with
  |none=>
   rw[h]at g;clear h;go_enter func183,ntmps183;go_wp2_with(go_at_call 182;go_call(g.u _)as e j ⟨rfl,rfl⟩;simp only[eM,jk,Option.map_none,Option.getD_none,Option.isSome_none]);exact bodyPost_ret (v:=eM none) (by simp[results,Tryz.results183,go_sem,eM,jk]) rfl ⟨rfl,by repeat(first|exact Below.refl _ _|refine Below.alloc ?_ (by simp<;>omega) _)⟩
  |some r=>
   rw[h]at g;clear h;go_enter func183,ntmps183;go_wp2_with(go_at_call 182;go_call(g.u _)as e j ⟨rfl,rfl⟩;simp only[eM,jk,FR,AK,Option.isSome_some]);exact bodyPost_ret (v:=eM (some r)) (by simp[results,Tryz.results183,go_sem,eM,jk]) rfl ⟨rfl,by repeat(first|exact Below.refl _ _|refine Below.alloc ?_ (by simp<;>omega) _)⟩
 have i:(b !=59)=false:=by simp at f⊢;exact f
 cases k:eX c
 .have d:jl c b a place=none:=by simp[jl,f,k]
  rw[d];clear d;go_enter func183,ntmps183;go_wp2_with(go_at_call 215;go_call(yP _ _)as e j ⟨rfl,rfl⟩);exact bodyPost_ret (v:=eM none) (by simp[results,Tryz.results183,go_sem,eM,jk]) rfl ⟨rfl,by repeat(first|exact Below.refl _ _|refine Below.alloc ?_ (by simp<;>omega) _)⟩
 have d:jl c b a place=some ⟨7,[],c⟩:=by simp[jl,f,k]
 rw[d];clear d;go_enter func183,ntmps183;go_wp2_with(go_at_call 215;go_call(yP _ _)as e j ⟨rfl,rfl⟩);exact bodyPost_ret (v:=eM (some ⟨7,[],c⟩)) (by simp[results,Tryz.results183,go_sem,eM,jk]) rfl ⟨rfl,by repeat(first|exact Below.refl _ _|refine Below.alloc ?_ (by simp<;>omega) _)⟩
structure Gl(w:World):Prop where
 names:∀i,w.cell? ⟨1,i,none⟩=(fG.map λp=>Value.string ⟨p.1.toArray⟩)[i]?
 named:∀i,w.cell? ⟨2,i,none⟩=(fG.map λp=>Value.int .i64 p.2)[i]?
def Gl.below{w' :World}(h:Gl w)(b:2<w.heap.size)(a:Below w.heap.size w w'):Gl w' :=
 ⟨λi=>(a.cell (p:=⟨1,i,none⟩)<|by show 1<_;omega).trans (h.names i),λi=>(a.cell (p:=⟨2,i,none⟩) b).trans (h.named i)⟩
def Wl(a:U)(k:Nat)(b:k<5):∃x c,(fG.map λp=>Value.string ⟨p.1.toArray⟩)[k]?=some (.string ⟨x.toArray⟩)/\(fG.map λp=>Value.int .i64 p.2)[k]?=some (.int .i64 c)/\x.length<=5/\
 jI a (fG.drop k)=if x=a then some ⟨7,[],c⟩else if a.isPrefixOf x then some ⟨2,a,0⟩else jI a (fG.drop (k+1)):=by
 match k,b with
 |0,_=>exact⟨_,_,rfl,rfl,by decide,rfl⟩
 |1,_=>exact⟨_,_,rfl,rfl,by decide,rfl⟩
 |2,_=>exact⟨_,_,rfl,rfl,by decide,rfl⟩
 |3,_=>exact⟨_,_,rfl,rfl,by decide,rfl⟩
 |4,_=>exact⟨_,_,rfl,rfl,by decide,rfl⟩
def Gh(b:Int)(c:0<=b)(d:b<=255)(g:Nat)(W:World)(h:W.cell? ⟨g,0,none⟩=some (.int .u8 b)):
 (convert 74 9 (.slice (some ⟨g,0,none⟩) 1 1)).run prog W=.ok (.string ⟨[Mk.u8 b].toArray⟩) W:=by
 refine tJ W _ _ _ _ _ [Mk.u8 b] underlying74 underlying5 underlying9 λj a=>?_;have:j=0:=by simpa using a
 subst this;have e:((Mk.u8 b).toNat:Int)=b:=by
  rw[Mk.u8,CZ];omega
 simpa[Addr.add,e]using h
def Wm(p:Int)(n:U)(c b:Int)(N:0<=b)(O:b<=255)(hn:n.length<=20)(w:World)(P:Gl w)(hs:2<w.heap.size):
 Calls prog 181 #[.agg #[.int .i64 p,.string ⟨n.toArray⟩,.int .i64 c],.int .u8 b] w λe w' =>e=.returned (eM (pP n b))/\Below w.heap.size w w' :=by
 obtain⟨y,z⟩:=P;have Q:1<w.heap.size:=by omega
 have R:∀g h l j,(((w.alloc g).alloc h).alloc l).cell? ⟨1,j,none⟩=w.cell? ⟨1,j,none⟩:=λg h l j=>by
  simp only[World.cell?];rw[dG _ _ _<|by simp<;>omega,dG _ _ _<|by simp<;>omega,dG _ _ _<|by omega]
 have S:∀g h l j,(((w.alloc g).alloc h).alloc l).cell? ⟨2,j,none⟩=w.cell? ⟨2,j,none⟩:=λg h l j=>by
  simp only[World.cell?];rw[dG _ _ _<|by simp<;>omega,dG _ _ _<|by simp<;>omega,dG _ _ _<|by omega]
 have G:0<w.heap.size:=by omega
 have H:1<w.heap.size:=by omega
 obtain⟨r,o⟩:=akb (pP n b);rw[o];obtain⟨d,a⟩:=akb (n++[Mk.u8 b]);have I:(⟨n.toArray⟩:ByteArray)++(⟨#[Mk.u8 b]⟩:ByteArray)=⟨d.toArray⟩:=by
  rw[<-a];apply rF;simp
 have T:d.length<=21:=by rw[<-a];simp;omega
 rw[pP,a]at o;have A:=Y o;clear o a;have B:=Gh b N O (w.heap.size+1+1) (((w.alloc (.cells #[.int .i64 p,.string ⟨n.toArray⟩,.int .i64 c] 89)).alloc (.cells #[.int .i64 0,.string ⟨#[]⟩,.int .i64 0] 89)).alloc (.cells #[.int .u8 b] 5)) (by simp[go_sem]);go_enter func181,ntmps181;go_wp2;go_loop [7] (λi=>∃k:Nat,k<=5/\i=.int .i64 k/\Hid (r=jI d (fG.drop k))) λi=>5 - (intOf i).toNat
 case atStart=>exact⟨0,by omega,rfl,A.u.symm⟩
 case round=>
  obtain⟨k,hk,rfl,q⟩:=hrel;by_cases C:k<5
  .obtain⟨x,W,K,L,q3,D⟩:=Wl d k C;have X:=y k;have c2:=z k;rw[K]at X;rw[L]at c2;rw[<-q.u]at D;have E:=Y D;have s:=Y λw=>Dl x d (by omega) (by omega) w;clear K L D B y z A q;cases F:(x==d)
   .cases t:d.isPrefixOf x
    .rw[t]at s;go_wp2_with(go_at_call 214;go_call(s.u _)as e w' ⟨rfl,rfl⟩);go_round
     case rel=>exact⟨k+1,by omega,by go_num,by have:=E.u;rwa[M<|by simpa using F,M<|by simp[t]]at this⟩
     case measure=>simp[intOf];omega
    rw[t]at s;go_wp2_with(go_at_call 214;go_call(s.u _)as e w' ⟨rfl,rfl⟩);have f:=E.u;rw[M<|by simpa using F,J t]at f;subst f;exact bodyPost_ret (v:=eM (some ⟨2,d,0⟩)) (by simp[results,Tryz.results181,go_sem,eM,jk]) rfl ⟨rfl,by repeat(first|exact Below.refl _ _|refine Below.alloc ?_ (by simp<;>omega) _)⟩
   go_wp2;have f:=E.u;rw[J<|by simpa using F]at f;subst f;exact bodyPost_ret (v:=eM (some ⟨7,[],W⟩)) (by simp[results,Tryz.results181,go_sem,eM,jk]) rfl ⟨rfl,by repeat(first|exact Below.refl _ _|refine Below.alloc ?_ (by simp<;>omega) _)⟩
  have m:k=5:=by omega
  have f:r=none:=by have:=q.u;rwa[m]at this
  subst f;clear q A y z m;go_wp2;exact bodyPost_ret (v:=eM none) (by simp[results,Tryz.results181,go_sem,eM,jk]) rfl ⟨rfl,by repeat(first|exact Below.refl _ _|refine Below.alloc ?_ (by simp<;>omega) _)⟩
def Dn{W a:World}(c:Below W.heap.size W a):(∀b o,b<W.heap.size->a.cell? ⟨b,o,none⟩=W.cell? ⟨b,o,none⟩)/\(∀b o,b<W.heap.size->a.frozen? ⟨b,o,none⟩=W.frozen? ⟨b,o,none⟩):=
 ⟨λb o h=>c.cell (p:=⟨b,o,none⟩) h,λb o h=>c.frozen (p:=⟨b,o,none⟩) h⟩
def Wn(p:Int)(n:U)(c b:Int)(z:0<=b)(A:b<=255)(F:n.length<=20)(C:0<=c)(D:c<=1114111)(w:World)(E:Gl w)(G:2<w.heap.size):
 Calls prog 129 #[.agg #[.int .i64 p,.string ⟨n.toArray⟩,.int .i64 c],.int .u8 b] w λe w' =>e=.returned (eM (dJ ⟨p,n,c⟩ b))/\Below w.heap.size w w' :=by
 have l:Below w.heap.size w ((w.alloc (.cells #[.int .i64 p,.string ⟨n.toArray⟩,.int .i64 c] 89)).alloc (.cells #[.int .i64 0,.string ⟨#[]⟩,.int .i64 0] 89)):=((Below.refl _ _).alloc (a_ _) _).alloc (by simp) _;have k:=Y l;have y:=Y (Wm p n c b z A F _ (E.below G l)<|by simp<;>omega);have j:=Y λg place d w=>LY p n c b g place z A C D d w;have h:=Y λg place d w=>Wk p n c b g place z A C D d w;clear E l;by_cases f:p=1
 .subst f;cases t:(b==35)
  .have a:dJ ⟨1,n,c⟩ b=pP n b:=by simp[dJ,t]
   rw[a];clear a j h;generalize pP n b=o at *;go_enter func129,ntmps129;go_wp2_with(go_at_call 181;go_call y.u as e x ⟨rfl,d⟩;have m:=Y d;obtain⟨q,B⟩:=Dn d;have i:=d.size;simp at i;clear d;simp only[eM,jk]);exact bodyPost_ret (v:=eM o) (by simp[results,Tryz.results129,go_sem,eM,jk,q,i]) rfl ⟨rfl,(((k.u.trans (m.u.mono<|by simp<;>omega)).setCell (by simp) _).setCell (by simp) _).setCell (by simp) _⟩
  have a:dJ ⟨1,n,c⟩ b=some ⟨3,[],0⟩:=by simp[dJ,t]
  rw[a];clear a j h y;go_enter func129,ntmps129;go_wp2;exact bodyPost_ret (v:=eM (some ⟨3,[],0⟩)) (by simp[results,Tryz.results129,go_sem,eM,jk]) rfl ⟨rfl,by repeat(first|exact Below.refl _ _|refine Below.alloc ?_ (by simp<;>omega) _)⟩
 have H:=aj7 f;clear f;by_cases f:p=2
 .subst f
  .have a:dJ ⟨2,n,c⟩ b=pP n b:=by simp[dJ]
   rw[a];clear a j h;generalize pP n b=o at *;go_enter func129,ntmps129;go_wp2_with(go_at_call 181;go_call y.u as e x ⟨rfl,d⟩;have m:=Y d;obtain⟨q,B⟩:=Dn d;have i:=d.size;simp at i;clear d;simp only[eM,jk]);exact bodyPost_ret (v:=eM o) (by simp[results,Tryz.results129,go_sem,eM,jk,q,i]) rfl ⟨rfl,(((k.u.trans (m.u.mono<|by simp<;>omega)).setCell (by simp) _).setCell (by simp) _).setCell (by simp) _⟩
 have I:=aj7 f;clear f y;by_cases f:p=3
 .subst f;cases t:(b==120)
  .have a:dJ ⟨3,n,c⟩ b=iN c b 10 5:=by simp[dJ,t]
   rw[a];have r:=Y λw=>j.u 10 5 (.inl rfl) w;clear a j h;generalize iN c b 10 5=o at *;go_enter func129,ntmps129;go_wp2_with(go_at_call 182;go_call(r.u _)as e x ⟨rfl,rfl⟩;simp only[eM,jk]);exact bodyPost_ret (v:=eM o) (by simp[results,Tryz.results129,go_sem,eM,jk]) rfl ⟨rfl,by repeat(first|exact Below.refl _ _|refine Below.alloc ?_ (by simp<;>omega) _)⟩
  have a:dJ ⟨3,n,c⟩ b=some ⟨4,[],0⟩:=by simp[dJ,t]
  rw[a];clear a j h;go_enter func129,ntmps129;go_wp2;exact bodyPost_ret (v:=eM (some ⟨4,[],0⟩)) (by simp[results,Tryz.results129,go_sem,eM,jk]) rfl ⟨rfl,by repeat(first|exact Below.refl _ _|refine Below.alloc ?_ (by simp<;>omega) _)⟩
 have K:=aj7 f;clear f;by_cases f:p=5
 .subst f
  .have a:dJ ⟨5,n,c⟩ b=jl c b 10 5:=by simp[dJ]
   rw[a];have s:=Y λw=>h.u 10 5 (.inl rfl) w;clear a j h;generalize jl c b 10 5=o at *;go_enter func129,ntmps129;go_wp2_with(go_at_call 183;go_call(s.u _)as e x ⟨rfl,d⟩;have m:=Y d;obtain⟨q,B⟩:=Dn d;have i:=d.size;simp at i;clear d;simp only[eM,jk]);exact bodyPost_ret (v:=eM o) (by simp[results,Tryz.results129,go_sem,eM,jk,q,i]) rfl ⟨rfl,(((k.u.trans (m.u.mono<|by simp<;>omega)).setCell (by simp) _).setCell (by simp) _).setCell (by simp) _⟩
 have L:=aj7 f;clear f;by_cases f:p=4
 .subst f
  .have a:dJ ⟨4,n,c⟩ b=iN c b 16 6:=by simp[dJ]
   rw[a];have r:=Y λw=>j.u 16 6 (.inr rfl) w;clear a j h;generalize iN c b 16 6=o at *;go_enter func129,ntmps129;go_wp2_with(go_at_call 182;go_call(r.u _)as e x ⟨rfl,rfl⟩;simp only[eM,jk]);exact bodyPost_ret (v:=eM o) (by simp[results,Tryz.results129,go_sem,eM,jk]) rfl ⟨rfl,by repeat(first|exact Below.refl _ _|refine Below.alloc ?_ (by simp<;>omega) _)⟩
 have N:=aj7 f;clear f j;by_cases f:p=6
 .subst f
  .have a:dJ ⟨6,n,c⟩ b=jl c b 16 6:=by simp[dJ]
   rw[a];have s:=Y λw=>h.u 16 6 (.inr rfl) w;clear a h;generalize jl c b 16 6=o at *;go_enter func129,ntmps129;go_wp2_with(go_at_call 183;go_call(s.u _)as e x ⟨rfl,d⟩;have m:=Y d;obtain⟨q,B⟩:=Dn d;have i:=d.size;simp at i;clear d;simp only[eM,jk]);exact bodyPost_ret (v:=eM o) (by simp[results,Tryz.results129,go_sem,eM,jk,q,i]) rfl ⟨rfl,(((k.u.trans (m.u.mono<|by simp<;>omega)).setCell (by simp) _).setCell (by simp) _).setCell (by simp) _⟩
 have O:=aj7 f;clear f h;have a:dJ ⟨p,n,c⟩ b=none:=by simp[dJ,H,I,K,N,L,O]
 rw[a];clear a;go_enter func129,ntmps129;go_wp2;exact bodyPost_ret (v:=eM none) (by simp[results,Tryz.results129,go_sem,eM,jk]) rfl ⟨rfl,by repeat(first|exact Below.refl _ _|refine Below.alloc ?_ (by simp<;>omega) _)⟩
