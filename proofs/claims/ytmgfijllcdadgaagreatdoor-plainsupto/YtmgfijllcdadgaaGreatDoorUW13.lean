import Derived.Test.YtmgfijllcdadgaaGreatDoorUW11
set_option linter.all false
set_option maxHeartbeats 8000000
set_option maxRecDepth 100000
namespace Go.Proofs.YtmgfijllcdadgaaGreatDoor
open Go.RowKit
open Go.Proofs.Tryz
open Mk
variable {s:Z}{w:World}{b:Nat}{L:Lay}
structure Sl(s:Z):Prop where
 l:s.C.length+500<=700000000
 b:s.m.length+40<=290000000
 c:s.T.length+1<=100000000
def Gy(h:Bd s)(hl:s.C.length+200<=700000000):Bd (bX s)/\(bX s).I=s.I/\(bX s).B=s.B/\(bX s).C.length<=s.C.length+66:=by
 have d:=Gs (dZ s) s;have j:=Dv h.cb;have f:=Gr (gK s) ⟨1,s.B,Mk.bQ s s.B,[],s.f⟩;have g:(bX s).C=(aX (gK s) ⟨1,s.B,Mk.bQ s s.B,[],s.f⟩).C:=rfl;have i:(bX s).F=(aX (gK s) ⟨1,s.B,Mk.bQ s s.B,[],s.f⟩).F:=rfl;rw[<-g,<-i]at f;have k:(gK s).C.length<=s.C.length+64:=by show(Mk.gJ s (dZ s)).C.length<=_;omega
 have l:(gK s).F.length<=s.F.length:=d.1;have e:=oW s;have m:=h.hx;refine⟨?_,by rw[e],by rw[e],by omega⟩;have b:(bX s).C.length<=700000000:=by omega
 have c:(bX s).F.length<=100000000:=by omega
 rw[e]at b c⊢;exact{h with hx:=c,hl:=b,ha:=(by simp),an:=λa ha=>by cases ha}
def Xa(h:Bd s)(f:Sl s){l:List aI}(j:(dY s).2=some l):Bd {(dY s).1 with f:=l}/\(dY s).1.C=s.C/\(dY s).1.B=s.B/\(dY s).1.am=false:=by
 obtain⟨k,m⟩:=Gq j;obtain⟨g,d⟩:=Bb s;have n:=Dt s.f s.m 0;have i:=Du _ 100000000 s.f [] l m;have o:=h.ha;rw[k];have hb:(cG s).1.m.length<=290000000:=by rw[g];dsimp only;have:=f.b;omega
 have hc:(cG s).1.T.length<=100000000:=by
  obtain d|d:=d
  .rw[d];exact h.hc
  rw[d];have:=f.c;simp;omega
 have e:∀c∈(cG s).1.T,c<=32:=by
  obtain d|d:=d
  .rw[d];exact h.cb
  rw[d];intro c hc;obtain hc|hc:=List.mem_append.1 hc
  .exact h.cb c hc
  simp at hc;subst hc;omega
 rw[g]at hb hc e⊢;dsimp only at hb hc e;refine⟨{h with ha:=?_,an:=?_,hb:=hb,hc:=hc,cb:=e},rfl,rfl,h.am⟩
 .have:=i.1;simp at this;show l.length<=32;omega
 exact i.2 (λa ha=>by cases ha) h.an
def Xb(h:bC w b s L)(g:Bd s)(i:(dY s).2=none):
 Calls prog 233 #[.pointer (some ⟨b,7,none⟩),.string ⟨s.B.toArray⟩,.slice L.aa s.f.length L.ac] w λe w' =>e=.returned (.tuple #[.slice none 0 0,.bool false])/\∃d,Mv w b (aY s L) w' (dY s).1 d:=by
 go_call(Mh h g)as e w' ⟨d,j,-,-,⟨-,rfl⟩|⟨l,a,c,B,f,-⟩⟩
 .exact⟨rfl,d,j⟩
 rw[i]at f;cases f
def Xc(h:bC w b s L)(p:Bd s)(l:List aI)(n:(dY s).2=some l)(g:(dY s).1.am=false):
 Calls prog 233 #[.pointer (some ⟨b,7,none⟩),.string ⟨s.B.toArray⟩,.slice L.aa s.f.length L.ac] w λe w' =>∃a c,e=.returned (.tuple #[.slice a l.length c,.bool true])/\∃f,Mv w b (aY s L) w' (dY s).1 f/\Mv w b (aY s L) (w'.setCell ⟨b,13,none⟩ (.slice a l.length c)) {(dY s).1 with f:=l} {f with aa:=a,ac:=c}:=by
 go_call(Mh h p)as e w' ⟨f,o,-,-,⟨d,-⟩|⟨q,a,c,B,d,rfl,i,j,k,m⟩⟩
 .rw[n]at d;cases d
 rw[n]at d;cases d;exact⟨a,c,rfl,f,o,o.WC g l a c B i j k m⟩
def Xf(h:bC w b s L)(G:Bd s)(H:Sl s)(x:Int):
 Calls prog 225 #[.pointer (some ⟨b,0,none⟩),.int .u8 x] w (Does w b s L (ia s x)):=by
 obtain⟨i0,hi,a1,a2,a3⟩:=lg Gu;obtain⟨C,hf,ae⟩:=h.zzv;have HM:=Y h.start;cases t:s.on
 .have j:ia s x=(gL s x,0):=by rw[ia,t];rfl
  rw[j];have v:=Y (Gv h G);have I:=Gy G (by have:=H.l;omega);rw[cellsOf,t]at C;clear h j G;cases e1:(x==47)
  .have o:gL s x=iy {bX s with I:=s.I++[s.B],B:=[]}:=by simp[gL,e1]
   rw[o];clear o;go_enter func225,ntmps225;go_wp2_with fail;go_call v.u as e D ⟨rfl,F,k⟩;obtain⟨y,z,A,-⟩:=I;clear v HM C hf;generalize bX s=d at *;have K:=Y z;have N:=Y A;clear z A;obtain⟨C,hf,B⟩:=k.X.zzv;have ho:=y.ho;have i:=(k.alloc (.cells #[.string ⟨d.B.toArray⟩] 9)).drew;have HO:=Y (i.X.rows.own (eH d F)<|by simp[rowsOf]);have HB:=Y (show(D.alloc (.cells #[.string ⟨d.B.toArray⟩] 9)).drew.heap[D.heap.size]?=_ from dI D _);have O:=Y (show d.I.length+1<=maxLen by unfold maxLen;omega);have P:=Y (show b - 1<=(D.alloc (.cells #[.string ⟨d.B.toArray⟩] 9)).drew.heap.size by simp;omega);have m:=Y i;unfold cellsOf at C;clear k i y;go_wp2;go_region_law (refine tC _ rfl (.tmp 44) (.tmp 49) 34 rfl (b - 1) 9 i0 _ 1 16 underlying34 hi a1 a2 a3 rfl (by decide) (.slice F.oa d.I.length F.oc) d.I.length (d.I.map sv) (by simp[Act.eval]) HO.u ⟨D.heap.size,0,none⟩ 1 1 [.string ⟨d.B.toArray⟩] (by simp[Act.eval]) rfl (jT HB.u) (by intro u hu;simp at hu;subst hu;rfl) (by decide) O.u (by omega) P.u (D.heap.size+1) (by simp) ?_;intro g a8 w2 hown hgrow Q a4;obtain⟨o,a9⟩:=tL (m.u.X.grown (r:=eH d F) hgrow<|by simp[rowsOf]);unfold cellsOf at o);all_goals
    have f:=(m.u.MC d.B hown hgrow<|by simpa using Q).store 11 (.string ⟨#[]⟩) {d with I:=d.I++[d.B],B:=[]} rfl rfl rfl;have H3:=Y (A_ f.X);have R:=Y f;clear f m hown hgrow;go_wp2_with(go_at_call 189;go_call H3.u as e w5 ⟨rfl,f⟩;have S:=Y f;clear f);go_ret;rw[<-K.u,<-N.u];exact⟨rfl,_,R.u.call S.u⟩
  have o:gL s x={s with H:=19}:=by simp[gL,e1]
  rw[o];clear o v;go_enter func225,ntmps225;go_wp2;go_ret;exact⟨rfl,L,HM.u.store 4 _ _ rfl rfl rfl⟩
 have HH:=Y h;have q:=Y G;have T:=Y λl (he:(dY s).2=some l)=>Xa G H he;have af:=H.l;cases p:(dY s).2 with
 |none=>
  have j:ia s x=((dY s).1,8):=by rw[ia,t,p];rfl
  rw[j];have W:=Y λn=>Xb (HH.u.drewN n) q.u p;rw[cellsOf,t]at C;clear h j G p T HH q;go_enter func225,ntmps225;go_wp2_with fail;go_region_with (go_at_call 233;go_call(W.u _)as e D ⟨rfl,F,k⟩);all_goals
   have aa:=Y ((HM.u.drewN _).call k);clear k W;go_wp2;go_ret;exact⟨rfl,F,aa.u⟩
 |some l=>
  have j:ia s x=(gL {(dY s).1 with f:=l} x,0):=by rw[ia,t,p];rfl
  rw[j];obtain⟨X,a5,ab,a6⟩:=T.u l p;have W:=Y λn=>Xc (HH.u.drewN n) q.u l p a6;have I:=Gy X (by show(dY s).1.C.length+200<=_;rw[a5];omega);have ad:=Y X;rw[cellsOf,t]at C;clear h j G p T a5 ab X a6 HH q;cases e1:(x==47)
  .have o:gL {(dY s).1 with f:=l} x=iy {bX {(dY s).1 with f:=l}with I:=(dY s).1.I++[(dY s).1.B],B:=[]}:=by simp[gL,e1]
   rw[o];clear o;go_enter func225,ntmps225;go_wp2_with fail;go_region_with (go_at_call 233;go_call(W.u _)as e D ⟨a,c,rfl,F,k,i⟩);all_goals
    obtain⟨E,a7,B⟩:=k.X.zzv;have v:=Y (Gv i.X ad.u);have m:=Y ((HM.u.drewN _).call i);unfold cellsOf at E;clear k i W C hf;go_wp2_with fail;go_call v.u as e w3 ⟨rfl,L3,f⟩;have f:=m.u.call f;obtain⟨y,z,A,-⟩:=I;clear v HM E a7 m;generalize bX {(dY s).1 with f:=l}=d at *;have K:=Y (show d.I=(dY s).1.I from z);have N:=Y (show d.B=(dY s).1.B from A);clear z A;obtain⟨C,hf,B⟩:=f.X.zzv;have ho:=y.ho;have i:=(f.alloc (.cells #[.string ⟨d.B.toArray⟩] 9)).drew;have HO:=Y (i.X.rows.own (eH d L3)<|by simp[rowsOf]);have HB:=Y (show(w3.alloc (.cells #[.string ⟨d.B.toArray⟩] 9)).drew.heap[w3.heap.size]?=_ from dI w3 _);have O:=Y (show d.I.length+1<=maxLen by unfold maxLen;omega);have P:=Y (show b - 1<=(w3.alloc (.cells #[.string ⟨d.B.toArray⟩] 9)).drew.heap.size by simp;omega);have m:=Y i;unfold cellsOf at C;clear f i y;go_wp2;go_region_law (refine tC _ rfl (.tmp 44) (.tmp 49) 34 rfl (b - 1) 9 i0 _ 1 16 underlying34 hi a1 a2 a3 rfl (by decide) (.slice L3.oa d.I.length L3.oc) d.I.length (d.I.map sv) (by simp[Act.eval]) HO.u ⟨w3.heap.size,0,none⟩ 1 1 [.string ⟨d.B.toArray⟩] (by simp[Act.eval]) rfl (jT HB.u) (by intro u hu;simp at hu;subst hu;rfl) (by decide) O.u (by omega) P.u (w3.heap.size+1) (by simp) ?_;intro g a8 w2 hown hgrow Q a4;obtain⟨o,a9⟩:=tL (m.u.X.grown (r:=eH d L3) hgrow<|by simp[rowsOf]);unfold cellsOf at o);all_goals
     have a0:=(m.u.MC d.B hown hgrow<|by simpa using Q).store 11 (.string ⟨#[]⟩) {d with I:=d.I++[d.B],B:=[]} rfl rfl rfl;have H3:=Y (A_ a0.X);have R:=Y a0;clear a0 m hown hgrow;go_wp2_with(go_at_call 189;go_call H3.u as e w5 ⟨rfl,f⟩;have S:=Y f;clear f);go_ret;rw[<-K.u,<-N.u];exact⟨rfl,_,R.u.call S.u⟩
  have o:gL {(dY s).1 with f:=l} x={(dY s).1 with f:=l,H:=19}:=by simp[gL,e1]
  rw[o];clear o;go_enter func225,ntmps225;go_wp2_with fail;go_region_with (go_at_call 233;go_call(W.u _)as e D ⟨a,c,rfl,F,k,i⟩);all_goals
   obtain⟨E,a7,B⟩:=k.X.zzv;have m:=Y ((HM.u.drewN _).call i);unfold cellsOf at E;clear k i W C hf;go_wp2;go_ret;exact⟨rfl,_,m.u.store 4 _ {(dY s).1 with f:=l,H:=19} rfl rfl rfl⟩
def Gz(h:bC w b s L)(j:Bd s)(f:Sl s)(x:Int):
 Calls prog 202 #[.pointer (some ⟨b,0,none⟩),.int .u8 x] w (Does w b s L (dR s x)):=by
 obtain⟨n,r,o⟩:=h.zzv;have k:=Y h;have g:=Y (Xf h j f x);unfold cellsOf at n;clear h j;cases d:Mk.bJ x;focus
  cases i:(x==47);focus
   cases l:(x==62)
   .have a:dR s x=(s,3):=by simp[dR,d,i,l]
    rw[a];clear a g;go_enter func202,ntmps202;go_wp2_with(go_at_call 132;go_call(qp _ _)as e m ⟨rfl,rfl⟩);go_ret;exact⟨rfl,L,k.u.start⟩
   have a:dR s x=ia s x:=by simp[dR,d,i,l]
   rw[a];clear a;generalize ia s x=z at *
  rotate_left;focus
   have a:dR s x=ia s x:=by simp[dR,d,i]
   rw[a];clear a;generalize ia s x=z at *
 rotate_left 2
 .have a:dR s x=({s with H:=13},0):=by simp[dR,d]
  rw[a];clear a g;go_enter func202,ntmps202;go_wp2_with(go_at_call 132;go_call(qp _ _)as e m ⟨rfl,rfl⟩);go_ret;exact⟨rfl,L,k.u.start.store 4 _ _ rfl rfl rfl⟩
 all_goals
  go_enter func202,ntmps202;go_wp2_with(first|(go_at_call 132;go_call(qp _ _)as e m ⟨rfl,rfl⟩)|(go_at_call 225;go_call g.u as e w2 ⟨rfl,p,c⟩;have q:=Y c;clear c));go_ret;exact⟨rfl,p,q.u⟩
def Xg(h:bC w b s L)(j:Bd s):
 Calls prog 138 #[.pointer (some ⟨b,0,none⟩)] w λe w' =>e=.returned (.tuple #[])/\∃A,Mv w b (aY s L) w' (Mk.yA s) A:=by
 have x:=Y (yU h);have K:=Y h;have HA:=Y j.am;have N:=j.ha;obtain⟨B,C,k,l,m⟩:=lg infoAt;clear h j;go_enter func138,ntmps138;go_wp2_with fail;go_call x.u as e f ⟨rfl,a,c⟩;obtain⟨D,O,y⟩:=c.X.zzv;have d:=(c.alloc (.cells #[.string ⟨s.attr.toArray⟩,.string ⟨#[]⟩,.string ⟨s.i.toArray⟩] 69)).drew;have hrow:=d.X.rows.own (eC (bH s) a) (by simp[rowsOf]);have n:eC (bH s) a=⟨69,3,.slice a.aa s.f.length a.ac,s.f.length,cQ s.f⟩:=by simp[eC,bH,HA.u]
 rw[n]at hrow;have E:=Y hrow;have F:=Y (show(f.alloc (.cells #[.string ⟨s.attr.toArray⟩,.string ⟨#[]⟩,.string ⟨s.i.toArray⟩] 69)).drew.heap[f.heap.size]?=_ from dI f _);have o:=Y (show s.f.length+1<=maxLen by unfold maxLen;omega);have p:=Y (show b - 1<=(f.alloc (.cells #[.string ⟨s.attr.toArray⟩,.string ⟨#[]⟩,.string ⟨s.i.toArray⟩] 69)).drew.heap.size by simp;omega);have i:=Y d;have q:=Y n;unfold cellsOf at D;clear c d hrow x n;go_wp2;go_region_law (refine tC _ rfl (.tmp 9) (.tmp 16) 63 rfl (b - 1) 69 B _ 3 48 underlying63 C k l m rfl (by decide) (.slice a.aa s.f.length a.ac) s.f.length (cQ s.f) (by simp[Act.eval,bH]) E.u ⟨f.heap.size,0,none⟩ 1 1 (gG ⟨s.attr,[],s.i⟩) (by simp[Act.eval]) rfl (jT F.u) (WY _) (by decide) o.u (by omega) p.u (f.heap.size+1) (by simp) ?_;intro g G w2 hown hgrow t z;obtain⟨H,I⟩:=tL (i.u.X.grown (r:=eC (bH s) a) (by rwa[q.u]) (by simp[rowsOf]));unfold cellsOf at H);all_goals
  have v:=Y (((i.u.WX (⟨s.attr,[],s.i⟩:aI) HA.u hown hgrow<|by simpa[bH]using t).store 12 (.string ⟨#[]⟩) {bH s with f:=s.f++[(⟨s.attr,[],s.i⟩:aI)],attr:=[]} rfl rfl rfl).store 4 (.int .i64 18) {bH s with f:=s.f++[(⟨s.attr,[],s.i⟩:aI)],attr:=[],H:=18} rfl rfl rfl);clear hown hgrow;go_wp2;go_end0
  exact⟨rfl,_,v.u⟩
