import Derived.Test.YtmgfijllcdadgaaGreatDoorUW28
import Derived.Test.YtmgfijllcdadgaaGreatDoorUW27
import Derived.Test.YtmgfijllcdadgaaGreatDoorUW24
import Derived.Deep.Slices
import Derived.Deep.Strs
set_option linter.all false
set_option maxHeartbeats 16000000
set_option maxRecDepth 100000
namespace Go.Proofs.YtmgfijllcdadgaaGreatDoor
open Go.ChangeShapes Go.WideShapes Go.ChangeAt Go.RowKit Go.Deep
open Go.Proofs.Tryz
namespace V
open Go.RowKit
open Go.ChangeShapes Go.WideShapes Go.ChangeAt Go.RowKit
open List
open Rf
open Mk hiding Rf
variable {v:Value}{e:TypeId}{H:Type}
section
variable {w0 w w' :World}{b:Nat}{s q q' :R}{L L' :bA}{f0:List Nat}
def bL.aaK(m:bL w0 b f0 w q L){B:List Nat}(d:∀k∈B,w0.heap.size<=k)(k:bL w b (B++cO q L) w' q' L'):bL w0 b f0 w' q' L' :=by
 refine⟨k.X,⟨k.fr.os.trans m.fr.os,k.fr.tape.trans m.fr.tape,k.fr.output.trans m.fr.output,cL m.fr.size k.fr.size,λj a e c=>?_,λj a=>?_⟩,?_⟩
 .refine(k.fr.block j (i_ a m.fr.size) e λh=>?_).trans (m.fr.block j a e c);obtain g|g:=mem_append.1 h
  .have:=d j g;omega
  obtain g|g:=m.fr.aY j g
  .exact c g
  omega
 .rcases k.fr.aY j a with g|g
  .rcases mem_append.1 g with g|g
   .exact .inr (d j g)
   exact m.fr.aY j g
  exact .inr (cL m.fr.size g)
 obtain⟨i,L0,l,n⟩:=m.gs;obtain⟨o,p,c,f⟩:=k.gs;rw[<-m.X.unique c]at f;exact⟨i,L0,l,n.trans f⟩
def gm.drewN{r:R}{v:Value}{l:List aI}(h:gm w0 w b r L v l)(n:Nat):gm w0 (w.drewN n) b r L v l:=⟨vP h.row n,h.nf⟩
def gm.yO{r:R}{l:List aI}(h:gm w0 w b r L v l){a:Addr}(c:v.ownBlock≠some a.block)(u:Value):gm w0 (w.setCell a u) b r L v l:=
 ⟨mo (r:=⟨69,3,v,l.length,cQ l⟩) h.row λk d=>kR _ _ _ _ λe=>c (e▸d),h.nf⟩
def Ov(s:R)(a:aI)(l:List aI)(q:R)(told:List aI):jW s (a::l) q told=if s.on&&(k_ a.B).2 then jW s l (gS q ⟨6,(k_ a.B).1,[],a.val,[]⟩) told else jW s l q (told++[⟨a.B,if s.on then Rf.bQ s.P (iz a.B).1 else[],a.val⟩]):=by
 rw[jW]
def aaL(h:bD w b s L)(d:U)(c:List aI)(v:Value)(F:(c,v)∈L.gs)(ae:d.length<=100000000)(Q:∀t∈s.P,Sh t)(hev:s.y.length+c.length<=900000000):
 Calls prog 112 #[.pointer (some ⟨b,0,none⟩),.string ⟨d.toArray⟩,v] w λe w' =>e=.returned (.tuple #[])/\∃L', bL w b (cO s L) w' (Aq s d c) L' :=by
 obtain⟨i0,hi,X,a0,a2⟩:=lg infoAt;have hrow:w.ownsRow (b+1) 69 3 v c.length (cQ c):=h.D_ F;have av:=sF hrow;have a3:Sh c:=Q _ (h.Oo F);have z:=h.lt;obtain⟨a1,c1,rfl⟩:=iE hrow;obtain⟨af,A⟩:=aj8 (Aq s d c);rw[<-A];have ag:=Y A;have HH:=Y h;have HI:=Y F;have a4:=Y Q;have aw:c.length<=900000000:=by omega
 generalize a5:s.on=on at *;clear hrow h F A Q;go_enter func112,ntmps112;go_wp2_with fail;go_loopg [6,7] c.length λg s6 s7 wx=>∃(k:Nat) (q:R) (W:bA) (told:List aI),k<=c.length/\g=c.length - k/\s7=.int .i64 (k:Int)/\told.length<=k/\Hid (jW s c s []=jW s (c.drop k) q told)/\Hid (Tk s q k)/\Hid (bL w b (cO s L) wx q W)/\Hid (gm w wx b q W s6 told);case atStart=>exact⟨0,s,L,[],by omega,rfl,rfl,a_ _,Y rfl,Y (Tk.refl s),Y HH.u.start,Y (gm.nil _ _ _ _ _)⟩
 case round=>
  obtain⟨k,q,W,told,hk,rfl,rfl,ax,HK,j,m,l⟩:=hrel;have ah:=m.u.xq HH.u j.u.P;have ai:q.on=on:=j.u.on.trans a5;have ay:=j.u.ev;have a6:=m.u.X.cell;have aj:=m.u.X.frozen;rw[aR,ai]at a6;obtain⟨ta,tc,rfl⟩:=iE l.u.row;have a7:b<wr.heap.size:=m.u.X.lt;have az:∀o i,(wr.alloc o).cell? ⟨b,i,none⟩=wr.cell? ⟨b,i,none⟩:=λo i=>by simp only[World.cell?];rw[dG _ _ _ a7]
  have b0:∀n i,(wr.drewN n).cell? ⟨b,i,none⟩=wr.cell? ⟨b,i,none⟩:=λn i=>by simp only[World.cell?,heap_drewN]
  by_cases S:k<c.length
  .have e1:decide ((k:Int)<(c.length:Int))=true:=aj_;have hrow:=m.u.X.D_ (p:=(c,.slice a1 c.length c1)) (by rw[ah];exact HI.u);obtain⟨g1,d1,f1,b1,q1⟩:=sD gG (λ_=>rfl) (by decide) hrow rfl k S;simp only at f1;injection f1 with f1 _ ak;subst f1;subst ak;have al:=q1 0 (by decide);have am:=q1 2 (by decide);simp[gG]at al am;have hd:jW s (c.drop k) q told=jW s (c[k]::c.drop (k+1)) q told:=by rw[gB S]
   have r:=HK.u.trans hd;rw[Ov,a5]at r;have O:=a3 c[k] (iZ S);clear q1 HK hd hrow;generalize c[k]=x at *;have HD:=Y λw=>DW x.B O w;generalize k_ x.B=dd at *;obtain⟨pp,is⟩:=dd;have a8:=Y (show told.length+1<=maxLen by unfold maxLen;omega);have au:told.length<=900000000:=by omega
   cases on with
   |false=>
    have B:=Y (show jW s c s []=jW s (c.drop (k+1)) q (told++[⟨x.B,[],x.val⟩])from r);clear r;have G:=Y (m.u.alloc (.cells #[.string ⟨x.B.toArray⟩,.string ⟨#[]⟩,.string ⟨x.val.toArray⟩] 69));have H:=Y (l.u.below (Below.alloc (Below.refl _ _) (a_ _) (.cells #[.string ⟨x.B.toArray⟩,.string ⟨#[]⟩,.string ⟨x.val.toArray⟩] 69)));have HO:=Y (vP (World.ownsRow.alloc H.u.row (.cells #[.string ⟨x.B.toArray⟩,.string ⟨#[]⟩,.string ⟨x.val.toArray⟩] 69)) 1);have HB:=Y (show((wr.alloc (.cells #[.string ⟨x.B.toArray⟩,.string ⟨#[]⟩,.string ⟨x.val.toArray⟩] 69)).alloc (.cells #[.string ⟨x.B.toArray⟩,.string ⟨#[]⟩,.string ⟨x.val.toArray⟩] 69)).drew.heap[(wr.alloc (.cells #[.string ⟨x.B.toArray⟩,.string ⟨#[]⟩,.string ⟨x.val.toArray⟩] 69)).heap.size]?=_ from dI (wr.alloc (.cells #[.string ⟨x.B.toArray⟩,.string ⟨#[]⟩,.string ⟨x.val.toArray⟩] 69)) _);have C:=Y (show w.heap.size<=((wr.alloc (.cells #[.string ⟨x.B.toArray⟩,.string ⟨#[]⟩,.string ⟨x.val.toArray⟩] 69)).alloc (.cells #[.string ⟨x.B.toArray⟩,.string ⟨#[]⟩,.string ⟨x.val.toArray⟩] 69)).drew.heap.size from cL m.u.fr.size (by show wr.heap.size<=((wr.alloc (.cells #[.string ⟨x.B.toArray⟩,.string ⟨#[]⟩,.string ⟨x.val.toArray⟩] 69)).alloc (.cells #[.string ⟨x.B.toArray⟩,.string ⟨#[]⟩,.string ⟨x.val.toArray⟩] 69)).heap.size;simp;omega));go_wp2_with(go_at_call 162;go_call(HD.u _)as e w' ⟨rfl,P⟩;obtain rfl:=P.symm);go_region;go_wp2_with(at_builtin;refine lI _ rfl _ _ 63 rfl w.heap.size 69 i0 _ 3 48 underlying63 hi X a0 a2 rfl (by decide) (.slice ta told.length tc) told.length (cQ told) (by simp[Act.eval]) HO.u ⟨wr.heap.size+1,0,none⟩ 1 1 [.string ⟨x.B.toArray⟩,.string ⟨#[]⟩,.string ⟨x.val.toArray⟩] (by simp[Act.eval]) rfl (jT<|by have:=HB.u;simpa using this) (by intro u I;simp at I;(repeat' (obtain rfl|I:=I))<;>first|rfl|(subst I;rfl)) (by decide) a8.u (by omega) C.u (wr.heap.size+2) (by simp) ?_;intro g2 an w6 hown hgrow D a9;have E:=Y (H.u.push ⟨x.B,[],x.val⟩ z G.u hown (o:=(.cells #[.string ⟨x.B.toArray⟩,.string ⟨#[]⟩,.string ⟨x.val.toArray⟩] 69)) ⟨hgrow.os,hgrow.tape,hgrow.output,hgrow.size,hgrow.block⟩<|by simpa using D);clear hown hgrow D HO HB C);go_roundg (c.length - (k+1));case measure=>omega
    case rel=>exact⟨k+1,q,W,_,by omega,rfl,by go_num,by simp;omega,B,Y (j.u.mono<|by omega),Y E.u.1,Y E.u.2⟩
   |true=>
    cases is with
    |true=>
     have B:=Y (show jW s c s []=jW s (c.drop (k+1)) (gS q ⟨6,pp,[],x.val,[]⟩) told from r);have HT:=Y (vN m.u.X ⟨6,pp,[],x.val,[]⟩ none 0 0 (qo ⟨rfl,rfl,rfl⟩) (λk hk=>by cases hk) (by omega));clear r
     go_wp2_with(first
      |(go_at_call 162;go_call(HD.u _)as e w' ⟨rfl,P⟩;obtain rfl:=P.symm)
      |(go_at_call 152;go_call HT.u as e w3 ⟨rfl,L3,T⟩;have K:=Y (m.u.call T);have N:=Y (l.u.call z T);clear T))
     go_roundg (c.length - (k+1));case measure=>omega
     case rel=>exact⟨k+1,_,L3,told,by omega,rfl,by go_num,by omega,B,Y (j.u.tell _),K,N⟩
    |false=>
     have B:=Y (show jW s c s []=jW s (c.drop (k+1)) q (told++[⟨x.B,Rf.bQ s.P (iz x.B).1,x.val⟩])from r);have HP:=Y λw=>DV x.B O w;have aa:W.gs.map (·.1)=s.P:=by rw[m.u.X.p_,j.u.P]
     have G:=Y (m.u.alloc (.cells #[.string ⟨x.B.toArray⟩,.string ⟨#[]⟩,.string ⟨x.val.toArray⟩] 69));have H:=Y (l.u.below (Below.alloc (Below.refl _ _) (a_ _) (.cells #[.string ⟨x.B.toArray⟩,.string ⟨#[]⟩,.string ⟨x.val.toArray⟩] 69)));have HS:=Y λn=>yQ ((G.u.X.tg<|by rw[j.u.P];exact a4.u).drewN n) (iz x.B).1;rw[aa]at HS;generalize Rf.bQ s.P (iz x.B).1=f at *;generalize iz x.B=pr at *;obtain⟨b2,b3,b4⟩:=pr;clear r aa;go_wp2_with(go_at_call 162;go_call(HD.u _)as e w' ⟨rfl,P⟩;obtain rfl:=P.symm);go_region
     go_wp2_with(first
      |(go_at_call 159;go_call(HP.u _)as e w' ⟨rfl,n1,rfl⟩)
      |(go_at_call 163;go_call(HS.u _)as e w' ⟨rfl,n2,P⟩;obtain⟨y,ao⟩:∃y,w' =(wr.alloc (.cells #[.string ⟨x.B.toArray⟩,.string ⟨#[]⟩,.string ⟨x.val.toArray⟩] 69)).drewN y:=⟨_,P.trans (World.drewN_drewN _ _ _)⟩;subst ao;clear P;have K:=Y ((G.u.drewN y).yO (a:=⟨wr.heap.size,1,none⟩) m.u.fr.size z (λhm=>aj6 (m.u.X.jh _ hm).2 (Nat.lt_irrefl _)) (.string ⟨f.toArray⟩));have N:=Y ((H.u.drewN y).yO (a:=⟨wr.heap.size,1,none⟩) (λe=>aj6 (World.ownsRow.lt l.u.row _ e).2 (Nat.lt_irrefl _)) (.string ⟨f.toArray⟩));have HO:=Y (vP (World.ownsRow.alloc N.u.row (.cells #[.string ⟨x.B.toArray⟩,.string ⟨f.toArray⟩,.string ⟨x.val.toArray⟩] 69)) 1);have ab:(((wr.alloc (.cells #[.string ⟨x.B.toArray⟩,.string ⟨#[]⟩,.string ⟨x.val.toArray⟩] 69)).drewN y).setCell ⟨wr.heap.size,1,none⟩ (.string ⟨f.toArray⟩)).heap.size=wr.heap.size+1:=(by simp[World.setCell]);have HB:=Y (show(((((wr.alloc (.cells #[.string ⟨x.B.toArray⟩,.string ⟨#[]⟩,.string ⟨x.val.toArray⟩] 69)).drewN y).setCell ⟨wr.heap.size,1,none⟩ (.string ⟨f.toArray⟩)).alloc (.cells #[.string ⟨x.B.toArray⟩,.string ⟨f.toArray⟩,.string ⟨x.val.toArray⟩] 69)).drew).heap[wr.heap.size+1]?=some (.cells #[.string ⟨x.B.toArray⟩,.string ⟨f.toArray⟩,.string ⟨x.val.toArray⟩] 69)from(by have h:=dI (((wr.alloc (.cells #[.string ⟨x.B.toArray⟩,.string ⟨#[]⟩,.string ⟨x.val.toArray⟩] 69)).drewN y).setCell ⟨wr.heap.size,1,none⟩ (.string ⟨f.toArray⟩)) (.cells #[.string ⟨x.B.toArray⟩,.string ⟨f.toArray⟩,.string ⟨x.val.toArray⟩] 69);rwa[ab]at h));have ap:=Y (show((((wr.alloc (.cells #[.string ⟨x.B.toArray⟩,.string ⟨#[]⟩,.string ⟨x.val.toArray⟩] 69)).drewN y).setCell ⟨wr.heap.size,1,none⟩ (.string ⟨f.toArray⟩)).alloc (.cells #[.string ⟨x.B.toArray⟩,.string ⟨f.toArray⟩,.string ⟨x.val.toArray⟩] 69)).drew.heap.size=wr.heap.size+2 from(by show((((wr.alloc (.cells #[.string ⟨x.B.toArray⟩,.string ⟨#[]⟩,.string ⟨x.val.toArray⟩] 69)).drewN y).setCell ⟨wr.heap.size,1,none⟩ (.string ⟨f.toArray⟩)).alloc (.cells #[.string ⟨x.B.toArray⟩,.string ⟨f.toArray⟩,.string ⟨x.val.toArray⟩] 69)).heap.size=_;simp[World.setCell]));clear ab;have C:=Y (show w.heap.size<=((((wr.alloc (.cells #[.string ⟨x.B.toArray⟩,.string ⟨#[]⟩,.string ⟨x.val.toArray⟩] 69)).drewN y).setCell ⟨wr.heap.size,1,none⟩ (.string ⟨f.toArray⟩)).alloc (.cells #[.string ⟨x.B.toArray⟩,.string ⟨f.toArray⟩,.string ⟨x.val.toArray⟩] 69)).drew.heap.size from cL K.u.fr.size (by show(((wr.alloc (.cells #[.string ⟨x.B.toArray⟩,.string ⟨#[]⟩,.string ⟨x.val.toArray⟩] 69)).drewN y).setCell ⟨wr.heap.size,1,none⟩ (.string ⟨f.toArray⟩)).heap.size<=((((wr.alloc (.cells #[.string ⟨x.B.toArray⟩,.string ⟨#[]⟩,.string ⟨x.val.toArray⟩] 69)).drewN y).setCell ⟨wr.heap.size,1,none⟩ (.string ⟨f.toArray⟩)).alloc (.cells #[.string ⟨x.B.toArray⟩,.string ⟨f.toArray⟩,.string ⟨x.val.toArray⟩] 69)).heap.size;simp)))
      |(at_builtin;refine lI _ rfl _ _ 63 rfl w.heap.size 69 i0 _ 3 48 underlying63 hi X a0 a2 rfl (by decide) (.slice ta told.length tc) told.length (cQ told) (by simp[Act.eval]) HO.u ⟨wr.heap.size+1,0,none⟩ 1 1 [.string ⟨x.B.toArray⟩,.string ⟨f.toArray⟩,.string ⟨x.val.toArray⟩] (by simp[Act.eval]) rfl (jT HB.u) (by intro u I;simp at I;(repeat' (obtain rfl|I:=I))<;>first|rfl|(subst I;rfl)) (by decide) a8.u (by omega) C.u (wr.heap.size+2) ap.u ?_;intro g2 an w6 hown hgrow D a9;have E:=Y (N.u.push ⟨x.B,f,x.val⟩ z K.u hown (o:=(.cells #[.string ⟨x.B.toArray⟩,.string ⟨f.toArray⟩,.string ⟨x.val.toArray⟩] 69)) ⟨hgrow.os,hgrow.tape,hgrow.output,hgrow.size,hgrow.block⟩<|by simpa using D);clear hown hgrow D HO HB C))
     go_roundg (c.length - (k+1));case measure=>omega
     case rel=>exact⟨k+1,q,W,_,by omega,rfl,by go_num,by simp;omega,B,Y (j.u.mono<|by omega),Y E.u.1,Y E.u.2⟩
  have e1:decide ((k:Int)<(c.length:Int))=false:=aj9;have ad:jW s c s []=(q,told):=by rw[HK.u,iF];rfl
  have hF:af=gS q ⟨1,d,nD q d,[],told⟩:=by
   rw[ag.u];rw[Aq,ad]
  have HF:=Y hF;have HE:=Y (Om m.u.X d ae<|by rw[j.u.P];exact a4.u);generalize nD q d=f at *;have HT:=Y λn=>vN (m.u.X.drewN n) ⟨1,d,f,[],told⟩ ta told.length tc (vP (l.u.low z) n) l.u.nf (by omega);have aq:=Y λk (hk:k∈(Value.slice ta told.length tc).ownBlock.toList)=>(World.ownsRow.lt l.u.row k<|by simpa using hk).1;clear ad hF HK a6 aj
  go_wp2_with(first
   |(go_at_call 164;go_call HE.u as e w1 ⟨rfl,n1,rfl⟩)
   |(go_at_call 152;go_call(HT.u _)as e w2 ⟨rfl,L2,ar⟩))
  go_end0
  exact⟨rfl,L2,by rw[HF.u];exact(m.u.drewN n1).aaK aq.u ar⟩
end
section
variable {w0 w w' :World}{b:Nat}{s s' :R}{L L' :bA}{f0:List Nat}
def Ow{d:Nat}{b n c:Nat}{a:Option Addr}{j:List Value}(h:w.ownsRow d e b (.slice a (n+1) c) (n+1) j):w.ownsRow d e b (.slice a n c) n (j.take (n*b)):=by
 obtain⟨l,m⟩:=h;obtain⟨k,v⟩|⟨g,o,f,k,p,q,x,r,s,t⟩:=m
 .omega
 injection k with u _ i;subst u i;refine⟨?_,.inr ⟨g,c,f,rfl,p,q,by omega,r,s,?_⟩⟩
 .rw[iB,l,yE];omega
 rw[<-t,CY,Nat.min_eq_left<|by rw[yE];omega]
def bL.swap(m:bL w0 b f0 w s L){r r' :Row}{rs:List Row}(a:List Row)(i:Nat)(v:Value)(f:(eP s L).Perm (a++r::rs))(c:(eP s' L').Perm (r' ::rs))(l:r'.owned w (b+1))(n:r'.v.ownBlock=r.v.ownBlock)
 (o:(aR s L).set i v=aR s' L') (p:L'.es.map (·.1)=s'.y) (q:L'.gs.map (·.1)=s'.P) (hx:∃t L0,bD w0 b t L0/\L0.gs.map (·.2)<+:L'.gs.map (·.2)):bL w0 b f0 (w.setCell ⟨b,i,none⟩ v) s' L' :=by
 have g:fJ w (b+1) (r::rs):=fJ.behind a (m.X.rows.perm f);have d:cZ (r' ::rs)=cZ (r::rs):=by unfold cZ;rw[fF,fF,n]
 have h:fJ w (b+1) (eP s' L'):=by
  refine fJ.perm ⟨λx hx=>?_,?_⟩ c.symm
  .rcases mem_cons.1 hx with rfl|hx
   .exact l
   exact g.own x (iU _ hx)
  rw[d];exact g.nd
 refine⟨⟨?_,?_,p,q⟩,?_,hx⟩
 .rw[<-o];have:=m.X.blk;simp[World.setCell,rE,this]
 .refine h.keep λk e=>kR _ _ _ _ ?_;have:=(h.lt k e).1;show k≠b;omega
 refine(m.fr.trans (Fr.setCell _ _ _ _ _)).sub λk e=>?_;have j:=nC c k e;rw[d]at j;exact nC f.symm k (uG k j)
def bL.aaM(m:bL w0 b f0 w s L)(a:U){g c:Nat}(hown:w'.ownsRow (b+1) 9 1 (.slice (some ⟨g,0,none⟩) (s.I.length+1) c) (s.I.length+1) (s.I.map sv++[sv a]))
 (e:w.grownBy w' (Value.slice L.oa s.I.length L.oc).ownBlock) (d:(Value.slice L.oa s.I.length L.oc).ownBlock=some g\/g=w.heap.size):
 bL w0 b f0 (w'.setCell ⟨b,10,none⟩ (.slice (some ⟨g,0,none⟩) (s.I.length+1) c)) {s with I:=s.I++[a]} {L with oa:=some ⟨g,0,none⟩,oc:=c}:=by
 refine m.grow (r:=jo s L) (r' :=jo {s with I:=s.I++[a]} {L with oa:=some ⟨g,0,none⟩,oc:=c}) (rs:=jm s L::gH s L::(L.es.map bR++L.gs.map jq)) 10 _ (pY _ _ _) (pY _ _ _) ?_ e ?_ ?_ m.X.evs m.X.p_ m.gs
 .show World.ownsRow _ _ _ _ _ _ _;simp only[jo,bT,cT,fB,jV,mP,lf,qO];exact hown
 .rcases d with h|h
  .exact .inl h.symm
  exact .inr (by rw[h];rfl)
 simp[aR]
def bL.aaN(m:bL w0 b f0 w s L)(a:s.I≠[]):bL w0 b f0 (w.setCell ⟨b,10,none⟩ (.slice L.oa (s.I.length - 1) L.oc)) {s with I:=s.I.dropLast} L:=by
 have e:0<s.I.length:=length_pos_iff.2 a;refine m.swap (r:=jo s L) (r' :=jo {s with I:=s.I.dropLast} L) (rs:=jm s L::gH s L::(L.es.map bR++L.gs.map jq)) [] 10 _ (pY _ _ _) (pY _ _ _) ?_ ?_ ?_ m.X.evs m.X.p_ m.gs
 .have h:=m.X.rows.own (jo s L) (by simp[eP]);obtain⟨n,c⟩:∃n,s.I.length=n+1:=⟨s.I.length - 1,by omega⟩;simp only[Row.owned,jo,c]at h;have d:=Ow h;simp only[Row.owned,jo,uo,c,ajR];rw[uz,<-AF]at d;rwa[dropLast_eq_take,c]
 .show(Value.slice L.oa _ L.oc).ownBlock=(Value.slice L.oa _ L.oc).ownBlock;cases L.oa<;>rfl
 simp[aR]
def bL.aaO(m:bL w0 b f0 w s L)(e:s.P≠[])(hx:∃i L0,bD w0 b i L0/\L0.gs.map (·.2)<+:L.gs.dropLast.map (·.2)):
 bL w0 b f0 (w.setCell ⟨b,11,none⟩ (.slice L.ga (s.P.length - 1) L.gc)) {s with P:=s.P.dropLast} {L with gs:=L.gs.dropLast}:=by
 have o:0<s.P.length:=length_pos_iff.2 e;have a:=m.X.Hh;have c:L.gs≠[]:=λh=>by rw[h]at a;simp at a;omega
 obtain⟨p,j⟩:=aj8 (L.gs.getLast c);have f:L.gs=L.gs.dropLast++[p]:=by rw[j];exact(tF c).symm
 refine m.swap (r:=gH s L) (r' :=gH {s with P:=s.P.dropLast} {L with gs:=L.gs.dropLast}) (rs:=jm s L::jo s L::(L.es.map bR++L.gs.dropLast.map jq)) [jq p] 11 _ ?_ (rI _ _ _ _) ?_ ?_ ?_ m.X.evs ?_ hx
 .have k:eP s L=jm s L::jo s L::gH s L::(L.es.map bR++(L.gs.dropLast.map jq++[jq p])):=by
   unfold eP;have:L.gs.map jq=L.gs.dropLast.map jq++[jq p]:=by
    have l:=congrArg (List.map jq) f;rwa[mP]at l
   rw[this]
  rw[k,<-jB];have d:=AX (jq p) (jm s L::jo s L::gH s L::(L.es.map bR++L.gs.dropLast.map jq)) [];rw[aj1]at d;refine d.trans (.cons _ (rI _ _ _ _))
 .have h:=m.X.rows.own (gH s L) (by simp[eP]);obtain⟨n,g⟩:∃n,s.P.length=n+1:=⟨s.P.length - 1,by omega⟩;simp only[Row.owned,gH,g]at h;have d:=Ow h;simp only[Row.owned,gH,uo,g,ajR];rw[uz,<-AF]at d;rwa[dropLast_eq_take,a,g]
 .show(Value.slice L.ga _ L.gc).ownBlock=(Value.slice L.ga _ L.gc).ownBlock;cases L.ga<;>rfl
 .simp[aR]
 show L.gs.dropLast.map (·.1)=s.P.dropLast;rw[<-m.X.p_,map_dropLast]
def oF(L:bA)(a:List aI)(v:Value)(g b:Nat):bA:={L with ga:=some ⟨g,0,none⟩,gc:=b,gs:=L.gs++[(a,v)]}
def bL.aaP(m:bL w0 b f0 w s L)(c:List aI)(v:Value)(r:w.ownsRow (b+1) 69 3 v c.length (cQ c))(t:∀k,v.ownBlock=some k->k∉cO s L)(hnew:∀k,v.ownBlock=some k->w0.heap.size<=k)
 {g d:Nat} (hown:w'.ownsRow (b+1) 63 1 (.slice (some ⟨g,0,none⟩) (s.P.length+1) d) (s.P.length+1) (L.gs.map (·.2)++[v]))
 (f:w.grownBy w' (Value.slice L.ga s.P.length L.gc).ownBlock) (u:(Value.slice L.ga s.P.length L.gc).ownBlock=some g\/g=w.heap.size):
 bL w0 b f0 (w'.setCell ⟨b,11,none⟩ (.slice (some ⟨g,0,none⟩) (s.P.length+1) d)) {s with P:=s.P++[c]} (oF L c v g d):=by
 have D:fJ w (b+1) (jq (c,v)::eP s L):=by
  refine⟨λx hx=>?_,?_⟩
  .rcases mem_cons.1 hx with rfl|hx
   .exact r
   exact m.X.rows.own x hx
  unfold cZ;rw[fF];split
  .exact m.X.rows.nd
  rename_i j E;exact nodup_cons.2 ⟨λF=>t j E F,m.X.rows.nd⟩
 have y:fJ w (b+1) (gH s L::jq (c,v)::jm s L::jo s L::(L.es.map bR++L.gs.map jq)):=D.perm (tN _ _ _ _ _);have G:(gH {s with P:=s.P++[c]} (oF L c v g d)).owned w' (b+1):=by
  show World.ownsRow _ _ _ _ _ _ _;simp only[gH,oF,bT,cT,fB,jV,mP,lf,qO];exact hown
 have l:(gH {s with P:=s.P++[c]} (oF L c v g d)).v.ownBlock=(gH s L).v.ownBlock\/(gH {s with P:=s.P++[c]} (oF L c v g d)).v.ownBlock=some w.heap.size:=by
  obtain h|h:=u
  .exact .inl h.symm
  exact .inr (by rw[h];rfl)
 have e:(eP {s with P:=s.P++[c]} (oF L c v g d)).Perm (gH {s with P:=s.P++[c]} (oF L c v g d)::jq (c,v)::jm s L::jo s L::(L.es.map bR++L.gs.map jq)):=by
  have H:eP {s with P:=s.P++[c]} (oF L c v g d)=jm s L::jo s L::gH {s with P:=s.P++[c]} (oF L c v g d)::((L.es.map bR++L.gs.map jq)++[jq (c,v)]):=by
   simp[eP,oF,jm,jo]
  rw[H];have n:=AX (jq (c,v)) (jm s L::jo s L::gH {s with P:=s.P++[c]} (oF L c v g d)::(L.es.map bR++L.gs.map jq)) [];rw[aj1]at n;exact n.trans (tN _ _ _ _ _)
 have o:=(y.grow G f l).perm e.symm;have z:some b≠(gH s L).v.ownBlock:=λh=>by
  have:=(m.X.rows.own (gH s L)<|by simp[eP]).lt b h.symm;omega
 have p:w'.heap[b]?=some (.cells (aR s L).toArray 111 (0,0)):=(f.block b m.X.lt z).trans m.X.blk;have A:=m.fr.size;have hev:∀k,(gH s L).v.ownBlock=some k->k∈cO s L:=λk i=>mem_filterMap.2 ⟨gH s L,by simp[eP],i⟩;refine⟨⟨?_,?_,?_,?_⟩,⟨f.os.trans m.fr.os,f.tape.trans m.fr.tape,f.output.trans m.fr.output,?_,λk i B C=>?_,λk i=>?_⟩,?_⟩
 .have I:(aR s L).set 11 (.slice (some ⟨g,0,none⟩) (s.P.length+1) d)=aR {s with P:=s.P++[c]} (oF L c v g d):=by simp[aR,oF]
  rw[<-I];simp[World.setCell,rE,p]
 .refine o.keep λk i=>kR _ _ _ _ ?_;have:=(o.lt k i).1;show k≠b;omega
 .exact m.X.evs
 .simp[oF,m.X.p_]
 .have:=f.size;simp[World.setCell];omega
 .rw[kR _ _ _ _<|by show k≠b;exact B];refine(f.block k (by omega) λh=>?_).trans (m.fr.block k i B C);obtain n|n:=m.fr.aY k (hev k h.symm)
  .exact C n
  omega
 .obtain⟨x,hx,q⟩:=mem_filterMap.1 (nC e k i);obtain rfl|hx:=mem_cons.1 hx
  .rcases l with h|h
   .exact m.fr.aY k (hev k (h.symm.trans q))
   rw[q]at h;cases h;exact .inr A
  obtain rfl|hx:=mem_cons.1 hx
  .exact .inr (hnew k q)
  refine m.fr.aY k (mem_filterMap.2 ⟨x,?_,q⟩);have K:=(rI (jm s L) (jo s L) (gH s L) (L.es.map bR++L.gs.map jq)).mem_iff (a:=x);exact K.2 (iU _ hx)
 obtain⟨N,L0,O,P⟩:=m.gs;refine⟨N,L0,O,P.trans ?_⟩;simp[oF]
end
theorem N_ : prog.globalNamed "markup/markupref.words" = some 0 := by kernel_rfl
theorem aad:(prog.globals[0]?).map (·.type)=some 183:=by kernel_rfl
def aae{W : World}(h : laidMetH prog [("markup/markupref.words", Rows.laid_markup_markupref_words), ("markup/refs.names", Rows.laid_markup_refs_names), ("markup/refs.named", Rows.laid_markup_refs_named)] W) : gQ W ∧ Gl W ∧ 2 < W.heap.size := by
 have d : laidMet prog [("markup/markupref.words", Rows.laid_markup_markupref_words), ("markup/refs.names", Rows.laid_markup_refs_names), ("markup/refs.named", Rows.laid_markup_refs_named)] W := h;have f : laidMetH prog [("markup/refs.names", Rows.laid_markup_refs_names), ("markup/refs.named", Rows.laid_markup_refs_named)] W := d.tail;have g : W.var? prog "markup/markupref.words" = some (([[108, 116, 59, 60], [103, 116, 59, 62], [97, 109, 112, 59, 38], [113, 117, 111, 116, 59, 34], [97, 112, 111, 115, 59, 39]] : List U).map λz => Value.string ⟨z.toArray⟩).toArray := by
  obtain⟨j,⟨k,l,m,e,p,q,b,c,a,hd,_,_⟩,_⟩:=d;obtain rfl:=Option.some.inj (N_.symm.trans b);obtain rfl:=Option.some.inj (aad.symm.trans c);rw[a,<-NI (zs:=[[108,116,59,60],[103,116,59,62],[97,109,112,59,38],[113,117,111,116,59,34],[97,112,111,115,59,39]]) underlying183 underlying9 Bj NK hd]
 refine⟨λi=>?_,tables f⟩;rw[World.var?_cell N_ g i];simp[Rf.ow,sv]
def aai(D:Nat->DataW H):∀n,Rows.uptoBulkAll ((List.range n).map D)=((List.range n).map λi=>Rows.uptoBulk (D i)).sum:=by
 have h:∀l:List Nat,Rows.uptoBulkAll (l.map D)=(l.map λi=>Rows.uptoBulk (D i)).sum:=by
  intro l;induction l with
  |nil=>simp[Rows.uptoBulkAll]
  |cons x r ih=>simp[Rows.uptoBulkAll,ih]
 exact λn=>h _
def Oc(f g:Nat->Nat):∀n,(∀i,i<n->f i<=g i)->((List.range n).map f).sum<=((List.range n).map g).sum
 |0,_=>by simp
 |n+1,h=>by
  have a:=Oc f g n λi b=>h i (by omega);have c:=h n (by omega);simp only[range_succ,mP,sum_append,lf,qO,rH,sum_nil];omega
def Od(g o n:Nat):(⟨g,o,none⟩:Addr).add n=⟨g,o+n,none⟩:=by
 unfold Addr.add;split<;>simp_all
def Hu{z:Type}{B:TypeId×Value->H}{P:Program}{W:World}{sp:Nat->Bool}{t:TypeId}{k:Nat}(b:z->List Value)(q:z->Nat)(Q:z->Prop)(ht:P.underlying t=some (.slice e))(hk:P.cellsOf e=k)(C:0<k)
 (E:∀n F d p,DataW.trod B P W 0 sp true n e F=some (d,p)->∃x:z,F=b x/\q x<=Rows.uptoBulk d/\Q x)
 {G:Nat} {d:DataW H} {p:List MemPlace} (h:DataW.trod B P W 0 sp true G t [v]=some (d,p)):
 ∃(l:List z) (a:Option Addr) (c:Nat),v=.slice a l.length c/\l.length<=maxLen/\(∀i (w:i<l.length),∃g o,a=some ⟨g,o,none⟩/\g<W.heap.size/\∀j,j<k->W.cell? ⟨g,o+i*k+j,none⟩=(b l[i])[j]?)/\(l.map q).sum+1<=Rows.uptoBulk d/\∀x∈l,Q x:=by
 obtain⟨I,hx⟩|⟨a,f,R,m,n,D,Pl,I,_,hl,hm,S,hx,y⟩:=open_slice ht h
 .simp at I hx;obtain⟨rfl,rfl⟩:=hx;exact⟨[],none,0,I,by simp,λi w=>(by cases w),by simp[Rows.uptoBulk],λx hx=>(by cases hx)⟩
 simp at I hx;subst I;obtain⟨rfl,rfl⟩:=hx;have a1:f<=m:=by rw[S];split<;>omega
 have r:0<f->a.spot=none:=λh0=>by
  obtain⟨F,u,N⟩:=y 0 (by omega);rw[hk]at u;obtain⟨_,K,T⟩:=World.cells?_some u;have O:=T 0 C;rw[l_ (by omega:0<F.length)]at O;simpa[Addr.add]using World.cell?_spot O
 obtain⟨g,o,s⟩:=a;have A:∀i,i<f->∃x:z,(∀j,j<k->W.cell? ⟨g,o+i*k+j,none⟩=(b x)[j]?)/\(b x).length=k/\q x<=Rows.uptoBulk (D i)/\Q x:=λi w=>by
  obtain⟨F,u,N⟩:=y i (by omega);rw[hk]at u;obtain⟨_,K,T⟩:=World.cells?_some u;obtain⟨x,rfl,O,h6⟩:=E _ _ _ _ N;refine⟨x,λj hj=>?_,K,O,h6⟩;have hs:s=none:=r (by omega);subst hs;rw[<-T j hj,Od,Od]
 have a0:∃X:Fin f->z,∀i:Fin f,(∀j,j<k->W.cell? ⟨g,o+i.1*k+j,none⟩=(b (X i))[j]?)/\(b (X i)).length=k/\q (X i)<=Rows.uptoBulk (D i.1)/\Q (X i):=
  ⟨λi=>(A i.1 i.2).choose,λi=>(A i.1 i.2).choose_spec⟩
 obtain⟨X,A⟩:=a0;refine⟨List.ofFn X,some ⟨g,o,s⟩,R,by simp,by simp;omega,λi w=>?_,?_,λx hx=>?_⟩
 .have L:i<f:=by simpa using w
  obtain⟨u,N,_⟩:=A ⟨i,L⟩;have hs:s=none:=r (by omega);subst hs;have K:=u 0 C;rw[l_ (by omega:0<(b (X ⟨i,L⟩)).length)]at K;refine⟨g,o,rfl,Zt K,λj hj=>?_⟩;rw[List.getElem_ofFn];exact u j hj
 .have u:((List.ofFn X).map q).sum<=((List.range f).map λi=>Rows.uptoBulk (D i)).sum:=by
   have e1:(List.ofFn X).map q=(List.range f).map λi=>if h:i<f then q (X ⟨i,h⟩)else 0:=by
    apply ext_getElem
    .simp
    intro i q1 q2;have:i<f:=by simpa using q2
    simp[this]
   rw[e1];refine Oc _ _ f λi w=>?_;rw[dif_pos w];exact(A ⟨i,w⟩).2.2.1
  have N:=aai D f;simp only[Rows.uptoBulk];omega
 obtain⟨i,rfl⟩:=mem_ofFn.1 hx;exact(A i).2.2.2
theorem Oe:prog.cellsOf 69=3:=by kernel_rfl
def oD(x:aI):Nat:=x.B.length+x.space.length+x.val.length+4
variable {H:Type}{enc:TypeId×Value->H}{W:World}{sp:Nat->Bool}
def aaj(n:Nat)(a:List Value)(d:DataW H)(p:List MemPlace)(h:DataW.trod enc prog W 0 sp true n 69 a=some (d,p)):∃x:aI,a=gG x/\oD x<=Rows.uptoBulk d/\True:=by
 obtain⟨o,q,r,m,hx,b,c,e,f⟩:=trod_struct3 underlying69 h;rw[Oe]at b;match a,b with
 |[s,t,u],_=>
  simp only[Bj]at c e f;obtain⟨j,e0,rfl,_⟩:=yG underlying9 c;obtain⟨k,g,rfl,_⟩:=yG underlying9 e;obtain⟨l,i,rfl,_⟩:=yG underlying9 f;simp at e0 g i hx;obtain⟨rfl,rfl⟩:=hx;refine⟨⟨j.data.toList,k.data.toList,l.data.toList⟩,?_,?_,trivial⟩
  .simp[gG,e0,g,i]
  simp[oD,Rows.uptoBulk,Rows.uptoBulkAll];omega
def aak{b:Nat}{d:DataW H}{p:List MemPlace}(h:DataW.trod enc prog W 0 sp true b 63 [v]=some (d,p)):∃l:List aI,ij 0 W.heap.size W v l/\(l.map oD).sum+1<=Rows.uptoBulk d:=by
 obtain⟨l,a,c,f,i,j,m,_⟩:=Hu gG oD (λ_=>True) underlying63 Oe (by decide) aaj h;refine⟨l,⟨⟨a,c,f,λk n=>?_⟩,by unfold maxLen at i;omega⟩,m⟩;obtain⟨g,o,q,e,r⟩:=j k n;exact⟨g,o,q,⟨dO _,e,e⟩,r⟩
end V
namespace V
open Mk
theorem Og:prog.cellsOf 65=5:=by kernel_rfl
theorem aal:prog.cellsOf 63=1:=by kernel_rfl
def jY(x:Ev):Nat:=x.B.length+x.space.length+x.val.length+(x.f.map oD).sum+6
variable {H:Type}{enc:TypeId×Value->H}{W:World}{sp:Nat->Bool}
def aam(n:Nat)(c:List Value)(d:DataW H)(p:List MemPlace)(h:DataW.trod enc prog W 0 sp true n 65 c=some (d,p)):∃x:Ev×Value,c=fP x.1 x.2/\jY x.1<=Rows.uptoBulk d/\ij 0 W.heap.size W x.2 x.1.f:=by
 obtain⟨u,m,_,hx,f,a,b⟩:=DataW.trod_struct underlying65 h;rw[Og]at f;match c,f with
 |[D,E,F,G,g],_=>
  match u,a with
  |[I,K,L,N,w],_=>
   have i:=b 0 _ rfl;have j:=b 1 _ rfl;have k:=b 2 _ rfl;have o:=b 3 _ rfl;have q:=b 4 _ rfl;simp[Bj,DK,aal]at i j k o q;obtain⟨y,e0,e⟩:=yJ underlying3 i;obtain⟨z,r,rfl,_⟩:=yG underlying9 j;obtain⟨A,s,rfl,_⟩:=yG underlying9 k;obtain⟨B,t,rfl,_⟩:=yG underlying9 o;obtain⟨O,P⟩:=w;obtain⟨l,C,Q⟩:=aak (v:=g) q;simp at hx e0 r s t;obtain⟨rfl,rfl⟩:=hx;refine⟨(⟨y,z.data.toList,A.data.toList,B.data.toList,l⟩,g),?_,?_,C⟩
   .simp[fP,e0,r,s,t]
   obtain⟨rfl,_⟩:=e;simp[jY,Rows.uptoBulk,Rows.uptoBulkAll];omega
def aan{b:Nat}{v:Value}{d:DataW H}{p:List MemPlace}(h:DataW.trod enc prog W 0 sp true b 29 [v]=some (d,p)):∃l:List Ev,fL 0 W.heap.size W v l/\(l.map jY).sum+1<=Rows.uptoBulk d:=by
 obtain⟨l,a,c,t,f,i,u,m⟩:=Hu (λx:Ev×Value=>fP x.1 x.2) (λx=>jY x.1) (λx=>ij 0 W.heap.size W x.2 x.1.f) underlying29 Og (by decide) aam h;refine⟨l.map (·.1),⟨⟨a,c,by rwa[iM],λk e=>?_⟩,by unfold maxLen at f;rw[iM];omega⟩,by rwa[List.map_map]⟩;rw[iM]at e;obtain⟨g,o,n,q,r⟩:=i k e;refine⟨g,o,l[k].2,n,q,λj s=>?_,?_⟩
 .rw[Av];exact r j s
 rw[Av];exact m _ (iZ e)
