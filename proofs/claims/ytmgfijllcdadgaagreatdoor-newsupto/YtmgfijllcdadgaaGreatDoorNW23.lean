import Derived.Test.YtmgfijllcdadgaaGreatDoorNW20
import Derived.Test.YtmgfijllcdadgaaGreatDoorNW22
import Derived.Test.YtmgfijllcdadgaaGreatDoorNW16
import Derived.Test.YtmgfijllcdadgaaGreatDoorNW19
import Derived.Test.YtmgfijllcdadgaaGreatDoorNW21
set_option linter.unusedVariables false
set_option linter.unusedSimpArgs false
set_option maxHeartbeats 16000000
set_option maxRecDepth 100000
namespace Go.Proofs.YtmgfijllcdadgaaGreatDoor.V
open Go.RowKit
open Mk (Bs Ev aD)
open Rf (R)
open Go.Proofs.Tryz
open Rf (fK kI lW dG gJ fE eY aP cN fQ eG dZ)
variable {r r' :R}{cap m:Nat}
section
variable {w0 w w' :World}{b:Nat}{s q q' :R}{L L' :aH}{f0:List Nat}
theorem aL.JS(m:aL w0 b f0 w q L){B:List Nat}(d:∀k∈B,w0.heap.size≤k)(k:aL w b (B++aR q L) w' q' L'):aL w0 b f0 w' q' L' :=by
 refine⟨k.rd,⟨k.fr.os.trans m.fr.os,k.fr.tape.trans m.fr.tape,k.fr.output.trans m.fr.output,Nat.le_trans m.fr.size k.fr.size,fun j a e c=>?_,fun j a=>?_⟩,?_⟩
 .refine(k.fr.block j (Nat.lt_of_lt_of_le a m.fr.size) e fun h=>?_).trans (m.fr.block j a e c);rcases List.mem_append.1 h with g|g
  .have:=d j g;omega
  rcases m.fr.aJ j g with g|g
  .exact c g
  omega
 .rcases k.fr.aJ j a with g|g
  .rcases List.mem_append.1 g with g|g
   .exact .inr (d j g)
   exact m.fr.aJ j g
  exact .inr (Nat.le_trans m.fr.size g)
 obtain⟨i,L0,l,n⟩:=m.gs;obtain⟨o,p,c,f⟩:=k.gs;rw[←m.rd.unique c]at f;exact⟨i,L0,l,n.trans f⟩
theorem bX.drewN{r:R}{v:Value}{l:List aD}(h:bX w0 w b r L v l)(n:Nat):bX w0 (w.drewN n) b r L v l:=⟨mY h.row n,h.nf⟩
theorem bX.oO{v:Value}{l:List aD}(h:bX w0 w b r L v l){a:Addr}(c:v.ownBlock≠some a.block)(u:Value):bX w0 (w.setCell a u) b r L v l:=
 ⟨fP (r:=⟨69,3,v,l.length,aV l⟩) h.row fun k d=>Below.heap_setCell _ _ _ _ (fun e=>c (e▸d)),h.nf⟩
theorem Qo(s:R)(a:aD)(l:List aD)(q:R)(told:List aD):fK s (a::l) q told=if s.on&&(Rf.declaration a.name).2 then fK s l (Rf.tell q ⟨6,(Rf.declaration a.name).1,[],a.val,[]⟩) told else fK s l q (told++[⟨a.name,if s.on then Rf.aZ s.tags (Rf.parts a.name).1 else[],a.val⟩]):=by
 rw[fK]
theorem tJ(h:aI w b s L)(d:Bs)(c:List aD)(v:Value)(E:(c,v)∈L.gs)(aa:d.length≤100000000)(N:∀t∈s.tags,Sh t)(hev:s.events.length+c.length≤900000000):
 Calls Tryz.prog 112 #[.pointer (some ⟨b,0,none⟩),.string ⟨d.toArray⟩,v] w fun e w' =>e=.returned (.tuple #[])∧∃L', aL w b (aR s L) w' (Rf.started s d c) L' :=by
 obtain⟨i0,hi,X,Y,Z⟩:=info_parts infoAt;have hrow:w.ownsRow (b+1) 69 3 v c.length (aV c):=h.tG E;have ao:=kO hrow;have a0:Sh c:=N _ (h.AZ E);have y:=h.lt;obtain⟨a1,c1,rfl⟩:=b_ hrow;obtain⟨O,z⟩:∃O,O=Rf.started s d c:=⟨_,rfl⟩;rw[←z];have ab:=aB z;have HH:=aB h;have HI:=aB E;have a2:=aB N;have ap:c.length≤900000000:=by omega
 generalize a3:s.on=on at *;clear hrow h E z N;go_enter func112,ntmps112
 go_wp2_with fail
 go_loopg [6,7] c.length (fun g s6 s7 wx=>∃(k:Nat) (q:R) (T:aH) (told:List aD),k≤c.length∧g=c.length - k∧s7=.int .i64 (k:Int)∧told.length≤k∧Hid (fK s c s []=fK s (c.drop k) q told)∧Hid (Tk s q k)∧Hid (aL w b (aR s L) wx q T)∧Hid (bX w wx b q T s6 told))
 case atStart=>exact⟨0,s,L,[],by omega,rfl,rfl,Nat.le_refl _,aB rfl,aB (Tk.refl s),aB (aA HH).start,aB (bX.nil _ _ _ _ _)⟩
 case round=>
  obtain⟨k,q,T,told,hk,rfl,rfl,aq,HK,f,l,j⟩:=hrel;have ad:=(aA l).kJ (aA HH) (aA f).tags;have ae:q.on=on:=(aA f).on.trans a3;have ar:=(aA f).ev;have P:=(aA l).rd.cell;have af:=(aA l).rd.frozen;unfold aF at P;rw[ae]at P;obtain⟨ta,tc,rfl⟩:=b_ (aA j).row;have a4:b<wr.heap.size:=(aA l).rd.lt;have au:∀o i,(wr.alloc o).cell? ⟨b,i,none⟩=wr.cell? ⟨b,i,none⟩:=fun o i=>by simp only[World.cell?];rw[Below.heap_alloc _ _ _ a4]
  have av:∀n i,(wr.drewN n).cell? ⟨b,i,none⟩=wr.cell? ⟨b,i,none⟩:=fun n i=>by simp only[World.cell?,heap_drewN]
  by_cases Q:k<c.length
  .have e1:decide ((k:Int)<(c.length:Int))=true:=by simp;omega
   have hrow:=(aA l).rd.tG (p:=(c,.slice a1 c.length c1)) (by rw[ad];exact aA HI);obtain⟨g1,d1,f1,aw,q1⟩:=kN bZ (fun _=>rfl) (by decide) hrow rfl k Q;simp only at f1;injection f1 with f1 _ ag;subst f1;subst ag;have ah:=q1 0 (by decide);have ai:=q1 2 (by decide);simp[bZ]at ah ai;have hd:fK s (c.drop k) q told=fK s (c[k]::c.drop (k+1)) q told:=by rw[List.drop_eq_getElem_cons Q]
   have m:=(aA HK).trans hd;rw[Qo,a3]at m;have K:=a0 c[k] (List.getElem_mem Q);clear q1 HK hd hrow;generalize c[k]=x at *;have HD:=aB (fun w=>tv x.name K w);generalize Rf.declaration x.name=dd at *;obtain⟨pp,is⟩:=dd;have a5:=aB (show told.length+1≤maxLen by unfold maxLen;omega);have an:told.length≤900000000:=by omega
   cases on with
   |false=>
    have A:=aB (show fK s c s []=fK s (c.drop (k+1)) q (told++[⟨x.name,[],x.val⟩])from m);clear m;have F:=aB ((aA l).alloc (.cells #[.string ⟨x.name.toArray⟩,.string ⟨#[]⟩,.string ⟨x.val.toArray⟩] 69));have G:=aB ((aA j).below (Below.alloc (Below.refl _ _) (Nat.le_refl _) (.cells #[.string ⟨x.name.toArray⟩,.string ⟨#[]⟩,.string ⟨x.val.toArray⟩] 69)));have HO:=aB (mY (World.ownsRow.alloc (aA G).row (.cells #[.string ⟨x.name.toArray⟩,.string ⟨#[]⟩,.string ⟨x.val.toArray⟩] 69)) 1);have HB:=aB (show((wr.alloc (.cells #[.string ⟨x.name.toArray⟩,.string ⟨#[]⟩,.string ⟨x.val.toArray⟩] 69)).alloc (.cells #[.string ⟨x.name.toArray⟩,.string ⟨#[]⟩,.string ⟨x.val.toArray⟩] 69)).drew.heap[(wr.alloc (.cells #[.string ⟨x.name.toArray⟩,.string ⟨#[]⟩,.string ⟨x.val.toArray⟩] 69)).heap.size]?=_ from heap_alloc_new (wr.alloc (.cells #[.string ⟨x.name.toArray⟩,.string ⟨#[]⟩,.string ⟨x.val.toArray⟩] 69)) _);have B:=aB (show w.heap.size≤((wr.alloc (.cells #[.string ⟨x.name.toArray⟩,.string ⟨#[]⟩,.string ⟨x.val.toArray⟩] 69)).alloc (.cells #[.string ⟨x.name.toArray⟩,.string ⟨#[]⟩,.string ⟨x.val.toArray⟩] 69)).drew.heap.size from Nat.le_trans (aA l).fr.size (by show wr.heap.size≤((wr.alloc (.cells #[.string ⟨x.name.toArray⟩,.string ⟨#[]⟩,.string ⟨x.val.toArray⟩] 69)).alloc (.cells #[.string ⟨x.name.toArray⟩,.string ⟨#[]⟩,.string ⟨x.val.toArray⟩] 69)).heap.size;simp;omega));go_wp2_with(go_at_call 162;refine(aA HD _).mono ?_;rintro e w' ⟨rfl,M⟩;obtain rfl:=M.symm)
    go_region
    go_wp2_with(at_builtin;refine wpList_append_lies _ rfl _ _ 63 rfl w.heap.size 69 i0 _ 3 48 underlying63 hi X Y Z rfl (by decide) (.slice ta told.length tc) told.length (aV told) (by simp[Act.eval]) (aA HO) ⟨wr.heap.size+1,0,none⟩ 1 1 [.string ⟨x.name.toArray⟩,.string ⟨#[]⟩,.string ⟨x.val.toArray⟩] (by simp[Act.eval]) rfl (World.news_of_block (by have:=aA HB;simpa using this)) (by intro u H;simp at H;(repeat' (rcases H with rfl|H))<;>first|rfl|(subst H;rfl)) (by decide) (aA a5) (by omega) (aA B) (wr.heap.size+2) (by simp) ?_;intro g2 cap w6 hown hgrow C a6;have D:=aB ((aA G).push ⟨x.name,[],x.val⟩ y (aA F) hown (o:=(.cells #[.string ⟨x.name.toArray⟩,.string ⟨#[]⟩,.string ⟨x.val.toArray⟩] 69)) ⟨hgrow.os,hgrow.tape,hgrow.output,hgrow.size,hgrow.block⟩ (by simpa using C));clear hown hgrow C HO HB B)
    go_roundg (c.length - (k+1))
    case measure=>omega
    case rel=>exact⟨k+1,q,T,_,by omega,rfl,by go_num,by simp;omega,A,aB ((aA f).mono (by omega)),aB (aA D).1,aB (aA D).2⟩
   |true=>
    cases is with
    |true=>
     have A:=aB (show fK s c s []=fK s (c.drop (k+1)) (Rf.tell q ⟨6,pp,[],x.val,[]⟩) told from m);have HT:=aB (mV (aA l).rd ⟨6,pp,[],x.val,[]⟩ none 0 0 (jw ⟨rfl,rfl,rfl⟩) (fun k hk=>by cases hk) (by omega));clear m
     go_wp2_with(first
      |(go_at_call 162;refine(aA HD _).mono ?_;rintro e w' ⟨rfl,M⟩;obtain rfl:=M.symm)
      |(go_at_call 152;refine(aA HT).mono ?_;rintro e w3 ⟨rfl,L3,S⟩;have I:=aB ((aA l).call S);have J:=aB ((aA j).call y S);clear S))
     go_roundg (c.length - (k+1))
     case measure=>omega
     case rel=>exact⟨k+1,_,L3,told,by omega,rfl,by go_num,by omega,A,aB ((aA f).tell _),I,J⟩
    |false=>
     have A:=aB (show fK s c s []=fK s (c.drop (k+1)) q (told++[⟨x.name,Rf.aZ s.tags (Rf.parts x.name).1,x.val⟩])from m);have HP:=aB (fun w=>tu x.name K w);have a7:T.gs.map (·.1)=s.tags:=by rw[(aA l).rd.je,(aA f).tags]
     have F:=aB ((aA l).alloc (.cells #[.string ⟨x.name.toArray⟩,.string ⟨#[]⟩,.string ⟨x.val.toArray⟩] 69));have G:=aB ((aA j).below (Below.alloc (Below.refl _ _) (Nat.le_refl _) (.cells #[.string ⟨x.name.toArray⟩,.string ⟨#[]⟩,.string ⟨x.val.toArray⟩] 69)));have HS:=aB (fun n=>oQ (((aA F).rd.tg (by rw[(aA f).tags];exact aA a2)).drewN n) (Rf.parts x.name).1);rw[a7]at HS;generalize Rf.aZ s.tags (Rf.parts x.name).1=sp at *;generalize Rf.parts x.name=pr at *;obtain⟨ax,ay,az⟩:=pr;clear m a7;go_wp2_with(go_at_call 162;refine(aA HD _).mono ?_;rintro e w' ⟨rfl,M⟩;obtain rfl:=M.symm)
     go_region
     go_wp2_with(first
      |(go_at_call 159;refine(aA HP _).mono ?_;rintro e w' ⟨rfl,n1,rfl⟩)
      |(go_at_call 163;refine(aA HS _).mono ?_;rintro e w' ⟨rfl,n2,M⟩;obtain⟨r,aj⟩:∃r,w' =(wr.alloc (.cells #[.string ⟨x.name.toArray⟩,.string ⟨#[]⟩,.string ⟨x.val.toArray⟩] 69)).drewN r:=⟨_,M.trans (World.drewN_drewN _ _ _)⟩;subst aj;clear M;have I:=aB (((aA F).drewN r).oO (a:=⟨wr.heap.size,1,none⟩) (aA l).fr.size y (fun hm=>absurd ((aA l).rd.dF _ hm).2 (Nat.lt_irrefl _)) (.string ⟨sp.toArray⟩));have J:=aB (((aA G).drewN r).oO (a:=⟨wr.heap.size,1,none⟩) (fun e=>absurd (World.ownsRow.lt (aA j).row _ e).2 (Nat.lt_irrefl _)) (.string ⟨sp.toArray⟩));have HO:=aB (mY (World.ownsRow.alloc (aA J).row (.cells #[.string ⟨x.name.toArray⟩,.string ⟨sp.toArray⟩,.string ⟨x.val.toArray⟩] 69)) 1);have a8:(((wr.alloc (.cells #[.string ⟨x.name.toArray⟩,.string ⟨#[]⟩,.string ⟨x.val.toArray⟩] 69)).drewN r).setCell ⟨wr.heap.size,1,none⟩ (.string ⟨sp.toArray⟩)).heap.size=wr.heap.size+1:=(by simp[World.setCell]);have HB:=aB (show(((((wr.alloc (.cells #[.string ⟨x.name.toArray⟩,.string ⟨#[]⟩,.string ⟨x.val.toArray⟩] 69)).drewN r).setCell ⟨wr.heap.size,1,none⟩ (.string ⟨sp.toArray⟩)).alloc (.cells #[.string ⟨x.name.toArray⟩,.string ⟨sp.toArray⟩,.string ⟨x.val.toArray⟩] 69)).drew).heap[wr.heap.size+1]?=some (.cells #[.string ⟨x.name.toArray⟩,.string ⟨sp.toArray⟩,.string ⟨x.val.toArray⟩] 69)from(by have h:=heap_alloc_new (((wr.alloc (.cells #[.string ⟨x.name.toArray⟩,.string ⟨#[]⟩,.string ⟨x.val.toArray⟩] 69)).drewN r).setCell ⟨wr.heap.size,1,none⟩ (.string ⟨sp.toArray⟩)) (.cells #[.string ⟨x.name.toArray⟩,.string ⟨sp.toArray⟩,.string ⟨x.val.toArray⟩] 69);rw[a8]at h;exact h));have ak:=aB (show((((wr.alloc (.cells #[.string ⟨x.name.toArray⟩,.string ⟨#[]⟩,.string ⟨x.val.toArray⟩] 69)).drewN r).setCell ⟨wr.heap.size,1,none⟩ (.string ⟨sp.toArray⟩)).alloc (.cells #[.string ⟨x.name.toArray⟩,.string ⟨sp.toArray⟩,.string ⟨x.val.toArray⟩] 69)).drew.heap.size=wr.heap.size+2 from(by show((((wr.alloc (.cells #[.string ⟨x.name.toArray⟩,.string ⟨#[]⟩,.string ⟨x.val.toArray⟩] 69)).drewN r).setCell ⟨wr.heap.size,1,none⟩ (.string ⟨sp.toArray⟩)).alloc (.cells #[.string ⟨x.name.toArray⟩,.string ⟨sp.toArray⟩,.string ⟨x.val.toArray⟩] 69)).heap.size=_;simp[World.setCell]));clear a8;have B:=aB (show w.heap.size≤((((wr.alloc (.cells #[.string ⟨x.name.toArray⟩,.string ⟨#[]⟩,.string ⟨x.val.toArray⟩] 69)).drewN r).setCell ⟨wr.heap.size,1,none⟩ (.string ⟨sp.toArray⟩)).alloc (.cells #[.string ⟨x.name.toArray⟩,.string ⟨sp.toArray⟩,.string ⟨x.val.toArray⟩] 69)).drew.heap.size from Nat.le_trans (aA I).fr.size (by show(((wr.alloc (.cells #[.string ⟨x.name.toArray⟩,.string ⟨#[]⟩,.string ⟨x.val.toArray⟩] 69)).drewN r).setCell ⟨wr.heap.size,1,none⟩ (.string ⟨sp.toArray⟩)).heap.size≤((((wr.alloc (.cells #[.string ⟨x.name.toArray⟩,.string ⟨#[]⟩,.string ⟨x.val.toArray⟩] 69)).drewN r).setCell ⟨wr.heap.size,1,none⟩ (.string ⟨sp.toArray⟩)).alloc (.cells #[.string ⟨x.name.toArray⟩,.string ⟨sp.toArray⟩,.string ⟨x.val.toArray⟩] 69)).heap.size;simp)))
      |(at_builtin;refine wpList_append_lies _ rfl _ _ 63 rfl w.heap.size 69 i0 _ 3 48 underlying63 hi X Y Z rfl (by decide) (.slice ta told.length tc) told.length (aV told) (by simp[Act.eval]) (aA HO) ⟨wr.heap.size+1,0,none⟩ 1 1 [.string ⟨x.name.toArray⟩,.string ⟨sp.toArray⟩,.string ⟨x.val.toArray⟩] (by simp[Act.eval]) rfl (World.news_of_block (aA HB)) (by intro u H;simp at H;(repeat' (rcases H with rfl|H))<;>first|rfl|(subst H;rfl)) (by decide) (aA a5) (by omega) (aA B) (wr.heap.size+2) (aA ak) ?_;intro g2 cap w6 hown hgrow C a6;have D:=aB ((aA J).push ⟨x.name,sp,x.val⟩ y (aA I) hown (o:=(.cells #[.string ⟨x.name.toArray⟩,.string ⟨sp.toArray⟩,.string ⟨x.val.toArray⟩] 69)) ⟨hgrow.os,hgrow.tape,hgrow.output,hgrow.size,hgrow.block⟩ (by simpa using C));clear hown hgrow C HO HB B))
     go_roundg (c.length - (k+1))
     case measure=>omega
     case rel=>exact⟨k+1,q,T,_,by omega,rfl,by go_num,by simp;omega,A,aB ((aA f).mono (by omega)),aB (aA D).1,aB (aA D).2⟩
  have e1:decide ((k:Int)<(c.length:Int))=false:=by simp;omega
  have a9:fK s c s []=(q,told):=by rw[aA HK,List.drop_of_length_le (by omega)];rfl
  have hF:O=Rf.tell q ⟨1,d,kI q d,[],told⟩:=by
   rw[aA ab];unfold Rf.started;rw[a9]
  have HF:=aB hF;have HE:=aB (AY (aA l).rd d aa (by rw[(aA f).tags];exact aA a2));generalize kI q d=sp at *;have HT:=aB (fun n=>mV ((aA l).rd.drewN n) ⟨1,d,sp,[],told⟩ ta told.length tc (mY ((aA j).low y) n) (aA j).nf (by omega));have al:=aB (fun k (hk:k∈(Value.slice ta told.length tc).ownBlock.toList)=>(World.ownsRow.lt (aA j).row k (by simpa using hk)).1);clear a9 hF HK P af
  go_wp2_with(first
   |(go_at_call 164;refine(aA HE).mono ?_;rintro e w1 ⟨rfl,n1,rfl⟩)
   |(go_at_call 152;refine(aA HT _).mono ?_;rintro e w2 ⟨rfl,L2,am⟩))
  go_end0
  exact⟨rfl,L2,by rw[aA HF];exact((aA l).drewN n1).JS (aA al) am⟩
end
section
variable {w0 w w' :World}{b:Nat}{s s' :R}{L L' :aH}{f0:List Nat}
theorem A_{base:Nat}{e:TypeId}{size n c:Nat}{a:Option Addr}{f:List Value}(h:w.ownsRow base e size (.slice a (n+1) c) (n+1) f):w.ownsRow base e size (.slice a n c) n (f.take (n*size)):=by
 obtain⟨j,k⟩:=h;rcases k with⟨i,s⟩|⟨g,cap,b,i,l,m,t,o,p,q⟩
 .omega
 injection i with r _ d;subst r d;refine⟨?_,.inr ⟨g,c,b,rfl,l,m,by omega,o,p,?_⟩⟩
 .rw[List.length_take,j,Nat.succ_mul];omega
 rw[←q,List.take_take,Nat.min_eq_left (by rw[Nat.succ_mul];omega)]
theorem aL.swap(m:aL w0 b f0 w s L){r r' :Row}{rs:List Row}(a:List Row)(i:Nat)(v:Value)(g:(a_ s L).Perm (a++r::rs))(c:(a_ s' L').Perm (r' ::rs))(n:r'.owned w (b+1))(o:r'.v.ownBlock=r.v.ownBlock)
 (p:(aF s L).set i v=aF s' L') (q:L'.es.map (·.1)=s'.events) (t:L'.gs.map (·.1)=s'.tags) (d:∃u L0,aI w0 b u L0∧L0.gs.map (·.2)<+:L'.gs.map (·.2)):aL w0 b f0 (w.setCell ⟨b,i,none⟩ v) s' L' :=by
 have h:bL w (b+1) (r::rs):=bL.behind a (m.rd.rows.perm g);have e:aW (r' ::rs)=aW (r::rs):=by unfold aW;rw[List.filterMap_cons,List.filterMap_cons,o]
 have j:bL w (b+1) (a_ s' L'):=by
  refine bL.perm ⟨fun x d=>?_,?_⟩ c.symm
  .rcases List.mem_cons.1 d with rfl|d
   .exact n
   exact h.own x (List.mem_cons_of_mem _ d)
  rw[e];exact h.nd
 refine⟨⟨?_,?_,q,t⟩,?_,d⟩
 .rw[←p];have:=m.rd.blk;simp[World.setCell,Array.getElem?_modify,this]
 .refine j.keep fun k f=>Below.heap_setCell _ _ _ _ ?_
  have:=(j.lt k f).1;show k≠b;omega
 refine(m.fr.trans (Fr.setCell _ _ _ _ _)).sub fun k f=>?_
 have l:=gI c k f;rw[e]at l;exact gI g.symm k (lQ k l)
theorem aL.tK(m:aL w0 b f0 w s L)(a:Bs){g:Nat}(hown:w'.ownsRow (b+1) 9 1 (.slice (some ⟨g,0,none⟩) (s.opn.length+1) cap) (s.opn.length+1) (s.opn.map sv++[sv a]))
 (d:w.grownBy w' (Value.slice L.oa s.opn.length L.oc).ownBlock) (c:(Value.slice L.oa s.opn.length L.oc).ownBlock=some g∨g=w.heap.size):
 aL w0 b f0 (w'.setCell ⟨b,10,none⟩ (.slice (some ⟨g,0,none⟩) (s.opn.length+1) cap)) {s with opn:=s.opn++[a]} {L with oa:=some ⟨g,0,none⟩,oc:=cap}:=by
 refine m.grow (r:=cO s L) (r' :=cO {s with opn:=s.opn++[a]} {L with oa:=some ⟨g,0,none⟩,oc:=cap}) (rs:=dJ s L::bK s L::(L.es.map aN++L.gs.map dK)) 10 _ (jd _ _ _) (jd _ _ _) ?_ d ?_ ?_ m.rd.evs m.rd.je m.gs
 .show World.ownsRow _ _ _ _ _ _ _;simp only[cO,List.length_append,List.length_cons,List.length_nil,Nat.zero_add,List.map_append,List.map_cons,List.map_nil];exact hown
 .rcases c with h|h
  .exact .inl h.symm
  exact .inr (by rw[h];rfl)
 simp[aF]
theorem aL.JU(m:aL w0 b f0 w s L)(a:s.opn≠[]):aL w0 b f0 (w.setCell ⟨b,10,none⟩ (.slice L.oa (s.opn.length - 1) L.oc)) {s with opn:=s.opn.dropLast} L:=by
 have e:0<s.opn.length:=List.length_pos_iff.2 a;refine m.swap (r:=cO s L) (r' :=cO {s with opn:=s.opn.dropLast} L) (rs:=dJ s L::bK s L::(L.es.map aN++L.gs.map dK)) [] 10 _ (jd _ _ _) (jd _ _ _) ?_ ?_ ?_ m.rd.evs m.rd.je m.gs
 .have h:=m.rd.rows.own (cO s L) (by simp[a_]);obtain⟨n,c⟩:∃n,s.opn.length=n+1:=⟨s.opn.length - 1,by omega⟩;simp only[Row.owned,cO,c]at h;have d:=A_ h;simp only[Row.owned,cO,List.length_dropLast,c,Nat.add_sub_cancel];rw[Nat.mul_one,←List.map_take]at d;rw[List.dropLast_eq_take,c];exact d
 .show(Value.slice L.oa _ L.oc).ownBlock=(Value.slice L.oa _ L.oc).ownBlock;cases L.oa<;>rfl
 simp[aF]
theorem aL.JV(m:aL w0 b f0 w s L)(e:s.tags≠[])(j:∃k L0,aI w0 b k L0∧L0.gs.map (·.2)<+:L.gs.dropLast.map (·.2)):
 aL w0 b f0 (w.setCell ⟨b,11,none⟩ (.slice L.ga (s.tags.length - 1) L.gc)) {s with tags:=s.tags.dropLast} {L with gs:=L.gs.dropLast}:=by
 have q:0<s.tags.length:=List.length_pos_iff.2 e;have a:=m.rd.vV;have c:L.gs≠[]:=fun h=>by rw[h]at a;simp at a;omega
 obtain⟨p,l⟩:∃p,p=L.gs.getLast c:=⟨_,rfl⟩;have f:L.gs=L.gs.dropLast++[p]:=by rw[l];exact(List.dropLast_concat_getLast c).symm
 refine m.swap (r:=bK s L) (r' :=bK {s with tags:=s.tags.dropLast} {L with gs:=L.gs.dropLast}) (rs:=dJ s L::cO s L::(L.es.map aN++L.gs.dropLast.map dK)) [dK p] 11 _ ?_ (Pw _ _ _ _) ?_ ?_ ?_ m.rd.evs ?_ j
 .have o:a_ s L=dJ s L::cO s L::bK s L::(L.es.map aN++(L.gs.dropLast.map dK++[dK p])):=by
   unfold a_;have:L.gs.map dK=L.gs.dropLast.map dK++[dK p]:=by
    have i:=congrArg (List.map dK) f;rw[List.map_append]at i;exact i
   rw[this]
  rw[o,←List.append_assoc];have d:=qj (dK p) (dJ s L::cO s L::bK s L::(L.es.map aN++L.gs.dropLast.map dK)) [];rw[List.append_nil]at d;refine d.trans (.cons _ (Pw _ _ _ _))
 .have h:=m.rd.rows.own (bK s L) (by simp[a_]);obtain⟨n,g⟩:∃n,s.tags.length=n+1:=⟨s.tags.length - 1,by omega⟩;simp only[Row.owned,bK,g]at h;have d:=A_ h;simp only[Row.owned,bK,List.length_dropLast,g,Nat.add_sub_cancel];rw[Nat.mul_one,←List.map_take]at d;rw[List.dropLast_eq_take,a,g];exact d
 .show(Value.slice L.ga _ L.gc).ownBlock=(Value.slice L.ga _ L.gc).ownBlock;cases L.ga<;>rfl
 .simp[aF]
 show L.gs.dropLast.map (·.1)=s.tags.dropLast;rw[←m.rd.je,List.map_dropLast]
def fL(L:aH)(aC:List aD)(v:Value)(g cap:Nat):aH:={L with ga:=some ⟨g,0,none⟩,gc:=cap,gs:=L.gs++[(aC,v)]}
theorem aL.tL(m:aL w0 b f0 w s L)(c:List aD)(v:Value)(r:w.ownsRow (b+1) 69 3 v c.length (aV c))(t:∀k,v.ownBlock=some k→k∉aR s L)(hnew:∀k,v.ownBlock=some k→w0.heap.size≤k)
 {g:Nat} (hown:w'.ownsRow (b+1) 63 1 (.slice (some ⟨g,0,none⟩) (s.tags.length+1) cap) (s.tags.length+1) (L.gs.map (·.2)++[v]))
 (f:w.grownBy w' (Value.slice L.ga s.tags.length L.gc).ownBlock) (u:(Value.slice L.ga s.tags.length L.gc).ownBlock=some g∨g=w.heap.size):
 aL w0 b f0 (w'.setCell ⟨b,11,none⟩ (.slice (some ⟨g,0,none⟩) (s.tags.length+1) cap)) {s with tags:=s.tags++[c]} (fL L c v g cap):=by
 have D:bL w (b+1) (dK (c,v)::a_ s L):=by
  refine⟨fun x e=>?_,?_⟩
  .rcases List.mem_cons.1 e with rfl|e
   .exact r
   exact m.rd.rows.own x e
  unfold aW;rw[List.filterMap_cons];split
  .exact m.rd.rows.nd
  rename_i j E;exact List.nodup_cons.2 ⟨fun F=>t j E F,m.rd.rows.nd⟩
 have y:bL w (b+1) (bK s L::dK (c,v)::dJ s L::cO s L::(L.es.map aN++L.gs.map dK)):=D.perm (lm _ _ _ _ _);have G:(bK {s with tags:=s.tags++[c]} (fL L c v g cap)).owned w' (b+1):=by
  show World.ownsRow _ _ _ _ _ _ _;simp only[bK,fL,List.length_append,List.length_cons,List.length_nil,Nat.zero_add,List.map_append,List.map_cons,List.map_nil];exact hown
 have l:(bK {s with tags:=s.tags++[c]} (fL L c v g cap)).v.ownBlock=(bK s L).v.ownBlock∨(bK {s with tags:=s.tags++[c]} (fL L c v g cap)).v.ownBlock=some w.heap.size:=by
  rcases u with h|h
  .exact .inl h.symm
  exact .inr (by rw[h];rfl)
 have d:(a_ {s with tags:=s.tags++[c]} (fL L c v g cap)).Perm (bK {s with tags:=s.tags++[c]} (fL L c v g cap)::dK (c,v)::dJ s L::cO s L::(L.es.map aN++L.gs.map dK)):=by
  have H:a_ {s with tags:=s.tags++[c]} (fL L c v g cap)=dJ s L::cO s L::bK {s with tags:=s.tags++[c]} (fL L c v g cap)::((L.es.map aN++L.gs.map dK)++[dK (c,v)]):=by
   simp[a_,fL,dJ,cO]
  rw[H];have n:=qj (dK (c,v)) (dJ s L::cO s L::bK {s with tags:=s.tags++[c]} (fL L c v g cap)::(L.es.map aN++L.gs.map dK)) [];rw[List.append_nil]at n;exact n.trans (lm _ _ _ _ _)
 have o:=(y.grow G f l).perm d.symm;have z:some b≠(bK s L).v.ownBlock:=fun h=>by
  have:=(m.rd.rows.own (bK s L) (by simp[a_])).lt b h.symm;omega
 have p:w'.heap[b]?=some (.cells (aF s L).toArray 111 (0,0)):=(f.block b m.rd.lt z).trans m.rd.blk;have A:=m.fr.size;have hev:∀k,(bK s L).v.ownBlock=some k→k∈aR s L:=fun k i=>List.mem_filterMap.2 ⟨bK s L,by simp[a_],i⟩
 refine⟨⟨?_,?_,?_,?_⟩,⟨f.os.trans m.fr.os,f.tape.trans m.fr.tape,f.output.trans m.fr.output,?_,fun k i B C=>?_,fun k i=>?_⟩,?_⟩
 .have I:(aF s L).set 11 (.slice (some ⟨g,0,none⟩) (s.tags.length+1) cap)=aF {s with tags:=s.tags++[c]} (fL L c v g cap):=by simp[aF,fL]
  rw[←I];simp[World.setCell,Array.getElem?_modify,p]
 .refine o.keep fun k i=>Below.heap_setCell _ _ _ _ ?_
  have:=(o.lt k i).1;show k≠b;omega
 .exact m.rd.evs
 .simp[fL,m.rd.je]
 .have:=f.size;simp[World.setCell];omega
 .rw[Below.heap_setCell _ _ _ _ (by show k≠b;exact B)];refine(f.block k (by omega) fun h=>?_).trans (m.fr.block k i B C);rcases m.fr.aJ k (hev k h.symm)with n|n
  .exact C n
  omega
 .obtain⟨x,e,q⟩:=List.mem_filterMap.1 (gI d k i);rcases List.mem_cons.1 e with rfl|e
  .rcases l with h|h
   .exact m.fr.aJ k (hev k (h.symm.trans q))
   rw[q]at h;cases h;exact .inr A
  rcases List.mem_cons.1 e with rfl|e
  .exact .inr (hnew k q)
  refine m.fr.aJ k (List.mem_filterMap.2 ⟨x,?_,q⟩);have J:=(Pw (dJ s L) (cO s L) (bK s L) (L.es.map aN++L.gs.map dK)).mem_iff (a:=x);exact J.2 (List.mem_cons_of_mem _ e)
 obtain⟨K,L0,M,N⟩:=m.gs;refine⟨K,L0,M,N.trans ?_⟩;simp[fL]
end
theorem JW(n:Int):(lW n).length≤4:=by
 unfold lW
 (repeat' split)<;>simp
def kP(r:R)(m:Nat)(x:R×Bs×Bool):Prop:=Kp r x.1∧(x.2.2=true→∃k,r.at_+m≤k∧k≤r.s.length∧x.1={r with at_:=k}∧x.2.1.length≤4)
theorem nT{t:Bs}(h:Kp r r'):kP r m (r', t,false):=⟨h,fun e=>by cases e⟩
theorem kP.step{j:Nat}{x:R×Bs×Bool}(a:r.at_≤j)(b:j≤r.s.length)(h:kP {r with at_:=j} m x):kP r (j - r.at_+m) x:=by
 refine⟨(Kp.to a b).trans h.1,fun e=>?_⟩;obtain⟨k,c,d,f,g⟩:=h.2 e;simp only at c;exact⟨k,by omega,d,f,g⟩
theorem kP.less{a:Nat}{x:R×Bs×Bool}(h:kP r m x)(c:a≤m):kP r a x:=
 ⟨h.1,fun e=>by obtain⟨k,d,b⟩:=h.2 e;exact⟨k,by omega,b⟩⟩
theorem wG(base:Int)(first:Nat):∀(f:Nat) (r:R) (n:Int),r.at_≤r.s.length→kP r 1 (dG base first f r n)
 |0,r,n,h=>nT (Kp.refl h)
 |f+1,r,n,h=>by
  rw[dG];split
  .rename_i a;dsimp only;split
   .split
    .exact nT ((Kp.refl h).fail 4)
    exact⟨Kp.to (by omega) (by omega),fun _=>⟨r.at_+1,Nat.le_refl _,by omega,rfl,JW n⟩⟩
   split
   .exact nT ((Kp.refl h).fail 4)
   have:=wG base first f {r with at_:=r.at_+1} (n*base+Rf.digit (r.byte r.at_) base) (by show r.at_+1≤r.s.length;omega)
   exact(this.step (by omega) (by omega)).less (by omega)
  exact nT ((Kp.refl h).stop 1)
theorem JX(h:r.at_<r.s.length):kP r 2 (Rf.number r):=by
 unfold Rf.number;dsimp only;split
 .rename_i a;simp at a;have:=wG 16 (r.at_+1+1) (r.s.length+1) {r with at_:=r.at_+1+1} 0 (by show r.at_+1+1≤r.s.length;omega);exact(this.step (by omega) (by omega)).less (by omega)
 have:=wG 10 (r.at_+1) (r.s.length+1) {r with at_:=r.at_+1} 0 (by show r.at_+1≤r.s.length;omega);exact(this.step (by omega) (by omega)).less (by omega)
theorem wH(got:Bs):∀(l:List Bs) (b:Bool) (t:Bs) (a:Bool),gJ got l b=(some t,a)→t.length≤4
 |[],b,t,a,h=>by simp[gJ]at h
 |x::l,b,t,a,h=>by
  rw[gJ]at h;split at h
  .exact wH got l b t a h
  split at h
  .rename_i c;simp at h;rw[←h.1,List.length_drop];omega
  exact wH got l true t a h
theorem Ba(a:Nat):∀(f:Nat) (r:R),r.at_≤r.s.length→kP r 1 (fE a f r)
 |0,r,h=>nT (Kp.refl h)
 |f+1,r,h=>by
  rw[fE];split
  .rename_i b;split
   .exact(JX b).less (by omega)
   split
   .rename_i t d c;exact⟨Kp.to (by omega) (by omega),fun _=>⟨r.at_+1,Nat.le_refl _,by omega,rfl,wH _ _ _ _ _ c⟩⟩
   .have:=Ba a f {r with at_:=r.at_+1} (by show r.at_+1≤r.s.length;omega);exact(this.step (by omega) (by omega)).less (by omega)
   exact nT ((Kp.refl h).fail 4)
  exact nT ((Kp.refl h).stop 1)
theorem PD(h:r.at_<r.s.length):kP r 2 (Rf.reference r):=by
 unfold Rf.reference;have:=Ba (r.at_+1) (r.s.length+1) {r with at_:=r.at_+1} (by show r.at_+1≤r.s.length;omega);exact(this.step (by omega) (by omega)).less (by omega)
theorem wI(h:(Rf.word r).2.2=true):(Rf.word r).1={r with at_:=r.at_+Rf.run eY (r.s.drop r.at_)}∧r.at_+Rf.run eY (r.s.drop r.at_)<r.s.length∧(Rf.word r).2.1.length≤r.s.length:=by
 have:=mS eY (r.s.drop r.at_);rw[List.length_drop]at this;unfold Rf.word at h⊢;simp only at h⊢;split
 .rename_i a;rw[if_pos a]at h;cases h
 rename_i a;rw[if_neg a]at h;simp only[Bool.not_eq_true']at h;have b:=sW h;refine⟨b.1,b.2,?_⟩;rw[List.length_take,List.length_drop];omega
theorem qO(h:r.at_≤r.s.length)(y:1≤r.ot)(a:List aD):Kp r (Rf.attrName r a).1∧((Rf.attrName r a).2.2=true→r.at_<(Rf.attrName r a).1.at_∧(Rf.attrName r a).1.at_<r.s.length∧(Rf.attrName r a).2.1.length≤r.s.length):=by
 have n:=mS eY (r.s.drop r.at_);rw[List.length_drop]at n;rw[wF];split
 .rename_i o;simp only[Bool.and_eq_true,decide_eq_true_eq]at o;exact⟨(Kp.to (by omega) (by omega)).fail 7,fun e=>by cases e⟩
 have c:=jR h (by omega:0≤r.ot);split
 .rename_i p;have g:=wI p;have t:(Rf.word r).1.at_<(Rf.word r).1.s.length:=by rw[c.s,g.1];exact g.2.1
  generalize z:(Rf.word r).1=q at *;generalize(Rf.word r).2.1=nm at *;unfold pK;split
  .exact⟨c.fail 3,fun e=>by cases e⟩
  split
  .exact⟨c.fail 6,fun e=>by cases e⟩
  have d:=c.trans (gb (Nat.le_of_lt t));have i:=fS (r:=aP q) (by rw[d.s];exact d.len) 61;split
  .rename_i v;obtain⟨w,A⟩:=i.2 v;have j:=d.trans i.1;have B:r.at_<(Rf.must (aP q) 61).1.at_:=by rw[w];have:=d.gz;show r.at_<(aP q).at_+1;omega
   generalize(Rf.must (aP q) 61).1=u at *;have m:u.at_≤u.s.length:=by rw[j.s];exact j.len
   have b:=j.trans (gb m);have k:(aP u).at_≤(aP u).s.length:=by rw[b.s];exact b.len
   have f:=b.trans (Ay k);unfold pJ;split
   .exact⟨f,fun e=>by cases e⟩
   rename_i x;have l:=sW (by simpa using x);refine⟨f,fun _=>⟨?_,?_,g.2.2⟩⟩
   .have:=(gb m).gz;show r.at_<(Rf.ends (aP u)).1.at_;rw[l.1];omega
   show(Rf.ends (aP u)).1.at_<_;rw[l.1];have:=l.2;rw[b.s]at this;exact this
  exact⟨d.trans i.1,fun e=>by cases e⟩
 exact⟨c,fun e=>by cases e⟩
theorem Bb(q:Int):∀(f:Nat) (r:R) (t:Bs) (c:Int),r.at_≤r.s.length→Kp r (cN q f r t c).1
 |0,r,t,c,h=>.refl h
 |f+1,r,t,c,h=>by
  rw[cN];split
  .rename_i b;simp only;split
   .exact .to (by omega) (by omega)
   split
   .exact(Kp.refl h).fail 3
   split
   .dsimp only;exact qL (r:=r) (i:=r.at_) (Nat.le_refl _) (by omega)
   have a:Kp r (if r.byte r.at_==38 then Rf.reference r else((Rf.character r).1,if(Rf.character r).2.1=[10]∨(Rf.character r).2.1=[9]then[32]else(Rf.character r).2.1,(Rf.character r).2.2)).1:=by
    split
    .exact(PD b).1
    exact(gX b).1
   generalize(if r.byte r.at_==38 then Rf.reference r else((Rf.character r).1,if(Rf.character r).2.1=[10]∨(Rf.character r).2.1=[9]then[32]else(Rf.character r).2.1,(Rf.character r).2.2))=x at *;split
   .exact a.trans (Bb q f x.1 _ _ (by rw[a.s];exact a.len))
   exact a
  exact(Kp.refl h).stop 1
theorem qP(h:r.at_<r.s.length):Kp r (Rf.value r).1:=by
 unfold Rf.value;simp only;split
 .exact(Kp.refl (by omega)).fail 3
 exact(Kp.to (k:=r.at_+1) (by omega) (by omega)).trans (Bb _ _ _ _ _ (by show r.at_+1≤r.s.length;omega))
def nU(f:Nat)(from_:Nat)(r:R)(aC:List aD):R×List aD×Bool:=
 if r.at_<r.s.length then
  if r.byte r.at_==47||r.byte r.at_==62 then(r,aC,true)
  else if decide (r.at_=from_)|| !Rf.eC (r.byte r.at_)then(Rf.fail r 3,[],false)
  else if(aC.length:Int)==r.oa then(Rf.fail r 7,[],false)
  else if(Rf.attrName r aC).2.2 then
   (if(Rf.value (Rf.attrName r aC).1).2.2 then fQ f (Rf.value (Rf.attrName r aC).1).1 (aC++[⟨(Rf.attrName r aC).2.1,[],(Rf.value (Rf.attrName r aC).1).2.1⟩])
    else((Rf.value (Rf.attrName r aC).1).1,[],false))
  else((Rf.attrName r aC).1,[],false)
 else({r with stop:=1},[],false)
theorem qQ(f:Nat)(r:R)(a:List aD):fQ (f+1) r a=nU f r.at_ (aP r) a:=by
 rw[fQ];unfold nU;simp only;generalize aP r=q;split
 .split
  .rfl
  split
  .rfl
  split
  .rfl
  cases(Rf.attrName q a).2.2
  .rfl
  simp only[Bool.not_true,Bool.false_eq_true,if_false,if_true];cases(Rf.value (Rf.attrName q a).1).2.2<;>rfl
 rfl
def Ax(r:R)(x:R×List aD×Bool):Prop:=Kp r x.1∧Sh x.2.1∧(x.2.2=true→x.1.at_<r.s.length)
theorem pM(h:Kp r r'):Ax r (r', [],false):=⟨h,fun a b=>(by cases b),fun e=>by cases e⟩
theorem Bc:∀(f:Nat) (r:R) (b:List aD),r.at_≤r.s.length→1≤r.ot→r.s.length≤100000000→Sh b→Ax r (fQ f r b)
 |0,r,b,h,_,_,_=>pM (.refl h)
 |f+1,r,b,h,k,j,g=>by
  rw[qQ];have d:=gb h;have n:(aP r).at_≤(aP r).s.length:=by rw[d.s];exact d.len
  have o:1≤(aP r).ot:=by rw[d.ot];exact k
  generalize aP r=q at *;unfold nU;split
  .rename_i l;split
   .exact⟨d,g,fun _=>by rw[d.s]at l;exact l⟩
   split
   .exact pM (d.fail 3)
   split
   .exact pM (d.fail 7)
   have i:=qO n o b;split
   .rename_i p;obtain⟨y,t,u⟩:=i.2 p;have v:=d.trans i.1;generalize Rf.attrName q b=x at *;have w:=qP (r:=x.1) (by rw[i.1.s];exact t);have c:=v.trans w;split
    .have:=Bc f (Rf.value x.1).1 (b++[⟨x.2.1,[],(Rf.value x.1).2.1⟩]) (by rw[c.s];exact c.len) (by rw[c.ot];exact k) (by rw[c.s];exact j) (fun a m=>by
      rcases List.mem_append.1 m with m|m
      .exact g a m
      simp only[List.mem_cons,List.not_mem_nil,or_false]at m
      subst m
      show x.2.1.length≤_
      have:=d.s
      rw[this]at u
      omega)
     exact⟨c.trans this.1,this.2.1,fun e=>by have:=this.2.2 e;rw[c.s]at this;exact this⟩
    exact pM c
   exact pM (d.trans i.1)
  exact pM (d.stop 1)
theorem Be(h:r.at_≤r.s.length)(c:1≤r.ot)(b:r.s.length≤100000000):Ax r (Rf.attributes r):=Bc _ r [] h c b (fun a d=>by cases d)
theorem nV{k:Nat}(b:r.at_<k)(a:k≤r.s.length)(e:Ev):Kp r (Rf.tell {r with at_:=k} e):=
 ⟨rfl,rfl,rfl,rfl,rfl,by show r.at_≤k;omega,a,by simp[Rf.tell];omega,rfl,rfl⟩
theorem wJ:∀(f:Nat) (r:R) (t:Bs) (c:Int),r.at_≤r.s.length→Kp r (eG f r t c).1
 |0,r,t,c,h=>by rw[eG];exact .refl h
 |f+1,r,t,c,d=>by
  rw[eG];split
  .rename_i h;split
   .split
    .dsimp only;exact qL (r:=r) (i:=r.at_) (Nat.le_refl _) (by omega)
    have a:=gX h;simp only;split
    .exact a.1.trans (wJ f _ _ _ (by rw[a.1.s];exact a.1.len))
    exact a.1
   split
   .exact(Kp.to (by omega) (Nat.le_refl _)).stop 1
   rename_i e;split
   .rename_i b;have g:r.at_+2<r.s.length:=by
     simp at b;have:¬(r.at_+2=r.s.length):=fun h=>e (.inr ⟨h,b⟩)
     omega
    split
    .exact(Kp.to (by omega) (by omega)).fail 3
    exact nV (by omega) (by omega) _
   split
   .dsimp only;exact qL (r:=r) (i:=r.at_+1) (by omega) (by omega)
   exact(Kp.to (r:=r) (k:=r.at_+1) (by omega) (by omega)).trans (wJ f _ _ _ (by simp;omega))
  exact(Kp.refl d).stop 1
theorem tN(h:r.at_≤r.s.length):Kp r (Rf.comment r).1:=by
 have a:=(fS h 45).1;unfold Rf.comment;simp only;split
 .exact a.trans (wJ _ _ _ _ (by rw[a.s];exact a.len))
 exact a
theorem Bf(nm:Bs):∀(f:Nat) (r:R) (t:Bs) (c:Int),r.at_≤r.s.length→Kp r (dZ nm f r t c).1
 |0,r,t,c,h=>by rw[dZ];exact .refl h
 |f+1,r,t,c,e=>by
  rw[dZ];split
  .rename_i h;split
   .rename_i a;simp at a;exact(Kp.to (r:=r) (k:=r.at_+1) (by omega) (by omega)).stop 1
   rename_i a;split
   .rename_i b;simp at a b;have:=a b.1;exact nV (by omega) (by omega) _
   split
   .rename_i b;simp at a b;have:=a b.1;dsimp only;exact qL (r:=r) (i:=r.at_+1) (by omega) (by omega)
   split
   .dsimp only;exact qL (r:=r) (i:=r.at_) (Nat.le_refl _) (by omega)
   have d:=gX h;simp only;split
   .exact d.1.trans (Bf nm f _ _ _ (by rw[d.1.s];exact d.1.len))
   exact d.1
  exact(Kp.refl e).stop 1
theorem JY(nm:Bs)(h:r.at_<r.s.length):Kp r (qN r nm).1:=by
 unfold qN;have a:Kp r r:=.refl (by omega);split
 .exact a.fail 3
 split
 .exact a.fail 3
 split
 .exact a.fail 8
 split
 .have d:Kp r {r with at_:=r.at_+1}:=.to (by omega) (by omega);have c:=fS (r:={r with at_:=r.at_+1}) (by simp;omega) 62;simp only;split
  .rename_i e;obtain⟨f,g⟩:=c.2 e;rw[f];exact nV (k:=r.at_+1+1) (by omega) (by simp at g;omega) _
  exact d.trans c.1
 have b:=gb (r:=r) (by omega);exact b.trans (Bf nm _ _ _ _ (by rw[b.s];exact b.len))
theorem tO(h:r.at_≤r.s.length)(a:0≤r.ot):Kp r (Rf.jO r).1:=by
 rw[Qm];split
 .split
  .exact(Kp.refl h).fail 3
  split
  .exact jR h a
  rename_i b;obtain⟨k,c,d,_⟩:=tH (r:=r) (by simpa using b);refine(jR h a).trans (JY _ ?_);rw[c];exact d
 exact(Kp.refl h).stop 1
end Go.Proofs.YtmgfijllcdadgaaGreatDoor.V
