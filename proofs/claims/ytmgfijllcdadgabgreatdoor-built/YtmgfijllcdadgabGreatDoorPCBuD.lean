/- BuD -/
import Derived.Test.YtmgfijllcdadgabGreatDoorPCSkA
import Derived.Deep.DeepCutAuto
set_option linter.unusedVariables false
set_option linter.unusedSimpArgs false
namespace Go.Proofs.YtmgfijllcdadgabGreatDoor
open Go.RowKit
open Mk (St Bs Ev Att)
theorem cat_two (a c:Bs):((⟨a.toArray⟩:ByteArray) ++ (⟨c.toArray⟩:ByteArray))=⟨(a ++ c).toArray⟩:=by
  apply ByteArray.ext
  simp
section
variable {n0:Nat} {w wx w' : World} {b:Nat} {code:Bs} {p q:Nat} {es:List (Ev × Value)} {o:List Bs} {L:BLay} {v:Value} {ds:List Att}
def BLow (N:Nat) (b:Nat) (es:List (Ev × Value)) (o:List Bs) (L:BLay):Prop:=b<N∧(∀ k ∈ blks (bdRows es o L),k<N)∧∀ x ∈ es, ∀ k,x.2.ownBlock=some k→k<N
theorem BdR.low (h:BdR n0 w b code p es o L):BLow w.heap.size b es o L:=
  ⟨h.lt,fun k hk=>(h.br.rows.lt k hk).2,fun x hx k hk=>(World.ownsRow.lt (h.ats x hx) k hk).2⟩
theorem BdR.keepN {N:Nat} (h:BdR n0 wx b code p es o L) (hN:BLow N b es o L) (hk:∀ k,k<N→w'.heap[k]? = wx.heap[k]?):BdR n0 w' b code p es o L:=
  ⟨h.br.keep fun k hm=>hk k (by rcases hm with rfl | hm;exact hN.1;exact hN.2.1 k hm),fun x hx=>owned_keep (h.ats x hx) fun k hv=>hk k (hN.2.2 x hx k hv),h.ap⟩
structure StA (n0:Nat) (w wx:World) (b:Nat) (code:Bs) (p:Nat) (es:List (Ev × Value)) (o:List Bs) (L:BLay) (v:Value) (ds:List Att):Prop where
  bd:BdR n0 wx b code p es o L
  row:wx.ownsRow w.heap.size 112 3 v ds.length (atsRow ds)
  bel:Below n0 w wx
  low:BLow w.heap.size b es o L
theorem StA.sz (h:StA n0 w wx b code p es o L v ds):w.heap.size≤wx.heap.size:=h.bel.size
theorem StA.next (h:StA n0 w wx b code p es o L v ds) (g:BdR n0 w' b code q es o L) (ho:Only wx w' b):StA n0 w w' b code q es o L v ds:=by
  have hb:=h.bd.br.hb
  have hl:=h.low.1
  refine ⟨g,owned_keep (r:=⟨112,3,_,_,_⟩) h.row fun k hk=>ho.block k (by have:=(World.ownsRow.lt h.row k hk).1;omega),h.bel.trans (ho.below hb (by have:=h.sz;omega)),h.low⟩
theorem StA.push (h:StA n0 w wx b code p es o L v ds) {m:List Att} {g cap:Nat} {ob:Obj} (hown:w'.ownsRow w.heap.size 112 3 (.slice (some ⟨g,0,none⟩) (ds.length + m.length) cap) (ds.length + m.length) (atsRow ds ++ atsRow m)) (hg:(wx.alloc ob).grownBy w' v.ownBlock):StA n0 w w' b code p es o L (.slice (some ⟨g,0,none⟩) (ds.length + m.length) cap) (ds ++ m):=by
  have hsz:=h.sz
  have hblk:∀ k,k<w.heap.size→w'.heap[k]? = wx.heap[k]? := fun k hk=>by
    rw [hg.block k (by simp;omega) (fun e=>by have:=(World.ownsRow.lt h.row k e.symm).1;omega),Below.heap_alloc _ _ _ (by omega)]
  have hn:n0≤w.heap.size:=by have:=h.bd.br.hb;have:=h.low.1;omega
  refine ⟨h.bd.keepN h.low hblk,?_,?_,h.low⟩
  · have e:atsRow (ds ++ m)=atsRow ds ++ atsRow m:=by unfold atsRow;exact List.flatMap_append
    rw [e,List.length_append]
    exact hown
  · have hs:=hg.size
    refine h.bel.trans ⟨hg.os,hg.tape,hg.output,by simp at hs;omega,fun k hk=>hblk k (by omega)⟩
end
set_option maxHeartbeats 4000000 in
set_option maxRecDepth 100000 in
theorem bstart_any {n0:Nat} {w:World} {b:Nat} {code:Bs} {s:Bld} (h:BdX n0 w b code s) (hc:code.length≤200) (hT:GlB w) (hn:6<n0) (hl:s.l.length≤1000000) (hol:s.o.length≤1000) :
    Calls Tryz.prog 47 #[.pointer (some ⟨b,0,none⟩)] w fun r w' => r = .returned (.tuple #[])∧BdX n0 w' b code (bStart code s)∧Below n0 w w' := by
  obtain ⟨p,l,o⟩:=s
  obtain ⟨es,L,rfl,h⟩:=h
  dsimp only at h hl hol
  have hlt:=h.lt
  have hn0:=h.br.hb
  have hle:es.length≤1000000:=by simpa using hl
  have HT:=hide hT
  have H1:=hide (bnext_any h hc 6 (by decide) (by decide))
  have HN6:=hide (fun (W:World) (hW:BdR n0 W b code (bA code p) es o L)=>bnext_any hW hc 6 (by decide) (by decide))
  have HN4:=hide (fun (W:World) (q:Nat) (hW:BdR n0 W b code q es o L)=>bnext_any hW hc 4 (by decide) (by decide))
  have HN10:=hide (fun (W:World) (q:Nat) (hW:BdR n0 W b code q es o L)=>bnext_any hW hc 10 (by decide) (by decide))
  have hst0:StA n0 w w b code p es o L (.slice none 0 0) []:=⟨h,World.ownsRow_nil _ _ _ _,Below.refl _ _,h.low⟩
  have HS0:=hide hst0
  have hk6:=bN_lt code p 6 (by decide)
  have hk61:=bN_lt code (bA code p) 6 (by decide)
  obtain ⟨j0,ji,jz0,jz1,jz2⟩:=info_parts infoAt
  clear h hl hT hst0
  obtain ⟨nm,hnm⟩:∃ nm,nm=bTags.getD (bN code p 6) []:=⟨_,rfl⟩
  have HNM:=hide hnm
  go_enter Tryz.func47,Tryz.ntmps47
  go_wp2_with fail
  refine (unhide H1).mono ?_
  rintro e w1 ⟨rfl,g1,o1⟩
  have S1:=(unhide HS0).next g1 o1
  have hT1:=(unhide HT).keep hn S1.bel
  have ct:=hT1.ta (bN code p 6) hk6
  rw [← hnm] at ct
  have hcl:=g1.cell
  have hlt1:=g1.lt
  have hv:((bN code p 6:Nat):Int)<6:=by omega
  have hsz:6<w1.heap.size:=by have:=S1.bel.size;omega
  have HS1:=hide S1
  unfold bdCells at hcl
  clear g1 o1 S1 hT1 H1 HS0 hnm
  generalize hk0:bN code p 6=k0 at *
  have HK0:=hide hk0
  clear hk0
  go_upto_if 17 with fail
  go_cut [2,4] (fun s2 s4 wx=>∃ (kk:Int) (p1:Nat) (ds:List Att) (va:Option Addr) (vc:Nat),s2 = .int .i64 kk∧s4 = .slice va ds.length vc∧ds.length≤2∧Hid (StA n0 w wx b code p1 es o L (.slice va ds.length vc) ds)∧Hid ((o.length=0∧p1=bA code p∧ds=bOuter)∨(o.length ≠ 0∧p1=bA code (bA code p)∧ds=bDecl (bN code (bA code p) 6))))
  case first =>
    by_cases ho0:o.length=0
    · have t17:((o.length:Int) == 0)=true:=by simp [ho0]
      have HO0:=hide ho0
      clear ho0
      have HO:=hide (show (w1.alloc (.cells #[.string ⟨#[120,109,108,110,115,58,112]⟩,.string ⟨#[]⟩,.string ⟨#[117]⟩,.string ⟨#[120,109,108,110,115,58,113]⟩,.string ⟨#[]⟩,.string ⟨#[118]⟩] 112)).ownsRow w.heap.size 112 3 (.slice none 0 0) 0 ([]) from World.ownsRow.alloc (unhide HS1).row (.cells #[.string ⟨#[120,109,108,110,115,58,112]⟩,.string ⟨#[]⟩,.string ⟨#[117]⟩,.string ⟨#[120,109,108,110,115,58,113]⟩,.string ⟨#[]⟩,.string ⟨#[118]⟩] 112))
      have HB:=hide (show (w1.alloc (.cells #[.string ⟨#[120,109,108,110,115,58,112]⟩,.string ⟨#[]⟩,.string ⟨#[117]⟩,.string ⟨#[120,109,108,110,115,58,113]⟩,.string ⟨#[]⟩,.string ⟨#[118]⟩] 112)).heap[w1.heap.size]? = _ from heap_alloc_new w1 _)
      have HBB:=hide (show w.heap.size≤(w1.alloc (.cells #[.string ⟨#[120,109,108,110,115,58,112]⟩,.string ⟨#[]⟩,.string ⟨#[117]⟩,.string ⟨#[120,109,108,110,115,58,113]⟩,.string ⟨#[]⟩,.string ⟨#[118]⟩] 112)).heap.size by have:=(unhide HS1).sz;simp;omega)
      go_wp2_with (at_builtin;refine wpList_append_lies _ rfl _ _ 51 rfl w.heap.size 112 j0 _ 3 48 Tryz.underlying51 ji jz0 jz1 jz2 rfl (by decide) (.slice none 0 0) 0 ([]) (by simp [Act.eval]) (unhide HO) ⟨w1.heap.size,0,none⟩ 2 2 [.string ⟨#[120,109,108,110,115,58,112]⟩,.string ⟨#[]⟩,.string ⟨#[117]⟩,.string ⟨#[120,109,108,110,115,58,113]⟩,.string ⟨#[]⟩,.string ⟨#[118]⟩] (by simp [Act.eval]) rfl (World.news_of_block (unhide HB)) (by intro u hu;simp at hu;(repeat' (rcases hu with rfl | hu)) <;> first | rfl | (subst hu;rfl)) (by decide) (by unfold maxLen;omega) (by omega) (unhide HBB) (w1.heap.size + 1) (by simp) ?_;intro g6 cap6 w6 hown hgrow hat hlt6;have HS6:=hide (StA.push (unhide HS1) (m:=bOuter) (ob:=(.cells #[.string ⟨#[120,109,108,110,115,58,112]⟩,.string ⟨#[]⟩,.string ⟨#[117]⟩,.string ⟨#[120,109,108,110,115,58,113]⟩,.string ⟨#[]⟩,.string ⟨#[118]⟩] 112)) hown hgrow);clear hown hgrow hat HO HB HBB)
      go_meet
      exact ⟨_,_,bOuter,some ⟨g6,0,none⟩,cap6,rfl,rfl,by decide,unhide HS6,.inl ⟨unhide HO0,rfl,rfl⟩⟩
    · have t17:((o.length:Int) == 0)=false:=by rw [beq_eq_false_iff_ne];omega
      have HO0:=hide ho0
      clear ho0
      have HNX:=hide (unhide HN6 w1 (unhide HS1).bd)
      go_wp2_with fail
      refine (unhide HNX).mono ?_
      rintro e w2 ⟨rfl,g2,o2⟩
      have HS2:=hide ((unhide HS1).next g2 o2)
      obtain ⟨k1,hk1e⟩:∃ k1,k1=bN code (bA code p) 6:=⟨_,rfl⟩
      rw [← hk1e] at hk61 ⊢
      have HK1:=hide hk1e
      clear g2 o2 HNX hk1e hcl ct
      have hk1c:k1=0∨k1=1∨k1=2∨k1=3∨k1=4∨k1=5:=by omega
      clear hk61
      rcases hk1c with rfl | rfl | rfl | rfl | rfl | rfl
      · go_wp2
        go_meet
        exact ⟨_,_,[],none,0,rfl,rfl,by decide,unhide HS2,.inr ⟨unhide HO0,rfl,by rw [← unhide HK1];rfl⟩⟩
      · have HO:=hide (show (w2.alloc (.cells #[.string ⟨#[120,109,108,110,115,58,112]⟩,.string ⟨#[]⟩,.string ⟨#[119]⟩] 112)).ownsRow w.heap.size 112 3 (.slice none 0 0) 0 ([]) from World.ownsRow.alloc (unhide HS2).row (.cells #[.string ⟨#[120,109,108,110,115,58,112]⟩,.string ⟨#[]⟩,.string ⟨#[119]⟩] 112))
        have HB:=hide (show (w2.alloc (.cells #[.string ⟨#[120,109,108,110,115,58,112]⟩,.string ⟨#[]⟩,.string ⟨#[119]⟩] 112)).heap[w2.heap.size]? = _ from heap_alloc_new w2 _)
        have HBB:=hide (show w.heap.size≤(w2.alloc (.cells #[.string ⟨#[120,109,108,110,115,58,112]⟩,.string ⟨#[]⟩,.string ⟨#[119]⟩] 112)).heap.size by have:=(unhide HS2).sz;simp;omega)
        go_wp2_with (at_builtin;refine wpList_append_lies _ rfl _ _ 51 rfl w.heap.size 112 j0 _ 3 48 Tryz.underlying51 ji jz0 jz1 jz2 rfl (by decide) (.slice none 0 0) 0 ([]) (by simp [Act.eval]) (unhide HO) ⟨w2.heap.size,0,none⟩ 1 1 [.string ⟨#[120,109,108,110,115,58,112]⟩,.string ⟨#[]⟩,.string ⟨#[119]⟩] (by simp [Act.eval]) rfl (World.news_of_block (unhide HB)) (by intro u hu;simp at hu;(repeat' (rcases hu with rfl | hu)) <;> first | rfl | (subst hu;rfl)) (by decide) (by unfold maxLen;omega) (by omega) (unhide HBB) (w2.heap.size + 1) (by simp) ?_;intro g7 cap7 w7 hown hgrow hat hlt7;have HS7:=hide (StA.push (unhide HS2) (m:=[⟨nP,[],[119]⟩]) (ob:=(.cells #[.string ⟨#[120,109,108,110,115,58,112]⟩,.string ⟨#[]⟩,.string ⟨#[119]⟩] 112)) hown hgrow);clear hown hgrow hat HO HB HBB)
        go_meet
        exact ⟨_,_,[⟨nP,[],[119]⟩],some ⟨g7,0,none⟩,cap7,rfl,rfl,by decide,unhide HS7,.inr ⟨unhide HO0,rfl,by rw [← unhide HK1];rfl⟩⟩
      · have HO:=hide (show (w2.alloc (.cells #[.string ⟨#[120,109,108,110,115]⟩,.string ⟨#[]⟩,.string ⟨#[117]⟩,.string ⟨#[120,109,108,110,115,58,113]⟩,.string ⟨#[]⟩,.string ⟨#[117]⟩] 112)).ownsRow w.heap.size 112 3 (.slice none 0 0) 0 ([]) from World.ownsRow.alloc (unhide HS2).row (.cells #[.string ⟨#[120,109,108,110,115]⟩,.string ⟨#[]⟩,.string ⟨#[117]⟩,.string ⟨#[120,109,108,110,115,58,113]⟩,.string ⟨#[]⟩,.string ⟨#[117]⟩] 112))
        have HB:=hide (show (w2.alloc (.cells #[.string ⟨#[120,109,108,110,115]⟩,.string ⟨#[]⟩,.string ⟨#[117]⟩,.string ⟨#[120,109,108,110,115,58,113]⟩,.string ⟨#[]⟩,.string ⟨#[117]⟩] 112)).heap[w2.heap.size]? = _ from heap_alloc_new w2 _)
        have HBB:=hide (show w.heap.size≤(w2.alloc (.cells #[.string ⟨#[120,109,108,110,115]⟩,.string ⟨#[]⟩,.string ⟨#[117]⟩,.string ⟨#[120,109,108,110,115,58,113]⟩,.string ⟨#[]⟩,.string ⟨#[117]⟩] 112)).heap.size by have:=(unhide HS2).sz;simp;omega)
        go_wp2_with (at_builtin;refine wpList_append_lies _ rfl _ _ 51 rfl w.heap.size 112 j0 _ 3 48 Tryz.underlying51 ji jz0 jz1 jz2 rfl (by decide) (.slice none 0 0) 0 ([]) (by simp [Act.eval]) (unhide HO) ⟨w2.heap.size,0,none⟩ 2 2 [.string ⟨#[120,109,108,110,115]⟩,.string ⟨#[]⟩,.string ⟨#[117]⟩,.string ⟨#[120,109,108,110,115,58,113]⟩,.string ⟨#[]⟩,.string ⟨#[117]⟩] (by simp [Act.eval]) rfl (World.news_of_block (unhide HB)) (by intro u hu;simp at hu;(repeat' (rcases hu with rfl | hu)) <;> first | rfl | (subst hu;rfl)) (by decide) (by unfold maxLen;omega) (by omega) (unhide HBB) (w2.heap.size + 1) (by simp) ?_;intro g8 cap8 w8 hown hgrow hat hlt8;have HS8:=hide (StA.push (unhide HS2) (m:=[⟨Mk.wXmlns,[],[117]⟩,⟨nQ,[],[117]⟩]) (ob:=(.cells #[.string ⟨#[120,109,108,110,115]⟩,.string ⟨#[]⟩,.string ⟨#[117]⟩,.string ⟨#[120,109,108,110,115,58,113]⟩,.string ⟨#[]⟩,.string ⟨#[117]⟩] 112)) hown hgrow);clear hown hgrow hat HO HB HBB)
        go_meet
        exact ⟨_,_,[⟨Mk.wXmlns,[],[117]⟩,⟨nQ,[],[117]⟩],some ⟨g8,0,none⟩,cap8,rfl,rfl,by decide,unhide HS8,.inr ⟨unhide HO0,rfl,by rw [← unhide HK1];rfl⟩⟩
      · have HO:=hide (show (w2.alloc (.cells #[.string ⟨#[120,109,108,110,115]⟩,.string ⟨#[]⟩,.string ⟨#[]⟩] 112)).ownsRow w.heap.size 112 3 (.slice none 0 0) 0 ([]) from World.ownsRow.alloc (unhide HS2).row (.cells #[.string ⟨#[120,109,108,110,115]⟩,.string ⟨#[]⟩,.string ⟨#[]⟩] 112))
        have HB:=hide (show (w2.alloc (.cells #[.string ⟨#[120,109,108,110,115]⟩,.string ⟨#[]⟩,.string ⟨#[]⟩] 112)).heap[w2.heap.size]? = _ from heap_alloc_new w2 _)
        have HBB:=hide (show w.heap.size≤(w2.alloc (.cells #[.string ⟨#[120,109,108,110,115]⟩,.string ⟨#[]⟩,.string ⟨#[]⟩] 112)).heap.size by have:=(unhide HS2).sz;simp;omega)
        go_wp2_with (at_builtin;refine wpList_append_lies _ rfl _ _ 51 rfl w.heap.size 112 j0 _ 3 48 Tryz.underlying51 ji jz0 jz1 jz2 rfl (by decide) (.slice none 0 0) 0 ([]) (by simp [Act.eval]) (unhide HO) ⟨w2.heap.size,0,none⟩ 1 1 [.string ⟨#[120,109,108,110,115]⟩,.string ⟨#[]⟩,.string ⟨#[]⟩] (by simp [Act.eval]) rfl (World.news_of_block (unhide HB)) (by intro u hu;simp at hu;(repeat' (rcases hu with rfl | hu)) <;> first | rfl | (subst hu;rfl)) (by decide) (by unfold maxLen;omega) (by omega) (unhide HBB) (w2.heap.size + 1) (by simp) ?_;intro g9 cap9 w9 hown hgrow hat hlt9;have HS9:=hide (StA.push (unhide HS2) (m:=[⟨Mk.wXmlns,[],[]⟩]) (ob:=(.cells #[.string ⟨#[120,109,108,110,115]⟩,.string ⟨#[]⟩,.string ⟨#[]⟩] 112)) hown hgrow);clear hown hgrow hat HO HB HBB)
        go_meet
        exact ⟨_,_,[⟨Mk.wXmlns,[],[]⟩],some ⟨g9,0,none⟩,cap9,rfl,rfl,by decide,unhide HS9,.inr ⟨unhide HO0,rfl,by rw [← unhide HK1];rfl⟩⟩
      · go_wp2
        go_meet
        exact ⟨_,_,[],none,0,rfl,rfl,by decide,unhide HS2,.inr ⟨unhide HO0,rfl,by rw [← unhide HK1];rfl⟩⟩
      · go_wp2
        go_meet
        exact ⟨_,_,[],none,0,rfl,rfl,by decide,unhide HS2,.inr ⟨unhide HO0,rfl,by rw [← unhide HK1];rfl⟩⟩
  case rest =>
  obtain ⟨kk,p1,ds,va,vc,rfl,rfl,hdl,HS,HD⟩:=hcut
  have HFIN:Hid (∀ k v1 v2 q,k=bN code p1 4→v1=bN code (bA code p1) 10→v2=bN code (bA code (bA code p1)) 10→q=bRestP code p1→bStart code ⟨p,es.map (·.1),o⟩=⟨q,es.map (·.1) ++ [⟨1,nm,[],[],ds ++ bAtts k v1 v2⟩],o ++ [nm]⟩):=by
    rintro k v1 v2 q rfl rfl rfl rfl
    rw [unhide HNM, ← unhide HK0]
    unfold bStart
    dsimp only
    rcases unhide HD with ⟨h1,h2,h3⟩ | ⟨h1,h2,h3⟩
    · rw [if_pos h1,h2,h3];rfl
    · rw [if_neg h1,h2,h3];rfl
  have HNX:=hide (unhide HN4 wc p1 (unhide HS).bd)
  have hk4:=bN_lt code p1 4 (by decide)
  have hv1:=bN_lt code (bA code p1) 10 (by decide)
  have hv2:=bN_lt code (bA code (bA code p1)) 10 (by decide)
  obtain ⟨i1,hi1,hy0,hy1,hy2⟩:=info_parts infoStr
  go_wp2_with fail
  refine (unhide HNX).mono ?_
  rintro e w3 ⟨rfl,g3,o3⟩
  have HS3:=hide ((unhide HS).next g3 o3)
  clear g3 o3 HNX HS HD HNM HS1 HN6 HN4 hcl ct
  have hk4c:bN code p1 4=0∨bN code p1 4=1∨bN code p1 4=2∨bN code p1 4=3:=by omega
  obtain ⟨k4,hk4e⟩:∃ k4,k4=bN code p1 4:=⟨_,rfl⟩
  rw [← hk4e] at hk4c ⊢
  have HK4:=hide hk4e
  clear hk4 hk4e
  rcases hk4c with rfl | rfl | rfl | rfl
  · have S9:=unhide HS3
    have hroE:(evRow (⟨1,nm,[],[],ds⟩,(Value.slice va (ds).length vc))).owned w3 n0:=by
      have:=S9.row
      exact ownsRow_base this (by have:=S9.low.1;omega)
    have hapE:∀ z,(Value.slice va (ds).length vc).ownBlock=some z→z ≠ b∧z ∉ blks (bdRows es o L):=fun z hz=>by
      have q1:=(World.ownsRow.lt S9.row z hz).1
      exact ⟨by have:=S9.low.1;omega,fun hm=>by have:=S9.low.2.1 z hm;omega⟩
    have HTL:=hide (btell_any S9.bd 1 nm [] [] (ds) va vc hroE hapE hle)
    have HBE:=hide (unhide HS3).bel
    clear hroE hapE S9
    go_wp2_with fail
    refine (unhide HTL).mono ?_
    rintro e wt ⟨rfl,Lt,gt,bt⟩
    have hbT:=(unhide HBE).trans bt
    have hA:=gt.below ((Below.refl wt.heap.size wt).alloc (Nat.le_refl _) (.cells #[.string ⟨nm.toArray⟩] 9))
    have hclt:=gt.cell
    have hltt:=gt.lt
    unfold bdCells at hclt
    have HA:=hide (And.intro hA hbT)
    have HO:=hide (show (wt.alloc (.cells #[.string ⟨nm.toArray⟩] 9)).ownsRow n0 9 1 (.slice Lt.oa o.length Lt.oc) o.length (o.map sv) from hA.br.rows.own (boRow o Lt) (by simp [bdRows]))
    have HB:=hide (show (wt.alloc (.cells #[.string ⟨nm.toArray⟩] 9)).heap[wt.heap.size]? = _ from heap_alloc_new wt _)
    have HBB:=hide (show n0≤(wt.alloc (.cells #[.string ⟨nm.toArray⟩] 9)).heap.size by simp;omega)
    clear gt bt hbT hA HTL HBE
    go_wp2_with (at_builtin;refine wpList_append_lies _ rfl _ _ 22 rfl n0 9 i1 _ 1 16 Tryz.underlying22 hi1 hy0 hy1 hy2 rfl (by decide) (.slice Lt.oa o.length Lt.oc) o.length (o.map sv) (by simp [Act.eval]) (unhide HO) ⟨wt.heap.size,0,none⟩ 1 1 [.string ⟨nm.toArray⟩] (by simp [Act.eval]) rfl (World.news_of_block (unhide HB)) (by intro u hu;simp at hu;subst hu;rfl) (by decide) (by unfold maxLen;omega) (by omega) (unhide HBB) (wt.heap.size + 1) (by simp) ?_;intro gz capz wz hown hgrow hat hltz;obtain ⟨hr,hfr,hbl⟩:=BR.after (unhide HA).1.br (r:=boRow o Lt) (by simp [bdRows]) hgrow;have HP:=hide ((unhide HA).1.open nm hown hgrow (by simpa using hat));unfold bdCells at hr;clear hown hgrow hat HO HB HBB)
    go_end0
    have hfin:=unhide HFIN 0 _ _ _ (unhide HK4) rfl rfl rfl
    refine ⟨rfl,?_,(unhide HA).2.trans (((Below.refl wt.heap.size wt).alloc (Nat.le_refl _) _ |>.mono (by omega)).trans (unhide HP).2)⟩
    rw [hfin]
    have hq:bRestP code p1=bA code p1:=by unfold bRestP;rw [← unhide HK4];rfl
    have hbx:=(unhide HP).1
    rw [← hq] at hbx
    exact ⟨_,_,by simp [bAtts],hbx⟩
  · have HNX:=hide (unhide HN10 w3 (bA code p1) (unhide HS3).bd)
    go_wp2_with fail
    refine (unhide HNX).mono ?_
    rintro e w100 ⟨rfl,g100,o100⟩
    have HS100:=hide ((unhide HS3).next g100 o100)
    have cv:=((unhide HT).keep hn (unhide HS100).bel).va _ hv1
    have hsz3:6<w100.heap.size:=by have:=(unhide HS100).bel.size;omega
    have hvI:((bN code (bA code p1) 10:Nat):Int)<10:=by omega
    have hxl:=bVal_len (bN code (bA code p1) 10)
    have hcat:¬ 9223372036854775807<(bVal (bN code (bA code p1) 10)).length + (bVal (bN code (bA code p1) 10)).length:=by omega
    clear g100 o100 HNX
    have HO:=hide (show (w100.alloc (.cells #[.string ⟨#[107]⟩,.string ⟨#[]⟩,.string ⟨(bVal (bN code (bA code p1) 10)).toArray⟩] 112)).ownsRow w.heap.size 112 3 (.slice va ds.length vc) ds.length (atsRow ds) from World.ownsRow.alloc (unhide HS100).row (.cells #[.string ⟨#[107]⟩,.string ⟨#[]⟩,.string ⟨(bVal (bN code (bA code p1) 10)).toArray⟩] 112))
    have HB:=hide (show (w100.alloc (.cells #[.string ⟨#[107]⟩,.string ⟨#[]⟩,.string ⟨(bVal (bN code (bA code p1) 10)).toArray⟩] 112)).heap[w100.heap.size]? = _ from heap_alloc_new w100 _)
    have HBB:=hide (show w.heap.size≤(w100.alloc (.cells #[.string ⟨#[107]⟩,.string ⟨#[]⟩,.string ⟨(bVal (bN code (bA code p1) 10)).toArray⟩] 112)).heap.size by have:=(unhide HS100).sz;simp;omega)
    go_upto_if 59 with (at_builtin;refine wpList_append_lies _ rfl _ _ 51 rfl w.heap.size 112 j0 _ 3 48 Tryz.underlying51 ji jz0 jz1 jz2 rfl (by decide) (.slice va ds.length vc) ds.length (atsRow ds) (by simp [Act.eval]) (unhide HO) ⟨w100.heap.size,0,none⟩ 1 1 [.string ⟨#[107]⟩,.string ⟨#[]⟩,.string ⟨(bVal (bN code (bA code p1) 10)).toArray⟩] (by simp [Act.eval]) rfl (World.news_of_block (unhide HB)) (by intro u hu;simp at hu;(repeat' (rcases hu with rfl | hu)) <;> first | rfl | (subst hu;rfl)) (by decide) (by unfold maxLen;omega) (by omega) (unhide HBB) (w100.heap.size + 1) (by simp) ?_;intro g10 cap10 w10 hown hgrow hat hlt10;have HS10:=hide (StA.push (unhide HS100) (m:=[⟨nK,[],bVal (bN code (bA code p1) 10)⟩]) (ob:=(.cells #[.string ⟨#[107]⟩,.string ⟨#[]⟩,.string ⟨(bVal (bN code (bA code p1) 10)).toArray⟩] 112)) hown hgrow);clear hown hgrow hat HO HB HBB)
    clear cv hsz3 hvI hxl hcat
    obtain ⟨dsA,hdsA⟩:∃ z,z=ds ++ [(⟨nK,[],bVal (bN code (bA code p1) 10)⟩:Att)]:=⟨_,rfl⟩
    have hlA:ds.length + 1=dsA.length:=by rw [hdsA];simp
    have HTA:Hid (StA n0 w w10 b code (bA code (bA code p1)) es o L (.slice (some ⟨g10,0,none⟩) dsA.length cap10) dsA):=by rw [← hlA,hdsA];exact HS10
    have hdA:dsA.length≤6:=by omega
    have HLA:Hid (dsA.length≤3):=by show _≤_;omega
    have HDA:=hide hdsA
    rw [hlA]
    clear HS10 hdsA hlA
    have S9:=unhide HTA
    have hroE:(evRow (⟨1,nm,[],[],dsA⟩,(Value.slice (some ⟨g10,0,none⟩) (dsA).length cap10))).owned w10 n0:=by
      have:=S9.row
      exact ownsRow_base this (by have:=S9.low.1;omega)
    have hapE:∀ z,(Value.slice (some ⟨g10,0,none⟩) (dsA).length cap10).ownBlock=some z→z ≠ b∧z ∉ blks (bdRows es o L):=fun z hz=>by
      have q1:=(World.ownsRow.lt S9.row z hz).1
      exact ⟨by have:=S9.low.1;omega,fun hm=>by have:=S9.low.2.1 z hm;omega⟩
    have HTL:=hide (btell_any S9.bd 1 nm [] [] (dsA) (some ⟨g10,0,none⟩) cap10 hroE hapE hle)
    have HBE:=hide (unhide HTA).bel
    clear hroE hapE S9
    go_wp2_with fail
    refine (unhide HTL).mono ?_
    rintro e wt ⟨rfl,Lt,gt,bt⟩
    have hbT:=(unhide HBE).trans bt
    have hA:=gt.below ((Below.refl wt.heap.size wt).alloc (Nat.le_refl _) (.cells #[.string ⟨nm.toArray⟩] 9))
    have hclt:=gt.cell
    have hltt:=gt.lt
    unfold bdCells at hclt
    have HA:=hide (And.intro hA hbT)
    have HO:=hide (show (wt.alloc (.cells #[.string ⟨nm.toArray⟩] 9)).ownsRow n0 9 1 (.slice Lt.oa o.length Lt.oc) o.length (o.map sv) from hA.br.rows.own (boRow o Lt) (by simp [bdRows]))
    have HB:=hide (show (wt.alloc (.cells #[.string ⟨nm.toArray⟩] 9)).heap[wt.heap.size]? = _ from heap_alloc_new wt _)
    have HBB:=hide (show n0≤(wt.alloc (.cells #[.string ⟨nm.toArray⟩] 9)).heap.size by simp;omega)
    clear gt bt hbT hA HTL HBE
    go_wp2_with (at_builtin;refine wpList_append_lies _ rfl _ _ 22 rfl n0 9 i1 _ 1 16 Tryz.underlying22 hi1 hy0 hy1 hy2 rfl (by decide) (.slice Lt.oa o.length Lt.oc) o.length (o.map sv) (by simp [Act.eval]) (unhide HO) ⟨wt.heap.size,0,none⟩ 1 1 [.string ⟨nm.toArray⟩] (by simp [Act.eval]) rfl (World.news_of_block (unhide HB)) (by intro u hu;simp at hu;subst hu;rfl) (by decide) (by unfold maxLen;omega) (by omega) (unhide HBB) (wt.heap.size + 1) (by simp) ?_;intro gz capz wz hown hgrow hat hltz;obtain ⟨hr,hfr,hbl⟩:=BR.after (unhide HA).1.br (r:=boRow o Lt) (by simp [bdRows]) hgrow;have HP:=hide ((unhide HA).1.open nm hown hgrow (by simpa using hat));unfold bdCells at hr;clear hown hgrow hat HO HB HBB)
    go_end0
    have hfin:=unhide HFIN 1 _ _ _ (unhide HK4) rfl rfl rfl
    refine ⟨rfl,?_,(unhide HA).2.trans (((Below.refl wt.heap.size wt).alloc (Nat.le_refl _) _ |>.mono (by omega)).trans (unhide HP).2)⟩
    rw [hfin]
    have hq:bRestP code p1=bA code (bA code p1):=by unfold bRestP;rw [← unhide HK4];rfl
    have hbx:=(unhide HP).1
    rw [← hq] at hbx
    exact ⟨_,_,by rw [unhide HDA];simp [bAtts],hbx⟩
  · have HNX:=hide (unhide HN10 w3 (bA code p1) (unhide HS3).bd)
    go_wp2_with fail
    refine (unhide HNX).mono ?_
    rintro e w100 ⟨rfl,g100,o100⟩
    have HS100:=hide ((unhide HS3).next g100 o100)
    have cv:=((unhide HT).keep hn (unhide HS100).bel).va _ hv1
    have hsz3:6<w100.heap.size:=by have:=(unhide HS100).bel.size;omega
    have hvI:((bN code (bA code p1) 10:Nat):Int)<10:=by omega
    have hxl:=bVal_len (bN code (bA code p1) 10)
    have hcat:¬ 9223372036854775807<(bVal (bN code (bA code p1) 10)).length + (bVal (bN code (bA code p1) 10)).length:=by omega
    clear g100 o100 HNX
    have HO:=hide (show (w100.alloc (.cells #[.string ⟨#[107]⟩,.string ⟨#[]⟩,.string ⟨(bVal (bN code (bA code p1) 10)).toArray⟩] 112)).ownsRow w.heap.size 112 3 (.slice va ds.length vc) ds.length (atsRow ds) from World.ownsRow.alloc (unhide HS100).row (.cells #[.string ⟨#[107]⟩,.string ⟨#[]⟩,.string ⟨(bVal (bN code (bA code p1) 10)).toArray⟩] 112))
    have HB:=hide (show (w100.alloc (.cells #[.string ⟨#[107]⟩,.string ⟨#[]⟩,.string ⟨(bVal (bN code (bA code p1) 10)).toArray⟩] 112)).heap[w100.heap.size]? = _ from heap_alloc_new w100 _)
    have HBB:=hide (show w.heap.size≤(w100.alloc (.cells #[.string ⟨#[107]⟩,.string ⟨#[]⟩,.string ⟨(bVal (bN code (bA code p1) 10)).toArray⟩] 112)).heap.size by have:=(unhide HS100).sz;simp;omega)
    go_upto_if 59 with (at_builtin;refine wpList_append_lies _ rfl _ _ 51 rfl w.heap.size 112 j0 _ 3 48 Tryz.underlying51 ji jz0 jz1 jz2 rfl (by decide) (.slice va ds.length vc) ds.length (atsRow ds) (by simp [Act.eval]) (unhide HO) ⟨w100.heap.size,0,none⟩ 1 1 [.string ⟨#[107]⟩,.string ⟨#[]⟩,.string ⟨(bVal (bN code (bA code p1) 10)).toArray⟩] (by simp [Act.eval]) rfl (World.news_of_block (unhide HB)) (by intro u hu;simp at hu;(repeat' (rcases hu with rfl | hu)) <;> first | rfl | (subst hu;rfl)) (by decide) (by unfold maxLen;omega) (by omega) (unhide HBB) (w100.heap.size + 1) (by simp) ?_;intro g11 cap11 w11 hown hgrow hat hlt11;have HS11:=hide (StA.push (unhide HS100) (m:=[⟨nK,[],bVal (bN code (bA code p1) 10)⟩]) (ob:=(.cells #[.string ⟨#[107]⟩,.string ⟨#[]⟩,.string ⟨(bVal (bN code (bA code p1) 10)).toArray⟩] 112)) hown hgrow);clear hown hgrow hat HO HB HBB)
    clear cv hsz3 hvI hxl hcat
    obtain ⟨dsA,hdsA⟩:∃ z,z=ds ++ [(⟨nK,[],bVal (bN code (bA code p1) 10)⟩:Att)]:=⟨_,rfl⟩
    have hlA:ds.length + 1=dsA.length:=by rw [hdsA];simp
    have HTA:Hid (StA n0 w w11 b code (bA code (bA code p1)) es o L (.slice (some ⟨g11,0,none⟩) dsA.length cap11) dsA):=by rw [← hlA,hdsA];exact HS11
    have hdA:dsA.length≤6:=by omega
    have HLA:Hid (dsA.length≤3):=by show _≤_;omega
    have HDA:=hide hdsA
    rw [hlA]
    clear HS11 hdsA hlA
    have HNX:=hide (unhide HN10 w11 (bA code (bA code p1)) (unhide HTA).bd)
    go_wp2_with fail
    refine (unhide HNX).mono ?_
    rintro e w101 ⟨rfl,g101,o101⟩
    have HS101:=hide ((unhide HTA).next g101 o101)
    have cv:=((unhide HT).keep hn (unhide HS101).bel).va _ hv2
    have hsz3:6<w101.heap.size:=by have:=(unhide HS101).bel.size;omega
    have hvI:((bN code (bA code (bA code p1)) 10:Nat):Int)<10:=by omega
    have hxl:=bVal_len (bN code (bA code (bA code p1)) 10)
    have hcat:¬ 9223372036854775807<(bVal (bN code (bA code (bA code p1)) 10)).length + (bVal (bN code (bA code (bA code p1)) 10)).length:=by omega
    clear g101 o101 HNX
    have HO:=hide (show (w101.alloc (.cells #[.string ⟨#[112,58,107]⟩,.string ⟨#[]⟩,.string ((⟨(bVal (bN code (bA code (bA code p1)) 10)).toArray⟩:ByteArray) ++ (⟨(bVal (bN code (bA code (bA code p1)) 10)).toArray⟩:ByteArray))] 112)).drew.ownsRow w.heap.size 112 3 (.slice (some ⟨g11,0,none⟩) dsA.length cap11) dsA.length (atsRow dsA) from World.ownsRow.alloc (unhide HS101).row (.cells #[.string ⟨#[112,58,107]⟩,.string ⟨#[]⟩,.string ((⟨(bVal (bN code (bA code (bA code p1)) 10)).toArray⟩:ByteArray) ++ (⟨(bVal (bN code (bA code (bA code p1)) 10)).toArray⟩:ByteArray))] 112))
    have HB:=hide (show (w101.alloc (.cells #[.string ⟨#[112,58,107]⟩,.string ⟨#[]⟩,.string ((⟨(bVal (bN code (bA code (bA code p1)) 10)).toArray⟩:ByteArray) ++ (⟨(bVal (bN code (bA code (bA code p1)) 10)).toArray⟩:ByteArray))] 112)).drew.heap[w101.heap.size]? = _ from heap_alloc_new w101 _)
    have HBB:=hide (show w.heap.size≤(w101.alloc (.cells #[.string ⟨#[112,58,107]⟩,.string ⟨#[]⟩,.string ((⟨(bVal (bN code (bA code (bA code p1)) 10)).toArray⟩:ByteArray) ++ (⟨(bVal (bN code (bA code (bA code p1)) 10)).toArray⟩:ByteArray))] 112)).drew.heap.size by have:=(unhide HS101).sz;simp;omega)
    go_wp2_with fail
    go_region_law (refine step_append_lies _ rfl _ _ 51 rfl w.heap.size 112 j0 _ 3 48 Tryz.underlying51 ji jz0 jz1 jz2 rfl (by decide) (.slice (some ⟨g11,0,none⟩) dsA.length cap11) dsA.length (atsRow dsA) (by simp [Act.eval]) (unhide HO) ⟨w101.heap.size,0,none⟩ 1 1 [.string ⟨#[112,58,107]⟩,.string ⟨#[]⟩,.string ((⟨(bVal (bN code (bA code (bA code p1)) 10)).toArray⟩:ByteArray) ++ (⟨(bVal (bN code (bA code (bA code p1)) 10)).toArray⟩:ByteArray))] (by simp [Act.eval]) rfl (World.news_of_block (unhide HB)) (by intro u hu;simp at hu;(repeat' (rcases hu with rfl | hu)) <;> first | rfl | (subst hu;rfl)) (by decide) (by unfold maxLen;omega) (by omega) (unhide HBB) (w101.heap.size + 1) (by simp) ?_;intro g12 cap12 w12 hown hgrow hat hlt12;rw [cat_two] at hown;have HS12:=hide (StA.push (unhide HS101) (m:=[⟨nPK,[],bVal (bN code (bA code (bA code p1)) 10) ++ bVal (bN code (bA code (bA code p1)) 10)⟩]) (ob:=(.cells #[.string ⟨#[112,58,107]⟩,.string ⟨#[]⟩,.string ((⟨(bVal (bN code (bA code (bA code p1)) 10)).toArray⟩:ByteArray) ++ (⟨(bVal (bN code (bA code (bA code p1)) 10)).toArray⟩:ByteArray))] 112)) hown ⟨hgrow.os,hgrow.tape,hgrow.output,hgrow.size,hgrow.block⟩);clear hown hgrow hat HO HB HBB)
    all_goals
      clear cv hsz3 hvI hxl hcat
      go_upto_if 74 with fail
      obtain ⟨dsB,hdsB⟩:∃ z,z=dsA ++ [(⟨nPK,[],bVal (bN code (bA code (bA code p1)) 10) ++ bVal (bN code (bA code (bA code p1)) 10)⟩:Att)]:=⟨_,rfl⟩
      have hlB:dsA.length + 1=dsB.length:=by rw [hdsB];simp
      have HTB:Hid (StA n0 w w12 b code (bA code (bA code (bA code p1))) es o L (.slice (some ⟨g12,0,none⟩) dsB.length cap12) dsB):=by rw [← hlB,hdsB];exact HS12
      have hdB:dsB.length≤6:=by have:=unhide HLA;omega
      have HLB:Hid (dsB.length≤4):=by show _≤_;have:=unhide HLA;omega
      have HDB:=hide hdsB
      rw [hlB]
      clear HS12 hdsB hlB
      have S9:=unhide HTB
      have hroE:(evRow (⟨1,nm,[],[],dsB⟩,(Value.slice (some ⟨g12,0,none⟩) (dsB).length cap12))).owned w12 n0:=by
        have:=S9.row
        exact ownsRow_base this (by have:=S9.low.1;omega)
      have hapE:∀ z,(Value.slice (some ⟨g12,0,none⟩) (dsB).length cap12).ownBlock=some z→z ≠ b∧z ∉ blks (bdRows es o L):=fun z hz=>by
        have q1:=(World.ownsRow.lt S9.row z hz).1
        exact ⟨by have:=S9.low.1;omega,fun hm=>by have:=S9.low.2.1 z hm;omega⟩
      have HTL:=hide (btell_any S9.bd 1 nm [] [] (dsB) (some ⟨g12,0,none⟩) cap12 hroE hapE hle)
      have HBE:=hide (unhide HTB).bel
      clear hroE hapE S9
      go_wp2_with fail
      refine (unhide HTL).mono ?_
      rintro e wt ⟨rfl,Lt,gt,bt⟩
      have hbT:=(unhide HBE).trans bt
      have hA:=gt.below ((Below.refl wt.heap.size wt).alloc (Nat.le_refl _) (.cells #[.string ⟨nm.toArray⟩] 9))
      have hclt:=gt.cell
      have hltt:=gt.lt
      unfold bdCells at hclt
      have HA:=hide (And.intro hA hbT)
      have HO:=hide (show (wt.alloc (.cells #[.string ⟨nm.toArray⟩] 9)).ownsRow n0 9 1 (.slice Lt.oa o.length Lt.oc) o.length (o.map sv) from hA.br.rows.own (boRow o Lt) (by simp [bdRows]))
      have HB:=hide (show (wt.alloc (.cells #[.string ⟨nm.toArray⟩] 9)).heap[wt.heap.size]? = _ from heap_alloc_new wt _)
      have HBB:=hide (show n0≤(wt.alloc (.cells #[.string ⟨nm.toArray⟩] 9)).heap.size by simp;omega)
      clear gt bt hbT hA HTL HBE
      go_wp2_with (at_builtin;refine wpList_append_lies _ rfl _ _ 22 rfl n0 9 i1 _ 1 16 Tryz.underlying22 hi1 hy0 hy1 hy2 rfl (by decide) (.slice Lt.oa o.length Lt.oc) o.length (o.map sv) (by simp [Act.eval]) (unhide HO) ⟨wt.heap.size,0,none⟩ 1 1 [.string ⟨nm.toArray⟩] (by simp [Act.eval]) rfl (World.news_of_block (unhide HB)) (by intro u hu;simp at hu;subst hu;rfl) (by decide) (by unfold maxLen;omega) (by omega) (unhide HBB) (wt.heap.size + 1) (by simp) ?_;intro gz capz wz hown hgrow hat hltz;obtain ⟨hr,hfr,hbl⟩:=BR.after (unhide HA).1.br (r:=boRow o Lt) (by simp [bdRows]) hgrow;have HP:=hide ((unhide HA).1.open nm hown hgrow (by simpa using hat));unfold bdCells at hr;clear hown hgrow hat HO HB HBB)
      go_end0
      have hfin:=unhide HFIN 2 _ _ _ (unhide HK4) rfl rfl rfl
      refine ⟨rfl,?_,(unhide HA).2.trans (((Below.refl wt.heap.size wt).alloc (Nat.le_refl _) _ |>.mono (by omega)).trans (unhide HP).2)⟩
      rw [hfin]
      have hq:bRestP code p1=bA code (bA code (bA code p1)):=by unfold bRestP;rw [← unhide HK4];rfl
      have hbx:=(unhide HP).1
      rw [← hq] at hbx
      exact ⟨_,_,by rw [unhide HDB,unhide HDA];simp [bAtts],hbx⟩
  · have HNX:=hide (unhide HN10 w3 (bA code p1) (unhide HS3).bd)
    go_wp2_with fail
    refine (unhide HNX).mono ?_
    rintro e w100 ⟨rfl,g100,o100⟩
    have HS100:=hide ((unhide HS3).next g100 o100)
    have cv:=((unhide HT).keep hn (unhide HS100).bel).va _ hv1
    have hsz3:6<w100.heap.size:=by have:=(unhide HS100).bel.size;omega
    have hvI:((bN code (bA code p1) 10:Nat):Int)<10:=by omega
    have hxl:=bVal_len (bN code (bA code p1) 10)
    have hcat:¬ 9223372036854775807<(bVal (bN code (bA code p1) 10)).length + (bVal (bN code (bA code p1) 10)).length:=by omega
    clear g100 o100 HNX
    have HO:=hide (show (w100.alloc (.cells #[.string ⟨#[107]⟩,.string ⟨#[]⟩,.string ⟨(bVal (bN code (bA code p1) 10)).toArray⟩] 112)).ownsRow w.heap.size 112 3 (.slice va ds.length vc) ds.length (atsRow ds) from World.ownsRow.alloc (unhide HS100).row (.cells #[.string ⟨#[107]⟩,.string ⟨#[]⟩,.string ⟨(bVal (bN code (bA code p1) 10)).toArray⟩] 112))
    have HB:=hide (show (w100.alloc (.cells #[.string ⟨#[107]⟩,.string ⟨#[]⟩,.string ⟨(bVal (bN code (bA code p1) 10)).toArray⟩] 112)).heap[w100.heap.size]? = _ from heap_alloc_new w100 _)
    have HBB:=hide (show w.heap.size≤(w100.alloc (.cells #[.string ⟨#[107]⟩,.string ⟨#[]⟩,.string ⟨(bVal (bN code (bA code p1) 10)).toArray⟩] 112)).heap.size by have:=(unhide HS100).sz;simp;omega)
    go_upto_if 59 with (at_builtin;refine wpList_append_lies _ rfl _ _ 51 rfl w.heap.size 112 j0 _ 3 48 Tryz.underlying51 ji jz0 jz1 jz2 rfl (by decide) (.slice va ds.length vc) ds.length (atsRow ds) (by simp [Act.eval]) (unhide HO) ⟨w100.heap.size,0,none⟩ 1 1 [.string ⟨#[107]⟩,.string ⟨#[]⟩,.string ⟨(bVal (bN code (bA code p1) 10)).toArray⟩] (by simp [Act.eval]) rfl (World.news_of_block (unhide HB)) (by intro u hu;simp at hu;(repeat' (rcases hu with rfl | hu)) <;> first | rfl | (subst hu;rfl)) (by decide) (by unfold maxLen;omega) (by omega) (unhide HBB) (w100.heap.size + 1) (by simp) ?_;intro g13 cap13 w13 hown hgrow hat hlt13;have HS13:=hide (StA.push (unhide HS100) (m:=[⟨nK,[],bVal (bN code (bA code p1) 10)⟩]) (ob:=(.cells #[.string ⟨#[107]⟩,.string ⟨#[]⟩,.string ⟨(bVal (bN code (bA code p1) 10)).toArray⟩] 112)) hown hgrow);clear hown hgrow hat HO HB HBB)
    clear cv hsz3 hvI hxl hcat
    obtain ⟨dsA,hdsA⟩:∃ z,z=ds ++ [(⟨nK,[],bVal (bN code (bA code p1) 10)⟩:Att)]:=⟨_,rfl⟩
    have hlA:ds.length + 1=dsA.length:=by rw [hdsA];simp
    have HTA:Hid (StA n0 w w13 b code (bA code (bA code p1)) es o L (.slice (some ⟨g13,0,none⟩) dsA.length cap13) dsA):=by rw [← hlA,hdsA];exact HS13
    have hdA:dsA.length≤6:=by omega
    have HLA:Hid (dsA.length≤3):=by show _≤_;omega
    have HDA:=hide hdsA
    rw [hlA]
    clear HS13 hdsA hlA
    have HNX:=hide (unhide HN10 w13 (bA code (bA code p1)) (unhide HTA).bd)
    go_wp2_with fail
    refine (unhide HNX).mono ?_
    rintro e w101 ⟨rfl,g101,o101⟩
    have HS101:=hide ((unhide HTA).next g101 o101)
    have cv:=((unhide HT).keep hn (unhide HS101).bel).va _ hv2
    have hsz3:6<w101.heap.size:=by have:=(unhide HS101).bel.size;omega
    have hvI:((bN code (bA code (bA code p1)) 10:Nat):Int)<10:=by omega
    have hxl:=bVal_len (bN code (bA code (bA code p1)) 10)
    have hcat:¬ 9223372036854775807<(bVal (bN code (bA code (bA code p1)) 10)).length + (bVal (bN code (bA code (bA code p1)) 10)).length:=by omega
    clear g101 o101 HNX
    have HO:=hide (show (w101.alloc (.cells #[.string ⟨#[112,58,107]⟩,.string ⟨#[]⟩,.string ((⟨(bVal (bN code (bA code (bA code p1)) 10)).toArray⟩:ByteArray) ++ (⟨(bVal (bN code (bA code (bA code p1)) 10)).toArray⟩:ByteArray))] 112)).drew.ownsRow w.heap.size 112 3 (.slice (some ⟨g13,0,none⟩) dsA.length cap13) dsA.length (atsRow dsA) from World.ownsRow.alloc (unhide HS101).row (.cells #[.string ⟨#[112,58,107]⟩,.string ⟨#[]⟩,.string ((⟨(bVal (bN code (bA code (bA code p1)) 10)).toArray⟩:ByteArray) ++ (⟨(bVal (bN code (bA code (bA code p1)) 10)).toArray⟩:ByteArray))] 112))
    have HB:=hide (show (w101.alloc (.cells #[.string ⟨#[112,58,107]⟩,.string ⟨#[]⟩,.string ((⟨(bVal (bN code (bA code (bA code p1)) 10)).toArray⟩:ByteArray) ++ (⟨(bVal (bN code (bA code (bA code p1)) 10)).toArray⟩:ByteArray))] 112)).drew.heap[w101.heap.size]? = _ from heap_alloc_new w101 _)
    have HBB:=hide (show w.heap.size≤(w101.alloc (.cells #[.string ⟨#[112,58,107]⟩,.string ⟨#[]⟩,.string ((⟨(bVal (bN code (bA code (bA code p1)) 10)).toArray⟩:ByteArray) ++ (⟨(bVal (bN code (bA code (bA code p1)) 10)).toArray⟩:ByteArray))] 112)).drew.heap.size by have:=(unhide HS101).sz;simp;omega)
    go_wp2_with fail
    go_region_law (refine step_append_lies _ rfl _ _ 51 rfl w.heap.size 112 j0 _ 3 48 Tryz.underlying51 ji jz0 jz1 jz2 rfl (by decide) (.slice (some ⟨g13,0,none⟩) dsA.length cap13) dsA.length (atsRow dsA) (by simp [Act.eval]) (unhide HO) ⟨w101.heap.size,0,none⟩ 1 1 [.string ⟨#[112,58,107]⟩,.string ⟨#[]⟩,.string ((⟨(bVal (bN code (bA code (bA code p1)) 10)).toArray⟩:ByteArray) ++ (⟨(bVal (bN code (bA code (bA code p1)) 10)).toArray⟩:ByteArray))] (by simp [Act.eval]) rfl (World.news_of_block (unhide HB)) (by intro u hu;simp at hu;(repeat' (rcases hu with rfl | hu)) <;> first | rfl | (subst hu;rfl)) (by decide) (by unfold maxLen;omega) (by omega) (unhide HBB) (w101.heap.size + 1) (by simp) ?_;intro g14 cap14 w14 hown hgrow hat hlt14;rw [cat_two] at hown;have HS14:=hide (StA.push (unhide HS101) (m:=[⟨nPK,[],bVal (bN code (bA code (bA code p1)) 10) ++ bVal (bN code (bA code (bA code p1)) 10)⟩]) (ob:=(.cells #[.string ⟨#[112,58,107]⟩,.string ⟨#[]⟩,.string ((⟨(bVal (bN code (bA code (bA code p1)) 10)).toArray⟩:ByteArray) ++ (⟨(bVal (bN code (bA code (bA code p1)) 10)).toArray⟩:ByteArray))] 112)) hown ⟨hgrow.os,hgrow.tape,hgrow.output,hgrow.size,hgrow.block⟩);clear hown hgrow hat HO HB HBB)
    all_goals
      clear cv hsz3 hvI hxl hcat
      go_upto_if 74 with fail
      obtain ⟨dsB,hdsB⟩:∃ z,z=dsA ++ [(⟨nPK,[],bVal (bN code (bA code (bA code p1)) 10) ++ bVal (bN code (bA code (bA code p1)) 10)⟩:Att)]:=⟨_,rfl⟩
      have hlB:dsA.length + 1=dsB.length:=by rw [hdsB];simp
      have HTB:Hid (StA n0 w w14 b code (bA code (bA code (bA code p1))) es o L (.slice (some ⟨g14,0,none⟩) dsB.length cap14) dsB):=by rw [← hlB,hdsB];exact HS14
      have hdB:dsB.length≤6:=by have:=unhide HLA;omega
      have HLB:Hid (dsB.length≤4):=by show _≤_;have:=unhide HLA;omega
      have HDB:=hide hdsB
      rw [hlB]
      clear HS14 hdsB hlB
      have HO:=hide (show (w14.alloc (.cells #[.string ⟨#[120,109,108,58,108]⟩,.string ⟨#[]⟩,.string ⟨#[]⟩] 112)).ownsRow w.heap.size 112 3 (.slice (some ⟨g14,0,none⟩) dsB.length cap14) dsB.length (atsRow dsB) from World.ownsRow.alloc (unhide HTB).row (.cells #[.string ⟨#[120,109,108,58,108]⟩,.string ⟨#[]⟩,.string ⟨#[]⟩] 112))
      have HB:=hide (show (w14.alloc (.cells #[.string ⟨#[120,109,108,58,108]⟩,.string ⟨#[]⟩,.string ⟨#[]⟩] 112)).heap[w14.heap.size]? = _ from heap_alloc_new w14 _)
      have HBB:=hide (show w.heap.size≤(w14.alloc (.cells #[.string ⟨#[120,109,108,58,108]⟩,.string ⟨#[]⟩,.string ⟨#[]⟩] 112)).heap.size by have:=(unhide HTB).sz;simp;omega)
      go_upto_region 22 with (at_builtin;refine wpList_append_lies _ rfl _ _ 51 rfl w.heap.size 112 j0 _ 3 48 Tryz.underlying51 ji jz0 jz1 jz2 rfl (by decide) (.slice (some ⟨g14,0,none⟩) dsB.length cap14) dsB.length (atsRow dsB) (by simp [Act.eval]) (unhide HO) ⟨w14.heap.size,0,none⟩ 1 1 [.string ⟨#[120,109,108,58,108]⟩,.string ⟨#[]⟩,.string ⟨#[]⟩] (by simp [Act.eval]) rfl (World.news_of_block (unhide HB)) (by intro u hu;simp at hu;(repeat' (rcases hu with rfl | hu)) <;> first | rfl | (subst hu;rfl)) (by decide) (by unfold maxLen;omega) (by omega) (unhide HBB) (w14.heap.size + 1) (by simp) ?_;intro g15 cap15 w15 hown hgrow hat hlt15;have HS15:=hide (StA.push (unhide HTB) (m:=[⟨nXL,[],[]⟩]) (ob:=(.cells #[.string ⟨#[120,109,108,58,108]⟩,.string ⟨#[]⟩,.string ⟨#[]⟩] 112)) hown hgrow);clear hown hgrow hat HO HB HBB)
      obtain ⟨dsC,hdsC⟩:∃ z,z=dsB ++ [(⟨nXL,[],[]⟩:Att)]:=⟨_,rfl⟩
      have hlC:dsB.length + 1=dsC.length:=by rw [hdsC];simp
      have HTC:Hid (StA n0 w w15 b code (bA code (bA code (bA code p1))) es o L (.slice (some ⟨g15,0,none⟩) dsC.length cap15) dsC):=by rw [← hlC,hdsC];exact HS15
      have hdC:dsC.length≤6:=by have:=unhide HLB;omega
      have HLC:Hid (dsC.length≤5):=by show _≤_;have:=unhide HLB;omega
      have HDC:=hide hdsC
      rw [hlC]
      clear HS15 hdsC hlC
      have S9:=unhide HTC
      have hroE:(evRow (⟨1,nm,[],[],dsC⟩,(Value.slice (some ⟨g15,0,none⟩) (dsC).length cap15))).owned w15 n0:=by
        have:=S9.row
        exact ownsRow_base this (by have:=S9.low.1;omega)
      have hapE:∀ z,(Value.slice (some ⟨g15,0,none⟩) (dsC).length cap15).ownBlock=some z→z ≠ b∧z ∉ blks (bdRows es o L):=fun z hz=>by
        have q1:=(World.ownsRow.lt S9.row z hz).1
        exact ⟨by have:=S9.low.1;omega,fun hm=>by have:=S9.low.2.1 z hm;omega⟩
      have HTL:=hide (btell_any S9.bd 1 nm [] [] (dsC) (some ⟨g15,0,none⟩) cap15 hroE hapE hle)
      have HBE:=hide (unhide HTC).bel
      clear hroE hapE S9
      go_wp2_with fail
      refine (unhide HTL).mono ?_
      rintro e wt ⟨rfl,Lt,gt,bt⟩
      have hbT:=(unhide HBE).trans bt
      have hA:=gt.below ((Below.refl wt.heap.size wt).alloc (Nat.le_refl _) (.cells #[.string ⟨nm.toArray⟩] 9))
      have hclt:=gt.cell
      have hltt:=gt.lt
      unfold bdCells at hclt
      have HA:=hide (And.intro hA hbT)
      have HO:=hide (show (wt.alloc (.cells #[.string ⟨nm.toArray⟩] 9)).ownsRow n0 9 1 (.slice Lt.oa o.length Lt.oc) o.length (o.map sv) from hA.br.rows.own (boRow o Lt) (by simp [bdRows]))
      have HB:=hide (show (wt.alloc (.cells #[.string ⟨nm.toArray⟩] 9)).heap[wt.heap.size]? = _ from heap_alloc_new wt _)
      have HBB:=hide (show n0≤(wt.alloc (.cells #[.string ⟨nm.toArray⟩] 9)).heap.size by simp;omega)
      clear gt bt hbT hA HTL HBE
      go_wp2_with (at_builtin;refine wpList_append_lies _ rfl _ _ 22 rfl n0 9 i1 _ 1 16 Tryz.underlying22 hi1 hy0 hy1 hy2 rfl (by decide) (.slice Lt.oa o.length Lt.oc) o.length (o.map sv) (by simp [Act.eval]) (unhide HO) ⟨wt.heap.size,0,none⟩ 1 1 [.string ⟨nm.toArray⟩] (by simp [Act.eval]) rfl (World.news_of_block (unhide HB)) (by intro u hu;simp at hu;subst hu;rfl) (by decide) (by unfold maxLen;omega) (by omega) (unhide HBB) (wt.heap.size + 1) (by simp) ?_;intro gz capz wz hown hgrow hat hltz;obtain ⟨hr,hfr,hbl⟩:=BR.after (unhide HA).1.br (r:=boRow o Lt) (by simp [bdRows]) hgrow;have HP:=hide ((unhide HA).1.open nm hown hgrow (by simpa using hat));unfold bdCells at hr;clear hown hgrow hat HO HB HBB)
      go_end0
      have hfin:=unhide HFIN 3 _ _ _ (unhide HK4) rfl rfl rfl
      refine ⟨rfl,?_,(unhide HA).2.trans (((Below.refl wt.heap.size wt).alloc (Nat.le_refl _) _ |>.mono (by omega)).trans (unhide HP).2)⟩
      rw [hfin]
      have hq:bRestP code p1=bA code (bA code (bA code p1)):=by unfold bRestP;rw [← unhide HK4];rfl
      have hbx:=(unhide HP).1
      rw [← hq] at hbx
      exact ⟨_,_,by rw [unhide HDC,unhide HDB,unhide HDA];simp [bAtts],hbx⟩
end Go.Proofs.YtmgfijllcdadgabGreatDoor
