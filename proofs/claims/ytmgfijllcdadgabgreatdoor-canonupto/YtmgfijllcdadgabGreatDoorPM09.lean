/- SpD, SpD2 -/
import Derived.Test.YtmgfijllcdadgabGreatDoorPM05
import Derived.Test.YtmgfijllcdadgabGreatDoorPM08
set_option linter.unusedVariables false
set_option linter.unusedSimpArgs false
namespace Go.Proofs.YtmgfijllcdadgabGreatDoor
open Go.RowKit
open Mk (St Bs Ev Att)
theorem perm6 {α:Type} (a b c d e f:α) (l:List α):(a :: b :: c :: d :: e :: f :: l).Perm (f :: a :: b :: c :: d :: e :: l):=((perm5 b c d e f l).cons a).trans (perm2 a f _)
theorem perm7 {α:Type} (a b c d e f g:α) (l:List α):(a :: b :: c :: d :: e :: f :: g :: l).Perm (g :: a :: b :: c :: d :: e :: f :: l):=((perm6 b c d e f g l).cons a).trans (perm2 a g _)
section
variable {w0 w w' : World} {b:Nat} {f0:List Nat} {s:St} {L:Lay}
theorem Mv.pushBnd (m:Mv w0 b f0 w s L) (x:Bs × Bs) {g cap:Nat} (hown:w'.ownsRow (b - 1) 137 2 (.slice (some ⟨g,0,none⟩) (s.bnd.length + 1) cap) (s.bnd.length + 1) (bndsRow s.bnd ++ bndCells x))
    (hg:w.grownBy w' (bndRow s L).v.ownBlock) (hat:(Value.slice L.ba s.bnd.length L.bc).ownBlock=some g∨g=w.heap.size) :
    Mv w0 b f0 (w'.setCell ⟨b,7,none⟩ (.slice (some ⟨g,0,none⟩) (s.bnd.length + 1) cap)) { s with bnd:=s.bnd ++ [x] } { L with ba:=some ⟨g,0,none⟩,bc:=cap }:=by
  refine m.grow (r:=bndRow s L) (r' := bndRow { s with bnd:=s.bnd ++ [x] } { L with ba:=some ⟨g,0,none⟩,bc:=cap }) (rs:=opnRow s L :: tokRow s L :: attRow s L :: lstRow s L :: txtRow s L :: cntRow s L :: L.es.map evRow) 7 _ (perm6 _ _ _ _ _ _ _) (perm6 _ _ _ _ _ _ _) ?_ hg ?_ ?_ m.rd.evs
  · show World.ownsRow _ _ _ _ _ _ _
    simp only [bndRow,List.length_append,List.length_cons,List.length_nil,Nat.zero_add,bndsRow,List.flatMap_append,List.flatMap_cons,List.flatMap_nil,List.append_nil]
    exact hown
  · rcases hat with h | h
    · exact .inl h.symm
    · exact .inr (by rw [h];rfl)
  · simp [cellsOf]
theorem Mv.pushCnt (m:Mv w0 b f0 w s L) (x:Nat) {g cap:Nat} (hown:w'.ownsRow (b - 1) 3 1 (.slice (some ⟨g,0,none⟩) (s.cnt.length + 1) cap) (s.cnt.length + 1) (s.cnt.map nv ++ [.int .i64 (x:Int)]))
    (hg:w.grownBy w' (cntRow s L).v.ownBlock) (hat:(Value.slice L.ca s.cnt.length L.cc).ownBlock=some g∨g=w.heap.size) :
    Mv w0 b f0 (w'.setCell ⟨b,8,none⟩ (.slice (some ⟨g,0,none⟩) (s.cnt.length + 1) cap)) { s with cnt:=s.cnt ++ [x] } { L with ca:=some ⟨g,0,none⟩,cc:=cap }:=by
  refine m.grow (r:=cntRow s L) (r' := cntRow { s with cnt:=s.cnt ++ [x] } { L with ca:=some ⟨g,0,none⟩,cc:=cap }) (rs:=opnRow s L :: tokRow s L :: attRow s L :: lstRow s L :: txtRow s L :: bndRow s L :: L.es.map evRow) 8 _ (perm7 _ _ _ _ _ _ _ _) (perm7 _ _ _ _ _ _ _ _) ?_ hg ?_ ?_ m.rd.evs
  · show World.ownsRow _ _ _ _ _ _ _
    simp only [cntRow,List.length_append,List.length_cons,List.length_nil,Nat.zero_add,List.map_append,List.map_cons,List.map_nil]
    exact hown
  · rcases hat with h | h
    · exact .inl h.symm
    · exact .inr (by rw [h];rfl)
  · simp [cellsOf]
end
theorem infoBnd:(Tryz.prog.info? 137).map (fun i=>(i.zero,i.size,i.bytes))=some (some (.agg #[.string ByteArray.empty,.string ByteArray.empty]),2,32):=by kernel_rfl
theorem infoInt:(Tryz.prog.info? 3).map (fun i=>(i.zero,i.size,i.bytes))=some (some (.int .i64 0),1,8):=by kernel_rfl
theorem bndCells_one (p:Bs × Bs):∀ u ∈ bndCells p,u.oneCell' = true:=by
  intro u hu
  simp [bndCells] at hu
  rcases hu with rfl | rfl <;> rfl
structure DeI (w:World) (b:Nat) (s:St) (L:Lay) (FIN:List (Bs × Bs) × Nat × Bool) (wx:World) (bn:List (Bs × Bs)) (c i:Nat) (L1:Lay):Prop where
  mv:Mv w b (foot s L) wx { s with bnd:=bn } L1
  ea:L1.aa=L.aa
  ec:L1.ac=L.ac
  fin:FIN=Mk.declareGo (s.attrs.drop i) bn c
  le:bn.length≤s.bnd.length + i
  ce:c≤i
theorem att_cells {w:World} {b:Nat} {s:St} {L:Lay} (h:RdL w b s L) (ham:s.am=false) (k:Nat) (hk:k<s.attrs.length) :
    ∃ g,L.aa=some ⟨g,0,none⟩∧g<w.heap.size∧w.cell? ⟨g,k * 3,none⟩=some (.string ⟨s.attrs[k].name.toArray⟩)∧w.cell? ⟨g,k * 3 + 1,none⟩=some (.string ⟨s.attrs[k].space.toArray⟩)∧w.cell? ⟨g,k * 3 + 2,none⟩=some (.string ⟨s.attrs[k].val.toArray⟩):=by
  have hrow:=h.rows.own (attRow s L) (by simp [rowsOf])
  have e1:attRow s L=⟨112,3,.slice L.aa s.attrs.length L.ac,s.attrs.length,atsRow s.attrs⟩:=by simp [attRow,ham]
  rw [e1] at hrow
  obtain ⟨g,h1,h2,h3⟩:=spElem (m:=3) (l:=s.attrs) atCells (fun _=>rfl) (by decide) hrow k hk
  exact ⟨g,h1,h2,h3 0 (by decide),h3 1 (by decide),h3 2 (by decide)⟩
set_option maxHeartbeats 4000000 in
set_option maxRecDepth 100000 in
theorem declare_any {w:World} {b:Nat} {s:St} {L:Lay} (h:RdL w b s L) (hB:Bd s) :
    Calls Tryz.prog 177 #[.pointer (some ⟨b,7,none⟩),.slice L.aa s.attrs.length L.ac] w fun e w' => e = .returned (.bool (Mk.declare s).2)∧∃ L', Mv w b (foot s L) w' (Mk.declare s).1 L' ∧ L'.aa=L.aa∧L'.ac=L.ac:=by
  obtain ⟨FIN,hFIN⟩:∃ FIN,FIN=Mk.declareGo s.attrs s.bnd 0:=⟨_,rfl⟩
  obtain ⟨ANS,hANS⟩:∃ ANS,ANS=Mk.declare s:=⟨_,rfl⟩
  have hd:ANS=if FIN.2.2 then ({ s with bnd:=FIN.1,cnt:=s.cnt ++ [FIN.2.1] },true) else ({ s with bnd:=FIN.1 },false):=by rw [hANS,hFIN];rfl
  rw [← hANS]
  have HD:=hide hd
  have HI:Hid (DeI w b s L FIN w s.bnd 0 0 L):=⟨h.start,rfl,rfl,hFIN,by omega,by omega⟩
  have HAM:=hide hB.am
  have HAN:=hide hB.an
  have hbn:=hB.hb
  have hcn:=hB.hc
  have han:=hB.ha
  have hlt:=h.lt
  obtain ⟨i0,hi,hz0,hz1,hz2⟩:=info_parts infoBnd
  obtain ⟨j0,ji,jz0,jz1,jz2⟩:=info_parts infoInt
  obtain ⟨aa,haa⟩:∃ x,x=L.aa:=⟨_,rfl⟩
  rw [← haa]
  have HAA:=hide haa
  clear h hFIN hd hB haa hANS
  go_enter Tryz.func177,Tryz.ntmps177
  go_wp2_with fail
  go_loopg [5,6,7] s.attrs.length (fun g s5 s6 s7 wx=>∃ (wy:World) (bn:List (Bs × Bs)) (c i:Nat) (L1:Lay),wy=wx∧i≤s.attrs.length∧g=s.attrs.length - i∧s5 = .int .i64 (c:Int)∧s6 = .int .i64 (i:Int)∧Hid (DeI w b s L FIN wy bn c i L1))
  case atStart=>exact ⟨w,s.bnd,0,0,L,rfl,by omega,rfl,rfl,rfl,HI⟩
  case round =>
    obtain ⟨wy,bn,c,i,L1,hwy,hile,rfl,rfl,rfl,HJ⟩:=hrel
    subst hwy
    clear HI
    have hce:=(unhide HJ).ce
    have hble:=(unhide HJ).le
    have hlty:=(unhide HJ).mv.rd.lt
    by_cases h3:i<s.attrs.length
    · have e1:decide ((i:Int)<(s.attrs.length:Int))=true:=by simp;omega
      have hk1:(i:Int)<(s.attrs.length:Int):=by omega
      obtain ⟨g,hg,hgl,c0,c1,c2⟩:=att_cells (unhide HJ).mv.rd (unhide HAM) i h3
      rw [(unhide HJ).ea, ← unhide HAA] at hg
      have HP:=hide (fun w=>isDeclaration_any s.attrs[i].name (unhide HAN _ (List.getElem_mem h3)) w)
      have HDc:=hide (fun w=>declared_any s.attrs[i].name (unhide HAN _ (List.getElem_mem h3)) w)
      have hf:=(unhide HJ).fin
      rw [List.drop_eq_getElem_cons h3] at hf
      unfold Mk.declareGo at hf
      dsimp only at c0 c1 c2
      generalize s.attrs[i].name=n at *
      generalize s.attrs[i].val=v at *
      clear c1
      subst hg
      cases e2:Mk.isDecl n
      · rw [e2] at HP hf
        simp only [Bool.not_false,if_true] at hf
        have HJ2:Hid (DeI w b s L FIN wy bn c (i + 1) L1):=⟨(unhide HJ).mv,(unhide HJ).ea,(unhide HJ).ec,hf,by omega,by omega⟩
        clear hf HJ
        go_wp2_with (go_at_call 183;refine (unhide HP _).mono ?_;rintro e w1 ⟨rfl,rfl⟩)
        go_roundg (s.attrs.length - (i + 1))
        case measure=>omega
        case rel=>exact ⟨_,bn,c,i + 1,L1,rfl,by omega,rfl,rfl,by simp,HJ2⟩
      · rw [e2] at HP hf
        simp only [Bool.not_true,Bool.false_eq_true,if_false] at hf
        have HG:=hide (fun w=>isGood_any (Mk.declared n) v w)
        generalize Mk.declared n=dn at *
        have HFF:=hide hf
        clear hf
        go_wp2_with (go_at_call 183;refine (unhide HP _).mono ?_;rintro e w1 ⟨he1,hw1⟩;subst he1;subst hw1)
        go_cut [7] (fun s7 wz=>s7 = .pointer (some ⟨w1.heap.size,0,none⟩)∧wz=(w1.alloc (.cells #[.string ⟨dn.toArray⟩,.string ⟨v.toArray⟩] 137)).drew)
        case first =>
          go_region_with (go_at_call 184;refine (unhide HDc _).mono ?_;rintro e w1 ⟨rfl,rfl⟩)
          all_goals
            go_wp2_with fail
            go_meet
            exact ⟨rfl,rfl⟩
        case rest =>
        obtain ⟨rfl,rfl⟩:=hcut
        cases e3:Mk.isGood dn v
        · rw [e3] at HG
          have hfin:FIN=(bn,c,false):=by have:=unhide HFF;rw [e3] at this;simpa using this
          have hm:=((unhide HJ).mv.alloc (.cells #[.string ⟨dn.toArray⟩,.string ⟨v.toArray⟩] 137)).drew
          have HQ:=hide (And.intro hm (And.intro (unhide HJ).ea (unhide HJ).ec))
          have HFN:=hide hfin
          clear hm hfin HFF HJ
          go_wp2_with (go_at_call 185;refine (unhide HG _).mono ?_;rintro e w2 ⟨rfl,hb2⟩)
          go_ret
          have hA:ANS=({ s with bnd:=bn },false):=by rw [unhide HD,unhide HFN];rfl
          rw [hA]
          have HQ:=unhide HQ
          exact ⟨rfl,L1,HQ.1.below hb2,by rw [HQ.2.1, ← unhide HAA],HQ.2.2⟩
        · rw [e3] at HG
          have hfin:FIN=Mk.declareGo (s.attrs.drop (i + 1)) (bn ++ [(dn,v)]) (c + 1):=by have:=unhide HFF;rw [e3] at this;simpa using this
          have hm:=((unhide HJ).mv.alloc (.cells #[.string ⟨dn.toArray⟩,.string ⟨v.toArray⟩] 137)).drew
          have hbx0:(w1.alloc (.cells #[.string ⟨dn.toArray⟩,.string ⟨v.toArray⟩] 137)).drew.heap[w1.heap.size]? = some (.cells #[.string ⟨dn.toArray⟩,.string ⟨v.toArray⟩] 137 (0,0)):=heap_alloc_new w1 _
          have HQ:=hide (And.intro hm (And.intro (unhide HJ).ea (And.intro (unhide HJ).ec hbx0)))
          have HFN:=hide hfin
          clear hm hfin HFF HJ hbx0
          go_wp2_with (go_at_call 185;refine (unhide HG _).mono ?_;rintro e w2 ⟨rfl,hb2⟩)
          have hm2:=(unhide HQ).1.below hb2
          have hbx:=(hb2.block w1.heap.size (by simp)).trans (unhide HQ).2.2.2
          have hq:∀ j,w2.cell? ⟨w1.heap.size,j,none⟩=[.string ⟨dn.toArray⟩,.string ⟨v.toArray⟩][j]? := fun j=>by simp [World.cell?,hbx]
          have hc2:=hm2.rd.cell
          have hf2:=hm2.rd.frozen
          have hlt2:=hm2.rd.lt
          have hlt4:w1.heap.size<w2.heap.size:=(Array.getElem?_eq_some_iff.1 hbx).1
          have hm3:=(hm2.alloc (.cells #[.string ⟨dn.toArray⟩,.string ⟨v.toArray⟩] 137)).drew
          have HO:=hide (hm3.rd.rows.own (bndRow { s with bnd:=bn } L1) (by simp [rowsOf]))
          have HB:=hide (show (w2.alloc (.cells #[.string ⟨dn.toArray⟩,.string ⟨v.toArray⟩] 137)).drew.heap[w2.heap.size]? = _ from heap_alloc_new w2 _)
          have H63:=hide (show bn.length + 1≤maxLen by unfold maxLen;omega)
          have HBB:=hide (show b - 1≤(w2.alloc (.cells #[.string ⟨dn.toArray⟩,.string ⟨v.toArray⟩] 137)).drew.heap.size by simp;omega)
          have HM3:=hide hm3
          unfold cellsOf at hc2
          clear hm2 hm3 hbx hb2
          go_region_law (refine step_append_lies _ rfl (.tmp 40) (.tmp 42) 95 rfl (b - 1) 137 i0 _ 2 32 Tryz.underlying95 hi hz0 hz1 hz2 rfl (by decide) (.slice L1.ba bn.length L1.bc) bn.length (bndsRow bn) (by simp [Act.eval]) (unhide HO) ⟨w2.heap.size,0,none⟩ 1 1 (bndCells (dn,v)) (by simp [Act.eval]) rfl (World.news_of_block (unhide HB)) (bndCells_one _) (by decide) (unhide H63) (by omega) (unhide HBB) (w2.heap.size + 1) (by simp) ?_;intro g2 cap w3 hown hgrow hat hlt3;obtain ⟨hr,hfr⟩:=cell_of_blk ((unhide HM3).rd.grown (r:=bndRow { s with bnd:=bn } L1) hgrow (by simp [rowsOf]));unfold cellsOf at hr)
          all_goals
            have HM4:=hide ((unhide HM3).pushBnd (dn,v) hown hgrow (by simpa using hat))
            clear hown hgrow hat
            go_wp2
            go_roundg (s.attrs.length - (i + 1))
            case measure=>omega
            case rel=>exact ⟨_,bn ++ [(dn,v)],c + 1,i + 1,_,rfl,by omega,rfl,by simp,by simp,⟨unhide HM4,(unhide HQ).2.1,(unhide HQ).2.2.1,unhide HFN,by simp;omega,by omega⟩⟩
    · have e1:decide ((i:Int)<(s.attrs.length:Int))=false:=by simp;omega
      have hf:=(unhide HJ).fin
      rw [List.drop_of_length_le (by omega)] at hf
      have hA:ANS=({ s with bnd:=bn,cnt:=s.cnt ++ [c] },true):=by rw [unhide HD,hf];rfl
      have HA:=hide hA
      have hm2:=(unhide HJ).mv
      have hc2:=hm2.rd.cell
      have hf2:=hm2.rd.frozen
      have hlt2:=hm2.rd.lt
      have hm3:=hm2.alloc (.cells #[.int .i64 (c:Int)] 3)
      have HO:=hide (hm3.rd.rows.own (cntRow { s with bnd:=bn } L1) (by simp [rowsOf]))
      have HB:=hide (show (wy.alloc (.cells #[.int .i64 (c:Int)] 3)).heap[wy.heap.size]? = _ from heap_alloc_new wy _)
      have H63:=hide (show s.cnt.length + 1≤maxLen by unfold maxLen;omega)
      have HBB:=hide (show b - 1≤(wy.alloc (.cells #[.int .i64 (c:Int)] 3)).heap.size by simp;omega)
      have HM3:=hide hm3
      unfold cellsOf at hc2
      clear hm2 hm3 hf hA
      go_wp2_with (at_builtin;refine wpList_append_lies _ rfl (.tmp 52) (.tmp 54) 28 rfl (b - 1) 3 j0 _ 1 8 Tryz.underlying28 ji jz0 jz1 jz2 rfl (by decide) (.slice L1.ca s.cnt.length L1.cc) s.cnt.length (s.cnt.map nv) (by simp [Act.eval]) (unhide HO) ⟨wy.heap.size,0,none⟩ 1 1 [.int .i64 (c:Int)] (by simp [Act.eval]) rfl (World.news_of_block (unhide HB)) (by intro u hu;simp at hu;subst hu;rfl) (by decide) (unhide H63) (by omega) (unhide HBB) (wy.heap.size + 1) (by simp) ?_;intro g2 cap w3 hown hgrow hat hlt3;obtain ⟨hr,hfr⟩:=cell_of_blk ((unhide HM3).rd.grown (r:=cntRow { s with bnd:=bn } L1) hgrow (by simp [rowsOf]));unfold cellsOf at hr;have HM4:=hide ((unhide HM3).pushCnt c hown hgrow (by simpa using hat));clear hown hgrow hat)
      go_ret
      rw [unhide HA]
      exact ⟨rfl,_,unhide HM4,(unhide HJ).ea.trans (unhide HAA).symm,(unhide HJ).ec⟩
end Go.Proofs.YtmgfijllcdadgabGreatDoor
