/- Told, SpN -/
import Derived.Test.YtmgfijllcdadgabGreatDoorPM02
import Derived.Test.YtmgfijllcdadgabGreatDoorPM01
import Derived.Deep.DeepCutAuto
import Derived.Deep.CutBlock
set_option linter.unusedVariables false
set_option linter.unusedSimpArgs false
namespace Go.Proofs.YtmgfijllcdadgabGreatDoor
open Go.RowKit
open Mk (St Bs Ev Att)
theorem infoEv:(Tryz.prog.info? 53).map (fun i=>(i.zero,i.size,i.bytes))=some (some (.agg #[.int .i64 0,.string ByteArray.empty,.string ByteArray.empty,.string ByteArray.empty,.slice none 0 0]),5,80):=by kernel_rfl
theorem conv_row {w:World} {base:Nat} {a:Option Addr} {c:Nat} {l:Bs} (h:w.ownsRow base 5 1 (.slice a l.length c) l.length (l.map bv)) :
    (convert 54 9 (.slice a l.length c)).run Tryz.prog w = .ok (.string ⟨l.toArray⟩) w:=by
  rcases h.2 with ⟨hv,hn⟩ | ⟨g,cap,cur,hv,hb,hg,hnc,_,hsz,htake⟩
  · have:l=[]:=List.eq_nil_of_length_eq_zero hn
    subst this
    cases hv
    exact run_convert_bytes_nil w _ _ Tryz.underlying54 Tryz.underlying5 0 0 _ Tryz.underlying9
  · cases hv
    refine run_convert_bytes_back w _ _ _ _ _ l Tryz.underlying54 Tryz.underlying5 Tryz.underlying9 fun j hj => ?_
    have hadd:(⟨g,0,none⟩:Addr).add j=⟨g,j,none⟩:=by unfold Addr.add;split <;> simp_all
    rw [hadd,cell_of_row w g j cur _ _ hg]
    have h1:(l.map bv)[j]? = some (bv l[j]):=by simp [hj]
    rw [← htake,List.getElem?_take_of_lt (by omega)] at h1
    simpa [bv] using h1
theorem evCells_one (e:Ev) (a:Option Addr) (n c:Nat):∀ u ∈ evCells e (.slice a n c),u.oneCell' = true:=by
  intro u hu
  simp [evCells] at hu
  rcases hu with rfl | rfl | rfl | rfl | rfl <;> rfl
set_option maxHeartbeats 1000000 in
set_option maxRecDepth 100000 in
theorem endText_some {w:World} {b:Nat} {s:St} {L:Lay} (h:RdL w b s L) (ht:0<s.text.length) (hx:s.text.length≤1000000000000) (hl:s.list.length≤1000000000000) :
    Calls Tryz.prog 97 #[.pointer (some ⟨b,26,none⟩)] w fun e w' => e = .returned (.tuple #[])∧∃ L', Mv w b (foot s L) w' (Mk.endText s) L' ∧ L'.aa=L.aa∧L'.ac=L.ac:=by
  have hc:=h.cell
  have hf:=h.frozen
  have hlt:=h.lt
  have hcv:=conv_row (w:=w.drew) ((h.start.drew).rd.rows.own (txtRow s L) (by simp [rowsOf]))
  have hm0:=((h.start).alloc (.cells #[.int .i64 3,.string ⟨#[]⟩,.string ⟨#[]⟩,.string ⟨s.text.toArray⟩,.slice none 0 0] 53)).drew
  have HM:Hid (Mv w b (foot s L) (w.alloc (.cells #[.int .i64 3,.string ⟨#[]⟩,.string ⟨#[]⟩,.string ⟨s.text.toArray⟩,.slice none 0 0] 53)).drew s L):=hm0
  have HO:=hide (hm0.rd.rows.own (lstRow s L) (by simp [rowsOf]))
  have HB:Hid ((w.alloc (.cells #[.int .i64 3,.string ⟨#[]⟩,.string ⟨#[]⟩,.string ⟨s.text.toArray⟩,.slice none 0 0] 53)).drew.heap[w.heap.size]? = some (.cells #[.int .i64 3,.string ⟨#[]⟩,.string ⟨#[]⟩,.string ⟨s.text.toArray⟩,.slice none 0 0] 53 (0,0))):=heap_alloc_new w _
  have h63:s.list.length + 1≤maxLen:=by unfold maxLen;omega
  have hbb:b - 1≤(w.alloc (.cells #[.int .i64 3,.string ⟨#[]⟩,.string ⟨#[]⟩,.string ⟨s.text.toArray⟩,.slice none 0 0] 53)).drew.heap.size:=by simp;omega
  have H63:=hide h63
  have HBB:=hide hbb
  have e0:((s.text.length:Int) == 0)=false:=by rw [beq_eq_false_iff_ne];omega
  unfold cellsOf at hc
  obtain ⟨i0,hi,hz0,hz1,hz2⟩:=info_parts infoEv
  clear h h63 hbb hm0
  go_enter Tryz.func97,Tryz.ntmps97
  go_wp2
  go_region_law (refine step_append_lies _ rfl (.tmp 12) (.tmp 19) 35 rfl (b - 1) 53 i0 _ 5 80 Tryz.underlying35 hi hz0 hz1 hz2 rfl (by decide) (.slice L.la s.list.length L.lc) s.list.length (evsRow L.es) (by simp [Act.eval]) (unhide HO) ⟨w.heap.size,0,none⟩ 1 1 (evCells ⟨3,[],[],s.text,[]⟩ (.slice none 0 0)) (by simp [Act.eval]) rfl (World.news_of_block (unhide HB)) (evCells_one _ _ _ _) (by decide) (unhide H63) (by omega) (unhide HBB) (w.heap.size + 1) (by simp) ?_;intro g cap w1 hown hgrow hat hlt1;obtain ⟨hr,hfr⟩:=cell_of_blk ((unhide HM).rd.grown (r:=lstRow s L) hgrow (by simp [rowsOf]));unfold cellsOf at hr)
  all_goals
    go_wp2
    go_end0
    have hes:Mk.endText s={ s with list:=s.list ++ [⟨3,[],[],s.text,[]⟩],text:=[] }:=by unfold Mk.endText;rw [if_neg (by omega)]
    rw [hes]
    exact ⟨rfl,_,((unhide HM).pushNil ⟨3,[],[],s.text,[]⟩ rfl hown hgrow (by simpa using hat)).dropText,rfl,rfl⟩
theorem endText_any {w:World} {b:Nat} {s:St} {L:Lay} (h:RdL w b s L) (hx:s.text.length≤1000000000000) (hl:s.list.length≤1000000000000) :
    Calls Tryz.prog 97 #[.pointer (some ⟨b,26,none⟩)] w fun e w' => e = .returned (.tuple #[])∧∃ L', Mv w b (foot s L) w' (Mk.endText s) L' ∧ L'.aa=L.aa∧L'.ac=L.ac:=by
  by_cases ht:s.text.length=0
  · have hes:Mk.endText s=s:=by unfold Mk.endText;rw [if_pos ht]
    rw [hes]
    have hc:=h.cell
    have e0:((s.text.length:Int) == 0)=true:=by simp [ht]
    have HM:=hide h
    unfold cellsOf at hc
    clear h hes ht
    go_enter Tryz.func97,Tryz.ntmps97
    go_wp2
    refine bodyPost_ret (results_none rfl _ _ _) rfl ?_
    exact ⟨rfl,L,(unhide HM).start,rfl,rfl⟩
  · exact endText_some h (by omega) hx hl
theorem Fr.box {w w' : World} {b:Nat} {f f' : List Nat} {o:Obj} {W:World} (h:Fr W w' b f f') (hW:W=w.alloc o) (hb:b<w.heap.size) (hf:∀ k ∈ f,k<w.heap.size):w'.heap[w.heap.size]? = some o:=by
  subst hW
  rw [h.block w.heap.size (by simp) (by omega) (fun hm=>by have:=hf _ hm;omega)]
  exact heap_alloc_new w o
set_option maxHeartbeats 1000000 in
set_option maxRecDepth 100000 in
theorem add_nil {w:World} {b:Nat} {s:St} {L:Lay} (h:RdL w b s L) (ev:Ev) (he:ev.attrs=[]) (hx:s.text.length≤1000000000000) (hl:s.list.length≤1000000000) :
    Calls Tryz.prog 143 #[.pointer (some ⟨b,26,none⟩),.agg #[.int .i64 ev.kind,.string ⟨ev.name.toArray⟩,.string ⟨ev.space.toArray⟩,.string ⟨ev.val.toArray⟩,.slice none 0 0]] w fun e w' => e = .returned (.tuple #[])∧∃ L', Mv w b (foot s L) w' (Mk.add s ev) L' := by
  have hm0:=(h.start).alloc (.cells #[.int .i64 ev.kind,.string ⟨ev.name.toArray⟩,.string ⟨ev.space.toArray⟩,.string ⟨ev.val.toArray⟩,.slice none 0 0] 53)
  have HE:=hide (endText_any hm0.rd hx (by omega))
  have HM0:=hide hm0
  have HL:=hide h.lt
  have HF:=hide h.foot_lt
  obtain ⟨i0,hi,hz0,hz1,hz2⟩:=info_parts infoEv
  clear h hm0
  go_enter Tryz.func143,Tryz.ntmps143
  go_wp2_with fail
  refine (unhide HE).mono ?_
  rintro e w1 ⟨rfl,L1,hm1, -, -⟩
  have hb1:=Fr.box hm1.fr rfl (unhide HL) (fun k hk=>(unhide HF k hk).2)
  have hc:=hm1.rd.cell
  have hf:=hm1.rd.frozen
  have hq:∀ i,w1.cell? ⟨w.heap.size,i,none⟩=[.int .i64 ev.kind,.string ⟨ev.name.toArray⟩,.string ⟨ev.space.toArray⟩,.string ⟨ev.val.toArray⟩,.slice none 0 0][i]? := fun i=>by simp [World.cell?,hb1]
  have hlen:(Mk.endText s).list.length≤1000000000 + 1:=by unfold Mk.endText;split <;> simp <;> omega
  have hsz:w.heap.size + 1≤w1.heap.size:=by have:=hm1.fr.size;simpa using this
  have hm2:=(hm1.alloc (.cells #[.int .i64 ev.kind,.string ⟨ev.name.toArray⟩,.string ⟨ev.space.toArray⟩,.string ⟨ev.val.toArray⟩,.slice none 0 0] 53)).drew
  have HO:=hide (hm2.rd.rows.own (lstRow (Mk.endText s) L1) (by simp [rowsOf]))
  have HB:=hide (show (w1.alloc (.cells #[.int .i64 ev.kind,.string ⟨ev.name.toArray⟩,.string ⟨ev.space.toArray⟩,.string ⟨ev.val.toArray⟩,.slice none 0 0] 53)).drew.heap[w1.heap.size]? = _ from heap_alloc_new w1 _)
  have H63:=hide (show (Mk.endText s).list.length + 1≤maxLen by unfold maxLen;omega)
  have HBB:=hide (show b - 1≤(w1.alloc (.cells #[.int .i64 ev.kind,.string ⟨ev.name.toArray⟩,.string ⟨ev.space.toArray⟩,.string ⟨ev.val.toArray⟩,.slice none 0 0] 53)).drew.heap.size by have:=hm1.rd.lt;simp;omega)
  have HM:=hide ((unhide HM0).call hm2)
  have hlt1:=hm1.rd.lt
  unfold cellsOf at hc
  clear hm1 hm2 hb1 HE HM0
  go_wp2
  go_region_law (refine step_append_lies _ rfl (.tmp 10) (.tmp 12) 35 rfl (b - 1) 53 i0 _ 5 80 Tryz.underlying35 hi hz0 hz1 hz2 rfl (by decide) (.slice L1.la (Mk.endText s).list.length L1.lc) (Mk.endText s).list.length (evsRow L1.es) (by simp [Act.eval]) (unhide HO) ⟨w1.heap.size,0,none⟩ 1 1 (evCells ev (.slice none 0 0)) (by simp [Act.eval]) rfl (World.news_of_block (unhide HB)) (evCells_one _ _ _ _) (by decide) (unhide H63) (by omega) (unhide HBB) (w1.heap.size + 1) (by simp) ?_;intro g cap w2 hown hgrow hat hlt2;obtain ⟨hr,hfr⟩:=cell_of_blk ((unhide HM).rd.grown (r:=lstRow (Mk.endText s) L1) hgrow (by simp [rowsOf]));unfold cellsOf at hr)
  all_goals
    go_wp2
    go_end0
    exact ⟨rfl,_,(unhide HM).pushNil ev he hown hgrow (by simpa using hat)⟩
set_option maxHeartbeats 1000000 in
set_option maxRecDepth 100000 in
theorem add_moved {w:World} {b:Nat} {s:St} {L:Lay} (h:RdL w b s L) (ev:Ev) (he:ev.attrs=s.attrs) (ham:s.am=false) (hx:s.text.length≤1000000000000) (hl:s.list.length≤1000000000) :
    Calls Tryz.prog 143 #[.pointer (some ⟨b,26,none⟩),.agg #[.int .i64 ev.kind,.string ⟨ev.name.toArray⟩,.string ⟨ev.space.toArray⟩,.string ⟨ev.val.toArray⟩,.slice L.aa s.attrs.length L.ac]] w fun e w' => e = .returned (.tuple #[])∧∃ L', Mv w b (foot s L) w' { Mk.add s ev with am:=true } L' := by
  have hm0:=(h.start).alloc (.cells #[.int .i64 ev.kind,.string ⟨ev.name.toArray⟩,.string ⟨ev.space.toArray⟩,.string ⟨ev.val.toArray⟩,.slice L.aa s.attrs.length L.ac] 53)
  have HE:=hide (endText_any hm0.rd hx (by omega))
  have HM0:=hide hm0
  have HL:=hide h.lt
  have HF:=hide h.foot_lt
  obtain ⟨i0,hi,hz0,hz1,hz2⟩:=info_parts infoEv
  have hatt:(Mk.endText s).attrs=s.attrs:=by unfold Mk.endText;split <;> rfl
  have ham' : (Mk.endText s).am=false:=by unfold Mk.endText;split <;> exact ham
  have HA:=hide hatt
  have HA' := hide ham'
  clear h hm0 hatt ham'
  go_enter Tryz.func143,Tryz.ntmps143
  go_wp2_with fail
  refine (unhide HE).mono ?_
  rintro e w1 ⟨rfl,L1,hm1,ha1,ha2⟩
  have hb1:=Fr.box hm1.fr rfl (unhide HL) (fun k hk=>(unhide HF k hk).2)
  rw [← ha1, ← ha2] at hb1
  have hc:=hm1.rd.cell
  have hf:=hm1.rd.frozen
  have hq:∀ i,w1.cell? ⟨w.heap.size,i,none⟩=[.int .i64 ev.kind,.string ⟨ev.name.toArray⟩,.string ⟨ev.space.toArray⟩,.string ⟨ev.val.toArray⟩,.slice L1.aa s.attrs.length L1.ac][i]? := fun i=>by simp [World.cell?,hb1]
  have hlen:(Mk.endText s).list.length≤1000000000 + 1:=by unfold Mk.endText;split <;> simp <;> omega
  have hsz:w.heap.size + 1≤w1.heap.size:=by have:=hm1.fr.size;simpa using this
  have hm2:=(hm1.alloc (.cells #[.int .i64 ev.kind,.string ⟨ev.name.toArray⟩,.string ⟨ev.space.toArray⟩,.string ⟨ev.val.toArray⟩,.slice L1.aa s.attrs.length L1.ac] 53)).drew
  have HO:=hide (hm2.rd.rows.own (lstRow (Mk.endText s) L1) (by simp [rowsOf]))
  have HB:=hide (show (w1.alloc (.cells #[.int .i64 ev.kind,.string ⟨ev.name.toArray⟩,.string ⟨ev.space.toArray⟩,.string ⟨ev.val.toArray⟩,.slice L1.aa s.attrs.length L1.ac] 53)).drew.heap[w1.heap.size]? = _ from heap_alloc_new w1 _)
  have H63:=hide (show (Mk.endText s).list.length + 1≤maxLen by unfold maxLen;omega)
  have HBB:=hide (show b - 1≤(w1.alloc (.cells #[.int .i64 ev.kind,.string ⟨ev.name.toArray⟩,.string ⟨ev.space.toArray⟩,.string ⟨ev.val.toArray⟩,.slice L1.aa s.attrs.length L1.ac] 53)).drew.heap.size by have:=hm1.rd.lt;simp;omega)
  have HM:=hide ((unhide HM0).call hm2)
  have hlt1:=hm1.rd.lt
  unfold cellsOf at hc
  clear hm1 hm2 hb1 HE HM0 ha1 ha2
  go_wp2
  go_region_law (refine step_append_lies _ rfl (.tmp 10) (.tmp 12) 35 rfl (b - 1) 53 i0 _ 5 80 Tryz.underlying35 hi hz0 hz1 hz2 rfl (by decide) (.slice L1.la (Mk.endText s).list.length L1.lc) (Mk.endText s).list.length (evsRow L1.es) (by simp [Act.eval]) (unhide HO) ⟨w1.heap.size,0,none⟩ 1 1 (evCells ev (.slice L1.aa s.attrs.length L1.ac)) (by simp [Act.eval]) rfl (World.news_of_block (unhide HB)) (evCells_one _ _ _ _) (by decide) (unhide H63) (by omega) (unhide HBB) (w1.heap.size + 1) (by simp) ?_;intro g cap w2 hown hgrow hat hlt2;obtain ⟨hr,hfr⟩:=cell_of_blk ((unhide HM).rd.grown (r:=lstRow (Mk.endText s) L1) hgrow (by simp [rowsOf]));unfold cellsOf at hr)
  all_goals
    go_wp2
    go_end0
    rw [← unhide HA] at hown
    exact ⟨rfl,_,(unhide HM).pushMoved ev (he.trans (unhide HA).symm) (unhide HA') hown hgrow (by simpa using hat)⟩
def colonGo:Bs→Nat→Int
  | [],_ => -1
  | x :: r,i=>if x == 58 then (i:Int) else colonGo r (i + 1)
theorem colon_cons (x:UInt8) (r:Bs):Mk.colonAt (x :: r)=if x == 58 then 0 else Mk.colonAt r + 1:=by
  unfold Mk.colonAt
  rw [List.takeWhile_cons]
  cases h:(x == 58) <;> simp [bne,h]
theorem colonGo_eq:∀ (l:Bs) (i:Nat),colonGo l i=if Mk.hasColon l then ((i + Mk.colonAt l:Nat):Int) else -1
  | [],i=>rfl
  | x :: r,i=>by
    unfold colonGo
    rw [colonGo_eq r (i + 1)]
    unfold Mk.hasColon
    rw [colon_cons]
    cases h:(x == 58)
    · simp only [Bool.false_eq_true,if_false,List.length_cons,Nat.add_lt_add_iff_right]
      split
      · congr 1;omega
      · rfl
    · simp
theorem colon_eq (l:Bs):Mk.colon l=colonGo l 0:=by rw [colonGo_eq,Nat.zero_add];rfl
theorem spDrop {l:Bs} {k:Nat} {y:UInt8} (h:l[k]? = some y):l.drop k=y :: l.drop (k + 1):=by
  obtain ⟨h1,h2⟩:=List.getElem?_eq_some_iff.1 h
  rw [List.drop_eq_getElem_cons h1,h2]
theorem spByte (x:UInt8) (n:Nat) (hn:n<256):((x.toNat:Int) == (n:Int))=(x == UInt8.ofNat n):=by
  rw [Bool.eq_iff_iff,beq_iff_eq,beq_iff_eq]
  constructor
  · intro h
    apply UInt8.toNat_inj.1
    simp [UInt8.toNat_ofNat]
    omega
  · intro h;subst h;simp;omega
theorem spTake (l:Bs) (n:Nat):(ByteArray.extract ⟨l.toArray⟩ 0 n)=⟨(l.take n).toArray⟩:=by
  apply ByteArray.ext
  simp [ByteArray.data_extract,List.extract_toArray,List.extract_eq_take_drop]
theorem spSkip (l:Bs) (n:Nat):(ByteArray.extract ⟨l.toArray⟩ n l.length)=⟨(l.drop n).toArray⟩:=by
  apply ByteArray.ext
  simp only [ByteArray.data_extract,List.extract_toArray,List.extract_eq_take_drop]
  rw [List.take_of_length_le (by simp)]
theorem colonAt_le (l:Bs):Mk.colonAt l≤l.length:=by unfold Mk.colonAt;exact (List.takeWhile_sublist _).length_le
theorem colon_any (l:Bs) (hl:l.length≤100000000) (w:World):Calls Tryz.prog 163 #[.string ⟨l.toArray⟩] w fun e w' => e = .returned (.int .i64 (Mk.colon l))∧w' = w:=by
  obtain ⟨FIN,hFIN⟩:∃ FIN,FIN=Mk.colon l:=⟨_,rfl⟩
  rw [← hFIN]
  rw [colon_eq] at hFIN
  have HF:=hide hFIN
  clear hFIN
  go_enter Tryz.func163,Tryz.ntmps163
  go_wp2_with fail
  go_loopg [3] l.length (fun g s3 wx=>wx=w∧∃ i:Nat,i≤l.length∧g=l.length - i∧s3 = .int .i64 i∧FIN=colonGo (l.drop i) i)
  case atStart=>exact ⟨rfl,0,by omega,rfl,rfl,unhide HF⟩
  case round =>
    obtain ⟨hwr,i,hi,rfl,rfl,hf⟩:=hrel
    obtain rfl:=hwr.symm
    clear HF
    by_cases h3:i<l.length
    · have e1:decide ((i:Int)<(l.length:Int))=true:=by simp;omega
      have hk1:(i:Int)<(l.length:Int):=by omega
      obtain ⟨y,hy⟩:∃ y,l[i]? = some y:=⟨l[i],by simp [h3]⟩
      have hsa:∀ h,(ByteArray.mk l.toArray)[i]'h=y:=fun h=>(List.getElem?_eq_some_iff.1 hy).2
      rw [spDrop hy] at hf
      have hcc:colonGo (y :: l.drop (i + 1)) i=if y == 58 then (i:Int) else colonGo (l.drop (i + 1)) (i + 1):=rfl
      rw [hcc] at hf
      have hu:=spByte y 58 (by omega)
      cases h5:(y == 58)
      · rw [h5] at hf
        simp only [Bool.false_eq_true,if_false] at hf
        have e2:((y.toNat:Int) == 58)=false:=by
          have h6:(y == UInt8.ofNat 58)=false:=h5
          rw [h6] at hu
          simpa using hu
        have HF:=hide hf
        clear hf hu hcc hy
        go_wp2
        go_roundg (l.length - (i + 1))
        case measure=>omega
        case rel=>exact ⟨rfl,i + 1,by omega,rfl,by simp,unhide HF⟩
      · rw [h5] at hf
        simp only [if_true] at hf
        have e2:((y.toNat:Int) == 58)=true:=by
          have h6:(y == UInt8.ofNat 58)=true:=h5
          rw [h6] at hu
          simpa using hu
        have HF:=hide hf
        clear hf hu hcc hy
        go_wp2
        go_ret
        rw [unhide HF]
        exact ⟨rfl,rfl⟩
    · have e1:decide ((i:Int)<(l.length:Int))=false:=by simp;omega
      rw [List.drop_of_length_le (by omega)] at hf
      have HF:=hide (show FIN = -1 from hf)
      clear hf
      go_wp2
      go_ret
      rw [unhide HF]
      exact ⟨rfl,rfl⟩
theorem HasColon_any (l:Bs) (hl:l.length≤100000000) (w:World):Calls Tryz.prog 149 #[.string ⟨l.toArray⟩] w fun e w' => e = .returned (.bool (Mk.hasColon l))∧w' = w:=by
  have HC:=hide (colon_any l hl w)
  have e1:decide ((0:Int)≤Mk.colon l)=Mk.hasColon l:=by
    unfold Mk.colon
    cases Mk.hasColon l <;> simp
  generalize Mk.hasColon l=r at *
  generalize Mk.colon l=c at *
  go_enter Tryz.func149,Tryz.ntmps149
  go_wp2_with fail
  refine (unhide HC).mono ?_
  rintro e w1 ⟨rfl,rfl⟩
  go_wp2
  go_ret
  exact ⟨rfl,rfl⟩
theorem prefixOf_any (l:Bs) (hl:l.length≤100000000) (w:World):Calls Tryz.prog 179 #[.string ⟨l.toArray⟩] w fun e w' => e = .returned (.string ⟨(Mk.prefixOf l).toArray⟩)∧w' = w:=by
  have HC:=hide (colon_any l hl w)
  have hle:=colonAt_le l
  cases hh:Mk.hasColon l
  · have h1:Mk.colon l = -1:=by unfold Mk.colon;rw [hh];rfl
    have h2:Mk.prefixOf l=[]:=by unfold Mk.prefixOf;rw [hh];rfl
    rw [h1] at HC
    rw [h2]
    clear h1 h2 hh hle
    go_enter Tryz.func179,Tryz.ntmps179
    go_wp2_with fail
    refine (unhide HC).mono ?_
    rintro e w1 ⟨rfl,rfl⟩
    go_wp2
    go_ret
    exact ⟨rfl,rfl⟩
  · have h1:Mk.colon l=(Mk.colonAt l:Int):=by unfold Mk.colon;rw [hh];rfl
    have h2:Mk.prefixOf l=l.take (Mk.colonAt l):=by unfold Mk.prefixOf;rw [hh];rfl
    rw [h1] at HC
    rw [h2]
    generalize Mk.colonAt l=c at *
    have e1:decide ((c:Int)<0)=false:=by simp
    have e2:=spTake l c
    clear h1 h2 hh
    go_enter Tryz.func179,Tryz.ntmps179
    go_wp2_with fail
    refine (unhide HC).mono ?_
    rintro e w1 ⟨rfl,rfl⟩
    go_wp2
    go_ret
    exact ⟨rfl,rfl⟩
theorem localOf_any (l:Bs) (hl:l.length≤100000000) (w:World):Calls Tryz.prog 187 #[.string ⟨l.toArray⟩] w fun e w' => e = .returned (.string ⟨(Mk.localOf l).toArray⟩)∧w' = w:=by
  have HC:=hide (colon_any l hl w)
  have hle:=colonAt_le l
  cases hh:Mk.hasColon l
  · have h1:Mk.colon l = -1:=by unfold Mk.colon;rw [hh];rfl
    have h2:Mk.localOf l=l:=by unfold Mk.localOf;rw [hh];rfl
    rw [h1] at HC
    rw [h2]
    have e2:=spSkip l 0
    clear h1 h2 hh hle
    go_enter Tryz.func187,Tryz.ntmps187
    go_wp2_with fail
    refine (unhide HC).mono ?_
    rintro e w1 ⟨rfl,rfl⟩
    go_wp2
    go_ret
    exact ⟨rfl,rfl⟩
  · have h1:Mk.colon l=(Mk.colonAt l:Int):=by unfold Mk.colon;rw [hh];rfl
    have h2:Mk.localOf l=l.drop (Mk.colonAt l + 1):=by unfold Mk.localOf;rw [hh];rfl
    have h3:Mk.colonAt l<l.length:=by simpa [Mk.hasColon] using hh
    rw [h1] at HC
    rw [h2]
    generalize Mk.colonAt l=c at *
    have e2:=spSkip l (c + 1)
    have e3:decide ((c:Int) + 1≤(l.length:Int))=true:=by simp;omega
    clear h1 h2 hh
    go_enter Tryz.func187,Tryz.ntmps187
    go_wp2_with fail
    refine (unhide HC).mono ?_
    rintro e w1 ⟨rfl,rfl⟩
    go_wp2
    go_ret
    exact ⟨rfl,rfl⟩
end Go.Proofs.YtmgfijllcdadgabGreatDoor
