/-
  CONTRACTS of package reader: tokens and what is told (1).
-/
import Derived.Test.YtkkakfocjbnomaaDoorParts
import Derived.Test.YtkkakfocjbnomaaDoorRep
import Derived.Deep.QuietTactic
import Derived.BigQuiet
import Derived.Deep.RegionLaw
namespace Go.Proofs.YtkkakfocjbnomaaDoor
set_option linter.unusedVariables false
set_option linter.unusedSimpArgs false
open Go.RowKit
open Mk (St Bs Ev Att)

theorem infoU8 : (Tryd.prog.info? 5).map (fun i => (i.zero, i.size, i.bytes)) = some (some (.int .u8 0), 1, 1) := by kernel_rfl

theorem inText_any {w : World} {b : Nat} {s : St} {L : Lay} (h : RdL w b s L) :
    Calls Tryd.prog 77 #[.pointer (some ⟨b, 0, none⟩)] w fun e w' => e = .returned (.bool (Mk.inText s)) ∧ w' = w := by
  have hc := h.cell
  unfold cellsOf at hc
  clear h
  go_enter Tryd.func77, Tryd.ntmps77
  go_wp2
  all_goals (go_ret; exact ⟨by simp [Mk.inText, *], rfl⟩)

theorem fits_any {w : World} {b : Nat} {s : St} {L : Lay} (h : RdL w b s L) (more : Int) (c0 : 0 ≤ s.count) (c1 : s.count ≤ 1000000000000) (m0 : 0 ≤ more) (m1 : more ≤ 1000) :
    Calls Tryd.prog 60 #[.pointer (some ⟨b, 0, none⟩), .int .i64 more] w fun e w' => e = .returned (.bool (Mk.fits s more)) ∧ ∃ n, w' = w.drewN n := by
  have hc := h.cell
  have HI : Hid (∀ n, Calls Tryd.prog 77 #[.pointer (some ⟨b, 0, none⟩)] (w.drewN n) fun e w' => e = .returned (.bool (Mk.inText s)) ∧ w' = w.drewN n) := fun n => inText_any (h.drewN n)
  unfold cellsOf at hc
  clear h
  cases hin : Mk.inText s
  all_goals
    rw [hin] at HI
    go_enter Tryd.func60, Tryd.ntmps60
    go_wp2
    go_quiet ((go_at_call 77; exact Calls.quiet_of_same (HI.out _)))
    go_wp2
    go_ret
    exact ⟨retB (by simp [Mk.fits, *]), _, rfl⟩

theorem u8_toNat (n : Int) (h0 : 0 ≤ n) (h1 : n ≤ 255) : ((Mk.u8 n).toNat : Int) = n := by
  unfold Mk.u8
  rw [UInt8.toNat_ofNat']
  omega
theorem encode_cells (c : Int) (h0 : 0 ≤ c) (h1 : c ≤ 1114111) : (Mk.encodeI c).map (Value.int .u8) = (Mk.encode c).map bv := by
  unfold Mk.encode
  rw [List.map_map]
  apply List.map_congr_left
  intro n hn
  have : 0 ≤ n ∧ n ≤ 255 := by
    unfold Mk.encodeI at hn
    split at hn
    · simp at hn; omega
    · split at hn
      · simp at hn; omega
      · split at hn <;> simp at hn <;> omega
  simp [bv, u8_toNat n this.1 this.2]
theorem encode_len (c : Int) : 0 < (Mk.encodeI c).length ∧ (Mk.encodeI c).length ≤ 4 ∧ (Mk.encode c).length = (Mk.encodeI c).length := by
  unfold Mk.encode Mk.encodeI
  repeat' split
  all_goals simp

set_option maxHeartbeats 1000000 in
set_option maxRecDepth 100000 in
theorem put_text {w : World} {b : Nat} {s : St} {L : Lay} (h : RdL w b s L) (c : Int) (h0 : 0 ≤ c) (h1 : c ≤ 1114111) (ht : Mk.inText s = true) (hx : s.text.length ≤ 1000000000000) :
    Calls Tryd.prog 53 #[.pointer (some ⟨b, 0, none⟩), .int .i64 c] w fun e w' => e = .returned (.tuple #[]) ∧ ∃ L', Mv w b (foot s L) w' { s with text := s.text ++ Mk.encode c } L' := by
  have hm := (h.start).alloc (.cells ((Mk.encodeI c).map (Value.int .u8)).toArray 5)
  have hc := hm.rd.cell
  have hf := hm.rd.frozen
  have HI : Hid (Calls Tryd.prog 77 #[.pointer (some ⟨b, 0, none⟩)] (w.alloc (.cells ((Mk.encodeI c).map (Value.int .u8)).toArray 5)) fun e w' => e = .returned (.bool (Mk.inText s)) ∧ w' = (w.alloc (.cells ((Mk.encodeI c).map (Value.int .u8)).toArray 5))) := inText_any hm.rd
  have HM : Hid (Mv w b (foot s L) (w.alloc (.cells ((Mk.encodeI c).map (Value.int .u8)).toArray 5)) s L) := hm
  have he := encode_len c
  unfold cellsOf at hc
  clear h hm
  obtain ⟨i0, hi, hz0, hz1, hz2⟩ := info_parts infoU8
  go_enter Tryd.func53, Tryd.ntmps53
  go_wp2_with (first
    | (go_at_call 76; refine (encode_any c h0 h1 _).mono ?_; rintro e w' ⟨rfl, rfl⟩)
    | (go_at_call 77; refine HI.out.mono ?_; rintro e w' ⟨rfl, rfl⟩)
    | (at_builtin; refine wpList_append_lies _ rfl (.tmp 14) (.tmp 15) 56 rfl (b + 1) 5 i0 (.int .u8 0) 1 1 Tryd.underlying56 hi hz0 hz1 hz2 rfl (by decide) (.slice L.xa s.text.length L.xc) s.text.length (s.text.map bv) rfl ?own ⟨w.heap.size, 0, none⟩ (Mk.encodeI c).length (Mk.encodeI c).length ((Mk.encode c).map bv) rfl ?hl ?hnews ?h1 ?hm ?h63 ?hbytes ?hbase (w.heap.size + 1) (by simp) ?grow))
  case own => exact HM.out.rd.rows.own (txtRow s L) (by simp [rowsOf])
  case hl => simp [he.2.2]
  case hnews =>
    intro j u hu
    rw [← encode_cells c h0 h1] at hu
    have hadd : (⟨w.heap.size, 0, none⟩ : Addr).add j = ⟨w.heap.size, j, none⟩ := by unfold Addr.add; split <;> simp_all
    rw [hadd]
    simpa [World.cell?, World.alloc, -World.alloc_eq] using hu
  case h1 => intro u hu; obtain ⟨x, _, rfl⟩ := List.mem_map.1 hu; rfl
  case hm => exact he.1
  case h63 => unfold maxLen; omega
  case hbytes => omega
  case hbase => have := HM.out.rd.lt; omega
  case grow =>
    intro g cap w1 hown hgrow hat hlt
    obtain ⟨hr, hfr⟩ := cell_of_blk (HM.out.rd.grown (r := txtRow s L) hgrow (by simp [rowsOf]))
    unfold cellsOf at hr
    clear hc hf HI
    go_wp2
    refine bodyPost_ret (results_none rfl _ _ _) rfl ?_
    refine ⟨rfl, { L with xa := some ⟨g, 0, none⟩, xc := cap }, HM.out.grow (s' := { s with text := s.text ++ Mk.encode c }) (L' := { L with xa := some ⟨g, 0, none⟩, xc := cap }) (r := txtRow s L) 25 _ (perm5 _ _ _ _ _ _) (perm5 _ _ _ _ _ _) ?_ hgrow ?_ ?_ HM.out.rd.evs⟩
    · have e1 : (s.text ++ Mk.encode c).length = s.text.length + (Mk.encodeI c).length := by rw [List.length_append, he.2.2]
      show World.ownsRow _ _ _ _ _ _ _
      simp only [txtRow, List.map_append]
      rw [e1]
      exact hown
    · rcases hat with e | e
      · exact .inl e.symm
      · exact .inr (by rw [e]; simp [txtRow, Value.ownBlock])
    · simp [cellsOf, he.2.2]
set_option maxHeartbeats 1000000 in
set_option maxRecDepth 100000 in
theorem put_token {w : World} {b : Nat} {s : St} {L : Lay} (h : RdL w b s L) (c : Int) (h0 : 0 ≤ c) (h1 : c ≤ 1114111) (ht : Mk.inText s = false) (hx : s.token.length ≤ 1000000000000) (c0 : 0 ≤ s.count) (c1 : s.count ≤ 1000000000000) :
    Calls Tryd.prog 53 #[.pointer (some ⟨b, 0, none⟩), .int .i64 c] w fun e w' => e = .returned (.tuple #[]) ∧ ∃ L', Mv w b (foot s L) w' { s with token := s.token ++ Mk.encode c, count := s.count + 1 } L' := by
  have hm := (h.start).alloc (.cells ((Mk.encodeI c).map (Value.int .u8)).toArray 5)
  have hc := hm.rd.cell
  have hf := hm.rd.frozen
  have HI : Hid (Calls Tryd.prog 77 #[.pointer (some ⟨b, 0, none⟩)] (w.alloc (.cells ((Mk.encodeI c).map (Value.int .u8)).toArray 5)) fun e w' => e = .returned (.bool (Mk.inText s)) ∧ w' = (w.alloc (.cells ((Mk.encodeI c).map (Value.int .u8)).toArray 5))) := inText_any hm.rd
  have HM : Hid (Mv w b (foot s L) (w.alloc (.cells ((Mk.encodeI c).map (Value.int .u8)).toArray 5)) s L) := hm
  have he := encode_len c
  unfold cellsOf at hc
  clear h hm
  obtain ⟨i0, hi, hz0, hz1, hz2⟩ := info_parts infoU8
  go_enter Tryd.func53, Tryd.ntmps53
  go_wp2_with (first
    | (go_at_call 76; refine (encode_any c h0 h1 _).mono ?_; rintro e w' ⟨rfl, rfl⟩)
    | (go_at_call 77; refine HI.out.mono ?_; rintro e w' ⟨rfl, rfl⟩)
    | (at_builtin; refine wpList_append_lies _ rfl (.tmp 24) (.tmp 25) 56 rfl (b + 1) 5 i0 (.int .u8 0) 1 1 Tryd.underlying56 hi hz0 hz1 hz2 rfl (by decide) (.slice L.ta s.token.length L.tc) s.token.length (s.token.map bv) rfl ?own ⟨w.heap.size, 0, none⟩ (Mk.encodeI c).length (Mk.encodeI c).length ((Mk.encode c).map bv) rfl ?hl ?hnews ?h1 ?hm ?h63 ?hbytes ?hbase (w.heap.size + 1) (by simp) ?grow))
  case own => exact HM.out.rd.rows.own (tokRow s L) (by simp [rowsOf])
  case hl => simp [he.2.2]
  case hnews =>
    intro j u hu
    rw [← encode_cells c h0 h1] at hu
    have hadd : (⟨w.heap.size, 0, none⟩ : Addr).add j = ⟨w.heap.size, j, none⟩ := by unfold Addr.add; split <;> simp_all
    rw [hadd]
    simpa [World.cell?, World.alloc, -World.alloc_eq] using hu
  case h1 => intro u hu; obtain ⟨x, _, rfl⟩ := List.mem_map.1 hu; rfl
  case hm => exact he.1
  case h63 => unfold maxLen; omega
  case hbytes => omega
  case hbase => have := HM.out.rd.lt; omega
  case grow =>
    intro g cap w1 hown hgrow hat hlt
    obtain ⟨hr, hfr⟩ := cell_of_blk (HM.out.rd.grown (r := tokRow s L) hgrow (by simp [rowsOf]))
    unfold cellsOf at hr
    clear hc hf HI
    go_wp2
    go_end0
    refine ⟨rfl, { L with ta := some ⟨g, 0, none⟩, tc := cap }, (HM.out.grow (s' := { s with token := s.token ++ Mk.encode c }) (L' := { L with ta := some ⟨g, 0, none⟩, tc := cap }) (r := tokRow s L) (rs := opnRow s L :: attRow s L :: lstRow s L :: txtRow s L :: L.es.map evRow) 7 _ (perm2 _ _ _) (perm2 _ _ _) ?_ hgrow ?_ ?_ HM.out.rd.evs).store 8 _ _ rfl rfl rfl⟩
    · have e1 : (s.token ++ Mk.encode c).length = s.token.length + (Mk.encodeI c).length := by rw [List.length_append, he.2.2]
      show World.ownsRow _ _ _ _ _ _ _
      simp only [tokRow, List.map_append]
      rw [e1]
      exact hown
    · rcases hat with e | e
      · exact .inl e.symm
      · exact .inr (by rw [e]; simp [tokRow, Value.ownBlock])
    · simp [cellsOf, he.2.2]
theorem put_any {w : World} {b : Nat} {s : St} {L : Lay} (h : RdL w b s L) (c : Int) (h0 : 0 ≤ c) (h1 : c ≤ 1114111) (hx : s.text.length ≤ 1000000000000) (ht : s.token.length ≤ 1000000000000) (c0 : 0 ≤ s.count) (c1 : s.count ≤ 1000000000000) :
    Calls Tryd.prog 53 #[.pointer (some ⟨b, 0, none⟩), .int .i64 c] w fun e w' => e = .returned (.tuple #[]) ∧ ∃ L', Mv w b (foot s L) w' (Mk.put s c) L' := by
  cases hi : Mk.inText s
  · have := put_token h c h0 h1 hi ht c0 c1
    simpa [Mk.put, hi] using this
  · have := put_text h c h0 h1 hi hx
    simpa [Mk.put, hi] using this
end Go.Proofs.YtkkakfocjbnomaaDoor
