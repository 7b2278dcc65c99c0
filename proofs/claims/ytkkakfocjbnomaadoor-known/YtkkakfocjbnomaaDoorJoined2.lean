/-
  CONTRACTS of package markupkeep: joined (2).
-/
import Derived.Test.YtkkakfocjbnomaaDoorJoined
namespace Go.Proofs.YtkkakfocjbnomaaDoor
set_option linter.unusedVariables false
set_option linter.unusedSimpArgs false
open Go.RowKit
open Mk (St Bs Ev Att)

theorem joinOne_bd {all : List Ev} {e : Ev} {N M : Nat} (hN : ∀ x ∈ all, x.val.length ≤ N) (hM : e.val.length ≤ M) : ∀ x ∈ joinOne all e, x.val.length ≤ N + M := by
  intro x hx
  unfold joinOne at hx
  split at hx
  · rename_i y hy
    have hy' := List.mem_of_getLast? hy
    split at hx
    · rcases List.mem_append.1 hx with hx | hx
      · have := hN x (List.dropLast_subset _ hx); omega
      · simp at hx
        subst hx
        have := hN y hy'
        simp; omega
    · rcases List.mem_append.1 hx with hx | hx
      · have := hN x hx; omega
      · simp at hx; subst hx; omega
  · simp at hx; subst hx; omega
theorem join_bd {M : Nat} : ∀ (l : List Ev) {all : List Ev} {N : Nat}, (∀ x ∈ all, x.val.length ≤ N) → (∀ x ∈ l, x.val.length ≤ M) → ∀ x ∈ join all l, x.val.length ≤ N + l.length * M
  | [], all, N, hN, _, x, hx => by have := hN x hx; omega
  | e :: r, all, N, hN, hM, x, hx => by
    have h1 := joinOne_bd hN (hM e List.mem_cons_self)
    have h2 := join_bd r h1 (fun y hy => hM y (List.mem_cons_of_mem _ hy)) x hx
    rw [List.length_cons, Nat.succ_mul]
    omega
theorem cat_str (a b : Bs) : (⟨a.toArray⟩ : ByteArray) ++ (⟨b.toArray⟩ : ByteArray) = ⟨(a ++ b).toArray⟩ := by
  apply ByteArray.ext
  simp

set_option maxHeartbeats 4000000 in
set_option maxRecDepth 100000 in
theorem joined_any {w : World} {v1 v2 : Value} {all l : List Ev} {fp1 fp2 : List Nat} (h1 : Got w v1 all fp1) (h2 : Got w v2 l fp2) (hd : ∀ k, v1.ownBlock = some k → k ∉ fp2) (hlt2 : ∀ k ∈ fp2, k < w.heap.size)
    (N M : Nat) (hN : ∀ e ∈ all, e.val.length ≤ N) (hM : ∀ e ∈ l, e.val.length ≤ M) (hNM : N + l.length * M + M ≤ 1000000000000000) (hal : all.length + l.length ≤ 1000000000) :
    Calls Tryd.prog 19 #[v1, v2] w fun e w' => ∃ v fp, e = .returned v ∧ Jn w w' v1 v (fp1 ++ fp2) fp (join all l) := by
  have H2 := hide h2
  obtain ⟨es2, hl2, ho2, ha2, hf2, hg2⟩ := h2.ex
  have n2 : es2.length = l.length := by rw [← hl2]; simp
  obtain ⟨a2, c2, rfl⟩ := slice_form ho2
  have H1 := hide h1
  obtain ⟨es1, hl1, ho1, ha1, hf1, hg1⟩ := h1.ex
  obtain ⟨a1, c1, rfl⟩ := slice_form ho1
  have HD := hide hd
  have HL2 := hide hlt2
  have HN := hide hN
  have HM := hide hM
  obtain ⟨i0, hi, hz0, hz1, hz2⟩ := info_parts infoEv
  clear h1 h2 hd hlt2 hl1 ho1 ha1 hf1 hg1 hl2 ho2 ha2 hf2 hg2 hN hM n2
  go_enter Tryd.func19, Tryd.ntmps19
  go_wp2
  go_loopw [0, 5] (fun s0 i w' => ∃ (k : Nat) (v : Value) (fp : List Nat), k ≤ l.length ∧ i = .int .i64 k ∧ s0 = v ∧ Jn w w' (.slice a1 all.length c1) v (fp1 ++ fp2) fp (join all (l.take k))) (fun _ i _ => l.length - (intOf i).toNat)
  case atStart => exact ⟨0, _, fp1, by omega, rfl, rfl, Jf.refl _ _, unhide H1, fun k hk => .inl (List.mem_append_left _ hk)⟩
  case round =>
    obtain ⟨k, v, fp, hk, rfl, rfl, jn⟩ := hrel
    obtain ⟨es, hes, hrow, ha, hf, hg⟩ := jn.got.ex
    obtain ⟨a, c, rfl⟩ := slice_form hrow
    by_cases hlt : k < l.length
    · -- the list that is joined lies as it did
      have hk2 : Got wr (.slice a2 l.length c2) l fp2 := (unhide H2).keep fun q hq => jn.jf.gr.block q (unhide HL2 q hq) fun e => unhide HD q e.symm hq
      obtain ⟨es2, hl2, ho2, ha2, hf2, hg2⟩ := hk2.ex
      have n2 : es2.length = l.length := by rw [← hl2]; simp
      have k2 : k < es2.length := by omega
      obtain ⟨g2, d2, f2, hg2lt, q2⟩ := elem_cells (l := es2) (fun p => evCells p.1 p.2) (fun _ => rfl) (by decide) ho2 n2.symm k k2
      have r2 : es2[k].1 = l[k] := by simp only [← hl2, List.getElem_map]
      injection f2 with f2 _ f2c
      have hown2 := ha2 _ (List.getElem_mem k2)
      have hblk2 : ∀ q, es2[k].2.ownBlock = some q → q ∈ fp2 ∧ (Value.slice a (join all (l.take k)).length c).ownBlock ≠ some q := by
        intro q hq
        have h7 := (hg2 q (mem_blks_of (List.getElem_mem k2) hq)).1
        refine ⟨h7, fun e => ?_⟩
        rcases jn.jf.lies with h8 | ⟨g, h8, h9⟩
        · exact unhide HD q (h8.symm.trans e) h7
        · rw [h8] at e; cases e; have := unhide HL2 _ h7; omega
      have p0 := q2 0 (by decide)
      have p1 := q2 1 (by decide)
      have p2 := q2 2 (by decide)
      have p3 := q2 3 (by decide)
      have p4 := q2 4 (by decide)
      have hel : evRow es2[k] = evRow (l[k], es2[k].2) := by rw [← r2]
      rw [hel] at hown2
      rw [r2] at p0 p1 p2 p3 p4
      have hvl : l[k].val.length ≤ M := unhide HM _ (List.getElem_mem hlt)
      have hjb := join_bd (l.take k) (unhide HN) (fun y hy => unhide HM y (List.mem_of_mem_take hy))
      have hjl := join_len (l.take k) all
      have htl : (l.take k).length = k := by simp; omega
      have hsn := join_snoc all (l.take k) l[k]
      rw [← List.take_succ_eq_append_getElem hlt] at hsn
      obtain ⟨ev, hev⟩ : ∃ ev, es2[k].2 = ev := ⟨_, rfl⟩
      rw [hev] at p4 hown2 hblk2
      obtain ⟨ea, ec, rfl⟩ : ∃ ea ec, ev = .slice ea l[k].attrs.length ec := slice_form hown2
      simp only [evCells, List.getElem?_cons_zero, List.getElem?_cons_succ, Nat.add_zero] at p0 p1 p2 p3 p4
      rw [htl] at hjl hjb
      have hkm : k * M ≤ l.length * M := Nat.mul_le_mul_right _ hk
      clear q2 hk2 hl2 ho2 ha2 hf2 hg2 hel r2 hev
      subst f2
      subst f2c
      generalize hx : l[k] = x at *
      clear hx
      generalize hs2 : join all (l.take (k + 1)) = A2 at *
      generalize join all (l.take k) = A at *
      have HP : Hid (∀ (w2 : World) (g cap : Nat), w2.ownsRow 0 46 5 (.slice (some ⟨g, 0, none⟩) (A.length + 1) cap) (A.length + 1) (evsRow es ++ evCells x (.slice ea x.attrs.length ec)) → (wr.alloc (.cells #[.int .i64 x.kind, .string ⟨x.name.toArray⟩, .string ⟨x.space.toArray⟩, .string ⟨x.val.toArray⟩, .slice ea x.attrs.length ec] 46)).grownBy w2 (Value.slice a A.length c).ownBlock → ((Value.slice a A.length c).ownBlock = some g ∨ g = wr.heap.size + 1) → Jn w w2 (.slice a1 all.length c1) (.slice (some ⟨g, 0, none⟩) (A.length + 1) cap) (fp1 ++ fp2) (g :: (fp ++ fp2)) (A ++ [x])) :=
        fun w2 g cap h1 h2 h3 => Jn.push es hes hrow ha hf hg jn.jf jn.sub hown2 hblk2 h1 h2 h3 (unhide HL2)
      have HO := hide (World.ownsRow.alloc hrow (.cells #[.int .i64 x.kind, .string ⟨x.name.toArray⟩, .string ⟨x.space.toArray⟩, .string ⟨x.val.toArray⟩, .slice ea x.attrs.length ec] 46))
      have HB := hide (show (wr.alloc (.cells #[.int .i64 x.kind, .string ⟨x.name.toArray⟩, .string ⟨x.space.toArray⟩, .string ⟨x.val.toArray⟩, .slice ea x.attrs.length ec] 46)).heap[wr.heap.size]? = _ from heap_alloc_new wr _)
      have H63 := hide (show A.length + 1 ≤ maxLen by unfold maxLen; omega)
      have HS2 := hide hs2
      clear hs2
      rcases List.eq_nil_or_concat A with hA | ⟨B, y, hA⟩
      · have hA0 : A.length = 0 := by simp [hA]
        have hj1 : joinOne A x = A ++ [x] := by simp [joinOne, hA]
        rw [hj1] at hsn
        have HSN := hide hsn
        clear hsn hA hj1 hes hrow ha hf hg jn hown2 hblk2 hjb
        go_wp2_with (at_builtin; refine wpList_append_lies _ rfl (.tmp 51) (.tmp 56) 25 rfl 0 46 i0 _ 5 80 Tryd.underlying25 hi hz0 hz1 hz2 rfl (by decide) (.slice a A.length c) A.length (evsRow es) (by simp [Act.eval, hA0]) (unhide HO) ⟨wr.heap.size, 0, none⟩ 1 1 (evCells x (.slice ea x.attrs.length ec)) rfl rfl (World.news_of_block (unhide HB)) (evCells_one _ _ _ _) (by decide) (unhide H63) (by omega) (Nat.zero_le _) (wr.heap.size + 1) (by simp) ?_; intro g cap w2 hown hgrow hat hlt2; have HJ := hide (unhide HP w2 g cap hown hgrow hat); clear hown hgrow hat)
        go_roundw
        case rel =>
          refine ⟨k + 1, _, g :: (fp ++ fp2), by omega, by go_num, rfl, ?_⟩
          rw [unhide HS2, unhide HSN]
          have hj := unhide HJ
          simpa [hA0] using hj
        case measure => simp [intOf]; omega
      · have hAl : A.length = B.length + 1 := by simp [hA]
        have hesl : es.length = A.length := by rw [← hes]; simp
        obtain ⟨esB, ⟨y', yv⟩, hesc⟩ : ∃ esB p, es = esB ++ [p] := by
          rcases List.eq_nil_or_concat es with h | ⟨e1, e2, h⟩
          · rw [h] at hesl; simp at hesl; omega
          · exact ⟨e1, e2, by simpa using h⟩
        have hA' : A = B ++ [y] := by simpa using hA
        have hsp : esB.map (·.1) = B ∧ y' = y := by
          rw [hesc, hA', List.map_append] at hes
          have h5 := List.append_inj' hes (by simp)
          exact ⟨h5.1, by simpa using h5.2⟩
        obtain ⟨hB, rfl⟩ := hsp
        have hbl : esB.length = B.length := by rw [← hB]; simp
        obtain ⟨g, d, f1, hglt, q1⟩ := elem_cells (l := es) (fun p => evCells p.1 p.2) (fun _ => rfl) (by decide) hrow hesl.symm B.length (by omega)
        have hlast : es[B.length]'(by omega) = (y', yv) := by
          have : es[B.length]? = some (y', yv) := by rw [hesc, List.getElem?_append_right (by omega)]; simp [hbl]
          rw [List.getElem?_eq_getElem (by omega)] at this
          exact Option.some.inj this
        rw [hlast] at q1
        injection f1 with f1 _ f1c
        subst f1
        subst f1c
        have c0 := q1 0 (by decide)
        have c3 := q1 3 (by decide)
        simp only [evCells, List.getElem?_cons_zero, List.getElem?_cons_succ, Nat.add_zero] at c0 c3
        have hyv : y'.val.length ≤ N + k * M := hjb y' (by rw [hA']; simp)
        clear q1 hlast hesl hjb
        by_cases hk3 : y'.kind = 3 ∧ x.kind = 3
        · obtain ⟨ky, kx⟩ := hk3
          have hj1 : joinOne A x = B ++ [{ y' with val := y'.val ++ x.val }] := by simp [joinOne, hA', ky, kx]
          rw [hj1] at hsn
          have HSN := hide hsn
          have HQ : Hid (Jn w (wr.setCell ⟨g, B.length * 5 + 3, none⟩ (.string ⟨(y'.val ++ x.val).toArray⟩)).drew (.slice a1 all.length c1) (.slice (some ⟨g, 0, none⟩) A.length c) (fp1 ++ fp2) fp (B ++ [{ y' with val := y'.val ++ x.val }])) :=
            Jn.put esB hB hAl (by rw [← hesc]; exact hrow) (by rw [← hesc]; exact ha) hf (by rw [← hesc]; exact hg) jn.jf jn.sub _
          have hcat := cat_str y'.val x.val
          have hfz : wr.frozen? ⟨g, B.length * 5 + 3, none⟩ = false := by
            rcases hrow.2 with ⟨h8, _⟩ | ⟨g', cap', cur, hv8, _, hg8, _⟩
            · cases h8
            · cases hv8; exact frozen_of_row wr g _ cur _ hg8
          clear hsn hA hA' hj1 hes hrow ha hf hg jn hown2 hblk2 hesc hB HO HB HP hbl
          go_wp2
          go_region
          all_goals
            go_wp2
            go_roundw
            case rel =>
              refine ⟨k + 1, _, fp, by omega, by go_num, rfl, ?_⟩
              rw [unhide HS2, unhide HSN]
              have hq := unhide HQ
              rw [hAl] at hq
              exact hq
            case measure => simp [intOf]; omega
        · have hj1 : joinOne A x = A ++ [x] := by simp [joinOne, hA', hk3]
          rw [hj1] at hsn
          have HSN := hide hsn
          by_cases ky : y'.kind = 3
          · have kx : (x.kind == 3) = false := by rw [beq_eq_false_iff_ne]; exact fun h => hk3 ⟨ky, h⟩
            clear hsn hA hA' hj1 hes hrow ha hf hg jn hown2 hblk2 hesc hB hbl hk3
            go_wp2_with (at_builtin; refine wpList_append_lies _ rfl (.tmp 51) (.tmp 56) 25 rfl 0 46 i0 _ 5 80 Tryd.underlying25 hi hz0 hz1 hz2 rfl (by decide) (.slice (some ⟨g, 0, none⟩) A.length c) A.length (evsRow es) (by simp [Act.eval, hAl]) (unhide HO) ⟨wr.heap.size, 0, none⟩ 1 1 (evCells x (.slice ea x.attrs.length ec)) rfl rfl (World.news_of_block (unhide HB)) (evCells_one _ _ _ _) (by decide) (unhide H63) (by omega) (Nat.zero_le _) (wr.heap.size + 1) (by simp) ?_; intro g' cap w2 hown hgrow hat hlt2; have HJ := hide (unhide HP w2 g' cap hown hgrow hat); clear hown hgrow hat)
            go_roundw
            case rel =>
              refine ⟨k + 1, _, g' :: (fp ++ fp2), by omega, by go_num, rfl, ?_⟩
              rw [unhide HS2, unhide HSN]
              have hj := unhide HJ
              simpa [hAl] using hj
            case measure => simp [intOf]; omega
          · have kx : (y'.kind == 3) = false := by rw [beq_eq_false_iff_ne]; exact ky
            clear hsn hA hA' hj1 hes hrow ha hf hg jn hown2 hblk2 hesc hB hbl hk3 ky
            go_wp2_with (at_builtin; refine wpList_append_lies _ rfl (.tmp 51) (.tmp 56) 25 rfl 0 46 i0 _ 5 80 Tryd.underlying25 hi hz0 hz1 hz2 rfl (by decide) (.slice (some ⟨g, 0, none⟩) A.length c) A.length (evsRow es) (by simp [Act.eval, hAl]) (unhide HO) ⟨wr.heap.size, 0, none⟩ 1 1 (evCells x (.slice ea x.attrs.length ec)) rfl rfl (World.news_of_block (unhide HB)) (evCells_one _ _ _ _) (by decide) (unhide H63) (by omega) (Nat.zero_le _) (wr.heap.size + 1) (by simp) ?_; intro g' cap w2 hown hgrow hat hlt2; have HJ := hide (unhide HP w2 g' cap hown hgrow hat); clear hown hgrow hat)
            go_roundw
            case rel =>
              refine ⟨k + 1, _, g' :: (fp ++ fp2), by omega, by go_num, rfl, ?_⟩
              rw [unhide HS2, unhide HSN]
              have hj := unhide HJ
              simpa [hAl] using hj
            case measure => simp [intOf]; omega
    · have e1 : decide ((k : Int) < (l.length : Int)) = false := by simp; omega
      have hfin : l.take k = l := List.take_of_length_le (by omega)
      have HJ : Hid (∀ L, join all (l.take k) = L → Jn w wr (.slice a1 all.length c1) (.slice a (join all (l.take k)).length c) (fp1 ++ fp2) fp L) := fun L h => by subst h; exact jn
      have HF := hide hfin
      clear jn hrow hes ha hf hg hfin
      go_wp2
      go_ret
      exact ⟨_, fp, rfl, unhide HJ _ (by rw [unhide HF])⟩
end Go.Proofs.YtkkakfocjbnomaaDoor
