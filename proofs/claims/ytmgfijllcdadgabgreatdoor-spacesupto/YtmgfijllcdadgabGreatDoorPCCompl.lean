/- Compl, Ways, Nest7 -/
import Derived.Test.YtmgfijllcdadgabGreatDoorPCRestE
import Derived.Test.YtmgfijllcdadgabGreatDoorPCWay8
import Derived.Test.YtmgfijllcdadgabGreatDoorPCSplit
import Derived.Laws.CopyOwn
import Derived.Laws.Tables
import Derived.Test.YtmgfijllcdadgabGreatDoorPCNest5
import Derived.Test.YtmgfijllcdadgabGreatDoorPCWrong
set_option linter.unusedVariables false
set_option linter.unusedSimpArgs false
namespace Go.Proofs.YtmgfijllcdadgabGreatDoor
open Go.RowKit
open Mk (St Bs Ev Att)
theorem Bd.take {s : St} (h : Bd (Mk.endText s)) : Bd (Mk.take s) := { h with hl := by simp [Mk.take] }
theorem W.take {s : St} (h : W s) : W (Mk.take s) := by
  unfold Mk.take
  rw [endText_core s]
  exact { h with }
theorem opts_feedAll (d a t : Int) (n : Bool) (l : Bs) : (Mk.feedAll (Mk.make_ d a t n) l).od = d ∧ (Mk.feedAll (Mk.make_ d a t n) l).ot = t ∧ (Mk.feedAll (Mk.make_ d a t n) l).on = n :=
  ⟨od_feedAll l _, ot_feedAll l _, on_feedAll l _⟩
set_option maxHeartbeats 4000000 in
set_option maxRecDepth 100000 in
theorem completed_any (d a t : Int) (nm : Bool) (d1 : 1 ≤ d) (d2 : d ≤ 64) (a1 : 0 ≤ a) (a2 : a ≤ 32) (t1 : 8 ≤ t) (t2 : t ≤ 1024) (text : Bs) (hT : text.length ≤ 1048576) (w : World) (hG : Gl w) (hs : 6 < w.heap.size) :
    Calls Tryz.prog 14 #[.agg #[.int .i64 d, .int .i64 a, .int .i64 t, .bool nm], .string ⟨text.toArray⟩] w fun e w' => e = .returned (.tuple #[.string ⟨(compl (Mk.make_ d a t nm) text).toArray⟩, .bool true]) ∧ Below w.heap.size w w' := by
  have HX := hide (fun w hG hs => run_any d a t nm d1 d2 a1 a2 t1 t2 text [] none 0 (by omega) (by decide) w (fun j hj => by cases hj) (fun c hc => by cases hc) hG hs)
  have q1 := runL_eq d a t nm text []
  rw [q1.1, q1.2.1, q1.2.2.1, q1.2.2.2] at HX
  have HN := hide (fun w => new_any d a t nm d1 d2 a1 a2 t1 t2 w)
  have HINV := hide (inv_make d a t nm a2)
  have htold := feedAll_told text (Mk.make_ d a t nm) rfl
  have hat0 : (Mk.make_ d a t nm).at_ = 0 := rfl
  rw [hat0] at htold
  have hTok := upTo_ok (s := Mk.make_ d a t nm) rfl rfl text
  have hTl := upTo_len (Mk.make_ d a t nm) text
  have hWT := W_text d a t nm d1 t1 a2 text
  have hod := opts_feedAll d a t nm (upTo (Mk.make_ d a t nm) text)
  have hTe : (Mk.feedAll (Mk.make_ d a t nm) text).ended = 0 ∧ upTo (Mk.make_ d a t nm) text = text ∨ (Mk.feedAll (Mk.make_ d a t nm) text).ended ≠ 0 ∧ upTo (Mk.make_ d a t nm) text = text.take ((Mk.feedAll (Mk.make_ d a t nm) text).at_ - 1).toNat := by
    unfold upTo
    by_cases h : (Mk.feedAll (Mk.make_ d a t nm) text).ended = 0
    · exact .inl ⟨h, by rw [if_pos h]⟩
    · exact .inr ⟨h, by rw [if_neg h]⟩
  have hcp : compl (Mk.make_ d a t nm) text = upTo (Mk.make_ d a t nm) text ++ Mk.rest (Mk.feedAll (Mk.make_ d a t nm) (upTo (Mk.make_ d a t nm) text)) := rfl
  have hfd : (Mk.feed (Mk.make_ d a t nm) (upTo (Mk.make_ d a t nm) text)) = (Mk.take (Mk.feedAll (Mk.make_ d a t nm) (upTo (Mk.make_ d a t nm) text)), (Mk.endText (Mk.feedAll (Mk.make_ d a t nm) (upTo (Mk.make_ d a t nm) text))).list, 0) := by
    unfold Mk.feed
    rw [if_pos (show (Mk.make_ d a t nm).ended = 0 from rfl), hTok]
  have hsh := rest_short hWT (by rw [hod.1]; exact d2) (by rw [hod.2.1]; exact t2)
  clear q1
  generalize join [] (out (Mk.feedAll (Mk.make_ d a t nm) text).list (Mk.feedAll (Mk.make_ d a t nm) text).text) = evs at *
  generalize (Mk.close (Mk.feedAll (Mk.make_ d a t nm) text)).2 = en at *
  generalize (Mk.feedAll (Mk.make_ d a t nm) text).ended = err at *
  generalize (Mk.feedAll (Mk.make_ d a t nm) text).at_ = at_ at *
  generalize compl (Mk.make_ d a t nm) text = D at *
  generalize upTo (Mk.make_ d a t nm) text = T at *
  have HFEED := hide (fun (wx : World) (b : Nat) (h : RdL wx b (Mk.make_ d a t nm) (L0 b)) hG (hb : 6 + 1 < b) (g c : Nat) h1 h2 h3 h4 => Feed_any h (unhide HINV) T (by omega) hG hb (by simp [Mk.make_]) (by simp [Mk.make_]) g c h1 h2 h3 h4)
  have HBD := hide (Inv.bd (inv_feed (unhide HINV) T) (by omega))
  rw [hfd] at HFEED HBD
  generalize Mk.feedAll (Mk.make_ d a t nm) T = S at *
  have hSe : (Mk.take S).ended = 0 := by
    have hq : (Mk.take S).ended = S.ended := by
      unfold Mk.take
      rw [endText_core S]
    rw [hq]; exact hTok
  have hrt := rest_take S
  have hWt := W.take hWT
  have hod1 : (Mk.take S).od = d ∧ (Mk.take S).ot = t := by unfold Mk.take; rw [endText_core S]; exact ⟨hod.1, hod.2.1⟩
  have HREST := hide (fun (wx : World) (b : Nat) (L : Lay) (h : RdL wx b (Mk.take S) L) hG hs => pRest_any h hSe hWt (unhide HBD) (by rw [hod1.1]; exact d2) (by rw [hod1.2]; exact t2) hG hs)
  rw [hrt] at HREST
  have HD := hide hcp
  have hrl := hsh.1
  have hDl : D.length ≤ 1120000 := by rw [hcp]; simp; omega
  generalize Mk.rest S = RS at *
  generalize (Mk.endText S).list = EL at *
  have HG := hide hG
  clear hG d1 d2 a1 a2 t1 t2 hTok hWT hod hcp hfd hsh hSe hrt hWt hod1 HBD hat0
  go_enter Tryz.func14, Tryz.ntmps14
  go_wp2_with fail
  have hb0 := (Below.refl w.heap.size w).alloc (Nat.le_refl _) (.cells #[.int .i64 d, .int .i64 a, .int .i64 t, .bool nm] 25 (0, 0))
  refine (unhide HX _ ((unhide HG).below hs hb0) (by simp; omega)).mono ?_
  rintro e w1 ⟨v1, fp1, u1, rfl, hg1, hf1, hb1, -⟩
  obtain ⟨x1, c1, rfl⟩ := hg1.slice
  have hst := lay_out w1 (.slice x1 evs.length c1) err en at_ u1 ⟨_, _, _, rfl⟩
  have hx1 : w1.heap[w.heap.size]? = some (.cells #[.int .i64 d, .int .i64 a, .int .i64 t, .bool nm] 25 (0, 0)) := by
    rw [hb1.block _ (by simp)]
    exact heap_alloc_new w _
  have hsz1 : w.heap.size < w1.heap.size := (Array.getElem?_eq_some_iff.1 hx1).1
  have hc1 : ∀ o j, (w1.alloc o).cell? ⟨w.heap.size, j, none⟩ = [.int .i64 d, .int .i64 a, .int .i64 t, .bool nm][j]? := fun o j => by simp only [World.cell?]; rw [Below.heap_alloc _ _ _ (by omega), hx1]; simp
  have hbw1 : Below w.heap.size w w1 := hb0.trans (hb1.mono (by simp))
  clear hg1 hf1 hb1 hb0 HX
  go_wp2_with fail
  have hb2 := hbw1.alloc (by omega) (.cells (outCells (.slice x1 evs.length c1) err en at_ u1) 38 (0, 0))
  refine (unhide HN _).mono ?_
  rintro e w2 ⟨b, rfl, hb, hb3, hrd⟩
  simp at hb
  have hy2 : w2.heap[w1.heap.size]? = some (.cells (outCells (.slice x1 evs.length c1) err en at_ u1) 38 (0, 0)) := by
    rw [hb3.block _ (by simp)]
    exact heap_alloc_new w1 _
  have hd2 : ∀ j, w2.cell? ⟨w1.heap.size, j, none⟩ = [.slice x1 evs.length c1, .int .i64 err, .int .i64 en, .int .i64 at_, .int .i64 u1.ln, .int .i64 u1.co, .slice u1.oa u1.on u1.oc][j]? := fun j => by simp [World.cell?, hy2, outCells]
  have hbw2 : Below w.heap.size w w2 := hb2.trans (hb3.mono (by simp; omega))
  have hsb := hrd.lt
  have hs2 := hbw2.size
  obtain ⟨W1, c, hconv, hbW, hW1s, hcells⟩ := conv_bytes w2 T
  have hrdW := rd_below hrd hbW
  have hbwW : Below w.heap.size w W1 := hbw2.trans (hbW.mono (by omega))
  have HF := hide (unhide HFEED W1 b hrdW ((unhide HG).below hs hbwW) (by omega) w2.heap.size c (by omega) (by omega) (by rw [foot_L0]; simp; omega) hcells)
  have HBW := hide hbwW
  have hbs := hbwW.size
  clear hst hc1 hx1 hy2 hb2 hb3 hcells hbW hrdW hbwW hrd HN HFEED hbw1
  have hl0 : (0 : Int) ≤ at_ := by rcases htold with h | h <;> omega
  rcases hTe with ⟨he0, hTt⟩ | ⟨hne, hTt⟩
  · subst he0
    subst hTt
    go_wp2_with fail
    refine (unhide HF).mono ?_
    rintro e w4 ⟨v4, fp4, L4, rfl, hg4, ⟨va, vn, vc, rfl⟩, hM, hf4⟩
    have hbw4 : Below w.heap.size w w4 := (unhide HBW).trans ⟨hM.fr.os, hM.fr.tape, hM.fr.output, hM.fr.size, fun k hk => hM.fr.block k (by omega) (by omega) (by rw [foot_L0]; simp; omega)⟩
    have hs4 := hbw4.size
    have HRE := hide (unhide HREST w4 b L4 hM.rd ((unhide HG).below hs hbw4) (by omega))
    clear hg4 hf4 hM HF hconv HREST hd2
    go_wp2_with fail
    refine (unhide HRE).mono ?_
    rintro e w5 ⟨a5, c5, rfl, hR5⟩
    have hcv := conv_row hR5.row
    have happ : (⟨T.toArray⟩ : ByteArray) ++ (⟨RS.toArray⟩ : ByteArray) = ⟨D.toArray⟩ := by rw [unhide HD]; apply ByteArray.ext; simp
    have hfin : Below w.heap.size w w5 := hbw4.trans (hR5.bel.mono hs4)
    have HFI := hide hfin
    clear hR5 hfin HRE
    go_wp2
    go_ret2
    exact ⟨rfl, unhide HFI⟩
  · have e1 : (err != 0) = true := by simpa using hne
    have hat : 1 ≤ at_ ∧ at_ ≤ text.length := by rcases htold with h | h; exact absurd h.1 hne; omega
    obtain ⟨n, hn⟩ : ∃ n : Nat, at_ = (n : Int) + 1 := ⟨(at_ - 1).toNat, by omega⟩
    have hn2 : (at_ - 1).toNat = n := by omega
    rw [hn2] at hTt
    have hxt : (ByteArray.extract ⟨text.toArray⟩ 0 n) = ⟨T.toArray⟩ := by rw [ext_take, hTt]
    have hnl : n ≤ text.length := by omega
    subst hn
    have e2 : decide ((n : Int) + 1 < 1) = false := by simp; omega
    have e3 : decide ((text.length : Int) < (n : Int) + 1) = false := by simp; omega
    have e4 : ¬ ((n : Int) < 0) := by omega
    have e5 : (n : Int) ≤ (text.length : Int) := by omega
    have e6 : (n : Int) + 1 - 1 = (n : Int) := by omega
    clear hTt htold
    go_wp2_with fail
    refine (unhide HF).mono ?_
    rintro e w4 ⟨v4, fp4, L4, rfl, hg4, ⟨va, vn, vc, rfl⟩, hM, hf4⟩
    have hbw4 : Below w.heap.size w w4 := (unhide HBW).trans ⟨hM.fr.os, hM.fr.tape, hM.fr.output, hM.fr.size, fun k hk => hM.fr.block k (by omega) (by omega) (by rw [foot_L0]; simp; omega)⟩
    have hs4 := hbw4.size
    have HRE := hide (unhide HREST w4 b L4 hM.rd ((unhide HG).below hs hbw4) (by omega))
    clear hg4 hf4 hM HF hconv HREST hd2
    go_wp2_with fail
    refine (unhide HRE).mono ?_
    rintro e w5 ⟨a5, c5, rfl, hR5⟩
    have hcv := conv_row hR5.row
    have happ : (⟨T.toArray⟩ : ByteArray) ++ (⟨RS.toArray⟩ : ByteArray) = ⟨D.toArray⟩ := by rw [unhide HD]; apply ByteArray.ext; simp
    have hfin : Below w.heap.size w w5 := hbw4.trans (hR5.bel.mono hs4)
    have HFI := hide hfin
    clear hR5 hfin HRE
    go_wp2
    go_ret2
    exact ⟨rfl, unhide HFI⟩
end Go.Proofs.YtmgfijllcdadgabGreatDoor
namespace Go.Proofs.YtmgfijllcdadgabGreatDoor
open Go.RowKit
open Mk (St Bs Ev Att)
theorem Nms.at {n : Nat} {w : World} {oa : Option Addr} {on oc : Nat} {l : List Bs} (h : Nms n w oa on oc l) (k : Nat) (hk : k < l.length) : ∃ g, oa = some ⟨g, 0, none⟩ ∧ g < w.heap.size ∧ w.cell? ⟨g, k, none⟩ = some (.string ⟨(l[k]).toArray⟩) := by
  obtain rfl := h.len
  have hrow : w.ownsRow n 9 1 (.slice oa l.length oc) l.length (l.flatMap fun n => [sv n]) := by
    have e : (l.flatMap fun n => [sv n]) = l.map sv := by rw [List.map_eq_flatMap]
    rw [e]; exact h
  obtain ⟨g, hg, hgl, hcl⟩ := spElem (m := 1) (l := l) (fun n => [sv n]) (fun _ => rfl) (by decide) hrow k hk
  refine ⟨g, hg, hgl, ?_⟩
  have := hcl 0 (by decide)
  simpa [sv] using this
theorem compl_doc (d a t : Int) (d1 : 1 ≤ d) (t1 : 8 ≤ t) (a2 : a ≤ 32) (text : Bs) :
    (Mk.feedAll (Mk.make_ d a t false) (compl (Mk.make_ d a t false) text)).ended = 0 ∧ (Mk.close (Mk.feedAll (Mk.make_ d a t false) (compl (Mk.make_ d a t false) text))).2 = 0 ∧ (Mk.feedAll (Mk.make_ d a t false) (compl (Mk.make_ d a t false) text)).opn = []
    ∧ (Mk.feedAll (Mk.make_ d a t false) (compl (Mk.make_ d a t false) text)).at_ = (compl (Mk.make_ d a t false) text).length := by
  have hW := W_text d a t false d1 t1 a2 text
  have hok := upTo_ok (s := Mk.make_ d a t false) rfl rfl text
  have h := rest_completes _ _ hW (opts_feedAll d a t false _).2.2 hok (Nat.le_refl _)
  have e : Mk.feedAll (Mk.make_ d a t false) (compl (Mk.make_ d a t false) text) = Mk.feedAll (Mk.feedAll (Mk.make_ d a t false) (upTo (Mk.make_ d a t false) text)) (Mk.rest (Mk.feedAll (Mk.make_ d a t false) (upTo (Mk.make_ d a t false) text))) := feedAll_app _ _ _
  rw [← e] at h
  refine ⟨h.1, ?_, h.2.2, ?_⟩
  · unfold Mk.close
    rw [if_pos h.1, if_pos h.2.1]
  · rcases feedAll_told (compl (Mk.make_ d a t false) text) (Mk.make_ d a t false) rfl with ⟨_, g⟩ | ⟨g, _⟩
    · rw [g]; simp [Mk.make_]
    · exact absurd h.1 g
end Go.Proofs.YtmgfijllcdadgabGreatDoor
namespace Go.Proofs.YtmgfijllcdadgabGreatDoor
open Mk (St Bs Ev Att)
def AbE (K : Nat) (e : Ev) : Prop := e.attrs.length ≤ 32 ∧ e.name.length ≤ K ∧ ∀ y ∈ e.attrs, y.name.length ≤ K ∧ y.val.length ≤ K
def Ab (K : Nat) (s : St) : Prop := ∀ e ∈ s.list, AbE K e
theorem ab_nil {K : Nat} (k : Int) (n sp v : Bs) (h : n.length ≤ K) : AbE K ⟨k, n, sp, v, []⟩ := ⟨by simp, h, fun y hy => by cases hy⟩
theorem ab_add {K : Nat} {s : St} (h : Ab K s) {e : Ev} (he : AbE K e) : ∀ x ∈ (Mk.add s e).list, AbE K x := by
  intro x hx
  rw [add_list] at hx
  rcases List.mem_append.1 hx with hx | hx
  · split at hx
    · exact h x hx
    · rcases List.mem_append.1 hx with hx | hx
      · exact h x hx
      · simp at hx; subst hx; exact ab_nil _ _ _ _ (by simp)
  · simp at hx; subst hx; exact he
theorem ab_tells {k K : Nat} {s s1 : St} (hw : W s) (hv : V s) (hi : Inv k s) (hk : k ≤ K) (h : Ab K s) (ht : Tells s s1) : Ab K s1 := by
  have hst : ∀ z : St, z.list = s.list → z.text = s.text → z.on = false → z.cnt = [] → z.attrs = s.attrs → z.name.length ≤ K → ∀ x ∈ (Mk.tellStart z).list, AbE K x := by
    intro z h1 h2 h3 h4 h5 h6 x hx
    rw [tellStart_off h4 h3] at hx
    refine ab_add (s := z) (fun e he => h e (by rw [← h1]; exact he)) ⟨?_, h6, ?_⟩ x hx
    · rw [h5]; exact hi.ha
    · intro y hy
      rw [h5] at hy
      exact ⟨Nat.le_trans (hi.an y hy) hk, Nat.le_trans (hi.av y hy) hk⟩
  cases ht with
  | quiet q => intro e he; rw [q.li] at he; exact h e he
  | comm e =>
    have e1 : (Mk.endComment s).list = (Mk.add (Mk.dropToken { s with held := [] }) ⟨4, [], [], s.token, []⟩).list := rfl
    intro x hx
    rw [e1] at hx
    exact ab_add (s := Mk.dropToken { s with held := [] }) h (ab_nil _ _ _ _ (by simp)) x hx
  | instr e =>
    have e1 : (Mk.endInstruction s).list = (Mk.add (Mk.dropToken { s with held := [] }) ⟨5, s.name, [], s.token, []⟩).list := rfl
    intro x hx
    rw [e1] at hx
    exact ab_add (s := Mk.dropToken { s with held := [] }) h (ab_nil _ _ _ _ (Nat.le_trans hi.hn hk)) x hx
  | start e =>
    rename_i s'
    have e1 : (Mk.endStart s' 62).list = (Mk.tellStart s').list := rfl
    intro x hx
    rw [e1] at hx
    rcases e with ⟨e, rfl⟩ | ⟨e, rfl⟩
    · exact hst { Mk.dropToken s with name := s.token } rfl rfl hv.on hv.cn rfl (Nat.le_trans hi.ht hk) x hx
    · exact hst _ rfl rfl hv.on hv.cn rfl (Nat.le_trans hi.hn hk) x hx
  | slash e =>
    have hc := tellStart_core s
    have h2 := tellEnd_list (s := Mk.tellStart s) (by rw [hc]; exact hv.cn) (by rw [hc]; exact hv.on) s.name
    intro x hx
    have hx : x ∈ (Mk.tellEnd (Mk.tellStart s) s.name).list := hx
    rw [h2.1] at hx
    exact ab_add (s := Mk.tellStart s) (hst s rfl rfl hv.on hv.cn rfl (Nat.le_trans hi.hn hk)) (ab_nil _ _ _ _ (Nat.le_trans hi.hn hk)) x hx
  | ends e =>
    have h2 := tellEnd_list (s := { s with opn := s.opn.dropLast }) hv.cn hv.on (Mk.innermost s)
    have hn : (Mk.innermost s).length ≤ K := by
      have hne := hw.o1 (by omega)
      refine Nat.le_trans (hi.on _ ?_) hk
      unfold Mk.innermost
      rw [List.getLastD_eq_getLast?, List.getLast?_eq_some_getLast hne]
      exact List.getLast_mem hne
    intro x hx
    unfold Mk.endInnermost at hx
    rw [h2.1] at hx
    exact ab_add (s := { s with opn := s.opn.dropLast }) h (ab_nil _ _ _ _ hn) x hx
theorem ab_feedByte {k K : Nat} {s : St} (hw : W s) (hv : V s) (hi : Inv k s) (hk : k ≤ K) (h : Ab K s) (h0 : s.ended = 0) (x : UInt8) (he : (Mk.feedByte s x).ended = 0) : Ab K (Mk.feedByte s x) := by
  rcases feedByte_right h0 x he with e | ⟨b, r, l, c, hb, e1, e⟩
  · rw [e]; exact h
  · rw [e]
    have h1 : Ab K (Mk.readByte { s with at_ := s.at_ + 1, ret := r } b).1 := ab_tells (hw.at (s.at_ + 1) r) (hv.at (s.at_ + 1) r) (k := k) { hi with } hk h (tells_readByte (hw.at (s.at_ + 1) r) hv.on b e1)
    exact h1
theorem compl_isDoc (d a t : Int) (d1 : 1 ≤ d) (t1 : 8 ≤ t) (a2 : a ≤ 32) (text : Bs) : Mk.isDocument (Mk.feedAll (Mk.make_ d a t false) (compl (Mk.make_ d a t false) text)) = true := by
  have h := compl_doc d a t d1 t1 a2 text
  have h2 := h.2.1
  unfold Mk.close at h2
  rw [if_pos h.1] at h2
  split at h2
  · assumption
  · cases h2
end Go.Proofs.YtmgfijllcdadgabGreatDoor
