/- Tok2, Tok3 -/
import Derived.Test.YtmgfijllcdadgabGreatDoorPM03
set_option linter.unusedVariables false
set_option linter.unusedSimpArgs false
namespace Go.Proofs.YtmgfijllcdadgabGreatDoor
open Go.RowKit
open Mk (St Bs Ev Att)
theorem takeToken_any {w:World} {b:Nat} {s:St} {L:Lay} (h:RdL w b s L) :
    Calls Tryz.prog 142 #[.pointer (some ⟨b,0,none⟩)] w fun e w' => e = .returned (.string ⟨s.token.toArray⟩)∧∃ L', Mv w b (foot s L) w' (Mk.dropToken s) L' := by
  have hc:=h.cell
  have hf:=h.frozen
  have hlt:=h.lt
  have hcv:=conv_row (h.rows.own (tokRow s L) (by simp [rowsOf]))
  have HM:=hide h
  unfold cellsOf at hc
  clear h
  go_enter Tryz.func142,Tryz.ntmps142
  go_wp2
  go_ret
  exact ⟨rfl,_,((unhide HM).start.dropTok).store 10 _ _ rfl rfl rfl⟩
theorem take_any {w:World} {b:Nat} {s:St} {L:Lay} (h:RdL w b s L) (hx:s.text.length≤1000000000000) (hl:s.list.length≤1000000000000) :
    Calls Tryz.prog 75 #[.pointer (some ⟨b,26,none⟩)] w fun e w' => ∃ L1,e = .returned (.slice L1.la (Mk.endText s).list.length L1.lc)∧(∃ w1,Mv w b (foot s L) w1 (Mk.endText s) L1∧w' = w1.setCell ⟨b,26,none⟩ (.slice none 0 0))∧∃ L', Mv w b (foot s L) w' (Mk.take s) L' ∧ (∀ k ∈ foot (Mk.take s) L', k ∉ blks (lstRow (Mk.endText s) L1 :: L1.es.map evRow)):=by
  have HE:=hide (endText_any h hx hl)
  clear h
  go_enter Tryz.func75,Tryz.ntmps75
  go_wp2_with fail
  refine (unhide HE).mono ?_
  rintro e w1 ⟨rfl,L1,hm1, -, -⟩
  have hc:=hm1.rd.cell
  have hf:=hm1.rd.frozen
  have hlt:=hm1.rd.lt
  have HM:=hide hm1
  unfold cellsOf at hc
  clear hm1 HE
  go_wp2
  go_ret
  refine ⟨L1,rfl,⟨w1,unhide HM,rfl⟩,_,(unhide HM).dropList,?_⟩
  have hr:=(unhide HM).rd.rows
  have hp:(rowsOf (Mk.endText s) L1).Perm ((lstRow (Mk.endText s) L1 :: L1.es.map evRow) ++ [opnRow (Mk.endText s) L1,tokRow (Mk.endText s) L1,attRow (Mk.endText s) L1,txtRow (Mk.endText s) L1,bndRow (Mk.endText s) L1,cntRow (Mk.endText s) L1]):=by
    refine (perm4 _ _ _ _ _).trans (.cons _ ?_)
    exact (List.perm_append_comm (l₁:=[opnRow _ _,tokRow _ _,attRow _ _,txtRow _ _,bndRow _ _,cntRow _ _]) (l₂:=L1.es.map evRow))
  have hn:=(hr.perm hp).nd
  intro k hk hm
  have e1:blks ((lstRow (Mk.endText s) L1 :: L1.es.map evRow) ++ [opnRow (Mk.endText s) L1,tokRow (Mk.endText s) L1,attRow (Mk.endText s) L1,txtRow (Mk.endText s) L1,bndRow (Mk.endText s) L1,cntRow (Mk.endText s) L1])=blks (lstRow (Mk.endText s) L1 :: L1.es.map evRow) ++ blks [opnRow (Mk.endText s) L1,tokRow (Mk.endText s) L1,attRow (Mk.endText s) L1,txtRow (Mk.endText s) L1,bndRow (Mk.endText s) L1,cntRow (Mk.endText s) L1]:=by unfold blks;rw [List.filterMap_append]
  rw [e1] at hn
  refine (List.nodup_append.1 hn).2.2 k hm k ?_ rfl
  exact hk
theorem resume_any {w:World} {b:Nat} {s:St} {L:Lay} (h:RdL w b s L) :
    Calls Tryz.prog 144 #[.pointer (some ⟨b,0,none⟩)] w fun e w' => e = .returned (.tuple #[])∧Mv w b (foot s L) w' (Mk.resume s) L:=by
  have hc:=h.cell
  have hf:=h.frozen
  have hlt:=h.lt
  have HM:=hide h
  unfold cellsOf at hc
  clear h
  by_cases h0:s.opn.length=0
  · have e0:((s.opn.length:Int) == 0)=true:=by simp [h0]
    have H0:=hide h0
    clear h0
    go_enter Tryz.func144,Tryz.ntmps144
    go_wp2
    go_end0
    unfold Mk.resume
    rw [if_pos (unhide H0)]
    exact ⟨rfl,((unhide HM).start.store 4 (.int .i64 1) { s with state:=1 } rfl rfl rfl).store 4 _ _ rfl rfl rfl⟩
  · have e0:((s.opn.length:Int) == 0)=false:=by rw [beq_eq_false_iff_ne];omega
    have H0:=hide h0
    clear h0
    go_enter Tryz.func144,Tryz.ntmps144
    go_wp2
    go_end0
    unfold Mk.resume
    rw [if_neg (unhide H0)]
    exact ⟨rfl,((unhide HM).start.store 4 _ _ rfl rfl rfl)⟩
theorem lengthenName_any {w:World} {b:Nat} {s:St} {L:Lay} (h:RdL w b s L) (c:Int) (h0:0≤c) (h1:c≤255) (hx:s.text.length≤1000000000000) (ht:s.token.length≤1000000000000) (c0:0≤s.count) (c1:s.count≤1000000000000) :
    Calls Tryz.prog 148 #[.pointer (some ⟨b,0,none⟩),.int .u8 c] w fun e w' => e = .returned (.int .i64 (Mk.lengthenName s c).2)∧∃ L', Mv w b (foot s L) w' (Mk.lengthenName s c).1 L' := by
  have HF:=hide (fits_any h 1 c0 c1 (by decide) (by decide))
  have HP:=hide (fun n=>put_any (h.drewN n) c h0 (by omega) hx ht c0 c1)
  have HM:=hide h
  cases hfi:Mk.fits s 1
  · rw [hfi] at HF
    clear h
    go_enter Tryz.func148,Tryz.ntmps148
    go_wp2_with (go_at_call 118;refine (unhide HF).mono ?_;rintro e w' ⟨rfl,n,rfl⟩)
    go_ret
    simp only [Mk.lengthenName,hfi]
    exact ⟨rfl,L,(unhide HM).start.drewN _⟩
  · rw [hfi] at HF
    clear h
    go_enter Tryz.func148,Tryz.ntmps148
    go_wp2_with (first | (go_at_call 118;refine (unhide HF).mono ?_;rintro e w' ⟨rfl,n,rfl⟩) | (go_at_call 111;refine (unhide HP n).mono ?_;rintro e w' ⟨rfl,L', hm'⟩;have HM' := hide hm'; clear hm'))
    go_ret
    simp only [Mk.lengthenName,hfi]
    exact ⟨rfl,L', ((unhide HM).start.drewN _).call (unhide HM')⟩
theorem goOn_any {w:World} {b:Nat} {s:St} {L:Lay} (h:RdL w b s L) (c l:Int) (h0:0≤c) (h1:l=0→c≤1114111) (hx:s.text.length≤1000000000000) (ht:s.token.length≤1000000000000) (c0:0≤s.count) (c1:s.count≤1000000000000) :
    Calls Tryz.prog 109 #[.pointer (some ⟨b,0,none⟩),.agg #[.int .i64 c,.int .i64 l]] w fun e w' => e = .returned (.tuple #[])∧∃ L', Mv w b (foot s L) w' (Mk.goOn s (c,l)) L' := by
  have hc:=h.cell
  have hf:=h.frozen
  have hlt:=h.lt
  have hm:=((h.start.store 18 (.int .i64 c) { s with pc:=c } rfl rfl rfl).store 19 (.int .i64 l) { s with pc:=c,pl:=l } rfl rfl rfl).alloc (.cells #[.int .i64 c,.int .i64 l] 99)
  have HM:=hide hm
  have HP:=hide (fun (hl:c≤1114111)=>put_any hm.rd c h0 hl hx ht c0 c1)
  unfold cellsOf at hc
  clear h hm
  by_cases hl:l=0
  · have h2:=h1 hl
    subst hl
    clear h1
    go_enter Tryz.func109,Tryz.ntmps109
    go_wp2_with (go_at_call 111;refine (unhide HP h2).mono ?_;rintro e w' ⟨rfl,L', hm'⟩;have HM' := hide hm'; clear hm')
    go_end0
    exact ⟨rfl,L', (unhide HM).call (unhide HM')⟩
  · have e0:(l == 0)=false:=by rw [beq_eq_false_iff_ne];exact hl
    clear h1 HP
    go_enter Tryz.func109,Tryz.ntmps109
    go_wp2
    go_end0
    have hg:Mk.goOn s (c,l)={ s with pc:=c,pl:=l }:=by simp [Mk.goOn,e0]
    rw [hg]
    exact ⟨rfl,L,unhide HM⟩
theorem wrap_byte (x:UInt8):wrap64 (x.toNat:Int)=(x.toNat:Int):=by
  have:=x.toNat_lt
  rw [IntWalk.wrap64_in _ (by omega)]
theorem byte_le (x:UInt8):(0:Int)≤(x.toNat:Int)∧(x.toNat:Int)≤255:=by
  have:=x.toNat_lt
  omega
theorem put_len (s:St) (c:Int):(Mk.put s c).text.length≤s.text.length + 4∧(Mk.put s c).token.length≤s.token.length + 4∧s.count≤(Mk.put s c).count∧(Mk.put s c).count≤s.count + 1:=by
  have:=encode_len c
  unfold Mk.put
  split <;> simp <;> omega
theorem putAll_snoc (l:Bs) (x:UInt8):∀ s,Mk.putAll s (l ++ [x])=Mk.put (Mk.putAll s l) x.toNat:=by
  induction l with
  | nil=>intro s;rfl
  | cons y r ih=>intro s;exact ih _
theorem putAll_len:∀ (l:Bs) (s:St),(Mk.putAll s l).text.length≤s.text.length + 4 * l.length∧(Mk.putAll s l).token.length≤s.token.length + 4 * l.length∧s.count≤(Mk.putAll s l).count∧(Mk.putAll s l).count≤s.count + l.length
  | [],s=>by simp [Mk.putAll]
  | x :: r,s=>by
    have h1:=put_len s x.toNat
    have h2:=putAll_len r (Mk.put s x.toNat)
    simp only [Mk.putAll,List.length_cons]
    omega
theorem put_held (s:St) (c:Int):(Mk.put s c).held=s.held:=by unfold Mk.put;split <;> rfl
theorem putAll_held:∀ (l:Bs) (s:St),(Mk.putAll s l).held=s.held
  | [],s=>rfl
  | x :: r,s=>by simp only [Mk.putAll];rw [putAll_held r,put_held]
theorem held_bounds (s:St) (k:Nat) (hh:s.held.length≤100) (hx:s.text.length≤100000000000) (ht:s.token.length≤100000000000) (c0:0≤s.count) (c1:s.count≤100000000000) :
    (Mk.putAll s (s.held.take k)).text.length≤1000000000000∧(Mk.putAll s (s.held.take k)).token.length≤1000000000000∧0≤(Mk.putAll s (s.held.take k)).count∧(Mk.putAll s (s.held.take k)).count≤1000000000000:=by
  have h1:=putAll_len (s.held.take k) s
  have h2:(s.held.take k).length≤100:=by rw [List.length_take];omega
  omega
theorem begin_bounds (b:Int) (h0:0≤b) (h1:b≤255) (p:Int × Int) (h:Mk.begin_ b=some p):0≤p.1∧p.1≤255∧0≤p.2∧p.2≤3:=by
  unfold Mk.begin_ at h
  repeat' split at h
  all_goals first | (cases h;simp;omega) | cases h
set_option maxHeartbeats 1000000 in
theorem readCharacter_any {w:World} {b:Nat} {s:St} {L:Lay} (h:RdL w b s L) (x:Int) (h0:0≤x) (h1:x≤255) (hh:s.held.length≤100) (hx:s.text.length≤100000000000) (ht:s.token.length≤100000000000) (c0:0≤s.count) (c1:s.count≤100000000000) :
    Calls Tryz.prog 115 #[.pointer (some ⟨b,0,none⟩),.int .u8 x] w fun e w' => e = .returned (.int .i64 (Mk.readCharacter s x).2)∧∃ L', Mv w b (foot s L) w' (Mk.readCharacter s x).1 L' := by
  have HB:=hide (begin_any x h0 h1 w)
  have HM:=hide h
  cases hb:Mk.begin_ x with
  | none =>
    rw [hb] at HB
    have hlt:=h.lt
    clear h
    simp only [Mk.readCharacter,hb]
    go_enter Tryz.func115,Tryz.ntmps115
    go_wp2_with (go_at_call 141;refine (unhide HB).mono ?_;rintro e w1 ⟨rfl,hbel⟩)
    go_ret
    exact ⟨rfl,L,(((unhide HM).start.below hbel).alloc _)⟩
  | some p =>
    have hpb:=begin_bounds x h0 h1 p hb
    obtain ⟨pc,pl⟩:=p
    rw [hb] at HB
    cases hfi:Mk.fits s (s.held.length + 1)
    · have hr:Mk.readCharacter s x=(s,7):=by simp [Mk.readCharacter,hb,hfi]
      rw [hr]
      clear hr
      go_enter Tryz.func115,Tryz.ntmps115
      go_wp2_with fail
      refine (unhide HB).mono ?_
      rintro e w1 ⟨rfl,hbel⟩
      have hm1:=((unhide HM).start.below hbel)
      have hc:=hm1.rd.cell
      have hf:=hm1.rd.frozen
      have hlt:=hm1.rd.lt
      have hm2:=hm1.alloc (.cells #[.int .i64 pc,.int .i64 pl] 99)
      have HF:=hide (fits_any hm2.rd (s.held.length + 1) c0 (by omega) (by omega) (by omega))
      have HM2:=hide hm2
      unfold cellsOf at hc
      clear hm1 hm2 h HB
      rw [hfi] at HF
      go_wp2_with (go_at_call 118;refine (unhide HF).mono ?_;rintro e w' ⟨rfl,n,rfl⟩)
      go_ret
      exact ⟨rfl,L,(unhide HM2).drewN _⟩
    · obtain ⟨r,hr⟩:∃ r,r=Mk.goOn { Mk.putAll s s.held with held:=[] } (pc,pl):=⟨_,rfl⟩
      have hr' : Mk.readCharacter s x=(r,0):=by rw [hr];simp [Mk.readCharacter,hb,hfi]
      rw [hr']
      have HR:=hide hr
      clear hr hr'
      go_enter Tryz.func115,Tryz.ntmps115
      go_wp2_with fail
      refine (unhide HB).mono ?_
      rintro e w1 ⟨rfl,hbel⟩
      have hm1:=((unhide HM).start.below hbel)
      have hc:=hm1.rd.cell
      have hf:=hm1.rd.frozen
      have hlt:=hm1.rd.lt
      have hm2:=hm1.alloc (.cells #[.int .i64 pc,.int .i64 pl] 99)
      have hnf:w1.heap.size ∉ foot s L:=fun hm=>by have:=(hm1.rd.foot_lt _ hm).2;omega
      have HF:=hide (fits_any hm2.rd (s.held.length + 1) c0 (by omega) (by omega) (by omega))
      have HM2:=hide hm2
      have HNF:=hide hnf
      unfold cellsOf at hc
      clear hm1 hm2 h HB hnf
      rw [hfi] at HF
      go_wp2_with (go_at_call 118;refine (unhide HF).mono ?_;rintro e w' ⟨rfl,n,rfl⟩)
      clear hc hf
      go_loopw [7] (fun i w' => ∃ k:Nat,k≤s.held.length∧i = .int .i64 k∧w1.heap.size<w'.heap.size∧w'.heap[w1.heap.size]? = some (.cells #[.int .i64 pc,.int .i64 pl] 99 (0,0))∧∃ L', Mv w b (foot s L) w' (Mk.putAll s (s.held.take k)) L' ∧ w1.heap.size ∉ foot (Mk.putAll s (s.held.take k)) L') (fun i _=>s.held.length - (intOf i).toNat)
      case atStart =>
        refine ⟨0,by omega,rfl,by simp,?_,L,(unhide HM2).drewN _,unhide HNF⟩
        rw [heap_drewN]
        exact heap_alloc_new w1 _
      case round =>
        obtain ⟨k,hk,rfl,hsz,hbx,L1,hm,hnf⟩:=hrel
        have hh1:=putAll_held (s.held.take k) s
        obtain ⟨q1,q2,q3,q4⟩:=held_bounds s k hh hx ht c0 c1
        by_cases hlt:k<s.held.length
        · have hsn:=putAll_snoc (s.held.take k) s.held[k] s
          rw [← List.take_succ_eq_append_getElem hlt] at hsn
          generalize Mk.putAll s (s.held.take k)=s1 at *
          generalize hs2:Mk.putAll s (s.held.take (k + 1))=s2 at *
          have HS2:=hide hs2
          have HSN:=hide hsn
          obtain ⟨v,hv⟩:∃ v:Int,v=(s.held[k].toNat:Int):=⟨_,rfl⟩
          have hv1:0≤v∧v≤255:=by rw [hv];exact byte_le _
          have hw:wrap64 (((⟨s.held.toArray⟩:ByteArray)[k]'(by simpa [ByteArray.size] using hlt)).toNat:Int)=v:=by
            rw [wrap_byte,hv]
            rfl
          rw [← hv] at hsn
          have HP:=hide (put_any hm.rd v hv1.1 (Int.le_trans hv1.2 (by decide)) q1 q2 q3 q4)
          have hc:=hm.rd.cell
          have HM3:=hide hm
          have HNF3:=hide hnf
          have HBX:=hide hbx
          have HBL:=hide hm.rd.lt
          have HSN:=hide hsn
          unfold cellsOf at hc
          clear hm hnf hbx hs2 hsn hv q1 q2 q3 q4
          go_wp2_with (go_at_call 111;refine (unhide HP).mono ?_;rintro e w3 ⟨rfl,L3,hm3⟩;have HM4:=hide hm3;clear hm3)
          go_roundw
          case rel =>
            have e1:Mk.putAll s (s.held.take (k + 1))=Mk.put s1 v:=(unhide HS2).trans (unhide HSN)
            have hm4:=unhide HM4
            refine ⟨k + 1,by omega,by go_num,?_,?_,L3,?_,?_⟩
            · have:=hm4.fr.size;omega
            · rw [hm4.fr.block _ hsz (by omega) (unhide HNF3)];exact unhide HBX
            · rw [e1];exact (unhide HM3).call hm4
            · rw [e1]
              intro hin
              rcases hm4.fr.foot _ hin with hin | hin
              · exact unhide HNF3 hin
              · omega
          case measure=>simp [intOf];omega
        · have hke:s.held.take k=s.held:=List.take_of_length_le (by omega)
          rw [hke] at hm hnf hh1 q1 q2 q3 q4
          have hr:=unhide HR
          generalize Mk.putAll s s.held=s1 at *
          have hm5:=hm.store 15 (.string ⟨#[]⟩) { s1 with held:=[] } rfl rfl rfl
          have HP:=hide (goOn_any hm5.rd pc pl hpb.1 (fun _=>Int.le_trans hpb.2.1 (by decide)) q1 q2 q3 q4)
          have HM5:=hide hm5
          have hc:=hm.rd.cell
          have hf:=hm.rd.frozen
          have hbl:=hm.rd.lt
          have hq:∀ i,wr.cell? ⟨w1.heap.size,i,none⟩=[.int .i64 pc,.int .i64 pl][i]? := fun i=>by simp [World.cell?,hbx]
          have hne:w1.heap.size ≠ b:=by
            have:=(unhide HM2).rd.lt
            have h9:=hbel.size
            have h8:=(unhide HM).lt
            omega
          have hne' : (w1.heap.size == b)=false:=by rw [beq_eq_false_iff_ne];exact hne
          have HR2:=hide hr
          have e0:decide ((k:Int)<(s.held.length:Int))=false:=by simp;omega
          unfold cellsOf at hc
          clear hm hnf hbx hm5 hr q1 q2 q3 q4 hke
          go_wp2_with (go_at_call 109;refine (unhide HP).mono ?_;rintro e w3 ⟨rfl,L3,hm3⟩;have HM4:=hide hm3;clear hm3)
          go_ret
          rw [unhide HR2]
          exact ⟨rfl,L3,(unhide HM5).call (unhide HM4)⟩
end Go.Proofs.YtmgfijllcdadgabGreatDoor
