/- Tags4, Tags5 -/
import Derived.Test.YtmgfijllcdadgabGreatDoorPM16
set_option linter.unusedVariables false
set_option linter.unusedSimpArgs false
namespace Go.Proofs.YtmgfijllcdadgabGreatDoor
open Go.RowKit
open Mk (St Bs Ev Att)
theorem put_keep (s:St) (c:Int):(Mk.put s c).am=s.am∧(Mk.put s c).attrs=s.attrs:=by unfold Mk.put;split <;> exact ⟨rfl,rfl⟩
theorem lengthenAttrName_any {w:World} {b:Nat} {s:St} {L:Lay} (h:RdL w b s L) (hB:Bd s) (x:Int) (h0:0≤x) (h1:x≤255) :
    Calls Tryz.prog 165 #[.pointer (some ⟨b,0,none⟩),.int .u8 x] w (Does w b s L (Mk.lengthenAttrName s x)):=by
  have hc:=h.cell
  have hf:=h.frozen
  have hlt:=h.lt
  have HM:=hide h
  have HN:=hide (ln_any h hB x h0 h1)
  have HB:=hide hB
  unfold cellsOf at hc
  clear h hB
  cases ef:Mk.fits s 1
  · have hr:Mk.lengthenAttrName s x=(s,7):=by simp [Mk.lengthenAttrName,ef]
    have hn:Mk.lengthenName s x=(s,7):=by simp [Mk.lengthenName,ef]
    rw [hr]
    rw [hn] at HN
    clear hr hn hc hf
    go_enter Tryz.func165,Tryz.ntmps165
    go_wp2_with (go_at_call 148;refine (unhide HN).mono ?_;rintro e w1 ⟨rfl,L1,hm1⟩;have HX:=hide hm1;clear hm1)
    go_ret
    exact ⟨rfl,L1,unhide HX⟩
  · have hn:Mk.lengthenName s x=(Mk.put s x,0):=by simp [Mk.lengthenName,ef]
    rw [hn] at HN
    have hl:=put_len s x
    have hk:=put_keep s x
    have hb:=unhide HB
    have c0:0≤(Mk.put s x).count:=by have:=hb.c0;omega
    have c1:(Mk.put s x).count≤1000000000000:=by have:=hb.c1;omega
    have am:(Mk.put s x).am=false:=by rw [hk.1];exact hb.am
    have ha:(Mk.put s x).attrs.length≤100000000:=by rw [hk.2];exact Nat.le_trans hb.ha (by decide)
    have hrr:Mk.lengthenAttrName s x=(if (!Mk.fits (Mk.put s x) 1 && Mk.hasAttr (Mk.put s x) (Mk.put s x).token) then (Mk.put s x,7) else (Mk.put s x,0)):=by simp [Mk.lengthenAttrName,ef]
    rw [hrr]
    clear hn hl hk hb HB hrr ef
    generalize Mk.put s x=s1 at *
    cases e1:Mk.fits s1 1
    · cases e2:Mk.hasAttr s1 s1.token
      · rw [if_neg (by simp)]
        clear hc hf
        go_enter Tryz.func165,Tryz.ntmps165
        go_wp2_with fail
        refine (unhide HN).mono ?_
        rintro e w1 ⟨rfl,L1,hm1⟩
        have hc1:=hm1.rd.cell
        have hlt1:=hm1.rd.lt
        have HF:=hide (fits_any hm1.rd 1 c0 c1 (by decide) (by decide))
        rw [e1] at HF
        have HH:=hide (fun n=>hasAttr_any (hm1.rd.drewN n) am ha s1.token)
        rw [e2] at HH
        have hcv:=fun n=>conv_row (w:=w1.drewN n) ((hm1.rd.drewN n).rows.own (tokRow s1 L1) (by simp [rowsOf]))
        have HM1:=hide hm1
        unfold cellsOf at hc1
        clear hm1 am ha c0 c1
        go_wp2_with (first
          | (go_at_call 118;refine (unhide HF).mono ?_;rintro e w' ⟨rfl,n,rfl⟩)
          | (go_at_call 158;refine (unhide HH n).mono ?_;rintro e w' ⟨rfl,rfl⟩))
        go_ret
        exact ⟨rfl,L1,(unhide HM1).drewN _⟩
      · rw [if_pos (by simp)]
        clear hc hf
        go_enter Tryz.func165,Tryz.ntmps165
        go_wp2_with fail
        refine (unhide HN).mono ?_
        rintro e w1 ⟨rfl,L1,hm1⟩
        have hc1:=hm1.rd.cell
        have hlt1:=hm1.rd.lt
        have HF:=hide (fits_any hm1.rd 1 c0 c1 (by decide) (by decide))
        rw [e1] at HF
        have HH:=hide (fun n=>hasAttr_any (hm1.rd.drewN n) am ha s1.token)
        rw [e2] at HH
        have hcv:=fun n=>conv_row (w:=w1.drewN n) ((hm1.rd.drewN n).rows.own (tokRow s1 L1) (by simp [rowsOf]))
        have HM1:=hide hm1
        unfold cellsOf at hc1
        clear hm1 am ha c0 c1
        go_wp2_with (first
          | (go_at_call 118;refine (unhide HF).mono ?_;rintro e w' ⟨rfl,n,rfl⟩)
          | (go_at_call 158;refine (unhide HH n).mono ?_;rintro e w' ⟨rfl,rfl⟩))
        go_ret
        exact ⟨rfl,L1,(unhide HM1).drewN _⟩
    · rw [if_neg (by simp)]
      clear hc hf
      go_enter Tryz.func165,Tryz.ntmps165
      go_wp2_with fail
      refine (unhide HN).mono ?_
      rintro e w1 ⟨rfl,L1,hm1⟩
      have HF:=hide (fits_any hm1.rd 1 c0 c1 (by decide) (by decide))
      rw [e1] at HF
      have HM1:=hide hm1
      clear hm1 am ha c0 c1
      go_wp2_with (go_at_call 118;refine (unhide HF).mono ?_;rintro e w' ⟨rfl,n,rfl⟩)
      go_ret
      exact ⟨rfl,L1,(unhide HM1).drewN _⟩
theorem readAttrName_any {w:World} {b:Nat} {s:St} {L:Lay} (h:RdL w b s L) (hB:Bd s) (x:Int) (h0:0≤x) (h1:x≤255) :
    Calls Tryz.prog 153 #[.pointer (some ⟨b,0,none⟩),.int .u8 x] w (Does w b s L (Mk.readAttrName s x)):=by
  have hc:=h.cell
  have hf:=h.frozen
  have hlt:=h.lt
  have HM:=hide h
  have HL:=hide (lengthenAttrName_any h hB x h0 h1)
  have HH:=hide (hasAttr_any h hB.am (Nat.le_trans hB.ha (by decide)) s.token)
  have HT:=hide (takeToken_any h)
  have hcv:=conv_row (h.rows.own (tokRow s L) (by simp [rowsOf]))
  have HB:=hide hB
  unfold cellsOf at hc
  clear h hB
  cases ei:Mk.inName x
  · cases e3:(x != 61 && !Mk.isSpace x)
    · cases e2:Mk.hasAttr s s.token
      · have hr:Mk.readAttrName s x=Mk.readAttrSpace { Mk.dropToken s with attr:=s.token } x:=by simp only [Mk.readAttrName,ei,e3,e2];rfl
        rw [hr]
        rw [e2] at HH
        clear hr HL
        cases e4:(x == 61)
        · have e4' : (x != 61)=true:=by simp at e4 ⊢;exact e4
          have e5:Mk.isSpace x=true:=by simpa [e4'] using e3
          clear e3
          go_enter Tryz.func153,Tryz.ntmps153
          go_wp2_with (first | (go_at_call 147;refine (inName_any _ _).mono ?_;rintro e w1 ⟨rfl,rfl⟩) | (go_at_call 113;refine (isSpace_any _ _).mono ?_;rintro e w1 ⟨rfl,rfl⟩) | (go_at_call 158;refine (unhide HH).mono ?_;rintro e w' ⟨rfl,rfl⟩))
          refine (unhide HT).mono ?_
          rintro e w1 ⟨rfl,L1,hm1⟩
          have hc1:=hm1.rd.cell
          have hf1:=hm1.rd.frozen
          have hlt1:=hm1.rd.lt
          have hm2:=hm1.store 12 (.string ⟨s.token.toArray⟩) { Mk.dropToken s with attr:=s.token } rfl rfl rfl
          have HG:=hide (readAttrSpace_any hm2.rd { unhide HB with ht:=by simp [Mk.dropToken],c0:=by simp [Mk.dropToken],c1:=by simp [Mk.dropToken] } x h0 h1)
          have HM2:=hide hm2
          unfold cellsOf at hc1
          clear hm1 hm2 HB hc hf hcv
          go_wp2_with (go_at_call 154;refine (unhide HG).mono ?_;rintro e w1 ⟨rfl,L1,hm1⟩;have HX:=hide hm1;clear hm1)
          go_ret
          exact ⟨rfl,L1,(unhide HM2).call (unhide HX)⟩
        · have e4' : (x != 61)=false:=by simp at e4 ⊢;exact e4
          clear e3
          go_enter Tryz.func153,Tryz.ntmps153
          go_wp2_with (first | (go_at_call 147;refine (inName_any _ _).mono ?_;rintro e w1 ⟨rfl,rfl⟩) | (go_at_call 113;refine (isSpace_any _ _).mono ?_;rintro e w1 ⟨rfl,rfl⟩) | (go_at_call 158;refine (unhide HH).mono ?_;rintro e w' ⟨rfl,rfl⟩))
          refine (unhide HT).mono ?_
          rintro e w1 ⟨rfl,L1,hm1⟩
          have hc1:=hm1.rd.cell
          have hf1:=hm1.rd.frozen
          have hlt1:=hm1.rd.lt
          have hm2:=hm1.store 12 (.string ⟨s.token.toArray⟩) { Mk.dropToken s with attr:=s.token } rfl rfl rfl
          have HG:=hide (readAttrSpace_any hm2.rd { unhide HB with ht:=by simp [Mk.dropToken],c0:=by simp [Mk.dropToken],c1:=by simp [Mk.dropToken] } x h0 h1)
          have HM2:=hide hm2
          unfold cellsOf at hc1
          clear hm1 hm2 HB hc hf hcv
          go_wp2_with (go_at_call 154;refine (unhide HG).mono ?_;rintro e w1 ⟨rfl,L1,hm1⟩;have HX:=hide hm1;clear hm1)
          go_ret
          exact ⟨rfl,L1,(unhide HM2).call (unhide HX)⟩
      · have hr:Mk.readAttrName s x=(s,6):=by simp only [Mk.readAttrName,ei,e3,e2];rfl
        rw [hr]
        rw [e2] at HH
        clear hr HL HT
        cases e4:(x == 61)
        · have e4' : (x != 61)=true:=by simp at e4 ⊢;exact e4
          have e5:Mk.isSpace x=true:=by simpa [e4'] using e3
          clear e3
          go_enter Tryz.func153,Tryz.ntmps153
          go_wp2_with (first | (go_at_call 147;refine (inName_any _ _).mono ?_;rintro e w1 ⟨rfl,rfl⟩) | (go_at_call 113;refine (isSpace_any _ _).mono ?_;rintro e w1 ⟨rfl,rfl⟩) | (go_at_call 158;refine (unhide HH).mono ?_;rintro e w' ⟨rfl,rfl⟩))
          go_ret
          exact ⟨rfl,L,(unhide HM).start⟩
        · have e4' : (x != 61)=false:=by simp at e4 ⊢;exact e4
          clear e3
          go_enter Tryz.func153,Tryz.ntmps153
          go_wp2_with (first | (go_at_call 147;refine (inName_any _ _).mono ?_;rintro e w1 ⟨rfl,rfl⟩) | (go_at_call 113;refine (isSpace_any _ _).mono ?_;rintro e w1 ⟨rfl,rfl⟩) | (go_at_call 158;refine (unhide HH).mono ?_;rintro e w' ⟨rfl,rfl⟩))
          go_ret
          exact ⟨rfl,L,(unhide HM).start⟩
    · have hr:Mk.readAttrName s x=(s,3):=by simp only [Mk.readAttrName,ei,e3];rfl
      rw [hr]
      have e4:(x != 61)=true:=by simp at e3;simp [e3]
      have e5:Mk.isSpace x=false:=by simp at e3;simp [e3]
      clear hr HL HT HH e3
      go_enter Tryz.func153,Tryz.ntmps153
      go_wp2_with (first | (go_at_call 147;refine (inName_any _ _).mono ?_;rintro e w1 ⟨rfl,rfl⟩) | (go_at_call 113;refine (isSpace_any _ _).mono ?_;rintro e w1 ⟨rfl,rfl⟩))
      go_ret
      exact ⟨rfl,L,(unhide HM).start⟩
  · have hr:Mk.readAttrName s x=Mk.lengthenAttrName s x:=by simp only [Mk.readAttrName,ei];rfl
    rw [hr]
    clear hr HT HH
    go_enter Tryz.func153,Tryz.ntmps153
    go_wp2_with (first | (go_at_call 147;refine (inName_any _ _).mono ?_;rintro e w1 ⟨rfl,rfl⟩) | (go_at_call 165;refine (unhide HL).mono ?_;rintro e w1 ⟨rfl,L1,hm1⟩;have HX:=hide hm1;clear hm1))
    go_ret
    exact ⟨rfl,L1,unhide HX⟩
theorem opn_last {w:World} {b:Nat} {s:St} {L:Lay} (h:RdL w b s L) (hn:s.opn ≠ []):∃ (l:List Bs) (x:Bs) (g:Nat),s.opn=l ++ [x]∧s.opn.length=l.length + 1∧L.oa=some ⟨g,0,none⟩∧l.length + 1≤L.oc∧w.cell? ⟨g,l.length,none⟩=some (.string ⟨x.toArray⟩):=by
  have hrow:=h.rows.own (opnRow s L) (by simp [rowsOf])
  have hlen:s.opn.length=s.opn.dropLast.length + 1:=by
    have:=List.length_pos_iff.2 hn
    rw [List.length_dropLast];omega
  obtain ⟨g,cap,hv,_,_⟩:=World.ownsRow.form hrow (by show 0<s.opn.length;omega)
  have hv' : Value.slice L.oa s.opn.length L.oc = .slice (some ⟨g,0,none⟩) s.opn.length cap:=hv
  injection hv' with h5 h6 h7
  have hcap:s.opn.length≤L.oc:=by
    rcases hrow.2 with ⟨h1,h2⟩ | ⟨g', cap', cur,hv2,_,_,hnc,_⟩
    · simp [opnRow] at h2;exact absurd h2 hn
    · have hv3:Value.slice L.oa s.opn.length L.oc = .slice (some ⟨g', 0,none⟩) s.opn.length cap' := hv2
      injection hv3 with _ _ h8
      rw [h8];exact hnc
  refine ⟨s.opn.dropLast,s.opn.getLast hn,g,(List.dropLast_concat_getLast hn).symm,hlen,h5,by omega,?_⟩
  have h2:w.ownsRow (b - 1) 9 1 (.slice (some ⟨g,0,none⟩) s.opn.length L.oc) s.opn.length (s.opn.map sv):=by rw [← h5];exact hrow
  rw [row_cell h2 s.opn.dropLast.length (by omega)]
  rw [List.getElem?_map,List.getElem?_eq_getElem (by omega)]
  simp only [Option.map_some,sv]
  congr 4
  rw [List.getLast_eq_getElem]
  congr 1
  omega
theorem innermost_any {w:World} {b:Nat} {s:St} {L:Lay} (h:RdL w b s L) (ho:s.opn.length≤100000000) :
    Calls Tryz.prog 102 #[.pointer (some ⟨b,0,none⟩)] w fun e w' => e = .returned (.string ⟨(Mk.innermost s).toArray⟩)∧∃ n,w' = w.drewN n:=by
  have hc:=h.cell
  unfold cellsOf at hc
  by_cases hn:s.opn=[]
  · have hi:Mk.innermost s=[]:=by simp [Mk.innermost,hn]
    have hl:s.opn.length=0:=by simp [hn]
    rw [hi]
    clear h hi hn
    go_enter Tryz.func102,Tryz.ntmps102
    go_wp2
    go_ret
    exact ⟨rfl,0,rfl⟩
  · obtain ⟨l,x,g,h1,h2,h3,h4,h5⟩:=opn_last h hn
    have hi:Mk.innermost s=x:=by simp [Mk.innermost,h1]
    rw [hi]
    have e0:((l.length:Int) + 1 == 0)=false:=by rw [beq_eq_false_iff_ne];omega
    clear h hi h1 hn
    go_enter Tryz.func102,Tryz.ntmps102
    go_wp2
    go_quiet (fail)
    go_wp2
    go_ret
    exact ⟨rfl,_,rfl⟩
section
variable {w0 w:World} {b:Nat} {f0:List Nat} {s:St} {L:Lay}
theorem Mv.popOpen (m:Mv w0 b f0 w s L) (l:List Bs) (x:Bs) (h1:s.opn=l ++ [x]) :
    Mv w0 b f0 (w.setCell ⟨b,5,none⟩ (.slice L.oa l.length L.oc)) { s with opn:=l } L:=by
  have hrow:=m.rd.rows.own (opnRow s L) (by simp [rowsOf])
  have hlen:s.opn.length=l.length + 1:=by simp [h1]
  have hown:(opnRow { s with opn:=l } L).owned w (b - 1):=by
    rcases hrow.2 with ⟨h2,h3⟩ | ⟨g,cap,cur,hv,hb,hg,hnc,hm,hsz,htake⟩
    · have h4:s.opn.length=0:=h3
      omega
    · have hv3:Value.slice L.oa s.opn.length L.oc = .slice (some ⟨g,0,none⟩) s.opn.length cap:=hv
      injection hv3 with h5 _ h7
      have hnc' : s.opn.length≤cap:=hnc
      refine ⟨by simp [opnRow],.inr ⟨g,cap,cur,?_,hb,hg,?_,hm,hsz,?_⟩⟩
      · simp [opnRow,h5,h7]
      · show l.length≤cap;omega
      · have ht:cur.toList.take (s.opn.length * 1)=s.opn.map sv:=htake
        show cur.toList.take (l.length * 1)=l.map sv
        have:cur.toList.take (l.length * 1)=(cur.toList.take (s.opn.length * 1)).take l.length:=by rw [List.take_take];congr 1;omega
        rw [this,ht,h1,List.map_append]
        simp
  have hgb:w.grownBy w (opnRow s L).v.ownBlock:=⟨rfl,rfl,rfl,Nat.le_refl _,fun _ _ _=>rfl⟩
  exact m.grow (s' := { s with opn:=l }) (L' := L) (r:=opnRow s L) (r' := opnRow { s with opn:=l } L) (rs:=tokRow s L :: attRow s L :: lstRow s L :: txtRow s L :: bndRow s L :: cntRow s L :: L.es.map evRow) 5 _ (.refl _) (.refl _) hown hgb (.inl (by simp [opnRow];cases L.oa <;> rfl)) rfl m.rd.evs
end
set_option maxHeartbeats 1000000 in
theorem endInnermost_any {w:World} {b:Nat} {s:St} {L:Lay} (h:RdL w b s L) (hB:Bd s) (hl2:Sl s) (hil:(Mk.innermost s).length≤100000000) :
    Calls Tryz.prog 150 #[.pointer (some ⟨b,0,none⟩)] w fun e w' => e = .returned (.tuple #[])∧∃ L', Mv w b (foot s L) w' (Mk.endInnermost s) L' := by
  have HI:=hide (innermost_any h hB.ho)
  have ho:=hB.ho
  have HM:=hide h
  have HB:=hide hB
  obtain ⟨nm,hnm⟩:∃ nm,Mk.innermost s=nm:=⟨_,rfl⟩
  rw [hnm] at hil
  have hll:=hl2.l
  by_cases hn:s.opn=[]
  · have hl:s.opn.length=0:=by simp [hn]
    have hr:Mk.endInnermost s=Mk.tellEnd s nm:=by
      unfold Mk.endInnermost
      rw [hnm,hn]
      have:({ s with opn:=[].dropLast }:St)=s:=by rw [List.dropLast_nil, ← hn]
      rw [this]
    rw [hr]
    rw [hnm] at HI
    clear h hn hr hnm hB
    go_enter Tryz.func150,Tryz.ntmps150
    go_wp2_with fail
    refine (unhide HI).mono ?_
    rintro e w1 ⟨rfl,n,rfl⟩
    have hm:=(unhide HM).start.drewN n
    have hc:=hm.rd.cell
    have hlt:=hm.rd.lt
    have HT:=hide (tellEnd_any hm.rd (unhide HB) (by omega) nm hil)
    have HM1:=hide hm
    unfold cellsOf at hc
    clear hm HI HB
    go_wp2_with (go_at_call 164;refine (unhide HT).mono ?_;rintro e w2 ⟨rfl,L2,hm2⟩;have HX:=hide hm2;clear hm2)
    go_end0
    exact ⟨rfl,L2,(unhide HM1).call (unhide HX)⟩
  · obtain ⟨l,x,g,h1,h2,h3,h4,h5⟩:=opn_last h hn
    have hr:Mk.endInnermost s=Mk.tellEnd { s with opn:=l } nm:=by
      unfold Mk.endInnermost
      rw [hnm,h1]
      simp
    rw [hr]
    rw [hnm] at HI
    have H1:=hide h1
    have H3:=hide h3
    clear h hn hr hnm hB h1 h5
    go_enter Tryz.func150,Tryz.ntmps150
    go_wp2_with fail
    refine (unhide HI).mono ?_
    rintro e w1 ⟨rfl,n,rfl⟩
    have hm:=(unhide HM).start.drewN n
    have hc:=hm.rd.cell
    have hf:=hm.rd.frozen
    have hlt:=hm.rd.lt
    have HM1:=hide hm
    unfold cellsOf at hc
    clear hm HI
    generalize w.drewN n=w1 at *
    go_wp2
    go_region
    all_goals
      have hm2:=((unhide HM1).popOpen l x (unhide H1)).drew
      rw [unhide H3] at hm2
      have HT:=hide (tellEnd_any hm2.rd { unhide HB with ho:=by simp;omega } (by show s.list.length + 100≤_;omega) nm hil)
      have HM2:=hide hm2
      clear hm2
      go_wp2_with (go_at_call 164;refine (unhide HT).mono ?_;rintro e w2 ⟨rfl,L2,hm2⟩;have HX:=hide hm2;clear hm2)
      go_end0
      exact ⟨rfl,L2,(unhide HM2).call (unhide HX)⟩
theorem readEndSpace_any {w:World} {b:Nat} {s:St} {L:Lay} (h:RdL w b s L) (hB:Bd s) (hl2:Sl s) (hil:(Mk.innermost s).length≤100000000) (x:Int) :
    Calls Tryz.prog 128 #[.pointer (some ⟨b,0,none⟩),.int .u8 x] w (Does w b s L (Mk.readEndSpace s x)):=by
  have hc:=h.cell
  have hf:=h.frozen
  have hlt:=h.lt
  have HM:=hide h
  have HE:=hide (endInnermost_any h hB hl2 hil)
  unfold cellsOf at hc
  clear h hB
  cases es:Mk.isSpace x
  · cases e1:(x == 62)
    · have hr:Mk.readEndSpace s x=(s,3):=by simp [Mk.readEndSpace,es,e1]
      rw [hr]
      clear hr HE
      go_enter Tryz.func128,Tryz.ntmps128
      go_wp2_with (go_at_call 113;refine (isSpace_any _ _).mono ?_;rintro e w1 ⟨rfl,rfl⟩)
      go_ret
      exact ⟨rfl,L,(unhide HM).start⟩
    · have hr:Mk.readEndSpace s x=(Mk.endInnermost s,0):=by simp [Mk.readEndSpace,es,e1]
      rw [hr]
      clear hr
      go_enter Tryz.func128,Tryz.ntmps128
      go_wp2_with (first | (go_at_call 113;refine (isSpace_any _ _).mono ?_;rintro e w1 ⟨rfl,rfl⟩) | (go_at_call 150;refine (unhide HE).mono ?_;rintro e w2 ⟨rfl,L2,hm2⟩;have HX:=hide hm2;clear hm2))
      go_ret
      exact ⟨rfl,L2,unhide HX⟩
  · have hr:Mk.readEndSpace s x=({ s with state:=21 },0):=by simp [Mk.readEndSpace,es]
    rw [hr]
    clear hr HE
    go_enter Tryz.func128,Tryz.ntmps128
    go_wp2_with (go_at_call 113;refine (isSpace_any _ _).mono ?_;rintro e w1 ⟨rfl,rfl⟩)
    go_ret
    exact ⟨rfl,L,(unhide HM).start.store 4 _ _ rfl rfl rfl⟩
theorem readEndName_any {w:World} {b:Nat} {s:St} {L:Lay} (h:RdL w b s L) (hB:Bd s) (hl2:Sl s) (x:Int) (hil:(Mk.innermost s).length≤100000000) :
    Calls Tryz.prog 127 #[.pointer (some ⟨b,0,none⟩),.int .u8 x] w (Does w b s L (Mk.readEndName s x)):=by
  have HI:=hide (innermost_any h hB.ho)
  have HM:=hide h
  have HB:=hide hB
  have m0:=hB.m0
  have m1:=hB.m1
  obtain ⟨nm,hnm⟩:∃ nm,Mk.innermost s=nm:=⟨_,rfl⟩
  have HIL:=hide hil
  rw [hnm] at HI hil
  by_cases e1:s.matched<nm.length
  · obtain ⟨k,hk⟩:∃ k:Nat,s.matched=(k:Int):=⟨s.matched.toNat,by omega⟩
    have hkl:k<nm.length:=by omega
    cases e2:(((nm[k].toNat:Nat):Int) != x)
    · have hr:Mk.readEndName s x=({ s with matched:=(k:Int) + 1 },0):=by
        have e3:((nm[k].toNat:Nat):Int)=x:=by simpa using e2
        unfold Mk.readEndName
        rw [hnm,if_pos e1,hk]
        simp [hkl,e3]
      rw [hr]
      have e2' : ((((⟨nm.toArray⟩:ByteArray)[k]'(by simpa [ByteArray.size] using hkl)).toNat:Int) != x)=false:=e2
      clear hr h hB hnm e2
      go_enter Tryz.func127,Tryz.ntmps127
      go_wp2_with fail
      refine (unhide HI).mono ?_
      rintro e w1 ⟨rfl,n,rfl⟩
      have hm:=(unhide HM).start.drewN n
      have hc:=hm.rd.cell
      have hf:=hm.rd.frozen
      have hlt:=hm.rd.lt
      have HM1:=hide hm
      unfold cellsOf at hc
      clear hm HI
      generalize w.drewN n=w1 at *
      go_wp2
      go_ret
      exact ⟨rfl,L,(unhide HM1).store 17 _ _ rfl rfl rfl⟩
    · have hr:Mk.readEndName s x=(s,5):=by
        have e3:((nm[k].toNat:Nat):Int) ≠ x:=by simpa using e2
        unfold Mk.readEndName
        rw [hnm,if_pos e1,hk]
        simp [hkl,e3]
      rw [hr]
      have e2' : ((((⟨nm.toArray⟩:ByteArray)[k]'(by simpa [ByteArray.size] using hkl)).toNat:Int) != x)=true:=e2
      clear hr h hB hnm e2
      go_enter Tryz.func127,Tryz.ntmps127
      go_wp2_with fail
      refine (unhide HI).mono ?_
      rintro e w1 ⟨rfl,n,rfl⟩
      have hm:=(unhide HM).start.drewN n
      have hc:=hm.rd.cell
      have hlt:=hm.rd.lt
      have HM1:=hide hm
      unfold cellsOf at hc
      clear hm HI
      generalize w.drewN n=w1 at *
      go_wp2
      go_ret
      exact ⟨rfl,L,unhide HM1⟩
  · have e1' : decide (s.matched<(nm.length:Int))=false:=by simp;omega
    cases e2:Mk.inName x
    · have hr:Mk.readEndName s x=Mk.readEndSpace s x:=by
        unfold Mk.readEndName
        rw [hnm,if_neg e1,e2]
        simp
      rw [hr]
      clear hr h hB hnm e1
      go_enter Tryz.func127,Tryz.ntmps127
      go_wp2_with fail
      refine (unhide HI).mono ?_
      rintro e w1 ⟨rfl,n,rfl⟩
      have hm:=(unhide HM).start.drewN n
      have hc:=hm.rd.cell
      have hlt:=hm.rd.lt
      have HE:=hide (readEndSpace_any hm.rd (unhide HB) hl2 (unhide HIL) x)
      have HM1:=hide hm
      unfold cellsOf at hc
      clear hm HI
      generalize w.drewN n=w1 at *
      go_wp2_with (first | (go_at_call 147;refine (inName_any _ _).mono ?_;rintro e w1 ⟨rfl,rfl⟩) | (go_at_call 128;refine (unhide HE).mono ?_;rintro e w2 ⟨rfl,L2,hm2⟩;have HX:=hide hm2;clear hm2))
      go_ret
      exact ⟨rfl,L2,(unhide HM1).call (unhide HX)⟩
    · have hr:Mk.readEndName s x=(s,5):=by
        unfold Mk.readEndName
        rw [hnm,if_neg e1,e2]
        simp
      rw [hr]
      clear hr h hB hnm e1
      go_enter Tryz.func127,Tryz.ntmps127
      go_wp2_with fail
      refine (unhide HI).mono ?_
      rintro e w1 ⟨rfl,n,rfl⟩
      have hm:=(unhide HM).start.drewN n
      have hc:=hm.rd.cell
      have hlt:=hm.rd.lt
      have HM1:=hide hm
      unfold cellsOf at hc
      clear hm HI
      generalize w.drewN n=w1 at *
      go_wp2_with (go_at_call 147;refine (inName_any _ _).mono ?_;rintro e w1 ⟨rfl,rfl⟩)
      go_ret
      exact ⟨rfl,L,unhide HM1⟩
end Go.Proofs.YtmgfijllcdadgabGreatDoor
