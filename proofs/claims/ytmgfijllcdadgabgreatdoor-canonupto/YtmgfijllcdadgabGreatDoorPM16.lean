/- Tags2, Tags3 -/
import Derived.Test.YtmgfijllcdadgabGreatDoorPM15
import Derived.Test.YtmgfijllcdadgabGreatDoorPM12
set_option linter.unusedVariables false
set_option linter.unusedSimpArgs false
namespace Go.Proofs.YtmgfijllcdadgabGreatDoor
open Go.RowKit
open Mk (St Bs Ev Att)
theorem flat_get {α β:Type} (f:α→List β) (m:Nat) (hf:∀ a,(f a).length=m):∀ (l:List α) (k:Nat) (h:k<l.length) (j:Nat),j<m→(l.flatMap f)[k * m + j]? = (f l[k])[j]?
  | a :: l,0,_,j,hj=>by simp only [List.flatMap_cons,Nat.zero_mul,Nat.zero_add,List.getElem_cons_zero];rw [List.getElem?_append_left (by rw [hf];exact hj)]
  | a :: l,k + 1,h,j,hj=>by
    simp only [List.flatMap_cons,List.getElem_cons_succ]
    rw [List.getElem?_append_right (by rw [hf,Nat.succ_mul];omega),hf]
    have:(k + 1) * m + j - m=k * m + j:=by rw [Nat.succ_mul];omega
    rw [this]
    exact flat_get f m hf l k (by simpa using h) j hj
theorem row_cell {w:World} {base:Nat} {e:TypeId} {size g n c:Nat} {xs:List Value} (h:w.ownsRow base e size (.slice (some ⟨g,0,none⟩) n c) n xs) (j:Nat) (hj:j<n * size):w.cell? ⟨g,j,none⟩=xs[j]? := by
  rcases h.2 with ⟨h1,_⟩ | ⟨g', cap,cur,hv,hb,hg,hnc,_,hsz,htake⟩
  · cases h1
  · cases hv
    rw [cell_of_row w g j cur _ _ hg, ← htake,List.getElem?_take_of_lt hj]
    simp
theorem hasAttr_any {w:World} {b:Nat} {s:St} {L:Lay} (h:RdL w b s L) (ham:s.am=false) (ha:s.attrs.length≤100000000) (x:Bs) :
    Calls Tryz.prog 158 #[.pointer (some ⟨b,0,none⟩),.string ⟨x.toArray⟩] w fun e w' => e = .returned (.bool (Mk.hasAttr s x))∧w' = w:=by
  have hc:=h.cell
  have hrow:=h.rows.own (attRow s L) (by simp [rowsOf])
  have e1:attRow s L=⟨112,3,.slice L.aa s.attrs.length L.ac,s.attrs.length,atsRow s.attrs⟩:=by simp [attRow,ham]
  rw [e1] at hrow
  have hcell:∀ k (hk:k<s.attrs.length), ∃ g,L.aa=some ⟨g,0,none⟩∧w.cell? ⟨g,k * 3,none⟩=some (.string ⟨s.attrs[k].name.toArray⟩):=by
    intro k hk
    obtain ⟨g,cap,hv,_,_⟩:=World.ownsRow.form hrow (by show 0<s.attrs.length;omega)
    have hv' : Value.slice L.aa s.attrs.length L.ac = .slice (some ⟨g,0,none⟩) s.attrs.length cap:=hv
    injection hv' with h5 h6 h7
    refine ⟨g,h5,?_⟩
    have h2:w.ownsRow (b - 1) 112 3 (.slice (some ⟨g,0,none⟩) s.attrs.length L.ac) s.attrs.length (atsRow s.attrs):=by
      rw [← h5];exact hrow
    have:=row_cell h2 (k * 3) (by omega)
    rw [this]
    have h4:=flat_get atCells 3 (fun _=>rfl) s.attrs k hk 0 (by decide)
    simpa [atsRow,atCells] using h4
  unfold cellsOf at hc
  clear h hrow e1
  obtain ⟨r,hr⟩:∃ r,Mk.hasAttr s x=r:=⟨_,rfl⟩
  rw [hr]
  have HR:=hide hr
  have HC:=hide hcell
  clear hr hcell
  go_enter Tryz.func158,Tryz.ntmps158
  go_wp2
  go_loop [5] (fun i=>∃ k:Nat,k≤s.attrs.length∧i = .int .i64 k∧Hid (r=(s.attrs.drop k).any fun a=>decide (a.name=x))) (fun i=>s.attrs.length - (intOf i).toNat)
  case atStart=>exact ⟨0,by omega,rfl,(unhide HR).symm⟩
  case round =>
    obtain ⟨k,hk,rfl,HK⟩:=hrel
    by_cases hlt:k<s.attrs.length
    · obtain ⟨g,hg,hq⟩:=(unhide HC) k hlt
      have hstep:r=(decide (s.attrs[k].name=x) || (s.attrs.drop (k + 1)).any fun a=>decide (a.name=x)):=by
        rw [unhide HK,List.drop_eq_getElem_cons hlt,List.any_cons]
      have HS:=hide hstep
      generalize s.attrs[k].name=y at *
      clear hstep HK HR HC
      cases e1:(y == x)
      · go_wp2
        go_round
        case rel => exact ⟨k + 1, by omega, by go_num, by have h1 := unhide HS; have h2 : decide (y = x) = false := by simpa using e1
                                                          rw [h2] at h1;exact h1⟩
        case measure=>simp [intOf];omega
      · go_wp2
        go_ret
        have h1:=unhide HS
        have h2:decide (y=x)=true:=by simpa using e1
        rw [h2] at h1
        exact ⟨retB h1.symm,rfl⟩
    · have hd:r=false:=by rw [unhide HK,List.drop_eq_nil_of_le (by omega)];rfl
      have HD:=hide hd
      have e0:decide ((k:Int)<(s.attrs.length:Int))=false:=by simp;omega
      clear hd HK HR HC
      go_wp2
      go_ret
      exact ⟨retB (unhide HD).symm,rfl⟩
theorem readStartName_any {w:World} {b:Nat} {s:St} {L:Lay} (h:RdL w b s L) (hB:Bd s) (x:Int) (h0:0≤x) (h1:x≤255) (hl2:Sl s) :
    Calls Tryz.prog 151 #[.pointer (some ⟨b,0,none⟩),.int .u8 x] w (Does w b s L (Mk.readStartName s x)):=by
  have hc:=h.cell
  have hf:=h.frozen
  have hlt:=h.lt
  have HM:=hide h
  have HN:=hide (ln_any h hB x h0 h1)
  have HT:=hide (takeToken_any h)
  have HB:=hide hB
  unfold cellsOf at hc
  clear h hB
  cases ei:Mk.inName x
  · have hr:Mk.readStartName s x=Mk.readStartGap { Mk.dropToken s with name:=s.token } x:=by simp [Mk.readStartName,ei]
    rw [hr]
    clear hr HN hc hf
    go_enter Tryz.func151,Tryz.ntmps151
    go_wp2_with (go_at_call 147;refine (inName_any _ _).mono ?_;rintro e w1 ⟨rfl,rfl⟩)
    refine (unhide HT).mono ?_
    rintro e w1 ⟨rfl,L1,hm1⟩
    have hc1:=hm1.rd.cell
    have hf1:=hm1.rd.frozen
    have hlt1:=hm1.rd.lt
    have hm2:=hm1.store 11 (.string ⟨s.token.toArray⟩) { Mk.dropToken s with name:=s.token } rfl rfl rfl
    have HG:=hide (readStartGap_any hm2.rd { unhide HB with ht:=by simp [Mk.dropToken],c0:=by simp [Mk.dropToken],c1:=by simp [Mk.dropToken],hn:=(unhide HB).ht } ⟨hl2.l,hl2.b,hl2.c⟩ x)
    have HM2:=hide hm2
    unfold cellsOf at hc1
    clear hm1 hm2 HB
    go_wp2_with (go_at_call 156;refine (unhide HG).mono ?_;rintro e w1 ⟨rfl,L1,hm1⟩;have HX:=hide hm1;clear hm1)
    go_ret
    exact ⟨rfl,L1,(unhide HM2).call (unhide HX)⟩
  · have hr:Mk.readStartName s x=Mk.lengthenName s x:=by simp [Mk.readStartName,ei]
    rw [hr]
    clear hr HT hc hf HB
    go_enter Tryz.func151,Tryz.ntmps151
    go_wp2_with (first | (go_at_call 147;refine (inName_any _ _).mono ?_;rintro e w1 ⟨rfl,rfl⟩) | (go_at_call 148;refine (unhide HN).mono ?_;rintro e w1 ⟨rfl,L1,hm1⟩;have HX:=hide hm1;clear hm1))
    go_ret
    exact ⟨rfl,L1,unhide HX⟩
theorem readStartSpace_any {w:World} {b:Nat} {s:St} {L:Lay} (h:RdL w b s L) (hB:Bd s) (x:Int) (h0:0≤x) (h1:x≤255) (hl2:Sl s) :
    Calls Tryz.prog 152 #[.pointer (some ⟨b,0,none⟩),.int .u8 x] w (Does w b s L (Mk.readStartSpace s x)):=by
  have hc:=h.cell
  have hf:=h.frozen
  have hlt:=h.lt
  have HM:=hide h
  have HG:=hide (readStartGap_any h hB hl2 x)
  have HP:=hide (fun n=>pt_any ((h.start.drewN n).store 4 (.int .i64 14) { s with state:=14 } rfl rfl rfl).rd { hB with } x h0 (by omega))
  have ha:=hB.ha
  unfold cellsOf at hc
  clear h hB
  cases ei:Mk.beginsName x
  · have hr:Mk.readStartSpace s x=Mk.readStartGap s x:=by simp [Mk.readStartSpace,ei]
    rw [hr]
    clear hr HP hc hf
    go_enter Tryz.func152,Tryz.ntmps152
    go_wp2_with (first | (go_at_call 145;refine (beginsName_any _ _).mono ?_;rintro e w1 ⟨rfl,rfl⟩) | (go_at_call 156;refine (unhide HG).mono ?_;rintro e w1 ⟨rfl,L1,hm1⟩;have HX:=hide hm1;clear hm1))
    go_ret
    exact ⟨rfl,L1,unhide HX⟩
  · by_cases e1:s.oa≤s.attrs.length
    · have hr:Mk.readStartSpace s x=(s,7):=by simp [Mk.readStartSpace,ei,e1]
      rw [hr]
      clear hr HP HG
      go_enter Tryz.func152,Tryz.ntmps152
      go_wp2_with (go_at_call 145;refine (beginsName_any _ _).mono ?_;rintro e w1 ⟨rfl,rfl⟩)
      go_quiet (fail)
      go_wp2
      go_ret
      exact ⟨rfl,L,(unhide HM).start.drewN _⟩
    · have hr:Mk.readStartSpace s x=(Mk.put { s with state:=14 } x,0):=by simp [Mk.readStartSpace,ei,e1]
      rw [hr]
      have e2:decide (s.oa≤(s.attrs.length:Int))=false:=by simp;omega
      clear hr HG
      go_enter Tryz.func152,Tryz.ntmps152
      go_wp2_with (go_at_call 145;refine (beginsName_any _ _).mono ?_;rintro e w1 ⟨rfl,rfl⟩)
      go_quiet (fail)
      go_wp2_with (go_at_call 111;refine (unhide HP _).mono ?_;rintro e w1 ⟨rfl,L1,hm1⟩;have HX:=hide hm1;clear hm1)
      go_ret
      exact ⟨rfl,L1,(((unhide HM).start.drewN _).store 4 (.int .i64 14) { s with state:=14 } rfl rfl rfl).call (unhide HX)⟩
theorem readSlash_any {w:World} {b:Nat} {s:St} {L:Lay} (h:RdL w b s L) (hB:Bd s) (x:Int) (h0:0≤x) (h1:x≤255) (hl2:Sl s) :
    Calls Tryz.prog 157 #[.pointer (some ⟨b,0,none⟩),.int .u8 x] w (Does w b s L (Mk.readSlash s x)):=by
  have hc:=h.cell
  have hf:=h.frozen
  have hlt:=h.lt
  have HM:=hide h
  have HT:=hide (tellStart_any h hB)
  have hbd:=tellStart_bd hB (by have:=hl2.l;omega)
  have hll:=hl2.l
  have hnm:=hB.hn
  unfold cellsOf at hc
  clear h hB
  cases e1:(x == 62)
  · have e1' : (x != 62)=true:=by simp at e1 ⊢;exact e1
    have hr:Mk.readSlash s x=(s,3):=by simp only [Mk.readSlash,e1'];rfl
    rw [hr]
    clear hr HT hbd
    go_enter Tryz.func157,Tryz.ntmps157
    go_wp2
    go_ret
    exact ⟨rfl,L,(unhide HM).start⟩
  · have e1' : (x != 62)=false:=by simp at e1 ⊢;exact e1
    have hr:Mk.readSlash s x=({ Mk.tellEnd (Mk.tellStart s) s.name with name:=[] },0):=by simp only [Mk.readSlash,e1'];rfl
    rw [hr]
    obtain ⟨hb1,ho1,hn1,hl1⟩:=hbd
    clear hr hc hf
    go_enter Tryz.func157,Tryz.ntmps157
    go_wp2_with fail
    refine (unhide HT).mono ?_
    rintro e w1 ⟨rfl,L1,hm1⟩
    have hc1:=hm1.rd.cell
    have hf1:=hm1.rd.frozen
    have hlt1:=hm1.rd.lt
    have HE:=hide (tellEnd_any hm1.rd hb1 (by omega) s.name hnm)
    have HM1:=hide hm1
    unfold cellsOf at hc1
    clear hm1 hb1 ho1 HT HM
    go_wp2_with fail
    refine (unhide HE).mono ?_
    rintro e w2 ⟨rfl,L2,hm2⟩
    generalize Mk.tellEnd (Mk.tellStart s) s.name=s2 at *
    have hc2:=hm2.rd.cell
    have hf2:=hm2.rd.frozen
    have hlt2:=hm2.rd.lt
    have HM2:=hide hm2
    unfold cellsOf at hc2
    clear hm2 HE hc1 hf1
    go_wp2
    go_ret
    exact ⟨rfl,L2,((unhide HM1).call (unhide HM2)).store 11 _ _ rfl rfl rfl⟩
theorem readAttrSpace_any {w:World} {b:Nat} {s:St} {L:Lay} (h:RdL w b s L) (hB:Bd s) (x:Int) (h0:0≤x) (h1:x≤255) :
    Calls Tryz.prog 154 #[.pointer (some ⟨b,0,none⟩),.int .u8 x] w (Does w b s L (Mk.readAttrSpace s x)):=by
  have hc:=h.cell
  have hf:=h.frozen
  have hlt:=h.lt
  have HM:=hide h
  unfold cellsOf at hc
  clear h hB
  cases es:Mk.isSpace x
  · cases e1:(x == 61)
    · have hr:Mk.readAttrSpace s x=(s,3):=by simp [Mk.readAttrSpace,es,e1]
      rw [hr]
      clear hr
      go_enter Tryz.func154,Tryz.ntmps154
      go_wp2_with (go_at_call 113;refine (isSpace_any _ _).mono ?_;rintro e w1 ⟨rfl,rfl⟩)
      go_ret
      exact ⟨rfl,L,(unhide HM).start⟩
    · have hr:Mk.readAttrSpace s x=({ s with state:=16 },0):=by simp [Mk.readAttrSpace,es,e1]
      rw [hr]
      clear hr
      go_enter Tryz.func154,Tryz.ntmps154
      go_wp2_with (go_at_call 113;refine (isSpace_any _ _).mono ?_;rintro e w1 ⟨rfl,rfl⟩)
      go_ret
      exact ⟨rfl,L,(unhide HM).start.store 4 _ _ rfl rfl rfl⟩
  · have hr:Mk.readAttrSpace s x=({ s with state:=15 },0):=by simp [Mk.readAttrSpace,es]
    rw [hr]
    clear hr
    go_enter Tryz.func154,Tryz.ntmps154
    go_wp2_with (go_at_call 113;refine (isSpace_any _ _).mono ?_;rintro e w1 ⟨rfl,rfl⟩)
    go_ret
    exact ⟨rfl,L,(unhide HM).start.store 4 _ _ rfl rfl rfl⟩
theorem readEquals_any {w:World} {b:Nat} {s:St} {L:Lay} (h:RdL w b s L) (hB:Bd s) (x:Int) (h0:0≤x) (h1:x≤255) :
    Calls Tryz.prog 155 #[.pointer (some ⟨b,0,none⟩),.int .u8 x] w (Does w b s L (Mk.readEquals s x)):=by
  have hc:=h.cell
  have hf:=h.frozen
  have hlt:=h.lt
  have HM:=hide h
  unfold cellsOf at hc
  clear h hB
  cases es:Mk.isSpace x
  · cases e1:(x == 34)
    · cases e2:(x == 39)
      · have hr:Mk.readEquals s x=(s,3):=by simp [Mk.readEquals,es,e1,e2]
        rw [hr]
        clear hr
        go_enter Tryz.func155,Tryz.ntmps155
        go_wp2_with (go_at_call 113;refine (isSpace_any _ _).mono ?_;rintro e w1 ⟨rfl,rfl⟩)
        go_ret
        exact ⟨rfl,L,(unhide HM).start⟩
      · have hr:Mk.readEquals s x=({ s with quote:=x,state:=17 },0):=by simp [Mk.readEquals,es,e1,e2]
        rw [hr]
        clear hr
        go_enter Tryz.func155,Tryz.ntmps155
        go_wp2_with (go_at_call 113;refine (isSpace_any _ _).mono ?_;rintro e w1 ⟨rfl,rfl⟩)
        go_ret
        exact ⟨rfl,L,((unhide HM).start.store 14 (.int .u8 x) { s with quote:=x } rfl rfl rfl).store 4 _ _ rfl rfl rfl⟩
    · have hr:Mk.readEquals s x=({ s with quote:=x,state:=17 },0):=by simp [Mk.readEquals,es,e1]
      rw [hr]
      clear hr
      go_enter Tryz.func155,Tryz.ntmps155
      go_wp2_with (go_at_call 113;refine (isSpace_any _ _).mono ?_;rintro e w1 ⟨rfl,rfl⟩)
      go_ret
      exact ⟨rfl,L,((unhide HM).start.store 14 (.int .u8 x) { s with quote:=x } rfl rfl rfl).store 4 _ _ rfl rfl rfl⟩
  · have hr:Mk.readEquals s x=(s,0):=by simp [Mk.readEquals,es]
    rw [hr]
    clear hr
    go_enter Tryz.func155,Tryz.ntmps155
    go_wp2_with (go_at_call 113;refine (isSpace_any _ _).mono ?_;rintro e w1 ⟨rfl,rfl⟩)
    go_ret
    exact ⟨rfl,L,(unhide HM).start⟩
theorem readValue_any {w:World} {b:Nat} {s:St} {L:Lay} (h:RdL w b s L) (hB:Bd s) (x:Int) (h0:0≤x) (h1:x≤255) :
    Calls Tryz.prog 95 #[.pointer (some ⟨b,0,none⟩),.int .u8 x] w (Does w b s L (Mk.readValue s x)):=by
  have hc:=h.cell
  have hf:=h.frozen
  have hlt:=h.lt
  have HM:=hide h
  have HE:=hide (endValue_any h hB)
  have HC:=hide (rc_any h hB x h0 h1)
  have HC2:=hide (rc_any h hB 32 (by decide) (by decide))
  have HF:=hide (fits_any h 1 hB.c0 (Int.le_trans hB.c1 (by decide)) (by decide) (by decide))
  unfold cellsOf at hc
  clear h hB
  cases e1:(x == s.quote)
  · cases e2:(x == 60)
    · cases e3:(x == 38)
      · cases e4:(x == 9)
        · cases e5:(x == 10)
          · have hr:Mk.readValue s x=Mk.readCharacter s x:=by simp [Mk.readValue,e1,e2,e3,e4,e5]
            rw [hr]
            clear hr HE HC2 HF
            go_enter Tryz.func95,Tryz.ntmps95
            go_wp2_with (go_at_call 115;refine (unhide HC).mono ?_;rintro e w1 ⟨rfl,L1,hm1⟩;have HX:=hide hm1;clear hm1)
            go_ret
            exact ⟨rfl,L1,unhide HX⟩
          · have hr:Mk.readValue s x=Mk.readCharacter s 32:=by simp [Mk.readValue,e1,e2,e3,e4,e5]
            rw [hr]
            clear hr HE HC HF
            go_enter Tryz.func95,Tryz.ntmps95
            go_wp2_with (go_at_call 115;refine (unhide HC2).mono ?_;rintro e w1 ⟨rfl,L1,hm1⟩;have HX:=hide hm1;clear hm1)
            go_ret
            exact ⟨rfl,L1,unhide HX⟩
        · have hr:Mk.readValue s x=Mk.readCharacter s 32:=by simp [Mk.readValue,e1,e2,e3,e4]
          rw [hr]
          clear hr HE HC HF
          go_enter Tryz.func95,Tryz.ntmps95
          go_wp2_with (go_at_call 115;refine (unhide HC2).mono ?_;rintro e w1 ⟨rfl,L1,hm1⟩;have HX:=hide hm1;clear hm1)
          go_ret
          exact ⟨rfl,L1,unhide HX⟩
      · cases e4:Mk.fits s 1
        · have hr:Mk.readValue s x=(s,7):=by simp [Mk.readValue,e1,e2,e3,e4]
          rw [hr]
          rw [e4] at HF
          clear hr HE HC HC2
          go_enter Tryz.func95,Tryz.ntmps95
          go_wp2_with (go_at_call 118;refine (unhide HF).mono ?_;rintro e w' ⟨rfl,n,rfl⟩)
          go_ret
          exact ⟨rfl,L,(unhide HM).start.drewN _⟩
        · have hr:Mk.readValue s x=(Mk.setRef s ⟨1,[],0⟩,0):=by simp [Mk.readValue,e1,e2,e3,e4]
          rw [hr]
          rw [e4] at HF
          clear hr HE HC HC2
          go_enter Tryz.func95,Tryz.ntmps95
          go_wp2_with (first
            | (go_at_call 118;refine (unhide HF).mono ?_;rintro e w' ⟨rfl,n,rfl⟩)
            | (go_at_call 114;refine (refBegin_any _).mono ?_;rintro e w1 ⟨rfl,hbel⟩;have hmb:=((unhide HM).start.drewN n).below hbel;have hcb:=hmb.rd.cell;have hfb:=hmb.rd.frozen;have hltb:=hmb.rd.lt;have HMB:=hide hmb;clear hmb;unfold cellsOf at hcb))
          go_ret
          exact ⟨rfl,L,(((unhide HMB).store 20 (.int .i64 1) { s with rp:=1 } rfl rfl rfl).store 21 (.string ⟨#[]⟩) { s with rp:=1,rn:=[] } rfl rfl rfl).store 22 _ _ rfl rfl rfl⟩
    · have hr:Mk.readValue s x=(s,3):=by simp [Mk.readValue,e1,e2]
      rw [hr]
      clear hr HE HC HC2 HF
      go_enter Tryz.func95,Tryz.ntmps95
      go_wp2
      go_ret
      exact ⟨rfl,L,(unhide HM).start⟩
  · have hr:Mk.readValue s x=(Mk.endValue s,0):=by simp [Mk.readValue,e1]
    rw [hr]
    clear hr HC HC2 HF
    go_enter Tryz.func95,Tryz.ntmps95
    go_wp2_with (go_at_call 119;refine (unhide HE).mono ?_;rintro e w1 ⟨rfl,L1,hm1⟩;have HX:=hide hm1;clear hm1)
    go_ret
    exact ⟨rfl,L1,unhide HX⟩
end Go.Proofs.YtmgfijllcdadgabGreatDoor
