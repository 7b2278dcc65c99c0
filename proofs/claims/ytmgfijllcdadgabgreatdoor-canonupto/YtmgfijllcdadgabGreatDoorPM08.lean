/- Tok4, Asides -/
import Derived.Test.YtmgfijllcdadgabGreatDoorPM06
import Derived.Test.YtmgfijllcdadgabGreatDoorPM07
set_option linter.unusedVariables false
set_option linter.unusedSimpArgs false
namespace Go.Proofs.YtmgfijllcdadgabGreatDoor
open Go.RowKit
open Mk (St Bs Ev Att)
theorem isChar_bd {c:Int} (h:Mk.isChar c=true):0≤c∧c≤1114111:=by
  unfold Mk.isChar at h
  repeat' split at h
  all_goals simp at h
  all_goals omega
def Pt (c l:Int):Prop:=0≤c∧0≤l∧l≤3∧(l=3→c≤7)∧(l=2→c≤271)∧(l=1→c≤17407)∧c≤1114111
theorem begin_pt {b:Int} {p:Int × Int} (h0:0≤b) (h1:b≤255) (h:Mk.begin_ b=some p):Pt p.1 p.2:=by
  unfold Mk.begin_ at h
  repeat' split at h
  all_goals first | (cases h;simp [Pt];omega) | cases h
theorem nextPart_pt {c l b:Int} {p:Int × Int} (hp:Pt c l) (l0:0<l) (h:Mk.nextPart c l b=some p):Pt p.1 p.2:=by
  obtain ⟨q1,q2,q3,q4,q5,q6,q7⟩:=hp
  unfold Mk.nextPart at h
  split at h
  · cases h
  · split at h
    · rename_i h1
      cases h
      simp only [Pt]
      unfold Mk.canEnd at h1
      split at h1
      · rename_i h2
        simp at h1 h2
        omega
      · split at h1
        · rename_i h2
          simp at h1 h2
          omega
        · have:=isChar_bd h1
          rename_i h3 h2
          simp at h2 h3
          omega
    · cases h
theorem readPart_any {w:World} {b:Nat} {s:St} {L:Lay} (h:RdL w b s L) (x:Int) (h0:0≤x) (h1:x≤255) (hp:Pt s.pc s.pl) (l0:0<s.pl) (hx:s.text.length≤100000000000) (ht:s.token.length≤100000000000) (c0:0≤s.count) (c1:s.count≤100000000000) :
    Calls Tryz.prog 87 #[.pointer (some ⟨b,0,none⟩),.int .u8 x] w fun e w' => e = .returned (.int .i64 (Mk.readPart s x).2)∧∃ L', Mv w b (foot s L) w' (Mk.readPart s x).1 L' := by
  have HB:=hide (next_any s.pc s.pl x h0 h1 hp.1 (Int.le_trans hp.2.2.2.2.2.2 (by decide)) hp.2.1 hp.2.2.1 w)
  have HM:=hide h
  have hc:=h.cell
  have hlt:=h.lt
  unfold cellsOf at hc
  cases hb:Mk.nextPart s.pc s.pl x with
  | none =>
    rw [hb] at HB
    have hr:Mk.readPart s x=(s,2):=by simp [Mk.readPart,hb]
    rw [hr]
    clear h hr hp
    go_enter Tryz.func87,Tryz.ntmps87
    go_wp2_with (go_at_call 98;refine (unhide HB).mono ?_;rintro e w1 ⟨rfl,hbel⟩)
    go_ret
    exact ⟨rfl,L,(((unhide HM).start.below hbel).alloc _)⟩
  | some p =>
    have hpb:=nextPart_pt hp l0 hb
    obtain ⟨pc,pl⟩:=p
    rw [hb] at HB
    obtain ⟨r,hr⟩:∃ r,r=Mk.goOn s (pc,pl):=⟨_,rfl⟩
    have hr' : Mk.readPart s x=(r,0):=by rw [hr];simp [Mk.readPart,hb]
    rw [hr']
    have HR:=hide hr
    clear hr hr' hb h
    go_enter Tryz.func87,Tryz.ntmps87
    go_wp2_with fail
    refine (unhide HB).mono ?_
    rintro e w1 ⟨rfl,hbel⟩
    have hm2:=((unhide HM).start.below hbel).alloc (.cells #[.int .i64 pc,.int .i64 pl] 99)
    have HP:=hide (goOn_any hm2.rd pc pl hpb.1 (fun _=>hpb.2.2.2.2.2.2) (Nat.le_trans hx (by decide)) (Nat.le_trans ht (by decide)) c0 (Int.le_trans c1 (by decide)))
    have HM2:=hide hm2
    clear hm2 hc hpb HB hp
    go_wp2_with (go_at_call 109;refine (unhide HP).mono ?_;rintro e w3 ⟨rfl,L3,hm3⟩;have HM4:=hide hm3;clear hm3)
    go_ret
    rw [unhide HR]
    exact ⟨rfl,L3,(unhide HM2).call (unhide HM4)⟩
theorem readReference_any {w:World} {b:Nat} {s:St} {L:Lay} (h:RdL w b s L) (x:Int) (h0:0≤x) (h1:x≤255) (hG:Gl w) (hb2:6<b) (hn:s.rn.length≤20) (r0:0≤s.rc) (r1:s.rc≤1114111) (hx:s.text.length≤100000000000) (ht:s.token.length≤100000000000) (c0:0≤s.count) (c1:s.count≤100000000000)
    (hq:∀ r,Mk.refNext ⟨s.rp,s.rn,s.rc⟩ x=some r→0≤r.code∧r.code≤1114111) :
    Calls Tryz.prog 89 #[.pointer (some ⟨b,0,none⟩),.int .u8 x] w fun e w' => e = .returned (.int .i64 (Mk.readReference s x).2)∧∃ L', Mv w b (foot s L) w' (Mk.readReference s x).1 L' := by
  have hlt:=h.lt
  have HB:=hide (refNext_any s.rp s.rn s.rc x h0 h1 hn r0 r1 w hG (by omega))
  have HM:=hide h
  have hc:=h.cell
  unfold cellsOf at hc
  clear hG
  cases hb:Mk.refNext ⟨s.rp,s.rn,s.rc⟩ x with
  | none =>
    rw [hb] at HB
    have hr:Mk.readReference s x=(s,4):=by simp [Mk.readReference,hb]
    rw [hr]
    clear h hr hq
    go_enter Tryz.func89,Tryz.ntmps89
    go_wp2_with (go_at_call 110;refine (unhide HB).mono ?_;rintro e w1 ⟨rfl,hbel⟩;simp only [refRes,refAgg,Option.map_none,Option.getD_none,Option.isSome_none])
    go_ret
    exact ⟨rfl,L,(((unhide HM).start.below hbel).alloc _)⟩
  | some r =>
    have hpb:=hq r hb
    obtain ⟨rp,rn,rc⟩:=r
    rw [hb] at HB
    simp only at hpb
    cases ho:Mk.isOpen rp
    · obtain ⟨r,hr⟩:∃ r,r=Mk.put (Mk.setRef s ⟨rp,rn,rc⟩) rc:=⟨_,rfl⟩
      have hr' : Mk.readReference s x=(r,0):=by rw [hr];simp [Mk.readReference,hb,ho]
      rw [hr']
      have HR:=hide hr
      clear hr hr' hb h hq
      go_enter Tryz.func89,Tryz.ntmps89
      go_wp2_with fail
      refine (unhide HB).mono ?_
      rintro e w1 ⟨rfl,hbel⟩
      simp only [refRes,refAgg,Option.map_some,Option.getD_some,Option.isSome_some]
      have hm1:=(unhide HM).start.below hbel
      have hc1:=hm1.rd.cell
      have hf1:=hm1.rd.frozen
      have hlt1:=hm1.rd.lt
      have hm2:=((((hm1.store 20 (.int .i64 rp) { s with rp:=rp } rfl rfl rfl).store 21 (.string ⟨rn.toArray⟩) { s with rp:=rp,rn:=rn } rfl rfl rfl).store 22 (.int .i64 rc) (Mk.setRef s ⟨rp,rn,rc⟩) rfl rfl rfl).alloc (.cells #[.int .i64 rp,.string ⟨rn.toArray⟩,.int .i64 rc] 101))
      have hm3:=(hm2.alloc (.cells #[.int .i64 rp,.string ⟨rn.toArray⟩,.int .i64 rc] 101)).alloc (.cells #[.int .i64 rp,.string ⟨rn.toArray⟩,.int .i64 rc] 101)
      have HP:=hide (put_any hm3.rd rc hpb.1 hpb.2 (Nat.le_trans hx (by decide)) (Nat.le_trans ht (by decide)) c0 (Int.le_trans c1 (by decide)))
      have HM3:=hide hm3
      have HI:=hide (fun w=>isOpen_any rp rn rc w)
      rw [ho] at HI
      unfold cellsOf at hc1
      clear hm1 hm2 hm3 hc hpb HB
      go_wp2_with (first
        | (go_at_call 88;refine (unhide HI _).mono ?_;rintro e w2 ⟨rfl,rfl⟩)
        | (go_at_call 112;refine (code_any _ _ _ _).mono ?_;rintro e w2 ⟨rfl,rfl⟩)
        | (go_at_call 111;refine (unhide HP).mono ?_;rintro e w3 ⟨rfl,L3,hm3⟩;have HM4:=hide hm3;clear hm3))
      go_ret
      rw [unhide HR]
      exact ⟨rfl,L3,(unhide HM3).call (unhide HM4)⟩
    · have hr' : Mk.readReference s x=(Mk.setRef s ⟨rp,rn,rc⟩,0):=by simp [Mk.readReference,hb,ho]
      rw [hr']
      clear hr' hb h hq
      go_enter Tryz.func89,Tryz.ntmps89
      go_wp2_with fail
      refine (unhide HB).mono ?_
      rintro e w1 ⟨rfl,hbel⟩
      simp only [refRes,refAgg,Option.map_some,Option.getD_some,Option.isSome_some]
      have hm1:=(unhide HM).start.below hbel
      have hc1:=hm1.rd.cell
      have hf1:=hm1.rd.frozen
      have hlt1:=hm1.rd.lt
      have hm2:=((((hm1.store 20 (.int .i64 rp) { s with rp:=rp } rfl rfl rfl).store 21 (.string ⟨rn.toArray⟩) { s with rp:=rp,rn:=rn } rfl rfl rfl).store 22 (.int .i64 rc) (Mk.setRef s ⟨rp,rn,rc⟩) rfl rfl rfl).alloc (.cells #[.int .i64 rp,.string ⟨rn.toArray⟩,.int .i64 rc] 101))
      have HM3:=hide (hm2.alloc (.cells #[.int .i64 rp,.string ⟨rn.toArray⟩,.int .i64 rc] 101))
      have HI:=hide (fun w=>isOpen_any rp rn rc w)
      rw [ho] at HI
      unfold cellsOf at hc1
      clear hm1 hm2 hc hpb HB
      go_wp2_with (go_at_call 88;refine (unhide HI _).mono ?_;rintro e w2 ⟨rfl,rfl⟩)
      go_ret
      exact ⟨rfl,L,unhide HM3⟩
structure Bd (s:St):Prop where
  hx:s.text.length≤100000000
  ht:s.token.length≤100000000
  c0:0≤s.count
  c1:s.count≤100000000
  hl:s.list.length≤700000000
  ho:s.opn.length≤100000000
  ha:s.attrs.length≤32
  hh:s.held.length≤2
  pt:Pt s.pc s.pl
  rn:s.rn.length≤5
  r0:0≤s.rc
  r1:s.rc≤1114111
  m0:0≤s.matched
  m1:s.matched≤100000000
  am:s.am=false
  hb:s.bnd.length≤290000000
  hc:s.cnt.length≤100000000
  cb:∀ c ∈ s.cnt,c≤32
  hn:s.name.length≤100000000
  an:∀ a ∈ s.attrs,a.name.length≤100000000
def Does (w:World) (b:Nat) (s:St) (L:Lay) (r:St × Int) (e:Ending) (w' : World):Prop:=
  e = .returned (.int .i64 r.2)∧∃ L', Mv w b (foot s L) w' r.1 L'
theorem rc_any {w:World} {b:Nat} {s:St} {L:Lay} (h:RdL w b s L) (hB:Bd s) (x:Int) (h0:0≤x) (h1:x≤255) :
    Calls Tryz.prog 115 #[.pointer (some ⟨b,0,none⟩),.int .u8 x] w (Does w b s L (Mk.readCharacter s x)):=
  readCharacter_any h x h0 h1 (by have:=hB.hh;omega) (by have:=hB.hx;omega) (by have:=hB.ht;omega) hB.c0 (by have:=hB.c1;omega)
theorem readDash_any {w:World} {b:Nat} {s:St} {L:Lay} (h:RdL w b s L) (x:Int) :
    Calls Tryz.prog 122 #[.pointer (some ⟨b,0,none⟩),.int .u8 x] w (Does w b s L (Mk.readDash s x)):=by
  have hc:=h.cell
  have hf:=h.frozen
  have hlt:=h.lt
  have HM:=hide h
  unfold cellsOf at hc
  clear h
  cases he:(x == 45)
  · have hr:Mk.readDash s x=(s,3):=by simp [Mk.readDash,he]
    rw [hr]
    have he' : (x != 45)=true:=by simp at he ⊢;exact he
    go_enter Tryz.func122,Tryz.ntmps122
    go_wp2
    go_ret
    exact ⟨rfl,L,(unhide HM).start⟩
  · have hr:Mk.readDash s x=({ s with state:=7 },0):=by simp [Mk.readDash,he]
    rw [hr]
    have he' : (x != 45)=false:=by simp at he ⊢;exact he
    go_enter Tryz.func122,Tryz.ntmps122
    go_wp2
    go_ret
    exact ⟨rfl,L,(unhide HM).start.store 4 _ _ rfl rfl rfl⟩
theorem endComment_any {w:World} {b:Nat} {s:St} {L:Lay} (h:RdL w b s L) (hB:Bd s) :
    Calls Tryz.prog 116 #[.pointer (some ⟨b,0,none⟩)] w fun e w' => e = .returned (.tuple #[])∧∃ L', Mv w b (foot s L) w' (Mk.endComment s) L' := by
  have hc:=h.cell
  have hf:=h.frozen
  have hlt:=h.lt
  have hm0:=h.start.store 15 (.string ⟨#[]⟩) { s with held:=[] } rfl rfl rfl
  have H1:=hide (takeToken_any hm0.rd)
  have HM0:=hide hm0
  unfold cellsOf at hc
  clear h hm0
  go_enter Tryz.func116,Tryz.ntmps116
  go_wp2_with fail
  refine (unhide H1).mono ?_
  rintro e w1 ⟨rfl,L1,hm1⟩
  have H2:=hide (add_nil hm1.rd ⟨4,[],[],s.token,[]⟩ rfl (Nat.le_trans hB.hx (by decide)) (Nat.le_trans hB.hl (by decide)))
  have HM1:=hide ((unhide HM0).call hm1)
  clear hm1 H1 HM0 hc hf
  go_wp2_with fail
  refine (unhide H2).mono ?_
  rintro e w2 ⟨rfl,L2,hm2⟩
  have H3:=hide (resume_any hm2.rd)
  have HM2:=hide ((unhide HM1).call hm2)
  clear hm2 H2 HM1
  go_wp2_with (go_at_call 144;refine (unhide H3).mono ?_;rintro e w3 ⟨rfl,hm3⟩;have HM3:=hide hm3;clear hm3)
  go_end0
  exact ⟨rfl,L2,(unhide HM2).call (unhide HM3)⟩
theorem app_list (l:Bs) (x:UInt8):(⟨l.toArray⟩:ByteArray) ++ (⟨#[x]⟩:ByteArray)=⟨(l ++ [x]).toArray⟩:=by
  apply ByteArray.ext
  simp
theorem readComment_any {w:World} {b:Nat} {s:St} {L:Lay} (h:RdL w b s L) (hB:Bd s) (x:Int) (h0:0≤x) (h1:x≤255) :
    Calls Tryz.prog 93 #[.pointer (some ⟨b,0,none⟩),.int .u8 x] w (Does w b s L (Mk.readComment s x)):=by
  have hc:=h.cell
  have hf:=h.frozen
  have hlt:=h.lt
  have hh:=hB.hh
  have HM:=hide h
  have HE:=hide (endComment_any h hB)
  have HC:=hide (rc_any h hB x h0 h1)
  have happ:=app_list s.held 45
  unfold cellsOf at hc
  clear h
  cases e1:(s.held == [45,45])
  · have n1:s.held ≠ [45,45]:=by simpa using e1
    cases e2:(x == 45)
    · have hr:Mk.readComment s x=Mk.readCharacter s x:=by
        have:x ≠ 45:=by simpa using e2
        simp [Mk.readComment,n1,this]
      rw [hr]
      clear hr n1 HE hB
      go_enter Tryz.func93,Tryz.ntmps93
      go_wp2_with (go_at_call 115;refine (unhide HC).mono ?_;rintro e w1 ⟨rfl,L1,hm1⟩;have HM1:=hide hm1;clear hm1)
      go_ret
      exact ⟨rfl,L1,unhide HM1⟩
    · have hr:Mk.readComment s x=({ s with held:=s.held ++ [45] },0):=by
        have:x=45:=by simpa using e2
        simp [Mk.readComment,n1,this]
      rw [hr]
      clear hr n1 HE hB HC
      go_enter Tryz.func93,Tryz.ntmps93
      go_wp2
      go_ret
      exact ⟨rfl,L,(unhide HM).start.store 15 _ _ rfl rfl rfl⟩
  · have n1:s.held=[45,45]:=by simpa using e1
    cases e2:(x == 62)
    · have hr:Mk.readComment s x=(s,3):=by
        have:x ≠ 62:=by simpa using e2
        simp [Mk.readComment,n1,this]
      rw [hr]
      clear hr n1 HE hB HC
      go_enter Tryz.func93,Tryz.ntmps93
      go_wp2
      go_ret
      exact ⟨rfl,L,(unhide HM).start⟩
    · have hr:Mk.readComment s x=(Mk.endComment s,0):=by
        have:x=62:=by simpa using e2
        simp [Mk.readComment,n1,this]
      rw [hr]
      clear hr n1 hB HC
      go_enter Tryz.func93,Tryz.ntmps93
      go_wp2_with (go_at_call 116;refine (unhide HE).mono ?_;rintro e w1 ⟨rfl,L1,hm1⟩;have HM1:=hide hm1;clear hm1)
      go_ret
      exact ⟨rfl,L1,unhide HM1⟩
end Go.Proofs.YtmgfijllcdadgabGreatDoor
