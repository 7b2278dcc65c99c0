/- Cn2, Cn3, Cn4 -/
import Derived.Test.YtmgfijllcdadgabGreatDoorPCCn1
import Derived.Test.YtmgfijllcdadgabGreatDoorPCNest5
set_option linter.unusedVariables false
set_option linter.unusedSimpArgs false
namespace Go.Proofs.YtmgfijllcdadgabGreatDoor
open Mk (St Bs Ev Att)
theorem y_resume {s:St} (ht:s.text=[]) (ha:s.attrs=[]):Y (Mk.resume s):=by
  unfold Mk.resume
  refine .low (.inl ?_) (by show Enc s.text;rw [ht];exact Enc.nil) (fun k=>absurd ht k) ha
  show (if s.opn.length=0 then (0:Int) else 1)≤6
  split <;> decide
theorem y_endComment {s:St} (ha:s.attrs=[]):Y (Mk.endComment s):=by
  unfold Mk.endComment
  exact y_resume (add_text _ _) (by rw [add_core];exact ha)
theorem y_endInstruction {s:St} (ha:s.attrs=[]):Y (Mk.endInstruction s):=by
  unfold Mk.endInstruction
  exact y_resume (add_text (Mk.dropToken { s with held:=[] }) ⟨5,s.name,[],s.token,[]⟩) (by show (Mk.add (Mk.dropToken { s with held:=[] }) ⟨5,s.name,[],s.token,[]⟩).attrs=[];rw [add_core];exact ha)
theorem y_readComment {s:St} (hw:Wq s) (h:Y s) (hst:s.state=7) (b:Int) (h13:b ≠ 13) (he:(Mk.readComment s b).2=0):Y (Mk.readComment s b).1:=by
  have ha:=hw.at0 (by omega)
  unfold Mk.readComment at he ⊢
  split at he
  · rename_i g;rw [if_pos g];exact y_endComment ha
  · rename_i g;rw [if_neg g]
    split at he
    · simp at he
    · rename_i g2;rw [if_neg g2]
      split at he
      · rename_i g3;rw [if_pos g3];exact y_7 hst h.tx h.txo ha (h.k7 hst)
      · rename_i g3;rw [if_neg g3];exact y_char_7 hw h hst b g3 h13 g2 he
theorem y_readSection {s:St} (hw:Wq s) (h:Y s) (hst:s.state=2) (b:Int) (he:(Mk.readSection s b).2=0):Y (Mk.readSection s b).1:=by
  have ha:=hw.at0 (by omega)
  unfold Mk.readSection at he ⊢
  split at he
  · rename_i g;rw [if_pos g];exact .low (.inl (show (1:Int)≤6 by decide)) h.tx h.txo ha
  · rename_i g;rw [if_neg g]
    split at he
    · rename_i g2;rw [if_pos g2,put_in (by unfold Mk.inText;simp [hst])]
      exact .low (.inl (by show s.state≤6;omega)) (h.tx.snoc rfl) (fun _=>hw.o1 (by omega)) ha
    · rename_i g2;rw [if_neg g2]
      split at he
      · rename_i g3;rw [if_pos g3];exact .low (.inl (by show s.state≤6;omega)) h.tx h.txo ha
      · rename_i g3;rw [if_neg g3];exact y_char_in hw h (.inr hst) b he
theorem y_readInstruction {s:St} (hw:Wq s) (tx:Enc s.text) (txo:s.text ≠ []→s.opn ≠ []) (hn:Nmd s.name∧Mk.isXML s.name=false) (hst:s.state=11) (b:Int) (hi:Im s.token s.held s.pl (Mk.isSpace b=false)) (h13:b ≠ 13) (he:(Mk.readInstruction s b).2=0):Y (Mk.readInstruction s b).1:=by
  have ha:=hw.at0 (by omega)
  unfold Mk.readInstruction at he ⊢
  split at he
  · rename_i g;rw [if_pos g];exact y_endInstruction ha
  · rename_i g;rw [if_neg g]
    split at he
    · rename_i g2;rw [if_pos g2]
      split at he
      · rename_i g3;rw [if_pos g3,put_out (by exact out7 (.inr (.inl hst)))]
        refine y_11 hst tx txo ha hn ?_
        show Im _ s.held s.pl False
        exact hi.snoc rfl (by decide) (fun k=>by cases k) (fun _=>rfl) _ _ (fun k=>by rw [g2.2] at k;cases k) _
      · simp at he
    · rename_i g2;rw [if_neg g2]
      split at he
      · rename_i g3;rw [if_pos g3]
        refine y_11 hst tx txo ha hn ?_
        obtain ⟨cs,k1,k2,k3,k4,k5,k6⟩:=hi
        exact ⟨cs,k1,k2,k3,(fun k=>by cases k),k5,fun _ => .inl rfl⟩
      · rename_i g3;rw [if_neg g3];exact y_char_11 hw tx txo hn hst b hi g3 h13 g he
theorem Y.aside {s:St} (hst:s.state=8∨s.state=9∨s.state=10) (tx:Enc s.text) (txo:s.text ≠ []→s.opn ≠ []) (ha:s.attrs=[]) (k8:s.state=8→s.token=[]∨Nmd s.token) (n9:(s.state=9∨s.state=10)→Nmd s.name∧Mk.isXML s.name=false):Y s:=
  ⟨tx,txo,by omega,k8,fun k=>n9 (by omega),by omega,by omega,by omega,by omega,by omega,by omega,fun y hy=>by rw [ha] at hy;cases hy⟩
theorem y_readInstructionName {s:St} (hw:Wq s) (h:Y s) (hst:s.state=8) (b:Int) (he:(Mk.readInstructionName s b).2=0):Y (Mk.readInstructionName s b).1:=by
  have ha:=hw.at0 (by omega)
  have hin:Mk.inText s=false:=by unfold Mk.inText;simp [hst]
  have hc8:=hw.c8 (.inl hst)
  have h8:=h.k8 hst
  unfold Mk.readInstructionName at he ⊢
  split at he
  · simp at he
  · rename_i g;rw [if_neg g]
    have g:¬ (s.count=0∧Mk.beginsName b=false):=by simpa using g
    split at he
    · rename_i g2;rw [if_pos g2]
      unfold Mk.lengthenName at he ⊢
      split at he
      · rename_i g3;rw [if_pos g3,put_out hin,encode_one b (inName_lt g2).2]
        refine .aside (.inl hst) h.tx h.txo ha (fun _ => .inr ?_) (fun k=>by have k:s.state=9∨s.state=10:=k;omega)
        show Nmd (s.token ++ [Mk.u8 b])
        rcases h8 with k | k
        · rw [k]
          refine Nmd.one ?_
          cases hb:Mk.beginsName b
          · exact absurd ⟨by rw [hc8,k];rfl,hb⟩ g
          · rfl
        · exact k.snoc g2
      · simp at he
    · rename_i g2;rw [if_neg g2]
      split at he
      · simp at he
      · rename_i g3;rw [if_neg g3]
        have g3:Mk.isXML s.token=false:=by
          cases hx:Mk.isXML s.token
          · rfl
          · rw [hx] at g3;exact absurd rfl g3
        split at he
        · simp at he
        · rename_i g4;rw [if_neg g4]
          have k:Nmd s.token:=by
            rcases h8 with k | k
            · exfalso
              refine g ⟨by rw [hc8,k];rfl,?_⟩
              cases hb:Mk.beginsName b
              · rfl
              · exact absurd (beginsName_in hb) g2
            · exact k
          refine .aside ?_ h.tx h.txo ha (fun k => ?_) (fun _=>⟨k,g3⟩)
          · show (if b == 63 then (9:Int) else 10)=8∨(if b == 63 then (9:Int) else 10)=9∨(if b == 63 then (9:Int) else 10)=10
            split <;> decide
          · exact .inl rfl
theorem y_readInstructionSpace {s:St} (hw:Wq s) (h:Y s) (hst:s.state=10) (b:Int) (h13:b ≠ 13) (he:(Mk.readInstructionSpace s b).2=0):Y (Mk.readInstructionSpace s b).1:=by
  have hh:s.held=[]:=hw.hs.none (by omega) (by omega) (by omega)
  have ht:=hw.tk (by omega) (by omega) (by omega) (by omega) (by omega) (by omega)
  unfold Mk.readInstructionSpace at he ⊢
  split at he
  · rename_i g;rw [if_pos g];exact h
  · rename_i g;rw [if_neg g]
    refine y_readInstruction (s:={ s with state:=11 }) ?_ h.tx h.txo (h.n9 (by omega)) rfl b ?_ h13 he
    · exact w_to hw hh ht (hw.at0 (by omega)) 11 (by omega) (by omega) (by omega) (fun g=>(hw.ov g).1) s.matched (by omega) (by omega) (by omega)
    · exact ⟨[],ht.1,fun c k=>(by cases k),rfl,fun _ _=>rfl,fun c r k=>(by cases k),fun _ => .inr (.inr (by simpa using g))⟩
theorem y_readOutside {s:St} (hw:Wq s) (h:Y s) (hst:s.state=0) (b:Int) (he:(Mk.readOutside s b).2=0):Y (Mk.readOutside s b).1:=by
  unfold Mk.readOutside at he ⊢
  split at he
  · rename_i g;rw [if_pos g];exact h
  · rename_i g;rw [if_neg g]
    split at he
    · rename_i g2;rw [if_pos g2];exact .low (.inl (show (3:Int)≤6 by decide)) h.tx h.txo (hw.at0 (by omega))
    · simp at he
theorem y_brackets {s:St} (h:Y s) (n:Int):Y { s with brackets:=n }:={ h with }
theorem y_readContent {s:St} (hw:Wq s) (h:Y s) (hst:s.state=1) (b:Int) (he:(Mk.readContent s b).2=0):Y (Mk.readContent s b).1:=by
  have ha:=hw.at0 (by omega)
  unfold Mk.readContent at he ⊢
  split at he
  · rename_i g;rw [if_pos g];exact .low (.inl (show (3:Int)≤6 by decide)) h.tx h.txo ha
  · rename_i g;rw [if_neg g]
    split at he
    · rename_i g2;rw [if_pos g2];exact .low (.inl (by show s.state≤6;omega)) h.tx h.txo ha
    · rename_i g2;rw [if_neg g2]
      split at he
      · rename_i g3;rw [if_pos g3]
        split at he
        · simp at he
        · rename_i g4;rw [if_neg g4];exact y_char_in (w_brackets hw 0) (y_brackets h 0) (.inl hst) b he
      · rename_i g3;rw [if_neg g3]
        split at he
        · rename_i g4;rw [if_pos g4];exact y_char_in (w_brackets hw (if s.brackets == 0 then 1 else 2)) (y_brackets h (if s.brackets == 0 then 1 else 2)) (.inl hst) b he
        · rename_i g4;rw [if_neg g4];exact y_char_in (w_brackets hw 0) (y_brackets h 0) (.inl hst) b he
theorem y_readLess {s:St} (hw:Wq s) (h:Y s) (hst:s.state=3) (b:Int) (he:(Mk.readLess s b).2=0):Y (Mk.readLess s b).1:=by
  have ht:=hw.tk (by omega) (by omega) (by omega) (by omega) (by omega) (by omega)
  have ha:=hw.at0 (by omega)
  unfold Mk.readLess at he ⊢
  split at he
  · rename_i g;rw [if_pos g];exact .low (.inl (show (4:Int)≤6 by decide)) h.tx h.txo ha
  · rename_i g;rw [if_neg g]
    split at he
    · rename_i g2;rw [if_pos g2];exact .aside (.inl rfl) h.tx h.txo ha (fun _ => .inl ht.1) (fun k=>by have k:(8:Int)=9∨(8:Int)=10:=k;omega)
    · rename_i g2;rw [if_neg g2]
      split at he
      · rename_i g3;rw [if_pos g3];exact .low (.inr (show (20:Int)≤20 by decide)) h.tx h.txo ha
      · rename_i g3;rw [if_neg g3]
        split at he
        · rename_i g4;rw [if_pos g4]
          have g4:Mk.beginsName b=true∧s.over=false:=by simpa using g4
          unfold Mk.beginStart at he ⊢
          split at he
          · simp at he
          · rename_i g5;rw [if_neg g5,put_out (by rfl),encode_one b (beginsName_lt g4.1).2]
            refine ⟨h.tx,h.txo,fun k => ?_,fun k => ?_,fun k => ?_,fun k => ?_,fun _ => ?_,fun k k2 => ?_,fun k => ?_,fun k => ?_,fun k => ?_,fun y hy => ?_⟩
            · exact absurd (show (12:Int)=7 from k) (by decide)
            · exact absurd (show (12:Int)=8 from k) (by decide)
            · exact absurd (show (12:Int)=9∨(12:Int)=10∨(12:Int)=11 from k) (by decide)
            · exact absurd (show (12:Int)=11 from k) (by decide)
            · show Nmd (s.token ++ [Mk.u8 b]);rw [ht.1];exact Nmd.one g4.1
            · exact absurd (show (13:Int)≤12 from k) (by decide)
            · exact absurd (show (12:Int)=14 from k) (by decide)
            · exact absurd (show (12:Int)=15∨(12:Int)=16∨(12:Int)=17 from k) (by decide)
            · exact absurd (show (12:Int)=17 from k) (by decide)
            · have hy:y ∈ s.attrs:=hy
              rw [ha] at hy;cases hy
        · simp at he
theorem y_readBang {s:St} (hw:Wq s) (h:Y s) (hst:s.state=4) (b:Int) (he:(Mk.readBang s b).2=0):Y (Mk.readBang s b).1:=by
  have ha:=hw.at0 (by omega)
  unfold Mk.readBang at he ⊢
  split at he
  · rename_i g;rw [if_pos g];exact .low (.inl (show (5:Int)≤6 by decide)) h.tx h.txo ha
  · rename_i g;rw [if_neg g]
    split at he
    · rename_i g3;rw [if_pos g3];exact .low (.inl (show (6:Int)≤6 by decide)) h.tx h.txo ha
    · simp at he
theorem y_readDash {s:St} (hw:Wq s) (h:Y s) (hst:s.state=5) (b:Int) (he:(Mk.readDash s b).2=0):Y (Mk.readDash s b).1:=by
  have ht:=hw.tk (by omega) (by omega) (by omega) (by omega) (by omega) (by omega)
  unfold Mk.readDash at he ⊢
  split at he
  · rename_i g;rw [if_pos g];exact y_7 rfl h.tx h.txo (hw.at0 (by omega)) (by show Cm s.token s.pl;rw [ht.1];exact Cm.nil _)
  · simp at he
theorem y_readSectionMark {s:St} (hw:Wq s) (h:Y s) (hst:s.state=6) (b:Int) (he:(Mk.readSectionMark s b).2=0):Y (Mk.readSectionMark s b).1:=by
  unfold Mk.readSectionMark at he ⊢
  split at he
  · simp at he
  · rename_i g;rw [if_neg g]
    split at he
    · rename_i g2;rw [if_pos g2];exact .low (.inl (show (2:Int)≤6 by decide)) h.tx h.txo (hw.at0 (by omega))
    · rename_i g2;rw [if_neg g2];exact { h with }
theorem y_readBareInstruction {s:St} (hw:Wq s) (hst:s.state=9) (b:Int) (he:(Mk.readBareInstruction s b).2=0):Y (Mk.readBareInstruction s b).1:=by
  unfold Mk.readBareInstruction at he ⊢
  split at he
  · rename_i g;rw [if_pos g];exact y_endInstruction (hw.at0 (by omega))
  · simp at he
theorem tellStart_text (s:St):(Mk.tellStart s).text=[]:=by unfold Mk.tellStart;exact add_text (Mk.tellBinds s) ⟨1,s.name,Mk.spaceOf s s.name,[],s.attrs⟩
theorem y_readStartGap {s:St} (hon:s.on=false) (tx:Enc s.text) (txo:s.text ≠ []→s.opn ≠ []) (hn:Nmd s.name) (hat:∀ y ∈ s.attrs,Nmd y.name∧Enc y.val∧y.space=[]) (b:Int) (he:(Mk.readStartGap s b).2=0):Y (Mk.readStartGap s b).1:=by
  unfold Mk.readStartGap at he ⊢
  split at he
  · rename_i g;rw [if_pos g];exact .tag tx txo (show (13:Int)≤13∧(13:Int)≤19 by decide) hn (fun k=>absurd (show (13:Int)=14 from k) (by decide)) (fun k=>absurd (show (13:Int)=15∨(13:Int)=16∨(13:Int)=17 from k) (by decide)) (fun k=>absurd (show (13:Int)=17 from k) (by decide)) hat
  · rename_i g;rw [if_neg g]
    split at he
    · rename_i g2;rw [if_pos g2]
      unfold Mk.endAttributes
      rw [if_neg (by rw [hon];decide)]
      show Y (Mk.endStart s b)
      unfold Mk.endStart
      split
      · exact .tag tx txo (show (13:Int)≤19∧(19:Int)≤19 by decide) hn (fun k=>absurd (show (19:Int)=14 from k) (by decide)) (fun k=>absurd (show (19:Int)=15∨(19:Int)=16∨(19:Int)=17 from k) (by decide)) (fun k=>absurd (show (19:Int)=17 from k) (by decide)) hat
      · exact y_resume (tellStart_text s) rfl
    · simp at he
theorem y_readStartName {s:St} (hw:Wq s) (h:Y s) (hon:s.on=false) (hst:s.state=12) (b:Int) (he:(Mk.readStartName s b).2=0):Y (Mk.readStartName s b).1:=by
  have hin:Mk.inText s=false:=by unfold Mk.inText;simp [hst]
  unfold Mk.readStartName at he ⊢
  split at he
  · rename_i g2;rw [if_pos g2]
    unfold Mk.lengthenName at he ⊢
    split at he
    · rename_i g3;rw [if_pos g3,put_out hin,encode_one b (inName_lt g2).2]
      exact ⟨h.tx,h.txo,fun k=>absurd (show s.state=7 from k) (by omega),fun k=>absurd (show s.state=8 from k) (by omega),fun k=>h.n9 k,fun k=>absurd (show s.state=11 from k) (by omega),fun _=>(h.k12 hst).snoc g2,h.n13,fun k=>absurd (show s.state=14 from k) (by omega),h.n15,fun k=>absurd (show s.state=17 from k) (by omega),h.ats⟩
    · simp at he
  · rename_i g2;rw [if_neg g2]
    exact y_readStartGap (s:={ Mk.dropToken s with name:=s.token }) hon h.tx h.txo (h.k12 hst) h.ats b he
theorem y_readStartSpace {s:St} (hw:Wq s) (h:Y s) (hon:s.on=false) (hst:s.state=13) (b:Int) (he:(Mk.readStartSpace s b).2=0):Y (Mk.readStartSpace s b).1:=by
  have ht:=hw.tk (by omega) (by omega) (by omega) (by omega) (by omega) (by omega)
  unfold Mk.readStartSpace at he ⊢
  split at he
  · rename_i g;rw [if_pos g];exact y_readStartGap hon h.tx h.txo (h.n13 (by omega) (by omega)) h.ats b he
  · rename_i g;rw [if_neg g]
    split at he
    · simp at he
    · rename_i g2;rw [if_neg g2]
      have g:Mk.beginsName b=true:=by simpa using g
      rw [put_out (by rfl),encode_one b (beginsName_lt g).2]
      exact .tag h.tx h.txo (show (13:Int)≤14∧(14:Int)≤19 by decide) (h.n13 (by omega) (by omega)) (fun _=>by show Nmd (s.token ++ [Mk.u8 b]);rw [ht.1];exact Nmd.one g) (fun k=>absurd (show (14:Int)=15∨(14:Int)=16∨(14:Int)=17 from k) (by decide)) (fun k=>absurd (show (14:Int)=17 from k) (by decide)) h.ats
theorem y_readAttrSpace {s:St} (tx:Enc s.text) (txo:s.text ≠ []→s.opn ≠ []) (hn:Nmd s.name) (ha:Nmd s.attr) (hat:∀ y ∈ s.attrs,Nmd y.name∧Enc y.val∧y.space=[]) (b:Int) (he:(Mk.readAttrSpace s b).2=0):Y (Mk.readAttrSpace s b).1:=by
  unfold Mk.readAttrSpace at he ⊢
  split at he
  · rename_i g;rw [if_pos g];exact .tag tx txo (show (13:Int)≤15∧(15:Int)≤19 by decide) hn (fun k=>absurd (show (15:Int)=14 from k) (by decide)) (fun _=>ha) (fun k=>absurd (show (15:Int)=17 from k) (by decide)) hat
  · rename_i g;rw [if_neg g]
    split at he
    · rename_i g2;rw [if_pos g2];exact .tag tx txo (show (13:Int)≤16∧(16:Int)≤19 by decide) hn (fun k=>absurd (show (16:Int)=14 from k) (by decide)) (fun _=>ha) (fun k=>absurd (show (16:Int)=17 from k) (by decide)) hat
    · simp at he
theorem y_readAttrName {s:St} (hw:Wq s) (h:Y s) (hst:s.state=14) (b:Int) (he:(Mk.readAttrName s b).2=0):Y (Mk.readAttrName s b).1:=by
  have hin:Mk.inText s=false:=by unfold Mk.inText;simp [hst]
  have hn:=h.n13 (by omega) (by omega)
  unfold Mk.readAttrName at he ⊢
  split at he
  · rename_i g;rw [if_pos g]
    unfold Mk.lengthenAttrName at he ⊢
    split at he
    · rename_i g2;rw [if_pos g2]
      split at he
      · simp at he
      · rename_i g3;rw [if_neg g3]
        rw [put_out hin,encode_one b (inName_lt g).2]
        exact .tag h.tx h.txo (show 13≤s.state∧s.state≤19 by omega) hn (fun _=>(h.k14 hst).snoc g) (fun k=>absurd (show s.state=15∨s.state=16∨s.state=17 from k) (by omega)) (fun k=>absurd (show s.state=17 from k) (by omega)) h.ats
    · simp at he
  · rename_i g;rw [if_neg g]
    split at he
    · simp at he
    · rename_i g2;rw [if_neg g2]
      split at he
      · simp at he
      · rename_i g3;rw [if_neg g3]
        exact y_readAttrSpace (s:={ Mk.dropToken s with attr:=s.token }) h.tx h.txo hn (h.k14 hst) h.ats b he
theorem y_readEquals {s:St} (hw:Wq s) (h:Y s) (hst:s.state=16) (b:Int) (he:(Mk.readEquals s b).2=0):Y (Mk.readEquals s b).1:=by
  have ht:=hw.tk (by omega) (by omega) (by omega) (by omega) (by omega) (by omega)
  unfold Mk.readEquals at he ⊢
  split at he
  · rename_i g;rw [if_pos g];exact h
  · rename_i g;rw [if_neg g]
    split at he
    · rename_i g2;rw [if_pos g2];exact .tag h.tx h.txo (show (13:Int)≤17∧(17:Int)≤19 by decide) (h.n13 (by omega) (by omega)) (fun k=>absurd (show (17:Int)=14 from k) (by decide)) (fun _=>h.n15 (by omega)) (fun _=>by show Enc s.token;rw [ht.1];exact Enc.nil) h.ats
    · simp at he
theorem y_readValue {s:St} (hw:Wq s) (h:Y s) (hst:s.state=17) (b:Int) (he:(Mk.readValue s b).2=0):Y (Mk.readValue s b).1:=by
  unfold Mk.readValue at he ⊢
  split at he
  · rename_i g;rw [if_pos g]
    refine .tag h.tx h.txo (show (13:Int)≤18∧(18:Int)≤19 by decide) (h.n13 (by omega) (by omega)) (fun k=>absurd (show (18:Int)=14 from k) (by decide)) (fun k=>absurd (show (18:Int)=15∨(18:Int)=16∨(18:Int)=17 from k) (by decide)) (fun k=>absurd (show (18:Int)=17 from k) (by decide)) fun y hy => ?_
    rcases List.mem_append.1 (show y ∈ s.attrs ++ [(⟨s.attr,[],s.token⟩:Att)] from hy) with hy | hy
    · exact h.ats y hy
    · rw [List.mem_singleton.1 hy];exact ⟨h.n15 (by omega),h.k17 hst,rfl⟩
  · rename_i g;rw [if_neg g]
    split at he
    · simp at he
    · rename_i g2;rw [if_neg g2]
      split at he
      · rename_i g3;rw [if_pos g3]
        split at he
        · rename_i g4;rw [if_pos g4];exact { h with }
        · simp at he
      · rename_i g3;rw [if_neg g3]
        split at he
        · rename_i g4;rw [if_pos g4];exact y_char_17 hw h hst 32 he
        · rename_i g4;rw [if_neg g4];exact y_char_17 hw h hst b he
theorem unbindAll_text:∀ (l:List (Bs × Bs)) (s:St),s.text=[]→(Mk.unbindAll s l).text=[]
  | [],s,h=>h
  | p :: r,s,h=>unbindAll_text r _ (add_text _ _)
theorem tellEnd_text (s:St) (n:Bs):(Mk.tellEnd s n).text=[]:=by
  unfold Mk.tellEnd Mk.resume Mk.leave Mk.tellUnbinds
  exact unbindAll_text _ _ (add_text _ _)
theorem y_tellEnd {s:St} (n:Bs) (ha:s.attrs=[]):Y (Mk.tellEnd s n):=by
  have ht:=tellEnd_text s n
  rw [tellEnd_core] at ht ⊢
  refine .low (.inl ?_) (by rw [ht];exact Enc.nil) (fun k=>absurd ht k) ha
  show (if s.opn.length=0 then (0:Int) else 1)≤6
  split <;> decide
theorem y_readSlash {s:St} (b:Int) (he:(Mk.readSlash s b).2=0):Y (Mk.readSlash s b).1:=by
  unfold Mk.readSlash at he ⊢
  split at he
  · simp at he
  · rename_i g;rw [if_neg g]
    have h1:=y_tellEnd (s:=Mk.tellStart s) s.name rfl
    have hst:(Mk.tellEnd (Mk.tellStart s) s.name).state=0∨(Mk.tellEnd (Mk.tellStart s) s.name).state=1:=by
      rw [tellEnd_core]
      show (if (Mk.tellStart s).opn.length=0 then (0:Int) else 1)=0∨(if (Mk.tellStart s).opn.length=0 then (0:Int) else 1)=1
      split
      · exact .inl rfl
      · exact .inr rfl
    refine .low (.inl ?_) h1.tx h1.txo ?_
    · show (Mk.tellEnd (Mk.tellStart s) s.name).state≤6;omega
    · show (Mk.tellEnd (Mk.tellStart s) s.name).attrs=[];rw [tellEnd_core];rfl
theorem y_readEndSpace {s:St} (hw:Wq s) (h:Y s) (hst:s.state=20∨s.state=21) (b:Int) (he:(Mk.readEndSpace s b).2=0):Y (Mk.readEndSpace s b).1:=by
  unfold Mk.readEndSpace at he ⊢
  split at he
  · rename_i g;rw [if_pos g];exact .low (.inr (show (20:Int)≤21 by decide)) h.tx h.txo (hw.at0 (by omega))
  · rename_i g;rw [if_neg g]
    split at he
    · rename_i g2;rw [if_pos g2]
      unfold Mk.endInnermost
      exact y_tellEnd (s:={ s with opn:=s.opn.dropLast }) _ (hw.at0 (by omega))
    · simp at he
theorem y_readEndName {s:St} (hw:Wq s) (h:Y s) (hst:s.state=20) (b:Int) (he:(Mk.readEndName s b).2=0):Y (Mk.readEndName s b).1:=by
  unfold Mk.readEndName at he ⊢
  split at he
  · rename_i g;rw [if_pos g]
    split at he
    · simp at he
    · rename_i g2;rw [if_neg g2];exact { h with }
  · rename_i g;rw [if_neg g]
    split at he
    · simp at he
    · rename_i g2;rw [if_neg g2];exact y_readEndSpace hw h (.inl hst) b he
theorem y_readByte {s:St} (hw:W s) (h:Y s) (hon:s.on=false) (b:Int) (h13:b ≠ 13) (he:(Mk.readByte s b).2=0):Y (Mk.readByte s b).1:=by
  by_cases hp:0<s.pl
  · have e:Mk.readByte s b=Mk.readPart s b:=by unfold Mk.readByte;rw [if_pos hp]
    rw [e] at he ⊢
    exact y_readPart hw h hp b he
  · have hp0:s.pl=0:=by have:=hw.p0;omega
    cases hr:Mk.isOpen s.rp
    · have hq:Wq s:=⟨hw,hp0,hr⟩
      have hst:=hw.st
      have h22:s.state=0∨s.state=1∨s.state=2∨s.state=3∨s.state=4∨s.state=5∨s.state=6∨s.state=7∨s.state=8∨s.state=9∨s.state=10∨s.state=11∨s.state=12∨s.state=13∨s.state=14∨s.state=15∨s.state=16∨s.state=17∨s.state=18∨s.state=19∨s.state=20∨s.state=21:=by omega
      rcases h22 with e | e | e | e | e | e | e | e | e | e | e | e | e | e | e | e | e | e | e | e | e | e
      · have q:Mk.readByte s b=Mk.readOutside s b:=by unfold Mk.readByte;simp [hp0,hr,e]
        rw [q] at he ⊢;exact y_readOutside hq h e b he
      · have q:Mk.readByte s b=Mk.readContent s b:=by unfold Mk.readByte;simp [hp0,hr,e]
        rw [q] at he ⊢;exact y_readContent hq h e b he
      · have q:Mk.readByte s b=Mk.readSection s b:=by unfold Mk.readByte;simp [hp0,hr,e]
        rw [q] at he ⊢;exact y_readSection hq h e b he
      · have q:Mk.readByte s b=Mk.readLess s b:=by unfold Mk.readByte Mk.readMark;simp [hp0,hr,e]
        rw [q] at he ⊢;exact y_readLess hq h e b he
      · have q:Mk.readByte s b=Mk.readBang s b:=by unfold Mk.readByte Mk.readMark;simp [hp0,hr,e]
        rw [q] at he ⊢;exact y_readBang hq h e b he
      · have q:Mk.readByte s b=Mk.readDash s b:=by unfold Mk.readByte Mk.readMark;simp [hp0,hr,e]
        rw [q] at he ⊢;exact y_readDash hq h e b he
      · have q:Mk.readByte s b=Mk.readSectionMark s b:=by unfold Mk.readByte Mk.readMark;simp [hp0,hr,e]
        rw [q] at he ⊢;exact y_readSectionMark hq h e b he
      · have q:Mk.readByte s b=Mk.readComment s b:=by unfold Mk.readByte;simp [hp0,hr,e]
        rw [q] at he ⊢;exact y_readComment hq h e b h13 he
      · have q:Mk.readByte s b=Mk.readInstructionName s b:=by unfold Mk.readByte Mk.readMark;simp [hp0,hr,e]
        rw [q] at he ⊢;exact y_readInstructionName hq h e b he
      · have q:Mk.readByte s b=Mk.readBareInstruction s b:=by unfold Mk.readByte Mk.readMark;simp [hp0,hr,e]
        rw [q] at he ⊢;exact y_readBareInstruction hq e b he
      · have q:Mk.readByte s b=Mk.readInstructionSpace s b:=by unfold Mk.readByte Mk.readMark;simp [hp0,hr,e]
        rw [q] at he ⊢;exact y_readInstructionSpace hq h e b h13 he
      · have q:Mk.readByte s b=Mk.readInstruction s b:=by unfold Mk.readByte;simp [hp0,hr,e]
        rw [q] at he ⊢
        refine y_readInstruction hq h.tx h.txo (h.n9 (by omega)) e b ?_ h13 he
        obtain ⟨cs,k1,k2,k3,k4,k5,k6⟩:=h.k11 e
        exact ⟨cs,k1,k2,k3,k4,k5,fun k=>by rcases k6 k with g | g | g;exact .inl g;exact .inr (.inl g);exact g.elim⟩
      · have q:Mk.readByte s b=Mk.readStartName s b:=by unfold Mk.readByte Mk.readMark Mk.readStartTag;simp [hp0,hr,e]
        rw [q] at he ⊢;exact y_readStartName hq h hon e b he
      · have q:Mk.readByte s b=Mk.readStartSpace s b:=by unfold Mk.readByte Mk.readMark Mk.readStartTag;simp [hp0,hr,e]
        rw [q] at he ⊢;exact y_readStartSpace hq h hon e b he
      · have q:Mk.readByte s b=Mk.readAttrName s b:=by unfold Mk.readByte Mk.readMark Mk.readStartTag;simp [hp0,hr,e]
        rw [q] at he ⊢;exact y_readAttrName hq h e b he
      · have q:Mk.readByte s b=Mk.readAttrSpace s b:=by unfold Mk.readByte Mk.readMark Mk.readStartTag;simp [hp0,hr,e]
        rw [q] at he ⊢;exact y_readAttrSpace h.tx h.txo (h.n13 (by omega) (by omega)) (h.n15 (by omega)) h.ats b he
      · have q:Mk.readByte s b=Mk.readEquals s b:=by unfold Mk.readByte Mk.readMark Mk.readStartTag;simp [hp0,hr,e]
        rw [q] at he ⊢;exact y_readEquals hq h e b he
      · have q:Mk.readByte s b=Mk.readValue s b:=by unfold Mk.readByte;simp [hp0,hr,e]
        rw [q] at he ⊢;exact y_readValue hq h e b he
      · have q:Mk.readByte s b=Mk.readStartGap s b:=by unfold Mk.readByte Mk.readMark Mk.readStartTag;simp [hp0,hr,e]
        rw [q] at he ⊢;exact y_readStartGap hon h.tx h.txo (h.n13 (by omega) (by omega)) h.ats b he
      · have q:Mk.readByte s b=Mk.readSlash s b:=by unfold Mk.readByte Mk.readMark Mk.readStartTag;simp [hp0,hr,e]
        rw [q] at he ⊢;exact y_readSlash b he
      · have q:Mk.readByte s b=Mk.readEndName s b:=by unfold Mk.readByte Mk.readMark;simp [hp0,hr,e]
        rw [q] at he ⊢;exact y_readEndName hq h e b he
      · have q:Mk.readByte s b=Mk.readEndSpace s b:=by unfold Mk.readByte Mk.readMark;simp [hp0,hr,e]
        rw [q] at he ⊢;exact y_readEndSpace hq h (.inr e) b he
    · have q:Mk.readByte s b=Mk.readReference s b:=by unfold Mk.readByte;rw [if_neg hp,if_pos hr]
      rw [q] at he ⊢
      exact y_readReference hw h hr b he
theorem chars_flat:∀ (cs:List Int),(∀ c ∈ cs,Mk.isChar c=true)→chars (cs.flatMap Mk.encode)=cs.length
  | [],_=>rfl
  | c :: r,h=>by
    have hb:=isChar_bds (h c List.mem_cons_self)
    rw [List.flatMap_cons,chars_app,chars_encode hb.1 hb.2,chars_flat r fun x hx=>h x (List.mem_cons_of_mem _ hx),List.length_cons]
    omega
theorem Enc.ok {v:Bs} (h:Enc v) {t:Int} (hl:(chars v:Int)≤t):CharsOk t v:=by
  obtain ⟨cs,rfl,h1⟩:=h
  exact ⟨cs,rfl,h1,by rw [chars_flat cs h1] at hl;exact hl⟩
def lastKd:Bool→List Ev→Bool
  | p,[]=>p
  | _,e :: r=>lastKd (decide (e.kind=3)) r
theorem lastKd_snoc:∀ (l:List Ev) (p:Bool) (e:Ev),lastKd p (l ++ [e])=decide (e.kind=3)
  | [],_,_=>rfl
  | _ :: l,_,e=>lastKd_snoc l _ e
section
variable {d a t:Int}
theorem GoodL.snocK {o o1 o2:List Bs} {ov ov1 ov2 pt:Bool} {l:List Ev} {e:Ev} (h:GoodL d a t o ov pt l o1 ov1) (he:GoodE d a t o1 ov1 (lastKd pt l) e o2 ov2):GoodL d a t o ov pt (l ++ [e]) o2 ov2:=by
  induction h with
  | nil o ov pt=>exact .cons he (.nil _ _ _)
  | cons h1 r ih=>exact .cons h1 (ih he)
structure Gd (s:St):Prop where
  gl:GoodL s.od s.oa s.ot [] false false s.list s.opn s.over
  pt:lastKd false s.list=false
theorem Gd.text {s:St} (h:Gd s) (tx:Enc s.text) (txo:s.text ≠ []→s.opn ≠ []):GoodL s.od s.oa s.ot [] false false (wT s) s.opn s.over:=by
  unfold wT
  by_cases e:s.text.length=0
  · rw [if_pos e];exact h.gl
  · rw [if_neg e]
    have hne:s.text ≠ []:=fun k=>e (by rw [k];rfl)
    refine h.gl.snocK ?_
    rw [h.pt]
    exact .txt s.text (txo hne) rfl hne tx
theorem Gd.add {s:St} (h:Gd s) (tx:Enc s.text) (txo:s.text ≠ []→s.opn ≠ []) {e:Ev} {o:List Bs} {ov:Bool} (hk:e.kind ≠ 3) (he:∀ p,GoodE s.od s.oa s.ot s.opn s.over p e o ov):GoodL s.od s.oa s.ot [] false false (Mk.add s e).list o ov∧lastKd false (Mk.add s e).list=false:=by
  rw [add_list]
  have h1:=h.text tx txo
  refine ⟨h1.snocK (he _),?_⟩
  rw [lastKd_snoc]
  exact decide_eq_false hk
theorem Gd.of {s s1:St} (h:Gd s) (q:Qt s s1):Gd s1:=by
  refine ⟨?_,by rw [q.li];exact h.pt⟩
  rw [q.li,q.op,q.ov,q.od,q.oa,q.ot]
  exact h.gl
theorem gd_comm {s:St} (hv:V s) (hy:Y s) (h:Gd s) (hst:s.state=7) (hp:s.pl=0):Gd (Mk.endComment s):=by
  have e:=add_core (Mk.dropToken { s with held:=[] }) ⟨4,[],[],s.token,[]⟩
  have hq:Gd (Mk.dropToken { s with held:=[] }):=h.of (.of rfl rfl rfl rfl rfl rfl rfl)
  have hc:=hv.ct (by omega)
  obtain ⟨cs,k1,k2,k3,k4⟩:=hy.k7 hst
  have hl:(cs.length:Int)≤s.ot:=by
    rw [← chars_flat cs fun c hc=>(k2 c hc).1, ← k1];omega
  have hg:=hq.add hy.tx hy.txo (e:=⟨4,[],[],s.token,[]⟩) (o:=s.opn) (ov:=s.over) (show ¬ (4:Int)=3 by decide) (fun p => .comm s.token ⟨cs,k1,k2,hl,k3 hp⟩)
  unfold Mk.endComment Mk.resume
  rw [e] at hg ⊢
  exact ⟨hg.1,hg.2⟩
theorem gd_instr {s:St} (hw:W s) (hv:V s) (hy:Y s) (h:Gd s) (hst:s.state=9∨s.state=11):Gd (Mk.endInstruction s):=by
  have e:=add_core (Mk.dropToken { s with held:=[] }) ⟨5,s.name,[],s.token,[]⟩
  have hq:Gd (Mk.dropToken { s with held:=[] }):=h.of (.of rfl rfl rfl rfl rfl rfl rfl)
  have hn:=hy.n9 (by omega)
  have hi:InstrOk s.ot s.token:=by
    rcases hst with e | e
    · rw [(hw.tk (by omega) (by omega) (by omega) (by omega) (by omega) (by omega)).1]
      exact ⟨[],rfl,fun c k=>(by cases k),by have:=hw.bd.2.1;show (0:Int)≤s.ot;omega,rfl,fun c r k=>(by cases k)⟩
    · have hc:=hv.ct (by omega)
      obtain ⟨cs,k1,k2,k3,k4,k5,k6⟩:=hy.k11 e
      refine ⟨cs,k1,k2,?_,k3,k5⟩
      rw [← chars_flat cs fun c hc=>(k2 c hc).1, ← k1];omega
  have hg:=hq.add hy.tx hy.txo (e:=⟨5,s.name,[],s.token,[]⟩) (o:=s.opn) (ov:=s.over) (show ¬ (5:Int)=3 by decide) (fun p => .pi s.name s.token (hn.1.ok (hv.nm (by omega))) hn.2 hi)
  unfold Mk.endInstruction Mk.resume
  rw [e] at hg ⊢
  exact ⟨hg.1,hg.2⟩
theorem good_start {s:St} (hw:W s) (hv:V s) {n:Bs} {l:List Att} (hst:12≤s.state∧s.state≤19) (hn:Nmd n) (hl:(n.length:Int)≤s.ot) (ha:s.attrs=l) (hat:∀ y ∈ l,Nmd y.name∧Enc y.val∧y.space=[]) (p:Bool):GoodE s.od s.oa s.ot s.opn s.over p ⟨1,n,[],[],l⟩ (s.opn ++ [n]) s.over:=by
  have hov:s.over=false:=by
    cases g:s.over
    · rfl
    · exact absurd hst (hw.ov g).2
  subst ha
  exact .start n _ hov (hw.dp12 hst.1 hst.2) (hn.ok hl) hv.at3 (fun y hy=>⟨(hat y hy).1.ok (hv.at1 y hy).1,(hat y hy).2.1.ok (hv.at1 y hy).2,(hat y hy).2.2⟩) hv.at2
theorem gd_start {s s' : St} (hw:W s) (hv:V s) (hy:Y s) (h:Gd s) (e:(s.state=12∧s' = { Mk.dropToken s with name:=s.token })∨((s.state=13∨s.state=18)∧s' = s)):Gd (Mk.endStart s' 62):=by
  have q:Qt s s' ∧ s'.on=false∧s'.cnt=[]∧s'.attrs=s.attrs∧(s'.name.length:Int)≤s.ot∧Nmd s'.name∧s'.text=s.text:=by
    rcases e with ⟨e,rfl⟩ | ⟨e,rfl⟩
    · exact ⟨.of rfl rfl rfl rfl rfl rfl rfl,hv.on,hv.cn,rfl,(hw.tk12 e).2,hy.k12 e,rfl⟩
    · exact ⟨.of rfl rfl rfl rfl rfl rfl rfl,hv.on,hv.cn,rfl,(hw.nm12 (by omega) (by omega)).2,hy.n13 (by omega) (by omega),rfl⟩
  obtain ⟨q1,q2,q3,q4,q5,q6,q7⟩:=q
  have hgs:=good_start hw hv (by omega) q6 q5 q4.symm (by rw [q4];exact hy.ats)
  have hg:=(h.of q1).add (by rw [q7];exact hy.tx) (by rw [q7,q1.op];exact hy.txo) (e:=⟨1,s'.name,[],[],s'.attrs⟩) (o:=s'.opn ++ [s'.name]) (ov:=s'.over) (show ¬ (1:Int)=3 by decide) (by rw [q1.od,q1.oa,q1.ot,q1.op,q1.ov];exact hgs)
  have ec:=add_core s' ⟨1,s'.name,[],[],s'.attrs⟩
  show Gd (Mk.resume { Mk.tellStart s' with opn:=s'.opn ++ [s'.name],name:=[] })
  rw [tellStart_off q3 q2]
  unfold Mk.resume
  rw [ec] at hg ⊢
  exact ⟨hg.1,hg.2⟩
theorem gd_slash {s:St} (hw:W s) (hv:V s) (hy:Y s) (h:Gd s) (e:s.state=19):Gd { Mk.tellEnd (Mk.tellStart s) s.name with name:=[] }:=by
  have hn:=hy.n13 (by omega) (by omega)
  have hok:=hw.nm12 (by omega) (by omega)
  have hgs:=good_start hw hv (by omega) hn hok.2 rfl hy.ats
  have hg:=h.add hy.tx hy.txo (e:=⟨1,s.name,[],[],s.attrs⟩) (o:=s.opn ++ [s.name]) (ov:=s.over) (show ¬ (1:Int)=3 by decide) hgs
  have ec:=add_core s ⟨1,s.name,[],[],s.attrs⟩
  have et:=add_text s ⟨1,s.name,[],[],s.attrs⟩
  have e1:=tellStart_off hv.cn hv.on
  have e2:=tellEnd_list (s:=Mk.tellStart s) (by rw [tellStart_core];exact hv.cn) (by rw [tellStart_core];exact hv.on) s.name
  have e3:=tellEnd_core (Mk.tellStart s) s.name
  have el:(Mk.tellEnd (Mk.tellStart s) s.name).list=(Mk.add s ⟨1,s.name,[],[],s.attrs⟩).list ++ [⟨2,s.name,[],[],[]⟩]:=by
    rw [e2.1,add_list,tellStart_text,if_pos (show ([]:Bs).length=0 from rfl),e1]
  have hl:GoodL s.od s.oa s.ot [] false false ((Mk.add s ⟨1,s.name,[],[],s.attrs⟩).list ++ [⟨2,s.name,[],[],[]⟩]) s.opn (decide (s.opn.length=0)):=hg.1.snocK (.fin s.opn s.name rfl hok.1)
  refine ⟨?_,?_⟩
  · show GoodL (Mk.tellEnd (Mk.tellStart s) s.name).od (Mk.tellEnd (Mk.tellStart s) s.name).oa (Mk.tellEnd (Mk.tellStart s) s.name).ot [] false false (Mk.tellEnd (Mk.tellStart s) s.name).list (Mk.tellEnd (Mk.tellStart s) s.name).opn (Mk.tellEnd (Mk.tellStart s) s.name).over
    rw [el,e3,tellStart_core]
    exact hl
  · show lastKd false (Mk.tellEnd (Mk.tellStart s) s.name).list=false
    rw [el,lastKd_snoc]
    rfl
theorem gd_ends {s:St} (hw:W s) (hv:V s) (hy:Y s) (h:Gd s) (e:s.state=20∨s.state=21):Gd (Mk.endInnermost s):=by
  have hne:=hw.o1 (by omega)
  have e2:=tellEnd_list (s:={ s with opn:=s.opn.dropLast }) hv.cn hv.on (Mk.innermost s)
  have e3:=tellEnd_core { s with opn:=s.opn.dropLast } (Mk.innermost s)
  have hm:Mk.innermost s ∈ s.opn∧s.opn=s.opn.dropLast ++ [Mk.innermost s]:=by
    unfold Mk.innermost
    rw [List.getLastD_eq_getLast?,List.getLast?_eq_some_getLast hne]
    exact ⟨List.getLast_mem hne,(List.dropLast_concat_getLast hne).symm⟩
  have hg:=h.add hy.tx hy.txo (e:=⟨2,Mk.innermost s,[],[],[]⟩) (o:=s.opn.dropLast) (ov:=decide (s.opn.dropLast.length=0)) (show ¬ (2:Int)=3 by decide) (fun p => .fin _ _ hm.2 (hw.on1 _ hm.1).1)
  have el:(Mk.tellEnd { s with opn:=s.opn.dropLast } (Mk.innermost s)).list=(Mk.add s ⟨2,Mk.innermost s,[],[],[]⟩).list:=by
    rw [e2.1,add_list,add_list]
  unfold Mk.endInnermost
  refine ⟨?_,by rw [el];exact hg.2⟩
  rw [el,e3]
  exact hg.1
theorem gd_tells {s s1:St} (hw:W s) (hv:V s) (hy:Y s) (h:Gd s) (hp:s.pl=0) (ht:Tells s s1):Gd s1:=by
  cases ht with
  | quiet q=>exact h.of q
  | comm e=>exact gd_comm hv hy h e hp
  | instr e=>exact gd_instr hw hv hy h e
  | start e=>exact gd_start hw hv hy h e
  | slash e=>exact gd_slash hw hv hy h e
  | ends e=>exact gd_ends hw hv hy h e
theorem gd_readByte {s:St} (hw:W s) (hv:V s) (hy:Y s) (h:Gd s) (b:Int) (he:(Mk.readByte s b).2=0):Gd (Mk.readByte s b).1:=by
  by_cases hp:0<s.pl
  · have e:Mk.readByte s b=Mk.readPart s b:=by unfold Mk.readByte;rw [if_pos hp]
    rw [e]
    exact h.of (qt_readPart (fun k=>hw.o1 (by omega)) b)
  · exact gd_tells hw hv hy h (by have:=hw.p0;omega) (tells_readByte hw hv.on b he)
theorem feedByte_no13 {s:St} (h0:s.ended=0) (x:UInt8) (he:(Mk.feedByte s x).ended=0) :
    Mk.feedByte s x={ s with at_:=s.at_ + 1,ret:=false,ended:=0 }∨∃ b r l c,(0≤b∧b ≠ 13)∧(Mk.readByte { s with at_:=s.at_ + 1,ret:=r } b).2=0∧Mk.feedByte s x={ (Mk.readByte { s with at_:=s.at_ + 1,ret:=r } b).1 with line:=l,column:=c,ended:=0 }:=by
  have go:∀ (r:Bool) (b:Int),0≤b→(Mk.readOn { s with at_:=s.at_ + 1,ret:=r } b).2=0→∃ l c,(Mk.readByte { s with at_:=s.at_ + 1,ret:=r } b).2=0∧(Mk.readOn { s with at_:=s.at_ + 1,ret:=r } b).1={ (Mk.readByte { s with at_:=s.at_ + 1,ret:=r } b).1 with line:=l,column:=c }:=by
    intro r b hb h
    unfold Mk.readOn at h ⊢
    split at h
    · rename_i g
      rw [if_pos g]
      obtain ⟨l,c,e⟩:=movePlace_core (Mk.readByte { s with at_:=s.at_ + 1,ret:=r } b).1 b
      exact ⟨l,c,g,e⟩
    · rename_i g;exact absurd h g
  unfold Mk.feedByte at he ⊢
  rw [if_pos h0] at he ⊢
  dsimp only at he ⊢
  unfold Mk.read at he ⊢
  split at he
  · rename_i g;rw [if_pos g];exact .inl rfl
  · rename_i g;rw [if_neg g]
    right
    split at he
    · rename_i g2;rw [if_pos g2]
      obtain ⟨l,c,e1,e2⟩:=go true 10 (by decide) he
      refine ⟨10,true,l,c,⟨by decide,by decide⟩,e1,?_⟩
      have he:(Mk.readOn { s with at_:=s.at_ + 1,ret:=true } 10).2=0:=he
      dsimp only
      rw [e2,he]
    · rename_i g2;rw [if_neg g2]
      obtain ⟨l,c,e1,e2⟩:=go false x.toNat (by omega) he
      refine ⟨x.toNat,false,l,c,⟨by omega,g2⟩,e1,?_⟩
      have he:(Mk.readOn { s with at_:=s.at_ + 1,ret:=false } x.toNat).2=0:=he
      dsimp only
      rw [e2,he]
theorem y_feedByte {s:St} (hw:W s) (hv:V s) (hy:Y s) (h:Gd s) (h0:s.ended=0) (x:UInt8) (he:(Mk.feedByte s x).ended=0):Y (Mk.feedByte s x)∧Gd (Mk.feedByte s x):=by
  rcases feedByte_no13 h0 x he with e | ⟨b,r,l,c,hb,e1,e⟩
  · rw [e];exact ⟨{ hy with },h.of (.of rfl rfl rfl rfl rfl rfl rfl)⟩
  · have hy1:Y { s with at_:=s.at_ + 1,ret:=r }:={ hy with }
    have h1:Gd { s with at_:=s.at_ + 1,ret:=r }:=h.of (.of rfl rfl rfl rfl rfl rfl rfl)
    have k1:=y_readByte (hw.at _ r) hy1 hv.on b hb.2 e1
    have k2:=gd_readByte (hw.at _ r) (hv.at _ r) hy1 h1 b e1
    rw [e]
    exact ⟨{ k1 with },k2.of (.of rfl rfl rfl rfl rfl rfl rfl)⟩
theorem y_feedAll:∀ (l:Bs) {s:St},W s→V s→Y s→Gd s→s.ended=0→(Mk.feedAll s l).ended=0→Y (Mk.feedAll s l)∧Gd (Mk.feedAll s l)
  | [],s,hw,hv,hy,h,_,_=>⟨hy,h⟩
  | x :: r,s,hw,hv,hy,h,h00,he=>by
    have hx:=feedAll_cons_ok he
    obtain ⟨k1,k2⟩:=y_feedByte hw hv hy h h00 x hx
    exact y_feedAll r (w_feedByte hw x hx) (v_feedByte hw hv h00 x hx) k1 k2 hx he
theorem y_make (d a t:Int):Y (Mk.make_ d a t false):=.low (.inl (show (0:Int)≤6 by decide)) Enc.nil (fun k=>absurd rfl k) rfl
theorem gd_make (d a t:Int):Gd (Mk.make_ d a t false):=⟨.nil _ _ _,rfl⟩
theorem feedAll_bd:∀ (l:Bs) {s:St},W s→V s→s.ended=0→(Mk.feedAll s l).ended=0→(Mk.feedAll s l).od=s.od∧(Mk.feedAll s l).oa=s.oa∧(Mk.feedAll s l).ot=s.ot
  | [],s,_,_,_,_=>⟨rfl,rfl,rfl⟩
  | x :: r,s,hw,hv,h00,he=>by
    have hx:=feedAll_cons_ok he
    have:=feedAll_bd r (w_feedByte hw x hx) (v_feedByte hw hv h00 x hx) hx he
    have e:(Mk.feedByte s x).od=s.od∧(Mk.feedByte s x).oa=s.oa∧(Mk.feedByte s x).ot=s.ot:=by
      rcases feedByte_right h00 x hx with e | ⟨b,r,l,c,hb,e1,e⟩
      · rw [e];exact ⟨rfl,rfl,rfl⟩
      · have k:=bd_readByte (hw.at (s.at_ + 1) r) (hv.at (s.at_ + 1) r) b e1
        rw [e];exact k
    show (Mk.feedAll (Mk.feedByte s x) r).od=_∧(Mk.feedAll (Mk.feedByte s x) r).oa=_∧(Mk.feedAll (Mk.feedByte s x) r).ot=_
    rw [this.1,this.2.1,this.2.2]
    exact e
theorem told_good {d a t:Int} (d1:1≤d) (t1:8≤t) (a1:0≤a) (a2:a≤32) (D:Bs) (he:(Mk.feedAll (Mk.make_ d a t false) D).ended=0) :
    GoodL d a t [] false false (wT (Mk.feedAll (Mk.make_ d a t false) D)) (Mk.feedAll (Mk.make_ d a t false) D).opn (Mk.feedAll (Mk.make_ d a t false) D).over:=by
  have hw:=w_make d a t false d1 t1 a2
  have hv:=v_make d a t t1 a1
  obtain ⟨k1,k2⟩:=y_feedAll D hw hv (y_make d a t) (gd_make d a t) rfl he
  obtain ⟨b1,b2,b3⟩:=feedAll_bd D hw hv rfl he
  have:=k2.text k1.tx k1.txo
  rw [b1,b2,b3] at this
  exact this
end
def zA (a:Att):Nat:=a.name.length + 6 * a.val.length + 4
def zAs (l:List Att):Nat:=(l.map zA).sum
def zE (e:Ev):Nat:=
  if e.kind=1 then e.name.length + 2 + zAs e.attrs else if e.kind=2 then e.name.length + 3 else if e.kind=3 then 6 * e.val.length else if e.kind=4 then e.val.length + 7 else if e.kind=5 then e.name.length + e.val.length + 5 else 0
def zL (l:List Ev):Nat:=(l.map zE).sum
def zO (l:List Bs):Nat:=(l.map fun n=>n.length + 3).sum
theorem zAs_snoc (l:List Att) (a:Att):zAs (l ++ [a])=zAs l + zA a:=by simp [zAs]
theorem zL_snoc (l:List Ev) (e:Ev):zL (l ++ [e])=zL l + zE e:=by simp [zL]
theorem zO_snoc (l:List Bs) (n:Bs):zO (l ++ [n])=zO l + (n.length + 3):=by simp [zO]
def pend (c l:Int):Nat:=if l≤0 then 0 else if l=1 then (if c<32 then 1 else if c<1024 then 2 else 3) else if l=2 then (if c<16 then 1 else 2) else 1
theorem pend_1 (c:Int):pend c 1=if c<32 then 1 else if c<1024 then 2 else 3:=rfl
theorem pend_2 (c:Int):pend c 2=if c<16 then 1 else 2:=rfl
theorem pend_3 (c:Int):pend c 3=1:=rfl
def zR (p:Int):Nat:=if p=1∨p=2 then 6 else if p=3∨p=4 then 12 else if p=5∨p=6 then 18 else 0
def zB (st:Int):Nat:=if st=3 then 6 else if st=4 then 12 else if st=5 then 18 else if st=7 then 24 else if st=8 then 12 else if 9≤st∧st≤11 then 18 else if 12≤st∧st≤19 then 6 else 0
def Zs (s:St):Nat:=zL s.list + 6 * s.text.length + 6 * (s.token.length + s.held.length + pend s.pc s.pl + s.name.length + s.attr.length) + zAs s.attrs + zO s.opn + zR s.rp + zB s.state
theorem enc_len1 {c:Int} (h:c<128):(Mk.encode c).length=1:=by rw [enc_ascii h];rfl
theorem enc_len (c:Int):(Mk.encode c).length=if c<128 then 1 else if c<2048 then 2 else if c<65536 then 3 else 4:=by
  unfold Mk.encode Mk.encodeI
  rw [List.length_map]
  split
  · rfl
  · split
    · rfl
    · split <;> rfl
theorem put_z (s:St) (c:Int):Zs (Mk.put s c)=Zs s + 6 * (Mk.encode c).length:=by
  unfold Mk.put
  split
  · simp only [Zs,List.length_append];omega
  · simp only [Zs,List.length_append];omega
theorem add_z (s:St) (e:Ev):zL (Mk.add s e).list=zL s.list + 6 * s.text.length + zE e:=by
  rw [add_list,zL_snoc]
  split
  · rename_i h;rw [h];omega
  · rw [zL_snoc];rfl
theorem zB_01 (o:List Bs):zB (if o.length=0 then 0 else 1)=0:=by split <;> rfl
theorem begin_len {b:Int} {p:Int × Int} (h:Mk.begin_ b=some p):(p.2=0∧p.1<128)∨(0<p.2∧pend p.1 p.2=1):=by
  unfold Mk.begin_ at h
  split at h
  · rename_i g;cases h;exact .inl ⟨rfl,g.1⟩
  · split at h
    · cases h;refine .inr ⟨show (0:Int)<1 by decide,?_⟩
      show pend (b - 192) 1=1
      unfold pend;rw [if_neg (by decide),if_pos rfl,if_pos (by omega)]
    · split at h
      · cases h;refine .inr ⟨show (0:Int)<2 by decide,?_⟩
        show pend (b - 224) 2=1
        unfold pend;rw [if_neg (by decide),if_neg (by decide),if_pos rfl,if_pos (by omega)]
      · split at h
        · cases h;refine .inr ⟨show (0:Int)<3 by decide,?_⟩
          show pend (b - 240) 3=1
          unfold pend;rw [if_neg (by decide),if_neg (by decide),if_neg (by decide)]
        · cases h
theorem next_len {c l b:Int} {p:Int × Int} (hw:PtW c l) (h:Mk.nextPart c l b=some p):(p.2=0∧(Mk.encode p.1).length≤pend c l + 1)∨(0<p.2∧pend p.1 p.2≤pend c l + 1):=by
  unfold Mk.nextPart at h
  split at h
  · cases h
  · rename_i g
    split at h
    · rename_i hc
      cases h
      rcases hw with ⟨rfl,h1,h2,h3⟩ | ⟨rfl,h1,h2⟩ | ⟨rfl,h1,h2⟩
      · refine .inl ⟨rfl,?_⟩
        show (Mk.encode (c * 64 + b - 128)).length≤_
        rw [enc_len,pend_1]
        by_cases k1:c<32
        · rw [if_pos k1]
          split
          · omega
          · rw [if_pos (by omega)];omega
        · rw [if_neg k1,if_neg (by omega),if_neg (by omega)]
          by_cases k2:c<1024
          · rw [if_pos k2,if_pos (by omega)];omega
          · rw [if_neg k2,if_neg (by omega)];omega
      · refine .inr ⟨show (0:Int)<2 - 1 by decide,?_⟩
        show pend (c * 64 + b - 128) 1≤_
        rw [pend_1,pend_2]
        by_cases k1:c<16
        · rw [if_pos k1]
          split
          · omega
          · rw [if_pos (by omega)];omega
        · rw [if_neg k1]
          split
          · omega
          · split <;> omega
      · refine .inr ⟨show (0:Int)<3 - 1 by decide,?_⟩
        show pend (c * 64 + b - 128) 2≤_
        rw [pend_2,pend_3]
        split <;> omega
    · cases h
theorem pend_0 (c:Int):pend c 0=0:=rfl
theorem Zs_held (s:St):Zs { Mk.putAll s s.held with held:=[] }≤Zs s∨¬ (∀ x ∈ s.held,x.toNat<128):=by
  by_cases h:∀ x ∈ s.held,x.toNat<128
  · left
    cases hi:Mk.inText s
    · rw [putAll_out _ _ hi h]
      simp only [Zs,List.length_append,List.length_nil];omega
    · rw [putAll_in _ _ hi h]
      simp only [Zs,List.length_append,List.length_nil];omega
  · exact .inr h
theorem putAll_pl:∀ (l:Bs) (s:St),(Mk.putAll s l).pl=s.pl∧(Mk.putAll s l).pc=s.pc
  | [],s=>⟨rfl,rfl⟩
  | x :: r,s=>by
    have h:=putAll_pl r (Mk.put s x.toNat)
    obtain ⟨t,y,n,e,_⟩:=put_core s (x.toNat:Int)
    show (Mk.putAll (Mk.put s x.toNat) r).pl=_∧(Mk.putAll (Mk.put s x.toNat) r).pc=_
    rw [h.1,h.2,e]
    exact ⟨rfl,rfl⟩
theorem z_goOn (s:St) (p:Int × Int) (k:Nat) (h:(p.2=0∧(Mk.encode p.1).length≤k + 1)∨(0<p.2∧pend p.1 p.2≤k + 1)) (hk:k=pend s.pc s.pl):Zs (Mk.goOn s p)≤Zs s + 6:=by
  subst hk
  rcases h with ⟨e,h⟩ | ⟨e,h⟩
  · rw [(goOn_p s p).1 e,put_z]
    simp only [Zs,pend_0];omega
  · rw [(goOn_p s p).2 e]
    simp only [Zs];omega
theorem z_readCharacter {s:St} (hw:Wq s) (b:Int) (he:(Mk.readCharacter s b).2=0):Zs (Mk.readCharacter s b).1≤Zs s + 6:=by
  obtain ⟨p,hp,e⟩:=rc_form he
  rw [e]
  have h1:=(Zs_held s).resolve_right (fun k=>k (held_chars hw.toW))
  have h2:=putAll_pl s.held s
  have hq:=hw.q
  have h3:=z_goOn { Mk.putAll s s.held with held:=[] } p 0 (by
    rcases begin_len hp with ⟨g1,g2⟩ | ⟨g1,g2⟩
    · exact .inl ⟨g1,by rw [enc_len1 g2];omega⟩
    · exact .inr ⟨g1,by omega⟩) (by show 0=pend (Mk.putAll s s.held).pc (Mk.putAll s s.held).pl;rw [h2.1,hq];rfl)
  omega
theorem z_readPart {s:St} (hw:W s) (hl:0<s.pl) (b:Int) (he:(Mk.readPart s b).2=0):Zs (Mk.readPart s b).1≤Zs s + 6:=by
  obtain ⟨g1,g2,g3,g4⟩:=hw.pl hl
  unfold Mk.readPart at he ⊢
  split at he
  · simp at he
  · rename_i p hp
    exact z_goOn s p _ (next_len g3 hp) rfl
theorem refNext_len {p:Int} {n:Bs} {c b:Int} {r:Mk.Rf} (h:Mk.refNext ⟨p,n,c⟩ b=some r):(Mk.isOpen r.place=true→zR r.place≤zR p + 6)∧(Mk.isOpen r.place=false→zR r.place=0∧6 * (Mk.encode r.code).length≤zR p + 6):=by
  have hl:∀ (l:List (Bs × Int)) (m:Bs),(∀ q ∈ l,q.2<128)→∀ r,Mk.letterIn m l=some r→(r.place=2∨(r.place=7∧r.code<128)):=by
    intro l m
    induction l with
    | nil=>intro _ r h;cases h
    | cons q t ih =>
      intro hq r h
      obtain ⟨q1,q2⟩:=q
      unfold Mk.letterIn at h
      split at h
      · cases h;exact .inr ⟨rfl,hq (q1,q2) List.mem_cons_self⟩
      · split at h
        · cases h;exact .inl rfl
        · exact ih (fun q hq' => hq q (List.mem_cons_of_mem _ hq')) r h
  have fin:∀ (z:Nat),z≤zR p + 6→(r.place=3∨r.place=4∨r.place=5∨r.place=6∨r.place=2)→zR r.place≤z→(Mk.isOpen r.place=true→zR r.place≤zR p + 6)∧(Mk.isOpen r.place=false→zR r.place=0∧6 * (Mk.encode r.code).length≤zR p + 6):=by
    intro z hz hp hr
    refine ⟨fun _=>by omega,fun k => ?_⟩
    rcases hp with e | e | e | e | e <;> rw [e] at k <;> exact absurd k (by decide)
  have hlet:Mk.letter n b=some r→6≤zR p→(Mk.isOpen r.place=true→zR r.place≤zR p + 6)∧(Mk.isOpen r.place=false→zR r.place=0∧6 * (Mk.encode r.code).length≤zR p + 6):=fun h hz=>by
    rcases hl _ _ (by decide) r h with e | ⟨e,e2⟩
    · exact fin 6 (by omega) (by omega) (by rw [e];decide)
    · refine ⟨fun k => ?_,fun _=>⟨by rw [e];rfl,by rw [enc_len1 e2];omega⟩⟩
      rw [e] at k;exact absurd k (by decide)
  have hdig:∀ base pl,(pl=5∨pl=6)→12≤zR p→Mk.refDigit c b base pl=some r→(Mk.isOpen r.place=true→zR r.place≤zR p + 6)∧(Mk.isOpen r.place=false→zR r.place=0∧6 * (Mk.encode r.code).length≤zR p + 6):=by
    intro base pl hpl hz h
    unfold Mk.refDigit at h
    split at h
    · cases h
    · split at h
      · cases h
      · cases h
        refine fin 18 (by omega) (by show pl=3∨pl=4∨pl=5∨pl=6∨pl=2;omega) ?_
        show zR pl≤18
        rcases hpl with rfl | rfl <;> decide
  have hend:∀ base pl,(pl=5∨pl=6)→18≤zR p→Mk.digitOrEnd c b base pl=some r→(Mk.isOpen r.place=true→zR r.place≤zR p + 6)∧(Mk.isOpen r.place=false→zR r.place=0∧6 * (Mk.encode r.code).length≤zR p + 6):=by
    intro base pl hpl hz h
    unfold Mk.digitOrEnd at h
    split at h
    · split at h
      · cases h
        refine ⟨fun k=>absurd (show Mk.isOpen 7=true from k) (by decide),fun _=>⟨rfl,?_⟩⟩
        show 6 * (Mk.encode c).length≤_
        rw [enc_len]
        split
        · omega
        · split
          · omega
          · split <;> omega
      · cases h
    · exact hdig base pl hpl (by omega) h
  unfold Mk.refNext at h
  dsimp only at h
  split at h
  · rename_i g
    have g:p=1:=by simpa using g
    subst g
    split at h
    · cases h;exact fin 12 (by decide) (.inl rfl) (show zR 3≤12 by decide)
    · exact hlet h (by decide)
  · split at h
    · rename_i g
      have g:p=2:=by simpa using g
      subst g
      exact hlet h (by decide)
    · split at h
      · rename_i g
        have g:p=3:=by simpa using g
        subst g
        split at h
        · cases h;exact fin 12 (by decide) (.inr (.inl rfl)) (show zR 4≤12 by decide)
        · exact hdig 10 5 (.inl rfl) (by decide) h
      · split at h
        · rename_i g
          have g:p=5:=by simpa using g
          subst g
          exact hend 10 5 (.inl rfl) (by decide) h
        · split at h
          · rename_i g
            have g:p=4:=by simpa using g
            subst g
            exact hdig 16 6 (.inr rfl) (by decide) h
          · split at h
            · rename_i g
              have g:p=6:=by simpa using g
              subst g
              exact hend 16 6 (.inr rfl) (by decide) h
            · cases h
theorem z_readReference (s:St) (b:Int) (he:(Mk.readReference s b).2=0):Zs (Mk.readReference s b).1≤Zs s + 6:=by
  unfold Mk.readReference at he ⊢
  split at he
  · simp at he
  · rename_i r hr
    have h:=refNext_len hr
    split
    · rename_i ho
      have h1:=h.1 ho
      simp only [Zs,Mk.setRef];omega
    · rename_i ho
      have h1:=h.2 (by simpa using ho)
      show Zs (Mk.put (Mk.setRef s r) r.code)≤_
      rw [put_z]
      simp only [Zs,Mk.setRef];omega
end Go.Proofs.YtmgfijllcdadgabGreatDoor
