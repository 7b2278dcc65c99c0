/- Cn5, Wr5, Blt1, Blt2, Blt3 -/
import Derived.Test.YtmgfijllcdadgabGreatDoorPCCn2
import Derived.Test.YtmgfijllcdadgabGreatDoorPCWr2
set_option linter.unusedVariables false
set_option linter.unusedSimpArgs false
namespace Go.Proofs.YtmgfijllcdadgabGreatDoor
open Mk (St Bs Ev Att)
theorem z_resume {s:St} {k:Nat} (h:zL s.list + 6 * s.text.length + 6 * (s.token.length + s.held.length + pend s.pc s.pl + s.name.length + s.attr.length) + zAs s.attrs + zO s.opn + zR s.rp≤k):Zs (Mk.resume s)≤k:=by
  unfold Mk.resume Zs
  dsimp only
  rw [zB_01]
  omega
theorem zE_4 (v:Bs):zE ⟨4,[],[],v,[]⟩=v.length + 7:=rfl
theorem zE_5 (n v:Bs):zE ⟨5,n,[],v,[]⟩=n.length + v.length + 5:=rfl
theorem zE_2 (n sp:Bs):zE ⟨2,n,sp,[],[]⟩=n.length + 3:=rfl
theorem zE_1 (n sp:Bs) (l:List Att):zE ⟨1,n,sp,[],l⟩=n.length + 2 + zAs l:=rfl
theorem z_endComment {s:St} (hst:s.state=7):Zs (Mk.endComment s)≤Zs s + 6:=by
  have h1:=add_z (Mk.dropToken { s with held:=[] }) ⟨4,[],[],s.token,[]⟩
  have h2:=add_text (Mk.dropToken { s with held:=[] }) ⟨4,[],[],s.token,[]⟩
  have e:=add_core (Mk.dropToken { s with held:=[] }) ⟨4,[],[],s.token,[]⟩
  unfold Mk.endComment
  refine z_resume ?_
  rw [h1,h2,e,zE_4]
  simp only [Zs,Mk.dropToken,hst,List.length_nil]
  have:zB 7=24:=rfl
  omega
theorem z_endInstruction {s:St} (hst:s.state=9∨s.state=11):Zs (Mk.endInstruction s)≤Zs s + 6:=by
  have h1:=add_z (Mk.dropToken { s with held:=[] }) ⟨5,s.name,[],s.token,[]⟩
  have h2:=add_text (Mk.dropToken { s with held:=[] }) ⟨5,s.name,[],s.token,[]⟩
  have e:=add_core (Mk.dropToken { s with held:=[] }) ⟨5,s.name,[],s.token,[]⟩
  unfold Mk.endInstruction
  refine z_resume ?_
  dsimp only
  rw [h1,h2,e,zE_5]
  have:zB s.state=18:=by rcases hst with e | e <;> rw [e] <;> rfl
  simp only [Zs,Mk.dropToken,List.length_nil,this]
  omega
theorem z_readComment {s:St} (hw:Wq s) (hst:s.state=7) (b:Int) (he:(Mk.readComment s b).2=0):Zs (Mk.readComment s b).1≤Zs s + 6:=by
  unfold Mk.readComment at he ⊢
  split at he
  · rename_i g;rw [if_pos g];exact z_endComment hst
  · rename_i g;rw [if_neg g]
    split at he
    · simp at he
    · rename_i g2;rw [if_neg g2]
      split at he
      · rename_i g3;rw [if_pos g3];simp only [Zs,List.length_append,List.length_cons,List.length_nil];omega
      · rename_i g3;rw [if_neg g3];exact z_readCharacter hw b he
theorem z_readSection {s:St} (hw:Wq s) (hst:s.state=2) (b:Int) (he:(Mk.readSection s b).2=0):Zs (Mk.readSection s b).1≤Zs s + 6:=by
  unfold Mk.readSection at he ⊢
  split at he
  · rename_i g;rw [if_pos g]
    have h1:zB 1=0:=rfl
    simp only [Zs,List.length_nil,h1];omega
  · rename_i g;rw [if_neg g]
    split at he
    · rename_i g2;rw [if_pos g2,put_z,enc_len1 (by decide)];omega
    · rename_i g2;rw [if_neg g2]
      split at he
      · rename_i g3;rw [if_pos g3];simp only [Zs,List.length_append,List.length_cons,List.length_nil];omega
      · rename_i g3;rw [if_neg g3];exact z_readCharacter hw b he
theorem z_readInstruction {s:St} (hw:Wq s) (hst:s.state=11) (b:Int) (he:(Mk.readInstruction s b).2=0):Zs (Mk.readInstruction s b).1≤Zs s + 6:=by
  unfold Mk.readInstruction at he ⊢
  split at he
  · rename_i g;rw [if_pos g];exact z_endInstruction (.inr hst)
  · rename_i g;rw [if_neg g]
    split at he
    · rename_i g2;rw [if_pos g2]
      split at he
      · rename_i g3;rw [if_pos g3,put_z,enc_len1 (by decide)];omega
      · simp at he
    · rename_i g2;rw [if_neg g2]
      split at he
      · rename_i g3;rw [if_pos g3];simp only [Zs,List.length_cons,List.length_nil];omega
      · rename_i g3;rw [if_neg g3];exact z_readCharacter hw b he
theorem z_name1 (s:St) (b:Int) (h:Mk.inName b=true):Zs (Mk.put s b)≤Zs s + 6:=by rw [put_z,enc_len1 (inName_lt h).2];omega
theorem z_readInstructionName {s:St} (hst:s.state=8) (b:Int) (he:(Mk.readInstructionName s b).2=0):Zs (Mk.readInstructionName s b).1≤Zs s + 6:=by
  unfold Mk.readInstructionName at he ⊢
  split at he
  · simp at he
  · rename_i g;rw [if_neg g]
    split at he
    · rename_i g2;rw [if_pos g2]
      unfold Mk.lengthenName at he ⊢
      split at he
      · rename_i g3;rw [if_pos g3];exact z_name1 s b g2
      · simp at he
    · rename_i g2;rw [if_neg g2]
      split at he
      · simp at he
      · rename_i g3;rw [if_neg g3]
        split at he
        · simp at he
        · rename_i g4;rw [if_neg g4]
          have h1:zB (if b == 63 then 9 else 10)=18:=by split <;> rfl
          have h2:zB 8=12:=rfl
          simp only [Zs,Mk.dropToken,hst,List.length_nil,h1,h2];omega
theorem z_readInstructionSpace {s:St} (hw:Wq s) (hst:s.state=10) (b:Int) (he:(Mk.readInstructionSpace s b).2=0):Zs (Mk.readInstructionSpace s b).1≤Zs s + 6:=by
  have hh:s.held=[]:=hw.hs.none (by omega) (by omega) (by omega)
  have ht:=hw.tk (by omega) (by omega) (by omega) (by omega) (by omega) (by omega)
  unfold Mk.readInstructionSpace at he ⊢
  split at he
  · rename_i g;rw [if_pos g];exact Nat.le_add_right _ _
  · rename_i g;rw [if_neg g]
    have h1:=z_readInstruction (s:={ s with state:=11 }) (w_to hw hh ht (hw.at0 (by omega)) 11 (by omega) (by omega) (by omega) (fun g=>(hw.ov g).1) s.matched (by omega) (by omega) (by omega)) rfl b he
    have h2:Zs { s with state:=11 }=Zs s:=by
      have h1:zB 11=18:=rfl
      have h2:zB 10=18:=rfl
      simp only [Zs,hst,h1,h2]
    omega
theorem z_to (s:St) (st m:Int) (h:zB st≤zB s.state + 6):Zs { s with state:=st,matched:=m }≤Zs s + 6:=by simp only [Zs];omega
theorem z_readOutside {s:St} (hst:s.state=0) (b:Int) (he:(Mk.readOutside s b).2=0):Zs (Mk.readOutside s b).1≤Zs s + 6:=by
  unfold Mk.readOutside at he ⊢
  split at he
  · rename_i g;rw [if_pos g];exact Nat.le_add_right _ _
  · rename_i g;rw [if_neg g]
    split at he
    · rename_i g2;rw [if_pos g2];exact z_to s 3 s.matched (by rw [hst];decide)
    · simp at he
theorem z_readContent {s:St} (hw:Wq s) (hst:s.state=1) (b:Int) (he:(Mk.readContent s b).2=0):Zs (Mk.readContent s b).1≤Zs s + 6:=by
  unfold Mk.readContent at he ⊢
  split at he
  · rename_i g;rw [if_pos g];exact z_to { s with brackets:=0 } 3 s.matched (by show zB 3≤zB s.state + 6;rw [hst];decide)
  · rename_i g;rw [if_neg g]
    split at he
    · rename_i g2;rw [if_pos g2]
      have h1:zR 1=6:=rfl
      simp only [Zs,Mk.setRef,h1];omega
    · rename_i g2;rw [if_neg g2]
      split at he
      · rename_i g3;rw [if_pos g3]
        split at he
        · simp at he
        · rename_i g4;rw [if_neg g4];exact z_readCharacter (w_brackets hw 0) b he
      · rename_i g3;rw [if_neg g3]
        split at he
        · rename_i g4;rw [if_pos g4];exact z_readCharacter (w_brackets hw (if s.brackets == 0 then 1 else 2)) b he
        · rename_i g4;rw [if_neg g4];exact z_readCharacter (w_brackets hw 0) b he
theorem z_readLess {s:St} (hst:s.state=3) (b:Int) (he:(Mk.readLess s b).2=0):Zs (Mk.readLess s b).1≤Zs s + 6:=by
  unfold Mk.readLess at he ⊢
  split at he
  · rename_i g;rw [if_pos g];exact z_to s 4 s.matched (by rw [hst];decide)
  · rename_i g;rw [if_neg g]
    split at he
    · rename_i g2;rw [if_pos g2];exact z_to s 8 s.matched (by rw [hst];decide)
    · rename_i g2;rw [if_neg g2]
      split at he
      · rename_i g3;rw [if_pos g3];exact z_to s 20 0 (by rw [hst];decide)
      · rename_i g3;rw [if_neg g3]
        split at he
        · rename_i g4;rw [if_pos g4]
          have g4:Mk.beginsName b=true∧s.over=false:=by simpa using g4
          unfold Mk.beginStart at he ⊢
          split at he
          · simp at he
          · rename_i g5;rw [if_neg g5]
            have h1:=z_name1 { s with state:=12 } b (beginsName_in g4.1)
            have h2:Zs { s with state:=12 }=Zs s:=by
              have h1:zB 12=6:=rfl
              have h2:zB 3=6:=rfl
              simp only [Zs,hst,h1,h2]
            dsimp only
            omega
        · simp at he
theorem z_readBang {s:St} (hst:s.state=4) (b:Int) (he:(Mk.readBang s b).2=0):Zs (Mk.readBang s b).1≤Zs s + 6:=by
  unfold Mk.readBang at he ⊢
  split at he
  · rename_i g;rw [if_pos g];exact z_to s 5 s.matched (by rw [hst];decide)
  · rename_i g;rw [if_neg g]
    split at he
    · rename_i g3;rw [if_pos g3];exact z_to s 6 0 (by rw [hst];decide)
    · simp at he
theorem z_readDash {s:St} (hst:s.state=5) (b:Int) (he:(Mk.readDash s b).2=0):Zs (Mk.readDash s b).1≤Zs s + 6:=by
  unfold Mk.readDash at he ⊢
  split at he
  · rename_i g;rw [if_pos g];exact z_to s 7 s.matched (by rw [hst];decide)
  · simp at he
theorem z_readSectionMark {s:St} (hst:s.state=6) (b:Int) (he:(Mk.readSectionMark s b).2=0):Zs (Mk.readSectionMark s b).1≤Zs s + 6:=by
  unfold Mk.readSectionMark at he ⊢
  split at he
  · simp at he
  · rename_i g;rw [if_neg g]
    split at he
    · rename_i g2;rw [if_pos g2];exact z_to s 2 (s.matched + 1) (by rw [hst];decide)
    · rename_i g2;rw [if_neg g2];exact Nat.le_add_right _ _
theorem z_readBareInstruction {s:St} (hst:s.state=9) (b:Int) (he:(Mk.readBareInstruction s b).2=0):Zs (Mk.readBareInstruction s b).1≤Zs s + 6:=by
  unfold Mk.readBareInstruction at he ⊢
  split at he
  · rename_i g;rw [if_pos g];exact z_endInstruction (.inl hst)
  · simp at he
theorem zB_tag {st:Int} (h:12≤st∧st≤19):zB st=6:=by
  unfold zB
  rw [if_neg (by omega),if_neg (by omega),if_neg (by omega),if_neg (by omega),if_neg (by omega),if_neg (by omega),if_pos h]
theorem z_readStartGap {s:St} (hon:s.on=false) (hcn:s.cnt=[]) (hst:12≤s.state∧s.state≤19) (b:Int) (he:(Mk.readStartGap s b).2=0):Zs (Mk.readStartGap s b).1≤Zs s + 6:=by
  unfold Mk.readStartGap at he ⊢
  split at he
  · rename_i g;rw [if_pos g];exact z_to s 13 s.matched (by rw [zB_tag hst];decide)
  · rename_i g;rw [if_neg g]
    split at he
    · rename_i g2;rw [if_pos g2]
      unfold Mk.endAttributes
      rw [if_neg (by rw [hon];decide)]
      show Zs (Mk.endStart s b)≤_
      unfold Mk.endStart
      split
      · exact z_to s 19 s.matched (by rw [zB_tag hst];decide)
      · have h1:=add_z s ⟨1,s.name,[],[],s.attrs⟩
        have h2:=add_text s ⟨1,s.name,[],[],s.attrs⟩
        have e:=add_core s ⟨1,s.name,[],[],s.attrs⟩
        rw [tellStart_off hcn hon]
        refine z_resume ?_
        dsimp only
        rw [h1,h2,e,zE_1,zO_snoc]
        have h3:zAs []=0:=rfl
        simp only [Zs,zB_tag hst,List.length_nil,h3]
        omega
    · simp at he
theorem z_readStartName {s:St} (hv:V s) (hst:s.state=12) (b:Int) (he:(Mk.readStartName s b).2=0):Zs (Mk.readStartName s b).1≤Zs s + 6:=by
  unfold Mk.readStartName at he ⊢
  split at he
  · rename_i g2;rw [if_pos g2]
    unfold Mk.lengthenName at he ⊢
    split at he
    · rename_i g3;rw [if_pos g3];exact z_name1 s b g2
    · simp at he
  · rename_i g2;rw [if_neg g2]
    have h1:=z_readStartGap (s:={ Mk.dropToken s with name:=s.token }) hv.on hv.cn (by show 12≤s.state∧s.state≤19;omega) b he
    have h2:Zs { Mk.dropToken s with name:=s.token }≤Zs s:=by simp only [Zs,Mk.dropToken,List.length_nil];omega
    omega
theorem z_readStartSpace {s:St} (hv:V s) (hst:s.state=13) (b:Int) (he:(Mk.readStartSpace s b).2=0):Zs (Mk.readStartSpace s b).1≤Zs s + 6:=by
  unfold Mk.readStartSpace at he ⊢
  split at he
  · rename_i g;rw [if_pos g];exact z_readStartGap hv.on hv.cn (by omega) b he
  · rename_i g;rw [if_neg g]
    split at he
    · simp at he
    · rename_i g2;rw [if_neg g2]
      have g:Mk.beginsName b=true:=by simpa using g
      have h1:=z_name1 { s with state:=14 } b (beginsName_in g)
      have h2:Zs { s with state:=14 }=Zs s:=by
        have h1:zB 14=6:=rfl
        have h2:zB 13=6:=rfl
        simp only [Zs,hst,h1,h2]
      dsimp only
      omega
theorem z_readAttrSpace {s:St} (hst:12≤s.state∧s.state≤19) (b:Int) (he:(Mk.readAttrSpace s b).2=0):Zs (Mk.readAttrSpace s b).1≤Zs s + 6:=by
  unfold Mk.readAttrSpace at he ⊢
  split at he
  · rename_i g;rw [if_pos g];exact z_to s 15 s.matched (by rw [zB_tag hst];decide)
  · rename_i g;rw [if_neg g]
    split at he
    · rename_i g2;rw [if_pos g2];exact z_to s 16 s.matched (by rw [zB_tag hst];decide)
    · simp at he
theorem z_readAttrName {s:St} (hst:s.state=14) (b:Int) (he:(Mk.readAttrName s b).2=0):Zs (Mk.readAttrName s b).1≤Zs s + 6:=by
  unfold Mk.readAttrName at he ⊢
  split at he
  · rename_i g;rw [if_pos g]
    unfold Mk.lengthenAttrName at he ⊢
    split at he
    · rename_i g2;rw [if_pos g2]
      split at he
      · simp at he
      · rename_i g3;rw [if_neg g3];exact z_name1 s b g
    · simp at he
  · rename_i g;rw [if_neg g]
    split at he
    · simp at he
    · rename_i g2;rw [if_neg g2]
      split at he
      · simp at he
      · rename_i g3;rw [if_neg g3]
        have h1:=z_readAttrSpace (s:={ Mk.dropToken s with attr:=s.token }) (by show 12≤s.state∧s.state≤19;omega) b he
        have h2:Zs { Mk.dropToken s with attr:=s.token }≤Zs s:=by simp only [Zs,Mk.dropToken,List.length_nil];omega
        omega
theorem z_readEquals {s:St} (hst:s.state=16) (b:Int) (he:(Mk.readEquals s b).2=0):Zs (Mk.readEquals s b).1≤Zs s + 6:=by
  unfold Mk.readEquals at he ⊢
  split at he
  · rename_i g;rw [if_pos g];exact Nat.le_add_right _ _
  · rename_i g;rw [if_neg g]
    split at he
    · rename_i g2;rw [if_pos g2];exact z_to { s with quote:=b } 17 s.matched (by show zB 17≤zB s.state + 6;rw [hst];decide)
    · simp at he
theorem z_readValue {s:St} (hw:Wq s) (hst:s.state=17) (b:Int) (he:(Mk.readValue s b).2=0):Zs (Mk.readValue s b).1≤Zs s + 6:=by
  unfold Mk.readValue at he ⊢
  split at he
  · rename_i g;rw [if_pos g]
    have h1:zB 17=6:=rfl
    have h2:zB 18=6:=rfl
    have h3:zA ⟨s.attr,[],s.token⟩=s.attr.length + 6 * s.token.length + 4:=rfl
    simp only [Zs,Mk.endValue,Mk.dropToken,hst,List.length_nil,zAs_snoc,h1,h2,h3]
    omega
  · rename_i g;rw [if_neg g]
    split at he
    · simp at he
    · rename_i g2;rw [if_neg g2]
      split at he
      · rename_i g3;rw [if_pos g3]
        split at he
        · rename_i g4;rw [if_pos g4]
          have h1:zR 1=6:=rfl
          simp only [Zs,Mk.setRef,h1];omega
        · simp at he
      · rename_i g3;rw [if_neg g3]
        split at he
        · rename_i g4;rw [if_pos g4];exact z_readCharacter hw 32 he
        · rename_i g4;rw [if_neg g4];exact z_readCharacter hw b he
theorem z_readSlash {s:St} (hv:V s) (hst:s.state=19) (b:Int) (he:(Mk.readSlash s b).2=0):Zs (Mk.readSlash s b).1≤Zs s + 6:=by
  unfold Mk.readSlash at he ⊢
  split at he
  · simp at he
  · rename_i g;rw [if_neg g]
    have e1:=tellStart_off hv.cn hv.on
    have e2:=tellEnd_list (s:=Mk.tellStart s) (by rw [tellStart_core];exact hv.cn) (by rw [tellStart_core];exact hv.on) s.name
    have e3:=tellEnd_core (Mk.tellStart s) s.name
    have h1:zL (Mk.tellEnd (Mk.tellStart s) s.name).list=zL s.list + 6 * s.text.length + (s.name.length + 2 + zAs s.attrs) + (s.name.length + 3):=by
      rw [e2.1,add_z,tellStart_text,zE_2,e1]
      show zL (Mk.add s ⟨1,s.name,[],[],s.attrs⟩).list + _ + _=_
      rw [add_z,zE_1]
      simp
    unfold Zs
    dsimp only
    rw [h1,e2.2,e3,tellStart_core]
    dsimp only
    have h2:zB 19=6:=rfl
    have h3:zAs []=0:=rfl
    rw [zB_01,hst,h2,h3]
    simp only [List.length_nil]
    omega
theorem z_readEndSpace {s:St} (hw:Wq s) (hv:V s) (hst:s.state=20∨s.state=21) (b:Int) (he:(Mk.readEndSpace s b).2=0):Zs (Mk.readEndSpace s b).1≤Zs s + 6:=by
  unfold Mk.readEndSpace at he ⊢
  split at he
  · rename_i g;rw [if_pos g];exact z_to s 21 s.matched (Nat.le_trans (show zB 21≤0 by decide) (Nat.zero_le _))
  · rename_i g;rw [if_neg g]
    split at he
    · rename_i g2;rw [if_pos g2]
      have hne:=hw.o1 (by omega)
      have hm:s.opn=s.opn.dropLast ++ [Mk.innermost s]:=by
        unfold Mk.innermost
        rw [List.getLastD_eq_getLast?,List.getLast?_eq_some_getLast hne]
        exact (List.dropLast_concat_getLast hne).symm
      have hz:zO s.opn=zO s.opn.dropLast + ((Mk.innermost s).length + 3):=by
        have:=zO_snoc s.opn.dropLast (Mk.innermost s)
        rw [← hm] at this
        exact this
      have e2:=tellEnd_list (s:={ s with opn:=s.opn.dropLast }) hv.cn hv.on (Mk.innermost s)
      have e3:=tellEnd_core { s with opn:=s.opn.dropLast } (Mk.innermost s)
      have h1:zL (Mk.tellEnd { s with opn:=s.opn.dropLast } (Mk.innermost s)).list=zL s.list + 6 * s.text.length + ((Mk.innermost s).length + 3):=by
        rw [e2.1,add_z,zE_2]
      unfold Mk.endInnermost Zs
      rw [h1,e2.2,e3]
      dsimp only
      rw [zB_01,hz]
      simp only [List.length_nil]
      omega
    · simp at he
theorem z_readEndName {s:St} (hw:Wq s) (hv:V s) (hst:s.state=20) (b:Int) (he:(Mk.readEndName s b).2=0):Zs (Mk.readEndName s b).1≤Zs s + 6:=by
  unfold Mk.readEndName at he ⊢
  split at he
  · rename_i g;rw [if_pos g]
    split at he
    · simp at he
    · rename_i g2;rw [if_neg g2];exact Nat.le_add_right _ _
  · rename_i g;rw [if_neg g]
    split at he
    · simp at he
    · rename_i g2;rw [if_neg g2];exact z_readEndSpace hw hv (.inl hst) b he
theorem z_readByte {s:St} (hw:W s) (hv:V s) (b:Int) (he:(Mk.readByte s b).2=0):Zs (Mk.readByte s b).1≤Zs s + 6:=by
  by_cases hp:0<s.pl
  · have e:Mk.readByte s b=Mk.readPart s b:=by unfold Mk.readByte;rw [if_pos hp]
    rw [e] at he ⊢
    exact z_readPart hw hp b he
  · have hp0:s.pl=0:=by have:=hw.p0;omega
    cases hr:Mk.isOpen s.rp
    · have hq:Wq s:=⟨hw,hp0,hr⟩
      have hst:=hw.st
      have h22:s.state=0∨s.state=1∨s.state=2∨s.state=3∨s.state=4∨s.state=5∨s.state=6∨s.state=7∨s.state=8∨s.state=9∨s.state=10∨s.state=11∨s.state=12∨s.state=13∨s.state=14∨s.state=15∨s.state=16∨s.state=17∨s.state=18∨s.state=19∨s.state=20∨s.state=21:=by omega
      rcases h22 with e | e | e | e | e | e | e | e | e | e | e | e | e | e | e | e | e | e | e | e | e | e
      · have q:Mk.readByte s b=Mk.readOutside s b:=by unfold Mk.readByte;simp [hp0,hr,e]
        rw [q] at he ⊢;exact z_readOutside e b he
      · have q:Mk.readByte s b=Mk.readContent s b:=by unfold Mk.readByte;simp [hp0,hr,e]
        rw [q] at he ⊢;exact z_readContent hq e b he
      · have q:Mk.readByte s b=Mk.readSection s b:=by unfold Mk.readByte;simp [hp0,hr,e]
        rw [q] at he ⊢;exact z_readSection hq e b he
      · have q:Mk.readByte s b=Mk.readLess s b:=by unfold Mk.readByte Mk.readMark;simp [hp0,hr,e]
        rw [q] at he ⊢;exact z_readLess e b he
      · have q:Mk.readByte s b=Mk.readBang s b:=by unfold Mk.readByte Mk.readMark;simp [hp0,hr,e]
        rw [q] at he ⊢;exact z_readBang e b he
      · have q:Mk.readByte s b=Mk.readDash s b:=by unfold Mk.readByte Mk.readMark;simp [hp0,hr,e]
        rw [q] at he ⊢;exact z_readDash e b he
      · have q:Mk.readByte s b=Mk.readSectionMark s b:=by unfold Mk.readByte Mk.readMark;simp [hp0,hr,e]
        rw [q] at he ⊢;exact z_readSectionMark e b he
      · have q:Mk.readByte s b=Mk.readComment s b:=by unfold Mk.readByte;simp [hp0,hr,e]
        rw [q] at he ⊢;exact z_readComment hq e b he
      · have q:Mk.readByte s b=Mk.readInstructionName s b:=by unfold Mk.readByte Mk.readMark;simp [hp0,hr,e]
        rw [q] at he ⊢;exact z_readInstructionName e b he
      · have q:Mk.readByte s b=Mk.readBareInstruction s b:=by unfold Mk.readByte Mk.readMark;simp [hp0,hr,e]
        rw [q] at he ⊢;exact z_readBareInstruction e b he
      · have q:Mk.readByte s b=Mk.readInstructionSpace s b:=by unfold Mk.readByte Mk.readMark;simp [hp0,hr,e]
        rw [q] at he ⊢;exact z_readInstructionSpace hq e b he
      · have q:Mk.readByte s b=Mk.readInstruction s b:=by unfold Mk.readByte;simp [hp0,hr,e]
        rw [q] at he ⊢
        exact z_readInstruction hq e b he
      · have q:Mk.readByte s b=Mk.readStartName s b:=by unfold Mk.readByte Mk.readMark Mk.readStartTag;simp [hp0,hr,e]
        rw [q] at he ⊢;exact z_readStartName hv e b he
      · have q:Mk.readByte s b=Mk.readStartSpace s b:=by unfold Mk.readByte Mk.readMark Mk.readStartTag;simp [hp0,hr,e]
        rw [q] at he ⊢;exact z_readStartSpace hv e b he
      · have q:Mk.readByte s b=Mk.readAttrName s b:=by unfold Mk.readByte Mk.readMark Mk.readStartTag;simp [hp0,hr,e]
        rw [q] at he ⊢;exact z_readAttrName e b he
      · have q:Mk.readByte s b=Mk.readAttrSpace s b:=by unfold Mk.readByte Mk.readMark Mk.readStartTag;simp [hp0,hr,e]
        rw [q] at he ⊢;exact z_readAttrSpace (by omega) b he
      · have q:Mk.readByte s b=Mk.readEquals s b:=by unfold Mk.readByte Mk.readMark Mk.readStartTag;simp [hp0,hr,e]
        rw [q] at he ⊢;exact z_readEquals e b he
      · have q:Mk.readByte s b=Mk.readValue s b:=by unfold Mk.readByte;simp [hp0,hr,e]
        rw [q] at he ⊢;exact z_readValue hq e b he
      · have q:Mk.readByte s b=Mk.readStartGap s b:=by unfold Mk.readByte Mk.readMark Mk.readStartTag;simp [hp0,hr,e]
        rw [q] at he ⊢;exact z_readStartGap hv.on hv.cn (by omega) b he
      · have q:Mk.readByte s b=Mk.readSlash s b:=by unfold Mk.readByte Mk.readMark Mk.readStartTag;simp [hp0,hr,e]
        rw [q] at he ⊢;exact z_readSlash hv e b he
      · have q:Mk.readByte s b=Mk.readEndName s b:=by unfold Mk.readByte Mk.readMark;simp [hp0,hr,e]
        rw [q] at he ⊢;exact z_readEndName hq hv e b he
      · have q:Mk.readByte s b=Mk.readEndSpace s b:=by unfold Mk.readByte Mk.readMark;simp [hp0,hr,e]
        rw [q] at he ⊢;exact z_readEndSpace hq hv (.inr e) b he
    · have q:Mk.readByte s b=Mk.readReference s b:=by unfold Mk.readByte;rw [if_neg hp,if_pos hr]
      rw [q] at he ⊢
      exact z_readReference s b he
theorem z_feedAll:∀ (l:Bs) {s:St},W s→V s→s.ended=0→(Mk.feedAll s l).ended=0→Zs (Mk.feedAll s l)≤Zs s + 6 * l.length
  | [],s,_,_,_,_=>by show Zs s≤_;omega
  | x :: r,s,hw,hv,h00,he=>by
    have hx:=feedAll_cons_ok he
    have h1:=z_feedAll r (w_feedByte hw x hx) (v_feedByte hw hv h00 x hx) hx he
    have h2:Zs (Mk.feedByte s x)≤Zs s + 6:=by
      rcases feedByte_right h00 x hx with e | ⟨b,r,l,c,hb,e1,e⟩
      · rw [e];exact Nat.le_add_right _ _
      · have k:=z_readByte (hw.at (s.at_ + 1) r) (hv.at (s.at_ + 1) r) b e1
        rw [e];exact k
    show Zs (Mk.feedAll (Mk.feedByte s x) r)≤_
    rw [List.length_cons]
    omega
theorem wT_z (s:St):zL (wT s)≤Zs s:=by
  unfold wT Zs
  split
  · omega
  · rw [zL_snoc]
    show zL s.list + 6 * s.text.length≤_
    omega
theorem flat_len (f:UInt8→Bs) (h:∀ b,(f b).length≤6):∀ l:Bs,(l.flatMap f).length≤6 * l.length
  | []=>by simp
  | x :: r=>by
    have:=flat_len f h r
    have:=h x
    rw [List.flatMap_cons,List.length_append,List.length_cons]
    omega
theorem lift_names {d a t:Int} (d1:1≤d) (t1:8≤t) (a1:0≤a) (a2:a≤32) (D:Bs) {E0 E:List Ev} {c:Sc} (h0:(Mk.feedAll (Mk.make_ d a t false) D).ended=0) (hs:(Mk.feedAll (Mk.make_ d a t false) D).state=0) (hw:wT (Mk.feedAll (Mk.make_ d a t false) D)=E0) (hk:kRes Sc.zero [] E0=(c,E,true)) :
    (Mk.feedAll (Mk.make_ d a t true) D).ended=0∧wT (Mk.feedAll (Mk.make_ d a t true) D)=E∧(Mk.close (Mk.feedAll (Mk.make_ d a t true) D)).2=(Mk.close (Mk.feedAll (Mk.make_ d a t false) D)).2:=by
  by_cases h8:(Mk.feedAll (Mk.make_ d a t true) D).ended=8
  · exfalso
    obtain ⟨p,x,q,c', hD,_,_,_,_,hb⟩:=spaces_bad d a t d1 t1 a1 a2 D h8
    have e:p ++ [x] ++ q=D:=by rw [hD];simp
    have hb:=hb q (by rw [e];exact h0) (by rw [e];exact hs)
    rw [e] at hb
    obtain ⟨hW,hv,h1,H1⟩:=tl_feedAll D (w_make d a t false d1 t1 a2) (v_make d a t t1 a1) (tl_make d a t d1 t1 a1) rfl h0
    have htx:(Mk.feedAll (Mk.make_ d a t false) D).text=[]:=by
      cases hc:(Mk.feedAll (Mk.make_ d a t false) D).text with
      | nil=>rfl
      | cons y r=>exact absurd (hW.o0 hs) (H1.tx (by rw [hc];simp))
    unfold wT at hw
    rw [htx] at hw
    have hw:(Mk.feedAll (Mk.make_ d a t false) D).list=E0:=hw
    rw [hw,hk] at hb
    cases (Prod.mk.inj (Prod.mk.inj hb).2).2
  · obtain ⟨e1,_,e3,c', hkr,_,_⟩:=spaces_ok d a t d1 t1 a1 a2 D h8
    refine ⟨e1.trans h0,?_,e3⟩
    unfold KR at hkr
    rw [hw,hk] at hkr
    exact ((Prod.mk.inj (Prod.mk.inj hkr).2).1).symm
def normA (ats:List Att):List Att:=ats.filter (fun y=>Mk.isDecl y.name) ++ ats.filter (fun y => !Mk.isDecl y.name)
def normE (e:Ev):Ev:=if e.kind=1 then { e with attrs:=normA e.attrs } else e
theorem filter_perm {α:Type} (p:α→Bool):∀ l:List α,(l.filter p ++ l.filter (fun y => !p y)).Perm l
  | [] => .refl _
  | x :: r=>by
    have ih:=filter_perm p r
    cases h:p x
    · rw [List.filter_cons_of_neg (by simp [h]),List.filter_cons_of_pos (by simp [h])]
      exact List.perm_middle.trans (ih.cons x)
    · rw [List.filter_cons_of_pos h,List.filter_cons_of_neg (by simp [h])]
      exact ih.cons x
theorem normA_perm (ats:List Att):(normA ats).Perm ats:=filter_perm _ ats
theorem good_norm {d a t:Int} {o o1:List Bs} {ov ov1 pt:Bool} {e:Ev} (h:GoodE d a t o ov pt e o1 ov1):GoodE d a t o ov pt (normE e) o1 ov1:=by
  cases h with
  | start n ats h1 h2 h3 h4 h5 h6 =>
    have hp:=normA_perm ats
    exact .start n (normA ats) h1 h2 h3 (by rw [hp.length_eq];exact h4) (fun y hy=>h5 y (hp.mem_iff.1 hy)) ((hp.map _).nodup_iff.2 h6)
  | fin o' n h1 h2=>exact .fin o1 n h1 h2
  | txt val h1 h2 h3 h4=>exact .txt val h1 h2 h3 h4
  | comm val h1=>exact .comm val h1
  | pi n val h1 h2 h3=>exact .pi n val h1 h2 h3
theorem normE_kind (e:Ev):(normE e).kind=e.kind:=by unfold normE;split <;> rfl
theorem goodL_norm {d a t:Int} {o o1:List Bs} {ov ov1 pt:Bool} {l:List Ev} (h:GoodL d a t o ov pt l o1 ov1):GoodL d a t o ov pt (l.map normE) o1 ov1:=by
  induction h with
  | nil o ov pt=>exact .nil o ov pt
  | cons h r ih=>exact .cons (good_norm h) (by rw [normE_kind];exact ih)
theorem dg_cons (y:Att) (r:List Att) (b:List (Bs × Bs)) (c:Nat):Mk.declareGo (y :: r) b c=if !Mk.isDecl y.name then Mk.declareGo r b c else if !Mk.isGood (Mk.declared y.name) y.val then (b,c,false) else Mk.declareGo r (b ++ [(Mk.declared y.name,y.val)]) (c + 1):=rfl
theorem rg_cons (b:List (Bs × Bs)) (y:Att) (r acc:List Att):Mk.resolveGo b (y :: r) acc=if Mk.isDecl y.name then Mk.resolveGo b r acc else if !Mk.isBound b (Mk.prefixOf y.name) || Mk.hasLocal acc (Mk.withSpace b y) then none else Mk.resolveGo b r (acc ++ [Mk.withSpace b y]):=rfl
theorem dg_no {y:Att} (h:Mk.isDecl y.name=false) (r:List Att) (b:List (Bs × Bs)) (c:Nat):Mk.declareGo (y :: r) b c=Mk.declareGo r b c:=by rw [dg_cons,h];rfl
theorem dg_yes {y:Att} (h:Mk.isDecl y.name=true) (r:List Att) (b:List (Bs × Bs)) (c:Nat):Mk.declareGo (y :: r) b c=if !Mk.isGood (Mk.declared y.name) y.val then (b,c,false) else Mk.declareGo r (b ++ [(Mk.declared y.name,y.val)]) (c + 1):=by rw [dg_cons,h];rfl
theorem rg_yes {y:Att} (h:Mk.isDecl y.name=true) (b:List (Bs × Bs)) (r acc:List Att):Mk.resolveGo b (y :: r) acc=Mk.resolveGo b r acc:=by rw [rg_cons,h];rfl
theorem rg_no {y:Att} (h:Mk.isDecl y.name=false) (b:List (Bs × Bs)) (r acc:List Att):Mk.resolveGo b (y :: r) acc=if !Mk.isBound b (Mk.prefixOf y.name) || Mk.hasLocal acc (Mk.withSpace b y) then none else Mk.resolveGo b r (acc ++ [Mk.withSpace b y]):=by rw [rg_cons,h];rfl
theorem declareGo_skip:∀ (l:List Att) (b:List (Bs × Bs)) (c:Nat),(∀ y ∈ l,Mk.isDecl y.name=false)→Mk.declareGo l b c=(b,c,true)
  | [],b,c,_=>rfl
  | y :: r,b,c,h=>by
    unfold Mk.declareGo
    rw [if_pos (by rw [h y (by simp)];rfl)]
    exact declareGo_skip r b c (fun z hz=>h z (List.mem_cons_of_mem _ hz))
theorem declareGo_filter (m:List Att) (hm:∀ y ∈ m,Mk.isDecl y.name=false):∀ (l:List Att) (b:List (Bs × Bs)) (c:Nat),Mk.declareGo (l.filter (fun y=>Mk.isDecl y.name) ++ m) b c=Mk.declareGo l b c
  | [],b,c=>declareGo_skip m b c hm
  | y :: r,b,c=>by
    cases h:Mk.isDecl y.name
    · rw [List.filter_cons_of_neg (by simp [h]),dg_no h]
      exact declareGo_filter m hm r b c
    · rw [List.filter_cons_of_pos (by simp [h]),List.cons_append,dg_yes h,dg_yes h]
      split
      · rfl
      · exact declareGo_filter m hm r _ _
theorem resolveGo_skip (b:List (Bs × Bs)):∀ (l m:List Att) (acc:List Att),(∀ y ∈ l,Mk.isDecl y.name=true)→Mk.resolveGo b (l ++ m) acc=Mk.resolveGo b m acc
  | [],m,acc,_=>rfl
  | y :: r,m,acc,h=>by
    rw [List.cons_append,rg_cons,if_pos (h y (by simp))]
    exact resolveGo_skip b r m acc (fun z hz=>h z (List.mem_cons_of_mem _ hz))
theorem resolveGo_filter (b:List (Bs × Bs)):∀ (l acc:List Att),Mk.resolveGo b (l.filter (fun y => !Mk.isDecl y.name)) acc=Mk.resolveGo b l acc
  | [],acc=>rfl
  | y :: r,acc=>by
    cases h:Mk.isDecl y.name
    · rw [List.filter_cons_of_pos (by simp [h]),rg_no h,rg_no h]
      split
      · rfl
      · exact resolveGo_filter b r _
    · rw [List.filter_cons_of_neg (by simp [h]),rg_cons,if_pos h]
      exact resolveGo_filter b r acc
theorem all_norm (p:Att→Bool) (ats:List Att):(normA ats).all p=ats.all p:=by
  rw [Bool.eq_iff_iff,List.all_eq_true,List.all_eq_true]
  have hp:=normA_perm ats
  exact ⟨fun h x hx=>h x (hp.mem_iff.2 hx),fun h x hx=>h x (hp.mem_iff.1 hx)⟩
theorem kStart_norm (c:Sc) (n:Bs) (ats:List Att):kStart c n (normA ats)=kStart c n ats:=by
  have e1:Mk.areQualified n (normA ats)=Mk.areQualified n ats:=by unfold Mk.areQualified;rw [all_norm]
  have e2:∀ b k,Mk.declareGo (normA ats) b k=Mk.declareGo ats b k:=fun b k=>declareGo_filter _ (fun y hy=>by have:=(List.mem_filter.1 hy).2;simpa using this) ats b k
  have e3:∀ b,Mk.resolveGo b (normA ats) []=Mk.resolveGo b ats []:=fun b=>by
    unfold normA
    rw [resolveGo_skip b _ _ [] (fun y hy=>(List.mem_filter.1 hy).2),resolveGo_filter]
  unfold kStart
  rw [e1,e2,e3]
theorem kOne_norm (c:Sc) (e:Ev):kOne c (normE e)=kOne c e:=by
  unfold normE
  split
  · rename_i h
    unfold kOne
    rw [if_pos h,if_pos h]
    show (match kStart c e.name (normA e.attrs) with | none=>none | some (c', l)=>some (c', kTold c' e.name l))=_
    rw [kStart_norm]
    rfl
  · rfl
theorem kRes_norm:∀ (l:List Ev) (c:Sc) (acc:List Ev),kRes c acc (l.map normE)=kRes c acc l
  | [],c,acc=>rfl
  | e :: r,c,acc=>by
    show (match kOne c (normE e) with | none=>(c,acc,false) | some (c', m)=>kRes c' (acc ++ m) (r.map normE))=(match kOne c e with | none=>(c,acc,false) | some (c', m)=>kRes c' (acc ++ m) r)
    rw [kOne_norm]
    cases kOne c e with
    | none=>rfl
    | some p=>exact kRes_norm r _ _
def decls (ats:List Att):List (Bs × Bs):=(ats.filter (fun y=>Mk.isDecl y.name)).map fun y=>(Mk.declared y.name,y.val)
theorem declareGo_ok:∀ (ats:List Att) (b:List (Bs × Bs)) (k:Nat),(Mk.declareGo ats b k).2.2=true→(Mk.declareGo ats b k).1=b ++ decls ats∧(Mk.declareGo ats b k).2.1=k + (decls ats).length
  | [],b,k,_=>by simp [Mk.declareGo,decls]
  | y :: r,b,k,h=>by
    cases hd:Mk.isDecl y.name
    · rw [dg_no hd] at h ⊢
      have:=declareGo_ok r b k h
      have e:decls (y :: r)=decls r:=by unfold decls;rw [List.filter_cons_of_neg (by simp [hd])]
      rw [e];exact this
    · rw [dg_yes hd] at h ⊢
      split at h
      · cases h
      · rename_i hg
        rw [if_neg hg]
        have:=declareGo_ok r _ _ h
        have e:decls (y :: r)=(Mk.declared y.name,y.val) :: decls r:=by unfold decls;rw [List.filter_cons_of_pos (by simp [hd])];rfl
        rw [this.1,this.2,e]
        simp
        omega
theorem resolveGo_ok (b:List (Bs × Bs)):∀ (ats acc l:List Att),Mk.resolveGo b ats acc=some l→l.map (fun y=>(y.name,y.val))=acc.map (fun y=>(y.name,y.val)) ++ (ats.filter (fun y => !Mk.isDecl y.name)).map (fun y=>(y.name,y.val))
  | [],acc,l,h=>by cases h;simp
  | y :: r,acc,l,h=>by
    cases hd:Mk.isDecl y.name
    · rw [rg_no hd] at h
      split at h
      · cases h
      · rw [resolveGo_ok b r _ l h,List.filter_cons_of_pos (by simp [hd])]
        unfold Mk.withSpace
        split <;> simp
    · rw [rg_yes hd] at h
      rw [resolveGo_ok b r acc l h,List.filter_cons_of_neg (by simp [hd])]
theorem declN_back {n:Bs} (hq:Mk.isQualified n=true) (hd:Mk.isDecl n=true):declN (Mk.declared n)=n:=by
  unfold Mk.isDecl at hd
  unfold Mk.declared
  by_cases hx:n == Mk.wXmlns
  · rw [if_pos hx]
    exact (by simpa using hx:n=Mk.wXmlns).symm
  · rw [if_neg hx]
    have hp:Mk.prefixOf n=Mk.wXmlns:=by simpa [hx] using hd
    have hc:Mk.hasColon n=true:=by
      cases h:Mk.hasColon n
      · unfold Mk.prefixOf at hp;rw [h] at hp;cases hp
      · rfl
    have hl:Mk.localOf n ≠ []:=by
      unfold Mk.isQualified at hq
      rw [hc] at hq
      intro k
      rw [k] at hq
      simp at hq
    unfold declN
    rw [if_neg hl]
    unfold Mk.prefixOf Mk.localOf at *
    rw [hc] at hp ⊢
    rw [if_pos rfl] at hp ⊢
    rw [← hp]
    have hlt:Mk.colonAt n<n.length:=by unfold Mk.hasColon at hc;simpa using hc
    have hcol:n[Mk.colonAt n]? = some 58:=by
      unfold Mk.colonAt at hlt ⊢
      have key:∀ (m:Bs),(m.takeWhile (· != 58)).length<m.length→m[(m.takeWhile (· != 58)).length]? = some 58:=by
        intro m
        induction m with
        | nil=>intro h;cases h
        | cons x r ih =>
          intro h
          cases hx:(x != 58)
          · rw [List.takeWhile_cons_of_neg (by simp [hx])]
            show some x=some 58
            have:x=58:=by simpa using hx
            rw [this]
          · have e:(x :: r).takeWhile (fun x=>x != 58)=x :: r.takeWhile (fun x=>x != 58):=by simp only [List.takeWhile_cons,hx,if_true]
            rw [e] at h ⊢
            rw [List.length_cons,List.getElem?_cons_succ]
            exact ih (by simpa using h)
      exact key n hlt
    have e:n.drop (Mk.colonAt n)=58 :: n.drop (Mk.colonAt n + 1):=by
      rw [List.drop_eq_getElem_cons hlt]
      congr 1
      have:=List.getElem?_eq_getElem hlt
      rw [this] at hcol
      exact Option.some.inj hcol
    rw [List.append_assoc]
    show n.take _ ++ ([58] ++ n.drop _)=n
    rw [show [58] ++ n.drop (Mk.colonAt n + 1)=n.drop (Mk.colonAt n) from e.symm]
    exact List.take_append_drop _ _
theorem tag_new (c:Sc) (ds:List (Bs × Bs)):Sc.tag ⟨c.bnd ++ ds,c.cnt ++ [ds.length]⟩=ds:=by
  unfold Sc.tag Sc.fst
  have e:(c.cnt ++ [ds.length]).getLast? = some ds.length:=by simp
  simp only [e]
  rw [if_neg (by rw [List.length_append];omega)]
  rw [List.length_append,Nat.add_sub_cancel,List.drop_append_of_le_length (Nat.le_refl _),List.drop_length]
  rfl
theorem wGo_binds:∀ (l:List (Bs × Bs)) (bs r:List Ev),wGo bs (kBinds l ++ r)=wGo (bs ++ kBinds l) r
  | [],bs,r=>by simp [kBinds]
  | p :: l,bs,r=>by
    show wGo bs (⟨6,p.1,[],p.2,[]⟩ :: (kBinds l ++ r))=_
    have e:wGo bs (⟨6,p.1,[],p.2,[]⟩ :: (kBinds l ++ r))=wGo (bs ++ [⟨6,p.1,[],p.2,[]⟩]) (kBinds l ++ r):=rfl
    rw [e,wGo_binds l]
    simp [kBinds]
theorem wGo_unbinds:∀ (l:List (Bs × Bs)) (r:List Ev),wGo [] (kUnbinds l ++ r)=wGo [] r
  | [],r=>rfl
  | p :: l,r=>by
    show wGo [] (⟨7,p.1,[],[],[]⟩ :: (kUnbinds l ++ r))=_
    have e:wGo [] (⟨7,p.1,[],[],[]⟩ :: (kUnbinds l ++ r))=[] ++ wGo [] (kUnbinds l ++ r):=rfl
    rw [e,List.nil_append,wGo_unbinds l]
theorem flat_pairs (f:Bs→Bs→Bs) (l:List Att):l.flatMap (fun y=>f y.name y.val)=(l.map (fun y=>(y.name,y.val))).flatMap (fun p=>f p.1 p.2):=by
  induction l with
  | nil=>rfl
  | cons y r ih=>simp only [List.flatMap_cons,List.map_cons,ih]
theorem wGo_one {d a t:Int} {o o1:List Bs} {ov ov1 pt:Bool} {e:Ev} (h:GoodE d a t o ov pt e o1 ov1) {c c' : Sc} {m:List Ev} (hk:kOne c e=some (c', m)) (r:List Ev):wGo [] (m ++ r)=wEv (normE e) ++ wGo [] r:=by
  cases h with
  | start n ats h1 h2 h3 h4 h5 h6 =>
    have hk:(match kStart c n ats with | none=>none | some (c', l)=>some (c', kTold c' n l))=some (c', m):=hk
    cases hs:kStart c n ats with
    | none=>rw [hs] at hk;cases hk
    | some p =>
      obtain ⟨c2,l⟩:=p
      rw [hs] at hk
      cases hk
      unfold kStart at hs
      split at hs
      · cases hs
      · rename_i hq
        split at hs
        · cases hs
        · rename_i hdg
          split at hs
          · cases hs
          · cases hr:Mk.resolveGo (Mk.declareGo ats c.bnd 0).1 ats [] with
            | none=>rw [hr] at hs;cases hs
            | some l2 =>
              rw [hr] at hs
              cases hs
              obtain ⟨d1,d2⟩:=declareGo_ok ats c.bnd 0 (by simpa using hdg)
              have htag:Sc.tag ⟨(Mk.declareGo ats c.bnd 0).1,c.cnt ++ [(Mk.declareGo ats c.bnd 0).2.1]⟩=decls ats:=by
                rw [d1,d2,Nat.zero_add];exact tag_new c _
              have hrk:=resolveGo_ok _ ats [] l hr
              have hq:Mk.areQualified n ats=true:=by simpa using hq
              unfold kTold
              rw [htag,List.append_assoc,wGo_binds,List.nil_append]
              have e1:wGo (kBinds (decls ats)) ([⟨1,n,Mk.valueOf (Mk.declareGo ats c.bnd 0).1 (Mk.prefixOf n),[],l⟩] ++ r)=wStart ⟨1,n,Mk.valueOf (Mk.declareGo ats c.bnd 0).1 (Mk.prefixOf n),[],l⟩ (kBinds (decls ats)) ++ wGo [] r:=rfl
              rw [e1]
              congr 1
              show 60 :: n ++ (kBinds (decls ats)).flatMap (fun b=>wAttr (declN b.name) b.val) ++ l.flatMap (fun y=>wAttr y.name y.val) ++ [62]=60 :: n ++ [] ++ (normA ats).flatMap (fun y=>wAttr y.name y.val) ++ [62]
              have e2:(kBinds (decls ats)).flatMap (fun b=>wAttr (declN b.name) b.val)=(ats.filter (fun y=>Mk.isDecl y.name)).flatMap (fun y=>wAttr y.name y.val):=by
                have hqa:∀ y ∈ ats.filter (fun y=>Mk.isDecl y.name),Mk.isQualified y.name=true∧Mk.isDecl y.name=true:=fun y hy=>by
                  unfold Mk.areQualified at hq
                  rw [Bool.and_eq_true] at hq
                  exact ⟨List.all_eq_true.1 hq.1 y (List.mem_filter.1 hy).1,(List.mem_filter.1 hy).2⟩
                unfold decls kBinds
                generalize ats.filter (fun y=>Mk.isDecl y.name)=fs at hqa
                induction fs with
                | nil=>rfl
                | cons y fs ih =>
                  simp only [List.map_cons,List.flatMap_cons]
                  rw [declN_back (hqa y (by simp)).1 (hqa y (by simp)).2,ih (fun z hz=>hqa z (List.mem_cons_of_mem _ hz))]
              have e3:l.flatMap (fun y=>wAttr y.name y.val)=(ats.filter (fun y => !Mk.isDecl y.name)).flatMap (fun y=>wAttr y.name y.val):=by
                rw [flat_pairs wAttr l,flat_pairs wAttr (ats.filter _),hrk]
                rfl
              rw [e2,e3]
              unfold normA
              rw [List.flatMap_append]
              simp
  | fin o' n h1 h2 =>
    have hk:(if c.cnt=[] then none else some (kLeft c,kEnd c n))=some (c', m):=hk
    split at hk
    · cases hk
    · cases hk
      unfold kEnd
      have e1:wGo [] (⟨2,n,Mk.valueOf c.bnd (Mk.prefixOf n),[],[]⟩ :: kUnbinds c.tag.reverse ++ r)=wOther ⟨2,n,Mk.valueOf c.bnd (Mk.prefixOf n),[],[]⟩ ++ wGo [] (kUnbinds c.tag.reverse ++ r):=rfl
      rw [e1,wGo_unbinds]
      rfl
  | txt val h1 h2 h3 h4 =>
    have hk:some (c,[(⟨3,[],[],val,[]⟩:Ev)])=some (c', m):=hk
    cases hk
    rfl
  | comm val h1 =>
    have hk:some (c,[(⟨4,[],[],val,[]⟩:Ev)])=some (c', m):=hk
    cases hk
    rfl
  | pi n val h1 h2 h3 =>
    have hk:(if Mk.hasColon n then none else some (c,[(⟨5,n,[],val,[]⟩:Ev)]))=some (c', m):=hk
    split at hk
    · cases hk
    · cases hk
      rfl
theorem wGo_res {d a t:Int} {o o1:List Bs} {ov ov1 pt:Bool} {l:List Ev} (h:GoodL d a t o ov pt l o1 ov1):∀ {c c' : Sc} {acc m:List Ev},kRes c acc l=(c', m,true)→∃ x,m=acc ++ x∧wGo [] x=(l.map normE).flatMap wEv:=by
  induction h with
  | nil o ov pt=>intro c c' acc m hk;cases hk;exact ⟨[],by simp,rfl⟩
  | @cons o o1 o2 ov ov1 ov2 pt e l he r ih =>
    intro c c' acc m hk
    have hk:(match kOne c e with | none=>(c,acc,false) | some (c', m)=>kRes c' (acc ++ m) l)=(c', m,true):=hk
    cases hm:kOne c e with
    | none=>rw [hm] at hk;cases hk
    | some p =>
      obtain ⟨c1,m1⟩:=p
      rw [hm] at hk
      obtain ⟨x,e1,e2⟩:=ih hk
      refine ⟨m1 ++ x,by rw [e1];simp,?_⟩
      rw [wGo_one he hm,e2]
      rfl
theorem write_names {d a t:Int} (d1:1≤d) (t1:8≤t) (a1:0≤a) (a2:a≤32) {l E:List Ev} {o1:List Bs} {ov1:Bool} {c:Sc} (h:GoodL d a t [] false false l o1 ov1) (hk:kRes Sc.zero [] l=(c,E,true)) :
    (wAll E=(l.map normE).flatMap wEv)∧(o1=[]→(Mk.feedAll (Mk.make_ d a t true) (wAll E)).ended=0∧wT (Mk.feedAll (Mk.make_ d a t true) (wAll E))=E∧((Mk.close (Mk.feedAll (Mk.make_ d a t true) (wAll E))).2=if ov1 then 0 else 9))∧(o1 ≠ []→¬ ((Mk.feedAll (Mk.make_ d a t true) (wAll E)).ended=0∧(Mk.close (Mk.feedAll (Mk.make_ d a t true) (wAll E))).2=0)):=by
  obtain ⟨x,e1,e2⟩:=wGo_res h hk
  have e1:E=x:=by simpa using e1
  subst e1
  have hg:=goodL_norm h
  obtain ⟨w1,w2,w3,w4,w5⟩:=write_read hg
  have e2:wAll E=(l.map normE).flatMap wEv:=e2
  refine ⟨e2,fun ho => ?_,fun ho => ?_⟩
  · rw [e2]
    have hs:(Mk.feedAll (Mk.make_ d a t false) ((l.map normE).flatMap wEv)).state=0:=by rw [w5,ho];rfl
    obtain ⟨q1,q2,q3⟩:=lift_names d1 t1 a1 a2 _ w1 hs w2 (by rw [kRes_norm];exact hk)
    refine ⟨q1,q2,?_⟩
    rw [q3]
    unfold Mk.close Mk.isDocument
    rw [if_pos w1,w4,hs]
    cases ov1 <;> rfl
  · rw [e2]
    rintro ⟨q1,q2⟩
    obtain ⟨_,_,q3,_⟩:=spaces_ok d a t d1 t1 a1 a2 _ (by rw [q1];decide)
    rw [q2] at q3
    unfold Mk.close Mk.isDocument at q3
    have hs:(Mk.feedAll (Mk.make_ d a t false) ((l.map normE).flatMap wEv)).state=1:=by rw [w5,if_neg (fun k=>ho (List.length_eq_zero_iff.1 k))]
    rw [if_pos w1,hs] at q3
    simp at q3
end Go.Proofs.YtmgfijllcdadgabGreatDoor
