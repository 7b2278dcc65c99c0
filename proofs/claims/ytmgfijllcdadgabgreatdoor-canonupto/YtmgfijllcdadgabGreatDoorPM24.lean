/- Feed2, Same -/
import Derived.Test.YtmgfijllcdadgabGreatDoorPM23
set_option linter.unusedVariables false
set_option linter.unusedSimpArgs false
namespace Go.Proofs.YtmgfijllcdadgabGreatDoor
open Go.RowKit
open Mk (St Bs Ev Att)
theorem got_nil (w:World):Got w (.slice none 0 0) [] []:=
  ⟨[],rfl,World.ownsRow_nil w 0 _ _,(fun p hp=>by cases hp),(fun k hv=>by cases hv),(fun k hk=>by cases hk)⟩
set_option maxHeartbeats 1000000 in
theorem Feed_any {w:World} {b k:Nat} {s:St} {L:Lay} (h:RdL w b s L) (hI:Inv k s) (l:Bs) (hk:k + 12 * l.length≤88000000) (hG:Gl w) (hb2:6 + 1<b) (a0:0≤s.at_) (a1:s.at_≤1000000000) (g c:Nat) (hg:g<w.heap.size) (hgb:g ≠ b) (hgf:g ∉ foot s L)
    (hp:∀ j (hj:j<l.length),w.cell? ⟨g,j,none⟩=some (.int .u8 (l[j].toNat:Int))) :
    Calls Tryz.prog 30 #[.pointer (some ⟨b,0,none⟩),.slice (some ⟨g,0,none⟩) l.length c] w fun e w' => ∃ v fp L', e = .returned (.tuple #[v,.int .i64 (Mk.feed s l).2.2])∧Got w' v (Mk.feed s l).2.1 fp∧(∃ a n c,v = .slice a n c)∧Mv w b (foot s L) w' (Mk.feed s l).1 L' ∧ ∀ k ∈ fp,(b≤k + 1∧k ≠ b)∧k<w'.heap.size∧k ∉ foot (Mk.feed s l).1 L' ∧ (k ∈ foot s L∨w.heap.size≤k):=by
  by_cases e1:s.ended=0
  · have hr:Mk.feed s l=(Mk.take (Mk.feedAll s l),(Mk.endText (Mk.feedAll s l)).list,(Mk.feedAll s l).ended):=by simp [Mk.feed,e1]
    rw [hr]
    clear hr
    have hc:=h.cell
    have hlt:=h.lt
    have hfl:=h.foot_lt
    have hblk:∃ o,w.heap[g]? = some o:=by
      cases ho:w.heap[g]? with
      | none=>simp at ho;omega
      | some o=>exact ⟨o,rfl⟩
    have HM:=hide h
    have HG:=hide hG
    have HI:=hide hI
    have HP:=hide hp
    have HFL:=hide hfl
    unfold cellsOf at hc
    clear h hG hI hp hfl hblk
    have hgn:((g:Nat) == b)=false:=by rw [beq_eq_false_iff_ne];exact hgb
    obtain ⟨rr,hrr⟩:∃ rr,rr=Mk.feedAll s l:=⟨_,rfl⟩
    have HRR:=hide hrr
    rw [← hrr]
    clear hrr
    go_enter Tryz.func30,Tryz.ntmps30
    go_wp2
    go_loopw [6] (fun i w' => ∃ k:Nat,k≤l.length∧i = .int .i64 k∧∃ L1,Mv w b (foot s L) w' (Mk.feedAll s (l.take k)) L1) (fun i _=>l.length - (intOf i).toNat)
    case atStart=>exact ⟨0,by omega,rfl,L,(unhide HM).start⟩
    case round =>
      obtain ⟨j,hj,rfl,L1,hm⟩:=hrel
      clear hc
      have hgf1:g ∉ foot (Mk.feedAll s (l.take j)) L1:=fun hin=>by
        rcases hm.fr.foot g hin with h9 | h9
        · exact hgf h9
        · omega
      have hin1:=inv_feedAll (l.take j) (unhide HI)
      have hat1:=feedAll_at (l.take j) s
      have hln:(l.take j).length=j:=by simp;omega
      rw [hln] at hin1 hat1
      have hG1:=hm.gl2 (unhide HG) hb2 (by omega) (fun q hq=>((unhide HFL) q hq).1)
      have hgk:wr.heap[g]? = w.heap[g]? := hm.fr.block g hg hgb hgf
      by_cases hjl:j<l.length
      · have hsn:=feedAll_snoc (l.take j) l[j] s
        rw [← List.take_succ_eq_append_getElem hjl] at hsn
        have hcell:wr.cell? ⟨g,j,none⟩=some (.int .u8 (l[j].toNat:Int)):=(World.cell?_of_block (a:=⟨g,j,none⟩) hgk).trans ((unhide HP) j hjl)
        by_cases e2:(Mk.feedAll s (l.take j)).ended=0
        · have hby:=byte_le l[j]
          have hfb:Mk.feedByte (Mk.feedAll s (l.take j)) l[j]={ (Mk.read { Mk.feedAll s (l.take j) with at_:=(Mk.feedAll s (l.take j)).at_ + 1 } (l[j].toNat:Int)).1 with ended:=(Mk.read { Mk.feedAll s (l.take j) with at_:=(Mk.feedAll s (l.take j)).at_ + 1 } (l[j].toNat:Int)).2 }:=by
            unfold Mk.feedByte
            rw [if_pos e2]
          rw [hfb] at hsn
          clear hfb
          generalize (l[j].toNat:Int)=x at *
          generalize hs2:Mk.feedAll s (l.take (j + 1))=s2 at *
          generalize Mk.feedAll s (l.take j)=s1 at *
          have hm1:=(hm.store 28 (.int .i64 (s1.at_ + 1)) { s1 with at_:=s1.at_ + 1 } rfl rfl rfl).drew
          have hG2:=hm1.gl2 (unhide HG) hb2 (by omega) (fun q hq=>((unhide HFL) q hq).1)
          have HX:=hide (read_any hm1.rd (show Inv _ { s1 with at_:=s1.at_ + 1 } from { hin1 with }) (by omega) x hby.1 hby.2 hG2 hb2)
          have hc:=hm.rd.cell
          have hf:=hm.rd.frozen
          have hlt1:=hm.rd.lt
          have HM1:=hide hm1
          have HSN:=hide hsn
          have HS2:=hide hs2
          unfold cellsOf at hc
          clear hm hm1 hG1 hG2 hin1 hsn hs2 hgk hgf1 hby
          generalize hr2:Mk.read { s1 with at_:=s1.at_ + 1 } x=r2 at *
          have HR2:=hide hr2
          clear hr2
          go_wp2
          go_region_with (go_at_call 57;refine (unhide HX).mono ?_;rintro e w1 ⟨rfl,L2,hm2⟩;have hc2:=hm2.rd.cell;have hf2:=hm2.rd.frozen;have hlt2:=hm2.rd.lt;have HM2:=hide hm2;clear hm2;unfold cellsOf at hc2)
          all_goals
            go_wp2
            go_roundw
            case rel =>
              refine ⟨j + 1,by omega,by go_num,L2,?_⟩
              rw [unhide HS2,unhide HSN]
              exact ((unhide HM1).call (unhide HM2)).store 29 _ _ rfl rfl rfl
            case measure=>simp [intOf];omega
        · have hfin:Mk.feedAll s (l.take j)=rr:=by
            rw [unhide HRR]
            have h9:l=l.take j ++ l.drop j:=(List.take_append_drop j l).symm
            conv=>rhs;rw [h9]
            rw [feedAll_append,feedAll_ended (l.drop j) _ e2]
          rw [hfin] at hm hin1 hgf1
          have HK:=hide (Take_any hm.rd (by have:=hin1.hx;omega) (by have:=hin1.hl;omega))
          have hc:=hm.rd.cell
          have hlt1:=hm.rd.lt
          have HM1:=hide hm
          have e3:(rr.ended == 0)=false:=by rw [beq_eq_false_iff_ne, ← hfin];exact e2
          unfold cellsOf at hc
          clear hm hG1 hin1 hgk hgf1 hfin hat1 HRR
          go_wp2_with fail
          refine (unhide HK).mono ?_
          rintro e w1 ⟨v,fp,L2,rfl,hgot,⟨va,vn,vc,rfl⟩,hm2,hfp⟩
          have hc2:=hm2.rd.cell
          have hlt2:=hm2.rd.lt
          have HG2:=hide hgot
          have HM2:=hide hm2
          have HFP:=hide hfp
          have een:(Mk.take rr).ended=rr.ended:=by unfold Mk.take Mk.endText;split <;> rfl
          unfold cellsOf at hc2
          clear hgot hm2 hfp HK hc
          go_wp2
          go_quiet (fail)
          go_wp2
          go_ret2
          refine ⟨_,fp,L2,rfl,(unhide HG2).keep (fun _ _=>by rw [heap_drewN]),⟨_,_,_,rfl⟩,((unhide HM1).call (unhide HM2)).drewN _,fun q hq => ?_⟩
          have h7:=(unhide HFP) q hq
          refine ⟨h7.1,by rw [heap_drewN];exact h7.2.1,h7.2.2.1,?_⟩
          rcases h7.2.2.2 with h8 | h8
          · exact (unhide HM1).fr.foot q h8
          · exact .inr (Nat.le_trans (unhide HM1).fr.size h8)
      · have hfin:Mk.feedAll s (l.take j)=rr:=by
          rw [unhide HRR]
          rw [List.take_of_length_le (by omega)]
        rw [hfin] at hm hin1 hgf1
        have HK:=hide (Take_any hm.rd (by have:=hin1.hx;omega) (by have:=hin1.hl;omega))
        have hc:=hm.rd.cell
        have hlt1:=hm.rd.lt
        have HM1:=hide hm
        have e3:decide ((j:Int)<(l.length:Int))=false:=by simp;omega
        unfold cellsOf at hc
        clear hm hG1 hin1 hgk hgf1 hfin hat1 HRR
        go_wp2_with fail
        refine (unhide HK).mono ?_
        rintro e w1 ⟨v,fp,L2,rfl,hgot,⟨va,vn,vc,rfl⟩,hm2,hfp⟩
        have hc2:=hm2.rd.cell
        have hlt2:=hm2.rd.lt
        have HG2:=hide hgot
        have HM2:=hide hm2
        have HFP:=hide hfp
        have een:(Mk.take rr).ended=rr.ended:=by unfold Mk.take Mk.endText;split <;> rfl
        unfold cellsOf at hc2
        clear hgot hm2 hfp HK hc
        go_wp2
        go_quiet (fail)
        go_wp2
        go_ret2
        refine ⟨_,fp,L2,rfl,(unhide HG2).keep (fun _ _=>by rw [heap_drewN]),⟨_,_,_,rfl⟩,((unhide HM1).call (unhide HM2)).drewN _,fun q hq => ?_⟩
        have h7:=(unhide HFP) q hq
        refine ⟨h7.1,by rw [heap_drewN];exact h7.2.1,h7.2.2.1,?_⟩
        rcases h7.2.2.2 with h8 | h8
        · exact (unhide HM1).fr.foot q h8
        · exact .inr (Nat.le_trans (unhide HM1).fr.size h8)
  · have hr:Mk.feed s l=(s,[],s.ended):=by simp [Mk.feed,e1]
    rw [hr]
    have hc:=h.cell
    have hlt:=h.lt
    have HM:=hide h
    have e2:(s.ended != 0)=true:=by simpa using e1
    unfold cellsOf at hc
    clear h hI hG hp hr e1
    go_enter Tryz.func30,Tryz.ntmps30
    go_wp2
    go_quiet (fail)
    go_wp2
    go_ret2
    exact ⟨_,[],L,rfl,got_nil _,⟨_,_,_,rfl⟩,(unhide HM).start.drewN _,fun q hq=>by cases hq⟩
theorem elem_cells {w:World} {base:Nat} {e:TypeId} {v:Value} {n m:Nat} {α:Type} (f:α→List Value) (hf:∀ a,(f a).length=m) {l:List α} (hm:0<m) (h:w.ownsRow base e m v n (l.flatMap f)) (hn:n=l.length) (k:Nat) (hk:k<l.length) :
    ∃ g c,v = .slice (some ⟨g,0,none⟩) n c∧g<w.heap.size∧∀ j,j<m→w.cell? ⟨g,k * m + j,none⟩=(f l[k])[j]? := by
  obtain ⟨g,c,hv,_,hlt⟩:=World.ownsRow.form h (by omega)
  refine ⟨g,c,hv,hlt,fun j hj => ?_⟩
  subst hv
  rw [row_cell h (k * m + j) ?_]
  · exact flat_get f m hf l k hk j hj
  · have h1:(k + 1) * m≤n * m:=Nat.mul_le_mul_right _ (by omega)
    rw [Nat.succ_mul] at h1
    omega
theorem drewN_two (w:World) (n m:Nat):(w.drewN n).drewN m=w.drewN (n + m):=by simp [World.drewN,Nat.add_assoc]
theorem slice_form {w:World} {base:Nat} {e:TypeId} {size:Nat} {v:Value} {n:Nat} {xs:List Value} (h:w.ownsRow base e size v n xs):∃ a c,v = .slice a n c:=by
  rcases h.2 with ⟨h1,h2⟩ | ⟨g,cap,cur,h1,_⟩
  · exact ⟨none,0,by rw [h1,h2]⟩
  · exact ⟨_,_,h1⟩
theorem own_len {w:World} {base:Nat} {e:TypeId} {size:Nat} {v:Value} {n:Nat} {xs:List Value} (h:w.ownsRow base e size v n xs):n≤9223372036854775807:=by
  rcases h.2 with ⟨_,h2⟩ | ⟨g,cap,cur,_,_,_,h3,h4,_⟩
  · omega
  · unfold maxLen at h4;omega
set_option maxHeartbeats 1000000 in
theorem sameAttrs_eq {w:World} {v1 v2:Value} {l:List Att} (h1:w.ownsRow 0 112 3 v1 l.length (atsRow l)) (h2:w.ownsRow 0 112 3 v2 l.length (atsRow l)) :
    Calls Tryz.prog 54 #[v1,v2] w fun e w' => e = .returned (.bool true)∧∃ n,w' = w.drewN n:=by
  have hl:=own_len h1
  have HE1:=hide (fun k hk=>elem_cells atCells (fun _=>rfl) (by decide) h1 rfl k hk)
  have HE2:=hide (fun k hk=>elem_cells atCells (fun _=>rfl) (by decide) h2 rfl k hk)
  obtain ⟨a1,c1,rfl⟩:=slice_form h1
  obtain ⟨a2,c2,rfl⟩:=slice_form h2
  clear h1 h2
  have e0:((l.length:Int) != (l.length:Int))=false:=by simp
  go_enter Tryz.func54,Tryz.ntmps54
  go_wp2
  go_loopw [5] (fun i w' => ∃ k:Nat,k≤l.length∧i = .int .i64 k∧∃ n,w' = w.drewN n) (fun i _=>l.length - (intOf i).toNat)
  case atStart=>exact ⟨0,by omega,rfl,0,rfl⟩
  case round =>
    obtain ⟨k,hk,rfl,n,rfl⟩:=hrel
    by_cases hlt:k<l.length
    · obtain ⟨g1,d1,f1,_,q1⟩:=(unhide HE1) k hlt
      obtain ⟨g2,d2,f2,_,q2⟩:=(unhide HE2) k hlt
      injection f1 with f1 _ f1c
      injection f2 with f2 _ f2c
      subst f1
      subst f2
      subst f1c
      subst f2c
      have p10:=q1 0 (by decide)
      have p11:=q1 1 (by decide)
      have p12:=q1 2 (by decide)
      have p20:=q2 0 (by decide)
      have p21:=q2 1 (by decide)
      have p22:=q2 2 (by decide)
      simp [atCells] at p10 p11 p12 p20 p21 p22
      clear q1 q2 HE1 HE2
      generalize l[k]=x at *
      go_wp2
      go_quiet (fail)
      go_wp2
      go_roundw
      case rel=>exact ⟨k + 1,by omega,by go_num,_,rfl⟩
      case measure=>simp [intOf];omega
    · have e1:decide ((k:Int)<(l.length:Int))=false:=by simp;omega
      clear HE1 HE2
      go_wp2
      go_ret
      exact ⟨rfl,n,rfl⟩
theorem owned_drewN {w:World} {base:Nat} {e:TypeId} {size:Nat} {v:Value} {n:Nat} {xs:List Value} (h:w.ownsRow base e size v n xs) (m:Nat):(w.drewN m).ownsRow base e size v n xs:=
  owned_keep (r:=⟨e,size,v,n,xs⟩) h fun _ _=>by rw [heap_drewN]
set_option maxHeartbeats 2000000 in
theorem sameEvents_eq {w:World} {v1 v2:Value} {l:List Ev} {fp1 fp2:List Nat} (h1:Got w v1 l fp1) (h2:Got w v2 l fp2) :
    Calls Tryz.prog 27 #[v1,v2] w fun e w' => e = .returned (.bool true)∧∃ n,w' = w.drewN n:=by
  obtain ⟨es1,hl1,ho1,ha1,_,_⟩:=h1.ex
  obtain ⟨es2,hl2,ho2,ha2,_,_⟩:=h2.ex
  have hl:=own_len ho1
  have n1:es1.length=l.length:=by rw [← hl1];simp
  have n2:es2.length=l.length:=by rw [← hl2];simp
  have HE1:=hide (fun k hk=>elem_cells (l:=es1) (fun p=>evCells p.1 p.2) (fun _=>rfl) (by decide) ho1 n1.symm k hk)
  have HE2:=hide (fun k hk=>elem_cells (l:=es2) (fun p=>evCells p.1 p.2) (fun _=>rfl) (by decide) ho2 n2.symm k hk)
  obtain ⟨a1,c1,rfl⟩:=slice_form ho1
  obtain ⟨a2,c2,rfl⟩:=slice_form ho2
  have HA:Hid (∀ k (hk:k<l.length) (k1:k<es1.length) (k2:k<es2.length),es1[k].1=l[k]∧es2[k].1=l[k]∧∀ n,Calls Tryz.prog 54 #[es1[k].2,es2[k].2] (w.drewN n) fun e w' => e = .returned (.bool true)∧∃ m,w' = (w.drewN n).drewN m):=by
    intro k hk k1 k2
    have g1:es1[k].1=l[k]:=by simp only [← hl1,List.getElem_map]
    have g2:es2[k].1=l[k]:=by simp only [← hl2,List.getElem_map]
    refine ⟨g1,g2,fun n => ?_⟩
    have o1:=ha1 _ (List.getElem_mem k1)
    have o2:=ha2 _ (List.getElem_mem k2)
    unfold Row.owned evRow at o1 o2
    simp only [g1,g2] at o1 o2
    exact sameAttrs_eq (owned_drewN o1 n) (owned_drewN o2 n)
  clear h1 h2 ho1 ho2 ha1 ha2 hl1 hl2
  have e0:((l.length:Int) != (l.length:Int))=false:=by simp
  go_enter Tryz.func27,Tryz.ntmps27
  go_wp2
  go_loopw [5] (fun i w' => ∃ k:Nat,k≤l.length∧i = .int .i64 k∧∃ n,w' = w.drewN n) (fun i _=>l.length - (intOf i).toNat)
  case atStart=>exact ⟨0,by omega,rfl,0,rfl⟩
  case round =>
    obtain ⟨k,hk,rfl,n,rfl⟩:=hrel
    by_cases hlt:k<l.length
    · obtain ⟨g1,d1,f1,_,q1⟩:=(unhide HE1) k (by omega)
      obtain ⟨g2,d2,f2,_,q2⟩:=(unhide HE2) k (by omega)
      obtain ⟨r1,r2,HC⟩:=(unhide HA) k hlt (by omega) (by omega)
      injection f1 with f1 _ f1c
      injection f2 with f2 _ f2c
      subst f1
      subst f2
      subst f1c
      subst f2c
      have p10:=q1 0 (by decide)
      have p11:=q1 1 (by decide)
      have p12:=q1 2 (by decide)
      have p13:=q1 3 (by decide)
      have p14:=q1 4 (by decide)
      have p20:=q2 0 (by decide)
      have p21:=q2 1 (by decide)
      have p22:=q2 2 (by decide)
      have p23:=q2 3 (by decide)
      have p24:=q2 4 (by decide)
      rw [r1] at p10 p11 p12 p13 p14
      rw [r2] at p20 p21 p22 p23 p24
      have hcell:∀ a,(w.drewN n).cell? a=w.cell? a:=fun a=>by simp
      rw [← hcell] at p10 p11 p12 p13 p14 p20 p21 p22 p23 p24
      clear q1 q2 HE1 HE2 HA r1 r2 hcell
      generalize es1[k].2=v1 at *
      generalize es2[k].2=v2 at *
      generalize l[k]=x at *
      simp only [evCells,List.getElem?_cons_zero,List.getElem?_cons_succ,Nat.add_zero] at p10 p11 p12 p13 p14 p20 p21 p22 p23 p24
      have HC' : Hid (∀ m,Calls Tryz.prog 54 #[v1,v2] ((w.drewN n).drewN m) fun e w' => e = .returned (.bool true)∧∃ m', w' = ((w.drewN n).drewN m).drewN m'):=fun m=>by
        have:=HC (n + m)
        rw [drewN_two]
        exact this
      clear HC
      generalize hw1:w.drewN n=w1 at *
      have HW:=hide hw1
      clear hw1
      obtain ⟨vs1,hvs1⟩:∃ a,a=v1:=⟨_,rfl⟩
      go_wp2
      go_quiet ((go_at_call 54;refine (unhide HC' _).mono ?_;rintro e w2 ⟨rfl,m', rfl⟩;exact ⟨rfl,_,drewN_two _ _ _⟩))
      go_wp2
      go_quiet (fail)
      go_wp2
      go_roundw
      case rel=>exact ⟨k + 1,by omega,by go_num,_,by rw [← unhide HW];exact drewN_two _ _ _⟩
      case measure=>simp [intOf];omega
    · have e1:decide ((k:Int)<(l.length:Int))=false:=by simp;omega
      clear HE1 HE2 HA
      go_wp2
      go_ret
      exact ⟨rfl,n,rfl⟩
end Go.Proofs.YtmgfijllcdadgabGreatDoor
