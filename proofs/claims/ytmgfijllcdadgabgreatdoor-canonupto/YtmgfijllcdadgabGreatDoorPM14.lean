/- TagsA, TagsB -/
import Derived.Test.YtmgfijllcdadgabGreatDoorPM13
set_option linter.unusedVariables false
set_option linter.unusedSimpArgs false
namespace Go.Proofs.YtmgfijllcdadgabGreatDoor
open Go.RowKit
open Mk (St Bs Ev Att)
section
variable {w0 w w' : World} {b:Nat} {f0:List Nat} {s:St} {L:Lay}
theorem Mv.pushOpen (m:Mv w0 b f0 w s L) (x:Bs) {g cap:Nat} (hown:w'.ownsRow (b - 1) 9 1 (.slice (some ⟨g,0,none⟩) (s.opn.length + 1) cap) (s.opn.length + 1) (s.opn.map sv ++ [.string ⟨x.toArray⟩]))
    (hg:w.grownBy w' (opnRow s L).v.ownBlock) (hat:(Value.slice L.oa s.opn.length L.oc).ownBlock=some g∨g=w.heap.size) :
    Mv w0 b f0 (w'.setCell ⟨b,5,none⟩ (.slice (some ⟨g,0,none⟩) (s.opn.length + 1) cap)) { s with opn:=s.opn ++ [x] } { L with oa:=some ⟨g,0,none⟩,oc:=cap }:=by
  refine m.grow (r:=opnRow s L) (r' := opnRow { s with opn:=s.opn ++ [x] } { L with oa:=some ⟨g,0,none⟩,oc:=cap }) (rs:=tokRow s L :: attRow s L :: lstRow s L :: txtRow s L :: bndRow s L :: cntRow s L :: L.es.map evRow) 5 _ (.refl _) (.refl _) ?_ hg ?_ ?_ m.rd.evs
  · show World.ownsRow _ _ _ _ _ _ _
    simp only [opnRow,List.length_append,List.length_cons,List.length_nil,Nat.zero_add,List.map_append,List.map_cons,List.map_nil]
    exact hown
  · rcases hat with h | h
    · exact .inl h.symm
    · exact .inr (by rw [h];rfl)
  · simp [cellsOf]
theorem Mv.pushAttr (m:Mv w0 b f0 w s L) (x:Att) (ham:s.am=false) {g cap:Nat} (hown:w'.ownsRow (b - 1) 112 3 (.slice (some ⟨g,0,none⟩) (s.attrs.length + 1) cap) (s.attrs.length + 1) (atsRow s.attrs ++ atCells x))
    (hg:w.grownBy w' (Value.slice L.aa s.attrs.length L.ac).ownBlock) (hat:(Value.slice L.aa s.attrs.length L.ac).ownBlock=some g∨g=w.heap.size) :
    Mv w0 b f0 (w'.setCell ⟨b,13,none⟩ (.slice (some ⟨g,0,none⟩) (s.attrs.length + 1) cap)) { s with attrs:=s.attrs ++ [x] } { L with aa:=some ⟨g,0,none⟩,ac:=cap }:=by
  have e1:(attRow s L).v = .slice L.aa s.attrs.length L.ac:=by simp [attRow,ham]
  refine m.grow (r:=attRow s L) (r' := attRow { s with attrs:=s.attrs ++ [x] } { L with aa:=some ⟨g,0,none⟩,ac:=cap }) (rs:=opnRow s L :: tokRow s L :: lstRow s L :: txtRow s L :: bndRow s L :: cntRow s L :: L.es.map evRow) 13 _ (perm3 _ _ _ _) (perm3 _ _ _ _) ?_ (by rw [e1];exact hg) ?_ ?_ m.rd.evs
  · show World.ownsRow _ _ _ _ _ _ _
    simp only [attRow,ham,List.length_append,List.length_cons,List.length_nil,Nat.zero_add,atsRow,List.flatMap_append,List.flatMap_cons,List.flatMap_nil,List.append_nil]
    exact hown
  · rw [e1]
    rcases hat with h | h
    · exact .inl (by simp [attRow,ham];exact h.symm)
    · exact .inr (by rw [h];simp [attRow,ham];rfl)
  · simp [cellsOf]
end
theorem infoStr:(Tryz.prog.info? 9).map (fun i=>(i.zero,i.size,i.bytes))=some (some (.string ByteArray.empty),1,16):=by kernel_rfl
theorem infoAt:(Tryz.prog.info? 112).map (fun i=>(i.zero,i.size,i.bytes))=some (some (.agg #[.string ByteArray.empty,.string ByteArray.empty,.string ByteArray.empty]),3,48):=by kernel_rfl
theorem atCells_one (a:Att):∀ u ∈ atCells a,u.oneCell' = true:=by
  intro u hu
  simp [atCells] at hu
  rcases hu with rfl | rfl | rfl <;> rfl
theorem tellBinds_bd {s:St} (h:Bd s):(Mk.tellBinds s).name=s.name∧(Mk.tellBinds s).attrs=s.attrs∧(Mk.tellBinds s).am=false∧(Mk.tellBinds s).text.length≤100000000∧(Mk.tellBinds s).list.length≤700000100∧(Mk.tellBinds s).bnd=s.bnd∧Mk.spaceOf (Mk.tellBinds s) s.name=Mk.spaceOf s s.name:=by
  have e:=tellBinds_core s
  have h1:=bindAll_len2 (Mk.ofTag s) s
  have h2:=spTagLen h.cb
  have h3:=h.hx
  have h4:=h.hl
  refine ⟨by rw [e],by rw [e],by rw [e];exact h.am,?_,?_,by rw [e],by rw [e];rfl⟩
  · show (Mk.bindAll s (Mk.ofTag s)).text.length≤_;omega
  · show (Mk.bindAll s (Mk.ofTag s)).list.length≤_;omega
set_option maxHeartbeats 1000000 in
set_option maxRecDepth 100000 in
theorem tellStart_any {w:World} {b:Nat} {s:St} {L:Lay} (h:RdL w b s L) (hB:Bd s) :
    Calls Tryz.prog 167 #[.pointer (some ⟨b,0,none⟩)] w fun e w' => e = .returned (.tuple #[])∧∃ L', Mv w b (foot s L) w' (Mk.tellStart s) L' := by
  have HT:=hide (tellBinds_any h hB)
  obtain ⟨t1,t2,t3,t4,t5,t6,t7⟩:=tellBinds_bd hB
  have HR:=hide (show Mk.tellStart s={ Mk.add (Mk.tellBinds s) ⟨1,s.name,Mk.spaceOf s s.name,[],s.attrs⟩ with attrs:=[] } from rfl)
  have hnm:=hB.hn
  have hbd:=hB.hb
  have HS:=hide h.start
  rw [← t7, ← t2, ← t1] at HR
  rw [← t1] at hnm
  rw [← t6] at hbd
  generalize Mk.tellBinds s=t at *
  generalize Mk.tellStart s=z at *
  clear h hB t1 t2 t6 t7
  go_enter Tryz.func167,Tryz.ntmps167
  go_wp2_with fail
  refine (unhide HT).mono ?_
  rintro e w1 ⟨rfl,L1,hm1⟩
  have hc:=hm1.rd.cell
  have hf:=hm1.rd.frozen
  have hlt:=hm1.rd.lt
  have HSP:=hide (spaceOf_any hm1.rd (by omega) t.name hnm)
  have HSD:=hide (spaceOf_any hm1.drew.rd (by omega) t.name hnm)
  have HA:=hide (fun n=>add_moved (hm1.rd.drewN n) ⟨1,t.name,Mk.spaceOf t t.name,[],t.attrs⟩ rfl t3 (Nat.le_trans t4 (by decide)) (Nat.le_trans t5 (by decide)))
  have HM1:=hide hm1
  generalize Mk.spaceOf t t.name=sp at *
  unfold cellsOf at hc
  clear hm1 HT
  go_wp2_with first | (go_at_call 168;refine (unhide HSP).mono ?_;rintro e w2 ⟨rfl,rfl⟩) | (go_at_call 168;refine (unhide HSD).mono ?_;rintro e w2 ⟨rfl,rfl⟩)
  go_region_with (go_at_call 143;refine (unhide HA _).mono ?_;rintro e w2 ⟨rfl,L2,hm2⟩)
  all_goals
    have hc2:=hm2.rd.cell
    have hf2:=hm2.rd.frozen
    have hlt2:=hm2.rd.lt
    have HM3:=hide ((((unhide HM1).drewN _).call hm2).dropAttrs)
    unfold cellsOf at hc2
    clear hm2 HM1 hc hf
    go_wp2
    go_end0
    have e1:z={ { Mk.add t ⟨1,t.name,sp,[],t.attrs⟩ with am:=true } with attrs:=[],am:=false }:=by
      rw [unhide HR]
      unfold Mk.add Mk.endText
      split <;> simp [t3]
    rw [e1]
    exact ⟨rfl,_,unhide HM3⟩
theorem add_bd {s:St} (h:Bd s) (hl:s.list.length + 2≤700000000) (e:Ev):Bd (Mk.add s e):=by
  have e0:=add_core s e
  have h1:=add_len2 s e
  have h2:=h.hx
  rw [e0] at h1 ⊢
  dsimp only at h1
  exact { h with hx:=by show (Mk.add s e).text.length≤_;omega,hl:=by show (Mk.add s e).list.length≤_;omega }
set_option maxHeartbeats 1000000 in
set_option maxRecDepth 100000 in
theorem tellEnd_any {w:World} {b:Nat} {s:St} {L:Lay} (h:RdL w b s L) (hB:Bd s) (hl2:s.list.length + 100≤700000000) (x:Bs) (hxl:x.length≤100000000) :
    Calls Tryz.prog 164 #[.pointer (some ⟨b,0,none⟩),.string ⟨x.toArray⟩] w fun e w' => e = .returned (.tuple #[])∧∃ L', Mv w b (foot s L) w' (Mk.tellEnd s x) L' := by
  have HR:=hide (show Mk.tellEnd s x=Mk.resume { Mk.leave (Mk.tellUnbinds (Mk.add s ⟨2,x,Mk.spaceOf s x,[],[]⟩)) with over:=decide (s.opn.length=0) } from rfl)
  have HSP:=hide (spaceOf_any h (Nat.le_trans hB.hb (by decide)) x hxl)
  generalize Mk.spaceOf s x=sp at *
  have H2:=hide (fun n=>add_nil (h.drewN n) ⟨2,x,sp,[],[]⟩ rfl (Nat.le_trans hB.hx (by decide)) (Nat.le_trans hB.hl (by decide)))
  have HBA:=hide (add_bd hB (by omega) ⟨2,x,sp,[],[]⟩)
  have eo:(Mk.add s ⟨2,x,sp,[],[]⟩).opn=s.opn:=by rw [add_core]
  have HM0:=hide h.start
  have ho:=hB.ho
  generalize Mk.tellEnd s x=z at *
  rw [← eo] at HR ho
  generalize Mk.add s ⟨2,x,sp,[],[]⟩=t at *
  have hu:=tellUnbinds_core t
  have hu1:(Mk.tellUnbinds t).bnd=t.bnd:=by rw [hu]
  have hu2:(Mk.tellUnbinds t).cnt=t.cnt:=by rw [hu]
  have hu3:(Mk.leave (Mk.tellUnbinds t)).opn=t.opn:=by unfold Mk.leave;rw [hu]
  have HU:=hide (And.intro hu1 hu2)
  generalize hTU:Mk.tellUnbinds t=u at *
  have HTU:=hide hTU
  clear h hB eo hu hu1 hu2 hTU
  go_enter Tryz.func164,Tryz.ntmps164
  go_wp2_with (go_at_call 168;refine (unhide HSP).mono ?_;rintro e w2 ⟨rfl,rfl⟩)
  refine (unhide H2 0).mono ?_
  rintro e w2 ⟨rfl,L2,hm2⟩
  have HT:=hide (tellUnbinds_any hm2.rd (unhide HBA))
  rw [unhide HTU] at HT
  have HM2:=hide ((unhide HM0).call hm2)
  clear hm2 H2 HM0 HSP
  go_wp2_with fail
  refine (unhide HT).mono ?_
  rintro e w3 ⟨rfl,L3,hm3⟩
  have HL:=hide (Leave_any hm3.rd (by rw [(unhide HU).1];exact Nat.le_trans (unhide HBA).hb (by decide)) (by rw [(unhide HU).2];exact Nat.le_trans (unhide HBA).hc (by decide)) (by rw [(unhide HU).2];exact (unhide HBA).cb))
  have HM3:=hide ((unhide HM2).call hm3)
  clear hm3 HT HM2
  generalize Mk.leave u=v at *
  go_wp2_with fail
  refine (unhide HL).mono ?_
  rintro e w4 ⟨rfl,L4,hm4⟩
  have hm4' := (unhide HM3).call hm4
  have hc2:=hm4'.rd.cell
  have hf2:=hm4'.rd.frozen
  have hlt2:=hm4'.rd.lt
  rw [← hu3] at HR ho
  obtain ⟨o,hov⟩:∃ o,decide (v.opn.length=0)=o:=⟨_,rfl⟩
  rw [hov] at HR
  have hm5:=hm4'.store 6 (.bool o) { v with over:=o } rfl rfl rfl
  have H3:=hide (resume_any hm5.rd)
  have HM5:=hide hm5
  have ed:((v.opn.length:Int) == 0)=o:=by rw [← hov,Bool.eq_iff_iff,beq_iff_eq,decide_eq_true_eq];omega
  unfold cellsOf at hc2
  clear hm4 hm4' hm5 HL HM3 hov hu3
  go_wp2_with (go_at_call 144;refine (unhide H3).mono ?_;rintro e w5 ⟨rfl,hm6⟩;have HM6:=hide hm6;clear hm6)
  go_end0
  rw [unhide HR]
  exact ⟨rfl,L4,(unhide HM5).call (unhide HM6)⟩
end Go.Proofs.YtmgfijllcdadgabGreatDoor
