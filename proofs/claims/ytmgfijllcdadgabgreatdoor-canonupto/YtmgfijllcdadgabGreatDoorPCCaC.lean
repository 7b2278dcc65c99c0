/- CaC -/
import Derived.Test.YtmgfijllcdadgabGreatDoorPCWcE
set_option linter.unusedVariables false
set_option linter.unusedSimpArgs false
namespace Go.Proofs.YtmgfijllcdadgabGreatDoor
open Go.RowKit
open Mk (St Bs Ev Att)
set_option maxHeartbeats 4000000 in
set_option maxRecDepth 100000 in
theorem Canon_bad (a b c:Int) (ha:I64 a) (hb:I64 b) (hc:I64 c) (text:Bs) (cuts:List Int) (ca:Option Addr) (cc:Nat) (hT:text.length≤1048576) (hC:cuts.length≤1120000) (w:World)
    (hcut:∀ j (hj:j<cuts.length), ∃ cg co,ca=some ⟨cg,co,none⟩∧cg<w.heap.size∧w.cell? ⟨cg,co + j,none⟩=some (.int .i64 cuts[j])) (hi64:∀ c ∈ cuts,I64 c) (hG:Gl w) (hs:6<w.heap.size) (h8:(Mk.feedAll (Mk.make_ (1 + pk a 64) (pk b 33) (8 + pk c 1017) true) (compl (Mk.make_ (1 + pk a 64) (pk b 33) (8 + pk c 1017) true) text)).ended=8) :
    Calls Tryz.prog 9 #[.int .i64 a,.int .i64 b,.int .i64 c,.bool true,.string ⟨text.toArray⟩,.slice ca cuts.length cc] w fun e w' => e = .returned (.bool true)∧Below w.heap.size w w' := by
  have HO:=hide (fun w=>options_any a b c true ha hb hc w)
  have b1:=pk_bd a 64 (by decide)
  have b2:=pk_bd b 33 (by decide)
  have b3:=pk_bd c 1017 (by decide)
  obtain ⟨d,hd⟩:∃ d,d=1 + pk a 64:=⟨_,rfl⟩
  obtain ⟨q,hq⟩:∃ q,q=pk b 33:=⟨_,rfl⟩
  obtain ⟨t,ht⟩:∃ t,t=8 + pk c 1017:=⟨_,rfl⟩
  rw [← hd, ← hq, ← ht] at HO
  rw [← hd, ← hq, ← ht] at h8
  have d1:1≤d:=by omega
  have d2:d≤64:=by omega
  have a1:0≤q:=by omega
  have a2:q≤32:=by omega
  have t1:8≤t:=by omega
  have t2:t≤1024:=by omega
  have hDl:=compl_1120000 (d:=d) (a:=q) (t:=t) true d1 d2 t1 t2 a2 text hT
  have hoff:=compl_off (d:=d) (a:=q) (t:=t) true d1 t1 a1 a2 text
  have hE:=canD_off d1 t1 a1 a2 _ hDl hoff.1 hoff.2
  have HCP:=hide (fun w hG hs=>completed_any d q t true d1 d2 a1 a2 t1 t2 text hT w hG hs)
  generalize compl (Mk.make_ d q t true) text=D at *
  generalize wT (Mk.feedAll (Mk.make_ d q t false) D)=E at *
  have HZ:=hide (fun w hG hs=>run_any d q t true d1 d2 a1 a2 t1 t2 D [] none 0 hDl (by decide) w (fun j hj=>by cases hj) (fun c hc=>by cases hc) hG hs)
  have q0:=runL_eq d q t true D []
  rw [q0.2.1,h8] at HZ
  have HX:=hide (fun w hG hs=>run_any d q t false d1 d2 a1 a2 t1 t2 D [] none 0 hDl (by decide) w (fun j hj=>by cases hj) (fun c hc=>by cases hc) hG hs)
  have hev:∀ x:Bs,wT (Mk.feedAll (Mk.make_ d q t false) x)=E→join [] (out (Mk.feedAll (Mk.make_ d q t false) x).list (Mk.feedAll (Mk.make_ d q t false) x).text)=E:=fun x hx=>(evs_wT (by rw [hx];exact hE.ad)).trans hx
  have q1:=runL_eq d q t false D []
  rw [q1.1,q1.2.1,q1.2.2.1,q1.2.2.2,hev D hE.wd,hE.ed,hE.cd] at HX
  have HY:=hide (fun W hb=>run_any7 d q t false d1 d2 a1 a2 t1 t2 (wAll E) cuts ca cc (by have:=hE.le;omega) (by omega) W (fun j hj=>by
    obtain ⟨cg,co,g1,g2,g3⟩:=hcut j hj
    have hb:Below w.heap.size w W:=hb
    exact ⟨cg,co,g1,by have:=hb.size;omega,by rw [← g3];simp only [World.cell?];rw [hb.block cg g2]⟩) hi64 (hG.below hs hb) (by have:=(show Below w.heap.size w W from hb).size;omega))
  have q2:=runL_eq d q t false (wAll E) cuts
  rw [q2.1,q2.2.1,q2.2.2.1,q2.2.2.2,hev _ hE.ev,hE.en,hE.cl] at HY
  have HW:=hide (fun (W:World) (v:Value) (fp:List Nat) (hg:Got W v E fp) (hfp:∀ k ∈ fp,k<W.heap.size) (hG:Gl W) (hn:6<W.heap.size)=>write_yes (d:=d) (a:=q) (t:=t) (nm:=false) hg hfp d1 d2 a1 a2 t1 t2 hE.sm (by have:=hE.le;omega) hE.po hG hn hE.en hE.cl hE.ev)
  have h2E:=hE.two
  generalize (runL (Mk.make_ d q t true) [] 0 D []).1=R0 at *
  generalize (runL (Mk.make_ d q t true) [] 0 D []).2.1=E0 at *
  generalize (Mk.feedAll (Mk.make_ d q t false) D).at_=atx at *
  generalize (Mk.feedAll (Mk.make_ d q t false) (wAll E)).at_=aty at *
  generalize (runL (Mk.make_ d q t false) [] 0 D [])=R1 at *
  generalize (runL (Mk.make_ d q t false) [] 0 (wAll E) cuts)=R2 at *
  generalize wAll E=T at *
  have HG:=hide hG
  clear b1 b2 b3 hd hq ht hcut hG hi64 hE hoff ha hb hc h8 q0 hev q1 q2 d1 d2 a1 a2 t1 t2
  go_enter Tryz.func9,Tryz.ntmps9
  go_wp2_with fail
  refine (unhide HO _).mono ?_
  rintro e w1 ⟨rfl,hb1⟩
  have hs01:=hb1.size
  go_wp2_with fail
  obtain ⟨W1,hW1⟩:∃ W1,W1=w1.alloc (.cells #[.int .i64 d,.int .i64 q,.int .i64 t,.bool true] 25):=⟨_,rfl⟩
  rw [← hW1]
  have hbW1:Below w.heap.size w W1:=by rw [hW1];exact hb1.alloc hb1.size _
  have hxW1:W1.heap[w1.heap.size]? = some (.cells #[.int .i64 d,.int .i64 q,.int .i64 t,.bool true] 25 (0,0)):=by rw [hW1];exact heap_alloc_new w1 _
  have hs1:=hbW1.size
  refine (unhide HCP W1 ((unhide HG).below hs hbW1) (by omega)).mono ?_
  rintro e w2 ⟨rfl,hb2⟩
  have hlW1:w1.heap.size<W1.heap.size:=(Array.getElem?_eq_some_iff.1 hxW1).1
  have hx2:=(hb2.block w1.heap.size hlW1).trans hxW1
  have hb02:=hbW1.trans (hb2.mono hs1)
  have hc2:∀ j,w2.cell? ⟨w1.heap.size,j,none⟩=[.int .i64 d,.int .i64 q,.int .i64 t,.bool true][j]? := fun j=>by simp [World.cell?,hx2]
  have hf2:∀ j,w2.frozen? ⟨w1.heap.size,j,none⟩=false:=fun j=>by simp [World.frozen?,hx2]
  have hl2:w1.heap.size<w2.heap.size:=(Array.getElem?_eq_some_iff.1 hx2).1
  have hs2:=hb02.size
  have HX2:=hide hx2
  have HB2:=hide hb02
  clear hW1 hb1 hb2 hbW1 hxW1 hx2 hb02 HCP HO
  have e8:((8:Int) == 8)=true:=rfl
  go_wp2_with fail
  refine (unhide HZ w2 ((unhide HG).below hs (unhide HB2)) (by omega)).mono ?_
  rintro e w3 ⟨v3,fp3,p3,rfl,hg3,hf3,hb3,hp3⟩
  obtain ⟨x3,c3,rfl⟩:=hg3.slice
  have hst3:=lay_out w3 (.slice x3 E0.length c3) 8 (Mk.close R0).2 R0.at_ p3 ⟨_,_,_,rfl⟩
  have hb03:=(unhide HB2).trans (hb3.mono hs2)
  have hx3:=(hb3.block w1.heap.size hl2).trans (unhide HX2)
  obtain ⟨W3,hW3⟩:∃ W3,W3=w3.alloc (.cells (outCells (.slice x3 E0.length c3) 8 (Mk.close R0).2 R0.at_ p3) 38 (0,0)):=⟨_,rfl⟩
  rw [← hW3] at hst3
  have hs03:=hb03.size
  have hl3:w1.heap.size<w3.heap.size:=(Array.getElem?_eq_some_iff.1 hx3).1
  have hbW3:Below w.heap.size w W3:=by rw [hW3];exact hb03.alloc (by omega) _
  have hxW3:W3.heap[w3.heap.size]? = some (.cells (outCells (.slice x3 E0.length c3) 8 (Mk.close R0).2 R0.at_ p3) 38 (0,0)):=by rw [hW3];exact heap_alloc_new w3 _
  have hoW3:W3.heap[w1.heap.size]? = some (.cells #[.int .i64 d,.int .i64 q,.int .i64 t,.bool true] 25 (0,0)):=by rw [hW3];exact (Below.heap_alloc _ _ _ hl3).trans hx3
  have hlW3:w3.heap.size<W3.heap.size:=(Array.getElem?_eq_some_iff.1 hxW3).1
  have hcW3:∀ j,W3.cell? ⟨w3.heap.size,j,none⟩=[.slice x3 E0.length c3,.int .i64 8,.int .i64 (Mk.close R0).2,.int .i64 R0.at_,.int .i64 p3.ln,.int .i64 p3.co,.slice p3.oa p3.on p3.oc][j]? := fun j=>by simp [World.cell?,hxW3,outCells]
  have hoc3:∀ j,W3.cell? ⟨w1.heap.size,j,none⟩=[.int .i64 d,.int .i64 q,.int .i64 t,.bool true][j]? := fun j=>by simp [World.cell?,hoW3]
  have hof3:∀ j,W3.frozen? ⟨w1.heap.size,j,none⟩=false:=fun j=>by simp [World.frozen?,hoW3]
  have HKW:=hide (And.intro hbW3 (And.intro hxW3 hoW3))
  clear hW3 hg3 hf3 hb3 hp3 hb03 hbW3 hxW3 hoW3 hx3 HZ HX2 HB2 hc2 hf2 hl2 hlW1 hs1
  go_wp2_with fail
  obtain ⟨V3,hV3⟩:∃ V3,V3=W3.setCell ⟨w1.heap.size,3,none⟩ (.bool false):=⟨_,rfl⟩
  rw [← hV3]
  have hK:=unhide HKW
  have hbV:Below w.heap.size w V3:=by rw [hV3];exact hK.1.setCell hs01 _
  have hoV:V3.heap[w1.heap.size]? = some (.cells #[.int .i64 d,.int .i64 q,.int .i64 t,.bool false] 25 (0,0)):=by rw [hV3];exact heap_setCell_same W3 w1.heap.size 3 _ _ _ hK.2.2
  have hxV:V3.heap[w3.heap.size]? = some (.cells (outCells (.slice x3 E0.length c3) 8 (Mk.close R0).2 R0.at_ p3) 38 (0,0)):=by rw [hV3];exact (heap_setCell_other _ _ _ _ (by simp;omega)).trans hK.2.1
  have hlV:w3.heap.size<V3.heap.size:=(Array.getElem?_eq_some_iff.1 hxV).1
  have hsV:=hbV.size
  have HV:=hide (And.intro hbV (And.intro hxV hoV))
  clear hV3 hK hbV hxV hoV HKW hcW3 hoc3 hof3 hst3 hlW3
  refine (unhide HX V3 ((unhide HG).below hs (unhide HV).1) (by omega)).mono ?_
  rintro e u3 ⟨v4,fp4,p4,rfl,hg4,hf4,hb4,hp4⟩
  obtain ⟨x4,c4,rfl⟩:=hg4.slice
  have hK:=unhide HV
  have hx4:=(hb4.block _ hlV).trans hK.2.1
  have ho4:=(hb4.block w1.heap.size (by omega)).trans hK.2.2
  have hst4:=run_storeCells_from (P:=Tryz.prog) w3.heap.size 38 (outCells (.slice x4 E.length c4) 0 0 atx p4).toList 0 _ u3 hx4 (by simp [outCells]) (by simp [outCells,Value.oneCell'])
  simp only [List.take_zero,List.nil_append,Array.toArray_toList] at hst4
  have hb04:=hK.1.trans (hb4.mono hsV)
  have hs04:=hb04.size
  have hs4:=hb4.size
  obtain ⟨W4,hW4⟩:∃ W4,W4=u3.setRow w3.heap.size (outCells (.slice x4 E.length c4) 0 0 atx p4):=⟨_,rfl⟩
  rw [← hW4] at hst4
  have hz4:W4.heap.size=u3.heap.size:=by rw [hW4];exact size_setRow _ _ _
  have hbW4:Below w.heap.size w W4:=hb04.trans (by rw [hW4];exact ⟨rfl,rfl,rfl,Nat.le_of_eq (size_setRow _ _ _).symm,fun k hk=>setRow_other _ _ _ _ (by omega)⟩)
  have hxW4:W4.heap[w3.heap.size]? = some (.cells (outCells (.slice x4 E.length c4) 0 0 atx p4) 38 (0,0)):=by rw [hW4];exact setRow_heap _ _ _ _ _ _ hx4
  have hoW4:W4.heap[w1.heap.size]? = some (.cells #[.int .i64 d,.int .i64 q,.int .i64 t,.bool false] 25 (0,0)):=by rw [hW4];exact (setRow_other _ _ _ _ (by omega)).trans ho4
  have hgW4:Got W4 (.slice x4 E.length c4) E fp4:=hg4.keep fun k hk=>by rw [hW4];exact setRow_other _ _ _ _ (by have:=(hf4 k hk).1;omega)
  have hfW4:∀ k ∈ fp4,k<W4.heap.size:=fun k hk=>by have:=(hf4 k hk).2;omega
  have hlW4:w3.heap.size<W4.heap.size:=(Array.getElem?_eq_some_iff.1 hxW4).1
  have hcW4:∀ j,W4.cell? ⟨w3.heap.size,j,none⟩=[.slice x4 E.length c4,.int .i64 0,.int .i64 0,.int .i64 atx,.int .i64 p4.ln,.int .i64 p4.co,.slice p4.oa p4.on p4.oc][j]? := fun j=>by simp [World.cell?,hxW4,outCells]
  have hocW:∀ j,W4.cell? ⟨w1.heap.size,j,none⟩=[.int .i64 d,.int .i64 q,.int .i64 t,.bool false][j]? := fun j=>by simp [World.cell?,hoW4]
  have HFN:=hide (fun w=>fine_yes (.slice x4 E.length c4) atx p4 ⟨_,_,_,rfl⟩ w)
  have HKW:=hide (And.intro hbW4 (And.intro hxW4 (And.intro hoW4 (And.intro hgW4 hfW4))))
  clear hW4 hK hg4 hf4 hb4 hp4 hb04 hbW4 hxW4 hgW4 hfW4 hoW4 hx4 ho4 HX HV hs04 hs4 hsV hlV e8
  go_wp2_with fail
  refine (unhide HFN _).mono ?_
  rintro e w4 ⟨rfl,hb4⟩
  have hK:=unhide HKW
  have hl14:w1.heap.size<W4.heap.size:=by omega
  have hx4:=(hb4.block _ hlW4).trans hK.2.1
  have ho4:=(hb4.block _ hl14).trans hK.2.2.1
  have hc4:∀ j,w4.cell? ⟨w3.heap.size,j,none⟩=[.slice x4 E.length c4,.int .i64 0,.int .i64 0,.int .i64 atx,.int .i64 p4.ln,.int .i64 p4.co,.slice p4.oa p4.on p4.oc][j]? := fun j=>by simp [World.cell?,hx4,outCells]
  have hoc4:∀ j,w4.cell? ⟨w1.heap.size,j,none⟩=[.int .i64 d,.int .i64 q,.int .i64 t,.bool false][j]? := fun j=>by simp [World.cell?,ho4]
  have hl4:w3.heap.size<w4.heap.size:=(Array.getElem?_eq_some_iff.1 hx4).1
  have hg4:Got w4 (.slice x4 E.length c4) E fp4:=hK.2.2.2.1.keep fun k hk=>hb4.block k (hK.2.2.2.2 k hk)
  have hs4:=hb4.size
  have hf4:∀ k ∈ fp4,k<w4.heap.size:=fun k hk=>by have:=hK.2.2.2.2 k hk;omega
  have hb04:=hK.1.trans (hb4.mono hK.1.size)
  have hs04:=hb04.size
  have HK4:=hide (And.intro hb04 (And.intro hx4 (And.intro ho4 (And.intro hg4 hf4))))
  clear hK hb4 hx4 ho4 hg4 hf4 hb04 HKW HFN hcW4 hocW hst4
  go_wp2_with fail
  refine (unhide HW w4 _ fp4 (unhide HK4).2.2.2.1 (unhide HK4).2.2.2.2 ((unhide HG).below hs (unhide HK4).1) (by omega)).mono ?_
  rintro e w5 ⟨xa,xc,rfl,hrow,hb5⟩
  have hK:=unhide HK4
  have hb05:=hK.1.trans (hb5.mono hs04)
  have hcv:=conv_row hrow
  have hx5:=(hb5.block _ hl4).trans hK.2.1
  have ho5:=(hb5.block w1.heap.size (by omega)).trans hK.2.2.1
  have hc5:∀ j,w5.cell? ⟨w3.heap.size,j,none⟩=[.slice x4 E.length c4,.int .i64 0,.int .i64 0,.int .i64 atx,.int .i64 p4.ln,.int .i64 p4.co,.slice p4.oa p4.on p4.oc][j]? := fun j=>by simp [World.cell?,hx5,outCells]
  have hoc5:∀ j,w5.cell? ⟨w1.heap.size,j,none⟩=[.int .i64 d,.int .i64 q,.int .i64 t,.bool false][j]? := fun j=>by simp [World.cell?,ho5]
  have hl5:w3.heap.size<w5.heap.size:=(Array.getElem?_eq_some_iff.1 hx5).1
  have hg5:Got w5 (.slice x4 E.length c4) E fp4:=hK.2.2.2.1.keep fun k hk=>hb5.block k (hK.2.2.2.2 k hk)
  have hs5:=hb5.size
  have hf5:∀ k ∈ fp4,k<w5.heap.size:=fun k hk=>by have:=hK.2.2.2.2 k hk;omega
  have HR5:=hide (unhide HY w5 hb05)
  have HROW:=hide hrow
  have HK5:=hide (And.intro hb05 (And.intro hx5 (And.intro ho5 (And.intro hg5 hf5))))
  clear hK hb5 hx5 ho5 hg5 hf5 hb05 HK4 hc4 hoc4 hrow HY
  go_wp2_with fail
  refine (unhide HR5).mono ?_
  rintro e w6 ⟨v6,fp6,p6,rfl,hg6,hf6,hb6,hp6⟩
  obtain ⟨x6,c6,rfl⟩:=hg6.slice
  have hst6:=lay_out w6 (.slice x6 E.length c6) 0 0 aty p6 ⟨_,_,_,rfl⟩
  have hK:=unhide HK5
  have hb06:=hK.1.trans (hb6.mono hK.1.size)
  have hx6:=(hb6.block _ hl5).trans hK.2.1
  have ho6:=(hb6.block w1.heap.size (by omega)).trans hK.2.2.1
  have hl6:w3.heap.size<w6.heap.size:=(Array.getElem?_eq_some_iff.1 hx6).1
  have hs6:=hb6.size
  have hs06:=hb06.size
  obtain ⟨W6,hW6⟩:∃ W6,W6=w6.alloc (.cells (outCells (.slice x6 E.length c6) 0 0 aty p6) 38 (0,0)):=⟨_,rfl⟩
  rw [← hW6] at hst6
  have hbA:Below w6.heap.size w6 W6:=by rw [hW6];exact (Below.refl _ _).alloc (Nat.le_refl _) _
  have hbW6:Below w.heap.size w W6:=hb06.trans (hbA.mono hs06)
  have hyW6:W6.heap[w6.heap.size]? = some (.cells (outCells (.slice x6 E.length c6) 0 0 aty p6) 38 (0,0)):=by rw [hW6];exact heap_alloc_new w6 _
  have hxW6:=(hbA.block w3.heap.size hl6).trans hx6
  have hoW6:=(hbA.block w1.heap.size (by omega)).trans ho6
  have hgx6:Got W6 (.slice x4 E.length c4) E fp4:=(hK.2.2.2.1.keep fun k hk=>hb6.block k (hK.2.2.2.2 k hk)).keep fun k hk=>hbA.block k (by have:=hK.2.2.2.2 k hk;omega)
  have hgy6:Got W6 (.slice x6 E.length c6) E fp6:=hg6.keep fun k hk=>hbA.block k (hf6 k hk).2
  have hsA:=hbA.size
  have hfy6:∀ k ∈ fp6,k<W6.heap.size:=fun k hk=>by have:=(hf6 k hk).2;omega
  have hlW6:w6.heap.size<W6.heap.size:=(Array.getElem?_eq_some_iff.1 hyW6).1
  have HROW6:=hide (row_keep (unhide HROW) fun k hk=>(hbA.block k (by omega)).trans (hb6.block k hk))
  have hcx:∀ j,W6.cell? ⟨w3.heap.size,j,none⟩=[.slice x4 E.length c4,.int .i64 0,.int .i64 0,.int .i64 atx,.int .i64 p4.ln,.int .i64 p4.co,.slice p4.oa p4.on p4.oc][j]? := fun j=>by simp [World.cell?,hxW6,outCells]
  have hcy:∀ j,W6.cell? ⟨w6.heap.size,j,none⟩=[.slice x6 E.length c6,.int .i64 0,.int .i64 0,.int .i64 aty,.int .i64 p6.ln,.int .i64 p6.co,.slice p6.oa p6.on p6.oc][j]? := fun j=>by simp [World.cell?,hyW6,outCells]
  have hco:∀ j,W6.cell? ⟨w1.heap.size,j,none⟩=[.int .i64 d,.int .i64 q,.int .i64 t,.bool false][j]? := fun j=>by simp [World.cell?,hoW6]
  have HSE:=hide (sameEvents_eq hgx6 hgy6)
  have HFN:=hide (fun w=>fine_yes (.slice x6 E.length c6) aty p6 ⟨_,_,_,rfl⟩ w)
  have HK6:=hide (And.intro hbW6 (And.intro hxW6 (And.intro hyW6 (And.intro hoW6 (And.intro hgy6 hfy6)))))
  clear hK hW6 hg6 hf6 hb6 hp6 hb06 hbA hbW6 hyW6 hxW6 hoW6 hgx6 hgy6 hfy6 hx6 ho6 HK5 HR5 hc5 hoc5 hcv
  go_wp2_with fail
  refine (unhide HSE).mono ?_
  rintro e w7 ⟨rfl,m,rfl⟩
  clear HSE
  have hK:=unhide HK6
  have hcy7:∀ j,(W6.drewN m).cell? ⟨w6.heap.size,j,none⟩=[.slice x6 E.length c6,.int .i64 0,.int .i64 0,.int .i64 aty,.int .i64 p6.ln,.int .i64 p6.co,.slice p6.oa p6.on p6.oc][j]? := fun j=>by simp only [World.cell?,heap_drewN];exact hcy j
  clear hK hcx hcy hco
  go_wp2_with fail
  refine (unhide HFN _).mono ?_
  rintro e w8 ⟨rfl,hb8⟩
  rw [heap_drewN] at hb8
  have hK:=unhide HK6
  have hk8:∀ k,k<W6.heap.size→w8.heap[k]? = W6.heap[k]? := fun k hk=>by rw [hb8.block k hk,heap_drewN]
  have hs8:W6.heap.size≤w8.heap.size:=by have:=hb8.size;rwa [heap_drewN] at this
  have hb08:Below w.heap.size w w8:=(hK.1.trans ⟨rfl,rfl,rfl,Nat.le_of_eq (by rw [heap_drewN]),fun _ _=>by rw [heap_drewN]⟩:Below w.heap.size w (W6.drewN m)).trans (hb8.mono (by have:=hK.1.size;omega))
  have hx8:=(hk8 w3.heap.size (by omega)).trans hK.2.1
  have hy8:=(hk8 w6.heap.size hlW6).trans hK.2.2.1
  have ho8:=(hk8 w1.heap.size (by omega)).trans hK.2.2.2.1
  have hg8:=hK.2.2.2.2.1.keep fun k hk=>hk8 k (hK.2.2.2.2.2 k hk)
  have hf8:∀ k ∈ fp6,k<w8.heap.size:=fun k hk=>by have:=hK.2.2.2.2.2 k hk;omega
  have hcy8:∀ j,w8.cell? ⟨w6.heap.size,j,none⟩=[.slice x6 E.length c6,.int .i64 0,.int .i64 0,.int .i64 aty,.int .i64 p6.ln,.int .i64 p6.co,.slice p6.oa p6.on p6.oc][j]? := fun j=>by simp [World.cell?,hy8,outCells]
  have hco8:∀ j,w8.cell? ⟨w1.heap.size,j,none⟩=[.int .i64 d,.int .i64 q,.int .i64 t,.bool false][j]? := fun j=>by simp [World.cell?,ho8]
  have HROW8:=hide (row_keep (unhide HROW6) fun k hk=>hk8 k hk)
  have hs08:=hb08.size
  have HW8:=hide (unhide HW w8 _ fp6 hg8 hf8 ((unhide HG).below hs hb08) (by omega))
  have HK8:=hide (And.intro hb08 hx8)
  clear hK hk8 hb08 hx8 hy8 ho8 hg8 hf8 hcy7 HROW6 HK6 HFN HW hb8
  go_wp2_with fail
  refine (unhide HW8).mono ?_
  rintro e w9 ⟨ya,yc,rfl,hrow9,hb9⟩
  have hK:=unhide HK8
  have hs9:=hb9.size
  have hx9:=(hb9.block w3.heap.size (by omega)).trans hK.2
  have hcx9:∀ j,w9.cell? ⟨w3.heap.size,j,none⟩=[.slice x4 E.length c4,.int .i64 0,.int .i64 0,.int .i64 atx,.int .i64 p4.ln,.int .i64 p4.co,.slice p4.oa p4.on p4.oc][j]? := fun j=>by simp [World.cell?,hx9,outCells]
  have hcv1:=conv_row hrow9
  have hcv2:=conv_row (row_keep (unhide HROW8) fun k hk=>hb9.block k hk)
  have hb09:=hK.1.trans (hb9.mono hK.1.size)
  have HB9:=hide hb09
  have e0:((0:Int) == 0)=true:=rfl
  have e1:decide ((1:Int)<(E.length:Int))=true:=by simp;omega
  have e2:decide (1<E.length)=true:=by simp;omega
  clear hK hx9 hrow9 hb9 hb09 HROW8 HW8 HK8 hcy8 hco8 HROW
  go_wp2
  go_ret
  exact ⟨rfl,unhide HB9⟩
theorem Canon_any (a b c:Int) (nm:Bool) (ha:I64 a) (hb:I64 b) (hc:I64 c) (text:Bs) (cuts:List Int) (ca:Option Addr) (cc:Nat) (hT:text.length≤1048576) (hC:cuts.length≤1120000) (w:World)
    (hcut:∀ j (hj:j<cuts.length), ∃ cg co,ca=some ⟨cg,co,none⟩∧cg<w.heap.size∧w.cell? ⟨cg,co + j,none⟩=some (.int .i64 cuts[j])) (hi64:∀ c ∈ cuts,I64 c) (hG:Gl w) (hs:6<w.heap.size) :
    Calls Tryz.prog 9 #[.int .i64 a,.int .i64 b,.int .i64 c,.bool nm,.string ⟨text.toArray⟩,.slice ca cuts.length cc] w fun e w' => e = .returned (.bool true)∧Below w.heap.size w w' := by
  cases nm with
  | false=>exact Canon_false a b c ha hb hc text cuts ca cc hT hC w hcut hi64 hG hs
  | true =>
    by_cases h8:(Mk.feedAll (Mk.make_ (1 + pk a 64) (pk b 33) (8 + pk c 1017) true) (compl (Mk.make_ (1 + pk a 64) (pk b 33) (8 + pk c 1017) true) text)).ended=8
    · exact Canon_bad a b c ha hb hc text cuts ca cc hT hC w hcut hi64 hG hs h8
    · exact Canon_ok a b c ha hb hc text cuts ca cc hT hC w hcut hi64 hG hs h8
end Go.Proofs.YtmgfijllcdadgabGreatDoor
