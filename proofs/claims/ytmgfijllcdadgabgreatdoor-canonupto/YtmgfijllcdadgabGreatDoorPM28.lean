/- Run2, Same2 -/
import Derived.Test.YtmgfijllcdadgabGreatDoorPM27
import Derived.Test.YtmgfijllcdadgabGreatDoorPM25
set_option linter.unusedVariables false
set_option linter.unusedSimpArgs false
namespace Go.Proofs.YtmgfijllcdadgabGreatDoor
open Go.RowKit
open Mk (St Bs Ev Att)
theorem belowN {B:Nat} {a w:World} (h:Below B a w) (n:Nat):Below B a (w.drewN n):=⟨h.os,h.tape,h.output,h.size,h.block⟩
set_option maxHeartbeats 4000000 in
set_option maxRecDepth 100000 in
theorem run_any7 (d a t:Int) (nm:Bool) (d1:1≤d) (d2:d≤64) (a1:0≤a) (a2:a≤32) (t1:8≤t) (t2:t≤1024) (text:Bs) (cuts:List Int) (ca:Option Addr) (cc:Nat) (hT:text.length≤7000000) (hC:cuts.length≤1000000000000000) (w:World)
    (hcut:∀ j (hj:j<cuts.length), ∃ cg co,ca=some ⟨cg,co,none⟩∧cg<w.heap.size∧w.cell? ⟨cg,co + j,none⟩=some (.int .i64 cuts[j])) (hi64:∀ c ∈ cuts,I64 c) (hG:Gl w) (hs:6<w.heap.size) :
    Calls Tryz.prog 15 #[.agg #[.int .i64 d,.int .i64 a,.int .i64 t,.bool nm],.string ⟨text.toArray⟩,.slice ca cuts.length cc] w fun e w' => ∃ v fp q,e = .returned (.tuple #[.agg (outCells v (runL (Mk.make_ d a t nm) [] 0 text cuts).2.2 (Mk.close (runL (Mk.make_ d a t nm) [] 0 text cuts).1).2 (runL (Mk.make_ d a t nm) [] 0 text cuts).1.at_ q),.bool true])∧Got w' v (runL (Mk.make_ d a t nm) [] 0 text cuts).2.1 fp∧(∀ k ∈ fp,w.heap.size≤k∧k<w'.heap.size)∧Below w.heap.size w w' ∧ PlOk w.heap.size w' q (runL (Mk.make_ d a t nm) [] 0 text cuts).1:=by
  obtain ⟨FIN,hFIN⟩:∃ FIN,FIN=runL (Mk.make_ d a t nm) [] 0 text cuts:=⟨_,rfl⟩
  rw [← hFIN]
  have HFIN:=hide hFIN
  have HN:=hide (fun w=>new_any d a t nm d1 d2 a1 a2 t1 t2 w)
  have HC:=hide hcut
  have HI:=hide hi64
  have HG:=hide hG
  clear hFIN hcut hi64 hG
  go_enter Tryz.func15,Tryz.ntmps15
  go_wp2_with fail
  refine (unhide HN _).mono ?_
  rintro e w1 ⟨b,rfl,hb,hbel,hrd⟩
  simp at hb
  have hx1:w1.heap[w.heap.size + 1 + 1]? = some (.cells (outCells (.slice none 0 0) 0 0 0 Q0) 38 (0,0)):=by
    rw [hbel.block _ (by simp)]
    exact heap_alloc3_new w _ _ _
  have hx2:w1.heap[w.heap.size + 1]? = some (.cells (outCells (.slice none 0 0) 0 0 0 Q0) 38 (0,0)):=by
    rw [hbel.block _ (by simp)]
    rw [Below.heap_alloc _ _ _ (by simp)]
    exact heap_alloc2_new w _ _
  have hbw:Below w.heap.size w w1:=((((Below.refl _ _).alloc (Nat.le_refl _) _).alloc (by simp) _).alloc (by simp <;> omega) _).trans (hbel.mono (by simp <;> omega))
  have HR:Hid (RunI w w1 b (Mk.make_ d a t nm) (L0 b) (.slice none 0 0) [] [] 0 0 0):=⟨hbw,by omega,hrd,hx1,hx2,got_nil _,(fun k hk=>by cases hk),inv_make d a t nm a2,rfl,by simp [Mk.make_],by simp [Mk.make_],by simp,(fun e he=>by cases he),rfl⟩
  clear hx1 hx2 hbw hbel hrd hb HN
  go_wp2
  go_loopw [1,11] (fun s1 s11 w' => ∃ (i fed:Nat) (rest:Bs) (s:St) (L:Lay) (v:Value) (evs:List Ev) (fp:List Nat) (err:Int),s1 = .string ⟨rest.toArray⟩∧s11 = .int .i64 i∧i≤cuts.length + 1∧fed + rest.length=text.length∧RunI w w' b s L v evs fp err fed i∧((i≤cuts.length∧FIN=runL s evs err rest (cuts.drop i))∨(i=cuts.length + 1∧FIN=(s,evs,err)))) (fun _ i _=>cuts.length + 1 - (intOf i).toNat)
  case atStart=>exact ⟨0,0,text,_,_,_,_,_,_,rfl,rfl,by omega,by omega,unhide HR,.inl ⟨by omega,by rw [unhide HFIN];rfl⟩⟩
  case round =>
    obtain ⟨i,fed,rest,s,L,v,evs,fp,err,rfl,rfl,hi,hfed,R,hor⟩:=hrel
    clear HR HFIN
    rcases hor with ⟨hile,hfin⟩ | ⟨hieq,hfin⟩
    · obtain ⟨n,hn,hn2⟩:∃ n:Nat,n≤rest.length∧((i<cuts.length∧FIN=runL (Mk.feed s (rest.take n)).1 (join evs (Mk.feed s (rest.take n)).2.1) (Mk.feed s (rest.take n)).2.2 (rest.drop n) (cuts.drop (i + 1))∧(pk (cuts[i]?.getD 0) (rest.length + 1)=n))∨(i=cuts.length∧n=rest.length∧FIN=((Mk.feed s (rest.take n)).1,join evs (Mk.feed s (rest.take n)).2.1,(Mk.feed s (rest.take n)).2.2))):=by
        by_cases hlt:i<cuts.length
        · have hb:=pk_bd cuts[i] (rest.length + 1) (by omega)
          refine ⟨(pk cuts[i] (rest.length + 1)).toNat,by omega,.inl ⟨hlt,?_,?_⟩⟩
          · rw [hfin];exact runL_cons s evs err rest cuts i hlt _ (by omega)
          · simp [hlt];omega
        · refine ⟨rest.length,Nat.le_refl _,.inr ⟨by omega,rfl,?_⟩⟩
          rw [hfin,List.drop_eq_nil_of_le (by omega),List.take_length]
          rfl
      clear hfin
      have e1:decide ((i:Int)≤(cuts.length:Int))=true:=by simp;omega
      rcases hn2 with ⟨hlt,hfin,hpk⟩ | ⟨hieq,rfl,hfin⟩
      · have e2:decide ((i:Int)<(cuts.length:Int))=true:=by simp;omega
        obtain ⟨cg,co,rfl,hcg,hcc⟩:=unhide HC i hlt
        have hci:wr.cell? ⟨cg,co + i,none⟩=some (.int .i64 cuts[i]):=by
          have:wr.cell? ⟨cg,co + i,none⟩=w.cell? ⟨cg,co + i,none⟩:=by simp only [World.cell?];rw [R.bel.block _ hcg]
          rw [this];exact hcc
        have hii:=unhide HI cuts[i] (List.getElem_mem hlt)
        have hpk' : pk cuts[i] (rest.length + 1)=n:=by rw [← hpk];simp [hlt]
        have HP:=hide (fun w=>pick_any cuts[i] (rest.length + 1) hii.1 hii.2 (by omega) (by omega) w)
        rw [hpk'] at HP
        clear hpk' hpk hcc hii
        obtain ⟨W1,c,hconv,hbW,hW1s,hcells⟩:=conv_bytes wr (rest.take n)
        have hl:(rest.take n).length=n:=by simp [hn]
        rw [← ext_take] at hconv
        obtain ⟨va,vc,rfl⟩:=R.got.slice
        have hrl:=R.rd.lt
        have hrdW:RdL W1 b s L:=R.rd.keep fun k hk=>hbW.block k (by
          rcases hk with rfl | hk
          · exact hrl
          · exact (R.rd.foot_lt _ hk).2)
        have hGW:Gl W1:=((unhide HG).below hs R.bel).below (by have:=R.bel.size;omega) hbW
        have HF:=hide (Feed_any hrdW R.inv (rest.take n) (by rw [hl];omega) hGW (by have:=R.hb;omega) R.at0 (by have:=R.at1;omega) wr.heap.size c (by omega) (by omega) (fun hm=>by have:=(R.rd.foot_lt _ hm).2;omega) hcells)
        rw [hl] at HF hconv
        have hgot1:=R.got
        have HFN:=hide hfin
        have HR:=hide R
        have HBW:=hide hbW
        clear R hfin hrdW hGW hcells hgot1 hbW
        go_wp2_with fail
        refine (unhide HP _).mono ?_
        rintro e w' ⟨rfl,rfl⟩
        go_wp2_with fail
        clear hconv
        refine (unhide HF).mono ?_
        rintro e w2 ⟨v2,fp2,L2,rfl,hgot2,⟨a2,n2,c2,rfl⟩,hM,hf2⟩
        have hbx:=(unhide HR).box (w.heap.size + 1 + 1) (by omega)
        have hx2:=((unhide HR).away (unhide HBW) hM _ hbx.1 hbx.2.1 hbx.2.2).1.trans (unhide HR).xb
        have hcx:∀ j,w2.cell? ⟨w.heap.size + 1 + 1,j,none⟩=[.slice va evs.length vc,.int .i64 err,.int .i64 0,.int .i64 0,.int .i64 0,.int .i64 0,.slice none 0 0][j]? := fun j=>by simp [World.cell?,hx2,outCells,Q0]
        have hfx:∀ j,w2.frozen? ⟨w.heap.size + 1 + 1,j,none⟩=false:=fun j=>by simp [World.frozen?,hx2]
        have hgotw2:=(unhide HR).got.keep (w' := w2) fun k hk=>((unhide HR).away (unhide HBW) hM k ((unhide HR).fpb k hk).2.1 ((unhide HR).fpb k hk).2.2.1 ((unhide HR).fpb k hk).2.2.2).1
        have hlen:=feed_len5 s (rest.take n) (unhide HR).inv (unhide HR).li (unhide HR).tx
        rw [hl] at hlen
        have hevl:=(unhide HR).len
        have HJ:=hide (joined_any hgotw2 hgot2 ((unhide HR).apart (unhide HBW) hf2) (fun k hk=>(hf2 k hk).2.1) (fed * 13300000000) 100000000 (unhide HR).vals (fun x hx=>by have:=vals_feed (unhide HR).inv (rest.take n) x hx;rw [hl] at this;omega) (by omega) (by omega))
        have HM:=hide hM
        have HF2:=hide hf2
        clear hM hf2 hgot2 hgotw2 HF hlen hevl
        go_wp2_with fail
        refine (unhide HJ).mono ?_
        rintro e w3 ⟨v3,fp3,rfl,hj⟩
        obtain ⟨a3,c3,rfl⟩:=hj.got.slice
        have hw2:w.heap.size + 1 + 1<w2.heap.size:=by
          have h1:=(unhide HBW).size
          have h2:=(unhide HM).fr.size
          omega
        have hx3:=(hj.jf.gr.block (w.heap.size + 1 + 1) hw2 (fun e=>by
          have:=((unhide HR).fpb _ ((unhide HR).got.own _ e.symm)).1
          omega)).trans hx2
        have hcx3:∀ j,w3.cell? ⟨w.heap.size + 1 + 1,j,none⟩=[.slice va evs.length vc,.int .i64 err,.int .i64 0,.int .i64 0,.int .i64 0,.int .i64 0,.slice none 0 0][j]? := fun j=>by simp [World.cell?,hx3,outCells,Q0]
        have hfx3:∀ j,w3.frozen? ⟨w.heap.size + 1 + 1,j,none⟩=false:=fun j=>by simp [World.frozen?,hx3]
        have hnext:=(unhide HR).step (rest.take n) (unhide HBW) (unhide HM) (unhide HF2) hj (by rw [hl];omega) (unhide HR).bel.size
        rw [hl] at hnext
        have HNX:=hide hnext
        clear hj hnext hx3 hx2 HJ HM HF2 HBW hw2 hcx hfx hbx HR
        go_wp2
        obtain ⟨fp', hR'⟩:=unhide HNX
        exact ⟨⟨i + 1,fed + n,rest.drop n,_,_,_,_,fp', _,by rw [← ext_drop],rfl,by omega,by rw [List.length_drop];omega,hR', .inl ⟨by omega,unhide HFN⟩⟩,by simp [intOf] <;> omega⟩
      · subst hieq
        have e2:decide ((cuts.length:Int)<(cuts.length:Int))=false:=by simp
        obtain ⟨W1,c,hconv,hbW,hW1s,hcells⟩:=conv_bytes wr (rest.take rest.length)
        have hl:(rest.take rest.length).length=rest.length:=by simp [hn]
        rw [← ext_take] at hconv
        obtain ⟨va,vc,rfl⟩:=R.got.slice
        have hrl:=R.rd.lt
        have hrdW:RdL W1 b s L:=R.rd.keep fun k hk=>hbW.block k (by
          rcases hk with rfl | hk
          · exact hrl
          · exact (R.rd.foot_lt _ hk).2)
        have hGW:Gl W1:=((unhide HG).below hs R.bel).below (by have:=R.bel.size;omega) hbW
        have HF:=hide (Feed_any hrdW R.inv (rest.take rest.length) (by rw [hl];omega) hGW (by have:=R.hb;omega) R.at0 (by have:=R.at1;omega) wr.heap.size c (by omega) (by omega) (fun hm=>by have:=(R.rd.foot_lt _ hm).2;omega) hcells)
        rw [hl] at HF hconv
        have hgot1:=R.got
        have HFN:=hide hfin
        have HR:=hide R
        have HBW:=hide hbW
        clear R hfin hrdW hGW hcells hgot1 hbW
        go_wp2_with fail
        clear hconv
        refine (unhide HF).mono ?_
        rintro e w2 ⟨v2,fp2,L2,rfl,hgot2,⟨a2,n2,c2,rfl⟩,hM,hf2⟩
        have hbx:=(unhide HR).box (w.heap.size + 1 + 1) (by omega)
        have hx2:=((unhide HR).away (unhide HBW) hM _ hbx.1 hbx.2.1 hbx.2.2).1.trans (unhide HR).xb
        have hcx:∀ j,w2.cell? ⟨w.heap.size + 1 + 1,j,none⟩=[.slice va evs.length vc,.int .i64 err,.int .i64 0,.int .i64 0,.int .i64 0,.int .i64 0,.slice none 0 0][j]? := fun j=>by simp [World.cell?,hx2,outCells,Q0]
        have hfx:∀ j,w2.frozen? ⟨w.heap.size + 1 + 1,j,none⟩=false:=fun j=>by simp [World.frozen?,hx2]
        have hgotw2:=(unhide HR).got.keep (w' := w2) fun k hk=>((unhide HR).away (unhide HBW) hM k ((unhide HR).fpb k hk).2.1 ((unhide HR).fpb k hk).2.2.1 ((unhide HR).fpb k hk).2.2.2).1
        have hlen:=feed_len5 s (rest.take rest.length) (unhide HR).inv (unhide HR).li (unhide HR).tx
        rw [hl] at hlen
        have hevl:=(unhide HR).len
        have HJ:=hide (joined_any hgotw2 hgot2 ((unhide HR).apart (unhide HBW) hf2) (fun k hk=>(hf2 k hk).2.1) (fed * 13300000000) 100000000 (unhide HR).vals (fun x hx=>by have:=vals_feed (unhide HR).inv (rest.take rest.length) x hx;rw [hl] at this;omega) (by omega) (by omega))
        have HM:=hide hM
        have HF2:=hide hf2
        clear hM hf2 hgot2 hgotw2 HF hlen hevl
        go_wp2_with fail
        refine (unhide HJ).mono ?_
        rintro e w3 ⟨v3,fp3,rfl,hj⟩
        obtain ⟨a3,c3,rfl⟩:=hj.got.slice
        have hw2:w.heap.size + 1 + 1<w2.heap.size:=by
          have h1:=(unhide HBW).size
          have h2:=(unhide HM).fr.size
          omega
        have hx3:=(hj.jf.gr.block (w.heap.size + 1 + 1) hw2 (fun e=>by
          have:=((unhide HR).fpb _ ((unhide HR).got.own _ e.symm)).1
          omega)).trans hx2
        have hcx3:∀ j,w3.cell? ⟨w.heap.size + 1 + 1,j,none⟩=[.slice va evs.length vc,.int .i64 err,.int .i64 0,.int .i64 0,.int .i64 0,.int .i64 0,.slice none 0 0][j]? := fun j=>by simp [World.cell?,hx3,outCells,Q0]
        have hfx3:∀ j,w3.frozen? ⟨w.heap.size + 1 + 1,j,none⟩=false:=fun j=>by simp [World.frozen?,hx3]
        have hnext:=(unhide HR).step (rest.take rest.length) (unhide HBW) (unhide HM) (unhide HF2) hj (by rw [hl];omega) (unhide HR).bel.size
        rw [hl] at hnext
        have HNX:=hide hnext
        clear hj hnext hx3 hx2 HJ HM HF2 HBW hw2 hcx hfx hbx HR
        go_wp2
        obtain ⟨fp', hR'⟩:=unhide HNX
        have hfn:=unhide HFN
        rw [List.take_length] at hR' hfn
        exact ⟨⟨cuts.length + 1,fed + rest.length,[],_,_,_,_,fp', _,rfl,rfl,by omega,by simpa using hfed,hR', .inr ⟨rfl,hfn⟩⟩,by simp [intOf] <;> omega⟩
    · have e1:decide ((i:Int)≤(cuts.length:Int))=false:=by simp;omega
      have HFN:=hide hfin
      have HR:=hide R
      have HK:=hide (close_any R.rd)
      have hbs:=R.hb
      have hnx:w.heap.size + 1 + 1 ∉ foot s L:=fun hm=>by have:=(R.rd.foot_lt _ hm).1;omega
      have hnr:w.heap.size + 1 ∉ foot s L:=fun hm=>by have:=(R.rd.foot_lt _ hm).1;omega
      have hszr:=R.rd.lt
      clear R hfin
      go_wp2_with fail
      refine (unhide HK).mono ?_
      rintro e w1 ⟨rfl,L1,hm1⟩
      have hx1:w1.heap[w.heap.size + 1 + 1]? = some (.cells (outCells v err 0 0 Q0) 38 (0,0)):=(hm1.fr.block _ (by omega) (by omega) hnx).trans (unhide HR).xb
      have hr1:w1.heap[w.heap.size + 1]? = some (.cells (outCells (.slice none 0 0) 0 0 0 Q0) 38 (0,0)):=(hm1.fr.block _ (by omega) (by omega) hnr).trans (unhide HR).rb
      have hcx:∀ j,w1.cell? ⟨w.heap.size + 1 + 1,j,none⟩=[v,.int .i64 err,.int .i64 0,.int .i64 0,.int .i64 0,.int .i64 0,.slice none 0 0][j]? := fun j=>by simp [World.cell?,hx1,outCells,Q0]
      have hfx:∀ j,w1.frozen? ⟨w.heap.size + 1 + 1,j,none⟩=false:=fun j=>by simp [World.frozen?,hx1]
      have hcr:∀ j,w1.cell? ⟨w.heap.size + 1,j,none⟩=[.slice none 0 0,.int .i64 0,.int .i64 0,.int .i64 0,.int .i64 0,.int .i64 0,.slice none 0 0][j]? := fun j=>by simp [World.cell?,hr1,outCells,Q0]
      have hfr:∀ j,w1.frozen? ⟨w.heap.size + 1,j,none⟩=false:=fun j=>by simp [World.frozen?,hr1]
      have hsz1:=hm1.fr.size
      have hgot1:Got w1 v evs fp:=(unhide HR).got.keep fun q hq=>hm1.fr.block q ((unhide HR).fpb q hq).2.1 ((unhide HR).fpb q hq).2.2.1 ((unhide HR).fpb q hq).2.2.2
      have hbel1:Below w.heap.size w w1:=(unhide HR).bel.trans ⟨hm1.fr.os,hm1.fr.tape,hm1.fr.output,hm1.fr.size,fun q hq=>hm1.fr.block q (by omega) (by omega) (fun hm=>by have:=((unhide HR).rd.foot_lt _ hm).1;omega)⟩
      have hnx1:w.heap.size + 1 + 1 ∉ foot (Mk.close s).1 L1:=fun hm=>by have:=(hm1.rd.foot_lt _ hm).1;omega
      have hrdX:∀ W,RdL W b (Mk.close s).1 L1→∀ j u,RdL (W.setCell ⟨w.heap.size + 1 + 1,j,none⟩ u) b (Mk.close s).1 L1:=fun W hW j u=>hW.keep fun q hq=>Below.heap_setCell _ _ _ _ (by
        show q ≠ w.heap.size + 1 + 1
        rcases hq with rfl | hq
        · omega
        · intro e;rw [e] at hq;exact hnx1 hq)
      have hrd2:=hrdX _ hm1.rd 2 (.int .i64 (Mk.close s).2)
      have hrd3:=hrdX _ hrd2 3 (.int .i64 s.at_)
      have hrd5:=fun n=>hrdX _ (hrdX _ (hrd3.drewN n) 4 (.int .i64 s.line)) 5 (.int .i64 s.column)
      have hA:=at_any hrd2
      rw [close_at] at hA
      have hP:=place_any hrd3
      rw [(close_place s).1,(close_place s).2.1] at hP
      have hol:s.opn.length≤1000000000:=by have:=(unhide HR).inv.ho;omega
      have hO:=fun n=>open_any (hrd5 n) (by rw [(close_place s).2.2];exact hol)
      rw [(close_place s).2.2] at hO
      have HA:=hide hA
      have HP:=hide hP
      have HO:=hide hO
      have HG1:=hide hgot1
      have HB1:=hide hbel1
      have HFB:=hide (fun q hq=>((unhide HR).fpb q hq).1)
      have HFB2:=hide (fun q hq=>((unhide HR).fpb q hq).2.1)
      obtain ⟨va,vn,vc,rfl⟩:∃ a n c,v = .slice a n c:=by obtain ⟨es,_,hrw,_⟩:=hgot1.ex;obtain ⟨x1,x2,x3⟩:=slice_form hrw;exact ⟨_,_,_,x3⟩
      have HR1:=hide hr1
      have HX1:=hide hx1
      clear hm1 hx1 hr1 hgot1 hbel1 hrd2 hrd3 hrd5 hrdX hA hP hO hnx1 hnx hnr HK HR hol
      go_wp2_with (first
        | (go_at_call 39;refine (unhide HA).mono ?_;rintro e w' ⟨rfl,rfl⟩)
        | (go_at_call 40;refine (unhide HP).mono ?_;rintro e w' ⟨rfl,n,rfl⟩))
      refine (unhide HO n).mono ?_
      rintro e w5 ⟨oa,oc,rfl,hnm,hb5⟩
      have hb5s:=hb5.size
      simp at hb5s
      have hx5:w5.heap[w.heap.size + 1 + 1]? = some (.cells #[.slice va vn vc,.int .i64 err,.int .i64 (Mk.close s).2,.int .i64 s.at_,.int .i64 s.line,.int .i64 s.column,.slice none 0 0] 38 (0,0)):=by
        rw [hb5.block _ (by simp;omega)]
        have g3:=set_row (j:=3) (u:=.int .i64 s.at_) (set_row (j:=2) (u:=.int .i64 (Mk.close s).2) (unhide HX1) rfl) rfl
        rw [← heap_drewN _ n] at g3
        exact set_row (set_row g3 rfl) rfl
      have hr5:w5.heap[w.heap.size + 1]? = some (.cells (outCells (.slice none 0 0) 0 0 0 Q0) 38 (0,0)):=by
        rw [hb5.block _ (by simp;omega),Below.heap_setCell _ _ _ _ (show w.heap.size + 1 ≠ w.heap.size + 1 + 1 by omega),Below.heap_setCell _ _ _ _ (show w.heap.size + 1 ≠ w.heap.size + 1 + 1 by omega),heap_drewN,Below.heap_setCell _ _ _ _ (show w.heap.size + 1 ≠ w.heap.size + 1 + 1 by omega),Below.heap_setCell _ _ _ _ (show w.heap.size + 1 ≠ w.heap.size + 1 + 1 by omega)]
        exact unhide HR1
      have hb15:Below w1.heap.size (((((w1.setCell ⟨w.heap.size + 1 + 1,2,none⟩ (.int .i64 (Mk.close s).2)).setCell ⟨w.heap.size + 1 + 1,3,none⟩ (.int .i64 s.at_)).drewN n).setCell ⟨w.heap.size + 1 + 1,4,none⟩ (.int .i64 s.line)).setCell ⟨w.heap.size + 1 + 1,5,none⟩ (.int .i64 s.column)) w5:=hb5.mono (by simp)
      have hk5:∀ k,k ≠ w.heap.size + 1 + 1→k<w1.heap.size→w5.heap[k]? = w1.heap[k]? := fun k hk hl=>by
        rw [hb15.block _ hl,Below.heap_setCell _ _ _ _ hk,Below.heap_setCell _ _ _ _ hk,heap_drewN,Below.heap_setCell _ _ _ _ hk,Below.heap_setCell _ _ _ _ hk]
      have hbel5:Below w.heap.size w w5:=((belowN (((unhide HB1).setCell (by simp <;> omega) _).setCell (by simp <;> omega) _) n).setCell (by simp <;> omega) _ |>.setCell (by simp <;> omega) _).trans (hb15.mono (by have:=(unhide HB1).size;omega))
      have hc5:∀ j,w5.cell? ⟨w.heap.size + 1 + 1,j,none⟩=[.slice va vn vc,.int .i64 err,.int .i64 (Mk.close s).2,.int .i64 s.at_,.int .i64 s.line,.int .i64 s.column,.slice none 0 0][j]? := fun j=>by simp [World.cell?,hx5]
      have hf5:∀ j,w5.frozen? ⟨w.heap.size + 1 + 1,j,none⟩=false:=fun j=>by simp [World.frozen?,hx5]
      have hcr5:∀ j,w5.cell? ⟨w.heap.size + 1,j,none⟩=[.slice none 0 0,.int .i64 0,.int .i64 0,.int .i64 0,.int .i64 0,.int .i64 0,.slice none 0 0][j]? := fun j=>by simp [World.cell?,hr5,outCells,Q0]
      have hfr5:∀ j,w5.frozen? ⟨w.heap.size + 1,j,none⟩=false:=fun j=>by simp [World.frozen?,hr5]
      have hsz5:w1.heap.size≤w5.heap.size:=by have:=hb15.size;simpa using this
      have HNM:=hide hnm
      have HR5:=hide hr5
      have HK5:=hide hk5
      have HB5:=hide hbel5
      have HOS:Hid (∀ k,Value.ownBlock (.slice oa s.opn.length oc)=some k→w1.heap.size≤k):=fun k hk=>by have:=(World.ownsRow.lt hnm k hk).1;simpa using this
      clear hnm hx5 hr5 hb5 hb15 hbel5 hk5 hcx hfx hcr hfr HA HP HO HX1 HR1
      go_wp2
      rw [unhide HFN]
      refine bodyPost_ret (w:=outW w5 (w.heap.size + 1 + 1) (w.heap.size + 1) (.slice oa s.opn.length oc) (.slice va vn vc) (.int .i64 err) (.int .i64 (Mk.close s).2) (.int .i64 s.at_) (.int .i64 s.line) (.int .i64 s.column) (.slice oa s.opn.length oc)) (v:=.tuple #[.agg (outCells (.slice va vn vc) err (Mk.close s).2 s.at_ ⟨s.line,s.column,oa,s.opn.length,oc⟩),.bool true]) ?r1 rfl ⟨_,fp,⟨s.line,s.column,oa,s.opn.length,oc⟩,rfl,?g1,?g2,?g3,?g4⟩
      case r1=>exact results_row_tmp (P:=Tryz.prog) (fn:=Tryz.f15) (p:=6) (u:=7) (ty:=38) rfl _ _ (w.heap.size + 1) 38 _ (0,0) _ rfl (outW_row _ _ _ _ _ _ _ _ _ _ _ (show w.heap.size + 1 ≠ w.heap.size + 1 + 1 by omega) _ _ _ _ _ _ _ _ (unhide HR5)) Tryz.underlying38 rfl rfl
      case g1 =>
        refine (unhide HG1).keep fun q hq => ?_
        have h1:=unhide HFB q hq
        have h2:=unhide HFB2 q hq
        rw [outW_block _ _ _ _ _ _ _ _ _ _ _ q (by omega) (by omega)]
        exact unhide HK5 q (by omega) (by omega)
      case g2 =>
        intro q hq
        have h1:=unhide HFB q hq
        have h2:=unhide HFB2 q hq
        rw [outW_size]
        exact ⟨by omega,by omega⟩
      case g3=>exact outW_below _ _ _ _ _ _ _ _ _ _ _ (unhide HB5) (by omega) (by omega)
      case g4 =>
        refine ⟨rfl,rfl,?_⟩
        have h0:=(unhide HB5).size
        have hN:Nms w.heap.size w5 oa s.opn.length oc s.opn:=owns_base (unhide HNM) (by have:=(unhide HB1).size;simp;omega)
        exact owned_keep (r:=⟨9,1,.slice oa s.opn.length oc,s.opn.length,s.opn.map sv⟩) hN fun k hv=>outW_block _ _ _ _ _ _ _ _ _ _ _ k (by have:=unhide HOS k hv;omega) (by have:=unhide HOS k hv;omega)
theorem run_any (d a t:Int) (nm:Bool) (d1:1≤d) (d2:d≤64) (a1:0≤a) (a2:a≤32) (t1:8≤t) (t2:t≤1024) (text:Bs) (cuts:List Int) (ca:Option Addr) (cc:Nat) (hT:text.length≤1120000) (hC:cuts.length≤1000000000000000) (w:World)
    (hcut:∀ j (hj:j<cuts.length), ∃ cg co,ca=some ⟨cg,co,none⟩∧cg<w.heap.size∧w.cell? ⟨cg,co + j,none⟩=some (.int .i64 cuts[j])) (hi64:∀ c ∈ cuts,I64 c) (hG:Gl w) (hs:6<w.heap.size) :
    Calls Tryz.prog 15 #[.agg #[.int .i64 d,.int .i64 a,.int .i64 t,.bool nm],.string ⟨text.toArray⟩,.slice ca cuts.length cc] w fun e w' => ∃ v fp q,e = .returned (.tuple #[.agg (outCells v (runL (Mk.make_ d a t nm) [] 0 text cuts).2.2 (Mk.close (runL (Mk.make_ d a t nm) [] 0 text cuts).1).2 (runL (Mk.make_ d a t nm) [] 0 text cuts).1.at_ q),.bool true])∧Got w' v (runL (Mk.make_ d a t nm) [] 0 text cuts).2.1 fp∧(∀ k ∈ fp,w.heap.size≤k∧k<w'.heap.size)∧Below w.heap.size w w' ∧ PlOk w.heap.size w' q (runL (Mk.make_ d a t nm) [] 0 text cuts).1:=
  run_any7 d a t nm d1 d2 a1 a2 t1 t2 text cuts ca cc (by omega) hC w hcut hi64 hG hs
theorem fine_yes (v:Value) (at_:Int) (q:Plc) (hv:∃ a n c,v = .slice a n c) (w:World):Calls Tryz.prog 17 #[.agg (outCells v 0 0 at_ q)] w fun e w' => e = .returned (.bool true)∧Below w.heap.size w w' := by
  obtain ⟨va,vn,vc,rfl⟩:=hv
  unfold outCells
  go_enter Tryz.func17,Tryz.ntmps17
  go_wp2
  go_ret
  exact ⟨rfl,(Below.refl _ _).alloc (by simp) _⟩
end Go.Proofs.YtmgfijllcdadgabGreatDoor
