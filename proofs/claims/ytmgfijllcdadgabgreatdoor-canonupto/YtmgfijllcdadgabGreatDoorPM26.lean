/- Joined2, Lists -/
import Derived.Test.YtmgfijllcdadgabGreatDoorPM25
import Derived.Test.YtmgfijllcdadgabGreatDoorPM23
set_option linter.unusedVariables false
set_option linter.unusedSimpArgs false
namespace Go.Proofs.YtmgfijllcdadgabGreatDoor
open Go.RowKit
open Mk (St Bs Ev Att)
theorem joinOne_bd {all:List Ev} {e:Ev} {N M:Nat} (hN:∀ x ∈ all,x.val.length≤N) (hM:e.val.length≤M):∀ x ∈ joinOne all e,x.val.length≤N + M:=by
  intro x hx
  unfold joinOne at hx
  split at hx
  · rename_i y hy
    have hy' := List.mem_of_getLast? hy
    split at hx
    · rcases List.mem_append.1 hx with hx | hx
      · have:=hN x (List.dropLast_subset _ hx);omega
      · simp at hx
        subst hx
        have:=hN y hy'
        simp;omega
    · rcases List.mem_append.1 hx with hx | hx
      · have:=hN x hx;omega
      · simp at hx;subst hx;omega
  · simp at hx;subst hx;omega
theorem join_bd {M:Nat}:∀ (l:List Ev) {all:List Ev} {N:Nat},(∀ x ∈ all,x.val.length≤N)→(∀ x ∈ l,x.val.length≤M)→∀ x ∈ join all l,x.val.length≤N + l.length * M
  | [],all,N,hN,_,x,hx=>by have:=hN x hx;omega
  | e :: r,all,N,hN,hM,x,hx=>by
    have h1:=joinOne_bd hN (hM e List.mem_cons_self)
    have h2:=join_bd r h1 (fun y hy=>hM y (List.mem_cons_of_mem _ hy)) x hx
    rw [List.length_cons,Nat.succ_mul]
    omega
theorem cat_str (a b:Bs):(⟨a.toArray⟩:ByteArray) ++ (⟨b.toArray⟩:ByteArray)=⟨(a ++ b).toArray⟩:=by
  apply ByteArray.ext
  simp
set_option maxHeartbeats 4000000 in
set_option maxRecDepth 100000 in
theorem joined_any {w:World} {v1 v2:Value} {all l:List Ev} {fp1 fp2:List Nat} (h1:Got w v1 all fp1) (h2:Got w v2 l fp2) (hd:∀ k,v1.ownBlock=some k→k ∉ fp2) (hlt2:∀ k ∈ fp2,k<w.heap.size)
    (N M:Nat) (hN:∀ e ∈ all,e.val.length≤N) (hM:∀ e ∈ l,e.val.length≤M) (hNM:N + l.length * M + M≤200000000000000000) (hal:all.length + l.length≤1000000000) :
    Calls Tryz.prog 38 #[v1,v2] w fun e w' => ∃ v fp,e = .returned v∧Jn w w' v1 v (fp1 ++ fp2) fp (join all l):=by
  have H2:=hide h2
  obtain ⟨es2,hl2,ho2,ha2,hf2,hg2⟩:=h2.ex
  have n2:es2.length=l.length:=by rw [← hl2];simp
  obtain ⟨a2,c2,rfl⟩:=slice_form ho2
  have H1:=hide h1
  obtain ⟨es1,hl1,ho1,ha1,hf1,hg1⟩:=h1.ex
  obtain ⟨a1,c1,rfl⟩:=slice_form ho1
  have HD:=hide hd
  have HL2:=hide hlt2
  have HN:=hide hN
  have HM:=hide hM
  obtain ⟨i0,hi,hz0,hz1,hz2⟩:=info_parts infoEv
  clear h1 h2 hd hlt2 hl1 ho1 ha1 hf1 hg1 hl2 ho2 ha2 hf2 hg2 hN hM n2
  go_enter Tryz.func38,Tryz.ntmps38
  go_wp2
  go_loopw [0,5] (fun s0 i w' => ∃ (k:Nat) (v:Value) (fp:List Nat),k≤l.length∧i = .int .i64 k∧s0=v∧Jn w w' (.slice a1 all.length c1) v (fp1 ++ fp2) fp (join all (l.take k))) (fun _ i _=>l.length - (intOf i).toNat)
  case atStart=>exact ⟨0,_,fp1,by omega,rfl,rfl,Jf.refl _ _,unhide H1,fun k hk => .inl (List.mem_append_left _ hk)⟩
  case round =>
    obtain ⟨k,v,fp,hk,rfl,rfl,jn⟩:=hrel
    obtain ⟨es,hes,hrow,ha,hf,hg⟩:=jn.got.ex
    obtain ⟨a,c,rfl⟩:=slice_form hrow
    by_cases hlt:k<l.length
    · -- the list that is joined lies as it did
      have hk2:Got wr (.slice a2 l.length c2) l fp2:=(unhide H2).keep fun q hq=>jn.jf.gr.block q (unhide HL2 q hq) fun e=>unhide HD q e.symm hq
      obtain ⟨es2,hl2,ho2,ha2,hf2,hg2⟩:=hk2.ex
      have n2:es2.length=l.length:=by rw [← hl2];simp
      have k2:k<es2.length:=by omega
      obtain ⟨g2,d2,f2,hg2lt,q2⟩:=elem_cells (l:=es2) (fun p=>evCells p.1 p.2) (fun _=>rfl) (by decide) ho2 n2.symm k k2
      have r2:es2[k].1=l[k]:=by simp only [← hl2,List.getElem_map]
      injection f2 with f2 _ f2c
      have hown2:=ha2 _ (List.getElem_mem k2)
      have hblk2:∀ q,es2[k].2.ownBlock=some q→q ∈ fp2∧(Value.slice a (join all (l.take k)).length c).ownBlock ≠ some q:=by
        intro q hq
        have h7:=(hg2 q (mem_blks_of (List.getElem_mem k2) hq)).1
        refine ⟨h7,fun e => ?_⟩
        rcases jn.jf.lies with h8 | ⟨g,h8,h9⟩
        · exact unhide HD q (h8.symm.trans e) h7
        · rw [h8] at e;cases e;have:=unhide HL2 _ h7;omega
      have p0:=q2 0 (by decide)
      have p1:=q2 1 (by decide)
      have p2:=q2 2 (by decide)
      have p3:=q2 3 (by decide)
      have p4:=q2 4 (by decide)
      have hel:evRow es2[k]=evRow (l[k],es2[k].2):=by rw [← r2]
      rw [hel] at hown2
      rw [r2] at p0 p1 p2 p3 p4
      have hvl:l[k].val.length≤M:=unhide HM _ (List.getElem_mem hlt)
      have hjb:=join_bd (l.take k) (unhide HN) (fun y hy=>unhide HM y (List.mem_of_mem_take hy))
      have hjl:=join_len (l.take k) all
      have htl:(l.take k).length=k:=by simp;omega
      have hsn:=join_snoc all (l.take k) l[k]
      rw [← List.take_succ_eq_append_getElem hlt] at hsn
      obtain ⟨ev,hev⟩:∃ ev,es2[k].2=ev:=⟨_,rfl⟩
      rw [hev] at p4 hown2 hblk2
      obtain ⟨ea,ec,rfl⟩:∃ ea ec,ev = .slice ea l[k].attrs.length ec:=slice_form hown2
      simp only [evCells,List.getElem?_cons_zero,List.getElem?_cons_succ,Nat.add_zero] at p0 p1 p2 p3 p4
      rw [htl] at hjl hjb
      have hkm:k * M≤l.length * M:=Nat.mul_le_mul_right _ hk
      clear q2 hk2 hl2 ho2 ha2 hf2 hg2 hel r2 hev
      subst f2
      subst f2c
      generalize hx:l[k]=x at *
      clear hx
      generalize hs2:join all (l.take (k + 1))=A2 at *
      generalize join all (l.take k)=A at *
      have HP:Hid (∀ (w2:World) (g cap:Nat),w2.ownsRow 0 53 5 (.slice (some ⟨g,0,none⟩) (A.length + 1) cap) (A.length + 1) (evsRow es ++ evCells x (.slice ea x.attrs.length ec))→(wr.alloc (.cells #[.int .i64 x.kind,.string ⟨x.name.toArray⟩,.string ⟨x.space.toArray⟩,.string ⟨x.val.toArray⟩,.slice ea x.attrs.length ec] 53)).grownBy w2 (Value.slice a A.length c).ownBlock→((Value.slice a A.length c).ownBlock=some g∨g=wr.heap.size + 1)→Jn w w2 (.slice a1 all.length c1) (.slice (some ⟨g,0,none⟩) (A.length + 1) cap) (fp1 ++ fp2) (g :: (fp ++ fp2)) (A ++ [x])):=
        fun w2 g cap h1 h2 h3=>Jn.push es hes hrow ha hf hg jn.jf jn.sub hown2 hblk2 h1 h2 h3 (unhide HL2)
      have HO:=hide (World.ownsRow.alloc hrow (.cells #[.int .i64 x.kind,.string ⟨x.name.toArray⟩,.string ⟨x.space.toArray⟩,.string ⟨x.val.toArray⟩,.slice ea x.attrs.length ec] 53))
      have HB:=hide (show (wr.alloc (.cells #[.int .i64 x.kind,.string ⟨x.name.toArray⟩,.string ⟨x.space.toArray⟩,.string ⟨x.val.toArray⟩,.slice ea x.attrs.length ec] 53)).heap[wr.heap.size]? = _ from heap_alloc_new wr _)
      have H63:=hide (show A.length + 1≤maxLen by unfold maxLen;omega)
      have HS2:=hide hs2
      clear hs2
      rcases List.eq_nil_or_concat A with hA | ⟨B,y,hA⟩
      · have hA0:A.length=0:=by simp [hA]
        have hj1:joinOne A x=A ++ [x]:=by simp [joinOne,hA]
        rw [hj1] at hsn
        have HSN:=hide hsn
        clear hsn hA hj1 hes hrow ha hf hg jn hown2 hblk2 hjb
        go_wp2_with (at_builtin;refine wpList_append_lies _ rfl (.tmp 51) (.tmp 56) 35 rfl 0 53 i0 _ 5 80 Tryz.underlying35 hi hz0 hz1 hz2 rfl (by decide) (.slice a A.length c) A.length (evsRow es) (by simp [Act.eval,hA0]) (unhide HO) ⟨wr.heap.size,0,none⟩ 1 1 (evCells x (.slice ea x.attrs.length ec)) rfl rfl (World.news_of_block (unhide HB)) (evCells_one _ _ _ _) (by decide) (unhide H63) (by omega) (Nat.zero_le _) (wr.heap.size + 1) (by simp) ?_;intro g cap w2 hown hgrow hat hlt2;have HJ:=hide (unhide HP w2 g cap hown hgrow hat);clear hown hgrow hat)
        go_roundw
        case rel =>
          refine ⟨k + 1,_,g :: (fp ++ fp2),by omega,by go_num,rfl,?_⟩
          rw [unhide HS2,unhide HSN]
          have hj:=unhide HJ
          simpa [hA0] using hj
        case measure=>simp [intOf];omega
      · have hAl:A.length=B.length + 1:=by simp [hA]
        have hesl:es.length=A.length:=by rw [← hes];simp
        obtain ⟨esB,⟨y', yv⟩,hesc⟩:∃ esB p,es=esB ++ [p]:=by
          rcases List.eq_nil_or_concat es with h | ⟨e1,e2,h⟩
          · rw [h] at hesl;simp at hesl;omega
          · exact ⟨e1,e2,by simpa using h⟩
        have hA' : A=B ++ [y]:=by simpa using hA
        have hsp:esB.map (·.1)=B∧y' = y:=by
          rw [hesc,hA', List.map_append] at hes
          have h5:=List.append_inj' hes (by simp)
          exact ⟨h5.1,by simpa using h5.2⟩
        obtain ⟨hB,rfl⟩:=hsp
        have hbl:esB.length=B.length:=by rw [← hB];simp
        obtain ⟨g,d,f1,hglt,q1⟩:=elem_cells (l:=es) (fun p=>evCells p.1 p.2) (fun _=>rfl) (by decide) hrow hesl.symm B.length (by omega)
        have hlast:es[B.length]'(by omega)=(y', yv):=by
          have:es[B.length]? = some (y', yv):=by rw [hesc,List.getElem?_append_right (by omega)];simp [hbl]
          rw [List.getElem?_eq_getElem (by omega)] at this
          exact Option.some.inj this
        rw [hlast] at q1
        injection f1 with f1 _ f1c
        subst f1
        subst f1c
        have c0:=q1 0 (by decide)
        have c3:=q1 3 (by decide)
        simp only [evCells,List.getElem?_cons_zero,List.getElem?_cons_succ,Nat.add_zero] at c0 c3
        have hyv:y'.val.length≤N + k * M:=hjb y' (by rw [hA'];simp)
        clear q1 hlast hesl hjb
        by_cases hk3:y'.kind=3∧x.kind=3
        · obtain ⟨ky,kx⟩:=hk3
          have hj1:joinOne A x=B ++ [{ y' with val:=y'.val ++ x.val }]:=by simp [joinOne,hA', ky,kx]
          rw [hj1] at hsn
          have HSN:=hide hsn
          have HQ:Hid (Jn w (wr.setCell ⟨g,B.length * 5 + 3,none⟩ (.string ⟨(y'.val ++ x.val).toArray⟩)).drew (.slice a1 all.length c1) (.slice (some ⟨g,0,none⟩) A.length c) (fp1 ++ fp2) fp (B ++ [{ y' with val:=y'.val ++ x.val }])):=
            Jn.put esB hB hAl (by rw [← hesc];exact hrow) (by rw [← hesc];exact ha) hf (by rw [← hesc];exact hg) jn.jf jn.sub _
          have hcat:=cat_str y'.val x.val
          have hfz:wr.frozen? ⟨g,B.length * 5 + 3,none⟩=false:=by
            rcases hrow.2 with ⟨h8,_⟩ | ⟨g', cap', cur,hv8,_,hg8,_⟩
            · cases h8
            · cases hv8;exact frozen_of_row wr g _ cur _ hg8
          clear hsn hA hA' hj1 hes hrow ha hf hg jn hown2 hblk2 hesc hB HO HB HP hbl
          go_wp2
          go_region
          all_goals
            go_wp2
            go_roundw
            case rel =>
              refine ⟨k + 1,_,fp,by omega,by go_num,rfl,?_⟩
              rw [unhide HS2,unhide HSN]
              have hq:=unhide HQ
              rw [hAl] at hq
              exact hq
            case measure=>simp [intOf];omega
        · have hj1:joinOne A x=A ++ [x]:=by simp [joinOne,hA', hk3]
          rw [hj1] at hsn
          have HSN:=hide hsn
          by_cases ky:y'.kind=3
          · have kx:(x.kind == 3)=false:=by rw [beq_eq_false_iff_ne];exact fun h=>hk3 ⟨ky,h⟩
            clear hsn hA hA' hj1 hes hrow ha hf hg jn hown2 hblk2 hesc hB hbl hk3
            go_wp2_with (at_builtin;refine wpList_append_lies _ rfl (.tmp 51) (.tmp 56) 35 rfl 0 53 i0 _ 5 80 Tryz.underlying35 hi hz0 hz1 hz2 rfl (by decide) (.slice (some ⟨g,0,none⟩) A.length c) A.length (evsRow es) (by simp [Act.eval,hAl]) (unhide HO) ⟨wr.heap.size,0,none⟩ 1 1 (evCells x (.slice ea x.attrs.length ec)) rfl rfl (World.news_of_block (unhide HB)) (evCells_one _ _ _ _) (by decide) (unhide H63) (by omega) (Nat.zero_le _) (wr.heap.size + 1) (by simp) ?_;intro g' cap w2 hown hgrow hat hlt2;have HJ:=hide (unhide HP w2 g' cap hown hgrow hat);clear hown hgrow hat)
            go_roundw
            case rel =>
              refine ⟨k + 1,_,g' :: (fp ++ fp2),by omega,by go_num,rfl,?_⟩
              rw [unhide HS2,unhide HSN]
              have hj:=unhide HJ
              simpa [hAl] using hj
            case measure=>simp [intOf];omega
          · have kx:(y'.kind == 3)=false:=by rw [beq_eq_false_iff_ne];exact ky
            clear hsn hA hA' hj1 hes hrow ha hf hg jn hown2 hblk2 hesc hB hbl hk3 ky
            go_wp2_with (at_builtin;refine wpList_append_lies _ rfl (.tmp 51) (.tmp 56) 35 rfl 0 53 i0 _ 5 80 Tryz.underlying35 hi hz0 hz1 hz2 rfl (by decide) (.slice (some ⟨g,0,none⟩) A.length c) A.length (evsRow es) (by simp [Act.eval,hAl]) (unhide HO) ⟨wr.heap.size,0,none⟩ 1 1 (evCells x (.slice ea x.attrs.length ec)) rfl rfl (World.news_of_block (unhide HB)) (evCells_one _ _ _ _) (by decide) (unhide H63) (by omega) (Nat.zero_le _) (wr.heap.size + 1) (by simp) ?_;intro g' cap w2 hown hgrow hat hlt2;have HJ:=hide (unhide HP w2 g' cap hown hgrow hat);clear hown hgrow hat)
            go_roundw
            case rel =>
              refine ⟨k + 1,_,g' :: (fp ++ fp2),by omega,by go_num,rfl,?_⟩
              rw [unhide HS2,unhide HSN]
              have hj:=unhide HJ
              simpa [hAl] using hj
            case measure=>simp [intOf];omega
    · have e1:decide ((k:Int)<(l.length:Int))=false:=by simp;omega
      have hfin:l.take k=l:=List.take_of_length_le (by omega)
      have HJ:Hid (∀ L,join all (l.take k)=L→Jn w wr (.slice a1 all.length c1) (.slice a (join all (l.take k)).length c) (fp1 ++ fp2) fp L):=fun L h=>by subst h;exact jn
      have HF:=hide hfin
      clear jn hrow hes ha hf hg hfin
      go_wp2
      go_ret
      exact ⟨_,fp,rfl,unhide HJ _ (by rw [unhide HF])⟩
def Ls (s:St) (n:Nat) (s' : St):Prop:=s'.list.length≤s.list.length + n
theorem ls_eq {s s' : St} {n:Nat} (h:s'.list=s.list):Ls s n s' := by unfold Ls;rw [h];omega
theorem li_put (s:St) (c:Int):(Mk.put s c).list=s.list:=by unfold Mk.put;split <;> rfl
theorem li_putAll:∀ (l:Bs) (s:St),(Mk.putAll s l).list=s.list
  | [],s=>rfl
  | x :: r,s=>(li_putAll r _).trans (li_put s _)
theorem li_goOn (s:St) (p:Int × Int):(Mk.goOn s p).list=s.list:=by unfold Mk.goOn;split <;> simp only [li_put]
theorem ls_endText (s:St):Ls s 1 (Mk.endText s):=by unfold Ls Mk.endText;split <;> simp
theorem ls_add (s:St) (e:Ev):Ls s 2 (Mk.add s e):=by have:=ls_endText s;unfold Ls Mk.add at *;simp;omega
theorem Ls.mono {s s' : St} {n m:Nat} (h:Ls s n s') (hm:n≤m):Ls s m s' := by unfold Ls at *;omega
theorem Ls.two {s s1 s2:St} {n m k:Nat} (h:Ls s n s1) (h2:Ls s1 m s2) (hk:n + m≤k):Ls s k s2:=by unfold Ls at *;omega
def Cb (s:St):Prop:=(∀ c ∈ s.cnt,c≤32)∧s.attrs.length≤32
theorem Inv.cbs {k:Nat} {s:St} (h:Inv k s):Cb s:=⟨h.cb,h.ha⟩
theorem ls_bindAll:∀ (l:List (Bs × Bs)) (s:St),Ls s (2 * l.length) (Mk.bindAll s l)
  | [],s=>ls_eq rfl
  | p :: r,s=>(ls_add s _).two (ls_bindAll r _) (by simp only [List.length_cons];omega)
theorem ls_unbindAll:∀ (l:List (Bs × Bs)) (s:St),Ls s (2 * l.length) (Mk.unbindAll s l)
  | [],s=>ls_eq rfl
  | p :: r,s=>(ls_add s _).two (ls_unbindAll r _) (by simp only [List.length_cons];omega)
theorem ls_tellStart (s:St) (h:Cb s):Ls s 66 (Mk.tellStart s):=by
  have h1:=ofTag_len h.1
  have h2:=ls_bindAll (Mk.ofTag s) s
  exact h2.two (ls_add (Mk.tellBinds s) ⟨1,s.name,Mk.spaceOf s s.name,[],s.attrs⟩) (by omega)
theorem ls_tellEnd (s:St) (n:Bs) (h:Cb s):Ls s 66 (Mk.tellEnd s n):=by
  have h1:(Mk.ofTag (Mk.add s ⟨2,n,Mk.spaceOf s n,[],[]⟩)).length≤32:=ofTag_len (by rw [add_core];exact h.1)
  have h2:=ls_unbindAll (Mk.ofTag (Mk.add s ⟨2,n,Mk.spaceOf s n,[],[]⟩)).reverse (Mk.add s ⟨2,n,Mk.spaceOf s n,[],[]⟩)
  rw [List.length_reverse] at h2
  exact (ls_add s ⟨2,n,Mk.spaceOf s n,[],[]⟩).two h2 (by omega)
theorem cb_tellStart (s:St) (h:Cb s):Cb (Mk.tellStart s):=by
  rw [tellStart_core]
  exact ⟨h.1,by simp⟩
theorem ls_endStart (s:St) (x:Int) (h:Cb s):Ls s 66 (Mk.endStart s x):=by
  unfold Mk.endStart
  split
  · exact ls_eq rfl
  · have h2:=ls_tellStart s h
    generalize Mk.tellStart s=z at h2 ⊢
    exact h2
theorem cb_declare (s:St) (h:Cb s):Cb (Mk.declare s).1:=by
  obtain ⟨h1,h2⟩:=declare_core s
  have h3:=declareGo_len s.attrs s.bnd 0
  refine ⟨fun c hc => ?_,by rw [h1];exact h.2⟩
  rcases h2 with h2 | h2 <;> rw [h2] at hc
  · exact h.1 c hc
  · rcases List.mem_append.1 hc with hc | hc
    · exact h.1 c hc
    · simp at hc;have:=h.2;omega
theorem li_enter (s:St):(Mk.enter s).1.list=s.list:=by
  rcases enter_core s with e | e <;> rw [e]
  rw [(declare_core s).1]
theorem ls_endAttributes (s:St) (x:Int) (h:Cb s):Ls s 66 (Mk.endAttributes s x).1:=by
  unfold Mk.endAttributes
  split
  · split
    · exact ls_eq (li_enter s)
    · rename_i l hl
      obtain ⟨e1,e2⟩:=enter_some hl
      have h1:=cb_declare s h
      have h2:=resolveGo_len (Mk.declare s).1.bnd 0 s.attrs [] l e2
      have h3:=ls_endStart { (Mk.enter s).1 with attrs:=l } x ⟨by rw [e1];exact h1.1,by have:=h.2;show l.length≤32;simp only [List.length_nil] at h2;omega⟩
      have h4:=li_enter s
      generalize Mk.endStart { (Mk.enter s).1 with attrs:=l } x=z at h3 ⊢
      unfold Ls at h3 ⊢
      have h5:({ (Mk.enter s).1 with attrs:=l }:St).list=s.list:=h4
      rw [h5] at h3
      exact h3
  · exact ls_endStart s x h
theorem ls_endComment (s:St):Ls s 4 (Mk.endComment s):=(ls_add (Mk.dropToken { s with held:=[] }) _).mono (by decide)
theorem ls_endInstruction (s:St):Ls s 4 (Mk.endInstruction s):=(ls_add (Mk.dropToken { s with held:=[] }) _).mono (by decide)
theorem ls_endInnermost (s:St) (h:Cb s):Ls s 132 (Mk.endInnermost s):=(ls_tellEnd { s with opn:=s.opn.dropLast } _ h).mono (by decide)
theorem ls_readCharacter (s:St) (x:Int):Ls s 4 (Mk.readCharacter s x).1:=by
  unfold Mk.readCharacter
  (repeat' split) <;> first | exact ls_eq rfl | exact ls_eq (li_put _ _) | exact ls_eq (li_goOn _ _) | exact ls_eq ((li_goOn _ _).trans (li_putAll _ _)) | exact ls_endComment _ | exact ls_endInstruction _ 
theorem ls_readPart (s:St) (x:Int):Ls s 4 (Mk.readPart s x).1:=by
  unfold Mk.readPart
  (repeat' split) <;> first | exact ls_eq rfl | exact ls_eq (li_put _ _) | exact ls_eq (li_goOn _ _) | exact ls_eq ((li_goOn _ _).trans (li_putAll _ _)) | exact ls_endComment _ | exact ls_endInstruction _  | exact ls_readCharacter _ _
theorem ls_readReference (s:St) (x:Int):Ls s 4 (Mk.readReference s x).1:=by
  unfold Mk.readReference
  (repeat' split) <;> first | exact ls_eq rfl | exact ls_eq (li_put _ _) | exact ls_eq (li_goOn _ _) | exact ls_eq ((li_goOn _ _).trans (li_putAll _ _)) | exact ls_endComment _ | exact ls_endInstruction _  | exact ls_readCharacter _ _ | exact ls_readPart _ _
theorem ls_lengthenName (s:St) (x:Int):Ls s 4 (Mk.lengthenName s x).1:=by
  unfold Mk.lengthenName
  (repeat' split) <;> first | exact ls_eq rfl | exact ls_eq (li_put _ _) | exact ls_eq (li_goOn _ _) | exact ls_eq ((li_goOn _ _).trans (li_putAll _ _)) | exact ls_endComment _ | exact ls_endInstruction _  | exact ls_readCharacter _ _ | exact ls_readPart _ _ | exact ls_readReference _ _
theorem ls_readDash (s:St) (x:Int):Ls s 4 (Mk.readDash s x).1:=by
  unfold Mk.readDash
  (repeat' split) <;> first | exact ls_eq rfl | exact ls_eq (li_put _ _) | exact ls_eq (li_goOn _ _) | exact ls_eq ((li_goOn _ _).trans (li_putAll _ _)) | exact ls_endComment _ | exact ls_endInstruction _  | exact ls_readCharacter _ _ | exact ls_readPart _ _ | exact ls_readReference _ _ | exact ls_lengthenName _ _
theorem ls_readComment (s:St) (x:Int):Ls s 4 (Mk.readComment s x).1:=by
  unfold Mk.readComment
  (repeat' split) <;> first | exact ls_eq rfl | exact ls_eq (li_put _ _) | exact ls_eq (li_goOn _ _) | exact ls_eq ((li_goOn _ _).trans (li_putAll _ _)) | exact ls_endComment _ | exact ls_endInstruction _  | exact ls_readCharacter _ _ | exact ls_readPart _ _ | exact ls_readReference _ _ | exact ls_lengthenName _ _ | exact ls_readDash _ _
theorem ls_readInstructionName (s:St) (x:Int):Ls s 4 (Mk.readInstructionName s x).1:=by
  unfold Mk.readInstructionName
  (repeat' split) <;> first | exact ls_eq rfl | exact ls_eq (li_put _ _) | exact ls_eq (li_goOn _ _) | exact ls_eq ((li_goOn _ _).trans (li_putAll _ _)) | exact ls_endComment _ | exact ls_endInstruction _  | exact ls_readCharacter _ _ | exact ls_readPart _ _ | exact ls_readReference _ _ | exact ls_lengthenName _ _ | exact ls_readDash _ _ | exact ls_readComment _ _
theorem ls_readBareInstruction (s:St) (x:Int):Ls s 4 (Mk.readBareInstruction s x).1:=by
  unfold Mk.readBareInstruction
  (repeat' split) <;> first | exact ls_eq rfl | exact ls_eq (li_put _ _) | exact ls_eq (li_goOn _ _) | exact ls_eq ((li_goOn _ _).trans (li_putAll _ _)) | exact ls_endComment _ | exact ls_endInstruction _  | exact ls_readCharacter _ _ | exact ls_readPart _ _ | exact ls_readReference _ _ | exact ls_lengthenName _ _ | exact ls_readDash _ _ | exact ls_readComment _ _ | exact ls_readInstructionName _ _
theorem ls_readInstruction (s:St) (x:Int):Ls s 4 (Mk.readInstruction s x).1:=by
  unfold Mk.readInstruction
  (repeat' split) <;> first | exact ls_eq rfl | exact ls_eq (li_put _ _) | exact ls_eq (li_goOn _ _) | exact ls_eq ((li_goOn _ _).trans (li_putAll _ _)) | exact ls_endComment _ | exact ls_endInstruction _  | exact ls_readCharacter _ _ | exact ls_readPart _ _ | exact ls_readReference _ _ | exact ls_lengthenName _ _ | exact ls_readDash _ _ | exact ls_readComment _ _ | exact ls_readInstructionName _ _ | exact ls_readBareInstruction _ _
theorem ls_readInstructionSpace (s:St) (x:Int):Ls s 4 (Mk.readInstructionSpace s x).1:=by
  unfold Mk.readInstructionSpace
  (repeat' split) <;> first | exact ls_eq rfl | exact ls_eq (li_put _ _) | exact ls_eq (li_goOn _ _) | exact ls_eq ((li_goOn _ _).trans (li_putAll _ _)) | exact ls_endComment _ | exact ls_endInstruction _  | exact ls_readCharacter _ _ | exact ls_readPart _ _ | exact ls_readReference _ _ | exact ls_lengthenName _ _ | exact ls_readDash _ _ | exact ls_readComment _ _ | exact ls_readInstructionName _ _ | exact ls_readBareInstruction _ _ | exact ls_readInstruction _ _ | exact ls_readInstruction { s with state:=11 } x
theorem ls_readOutside (s:St) (x:Int):Ls s 4 (Mk.readOutside s x).1:=by
  unfold Mk.readOutside
  (repeat' split) <;> first | exact ls_eq rfl | exact ls_eq (li_put _ _) | exact ls_eq (li_goOn _ _) | exact ls_eq ((li_goOn _ _).trans (li_putAll _ _)) | exact ls_endComment _ | exact ls_endInstruction _  | exact ls_readCharacter _ _ | exact ls_readPart _ _ | exact ls_readReference _ _ | exact ls_lengthenName _ _ | exact ls_readDash _ _ | exact ls_readComment _ _ | exact ls_readInstructionName _ _ | exact ls_readBareInstruction _ _ | exact ls_readInstruction _ _ | exact ls_readInstructionSpace _ _ | exact ls_readCharacter { s with brackets:=0 } x | exact ls_readCharacter { s with brackets:=if s.brackets == 0 then 1 else 2 } x | exact ls_eq (li_put { s with state:=12 } x)
theorem ls_readContent (s:St) (x:Int):Ls s 4 (Mk.readContent s x).1:=by
  unfold Mk.readContent
  (repeat' split) <;> first | exact ls_eq rfl | exact ls_eq (li_put _ _) | exact ls_eq (li_goOn _ _) | exact ls_eq ((li_goOn _ _).trans (li_putAll _ _)) | exact ls_endComment _ | exact ls_endInstruction _  | exact ls_readCharacter _ _ | exact ls_readPart _ _ | exact ls_readReference _ _ | exact ls_lengthenName _ _ | exact ls_readDash _ _ | exact ls_readComment _ _ | exact ls_readInstructionName _ _ | exact ls_readBareInstruction _ _ | exact ls_readInstruction _ _ | exact ls_readInstructionSpace _ _ | exact ls_readOutside _ _ | exact ls_readCharacter { s with brackets:=0 } x | exact ls_readCharacter { s with brackets:=if s.brackets == 0 then 1 else 2 } x | exact ls_eq (li_put { s with state:=12 } x)
theorem ls_readSection (s:St) (x:Int):Ls s 4 (Mk.readSection s x).1:=by
  unfold Mk.readSection
  (repeat' split) <;> first | exact ls_eq rfl | exact ls_eq (li_put _ _) | exact ls_eq (li_goOn _ _) | exact ls_eq ((li_goOn _ _).trans (li_putAll _ _)) | exact ls_endComment _ | exact ls_endInstruction _  | exact ls_readCharacter _ _ | exact ls_readPart _ _ | exact ls_readReference _ _ | exact ls_lengthenName _ _ | exact ls_readDash _ _ | exact ls_readComment _ _ | exact ls_readInstructionName _ _ | exact ls_readBareInstruction _ _ | exact ls_readInstruction _ _ | exact ls_readInstructionSpace _ _ | exact ls_readOutside _ _ | exact ls_readContent _ _ | exact ls_readCharacter { s with brackets:=0 } x | exact ls_readCharacter { s with brackets:=if s.brackets == 0 then 1 else 2 } x | exact ls_eq (li_put { s with state:=12 } x)
theorem ls_beginStart (s:St) (x:Int):Ls s 4 (Mk.beginStart s x).1:=by
  unfold Mk.beginStart
  (repeat' split) <;> first | exact ls_eq rfl | exact ls_eq (li_put _ _) | exact ls_eq (li_goOn _ _) | exact ls_eq ((li_goOn _ _).trans (li_putAll _ _)) | exact ls_endComment _ | exact ls_endInstruction _  | exact ls_readCharacter _ _ | exact ls_readPart _ _ | exact ls_readReference _ _ | exact ls_lengthenName _ _ | exact ls_readDash _ _ | exact ls_readComment _ _ | exact ls_readInstructionName _ _ | exact ls_readBareInstruction _ _ | exact ls_readInstruction _ _ | exact ls_readInstructionSpace _ _ | exact ls_readOutside _ _ | exact ls_readContent _ _ | exact ls_readSection _ _ | exact ls_readCharacter { s with brackets:=0 } x | exact ls_readCharacter { s with brackets:=if s.brackets == 0 then 1 else 2 } x | exact ls_eq (li_put { s with state:=12 } x)
theorem ls_readLess (s:St) (x:Int):Ls s 4 (Mk.readLess s x).1:=by
  unfold Mk.readLess
  (repeat' split) <;> first | exact ls_eq rfl | exact ls_eq (li_put _ _) | exact ls_eq (li_goOn _ _) | exact ls_eq ((li_goOn _ _).trans (li_putAll _ _)) | exact ls_endComment _ | exact ls_endInstruction _  | exact ls_readCharacter _ _ | exact ls_readPart _ _ | exact ls_readReference _ _ | exact ls_lengthenName _ _ | exact ls_readDash _ _ | exact ls_readComment _ _ | exact ls_readInstructionName _ _ | exact ls_readBareInstruction _ _ | exact ls_readInstruction _ _ | exact ls_readInstructionSpace _ _ | exact ls_readOutside _ _ | exact ls_readContent _ _ | exact ls_readSection _ _ | exact ls_beginStart _ _ | exact ls_readCharacter { s with brackets:=0 } x | exact ls_readCharacter { s with brackets:=if s.brackets == 0 then 1 else 2 } x | exact ls_eq (li_put { s with state:=12 } x)
theorem ls_readBang (s:St) (x:Int):Ls s 4 (Mk.readBang s x).1:=by
  unfold Mk.readBang
  (repeat' split) <;> first | exact ls_eq rfl | exact ls_eq (li_put _ _) | exact ls_eq (li_goOn _ _) | exact ls_eq ((li_goOn _ _).trans (li_putAll _ _)) | exact ls_endComment _ | exact ls_endInstruction _  | exact ls_readCharacter _ _ | exact ls_readPart _ _ | exact ls_readReference _ _ | exact ls_lengthenName _ _ | exact ls_readDash _ _ | exact ls_readComment _ _ | exact ls_readInstructionName _ _ | exact ls_readBareInstruction _ _ | exact ls_readInstruction _ _ | exact ls_readInstructionSpace _ _ | exact ls_readOutside _ _ | exact ls_readContent _ _ | exact ls_readSection _ _ | exact ls_beginStart _ _ | exact ls_readLess _ _ | exact ls_readCharacter { s with brackets:=0 } x | exact ls_readCharacter { s with brackets:=if s.brackets == 0 then 1 else 2 } x | exact ls_eq (li_put { s with state:=12 } x)
theorem ls_readSectionMark (s:St) (x:Int):Ls s 4 (Mk.readSectionMark s x).1:=by
  unfold Mk.readSectionMark
  (repeat' split) <;> first | exact ls_eq rfl | exact ls_eq (li_put _ _) | exact ls_eq (li_goOn _ _) | exact ls_eq ((li_goOn _ _).trans (li_putAll _ _)) | exact ls_endComment _ | exact ls_endInstruction _  | exact ls_readCharacter _ _ | exact ls_readPart _ _ | exact ls_readReference _ _ | exact ls_lengthenName _ _ | exact ls_readDash _ _ | exact ls_readComment _ _ | exact ls_readInstructionName _ _ | exact ls_readBareInstruction _ _ | exact ls_readInstruction _ _ | exact ls_readInstructionSpace _ _ | exact ls_readOutside _ _ | exact ls_readContent _ _ | exact ls_readSection _ _ | exact ls_beginStart _ _ | exact ls_readLess _ _ | exact ls_readBang _ _ | exact ls_readCharacter { s with brackets:=0 } x | exact ls_readCharacter { s with brackets:=if s.brackets == 0 then 1 else 2 } x | exact ls_eq (li_put { s with state:=12 } x)
theorem ls_readStartGap (s:St) (x:Int) (h:Cb s):Ls s 132 (Mk.readStartGap s x).1:=by
  unfold Mk.readStartGap
  repeat' split
  · exact ls_eq rfl
  · exact (ls_endAttributes s x h).mono (by decide)
  · exact ls_eq rfl
theorem ls_readStartName (s:St) (x:Int) (h:Cb s):Ls s 132 (Mk.readStartName s x).1:=by
  unfold Mk.readStartName
  split
  · exact (ls_lengthenName s x).mono (by decide)
  · exact ls_readStartGap { Mk.dropToken s with name:=s.token } x h
theorem ls_readStartSpace (s:St) (x:Int) (h:Cb s):Ls s 132 (Mk.readStartSpace s x).1:=by
  unfold Mk.readStartSpace
  repeat' split
  · exact ls_readStartGap s x h
  · exact ls_eq rfl
  · exact ls_eq (li_put _ _)
theorem ls_readSlash (s:St) (x:Int) (h:Cb s):Ls s 132 (Mk.readSlash s x).1:=by
  unfold Mk.readSlash
  split
  · exact ls_eq rfl
  · have h2:Ls s 132 (Mk.tellEnd (Mk.tellStart s) s.name):=(ls_tellStart s h).two (ls_tellEnd (Mk.tellStart s) s.name (cb_tellStart s h)) (by decide)
    generalize Mk.tellEnd (Mk.tellStart s) s.name=z at h2 ⊢
    exact h2
theorem ls_readAttrSpace (s:St) (x:Int):Ls s 4 (Mk.readAttrSpace s x).1:=by
  unfold Mk.readAttrSpace
  (repeat' split) <;> first | exact ls_eq rfl | exact ls_eq (li_put _ _) | exact ls_eq (li_goOn _ _) | exact ls_eq ((li_goOn _ _).trans (li_putAll _ _)) | exact ls_endComment _ | exact ls_endInstruction _  | exact ls_readCharacter _ _ | exact ls_readPart _ _ | exact ls_readReference _ _ | exact ls_lengthenName _ _ | exact ls_readDash _ _ | exact ls_readComment _ _ | exact ls_readInstructionName _ _ | exact ls_readBareInstruction _ _ | exact ls_readInstruction _ _ | exact ls_readInstructionSpace _ _ | exact ls_readOutside _ _ | exact ls_readContent _ _ | exact ls_readSection _ _ | exact ls_beginStart _ _ | exact ls_readLess _ _ | exact ls_readBang _ _ | exact ls_readSectionMark _ _ | exact ls_readStartGap _ _ | exact ls_readStartName _ _ | exact ls_readStartSpace _ _ | exact ls_readSlash _ _
theorem ls_lengthenAttrName (s:St) (x:Int):Ls s 4 (Mk.lengthenAttrName s x).1:=by
  unfold Mk.lengthenAttrName
  (repeat' split) <;> first | exact ls_eq rfl | exact ls_eq (li_put _ _) | exact ls_eq (li_goOn _ _) | exact ls_eq ((li_goOn _ _).trans (li_putAll _ _)) | exact ls_endComment _ | exact ls_endInstruction _  | exact ls_readCharacter _ _ | exact ls_readPart _ _ | exact ls_readReference _ _ | exact ls_lengthenName _ _ | exact ls_readDash _ _ | exact ls_readComment _ _ | exact ls_readInstructionName _ _ | exact ls_readBareInstruction _ _ | exact ls_readInstruction _ _ | exact ls_readInstructionSpace _ _ | exact ls_readOutside _ _ | exact ls_readContent _ _ | exact ls_readSection _ _ | exact ls_beginStart _ _ | exact ls_readLess _ _ | exact ls_readBang _ _ | exact ls_readSectionMark _ _ | exact ls_readStartGap _ _ | exact ls_readStartName _ _ | exact ls_readStartSpace _ _ | exact ls_readSlash _ _ | exact ls_readAttrSpace _ _
theorem ls_readAttrName (s:St) (x:Int):Ls s 4 (Mk.readAttrName s x).1:=by
  unfold Mk.readAttrName
  (repeat' split) <;> first | exact ls_eq rfl | exact ls_eq (li_put _ _) | exact ls_eq (li_goOn _ _) | exact ls_eq ((li_goOn _ _).trans (li_putAll _ _)) | exact ls_endComment _ | exact ls_endInstruction _  | exact ls_readCharacter _ _ | exact ls_readPart _ _ | exact ls_readReference _ _ | exact ls_lengthenName _ _ | exact ls_readDash _ _ | exact ls_readComment _ _ | exact ls_readInstructionName _ _ | exact ls_readBareInstruction _ _ | exact ls_readInstruction _ _ | exact ls_readInstructionSpace _ _ | exact ls_readOutside _ _ | exact ls_readContent _ _ | exact ls_readSection _ _ | exact ls_beginStart _ _ | exact ls_readLess _ _ | exact ls_readBang _ _ | exact ls_readSectionMark _ _ | exact ls_readStartGap _ _ | exact ls_readStartName _ _ | exact ls_readStartSpace _ _ | exact ls_readSlash _ _ | exact ls_readAttrSpace _ _ | exact ls_lengthenAttrName _ _ | exact ls_readAttrSpace { Mk.dropToken s with attr:=s.token } x
theorem ls_readEquals (s:St) (x:Int):Ls s 4 (Mk.readEquals s x).1:=by
  unfold Mk.readEquals
  (repeat' split) <;> first | exact ls_eq rfl | exact ls_eq (li_put _ _) | exact ls_eq (li_goOn _ _) | exact ls_eq ((li_goOn _ _).trans (li_putAll _ _)) | exact ls_endComment _ | exact ls_endInstruction _  | exact ls_readCharacter _ _ | exact ls_readPart _ _ | exact ls_readReference _ _ | exact ls_lengthenName _ _ | exact ls_readDash _ _ | exact ls_readComment _ _ | exact ls_readInstructionName _ _ | exact ls_readBareInstruction _ _ | exact ls_readInstruction _ _ | exact ls_readInstructionSpace _ _ | exact ls_readOutside _ _ | exact ls_readContent _ _ | exact ls_readSection _ _ | exact ls_beginStart _ _ | exact ls_readLess _ _ | exact ls_readBang _ _ | exact ls_readSectionMark _ _ | exact ls_readStartGap _ _ | exact ls_readStartName _ _ | exact ls_readStartSpace _ _ | exact ls_readSlash _ _ | exact ls_readAttrSpace _ _ | exact ls_lengthenAttrName _ _ | exact ls_readAttrName _ _
theorem ls_readValue (s:St) (x:Int):Ls s 4 (Mk.readValue s x).1:=by
  unfold Mk.readValue
  (repeat' split) <;> first | exact ls_eq rfl | exact ls_eq (li_put _ _) | exact ls_eq (li_goOn _ _) | exact ls_eq ((li_goOn _ _).trans (li_putAll _ _)) | exact ls_endComment _ | exact ls_endInstruction _  | exact ls_readCharacter _ _ | exact ls_readPart _ _ | exact ls_readReference _ _ | exact ls_lengthenName _ _ | exact ls_readDash _ _ | exact ls_readComment _ _ | exact ls_readInstructionName _ _ | exact ls_readBareInstruction _ _ | exact ls_readInstruction _ _ | exact ls_readInstructionSpace _ _ | exact ls_readOutside _ _ | exact ls_readContent _ _ | exact ls_readSection _ _ | exact ls_beginStart _ _ | exact ls_readLess _ _ | exact ls_readBang _ _ | exact ls_readSectionMark _ _ | exact ls_readStartGap _ _ | exact ls_readStartName _ _ | exact ls_readStartSpace _ _ | exact ls_readSlash _ _ | exact ls_readAttrSpace _ _ | exact ls_lengthenAttrName _ _ | exact ls_readAttrName _ _ | exact ls_readEquals _ _
theorem ls_readEndSpace (s:St) (x:Int) (h:Cb s):Ls s 132 (Mk.readEndSpace s x).1:=by
  unfold Mk.readEndSpace
  repeat' split
  · exact ls_eq rfl
  · exact ls_endInnermost s h
  · exact ls_eq rfl
theorem ls_readEndName (s:St) (x:Int) (h:Cb s):Ls s 132 (Mk.readEndName s x).1:=by
  unfold Mk.readEndName
  repeat' split
  · exact ls_eq rfl
  · exact ls_eq rfl
  · exact ls_eq rfl
  · exact ls_readEndSpace s x h
theorem ls_ite {s:St} {n:Nat} {c:Prop} [Decidable c] {a b:St × Int} (ha:Ls s n a.1) (hb:Ls s n b.1):Ls s n (if c then a else b).1:=by split <;> assumption
theorem ls_readStartTag (s:St) (x:Int) (h:Cb s):Ls s 132 (Mk.readStartTag s x).1:=by
  unfold Mk.readStartTag
  refine ls_ite (ls_readStartName s x h) ?_
  refine ls_ite (ls_readStartSpace s x h) ?_
  refine ls_ite ((ls_readAttrName s x).mono (by decide)) ?_
  refine ls_ite ((ls_readAttrSpace s x).mono (by decide)) ?_
  refine ls_ite ((ls_readEquals s x).mono (by decide)) ?_
  refine ls_ite (ls_readStartGap s x h) ?_
  exact ls_readSlash s x h
theorem ls_readMark (s:St) (x:Int) (h:Cb s):Ls s 132 (Mk.readMark s x).1:=by
  unfold Mk.readMark
  refine ls_ite ((ls_readLess s x).mono (by decide)) ?_
  refine ls_ite ((ls_readBang s x).mono (by decide)) ?_
  refine ls_ite ((ls_readDash s x).mono (by decide)) ?_
  refine ls_ite ((ls_readSectionMark s x).mono (by decide)) ?_
  refine ls_ite ((ls_readInstructionName s x).mono (by decide)) ?_
  refine ls_ite ((ls_readBareInstruction s x).mono (by decide)) ?_
  refine ls_ite ((ls_readInstructionSpace s x).mono (by decide)) ?_
  refine ls_ite (ls_readEndName s x h) ?_
  refine ls_ite (ls_readEndSpace s x h) ?_
  exact ls_readStartTag s x h
theorem ls_readByte (s:St) (x:Int) (h:Cb s):Ls s 132 (Mk.readByte s x).1:=by
  unfold Mk.readByte
  refine ls_ite ((ls_readPart s x).mono (by decide)) ?_
  refine ls_ite ((ls_readReference s x).mono (by decide)) ?_
  refine ls_ite ((ls_readOutside s x).mono (by decide)) ?_
  refine ls_ite ((ls_readContent s x).mono (by decide)) ?_
  refine ls_ite ((ls_readSection s x).mono (by decide)) ?_
  refine ls_ite ((ls_readComment s x).mono (by decide)) ?_
  refine ls_ite ((ls_readInstruction s x).mono (by decide)) ?_
  refine ls_ite ((ls_readValue s x).mono (by decide)) ?_
  exact ls_readMark s x h
theorem li_movePlace (s:St) (x:Int):(Mk.movePlace s x).list=s.list:=by
  unfold Mk.movePlace
  split
  · rfl
  · split <;> rfl
theorem ls_readOn (s:St) (x:Int) (hc:Cb s):Ls s 132 (Mk.readOn s x).1:=by
  have h:=ls_readByte s x hc
  unfold Mk.readOn
  split
  · unfold Ls at h ⊢
    rw [li_movePlace]
    exact h
  · exact h
theorem ls_read (s:St) (x:Int) (hc:Cb s):Ls s 132 (Mk.read s x).1:=by
  unfold Mk.read
  refine ls_ite (ls_eq rfl) (ls_ite ?_ ?_)
  · exact ls_readOn { s with ret:=true } 10 hc
  · exact ls_readOn { s with ret:=false } x hc
theorem ls_feedByte (s:St) (x:UInt8) (hc:Cb s):Ls s 132 (Mk.feedByte s x):=by
  unfold Mk.feedByte
  split
  · exact ls_read { s with at_:=s.at_ + 1 } x.toNat hc
  · exact ls_eq rfl
theorem ls_feedAll:∀ (l:Bs) (s:St) (k:Nat),Inv k s→Ls s (132 * l.length) (Mk.feedAll s l)
  | [],s,_,_=>ls_eq rfl
  | x :: r,s,k,h=>(ls_feedByte s x h.cbs).two (ls_feedAll r _ (k + 12) (inv_feedByte h x)) (by simp;omega)
theorem feed_len (s:St) (l:Bs) {k:Nat} (hI:Inv k s) (h:s.list=[]):(Mk.feed s l).2.1.length≤132 * l.length + 1:=by
  unfold Mk.feed
  split
  · have h1:=ls_feedAll l s k hI
    have h2:=ls_endText (Mk.feedAll s l)
    unfold Ls at h1 h2
    rw [h] at h1
    simp at h1 ⊢
    omega
  · simp
theorem feed_list (s:St) (l:Bs) (h:s.list=[]):(Mk.feed s l).1.list=[]:=by
  unfold Mk.feed
  split
  · rfl
  · exact h
end Go.Proofs.YtmgfijllcdadgabGreatDoor
