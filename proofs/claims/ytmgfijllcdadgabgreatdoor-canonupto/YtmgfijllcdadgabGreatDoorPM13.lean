/- Cores, TagN -/
import Derived.Test.YtmgfijllcdadgabGreatDoorPM00
import Derived.Test.YtmgfijllcdadgabGreatDoorPM10
import Derived.Test.YtmgfijllcdadgabGreatDoorPM11
import Derived.Test.YtmgfijllcdadgabGreatDoorPM12
set_option linter.unusedVariables false
set_option linter.unusedSimpArgs false
namespace Go.Proofs.YtmgfijllcdadgabGreatDoor
open Mk (St Bs Ev Att)
theorem add_core (s:St) (e:Ev):Mk.add s e={ s with list:=(Mk.add s e).list,text:=(Mk.add s e).text }:=by
  unfold Mk.add Mk.endText
  split <;> rfl
theorem bindAll_core:∀ (l:List (Bs × Bs)) (s:St),Mk.bindAll s l={ s with list:=(Mk.bindAll s l).list,text:=(Mk.bindAll s l).text }
  | [],s=>rfl
  | p :: r,s=>by
    show Mk.bindAll (Mk.add s _) r={ s with list:=(Mk.bindAll (Mk.add s _) r).list,text:=(Mk.bindAll (Mk.add s _) r).text }
    have h1:=bindAll_core r (Mk.add s ⟨6,p.1,[],p.2,[]⟩)
    have h2:=add_core s ⟨6,p.1,[],p.2,[]⟩
    rw [h2] at h1 ⊢
    exact h1
theorem unbindAll_core:∀ (l:List (Bs × Bs)) (s:St),Mk.unbindAll s l={ s with list:=(Mk.unbindAll s l).list,text:=(Mk.unbindAll s l).text }
  | [],s=>rfl
  | p :: r,s=>by
    show Mk.unbindAll (Mk.add s _) r={ s with list:=(Mk.unbindAll (Mk.add s _) r).list,text:=(Mk.unbindAll (Mk.add s _) r).text }
    have h1:=unbindAll_core r (Mk.add s ⟨7,p.1,[],[],[]⟩)
    have h2:=add_core s ⟨7,p.1,[],[],[]⟩
    rw [h2] at h1 ⊢
    exact h1
theorem tellStart_core (s:St):Mk.tellStart s={ s with list:=(Mk.tellStart s).list,text:=(Mk.tellStart s).text,attrs:=[] }:=by
  have e1:=add_core (Mk.tellBinds s) ⟨1,s.name,Mk.spaceOf s s.name,[],s.attrs⟩
  have e4:Mk.tellBinds s={ s with list:=(Mk.tellBinds s).list,text:=(Mk.tellBinds s).text }:=bindAll_core (Mk.ofTag s) s
  unfold Mk.tellStart
  rw [e1]
  rw [e4]
theorem declareGo_len:∀ (ats:List Att) (b:List (Bs × Bs)) (c:Nat),(Mk.declareGo ats b c).1.length≤b.length + ats.length∧(Mk.declareGo ats b c).2.1≤c + ats.length
  | [],b,c=>⟨by simp [Mk.declareGo],by simp [Mk.declareGo]⟩
  | a :: r,b,c=>by
    unfold Mk.declareGo
    split
    · have:=declareGo_len r b c;simp only [List.length_cons];omega
    · split
      · simp only [List.length_cons];omega
      · have:=declareGo_len r (b ++ [(Mk.declared a.name,a.val)]) (c + 1)
        simp only [List.length_cons,List.length_append,List.length_nil] at this ⊢;omega
theorem resolveGo_len (bnd:List (Bs × Bs)) (m:Nat):∀ (ats acc l:List Att),Mk.resolveGo bnd ats acc=some l→l.length≤acc.length + ats.length∧((∀ a ∈ acc,a.val.length≤m)→(∀ a ∈ ats,a.val.length≤m)→∀ a ∈ l,a.val.length≤m)
  | [],acc,l,h=>by cases h;exact ⟨by simp,fun h _=>h⟩
  | a :: r,acc,l,h=>by
    unfold Mk.resolveGo at h
    split at h
    · have:=resolveGo_len bnd m r acc l h
      exact ⟨by simp only [List.length_cons];omega,fun h1 h2=>this.2 h1 fun x hx=>h2 x (List.mem_cons_of_mem _ hx)⟩
    · split at h
      · cases h
      · have:=resolveGo_len bnd m r _ l h
        refine ⟨by simp only [List.length_cons,List.length_append,List.length_nil] at this ⊢;omega,fun h1 h2=>this.2 (fun x hx => ?_) fun x hx=>h2 x (List.mem_cons_of_mem _ hx)⟩
        rcases List.mem_append.1 hx with hx | hx
        · exact h1 x hx
        · simp at hx;subst hx
          have:(Mk.withSpace bnd a).val=a.val:=by unfold Mk.withSpace;split <;> rfl
          rw [this]
          exact h2 a List.mem_cons_self
theorem resolveGo_nm (bnd:List (Bs × Bs)) (m:Nat):∀ (ats acc l:List Att),Mk.resolveGo bnd ats acc=some l→l.length≤acc.length + ats.length∧((∀ a ∈ acc,a.name.length≤m)→(∀ a ∈ ats,a.name.length≤m)→∀ a ∈ l,a.name.length≤m)
  | [],acc,l,h=>by cases h;exact ⟨by simp,fun h _=>h⟩
  | a :: r,acc,l,h=>by
    unfold Mk.resolveGo at h
    split at h
    · have:=resolveGo_nm bnd m r acc l h
      exact ⟨by simp only [List.length_cons];omega,fun h1 h2=>this.2 h1 fun x hx=>h2 x (List.mem_cons_of_mem _ hx)⟩
    · split at h
      · cases h
      · have:=resolveGo_nm bnd m r _ l h
        refine ⟨by simp only [List.length_cons,List.length_append,List.length_nil] at this ⊢;omega,fun h1 h2=>this.2 (fun x hx => ?_) fun x hx=>h2 x (List.mem_cons_of_mem _ hx)⟩
        rcases List.mem_append.1 hx with hx | hx
        · exact h1 x hx
        · simp at hx;subst hx
          have:(Mk.withSpace bnd a).name=a.name:=by unfold Mk.withSpace;split <;> rfl
          rw [this]
          exact h2 a List.mem_cons_self
theorem declare_core (s:St):(Mk.declare s).1={ s with bnd:=(Mk.declareGo s.attrs s.bnd 0).1,cnt:=(Mk.declare s).1.cnt }∧((Mk.declare s).1.cnt=s.cnt∨(Mk.declare s).1.cnt=s.cnt ++ [(Mk.declareGo s.attrs s.bnd 0).2.1]):=by
  unfold Mk.declare
  dsimp only
  split
  · exact ⟨rfl,.inr rfl⟩
  · exact ⟨rfl,.inl rfl⟩
theorem enter_core (s:St):(Mk.enter s).1=s∨(Mk.enter s).1=(Mk.declare s).1:=by
  unfold Mk.enter
  repeat' split
  all_goals first | exact .inl rfl | exact .inr rfl
theorem enter_some {s:St} {l:List Att} (h:(Mk.enter s).2=some l):(Mk.enter s).1=(Mk.declare s).1∧Mk.resolveGo (Mk.declare s).1.bnd s.attrs []=some l:=by
  unfold Mk.enter at h ⊢
  split at h
  · cases h
  · rename_i c1
    rw [if_neg c1]
    split at h
    · cases h
    · rename_i c2
      rw [if_neg c2]
      split at h
      · cases h
      · rename_i c3
        rw [if_neg c3]
        exact ⟨rfl,h⟩
theorem tellUnbinds_core (s:St):Mk.tellUnbinds s={ s with list:=(Mk.tellUnbinds s).list,text:=(Mk.tellUnbinds s).text }:=unbindAll_core _ s
theorem tellBinds_core (s:St):Mk.tellBinds s={ s with list:=(Mk.tellBinds s).list,text:=(Mk.tellBinds s).text }:=bindAll_core _ s
theorem add_len2 (s:St) (e:Ev):(Mk.add s e).text.length≤s.text.length∧(Mk.add s e).list.length≤s.list.length + 2:=by
  unfold Mk.add Mk.endText
  split
  · exact ⟨Nat.le_refl _,by simp⟩
  · exact ⟨by simp,by simp⟩
theorem bindAll_len2:∀ (l:List (Bs × Bs)) (s:St),(Mk.bindAll s l).text.length≤s.text.length∧(Mk.bindAll s l).list.length≤s.list.length + 2 * l.length
  | [],s=>⟨Nat.le_refl _,by simp [Mk.bindAll]⟩
  | p :: r,s=>by
    have h1:=bindAll_len2 r (Mk.add s ⟨6,p.1,[],p.2,[]⟩)
    have h2:=add_len2 s ⟨6,p.1,[],p.2,[]⟩
    unfold Mk.bindAll
    simp only [List.length_cons]
    omega
open Go.RowKit
theorem spTagLen {s:St} (h:∀ c ∈ s.cnt,c≤32):(Mk.ofTag s).length≤32:=by
  unfold Mk.ofTag Mk.first
  rw [List.length_drop]
  split
  · omega
  · rename_i c hc
    have:=h c (List.mem_of_getLast? hc)
    split <;> omega
theorem spAddLen (s:St) (e:Ev):(Mk.add s e).text.length≤s.text.length∧(Mk.add s e).list.length≤s.list.length + 2:=by
  unfold Mk.add Mk.endText
  split
  · exact ⟨Nat.le_refl _,by simp⟩
  · exact ⟨by simp,by simp⟩
structure BiI (w1:World) (b:Nat) (f0:List Nat) (tag:List (Bs × Bs)) (FIN:St) (wy:World) (t:St) (i:Nat) (L1:Lay):Prop where
  mv:Mv w1 b f0 wy t L1
  fin:FIN=Mk.bindAll t (tag.drop i)
  x:t.text.length≤100000000
  l:t.list.length≤700000000 + 2 * i
  le:i≤tag.length
set_option maxHeartbeats 4000000 in
set_option maxRecDepth 100000 in
theorem tellBinds_any {w:World} {b:Nat} {s:St} {L:Lay} (h:RdL w b s L) (hB:Bd s) :
    Calls Tryz.prog 172 #[.pointer (some ⟨b,0,none⟩)] w fun e w' => e = .returned (.tuple #[])∧∃ L', Mv w b (foot s L) w' (Mk.tellBinds s) L' := by
  have HD:=hide (Declared_any h (Nat.le_trans hB.hb (by decide)) (Nat.le_trans hB.hc (by decide)) hB.cb)
  have h32:=spTagLen hB.cb
  obtain ⟨FIN,hFIN⟩:∃ FIN,FIN=Mk.tellBinds s:=⟨_,rfl⟩
  rw [← hFIN]
  have hFIN2:FIN=Mk.bindAll s ((Mk.ofTag s).drop 0):=hFIN
  have HF:=hide hFIN2
  have hx:=hB.hx
  have hl:=hB.hl
  generalize Mk.ofTag s=tag at *
  have HS:=hide h.start
  have HLT:=hide h.lt
  have HFT:=hide h.foot_lt
  clear h hB hFIN hFIN2
  go_enter Tryz.func172,Tryz.ntmps172
  go_wp2_with fail
  refine (unhide HD).mono ?_
  rintro e w1 ⟨a,c,rfl,hown,hbl⟩
  have hsz:=hbl.size
  have HE:=hide (fun k hk=>spElem (m:=2) (l:=tag) bndCells (fun _=>rfl) (by decide) hown k hk)
  have HOW:=hide hown.lt
  have hm1:=(unhide HS).below hbl
  have HB0:=hide hbl
  have HI:Hid (BiI w1 b (foot s L) tag FIN w1 s 0 L):=⟨hm1.rd.start,unhide HF,hx,by omega,by omega⟩
  have HM1:=hide hm1
  clear hown hbl hm1 HD HF
  go_wp2_with fail
  go_loopg [3] tag.length (fun g s3 wx=>∃ (wy:World) (t:St) (i:Nat) (L1:Lay),wy=wx∧g=tag.length - i∧s3 = .int .i64 (i:Int)∧Hid (BiI w1 b (foot s L) tag FIN wy t i L1))
  case atStart=>exact ⟨w1,s,0,L,rfl,rfl,rfl,HI⟩
  case round =>
    obtain ⟨wy,t,i,L1,hwy,rfl,rfl,HJ⟩:=hrel
    subst hwy
    clear HI
    have hle:=(unhide HJ).le
    have hlty:=(unhide HJ).mv.rd.lt
    by_cases h3:i<tag.length
    · have e1:decide ((i:Int)<(tag.length:Int))=true:=by simp;omega
      have hk1:(i:Int)<(tag.length:Int):=by omega
      obtain ⟨g,hg,hgl,hcl⟩:=unhide HE i h3
      have c0:w1.cell? ⟨g,i * 2,none⟩=some (.string ⟨tag[i].1.toArray⟩):=hcl 0 (by decide)
      have c1:w1.cell? ⟨g,i * 2 + 1,none⟩=some (.string ⟨tag[i].2.toArray⟩):=hcl 1 (by decide)
      have hgb:w.heap.size≤g:=(unhide HOW g (by rw [hg];rfl)).1
      have hbk:wy.heap[g]? = w1.heap[g]? := (unhide HJ).mv.fr.block g hgl (by have:=unhide HLT;omega) (fun hm=>by have:=(unhide HFT g hm).2;omega)
      have d0:wy.cell? ⟨g,i * 2,none⟩=some (.string ⟨tag[i].1.toArray⟩):=by rw [← c0];simp only [World.cell?,hbk]
      have d1:wy.cell? ⟨g,i * 2 + 1,none⟩=some (.string ⟨tag[i].2.toArray⟩):=by rw [← c1];simp only [World.cell?,hbk]
      have hf:=(unhide HJ).fin
      rw [List.drop_eq_getElem_cons h3] at hf
      unfold Mk.bindAll at hf
      have HA:=hide (fun n=>add_nil ((unhide HJ).mv.rd.drewN n) ⟨6,tag[i].1,[],tag[i].2,[]⟩ rfl (Nat.le_trans (unhide HJ).x (by decide)) (by have:=(unhide HJ).l;omega))
      have hlen:=spAddLen t ⟨6,tag[i].1,[],tag[i].2,[]⟩
      generalize tag[i].1=p at *
      generalize tag[i].2=v at *
      subst hg
      have HFF:=hide hf
      have HLN:=hide hlen
      clear hf hlen hcl c0 c1 hbk
      go_wp2
      go_region_with (go_at_call 143;refine (unhide HA _).mono ?_;rintro e w2 ⟨rfl,L2,hm2⟩)
      all_goals
        have HM2:=hide (((unhide HJ).mv.drewN _).call hm2)
        clear hm2
        go_wp2
        go_roundg (tag.length - (i + 1))
        case measure=>omega
        case rel=>exact ⟨_,_,i + 1,L2,rfl,rfl,by simp,⟨unhide HM2,unhide HFF,Nat.le_trans (unhide HLN).1 (unhide HJ).x,by have:=(unhide HLN).2;have:=(unhide HJ).l;omega,by omega⟩⟩
    · have e1:decide ((i:Int)<(tag.length:Int))=false:=by simp;omega
      have hf:=(unhide HJ).fin
      rw [List.drop_of_length_le (by omega)] at hf
      have HFF:=hide (show FIN=t from hf)
      clear hf
      go_wp2
      go_end0
      rw [unhide HFF]
      exact ⟨rfl,L1,(unhide HM1).call (unhide HJ).mv⟩
structure UnI (w1:World) (b:Nat) (f0:List Nat) (tag:List (Bs × Bs)) (FIN:St) (wy:World) (t:St) (i:Nat) (L1:Lay):Prop where
  mv:Mv w1 b f0 wy t L1
  fin:FIN=Mk.unbindAll t (tag.take i).reverse
  x:t.text.length≤100000000
  l:t.list.length≤700000100 - 2 * i
  le:i≤tag.length
set_option maxHeartbeats 4000000 in
set_option maxRecDepth 100000 in
theorem tellUnbinds_any {w:World} {b:Nat} {s:St} {L:Lay} (h:RdL w b s L) (hB:Bd s) :
    Calls Tryz.prog 169 #[.pointer (some ⟨b,0,none⟩)] w fun e w' => e = .returned (.tuple #[])∧∃ L', Mv w b (foot s L) w' (Mk.tellUnbinds s) L' := by
  have HD:=hide (Declared_any h (Nat.le_trans hB.hb (by decide)) (Nat.le_trans hB.hc (by decide)) hB.cb)
  have h32:=spTagLen hB.cb
  obtain ⟨FIN,hFIN⟩:∃ FIN,FIN=Mk.tellUnbinds s:=⟨_,rfl⟩
  rw [← hFIN]
  have hFIN2:FIN=Mk.unbindAll s ((Mk.ofTag s).take (Mk.ofTag s).length).reverse:=by rw [List.take_length];exact hFIN
  have HF:=hide hFIN2
  have hx:=hB.hx
  have hl:=hB.hl
  generalize Mk.ofTag s=tag at *
  have HS:=hide h.start
  have HLT:=hide h.lt
  have HFT:=hide h.foot_lt
  clear h hB hFIN hFIN2
  go_enter Tryz.func169,Tryz.ntmps169
  go_wp2_with fail
  refine (unhide HD).mono ?_
  rintro e w1 ⟨a,c,rfl,hown,hbl⟩
  have hsz:=hbl.size
  have HE:=hide (fun k hk=>spElem (m:=2) (l:=tag) bndCells (fun _=>rfl) (by decide) hown k hk)
  have HOW:=hide hown.lt
  have hm1:=(unhide HS).below hbl
  have HB0:=hide hbl
  have HI:Hid (UnI w1 b (foot s L) tag FIN w1 s tag.length L):=⟨hm1.rd.start,unhide HF,hx,by omega,by omega⟩
  have HM1:=hide hm1
  clear hown hbl hm1 HD HF
  go_wp2_with fail
  go_loopg [3] tag.length (fun g s3 wx=>∃ (wy:World) (t:St) (i:Nat) (L1:Lay),wy=wx∧g=i∧s3 = .int .i64 ((i:Int) - 1)∧Hid (UnI w1 b (foot s L) tag FIN wy t i L1))
  case atStart=>exact ⟨w1,s,tag.length,L,rfl,rfl,rfl,HI⟩
  case round =>
    obtain ⟨wy,t,i,L1,hwy,hgi,rfl,HJ⟩:=hrel
    obtain rfl:=hgi.symm
    subst hwy
    clear HI
    have hle:=(unhide HJ).le
    have hlty:=(unhide HJ).mv.rd.lt
    by_cases h3:0<i
    · have e1:decide (0≤(i:Int) - 1)=true:=by simp;omega
      obtain ⟨k,rfl⟩:∃ k,i=k + 1:=⟨i - 1,by omega⟩
      have hkk:(((k + 1:Nat):Int) - 1)=(k:Int):=by omega
      rw [hkk] at e1 ⊢
      have hk:k<tag.length:=by omega
      have hk1:(k:Int)<(tag.length:Int):=by omega
      obtain ⟨g,hg,hgl,hcl⟩:=unhide HE k hk
      have c0:w1.cell? ⟨g,k * 2,none⟩=some (.string ⟨tag[k].1.toArray⟩):=hcl 0 (by decide)
      have hgb:w.heap.size≤g:=(unhide HOW g (by rw [hg];rfl)).1
      have hbk:wy.heap[g]? = w1.heap[g]? := (unhide HJ).mv.fr.block g hgl (by have:=unhide HLT;omega) (fun hm=>by have:=(unhide HFT g hm).2;omega)
      have d0:wy.cell? ⟨g,k * 2,none⟩=some (.string ⟨tag[k].1.toArray⟩):=by rw [← c0];simp only [World.cell?,hbk]
      have hf:=(unhide HJ).fin
      rw [spTakeS tag k hk,List.reverse_append,List.reverse_singleton,List.singleton_append] at hf
      unfold Mk.unbindAll at hf
      have HA:=hide (fun n=>add_nil ((unhide HJ).mv.rd.drewN n) ⟨7,tag[k].1,[],[],[]⟩ rfl (Nat.le_trans (unhide HJ).x (by decide)) (by have:=(unhide HJ).l;omega))
      have hlen:=spAddLen t ⟨7,tag[k].1,[],[],[]⟩
      generalize tag[k].1=p at *
      subst hg
      have HFF:=hide hf
      have HLN:=hide hlen
      clear hf hlen hcl c0 hbk
      go_wp2
      go_region_with (go_at_call 143;refine (unhide HA _).mono ?_;rintro e w2 ⟨rfl,L2,hm2⟩)
      all_goals
        have HM2:=hide (((unhide HJ).mv.drewN _).call hm2)
        clear hm2
        go_wp2
        go_roundg k
        case measure=>omega
        case rel=>exact ⟨_,_,k,L2,rfl,rfl,by simp,⟨unhide HM2,unhide HFF,Nat.le_trans (unhide HLN).1 (unhide HJ).x,by have:=(unhide HLN).2;have:=(unhide HJ).l;omega,by omega⟩⟩
    · have e1:decide (0≤(i:Int) - 1)=false:=by simp;omega
      have hf:=(unhide HJ).fin
      obtain rfl:i=0:=by omega
      rw [List.take_zero,List.reverse_nil] at hf
      have HFF:=hide (show FIN=t from hf)
      clear hf
      go_wp2
      go_end0
      rw [unhide HFF]
      exact ⟨rfl,L1,(unhide HM1).call (unhide HJ).mv⟩
end Go.Proofs.YtmgfijllcdadgabGreatDoor
