/- SpV, SpH -/
import Derived.Test.YtmgfijllcdadgabGreatDoorPM04
set_option linter.unusedVariables false
set_option linter.unusedSimpArgs false
namespace Go.Proofs.YtmgfijllcdadgabGreatDoor
open Go.RowKit
open Mk (St Bs Ev Att)
theorem spFlat {α β:Type} (f:α→List β) (m:Nat) (hf:∀ a,(f a).length=m):∀ (l:List α) (k:Nat) (h:k<l.length) (j:Nat),j<m→(l.flatMap f)[k * m + j]? = (f l[k])[j]?
  | a :: l,0,_,j,hj=>by simp only [List.flatMap_cons,Nat.zero_mul,Nat.zero_add,List.getElem_cons_zero];rw [List.getElem?_append_left (by rw [hf];exact hj)]
  | a :: l,k + 1,h,j,hj=>by
    simp only [List.flatMap_cons,List.getElem_cons_succ]
    rw [List.getElem?_append_right (by rw [hf,Nat.succ_mul];omega),hf]
    have:(k + 1) * m + j - m=k * m + j:=by rw [Nat.succ_mul];omega
    rw [this]
    exact spFlat f m hf l k (by simpa using h) j hj
theorem spRow {w:World} {base:Nat} {e:TypeId} {size g n c:Nat} {xs:List Value} (h:w.ownsRow base e size (.slice (some ⟨g,0,none⟩) n c) n xs) (j:Nat) (hj:j<n * size):w.cell? ⟨g,j,none⟩=xs[j]? := by
  rcases h.2 with ⟨h1,_⟩ | ⟨g', cap,cur,hv,hb,hg,hnc,_,hsz,htake⟩
  · cases h1
  · cases hv
    rw [cell_of_row w g j cur _ _ hg, ← htake,List.getElem?_take_of_lt hj]
    simp
theorem spElem {w:World} {base:Nat} {e:TypeId} {a:Option Addr} {c m:Nat} {α:Type} (f:α→List Value) (hf:∀ a,(f a).length=m) {l:List α} (hm:0<m) (h:w.ownsRow base e m (.slice a l.length c) l.length (l.flatMap f)) (k:Nat) (hk:k<l.length) :
    ∃ g,a=some ⟨g,0,none⟩∧g<w.heap.size∧∀ j,j<m→w.cell? ⟨g,k * m + j,none⟩=(f l[k])[j]? := by
  obtain ⟨g,c', hv,_,hlt⟩:=World.ownsRow.form h (by omega)
  injection hv with h5 h6 h7
  subst h5
  refine ⟨g,rfl,hlt,fun j hj => ?_⟩
  rw [spRow h (k * m + j) ?_]
  · exact spFlat f m hf l k hk j hj
  · have h1:(k + 1) * m≤l.length * m:=Nat.mul_le_mul_right _ (by omega)
    rw [Nat.succ_mul] at h1
    omega
theorem valueOf_snoc (l:List (Bs × Bs)) (x:Bs × Bs) (p:Bs):Mk.valueOf (l ++ [x]) p=if x.1 == p then x.2 else Mk.valueOf l p:=by simp [Mk.valueOf]
theorem spTakeS {α:Type} (l:List α) (i:Nat) (hi:i<l.length):l.take (i + 1)=l.take i ++ [l[i]]:=by
  rw [List.take_add_one]
  simp [hi]
theorem value_any {w:World} {b:Nat} {s:St} {L:Lay} (h:RdL w b s L) (hb:s.bnd.length≤300000000) (p:Bs) :
    Calls Tryz.prog 181 #[.pointer (some ⟨b,7,none⟩),.string ⟨p.toArray⟩] w fun e w' => e = .returned (.string ⟨(Mk.valueOf s.bnd p).toArray⟩)∧w' = w:=by
  have hc:=h.cell
  have hlt:=h.lt
  have HE:=hide (fun k hk=>spElem (m:=2) (l:=s.bnd) bndCells (fun _=>rfl) (by decide) (h.rows.own (bndRow s L) (by simp [rowsOf])) k hk)
  obtain ⟨FIN,hFIN⟩:∃ FIN,FIN=Mk.valueOf s.bnd p:=⟨_,rfl⟩
  rw [← hFIN]
  rw [← List.take_length (l:=s.bnd)] at hFIN
  have HF:=hide hFIN
  unfold cellsOf at hc
  clear h hFIN
  go_enter Tryz.func181,Tryz.ntmps181
  go_wp2_with fail
  generalize Value.slice L.ba s.bnd.length L.bc=v9
  go_loopg [5] s.bnd.length (fun g s5 wx=>wx=w∧∃ i:Nat,i≤s.bnd.length∧g=i∧s5 = .int .i64 ((i:Int) - 1)∧FIN=Mk.valueOf (s.bnd.take i) p)
  case atStart=>exact ⟨rfl,s.bnd.length,Nat.le_refl _,rfl,rfl,unhide HF⟩
  case round =>
    obtain ⟨hwr,i,hi,rfl,rfl,hf⟩:=hrel
    obtain rfl:=hwr.symm
    clear HF
    cases gk with
    | zero =>
      have HF:=hide (show FIN=[] from hf)
      clear hf
      have e0:((0:Nat):Int) - 1 = -1:=by decide
      rw [e0]
      go_wp2
      go_ret
      rw [unhide HF]
      exact ⟨rfl,rfl⟩
    | succ j =>
      have e0:((j + 1:Nat):Int) - 1=(j:Int):=by omega
      rw [e0]
      rw [spTakeS s.bnd j (by omega),valueOf_snoc] at hf
      obtain ⟨g,hg,hgl,hcl⟩:=unhide HE j (by omega)
      have c1:=hcl 0 (by decide)
      have c2:=hcl 1 (by decide)
      have c1' : w.cell? ⟨g,j * 2,none⟩=some (.string ⟨s.bnd[j].1.toArray⟩):=c1
      have c2' : w.cell? ⟨g,j * 2 + 1,none⟩=some (.string ⟨s.bnd[j].2.toArray⟩):=c2
      generalize s.bnd[j]=x at *
      obtain ⟨x1,x2⟩:=x
      have hj:(j:Int)<(s.bnd.length:Int):=by omega
      clear hcl c1 c2 HE
      dsimp only at hf c1' c2'
      cases h5:(x1 == p)
      · rw [h5] at hf
        simp only [Bool.false_eq_true,if_false] at hf
        have HF:=hide hf
        clear hf
        go_wp2
        go_roundg j
        case measure=>omega
        case rel=>exact ⟨rfl,j,by omega,rfl,rfl,unhide HF⟩
      · rw [h5] at hf
        simp only [if_true] at hf
        have HF:=hide hf
        clear hf
        go_wp2
        go_ret
        rw [unhide HF]
        exact ⟨rfl,rfl⟩
theorem isBound_any {w:World} {b:Nat} {s:St} {L:Lay} (h:RdL w b s L) (hb:s.bnd.length≤300000000) (p:Bs) :
    Calls Tryz.prog 178 #[.pointer (some ⟨b,7,none⟩),.string ⟨p.toArray⟩] w fun e w' => e = .returned (.bool (Mk.isBound s.bnd p))∧w' = w:=by
  have HV:=hide (value_any h hb p)
  have hd:Mk.isBound s.bnd p=(p == [] || !(Mk.valueOf s.bnd p == [])):=rfl
  rw [hd]
  clear hd h
  generalize Mk.valueOf s.bnd p=v at *
  cases e1:(p == [])
  · simp only [Bool.false_or]
    cases e2:(v == [])
    · go_enter Tryz.func178,Tryz.ntmps178
      go_wp2_with (go_at_call 181;refine (unhide HV).mono ?_;rintro e w1 ⟨rfl,rfl⟩)
      go_ret
      exact ⟨rfl,rfl⟩
    · go_enter Tryz.func178,Tryz.ntmps178
      go_wp2_with (go_at_call 181;refine (unhide HV).mono ?_;rintro e w1 ⟨rfl,rfl⟩)
      go_ret
      exact ⟨rfl,rfl⟩
  · simp only [Bool.true_or]
    go_enter Tryz.func178,Tryz.ntmps178
    go_wp2
    go_ret
    exact ⟨rfl,rfl⟩
theorem Space_any {w:World} {b:Nat} {s:St} {L:Lay} (h:RdL w b s L) (hb:s.bnd.length≤300000000) (n:Bs) (hn:n.length≤100000000) :
    Calls Tryz.prog 173 #[.pointer (some ⟨b,7,none⟩),.string ⟨n.toArray⟩] w fun e w' => e = .returned (.string ⟨(Mk.valueOf s.bnd (Mk.prefixOf n)).toArray⟩)∧w' = w:=by
  have HV:=hide (value_any h hb (Mk.prefixOf n))
  have HP:=hide (prefixOf_any n hn w)
  generalize Mk.valueOf s.bnd (Mk.prefixOf n)=v at *
  clear h
  go_enter Tryz.func173,Tryz.ntmps173
  go_wp2_with first | (go_at_call 181;refine (unhide HV).mono ?_;rintro e w1 ⟨rfl,rfl⟩) | (go_at_call 179;refine (unhide HP).mono ?_;rintro e w1 ⟨rfl,rfl⟩)
  go_ret
  exact ⟨rfl,rfl⟩
theorem spaceOf_any {w:World} {b:Nat} {s:St} {L:Lay} (h:RdL w b s L) (hb:s.bnd.length≤300000000) (n:Bs) (hn:n.length≤100000000) :
    Calls Tryz.prog 168 #[.pointer (some ⟨b,0,none⟩),.string ⟨n.toArray⟩] w fun e w' => e = .returned (.string ⟨(Mk.spaceOf s n).toArray⟩)∧w' = w:=by
  have HV:=hide (Space_any h hb n hn)
  have hc:=h.cell
  have hd:Mk.spaceOf s n=if s.on then Mk.valueOf s.bnd (Mk.prefixOf n) else []:=rfl
  rw [hd]
  unfold cellsOf at hc
  clear h hd
  generalize Mk.valueOf s.bnd (Mk.prefixOf n)=v at *
  cases e1:s.on
  · simp only [Bool.false_eq_true,if_false]
    rw [e1] at hc
    go_enter Tryz.func168,Tryz.ntmps168
    go_wp2
    go_ret
    exact ⟨rfl,rfl⟩
  · simp only [if_true]
    rw [e1] at hc
    go_enter Tryz.func168,Tryz.ntmps168
    go_wp2_with (go_at_call 173;refine (unhide HV).mono ?_;rintro e w1 ⟨rfl,rfl⟩)
    go_ret
    exact ⟨rfl,rfl⟩
theorem areQualified_any {w:World} {base:Nat} {a:Option Addr} {c:Nat} {ats:List Att} (h:w.ownsRow base 112 3 (.slice a ats.length c) ats.length (atsRow ats)) (hl:ats.length≤32) (hn:∀ x ∈ ats,x.name.length≤100000000) (n:Bs) (hnn:n.length≤100000000) :
    Calls Tryz.prog 176 #[.string ⟨n.toArray⟩,.slice a ats.length c] w fun e w' => e = .returned (.bool (Mk.areQualified n ats))∧w' = w:=by
  have HE:=hide (fun k hk=>spElem (m:=3) (l:=ats) atCells (fun _=>rfl) (by decide) h k hk)
  have HN:=hide hn
  have HQ:=hide (isQualified_any n hnn w)
  obtain ⟨FIN,hFIN⟩:∃ FIN,FIN=Mk.areQualified n ats:=⟨_,rfl⟩
  rw [← hFIN]
  have HF:=hide (show FIN=((ats.drop 0).all (fun a=>Mk.isQualified a.name) && Mk.isQualified n) from hFIN)
  clear h hFIN hn
  go_enter Tryz.func176,Tryz.ntmps176
  go_wp2_with fail
  go_loopg [5] ats.length (fun g s5 wx=>wx=w∧∃ i:Nat,i≤ats.length∧g=ats.length - i∧s5 = .int .i64 i∧FIN=((ats.drop i).all (fun a=>Mk.isQualified a.name) && Mk.isQualified n))
  case atStart=>exact ⟨rfl,0,by omega,rfl,rfl,unhide HF⟩
  case round =>
    obtain ⟨hwr,i,hi,rfl,rfl,hf⟩:=hrel
    obtain rfl:=hwr.symm
    clear HF
    by_cases h3:i<ats.length
    · have e1:decide ((i:Int)<(ats.length:Int))=true:=by simp;omega
      have hk1:(i:Int)<(ats.length:Int):=by omega
      obtain ⟨g,hg,hgl,hcl⟩:=unhide HE i h3
      have c1:w.cell? ⟨g,i * 3,none⟩=some (.string ⟨ats[i].name.toArray⟩):=hcl 0 (by decide)
      have HQ1:=hide (isQualified_any ats[i].name (unhide HN _ (List.getElem_mem h3)) w)
      rw [List.drop_eq_getElem_cons h3,List.all_cons] at hf
      generalize ats[i].name=x at *
      generalize Mk.isQualified x=q at *
      clear hcl HE HN
      subst hg
      cases q
      · simp only [Bool.false_and] at hf
        have HF:=hide hf
        clear hf
        go_wp2_with (go_at_call 182;refine (unhide HQ1).mono ?_;rintro e w1 ⟨rfl,rfl⟩)
        go_ret
        rw [unhide HF]
        exact ⟨rfl,rfl⟩
      · simp only [Bool.true_and] at hf
        have HF:=hide hf
        clear hf
        go_wp2_with (go_at_call 182;refine (unhide HQ1).mono ?_;rintro e w1 ⟨rfl,rfl⟩)
        go_roundg (ats.length - (i + 1))
        case measure=>omega
        case rel=>exact ⟨rfl,i + 1,by omega,rfl,by simp,unhide HF⟩
    · have e1:decide ((i:Int)<(ats.length:Int))=false:=by simp;omega
      rw [List.drop_of_length_le (by omega)] at hf
      have HF:=hide (show FIN=Mk.isQualified n by simpa using hf)
      clear hf
      generalize Mk.isQualified n=q at *
      go_wp2_with (go_at_call 182;refine (unhide HQ).mono ?_;rintro e w1 ⟨rfl,rfl⟩)
      go_ret
      rw [unhide HF]
      exact ⟨rfl,rfl⟩
theorem spDrew (w:World) (n m:Nat):(w.drewN n).drewN m=w.drewN (n + m):=by simp [World.drewN,Nat.add_assoc]
set_option maxHeartbeats 2000000 in
theorem has_any {w:World} {base:Nat} {a:Option Addr} {c:Nat} {ats:List Att} (h:w.ownsRow base 112 3 (.slice a ats.length c) ats.length (atsRow ats)) (hl:ats.length≤32) (hn:∀ x ∈ ats,x.name.length≤100000000) (t:Att) (ht:t.name.length≤100000000) :
    Calls Tryz.prog 186 #[.slice a ats.length c,.agg #[.string ⟨t.name.toArray⟩,.string ⟨t.space.toArray⟩,.string ⟨t.val.toArray⟩]] w fun e w' => e = .returned (.bool (Mk.hasLocal ats t))∧Below w.heap.size w w' := by
  have HE:=hide (fun k hk=>spElem (m:=3) (l:=ats) atCells (fun _=>rfl) (by decide) h k hk)
  have HN:=hide hn
  have HT:=hide (fun w=>localOf_any t.name ht w)
  obtain ⟨FIN,hFIN⟩:∃ FIN,FIN=Mk.hasLocal ats t:=⟨_,rfl⟩
  rw [← hFIN]
  have HF:=hide (show FIN=((ats.drop 0).any fun x=>x.space == t.space && Mk.localOf x.name == Mk.localOf t.name) from hFIN)
  clear h hFIN hn
  generalize hlo:Mk.localOf t.name=tl at *
  clear hlo
  go_enter Tryz.func186,Tryz.ntmps186
  go_wp2_with (go_at_call 187;refine (unhide HT _).mono ?_;rintro e w1 ⟨rfl,rfl⟩)
  go_loopw [6] (fun s5 wx=>∃ i:Nat,i≤ats.length∧s5 = .int .i64 i∧FIN=((ats.drop i).any fun x=>x.space == t.space && Mk.localOf x.name == tl)∧∃ n,wx=(w.alloc (.cells #[.string ⟨t.name.toArray⟩,.string ⟨t.space.toArray⟩,.string ⟨t.val.toArray⟩] 112)).drewN n) (fun i _=>ats.length - (intOf i).toNat)
  case atStart=>exact ⟨0,by omega,rfl,unhide HF,0,rfl⟩
  case round =>
    obtain ⟨i,hi,rfl,hf,m,rfl⟩:=hrel
    clear HF
    by_cases h3:i<ats.length
    · have e1:decide ((i:Int)<(ats.length:Int))=true:=by simp;omega
      have hk1:(i:Int)<(ats.length:Int):=by omega
      obtain ⟨g,hg,hgl,hcl⟩:=unhide HE i h3
      have c1:w.cell? ⟨g,i * 3,none⟩=some (.string ⟨ats[i].name.toArray⟩):=hcl 0 (by decide)
      have c2:w.cell? ⟨g,i * 3 + 1,none⟩=some (.string ⟨ats[i].space.toArray⟩):=hcl 1 (by decide)
      have HQ1:=hide (fun w=>localOf_any ats[i].name (unhide HN _ (List.getElem_mem h3)) w)
      rw [List.drop_eq_getElem_cons h3,List.any_cons] at hf
      generalize ats[i].name=x at *
      generalize ats[i].space=y at *
      generalize Mk.localOf x=z at *
      clear hcl HE HN
      subst hg
      obtain ⟨W,hW⟩:∃ W,W=(w.alloc (.cells #[.string ⟨t.name.toArray⟩,.string ⟨t.space.toArray⟩,.string ⟨t.val.toArray⟩] 112)).drewN m:=⟨_,rfl⟩
      rw [← hW]
      have hgo:∀ j,(w.alloc (.cells #[.string ⟨t.name.toArray⟩,.string ⟨t.space.toArray⟩,.string ⟨t.val.toArray⟩] 112)).cell? ⟨g,j,none⟩=w.cell? ⟨g,j,none⟩:=fun j=>by simp only [World.cell?];rw [Below.heap_alloc _ _ _ hgl]
      have d1:W.cell? ⟨g,i * 3,none⟩=some (.string ⟨x.toArray⟩):=by rw [hW, ← c1, ← hgo];rfl
      have d2:W.cell? ⟨g,i * 3 + 1,none⟩=some (.string ⟨y.toArray⟩):=by rw [hW, ← c2, ← hgo];rfl
      have d3:W.cell? ⟨w.heap.size,1,none⟩=some (.string ⟨t.space.toArray⟩):=by
        rw [hW]
        show (w.alloc _).cell? _=_
        simp only [World.cell?]
        rw [heap_alloc_new]
        rfl
      have HW:=hide hW
      clear hW hgo c1 c2
      cases e2:(y == t.space)
      · rw [e2] at hf
        simp only [Bool.false_and,Bool.false_or] at hf
        have HF:=hide hf
        clear hf HQ1
        go_wp2
        go_quiet (fail)
        go_wp2
        go_roundw
        case rel=>exact ⟨i + 1,by omega,by go_num,unhide HF,by rw [unhide HW];exact ⟨_,spDrew _ _ _⟩⟩
        case measure=>simp [intOf];omega
      · rw [e2] at hf
        simp only [Bool.true_and] at hf
        cases e3:(z == tl)
        · rw [e3] at hf
          simp only [Bool.false_or] at hf
          have HF:=hide hf
          clear hf
          go_wp2
          go_quiet ((go_at_call 187;refine Calls.quiet_of_same (unhide HQ1 _)))
          go_wp2
          go_roundw
          case rel=>exact ⟨i + 1,by omega,by go_num,unhide HF,by rw [unhide HW];exact ⟨_,spDrew _ _ _⟩⟩
          case measure=>simp [intOf];omega
        · rw [e3] at hf
          simp only [Bool.true_or] at hf
          have HF:=hide hf
          clear hf
          go_wp2
          go_quiet ((go_at_call 187;refine Calls.quiet_of_same (unhide HQ1 _)))
          go_wp2
          go_ret
          rw [unhide HF]
          rw [unhide HW]
          exact ⟨rfl,⟨rfl,rfl,rfl,by rw [heap_drewN,heap_drewN];simp,fun k hk=>by rw [heap_drewN,heap_drewN];exact Below.heap_alloc _ _ _ hk⟩⟩
    · have e1:decide ((i:Int)<(ats.length:Int))=false:=by simp;omega
      rw [List.drop_of_length_le (by omega)] at hf
      have HF:=hide (show FIN=false by simpa using hf)
      clear hf
      go_wp2
      go_ret
      rw [unhide HF]
      exact ⟨rfl,⟨rfl,rfl,rfl,by rw [heap_drewN];simp,fun k hk=>by rw [heap_drewN];exact Below.heap_alloc _ _ _ hk⟩⟩
end Go.Proofs.YtmgfijllcdadgabGreatDoor
