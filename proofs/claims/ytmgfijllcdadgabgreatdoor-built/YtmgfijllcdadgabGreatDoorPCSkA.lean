/- SkA, SkB, SkC, SkD, SkP, BuA, BuB, BuC -/
import Derived.Test.YtmgfijllcdadgabGreatDoorPM04
import Derived.Test.YtmgfijllcdadgabGreatDoorPM05
import Derived.Test.YtmgfijllcdadgabGreatDoorPM24
import Derived.Test.YtmgfijllcdadgabGreatDoorPM14
import Derived.Test.YtmgfijllcdadgabGreatDoorPCSpc5
import Derived.Test.YtmgfijllcdadgabGreatDoorPCWr5
set_option linter.unusedVariables false
set_option linter.unusedSimpArgs false
namespace Go.Proofs.YtmgfijllcdadgabGreatDoor
open Go.RowKit
open Mk (St Bs Ev Att)
def hv (l:Bs):Value:=.tuple #[.string ⟨(if Mk.isQualified l then Mk.prefixOf l else []).toArray⟩,.string ⟨(if Mk.isQualified l then Mk.localOf l else []).toArray⟩,.bool (Mk.isQualified l)]
theorem res3 {fn:Func} {t u v:Tmp} (h:fn.results=#[.tmp t,.tmp u,.tmp v]) (tmps:Array Value) (P:Program) (w:World) :
    (results fn tmps).run P w = .ok (.tuple #[tmps.getD t undef,tmps.getD u undef,tmps.getD v undef]) w:=by
  simp [results,h]
theorem colon_none {l:Bs} (h:Mk.colon l = -1):hv l = .tuple #[.string ⟨[].toArray⟩,.string ⟨l.toArray⟩,.bool true]:=by
  have hc:Mk.hasColon l=false:=by
    unfold Mk.colon at h
    cases hh:Mk.hasColon l
    · rfl
    · rw [hh,if_pos rfl] at h;omega
  have hq:Mk.isQualified l=true:=by unfold Mk.isQualified;rw [hc];rfl
  unfold hv
  rw [hq,if_pos rfl,if_pos rfl]
  unfold Mk.prefixOf Mk.localOf
  rw [hc];rfl
theorem colon_some {l:Bs} {i:Nat} (h:Mk.colon l=(i:Int)):Mk.hasColon l=true∧Mk.prefixOf l=l.take i∧Mk.localOf l=l.drop (i + 1)∧i<l.length:=by
  have hc:Mk.hasColon l=true:=by
    unfold Mk.colon at h
    cases hh:Mk.hasColon l
    · rw [hh,if_neg (by decide)] at h;omega
    · rfl
  unfold Mk.colon at h
  rw [hc,if_pos rfl] at h
  have hi:Mk.colonAt l=i:=by omega
  refine ⟨hc,?_,?_,?_⟩
  · unfold Mk.prefixOf;rw [hc,if_pos rfl,hi]
  · unfold Mk.localOf;rw [hc,if_pos rfl,hi]
  · unfold Mk.hasColon at hc;have:=of_decide_eq_true hc;omega
theorem hv_not {l:Bs} (h:Mk.isQualified l=false):hv l = .tuple #[.string ⟨[].toArray⟩,.string ⟨[].toArray⟩,.bool false]:=by
  unfold hv;rw [h];rfl
theorem hv_yes {l:Bs} (h:Mk.isQualified l=true):hv l = .tuple #[.string ⟨(Mk.prefixOf l).toArray⟩,.string ⟨(Mk.localOf l).toArray⟩,.bool true]:=by
  unfold hv;rw [h];rfl
theorem qual_of {l:Bs} {i:Nat} (h:Mk.colon l=(i:Int)):Mk.isQualified l=(decide (0<i) && ((l.drop (i + 1) != []) && (Mk.beginsName (((l.drop (i + 1)).headD 0).toNat:Int) && !Mk.hasColon (l.drop (i + 1))))):=by
  obtain ⟨h1,h2,h3,h4⟩:=colon_some h
  unfold Mk.isQualified
  rw [h1,h2,h3]
  have:(l.take i != [])=decide (0<i):=by
    cases i with
    | zero=>rfl
    | succ k=>cases l with
      | nil=>simp at h4
      | cons x r=>simp
  rw [this]
  rfl
set_option maxHeartbeats 2000000 in
set_option maxRecDepth 100000 in
theorem halves_any (l:Bs) (hl:l.length≤100000000) (w:World):Calls Tryz.prog 64 #[.string ⟨l.toArray⟩] w fun e w' => e = .returned (hv l)∧∃ n,w' = w.drewN n:=by
  obtain ⟨FIN,hFIN⟩:∃ FIN,FIN=Mk.colon l:=⟨_,rfl⟩
  obtain ⟨RES,hRES⟩:∃ RES,RES=hv l:=⟨_,rfl⟩
  have HFC:=hide hFIN
  rw [colon_eq] at hFIN
  rw [← hRES]
  have HF:=hide hFIN
  have HR:=hide hRES
  clear hFIN hRES
  go_enter Tryz.func64,Tryz.ntmps64
  go_wp2_with fail
  go_loopg [5] l.length (fun g s5 wx=>∃ (i m:Nat),wx=w.drewN m∧i≤l.length∧g=l.length - i∧s5 = .int .i64 i∧Hid (FIN=colonGo (l.drop i) i))
  case atStart=>exact ⟨0,0,rfl,by omega,rfl,rfl,unhide HF⟩
  case round =>
    obtain ⟨i,m,hwr,hi,rfl,rfl,HK⟩:=hrel
    clear HF
    subst hwr
    by_cases h3:i<l.length
    · have e1:decide ((i:Int)<(l.length:Int))=true:=by simp;omega
      have hk1:(i:Int)<(l.length:Int):=by omega
      obtain ⟨y,hy⟩:∃ y,l[i]? = some y:=⟨l[i],by simp [h3]⟩
      have hsa:∀ h,(ByteArray.mk l.toArray)[i]'h=y:=fun h=>(List.getElem?_eq_some_iff.1 hy).2
      have hf:=unhide HK
      rw [spDrop hy] at hf
      have hcc:colonGo (y :: l.drop (i + 1)) i=if y == 58 then (i:Int) else colonGo (l.drop (i + 1)) (i + 1):=rfl
      rw [hcc] at hf
      have hu:=spByte y 58 (by omega)
      cases h5:(y == 58)
      · rw [h5] at hf
        simp only [Bool.false_eq_true,if_false] at hf
        have e2:((y.toNat:Int) == 58)=false:=by
          have h6:(y == UInt8.ofNat 58)=false:=h5
          rw [h6] at hu
          simpa using hu
        have e3:((y.toNat:Int) != 58)=true:=by simp at e2 ⊢;exact e2
        have HF:=hide hf
        clear hf hu hcc hy HK
        go_wp2
        go_roundg (l.length - (i + 1))
        case measure=>omega
        case rel=>exact ⟨i + 1,m,rfl,by omega,rfl,by simp,unhide HF⟩
      · rw [h5] at hf
        simp only [if_true] at hf
        have e2:((y.toNat:Int) == 58)=true:=by
          have h6:(y == UInt8.ofNat 58)=true:=h5
          rw [h6] at hu
          simpa using hu
        have e3:((y.toNat:Int) != 58)=false:=by simp at e2 ⊢;exact e2
        have hc:Mk.colon l=(i:Int):=by rw [← hf];exact (unhide HFC).symm
        have hq:=qual_of hc
        have hs:=colon_some hc
        have hxt:(ByteArray.extract ⟨l.toArray⟩ (i + 1) l.length)=⟨(l.drop (i + 1)).toArray⟩:=spSkip l (i + 1)
        have hx0:(ByteArray.extract ⟨l.toArray⟩ 0 i)=⟨(l.take i).toArray⟩:=spTake l i
        obtain ⟨lo,hlo⟩:∃ lo,lo=l.drop (i + 1):=⟨_,rfl⟩
        rw [← hlo] at hq hxt
        have hlol:lo.length≤l.length:=by rw [hlo];simp
        have hpre:Mk.prefixOf l=l.take i∧Mk.localOf l=lo:=⟨hs.2.1,by rw [hlo];exact hs.2.2.1⟩
        have HQ:=hide hq
        have HP:=hide hpre
        have k0:IntKind.i64.wrap ((i:Int) + 1)=(i:Int) + 1:=by rw [IntKind.wrap_i64];omega
        have k1:(i:Int) + 1≤(l.length:Int):=by omega
        have k2:¬ (i:Int) + 1<0:=by omega
        have k3:((i:Int) + 1).toNat=i + 1:=by omega
        have k4:0≤(i:Int) + 1:=by omega
        have k5:i + 1≤l.length:=by omega
        clear hf hu hcc hy HK hc hq hs hpre hlo
        have hno:Mk.isQualified l=false→RES = .tuple #[.string ⟨[].toArray⟩,.string ⟨[].toArray⟩,.bool false]:=fun h=>(unhide HR).trans (hv_not h)
        cases i with
        | zero =>
          have HFI:=hide (hno (by rw [unhide HQ];rfl))
          clear hno
          go_wp2
          refine bodyPost_ret (res3 rfl _ _ _) rfl ?_
          exact ⟨by rw [unhide HFI];rfl,_,rfl⟩
        | succ j =>
          have j1:(((j + 1:Nat):Int) == 0)=false:=by simp;omega
          have j2:((j:Int) + 1 == 0)=false:=by simp;omega
          cases lo with
          | nil =>
            have HFI:=hide (hno (by rw [unhide HQ];simp))
            clear hno
            go_wp2
            refine bodyPost_ret (res3 rfl _ _ _) rfl ?_
            exact ⟨by rw [unhide HFI];rfl,_,rfl⟩
          | cons c0 lr =>
            have hq1:Mk.isQualified l=(Mk.beginsName (c0.toNat:Int) && !Mk.hasColon (c0 :: lr)):=by rw [unhide HQ];simp
            have hc0:∀ h,(ByteArray.mk (c0 :: lr).toArray)[0]'h=c0:=fun h=>rfl
            have hu58:=spByte c0 58 (by omega)
            have hlr:(c0 :: lr).length=lr.length + 1:=rfl
            have hcolon:(c0 == 58)=true→Mk.hasColon (c0 :: lr)=true:=fun h=>by unfold Mk.hasColon;rw [colon_cons,h];simp
            have HC0:=hide hcolon
            have HLR:=hide hlr
            clear hcolon
            have hb:=c0.toNat_lt
            by_cases hok:(c0.toNat:Int)=95∨(65≤(c0.toNat:Int)∧(c0.toNat:Int)≤90)∨(97≤(c0.toNat:Int)∧(c0.toNat:Int)≤122)
            · have hbn:Mk.beginsName (c0.toNat:Int)=true:=by
                unfold Mk.beginsName Mk.isLetter
                rcases hok with h | h | h <;> simp [h]
              rw [hbn,Bool.true_and] at hq1
              obtain ⟨LC,hLC⟩:∃ LC,LC=Mk.colon (c0 :: lr):=⟨_,rfl⟩
              have HLC:=hide hLC
              have HLG:=hide (hLC.trans (colon_eq _))
              have HQ1:=hide hq1
              have HNO:=hide hno
              have HOK:=hide hok
              have nn:(((c0.toNat:Int) != 95)=false)∨(((c0.toNat:Int) != 95)=true∧decide ((c0.toNat:Int)<65)=false∧decide (90<(c0.toNat:Int))=false)∨(((c0.toNat:Int) != 95)=true∧decide ((c0.toNat:Int)<65)=false∧decide (90<(c0.toNat:Int))=true∧decide ((c0.toNat:Int)<97)=false∧decide (122<(c0.toNat:Int))=false):=by
                rcases hok with h | h | h
                · left;simp [h]
                · by_cases g:(c0.toNat:Int)=95
                  · left;simp [g]
                  · right;left;simp;omega
                · by_cases g:(c0.toNat:Int)=95
                  · left;simp [g]
                  · right;right;simp;omega
              clear hLC hq1 hno hbn hok hb hu58
              rcases nn with n1 | ⟨n1,n2,n3⟩ | ⟨n1,n2,n3,n4,n5⟩
              all_goals
                go_wp2_with fail
                go_loopg [8] (c0 :: lr).length (fun g s8 wx=>∃ (k m2:Nat),wx=w.drewN m2∧k≤(c0 :: lr).length∧g=(c0 :: lr).length - k∧s8 = .int .i64 k∧Hid (LC=colonGo ((c0 :: lr).drop k) k))
                case atStart=>exact ⟨0,m,rfl,by omega,rfl,rfl,unhide HLG⟩
                case round =>
                  obtain ⟨k,m2,hwr2,hk,rfl,rfl,HK2⟩:=hrel
                  clear HLG
                  subst hwr2
                  by_cases h7:k<(c0 :: lr).length
                  · have e11:decide ((k:Int)<((c0 :: lr).length:Int))=true:=by simp at h7 ⊢;omega
                    have e12:decide ((k:Int)<(lr.length:Int) + 1)=true:=by simp at h7 ⊢;omega
                    have hk11:(k:Int)<((c0 :: lr).length:Int):=by omega
                    obtain ⟨y2,hy2⟩:∃ y2,(c0 :: lr)[k]? = some y2:=⟨(c0 :: lr)[k],by simp [h7]⟩
                    have hsa2:∀ h,(ByteArray.mk (c0 :: lr).toArray)[k]'h=y2:=fun h=>(List.getElem?_eq_some_iff.1 hy2).2
                    have hf:=unhide HK2
                    rw [spDrop hy2] at hf
                    have hcc:colonGo (y2 :: (c0 :: lr).drop (k + 1)) k=if y2 == 58 then (k:Int) else colonGo ((c0 :: lr).drop (k + 1)) (k + 1):=rfl
                    rw [hcc] at hf
                    have hu:=spByte y2 58 (by omega)
                    cases h8:(y2 == 58)
                    · rw [h8] at hf
                      simp only [Bool.false_eq_true,if_false] at hf
                      have e2:((y2.toNat:Int) == 58)=false:=by
                        have h6:(y2 == UInt8.ofNat 58)=false:=h8
                        rw [h6] at hu
                        simpa using hu
                      have HF:=hide hf
                      clear hf hu hcc hy2 HK2
                      go_wp2
                      go_roundg ((c0 :: lr).length - (k + 1))
                      case measure=>omega
                      case rel=>exact ⟨k + 1,m2,rfl,by omega,rfl,by simp,unhide HF⟩
                    · rw [h8] at hf
                      simp only [if_true] at hf
                      have e2:((y2.toNat:Int) == 58)=true:=by
                        have h6:(y2 == UInt8.ofNat 58)=true:=h8
                        rw [h6] at hu
                        simpa using hu
                      have HFI:=hide (unhide HNO (by
                        rw [unhide HQ1]
                        have:=(colon_some (l:=c0 :: lr) (i:=k) ((unhide HLC).symm.trans hf)).1
                        rw [this];rfl))
                      clear hf hu hcc hy2 HK2
                      go_wp2
                      refine bodyPost_ret (res3 rfl _ _ _) rfl ?_
                      exact ⟨by rw [unhide HFI];rfl,_,rfl⟩
                  · have e11:decide ((k:Int)<((c0 :: lr).length:Int))=false:=by simp at h7 ⊢;omega
                    have e12:decide ((k:Int)<(lr.length:Int) + 1)=false:=by simp at h7 ⊢;omega
                    have hf:=unhide HK2
                    rw [List.drop_of_length_le (by omega)] at hf
                    have hnc:Mk.hasColon (c0 :: lr)=false:=by
                      have h:=(unhide HLC).symm.trans hf
                      unfold Mk.colon at h
                      cases hh:Mk.hasColon (c0 :: lr)
                      · rfl
                      · rw [hh,if_pos rfl] at h
                        have h:((Mk.colonAt (c0 :: lr):Nat):Int) = -1:=h
                        omega
                    have hyes:Mk.isQualified l=true:=by rw [unhide HQ1,hnc];rfl
                    have hfin:RES = .tuple #[.string ⟨(l.take (j + 1)).toArray⟩,.string ⟨(c0 :: lr).toArray⟩,.bool true]:=by rw [unhide HR,hv_yes hyes,(unhide HP).1,(unhide HP).2]
                    have HFI:=hide hfin
                    clear hf HK2 hnc hyes hfin
                    go_wp2
                    refine bodyPost_ret (res3 rfl _ _ _) rfl ?_
                    exact ⟨by rw [unhide HFI];rfl,_,rfl⟩
            · have HFI:=hide (hno (by
                rw [hq1]
                by_cases h58:(c0 == 58)=true
                · rw [unhide HC0 h58];simp
                · have:Mk.beginsName (c0.toNat:Int)=false:=by
                    unfold Mk.beginsName Mk.isLetter
                    have h6:((c0.toNat:Int) == 58)=false:=by
                      rw [show ((c0.toNat:Int) == 58)=(c0 == UInt8.ofNat 58) from hu58]
                      simpa using h58
                    rw [h6]
                    simp
                    omega
                  rw [this];rfl))
              clear hno hq1 hu58
              have n95:((c0.toNat:Int) != 95)=true:=by simp;omega
              have nn:(decide ((c0.toNat:Int)<65)=true∧decide ((c0.toNat:Int)<97)=true)∨(decide ((c0.toNat:Int)<65)=false∧decide (90<(c0.toNat:Int))=true∧decide ((c0.toNat:Int)<97)=true)∨(decide ((c0.toNat:Int)<65)=false∧decide (90<(c0.toNat:Int))=true∧decide ((c0.toNat:Int)<97)=false∧decide (122<(c0.toNat:Int))=true):=by simp;omega
              clear hok hb
              rcases nn with ⟨n1,n2⟩ | ⟨n1,n2,n3⟩ | ⟨n1,n2,n3,n4⟩
              all_goals
                go_wp2
                refine bodyPost_ret (res3 rfl _ _ _) rfl ?_
                exact ⟨by rw [unhide HFI];rfl,_,rfl⟩
    · have e1:decide ((i:Int)<(l.length:Int))=false:=by simp;omega
      have hf:=unhide HK
      rw [List.drop_of_length_le (by omega)] at hf
      have hfin:RES = .tuple #[.string ⟨[].toArray⟩,.string ⟨l.toArray⟩,.bool true]:=(unhide HR).trans (colon_none ((unhide HFC).symm.trans hf))
      have HFI:=hide hfin
      clear hf HK hfin
      go_wp2
      refine bodyPost_ret (res3 rfl _ _ _) rfl ?_
      exact ⟨by rw [unhide HFI];rfl,_,rfl⟩
def kdB (l:Bs):Bool:=l == Mk.wXmlns || (Mk.isQualified l && Mk.prefixOf l == Mk.wXmlns)
def kdS (l:Bs):Bs:=if l == Mk.wXmlns then [] else if Mk.isQualified l then Mk.localOf l else []
theorem kd_any (l:Bs) (hl:l.length≤100000000) (w:World):Calls Tryz.prog 65 #[.string ⟨l.toArray⟩] w fun e w' => e = .returned (.tuple #[.string ⟨(kdS l).toArray⟩,.bool (kdB l)])∧∃ n,w' = w.drewN n:=by
  have HH:=hide (halves_any l hl w)
  obtain ⟨R1,hR1⟩:∃ R1,R1=kdS l:=⟨_,rfl⟩
  obtain ⟨R2,hR2⟩:∃ R2,R2=kdB l:=⟨_,rfl⟩
  rw [← hR1, ← hR2]
  unfold kdS at hR1
  unfold kdB at hR2
  cases hx:(l == Mk.wXmlns)
  · have e1:(l == [120,109,108,110,115])=false:=hx
    rw [hx] at hR1 hR2
    simp only [Bool.false_eq_true,if_false,Bool.false_or] at hR1 hR2
    cases hq:Mk.isQualified l
    · rw [hv_not hq] at HH
      rw [hq] at hR1 hR2
      simp only [Bool.false_eq_true,if_false,Bool.false_and] at hR1 hR2
      subst hR1 hR2
      clear hx
      go_enter Tryz.func65,Tryz.ntmps65
      go_wp2_with fail
      refine (unhide HH).mono ?_
      rintro e w1 ⟨rfl,n,rfl⟩
      go_wp2
      try (go_quiet (fail);go_wp2)
      go_ret2
      exact ⟨rfl,_,rfl⟩
    · rw [hv_yes hq] at HH
      rw [hq] at hR1 hR2
      simp only [if_true,Bool.true_and] at hR1 hR2
      have e2:(Mk.prefixOf l == [120,109,108,110,115])=R2:=hR2.symm
      have H1:=hide hR1
      clear hx hR2 hR1
      generalize Mk.prefixOf l=pf at *
      generalize Mk.localOf l=lc at *
      have hR1:=unhide H1
      subst hR1
      clear H1
      cases R2
      all_goals
        go_enter Tryz.func65,Tryz.ntmps65
        go_wp2_with fail
        refine (unhide HH).mono ?_
        rintro e w1 ⟨rfl,n,rfl⟩
        go_wp2
        try (go_quiet (fail);go_wp2)
        go_ret2
        exact ⟨rfl,_,rfl⟩
  · have e1:(l == [120,109,108,110,115])=true:=hx
    rw [hx] at hR1 hR2
    simp only [if_true,Bool.true_or] at hR1 hR2
    subst hR1 hR2
    clear hx HH
    go_enter Tryz.func65,Tryz.ntmps65
    go_wp2
    try (go_quiet (fail);go_wp2)
    go_ret2
    exact ⟨rfl,0,rfl⟩
structure BR (n0:Nat) (w:World) (b:Nat) (ty:TypeId) (cs:List Value) (rs:List Row):Prop where
  blk:w.heap[b]? = some (.cells cs.toArray ty (0,0))
  rows:Rws w n0 rs
  nb:b ∉ blks rs
  hb:n0≤b
section
variable {n0:Nat} {w w' : World} {b:Nat} {ty:TypeId} {cs:List Value} {rs rs' rs0:List Row}
theorem BR.lt (h:BR n0 w b ty cs rs):b<w.heap.size:=(Array.getElem?_eq_some_iff.1 h.blk).1
theorem BR.keep (h:BR n0 w b ty cs rs) (hk:∀ k,k=b∨k ∈ blks rs→w'.heap[k]? = w.heap[k]?):BR n0 w' b ty cs rs:=
  ⟨(hk b (.inl rfl)).trans h.blk,h.rows.keep fun k hm=>hk k (.inr hm),h.nb,h.hb⟩
theorem BR.below (h:BR n0 w b ty cs rs) (hb:Below w.heap.size w w'):BR n0 w' b ty cs rs:=h.keep fun k hk=>hb.block k (by
  rcases hk with rfl | hk
  · exact h.lt
  · exact (h.rows.lt k hk).2)
theorem BR.cell (h:BR n0 w b ty cs rs) (j:Nat):w.cell? ⟨b,j,none⟩=cs[j]? := by
  simp [World.cell?,h.blk]
theorem BR.grow (h:BR n0 w b ty cs rs) {r r' : Row} (i:Nat) (v:Value) (hp:rs.Perm (r :: rs0)) (hp' : rs'.Perm (r' :: rs0)) (ho:r'.owned w' n0) (hg:w.grownBy w' r.v.ownBlock) (hb:r'.v.ownBlock=r.v.ownBlock∨r'.v.ownBlock=some w.heap.size) :
    BR n0 (w'.setCell ⟨b,i,none⟩ v) b ty (cs.set i v) rs' ∧ Fr w (w'.setCell ⟨b,i,none⟩ v) b (blks rs) (blks rs'):=by
  have h1:=h.rows.perm hp
  have h2:Rws w' n0 rs' := (h1.grow ho hg hb).perm hp'.symm
  have hne:some b ≠ r.v.ownBlock:=fun e=>h.nb (perm_blks hp.symm b (List.mem_filterMap.2 ⟨r,List.mem_cons_self,e.symm⟩))
  have hnb:b ∉ blks rs' := fun hm=>by
    have h3:=perm_blks hp' b hm
    have hrs:b ∈ blks rs0→False:=fun h4=>h.nb (perm_blks hp.symm b (@blks_behind [r] rs0 b h4))
    unfold blks at h3
    rw [List.filterMap_cons] at h3
    split at h3
    · exact hrs h3
    · rename_i j hj
      rcases List.mem_cons.1 h3 with e | h3
      · subst e
        rcases hb with hb | hb
        · exact hne (hj.symm.trans hb)
        · rw [hj] at hb
          cases hb
          exact Nat.lt_irrefl _ h.lt
      · exact hrs h3
  have hblk:w'.heap[b]? = some (.cells cs.toArray ty (0,0)):=(hg.block b h.lt hne).trans h.blk
  refine ⟨⟨?_,?_,hnb,h.hb⟩,?_⟩
  · simp [World.setCell,Array.getElem?_modify,hblk]
  · refine h2.keep fun k hk=>Below.heap_setCell _ _ _ _ ?_
    exact fun (e:k=b)=>hnb (e ▸ hk)
  · exact ((Fr.grown (b:=b) hg hb rs0 rfl).wide fun k hk=>perm_blks hp.symm k hk).trans ((Fr.setCell _ _ _ _ _).sub fun k hk=>perm_blks hp' k hk)
theorem BR.cut (h:BR n0 w b ty cs rs) {r r' : Row} (i:Nat) (v:Value) (hp:rs.Perm (r :: rs0)) (hp' : rs'.Perm (r' :: rs0)) (ho:r'.owned w n0) (hb:r'.v.ownBlock=r.v.ownBlock) :
    BR n0 (w.setCell ⟨b,i,none⟩ v) b ty (cs.set i v) rs' ∧ Fr w (w.setCell ⟨b,i,none⟩ v) b (blks rs) (blks rs'):=
  h.grow i v hp hp' ho ⟨rfl,rfl,rfl,Nat.le_refl _,fun _ _ _=>rfl⟩ (.inl hb)
end
structure SLay where
  pa:Option Addr
  pc:Nat
  va:Option Addr
  vc:Nat
  ma:Option Addr
  mc:Nat
def pRow (ps:List Bs) (L:SLay):Row:=⟨9,1,.slice L.pa ps.length L.pc,ps.length,ps.map sv⟩
def vRow (vs:List Bs) (L:SLay):Row:=⟨9,1,.slice L.va vs.length L.vc,vs.length,vs.map sv⟩
def mRow (ms:List Nat) (L:SLay):Row:=⟨3,1,.slice L.ma ms.length L.mc,ms.length,ms.map nv⟩
def scCells (ps vs:List Bs) (ms:List Nat) (L:SLay):List Value:=[.slice L.pa ps.length L.pc,.slice L.va vs.length L.vc,.slice L.ma ms.length L.mc]
def scRows (ps vs:List Bs) (ms:List Nat) (L:SLay):List Row:=[pRow ps L,vRow vs L,mRow ms L]
def ScK (n0:Nat) (w:World) (b:Nat) (ps vs:List Bs) (ms:List Nat) (L:SLay):Prop:=BR n0 w b 89 (scCells ps vs ms L) (scRows ps vs ms L)
def scF (ps vs:List Bs) (ms:List Nat) (L:SLay):List Nat:=blks (scRows ps vs ms L)
section
variable {n0:Nat} {w w' : World} {b:Nat} {ps vs:List Bs} {ms:List Nat} {L:SLay}
theorem ScK.lt (h:ScK n0 w b ps vs ms L):b<w.heap.size:=BR.lt h
theorem ScK.cells (h:ScK n0 w b ps vs ms L) (j:Nat):w.cell? ⟨b,j,none⟩=[Value.slice L.pa ps.length L.pc,.slice L.va vs.length L.vc,.slice L.ma ms.length L.mc][j]? := BR.cell h j
theorem row_at {ss:List Bs} {a:Option Addr} {c:Nat} (h:w.ownsRow n0 9 1 (.slice a ss.length c) ss.length (ss.map sv)) (k:Nat) (hk:k<ss.length):∃ g,a=some ⟨g,0,none⟩∧g<w.heap.size∧w.cell? ⟨g,k,none⟩=some (.string ⟨(ss[k]).toArray⟩):=by
  have hrow:w.ownsRow n0 9 1 (.slice a ss.length c) ss.length (ss.flatMap fun n=>[sv n]):=by
    have e:(ss.flatMap fun n=>[sv n])=ss.map sv:=by rw [List.map_eq_flatMap]
    rw [e];exact h
  obtain ⟨g,hg,hgl,hcl⟩:=spElem (m:=1) (l:=ss) (fun n=>[sv n]) (fun _=>rfl) (by decide) hrow k hk
  refine ⟨g,hg,hgl,?_⟩
  have:=hcl 0 (by decide)
  simpa [sv] using this
theorem ScK.rp (h:ScK n0 w b ps vs ms L):(pRow ps L).owned w n0:=h.rows.own _ (by simp [scRows])
theorem ScK.rv (h:ScK n0 w b ps vs ms L):(vRow vs L).owned w n0:=h.rows.own _ (by simp [scRows])
theorem ScK.rm (h:ScK n0 w b ps vs ms L):(mRow ms L).owned w n0:=h.rows.own _ (by simp [scRows])
end
def lkS (bs:List (Bs × Bs)) (p:Bs):Bs:=if p == Mk.wXml then Mk.xmlSpace else Mk.valueOf bs p
def lkB (bs:List (Bs × Bs)) (p:Bs):Bool:=p == Mk.wXml || bs.any (·.1 == p) || p == []
theorem valueOf_none (bs:List (Bs × Bs)) (p:Bs):(bs.any fun x=>x.1 == p)=false→Mk.valueOf bs p=[]:=by
  intro h
  have:∀ (l:List (Bs × Bs)) (acc:Bs),(l.any fun x=>x.1 == p)=false→l.foldl (fun acc x=>if x.1 == p then x.2 else acc) acc=acc:=by
    intro l
    induction l with
    | nil=>intro acc _;rfl
    | cons x r ih =>
      intro acc hh
      rw [List.any_cons,Bool.or_eq_false_iff] at hh
      rw [List.foldl_cons,hh.1]
      exact ih acc hh.2
  exact this bs [] h
set_option maxHeartbeats 2000000 in
set_option maxRecDepth 100000 in
theorem lookup_any {n0:Nat} {w:World} {b:Nat} {bs:List (Bs × Bs)} {ms:List Nat} {L:SLay} (h:ScK n0 w b (bs.map (·.1)) (bs.map (·.2)) ms L) (hl:bs.length≤1000000000) (p:Bs) :
    Calls Tryz.prog 67 #[.pointer (some ⟨b,0,none⟩),.string ⟨p.toArray⟩] w fun e w' => e = .returned (.tuple #[.string ⟨(lkS bs p).toArray⟩,.bool (lkB bs p)])∧∃ n,w' = w.drewN n:=by
  have hc:=h.cells
  have hlt:=h.lt
  obtain ⟨R1,hR1⟩:∃ R1,R1=lkS bs p:=⟨_,rfl⟩
  obtain ⟨R2,hR2⟩:∃ R2,R2=lkB bs p:=⟨_,rfl⟩
  rw [← hR1, ← hR2]
  unfold lkS at hR1
  unfold lkB at hR2
  have HP:Hid (∀ (k:Nat) (hk:k<bs.length), ∃ g,L.pa=some ⟨g,0,none⟩∧g<w.heap.size∧w.cell? ⟨g,k,none⟩=some (.string ⟨(bs[k]).1.toArray⟩)):=fun k hk=>by
    have:=row_at h.rp k (by simpa using hk)
    simpa using this
  have HV:Hid (∀ (k:Nat) (hk:k<bs.length), ∃ g,L.va=some ⟨g,0,none⟩∧g<w.heap.size∧w.cell? ⟨g,k,none⟩=some (.string ⟨(bs[k]).2.toArray⟩)):=fun k hk=>by
    have:=row_at h.rv k (by simpa using hk)
    simpa using this
  simp only [List.length_map] at hc
  clear h
  cases hx:(p == Mk.wXml)
  · have e1:(p == [120,109,108])=false:=hx
    rw [hx] at hR1 hR2
    simp only [Bool.false_eq_true,if_false,Bool.false_or] at hR1 hR2
    have H1:=hide hR1
    have H2:=hide hR2
    clear hx hR1 hR2
    go_enter Tryz.func67,Tryz.ntmps67
    go_wp2_with fail
    go_loopg [6] bs.length (fun g s5 wx=>∃ (i m:Nat),wx=w.drewN m∧i≤bs.length∧g=i + 0∧s5 = .int .i64 ((i:Int) - 1)∧Hid (R1=Mk.valueOf (bs.take i) p)∧Hid (R2=((bs.take i).any (·.1 == p) || p == [])))
    case atStart=>exact ⟨bs.length,0,rfl,by omega,rfl,by first | rfl | go_num,by show _=_;rw [List.take_length];exact unhide H1,by show _=_;rw [List.take_length];exact unhide H2⟩
    case round =>
      obtain ⟨i,m,hwr,hi,hgi,rfl,HA,HB⟩:=hrel
      clear H1 H2
      subst hwr
      cases i with
      | zero =>
        have f1:decide ((0:Int)≤((0:Nat):Int) - 1)=false:=by decide
        have hA:R1=[]:=unhide HA
        have hB:R2=p.isEmpty:=by rw [unhide HB];cases p <;> rfl
        subst hA hB
        clear HA HB
        go_wp2
        try (go_quiet (fail);go_wp2)
        go_ret2
        exact ⟨rfl,_,rfl⟩
      | succ k =>
        have e0:((k + 1:Nat):Int) - 1=(k:Int):=by omega
        rw [e0]
        have f1:decide ((0:Int)≤(k:Int))=true:=by simp
        have f2:(k:Int)<(bs.length:Int):=by omega
        obtain ⟨g,hg,hgl,hcell⟩:=unhide HP k (by omega)
        obtain ⟨g2,hg2,hgl2,hcell2⟩:=unhide HV k (by omega)
        have hA:=unhide HA
        have hB:=unhide HB
        rw [spTakeS bs k (by omega)] at hA hB
        rw [valueOf_snoc] at hA
        rw [List.any_append] at hB
        generalize bs[k]=x at *
        rw [hg,hg2] at hc
        cases hm:(x.1 == p)
        · rw [hm] at hA
          simp only [Bool.false_eq_true,if_false] at hA
          simp only [List.any_cons,hm,List.any_nil,Bool.or_false] at hB
          have HA2:=hide hA
          have HB2:=hide hB
          clear HA HB hA hB hg hg2 HP HV
          go_wp2
          go_roundg k
          case measure=>omega
          case rel=>exact ⟨k,m,rfl,by omega,rfl,by first | rfl | go_num,unhide HA2,unhide HB2⟩
        · rw [hm] at hA
          simp only [if_true] at hA
          simp only [List.any_cons,hm,List.any_nil,Bool.or_true,Bool.true_or] at hB
          subst hB
          have HA2:=hide hA
          clear HA HB hA hg hg2 HP HV
          go_wp2
          try (go_quiet (fail);go_wp2)
          go_ret2
          exact ⟨by rw [unhide HA2];rfl,_,rfl⟩
  · have e1:(p == [120,109,108])=true:=hx
    rw [hx] at hR1 hR2
    simp only [if_true,Bool.true_or] at hR1 hR2
    subst hR1 hR2
    clear hx HP HV
    go_enter Tryz.func67,Tryz.ntmps67
    go_wp2
    try (go_quiet (fail);go_wp2)
    go_ret2
    exact ⟨rfl,0,rfl⟩
section
variable {n0:Nat} {w w' : World} {b:Nat} {ps vs:List Bs} {ms:List Nat} {L:SLay}
theorem ScK.pushP (h:ScK n0 w b ps vs ms L) (x:Bs) {g cap:Nat} (hown:w'.ownsRow n0 9 1 (.slice (some ⟨g,0,none⟩) (ps.length + 1) cap) (ps.length + 1) (ps.map sv ++ [.string ⟨x.toArray⟩])) (hg:w.grownBy w' (Value.slice L.pa ps.length L.pc).ownBlock) (hat:(Value.slice L.pa ps.length L.pc).ownBlock=some g∨g=w.heap.size) :
    ScK n0 (w'.setCell ⟨b,0,none⟩ (.slice (some ⟨g,0,none⟩) (ps.length + 1) cap)) b (ps ++ [x]) vs ms { L with pa:=some ⟨g,0,none⟩,pc:=cap }∧Fr w (w'.setCell ⟨b,0,none⟩ (.slice (some ⟨g,0,none⟩) (ps.length + 1) cap)) b (scF ps vs ms L) (scF (ps ++ [x]) vs ms { L with pa:=some ⟨g,0,none⟩,pc:=cap }):=by
  have:=BR.grow h (r:=pRow ps L) (r' := pRow (ps ++ [x]) { L with pa:=some ⟨g,0,none⟩,pc:=cap }) (rs' := scRows (ps ++ [x]) vs ms { L with pa:=some ⟨g,0,none⟩,pc:=cap }) 0 (.slice (some ⟨g,0,none⟩) (ps.length + 1) cap) (List.Perm.refl _) (List.Perm.refl _) (by
    show World.ownsRow _ _ _ _ _ _ _
    simp only [pRow,List.length_append,List.length_cons,List.length_nil,Nat.zero_add,List.map_append,List.map_cons,List.map_nil]
    exact hown) hg (by
    rcases hat with h | h
    · exact .inl h.symm
    · exact .inr (by rw [h];rfl))
  refine ⟨?_,this.2⟩
  have h1:=this.1
  have e:(scCells ps vs ms L).set 0 (.slice (some ⟨g,0,none⟩) (ps.length + 1) cap)=scCells (ps ++ [x]) vs ms { L with pa:=some ⟨g,0,none⟩,pc:=cap }:=by simp [scCells]
  rw [e] at h1
  exact h1
theorem perm2' {α:Type} (a b c:α):[a,b,c].Perm (b :: [a,c]):=List.Perm.swap _ _ _
theorem perm3' {α:Type} (a b c:α):[a,b,c].Perm (c :: [a,b]):=((List.Perm.swap c b []).cons a).trans (List.Perm.swap c a _)
theorem ScK.pushV (h:ScK n0 w b ps vs ms L) (x:Bs) {g cap:Nat} (hown:w'.ownsRow n0 9 1 (.slice (some ⟨g,0,none⟩) (vs.length + 1) cap) (vs.length + 1) (vs.map sv ++ [.string ⟨x.toArray⟩])) (hg:w.grownBy w' (Value.slice L.va vs.length L.vc).ownBlock) (hat:(Value.slice L.va vs.length L.vc).ownBlock=some g∨g=w.heap.size) :
    ScK n0 (w'.setCell ⟨b,1,none⟩ (.slice (some ⟨g,0,none⟩) (vs.length + 1) cap)) b ps (vs ++ [x]) ms { L with va:=some ⟨g,0,none⟩,vc:=cap }∧Fr w (w'.setCell ⟨b,1,none⟩ (.slice (some ⟨g,0,none⟩) (vs.length + 1) cap)) b (scF ps vs ms L) (scF ps (vs ++ [x]) ms { L with va:=some ⟨g,0,none⟩,vc:=cap }):=by
  have:=BR.grow h (r:=vRow vs L) (r' := vRow (vs ++ [x]) { L with va:=some ⟨g,0,none⟩,vc:=cap }) (rs' := scRows ps (vs ++ [x]) ms { L with va:=some ⟨g,0,none⟩,vc:=cap }) (rs0:=[pRow ps L,mRow ms L]) 1 (.slice (some ⟨g,0,none⟩) (vs.length + 1) cap) (perm2' _ _ _) (perm2' _ _ _) (by
    show World.ownsRow _ _ _ _ _ _ _
    simp only [vRow,List.length_append,List.length_cons,List.length_nil,Nat.zero_add,List.map_append,List.map_cons,List.map_nil]
    exact hown) hg (by
    rcases hat with h | h
    · exact .inl h.symm
    · exact .inr (by rw [h];rfl))
  refine ⟨?_,this.2⟩
  have h1:=this.1
  have e:(scCells ps vs ms L).set 1 (.slice (some ⟨g,0,none⟩) (vs.length + 1) cap)=scCells ps (vs ++ [x]) ms { L with va:=some ⟨g,0,none⟩,vc:=cap }:=by simp [scCells]
  rw [e] at h1
  exact h1
theorem ScK.pushM (h:ScK n0 w b ps vs ms L) (x:Nat) {g cap:Nat} (hown:w'.ownsRow n0 3 1 (.slice (some ⟨g,0,none⟩) (ms.length + 1) cap) (ms.length + 1) (ms.map nv ++ [.int .i64 (x:Int)])) (hg:w.grownBy w' (Value.slice L.ma ms.length L.mc).ownBlock) (hat:(Value.slice L.ma ms.length L.mc).ownBlock=some g∨g=w.heap.size) :
    ScK n0 (w'.setCell ⟨b,2,none⟩ (.slice (some ⟨g,0,none⟩) (ms.length + 1) cap)) b ps vs (ms ++ [x]) { L with ma:=some ⟨g,0,none⟩,mc:=cap }∧Fr w (w'.setCell ⟨b,2,none⟩ (.slice (some ⟨g,0,none⟩) (ms.length + 1) cap)) b (scF ps vs ms L) (scF ps vs (ms ++ [x]) { L with ma:=some ⟨g,0,none⟩,mc:=cap }):=by
  have:=BR.grow h (r:=mRow ms L) (r' := mRow (ms ++ [x]) { L with ma:=some ⟨g,0,none⟩,mc:=cap }) (rs' := scRows ps vs (ms ++ [x]) { L with ma:=some ⟨g,0,none⟩,mc:=cap }) (rs0:=[pRow ps L,vRow vs L]) 2 (.slice (some ⟨g,0,none⟩) (ms.length + 1) cap) (perm3' _ _ _) (perm3' _ _ _) (by
    show World.ownsRow _ _ _ _ _ _ _
    simp only [mRow,List.length_append,List.length_cons,List.length_nil,Nat.zero_add,List.map_append,List.map_cons,List.map_nil]
    exact hown) hg (by
    rcases hat with h | h
    · exact .inl h.symm
    · exact .inr (by rw [h];rfl))
  refine ⟨?_,this.2⟩
  have h1:=this.1
  have e:(scCells ps vs ms L).set 2 (.slice (some ⟨g,0,none⟩) (ms.length + 1) cap)=scCells ps vs (ms ++ [x]) { L with ma:=some ⟨g,0,none⟩,mc:=cap }:=by simp [scCells]
  rw [e] at h1
  exact h1
end
theorem BR.after {n0:Nat} {w w' : World} {b:Nat} {ty:TypeId} {cs:List Value} {rs:List Row} (h:BR n0 w b ty cs rs) {r:Row} (hr:r ∈ rs) (hg:w.grownBy w' r.v.ownBlock):(∀ j,w'.cell? ⟨b,j,none⟩=cs[j]?)∧(∀ j,w'.frozen? ⟨b,j,none⟩=false)∧b<w'.heap.size:=by
  have h1:w'.heap[b]? = some (.cells cs.toArray ty (0,0)):=(hg.block b h.lt (fun e=>h.nb (List.mem_filterMap.2 ⟨r,hr,e.symm⟩))).trans h.blk
  exact ⟨fun i=>by simp [World.cell?,h1],fun i=>by simp [World.frozen?,h1],(Array.getElem?_eq_some_iff.1 h1).1⟩
def DeK (n0:Nat) (w:World) (b:Nat) (ps vs:List Bs) (ms:List Nat) (L:SLay) (p v:Bs) (e:Ending) (w' : World):Prop:=
  (Mk.isGood p v=false∧e = .returned (.bool false)∧∃ n,w' = w.drewN n)∨(Mk.isGood p v=true∧e = .returned (.bool true)∧∃ L', ScK n0 w' b (ps ++ [p]) (vs ++ [v]) ms L' ∧ Fr w w' b (scF ps vs ms L) (scF (ps ++ [p]) (vs ++ [v]) ms L'))
theorem empty_eq (l:Bs):(l == [])=l.isEmpty:=by cases l <;> rfl
set_option maxHeartbeats 4000000 in
set_option maxRecDepth 100000 in
theorem kdeclare_any {n0:Nat} {w:World} {b:Nat} {ps vs:List Bs} {ms:List Nat} {L:SLay} (h:ScK n0 w b ps vs ms L) (hl:ps.length≤1000000000) (hl2:vs.length≤1000000000) (p v:Bs) :
    Calls Tryz.prog 66 #[.pointer (some ⟨b,0,none⟩),.string ⟨p.toArray⟩,.string ⟨v.toArray⟩] w (DeK n0 w b ps vs ms L p v):=by
  have hc:=h.cells
  have hlt:=h.lt
  have hn0:=h.hb
  obtain ⟨i0,hi,hz0,hz1,hz2⟩:=info_parts infoStr
  have hgd:Mk.isGood p v=(if p == Mk.wXmlns || v == Mk.declSpace then false else if p == Mk.wXml || v == Mk.xmlSpace then p == Mk.wXml && v == Mk.xmlSpace else p.isEmpty || !v.isEmpty):=by
    unfold Mk.isGood
    rw [empty_eq]
    have:(v != []) = !v.isEmpty:=by cases v <;> rfl
    rw [this]
  have HM:=hide h
  clear h
  have e1:(p == [120,109,108,110,115])=(p == Mk.wXmlns):=rfl
  have e2:(v == [104,116,116,112,58,47,47,119,119,119,46,119,51,46,111,114,103,47,50,48,48,48,47,120,109,108,110,115,47])=(v == Mk.declSpace):=rfl
  have e3:(p == [120,109,108])=(p == Mk.wXml):=rfl
  have e4:(v == [104,116,116,112,58,47,47,119,119,119,46,119,51,46,111,114,103,47,88,77,76,47,49,57,57,56,47,110,97,109,101,115,112,97,99,101])=(v == Mk.xmlSpace):=rfl
  have h45:(v == Mk.xmlSpace)=true→v.isEmpty=false:=fun h=>by
    rw [beq_iff_eq] at h
    rw [h];rfl
  generalize (p == Mk.wXmlns)=B1 at *
  generalize (v == Mk.declSpace)=B2 at *
  generalize (p == Mk.wXml)=B3 at *
  generalize (v == Mk.xmlSpace)=B4 at *
  obtain ⟨B5,e5⟩:∃ B5,v.isEmpty=B5:=⟨_,rfl⟩
  obtain ⟨B6,e6⟩:∃ B6,p.isEmpty=B6:=⟨_,rfl⟩
  rw [e5,e6] at hgd
  rw [e5] at h45
  have e7:(p == [])=B6:=(empty_eq p).trans e6
  have e8:(v == [])=B5:=(empty_eq v).trans e5
  have e9:(p != []) = !B6:=by rw [← e7];rfl
  have bad:Mk.isGood p v=false→Calls Tryz.prog 66 #[.pointer (some ⟨b,0,none⟩),.string ⟨p.toArray⟩,.string ⟨v.toArray⟩] w (DeK n0 w b ps vs ms L p v):=by
    intro hb
    rw [hgd] at hb
    have HB:=hide (show Mk.isGood p v=false by rw [hgd];exact hb)
    clear hgd
    cases B1 <;> cases B2 <;> cases B3 <;> cases B4 <;> cases B5 <;> cases B6 <;> simp at hb
    all_goals
      clear hb h45
      go_enter Tryz.func66,Tryz.ntmps66
      go_wp2
      go_ret
      exact .inl ⟨unhide HB,rfl,0,rfl⟩
  cases hgv:Mk.isGood p v
  · exact bad hgv
  · clear bad
    have hb:=hgd.symm.trans hgv
    have HGV:=hide hgv
    clear hgd hgv
    have hmx:ps.length + 1≤maxLen∧vs.length + 1≤maxLen:=by unfold maxLen;omega
    cases B1 <;> cases B2 <;> cases B3 <;> cases B4 <;> cases B5 <;> cases B6 <;> simp at hb
    all_goals try exact absurd (h45 rfl) (by decide)
    all_goals
      clear h45
      go_enter Tryz.func66,Tryz.ntmps66
      have hA:ScK n0 (w.alloc (.cells #[.string ⟨p.toArray⟩] 9)) b ps vs ms L:=BR.below (unhide HM) ((Below.refl _ _).alloc (Nat.le_refl _) _)
      have HA:=hide hA
      have HO:=hide hA.rp
      have HB:=hide (show (w.alloc (.cells #[.string ⟨p.toArray⟩] 9)).heap[w.heap.size]? = _ from heap_alloc_new w _)
      have H63:=hide hmx
      have HBB:=hide (show n0≤(w.alloc (.cells #[.string ⟨p.toArray⟩] 9)).heap.size by simp;omega)
      clear hA hmx
      go_wp2_with (at_builtin;first
        | (refine wpList_append_lies _ rfl (.tmp 32) (.tmp 34) 22 rfl n0 9 i0 _ 1 16 Tryz.underlying22 hi hz0 hz1 hz2 rfl (by decide) (.slice L.pa ps.length L.pc) ps.length (ps.map sv) (by simp [Act.eval]) (unhide HO) ⟨w.heap.size,0,none⟩ 1 1 [.string ⟨p.toArray⟩] (by simp [Act.eval]) rfl (World.news_of_block (unhide HB)) (by intro u hu;simp at hu;subst hu;rfl) (by decide) (unhide H63).1 (by omega) (unhide HBB) (w.heap.size + 1) (by simp) ?_;intro g2 cap w2 hown hgrow hat hlt2;obtain ⟨hr,hfr,hbl⟩:=BR.after (unhide HA) (r:=pRow ps L) (by simp [scRows]) hgrow;have HP1:=hide (ScK.pushP (unhide HA) p hown hgrow (by simpa using hat));unfold scCells at hr;clear hown hgrow hat;have hA2:ScK n0 ((w2.setCell ⟨b,0,none⟩ (.slice (some ⟨g2,0,none⟩) (ps.length + 1) cap)).alloc (.cells #[.string ⟨v.toArray⟩] 9)) b (ps ++ [p]) vs ms { L with pa:=some ⟨g2,0,none⟩,pc:=cap }:=BR.below (unhide HP1).1 ((Below.refl _ _).alloc (Nat.le_refl _) _);have HA2:=hide hA2;have HO2:=hide hA2.rv;have HB2:=hide (show ((w2.setCell ⟨b,0,none⟩ (.slice (some ⟨g2,0,none⟩) (ps.length + 1) cap)).alloc (.cells #[.string ⟨v.toArray⟩] 9)).heap[(w2.setCell ⟨b,0,none⟩ (.slice (some ⟨g2,0,none⟩) (ps.length + 1) cap)).heap.size]? = _ from heap_alloc_new _ _);have HBB2:=hide (show n0≤((w2.setCell ⟨b,0,none⟩ (.slice (some ⟨g2,0,none⟩) (ps.length + 1) cap)).alloc (.cells #[.string ⟨v.toArray⟩] 9)).heap.size by simp;omega);clear hA2)
        | (refine wpList_append_lies _ rfl (.tmp 42) (.tmp 44) 22 rfl n0 9 i0 _ 1 16 Tryz.underlying22 hi hz0 hz1 hz2 rfl (by decide) (.slice L.va vs.length L.vc) vs.length (vs.map sv) (by simp [Act.eval]) (unhide HO2) ⟨w2.heap.size,0,none⟩ 1 1 [.string ⟨v.toArray⟩] (by simp [Act.eval]) rfl (World.news_of_block (by have:=unhide HB2;simpa using this)) (by intro u hu;simp at hu;subst hu;rfl) (by decide) (unhide H63).2 (by omega) (unhide HBB2) (w2.heap.size + 1) (by simp) ?_;intro g3 cap3 w3 hown hgrow hat hlt3;obtain ⟨hr3,hfr3,hbl3⟩:=BR.after (unhide HA2) (r:=vRow vs { L with pa:=some ⟨g2,0,none⟩,pc:=cap }) (by simp [scRows]) hgrow;have HP2:=hide (ScK.pushV (unhide HA2) v hown hgrow (by simpa using hat));unfold scCells at hr3;clear hown hgrow hat))
      go_ret
      refine .inr ⟨unhide HGV,rfl,_,(unhide HP2).1,?_⟩
      have f1:=(unhide HP1).2
      have f2:=(unhide HP2).2
      exact ((Fr.alloc _ _ _ _).trans f1).trans ((Fr.alloc _ _ _ _).trans f2)
def GoodB (bs:List (Bs × Bs)):Prop := ∀ x ∈ bs,Mk.isGood x.1 x.2=true
def xmlB:Bs × Bs:=(Mk.wXml,Mk.xmlSpace)
theorem good_xml {v:Bs} (h:Mk.isGood Mk.wXml v=true):v=Mk.xmlSpace:=by
  unfold Mk.isGood at h
  split at h
  · cases h
  · split at h
    · simpa using h
    · rename_i h1 h2
      exact absurd (by simp:(Mk.wXml == Mk.wXml || v == Mk.xmlSpace)=true) h2
theorem good_xmlns {v:Bs}:Mk.isGood Mk.wXmlns v=false:=by unfold Mk.isGood;rw [if_pos (by simp)]
theorem good_val {p v:Bs} (h:Mk.isGood p v=true) (hp:p ≠ []):v ≠ []:=by
  unfold Mk.isGood at h
  split at h
  · cases h
  · split at h
    · have:v=Mk.xmlSpace:=by simpa using (Bool.and_eq_true_iff.1 h).2
      rw [this];decide
    · have h:p=[]∨¬ v=[]:=by simpa using h
      rcases h with h | h
      · exact absurd h hp
      · exact h
theorem valueOf_fold (p:Bs):∀ (l:List (Bs × Bs)) (acc:Bs),l.foldl (fun acc x=>if x.1 == p then x.2 else acc) acc=if l.any (·.1 == p) then Mk.valueOf l p else acc
  | [],acc=>rfl
  | x :: r,acc=>by
    have h1:=valueOf_fold p r
    unfold Mk.valueOf
    rw [List.foldl_cons,List.foldl_cons,h1,h1,List.any_cons]
    cases hx:(x.1 == p) <;> cases hr:(r.any (·.1 == p)) <;> simp [Mk.valueOf]
theorem valueOf_mem (p:Bs):∀ (l:List (Bs × Bs)),l.any (·.1 == p)=true→(p,Mk.valueOf l p) ∈ l
  | [],h=>by simp at h
  | x :: r,h=>by
    unfold Mk.valueOf
    rw [List.foldl_cons,valueOf_fold]
    cases hr:(r.any (·.1 == p))
    · rw [List.any_cons,hr,Bool.or_false] at h
      rw [h]
      simp only [Bool.false_eq_true,if_false,if_true]
      have:x.1=p:=by simpa using h
      rw [← this];simp
    · simp only [if_true]
      exact List.mem_cons_of_mem _ (valueOf_mem p r hr)
theorem look_value {bs:List (Bs × Bs)} (h:GoodB bs) (p:Bs):Mk.valueOf (xmlB :: bs) p=lkS bs p:=by
  unfold lkS
  have e:Mk.valueOf (xmlB :: bs) p=if bs.any (·.1 == p) then Mk.valueOf bs p else (if Mk.wXml == p then Mk.xmlSpace else []):=by
    unfold Mk.valueOf
    rw [List.foldl_cons,valueOf_fold]
    rfl
  rw [e]
  cases hp:(p == Mk.wXml)
  · have:(Mk.wXml == p)=false:=by rw [Bool.eq_false_iff] at hp ⊢;intro g;exact hp (by simpa using (beq_iff_eq.1 g).symm)
    rw [this]
    cases ha:(bs.any (·.1 == p))
    · simp only [Bool.false_eq_true,if_false];exact (valueOf_none bs p ha).symm
    · simp
  · have hpe:p=Mk.wXml:=by simpa using hp
    subst hpe
    simp only [if_true]
    cases ha:(bs.any (·.1 == Mk.wXml))
    · simp
    · simp only [if_true]
      exact good_xml (h _ (valueOf_mem Mk.wXml bs ha))
theorem look_bound {bs:List (Bs × Bs)} (h:GoodB bs) (p:Bs):Mk.isBound (xmlB :: bs) p=lkB bs p:=by
  unfold Mk.isBound
  rw [look_value h]
  unfold lkS lkB
  cases hp:(p == Mk.wXml)
  · simp only [Bool.false_eq_true,if_false,Bool.false_or]
    by_cases h0:p=[]
    · subst h0;simp
    · have e0:(p == [])=false:=by simpa using h0
      rw [e0]
      simp only [Bool.false_or,Bool.or_false]
      cases ha:(bs.any (·.1 == p))
      · rw [valueOf_none bs p ha];rfl
      · have:=good_val (h _ (valueOf_mem p bs ha)) h0
        simpa using this
  · have hpe:p=Mk.wXml:=by simpa using hp
    subst hpe
    rfl
theorem look_xmlns {bs:List (Bs × Bs)} (h:GoodB bs):lkB bs Mk.wXmlns=false:=by
  unfold lkB
  have:(bs.any (·.1 == Mk.wXmlns))=false:=by
    cases ha:(bs.any (·.1 == Mk.wXmlns))
    · rfl
    · have:=h _ (valueOf_mem Mk.wXmlns bs ha)
      rw [good_xmlns] at this;cases this
  rw [this];rfl
theorem kd_qual {n:Bs} (h:Mk.isQualified n=true):kdB n=Mk.isDecl n:=by unfold kdB Mk.isDecl;rw [h];rfl
theorem kd_name {n:Bs} (h:Mk.isQualified n=true) (hd:Mk.isDecl n=true):kdS n=Mk.declared n:=by unfold kdS Mk.declared;rw [h];rfl
theorem resolve_one {bs:List (Bs × Bs)} (h:GoodB bs) (a:Att) (r acc:List Att):Mk.resolveGo (xmlB :: bs) (a :: r) acc =
    if Mk.isDecl a.name then Mk.resolveGo (xmlB :: bs) r acc
    else if Mk.prefixOf a.name != [] && !lkB bs (Mk.prefixOf a.name) then none
    else if Mk.hasLocal acc { a with space:=if Mk.prefixOf a.name != [] then lkS bs (Mk.prefixOf a.name) else a.space } then none
    else Mk.resolveGo (xmlB :: bs) r (acc ++ [{ a with space:=if Mk.prefixOf a.name != [] then lkS bs (Mk.prefixOf a.name) else a.space }]):=by
  have e1:Mk.resolveGo (xmlB :: bs) (a :: r) acc=if Mk.isDecl a.name then Mk.resolveGo (xmlB :: bs) r acc else if !Mk.isBound (xmlB :: bs) (Mk.prefixOf a.name) || Mk.hasLocal acc (Mk.withSpace (xmlB :: bs) a) then none else Mk.resolveGo (xmlB :: bs) r (acc ++ [Mk.withSpace (xmlB :: bs) a]):=rfl
  have e2:Mk.withSpace (xmlB :: bs) a={ a with space:=if Mk.prefixOf a.name != [] then lkS bs (Mk.prefixOf a.name) else a.space }:=by
    unfold Mk.withSpace
    rw [look_value h]
    split <;> rfl
  rw [e1,e2,look_bound h]
  split
  · rfl
  · have e3:lkB bs (Mk.prefixOf a.name)=(!(Mk.prefixOf a.name != [] && !lkB bs (Mk.prefixOf a.name))):=by
      by_cases g:Mk.prefixOf a.name=[]
      · rw [g];unfold lkB;simp
      · have:(Mk.prefixOf a.name != [])=true:=by simpa using g
        rw [this];simp
    generalize lkB bs (Mk.prefixOf a.name)=B at *
    generalize (Mk.prefixOf a.name != [])=C at *
    generalize Mk.hasLocal acc _=E
    cases B <;> cases C <;> cases E <;> simp at e3 ⊢
structure BLay where
  la:Option Addr
  lc:Nat
  oa:Option Addr
  oc:Nat
def blRow (es:List (Ev × Value)) (L:BLay):Row:=⟨53,5,.slice L.la es.length L.lc,es.length,evsRow es⟩
def boRow (o:List Bs) (L:BLay):Row:=⟨9,1,.slice L.oa o.length L.oc,o.length,o.map sv⟩
def bdCells (code:Bs) (p:Nat) (es:List (Ev × Value)) (o:List Bs) (L:BLay):List Value:=[.string ⟨code.toArray⟩,.int .i64 (p:Int),.slice L.la es.length L.lc,.slice L.oa o.length L.oc]
def bdRows (es:List (Ev × Value)) (o:List Bs) (L:BLay):List Row:=[blRow es L,boRow o L]
structure BdR (n0:Nat) (w:World) (b:Nat) (code:Bs) (p:Nat) (es:List (Ev × Value)) (o:List Bs) (L:BLay):Prop where
  br:BR n0 w b 83 (bdCells code p es o L) (bdRows es o L)
  ats:∀ x ∈ es,(evRow x).owned w n0
  ap:∀ x ∈ es, ∀ k,x.2.ownBlock=some k→k ≠ b∧k ∉ blks (bdRows es o L)
section
variable {n0:Nat} {w w' : World} {b:Nat} {code:Bs} {p:Nat} {es:List (Ev × Value)} {o:List Bs} {L:BLay}
theorem BdR.lt (h:BdR n0 w b code p es o L):b<w.heap.size:=h.br.lt
theorem BdR.cell (h:BdR n0 w b code p es o L) (j:Nat):w.cell? ⟨b,j,none⟩=(bdCells code p es o L)[j]? := h.br.cell j
theorem BdR.frozen (h:BdR n0 w b code p es o L) (j:Nat):w.frozen? ⟨b,j,none⟩=false:=by simp [World.frozen?,h.br.blk]
theorem BdR.below (h:BdR n0 w b code p es o L) (hb:Below w.heap.size w w'):BdR n0 w' b code p es o L:=
  ⟨h.br.below hb,fun x hx=>owned_keep (h.ats x hx) fun k hk=>hb.block k (World.ownsRow.lt (h.ats x hx) k hk).2,h.ap⟩
theorem BdR.to (h:BdR n0 w b code p es o L) (q:Nat):BdR n0 (w.setCell ⟨b,1,none⟩ (.int .i64 (q:Int))) b code q es o L:=by
  have hk:∀ k,k ≠ b→(w.setCell ⟨b,1,none⟩ (.int .i64 (q:Int))).heap[k]? = w.heap[k]? := fun k hk=>Below.heap_setCell _ _ _ _ hk
  refine ⟨⟨?_,h.br.rows.keep fun k hm=>hk k (fun e=>h.br.nb (e ▸ hm)),h.br.nb,h.br.hb⟩,fun x hx=>owned_keep (h.ats x hx) fun k hv=>hk k (h.ap x hx k hv).1,h.ap⟩
  simp [World.setCell,Array.getElem?_modify,h.br.blk,bdCells]
theorem BdR.push (h:BdR n0 w b code p es o L) (e:Ev) (av:Value) (hav:(evRow (e,av)).owned w n0) (hap:∀ k,av.ownBlock=some k→k ≠ b∧k ∉ blks (bdRows es o L)) {g cap:Nat}
    (hown:w'.ownsRow n0 53 5 (.slice (some ⟨g,0,none⟩) (es.length + 1) cap) (es.length + 1) (evsRow es ++ evCells e av)) (hg:w.grownBy w' (Value.slice L.la es.length L.lc).ownBlock) (hat:(Value.slice L.la es.length L.lc).ownBlock=some g∨g=w.heap.size) :
    BdR n0 (w'.setCell ⟨b,2,none⟩ (.slice (some ⟨g,0,none⟩) (es.length + 1) cap)) b code p (es ++ [(e,av)]) o { L with la:=some ⟨g,0,none⟩,lc:=cap }∧Below n0 w (w'.setCell ⟨b,2,none⟩ (.slice (some ⟨g,0,none⟩) (es.length + 1) cap)):=by
  have hrow:(blRow (es ++ [(e,av)]) { L with la:=some ⟨g,0,none⟩,lc:=cap }).owned w' n0:=by
    show World.ownsRow _ _ _ _ _ _ _
    simp only [blRow,List.length_append,List.length_cons,List.length_nil,Nat.zero_add]
    have:evsRow (es ++ [(e,av)])=evsRow es ++ evCells e av:=by simp [evsRow]
    rw [this]
    exact hown
  have hb2:(blRow (es ++ [(e,av)]) { L with la:=some ⟨g,0,none⟩,lc:=cap }).v.ownBlock=(blRow es L).v.ownBlock∨(blRow (es ++ [(e,av)]) { L with la:=some ⟨g,0,none⟩,lc:=cap }).v.ownBlock=some w.heap.size:=by
    rcases hat with h | h
    · exact .inl h.symm
    · exact .inr (by rw [h];rfl)
  have h1:=BR.grow h.br (r:=blRow es L) (r' := blRow (es ++ [(e,av)]) { L with la:=some ⟨g,0,none⟩,lc:=cap }) (rs' := bdRows (es ++ [(e,av)]) o { L with la:=some ⟨g,0,none⟩,lc:=cap }) (rs0:=[boRow o L]) 2 (.slice (some ⟨g,0,none⟩) (es.length + 1) cap) (List.Perm.refl _) (List.Perm.refl _) hrow hg hb2
  have ec:(bdCells code p es o L).set 2 (.slice (some ⟨g,0,none⟩) (es.length + 1) cap)=bdCells code p (es ++ [(e,av)]) o { L with la:=some ⟨g,0,none⟩,lc:=cap }:=by simp [bdCells]
  rw [ec] at h1
  have hfoot:∀ k,k ∈ blks (bdRows (es ++ [(e,av)]) o { L with la:=some ⟨g,0,none⟩,lc:=cap })→k ∈ blks (bdRows es o L)∨w.heap.size≤k:=h1.2.foot
  have hkeep:∀ x,(evRow x).owned w n0→(∀ k,x.2.ownBlock=some k→k ≠ b∧k ∉ blks (bdRows es o L))→(evRow x).owned (w'.setCell ⟨b,2,none⟩ (.slice (some ⟨g,0,none⟩) (es.length + 1) cap)) n0:=fun x hx ha=>owned_keep hx fun k hk=>h1.2.block k (World.ownsRow.lt hx k hk).2 (ha k hk).1 (ha k hk).2
  have hap2:∀ x,(evRow x).owned w n0→(∀ k,x.2.ownBlock=some k→k ≠ b∧k ∉ blks (bdRows es o L))→∀ k,x.2.ownBlock=some k→k ≠ b∧k ∉ blks (bdRows (es ++ [(e,av)]) o { L with la:=some ⟨g,0,none⟩,lc:=cap }):=fun x hx ha k hk=>⟨(ha k hk).1,fun hm=>by
    rcases hfoot k hm with q | q
    · exact (ha k hk).2 q
    · have:=(World.ownsRow.lt hx k hk).2;omega⟩
  refine ⟨⟨h1.1,fun x hx => ?_,fun x hx => ?_⟩,?_⟩
  · rcases List.mem_append.1 hx with hx | hx
    · exact hkeep x (h.ats x hx) (h.ap x hx)
    · rw [List.mem_singleton.1 hx];exact hkeep _ hav hap
  · rcases List.mem_append.1 hx with hx | hx
    · exact hap2 x (h.ats x hx) (h.ap x hx)
    · rw [List.mem_singleton.1 hx];exact hap2 _ hav hap
  · refine ⟨h1.2.os,h1.2.tape,h1.2.output,h1.2.size,fun k hk=>h1.2.block k (by have:=h.br.lt;have:=h.br.hb;omega) (by have:=h.br.hb;omega) fun hm => ?_⟩
    have:=(h.br.rows.lt k hm).1
    omega
theorem BdR.open (h:BdR n0 w b code p es o L) (n:Bs) {g cap:Nat}
    (hown:w'.ownsRow n0 9 1 (.slice (some ⟨g,0,none⟩) (o.length + 1) cap) (o.length + 1) (o.map sv ++ [.string ⟨n.toArray⟩])) (hg:w.grownBy w' (Value.slice L.oa o.length L.oc).ownBlock) (hat:(Value.slice L.oa o.length L.oc).ownBlock=some g∨g=w.heap.size) :
    BdR n0 (w'.setCell ⟨b,3,none⟩ (.slice (some ⟨g,0,none⟩) (o.length + 1) cap)) b code p es (o ++ [n]) { L with oa:=some ⟨g,0,none⟩,oc:=cap }∧Below n0 w (w'.setCell ⟨b,3,none⟩ (.slice (some ⟨g,0,none⟩) (o.length + 1) cap)):=by
  have hrow:(boRow (o ++ [n]) { L with oa:=some ⟨g,0,none⟩,oc:=cap }).owned w' n0:=by
    show World.ownsRow _ _ _ _ _ _ _
    simp only [boRow,List.length_append,List.length_cons,List.length_nil,Nat.zero_add,List.map_append,List.map_cons,List.map_nil]
    exact hown
  have hb2:(boRow (o ++ [n]) { L with oa:=some ⟨g,0,none⟩,oc:=cap }).v.ownBlock=(boRow o L).v.ownBlock∨(boRow (o ++ [n]) { L with oa:=some ⟨g,0,none⟩,oc:=cap }).v.ownBlock=some w.heap.size:=by
    rcases hat with h | h
    · exact .inl h.symm
    · exact .inr (by rw [h];rfl)
  have h1:=BR.grow h.br (r:=boRow o L) (r' := boRow (o ++ [n]) { L with oa:=some ⟨g,0,none⟩,oc:=cap }) (rs' := bdRows es (o ++ [n]) { L with oa:=some ⟨g,0,none⟩,oc:=cap }) (rs0:=[blRow es L]) 3 (.slice (some ⟨g,0,none⟩) (o.length + 1) cap) (List.Perm.swap _ _ _) (List.Perm.swap _ _ _) hrow hg hb2
  have ec:(bdCells code p es o L).set 3 (.slice (some ⟨g,0,none⟩) (o.length + 1) cap)=bdCells code p es (o ++ [n]) { L with oa:=some ⟨g,0,none⟩,oc:=cap }:=by simp [bdCells]
  rw [ec] at h1
  refine ⟨⟨h1.1,fun x hx=>owned_keep (h.ats x hx) fun k hk=>h1.2.block k (World.ownsRow.lt (h.ats x hx) k hk).2 (h.ap x hx k hk).1 (h.ap x hx k hk).2,fun x hx k hk=>⟨(h.ap x hx k hk).1,fun hm => ?_⟩⟩,?_⟩
  · rcases h1.2.foot k hm with q | q
    · exact (h.ap x hx k hk).2 q
    · have:=(World.ownsRow.lt (h.ats x hx) k hk).2;omega
  · refine ⟨h1.2.os,h1.2.tape,h1.2.output,h1.2.size,fun k hk=>h1.2.block k (by have:=h.br.lt;have:=h.br.hb;omega) (by have:=h.br.hb;omega) fun hm => ?_⟩
    have:=(h.br.rows.lt k hm).1
    omega
end
theorem byte_at (code:Bs) (p:Nat) (hp:p<code.length):∀ h,(ByteArray.mk code.toArray)[p]'h=code.getD p 0:=fun h=>by
  rw [List.getD_eq_getElem?_getD,List.getElem?_eq_getElem hp]
  rfl
structure Only (w w' : World) (b:Nat):Prop where
  os:w'.os=w.os
  tape:w'.tape=w.tape
  output:w'.output=w.output
  size:w'.heap.size=w.heap.size
  block:∀ k,k ≠ b→w'.heap[k]? = w.heap[k]?
theorem Only.trans {w w1 w2:World} {b:Nat} (h:Only w w1 b) (g:Only w1 w2 b):Only w w2 b:=
  ⟨g.os.trans h.os,g.tape.trans h.tape,g.output.trans h.output,g.size.trans h.size,fun k hk=>(g.block k hk).trans (h.block k hk)⟩
theorem Only.drewN (w:World) (b n:Nat):Only w (w.drewN n) b:=⟨rfl,rfl,rfl,by rw [heap_drewN],fun _ _=>by rw [heap_drewN]⟩
theorem Only.set (w:World) (b i:Nat) (v:Value):Only w (w.setCell ⟨b,i,none⟩ v) b:=⟨rfl,rfl,rfl,by simp,fun k hk=>Below.heap_setCell _ _ _ _ hk⟩
theorem BdR.drewN {n0:Nat} {w:World} {b:Nat} {code:Bs} {p:Nat} {es:List (Ev × Value)} {o:List Bs} {L:BLay} (h:BdR n0 w b code p es o L) (n:Nat):BdR n0 (w.drewN n) b code p es o L:=
  h.below ⟨rfl,rfl,rfl,Nat.le_of_eq (by rw [heap_drewN]),fun _ _=>by rw [heap_drewN]⟩
theorem bnext_any {n0:Nat} {w:World} {b:Nat} {code:Bs} {p:Nat} {es:List (Ev × Value)} {o:List Bs} {L:BLay} (h:BdR n0 w b code p es o L) (hc:code.length≤200) (n:Nat) (hn:0<n) (hn2:n≤100) :
    Calls Tryz.prog 45 #[.pointer (some ⟨b,0,none⟩),.int .i64 (n:Int)] w fun e w' => e = .returned (.int .i64 ((bN code p n:Nat):Int))∧BdR n0 w' b code (bA code p) es o L∧Only w w' b:=by
  have hcl:=h.cell
  have hfr:=h.frozen
  have hlt:=h.lt
  have HB:=hide h
  unfold bdCells at hcl
  clear h
  by_cases hp:p<code.length
  · have e1:decide ((code.length:Int)≤(p:Int))=false:=by simp;omega
    have e2:decide ((p:Int) ≥ (code.length:Int))=false:=by simp;omega
    have hk1:(p:Int)<(code.length:Int):=by omega
    have hk0:¬ (p:Int)<0:=by omega
    have hby:=byte_at code p hp
    have hN:bN code p n=(code.getD p 0).toNat % n:=by unfold bN;rw [if_pos hp]
    have hA:bA code p=p + 1:=by unfold bA;rw [if_pos hp]
    rw [hN,hA]
    clear hN hA
    generalize code.getD p 0=y at *
    have hy:y.toNat<256:=UInt8.toNat_lt y
    have hn0:((n:Int) == 0)=false:=by simp;omega
    have hnn:(n:Int) ≠ 0:=by omega
    go_enter Tryz.func45,Tryz.ntmps45
    go_wp2
    go_quiet (fail)
    go_wp2
    go_quiet (fail)
    go_wp2
    have ep:(((p + 1:Nat)):Int)=(p:Int) + 1:=by omega
    refine bodyPost_ret (results_tmp rfl _ _ _) rfl ⟨?_,?_,?_⟩
    · show Ending.returned (.int .i64 ((y.toNat:Int) % (n:Int)))=_
      rw [Int.natCast_emod]
    · rw [← ep]
      first
        | exact ((unhide HB).drewN _).to (p + 1)
        | exact (((unhide HB).drewN _).drewN _).to (p + 1)
    · first
        | exact (Only.drewN _ _ _).trans (Only.set _ _ _ _)
        | exact ((Only.drewN _ _ _).trans (Only.drewN _ _ _)).trans (Only.set _ _ _ _)
  · have e1:decide ((code.length:Int)≤(p:Int))=true:=by simp;omega
    have e2:decide ((p:Int) ≥ (code.length:Int))=true:=by simp;omega
    have hN:bN code p n=0:=by unfold bN;rw [if_neg hp]
    have hA:bA code p=p:=by unfold bA;rw [if_neg hp]
    rw [hN,hA]
    clear hN hA
    go_enter Tryz.func45,Tryz.ntmps45
    go_wp2
    go_quiet (fail)
    go_wp2
    go_ret
    exact ⟨rfl,(unhide HB).drewN _,Only.drewN _ _ _⟩
set_option maxHeartbeats 1000000 in
set_option maxRecDepth 100000 in
theorem btell_any {n0:Nat} {w:World} {b:Nat} {code:Bs} {p:Nat} {es:List (Ev × Value)} {o:List Bs} {L:BLay} (h:BdR n0 w b code p es o L) (k:Int) (n s x:Bs) (ats:List Att) (aa:Option Addr) (ac:Nat)
    (hav:(evRow (⟨k,n,s,x,ats⟩,.slice aa ats.length ac)).owned w n0) (hap:∀ q,(Value.slice aa ats.length ac).ownBlock=some q→q ≠ b∧q ∉ blks (bdRows es o L)) (hl:es.length≤1000000) :
    Calls Tryz.prog 49 #[.pointer (some ⟨b,0,none⟩),.agg #[.int .i64 k,.string ⟨n.toArray⟩,.string ⟨s.toArray⟩,.string ⟨x.toArray⟩,.slice aa ats.length ac]] w fun r w' => r = .returned (.tuple #[])∧∃ L', BdR n0 w' b code p (es ++ [(⟨k,n,s,x,ats⟩,.slice aa ats.length ac)]) o L' ∧ Below n0 w w' := by
  obtain ⟨i0,hi,hz0,hz1,hz2⟩:=info_parts infoEv
  have hcl:∀ o1 o2 j,((w.alloc o1).alloc o2).cell? ⟨b,j,none⟩=(bdCells code p es o L)[j]? := fun o1 o2 j=>by
    rw [← h.cell j]
    simp only [World.cell?]
    have:=h.lt
    rw [Below.heap_alloc _ _ _ (by simp;omega),Below.heap_alloc _ _ _ h.lt]
  have hcl1:∀ o1 j,(w.alloc o1).cell? ⟨b,j,none⟩=(bdCells code p es o L)[j]? := fun o1 j=>by
    rw [← h.cell j]
    simp only [World.cell?]
    rw [Below.heap_alloc _ _ _ h.lt]
  have hlt:=h.lt
  have hn0:=h.br.hb
  have hbW:Below w.heap.size w ((w.alloc (.cells #[.int .i64 k,.string ⟨n.toArray⟩,.string ⟨s.toArray⟩,.string ⟨x.toArray⟩,.slice aa ats.length ac] 53)).alloc (.cells #[.int .i64 k,.string ⟨n.toArray⟩,.string ⟨s.toArray⟩,.string ⟨x.toArray⟩,.slice aa ats.length ac] 53)).drew:=by
    have:Below w.heap.size w ((w.alloc (.cells #[.int .i64 k,.string ⟨n.toArray⟩,.string ⟨s.toArray⟩,.string ⟨x.toArray⟩,.slice aa ats.length ac] 53)).alloc (.cells #[.int .i64 k,.string ⟨n.toArray⟩,.string ⟨s.toArray⟩,.string ⟨x.toArray⟩,.slice aa ats.length ac] 53)):=((Below.refl _ _).alloc (Nat.le_refl _) _).alloc (by simp) _
    exact ⟨this.os,this.tape,this.output,this.size,this.block⟩
  have h2:=h.below hbW
  have hav2:(evRow (⟨k,n,s,x,ats⟩,.slice aa ats.length ac)).owned ((w.alloc (.cells #[.int .i64 k,.string ⟨n.toArray⟩,.string ⟨s.toArray⟩,.string ⟨x.toArray⟩,.slice aa ats.length ac] 53)).alloc (.cells #[.int .i64 k,.string ⟨n.toArray⟩,.string ⟨s.toArray⟩,.string ⟨x.toArray⟩,.slice aa ats.length ac] 53)).drew n0:=owned_keep hav fun q hq=>hbW.block q (World.ownsRow.lt hav q hq).2
  have HO:=hide (h2.br.rows.own (blRow es L) (by simp [bdRows]))
  have HB:=hide (show ((w.alloc (.cells #[.int .i64 k,.string ⟨n.toArray⟩,.string ⟨s.toArray⟩,.string ⟨x.toArray⟩,.slice aa ats.length ac] 53)).alloc (.cells #[.int .i64 k,.string ⟨n.toArray⟩,.string ⟨s.toArray⟩,.string ⟨x.toArray⟩,.slice aa ats.length ac] 53)).drew.heap[w.heap.size + 1]? = some (.cells #[.int .i64 k,.string ⟨n.toArray⟩,.string ⟨s.toArray⟩,.string ⟨x.toArray⟩,.slice aa ats.length ac] 53) from by
    have:=heap_alloc_new (w.alloc (.cells #[.int .i64 k,.string ⟨n.toArray⟩,.string ⟨s.toArray⟩,.string ⟨x.toArray⟩,.slice aa ats.length ac] 53)) (.cells #[.int .i64 k,.string ⟨n.toArray⟩,.string ⟨s.toArray⟩,.string ⟨x.toArray⟩,.slice aa ats.length ac] 53)
    rw [show (w.alloc (.cells #[.int .i64 k,.string ⟨n.toArray⟩,.string ⟨s.toArray⟩,.string ⟨x.toArray⟩,.slice aa ats.length ac] 53)).heap.size=w.heap.size + 1 by simp] at this
    exact this)
  have H63:=hide (show es.length + 1≤maxLen by unfold maxLen;omega)
  have HBB:=hide (show n0≤((w.alloc (.cells #[.int .i64 k,.string ⟨n.toArray⟩,.string ⟨s.toArray⟩,.string ⟨x.toArray⟩,.slice aa ats.length ac] 53)).alloc (.cells #[.int .i64 k,.string ⟨n.toArray⟩,.string ⟨s.toArray⟩,.string ⟨x.toArray⟩,.slice aa ats.length ac] 53)).drew.heap.size by simp;omega)
  have HM:=hide (And.intro h2 (And.intro hav2 (And.intro hap (hbW.mono (show n0≤w.heap.size by omega)))))
  unfold bdCells at hcl hcl1
  clear h h2 hav hav2 hap hbW
  go_enter Tryz.func49,Tryz.ntmps49
  go_wp2
  go_region_law (refine step_append_lies _ rfl (.tmp 8) (.tmp 10) 35 rfl n0 53 i0 _ 5 80 Tryz.underlying35 hi hz0 hz1 hz2 rfl (by decide) (.slice L.la es.length L.lc) es.length (evsRow es) (by simp [Act.eval]) (unhide HO) ⟨w.heap.size + 1,0,none⟩ 1 1 (evCells ⟨k,n,s,x,ats⟩ (.slice aa ats.length ac)) (by simp [Act.eval]) rfl (World.news_of_block (unhide HB)) (evCells_one _ _ _ _) (by decide) (unhide H63) (by omega) (unhide HBB) (w.heap.size + 2) (by simp) ?_;intro g cap w2 hown hgrow hat hlt2;obtain ⟨hr,hfr,hl2⟩:=BR.after (unhide HM).1.br (r:=blRow es L) (by simp [bdRows]) hgrow;have HP:=hide ((unhide HM).1.push ⟨k,n,s,x,ats⟩ (.slice aa ats.length ac) (unhide HM).2.1 (unhide HM).2.2.1 hown hgrow (by simpa using hat));unfold bdCells at hr;clear hown hgrow hat)
  all_goals
    go_wp2
    go_end0
    exact ⟨rfl,_,(unhide HP).1,(unhide HM).2.2.2.trans (unhide HP).2⟩
theorem BdR.pop {n0:Nat} {w:World} {b:Nat} {code:Bs} {p:Nat} {es:List (Ev × Value)} {l:List Bs} {x:Bs} {L:BLay} (h:BdR n0 w b code p es (l ++ [x]) L) :
    BdR n0 (w.setCell ⟨b,3,none⟩ (.slice L.oa l.length L.oc)) b code p es l L∧Below n0 w (w.setCell ⟨b,3,none⟩ (.slice L.oa l.length L.oc)):=by
  have hrow:=h.br.rows.own (boRow (l ++ [x]) L) (by simp [bdRows])
  have hlen:(l ++ [x]).length=l.length + 1:=by simp
  have hown:(boRow l L).owned w n0:=by
    rcases hrow.2 with ⟨h2,h3⟩ | ⟨g,cap,cur,hv,hb,hg,hnc,hm,hsz,htake⟩
    · have h4:(l ++ [x]).length=0:=h3
      omega
    · have hv3:Value.slice L.oa (l ++ [x]).length L.oc = .slice (some ⟨g,0,none⟩) (l ++ [x]).length cap:=hv
      injection hv3 with h5 _ h7
      have hnc' : (l ++ [x]).length≤cap:=hnc
      refine ⟨by simp [boRow],.inr ⟨g,cap,cur,?_,hb,hg,?_,hm,hsz,?_⟩⟩
      · simp [boRow,h5,h7]
      · show l.length≤cap;omega
      · have ht:cur.toList.take ((l ++ [x]).length * 1)=(l ++ [x]).map sv:=htake
        show cur.toList.take (l.length * 1)=l.map sv
        have:cur.toList.take (l.length * 1)=(cur.toList.take ((l ++ [x]).length * 1)).take l.length:=by rw [List.take_take];congr 1;omega
        rw [this,ht,List.map_append]
        simp
  have h1:=BR.cut h.br (r:=boRow (l ++ [x]) L) (r' := boRow l L) (rs' := bdRows es l L) (rs0:=[blRow es L]) 3 (.slice L.oa l.length L.oc) (List.Perm.swap _ _ _) (List.Perm.swap _ _ _) hown (by unfold boRow;cases L.oa <;> rfl)
  have ec:(bdCells code p es (l ++ [x]) L).set 3 (.slice L.oa l.length L.oc)=bdCells code p es l L:=by simp [bdCells]
  rw [ec] at h1
  refine ⟨⟨h1.1,fun y hy=>owned_keep (h.ats y hy) fun k hk=>h1.2.block k (World.ownsRow.lt (h.ats y hy) k hk).2 (h.ap y hy k hk).1 (h.ap y hy k hk).2,fun y hy k hk=>⟨(h.ap y hy k hk).1,fun hm => ?_⟩⟩,?_⟩
  · rcases h1.2.foot k hm with q | q
    · exact (h.ap y hy k hk).2 q
    · have:=(World.ownsRow.lt (h.ats y hy) k hk).2;omega
  · refine ⟨h1.2.os,h1.2.tape,h1.2.output,h1.2.size,fun k hk=>h1.2.block k (by have:=h.br.lt;have:=h.br.hb;omega) (by have:=h.br.hb;omega) fun hm => ?_⟩
    have:=(h.br.rows.lt k hm).1
    omega
theorem nil_owned (w:World) (n0:Nat) (k:Int) (n s x:Bs):(evRow (⟨k,n,s,x,[]⟩,.slice none 0 0)).owned w n0:=owned_nil ⟨rfl,rfl,rfl⟩
set_option maxHeartbeats 1000000 in
set_option maxRecDepth 100000 in
theorem bend_any {n0:Nat} {w:World} {b:Nat} {code:Bs} {p:Nat} {es:List (Ev × Value)} {ol:List Bs} {x:Bs} {L:BLay} (h:BdR n0 w b code p es (ol ++ [x]) L) (hl:es.length≤1000000) (ho:ol.length≤1000) :
    Calls Tryz.prog 48 #[.pointer (some ⟨b,0,none⟩)] w fun r w' => r = .returned (.tuple #[])∧∃ L', BdR n0 w' b code p (es ++ [(⟨2,x,[],[],[]⟩,.slice none 0 0)]) ol L' ∧ Below n0 w w' := by
  have hcl:=h.cell
  have hlt:=h.lt
  have hrow:w.ownsRow n0 9 1 (.slice L.oa (ol ++ [x]).length L.oc) (ol ++ [x]).length ((ol ++ [x]).map sv):=h.br.rows.own (boRow (ol ++ [x]) L) (by simp [bdRows])
  obtain ⟨g,c', hv,hb,hgl⟩:=World.ownsRow.form hrow (by simp)
  injection hv with hoa _ hc
  have hcx:w.cell? ⟨g,ol.length,none⟩=some (.string ⟨x.toArray⟩):=by
    have h2:=hrow
    rw [hoa] at h2
    rw [row_cell h2 ol.length (by simp)]
    simp [sv]
  have HT:=hide (fun (W:World) (hW:Only w W b∧BdR n0 W b code p es (ol ++ [x]) L)=>btell_any hW.2 2 x [] [] [] none 0 (nil_owned _ _ _ _ _ _) (fun q hq=>by cases hq) hl)
  have HB:=hide h
  have hlen:(ol ++ [x]).length=ol.length + 1:=by simp
  have e9:(((ol ++ [x]).length:Nat):Int) - 1=(ol.length:Int):=by omega
  unfold bdCells at hcl
  rw [hoa] at hcl
  rw [hlen] at hcl e9
  clear h hrow
  go_enter Tryz.func48,Tryz.ntmps48
  go_wp2_with fail
  refine (unhide HT w ⟨⟨rfl,rfl,rfl,rfl,fun _ _=>rfl⟩,unhide HB⟩).mono ?_
  rintro e w1 ⟨rfl,L1,h1,b1⟩
  have hcl1:=h1.cell
  have hfr1:=h1.frozen
  have hlt1:=h1.lt
  have hrow1:w1.ownsRow n0 9 1 (.slice L1.oa (ol ++ [x]).length L1.oc) (ol ++ [x]).length ((ol ++ [x]).map sv):=h1.br.rows.own (boRow (ol ++ [x]) L1) (by simp [bdRows])
  obtain ⟨g1,c1,hv1,_,hgl1⟩:=World.ownsRow.form hrow1 (by simp)
  injection hv1 with hoa1 _ hc1
  have hcap:ol.length + 1≤L1.oc:=by
    rcases hrow1.2 with ⟨h2,h3⟩ | ⟨g', cap,cur,h2,_,_,h3,_⟩
    · have h3:(ol ++ [x]).length=0:=h3
      omega
    · injection h2 with _ _ h4
      rw [h4, ← hlen];exact h3
  have HP:=hide h1.pop
  rw [hoa1] at HP
  unfold bdCells at hcl1
  rw [hoa1,hlen] at hcl1
  have HB1:=hide b1
  have k2:(ol.length:Int)≤(L1.oc:Int):=by omega
  have k3:¬ (L1.oc:Int)<(ol.length:Int):=by omega
  clear h1 b1 hrow1 HT HB hcl hcx hc hc1 hoa hoa1
  go_wp2
  go_end0
  exact ⟨rfl,L1,(unhide HP).1,(unhide HB1).trans (unhide HP).2⟩
structure GlB (w:World):Prop where
  va:∀ i,i<10→w.cell? ⟨0,i,none⟩=some (.string ⟨(bVal i).toArray⟩)
  co:∀ i,i<7→w.cell? ⟨1,i,none⟩=some (.string ⟨(bCom i).toArray⟩)
  tg:∀ i,i<4→w.cell? ⟨2,i,none⟩=some (.string ⟨(bTgt.getD i []).toArray⟩)
  da:∀ i,i<7→w.cell? ⟨3,i,none⟩=some (.string ⟨(bDat i).toArray⟩)
  ta:∀ i,i<6→w.cell? ⟨4,i,none⟩=some (.string ⟨(bTags.getD i []).toArray⟩)
theorem GlB.keep {w w' : World} {n0:Nat} (h:GlB w) (hn:6<n0) (hb:Below n0 w w'):GlB w' := by
  have hc:∀ g,g<n0→∀ i,w'.cell? ⟨g,i,none⟩=w.cell? ⟨g,i,none⟩:=fun g hg i=>by simp only [World.cell?];rw [hb.block g hg]
  exact ⟨fun i hi=>(hc _ (by omega) i).trans (h.va i hi),fun i hi=>(hc _ (by omega) i).trans (h.co i hi),fun i hi=>(hc _ (by omega) i).trans (h.tg i hi),fun i hi=>(hc _ (by omega) i).trans (h.da i hi),fun i hi=>(hc _ (by omega) i).trans (h.ta i hi)⟩
def BdX (n0:Nat) (w:World) (b:Nat) (code:Bs) (s:Bld):Prop := ∃ es L,es.map (·.1)=s.l∧BdR n0 w b code s.at_ es s.o L
theorem Only.below {w w' : World} {b n0:Nat} (h:Only w w' b) (hb:n0≤b) (hn:n0≤w.heap.size):Below n0 w w' := ⟨h.os,h.tape,h.output,Nat.le_of_eq h.size.symm,fun k hk=>h.block k (by omega)⟩
set_option maxHeartbeats 1000000 in
set_option maxRecDepth 100000 in
theorem baside_any {n0:Nat} {w:World} {b:Nat} {code:Bs} {s:Bld} (h:BdX n0 w b code s) (hc:code.length≤200) (hT:GlB w) (hn:6<n0) (hl:s.l.length≤1000000) :
    Calls Tryz.prog 46 #[.pointer (some ⟨b,0,none⟩)] w fun r w' => r = .returned (.tuple #[])∧BdX n0 w' b code (bAside code s)∧Below n0 w w' := by
  obtain ⟨p,l,o⟩:=s
  obtain ⟨es,L,rfl,h⟩:=h
  dsimp only at h hl
  have hlt:=h.lt
  have hn0:=h.br.hb
  have hle:es.length≤1000000:=by simpa using hl
  have HT:=hide hT
  have H1:=hide (bnext_any h hc 2 (by decide) (by decide))
  have hK2:=bN_lt code p 2 (by decide)
  by_cases hk:bN code p 2=0
  · have hfin:bAside code ⟨p,es.map (·.1),o⟩=⟨bA code (bA code p),es.map (·.1) ++ [⟨4,[],[],bCom (bN code (bA code p) 7),[]⟩],o⟩:=by unfold bAside;rw [if_pos hk]
    rw [hfin]
    clear hfin hT h hl
    have hv7:=bN_lt code (bA code p) 7 (by decide)
    have HN:=hide (fun (W:World) (hW:BdR n0 W b code (bA code p) es o L)=>bnext_any hW hc 7 (by decide) (by decide))
    rw [hk] at H1
    generalize bN code (bA code p) 7=v at *
    generalize bA code p=p1 at *
    generalize bA code p1=p2 at *
    clear hk hK2
    go_enter Tryz.func46,Tryz.ntmps46
    go_wp2_with fail
    refine (unhide H1).mono ?_
    rintro e w1 ⟨rfl,g1,o1⟩
    have H2:=hide (unhide HN w1 g1)
    have HB1:=hide (o1.below hn0 (by omega))
    clear g1 o1 H1 HN
    go_wp2_with fail
    refine (unhide H2).mono ?_
    rintro e w2 ⟨rfl,g2,o2⟩
    have HB2:=hide ((unhide HB1).trans (o2.below hn0 (by have:=(unhide HB1).size;omega)))
    have hT2:=(unhide HT).keep hn (unhide HB2)
    have cc:=hT2.co v hv7
    have H3:=hide (btell_any g2 4 [] [] (bCom v) [] none 0 (nil_owned _ _ _ _ _ _) (fun q hq=>by cases hq) hle)
    have hv:(v:Int)<7:=by omega
    have hsz:6<w2.heap.size:=by have:=(unhide HB2).size;omega
    clear g2 o2 H2 HB1 hT2
    go_wp2_with fail
    refine (unhide H3).mono ?_
    rintro e w3 ⟨rfl,L3,g3,b3⟩
    have HF:Hid (BdX n0 w3 b code ⟨p2,es.map (·.1) ++ [⟨4,[],[],bCom v,[]⟩],o⟩∧Below n0 w w3):=⟨⟨_,L3,by simp,g3⟩,(unhide HB2).trans b3⟩
    clear g3 b3 H3 HB2 HT cc
    go_wp2
    refine bodyPost_ret (results_none rfl _ _ _) rfl ?_
    exact ⟨rfl,unhide HF⟩
  · have hk1:bN code p 2=1:=by omega
    have hfin:bAside code ⟨p,es.map (·.1),o⟩=⟨bA code (bA code (bA code p)),es.map (·.1) ++ [⟨5,bTgt.getD (bN code (bA code p) 4) [],[],bDat (bN code (bA code (bA code p)) 7),[]⟩],o⟩:=by unfold bAside;rw [if_neg hk]
    rw [hfin]
    clear hfin hT h hl
    have hv4:=bN_lt code (bA code p) 4 (by decide)
    have hv7:=bN_lt code (bA code (bA code p)) 7 (by decide)
    have HN:=hide (fun (W:World) (hW:BdR n0 W b code (bA code p) es o L)=>bnext_any hW hc 4 (by decide) (by decide))
    have HN2:=hide (fun (W:World) (hW:BdR n0 W b code (bA code (bA code p)) es o L)=>bnext_any hW hc 7 (by decide) (by decide))
    rw [hk1] at H1
    generalize bN code (bA code p) 4=v at *
    generalize bN code (bA code (bA code p)) 7=u at *
    generalize bA code p=p1 at *
    generalize bA code p1=p2 at *
    generalize bA code p2=p3 at *
    clear hk hk1 hK2
    go_enter Tryz.func46,Tryz.ntmps46
    go_wp2_with fail
    refine (unhide H1).mono ?_
    rintro e w1 ⟨rfl,g1,o1⟩
    have H2:=hide (unhide HN w1 g1)
    have HB1:=hide (o1.below hn0 (by omega))
    clear g1 o1 H1 HN
    go_wp2_with fail
    refine (unhide H2).mono ?_
    rintro e w2 ⟨rfl,g2,o2⟩
    have H3:=hide (unhide HN2 w2 g2)
    have HB2:=hide ((unhide HB1).trans (o2.below hn0 (by have:=(unhide HB1).size;omega)))
    clear g2 o2 H2 HN2 HB1
    go_wp2_with fail
    refine (unhide H3).mono ?_
    rintro e w3 ⟨rfl,g3,o3⟩
    have HB3:=hide ((unhide HB2).trans (o3.below hn0 (by have:=(unhide HB2).size;omega)))
    have hT3:=(unhide HT).keep hn (unhide HB3)
    have ct:=hT3.tg v hv4
    have cd:=hT3.da u hv7
    have g3d:BdR n0 w3.drew b code p3 es o L:=g3.drewN 1
    have H4:=hide (btell_any g3d 5 (bTgt.getD v []) [] (bDat u) [] none 0 (nil_owned _ _ _ _ _ _) (fun q hq=>by cases hq) hle)
    have hv:(v:Int)<4:=by omega
    have hu:(u:Int)<7:=by omega
    have hsz:6<w3.heap.size:=by have:=(unhide HB3).size;omega
    clear g3 g3d o3 H3 HB2 hT3
    go_wp2_with fail
    go_region_with (go_at_call 49;refine (unhide H4).mono ?_;rintro e w4 ⟨rfl,L4,g4,b4⟩;have HF:Hid (BdX n0 w4 b code ⟨p3,es.map (·.1) ++ [⟨5,bTgt.getD v [],[],bDat u,[]⟩],o⟩∧Below n0 w w4):=⟨⟨_,L4,by simp,g4⟩,(unhide HB3).trans ⟨b4.os,b4.tape,b4.output,b4.size,b4.block⟩⟩;clear g4 b4 H4 HB3 HT ct cd)
    all_goals
      go_wp2
      go_end0
      exact ⟨rfl,unhide HF⟩
end Go.Proofs.YtmgfijllcdadgabGreatDoor
