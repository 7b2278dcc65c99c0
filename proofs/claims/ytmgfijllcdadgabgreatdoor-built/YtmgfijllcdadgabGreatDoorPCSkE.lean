/- SkE, SkF -/
import Derived.Test.YtmgfijllcdadgabGreatDoorPCSkA
import Derived.Test.YtmgfijllcdadgabGreatDoorPCWcA
import Derived.Test.YtmgfijllcdadgabGreatDoorPM10
import Derived.Test.YtmgfijllcdadgabGreatDoorPM28
import Derived.Deep.DeepCutAuto
import Derived.Test.YtmgfijllcdadgabGreatDoorPM26
set_option linter.unusedVariables false
set_option linter.unusedSimpArgs false
namespace Go.Proofs.YtmgfijllcdadgabGreatDoor
open Go.RowKit
open Mk (St Bs Ev Att)
def oRow (acc:List Att) (oa:Option Addr) (oc:Nat):Row:=⟨112,3,.slice oa acc.length oc,acc.length,atsRow acc⟩
def lRow (acc:List Att) (la:Option Addr) (lc:Nat):Row:=⟨9,1,.slice la acc.length lc,acc.length,acc.map fun x=>sv (Mk.localOf x.name)⟩
structure AtI (w wx:World) (acc:List Att) (oa:Option Addr) (oc:Nat) (la:Option Addr) (lc:Nat):Prop where
  bel:Below w.heap.size w wx
  rows:Rws wx w.heap.size [oRow acc oa oc,lRow acc la lc]
theorem AtI.drew {w wx:World} {acc:List Att} {oa la:Option Addr} {oc lc:Nat} (h:AtI w wx acc oa oc la lc) (n:Nat):AtI w (wx.drewN n) acc oa oc la lc:=
  ⟨below_drewN h.bel n,h.rows.keep fun k hk=>rfl⟩
theorem AtI.oat {w wx:World} {acc:List Att} {oa la:Option Addr} {oc lc:Nat} (h:AtI w wx acc oa oc la lc) (k:Nat) (hk:k<acc.length):∃ g,oa=some ⟨g,0,none⟩∧g<wx.heap.size∧wx.cell? ⟨g,k * 3 + 1,none⟩=some (.string ⟨acc[k].space.toArray⟩):=by
  obtain ⟨g,h1,h2,h3⟩:=spElem (m:=3) (l:=acc) atCells (fun _=>rfl) (by decide) (h.rows.own (oRow acc oa oc) (by simp)) k hk
  exact ⟨g,h1,h2,h3 1 (by decide)⟩
theorem AtI.lat {w wx:World} {acc:List Att} {oa la:Option Addr} {oc lc:Nat} (h:AtI w wx acc oa oc la lc) (k:Nat) (hk:k<acc.length):∃ g,la=some ⟨g,0,none⟩∧g<wx.heap.size∧wx.cell? ⟨g,k,none⟩=some (.string ⟨(Mk.localOf acc[k].name).toArray⟩):=by
  have h0:wx.ownsRow w.heap.size 9 1 (.slice la acc.length lc) acc.length (acc.flatMap fun x=>[sv (Mk.localOf x.name)]):=by
    have e:(acc.flatMap fun x=>[sv (Mk.localOf x.name)])=acc.map fun x=>sv (Mk.localOf x.name):=by rw [List.map_eq_flatMap]
    rw [e];exact h.rows.own (lRow acc la lc) (by simp)
  obtain ⟨g,h1,h2,h3⟩:=spElem (m:=1) (l:=acc) (fun x=>[sv (Mk.localOf x.name)]) (fun _=>rfl) (by decide) h0 k hk
  refine ⟨g,h1,h2,?_⟩
  have:=h3 0 (by decide)
  simpa [sv] using this
theorem AtI.push1 {w wx w1:World} {acc:List Att} {oa la:Option Addr} {oc lc:Nat} (h:AtI w wx acc oa oc la lc) {x:Att} {o:Obj} {g cap:Nat} (hown:w1.ownsRow w.heap.size 112 3 (.slice (some ⟨g,0,none⟩) (acc.length + 1) cap) (acc.length + 1) (atsRow acc ++ atCells x)) (hg:(wx.alloc o).grownBy w1 (Value.slice oa acc.length oc).ownBlock) (hat:(Value.slice oa acc.length oc).ownBlock=some g∨g=wx.heap.size + 1) :
    Below w.heap.size w w1∧Rws w1 w.heap.size [⟨112,3,.slice (some ⟨g,0,none⟩) (acc.length + 1) cap,acc.length + 1,atsRow acc ++ atCells x⟩,lRow acc la lc]:=by
  have hr:Rws (wx.alloc o) w.heap.size [oRow acc oa oc,lRow acc la lc]:=h.rows.keep fun k hk=>Below.heap_alloc _ _ _ (h.rows.lt k hk).2
  refine ⟨?_,hr.grow (r' := ⟨112,3,.slice (some ⟨g,0,none⟩) (acc.length + 1) cap,acc.length + 1,atsRow acc ++ atCells x⟩) hown hg ?_⟩
  · have hb:=h.bel.alloc h.bel.size o
    refine hb.trans ⟨hg.os,hg.tape,hg.output,hg.size,fun k hk=>hg.block k (by have:=hb.size;omega) fun e => ?_⟩
    have:=(h.rows.lt k (List.mem_filterMap.2 ⟨oRow acc oa oc,by simp,e.symm⟩)).1
    omega
  · rcases hat with h | h
    · exact .inl h.symm
    · exact .inr (by rw [h];simp [Value.ownBlock])
theorem AtI.push2 {w w1 w2:World} {acc:List Att} {la:Option Addr} {lc:Nat} {x:Att} {g cap:Nat} (h:Below w.heap.size w w1∧Rws w1 w.heap.size [⟨112,3,.slice (some ⟨g,0,none⟩) (acc.length + 1) cap,acc.length + 1,atsRow acc ++ atCells x⟩,lRow acc la lc]) {o:Obj} {g2 cap2:Nat} (hown:w2.ownsRow w.heap.size 9 1 (.slice (some ⟨g2,0,none⟩) (acc.length + 1) cap2) (acc.length + 1) ((acc.map fun x=>sv (Mk.localOf x.name)) ++ [.string ⟨(Mk.localOf x.name).toArray⟩])) (hg:(w1.alloc o).grownBy w2 (Value.slice la acc.length lc).ownBlock) (hat:(Value.slice la acc.length lc).ownBlock=some g2∨g2=w1.heap.size + 1) :
    AtI w w2 (acc ++ [x]) (some ⟨g,0,none⟩) cap (some ⟨g2,0,none⟩) cap2:=by
  obtain ⟨hb0,hr0⟩:=h
  have hr:Rws (w1.alloc o) w.heap.size [lRow acc la lc,⟨112,3,.slice (some ⟨g,0,none⟩) (acc.length + 1) cap,acc.length + 1,atsRow acc ++ atCells x⟩]:=(hr0.keep fun k hk=>Below.heap_alloc _ _ _ (hr0.lt k hk).2).perm (List.Perm.swap _ _ _)
  have hr2:=hr.grow (r' := lRow (acc ++ [x]) (some ⟨g2,0,none⟩) cap2) (by
    show World.ownsRow _ _ _ _ _ _ _
    simp only [lRow,List.length_append,List.length_cons,List.length_nil,Nat.zero_add,List.map_append,List.map_cons,List.map_nil]
    exact hown) hg (by
    rcases hat with h | h
    · exact .inl h.symm
    · exact .inr (by rw [h];simp [lRow,Value.ownBlock]))
  refine ⟨?_,?_⟩
  · have hb:=hb0.alloc hb0.size o
    refine hb.trans ⟨hg.os,hg.tape,hg.output,hg.size,fun k hk=>hg.block k (by have:=hb.size;omega) fun e => ?_⟩
    have:=(hr.lt k (List.mem_filterMap.2 ⟨lRow acc la lc,by simp,e.symm⟩)).1
    omega
  · have:=hr2.perm (List.Perm.swap _ _ _)
    have e:oRow (acc ++ [x]) (some ⟨g,0,none⟩) cap=⟨112,3,.slice (some ⟨g,0,none⟩) (acc.length + 1) cap,acc.length + 1,atsRow acc ++ atCells x⟩:=by
      unfold oRow atsRow
      simp
    rw [e]
    exact this
def AtK (w:World) (FIN:Option (List Att)) (e:Ending) (w' : World):Prop:=
  Below w.heap.size w w' ∧ ((FIN=none∧e = .returned (.tuple #[.slice none 0 0,.bool false]))∨∃ r v,FIN=some r∧e = .returned (.tuple #[v,.bool true])∧w'.ownsRow w.heap.size 112 3 v r.length (atsRow r))
set_option maxHeartbeats 4000000 in
set_option maxRecDepth 100000 in
theorem attributes_any {n0:Nat} {w:World} {b:Nat} {bs:List (Bs × Bs)} {ms:List Nat} {L:SLay} (h:ScK n0 w b (bs.map (·.1)) (bs.map (·.2)) ms L) (hgb:GoodB bs) (hl:bs.length≤1000000000) {a:Option Addr} {c:Nat} {l:List Att} (ha:AtsAt w a l) (hq:∀ x ∈ l,Mk.isQualified x.name=true∧x.space=[]∧x.name.length≤100000000) (hll:l.length≤1000000) :
    Calls Tryz.prog 68 #[.pointer (some ⟨b,0,none⟩),.slice a l.length c] w (AtK w (Mk.resolveGo (xmlB :: bs) l [])):=by
  obtain ⟨FIN,hFIN⟩:∃ FIN,FIN=Mk.resolveGo (xmlB :: bs) l []:=⟨_,rfl⟩
  rw [← hFIN]
  have HFN:=hide hFIN
  have HS:=hide (fun (w' : World) (hb:Below w.heap.size w w') p=>lookup_any (BR.below h hb) hl p)
  have HA:=hide ha
  have HQ:=hide hq
  have hlt:=h.lt
  obtain ⟨i0,hi,hz0,hz1,hz2⟩:=info_parts infoStr
  obtain ⟨j0,ji,jz0,jz1,jz2⟩:=info_parts spInfoAt
  clear h ha hq hFIN
  go_enter Tryz.func68,Tryz.ntmps68
  go_wp2_with fail
  go_loopg [6,7,8] l.length (fun g s6 s7 s8 wx=>∃ (i:Nat) (acc:List Att) (oa la:Option Addr) (oc lc:Nat),i≤l.length∧g=l.length - i∧s6 = .slice oa acc.length oc∧s7 = .slice la acc.length lc∧s8 = .int .i64 i∧acc.length≤i∧Hid (AtI w wx acc oa oc la lc)∧Hid (FIN=Mk.resolveGo (xmlB :: bs) (l.drop i) acc))
  case atStart=>exact ⟨0,[],none,none,0,0,by omega,rfl,rfl,rfl,rfl,by simp,⟨Below.refl _ _,⟨fun r hr=>owned_nil (by simp [oRow,lRow,atsRow] at hr;rcases hr with rfl | rfl <;> exact ⟨rfl,rfl,rfl⟩),by simp [oRow,lRow,blks,Value.ownBlock]⟩⟩,unhide HFN⟩
  case round =>
    obtain ⟨i,acc,oa,la,oc,lc,hi', rfl,rfl,rfl,rfl,hacc,HI,HF⟩:=hrel
    clear HFN
    by_cases h3:i<l.length
    · have e1:decide ((i:Int)<(l.length:Int))=true:=by simp;omega
      have hk1:(i:Int)<(l.length:Int):=by omega
      obtain ⟨hq1,hq2,hq3⟩:=unhide HQ l[i] (List.getElem_mem h3)
      obtain ⟨g,hg,hgl,c0,c2⟩:=(unhide HA).keep (unhide HI).bel i h3
      have HD:=hide (fun w=>kd_any l[i].name hq3 w)
      have HH:=hide (fun w=>halves_any l[i].name hq3 w)
      rw [kd_qual hq1] at HD
      rw [hv_yes hq1] at HH
      have hf:=unhide HF
      rw [List.drop_eq_getElem_cons h3,resolve_one hgb] at hf
      obtain ⟨x,hx⟩:∃ x,x=l[i]:=⟨_,rfl⟩
      rw [← hx] at hq1 hq2 c0 c2 HD HH hf
      subst hg
      clear hx hq3 HF
      cases hd:Mk.isDecl x.name
      · rw [hd] at HD hf
        simp only [Bool.false_eq_true,if_false] at hf
        have HF:=hide hf
        clear hf
        go_wp2_with (go_at_call 65;refine (unhide HD _).mono ?_;rintro e w1 ⟨rfl,n1,rfl⟩)
        -- halves
        refine (unhide HH _).mono ?_
        rintro e w1' ⟨rfl,n2,rfl⟩
        cases hpf:Mk.prefixOf x.name with
        | nil =>
          have hf:=unhide HF
          rw [hpf] at hf
          simp only [bne_self_eq_false,Bool.false_and,Bool.false_eq_true,if_false] at hf
          obtain ⟨x', hx0⟩:∃ x' : Att,x' = { x with space:=x.space }:=⟨_,rfl⟩
          rw [← hx0] at hf
          have hxs:x'.space=[]∧x'.name=x.name∧x'.val=x.val:=by rw [hx0];exact ⟨hq2,rfl,rfl⟩
          have hx' : Mk.hasLocal acc x' = (acc.drop 0).any fun a=>a.space == [] && Mk.localOf a.name == Mk.localOf x.name:=by
            unfold Mk.hasLocal
            rw [hxs.1,hxs.2.1];rfl
          have HF' := hide hf
          have HXS:=hide hxs
          clear hf hpf HF hxs hx0
          rcases Nat.eq_zero_or_pos acc.length with hz | hz
          · have HZ:=hide hz
            clear hz
            have HX:=hide hx'
            clear hx'
            go_wp2_with fail
            go_loopg [16] acc.length (fun g s16 wx=>∃ (k m:Nat),k≤acc.length∧g=acc.length - k∧s16 = .int .i64 k∧wx=wr.drewN m∧Hid (Mk.hasLocal acc x' = (acc.drop k).any fun a=>a.space == [] && Mk.localOf a.name == Mk.localOf x.name))
            case atStart=>exact ⟨0,_,by omega,rfl,rfl,rfl,unhide HX⟩
            case round =>
              obtain ⟨k,m,hk,rfl,rfl,hwr,HK⟩:=hrel
              subst hwr
              clear HX
              by_cases h7:k<acc.length
              · exact absurd h7 (by have hz:acc.length=0:=unhide HZ;omega)
              · have f1:decide ((k:Int)<(acc.length:Int))=false:=by simp;omega
                have hh:=unhide HK
                rw [List.drop_of_length_le (by omega)] at hh
                have hfin:FIN=Mk.resolveGo (xmlB :: bs) (l.drop (i + 1)) (acc ++ [x']):=by rw [unhide HF', hh];rfl
                have HFI:=hide hfin
                clear hh HK hfin
                have hxv:=unhide HXS
                have HI2:=hide ((unhide HI).drew m)
                have HO:=hide (show ((wr.drewN m).alloc (.cells #[.string ⟨x.name.toArray⟩,.string ⟨([]:Bs).toArray⟩,.string ⟨x.val.toArray⟩] 112)).drew.ownsRow w.heap.size 112 3 (.slice oa acc.length oc) acc.length (atsRow acc) from World.ownsRow.alloc ((unhide HI2).rows.own (oRow acc oa oc) (by simp)) (.cells #[.string ⟨x.name.toArray⟩,.string ⟨([]:Bs).toArray⟩,.string ⟨x.val.toArray⟩] 112))
                have HB:=hide (show ((wr.drewN m).alloc (.cells #[.string ⟨x.name.toArray⟩,.string ⟨([]:Bs).toArray⟩,.string ⟨x.val.toArray⟩] 112)).drew.heap[wr.heap.size]? = _ from heap_alloc_new (wr.drewN m) _)
                have H63:=hide (show acc.length + 1≤maxLen by unfold maxLen;omega)
                have hwl:=(unhide HI).bel.size
                have HBB:=hide (show w.heap.size≤((wr.drewN m).alloc (.cells #[.string ⟨x.name.toArray⟩,.string ⟨([]:Bs).toArray⟩,.string ⟨x.val.toArray⟩] 112)).drew.heap.size by simp;omega)
                have hac3:atCells x' = [.string ⟨x.name.toArray⟩,.string ⟨([]:Bs).toArray⟩,.string ⟨x.val.toArray⟩]:=by unfold atCells;rw [hxv.1,hxv.2.1,hxv.2.2]
                have HAC:=hide hac3
                have hxl:Mk.localOf x'.name=Mk.localOf x.name:=by rw [hxv.2.1]
                have HXL:=hide hxl
                clear hac3 hxv hxl
                go_wp2_with fail
                go_region_law (refine step_append_lies _ rfl (.tmp 74) (.tmp 87) 51 rfl w.heap.size 112 j0 _ 3 48 Tryz.underlying51 ji jz0 jz1 jz2 rfl (by decide) (.slice oa acc.length oc) acc.length (atsRow acc) (by simp [Act.eval]) (unhide HO) ⟨wr.heap.size,0,none⟩ 1 1 [.string ⟨x.name.toArray⟩,.string ⟨([]:Bs).toArray⟩,.string ⟨x.val.toArray⟩] (by simp [Act.eval]) rfl (World.news_of_block (unhide HB)) (by intro u hu;simp at hu;rcases hu with rfl | rfl | rfl <;> rfl) (by decide) (unhide H63) (by omega) (unhide HBB) (wr.heap.size + 1) (by simp) ?_;intro g5 cap5 w5 hown hgrow hat hlt5)
                all_goals
                  have HP1:=hide (AtI.push1 (unhide HI2) (x:=x') (by rw [unhide HAC];exact hown) ⟨hgrow.os,hgrow.tape,hgrow.output,hgrow.size,hgrow.block⟩ (by simpa using hat))
                  clear hown hgrow hat
                  have HO2:=hide (World.ownsRow.alloc ((unhide HP1).2.own (lRow acc la lc) (by simp)) (.cells #[.string ⟨(Mk.localOf x.name).toArray⟩] 9))
                  have HB2:=hide (show (w5.alloc (.cells #[.string ⟨(Mk.localOf x.name).toArray⟩] 9)).heap[w5.heap.size]? = _ from heap_alloc_new _ _)
                  have hw5:=(unhide HP1).1.size
                  have HBB2:=hide (show w.heap.size≤(w5.alloc (.cells #[.string ⟨(Mk.localOf x.name).toArray⟩] 9)).heap.size by simp;omega)
                  go_wp2_with (at_builtin;refine wpList_append_lies _ rfl (.tmp 89) (.tmp 91) 22 rfl w.heap.size 9 i0 _ 1 16 Tryz.underlying22 hi hz0 hz1 hz2 rfl (by decide) (.slice la acc.length lc) acc.length (acc.map fun (x:Att)=>sv (Mk.localOf x.name)) (by simp [Act.eval]) (unhide HO2) ⟨w5.heap.size,0,none⟩ 1 1 [.string ⟨(Mk.localOf x.name).toArray⟩] (by simp [Act.eval]) rfl (World.news_of_block (unhide HB2)) (by intro u hu;simp at hu;subst hu;rfl) (by decide) (unhide H63) (by omega) (unhide HBB2) (w5.heap.size + 1) (by simp) ?_;intro g6 cap6 w6 hown hgrow hat hlt6;have HP2:=hide (AtI.push2 (unhide HP1) (by rw [unhide HXL];exact hown) hgrow (by simpa using hat));clear hown hgrow hat)
                  go_roundg (l.length - (i + 1))
                  case measure=>omega
                  case rel=>exact ⟨i + 1,acc ++ [x'],_,_,_,_,by omega,rfl,by simp,by simp,by simp,by simp;omega,unhide HP2,unhide HFI⟩
          · obtain ⟨g1,hg10,_⟩:=(unhide HI).oat 0 hz
            obtain ⟨g2,hg20,_⟩:=(unhide HI).lat 0 hz
            subst hg10 hg20
            have HX:=hide hx'
            clear hx'
            go_wp2_with fail
            go_loopg [16] acc.length (fun g s16 wx=>∃ (k m:Nat),k≤acc.length∧g=acc.length - k∧s16 = .int .i64 k∧wx=wr.drewN m∧Hid (Mk.hasLocal acc x' = (acc.drop k).any fun a=>a.space == [] && Mk.localOf a.name == Mk.localOf x.name))
            case atStart=>exact ⟨0,_,by omega,rfl,rfl,rfl,unhide HX⟩
            case round =>
              obtain ⟨k,m,hk,rfl,rfl,hwr,HK⟩:=hrel
              subst hwr
              clear HX
              by_cases h7:k<acc.length
              · have f1:decide ((k:Int)<(acc.length:Int))=true:=by simp;omega
                have f2:(k:Int)<(acc.length:Int):=by omega
                obtain ⟨g1', hg1,hgl1,d1⟩:=(unhide HI).oat k h7
                obtain ⟨g2', hg2,hgl2,d2⟩:=(unhide HI).lat k h7
                injection hg1 with hg1;injection hg1 with hg1 _ _
                injection hg2 with hg2;injection hg2 with hg2 _ _
                subst hg1 hg2
                have hh:=unhide HK
                rw [List.drop_eq_getElem_cons h7,List.any_cons] at hh
                generalize acc[k]=y at *
                cases t1:(y.space == [])
                · rw [t1,Bool.false_and,Bool.false_or] at hh
                  have HH2:=hide hh
                  clear hh HK
                  go_wp2
                  go_roundg (acc.length - (k + 1))
                  case measure=>omega
                  case rel=>exact ⟨k + 1,m,by omega,rfl,by simp,rfl,unhide HH2⟩
                · cases t2:(Mk.localOf y.name == Mk.localOf x.name)
                  · rw [t1,t2,Bool.and_false,Bool.false_or] at hh
                    have HH2:=hide hh
                    clear hh HK
                    go_wp2
                    go_roundg (acc.length - (k + 1))
                    case measure=>omega
                    case rel=>exact ⟨k + 1,m,by omega,rfl,by simp,rfl,unhide HH2⟩
                  · rw [t1,t2,Bool.and_true,Bool.true_or] at hh
                    have hfin:FIN=none:=by rw [unhide HF', hh];rfl
                    have HFI:=hide hfin
                    clear hh HK hfin
                    go_wp2
                    go_ret2
                    exact ⟨below_drewN (unhide HI).bel _,.inl ⟨unhide HFI,rfl⟩⟩
              · have f1:decide ((k:Int)<(acc.length:Int))=false:=by simp;omega
                have hh:=unhide HK
                rw [List.drop_of_length_le (by omega)] at hh
                have hfin:FIN=Mk.resolveGo (xmlB :: bs) (l.drop (i + 1)) (acc ++ [x']):=by rw [unhide HF', hh];rfl
                have HFI:=hide hfin
                clear hh HK hfin
                have hxv:=unhide HXS
                have HI2:=hide ((unhide HI).drew m)
                have HO:=hide (show ((wr.drewN m).alloc (.cells #[.string ⟨x.name.toArray⟩,.string ⟨([]:Bs).toArray⟩,.string ⟨x.val.toArray⟩] 112)).drew.ownsRow w.heap.size 112 3 (.slice (some ⟨g1,0,none⟩) acc.length oc) acc.length (atsRow acc) from World.ownsRow.alloc ((unhide HI2).rows.own (oRow acc (some ⟨g1,0,none⟩) oc) (by simp)) (.cells #[.string ⟨x.name.toArray⟩,.string ⟨([]:Bs).toArray⟩,.string ⟨x.val.toArray⟩] 112))
                have HB:=hide (show ((wr.drewN m).alloc (.cells #[.string ⟨x.name.toArray⟩,.string ⟨([]:Bs).toArray⟩,.string ⟨x.val.toArray⟩] 112)).drew.heap[wr.heap.size]? = _ from heap_alloc_new (wr.drewN m) _)
                have H63:=hide (show acc.length + 1≤maxLen by unfold maxLen;omega)
                have hwl:=(unhide HI).bel.size
                have HBB:=hide (show w.heap.size≤((wr.drewN m).alloc (.cells #[.string ⟨x.name.toArray⟩,.string ⟨([]:Bs).toArray⟩,.string ⟨x.val.toArray⟩] 112)).drew.heap.size by simp;omega)
                have hac3:atCells x' = [.string ⟨x.name.toArray⟩,.string ⟨([]:Bs).toArray⟩,.string ⟨x.val.toArray⟩]:=by unfold atCells;rw [hxv.1,hxv.2.1,hxv.2.2]
                have HAC:=hide hac3
                have hxl:Mk.localOf x'.name=Mk.localOf x.name:=by rw [hxv.2.1]
                have HXL:=hide hxl
                clear hac3 hxv hxl
                go_wp2_with fail
                go_region_law (refine step_append_lies _ rfl (.tmp 74) (.tmp 87) 51 rfl w.heap.size 112 j0 _ 3 48 Tryz.underlying51 ji jz0 jz1 jz2 rfl (by decide) (.slice (some ⟨g1,0,none⟩) acc.length oc) acc.length (atsRow acc) (by simp [Act.eval]) (unhide HO) ⟨wr.heap.size,0,none⟩ 1 1 [.string ⟨x.name.toArray⟩,.string ⟨([]:Bs).toArray⟩,.string ⟨x.val.toArray⟩] (by simp [Act.eval]) rfl (World.news_of_block (unhide HB)) (by intro u hu;simp at hu;rcases hu with rfl | rfl | rfl <;> rfl) (by decide) (unhide H63) (by omega) (unhide HBB) (wr.heap.size + 1) (by simp) ?_;intro g5 cap5 w5 hown hgrow hat hlt5)
                all_goals
                  have HP1:=hide (AtI.push1 (unhide HI2) (x:=x') (by rw [unhide HAC];exact hown) ⟨hgrow.os,hgrow.tape,hgrow.output,hgrow.size,hgrow.block⟩ (by simpa using hat))
                  clear hown hgrow hat
                  have HO2:=hide (World.ownsRow.alloc ((unhide HP1).2.own (lRow acc (some ⟨g2,0,none⟩) lc) (by simp)) (.cells #[.string ⟨(Mk.localOf x.name).toArray⟩] 9))
                  have HB2:=hide (show (w5.alloc (.cells #[.string ⟨(Mk.localOf x.name).toArray⟩] 9)).heap[w5.heap.size]? = _ from heap_alloc_new _ _)
                  have hw5:=(unhide HP1).1.size
                  have HBB2:=hide (show w.heap.size≤(w5.alloc (.cells #[.string ⟨(Mk.localOf x.name).toArray⟩] 9)).heap.size by simp;omega)
                  go_wp2_with (at_builtin;refine wpList_append_lies _ rfl (.tmp 89) (.tmp 91) 22 rfl w.heap.size 9 i0 _ 1 16 Tryz.underlying22 hi hz0 hz1 hz2 rfl (by decide) (.slice (some ⟨g2,0,none⟩) acc.length lc) acc.length (acc.map fun (x:Att)=>sv (Mk.localOf x.name)) (by simp [Act.eval]) (unhide HO2) ⟨w5.heap.size,0,none⟩ 1 1 [.string ⟨(Mk.localOf x.name).toArray⟩] (by simp [Act.eval]) rfl (World.news_of_block (unhide HB2)) (by intro u hu;simp at hu;subst hu;rfl) (by decide) (unhide H63) (by omega) (unhide HBB2) (w5.heap.size + 1) (by simp) ?_;intro g6 cap6 w6 hown hgrow hat hlt6;have HP2:=hide (AtI.push2 (unhide HP1) (by rw [unhide HXL];exact hown) hgrow (by simpa using hat));clear hown hgrow hat)
                  go_roundg (l.length - (i + 1))
                  case measure=>omega
                  case rel=>exact ⟨i + 1,acc ++ [x'],_,_,_,_,by omega,rfl,by simp,by simp,by simp,by simp;omega,unhide HP2,unhide HFI⟩
        | cons py pr =>
          have hf:=unhide HF
          rw [hpf] at hf
          have hpb:((py :: pr:Bs) != [])=true:=rfl
          rw [hpb] at hf
          simp only [Bool.true_and,if_true] at hf
          have HL:=hide (unhide HS (wr.drewN (n1 + n2)) (below_drewN (unhide HI).bel _) (py :: pr))
          cases hbd:lkB bs (py :: pr)
          · rw [hbd] at HL hf
            simp only [Bool.not_false,if_true] at hf
            have HFI:=hide hf
            clear hf HF hpf
            go_wp2_with (go_at_call 67;refine (unhide HL).mono ?_;rintro e w1 ⟨rfl,n3,rfl⟩)
            go_ret2
            exact ⟨below_drewN (unhide HI).bel _,.inl ⟨unhide HFI,rfl⟩⟩
          · rw [hbd] at HL hf
            simp only [Bool.not_true,Bool.false_eq_true,if_false] at hf
            obtain ⟨sp,hspd⟩:∃ sp,sp=lkS bs (py :: pr):=⟨_,rfl⟩
            rw [← hspd] at HL hf
            obtain ⟨x', hx0⟩:∃ x' : Att,x' = { x with space:=sp }:=⟨_,rfl⟩
            rw [← hx0] at hf
            have hxs:x'.space=sp∧x'.name=x.name∧x'.val=x.val:=by rw [hx0];exact ⟨rfl,rfl,rfl⟩
            have hx' : Mk.hasLocal acc x' = (acc.drop 0).any fun a=>a.space == sp && Mk.localOf a.name == Mk.localOf x.name:=by
              unfold Mk.hasLocal
              rw [hxs.1,hxs.2.1];rfl
            have HF' := hide hf
            have HXS:=hide hxs
            clear hf hpf HF hxs hx0 hspd
            go_wp2_with (go_at_call 67;refine (unhide HL).mono ?_;rintro e w1 ⟨rfl,n3,rfl⟩)
            rcases Nat.eq_zero_or_pos acc.length with hz | hz
            · have HZ:=hide hz
              clear hz
              have HX:=hide hx'
              clear hx'
              go_wp2_with fail
              go_loopg [16] acc.length (fun g s16 wx=>∃ (k m:Nat),k≤acc.length∧g=acc.length - k∧s16 = .int .i64 k∧wx=wr.drewN m∧Hid (Mk.hasLocal acc x' = (acc.drop k).any fun a=>a.space == sp && Mk.localOf a.name == Mk.localOf x.name))
              case atStart=>exact ⟨0,_,by omega,rfl,rfl,rfl,unhide HX⟩
              case round =>
                obtain ⟨k,m,hk,rfl,rfl,hwr,HK⟩:=hrel
                subst hwr
                clear HX
                by_cases h7:k<acc.length
                · exact absurd h7 (by have hz:acc.length=0:=unhide HZ;omega)
                · have f1:decide ((k:Int)<(acc.length:Int))=false:=by simp;omega
                  have hh:=unhide HK
                  rw [List.drop_of_length_le (by omega)] at hh
                  have hfin:FIN=Mk.resolveGo (xmlB :: bs) (l.drop (i + 1)) (acc ++ [x']):=by rw [unhide HF', hh];rfl
                  have HFI:=hide hfin
                  clear hh HK hfin
                  have hxv:=unhide HXS
                  have HI2:=hide ((unhide HI).drew m)
                  have HO:=hide (show ((wr.drewN m).alloc (.cells #[.string ⟨x.name.toArray⟩,.string ⟨sp.toArray⟩,.string ⟨x.val.toArray⟩] 112)).drew.ownsRow w.heap.size 112 3 (.slice oa acc.length oc) acc.length (atsRow acc) from World.ownsRow.alloc ((unhide HI2).rows.own (oRow acc oa oc) (by simp)) (.cells #[.string ⟨x.name.toArray⟩,.string ⟨sp.toArray⟩,.string ⟨x.val.toArray⟩] 112))
                  have HB:=hide (show ((wr.drewN m).alloc (.cells #[.string ⟨x.name.toArray⟩,.string ⟨sp.toArray⟩,.string ⟨x.val.toArray⟩] 112)).drew.heap[wr.heap.size]? = _ from heap_alloc_new (wr.drewN m) _)
                  have H63:=hide (show acc.length + 1≤maxLen by unfold maxLen;omega)
                  have hwl:=(unhide HI).bel.size
                  have HBB:=hide (show w.heap.size≤((wr.drewN m).alloc (.cells #[.string ⟨x.name.toArray⟩,.string ⟨sp.toArray⟩,.string ⟨x.val.toArray⟩] 112)).drew.heap.size by simp;omega)
                  have hac3:atCells x' = [.string ⟨x.name.toArray⟩,.string ⟨sp.toArray⟩,.string ⟨x.val.toArray⟩]:=by unfold atCells;rw [hxv.1,hxv.2.1,hxv.2.2]
                  have HAC:=hide hac3
                  have hxl:Mk.localOf x'.name=Mk.localOf x.name:=by rw [hxv.2.1]
                  have HXL:=hide hxl
                  clear hac3 hxv hxl
                  go_wp2_with fail
                  go_region_law (refine step_append_lies _ rfl (.tmp 74) (.tmp 87) 51 rfl w.heap.size 112 j0 _ 3 48 Tryz.underlying51 ji jz0 jz1 jz2 rfl (by decide) (.slice oa acc.length oc) acc.length (atsRow acc) (by simp [Act.eval]) (unhide HO) ⟨wr.heap.size,0,none⟩ 1 1 [.string ⟨x.name.toArray⟩,.string ⟨sp.toArray⟩,.string ⟨x.val.toArray⟩] (by simp [Act.eval]) rfl (World.news_of_block (unhide HB)) (by intro u hu;simp at hu;rcases hu with rfl | rfl | rfl <;> rfl) (by decide) (unhide H63) (by omega) (unhide HBB) (wr.heap.size + 1) (by simp) ?_;intro g5 cap5 w5 hown hgrow hat hlt5)
                  all_goals
                    have HP1:=hide (AtI.push1 (unhide HI2) (x:=x') (by rw [unhide HAC];exact hown) ⟨hgrow.os,hgrow.tape,hgrow.output,hgrow.size,hgrow.block⟩ (by simpa using hat))
                    clear hown hgrow hat
                    have HO2:=hide (World.ownsRow.alloc ((unhide HP1).2.own (lRow acc la lc) (by simp)) (.cells #[.string ⟨(Mk.localOf x.name).toArray⟩] 9))
                    have HB2:=hide (show (w5.alloc (.cells #[.string ⟨(Mk.localOf x.name).toArray⟩] 9)).heap[w5.heap.size]? = _ from heap_alloc_new _ _)
                    have hw5:=(unhide HP1).1.size
                    have HBB2:=hide (show w.heap.size≤(w5.alloc (.cells #[.string ⟨(Mk.localOf x.name).toArray⟩] 9)).heap.size by simp;omega)
                    go_wp2_with (at_builtin;refine wpList_append_lies _ rfl (.tmp 89) (.tmp 91) 22 rfl w.heap.size 9 i0 _ 1 16 Tryz.underlying22 hi hz0 hz1 hz2 rfl (by decide) (.slice la acc.length lc) acc.length (acc.map fun (x:Att)=>sv (Mk.localOf x.name)) (by simp [Act.eval]) (unhide HO2) ⟨w5.heap.size,0,none⟩ 1 1 [.string ⟨(Mk.localOf x.name).toArray⟩] (by simp [Act.eval]) rfl (World.news_of_block (unhide HB2)) (by intro u hu;simp at hu;subst hu;rfl) (by decide) (unhide H63) (by omega) (unhide HBB2) (w5.heap.size + 1) (by simp) ?_;intro g6 cap6 w6 hown hgrow hat hlt6;have HP2:=hide (AtI.push2 (unhide HP1) (by rw [unhide HXL];exact hown) hgrow (by simpa using hat));clear hown hgrow hat)
                    go_roundg (l.length - (i + 1))
                    case measure=>omega
                    case rel=>exact ⟨i + 1,acc ++ [x'],_,_,_,_,by omega,rfl,by simp,by simp,by simp,by simp;omega,unhide HP2,unhide HFI⟩
            · obtain ⟨g1,hg10,_⟩:=(unhide HI).oat 0 hz
              obtain ⟨g2,hg20,_⟩:=(unhide HI).lat 0 hz
              subst hg10 hg20
              have HX:=hide hx'
              clear hx'
              go_wp2_with fail
              go_loopg [16] acc.length (fun g s16 wx=>∃ (k m:Nat),k≤acc.length∧g=acc.length - k∧s16 = .int .i64 k∧wx=wr.drewN m∧Hid (Mk.hasLocal acc x' = (acc.drop k).any fun a=>a.space == sp && Mk.localOf a.name == Mk.localOf x.name))
              case atStart=>exact ⟨0,_,by omega,rfl,rfl,rfl,unhide HX⟩
              case round =>
                obtain ⟨k,m,hk,rfl,rfl,hwr,HK⟩:=hrel
                subst hwr
                clear HX
                by_cases h7:k<acc.length
                · have f1:decide ((k:Int)<(acc.length:Int))=true:=by simp;omega
                  have f2:(k:Int)<(acc.length:Int):=by omega
                  obtain ⟨g1', hg1,hgl1,d1⟩:=(unhide HI).oat k h7
                  obtain ⟨g2', hg2,hgl2,d2⟩:=(unhide HI).lat k h7
                  injection hg1 with hg1;injection hg1 with hg1 _ _
                  injection hg2 with hg2;injection hg2 with hg2 _ _
                  subst hg1 hg2
                  have hh:=unhide HK
                  rw [List.drop_eq_getElem_cons h7,List.any_cons] at hh
                  generalize acc[k]=y at *
                  cases t1:(y.space == sp)
                  · rw [t1,Bool.false_and,Bool.false_or] at hh
                    have HH2:=hide hh
                    clear hh HK
                    go_wp2
                    go_roundg (acc.length - (k + 1))
                    case measure=>omega
                    case rel=>exact ⟨k + 1,m,by omega,rfl,by simp,rfl,unhide HH2⟩
                  · cases t2:(Mk.localOf y.name == Mk.localOf x.name)
                    · rw [t1,t2,Bool.and_false,Bool.false_or] at hh
                      have HH2:=hide hh
                      clear hh HK
                      go_wp2
                      go_roundg (acc.length - (k + 1))
                      case measure=>omega
                      case rel=>exact ⟨k + 1,m,by omega,rfl,by simp,rfl,unhide HH2⟩
                    · rw [t1,t2,Bool.and_true,Bool.true_or] at hh
                      have hfin:FIN=none:=by rw [unhide HF', hh];rfl
                      have HFI:=hide hfin
                      clear hh HK hfin
                      go_wp2
                      go_ret2
                      exact ⟨below_drewN (unhide HI).bel _,.inl ⟨unhide HFI,rfl⟩⟩
                · have f1:decide ((k:Int)<(acc.length:Int))=false:=by simp;omega
                  have hh:=unhide HK
                  rw [List.drop_of_length_le (by omega)] at hh
                  have hfin:FIN=Mk.resolveGo (xmlB :: bs) (l.drop (i + 1)) (acc ++ [x']):=by rw [unhide HF', hh];rfl
                  have HFI:=hide hfin
                  clear hh HK hfin
                  have hxv:=unhide HXS
                  have HI2:=hide ((unhide HI).drew m)
                  have HO:=hide (show ((wr.drewN m).alloc (.cells #[.string ⟨x.name.toArray⟩,.string ⟨sp.toArray⟩,.string ⟨x.val.toArray⟩] 112)).drew.ownsRow w.heap.size 112 3 (.slice (some ⟨g1,0,none⟩) acc.length oc) acc.length (atsRow acc) from World.ownsRow.alloc ((unhide HI2).rows.own (oRow acc (some ⟨g1,0,none⟩) oc) (by simp)) (.cells #[.string ⟨x.name.toArray⟩,.string ⟨sp.toArray⟩,.string ⟨x.val.toArray⟩] 112))
                  have HB:=hide (show ((wr.drewN m).alloc (.cells #[.string ⟨x.name.toArray⟩,.string ⟨sp.toArray⟩,.string ⟨x.val.toArray⟩] 112)).drew.heap[wr.heap.size]? = _ from heap_alloc_new (wr.drewN m) _)
                  have H63:=hide (show acc.length + 1≤maxLen by unfold maxLen;omega)
                  have hwl:=(unhide HI).bel.size
                  have HBB:=hide (show w.heap.size≤((wr.drewN m).alloc (.cells #[.string ⟨x.name.toArray⟩,.string ⟨sp.toArray⟩,.string ⟨x.val.toArray⟩] 112)).drew.heap.size by simp;omega)
                  have hac3:atCells x' = [.string ⟨x.name.toArray⟩,.string ⟨sp.toArray⟩,.string ⟨x.val.toArray⟩]:=by unfold atCells;rw [hxv.1,hxv.2.1,hxv.2.2]
                  have HAC:=hide hac3
                  have hxl:Mk.localOf x'.name=Mk.localOf x.name:=by rw [hxv.2.1]
                  have HXL:=hide hxl
                  clear hac3 hxv hxl
                  go_wp2_with fail
                  go_region_law (refine step_append_lies _ rfl (.tmp 74) (.tmp 87) 51 rfl w.heap.size 112 j0 _ 3 48 Tryz.underlying51 ji jz0 jz1 jz2 rfl (by decide) (.slice (some ⟨g1,0,none⟩) acc.length oc) acc.length (atsRow acc) (by simp [Act.eval]) (unhide HO) ⟨wr.heap.size,0,none⟩ 1 1 [.string ⟨x.name.toArray⟩,.string ⟨sp.toArray⟩,.string ⟨x.val.toArray⟩] (by simp [Act.eval]) rfl (World.news_of_block (unhide HB)) (by intro u hu;simp at hu;rcases hu with rfl | rfl | rfl <;> rfl) (by decide) (unhide H63) (by omega) (unhide HBB) (wr.heap.size + 1) (by simp) ?_;intro g5 cap5 w5 hown hgrow hat hlt5)
                  all_goals
                    have HP1:=hide (AtI.push1 (unhide HI2) (x:=x') (by rw [unhide HAC];exact hown) ⟨hgrow.os,hgrow.tape,hgrow.output,hgrow.size,hgrow.block⟩ (by simpa using hat))
                    clear hown hgrow hat
                    have HO2:=hide (World.ownsRow.alloc ((unhide HP1).2.own (lRow acc (some ⟨g2,0,none⟩) lc) (by simp)) (.cells #[.string ⟨(Mk.localOf x.name).toArray⟩] 9))
                    have HB2:=hide (show (w5.alloc (.cells #[.string ⟨(Mk.localOf x.name).toArray⟩] 9)).heap[w5.heap.size]? = _ from heap_alloc_new _ _)
                    have hw5:=(unhide HP1).1.size
                    have HBB2:=hide (show w.heap.size≤(w5.alloc (.cells #[.string ⟨(Mk.localOf x.name).toArray⟩] 9)).heap.size by simp;omega)
                    go_wp2_with (at_builtin;refine wpList_append_lies _ rfl (.tmp 89) (.tmp 91) 22 rfl w.heap.size 9 i0 _ 1 16 Tryz.underlying22 hi hz0 hz1 hz2 rfl (by decide) (.slice (some ⟨g2,0,none⟩) acc.length lc) acc.length (acc.map fun (x:Att)=>sv (Mk.localOf x.name)) (by simp [Act.eval]) (unhide HO2) ⟨w5.heap.size,0,none⟩ 1 1 [.string ⟨(Mk.localOf x.name).toArray⟩] (by simp [Act.eval]) rfl (World.news_of_block (unhide HB2)) (by intro u hu;simp at hu;subst hu;rfl) (by decide) (unhide H63) (by omega) (unhide HBB2) (w5.heap.size + 1) (by simp) ?_;intro g6 cap6 w6 hown hgrow hat hlt6;have HP2:=hide (AtI.push2 (unhide HP1) (by rw [unhide HXL];exact hown) hgrow (by simpa using hat));clear hown hgrow hat)
                    go_roundg (l.length - (i + 1))
                    case measure=>omega
                    case rel=>exact ⟨i + 1,acc ++ [x'],_,_,_,_,by omega,rfl,by simp,by simp,by simp,by simp;omega,unhide HP2,unhide HFI⟩
      · rw [hd] at HD hf
        simp only [if_true] at hf
        have HF:=hide hf
        clear hf
        go_wp2_with (go_at_call 65;refine (unhide HD _).mono ?_;rintro e w1 ⟨rfl,n1,rfl⟩)
        go_roundg (l.length - (i + 1))
        case measure=>omega
        case rel=>exact ⟨i + 1,acc,oa,la,oc,lc,by omega,rfl,rfl,rfl,by simp,by omega,(unhide HI).drew n1,unhide HF⟩
    · have e1:decide ((i:Int)<(l.length:Int))=false:=by simp;omega
      have hf:=unhide HF
      rw [List.drop_of_length_le (by omega)] at hf
      have HF:=hide hf
      clear hf
      go_wp2
      go_ret2
      exact ⟨(unhide HI).bel,.inr ⟨acc,_,unhide HF,rfl,(unhide HI).rows.own (oRow acc oa oc) (by simp)⟩⟩
def opGo:List Att→List (Bs × Bs)→Option (List (Bs × Bs))
  | [],D=>some D
  | a :: r,D =>
    if !Mk.isQualified a.name then none
    else if Mk.isDecl a.name then (if Mk.isGood (Mk.declared a.name) a.val then opGo r (D ++ [(Mk.declared a.name,a.val)]) else none)
    else opGo r D
theorem opGo_eq (b:List (Bs × Bs)):∀ (l:List Att) (D:List (Bs × Bs)),opGo l D=if (l.all fun a=>Mk.isQualified a.name) && (Mk.declareGo l (b ++ D) D.length).2.2 then some ((Mk.declareGo l (b ++ D) D.length).1.drop b.length) else none
  | [],D=>by
    show some D=_
    have e:Mk.declareGo [] (b ++ D) D.length=(b ++ D,D.length,true):=rfl
    rw [e]
    simp
  | a :: r,D=>by
    have e:Mk.declareGo (a :: r) (b ++ D) D.length=if !Mk.isDecl a.name then Mk.declareGo r (b ++ D) D.length else if !Mk.isGood (Mk.declared a.name) a.val then (b ++ D,D.length,false) else Mk.declareGo r (b ++ D ++ [(Mk.declared a.name,a.val)]) (D.length + 1):=rfl
    have e1:opGo (a :: r) D=if !Mk.isQualified a.name then none else if Mk.isDecl a.name then (if Mk.isGood (Mk.declared a.name) a.val then opGo r (D ++ [(Mk.declared a.name,a.val)]) else none) else opGo r D:=rfl
    rw [e,e1,List.all_cons]
    cases hq:Mk.isQualified a.name
    · simp
    · simp only [Bool.not_true,Bool.false_eq_true,if_false,Bool.true_and]
      cases hd:Mk.isDecl a.name
      · simp only [Bool.false_eq_true,if_false,Bool.not_false,if_true]
        exact opGo_eq b r D
      · simp only [if_true,Bool.not_true,Bool.false_eq_true,if_false]
        cases hg:Mk.isGood (Mk.declared a.name) a.val
        · simp
        · simp only [if_true,Bool.not_true,Bool.false_eq_true,if_false]
          have:=opGo_eq b r (D ++ [(Mk.declared a.name,a.val)])
          rw [List.length_append, ← List.append_assoc] at this
          exact this
theorem declareGo_form (b:List (Bs × Bs)):∀ (l:List Att) (D:List (Bs × Bs)), ∃ E,(Mk.declareGo l (b ++ D) D.length).1=b ++ (D ++ E)∧(Mk.declareGo l (b ++ D) D.length).2.1=(D ++ E).length
  | [],D=>⟨[],by simp [Mk.declareGo],by simp [Mk.declareGo]⟩
  | a :: r,D=>by
    have e:Mk.declareGo (a :: r) (b ++ D) D.length=if !Mk.isDecl a.name then Mk.declareGo r (b ++ D) D.length else if !Mk.isGood (Mk.declared a.name) a.val then (b ++ D,D.length,false) else Mk.declareGo r (b ++ D ++ [(Mk.declared a.name,a.val)]) (D.length + 1):=rfl
    rw [e]
    split
    · exact declareGo_form b r D
    · split
      · exact ⟨[],by simp,by simp⟩
      · obtain ⟨E,h1,h2⟩:=declareGo_form b r (D ++ [(Mk.declared a.name,a.val)])
        rw [List.length_append, ← List.append_assoc] at h1 h2
        have h1' : (Mk.declareGo r (b ++ D ++ [(Mk.declared a.name,a.val)]) (D.length + 1)).1=_:=h1
        have h2' : (Mk.declareGo r (b ++ D ++ [(Mk.declared a.name,a.val)]) (D.length + 1)).2.1=_:=h2
        exact ⟨(Mk.declared a.name,a.val) :: E,by rw [h1'];simp,by rw [h2'];simp⟩
theorem kStart_op (bs:List (Bs × Bs)) (ms:List Nat) (n:Bs) (al:List Att):kStart ⟨xmlB :: bs,ms⟩ n al=match opGo al [] with
    | none=>none
    | some D=>if !Mk.isQualified n then none else if !Mk.isBound (xmlB :: (bs ++ D)) (Mk.prefixOf n) then none else match Mk.resolveGo (xmlB :: (bs ++ D)) al [] with
      | none=>none
      | some l=>some (⟨xmlB :: (bs ++ D),ms ++ [D.length]⟩,l):=by
  rw [opGo_eq (xmlB :: bs) al []]
  obtain ⟨E,h1,h2⟩:=declareGo_form (xmlB :: bs) al []
  simp only [List.append_nil,List.nil_append,List.length_nil] at h1 h2 ⊢
  unfold kStart Mk.areQualified
  dsimp only
  cases hq:(al.all fun a=>Mk.isQualified a.name)
  · simp
  · simp only [Bool.true_and]
    rw [h1,h2]
    cases hd:(Mk.declareGo al (xmlB :: bs) 0).2.2
    · simp only [Bool.not_false,if_true,Bool.false_eq_true,if_false]
      split <;> rfl
    · simp only [Bool.not_true,Bool.false_eq_true,if_false,if_true]
      have:(xmlB :: bs ++ E).drop (xmlB :: bs).length=E:=by simp
      rw [this]
      rfl
theorem opGo_good:∀ (l:List Att) (D E:List (Bs × Bs)),opGo l D=some E→GoodB D→GoodB E
  | [],D,E,h,hg=>by cases h;exact hg
  | a :: r,D,E,h,hg=>by
    have e1:opGo (a :: r) D=if !Mk.isQualified a.name then none else if Mk.isDecl a.name then (if Mk.isGood (Mk.declared a.name) a.val then opGo r (D ++ [(Mk.declared a.name,a.val)]) else none) else opGo r D:=rfl
    rw [e1] at h
    split at h
    · cases h
    · split at h
      · split at h
        · rename_i hgd
          exact opGo_good r _ E h (fun x hx=>by
            rcases List.mem_append.1 hx with hx | hx
            · exact hg x hx
            · simp at hx;subst hx;exact hgd)
        · cases h
      · exact opGo_good r D E h hg
theorem opGo_qual:∀ (l:List Att) (D E:List (Bs × Bs)),opGo l D=some E→∀ a ∈ l,Mk.isQualified a.name=true
  | [],D,E,h,a,ha=>by cases ha
  | x :: r,D,E,h,a,ha=>by
    have e1:opGo (x :: r) D=if !Mk.isQualified x.name then none else if Mk.isDecl x.name then (if Mk.isGood (Mk.declared x.name) x.val then opGo r (D ++ [(Mk.declared x.name,x.val)]) else none) else opGo r D:=rfl
    rw [e1] at h
    split at h
    · cases h
    · rename_i hq
      rcases List.mem_cons.1 ha with rfl | ha
      · simpa using hq
      · split at h
        · split at h
          · exact opGo_qual r _ E h a ha
          · cases h
        · exact opGo_qual r D E h a ha
def bindEs (D:List (Bs × Bs)):List (Ev × Value):=(kBinds D).map fun e=>(e,Value.slice none 0 0)
structure OpL (n0:Nat) (w wx:World) (b:Nat) (f0:List Nat) (bs:List (Bs × Bs)) (ms:List Nat) (L:SLay) (es:List (Ev × Value)) (ov:Value):Prop where
  sc:ScK n0 wx b (bs.map (·.1)) (bs.map (·.2)) ms L
  fr:Fr w wx b f0 (scF (bs.map (·.1)) (bs.map (·.2)) ms L)
  row:wx.ownsRow w.heap.size 53 5 ov es.length (evsRow es)
  ap:∀ k,ov.ownBlock=some k→k ≠ b∧k ∉ scF (bs.map (·.1)) (bs.map (·.2)) ms L
section
variable {n0:Nat} {w wx w1 w2:World} {b:Nat} {f0:List Nat} {bs bs' : List (Bs × Bs)} {ms ms' : List Nat} {L L' : SLay} {es:List (Ev × Value)} {ov:Value}
theorem OpL.drew (h:OpL n0 w wx b f0 bs ms L es ov) (n:Nat):OpL n0 w (wx.drewN n) b f0 bs ms L es ov:=
  ⟨BR.keep h.sc fun k _=>rfl,⟨h.fr.os,h.fr.tape,h.fr.output,h.fr.size,h.fr.block,h.fr.foot⟩,owned_drewN h.row n,h.ap⟩
theorem OpL.scope (h:OpL n0 w wx b f0 bs ms L es ov) (hs:ScK n0 w1 b (bs'.map (·.1)) (bs'.map (·.2)) ms' L') (hf:Fr wx w1 b (scF (bs.map (·.1)) (bs.map (·.2)) ms L) (scF (bs'.map (·.1)) (bs'.map (·.2)) ms' L')):OpL n0 w w1 b f0 bs' ms' L' es ov:=by
  have hlt:∀ k,ov.ownBlock=some k→k<wx.heap.size:=fun k hk=>(World.ownsRow.lt h.row k hk).2
  refine ⟨hs,h.fr.trans hf,owned_keep (r:=⟨53,5,ov,_,_⟩) h.row fun k hk=>hf.block k (hlt k hk) (h.ap k hk).1 (h.ap k hk).2,fun k hk=>⟨(h.ap k hk).1,fun hm => ?_⟩⟩
  rcases hf.foot k hm with g | g
  · exact (h.ap k hk).2 g
  · have:=hlt k hk;omega
theorem OpL.push (h:OpL n0 w wx b f0 bs ms L es ov) {o:Obj} {x:Ev × Value} {g cap:Nat} (hown:w1.ownsRow w.heap.size 53 5 (.slice (some ⟨g,0,none⟩) (es.length + 1) cap) (es.length + 1) (evsRow es ++ evCells x.1 x.2)) (hg:(wx.alloc o).grownBy w1 ov.ownBlock) (hat:ov.ownBlock=some g∨g=wx.heap.size + 1) :
    OpL n0 w w1 b f0 bs ms L (es ++ [x]) (.slice (some ⟨g,0,none⟩) (es.length + 1) cap):=by
  have hg' := grownBy_allocFirst hg
  have hb:=BR.lt h.sc
  have hft:∀ k ∈ scF (bs.map (·.1)) (bs.map (·.2)) ms L,k<wx.heap.size:=fun k hk=>(h.sc.rows.lt k hk).2
  have hk:∀ k,k=b∨k ∈ scF (bs.map (·.1)) (bs.map (·.2)) ms L→w1.heap[k]? = wx.heap[k]? := fun k hk=>hg'.block k (by
    rcases hk with rfl | hk
    · exact hb
    · exact hft k hk) fun e=>by
    have:=h.ap k e.symm
    rcases hk with hk | hk
    · exact this.1 hk
    · exact this.2 hk
  refine ⟨BR.keep h.sc hk,?_,by rw [evsRow_snoc];simpa using hown,fun k hk => ?_⟩
  · have hs:=h.fr.size
    refine ⟨hg'.os.trans h.fr.os,hg'.tape.trans h.fr.tape,hg'.output.trans h.fr.output,Nat.le_trans hs hg'.size,fun k hk1 h1 h2 => ?_,h.fr.foot⟩
    rw [hg'.block k (by omega) (fun e=>by have:=(World.ownsRow.lt h.row k e.symm).1;omega)]
    exact h.fr.block k hk1 h1 h2
  · have e:g=k:=by simpa [Value.ownBlock] using hk
    subst e
    rcases hat with h1 | h1
    · exact h.ap g h1
    · exact ⟨by omega,fun hm=>by have:=hft g hm;omega⟩
end
end Go.Proofs.YtmgfijllcdadgabGreatDoor
