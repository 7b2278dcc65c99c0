/- SkG, SkH, NstD, SkI -/
import Derived.Test.YtmgfijllcdadgabGreatDoorPCSkE
import Derived.Test.YtmgfijllcdadgabGreatDoorPCWcA
import Derived.Test.YtmgfijllcdadgabGreatDoorPM27
import Derived.Test.YtmgfijllcdadgabGreatDoorPCSplit
import Derived.Test.YtmgfijllcdadgabGreatDoorPCWrong
set_option linter.unusedVariables false
set_option linter.unusedSimpArgs false
namespace Go.Proofs.YtmgfijllcdadgabGreatDoor
open Go.RowKit
open Mk (St Bs Ev Att)
theorem AtsAt.fr {w w' : World} {b:Nat} {f f' : List Nat} {a:Option Addr} {l:List Att} (h:AtsAt w a l) (hf:Fr w w' b f f') (hd:∀ g,a=some ⟨g,0,none⟩→g ≠ b∧g ∉ f):AtsAt w' a l:=fun k hk=>by
  obtain ⟨g,h1,h2,h3,h4⟩:=h k hk
  have hc:∀ j,w'.cell? ⟨g,j,none⟩=w.cell? ⟨g,j,none⟩:=fun j=>by simp only [World.cell?];rw [hf.block _ h2 (hd g h1).1 (hd g h1).2]
  exact ⟨g,h1,by have:=hf.size;omega,by rw [hc];exact h3,by rw [hc];exact h4⟩
theorem bindEs_snoc (D:List (Bs × Bs)) (p:Bs × Bs):bindEs (D ++ [p])=bindEs D ++ [((⟨6,p.1,[],p.2,[]⟩:Ev),Value.slice none 0 0)]:=by simp [bindEs,kBinds]
theorem bindEs_len (D:List (Bs × Bs)):(bindEs D).length=D.length:=by simp [bindEs,kBinds]
theorem kd_unq {n:Bs} (h:Mk.isQualified n=false):kdB n=false:=by
  unfold kdB
  rw [h]
  cases hx:(n == Mk.wXmlns)
  · rfl
  · have:n=Mk.wXmlns:=by simpa using hx
    rw [this] at h
    exact absurd h (by decide)
theorem tag_op (bs D:List (Bs × Bs)) (ms:List Nat):Sc.tag ⟨xmlB :: (bs ++ D),ms ++ [D.length]⟩=D:=by
  unfold Sc.tag Sc.fst
  dsimp only
  rw [List.getLast?_concat]
  dsimp only
  rw [if_neg (by simp;omega)]
  have:(xmlB :: (bs ++ D)).length - D.length=bs.length + 1:=by simp;omega
  rw [this]
  simp
theorem op_got {w9:World} {B:Nat} {D:List (Bs × Bs)} {x:Ev} {v8:Value} {g9 cap9:Nat} (hrow:w9.ownsRow B 53 5 (.slice (some ⟨g9,0,none⟩) (D.length + 1) cap9) (bindEs D ++ [(x,v8)]).length (evsRow (bindEs D ++ [(x,v8)]))) (hv:(evRow (x,v8)).owned w9 0) (hne:∀ k,v8.ownBlock=some k→k ≠ g9):Got w9 (.slice (some ⟨g9,0,none⟩) (D.length + 1) cap9) (kBinds D ++ [x]) (g9 :: v8.ownBlock.toList):=by
  refine ⟨bindEs D ++ [(x,v8)],by simp [bindEs,Function.comp_def],?_,fun p hp => ?_,fun k hk => ?_,fun k hk => ?_⟩
  · have h1:=ownsRow_base hrow (Nat.zero_le B)
    have e:(kBinds D ++ [x]).length=(bindEs D ++ [(x,v8)]).length:=by simp [bindEs]
    rw [e];exact h1
  · rcases List.mem_append.1 hp with hp | hp
    · unfold bindEs kBinds at hp
      simp only [List.map_map,List.mem_map] at hp
      obtain ⟨q,_,rfl⟩:=hp
      exact owned_nil ⟨rfl,rfl,rfl⟩
    · simp at hp;subst hp;exact hv
  · have e:g9=k:=by simpa [Value.ownBlock] using hk
    subst e;exact List.mem_cons_self
  · obtain ⟨r,hr,hv2⟩:=List.mem_filterMap.1 hk
    obtain ⟨p,hp,rfl⟩:=List.mem_map.1 hr
    rcases List.mem_append.1 hp with hp | hp
    · unfold bindEs kBinds at hp
      simp only [List.map_map,List.mem_map] at hp
      obtain ⟨q,_,rfl⟩:=hp
      cases hv2
    · simp at hp;subst hp
      have hv3:v8.ownBlock=some k:=hv2
      refine ⟨List.mem_cons_of_mem _ (by rw [hv3];simp),fun e => ?_⟩
      have e:g9=k:=by simpa [Value.ownBlock] using e
      exact hne k hv3 e.symm
def OpK (n0:Nat) (w:World) (b:Nat) (f0:List Nat) (FIN:Option (Sc × List Att)) (n:Bs) (e:Ending) (w' : World):Prop:=
  (FIN=none∧(∃ v,e = .returned (.tuple #[v,.bool false]))∧Fr w w' b f0 [])∨∃ bs' ms' l L' v fp,FIN=some (⟨xmlB :: bs', ms'⟩,l)∧GoodB bs' ∧ e = .returned (.tuple #[v,.bool true])∧ScK n0 w' b (bs'.map (·.1)) (bs'.map (·.2)) ms' L' ∧ Fr w w' b f0 (scF (bs'.map (·.1)) (bs'.map (·.2)) ms' L')∧Got w' v (kTold ⟨xmlB :: bs', ms'⟩ n l) fp∧∀ k ∈ fp,w.heap.size≤k∧k<w'.heap.size∧k ≠ b∧k ∉ scF (bs'.map (·.1)) (bs'.map (·.2)) ms' L'
theorem op_fin {n0:Nat} {w W M w8 w9:World} {b:Nat} {f0:List Nat} {bs D:List (Bs × Bs)} {ms:List Nat} {L2:SLay} {oa av:Option Addr} {oc ac g9 cap9:Nat} {n:Bs} {r:List Att} {FIN:Option (Sc × List Att)} {o:Obj} (hFR:Fr w W b f0 f0) (hWs:w.heap.size≤W.heap.size) (hWM:W.heap.size≤M.heap.size)
    (hG:OpL n0 W w9 b f0 (bs ++ D) (ms ++ [D.length]) L2 (bindEs D ++ [((⟨1,n,lkS (bs ++ D) (Mk.prefixOf n),[],r⟩:Ev),Value.slice av r.length ac)]) (.slice (some ⟨g9,0,none⟩) ((bindEs D).length + 1) cap9)) (hO8:w8.ownsRow M.heap.size 112 3 (.slice av r.length ac) r.length (atsRow r)) (hgr0:(w8.alloc o).grownBy w9 (Value.slice oa D.length oc).ownBlock) (hat:(Value.slice oa D.length oc).ownBlock=some g9∨g9=w8.heap.size + 1)
    (hMX:(∀ k,(Value.slice oa D.length oc).ownBlock=some k→k<M.heap.size)∧b<M.heap.size∧∀ k ∈ scF ((bs ++ D).map (·.1)) ((bs ++ D).map (·.2)) (ms ++ [D.length]) L2,k<M.heap.size) (hF2:FIN=some (⟨xmlB :: (bs ++ D),ms ++ [D.length]⟩,r)) (hGD:GoodB (bs ++ D)) :
    OpK n0 w b f0 FIN n (.returned (.tuple #[.slice (some ⟨g9,0,none⟩) (D.length + 1) cap9,.bool true])) w9:=by
  have hpv:∀ k,(Value.slice av r.length ac).ownBlock=some k→M.heap.size≤k∧k<w8.heap.size:=fun k hk=>World.ownsRow.lt hO8 k hk
  have hgr:=grownBy_allocFirst hgr0
  have hne:∀ k,(Value.slice av r.length ac).ownBlock=some k→k ≠ g9:=fun k hk e=>by
    have h1:=hpv k hk
    rcases hat with h2 | h2
    · have:=hMX.1 g9 h2;omega
    · omega
  have hvo:(evRow ((⟨1,n,lkS (bs ++ D) (Mk.prefixOf n),[],r⟩:Ev),Value.slice av r.length ac)).owned w9 0:=by
    refine owned_keep (w:=w8) (ownsRow_base hO8 (Nat.zero_le _)) fun k hk => ?_
    have h1:=hpv k hk
    exact hgr.block k h1.2 fun e=>by have:=hMX.1 k e.symm;omega
  refine .inr ⟨bs ++ D,ms ++ [D.length],r,L2,.slice (some ⟨g9,0,none⟩) (D.length + 1) cap9,g9 :: (Value.slice av r.length ac).ownBlock.toList,hF2,hGD,rfl,hG.sc,hFR.trans hG.fr,?_,?_⟩
  · have hgt:=op_got (by have h8:=hG.row;rw [bindEs_len] at h8;exact h8) hvo hne
    unfold kTold
    rw [tag_op,look_value hGD]
    exact hgt
  · intro k hk
    rcases List.mem_cons.1 hk with rfl | hk
    · have h1:=World.ownsRow.lt hG.row k rfl
      have h2:=hG.ap k rfl
      exact ⟨by omega,h1.2,h2.1,h2.2⟩
    · have hk:(Value.slice av r.length ac).ownBlock=some k:=by simpa using hk
      have h1:=hpv k hk
      have h2:=hMX.2
      have h3:=hgr.size
      exact ⟨by omega,by omega,by omega,fun hm=>by have:=h2.2 k hm;omega⟩
set_option maxHeartbeats 8000000 in
set_option maxRecDepth 100000 in
theorem opens_any {n0:Nat} {w:World} {b:Nat} {bs:List (Bs × Bs)} {ms:List Nat} {L:SLay} (h:ScK n0 w b (bs.map (·.1)) (bs.map (·.2)) ms L) (hgb:GoodB bs) (hl:bs.length≤900000000) (hml:ms.length≤900000000) {a:Option Addr} {c:Nat} {l:List Att} (ha:AtsAt w a l) (hda:∀ g,a=some ⟨g,0,none⟩→g ≠ b∧g ∉ scF (bs.map (·.1)) (bs.map (·.2)) ms L)
    (hq:∀ x ∈ l,x.space=[]∧x.name.length≤100000000) (hll:l.length≤1000000) (kd:Int) (n sp vl:Bs) (hn:n.length≤100000000) :
    Calls Tryz.prog 50 #[.pointer (some ⟨b,0,none⟩),.agg #[.int .i64 kd,.string ⟨n.toArray⟩,.string ⟨sp.toArray⟩,.string ⟨vl.toArray⟩,.slice a l.length c]] w (OpK n0 w b (scF (bs.map (·.1)) (bs.map (·.2)) ms L) (kStart ⟨xmlB :: bs,ms⟩ n l) n):=by
  obtain ⟨FIN,hFIN⟩:∃ FIN,FIN=kStart ⟨xmlB :: bs,ms⟩ n l:=⟨_,rfl⟩
  rw [← hFIN]
  rw [kStart_op] at hFIN
  obtain ⟨ANS,hANS⟩:∃ ANS,ANS=opGo l []:=⟨_,rfl⟩
  rw [← hANS] at hFIN
  have HFN:=hide hFIN
  obtain ⟨f0,hf0⟩:∃ f0,f0=scF (bs.map (·.1)) (bs.map (·.2)) ms L:=⟨_,rfl⟩
  rw [← hf0] at hda ⊢
  have hlt:=h.lt
  have hn0:=h.hb
  obtain ⟨W,hW⟩:∃ W,W=w.alloc (.cells #[.int .i64 kd,.string ⟨n.toArray⟩,.string ⟨sp.toArray⟩,.string ⟨vl.toArray⟩,.slice a l.length c] 53 (0,0)):=⟨_,rfl⟩
  have hbW:Below w.heap.size w W:=by rw [hW];exact (Below.refl _ _).alloc (Nat.le_refl _) _
  have hWx:W.heap[w.heap.size]? = some (.cells #[.int .i64 kd,.string ⟨n.toArray⟩,.string ⟨sp.toArray⟩,.string ⟨vl.toArray⟩,.slice a l.length c] 53 (0,0)):=by rw [hW];exact heap_alloc_new w _
  have hWs:W.heap.size=w.heap.size + 1:=by rw [hW];simp
  have hscW:ScK n0 W b (bs.map (·.1)) (bs.map (·.2)) ms L:=BR.below h hbW
  have haW:AtsAt W a l:=ha.keep hbW
  have hf0l:∀ k ∈ f0,k<w.heap.size:=fun k hk=>by rw [hf0] at hk;exact (h.rows.lt k hk).2
  have hL0:OpL n0 W W b f0 (bs ++ []) ms L (bindEs []) (.slice none 0 0):=by
    rw [List.append_nil]
    exact ⟨hscW,by rw [← hf0];exact Fr.refl _ _ _,owned_nil (r:=⟨53,5,.slice none 0 0,0,[]⟩) ⟨rfl,rfl,rfl⟩,fun k hk=>by cases hk⟩
  have HL0:=hide hL0
  have HAT:=hide (fun (w' : World) (f' : List Nat) (hf:Fr W w' b f0 f')=>haW.fr hf hda)
  have HE:=hide (fun (w' : World) (f' : List Nat) (hf:Fr W w' b f0 f')=>show w'.heap[w.heap.size]? = _ from (hf.block _ (by omega) (by omega) (fun hm=>by have:=hf0l _ hm;omega)).trans hWx)
  have HFR:=hide (show Fr w W b f0 f0 by rw [hW];exact Fr.alloc _ _ _ _)
  have HQ:=hide hq
  have HAN:=hide hANS
  have HAN2:=hide hANS
  have HGB:=hide hgb
  have hc:=hscW.cells
  simp only [List.length_map] at hc
  obtain ⟨i0,hi,hz0,hz1,hz2⟩:=info_parts infoEv
  obtain ⟨j0,ji,jz0,jz1,jz2⟩:=info_parts infoInt
  have hWc:∀ j,W.cell? ⟨w.heap.size,j,none⟩=[.int .i64 kd,.string ⟨n.toArray⟩,.string ⟨sp.toArray⟩,.string ⟨vl.toArray⟩,.slice a l.length c][j]? := fun j=>by simp [World.cell?,hWx]
  have hbl:b<W.heap.size:=by omega
  have HW:=hide hW
  rw [hW] at hc
  have hlt1:b<(w.alloc (.cells #[.int .i64 kd,.string ⟨n.toArray⟩,.string ⟨sp.toArray⟩,.string ⟨vl.toArray⟩,.slice a l.length c] 53 (0,0))).heap.size:=by simp;omega
  clear h ha hda hq hFIN hANS hbW hWx hscW haW hL0 hgb hf0 hW hWc
  go_enter Tryz.func50,Tryz.ntmps50
  go_wp2_with fail
  go_loopg [6,8] l.length (fun g s6 s8 wx=>∃ (i:Nat) (D:List (Bs × Bs)) (L1:SLay) (oa:Option Addr) (oc:Nat),i≤l.length∧g=l.length - i∧s6 = .slice oa D.length oc∧s8 = .int .i64 i∧D.length≤i∧Hid (OpL n0 W wx b f0 (bs ++ D) ms L1 (bindEs D) (.slice oa D.length oc))∧Hid (ANS=opGo (l.drop i) D))
  case atStart=>exact ⟨0,[],L,none,0,by omega,rfl,rfl,rfl,by simp,by have h7:=unhide HL0;rw [unhide HW] at h7 ⊢;exact h7,unhide HAN⟩
  case round =>
    obtain ⟨i,D,L1,oa,oc,hi', rfl,rfl,rfl,hDi,HL,HA⟩:=hrel
    clear HL0 HAN hc hlt1
    have hex:=unhide HE _ _ (unhide HL).fr
    have hlx:w.heap.size<wr.heap.size:=(Array.getElem?_eq_some_iff.1 hex).1
    have hec:∀ j,wr.cell? ⟨w.heap.size,j,none⟩=[.int .i64 kd,.string ⟨n.toArray⟩,.string ⟨sp.toArray⟩,.string ⟨vl.toArray⟩,.slice a l.length c][j]? := fun j=>by simp [World.cell?,hex]
    by_cases h3:i<l.length
    · have e1:decide ((i:Int)<(l.length:Int))=true:=by simp;omega
      have hk1:(i:Int)<(l.length:Int):=by omega
      obtain ⟨hq2,hq3⟩:=unhide HQ l[i] (List.getElem_mem h3)
      obtain ⟨g,hg,hgl,c0,c2⟩:=unhide HAT _ _ (unhide HL).fr i h3
      have HD:=hide (fun w=>kd_any l[i].name hq3 w)
      have HH:=hide (fun w=>halves_any l[i].name hq3 w)
      have hf:=unhide HA
      have hop:∀ (x:Att) r,opGo (x :: r) D=if !Mk.isQualified x.name then none else if Mk.isDecl x.name then (if Mk.isGood (Mk.declared x.name) x.val then opGo r (D ++ [(Mk.declared x.name,x.val)]) else none) else opGo r D:=fun _ _=>rfl
      rw [List.drop_eq_getElem_cons h3,hop] at hf
      obtain ⟨x,hx⟩:∃ x,x=l[i]:=⟨_,rfl⟩
      rw [← hx] at hq2 c0 c2 HD HH hf
      subst hg
      have HXX:=hide hx
      clear hx hq3 HA hop hex
      cases hqu:Mk.isQualified x.name
      · rw [hqu] at hf
        simp only [Bool.not_false,if_true] at hf
        rw [kd_unq hqu] at HD
        rw [hv_not hqu] at HH
        have hfin:FIN=none:=by rw [unhide HFN,hf]
        have HFI:=hide hfin
        clear hf hfin
        go_wp2_with (first | (go_at_call 64;refine (unhide HH _).mono ?_;rintro e w1 ⟨rfl,n1,rfl⟩) | (go_at_call 65;refine (unhide HD _).mono ?_;rintro e w1 ⟨rfl,n2,rfl⟩))
        go_ret2
        refine .inl ⟨unhide HFI,⟨_,rfl⟩,?_⟩
        have h5:=((unhide HFR).trans ((unhide HL).drew (n1 + n2)).fr).sub (f'' := []) (fun k hk=>by cases hk)
        exact h5
      · rw [hqu] at hf
        simp only [Bool.not_true,Bool.false_eq_true,if_false] at hf
        rw [kd_qual hqu] at HD
        rw [hv_yes hqu] at HH
        cases hd:Mk.isDecl x.name
        · rw [hd] at HD hf
          simp only [Bool.false_eq_true,if_false] at hf
          have HF:=hide hf
          clear hf
          go_wp2_with (first | (go_at_call 64;refine (unhide HH _).mono ?_;rintro e w1 ⟨rfl,n1,rfl⟩) | (go_at_call 65;refine (unhide HD _).mono ?_;rintro e w1 ⟨rfl,n2,rfl⟩))
          go_roundg (l.length - (i + 1))
          case measure=>omega
          case rel =>
            have h6:=(unhide HL).drew (n1 + n2)
            exact ⟨i + 1,D,L1,oa,oc,by omega,rfl,rfl,by simp,by omega,h6,unhide HF⟩
        · rw [hd] at HD hf
          rw [kd_name hqu hd] at HD
          simp only [if_true] at hf
          have HDe:=hide (fun m=>kdeclare_any ((unhide HL).drew m).sc (by simp;omega) (by simp;omega) (Mk.declared x.name) x.val)
          generalize Mk.declared x.name=dn at *
          cases hgd:Mk.isGood dn x.val
          · rw [hgd] at hf
            simp only [Bool.false_eq_true,if_false] at hf
            have hfin:FIN=none:=by rw [unhide HFN,hf]
            have HFI:=hide hfin
            have HGD:=hide hgd
            clear hf hfin hgd
            go_wp2_with (first | (go_at_call 64;refine (unhide HH _).mono ?_;rintro e w1 ⟨rfl,n1,rfl⟩) | (go_at_call 65;refine (unhide HD _).mono ?_;rintro e w1 ⟨rfl,n2,rfl⟩))
            refine (unhide HDe _).mono ?_
            rintro e wb (⟨_,rfl,n3,hwb⟩ | ⟨hno,_⟩)
            rotate_left
            · exact absurd ((unhide HGD).symm.trans hno) (by decide)
            have hLb:OpL n0 W wb b f0 (bs ++ D) ms L1 (bindEs D) (.slice oa D.length oc):=by rw [hwb];exact ((unhide HL).drew _).drew _
            have HLb:=hide hLb
            have hex3:=unhide HE _ _ hLb.fr
            have hlx3:w.heap.size<wb.heap.size:=(Array.getElem?_eq_some_iff.1 hex3).1
            have hec3:∀ j,wb.cell? ⟨w.heap.size,j,none⟩=[.int .i64 kd,.string ⟨n.toArray⟩,.string ⟨sp.toArray⟩,.string ⟨vl.toArray⟩,.slice (some ⟨g,0,none⟩) l.length c][j]? := fun j=>by simp [World.cell?,hex3]
            obtain ⟨g3,hg3,hgl3,c03,c23⟩:=unhide HAT _ _ hLb.fr i h3
            injection hg3 with hg3;injection hg3 with hg3 _ _
            subst hg3
            clear hLb hex3 c0 c2 hec c03 hwb
            rw [← unhide HXX] at c23
            have HO:=hide (show (wb.alloc (.cells #[.int .i64 6,.string ⟨dn.toArray⟩,.string ⟨#[]⟩,.string ⟨x.val.toArray⟩,.slice none 0 0] 53)).ownsRow W.heap.size 53 5 (.slice oa D.length oc) D.length (evsRow (bindEs D)) by have h8:=(unhide HLb).row;rw [bindEs_len] at h8;exact World.ownsRow.alloc h8 _)
            have HB:=hide (show (wb.alloc (.cells #[.int .i64 6,.string ⟨dn.toArray⟩,.string ⟨#[]⟩,.string ⟨x.val.toArray⟩,.slice none 0 0] 53)).heap[wb.heap.size]? = _ from heap_alloc_new wb _)
            have H63:=hide (show D.length + 1≤maxLen by unfold maxLen;omega)
            have hws3:=(unhide HLb).fr.size
            have HBB:=hide (show W.heap.size≤(wb.alloc (.cells #[.int .i64 6,.string ⟨dn.toArray⟩,.string ⟨#[]⟩,.string ⟨x.val.toArray⟩,.slice none 0 0] 53)).heap.size by simp;omega)
            go_wp2_with (at_builtin;refine wpList_append_lies _ rfl (.tmp 67) (.tmp 76) 35 rfl W.heap.size 53 i0 _ 5 80 Tryz.underlying35 hi hz0 hz1 hz2 rfl (by decide) (.slice oa D.length oc) D.length (evsRow (bindEs D)) (by simp [Act.eval]) (unhide HO) ⟨wb.heap.size,0,none⟩ 1 1 [.int .i64 6,.string ⟨dn.toArray⟩,.string ⟨#[]⟩,.string ⟨x.val.toArray⟩,.slice none 0 0] (by simp [Act.eval]) rfl (World.news_of_block (unhide HB)) (by intro u hu;simp at hu;rcases hu with rfl | rfl | rfl | rfl | rfl <;> rfl) (by decide) (unhide H63) (by omega) (unhide HBB) (wb.heap.size + 1) (by simp) ?_;intro g5 cap5 w5 hown hgrow hat hlt5;have HP:=hide (OpL.push (unhide HLb) (x:=((⟨6,dn,[],x.val,[]⟩:Ev),Value.slice none 0 0)) (by rw [bindEs_len];exact hown) hgrow (by simpa using hat));clear hown hgrow hat)
            go_ret2
            exact .inl ⟨unhide HFI,⟨_,rfl⟩,((unhide HFR).trans (unhide HP).fr).sub (fun k hk=>by cases hk)⟩
          · rw [hgd] at hf
            simp only [if_true] at hf
            have HF:=hide hf
            have HGD:=hide hgd
            clear hf hgd
            go_wp2_with (first | (go_at_call 64;refine (unhide HH _).mono ?_;rintro e w1 ⟨rfl,n1,rfl⟩) | (go_at_call 65;refine (unhide HD _).mono ?_;rintro e w1 ⟨rfl,n2,rfl⟩))
            refine (unhide HDe _).mono ?_
            rintro e w3 (⟨hno,_⟩ | ⟨_,rfl,L2,hs2,hf2⟩)
            · exact absurd ((unhide HGD).symm.trans hno) (by decide)
            have emap:∀ (f:Bs × Bs→Bs),(bs ++ (D ++ [(dn,x.val)])).map f=(bs ++ D).map f ++ [f (dn,x.val)]:=fun f=>by simp
            have hL2:OpL n0 W w3 b f0 (bs ++ (D ++ [(dn,x.val)])) ms L2 (bindEs D) (.slice oa D.length oc):=((unhide HL).drew _).scope (by rw [emap,emap];exact hs2) (by rw [emap,emap];exact hf2)
            have HL2:=hide hL2
            have hex3:=unhide HE _ _ hL2.fr
            have hlx3:w.heap.size<w3.heap.size:=(Array.getElem?_eq_some_iff.1 hex3).1
            have hec3:∀ j,w3.cell? ⟨w.heap.size,j,none⟩=[.int .i64 kd,.string ⟨n.toArray⟩,.string ⟨sp.toArray⟩,.string ⟨vl.toArray⟩,.slice (some ⟨g,0,none⟩) l.length c][j]? := fun j=>by simp [World.cell?,hex3]
            obtain ⟨g3,hg3,hgl3,c03,c23⟩:=unhide HAT _ _ hL2.fr i h3
            injection hg3 with hg3;injection hg3 with hg3 _ _
            subst hg3
            clear hs2 hf2 hL2 hex3 c0 c2 hec c03
            rw [← unhide HXX] at c23
            have HO:=hide (show (w3.alloc (.cells #[.int .i64 6,.string ⟨dn.toArray⟩,.string ⟨#[]⟩,.string ⟨x.val.toArray⟩,.slice none 0 0] 53)).ownsRow W.heap.size 53 5 (.slice oa D.length oc) D.length (evsRow (bindEs D)) by have h8:=(unhide HL2).row;rw [bindEs_len] at h8;exact World.ownsRow.alloc h8 _)
            have HB:=hide (show (w3.alloc (.cells #[.int .i64 6,.string ⟨dn.toArray⟩,.string ⟨#[]⟩,.string ⟨x.val.toArray⟩,.slice none 0 0] 53)).heap[w3.heap.size]? = _ from heap_alloc_new w3 _)
            have H63:=hide (show D.length + 1≤maxLen by unfold maxLen;omega)
            have hws3:=(unhide HL2).fr.size
            have HBB:=hide (show W.heap.size≤(w3.alloc (.cells #[.int .i64 6,.string ⟨dn.toArray⟩,.string ⟨#[]⟩,.string ⟨x.val.toArray⟩,.slice none 0 0] 53)).heap.size by simp;omega)
            go_wp2_with (at_builtin;refine wpList_append_lies _ rfl (.tmp 67) (.tmp 76) 35 rfl W.heap.size 53 i0 _ 5 80 Tryz.underlying35 hi hz0 hz1 hz2 rfl (by decide) (.slice oa D.length oc) D.length (evsRow (bindEs D)) (by simp [Act.eval]) (unhide HO) ⟨w3.heap.size,0,none⟩ 1 1 [.int .i64 6,.string ⟨dn.toArray⟩,.string ⟨#[]⟩,.string ⟨x.val.toArray⟩,.slice none 0 0] (by simp [Act.eval]) rfl (World.news_of_block (unhide HB)) (by intro u hu;simp at hu;rcases hu with rfl | rfl | rfl | rfl | rfl <;> rfl) (by decide) (unhide H63) (by omega) (unhide HBB) (w3.heap.size + 1) (by simp) ?_;intro g5 cap5 w5 hown hgrow hat hlt5;have HP:=hide (OpL.push (unhide HL2) (x:=((⟨6,dn,[],x.val,[]⟩:Ev),Value.slice none 0 0)) (by rw [bindEs_len];exact hown) hgrow (by simpa using hat));clear hown hgrow hat)
            go_roundg (l.length - (i + 1))
            case measure=>omega
            case rel =>
              have h6:=unhide HP
              rw [← (bindEs_snoc D (dn,x.val):bindEs (D ++ [(dn,x.val)])=bindEs D ++ [((⟨6,dn,[],x.val,[]⟩:Ev),Value.slice none 0 0)]),bindEs_len] at h6
              exact ⟨i + 1,D ++ [(dn,x.val)],L2,some ⟨g5,0,none⟩,cap5,by omega,rfl,by simp,by simp,by simp;omega,by show OpL _ _ _ _ _ _ _ _ _ _;simpa using h6,unhide HF⟩
    · have e1:decide ((i:Int)<(l.length:Int))=false:=by simp;omega
      have hf:=unhide HA
      rw [List.drop_of_length_le (by omega)] at hf
      have hf:ANS=some D:=hf
      have hop:opGo l []=some D:=by rw [← hf];exact (unhide HAN2).symm
      have hgD:GoodB D:=opGo_good l [] D hop (fun x hx=>by cases hx)
      have hqa:=opGo_qual l [] D hop
      have hgbD:GoodB (bs ++ D):=fun x hx=>by
        rcases List.mem_append.1 hx with hx | hx
        · exact unhide HGB x hx
        · exact hgD x hx
      have hfin:=unhide HFN
      rw [hf] at hfin
      dsimp only at hfin
      rw [look_bound hgbD] at hfin
      have HFIN:=hide hfin
      have HGD:=hide hgbD
      have HQA:=hide hqa
      have hsc:=(unhide HL).sc
      have hcx:=hsc.cells
      simp only [List.length_map,List.length_append] at hcx
      have hbx:=BR.lt hsc
      clear hf hop hgD hqa hgbD hfin HA hex
      have hsub:(bs.length:Int) + (D.length:Int) - (bs.length:Int)=(D.length:Int):=by omega
      have hwp:IntKind.i64.wrap (D.length:Int)=(D.length:Int):=by rw [IntKind.wrap_i64];omega
      have hA:ScK n0 (wr.alloc (.cells #[.int .i64 (D.length:Int)] 3)).drew b ((bs ++ D).map (·.1)) ((bs ++ D).map (·.2)) ms L1:=BR.keep (BR.below hsc ((Below.refl _ _).alloc (Nat.le_refl _) _)) fun k _=>rfl
      have HA2:=hide hA
      have HO:=hide hA.rm
      have HB:=hide (show (wr.alloc (.cells #[.int .i64 (D.length:Int)] 3)).drew.heap[wr.heap.size]? = _ from heap_alloc_new wr _)
      have H63:=hide (show ms.length + 1≤maxLen by unfold maxLen;omega)
      have hwn:n0≤wr.heap.size:=by have:=hsc.hb;omega
      have HBB:=hide (show n0≤(wr.alloc (.cells #[.int .i64 (D.length:Int)] 3)).drew.heap.size by simp;omega)
      clear hA hsc
      go_wp2_with fail
      go_region_law (refine step_append_lies _ rfl (.tmp 84) (.tmp 92) 28 rfl n0 3 j0 _ 1 8 Tryz.underlying28 ji jz0 jz1 jz2 rfl (by decide) (.slice L1.ma ms.length L1.mc) ms.length (ms.map nv) (by simp [Act.eval]) (unhide HO) ⟨wr.heap.size,0,none⟩ 1 1 [.int .i64 (D.length:Int)] (by simp [Act.eval]) rfl (World.news_of_block (unhide HB)) (by intro u hu;simp at hu;subst hu;rfl) (by decide) (unhide H63) (by omega) (unhide HBB) (wr.heap.size + 1) (by simp) ?_;intro g5 cap5 w5 hown hgrow hat hlt5;obtain ⟨hr5,hfr5,hbl5⟩:=BR.after (unhide HA2) (r:=mRow ms L1) (by simp [scRows]) hgrow;unfold scCells at hr5)
      all_goals
        have HP:=hide (ScK.pushM (unhide HA2) D.length hown hgrow (by simpa using hat))
        clear hown hgrow hat
        obtain ⟨w6,hw6⟩:∃ w6,w6=w5.setCell ⟨b,2,none⟩ (.slice (some ⟨g5,0,none⟩) (ms.length + 1) cap5):=⟨_,rfl⟩
        have hL6:OpL n0 W w6 b f0 (bs ++ D) (ms ++ [D.length]) { L1 with ma:=some ⟨g5,0,none⟩,mc:=cap5 } (bindEs D) (.slice oa D.length oc):=by
          rw [hw6]
          exact (unhide HL).scope (unhide HP).1 ((Fr.alloc _ _ _ _).trans ((Fr.drew _ _ _).trans (unhide HP).2))
        have HL6:=hide hL6
        have hex6:=unhide HE _ _ hL6.fr
        have hlx6:w.heap.size<w6.heap.size:=(Array.getElem?_eq_some_iff.1 hex6).1
        have hec6:∀ j,w6.cell? ⟨w.heap.size,j,none⟩=[.int .i64 kd,.string ⟨n.toArray⟩,.string ⟨sp.toArray⟩,.string ⟨vl.toArray⟩,.slice a l.length c][j]? := fun j=>by simp [World.cell?,hex6]
        have hec7:=hec6
        have hlx7:=hlx6
        rw [hw6] at hec6 hlx6
        have HW6:=hide hw6
        have HHn:=hide (fun w=>halves_any n hn w)
        have hblD:(bs ++ D).length≤1000000000:=by simp;omega
        have HLk:=hide (fun (m:Nat) p=>lookup_any ((unhide HL6).drew m).sc hblD p)
        clear hL6 hex6 hec hw6
        cases hqn:Mk.isQualified n
        · rw [hv_not hqn] at HHn
          have hfin:FIN=none:=by rw [unhide HFIN,hqn];rfl
          have HFI:=hide hfin
          clear hfin
          go_wp2_with (first | (go_at_call 64;rw [← unhide HW6];refine (unhide HHn _).mono ?_;rintro e w7 ⟨rfl,n7,rfl⟩) | (go_at_call 67;refine (unhide HLk _ _).mono ?_;rintro e w7 ⟨rfl,n8,rfl⟩))
          go_ret2
          exact .inl ⟨unhide HFI,⟨_,rfl⟩,((unhide HFR).trans ((unhide HL6).drew (n7 + n8)).fr).sub (fun k hk=>by cases hk)⟩
        · rw [hv_yes hqn] at HHn
          have hfin:=unhide HFIN
          rw [hqn] at hfin
          simp only [Bool.not_true,Bool.false_eq_true,if_false] at hfin
          cases hbd:lkB (bs ++ D) (Mk.prefixOf n)
          · rw [hbd] at hfin
            simp only [Bool.not_false,if_true] at hfin
            have HFI:=hide hfin
            clear hfin
            have HLk2:=hide (fun (m:Nat)=>unhide HLk m (Mk.prefixOf n))
            rw [hbd] at HLk2
            go_wp2_with (first | (go_at_call 64;rw [← unhide HW6];refine (unhide HHn _).mono ?_;rintro e w7 ⟨rfl,n7,rfl⟩) | (go_at_call 67;refine (unhide HLk2 _).mono ?_;rintro e w7 ⟨rfl,n8,rfl⟩))
            go_ret2
            exact .inl ⟨unhide HFI,⟨_,rfl⟩,((unhide HFR).trans ((unhide HL6).drew (n7 + n8)).fr).sub (fun k hk=>by cases hk)⟩
          · rw [hbd] at hfin
            simp only [Bool.not_true,Bool.false_eq_true,if_false] at hfin
            have hnx:(Mk.prefixOf n == [120,109,108,110,115])=false:=by
              cases hx:(Mk.prefixOf n == Mk.wXmlns)
              · exact hx
              · have hx1:Mk.prefixOf n=Mk.wXmlns:=by simpa using hx
                rw [hx1,look_xmlns (unhide HGD)] at hbd
                cases hbd
            have HFI:=hide hfin
            have HLk2:=hide (fun (m:Nat)=>unhide HLk m (Mk.prefixOf n))
            rw [hbd] at HLk2
            have HAt:=hide (fun (m:Nat)=>attributes_any (c:=c) ((unhide HL6).drew m).sc (unhide HGD) hblD (unhide HAT _ _ ((unhide HL6).drew m).fr) (fun x hx=>⟨unhide HQA x hx,unhide HQ x hx⟩) hll)
            clear hfin hbd
            go_wp2_with (first | (go_at_call 64;rw [← unhide HW6];refine (unhide HHn _).mono ?_;rintro e w7 ⟨rfl,n7,rfl⟩) | (go_at_call 67;refine (unhide HLk2 _).mono ?_;rintro e w7 ⟨rfl,n8,rfl⟩))
            refine (unhide HAt _).mono ?_
            rintro e w8 ⟨hb8,hcase⟩
            obtain ⟨M,hM⟩:∃ M,M=w6.drewN (n7 + n8):=⟨_,rfl⟩
            rw [← hM] at hb8 hcase
            have hL7:OpL n0 W M b f0 (bs ++ D) (ms ++ [D.length]) { L1 with ma:=some ⟨g5,0,none⟩,mc:=cap5 } (bindEs D) (.slice oa D.length oc):=by rw [hM];exact (unhide HL6).drew _
            have hL8:OpL n0 W w8 b f0 (bs ++ D) (ms ++ [D.length]) { L1 with ma:=some ⟨g5,0,none⟩,mc:=cap5 } (bindEs D) (.slice oa D.length oc):=hL7.scope (BR.below hL7.sc hb8) ⟨hb8.os,hb8.tape,hb8.output,hb8.size,fun k hk _ _=>hb8.block k hk,fun k hk => .inl hk⟩
            have HL8:=hide hL8
            have hex8:=unhide HE _ _ hL8.fr
            have hlx8:w.heap.size<w8.heap.size:=(Array.getElem?_eq_some_iff.1 hex8).1
            have hec8:∀ j,w8.cell? ⟨w.heap.size,j,none⟩=[.int .i64 kd,.string ⟨n.toArray⟩,.string ⟨sp.toArray⟩,.string ⟨vl.toArray⟩,.slice a l.length c][j]? := fun j=>by simp [World.cell?,hex8]
            have hML:=hL7.row
            have hMs:∀ k,(Value.slice oa D.length oc).ownBlock=some k→k<M.heap.size:=fun k hk=>(World.ownsRow.lt hML k hk).2
            have hbM:b<M.heap.size∧∀ k ∈ scF ((bs ++ D).map (·.1)) ((bs ++ D).map (·.2)) (ms ++ [D.length]) { L1 with ma:=some ⟨g5,0,none⟩,mc:=cap5 },k<M.heap.size:=⟨BR.lt hL7.sc,fun k hk=>(hL7.sc.rows.lt k hk).2⟩
            have HMX:=hide (And.intro hMs hbM)
            have HWM:=hide hL7.fr.size
            clear hL7 hL8 hex8 hec6 hec7 hML hMs hbM hM
            rcases hcase with ⟨hr,rfl⟩ | ⟨r,v8,hr,rfl,hown8⟩
            · have hfin:=unhide HFI
              rw [hr] at hfin
              have hfin:FIN=none:=hfin
              have HF2:=hide hfin
              clear hfin hr
              have HO:=hide (show (w8.alloc (.cells #[.int .i64 1,.string ⟨n.toArray⟩,.string ⟨(lkS (bs ++ D) (Mk.prefixOf n)).toArray⟩,.string ⟨#[]⟩,.slice none 0 0] 53)).ownsRow W.heap.size 53 5 (.slice oa D.length oc) D.length (evsRow (bindEs D)) by have h8:=(unhide HL8).row;rw [bindEs_len] at h8;exact World.ownsRow.alloc h8 _)
              have HB:=hide (show (w8.alloc (.cells #[.int .i64 1,.string ⟨n.toArray⟩,.string ⟨(lkS (bs ++ D) (Mk.prefixOf n)).toArray⟩,.string ⟨#[]⟩,.slice none 0 0] 53)).heap[w8.heap.size]? = _ from heap_alloc_new w8 _)
              have H63:=hide (show D.length + 1≤maxLen by unfold maxLen;omega)
              have hws8:=(unhide HL8).fr.size
              have HBB:=hide (show W.heap.size≤(w8.alloc (.cells #[.int .i64 1,.string ⟨n.toArray⟩,.string ⟨(lkS (bs ++ D) (Mk.prefixOf n)).toArray⟩,.string ⟨#[]⟩,.slice none 0 0] 53)).heap.size by simp;omega)
              go_wp2_with (at_builtin;refine wpList_append_lies _ rfl (.tmp 126) (.tmp 132) 35 rfl W.heap.size 53 i0 _ 5 80 Tryz.underlying35 hi hz0 hz1 hz2 rfl (by decide) (.slice oa D.length oc) D.length (evsRow (bindEs D)) (by simp [Act.eval]) (unhide HO) ⟨w8.heap.size,0,none⟩ 1 1 [.int .i64 1,.string ⟨n.toArray⟩,.string ⟨(lkS (bs ++ D) (Mk.prefixOf n)).toArray⟩,.string ⟨#[]⟩,.slice none 0 0] (by simp [Act.eval]) rfl (World.news_of_block (unhide HB)) (by intro u hu;simp at hu;rcases hu with rfl | rfl | rfl | rfl | rfl <;> rfl) (by decide) (unhide H63) (by omega) (unhide HBB) (w8.heap.size + 1) (by simp) ?_;intro g9 cap9 w9 hown hgrow hat hlt9;have HP:=hide (OpL.push (unhide HL8) (x:=((⟨1,n,lkS (bs ++ D) (Mk.prefixOf n),[],[]⟩:Ev),.slice none 0 0)) (by rw [bindEs_len];exact hown) hgrow (by simpa using hat));clear hown hgrow hat)
              go_ret2
              exact .inl ⟨unhide HF2,⟨_,rfl⟩,((unhide HFR).trans (unhide HP).fr).sub (fun k hk=>by cases hk)⟩
            · obtain ⟨av,ac,rfl⟩:=slice_form hown8
              have hfin:=unhide HFI
              rw [hr] at hfin
              have hfin:FIN=some (⟨xmlB :: (bs ++ D),ms ++ [D.length]⟩,r):=hfin
              have HF2:=hide hfin
              have HO8:=hide hown8
              clear hfin hr hown8
              have HO:=hide (show (w8.alloc (.cells #[.int .i64 1,.string ⟨n.toArray⟩,.string ⟨(lkS (bs ++ D) (Mk.prefixOf n)).toArray⟩,.string ⟨#[]⟩,.slice av r.length ac] 53)).ownsRow W.heap.size 53 5 (.slice oa D.length oc) D.length (evsRow (bindEs D)) by have h8:=(unhide HL8).row;rw [bindEs_len] at h8;exact World.ownsRow.alloc h8 _)
              have HB:=hide (show (w8.alloc (.cells #[.int .i64 1,.string ⟨n.toArray⟩,.string ⟨(lkS (bs ++ D) (Mk.prefixOf n)).toArray⟩,.string ⟨#[]⟩,.slice av r.length ac] 53)).heap[w8.heap.size]? = _ from heap_alloc_new w8 _)
              have H63:=hide (show D.length + 1≤maxLen by unfold maxLen;omega)
              have hws8:=(unhide HL8).fr.size
              have HBB:=hide (show W.heap.size≤(w8.alloc (.cells #[.int .i64 1,.string ⟨n.toArray⟩,.string ⟨(lkS (bs ++ D) (Mk.prefixOf n)).toArray⟩,.string ⟨#[]⟩,.slice av r.length ac] 53)).heap.size by simp;omega)
              go_wp2_with (at_builtin;refine wpList_append_lies _ rfl (.tmp 126) (.tmp 132) 35 rfl W.heap.size 53 i0 _ 5 80 Tryz.underlying35 hi hz0 hz1 hz2 rfl (by decide) (.slice oa D.length oc) D.length (evsRow (bindEs D)) (by simp [Act.eval]) (unhide HO) ⟨w8.heap.size,0,none⟩ 1 1 [.int .i64 1,.string ⟨n.toArray⟩,.string ⟨(lkS (bs ++ D) (Mk.prefixOf n)).toArray⟩,.string ⟨#[]⟩,.slice av r.length ac] (by simp [Act.eval]) rfl (World.news_of_block (unhide HB)) (by intro u hu;simp at hu;rcases hu with rfl | rfl | rfl | rfl | rfl <;> rfl) (by decide) (unhide H63) (by omega) (unhide HBB) (w8.heap.size + 1) (by simp) ?_;intro g9 cap9 w9 hown hgrow hat hlt9;have HP:=hide (OpL.push (unhide HL8) (x:=((⟨1,n,lkS (bs ++ D) (Mk.prefixOf n),[],r⟩:Ev),.slice av r.length ac)) (by rw [bindEs_len];exact hown) hgrow (by simpa using hat));have HGR:=hide (And.intro hgrow hat);clear hown hgrow hat)
              go_ret2
              exact op_fin (unhide HFR) (by omega) (unhide HWM) (unhide HP) (unhide HO8) (unhide HGR).1 (unhide HGR).2 (unhide HMX) (unhide HF2) (unhide HGD)
section
variable {n0:Nat} {w w' : World} {b:Nat} {ps vs:List Bs} {ms:List Nat} {L:SLay}
theorem ScK.cutP (h:ScK n0 w b ps vs ms L) (k:Nat) (hk:k≤ps.length) :
    ScK n0 (w.setCell ⟨b,0,none⟩ (.slice L.pa k L.pc)) b (ps.take k) vs ms L∧Fr w (w.setCell ⟨b,0,none⟩ (.slice L.pa k L.pc)) b (scF ps vs ms L) (scF (ps.take k) vs ms L):=by
  have hl:(ps.take k).length=k:=by rw [List.length_take];omega
  have hsh:=own_shrink h.rp k hk
  have ho:(pRow (ps.take k) L).owned w n0:=by
    show World.ownsRow _ _ _ _ _ _ _
    unfold pRow
    dsimp only
    rw [hl,List.map_take]
    have e:(ps.map sv).take (k * 1)=(ps.map sv).take k:=by rw [Nat.mul_one]
    rw [← e];exact hsh
  have:=BR.cut h (r:=pRow ps L) (r' := pRow (ps.take k) L) (rs' := scRows (ps.take k) vs ms L) 0 (.slice L.pa k L.pc) (List.Perm.refl _) (List.Perm.refl _) ho (by unfold pRow;cases L.pa <;> rfl)
  refine ⟨?_,this.2⟩
  have h1:=this.1
  have e:(scCells ps vs ms L).set 0 (.slice L.pa k L.pc)=scCells (ps.take k) vs ms L:=by simp [scCells,hl]
  rw [e] at h1
  exact h1
theorem ScK.cutV (h:ScK n0 w b ps vs ms L) (k:Nat) (hk:k≤vs.length) :
    ScK n0 (w.setCell ⟨b,1,none⟩ (.slice L.va k L.vc)) b ps (vs.take k) ms L∧Fr w (w.setCell ⟨b,1,none⟩ (.slice L.va k L.vc)) b (scF ps vs ms L) (scF ps (vs.take k) ms L):=by
  have hl:(vs.take k).length=k:=by rw [List.length_take];omega
  have hsh:=own_shrink h.rv k hk
  have ho:(vRow (vs.take k) L).owned w n0:=by
    show World.ownsRow _ _ _ _ _ _ _
    unfold vRow
    dsimp only
    rw [hl,List.map_take]
    have e:(vs.map sv).take (k * 1)=(vs.map sv).take k:=by rw [Nat.mul_one]
    rw [← e];exact hsh
  have:=BR.cut h (r:=vRow vs L) (r' := vRow (vs.take k) L) (rs' := scRows ps (vs.take k) ms L) (rs0:=[pRow ps L,mRow ms L]) 1 (.slice L.va k L.vc) (perm2' _ _ _) (perm2' _ _ _) ho (by unfold vRow;cases L.va <;> rfl)
  refine ⟨?_,this.2⟩
  have h1:=this.1
  have e:(scCells ps vs ms L).set 1 (.slice L.va k L.vc)=scCells ps (vs.take k) ms L:=by simp [scCells,hl]
  rw [e] at h1
  exact h1
theorem ScK.cutM (h:ScK n0 w b ps vs ms L) (k:Nat) (hk:k≤ms.length) :
    ScK n0 (w.setCell ⟨b,2,none⟩ (.slice L.ma k L.mc)) b ps vs (ms.take k) L∧Fr w (w.setCell ⟨b,2,none⟩ (.slice L.ma k L.mc)) b (scF ps vs ms L) (scF ps vs (ms.take k) L):=by
  have hl:(ms.take k).length=k:=by rw [List.length_take];omega
  have hsh:=own_shrink h.rm k hk
  have ho:(mRow (ms.take k) L).owned w n0:=by
    show World.ownsRow _ _ _ _ _ _ _
    unfold mRow
    dsimp only
    rw [hl,List.map_take]
    have e:(ms.map nv).take (k * 1)=(ms.map nv).take k:=by rw [Nat.mul_one]
    rw [← e];exact hsh
  have:=BR.cut h (r:=mRow ms L) (r' := mRow (ms.take k) L) (rs' := scRows ps vs (ms.take k) L) (rs0:=[pRow ps L,vRow vs L]) 2 (.slice L.ma k L.mc) (perm3' _ _ _) (perm3' _ _ _) ho (by unfold mRow;cases L.ma <;> rfl)
  refine ⟨?_,this.2⟩
  have h1:=this.1
  have e:(scCells ps vs ms L).set 2 (.slice L.ma k L.mc)=scCells ps vs (ms.take k) L:=by simp [scCells,hl]
  rw [e] at h1
  exact h1
end
def endEs (n s:Bs) (bs:List (Bs × Bs)) (j:Nat):List (Ev × Value):=((⟨2,n,s,[],[]⟩:Ev) :: kUnbinds ((bs.drop (bs.length - j)).reverse)).map fun e=>(e,Value.slice none 0 0)
theorem endEs_len (n s:Bs) (bs:List (Bs × Bs)) (j:Nat) (hj:j≤bs.length):(endEs n s bs j).length=j + 1:=by
  simp [endEs,kUnbinds]
  omega
theorem endEs_snoc (n s:Bs) (bs:List (Bs × Bs)) (j:Nat) (hj:j<bs.length) (k:Nat) (hk:k=bs.length - (j + 1)) (hkl:k<bs.length):endEs n s bs (j + 1)=endEs n s bs j ++ [((⟨7,(bs[k]).1,[],[],[]⟩:Ev),Value.slice none 0 0)]:=by
  subst hk
  unfold endEs kUnbinds
  have e:bs.drop (bs.length - (j + 1))=bs[bs.length - (j + 1)] :: bs.drop (bs.length - j):=by
    rw [List.drop_eq_getElem_cons hkl]
    have:bs.length - (j + 1) + 1=bs.length - j:=by omega
    rw [this]
  rw [e]
  simp
theorem end_got {w9:World} {B:Nat} {l:List Ev} {v:Value} (hrow:w9.ownsRow B 53 5 v (l.map fun e=>(e,Value.slice none 0 0)).length (evsRow (l.map fun e=>(e,Value.slice none 0 0)))) (ha:∀ e ∈ l,e.attrs=[]):Got w9 v l v.ownBlock.toList:=by
  refine ⟨l.map fun e=>(e,Value.slice none 0 0),by simp [Function.comp_def],?_,fun p hp => ?_,fun k hk=>by rw [hk];simp,fun k hk => ?_⟩
  · have h1:=ownsRow_base hrow (Nat.zero_le B)
    rw [List.length_map] at h1
    exact h1
  · obtain ⟨e,he,rfl⟩:=List.mem_map.1 hp
    have:=ha e he
    exact owned_nil ⟨rfl,by simp [evRow,this],by simp [evRow,this,atsRow]⟩
  · obtain ⟨r,hr,hv2⟩:=List.mem_filterMap.1 hk
    obtain ⟨p,hp,rfl⟩:=List.mem_map.1 hr
    obtain ⟨e,he,rfl⟩:=List.mem_map.1 hp
    cases hv2
def ClK (n0:Nat) (w:World) (b:Nat) (f0:List Nat) (bs:List (Bs × Bs)) (ms0:List Nat) (m:Nat) (n:Bs) (e:Ending) (w' : World):Prop:=
  ∃ L' v fp,e = .returned (.tuple #[v,.bool true])∧ScK n0 w' b ((bs.take (bs.length - m)).map (·.1)) ((bs.take (bs.length - m)).map (·.2)) ms0 L' ∧ Fr w w' b f0 (scF ((bs.take (bs.length - m)).map (·.1)) ((bs.take (bs.length - m)).map (·.2)) ms0 L')∧Got w' v (⟨2,n,lkS bs (Mk.prefixOf n),[],[]⟩ :: kUnbinds ((bs.drop (bs.length - m)).reverse)) fp∧∀ k ∈ fp,w.heap.size≤k∧k<w'.heap.size∧k ≠ b∧k ∉ scF ((bs.take (bs.length - m)).map (·.1)) ((bs.take (bs.length - m)).map (·.2)) ms0 L'
theorem made_at {n0:Nat} {w:World} {ms:List Nat} {a:Option Addr} {c:Nat} (h:w.ownsRow n0 3 1 (.slice a ms.length c) ms.length (ms.map nv)) (k:Nat) (hk:k<ms.length):∃ g,a=some ⟨g,0,none⟩∧g<w.heap.size∧w.cell? ⟨g,k,none⟩=some (.int .i64 (ms[k]:Int)):=by
  have hrow:w.ownsRow n0 3 1 (.slice a ms.length c) ms.length (ms.flatMap fun n=>[nv n]):=by
    have e:(ms.flatMap fun n=>[nv n])=ms.map nv:=by rw [List.map_eq_flatMap]
    rw [e];exact h
  obtain ⟨g,hg,hgl,hcl⟩:=spElem (m:=1) (l:=ms) (fun n=>[nv n]) (fun _=>rfl) (by decide) hrow k hk
  refine ⟨g,hg,hgl,?_⟩
  have:=hcl 0 (by decide)
  simpa [nv] using this
theorem row_cap {w:World} {base:Nat} {e:TypeId} {size n:Nat} {a:Option Addr} {c:Nat} {xs:List Value} (h:w.ownsRow base e size (.slice a n c) n xs):n≤c:=by
  rcases h.2 with ⟨h8,h9⟩ | ⟨g', cap', cur,hv8,_,hg8,hnc,_⟩
  · omega
  · injection hv8 with _ _ h10;omega
theorem BR.frozen {n0:Nat} {w:World} {b:Nat} {ty:TypeId} {cs:List Value} {rs:List Row} (h:BR n0 w b ty cs rs) (j:Nat):w.frozen? ⟨b,j,none⟩=false:=by simp [World.frozen?,h.blk]
theorem OpL.undo {n0:Nat} {W w5:World} {b:Nat} {f0:List Nat} {bs:List (Bs × Bs)} {ms:List Nat} {L:SLay} {es:List (Ev × Value)} {ov:Value} {K j:Nat} (hK:bs.length - j=K + 1) (h:OpL n0 W w5 b f0 (bs.take (bs.length - j)) ms L es ov):OpL n0 W ((w5.setCell ⟨b,0,none⟩ (.slice L.pa K L.pc)).setCell ⟨b,1,none⟩ (.slice L.va K L.vc)) b f0 (bs.take (bs.length - (j + 1))) ms L es ov:=by
  have hl:(bs.take (bs.length - j)).length=K + 1:=by rw [List.length_take];omega
  have h1:=h.sc.cutP K (by rw [List.length_map];omega)
  have h2:=h1.1.cutV K (by rw [List.length_map];omega)
  have e:∀ f:Bs × Bs→Bs,((bs.take (bs.length - j)).map f).take K=(bs.take (bs.length - (j + 1))).map f:=fun f=>by
    rw [← List.map_take,List.take_take]
    have:min K (bs.length - j)=bs.length - (j + 1):=by omega
    rw [this]
  rw [e,e] at h2
  rw [e] at h1
  exact h.scope h2.1 (h1.2.trans h2.2)
theorem cl_fin {n0:Nat} {w W wr:World} {b:Nat} {f0:List Nat} {bs:List (Bs × Bs)} {ms0:List Nat} {m:Nat} {L:SLay} {oa:Option Addr} {oc:Nat} {n:Bs} (hFR:Fr w W b f0 f0) (hWs:w.heap.size≤W.heap.size) (hm:m≤bs.length) (h:OpL n0 W wr b f0 (bs.take (bs.length - m)) (ms0 ++ [m]) L (endEs n (lkS bs (Mk.prefixOf n)) bs m) (.slice oa (m + 1) oc)) :
    ClK n0 w b f0 bs ms0 m n (.returned (.tuple #[.slice oa (m + 1) oc,.bool true])) (wr.setCell ⟨b,2,none⟩ (.slice L.ma ms0.length L.mc)):=by
  have h1:=h.sc.cutM ms0.length (by simp)
  have e:(ms0 ++ [m]).take ms0.length=ms0:=by simp
  rw [e] at h1
  have h2:=h.scope h1.1 h1.2
  refine ⟨L,.slice oa (m + 1) oc,(Value.slice oa (m + 1) oc).ownBlock.toList,rfl,h2.sc,hFR.trans h2.fr,?_,fun k hk => ?_⟩
  · refine end_got (B:=W.heap.size) ?_ ?_
    · exact h2.row
    · intro x hx
      rcases List.mem_cons.1 hx with rfl | hx
      · rfl
      · unfold kUnbinds at hx
        obtain ⟨y,_,rfl⟩:=List.mem_map.1 hx
        rfl
  · have hk:(Value.slice oa (m + 1) oc).ownBlock=some k:=by simpa using hk
    have h3:=World.ownsRow.lt h2.row k hk
    have h4:=h2.ap k hk
    exact ⟨by omega,h3.2,h4.1,h4.2⟩
set_option maxHeartbeats 8000000 in
set_option maxRecDepth 100000 in
theorem closes_any {n0:Nat} {w:World} {b:Nat} {bs:List (Bs × Bs)} {ms0:List Nat} {m:Nat} {L:SLay} (h:ScK n0 w b (bs.map (·.1)) (bs.map (·.2)) (ms0 ++ [m]) L) (hm:m≤bs.length) (hl:bs.length≤900000000) (hml:ms0.length≤900000000) {a:Option Addr} {c l:Nat} (kd:Int) (n sp vl:Bs) (hn:n.length≤100000000) (hqn:Mk.isQualified n=true) :
    Calls Tryz.prog 51 #[.pointer (some ⟨b,0,none⟩),.agg #[.int .i64 kd,.string ⟨n.toArray⟩,.string ⟨sp.toArray⟩,.string ⟨vl.toArray⟩,.slice a l c]] w (ClK n0 w b (scF (bs.map (·.1)) (bs.map (·.2)) (ms0 ++ [m]) L) bs ms0 m n):=by
  obtain ⟨f0,hf0⟩:∃ f0,f0=scF (bs.map (·.1)) (bs.map (·.2)) (ms0 ++ [m]) L:=⟨_,rfl⟩
  rw [← hf0]
  have hlt:=h.lt
  have hn0:=h.hb
  obtain ⟨W,hW⟩:∃ W,W=w.alloc (.cells #[.int .i64 kd,.string ⟨n.toArray⟩,.string ⟨sp.toArray⟩,.string ⟨vl.toArray⟩,.slice a l c] 53 (0,0)):=⟨_,rfl⟩
  have hbW:Below w.heap.size w W:=by rw [hW];exact (Below.refl _ _).alloc (Nat.le_refl _) _
  have hWx:W.heap[w.heap.size]? = some (.cells #[.int .i64 kd,.string ⟨n.toArray⟩,.string ⟨sp.toArray⟩,.string ⟨vl.toArray⟩,.slice a l c] 53 (0,0)):=by rw [hW];exact heap_alloc_new w _
  have hWs:W.heap.size=w.heap.size + 1:=by rw [hW];simp
  have hscW:ScK n0 W b (bs.map (·.1)) (bs.map (·.2)) (ms0 ++ [m]) L:=BR.below h hbW
  have hf0l:∀ k ∈ f0,k<w.heap.size:=fun k hk=>by rw [hf0] at hk;exact (h.rows.lt k hk).2
  have hL0:OpL n0 W W b f0 bs (ms0 ++ [m]) L [] (.slice none 0 0):=
    ⟨hscW,by rw [← hf0];exact Fr.refl _ _ _,owned_nil (r:=⟨53,5,.slice none 0 0,0,[]⟩) ⟨rfl,rfl,rfl⟩,fun k hk=>by cases hk⟩
  have HL0:=hide hL0
  have HE:=hide (fun (w' : World) (f' : List Nat) (hf:Fr W w' b f0 f')=>show w'.heap[w.heap.size]? = _ from (hf.block _ (by omega) (by omega) (fun hm=>by have:=hf0l _ hm;omega)).trans hWx)
  have HFR:=hide (show Fr w W b f0 f0 by rw [hW];exact Fr.alloc _ _ _ _)
  have hc:=hscW.cells
  simp only [List.length_map,List.length_append,List.length_cons,List.length_nil,Nat.zero_add] at hc
  obtain ⟨i0,hi,hz0,hz1,hz2⟩:=info_parts infoEv
  have hWc:∀ j,W.cell? ⟨w.heap.size,j,none⟩=[.int .i64 kd,.string ⟨n.toArray⟩,.string ⟨sp.toArray⟩,.string ⟨vl.toArray⟩,.slice a l c][j]? := fun j=>by simp [World.cell?,hWx]
  have hbl:b<W.heap.size:=by omega
  have hlW:w.heap.size<W.heap.size:=by omega
  have HW:=hide hW
  have HHn:=hide (fun w=>halves_any n hn w)
  rw [hv_yes hqn] at HHn
  have HLk:=hide (fun (k:Nat)=>lookup_any ((unhide HL0).drew k).sc (by omega) (Mk.prefixOf n))
  obtain ⟨gm,hgm,hgml,hcm⟩:=made_at hscW.rm ms0.length (by simp)
  have e0:(((ms0.length + 1:Nat):Int) == 0)=false:=by simp;omega
  have e0' : ((ms0.length:Int) + 1 == 0)=false:=by simp;omega
  have hcA:=hc
  rw [hW] at hcA
  have hlA:b<(w.alloc (.cells #[.int .i64 kd,.string ⟨n.toArray⟩,.string ⟨sp.toArray⟩,.string ⟨vl.toArray⟩,.slice a l c] 53 (0,0))).heap.size:=by simp;omega
  have hWA:=hWc
  rw [hW] at hWA
  have hlA2:w.heap.size<(w.alloc (.cells #[.int .i64 kd,.string ⟨n.toArray⟩,.string ⟨sp.toArray⟩,.string ⟨vl.toArray⟩,.slice a l c] 53 (0,0))).heap.size:=by simp
  have HOz:Hid (∀ k,((W.drewN k).alloc (.cells #[.int .i64 2,.string ⟨n.toArray⟩,.string ⟨(lkS bs (Mk.prefixOf n)).toArray⟩,.string ⟨#[]⟩,.slice none 0 0] 53)).ownsRow W.heap.size 53 5 (.slice none 0 0) 0 []):=fun k=>World.ownsRow.alloc (owned_drewN (unhide HL0).row k) _
  have HBz:Hid (∀ k,((W.drewN k).alloc (.cells #[.int .i64 2,.string ⟨n.toArray⟩,.string ⟨(lkS bs (Mk.prefixOf n)).toArray⟩,.string ⟨#[]⟩,.slice none 0 0] 53)).heap[W.heap.size]? = some (.cells #[.int .i64 2,.string ⟨n.toArray⟩,.string ⟨(lkS bs (Mk.prefixOf n)).toArray⟩,.string ⟨#[]⟩,.slice none 0 0] 53 (0,0))):=fun k=>heap_alloc_new (W.drewN k) _
  have HWs:=hide hWs
  have hbl' : b<W.heap.size:=by omega
  have hrowm:=hscW.rm
  have HCM:=hide (And.intro hgml hcm)
  clear h hbW hWx hscW hL0 hf0 hW hWs hlA2 hlA hgml hcm hrowm
  rw [hgm] at hc hcA
  have HGM:=hide hgm
  have hlA:b<(w.alloc (.cells #[.int .i64 kd,.string ⟨n.toArray⟩,.string ⟨sp.toArray⟩,.string ⟨vl.toArray⟩,.slice a l c] 53 (0,0))).heap.size:=by simp;omega
  have hlA2:w.heap.size<(w.alloc (.cells #[.int .i64 kd,.string ⟨n.toArray⟩,.string ⟨sp.toArray⟩,.string ⟨vl.toArray⟩,.slice a l c] 53 (0,0))).heap.size:=by simp
  clear hgm
  go_enter Tryz.func51,Tryz.ntmps51
  go_wp2_with (first | (go_at_call 64;rw [← unhide HW];refine (unhide HHn _).mono ?_;rintro e w7 ⟨rfl,n7,rfl⟩) | (go_at_call 67;refine (unhide HLk _).mono ?_;rintro e w7 ⟨rfl,n8,rfl⟩) | (at_builtin;refine wpList_append_lies _ rfl (.tmp 34) (.tmp 39) 35 rfl W.heap.size 53 i0 _ 5 80 Tryz.underlying35 hi hz0 hz1 hz2 rfl (by decide) (.slice none 0 0) 0 [] (by simp [Act.eval]) (unhide HOz _) ⟨W.heap.size,0,none⟩ 1 1 [.int .i64 2,.string ⟨n.toArray⟩,.string ⟨(lkS bs (Mk.prefixOf n)).toArray⟩,.string ⟨#[]⟩,.slice none 0 0] (by simp [Act.eval]) rfl (World.news_of_block (unhide HBz _)) (by intro u hu;simp at hu;rcases hu with rfl | rfl | rfl | rfl | rfl <;> rfl) (by decide) (by unfold maxLen;decide) (by decide) (by simp) (W.heap.size + 1) (by simp) ?_;intro g5 cap5 w5 hown hgrow hat hlt5;have hL5:OpL n0 W w5 b f0 bs (ms0 ++ [m]) L (endEs n (lkS bs (Mk.prefixOf n)) bs 0) (.slice (some ⟨g5,0,none⟩) 1 cap5):=(by have h9:=OpL.push ((unhide HL0).drew _) (x:=((⟨2,n,lkS bs (Mk.prefixOf n),[],[]⟩:Ev),Value.slice none 0 0)) hown hgrow (by simpa using hat);simpa [endEs,kUnbinds] using h9);have HL5:=hide hL5;have hcb5:=hL5.sc.cells;simp only [List.length_map,List.length_append,List.length_cons,List.length_nil,Nat.zero_add] at hcb5;rw [unhide HGM] at hcb5;have hbl5:=BR.lt hL5.sc;obtain ⟨gm5,hgm5,hgml5,hcm5⟩:=made_at hL5.sc.rm ms0.length (by simp);rw [unhide HGM] at hgm5;injection hgm5 with hgm5;injection hgm5 with hgm5 _ _;subst hgm5;simp only [List.getElem_append_right (Nat.le_refl _),Nat.sub_self,List.getElem_cons_zero] at hcm5;clear hown hgrow hat hL5))
  obtain ⟨S,hS⟩:∃ S,S=lkS bs (Mk.prefixOf n):=⟨_,rfl⟩
  rw [← hS] at HL5
  go_loopg [6,13] m (fun g s6 s13 wx=>∃ (j:Nat) (oa:Option Addr) (oc:Nat),j≤m∧g=m - j∧s6 = .slice oa (j + 1) oc∧s13 = .int .i64 ((m - j:Nat):Int)∧Hid (OpL n0 W wx b f0 (bs.take (bs.length - j)) (ms0 ++ [m]) L (endEs n S bs j) (.slice oa (j + 1) oc)))
  case atStart=>exact ⟨0,_,_,by omega,rfl,rfl,rfl,by show OpL _ _ _ _ _ _ _ _ _ _;rw [Nat.sub_zero,List.take_length];exact unhide HL5⟩
  case round =>
    obtain ⟨j,oa,oc,hj,rfl,rfl,rfl,HL⟩:=hrel
    clear HL5 hcb5 hc hcA hWA hWc hcm5
    have hsc:=(unhide HL).sc
    have hcb:=hsc.cells
    have hbl1:=BR.lt hsc
    by_cases hlt2:j<m
    · obtain ⟨q,hq⟩:∃ q,m - j=q + 1:=⟨m - j - 1,by omega⟩
      obtain ⟨K,hK⟩:∃ K,bs.length - j=K + 1:=⟨bs.length - j - 1,by omega⟩
      have hKl:(bs.take (bs.length - j)).length=K + 1:=by rw [List.length_take];omega
      have hKb:K<bs.length:=by omega
      rw [hq]
      simp only [List.length_map,List.length_append,List.length_cons,List.length_nil,Nat.zero_add,hKl] at hcb
      rw [unhide HGM] at hcb
      have f1:decide ((0:Int)<((q + 1:Nat):Int))=true:=by first | (simp;done) | (simp;omega)
      have f2:decide ((0:Int)<(q:Int) + 1)=true:=by first | (simp;done) | (simp;omega)
      obtain ⟨gp,hgp,hgpl,hcp0⟩:=row_at hsc.rp K (by rw [List.length_map];omega)
      obtain ⟨gv,hgv,hgvl,hcv⟩:=row_at hsc.rv K (by rw [List.length_map];omega)
      have hcp:wr.cell? ⟨gp,K,none⟩=some (.string ⟨(bs[K]).1.toArray⟩):=by simpa using hcp0
      clear hcp0
      rw [hgp,hgv] at hcb
      have HGP:=hide (And.intro hgp hgv)
      have k1:((K:Int) + 1) - 1=(K:Int):=by omega
      have hcapp:K≤L.pc∧K≤L.vc:=by
        have h1:((bs.take (bs.length - j)).map (·.1)).length≤L.pc:=row_cap hsc.rp
        have h2:((bs.take (bs.length - j)).map (·.2)).length≤L.vc:=row_cap hsc.rv
        rw [List.length_map,hKl] at h1 h2
        omega
      have hj1:j<bs.length:=by omega
      have HO:=hide (show (wr.alloc (.cells #[.int .i64 7,.string ⟨(bs[K]).1.toArray⟩,.string ⟨#[]⟩,.string ⟨#[]⟩,.slice none 0 0] 53)).ownsRow W.heap.size 53 5 (.slice oa (j + 1) oc) (j + 1) (evsRow (endEs n S bs j)) by have h8:=(unhide HL).row;rw [endEs_len _ _ _ _ (by omega)] at h8;exact World.ownsRow.alloc h8 _)
      have HB:=hide (show (wr.alloc (.cells #[.int .i64 7,.string ⟨(bs[K]).1.toArray⟩,.string ⟨#[]⟩,.string ⟨#[]⟩,.slice none 0 0] 53)).heap[wr.heap.size]? = _ from heap_alloc_new wr _)
      have H63:=hide (show j + 1 + 1≤maxLen by unfold maxLen;omega)
      have hwsr:=(unhide HL).fr.size
      have HBB:=hide (show W.heap.size≤(wr.alloc (.cells #[.int .i64 7,.string ⟨(bs[K]).1.toArray⟩,.string ⟨#[]⟩,.string ⟨#[]⟩,.slice none 0 0] 53)).heap.size by simp;omega)
      obtain ⟨px,hpx⟩:∃ px,px=(bs[K]).1:=⟨_,rfl⟩
      rw [← hpx] at HO HB HBB hcp
      have HPX:=hide hpx
      have HKK:=hide hK
      clear hgp hgv hcv hsc hpx
      go_wp2_with (at_builtin;refine wpList_append_lies _ rfl (.tmp 64) (.tmp 73) 35 rfl W.heap.size 53 i0 _ 5 80 Tryz.underlying35 hi hz0 hz1 hz2 rfl (by decide) (.slice oa (j + 1) oc) (j + 1) (evsRow (endEs n S bs j)) (by simp [Act.eval]) (unhide HO) ⟨wr.heap.size,0,none⟩ 1 1 [.int .i64 7,.string ⟨px.toArray⟩,.string ⟨#[]⟩,.string ⟨#[]⟩,.slice none 0 0] (by simp [Act.eval]) rfl (World.news_of_block (unhide HB)) (by intro u hu;simp at hu;rcases hu with rfl | rfl | rfl | rfl | rfl <;> rfl) (by decide) (unhide H63) (by omega) (unhide HBB) (wr.heap.size + 1) (by simp) ?_;intro g6 cap6 w6 hown hgrow hat hlt6;have hL6:=OpL.push (unhide HL) (x:=((⟨7,px,[],[],[]⟩:Ev),Value.slice none 0 0)) (by rw [endEs_len _ _ _ _ (by omega)];exact hown) hgrow (by simpa using hat);have HP:=hide hL6;have hcb6:=hL6.sc.cells;have hfr6:=BR.frozen hL6.sc;have hbl6:=BR.lt hL6.sc;simp only [List.length_map,List.length_append,List.length_cons,List.length_nil,Nat.zero_add,hKl] at hcb6;rw [unhide HGM,(unhide HGP).1,(unhide HGP).2] at hcb6;clear hown hgrow hat hL6)
      go_roundg (m - (j + 1))
      case measure=>omega
      case rel =>
        have h6:=OpL.undo (unhide HKK) (unhide HP)
        rw [endEs_len _ _ _ _ (by omega)] at h6
        have e7:=endEs_snoc n S bs j hj1 K (by have:=unhide HKK;omega) hKb
        rw [← unhide HPX] at e7
        rw [← e7] at h6
        rw [(unhide HGP).1,(unhide HGP).2] at h6
        exact ⟨j + 1,some ⟨g6,0,none⟩,cap6,by omega,rfl,rfl,by go_num,h6⟩
    · obtain rfl:j=m:=by omega
      have f1:decide ((0:Int)<((j - j:Nat):Int))=false:=by simp
      have hcm2:ms0.length≤L.mc:=by
        have h1:(ms0 ++ [j]).length≤L.mc:=row_cap hsc.rm
        simp at h1
        omega
      have hKl:(bs.take (bs.length - j)).length=bs.length - j:=by rw [List.length_take];omega
      have hfr7:=BR.frozen hsc
      simp only [List.length_map,List.length_append,List.length_cons,List.length_nil,Nat.zero_add,hKl] at hcb
      rw [unhide HGM] at hcb
      have hfin:=cl_fin (unhide HFR) (by have:W.heap.size=w.heap.size + 1:=unhide HWs;omega) hm (by rw [← hS];exact unhide HL)
      rw [unhide HGM] at hfin
      have HFIN:=hide hfin
      clear hsc hfin
      go_wp2
      go_ret2
      exact unhide HFIN
theorem sh1_inv {h h' : Sh} {e:Ev} (hs:sh1 h e=some h'):¬ (e.kind=3∧h.pt=true)∧∃ o,stk1 h.opn e=some o∧(Names e.attrs).Nodup∧h' = ⟨o,max h.dep o.length,max h.att e.attrs.length,max h.tok (longE e),if e.kind=1∧h.opn=[] then h.out + 1 else h.out,decide (e.kind=3)⟩:=by
  unfold sh1 at hs
  split at hs
  · cases hs
  · rename_i hn
    split at hs
    · cases hs
    · rename_i o ho
      split at hs
      · rename_i hd
        cases hs
        exact ⟨hn,o,ho,hd,rfl⟩
      · cases hs
theorem shs_cons (h:Sh) (e:Ev) (r:List Ev):shs h (e :: r)=match sh1 h e with | none=>none | some h' => shs h' r:=rfl
theorem Got.cap {w:World} {a:Option Addr} {c:Nat} {l:List Ev} {fp:List Nat} (hg:Got w (.slice a l.length c) l fp):l.length≤c:=by
  obtain ⟨es,hl,ho,ha,_,_⟩:=hg.ex
  rcases ho.2 with ⟨h1,h2⟩ | ⟨g,cap,cur,h1,_,_,h3,_⟩
  · omega
  · injection h1 with _ _ h4;omega
def GE (w:World) (v:Value) (l:List Ev) (fp:List Nat) (es:List (Ev × Value)):Prop:=es.map (·.1)=l∧w.ownsRow 0 53 5 v l.length (evsRow es)∧(∀ p ∈ es,(evRow p).owned w 0)∧(∀ k,v.ownBlock=some k→k ∈ fp)∧(∀ k ∈ blks (es.map evRow),k ∈ fp∧v.ownBlock ≠ some k)
theorem Got.cat {w w1:World} {ov mv:Value} {acc m:List Ev} {fp fp2:List Nat} {es es2:List (Ev × Value)} (h1:GE w ov acc fp es) (h2:GE w mv m fp2 es2) (hd:∀ k,ov.ownBlock=some k→k ∉ fp2) (hlt:∀ k ∈ fp,k<w.heap.size) (hlt2:∀ k ∈ fp2,k<w.heap.size)
    {g cap:Nat} (hown:w1.ownsRow 0 53 5 (.slice (some ⟨g,0,none⟩) (acc.length + m.length) cap) (acc.length + m.length) (evsRow es ++ evsRow es2)) (hgr:w.grownBy w1 ov.ownBlock) (hat:ov.ownBlock=some g∨g=w.heap.size) :
    Got w1 (.slice (some ⟨g,0,none⟩) (acc.length + m.length) cap) (acc ++ m) (g :: (fp ++ fp2)):=by
  obtain ⟨e1,r1,a1,f1,b1⟩:=h1
  obtain ⟨e2,r2,a2,f2,b2⟩:=h2
  have ho:=hown
  have hkeep:∀ r:Row,r.owned w 0→(∀ k,r.v.ownBlock=some k→ov.ownBlock ≠ some k)→r.owned w1 0:=fun r hr hne =>
    owned_keep hr fun k hk=>hgr.block k (hr.lt k hk).2 fun e=>hne k hk e.symm
  have hng:∀ k,k<w.heap.size→ov.ownBlock ≠ some k→g ≠ k:=fun k hk hne e=>by
    subst e
    rcases hat with h | h
    · exact hne h
    · omega
  refine ⟨es ++ es2,by simp [e1,e2],?_,fun p hp => ?_,fun k hk => ?_,fun k hk => ?_⟩
  · have e:evsRow (es ++ es2)=evsRow es ++ evsRow es2:=by simp [evsRow]
    rw [e,List.length_append];exact ho
  · rcases List.mem_append.1 hp with hp | hp
    · exact hkeep _ (a1 p hp) fun k hk=>(b1 k (mem_blks_of hp hk)).2
    · exact hkeep _ (a2 p hp) fun k hk e=>hd k e (b2 k (mem_blks_of hp hk)).1
  · have e:g=k:=by simpa [Value.ownBlock] using hk
    subst e;exact List.mem_cons_self
  · obtain ⟨r,hr,hv⟩:=List.mem_filterMap.1 hk
    obtain ⟨p,hp,rfl⟩:=List.mem_map.1 hr
    rcases List.mem_append.1 hp with hp | hp
    · have h7:=b1 k (mem_blks_of hp hv)
      refine ⟨List.mem_cons_of_mem _ (List.mem_append_left _ h7.1),fun e => ?_⟩
      have e:g=k:=by simpa [Value.ownBlock] using e
      exact hng k (hlt k h7.1) h7.2 e
    · have h7:=b2 k (mem_blks_of hp hv)
      refine ⟨List.mem_cons_of_mem _ (List.mem_append_right _ h7.1),fun e => ?_⟩
      have e:g=k:=by simpa [Value.ownBlock] using e
      exact hng k (hlt2 k h7.1) (fun e2=>hd k e2 h7.1) e
theorem ge_news {w:World} {ma:Option Addr} {mc:Nat} {m:List Ev} {fp:List Nat} {es:List (Ev × Value)} (h:GE w (.slice ma m.length mc) m fp es) (hm:0<m.length):∃ gm,ma=some ⟨gm,0,none⟩∧gm<w.heap.size∧(∀ j u,(evsRow es)[j]? = some u→w.cell? ((⟨gm,0,none⟩:Addr).add j)=some u)∧(∀ u ∈ evsRow es,u.oneCell' = true)∧(evsRow es).length=m.length * 5:=by
  obtain ⟨e1,r1,a1,f1,b1⟩:=h
  obtain ⟨g,c,hv,hgl⟩:∃ g c,(Value.slice ma m.length mc) = .slice (some ⟨g,0,none⟩) m.length c∧g<w.heap.size:=by
    rcases r1.2 with ⟨h8,h9⟩ | ⟨g', cap', cur,hv8,_,hg8,_⟩
    · omega
    · exact ⟨g', cap', hv8,(Array.getElem?_eq_some_iff.1 hg8).1⟩
  injection hv with hv _ hvc
  subst hv hvc
  have hlen:(evsRow es).length=m.length * 5:=by rw [evsRow_len, ← e1];simp
  refine ⟨g,rfl,hgl,fun j u hj => ?_,fun u hu => ?_,hlen⟩
  · have hjl:j<m.length * 5:=by rw [← hlen];exact (List.getElem?_eq_some_iff.1 hj).1
    have:=spRow r1 j hjl
    rw [hj] at this
    by_cases h0:j=0
    · subst h0;simpa [Addr.add] using this
    · simpa [Addr.add,h0] using this
  · unfold evsRow at hu
    obtain ⟨p,hp,hu⟩:=List.mem_flatMap.1 hu
    have hs:=slice_form (a1 p hp)
    obtain ⟨aa,ac,h2⟩:=hs
    have h2:p.2 = .slice aa p.1.attrs.length ac:=h2
    rw [h2] at hu
    simp [evCells] at hu
    rcases hu with rfl | rfl | rfl | rfl | rfl <;> rfl
structure RsP (l:List Ev) (i:Nat) (bs:List (Bs × Bs)) (ms:List Nat) (o:List Bs):Prop where
  gd:GoodB bs
  sm:ms.sum=bs.length
  m32:∀ m ∈ ms,m≤32
  st:∃ h,shs Sh.zero (l.take i)=some h∧h.opn=o
  ln:ms.length=o.length
  ql:∀ n ∈ o,Mk.isQualified n=true
theorem sum_le (ms:List Nat) (h:∀ m ∈ ms,m≤32):ms.sum≤32 * ms.length:=by
  induction ms with
  | nil=>simp
  | cons a r ih =>
    have h1:=h a List.mem_cons_self
    have h2:=ih fun m hm=>h m (List.mem_cons_of_mem _ hm)
    simp only [List.sum_cons,List.length_cons]
    omega
theorem opGo_len:∀ (l:List Att) (D E:List (Bs × Bs)),opGo l D=some E→E.length≤D.length + l.length
  | [],D,E,h=>by cases h;simp
  | a :: r,D,E,h=>by
    have e1:opGo (a :: r) D=if !Mk.isQualified a.name then none else if Mk.isDecl a.name then (if Mk.isGood (Mk.declared a.name) a.val then opGo r (D ++ [(Mk.declared a.name,a.val)]) else none) else opGo r D:=rfl
    rw [e1] at h
    split at h
    · cases h
    · split at h
      · split at h
        · have:=opGo_len r _ E h
          simp at this ⊢
          omega
        · cases h
      · have:=opGo_len r D E h
        simp
        omega
theorem RsP.start {l:List Ev} {i:Nat} {bs:List (Bs × Bs)} {ms:List Nat} {o:List Bs} (h:RsP l i bs ms o) (hi:i<l.length) (hk:l[i].kind=1) {H:Sh} (hs:shs Sh.zero l=some H) (ha:H.att≤32) {bs' : List (Bs × Bs)} {ms' : List Nat} {r:List Att} (hF:kStart ⟨xmlB :: bs,ms⟩ l[i].name l[i].attrs=some (⟨xmlB :: bs', ms'⟩,r)):RsP l (i + 1) bs' ms' (o ++ [l[i].name]):=by
  have hd:l=l.take i ++ l[i] :: l.drop (i + 1):=by rw [← List.drop_eq_getElem_cons hi,List.take_append_drop]
  have hmono:=(shs_mono l Sh.zero H hs (Nat.le_refl _)).2.2.2.2 l[i] (List.getElem_mem hi)
  rw [kStart_op] at hF
  cases hop:opGo l[i].attrs [] with
  | none=>rw [hop] at hF;cases hF
  | some D =>
    rw [hop] at hF
    dsimp only at hF
    split at hF
    · cases hF
    · rename_i hq
      split at hF
      · cases hF
      · split at hF
        · cases hF
        · have hF:=Option.some.inj hF
          have h1:(⟨xmlB :: (bs ++ D),ms ++ [D.length]⟩:Sc)=⟨xmlB :: bs', ms'⟩:=congrArg Prod.fst hF
          have h2:bs ++ D=bs' := by have:=congrArg Sc.bnd h1;simpa using this
          have h3:ms ++ [D.length]=ms' := congrArg Sc.cnt h1
          subst h2 h3
          obtain ⟨h0,hs0,ho0⟩:=h.st
          have hDl:=opGo_len _ _ _ hop
          refine ⟨fun x hx => ?_,by simp [h.sm],fun m hm => ?_,?_,by simp [h.ln],fun x hx => ?_⟩
          · rcases List.mem_append.1 hx with hx | hx
            · exact h.gd x hx
            · exact opGo_good _ _ _ hop (fun y hy=>by cases hy) x hx
          · rcases List.mem_append.1 hm with hm | hm
            · exact h.m32 m hm
            · simp at hm;subst hm;simp at hDl;omega
          · have hs2:=hs
            rw [hd,shs_app,hs0] at hs2
            dsimp only at hs2
            rw [shs_cons] at hs2
            cases h1:sh1 h0 l[i] with
            | none=>rw [h1] at hs2;cases hs2
            | some h' =>
              refine ⟨h', ?_,?_⟩
              · rw [List.take_succ_eq_append_getElem hi,shs_app,hs0]
                dsimp only
                rw [shs_cons,h1]
                rfl
              · obtain ⟨_,o', k1,_,rfl⟩:=sh1_inv h1
                unfold stk1 at k1
                rw [if_pos hk,ho0] at k1
                cases k1;rfl
          · rcases List.mem_append.1 hx with hx | hx
            · exact h.ql x hx
            · simp at hx;subst hx;simpa using hq
theorem RsP.end_ {l:List Ev} {i:Nat} {bs:List (Bs × Bs)} {ms:List Nat} {o:List Bs} (h:RsP l i bs ms o) (hi:i<l.length) (hk:l[i].kind=2) {H:Sh} (hs:shs Sh.zero l=some H):∃ ms0 m,ms=ms0 ++ [m]∧m≤bs.length∧Mk.isQualified l[i].name=true∧RsP l (i + 1) (bs.take (bs.length - m)) ms0 o.dropLast:=by
  have hd:l=l.take i ++ l[i] :: l.drop (i + 1):=by rw [← List.drop_eq_getElem_cons hi,List.take_append_drop]
  obtain ⟨h0,hs0,ho0⟩:=h.st
  have hs2:=hs
  rw [hd,shs_app,hs0] at hs2
  dsimp only at hs2
  rw [shs_cons] at hs2
  cases h1:sh1 h0 l[i] with
  | none=>rw [h1] at hs2;cases hs2
  | some h' =>
    obtain ⟨_,o', k1,_,hh'⟩:=sh1_inv h1
    obtain ⟨q,hq1,hq2⟩:=stk1_2 hk k1
    rw [ho0] at hq1
    have hol:ms.length=q.length + 1:=by rw [h.ln,hq1];simp
    obtain ⟨ms0,m,hms⟩:∃ ms0 m,ms=ms0 ++ [m]:=by
      rcases List.eq_nil_or_concat ms with g | ⟨a,b,g⟩
      · rw [g] at hol;simp at hol
      · exact ⟨a,b,by simpa using g⟩
    have hsum:=h.sm
    rw [hms] at hsum
    simp at hsum
    refine ⟨ms0,m,hms,by omega,h.ql _ (by rw [hq1];simp),⟨fun x hx=>h.gd x (List.mem_of_mem_take hx),by rw [List.length_take];omega,fun x hx=>h.m32 x (by rw [hms];exact List.mem_append_left _ hx),⟨h', ?_,?_⟩,?_,fun x hx=>h.ql x (List.dropLast_subset _ hx)⟩⟩
    · rw [List.take_succ_eq_append_getElem hi,shs_app,hs0]
      dsimp only
      rw [shs_cons,h1]
      rfl
    · rw [hh', hq1]
      dsimp only
      rw [hq2]
      simp
    · rw [hq1]
      rw [hms] at hol
      simp at hol ⊢
      omega
theorem RsP.else_ {l:List Ev} {i:Nat} {bs:List (Bs × Bs)} {ms:List Nat} {o:List Bs} (h:RsP l i bs ms o) (hi:i<l.length) (hk1:l[i].kind ≠ 1) (hk2:l[i].kind ≠ 2) {H:Sh} (hs:shs Sh.zero l=some H):RsP l (i + 1) bs ms o:=by
  have hd:l=l.take i ++ l[i] :: l.drop (i + 1):=by rw [← List.drop_eq_getElem_cons hi,List.take_append_drop]
  obtain ⟨h0,hs0,ho0⟩:=h.st
  have hs2:=hs
  rw [hd,shs_app,hs0] at hs2
  dsimp only at hs2
  rw [shs_cons] at hs2
  cases h1:sh1 h0 l[i] with
  | none=>rw [h1] at hs2;cases hs2
  | some h' =>
    obtain ⟨_,o', k1,_,hh'⟩:=sh1_inv h1
    refine ⟨h.gd,h.sm,h.m32,⟨h', ?_,?_⟩,h.ln,h.ql⟩
    · rw [List.take_succ_eq_append_getElem hi,shs_app,hs0]
      dsimp only
      rw [shs_cons,h1]
      rfl
    · rw [hh']
      dsimp only
      unfold stk1 at k1
      rw [if_neg hk1,if_neg hk2] at k1
      split at k1
      · split at k1
        · cases k1
        · cases k1;exact ho0
      · cases k1;exact ho0
end Go.Proofs.YtmgfijllcdadgabGreatDoor
