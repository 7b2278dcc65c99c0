/- SpR, SpE -/
import Derived.Test.YtmgfijllcdadgabGreatDoorPM09
set_option linter.unusedVariables false
set_option linter.unusedSimpArgs false
namespace Go.Proofs.YtmgfijllcdadgabGreatDoor
open Go.RowKit
open Mk (St Bs Ev Att)
theorem spInfoAt:(Tryz.prog.info? 112).map (fun i=>(i.zero,i.size,i.bytes))=some (some (.agg #[.string ByteArray.empty,.string ByteArray.empty,.string ByteArray.empty]),3,48):=by kernel_rfl
theorem spAtOne (a:Att):∀ u ∈ atCells a,u.oneCell' = true:=by
  intro u hu
  simp [atCells] at hu
  rcases hu with rfl | rfl | rfl <;> rfl
structure ReI (w wx:World) (s:St) (FIN:Option (List Att)) (acc:List Att) (i:Nat) (a:Option Addr) (c:Nat):Prop where
  bel:Below w.heap.size w wx
  own:wx.ownsRow w.heap.size 112 3 (.slice a acc.length c) acc.length (atsRow acc)
  fin:FIN=Mk.resolveGo s.bnd (s.attrs.drop i) acc
  le:acc.length≤i
  nm:∀ x ∈ acc,x.name.length≤100000000
def ReO (w:World) (FIN:Option (List Att)) (e:Ending) (w' : World):Prop:=
  Below w.heap.size w w' ∧ ((FIN=none∧e = .returned (.tuple #[.slice none 0 0,.bool false]))∨∃ l a c,FIN=some l∧e = .returned (.tuple #[.slice a l.length c,.bool true])∧w'.ownsRow w.heap.size 112 3 (.slice a l.length c) l.length (atsRow l))
theorem below_own {n:Nat} {w w1 w2:World} {e:TypeId} {size:Nat} {v:Value} {k:Nat} {xs:List Value} (h:Below n w w1) (hn:n≤w1.heap.size) (ho:w1.ownsRow n e size v k xs) (hg:w1.grownBy w2 v.ownBlock):Below n w w2:=
  ⟨hg.os.trans h.os,hg.tape.trans h.tape,hg.output.trans h.output,Nat.le_trans h.size hg.size,fun j hj=>(hg.block j (by omega) fun e=>by have:=(ho.lt j e.symm).1;omega).trans (h.block j hj)⟩
theorem own_new {w w' : World} {base:Nat} {e:TypeId} {size:Nat} {v:Value} {n:Nat} {xs:List Value} (h:w.ownsRow base e size v n xs) (hk:∀ k,k<w.heap.size→w'.heap[k]? = w.heap[k]?):w'.ownsRow base e size v n xs:=
  owned_keep (r:=⟨e,size,v,n,xs⟩) h fun k hv=>hk k (h.lt k hv).2
theorem ReI.push {w w2 w3:World} {s:St} {FIN:Option (List Att)} {acc:List Att} {i:Nat} {a:Option Addr} {c g2 cap:Nat} {x:Att} (hb:Below w.heap.size w w2) (hs:w.heap.size≤w2.heap.size) (ho:w2.ownsRow w.heap.size 112 3 (.slice a acc.length c) acc.length (atsRow acc))
    (hown:w3.ownsRow w.heap.size 112 3 (.slice (some ⟨g2,0,none⟩) (acc.length + 1) cap) (acc.length + 1) (atsRow acc ++ atCells x)) (hg:w2.grownBy w3 (Value.slice a acc.length c).ownBlock) (hf:FIN=Mk.resolveGo s.bnd (s.attrs.drop (i + 1)) (acc ++ [x])) (hle:acc.length + 1≤i + 1) (hn:∀ y ∈ acc,y.name.length≤100000000) (hx:x.name.length≤100000000) :
    ReI w w3 s FIN (acc ++ [x]) (i + 1) (some ⟨g2,0,none⟩) cap:=by
  refine ⟨below_own hb hs ho hg,?_,hf,by simpa using hle,fun y hy => ?_⟩
  · have e1:(acc ++ [x]).length=acc.length + 1:=by simp
    have e2:atsRow (acc ++ [x])=atsRow acc ++ atCells x:=by simp [atsRow]
    rw [e1,e2]
    exact hown
  · rcases List.mem_append.1 hy with hy | hy
    · exact hn y hy
    · simp at hy;subst hy;exact hx
set_option maxHeartbeats 4000000 in
set_option maxRecDepth 100000 in
theorem resolve_any {w:World} {b:Nat} {s:St} {L:Lay} (h:RdL w b s L) (ham:s.am=false) (hnm:∀ a ∈ s.attrs,a.name.length≤100000000) (hbn:s.bnd.length≤300000000) (han:s.attrs.length≤32) :
    Calls Tryz.prog 180 #[.pointer (some ⟨b,7,none⟩),.slice L.aa s.attrs.length L.ac] w (ReO w (Mk.resolveGo s.bnd s.attrs [])):=by
  obtain ⟨FIN,hFIN⟩:∃ FIN,FIN=Mk.resolveGo s.bnd s.attrs []:=⟨_,rfl⟩
  rw [← hFIN]
  have HI:Hid (ReI w w s FIN [] 0 none 0):=⟨Below.refl _ _,World.ownsRow_nil _ _ _ _,hFIN,by simp,fun x hx=>by cases hx⟩
  have HH:=hide h
  have HAM:=hide ham
  have HAN:=hide hnm
  have hlt:=h.lt
  obtain ⟨i0,hi,hz0,hz1,hz2⟩:=info_parts spInfoAt
  obtain ⟨aa,haa⟩:∃ x,x=L.aa:=⟨_,rfl⟩
  rw [← haa]
  have HAA:=hide haa
  clear h hFIN haa ham hnm
  go_enter Tryz.func180,Tryz.ntmps180
  go_wp2_with fail
  go_loopg [6,7] s.attrs.length (fun g s6 s7 wx=>∃ (wy:World) (acc:List Att) (i:Nat) (a:Option Addr) (c:Nat),wy=wx∧i≤s.attrs.length∧g=s.attrs.length - i∧s6 = .slice a acc.length c∧s7 = .int .i64 (i:Int)∧Hid (ReI w wy s FIN acc i a c))
  case atStart=>exact ⟨w,[],0,none,0,rfl,by omega,rfl,rfl,rfl,HI⟩
  case round =>
    obtain ⟨wy,acc,i,a,c,hwy,hile,rfl,rfl,rfl,HJ⟩:=hrel
    subst hwy
    clear HI
    have hble:=(unhide HJ).le
    have hlty:w.heap.size≤wy.heap.size:=(unhide HJ).bel.size
    by_cases h3:i<s.attrs.length
    · have e1:decide ((i:Int)<(s.attrs.length:Int))=true:=by simp;omega
      have hk1:(i:Int)<(s.attrs.length:Int):=by omega
      obtain ⟨g,hg,hgl,c0,c1,c2⟩:=att_cells ((unhide HH).start.below (unhide HJ).bel).rd (unhide HAM) i h3
      rw [← unhide HAA] at hg
      have hNM:=unhide HAN _ (List.getElem_mem h3)
      have HP:=hide (fun w=>isDeclaration_any s.attrs[i].name hNM w)
      have HPx:=hide (fun w=>prefixOf_any s.attrs[i].name hNM w)
      have hf:=(unhide HJ).fin
      rw [List.drop_eq_getElem_cons h3] at hf
      unfold Mk.resolveGo at hf
      have HNM:=hide hNM
      clear hNM
      generalize s.attrs[i]=x at *
      subst hg
      cases e2:Mk.isDecl x.name
      · rw [e2] at HP hf
        simp only [Bool.false_eq_true,if_false] at hf
        cases e3:(Mk.prefixOf x.name == [])
        · skip
          have hws:Mk.withSpace s.bnd x={ x with space:=Mk.valueOf s.bnd (Mk.prefixOf x.name) }:=by unfold Mk.withSpace;rw [show (Mk.prefixOf x.name != [])=true by simp [bne,e3]];rfl
          rw [hws] at hf
          clear hws
          have hbl:Below w.heap.size w (wy.alloc (.cells #[.string ⟨x.name.toArray⟩,.string ⟨x.space.toArray⟩,.string ⟨x.val.toArray⟩] 112)):=(unhide HJ).bel.alloc hlty _
          have HV:=hide (value_any ((unhide HH).start.below hbl).rd hbn (Mk.prefixOf x.name))
          obtain ⟨val,hval⟩:∃ y,y=Mk.valueOf s.bnd (Mk.prefixOf x.name):=⟨_,rfl⟩
          rw [← hval] at HV hf
          have hbl2:Below w.heap.size w (wy.alloc (.cells #[.string ⟨x.name.toArray⟩,.string ⟨val.toArray⟩,.string ⟨x.val.toArray⟩] 112)):=(unhide HJ).bel.alloc hlty _
          have hkp:∀ k,k<wy.heap.size→(wy.alloc (.cells #[.string ⟨x.name.toArray⟩,.string ⟨val.toArray⟩,.string ⟨x.val.toArray⟩] 112)).heap[k]? = wy.heap[k]? := fun k hk=>Below.heap_alloc _ _ _ hk
          have hbx:(wy.alloc (.cells #[.string ⟨x.name.toArray⟩,.string ⟨val.toArray⟩,.string ⟨x.val.toArray⟩] 112)).heap[wy.heap.size]? = some (.cells #[.string ⟨x.name.toArray⟩,.string ⟨val.toArray⟩,.string ⟨x.val.toArray⟩] 112 (0,0)):=heap_alloc_new wy _
          have HBd:=hide (isBound_any ((unhide HH).start.below hbl2).rd hbn (Mk.prefixOf x.name))
          have HHs:=hide (has_any (own_new (unhide HJ).own hkp) (by omega) (unhide HJ).nm ({ x with space:=val }:Att) (unhide HNM))
          have HOn:=hide (own_new (unhide HJ).own hkp)
          have HBl:=hide hbl2
          have HBx:=hide hbx
          have HNm:=hide (unhide HJ).nm
          have hwlt:w.heap.size<(wy.alloc (.cells #[.string ⟨x.name.toArray⟩,.string ⟨val.toArray⟩,.string ⟨x.val.toArray⟩] 112)).heap.size:=by simp;omega
          have HWlt:=hide hwlt
          have hsz:(wy.alloc (.cells #[.string ⟨x.name.toArray⟩,.string ⟨val.toArray⟩,.string ⟨x.val.toArray⟩] 112)).heap.size=wy.heap.size + 1:=by simp
          have HSz:=hide hsz
          clear hbl hbl2 hkp hbx hwlt hsz HJ hval
          generalize Mk.prefixOf x.name=p at *
          generalize Mk.isBound s.bnd p=q at *
          generalize hhas:Mk.hasLocal acc ({ x with space:=val }:Att)=r at *
          clear hhas
          cases q
          · skip
            have HF:=hide (show FIN=none by simpa using hf)
            clear hf
            go_wp2_with (first
              | (go_at_call 183;refine (unhide HP _).mono ?_;rintro e w1 ⟨he1,hw1⟩;subst he1;subst hw1)
              | (go_at_call 179;refine (unhide HPx _).mono ?_;rintro e w1 ⟨he1,hw1⟩;subst he1;subst hw1)
              | (go_at_call 181;refine (unhide HV).mono ?_;rintro e w1 ⟨he1,hw1⟩;subst he1;subst hw1)
              | (go_at_call 178;refine (unhide HBd).mono ?_;rintro e w1 ⟨he1,hw1⟩;subst he1;subst hw1)
              | (go_at_call 186;refine (unhide HHs).mono ?_;rintro e w2 ⟨rfl,hb2⟩))
            go_ret2
            exact ⟨unhide HBl,.inl ⟨unhide HF,rfl⟩⟩
          · cases r
            · skip
              have HF:=hide (show FIN=Mk.resolveGo s.bnd (s.attrs.drop (i + 1)) (acc ++ [({ x with space:=val }:Att)]) by simpa using hf)
              clear hf
              have H63:=hide (show acc.length + 1≤maxLen by unfold maxLen;omega)
              have hble3:acc.length + 1≤i + 1:=by omega
              go_wp2_with (first
                | (go_at_call 183;refine (unhide HP _).mono ?_;rintro e w1 ⟨he1,hw1⟩;subst he1;subst hw1)
                | (go_at_call 179;refine (unhide HPx _).mono ?_;rintro e w1 ⟨he1,hw1⟩;subst he1;subst hw1)
                | (go_at_call 181;refine (unhide HV).mono ?_;rintro e w1 ⟨he1,hw1⟩;subst he1;subst hw1)
                | (go_at_call 178;refine (unhide HBd).mono ?_;rintro e w1 ⟨he1,hw1⟩;subst he1;subst hw1)
                | (go_at_call 186;refine (unhide HHs).mono ?_;rintro e w2 ⟨rfl,hb2⟩;have hbl3:Below w.heap.size w w2:=(unhide HBl).trans (hb2.mono (Nat.le_of_lt (unhide HWlt)));have hsz2:w.heap.size≤w2.heap.size:=hbl3.size;have hbx2:=(hb2.block wy.heap.size (by rw [unhide HSz];omega)).trans (unhide HBx);have hq:∀ j,w2.cell? ⟨wy.heap.size,j,none⟩=[.string ⟨x.name.toArray⟩,.string ⟨val.toArray⟩,.string ⟨x.val.toArray⟩][j]? := (fun j=>by simp [World.cell?,hbx2]);have HO:=hide (World.ownsRow.alloc (own_new (unhide HOn) (fun k hk=>hb2.block k hk)) (.cells #[.string ⟨x.name.toArray⟩,.string ⟨val.toArray⟩,.string ⟨x.val.toArray⟩] 112));have HB:=hide (show (w2.alloc (.cells #[.string ⟨x.name.toArray⟩,.string ⟨val.toArray⟩,.string ⟨x.val.toArray⟩] 112)).heap[w2.heap.size]? = _ from heap_alloc_new w2 _);have HBl3:=hide (hbl3.alloc hsz2 (.cells #[.string ⟨x.name.toArray⟩,.string ⟨val.toArray⟩,.string ⟨x.val.toArray⟩] 112));have HBB:=hide (show w.heap.size≤(w2.alloc (.cells #[.string ⟨x.name.toArray⟩,.string ⟨val.toArray⟩,.string ⟨x.val.toArray⟩] 112)).heap.size by simp;omega);clear hb2 hbl3 hbx2)
                | (at_builtin;refine wpList_append_lies _ rfl (.tmp 41) (.tmp 43) 51 rfl w.heap.size 112 i0 _ 3 48 Tryz.underlying51 hi hz0 hz1 hz2 rfl (by decide) (.slice a acc.length c) acc.length (atsRow acc) (by simp [Act.eval]) (unhide HO) ⟨w2.heap.size,0,none⟩ 1 1 (atCells ({ x with space:=val }:Att)) (by simp [Act.eval]) rfl (World.news_of_block (unhide HB)) (spAtOne _) (by decide) (unhide H63) (by omega) (unhide HBB) (w2.heap.size + 1) (by simp) ?_;intro g2 cap w3 hown hgrow hat hlt3;have HJ2:=hide (ReI.push (unhide HBl3) (unhide HBB) (unhide HO) hown hgrow (unhide HF) hble3 (unhide HNm) (unhide HNM));clear hown hgrow hat))
              go_roundg (s.attrs.length - (i + 1))
              case measure=>omega
              case rel=>exact ⟨_,acc ++ [({ x with space:=val }:Att)],i + 1,_,cap,rfl,by omega,rfl,by simp,by simp,HJ2⟩
            · skip
              have HF:=hide (show FIN=none by simpa using hf)
              clear hf
              go_wp2_with (first
                | (go_at_call 183;refine (unhide HP _).mono ?_;rintro e w1 ⟨he1,hw1⟩;subst he1;subst hw1)
                | (go_at_call 179;refine (unhide HPx _).mono ?_;rintro e w1 ⟨he1,hw1⟩;subst he1;subst hw1)
                | (go_at_call 181;refine (unhide HV).mono ?_;rintro e w1 ⟨he1,hw1⟩;subst he1;subst hw1)
                | (go_at_call 178;refine (unhide HBd).mono ?_;rintro e w1 ⟨he1,hw1⟩;subst he1;subst hw1)
                | (go_at_call 186;refine (unhide HHs).mono ?_;rintro e w2 ⟨rfl,hb2⟩))
              go_ret2
              exact ⟨(unhide HBl).trans (hb2.mono (Nat.le_of_lt (unhide HWlt))),.inl ⟨unhide HF,rfl⟩⟩
        · skip
          have hws:Mk.withSpace s.bnd x=x:=by unfold Mk.withSpace;rw [show (Mk.prefixOf x.name != [])=false by simp [bne,e3]];rfl
          rw [hws] at hf
          clear hws
          have hbl:Below w.heap.size w (wy.alloc (.cells #[.string ⟨x.name.toArray⟩,.string ⟨x.space.toArray⟩,.string ⟨x.val.toArray⟩] 112)):=(unhide HJ).bel.alloc hlty _
          have hbl2:=hbl
          have hkp:∀ k,k<wy.heap.size→(wy.alloc (.cells #[.string ⟨x.name.toArray⟩,.string ⟨x.space.toArray⟩,.string ⟨x.val.toArray⟩] 112)).heap[k]? = wy.heap[k]? := fun k hk=>Below.heap_alloc _ _ _ hk
          have hbx:(wy.alloc (.cells #[.string ⟨x.name.toArray⟩,.string ⟨x.space.toArray⟩,.string ⟨x.val.toArray⟩] 112)).heap[wy.heap.size]? = some (.cells #[.string ⟨x.name.toArray⟩,.string ⟨x.space.toArray⟩,.string ⟨x.val.toArray⟩] 112 (0,0)):=heap_alloc_new wy _
          have HBd:=hide (isBound_any ((unhide HH).start.below hbl2).rd hbn (Mk.prefixOf x.name))
          have HHs:=hide (has_any (own_new (unhide HJ).own hkp) (by omega) (unhide HJ).nm x (unhide HNM))
          have HOn:=hide (own_new (unhide HJ).own hkp)
          have HBl:=hide hbl2
          have HBx:=hide hbx
          have HNm:=hide (unhide HJ).nm
          have hwlt:w.heap.size<(wy.alloc (.cells #[.string ⟨x.name.toArray⟩,.string ⟨x.space.toArray⟩,.string ⟨x.val.toArray⟩] 112)).heap.size:=by simp;omega
          have HWlt:=hide hwlt
          have hsz:(wy.alloc (.cells #[.string ⟨x.name.toArray⟩,.string ⟨x.space.toArray⟩,.string ⟨x.val.toArray⟩] 112)).heap.size=wy.heap.size + 1:=by simp
          have HSz:=hide hsz
          clear hbl hbl2 hkp hbx hwlt hsz HJ
          generalize Mk.prefixOf x.name=p at *
          generalize Mk.isBound s.bnd p=q at *
          generalize hhas:Mk.hasLocal acc x=r at *
          clear hhas
          cases q
          · skip
            have HF:=hide (show FIN=none by simpa using hf)
            clear hf
            go_wp2_with (first
              | (go_at_call 183;refine (unhide HP _).mono ?_;rintro e w1 ⟨he1,hw1⟩;subst he1;subst hw1)
              | (go_at_call 179;refine (unhide HPx _).mono ?_;rintro e w1 ⟨he1,hw1⟩;subst he1;subst hw1)
              | (go_at_call 181;refine (unhide HV).mono ?_;rintro e w1 ⟨he1,hw1⟩;subst he1;subst hw1)
              | (go_at_call 178;refine (unhide HBd).mono ?_;rintro e w1 ⟨he1,hw1⟩;subst he1;subst hw1)
              | (go_at_call 186;refine (unhide HHs).mono ?_;rintro e w2 ⟨rfl,hb2⟩))
            go_ret2
            exact ⟨unhide HBl,.inl ⟨unhide HF,rfl⟩⟩
          · cases r
            · skip
              have HF:=hide (show FIN=Mk.resolveGo s.bnd (s.attrs.drop (i + 1)) (acc ++ [x]) by simpa using hf)
              clear hf
              have H63:=hide (show acc.length + 1≤maxLen by unfold maxLen;omega)
              have hble3:acc.length + 1≤i + 1:=by omega
              go_wp2_with (first
                | (go_at_call 183;refine (unhide HP _).mono ?_;rintro e w1 ⟨he1,hw1⟩;subst he1;subst hw1)
                | (go_at_call 179;refine (unhide HPx _).mono ?_;rintro e w1 ⟨he1,hw1⟩;subst he1;subst hw1)
                | (go_at_call 181;refine (unhide HV).mono ?_;rintro e w1 ⟨he1,hw1⟩;subst he1;subst hw1)
                | (go_at_call 178;refine (unhide HBd).mono ?_;rintro e w1 ⟨he1,hw1⟩;subst he1;subst hw1)
                | (go_at_call 186;refine (unhide HHs).mono ?_;rintro e w2 ⟨rfl,hb2⟩;have hbl3:Below w.heap.size w w2:=(unhide HBl).trans (hb2.mono (Nat.le_of_lt (unhide HWlt)));have hsz2:w.heap.size≤w2.heap.size:=hbl3.size;have hbx2:=(hb2.block wy.heap.size (by rw [unhide HSz];omega)).trans (unhide HBx);have hq:∀ j,w2.cell? ⟨wy.heap.size,j,none⟩=[.string ⟨x.name.toArray⟩,.string ⟨x.space.toArray⟩,.string ⟨x.val.toArray⟩][j]? := (fun j=>by simp [World.cell?,hbx2]);have HO:=hide (World.ownsRow.alloc (own_new (unhide HOn) (fun k hk=>hb2.block k hk)) (.cells #[.string ⟨x.name.toArray⟩,.string ⟨x.space.toArray⟩,.string ⟨x.val.toArray⟩] 112));have HB:=hide (show (w2.alloc (.cells #[.string ⟨x.name.toArray⟩,.string ⟨x.space.toArray⟩,.string ⟨x.val.toArray⟩] 112)).heap[w2.heap.size]? = _ from heap_alloc_new w2 _);have HBl3:=hide (hbl3.alloc hsz2 (.cells #[.string ⟨x.name.toArray⟩,.string ⟨x.space.toArray⟩,.string ⟨x.val.toArray⟩] 112));have HBB:=hide (show w.heap.size≤(w2.alloc (.cells #[.string ⟨x.name.toArray⟩,.string ⟨x.space.toArray⟩,.string ⟨x.val.toArray⟩] 112)).heap.size by simp;omega);clear hb2 hbl3 hbx2)
                | (at_builtin;refine wpList_append_lies _ rfl (.tmp 41) (.tmp 43) 51 rfl w.heap.size 112 i0 _ 3 48 Tryz.underlying51 hi hz0 hz1 hz2 rfl (by decide) (.slice a acc.length c) acc.length (atsRow acc) (by simp [Act.eval]) (unhide HO) ⟨w2.heap.size,0,none⟩ 1 1 (atCells x) (by simp [Act.eval]) rfl (World.news_of_block (unhide HB)) (spAtOne _) (by decide) (unhide H63) (by omega) (unhide HBB) (w2.heap.size + 1) (by simp) ?_;intro g2 cap w3 hown hgrow hat hlt3;have HJ2:=hide (ReI.push (unhide HBl3) (unhide HBB) (unhide HO) hown hgrow (unhide HF) hble3 (unhide HNm) (unhide HNM));clear hown hgrow hat))
              go_roundg (s.attrs.length - (i + 1))
              case measure=>omega
              case rel=>exact ⟨_,acc ++ [x],i + 1,_,cap,rfl,by omega,rfl,by simp,by simp,HJ2⟩
            · skip
              have HF:=hide (show FIN=none by simpa using hf)
              clear hf
              go_wp2_with (first
                | (go_at_call 183;refine (unhide HP _).mono ?_;rintro e w1 ⟨he1,hw1⟩;subst he1;subst hw1)
                | (go_at_call 179;refine (unhide HPx _).mono ?_;rintro e w1 ⟨he1,hw1⟩;subst he1;subst hw1)
                | (go_at_call 181;refine (unhide HV).mono ?_;rintro e w1 ⟨he1,hw1⟩;subst he1;subst hw1)
                | (go_at_call 178;refine (unhide HBd).mono ?_;rintro e w1 ⟨he1,hw1⟩;subst he1;subst hw1)
                | (go_at_call 186;refine (unhide HHs).mono ?_;rintro e w2 ⟨rfl,hb2⟩))
              go_ret2
              exact ⟨(unhide HBl).trans (hb2.mono (Nat.le_of_lt (unhide HWlt))),.inl ⟨unhide HF,rfl⟩⟩
      · rw [e2] at HP hf
        simp only [if_true] at hf
        have HJ2:Hid (ReI w (wy.alloc (.cells #[.string ⟨x.name.toArray⟩,.string ⟨x.space.toArray⟩,.string ⟨x.val.toArray⟩] 112)) s FIN acc (i + 1) a c):=⟨(unhide HJ).bel.alloc hlty _,(unhide HJ).own.alloc _,hf,by omega,(unhide HJ).nm⟩
        clear hf HJ
        go_wp2_with (go_at_call 183;refine (unhide HP _).mono ?_;rintro e w1 ⟨rfl,rfl⟩)
        go_roundg (s.attrs.length - (i + 1))
        case measure=>omega
        case rel=>exact ⟨_,acc,i + 1,a,c,rfl,by omega,rfl,rfl,by simp,HJ2⟩
    · have e1:decide ((i:Int)<(s.attrs.length:Int))=false:=by simp;omega
      have hf:=(unhide HJ).fin
      rw [List.drop_of_length_le (by omega)] at hf
      have HF:=hide (show FIN=some acc from hf)
      clear hf
      go_wp2
      go_ret2
      exact ⟨(unhide HJ).bel,.inr ⟨acc,a,c,unhide HF,rfl,(unhide HJ).own⟩⟩
theorem spBase {w:World} {base base' : Nat} {e:TypeId} {size:Nat} {v:Value} {n:Nat} {xs:List Value} (h:w.ownsRow base e size v n xs) (hb:base' ≤ base):w.ownsRow base' e size v n xs:=by
  refine ⟨h.1,?_⟩
  rcases h.2 with h2 | ⟨g,cap,cur,h3,h4,h5⟩
  · exact .inl h2
  · exact .inr ⟨g,cap,cur,h3,Nat.le_trans hb h4,h5⟩
theorem Mv.setAttrs {w0 w:World} {b:Nat} {f0:List Nat} {s:St} {L:Lay} (m:Mv w0 b f0 w s L) (ham:s.am=false) (l:List Att) (a:Option Addr) (c B:Nat) (hB:∀ k ∈ foot s L,k<B) (hbB:b<B) (hw:w0.heap.size≤B)
    (ho:w.ownsRow B 112 3 (.slice a l.length c) l.length (atsRow l)):Mv w0 b f0 (w.setCell ⟨b,13,none⟩ (.slice a l.length c)) { s with attrs:=l } { L with aa:=a,ac:=c }:=by
  have hp:(rowsOf s L).Perm (attRow s L :: (opnRow s L :: tokRow s L :: lstRow s L :: txtRow s L :: bndRow s L :: cntRow s L :: L.es.map evRow)):=perm3 _ _ _ _
  have h1:=(m.rd.rows.perm hp).tail
  have e1:attRow { s with attrs:=l } { L with aa:=a,ac:=c }=⟨112,3,.slice a l.length c,l.length,atsRow l⟩:=by simp [attRow,ham]
  have hp' : (rowsOf { s with attrs:=l } { L with aa:=a,ac:=c }).Perm (⟨112,3,.slice a l.length c,l.length,atsRow l⟩ :: (opnRow s L :: tokRow s L :: lstRow s L :: txtRow s L :: bndRow s L :: cntRow s L :: L.es.map evRow)):=by
    rw [← e1];exact perm3 _ _ _ _
  have hsub:∀ k ∈ blks (opnRow s L :: tokRow s L :: lstRow s L :: txtRow s L :: bndRow s L :: cntRow s L :: L.es.map evRow),k ∈ foot s L:=fun k hk=>perm_blks hp.symm k (@blks_behind [attRow s L] _ k hk)
  have h2:Rws w (b - 1) (⟨112,3,.slice a l.length c,l.length,atsRow l⟩ :: (opnRow s L :: tokRow s L :: lstRow s L :: txtRow s L :: bndRow s L :: cntRow s L :: L.es.map evRow)):=by
    refine ⟨fun x hx => ?_,?_⟩
    · rcases List.mem_cons.1 hx with rfl | hx
      · exact spBase ho (by omega)
      · exact h1.own x hx
    · unfold blks
      rw [List.filterMap_cons]
      split
      · exact h1.nd
      · rename_i j hj
        refine List.nodup_cons.2 ⟨fun hm => ?_,h1.nd⟩
        have:=(ho.lt j hj).1
        have:=hB j (hsub j hm)
        omega
  have h3:Rws w (b - 1) (rowsOf { s with attrs:=l } { L with aa:=a,ac:=c }):=h2.perm hp'.symm
  have hnb:b ∉ foot { s with attrs:=l } { L with aa:=a,ac:=c }:=fun hm=>by
    have h4:=perm_blks hp' b hm
    unfold blks at h4
    rw [List.filterMap_cons] at h4
    split at h4
    · exact m.rd.nb (hsub b h4)
    · rename_i j hj
      rcases List.mem_cons.1 h4 with e | h4
      · subst e
        have:=(ho.lt b hj).1
        omega
      · exact m.rd.nb (hsub b h4)
  refine ⟨⟨?_,?_,m.rd.evs,hnb⟩,?_⟩
  · have:=m.rd.blk
    have e2:(cellsOf s L).set 13 (.slice a l.length c)=cellsOf { s with attrs:=l } { L with aa:=a,ac:=c }:=by simp [cellsOf]
    rw [← e2]
    simp [World.setCell,Array.getElem?_modify,this]
  · refine h3.keep fun k hk=>Below.heap_setCell _ _ _ _ ?_
    exact fun (e:k=b)=>hnb (e ▸ hk)
  · have hf:=m.fr
    refine ⟨hf.os,hf.tape,hf.output,by simpa [World.setCell] using hf.size,fun k hk hb hm=>(Below.heap_setCell _ _ _ _ hb).trans (hf.block k hk hb hm),fun k hk => ?_⟩
    have h4:=perm_blks hp' k hk
    unfold blks at h4
    rw [List.filterMap_cons] at h4
    split at h4
    · exact hf.foot k (hsub k h4)
    · rename_i j hj
      rcases List.mem_cons.1 h4 with rfl | h4
      · have:=(ho.lt k hj).1
        exact .inr (by omega)
      · exact hf.foot k (hsub k h4)
def EnO (w:World) (b:Nat) (s:St) (L:Lay) (r:St × Option (List Att)) (e:Ending) (w' : World):Prop:=
  ∃ L', Mv w b (foot s L) w' r.1 L' ∧ L'.aa=L.aa∧L'.ac=L.ac∧((r.2=none∧e = .returned (.tuple #[.slice none 0 0,.bool false]))∨∃ l a c B,r.2=some l∧e = .returned (.tuple #[.slice a l.length c,.bool true])∧(∀ k ∈ foot r.1 L', k<B)∧b<B∧w.heap.size≤B∧w'.ownsRow B 112 3 (.slice a l.length c) l.length (atsRow l))
theorem declare_bd {s:St} (h:Bd s):(Mk.declare s).1.bnd.length≤300000000∧(Mk.declare s).1.attrs=s.attrs∧(Mk.declare s).1.name=s.name∧(Mk.declare s).1.am=s.am:=by
  have hgo:∀ (ats:List Att) (b:List (Bs × Bs)) (c:Nat),(Mk.declareGo ats b c).1.length≤b.length + ats.length:=by
    intro ats
    induction ats with
    | nil=>intro b c;simp [Mk.declareGo]
    | cons a r ih =>
      intro b c
      unfold Mk.declareGo
      split
      · have:=ih b c;simp only [List.length_cons];omega
      · split
        · simp only [List.length_cons];omega
        · have:=ih (b ++ [(Mk.declared a.name,a.val)]) (c + 1)
          simp only [List.length_cons,List.length_append,List.length_nil] at this ⊢;omega
  have h1:=hgo s.attrs s.bnd 0
  have h2:=h.hb
  have h3:=h.ha
  unfold Mk.declare
  dsimp only
  split
  · exact ⟨by show (Mk.declareGo s.attrs s.bnd 0).1.length≤_;omega,rfl,rfl,rfl⟩
  · exact ⟨by show (Mk.declareGo s.attrs s.bnd 0).1.length≤_;omega,rfl,rfl,rfl⟩
set_option maxHeartbeats 2000000 in
set_option maxRecDepth 100000 in
theorem Enter_any {w:World} {b:Nat} {s:St} {L:Lay} (h:RdL w b s L) (hB:Bd s) :
    Calls Tryz.prog 171 #[.pointer (some ⟨b,7,none⟩),.string ⟨s.name.toArray⟩,.slice L.aa s.attrs.length L.ac] w (EnO w b s L (Mk.enter s)):=by
  have hrow:=h.rows.own (attRow s L) (by simp [rowsOf])
  have e1:attRow s L=⟨112,3,.slice L.aa s.attrs.length L.ac,s.attrs.length,atsRow s.attrs⟩:=by simp [attRow,hB.am]
  rw [e1] at hrow
  have HQ:=hide (areQualified_any hrow hB.ha hB.an s.name hB.hn)
  have HD:=hide (declare_any h hB)
  have HP:=hide (fun w=>prefixOf_any s.name hB.hn w)
  have hbd:=declare_bd hB
  obtain ⟨ANS,hANS⟩:∃ ANS,ANS=Mk.enter s:=⟨_,rfl⟩
  rw [← hANS]
  unfold Mk.enter at hANS
  have HS:=hide h.start
  have HAM:=hide hB.am
  have HAN:=hide hB.an
  have HA:=hide hB.ha
  clear hrow e1
  cases ea:Mk.areQualified s.name s.attrs
  · rw [ea] at hANS HQ
    simp only [Bool.not_false,if_true] at hANS
    have HN:=hide hANS
    clear h hB hANS HD hbd
    go_enter Tryz.func171,Tryz.ntmps171
    go_wp2_with (go_at_call 176;refine (unhide HQ).mono ?_;rintro e w1 ⟨he1,hw1⟩;subst he1;subst hw1)
    go_ret2
    rw [unhide HN]
    exact ⟨L,unhide HS,rfl,rfl,.inl ⟨rfl,rfl⟩⟩
  · rw [ea] at hANS HQ
    simp only [Bool.not_true,Bool.false_eq_true,if_false] at hANS
    cases ed:(Mk.declare s).2
    · rw [ed] at hANS HD
      simp only [Bool.not_false,if_true] at hANS
      have HN:=hide hANS
      clear h hB hANS hbd
      go_enter Tryz.func171,Tryz.ntmps171
      go_wp2_with (first | (go_at_call 176;refine (unhide HQ).mono ?_;rintro e w1 ⟨he1,hw1⟩;subst he1;subst hw1) | (go_at_call 177;refine (unhide HD).mono ?_;rintro e w2 ⟨rfl,L2,hm2,ha2,hc2⟩;have HM2:=hide hm2;clear hm2))
      go_ret2
      rw [unhide HN]
      exact ⟨L2,unhide HM2,ha2,hc2,.inl ⟨rfl,rfl⟩⟩
    · rw [ed] at hANS HD
      simp only [Bool.not_true,Bool.false_eq_true,if_false] at hANS
      obtain ⟨b1,b2,b3,b4⟩:=hbd
      have hlt:=h.lt
      generalize Mk.declare s=D at *
      obtain ⟨s1,d2⟩:=D
      dsimp only at *
      generalize Mk.prefixOf s.name=p at *
      clear h hB
      cases eb:Mk.isBound s1.bnd p
      · rw [eb] at hANS
        simp only [Bool.not_false,if_true] at hANS
        have HN:=hide hANS
        clear hANS
        go_enter Tryz.func171,Tryz.ntmps171
        go_wp2_with (first | (go_at_call 176;refine (unhide HQ).mono ?_;rintro e w1 ⟨he1,hw1⟩;subst he1;subst hw1) | (go_at_call 177;refine (unhide HD).mono ?_;rintro e w2 ⟨rfl,L2,hm2,ha2,hc2⟩;have HB2:=hide (isBound_any hm2.rd b1 p);rw [eb] at HB2;have HM2:=hide hm2;clear hm2) | (go_at_call 179;refine (unhide HP _).mono ?_;rintro e w1 ⟨he1,hw1⟩;subst he1;subst hw1) | (go_at_call 178;refine (unhide HB2).mono ?_;rintro e w1 ⟨he1,hw1⟩;subst he1;subst hw1))
        go_ret2
        rw [unhide HN]
        exact ⟨L2,unhide HM2,ha2,hc2,.inl ⟨rfl,rfl⟩⟩
      · rw [eb] at hANS
        simp only [Bool.not_true,Bool.false_eq_true,if_false] at hANS
        have HN:=hide hANS
        clear hANS
        go_enter Tryz.func171,Tryz.ntmps171
        go_wp2_with (first | (go_at_call 176;refine (unhide HQ).mono ?_;rintro e w1 ⟨he1,hw1⟩;subst he1;subst hw1) | (go_at_call 177;refine (unhide HD).mono ?_;rintro e w2 ⟨rfl,L2,hm2,ha2,hc2⟩;have HB2:=hide (isBound_any hm2.rd b1 p);rw [eb] at HB2;have HR2:=hide (resolve_any hm2.rd (b4.trans (unhide HAM)) (by rw [b2];exact unhide HAN) b1 (by rw [b2];exact unhide HA));rw [b2,ha2,hc2] at HR2;have HM2:=hide hm2;clear hm2) | (go_at_call 179;refine (unhide HP _).mono ?_;rintro e w1 ⟨he1,hw1⟩;subst he1;subst hw1) | (go_at_call 178;refine (unhide HB2).mono ?_;rintro e w1 ⟨he1,hw1⟩;subst he1;subst hw1) | (go_at_call 180;refine (unhide HR2).mono ?_;rintro e w3 ⟨hb3,(⟨hn3,rfl⟩ | ⟨l,a3,c3,hn3,rfl,ho3⟩)⟩))
        · go_ret2
          rw [unhide HN]
          exact ⟨L2,(unhide HM2).below hb3,ha2,hc2,.inl ⟨hn3,rfl⟩⟩
        · go_ret2
          rw [unhide HN]
          exact ⟨L2,(unhide HM2).below hb3,ha2,hc2,.inr ⟨l,a3,c3,_,hn3,rfl,fun k hk=>((unhide HM2).rd.foot_lt k hk).2,(unhide HM2).rd.lt,(unhide HM2).fr.size,ho3⟩⟩
end Go.Proofs.YtmgfijllcdadgabGreatDoor
