/- RestA, RestB, RestC, RestD -/
import Derived.Test.YtmgfijllcdadgabGreatDoorPCWay4
import Derived.Test.YtmgfijllcdadgabGreatDoorPM23
import Derived.Test.YtmgfijllcdadgabGreatDoorPM27
import Derived.Lib.AppendStr
set_option linter.unusedVariables false
set_option linter.unusedSimpArgs false
namespace Go.Proofs.YtmgfijllcdadgabGreatDoor
open Go.RowKit
open Mk (St Bs Ev Att)
theorem behind_any (x:Bs) (k:Int) (hx:x.length≤100000000) (k0 : -100000000≤k) (k1:k≤100000000) (w:World) :
    Calls Tryz.prog 101 #[.string ⟨x.toArray⟩,.int .i64 k] w fun e w' => e = .returned (.string ⟨(Mk.behind x k).toArray⟩)∧w' = w:=by
  obtain ⟨z,hz⟩:∃ z,Mk.behind x k=z:=⟨_,rfl⟩
  rw [hz]
  by_cases h1:k<0
  · have e1:decide (k<0)=true:=by simpa using h1
    have:z=[]:=by rw [← hz];unfold Mk.behind;rw [if_pos (.inl h1)]
    subst this
    clear hz
    go_enter Tryz.func101,Tryz.ntmps101
    go_wp2
    go_ret
    exact ⟨rfl,rfl⟩
  · have e1:decide (k<0)=false:=by simpa using h1
    by_cases h2:(x.length:Int)<k
    · have e2:decide ((x.length:Int)<k)=true:=by simpa using h2
      have:z=[]:=by rw [← hz];unfold Mk.behind;rw [if_pos (.inr h2)]
      subst this
      clear hz
      go_enter Tryz.func101,Tryz.ntmps101
      go_wp2
      go_ret
      exact ⟨rfl,rfl⟩
    · have e2:decide ((x.length:Int)<k)=false:=by simpa using h2
      obtain ⟨n,rfl⟩:∃ n:Nat,k=(n:Int):=⟨k.toNat,by omega⟩
      have hn:n≤x.length:=by omega
      have hzz:(ByteArray.extract ⟨x.toArray⟩ n x.length)=⟨z.toArray⟩:=by
        rw [spSkip, ← hz]
        unfold Mk.behind
        rw [if_neg (by omega)]
        simp
      have k2:¬ (n:Int)<0:=h1
      have k3:(n:Int)≤(x.length:Int):=by omega
      clear hz
      go_enter Tryz.func101,Tryz.ntmps101
      go_wp2
      go_ret
      exact ⟨rfl,rfl⟩
structure PrI (w wx:World) (FIN:Bs) (c l:Int) (dn:Bs) (a:Option Addr) (cap:Nat):Prop where
  bel:Below w.heap.size w wx
  p:wx.heap[w.heap.size]? = some (.cells #[.int .i64 c,.int .i64 l] 99 (0,0))
  row:wx.ownsRow (w.heap.size + 1) 5 1 (.slice a dn.length cap) dn.length (dn.map bv)
  fin:FIN=dn ++ Mk.partRest c l
  pt:l=0∨PtW c l
  len:dn.length + l.toNat≤3
structure PrJ (w wx:World) (FIN:Bs) (c l:Int) (dn:Bs) (a:Option Addr) (cap:Nat) (q:Nat) (b:Int):Prop extends PrI w wx FIN c l dn a cap where
  q1:wx.heap[q]? = some (.cells #[.int .i64 ((Mk.nextPart c l b).getD (0,0)).1,.int .i64 ((Mk.nextPart c l b).getD (0,0)).2] 99 (0,0))
  q2:w.heap.size<q
  q3:(Value.slice a dn.length cap).ownBlock ≠ some q
theorem PrI.below {w wx wy:World} {FIN:Bs} {c l:Int} {dn:Bs} {a:Option Addr} {cap:Nat} (h:PrI w wx FIN c l dn a cap) (hb:Below wx.heap.size wx wy):PrI w wy FIN c l dn a cap:=by
  have hp:=(Array.getElem?_eq_some_iff.1 h.p).1
  refine ⟨h.bel.trans (hb.mono (by omega)),(hb.block _ hp).trans h.p,?_,h.fin,h.pt,h.len⟩
  exact owned_keep (r:=⟨5,1,.slice a dn.length cap,dn.length,dn.map bv⟩) h.row fun k hk=>hb.block k (h.row.lt k hk).2
theorem part_least {c l:Int} (h:PtW c l) {x:UInt8} {r:Bs} (hx:Mk.partRest c l=x :: r) (b:Int) (h1:128≤b) (h2:b<x.toNat):Mk.nextPart c l b=none:=by
  rcases h with ⟨rfl,h⟩ | ⟨rfl,h⟩ | ⟨rfl,h⟩
  · have:x=128:=by simp [Mk.partRest] at hx;exact hx.1.symm
    subst this
    have:b<128:=h2
    omega
  · by_cases h0:c=0
    · subst h0
      have:x=160:=by simp [Mk.partRest] at hx;exact hx.1.symm
      subst this
      have h2:b<160:=h2
      unfold Mk.nextPart
      rw [if_neg (by omega),if_neg]
      unfold Mk.canEnd
      simp
      omega
    · have:x=128:=by simp [Mk.partRest,h0] at hx;exact hx.1.symm
      subst this
      have:b<128:=h2
      omega
  · by_cases h0:c=0
    · subst h0
      have:x=144:=by simp [Mk.partRest] at hx;exact hx.1.symm
      subst this
      have h2:b<144:=h2
      unfold Mk.nextPart
      rw [if_neg (by omega),if_neg]
      unfold Mk.canEnd
      simp
      omega
    · have:x=128:=by simp [Mk.partRest,h0] at hx;exact hx.1.symm
      subst this
      have:b<128:=h2
      omega
theorem part_head {c l:Int} (h:PtW c l) {x:UInt8} {r:Bs} (hx:Mk.partRest c l=x :: r):128≤x.toNat∧x.toNat≤160:=by
  rcases h with ⟨rfl,h⟩ | ⟨rfl,h⟩ | ⟨rfl,h⟩
  · have:x=128:=by simp [Mk.partRest] at hx;exact hx.1.symm
    subst this;decide
  · by_cases h0:c=0
    · subst h0
      have:x=160:=by simp [Mk.partRest] at hx;exact hx.1.symm
      subst this;decide
    · have:x=128:=by simp [Mk.partRest,h0] at hx;exact hx.1.symm
      subst this;decide
  · by_cases h0:c=0
    · subst h0
      have:x=144:=by simp [Mk.partRest] at hx;exact hx.1.symm
      subst this;decide
    · have:x=128:=by simp [Mk.partRest,h0] at hx;exact hx.1.symm
      subst this;decide
theorem PrJ.again {w wx wy:World} {FIN:Bs} {c l:Int} {dn:Bs} {a:Option Addr} {cap:Nat} {q:Nat} {b b' : Int} (h:PrJ w wx FIN c l dn a cap q b) (hb:Below wx.heap.size wx wy) (n1 n2:Int) (hn:n1=((Mk.nextPart c l b').getD (0,0)).1∧n2=((Mk.nextPart c l b').getD (0,0)).2) :
    PrJ w ((wy.setCell ⟨q,0,none⟩ (.int .i64 n1)).setCell ⟨q,1,none⟩ (.int .i64 n2)) FIN c l dn a cap q b' := by
  have h1:=h.toPrI.below hb
  have hq:=(Array.getElem?_eq_some_iff.1 h.q1).1
  have hk:∀ k,k ≠ q→((wy.setCell ⟨q,0,none⟩ (.int .i64 n1)).setCell ⟨q,1,none⟩ (.int .i64 n2)).heap[k]? = wy.heap[k]? := fun k hk=>by rw [Below.heap_setCell _ _ _ _ hk,Below.heap_setCell _ _ _ _ hk]
  refine ⟨⟨(h1.bel.setCell (by show w.heap.size≤q;have:=h.q2;omega) _).setCell (by show w.heap.size≤q;have:=h.q2;omega) _,(hk _ (by have:=h.q2;omega)).trans h1.p,?_,h1.fin,h1.pt,h1.len⟩,?_,h.q2,h.q3⟩
  · exact owned_keep (r:=⟨5,1,.slice a dn.length cap,dn.length,dn.map bv⟩) h1.row fun k hv=>hk k fun e=>h.q3 (e ▸ hv)
  · have h2:=(hb.block q hq).trans h.q1
    have:=set_row (j:=1) (u:=.int .i64 n2) (set_row (j:=0) (u:=.int .i64 n1) h2 rfl) rfl
    rw [this]
    simp [hn.1,hn.2]
set_option maxHeartbeats 4000000 in
set_option maxRecDepth 100000 in
theorem partRest_any (c l:Int) (h:l=0∨PtW c l) (w:World) :
    Calls Tryz.prog 76 #[.agg #[.int .i64 c,.int .i64 l]] w fun e w' => ∃ a cap,e = .returned (.slice a (Mk.partRest c l).length cap)∧w'.ownsRow w.heap.size 5 1 (.slice a (Mk.partRest c l).length cap) (Mk.partRest c l).length ((Mk.partRest c l).map bv)∧Below w.heap.size w w' := by
  obtain ⟨FIN,hF⟩:∃ FIN,FIN=Mk.partRest c l:=⟨_,rfl⟩
  rw [← hF]
  have hbd:0≤l∧l≤3∧(l ≠ 0→0≤c∧c≤17407):=by
    rcases h with h | h
    · omega
    · unfold PtW at h;omega
  have HI:Hid (PrI w (w.alloc (.cells #[.int .i64 c,.int .i64 l] 99)) FIN c l [] none 0):=⟨(Below.refl _ _).alloc (Nat.le_refl _) _,heap_alloc_new w _,World.ownsRow_nil _ _ _ _,hF,h,by simp;omega⟩
  obtain ⟨i0,hi,hz0,hz1,hz2⟩:=info_parts infoU8
  clear h hF hbd
  go_enter Tryz.func76,Tryz.ntmps76
  go_wp2_with fail
  go_loopg [3,4,5,6,7] l.toNat (fun g s3 s4 s5 s6 s7 wx=>∃ (wy:World) (c l:Int) (dn:Bs) (a:Option Addr) (cap:Nat),wy=wx∧g=l.toNat∧s3 = .slice a dn.length cap∧s4 = .int .i64 l∧Hid (PrI w wy FIN c l dn a cap))
  case atStart=>exact ⟨_,c,l,[],none,0,rfl,rfl,rfl,rfl,HI⟩
  case round =>
    clear HI
    obtain ⟨wy,c,l,dn,a,cap,hwy,rfl,rfl,rfl,HJ⟩:=hrel
    subst hwy
    have hlen:=(unhide HJ).len
    rcases (unhide HJ).pt with hl0 | hpt
    · subst hl0
      have hf:FIN=dn:=by have:=(unhide HJ).fin;rw [this];simp [Mk.partRest]
      have HF:=hide hf
      clear hf
      go_wp2
      go_ret
      rw [unhide HF]
      exact ⟨a,cap,rfl,spBase (unhide HJ).row (by omega),(unhide HJ).bel⟩
    · have hl1:0<l∧l≤3∧0≤c∧c≤17407:=by unfold PtW at hpt;omega
      obtain ⟨x,r,c', hx1,hx2,hx3,hx4,hx5⟩:=part_next hpt
      have hxb:=part_head hpt hx1
      have HLE:=hide (part_least hpt hx1)
      have HNX:=hide (fun (b:Int) (h0:0≤b) (h1:b≤255) w=>next_any c l b h0 h1 (by omega) (by omega) (by omega) (by omega) w)
      have HX:=hide (And.intro hx1 (And.intro hx2 hx3))
      have HPT:=hide (nextPart_ptw hpt hx2)
      have hcy:∀ i,wy.cell? ⟨w.heap.size,i,none⟩=[.int .i64 c,.int .i64 l][i]? := fun i=>by simp [World.cell?,(unhide HJ).p]
      have e1:decide (0<l)=true:=by simp;omega
      clear hx1 hx2 hx3 hpt hx4 hx5
      go_wp2_with (go_at_call 98;refine (unhide HNX 128 (by decide) (by decide) _).mono ?_;rintro e w1 ⟨rfl,hb1⟩)
      have hJ1:=(unhide HJ).below hb1
      have hs1:=(Array.getElem?_eq_some_iff.1 hJ1.p).1
      have HK:Hid (PrJ w (w1.alloc (.cells #[.int .i64 ((Mk.nextPart c l 128).getD (0,0)).1,.int .i64 ((Mk.nextPart c l 128).getD (0,0)).2] 99)) FIN c l dn a cap w1.heap.size 128):=
        ⟨hJ1.below ((Below.refl _ _).alloc (Nat.le_refl _) _),heap_alloc_new w1 _,by omega,fun e=>by have:=(hJ1.row.lt _ e).2;omega⟩
      generalize hq:w1.heap.size=q at *
      generalize (w1.alloc (.cells #[.int .i64 ((Mk.nextPart c l 128).getD (0,0)).1,.int .i64 ((Mk.nextPart c l 128).getD (0,0)).2] 99))=w2 at *
      clear hJ1 hb1 hs1 hq HJ hcy
      go_loopg [5,7] (x.toNat - 128) (fun g s5 s7 wx=>∃ (wz:World) (b:Nat),wz=wx∧g=x.toNat - b∧128≤b∧b≤x.toNat∧s5 = .int .u8 (b:Int)∧s7 = .bool (Mk.nextPart c l (b:Int)).isSome∧Hid (PrJ w wz FIN c l dn a cap q (b:Int)))
      case atStart=>exact ⟨_,128,rfl,rfl,by omega,hxb.1,rfl,rfl,HK⟩
      case round =>
        obtain ⟨wz,b,hwz,rfl,hb1,hb2,rfl,rfl,HM⟩:=hrel
        subst hwz
        clear HK
        have hcz:∀ i,wz.cell? ⟨w.heap.size,i,none⟩=[.int .i64 c,.int .i64 l][i]? := fun i=>by simp [World.cell?,(unhide HM).p]
        have hzq:=(unhide HM).q1
        have hq2:=(unhide HM).q2
        have hqlt:q<wz.heap.size:=(Array.getElem?_eq_some_iff.1 hzq).1
        by_cases hlt:b<x.toNat
        · have hno:Mk.nextPart c l (b:Int)=none:=unhide HLE b (by omega) (by omega)
          rw [hno]
          have e2:decide ((b:Int)<191)=true:=by simp;omega
          have hwr:IntKind.u8.wrap ((b:Int) + 1)=(b:Int) + 1:=by rw [IntKind.wrap_u8];omega
          have HN1:=hide (fun w=>unhide HNX ((b:Int) + 1) (by omega) (by omega) w)
          have hby:∀ (w3:World),Below wz.heap.size wz w3→(∀ i,w3.cell? ⟨q,i,none⟩=[.int .i64 ((Mk.nextPart c l (b:Int)).getD (0,0)).1,.int .i64 ((Mk.nextPart c l (b:Int)).getD (0,0)).2][i]?)∧(∀ i,w3.frozen? ⟨q,i,none⟩=false):=fun w3 hb=>by
            have h1:=(hb.block q hqlt).trans hzq
            exact ⟨fun i=>by simp [World.cell?,h1],fun i=>by simp [World.frozen?,h1]⟩
          have HBY:=hide hby
          clear hzq hby
          go_wp2_with fail
          refine (unhide HN1 _).mono ?_
          rintro e w3 ⟨rfl,hb3⟩
          obtain ⟨hc3,hf3⟩:=unhide HBY w3 hb3
          have HG:=hide ((unhide HM).again hb3 (b' := (b:Int) + 1) _ _ ⟨rfl,rfl⟩)
          clear hb3 HBY HM hcz
          go_wp2
          go_roundg (x.toNat - (b + 1))
          case measure=>omega
          case rel=>exact ⟨_,b + 1,rfl,rfl,by omega,by omega,by simp,by simp,HG⟩
        · obtain rfl:b=x.toNat:=by omega
          have hsome:Mk.nextPart c l (x.toNat:Int)=some (c', l - 1):=(unhide HX).2.1
          have hx0:(Mk.nextPart c l (x.toNat:Int)).isSome=true:=by rw [hsome];rfl
          rw [hx0]
          rw [hsome] at hzq
          have hrow:=(unhide HM).row
          have hw3:=(Below.refl wz.heap.size wz).alloc (Nat.le_refl _) (.cells #[.int .u8 (x.toNat:Int)] 5)
          have HPI:=hide ((unhide HM).toPrI.below hw3)
          have HO:=hide ((unhide HM).toPrI.below hw3).row
          have HB:=hide (heap_alloc_new wz (.cells #[.int .u8 (x.toNat:Int)] 5))
          have hq3:=(unhide HM).q3
          have hpz:=(unhide HM).p
          have hpne:some w.heap.size ≠ (Value.slice a dn.length cap).ownBlock:=fun e=>by have:=(hrow.lt _ e.symm).1;omega
          have HQ4:Hid (∀ w4:World,(wz.alloc (.cells #[.int .u8 (x.toNat:Int)] 5)).grownBy w4 (Value.slice a dn.length cap).ownBlock→(∀ i,w4.cell? ⟨q,i,none⟩=[.int .i64 c', .int .i64 (l - 1)][i]?)∧(∀ i,w4.cell? ⟨w.heap.size,i,none⟩=[.int .i64 c,.int .i64 l][i]?)∧(∀ i,w4.frozen? ⟨w.heap.size,i,none⟩=false)∧w4.heap[w.heap.size]? = some (.cells #[.int .i64 c,.int .i64 l] 99 (0,0))):=by
            intro w4 hgrow
            have h4q:=(hgrow.block q (by simp <;> omega) (fun e=>hq3 e.symm)).trans ((Below.heap_alloc _ _ _ hqlt).trans hzq)
            have h4p:=(hgrow.block w.heap.size (by simp <;> omega) hpne).trans ((Below.heap_alloc _ _ _ (by omega)).trans hpz)
            exact ⟨fun i=>by simp [World.cell?,h4q],fun i=>by simp [World.cell?,h4p],fun i=>by simp [World.frozen?,h4p],h4p⟩
          clear hw3 hx0 hq3 hpne
          go_wp2_with (at_builtin;refine wpList_append_lies _ rfl (.tmp 34) (.tmp 36) 54 rfl (w.heap.size + 1) 5 i0 _ 1 1 Tryz.underlying54 hi hz0 hz1 hz2 rfl (by decide) (.slice a dn.length cap) dn.length (dn.map bv) rfl (unhide HO) ⟨wz.heap.size,0,none⟩ 1 1 [.int .u8 (x.toNat:Int)] (by simp [Act.eval]) rfl (World.news_of_block (unhide HB)) (by intro u hu;simp at hu;subst hu;rfl) (by decide) (by unfold maxLen;omega) (by omega) (by simp <;> omega) (wz.heap.size + 1) (by simp) ?_;intro g2 cap2 w4 hown hgrow hat hlt2;obtain ⟨hc4,hp4,hf4,h4p⟩:=unhide HQ4 w4 hgrow;have HOW:=hide hown;have HGR:=hide hgrow;have HAT:=hide hat;have H4P:=hide h4p;clear hown hgrow hat h4p hcz hzq hpz)
          have hl2:(l - 1).toNat + 1=l.toNat:=by omega
          go_roundg (l - 1).toNat
          case measure=>omega
          case rel =>
            refine ⟨_,c', l - 1,dn ++ [x],some ⟨g2,0,none⟩,cap2,rfl,rfl,by simp,rfl,?_⟩
            have hgr:=unhide HGR
            have hbel:Below w.heap.size w w4:=(unhide HPI).bel.trans ⟨hgr.os,hgr.tape,hgr.output,hgr.size,fun k hk=>hgr.block k (by simp;omega) (fun e=>by have:=(hrow.lt k e.symm).1;omega)⟩
            refine ⟨(hbel.setCell (Nat.le_refl _) _).setCell (Nat.le_refl _) _,?_,?_,?_,unhide HPT,by simp;omega⟩
            · have:=set_row (j:=1) (u:=.int .i64 (l - 1)) (set_row (j:=0) (u:=.int .i64 c') (unhide H4P) rfl) rfl
              rw [this]
              rfl
            · have h5:=unhide HOW
              have h6:=owned_keep (w:=w4) (w' := (w4.setCell ⟨w.heap.size,0,none⟩ (.int .i64 c')).setCell ⟨w.heap.size,1,none⟩ (.int .i64 (l - 1))) (base:=w.heap.size + 1) (r:=⟨5,1,.slice (some ⟨g2,0,none⟩) (dn.length + 1) cap2,dn.length + 1,dn.map bv ++ [Value.int .u8 (x.toNat:Int)]⟩) h5 fun k hv=>by
                have:=(h5.lt k hv).1
                rw [Below.heap_setCell _ _ _ _ (by show k ≠ w.heap.size;omega),Below.heap_setCell _ _ _ _ (by show k ≠ w.heap.size;omega)]
              simpa [Row.owned,bv] using h6
            · rw [(unhide HPI).fin,(unhide HX).1,(unhide HX).2.2]
              simp
theorem nameRest_step (n:Bs) (k:Nat) (hk:k<5):∃ x,(Mk.refNames.map fun p=>Value.string ⟨p.1.toArray⟩)[k]? = some (.string ⟨x.toArray⟩)∧x.length≤5 ∧
    Mk.nameRest n (Mk.refNames.drop k)=if n.isPrefixOf x then x.drop n.length else Mk.nameRest n (Mk.refNames.drop (k + 1)):=by
  match k,hk with
  | 0,_=>exact ⟨_,rfl,by decide,rfl⟩
  | 1,_=>exact ⟨_,rfl,by decide,rfl⟩
  | 2,_=>exact ⟨_,rfl,by decide,rfl⟩
  | 3,_=>exact ⟨_,rfl,by decide,rfl⟩
  | 4,_=>exact ⟨_,rfl,by decide,rfl⟩
set_option maxHeartbeats 1000000 in
set_option maxRecDepth 100000 in
theorem restOfName_any (p:Int) (n:Bs) (c:Int) (hn:n.length≤20) (w:World) (hG:Gl w) (hs:6<w.heap.size) :
    Calls Tryz.prog 99 #[.agg #[.int .i64 p,.string ⟨n.toArray⟩,.int .i64 c]] w fun e w' => e = .returned (.string ⟨(Mk.nameRest n Mk.refNames).toArray⟩)∧Below w.heap.size w w' := by
  obtain ⟨r,hr⟩:∃ r,r=Mk.nameRest n Mk.refNames:=⟨_,rfl⟩
  rw [← hr]
  have HR:Hid (r=Mk.nameRest n (Mk.refNames.drop 0)):=hr
  have ha1:∀ o1 j,(w.alloc o1).cell? ⟨5,j,none⟩=w.cell? ⟨5,j,none⟩:=fun o1 j=>by
    simp only [World.cell?];rw [Below.heap_alloc _ _ _ (by omega)]
  have g1:=hG.names
  clear hr hG
  go_enter Tryz.func99,Tryz.ntmps99
  go_wp2
  go_loopw [3] (fun i wx=>∃ k:Nat,k≤5∧i = .int .i64 k∧Hid (r=Mk.nameRest n (Mk.refNames.drop k))∧∃ m,wx=(w.alloc (.cells #[.int .i64 p,.string ⟨n.toArray⟩,.int .i64 c] 101)).drewN m) (fun i _=>5 - (intOf i).toNat)
  case atStart=>exact ⟨0,by omega,rfl,HR,0,rfl⟩
  case round =>
    obtain ⟨k,hk,rfl,HK,m,rfl⟩:=hrel
    clear HR
    obtain ⟨W,hW⟩:∃ W,W=(w.alloc (.cells #[.int .i64 p,.string ⟨n.toArray⟩,.int .i64 c] 101)).drewN m:=⟨_,rfl⟩
    rw [← hW]
    have hgW:∀ j,W.cell? ⟨5,j,none⟩=w.cell? ⟨5,j,none⟩:=fun j=>by rw [hW, ← ha1 (.cells #[.int .i64 p,.string ⟨n.toArray⟩,.int .i64 c] 101) j];rfl
    have hcW:∀ j,W.cell? ⟨w.heap.size,j,none⟩=[.int .i64 p,.string ⟨n.toArray⟩,.int .i64 c][j]? := fun j=>by
      rw [hW]
      show (w.alloc _).cell? _=_
      simp only [World.cell?]
      rw [heap_alloc_new]
      simp
    have hbW:Below w.heap.size w W:=by
      rw [hW]
      exact ⟨rfl,rfl,rfl,by rw [heap_drewN];simp,fun k hk=>by rw [heap_drewN];exact Below.heap_alloc _ _ _ hk⟩
    have HW:=hide hW
    have HBW:=hide hbW
    clear hW hbW ha1
    by_cases hlt:k<5
    · obtain ⟨x,q1,q3,q4⟩:=nameRest_step n k hlt
      have c1:W.cell? ⟨5,k,none⟩=some (.string ⟨x.toArray⟩):=by rw [hgW,g1 k];exact q1
      have hk5:(k:Int)<5:=by omega
      rw [← unhide HK] at q4
      have HB:=hide (fun w=>begins_any x n (by omega) (by omega) w)
      have hdecl:∀ v,n.isPrefixOf x=v→(n.isPrefixOf x)=v:=fun _ h=>h
      clear q1 g1 hgW HK
      cases h4:n.isPrefixOf x
      · rw [h4] at HB q4
        simp only [Bool.false_eq_true,if_false] at q4
        have HQ:=hide q4
        clear q4 hdecl
        go_wp2
        go_quiet ((go_at_call 131;refine Calls.quiet_of_same (unhide HB _)))
        go_wp2
        go_roundw
        case rel=>exact ⟨k + 1,by omega,by go_num,unhide HQ,by rw [unhide HW];exact ⟨_,spDrew _ _ _⟩⟩
        case measure=>simp [intOf];omega
      · have hle:n.length≤x.length:=(List.isPrefixOf_iff_prefix.1 h4).length_le
        rw [h4] at HB q4
        simp only [if_true] at q4
        have hzz:(ByteArray.extract ⟨x.toArray⟩ n.length x.length)=⟨r.toArray⟩:=by rw [spSkip,q4]
        have hk6:¬ ((n.length:Int)<0):=by omega
        have hk7:(n.length:Int)≤(x.length:Int):=by omega
        clear q4 hdecl
        go_wp2
        go_quiet ((go_at_call 131;refine Calls.quiet_of_same (unhide HB _)))
        go_wp2
        go_quiet (fail)
        go_wp2
        go_ret
        refine ⟨rfl,(unhide HBW).trans ⟨rfl,rfl,rfl,by rw [heap_drewN,heap_drewN];exact Nat.le_refl _,fun k hk=>by rw [heap_drewN,heap_drewN]⟩⟩
    · have e1:decide ((k:Int)<5)=false:=by simp;omega
      obtain rfl:k=5:=by omega
      have hr:r=[]:=unhide HK
      subst hr
      go_wp2
      go_ret
      exact ⟨rfl,unhide HBW⟩
set_option maxHeartbeats 1000000 in
set_option maxRecDepth 100000 in
theorem restOfNumber_any (p:Int) (n:Bs) (c base:Int) (hb:base=10∨base=16) (c0:0≤c) (c1:c≤1114111) (w:World) :
    Calls Tryz.prog 100 #[.agg #[.int .i64 p,.string ⟨n.toArray⟩,.int .i64 c],.int .i64 base] w fun e w' => e = .returned (.string ⟨(Mk.numberRest c base).toArray⟩)∧Below w.heap.size w w' := by
  have hbel:=(Below.refl w.heap.size w).alloc (Nat.le_refl _) (.cells #[.int .i64 p,.string ⟨n.toArray⟩,.int .i64 c] 101)
  have HBL:=hide hbel
  have HC:=hide isChar_any
  clear hbel
  cases e1:Mk.isChar c
  · cases e2:Mk.isChar (c * base)
    · cases e3:Mk.isChar (c * base * base)
      · have hr:Mk.numberRest c base=[57,59]:=by unfold Mk.numberRest;rw [e1,e2,e3];rfl
        rw [hr]
        clear hr
        rcases hb with rfl | rfl
        all_goals
          go_enter Tryz.func100,Tryz.ntmps100
          go_wp2_with (go_at_call 132;refine (unhide HC _ _).mono ?_;rintro e w1 ⟨rfl,rfl⟩)
          go_ret
          exact ⟨rfl,unhide HBL⟩
      · have hr:Mk.numberRest c base=[48,48,59]:=by unfold Mk.numberRest;rw [e1,e2,e3];rfl
        rw [hr]
        clear hr
        rcases hb with rfl | rfl
        all_goals
          go_enter Tryz.func100,Tryz.ntmps100
          go_wp2_with (go_at_call 132;refine (unhide HC _ _).mono ?_;rintro e w1 ⟨rfl,rfl⟩)
          go_ret
          exact ⟨rfl,unhide HBL⟩
    · have hr:Mk.numberRest c base=[48,59]:=by unfold Mk.numberRest;rw [e1,e2];rfl
      rw [hr]
      clear hr
      rcases hb with rfl | rfl
      all_goals
        go_enter Tryz.func100,Tryz.ntmps100
        go_wp2_with (go_at_call 132;refine (unhide HC _ _).mono ?_;rintro e w1 ⟨rfl,rfl⟩)
        go_ret
        exact ⟨rfl,unhide HBL⟩
  · have hr:Mk.numberRest c base=[59]:=by unfold Mk.numberRest;rw [e1];rfl
    rw [hr]
    clear hr
    go_enter Tryz.func100,Tryz.ntmps100
    go_wp2_with (go_at_call 132;refine (unhide HC _ _).mono ?_;rintro e w1 ⟨rfl,rfl⟩)
    go_ret
    exact ⟨rfl,unhide HBL⟩
set_option maxHeartbeats 1000000 in
theorem refRest_any (p:Int) (n:Bs) (c:Int) (hn:n.length≤20) (c0:0≤c) (c1:c≤1114111) (w:World) (hG:Gl w) (hs:6<w.heap.size) :
    Calls Tryz.prog 77 #[.agg #[.int .i64 p,.string ⟨n.toArray⟩,.int .i64 c]] w fun e w' => e = .returned (.string ⟨(Mk.refRest p n c).toArray⟩)∧Below w.heap.size w w' := by
  have hbel:=(Below.refl w.heap.size w).alloc (Nat.le_refl _) (.cells #[.int .i64 p,.string ⟨n.toArray⟩,.int .i64 c] 101)
  have HN:=hide (restOfName_any p n c hn _ (hG.below hs hbel) (by simp <;> omega))
  have HD:=hide (fun base hb w=>restOfNumber_any p n c base hb c0 c1 w)
  have HBL:=hide hbel
  clear hG hbel
  by_cases h1:p=1∨p=2
  · have hr:Mk.refRest p n c=Mk.nameRest n Mk.refNames:=by unfold Mk.refRest;rw [if_pos h1]
    rw [hr]
    generalize Mk.nameRest n Mk.refNames=z at *
    clear hr
    rcases h1 with rfl | rfl
    all_goals
      go_enter Tryz.func77,Tryz.ntmps77
      go_wp2_with (go_at_call 99;refine (unhide HN).mono ?_;rintro e w1 ⟨rfl,hb1⟩)
      go_ret
      exact ⟨rfl,(unhide HBL).trans (hb1.mono (by simp))⟩
  · by_cases h2:p=3∨p=5
    · have hr:Mk.refRest p n c=Mk.numberRest c 10:=by unfold Mk.refRest;rw [if_neg h1,if_pos h2]
      rw [hr]
      have HQ:=hide (fun w=>unhide HD 10 (.inl rfl) w)
      generalize Mk.numberRest c 10=z at *
      clear hr HD HN
      rcases h2 with rfl | rfl
      all_goals
        go_enter Tryz.func77,Tryz.ntmps77
        go_wp2_with (go_at_call 100;refine (unhide HQ _).mono ?_;rintro e w1 ⟨rfl,hb1⟩)
        go_ret
        exact ⟨rfl,(unhide HBL).trans (hb1.mono (by simp))⟩
    · by_cases h3:p=4∨p=6
      · have hr:Mk.refRest p n c=Mk.numberRest c 16:=by unfold Mk.refRest;rw [if_neg h1,if_neg h2,if_pos h3]
        rw [hr]
        have HQ:=hide (fun w=>unhide HD 16 (.inr rfl) w)
        generalize Mk.numberRest c 16=z at *
        clear hr HD HN
        rcases h3 with rfl | rfl
        all_goals
          go_enter Tryz.func77,Tryz.ntmps77
          go_wp2_with (go_at_call 100;refine (unhide HQ _).mono ?_;rintro e w1 ⟨rfl,hb1⟩)
          go_ret
          exact ⟨rfl,(unhide HBL).trans (hb1.mono (by simp))⟩
      · have hr:Mk.refRest p n c=[]:=by unfold Mk.refRest;rw [if_neg h1,if_neg h2,if_neg h3]
        rw [hr]
        have e1:(p == 1)=false:=by simp;omega
        have e2:(p == 2)=false:=by simp;omega
        have e3:(p == 3)=false:=by simp;omega
        have e4:(p == 4)=false:=by simp;omega
        have e5:(p == 5)=false:=by simp;omega
        have e6:(p == 6)=false:=by simp;omega
        clear hr HD HN
        go_enter Tryz.func77,Tryz.ntmps77
        go_wp2
        go_ret
        exact ⟨rfl,unhide HBL⟩
theorem rd_below {w w' : World} {b:Nat} {s:St} {L:Lay} (h:RdL w b s L) (hb:Below w.heap.size w w'):RdL w' b s L:=
  h.keep fun k hk=>hb.block k (by
    rcases hk with rfl | hk
    · exact h.lt
    · exact (h.foot_lt _ hk).2)
set_option maxHeartbeats 2000000 in
set_option maxRecDepth 100000 in
theorem restOfAttrName_any {w:World} {b:Nat} {s:St} {L:Lay} (h:RdL w b s L) (ham:s.am=false) (ha:s.attrs.length≤100000000) (htl:s.token.length≤100000000) :
    Calls Tryz.prog 133 #[.pointer (some ⟨b,0,none⟩)] w fun e w' => e = .returned (.string ⟨(Mk.attrRest s).toArray⟩)∧Below w.heap.size w w' := by
  obtain ⟨FIN,hF⟩:∃ FIN,FIN=Mk.attrRest s:=⟨_,rfl⟩
  rw [← hF]
  have hc:=h.cell
  have hlt:=h.lt
  have hcv:=conv_row (h.rows.own (tokRow s L) (by simp [rowsOf]))
  have HA:=hide (fun w' (hb:Below w.heap.size w w') x=>hasAttr_any (rd_below h hb) ham ha x)
  have HA0:=hide (hasAttr_any h ham ha s.token)
  unfold cellsOf at hc
  clear h
  unfold Mk.attrRest at hF
  cases e0:Mk.hasAttr s s.token
  · rw [e0] at hF HA0
    simp only [Bool.false_eq_true,if_false] at hF
    subst hF
    go_enter Tryz.func133,Tryz.ntmps133
    go_wp2_with (go_at_call 158;refine (unhide HA0).mono ?_;rintro e w1 ⟨rfl,rfl⟩)
    go_ret
    exact ⟨rfl,Below.refl _ _⟩
  · rw [e0] at hF HA0
    simp only [if_true] at hF
    have HF:=hide hF
    clear hF
    go_enter Tryz.func133,Tryz.ntmps133
    go_wp2_with (go_at_call 158;refine (unhide HA0).mono ?_;rintro e w1 ⟨rfl,hw⟩;obtain rfl:=hw.symm)
    clear hcv hc HA0
    go_loopw [4,5] (fun s4 s5 wx=>∃ (k:Nat) (B:Int),k≤58∧B=65 + (k:Int)∧s4 = .int .u8 B∧Hid (FIN=Mk.freeFrom s (58 - k) B)∧Below w.heap.size w wx) (fun i _ _=>123 - (intOf i).toNat)
    case atStart=>exact ⟨0,65,by omega,rfl,rfl,HF,Below.refl _ _⟩
    case round =>
      obtain ⟨k,B,hk,hB,rfl,HK,hbw⟩:=hrel
      clear HF
      have hbs:=hbw.size
      have HBK:=hide hB
      by_cases hlt2:k<58
      · have e1:decide (B≤122)=true:=by simp;omega
        have hk1:B≤122:=by omega
        obtain ⟨m,hm⟩:∃ m,58 - k=m + 1:=⟨58 - k - 1,by omega⟩
        have hfr:=unhide HK
        rw [hm] at hfr
        unfold Mk.freeFrom at hfr
        have hcv:=conv_one B (by omega) (by omega) wr.heap.size (wr.alloc (.cells #[.int .u8 B] 5)) (by simp [go_sem])
        have hbz:Below w.heap.size w (wr.alloc (.cells #[.int .u8 B] 5)):=hbw.alloc hbs _
        have HIN:=hide (inName_any B)
        have HAT:=hide (unhide HA _ hbz (s.token ++ [Mk.u8 B]))
        obtain ⟨nm,hnm⟩:∃ nm,s.token ++ [Mk.u8 B]=nm:=⟨_,rfl⟩
        rw [hnm] at HAT hfr
        obtain ⟨y,hy⟩:∃ y,Mk.u8 B=y:=⟨_,rfl⟩
        rw [hy] at hcv hfr hnm
        have happ:(⟨s.token.toArray⟩:ByteArray) ++ (⟨[y].toArray⟩:ByteArray)=⟨nm.toArray⟩:=by
          rw [← hnm]
          apply ByteArray.ext
          simp
        have happ2:(⟨s.token.toArray⟩:ByteArray) ++ (⟨#[y]⟩:ByteArray)=⟨nm.toArray⟩:=happ
        have hwrap:IntKind.u8.wrap (B + 1)=B + 1:=by rw [IntKind.wrap_u8];omega
        have HBZ:=hide hbz
        have hB0:65≤B:=by omega
        clear hnm hy hbz HA hbw hB
        cases e2:Mk.inName B
        · rw [e2] at HIN hfr
          simp only [Bool.false_and,Bool.false_eq_true,if_false] at hfr
          have HFR:=hide hfr
          clear hfr HK HAT
          go_wp2_with (go_at_call 147;refine (unhide HIN _).mono ?_;rintro e w1 ⟨rfl,rfl⟩)
          go_roundw
          case rel=>exact ⟨k + 1,B + 1,by omega,by have:=unhide HBK;omega,rfl,by have:=unhide HFR;rw [show 58 - (k + 1)=m by omega];exact this,unhide HBZ⟩
          case measure=>have:=unhide HBK;simp [intOf];omega
        · rw [e2] at HIN hfr
          cases e3:Mk.hasAttr s nm
          · rw [e3] at HAT hfr
            simp only [Bool.not_false,Bool.and_self,if_true] at hfr
            subst hfr
            clear HK
            go_wp2_with first | (go_at_call 147;refine (unhide HIN _).mono ?_;rintro e w1 ⟨rfl,rfl⟩) | (go_at_call 158;refine (unhide HAT).mono ?_;rintro e w1 ⟨rfl,rfl⟩)
            go_ret
            exact ⟨rfl,unhide HBZ⟩
          · rw [e3] at HAT hfr
            simp only [Bool.not_true,Bool.and_false,Bool.false_eq_true,if_false] at hfr
            have HFR:=hide hfr
            clear hfr HK
            go_wp2_with first | (go_at_call 147;refine (unhide HIN _).mono ?_;rintro e w1 ⟨rfl,rfl⟩) | (go_at_call 158;refine (unhide HAT).mono ?_;rintro e w1 ⟨rfl,rfl⟩)
            go_roundw
            case rel=>exact ⟨k + 1,B + 1,by omega,by have:=unhide HBK;omega,rfl,by have:=unhide HFR;rw [show 58 - (k + 1)=m by omega];exact this,unhide HBZ⟩
            case measure=>have:=unhide HBK;simp [intOf];omega
      · obtain rfl:k=58:=by omega
        have hr:FIN=[]:=unhide HK
        subst hr
        have e1:decide (B≤122)=false:=by simp;omega
        clear hB
        go_wp2
        go_ret
        exact ⟨rfl,hbw⟩
end Go.Proofs.YtmgfijllcdadgabGreatDoor
