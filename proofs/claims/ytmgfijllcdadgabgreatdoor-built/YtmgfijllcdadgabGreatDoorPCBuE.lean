/- BuE, BuF, RestA, RestB, RestC, RestD, RestE, RestF, RestG, RestH, Again, Sticky, Way8, Opts, Compl, Ways, Nest7, SpaA, SpaB, SpaC -/
import Derived.Test.YtmgfijllcdadgabGreatDoorPCBuD
import Derived.Test.YtmgfijllcdadgabGreatDoorPCSkJ
import Derived.Test.YtmgfijllcdadgabGreatDoorPCWrong
import Derived.Test.YtmgfijllcdadgabGreatDoorPM23
import Derived.Test.YtmgfijllcdadgabGreatDoorPM27
import Derived.Lib.AppendStr
import Derived.Test.YtmgfijllcdadgabGreatDoorPCSplit
import Derived.SliceStrings
import Derived.Carry
import Derived.WideKeyArgs
import Derived.Test.YtmgfijllcdadgabGreatDoorPM30
import Derived.Test.YtmgfijllcdadgabGreatDoorPM19
import Derived.Laws.CopyOwn
import Derived.Laws.Tables
import Derived.Test.YtmgfijllcdadgabGreatDoorPCSpc5
set_option linter.unusedVariables false
set_option linter.unusedSimpArgs false
namespace Go.Proofs.YtmgfijllcdadgabGreatDoor
open Go.RowKit
open Mk (St Bs Ev Att)
theorem bA_le (code:Bs) (p:Nat):p≤bA code p∧(p≤code.length→bA code p≤code.length)∧(p<code.length→bA code p=p + 1):=by
  unfold bA
  split
  · exact ⟨by omega,fun _=>by omega,fun _=>rfl⟩
  · exact ⟨by omega,fun h=>h,fun h=>absurd h (by assumption)⟩
theorem restP_le (code:Bs) (p:Nat):p≤bRestP code p∧(p≤code.length→bRestP code p≤code.length):=by
  have h1:=bA_le code p
  have h2:=bA_le code (bA code p)
  have h3:=bA_le code (bA code (bA code p))
  unfold bRestP
  (repeat' split) <;> exact ⟨by omega,fun h=>by have:=h1.2.1 h;have:=h2.2.1 this;have:=h3.2.1 this;omega⟩
theorem aside_le (code:Bs) (s:Bld):s.at_≤(bAside code s).at_∧(s.at_≤code.length→(bAside code s).at_≤code.length)∧(bAside code s).l.length=s.l.length + 1∧(bAside code s).o=s.o:=by
  have h1:=bA_le code s.at_
  have h2:=bA_le code (bA code s.at_)
  have h3:=bA_le code (bA code (bA code s.at_))
  unfold bAside
  split <;> exact ⟨by dsimp only;omega,fun h=>by have:=h1.2.1 h;have:=h2.2.1 this;have:=h3.2.1 this;dsimp only;omega,by simp,rfl⟩
theorem start_le (code:Bs) (s:Bld):s.at_≤(bStart code s).at_∧(s.at_≤code.length→(bStart code s).at_≤code.length)∧(bStart code s).l.length=s.l.length + 1:=by
  have h1:=bA_le code s.at_
  have h2:=bA_le code (bA code s.at_)
  have h3:=restP_le code (bA code s.at_)
  have h4:=restP_le code (bA code (bA code s.at_))
  unfold bStart
  dsimp only
  split <;> exact ⟨by dsimp only;omega,fun h=>by have:=h1.2.1 h;have:=h2.2.1 this;have:=h3.2 (by assumption);have:=h4.2 (by assumption);dsimp only;omega,by simp⟩
theorem step_le (code:Bs) (s:Bld) (h:s.at_<code.length):s.at_<(bStep code s).at_∧(bStep code s).at_≤code.length∧(bStep code s).l.length≤s.l.length + 1∧s.l.length≤(bStep code s).l.length:=by
  have h1:=bA_le code s.at_
  have e1:=h1.2.2 h
  have h2:=bA_le code (bA code s.at_)
  have h3:=bA_le code (bA code (bA code s.at_))
  unfold bStep
  dsimp only
  split
  · have q:=start_le code ⟨bA code s.at_,s.l,s.o⟩
    exact ⟨by have:=q.1;dsimp only at this;omega,q.2.1 (by dsimp only;omega),by rw [q.2.2];exact Nat.le_refl _,by rw [q.2.2];dsimp only;omega⟩
  · split
    · exact ⟨by show s.at_<bA code s.at_;omega,by show bA code s.at_≤_;omega,by show (s.l ++ [_]).length≤_;simp,by show _≤(s.l ++ [_]).length;simp⟩
    · split
      · have q:=aside_le code ⟨bA code s.at_,s.l,s.o⟩
        exact ⟨by have:=q.1;dsimp only at this;omega,q.2.1 (by dsimp only;omega),by rw [q.2.2.1];exact Nat.le_refl _,by rw [q.2.2.1];dsimp only;omega⟩
      · split
        · exact ⟨by dsimp only;omega,by have:=h2.2.1 (by omega);have:=h3.2.1 this;dsimp only;omega,by simp,by simp⟩
        · exact ⟨by dsimp only;omega,by dsimp only;omega,by dsimp only;omega,Nat.le_refl _⟩
theorem bLoop_fuel (code:Bs):∀ (n m:Nat) (s:Bld),code.length - s.at_≤n→code.length - s.at_≤m→bLoop code n s=bLoop code m s
  | 0,m,s,h1,h2=>by
    cases m with
    | zero=>rfl
    | succ m =>
      show s=bLoop code (m + 1) s
      unfold bLoop
      rw [if_neg (by omega)]
  | n + 1,m,s,h1,h2=>by
    by_cases h:s.at_<code.length
    · have q:=step_le code s h
      cases m with
      | zero=>omega
      | succ m =>
        unfold bLoop
        rw [if_pos h,if_pos h]
        exact bLoop_fuel code n m _ (by omega) (by omega)
    · cases m with
      | zero =>
        show bLoop code (n + 1) s=s
        unfold bLoop
        rw [if_neg h]
      | succ m =>
        unfold bLoop
        rw [if_neg h,if_neg h]
theorem bLoop_one (code:Bs) (n:Nat) (s:Bld) (h:s.at_<code.length):bLoop code (n + 1) s=bLoop code n (bStep code s):=by
  show (if s.at_<code.length then _ else _)=_
  rw [if_pos h]
structure BMid (code:Bs) (s:Bld):Prop where
  at_:s.at_≤code.length
  l:s.l.length≤10 + s.at_
  l0:s.l ≠ []
  o1:1≤s.o.length
  o9:s.o.length≤9
theorem step_o {code:Bs} {s:Bld} (h1:1≤s.o.length) (h2:s.o.length≤9):1≤(bStep code s).o.length∧(bStep code s).o.length≤9:=by
  unfold bStep
  dsimp only
  split
  · rename_i q
    rw [bStart_o]
    exact ⟨by dsimp only;omega,by dsimp only;omega⟩
  · split
    · exact ⟨by show 1≤s.o.dropLast.length;simp;omega,by show s.o.dropLast.length≤9;simp;omega⟩
    · split
      · rw [(aside_le code ⟨bA code s.at_,s.l,s.o⟩).2.2.2]
        exact ⟨h1,h2⟩
      · split <;> exact ⟨h1,h2⟩
theorem BMid.step {code:Bs} {s:Bld} (h:BMid code s) (hlt:s.at_<code.length):BMid code (bStep code s):=by
  have q:=step_le code s hlt
  have q2:=step_o (code:=code) h.o1 h.o9
  refine ⟨q.2.1,by have:=h.l;omega,fun e => ?_,q2.1,q2.2⟩
  have h3:=q.2.2.2
  rw [e] at h3
  exact h.l0 (List.length_eq_zero_iff.1 (by simpa using h3))
theorem BdR.got {n0:Nat} {w:World} {b:Nat} {code:Bs} {p:Nat} {es:List (Ev × Value)} {o:List Bs} {L:BLay} (h:BdR n0 w b code p es o L):∃ fp,Got w (.slice L.la es.length L.lc) (es.map (·.1)) fp∧∀ k ∈ fp,n0≤k∧k<w.heap.size:=by
  have hrow:w.ownsRow n0 53 5 (.slice L.la es.length L.lc) es.length (evsRow es):=h.br.rows.own (blRow es L) (by simp [bdRows])
  refine ⟨(Value.slice L.la es.length L.lc).ownBlock.toList ++ blks (es.map evRow),⟨es,rfl,?_,fun x hx=>ownsRow_base (h.ats x hx) (Nat.zero_le _),fun k hk=>by rw [hk];simp,fun k hk=>⟨List.mem_append_right _ hk,fun e => ?_⟩⟩,fun k hk => ?_⟩
  · rw [List.length_map];exact ownsRow_base hrow (Nat.zero_le _)
  · obtain ⟨r,hr,hrk⟩:=List.mem_filterMap.1 hk
    obtain ⟨x,hx,rfl⟩:=List.mem_map.1 hr
    exact (h.ap x hx k hrk).2 (List.mem_filterMap.2 ⟨blRow es L,by simp [bdRows],e⟩)
  · rcases List.mem_append.1 hk with hk | hk
    · have hk:(Value.slice L.la es.length L.lc).ownBlock=some k:=by simpa using hk
      exact World.ownsRow.lt hrow k hk
    · obtain ⟨r,hr,hrk⟩:=List.mem_filterMap.1 hk
      obtain ⟨x,hx,rfl⟩:=List.mem_map.1 hr
      exact World.ownsRow.lt (h.ats x hx) k hrk
theorem BdR.last {n0:Nat} {w:World} {b:Nat} {code:Bs} {p:Nat} {es:List (Ev × Value)} {o:List Bs} {L:BLay} (h:BdR n0 w b code p es o L) (h0:es ≠ []):∃ g,L.la=some ⟨g,0,none⟩∧g<w.heap.size∧w.cell? ⟨g,(es.length - 1) * 5,none⟩=some (.int .i64 (lastK (es.map (·.1)))):=by
  have hl:0<es.length:=List.length_pos_iff.2 h0
  obtain ⟨fp,hg,_⟩:=h.got
  obtain ⟨g,c,aa,ac,hv,hgl,c0,_⟩:=hg.at2 (es.length - 1) (by rw [List.length_map];omega)
  injection hv with hv _ _
  refine ⟨g,hv,hgl,?_⟩
  rw [c0]
  congr 2
  unfold lastK
  rw [List.getLast?_eq_getElem?,List.getElem?_eq_getElem (by rw [List.length_map];omega)]
  simp
theorem bdx_new (w:World) (code:Bs):BdX w.heap.size (w.alloc (.cells #[.string ⟨code.toArray⟩,.int .i64 0,.slice none 0 0,.slice none 0 0] 83)) w.heap.size code ⟨0,[],[]⟩:=by
  refine ⟨[],⟨none,0,none,0⟩,rfl,⟨⟨heap_alloc_new w _,⟨fun r hr => ?_,?_⟩,?_,Nat.le_refl _⟩,(fun x hx=>(by cases hx)),(fun x hx=>(by cases hx))⟩⟩
  · simp [bdRows] at hr
    rcases hr with rfl | rfl
    · exact owned_nil ⟨rfl,rfl,rfl⟩
    · exact owned_nil ⟨rfl,rfl,rfl⟩
  · simp [bdRows,blRow,boRow,blks,Value.ownBlock]
  · simp [bdRows,blRow,boRow,blks,Value.ownBlock]
theorem asides_le (code:Bs):∀ (n:Nat) (s:Bld),s.at_≤code.length→(bAsides code n s).at_≤code.length∧(bAsides code n s).l.length=s.l.length + n∧(bAsides code n s).o=s.o
  | 0,s,h=>⟨h,rfl,rfl⟩
  | n + 1,s,h=>by
    have q:=aside_le code s
    have r:=asides_le code n (bAside code s) (q.2.1 h)
    exact ⟨r.1,by show (bAsides code n (bAside code s)).l.length=_;rw [r.2.1,q.2.2.1];omega,r.2.2.trans q.2.2.2⟩
theorem bend_all {n0:Nat} {w:World} {b:Nat} {code:Bs} {s:Bld} (h:BdX n0 w b code s) (ho:s.o ≠ []) (hl:s.l.length≤1000000) (hol:s.o.length≤1000) :
    Calls Tryz.prog 48 #[.pointer (some ⟨b,0,none⟩)] w fun r w' => r = .returned (.tuple #[])∧BdX n0 w' b code (bEnd s)∧Below n0 w w' := by
  obtain ⟨p,l,o⟩:=s
  obtain ⟨es,L,rfl,h⟩:=h
  obtain ⟨ol,x,rfl⟩:∃ ol x,o=ol ++ [x]:=⟨o.dropLast,o.getLast ho,(List.dropLast_concat_getLast ho).symm⟩
  refine (bend_any h (by simpa using hl) (by simp at hol;omega)).mono ?_
  rintro r w' ⟨rfl,L', h', hb⟩
  have h2:BdR n0 w' b code p (es ++ [(⟨2,x,[],[],[]⟩,.slice none 0 0)]) (ol ++ [x]).dropLast L' := by
    rw [List.dropLast_concat]
    exact h'
  exact ⟨rfl,⟨_,L', by unfold bEnd;simp,h2⟩,hb⟩
set_option maxHeartbeats 4000000 in
set_option maxRecDepth 100000 in
theorem built_any (code0:Bs) (w:World) (hT:GlB w) (hn:6<w.heap.size) (hc0:code0.length≤9223372036854775807) :
    Calls Tryz.prog 23 #[.string ⟨code0.toArray⟩] w fun e w' => ∃ v fp,e = .returned v∧Got w' v (bAll (code0.take 200)).l fp∧(∀ k ∈ fp,w.heap.size≤k∧k<w'.heap.size)∧Below w.heap.size w w' := by
  obtain ⟨code,hcode⟩:∃ c,c=code0.take 200:=⟨_,rfl⟩
  rw [← hcode]
  have hc:code.length≤200:=by rw [hcode,List.length_take];omega
  have HT:=hide hT
  have HC:=hide hcode
  clear hT hcode
  go_enter Tryz.func23,Tryz.ntmps23
  go_upto_if 11 with fail
  go_cut [0] (fun s0 wx=>wx=w∧s0 = .string ⟨code.toArray⟩)
  case first =>
    by_cases h2:code0.length≤200
    · have e1:decide ((code0.length:Int) > 200)=false:=by simp;omega
      have e2:decide (200<(code0.length:Int))=false:=by simp;omega
      have hcc:code=code0:=by rw [unhide HC,List.take_of_length_le h2]
      subst hcc
      go_wp2
      go_meet
      exact ⟨rfl,rfl⟩
    · have e1:decide ((code0.length:Int) > 200)=true:=by simp;omega
      have e2:decide (200<(code0.length:Int))=true:=by simp;omega
      have hcc:(ByteArray.extract ⟨code0.toArray⟩ 0 200)=⟨code.toArray⟩:=by rw [spTake,unhide HC]
      have k1:(200:Int)≤(code0.length:Int):=by omega
      have k2:¬ (code0.length:Int)<200:=by omega
      go_wp2
      go_meet
      exact ⟨rfl,rfl⟩
  case rest =>
  obtain ⟨hwc,rfl⟩:=hcut
  obtain rfl:=hwc.symm
  have HX0:=hide (bdx_new w code)
  have hbA:Below w.heap.size w (w.alloc (.cells #[.string ⟨code.toArray⟩,.int .i64 0,.slice none 0 0,.slice none 0 0] 83)):=(Below.refl _ _).alloc (Nat.le_refl _) _
  have HBA:=hide hbA
  obtain ⟨es0,L0', he0,hb0⟩:=bdx_new w code
  have H1:=hide (bnext_any hb0 hc 3 (by decide) (by decide))
  clear hbA HC hc0
  go_wp2_with fail
  refine (unhide H1).mono ?_
  rintro e w1 ⟨rfl,g1,o1⟩
  have HI1:Hid (BdX w.heap.size w1 w.heap.size code ⟨bA code 0,[],[]⟩∧Below w.heap.size w w1):=⟨⟨es0,L0', he0,g1⟩,(unhide HBA).trans (o1.below (Nat.le_refl _) (by simp))⟩
  have hk3:=bN_lt code 0 3 (by decide)
  obtain ⟨S0,hS0⟩:∃ S,S=bAsides code (bN code 0 3) ⟨bA code 0,[],[]⟩:=⟨_,rfl⟩
  have HS0:=hide hS0
  have HSY:=hide hS0
  have hle0:=asides_le code (bN code 0 3) ⟨bA code 0,[],[]⟩ ((bA_le code 0).2.1 (Nat.zero_le _))
  rw [← hS0] at hle0
  clear g1 o1 H1 HX0 HBA hb0 he0 hS0
  go_wp2_with fail
  go_loopg [4] (bN code 0 3) (fun g s4 wx=>∃ (m:Nat) (s:Bld),g=m∧s4 = .int .i64 (m:Int)∧m≤2∧s.l.length≤2∧Hid (BdX w.heap.size wx w.heap.size code s∧Below w.heap.size w wx)∧Hid (S0=bAsides code m s∧s.l.length + m≤2))
  case atStart=>exact ⟨bN code 0 3,⟨bA code 0,[],[]⟩,rfl,rfl,by omega,by simp,unhide HI1,unhide HS0,by simp;omega⟩
  case round =>
    obtain ⟨m,s,hgm,rfl,hg2,hsl,HQ,HE⟩:=hrel
    have hgm:=hgm.symm
    subst hgm
    clear HI1 HS0
    cases m with
    | succ m =>
      have e1:decide (((m + 1:Nat):Int) > 0)=true:=by simp
      have e2:decide ((0:Int)<((m + 1:Nat):Int))=true:=by simp
      have e3:(((m + 1:Nat):Int)) - 1=(m:Int):=by omega
      have HA:=hide (baside_any (unhide HQ).1 hc ((unhide HT).keep hn (unhide HQ).2) hn (by omega))
      go_wp2_with fail
      refine (unhide HA).mono ?_
      rintro e w2 ⟨rfl,x2,b2⟩
      have HN:=hide (And.intro x2 ((unhide HQ).2.trans b2))
      have hl2:=(aside_le code s).2.2.1
      have HE2:Hid (S0=bAsides code m (bAside code s)∧(bAside code s).l.length + m≤2):=⟨(unhide HE).1,by rw [hl2];have:=(unhide HE).2;omega⟩
      clear x2 b2 HA HQ HE
      go_wp2
      go_roundg m
      case measure=>omega
      case rel=>exact ⟨m,bAside code s,rfl,by simp,by omega,by have:=(unhide HE2).2;omega,unhide HN,unhide HE2⟩
    | zero =>
      have hse:S0=s:=(unhide HE).1
      subst hse
      have HSX:Hid (S0=bAsides code (bN code 0 3) ⟨bA code 0,[],[]⟩):=unhide HSY
      have HST:=hide (bstart_any (unhide HQ).1 hc ((unhide HT).keep hn (unhide HQ).2) hn (by omega) (by rw [hle0.2.2];decide))
      clear HE
      go_wp2_with fail
      refine (unhide HST).mono ?_
      rintro e w2 ⟨rfl,x2,b2⟩
      have hsle:=start_le code S0
      have hmid:BMid code (bStart code S0):=⟨hsle.2.1 hle0.1,by rw [hsle.2.2];omega,fun e=>by have:=hsle.2.2;rw [e] at this;simp at this,by rw [bStart_o];omega,by rw [bStart_o,hle0.2.2];decide⟩
      obtain ⟨SO,hSO⟩:∃ S,S=bLoop code code.length (bStart code S0):=⟨_,rfl⟩
      have HI2:Hid (BdX w.heap.size w2 w.heap.size code (bStart code S0)∧Below w.heap.size w w2):=⟨x2,(unhide HQ).2.trans b2⟩
      have HI3:Hid (BMid code (bStart code S0)∧SO=bLoop code (code.length - (bStart code S0).at_) (bStart code S0)):=⟨hmid,hSO.trans (bLoop_fuel code _ _ _ (by omega) (by omega))⟩
      have HSA:Hid (SO=bOpen code):=by
        show _=_
        rw [hSO]
        unfold bOpen
        rw [unhide HSX]
      generalize bStart code S0=S1 at *
      clear x2 b2 HST HQ hsle hmid hSO hle0 hg2 hsl hk3
      go_wp2_with fail
      go_loopg [] (code.length - S1.at_) (fun g wx=>∃ (s:Bld),g=code.length - s.at_∧Hid (BdX w.heap.size wx w.heap.size code s∧Below w.heap.size w wx)∧Hid (BMid code s∧SO=bLoop code (code.length - s.at_) s))
      case atStart=>exact ⟨S1,rfl,unhide HI2,unhide HI3⟩
      case round =>
        obtain ⟨s,rfl,HQ,HE⟩:=hrel
        clear HI2 HI3
        obtain ⟨p,l,o⟩:=s
        obtain ⟨es,L,rfl,hb⟩:∃ (es:List (Ev × Value)) (L:BLay),es.map (·.1)=l∧BdR w.heap.size wr w.heap.size code p es o L:=(unhide HQ).1
        have hmid:=(unhide HE).1
        have hm1:p≤code.length:=hmid.at_
        have hm2:es.length≤10 + p:=by have:=hmid.l;simpa using this
        have hm3:es ≠ []:=fun e=>hmid.l0 (by rw [e];rfl)
        have hm4:1≤o.length:=hmid.o1
        have hm5:o.length≤9:=hmid.o9
        have hcl:=hb.cell
        have hlt:=hb.lt
        unfold bdCells at hcl
        by_cases hp:p<code.length
        · have e1:decide ((p:Int)<(code.length:Int))=true:=by simp;omega
          have HN:=hide (bnext_any hb hc 6 (by decide) (by decide))
          have hk6:=bN_lt code p 6 (by decide)
          have HBL:=hide (unhide HQ).2
          clear hb HQ
          go_wp2_with fail
          refine (unhide HN).mono ?_
          rintro e w3 ⟨rfl,g3,o3⟩
          have hcl3:=g3.cell
          have hlt3:=g3.lt
          obtain ⟨gl,hla,hgl,hck⟩:=g3.last hm3
          have hes:es.length ≠ 0:=fun e=>hm3 (List.length_eq_zero_iff.1 e)
          have ei:((es.length:Int)) - 1=((es.length - 1:Nat):Int):=by omega
          have hlt5:((es.length - 1:Nat):Int)<(es.length:Int):=by omega
          unfold bdCells at hcl3
          rw [hla] at hcl3
          have hla2:L.la=some ⟨gl,0,none⟩:=hla
          have HB3:Hid (BdR w.heap.size w3 w.heap.size code (bA code p) es o L∧Below w.heap.size w w3):=⟨g3,(unhide HBL).trans (o3.below (Nat.le_refl _) (by have:=(unhide HBL).size;omega))⟩
          clear g3 o3 HN HBL hcl hla
          go_wp2
          go_quiet (fail)
          have HB4:Hid (BdX w.heap.size (w3.drewN nq) w.heap.size code ⟨bA code p,es.map (·.1),o⟩∧Below w.heap.size w (w3.drewN nq)):=⟨⟨es,L,rfl,(unhide HB3).1.drewN _⟩,(unhide HB3).2.trans ⟨rfl,rfl,rfl,Nat.le_of_eq (by rw [heap_drewN]),fun _ _=>by rw [heap_drewN]⟩⟩
          have hT4:=(unhide HT).keep hn (unhide HB4).2
          have HT4:=hide hT4
          have hst:=step_le code ⟨p,es.map (·.1),o⟩ hp
          obtain ⟨S9,hS9⟩:∃ S,S=bStep code ⟨p,es.map (·.1),o⟩:=⟨_,rfl⟩
          rw [← hS9] at hst
          have hst1:p<S9.at_:=hst.1
          have hst2:=hst.2.1
          have HNX:Hid (BMid code S9∧SO=bLoop code (code.length - S9.at_) S9):=by
            refine ⟨by rw [hS9];exact hmid.step hp,?_⟩
            rw [(unhide HE).2]
            obtain ⟨n,hn'⟩:∃ n,code.length - p=n + 1:=⟨code.length - p - 1,by omega⟩
            show bLoop code (code.length - p) _=_
            rw [hn', bLoop_one code n _ hp, ← hS9]
            exact bLoop_fuel code _ _ _ (by omega) (by omega)
          obtain ⟨k6,hk6e⟩:∃ k,k=bN code p 6:=⟨_,rfl⟩
          have HS9:Hid (∀ k,k=k6→S9=(if k<2∧o.length<9 then bStart code ⟨bA code p,es.map (·.1),o⟩ else if k=2∧1<o.length then bEnd ⟨bA code p,es.map (·.1),o⟩ else if k=3 then bAside code ⟨bA code p,es.map (·.1),o⟩ else if 3<k∧lastK (es.map (·.1)) ≠ 3 then ⟨bA code (bA code (bA code p)),es.map (·.1) ++ [⟨3,[],[],bVal (bN code (bA code p) 10) ++ bVal (bN code (bA code (bA code p)) 10),[]⟩],o⟩ else ⟨bA code p,es.map (·.1),o⟩)):=by
            rintro k rfl
            rw [hS9,hk6e]
            rfl
          have hcl4:∀ j,(w3.drewN nq).cell? ⟨w.heap.size,j,none⟩=[.string ⟨code.toArray⟩,.int .i64 ((bA code p:Nat):Int),.slice (some ⟨gl,0,none⟩) es.length L.lc,.slice L.oa o.length L.oc][j]? := fun j=>by
            rw [← hcl3 j]
            simp only [World.cell?]
            rw [heap_drewN]
          have hlt4:w.heap.size<(w3.drewN nq).heap.size:=by rw [heap_drewN];exact hlt3
          have hlk:es.length≤210:=by omega
          have HESL:Hid ((es.map (·.1)).length≤1000000):=by show _≤_;rw [List.length_map];omega
          rw [← hk6e] at hk6 ⊢
          generalize lastK (es.map (·.1))=lk at *
          generalize hw4:w3.drewN nq=w4 at *
          have hkc:k6=0∨k6=1∨k6=2∨k6=3∨k6=4∨k6=5:=by omega
          clear hk6 hk6e hS9 hst HE hmid HB3 hck hcl3 hT4 hw4 hlt3 hgl hla2 hlt5 ei hes
          rcases hkc with rfl | rfl | rfl | rfl | rfl | rfl
          · by_cases h99:o.length<9
            · have t9:decide ((o.length:Int)<9)=true:=by simp;omega
              have h9:S9=bStart code ⟨bA code p,es.map (·.1),o⟩:=by rw [unhide HS9 0 rfl,if_pos ⟨by decide,h99⟩]
              have HC:=hide (bstart_any (unhide HB4).1 hc (unhide HT4) hn (unhide HESL) (by show o.length≤1000;omega))
              go_wp2_with fail
              refine (unhide HC).mono ?_
              rintro e w5 ⟨rfl,x5,b5⟩
              rw [← h9] at x5
              have HN5:=hide (And.intro x5 ((unhide HB4).2.trans b5))
              clear x5 b5 HC HB4 HT4 h9 HS9 hcl4
              go_wp2
              go_roundg (code.length - S9.at_)
              case measure=>omega
              case rel=>exact ⟨S9,rfl,unhide HN5,unhide HNX⟩
            · have t9:decide ((o.length:Int)<9)=false:=by simp;omega
              have h9:S9=⟨bA code p,es.map (·.1),o⟩:=by rw [unhide HS9 0 rfl,if_neg (fun q=>h99 q.2),if_neg (fun q=>absurd q.1 (by decide)),if_neg (by decide),if_neg (fun q=>absurd q.1 (by decide))]
              have HN5:Hid (BdX w.heap.size w4 w.heap.size code S9∧Below w.heap.size w w4):=by rw [h9];exact unhide HB4
              clear HB4 HT4 h9 HS9
              go_wp2
              go_roundg (code.length - S9.at_)
              case measure=>omega
              case rel=>exact ⟨S9,rfl,unhide HN5,unhide HNX⟩
          · by_cases h99:o.length<9
            · have t9:decide ((o.length:Int)<9)=true:=by simp;omega
              have h9:S9=bStart code ⟨bA code p,es.map (·.1),o⟩:=by rw [unhide HS9 1 rfl,if_pos ⟨by decide,h99⟩]
              have HC:=hide (bstart_any (unhide HB4).1 hc (unhide HT4) hn (unhide HESL) (by show o.length≤1000;omega))
              go_wp2_with fail
              refine (unhide HC).mono ?_
              rintro e w5 ⟨rfl,x5,b5⟩
              rw [← h9] at x5
              have HN5:=hide (And.intro x5 ((unhide HB4).2.trans b5))
              clear x5 b5 HC HB4 HT4 h9 HS9 hcl4
              go_wp2
              go_roundg (code.length - S9.at_)
              case measure=>omega
              case rel=>exact ⟨S9,rfl,unhide HN5,unhide HNX⟩
            · have t9:decide ((o.length:Int)<9)=false:=by simp;omega
              have h9:S9=⟨bA code p,es.map (·.1),o⟩:=by rw [unhide HS9 1 rfl,if_neg (fun q=>h99 q.2),if_neg (fun q=>absurd q.1 (by decide)),if_neg (by decide),if_neg (fun q=>absurd q.1 (by decide))]
              have HN5:Hid (BdX w.heap.size w4 w.heap.size code S9∧Below w.heap.size w w4):=by rw [h9];exact unhide HB4
              clear HB4 HT4 h9 HS9
              go_wp2
              go_roundg (code.length - S9.at_)
              case measure=>omega
              case rel=>exact ⟨S9,rfl,unhide HN5,unhide HNX⟩
          · by_cases h99:1<o.length
            · have t9:decide ((o.length:Int) > 1)=true:=by simp;omega
              have t8:decide ((1:Int)<(o.length:Int))=true:=by simp;omega
              have h9:S9=bEnd ⟨bA code p,es.map (·.1),o⟩:=by rw [unhide HS9 2 rfl,if_neg (fun q=>absurd q.1 (by decide)),if_pos ⟨rfl,h99⟩]
              have HC:=hide (bend_all (unhide HB4).1 (fun e=>by have e:o=[]:=e;rw [e] at h99;cases h99) (unhide HESL) (by show o.length≤1000;omega))
              go_wp2_with fail
              refine (unhide HC).mono ?_
              rintro e w5 ⟨rfl,x5,b5⟩
              rw [← h9] at x5
              have HN5:=hide (And.intro x5 ((unhide HB4).2.trans b5))
              clear x5 b5 HC HB4 HT4 h9 HS9 hcl4
              go_wp2
              go_roundg (code.length - S9.at_)
              case measure=>omega
              case rel=>exact ⟨S9,rfl,unhide HN5,unhide HNX⟩
            · have t9:decide ((o.length:Int) > 1)=false:=by simp;omega
              have t8:decide ((1:Int)<(o.length:Int))=false:=by simp;omega
              have h9:S9=⟨bA code p,es.map (·.1),o⟩:=by rw [unhide HS9 2 rfl,if_neg (fun q=>absurd q.1 (by decide)),if_neg (fun q=>h99 q.2),if_neg (by decide),if_neg (fun q=>absurd q.1 (by decide))]
              have HN5:Hid (BdX w.heap.size w4 w.heap.size code S9∧Below w.heap.size w w4):=by rw [h9];exact unhide HB4
              clear HB4 HT4 h9 HS9
              go_wp2
              go_roundg (code.length - S9.at_)
              case measure=>omega
              case rel=>exact ⟨S9,rfl,unhide HN5,unhide HNX⟩
          · have h9:S9=bAside code ⟨bA code p,es.map (·.1),o⟩:=by rw [unhide HS9 3 rfl,if_neg (fun q=>absurd q.1 (by decide)),if_neg (fun q=>absurd q.1 (by decide)),if_pos rfl]
            have HC:=hide (baside_any (unhide HB4).1 hc (unhide HT4) hn (unhide HESL))
            go_wp2_with fail
            refine (unhide HC).mono ?_
            rintro e w5 ⟨rfl,x5,b5⟩
            rw [← h9] at x5
            have HN5:=hide (And.intro x5 ((unhide HB4).2.trans b5))
            clear x5 b5 HC HB4 HT4 h9 HS9 hcl4
            go_wp2
            go_roundg (code.length - S9.at_)
            case measure=>omega
            case rel=>exact ⟨S9,rfl,unhide HN5,unhide HNX⟩
          · by_cases h99:lk=3
            · have t9:(lk != 3)=false:=by simp [h99]
              have h9:S9=⟨bA code p,es.map (·.1),o⟩:=by rw [unhide HS9 4 rfl,if_neg (fun q=>absurd q.1 (by decide)),if_neg (fun q=>absurd q.1 (by decide)),if_neg (by decide),if_neg (fun q=>q.2 h99)]
              have HN5:Hid (BdX w.heap.size w4 w.heap.size code S9∧Below w.heap.size w w4):=by rw [h9];exact unhide HB4
              clear HB4 HT4 h9 HS9
              go_wp2
              go_roundg (code.length - S9.at_)
              case measure=>omega
              case rel=>exact ⟨S9,rfl,unhide HN5,unhide HNX⟩
            · have t9:(lk != 3)=true:=by simp [h99]
              have h9:S9=⟨bA code (bA code (bA code p)),es.map (·.1) ++ [⟨3,[],[],bVal (bN code (bA code p) 10) ++ bVal (bN code (bA code (bA code p)) 10),[]⟩],o⟩:=by rw [unhide HS9 4 rfl,if_neg (fun q=>absurd q.1 (by decide)),if_neg (fun q=>absurd q.1 (by decide)),if_neg (by decide),if_pos ⟨by decide,h99⟩]
              obtain ⟨es2,L2,he2,hb2⟩:=(unhide HB4).1
              have hv1:=bN_lt code (bA code p) 10 (by decide)
              have hv2:=bN_lt code (bA code (bA code p)) 10 (by decide)
              have H5:=hide (bnext_any hb2 hc 10 (by decide) (by decide))
              have hle2:es2.length≤1000000:=by have:=congrArg List.length he2;simp at this;omega
              have HE2:=hide he2
              clear hb2 he2 hcl4
              go_wp2_with fail
              refine (unhide H5).mono ?_
              rintro e w5 ⟨rfl,g5,o5⟩
              have H6:=hide (bnext_any g5 hc 10 (by decide) (by decide))
              have HB5:=hide ((unhide HB4).2.trans (o5.below (Nat.le_refl _) (by have:=(unhide HB4).2.size;omega)))
              clear g5 o5 H5
              go_wp2_with fail
              refine (unhide H6).mono ?_
              rintro e w6 ⟨rfl,g6,o6⟩
              have HB6:=hide ((unhide HB5).trans (o6.below (Nat.le_refl _) (by have:=(unhide HB5).size;omega)))
              have hT6:=(unhide HT).keep hn (unhide HB6)
              have cv1:=hT6.va _ hv1
              have cv2:=hT6.va _ hv2
              have hx1:=bVal_len (bN code (bA code p) 10)
              have hx2:=bVal_len (bN code (bA code (bA code p)) 10)
              have hI1:((bN code (bA code p) 10:Nat):Int)<10:=by omega
              have hI2:((bN code (bA code (bA code p)) 10:Nat):Int)<10:=by omega
              have g6d:BdR w.heap.size w6.drew w.heap.size code (bA code (bA code (bA code p))) es2 o L2:=g6.drewN 1
              have H7:=hide (btell_any g6d 3 [] [] (bVal (bN code (bA code p) 10) ++ bVal (bN code (bA code (bA code p)) 10)) [] none 0 (nil_owned _ _ _ _ _ _) (fun q hq=>by cases hq) hle2)
              have hsz:6<w6.heap.size:=by have:=(unhide HB6).size;omega
              have hcat:¬ 9223372036854775807<(bVal (bN code (bA code p) 10)).length + (bVal (bN code (bA code (bA code p)) 10)).length:=by omega
              clear g6 g6d o6 H6 hT6 HB4 HB5 HT4 HS9
              generalize bVal (bN code (bA code p) 10)=X1 at *
              generalize bVal (bN code (bA code (bA code p)) 10)=X2 at *
              generalize bN code (bA code p) 10=v1 at *
              generalize bN code (bA code (bA code p)) 10=v2 at *
              go_wp2_with fail
              go_region_with (go_at_call 49;rw [cat_two];refine (unhide H7).mono ?_;rintro e w7 ⟨rfl,L7,g7,b7⟩;have HN5:Hid (BdX w.heap.size w7 w.heap.size code S9∧Below w.heap.size w w7):=⟨by rw [h9];exact ⟨_,L7,by simp [← unhide HE2],g7⟩,(unhide HB6).trans ⟨b7.os,b7.tape,b7.output,b7.size,b7.block⟩⟩;clear g7 b7 H7 HB6 cv1 cv2 h9)
              all_goals
                go_wp2
                go_roundg (code.length - S9.at_)
                case measure=>omega
                case rel=>exact ⟨S9,rfl,unhide HN5,unhide HNX⟩
          · by_cases h99:lk=3
            · have t9:(lk != 3)=false:=by simp [h99]
              have h9:S9=⟨bA code p,es.map (·.1),o⟩:=by rw [unhide HS9 5 rfl,if_neg (fun q=>absurd q.1 (by decide)),if_neg (fun q=>absurd q.1 (by decide)),if_neg (by decide),if_neg (fun q=>q.2 h99)]
              have HN5:Hid (BdX w.heap.size w4 w.heap.size code S9∧Below w.heap.size w w4):=by rw [h9];exact unhide HB4
              clear HB4 HT4 h9 HS9
              go_wp2
              go_roundg (code.length - S9.at_)
              case measure=>omega
              case rel=>exact ⟨S9,rfl,unhide HN5,unhide HNX⟩
            · have t9:(lk != 3)=true:=by simp [h99]
              have h9:S9=⟨bA code (bA code (bA code p)),es.map (·.1) ++ [⟨3,[],[],bVal (bN code (bA code p) 10) ++ bVal (bN code (bA code (bA code p)) 10),[]⟩],o⟩:=by rw [unhide HS9 5 rfl,if_neg (fun q=>absurd q.1 (by decide)),if_neg (fun q=>absurd q.1 (by decide)),if_neg (by decide),if_pos ⟨by decide,h99⟩]
              obtain ⟨es2,L2,he2,hb2⟩:=(unhide HB4).1
              have hv1:=bN_lt code (bA code p) 10 (by decide)
              have hv2:=bN_lt code (bA code (bA code p)) 10 (by decide)
              have H5:=hide (bnext_any hb2 hc 10 (by decide) (by decide))
              have hle2:es2.length≤1000000:=by have:=congrArg List.length he2;simp at this;omega
              have HE2:=hide he2
              clear hb2 he2 hcl4
              go_wp2_with fail
              refine (unhide H5).mono ?_
              rintro e w5 ⟨rfl,g5,o5⟩
              have H6:=hide (bnext_any g5 hc 10 (by decide) (by decide))
              have HB5:=hide ((unhide HB4).2.trans (o5.below (Nat.le_refl _) (by have:=(unhide HB4).2.size;omega)))
              clear g5 o5 H5
              go_wp2_with fail
              refine (unhide H6).mono ?_
              rintro e w6 ⟨rfl,g6,o6⟩
              have HB6:=hide ((unhide HB5).trans (o6.below (Nat.le_refl _) (by have:=(unhide HB5).size;omega)))
              have hT6:=(unhide HT).keep hn (unhide HB6)
              have cv1:=hT6.va _ hv1
              have cv2:=hT6.va _ hv2
              have hx1:=bVal_len (bN code (bA code p) 10)
              have hx2:=bVal_len (bN code (bA code (bA code p)) 10)
              have hI1:((bN code (bA code p) 10:Nat):Int)<10:=by omega
              have hI2:((bN code (bA code (bA code p)) 10:Nat):Int)<10:=by omega
              have g6d:BdR w.heap.size w6.drew w.heap.size code (bA code (bA code (bA code p))) es2 o L2:=g6.drewN 1
              have H7:=hide (btell_any g6d 3 [] [] (bVal (bN code (bA code p) 10) ++ bVal (bN code (bA code (bA code p)) 10)) [] none 0 (nil_owned _ _ _ _ _ _) (fun q hq=>by cases hq) hle2)
              have hsz:6<w6.heap.size:=by have:=(unhide HB6).size;omega
              have hcat:¬ 9223372036854775807<(bVal (bN code (bA code p) 10)).length + (bVal (bN code (bA code (bA code p)) 10)).length:=by omega
              clear g6 g6d o6 H6 hT6 HB4 HB5 HT4 HS9
              generalize bVal (bN code (bA code p) 10)=X1 at *
              generalize bVal (bN code (bA code (bA code p)) 10)=X2 at *
              generalize bN code (bA code p) 10=v1 at *
              generalize bN code (bA code (bA code p)) 10=v2 at *
              go_wp2_with fail
              go_region_with (go_at_call 49;rw [cat_two];refine (unhide H7).mono ?_;rintro e w7 ⟨rfl,L7,g7,b7⟩;have HN5:Hid (BdX w.heap.size w7 w.heap.size code S9∧Below w.heap.size w w7):=⟨by rw [h9];exact ⟨_,L7,by simp [← unhide HE2],g7⟩,(unhide HB6).trans ⟨b7.os,b7.tape,b7.output,b7.size,b7.block⟩⟩;clear g7 b7 H7 HB6 cv1 cv2 h9)
              all_goals
                go_wp2
                go_roundg (code.length - S9.at_)
                case measure=>omega
                case rel=>exact ⟨S9,rfl,unhide HN5,unhide HNX⟩
        · have e1:decide ((p:Int)<(code.length:Int))=false:=by simp;omega
          have hso:SO=⟨p,es.map (·.1),o⟩:=by
            rw [(unhide HE).2]
            show bLoop code (code.length - p) _=_
            rw [show code.length - p=0 by omega]
            rfl
          obtain ⟨SE,hSE⟩:∃ S,S=bEnds o.length (⟨p,es.map (·.1),o⟩:Bld):=⟨_,rfl⟩
          have HFN:Hid (bAll code=bAside code SE):=by
            show _=_
            unfold bAll
            dsimp only
            rw [← unhide HSA,hso,hSE]
          have HL3:Hid (SE=bEnds o.length (⟨p,es.map (·.1),o⟩:Bld)∧o.length≤9∧(es.map (·.1)).length + o.length≤300):=⟨hSE,hm5,by rw [List.length_map];omega⟩
          have HQ3:=HQ
          clear hso hSE hmid HE HSA hb
          generalize es.map (·.1)=l0 at *
          go_wp2_with fail
          go_loopg [] o.length (fun g wx=>∃ (s:Bld),g=s.o.length∧Hid (BdX w.heap.size wx w.heap.size code s∧Below w.heap.size w wx)∧Hid (SE=bEnds s.o.length s∧s.o.length≤9∧s.l.length + s.o.length≤300))
          case atStart=>exact ⟨⟨p,l0,o⟩,rfl,unhide HQ3,unhide HL3⟩
          case round =>
            obtain ⟨s,rfl,HQ4,HE4⟩:=hrel
            clear HQ3 HL3 HQ hcl
            obtain ⟨p4,l4,o4⟩:=s
            obtain ⟨es4,L4,hes4,hb4⟩:∃ (es:List (Ev × Value)) (L:BLay),es.map (·.1)=l4∧BdR w.heap.size wr w.heap.size code p4 es o4 L:=(unhide HQ4).1
            have hcl4:=hb4.cell
            have hlt4:=hb4.lt
            unfold bdCells at hcl4
            by_cases ho4:o4.length=0
            · have t1:decide ((o4.length:Int) > 0)=false:=decide_eq_false (by omega)
              have t2:decide ((0:Int)<(o4.length:Int))=false:=decide_eq_false (by omega)
              have hse:SE=⟨p4,l4,o4⟩:=by
                rw [(unhide HE4).1]
                show bEnds o4.length _=_
                rw [ho4]
                rfl
              have HA:=hide (baside_any (unhide HQ4).1 hc ((unhide HT).keep hn (unhide HQ4).2) hn (by have:=(unhide HE4).2.2;dsimp only at this ⊢;omega))
              rw [← hse] at HA
              have HB4:=hide (unhide HQ4).2
              clear HE4 hse hb4 HQ4
              go_wp2_with fail
              refine (unhide HA).mono ?_
              rintro e w5 ⟨rfl,x5,b5⟩
              rw [← unhide HFN] at x5
              obtain ⟨es5,L5,he5,g5⟩:=x5
              have hcl5:=g5.cell
              have hlt5:=g5.lt
              obtain ⟨fp5,hg5,hf5⟩:=g5.got
              rw [he5] at hg5
              have HR:=hide (And.intro hg5 (And.intro hf5 ((unhide HB4).trans b5)))
              unfold bdCells at hcl5
              clear he5 g5 b5 HA HB4 hg5 hf5 hcl4
              go_wp2
              go_ret
              exact ⟨_,fp5,rfl,(unhide HR).1,(unhide HR).2.1,(unhide HR).2.2⟩
            · have t1:decide ((o4.length:Int) > 0)=true:=decide_eq_true (by omega)
              have t2:decide ((0:Int)<(o4.length:Int))=true:=decide_eq_true (by omega)
              have hne:o4 ≠ []:=fun e=>ho4 (by rw [e];rfl)
              have HA:=hide (bend_all (unhide HQ4).1 hne (by have:=(unhide HE4).2.2;dsimp only at this ⊢;omega) (by have:=(unhide HE4).2.1;dsimp only at this ⊢;omega))
              obtain ⟨S5,hS5⟩:∃ S,S=bEnd (⟨p4,l4,o4⟩:Bld):=⟨_,rfl⟩
              have hol:S5.o.length=o4.length - 1:=by rw [hS5];show o4.dropLast.length=_;simp
              have hll:S5.l.length=l4.length + 1:=by rw [hS5];show (l4 ++ [_]).length=_;simp
              have HE5:Hid (SE=bEnds S5.o.length S5∧S5.o.length≤9∧S5.l.length + S5.o.length≤300):=by
                have q:=unhide HE4
                dsimp only at q
                refine ⟨?_,by omega,by omega⟩
                rw [q.1,hol,hS5]
                obtain ⟨n,hn'⟩:∃ n,o4.length=n + 1:=⟨o4.length - 1,by omega⟩
                rw [hn']
                rfl
              rw [← hS5] at HA
              have HB4:=hide (unhide HQ4).2
              clear HE4 hb4 HQ4 hS5
              go_wp2_with fail
              refine (unhide HA).mono ?_
              rintro e w5 ⟨rfl,x5,b5⟩
              have HN5:=hide (And.intro x5 ((unhide HB4).trans b5))
              clear x5 b5 HA HB4 hcl4
              go_wp2
              go_roundg S5.o.length
              case measure=>show S5.o.length<o4.length;omega
              case rel=>exact ⟨S5,rfl,unhide HN5,unhide HE5⟩
open Go.ChangeShapes Go.WideShapes Go.ChangeAt Go.RowKit
def AbE (K:Nat) (e:Ev):Prop:=e.attrs.length≤32∧e.name.length≤K∧∀ y ∈ e.attrs,y.name.length≤K∧y.val.length≤K
def Ab (K:Nat) (s:St):Prop := ∀ e ∈ s.list,AbE K e
theorem ab_nil {K:Nat} (k:Int) (n sp v:Bs) (h:n.length≤K):AbE K ⟨k,n,sp,v,[]⟩:=⟨by simp,h,fun y hy=>by cases hy⟩
theorem ab_add {K:Nat} {s:St} (h:Ab K s) {e:Ev} (he:AbE K e):∀ x ∈ (Mk.add s e).list,AbE K x:=by
  intro x hx
  rw [add_list] at hx
  rcases List.mem_append.1 hx with hx | hx
  · split at hx
    · exact h x hx
    · rcases List.mem_append.1 hx with hx | hx
      · exact h x hx
      · simp at hx;subst hx;exact ab_nil _ _ _ _ (by simp)
  · simp at hx;subst hx;exact he
theorem ab_tells {k K:Nat} {s s1:St} (hw:W s) (hv:V s) (hi:Inv k s) (hk:k≤K) (h:Ab K s) (ht:Tells s s1):Ab K s1:=by
  have hst:∀ z:St,z.list=s.list→z.text=s.text→z.on=false→z.cnt=[]→z.attrs=s.attrs→z.name.length≤K→∀ x ∈ (Mk.tellStart z).list,AbE K x:=by
    intro z h1 h2 h3 h4 h5 h6 x hx
    rw [tellStart_off h4 h3] at hx
    refine ab_add (s:=z) (fun e he=>h e (by rw [← h1];exact he)) ⟨?_,h6,?_⟩ x hx
    · rw [h5];exact hi.ha
    · intro y hy
      rw [h5] at hy
      exact ⟨Nat.le_trans (hi.an y hy) hk,Nat.le_trans (hi.av y hy) hk⟩
  cases ht with
  | quiet q=>intro e he;rw [q.li] at he;exact h e he
  | comm e =>
    have e1:(Mk.endComment s).list=(Mk.add (Mk.dropToken { s with held:=[] }) ⟨4,[],[],s.token,[]⟩).list:=rfl
    intro x hx
    rw [e1] at hx
    exact ab_add (s:=Mk.dropToken { s with held:=[] }) h (ab_nil _ _ _ _ (by simp)) x hx
  | instr e =>
    have e1:(Mk.endInstruction s).list=(Mk.add (Mk.dropToken { s with held:=[] }) ⟨5,s.name,[],s.token,[]⟩).list:=rfl
    intro x hx
    rw [e1] at hx
    exact ab_add (s:=Mk.dropToken { s with held:=[] }) h (ab_nil _ _ _ _ (Nat.le_trans hi.hn hk)) x hx
  | start e =>
    rename_i s'
    have e1:(Mk.endStart s' 62).list=(Mk.tellStart s').list:=rfl
    intro x hx
    rw [e1] at hx
    rcases e with ⟨e,rfl⟩ | ⟨e,rfl⟩
    · exact hst { Mk.dropToken s with name:=s.token } rfl rfl hv.on hv.cn rfl (Nat.le_trans hi.ht hk) x hx
    · exact hst _ rfl rfl hv.on hv.cn rfl (Nat.le_trans hi.hn hk) x hx
  | slash e =>
    have hc:=tellStart_core s
    have h2:=tellEnd_list (s:=Mk.tellStart s) (by rw [hc];exact hv.cn) (by rw [hc];exact hv.on) s.name
    intro x hx
    have hx:x ∈ (Mk.tellEnd (Mk.tellStart s) s.name).list:=hx
    rw [h2.1] at hx
    exact ab_add (s:=Mk.tellStart s) (hst s rfl rfl hv.on hv.cn rfl (Nat.le_trans hi.hn hk)) (ab_nil _ _ _ _ (Nat.le_trans hi.hn hk)) x hx
  | ends e =>
    have h2:=tellEnd_list (s:={ s with opn:=s.opn.dropLast }) hv.cn hv.on (Mk.innermost s)
    have hn:(Mk.innermost s).length≤K:=by
      have hne:=hw.o1 (by omega)
      refine Nat.le_trans (hi.on _ ?_) hk
      unfold Mk.innermost
      rw [List.getLastD_eq_getLast?,List.getLast?_eq_some_getLast hne]
      exact List.getLast_mem hne
    intro x hx
    unfold Mk.endInnermost at hx
    rw [h2.1] at hx
    exact ab_add (s:={ s with opn:=s.opn.dropLast }) h (ab_nil _ _ _ _ hn) x hx
theorem ab_feedByte {k K:Nat} {s:St} (hw:W s) (hv:V s) (hi:Inv k s) (hk:k≤K) (h:Ab K s) (h0:s.ended=0) (x:UInt8) (he:(Mk.feedByte s x).ended=0):Ab K (Mk.feedByte s x):=by
  rcases feedByte_right h0 x he with e | ⟨b,r,l,c,hb,e1,e⟩
  · rw [e];exact h
  · rw [e]
    have h1:Ab K (Mk.readByte { s with at_:=s.at_ + 1,ret:=r } b).1:=ab_tells (hw.at (s.at_ + 1) r) (hv.at (s.at_ + 1) r) (k:=k) { hi with } hk h (tells_readByte (hw.at (s.at_ + 1) r) hv.on b e1)
    exact h1
def As0 (l:List Att):Prop := ∀ y ∈ l,y.space=[]
theorem ak_put (s:St) (c:Int):(Mk.put s c).attrs=s.attrs:=by unfold Mk.put;split <;> rfl
theorem ak_putAll:∀ (l:Bs) (s:St),(Mk.putAll s l).attrs=s.attrs
  | [],s=>rfl
  | x :: r,s=>(ak_putAll r _).trans (ak_put s _)
theorem ak_goOn (s:St) (p:Int × Int):(Mk.goOn s p).attrs=s.attrs:=by unfold Mk.goOn;split <;> simp only [ak_put]
theorem ak_readCharacter (s:St) (b:Int):(Mk.readCharacter s b).1.attrs=s.attrs:=by unfold Mk.readCharacter;(repeat' split) <;> simp only [ak_goOn,ak_putAll]
theorem ak_readPart (s:St) (b:Int):(Mk.readPart s b).1.attrs=s.attrs:=by unfold Mk.readPart;(repeat' split) <;> simp only [ak_goOn]
theorem ak_readReference (s:St) (b:Int):(Mk.readReference s b).1.attrs=s.attrs:=by unfold Mk.readReference Mk.setRef;(repeat' split) <;> simp only [ak_put]
theorem ak_readAttrSpace (s:St) (b:Int):(Mk.readAttrSpace s b).1.attrs=s.attrs:=by unfold Mk.readAttrSpace;(repeat' split) <;> rfl
theorem ak_endStart {s:St} (h:s.cnt=[]) (ho:s.on=false) (b:Int):(Mk.endStart s b).attrs=s.attrs∨(Mk.endStart s b).attrs=[]:=by
  unfold Mk.endStart
  split
  · exact .inl rfl
  · exact .inr rfl
theorem ak_readStartGap {s:St} (h:s.cnt=[]) (ho:s.on=false) (b:Int):(Mk.readStartGap s b).1.attrs=s.attrs∨(Mk.readStartGap s b).1.attrs=[]:=by
  unfold Mk.readStartGap Mk.endAttributes
  rw [ho]
  split
  · exact .inl rfl
  · split
    · exact ak_endStart h ho b
    · exact .inl rfl
theorem as_readByte {s:St} (hw:W s) (hv:V s) (h:As0 s.attrs) (b:Int) (he:(Mk.readByte s b).2=0):As0 (Mk.readByte s b).1.attrs:=by
  by_cases hl:0<s.pl
  · have e0:Mk.readByte s b=Mk.readPart s b:=by unfold Mk.readByte;rw [if_pos hl]
    rw [e0,ak_readPart];exact h
  · have hp:s.pl=0:=by have:=hw.p0;omega
    cases hr:Mk.isOpen s.rp
    · obtain ⟨f,hf,hz⟩:=rd_of hw.st hp hr b
      have hT:=tells_readByte hw hv.on b he
      rw [hz s rfl hp hr] at he hT ⊢
      have nil:∀ z:St,W z→¬ (13≤z.state∧z.state≤19)→As0 z.attrs:=fun z hz hs=>by rw [hz.at0 hs];intro y hy;cases hy
      cases hf with
      | r12 g =>
        unfold Mk.readStartName Mk.lengthenName at he ⊢
        split at he
        · rename_i g2;rw [if_pos g2]
          split at he
          · rename_i g3;rw [if_pos g3];show As0 (Mk.put s b).attrs;rw [ak_put];exact h
          · simp at he
        · rename_i g2;rw [if_neg g2]
          rcases ak_readStartGap (s:={ Mk.dropToken s with name:=s.token }) hv.cn hv.on b with e | e
          · rw [e];exact h
          · rw [e];intro y hy;cases hy
      | r13 g =>
        unfold Mk.readStartSpace at he ⊢
        split at he
        · rename_i g2;rw [if_pos g2]
          rcases ak_readStartGap hv.cn hv.on b with e | e
          · rw [e];exact h
          · rw [e];intro y hy;cases hy
        · rename_i g2;rw [if_neg g2]
          split at he
          · simp at he
          · rename_i g3;rw [if_neg g3];show As0 (Mk.put { s with state:=14 } b).attrs;rw [ak_put];exact h
      | r14 g =>
        unfold Mk.readAttrName Mk.lengthenAttrName
        (repeat' split) <;> first
          | (show As0 (Mk.put s b).attrs;rw [ak_put];exact h)
          | exact h
          | (rw [ak_readAttrSpace];exact h)
      | r15 g=>rw [ak_readAttrSpace];exact h
      | r16 g=>unfold Mk.readEquals;(repeat' split) <;> exact h
      | r17 g =>
        unfold Mk.readValue Mk.endValue Mk.setRef
        (repeat' split) <;> first
          | exact h
          | (rw [ak_readCharacter];exact h)
          | (intro y hy;rcases List.mem_append.1 hy with hy | hy;exact h y hy;simp at hy;subst hy;rfl)
      | r18 g =>
        rcases ak_readStartGap hv.cn hv.on b with e | e
        · rw [e];exact h
        · rw [e];intro y hy;cases hy
      | r19 g =>
        unfold Mk.readSlash at he ⊢
        split at he
        · simp at he
        · rename_i g2;rw [if_neg g2]
          show As0 (Mk.tellEnd (Mk.tellStart s) s.name).attrs
          rw [tellEnd_core,tellStart_core]
          intro y hy;cases hy
      | r0 g=>exact fun y hy=>by unfold Mk.readOutside at hy;(repeat' split at hy) <;> exact h y hy
      | r1 g=>exact fun y hy=>by unfold Mk.readContent Mk.setRef at hy;(repeat' split at hy) <;> first | exact h y hy | (rw [ak_readCharacter] at hy;exact h y hy)
      | r2 g=>exact fun y hy=>by unfold Mk.readSection at hy;(repeat' split at hy) <;> first | exact h y hy | (rw [ak_readCharacter] at hy;exact h y hy) | (have hy:y ∈ (Mk.put s 93).attrs:=hy;rw [ak_put] at hy;exact h y hy)
      | r3 g=>exact fun y hy=>by unfold Mk.readLess Mk.beginStart at hy;(repeat' split at hy) <;> first | exact h y hy | (have hy:y ∈ (Mk.put { s with state:=12 } b).attrs:=hy;rw [ak_put] at hy;exact h y hy)
      | r4 g=>exact fun y hy=>by unfold Mk.readBang at hy;(repeat' split at hy) <;> exact h y hy
      | r5 g=>exact fun y hy=>by unfold Mk.readDash at hy;(repeat' split at hy) <;> exact h y hy
      | r6 g=>exact fun y hy=>by unfold Mk.readSectionMark at hy;(repeat' split at hy) <;> exact h y hy
      | r7 g=>exact fun y hy=>by unfold Mk.readComment at hy;(repeat' split at hy) <;> first | exact h y hy | (rw [ak_readCharacter] at hy;exact h y hy) | (have hy:y ∈ (Mk.add (Mk.dropToken { s with held:=[] }) ⟨4,[],[],s.token,[]⟩).attrs:=hy;rw [add_core] at hy;exact h y hy)
      | r8 g=>exact fun y hy=>by unfold Mk.readInstructionName Mk.lengthenName at hy;(repeat' split at hy) <;> first | exact h y hy | (have hy:y ∈ (Mk.put s b).attrs:=hy;rw [ak_put] at hy;exact h y hy)
      | r9 g=>exact fun y hy=>by unfold Mk.readBareInstruction at hy;(repeat' split at hy) <;> first | exact h y hy | (have hy:y ∈ (Mk.add (Mk.dropToken { s with held:=[] }) ⟨5,s.name,[],s.token,[]⟩).attrs:=hy;rw [add_core] at hy;exact h y hy)
      | r10 g=>exact fun y hy=>by unfold Mk.readInstructionSpace Mk.readInstruction at hy;(repeat' split at hy) <;> first | exact h y hy | (rw [ak_readCharacter] at hy;exact h y hy) | (have hy:y ∈ (Mk.put { s with state:=11 } 63).attrs:=hy;rw [ak_put] at hy;exact h y hy) | (have hy:y ∈ (Mk.add (Mk.dropToken { s with state:=11,held:=[] }) ⟨5,s.name,[],s.token,[]⟩).attrs:=hy;rw [add_core] at hy;exact h y hy)
      | r11 g=>exact fun y hy=>by unfold Mk.readInstruction at hy;(repeat' split at hy) <;> first | exact h y hy | (rw [ak_readCharacter] at hy;exact h y hy) | (have hy:y ∈ (Mk.put s 63).attrs:=hy;rw [ak_put] at hy;exact h y hy) | (have hy:y ∈ (Mk.add (Mk.dropToken { s with held:=[] }) ⟨5,s.name,[],s.token,[]⟩).attrs:=hy;rw [add_core] at hy;exact h y hy)
      | r20 g=>exact fun y hy=>by unfold Mk.readEndName Mk.readEndSpace Mk.endInnermost at hy;(repeat' split at hy) <;> first | exact h y hy | (rw [tellEnd_core] at hy;exact h y hy)
      | r21 g=>exact fun y hy=>by unfold Mk.readEndSpace Mk.endInnermost at hy;(repeat' split at hy) <;> first | exact h y hy | (rw [tellEnd_core] at hy;exact h y hy)
    · have e0:Mk.readByte s b=Mk.readReference s b:=by unfold Mk.readByte;rw [if_neg hl,if_pos hr]
      rw [e0,ak_readReference];exact h
def Es0 (l:List Ev):Prop := ∀ e ∈ l,As0 e.attrs∧(e.kind ≠ 1→e.attrs=[])
theorem es_one {e:Ev} (h:e.attrs=[]):As0 e.attrs∧(e.kind ≠ 1→e.attrs=[]):=⟨(by rw [h];intro y hy;cases hy),fun _=>h⟩
theorem es_wT {s:St} (h:Es0 s.list):Es0 (wT s):=by
  unfold wT
  split
  · exact h
  · intro e he
    rcases List.mem_append.1 he with he | he
    · exact h e he
    · simp at he;subst he;exact es_one rfl
theorem es_add {s:St} (h:Es0 s.list) {e:Ev} (he:As0 e.attrs∧(e.kind ≠ 1→e.attrs=[])):Es0 (Mk.add s e).list:=by
  rw [add_wT]
  intro x hx
  rcases List.mem_append.1 hx with hx | hx
  · exact es_wT h x hx
  · simp at hx;subst hx;exact he
theorem es_tells {s s1:St} (hv:V s) (ha:As0 s.attrs) (h:Es0 s.list) (ht:Tells s s1):Es0 s1.list:=by
  have hst:∀ z:St,z.list=s.list→z.on=false→z.cnt=[]→z.attrs=s.attrs→Es0 (Mk.tellStart z).list:=by
    intro z h1 h3 h4 h5
    rw [tellStart_off h4 h3]
    refine es_add (s:=z) (by rw [h1];exact h) ⟨by show As0 z.attrs;rw [h5];exact ha,fun g=>absurd rfl g⟩
  cases ht with
  | quiet q=>rw [q.li];exact h
  | comm e=>exact es_add (s:=Mk.dropToken { s with held:=[] }) h (es_one rfl)
  | instr e=>exact es_add (s:=Mk.dropToken { s with held:=[] }) h (es_one rfl)
  | start e =>
    rename_i s'
    show Es0 (Mk.tellStart s').list
    rcases e with ⟨e,rfl⟩ | ⟨e,rfl⟩
    · exact hst { Mk.dropToken s with name:=s.token } rfl hv.on hv.cn rfl
    · exact hst _ rfl hv.on hv.cn rfl
  | slash e =>
    have hc:=tellStart_core s
    have h2:=tellEnd_list (s:=Mk.tellStart s) (by rw [hc];exact hv.cn) (by rw [hc];exact hv.on) s.name
    show Es0 (Mk.tellEnd (Mk.tellStart s) s.name).list
    rw [h2.1]
    exact es_add (s:=Mk.tellStart s) (hst s rfl hv.on hv.cn rfl) (es_one rfl)
  | ends e =>
    have h2:=tellEnd_list (s:={ s with opn:=s.opn.dropLast }) hv.cn hv.on (Mk.innermost s)
    unfold Mk.endInnermost
    rw [h2.1]
    exact es_add (s:={ s with opn:=s.opn.dropLast }) h (es_one rfl)
theorem es_feedByte {s:St} (hw:W s) (hv:V s) (ha:As0 s.attrs) (h:Es0 s.list) (h0:s.ended=0) (x:UInt8) (he:(Mk.feedByte s x).ended=0):As0 (Mk.feedByte s x).attrs∧Es0 (Mk.feedByte s x).list:=by
  rcases feedByte_right h0 x he with e | ⟨b,r,l,c,hb,e1,e⟩
  · rw [e];exact ⟨ha,h⟩
  · rw [e]
    have h1:=as_readByte (hw.at (s.at_ + 1) r) (hv.at (s.at_ + 1) r) ha b e1
    have h2:=es_tells (s:={ s with at_:=s.at_ + 1,ret:=r }) (hv.at (s.at_ + 1) r) ha h (tells_readByte (hw.at (s.at_ + 1) r) hv.on b e1)
    exact ⟨h1,h2⟩
theorem es_any:∀ (l:Bs) {s:St},W s→V s→As0 s.attrs→Es0 s.list→s.ended=0→Es0 (Mk.feedAll s l).list
  | [],s,_,_,_,h,_=>h
  | x :: r,s,hw,hv,ha,h,h0=>by
    by_cases g:(Mk.feedByte s x).ended=0
    · have h1:=es_feedByte hw hv ha h h0 x g
      exact es_any r (w_feedByte hw x g) (v_feedByte hw hv h0 x g) h1.1 h1.2 g
    · have e0:Mk.feedAll s (x :: r)=Mk.feedByte s x:=fa_stuck r _ g
      rw [e0,(feedByte_wrong s x h0 g).1]
      exact h
theorem sh_any {h0:Sh} (hz:h0.pt=false):∀ (l:Bs) {s:St} {h:Sh},W s→V s→Tl h0 s h→s.ended=0→∃ H,shs h0 (wT (Mk.feedAll s l))=some H∧(H.dep:Int)≤s.od∧(H.att:Int)≤s.oa
  | [],s,h,hw,hv,H,_=>by
    obtain ⟨p,hp⟩:=shs_text H
    exact ⟨_,hp,H.de,H.at_⟩
  | x :: r,s,h,hw,hv,H,he=>by
    by_cases g:(Mk.feedByte s x).ended=0
    · obtain ⟨h1,H1⟩:=tl_feedByte hw hv H he x g
      obtain ⟨H2,q1,q2,q3⟩:=sh_any hz r (w_feedByte hw x g) (v_feedByte hw hv he x g) H1 g
      have hb:(Mk.feedByte s x).od=s.od∧(Mk.feedByte s x).oa=s.oa:=by
        rcases feedByte_right he x g with e | ⟨b,r', l', c,hb,e1,e⟩
        · rw [e];exact ⟨rfl,rfl⟩
        · have:=bd_readByte (hw.at (s.at_ + 1) r') (hv.at (s.at_ + 1) r') b e1
          rw [e];exact ⟨this.1,this.2.1⟩
      rw [hb.1] at q2
      rw [hb.2] at q3
      exact ⟨H2,q1,q2,q3⟩
    · have e0:Mk.feedAll s (x :: r)=Mk.feedByte s x:=fa_stuck r _ g
      have w0:=feedByte_wrong s x he g
      rw [e0,wT_of w0.1 w0.2]
      obtain ⟨p,hp⟩:=shs_text H
      exact ⟨_,hp,H.de,H.at_⟩
theorem join_adj:∀ (l all:List Ev) (p:Bool),Adj p l→(∀ x,all.getLast? = some x→p=decide (x.kind=3))→join all l=all ++ l
  | [],all,p,_,_=>by simp [join]
  | e :: r,all,p,h,hp=>by
    have hj:joinOne all e=all ++ [e]:=by
      unfold joinOne
      split
      · rename_i x hx
        rw [if_neg]
        intro g
        exact h.1 ⟨g.2,by rw [hp x hx];exact decide_eq_true g.1⟩
      · rename_i hx
        rw [List.getLast?_eq_none_iff] at hx
        rw [hx];rfl
    show join (joinOne all e) r=_
    rw [hj,join_adj r (all ++ [e]) _ h.2 (fun x hx=>by rw [List.getLast?_concat] at hx;cases hx;rfl)]
    simp
theorem evs_wT {s:St} (h:Adj false (wT s)):evsOf s=wT s:=by
  unfold evsOf
  have e:out s.list s.text=wT s:=rfl
  rw [e,join_adj _ [] false h (fun x hx=>by cases hx)]
  rfl
theorem ab_any {K:Nat}:∀ (l:Bs) {k:Nat} {s:St},W s→V s→Inv k s→k + 12 * l.length≤K→Ab K s→s.ended=0→Ab K (Mk.feedAll s l)
  | [],k,s,_,_,_,_,h,_=>h
  | x :: r,k,s,hw,hv,hi,hk,h,h0=>by
    have hk:k + 12 * (r.length + 1)≤K:=hk
    by_cases g:(Mk.feedByte s x).ended=0
    · exact ab_any r (w_feedByte hw x g) (v_feedByte hw hv h0 x g) (inv_feedByte hi x) (by omega) (ab_feedByte hw hv hi (by omega) h h0 x g) g
    · have e0:Mk.feedAll s (x :: r)=Mk.feedByte s x:=fa_stuck r _ g
      rw [e0]
      intro e he
      rw [(feedByte_wrong s x h0 g).1] at he
      exact h e he
theorem off_facts (d a t:Int) (d1:1≤d) (d2:d≤64) (t1:8≤t) (a1:0≤a) (a2:a≤32) (D:Bs) (hD:D.length≤1120000) :
    (∃ H,shs Sh.zero (wT (Mk.feedAll (Mk.make_ d a t false) D))=some H∧H.dep≤64∧H.att≤32)∧(wT (Mk.feedAll (Mk.make_ d a t false) D)).length≤100000000∧(∀ e ∈ wT (Mk.feedAll (Mk.make_ d a t false) D),e.name.length≤100000000∧∀ y ∈ e.attrs,y.space=[]∧y.name.length≤100000000)∧(∀ e ∈ wT (Mk.feedAll (Mk.make_ d a t false) D),e.kind ≠ 1→e.attrs=[])∧evsOf (Mk.feedAll (Mk.make_ d a t false) D)=wT (Mk.feedAll (Mk.make_ d a t false) D):=by
  obtain ⟨H,q1,q2,q3⟩:=sh_any (h0:=Sh.zero) rfl D (w_make d a t false d1 t1 a2) (v_make d a t t1 a1) (tl_make d a t d1 t1 a1) rfl
  have q2:(H.dep:Int)≤d:=q2
  have q3:(H.att:Int)≤a:=q3
  have hi:=inv_feedAll D (inv_make d a t false a2)
  have hab:=ab_any (K:=12 * 1120000 + 100) D (w_make d a t false d1 t1 a2) (v_make d a t t1 a1) (inv_make d a t false a2) (by omega) (fun e he=>by cases he) rfl
  have hes:=es_any D (w_make d a t false d1 t1 a2) (v_make d a t t1 a1) (fun y hy=>by cases hy) (fun e he=>by cases he) rfl
  have hes2:=es_wT hes
  refine ⟨⟨H,q1,by omega,by omega⟩,?_,fun e he => ?_,fun e he=>(hes2 e he).2,evs_wT (shs_adj _ _ _ q1)⟩
  · have h1:=hi.hl
    unfold wT
    split
    · omega
    · rw [List.length_append,List.length_singleton];omega
  · have hAb:AbE (12 * 1120000 + 100) e:=by
      unfold wT at he
      split at he
      · exact hab e he
      · rcases List.mem_append.1 he with he | he
        · exact hab e he
        · simp at he;subst he;exact ab_nil _ _ _ _ (by simp)
    refine ⟨by have:=hAb.2.1;omega,fun y hy=>⟨(hes2 e he).1 y hy,by have:=(hAb.2.2 y hy).1;omega⟩⟩
end Go.Proofs.YtmgfijllcdadgabGreatDoor
