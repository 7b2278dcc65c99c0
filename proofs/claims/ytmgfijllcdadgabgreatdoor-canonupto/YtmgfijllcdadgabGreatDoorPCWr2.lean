/- Wr2, Wr3, Wr4 -/
import Derived.Test.YtmgfijllcdadgabGreatDoorPCSpc5
set_option linter.unusedVariables false
set_option linter.unusedSimpArgs false
namespace Go.Proofs.YtmgfijllcdadgabGreatDoor
open Mk (St Bs Ev Att)
theorem u8_back (x:UInt8):Mk.u8 (x.toNat:Int)=x:=by
  unfold Mk.u8
  rw [Int.toNat_natCast]
  exact UInt8.ofNat_toNat
theorem enc_ascii {c:Int} (h1:c<128):Mk.encode c=[Mk.u8 c]:=encode_one c h1
theorem hd_nil {v:Vv} (h:v.hd=[]):({ pvs v v.hd with hd:=[] }:Vv)=v:=by
  rw [h]
  show ({ v with hd:=[] }:Vv)=v
  rw [← h]
theorem gv_end {v:Vv} (h:v.pt=none) (c:Int):gv v (c,0)=pv v c:=by
  unfold gv
  rw [if_pos rfl]
  show pv { v with pt:=none } c=_
  rw [← h]
theorem rb_1 {z:St} {v:Vv} (h:Is z v) (q:Quiet v) (hs:v.st=1) (b:Int):Mk.readByte z b=Mk.readContent z b:=by rw [rb_quiet h q,hs];rfl
theorem rb_7 {z:St} {v:Vv} (h:Is z v) (q:Quiet v) (hs:v.st=7) (b:Int):Mk.readByte z b=Mk.readComment z b:=by rw [rb_quiet h q,hs];rfl
theorem rb_11 {z:St} {v:Vv} (h:Is z v) (q:Quiet v) (hs:v.st=11) (b:Int):Mk.readByte z b=Mk.readInstruction z b:=by rw [rb_quiet h q,hs];rfl
theorem rb_17 {z:St} {v:Vv} (h:Is z v) (q:Quiet v) (hs:v.st=17) (b:Int):Mk.readByte z b=Mk.readValue z b:=by rw [rb_quiet h q,hs];rfl
theorem rb_0 {z:St} {v:Vv} (h:Is z v) (q:Quiet v) (hs:v.st=0) (b:Int):Mk.readByte z b=Mk.readOutside z b:=by rw [rb_quiet h q,hs];rfl
def runRef (r:Mk.Rf):Bs→Option Int
  | []=>none
  | [x]=>match Mk.refNext r x.toNat with
    | some r' => if Mk.isOpen r'.place then none else some r'.code
    | none=>none
  | x :: y :: l=>match Mk.refNext r x.toNat with
    | some r' => if Mk.isOpen r'.place then runRef r' (y :: l) else none
    | none=>none
theorem rb_ref {z:St} {v:Vv} {r:Mk.Rf} (h:Is z v) (hp:v.pt=none) (hr:v.rf=some r) (b:Int):Mk.readByte z b=Mk.readReference z b∧(⟨z.rp,z.rn,z.rc⟩:Mk.Rf)=r:=by
  have h1:=h.rf
  rw [hr] at h1
  obtain ⟨e1,e2,e3,e4⟩:=h1
  refine ⟨?_,by rw [e1,e2,e3]⟩
  unfold Mk.readByte
  rw [if_neg (by rw [h.pl0 hp];decide),if_pos (by rw [e1];exact e4)]
theorem go_refs:∀ (l:Bs) (r:Mk.Rf) (v:Vv) (c:Int),v.pt=none→v.rf=some r→(∀ x ∈ l,(x.toNat:Int) ≠ 13)→runRef r l=some c→Go1 v l (pv { v with rf:=none } c)
  | [],r,v,c,_,_,_,h=>by cases h
  | [x],r,v,c,hp,hr,hx,h=>by
    refine go_one x (hx x (by simp)) fun z hz => ?_
    obtain ⟨e1,e2⟩:=rb_ref hz hp hr x.toNat
    rw [e1]
    unfold Mk.readReference
    rw [e2]
    unfold runRef at h
    cases hn:Mk.refNext r x.toNat with
    | none=>rw [hn] at h;cases h
    | some r' =>
      rw [hn] at h
      dsimp only at h ⊢
      split at h
      · cases h
      · rename_i ho
        cases h
        rw [if_neg ho]
        refine ⟨_,rfl,is_put (v:={ v with rf:=none }) ?_ _⟩
        exact { hz with rf:=by show Mk.isOpen r'.place=false;simpa using ho }
  | x :: y :: l,r,v,c,hp,hr,hx,h=>by
    unfold runRef at h
    cases hn:Mk.refNext r x.toNat with
    | none=>rw [hn] at h;cases h
    | some r' =>
      rw [hn] at h
      dsimp only at h
      split at h
      · rename_i ho
        refine Go1.cons (v' := { v with rf:=some r' }) ?_ (go_refs (y :: l) r' { v with rf:=some r' } c hp rfl (fun w hw=>hx w (List.mem_cons_of_mem _ hw)) h)
        refine go_one x (hx x (by simp)) fun z hz => ?_
        obtain ⟨e1,e2⟩:=rb_ref hz hp hr x.toNat
        rw [e1]
        unfold Mk.readReference
        rw [e2,hn]
        dsimp only
        rw [if_pos ho]
        exact ⟨_,rfl, { hz with rf:=⟨rfl,rfl,rfl,ho⟩ }⟩
      · cases h
theorem go_reference {v:Vv} (q:Quiet v) (hs:v.st=1∨v.st=17∧v.qt=34) (hf:fitV v 1) (l:Bs) (c:Int) (hx:∀ x ∈ l,(x.toNat:Int) ≠ 13) (h:runRef ⟨1,[],0⟩ l=some c):Go1 v (38 :: l) (pv v c):=by
  have e:({ ({ v with rf:=some ⟨1,[],0⟩ }:Vv) with rf:=none }:Vv)=v:=by
    show ({ v with rf:=none }:Vv)=v
    rw [← q.2]
  have g:=go_refs l ⟨1,[],0⟩ { v with rf:=some ⟨1,[],0⟩ } c q.1 rfl hx h
  rw [e] at g
  refine Go1.cons ?_ g
  refine go_one 38 (by decide) fun z hz => ?_
  rcases hs with hs | ⟨hs,hq⟩
  · rw [rb_1 hz q hs]
    exact ⟨Mk.setRef { z with brackets:=0 } ⟨1,[],0⟩,rfl, { hz with rf:=⟨rfl,rfl,rfl,rfl⟩ }⟩
  · rw [rb_17 hz q hs]
    unfold Mk.readValue
    rw [if_neg (by rw [hz.qt,hq];decide),if_neg (by decide),if_pos (by decide),if_pos (fits_v hz hf)]
    exact ⟨_,rfl, { hz with rf:=⟨rfl,rfl,rfl,rfl⟩ }⟩
theorem enc_high {c:Int} (h0:128≤c) (h1:c≤1114111):∀ x ∈ Mk.encode c,128≤x.toNat:=by
  intro x hx
  by_cases h2:c<2048
  · rw [encode_2 h0 h2] at hx
    simp only [List.mem_cons,List.not_mem_nil,or_false] at hx
    rcases hx with rfl | rfl
    all_goals (have:=u8_nat (b:=192 + c / 64) (by omega) (by omega);have:=u8_nat (b:=128 + c % 64) (by omega) (by omega);omega)
  · by_cases h3:c<65536
    · rw [encode_3 (by omega) h3] at hx
      simp only [List.mem_cons,List.not_mem_nil,or_false] at hx
      rcases hx with rfl | rfl | rfl
      all_goals (have:=u8_nat (b:=224 + c / 4096) (by omega) (by omega);have:=u8_nat (b:=128 + c / 64 % 64) (by omega) (by omega);have:=u8_nat (b:=128 + c % 64) (by omega) (by omega);omega)
    · rw [encode_4 (by omega)] at hx
      simp only [List.mem_cons,List.not_mem_nil,or_false] at hx
      rcases hx with rfl | rfl | rfl | rfl
      all_goals (have:=u8_nat (b:=240 + c / 262144) (by omega) (by omega);have:=u8_nat (b:=128 + c / 4096 % 64) (by omega) (by omega);have:=u8_nat (b:=128 + c / 64 % 64) (by omega) (by omega);have:=u8_nat (b:=128 + c % 64) (by omega) (by omega);omega)
theorem refT_high {x:UInt8} (h:128≤x.toNat):refT x=[]:=by
  unfold refT
  rw [if_neg (fun e=>by rw [e] at h;exact absurd h (by decide)),if_neg (fun e=>by rw [e] at h;exact absurd h (by decide)),if_neg (fun e=>by rw [e] at h;exact absurd h (by decide)),if_neg (fun e=>by rw [e] at h;exact absurd h (by decide))]
theorem refV_high {x:UInt8} (h:128≤x.toNat):refV x=[]:=by
  unfold refV
  rw [if_neg (fun e=>by rw [e] at h;exact absurd h (by decide)),if_neg (fun e=>by rw [e] at h;exact absurd h (by decide)),if_neg (fun e=>by rw [e] at h;exact absurd h (by decide))]
  exact refT_high h
theorem wText_high:∀ (l:Bs),(∀ x ∈ l,128≤x.toNat)→wText l=l
  | [],_=>rfl
  | x :: r,h=>by
    have e:wText (x :: r)=either x (refT x) ++ wText r:=rfl
    rw [e,refT_high (h x (by simp)),wText_high r (fun y hy=>h y (List.mem_cons_of_mem _ hy))]
    rfl
theorem wVal_high:∀ (l:Bs),(∀ x ∈ l,128≤x.toNat)→wVal l=l
  | [],_=>rfl
  | x :: r,h=>by
    have e:wVal (x :: r)=either x (refV x) ++ wVal r:=rfl
    rw [e,refV_high (h x (by simp)),wVal_high r (fun y hy=>h y (List.mem_cons_of_mem _ hy))]
    rfl
theorem wText_app (a b:Bs):wText (a ++ b)=wText a ++ wText b:=List.flatMap_append
theorem wVal_app (a b:Bs):wVal (a ++ b)=wVal a ++ wVal b:=List.flatMap_append
theorem pv_in {v:Vv} (h:v.st=1) (c:Int):pv v c={ v with tx:=v.tx ++ Mk.encode c }:=by unfold pv inT;rw [h];rfl
theorem pv_out {v:Vv} (h:¬ (v.st=1∨v.st=2)) (c:Int):pv v c={ v with tk:=v.tk ++ Mk.encode c,ct:=v.ct + 1 }:=by
  unfold pv inT
  rw [if_neg (by simp;omega)]
theorem u8_of {c k:Int} (h0:0≤c) (h1:c<128) (x:UInt8) (hx:(x.toNat:Int)=k):Mk.u8 c=x ↔ c=k:=by
  have e:=u8_nat h0 (b:=c) (by omega)
  constructor
  · intro h;rw [h] at e;omega
  · intro h
    rw [← u8_back x,hx,h]
theorem go_tchar {v:Vv} (q:Quiet v) (hs:v.st=1) (hh:v.hd=[]) (c:Int) (hc:Mk.isChar c=true):Go1 v (wText (Mk.encode c)) (pv v c):=by
  have hb:=isChar_bds hc
  have hi:fitV v 1:=.inl (by unfold inT;rw [hs];rfl)
  have hi' : fitV v (v.hd.length + 1):=.inl (by unfold inT;rw [hs];rfl)
  by_cases h0:128≤c
  · rw [wText_high _ (enc_high h0 hb.2)]
    have:=go_char q (.inl hs) c h0 hc hi'
    rw [hd_nil hh] at this
    exact this
  · have h1:c<128:=by omega
    have e8:=u8_nat hb.1 (b:=c) (by omega)
    rw [enc_ascii h1]
    have ew:wText [Mk.u8 c]=either (Mk.u8 c) (refT (Mk.u8 c)):=by unfold wText;simp
    rw [ew]
    by_cases c1:c=60
    · subst c1;exact go_reference q (.inl hs) hi [108,116,59] 60 (by decide) (by rfl)
    by_cases c2:c=62
    · subst c2;exact go_reference q (.inl hs) hi [103,116,59] 62 (by decide) (by rfl)
    by_cases c3:c=38
    · subst c3;exact go_reference q (.inl hs) hi [97,109,112,59] 38 (by decide) (by rfl)
    by_cases c4:c=13
    · subst c4;exact go_reference q (.inl hs) hi [35,49,51,59] 13 (by decide) (by rfl)
    have er:refT (Mk.u8 c)=[]:=by
      unfold refT
      rw [if_neg (fun h=>c1 ((u8_of hb.1 h1 60 rfl).1 h)),if_neg (fun h=>c2 ((u8_of hb.1 h1 62 rfl).1 h)),if_neg (fun h=>c3 ((u8_of hb.1 h1 38 rfl).1 h)),if_neg (fun h=>c4 ((u8_of hb.1 h1 13 rfl).1 h))]
    rw [er]
    show Go1 v [Mk.u8 c] _
    refine go_one _ (by rw [e8];exact c4) fun z hz => ?_
    rw [e8,rb_1 hz q hs]
    unfold Mk.readContent
    rw [if_neg (by simpa using c1),if_neg (by simpa using c3),if_neg (by simpa using c2)]
    split
    · have:=is_char (z:={ z with brackets:=if z.brackets == 0 then 1 else 2 }) (v:=v) { hz with } c (c,0) (begin_1 h1 hc) (Int.le_refl _) hi'
      rw [hd_nil hh,gv_end q.1] at this
      exact this
    · have:=is_char (z:={ z with brackets:=0 }) (v:=v) { hz with } c (c,0) (begin_1 h1 hc) (Int.le_refl _) hi'
      rw [hd_nil hh,gv_end q.1] at this
      exact this
theorem go_text:∀ (cs:List Int) (v:Vv),Quiet v→v.st=1→v.hd=[]→(∀ c ∈ cs,Mk.isChar c=true)→Go1 v (wText (cs.flatMap Mk.encode)) { v with tx:=v.tx ++ cs.flatMap Mk.encode }
  | [],v,q,hs,hh,h=>by
    show Go1 v [] { v with tx:=v.tx ++ [] }
    rw [List.append_nil]
    exact Go1.nil v
  | c :: r,v,q,hs,hh,h=>by
    have g:=go_tchar q hs hh c (h c (by simp))
    rw [pv_in hs] at g
    have g2:=go_text r { v with tx:=v.tx ++ Mk.encode c } q hs hh (fun x hx=>h x (List.mem_cons_of_mem _ hx))
    have e:(c :: r).flatMap Mk.encode=Mk.encode c ++ r.flatMap Mk.encode:=rfl
    rw [e,wText_app, ← List.append_assoc]
    exact g.app g2
theorem go_vchar {v:Vv} (q:Quiet v) (hs:v.st=17) (hq:v.qt=34) (hh:v.hd=[]) (hf:v.ct + 1≤v.ot) (c:Int) (hc:Mk.isChar c=true):Go1 v (wVal (Mk.encode c)) (pv v c):=by
  have hb:=isChar_bds hc
  have hi:fitV v 1:=.inr hf
  have hi' : fitV v (v.hd.length + 1):=.inr (by rw [hh];exact hf)
  by_cases h0:128≤c
  · rw [wVal_high _ (enc_high h0 hb.2)]
    have:=go_char q (.inr (.inr (.inr ⟨hs,hq⟩))) c h0 hc hi'
    rw [hd_nil hh] at this
    exact this
  · have h1:c<128:=by omega
    have e8:=u8_nat hb.1 (b:=c) (by omega)
    rw [enc_ascii h1]
    have ew:wVal [Mk.u8 c]=either (Mk.u8 c) (refV (Mk.u8 c)):=by unfold wVal;simp
    rw [ew]
    by_cases c1:c=60
    · subst c1;exact go_reference q (.inr ⟨hs,hq⟩) hi [108,116,59] 60 (by decide) (by rfl)
    by_cases c2:c=62
    · subst c2;exact go_reference q (.inr ⟨hs,hq⟩) hi [103,116,59] 62 (by decide) (by rfl)
    by_cases c3:c=38
    · subst c3;exact go_reference q (.inr ⟨hs,hq⟩) hi [97,109,112,59] 38 (by decide) (by rfl)
    by_cases c4:c=13
    · subst c4;exact go_reference q (.inr ⟨hs,hq⟩) hi [35,49,51,59] 13 (by decide) (by rfl)
    by_cases c5:c=34
    · subst c5;exact go_reference q (.inr ⟨hs,hq⟩) hi [113,117,111,116,59] 34 (by decide) (by rfl)
    by_cases c6:c=9
    · subst c6;exact go_reference q (.inr ⟨hs,hq⟩) hi [35,57,59] 9 (by decide) (by rfl)
    by_cases c7:c=10
    · subst c7;exact go_reference q (.inr ⟨hs,hq⟩) hi [35,49,48,59] 10 (by decide) (by rfl)
    have er:refV (Mk.u8 c)=[]:=by
      unfold refV refT
      rw [if_neg (fun h=>c5 ((u8_of hb.1 h1 34 rfl).1 h)),if_neg (fun h=>c6 ((u8_of hb.1 h1 9 rfl).1 h)),if_neg (fun h=>c7 ((u8_of hb.1 h1 10 rfl).1 h)),if_neg (fun h=>c1 ((u8_of hb.1 h1 60 rfl).1 h)),if_neg (fun h=>c2 ((u8_of hb.1 h1 62 rfl).1 h)),if_neg (fun h=>c3 ((u8_of hb.1 h1 38 rfl).1 h)),if_neg (fun h=>c4 ((u8_of hb.1 h1 13 rfl).1 h))]
    rw [er]
    show Go1 v [Mk.u8 c] _
    refine go_one _ (by rw [e8];exact c4) fun z hz => ?_
    rw [e8,rb_17 hz q hs]
    unfold Mk.readValue
    rw [if_neg (by rw [hz.qt,hq];simpa using c5),if_neg (by simpa using c1),if_neg (by simpa using c3),if_neg (by simp;exact ⟨c6,c7⟩)]
    have:=is_char hz c (c,0) (begin_1 h1 hc) (Int.le_refl _) hi'
    rw [hd_nil hh,gv_end q.1] at this
    exact this
theorem go_value:∀ (cs:List Int) (v:Vv),Quiet v→v.st=17→v.qt=34→v.hd=[]→v.ct + cs.length≤v.ot→(∀ c ∈ cs,Mk.isChar c=true)→Go1 v (wVal (cs.flatMap Mk.encode)) { v with tk:=v.tk ++ cs.flatMap Mk.encode,ct:=v.ct + cs.length }
  | [],v,q,hs,hq,hh,hf,h=>by
    show Go1 v [] { v with tk:=v.tk ++ [],ct:=v.ct + (0:Nat) }
    rw [List.append_nil,Int.natCast_zero,Int.add_zero]
    exact Go1.nil v
  | c :: r,v,q,hs,hq,hh,hf,h=>by
    rw [List.length_cons] at hf
    have g:=go_vchar q hs hq hh (by omega) c (h c (by simp))
    rw [pv_out (by omega)] at g
    have g2:=go_value r { v with tk:=v.tk ++ Mk.encode c,ct:=v.ct + 1 } q hs hq hh (by show v.ct + 1 + _≤v.ot;omega) (fun x hx=>h x (List.mem_cons_of_mem _ hx))
    have e:(c :: r).flatMap Mk.encode=Mk.encode c ++ r.flatMap Mk.encode:=rfl
    rw [e,wVal_app, ← List.append_assoc,show v.ct + ((c :: r).length:Nat)=v.ct + 1 + r.length by rw [List.length_cons];omega]
    exact g.app g2
def wTl (li:List Ev) (tx:Bs):List Ev:=if tx.length=0 then li else li ++ [⟨3,[],[],tx,[]⟩]
def addV (v:Vv) (e:Ev):Vv:={ v with li:=wTl v.li v.tx ++ [e],tx:=[] }
theorem is_add {z:St} {v:Vv} (h:Is z v) (e:Ev):Is (Mk.add z e) (addV v e):=by
  have h1:=add_list z e
  have h2:=add_text z e
  rw [h.tx,h.li] at h1
  have h3:=add_core z e
  rw [h3]
  exact { h with li:=h1,tx:=h2 }
def resV (v:Vv):Vv:={ v with st:=if v.op.length=0 then 0 else 1 }
theorem is_resume {z:St} {v:Vv} (h:Is z v):Is (Mk.resume z) (resV v):=by
  unfold Mk.resume resV
  exact { h with st:=by show (if z.opn.length=0 then _ else _)=_;rw [h.op] }
def cmOk:Bool→List Int→Bool
  | h,[] => !h
  | h,c :: r=>if c=45 then (!h && cmOk true r) else cmOk false r
def heldC (h:Bool):Bs:=if h then [45] else []
theorem pvs_one {v:Vv} (hs:¬ (v.st=1∨v.st=2)) (x:UInt8) (hx:x.toNat<128):pvs v [x]={ v with tk:=v.tk ++ [x],ct:=v.ct + 1 }:=by
  show pv v _=_
  rw [pv_out hs,enc_ascii (by omega),u8_back]
theorem go_comment:∀ (cs:List Int) (h:Bool) (v:Vv),Quiet v→v.st=7→v.hd=heldC h→v.ct + (heldC h).length + cs.length≤v.ot→(∀ c ∈ cs,Mk.isChar c=true∧c ≠ 13)→cmOk h cs=true →
    Go1 v (cs.flatMap Mk.encode) { v with hd:=[],tk:=v.tk ++ heldC h ++ cs.flatMap Mk.encode,ct:=v.ct + (heldC h).length + cs.length }
  | [],h,v,q,hs,hh,hf,hc,hok=>by
    cases h with
    | true=>cases hok
    | false =>
      show Go1 v [] { v with hd:=[],tk:=v.tk ++ [] ++ [],ct:=v.ct + (0:Nat) + (0:Nat) }
      rw [List.append_nil,List.append_nil,Int.natCast_zero,Int.add_zero,Int.add_zero]
      have e:({ v with hd:=[] }:Vv)=v:=by have hh:v.hd=[]:=hh;rw [← hh]
      rw [e]
      exact Go1.nil v
  | c :: r,h,v,q,hs,hh,hf,hc,hok=>by
    rw [List.length_cons] at hf
    have hs' : ¬ (v.st=1∨v.st=2):=by omega
    obtain ⟨c1,c2⟩:=hc c (by simp)
    have hb:=isChar_bds c1
    have hr:∀ x ∈ r,Mk.isChar x=true∧x ≠ 13:=fun x hx=>hc x (List.mem_cons_of_mem _ hx)
    have e:(c :: r).flatMap Mk.encode=Mk.encode c ++ r.flatMap Mk.encode:=rfl
    rw [e]
    unfold cmOk at hok
    by_cases h45:c=45
    · subst h45
      rw [if_pos rfl] at hok
      cases h with
      | true=>cases hok
      | false =>
        have hok:cmOk true r=true:=by simpa using hok
        have hh:v.hd=[]:=hh
        have g:Go1 v [45] { v with hd:=[45] }:=by
          refine go_one 45 (by decide) fun z hz => ?_
          rw [show (((45:UInt8).toNat:Nat):Int)=45 from rfl,rb_7 hz q hs]
          unfold Mk.readComment
          rw [if_neg (fun k=>by cases k.2),if_neg (by rw [hz.hd,hh];decide),if_pos rfl]
          exact ⟨_,rfl, { hz with hd:=by show z.held ++ [45]=[45];rw [hz.hd,hh];rfl }⟩
        have g2:=go_comment r true { v with hd:=[45] } q hs rfl (by show v.ct + (1:Nat) + _≤v.ot;have hf:v.ct + (0:Nat) + _≤v.ot:=hf;omega) hr hok
        have g3:=g.app g2
        have e1:v.tk ++ heldC true ++ r.flatMap Mk.encode=v.tk ++ heldC false ++ (Mk.encode 45 ++ r.flatMap Mk.encode):=by
          show v.tk ++ [45] ++ _=v.tk ++ [] ++ ([45] ++ _)
          simp
        have e2:v.ct + ((heldC true).length:Nat) + r.length=v.ct + ((heldC false).length:Nat) + ((45 :: r:List Int).length:Nat):=by
          show v.ct + (1:Nat) + _=v.ct + (0:Nat) + _
          rw [List.length_cons];omega
        rw [← e1, ← e2]
        exact g3
    · rw [if_neg h45] at hok
      have hne:v.hd ≠ [45,45]:=by rw [hh];cases h <;> decide
      have hfit:fitV v (v.hd.length + 1):=.inr (by rw [hh];omega)
      have ew:({ pvs v v.hd with hd:=[] }:Vv)={ v with hd:=[],tk:=v.tk ++ heldC h,ct:=v.ct + (heldC h).length }:=by
        rw [hh]
        cases h with
        | false =>
          show ({ v with hd:=[] }:Vv)={ v with hd:=[],tk:=v.tk ++ [],ct:=v.ct + (0:Nat) }
          rw [List.append_nil,Int.natCast_zero,Int.add_zero]
        | true =>
          show ({ pvs v [45] with hd:=[] }:Vv)=_
          rw [pvs_one hs' 45 (by decide)]
          rfl
      have g:Go1 v (Mk.encode c) { v with hd:=[],tk:=v.tk ++ heldC h ++ Mk.encode c,ct:=v.ct + (heldC h).length + 1 }:=by
        by_cases h0:128≤c
        · have g:=go_char q (.inr (.inl ⟨hs,hne⟩)) c h0 c1 hfit
          rw [ew,pv_out (by exact hs')] at g
          exact g
        · have h1:c<128:=by omega
          have e8:=u8_nat hb.1 (b:=c) (by omega)
          have ea:=enc_ascii h1
          have:Go1 v [Mk.u8 c] { v with hd:=[],tk:=v.tk ++ heldC h ++ Mk.encode c,ct:=v.ct + (heldC h).length + 1 }:=by
            refine go_one _ (by rw [e8];exact c2) fun z hz => ?_
            rw [e8,rb_7 hz q hs]
            unfold Mk.readComment
            rw [if_neg (by rw [hz.hd];exact fun k=>hne k.1),if_neg (by rw [hz.hd];exact hne),if_neg h45]
            have:=is_char hz c (c,0) (begin_1 h1 c1) (Int.le_refl _) hfit
            rw [ew,gv_end (by exact q.1),pv_out (by exact hs')] at this
            exact this
          rw [ea];rw [ea] at this;exact this
      have g2:=go_comment r false { v with hd:=[],tk:=v.tk ++ heldC h ++ Mk.encode c,ct:=v.ct + (heldC h).length + 1 } q hs rfl (by show v.ct + _ + 1 + (0:Nat) + _≤v.ot;omega) hr hok
      have g3:=g.app g2
      have e1:v.tk ++ heldC h ++ Mk.encode c ++ heldC false ++ r.flatMap Mk.encode=v.tk ++ heldC h ++ (Mk.encode c ++ r.flatMap Mk.encode):=by
        show v.tk ++ heldC h ++ Mk.encode c ++ [] ++ _=_
        simp
      have e2:v.ct + ((heldC h).length:Nat) + 1 + ((heldC false).length:Nat) + r.length=v.ct + ((heldC h).length:Nat) + ((c :: r).length:Nat):=by
        show v.ct + _ + 1 + (0:Nat) + _=_
        rw [List.length_cons];omega
      rw [← e1, ← e2]
      exact g3
section
variable {z:St} {v:Vv} (h:Is z v) (q:Quiet v)
include h q
theorem rb_3 (hs:v.st=3) (b:Int):Mk.readByte z b=Mk.readLess z b:=by rw [rb_quiet h q,hs];show Mk.readMark z b=_;unfold Mk.readMark;rw [h.st,hs];rfl
theorem rb_4 (hs:v.st=4) (b:Int):Mk.readByte z b=Mk.readBang z b:=by rw [rb_quiet h q,hs];show Mk.readMark z b=_;unfold Mk.readMark;rw [h.st,hs];rfl
theorem rb_5 (hs:v.st=5) (b:Int):Mk.readByte z b=Mk.readDash z b:=by rw [rb_quiet h q,hs];show Mk.readMark z b=_;unfold Mk.readMark;rw [h.st,hs];rfl
theorem rb_8 (hs:v.st=8) (b:Int):Mk.readByte z b=Mk.readInstructionName z b:=by rw [rb_quiet h q,hs];show Mk.readMark z b=_;unfold Mk.readMark;rw [h.st,hs];rfl
theorem rb_9 (hs:v.st=9) (b:Int):Mk.readByte z b=Mk.readBareInstruction z b:=by rw [rb_quiet h q,hs];show Mk.readMark z b=_;unfold Mk.readMark;rw [h.st,hs];rfl
theorem rb_10 (hs:v.st=10) (b:Int):Mk.readByte z b=Mk.readInstructionSpace z b:=by rw [rb_quiet h q,hs];show Mk.readMark z b=_;unfold Mk.readMark;rw [h.st,hs];rfl
theorem rb_20 (hs:v.st=20) (b:Int):Mk.readByte z b=Mk.readEndName z b:=by rw [rb_quiet h q,hs];show Mk.readMark z b=_;unfold Mk.readMark;rw [h.st,hs];rfl
theorem rb_12 (hs:v.st=12) (b:Int):Mk.readByte z b=Mk.readStartName z b:=by rw [rb_quiet h q,hs];show Mk.readMark z b=_;unfold Mk.readMark Mk.readStartTag;rw [h.st,hs];rfl
theorem rb_13 (hs:v.st=13) (b:Int):Mk.readByte z b=Mk.readStartSpace z b:=by rw [rb_quiet h q,hs];show Mk.readMark z b=_;unfold Mk.readMark Mk.readStartTag;rw [h.st,hs];rfl
theorem rb_14 (hs:v.st=14) (b:Int):Mk.readByte z b=Mk.readAttrName z b:=by rw [rb_quiet h q,hs];show Mk.readMark z b=_;unfold Mk.readMark Mk.readStartTag;rw [h.st,hs];rfl
theorem rb_16 (hs:v.st=16) (b:Int):Mk.readByte z b=Mk.readEquals z b:=by rw [rb_quiet h q,hs];show Mk.readMark z b=_;unfold Mk.readMark Mk.readStartTag;rw [h.st,hs];rfl
theorem rb_18 (hs:v.st=18) (b:Int):Mk.readByte z b=Mk.readStartGap z b:=by rw [rb_quiet h q,hs];show Mk.readMark z b=_;unfold Mk.readMark Mk.readStartTag;rw [h.st,hs];rfl
end
def inOk:Bool→List Int→Bool
  | h,[]=>true
  | h,c :: r=>if c=63 then inOk true r else (!(h && c == 62) && inOk false r)
def heldI (h:Bool):Bs:=if h then [63] else []
theorem go_instr:∀ (cs:List Int) (h:Bool) (v:Vv),Quiet v→v.st=11→v.hd=heldI h→v.ct + (heldI h).length + cs.length≤v.ot→(∀ c ∈ cs,Mk.isChar c=true∧c ≠ 13)→inOk h cs=true →
    ∃ h' tk ct,Go1 v (cs.flatMap Mk.encode) { v with hd:=heldI h', tk:=tk,ct:=ct }∧tk ++ heldI h' = v.tk ++ heldI h ++ cs.flatMap Mk.encode∧ct + (heldI h').length=v.ct + (heldI h).length + cs.length
  | [],h,v,q,hs,hh,hf,hc,hok=>by
    refine ⟨h,v.tk,v.ct,?_,by simp,by simp⟩
    rw [← hh]
    exact Go1.nil v
  | c :: r,h,v,q,hs,hh,hf,hc,hok=>by
    rw [List.length_cons] at hf
    have hs' : ¬ (v.st=1∨v.st=2):=by omega
    obtain ⟨c1,c2⟩:=hc c (by simp)
    have hb:=isChar_bds c1
    have hr:∀ x ∈ r,Mk.isChar x=true∧x ≠ 13:=fun x hx=>hc x (List.mem_cons_of_mem _ hx)
    have e:(c :: r).flatMap Mk.encode=Mk.encode c ++ r.flatMap Mk.encode:=rfl
    rw [e]
    unfold inOk at hok
    by_cases h63:c=63
    · subst h63
      rw [if_pos rfl] at hok
      cases h with
      | true =>
        have hf:v.ct + (1:Nat) + _≤v.ot:=hf
        have g:Go1 v [63] { v with tk:=v.tk ++ [63],ct:=v.ct + 1 }:=by
          refine go_one 63 (by decide) fun z hz => ?_
          rw [show (((63:UInt8).toNat:Nat):Int)=63 from rfl,rb_11 hz q hs]
          unfold Mk.readInstruction
          have hh' : z.held=[63]:=hz.hd.trans hh
          rw [if_neg (fun k=>by cases k.1),if_pos ⟨rfl,hh'⟩,if_pos (fits_v hz (.inr (by omega)))]
          have:=is_put hz 63
          rw [pv_out hs'] at this
          exact ⟨_,rfl,this⟩
        obtain ⟨h', tk,ct,g2,e1,e2⟩:=go_instr r true { v with tk:=v.tk ++ [63],ct:=v.ct + 1 } q hs hh (by show v.ct + 1 + (1:Nat) + _≤v.ot;omega) hr hok
        refine ⟨h', tk,ct,g.app g2,?_,?_⟩
        · rw [e1]
          show v.tk ++ [63] ++ [63] ++ _=v.tk ++ [63] ++ ([63] ++ _)
          simp
        · rw [e2]
          show v.ct + 1 + (1:Nat) + _=v.ct + (1:Nat) + _
          rw [List.length_cons];omega
      | false =>
        have hf:v.ct + (0:Nat) + _≤v.ot:=hf
        have hh:v.hd=[]:=hh
        have g:Go1 v [63] { v with hd:=[63] }:=by
          refine go_one 63 (by decide) fun z hz => ?_
          rw [show (((63:UInt8).toNat:Nat):Int)=63 from rfl,rb_11 hz q hs]
          unfold Mk.readInstruction
          rw [if_neg (fun k=>by cases k.1),if_neg (fun k=>by rw [hz.hd,hh] at k;cases k.2),if_pos rfl]
          exact ⟨_,rfl, { hz with hd:=rfl }⟩
        obtain ⟨h', tk,ct,g2,e1,e2⟩:=go_instr r true { v with hd:=[63] } q hs rfl (by show v.ct + (1:Nat) + _≤v.ot;omega) hr hok
        refine ⟨h', tk,ct,g.app g2,?_,?_⟩
        · rw [e1]
          show v.tk ++ [63] ++ _=v.tk ++ [] ++ ([63] ++ _)
          simp
        · rw [e2]
          show v.ct + (1:Nat) + _=v.ct + (0:Nat) + _
          rw [List.length_cons];omega
    · rw [if_neg h63] at hok
      have hok2:¬ (h=true∧c=62)∧inOk false r=true:=by
        rw [Bool.and_eq_true] at hok
        refine ⟨fun k => ?_,hok.2⟩
        rw [k.1,k.2] at hok
        exact absurd hok.1 (by decide)
      have hfit:fitV v (v.hd.length + 1):=.inr (by rw [hh];omega)
      have ew:({ pvs v v.hd with hd:=[] }:Vv)={ v with hd:=[],tk:=v.tk ++ heldI h,ct:=v.ct + (heldI h).length }:=by
        rw [hh]
        cases h with
        | false =>
          show ({ v with hd:=[] }:Vv)={ v with hd:=[],tk:=v.tk ++ [],ct:=v.ct + (0:Nat) }
          rw [List.append_nil,Int.natCast_zero,Int.add_zero]
        | true =>
          show ({ pvs v [63] with hd:=[] }:Vv)=_
          rw [pvs_one hs' 63 (by decide)]
          rfl
      have g:Go1 v (Mk.encode c) { v with hd:=[],tk:=v.tk ++ heldI h ++ Mk.encode c,ct:=v.ct + (heldI h).length + 1 }:=by
        by_cases h0:128≤c
        · have g:=go_char q (.inr (.inr (.inl hs))) c h0 c1 hfit
          rw [ew,pv_out (by exact hs')] at g
          exact g
        · have h1:c<128:=by omega
          have e8:=u8_nat hb.1 (b:=c) (by omega)
          have ea:=enc_ascii h1
          have:Go1 v [Mk.u8 c] { v with hd:=[],tk:=v.tk ++ heldI h ++ Mk.encode c,ct:=v.ct + (heldI h).length + 1 }:=by
            refine go_one _ (by rw [e8];exact c2) fun z hz => ?_
            rw [e8,rb_11 hz q hs]
            unfold Mk.readInstruction
            have hh' : z.held=heldI h:=hz.hd.trans hh
            have hh2:z.held=[63]→h=true:=fun k=>by
              rw [hh'] at k
              cases h with
              | true=>rfl
              | false=>cases k
            rw [if_neg (fun k=>hok2.1 ⟨hh2 k.2,k.1⟩),if_neg (fun k=>h63 k.1),if_neg h63]
            have:=is_char hz c (c,0) (begin_1 h1 c1) (Int.le_refl _) hfit
            rw [ew,gv_end (by exact q.1),pv_out (by exact hs')] at this
            exact this
          rw [ea];rw [ea] at this;exact this
      obtain ⟨h', tk,ct,g2,e1,e2⟩:=go_instr r false { v with hd:=[],tk:=v.tk ++ heldI h ++ Mk.encode c,ct:=v.ct + (heldI h).length + 1 } q hs rfl (by show v.ct + _ + 1 + (0:Nat) + _≤v.ot;omega) hr hok2.2
      refine ⟨h', tk,ct,g.app g2,?_,?_⟩
      · rw [e1]
        show v.tk ++ heldI h ++ Mk.encode c ++ [] ++ _=_
        simp
      · rw [e2]
        show v.ct + _ + 1 + (0:Nat) + _=_
        rw [List.length_cons];omega
def endI (v:Vv) (val:Bs):Vv:=resV { addV { v with hd:=[],tk:=[],ct:=0 } ⟨5,v.nm,[],val,[]⟩ with nm:=[] }
theorem is_endInstruction {z:St} {v:Vv} (h:Is z v):Is (Mk.endInstruction z) (endI v v.tk):=by
  have h1:Is (Mk.dropToken { z with held:=[] }) { v with hd:=[],tk:=[],ct:=0 }:={ h with hd:=rfl,tk:=rfl,ct:=rfl }
  have h2:=is_add h1 ⟨5,z.name,[],z.token,[]⟩
  rw [h.nm,h.tk] at h2
  unfold Mk.endInstruction endI
  rw [h.nm,h.tk]
  exact is_resume { h2 with nm:=rfl }
theorem go_endI {v:Vv} (q:Quiet v) (hs:v.st=11) (h:Bool) (hh:v.hd=heldI h) (hf:v.ct + (heldI h).length≤v.ot):Go1 v [63,62] (endI v (v.tk ++ heldI h)):=by
  have hs' : ¬ (v.st=1∨v.st=2):=by omega
  have key:∀ tk ct,Go1 { v with hd:=[63],tk:=tk,ct:=ct } [62] (endI v tk):=fun tk ct=>by
    refine go_one 62 (by decide) fun z hz => ?_
    rw [show (((62:UInt8).toNat:Nat):Int)=62 from rfl,rb_11 hz q hs]
    unfold Mk.readInstruction
    rw [if_pos ⟨rfl,hz.hd⟩]
    exact ⟨_,rfl,is_endInstruction hz⟩
  cases h with
  | true =>
    have hf:v.ct + (1:Nat)≤v.ot:=hf
    refine Go1.cons (v' := { v with hd:=[63],tk:=v.tk ++ [63],ct:=v.ct + 1 }) ?_ (key _ _)
    refine go_one 63 (by decide) fun z hz => ?_
    rw [show (((63:UInt8).toNat:Nat):Int)=63 from rfl,rb_11 hz q hs]
    unfold Mk.readInstruction
    have hh' : z.held=[63]:=hz.hd.trans hh
    rw [if_neg (fun k=>by cases k.1),if_pos ⟨rfl,hh'⟩,if_pos (fits_v hz (.inr (by omega)))]
    have:=is_put hz 63
    rw [pv_out hs'] at this
    exact ⟨_,rfl, { this with hd:=this.hd.trans hh }⟩
  | false =>
    have hh:v.hd=[]:=hh
    show Go1 v [63,62] (endI v (v.tk ++ []))
    rw [List.append_nil]
    refine Go1.cons (v' := { v with hd:=[63],tk:=v.tk,ct:=v.ct }) ?_ (key _ _)
    refine go_one 63 (by decide) fun z hz => ?_
    rw [show (((63:UInt8).toNat:Nat):Int)=63 from rfl,rb_11 hz q hs]
    unfold Mk.readInstruction
    rw [if_neg (fun k=>by cases k.1),if_neg (fun k=>by rw [hz.hd,hh] at k;cases k.2),if_pos rfl]
    exact ⟨_,rfl, { hz with hd:=rfl }⟩
theorem go_10 {v v' : Vv} (q:Quiet v) (hs:v.st=10) (x:UInt8) (r:Bs) (hx:Mk.isSpace (x.toNat:Int)=false) (g:Go1 { v with st:=11 } (x :: r) v'):Go1 v (x :: r) v' := by
  intro s hz
  have hx13:¬ (x.toNat:Int)=13:=fun k=>by rw [k] at hx;exact absurd hx (by decide)
  have hz2:Is { s with state:=11 } { v with st:=11 }:={ hz with st:=rfl }
  have e:Mk.feedByte s x=Mk.feedByte { s with state:=11 } x:=by
    have hz3:Is { s with at_:=s.at_ + 1,ret:=false } v:={ hz with rt:=rfl }
    have hz4:Is { ({ s with state:=11 }:St) with at_:=s.at_ + 1,ret:=false } { v with st:=11 }:={ hz2 with rt:=rfl }
    rw [fb3 hz.en (fun k=>by rw [hz.rt] at k;cases k.2) hx13,fb3 hz2.en (fun k=>by rw [hz2.rt] at k;cases k.2) hx13]
    have er:Mk.readByte { s with at_:=s.at_ + 1,ret:=false } (x.toNat:Int)=Mk.readByte { ({ s with state:=11 }:St) with at_:=s.at_ + 1,ret:=false } (x.toNat:Int):=by
      rw [rb_10 hz3 q hs,rb_11 hz4 q rfl]
      unfold Mk.readInstructionSpace
      rw [if_neg (by rw [hx];decide)]
    unfold Mk.readOn
    rw [er]
  have:=g _ hz2
  show Is (Mk.feedAll (Mk.feedByte s x) r) v'
  rw [e]
  exact this
theorem pv_name {v:Vv} (hs:¬ (v.st=1∨v.st=2)) (x:UInt8) (hx:Mk.inName (x.toNat:Int)=true):pv v (x.toNat:Int)={ v with tk:=v.tk ++ [x],ct:=v.ct + 1 }:=by
  rw [pv_out hs,enc_ascii (inName_lt hx).2,u8_back]
theorem name_13 {b:Int} (h:Mk.inName b=true):b ≠ 13∧b ≠ 32∧b ≠ 62∧b ≠ 61∧b ≠ 33∧b ≠ 63∧b ≠ 47:=by
  refine ⟨fun e => ?_,fun e => ?_,fun e => ?_,fun e => ?_,fun e => ?_,fun e => ?_,fun e => ?_⟩ <;> (rw [e] at h;exact absurd h (by decide))
theorem go_names:∀ (n:Bs) (v:Vv),Quiet v→(v.st=12∨v.st=8∧1≤v.ct)→v.ct + n.length≤v.ot→(∀ x ∈ n,Mk.inName (x.toNat:Int)=true)→Go1 v n { v with tk:=v.tk ++ n,ct:=v.ct + n.length }
  | [],v,q,hs,hf,hn=>by
    rw [List.append_nil,List.length_nil,Int.natCast_zero,Int.add_zero]
    exact Go1.nil v
  | x :: r,v,q,hs,hf,hn=>by
    rw [List.length_cons] at hf
    have hx:=hn x (by simp)
    have hs' : ¬ (v.st=1∨v.st=2):=by omega
    have g:Go1 v [x] { v with tk:=v.tk ++ [x],ct:=v.ct + 1 }:=by
      refine go_one x (name_13 hx).1 fun z hz => ?_
      have hp:=is_put hz (x.toNat:Int)
      rw [pv_name hs' x hx] at hp
      refine ⟨_,?_,hp⟩
      have hl:Mk.lengthenName z (x.toNat:Int)=(Mk.put z (x.toNat:Int),0):=by
        unfold Mk.lengthenName
        rw [if_pos (fits_v hz (.inr (by omega)))]
      rcases hs with hs | ⟨hs,hc⟩
      · rw [rb_12 hz q hs]
        unfold Mk.readStartName
        rw [if_pos hx]
        exact hl
      · rw [rb_8 hz q hs]
        unfold Mk.readInstructionName
        rw [if_neg (by rw [hz.ct];simp;omega),if_pos hx]
        exact hl
    have g2:=go_names r { v with tk:=v.tk ++ [x],ct:=v.ct + 1 } q (by rcases hs with hs | ⟨hs,hc⟩;exact .inl hs;exact .inr ⟨hs,by show 1≤v.ct + 1;omega⟩) (by show v.ct + 1 + _≤v.ot;omega) (fun y hy=>hn y (List.mem_cons_of_mem _ hy))
    have g3:=g.app g2
    rw [List.append_assoc] at g3
    rw [show v.ct + ((x :: r).length:Nat)=v.ct + 1 + r.length by rw [List.length_cons];omega]
    exact g3
def NameOk (t:Int) (n:Bs):Prop := ∃ x r,n=x :: r∧Mk.beginsName (x.toNat:Int)=true∧(∀ y ∈ r,Mk.inName (y.toNat:Int)=true)∧(n.length:Int)≤t
theorem go_iname {v:Vv} (q:Quiet v) (hs:v.st=8) (ht:v.tk=[]) (hc:v.ct=0) {n:Bs} (hn:NameOk v.ot n):Go1 v n { v with tk:=n,ct:=n.length }:=by
  obtain ⟨x,r,rfl,h1,h2,h3⟩:=hn
  have hx:=beginsName_in h1
  have hs' : ¬ (v.st=1∨v.st=2):=by omega
  rw [List.length_cons] at h3
  have g:Go1 v [x] { v with tk:=[x],ct:=1 }:=by
    refine go_one x (name_13 hx).1 fun z hz => ?_
    have hp:=is_put hz (x.toNat:Int)
    rw [pv_name hs' x hx,ht,hc] at hp
    refine ⟨_,?_,hp⟩
    rw [rb_8 hz q hs]
    unfold Mk.readInstructionName
    rw [if_neg (by rw [h1];simp),if_pos hx]
    unfold Mk.lengthenName
    rw [if_pos (fits_v hz (.inr (by omega)))]
  have g2:=go_names r { v with tk:=[x],ct:=1 } q (.inr ⟨hs,by show (1:Int)≤1;omega⟩) (by show 1 + (r.length:Int)≤v.ot;omega) h2
  have g3:=g.app g2
  rw [show ((x :: r).length:Int)=1 + r.length by rw [List.length_cons];omega]
  exact g3
theorem go_less {v:Vv} (q:Quiet v) (hs:v.st=0∨v.st=1):Go1 v [60] { v with st:=3 }:=by
  refine go_one 60 (by decide) fun z hz => ?_
  rw [show (((60:UInt8).toNat:Nat):Int)=60 from rfl]
  rcases hs with hs | hs
  · rw [rb_0 hz q hs]
    exact ⟨{ z with state:=3 },rfl, { hz with st:=rfl }⟩
  · rw [rb_1 hz q hs]
    exact ⟨{ z with brackets:=0,state:=3 },rfl, { hz with st:=rfl }⟩
theorem go_sname {v:Vv} (q:Quiet v) (hs:v.st=3) (ht:v.tk=[]) (hc:v.ct=0) (ho:v.ov=false) (hd:(v.op.length:Int)<v.od) {n:Bs} (hn:NameOk v.ot n):Go1 v n { v with st:=12,tk:=n,ct:=n.length }:=by
  obtain ⟨x,r,rfl,h1,h2,h3⟩:=hn
  have hx:=beginsName_in h1
  have hx' := name_13 hx
  rw [List.length_cons] at h3
  have g:Go1 v [x] { v with st:=12,tk:=[x],ct:=1 }:=by
    refine go_one x hx'.1 fun z hz => ?_
    have hz2:Is { z with state:=12 } { v with st:=12 }:={ hz with st:=rfl }
    have hp:=is_put hz2 (x.toNat:Int)
    rw [pv_name (v:={ v with st:=12 }) (by show ¬ ((12:Int)=1∨(12:Int)=2);omega) x hx] at hp
    refine ⟨_, ?_, { hp with tk := by rw [hp.tk]; show v.tk ++ [x] = [x]; rw [ht]; rfl
                             ct:=by rw [hp.ct];show v.ct + 1=1;rw [hc];rfl }⟩
    rw [rb_3 hz q hs]
    unfold Mk.readLess
    rw [if_neg (by simp;omega),if_neg (by simp;omega),if_neg (fun k=>by omega),if_pos (by rw [h1,hz.ov,ho];rfl)]
    unfold Mk.beginStart
    rw [if_neg (by rw [hz.od,hz.op];omega)]
  have g2:=go_names r { v with st:=12,tk:=[x],ct:=1 } q (.inl rfl) (by show 1 + (r.length:Int)≤v.ot;omega) h2
  have g3:=g.app g2
  rw [show ((x :: r).length:Int)=1 + r.length by rw [List.length_cons];omega]
  exact g3
def endS (v:Vv):Vv:=resV { addV v ⟨1,v.nm,[],[],v.ats⟩ with ats:=[],op:=v.op ++ [v.nm],nm:=[] }
theorem is_endStart {z:St} {v:Vv} (h:Is z v):Mk.readStartGap z 62=(Mk.endStart z 62,0)∧Is (Mk.endStart z 62) (endS v):=by
  constructor
  · unfold Mk.readStartGap
    rw [if_neg (by decide),if_pos (by decide)]
    unfold Mk.endAttributes
    rw [if_neg (by rw [h.on];decide)]
  · unfold Mk.endStart
    rw [if_neg (by decide),tellStart_off h.cn h.on]
    have h2:=is_add h ⟨1,z.name,[],[],z.attrs⟩
    rw [h.nm,h.ats] at h2
    rw [h.nm,h.ats,h.op]
    exact is_resume { h2 with ats:=rfl,op:=rfl,nm:=rfl }
theorem go_gap {v:Vv} (q:Quiet v) (hs:v.st=18):Go1 v [32] { v with st:=13 }:=by
  refine go_one 32 (by decide) fun z hz => ?_
  rw [show (((32:UInt8).toNat:Nat):Int)=32 from rfl,rb_18 hz q hs]
  exact ⟨{ z with state:=13 },rfl, { hz with st:=rfl }⟩
theorem go_gap12 {v:Vv} (q:Quiet v) (hs:v.st=12):Go1 v [32] { v with st:=13,nm:=v.tk,tk:=[],ct:=0 }:=by
  refine go_one 32 (by decide) fun z hz => ?_
  rw [show (((32:UInt8).toNat:Nat):Int)=32 from rfl,rb_12 hz q hs]
  exact ⟨{ Mk.dropToken z with name:=z.token,state:=13 },rfl, { hz with st:=rfl,nm:=hz.tk,tk:=rfl,ct:=rfl }⟩
theorem go_endS {v:Vv} (q:Quiet v) (hs:v.st=18):Go1 v [62] (endS v):=by
  refine go_one 62 (by decide) fun z hz => ?_
  rw [show (((62:UInt8).toNat:Nat):Int)=62 from rfl,rb_18 hz q hs]
  exact ⟨_,(is_endStart hz).1,(is_endStart hz).2⟩
theorem go_endS12 {v:Vv} (q:Quiet v) (hs:v.st=12):Go1 v [62] (endS { v with nm:=v.tk,tk:=[],ct:=0 }):=by
  refine go_one 62 (by decide) fun z hz => ?_
  rw [show (((62:UInt8).toNat:Nat):Int)=62 from rfl,rb_12 hz q hs]
  have hz2:Is { Mk.dropToken z with name:=z.token } { v with nm:=v.tk,tk:=[],ct:=0 }:={ hz with nm:=hz.tk,tk:=rfl,ct:=rfl }
  exact ⟨_,(is_endStart hz2).1,(is_endStart hz2).2⟩
theorem go_anames:∀ (n:Bs) (v:Vv),Quiet v→v.st=14→v.ct + n.length≤v.ot→(∀ x ∈ n,Mk.inName (x.toNat:Int)=true)→v.tk ++ n ∉ Names v.ats→Go1 v n { v with tk:=v.tk ++ n,ct:=v.ct + n.length }
  | [],v,q,hs,hf,hn,hd=>by
    rw [List.append_nil,List.length_nil,Int.natCast_zero,Int.add_zero]
    exact Go1.nil v
  | x :: r,v,q,hs,hf,hn,hd=>by
    rw [List.length_cons] at hf
    have hx:=hn x (by simp)
    have hs' : ¬ (v.st=1∨v.st=2):=by omega
    have g:Go1 v [x] { v with tk:=v.tk ++ [x],ct:=v.ct + 1 }:=by
      refine go_one x (name_13 hx).1 fun z hz => ?_
      have hp:=is_put hz (x.toNat:Int)
      rw [pv_name hs' x hx] at hp
      refine ⟨_,?_,hp⟩
      rw [rb_14 hz q hs]
      unfold Mk.readAttrName
      rw [if_pos hx]
      unfold Mk.lengthenAttrName
      rw [if_pos (fits_v hz (.inr (by omega)))]
      rw [if_neg]
      intro k
      rw [Bool.and_eq_true] at k
      cases r with
      | nil =>
        have:=(hasAttr_names (Mk.put z (x.toNat:Int)) (Mk.put z (x.toNat:Int)).token).2 (by rw [hp.tk,hp.ats];exact hd)
        rw [this] at k
        cases k.2
      | cons y r =>
        rw [List.length_cons] at hf
        rw [fits_v hp (.inr (by show v.ct + 1 + 1≤v.ot;omega))] at k
        cases k.1
    have g2:=go_anames r { v with tk:=v.tk ++ [x],ct:=v.ct + 1 } q hs (by show v.ct + 1 + _≤v.ot;omega) (fun y hy=>hn y (List.mem_cons_of_mem _ hy)) (by show v.tk ++ [x] ++ r ∉ _;rw [List.append_assoc];exact hd)
    have g3:=g.app g2
    rw [List.append_assoc] at g3
    rw [show v.ct + ((x :: r).length:Nat)=v.ct + 1 + r.length by rw [List.length_cons];omega]
    exact g3
def CharsOk (t:Int) (v:Bs):Prop := ∃ cs:List Int,v=cs.flatMap Mk.encode∧(∀ c ∈ cs,Mk.isChar c=true)∧(cs.length:Int)≤t
def AttOk (t:Int) (a:Att):Prop:=NameOk t a.name∧CharsOk t a.val∧a.space=[]
theorem go_attr {v:Vv} (q:Quiet v) (hs:v.st=13) (ht:v.tk=[]) (hc:v.ct=0) (hh:v.hd=[]) (hl:(v.ats.length:Int)<v.oa) {n w:Bs} (hn:NameOk v.ot n) (hw:CharsOk v.ot w) (hd:n ∉ Names v.ats) :
    Go1 v (n ++ [61,34] ++ wVal w ++ [34]) { v with st:=18,ats:=v.ats ++ [⟨n,[],w⟩],an:=[],qt:=34 }:=by
  obtain ⟨x,r,rfl,h1,h2,h3⟩:=hn
  obtain ⟨cs,rfl,hcs,hcl⟩:=hw
  have hx:=beginsName_in h1
  rw [List.length_cons] at h3
  have hs14:¬ ((14:Int)=1∨(14:Int)=2):=by omega
  have g1:Go1 v [x] { v with st:=14,tk:=[x],ct:=1 }:=by
    refine go_one x (name_13 hx).1 fun z hz => ?_
    have hz2:Is { z with state:=14 } { v with st:=14 }:={ hz with st:=rfl }
    have hp:=is_put hz2 (x.toNat:Int)
    rw [pv_name (v:={ v with st:=14 }) hs14 x hx] at hp
    refine ⟨_, ?_, { hp with tk := by rw [hp.tk]; show v.tk ++ [x] = [x]; rw [ht]; rfl
                             ct:=by rw [hp.ct];show v.ct + 1=1;rw [hc];rfl }⟩
    rw [rb_13 hz q hs]
    unfold Mk.readStartSpace
    rw [if_neg (by rw [h1];decide),if_neg (by rw [hz.oa,hz.ats];omega)]
  have g2:=go_anames r { v with st:=14,tk:=[x],ct:=1 } q rfl (by show 1 + (r.length:Int)≤v.ot;omega) h2 hd
  have g3:Go1 { v with st:=14,tk:=x :: r,ct:=1 + (r.length:Int) } [61] { v with st:=16,an:=x :: r }:=by
    refine go_one 61 (by decide) fun z hz => ?_
    rw [show (((61:UInt8).toNat:Nat):Int)=61 from rfl,rb_14 hz q rfl]
    unfold Mk.readAttrName
    rw [if_neg (by decide),if_neg (by decide),if_neg (by rw [(hasAttr_names z z.token).2 (by rw [hz.tk,hz.ats];exact hd)];decide)]
    exact ⟨{ Mk.dropToken z with attr:=z.token,state:=16 },rfl, { hz with st:=rfl,an:=hz.tk,tk:=ht.symm,ct:=hc.symm }⟩
  have g4:Go1 { v with st:=16,an:=x :: r } [34] { v with st:=17,an:=x :: r,qt:=34 }:=by
    refine go_one 34 (by decide) fun z hz => ?_
    rw [show (((34:UInt8).toNat:Nat):Int)=34 from rfl,rb_16 hz q rfl]
    exact ⟨{ z with quote:=34,state:=17 },rfl, { hz with st:=rfl,qt:=rfl }⟩
  have g5:=go_value cs { v with st:=17,an:=x :: r,qt:=34 } q rfl rfl hh (by show v.ct + _≤v.ot;rw [hc];omega) hcs
  have g6:Go1 { v with st:=17,an:=x :: r,qt:=34,tk:=v.tk ++ cs.flatMap Mk.encode,ct:=v.ct + cs.length } [34] { v with st:=18,ats:=v.ats ++ [⟨x :: r,[],cs.flatMap Mk.encode⟩],an:=[],qt:=34 }:=by
    refine go_one 34 (by decide) fun z hz => ?_
    rw [show (((34:UInt8).toNat:Nat):Int)=34 from rfl,rb_17 hz q rfl]
    unfold Mk.readValue
    rw [if_pos (by rw [hz.qt];rfl)]
    refine ⟨_,rfl,?_⟩
    have ea:z.attrs ++ [⟨z.attr,[],z.token⟩]=v.ats ++ [⟨x :: r,[],cs.flatMap Mk.encode⟩]:=by
      rw [hz.ats,hz.an,hz.tk]
      show v.ats ++ [⟨x :: r,[],v.tk ++ _⟩]=_
      rw [ht];rfl
    exact { hz with st:=rfl,ats:=ea,an:=rfl,tk:=ht.symm,ct:=hc.symm }
  have e:x :: r ++ [61,34] ++ wVal (cs.flatMap Mk.encode) ++ [34]=[x] ++ (r ++ ([61] ++ ([34] ++ (wVal (cs.flatMap Mk.encode) ++ [34])))):=by simp
  rw [e]
  exact g1.app (g2.app (g3.app (g4.app (g5.app g6))))
def wAtts (l:List Att):Bs:=l.flatMap fun a=>wAttr a.name a.val
theorem go_atts:∀ (l:List Att) (v:Vv),Quiet v→v.st=18→v.tk=[]→v.ct=0→v.hd=[]→v.an=[]→v.qt=34→(v.ats.length:Int) + l.length≤v.oa→(∀ a ∈ l,AttOk v.ot a)→(Names (v.ats ++ l)).Nodup→Go1 v (wAtts l) { v with ats:=v.ats ++ l }
  | [],v,q,hs,ht,hc,hh,ha,hq,hl,ho,hn=>by
    rw [List.append_nil]
    exact Go1.nil v
  | a :: r,v,q,hs,ht,hc,hh,ha,hq,hl,ho,hn=>by
    obtain ⟨an,asp,av⟩:=a
    obtain ⟨o1,o2,o3⟩:=ho _ (List.mem_cons_self)
    cases (show asp=[] from o3)
    rw [List.length_cons] at hl
    have hd:an ∉ Names v.ats:=by
      intro k
      unfold Names at hn k
      rw [List.map_append,List.map_cons] at hn
      exact (List.nodup_append.1 hn).2.2 an k an (by simp) rfl
    have g1:=go_gap q hs
    have g2:=go_attr (v:={ v with st:=13 }) q rfl ht hc hh (by show (v.ats.length:Int)<v.oa;omega) o1 o2 hd
    have e0:({ v with st:=18,ats:=v.ats ++ [⟨an,[],av⟩],an:=[],qt:=34 }:Vv)={ v with ats:=v.ats ++ [⟨an,[],av⟩] }:=by
      rw [← hs]
      rw [← hq]
      rw [← ha]
    have g3:=go_atts r { v with ats:=v.ats ++ [⟨an,[],av⟩] } q hs ht hc hh ha hq (by show ((v.ats ++ [_]).length:Int) + _≤v.oa;rw [List.length_append];simp;omega) (fun y hy=>ho y (List.mem_cons_of_mem _ hy)) (by show (Names (v.ats ++ [_] ++ r)).Nodup;rw [List.append_assoc];exact hn)
    have e:wAtts (⟨an,[],av⟩ :: r)=[32] ++ ((an ++ [61,34] ++ wVal av ++ [34]) ++ wAtts r):=by
      show wAttr an av ++ wAtts r=_
      unfold wAttr
      simp
    rw [e]
    have g12:=g1.app g2
    have e2:({ ({ v with st:=13 }:Vv) with st:=18,ats:=v.ats ++ [⟨an,[],av⟩],an:=[],qt:=34 }:Vv)={ v with st:=18,ats:=v.ats ++ [⟨an,[],av⟩],an:=[],qt:=34 }:=rfl
    rw [e2,e0] at g12
    rw [← List.append_assoc]
    have g4:=g12.app g3
    have e3:v.ats ++ [⟨an,[],av⟩] ++ r=v.ats ++ ⟨an,[],av⟩ :: r:=by simp
    have e4:({ ({ v with ats:=v.ats ++ [⟨an,[],av⟩] }:Vv) with ats:=v.ats ++ [⟨an,[],av⟩] ++ r }:Vv)={ v with ats:=v.ats ++ ⟨an,[],av⟩ :: r }:=by rw [e3]
    rw [← e4]
    exact g4
def Rv (d a t:Int) (o:List Bs) (ov:Bool) (li:List Ev) (tx:Bs) (q m:Int):Vv:=
  ⟨d,a,t,if o.length=0 then 0 else 1,o,ov,[],0,[],[],[],[],li,tx,q,m,none,none⟩
theorem rv_st (o:List Bs):(if o.length=0 then (0:Int) else 1)=0∨(if o.length=0 then (0:Int) else 1)=1:=by
  split
  · exact .inl rfl
  · exact .inr rfl
theorem Go1.of {v v' : Vv} {l l' : Bs} (h:Go1 v l v') (e:l' = l):Go1 v l' v' := e ▸ h
variable {d a t:Int} {o:List Bs} {ov:Bool} {li:List Ev} {tx:Bs} {q m:Int}
theorem go_start (n:Bs) (ats:List Att) (hov:ov=false) (hd:(o.length:Int)<d) (hn:NameOk t n) (hl:(ats.length:Int)≤a) (ha:∀ y ∈ ats,AttOk t y) (hnd:(Names ats).Nodup) :
    ∃ q', Go1 (Rv d a t o ov li tx q m) (60 :: n ++ wAtts ats ++ [62]) (Rv d a t (o ++ [n]) ov (wTl li tx ++ [⟨1,n,[],[],ats⟩]) [] q' m):=by
  have g1:=go_less (v:=Rv d a t o ov li tx q m) ⟨rfl,rfl⟩ (rv_st o)
  have g2:=go_sname (v:={ Rv d a t o ov li tx q m with st:=3 }) ⟨rfl,rfl⟩ rfl rfl rfl hov hd hn
  cases ats with
  | nil =>
    have g3:=go_endS12 (v:={ Rv d a t o ov li tx q m with st:=12,tk:=n,ct:=(n.length:Int) }) ⟨rfl,rfl⟩ rfl
    exact ⟨q,(g1.app (g2.app g3)).of (by simp [wAtts])⟩
  | cons y r =>
    obtain ⟨yn,ys,yv⟩:=y
    obtain ⟨o1,o2,o3⟩:=ha _ List.mem_cons_self
    cases (show ys=[] from o3)
    rw [List.length_cons] at hl
    have g3:=go_gap12 (v:={ Rv d a t o ov li tx q m with st:=12,tk:=n,ct:=(n.length:Int) }) ⟨rfl,rfl⟩ rfl
    have g4:=go_attr (v:={ Rv d a t o ov li tx q m with st:=13,nm:=n }) ⟨rfl,rfl⟩ rfl rfl rfl rfl (by show ((0:Nat):Int)<a;omega) o1 o2 (by show yn ∉ [];simp)
    have g5:=go_atts r { Rv d a t o ov li tx q m with st:=18,nm:=n,ats:=[⟨yn,[],yv⟩],qt:=34 } ⟨rfl,rfl⟩ rfl rfl rfl rfl rfl rfl (by show ((1:Nat):Int) + _≤a;omega) (fun z hz=>ha z (List.mem_cons_of_mem _ hz)) hnd
    have g6:=go_endS (v:={ Rv d a t o ov li tx q m with st:=18,nm:=n,ats:=⟨yn,[],yv⟩ :: r,qt:=34 }) ⟨rfl,rfl⟩ rfl
    exact ⟨34,(g1.app (g2.app (g3.app (g4.app (g5.app g6))))).of (by simp [wAtts,wAttr])⟩
theorem go_ename:∀ (n:Bs) (v:Vv) (k:Nat),Quiet v→v.st=20→v.mt=(k:Int)→(v.op.getLastD []).drop k=n→(∀ x ∈ n,(x.toNat:Int) ≠ 13)→Go1 v n { v with mt:=((k + n.length:Nat):Int) }
  | [],v,k,q,hs,hm,hn,hx=>by
    show Go1 v [] { v with mt:=(k:Int) }
    rw [← hm]
    exact Go1.nil v
  | x :: r,v,k,q,hs,hm,hn,hx=>by
    have hlt:k<(v.op.getLastD []).length:=by
      apply Nat.lt_of_not_le
      intro hle
      rw [List.drop_eq_nil_of_le hle] at hn
      cases hn
    have hg:(v.op.getLastD []).getD k 0=x:=by
      have e:=List.drop_eq_getElem_cons hlt
      rw [hn] at e
      rw [List.getD_eq_getElem?_getD,List.getElem?_eq_getElem hlt]
      exact (List.cons.inj e).1.symm
    have hn2:(v.op.getLastD []).drop (k + 1)=r:=by
      have e:=List.drop_eq_getElem_cons hlt
      rw [hn] at e
      exact (List.cons.inj e).2.symm
    have g:Go1 v [x] { v with mt:=((k + 1:Nat):Int) }:=by
      refine go_one x (hx x (by simp)) fun z hz => ?_
      rw [rb_20 hz q hs]
      have ei:Mk.innermost z=v.op.getLastD []:=by unfold Mk.innermost;rw [hz.op]
      unfold Mk.readEndName
      rw [ei,hz.mt,hm,if_pos (by omega),if_neg (by rw [Int.toNat_natCast,hg];simp)]
      exact ⟨_,rfl, { hz with mt:=by show (k:Int) + 1=((k + 1:Nat):Int);omega }⟩
    have g2:=go_ename r { v with mt:=((k + 1:Nat):Int) } (k + 1) q hs rfl hn2 (fun y hy=>hx y (List.mem_cons_of_mem _ hy))
    have g3:=g.app g2
    rw [List.length_cons,show k + (r.length + 1)=k + 1 + r.length by omega]
    exact g3
theorem is_endInnermost {z:St} {v:Vv} (h:Is z v):Is (Mk.endInnermost z) (resV { addV { v with op:=v.op.dropLast } ⟨2,v.op.getLastD [],[],[],[]⟩ with ov:=decide (v.op.dropLast.length=0) }):=by
  unfold Mk.endInnermost Mk.innermost
  rw [h.op]
  have h1:Is { z with opn:=v.op.dropLast } { v with op:=v.op.dropLast }:={ h with op:=rfl }
  rw [tellEnd_off h1.cn h1.on]
  have h2:=is_add h1 ⟨2,v.op.getLastD [],[],[],[]⟩
  refine is_resume ?_
  unfold Mk.leave
  exact { h2 with cn := by show (Mk.add _ _).cnt.dropLast = []; rw [h2.cn]; rfl
                  ov:=rfl }
theorem go_end (o:List Bs) (n:Bs) (hn:∀ x ∈ n,Mk.inName (x.toNat:Int)=true) :
    ∃ m', Go1 (Rv d a t (o ++ [n]) ov li tx q m) ([60,47] ++ n ++ [62]) (Rv d a t o (decide (o.length=0)) (wTl li tx ++ [⟨2,n,[],[],[]⟩]) [] q m'):=by
  have hl:(o ++ [n]).getLastD []=n:=by simp
  have g1:=go_less (v:=Rv d a t (o ++ [n]) ov li tx q m) ⟨rfl,rfl⟩ (rv_st _)
  have g2:Go1 { Rv d a t (o ++ [n]) ov li tx q m with st:=3 } [47] { Rv d a t (o ++ [n]) ov li tx q m with st:=20,mt:=0 }:=by
    refine go_one 47 (by decide) fun z hz => ?_
    rw [show (((47:UInt8).toNat:Nat):Int)=47 from rfl,rb_3 hz ⟨rfl,rfl⟩ rfl]
    unfold Mk.readLess
    rw [if_neg (by decide),if_neg (by decide),if_pos ⟨rfl,by rw [hz.op];show 0<(o ++ [n]).length;simp⟩]
    exact ⟨_,rfl, { hz with st:=rfl,mt:=rfl }⟩
  have g3:=go_ename n { Rv d a t (o ++ [n]) ov li tx q m with st:=20,mt:=0 } 0 ⟨rfl,rfl⟩ rfl rfl (by show ((o ++ [n]).getLastD []).drop 0=n;rw [hl];rfl) (fun x hx=>(name_13 (hn x hx)).1)
  have g4:Go1 { Rv d a t (o ++ [n]) ov li tx q m with st:=20,mt:=((0 + n.length:Nat):Int) } [62] (Rv d a t o (decide (o.length=0)) (wTl li tx ++ [⟨2,n,[],[],[]⟩]) [] q ((0 + n.length:Nat):Int)):=by
    refine go_one 62 (by decide) fun z hz => ?_
    rw [show (((62:UInt8).toNat:Nat):Int)=62 from rfl,rb_20 hz ⟨rfl,rfl⟩ rfl]
    have ei:Mk.innermost z=n:=by unfold Mk.innermost;rw [hz.op];exact hl
    have em:z.matched=((0 + n.length:Nat):Int):=hz.mt
    unfold Mk.readEndName
    rw [ei,em,if_neg (by omega),if_neg (by decide)]
    have:=is_endInnermost hz
    have e1:((o ++ [n]).dropLast)=o:=by simp
    refine ⟨_,rfl,?_⟩
    have e2:resV { addV { ({ Rv d a t (o ++ [n]) ov li tx q m with st:=20,mt:=((0 + n.length:Nat):Int) }:Vv) with op:=(o ++ [n]).dropLast } ⟨2,(o ++ [n]).getLastD [],[],[],[]⟩ with ov:=decide ((o ++ [n]).dropLast.length=0) }=Rv d a t o (decide (o.length=0)) (wTl li tx ++ [⟨2,n,[],[],[]⟩]) [] q ((0 + n.length:Nat):Int):=by
      rw [e1,hl];rfl
    rw [← e2]
    exact this
  exact ⟨_,(g1.app (g2.app (g3.app g4))).of (by simp)⟩
def CommOk (t:Int) (v:Bs):Prop := ∃ cs:List Int,v=cs.flatMap Mk.encode∧(∀ c ∈ cs,Mk.isChar c=true∧c ≠ 13)∧(cs.length:Int)≤t∧cmOk false cs=true
def InstrOk (t:Int) (v:Bs):Prop := ∃ cs:List Int,v=cs.flatMap Mk.encode∧(∀ c ∈ cs,Mk.isChar c=true∧c ≠ 13)∧(cs.length:Int)≤t∧inOk false cs=true∧∀ c r,cs=c :: r→Mk.isSpace c=false
theorem go_comm (val:Bs) (hv:CommOk t val):Go1 (Rv d a t o ov li tx q m) ([60,33,45,45] ++ val ++ [45,45,62]) (Rv d a t o ov (wTl li tx ++ [⟨4,[],[],val,[]⟩]) [] q m):=by
  obtain ⟨cs,rfl,hc,hl,hok⟩:=hv
  have g1:=go_less (v:=Rv d a t o ov li tx q m) ⟨rfl,rfl⟩ (rv_st _)
  have g2:Go1 { Rv d a t o ov li tx q m with st:=3 } [33] { Rv d a t o ov li tx q m with st:=4 }:=by
    refine go_one 33 (by decide) fun z hz => ?_
    rw [show (((33:UInt8).toNat:Nat):Int)=33 from rfl,rb_3 hz ⟨rfl,rfl⟩ rfl]
    exact ⟨{ z with state:=4 },rfl, { hz with st:=rfl }⟩
  have g3:Go1 { Rv d a t o ov li tx q m with st:=4 } [45] { Rv d a t o ov li tx q m with st:=5 }:=by
    refine go_one 45 (by decide) fun z hz => ?_
    rw [show (((45:UInt8).toNat:Nat):Int)=45 from rfl,rb_4 hz ⟨rfl,rfl⟩ rfl]
    exact ⟨{ z with state:=5 },rfl, { hz with st:=rfl }⟩
  have g4:Go1 { Rv d a t o ov li tx q m with st:=5 } [45] { Rv d a t o ov li tx q m with st:=7 }:=by
    refine go_one 45 (by decide) fun z hz => ?_
    rw [show (((45:UInt8).toNat:Nat):Int)=45 from rfl,rb_5 hz ⟨rfl,rfl⟩ rfl]
    exact ⟨{ z with state:=7 },rfl, { hz with st:=rfl }⟩
  have g5:=go_comment cs false { Rv d a t o ov li tx q m with st:=7 } ⟨rfl,rfl⟩ rfl rfl (by show (0:Int) + (0:Nat) + _≤t;omega) hc hok
  have g6:∀ (hd hd' : Bs) (v:Vv),Quiet v→v.st=7→hd ≠ [45,45]→hd' = hd ++ [45]→Go1 { v with hd:=hd } [45] { v with hd:=hd' }:=fun hd hd' v qv hs hne he=>by
    subst he
    refine go_one 45 (by decide) fun z hz => ?_
    rw [show (((45:UInt8).toNat:Nat):Int)=45 from rfl,rb_7 hz qv hs]
    unfold Mk.readComment
    have hh:z.held=hd:=hz.hd
    rw [if_neg (fun k=>by cases k.2),if_neg (by rw [hh];exact hne),if_pos rfl]
    exact ⟨_,rfl, { hz with hd:=by show z.held ++ [45]=hd ++ [45];rw [hh] }⟩
  have g7:Go1 { Rv d a t o ov li tx q m with st:=7,hd:=[45,45],tk:=[] ++ heldC false ++ cs.flatMap Mk.encode,ct:=0 + ((heldC false).length:Nat) + cs.length } [62] (Rv d a t o ov (wTl li tx ++ [⟨4,[],[],cs.flatMap Mk.encode,[]⟩]) [] q m):=by
    refine go_one 62 (by decide) fun z hz => ?_
    rw [show (((62:UInt8).toNat:Nat):Int)=62 from rfl,rb_7 hz ⟨rfl,rfl⟩ rfl]
    unfold Mk.readComment
    rw [if_pos ⟨hz.hd,rfl⟩]
    have h1:Is (Mk.dropToken { z with held:=[] }) { Rv d a t o ov li tx q m with st:=7 }:={ hz with hd:=rfl,tk:=rfl,ct:=rfl }
    have h2:=is_resume (is_add h1 ⟨4,[],[],z.token,[]⟩)
    have h3:z.token=cs.flatMap Mk.encode:=hz.tk
    rw [h3] at h2
    refine ⟨_,rfl,?_⟩
    unfold Mk.endComment
    rw [h3]
    exact h2
  have g8:=g6 [] [45] { Rv d a t o ov li tx q m with st:=7,tk:=[] ++ heldC false ++ cs.flatMap Mk.encode,ct:=0 + ((heldC false).length:Nat) + cs.length } ⟨rfl,rfl⟩ rfl (by decide) rfl
  have g9:=g6 [45] [45,45] { Rv d a t o ov li tx q m with st:=7,tk:=[] ++ heldC false ++ cs.flatMap Mk.encode,ct:=0 + ((heldC false).length:Nat) + cs.length } ⟨rfl,rfl⟩ rfl (by decide) rfl
  exact (g1.app (g2.app (g3.app (g4.app (g5.app (g8.app (g9.app g7))))))).of (by simp)
theorem enc_cons {c:Int} (h0:0≤c) (h1:c≤1114111) (hs:Mk.isSpace c=false):∃ x r,Mk.encode c=x :: r∧Mk.isSpace (x.toNat:Int)=false:=by
  by_cases h:c<128
  · refine ⟨Mk.u8 c,[],enc_ascii h,?_⟩
    rw [u8_nat h0 (by omega)];exact hs
  · have hh:=enc_high (by omega) h1
    cases he:Mk.encode c with
    | nil =>
      exfalso
      by_cases h2:c<2048
      · rw [encode_2 (by omega) h2] at he;cases he
      · by_cases h3:c<65536
        · rw [encode_3 (by omega) h3] at he;cases he
        · rw [encode_4 (by omega)] at he;cases he
    | cons x r =>
      refine ⟨x,r,rfl,?_⟩
      have:=hh x (by rw [he];simp)
      unfold Mk.isSpace
      simp
      omega
theorem go_pi (n val:Bs) (hn:NameOk t n) (hx:Mk.isXML n=false) (hv:InstrOk t val) :
    Go1 (Rv d a t o ov li tx q m) ([60,63] ++ n ++ (if val=[] then [] else 32 :: val) ++ [63,62]) (Rv d a t o ov (wTl li tx ++ [⟨5,n,[],val,[]⟩]) [] q m):=by
  obtain ⟨cs,rfl,hc,hl,hok,hsp⟩:=hv
  have hnl:n.length ≠ 0:=by obtain ⟨x,r,rfl,_⟩:=hn;simp
  have g1:=go_less (v:=Rv d a t o ov li tx q m) ⟨rfl,rfl⟩ (rv_st _)
  have g2:Go1 { Rv d a t o ov li tx q m with st:=3 } [63] { Rv d a t o ov li tx q m with st:=8 }:=by
    refine go_one 63 (by decide) fun z hz => ?_
    rw [show (((63:UInt8).toNat:Nat):Int)=63 from rfl,rb_3 hz ⟨rfl,rfl⟩ rfl]
    exact ⟨{ z with state:=8 },rfl, { hz with st:=rfl }⟩
  have g3:=go_iname (v:={ Rv d a t o ov li tx q m with st:=8 }) ⟨rfl,rfl⟩ rfl rfl rfl hn
  have g4:∀ (x:UInt8) (st:Int),(x=63∧st=9∨x=32∧st=10)→Go1 { Rv d a t o ov li tx q m with st:=8,tk:=n,ct:=(n.length:Int) } [x] { Rv d a t o ov li tx q m with st:=st,nm:=n }:=fun x st hxs=>by
    have hx13:(x.toNat:Int) ≠ 13:=by rcases hxs with ⟨rfl,_⟩ | ⟨rfl,_⟩ <;> decide
    refine go_one x hx13 fun z hz => ?_
    rw [rb_8 hz ⟨rfl,rfl⟩ rfl]
    have ht:z.token=n:=hz.tk
    have hcn:z.count=(n.length:Int):=hz.ct
    unfold Mk.readInstructionName
    rw [if_neg (by rw [hcn];intro k;rw [Bool.and_eq_true] at k;have k1:=k.1;simp at k1;exact hnl (by rw [k1];rfl))]
    rcases hxs with ⟨rfl,rfl⟩ | ⟨rfl,rfl⟩
    · rw [if_neg (by decide),if_neg (by rw [ht,hx];decide),if_neg (by rw [hz.on];simp)]
      exact ⟨_,rfl, { hz with st:=rfl,nm:=ht,tk:=rfl,ct:=rfl }⟩
    · rw [if_neg (by decide),if_neg (by rw [ht,hx];decide),if_neg (by rw [hz.on];simp)]
      exact ⟨_,rfl, { hz with st:=rfl,nm:=ht,tk:=rfl,ct:=rfl }⟩
  have ee:∀ (v:Vv),endI { Rv d a t o ov li tx q m with st:=11,nm:=n } (cs.flatMap Mk.encode)=Rv d a t o ov (wTl li tx ++ [⟨5,n,[],cs.flatMap Mk.encode,[]⟩]) [] q m:=fun _=>rfl
  cases cs with
  | nil =>
    have g5:Go1 { Rv d a t o ov li tx q m with st:=9,nm:=n } [62] (Rv d a t o ov (wTl li tx ++ [⟨5,n,[],[],[]⟩]) [] q m):=by
      refine go_one 62 (by decide) fun z hz => ?_
      rw [show (((62:UInt8).toNat:Nat):Int)=62 from rfl,rb_9 hz ⟨rfl,rfl⟩ rfl]
      unfold Mk.readBareInstruction
      rw [if_pos (by decide)]
      exact ⟨_,rfl,is_endInstruction hz⟩
    exact (g1.app (g2.app (g3.app ((g4 63 9 (.inl ⟨rfl,rfl⟩)).app g5)))).of (by simp)
  | cons c r =>
    obtain ⟨c1,c2⟩:=hc c List.mem_cons_self
    have hb:=isChar_bds c1
    obtain ⟨x,y,e1,e2⟩:=enc_cons hb.1 hb.2 (hsp c r rfl)
    have e3:(c :: r).flatMap Mk.encode=x :: (y ++ r.flatMap Mk.encode):=by
      show Mk.encode c ++ _=_
      rw [e1];rfl
    obtain ⟨h', tk,ct,g5,k1,k2⟩:=go_instr (c :: r) false { Rv d a t o ov li tx q m with st:=11,nm:=n } ⟨rfl,rfl⟩ rfl rfl (by show (0:Int) + (0:Nat) + _≤t;omega) hc hok
    have k2:ct + (heldI h').length=(0:Int) + (0:Nat) + ((c :: r).length:Nat):=k2
    have g6:=go_endI (v:={ Rv d a t o ov li tx q m with st:=11,nm:=n,hd:=heldI h', tk:=tk,ct:=ct }) ⟨rfl,rfl⟩ rfl h' rfl (by show ct + _≤t;omega)
    have k1:tk ++ heldI h' = (c :: r).flatMap Mk.encode:=k1
    have g7:Go1 { Rv d a t o ov li tx q m with st:=11,nm:=n } ((c :: r).flatMap Mk.encode ++ [63,62]) (Rv d a t o ov (wTl li tx ++ [⟨5,n,[],(c :: r).flatMap Mk.encode,[]⟩]) [] q m):=by
      have g8:=g5.app g6
      have e4:endI ({ Rv d a t o ov li tx q m with st:=11,nm:=n,hd:=heldI h', tk:=tk,ct:=ct }:Vv) (tk ++ heldI h')=Rv d a t o ov (wTl li tx ++ [⟨5,n,[],(c :: r).flatMap Mk.encode,[]⟩]) [] q m:=by rw [k1];rfl
      rw [← e4]
      exact g8
    rw [e3] at g7
    have g8:=go_10 (v:={ Rv d a t o ov li tx q m with st:=10,nm:=n }) ⟨rfl,rfl⟩ rfl x _ e2 g7
    rw [e3]
    exact (g1.app (g2.app (g3.app ((g4 32 10 (.inr ⟨rfl,rfl⟩)).app g8)))).of (by simp)
theorem go_txt (val:Bs) (ho:o ≠ []) (hv:∃ cs:List Int,val=cs.flatMap Mk.encode∧∀ c ∈ cs,Mk.isChar c=true):Go1 (Rv d a t o ov li tx q m) (wText val) (Rv d a t o ov li (tx ++ val) q m):=by
  obtain ⟨cs,rfl,hc⟩:=hv
  have hs:(if o.length=0 then (0:Int) else 1)=1:=by
    rw [if_neg]
    intro k
    exact ho (List.length_eq_zero_iff.1 k)
  exact go_text cs (Rv d a t o ov li tx q m) ⟨rfl,rfl⟩ hs rfl hc
inductive GoodE (d a t:Int) (o:List Bs) (ov pt:Bool):Ev→List Bs→Bool→Prop
  | start (n:Bs) (ats:List Att) (h1:ov=false) (h2:(o.length:Int)<d) (h3:NameOk t n) (h4:(ats.length:Int)≤a) (h5:∀ y ∈ ats,AttOk t y) (h6:(Names ats).Nodup):GoodE d a t o ov pt ⟨1,n,[],[],ats⟩ (o ++ [n]) ov
  | fin (o' : List Bs) (n:Bs) (h1:o=o' ++ [n]) (h2:∀ x ∈ n,Mk.inName (x.toNat:Int)=true):GoodE d a t o ov pt ⟨2,n,[],[],[]⟩ o' (decide (o'.length=0))
  | txt (val:Bs) (h1:o ≠ []) (h2:pt=false) (h3:val ≠ []) (h4:∃ cs:List Int,val=cs.flatMap Mk.encode∧∀ c ∈ cs,Mk.isChar c=true):GoodE d a t o ov pt ⟨3,[],[],val,[]⟩ o ov
  | comm (val:Bs) (h1:CommOk t val):GoodE d a t o ov pt ⟨4,[],[],val,[]⟩ o ov
  | pi (n val:Bs) (h1:NameOk t n) (h2:Mk.isXML n=false) (h3:InstrOk t val):GoodE d a t o ov pt ⟨5,n,[],val,[]⟩ o ov
inductive GoodL (d a t:Int):List Bs→Bool→Bool→List Ev→List Bs→Bool→Prop
  | nil (o:List Bs) (ov pt:Bool):GoodL d a t o ov pt [] o ov
  | cons {o o1 o2:List Bs} {ov ov1 ov2 pt:Bool} {e:Ev} {l:List Ev} (h:GoodE d a t o ov pt e o1 ov1) (r:GoodL d a t o1 ov1 (decide (e.kind=3)) l o2 ov2):GoodL d a t o ov pt (e :: l) o2 ov2
def wEv (e:Ev):Bs:=if e.kind=1 then wStart e [] else wOther e
theorem go_ev {pt:Bool} {e:Ev} {o1:List Bs} {ov1:Bool} (h:GoodE d a t o ov pt e o1 ov1) (hp:pt=false→tx=[]) :
    ∃ q' m' li' tx', Go1 (Rv d a t o ov li tx q m) (wEv e) (Rv d a t o1 ov1 li' tx' q' m')∧wTl li' tx' = wTl li tx ++ [e]∧(decide (e.kind=3)=false→tx' = []):=by
  cases h with
  | start n ats h1 h2 h3 h4 h5 h6 =>
    obtain ⟨q', g⟩:=go_start (li:=li) (tx:=tx) (q:=q) (m:=m) n ats h1 h2 h3 h4 h5 h6
    exact ⟨q', m,_,_,g.of (by simp [wEv,wStart,wAtts]),rfl,fun _=>rfl⟩
  | fin o' n h1 h2 =>
    subst h1
    obtain ⟨m', g⟩:=go_end (d:=d) (a:=a) (t:=t) (ov:=ov) (li:=li) (tx:=tx) (q:=q) (m:=m) o1 n h2
    exact ⟨q,m', _,_,g.of (by simp [wEv,wOther]),rfl,fun _=>rfl⟩
  | txt val h1 h2 h3 h4 =>
    have htx:=hp h2
    subst htx
    have g:=go_txt (d:=d) (a:=a) (t:=t) (ov:=ov) (li:=li) (tx:=[]) (q:=q) (m:=m) val h1 h4
    refine ⟨q,m,_,_,g.of (by simp [wEv,wOther]),?_,fun k=>by cases k⟩
    have:val.length ≠ 0:=fun k=>h3 (List.length_eq_zero_iff.1 k)
    simp [wTl,this]
  | comm val h1=>exact ⟨q,m,_,_,(go_comm val h1).of (by simp [wEv,wOther]),rfl,fun _=>rfl⟩
  | pi n val h1 h2 h3=>exact ⟨q,m,_,_,(go_pi n val h1 h2 h3).of (by simp [wEv,wOther]),rfl,fun _=>rfl⟩
theorem go_list {pt:Bool} {l:List Ev} {o1:List Bs} {ov1:Bool} (h:GoodL d a t o ov pt l o1 ov1):∀ {li:List Ev} {tx:Bs} {q m:Int},(pt=false→tx=[]) →
    ∃ q' m' li' tx', Go1 (Rv d a t o ov li tx q m) (l.flatMap wEv) (Rv d a t o1 ov1 li' tx' q' m')∧wTl li' tx' = wTl li tx ++ l:=by
  induction h with
  | nil o ov pt=>intro li tx q m hp;exact ⟨q,m,li,tx,Go1.nil _,by simp⟩
  | cons h r ih =>
    intro li tx q m hp
    obtain ⟨q', m', li', tx', g,e,hp'⟩:=go_ev (li:=li) (tx:=tx) (q:=q) (m:=m) h hp
    obtain ⟨q2,m2,li2,tx2,g2,e2⟩:=ih (li:=li') (tx:=tx') (q:=q') (m:=m') hp'
    exact ⟨q2,m2,li2,tx2,g.app g2,by rw [e2,e];simp⟩
theorem is_make (d a t:Int):Is (Mk.make_ d a t false) (Rv d a t [] false [] [] 0 0):=by
  constructor <;> rfl
theorem write_read {l:List Ev} {o1:List Bs} {ov1:Bool} (h:GoodL d a t [] false false l o1 ov1) :
    (Mk.feedAll (Mk.make_ d a t false) (l.flatMap wEv)).ended=0∧wT (Mk.feedAll (Mk.make_ d a t false) (l.flatMap wEv))=l∧(Mk.feedAll (Mk.make_ d a t false) (l.flatMap wEv)).opn=o1∧(Mk.feedAll (Mk.make_ d a t false) (l.flatMap wEv)).over=ov1∧(Mk.feedAll (Mk.make_ d a t false) (l.flatMap wEv)).state=(if o1.length=0 then 0 else 1):=by
  obtain ⟨q,m,li,tx,g,e⟩:=go_list h (li:=[]) (tx:=[]) (q:=0) (m:=0) (fun _=>rfl)
  have i:=g _ (is_make d a t)
  refine ⟨i.en,?_,i.op,i.ov,i.st⟩
  unfold wT
  rw [i.tx,i.li]
  exact e
end Go.Proofs.YtmgfijllcdadgabGreatDoor
