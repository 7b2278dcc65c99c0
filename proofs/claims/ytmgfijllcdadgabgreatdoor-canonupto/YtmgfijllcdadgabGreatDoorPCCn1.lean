/- Cn1 -/
import Derived.Test.YtmgfijllcdadgabGreatDoorPCWr2
import Derived.Test.YtmgfijllcdadgabGreatDoorPCNest1
set_option linter.unusedVariables false
set_option linter.unusedSimpArgs false
namespace Go.Proofs.YtmgfijllcdadgabGreatDoor
open Mk (St Bs Ev Att)
def Enc (v:Bs):Prop := ∃ cs:List Int,v=cs.flatMap Mk.encode∧∀ c ∈ cs,Mk.isChar c=true
theorem Enc.nil:Enc []:=⟨[],rfl,fun c h=>by cases h⟩
theorem Enc.snoc {v:Bs} (h:Enc v) {c:Int} (hc:Mk.isChar c=true):Enc (v ++ Mk.encode c):=by
  obtain ⟨cs,rfl,h1⟩:=h
  refine ⟨cs ++ [c],by simp [List.flatMap_append],fun x hx => ?_⟩
  rcases List.mem_append.1 hx with hx | hx
  · exact h1 x hx
  · rw [List.mem_singleton.1 hx];exact hc
def Nmd (n:Bs):Prop := ∃ x r,n=x :: r∧Mk.beginsName (x.toNat:Int)=true∧∀ y ∈ r,Mk.inName (y.toNat:Int)=true
theorem Nmd.ok {n:Bs} (h:Nmd n) {t:Int} (hl:(n.length:Int)≤t):NameOk t n:=by
  obtain ⟨x,r,e,h1,h2⟩:=h
  exact ⟨x,r,e,h1,h2,hl⟩
theorem Nmd.one {b:Int} (h:Mk.beginsName b=true):Nmd ([] ++ [Mk.u8 b]):=
  ⟨Mk.u8 b,[],rfl,by rw [u8_nat (beginsName_lt h).1 (by have:=(beginsName_lt h).2;omega)];exact h,fun y hy=>by cases hy⟩
theorem Nmd.snoc {n:Bs} (h:Nmd n) {b:Int} (hb:Mk.inName b=true):Nmd (n ++ [Mk.u8 b]):=by
  obtain ⟨x,r,rfl,h1,h2⟩:=h
  refine ⟨x,r ++ [Mk.u8 b],rfl,h1,fun y hy => ?_⟩
  rcases List.mem_append.1 hy with hy | hy
  · exact h2 y hy
  · rw [List.mem_singleton.1 hy,u8_nat (inName_lt hb).1 (by have:=(inName_lt hb).2;omega)];exact hb
theorem cmOk_cons (h:Bool) (c:Int) (r:List Int):cmOk h (c :: r)=if c=45 then (!h && cmOk true r) else cmOk false r:=rfl
theorem cmOk_app:∀ (l:List Int) (h:Bool) (r:List Int),cmOk h l=true→cmOk h (l ++ r)=cmOk false r
  | [],h,r,e=>by cases h;rfl;cases e
  | c :: l,h,r,e=>by
    rw [List.cons_append,cmOk_cons]
    rw [cmOk_cons] at e
    by_cases hc:c=45
    · rw [if_pos hc] at e ⊢
      have e:h=false∧cmOk true l=true:=by simpa using e
      rw [cmOk_app l true r e.2,e.1];rfl
    · rw [if_neg hc] at e ⊢
      exact cmOk_app l false r e
theorem cmOk_one {c:Int} (h:c ≠ 45):cmOk false [c]=true:=by rw [cmOk_cons,if_neg h];rfl
theorem cmOk_two {c:Int} (h:c ≠ 45):cmOk false [45,c]=true:=by
  rw [cmOk_cons,if_pos rfl,cmOk_cons,if_neg h];rfl
def Cm (v:Bs) (pl:Int):Prop := ∃ cs:List Int,v=cs.flatMap Mk.encode∧(∀ c ∈ cs,Mk.isChar c=true∧c ≠ 13)∧(pl=0→cmOk false cs=true)∧∀ c,c ≠ 45→cmOk false (cs ++ [c])=true
theorem Cm.nil (pl:Int):Cm [] pl:=⟨[],rfl,fun c h=>(by cases h),fun _=>rfl,fun c h=>cmOk_one h⟩
theorem Cm.snoc {v:Bs} {pl:Int} (h:Cm v pl) {c:Int} (hc:Mk.isChar c=true) (h13:c ≠ 13) (h45:c ≠ 45) (pl' : Int):Cm (v ++ Mk.encode c) pl' := by
  obtain ⟨cs,rfl,h1,h2,h3⟩:=h
  refine ⟨cs ++ [c],by simp [List.flatMap_append],fun x hx => ?_,fun _=>h3 c h45,fun d hd => ?_⟩
  · rcases List.mem_append.1 hx with hx | hx
    · exact h1 x hx
    · rw [List.mem_singleton.1 hx];exact ⟨hc,h13⟩
  · rw [cmOk_app _ _ _ (h3 c h45)];exact cmOk_one hd
theorem Cm.dash {v:Bs} (h:Cm v 0) {pl:Int} (hp:pl ≠ 0):Cm (v ++ [45]) pl:=by
  obtain ⟨cs,rfl,h1,h2,h3⟩:=h
  refine ⟨cs ++ [45],by rw [List.flatMap_append];rfl,fun x hx => ?_,fun e=>absurd e hp,fun d hd => ?_⟩
  · rcases List.mem_append.1 hx with hx | hx
    · exact h1 x hx
    · rw [List.mem_singleton.1 hx];exact ⟨rfl,by decide⟩
  · rw [List.append_assoc,cmOk_app _ _ _ (h2 rfl)];exact cmOk_two hd
theorem Cm.pend {v:Bs} {pl:Int} (h:Cm v 0):Cm v pl:=by
  obtain ⟨cs,e,h1,h2,h3⟩:=h
  exact ⟨cs,e,h1,fun _=>h2 rfl,h3⟩
def endsQ:Bool→List Int→Bool
  | h,[]=>h
  | _,c :: r=>endsQ (c == 63) r
theorem endsQ_snoc:∀ (l:List Int) (h:Bool) (c:Int),endsQ h (l ++ [c])=(c == 63)
  | [],_,_=>rfl
  | _ :: l,_,c=>endsQ_snoc l _ c
theorem inOk_cons (h:Bool) (c:Int) (r:List Int):inOk h (c :: r)=if c=63 then inOk true r else (!(h && c == 62) && inOk false r):=rfl
theorem inOk_snoc:∀ (l:List Int) (h:Bool) (c:Int),inOk h l=true→(c=62→endsQ h l=false)→inOk h (l ++ [c])=true
  | [],h,c,_,hc=>by
    rw [List.nil_append,inOk_cons]
    by_cases e:c=63
    · rw [if_pos e];rfl
    · rw [if_neg e]
      by_cases e2:c=62
      · have:h=false:=hc e2
        rw [this];rfl
      · have:(c == 62)=false:=by simp [e2]
        rw [this];cases h <;> rfl
  | d :: l,h,c,e,hc=>by
    rw [List.cons_append,inOk_cons]
    rw [inOk_cons] at e
    have hc' : c=62→endsQ (d == 63) l=false:=hc
    by_cases ed:d=63
    · rw [if_pos ed] at e ⊢
      rw [ed] at hc'
      exact inOk_snoc l true c e hc'
    · rw [if_neg ed] at e ⊢
      rw [Bool.and_eq_true] at e ⊢
      have e3:(d == 63)=false:=by simp [ed]
      rw [e3] at hc'
      exact ⟨e.1,inOk_snoc l false c e.2 hc'⟩
def Im (v held:Bs) (pl:Int) (β:Prop):Prop := ∃ cs:List Int,v=cs.flatMap Mk.encode∧(∀ c ∈ cs,Mk.isChar c=true∧c ≠ 13)∧inOk false cs=true∧(held=[]→pl=0→endsQ false cs=false)∧(∀ c r,cs=c :: r→Mk.isSpace c=false)∧(cs=[]→held=[63]∨0<pl∨β)
theorem Im.snoc {v held:Bs} {pl:Int} {β:Prop} (h:Im v held pl β) {c:Int} (hc:Mk.isChar c=true) (h13:c ≠ 13) (h62:c=62→held=[]∧pl=0) (hsp:v=[]→Mk.isSpace c=false) (held' : Bs) (pl' : Int) (hq:held' = []→pl' = 0→c ≠ 63) (β' : Prop):Im (v ++ Mk.encode c) held' pl' β' := by
  obtain ⟨cs,rfl,h1,h2,h3,h4,h5⟩:=h
  refine ⟨cs ++ [c],by simp [List.flatMap_append],fun x hx => ?_,inOk_snoc cs false c h2 (fun e=>h3 (h62 e).1 (h62 e).2),fun e1 e2 => ?_,fun d r e => ?_,fun e => ?_⟩
  · rcases List.mem_append.1 hx with hx | hx
    · exact h1 x hx
    · rw [List.mem_singleton.1 hx];exact ⟨hc,h13⟩
  · rw [endsQ_snoc]
    have:=hq e1 e2
    simp [this]
  · cases cs with
    | nil=>cases e;exact hsp rfl
    | cons y z=>cases e;exact h4 _ _ rfl
  · exact absurd e (by simp)
structure Y (s:St):Prop where
  tx:Enc s.text
  txo:s.text ≠ []→s.opn ≠ []
  k7:s.state=7→Cm s.token s.pl
  k8:s.state=8→s.token=[]∨Nmd s.token
  n9:(s.state=9∨s.state=10∨s.state=11)→Nmd s.name∧Mk.isXML s.name=false
  k11:s.state=11→Im s.token s.held s.pl False
  k12:s.state=12→Nmd s.token
  n13:13≤s.state→s.state≤19→Nmd s.name
  k14:s.state=14→Nmd s.token
  n15:(s.state=15∨s.state=16∨s.state=17)→Nmd s.attr
  k17:s.state=17→Enc s.token
  ats:∀ y ∈ s.attrs,Nmd y.name∧Enc y.val∧y.space=[]
theorem Y.low {s:St} (hst:s.state≤6∨20≤s.state) (tx:Enc s.text) (txo:s.text ≠ []→s.opn ≠ []) (ha:s.attrs=[]):Y s:=
  ⟨tx,txo,by omega,by omega,by omega,by omega,by omega,by omega,by omega,by omega,by omega,fun y hy=>by rw [ha] at hy;cases hy⟩
theorem Y.tag {s:St} (tx:Enc s.text) (txo:s.text ≠ []→s.opn ≠ []) (hst:13≤s.state∧s.state≤19) (n13:Nmd s.name) (k14:s.state=14→Nmd s.token) (n15:(s.state=15∨s.state=16∨s.state=17)→Nmd s.attr) (k17:s.state=17→Enc s.token) (ats:∀ y ∈ s.attrs,Nmd y.name∧Enc y.val∧y.space=[]):Y s:=
  ⟨tx,txo,by omega,by omega,by omega,by omega,by omega,fun _ _=>n13,k14,n15,k17,ats⟩
theorem putAll_in:∀ (l:Bs) (s:St),Mk.inText s=true→(∀ x ∈ l,x.toNat<128)→Mk.putAll s l={ s with text:=s.text ++ l }
  | [],s,_,_=>by show s=_;rw [List.append_nil]
  | y :: r,s,h,hl=>by
    have hy:=hl y List.mem_cons_self
    show Mk.putAll (Mk.put s (y.toNat:Int)) r=_
    rw [put_in h,enc_ascii (by omega),u8_back,putAll_in r _ (by exact h) (fun x hx=>hl x (List.mem_cons_of_mem _ hx))]
    simp
theorem putAll_out:∀ (l:Bs) (s:St),Mk.inText s=false→(∀ x ∈ l,x.toNat<128)→Mk.putAll s l={ s with token:=s.token ++ l,count:=s.count + l.length }
  | [],s,_,_=>by show s=_;simp
  | y :: r,s,h,hl=>by
    have hy:=hl y List.mem_cons_self
    show Mk.putAll (Mk.put s (y.toNat:Int)) r=_
    rw [put_out h,enc_ascii (by omega),u8_back,putAll_out r _ (by exact h) (fun x hx=>hl x (List.mem_cons_of_mem _ hx))]
    simp
    omega
theorem rc_form {s:St} {b:Int} (he:(Mk.readCharacter s b).2=0):∃ p,Mk.begin_ b=some p∧(Mk.readCharacter s b).1=Mk.goOn { Mk.putAll s s.held with held:=[] } p:=by
  unfold Mk.readCharacter at he ⊢
  split at he
  · simp at he
  · rename_i p hp
    dsimp only
    split at he
    · rename_i hf;rw [if_pos hf];exact ⟨p,hp,rfl⟩
    · simp at he
theorem begin_p {b:Int} {p:Int × Int} (h:Mk.begin_ b=some p):(p.2=0∧p.1=b∧Mk.isChar b=true)∨0<p.2:=by
  unfold Mk.begin_ at h
  split at h
  · rename_i g;cases h;exact .inl ⟨rfl,rfl,g.2⟩
  · split at h
    · cases h;exact .inr (show (0:Int)<1 by decide)
    · split at h
      · cases h;exact .inr (show (0:Int)<2 by decide)
      · split at h
        · cases h;exact .inr (show (0:Int)<3 by decide)
        · cases h
theorem next_p {c l b:Int} {p:Int × Int} (hw:PtW c l) (h:Mk.nextPart c l b=some p):(p.2=0∧Mk.isChar p.1=true∧128≤p.1)∨0<p.2:=by
  unfold Mk.nextPart at h
  split at h
  · cases h
  · rename_i g
    split at h
    · rename_i hc
      cases h
      rcases hw with ⟨rfl,h1,h2⟩ | ⟨rfl,h1,h2⟩ | ⟨rfl,h1,h2⟩
      · left
        refine ⟨rfl,?_,by show 128≤c * 64 + b - 128;omega⟩
        unfold Mk.canEnd at hc
        simpa using hc
      · exact .inr (show (0:Int)<2 - 1 by decide)
      · exact .inr (show (0:Int)<3 - 1 by decide)
    · cases h
theorem goOn_p (s:St) (p:Int × Int):(p.2=0→Mk.goOn s p=Mk.put { s with pc:=p.1,pl:=0 } p.1)∧(0<p.2→Mk.goOn s p={ s with pc:=p.1,pl:=p.2 }):=by
  unfold Mk.goOn
  constructor
  · intro e;rw [e];rfl
  · intro e
    have:(p.2 == 0)=false:=by simp;omega
    rw [this];rfl
theorem y_goOn_in {s:St} (hst:s.state=1∨s.state=2) (tx:Enc s.text) (txo:s.opn ≠ []) (ha:s.attrs=[]) (p:Int × Int) (hp:(p.2=0∧Mk.isChar p.1=true)∨0<p.2):Y (Mk.goOn s p):=by
  rcases hp with ⟨e,hc⟩ | e
  · rw [(goOn_p s p).1 e,put_in (by unfold Mk.inText;rcases hst with e | e <;> simp [e])]
    exact .low (.inl (by show s.state≤6;omega)) (tx.snoc hc) (fun _=>txo) ha
  · rw [(goOn_p s p).2 e]
    exact .low (.inl (by show s.state≤6;omega)) tx (fun _=>txo) ha
theorem enc_bytes {v:Bs} (h:Enc v):∀ (l:Bs),(∀ x ∈ l,Mk.isChar (x.toNat:Int)=true∧x.toNat<128)→Enc (v ++ l)
  | [],_=>by rw [List.append_nil];exact h
  | x :: r,hl=>by
    have hx:=hl x List.mem_cons_self
    have h1:=h.snoc hx.1
    rw [enc_ascii (by omega),u8_back] at h1
    have:=enc_bytes h1 r (fun y hy=>hl y (List.mem_cons_of_mem _ hy))
    simpa using this
theorem y_char_in {s:St} (hw:Wq s) (h:Y s) (hst:s.state=1∨s.state=2) (b:Int) (he:(Mk.readCharacter s b).2=0):Y (Mk.readCharacter s b).1:=by
  obtain ⟨p,hp,e⟩:=rc_form he
  have hin:Mk.inText s=true:=by unfold Mk.inText;rcases hst with e | e <;> simp [e]
  rw [e,putAll_in _ _ hin (held_chars hw.toW)]
  have hb:=begin_p hp
  have hs:∀ x ∈ s.held,Mk.isChar (x.toNat:Int)=true∧x.toNat<128:=by
    rcases hw.hs with e | ⟨_,e | e⟩ | ⟨_,e | e⟩ | ⟨_,e⟩ <;> rw [e] <;> decide
  refine y_goOn_in (s:={ s with text:=s.text ++ s.held,held:=[] }) hst (enc_bytes h.tx _ hs) (hw.o1 (by omega)) (hw.at0 (by omega)) p ?_
  rcases hb with ⟨e1,e2,e3⟩ | e1
  · exact .inl ⟨e1,by rw [e2];exact e3⟩
  · exact .inr e1
theorem y_7 {s:St} (hst:s.state=7) (tx:Enc s.text) (txo:s.text ≠ []→s.opn ≠ []) (ha:s.attrs=[]) (h:Cm s.token s.pl):Y s:=
  ⟨tx,txo,fun _=>h,by omega,by omega,by omega,by omega,by omega,by omega,by omega,by omega,fun y hy=>by rw [ha] at hy;cases hy⟩
theorem out7 {s:St} (hst:s.state=7∨s.state=11∨s.state=17):Mk.inText s=false:=by unfold Mk.inText;rcases hst with e | e | e <;> simp [e]
theorem y_char_7 {s:St} (hw:Wq s) (h:Y s) (hst:s.state=7) (b:Int) (h45:b ≠ 45) (h13:b ≠ 13) (hh:s.held ≠ [45,45]) (he:(Mk.readCharacter s b).2=0):Y (Mk.readCharacter s b).1:=by
  obtain ⟨p,hp,e⟩:=rc_form he
  have ha:=hw.at0 (by omega)
  rw [e,putAll_out _ _ (out7 (.inl hst)) (held_chars hw.toW)]
  have h7:=h.k7 hst
  rw [hw.q] at h7
  have hc:∀ pl:Int,pl ≠ 0→Cm (s.token ++ s.held) pl:=by
    intro pl hpl
    rcases hw.hs with e | ⟨_,e | e⟩ | ⟨e0,e | e⟩ | ⟨e0,e⟩
    · rw [e,List.append_nil];exact h7.pend
    · rw [e];exact h7.dash hpl
    · exact absurd e hh
    · omega
    · omega
    · omega
  rcases begin_p hp with ⟨e1,e2,e3⟩ | e1
  · rw [(goOn_p _ p).1 e1,put_out (by exact out7 (.inl hst)),e2]
    exact y_7 hst h.tx h.txo ha ((hc 1 (by decide)).snoc e3 h13 h45 0)
  · rw [(goOn_p _ p).2 e1]
    exact y_7 hst h.tx h.txo ha (hc p.2 (by omega))
theorem y_11 {s:St} (hst:s.state=11) (tx:Enc s.text) (txo:s.text ≠ []→s.opn ≠ []) (ha:s.attrs=[]) (hn:Nmd s.name∧Mk.isXML s.name=false) (h:Im s.token s.held s.pl False):Y s:=
  ⟨tx,txo,by omega,by omega,fun _=>hn,fun _=>h,by omega,by omega,by omega,by omega,by omega,fun y hy=>by rw [ha] at hy;cases hy⟩
theorem im_nil {v held:Bs} {pl:Int} {β:Prop} (h:Im v held pl β) (e:v=[]) (hh:held=[]) (hp:pl=0):β:=by
  obtain ⟨cs,rfl,_,_,_,_,h5⟩:=h
  have:cs=[]:=by
    cases cs with
    | nil=>rfl
    | cons c r =>
      exfalso
      have e:Mk.encode c ++ r.flatMap Mk.encode=[]:=e
      have e:=(List.append_eq_nil_iff.1 e).1
      have:(Mk.encode c).length=0:=by rw [e];rfl
      unfold Mk.encode Mk.encodeI at this
      rw [List.length_map] at this
      split at this
      · cases this
      · split at this
        · cases this
        · split at this <;> cases this
  rcases h5 this with g | g | g
  · rw [hh] at g;cases g
  · omega
  · exact g
theorem y_char_11 {s:St} (hw:Wq s) (tx:Enc s.text) (txo:s.text ≠ []→s.opn ≠ []) (hn:Nmd s.name∧Mk.isXML s.name=false) (hst:s.state=11) (b:Int) (hi:Im s.token s.held s.pl (Mk.isSpace b=false)) (h63:b ≠ 63) (h13:b ≠ 13) (h62:¬ (b=62∧s.held=[63])) (he:(Mk.readCharacter s b).2=0):Y (Mk.readCharacter s b).1:=by
  obtain ⟨p,hp,e⟩:=rc_form he
  have ha:=hw.at0 (by omega)
  have hq:=hw.q
  rw [e,putAll_out _ _ (out7 (.inr (.inl hst))) (held_chars hw.toW)]
  have hs:s.held=[]∨s.held=[63]:=by
    rcases hw.hs with e | ⟨e0,e | e⟩ | ⟨e0,e | e⟩ | ⟨e0,e⟩
    · exact .inl e
    · omega
    · omega
    · omega
    · omega
    · exact .inr e
  rcases hs with e0 | e0
  · rw [e0,List.append_nil]
    rcases begin_p hp with ⟨e1,e2,e3⟩ | e1
    · rw [(goOn_p _ p).1 e1,put_out (by exact out7 (.inr (.inl hst))),e2]
      refine y_11 hst tx txo ha hn (hi.snoc e3 h13 (fun _=>⟨e0,hq⟩) (fun e=>im_nil hi e e0 hq) [] 0 (fun _ _=>h63) False)
    · rw [(goOn_p _ p).2 e1]
      refine y_11 hst tx txo ha hn ?_
      obtain ⟨cs,g1,g2,g3,g4,g5,g6⟩:=hi
      exact ⟨cs,g1,g2,g3,fun _ k=>by have k:p.2=0:=k;omega,g5,fun _ => .inr (.inl e1)⟩
  · rw [e0]
    have k1:Im (s.token ++ Mk.encode 63) [] p.2 False∨p.2=0:=by
      by_cases e1:p.2=0
      · exact .inr e1
      · exact .inl (hi.snoc (c:=63) rfl (by decide) (fun k=>by cases k) (fun _=>rfl) [] p.2 (fun _ k=>absurd k e1) False)
    rcases begin_p hp with ⟨e1,e2,e3⟩ | e1
    · rw [(goOn_p _ p).1 e1,put_out (by exact out7 (.inr (.inl hst))),e2]
      have k2:Im (s.token ++ Mk.encode 63) [63] 0 False:=hi.snoc (c:=63) rfl (by decide) (fun k=>by cases k) (fun _=>rfl) [63] 0 (fun k=>by cases k) False
      have k3:b ≠ 62:=fun k=>h62 ⟨k,e0⟩
      refine y_11 hst tx txo ha hn ?_
      refine k2.snoc e3 h13 (fun k=>absurd k k3) (fun k => ?_) [] 0 (fun _ _=>h63) False
      exact absurd (List.append_eq_nil_iff.1 k).2 (by decide)
    · rw [(goOn_p _ p).2 e1]
      rcases k1 with k1 | k1
      · exact y_11 hst tx txo ha hn k1
      · omega
theorem Y.val {s:St} (h:Y s) (hst:s.state=17) (v:Bs) (hv:Enc v) (n pc pl:Int) (hd:Bs):Y { s with token:=v,count:=n,pc:=pc,pl:=pl,held:=hd }:=
  .tag h.tx h.txo (by show 13≤s.state∧s.state≤19;omega) (h.n13 (by omega) (by omega)) (fun k=>by have k:s.state=14:=k;omega) (fun _=>h.n15 (by omega)) (fun _=>hv) h.ats
theorem y_char_17 {s:St} (hw:Wq s) (h:Y s) (hst:s.state=17) (b:Int) (he:(Mk.readCharacter s b).2=0):Y (Mk.readCharacter s b).1:=by
  obtain ⟨p,hp,e⟩:=rc_form he
  have hh:s.held=[]:=hw.hs.none (by omega) (by omega) (by omega)
  rw [e,putAll_out _ _ (out7 (.inr (.inr hst))) (held_chars hw.toW),hh,List.append_nil]
  rcases begin_p hp with ⟨e1,e2,e3⟩ | e1
  · rw [(goOn_p _ p).1 e1,put_out (by exact out7 (.inr (.inr hst))),e2]
    exact h.val hst _ ((h.k17 hst).snoc e3) _ _ _ _
  · rw [(goOn_p _ p).2 e1]
    exact h.val hst _ (h.k17 hst) _ _ _ _
theorem y_readPart {s:St} (hw:W s) (h:Y s) (hl:0<s.pl) (b:Int) (he:(Mk.readPart s b).2=0):Y (Mk.readPart s b).1:=by
  obtain ⟨g1,g2,g3,g4⟩:=hw.pl hl
  unfold Mk.readPart at he ⊢
  split at he
  · simp at he
  · rename_i p hp
    dsimp only
    have hn:=next_p g3 hp
    by_cases h12:s.state=1∨s.state=2
    · exact y_goOn_in h12 h.tx (hw.o1 (by omega)) (hw.at0 (by omega)) p (by rcases hn with k | k;exact .inl ⟨k.1,k.2.1⟩;exact .inr k)
    · have hst:s.state=7∨s.state=11∨s.state=17:=by omega
      rcases hn with ⟨e1,e2,e3⟩ | e1
      · rw [(goOn_p _ p).1 e1,put_out (by exact out7 hst)]
        rcases hst with e | e | e
        · exact y_7 e h.tx h.txo (hw.at0 (by omega)) ((h.k7 e).snoc e2 (by omega) (by omega) 0)
        · refine y_11 e h.tx h.txo (hw.at0 (by omega)) (h.n9 (by omega)) ?_
          refine (h.k11 e).snoc e2 (by omega) (fun k=>by omega) (fun _ => ?_) s.held 0 (fun _ _=>by omega) False
          unfold Mk.isSpace
          simp
          omega
        · exact h.val e _ ((h.k17 e).snoc e2) _ _ _ _
      · rw [(goOn_p _ p).2 e1]
        rcases hst with e | e | e
        · refine y_7 e h.tx h.txo (hw.at0 (by omega)) ?_
          obtain ⟨cs,k1,k2,k3,k4⟩:=h.k7 e
          exact ⟨cs,k1,k2,fun k=>by have k:p.2=0:=k;omega,k4⟩
        · refine y_11 e h.tx h.txo (hw.at0 (by omega)) (h.n9 (by omega)) ?_
          obtain ⟨cs,k1,k2,k3,k4,k5,k6⟩:=h.k11 e
          exact ⟨cs,k1,k2,k3,fun _ k=>by have k:p.2=0:=k;omega,k5,fun _ => .inr (.inl e1)⟩
        · exact h.val e _ (h.k17 e) _ _ _ _
theorem refNext_isChar {p:Int} {n:Bs} {c b:Int} {r:Mk.Rf} (h:Mk.refNext ⟨p,n,c⟩ b=some r) (ho:Mk.isOpen r.place=false):Mk.isChar r.code=true:=by
  have hl:∀ (l:List (Bs × Int)) (m:Bs),(∀ q ∈ l,Mk.isChar q.2=true)→∀ r,Mk.letterIn m l=some r→Mk.isOpen r.place=false→Mk.isChar r.code=true:=by
    intro l m
    induction l with
    | nil=>intro _ r h;cases h
    | cons q t ih =>
      intro hq r h ho
      obtain ⟨q1,q2⟩:=q
      unfold Mk.letterIn at h
      split at h
      · cases h;exact hq (q1,q2) List.mem_cons_self
      · split at h
        · cases h;exact absurd (show Mk.isOpen 2=false from ho) (by decide)
        · exact ih (fun q hq' => hq q (List.mem_cons_of_mem _ hq')) r h ho
  have hlet:∀ r,Mk.letter n b=some r→Mk.isOpen r.place=false→Mk.isChar r.code=true:=fun r h ho=>hl _ _ (by decide) r h ho
  have hdig:∀ base pl,(pl=5∨pl=6)→∀ r,Mk.refDigit c b base pl=some r→Mk.isOpen r.place=false→Mk.isChar r.code=true:=by
    intro base pl hpl r h ho
    unfold Mk.refDigit at h
    split at h
    · cases h
    · split at h
      · cases h
      · cases h
        exfalso
        have ho:Mk.isOpen pl=false:=ho
        rcases hpl with rfl | rfl <;> exact absurd ho (by decide)
  have hend:∀ base pl,(pl=5∨pl=6)→∀ r,Mk.digitOrEnd c b base pl=some r→Mk.isOpen r.place=false→Mk.isChar r.code=true:=by
    intro base pl hpl r h ho
    unfold Mk.digitOrEnd at h
    split at h
    · split at h
      · rename_i hc;cases h;exact hc
      · cases h
    · exact hdig base pl hpl r h ho
  unfold Mk.refNext at h
  dsimp only at h
  split at h
  · split at h
    · cases h;exact absurd (show Mk.isOpen 3=false from ho) (by decide)
    · exact hlet r h ho
  · split at h
    · exact hlet r h ho
    · split at h
      · split at h
        · cases h;exact absurd (show Mk.isOpen 4=false from ho) (by decide)
        · exact hdig 10 5 (.inl rfl) r h ho
      · split at h
        · exact hend 10 5 (.inl rfl) r h ho
        · split at h
          · exact hdig 16 6 (.inr rfl) r h ho
          · split at h
            · exact hend 16 6 (.inr rfl) r h ho
            · cases h
theorem y_readReference {s:St} (hw:W s) (h:Y s) (ho:Mk.isOpen s.rp=true) (b:Int) (he:(Mk.readReference s b).2=0):Y (Mk.readReference s b).1:=by
  obtain ⟨g1,g2⟩:=hw.rf ho
  unfold Mk.readReference at he ⊢
  split at he
  · simp at he
  · rename_i r hr
    split
    · exact { h with }
    · rename_i hop
      have hop:Mk.isOpen r.place=false:=by simpa using hop
      have hc:=refNext_isChar hr hop
      rcases g1 with e | e
      · dsimp only
        rw [put_in (by unfold Mk.inText Mk.setRef;simp [e])]
        exact .low (.inl (by show s.state≤6;omega)) (h.tx.snoc hc) (fun _=>hw.o1 (by omega)) (hw.at0 (by omega))
      · dsimp only
        rw [put_out (by unfold Mk.inText Mk.setRef;simp [e])]
        exact .tag h.tx h.txo (by show 13≤s.state∧s.state≤19;omega) (h.n13 (by omega) (by omega)) (fun k=>by have k:s.state=14:=k;omega) (fun _=>h.n15 (by omega)) (fun _=>(h.k17 e).snoc hc) h.ats
end Go.Proofs.YtmgfijllcdadgabGreatDoor
